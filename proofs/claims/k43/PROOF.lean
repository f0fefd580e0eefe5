import PyProof.Rows.All
import Wide.All
import OpenK.AllK
import Wide.FinOn
import Lean
import PyProof.EqAt
import PyProof.EqKinds
import PyProof.TupleCall
import KE.KDictLaws
import KE.KDictList
import KE.KDictSum
import KE.KIsAll
import KE.KSortTup
import KE.KUnpack
import KE.KUnpackStar
import PyProof.AttrMissSeq
import PyProof.CallStr
import PyProof.Conv_int_bool
import PyProof.DictItems
import PyProof.DictIter
import PyProof.DictList
import PyProof.EnumFor
import PyProof.EnumMake
import PyProof.EnumStmt
import PyProof.ExcArgsOwn
import PyProof.ExcAttrAll.ValueError
import PyProof.ExcBaseAll.ValueError
import PyProof.NeKinds
import PyProof.NsDelKeeps
import PyProof.Rows.CatchOwn
import PyProof.Rows.CountFlat
import PyProof.Rows.EnumRows
import PyProof.Rows.FStr
import PyProof.Rows.SeqMore
import PyProof.Rows.SortRev
import PyProof.Rows.StrSplitJoin
import PyProof.Rows.StrWeight2
import PyProof.Rows.TupDisplay
import PyProof.RulesTry
import PyProof.SetNew
import PyProof.SetRoads
import PyProof.StationsW
import PyProof.StrOps
import PyProof.TupleKey
import PyProof.WalkInts
import PyProof.ZipIter
import PySem.Challenge.RW_threewebs_k43_whole_all_doubles
abbrev BJ:=@PySem.wpAny_bind
abbrev BK:=@PySem.wpAny_pure
abbrev BL:=@if_neg
abbrev BP:=@if_pos
abbrev BR:=@decide_eq_false
abbrev BW:=@decide_eq_true
abbrev BX:=@of_decide_eq_true
abbrev BZ:=@congrArg
abbrev CG:=@PySem.wpAny_setState_of
abbrev CJ:=@decide_eq_true_iff
abbrev CK:=@PySem.wpAny_holding
abbrev CN:=@Ne.symm
abbrev CP:=@PySem.Heap.SameBut.update
abbrev CQ:=@PySem.W.mg_none_of
abbrev CT:=@if_false
abbrev CV:=@PySem.wpAny_mono
abbrev CW:=@PySem.mem_of_lookup
abbrev CZ:=@PySem.wpAny_call_entry
abbrev DG:=@PySem.wpAny_newObj_type
abbrev DK:=@if_true
abbrev DN:=@Classical.byContradiction
abbrev DP:=@PySem.Around.under_plainId
abbrev DQ:=@PySem.boot_len
abbrev DR:=@decide_eq_true_eq
abbrev DW:=@PySem.codeAny_builtin
abbrev DX:=@PySem.wpAny_loadPart'
abbrev DY:=@PySem.W.kia_one
abbrev EY:=@PySem.F.plainAttrs_list
abbrev FJ:=@PySem.sizeLine_eq
abbrev FN:=@PyProof.Rows.wpS_bind
abbrev FP:=@PyProof.Rows.boot_sorted
abbrev FQ:=@PySem.wpAny_setField
abbrev FT:=@bne_self_eq_false
abbrev FW:=@PySem.wpAny_typeNameOfWhole_itemiter
abbrev FZ:=@PySem.wpAny_truthy_bool
abbrev GJ:=@PySem.wpAny_storeSet_of
abbrev GK:=@PySem.plainId_quiet
abbrev GQ:=@PySem.F.slot_dict_itemiterator_next
abbrev GX:=@PySem.wpAny_rule
abbrev GZ:=@PyProof.Rows.F.plain_set_update_loop
abbrev HD:=@PySem.wpAny_passesOwn
abbrev HJ:=@Prod.ext
abbrev HN:=@or_false
abbrev HS:=@PySem.wpAny_typeNameOf_itemiter
abbrev HW:=@PySem.wpAny_comprehension_free
abbrev HX:=@decide_eq_false_iff_not
abbrev HY:=@PySem.wpAny_callSpecial?_slot
abbrev IK:=@PySem.wpAny_standAt
abbrev IV:=@PySem.wpAny_setField_rec
abbrev IW:=@of_decide_eq_false
abbrev JB:=@PySem.W.cellsFrom_some
abbrev JC:=@PySem.Calls.callWith_builtin
abbrev JD:=@PySem.wpAny_of_eq
abbrev JF:=@PyProof.Rows.wpS_pure
abbrev JG:=@PySem.codeAny_mono
abbrev JH:=@PyProof.Rows.boot_isinstance
abbrev JK:=@PyProof.Rows.callWith_type1
abbrev JL:=@PySem.call_meets
abbrev JM:=@PySem.wpAny_askSetting
abbrev JN:=@PySem.wpAny_isInstance
abbrev JQ:=@PySem.wpAny_newList
abbrev JR:=@PySem.wpAny_setEntries_of
abbrev JT:=@PySem.codeAny_of_tree
abbrev JV:=@PySem.W.KasT.kasWp_bind
abbrev JW:=@PySem.wpAny_Call_Name_kw
abbrev JX:=@PySem.wpAny_typeOf
abbrev JZ:=@PyProof.Rows.F.entry_set_update_loop
abbrev KC:=@beq_iff_eq
abbrev KD:=@PySem.wpAny_setEpoch_of
abbrev KH:=@PySem.wpAny_pyIter_slot
abbrev KJ:=@PySem.wpAny_isOneOf_itemiter
abbrev KN:=@List.eraseIdx_append_of_lt_length
abbrev KQ:=@PyProof.Rows.boot_list
abbrev KR:=@PySem.wpAny_attempt
abbrev KY:=@PyProof.Rows.listUpdate_at
abbrev KZ:=@beq_self_eq_true
abbrev LC:=@Nat.testBit_eq_decide_div_mod_eq
abbrev LK:=@List.Perm.append_left
abbrev LQ:=@PySem.builtinLookup_eq_fast
abbrev LR:=@PyProof.Rows.boot_set
abbrev MF:=@PyProof.Rows.boot_max
abbrev MJ:=@Classical.choose_spec
abbrev MK:=@List.eraseIdxIfInBounds_toArray
abbrev MN:=@PySem.F.args_dict_itemiterator_next_1
abbrev MP:=@PySem.PassesOwn.never
abbrev NK:=@PySem.strKind_is
abbrev NQ:=@PyProof.Rows.listItems_at
abbrev NZ:=@PyProof.Rows.wpS_forRange
abbrev OD:=@PySem.F.entry_dict_itemiterator_next
abbrev OJ:=@PySem.F.slot_dict_itemiterator_iter
abbrev PB:=@PySem.entryFor_alias
abbrev PJ:=@PySem.wpAny_fieldsOf
abbrev PK:=@PySem.wpAny_newTuple
abbrev PL:=@PyProof.Rows.seqEpoch_at
abbrev PN:=@PySem.tupleKind_room_in1
abbrev PX:=@List.lookup_append
abbrev QB:=@PySem.MeetsSeq2.wpAny_forIn_array
abbrev QC:=@Int.fdiv_eq_ediv_of_nonneg
abbrev QD:=@PySem.wpAny_pyIter_list
abbrev QF:=@List.Pairwise.map
abbrev QG:=@PySem.wpAny_dictEntries
abbrev QJ:=@PySem.F.slot_set_contains
abbrev QK:=@Nat.succ_le_succ
abbrev QL:=@Array.getElem?_replicate
abbrev QM:=@List.nodup_range
abbrev QS:=@List.ext_getElem
abbrev QT:=@List.length_erase_of_mem
abbrev QV:=@Nat.min_eq_right
abbrev QW:=@PySem.F.slot_list_insert
abbrev QX:=@PySem.F.type_list_insert
abbrev QZ:=@List.Perm.eq_of_pairwise
abbrev RB:=@Nat.testBit_zero
abbrev RD:=@Nat.testBit_succ
abbrev RG:=@List.eraseIdx_cons_succ
abbrev RJ:=@PySem.wpAny_execs_nil
abbrev RK:=@List.of_mem_zip
abbrev RL:=@PySem.wpAny_specialOf
abbrev RM:=@List.forIn_cons
abbrev RN:=@PySem.typeLookup_type
abbrev RP:=@Nat.min_eq_left
abbrev RQ:=@PySem.wpAny_dictEpoch
abbrev RT:=@Int.natCast_pow
abbrev RV:=@List.getElem?_set_self
abbrev RW:=@PySem.wpAny_alloc
abbrev RX:=@PySem.wpAny_field
abbrev RZ:=@List.Perm.append_right
abbrev SJ:=@Nat.testBit_lt_two_pow
abbrev SM:=@Bool.and_false
abbrev SN:=@Bool.not_false
abbrev SQ:=@List.getElem?_toArray
abbrev TF:=@PyProof.Rows.boot_int
abbrev TJ:=@PySem.F.plain_set_new
abbrev TQ:=@PySem.W.mg_of
abbrev TV:=@List.map_drop
abbrev TX:=@Nat.add_zero
abbrev TY:=@Nat.sub_zero
abbrev UG:=@Nat.le_total
abbrev UJ:=@Nat.sub_self
theorem Z0:0<=PySem.sizeLine:=by decide
theorem Z2:2<=PySem.sizeLine:=by decide
theorem Z1:1<=PySem.sizeLine:=by decide
set_option Elab.async false
set_option linter.all false
set_option maxRecDepth 100000
set_option maxHeartbeats 4000000
abbrev Aa:=@List.getElem?_eq_getElem
abbrev Ab:=@List.length_map
abbrev Ac:=@List.getElem?_eq_some_iff
abbrev Ad:=@List.mem_cons_self
abbrev Ae:=@List.mem_cons_of_mem
abbrev Af:=@PySem.Heap.get?_push_of_some
abbrev Ag:=@List.length_append
abbrev Ah:=@List.mem_singleton
abbrev Ai:=@List.getElem?_map
abbrev Aj:=@List.mem_map
abbrev Ak:=@List.mem_cons
abbrev Al:=@List.map_append
abbrev Am:=@Nat.le_refl
abbrev An:=@List.mem_append
abbrev Ao:=@List.mem_append_right
abbrev Ap:=@List.mem_of_getElem?
abbrev Aq:=@List.getElem?_append_left
abbrev Ar:=@List.append_assoc
abbrev As:=@PySem.Heap.get?_push_size
abbrev At:=@Bool.false_ne_true
abbrev Au:=@List.length_cons
abbrev Av:=@PySem.Heap.lt_size
abbrev Aw:=@List.size_toArray
abbrev Ax:=@List.mem_append_left
abbrev Ay:=@List.getElem?_append_right
abbrev Az:=@Bool.false_eq_true
abbrev Ba:=@Option.map_eq_some_iff
abbrev Bb:=@List.getElem?_eq_none
abbrev Bc:=@Nat.lt_of_lt_of_le
abbrev Bd:=@Int.toNat_natCast
abbrev Be:=@List.pairwise_iff_getElem
abbrev Bf:=@List.mem_filter
abbrev Bg:=@List.nodup_cons
abbrev Bh:=@List.nodup_iff_pairwise_ne
abbrev Bi:=@List.length_eq_zero_iff
abbrev Bj:=@List.map_cons
abbrev Bk:=@Nat.ne_of_lt
abbrev Bm:=@List.mem_range
abbrev Bn:=@List.getElem_mem
abbrev Bo:=@List.getElem?_of_mem
abbrev Bp:=@Nat.lt_succ_of_lt
abbrev Bq:=@Nat.zero_le
abbrev Br:=@List.length_take
abbrev Bs:=@Array.length_toList
abbrev Bt:=@Int.emod_nonneg
abbrev Bu:=@List.map_congr_left
abbrev Bv:=@List.nodup_append
abbrev Bw:=@List.forall_mem_cons
abbrev Bx:=@Nat.mod_eq_of_lt
abbrev By:=@Bool.and_eq_true
abbrev Bz:=@List.append_nil
abbrev Ca:=@Array.getElem?_toList
abbrev Cb:=@List.contains_iff_mem
abbrev Cc:=@Int.emod_lt_of_pos
abbrev Cd:=@List.flatMap_cons
abbrev Ce:=@Nat.le_trans
abbrev Cf:=@List.perm_append_comm
abbrev Cg:=@List.flatten_cons
abbrev Ch:=@Nat.le_of_lt
abbrev Ci:=@List.take_of_length_le
abbrev Cj:=@List.nodup_nil
abbrev Ck:=@List.map_map
abbrev Cm:=@List.not_mem_nil
abbrev Cn:=@List.length_pos_iff
abbrev Co:=@List.length_drop
abbrev Cp:=@List.length_eraseIdx
abbrev Cq:=@List.mem_iff_getElem
abbrev Cr:=@Nat.ne_of_gt
abbrev Cs:=@List.pairwise_cons
abbrev Ct:=@PySem.Heap.size_push
abbrev Cu:=@List.count_cons
abbrev Cv:=@List.filter_cons
abbrev Cw:=@Bool.eq_iff_iff
abbrev Cy:=@List.foldl_cons
abbrev Cz:=@List.range_succ
abbrev Da:=@PySem.Heap.get?_update_other
abbrev Db:=@Nat.lt_or_ge
abbrev Dc:=@List.take_length
abbrev Dd:=@Array.getElem?_eq_getElem
abbrev De:=@List.take_append_drop
abbrev Dg:=@Int.zero_add
abbrev Dh:=@List.filter_append
abbrev Di:=@List.lookup_cons
abbrev Dj:=@List.getElem_map
abbrev Dk:=@Array.getD_eq_getD_getElem?
abbrev Dl:=@Nat.lt_irrefl
abbrev Dm:=@List.perm_ext_iff_of_nodup
abbrev Do:=@List.take_add_one
abbrev Dp:=@List.ext_getElem?
abbrev Dq:=@List.getElem?_range
abbrev Dr:=@List.length_singleton
abbrev Ds:=@List.count_pos_iff
abbrev Du:=@List.mem_flatten
abbrev Dv:=@List.getElem?_take_of_lt
abbrev Dw:=@Bool.not_true
abbrev Dy:=@Nat.pow_le_pow_right
abbrev Dz:=@Bool.eq_false_iff
abbrev Eb:=@List.filterMap_cons
abbrev Ec:=@Nat.zero_add
abbrev Ed:=@Array.getElem?_eq_none
abbrev Ee:=@Nat.mod_self
abbrev Ef:=@List.drop_of_length_le
abbrev Eh:=@List.all_eq_true
abbrev Ej:=@PySem.Heap.get?_update_self
abbrev Ek:=@List.exists_mem_of_ne_nil
abbrev El:=@List.drop_eq_getElem_cons
abbrev Em:=@Nat.not_lt_zero
abbrev Ep:=@Nat.le_succ
abbrev Er:=@Nat.le_of_succ_le
abbrev Es:=@List.count_append
abbrev Eu:=@Option.isSome_iff_exists
abbrev Ex:=@Nat.lt_succ_iff_lt_or_eq
abbrev Ey:=@List.mem_of_mem_eraseIdx
abbrev Ez:=@List.flatMap_append
abbrev Fa:=@List.getElem?_replicate
abbrev Fb:=@List.mem_singleton_self
abbrev Fc:=@Int.natCast_nonneg
abbrev Fd:=@List.getElem_range
abbrev Fe:=@List.append_of_mem
abbrev Ff:=@List.filter_eq_nil_iff
abbrev Fg:=@List.find?_cons
abbrev Fh:=@List.length_nil
abbrev Fi:=@List.length_replicate
abbrev Fj:=@List.length_range
abbrev Fk:=@List.pairwise_map
abbrev Fm:=@List.mem_zipIdx_iff_le_and_getElem?_sub
abbrev Fn:=@Nat.one_pos
abbrev Fo:=@List.getElem?_modify
abbrev Fp:=@List.cons_append
abbrev Fq:=@Nat.lt_succ_self
abbrev Fr:=@List.mem_flatMap
abbrev Ft:=@List.flatten_append
abbrev Fu:=@List.any_cons
abbrev Fv:=@List.sum_cons
abbrev Fw:=@List.mem_filterMap
abbrev Fx:=@List.find?_eq_none
abbrev Fy:=@Nat.lt_of_le_of_lt
abbrev Fz:=@List.getElem?_drop
abbrev Ga:=@Nat.lt_of_le_of_ne
abbrev Gb:=@List.getElem?_cons_succ
abbrev Gc:=@List.pairwise_singleton
abbrev Gd:=@Nat.succ_pos
abbrev Ge:=@Nat.pow_succ
abbrev Gf:=@Nat.lt_of_succ_lt_succ
abbrev Gg:=@Nat.le_succ_of_le
abbrev Gh:=@List.getElem?_eraseIdx
abbrev Gi:=@Nat.lt_trichotomy
abbrev Gj:=@Bool.false_xor
abbrev Gk:=@List.lt_irrefl
abbrev Gm:=@Bool.xor_false
abbrev Gn:=@Nat.zero_lt_of_lt
abbrev Go:=@List.length_filter_le
abbrev Gp:=@List.getElem_inj
abbrev Gq:=@List.isEmpty_nil
abbrev Gr:=@List.lt_trans
abbrev Gs:=@List.mem_erase_of_ne
abbrev Gu:=@List.pairwise_append
abbrev Gv:=@List.le_iff_lt_or_eq
abbrev Gw:=@Option.map_some
abbrev Gx:=@List.find?_some
abbrev Gy:=@List.nil_append
abbrev Gz:=@Nat.mod_lt
abbrev Ha:=@List.all_cons
abbrev Hb:=@Bool.true_and
namespace L2
open PySem PySem.Spec PyProof.Rows
abbrev Key:=Sum Int Str
def oe:Key->Value->Bool
 | .inl k,v=>Value.isInt k v
 | .inr x,v=>Value.isStrOf x v
def wa(w:World):Key->Int
 | .inl k=>hashInt k
 | .inr x=>hashStr w x
theorem jx:∀{k:Key} {v:Value},oe k v=true->(∃ i t,k=Sum.inl i/\v=Value.int i t)\/(∃ x t,k=Sum.inr x/\v=Value.str x t)
 | .inl i,v,h=>by
  obtain⟨t,e⟩:=Value.isInt_shape (k:=i) (v:=v) h;exact .inl ⟨i,t,rfl,e⟩
 | .inr x,v,h=>by
  obtain⟨t,e⟩:=Value.isStrOf_shape (x:=x) (v:=v) h;exact .inr ⟨x,t,rfl,e⟩
theorem Ov(i:Int)(t:Tok):oe (.inl i) (.int i t)=true:=by simp [oe,Value.isInt]
theorem Ow(x:Str)(t:Tok):oe (.inr x) (.str x t)=true:=by simp [oe,Value.isStrOf]
theorem Ox(a b:Int):decide ((Sum.inl a:Key)=Sum.inl b)=(a == b):=by
 by_cases e:a=b
 ·subst e;simp
 ·have h:¬(Sum.inl a:Key)=Sum.inl b:=λq=>e<|Sum.inl.inj q;rw [BR h];exact(beq_eq_false_iff_ne.mpr e).symm
theorem Oy(a b:Str):decide ((Sum.inr a:Key)=Sum.inr b)=decide (a=b):=by
 by_cases e:a=b
 ·subst e;simp
 ·have h:¬(Sum.inr a:Key)=Sum.inr b:=λq=>e<|Sum.inr.inj q;rw [BR h,BR e]
theorem Oz(a:Int)(b:Str):decide ((Sum.inl a:Key)=Sum.inr b)=false:=BR λq=>nomatch q
theorem OA(a:Str)(b:Int):decide ((Sum.inr a:Key)=Sum.inl b)=false:=BR λq=>nomatch q
def c7(prog:Program)(w:World):PySem.KeyKind prog w Key where
 is:=oe
 hash:=wa w
 inj:=λv a b ha hb=>by
  rcases jx ha with ⟨i,t,rfl,rfl⟩ | ⟨x,t,rfl,rfl⟩
  ·rcases jx hb with ⟨j,u,rfl,e⟩ | ⟨y,u,rfl,e⟩
   ·injection e with e1 _;rw [e1]
   ·exact nomatch e
  ·rcases jx hb with ⟨j,u,rfl,e⟩ | ⟨y,u,rfl,e⟩
   ·exact nomatch e
   ·injection e with e1 _;rw [e1]
 byValue:=λk v h=>by
  rcases jx h with ⟨i,t,rfl,rfl⟩ | ⟨x,t,rfl,rfl⟩ <;> rfl
 pyHash:=λhv h=>by
  rcases jx hv with ⟨i,t,rfl,rfl⟩ | ⟨x,t,rfl,rfl⟩
  ·exact wpAny_pyHash_int h
  ·exact wpAny_pyHash_str h
 eqBool:=λhu hv h=>by
  rcases jx hu with ⟨i,t,rfl,rfl⟩ | ⟨x,t,rfl,rfl⟩
  ·rcases jx hv with ⟨j,u,rfl,rfl⟩ | ⟨y,u,rfl,rfl⟩
   ·rw [Ox] at h;exact wpAny_eqBool_int h
   ·rw [Oz] at h;exact SeqAt.EqAt.int_str i t y u _ _ _ _ h
  ·rcases jx hv with ⟨j,u,rfl,rfl⟩ | ⟨y,u,rfl,rfl⟩
   ·rw [OA] at h;exact SeqAt.EqAt.str_int x t j u _ _ _ _ h
   ·rw [Oy] at h;exact wpAny_eqBool_str h
 «strs»:=λk x t v h=>by
  rcases jx h with ⟨i,u,rfl,e⟩ | ⟨y,u,rfl,e⟩
  ·exact nomatch e
  ·injection e with e1 _
   subst e1;cases v <;> rfl
theorem OB(prog:Program)(w:World)(i:Int)(t:Tok):(c7 prog w).is (.inl i) (.int i t)=true:=Ov i t
theorem OC(prog:Program)(w:World)(x:Str)(t:Tok):(c7 prog w).is (.inr x) (.str x t)=true:=Ow x t
inductive V where
 | non | bl (b:Bool) | int (i:Int) | str (x:Str) | iF (b:Array UInt8) | og (b:UInt64) | ref (a:Addr) | ty (n:String)
 deriving DecidableEq
def RelV:V->Value->Prop
 | .non,u=>u=Value.none
 | .bl b,u=>u=Value.bool b
 | .int i,u=>∃ t,u=Value.int i t
 | .str x,u=>∃ t,u=Value.str x t
 | .iF b,u=>∃ t,u=Value.bytes b t
 | .og b,u=>∃ t,u=Value.float b t
 | .ref a,u=>u=Value.ref a
 | .ty n,u=>u=Value.type n
abbrev av:List V->List Value->Prop:=Paired RelV
theorem av.length{xs:List V}{us:List Value}(r:av xs us):xs.length=us.length:=Paired.length r
theorem av.get:∀{xs:List V} {us:List Value} {i:Nat} {x:V},av xs us->xs[i]?=some x->∃ u,us[i]?=some u/\RelV x u
 | _,_,_,_,.nil,e=>by simp at e
 | _,_,0,_,.cons r _,e=>by simp at e;subst e;exact⟨_,rfl,r⟩
 | _,_,i+1,x,.cons _ t,e=>by
  obtain⟨u,h1,h2⟩:=av.get (i:=i) (x:=x) t (by simpa using e);exact⟨u,by simpa using h1,h2⟩
theorem av.set{x:V}{u:Value}(r:RelV x u):∀{xs:List V} {us:List Value} (i:Nat),av xs us->av (xs.set i x) (us.set i u)
 | _,_,_,.nil=> .nil
 | _,_,0,.cons _ t=> .cons r t
 | _,_,i+1,.cons q t=> .cons q<|av.set r i t
theorem av.append:∀{xs ys:List V} {us ws:List Value},av xs us->av ys ws->av (xs++ys) (us++ws)
 | _,_,_,_,.nil,s=>s
 | _,_,_,_,.cons r t,s=> .cons r<|av.append t s
theorem av.take:∀{xs:List V} {us:List Value} (n:Nat),av xs us->av (xs.take n) (us.take n)
 | _,_,0,_=> .nil
 | _,_,_+1,.nil=> .nil
 | _,_,n+1,.cons r t=> .cons r<|av.take n t
theorem av.drop:∀{xs:List V} {us:List Value} (n:Nat),av xs us->av (xs.drop n) (us.drop n)
 | _,_,0,r=>r
 | _,_,_+1,.nil=> .nil
 | _,_,n+1,.cons _ t=>av.drop n t
def dc:Option V->Option Value->Prop
 | some v,some u=>RelV v u
 | none,none=>True
 | _,_=>False
def KV{κ:Type}:List (κ×V)->List (κ×Value)->Prop:=Paired λ(p:κ×V) (q:κ×Value)=>p.1=q.1/\RelV p.2 q.2
def kV:Key->V
 | .inl i=> .int i
 | .inr x=> .str x
inductive HO where
 | lst (xs:List V)
 | tup (xs:List V)
 | dK (kvs:List<|Key×V) | dT (kvs:List<|List Key×V)
 | set (S:Int->Bool) (n:Nat)
 | ins (C dx:Addr) (fs:List<|Str×V)
 | own (x:Addr)
 | xd (fs:List<|Str×V)
 | met (f x:Addr)
 | iG (lo hi:Int)
 | bD (o:Obj) (u:HO)
 | lY (ps:Array Value)
 | ext (φ:Heap->Prop)
abbrev Hp:=Addr->Option HO
def upd(H:Hp)(a:Addr)(o:HO):Hp:=λb=>if b=a then some o else H b
theorem aD{H:Hp}{a:Addr}{o:HO}:upd H a o a=some o:=by unfold upd;rw [BP rfl]
theorem ay{H:Hp}{a b:Addr}{o:HO}(h:b≠a):upd H a o b=H b:=by unfold upd;rw [BL h]
theorem FC{H:Hp}{a:Addr}{o u:HO}:upd (upd H a o) a u=upd H a u:=by
 funext b;unfold upd;split <;> rfl
theorem b9{H:Hp}{a b:Addr}{o u:HO}(h:H a=some o)(h':H b=some u)(d:o≠u):a≠b:=by
 intro e;subst e;rw [h] at h';exact d<|Option.some.inj h'
theorem bt{H:Hp}{a b:Addr}{o:HO}(h:H a=some o)(h':H b=none):a≠b:=by
 intro e;subst e;rw [h] at h';cases h'
section
variable(P:Program)(w:World)
def az(H:Hp)(h:Heap)(a:Addr):HO->Prop
 | .lst xs=>xs.length<=sizeLine/\∃(its:List Value) (n:Nat),av xs its/\h.get? a=some {cls:= .type "list",data:= .seq its.toArray n}
 | .tup xs=>xs.length<=sizeLine/\∃ its:List Value,av xs its/\IsTup h a its.toArray
 | .dK kvs=>kvs.length<=sizeLine/\(a == sysModules)=false/\∃ vs,KV kvs vs/\h.DictOf (c7 P w) a vs
 | .dT kvs=>kvs.length<=sizeLine/\(a == sysModules)=false/\∃ xs:List<|List Key×Addr×Value,
   Paired (λ(p:List Key×V) (q:List Key×Addr×Value)=>p.1=q.1/\H q.2.1=some (.tup<|p.1.map kV)/\RelV p.2 q.2.2) kvs xs /\
   ∃ o es ep,h.get? a=some o/\o.ExactDict/\o.data = .dict es ep/\es.toList=xs.map (entryOfKey<|tupleKind<|c7 P w)/\(xs.map (·.1)).Nodup
 | .set S n=>h.SetOf (intKind P w) a S n
 | .ins C dx fs=>H dx=some (.own a)/\fs.length<=1000/\dx≠a/\h.get? a=some (PySem.W.instObj C dx) /\
   ∃ mA,h.Ns1 dx mA/\(∀ f,dc (fs.lookup f)<|mA f)/\PySem.Within mA (fs.map (·.1))
 | .own _=>∃ o,h.get? a=some o
 | .xd fs=>∃ mA,h.Ns1 a mA/\∀ f,dc (fs.lookup f)<|mA f
 | .iG lo hi=>∃ t u v,h.get? a=some {cls:= .type "range",data:= .fields #[.int lo t,.int hi u,.int 1 v]}
 | .bD o u=>h.get? a=some o/\az H h a u
 | .lY ps=>h.get? a=some {cls:= .none,data:= .fields ps}
 | .met f x=>h.get? a=some (PySem.W.methodObj (.ref f)<|.ref x)
 | .ext φ=>φ h/\(∃ o,h.get? a=some o)/\∀ h1 h2:Heap,φ h1->(∀ o,h1.get? a=some o->h2.get? a=some o)->φ h2
def b4(H:Hp)(h:Heap):Prop:=∀ a o,H a=some o->az P w H h a o
end
section
variable{P:Program}{w:World}{H H':Hp}{h h':Heap}{a:Addr}{o:HO}
theorem az.lt(x:az P w H h a o):a < h.objs.size:=by
 cases o with
 | lst xs=>obtain⟨_,_,_,_,e⟩:=x;exact Av e
 | tup xs=>obtain⟨_,_,_,p⟩:=x;exact p.lt
 | dK kvs=>obtain⟨_,_,_,_,o,_,_,e,_⟩:=x;exact Av e
 | dT kvs=>obtain⟨_,_,_,_,o,_,_,e,_⟩:=x;exact Av e
 | set S n=>obtain⟨o,_,_,_,e,_⟩:=x;exact Av e
 | ins C dx fs=>obtain⟨_,_,_,e,_⟩:=x;exact Av e
 | own y=>obtain⟨_,e⟩:=x;exact Av e
 | xd fs=>obtain⟨_,⟨_,_,_,e,_⟩,_⟩:=x;exact Av e
 | iG lo hi=>obtain⟨_,_,_,e⟩:=x;exact Av e
 | bD ob u=>obtain⟨e,_⟩:=x;exact Av e
 | lY ps=>exact Av (show h.get? a=some _ from x)
 | met f y=>exact Av (show h.get? a=some _ from x)
 | ext φ=>obtain⟨_,⟨_,e⟩,_⟩:=x;exact Av e
theorem Paired.lZ{α β:Type}{F G:α->β->Prop}:∀{l₁:List α} {l₂:List β},Paired F l₁ l₂->(∀ a b,F a b->G a b)->Paired G l₁ l₂
 | _,_,.nil,_=> .nil
 | _,_,.cons r t,f=> .cons (f _ _ r)<|Paired.lZ t f
theorem az.gK(x:az P w H h a o)(k:∀ b u,(b=a\/H b=some (.own a))->h.get? b=some u->h'.get? b=some u)
  (ho:∀ b,H b=some (.own a)->H' b=some (.own a)) (ht:∀ b xs,H b=some (.tup xs)->H' b=some (.tup xs)):az P w H' h' a o:=by
 induction o with
 | lst xs=>obtain⟨z,its,n,r,e⟩:=x;exact⟨z,its,n,r,k _ _ (.inl rfl) e⟩
 | tup xs=>obtain⟨z,its,r,ob,e,c⟩:=x;exact⟨z,its,r,ob,k _ _ (.inl rfl) e,c⟩
 | dK kvs=>obtain⟨z,y,vs,r,ob,es,ep,e,c⟩:=x;exact⟨z,y,vs,r,ob,es,ep,k _ _ (.inl rfl) e,c⟩
 | dT kvs=>
  obtain⟨z,y,xs,r,ob,es,ep,e,c⟩:=x;exact⟨z,y,xs,Paired.lZ r λp q z=>⟨z.1,ht _ _ z.2.1,z.2.2⟩,ob,es,ep,k _ _ (.inl rfl) e,c⟩
 | set S n=>obtain⟨ob,es,ep,t,e,c⟩:=x;exact⟨ob,es,ep,t,k _ _ (.inl rfl) e,c⟩
 | ins C dx fs=>
  obtain⟨d,z,ne,e,mA,⟨od,es,ep,e2,c⟩,r⟩:=x;exact⟨ho _ d,z,ne,k _ _ (.inl rfl) e,mA,⟨od,es,ep,k _ _ (.inr d) e2,c⟩,r⟩
 | own y=>obtain⟨ob,e⟩:=x;exact⟨ob,k _ _ (.inl rfl) e⟩
 | xd fs=>obtain⟨mA,⟨od,es,ep,e,c⟩,r⟩:=x;exact⟨mA,⟨od,es,ep,k _ _ (.inl rfl) e,c⟩,r⟩
 | iG lo hi=>obtain⟨t,u,v,e⟩:=x;exact⟨t,u,v,k _ _ (.inl rfl) e⟩
 | bD ob u ih=>obtain⟨e,q⟩:=x;exact⟨k _ _ (.inl rfl) e,ih q⟩
 | lY ps=>
  have e:h.get? a=some {cls:= .none,data:= .fields ps}:=x;show h'.get? a=some {cls:= .none,data:= .fields ps};exact k a _ (.inl rfl) e
 | met f y=>
  have e:h.get? a=some (PySem.W.methodObj (.ref f)<|.ref y):=x;show h'.get? a=some (PySem.W.methodObj (.ref f)<|.ref y);exact k a _ (.inl rfl) e
 | ext φ=>obtain⟨p,⟨o,e⟩,st⟩:=x;exact⟨st _ _ p λo q=>k _ _ (.inl rfl) q,⟨o,k _ _ (.inl rfl) e⟩,st⟩
theorem b4.lt(x:b4 P w H h)(e:H a=some o):a < h.objs.size:=(x a o e).lt
theorem b4.fresh(x:b4 P w H h)(e:h.objs.size<=a):H a=none:=by
 cases q:H a with
 | none=>rfl
 | some u=>exact absurd (Bc (x.lt q) e)<|Dl _
theorem b4.kept(x:b4 P w H h)(k:∀ b u,h.get? b=some u->h'.get? b=some u):b4 P w H h':=λa o e=>
 (x a o e).gK (λb u _ q=>k b u q) (λ_ q=>q) λ_ _ q=>q
theorem b4.laid(x:b4 P w H h)(k:∀ b u,h.get? b=some u->h'.get? b=some u)(hp:h.objs.size<=a)(new:az P w (upd H a o) h' a o):b4 P w (upd H a o) h':=λb u e=>by
 have hn:=x.fresh hp
 by_cases hb:b=a
 ·subst hb;rw [aD] at e;cases e;exact new
 ·rw [ay hb] at e;exact(x b u e).gK (λc v _ q=>k c v q) (λc q=>by rw [ay<|bt q hn];exact q) λc xs q=>by rw [ay<|bt q hn];exact q
end
def Rd(H:Hp)(a:Addr)(u:HO):Prop:=H a=some u\/∃ o,H a=some (.bD o u)
theorem Rd.ok{P:Program}{w:World}{H:Hp}{h:Heap}{a:Addr}{u:HO}(r:Rd H a u)(x:b4 P w H h):az P w H h a u:=by
 rcases r with r | ⟨o,r⟩
 ·exact x a u r
 ·obtain⟨_,q⟩:=x a _ r;exact q
def pI:Option HO->Prop
 | some (.lst _)=>True
 | some (.dK _)=>True
 | some (.dT _)=>True
 | some (.set _ _)=>True
 | some (.ins _ _ _)=>True
 | some (.ext _)=>True
 | _=>False
section
variable{P:Program}{w:World}{H:Hp}{h h':Heap}{x e:Addr}{o':HO}
theorem b4.write(ok:b4 P w H h)(mu:pI<|H x)(he:e=x\/H e=some (.own x))(k:∀ b u,b≠e->h.get? b=some u->h'.get? b=some u)(oh:∃ u,h'.get? e=some u)
  (new:az P w (upd H x o') h' x o'):b4 P w (upd H x o') h':=λb u q=>by
 have pJ:∀ c y,H c=some (.own y)->c≠x:=λc y r z=>by subst z;rw [r] at mu;exact mu
 have wc:∀ c xs,H c=some (.tup xs)->c≠x:=λc xs r z=>by subst z;rw [r] at mu;exact mu
 by_cases hb:b=x
 ·subst hb;rw [aD] at q;cases q;exact new
 ·rw [ay hb] at q
  by_cases jQ:b=e
  ·have q':H b=some (.own x):=by
    rcases he with z | z
    ·exact absurd (jQ.trans z) hb
    ·rw [jQ];exact z
   rw [q] at q';cases q';obtain⟨v,hv⟩:=oh;exact⟨v,by rw [jQ];exact hv⟩
  ·refine(ok b u q).gK (λc v hc r=>k c v ?_ r) (λc r=>by rw [ay<|pJ c b r];exact r) λc xs r=>by rw [ay<|wc c xs r];exact r
   rcases hc with rfl | hc
   ·exact jQ
   ·rintro rfl
    rcases he with z | z
    ·exact pJ c b hc z
    ·rw [hc] at z;cases z;exact hb rfl
end
structure Un(fs ex:List Addr)(H H':Hp)(h h':Heap):Prop where
 keep:∀ b o,h.get? b=some o->H b=none->b∉fs->b∉ex->h'.get? b=some o
 slot:∀ b o,h.get? b=some o->H b=none->b∈fs->b∉ex->∃ sl,h'.get? b=some {o with slots:=sl}
 free:∀ b o,h.get? b=some o->H b=none->b∉ex->H' b=none
 there:∀ b o,h.get? b=some o->b∉ex->∃ o',h'.get? b=some o'
 eY:∀ b xs,H b=some (.tup xs)->H' b=some (.tup xs)
 d3:∀ b o u,H b=some (.bD o u)->H' b=some (.bD o u)
 eZ:∀ b ps,H b=some (.lY ps)->∃ more,H' b=some (.lY<|ps++more)
section
variable{fs OG ex FD:List Addr}{H H1 H2:Hp}{h h1 h2 h':Heap}{a x e:Addr}{o:HO}
theorem Un.any(u:Un fs ex H H1 h h1){b:Addr}{ob:Obj}(q:h.get? b=some ob)(n:H b=none)(hx:b∉ex):∃ sl,h1.get? b=some {ob with slots:=sl}:=by
 by_cases hb:b∈fs
 ·exact u.slot b ob q n hb hx
 ·exact⟨ob.slots,u.keep b ob q n hb hx⟩
theorem Un.kept(k:∀ b u,h.get? b=some u->h'.get? b=some u):Un fs ex H H h h':=
 ⟨λb ob q _ _ _=>k b ob q,λb ob q _ _ _=>⟨ob.slots,k b ob q⟩,λ_ _ _ n _=>n,λb ob q _=>⟨ob,k b ob q⟩,λ_ _ q=>q,λ_ _ _ q=>q,λ_ ps q=>⟨#[],by rw [q];simp⟩⟩
theorem Un.refl:Un fs ex H H h h:=Un.kept λ_ _ q=>q
theorem Un.laid(k:∀ b u,h.get? b=some u->h'.get? b=some u)(hp:h.objs.size<=a)(hn:H a=none):Un fs ex H (upd H a o) h h' where
 keep:=λb u q _ _ _=>k b u q
 slot:=λb u q _ _ _=>⟨u.slots,k b u q⟩
 free:=λb u q n _=>by rw [ay<|Bk<|Bc (Av q) hp];exact n
 there:=λb u q _=>⟨u,k b u q⟩
 eY:=λb xs q=>by rw [ay<|bt q hn];exact q
 d3:=λb u xs q=>by rw [ay<|bt q hn];exact q
 eZ:=λb ps q=>⟨#[],by rw [ay<|bt q hn,q];simp⟩
theorem Un.write(mu:pI<|H x)(he:e=x\/H e=some (.own x))(k:∀ b u,b≠e->h.get? b=some u->h'.get? b=some u)(oh:∃ u,h'.get? e=some u):Un fs ex H (upd H x o) h h':=by
 have hx:∀ b,H b=none->b≠x:=λb n z=>by subst z;rw [n] at mu;exact mu
 have hb:∀ b,H b=none->b≠e:=λb n z=>by
  subst z
  rcases he with r | r
  ·exact hx b n r
  ·rw [n] at r;cases r
 have hm:∀ b u,H b=some u->¬ pI (some u)->b≠x:=λb u q nm z=>by subst z;rw [q] at mu;exact nm mu
 refine⟨λb u q n _ _=>k b u (hb b n) q,λb u q n _ _=>⟨u.slots,k b u (hb b n) q⟩,λb u q n _=>by rw [ay<|hx b n];exact n,λb u q _=>?_,
  λb xs q=>by rw [ay<|hm b _ q λz=>z];exact q,λb u xs q=>by rw [ay<|hm b _ q λz=>z];exact q,λb ps q=>⟨#[],by rw [ay<|hm b _ q λz=>z,q];simp⟩⟩
 by_cases jQ:b=e
 ·subst jQ;exact oh
 ·exact⟨u,k b u jQ q⟩
end
def sR(h:Heap)(H:Hp):List Addr:=(List.range h.objs.size).filter λa=>(H a).isSome
def d6(h:Heap)(H:Hp):Heap:=PySem.W.hideAll h<|sR h H
theorem OH(h:Heap)(H:Hp):(d6 h H).objs.size=h.objs.size:=PySem.W.hideAll_size _ _
theorem OI{h:Heap}{H:Hp}{b:Addr}{o:Obj}(e:h.get? b=some o)(n:H b=none):(d6 h H).get? b=some o:=
 PySem.W.hideAll_get _ e λhm=>by
  have q:(H b).isSome=true:=(Bf.mp hm).2;rw [n] at q;simp at q
theorem OL{h:Heap}{H:Hp}{b:Addr}{o:Obj}(e:(d6 h H).get? b=some o):h.get? b=some o/\H b=none:=by
 have e':h.get? b=some o:=PySem.W.of_hideAll (sR h H) e;refine⟨e',?_⟩;cases q:H b with
 | none=>rfl
 | some x=>
  have hm:b∈sR h H:=Bf.mpr ⟨Bm.mpr<|Av e',by simp [q]⟩;have z:(d6 h H).get? b=none:=PySem.W.hideAll_none (sR h H) hm;rw [z] at e;cases e
structure Mod(K:PySem.W.Frag)(mg:Str->Option Value)(base:Heap):Prop where
 pK:K.In base
 glob:base.Ns mainGlobals mg
 blt:∃ mb,base.Ns builtinsNs mb/\∀ x:Str,x ≠ "__name__"->mb x=bootBuiltins x
 nolimit:base.NoLimit
structure Cx where
 prog:Program
 w:World
 K:PySem.W.Frag
 mg:Str->Option Value
 base:Heap
 A:Around
 N:List Str
 s₀:Shared
 H₀:Hp
 env:Env
 outer:List Env
 stack:List Env
 ex:List Addr
 fn:Str->Bool
 calm:Bool
 pn:List<|Addr×Obj
 xe:Value->Shared->Prop
def ib(l:List Env):List Addr:=l.filterMap (·.frame)
abbrev Cx.fs(X:Cx):List Addr:=ib X.outer
def we(sc:Scope)(x:Str):Prop:=sc.names.lookup x=some .local\/sc.names.lookup x=some .cell\/sc.names.lookup x=some .free
def Loc(sc:Scope)(x:Str):Prop:=sc.names.lookup x=some .local\/sc.names.lookup x=some .cell
def Look(env:Env)(h:Heap)(m:Str->Option Value)(x:Str)(u:Value):Prop:=
 (env.kindOf x=some .local/\m x=some u)\/((env.kindOf x=some .cell\/env.kindOf x=some .free)/\∃ c,env.cells.lookup x=some c/\h.IsCell c (some u))
structure Cx.Ok(X:Cx):Prop where
 mod:Mod X.K X.mg X.base
 kind:X.env.scope.kind = .function
 glob:X.env.globals=mainGlobals
 blt:X.env.builtins=builtinsNs
 above:X.s₀.heap.objs.size<=X.env.locals
 inj:∀ x y c,X.env.cells.lookup x=some c->X.env.cells.lookup y=some c->x=y
 has:∀ x,(X.env.kindOf x=some .cell\/X.env.kindOf x=some .free)->∃ c,X.env.cells.lookup x=some c
 pL:∀ x c,X.fn x=true->X.env.cells.lookup x=some c->X.s₀.heap.objs.size<=c
 hd:X.calm=true->X.A.handled=none
 frames:X.A.frames=some X.stack
 sS:X.stack=X.outer\/(X.stack=X.env :: X.outer/\X.env.frame=some X.env.locals)
 FE:∀ b∈X.ex,b≠X.env.locals/\∀ x c,X.env.cells.lookup x=some c->c≠b
 bs:∀ b o,X.base.get? b=some o->X.s₀.heap.get? b=some o/\X.H₀ b=none
 kR:X.base.objs.size<=X.s₀.heap.objs.size
 iH:∀ b o,X.base.get? b=some o->b∉X.ex
 jR:∀ b∈X.ex,b∉X.fs
 de:X.s₀.heap.FunFrames X.base X.outer
 oi:∀ b∈X.fs,X.H₀ b=none
structure Inv(X:Cx)(pins:List<|Addr×Obj)(σ:List<|Option V)(H:Hp)(s:Shared):Prop where
 ok:X.Ok
 os:s.os=X.s₀.os
 bare:AllBare s.gens
 base:Un X.fs X.ex X.H₀ H X.s₀.heap s.heap
 loc:∃ m,s.heap.Ns X.env.locals m/\∀(i:Nat) (x:Str) (v:V),X.N[i]?=some x->σ[i]?=some (some v)->we X.env.scope x->∃ u,RelV v u/\Look X.env s.heap m x u
 cell:∀ x c,X.env.cells.lookup x=some c->∃ v,s.heap.IsCell c v
 free:H X.env.locals=none
 bT:∀ x c,X.env.cells.lookup x=some c->H c=none
 pin:∀ p∈X.pn++pins,s.heap.get? p.1=some p.2/\H p.1=none/\p.1≠X.env.locals/\p.1∉X.fs/\∀ v,p.2.data ≠ .cell v
 aE:b4 X.prog X.w H s.heap
 len:σ.length=X.N.length
section
variable{X:Cx}{pins:List (Addr×Obj)}{σ:List (Option V)}{H H':Hp}{s:Shared}{h':Heap}
theorem Cx.Ok.wg(ok:X.Ok){b:Addr}{o:Obj}(e:X.base.get? b=some o):b∉X.fs:=λhb=>by
 have:=(ok.de.mem hb).1;rw [e] at this;cases this
theorem Inv.bs(I:Inv X pins σ H s):∀ b o,X.base.get? b=some o->s.heap.get? b=some o/\H b=none:=λb o e=>
 ⟨I.base.keep b o (I.ok.bs b o e).1 (I.ok.bs b o e).2 (I.ok.wg e)<|I.ok.iH b o e,I.base.free b o (I.ok.bs b o e).1 (I.ok.bs b o e).2<|I.ok.iH b o e⟩
theorem Inv.bk(I:Inv X pins σ H s):∀ b o,X.base.get? b=some o->s.heap.get? b=some o:=λb o e=>(I.bs b o e).1
theorem Inv.mod(I:Inv X pins σ H s):Mod X.K X.mg X.base:=I.ok.mod
theorem Inv.e9(I:Inv X pins σ H s):X.K.In s.heap:=I.ok.mod.pK.keeps I.bk
theorem Inv.lt(I:Inv X pins σ H s):X.env.locals < s.heap.objs.size:=let ⟨_,hn,_⟩:=I.loc;hn.lt
theorem Inv.sz(I:Inv X pins σ H s):X.s₀.heap.objs.size<=s.heap.objs.size:=Ce I.ok.above<|Ch I.lt
theorem Inv.wj(I:Inv X pins σ H s){a:Addr}(h:s.heap.objs.size<=a):a∉X.fs:=λhb=>by
 obtain⟨_,o,ho,_⟩:=I.ok.de.mem hb;exact absurd (Bc (Av ho)<|Ce I.sz h)<|Dl _
theorem Inv.jS(I:Inv X pins σ H s):∀ x c,X.env.cells.lookup x=some c->c≠X.env.locals:=λx c e z=>by
 obtain⟨v,o,ho,hd⟩:=I.cell x c e;obtain⟨m,⟨o',es,ep,c8,l7,_⟩,_⟩:=I.loc;rw [z,c8] at ho;cases ho;rw [l7] at hd;cases hd
theorem Inv.de(I:Inv X pins σ H s):s.heap.FunFrames X.base X.outer:=by
 have all:∀(l:List Env),(∀ b∈ib l,b∈X.fs)->X.s₀.heap.FunFrames X.base l->s.heap.FunFrames X.base l:=by
  intro l
  induction l with
  | nil=>intro _ _;trivial
  | cons env r ih=>
   intro hs hl;obtain⟨hk,⟨L,o,hf,hn,ho,hd⟩,hr⟩:=hl;have hL:L∈X.fs:=hs L (by unfold ib;rw [Eb,hf];exact Ad);obtain⟨sl,e⟩:=I.base.slot L o ho (I.ok.oi L hL) hL λz=>I.ok.jR L z hL;exact⟨hk,⟨L,_,hf,hn,e,hd⟩,ih (λb hb=>hs b<|by unfold ib;rw [Eb,hf];exact Ae _ hb) hr⟩
 exact all X.outer (λ_ hb=>hb) I.ok.de
theorem Inv.stack(I:Inv X pins σ H s):s.heap.FunFrames X.base X.stack:=by
 rcases I.ok.sS with e | ⟨e,hf⟩
 ·rw [e];exact I.de
 ·rw [e];obtain⟨m,hn,_⟩:=I.loc;refine .cons (by rw [I.ok.kind];decide) hf hn ?_ I.de;exact Heap.get?_none_of_le<|Ce I.ok.kR I.ok.above
theorem Inv.d7(I:Inv X pins σ H s):∀ b∈ib X.stack,b∈X.env.locals :: X.fs:=λb hb=>by
 rcases I.ok.sS with e | ⟨e,hf⟩
 ·rw [e] at hb;exact Ae _ hb
 ·rw [e] at hb;unfold ib at hb;rw [Eb,hf] at hb;exact hb
theorem Inv.gn(I:Inv X pins σ H s):∀ b∈ib X.stack,H b=none:=λb hb=>by
 rcases Ak.mp (I.d7 b hb) with e | hb
 ·rw [e];exact I.free
 ·obtain⟨_,o,ho,_⟩:=I.ok.de.mem hb;exact I.base.free b o ho (I.ok.oi b hb) λz=>I.ok.jR b z hb
theorem Inv.step{g':Array GenState}{t':Nat}{d':Drawn}{ch:List Addr}(I:Inv X pins σ H s)
  (jy:∀ b∈ch,(b∈X.ex\/X.s₀.heap.objs.size<=b)/\b≠X.env.locals/\(∀ x c,X.env.cells.lookup x=some c->c≠b)/\∀ p∈X.pn++pins,p.1≠b)
  (keep:∀ b o,b≠X.env.locals->b∉X.fs->b∉ch->s.heap.get? b=some o->H b=none->h'.get? b=some o)
  (slot:∀ b o,b≠X.env.locals->b∈X.fs->b∉ch->s.heap.get? b=some o->H b=none->∃ sl,h'.get? b=some {o with slots:=sl}) (free:∀ b o,b∉ch->s.heap.get? b=some o->H b=none->H' b=none)
  (there:∀ b o,b∉ch->s.heap.get? b=some o->∃ o',h'.get? b=some o')
  (eY:∀ b xs,H b=some (.tup xs)->H' b=some (.tup xs)) (d3:∀ b o u,H b=some (.bD o u)->H' b=some (.bD o u)) (eZ:∀ b ps,H b=some (.lY ps)->∃ more,H' b=some (.lY<|ps++more))
  (ns:∀ m,s.heap.Ns X.env.locals m->h'.Ns X.env.locals m) (aE:b4 X.prog X.w H' h') (hg:AllBare g') :
  Inv X pins σ H' {s with heap:=h',gens:=g',drawn:=d',toks:=t'}:=by
 have FG:∀ b o,X.s₀.heap.get? b=some o->b≠X.env.locals:=λb o e=>Bk<|Bc (Av e) I.ok.above;have sU:∀ b o,X.s₀.heap.get? b=some o->b∉X.ex->b∉ch:=λb o e hx hb=>by
  rcases (jy b hb).1 with z | z
  ·exact hx z
  ·exact absurd (Bc (Av e) z)<|Dl _
 have cellK:∀ x c,X.env.cells.lookup x=some c->∀ v,s.heap.IsCell c v->h'.IsCell c v:=λx c e v ⟨o,ho,hd⟩=>by
  have pM:c∉ch:=λz=>(jy c z).2.2.1 x c e rfl
  by_cases hc:c∈X.fs
  ·obtain⟨sl,q⟩:=slot c o (I.jS x c e) hc pM ho<|I.bT x c e;exact⟨_,q,hd⟩
  ·exact⟨o,keep c o (I.jS x c e) hc pM ho<|I.bT x c e,hd⟩
 refine⟨I.ok,I.os,hg,⟨λb o e n hb hx=>?_,λb o e n hb hx=>?_,λb o e n hx=>?_,λb o e hx=>?_,λb xs e=>eY b xs<|I.base.eY b xs e,λb o xs e=>d3 b o xs<|I.base.d3 b o xs e,λb ps e=>?_⟩,?_,λx c e=>?_,?_,λx c e=>?_,λp hp=>?_,aE,I.len⟩
 ·exact keep b o (FG b o e) hb (sU b o e hx) (I.base.keep b o e n hb hx)<|I.base.free b o e n hx
 ·obtain⟨sl,e1⟩:=I.base.slot b o e n hb hx;obtain⟨OM,e2⟩:=slot b _ (FG b o e) hb (sU b o e hx) e1<|I.base.free b o e n hx;exact⟨OM,e2⟩
 ·obtain⟨o',e1⟩:=I.base.there b o e hx;exact free b o' (sU b o e hx) e1<|I.base.free b o e n hx
 ·obtain⟨o',e1⟩:=I.base.there b o e hx;exact there b o' (sU b o e hx) e1
 ·obtain⟨m1,e1⟩:=I.base.eZ b ps e;obtain⟨m2,e2⟩:=eZ b _ e1;exact⟨m1++m2,by rw [e2,Array.append_assoc]⟩
 ·obtain⟨m,hn,hl⟩:=I.loc;refine⟨m,ns m hn,λi x v e1 e2 e3=>?_⟩;obtain⟨u,r,l⟩:=hl i x v e1 e2 e3;refine⟨u,r,?_⟩
  rcases l with l | ⟨k,c,e,z⟩
  ·exact .inl l
  ·exact .inr ⟨k,c,e,cellK x c e _ z⟩
 ·obtain⟨v,z⟩:=I.cell x c e;exact⟨v,cellK x c e v z⟩
 ·obtain⟨m,⟨o,_,_,ho,_⟩,_⟩:=I.loc;exact free _ o (λz=>(jy _ z).2.1 rfl) ho I.free
 ·obtain⟨v,o,ho,hd⟩:=I.cell x c e;exact free c o (λz=>(jy c z).2.2.1 x c e rfl) ho<|I.bT x c e
 ·obtain⟨e,n,ne,nf,d⟩:=I.pin p hp;have pM:p.1∉ch:=λz=>(jy p.1 z).2.2.2 p hp rfl;exact⟨keep p.1 p.2 ne nf pM e n,free p.1 p.2 pM e n,ne,nf,d⟩
theorem Inv.un{t':Nat}(I:Inv X pins σ H s)(u:Un X.fs [] H H' s.heap h')(aE:b4 X.prog X.w H' h'):Inv X pins σ H' {s with heap:=h',toks:=t'}:=by
 obtain⟨m,⟨o,es,ep,ho,r⟩,_⟩:=id I.loc;obtain⟨sl,hL⟩:=u.any ho I.free (by simp);exact I.step (g':=s.gens) (d':=s.drawn) (ch:=[]) (λ_ z=>nomatch z) (λb o _ hb _ e n=>u.keep b o e n hb<|by simp) (λb o _ hb _ e n=>u.slot b o e n hb<|by simp) (λb o _ e n=>u.free b o e n<|by simp) (λb o _ e=>u.there b o e<|by simp) u.eY u.d3 u.eZ (λm' hm=>by
  obtain⟨o',d8,kS,c8,r'⟩:=hm;rw [ho] at c8;cases c8;exact⟨_,d8,kS,hL,r'⟩) aE I.bare
theorem Inv.call{g':Array GenState}{t':Nat}{d':Drawn}{ch:List Addr}(I:Inv X pins σ H s)(u:Un (ib X.stack) ch H H' s.heap h')(aE:b4 X.prog X.w H' h')(hg:AllBare g')
  (jy:∀ b∈ch,(b∈X.ex\/X.s₀.heap.objs.size<=b)/\b≠X.env.locals/\(∀ x c,X.env.cells.lookup x=some c->c≠b)/\∀ p∈X.pn++pins,p.1≠b) :
  Inv X pins σ H' {s with heap:=h',gens:=g',drawn:=d',toks:=t'}:=by
 obtain⟨m,⟨o,es,ep,ho,r⟩,_⟩:=id I.loc;obtain⟨sl,hL⟩:=u.any ho I.free λz=>(jy _ z).2.1 rfl;exact I.step (ch:=ch) jy (λb o hL hb hc e n=>u.keep b o e n (λz=>(Ak.mp<|I.d7 b z).elim hL hb) hc) (λb o _ _ hc e n=>u.any e n hc) (λb o hc e n=>u.free b o e n hc) (λb o hc e=>u.there b o e hc) u.eY u.d3 u.eZ (λm' hm=>by
  obtain⟨o',d8,kS,c8,r'⟩:=hm;rw [ho] at c8;cases c8;exact⟨_,d8,kS,hL,r'⟩) aE hg
theorem Inv.turned{t':Nat}{it:Addr}(I:Inv X pins σ H s)(k:∀ b o,b≠it->s.heap.get? b=some o->h'.get? b=some o)(hn:H it=none)(hL:it≠X.env.locals)
  (h1:it∈X.ex\/X.s₀.heap.objs.size<=it) (h2:∀ x c,X.env.cells.lookup x=some c->c≠it) (h3:∀ p∈X.pn++pins,p.1≠it):Inv X pins σ H {s with heap:=h',toks:=t'}:=by
 have pN:∀ b u,H b=some u->b≠it:=λb u e z=>by rw [z,hn] at e;cases e
 refine I.step (g':=s.gens) (d':=s.drawn) (ch:=[it]) (λb hb=>?_) (λb o _ _ hc e _=>k b o (λz=>hc<|by simp [z]) e) (λb o _ _ hc e _=>⟨o.slots,k b o (λz=>hc<|by simp [z]) e⟩) (λ_ _ _ _ n=>n)
  (λb o hc e=>⟨o,k b o (λz=>hc<|by simp [z]) e⟩) (λ_ _ e=>e) (λ_ _ _ e=>e) (λb ps e=>⟨#[],by rw [e];simp⟩) (λm hm=>?_) (λb u e=>?_) I.bare
 ·have e:b=it:=by simpa using hb
  subst e;exact⟨h1,hL,h2,h3⟩
 ·obtain⟨o,es,ep,ho,r⟩:=hm;exact⟨o,es,ep,k _ o (CN hL) ho,r⟩
 ·refine(I.aE b u e).gK (λc v hc q=>k c v ?_ q) (λ_ q=>q) λ_ _ q=>q
  rcases hc with z | z
  ·rw [z];exact pN b u e
  ·exact pN c _ z
theorem Inv.tok(I:Inv X pins σ H s)(t:Nat):Inv X pins σ H {s with toks:=t}:=I.un (h':=s.heap) (t':=t) Un.refl I.aE
theorem Inv.kept{t':Nat}(I:Inv X pins σ H s)(k:∀ b u,s.heap.get? b=some u->h'.get? b=some u):Inv X pins σ H {s with heap:=h',toks:=t'}:=I.un (Un.kept k)<|I.aE.kept k
theorem Inv.laid{a:Addr}{o:HO}{t':Nat}(I:Inv X pins σ H s)(k:∀ b u,s.heap.get? b=some u->h'.get? b=some u)(hp:s.heap.objs.size<=a)(new:az X.prog X.w (upd H a o) h' a o) :
  Inv X pins σ (upd H a o) {s with heap:=h',toks:=t'}:=I.un (Un.laid k hp<|I.aE.fresh hp)<|I.aE.laid k hp new
theorem Inv.write{x e:Addr}{o:HO}{t':Nat}(I:Inv X pins σ H s)(mu:pI<|H x)(he:e=x\/H e=some (.own x))(k:∀ b u,b≠e->s.heap.get? b=some u->h'.get? b=some u)(oh:∃ u,h'.get? e=some u)
  (new:az X.prog X.w (upd H x o) h' x o):Inv X pins σ (upd H x o) {s with heap:=h',toks:=t'}:=I.un (Un.write mu he k oh)<|I.aE.write mu he k oh new
theorem Inv.gp{kT:List (Addr×Obj)}(I:Inv X pins σ H s)(h:∀ p∈kT,s.heap.get? p.1=some p.2/\H p.1=none/\p.1≠X.env.locals/\p.1∉X.fs/\∀ v,p.2.data ≠ .cell v):Inv X kT σ H s:=
 ⟨I.ok,I.os,I.bare,I.base,I.loc,I.cell,I.free,I.bT,λp hp=>(An.mp hp).elim (λz=>I.pin p<|Ax _ z)<|h p,I.aE,I.len⟩
theorem FH{N:List Str}(hN:N.Nodup){i j:Nat}{x:Str}(a:N[i]?=some x)(b:N[j]?=some x):i=j:=by
 obtain⟨h1,e1⟩:=Ac.mp a;obtain⟨h2,e2⟩:=Ac.mp b;exact(Gp hN).mp<|e1.trans e2.symm
theorem OO{M:Model}{A:Around}{E:Value->Shared->Prop}{i:Nat}{x:Str}{v:V}{u:Value}{Q:Unit->Shared->Prop}(I:Inv X pins σ H s)(hN:X.N.Nodup)(hi:X.N[i]?=some x)(hx:Loc X.env.scope x)(r:RelV v u)
  (h:∀ s',Inv X pins (σ.set i<|some v) H s'->(∃ a,Heap.SameBut a s.heap s'.heap/\(a=X.env.locals\/X.env.cells.lookup x=some a))->Q () s') (hf:X.fn x=true\/X.env.scope.names.lookup x=some .local:=by first | exact .inl rfl | exact .inr rfl | assumption):wpAny M A (storeName X.env x u) Q E s:=by
 obtain⟨m,hn,hl⟩:=id I.loc;have wm:(X.env.scope.kind == .class || (X.env.scope.kind == .module && X.env.locals != X.env.globals))=false:=by rw [I.ok.kind];rfl
 have hiσ:i < σ.length:=by rw [I.len];exact(Ac.mp hi).1
 have jS:=I.jS;have tracked:∀{a:Addr} {h':Heap},(∃ o,s.heap.get? a=some o/\H a=none)->Heap.SameBut a s.heap h'->b4 X.prog X.w H h':=λ{a h'} ha hs b ob e=>by
  obtain⟨_,_,kU⟩:=ha;refine(I.aE b ob e).gK (λc w' hc q=>(hs.2 c ?_).trans q) (λ_ q=>q) λ_ _ q=>q;rintro rfl
  rcases hc with rfl | hc
  ·rw [kU] at e;cases e
  ·rw [kU] at hc;cases hc
 rcases hx with hk | hk
 ·refine wpAny_storeName_local hk hn (λh' sV hs=>?_) wm;obtain⟨oL,_,_,iI,_⟩:=id hn;refine h _ ⟨I.ok,I.os,I.bare,⟨λb o e n hb hx=>?_,λb o e n hb hx=>?_,I.base.free,λb o e hx=>?_,I.base.eY,I.base.d3,I.base.eZ⟩,⟨_,sV,λj y v' e1 e2 e3=>?_⟩,λy c e=>?_,I.free,I.bT,λp hp=>?_,tracked ⟨oL,iI,I.free⟩ hs,by simpa using I.len⟩ ⟨_,hs,.inl rfl⟩
  ·exact(hs.2 b<|Bk<|Bc (Av e) I.ok.above).trans<|I.base.keep b o e n hb hx
  ·obtain⟨sl,e1⟩:=I.base.slot b o e n hb hx;exact⟨sl,(hs.2 b<|Bk<|Bc (Av e) I.ok.above).trans e1⟩
  ·obtain⟨o',e1⟩:=I.base.there b o e hx;exact⟨o',(hs.2 b<|Bk<|Bc (Av e) I.ok.above).trans e1⟩
  ·by_cases hj:j=i
   ·subst hj;rw [hi] at e1;cases e1;rw [RV hiσ] at e2;cases e2;exact⟨u,r,.inl ⟨hk,by simp⟩⟩
   ·rw [List.getElem?_set_ne<|CN hj] at e2;obtain⟨u',r',q⟩:=hl j y v' e1 e2 e3;refine⟨u',r',?_⟩
    rcases q with ⟨k,e⟩ | ⟨k,c,e,z⟩
    ·refine .inl ⟨k,?_⟩;have:y≠x:=λe=>hj<|FH hN e1<|e ▸ hi;simp [this,e]
    ·exact .inr ⟨k,c,e,z.sameBut hs<|jS y c e⟩
  ·obtain⟨w',z⟩:=I.cell y c e;exact⟨w',z.sameBut hs<|jS y c e⟩
  ·obtain⟨e,n,ne,nf,d⟩:=I.pin p hp;exact⟨(hs.2 p.1 ne).trans e,n,ne,nf,d⟩
 ·have wn:X.fn x=true:=by
   rcases hf with z | z
   ·exact z
   ·rw [z] at hk;cases hk
  obtain⟨c,hc⟩:=I.ok.has x<|.inl hk;obtain⟨w',z⟩:=I.cell x c hc;refine wpAny_storeName_cell I.ok.kind hk hc z λh' bI hs=>?_;obtain⟨oc,FI,wo⟩:=id z;refine h {s with heap:=h'} ⟨I.ok,I.os,I.bare,⟨λb o e n hb hx=>?_,λb o e n hb hx=>?_,I.base.free,λb o e hx=>?_,I.base.eY,I.base.d3,I.base.eZ⟩,⟨m,hn.sameBut hs<|CN<|jS x c hc,λj y v' e1 e2 e3=>?_⟩,λy c' e=>?_,I.free,I.bT,λp hp=>?_,tracked ⟨oc,FI,I.bT x c hc⟩ hs,by simpa using I.len⟩ ⟨c,hs,.inr hc⟩
  ·exact(hs.2 b<|Bk<|Bc (Av e)<|I.ok.pL x c wn hc).trans<|I.base.keep b o e n hb hx
  ·obtain⟨sl,e1⟩:=I.base.slot b o e n hb hx;exact⟨sl,(hs.2 b<|Bk<|Bc (Av e)<|I.ok.pL x c wn hc).trans e1⟩
  ·obtain⟨o',e1⟩:=I.base.there b o e hx;exact⟨o',(hs.2 b<|Bk<|Bc (Av e)<|I.ok.pL x c wn hc).trans e1⟩
  ·by_cases hj:j=i
   ·subst hj;rw [hi] at e1;cases e1;rw [RV hiσ] at e2;cases e2;exact⟨u,r,.inr ⟨.inl hk,c,hc,bI⟩⟩
   ·rw [List.getElem?_set_ne<|CN hj] at e2;obtain⟨u',r',q⟩:=hl j y v' e1 e2 e3;refine⟨u',r',?_⟩
    rcases q with q | ⟨k,c',e,z'⟩
    ·exact .inl q
    ·refine .inr ⟨k,c',e,z'.sameBut hs ?_⟩;rintro rfl;exact hj<|FH hN e1<|I.ok.inj _ _ _ e hc ▸ hi
  ·by_cases gq:c'=c
   ·subst gq;exact⟨_,bI⟩
   ·obtain⟨w2,z2⟩:=I.cell y c' e;exact⟨w2,z2.sameBut hs gq⟩
  ·obtain⟨e,n,ne,nf,d⟩:=I.pin p hp;refine⟨(hs.2 p.1 ?_).trans e,n,ne,nf,d⟩;intro q;rw [q,FI] at e;have q':oc=p.2:=Option.some.inj e;exact d w'<|by rw [<- q'];exact wo
theorem FK{M:Model}{A:Around}{E:Value->Shared->Prop}{i:Nat}{x:Str}{v:V}{u:Value}{Q:Unit->Shared->Prop}(I:Inv X pins σ H s)(hN:X.N.Nodup)(hi:X.N[i]?=some x)(hx:Loc X.env.scope x)(r:RelV v u)
  (h:∀ s',Inv X pins (σ.set i<|some v) H s'->Q () s') (hf:X.fn x=true\/X.env.scope.names.lookup x=some .local:=by first | exact .inl rfl | exact .inr rfl | assumption):wpAny M A (storeName X.env x u) Q E s:=
 OO I hN hi hx r (λs' I' _=>h s' I') hf
theorem Inv.call'{s':Shared}{ch:List Addr}(I:Inv X pins σ H s)(ho:s'.os=s.os)(u:Un (ib X.stack) ch H H' s.heap s'.heap)(aE:b4 X.prog X.w H' s'.heap)(hg:AllBare s'.gens)
  (jy:∀ b∈ch,(b∈X.ex\/X.s₀.heap.objs.size<=b)/\b≠X.env.locals/\(∀ x c,X.env.cells.lookup x=some c->c≠b)/\∀ p∈X.pn++pins,p.1≠b):Inv X pins σ H' s':=by
 obtain⟨h',g',d',t',o'⟩:=s';have e:o'=s.os:=ho;subst e;exact I.call (g':=g') (t':=t') (d':=d') u aE hg jy
end
abbrev XK:=Value->Option Addr->Hp->Prop
abbrev St:=List<|Option V
abbrev VK:=V->Hp->Prop
abbrev TE:=St->Hp->VK->Prop
abbrev TT:=St->Hp->(Bool->Hp->Prop)->Prop
abbrev TA:=St->Hp->(List V->Hp->Prop)->Prop
structure Ends where
 nx:St->Hp->Prop
 rt:VK
 bk:St->Hp->Prop:=λ_ _=>False
 ct:St->Hp->Prop:=λ_ _=>False
abbrev TS:=Ends->St->Hp->Prop
def EP(X:Cx)(pins:List<|Addr×Obj)(σ:St)(Q:VK)(u:Value)(s':Shared):Prop:=∃ v H',Inv X pins σ H' s'/\RelV v u/\Q v H'
def TP(X:Cx)(pins:List<|Addr×Obj)(σ:St)(Q:Bool->Hp->Prop)(b:Bool)(s':Shared):Prop:=∃ H',Inv X pins σ H' s'/\Q b H'
def AP(X:Cx)(pins:List<|Addr×Obj)(σ:St)(Q:List V->Hp->Prop)(us:List Value)(s':Shared):Prop:=∃ vs H',Inv X pins σ H' s'/\av vs us/\Q vs H'
def SP(X:Cx)(pins:List<|Addr×Obj)(D:Ends)(f:Flow)(s':Shared):Prop:=
 match f with
 | .next=>∃ σ' H',Inv X pins σ' H' s'/\D.nx σ' H'
 | .brk=>∃ σ' H',Inv X pins σ' H' s'/\D.bk σ' H'
 | .cont=>∃ σ' H',Inv X pins σ' H' s'/\D.ct σ' H'
 | .ret u=>∃ v σ' H',Inv X pins σ' H' s'/\RelV v u/\D.rt v H'
def PE(X:Cx)(e:Expr)(t:TE):Prop:=
 ∀(pins:List<|Addr×Obj) (s:Shared) (σ:St) (H:Hp) (Q:VK),Inv X pins σ H s->t σ H Q->wpAny (model X.prog X.w) X.A (eval e X.env) (EP X pins σ Q) X.xe s
def PT(X:Cx)(e:Expr)(t:TT):Prop:=
 ∀(pins:List<|Addr×Obj) (s:Shared) (σ:St) (H:Hp) (Q:Bool->Hp->Prop),Inv X pins σ H s->t σ H Q->wpAny (model X.prog X.w) X.A (isTrue e X.env<|eval e X.env) (TP X pins σ Q) X.xe s
def PW(X:Cx)(e:Expr)(t:TT):Prop:=
 ∀(whole:Sem Value) (pins:List<|Addr×Obj) (s:Shared) (σ:St) (H:Hp) (Q:Bool->Hp->Prop),Inv X pins σ H s->t σ H Q->wpAny (model X.prog X.w) X.A (isTrue e X.env whole) (TP X pins σ Q) X.xe s
def PA(X:Cx)(es:List Expr)(t:TA):Prop:=
 ∀(pos:Pos) (pins:List<|Addr×Obj) (s:Shared) (σ:St) (H:Hp) (Q:List V->Hp->Prop),Inv X pins σ H s->t σ H Q->wpAny (model X.prog X.w) X.A (spliced<|backTo pos<|starEach es X.env) (AP X pins σ Q) X.xe s
def PS(X:Cx)(st:Stmt)(t:TS):Prop:=
 ∀(pins:List<|Addr×Obj) (s:Shared) (σ:St) (H:Hp) (D:Ends),Inv X pins σ H s->t D σ H->wpAny (model X.prog X.w) X.A (exec st X.env) (SP X pins D) X.xe s
def gL(X:Cx)(st:List Stmt)(t:TS):Prop:=
 ∀(pins:List<|Addr×Obj) (s:Shared) (σ:St) (H:Hp) (D:Ends),Inv X pins σ H s->t D σ H->wpAny (model X.prog X.w) X.A (execs st X.env) (SP X pins D) X.xe s
theorem aP{α:Type}{t:Sem α}{Q Q':α->Shared->Prop}{M:Model}{A:Around}{E:Value->Shared->Prop}{s:Shared}(h:wpAny M A t Q E s)(hQ:∀ a s,Q a s->Q' a s):wpAny M A t Q' E s:=CV h hQ λ_ _ x=>x
section
variable{X:Cx}
theorem bin{a b:Expr}{ta tb:TE}(ha:PE X a ta)(hb:PE X b tb){pins:List (Addr×Obj)}{s:Shared}{σ:St}{H:Hp}{R:V->V->Hp->Prop}(I:Inv X pins σ H s)(h:ta σ H λx H1=>tb σ H1 λy H2=>R x y H2)
  {α:Type} {Q:α->Shared->Prop} {f:Value->Value->Sem α}
  (hf:∀ v u s2 x y H2,Inv X pins σ H2 s2->RelV x v->RelV y u->R x y H2->wpAny (model X.prog X.w) X.A (f v u) Q X.xe s2) :
  wpAny (model X.prog X.w) X.A (eval a X.env) (λv s₁=>wpAny (model X.prog X.w) X.A (eval b X.env) (λu s₂=>wpAny (model X.prog X.w) X.A (f v u) Q X.xe s₂) X.xe s₁) X.xe s:=by
 refine aP (ha pins s σ H _ I h) λv s1 ⟨x,H1,I1,r1,q1⟩=>?_;refine aP (hb pins s1 σ H1 _ I1 q1) λu s2 ⟨y,H2,I2,r2,q2⟩=>?_;exact hf v u s2 x y H2 I2 r1 r2 q2
def wq(i:Nat):TE:=λσ H Q=>∃ v,σ[i]?=some (some v)/\Q v H
def tC(v:V):TE:=λ_ H Q=>Q v H
theorem OQ{i:Nat}{x:Str}{pos:Pos}(hN:X.N[i]?=some x)(hv:we X.env.scope x)(hd:(x == ("__debug__" : Str))=false:=by decide)(ic:(x == ("__classdict__" : Str))=false:=by decide):PE X (.Name x pos) (wq i):=by
 intro pins s σ H Q I h;obtain⟨v,e,h⟩:=h;obtain⟨m,hn,hl⟩:=I.loc;obtain⟨u,r,l⟩:=hl i x v hN e hv;have fin:EP X pins σ Q u s:=⟨v,H,I,r,h⟩
 rcases l with ⟨hk,hm⟩ | ⟨hk,c,hc,gs⟩
 ·exact wpAny_Name (wpAny_loadName_local I.ok.kind hk hn hm fin) hd
 ·rcases hk with hk | hk
  ·exact wpAny_Name (wpAny_loadName_cell I.ok.kind hk hc gs fin) hd
  ·exact wpAny_Name (wpAny_loadName_free I.ok.kind hk hc gs fin ic) hd
theorem OS{i j pos}:PE X (.Constant (.int i) j pos) (tC<|.int i):=λ_ _ _ H _ I h=>wpAny_Constant_int ⟨.int i,H,I.tok _,⟨_,rfl⟩,h⟩
theorem OT{b j pos}:PE X (.Constant (.bool b) j pos) (tC<|.bl b):=λ_ _ _ H _ I h=>Constant_bool ⟨.bl b,H,I,rfl,h⟩
theorem OU{x j pos}:PE X (.Constant (.str x) j pos) (tC<|.str x):=λ_ _ _ H _ I h=>Calls.Constant_str ⟨.str x,H,I.tok _,⟨_,rfl⟩,h⟩
def Gl(X:Cx)(x:Str):Prop:=X.env.kindOf x=some .globalImplicit
theorem FL{E:Value->Shared->Prop}{pins:List (Addr×Obj)}{s:Shared}{σ:St}{H:Hp}{x:Str}{u:Value}{pos:Pos}{Q:Value->Shared->Prop}(I:Inv X pins σ H s)(hg:Gl X x)(hm:X.mg x=some u)(h:Q u s)
  (hd:(x == ("__debug__" : Str))=false:=by decide):wpAny (model X.prog X.w) X.A (eval (.Name x pos) X.env) Q E s:=
 Calls.Name_function_global I.ok.kind hg (Calls.loadGlobal_global (by rw [I.ok.glob];exact I.mod.glob.keeps I.bk) hm h) hd
theorem l9{E:Value->Shared->Prop}{pins:List (Addr×Obj)}{s:Shared}{σ:St}{H:Hp}{x:Str}{u:Value}{pos:Pos}{Q:Value->Shared->Prop}(I:Inv X pins σ H s)(hg:Gl X x)(hm:X.mg x=none)(hv:bootBuiltins x=some u)(h:Q u s)
  (hn:x ≠ "__name__":=by decide) (hd:(x == ("__debug__" : Str))=false:=by decide):wpAny (model X.prog X.w) X.A (eval (.Name x pos) X.env) Q E s:=by
 obtain⟨mb,h1,h2⟩:=I.mod.blt;exact Calls.Name_function_global I.ok.kind hg (Calls.loadGlobal_builtin (by rw [I.ok.glob];exact I.mod.glob.keeps I.bk) hm (by rw [I.ok.blt];exact h1.keeps I.bk) ((h2 x hn).trans hv) h) hd
theorem OV{x:Str}{v:V}{u:Value}{pos:Pos}(hg:Gl X x)(hm:X.mg x=some u)(r:RelV v u)(hd:(x == ("__debug__" : Str))=false:=by decide):PE X (.Name x pos) (tC v):=
 λ_ _ _ H _ I h=>FL I hg hm ⟨v,H,I,r,h⟩ hd
theorem OW{x:Str}{v:V}{u:Value}{pos:Pos}(hg:Gl X x)(hm:X.mg x=none)(hv:bootBuiltins x=some u)(r:RelV v u)(hn:x ≠ "__name__":=by decide)(hd:(x == ("__debug__" : Str))=false:=by decide):PE X (.Name x pos) (tC v):=
 λ_ _ _ H _ I h=>l9 I hg hm hv ⟨v,H,I,r,h⟩ hn hd
variable{a b:Expr}{ta tb:TE}{pos:Pos}
def PC(X:Cx)(op:CmpOp)(a b:Expr)(t:TE):Prop:=
 ∀(pins:List<|Addr×Obj) (s:Shared) (σ:St) (H:Hp) (Q:VK),Inv X pins σ H s->t σ H Q ->
  wpAny (model X.prog X.w) X.A (eval a X.env) (λv s₁=>wpAny (model X.prog X.w) X.A (eval b X.env) (λu s₂=>wpAny (model X.prog X.w) X.A (compareOp op v u) (EP X pins σ Q) X.xe s₂) X.xe s₁) X.xe s
def tB(t:TE):TT:=λσ H Q=>t σ H λx H1=>∃ c,x = .bl c/\Q c H1
theorem OX{op:CmpOp}{t:TE}(h:PC X op a b t)(h1:behindInMarks op b=false:=by first | exact pO _ (by decide) (by decide) | rfl):PT X (.Compare a [op] [b] pos) (tB t):=by
 intro pins s σ H Q I hw;refine wpAny_isTrue_Compare1 (aP (h pins s σ H _ I hw) λv s1 h1=>aP h1 λu s2 h2=>aP h2 λc s3 ⟨x,H1,I1,r1,q1⟩=>?_) h1;obtain⟨d,rfl,q⟩:=q1;cases r1;exact FZ ⟨H1,I1,q⟩
theorem OY{e:Expr}{t:TE}(h:PE X e t)(he:∀ whole,isTrue e X.env whole=(do let v <- whole;standAt e.pos;holding [v] (truthy v)):=by intro _;rfl):PT X e (tB t):=by
 intro pins s σ H Q I hw;refine isTrue_plain (aP (h pins s σ H _ I hw) λv s1 ⟨x,H1,I1,r1,q1⟩=>?_)<|he _;obtain⟨d,rfl,q⟩:=q1;cases r1;exact FZ ⟨H1,I1,q⟩
variable{tA sW:TT}{rest:List Expr}
def wt(t u:TT):TT:=λσ H Q=>t σ H λc H1=>if c=true then u σ H1 Q else Q false H1
def OZ(t u:TT):TT:=λσ H Q=>t σ H λc H1=>if c=true then Q true H1 else u σ H1 Q
def wu(t:TT):TT:=λσ H Q=>t σ H λc H1=>Q (!c) H1
theorem O0(ha:PT X a tA):PW X (.BoolOp .And [a] pos) tA:=by
 intro wh pins s σ H Q I h;refine isTrue_and<|aP (ha pins s σ H Q I h) λc s1 e=>?_;cases c with
 | true=>exact isTrue_and_nil e
 | false=>exact e
theorem O1(ha:PT X a tA):PW X (.BoolOp .Or [a] pos) tA:=by
 intro wh pins s σ H Q I h;refine isTrue_or<|aP (ha pins s σ H Q I h) λc s1 e=>?_;cases c with
 | false=>exact isTrue_or_nil e
 | true=>exact e
theorem O2(ha:PT X a tA)(hb:PW X (.BoolOp .And (b :: rest) pos) sW):PW X (.BoolOp .And (a :: b :: rest) pos) (wt tA sW):=by
 intro wh pins s σ H Q I h;refine isTrue_and<|aP (ha pins s σ H _ I h) λc s1 ⟨H1,I1,q1⟩=>?_;cases c with
 | true=>exact hb wh pins s1 σ H1 Q I1 q1
 | false=>exact⟨H1,I1,q1⟩
theorem O3(ha:PT X a tA)(hb:PW X (.BoolOp .Or (b :: rest) pos) sW):PW X (.BoolOp .Or (a :: b :: rest) pos) (OZ tA sW):=by
 intro wh pins s σ H Q I h;refine isTrue_or<|aP (ha pins s σ H _ I h) λc s1 ⟨H1,I1,q1⟩=>?_;cases c with
 | true=>exact⟨H1,I1,q1⟩
 | false=>exact hb wh pins s1 σ H1 Q I1 q1
theorem O4(ha:PT X a tA):PT X (.UnaryOp .Not a pos) (wu tA):=by
 intro pins s σ H Q I h;exact isTrue_not<|ha pins s σ H (λc H1=>Q (!c) H1) I h
end
def al(K:PySem.W.Frag)(H:Hp)(a:Addr)(xs:List V):Prop:=
 Rd H a (.lst xs) \/
  ∃(o:Obj) (its:Array Value) (n:Nat),K.lookup a=some o/\o.cls = .type "list"/\o.dict=none/\o.data = .seq its n/\its.size<=sizeLine/\av xs its.toList
def a7(K:PySem.W.Frag)(H:Hp)(a:Addr)(xs:List V):Prop:=
 Rd H a (.tup xs) \/
  ∃(o:Obj) (its:Array Value) (n:Nat),K.lookup a=some o/\o.cls = .type "tuple"/\o.data = .seq its n/\its.size<=sizeLine/\av xs its.toList
def wv:Value->Option V
 | .none=>some .non
 | .bool b=>some<|.bl b
 | .int i _=>some<|.int i
 | .str x _=>some<|.str x
 | .bytes b _=>some<|.iF b
 | .float b _=>some<|.og b
 | .ref a=>some<|.ref a
 | .type n=>some<|.ty n
 | _=>none
theorem RelV.abs{x:V}{u:Value}(r:RelV x u):wv u=some x:=by
 cases x with
 | non=>cases r;rfl
 | bl _=>cases r;rfl
 | int _=>obtain⟨t,rfl⟩:=r;rfl
 | str _=>obtain⟨t,rfl⟩:=r;rfl
 | iF _=>obtain⟨t,rfl⟩:=r;rfl
 | og _=>obtain⟨t,rfl⟩:=r;rfl
 | ref _=>cases r;rfl
 | ty _=>cases r;rfl
theorem RelV.inj{x y:V}{u:Value}(r:RelV x u)(q:RelV y u):x=y:=Option.some.inj<|r.abs.symm.trans q.abs
theorem av.inj:∀{xs ys:List V} {us:List Value},av xs us->av ys us->xs=ys
 | _,_,_,.nil,.nil=>rfl
 | _,_,_,.cons r t,.cons r' t'=>by rw [r.inj r',av.inj t t']
section
variable{X:Cx}{pins:List (Addr×Obj)}{σ:St}{H:Hp}{s:Shared}{a:Addr}{xs ys:List V}
theorem al.of{K:PySem.W.Frag}(h:H a=some (.lst xs)):al K H a xs:= .inl<|.inl h
theorem a7.of{K:PySem.W.Frag}(h:H a=some (.tup xs)):a7 K H a xs:= .inl<|.inl h
theorem Inv.list(I:Inv X pins σ H s)(h:al X.K H a xs):∃ its:List Value,av xs its/\PlainL s.heap a its.toArray/\xs.length<=sizeLine:=by
 rcases h with h | ⟨o,its,n,hk,hc,hd,hs,hz,r⟩
 ·obtain⟨z,its,n,r,e⟩:=h.ok I.aE;exact⟨its,r,⟨_,n,e,rfl,rfl,rfl⟩,z⟩
 ·refine⟨its.toList,r,⟨o,n,I.e9 a o hk,hc,hd,by simpa using hs⟩,?_⟩;have e:=r.length;simp only [Bs] at e;omega
theorem Inv.tuple(I:Inv X pins σ H s)(h:a7 X.K H a xs):∃ its:List Value,av xs its/\IsTup s.heap a its.toArray/\xs.length<=sizeLine:=by
 rcases h with h | ⟨o,its,n,hk,hc,hs,hz,r⟩
 ·obtain⟨z,its,r,p⟩:=h.ok I.aE;exact⟨its,r,p,z⟩
 ·refine⟨its.toList,r,⟨o,I.e9 a o hk,hc,n,by simpa using hs⟩,?_⟩;have e:=r.length;simp only [Bs] at e;omega
theorem Inv.df(I:Inv X pins σ H s)(h:al X.K H a xs)(h':al X.K H a ys):xs=ys:=by
 obtain⟨its,r,⟨o,n,e,_,_,d⟩,_⟩:=I.list h;obtain⟨its',r',⟨o',n',e',_,_,d'⟩,_⟩:=I.list h';rw [e] at e';cases e';rw [d] at d'
 injection d' with d1 _
 have:its=its':=by simpa using BZ Array.toList d1
 subst this;exact r.inj r'
end
abbrev Cx.dI(X:Cx)(E:Value->Shared->Prop):Cx:={X with xe:=E}
abbrev Cx.oj(X:Cx):Cx:=X.dI λ_ _=>False
theorem Cx.Ok.dI{X:Cx}(ok:X.Ok)(E:Value->Shared->Prop):(X.dI E).Ok:=
 ⟨ok.mod,ok.kind,ok.glob,ok.blt,ok.above,ok.inj,ok.has,ok.pL,ok.hd,ok.frames,ok.sS,ok.FE,ok.bs,ok.kR,ok.iH,ok.jR,ok.de,ok.oi⟩
theorem Cx.Ok.bU{X:Cx}{E:Value->Shared->Prop}(ok:(X.dI E).Ok):X.Ok:=
 ⟨ok.mod,ok.kind,ok.glob,ok.blt,ok.above,ok.inj,ok.has,ok.pL,ok.hd,ok.frames,ok.sS,ok.FE,ok.bs,ok.kR,ok.iH,ok.jR,ok.de,ok.oi⟩
section
variable{X:Cx}{pins:List (Addr×Obj)}{σ:St}{H:Hp}{s:Shared}{E:Value->Shared->Prop}
theorem Inv.dI(I:Inv X pins σ H s)(E:Value->Shared->Prop):Inv (X.dI E) pins σ H s:=⟨I.ok.dI E,I.os,I.bare,I.base,I.loc,I.cell,I.free,I.bT,I.pin,I.aE,I.len⟩
theorem Inv.bU(I:Inv (X.dI E) pins σ H s):Inv X pins σ H s:=⟨I.ok.bU,I.os,I.bare,I.base,I.loc,I.cell,I.free,I.bT,I.pin,I.aE,I.len⟩
theorem SP.bU{D:Ends}{f:Flow}{s':Shared}(h:SP (X.dI E) pins D f s'):SP X pins D f s':=by
 cases f with
 | next=>obtain⟨σ',H',I,q⟩:=h;exact⟨σ',H',I.bU,q⟩
 | brk=>obtain⟨σ',H',I,q⟩:=h;exact⟨σ',H',I.bU,q⟩
 | cont=>obtain⟨σ',H',I,q⟩:=h;exact⟨σ',H',I.bU,q⟩
 | ret u=>obtain⟨v,σ',H',I,r,q⟩:=h;exact⟨v,σ',H',I.bU,r,q⟩
theorem gL.oj{st:List Stmt}{t:TS}(h:gL X.oj st t):gL X st t:=λpins s σ H D I hw=>
 CV (h pins s σ H D (I.dI _) hw) (λ_ _ q=>q.bU) λ_ _ z=>False.elim z
end
section
variable{X:Cx}{st:Stmt}{rest:List Stmt}{t u:TS}{e:Expr}{te:TE}{pos:Pos}
def O5:TS:=λD σ H=>D.nx σ H
def wx(t u:TS):TS:=λD σ H=>t {D with nx:=u D} σ H
theorem O6:gL X [] O5:=λ_ _ σ H _ I h=>RJ ⟨σ,H,I,h⟩
theorem O7(h1:PS X st t)(h2:gL X rest u):gL X (st :: rest) (wx t u):=by
 intro pins s σ H D I h;refine wpAny_execs_cons<|aP (h1 pins s σ H {D with nx:=u D} I h) λf s1 q=>?_;cases f with
 | next=>
  obtain⟨σ',H',I',q⟩:=q;exact h2 pins s1 σ' H' D I' q
 | ret v=>exact q
 | brk=>exact q
 | cont=>exact q
theorem Inv.quiet{pins:List (Addr×Obj)}{σ:St}{H:Hp}{s:Shared}(I:Inv X pins σ H s):interactive X.env=false:=by simp [interactive,I.ok.kind]
def O8(te:TE):TS:=λD σ H=>te σ H λ_ H1=>D.nx σ H1
theorem O9(he:PE X e te)(hs:swapsWith e none pos.line X.env=pure false:=by rfl):PS X (.Expr e pos) (O8 te):=by
 intro pins s σ H D I h;exact wpAny_Expr_any (aP (he pins s σ H _ I h) λv s1 ⟨x,H1,I1,r1,q1⟩=>⟨σ,H1,I1,q1⟩) I.quiet hs
def wy(te:TE):TS:=λD σ H=>te σ H D.rt
theorem O'(he:PE X e te):PS X (.Return (some e) pos) (wy te):=by
 intro pins s σ H D I h;exact wpAny_Return_some<|aP (he pins s σ H _ I h) λv s1 ⟨x,H1,I1,r1,q1⟩=>⟨x,σ,H1,I1,r1,q1⟩
def wz(c:TT)(t u:TS):TS:=λD σ H=>c σ H λb H1=>if b=true then t D σ H1 else u D σ H1
theorem Pa{c:Expr}{a b:List Stmt}{tc:TT}(hc:PT X c tc)(ha:gL X a t)(hb:gL X b u):PS X (.If c a b pos) (wz tc t u):=by
 intro pins s σ H D I h;refine wpAny_If<|aP (hc pins s σ H _ I h) λd s1 ⟨H1,I1,q1⟩=>?_;cases d with
 | true=>exact ha pins s1 σ H1 D I1 q1
 | false=>exact hb pins s1 σ H1 D I1 q1
end
abbrev TG:=V->St->Hp->(St->Hp->Prop)->Prop
abbrev mh:=List V->St->Hp->(St->Hp->Prop)->Prop
def PG(X:Cx)(target:Expr)(t:TG):Prop:=
 ∀(pins:List<|Addr×Obj) (s:Shared) (σ:St) (H:Hp) (v:V) (u:Value) (Q:St->Hp->Prop),Inv X pins σ H s->RelV v u->t v σ H Q ->
  wpAny (model X.prog X.w) X.A (assign target X.env u) (λ_ s'=>∃ σ' H',Inv X pins σ' H' s'/\Q σ' H') X.xe s
def sX(X:Cx)(ts:List Expr)(t:mh):Prop:=
 ∀(pins:List<|Addr×Obj) (s:Shared) (σ:St) (H:Hp) (vs:List V) (us:List Value) (Q:St->Hp->Prop),Inv X pins σ H s->av vs us->t vs σ H Q ->
  wpAny (model X.prog X.w) X.A (assignInOrder ((assignEach ts X.env).map (·.2)) us) (λ_ s'=>∃ σ' H',Inv X pins σ' H' s'/\Q σ' H') X.xe s
section
variable{X:Cx}{pos:Pos}
def FO(i:Nat):TG:=λv σ H Q=>Q (σ.set i<|some v) H
theorem Pb{i:Nat}{x:Str}(hN:X.N.Nodup)(hi:X.N[i]?=some x)(hx:Loc X.env.scope x)(hf:X.fn x=true\/X.env.scope.names.lookup x=some .local:=by first | exact .inl rfl | exact .inr rfl | assumption):PG X (.Name x pos) (FO i):=by
 intro pins s σ H v u Q I r h;exact wpAny_assign_Name<|FK I hN hi hx r (λs' I'=>⟨_,H,I',h⟩) hf
def pP:mh:=λvs σ H Q=>vs=[]/\Q σ H
def wA(t:TG)(u:mh):mh:=λvs σ H Q=>∃ v r,vs=v :: r/\t v σ H λσ' H'=>u r σ' H' Q
theorem Pg:sX X [] pP:=by
 intro pins s σ H vs us Q I r h;obtain⟨e,h⟩:=h;subst e;cases r;exact assignInOrder_nil ⟨σ,H,I,h⟩
theorem FR{e:Expr}{es:List Expr}{t:TG}{u:mh}(h1:PG X e t)(h2:sX X es u)
  (hs:(assignEach (e :: es) X.env).map (·.2)=assign e X.env :: (assignEach es X.env).map (·.2):=by rfl):sX X (e :: es) (wA t u):=by
 intro pins s σ H vs us Q I r h;obtain⟨v,vr,e1,h⟩:=h;subst e1;cases r with
 | cons r rr=>
  rw [hs];refine assignInOrder_cons<|aP (h1 pins s σ H _ _ _ I r h) λ_ s1 ⟨σ1,H1,I1,q1⟩=>?_;exact h2 pins s1 σ1 H1 _ _ Q I1 rr q1
def wB(K:PySem.W.Frag)(n:Nat)(t:mh):TG:=λv σ H Q=>∃ a xs,v = .ref a/\a7 K H a xs/\xs.length=n/\t xs σ H Q
theorem Ph{es:List Expr}{k:Nat}{t:mh}{n:Nat}(hc:X.calm=true)(h:sX X es t)
  (hn:(assignEach es X.env).length=n:=by rfl) (dS:(assignEach es X.env).findIdx? (·.1)=none:=by rfl):PG X (.Tuple es k pos) (wB X.K n t):=by
 intro pins s σ H v u Q I r hw;obtain⟨a,xs,e1,hq,hl,hw⟩:=hw;subst e1;cases r;obtain⟨its,rv,ht,hz⟩:=I.tuple hq;refine assign_Tuple_tuple (I.ok.hd hc) ht (by simp [hn,<- hl,rv.length]) dS λh' hx=>?_;have I1:Inv X pins σ H {s with heap:=h'}:=I.kept (t':=s.toks) λb o e=>hx b o (Bk<|Av e) e;exact h pins _ σ H xs _ Q I1 (by simpa using rv) hw
def pQ(te:TE)(g:TG):TS:=λD σ H=>te σ H λx H1=>g x σ H1 D.nx
theorem Pj{tg e:Expr}{te:TE}{g:TG}(he:PE X e te)(hg:PG X tg g)(hs:swapsWithSole [tg] e pos.line X.env=pure false:=by rfl)(hw:swappedStores [tg] e X.env=pure none:=by rfl)
  (h1:(assignEach [tg] X.env).map (·.2)=[assign tg X.env]:=by rfl):PS X (.Assign [tg] e pos) (pQ te g):=by
 intro pins s σ H D I h;refine wpAny_Assign_stores (aP (he pins s σ H _ I h) λv s1 ⟨x,H1,I1,r1,q1⟩=>?_) hs hw;rw [h1];exact aP (hg pins s1 σ H1 x v _ I1 r1 q1) λ_ s2 q=>q
theorem Pk{i:Nat}{x:Str}{e:Expr}{te:TE}{pos':Pos}(hN:X.N.Nodup)(hi:X.N[i]?=some x)(hx:Loc X.env.scope x)(he:PE X e te)(hs:swapsWith e (some<|.Name x pos') pos.line X.env=pure false:=by rfl)(hf:X.fn x=true\/X.env.scope.names.lookup x=some .local:=by first | exact .inl rfl | exact .inr rfl | assumption) :
  PS X (.Assign [.Name x pos'] e pos) (pQ te<|FO i):=by
 intro pins s σ H D I h;refine wpAny_Assign_Name (aP (he pins s σ H _ I h) λv s1 ⟨y,H1,I1,r1,q1⟩=>?_) hs;exact FK I1 hN hi hx r1 (λs2 I2=>⟨_,H1,I2,q1⟩) hf
def Pn(c:TT)(tb:TS):TS:=λD σ H=>∃ W:Nat->St->Hp->Prop,(∃ m,W m σ H)/\∀ m σ H,W m σ H ->
 c σ H λb H1=>if b=true then ∃ N:St->Hp->Prop,(∀ σ' H',N σ' H'->∃ m',m' < m/\W m' σ' H')/\tb {D with nx:=N,ct:=N,bk:=D.nx} σ H1 else D.nx σ H1
theorem Pp{c:Expr}{body:List Stmt}{tc:TT}{tb:TS}(hp:PassesOwn (model X.prog X.w) X.A X.env X.xe)(hc:PT X c tc)(hb:gL X body tb):PS X (.While c body [] pos) (Pn tc tb):=by
 intro pins s σ H D I h;obtain⟨W,⟨m0,w0⟩,turn⟩:=h;refine wpAny_While<|codeAny_whileLoop (λn s'=>∃ σ' H',Inv X pins σ' H' s'/\W n σ' H') ?_ m0 ⟨σ,H,I,w0⟩;rintro n s1 ⟨σ1,H1,I1,w1⟩;refine HD hp<|aP (hc pins s1 σ1 H1 _ I1<|turn n σ1 H1 w1) λb s2 ⟨H2,I2,q2⟩=>?_;cases b with
 | true=>
  obtain⟨N,hN,q2⟩:=q2;rw [BP rfl];refine HD hp<|aP (hb pins s2 σ1 H2 _ I2 q2) λf s3 q3=>?_;cases f with
  | next=>
   obtain⟨σ3,H3,I3,n3⟩:=q3;obtain⟨m',hm,w3⟩:=hN σ3 H3 n3;exact⟨m',hm,σ3,H3,I3,w3⟩
  | cont=>
   obtain⟨σ3,H3,I3,n3⟩:=q3;obtain⟨m',hm,w3⟩:=hN σ3 H3 n3;exact⟨m',hm,σ3,H3,I3,w3⟩
  | brk=>exact q3
  | ret v=>exact q3
 | false=>
  rw [BL At];exact RJ ⟨σ1,H2,I2,q2⟩
end
structure It where
 go:Nat->Hp->Prop
 pR:Nat->Hp->V->Hp->Prop
 stop:Nat->Hp->Prop
def bV(X:Cx)(pins:List<|Addr×Obj)(H:Hp)(b:Addr):Prop:=
 H b=none/\b≠X.env.locals/\b∉X.fs/\(b∈X.ex\/X.s₀.heap.objs.size<=b)/\(∀ x c,X.env.cells.lookup x=some c->c≠b)/\∀ p∈X.pn++pins,p.1≠b
theorem Inv.iJ{X:Cx}{pins:List (Addr×Obj)}{σ:St}{H H':Hp}{s:Shared}{b:Addr}(I:Inv X pins σ H s)(hb:s.heap.objs.size<=b)(hn:H' b=none):bV X pins H' b:=by
 refine⟨hn,Cr<|Bc I.lt hb,I.wj hb,.inr<|Ce I.sz hb,λx c e z=>?_,λp hp z=>?_⟩
 ·obtain⟨v,q⟩:=I.cell x c e;exact absurd (Bc q.lt<|by rw [z];exact hb)<|Dl _
 ·exact absurd (Bc (Av (I.pin p hp).1)<|by rw [z];exact hb)<|Dl _
structure Turn(P:Program)(w:World)(K:PySem.W.Frag)(tg:Expr)(J:It)(fp:List Addr)(it:Addr)(tn:Nat->Heap->Prop):Prop where
 mem:it∈fp
 obj:∀ i h,tn i h->∀ b∈fp,∃ o,h.get? b=some o/\∀ v,o.data ≠ .cell v
 keep:∀ i h h',tn i h->(∀ b∈fp,∀ o,h.get? b=some o->h'.get? b=some o)->tn i h'
 item:∀(X:Cx),X.prog=P->X.w=w->X.K=K->X.calm=true->∀(i:Nat) (pins:List<|Addr×Obj) (s:Shared) (σ:St) (H:Hp) (E:Value->Shared->Prop),Inv X pins σ H s->(∀ b∈fp,bV X pins H b)->tn i s.heap->J.go i H ->
  wpAny (model P w) X.A (pyNext<|.ref it) (λr s1=>∃ u,r=some u /\
   wpAny (model P w) X.A (letOwnedTupleGo tg (.ref it) u) (λ_ s2=>∃ x H',Inv X pins σ H' s2/\RelV x u/\J.pR i H x H'/\tn (i+1) s2.heap/\∀ b∈fp,H' b=none) E s1) E s
 done:∀(X:Cx),X.prog=P->X.w=w->X.K=K->X.calm=true->∀(i:Nat) (pins:List<|Addr×Obj) (s:Shared) (σ:St) (H:Hp) (E:Value->Shared->Prop),Inv X pins σ H s->(∀ b∈fp,bV X pins H b)->tn i s.heap->J.stop i H ->
  wpAny (model P w) X.A (pyNext<|.ref it) (λr s1=>r=none/\Inv X pins σ H s1) E s
 self:∀(A:Around) (i:Nat) (s:Shared) (Q:Value->Shared->Prop) (E:Value->Shared->Prop),tn i s.heap->Q (.ref it) s->wpAny (model P w) A (pyIter<|.ref it) Q E s
abbrev TI:=St->Hp->(It->Hp->Prop)->Prop
def FU(X:Cx)(pins:List<|Addr×Obj)(σ:St)(tg:Expr)(R:It->Hp->Prop)(kW:Value)(s2:Shared):Prop:=
 ∃(it:Addr) (fp:List Addr) (tn:Nat->Heap->Prop) (J:It) (H':Hp),kW = .ref it/\Inv X pins σ H' s2/\Turn X.prog X.w X.K tg J fp it tn/\tn 0 s2.heap/\(∀ b∈fp,bV X pins H' b)/\R J H'
def PI(X:Cx)(tg iter:Expr)(wi:TI):Prop:=
 ∀(pins:List<|Addr×Obj) (s:Shared) (σ:St) (H:Hp) (R:It->Hp->Prop),Inv X pins σ H s->wi σ H R ->
  wpAny (model X.prog X.w) X.A (eval iter X.env) (λv s1=>wpAny (model X.prog X.w) X.A (pyIter v) (FU X pins σ tg R) X.xe s1) X.xe s
theorem wC{M:Model}{A:Around}{E:Value->Shared->Prop}{s:Shared}{tg:Expr}{it:Addr}{u:Value}{o:Obj}{n:String}{vs:Array Value}{Q:Unit->Shared->Prop}(ho:s.heap.get? it=some o)(hc:o.cls = .type n)(hd:o.data = .fields vs)
    (hn:["enumerate","zip","dict_itemiterator","dict_reverseitemiterator","odict_iterator","itertools.zip_longest","itertools.pairwise"].contains n=false) (hQ:Q () s):wpAny M A (letOwnedTupleGo tg (.ref it) u) Q E s:=by
  unfold letOwnedTupleGo;cases tg <;> first
    | exact BK hQ
    | (cases u <;> first
        | exact BK hQ
        | (refine BJ<|wpAny_load ho ?_
           rw [hc,hd];show wpAny M A (if(["enumerate","zip","dict_itemiterator","dict_reverseitemiterator","odict_iterator","itertools.zip_longest","itertools.pairwise"].contains n && vs[0]? == some (rawInt _))=true then _ else _) Q E s;rw [BL<|by intro h;rw [hn,Bool.false_and] at h;cases h];exact BK hQ))
def mj(K:PySem.W.Frag)(a:Addr):It:=
 ⟨λi H=>∃ xs x,al K H a xs/\xs[i]?=some x,λi H x H'=>H'=H/\∀ xs,al K H a xs->xs[i]?=some x,λi H=>∃ xs,al K H a xs/\xs.length<=i⟩
def Pq(K:PySem.W.Frag)(a:Addr):It:=
 ⟨λi H=>∃ xs x,a7 K H a xs/\xs[i]?=some x,λi H x H'=>H'=H/\∀ xs,a7 K H a xs->xs[i]?=some x,λi H=>∃ xs,a7 K H a xs/\xs.length<=i⟩
def om(lo:Int)(n:Nat):It:=⟨λi _=>i < n,λi H x H'=>H'=H/\x = .int (lo+i),λi _=>n<=i⟩
theorem Pt{P:Program}{w:World}{K:PySem.W.Frag}{tg:Expr}(a it:Addr):Turn P w K tg (mj K a) [it] it (λi h=>h.IsListIter it a i) where
 mem:=by simp
 obj:=λi h st b hb=>by
  have e:b=it:=by simpa using hb
  subst e;obtain⟨o,e,c,d⟩:=st;exact⟨o,e,λv z=>by rw [d] at z;cases z⟩
 keep:=λi h h' st k=>st.at λo e=>k it (by simp) o e
 item:=by
  intro X hP hw hK hc i pins s σ H E I hf st hg;subst hP hw hK;obtain⟨xs,x,hq,hx⟩:=hg;obtain⟨its,rv,p,hz⟩:=I.list hq;obtain⟨u,hu,ru⟩:=rv.get hx;obtain⟨f0,f1,f2,f3,f4,f5⟩:=hf it (by simp);refine wpAny_pyNext_list_item st p.isList (x:=u) (by simpa using hu) λh' db sb=>?_;have I1:Inv X pins σ H {s with heap:=h'}:=I.turned (t':=s.toks) (λb o hb e=>(sb.2 b hb).trans e) f0 f1 f3 f4 f5;obtain⟨o,e,c,d⟩:=id db;exact⟨u,rfl,wC (s:={s with heap:=h'}) e c d (by decide) ⟨x,H,I1,ru,⟨rfl,λys hy=>by rw [I.df hy hq];exact hx⟩,db,λb hb=>(hf b hb).1⟩⟩
 done:=by
  intro X hP hw hK hc i pins s σ H E I hf st hg;subst hP hw hK;obtain⟨xs,hq,hx⟩:=hg;obtain⟨its,rv,p,hz⟩:=I.list hq;obtain⟨f0,f1,f2,f3,f4,f5⟩:=hf it (by simp);have hl:=rv.length;exact wpAny_pyNext_list_end (I.ok.hd hc) st p.isList (by simp;omega) λh' eb=>⟨rfl,I.turned (t':=s.toks) (λb o hb e=>eb b o hb e) f0 f1 f3 f4 f5⟩
 self:=λ_ _ _ _ _ st h=>wpAny_pyIter_listiter st h
theorem Pu{P:Program}{w:World}{K:PySem.W.Frag}{tg:Expr}(it:Addr)(lo:Int)(n:Nat):Turn P w K tg (om lo n) [it] it (λi h=>IsRangeIter h it (lo+(i:Nat) * 1) ((n:Int) - (i:Nat)) 1) where
 mem:=by simp
 obj:=λi h st b hb=>by
  have e:b=it:=by simpa using hb
  subst e;exact⟨_,st,λv z=>by
   have z':Data.fields _=Data.cell v:=z;cases z'⟩
 keep:=λi h h' st k=>k it (by simp) _ st
 item:=by
  intro X hP hw hK hc i pins s σ H E I hf st hg;subst hP hw hK;obtain⟨f0,f1,f2,f3,f4,f5⟩:=hf it (by simp);have W:=Walks.range (prog:=X.prog) (w:=X.w) (I.ok.hd hc) it lo 1 n;refine W.item i s _ _ hg st λv h' tk hv db kk=>?_;obtain⟨t,rfl⟩:=hv;have I1:Inv X pins σ H {s with heap:=h',toks:=tk}:=I.turned (λb o hb e=>kk b o (by simpa using hb) e) f0 f1 f3 f4 f5;refine⟨_,rfl,wC (s:={s with heap:=h',toks:=tk}) (n:= "range_iterator") db rfl rfl (by decide) ⟨.int<|lo+i,H,I1,⟨t,?_⟩,⟨rfl,rfl⟩,db,λb hb=>(hf b hb).1⟩⟩;rw [Int.mul_one]
 done:=by
  intro X hP hw hK hc i pins s σ H E I hf st hg;subst hP hw hK;obtain⟨f0,f1,f2,f3,f4,f5⟩:=hf it (by simp);exact wpAny_pyNext_range_end (I.ok.hd hc) st (by have:n<=i:=hg;omega) λh' eb=>⟨rfl,I.turned (t':=s.toks) (λb o hb e=>eb b o hb e) f0 f1 f3 f4 f5⟩
 self:=λ_ _ _ _ _ st h=>wpAny_pyIter_rangeiter st h
section
variable{X:Cx}{tg:Expr}
def Pw(K:PySem.W.Frag)(tl:TE):TI:=λσ H R=>tl σ H λx H1=>∃ a,x = .ref a/\(∃ xs,al K H1 a xs)/\R (mj K a) H1
theorem ie{l:Expr}{tl:TE}(hl:PE X l tl):PI X tg l (Pw X.K tl):=by
 intro pins s σ H R I h;refine aP (hl pins s σ H _ I h) λv s1 ⟨x,H1,I1,r1,q1⟩=>?_;obtain⟨a,e,⟨xs,hq⟩,q⟩:=q1;subst e;cases r1;obtain⟨its,rv,p,hz⟩:=I1.list hq;refine QD p.isList ?_;refine⟨s1.heap.objs.size,[s1.heap.objs.size],_,_,H1,rfl,I1.kept (t':=s1.toks) λb o e=>Af _ e,Pt a _,⟨_,As _ rfl,rfl,rfl⟩,λb hb=>?_,q⟩;have e:b=s1.heap.objs.size:=by simpa using hb
 subst e;exact I1.iJ (Am _)<|I1.aE.fresh<|Am _
theorem Px{pins:List (Addr×Obj)}{σ:St}{H:Hp}{s:Shared}{R:It->Hp->Prop}{E:Value->Shared->Prop}{lo hi:Int}{t u v:Tok}{tk:Nat}(I:Inv X pins σ H s)(h1:-(2 ^ 62)<=lo)(h2:lo < 2 ^ 62)(h3:-(2 ^ 62)<=hi)(h4:hi < 2 ^ 62)
  (q:R (om lo (hi - lo).toNat) H):wpAny (model X.prog X.w) X.A (pyIter<|.ref s.heap.objs.size) (FU X pins σ tg R) E {s with heap:=s.heap.push {cls:= .type "range",data:= .fields #[.int lo t,.int hi u,.int 1 v]},toks:=tk}:=by
 refine wpAny_pyIter_range (IsRange.new ..) (small_one h1 h2 h3 h4) ?_;have I1:Inv X pins σ H {s with heap:=s.heap.push {cls:= .type "range",data:= .fields #[.int lo t,.int hi u,.int 1 v]},toks:=tk}:=I.kept λb o e=>Af _ e;refine⟨(s.heap.push {cls:= .type "range",data:= .fields #[.int lo t,.int hi u,.int 1 v]}).objs.size,[(s.heap.push {cls:= .type "range",data:= .fields #[.int lo t,.int hi u,.int 1 v]}).objs.size],_,_,H,rfl,
  I1.kept (t':=tk) λb o e=>Af _ e,Pu _ lo (hi - lo).toNat,?_,λb hb=>?_,q⟩
 ·have e1:lo+((0:Nat):Int) * 1=lo:=by simp
  have e2:(((hi - lo).toNat:Nat):Int) - ((0:Nat):Int)=Builtin.Range.rangeSize lo hi 1:=by rw [rangeSize_one];split <;> omega
  show IsRangeIter _ _ (lo+((0:Nat):Int) * 1) ((((hi - lo).toNat:Nat):Int) - ((0:Nat):Int)) 1;rw [e1,e2];exact As _ rfl
 ·have e:b=(s.heap.push {cls:= .type "range",data:= .fields #[.int lo t,.int hi u,.int 1 v]}).objs.size:=by simpa using hb
  subst e;exact I1.iJ (Am _)<|I1.aE.fresh<|Am _
def FV(ta:TA):TI:=λσ H R=>ta σ H λvs H1=>∃ j:Int,vs=[.int j]/\-(2 ^ 62)<=j/\j < 2 ^ 62/\R (om 0 j.toNat) H1
theorem FX{a:Expr}{ta:TA}{p pos:Pos}(hg:Gl X "range")(hm:X.mg "range" = none)(ha:PA X [a] ta)(hs:starEach [a] X.env=[(false,eval a X.env)]:=by rfl):PI X tg (.Call (.Name "range" p) [a] [] pos) (FV ta):=by
 intro pins s σ H R I h;refine Call_<|l9 I hg hm boot_range<|JK (aP (ha pos pins s σ H _ I h) λus s1 ⟨vs,H1,I1,r1,q1⟩=>?_) hs rfl;obtain⟨j,e,q1,q2,q⟩:=q1;subst e;cases r1 with
 | cons r rr=>
  cases rr;obtain⟨t,rfl⟩:=r;exact call_range_1<|Px I1 (by omega) (by omega) q1 q2<|by simpa using q
def wD(wi:TI)(g:TG)(tb:TS):TS:=λD σ H=>wi σ H λJ H1=>∃ W:Nat->Nat->St->Hp->Prop,(∃ m,W 0 m σ H1)/\∀ i m σ H,W i m σ H ->
 (J.stop i H/\D.nx σ H)\/(J.go i H/\∃ N:St->Hp->Prop,(∀ σ' H',N σ' H'->∃ m',m' < m/\W (i+1) m' σ' H')/\∀ x H',J.pR i H x H'->g x σ H' λσ2 H2=>tb {D with nx:=N,ct:=N,bk:=D.nx} σ2 H2)
def pS(fp:List Addr)(h:Heap):List (Addr×Obj):=fp.filterMap λb=>(h.get? b).map λo=>(b,o)
theorem sY{fp:List Addr}{h:Heap}{b:Addr}{o:Obj}(hb:b∈fp)(e:h.get? b=some o):(b,o)∈pS fp h:=Fw.mpr ⟨b,hb,by rw [e];rfl⟩
theorem Py{fp:List Addr}{h:Heap}{p:Addr×Obj}(hp:p∈pS fp h):p.1∈fp/\h.get? p.1=some p.2:=by
 obtain⟨b,hb,e⟩:=Fw.mp hp;cases q:h.get? b with
 | none=>rw [q] at e;cases e
 | some o=>
  rw [q] at e;have e':(b,o)=p:=Option.some.inj e;subst e';exact⟨hb,q⟩
theorem Inv.pinned{pins:List (Addr×Obj)}{σ:St}{H:Hp}{s:Shared}{fp:List Addr}(I:Inv X pins σ H s)(hf:∀ b∈fp,bV X pins H b)(ho:∀ b∈fp,∃ o,s.heap.get? b=some o/\∀ v,o.data ≠ .cell v):Inv X (pins++pS fp s.heap) σ H s:=
 I.gp λp hp=>(An.mp hp).elim (λz=>I.pin p<|Ao _ z) λz=>by
  obtain⟨hb,e⟩:=Py z;obtain⟨f0,f1,f2,_⟩:=hf p.1 hb;obtain⟨o,e',d⟩:=ho p.1 hb;rw [e] at e';cases e';exact⟨e,f0,f1,f2,d⟩
theorem Inv.cB{pins pl:List (Addr×Obj)}{σ:St}{H:Hp}{s:Shared}(I:Inv X (pins++pl) σ H s):Inv X pins σ H s:=I.gp λp hp=>I.pin p<|Ao _<|Ax _ hp
theorem Pz{iter:Expr}{body:List Stmt}{wi:TI}{g:TG}{tb:TS}{pos:Pos}(hp:PassesOwn (model X.prog X.w) X.A X.env X.xe)(hc:X.calm=true)(hi:PI X tg iter wi)(hg:PG X tg g)(hb:gL X body tb)
  (hs:∀ x,foldedSetIterable iter X.env x=pure x:=by intro _;rfl):PS X (.For tg iter body [] pos) (wD wi g tb):=by
 intro pins s σ H D I h;refine wpAny_For (aP (hi pins s σ H _ I h) λv s1 h1=>aP h1 λkW s2 h2=>?_) hs;obtain⟨it,fp,tn,J,H2,e,I2,T,eS,f2,W,⟨m0,w0⟩,turn⟩:=h2;subst e;have stat:∀{H':Hp},(∀ b∈fp,H' b=none)->∀ b∈fp,bV X pins H' b:=λhn b hb=>⟨hn b hb,(f2 b hb).2⟩;refine codeAny_forLoop_any (λn s'=>∃ i σ' H',Inv X pins σ' H' s'/\tn i s'.heap/\(∀ b∈fp,H' b=none)/\W i n σ' H') ?_ m0 ⟨0,σ,H2,I2,eS,λb hb=>(f2 b hb).1,w0⟩;rintro n s3 ⟨i,σ3,H3,I3,FY,F0,w3⟩
 rcases turn i n σ3 H3 w3 with ⟨stop,qn⟩ | ⟨go,N,hN,step⟩
 ·refine HD hp<|aP (T.done X rfl rfl rfl hc i pins s3 σ3 H3 X.xe I3 (stat F0) FY stop) λr s4 ⟨hr,I4⟩=>?_;subst hr;exact RJ ⟨σ3,H3,I4,qn⟩
 ·refine HD hp<|aP (T.item X rfl rfl rfl hc i pins s3 σ3 H3 X.xe I3 (stat F0) FY go) λr s4 ⟨u,hr,h4⟩=>?_;subst hr;refine HD hp<|aP h4 λ_ s5 ⟨x,H5,I5,r5,y5,wF,PD⟩=>?_;have PF:=I5.pinned (stat PD)<|T.obj _ _ wF;refine HD hp<|aP (hg _ s5 σ3 H5 x u _ PF r5<|step x H5 y5) λ_ s6 ⟨σ6,H6,I6,q6⟩=>?_;refine HD hp<|aP (hb _ s6 σ6 H6 _ I6 q6) λf s7 q7=>?_;have again:∀{σ7:St} {H7:Hp},Inv X (pins++pS fp s5.heap) σ7 H7 s7->N σ7 H7->∃ m,m < n/\∃ i σ' H',Inv X pins σ' H' s7/\tn i s7.heap/\(∀ b∈fp,H' b=none)/\W i m σ' H':=λ{σ7 H7} I7 n7=>by
   obtain⟨m',hm,w7⟩:=hN σ7 H7 n7;refine⟨m',hm,i+1,σ7,H7,I7.cB,T.keep _ _ _ wF λb hb o e=>(I7.pin (b,o)<|Ao _<|Ao _<|sY hb e).1,λb hb=>?_,w7⟩;obtain⟨o,e,d⟩:=T.obj _ _ wF b hb;exact(I7.pin (b,o)<|Ao _<|Ao _<|sY hb e).2.1
  cases f with
  | next=>obtain⟨σ7,H7,I7,n7⟩:=q7;exact again I7 n7
  | cont=>obtain⟨σ7,H7,I7,n7⟩:=q7;exact again I7 n7
  | brk=>obtain⟨σ7,H7,I7,q7⟩:=q7;exact⟨σ7,H7,I7.cB,q7⟩
  | ret v=>obtain⟨x7,σ7,H7,I7,r7,q7⟩:=q7;exact⟨x7,σ7,H7,I7.cB,r7,q7⟩
end
abbrev R2:=V->V->Hp->VK->Prop
def cr(X:Cx)(f:Value->Value->Sem Value)(r:R2):Prop:=
 ∀(pins:List<|Addr×Obj) (s:Shared) (σ:St) (H:Hp) (x y:V) (v u:Value) (Q:VK),Inv X pins σ H s->RelV x v->RelV y u->r x y H Q ->
  wpAny (model X.prog X.w) X.A (f v u) (EP X pins σ Q) X.xe s
def sZ(X:Cx)(f:Value->Sem Value)(r:V->Hp->VK->Prop):Prop:=
 ∀(pins:List<|Addr×Obj) (s:Shared) (σ:St) (H:Hp) (x:V) (v:Value) (Q:VK),Inv X pins σ H s->RelV x v->r x H Q ->
  wpAny (model X.prog X.w) X.A (f v) (EP X pins σ Q) X.xe s
def fJ(X:Cx)(f:Value)(r:List V->Hp->VK->Prop):Prop:=
 ∀(pins:List<|Addr×Obj) (s:Shared) (σ:St) (H:Hp) (xs:List V) (us:List Value) (Q:VK),Inv X pins σ H s->av xs us->r xs H Q ->
  wpAny (model X.prog X.w) X.A (call f us) (EP X pins σ Q) X.xe s
def ti(r:R2)(ta tb:TE):TE:=λσ H Q=>ta σ H λx H1=>tb σ H1 λy H2=>r x y H2 Q
def PH(r:V->Hp->VK->Prop)(ta:TE):TE:=λσ H Q=>ta σ H λx H1=>r x H1 Q
def rI(C:Int->Int->Prop)(g:Int->Int->V):R2:=λx y H Q=>∃ i j,x = .int i/\y = .int j/\C i j/\Q (g i j) H
def mq(g:Int->Int->V):R2:=λx y H Q=>∃ i j,x = .int i/\y = .int j/\Q (g i j) H
def rU(g:Int->V):V->Hp->VK->Prop:=λx H Q=>∃ i,x = .int i/\Q (g i) H
section
variable{X:Cx}{a b c:Expr}{ta tb tc:TE}{pos:Pos}
theorem mr(ha:PE X a ta)(hb:PE X b tb){pins:List (Addr×Obj)}{s:Shared}{σ:St}{H:Hp}{R:V->V->Hp->Prop}(I:Inv X pins σ H s)
  (h:ta σ H λx H1=>tb σ H1 λy H2=>R x y H2) {Q:Value->Shared->Prop} {f:Value->Value->Sem Value}
  (hf:∀ v u s2 x y H2,Inv X pins σ H2 s2->RelV x v->RelV y u->R x y H2->wpAny (model X.prog X.w) X.A (f v u) Q X.xe s2) :
  wpAny (model X.prog X.w) X.A (eval a X.env) (λv s₁=>wpAny (model X.prog X.w) X.A (eval b X.env) (λu s₂=>wpAny (model X.prog X.w) X.A (f v u) Q X.xe s₂) X.xe s₁) X.xe s:=by
 refine aP (ha pins s σ H _ I h) λv s1 ⟨x,H1,I1,r1,q1⟩=>?_;refine aP (hb pins s1 σ H1 _ I1 q1) λu s2 ⟨y,H2,I2,r2,q2⟩=>?_;exact hf v u s2 x y H2 I2 r1 r2 q2
theorem PQ{op:Operator}{r:R2}(ho:cr X (binaryOp op) r)(ha:PE X a ta)(hb:PE X b tb):PE X (.BinOp a op b pos) (ti r ta tb):=by
 intro pins s σ H Q I h;exact wpAny_BinOp<|mr ha hb I h λv u s2 x y H2 I2 rx ry q=>ho pins s2 σ H2 x y v u Q I2 rx ry q
theorem PR{op:UnaryOp}{r:V->Hp->VK->Prop}(ho:sZ X (unaryOp op) r)(ha:PE X a ta):PE X (.UnaryOp op a pos) (PH r ta):=by
 intro pins s σ H Q I h;exact UnaryOp_<|aP (ha pins s σ H _ I h) λv s1 ⟨x,H1,I1,r1,q1⟩=>ho pins s1 σ H1 x v Q I1 r1 q1
theorem oo{f:Value->Value->Sem Value}{C:Int->Int->Prop}{g:Int->Int->Int}
  (rule:∀(i j:Int) (t u:Tok) (s:Shared) (Q:Value->Shared->Prop) (E:Value->Shared->Prop),C i j->Q (.int (g i j) s.toks) {s with toks:=s.toks+1}->wpAny (model X.prog X.w) X.A (f (.int i t)<|.int j u) Q E s) :
  cr X f (rI C λi j=> .int<|g i j):=by
 intro pins s σ H x y v u Q I rx ry h;obtain⟨i,j,rfl,rfl,hc,q⟩:=h;obtain⟨t,rfl⟩:=rx;obtain⟨t',rfl⟩:=ry;exact rule i j t t' s _ _ hc ⟨.int<|g i j,H,I.tok _,⟨_,rfl⟩,q⟩
theorem mv{f:Value->Value->Sem Value}{g:Int->Int->Int}
  (rule:∀(i j:Int) (t u:Tok) (s:Shared) (Q:Value->Shared->Prop) (E:Value->Shared->Prop),Q (.int (g i j) s.toks) {s with toks:=s.toks+1}->wpAny (model X.prog X.w) X.A (f (.int i t)<|.int j u) Q E s) :
  cr X f (mq λi j=> .int<|g i j):=by
 intro pins s σ H x y v u Q I rx ry h;obtain⟨i,j,rfl,rfl,q⟩:=h;obtain⟨t,rfl⟩:=rx;obtain⟨t',rfl⟩:=ry;exact rule i j t t' s _ _ ⟨.int<|g i j,H,I.tok _,⟨_,rfl⟩,q⟩
theorem pT{f:Value->Value->Sem Value}{g:Int->Int->Bool}
  (rule:∀(i j:Int) (t u:Tok) (s:Shared) (Q:Value->Shared->Prop) (E:Value->Shared->Prop),Q (.bool<|g i j) s->wpAny (model X.prog X.w) X.A (f (.int i t)<|.int j u) Q E s) :
  cr X f (mq λi j=> .bl<|g i j):=by
 intro pins s σ H x y v u Q I rx ry h;obtain⟨i,j,rfl,rfl,q⟩:=h;obtain⟨t,rfl⟩:=rx;obtain⟨t',rfl⟩:=ry;exact rule i j t t' s _ _ ⟨.bl<|g i j,H,I,rfl,q⟩
def pU(i j:Int):Prop:=0 < j/\j < 1073741824
def pV(i j:Int):Prop:=0<=j/\j<=1000000/\i.natAbs < 2 ^ 64
def mw(i j:Int):Prop:=(-(2 ^ 64) < i/\i < 2 ^ 64)\/(-(2 ^ 64) < j/\j < 2 ^ 64)
theorem mw.ok{i j:Int}(h:mw i j):IntMulOk i j:=by
 rcases h with ⟨h1,h2⟩ | ⟨h1,h2⟩
 ·exact .of_left<|intBits_le_64 h1 h2
 ·exact .of_right<|intBits_le_64 h1 h2
theorem PU(k:Nat):(0:Int)<=2 ^ k:=by
 rw [two_pow_cast];exact Fc _
theorem fc:cr X (binaryOp .Add) (mq λi j=> .int<|i+j):=mv λ_ _ _ _ _ _ _ q=>add_int q
theorem wG:cr X (binaryOp .Sub) (mq λi j=> .int<|i - j):=mv λ_ _ _ _ _ _ _ q=>sub_int q
theorem pW:cr X (binaryOp .Mult) (rI mw λi j=> .int<|i * j):=oo λ_ _ _ _ _ _ _ hc q=>mul_int q hc.ok
theorem gu:cr X (binaryOp .FloorDiv) (rI pU λi j=> .int<|i / j):=oo λi j _ _ _ _ _ hc q=>by
 have h1:(0:Int) < j:=hc.1;have h2:j < 1073741824:=hc.2;exact floordiv_int (by omega) (by rw [QC i<|by omega];exact q)<|.inl<|PyProof.noPylong_small<|by omega
theorem cJ:cr X (binaryOp .Mod) (rI (λ_ j=>0 < j) λi j=> .int<|i % j):=oo λi j _ _ _ _ _ hc q=>by
 have h1:(0:Int) < j:=hc;exact mod_int' (by omega)<|by rw [Int.fmod_eq_emod_of_nonneg i<|by omega];exact q
theorem F1:cr X (binaryOp .Pow) (rI pV λi j=> .int<|i ^ j.toNat):=oo λ_ _ _ _ _ _ _ hc q=>pow_int_small hc.1 hc.2.1 hc.2.2 q
theorem F3:cr X (binaryOp .LShift) (rI pV λi j=> .int<|i * 2 ^ j.toNat):=oo λ_ _ _ _ _ _ _ hc q=>lshift_int_small hc.1 hc.2.1 hc.2.2 q
theorem F4:cr X (binaryOp .RShift) (rI (λ_ j=>0<=j) λi j=> .int<|i / 2 ^ j.toNat):=oo λi j _ _ _ _ _ hc q=>
 rshift_int hc (by rw [QC i<|PU _];exact q)
theorem F5:cr X (binaryOp .BitAnd) (mq λi j=> .int<|Builtin.bitAnd i j):=mv λ_ _ _ _ _ _ _ q=>and_int q
theorem PV{f:Value->Sem Value}{g:Int->Int}
  (rule:∀(i:Int) (t:Tok) (s:Shared) (Q:Value->Shared->Prop) (E:Value->Shared->Prop),Q (.int (g i) s.toks) {s with toks:=s.toks+1}->wpAny (model X.prog X.w) X.A (f<|.int i t) Q E s) :
  sZ X f (rU λi=> .int<|g i):=by
 intro pins s σ H x v Q I rx h;obtain⟨i,rfl,q⟩:=h;obtain⟨t,rfl⟩:=rx;exact rule i t s _ _ ⟨.int<|g i,H,I.tok _,⟨_,rfl⟩,q⟩
theorem F6:sZ X (unaryOp .USub) (rU λi=> .int (-i)):=PV λ_ _ _ _ _ q=>neg_int q
def pX:V->V->Bool
 | .non,.non=>true | .non,.int _=>true | .int _,.non=>true | .non,.bl _=>true | .bl _,.non=>true | .non,.str _=>true | .str _,.non=>true
 | .int _,.int _=>true | .bl _,.bl _=>true | .str _,.str _=>true | .iF _,.iF _=>true
 | .int _,.str _=>true | .str _,.int _=>true | .bl _,.str _=>true | .str _,.bl _=>true
 | _,_=>false
def PY:R2:=λx y H Q=>pX x y=true/\Q (.bl<|decide (x=y)) H
def PZ:R2:=λx y H Q=>pX x y=true/\Q (.bl (!decide (x=y))) H
theorem F7{i j:Int}:decide (V.int i=V.int j)=(i == j):=by
 rw [Cw];simp
theorem F8{i j:Bool}:decide (V.bl i=V.bl j)=(i == j):=by
 rw [Cw];simp
theorem F9{i j:Str}:decide (V.str i=V.str j)=(i == j):=by
 rw [Cw];simp
theorem F'{i j:Array UInt8}:decide (V.iF i=V.iF j)=(i.toList == j.toList):=by
 rw [Cw];cases i;cases j;simp
theorem cv{pins:List (Addr×Obj)}{σ:St}{H:Hp}{s:Shared}{Q:VK}{k k':Bool}(I:Inv X pins σ H s)(q:Q (.bl k) H)(e:k=k'):EP X pins σ Q (.bool k') s:=by
 subst e;exact⟨.bl k,H,I,rfl,q⟩
theorem kX:cr X (compareOp .Eq) PY:=by
 intro pins s σ H x y v u Q I rx ry h;obtain⟨hs,q⟩:=h;cases x with
 | non=>
  cases rx;cases y with
  | non=>cases ry;exact PySem.EqNone.eq_none_none<|cv I q<|by simp
  | bl j=>cases ry;exact PySem.EqNone.eq_none_bool<|cv I q<|by simp
  | int j=>obtain⟨t',rfl⟩:=ry;exact PySem.EqNone.eq_none_int<|cv I q<|by simp
  | str j=>obtain⟨t',rfl⟩:=ry;exact PySem.EqNone.eq_none_str<|cv I q<|by simp
  | _=>exact absurd (show false=true from hs) At
 | bl i=>
  cases rx;cases y with
  | non=>cases ry;exact PySem.EqNone.eq_bool_none<|cv I q<|by simp
  | bl j=>cases ry;exact eq_bool<|cv I q F8
  | str j=>obtain⟨t',rfl⟩:=ry;exact PySem.EqMixed.eq_bool_str<|cv I q<|by simp
  | _=>exact absurd (show false=true from hs) At
 | int i=>
  obtain⟨t,rfl⟩:=rx;cases y with
  | non=>cases ry;exact PySem.EqNone.eq_int_none<|cv I q<|by simp
  | int j=>obtain⟨t',rfl⟩:=ry;exact eq_int<|cv I q F7
  | str j=>obtain⟨t',rfl⟩:=ry;exact PySem.EqMixed.eq_int_str<|cv I q<|by simp
  | _=>exact absurd (show false=true from hs) At
 | str i=>
  obtain⟨t,rfl⟩:=rx;cases y with
  | non=>cases ry;exact PySem.EqNone.eq_str_none<|cv I q<|by simp
  | bl j=>cases ry;exact PySem.EqMixed.eq_str_bool<|cv I q<|by simp
  | int j=>obtain⟨t',rfl⟩:=ry;exact PySem.EqMixed.eq_str_int<|cv I q<|by simp
  | str j=>obtain⟨t',rfl⟩:=ry;exact eq_str<|cv I q F9
  | _=>exact absurd (show false=true from hs) At
 | iF i=>
  obtain⟨t,rfl⟩:=rx;cases y with
  | iF j=>obtain⟨t',rfl⟩:=ry;exact PySem.W.eq_bytes<|cv I q F'
  | _=>exact absurd (show false=true from hs) At
 | _=>cases y <;> exact absurd (show false=true from hs) At
theorem wH:cr X (compareOp .NotEq) PZ:=by
 intro pins s σ H x y v u Q I rx ry h;obtain⟨hs,q⟩:=h;cases x with
 | non=>
  cases rx;cases y with
  | non=>cases ry;exact PySem.EqNone.ne_none_none<|cv I q<|by simp
  | bl j=>cases ry;exact PySem.EqNone.ne_none_bool<|cv I q<|by simp
  | int j=>obtain⟨t',rfl⟩:=ry;exact PySem.EqNone.ne_none_int<|cv I q<|by simp
  | str j=>obtain⟨t',rfl⟩:=ry;exact PySem.EqNone.ne_none_str<|cv I q<|by simp
  | _=>exact absurd (show false=true from hs) At
 | bl i=>
  cases rx;cases y with
  | non=>cases ry;exact PySem.EqNone.ne_bool_none<|cv I q<|by simp
  | bl j=>cases ry;exact ne_bool<|cv I q<|BZ not F8
  | str j=>obtain⟨t',rfl⟩:=ry;exact PySem.EqMixed.ne_bool_str<|cv I q<|by simp
  | _=>exact absurd (show false=true from hs) At
 | int i=>
  obtain⟨t,rfl⟩:=rx;cases y with
  | non=>cases ry;exact PySem.EqNone.ne_int_none<|cv I q<|by simp
  | int j=>obtain⟨t',rfl⟩:=ry;exact ne_int<|cv I q<|BZ not F7
  | str j=>obtain⟨t',rfl⟩:=ry;exact PySem.EqMixed.ne_int_str<|cv I q<|by simp
  | _=>exact absurd (show false=true from hs) At
 | str i=>
  obtain⟨t,rfl⟩:=rx;cases y with
  | non=>cases ry;exact PySem.EqNone.ne_str_none<|cv I q<|by simp
  | bl j=>cases ry;exact PySem.EqMixed.ne_str_bool<|cv I q<|by simp
  | int j=>obtain⟨t',rfl⟩:=ry;exact PySem.EqMixed.ne_str_int<|cv I q<|by simp
  | str j=>obtain⟨t',rfl⟩:=ry;exact ne_str<|cv I q<|BZ not F9
  | _=>exact absurd (show false=true from hs) At
 | iF i=>
  obtain⟨t,rfl⟩:=rx;cases y with
  | iF j=>obtain⟨t',rfl⟩:=ry;exact PySem.W.ne_bytes<|cv I q<|BZ not F'
  | _=>exact absurd (show false=true from hs) At
 | _=>cases y <;> exact absurd (show false=true from hs) At
theorem P0:cr X (compareOp .Lt) (mq λi j=> .bl<|decide (i < j)):=pT λ_ _ _ _ _ _ _ q=>lt_int q
theorem GH:cr X (compareOp .Gt) (mq λi j=> .bl<|decide (j < i)):=pT λ_ _ _ _ _ _ _ q=>gt_int q
theorem P1{op:CmpOp}{r:R2}(ho:cr X (compareOp op) r)(ha:PE X a ta)(hb:PE X b tb)(hm:behindInMarks op b=false):PE X (.Compare a [op] [b] pos) (ti r ta tb):=by
 intro pins s σ H Q I h;exact wpAny_Compare1 (mr ha hb I h λv u s2 x y H2 I2 rx ry q=>ho pins s2 σ H2 x y v u Q I2 rx ry q) hm
def P2(t:TE):TT:=λσ H Q=>t σ H λx H'=>∃ k,x = .bl k/\Q k H'
theorem P4{op:CmpOp}{r:R2}(ho:cr X (compareOp op) r)(ha:PE X a ta)(hb:PE X b tb)(hm:behindInMarks op b=false):PT X (.Compare a [op] [b] pos) (P2<|ti r ta tb):=by
 intro pins s σ H Q I h;refine wpAny_isTrue_Compare1 (aP (ha pins s σ H _ I h) λv s1 ⟨x,H1,I1,r1,q1⟩=>aP (hb pins s1 σ H1 _ I1 q1) λu s2 ⟨y,H2,I2,r2,q2⟩=>
  aP (ho pins s2 σ H2 x y v u _ I2 r1 r2 q2) λc s3 ⟨z,H3,I3,r3,k,e,q3⟩=>?_) hm
 subst e;cases r3;exact FZ ⟨H3,I3,q3⟩
theorem tj:(sizeLine:Nat) < 2 ^ 63:=by rw [FJ];decide
theorem P5:cr X (binaryOp .Add) (λx y H Q=>∃ i j,x = .str i/\y = .str j/\i.length+j.length<=sizeLine/\Q (.str<|i++j) H):=by
 intro pins s σ H x y v u Q I rx ry h;obtain⟨i,j,rfl,rfl,hz,q⟩:=h;obtain⟨t,rfl⟩:=rx;obtain⟨t',rfl⟩:=ry;exact add_str (λt' tk=>⟨.str<|i++j,H,I.tok _,⟨_,rfl⟩,q⟩) hz
theorem vals1{x:V}{us:List Value}(r:av [x] us):∃ u,us=[u]/\RelV x u:=by
 cases r with
 | cons r1 r2=>cases r2;exact⟨_,rfl,r1⟩
theorem vals2{x y:V}{us:List Value}(r:av [x,y] us):∃ u w',us=[u,w']/\RelV x u/\RelV y w':=by
 cases r with
 | cons r1 r2=>
  cases r2 with
  | cons r3 r4=>cases r4;exact⟨_,_,rfl,r1,r3⟩
theorem wI(hc:X.calm=true):fJ X (.builtin "max") (λxs H Q=>∃ i j,xs=[.int i,.int j]/\Q (.int (if j > i then j else i)) H):=by
 intro pins s σ H xs us Q I r h;obtain⟨i,j,rfl,q⟩:=h;obtain⟨u,w',rfl,⟨t,rfl⟩,⟨t',rfl⟩⟩:=vals2 r;refine max_two_ints (I.ok.hd hc) λh' tk k=>⟨_,H,I.kept k,?_,q⟩
 by_cases hj:j > i
 ·rw [BP hj,BP hj];exact⟨_,rfl⟩
 ·rw [BL hj,BL hj];exact⟨_,rfl⟩
end
structure my(h:Heap)(x dx C:Addr)(mA:Str->Option Value):Prop where
 obj:h.get? x=some (PySem.W.instObj C dx)
 ns:h.Ns1 dx mA
 ne:dx≠x
theorem P6{h:Heap}{dx:Addr}{mA:Str->Option Value}(n:h.Ns1 dx mA):∃ od,h.get? dx=some od/\∀ name,PySem.W.lookIn name od=some (mA name):=by
 obtain⟨o,es,ep,ho,hd,hk,_,hm⟩:=n;refine⟨o,ho,λname=>?_⟩;have e:=hm name;unfold nsFind findBy at e;rw [<- Array.find?_toList] at e;unfold PySem.W.lookIn;rw [hd]
 dsimp only
 split
 ·rename_i y q;rw [q] at e;exact BZ some e
 ·rename_i q;rw [q] at e;have a:es.toList.any (·.refKey)=false:=by
   rw [List.any_eq_false];intro y hy;obtain⟨z,t,wJ⟩:=hk y<|Array.mem_toList_iff.mp hy;simp [DictEntry.refKey,wJ]
  have a':¬ es.toList.any (·.refKey)=true:=by rw [a];exact At
  rw [BL a'];exact BZ some e
theorem my.look{h:Heap}{x dx C:Addr}{mA:Str->Option Value}(I:my h x dx C mA):∃ od,PySem.W.InstAt h x (PySem.W.instObj C dx) C (some od)/\∀ name,PySem.W.lookIn name od=some (mA name):=
 let ⟨od,ho,hl⟩:=P6 I.ns
 ⟨od,⟨I.obj,rfl,rfl,ho⟩,hl⟩
section
variable{prog:Program}{w:World}{A:Around}{E:Value->Shared->Prop}{s:Shared}{K:PySem.W.Frag}{x dx C f:Addr}{mA:Str->Option Value}{name:Str}{v:Value}
end
theorem dc.some_of{v:V}{o:Option Value}(r:dc (some v) o):∃ u,o=some u/\RelV v u:=by
 cases o with
 | none=>exact(show False from r).elim
 | some u=>exact⟨u,rfl,r⟩
section
variable{P:Program}{w:World}{H H':Hp}{h h':Heap}{a C dx:Addr}{fs OG:List (Str×V)}
theorem P7(aE:b4 P w H h)(e:H a=some (.ins C dx fs)):∃ mA,my h a dx C mA/\(∀ f,dc (fs.lookup f)<|mA f)/\PySem.Within mA (fs.map (·.1))/\fs.length<=1000/\H dx=some (.own a):=by
 obtain⟨d,z,ne,ob,mA,n,r,q⟩:=(show az P w H h a (.ins C dx fs) from aE a _ e);exact⟨mA,⟨ob,n,ne⟩,r,q,z,d⟩
end
structure wK(K:PySem.W.Frag)(C:Addr):Prop where
 pg:PySem.W.plainGet K C Str.empty=true
 hd:PySem.W.hasDictIn K C=true
 po:PySem.W.plainOver K C=true
 sa:PySem.W.findIn K (.ref C) "__setattr__" = some (some<|.builtin "object.__setattr__")
theorem wK.get{K:PySem.W.Frag}{C:Addr}(c:wK K C)(f:Str):PySem.W.plainGet K C f=true:=c.pg
section
variable{X:Cx}{pins:List (Addr×Obj)}{σ:St}{H:Hp}{s:Shared}{a C dx:Addr}{fs:List (Str×V)}{f:Str}{v:V}{A:Around}{E:Value->Shared->Prop}
end
section
variable{X:Cx}{o e value:Expr}{f:Str}{pos pos' wL:Pos}{ta tv:TE}
end
section
variable{X:Cx}{pins:List (Addr×Obj)}{σ:St}{H:Hp}{s:Shared}{A:Around}{E:Value->Shared->Prop}{Q:Value->Shared->Prop}{c:Value}{b:Bool}
inductive cK (K:PySem.W.Frag) (H:Hp):V->Value->Prop where
 | non:cK K H .non<|.type "NoneType"
 | bl (x:Bool):cK K H (.bl x)<|.type "bool"
 | int (i:Int):cK K H (.int i)<|.type "int"
 | str (x:Str):cK K H (.str x)<|.type "str"
 | og (x:UInt64):cK K H (.og x)<|.type "float"
 | lst {a:Addr} {xs:List V} (e:H a=some (.lst xs)):cK K H (.ref a)<|.type "list"
 | bD {a:Addr} {o:Obj} {xs:List V} (e:H a=some (.bD o<|.lst xs)):cK K H (.ref a)<|.type "list"
 | tup {a:Addr} {xs:List V} (e:H a=some (.tup xs)):cK K H (.ref a)<|.type "tuple"
 | dK {a:Addr} {kvs:List (Key×V)} (e:H a=some (.dK kvs)):cK K H (.ref a)<|.type "dict"
 | dT {a:Addr} {kvs:List (List Key×V)} (e:H a=some (.dT kvs)):cK K H (.ref a)<|.type "dict"
 | ins {a C dx:Addr} {fs:List (Str×V)} (e:H a=some (.ins C dx fs)) (cl:wK K C) (ha:PySem.W.findIn K (.ref C) "__class__" = some (some<|.builtin "object.__class__"))
   (hn:PySem.W.specialIn K (.builtin "object.__class__") "__get__" = some (some<|.builtin "getset_descriptor.__get__")) (GU:PySem.W.takesIn K (.builtin "object.__class__")=some true)
   (hm:PySem.W.mroIn K C (.type "object")=some true):cK K H (.ref a)<|.ref C
theorem P8{x:V}{u t:Value}(I:Inv X pins σ H s)(rx:RelV x u)(ty:cK X.K H x t)(e:PySem.W.kitOne X.K t c=some b)(h:∀ tk,Q (.bool b) {s with toks:=tk}) :
  wpAny (model X.prog X.w) A (call (.builtin "isinstance") [u,c]) Q E s:=by
 cases ty with
 | non=>cases (show u=Value.none from rx);exact DY PySem.W.kitx_none I.e9 True.intro e (λz=>nomatch z) h
 | bl y=>cases (show u=Value.bool y from rx);exact DY PySem.W.kitx_bool I.e9 True.intro e (λz=>nomatch z) h
 | int i=>obtain⟨t,q⟩:=(show ∃ t,u=Value.int i t from rx);cases q;exact DY PySem.W.kitx_int I.e9 True.intro e (λz=>nomatch z) h
 | str y=>obtain⟨t,q⟩:=(show ∃ t,u=Value.str y t from rx);cases q;exact DY PySem.W.kitx_str I.e9 True.intro e (λz=>nomatch z) h
 | og y=>obtain⟨t,q⟩:=(show ∃ t,u=Value.float y t from rx);cases q;exact DY PySem.W.kitx_float I.e9 True.intro e (λz=>nomatch z) h
 | @lst a xs ea=>
  cases (show u=Value.ref a from rx);obtain⟨_,_,n,_,h1⟩:=(show az X.prog X.w H s.heap a (.lst xs) from I.aE a _ ea);exact DY PySem.W.kitx_list I.e9 ⟨_,h1,rfl⟩ e (λz=>nomatch z) h
 | @bD a ob xs ea=>
  cases (show u=Value.ref a from rx);obtain⟨_,_,_,n,_,h1⟩:=(show az X.prog X.w H s.heap a (.bD ob<|.lst xs) from I.aE a _ ea);exact DY PySem.W.kitx_list I.e9 ⟨_,h1,rfl⟩ e (λz=>nomatch z) h
 | @tup a xs ea=>
  cases (show u=Value.ref a from rx);obtain⟨_,_,_,p⟩:=(show az X.prog X.w H s.heap a (.tup xs) from I.aE a _ ea);obtain⟨o,h1,h2,_⟩:=p;exact DY PySem.W.kitx_tuple I.e9 ⟨o,h1,h2⟩ e (λz=>nomatch z) h
 | @dK a kvs ea=>
  cases (show u=Value.ref a from rx);obtain⟨_,_,vs,_,p⟩:=(show az X.prog X.w H s.heap a (.dK kvs) from I.aE a _ ea);obtain⟨o,es,ep,h1,h2,_⟩:=p;exact DY PySem.W.kitx_dict I.e9 ⟨o,h1,h2.1⟩ e (λz=>nomatch z) h
 | @dT a kvs ea=>
  cases (show u=Value.ref a from rx);obtain⟨_,_,xs,_,o,es,ep,h1,h2,_⟩:=(show az X.prog X.w H s.heap a (.dT kvs) from I.aE a _ ea);exact DY PySem.W.kitx_dict I.e9 ⟨o,h1,h2.1⟩ e (λz=>nomatch z) h
 | @ins a C dx fs ea cl ha hn GU hm=>
  cases (show u=Value.ref a from rx);obtain⟨mA,O,_⟩:=P7 I.aE ea;obtain⟨od,J,_⟩:=O.look;exact DY (PySem.W.kitx_own (cl.get _) cl.hd ha hn GU hm) I.e9 J e (λz=>nomatch z) h
end
structure bv(k:Nat)(A:Around):Prop where
 hd:A.handled=none
 dp:A.depth+3 * k+5 < recursionLimit
 un:A.units+16 * k+200 < cLine
theorem bv.mono{j k:Nat}{A:Around}(r:bv k A)(h:j<=k):bv j A:=⟨r.hd,by have:=r.dp;omega,by have:=r.un;omega⟩
theorem bv.deeper{k:Nat}{A:Around}(r:bv (k+1) A)(env:Env):bv k (A.deeper env):=
 ⟨r.hd,by have:=r.dp;show A.depth+1+3 * k+5 < _;omega,by have:=r.un;show A.units+3+16 * k+200 < _;omega⟩
theorem bv.depth{k:Nat}{A:Around}(r:bv k A):A.depth < recursionLimit:=by have:=r.dp;omega
def wM:TA:=λ_ H Q=>Q [] H
def GV(ta:TE)(tr:TA):TA:=λσ H Q=>ta σ H λx H1=>tr σ H1 λxs H2=>Q (x :: xs) H2
section
variable{X:Cx}{e:Expr}{es:List Expr}{te:TE}{t:TA}{pos:Pos}
theorem P9:PA X [] wM:=λ_ _ _ _ H Q I h=>Calls.spliced_nil ⟨[],H,I,.nil,h⟩
theorem P'(ha:PE X e te)(hr:PA X es t)(hs:starEach (e :: es) X.env=(false,eval e X.env) :: starEach es X.env:=by rfl):PA X (e :: es) (GV te t):=by
 intro pos pins s σ H Q I h;rw [hs];show wpAny _ _ (spliced<|(false,eval e X.env) :: backTo pos (starEach es X.env)) _ _ s;refine Calls.spliced_cons<|aP (ha pins s σ H _ I h) λu s1 ⟨x,H1,I1,r1,q1⟩=>?_;exact aP (hr pos pins s1 σ H1 _ I1 q1) λus s2 ⟨xs,H2,I2,r2,q2⟩=>⟨x :: xs,H2,I2,.cons r1 r2,q2⟩
def wN(t:TA):TE:=λσ H Q=>t σ H λxs H1=>xs.length<=sizeLine/\∀ p,H1 p=none->Q (.ref p) (upd H1 p<|.tup xs)
def wO(t:TA):TE:=λσ H Q=>t σ H λxs H1=>xs.length<=sizeLine/\∀ p,H1 p=none->Q (.ref p) (upd H1 p<|.lst xs)
theorem Qa{x1}(h:PA X es t):PE X (.Tuple es x1 pos) (wN t):=by
 intro pins s σ H Q I hq;refine wpAny_Tuple_spliced (aP (h pos pins s σ H _ I hq) λus s1 ⟨xs,H1,I1,r,z,q⟩=>⟨by rw [<- r.length];exact z,?_⟩);have hf:H1 s1.heap.objs.size=none:=I1.aE.fresh<|Am _;refine⟨.ref s1.heap.objs.size,upd H1 s1.heap.objs.size<|.tup xs,I1.laid (t':=s1.toks) (λb u e=>Af _ e) (Am _) ?_,rfl,q _ hf⟩;exact⟨z,us,r,⟨_,As _ rfl,rfl,_,rfl⟩⟩
theorem Qb(h:PA X es t):PE X (.List es pos) (wO t):=by
 intro pins s σ H Q I hq;refine wpAny_List_spliced (aP (h pos pins s σ H _ I hq) λus s1 ⟨xs,H1,I1,r,z,q⟩=>⟨by rw [<- r.length];exact z,?_⟩);have hf:H1 s1.heap.objs.size=none:=I1.aE.fresh<|Am _;refine⟨.ref s1.heap.objs.size,upd H1 s1.heap.objs.size<|.lst xs,I1.laid (t':=s1.toks) (λb u e=>Af _ e) (Am _) ?_,rfl,q _ hf⟩;exact⟨z,us,0,r,As _ rfl⟩
end
abbrev Sp:=List V->Hp->VK->XK->Prop
abbrev fP:=List Env->Hp->Shared->XK->Value->Shared->Prop
structure jT(P:Program)(w:World)(K:PySem.W.Frag)(mg:Str->Option Value)(base:Heap)(A:Around)(outer:List Env)(s:Shared)(H:Hp):Prop where
 frames:A.frames=some outer
 mod:Mod K mg base
 bs:∀ b o,base.get? b=some o->s.heap.get? b=some o/\H b=none
 kR:base.objs.size<=s.heap.objs.size
 de:s.heap.FunFrames base outer
 oi:∀ b∈ib outer,H b=none
 aE:b4 P w H s.heap
 bare:AllBare s.gens
def CE(outer:List Env)(P:Program)(w:World)(H:Hp)(s:Shared)(Q:VK)(u:Value)(s':Shared):Prop:=
 ∃ v H',s'.os=s.os/\AllBare s'.gens/\Un (ib outer) [] H H' s.heap s'.heap/\b4 P w H' s'.heap/\RelV v u/\Q v H'
def CR(CX:fP)(outer:List Env)(P:Program)(w:World)(H:Hp)(s:Shared)(Q:VK)(E:XK)(r:Result)(s':Shared):Prop:=
 match r with
 | .ok (.ret u)=>CE outer P w H s Q u s'
 | .ok _=>False
 | .error e=>CX outer H s E e s'
structure aG(P:Program)(w:World)(K:PySem.W.Frag)(mg:Str->Option Value)(base:Heap)(CX:fP)(k:Nat)(f:Addr)(fd:FuncData)(ps:List Str)(sp:Sp):Prop where
 len:∀ vs H Q E,sp vs H Q E->vs.length=ps.length
 run:∀(A:Around) (outer:List Env) (s:Shared) (H:Hp) (args:Args) (us:List Value) (vs:List V) (Q:VK) (E:XK),bv k A->jT P w K mg base A outer s H->BindsTo s fd args (ps.zip us)->av vs us->sp vs H Q E ->
  codeAny (model P w) A (.call (.ref f) args) (CR CX outer P w H s Q E) s
theorem aG.mono{P:Program}{w:World}{K:PySem.W.Frag}{mg:Str->Option Value}{base:Heap}{CX:fP}{j k:Nat}{f:Addr}{fd:FuncData}{ps:List Str}{sp:Sp}(F:aG P w K mg base CX j f fd ps sp)(h:j<=k) :
  aG P w K mg base CX k f fd ps sp:=⟨F.len,λA outer s H args us vs Q E hr=>F.run A outer s H args us vs Q E<|hr.mono h⟩
section
variable{X:Cx}{pins:List (Addr×Obj)}{σ:St}{H:Hp}{s s':Shared}
theorem Inv.wQ(I:Inv X pins σ H s):jT X.prog X.w X.K X.mg X.base X.A X.stack s H:=
 ⟨I.ok.frames,I.ok.mod,I.bs,Ce I.ok.kR I.sz,I.stack,I.gn,I.aE,I.bare⟩
theorem Inv.after{Q:VK}{u:Value}(I:Inv X pins σ H s)(h:CE X.stack X.prog X.w H s Q u s'):EP X pins σ Q u s':=by
 obtain⟨v,H',os,bare,un,aE,r,q⟩:=h;obtain⟨hh,g,d,t,wR⟩:=s';obtain rfl:wR=s.os:=os;exact⟨v,H',I.call (h':=hh) (g':=g) (d':=d) (t':=t) (ch:=[]) un aE bare (λb z=>absurd z<|by simp),r,q⟩
end
def G0(sp:Sp)(jU:List V)(E:XK)(t:TA):TE:=λσ H Q=>t σ H λvs H1=>sp (vs++jU) H1 Q E
def Binds(K:PySem.W.Frag)(fd:FuncData)(ps:List Str)(ds:List Value):Prop:=
 ∀(s:Shared) (us:List Value),K.In s.heap->(us++ds).length=ps.length->BindsTo s fd ⟨us,[]⟩ (ps.zip<|us++ds)
theorem Binds.all{K:PySem.W.Frag}{fd:FuncData}{ps:List Str}(h:∀ us:List Value,us.length=ps.length->bindArgs fd ⟨us,[]⟩=pure (ps.zip us)):Binds K fd ps []:=λs us _ hl=>by
 rw [Bz] at hl ⊢;exact .of_eq<|h us hl
def pY(CX:fP)(X:Cx)(E:XK):Prop:=∀(pins:List<|Addr×Obj) (σ:St) (H:Hp) (s:Shared) (e:Value) (s':Shared),Inv X pins σ H s->CX X.stack H s E e s'->X.xe e s'
section
variable{X:Cx}{CX:fP}{k:Nat}{f C:Addr}{fd:FuncData}{ps:List Str}{sp:Sp}{jU:List V}{ds:List Value}{E:XK}{x m:Str}{p pos apos:Pos}{e o:Expr}{es:List Expr}{ta:TE}{t:TA}
theorem Qc{pins:List (Addr×Obj)}{σ:St}{H:Hp}{s:Shared}{Q:VK}{us:List Value}{vs:List V}(F:aG X.prog X.w X.K X.mg X.base CX k f fd ps sp)(hr:bv k X.A)(hb:Binds X.K fd ps ds)(hd:av jU ds)(hx:pY CX X E)
  (I:Inv X pins σ H s) (r:av vs us) (h:sp (vs++jU) H Q E):wpAny (model X.prog X.w) X.A (call (.ref f) us) (EP X pins σ Q) X.xe s:=by
 have r2:av (vs++jU) (us++ds):=r.append hd;have hl:(us++ds).length=ps.length:=by rw [<- r2.length];exact F.len _ _ _ _ h
 refine wpAny_call<|JG (F.run X.A X.stack s H ⟨us,[]⟩ (us++ds) (vs++jU) Q E hr I.wQ (hb s us I.e9 hl) r2 h) λr s' hq=>?_;cases r with
 | error e=>exact hx pins σ H s e s' I hq
 | ok fl=>
  cases fl with
  | ret u=>exact I.after hq
  | next=>exact False.elim hq
  | brk=>exact False.elim hq
  | cont=>exact False.elim hq
theorem Qd(F:aG X.prog X.w X.K X.mg X.base CX k f fd ps sp)(hr:bv k X.A)(hg:Gl X x)(hm:X.mg x=some (.ref f))(hk:PySem.W.keepIn X.K (.ref f)=true)(hb:Binds X.K fd ps ds)(hd:av jU ds)(hx:pY CX X E)
  (ha:PA X (e :: es) t) (dJ:(x == ("__debug__" : Str))=false:=by decide) (he:starEach (e :: es) X.env=(false,eval e X.env) :: starEach es X.env:=by rfl) (mB:(backTo pos<|starEach es X.env).any (·.1)=false:=by rfl) :
  PE X (.Call (.Name x p) (e :: es) [] pos) (G0 sp jU E t):=by
 intro pins s σ H Q I h;refine JW<|FL I hg hm ?_ dJ;refine PySem.W.callWith_K (h₀:=X.base) I.ok.mod.pK hk (aP (ha pos pins s σ H _ I h) λus s1 ⟨vs,H1,I1,r,q⟩=>⟨I1.e9,?_⟩) he mB;exact Qc F hr hb hd hx I1 r q
end
section
variable{X:Cx}{CX:fP}{k:Nat}{f C:Addr}{fd:FuncData}{ps ks:List Str}{sp:Sp}{E:XK}{x m:Str}{p pos apos Qe:Pos}{e o:Expr}{es:List Expr}{kws:List Keyword}{te ta:TE}{t tk:TA}{nm:Option Str}
variable{g:List Value->List Value->List Value}{gV:List V->List V->List V}
end
structure aq(N P:List Str)(sc:Scope):Prop where
 kind:sc.kind = .function
 co:sc.isCoroutine=false
 gen:sc.isGenerator=false
 nd:N.Nodup
 pre:N.take P.length=P
 par:∀ x∈P,sc.names.lookup x=some .local\/sc.names.lookup x=some .cell
 mC:∀ y∈sc.names,y.2 ≠ .free
theorem G'{kindOf:Str->Option NameKind}{x:Str}:∀{binds:List (Str×Value)} {m:Str->Option Value},(∀ v,(x,v)∉binds)->bindL kindOf binds m x=m x
 | [],_,_=>rfl
 | (n,v) :: r,m,h=>by
  unfold bindL;rw [G' λw hw=>h w<|Ae _ hw]
  split
  ·have:x≠n:=by rintro rfl;exact h v Ad
   simp [this]
  ·rfl
theorem Hc{kindOf:Str->Option NameKind}{x:Str}:∀{binds:List (Str×Value)} {m:Str->Option Value},(∀ v,(x,v)∉binds)->bindC kindOf binds m x=m x
 | [],_,_=>rfl
 | (n,v) :: r,m,h=>by
  unfold bindC;rw [Hc λw hw=>h w<|Ae _ hw]
  split
  ·rfl
  ·have:x≠n:=by rintro rfl;exact h v Ad
   simp [this]
theorem Hd{kindOf:Str->Option NameKind}{x:Str}{v:Value}:∀{P:List Str} {vs:List Value} {i:Nat} {m:Str->Option Value},P.Nodup->P[i]?=some x->vs[i]?=some v->kindOf x=some .local ->
  bindL kindOf (P.zip vs) m x=some v
 | [],_,_,_,_,h,_,_=>by simp at h
 | _ :: _,[],_,_,_,_,h,_=>by simp at h
 | p :: P,w :: vs,0,m,nd,h1,h2,hk=>by
  simp at h1 h2;subst h1;subst h2;show bindL kindOf ((p,w) :: P.zip vs) m p=_;unfold bindL;rw [G' λv hv=>(Bg.mp nd).1 (RK hv).1,BP hk];simp
 | p :: P,w :: vs,i+1,m,nd,h1,h2,hk=>by
  show bindL kindOf ((p,w) :: P.zip vs) m x=_;unfold bindL;exact Hd (i:=i) (Bg.mp nd).2 (by simpa using h1) (by simpa using h2) hk
theorem He{kindOf:Str->Option NameKind}{x:Str}{v:Value}:∀{P:List Str} {vs:List Value} {i:Nat} {m:Str->Option Value},P.Nodup->P[i]?=some x->vs[i]?=some v->kindOf x≠some .local ->
  bindC kindOf (P.zip vs) m x=some v
 | [],_,_,_,_,h,_,_=>by simp at h
 | _ :: _,[],_,_,_,_,h,_=>by simp at h
 | p :: P,w :: vs,0,m,nd,h1,h2,hk=>by
  simp at h1 h2;subst h1;subst h2;show bindC kindOf ((p,w) :: P.zip vs) m p=_;unfold bindC;rw [Hc λv hv=>(Bg.mp nd).1 (RK hv).1,BL hk];simp
 | p :: P,w :: vs,i+1,m,nd,h1,h2,hk=>by
  show bindC kindOf ((p,w) :: P.zip vs) m x=_;unfold bindC;exact He (i:=i) (Bg.mp nd).2 (by simpa using h1) (by simpa using h2) hk
def start(N:List Str)(vs:List V):St:=vs.map some++List.replicate (N.length - vs.length) none
def fe(CX:fP)(P:Program)(w:World)(K:PySem.W.Frag)(mg:Str->Option Value)(base:Heap)(N:List Str)(qual:Str)(scope:Scope)(f:Addr)(cd:Value)(A:Around)(outer:List Env)(s:Shared)(H:Hp)(E:XK):Cx where
 prog:=P
 w:=w
 K:=K
 mg:=mg
 base:=base
 A:=A.deeper<|envOfC qual scope s.heap.objs.size f cd
 N:=N
 s₀:=s
 H₀:=H
 env:=envOfC qual scope s.heap.objs.size f cd
 outer:=outer
 stack:=envOfC qual scope s.heap.objs.size f cd :: outer
 ex:=[]
 calm:=true
 fn:=λ_=>true
 pn:=[]
 xe:=λe s'=>wpAny (model P w) (A.deeper<|envOfC qual scope s.heap.objs.size f cd) (leaving (envOfC qual scope s.heap.objs.size f cd) e) (λ_ pZ=>CX outer H s E e pZ) (λe' pZ=>CX outer H s E e' pZ) s'
theorem Hf{sc:Scope}{n:Nat}{x:Str}(h:sc.names.lookup x=some .cell):∃ c,(cellsFrom n sc.names []).lookup x=some c:=by
 have q:=JB sc.names n []<|.inl h;exact Eu.mp q
theorem Qf{CX:fP}{P:Program}{w:World}{K:PySem.W.Frag}{mg:Str->Option Value}{base:Heap}{N ps:List Str}{qual:Str}{scope:Scope}{f:Addr}{cd:Value}{A:Around}{outer:List Env}{s s1:Shared}{H:Hp}{E:XK}{us:List Value}{vs:List V}
  (S:aq N ps scope) (hd:A.handled=none) (e0:jT P w K mg base A outer s H) (hl:vs.length=ps.length) (r:av vs us)
  (x:InCallC s s.heap.objs.size (bindL (envOfC qual scope s.heap.objs.size f cd).kindOf (ps.zip us) λ_=>none) (cellsFrom (s.heap.objs.size+1) scope.names []) (bindC (envOfC qual scope s.heap.objs.size f cd).kindOf (ps.zip us) λ_=>none) s1) :
  Inv (fe CX P w K mg base N qual scope f cd A outer s H E) [] (start N vs) H s1:=by
 have mB:ps.length<=N.length:=by have:=BZ List.length S.pre;rw [Br] at this;omega
 obtain⟨h1,tk,rfl,hk⟩:=x.done;have p4:∀ b:Addr,b∉(fe CX P w K mg base N qual scope f cd A outer s H E).ex:=λb z=>absurd (show b∈([]:List Addr) from z) (by simp);refine⟨⟨e0.mod,S.kind,rfl,rfl,Am _,λy z c h1 h2=>?_,λy hy=>?_,λy c _ h=>?_,λ_=>hd,Around.frames_deeper e0.frames,.inr ⟨rfl,rfl⟩,λb z=>absurd z<|p4 b,e0.bs,e0.kR,λb _ _=>p4 b,λb z=>absurd z<|p4 b,e0.de,e0.oi⟩,
  rfl,e0.bare,Un.kept hk,⟨_,x.toInCall.ns,λi y v h1 h2 h3=>?_⟩,λy c h=>⟨_,x.cell y c h⟩,e0.aE.fresh<|Am _,λy c h=>?_,λp hp=>absurd (show p∈([]:List<|Addr×Obj) from hp) (by simp),e0.aE.kept hk,?_⟩
 ·exact name_of_addr x.apart (CW h1)<|CW h2
 ·have hy:scope.names.lookup y=some .cell\/scope.names.lookup y=some .free:=hy
  rcases hy with hy | hy
  ·exact Hf hy
  ·exact absurd rfl (S.mC _<|CW hy)
 ·exact Ch<|x.above y c<|CW h
 ·have hi:i < vs.length:=by
   unfold start at h2
   by_cases hi:i < vs.length
   ·exact hi
   ·rw [Ay<|by simpa using hi] at h2;rw [Fa] at h2
    split at h2 <;> cases h2
  have ha:vs[i]?=some v:=by
   unfold start at h2;rw [Aq (by simpa using hi),Ai] at h2;cases e:vs[i]? with
   | none=>rw [e] at h2;cases h2
   | some a=>rw [e] at h2;cases h2;rfl
  obtain⟨u,hu,rv⟩:=r.get ha;have hp:ps[i]?=some y:=by
   rw [<- S.pre,Dv<|by omega];exact h1
  have Hg:ps.Nodup:=by rw [<- S.pre];exact S.nd.sublist<|List.take_sublist _ _
  refine⟨u,rv,?_⟩
  rcases S.par y (Ap hp) with k | k
  ·exact .inl ⟨k,Hd Hg hp hu k⟩
  ·obtain⟨c,e⟩:=Hf (n:=s.heap.objs.size+1) k;refine .inr ⟨.inl k,c,e,?_⟩;have q:=x.cell y c e;rw [He Hg hp hu<|by show scope.names.lookup y≠_;rw [k];decide] at q;exact q
 ·exact e0.aE.fresh<|Ch<|x.above y c<|CW h
 ·unfold start;show _=N.length;rw [Ag,Ab,Fi];omega
theorem Qg{CX:fP}{P:Program}{w:World}{K:PySem.W.Frag}{mg:Str->Option Value}{base:Heap}{k:Nat}{f:Addr}{name qual:Str}{params:Arguments}{body:List Stmt}{scope:Scope}{dV kV doc pm bJ ct oc:Value}{an od:Option Addr}
  {jV:Array (Option Value)} {N ps:List Str} {sp:Sp} (lk:K.lookup f=some ⟨oc,od,.func<|PySem.W.fnOf name qual params body scope dV kV doc pm an bJ ct,jV⟩) (ic:PySem.W.codeIn K bJ qual=true) (S:aq N ps scope)
  (len:∀ vs H Q E,sp vs H Q E->vs.length=ps.length)
  (dh : ∀ (A : Around) (outer : List Env) (s : Shared) (H : Hp) (vs : List V) (Q : VK) (E : XK), bv k (A.deeper<|envOfC qual scope s.heap.objs.size f bJ) → sp vs H Q E →
   ∃ t,gL (fe CX P w K mg base N qual scope f bJ A outer s H E) body t/\t {nx:=λ_ H'=>Q .non H',rt:=Q} (start N vs) H) :
  aG P w K mg base CX (k+1) f (PySem.W.fnOf name qual params body scope dV kV doc pm an bJ ct) ps sp:=by
 refine⟨len,λA outer s H args us vs Q E hr e0 hb r dU=>?_⟩;have hl:=len _ _ _ _ dU;have KX:K.In s.heap:=e0.mod.pK.keeps λb o e=>(e0.bs b o e).1;have lim:s.heap.NoLimit:=e0.mod.nolimit.keeps λb o e=>(e0.bs b o e).1;have p5:∀ y∈ps.zip us,scope.names.lookup y.1=some .local\/(scope.names.lookup y.1=some .cell/\((cellsFrom (s.heap.objs.size+1) scope.names []).lookup y.1).isSome=true):=λ⟨n,v⟩ hy=>by
  rcases S.par n (RK hy).1 with q | q
  ·exact .inl q
  ·exact .inr ⟨q,JB _ _ _<|.inl q⟩
 refine codeAny_call_function hr.depth (KX _ _ lk) rfl S.co S.gen rfl (PySem.W.codeRec_of KX ic) (hb _ _ _ _ ?_);refine wpAny_newFunctionEnv_cells S.kind p5 λenv he s1 x=>?_;subst he;refine⟨lim.keeps x.toInCall.keep,codeAny_func ?_⟩;obtain⟨t,ht,hq⟩:=dh A outer s H vs Q E (hr.deeper _) dU;have I:Inv (fe CX P w K mg base N qual scope f bJ A outer s H E) [] (start N vs) H s1:=Qf S hr.hd e0 hl r x;refine CV (ht [] s1 (start N vs) H _ I hq) (λfl s' hs=>?_) λe s' hs=>hs;have fin:∀{σ':St} {H':Hp} {v:V} {u:Value},Inv (fe CX P w K mg base N qual scope f bJ A outer s H E) [] σ' H' s'->RelV v u->Q v H'->CE outer P w H s Q u s':=
  λ{σ' H' v u} J rv q=>⟨v,H',J.os,J.bare,J.base,J.aE,rv,q⟩
 cases fl with
 | ret u=>
  obtain⟨v,σ',H',J,rv,q⟩:=hs;exact fin J rv q
 | next=>
  obtain⟨σ',H',J,q⟩:=hs;exact fin (v:=V.non) (u:=Value.none) J rfl q
 | brk=>
  obtain⟨_,_,_,q⟩:=hs;exact False.elim q
 | cont=>
  obtain⟨_,_,_,q⟩:=hs;exact False.elim q
section
variable{X:Cx}{x:Str}{p pos:Pos}{e:Expr}{es:List Expr}{t:TA}{id T:String}{r:List V->Hp->VK->Prop}
def tq(r:List V->Hp->VK->Prop)(t:TA):TE:=λσ H Q=>t σ H λvs H1=>r vs H1 Q
theorem Qh(hc:fJ X (.builtin id) r)(hg:Gl X x)(hm:X.mg x=none)(hv:bootBuiltins x=some (.builtin id))(ha:PA X (e :: es) t)(hn:x ≠ "__name__":=by decide)(dJ:(x == ("__debug__" : Str))=false:=by decide)
  (he:starEach (e :: es) X.env=(false,eval e X.env) :: starEach es X.env:=by rfl) (mB:(backTo pos<|starEach es X.env).any (·.1)=false:=by rfl):PE X (.Call (.Name x p) (e :: es) [] pos) (tq r t):=by
 intro pins s σ H Q I h;refine JW<|l9 I hg hm hv ?_ hn dJ;exact PyProof.Rows.callWith_builtin1 (aP (ha pos pins s σ H _ I h) λus s1 ⟨vs,H1,I1,r1,q1⟩=>hc pins s1 σ H1 vs us Q I1 r1 q1) he mB
theorem Qi(hc:fJ X (.type T) r)(hg:Gl X x)(hm:X.mg x=none)(hv:bootBuiltins x=some (.type T))(ha:PA X (e :: es) t)(hn:x ≠ "__name__":=by decide)(dJ:(x == ("__debug__" : Str))=false:=by decide)
  (he:starEach (e :: es) X.env=(false,eval e X.env) :: starEach es X.env:=by rfl) (mB:(backTo pos<|starEach es X.env).any (·.1)=false:=by rfl):PE X (.Call (.Name x p) (e :: es) [] pos) (tq r t):=by
 intro pins s σ H Q I h;refine JW<|l9 I hg hm hv ?_ hn dJ;exact JK (aP (ha pos pins s σ H _ I h) λus s1 ⟨vs,H1,I1,r1,q1⟩=>hc pins s1 σ H1 vs us Q I1 r1 q1) he mB
end
end L2
namespace HT
open PySem PyProof.Rows
section
open PySem.SeqAt
open PySem.AutoSeq1 (wpAny_loadPart')
open PySem.MeetsSeq PySem.MeetsSeq2 PySem.MeetsSeq3
end
section
variable{prog:Program}{w:World}{A:Around}{E:Value->Shared->Prop}{s:Shared}
def fh(n d:Nat):Option Int->Nat
 | none=>d
 | some v=>if v < 0 then(v+(n:Int)).toNat else min v.toNat n
theorem di(n d:Nat):fh n d none=d:=rfl
theorem d9(n d k:Nat):fh n d (some (k:Int))=min k n:=by
 show(if(k:Int) < 0 then((k:Int)+(n:Int)).toNat else min (k:Int).toNat n)=min k n;rw [BL (by omega),Bd]
end
end HT
namespace L2
open PySem PySem.Spec PyProof.Rows
abbrev TO:=St->Hp->(Option Int->Hp->Prop)->Prop
def PO(X:Cx)(e:Option Expr)(t:TO):Prop:=
 ∀(pins:List<|Addr×Obj) (s:Shared) (σ:St) (H:Hp) (Q:Option Int->Hp->Prop),Inv X pins σ H s->t σ H Q ->
  wpAny (model X.prog X.w) X.A (evalPart e X.env) (λu s'=>∃ o H',Inv X pins σ H' s'/\IsPart u o/\Q o H') X.xe s
def Qj:TO:=λ_ H Q=>Q none H
def Qk(t:TE):TO:=λσ H Q=>t σ H λx H1=>∃ i,x = .int i/\Q (some i) H1
section
variable{X:Cx}{e:Expr}{te:TE}{lo hi:Option Expr}{tl th:TO}{pos p2:Pos}
theorem Ql:PO X none Qj:=by
 intro pins s σ H Q I h;rw [evalPart_none];exact BK ⟨none,H,I,.none,h⟩
theorem Qm(h:PE X e te):PO X (some e) (Qk te):=by
 intro pins s σ H Q I hw;rw [evalPart_some];refine aP (h pins s σ H _ I hw) λu s1 ⟨x,H1,I1,r1,q1⟩=>?_;obtain⟨i,rfl,q⟩:=q1;obtain⟨t,rfl⟩:=r1;exact⟨some i,H1,I1,.int i t,q⟩
def wU(X:Cx)(r:V->Option Int->Option Int->Hp->VK->Prop):Prop:=
 ∀(pins:List<|Addr×Obj) (s:Shared) (σ:St) (H:Hp) (x:V) (v vl vu:Value) (lo hi:Option Int) (sl:Addr) (Q:VK),Inv X pins σ H s->RelV x v->s.heap.IsSliceOf sl vl vu .none->IsPart vl lo->IsPart vu hi->r x lo hi H Q ->
  ∃ T id,typeLookup (.type T) "__getitem__" = pure (some<|.builtin id)/\s.TypeIs v T/\wpAny (model X.prog X.w) X.A (getItem v<|.ref sl) (EP X pins σ Q) X.xe s
def Qn(r:V->Option Int->Option Int->Hp->VK->Prop)(te:TE)(tl th:TO):TE:=λσ H Q=>te σ H λx H1=>tl σ H1 λl H2=>th σ H2 λu H3=>r x l u H3 Q
theorem Qo{r:V->Option Int->Option Int->Hp->VK->Prop}(hr:wU X r)(he:PE X e te)(hl:PO X lo tl)(hu:PO X hi th):PE X (.Subscript e (.Slice lo hi none p2) pos) (Qn r te tl th):=by
 intro pins s σ H Q I h;refine Subscript_<|aP (he pins s σ H _ I h) λv s1 ⟨x,H1,I1,r1,q1⟩=>?_;refine wpAny_Slice<|aP (hl pins s1 σ H1 _ I1 q1) λvl s2 ⟨l,H2,I2,pl,q2⟩=>aP (hu pins s2 σ H2 _ I2 q2) λvu s3 ⟨u,H3,I3,pu,q3⟩=>?_;rw [evalPart_none];refine BK ?_;have I4:Inv X pins σ H3 {s3 with heap:=s3.heap.push {cls:= .type "slice",data:= .fields #[vl,vu,.none]}}:=I3.kept (t':=s3.toks) λb ob q=>Af _ q;obtain⟨T,id,hT,ht,hg⟩:=hr pins {s3 with heap:=s3.heap.push {cls:= .type "slice",data:= .fields #[vl,vu,.none]}} σ H3 x v vl vu l u s3.heap.objs.size Q I4 r1 (Heap.IsSliceOf.new ..) pl pu q3;show wpAny (model X.prog X.w) X.A (subscriptTail e (.Slice lo hi none p2) v<|.ref s3.heap.objs.size) (EP X pins σ Q) X.xe {s3 with heap:=s3.heap.push {cls:= .type "slice",data:= .fields #[vl,vu,.none]}};exact tail_any (ops:=[.ref s3.heap.objs.size,v]) ht hT hg<|by with_unfolding_all rfl
def dj(xs:List V)(lo hi:Option Int):List V:=(xs.drop<|HT.fh xs.length 0 lo).take<|HT.fh xs.length xs.length hi - HT.fh xs.length 0 lo
theorem Qp(xs:List V)(lo hi:Option Int):(dj xs lo hi).length<=xs.length:=by
 unfold dj;rw [Br,Co];omega
end
def kY(n:Nat)(i:Int):Option Nat:=if 0<=i then(if i < n then some i.toNat else none) else if -(n:Int)<=i then some (i+n).toNat else none
def dW{α:Type}(xs:List α)(i:Int):Option α:=(kY xs.length i).bind λj=>xs[j]?
theorem Qq{n:Nat}{i:Int}{j:Nat}(h:kY n i=some j):seqIndex? i n=some j/\j < n/\-(n:Int)<=i/\i < n:=by
 unfold kY at h
 by_cases h0:0<=i
 ·rw [BP h0] at h
  by_cases h1:i < n
  ·rw [BP h1] at h;have e:i.toNat=j:=Option.some.inj h;exact⟨by rw [seqIndex_of h0 h1,e],by omega,by omega,h1⟩
  ·rw [BL h1] at h;cases h
 ·rw [BL h0] at h
  by_cases h1:-(n:Int)<=i
  ·rw [BP h1] at h;have e:(i+n).toNat=j:=Option.some.inj h;exact⟨by rw [seqIndex_neg (by omega) h1,e],by omega,h1,by omega⟩
  ·rw [BL h1] at h;cases h
theorem wV{α:Type}{xs:List α}{i:Int}{v:α}(h:dW xs i=some v):∃ j,seqIndex? i xs.length=some j/\xs[j]?=some v/\j < xs.length/\-(xs.length:Int)<=i/\i < xs.length:=by
 unfold dW at h;cases e:kY xs.length i with
 | none=>rw [e] at h;cases h
 | some j=>
  rw [e] at h;obtain⟨h1,h2,h3,h4⟩:=Qq e;exact⟨j,h1,h,h2,h3,h4⟩
theorem kZ{α:Type}{xs:List α}{j:Nat}{v:α}(h:xs[j]?=some v):dW xs (j:Int)=some v:=by
 have hj:j < xs.length:=(Ac.mp h).1;have e:kY xs.length (j:Int)=some j:=by
  unfold kY;rw [BP (by omega),BP<|by omega];simp
 unfold dW;rw [e];exact h
theorem Qr{α:Type}(xs:List α)(v:α):dW (xs++[v]) (-1)=some v:=by
 have hl:(xs++[v]).length=xs.length+1:=by simp
 have e:kY (xs++[v]).length (-1)=some xs.length:=by
  unfold kY;rw [hl,BL (by decide),BP<|by omega]
  congr 1
  omega
 unfold dW;rw [e];show(xs++[v])[xs.length]?=some v;simp
def Hh(b:Expr):Prop:=∀ o i,subscripted b false o i=operate [o,i] (getItem o i)
def p7(X:Cx)(r:R2):Prop:=
 ∀(value slice:Expr) (pins:List<|Addr×Obj) (s:Shared) (σ:St) (H:Hp) (x y:V) (v u:Value) (Q:VK),Inv X pins σ H s->RelV x v->RelV y u->r x y H Q ->
  subscripted slice false v u=operate [v,u] (getItem v u)->wpAny (model X.prog X.w) X.A (subscriptTail value slice v u) (EP X pins σ Q) X.xe s
def p8(X:Cx)(id:String)(r:V->List V->Hp->VK->Prop):Prop:=
 ∀(pins:List<|Addr×Obj) (s:Shared) (σ:St) (H:Hp) (x:V) (xs:List V) (v:Value) (us:List Value) (Q:VK),Inv X pins σ H s->RelV x v->av xs us->r x xs H Q ->
  wpAny (model X.prog X.w) X.A (call (.builtin id)<|v :: us) (EP X pins σ Q) X.xe s
section
variable{X:Cx}{a b:Expr}{ta tb:TE}{pos:Pos}
theorem Qs{r:R2}(hr:p7 X r)(ha:PE X a ta)(hb:PE X b tb)(hs:Hh b):PE X (.Subscript a b pos) (ti r ta tb):=by
 intro pins s σ H Q I h;exact Subscript_<|mr ha hb I h λv u s2 x y H2 I2 rx ry q=>hr a b pins s2 σ H2 x y v u Q I2 rx ry q<|hs _ _
def wW(K:PySem.W.Frag):R2:=λx y H Q=>∃ p xs i v,x = .ref p/\y = .int i/\al K H p xs/\dW xs i=some v/\Q v H
def wX(K:PySem.W.Frag):R2:=λx y H Q=>∃ p xs i v,x = .ref p/\y = .int i/\a7 K H p xs/\dW xs i=some v/\Q v H
def wY:R2:=λx y H Q=>∃ z i c,x = .str z/\y = .int i/\z.length<=sizeLine/\dW z.cps.toList i=some c/\Q (.str ⟨#[c]⟩) H
theorem cS:p7 X (wW X.K):=by
 intro value slice pins s σ H x y v u Q I rx ry h hs;obtain⟨p,xs,i,z,rfl,rfl,hq,he,q⟩:=h;cases rx;obtain⟨t,rfl⟩:=ry;obtain⟨its,r,pl,hz⟩:=I.list hq;obtain⟨j,h1,h2,h3,h4,h5⟩:=wV he;obtain⟨w,ew,eU⟩:=r.get h2;have hl:=r.length;have hn:=tj;have fin:EP X pins σ Q w s:=⟨z,H,I,eU,q⟩
 by_cases h0:0<=i
 ·have hj:i.toNat=j:=by
   rw [seqIndex_of h0 h5] at h1;exact Option.some.inj h1
  exact item_listR pl.isList h0 (by omega) (by rw [hj];simpa using ew) fin hs
 ·have hj:(i+(its.toArray.size:Int)).toNat=j:=by
   rw [seqIndex_neg (by omega) h4] at h1;rw [Aw,<- hl];exact Option.some.inj h1
  exact subscriptTail_builtinR (x:=w) pl.isList.typeIs slot_list_getitem.lookup
   (wpAny_getItem_list_neg (Q:=λr s'=>r=w/\EP X pins σ Q r s') pl.isList (by omega) (by rw [Aw] <;> omega) (by omega) (by rw [hj];simpa using ew) ⟨rfl,fin⟩) hs
theorem cw:p7 X (wX X.K):=by
 intro value slice pins s σ H x y v u Q I rx ry h hs;obtain⟨p,xs,i,z,rfl,rfl,hq,he,q⟩:=h;cases rx;obtain⟨t,rfl⟩:=ry;obtain⟨its,r,pl,hz⟩:=I.tuple hq;obtain⟨j,h1,h2,h3,h4,h5⟩:=wV he;obtain⟨w,ew,eU⟩:=r.get h2;have hl:=r.length;have hn:=tj;have fin:EP X pins σ Q w s:=⟨z,H,I,eU,q⟩;exact subscriptTail_builtinR (x:=w) pl.typeIs slot_tuple_getitem.lookup
  (getItem_tuple (j:=j) (Q:=λr s'=>r=w/\EP X pins σ Q r s') pl (by omega) (by omega) (by rw [Aw,<- hl];exact h1) (by simpa using ew) ⟨rfl,fin⟩) hs
theorem Hi:p7 X wY:=by
 intro value slice pins s σ H x y v u Q I rx ry h hs;obtain⟨z,i,c,rfl,rfl,hz,he,q⟩:=h;obtain⟨t,rfl⟩:=rx;obtain⟨t',rfl⟩:=ry;obtain⟨j,h1,h2,h3,h4,h5⟩:=wV he;have hl:z.cps.toList.length=z.length:=by simp [Str.length]
 rw [hl] at h1 h4 h5;have hn:=tj;exact tail_any (typeIs_str s z t) slot_str_getitem.lookup (getItem_str (c:=c) (by
  have e1:decide (i < -(2 ^ 63:Int))=false:=BR (by omega);have e2:decide (i>=2 ^ 63)=false:=BR (by omega);rw [e1,e2,Bool.or_false]) (by rw [h1];simpa using h2) ⟨.str ⟨#[c]⟩,H,I.tok _,⟨_,rfl⟩,q⟩) hs
theorem Qt(lo hi:Option Int)(n:Nat):(sliceBounds lo hi none n).1=((HT.fh n 0 lo:Nat):Int)/\(sliceBounds lo hi none n).2.1=((HT.fh n n hi:Nat):Int)/\(sliceBounds lo hi none n).2.2=1:=by
 refine⟨?_,?_,rfl⟩
 ·cases lo with
  | none=>simp [sliceBounds,HT.fh]
  | some i=>
   simp only [sliceBounds,HT.fh,Option.getD_none,show(1:Int) > 0 by decide,DK]
   by_cases h:i < 0
   ·simp only [h,DK] <;> omega
   ·simp only [h,CT] <;> omega
 ·cases hi with
  | none=>simp [sliceBounds,HT.fh]
  | some i=>
   simp only [sliceBounds,HT.fh,Option.getD_none,show(1:Int) > 0 by decide,DK]
   by_cases h:i < 0
   ·simp only [h,DK] <;> omega
   ·simp only [h,CT] <;> omega
theorem Qu(its:List Value)(lo hi:Option Int):slicePick its.toArray lo hi none=((its.drop<|HT.fh its.length 0 lo).take<|HT.fh its.length its.length hi - HT.fh its.length 0 lo).toArray:=by
 obtain⟨h1,h2,h3⟩:=Qt lo hi its.toArray.size;unfold slicePick;rw [h1,h2,h3];simp only [sliceRange_one,pick_run,Aw] <;> rfl
def wZ(K:PySem.W.Frag):V->Option Int->Option Int->Hp->VK->Prop:=λx lo hi H Q=>∃ a xs,x = .ref a/\al K H a xs/\∀ p,H p=none->Q (.ref p) (upd H p<|.lst<|dj xs lo hi)
theorem w5:wU X (wZ X.K):=by
 intro pins s σ H x v vl vu lo hi sl Q I rx hs pl pu h;obtain⟨a,xs,rfl,hx,q⟩:=h;cases rx;obtain⟨its,r,ht,hz⟩:=I.list hx;have hlen:=r.length;refine⟨"list",_,slot_list_getitem.lookup,ht.isList.typeIs,?_⟩;refine wpAny_getItem_list_slice ht.isList hs pl pu .none (by simp) ?_ (by rw [Aw] <;> omega);rw [Qu,<- hlen];refine⟨.ref s.heap.objs.size,_,I.laid (t':=s.toks) (o:= .lst<|dj xs lo hi) (λb ob q=>Af _ q) (Am _) ?_,rfl,q _<|I.aE.fresh<|Am _⟩;exact⟨Ce (Qp xs lo hi) hz,_,0,(r.drop<|HT.fh xs.length 0 lo).take<|HT.fh xs.length xs.length hi - HT.fh xs.length 0 lo,As _ rfl⟩
def iK:V->Bool
 | .non=>true
 | .bl _=>true
 | .int _=>true
 | .str _=>true
 | _=>false
def cz:V->V->Bool
 | .non,.non=>true
 | .bl a,.bl b=>a == b
 | .bl a,.int b=>(if a then 1 else 0) == b
 | .int a,.bl b=>a == (if b then 1 else 0)
 | .int a,.int b=>a == b
 | .str a,.str b=>a == b
 | _,_=>false
theorem Hj{A:Around}{s:Shared}{y x:V}{u v:Value}(ry:RelV y u)(rx:RelV x v)(fy:iK y=true)(fx:iK x=true):SeqAt.EqAt A s u v (cz y x):=by
 cases y with
 | non=>
  cases ry;cases x with
  | non=>cases rx;exact SeqAt.EqAt.same _
  | bl b=>cases rx;exact SeqAt.EqAt.none_bool b
  | int b=>obtain⟨t,rfl⟩:=rx;exact SeqAt.EqAt.none_int b t
  | str b=>obtain⟨t,rfl⟩:=rx;exact SeqAt.EqAt.none_str b t
  | _=>exact absurd (show false=true from fx) At
 | bl a=>
  cases ry;cases x with
  | non=>cases rx;exact SeqAt.EqAt.bool_none a
  | bl b=>cases rx;exact SeqAt.EqAt.bool_bool a b
  | int b=>obtain⟨t,rfl⟩:=rx;exact SeqAt.EqAt.bool_int a b t
  | str b=>obtain⟨t,rfl⟩:=rx;exact SeqAt.EqAt.bool_str a b t
  | _=>exact absurd (show false=true from fx) At
 | int a=>
  obtain⟨t',rfl⟩:=ry;cases x with
  | non=>cases rx;exact SeqAt.EqAt.int_none a t'
  | bl b=>cases rx;exact SeqAt.EqAt.int_bool a t' b
  | int b=>obtain⟨t,rfl⟩:=rx;exact SeqAt.EqAt.int_int a t' b t
  | str b=>obtain⟨t,rfl⟩:=rx;exact SeqAt.EqAt.int_str a t' b t
  | _=>exact absurd (show false=true from fx) At
 | str a=>
  obtain⟨t',rfl⟩:=ry;cases x with
  | non=>cases rx;exact SeqAt.EqAt.str_none a t'
  | bl b=>cases rx;exact SeqAt.EqAt.str_bool a t' b
  | int b=>obtain⟨t,rfl⟩:=rx;exact SeqAt.EqAt.str_int a t' b t
  | str b=>obtain⟨t,rfl⟩:=rx;exact SeqAt.EqAt.str_str a t' b t
  | _=>exact absurd (show false=true from fx) At
 | _=>exact absurd (show false=true from fy) At
def jW(x:V)(u:Value):Bool:=match u with
 | .none=>cz .non x
 | .bool b=>cz (.bl b) x
 | .int i _=>cz (.int i) x
 | .str z _=>cz (.str z) x
 | _=>false
theorem Hk{x y:V}{u:Value}(r:RelV y u)(f:iK y=true):jW x u=cz y x:=by
 cases y with
 | non=>cases r;rfl
 | bl b=>cases r;rfl
 | int i=>obtain⟨t,rfl⟩:=r;rfl
 | str z=>obtain⟨t,rfl⟩:=r;rfl
 | _=>exact absurd (show false=true from f) At
theorem w8{x:V}:∀{xs:List V} {us:List Value},av xs us->xs.all iK=true->us.any (jW x)=xs.any λy=>cz y x
 | _,_,.nil,_=>rfl
 | y :: xs,u :: us,.cons r t,f=>by
  rw [Ha,By] at f;rw [Fu,Fu,Hk r f.1,w8 t f.2]
theorem xa{A:Around}{s:Shared}{x:V}{v:Value}(rx:RelV x v)(fx:iK x=true):∀{xs:List V} {us:List Value},av xs us->xs.all iK=true->∀ u∈us,SeqAt.EqAt A s u v<|jW x u
 | _,_,.nil,_=>λu hu=>by cases hu
 | y :: xs,u :: us,.cons r t,f=>λu' hu=>by
  rw [Ha,By] at f
  rcases Ak.mp hu with rfl | hu
  ·rw [Hk r f.1];exact Hj r rx f.1 fx
  ·exact xa rx fx t f.2 u' hu
def oq(x:V)(xs:List V):Bool:=xs.any λy=>cz y x
def Qv(K:PySem.W.Frag)(neg:Bool):R2:=λx y H Q=>∃ p xs,y = .ref p/\(al K H p xs\/a7 K H p xs)/\iK x=true/\xs.all iK=true/\Q (.bl (if neg then !oq x xs else oq x xs)) H
theorem Hl:cr X (compareOp .In) (Qv X.K false):=by
 intro pins s σ H x y v u Q I rx ry h;obtain⟨p,xs,rfl,hq,fx,fs,q⟩:=h;cases ry
 rcases hq with hq | hq
 ·obtain⟨its,r,pl,hz⟩:=I.list hq;refine SeqAt.in_listAt (jW x) pl.isList (λw hw=>xa rx fx r fs w<|by simpa using hw) ⟨.bl _,H,I,rfl,?_⟩;rw [show its.toArray.any (jW x)=its.any (jW x) by simp,w8 r fs];exact q
 ·obtain⟨its,r,pl,hz⟩:=I.tuple hq;refine SeqAt.in_tupleAt (jW x) pl (λw hw=>xa rx fx r fs w<|by simpa using hw) ⟨.bl _,H,I,rfl,?_⟩;rw [show its.toArray.any (jW x)=its.any (jW x) by simp,w8 r fs];exact q
theorem cT:fJ X (.builtin "len") (λxs H Q=>∃ p ys,xs=[.ref p]/\(al X.K H p ys\/a7 X.K H p ys)/\Q (.int ys.length) H):=by
 intro pins s σ H xs us Q I r h;obtain⟨p,ys,rfl,hq,q⟩:=h;obtain⟨u,rfl,rx⟩:=vals1 r;cases rx;have hn:=tj
 rcases hq with hq | hq
 ·obtain⟨its,r',pl,hz⟩:=I.list hq;have hlen:=r'.length;exact Calls.call_len_list pl.isList (by simp only [Aw] <;> omega) ⟨.int ys.length,H,I.tok _,⟨s.toks+1,by rw [Aw,hlen]⟩,q⟩
 ·obtain⟨its,r',pl,hz⟩:=I.tuple hq;have hlen:=r'.length;exact len_tuple pl (by simp only [Aw] <;> omega) ⟨.int ys.length,H,I.tok _,⟨s.toks+1,by rw [Aw,hlen]⟩,q⟩
theorem Qw:fJ X (.type "list") (λxs H Q=>∃ p ys,xs=[.ref p]/\(al X.K H p ys\/a7 X.K H p ys)/\∀ l,H l=none->Q (.ref l) (upd H l<|.lst ys)):=by
 intro pins s σ H xs us Q I r h;obtain⟨p,ys,rfl,hq,q⟩:=h;obtain⟨u,rfl,rx⟩:=vals1 r;cases rx;have fin:∀(its:List Value),av ys its->ys.length<=sizeLine->∀(h':Heap) (c':Nat),(∀ b o',s.heap.get? b=some o'->h'.get? b=some o') ->
   h'.get? s.heap.objs.size=some {cls:= .type "list",dict:=none,data:= .seq its.toArray c',slots:=#[]}->EP X pins σ Q (.ref s.heap.objs.size) {s with heap:=h'}:=λits r' hz h' c' kp e=>
  ⟨.ref s.heap.objs.size,_,I.laid (t':=s.toks) kp (Am _) (show az X.prog X.w _ h' _ (.lst ys) from⟨hz,its,c',r',e⟩),rfl,q _<|I.aE.fresh<|Am _⟩
 rcases hq with hq | hq
 ·obtain⟨its,r',pl,hz⟩:=I.list hq;have hlen:=r'.length;obtain⟨o,ho,hc,n,hd⟩:=pl.isList;exact call_list_seq p (.inl rfl) ho hc hd (λh' c' kp e=>fin its r' hz h' c' kp e)<|by simp only [Aw] <;> omega
 ·obtain⟨its,r',pl,hz⟩:=I.tuple hq;have hlen:=r'.length;obtain⟨o,ho,hc,n,hd⟩:=pl;exact call_list_seq p (.inr rfl) ho hc hd (λh' c' kp e=>fin its r' hz h' c' kp e)<|by simp only [Aw] <;> omega
def jX(K:PySem.W.Frag)(T:String)(x:V)(H:Hp):Prop:=match x with
 | .str _=>T = "str"
 | .int _=>T = "int"
 | .ref p=>(T = "list"/\∃ xs,al K H p xs)\/(T = "tuple"/\∃ o,K.lookup p=some o/\o.cls = .type "tuple"/\o.dict=none) \/
   (T = "dict"/\((∃ kvs,H p=some (.dK kvs))\/∃ kvs,H p=some (.dT kvs)))\/(T = "set"/\∃ S n,H p=some (.set S n))
 | _=>False
theorem Hm{pins:List (Addr×Obj)}{σ:St}{H:Hp}{s:Shared}{T:String}{x:V}{v:Value}(I:Inv X pins σ H s)(r:RelV x v)(ty:jX X.K T x H) :
  s.TypeIs v T/\∀ a,v = .ref a->∃ ob,s.heap.get? a=some ob/\ob.dict=none:=by
 cases x with
 | str z=>
  obtain⟨t,rfl⟩:=r;cases (show T = "str" from ty);exact⟨typeIs_str s z t,λ_ e=>nomatch e⟩
 | int i=>
  obtain⟨t,rfl⟩:=r;cases (show T = "int" from ty);exact⟨typeIs_int s i t,λ_ e=>nomatch e⟩
 | ref p=>
  cases r
  rcases ty with ⟨rfl,xs,hq⟩ | ⟨rfl,o,hk,hc,hd⟩ | ⟨rfl,hk⟩ | ⟨rfl,S,n,hk⟩
  ·obtain⟨its,_,pl,_⟩:=I.list hq;refine⟨pl.isList.typeIs,λa e=>?_⟩;cases e;obtain⟨o,n,e,c,hd,_⟩:=pl;exact⟨o,e,hd⟩
  ·refine⟨⟨o,I.e9 p o hk,hc⟩,λa e=>?_⟩;cases e;exact⟨o,I.e9 _ o hk,hd⟩
  ·have z:∃ o,s.heap.get? p=some o/\o.ExactDict:=by
    rcases hk with ⟨kvs,hk⟩ | ⟨kvs,hk⟩
    ·obtain⟨_,_,_,_,o,_,_,e,ex,_⟩:=I.aE p _ hk;exact⟨o,e,ex⟩
    ·obtain⟨_,_,_,_,o,_,_,e,ex,_⟩:=I.aE p _ hk;exact⟨o,e,ex⟩
   obtain⟨o,e,ex⟩:=z;refine⟨⟨o,e,ex.1⟩,λa e2=>?_⟩;cases e2;exact⟨o,e,ex.2.1⟩
  ·obtain⟨o,_,_,_,e,ex,_⟩:=I.aE p _ hk;refine⟨⟨o,e,ex.1⟩,λa e2=>?_⟩;cases e2;exact⟨o,e,ex.2.1⟩
 | _=>exact False.elim ty
def xc(K:PySem.W.Frag)(T:String)(r:V->List V->Hp->VK->Prop)(to:TE):TE:=λσ H Q=>to σ H λx H1=>jX K T x H1/\r x [] H1 Q
def Qx(K:PySem.W.Frag)(T:String)(r:V->List V->Hp->VK->Prop)(to:TE)(t:TA):TE:=λσ H Q=>to σ H λx H1=>jX K T x H1/\t σ H1 λxs H2=>r x xs H2 Q
variable{o e:Expr}{es:List Expr}{to:TE}{t:TA}{name:Str}{apos dk:Pos}{T id:String}{r:V->List V->Hp->VK->Prop}
theorem Qy(pa:PlainAttrs T)(slot:Slot T name id)(jY:typeOf (.builtin id)=pure (.type "method_descriptor"))(hm:p8 X id r)(ho:PE X o to)
  (bC:attributeBase o name X.env (eval o X.env)=eval o X.env:=by rfl) (hline:(apos.endLine == dk.line)=true:=by rfl):PE X (.Call (.Attribute o name apos) [] [] dk) (xc X.K T r to):=by
 intro pins s σ H Q I h;refine wpAny_Call_method0_late bC hline<|aP (ho pins s σ H _ I h) λv s1 ⟨x,H1,I1,r1,ty,q1⟩=>?_;obtain⟨h1,h2⟩:=Hm I1 r1 ty;exact⟨T,id,pa,slot,jY,h1,h2,JC rfl (PySem.evalArgs_none<|hm pins s1 σ H1 x [] v [] Q I1 r1 .nil q1)⟩
theorem xf(pa:PlainAttrs T)(slot:Slot T name id)(jY:typeOf (.builtin id)=pure (.type "method_descriptor"))(hm:p8 X id r)(ho:PE X o to)(ha:PA X (e :: es) t)
  (bC:attributeBase o name X.env (eval o X.env)=eval o X.env:=by rfl)
  (eB : ((backTo dk<|starEach (e :: es) X.env).all (λx => !x.1) && (backToKw dk<|keywordEach [] X.env).all (λx => x.1.isSome)
   && decide ((e :: es).length+([]:List Keyword).length+(if([]:List Keyword).isEmpty then 0 else 1) < 30))=true:=by rfl)
  (hline:(apos.endLine == dk.line)=true:=by rfl) (hs:starEach (e :: es) X.env=(false,eval e X.env) :: starEach es X.env:=by rfl) (bN:(backTo dk<|starEach es X.env).any (·.1)=false:=by rfl) :
  PE X (.Call (.Attribute o name apos) (e :: es) [] dk) (Qx X.K T r to t):=by
 intro pins s σ H Q I h;refine wpAny_Call_method_late bC eB hline rfl (aP (ho pins s σ H _ I h) λv s1 ⟨x,H1,I1,r1,ty,q1⟩=>?_);obtain⟨h1,h2⟩:=Hm I1 r1 ty;refine⟨T,id,pa,slot,jY,h1,h2,?_⟩;have hA:=ha dk pins s1 σ H1 _ I1 q1;rw [hs] at hA ⊢;refine JC (by show(false || (backTo dk<|starEach es X.env).any (·.1))=false;rw [bN] <;> rfl)<|Calls.evalArgs_plain ?_;exact aP hA λus s2 ⟨vs,H2,I2,r2,q2⟩=>hm pins s2 σ H2 x vs v us Q I2 r1 r2 q2
end
def k4(X:Cx)(id:String)(r:V->List V->Hp->VK->Prop):Prop:=
 ∀(pins:List<|Addr×Obj) (s:Shared) (σ:St) (H:Hp) (x:V) (xs:List V) (v:Value) (us:List Value) (Q:VK),Inv X pins σ H s->RelV x v->av xs us->r x xs H Q ->
  wpAny (model X.prog X.w) X.A (call (.builtin id)<|v :: us) (EP X pins σ Q) X.xe s
theorem av.hd{x:V}{xs:List V}{us:List Value}(h:av (x :: xs) us):∃ u vs,us=u :: vs/\RelV x u/\av xs vs:=by
 cases h with
 | cons r t=>exact⟨_,_,rfl,r,t⟩
theorem av.nl{us:List Value}(h:av [] us):us=[]:=by
 cases h;rfl
theorem av.one{x:V}{us:List Value}(h:av [x] us):∃ u,us=[u]/\RelV x u:=by
 obtain⟨u,vs,rfl,r,t⟩:=h.hd;rw [t.nl];exact⟨u,rfl,r⟩
theorem av.two{x y:V}{us:List Value}(h:av [x,y] us):∃ u v,us=[u,v]/\RelV x u/\RelV y v:=by
 obtain⟨u,vs,rfl,r,t⟩:=h.hd;obtain⟨v,ws,rfl,q,t⟩:=t.hd;rw [t.nl];exact⟨u,v,rfl,r,q⟩
theorem av.zero:∀{us:List Value},av [] us->us=[]
 | _,.nil=>rfl
theorem av.dropLast{xs:List V}{us:List Value}(h:av xs us):av xs.dropLast us.dropLast:=by
 induction h with
 | nil=>exact .nil
 | cons r t ih=>
  cases t with
  | nil=>exact .nil
  | cons q t'=>exact .cons r ih
theorem av.eraseIdx:∀{xs:List V} {us:List Value} (i:Nat),av xs us->av (xs.eraseIdx i) (us.eraseIdx i)
 | _,_,_,.nil=> .nil
 | _,_,0,.cons _ t=>t
 | _,_,i+1,.cons r t=> .cons r<|av.eraseIdx i t
theorem Qz{α:Type}(l:List α):l.eraseIdx (l.length - 1)=l.dropLast:=by
 induction l with
 | nil=>rfl
 | cons a r ih=>
  cases r with
  | nil=>rfl
  | cons b r=>
   have e:(a :: b :: r).length - 1=((b :: r).length - 1)+1:=by
    have h1:(a :: b :: r).length=r.length+2:=rfl;have h2:(b :: r).length=r.length+1:=rfl;omega
   rw [e,RG,ih]
   all_goals rfl
theorem Hn{α:Type}:∀(l:List α) (i:Nat),(l.eraseIdx i).length<=l.length
 | [],_=>Am _
 | _ :: _,0=>Ep _
 | _ :: r,i+1=>QK<|Hn r i
section
variable{X:Cx}{pins:List (Addr×Obj)}{σ:St}{H:Hp}{s:Shared}{l b:Addr}{xs ys zs:List V}
theorem Inv.gM{its its':List Value}{n:Nat}{f:Array Value->Array Value}{t':Nat}(I:Inv X pins σ H s)(hH:H l=some (.lst xs))
  (e:s.heap.get? l=some {cls:= .type "list",data:= .seq its.toArray n}) (hf:f its.toArray=its'.toArray) (hv:av ys its') (hz:ys.length<=sizeLine) :
  Inv X pins σ (upd H l<|.lst ys) {s with heap:=s.heap.update l<|Obj.mapSeq f,toks:=t'}:=by
 have q:=PySem.IsL.update e f;rw [hf] at q;refine I.write (x:=l) (e:=l) (by rw [hH];exact trivial) (.inl rfl) (λb' u hb hu=>(Da s.heap (Obj.mapSeq f)<|CN hb).trans hu) ⟨_,q⟩ ?_;exact⟨hz,its',_,hv,q⟩
theorem Inv.p9{its:List Value}{t':Nat}(I:Inv X pins σ H s)(hv:av ys its)(hz:ys.length<=sizeLine) :
  Inv X pins σ (upd H s.heap.objs.size<|.lst ys) {s with heap:=s.heap.push {cls:= .type "list",data:= .seq its.toArray},toks:=t'}:=
 I.laid (λ_ _ q=>Af _ q) (Am _) ⟨hz,its,0,hv,As _ rfl⟩
theorem Inv.fresh(I:Inv X pins σ H s):H s.heap.objs.size=none:=I.aE.fresh<|Am _
theorem Inv.eC(I:Inv X pins σ H s)(hH:H l=some (.lst xs)):xs.length<=sizeLine/\∃(its:List Value) (n:Nat),av xs its/\xs.length=its.length/\s.heap.get? l=some {cls:= .type "list",data:= .seq its.toArray n}:=by
 obtain⟨z,its,n,r,e⟩:=I.aE l _ hH;exact⟨z,its,n,r,r.length,e⟩
theorem QA{n:Nat}(h:n<=sizeLine):Builtin.List.listTooLong n=false:=by
 unfold Builtin.List.listTooLong;exact BR<|by omega
end
section
variable{X:Cx}
def QE:V->List V->Hp->VK->Prop:=λx vs H Q=>∃ l xs y,x = .ref l/\vs=[y]/\H l=some (.lst xs)/\xs.length < sizeLine/\Q .non (upd H l<|.lst<|xs++[y])
theorem Ho:k4 X "list.append" QE:=by
 intro pins s σ H x vs v us Q I rx rv h;obtain⟨l,xs,y,rfl,rfl,hH,hz,q⟩:=h;cases rx;obtain⟨u,rfl,ru⟩:=rv.one;obtain⟨z,its,n,r,hl,e⟩:=I.eC hH;refine JL F.slot_list_append ⟨_,e,rfl⟩ F.entry_list_append (F.args_list_append_2 _ _) (PySem.list_append l its.toArray n u<|by rw [Aw];omega) ⟨e,?_⟩;refine⟨.non,_,I.gM (its':=its++[u]) hH e (by simp) (r.append<|.cons ru .nil) ?_,rfl,q⟩;rw [Ag,Dr];omega
def QH:V->List V->Hp->VK->Prop:=λx vs H Q=>∃ l b xs zs,x = .ref l/\vs=[.ref b]/\H l=some (.lst xs)/\H b=some (.lst zs)/\xs.length+zs.length<=sizeLine/\Q .non (upd H l<|.lst<|xs++zs)
theorem QI:k4 X "list.extend" QH:=by
 intro pins s σ H x vs v us Q I rx rv h;obtain⟨l,b,xs,zs,rfl,rfl,hH,hB,hz,q⟩:=h;cases rx;obtain⟨u,rfl,ru⟩:=rv.one;cases ru;obtain⟨z,its,n,r,hl,e⟩:=I.eC hH;obtain⟨z2,dq,n2,r2,iL,e2⟩:=I.eC hB;have hsz:its.toArray.size+dq.toArray.size<=sizeLine:=by rw [Aw,Aw];omega
 have qb:¬(!its.toArray.isEmpty && Builtin.List.listTooLong (its.toArray.size+dq.toArray.size))=true:=by
  rw [QA hsz,SM];exact At
 refine JL F.slot_list_extend ⟨_,e,rfl⟩ F.entry_list_extend (F.args_list_extend_2 _ _)
  (AutoSeq1.list_extend_list_list_0 l its.toArray n b dq.toArray n2 qb (by rw [Aw];omega)<|by omega) ⟨e,e2,?_⟩
 refine⟨.non,_,I.gM (its':=its++dq) hH e (by simp) (r.append r2) ?_,rfl,q⟩;rw [Ag];omega
def xg:V->List V->Hp->VK->Prop:=λx vs H Q=>∃ l xs y,x = .ref l/\vs=[]/\H l=some (.lst xs)/\xs[xs.length - 1]?=some y/\Q y (upd H l<|.lst xs.dropLast)
theorem q8w:k4 X "list.pop" xg:=by
 intro pins s σ H x vs v us Q I rx rv h;obtain⟨l,xs,y,rfl,rfl,hH,hy,q⟩:=h;cases rx;have xh:=rv.zero;subst xh;obtain⟨z,its,n,r,hl,e⟩:=I.eC hH;obtain⟨u,hu,ru⟩:=r.get hy;have tu:its.toArray[its.toArray.size - 1]?=some u:=by
  show its.toArray[its.length - 1]?=some u;rw [<- Ca,<- hl];exact hu
 refine JL F.slot_list_pop ⟨_,e,rfl⟩ F.entry_list_pop (F.args_list_pop_1 _) (MeetsSeq.list_pop_last l its.toArray n u tu<|by rw [Aw];omega) ⟨e,?_⟩;refine⟨y,_,I.gM (its':=its.dropLast) hH e ?_ r.dropLast ?_,ru,q⟩
 ·show its.toArray.eraseIdxIfInBounds (its.toArray.size - 1)=its.dropLast.toArray;rw [Aw,MK,Qz]
 ·rw [List.length_dropLast];omega
def QN:V->List V->Hp->VK->Prop:=λx vs H Q=>∃ l xs i k y,x = .ref l/\vs=[.int i]/\H l=some (.lst xs)/\-(2 ^ 63)<=i/\i < 2 ^ 63/\seqIndex? i xs.length=some k/\xs[k]?=some y/\Q y (upd H l<|.lst<|xs.eraseIdx k)
theorem QO:k4 X "list.pop" QN:=by
 intro pins s σ H x vs v us Q I rx rv h;obtain⟨l,xs,i,k,y,rfl,rfl,hH,h1,h2,hk,hy,q⟩:=h;cases rx;obtain⟨u,rfl,ru⟩:=rv.one;obtain⟨t,rfl⟩:=ru;obtain⟨z,its,n,r,hl,e⟩:=I.eC hH;obtain⟨w,hw,eU⟩:=r.get hy;refine JL F.slot_list_pop ⟨_,e,rfl⟩ F.entry_list_pop (F.args_list_pop_2 _ _)
  (MeetsSeq.list_pop_at l its.toArray n i t k w (fitsIndex_both h1 h2) (by rw [Aw,<- hl];exact hk) (by rw [<- Ca];exact hw)<|by rw [Aw];omega) ⟨e,?_⟩
 refine⟨y,_,I.gM (its':=its.eraseIdx k) hH e ?_ (r.eraseIdx k) ?_,eU,q⟩
 ·show its.toArray.eraseIdxIfInBounds k=(its.eraseIdx k).toArray;rw [MK]
 ·have:=Hn xs k;omega
def QP:V->List V->Hp->VK->Prop:=λx vs H Q=>∃ l xs,x = .ref l/\vs=[]/\H l=some (.lst xs)/\Q .non (upd H l<|.lst [])
theorem QQ:k4 X "list.clear" QP:=by
 intro pins s σ H x vs v us Q I rx rv h;obtain⟨l,xs,rfl,rfl,hH,q⟩:=h;cases rx;have xh:=rv.zero;subst xh;obtain⟨z,its,n,r,hl,e⟩:=I.eC hH;refine JL F.slot_list_clear ⟨_,e,rfl⟩ F.entry_list_clear (F.args_list_clear_1 _) (AutoSeq1.list_clear_list_0 l its.toArray n<|by rw [Aw];omega) ⟨e,?_⟩;exact⟨.non,_,I.gM (its':=[]) (ys:=[]) hH e rfl .nil (Bq _),rfl,q⟩
def xi:R2:=λx y H Q=>∃ l b xs zs,x = .ref l/\y = .ref b/\H l=some (.lst xs)/\H b=some (.lst zs)/\xs.length+zs.length<=sizeLine/\∀ p,H p=none->Q (.ref p) (upd H p<|.lst<|xs++zs)
theorem Hq:cr X (binaryOp .Add) xi:=by
 intro pins s σ H x y v u Q I rx ry h;obtain⟨l,b,xs,zs,rfl,rfl,hH,hB,hz,q⟩:=h;cases rx;cases ry;obtain⟨z,its,n,r,hl,e⟩:=I.eC hH;obtain⟨z2,dq,n2,r2,iL,e2⟩:=I.eC hB;refine PySem.P.add_list e e2 ?_ (by rw [Aw,Aw];omega);have ea:its.toArray++dq.toArray=(its++dq).toArray:=by simp
 rw [ea];exact⟨.ref _,_,I.p9 (t':=s.toks) (r.append r2) (by rw [Ag];omega),rfl,q _ I.fresh⟩
end
section
variable{prog:Program}{w:World}{A:Around}{E:Value->Shared->Prop}{s:Shared}
end
section
variable{X:Cx}
end
end L2
namespace Hr
open PySem PySem.W PySem.Calls PyProof.Rows
theorem QR{P:Params}{h:Heap}:∀(ns:List Int) (vs:List Value),WellAll P h vs (ns.map WData.int)->IntsAre vs ns:=by
 intro ns
 induction ns with
 | nil=>
  intro vs w;rw [List.map_nil] at w;cases w;exact .nil
 | cons n ns ih=>
  intro vs w;rw [Bj] at w;cases w with
  | cons a b=>
   cases a;exact .cons _ _<|ih _ b
theorem QU{l:OpenLaw}{n:Nat}(hn:l.most=some n){P:Params}{h:Heap}{args:List WData}{vals:List Value}
  (jZ:l.row.toRowW.claim.pre args=true) (xj:WellAll P h vals args) :
  ∃ a vs ns,vals=[Value.ref a]/\args=[WData.list<|ns.map WData.int]/\h.get? a=some {cls:= .type "list",data:= .seq vs.toArray}/\IntsAre vs ns/\ns.length<=n:=by
 have QY:WShape.hasAll [] args [.list .int]=true:=(pre_splitW jZ).1;have hc:l.pre.holds [] {args:=args}=true:=(pre_splitW jZ).2;obtain⟨d,r,rfl,h1,h2⟩:=hasAllW_cons QY;obtain rfl:=hasAllW_nil h2;obtain⟨xs,rfl,h3⟩:=hasW_list h1;obtain⟨ns,rfl⟩:=items_int h3;have hlen:ns.length<=n:=by
  unfold OpenLaw.pre at hc;have h4:(WTm.not<|.lt (.lit<|.int (n:Int))<|.len<|.arg 0).holds [] {args:=[.list<|ns.map .int]}=true:=by
   have h4:=(holds_andW hc).1;rw [hn] at h4;exact h4
  have h5:=condW_of h4<|w_not<|w_lt w_lit<|w_len_list<|w_arg rfl;rw [Ab] at h5;refine Nat.le_of_not_lt λq=>?_;have q':(n:Int) < ((ns.length:Nat):Int):=by omega
  first
   | (rw [BW q'] at h5;exact absurd h5<|by decide)
   | (simp at h5;omega)
 cases xj with
 | cons w1 w2=>
  cases w2;cases w1 with
  | list ho xk=>exact⟨_,_,ns,rfl,rfl,ho,QR ns _ xk,hlen⟩
theorem Q0(l:OpenLaw)(args:List WData):l.row.toRowW.claim.post args (.bool true) args=true:=
 postW_of (r:=l.row.toRowW) (X:=(true == true))
  (show WShape.has [] (.bool true) .bool=true by first | rfl | decide | simp [WShape.has,WShape.arms,WShape.armsAll])
  (show(WTm.eq .res<|.lit<|.bool true).value [] {args:=args,res:=some<|.bool true,after:=args}=some (.bool<|true == true) from w_eq_bool (w_res rfl) w_lit) rfl
theorem fj{l:OpenLaw}{n:Nat}{q:Program}{loose:List Str}{XP:(Str->Option Value)->Heap->Prop}{YP:World->Heap->Prop}{d:DefRec}
  (hn:l.most=some n) (j3:d.params.defaults=[])
  (call : ∀ (w : World) (s₀ s₁ : Shared) (mg mb : Str → Option Value) (fa : Addr) (o : Obj) (pm cd doc : Value) (a : Addr) (vs : List Value) (ns : List Int),
   Ground q loose [] XP w s₀ mg mb s₁.heap->YP w s₁.heap ->
   s₁.heap.get? fa=some o->o.data = .func (docDef d.name d.params d.body d.scope pm cd doc)->s₁.heap.CodeRec cd d.name->mg d.name=some (.ref fa) ->
   s₁.heap.get? a=some {cls:= .type "list",data:= .seq vs.toArray}->IntsAre vs ns->ns.length<=n->s₁.gens=#[] ->
   codeAny (model l.prog w) callerA (.call (.ref fa) ⟨[.ref a],[]⟩) (λr s'=>r = .ok (.ret<|.bool true)/\OldK s₁.heap s'.heap/\s'.os=s₁.os/\AllBare s'.gens) s₁) :
  WalkO q loose XP YP l.row.toRowW d [] (λf vs=>PySem.call f vs):=by
 intro w s₀ s₁ mg mb G Y fa o pm cd doc dV kV ho hd ic hD qc hg args vals as jZ hlay hrd xj hlo;obtain rfl:dV = .none:=Dflts.none hD j3;obtain rfl:kV = .none:=Dflts.noKw hD;obtain⟨a,vs,ns,rfl,rfl,iM,hints,hlen⟩:=QU hn jZ xj;refine enter_call<|JG (call w s₀ s₁ mg mb fa o pm cd doc a vs ns G Y ho (fd_plain hd) ic qc iM hints hlen hg) λr s' hq=>?_;obtain⟨rfl,h2,h3,h4⟩:=hq;exact⟨.inl ⟨.bool true,.bool true,[],rfl,λ_=>rfl,.bool true,Q0 l _,λ_=>⟨List.Pairwise.nil,λ_ hm=>(nomatch hm)⟩⟩,h2,h3,h4⟩
section
variable{prog:Program}{w:World}{A:Around}{E:Value->Shared->Prop}{s:Shared}{K:Frag}
end
end Hr
namespace L2
open PySem PySem.Spec PyProof.Rows
theorem Hs:∀{vs:List Value} {ns:List Int},IntsAre vs ns->av (ns.map V.int) vs
 | _,_,.nil=> .nil
 | _,_,.cons n t h=> .cons ⟨t,rfl⟩<|Hs h
def Only(H:Hp):Prop:=∀ b,H b=none\/∃ o xs,H b=some (.bD o<|.lst xs)
theorem Q1{P:Program}{w:World}{K:PySem.W.Frag}{mg mb:Str->Option Value}{CX:fP}{k:Nat}{fa a:Addr}{fd:FuncData}{x:Str}{sp:Sp}{s₁:Shared}{vs:List Value}{ns:List Int}
  (KX:K.In s₁.heap) (tD:s₁.heap.Ns mainGlobals mg) (hb:s₁.heap.Ns builtinsNs mb) (Q2:∀ x:Str,x ≠ "__name__"->mb x=bootBuiltins x) (xm:s₁.heap.NoLimit) (hg:s₁.gens=#[])
  (ha:s₁.heap.get? a=some {cls:= .type "list",data:= .seq vs.toArray}) (hi:IntsAre vs ns) (hl:ns.length<=sizeLine) (hr:bv k callerA)
  (F:∀ base:Heap,K.In base->base.Ns mainGlobals mg->aG P w K mg base CX k fa fd [x] sp) (qd:∀(s:Shared) (u:Value),BindsTo s fd ⟨[u],[]⟩ [(x,u)])
  (dU:∀ H:Hp,Only H->al K H a (ns.map V.int)->sp [.ref a] H (λv _=>v = .bl true) λ_ _ _=>False)
  (xn:∀ H e s',CX [] H s₁ (λ_ _ _=>False) e s'->False) :
  codeAny (model P w) callerA (.call (.ref fa) ⟨[.ref a],[]⟩) (λr s'=>r = .ok (.ret<|.bool true)/\OldK s₁.heap s'.heap/\s'.os=s₁.os/\AllBare s'.gens) s₁:=by
 have rv:=Hs hi;have xo:=hi.length;have core:∀ H:Hp,Only H->al K H a (ns.map V.int)->b4 P w H s₁.heap->(∀ b,H b≠none->b=a)->(H a≠none->K.lookup a=none) ->
   codeAny (model P w) callerA (.call (.ref fa) ⟨[.ref a],[]⟩) (λr s'=>r = .ok (.ret<|.bool true)/\OldK s₁.heap s'.heap/\s'.os=s₁.os/\AllBare s'.gens) s₁:=by
  intro H hO hS aE hA hK;have gx:∀{b:Addr} {o:Obj},s₁.heap.get? b=some o->H b=none->(d6 s₁.heap H).get? b=some o:=λe n=>OI e n;have p4:∀{b:Addr} {o:Obj} {es:Array DictEntry} {ep:Nat},s₁.heap.get? b=some o->o.data = .dict es ep->H b=none:=λ{b o es ep} e d=>by
   cases q:H b with
   | none=>rfl
   | some u=>
    have e':b=a:=hA b (by rw [q];simp);subst e';rw [ha] at e;cases e;have d':Data.seq vs.toArray _=Data.dict es ep:=d;cases d'
  have tE:∀{b:Addr} {m:Str->Option Value},s₁.heap.Ns b m->(d6 s₁.heap H).Ns b m:=λ{b m} ⟨o,es,ep,e,d,r⟩=>⟨o,es,ep,gx e<|p4 e d,d,r⟩;have Ht:K.In (d6 s₁.heap H):=λb o e=>gx (KX b o e)<|by
   cases q:H b with
   | none=>rfl
   | some u=>
    have e':b=a:=hA b (by rw [q];simp);subst e';rw [hK<|by rw [q];simp] at e;cases e
  have hM:Mod K mg (d6 s₁.heap H):=⟨Ht,tE tD,⟨mb,tE hb,Q2⟩,let ⟨mc,h1,h2⟩:=xm;⟨mc,tE h1,h2⟩⟩;have e0:jT P w K mg (d6 s₁.heap H) callerA [] s₁ H:=⟨rfl,hM,λb o e=>OL e,Nat.le_of_eq<|OH _ _,trivial,λb hb=>absurd (show b∈([]:List Addr) from hb) (by simp),aE,.of_eq hg⟩;refine JG ((F _ Ht<|tE tD).run callerA [] s₁ H ⟨[.ref a],[]⟩ [.ref a] [.ref a] _ _ hr e0 (qd s₁<|.ref a) (.cons rfl .nil)<|dU H hO hS) λr s' h=>?_;cases r with
  | error e=>exact(xn H e s' h).elim
  | ok fl=>
   cases fl with
   | next=>exact False.elim h
   | brk=>exact False.elim h
   | cont=>exact False.elim h
   | ret u=>
    obtain⟨v,H',os,bare,un,xq,r',q⟩:=h;have q':v = .bl true:=q;subst q';obtain rfl:u=Value.bool true:=r';refine⟨rfl,OldK.of_keep λb o e=>?_,os,bare⟩;cases q:H b with
    | none=>exact un.keep b o e q (by intro z;exact absurd (show b∈([]:List Addr) from z)<|by simp)<|by simp
    | some u=>
     rcases hO b with z | ⟨ob,xs,z⟩
     ·rw [q] at z;cases z
     ·have z2:=un.d3 b ob _ z;obtain⟨e1,_⟩:=aE b _ z;obtain⟨e2,_⟩:=xq b _ z2;rw [e] at e1;cases e1;exact e2
 cases hk:K.lookup a with
 | some o=>
  have e:=KX a o hk;rw [ha] at e;cases e;refine core (λ_=>none) (λ_=> .inl rfl) (.inr ⟨_,vs.toArray,_,hk,rfl,rfl,rfl,by rw [Aw,xo];exact hl,by simpa using rv⟩) (λb u z=>by have z':(none:Option HO)=some u:=z;cases z') (λb z=>absurd rfl z) λz=>absurd rfl z
 | none=>
  refine core (λb=>if b=a then some (.bD {cls:= .type "list",data:= .seq vs.toArray}<|.lst<|ns.map V.int) else none) (λb=>?_) (.inl<|.inr ⟨{cls:= .type "list",data:= .seq vs.toArray},BP rfl⟩) (λb u z=>?_) (λb z=>?_) λ_=>hk
  ·by_cases hb:b=a
   ·exact .inr ⟨_,_,BP hb⟩
   ·exact .inl<|BL hb
  ·by_cases hb:b=a
   ·have z':=(BP hb).symm.trans z;cases z';subst hb;exact⟨ha,by rw [Ab];exact hl,vs,_,rv,ha⟩
   ·have z':=(BL hb).symm.trans z;cases z'
  ·by_cases hb:b=a
   ·exact hb
   ·exact absurd (BL hb) z
theorem j4{l:PySem.W.OpenLaw}{n k:Nat}{q:Program}{loose:List Str}{XP:(Str->Option Value)->Heap->Prop}{YP:World->Heap->Prop}{d:DefRec}{K:Params->PySem.W.Frag}{CX:World->fP}{sp:World->Sp}{x:Str}
  (hn:l.most=some n) (xr:n<=sizeLine) (j3:d.params.defaults=[]) (hr:bv k callerA)
  (hY:∀(w:World) (h:Heap),YP w h->(K w.params).In h)
  (F : ∀ (w : World) (mg : Str → Option Value) (fa : Addr) (h : Heap), (K w.params).In h → h.Ns mainGlobals mg → mg d.name = some (.ref fa) →
   ∃ fd:FuncData,(∀(s:Shared) (u:Value),BindsTo s fd ⟨[u],[]⟩ [(x,u)]) /\
    ∀ base:Heap,(K w.params).In base->base.Ns mainGlobals mg->aG l.prog w (K w.params) mg base (CX w) k fa fd [x] (sp w))
  (dU:∀(w:World) (H:Hp) (a:Addr) (ns:List Int),ns.length<=n->Only H->al (K w.params) H a (ns.map V.int)->sp w [.ref a] H (λv _=>v = .bl true) λ_ _ _=>False)
  (xn:∀(w:World) (H:Hp) (s:Shared) (e:Value) (s':Shared),CX w [] H s (λ_ _ _=>False) e s'->False) :
  PySem.W.WalkO q loose XP YP l.row.toRowW d [] (λf vs=>PySem.call f vs):=by
 refine Hr.fj hn j3 λw s₀ s₁ mg mb fa o pm cd doc a vs ns G Y ho hd ic qc iM hints hlen hg=>?_;have KX:=hY w _ Y;obtain⟨fd,hb,hF⟩:=F w mg fa _ KX G.T.g qc;exact Q1 KX G.T.g G.T.b G.T.builtins G.T.nolimit hg iM hints (Ce hlen xr) hr hF hb (λH hO hS=>dU w H a ns hlen hO hS) λH e s'=>xn w H s₁ e s'
def mD(s:Stmt):Arguments:=match s with
 | .FunctionDef _ a _ _ _ _ _ _ _ _=>a
 | _=>{posonlyargs:=[],args:=[],vararg:=none,kwonlyargs:=[],kw_defaults:=[],kwarg:=none,defaults:=[]}
def jz(s:Stmt):List Stmt:=match s with
 | .FunctionDef _ _ b _ _ _ _ _ _ _=>b
 | _=>[]
def bd(s:Stmt):Scope:=match s with
 | .FunctionDef _ _ _ _ _ _ sc _ _ _=>sc
 | _=>{kind:= .function,names:=[],isGenerator:=false,isCoroutine:=false}
abbrev bG:fP:=λ_ _ _ _ _ _=>False
abbrev E0:XK:=λ_ _ _=>False
theorem iN{X:Cx}:pY bG X E0:=λ_ _ _ _ _ _ _ h=>h.elim
structure bL(K:PySem.W.Frag)(x qual:Str)(st:Stmt)(f:Addr)(fd:FuncData):Prop where
 ex:∃(oc:Value) (od:Option Addr) (kV doc pm:Value) (an:Option Addr) (bJ ct:Value) (jV:Array<|Option Value),
  fd=PySem.W.fnOf x qual (mD st) (jz st) (bd st) .none kV doc pm an bJ ct/\K.lookup f=some ⟨oc,od,.func fd,jV⟩/\PySem.W.codeIn K bJ qual=true
 kp:PySem.W.keepIn K (.ref f)=true
section
variable{P:Program}{w:World}{K:PySem.W.Frag}{mg:Str->Option Value}{base:Heap}
theorem bL.ok{x qual:Str}{st:Stmt}{f:Addr}{fd:FuncData}{N ps:List Str}{k:Nat}{sp:Sp}(F:bL K x qual st f fd)(S:aq N ps<|bd st)(len:∀ vs H Q E,sp vs H Q E->vs.length=ps.length)
  (dh : ∀ (bJ : Value) (A : Around) (outer : List Env) (s : Shared) (H : Hp) (vs : List V) (Q : VK) (E : XK), bv k (A.deeper<|envOfC qual (bd st) s.heap.objs.size f bJ) → sp vs H Q E →
   ∃ t,gL (fe bG P w K mg base N qual (bd st) f bJ A outer s H E).oj (jz st) t/\t {nx:=λ_ H'=>Q .non H',rt:=Q} (start N vs) H):aG P w K mg base bG (k+1) f fd ps sp:=by
 obtain⟨oc,od,kV,doc,pm,an,bJ,ct,jV,rfl,lk,ic⟩:=F.ex;refine Qg lk ic S len λA outer s H vs Q E hr dU=>?_;obtain⟨t,h,q⟩:=dh bJ A outer s H vs Q E hr dU;exact⟨t,h.oj,q⟩
theorem bL.binds{x qual:Str}{st:Stmt}{f:Addr}{fd:FuncData}{ps:List Str}(F:bL K x qual st f fd)
  (h:∀(kV doc pm:Value) (an:Option Addr) (bJ ct:Value) (us:List Value),us.length=ps.length->bindArgs (PySem.W.fnOf x qual (mD st) (jz st) (bd st) .none kV doc pm an bJ ct) ⟨us,[]⟩=pure (ps.zip us)):Binds K fd ps []:=by
 obtain⟨oc,od,kV,doc,pm,an,bJ,ct,jV,rfl,lk,ic⟩:=F.ex;exact .all<|h kV doc pm an bJ ct
theorem Q3{x qual:Str}{st:Stmt}{f:Addr}{oc:Value}{od an:Option Addr}{jV:Array (Option Value)}{kV doc pm bJ ct:Value}(l:K.lookup f=some ⟨oc,od,.func<|PySem.W.fnOf x qual (mD st) (jz st) (bd st) .none kV doc pm an bJ ct,jV⟩)
  (c:PySem.W.codeIn K bJ qual=true) (k:PySem.W.keepIn K (.ref f)=true):bL K x qual st f (PySem.W.fnOf x qual (mD st) (jz st) (bd st) .none kV doc pm an bJ ct):=⟨⟨oc,od,kV,doc,pm,an,bJ,ct,jV,rfl,l,c⟩,k⟩
end
section
variable{X:Cx}
end
theorem cU{A B:Prop}(h:B):if false=true then A else B:=by
 rw [BL At];exact h
theorem gN{A B:Prop}(h:A):if true=true then A else B:=by
 rw [BP rfl];exact h
theorem j5{c A B:Prop} [Decidable c] (h1:c->A) (h2:¬ c->B):if c then A else B:=by
 by_cases h:c
 ·rw [BP h];exact h1 h
 ·rw [BL h];exact h2 h
def ak(H H':Hp):Prop:=∀ b o,H b=some o->H' b=some o
theorem ak.refl(H:Hp):ak H H:=λ_ _ h=>h
theorem ak.trans{H H1 H2:Hp}(a:ak H H1)(b:ak H1 H2):ak H H2:=λc o h=>b c o<|a c o h
theorem ak.free{H H':Hp}(e:ak H H'){l:Addr}(h:H' l=Option.none):H l=Option.none:=by
 cases q:H l with
 | none=>rfl
 | some o=>
  rw [e l o q] at h;cases h
theorem ak.seq{K:PySem.W.Frag}{H H':Hp}{a:Addr}{xs:List V}(e:ak H H')(h:al K H a xs):al K H' a xs:=by
 rcases h with (h | ⟨o,h⟩) | h
 ·exact .inl<|.inl<|e _ _ h
 ·exact .inl<|.inr ⟨o,e _ _ h⟩
 ·exact .inr h
section
variable{κ:Type} [DecidableEq κ]
def aK(kvs:List<|κ×V)(k:κ):Option V:=(kvs.find? λkv=>decide (kv.1=k)).map (·.2)
def putK(kvs:List<|κ×V)(k:κ)(v:V):List (κ×V):=
 if(kvs.any λkv=>decide (kv.1=k))=true then kvs.map (λkv=>if kv.1=k then(kv.1,v) else kv) else kvs++[(k,v)]
theorem gO{p:κ×V}{r:List (κ×V)}{k:κ}(e:p.1=k):aK (p :: r) k=some p.2:=by simp [aK,Fg,e]
theorem gP{p:κ×V}{r:List (κ×V)}{k:κ}(e:¬ p.1=k):aK (p :: r) k=aK r k:=by simp [aK,Fg,e]
theorem ot(k:κ):∀ kvs:List<|κ×V,(kvs.any λkv=>decide (kv.1=k))=(aK kvs k).isSome
 | []=>rfl
 | p :: r=>by
  rw [Fu]
  by_cases e:p.1=k
  ·simp only [gO e,BW e,Bool.true_or,Option.isSome_some]
  ·rw [gP e,BR e,Bool.false_or];exact ot k r
theorem Hu(k j:κ)(y:V):∀ kvs:List<|κ×V,aK (kvs.map λkv=>if kv.1=k then(kv.1,y) else kv) j=(aK kvs j).map λx=>if j=k then y else x
 | []=>rfl
 | p :: r=>by
  have ih:=Hu k j y r;rw [Bj]
  by_cases h:p.1=k
  ·rw [BP h]
   by_cases e:p.1=j
   ·rw [gO (p:=(p.1,y)) e,gO e,Gw,BP<|e.symm.trans h]
   ·rw [gP (p:=(p.1,y)) e,gP e,ih]
  ·rw [BL h]
   by_cases e:p.1=j
   ·rw [gO (p:=p) e,gO e,Gw,BL λz=>h<|e.trans z]
   ·rw [gP (p:=p) e,gP e,ih]
theorem Hv(k j:κ)(y:V):∀ kvs:List<|κ×V,aK kvs k=none->aK (kvs++[(k,y)]) j=if j=k then some y else aK kvs j
 | [],_=>by
  by_cases e:k=j
  ·rw [BP e.symm];exact gO (p:=(k,y)) e
  ·rw [BL λz=>e z.symm];exact gP (p:=(k,y)) e
 | p :: r,hn=>by
  rw [Fp];have hk:¬ p.1=k:=λz=>by rw [gO z] at hn;cases hn
  rw [gP hk] at hn;have ih:=Hv k j y r hn
  by_cases e:p.1=j
  ·rw [gO e,gO e,BL λz=>hk<|e.trans z]
  ·rw [gP e,gP e,ih]
theorem fQ(kvs:List<|κ×V)(k j:κ)(y:V):aK (putK kvs k y) j=if j=k then some y else aK kvs j:=by
 unfold putK
 by_cases a:(kvs.any λkv=>decide (kv.1=k))=true
 ·rw [BP a,Hu];rw [ot] at a
  by_cases e:j=k
  ·obtain⟨x,hx⟩:=Eu.mp a;rw [BP e,e,hx,Gw,BP rfl]
  ·rw [BL e];cases aK kvs j with
   | none=>rfl
   | some x=>rw [Gw,BL e]
 ·rw [BL a];refine Hv k j y kvs ?_;rw [ot] at a;cases q:aK kvs k with
  | none=>rfl
  | some x=>rw [q] at a;exact(a rfl).elim
theorem ig(kvs:List<|κ×V)(k:κ)(v:V):(putK kvs k v).length<=kvs.length+1:=by
 unfold putK
 split
 ·rw [Ab];omega
 ·rw [Ag,Au,Fh];omega
theorem Hw{kvs:List (κ×V)}{k:κ}(v:V)(h:aK kvs k=none):putK kvs k v=kvs++[(k,v)]:=by
 unfold putK;rw [ot,h];exact BL<|by decide
theorem dc.cL{o:Option V}{u:Option Value}(r:dc o u):o.isSome=u.isSome:=by
 cases o with
 | none=>cases u with
  | none=>rfl
  | some _=>exact(show False from r).elim
 | some _=>cases u with
  | none=>exact(show False from r).elim
  | some _=>rfl
theorem KV.val{kvs:List (κ×V)}{vs:List (κ×Value)}(r:KV kvs vs)(k:κ):dc (aK kvs k) (valueAt vs k):=by
 unfold KV at r
 induction r with
 | nil=>exact True.intro
 | @cons p q ps qs h t ih=>
  obtain⟨h1,h2⟩:=h
  by_cases e:p.1=k
  ·have e':q.1=k:=h1.symm.trans e;have b:valueAt (q :: qs) k=some q.2:=by simp [valueAt,Fg,e']
   rw [gO e,b];exact h2
  ·have e':¬ q.1=k:=λz=>e<|h1.trans z;have b:valueAt (q :: qs) k=valueAt qs k:=by simp [valueAt,Fg,e']
   rw [gP e,b];exact ih
theorem KV.any{kvs:List (κ×V)}{vs:List (κ×Value)}(r:KV kvs vs)(k:κ):(kvs.any λkv=>decide (kv.1=k))=vs.any λkv=>decide (kv.1=k):=by
 unfold KV at r
 induction r with
 | nil=>rfl
 | cons h t ih=>rw [Fu,Fu,ih,h.1]
theorem KV.repl{kvs:List (κ×V)}{vs:List (κ×Value)}(r:KV kvs vs)(k:κ){y:V}{u:Value}(ry:RelV y u) :
  KV (kvs.map λkv=>if kv.1=k then(kv.1,y) else kv) (vs.map λkv=>if kv.1=k then(kv.1,u) else kv):=by
 unfold KV at r ⊢
 induction r with
 | nil=>exact .nil
 | @cons p q ps qs h t ih=>
  rw [Bj,Bj];refine .cons ?_ ih;obtain⟨h1,h2⟩:=h
  by_cases e:p.1=k
  ·rw [BP e,BP<|h1.symm.trans e];exact⟨h1,ry⟩
  ·rw [BL e,BL λz=>e<|h1.trans z];exact⟨h1,h2⟩
theorem KV.put{kvs:List (κ×V)}{vs:List (κ×Value)}(r:KV kvs vs)(k:κ){y:V}{u:Value}(ry:RelV y u):KV (putK kvs k y) (stored vs k u):=by
 unfold putK stored;rw [r.any k]
 by_cases e:(vs.any λkv=>decide (kv.1=k))=true
 ·rw [BP e,BP e];exact r.repl k ry
 ·rw [BL e,BL e];exact Paired.snoc r ⟨rfl,ry⟩
theorem KV.keys{kvs:List (κ×V)}{vs:List (κ×Value)}(r:KV kvs vs):kvs.map (·.1)=vs.map (·.1):=by
 unfold KV at r
 induction r with
 | nil=>rfl
 | cons h t ih=>rw [Bj,Bj,ih,h.1]
theorem KV.length{kvs:List (κ×V)}{vs:List (κ×Value)}(r:KV kvs vs):kvs.length=vs.length:=Paired.length r
end
theorem mE{P:Program}{w:World}{k:Key}{u:Value}(r:RelV (kV k) u):(c7 P w).is k u=true:=by
 cases k with
 | inl i=>obtain⟨t,e⟩:=(show ∃ t,u=Value.int i t from r);subst e;exact OB P w i t
 | inr x=>obtain⟨t,e⟩:=(show ∃ t,u=Value.str x t from r);subst e;exact OC P w x t
theorem Hx{P:Program}{w:World}:∀{ks:List Key} {us:List Value},av (ks.map kV) us->ItemsAre (c7 P w) ks us
 | [],_,r=>by rw [List.map_nil] at r;cases r;exact .nil
 | k :: ks,_,r=>by
  rw [Bj] at r;cases r with
  | cons h t=>exact .cons (mE h)<|Hx t
abbrev KT(H:Hp):List (List Key×V)->List (List Key×Addr×Value)->Prop:=Paired λp q=>p.1=q.1/\H q.2.1=some (.tup<|p.1.map kV)/\RelV p.2 q.2.2
theorem KT.val{H:Hp}{kvs:List (List Key×V)}{xs:List (List Key×Addr×Value)}(r:KT H kvs xs)(k:List Key):dc (aK kvs k) ((atKey xs k).map (·.2)):=by
 induction r with
 | nil=>exact True.intro
 | @cons p q ps qs h t ih=>
  obtain⟨h1,_,h2⟩:=h
  by_cases e:p.1=k
  ·have e':q.1=k:=h1.symm.trans e;have b:atKey (q :: qs) k=some q.2:=by simp [atKey,Fg,e']
   rw [gO e,b];exact h2
  ·have e':¬ q.1=k:=λz=>e<|h1.trans z;have b:atKey (q :: qs) k=atKey qs k:=by simp [atKey,Fg,e']
   rw [gP e,b];exact ih
theorem KT.repl{H:Hp}{kvs:List (List Key×V)}{xs:List (List Key×Addr×Value)}(r:KT H kvs xs)(k:List Key){y:V}{u:Value}(ry:RelV y u) :
  KT H (kvs.map λkv=>if kv.1=k then(kv.1,y) else kv) (xs.map<|putAt k u):=by
 induction r with
 | nil=>exact .nil
 | @cons p q ps qs h t ih=>
  rw [Bj,Bj];refine .cons ?_ ih;obtain⟨h1,h2,h3⟩:=h;unfold putAt
  by_cases e:p.1=k
  ·rw [BP e,BP<|h1.symm.trans e];exact⟨h1,h2,ry⟩
  ·rw [BL e,BL λz=>e<|h1.trans z];exact⟨h1,h2,h3⟩
theorem KT.put{H:Hp}{kvs:List (List Key×V)}{xs:List (List Key×Addr×Value)}(r:KT H kvs xs)(k:List Key){b:Addr}{y:V}{u:Value}(hb:H b=some (.tup<|k.map kV))(ry:RelV y u) :
  KT H (putK kvs k y) (storedH xs k b u):=by
 have e:(kvs.any λkv=>decide (kv.1=k))=(atKey xs k).isSome:=by
  rw [ot,(r.val k).cL,Option.isSome_map]
 unfold putK storedH;rw [e]
 by_cases q:(atKey xs k).isSome=true
 ·rw [BP q,BP q];exact r.repl k ry
 ·rw [BL q,BL q];exact Paired.snoc r ⟨rfl,hb,ry⟩
theorem KT.keeps{H H':Hp}{kvs:List (List Key×V)}{xs:List (List Key×Addr×Value)}(r:KT H kvs xs)(ht:∀ b ys,H b=some (.tup ys)->H' b=some (.tup ys)):KT H' kvs xs:=
 Paired.lZ r λ_ _ z=>⟨z.1,ht _ _ z.2.1,z.2.2⟩
section
variable{P:Program}{w:World}{H:Hp}{h:Heap}{a:Addr}
theorem Hy{u:HO}(ok:b4 P w H h)(e:Rd H a u):az P w H h a u:=e.ok ok
theorem tF{kvs:List (Key×V)}(ok:b4 P w H h)(e:Rd H a<|.dK kvs):kvs.length<=sizeLine/\(a == sysModules)=false/\∃ vs,KV kvs vs/\h.DictOf (c7 P w) a vs:=
 show az P w H h a (.dK kvs) from Hy ok e
theorem tG{kvs:List (Key×V)}(ok:b4 P w H h)(e:H a=some (.dK kvs)):kvs.length<=sizeLine/\(a == sysModules)=false/\∃ vs,KV kvs vs/\h.DictOf (c7 P w) a vs:=tF ok<|.inl e
theorem qe{ks:List Key}(ok:b4 P w H h)(e:H a=some (.tup<|ks.map kV)):(tupleKind<|c7 P w).is h ks a:=by
 obtain⟨_,its,r,o,h1,h2,n,h3⟩:=(show az P w H h a (.tup<|ks.map kV) from ok a _ e);exact⟨o,its.toArray,n,h1,h2,h3,by simpa using Hx r⟩
theorem tH{kvs:List (List Key×V)}(ok:b4 P w H h)(e:Rd H a<|.dT kvs):kvs.length<=sizeLine/\(a == sysModules)=false /\
  ∃ xs,KT H kvs xs/\h.DictOfH (tupleKind<|c7 P w) a xs:=by
 obtain⟨z,y,xs,r,o,es,ep,h1,h2,h3,h4,h5⟩:=(show az P w H h a (.dT kvs) from Hy ok e);refine⟨z,y,xs,r,o,es,ep,h1,h2,h3,h4,λx hx=>?_,h5⟩;have all:∀{l:List (List Key×V)} {m:List (List Key×Addr×Value)},KT H l m->∀ x∈m,(tupleKind<|c7 P w).is h x.1 x.2.1:=by
  intro l m q
  induction q with
  | nil=>intro x hx;exact nomatch hx
  | @cons p q ps qs hq t ih=>
   intro x hx
   rcases Ak.mp hx with e | hx
   ·subst e;exact qe ok<|by rw [<- hq.1];exact hq.2.1
   ·exact ih x hx
 exact all r x hx
theorem Hz{kvs:List (List Key×V)}(ok:b4 P w H h)(e:H a=some (.dT kvs)):kvs.length<=sizeLine/\(a == sysModules)=false /\
  ∃ xs,KT H kvs xs/\h.DictOfH (tupleKind<|c7 P w) a xs:=tH ok<|.inl e
end
def bw(H:Hp)(a:Addr)(y:V)(r:Option V):Prop:=
 (∃ kvs k,Rd H a (.dK kvs)/\y=kV k/\r=aK kvs k)\/∃ kvs k b,Rd H a (.dT kvs)/\y = .ref b/\H b=some (.tup<|k.map kV)/\r=aK kvs k
def cC(H:Hp)(a:Addr)(y v:V)(H':Hp):Prop:=
 (∃ kvs k,H a=some (.dK kvs)/\y=kV k/\kvs.length < sizeLine/\H'=upd H a (.dK<|putK kvs k v)) \/
 ∃ kvs k b,H a=some (.dT kvs)/\y = .ref b/\H b=some (.tup<|k.map kV)/\kvs.length < sizeLine/\H'=upd H a (.dT<|putK kvs k v)
theorem bw.k{H:Hp}{a:Addr}{kvs:List (Key×V)}{k:Key}(e:H a=some (.dK kvs)):bw H a (kV k) (aK kvs k):= .inl ⟨kvs,k,.inl e,rfl,rfl⟩
theorem bw.t{H:Hp}{a b:Addr}{kvs:List (List Key×V)}{k:List Key}(e:H a=some (.dT kvs))(eb:H b=some (.tup<|k.map kV)):bw H a (.ref b) (aK kvs k):= .inr ⟨kvs,k,b,.inl e,rfl,eb,rfl⟩
theorem cC.k{H:Hp}{a:Addr}{kvs:List (Key×V)}{k:Key}{v:V}(e:H a=some (.dK kvs))(hl:kvs.length < sizeLine):cC H a (kV k) v (upd H a<|.dK<|putK kvs k v):= .inl ⟨kvs,k,e,rfl,hl,rfl⟩
theorem cC.t{H:Hp}{a b:Addr}{kvs:List (List Key×V)}{k:List Key}{v:V}(e:H a=some (.dT kvs))(eb:H b=some (.tup<|k.map kV))(hl:kvs.length < sizeLine) :
  cC H a (.ref b) v (upd H a<|.dT<|putK kvs k v):= .inr ⟨kvs,k,b,e,rfl,eb,hl,rfl⟩
section
variable{X:Cx}{pins:List (Addr×Obj)}{σ:St}{H:Hp}{s:Shared}{a:Addr}{y v:V}{u r:Value}{o:Option V}{A:Around}{E:Value->Shared->Prop}
theorem Inv.big(I:Inv X pins σ H s):sysModules < s.heap.objs.size:=by
 have h:mainGlobals < s.heap.objs.size:=(I.mod.glob.keeps I.bk).lt;exact Nat.lt_trans (by decide) h
theorem Q4{Q:Value->Shared->Prop}(hu:A.units+1 < cLine)(I:Inv X pins σ H s)(g:bw H a y<|some v)(ry:RelV y u)(h:∀ w' s',Inv X pins σ H s'->RelV v w'->Q w' s') :
  wpAny (model X.prog X.w) A (getItem (.ref a) u) Q E s:=by
 rcases g with ⟨kvs,k,e,ey,l⟩ | ⟨kvs,k,b,e,ey,eb,l⟩
 ·subst ey;obtain⟨z,hd,vs,rel,dd⟩:=tF I.aE e;obtain⟨w',hw,eU⟩:=dc.some_of (v:=v) (o:=valueAt vs k) (by rw [l];exact rel.val k);exact wpAny_getItem_of (mE ry) dd.mapOf hw<|h w' _ (I.tok _) eU
 ·subst ey;cases (show u=Value.ref b from ry);obtain⟨z,hd,xs,rel,dd⟩:=tH I.aE e;obtain⟨w',hw,eU⟩:=dc.some_of (v:=v) (o:=(atKey xs k).map (·.2)) (by rw [l];exact rel.val k);obtain⟨p,hp,ii⟩:=Ba.mp hw;refine wpAny_getItem_heap (PN hu) (qe I.aE eb) dd hp ?_;rw [ii];exact h w' _ (I.tok _) eU
theorem xt{Q:Value->Shared->Prop}(hu:A.units+1 < cLine)(I:Inv X pins σ H s)(g:bw H a y o)(ry:RelV y u)(h:∀ s',Inv X pins σ H s'->Q (.bool o.isSome) s') :
  wpAny (model X.prog X.w) A (compareOp .In u<|.ref a) Q E s:=by
 rcases g with ⟨kvs,k,e,ey,l⟩ | ⟨kvs,k,b,e,ey,eb,l⟩
 ·subst ey;obtain⟨z,hd,vs,rel,dd⟩:=tF I.aE e;refine wpAny_in_of (mE ry) hd dd.mapOf ?_;rw [<- (rel.val k).cL,<- l];exact h _<|I.tok _
 ·subst ey;cases (show u=Value.ref b from ry);obtain⟨z,hd,xs,rel,dd⟩:=tH I.aE e;refine wpAny_in_heap (PN hu) (qe I.aE eb) hd dd ?_;have q:=(rel.val k).cL;rw [Option.isSome_map] at q;rw [<- q,<- l];exact h _<|I.tok _
theorem k5{h':Heap}{t':Nat}{ob:HO}(I:Inv X pins σ H s)(mu:pI<|H a)(hs:Heap.SameBut a s.heap h')(he:∃ q,h'.get? a=some q)(new:az X.prog X.w (upd H a ob) h' a ob) :
  Inv X pins σ (upd H a ob) {s with heap:=h',toks:=t'}:=
 I.write (x:=a) (e:=a) mu (.inl rfl) (λb q hb z=>(hs.2 b hb).trans z) he new
theorem xu{P:Program}{w:World}{H':Hp}{h':Heap}{kvs:List (Key×V)}{vs:List (Key×Value)}(z:kvs.length<=sizeLine)(hd:(a == sysModules)=false)(rel:KV kvs vs)(dd:h'.DictOf (c7 P w) a vs) :
  az P w H' h' a (.dK kvs):=⟨z,hd,vs,rel,dd⟩
theorem Q5{H':Hp}{Q:Unit->Shared->Prop}(hu:A.units+1 < cLine)(I:Inv X pins σ H s)(g:cC H a y v H')(ry:RelV y u)(rv:RelV v r)(h:∀ s',Inv X pins σ H' s'->Q () s') :
  wpAny (model X.prog X.w) A (setItem (.ref a) u r) Q E s:=by
 rcases g with ⟨kvs,k,e,ey,l,eH⟩ | ⟨kvs,k,b,e,ey,eb,l,eH⟩
 ·subst ey eH;obtain⟨z,hd,vs,rel,dd⟩:=tG I.aE e;have hz:vs.length<=sizeLine:=by rw [<- rel.length];exact z
  have hl:(putK kvs k v).length<=sizeLine:=by have:=ig kvs k v;omega
  refine wpAny_setItem_pairs (hsz:=hz) (mE ry) dd λh' ik hs=>h _ ?_;have he:∃ q,h'.get? a=some q:=let ⟨q,_,_,hq,_⟩:=ik;⟨q,hq⟩
  exact k5 I (by rw [e];exact True.intro) hs he<|xu hl hd (rel.put k rv) ik
 ·subst ey eH;cases (show u=Value.ref b from ry);obtain⟨z,hd,xs,rel,dd⟩:=Hz I.aE e;have hz:xs.length<=sizeLine:=by rw [<- Paired.length rel];exact z
  have hl:(putK kvs k v).length<=sizeLine:=by have:=ig kvs k v;omega
  refine wpAny_setItem_heap (hsz:=hz) (PN hu) (qe I.aE eb) dd λh' ik hs=>h _ ?_;obtain⟨q,es,ep,hq,h2,h3,h4,_,h5⟩:=ik;refine k5 I (by rw [e];exact True.intro) hs ⟨q,hq⟩ ⟨hl,hd,_,(rel.put k eb rv).keeps λc ys ec=>?_,q,es,ep,hq,h2,h3,h4,h5⟩;rw [ay<|b9 ec e λz=>nomatch z];exact ec
end
section
variable{X:Cx}{pins:List (Addr×Obj)}{σ:St}{H:Hp}{s:Shared}{a:Addr}{kvs:List (Key×V)}{k:Key}{u:Value}{A:Around}{E:Value->Shared->Prop}
end
def mF(i:Expr):Prop:=∀ ov iv,subscripted i false ov iv=operate [ov,iv] (getItem ov iv)
theorem Q6{prog:Program}{w:World}{A:Around}{E:Value->Shared->Prop}{s:Shared}{env:Env}{value slice:Expr}{pos:Pos}{T id:String}{Q:Value->Shared->Prop}
  (hl:typeLookup (.type T) "__getitem__" = pure (some<|.builtin id)) (hs:mF slice)
  (h:wpAny (model prog w) A (eval value env) (λo s₁=>wpAny (model prog w) A (eval slice env) (λi s₂=>s₂.TypeIs o T/\wpAny (model prog w) A (getItem o i) Q E s₂) E s₁) E s) :
  wpAny (model prog w) A (eval (.Subscript value slice pos) env) Q E s:=by
 refine Subscript_<|CV h (λo s₁ h₁=>CV h₁ (λi s₂ h₂=>?_) λ_ _ x=>x) λ_ _ x=>x;obtain⟨hT,h₂⟩:=h₂;unfold subscriptTail;refine BJ ?_;rw [getitemInPython_of_ne hT.not_modules];refine BJ<|RL hT hl ?_;have fin:wpAny (model prog w) A (subscripted slice false o i) (λr s₃=>wpAny (model prog w) A (letTemporaryGo value o r >>= λ_=>pure r) Q E s₃) E s₂:=by
  rw [hs o i];exact wpAny_operating<|CV h₂ (λr s₃ h₃=>BJ<|wpAny_letTemporaryGo<|BK h₃) λ_ _ x=>x
 first
  | exact BK<|BJ fin
  | exact BJ<|BK<|BJ fin
  | exact BJ fin
theorem Q7{X:Cx}{pins:List (Addr×Obj)}{σ:St}{H:Hp}{s:Shared}{a:Addr}{y:V}{o:Option V}(I:Inv X pins σ H s)(g:bw H a y o):s.TypeIs (.ref a) "dict":=by
 rcases g with ⟨kvs,k,e,_,_⟩ | ⟨kvs,k,b,e,_,_,_⟩
 ·obtain⟨_,_,vs,_,dd⟩:=tF I.aE e;exact dd.typeIs
 ·obtain⟨_,_,xs,_,dd⟩:=tH I.aE e;exact dd.typeIs
def Q8(td ty:TE):TE:=λσ H Q=>td σ H λx H1=>ty σ H1 λy H2=>∃ a v,x = .ref a/\bw H2 a y (some v)/\Q v H2
def xx(ty td:TE):TE:=λσ H Q=>ty σ H λy H1=>td σ H1 λx H2=>∃ a o,x = .ref a/\bw H2 a y o/\Q (.bl o.isSome) H2
def Q9(td ty tv:TE):TS:=λD σ H=>tv σ H λv H1=>td σ H1 λx H2=>ty σ H2 λy H3=>∃ a H4,x = .ref a/\cC H3 a y v H4/\D.nx σ H4
section
variable{X:Cx}{o i e value:Expr}{pos pos' wL:Pos}{td ty tv:TE}
theorem Ra(hu:X.A.units+1 < cLine)(ho:PE X o td)(hi:PE X i ty)(hs:mF i):PE X (.Subscript o i pos) (Q8 td ty):=by
 intro pins s σ H Q I h;refine Q6 PySem.F.slot_dict_getitem.lookup hs<|aP (ho pins s σ H _ I h) λu s1 ⟨x,H1,I1,rx,q1⟩=>aP (hi pins s1 σ H1 _ I1 q1) λiv s2 ⟨y,H2,I2,ry,a,v,ex,g,q2⟩=>?_;subst ex;obtain rfl:u=Value.ref a:=rx;exact⟨Q7 I2 g,Q4 hu I2 g ry λw' s3 I3 eU=>⟨v,H2,I3,eU,q2⟩⟩
theorem Rb(hu:X.A.units+1 < cLine)(hi:PE X i ty)(ho:PE X o td):PC X .In i o (xx ty td):=by
 intro pins s σ H Q I h;refine aP (hi pins s σ H _ I h) λiv s1 ⟨y,H1,I1,ry,q1⟩=>aP (ho pins s1 σ H1 _ I1 q1) λu s2 ⟨x,H2,I2,rx,a,ov,ex,g,q2⟩=>?_;subst ex;obtain rfl:u=Value.ref a:=rx;exact xt hu I2 g ry λs3 I3=>⟨.bl ov.isSome,H2,I3,rfl,q2⟩
theorem Rc(hu:X.A.units+1 < cLine)(ho:PE X o td)(hi:PE X i ty)(hv:PE X value tv)(hs:swapsWith value (some<|.Subscript o i pos') pos.line X.env=pure false) :
  PS X (.Assign [.Subscript o i pos'] value pos) (Q9 td ty tv):=by
 intro pins s σ H D I h;refine wpAny_Assign_Subscript (aP (hv pins s σ H _ I h) λr s1 ⟨v,H1,I1,rv,q1⟩=>aP (ho pins s1 σ H1 _ I1 q1) λu s2 ⟨x,H2,I2,rx,q2⟩=>aP (hi pins s2 σ H2 _ I2 q2) λiv s3 ⟨y,H3,I3,ry,a,H4,ex,g,q3⟩=>?_) hs;subst ex;obtain rfl:u=Value.ref a:=rx;exact Q5 hu I3 g ry rv λs4 I4=>⟨σ,H4,I4,q3⟩
end
theorem Rf{P:Program}{w:World}{H:Hp}(h:Heap)(hb:sysModules < h.objs.size):az P w H (h.push {cls:= .type "dict",data:= .dict #[]}) h.objs.size (.dK []):=
 ⟨Bq _,beq_eq_false_iff_ne.mpr<|CN<|Bk hb,[],.nil,Heap.DictOf.new h⟩
theorem xA{P:Program}{w:World}{H:Hp}(h:Heap)(hb:sysModules < h.objs.size):az P w H (h.push {cls:= .type "dict",data:= .dict #[]}) h.objs.size (.dT []):=
 ⟨Bq _,beq_eq_false_iff_ne.mpr<|CN<|Bk hb,[],.nil,_,#[],0,As _ rfl,⟨rfl,rfl,rfl⟩,rfl,rfl,Cj⟩
def Rg:TE:=λ_ H Q=>∀ p,H p=none->Q (.ref p) (upd H p<|.dK [])
def Rh:TE:=λ_ H Q=>∀ p,H p=none->Q (.ref p) (upd H p<|.dT [])
section
variable{X:Cx}{pos:Pos}
theorem Ri:PE X (.Dict [] [] pos) Rg:=λpins s σ H Q I h=>
 wpAny_Dict_empty ⟨.ref s.heap.objs.size,_,I.laid (a:=s.heap.objs.size) (o:= .dK []) (t':=s.toks) (λ_ _ q=>Af _ q) (Am _)<|Rf s.heap I.big,rfl,h _<|I.aE.fresh<|Am _⟩
theorem Rj:PE X (.Dict [] [] pos) Rh:=λpins s σ H Q I h=>
 wpAny_Dict_empty ⟨.ref s.heap.objs.size,_,I.laid (a:=s.heap.objs.size) (o:= .dT []) (t':=s.toks) (λ_ _ q=>Af _ q) (Am _)<|xA s.heap I.big,rfl,h _<|I.aE.fresh<|Am _⟩
end
section
variable{X:Cx}{pins:List (Addr×Obj)}{σ:St}{H:Hp}{s:Shared}{a:Addr}{y d:V}{u r:Value}{o:Option V}{A:Around}{E:Value->Shared->Prop}
end
section
variable{X:Cx}{o e f:Expr}{apos dk:Pos}{td ty tx:TE}
end
section
variable{X:Cx}{pins:List (Addr×Obj)}{σ:St}{H:Hp}{s:Shared}{a:Addr}{kvs:List (Key×V)}{A:Around}{E:Value->Shared->Prop}
end
section
variable{X:Cx}{pins:List (Addr×Obj)}{σ:St}{H:Hp}{s:Shared}{a:Addr}{y:V}{u:Value}{A:Around}{E:Value->Shared->Prop}
end
section
variable{X:Cx}
end
section
variable{κ:Type} [DecidableEq κ]
theorem HC{kvs:List (κ×V)}{k:κ}{v:V}(h:aK kvs k=some v):k∈kvs.map (·.1):=by
 have q:(kvs.any λkv=>decide (kv.1=k))=true:=by
  rw [ot,h]
  all_goals rfl
 obtain⟨p,hp,e⟩:=List.any_eq_true.mp q;exact Aj.mpr ⟨p,hp,BX e⟩
theorem qf:∀{l:List κ} {k:κ},l.Nodup->¬ k∈l->(l++[k]).Nodup
 | [],k,_,_=>by simp
 | a :: r,k,h,hk=>by
  obtain⟨h1,h2⟩:=Bg.mp h;show(a :: (r++[k])).Nodup;refine Bg.mpr ⟨λm=>?_,qf h2 λm=>hk<|Ak.mpr<|Or.inr m⟩
  rcases An.mp m with q | q
  ·exact h1 q
  ·exact hk<|Ak.mpr<|Or.inl (Ah.mp q).symm
end
section
variable{X:Cx}{tg:Expr}
end
theorem HE{env:Env}:∀{names:List (Str×NameKind)} {x:Str} {k':NameKind},
  (names.map λ(n,k)=>if(k == NameKind.free && env.scope.kind == .function && env.kindOf n == some .cell) then(n,NameKind.cell) else(n,k)).lookup x=some k' ->
  ∃ k,names.lookup x=some k/\(k'=k\/(k = .free/\k' = .cell))
 | [],_,_,h=>by simp at h
 | (n,k) :: r,x,k',h=>by
  have ih:=@HE env r x k'
  change List.lookup x ((if(k == NameKind.free && env.scope.kind == .function && env.kindOf n == some .cell)=true then(n,NameKind.cell) else(n,k)) :: _)=_ at h
  cases hx:x == n with
  | true=>
   by_cases hc:(k == NameKind.free && env.scope.kind == .function && env.kindOf n == some .cell)=true
   ·rw [BP hc] at h;simp only [Di,hx] at h;cases h;have hk:k = .free:=by
     have:=(By _ _ ▸ (By _ _ ▸ hc).1).1;cases k <;> first | rfl | (exact absurd this<|by decide)
    exact⟨k,by simp [Di,hx],.inr ⟨hk,rfl⟩⟩
   ·rw [BL hc] at h;simp only [Di,hx] at h;cases h;exact⟨k,by simp [Di,hx],.inl rfl⟩
  | false=>
   have h2:∃ k,r.lookup x=some k/\(k'=k\/(k = .free/\k' = .cell)):=by
    by_cases hc:(k == NameKind.free && env.scope.kind == .function && env.kindOf n == some .cell)=true
    ·rw [BP hc] at h;simp only [Di,hx] at h;exact ih h
    ·rw [BL hc] at h;simp only [Di,hx] at h;exact ih h
   obtain⟨k2,e2,r2⟩:=h2;exact⟨k2,by simp [Di,hx,e2],r2⟩
def ce(names:List<|Str×NameKind)(cells:List<|Str×Addr)(acc:List<|Str×Addr):List (Str×Addr):=
 names.foldl (λa x=>if x.2 == .free then(match cells.lookup x.1 with | some c=>(x.1,c) :: a | none=>a) else a) acc
theorem tI{scope:Scope}{env:Env}(h:∀ x∈scope.names,x.2 = .free->∃ c,env.cells.lookup x.1=some c):closureFor scope env=pure (ce scope.names env.cells []):=by
 have all:∀(l:List<|Str×NameKind) (acc:List<|Str×Addr),(∀ x∈l,x.2 = .free->∃ c,env.cells.lookup x.1=some c) ->
   (forIn l acc λ(x:Str×NameKind) (cs:List<|Str×Addr)=>(if x.2 == .free then(do let c <- cellOf env x.1;pure (ForInStep.yield<|(x.1,c) :: cs)) else pure (ForInStep.yield cs):Sem _))=pure (ce l env.cells acc):=by
  intro l
  induction l with
  | nil=>intro acc _;rfl
  | cons x r ih=>
   intro acc hl;rw [RM];have hr:∀ y∈r,y.2 = .free->∃ c,env.cells.lookup y.1=some c:=λy hy=>hl y<|Ae _ hy;cases hk:x.2 == .free with
   | true=>
    have Rk:x.2 = .free:=by
     revert hk
     cases x.2 <;> intro hk <;> first | rfl | (exact absurd hk<|by decide)
    obtain⟨c,hc⟩:=hl x Ad Rk;simp only [DK,cellOf,hc];rw [show ce (x :: r) env.cells acc=ce r env.cells ((x.1,c) :: acc) by unfold ce;rw [Cy];simp [hk,hc]];exact ih _ hr
   | false=>
    simp only [Az,CT];rw [show ce (x :: r) env.cells acc=ce r env.cells acc by unfold ce;rw [Cy];simp [hk]];exact ih _ hr
 have q:=all scope.names [] h;simp only [closureFor];exact(BZ (· >>= λr=>pure r) q).trans rfl
theorem xB:∀(names:List<|Str×NameKind) (cells acc:List<|Str×Addr),(∀ x c,(x,c)∈acc->cells.lookup x=some c)->∀ x c,(x,c)∈ce names cells acc->cells.lookup x=some c
 | [],_,_,h=>h
 | y :: r,cells,acc,h=>by
  have e:ce (y :: r) cells acc=ce r cells (if y.2 == .free then(match cells.lookup y.1 with | some c=>(y.1,c) :: acc | none=>acc) else acc):=rfl;rw [e];refine xB r cells _ ?_;cases hk:y.2 == .free with
  | false=>simpa using h
  | true=>
   cases hc:cells.lookup y.1 with
   | none=>simpa using h
   | some c=>
    intro x d hx;simp only [DK] at hx
    rcases Ak.mp hx with e | hx
    ·cases e;exact hc
    ·exact h x d hx
theorem HG:∀(names:List<|Str×NameKind) (cells acc:List<|Str×Addr) (x:Str) (c:Addr),(x,c)∈acc->(x,c)∈ce names cells acc
 | [],_,_,_,_,h=>h
 | y :: r,cells,acc,x,c,h=>by
  have e:ce (y :: r) cells acc=ce r cells (if y.2 == .free then(match cells.lookup y.1 with | some c=>(y.1,c) :: acc | none=>acc) else acc):=rfl;rw [e];refine HG r cells _ x c ?_;cases hk:y.2 == .free with
  | false=>simpa using h
  | true=>
   cases hc:cells.lookup y.1 with
   | none=>simpa using h
   | some d=>simp only [DK];exact Ae _ h
theorem xC:∀(names:List<|Str×NameKind) (cells acc:List<|Str×Addr) (x:Str) (c:Addr),(x,NameKind.free)∈names->cells.lookup x=some c->(x,c)∈ce names cells acc
 | [],_,_,_,_,h,_=>by cases h
 | y :: r,cells,acc,x,c,h,hc=>by
  have e:ce (y :: r) cells acc=ce r cells (if y.2 == .free then(match cells.lookup y.1 with | some c=>(y.1,c) :: acc | none=>acc) else acc):=rfl;rw [e]
  rcases Ak.mp h with e2 | h
  ·subst e2;refine HG r cells _ x c ?_;have:(NameKind.free == NameKind.free)=true:=rfl;simp only [hc,this,DK];exact Ad
  ·exact xC r cells _ x c h hc
theorem xD{α:Type}:∀{l:List (Str×α)} {x:Str} {c:α},(x,c)∈l->∃ d,l.lookup x=some d
 | [],_,_,h=>by cases h
 | (n,d) :: r,x,c,h=>by
  cases hx:x == n with
  | true=>exact⟨d,by simp [Di,hx]⟩
  | false=>
   rcases Ak.mp h with e | h
   ·cases e;simp at hx
   ·obtain⟨d',e⟩:=xD h;exact⟨d',by simp [Di,hx,e]⟩
section
variable{prog:Program}{w:World}{A:Around}{R:Result->Shared->Prop}{s:Shared}
theorem k0a{elt target iter:Expr}{ifs:List Expr}{scope:Scope}{pos:Pos}{it acc:Value}{env:Env}(I:Nat->Shared->Prop)
  (turn : ∀ n s, I n s → wpAny (model prog w) A (pyNext it) (λr s₁ => match r with
   | none=>R (.ok .next) s₁
   | some v=>wpAny (model prog w) A (letOwnedTupleGo target it v) (λ_ s₁'=>wpAny (model prog w) A (assign target env v) (λ_ s₂=>
     wpAny (model prog w) A (forIn ifs true λc r=>if r=true then do let ok <- isTrue c env<|eval c env;pure (ForInStep.yield ok) else pure (ForInStep.yield r)) (λok s₃=>
      if ok=true then wpAny (model prog w) A (eval elt env) (λx s₄=>
       wpAny (model prog w) A (call (.builtin "list.append") [acc,x]) (λ_ s₅=>∃ m,m < n/\I m s₅) (notedBy (model prog w) A env λe s'=>R (.error e) s') s₄) (notedBy (model prog w) A env λe s'=>R (.error e) s') s₃
      else ∃ m,m < n/\I m s₃) (notedBy (model prog w) A env λe s'=>R (.error e) s') s₂) (notedBy (model prog w) A env λe s'=>R (.error e) s') s₁') (notedBy (model prog w) A env λe s'=>R (.error e) s') s₁) (notedBy (model prog w) A env λe s'=>R (.error e) s') s)
  (n:Nat) (h:I n s) :
  codeAny (model prog w) A (.compLoop (.ListComp elt [⟨target,iter,ifs,0⟩] scope pos) 0 it acc env) R s:=by
 refine codeAny_loop rfl I (λn s hI=>?_) n h;show wpAny _ A ((compTurn (.ListComp elt [⟨target,iter,ifs,0⟩] scope pos) 0 it acc env).onRaise λx=>do noteFrame x env;theTreesLotGoes x) _ _ s;refine wpAny_noted ?_;rw [compTurn_list];refine BJ<|IK<|BJ<|CV (turn n s hI) (λr s₁ h₁=>?_) λ_ _ h'=>h';cases r with
 | none=>exact BK h₁
 | some v=>
  refine BJ<|CV h₁ (λ_ s₁' h₁'=>?_) λ_ _ h'=>h';refine BJ<|CV h₁' (λ_ s₂ h₂=>BJ<|CV h₂ (λok s₃ h₃=>?_) λ_ _ h'=>h') λ_ _ h'=>h';cases ok with
  | false=>exact BK ⟨rfl,h₃⟩
  | true=>
   exact BJ<|BJ<|CV h₃ (λx s₄ h₄=>BJ<|CV h₄ (λ_ s₅ h₅=>BK<|BK ⟨rfl,h₅⟩) λ_ _ h'=>h') λ_ _ h'=>h'
end
def HH(X:Cx)(ifs:List Expr)(t:TT):Prop:=
 ∀(pins:List<|Addr×Obj) (s:Shared) (σ:St) (H:Hp) (Q:Bool->Hp->Prop),Inv X pins σ H s->t σ H Q ->
  wpAny (model X.prog X.w) X.A (forIn ifs true λc r=>if r=true then do let ok <- isTrue c X.env<|eval c X.env;pure (ForInStep.yield ok) else pure (ForInStep.yield r)) (TP X pins σ Q) X.xe s
def xE:TT:=λ_ H Q=>Q true H
theorem Rl{X:Cx}:HH X [] xE:=λ_ _ _ H _ I h=>wpAny_tests_nil ⟨H,I,h⟩
theorem Rm{X:Cx}{c:Expr}{t:TT}(h:PT X c t):HH X [c] t:=λpins s σ H Q I hq=>wpAny_tests_one<|h pins s σ H Q I hq
def fk(X:Cx)(N':List Str)(scope:Scope)(cl:List<|Str×Addr)(C:Addr)(s₀:Shared)(H₀:Hp)(ex:List Addr):Cx:=
 {prog:=X.prog,w:=X.w,K:=X.K,mg:=X.mg,base:=X.base,A:=X.A,N:=N',s₀:=s₀,H₀:=H₀,env:=compEnvC scope cl C X.env,outer:=X.stack,stack:=X.stack,ex:=ex,fn:=λx=>match scope.names.lookup x with | some .cell=>true | _=>false,calm:=X.calm,pn:=[],xe:=λ_ _=>False}
theorem gQ{α:Type}{t:Sem α}{Q Q':α->Shared->Prop}{M:Model}{A:Around}{E:Value->Shared->Prop}{s:Shared}(h:wpAny M A t Q (λ_ _=>False) s)(hQ:∀ a s,Q a s->Q' a s):wpAny M A t Q' E s:=CV h hQ λ_ _ z=>z.elim
section
variable{X:Cx}
theorem xF:fJ X (.builtin "isinstance") (λxs H Q=>∃ x t T b,xs=[x,.ty T]/\cK X.K H x t/\PySem.W.kitOne X.K t (.type T)=some b/\Q (.bl b) H):=by
 intro pins s σ H xs us Q I r h;obtain⟨x,t,T,b,rfl,ty,e,q⟩:=h;obtain⟨u,w',rfl,ru,eU⟩:=vals2 r;cases (show w'=Value.type T from eU);exact P8 I ru ty e λtk=>⟨.bl b,H,I.tok tk,rfl,q⟩
theorem Rn:cr X (binaryOp .Mult) (λx y H Q=>∃ z i,x = .str z/\y = .int i/\0<=i/\i<=100000/\z.length * i.toNat<=100000/\Q (.str<|Txt.mul z i) H):=by
 intro pins s σ H x y v u Q I rx ry h;obtain⟨z,i,rfl,rfl,h0,h1,h2,q⟩:=h;obtain⟨t,rfl⟩:=rx;obtain⟨t',rfl⟩:=ry;have hsz:sizeLine=16777216:=FJ;refine SB.mul ⟨?_,λh3 h4=>?_,λh3 h4=>?_⟩ λt' k=>⟨.str _,H,I.tok k,⟨_,rfl⟩,q⟩
 ·rw [BR (by omega),BR<|by omega];rfl
 ·have h5:(z.length:Int)<=100000:=by
   have h6:z.length * 1<=z.length * i.toNat:=Nat.mul_le_mul_left _ (by omega);omega
  have h7:(100000:Int)<=(2 ^ 63 - 1) / i:=by
   rw [Int.le_ediv_iff_mul_le<|by omega];have:(100000:Int) * i<=100000 * 100000:=Int.mul_le_mul_of_nonneg_left h1 (by decide);have e:(2:Int) ^ 63 - 1=9223372036854775807:=by decide
   omega
  omega
 ·unfold Builtin.Str.tooLong;rw [hsz];exact BR<|by omega
end
def isStar:Expr->Bool
 | .Starred _ _=>true
 | _=>false
def noStar(es:List Expr):Bool:=es.all λe=>!isStar e
theorem mG(e:Expr)(es:List Expr)(env:Env)(h:isStar e=false):starEach (e :: es) env=(false,eval e env) :: starEach es env:=by
 cases e <;> first | rfl | (exact absurd h<|by simp [isStar])
theorem tJ(pos:Pos)(env:Env):∀ es:List Expr,noStar es=true->(backTo pos<|starEach es env).any (·.1)=false
 | [],_=>rfl
 | e :: es,h=>by
  have h':(!isStar e)=true/\noStar es=true:=by
   have:=h;unfold noStar at this ⊢;rw [Ha,By] at this;exact this
  have hs:isStar e=false:=by
   have:=h'.1;cases q:isStar e with
   | true=>rw [q] at this;cases this
   | false=>rfl
  rw [mG e es env hs];show(false || (backTo pos<|starEach es env).any (·.1))=false;rw [tJ pos env es h'.2];rfl
theorem ou{e:Expr}{es:List Expr}(h:noStar (e :: es)=true):isStar e=false/\noStar es=true:=by
 unfold noStar at h ⊢;rw [Ha,By] at h;refine⟨?_,h.2⟩;cases q:isStar e with
 | true=>rw [q] at h;cases h.1
 | false=>rfl
section
variable{X:Cx}{CX:fP}{k:Nat}{f C:Addr}{fd:FuncData}{ps:List Str}{sp:Sp}{jU:List V}{ds:List Value}{E:XK}{x m:Str}{p pos apos:Pos}{e o:Expr}{es:List Expr}{ta te:TE}{t:TA}{id T:String}{r:List V->Hp->VK->Prop}
theorem Ro(ha:PE X e te)(hr:PA X es t)(hs:isStar e=false:=by rfl):PA X (e :: es) (GV te t):=P' ha hr<|mG _ _ _ hs
theorem Rp(F:aG X.prog X.w X.K X.mg X.base CX k f fd ps sp)(hr:bv k X.A)(hm:X.mg x=some (.ref f))(hk:PySem.W.keepIn X.K (.ref f)=true)(hb:Binds X.K fd ps [])(hx:pY CX X E)
  (ha:PA X (e :: es) t) (hg:Gl X x:=by rfl) (dJ:(x == ("__debug__" : Str))=false:=by decide) (hs:noStar (e :: es)=true:=by rfl):PE X (.Call (.Name x p) (e :: es) [] pos) (G0 sp [] E t):=
 Qd F hr hg hm hk hb .nil hx ha dJ (mG _ _ _ (ou hs).1) (tJ _ _ _ (ou hs).2)
theorem xG(hc:fJ X (.builtin id) r)(hm:X.mg x=none)(hv:bootBuiltins x=some (.builtin id))(ha:PA X (e :: es) t)(hg:Gl X x:=by rfl)(hn:x ≠ "__name__":=by decide)(dJ:(x == ("__debug__" : Str))=false:=by decide)
  (hs:noStar (e :: es)=true:=by rfl):PE X (.Call (.Name x p) (e :: es) [] pos) (tq r t):=
 Qh hc hg hm hv ha hn dJ (mG _ _ _ (ou hs).1) (tJ _ _ _ (ou hs).2)
theorem xH(hc:fJ X (.type T) r)(hm:X.mg x=none)(hv:bootBuiltins x=some (.type T))(ha:PA X (e :: es) t)(hg:Gl X x:=by rfl)(hn:x ≠ "__name__":=by decide)(dJ:(x == ("__debug__" : Str))=false:=by decide)
  (hs:noStar (e :: es)=true:=by rfl):PE X (.Call (.Name x p) (e :: es) [] pos) (tq r t):=
 Qi hc hg hm hv ha hn dJ (mG _ _ _ (ou hs).1) (tJ _ _ _ (ou hs).2)
end
structure Ev(X:Cx)(e:Expr)(σ:St)(H:Hp)(Q:VK):Prop where
 run:∀(pins:List<|Addr×Obj) (s:Shared),Inv X pins σ H s->wpAny (model X.prog X.w) X.A (eval e X.env) (EP X pins σ Q) X.xe s
structure Et(X:Cx)(e:Expr)(σ:St)(H:Hp)(Q:Bool->Hp->Prop):Prop where
 run:∀(pins:List<|Addr×Obj) (s:Shared),Inv X pins σ H s->wpAny (model X.prog X.w) X.A (isTrue e X.env<|eval e X.env) (TP X pins σ Q) X.xe s
structure Ew(X:Cx)(e:Expr)(σ:St)(H:Hp)(Q:Bool->Hp->Prop):Prop where
 run:∀(whole:Sem Value) (pins:List<|Addr×Obj) (s:Shared),Inv X pins σ H s->wpAny (model X.prog X.w) X.A (isTrue e X.env whole) (TP X pins σ Q) X.xe s
structure Ea(X:Cx)(es:List Expr)(σ:St)(H:Hp)(Q:List V->Hp->Prop):Prop where
 run:∀(pos:Pos) (pins:List<|Addr×Obj) (s:Shared),Inv X pins σ H s->wpAny (model X.prog X.w) X.A (spliced<|backTo pos<|starEach es X.env) (AP X pins σ Q) X.xe s
structure Eo(X:Cx)(e:Option Expr)(σ:St)(H:Hp)(Q:Option Int->Hp->Prop):Prop where
 run:∀(pins:List<|Addr×Obj) (s:Shared),Inv X pins σ H s->wpAny (model X.prog X.w) X.A (evalPart e X.env) (λu s'=>∃ o H',Inv X pins σ H' s'/\IsPart u o/\Q o H') X.xe s
structure Eg(X:Cx)(e:Expr)(v:V)(σ:St)(H:Hp)(Q:St->Hp->Prop):Prop where
 run:∀(pins:List<|Addr×Obj) (s:Shared) (u:Value),Inv X pins σ H s->RelV v u->wpAny (model X.prog X.w) X.A (assign e X.env u) (λ_ s'=>∃ σ' H',Inv X pins σ' H' s'/\Q σ' H') X.xe s
structure Run(X:Cx)(l:List Stmt)(D:Ends)(σ:St)(H:Hp):Prop where
 run:∀(pins:List<|Addr×Obj) (s:Shared),Inv X pins σ H s->wpAny (model X.prog X.w) X.A (execs l X.env) (SP X pins D) X.xe s
def Rq(X:Cx)(e:Expr):TE:=λσ H Q=>Ev X e σ H Q
def Rr(X:Cx)(e:Expr):TT:=λσ H Q=>Et X e σ H Q
def Rt(X:Cx)(e:Expr):TT:=λσ H Q=>Ew X e σ H Q
def qg(X:Cx)(es:List Expr):TA:=λσ H Q=>Ea X es σ H Q
def Ru(X:Cx)(e:Option Expr):TO:=λσ H Q=>Eo X e σ H Q
def Rv(X:Cx)(e:Expr):TG:=λv σ H Q=>Eg X e v σ H Q
def xI(X:Cx)(l:List Stmt):TS:=λD σ H=>Run X l D σ H
section
variable{X:Cx}{e a b c o:Expr}{es:List Expr}{st:Stmt}{rest body jA:List Stmt}{σ:St}{H:Hp}{Q:VK}{T:Bool->Hp->Prop}{L:List V->Hp->Prop}{D:Ends}{pos p p2:Pos}
theorem bK:PE X e (Rq X e):=λpins s _ _ _ I h=>h.run pins s I
theorem k6:PT X e (Rr X e):=λpins s _ _ _ I h=>h.run pins s I
theorem HI:PW X e (Rt X e):=λwh pins s _ _ _ I h=>h.run wh pins s I
theorem gR:PA X es (qg X es):=λpos pins s _ _ _ I h=>h.run pos pins s I
theorem HK{e:Option Expr}:PO X e (Ru X e):=λpins s _ _ _ I h=>h.run pins s I
theorem tK:PG X e (Rv X e):=λpins s _ _ _ u _ I r h=>h.run pins s u I r
theorem oz{l:List Stmt}:gL X l (xI X l):=λpins s _ _ _ I h=>h.run pins s I
theorem dt{t:TE}(h1:PE X e t)(h2:t σ H Q):Ev X e σ H Q:=⟨λpins s I=>h1 pins s σ H Q I h2⟩
theorem tL{t:TT}(h1:PT X e t)(h2:t σ H T):Et X e σ H T:=⟨λpins s I=>h1 pins s σ H T I h2⟩
theorem tM{t:TT}(h1:PW X e t)(h2:t σ H T):Ew X e σ H T:=⟨λwh pins s I=>h1 wh pins s σ H T I h2⟩
theorem HL{t:TA}(h1:PA X es t)(h2:t σ H L):Ea X es σ H L:=⟨λpos pins s I=>h1 pos pins s σ H L I h2⟩
theorem HM{e:Option Expr}{t:TO}{R:Option Int->Hp->Prop}(h1:PO X e t)(h2:t σ H R):Eo X e σ H R:=⟨λpins s I=>h1 pins s σ H R I h2⟩
theorem HP{t:TG}{v:V}{R:St->Hp->Prop}(h1:PG X e t)(h2:t v σ H R):Eg X e v σ H R:=⟨λpins s u I r=>h1 pins s σ H v u R I r h2⟩
theorem k8{t:TS}(h1:PS X st t)(h2:t {D with nx:=λσ' H'=>Run X rest D σ' H'} σ H):Run X (st :: rest) D σ H:=⟨λpins s I=>O7 h1 oz pins s σ H D I h2⟩
theorem bm(h:D.nx σ H):Run X [] D σ H:=⟨λpins s I=>O6 pins s σ H D I h⟩
theorem Ev.mono{Q':VK}(h:Ev X e σ H Q)(f:∀ v H',Q v H'->Q' v H'):Ev X e σ H Q':=⟨λpins s I=>aP (h.run pins s I) λ_ _ ⟨v,H',I',r,q⟩=>⟨v,H',I',r,f v H' q⟩⟩
theorem Et.mono{T':Bool->Hp->Prop}(h:Et X e σ H T)(f:∀ v H',T v H'->T' v H'):Et X e σ H T':=⟨λpins s I=>aP (h.run pins s I) λv _ ⟨H',I',q⟩=>⟨H',I',f v H' q⟩⟩
theorem Ea.mono{L':List V->Hp->Prop}(h:Ea X es σ H L)(f:∀ v H',L v H'->L' v H'):Ea X es σ H L':=⟨λpos pins s I=>aP (h.run pos pins s I) λ_ _ ⟨v,H',I',r,q⟩=>⟨v,H',I',r,f v H' q⟩⟩
theorem ae(i:Nat){x:Str}{v:V}(h:Q v H)(hv:σ[i]?=some (some v):=by rfl)(hN:X.N[i]?=some x:=by rfl)(hs:we X.env.scope x:=by first | exact Or.inl rfl | exact Or.inr (Or.inl rfl) | exact Or.inr<|Or.inr rfl)(hd:(x == ("__debug__" : Str))=false:=by decide)
  (ic:(x == ("__classdict__" : Str))=false:=by decide):Ev X (.Name x p) σ H Q:=dt (OQ (i:=i) hN hs hd ic) ⟨v,hv,h⟩
theorem aB{i:Int}{j:Nat}(h:Q (.int i) H):Ev X (.Constant (.int i) j p) σ H Q:=dt (OS) h
theorem HQ{i:Bool}{j:Nat}(h:Q (.bl i) H):Ev X (.Constant (.bool i) j p) σ H Q:=dt (OT) h
theorem xJ{i:Str}{j:Nat}(h:Q (.str i) H):Ev X (.Constant (.str i) j p) σ H Q:=dt (OU) h
theorem Rw{x:Str}{v:V}{u:Value}(hm:X.mg x=some u)(r:RelV v u)(h:Q v H)(hg:Gl X x:=by rfl)(hd:(x == ("__debug__" : Str))=false:=by decide):Ev X (.Name x p) σ H Q:=dt (OV hg hm r hd) h
theorem xK{x:Str}(v:V){u:Value}(hm:X.mg x=none)(hv:bootBuiltins x=some u)(r:RelV v u)(h:Q v H)(hg:Gl X x:=by rfl)(hn:x ≠ "__name__":=by decide)(hd:(x == ("__debug__" : Str))=false:=by decide):Ev X (.Name x p) σ H Q:=dt (OW hg hm hv r hn hd) h
theorem aQ{op:Operator}{r:R2}(ho:cr X (binaryOp op) r)(h:Ev X a σ H λx H1=>Ev X b σ H1 λy H2=>r x y H2 Q):Ev X (.BinOp a op b pos) σ H Q:=dt (PQ ho bK bK) h
theorem HR{op:UnaryOp}{r:V->Hp->VK->Prop}(ho:sZ X (unaryOp op) r)(h:Ev X a σ H λx H1=>r x H1 Q):Ev X (.UnaryOp op a pos) σ H Q:=dt (PR ho bK) h
theorem tN{op:CmpOp}{r:R2}(ho:cr X (compareOp op) r)(h:Ev X a σ H λx H1=>Ev X b σ H1 λy H2=>r x y H2 Q)(hm:behindInMarks op b=false:=by with_unfolding_all rfl):Ev X (.Compare a [op] [b] pos) σ H Q:=dt (P1 ho bK bK hm) h
theorem bb{r:R2}(hr:p7 X r)(h:Ev X a σ H λx H1=>Ev X b σ H1 λy H2=>r x y H2 Q)(hs:Hh b:=by intro _ _;rfl):Ev X (.Subscript a b pos) σ H Q:=dt (Qs hr bK bK hs) h
theorem xL{r:V->Option Int->Option Int->Hp->VK->Prop}{lo hi:Option Expr}(hr:wU X r)(h:Ev X a σ H λx H1=>Eo X lo σ H1 λl H2=>Eo X hi σ H2 λu H3=>r x l u H3 Q):Ev X (.Subscript a (.Slice lo hi none p2) pos) σ H Q:=dt (Qo hr bK HK HK) h
theorem xM{R:Option Int->Hp->Prop}(h:R none H):Eo X none σ H R:=HM (Ql) h
theorem xN{R:Option Int->Hp->Prop}(h:Ev X a σ H λx H1=>∃ i,x = .int i/\R (some i) H1):Eo X (some a) σ H R:=HM (Qm bK) h
theorem aA(h:L [] H):Ea X [] σ H L:=HL (P9) h
theorem ao(h:Ev X e σ H λx H1=>Ea X es σ H1 λxs H2=>L (x :: xs) H2)(hs:isStar e=false:=by rfl):Ea X (e :: es) σ H L:=HL (Ro bK gR hs) h
theorem gS{k:Nat}(h:Ea X es σ H λxs H1=>xs.length<=sizeLine/\∀ p,H1 p=none->Q (.ref p) (upd H1 p<|.tup xs)):Ev X (.Tuple es k pos) σ H Q:=dt (Qa gR) h
theorem dL(h:Ea X es σ H λxs H1=>xs.length<=sizeLine/\∀ p,H1 p=none->Q (.ref p) (upd H1 p<|.lst xs)):Ev X (.List es pos) σ H Q:=dt (Qb gR) h
theorem Rx{CX:fP}{k:Nat}{f:Addr}{fd:FuncData}{ps:List Str}{sp:Sp}{E:XK}{x:Str}(F:aG X.prog X.w X.K X.mg X.base CX k f fd ps sp)(hr:bv k X.A)(hm:X.mg x=some (.ref f))(hk:PySem.W.keepIn X.K (.ref f)=true)(hb:Binds X.K fd ps [])(hx:pY CX X E)
  (h:Ea X (e :: es) σ H λvs H1=>sp vs H1 Q E) (hg:Gl X x:=by rfl) (dJ:(x == ("__debug__" : Str))=false:=by decide) (hs:noStar (e :: es)=true:=by rfl):Ev X (.Call (.Name x p) (e :: es) [] pos) σ H Q:=
 dt (Rp F hr hm hk hb hx gR hg dJ hs) (show Ea X (e :: es) σ H _ from h.mono λvs H1 q=>by rw [Bz];exact q)
theorem bQ{id:String}{r:List V->Hp->VK->Prop}{x:Str}(hc:fJ X (.builtin id) r)(hm:X.mg x=none)(hv:bootBuiltins x=some (.builtin id))(h:Ea X (e :: es) σ H λvs H1=>r vs H1 Q)(hg:Gl X x:=by rfl)(hn:x ≠ "__name__":=by decide)(dJ:(x == ("__debug__" : Str))=false:=by decide)
  (hs:noStar (e :: es)=true:=by rfl):Ev X (.Call (.Name x p) (e :: es) [] pos) σ H Q:=dt (xG hc hm hv gR hg hn dJ hs) h
theorem oA{T:String}{r:List V->Hp->VK->Prop}{x:Str}(hc:fJ X (.type T) r)(hm:X.mg x=none)(hv:bootBuiltins x=some (.type T))(h:Ea X (e :: es) σ H λvs H1=>r vs H1 Q)(hg:Gl X x:=by rfl)(hn:x ≠ "__name__":=by decide)(dJ:(x == ("__debug__" : Str))=false:=by decide)
  (hs:noStar (e :: es)=true:=by rfl):Ev X (.Call (.Name x p) (e :: es) [] pos) σ H Q:=dt (xH hc hm hv gR hg hn dJ hs) h
theorem dM{op:CmpOp}{r:R2}(ho:cr X (compareOp op) r)(h:Ev X a σ H λx H1=>Ev X b σ H1 λy H2=>r x y H2 λz H3=>∃ k,z = .bl k/\T k H3)(hm:behindInMarks op b=false:=by with_unfolding_all rfl):Et X (.Compare a [op] [b] pos) σ H T:=tL (P4 ho bK bK hm) h
theorem tO(h:Et X a σ H λk H1=>T (!k) H1):Et X (.UnaryOp .Not a pos) σ H T:=tL (O4 k6) h
theorem qh(h:Ev X e σ H λx H1=>∃ k,x = .bl k/\T k H1)(he:∀ whole,isTrue e X.env whole=(do let v <- whole;standAt e.pos;holding [v] (truthy v)):=by intro _;rfl):Et X e σ H T:=tL (OY bK he) h
theorem xO(h:Ew X e σ H T):Et X e σ H T:=⟨λpins s I=>h.run _ pins s I⟩
theorem Ry(h:Et X a σ H λk H1=>if k=true then Ew X (.BoolOp .And (b :: es) pos) σ H1 T else T false H1):Ew X (.BoolOp .And (a :: b :: es) pos) σ H T:=tM (O2 k6 HI) h
theorem xP(h:Et X a σ H λk H1=>if k=true then T true H1 else Ew X (.BoolOp .Or (b :: es) pos) σ H1 T):Ew X (.BoolOp .Or (a :: b :: es) pos) σ H T:=tM (O3 k6 HI) h
theorem Rz(h:Et X a σ H T):Ew X (.BoolOp .And [a] pos) σ H T:=tM (O0 k6) h
theorem HU(h:Et X a σ H T):Ew X (.BoolOp .Or [a] pos) σ H T:=tM (O1 k6) h
theorem bE(i:Nat){x:Str}{v:V}{R:St->Hp->Prop}(hN:X.N.Nodup)(h:R (σ.set i<|some v) H)(hi:X.N[i]?=some x:=by rfl)(hx:Loc X.env.scope x:=by first | exact Or.inl rfl | exact Or.inr rfl)(hf:X.fn x=true\/X.env.scope.names.lookup x=some .local:=by first | exact .inl rfl | exact .inr rfl | assumption):Eg X (.Name x p) v σ H R:=HP (Pb hN hi hx hf) h
theorem aY(i:Nat){x:Str}{pos':Pos}(hN:X.N.Nodup)(h:Ev X e σ H λv H1=>Run X rest D (σ.set i<|some v) H1)(hi:X.N[i]?=some x:=by rfl)(hx:Loc X.env.scope x:=by first | exact Or.inl rfl | exact Or.inr rfl)(hs:swapsWith e (some<|.Name x pos') pos.line X.env=pure false:=by rfl)
  (hf:X.fn x=true\/X.env.scope.names.lookup x=some .local:=by first | exact .inl rfl | exact .inr rfl | assumption):Run X (.Assign [.Name x pos'] e pos :: rest) D σ H:=k8 (Pk hN hi hx bK hs hf) h
theorem im(h:Et X c σ H λk H1=>if k=true then Run X body {D with nx:=λσ' H'=>Run X rest D σ' H'} σ H1 else Run X jA {D with nx:=λσ' H'=>Run X rest D σ' H'} σ H1):Run X (.If c body jA pos :: rest) D σ H:=k8 (Pa k6 oz oz) h
theorem xQ(φ ψ:Prop)(hc:∀ T:Bool->Hp->Prop,(∀ k:Bool,(k=true->φ)->(k=false->ψ)->T k H)->Et X c σ H T)(ht:φ->Run X body {D with nx:=λσ' H'=>Run X rest D σ' H'} σ H)(hu:ψ->Run X jA {D with nx:=λσ' H'=>Run X rest D σ' H'} σ H):Run X (.If c body jA pos :: rest) D σ H:=
 im (hc _ λk p q=>by
  cases k with
  | true=>rw [BP rfl];exact ht<|p rfl
  | false=>rw [BL At];exact hu<|q rfl)
theorem b5(h:Ev X e σ H D.rt):Run X (.Return (some e) pos :: rest) D σ H:=k8 (O' bK) h
theorem fS(h:Ev X e σ H λ_ H1=>Run X rest D σ H1)(hs:swapsWith e none pos.line X.env=pure false:=by rfl):Run X (.Expr e pos :: rest) D σ H:=k8 (O9 bK hs) h
theorem xR{tg:Expr}(h:Ev X e σ H λv H1=>Eg X tg v σ H1 λσ' H'=>Run X rest D σ' H')(hs:swapsWithSole [tg] e pos.line X.env=pure false:=by rfl)(hw:swappedStores [tg] e X.env=pure none:=by rfl)
  (h1:(assignEach [tg] X.env).map (·.2)=[assign tg X.env]:=by rfl):Run X (.Assign [tg] e pos :: rest) D σ H:=k8 (Pj bK tK hs hw h1) h
def Loop(X:Cx)(tg:Expr)(body:List Stmt)(J:It)(D:Ends)(after:St->Hp->Prop)(σ:St)(H:Hp):Prop:=
 ∃ W:Nat->Nat->St->Hp->Prop,(∃ m,W 0 m σ H)/\∀ i m σ H,W i m σ H->(J.stop i H/\after σ H)\/(J.go i H/\∃ N:St->Hp->Prop,(∀ σ' H',N σ' H'->∃ m',m' < m/\W (i+1) m' σ' H') /\
  ∀ x H',J.pR i H x H'->Eg X tg x σ H' λσ2 H2=>Run X body {D with nx:=N,ct:=N,bk:=after} σ2 H2)
theorem tP{tg iter:Expr}{wi:TI}(hi:PI X tg iter wi)(h:wi σ H λJ H1=>Loop X tg body J D (λσ' H'=>Run X rest D σ' H') σ H1)(hp:PassesOwn (model X.prog X.w) X.A X.env X.xe:=by exact MP)(hc:X.calm=true:=by rfl)
  (hs:∀ x,foldedSetIterable iter X.env x=pure x:=by intro _;rfl):Run X (.For tg iter body [] pos :: rest) D σ H:=k8 (Pz hp hc hi tK oz hs) h
theorem iO{tg:Expr}{q:Pos}(hm:X.mg "range" = none)(h:Ev X a σ H λx H1=>∃ j:Int,x = .int j/\-(2 ^ 62)<=j/\j < 2 ^ 62/\Loop X tg body (om 0 j.toNat) D (λσ' H'=>Run X rest D σ' H') σ H1)(hg:Gl X "range":=by rfl)(hp:PassesOwn (model X.prog X.w) X.A X.env X.xe:=by exact MP)(hc:X.calm=true:=by rfl)(hs:isStar a=false:=by rfl) :
  Run X (.For tg (.Call (.Name "range" q) [a] [] p) body [] pos :: rest) D σ H:=
 tP (wi:=FV<|qg X [a]) (FX hg hm gR<|mG a [] _ hs) (show Ea X [a] σ H _ from ao (h.mono λx H1 ⟨j,e,h1,h2,h3⟩=>aA ⟨j,by rw [e],h1,h2,h3⟩) hs) hp hc (by intro _;rfl)
theorem j6{tg iter:Expr}(h:Ev X iter σ H λx H1=>∃ a,x = .ref a/\(∃ xs,al X.K H1 a xs)/\Loop X tg body (mj X.K a) D (λσ' H'=>Run X rest D σ' H') σ H1)(hp:PassesOwn (model X.prog X.w) X.A X.env X.xe:=by exact MP)(hc:X.calm=true:=by rfl)
  (hs:∀ x,foldedSetIterable iter X.env x=pure x:=by intro _;rfl):Run X (.For tg iter body [] pos :: rest) D σ H:=tP (ie bK) h hp hc hs
theorem iP{tg:Expr}{lo:Int}{n:Nat}{after:St->Hp->Prop}(Pv:Nat->St->Hp->Prop)(h0:Pv 0 σ H)
  (hs:∀ i σ H,i < n->Pv i σ H->Eg X tg (.int<|lo+i) σ H λσ2 H2=>Run X body {D with nx:=Pv<|i+1,ct:=Pv<|i+1,bk:=after} σ2 H2) (hd:∀ σ H,Pv n σ H->after σ H):Loop X tg body (om lo n) D after σ H:=by
 refine⟨λi m σ H=>m=n - i/\i<=n/\Pv i σ H,⟨n,by simp,Bq _,h0⟩,?_⟩;rintro i m σ H ⟨rfl,hi,p⟩
 by_cases aS:i < n
 ·refine .inr ⟨aS,Pv<|i+1,λσ' H' p'=>⟨n - (i+1),by omega,rfl,aS,p'⟩,λx H' y=>?_⟩;obtain⟨e,y⟩:=y;subst e y;exact hs i σ _ aS p
 ·have e:i=n:=by omega
  subst e;exact .inl ⟨Am _,hd σ H p⟩
theorem q7w{tg:Expr}{at_:Addr}{xs:List V}{after:St->Hp->Prop}(Pv:Nat->St->Hp->Prop)(h0:Pv 0 σ H)(hl:∀ i σ H,i<=xs.length->Pv i σ H->a7 X.K H at_ xs)
  (hs:∀ i x σ H,xs[i]?=some x->Pv i σ H->Eg X tg x σ H λσ2 H2=>Run X body {D with nx:=Pv<|i+1,ct:=Pv<|i+1,bk:=after} σ2 H2) (hd:∀ σ H,Pv xs.length σ H->after σ H):Loop X tg body (Pq X.K at_) D after σ H:=by
 refine⟨λi m σ H=>m=xs.length - i/\i<=xs.length/\Pv i σ H,⟨xs.length,by simp,Bq _,h0⟩,?_⟩;rintro i m σ H ⟨rfl,hi,p⟩;have q:=hl i σ H hi p
 by_cases aS:i < xs.length
 ·refine .inr ⟨⟨xs,xs[i],q,by simp [aS]⟩,Pv<|i+1,λσ' H' p'=>⟨xs.length - (i+1),by omega,rfl,aS,p'⟩,λx H' y=>?_⟩;obtain⟨e,y⟩:=y;subst e;exact hs i x σ _ (y xs q) p
 ·have e:i=xs.length:=by omega
  subst e;exact .inl ⟨⟨xs,q,Am _⟩,hd σ H p⟩
theorem j7{tg:Expr}{at_:Addr}{xs:List V}{after:St->Hp->Prop}(Pv:Nat->St->Hp->Prop)(h0:Pv 0 σ H)(hl:∀ i σ H,i<=xs.length->Pv i σ H->al X.K H at_ xs)
  (hs:∀ i x σ H,xs[i]?=some x->Pv i σ H->Eg X tg x σ H λσ2 H2=>Run X body {D with nx:=Pv<|i+1,ct:=Pv<|i+1,bk:=after} σ2 H2) (hd:∀ σ H,Pv xs.length σ H->after σ H):Loop X tg body (mj X.K at_) D after σ H:=by
 refine⟨λi m σ H=>m=xs.length - i/\i<=xs.length/\Pv i σ H,⟨xs.length,by simp,Bq _,h0⟩,?_⟩;rintro i m σ H ⟨rfl,hi,p⟩;have q:=hl i σ H hi p
 by_cases aS:i < xs.length
 ·refine .inr ⟨⟨xs,xs[i],q,by simp [aS]⟩,Pv<|i+1,λσ' H' p'=>⟨xs.length - (i+1),by omega,rfl,aS,p'⟩,λx H' y=>?_⟩;obtain⟨e,y⟩:=y;subst e;exact hs i x σ _ (y xs q) p
 ·have e:i=xs.length:=by omega
  subst e;exact .inl ⟨⟨xs,q,Am _⟩,hd σ H p⟩
theorem bL.go{P:Program}{w:World}{K:PySem.W.Frag}{mg:Str->Option Value}{base:Heap}{x qual:Str}{st:Stmt}{f:Addr}{fd:FuncData}{N ps:List Str}{k:Nat}{sp:Sp}(F:bL K x qual st f fd)(S:aq N ps<|bd st)(len:∀ vs H Q E,sp vs H Q E->vs.length=ps.length)
  (dh : ∀ (bJ : Value) (A : Around) (outer : List Env) (s : Shared) (H : Hp) (vs : List V) (Q : VK) (E : XK), bv k (A.deeper<|envOfC qual (bd st) s.heap.objs.size f bJ) → sp vs H Q E →
   Run (fe bG P w K mg base N qual (bd st) f bJ A outer s H E).oj (jz st) {nx:=λ_ H'=>Q .non H',rt:=Q} (start N vs) H):aG P w K mg base bG (k+1) f fd ps sp:=
 F.ok S len λbJ A outer s H vs Q E hr dU=>⟨_,oz,dh bJ A outer s H vs Q E hr dU⟩
end
structure Ei(X:Cx)(ifs:List Expr)(σ:St)(H:Hp)(Q:Bool->Hp->Prop):Prop where
 run:∀(pins:List<|Addr×Obj) (s:Shared),Inv X pins σ H s ->
  wpAny (model X.prog X.w) X.A (forIn ifs true λc r=>if r=true then do let ok <- isTrue c X.env<|eval c X.env;pure (ForInStep.yield ok) else pure (ForInStep.yield r)) (TP X pins σ Q) X.xe s
def xS(X:Cx)(N':List Str)(scope:Scope)(e:Expr)(σ:St)(H:Hp)(Q:VK):Prop:=∀ cl C s₀ H₀ ex,Ev (fk X N' scope cl C s₀ H₀ ex) e σ H Q
def xT(X:Cx)(N':List Str)(scope:Scope)(e:Expr)(v:V)(σ:St)(H:Hp)(Q:St->Hp->Prop):Prop:=∀ cl C s₀ H₀ ex,Eg (fk X N' scope cl C s₀ H₀ ex) e v σ H Q
def xU(X:Cx)(N':List Str)(scope:Scope)(ifs:List Expr)(σ:St)(H:Hp)(Q:Bool->Hp->Prop):Prop:=∀ cl C s₀ H₀ ex,Ei (fk X N' scope cl C s₀ H₀ ex) ifs σ H Q
def oB(X:Cx)(N':List Str)(scope:Scope)(tg:Expr)(ifs:List Expr)(elt:Expr)(J:It)(D:Addr)(after:Hp->Prop)(σ:St)(H:Hp):Prop:=
 ∃ W:Nat->Nat->St->Hp->Prop,(∃ m,W 0 m σ H)/\∀ i m σ' H',W i m σ' H' ->
  (J.stop i H' ∧ after H') ∨ (J.go i H' ∧ ∃ N : St → Hp → Prop, (∀ σ' H', N σ' H' → ∃ m', m' < m ∧ W (i + 1) m' σ' H') ∧ ∀ x H2, J.pR i H' x H2 → xT X N' scope tg x σ' H2 λσ2 H3 => xU X N' scope ifs σ2 H3 λb H4 =>
   if b=true then xS X N' scope elt σ2 H4 λv H5=>∃ ys,H5 D=some (.lst ys)/\ys.length < sizeLine/\N σ2 (upd H5 D<|.lst<|ys++[v]) else N σ2 H4)
theorem mH:∀(names:List<|Str×NameKind) (n:Nat) (acc:List<|Str×Addr),cellsFrom n names acc=cellsFrom n names []++acc
 | [],_,_=>rfl
 | (y,k) :: r,n,acc=>by
  unfold cellsFrom
  split
  ·rw [mH r (n+1)<|(y,n) :: acc,mH r (n+1) [(y,n)],Ar];rfl
  ·exact mH r n acc
theorem qi:∀(names:List<|Str×NameKind) (n:Nat) {x:Str} {c:Addr},(x,c)∈cellsFrom n names []->(x,NameKind.cell)∈names/\n<=c
 | [],_,_,_,h=>by cases h
 | (y,k) :: r,n,x,c,h=>by
  unfold cellsFrom at h
  split at h
  ·rename_i hk;rw [mH,An] at h
   rcases h with h | h
   ·obtain⟨a,b⟩:=qi r (n+1) h;exact⟨Ae _ a,by omega⟩
   ·cases Ah.mp h;have:k = .cell:=by cases k <;> first | rfl | exact absurd hk<|by decide
    subst this;exact⟨Ad,Am _⟩
  ·obtain⟨a,b⟩:=qi r n h;exact⟨Ae _ a,b⟩
theorem HV{names:List (Str×NameKind)}{n:Nat}{cl:List (Str×Addr)}{x:Str}{c:Addr}(h:(cellsFrom n names cl).lookup x=some c):((x,c)∈cellsFrom n names []/\n<=c)\/cl.lookup x=some c:=by
 rw [mH,PX] at h;cases e:(cellsFrom n names []).lookup x with
 | some d=>
  rw [e] at h;cases h;have hm:=CW e;exact .inl ⟨hm,(qi _ _ hm).2⟩
 | none=>
  rw [e] at h;exact .inr h
theorem RA{names:List (Str×NameKind)}{n:Nat}{cl:List (Str×Addr)}{x:Str}(h:(x,NameKind.cell)∉names):(cellsFrom n names cl).lookup x=cl.lookup x:=by
 rw [mH,PX];cases e:(cellsFrom n names []).lookup x with
 | some d=>exact absurd (qi _ _<|CW e).1 h
 | none=>rfl
section
variable{M:Model}{A:Around}{E:Value->Shared->Prop}{s:Shared}
theorem RC{scope:Scope}{globals:Addr}{closure:List (Str×Addr)}{qual:Str}{func:Option Addr}{code:Value}{outer:Env}{builtins:Addr}{Q:Env->Shared->Prop}
  (hQ : ∀ h', h'.Ns s.heap.objs.size (λ_ => none) → (∀ b o, s.heap.get? b = some o → h'.get? b = some o) → CellsOk h' (s.heap.objs.size + 1) (cellsFrom (s.heap.objs.size + 1) scope.names []) →
   Q (newEnv scope s.heap.objs.size globals (cellsFrom (s.heap.objs.size+1) scope.names closure) qual func code (some outer) builtins) {s with heap:=h'}) :
  wpAny M A (newFunctionEnv scope globals closure [] qual func code (some outer) builtins) Q E s:=by
 simp only [newFunctionEnv,Option.isSome_some,DK];refine BJ<|RW ?_;refine BJ (wpAny_layCells _ (λname kind cells=>by cases RE:kind == NameKind.cell <;> simp [RE]) _ _ _ _ ?_);have ok:=cellsFrom_ok scope.names (s.heap.push {cls:= .type "dict",data:= .dict #[]}) (s.heap.objs.size+1) [] ⟨λ_ _ hm=>(nomatch hm),List.Pairwise.nil⟩ (by rw [Ct];exact Am _);rw [Ct] at ok;rw [show({s with heap:=s.heap.push {cls:= .type "dict",data:= .dict #[]}}:Shared).heap.objs.size=s.heap.objs.size+1 from Ct ..];rw [List.forIn_nil];exact BJ<|BK<|BK<|hQ _ ((Heap.Ns.new s.heap<|.type "dict").keeps<|pushCells_keeps _ _) (λb o e=>pushCells_keeps _ _ b o<|Af _ e) ok
end
def oC(sc scope:Scope)(N N':List Str):Bool:=
 (match scope.kind with | .function=>true | _=>false) &&
 scope.names.all (λy=>match y.2 with
  | .cell=>(match scope.names.lookup y.1 with | some .cell=>true | _=>false)
  | .local=>(match scope.names.lookup y.1 with | some .local=>true | _=>false)
  | .free=>(match sc.names.lookup y.1 with | some .cell=>true | some .free=>true | _=>false) && (match scope.names.lookup y.1 with | some .free=>true | _=>false)
  | _=>true) &&
 (List.range N'.length).all λi => match N'[i]? with
  | none=>true
  | some x=>match scope.names.lookup x with
   | some .local=>decide (N.length<=i)
   | some .cell=>decide (N.length<=i)
   | some .free=>decide (N[i]?=some x)
   | _=>true
structure bO(sc scope:Scope)(N N':List Str):Prop where
 kind:scope.kind = .function
 cell:∀ y∈scope.names,y.2 = .cell->scope.names.lookup y.1=some .cell
 names:∀ y∈scope.names,y.2 = .local->scope.names.lookup y.1=some .local
 free:∀ y∈scope.names,y.2 = .free->sc.names.lookup y.1=some .cell\/sc.names.lookup y.1=some .free
 HZ:∀ y∈scope.names,y.2 = .free->scope.names.lookup y.1=some .free
 own:∀(i:Nat) x,N'[i]?=some x->scope.names.lookup x=some .local->N.length<=i
 xV:∀(i:Nat) x,N'[i]?=some x->scope.names.lookup x=some .cell->N.length<=i
 out:∀(i:Nat) x,N'[i]?=some x->scope.names.lookup x=some .free->N[i]?=some x
theorem bO.of{sc scope:Scope}{N N':List Str}(h:oC sc scope N N'=true):bO sc scope N N':=by
 unfold oC at h;rw [By,By] at h;obtain⟨⟨h1,h2⟩,h3⟩:=h;have mI:=Eh.mp h2;have xW:=Eh.mp h3;refine⟨?_,λy hy e=>?_,λy hy e=>?_,λy hy e=>?_,λy hy e=>?_,λi x hi e=>?_,λi x hi e=>?_,λi x hi e=>?_⟩
 ·revert h1;cases scope.kind <;> intro h1 <;> first | rfl | cases h1
 ·have q:=mI y hy;rw [e] at q;simp only at q
  split at q
  ·assumption
  ·cases q
 ·have q:=mI y hy;rw [e] at q;simp only at q
  split at q
  ·assumption
  ·cases q
 ·have q:=mI y hy;rw [e] at q;simp only at q;rw [By] at q;have q:=q.1
  split at q
  ·exact .inl<|by assumption
  ·exact .inr<|by assumption
  ·cases q
 ·have q:=mI y hy;rw [e] at q;simp only at q;rw [By] at q;have q:=q.2
  split at q
  ·assumption
  ·cases q
 ·have q:=xW i<|Bm.mpr (Ac.mp hi).1;rw [hi] at q;simp only [e] at q;exact BX q
 ·have q:=xW i<|Bm.mpr (Ac.mp hi).1;rw [hi] at q;simp only [e] at q;exact BX q
 ·have q:=xW i<|Bm.mpr (Ac.mp hi).1;rw [hi] at q;simp only [e] at q;exact BX q
section
variable{X:Cx}{pins:List (Addr×Obj)}{σ:St}{H:Hp}{s:Shared}
theorem RF{N':List Str}{scope:Scope}{n:Nat}{fp:List Addr}{h₁:Heap}{t':Nat}{m:Str->Option Value}(I:Inv X pins σ H s)(ck:bO X.env.scope scope X.N N')(hl:N'.length=X.N.length+n)
  (tD:h₁.Ns s.heap.objs.size m) (old:∀ b o,s.heap.get? b=some o->h₁.get? b=some o) (lg:CellsOk h₁ (s.heap.objs.size+1)<|cellsFrom (s.heap.objs.size+1) scope.names [])
  (lh:∀ b∈fp,bV X pins H b/\b < s.heap.objs.size) :
  Inv (fk X N' scope (cellsFrom (s.heap.objs.size+1) scope.names<|ce scope.names X.env.cells []) s.heap.objs.size s H fp) [] (σ++List.replicate n none) H {s with heap:=h₁,toks:=t'}:=by
 have sub:∀ x c,(ce scope.names X.env.cells []).lookup x=some c->X.env.cells.lookup x=some c:=λx c e=>xB _ _ _ (λ_ _ z=>by simp at z) x c<|CW e;have both:∀ x c,(cellsFrom (s.heap.objs.size+1) scope.names<|ce scope.names X.env.cells []).lookup x=some c->((x,c)∈cellsFrom (s.heap.objs.size+1) scope.names []/\s.heap.objs.size+1<=c)\/X.env.cells.lookup x=some c:=λx c e=>by
  rcases HV e with z | z
  ·exact .inl z
  ·exact .inr<|sub x c z
 have li:∀ x c,X.env.cells.lookup x=some c->c < s.heap.objs.size:=λx c e=>by
  obtain⟨v,o,ho,_⟩:=I.cell x c e;exact Av ho
 have RH:H s.heap.objs.size=none:=I.aE.fresh<|Am _;have kindOf:∀{x:Str} {k':NameKind},(relabel scope X.env).names.lookup x=some k'->∃ k,scope.names.lookup x=some k/\(k'=k\/(k = .free/\k' = .cell)):=λz=>HE z;have Ia:∀ x,scope.names.lookup x=some .free->(cellsFrom (s.heap.objs.size+1) scope.names<|ce scope.names X.env.cells []).lookup x=(ce scope.names X.env.cells []).lookup x:=λx e=>RA λhm=>by
  have:=ck.cell _ hm rfl;rw [e] at this;cases this
 have xX:∀ x,scope.names.lookup x=some .cell->∃ c,(cellsFrom (s.heap.objs.size+1) scope.names<|ce scope.names X.env.cells []).lookup x=some c:=λx e=>Eu.mp<|JB _ _ _<|.inl e;have RO:(fk X N' scope (cellsFrom (s.heap.objs.size+1) scope.names<|ce scope.names X.env.cells []) s.heap.objs.size s H fp).Ok:=by
  refine⟨I.ok.mod,ck.kind,I.ok.glob,I.ok.blt,Am _,λx y c e1 e2=>?_,λx hx=>?_,λx c hf e=>?_,I.ok.hd,I.ok.frames,.inl rfl,λb hb=>⟨Bk (lh b hb).2,λx c e=>?_⟩,
   I.bs,Ce I.ok.kR I.sz,λb o e hb=>?_,λb hb hf=>?_,I.stack,I.gn⟩
  ·rcases both x c e1 with z1 | z1
   ·rcases both y c e2 with z2 | z2
    ·exact name_of_addr lg.apart z1.1 z2.1
    ·exact absurd (li y c z2)<|Nat.not_lt.mpr<|Er z1.2
   ·rcases both y c e2 with z2 | z2
    ·exact absurd (li x c z1)<|Nat.not_lt.mpr<|Er z2.2
    ·exact I.ok.inj x y c z1 z2
  ·have ip:(relabel scope X.env).names.lookup x=some .cell\/(relabel scope X.env).names.lookup x=some .free:=hx;have:∃ k,scope.names.lookup x=some k/\(k = .free\/k = .cell):=by
    rcases ip with z | z
    ·obtain⟨k,e,r⟩:=kindOf z
     rcases r with r | ⟨r,_⟩
     ·exact⟨k,e,.inr r.symm⟩
     ·exact⟨k,e,.inl r⟩
    ·obtain⟨k,e,r⟩:=kindOf z
     rcases r with r | ⟨r,_⟩
     ·exact⟨k,e,.inl r.symm⟩
     ·exact⟨k,e,.inl r⟩
   obtain⟨k,e,rfl | rfl⟩:=this
   ·have hm:=CW e;obtain⟨c,hc⟩:=I.ok.has x<|ck.free _ hm rfl;obtain⟨d,hd⟩:=xD<|xC scope.names X.env.cells [] x c hm hc;exact⟨d,(Ia x e).trans hd⟩
   ·exact xX x e
  ·have hx:scope.names.lookup x=some .cell:=by
    have tQ:(match scope.names.lookup x with | some .cell=>true | _=>false)=true:=hf
    split at tQ
    ·assumption
    ·cases tQ
   have e':(cellsFrom (s.heap.objs.size+1) scope.names<|ce scope.names X.env.cells []).lookup x=some c:=e;have q1:=Eu.mp<|JB scope.names (s.heap.objs.size+1) []<|.inl hx;obtain⟨d,hd⟩:=q1;rw [mH,PX,hd] at e';have e2:d=c:=Option.some.inj e';have:=(qi _ _<|CW hd).2;rw [<- e2];exact Er this
  ·have e':(cellsFrom (s.heap.objs.size+1) scope.names<|ce scope.names X.env.cells []).lookup x=some c:=e
   rcases both x c e' with z | z
   ·have h1:=(lh b hb).2;have h2:=z.2;exact λk=>absurd h1<|Nat.not_lt.mpr<|by rw [<- k];exact Er h2
   ·exact(lh b hb).1.2.2.2.2.1 x c z
  ·have:=(lh b hb).1.2.2.2.1
   rcases this with z | z
   ·exact I.ok.iH b o e z
   ·exact absurd (Bc (Av e)<|Ce I.ok.kR z)<|Dl _
  ·rcases Ak.mp (I.d7 b hf) with z | z
   ·exact(lh b hb).1.2.1 z
   ·exact(lh b hb).1.2.2.1 z
 refine⟨RO,rfl,I.bare,Un.kept old,⟨m,tD,λi x v e1 e2 e3=>?_⟩,λx c e=>?_,RH,λx c e=>?_,λp hp=>absurd hp (by simp [fk]),I.aE.kept old,?_⟩
 ·have hi:i < σ.length:=by
   by_cases hi:i < σ.length
   ·exact hi
   ·rw [Ay (by omega),Fa] at e2
    split at e2 <;> cases e2
  rw [Aq hi] at e2;have mJ:N'[i]?=some x:=e1;have RU:∃ k',(relabel scope X.env).names.lookup x=some k'/\(k' = .local\/k' = .cell\/k' = .free):=by
   rcases e3 with z | z | z
   ·exact⟨_,z,.inl rfl⟩
   ·exact⟨_,z,.inr<|.inl rfl⟩
   ·exact⟨_,z,.inr<|.inr rfl⟩
  obtain⟨k',xY,mK⟩:=RU;obtain⟨k,ek,r⟩:=kindOf xY;have kf:k = .free:=by
   rcases r with r | ⟨r,_⟩
   ·subst r
    rcases mK with z | z | z
    ·subst z;have:=ck.own i x mJ ek;rw [I.len] at hi;omega
    ·subst z;have:=ck.xV i x mJ ek;rw [I.len] at hi;omega
    ·exact z
   ·exact r
  subst kf;have hm:=CW ek;have RY:=ck.out i x mJ ek;obtain⟨m0,xZ,j8⟩:=I.loc;have kx:=ck.free _ hm rfl;obtain⟨u,ru,lk⟩:=j8 i x v RY e2 (by rcases kx with z | z;exact .inr<|.inl z;exact .inr<|.inr z);refine⟨u,ru,.inr ⟨?_,?_⟩⟩
  ·rcases r with r | ⟨_,r⟩
   ·subst r;exact .inr xY
   ·subst r;exact .inl xY
  ·rcases lk with ⟨k1,_⟩ | ⟨_,c,hc,gs⟩
   ·have Ib:X.env.scope.names.lookup x=some .local:=k1
    rcases kx with z | z
    ·rw [Ib] at z;cases z
    ·rw [Ib] at z;cases z
   ·have Ic:=xC scope.names X.env.cells [] x c hm hc;obtain⟨d,hd⟩:=xD Ic;have:d=c:=Option.some.inj<|(sub x d hd).symm.trans hc;subst this;obtain⟨o,ho,gT⟩:=gs;exact⟨d,(Ia x ek).trans hd,o,old _ _ ho,gT⟩
 ·have e':(cellsFrom (s.heap.objs.size+1) scope.names<|ce scope.names X.env.cells []).lookup x=some c:=e
  rcases both x c e' with z | z
  ·exact⟨none,(lg.empty x c z.1).1⟩
  ·obtain⟨v,o,ho,gT⟩:=I.cell x c z;exact⟨v,o,old _ _ ho,gT⟩
 ·have e':(cellsFrom (s.heap.objs.size+1) scope.names<|ce scope.names X.env.cells []).lookup x=some c:=e
  rcases both x c e' with z | z
  ·exact I.aE.fresh<|Er z.2
  ·exact I.bT x c z
 ·rw [Ag,Fi,I.len];exact hl.symm
end
structure Clause(e:Expr)(d:Nat)(tg iter:Expr)(ifs:List Expr)(acc:Value)(env:Env)(inner:Sem Unit):Prop where
 at':(clausesOf e)[d]?=some ⟨tg,iter,ifs,0⟩
 quiet:∀ it,(Code.compLoop e d it acc env).quiet=true
 den:∀(prog:Program) (w:World) it,(model prog w).den (.compLoop e d it acc env)=(compTurn e d it acc env).onRaise (λx=>do noteFrame x env;theTreesLotGoes x)
 x5:∀(A:Around) it,A.under (.compLoop e d it acc env)=A
 x6:∀(prog:Program) (w:World) it,(model prog w).den (.compStart e d it acc env)=(compStart e d it acc env).onRaise (λx=>do noteFrame x env;standAt theWindowsPlace)
 x8:∀(A:Around) it,A.under (.compStart e d it acc env)=A
 turn:∀ it,compTurn e d it acc env=(do
   standAt iter.pos
   match <- pyNext it with
   | none=>pure<|.done .next
   | some v=>
    letOwnedTupleGo tg it v
    assign tg env v
    let mut ok:=true
    for c in ifs do
     if ok then ok <- isTrue c env<|eval c env
    if ok then
     inner
    again (.compLoop e d it acc env))
section
variable{prog:Program}{w:World}{A:Around}{R:Result->Shared->Prop}{s:Shared}
theorem R0{e:Expr}{d:Nat}{tg iter:Expr}{ifs:List Expr}{it acc:Value}{env:Env}{inner:Sem Unit}(C:Clause e d tg iter ifs acc env inner)(I:Nat->Shared->Prop)
  (turn : ∀ n s, I n s → wpAny (model prog w) A (pyNext it) (λr s₁ => match r with
   | none=>R (.ok .next) s₁
   | some v=>wpAny (model prog w) A (letOwnedTupleGo tg it v) (λ_ s₁'=>wpAny (model prog w) A (assign tg env v) (λ_ s₂=>
     wpAny (model prog w) A (forIn ifs true λc r=>if r=true then do let ok <- isTrue c env<|eval c env;pure (ForInStep.yield ok) else pure (ForInStep.yield r)) (λok s₃=>
      if ok=true then wpAny (model prog w) A inner (λ_ s₄=>∃ m,m < n/\I m s₄) (notedBy (model prog w) A env λe s'=>R (.error e) s') s₃
      else ∃ m,m < n/\I m s₃) (notedBy (model prog w) A env λe s'=>R (.error e) s') s₂) (notedBy (model prog w) A env λe s'=>R (.error e) s') s₁') (notedBy (model prog w) A env λe s'=>R (.error e) s') s₁) (notedBy (model prog w) A env λe s'=>R (.error e) s') s)
  (n:Nat) (h:I n s) :
  codeAny (model prog w) A (.compLoop e d it acc env) R s:=by
 refine codeAny_loop (C.quiet it) I (λn s hI=>?_) n h;rw [C.x5,C.den];refine wpAny_noted ?_;rw [C.turn];refine BJ<|IK<|BJ<|CV (turn n s hI) (λr s₁ h₁=>?_) λ_ _ h'=>h';cases r with
 | none=>exact BK h₁
 | some v=>
  refine BJ<|CV h₁ (λ_ s₁' h₁'=>?_) λ_ _ h'=>h';refine BJ<|CV h₁' (λ_ s₂ h₂=>BJ<|CV h₂ (λok s₃ h₃=>?_) λ_ _ h'=>h') λ_ _ h'=>h';cases ok with
  | false=>exact BK ⟨rfl,h₃⟩
  | true=>exact BJ<|CV h₃ (λ_ s₄ h₄=>BK ⟨rfl,h₄⟩) λ_ _ h'=>h'
theorem R1{e:Expr}{d:Nat}{tg iter:Expr}{ifs:List Expr}{it acc:Value}{env:Env}{inner:Sem Unit}(C:Clause e d tg iter ifs acc env inner)
  (h0:codeAny (model prog w) A (.compLoop e d it acc env) R s)
  (h:wpAny (model prog w) A (pyIter it) (λx9 s'=>codeAny (model prog w) A (.compLoop e d x9 acc env) R s') (notedBy (model prog w) A env λx s'=>R (.error x) s') s) :
  codeAny (model prog w) A (.compStart e d it acc env) R s:=by
 refine JT ?_;rw [C.x8,C.x6];refine wpAny_notedAt ?_;unfold compStart;rw [C.at'];show wpAny _ _ (ask >>= _) _ _ s;refine BJ<|JM<|wpAny_ite ?_
 split
 ·first
   | exact BJ<|BK<|BK<|And.intro (C.quiet _) h0
   | exact BK<|And.intro (C.quiet _) h0
 ·first
   | exact BJ<|GX<|BJ<|IK<|BJ<|CV h (λx9 s' h'=>BK<|And.intro (C.quiet _) h') λ_ _ x=>x
   | (refine BJ<|GX ?_;show wpAny _ _ (standAt iter.pos >>= _) _ _ s;exact BJ<|IK<|BJ<|CV h (λx9 s' h'=>BK<|And.intro (C.quiet _) h') λ_ _ x=>x)
end
structure lj(X:Cx)(m:Sem Unit)(σ:St)(H:Hp)(Q:St->Hp->Prop):Prop where
 run:∀(pins:List<|Addr×Obj) (s:Shared),Inv X pins σ H s->wpAny (model X.prog X.w) X.A m (λ_ s'=>∃ σ' H',Inv X pins σ' H' s'/\Q σ' H') X.xe s
def iq(X:Cx)(tg:Expr)(ifs:List Expr)(inner:Sem Unit)(J:It)(after:St->Hp->Prop)(σ:St)(H:Hp):Prop:=
 ∃ W:Nat->Nat->St->Hp->Prop,(∃ m,W 0 m σ H)/\∀ i m σ' H',W i m σ' H' ->
  (J.stop i H' ∧ after σ' H') ∨ (J.go i H' ∧ ∃ N : St → Hp → Prop, (∀ σ' H', N σ' H' → ∃ m', m' < m ∧ W (i + 1) m' σ' H') ∧ ∀ x H2, J.pR i H' x H2 → Eg X tg x σ' H2 λσ2 H3 => Ei X ifs σ2 H3 λb H4 =>
   if b=true then lj X inner σ2 H4 N else N σ2 H4)
theorem ya{X:Cx}(iQ:X.xe=λ_ _=>False)(hc:X.calm=true){e:Expr}{d:Nat}{tg iter:Expr}{ifs:List Expr}{acc:Value}{inner:Sem Unit}(C:Clause e d tg iter ifs acc X.env inner){pins:List (Addr×Obj)}{σ:St}{H:Hp}{s:Shared}
  {it:Addr} {fp:List Addr} {tn:Nat->Heap->Prop} {J:It} {after:St->Hp->Prop} {R:Result->Shared->Prop} (I:Inv X pins σ H s) (T:Turn X.prog X.w X.K tg J fp it tn) (st:tn 0 s.heap) (hf:∀ b∈fp,bV X pins H b) (h:iq X tg ifs inner J after σ H)
  (hR:∀ σ' H' s',Inv X pins σ' H' s'->after σ' H'->R (.ok .next) s') :
  codeAny (model X.prog X.w) X.A (.compStart e d (.ref it) acc X.env) R s:=by
 obtain⟨W,⟨m0,w0⟩,turn⟩:=h;have stat:∀{H':Hp},(∀ b∈fp,H' b=none)->∀ b∈fp,bV X pins H' b:=λhn b hb=>⟨hn b hb,(hf b hb).2⟩;have loop:codeAny (model X.prog X.w) X.A (.compLoop e d (.ref it) acc X.env) R s:=by
  refine R0 C (λk s'=>∃ i σ' H',Inv X pins σ' H' s'/\tn i s'.heap/\(∀ b∈fp,H' b=none)/\W i k σ' H') ?_ m0 ⟨0,σ,H,I,st,λb hb=>(hf b hb).1,w0⟩;rintro k s4 ⟨i,σ4,H4,J4,Ie,Ig,w4⟩
  rcases turn i k σ4 H4 w4 with ⟨stop,qn⟩ | ⟨go,N,hN,step⟩
  ·have d1:=T.done X rfl rfl rfl hc i pins s4 σ4 H4 (λ_ _=>False) J4 (stat Ig) Ie stop;refine gQ d1 λr s5 ⟨hr,I5⟩=>?_;subst hr;exact hR _ _ _ I5 qn
  ·have d1:=T.item X rfl rfl rfl hc i pins s4 σ4 H4 (λ_ _=>False) J4 (stat Ig) Ie go;refine gQ d1 λr s5 ⟨u,hr,h5⟩=>?_;subst hr;refine gQ h5 λ_ s6 ⟨x,H6,I6,r6,y6,yb,R3⟩=>?_;have R5:=I6.pinned (stat R3)<|T.obj _ _ yb;have again:∀{σ7:St} {H7:Hp} {s7:Shared},Inv X (pins++pS fp s6.heap) σ7 H7 s7->N σ7 H7->∃ m,m < k/\∃ i σ' H',Inv X pins σ' H' s7/\tn i s7.heap/\(∀ b∈fp,H' b=none)/\W i m σ' H':=λ{σ7 H7 s7} I7 n7=>by
    obtain⟨m',hm,w7⟩:=hN σ7 H7 n7;refine⟨m',hm,i+1,σ7,H7,I7.cB,T.keep _ _ _ yb λb hb o e=>(I7.pin (b,o)<|Ao _<|Ao _<|sY hb e).1,λb hb=>?_,w7⟩;obtain⟨o,e,d⟩:=T.obj _ _ yb b hb;exact(I7.pin (b,o)<|Ao _<|Ao _<|sY hb e).2.1
   have a1:=(step x H6 y6).run _ s6 u R5 r6;rw [iQ] at a1;refine gQ a1 λ_ s7 ⟨σ7,H7,I7,q7⟩=>?_;have a2:=q7.run _ s7 I7;rw [iQ] at a2;refine gQ a2 λok s8 ⟨H8,I8,q8⟩=>?_;cases ok with
   | false=>
    rw [BL At] at q8 ⊢;exact again I8 q8
   | true=>
    rw [BP rfl] at q8 ⊢;have a3:=q8.run _ s8 I8;rw [iQ] at a3;exact gQ a3 λ_ s9 ⟨σ9,H9,I9,q9⟩=>again I9 q9
 exact R1 C loop<|T.self _ 0 _ _ _ st loop
theorem tR{X:Cx}{e:Expr}{tg iter:Expr}{ifs:List Expr}{scope:Scope}{N':List Str}{newAcc:Sem Value}{o0:Obj}{u0:Addr->HO}{n:Nat}{inner:Value->Env->Sem Unit}{pins:List (Addr×Obj)}{σ:St}{H2:Hp}{s2:Shared}{E:Value->Shared->Prop}{RR:Value->Addr->Result->Shared->Prop}{it:Addr}{fp:List Addr}{tn:Nat->Heap->Prop}{J:It}{Q:VK}
  (iR:∀(Q:Value->Shared->Prop) (E:Value->Shared->Prop) (s:Shared),Q (.ref s.heap.objs.size) {s with heap:=s.heap.push o0}->wpAny (model X.prog X.w) X.A newAcc Q E s) (iM:∀(H:Hp) (h:Heap),sysModules < h.objs.size->az X.prog X.w H (h.push o0) h.objs.size (u0 h.objs.size))
  (hc:X.calm=true) (ck:bO X.env.scope scope X.N N') (hl:N'.length=X.N.length+n) (hC:∀ acc env,Clause e 0 tg iter ifs acc env<|inner acc env)
  (I2:Inv X pins σ H2 s2) (T:Turn X.prog X.w X.K tg J fp it tn) (eS:tn 0 s2.heap) (f2:∀ b∈fp,bV X pins H2 b)
  (q:∀ D,H2 D=none->∀ cl C s₀ H₀ ex,iq (fk X N' scope cl C s₀ H₀ ex) tg ifs (inner (.ref D)<|compEnvC scope cl C X.env) J (λ_ H'=>Q (.ref D) H') (σ++List.replicate n none)<|upd H2 D<|u0 D)
  (yc:∀ D C H' s' m,Inv X pins σ H' s'->s'.heap.Ns C m->H' C=none->C≠X.env.locals->X.s₀.heap.objs.size<=C->(∀ x c,X.env.cells.lookup x=some c->c≠C)->(∀ p∈X.pn++pins,p.1≠C)->Q (.ref D) H'->RR (.ref D) C (.ok .next) s') :
  wpAny (model X.prog X.w) X.A newAcc (λacc s₃=>wpAny (model X.prog X.w) X.A (newFunctionEnv scope X.env.globals (ce scope.names X.env.cells []) [] X.env.qual none .none<|some X.env) (λiS s₄=>
   codeAny (model X.prog X.w) X.A (.compStart e 0 (.ref it) acc {iS with scope:=relabel scope X.env}) (RR acc iS.locals) s₄) E s₃) E s2:=by
 refine iR _ _ _<|RC λh₁ hns₁ old₁ hcs₁=>?_;have hD:H2 s2.heap.objs.size=none:=I2.aE.fresh<|Am _;have q0:=q s2.heap.objs.size hD;have fl:∀ b∈fp,b < s2.heap.objs.size:=λb hb=>by
  obtain⟨o,e,_⟩:=T.obj 0 _ eS b hb;exact Av e
 have I3:Inv X pins σ (upd H2 s2.heap.objs.size<|u0 s2.heap.objs.size) {s2 with heap:=s2.heap.push o0}:=
  I2.laid (t':=s2.toks) (λb o e=>Af _ e) (Am _) (iM _ _ I2.big)
 generalize Ih:({s2 with heap:=s2.heap.push o0}:Shared)=s3 at I3 hns₁ old₁ hcs₁ ⊢;have R9:s3.heap.objs.size=s2.heap.objs.size+1:=by rw [<- Ih];exact Ct ..
 have ye:∀ b o,s2.heap.get? b=some o->s3.heap.get? b=some o:=λb o e=>by rw [<- Ih];exact Af _ e
 have old:∀ b o,s3.heap.get? b=some o->h₁.get? b=some o:=old₁;have f3:∀ b∈fp,bV X pins (upd H2 s2.heap.objs.size<|u0 s2.heap.objs.size) b/\b < s3.heap.objs.size:=λb hb=>by
  refine⟨⟨?_,(f2 b hb).2⟩,by rw [R9];exact Bp<|fl b hb⟩;rw [ay<|Bk<|fl b hb];exact(f2 b hb).1
 have I4:=λ(t':Nat)=>RF (N':=N') (scope:=scope) (n:=n) (fp:=fp) (h₁:=h₁) (t':=t') I3 ck hl hns₁ old hcs₁ f3;generalize hX:fk X N' scope (cellsFrom (s3.heap.objs.size+1) scope.names<|ce scope.names X.env.cells []) s3.heap.objs.size s3 (upd H2 s2.heap.objs.size<|u0 s2.heap.objs.size) fp=X' at I4;have eP:X'.prog=X.prog:=by rw [<- hX];rfl
 have ew:X'.w=X.w:=by rw [<- hX];rfl
 have eK:X'.K=X.K:=by rw [<- hX];rfl
 have eA:X'.A=X.A:=by rw [<- hX];rfl
 have eE:X'.env=compEnvC scope (cellsFrom (s3.heap.objs.size+1) scope.names<|ce scope.names X.env.cells []) s3.heap.objs.size X.env:=by rw [<- hX];rfl
 have ec:X'.calm=true:=by rw [<- hX];exact hc
 have FD:X'.xe=λ_ _=>False:=by rw [<- hX];rfl
 have stat:∀{H':Hp},(∀ b∈fp,H' b=none)->∀ b∈fp,bV X' [] H' b:=λhn b hb=>by
  refine⟨hn b hb,?_,?_,?_,?_,?_⟩
  ·rw [eE];exact Bk (f3 b hb).2
  ·rw [<- hX];intro hf
   rcases Ak.mp (I3.d7 b hf) with z | z
   ·exact(f3 b hb).1.2.1 z
   ·exact(f3 b hb).1.2.2.1 z
  ·rw [<- hX];exact .inl hb
  ·rw [eE];intro x c e
   rcases HV e with z | z
   ·exact λk=>absurd (f3 b hb).2<|Nat.not_lt.mpr<|by rw [<- k];exact Er z.2
   ·exact(f3 b hb).1.2.2.2.2.1 x c<|xB _ _ _ (λ_ _ z=>by simp at z) x c<|CW z
  ·rw [<- hX];intro p hp;exact absurd hp<|by simp [fk]
 have fin:∀{σ':St} {H':Hp} {s':Shared},Inv X' [] σ' H' s'->Q (.ref s2.heap.objs.size) H'->RR (.ref s2.heap.objs.size) s3.heap.objs.size (.ok .next) s':=λ{σ' H' s'} I' q'=>by
  obtain⟨m',sV,_⟩:=id I'.loc;rw [eE] at sV;have Sd:s'.os=s3.os:=by have:=I'.os;rw [<- hX] at this;exact this
  have Se:Un (ib X.stack) fp (upd H2 s2.heap.objs.size<|u0 s2.heap.objs.size) H' s3.heap s'.heap:=by have:=I'.base;rw [<- hX] at this;exact this
  have aE:b4 X.prog X.w H' s'.heap:=by have:=I'.aE;rw [eP,ew] at this;exact this
  have IX:Inv X pins σ H' s':=I3.call' (ch:=fp) Sd Se aE I'.bare λb hb=>⟨(f3 b hb).1.2.2.2.1,(f3 b hb).1.2.1,(f3 b hb).1.2.2.2.2.1,(f3 b hb).1.2.2.2.2.2⟩;have oD:=I'.free;rw [eE] at oD;refine yc _ _ H' s' m' IX sV oD (Cr I3.lt) I3.sz (λx c e z=>?_) (λp hp z=>?_) q'
  ·obtain⟨v,o,ho,_⟩:=I3.cell x c e;exact absurd (Av ho)<|by rw [z];exact Dl _
  ·exact absurd (Av (I3.pin p hp).1)<|by rw [z];exact Dl _
 have Sg:∀ b∈fp,bV X' [] (upd H2 s2.heap.objs.size<|u0 s2.heap.objs.size) b:=stat λb hb=>(f3 b hb).1.1;have q1:iq X' tg ifs (inner (.ref s2.heap.objs.size) X'.env) J (λ_ H'=>Q (.ref s2.heap.objs.size) H') (σ++List.replicate n none) (upd H2 s2.heap.objs.size<|u0 s2.heap.objs.size):=by
  rw [eE,<- hX];exact q0 _ _ _ _ _
 have T':Turn X'.prog X'.w X'.K tg J fp it tn:=by rw [eP,ew,eK];exact T
 have fin2:=ya (s:={s3 with heap:=h₁,toks:=s3.toks}) FD ec (hC (.ref s2.heap.objs.size) X'.env) (I4 s3.toks) T' (T.keep 0 _ _ eS λb _ o e=>old b o<|ye b o e) Sg q1 (R:=RR (.ref s2.heap.objs.size) s3.heap.objs.size) λσ' H' s' I' a'=>fin I' a';rw [eP,ew,eA,eE] at fin2;exact fin2
def emit(elt:Expr)(acc:Value)(env:Env):Sem Unit:=do let _ <- call (.builtin "list.append") [acc,<- eval elt env]
section
variable{X:Cx}{elt tg iter:Expr}{ifs:List Expr}{scope:Scope}{pos:Pos}{σ:St}{H:Hp}{acc:Value}{env:Env}{N':List Str}{J:It}
theorem Sh:Clause (.ListComp elt [⟨tg,iter,ifs,0⟩] scope pos) 0 tg iter ifs acc env (emit elt acc env):=⟨rfl,λ_=>rfl,λ_ _ _=>rfl,λ_ _=>rfl,λ_ _ _=>rfl,λ_ _=>rfl,λ_=>rfl⟩
theorem Ii{D:Addr}{Q:St->Hp->Prop} (h:Ev X elt σ H λv H1=>∃ ys,H1 D=some (.lst ys)/\ys.length < sizeLine/\Q σ (upd H1 D<|.lst<|ys++[v])):lj X (emit elt (.ref D) X.env) σ H Q:=by
 refine⟨λpins s I=>?_⟩;unfold emit;refine BJ<|aP (h.run pins s I) λv s1 ⟨x,H1,I1,r1,ys,hy,hz,q⟩=>?_;refine BJ<|aP (Ho (X:=X) _ s1 σ H1 (.ref D) [x] (.ref D) [v] (λ_ H'=>Q σ H') I1 rfl (.cons r1 .nil) ⟨_,ys,x,rfl,rfl,hy,hz,q⟩) λ_ s2 ⟨_,H2,I2,_,q2⟩=>BK ⟨σ,H2,I2,q2⟩
theorem Eg.mono{v:V}{R R':St->Hp->Prop}(h:Eg X elt v σ H R)(f:∀ σ' H',R σ' H'->R' σ' H'):Eg X elt v σ H R':=⟨λpins s u I r=>aP (h.run pins s u I r) λ_ _ ⟨σ',H',I',q⟩=>⟨σ',H',I',f _ _ q⟩⟩
theorem Ei.mono{T T':Bool->Hp->Prop}(h:Ei X ifs σ H T)(f:∀ b H',T b H'->T' b H'):Ei X ifs σ H T':=⟨λpins s I=>aP (h.run pins s I) λ_ _ ⟨H',I',q⟩=>⟨H',I',f _ _ q⟩⟩
theorem Si{D:Addr}{after:Hp->Prop}(h:oB X N' scope tg ifs elt J D after σ H)(cl:List<|Str×Addr)(C:Addr)(s₀:Shared)(H₀:Hp)(ex:List Addr):iq (fk X N' scope cl C s₀ H₀ ex) tg ifs (emit elt (.ref D)<|compEnvC scope cl C X.env) J (λ_ H'=>after H') σ H:=by
 obtain⟨W,w0,t⟩:=h;refine⟨W,w0,λi m σ' H' w=>(t i m σ' H' w).imp id λ⟨g,N,hN,st⟩=>⟨g,N,hN,λx H2 y=>(st x H2 y cl C s₀ H₀ ex).mono λσ2 H3 h3=>(h3 cl C s₀ H₀ ex).mono λb H4 h4=>?_⟩⟩;cases b with
 | true=>
  rw [BP rfl] at h4 ⊢;exact Ii (X:=fk X N' scope cl C s₀ H₀ ex)<|h4 cl C s₀ H₀ ex
 | false=>
  rw [BL At] at h4 ⊢;exact h4
theorem Sj{n:Nat}{pins:List (Addr×Obj)}{H2:Hp}{s2:Shared}{E:Value->Shared->Prop}{RR:Value->Addr->Result->Shared->Prop}{it:Addr}{fp:List Addr}{tn:Nat->Heap->Prop}{Q:VK}
  (hc:X.calm=true) (ck:bO X.env.scope scope X.N N') (hl:N'.length=X.N.length+n) (I2:Inv X pins σ H2 s2) (T:Turn X.prog X.w X.K tg J fp it tn) (eS:tn 0 s2.heap) (f2:∀ b∈fp,bV X pins H2 b)
  (q:∀ D,H2 D=none->oB X N' scope tg ifs elt J D (λH'=>Q (.ref D) H') (σ++List.replicate n none) (upd H2 D<|.lst []))
  (yc:∀ D C H' s' m,Inv X pins σ H' s'->s'.heap.Ns C m->H' C=none->C≠X.env.locals->X.s₀.heap.objs.size<=C->(∀ x c,X.env.cells.lookup x=some c->c≠C)->(∀ p∈X.pn++pins,p.1≠C)->Q (.ref D) H'->RR (.ref D) C (.ok .next) s') :
  wpAny (model X.prog X.w) X.A (newList []) (λacc s₃=>wpAny (model X.prog X.w) X.A (newFunctionEnv scope X.env.globals (ce scope.names X.env.cells []) [] X.env.qual none .none<|some X.env) (λiS s₄=>
   codeAny (model X.prog X.w) X.A (.compStart (.ListComp elt [⟨tg,iter,ifs,0⟩] scope pos) 0 (.ref it) acc {iS with scope:=relabel scope X.env}) (RR acc iS.locals) s₄) E s₃) E s2:=
 tR (newAcc:=newList []) (o0:={cls:= .type "list",dict:=none,data:= .seq ([]:List Value).toArray}) (u0:=λ_=> .lst []) (λ_ _ _ h=>DG h<|by show(0:Nat)<=sizeLine;exact Bq _) (λ_ _ _=>⟨Bq _,[],0,.nil,As _ rfl⟩) hc ck hl (λ_ _=>Sh) I2 T eS f2 (λD hD=>Si<|q D hD) yc
end
section
variable{X:Cx}{elt tg iter c:Expr}{ifs:List Expr}{scope:Scope}{pos p:Pos}{wi:TI}{σ:St}{H:Hp}{Q:VK}{T:Bool->Hp->Prop}{rest:List Stmt}{D:Ends}
theorem jB(h:T true H):Ei X [] σ H T:=⟨λpins s I=>Rl pins s σ H T I h⟩
theorem tS(h:Et X c σ H T):Ei X [c] σ H T:=⟨λpins s I=>Rm k6 pins s σ H T I h⟩
theorem j9(sc:Scope)(N N':List Str)(n:Nat)(hi:PI X tg iter wi)
  (h:wi σ H λJ H1=>∀ D,H1 D=none->oB X N' scope tg ifs elt J D (λH'=>Q (.ref D) H') (σ++List.replicate n none) (upd H1 D<|.lst []))
  (hc:X.calm=true:=by rfl) (mL:X.env.scope=sc:=by rfl) (hN:X.N=N:=by rfl) (hk:oC sc scope N N'=true:=by decide +kernel) (hl:N'.length=N.length+n:=by rfl)
  (hs:∀ x,foldedSetIterable iter X.env x=pure x:=by intro _;rfl):Ev X (.ListComp elt [⟨tg,iter,ifs,0⟩] scope pos) σ H Q:=by
 refine⟨λpins s I=>?_⟩;subst mL hN;have ck:=bO.of hk;rw [eval_ListComp];refine HW (use:=none) rfl hs (tI λx hx hf=>I.ok.has x.1<|ck.free x hx hf) ck.kind ck.names (aP (hi pins s σ H _ I h) λv s1 h1=>aP h1 λkW s2 h2=>?_);obtain⟨it,fp,tn,J,H2,e,I2,T,eS,f2,q⟩:=h2;subst e;refine Sj (RR:=λacc C=>compPost (model X.prog X.w) X.A X.xe none (EP X pins σ Q) acc C) hc ck hl I2 T eS f2 q ?_;intro D C H' s' m IX hn hC c1 c2 c3 c4 qq;exact⟨m,hn,λh' fT=>⟨.ref D,H',IX.turned (t':=s'.toks) (λb o hb e=>fT.extBut b o hb e) hC (CN<|CN c1) (.inr c2) c3 c4,rfl,qq⟩⟩
end
structure aV(P:Program)(w:World)(K:PySem.W.Frag)(mg:Str->Option Value)(base:Heap)(k:Nat)(x:Str)(ps:List Str)(sp:Sp):Prop where
 ex:∃ f fd,aG P w K mg base bG k f fd ps sp/\Binds K fd ps []/\PySem.W.keepIn K (.ref f)=true/\mg x=some (.ref f)
theorem aV.mono{P:Program}{w:World}{K:PySem.W.Frag}{mg:Str->Option Value}{base:Heap}{j k:Nat}{x:Str}{ps:List Str}{sp:Sp}(h:aV P w K mg base j x ps sp)(le:j<=k):aV P w K mg base k x ps sp:=
 let ⟨f,fd,F,r⟩:=h.ex;⟨f,fd,F.mono le,r⟩
theorem bR{X:Cx}{k:Nat}{ps:List Str}{sp:Sp}{x:Str}{e:Expr}{es:List Expr}{σ:St}{H:Hp}{Q:VK}{p pos:Pos}(G:aV X.prog X.w X.K X.mg X.base k x ps sp)(hr:bv k X.A)
  (h:Ea X (e :: es) σ H λvs H1=>sp vs H1 Q E0) (hg:Gl X x:=by rfl) (dJ:(x == ("__debug__" : Str))=false:=by decide) (hs:noStar (e :: es)=true:=by rfl):Ev X (.Call (.Name x p) (e :: es) [] pos) σ H Q:=
 let ⟨_,_,F,b,kp,m⟩:=G.ex;Rx F hr m kp b iN h hg dJ hs
theorem _root_.L2.bv.eF{k:Nat}{A:Around}(hr:bv k A):A.units+100 < cLine:=by have:=hr.un;omega
theorem _root_.L2.bv.u1{k:Nat}{A:Around}(hr:bv k A):A.units+1 < cLine:=by have:=hr.un;omega
def Df(K:PySem.W.Frag)(x:Str)(st:Stmt):Prop:=∃(f:Addr) (fd:FuncData),PySem.W.nsIn K mainGlobals x=some (some<|.ref f)/\bL K x x st f fd
theorem aO{K:PySem.W.Frag}{x:Str}{st:Stmt}{f:Addr}{oc kV doc pm bJ ct:Value}{od an:Option Addr}{sl:Array (Option Value)}(a:PySem.W.nsIn K mainGlobals x=some (some<|.ref f))
  (l:K.lookup f=some ⟨oc,od,.func<|PySem.W.fnOf x x (mD st) (jz st) (bd st) .none kV doc pm an bJ ct,sl⟩) (c:PySem.W.codeIn K bJ x=true) (k:PySem.W.keepIn K (.ref f)=true):Df K x st:=⟨f,_,a,Q3 l c k⟩
structure Ij where
 f:Addr
 bJ:Value
 A:Around
 outer:List Env
 s:Shared
 H:Hp
 E:XK
def Sl(N:List Str)(qual:Str)(scope:Scope)(P:Program)(w:World)(K:PySem.W.Frag)(mg:Str->Option Value)(base:Heap)(b:Ij):Cx:=(fe bG P w K mg base N qual scope b.f b.bJ b.A b.outer b.s b.H b.E).oj
def En(Q:VK):Ends:={nx:=λ_ H'=>Q .non H',rt:=Q}
theorem bL.gb{P:Program}{w:World}{K:PySem.W.Frag}{mg:Str->Option Value}{base:Heap}{x qual:Str}{st:Stmt}{f:Addr}{fd:FuncData}{N ps:List Str}{k:Nat}{sp:Sp}(F:bL K x qual st f fd)(S:aq N ps<|bd st)(len:∀ vs H Q E,sp vs H Q E->vs.length=ps.length)
  (dh:∀(b:Ij) (H:Hp) (vs:List V) (Q:VK) (E:XK),bv k (b.A.deeper<|envOfC qual (bd st) b.s.heap.objs.size b.f b.bJ)->sp vs H Q E->Run (Sl N qual (bd st) P w K mg base b) (jz st) (En Q) (start N vs) H):aG P w K mg base bG (k+1) f fd ps sp:=
 F.go S len λbJ A outer s H vs Q E hr dU=>dh ⟨f,bJ,A,outer,s,H,E⟩ H vs Q E hr dU
theorem jC{us:List Value}{k:Nat}(h:us.length=k+1):∃ a r,us=a :: r/\r.length=k:=by
 cases us with
 | nil=>cases h
 | cons a r=>exact⟨a,r,rfl,Nat.succ.inj h⟩
theorem iT{fd:FuncData}{ps:List Str}(f:∀ a:Value,bindArgs fd ⟨[a],[]⟩=pure (ps.zip [a])):∀ us:List Value,us.length=1->bindArgs fd ⟨us,[]⟩=pure (ps.zip us):=λus h=>by
 obtain⟨a,r0,e0,h0⟩:=jC h;have z:=Bi.mp h0;subst z e0;exact f a
theorem iU{fd:FuncData}{ps:List Str}(f:∀ a b:Value,bindArgs fd ⟨[a,b],[]⟩=pure (ps.zip [a,b])):∀ us:List Value,us.length=2->bindArgs fd ⟨us,[]⟩=pure (ps.zip us):=λus h=>by
 obtain⟨a,r0,e0,h0⟩:=jC h;obtain⟨b,r1,e1,h1⟩:=jC h0;have z:=Bi.mp h1;subst z e1 e0;exact f a b
theorem tT{fd:FuncData}{ps:List Str}(f:∀ a b c:Value,bindArgs fd ⟨[a,b,c],[]⟩=pure (ps.zip [a,b,c])):∀ us:List Value,us.length=3->bindArgs fd ⟨us,[]⟩=pure (ps.zip us):=λus h=>by
 obtain⟨a,r0,e0,h0⟩:=jC h;obtain⟨b,r1,e1,h1⟩:=jC h0;obtain⟨c,r2,e2,h2⟩:=jC h1;have z:=Bi.mp h2;subst z e2 e1 e0;exact f a b c
theorem Ik{fd:FuncData}{ps:List Str}(f:∀ a b c d:Value,bindArgs fd ⟨[a,b,c,d],[]⟩=pure (ps.zip [a,b,c,d])):∀ us:List Value,us.length=4->bindArgs fd ⟨us,[]⟩=pure (ps.zip us):=λus h=>by
 obtain⟨a,r0,e0,h0⟩:=jC h;obtain⟨b,r1,e1,h1⟩:=jC h0;obtain⟨c,r2,e2,h2⟩:=jC h1;obtain⟨d,r3,e3,h3⟩:=jC h2;have z:=Bi.mp h3;subst z e3 e2 e1 e0;exact f a b c d
theorem Df.has{P:Program}{w:World}{K:PySem.W.Frag}{mg:Str->Option Value}{h base:Heap}{k:Nat}{x:Str}{st:Stmt}{ps:List Str}{sp:Sp}(d:Df K x st)(X:K.In h)(G:h.Ns mainGlobals mg)
  (hb:∀(kV doc pm:Value) (an:Option Addr) (bJ ct:Value) (us:List Value),us.length=ps.length->bindArgs (PySem.W.fnOf x x (mD st) (jz st) (bd st) .none kV doc pm an bJ ct) ⟨us,[]⟩=pure (ps.zip us))
  (ok:∀{f:Addr} {fd:FuncData},bL K x x st f fd->aG P w K mg base bG k f fd ps sp):aV P w K mg base k x ps sp:=
 let ⟨f,fd,a,F⟩:=d;⟨f,fd,ok F,F.binds hb,F.kp,TQ X G a⟩
theorem Df.law{P:Program}{w:World}{K:PySem.W.Frag}{mg:Str->Option Value}{h:Heap}{k:Nat}{x y:Str}{st:Stmt}{sp:Sp}{fa:Addr}(d:Df K x st)(X:K.In h)(G:h.Ns mainGlobals mg)(yf:mg x=some (.ref fa))
  (hb:∀(kV doc pm:Value) (an:Option Addr) (bJ ct:Value) (s:Shared) (v:Value),BindsTo s (PySem.W.fnOf x x (mD st) (jz st) (bd st) .none kV doc pm an bJ ct) ⟨[v],[]⟩ [(y,v)])
  (ok:∀(base:Heap) {f:Addr} {fd:FuncData},bL K x x st f fd->aG P w K mg base bG k f fd [y] sp) :
  ∃ fd:FuncData,(∀(s:Shared) (v:Value),BindsTo s fd ⟨[v],[]⟩ [(y,v)])/\∀ base:Heap,K.In base->base.Ns mainGlobals mg->aG P w K mg base bG k fa fd [y] sp:=by
 obtain⟨f,fd,a,F⟩:=d;have e:=yf.symm.trans<|TQ X G a;cases e;obtain⟨oc,od,kV,doc,pm,an,bJ,ct,jV,rfl,lk,ic⟩:=id F.ex;exact⟨_,hb kV doc pm an bJ ct,λbase _ _=>ok base F⟩
end L2
namespace bx
open PySem
def oE(m i:Nat):Nat:=(i * 5+1) % m
def fm(m:Nat):Nat->Nat->List Nat
 | 0,_=>[]
 | n+1,i=>i :: fm m n (oE m i)
def ka(m:Nat):Nat->Nat->Nat
 | 0,i=>i
 | n+1,i=>ka m n<|oE m i
theorem tU(m:Nat):∀ a b i,ka m (a+b) i=ka m b (ka m a i)
 | 0,b,i=>by rw [Ec];rfl
 | a+1,b,i=>by
  rw [show a+1+b=(a+b)+1 by omega];exact tU m a b<|oE m i
theorem yg(m:Nat):∀ n t i,t < n->ka m t i∈fm m n i
 | 0,_,_,h=>by omega
 | n+1,0,i,_=>Ad
 | n+1,t+1,i,h=>Ae _<|yg m n t (oE m i)<|by omega
theorem yh(m:Nat):∀ n i j,j∈fm m n i->∃ t,t < n/\ka m t i=j
 | 0,_,_,h=>by cases h
 | n+1,i,j,h=>by
  rcases Ak.mp h with rfl | h
  ·exact⟨0,Gd _,rfl⟩
  ·obtain⟨t,ht,e⟩:=yh m n (oE m i) j h;exact⟨t+1,Nat.succ_lt_succ ht,e⟩
def covers(m:Nat):Bool:=ka m m 0 == 0 && (List.range m).all λj=>(fm m m 0).contains j
theorem Sn:covers 8=true:=by decide +kernel
theorem Sq:covers 16=true:=by decide +kernel
theorem Ss:covers 32=true:=by decide +kernel
theorem Sv:covers 64=true:=by decide +kernel
theorem Sw:covers 128=true:=by decide +kernel
theorem Sx:covers 512=true:=by decide +kernel
def Pow(m:Nat):Prop:=m=8\/m=16\/m=32\/m=64\/m=128\/m=512
theorem Pow.covers{m:Nat}(h:Pow m):bx.covers m=true:=by
 rcases h with rfl | rfl | rfl | rfl | rfl | rfl
 ·exact Sn
 ·exact Sq
 ·exact Ss
 ·exact Sv
 ·exact Sw
 ·exact Sx
theorem Pow.pos{m:Nat}(h:Pow m):8<=m/\m<=512:=by rcases h with rfl | rfl | rfl | rfl | rfl | rfl <;> decide
theorem Pow.mem{m i j:Nat}(h:Pow m)(hi:i < m)(hj:j < m):j∈fm m m i:=by
 have q:=h.covers;unfold bx.covers at q;rw [By,Eh,KC] at q;obtain⟨z,q⟩:=q;obtain⟨a,ha,ea⟩:=yh m m 0 i<|Cb.mp<|q i<|Bm.mpr hi;obtain⟨b,hb,eb⟩:=yh m m 0 j<|Cb.mp<|q j<|Bm.mpr hj
 rcases Db b a with c | c
 ·have e:ka m (b+m - a) i=j:=by
   rw [<- ea,<- tU,show a+(b+m - a)=m+b by omega,tU,z,eb]
  rw [<- e];exact yg m m _ i<|by omega
 ·have e:ka m (b - a) i=j:=by
   rw [<- ea,<- tU,show a+(b - a)=b by omega,eb]
  rw [<- e];exact yg m m _ i<|by omega
def oF(mask:Nat):Nat->Nat->Nat->List Nat
 | 0,_,_=>[]
 | n+1,i,p=>i :: oF mask n (SetTable.leap mask i p).1 (SetTable.leap mask i p).2
theorem Il(mask:Nat):∀ n i,oF mask n i 0=fm (mask+1) n i
 | 0,_=>rfl
 | n+1,i=>by
  show i :: oF mask n ((i * 5+1+0 / 32) % (mask+1)) (0 / 32)=i :: fm (mask+1) n (oE (mask+1) i);rw [show(0 / 32:Nat)=0 by decide,TX,Il mask n];rfl
theorem Sy{mask i p:Nat}:(SetTable.leap mask i p).1 < mask+1:=Gz _<|Gd _
theorem Im{mask:Nat}:∀(t n i p:Nat),i < mask+1->p < 32 ^ t->∃ i',i' < mask+1/\∀ j∈fm (mask+1) n i',j∈oF mask (t+n) i p
 | 0,n,i,p,hi,hp=>by
  have e:p=0:=by simpa using hp
  subst e;refine⟨i,hi,λj hj=>?_⟩;rw [Ec,Il];exact hj
 | t+1,n,i,p,hi,hp=>by
  have h2:p / 32 < 32 ^ t:=by
   rw [Nat.div_lt_iff_lt_mul<|by decide];rw [Ge] at hp;exact hp
  obtain⟨i',h',q⟩:=Im t n (SetTable.leap mask i p).1 (p / 32) Sy h2;refine⟨i',h',λj hj=>?_⟩;rw [show t+1+n=(t+n)+1 by omega];exact Ae _<|q j hj
theorem Sz{mask i p j:Nat}(hm:Pow<|mask+1)(hi:i < mask+1)(hp:p < 2 ^ 64)(hj:j < mask+1):j∈oF mask (mask+15) i p:=by
 obtain⟨i',h',q⟩:=Im (mask:=mask) 14 (mask+1) i p hi (Bc hp<|by decide);have:=q j<|hm.mem h' hj;rwa [show 14+(mask+1)=mask+15 by omega] at this
abbrev fq:=Array<|Option Nat
def nil?(owner:fq)(j:Nat):Bool:=(owner.getD j<|some 0).isNone
theorem SA(mask i:Nat):i<=SetTable.runEnd mask i:=by unfold SetTable.runEnd;split <;> omega
theorem Io{mask:Nat}{owner:fq}:∀{fuel i p:Nat},SetTable.layClean.free mask owner fuel i p=none->∀ j∈oF mask fuel i p,nil? owner j=false
 | 0,_,_,_,j,hj=>by cases hj
 | fuel+1,i,p,h,j,hj=>by
  unfold SetTable.layClean.free at h
  split at h
  ·cases h
  ·rename_i hf
   rcases Ak.mp hj with rfl | hj
   ·have:=Fx.mp hf 0 (Bm.mpr<|by have:=SA mask j;omega);rw [TX] at this;exact Dz.mpr this
   ·exact Io (fuel:=fuel) h j hj
theorem Ip{mask:Nat}{owner:fq}:∀{fuel i p j:Nat},SetTable.layClean.free mask owner fuel i p=some j->nil? owner j=true
 | 0,_,_,_,h=>by cases h
 | fuel+1,i,p,j,h=>by
  unfold SetTable.layClean.free at h
  split at h
  ·rename_i k hf;cases h;have:=Gx hf;exact this
  ·exact Ip (fuel:=fuel) h
theorem nil?_iff{owner:fq}{j:Nat}:nil? owner j=true↔owner[j]?=some none:=by
 unfold nil?;rw [Dk];cases h:owner[j]? with
 | none=>simp
 | some v=>cases v <;> simp
structure Lies(m:Nat)(owner:fq)(k:Nat):Prop where
 size:owner.size=m
 lt:∀(j v:Nat),owner[j]?=some (some v)->v < k
 has:∀ v:Nat,v < k->∃ j:Nat,owner[j]?=some (some v)
 inj:∀(i j v:Nat),owner[i]?=some (some v)->owner[j]?=some (some v)->i=j
theorem Lies.start(m:Nat):Lies m (Array.replicate m none) 0 where
 size:=by simp
 lt:=λj v h=>by
  rw [QL] at h
  split at h <;> cases h
 has:=λv h=>by omega
 inj:=λi j v h=>by
  rw [QL] at h
  split at h <;> cases h
theorem Lies.put{m k j:Nat}{owner:fq}(L:Lies m owner k)(hj:owner[j]?=some none):Lies m (owner.setIfInBounds j<|some k) (k+1):=by
 have aS:j < owner.size:=by
  rcases Db j owner.size with h | h
  ·exact h
  ·rw [Ed h] at hj;cases hj
 have at':∀ i:Nat,(owner.setIfInBounds j<|some k)[i]?=if j=i then some (some k) else owner[i]?:=by
  intro i;rw [Array.getElem?_setIfInBounds]
  split
  ·rename_i e;subst e;first | rfl | rw [BP aS]
  ·rfl
 refine⟨by rw [Array.size_setIfInBounds];exact L.size,λi v h=>?_,λv h=>?_,λa b v ha hb=>?_⟩
 ·rw [at'] at h
  split at h
  ·cases h;exact Fq _
  ·exact Bp<|L.lt i v h
 ·rcases Ex.mp h with h | rfl
  ·obtain⟨i,hi⟩:=L.has v h;refine⟨i,?_⟩;rw [at',BL λe=>by subst e;rw [hj] at hi;cases hi];exact hi
  ·exact⟨j,by rw [at',BP rfl]⟩
 ·rw [at'] at ha hb
  split at ha
  ·rename_i e;cases ha
   split at hb
   ·rename_i e2;exact e.symm.trans e2
   ·have:=L.lt b k hb;omega
  ·split at hb
   ·cases hb;have:=L.lt a k ha;omega
   ·exact L.inj a b v ha hb
def live(m:Nat)(owner:fq):List (Nat×Nat):=(List.range m).filterMap λj=>(owner.getD j none).map (j,·)
theorem getD_some{owner:fq}{j v:Nat}:owner.getD j none=some v↔owner[j]?=some (some v):=by
 rw [Dk];cases h:owner[j]? with
 | none=>simp
 | some x=>simp
theorem ft{m:Nat}{owner:fq}{p:Nat×Nat}:p∈live m owner↔p.1 < m/\owner[p.1]?=some (some p.2):=by
 unfold live;rw [Fw]
 constructor
 ·rintro ⟨j,hj,e⟩;cases hv:owner.getD j none with
  | none=>rw [hv] at e;cases e
  | some v=>
   rw [hv] at e;cases e;exact⟨Bm.mp hj,getD_some.mp hv⟩
 ·rintro ⟨h1,h2⟩;exact⟨p.1,Bm.mpr h1,by rw [getD_some.mpr h2];rfl⟩
theorem Lies.nodup{m k:Nat}{owner:fq}(L:Lies m owner k):((live m owner).map (·.2)).Nodup:=by
 have q:∀ l:List Nat,l.Nodup->((l.filterMap λj=>(owner.getD j none).map (j,·)).map (·.2)).Nodup:=by
  intro l
  induction l with
  | nil=>intro _;exact Cj
  | cons a r ih=>
   intro hn;rw [Bg] at hn;rw [Eb];cases hv:owner.getD a none with
   | none=>exact ih hn.2
   | some v=>
    show(v :: (r.filterMap λj=>(owner.getD j none).map (j,·)).map (·.2)).Nodup;rw [Bg];refine⟨λh=>?_,ih hn.2⟩;obtain⟨p,hp,e⟩:=Aj.mp h;obtain⟨j,hj,e2⟩:=Fw.mp hp;cases hw:owner.getD j none with
    | none=>rw [hw] at e2;cases e2
    | some u=>
     rw [hw] at e2;cases e2;have e3:u=v:=e;subst e3;have:=L.inj a j u (getD_some.mp hv)<|getD_some.mp hw;subst this;exact hn.1 hj
 exact q _ QM
theorem Lies.perm{m k:Nat}{owner:fq}(L:Lies m owner k):((live m owner).map (·.2)).Perm (List.range k):=by
 rw [Dm L.nodup QM];intro v;rw [Bm,Aj]
 constructor
 ·rintro ⟨p,hp,rfl⟩;exact L.lt _ _ (ft.mp hp).2
 ·intro h;obtain⟨j,hj⟩:=L.has v h;have aS:j < m:=by
   rw [<- L.size]
   rcases Db j owner.size with h | h
   ·exact h
   ·rw [Ed h] at hj;cases hj
  exact⟨(j,v),ft.mpr ⟨aS,hj⟩,rfl⟩
theorem Lies.length{m k:Nat}{owner:fq}(L:Lies m owner k):(live m owner).length=k:=by
 have:=L.perm.length_eq;rwa [Ab,Fj] at this
theorem Lies.room{m k:Nat}{owner:fq}(L:Lies m owner k)(h:k < m):∃ j,j < m/\nil? owner j=true:=by
 refine DN λhn=>?_;have all:∀ j,j < m->∃ v,owner.getD j none=some v:=by
  intro j hj;have hs:j < owner.size:=by rw [L.size];exact hj
  cases hv:owner[j] with
  | none=>exact absurd ⟨j,hj,nil?_iff.mpr<|by rw [Dd hs,hv]⟩ hn
  | some v=>exact⟨v,getD_some.mpr<|by rw [Dd hs,hv]⟩
 have len:∀ l:List Nat,(∀ j∈l,j < m)->(l.filterMap λj=>(owner.getD j none).map (j,·)).length=l.length:=by
  intro l
  induction l with
  | nil=>intro _;rfl
  | cons a r ih=>
   intro hl;obtain⟨v,hv⟩:=all a<|hl a Ad;rw [Eb,hv];show(_ :: _).length=_;rw [Au,Au,ih λj hj=>hl j<|Ae _ hj]
 have e:=len (List.range m) λj hj=>Bm.mp hj;have e2:=L.length;unfold live at e2;rw [e,Fj] at e2;omega
theorem SD(h:Int):SetTable.bits h < 2 ^ 64:=by
 unfold SetTable.bits;have h1:0<=h % (2 ^ 64:Int):=Bt _ (by decide);have h2:h % (2 ^ 64:Int) < 2 ^ 64:=Cc _ (by decide);omega
theorem Lies.free{mask k:Nat}{owner:fq}(L:Lies (mask+1) owner k)(hm:Pow<|mask+1)(h:k < mask+1)(x:Int) :
  ∃ j,SetTable.layClean.free mask owner (SetTable.turns mask) (SetTable.bits x % (mask+1)) (SetTable.bits x)=some j/\owner[j]?=some none:=by
 cases e:SetTable.layClean.free mask owner (SetTable.turns mask) (SetTable.bits x % (mask+1)) (SetTable.bits x) with
 | some j=>exact⟨j,rfl,nil?_iff.mp<|Ip e⟩
 | none=>
  obtain⟨j,hj,q⟩:=L.room h;have:=Io e j<|Sz hm (Gz _<|Gd _) (SD x) hj;rw [q] at this;cases this
def tV(mask:Nat)(acc:Option<|fq×Nat)(h:Int):Option (fq×Nat):=do
 let (owner,k) <- acc
 let j <- SetTable.layClean.free mask owner (SetTable.turns mask) (SetTable.bits h % (mask+1))<|SetTable.bits h
 pure (owner.setIfInBounds j<|some k,k+1)
theorem Iq{mask:Nat}(hm:Pow<|mask+1):∀(hs:List Int) (owner:fq) (k:Nat),Lies (mask+1) owner k->k+hs.length < mask+1+1 ->
  ∃ iV,hs.foldl (tV mask) (some (owner,k))=some (iV,k+hs.length)/\Lies (mask+1) iV (k+hs.length)
 | [],owner,k,L,_=>⟨owner,rfl,L⟩
 | h :: r,owner,k,L,hk=>by
  rw [Au] at hk ⊢;obtain⟨j,e,hj⟩:=L.free hm (by omega) h;obtain⟨o',e',L'⟩:=Iq hm r _ (k+1) (L.put hj) (by omega);refine⟨o',?_,?_⟩
  ·rw [Cy,show tV mask (some (owner,k)) h=some (owner.setIfInBounds j<|some k,k+1) by unfold tV;simp [e],e']
   congr 2
   omega
  ·rw [show k+(r.length+1)=k+1+r.length by omega];exact L'
theorem SE{mask:Nat}(hm:Pow<|mask+1)(hs:Array Int)(hl:hs.size < mask+1+1):∃ owner,SetTable.layClean mask hs=some owner/\Lies (mask+1) owner hs.size:=by
 obtain⟨o',e,L⟩:=Iq hm hs.toList _ 0 (Lies.start<|mask+1) (by simpa using hl);refine⟨o',?_,by simpa using L⟩;have e2:SetTable.layClean mask hs=(hs.foldl (tV mask)<|some (Array.replicate (mask+1) none,0)).map (·.1):=rfl;rw [e2,<- Array.foldl_toList,e];rfl
theorem Ir{mask finger moves:Nat}{led plain:Bool}(hm:Pow<|mask+1)(hs:Array Int)(hl:hs.size<=mask) :
  ∃ t order,SetTable.laid mask finger moves led plain hs=some (t,order)/\order.toList.Perm (List.range hs.size)/\t.fits hs.size=true/\t.led=led/\t.plain=plain/\t.mask=mask/\t.dummies=#[]/\t.place.size=hs.size:=by
 obtain⟨o,e,L⟩:=SE hm hs (by omega);have hp:((live (mask+1) o).map (·.1)).toArray.size=hs.size:=by
  rw [Aw,Ab,L.length]
 refine⟨_,_,by unfold SetTable.laid;rw [e];rfl,?_,?_,rfl,rfl,rfl,rfl,hp⟩
 ·show((live (mask+1) o).map (·.2)).Perm _;exact L.perm
 ·unfold SetTable.fits SetTable.fill;show(((live (mask+1) o).map (·.1)).toArray.size == hs.size && decide (((live (mask+1) o).map (·.1)).toArray.size+0<=mask))=true;rw [hp];simp only [KZ,Hb,TX,DR];exact hl
def cj(w:World):Bool:=w.params.followText "set-order"
def keyOf(e:Int×Value):Str:=match e.2 with
 | .str x _=>x
 | _=>⟨#[]⟩
section
variable(prog:Program)(w:World)
def ll(e:Int×Value):Prop:=∃ z t,e=((strKind prog w).hash z,Value.str z t)
structure Tab(es:Array<|Int×Value)(t:SetTable)(zs:List Str):Prop where
 elts:∀ e∈es.toList,ll prog w e
 keys:(es.toList.map keyOf).Perm zs
 nodup:zs.Nodup
 few:zs.length < 1000
 fits:t.fits es.size=true
 led:t.led = !cj w
 plain:es=#[]\/t.plain=false
def au(h:Heap)(a:Addr)(zs:List Str):Prop:=∃ o es ep t,h.get? a=some o/\o.ExactSet/\o.data = .set es ep t/\Tab prog w es t zs
end
section
variable{prog:Program}{w:World}{es:Array (Int×Value)}{t:SetTable}{zs:List Str}{h h':Heap}{a:Addr}
theorem Tab.elems(T:Tab prog w es t zs):ElemsOf (strKind prog w) es.toList:=λe he=>by
 obtain⟨z,u,rfl⟩:=T.elts e he;exact⟨⟨z,NK _ _ _ _,rfl⟩,rfl⟩
theorem Tab.size(T:Tab prog w es t zs):es.size=zs.length:=by
 have:=T.keys.length_eq;rw [Ab,Bs] at this;exact this
theorem Tab.eG(T:Tab prog w es t zs):es.size < 1000:=by rw [T.size];exact T.few
theorem Tab.scan(T:Tab prog w es t zs):es.size < scanBound:=by have:=T.eG;unfold scanBound;omega
theorem Tab.perm{d8:Array (Int×Value)}{t':SetTable}(T:Tab prog w es t zs)(p:d8.toList.Perm es.toList)(hf:t'.fits d8.size=true)(hl:t'.led=t.led)(hp:d8=#[]\/t'.plain=false):Tab prog w d8 t' zs:=
 ⟨λe he=>T.elts e<|p.mem_iff.mp he,(p.map keyOf).trans T.keys,T.nodup,T.few,hf,hl.trans T.led,hp⟩
theorem au.keep(S:au prog w h a zs)(k:∀ o,h.get? a=some o->h'.get? a=some o):au prog w h' a zs:=let ⟨o,es,ep,t,h1,h2⟩:=S;⟨o,es,ep,t,k o h1,h2⟩
theorem au.typeIs{s:Shared}(S:au prog w s.heap a zs):s.TypeIs (.ref a) "set":=let ⟨o,_,_,_,h1,h2,_⟩:=S;⟨o,h1,h2.1⟩
theorem au.lt(S:au prog w h a zs):a < h.objs.size:=let ⟨_,_,_,_,h1,_⟩:=S;Av h1
theorem au.few(S:au prog w h a zs):zs.length < 1000:=let ⟨_,_,_,_,_,_,_,T⟩:=S;T.few
theorem au.nodup(S:au prog w h a zs):zs.Nodup:=let ⟨_,_,_,_,_,_,_,T⟩:=S;T.nodup
theorem mM{o:Obj}{ep:Nat}{d8:Array (Int×Value)}{t':SetTable}{gy:List Str}(ho:h.get? a=some o)(hx:o.ExactSet)(hd:o.data = .set es ep t)(T':Tab prog w d8 t' gy) :
  (h.update a<|Obj.putSet d8 t').get? a=some {o with data:= .set d8 (ep+1) t'}/\au prog w (h.update a<|Obj.putSet d8 t') a gy:=by
 have q:=Ej (Obj.putSet d8 t') ho (by rw [putSet_of d8 t' hd];rfl);rw [putSet_of d8 t' hd] at q;exact⟨q,_,d8,ep+1,t',q,hx,rfl,T'⟩
theorem yi{e:Int×Value}(he:ll prog w e)(z:Str):(strKind prog w).is z e.2=decide (z=keyOf e):=by
 obtain⟨y,u,rfl⟩:=he;exact KeyKind.is_eq_decide (NK prog w y u) z
theorem find_none(T:Tab prog w es t zs){z:Str}(hz:z∉zs):es.toList.findIdx? (λe=>(strKind prog w).is z e.2)=none:=by
 rw [List.findIdx?_eq_none_iff];intro e he;rw [yi<|T.elts e he,HX];rintro rfl;exact hz<|T.keys.mem_iff.mp<|List.mem_map_of_mem he
theorem find_some(T:Tab prog w es t zs){z:Str}(hz:z∈zs):∃ j,∃ hj:j < es.toList.length,es.toList.findIdx? (λe=>(strKind prog w).is z e.2)=some j/\keyOf es.toList[j]=z:=by
 obtain⟨e,he,e2⟩:=Aj.mp<|T.keys.mem_iff.mpr hz;cases q:es.toList.findIdx? (λe=>(strKind prog w).is z e.2) with
 | none=>
  have:=List.findIdx?_eq_none_iff.mp q e he;rw [yi<|T.elts e he,HX] at this;exact absurd e2.symm this
 | some j=>
  obtain⟨hj,p,_⟩:=List.findIdx?_eq_some_iff_getElem.mp q;rw [yi<|T.elts _<|Bn hj,DR] at p;exact⟨j,hj,rfl,p.symm⟩
theorem SF(t:SetTable)(n:Nat):(t.orStandIn n).led=t.led/\((t.orStandIn n).plain=true->t.plain=true):=by
 unfold SetTable.orStandIn
 split
 ·exact⟨rfl,id⟩
 ·exact⟨rfl,λh=>by cases h⟩
theorem SG(t:SetTable)(es:Array<|Int×Value)(x:Int)(v:Value):(layNew t es x v).2.1.led=t.led:=by
 unfold layNew
 split
 ·exact(SF _ _).1
 ·rfl
theorem SH{mask f m:Nat}{l p:Bool}{hs:Array Int}{t':SetTable}{o:Array Nat}(e:SetTable.laid mask f m l p hs=some (t',o)):t'.led=l/\t'.plain=p:=by
 unfold SetTable.laid at e;cases c:SetTable.layClean mask hs with
 | none=>rw [c] at e;cases e
 | some ow=>rw [c] at e;cases e;exact⟨rfl,rfl⟩
theorem Iu(t:SetTable)(es:Array<|Int×Value)(n:Nat)(hp:t.plain=false):(relayAll t es n).2.1.led=t.led/\(relayAll t es n).2.1.plain=false:=by
 unfold relayAll
 split
 ·rename_i t' o e;have q:=SH e
  dsimp only
  split
  ·exact⟨q.1,q.2.trans hp⟩
  ·exact⟨rfl,rfl⟩
 ·exact⟨rfl,rfl⟩
end
section
variable{prog:Program}{w:World}{A:Around}{E:Value->Shared->Prop}{s:Shared}{a:Addr}{zs:List Str}
theorem iW{n:Nat}(h:n < 1001):n<=sizeLine:=by rw [FJ];omega
theorem Iv{g:Bool->Sem Unit}(hg:∀(b:Bool) (s₁:Shared) (Q':Unit->Shared->Prop),Q' () s₁->wpAny (model prog w) A (g b) Q' E s₁)
  {o:Obj} {es:Array (Int×Value)} {ep:Nat} {t:SetTable} (ho:s.heap.get? a=some o) (hx:o.ExactSet) (hd:o.data = .set es ep t)
  {eV:Array (Int×Value)} {t2:SetTable} (T:Tab prog w eV t2 zs) (hp:t2.plain=false) {c:Bool} {R:Option Bool->Shared->Prop}
  (k:∀ h',Heap.SameBut a s.heap h'->au prog w h' a zs->R (some true) {s with heap:=h'}) :
  wpAny (model prog w) A (do
   storeSet a eV t2
   if c=true then do
     g (relayAll t2 eV<|SetTable.grown eV.size).2.2
     storeSet a (relayAll t2 eV<|SetTable.grown eV.size).1 (relayAll t2 eV<|SetTable.grown eV.size).2.1
     pure (some true)
    else pure (some true)) R E s:=by
 refine BJ<|GJ ho hd ?_<|iW<|Bp T.eG;obtain⟨q1,q2⟩:=mM ho hx hd T;have sb:=CP s.heap a<|Obj.putSet eV t2;cases c with
 | false=>exact BK<|k _ sb q2
 | true=>
  have p:=relayAll_perm t2 eV<|SetTable.grown eV.size;have T3:=T.perm p (relayAll_fits t2 eV<|SetTable.grown eV.size) (Iu t2 eV _ hp).1<|.inr (Iu t2 eV _ hp).2;refine BJ<|hg _ _ _ ?_;refine BJ<|GJ q1 rfl ?_ (iW<|Bp T3.eG);exact BK<|k _ (sb.trans<|CP _ a _) (mM q1 hx rfl T3).2
def added(zs:List Str)(z:Str):List Str:=if z∈zs then zs else zs++[z]
theorem yj{z:Str}{tk:Tok}{Q:Bool->Shared->Prop}(S:au prog w s.heap a zs)(hb:zs.length+1 < 1000)
  (k:∀(b:Bool) h',Heap.SameBut a s.heap h'->au prog w h' a (added zs z)->Q b {s with heap:=h'}) :
  wpAny (model prog w) A (setAddHashed a (.str z tk)<|(strKind prog w).hash z) Q E s:=by
 obtain⟨o,es,ep,t,ho,hx,hd,T⟩:=S;unfold setAddHashed setAddHashedIn;refine CK<|BJ<|CG ho hd T.fits ?_
 dsimp only
 rw [byScan_of (knd:=strKind prog w) (x:= .str z tk) rfl T.scan T.elems];simp only [↓reduceIte];unfold setAddByScan;refine BJ<|BJ<|GX<|BJ<|wpAny_setScan_of (knd:=strKind prog w) (k:=z) (NK _ _ _ _) ho hd T.fits T.elems ?_
 by_cases hz:z∈zs
 ·obtain⟨j,hj,e,_⟩:=find_some T hz;rw [e]
  dsimp only
  refine BK<|BK<|k false s.heap (Heap.SameBut.refl a s.heap) ?_;unfold added;rw [BP hz];exact⟨o,es,ep,t,ho,hx,hd,T⟩
 ·rw [find_none T hz]
  dsimp only
  have gw:∀(b:Bool) (s₁:Shared) (Q':Unit->Shared->Prop),Q' () s₁->wpAny (model prog w) A (match b with | true=>rule "set.scan.the-table-gave-way" | false=>pure ()) Q' E s₁:=
   λb s₁ Q' q=>by cases b <;> first | exact BK q | exact GX q
  have p:=layNew_perm t es ((strKind prog w).hash z)<|.str z tk;have f:=layNew_fits t es ((strKind prog w).hash z)<|.str z tk;have l:=SG t es ((strKind prog w).hash z)<|.str z tk;generalize layNew t es ((strKind prog w).hash z) (.str z tk)=L at p f l ⊢;obtain⟨eV,t1,wd,gv⟩:=L
  dsimp only at p f l ⊢
  rw [Array.toList_push] at p;have tab:∀ t2:SetTable,t2.fits eV.size=true->t2.led=t1.led->t2.plain=false->Tab prog w eV t2 (zs++[z]):=λt2 h1 h2 h3=>{
   elts:=λe he=>by
    rcases An.mp (p.mem_iff.mp he) with he | he
    ·exact T.elts e he
    ·exact⟨z,tk,Ah.mp he⟩
   keys:=by
    refine(p.map keyOf).trans ?_;rw [Al];exact T.keys.append<|List.Perm.refl _
   nodup:=by
    rw [Bv];refine⟨T.nodup,by simp,λx hx y hy e=>?_⟩;rw [Ah] at hy;subst hy e;exact hz hx
   few:=by rw [Ag];exact hb
   fits:=h1
   led:=h2.trans<|l.trans T.led
   plain:= .inr h3}
  have fin:∀ h',Heap.SameBut a s.heap h'->au prog w h' a (zs++[z])->Q true {s with heap:=h'}:=λh' q1 q2=>k true h' q1 (by unfold added;rw [BL hz];exact q2);refine BJ<|gw _ _ _ ?_
  split
  ·rename_i hp;refine BJ ?_;rw [hashByValue_scannable 8 rfl];refine BK ?_;refine Iv gw ho hx hd (tab {t1 with plain:=false} (SetTable.fits_plain_off f) rfl rfl) rfl λh' q1 q2=>?_
   dsimp only
   exact BK<|fin h' q1 q2
  ·rename_i hp;refine BJ<|BK ?_;simp only [↓reduceIte];refine Iv gw ho hx hd (tab t1 f rfl (Dz.mpr hp)) (Dz.mpr hp) λh' q1 q2=>?_
   dsimp only
   exact BK<|fin h' q1 q2
theorem Iw{z:Str}{tk:Tok}{Q:Option Nat->Shared->Prop}{o:Obj}{es:Array (Int×Value)}{ep:Nat}{t:SetTable}(ho:s.heap.get? a=some o)(hd:o.data = .set es ep t)(T:Tab prog w es t zs)
  (k0:z∉zs->Q none s) (k1:∀ j,(hj:j < es.toList.length)->keyOf es.toList[j]=z->Q (some j) s):wpAny (model prog w) A (setFind a (.str z tk)<|(strKind prog w).hash z) Q E s:=by
 unfold setFind setFindIn;refine BJ<|CG ho hd T.fits ?_
 dsimp only
 rw [byScan_of (knd:=strKind prog w) (x:= .str z tk) rfl T.scan T.elems];simp only [↓reduceIte];refine BJ<|GX<|BJ<|wpAny_setScan_of (knd:=strKind prog w) (k:=z) (NK _ _ _ _) ho hd T.fits T.elems ?_
 by_cases hz:z∈zs
 ·obtain⟨j,hj,e,q⟩:=find_some T hz;rw [e]
  dsimp only
  rw [Ec];exact BK<|k1 j hj q
 ·rw [find_none T hz];exact BK<|k0 hz
theorem tW{α:Type}(xs:Array α)(i:Nat):(SetTable.eraseAt xs i).toList=xs.toList.eraseIdx i:=by
 unfold SetTable.eraseAt;rw [Array.toList_append,Array.toList_extract,Array.toList_extract,List.eraseIdx_eq_take_drop_succ];simp [List.extract_eq_drop_take];exact Ci<|by simp
theorem bB{α:Type}:∀(l:List α) (j:Nat) (hj:j < l.length),(l[j] :: l.eraseIdx j).Perm l
 | [],_,h=>by simp at h
 | x :: r,0,_=>List.Perm.refl _
 | x :: r,j+1,h=>(List.Perm.swap x _ _).trans<|(bB r j<|Gf h).cons x
theorem SK{t:SetTable}{n i:Nat}(h:t.fits n=true)(hi:i < n):(t.drop i).fits (n - 1)=true/\(t.drop i).led=t.led/\(t.drop i).plain=t.plain:=by
 unfold SetTable.fits at h;rw [By,KC,DR] at h;have oG:i < t.place.size:=by rw [h.1];exact hi
 unfold SetTable.drop;rw [Dd oG]
 dsimp only
 refine⟨?_,rfl,rfl⟩;have e1:(SetTable.eraseAt t.place i).size=n - 1:=by
  rw [<- Bs,tW,Cp,Bs,BP oG,h.1]
 have e2:∀ j,(SetTable.insertAt t.dummies (SetTable.below t.dummies j) j).size=t.dummies.size+1:=λj=>by
  have:=(SetTable.insertAt_perm t.dummies (SetTable.below t.dummies j) j).length_eq
  simpa using this
 have h2:=h.2;unfold SetTable.fill at h2;unfold SetTable.fits SetTable.fill
 dsimp only
 rw [e1,e2];simp only [KZ,Hb,DR];omega
theorem SL{z:Str}{tk:Tok}{Q:Bool->Shared->Prop}(S:au prog w s.heap a zs)
  (k0:z∉zs->Q false s) (k1:∀ h',z∈zs->Heap.SameBut a s.heap h'->au prog w h' a (zs.erase z)->Q true {s with heap:=h'}) :
  wpAny (model prog w) A (setDiscardHashed a (.str z tk)<|(strKind prog w).hash z) Q E s:=by
 obtain⟨o,es,ep,t,ho,hx,hd,T⟩:=S;unfold setDiscardHashed;refine BJ<|Iw ho hd T (λhz=>?_) λj hj e=>?_
 ·exact BK<|k0 hz
 ·dsimp only
  have mN:j < es.size:=by simpa using hj
  have hz:z∈zs:=T.keys.mem_iff.mp<|Aj.mpr ⟨_,Bn hj,e⟩;obtain⟨f1,f2,f3⟩:=SK T.fits mN;have pz:(keyOf es.toList[j] :: (es.toList.eraseIdx j).map keyOf).Perm zs:=by
   refine List.Perm.trans ?_ T.keys;rw [<- Bj];exact(bB _ j hj).map keyOf
  rw [e] at pz;have T':Tab prog w (SetTable.eraseAt es j) (t.drop j) (zs.erase z):={
   elts:=λx hx=>by
    rw [tW] at hx;exact T.elts x<|Ey hx
   keys:=by
    rw [tW];refine List.Perm.cons_inv (a:=z)<|pz.trans ?_;exact List.perm_cons_erase hz
   nodup:=T.nodup.erase z
   few:=Fy (List.length_erase_le) T.few
   fits:=by
    have:(SetTable.eraseAt es j).size=es.size - 1:=by
     rw [<- Bs,tW,Cp,Bs,BP mN]
    rw [this];exact f1
   led:=f2.trans T.led
   plain:=by
    rcases T.plain with q | q
    ·subst q;simp at mN
    ·exact .inr (f3.trans q)}
  refine BJ<|CG ho hd T.fits ?_
  dsimp only
  refine BJ<|GJ ho hd ?_<|iW<|Bp T'.eG;refine BJ<|wpAny_point<|BK<|k1 _ hz (CP _ a _) (mM ho hx hd T').2
theorem Iy{α:Type}(next:Nat->Nat):∀(fuel k:Nat) (left:List α) (out:Array α),left.length<=fuel->(pickOrder.go next fuel k left out).toList.Perm (out.toList++left)
 | 0,k,left,out,h=>by
  have:left=[]:=Bi.mp (by omega);subst this;unfold pickOrder.go;simp
 | fuel+1,k,left,out,h=>by
  unfold pickOrder.go;cases e:left[next k % left.length]? with
  | none=>
   have:left=[]:=by
    cases left with
    | nil=>rfl
    | cons x r=>
     have hl:next k % (x :: r).length < (x :: r).length:=Gz _ (by simp);rw [Aa hl] at e;cases e
   subst this;simp
  | some x=>
   dsimp only
   obtain⟨hl,e2⟩:=Ac.mp e;refine(Iy next fuel (k+1) _ _ (by rw [Cp,BP hl];omega)).trans ?_;rw [Array.toList_push,Ar];refine LK _ ?_;have:=bB left _ hl;rw [e2] at this;exact this
theorem Iz{α:Type}(next:Nat->Nat)(xs:Array α):(pickOrder next xs).toList.Perm xs.toList:=by
 have:=Iy next xs.size 0 xs.toList #[] (by simp)
 simpa [pickOrder] using this
theorem wp_choose{src:Source}{n:Nat}{Q:Nat->Shared->Prop}(hn:n≠0)(h:∀ i d,i < n->Q i {s with drawn:=d}):wpAny (model prog w) A (choose src n) Q E s:=
 λΓ p _=>⟨hn,h _ _<|Gz _<|Nat.pos_of_ne_zero hn⟩
theorem yk{α:Type}:∀(n:Nat) (xs:List α) (s:Shared) (Q:List α->Shared->Prop),xs.length<=n->(∀ ys d,ys.Perm xs->Q ys {s with drawn:=d})->wpAny (model prog w) A (drawOrder n xs) Q E s
 | 0,xs,s,Q,h,k=>by
  have:xs=[]:=Bi.mp (by omega);subst this;unfold drawOrder;exact BK<|k [] s.drawn<|List.Perm.refl _
 | n+1,[],s,Q,h,k=>by
  unfold drawOrder;exact BK<|k [] s.drawn<|List.Perm.refl _
 | n+1,x :: r,s,Q,h,k=>by
  unfold drawOrder;refine BJ (wp_choose (by simp) λi d hi=>?_);rw [Aa hi]
  dsimp only
  refine BJ (yk n _ _ _ (by rw [Cp,BP hi];omega) λys d2 p=>?_);exact BK<|k _ d2<|(p.cons _).trans<|bB _ i hi
theorem wp_text{Q:Bool->Shared->Prop}(k:Q (cj w) s):wpAny (model prog w) A setsByText Q E s:=by
 unfold setsByText;exact BJ<|JM<|BK k
variable{o:Obj}{es:Array (Int×Value)}{ep:Nat}{t:SetTable}
theorem SR{Q:Array (Int×Value)->Shared->Prop}(ho:s.heap.get? a=some o)(hd:o.data = .set es ep t)(T:Tab prog w es t zs)
  (k:∀ ws d,ws.toList.Perm es.toList->Q ws {s with drawn:=d}):wpAny (model prog w) A (setWalk a) Q E s:=by
 unfold setWalk;refine BJ<|CG ho hd T.fits ?_
 dsimp only
 refine BJ<|wp_text ?_;cases hb:cj w with
 | true=>
  simp only [DK];refine BJ<|JM ?_;exact BK<|k _ s.drawn<|Iz _ _
 | false=>
  simp only [Az,CT];show wpAny _ _ (if(!t.plain && decide (es.size > 1))=true then _ else _) _ _ _
  split
  ·refine BJ (yk _ _ _ _ (by simp) λys d p=>?_);exact BK<|k _ d<|by simpa using p
  ·refine BJ ?_;show wpAny _ _ (if(!t.led && decide (es.size > 1))=true then _ else _) _ _ _;rw [BL<|by rw [T.led,hb];simp];exact BK<|BK<|k _ s.drawn<|List.Perm.refl _
theorem SU{Q:Bool->Shared->Prop}(l:List Addr)(hl:∀ b∈l,∃ ys,au prog w s.heap b ys)(k:Q true s):wpAny (model prog w) A (setsQuiet l) Q E s:=by
 unfold setsQuiet;refine BJ<|wpAny_forIn_list _ (λrest b s'=>b.1=none/\s'=s/\∀ c∈rest,∃ ys,au prog w s.heap c ys) _ ?_ ?_ l _ ⟨rfl,rfl,hl⟩
 ·rintro x rest b s' ⟨hb,rfl,hr⟩;obtain⟨ys,o,es,ep,t,ho,hx,hd,T⟩:=hr x Ad;refine BJ<|JR ho hd T.fits ?_;refine BJ<|QB _ (λrest b pZ=>b.1=none/\pZ=s'/\∀ e∈rest,ll prog w e) _ ?_ ?_ es _ ⟨rfl,rfl,T.elts⟩
  ·rintro e r2 b2 s2 ⟨kc,rfl,he⟩;obtain⟨z,u,rfl⟩:=he _ Ad;exact BK ⟨rfl,rfl,λe h=>he e<|Ae _ h⟩
  ·rintro ⟨_,_⟩ s2 ⟨rfl,rfl,_⟩;exact BK ⟨rfl,rfl,λc h=>hr c<|Ae _ h⟩
 ·rintro ⟨_,_⟩ s' ⟨rfl,rfl,_⟩;exact BK k
theorem SV{f:Addr}{zf:List Str}{Q:Array (Int×Value)->Shared->Prop}(ho:s.heap.get? a=some o)(hx:o.ExactSet)(hd:o.data = .set es ep t)(T:Tab prog w es t zs)(Sf:au prog w s.heap f zf)
  (k:∀ ws h' d,ws.toList.Perm es.toList->Heap.SameBut f s.heap h'->au prog w h' f zf->Q ws {s with heap:=h',drawn:=d}):wpAny (model prog w) A (setWalkUnseen a [f]<|some f) Q E s:=by
 unfold setWalkUnseen;refine BJ<|CG ho hd T.fits ?_
 dsimp only
 refine BJ<|wp_text ?_
 split
 ·exact SR ho hd T λws d p=>k ws s.heap d p (Heap.SameBut.refl _ _) Sf
 ·rename_i hn;have hb:cj w=false:=by
   cases e:cj w with
   | false=>rfl
   | true=>rw [e] at hn;simp at hn
  refine BJ<|SU [a,f] (λb hb=>?_) ?_
  ·rcases Ak.mp hb with rfl | hb
   ·exact⟨zs,o,es,ep,t,ho,hx,hd,T⟩
   ·rw [Ah] at hb;subst hb;exact⟨zf,Sf⟩
  ·simp only [Dw,Az,CT];refine BJ<|GX ?_;obtain⟨of,ef,yl,tf,ym,SW,j3,Tf⟩:=id Sf;refine BJ<|CG ym j3 Tf.fits ?_
   dsimp only
   have T2:Tab prog w ef {tf with led:=tf.led && t.led,plain:=tf.plain && t.plain} zf:=
    ⟨Tf.elts, Tf.keys, Tf.nodup, Tf.few, Tf.fits, by show (tf.led && t.led) = _; rw [Tf.led, T.led]; simp, by
     rcases Tf.plain with q | q
     ·exact .inl q
     ·exact .inr<|by show(tf.plain && t.plain)=false;rw [q];rfl⟩
   split
   ·refine BJ<|GJ ym j3 ?_<|iW<|Bp Tf.eG;exact BK<|k es _ s.drawn (List.Perm.refl _) (CP _ f _) (mM ym SW j3 T2).2
   ·exact BK<|k es s.heap s.drawn (List.Perm.refl _) (Heap.SameBut.refl _ _) Sf
end
open Builtin.Frozenset
def mO(m:Nat):Bool:=m == 8 || m == 16 || m == 32 || m == 64 || m == 128
theorem SY{m:Nat}(h:mO m=true):Pow m:=by
 unfold mO at h;simp only [Bool.or_eq_true,KC] at h;unfold Pow;omega
theorem SZ:((List.range 64).all λn=>mO (SetTable.sizeAbove<|n * 2) && decide (n < SetTable.sizeAbove (n * 2)))=true:=by decide +kernel
theorem S0{n:Nat}(h:n < 64):Pow (SetTable.sizeAbove<|n * 2)/\n < SetTable.sizeAbove (n * 2):=by
 have q:=SZ;rw [Eh] at q;have:=q n<|Bm.mpr h;rw [By,DR] at this;exact⟨SY this.1,this.2⟩
theorem S6{es:Array (Int×Value)}{order:Array Nat}(p:order.toList.Perm<|List.range es.size):(order.filterMap (es[·]?)).toList.Perm es.toList:=by
 rw [Array.toList_filterMap];have:=p.filterMap λi=>es[i]?;rwa [filterMap_getElem?_range] at this
section
variable{prog:Program}{w:World}{A:Around}{E:Value->Shared->Prop}{s:Shared}{a:Addr}{zs:List Str}
structure dN(w:World)(t:SetTable):Prop where
 place:t.place=#[]
 dummies:t.dummies=#[]
 led:t.led = !cj w
 plain:t.plain=true
theorem dN.tab{t:SetTable}(B:dN w t):Tab prog w #[] t []:=
 ⟨λe he=>by simp at he,by simp,Cj,by decide,by unfold SetTable.fits SetTable.fill;rw [B.place,B.dummies];simp,B.led,.inl rfl⟩
theorem dN.fill{t:SetTable}(B:dN w t):t.fill=0:=by unfold SetTable.fill;rw [B.place,B.dummies];rfl
theorem S7{Q:Value->Shared->Prop}
  (k:∀ o,o.ExactSet->(∃ t,o.data = .set #[] 0 t/\dN w t/\t.mask=7)->o.isFreed=false->Q (.ref s.heap.objs.size) {s with heap:=s.heap.push o}):wpAny (model prog w) A (newSet<|.type "set") Q E s:=by
 unfold newSet;refine BJ<|wp_text ?_
 dsimp only
 simp only [newObj];refine BJ<|RW<|BK ?_;exact k _ ⟨rfl,rfl,rfl⟩ ⟨_,rfl,⟨rfl,rfl,rfl,rfl⟩,rfl⟩ rfl
variable{o:Obj}{ep:Nat}{t:SetTable}
theorem S8{n:Nat}{Q:Unit->Shared->Prop}(ho:s.heap.get? a=some o)(hx:o.ExactSet)(hd:o.data = .set #[] ep t)(B:dN w t)(hm:t.mask=7)(hn:n < 64)
  (k:∀ h' o' kS t',Heap.SameBut a s.heap h'->h'.get? a=some o'->o'.ExactSet->o'.data = .set #[] kS t'->dN w t'->Pow (t'.mask+1)->n<=t'.mask->Q () {s with heap:=h'}) :
  wpAny (model prog w) A (setRoomFor a n) Q E s:=by
 have T:Tab prog w #[] t []:=B.tab;unfold setRoomFor;refine BJ<|CG ho hd T.fits ?_
 dsimp only
 unfold SetTable.roomFor;rw [B.fill,hm]
 by_cases c:(0+n) * 5>=7 * 3
 ·rw [BP c]
  dsimp only
  have e0:(t.place.size+n) * 2=n * 2:=by rw [B.place];simp
  rw [e0];obtain⟨hp,hl⟩:=S0 hn;unfold setRelay;refine BJ<|CG ho hd T.fits ?_
  dsimp only
  have hle:SetTable.sizeAbove (n * 2)<=512:=hp.pos.2;have h8:8<=SetTable.sizeAbove (n * 2):=hp.pos.1;rw [BL<|by rw [FJ];omega];have em:SetTable.sizeAbove (n * 2) - 1+1=SetTable.sizeAbove (n * 2):=by omega
  obtain⟨t',order,e,p,f,l1,l2,l3,l4,l5⟩:=Ir (mask:=SetTable.sizeAbove (n * 2) - 1) (finger:=t.finger) (moves:=t.movedTo<|SetTable.sizeAbove (n * 2) - 1) (led:=t.led) (plain:=t.plain) (by rw [em];exact hp) (#[]:Array Int) (by simp);have er:t.relaid ((#[]:Array<|Int×Value).map (·.1)) (n * 2)=some (t',order):=by
   unfold SetTable.relaid;rw [show((#[]:Array<|Int×Value).map (·.1))=#[] by simp];exact e
  rw [er];have eo:order=#[]:=by
   have:=p.length_eq;simp at this;exact this
  subst eo;refine BJ ?_;show wpAny _ _ (if(((#[]:Array Nat).filterMap ((#[]:Array<|Int×Value)[·]?)).size != (#[]:Array<|Int×Value).size)=true then(unsupported "internal:set-table-lost-an-element" : Sem<|Array (Int×Value)×SetTable) else pure ((#[]:Array Nat).filterMap ((#[]:Array<|Int×Value)[·]?),t')) _ _ _;rw [BL<|by simp];refine BK ?_
  dsimp only
  have ee:((#[]:Array Nat).filterMap ((#[]:Array<|Int×Value)[·]?))=#[]:=by simp
  rw [ee];have B':dN w t':=⟨by
   have:=l5
   simpa using this,l4,l1.trans B.led,l2.trans B.plain⟩
  refine GJ ho hd ?_ (by simp);have q:=(mM ho hx hd<|B'.tab (prog:=prog)).1;exact k _ _ _ _ (CP _ a _) q hx rfl B' (by rw [l3,em];exact hp) (by rw [l3];omega)
 ·rw [BL c];exact BK<|k s.heap o ep t (Heap.SameBut.refl _ _) ho hx hd B (by rw [hm];exact .inl rfl)<|by rw [hm];omega
theorem S9{b:Addr}{each:Sem Unit}{Q:Unit->Shared->Prop}(ho:s.heap.get? a=some o)(hx:o.ExactSet)(hd:o.data = .set #[] ep t)(B:dN w t)(hm:t.mask=7)(fK:a≠b)(S:au prog w s.heap b zs)(hz:zs.length < 64)
  (k:∀ h',Heap.SameBut a s.heap h'->au prog w h' a zs->Q () {s with heap:=h'}):wpAny (model prog w) A (setMerge a b each) Q E s:=by
 obtain⟨ob,eo,epb,tb,tX,hxb,dJ,Tb⟩:=S;unfold setMerge;have e1:(a == b)=false:=by simpa using fK
 rw [e1];simp only [Az,CT];refine BJ<|CG tX dJ Tb.fits ?_
 dsimp only
 by_cases c:eo.isEmpty=true
 ·rw [BP c];have:eo=#[]:=by simpa using c
  subst this;have ez:zs=[]:=by
   have:=Tb.size;exact Bi.mp<|by simpa using this.symm
  subst ez;exact BK<|k s.heap (Heap.SameBut.refl _ _) ⟨o,#[],ep,t,ho,hx,hd,B.tab⟩
 ·rw [BL c];have hsz:eo.size < 64:=by rw [Tb.size];exact hz
  refine BJ<|S8 ho hx hd B hm hsz λh' o' kS t' sb c8 ip l7 B' hp hl=>?_;refine BJ<|CG c8 l7 (B'.tab (prog:=prog)).fits ?_
  dsimp only
  have ld:(t'.led && tb.led) = !cj w:=by rw [B'.led,Tb.led];simp
  have pl:tb.plain=false:=by
   rcases Tb.plain with q | q
   ·rw [q] at c;simp at c
   ·exact q
  unfold SetTable.road;rw [B'.fill];simp only [FT,Az,CT]
  by_cases c2:(t'.mask == tb.mask && tb.dummies.isEmpty)=true
  ·rw [BP c2]
   dsimp only
   have T2:Tab prog w eo {tb with finger:=t'.finger,led:=t'.led && tb.led,moves:=t'.moves,plain:=t'.plain && tb.plain} zs:=
    ⟨Tb.elts,Tb.keys,Tb.nodup,Tb.few,Tb.fits,ld,.inr<|by show(t'.plain && tb.plain)=false;rw [pl];simp⟩
   refine GJ c8 l7 ?_<|iW<|Bp Tb.eG;exact k _ (sb.trans<|CP _ a _) (mM c8 ip l7 T2).2
  ·rw [BL c2]
   dsimp only
   obtain⟨t2,order,e,p,f,l1,l2,l3,l4,l5⟩:=Ir (finger:=t'.finger) (moves:=t'.moves) (led:=t'.led && tb.led) (plain:=t'.plain && tb.plain) hp (eo.map (·.1)) (by simpa using hl);rw [e];have p2:order.toList.Perm (List.range eo.size):=by simpa using p
   have pp:=S6 p2;have ps:(order.filterMap (eo[·]?)).size=eo.size:=by
    have:=pp.length_eq;rwa [Bs,Bs] at this
   refine BJ ?_;show wpAny _ _ (if((order.filterMap (eo[·]?)).size != eo.size)=true then _ else pure (order.filterMap (eo[·]?),t2)) _ _ _;rw [BL<|by rw [ps];simp];refine BK ?_
   dsimp only
   have T2:Tab prog w (order.filterMap (eo[·]?)) t2 zs:=⟨λx hx=>Tb.elts x<|pp.mem_iff.mp hx,(pp.map keyOf).trans Tb.keys,Tb.nodup,Tb.few,by rw [ps];simpa using f,l1.trans ld,.inr<|l2.trans<|by rw [pl];simp⟩;refine GJ c8 l7 ?_<|iW<|Bp T2.eG;exact k _ (sb.trans<|CP _ a _) (mM c8 ip l7 T2).2
theorem tY{Q:Bool->Shared->Prop}(S:au prog w s.heap a zs)(k:Q true s):wpAny (model prog w) A (isAnySet<|.ref a) Q E s:=by
 unfold isAnySet;refine BJ<|JN S.typeIs sub_set_self ?_;exact BK k
theorem Ta{Q:Value->Shared->Prop}(S:au prog w s.heap a zs)(k:Q (.type "set") s):wpAny (model prog w) A (baseOf a) Q E s:=by
 unfold baseOf;refine BJ<|JN S.typeIs sub_set_self ?_;exact BK k
theorem IA{Q:Nat->Shared->Prop}(S:au prog w s.heap a zs)(k:∀ n,(∀ s':Shared,s'.heap.get? a=s.heap.get? a->∀ Q':Nat->Shared->Prop,Q' n s'->wpAny (model prog w) A (setEpoch a) Q' E s')->Q n s):wpAny (model prog w) A (setEpoch a) Q E s:=by
 obtain⟨o,es,ep,t,ho,hx,hd,T⟩:=S;exact KD ho hd T.fits<|k ep λs' e Q' q=>KD (e.trans ho) hd T.fits q
theorem Tc{b:Addr}{id:String}{Q:Value->Shared->Prop}(S:au prog w s.heap b zs)(hz:zs.length < 64)
  (k:∀ h',(∀ c o,s.heap.get? c=some o->h'.get? c=some o)->au prog w h' s.heap.objs.size zs->Q (.ref s.heap.objs.size) {s with heap:=h'}):wpAny (model prog w) A (newFrom id (.type "set")<|.ref b) Q E s:=by
 unfold newFrom;refine BJ<|S7 λo hx ⟨t,hd,B,hm⟩ hf=>?_;have ho:(s.heap.push o).get? s.heap.objs.size=some o:=As _ hf;have aS:b < s.heap.objs.size:=S.lt;have S':au prog w (s.heap.push o) b zs:=S.keep λo' e=>Af _ e;unfold addrOf;refine BJ<|BK<|BJ<|CK ?_;unfold updateFrom;refine BJ<|tY (s:={s with heap:=s.heap.push o}) S' ?_;simp only [DK];refine BJ<|BK ?_;unfold merge;refine BJ<|IA (s:={s with heap:=s.heap.push o}) S' λn _=>?_;refine S9 (s:={s with heap:=s.heap.push o}) ho hx hd B hm (Cr aS) S' hz λh' sb S2=>?_;refine BK<|k h' (λc u e=>?_) S2;have hc:c≠s.heap.objs.size:=Bk<|Av e;rw [sb.2 c hc];exact Af _ e
def flipped(zs:List Str)(z:Str):List Str:=if z∈zs then zs.erase z else zs++[z]
theorem yn{zs:List Str}(hn:zs.Nodup)(z y:Str):y∈flipped zs z↔(if y=z then y∉zs else y∈zs):=by
 unfold flipped
 by_cases c:z∈zs
 ·rw [BP c,hn.mem_erase_iff]
  by_cases e:y=z
  ·subst e;simp [c]
  ·simp [e]
 ·rw [BL c,An,Ah]
  by_cases e:y=z
  ·subst e;simp [c]
  ·simp [e]
theorem Td(zs:List Str)(z:Str):(flipped zs z).length<=zs.length+1:=by
 unfold flipped
 split
 ·exact Gg<|List.length_erase_le
 ·simp
theorem IB:∀(ps zs:List Str),zs.Nodup->ps.Nodup->∀ y,y∈ps.foldl flipped zs↔(if y∈ps then y∉zs else y∈zs)
 | [],zs,_,_,y=>by simp
 | p :: r,zs,hn,hp,y=>by
  rw [Bg] at hp;have xr:(flipped zs p).Nodup:=by
   unfold flipped
   split
   ·exact hn.erase p
   ·rename_i c;rw [Bv];exact⟨hn,by simp,λx hx y hy e=>by rw [Ah] at hy;subst hy e;exact c hx⟩
  rw [Cy,IB r _ xr hp.2 y]
  by_cases e:y=p
  ·subst e;rw [BL hp.1,yn hn,BP rfl,BP Ad]
  ·by_cases c:y∈r
   ·rw [BP c,BP<|Ae _ c,yn hn,BL e]
   ·rw [BL c,BL (λh=>by rcases Ak.mp h with h | h;exact e h;exact c h),yn hn,BL e]
end
theorem Te:entryFor table "set.__xor__" = some Builtin.«frozenset.__xor__»:=
 PB (id':= "frozenset.__xor__") (by kernel_rfl) rfl (by decide +kernel) (by kernel_rfl)
section
variable{prog:Program}{w:World}{A:Around}{E:Value->Shared->Prop}{s:Shared}{a r:Addr}{za zr:List Str}
theorem Tg{nm:String}{Q:Unit->Shared->Prop}(Sa:au prog w s.heap a za)(Sr:au prog w s.heap r zr)(tZ:a≠r)(hl:za.length+zr.length < 900)
  (k:∀ h' d (ws:List Str),ws.Perm za->Heap.SameBut r s.heap h'->au prog w h' r (ws.foldl flipped zr)->Q () {s with heap:=h',drawn:=d}):wpAny (model prog w) A (symmetricDifferenceUpdate nm r<|.ref a) Q E s:=by
 unfold symmetricDifferenceUpdate;have e1:(Value.ref a == Value.ref r)=false:=by
  refine Dz.mpr λh=>tZ ?_;have:=eq_of_beq h;exact Value.ref.inj this
 rw [e1];simp only [Az,CT];refine BJ<|JX Sa.typeIs ?_;rw [show(Value.type "set" == Value.type "dict")=false by decide];simp only [Az,CT];refine BJ<|tY Sa ?_;simp only [DK];refine BJ<|BK ?_;unfold addrOf;refine BJ<|BK ?_;refine BJ<|IA Sa λn hn=>?_;refine CK ?_;obtain⟨o,es,ep,t,ho,hx,hd,T⟩:=id Sa;refine BJ<|SV ho hx hd T Sr λws h1 d1 p sb S1=>?_;have pw:(ws.toList.map keyOf).Perm za:=(p.map keyOf).trans T.keys;have el:∀ e∈ws.toList,ll prog w e:=λe he=>T.elts e<|p.mem_iff.mp he;refine BJ<|QB _ (λrest _ s'=>∃ h' zz,s'={s with heap:=h',drawn:=d1}/\Heap.SameBut r s.heap h'/\au prog w h' r zz/\zz.length+rest.length < 900/\(∀ e∈rest,ll prog w e) /\
   (rest.map keyOf).foldl flipped zz=(ws.toList.map keyOf).foldl flipped zr) _ ?_ ?_ ws _ ⟨h1,zr,rfl,sb,S1,?_,el,rfl⟩
 ·rintro e rest b s' ⟨h',zz,rfl,oH,S',iX,he,hf⟩;obtain⟨z,tk,rfl⟩:=he _ Ad;have t6:∀ e∈rest,ll prog w e:=λe h=>he e<|Ae _ h;rw [Au] at iX;have IC:∀(h2:Heap) (Q':Nat->Shared->Prop),Heap.SameBut r s.heap h2->Q' n {s with heap:=h2,drawn:=d1}->wpAny (model prog w) A (setEpoch a) Q' E {s with heap:=h2,drawn:=d1}:=
   λh2 Q' q1 q2=>hn _ (q1.2 a tZ) Q' q2
  have fin:∀ h2 yo,Heap.SameBut r s.heap h2->au prog w h2 r yo->yo=flipped zz z->∃ h' yp,({s with heap:=h2,drawn:=d1}:Shared)={s with heap:=h',drawn:=d1}/\Heap.SameBut r s.heap h'/\au prog w h' r yp/\yp.length+rest.length < 900/\(∀ e∈rest,ll prog w e) /\
    (rest.map keyOf).foldl flipped yp=(ws.toList.map keyOf).foldl flipped zr:=by
   rintro h2 yo q1 q2 rfl;refine⟨h2,_,rfl,q1,q2,?_,t6,hf⟩;have:=Td zz z;omega
  dsimp only
  refine BJ<|CK<|BJ<|SL (s:={s with heap:=h',drawn:=d1}) S' (λhz=>?_) λh2 hz q1 q2=>?_
  ·simp only [SN,DK];refine BJ (yj (s:={s with heap:=h',drawn:=d1}) S' (by omega) λb h2 q1 q2=>BK ?_);unfold unchanged;refine BJ<|BJ<|IC h2 _ (oH.trans q1) ?_;simp only [FT,Az,CT];refine BK<|BK<|fin h2 _ (oH.trans q1) q2 ?_;unfold added flipped;rw [BL hz,BL hz]
  ·simp only [Dw,Az,CT];refine BK ?_;unfold unchanged;refine BJ<|BJ<|IC h2 _ (oH.trans q1) ?_;simp only [FT,Az,CT];refine BK<|BK<|fin h2 _ (oH.trans q1) q2 ?_;unfold flipped;rw [BP hz]
 ·rintro b s' ⟨h',zz,rfl,oH,S',_,_,hf⟩;have tQ:zz=(ws.toList.map keyOf).foldl flipped zr:=hf;subst tQ;exact BK<|k h' d1 _ pw oH S'
 ·have:=pw.length_eq;rw [Ab] at this;omega
theorem Ti{b:Addr}{zb:List Str}{Q:Value->Shared->Prop}(Sa:au prog w s.heap a za)(Sb:au prog w s.heap b zb)(ha:za.length < 64)(hb:zb.length < 64)
  (k:∀ h' d zc,(∀ c o,s.heap.get? c=some o->h'.get? c=some o)->au prog w h' s.heap.objs.size zc->(∀ y,y∈zc↔(if y∈za then y∉zb else y∈zb))->Q (.ref s.heap.objs.size) {s with heap:=h',drawn:=d}) :
  wpAny (model prog w) A (binaryOp .BitXor (.ref a)<|.ref b) Q E s:=by
 refine wpAny_binaryOp_same (op:= .BitXor) (T:= "set") Sa.typeIs Sb.typeIs F.fills_set_xor F.slot_set_xor<|CZ F.slot_set_xor Sa.typeIs Te ?_<|F.args_set_xor_2 _ _;show wpAny _ _ (slot1 "__xor__" ⟨[.ref a,.ref b],[]⟩ >>= _) _ _ _;unfold slot1 slotArgs;simp only [Gq,Dw,Az,↓reduceIte,bind_assoc,Au,Fh,FT];refine BJ<|BK ?_
 dsimp only
 refine BJ<|BK ?_
 dsimp only
 refine BJ<|BJ<|tY Sa ?_;refine tY Sb ?_;simp only [Dw,Az,CT];unfold addrOf;refine BJ<|BK ?_;refine BJ ?_;show wpAny _ _ (baseOf a >>= λc=>newFrom (toString "frozenset."++toString "__xor__") c (.ref b) >>= λres=>addrOf res >>= λq=>holding [res] (symmetricDifferenceUpdate (toString "frozenset."++toString "__xor__") q<|.ref a) >>= λ_=>pure res) _ _ _;refine BJ<|Ta Sa ?_;refine BJ<|Tc Sb hb λh1 k1 S1=>?_;unfold addrOf;refine BJ<|BK<|BJ<|CK ?_;have Tj:au prog w h1 a za:=Sa.keep<|k1 a;refine Tg (s:={s with heap:=h1}) Tj S1 (Bk Sa.lt) (by omega) λh2 d ws p sb S2=>?_;refine BK<|BK ⟨_,rfl,by simp,k h2 d _ (λc o e=>?_) S2 λy=>?_⟩
 ·rw [sb.2 c<|Bk<|Av e];exact k1 c o e
 ·rw [IB ws zb Sb.nodup (p.nodup_iff.mpr Sa.nodup) y];simp only [p.mem_iff]
end
def made(zs:List Str):List Str:=zs.foldl added []
theorem yq(zs:List Str)(z y:Str):y∈added zs z↔y∈zs\/y=z:=by
 unfold added
 split
 ·rename_i h;exact⟨.inl,λq=>q.elim id λe=>e ▸ h⟩
 ·rw [An,Ah]
theorem Tl(zs:List Str)(z:Str):(added zs z).length<=zs.length+1:=by
 unfold added
 split <;> simp
theorem IE:∀(ps zs:List Str) (y:Str),y∈ps.foldl added zs↔y∈zs\/y∈ps
 | [],zs,y=>by simp
 | p :: r,zs,y=>by
  rw [Cy,IE r,yq,Ak]
  constructor
  ·rintro ((h | h) | h)
   ·exact .inl h
   ·exact .inr<|.inl h
   ·exact .inr<|.inr h
  ·rintro (h | h | h)
   ·exact .inl<|.inl h
   ·exact .inl<|.inr h
   ·exact .inr h
theorem IG:∀(ps zs:List Str),(ps.foldl added zs).length<=zs.length+ps.length
 | [],zs=>by simp
 | p :: r,zs=>by
  rw [Cy,Au];have h1:=IG r<|added zs p;have h2:=Tl zs p;omega
theorem To(zs:List Str)(y:Str):y∈made zs↔y∈zs:=by
 unfold made;rw [IE];simp
theorem yr(zs:List Str):(made zs).length<=zs.length:=by
 have:=IG zs []
 simpa [made] using this
section
variable{prog:Program}{w:World}{A:Around}{E:Value->Shared->Prop}{s:Shared}
def fU(w:World):Obj:={cls:= .type "set",dict:=none,data:= .set #[] 0 (.fresh 0 0 (!cj w))}
theorem IH{h:Heap}{a:Addr}(e:h.get? a=some (fU w)):au prog w h a []:=⟨_,_,_,_,e,⟨rfl,rfl,rfl⟩,rfl,dN.tab ⟨rfl,rfl,rfl,rfl⟩⟩
theorem Tq(v:Value){Q:Value->Shared->Prop}(k:Q (.ref s.heap.objs.size) {s with heap:=s.heap.push (fU w)}) :
  codeAny (model prog w) A (.call (.builtin "set.__new__") ⟨[.type "set",v],[]⟩) (wants Q E) s:=by
 refine JT ?_;show wpAny _ A.in1 (checkBuiltinCall "set.__new__" ⟨[.type "set",v],[]⟩ >>= λ_=>again<|.builtin "set.__new__" ⟨[.type "set",v],[]⟩) _ _ s;refine BJ<|JD (F.newCall_set_1 v)<|BK ⟨GK F.plain_set_new _,DW F.entry_set_new ?_⟩;rw [DP F.plain_set_new _];unfold Builtin.«set.__new__» newClass
 dsimp only
 refine BJ<|BJ<|JD (show isType (.type "set")=pure true from rfl)<|BK ?_;simp only [Dw,Az,CT];unfold newSet;refine BJ<|BJ<|wp_text ?_
 dsimp only
 simp only [newObj];refine BJ<|RW<|BK ?_;exact BK k
variable{R:Result->Shared->Prop}{I:Addr}{fp wr:List Addr}{G:Array GenState->Array GenState->Prop}{n:Nat}{P:Nat->Value->Prop}{St:Nat->Shared->Prop}
theorem Tr(W:WalksS prog w A.in1 I fp wr G n P St)(a:Addr)(ha:a∉fp)(zs:List Str)(hn:zs.length=n)(mP:∀ i v,P i v->∃ z t,zs[i]?=some z/\v=Value.str z t)(hb:n < 900) :
  ∀(k i:Nat) (s:Shared),n - i=k->i<=n->St i s->au prog w s.heap a (made<|zs.take i)->(∀ s',Moved (a :: wr) G s s'->au prog w s'.heap a (made zs)->R (.ok<|.ret .none) s') ->
   codeAny (model prog w) A (.builtin "set.update.loop" ⟨[.ref a,.ref I],[]⟩) R s:=by
 have II:a∉wr:=λh=>ha<|W.sub _ h;have kd:∀ b∈wr,b∈a :: wr:=λb hb=>Ae _ hb;intro k
 induction k with
 | zero=>
  intro i s hk hi st S k2;have e:i=n:=by omega
  subst e;refine DW JZ ?_;rw [DP GZ _];show wpAny _ A.in1 (pyNext (.ref I) >>= _) _ _ s;refine BJ<|W.done s _ _ st λs' m=>?_;show wpAny _ A.in1 (ret Value.none) _ _ s';rw [Ci<|by omega] at S;exact BK<|k2 s' (m.mono kd)<|S.keep λo e=>m.heap a o II e
 | succ k ih=>
  intro i s hk hi st S k2;have aS:i < n:=by omega
  refine DW JZ ?_;rw [DP GZ _];show wpAny _ A.in1 (pyNext (.ref I) >>= _) _ _ s;refine BJ<|W.item i s _ _ aS st λv s' hP db m=>?_;obtain⟨z,t,hz,rfl⟩:=mP i v hP;have S':au prog w s'.heap a (made<|zs.take i):=S.keep λo e=>m.heap a o II e;show wpAny _ A.in1 (holding [Value.str z t] (setAdd a<|.str z t) >>= _) _ _ s';refine BJ<|CK ?_;unfold setAdd;refine CK<|BJ<|(strKind prog w).pyHash (k:=z) (NK _ _ _ _) ?_;have hl:(made<|zs.take i).length<=i:=Ce (yr _) (by rw [Br];omega);refine yj (s:={s' with toks:=s'.toks+1}) S' (by omega) λb h' sb S2=>?_;have S3:au prog w h' a (made<|zs.take<|i+1):=by
   rw [Do,hz];unfold made;rw [List.foldl_append];exact S2
  refine BK ⟨GK GZ _,ih (i+1) _ (by omega) aS (W.frame _ s' _ _ db (Ep _) λc hc o e=>?_) S3 λs2 m2 S4=>?_⟩
  ·rw [sb.2 c λh=>ha<|h ▸ hc];exact e
  ·refine k2 s2 (Moved.trans W.gtrans ((m.mono kd).then_heap (Ep _) λc o hc e=>?_) m2) S4;rw [sb.2 c λh=>hc<|h ▸ Ad];exact e
theorem Ts{Q:Value->Shared->Prop}{l:Addr}{items:Array Value}{zs:List Str}(hh:A.handled=none)(hl:s.heap.IsList l items)(hi:∀(i:Nat) v,items[i]?=some v->∃ z t,zs[i]?=some z/\v=Value.str z t)(hz:zs.length=items.size)(hb:items.size < 900)
  (k:∀ h' tk,(∀ b o,s.heap.get? b=some o->h'.get? b=some o)->au prog w h' s.heap.objs.size (made zs)->Q (.ref s.heap.objs.size) {s with heap:=h',toks:=tk}):wpAny (model prog w) A (call (.type "set") [.ref l]) Q E s:=by
 obtain⟨c,tl,yt⟩:=F.called_set.mro;have qj:=F.called_set.made;have kd:=F.called_set.sub;refine wpAny_call<|JT ?_;show wpAny _ _ (callAny (.type "set") _) _ _ _;refine BK ⟨Code.quiet_builtin _ (by decide +kernel),DW F.entry_type_call ?_⟩;rw [Around.under_plain (weight_type_call_type "set" [.ref l] []) rfl];have h1:=F.called_set.notType;have h2:=F.called_set.canCreate;have h3:=F.typeCall_set_1<|.ref l
 repeat (any_goals (first | assumption | wp_step))
 refine JG (Tq (.ref l) (E:=E) (Q:=λv s₁=>v = .ref s.heap.objs.size/\s₁={s with heap:=s.heap.push (fU w)}) ⟨rfl,rfl⟩) λr s₁ hr=>?_;cases r with
 | error e=>exact hr
 | ok fl=>
  cases fl with
  | ret v=>
   obtain⟨rfl,rfl⟩:=hr;have hS:(s.heap.push<|fU w).get? s.heap.objs.size=some (fU w):=As _ rfl;have hT:Shared.TypeIs {s with heap:=s.heap.push (fU w)} (.ref s.heap.objs.size) "set":=⟨_,hS,rfl⟩;have yu:=F.called_set.init.lookup;have yv:=F.called_set.init.bind<|.ref s.heap.objs.size
   repeat (any_goals (first | assumption | wp_step))
   refine JG (codeAny_call_builtin (R:=wants (λr s₂=>r = .none/\∃ h' tk,s₂={s with heap:=h',toks:=tk}/\(∀ b o,s.heap.get? b=some o->h'.get? b=some o)/\au prog w h' s.heap.objs.size (made zs)) E) F.called_set.init.plain F.entry_set_init<|check_set_init_1 hT ?_) λr2 s2 gA=>?_
   ·obtain⟨ol,qk,lq,nl,iu⟩:=hl;obtain⟨Tv,ql,IJ,mQ⟩:=ol;simp only at lq iu;subst lq iu;have yw:(s.heap.push<|fU w).get? l=some {cls:= .type "list",dict:=ql,data:= .seq items nl,slots:=mQ}:=Af _ qk;have n1:=F.sub_list_set;have n2:=F.sub_list_frozenset;have n3:(Value.type "list" == Value.type "dict")=false:=by decide
    have fv:(s.heap.push<|fU w).IsList l items:=⟨_,yw,rfl,nl,rfl⟩;have yx:(s.heap.push<|fU w).get? s.heap.objs.size=some {cls:= .type "set",dict:=none,data:= .set #[] 0 (.fresh 0 0 (!cj w))}:=hS;unfold Builtin.«set.__init__» noKeywords updateFrom;generalize Tw:pyIter=PI
    wp_walk
    subst Tw;refine QD fv ?_;refine BJ<|wpAny_runValue ?_;have aS:l < s.heap.objs.size:=Av qk;have bu:l≠(s.heap.push<|fU w).objs.size:=by
     rw [Ct];exact Bk<|Bp aS
    have Tx:s.heap.objs.size∉[(s.heap.push<|fU w).objs.size,l]:=by
     rw [Ct];intro h
     rcases Ak.mp h with h | h
     ·exact absurd h<|Bk<|Fq _
     ·rw [Ah] at h;exact absurd h<|Cr aS
    refine Tr ((Walks.list (by simp [hh]) _ l bu items).toS) s.heap.objs.size Tx zs hz (λi v hv=>hi i v hv) hb (items.size - 0) 0 _ (by omega) (Bq _)
     ⟨⟨_,As _ rfl,rfl,rfl⟩,(fv.push _)⟩ ?_ λs' m S'=>?_
    ·exact IH<|Af _ hS
    ·obtain⟨h',g',d',t7,wR⟩:=s';have eg:g'=s.gens:=m.gens;have ed:d'=s.drawn:=m.drawn;have eo:wR=s.os:=m.os;subst eg ed eo;refine BK ?_;refine BK ⟨rfl,h',t7,rfl,λb o e=>?_,S'⟩;have hb:=Av e;refine m.heap b o (λh=>?_)<|Af _<|Af _ e;rw [Ct] at h
     rcases Ak.mp h with h | h
     ·exact absurd h<|Bk hb
     ·rw [Ah] at h;exact absurd h<|Bk<|Bp hb
   ·cases r2 with
    | error e=>exact gA
    | ok Tz=>
     cases Tz with
     | ret r=>
      obtain⟨rfl,h',tk,rfl,q1,q2⟩:=gA
      repeat (any_goals (first | assumption | wp_step))
      exact k _ _ q1 q2
     | _=>exact gA.elim
  | _=>exact hr.elim
end
theorem slot_next:Slot "set_iterator" "__next__" "set_iterator.__next__":=
 .of (owner:= "set_iterator") (n:= "__next__") (by rw [RN,LQ];kernel_rfl) (by decide +kernel) (by decide +kernel) (by decide +kernel)
  (by first | exact .inl (by decide +kernel) | exact .inr<|by decide +kernel) (by rw [isSubtype_type];kernel_rfl)
theorem entry_next:entryFor table "set_iterator.__next__" = some Builtin.«set_iterator.__next__»:=entryFor_of_fast<|by kernel_rfl
theorem args_next(a:Value):argsOk "set_iterator.__next__" ⟨[a],[]⟩:=by unfold argsOk;kernel_rfl
theorem TB:entryFor table "set.__iter__" = some Builtin.«frozenset.__iter__»:=
 PB (id':= "frozenset.__iter__") (by kernel_rfl) rfl (by decide +kernel) (by kernel_rfl)
def jD(first:Value)(i:Nat)(a:Addr)(n ep:Nat):Obj:={cls:= .type "set_iterator",data:= .fields #[first,.int i 0,.ref a,.int n 0,.int ep 0]}
def eI(ys:List Nat):Obj:={cls:= .type "tuple",data:= .seq (ys.map λ(i:Nat)=>rawInt i).toArray}
inductive Way (w:World) (h:Heap) (a tp:Addr) (es:Array<|Int×Value) (ep:Nat) (t:SetTable) (ws:List<|Int×Value) (i:Nat):Value->Prop where
 | drawn (ys:List Nat) (ht:h.get? tp=some (eI ys)) (hl:ys.length=es.size) (hw:∀ j:Nat,∀ y,ys[j]?=some y->es[y]?=ws[j]?):Way w h a tp es ep t ws i<|.ref tp
 | text (c:Int) (hb:cj w=true) (hw:ws=(pickOrder (w.params.setOrder a ep) es).toList):Way w h a tp es ep t ws i<|.int c 0
 | one (c:Nat) (hb:cj w=false) (hs:es.size<=1) (hw:ws=es.toList) (hc:SetTable.below t.place c=i):Way w h a tp es ep t ws i<|.int c 0
section
variable{prog:Program}{w:World}{A:Around}{E:Value->Shared->Prop}{s:Shared}{a tp it:Addr}{zs:List Str}{o:Obj}{es:Array (Int×Value)}{ep:Nat}{t:SetTable}{ws:List (Int×Value)}{i:Nat}{first:Value}
theorem IL(j c:Nat):SetTable.below #[j] c=if j < c then 1 else 0:=by
 unfold SetTable.below;show SetTable.below.go #[j] c 1 0 1=_;unfold SetTable.below.go;simp only [Nat.zero_lt_one,DK];show(if(#[j]:Array Nat).getD 0 c < c then SetTable.below.go #[j] c 0 1 1 else SetTable.below.go #[j] c 0 0 0)=_;rw [show(#[j]:Array Nat).getD 0 c=j by rfl]
 split <;> rfl
theorem Way.keep{h h':Heap}(W:Way w h a tp es ep t ws i first)(k:∀ o,h.get? tp=some o->h'.get? tp=some o):Way w h' a tp es ep t ws i first:=by
 cases W with
 | drawn ys ht hl hw=>exact .drawn ys (k _ ht) hl hw
 | text c hb hw=>exact .text c hb hw
 | one c hb hs hw hc=>exact .one c hb hs hw hc
theorem qm{h:Heap}{n:Nat}(x:Value)(e:h.get? it=some (jD first i a n ep)):(h.update it (Obj.mapFields (·.setIfInBounds 0 x))).get? it=some (jD x i a n ep):=Ej _ e rfl
theorem up1{h:Heap}{n:Nat}(e:h.get? it=some (jD first i a n ep)):(h.update it (Obj.mapFields (·.setIfInBounds 1 (rawInt<|(i:Int)+1)))).get? it=some (jD first (i+1) a n ep):=Ej _ e rfl
theorem IM{p:Array Nat}(h:p.size=1):∃ j,p=#[j]:=by
 obtain⟨l⟩:=p
 match l,h with
 | [j],_=>exact⟨j,rfl⟩
theorem IP(T:Tab prog w es t zs):t.place.size=es.size:=by
 have:=T.fits;unfold SetTable.fits at this;rw [By,KC] at this;exact this.1
theorem TC{Q:Option Value->Shared->Prop}(hi:s.heap.get? it=some (jD first i a es.size ep))(ho:s.heap.get? a=some o)(hd:o.data = .set es ep t)(T:Tab prog w es t zs)(hW:Way w s.heap a tp es ep t ws i first)
  (bu:tp≠it) (hp:ws.Perm es.toList) {e:Int×Value} (he:ws[i]?=some e) (k:∀ h' iY,Heap.SameBut it s.heap h'->h'.get? it=some (jD iY (i+1) a es.size ep)->Way w h' a tp es ep t ws (i+1) iY->Q (some e.2) {s with heap:=h'}) :
  wpAny (model prog w) A (pyNext<|.ref it) Q E s:=by
 have hT:s.TypeIs (.ref it) "set_iterator":=⟨_,hi,rfl⟩;unfold pyNext;refine BJ<|KR<|HY (name:=Str.ofString "__next__") hT slot_next<|CZ slot_next hT entry_next ?_<|args_next _;unfold Builtin.«set_iterator.__next__»;refine BJ<|BK ?_;refine BJ<|PJ hi rfl ?_
 dsimp only
 refine BJ<|JR ho hd T.fits ?_;rw [BL<|by simp];have IQ:∀ x,Heap.SameBut it s.heap ((s.heap.update it (Obj.mapFields (·.setIfInBounds 0 x))).update it (Obj.mapFields (·.setIfInBounds 1 (rawInt<|(i:Int)+1)))):=λx=>(CP ..).trans<|CP ..;have iZ:i < es.size:=by
  have h1:ws.length=es.size:=by simpa using hp.length_eq
  rcases Db i ws.length with h | h
  ·omega
  ·rw [Bb h] at he;cases he
 have IT:Heap.SameBut it s.heap (s.heap.update it (Obj.mapFields (·.setIfInBounds 1 (rawInt<|(i:Int)+1)))):=CP ..;cases hW with
 | drawn ys ht hl hw=>
  dsimp only
  have hy:ys[i]?=some (ys[i]'(by omega)):=Aa _;generalize ys[i]'(by omega)=y at hy;refine BJ<|wpAny_seqItems ht rfl ?_
  dsimp only
  have e1:(ys.map λ(i:Nat)=>rawInt i).toArray[(i:Int).toNat]?=some (.int y 0):=by
   rw [Bd,SQ,Ai,hy];rfl
  rw [e1]
  dsimp only
  unfold setNextDrawn;refine BJ<|BJ<|CG ho hd T.fits ?_
  dsimp only
  rw [BL<|by simp];have e2:es[(y:Int).toNat]?=some e:=by
   rw [Bd,hw i y hy];exact he
  rw [e2]
  dsimp only
  refine BK (BJ<|FQ hi rfl (by simp) ?_);refine BK ⟨_,rfl,BK<|k _ _ IT (up1 hi)<|.drawn ys ?_ hl hw⟩;rw [IT.2 tp bu];exact ht
 | text c hb hw=>
  dsimp only
  unfold setNext;refine BJ<|BJ<|CG ho hd T.fits ?_
  dsimp only
  refine BJ<|wp_text ?_;rw [hb];simp only [DK];rw [BL<|by simp];unfold setWalk;refine BJ<|BJ<|CG ho hd T.fits ?_
  dsimp only
  refine BJ<|wp_text ?_;rw [hb];simp only [DK];refine BJ<|JM ?_;refine BK ?_;have e1:(pickOrder ((model prog w).w.params.setOrder a ep) es)[(i:Int).toNat]?=some e:=by
   rw [Bd,<- Ca];show(pickOrder (w.params.setOrder a ep) es).toList[i]?=_;rw [<- hw];exact he
  rw [e1];refine BK ?_
  dsimp only [Option.map]
  refine BJ (FQ hi rfl (by simp) ?_);refine BJ (FQ (qm _ hi) rfl (by simp) ?_);exact BK ⟨_,rfl,BK<|k _ _ (IQ _) (up1<|qm _ hi)<|.text _ hb hw⟩
 | one c hb hs hw hc=>
  have TD:i=0:=by omega
  have oI:es.size=1:=by omega
  subst TD;have t8:t.place.size=1:=(IP T).trans oI;obtain⟨j,hj⟩:=IM t8
  dsimp only
  unfold setNext;refine BJ<|BJ<|CG ho hd T.fits ?_
  dsimp only
  refine BJ<|wp_text ?_;rw [hb];simp only [Az,CT];show wpAny _ _ (if(!t.plain && decide (es.size > 1))=true then _ else _) _ _ _;rw [BL<|by rw [oI];simp];refine BJ ?_;show wpAny _ _ (if(!t.led && !es.isEmpty)=true then _ else _) _ _ _;rw [BL<|by rw [T.led,hb];simp];refine BK ?_;rw [Bd,hc];have e1:es[0]?=some e:=by
   rw [<- Ca,<- hw];exact he
  have e2:t.place[0]?=some j:=by rw [hj];rfl
  rw [e1,e2];refine BK ?_
  dsimp only
  refine BJ (FQ hi rfl (by simp) ?_);refine BJ (FQ (qm _ hi) rfl (by simp) ?_);refine BK ⟨_,rfl,BK<|k _ _ (IQ _) (up1<|qm _ hi)<|.one (j+1) hb hs hw ?_⟩;rw [hj,IL,BP<|Fq _]
theorem TH{Q:Option Value->Shared->Prop}(hh:A.handled=none)(hi:s.heap.get? it=some (jD first i a es.size ep))(ho:s.heap.get? a=some o)(hd:o.data = .set es ep t)(T:Tab prog w es t zs)(hW:Way w s.heap a tp es ep t ws i first)
  (hp:ws.Perm es.toList) (he:i=es.size) (k:∀ h',Heap.ExtBut it s.heap h'->Q none {s with heap:=h'}) :
  wpAny (model prog w) A (pyNext<|.ref it) Q E s:=by
 have hT:s.TypeIs (.ref it) "set_iterator":=⟨_,hi,rfl⟩;have wl:ws.length=es.size:=by simpa using hp.length_eq
 unfold pyNext;refine BJ<|KR<|HY (name:=Str.ofString "__next__") hT slot_next<|CZ slot_next hT entry_next ?_<|args_next _;unfold Builtin.«set_iterator.__next__»;refine BJ<|BK ?_;refine BJ<|PJ hi rfl ?_
 dsimp only
 refine BJ<|JR ho hd T.fits ?_;rw [BL<|by simp];have fin:∀ h2:Heap,Heap.SameBut it s.heap h2->wpAny (model prog w) A.in1 (newExc (Value.type "StopIteration") [] >>= λx=>(raiseNew x:Sem Fin)) (λfin s'=>∃ v,fin=Fin.done (Flow.ret v)/\wpAny (model prog w) A (pure<|some v) Q E s')
   (λe s'=>wpAny (model prog w) A (isInstance e (Value.type "StopIteration") >>= λb=>if b=true then pure none else throw e) Q E s') {s with heap:=h2}:=by
  intro h2 sb;refine BJ ?_;simp only [newExc,newTuple];refine BJ (DG ?_<|by size_fits);refine BJ (m:=firstArgMember _ _) (JD (a:=Value.none) (by first | rfl | (simp only [firstArgMember];rfl)) ?_);refine DG ?_ (by size_fits);simp only [raiseNew];refine BJ<|wpAny_handled ?_;rw [show A.in1.handled=none from hh];refine BJ<|BK<|wpAny_throw ?_;refine BJ<|JN (T:= "StopIteration") (b:=true) ⟨_,As _ rfl,rfl⟩ isSubtype_stop ?_;exact BK<|k _<|(sb.extBut.push _).push _
 cases hW with
 | drawn ys ht hl hw=>
  dsimp only
  refine BJ<|wpAny_seqItems ht rfl ?_
  dsimp only
  have e1:(ys.map λ(i:Nat)=>rawInt i).toArray[(i:Int).toNat]?=none:=by
   rw [Bd,SQ,Bb];rw [Ab];omega
  rw [e1]
  dsimp only
  refine BJ (FQ hi rfl (by simp) ?_);refine BJ (FQ (qm _ hi) rfl (by simp) ?_);exact fin _<|(CP ..).trans<|CP ..
 | text c hb hw=>
  dsimp only
  unfold setNext;refine BJ<|BJ<|CG ho hd T.fits ?_
  dsimp only
  refine BJ<|wp_text ?_;rw [hb];simp only [DK];rw [BL<|by simp];unfold setWalk;refine BJ<|BJ<|CG ho hd T.fits ?_
  dsimp only
  refine BJ<|wp_text ?_;rw [hb];simp only [DK];refine BJ<|JM ?_;refine BK ?_;have e1:(pickOrder ((model prog w).w.params.setOrder a ep) es)[(i:Int).toNat]?=none:=by
   rw [Bd,<- Ca];show(pickOrder (w.params.setOrder a ep) es).toList[i]?=_;rw [<- hw,Bb];omega
  rw [e1];refine BK ?_
  dsimp only [Option.map]
  refine BJ (FQ hi rfl (by simp) ?_);exact fin _<|CP ..
 | one c hb hs hw hc=>
  dsimp only
  unfold setNext;refine BJ<|BJ<|CG ho hd T.fits ?_
  dsimp only
  refine BJ<|wp_text ?_;rw [hb];simp only [Az,CT];show wpAny _ _ (if(!t.plain && decide (es.size > 1))=true then _ else _) _ _ _;rw [BL<|by rw [BR<|by omega];simp];refine BJ ?_;show wpAny _ _ (if(!t.led && !es.isEmpty)=true then _ else _) _ _ _;rw [BL<|by rw [T.led,hb];simp];refine BK ?_;rw [Bd,hc];have e1:es[i]?=none:=Ed (by omega);rw [e1];refine BK ?_
  dsimp only
  refine BJ (FQ hi rfl (by simp) ?_);exact fin _<|CP ..
open PySem.Spec
theorem IU:Slot "set_iterator" "__iter__" "set_iterator.__iter__":=
 .of (owner:= "set_iterator") (n:= "__iter__") (by rw [RN,LQ];kernel_rfl) (by decide +kernel) (by decide +kernel) (by decide +kernel)
  (by first | exact .inl (by decide +kernel) | exact .inr<|by decide +kernel) (by rw [isSubtype_type];kernel_rfl)
theorem TK:entryFor table "set_iterator.__iter__" = some Builtin.«dict_keyiterator.__iter__»:=
 PB (id':= "dict_keyiterator.__iter__") (by kernel_rfl) rfl (by decide +kernel) (by kernel_rfl)
theorem TL(a:Value):argsOk "set_iterator.__iter__" ⟨[a],[]⟩:=by unfold argsOk;kernel_rfl
theorem TR(hh:A.handled=none)(h1:a≠it)(h2:tp≠it)(hd:o.data = .set es ep t)(T:Tab prog w es t zs)(hp:ws.Perm es.toList) :
  Walks prog w A it [it,a,tp] [it] es.size (λi v=>∃ e,ws[i]?=some e/\v=e.2) (λi h=>∃ first,h.get? it=some (jD first i a es.size ep)/\h.get? a=some o/\Way w h a tp es ep t ws i first) where
 sub:=λb hb=>by simp at hb;simp [hb]
 frame:=λi h h' ⟨first,q1,q2,q3⟩ k=>⟨first,k it (by simp) _ q1,k a (by simp) _ q2,q3.keep<|k tp<|by simp⟩
 item:=λi s Q E hi ⟨first,q1,q2,q3⟩ k=>by
  have wl:ws.length=es.size:=by simpa using hp.length_eq
  obtain⟨e,he⟩:∃ e,ws[i]?=some e:=⟨ws[i]'(by omega),Aa _⟩;refine TC q1 q2 hd T q3 h2 hp he λh' f' sb g1 g2=>?_;exact k _ h' s.toks ⟨e,he,rfl⟩ ⟨f',g1,by rw [sb.2 a h1];exact q2,g2⟩ λb o hb e=>by rw [sb.2 b λh=>hb<|by simp [h]];exact e
 done:=λs Q E ⟨first,q1,q2,q3⟩ k=>TH hh q1 q2 hd T q3 hp rfl λh' e=>k h' s.toks λb o hb e2=>e b o (λh=>hb<|by simp [h]) e2
 self:=λi s Q E ⟨first,q1,q2,q3⟩ k=>by
  have hT:s.TypeIs (.ref it) "set_iterator":=⟨_,q1,rfl⟩;refine KH hT IU<|CZ IU hT TK ?_<|TL _;show wpAny _ _ (ret<|.ref it) _ _ s;exact BK ⟨_,rfl,"set_iterator",_,hT,slot_next.lookup,k⟩
theorem TU(es:Array<|Int×Value):(List.range es.size).map (λy=>(es[y]?).getD (0,Value.none))=es.toList:=by
 refine QS (by simp) λj h1 h2=>?_;rw [Dj,Fd];have:j < es.size:=by simpa using h2
 rw [Dd this];simp
theorem T1{Q:Value->Shared->Prop}(ho:s.heap.get? a=some o)(hx:o.ExactSet)(hd:o.data = .set es ep t)(T:Tab prog w es t zs)
  (k:∀ h' d it tp ws first,(∀ b u,s.heap.get? b=some u->h'.get? b=some u)->s.heap.objs.size<=it->it < h'.objs.size->tp < h'.objs.size->(tp=a\/s.heap.objs.size<=tp)->tp≠it->h'.get? it=some (jD first 0 a es.size ep)->Way w h' a tp es ep t ws 0 first->ws.Perm es.toList->Q (.ref it) {s with heap:=h',drawn:=d}) :
  wpAny (model prog w) A (pyIter<|.ref a) Q E s:=by
 have hT:s.TypeIs (.ref a) "set":=⟨o,ho,hx.1⟩;have aS:a < s.heap.objs.size:=Av ho;refine KH hT F.slot_set_iter<|CZ F.slot_set_iter hT TB ?_<|F.args_set_iter_1 _;unfold Builtin.«frozenset.__iter__» slot0 slotArgs;simp only [Gq,Dw,Az,↓reduceIte,bind_assoc,Fh,FT];unfold addrOf Builtin.Frozenset.sizeOf;refine BJ<|BK ?_;refine BJ<|BK ?_;refine BJ<|BJ<|JR ho hd T.fits<|BK ?_;unfold setDrawn;refine BJ<|BJ<|CG ho hd T.fits ?_
 dsimp only
 refine BJ<|wp_text ?_;refine BK ?_
 by_cases c:(!cj w && (!t.plain && decide (es.size > 1)))=true
 ·show wpAny _ _ (if(!cj w && (!t.plain && decide (es.size > 1)))=true then _ else _) _ _ _;rw [BP c];refine BJ (yk _ _ _ _ (by simp) λys d p=>?_);have qo:ys.length=es.size:=by simpa using p.length_eq
  refine BJ (PK ?_<|by rw [Ab,qo];exact iW<|Bp T.eG);have o1:(s.heap.push<|eI ys).get? a=some o:=Af _ ho;refine BJ<|KD (s:={s with heap:=s.heap.push<|eI ys,drawn:=d}) o1 hd T.fits ?_;refine BJ<|DG<|BK ⟨_,rfl,"set_iterator",_,⟨_,As _ rfl,rfl⟩,slot_next.lookup,?_⟩;have oI:(s.heap.push<|eI ys).objs.size=s.heap.objs.size+1:=Ct ..;refine k _ d _ s.heap.objs.size (ys.map λy=>(es[y]?).getD (0,Value.none)) (.ref s.heap.objs.size) (λb u e=>Af _<|Af _ e) (by show s.heap.objs.size<=(s.heap.push<|eI ys).objs.size;omega) ?_ ?_ (.inr<|Am _) ?_ (As _ rfl) ?_ ?_
  ·show(s.heap.push<|eI ys).objs.size < ((s.heap.push<|eI ys).push _).objs.size;simp only [Ct];omega
  ·show s.heap.objs.size < ((s.heap.push<|eI ys).push _).objs.size;rw [Ct,oI];omega
  ·show s.heap.objs.size≠(s.heap.push<|eI ys).objs.size;omega
  ·refine .drawn ys (Af _<|As _ rfl) qo λj y hy=>?_;have hm:y < es.size:=by
    have:=p.mem_iff.mp<|Ap hy
    simpa using this
   rw [Ai,hy];show _=some ((es[y]?).getD (0,Value.none));rw [Dd hm];rfl
  ·have:=p.map λy=>(es[y]?).getD (0,Value.none);rwa [TU] at this
 ·show wpAny _ _ (if(!cj w && (!t.plain && decide (es.size > 1)))=true then _ else _) _ _ _;rw [BL c];refine BJ<|BK ?_;refine BJ<|KD ho hd T.fits ?_;refine BJ<|DG<|BK ⟨_,rfl,"set_iterator",_,⟨_,As _ rfl,rfl⟩,slot_next.lookup,?_⟩;have kk:=λws hW hp=>k (s.heap.push<|jD (.int 0 0) 0 a es.size ep) s.drawn s.heap.objs.size a ws (.int 0 0) (λb u e=>Af _ e) (Am _) (by rw [Ct];exact Fq _) (by rw [Ct];exact Bp aS) (.inl rfl) (Bk aS) (As _ rfl) hW hp;cases hb:cj w with
  | true=>exact kk _ (.text 0 hb rfl)<|Iz _ _
  | false=>
   have h1:es.size<=1:=by
    rcases T.plain with q | q
    ·rw [q];simp
    ·rw [hb,q] at c;simp at c;exact c
   refine kk es.toList (.one 0 hb h1 rfl ?_)<|List.Perm.refl _;have t8:=IP T
   rcases Db es.size 1 with h | h
   ·have:t.place=#[]:=Array.eq_empty_of_size_eq_zero (by omega);rw [this];rfl
   ·obtain⟨j,hj⟩:=IM (p:=t.place) (by omega);rw [hj,IL,BL<|Em _]
theorem T4:typeLookup (.type "set") "__len__" = pure (some<|.builtin "set.__len__"):=F.slot_set_len.lookup
theorem T5{Q:Bool->Shared->Prop}(hT:s.TypeIs (.ref a) "set")(k:Q false s):wpAny (model prog w) A (Builtin.List.listLengthHint<|.ref a) Q E s:=by
 unfold Builtin.List.listLengthHint;refine BJ<|RL hT T4 ?_
 dsimp only
 have e1:splitId "set.__len__" = some ("set","__len__"):=by kernel_rfl
 rw [e1]
 dsimp only
 refine BJ<|JN hT sub_set_self ?_;simp only [Dw,Az,CT];rw [BP]
 ·exact BJ<|JX hT<|BK k
 ·decide +kernel
theorem T6{Q:List Value->Shared->Prop}(hh:A.handled=none)(ho:s.heap.get? a=some o)(hx:o.ExactSet)(hd:o.data = .set es ep t)(T:Tab prog w es t zs)
  (k:∀ s' (acc:List<|Int×Value),(∀ b u,s.heap.get? b=some u->s'.heap.get? b=some u)->s'.gens=s.gens->s'.os=s.os->s.heap.objs.size < s'.heap.objs.size->acc.Perm es.toList->Q (acc.map (·.2)) s'):wpAny (model prog w) A (collect<|.ref a) Q E s:=by
 have aS:a < s.heap.objs.size:=Av ho;unfold collect;refine BJ<|wpAny_runValue<|DW F.entry_proto_collect ?_;rw [DP F.plain_proto_collect _];show wpAny _ A.in1 (newList [] >>= λl=>again<|.builtin "list.__iadd__" ⟨[l,.ref a],[]⟩) _ _ s;refine BJ<|JQ ?_;refine BK ⟨GK F.plain_list_iadd _,DW F.entry_list_iadd ?_⟩;rw [DP F.plain_list_iadd _];generalize hL:s.heap.objs.size=L;have ke:(s.heap.push {cls:= .type "list",data:= .seq ([]:List Value).toArray}).get? a=some o:=Af _ ho;have T7:(s.heap.push {cls:= .type "list",data:= .seq ([]:List Value).toArray}).get? L=some {cls:= .type "list",data:= .seq ([]:List Value).toArray}:=by rw [<- hL];exact As _ rfl
 have hT:Shared.TypeIs {s with heap:=s.heap.push {cls:= .type "list",data:= .seq ([]:List Value).toArray}} (.ref a) "set":=⟨o,ke,hx.1⟩;show wpAny _ A.in1 (Builtin.List.listExtendWith (.ref L) (.ref a)<|.ref L) _ _ _;unfold Builtin.List.listExtendWith;refine BJ<|JX hT ?_;have n1:Builtin.List.listSameRef (.ref L) (.ref a)=false:=by
  have:L≠a:=by rw [<- hL];exact Cr aS
  simp [Builtin.List.listSameRef,this]
 have n2:(Value.type "set" == Value.type "list")=false:=by decide
 have n3:(Value.type "set" == Value.type "tuple")=false:=by decide
 simp only [n1,n2,n3,Bool.or_false,Az,CT];refine BJ<|T1 ke hx hd T λh2 d it tp ws first qp oJ lr jE t9 bu gi W p=>?_;have IY:=qp a o ke;have yx:=qp L _ T7;have kg:(s.heap.push {cls:= .type "list",data:= .seq ([]:List Value).toArray}).objs.size=L+1:=by rw [Ct,hL]
 refine BJ<|CK<|T5 (a:=a) (s:={s with heap:=h2,drawn:=d}) ⟨o,IY,hx.1⟩ ?_;show wpAny _ A.in1 (rule "list.extend.makes-room" >>= λ_=>Builtin.List.listTouch (.ref L) >>= λ_=>again<|.builtin "list.extend.loop" ⟨[.ref L,.ref it,.ref L],[]⟩) _ _ _;refine BJ<|GX ?_;refine BJ ?_;show wpAny _ A.in1 (updateSeq L (·.push .none) >>= λ_=>updateSeq L (·.pop)) _ _ _;refine BJ<|wpAny_updateSeq yx rfl ?_;have IZ:=Ej (Obj.mapSeq (·.push Value.none)) yx rfl;refine wpAny_updateSeq IZ rfl ?_;have T8:=Ej (Obj.mapSeq (·.pop)) IZ rfl;have fV:∀ b u,b≠L->h2.get? b=some u->((h2.update L (Obj.mapSeq (·.push Value.none))).update L (Obj.mapSeq (·.pop))).get? b=some u:=
  λb u hb e=>(Da _ _<|CN hb).trans<|(Da _ _<|CN hb).trans e
 have qt:it≠L:=by
  have fX:L+1<=it:=by rw [<- kg];exact oJ
  exact Cr fX
 have yy:a≠L:=by rw [<- hL];exact Bk aS
 have T9:a≠it:=by
  have fX:L+1<=it:=by rw [<- kg];exact oJ
  intro e;rw [<- hL,<- e] at fX;exact absurd fX<|Nat.not_le.mpr<|Bp aS
 have I0:tp≠L:=by
  rcases t9 with h | h
  ·rw [h];exact yy
  ·have h':L+1<=tp:=by rw [<- kg];exact h
   exact Cr h'
 have lh:L∉[it,a,tp]:=by
  intro h
  rcases Ak.mp h with h | h
  ·exact qt h.symm
  ·rcases Ak.mp h with h | h
   ·exact yy h.symm
   ·exact I0 (Ah.mp h).symm
 refine BK ⟨GK F.plain_extend_loop _,codeAny_extend_loopS ((TR (by simp [hh]) T9 bu hd T p).toS) (iW<|Bp T.eG) L lh (.ref L) es.size 0 _ _ _ rfl (Bq _) ⟨first,fV it _ qt gi,fV a _ yy IY,W.keep λu e=>fV tp u I0 e⟩ T8 (ItemsOf.nil _) λs' acc c m Ja hI=>?_⟩;show wpAny _ A (load L >>= _) _ _ s';refine BJ<|wpAny_load Ja ?_;have wl:ws.length=es.size:=by simpa using p.length_eq
 have el:acc.toList=ws.map (·.2):=by
  refine Dp λj=>?_;rw [Ca,Ai];cases hj:acc[j]? with
  | none=>
   have:ws[j]?=none:=by
    rw [Bb];rw [wl,<- hI.1];exact Array.getElem?_eq_none_iff.mp hj
   rw [this];rfl
  | some v=>
   obtain⟨e,h1,h2⟩:=hI.2 j v hj;rw [h1,h2];rfl
 refine BK ?_;rw [el];refine k s' ws (λb u e=>?_) m.gens m.os (by rw [hL];exact Av Ja) p;have hb:b < s.heap.objs.size:=Av e;have Jb:b≠L:=by rw [<- hL];exact Bk hb
 have yv:b≠it:=by
  intro q;have fX:L+1<=it:=by rw [<- kg];exact oJ
  rw [<- hL,<- q] at fX;exact absurd fX<|Nat.not_le.mpr<|Bp hb
 refine m.heap b u (λh=>?_)<|fV b u Jb<|qp b u<|Af _ e
 rcases Ak.mp h with h | h
 ·exact Jb h
 ·exact yv<|Ah.mp h
end
end bx
namespace bx
open PySem PySem.Spec PyProof.Rows
theorem Ua(a b:List Nat):ltCps a b=decide (a < b):=ltCps_eq a b
theorem du:∀(l:List Str) (p:Str),risingS p l=true->∀ x∈l,p.cps.toList<=x.cps.toList
 | [],_,_,x,hx=>by cases hx
 | y :: r,p,h,x,hx=>by
  unfold risingS at h;rw [By,Bool.not_eq_true',Ua,HX] at h;have h1:p.cps.toList<=y.cps.toList:=h.1
  rcases Ak.mp hx with rfl | hx
  ·exact h1
  ·exact List.le_trans h1<|du r y h.2 x hx
theorem dP{p:Str}:∀{l:List Str},risingS p l=true->sortedS l=true
 | [],_=>rfl
 | y :: r,h=>by
  unfold risingS at h;rw [By] at h;exact h.2
theorem eJ{a b:Str}(h:a.cps.toList=b.cps.toList):a=b:=by
 cases a;cases b;simp only at h;have:=Array.toList_inj.mp h;rw [this]
theorem Jc{prog:Program}{w:World}:∀(l:List<|Int×Value),(∀ e∈l,ll prog w e)->StrsAre (l.map (·.2)) (l.map keyOf)
 | [],_=> .nil
 | e :: r,h=>by
  obtain⟨z,t,rfl⟩:=h e Ad;exact .cons z t<|Jc r λx hx=>h x<|Ae _ hx
section
variable{prog:Program}{w:World}{A:Around}{E:Value->Shared->Prop}{s:Shared}{a:Addr}{zs:List Str}
theorem Ub{Q:Value->Shared->Prop}(hh:A.handled=none)(S:au prog w s.heap a zs)(mR:zs.length < 64)
  (k:∀(s':Shared) (l:Addr) (out:Array Value) (e:Nat) (ss:List Str),(∀ b u,s.heap.get? b=some u->s'.heap.get? b=some u)->s'.gens=s.gens->s'.os=s.os->s.heap.objs.size<=l->s'.heap.get? l=some (seqObj "list" out e)->StrsAre out.toList ss->ss.Perm zs->sortedS ss=true->Q (.ref l) s') :
  wpAny (model prog w) A (call (.builtin "sorted") [.ref a]) Q E s:=by
 obtain⟨o,es,ep,t,ho,hx,hd,T⟩:=S;refine Calls.call_function_entry kind_sorted plain_sorted entry_sorted (args_sorted1 _) ?_;unfold Builtin.«sorted»;refine BJ (m:=checkCount "sorted" 1 1 _)<|BK ?_;refine BJ (T6 (by simp [hh]) ho hx hd T λs1 acc kp g1 o1 z1 p=>?_);have hS:=Jc (prog:=prog) (w:=w) acc λe he=>T.elts e<|p.mem_iff.mp he;have hlen:(acc.map (·.2)).length=zs.length:=by
  rw [Ab,p.length_eq,Bs,T.size]
 refine BJ (JQ ?_<|by rw [hlen];exact iW<|by omega);have iI:(s1.heap.push (seqObj "list" (acc.map (·.2)).toArray 0)).get? s1.heap.objs.size=some (seqObj "list" (acc.map (·.2)).toArray 0):=As _ rfl;have hsz:s.heap.objs.size<=s1.heap.objs.size:=Ch z1;refine BJ (CK<|CZ slot_list_sort ⟨_,iI,rfl⟩ entry_list_sort (list_sort_treeK strKind_oneLt iI hS.keysOf (λv₁ v₂ rest e=>keyKind_strs<|by rw [<- e];exact hS) (by rw [hlen];exact mR) λdb a1 a2=>⟨_,rfl,?_⟩)<|args_list_sort _);obtain⟨ss,q1,q2,q3⟩:=sorted_out_str hS a1 a2;obtain⟨e,he⟩:=sortedHeap_at (out:=(arrOf db).map (·.2)) iI;refine BK ⟨_,rfl,k _ _ _ e ss (λb u hb=>?_) g1 o1 hsz he q1 (q2.trans<|(p.map keyOf).trans T.keys) q3⟩;have oK:=kp b u hb;have aS:=Av oK;show(sortedHeap (s1.heap.push _) s1.heap.objs.size _ _).get? b=some u;rw [sortedHeap_old (Bk aS)<|by rw [size_push'];exact Bp aS];exact Af _ oK
end
end bx
namespace L2
open PySem PySem.Spec PyProof.Rows bx
def bn(prog:Program)(w:World)(a:Addr)(zs:List Str):HO:= .ext λh=>au prog w h a zs
section
variable{X:Cx}{pins:List (Addr×Obj)}{σ:St}{H:Hp}{s s':Shared}{a:Addr}{zs:List Str}
theorem Inv.like(I:Inv X pins σ H s)(e1:s'.heap=s.heap)(e2:s'.gens=s.gens)(e3:s'.os=s.os):Inv X pins σ H s':=by
 obtain⟨h,g,d,t,o⟩:=s;obtain⟨h',g',d',t',o'⟩:=s';simp only at e1 e2 e3;subst e1 e2 e3;exact⟨I.ok,I.os,I.bare,I.base,I.loc,I.cell,I.free,I.bT,I.pin,I.aE,I.len⟩
theorem Inv.dX{o:HO}(I:Inv X pins σ H s)(k:∀ b u,s.heap.get? b=some u->s'.heap.get? b=some u)(e2:s'.gens=s.gens)(e3:s'.os=s.os)(hp:s.heap.objs.size<=a)(new:az X.prog X.w (upd H a o) s'.heap a o):Inv X pins σ (upd H a o) s':=
 (I.laid (t':=s.toks) k hp new).like (s':=s') rfl e2 e3
theorem ua{h:Heap}(S:au X.prog X.w h a zs):az X.prog X.w H h a (bn X.prog X.w a zs):=by
 refine⟨S,?_,λh1 h2 q k=>q.keep k⟩;obtain⟨o,_,_,_,ho,_⟩:=S;exact⟨o,ho⟩
theorem Inv.set(I:Inv X pins σ H s)(h:H a=some (bn X.prog X.w a zs)):au X.prog X.w s.heap a zs:=(I.aE a _ h).1
theorem Jd:∀{zs:List Str} {us:List Value},av (zs.map V.str) us->∀(i:Nat) v,us[i]?=some v->∃ z t,zs[i]?=some z/\v=Value.str z t
 | [],_,.nil,i,v,h=>by simp at h
 | z :: r,_,.cons q qs,0,v,h=>by
  obtain⟨t,e⟩:=q;simp at h;exact⟨z,t,rfl,h ▸ e⟩
 | z :: r,_,.cons q qs,i+1,v,h=>by
  simp only [Gb] at h ⊢;exact Jd qs i v h
theorem yz:∀{zs:List Str} {us:List Value},av (zs.map V.str) us->StrsAre us zs
 | [],_,.nil=> .nil
 | z :: r,_,.cons q qs=>by
  obtain⟨t,rfl⟩:=q;exact .cons z t<|yz qs
theorem yA:∀{us:List Value} {zs:List Str},StrsAre us zs->av (zs.map V.str) us
 | _,_,.nil=> .nil
 | _,_,.cons z t q=> .cons ⟨t,rfl⟩<|yA q
theorem Je(hc:X.calm=true):fJ X (.type "set") (λxs H Q=>∃ p zs,xs=[.ref p]/\al X.K H p (zs.map V.str)/\zs.length < 900/\∀ a,H a=none->Q (.ref a) (upd H a<|bn X.prog X.w a<|made zs)):=by
 intro pins s σ H xs us Q I r h;obtain⟨p,zs,rfl,hp,hl,q⟩:=h;obtain⟨u,rfl,ru⟩:=vals1 r;cases (show u=Value.ref p from ru);obtain⟨its,rv,pl,hz⟩:=I.list hp;have e1:=rv.length;rw [Ab] at e1;refine Ts (I.ok.hd hc) pl.isList (λi v hv=>Jd rv i v<|by simpa using hv) (by simpa using e1) (by simp;omega) λh' tk kp S=>?_;exact⟨.ref _,_,I.dX (s':={s with heap:=h',toks:=tk}) kp rfl rfl (Am _) (ua S),rfl,q _<|I.aE.fresh<|Am _⟩
theorem Uc:cr X (binaryOp .BitXor) (λx y H Q=>∃ a b za zb,x = .ref a/\y = .ref b/\H a=some (bn X.prog X.w a za)/\H b=some (bn X.prog X.w b zb)/\za.length < 64/\zb.length < 64 /\
  ∀ c zc,H c=none->zc.Nodup->(∀ y,y∈zc↔(if y∈za then y∉zb else y∈zb))->Q (.ref c) (upd H c<|bn X.prog X.w c zc)):=by
 intro pins s σ H x y v u Q I rx ry h;obtain⟨a,b,za,zb,rfl,rfl,ha,hb,la,lb,q⟩:=h;cases rx;cases ry;refine Ti (I.set ha) (I.set hb) la lb λh' d zc kp S m=>?_;exact⟨.ref _,_,I.dX (s':={s with heap:=h',drawn:=d}) kp rfl rfl (Am _) (ua S),rfl,q _ zc (I.aE.fresh<|Am _) S.nodup m⟩
theorem Ud(hc:X.calm=true):fJ X (.builtin "sorted") (λxs H Q=>∃ p zs,xs=[.ref p]/\H p=some (bn X.prog X.w p zs)/\zs.length < 64/\∀ l ss,H l=none->ss.Perm zs->sortedS ss=true->Q (.ref l) (upd H l<|.lst<|ss.map V.str)):=by
 intro pins s σ H xs us Q I r h;obtain⟨p,zs,rfl,hp,hl,q⟩:=h;obtain⟨u,rfl,ru⟩:=vals1 r;cases (show u=Value.ref p from ru);refine Ub (I.ok.hd hc) (I.set hp) hl λs' l out e ss kp e2 e3 oJ he hS i0 i4=>?_;have hlen:ss.length<=sizeLine:=by rw [i0.length_eq];exact iW<|by omega
 refine⟨.ref _,_,I.dX (s':=s') kp e2 e3 oJ (show az X.prog X.w _ s'.heap l (.lst<|ss.map V.str) from⟨by rw [Ab];exact hlen,out.toList,e,yA hS,he⟩),rfl,q _ ss (I.aE.fresh oJ) i0 i4⟩
theorem Jf:fJ X (.builtin "sorted") (λxs H Q=>∃ p zs,xs=[.ref p]/\al X.K H p (zs.map V.str)/\zs.length < 64/\∀ l ss,H l=none->ss.Perm zs->sortedS ss=true->Q (.ref l) (upd H l<|.lst<|ss.map V.str)):=by
 intro pins s σ H xs us Q I r h;obtain⟨p,zs,rfl,hp,hl,q⟩:=h;obtain⟨u,rfl,ru⟩:=vals1 r;cases (show u=Value.ref p from ru);obtain⟨its,rv,pl,hz⟩:=I.list hp;have e1:=rv.length;rw [Ab] at e1;refine PyProof.Rows.sorted_strs pl.isList (yz rv) (by omega) λout ss hS i0 i4=>?_;obtain⟨e,he⟩:=sortedAll_at s.heap its out;have hlen:ss.length<=sizeLine:=by rw [i0.length_eq];exact iW<|by omega
 refine⟨.ref _,_,I.dX (s':={s with heap:=sortedAll s.heap its out}) (λb u hb=>sortedAll_old hb) rfl rfl (Ep _) (show az X.prog X.w _ _ _ (.lst<|ss.map V.str) from⟨by rw [Ab];exact hlen,out.toList,e,yA hS,he⟩),rfl,q _ ss (I.aE.fresh<|Ep _) i0 i4⟩
end
end L2
namespace L2
open PySem PySem.Spec PyProof.Rows
section
variable{X:Cx}{o e:Expr}{σ:St}{H:Hp}{Q:VK}{ap cp:Pos}
theorem jF (h:Ev X o σ H λx H1=>∃ l,x = .ref l/\(∃ xs,H1 l=some (.lst xs))/\Ev X e σ H1 λy H2=>∃ xs,H2 l=some (.lst xs)/\xs.length < sizeLine/\Q .non (upd H2 l<|.lst<|xs++[y]))
  (bC:attributeBase o "append" X.env (eval o X.env)=eval o X.env:=by rfl)
  (eB:((backTo cp<|starEach [e] X.env).all (λx=>!x.1) && (backToKw cp<|keywordEach [] X.env).all (λx=>x.1.isSome) && decide ([e].length+([]:List Keyword).length+(if([]:List Keyword).isEmpty then 0 else 1) < 30))=true:=by rfl)
  (hline:(ap.endLine == cp.line)=true:=by rfl) (hs:starEach [e] X.env=(false,eval e X.env) :: starEach [] X.env:=by rfl) (bN:(backTo cp<|starEach [] X.env).any (·.1)=false:=by rfl) (dS:isStar e=false:=by rfl) :
  Ev X (.Call (.Attribute o "append" ap) [e] [] cp) σ H Q:=by
 refine dt (xf EY PySem.F.slot_list_append PySem.F.type_list_append Ho bK (gR (es:=[e])) bC eB hline hs bN)<|h.mono λx H1 ⟨l,ex,⟨xs,hl⟩,h2⟩=>?_;subst ex;refine⟨.inl ⟨rfl,xs,al.of hl⟩,?_⟩;exact ao (h2.mono λy H2 ⟨ys,hy,hz,q⟩=>aA ⟨l,ys,y,rfl,rfl,hy,hz,q⟩) dS
end
section
variable{X:Cx}{c:Expr}{body jA rest:List Stmt}{D:Ends}{σ:St}{H:Hp}{pos:Pos}
theorem Run.nx{M M':St->Hp->Prop}{l:List Stmt}(h:Run X l {D with nx:=M} σ H)(f:∀ σ' H',M σ' H'->M' σ' H'):Run X l {D with nx:=M'} σ H:=
 ⟨λpins s I => aP (h.run pins s I) λfl s' q => by
  cases fl with
  | next=>
   obtain⟨σ',H',I',m⟩:=q;exact⟨σ',H',I',f σ' H' m⟩
  | _=>exact q⟩
theorem Jg(φ ψ:Prop)(M:St->Hp->Prop)(hc:∀ T:Bool->Hp->Prop,(∀ k:Bool,(k=true->φ)->(k=false->ψ)->T k H)->Et X c σ H T)(ht:φ->Run X body {D with nx:=M} σ H)(hu:ψ->Run X jA {D with nx:=M} σ H)
  (hr:∀ σ' H',M σ' H'->Run X rest D σ' H'):Run X (.If c body jA pos :: rest) D σ H:=
 xQ φ ψ hc (λp=>(ht p).nx hr) (λp=>(hu p).nx hr)
end
def i5(X:Cx)(H:Hp)(k:Nat)(x y:V)(b:Bool):Prop:=∀(pins:List<|Addr×Obj) (σ:St) (s:Shared) (A:Around) (u v:Value),Inv X pins σ H s->A.units+k < cLine->RelV x u->RelV y v->SeqAt.EqAt A s u v b
def kh(X:Cx)(H:Hp)(k:Nat)(x y:V)(b:Bool):Prop:=∀(pins:List<|Addr×Obj) (σ:St) (s:Shared) (A:Around) (u v:Value),Inv X pins σ H s->A.units+k < cLine->RelV x u->RelV y v->SeqAt.RcAt A s u v b
def mS(X:Cx)(H:Hp)(k:Nat)(x y:V)(b:Bool):Prop:=∀(pins:List<|Addr×Obj) (σ:St) (s:Shared) (A:Around) (u v:Value),Inv X pins σ H s->A.units+k < cLine->RelV x u->RelV y v->SeqAt.RcNeAt A s u v (!b)
section
variable{X:Cx}{H:Hp}{k:Nat}{a b:Addr}{xs ys:List V}
theorem qu{x y:V}(fx:iK x=true)(fy:iK y=true):i5 X H k x y (cz x y):=λ_ _ _ _ _ _ _ _ rx ry=>Hj rx ry fx fy
theorem Ue:i5 X H k (.ref a) (.ref a) true:=λ_ _ _ _ u v _ _ rx ry=>by
 cases rx;cases ry;exact SeqAt.EqAt.same _
theorem Ug(bu:a≠b){c:Bool}(h:kh X H k (.ref a) (.ref b) c):i5 X H k (.ref a) (.ref b) c:=λpins σ s A u v I hu rx ry=>by
 cases rx;cases ry;exact SeqAt.EqAt.of_refs bu<|h pins σ s A _ _ I hu rfl rfl
theorem lw{us:List Value}(r:av xs us){j:Nat}(h:j < us.length):∃ x,xs[j]?=some x/\RelV x us[j]:=by
 have hl:=r.length;have hj:j < xs.length:=by omega
 obtain⟨u,e,q⟩:=r.get<|Aa hj;rw [Aa h] at e;cases e;exact⟨_,Aa hj,q⟩
theorem Jh(e:Nat->Bool)(ha:al X.K H a xs)(hb:al X.K H b ys)(hl:xs.length=ys.length)(he:∀ j x y,xs[j]?=some x->ys[j]?=some y->i5 X H k x y (e j)):kh X H (k+1) (.ref a) (.ref b) ((List.range xs.length).all e):=λpins σ s A u v I hu rx ry=>by
 cases rx;cases ry;obtain⟨i1,r1,p1,_⟩:=I.list ha;obtain⟨i2,r2,p2,_⟩:=I.list hb;have l1:=r1.length;have l2:=r2.length;have q:=SeqAt.RcAt.lists (A:=A) (e:=e) p1.isList p2.isList (by simp;omega) (by omega) λj h1 h2=>by
  obtain⟨x,ex,qx⟩:=lw r1 (j:=j) (by simpa using h1);obtain⟨y,ey,qy⟩:=lw r2 (j:=j) (by simpa using h2);exact he j x y ex ey pins σ s A.in1 _ _ I (by show A.units+1+k < cLine;omega) (by simpa using qx)<|by simpa using qy
 rw [Aw,<- l1] at q;exact q
theorem yB(e:Nat->Bool)(ha:al X.K H a xs)(hb:al X.K H b ys)(hl:xs.length=ys.length)(he:∀ j x y,xs[j]?=some x->ys[j]?=some y->i5 X H k x y (e j)):mS X H (k+1) (.ref a) (.ref b) ((List.range xs.length).all e):=λpins σ s A u v I hu rx ry=>by
 cases rx;cases ry;obtain⟨i1,r1,p1,_⟩:=I.list ha;obtain⟨i2,r2,p2,_⟩:=I.list hb;have l1:=r1.length;have l2:=r2.length;have q:=SeqAt.RcNeAt.lists (A:=A) (e:=e) p1.isList p2.isList (by simp;omega) (by omega) λj h1 h2=>by
  obtain⟨x,ex,qx⟩:=lw r1 (j:=j) (by simpa using h1);obtain⟨y,ey,qy⟩:=lw r2 (j:=j) (by simpa using h2);exact he j x y ex ey pins σ s A.in1 _ _ I (by show A.units+1+k < cLine;omega) (by simpa using qx)<|by simpa using qy
 rw [Aw,<- l1] at q;exact q
theorem q7x(ha:al X.K H a xs)(hb:al X.K H b ys)(hl:xs.length≠ys.length):kh X H k (.ref a) (.ref b) false:=λpins σ s A u v I hu rx ry=>by
 cases rx;cases ry;obtain⟨i1,r1,p1,_⟩:=I.list ha;obtain⟨i2,r2,p2,_⟩:=I.list hb;have l1:=r1.length;have l2:=r2.length;exact SeqAt.RcAt.lists_lengths p1.isList p2.isList (by simp;omega)<|by omega
theorem Ji(ha:al X.K H a xs)(hb:al X.K H b ys)(hl:xs.length≠ys.length):mS X H k (.ref a) (.ref b) false:=λpins σ s A u v I hu rx ry=>by
 cases rx;cases ry;obtain⟨i1,r1,p1,_⟩:=I.list ha;obtain⟨i2,r2,p2,_⟩:=I.list hb;have l1:=r1.length;have l2:=r2.length;exact SeqAt.RcNeAt.lists_lengths p1.isList p2.isList (by simp;omega)<|by omega
theorem Jj(e:Nat->Bool)(ha:a7 X.K H a xs)(hb:a7 X.K H b ys)(hl:xs.length=ys.length)(he:∀ j x y,xs[j]?=some x->ys[j]?=some y->i5 X H k x y (e j)):kh X H (k+1) (.ref a) (.ref b) ((List.range xs.length).all e):=λpins σ s A u v I hu rx ry=>by
 cases rx;cases ry;obtain⟨i1,r1,p1,_⟩:=I.tuple ha;obtain⟨i2,r2,p2,_⟩:=I.tuple hb;have l1:=r1.length;have l2:=r2.length;have q:=SeqAt.RcAt.tuples (A:=A) (e:=e) p1 p2 (by omega) λj h1 h2=>by
  obtain⟨x,ex,qx⟩:=lw r1 (j:=j) (by simpa using h1);obtain⟨y,ey,qy⟩:=lw r2 (j:=j) (by simpa using h2);exact he j x y ex ey pins σ s A.in1 _ _ I (by show A.units+1+k < cLine;omega) (by simpa using qx)<|by simpa using qy
 rw [Aw,Aw,<- l1,<- l2,hl,Nat.min_self,<- hl] at q
 simpa using q
theorem ub(n:Nat):(List.range n).all (λ_=>true)=true:=by simp
theorem yC(hu:X.A.units+100 < cLine):cr X (compareOp .Eq) (λx y H Q=>∃ k c,k<=100/\kh X H k x y c/\Q (.bl c) H):=by
 intro pins s σ H x y v u Q I rx ry h;obtain⟨k,c,hk,hc,q⟩:=h;exact hc pins σ s X.A v u I (by omega) rx ry X.prog X.w X.xe _ ⟨.bl c,H,I,rfl,q⟩
theorem qv(hu:X.A.units+100 < cLine):cr X (compareOp .NotEq) (λx y H Q=>∃ k c,k<=100/\mS X H k x y c/\Q (.bl (!c)) H):=by
 intro pins s σ H x y v u Q I rx ry h;obtain⟨k,c,hk,hc,q⟩:=h;exact hc pins σ s X.A v u I (by omega) rx ry X.prog X.w X.xe _ ⟨.bl (!c),H,I,rfl,q⟩
theorem Jk(e:Nat->Bool)(ha:a7 X.K H a xs)(hb:a7 X.K H b ys)(hl:xs.length=ys.length)(he:∀ j x y,xs[j]?=some x->ys[j]?=some y->i5 X H k x y (e j)):mS X H (k+1) (.ref a) (.ref b) ((List.range xs.length).all e):=λpins σ s A u v I hu rx ry=>by
 cases rx;cases ry;obtain⟨i1,r1,p1,_⟩:=I.tuple ha;obtain⟨i2,r2,p2,_⟩:=I.tuple hb;have l1:=r1.length;have l2:=r2.length;have q:=SeqAt.RcNeAt.tuples (A:=A) (e:=e) p1 p2 (by omega) λj h1 h2=>by
  obtain⟨x,ex,qx⟩:=lw r1 (j:=j) (by simpa using h1);obtain⟨y,ey,qy⟩:=lw r2 (j:=j) (by simpa using h2);exact he j x y ex ey pins σ s A.in1 _ _ I (by show A.units+1+k < cLine;omega) (by simpa using qx)<|by simpa using qy
 rw [Aw,Aw,<- l1,<- l2,hl,Nat.min_self,<- hl] at q
 simpa using q
end
section
variable{X:Cx}{o e f c:Expr}{σ:St}{H:Hp}{Q:VK}{T:Bool->Hp->Prop}{ap cp pos:Pos}{body rest:List Stmt}{D:Ends}
theorem Uh{name:Str}{Ty id:String}{r:V->List V->Hp->VK->Prop}(pa:PlainAttrs Ty)(slot:Slot Ty name id)(jY:typeOf (.builtin id)=pure (.type "method_descriptor"))(hm:p8 X id r)
  (h:Ev X o σ H λx H1=>jX X.K Ty x H1/\r x [] H1 Q) (bC:attributeBase o name X.env (eval o X.env)=eval o X.env:=by rfl) (hline:(ap.endLine == cp.line)=true:=by rfl):Ev X (.Call (.Attribute o name ap) [] [] cp) σ H Q:=
 dt (Qy pa slot jY hm bK bC hline) h
theorem yD{name:Str}{Ty id:String}{r:V->List V->Hp->VK->Prop}(pa:PlainAttrs Ty)(slot:Slot Ty name id)(jY:typeOf (.builtin id)=pure (.type "method_descriptor"))(hm:p8 X id r)
  (h:Ev X o σ H λx H1=>jX X.K Ty x H1/\Ev X e σ H1 λy H2=>r x [y] H2 Q) (bC:attributeBase o name X.env (eval o X.env)=eval o X.env:=by rfl)
  (eB:((backTo cp<|starEach [e] X.env).all (λx=>!x.1) && (backToKw cp<|keywordEach [] X.env).all (λx=>x.1.isSome) && decide ([e].length+([]:List Keyword).length+(if([]:List Keyword).isEmpty then 0 else 1) < 30))=true:=by rfl)
  (hline:(ap.endLine == cp.line)=true:=by rfl) (hs:starEach [e] X.env=(false,eval e X.env) :: starEach [] X.env:=by rfl) (bN:(backTo cp<|starEach [] X.env).any (·.1)=false:=by rfl) (dS:isStar e=false:=by rfl):Ev X (.Call (.Attribute o name ap) [e] [] cp) σ H Q:=
 dt (xf pa slot jY hm bK (gR (es:=[e])) bC eB hline hs bN) (h.mono λx H1 ⟨t,h2⟩=>⟨t,ao (h2.mono λy H2 q=>aA q) dS⟩)
theorem yE{name:Str}{Ty id:String}{r:V->List V->Hp->VK->Prop}(pa:PlainAttrs Ty)(slot:Slot Ty name id)(jY:typeOf (.builtin id)=pure (.type "method_descriptor"))(hm:p8 X id r)
  (h:Ev X o σ H λx H1=>jX X.K Ty x H1/\Ev X e σ H1 λy H2=>Ev X f σ H2 λz H3=>r x [y,z] H3 Q) (bC:attributeBase o name X.env (eval o X.env)=eval o X.env:=by rfl)
  (eB:((backTo cp<|starEach [e,f] X.env).all (λx=>!x.1) && (backToKw cp<|keywordEach [] X.env).all (λx=>x.1.isSome) && decide ([e,f].length+([]:List Keyword).length+(if([]:List Keyword).isEmpty then 0 else 1) < 30))=true:=by rfl)
  (hline:(ap.endLine == cp.line)=true:=by rfl) (hs:starEach [e,f] X.env=(false,eval e X.env) :: starEach [f] X.env:=by rfl) (bN:(backTo cp<|starEach [f] X.env).any (·.1)=false:=by rfl) (dS:isStar e=false:=by rfl) (Ui:isStar f=false:=by rfl):Ev X (.Call (.Attribute o name ap) [e,f] [] cp) σ H Q:=
 dt (xf pa slot jY hm bK (gR (es:=[e,f])) bC eB hline hs bN) (h.mono λx H1 ⟨t,h2⟩=>⟨t,ao (h2.mono λy H2 h3=>ao (h3.mono λz H3 q=>aA q) Ui) dS⟩)
def insertAt(xs:List V)(i:Nat)(y:V):List V:=xs.take i++y :: xs.drop i
def Uj:V->List V->Hp->VK->Prop:=λx vs H Q=>∃ l xs i y,x = .ref l/\vs=[.int i,y]/\H l=some (.lst xs)/\0<=i/\i.toNat<=xs.length/\xs.length < sizeLine/\Q .non (upd H l<|.lst<|insertAt xs i.toNat y)
theorem Uk{i:Int}(h0:0<=i)(h:i<=16777216):¬(!Builtin.List.listFitsIndex i)=true:=by
 have e:Builtin.List.listFitsIndex i=true:=by
  unfold Builtin.List.listFitsIndex;rw [By,DR,DR];omega
 rw [e];exact At
theorem Jl:k4 X "list.insert" Uj:=by
 intro pins s σ H x vs v us Q I rx rv h;obtain⟨l,xs,i,y,rfl,rfl,hH,h0,hi,hz,q⟩:=h;cases rx;obtain⟨u,w',rfl,ru,eU⟩:=rv.two;obtain⟨tk,rfl⟩:=ru;obtain⟨z,its,n,r,hl,e⟩:=I.eC hH;have hs:sizeLine=16777216:=FJ;have z2:its.toArray.size<=sizeLine:=by rw [Aw,<- hl];exact z
 have mm:=AutoSeq1.list_insert_list_int_val_1 l its.toArray n i tk w' (Uk h0<|by omega) z2;refine JL F.slot_list_insert ⟨_,e,rfl⟩ F.entry_list_insert (F.args_list_insert_3 _ _ _) mm ⟨e,?_⟩;have ef:(λxs:Array Value=>have k:=if i < 0 then(i+(xs.size:Int)).toNat else min i.toNat xs.size;(xs.extract 0 k).push w'++xs.extract k) its.toArray=(its.take i.toNat++w' :: its.drop i.toNat).toArray:=by
  have hn:¬ i < 0:=by omega
  have hm:min i.toNat its.length=i.toNat:=by omega
  simp only [hn,CT,Aw,hm];apply Array.ext';simp;exact Ci<|by simp
 refine⟨.non,_,I.gM (its':=its.take i.toNat++w' :: its.drop i.toNat) hH e ef ((r.take i.toNat).append<|.cons eU<|r.drop i.toNat) ?_,rfl,q⟩;rw [Ag,Au,Br,Co];omega
def Ul:V->List V->Hp->VK->Prop:=λx vs H Q=>∃ a kvs k y,x = .ref a/\vs=[kV k,y]/\H a=some (.dK kvs)/\kvs.length < sizeLine /\
 ((∃ v,aK kvs k=some v/\Q v H)\/(aK kvs k=none/\Q y (upd H a<|.dK<|putK kvs k y)))
theorem Um:k4 X "dict.setdefault" Ul:=by
 intro pins s σ H x vs v us Q I rx rv h;obtain⟨a,kvs,k,y,rfl,rfl,hH,hz,q⟩:=h;cases rx;obtain⟨u,w',rfl,ru,eU⟩:=rv.two;obtain⟨z,hd,rs,rel,dd⟩:=tG I.aE hH;have hl:=rel.length;refine call_meetsIn F.slot_dict_setdefault dd.typeIs F.entry_dict_setdefault (F.args_dict_setdefault_3 _ _ _) (kt_meets_setdefault (c7 X.prog X.w) a (mE ru) hd w') ⟨rs,dd,by omega,λv hv=>?_,λhn h' ik hs=>?_⟩
 ·have fM:=rel.val k;rw [hv] at fM
  rcases q with ⟨v',e',q⟩ | ⟨e',_⟩
  ·rw [e'] at fM;exact⟨v',H,I.tok _,fM,q⟩
  ·rw [e'] at fM;exact fM.elim
 ·have fM:=rel.val k;rw [hn] at fM
  rcases q with ⟨v',e',_⟩ | ⟨e',q⟩
  ·rw [e'] at fM;exact fM.elim
  ·have he:∃ q,h'.get? a=some q:=let ⟨q,_,_,hq,_⟩:=ik;⟨q,hq⟩
   have iL:(putK kvs k y).length<=sizeLine:=by have:=ig kvs k y;omega
   exact⟨y,_,k5 I (by rw [hH];exact True.intro) hs he<|xu iL hd (rel.put k eU) ik,eU,q⟩
theorem Jm:fJ X (.type "int") (λxs H Q=>∃ b:Bool,xs=[.bl b]/\Q (.int (if b then 1 else 0)) H):=by
 intro pins s σ H xs us Q I r h;obtain⟨b,rfl,q⟩:=h;obtain⟨u,rfl,ru⟩:=vals1 r;cases (show u=Value.bool b from ru);exact call_int_bool ⟨.int (if b then 1 else 0),H,I.tok _,⟨_,rfl⟩,q⟩
theorem Jn{jA:List Stmt}(Φ:Bool->Hp->Prop)(M:St->Hp->Prop)(hc:Et X c σ H Φ)(ht:∀ H1,Φ true H1->Run X body {D with nx:=M} σ H1)(hu:∀ H1,Φ false H1->Run X jA {D with nx:=M} σ H1)
  (hr:∀ σ' H',M σ' H'->Run X rest D σ' H'):Run X (.If c body jA pos :: rest) D σ H:=
 im (hc.mono λk H1 p=>by
  cases k with
  | true=>rw [BP rfl];exact(ht H1 p).nx hr
  | false=>rw [BL At];exact(hu H1 p).nx hr)
theorem yF(W:Nat->St->Hp->Prop){m0:Nat}(h0:W m0 σ H)
  (turn:∀ m σ H,W m σ H->Et X c σ H λb H1=>if b=true then Run X body {D with nx:=λσ' H'=>∃ m',m' < m/\W m' σ' H',ct:=λσ' H'=>∃ m',m' < m/\W m' σ' H',bk:=λσ' H'=>Run X rest D σ' H'} σ H1 else Run X rest D σ H1)
  (hp:PassesOwn (model X.prog X.w) X.A X.env X.xe:=by exact MP):Run X (.While c body [] pos :: rest) D σ H:=by
 refine k8 (Pp hp k6 oz) ⟨W,⟨m0,h0⟩,λm σ1 H1 w1=>(turn m σ1 H1 w1).mono λb H2 q=>?_⟩;cases b with
 | true=>
  rw [BP rfl] at q;exact⟨λσ' H'=>∃ m',m' < m/\W m' σ' H',λ_ _ h=>h,q⟩
 | false=>
  rw [BL At] at q;exact q
theorem Jo(h:∀ p,H p=none->Q (.ref p) (upd H p<|.dK [])):Ev X (.Dict [] [] pos) σ H Q:=dt Ri h
theorem Uo(h:∀ p,H p=none->Q (.ref p) (upd H p<|.dT [])):Ev X (.Dict [] [] pos) σ H Q:=dt Rj h
theorem gU(hu:X.A.units+1 < cLine)(h:Ev X o σ H λx H1=>Ev X e σ H1 λy H2=>∃ a v,x = .ref a/\bw H2 a y (some v)/\Q v H2)(hs:mF e:=by intro _ _;rfl):Ev X (.Subscript o e pos) σ H Q:=dt (Ra hu bK bK hs) h
theorem Uq(hu:X.A.units+1 < cLine)(h:Ev X e σ H λy H1=>Ev X o σ H1 λx H2=>∃ a r,x = .ref a/\bw H2 a y r/\T r.isSome H2)(hm:behindInMarks .In o=false:=by with_unfolding_all rfl):Et X (.Compare e [.In] [o] pos) σ H T:=
 tL (OX (Rb hu bK bK) hm) (h.mono λy H1 h2=>h2.mono λx H2 ⟨a,r,h3,h4,h5⟩=>⟨a,r,h3,h4,_,rfl,h5⟩)
theorem yG{p2:Pos}(hu:X.A.units+1 < cLine)(h:Ev X f σ H λv H1=>Ev X o σ H1 λx H2=>Ev X e σ H2 λy H3=>∃ a H4,x = .ref a/\cC H3 a y v H4/\Run X rest D σ H4)(hs:swapsWith f (some<|.Subscript o e p2) pos.line X.env=pure false:=by rfl) :
  Run X (.Assign [.Subscript o e p2] f pos :: rest) D σ H:=k8 (Rc hu bK bK bK hs) h
end
end L2
namespace bH
open PySem PySem.Spec PyProof.Rows
def lexLt(a b:Int×Int):Bool:=if a.1=b.1 then decide (a.2 < b.2) else decide (a.1 < b.1)
theorem Ur(b:Bool)(x y:Value):keyLt' (tuples' b) x y=(do
  let xs <- Builtin.List.listItems x
  let ys <- Builtin.List.listItems y
  for ((p,q),i) in (xs.toList.zip ys.toList).zipIdx do
   if !(<- eqBool p q) then return <- oneLt' (b && i == 0) p q
  return xs.size < ys.size):=rfl
section
variable{prog:Program}{w:World}{A:Around}{E:Value->Shared->Prop}{s:Shared}
def Pr(h:Heap)(a:Addr)(p:Int×Int):Prop:=∃ o n t u,h.get? a=some o/\o.cls = .type "tuple"/\o.data = .seq #[.int p.1 t,.int p.2 u] n
theorem Jp{a b:Int}{t u:Tok}{Q:Bool->Shared->Prop}(h:Q (decide (a=b)) s):wpAny (model prog w) A (eqBool (.int a t)<|.int b u) Q E s:=by
 refine SeqAt.EqAt.int_int a t b u prog w E Q ?_;have e:(a == b)=decide (a=b):=rfl;rw [e];exact h
theorem Us{a b:Int}{t u:Tok}{Q:Bool->Shared->Prop}(h:Q (decide (a < b)) s):wpAny (model prog w) A (oneLt' false (.int a t)<|.int b u) Q E s:=by
 rw [oneLt'_eq];simp only [Az,CT];refine BJ ?_;show wpAny _ _ (compareOp .Lt (.int a t)<|.int b u) _ _ _;exact lt_int<|FZ h
theorem Ut{x y:Addr}{p q:Int×Int}{Q:Bool->Shared->Prop}(hx:Pr s.heap x p)(hy:Pr s.heap y q)(h:Q (lexLt p q) s):wpAny (model prog w) A (keyLt' (tuples' true) (.ref x)<|.ref y) Q E s:=by
 obtain⟨ox,nx,tx,ux,uc,cx,dx⟩:=hx;obtain⟨oy,ny,ty,uy,Uu,cy,dy⟩:=hy;rw [Ur];refine BJ<|NQ uc dx ?_;refine BJ<|NQ Uu dy ?_;show wpAny _ _ (forIn [((Value.int p.1 tx,Value.int q.1 ty),0),((Value.int p.2 ux,Value.int q.2 uy),1)] _ _ >>= _) _ _ _;rw [RM];refine BJ<|BJ ?_
 dsimp only
 refine BJ<|Jp ?_
 by_cases c:p.1=q.1
 ·rw [BW c];simp only [Dw,Az,CT];refine BK ?_
  dsimp only
  rw [RM];refine BJ ?_
  dsimp only
  refine BJ<|Jp ?_
  by_cases c2:p.2=q.2
  ·rw [BW c2];simp only [Dw,Az,CT];refine BK ?_
   dsimp only
   rw [List.forIn_nil];refine BK<|BK ?_;have e:lexLt p q=false:=by unfold lexLt;rw [BP c,c2];simp
   rw [e] at h
   simpa using h
  ·rw [BR c2];simp only [SN,DK];refine BJ<|Us<|BK ?_
   dsimp only
   refine BK<|BK ?_;have e:lexLt p q=decide (p.2 < q.2):=by unfold lexLt;rw [BP c]
   rw [e] at h;exact h
 ·rw [BR c];simp only [SN,DK];refine BJ<|oneLt_int<|BK ?_
  dsimp only
  refine BK<|BK ?_;have e:lexLt p q=decide (p.1 < q.1):=by unfold lexLt;rw [BL c]
  rw [e] at h;exact h
theorem Uv{x y:Value}:(#[x,y]:Array Value).size<=sizeLine+1:=by
 rw [FJ];show 2<=_;decide
theorem Uw(v:Value):firstOfTuple' v=(do
  if(<- typeOf v) != .type "tuple" then return none
  return (<- Builtin.List.listItems v)[0]?):=rfl
theorem Jq{x:Addr}{p:Int×Int}{Q:Option Value->Shared->Prop}(hx:Pr s.heap x p)(h:∀ t,Q (some<|.int p.1 t) s):wpAny (model prog w) A (firstOfTuple'<|.ref x) Q E s:=by
 obtain⟨ox,nx,tx,ux,uc,cx,dx⟩:=hx;rw [Uw];refine BJ<|JX (T:= "tuple") ⟨ox,uc,cx⟩ ?_;rw [show(Value.type "tuple" != Value.type "tuple")=false by decide];simp only [Az,CT];refine BJ<|NQ uc dx ?_;exact BK<|h tx
theorem Ux{x y:Addr}{p q:Int×Int}{Q:SortKind->Shared->Prop}(hx:Pr s.heap x p)(hy:Pr s.heap y q)(h:Q (tuples' true) s):wpAny (model prog w) A (keyKind' #[.ref x,.ref y]) Q E s:=by
 rw [keyKind'_eq,show(#[.ref x,.ref y]:Array Value)=[.ref x,.ref y].toArray from rfl,List.mapM_toArray];refine BJ<|wpAny_map ?_;rw [List.mapM_cons];refine BJ<|Jq hx λt=>?_;rw [List.mapM_cons];refine BJ<|BJ<|Jq hy λu=>?_;rw [List.mapM_nil];refine BJ<|BK<|BK<|BK ?_;rw [BP<|by simp];refine BJ<|GX ?_;rw [oneTypeOnly'_eq];show wpAny _ _ ((Array.mapM typeOf [Value.int p.1 t,Value.int q.1 u].toArray >>= _) >>= _) _ _ _;rw [List.mapM_toArray];have e1:[Value.int p.1 t,Value.int q.1 u].mapM typeOf=(pure [Value.type "int",Value.type "int"]:Sem _):=rfl;rw [e1];refine BK ?_;have e2:(if((#[Value.type "int",Value.type "int"]:Array Value).all λx=>x == (#[Value.type "int",Value.type "int"]:Array Value)[0])=true then some (#[Value.type "int",Value.type "int"]:Array Value)[0] else none)=some (Value.type "int"):=by
  rw [BP]
  ·rfl
  ·simp
 show Q (tuples'<|Option.any (λx=>x != Value.type "tuple") _) s;rw [e2];exact h
theorem wp_at{st:SortSt}{x y:Addr}{p q:Int×Int}{i j:Nat}{Q:Option Bool->SortSt->Prop}(hk:kindOf st=tuples' true)(hi:(arrOf st)[i]?=some (.ref x,.ref x))(hj:(arrOf st)[j]?=some (.ref y,.ref y))(hx:Pr s.heap x p)(hy:Pr s.heap y q)(h:Q (some<|lexLt p q) st) :
  wpS (model prog w) A E s (ltAt' i j) Q st:=by
 rw [ltAt'_eq];refine FN<|wpS_get ?_;show wpS _ _ _ _ (elem' (arrOf st) i >>= λa=>elem' (arrOf st) j >>= λb=>lt' a b) Q st;rw [elem'_eq,elem'_eq,hi,hj];refine FN<|JF<|FN<|JF ?_;rw [lt'_eq];refine FN<|wpS_get ?_;rw [hk];refine FN<|wpS_lift<|KR<|Ut hx hy ⟨rfl,?_⟩;exact JF h
def jG(x y:Addr)(p q:Int×Int):Array Keyed:=if lexLt q p then #[(.ref y,.ref y),(.ref x,.ref x)] else #[(.ref x,.ref x),(.ref y,.ref y)]
theorem Uy{x y:Addr}{p q:Int×Int}{Q:Option Nat->SortSt->Prop}(hx:Pr s.heap x p)(hy:Pr s.heap y q)
  (h:Q (some 2)<|SortSt.mk' (tuples' true) (jG x y p q) #[] 7 none):wpS (model prog w) A E s (countRun' 0 2) Q (SortSt.mk' (tuples' true) #[(.ref x,.ref x),(.ref y,.ref y)] #[] 7 none):=by
 rw [countRun0_eq];refine FN ?_;unfold ascLoop;refine wpS_mono (NZ (I:=λi c st=>st=SortSt.mk' (tuples' true) #[(.ref x,.ref x),(.ref y,.ref y)] #[] 7 none/\c=(none,i)/\(i=2->lexLt q p=false))
  (Q:=λc st=>st=SortSt.mk' (tuples' true) #[(.ref x,.ref x),(.ref y,.ref y)] #[] 7 none/\((c=(none,1)/\lexLt q p=true)\/(c=(none,2)/\lexLt q p=false))) ?_ ?_ ⟨rfl,rfl,λh=>by cases h⟩) ?_
 ·rintro i c st h1 h2 ⟨rfl,rfl,hI⟩;have e:i=1:=by omega
  subst e;refine FN<|wp_at rfl rfl rfl hy hx ?_
  dsimp only
  cases hb:lexLt q p with
  | true=>
   rw [BP rfl];exact JF ⟨rfl,.inl ⟨rfl,rfl⟩⟩
  | false=>
   rw [BL At];exact JF ⟨rfl,rfl,λ_=>rfl⟩
 ·rintro c st ⟨rfl,rfl,hI⟩;exact⟨rfl,.inr ⟨rfl,hI rfl⟩⟩
 ·rintro c st ⟨rfl,⟨rfl,hb⟩ | ⟨rfl,hb⟩⟩
  ·dsimp only
   rw [BL (by decide),BL<|by decide];unfold descPart;refine FN<|wpS_lift<|GX ⟨rfl,?_⟩;unfold descLoop;refine FN (wpS_mono (NZ (I:=λi c st=>c=(none,2,0)/\st=SortSt.mk' (tuples' true) #[(.ref x,.ref x),(.ref y,.ref y)] #[] 7 none) (Q:=λc st=>c=(none,2,0)/\st=SortSt.mk' (tuples' true) #[(.ref x,.ref x),(.ref y,.ref y)] #[] 7 none) (λi c st h1 h2 _=>by omega) (λc st h=>h) ⟨rfl,rfl⟩) ?_);rintro c st ⟨rfl,rfl⟩
   dsimp only
   rw [BL<|by decide];unfold tail3;refine FN<|wpS_reverse ?_;unfold ascLoop;refine FN (wpS_mono (NZ (I:=λi c st=>c=(none,2)/\st=SortSt.mk' (tuples' true) #[(.ref y,.ref y),(.ref x,.ref x)] #[] 7 none) (Q:=λc st=>c=(none,2)/\st=SortSt.mk' (tuples' true) #[(.ref y,.ref y),(.ref x,.ref x)] #[] 7 none) (λi c st h1 h2 _=>by omega) (λc st h=>h) ⟨rfl,rfl⟩) ?_);rintro c st ⟨rfl,rfl⟩
   dsimp only
   refine JF ?_;unfold jG at h;rw [BP hb] at h;exact h
  ·dsimp only
   rw [BP<|by decide];refine JF ?_;unfold jG at h;rw [BL<|by rw [hb];exact At] at h;exact h
theorem Uz{x y:Addr}{p q:Int×Int}{Q:Unit->SortSt->Prop}(hx:Pr s.heap x p)(hy:Pr s.heap y q)(h:∀ st,arrOf st=jG x y p q->failedOf st=none->Q () st) :
  wpS (model prog w) A E s sortRuns' Q (SortSt.mk' (tuples' true) #[(.ref x,.ref x),(.ref y,.ref y)] #[] 7 none):=by
 rw [sortRuns'_eq];refine FN<|wpS_get ?_
 dsimp only
 have UA:minRun' 2 2 0=2:=by rw [minRun'_succ,BP<|by decide]
 show wpS _ _ _ _ ((forIn [0:2] _ _) >>= _) _ _;have sz:(#[(Value.ref x,Value.ref x),(Value.ref y,Value.ref y)]:Array Keyed).size=2:=rfl;refine FN<|wpS_mono (NZ (I:=λi c st=>(i=0/\c=(none,0)/\st=SortSt.mk' (tuples' true) #[(.ref x,.ref x),(.ref y,.ref y)] #[] 7 none)\/(1<=i/\c=(none,2)/\st=SortSt.mk' (tuples' true) (jG x y p q) #[(0,2,0)] 7 none))
  (Q:=λc st=>c=(none,2)/\st=SortSt.mk' (tuples' true) (jG x y p q) #[(0,2,0)] 7 none) ?_ ?_ (.inl ⟨rfl,rfl,rfl⟩)) ?_
 ·rintro i c st h1 h2 (⟨rfl,rfl,rfl⟩ | ⟨hi,rfl,rfl⟩)
  ·dsimp only
   rw [BL<|by show ¬(0>=2);decide];refine FN ?_;show wpS _ _ _ _ (countRun' 0 2) _ _;refine Uy hx hy ?_
   dsimp only
   rw [BL<|by show ¬(2 < minRun' 2 2 0);rw [UA];decide];refine FN<|wpS_get ?_;show wpS _ _ _ _ (modify _ >>= _) _ _;exact FN<|wpS_modify<|JF<|.inr ⟨Am _,rfl,rfl⟩
  ·dsimp only
   rw [BP<|by show 2>=2;decide];exact JF ⟨rfl,rfl⟩
 ·rintro c st (⟨h1,_,_⟩ | ⟨_,hc,hs⟩)
  ·exact absurd h1<|by decide
  ·exact⟨hc,hs⟩
 ·rintro c st ⟨rfl,rfl⟩
  dsimp only
  refine FN<|wpS_mono (NZ (I:=λ_ c st=>st=SortSt.mk' (tuples' true) (jG x y p q) #[(0,2,0)] 7 none/\c=(none,())) (Q:=λc st=>st=SortSt.mk' (tuples' true) (jG x y p q) #[(0,2,0)] 7 none/\c=(none,())) ?_ (λ_ _ hh=>hh) ⟨rfl,rfl⟩) ?_
  ·rintro i c st _ _ ⟨rfl,rfl⟩;refine FN<|wpS_get ?_;rw [BP<|by show 1<=1;decide];exact JF ⟨rfl,rfl⟩
  ·rintro c st ⟨rfl,rfl⟩;exact JF<|h _ rfl rfl
theorem UB{a x y:Addr}{p q:Int×Int}{n:Nat}{P:Fin->Shared->Prop}(ho:s.heap.get? a=some (seqObj "list" #[.ref x,.ref y] n))(UC:a≠x)(UD:a≠y)(hx:Pr s.heap x p)(hy:Pr s.heap y q)
  (h:P (.done<|.ret .none) {s with heap:=sortedHeap s.heap a [.ref x,.ref y] (if lexLt p q then #[.ref y,.ref x] else #[.ref x,.ref y])}) :
  wpAny (model prog w) A (Builtin.«list.sort» ⟨[.ref a],[(Str.ofString "reverse",.bool true)]⟩) P E s:=by
 rw [list_sort_rev];have ha:a < s.heap.objs.size:=Av ho;refine BJ<|NQ ho rfl ?_;refine BJ<|KY ho rfl ?_;obtain⟨e1,ke⟩:∃ e1,(s.heap.update a<|Obj.mapSeq λ_=>#[]).get? a=some (seqObj "list" #[] e1):=⟨_,get?_update_seq ho λ_=>#[]⟩;refine BJ<|PL ke rfl ?_;refine BJ<|PK ?_;refine BJ<|JQ ?_;refine CK ?_;have mU:(((s.heap.update a<|Obj.mapSeq λ_=>#[]).push<|seqObj "tuple" [Value.ref x,Value.ref y].toArray 0).push<|seqObj "list" #[] 0).get? a=some (seqObj "list" #[] e1):=
  Af _ (Af _ ke)
 show wpAny (model prog w) A _ P E {s with heap:=((s.heap.update a<|Obj.mapSeq λ_=>#[]).push<|seqObj "tuple" [Value.ref x,Value.ref y].toArray 0).push (seqObj "list" #[] 0)};have keep:∀ z r,a≠z->Pr s.heap z r->Pr (((s.heap.update a<|Obj.mapSeq λ_=>#[]).push<|seqObj "tuple" [Value.ref x,Value.ref y].toArray 0).push<|seqObj "list" #[] 0) z r:=by
  rintro z r hz ⟨o,m,t,u,q1,q2⟩;exact⟨o,m,t,u,Af _<|Af _<|(Da _ _ hz).trans q1,q2⟩
 have kx:=keep x p UC hx;have ky:=keep y q UD hy
 dsimp only
 rw [BP rfl];refine BJ<|GX ?_;rw [BL<|by show ¬(2 < 2);decide];refine BJ<|Ux kx ky ?_;rw [BL<|by show ¬(2 < 2);decide];have e2:(if true=true then((#[Value.ref x,Value.ref y]:Array Value).zip #[Value.ref x,Value.ref y]).reverse else(#[Value.ref x,Value.ref y]:Array Value).zip #[Value.ref x,Value.ref y])=#[(Value.ref y,Value.ref y),(Value.ref x,Value.ref x)]:=by
  rw [BP rfl];simp
 rw [e2];refine BJ<|CV (Uz (Q:=λ_ st=>arrOf st=jG y x q p/\failedOf st=none) ky kx λst h1 h2=>⟨h1,h2⟩) ?_ λ_ _ e=>e;rintro ⟨⟨⟩,db⟩ s' ⟨rfl,hs,hf⟩
 dsimp only
 have e3:(if true=true then((arrOf db).map (·.2)).reverse else(arrOf db).map (·.2))=(if lexLt p q then #[.ref y,.ref x] else #[.ref x,.ref y]):=by
  rw [BP rfl,hs];unfold jG
  split <;> simp
 refine BJ<|PL mU rfl ?_;refine BJ (KY mU rfl ?_ (hsz2:=by rw [e3];split <;> exact Uv));rw [hf];simp only [FT,Az,CT];refine BK ?_;have e4:(λ_:Array Value=>if True then((arrOf db).map (·.2)).reverse else(arrOf db).map (·.2))=λ_=>(if lexLt p q then #[.ref y,.ref x] else #[.ref x,.ref y]):=by
  funext _
  rw [BP trivial];rw [BP rfl] at e3;exact e3
 rw [e4];exact h
theorem UE{l x y:Addr}{p q:Int×Int}{Q:Value->Shared->Prop}(hl:s.heap.IsList l #[.ref x,.ref y])(hx:Pr s.heap x p)(hy:Pr s.heap y q)
  (h:∀(h':Heap) (e:Nat),(∀ b u,s.heap.get? b=some u->h'.get? b=some u)->h'.get? (s.heap.objs.size+1)=some (seqObj "list" (if lexLt p q then #[.ref y,.ref x] else #[.ref x,.ref y]) e)->Q (.ref<|s.heap.objs.size+1) {s with heap:=h'}) :
  wpAny (model prog w) A (call (.builtin "sorted") [.ref l] [(Str.ofString "reverse",.bool true)]) Q E s:=by
 refine call_function_entry_kw kind_sorted plain_sorted entry_sorted (args_sorted_rev _ _) ?_;unfold Builtin.«sorted»;refine BJ (m:=checkCount "sorted" 1 1 _)<|BK ?_;refine BJ<|collect_list (vs:=[.ref x,.ref y]) hl ?_;refine BJ<|JQ ?_;have hsz:((s.heap.push<|seqObj "list" #[] 0).update s.heap.objs.size (Obj.mapSeq (·++[Value.ref x,Value.ref y].toArray))).objs.size=s.heap.objs.size+1:=by
  rw [Heap.size_update,size_push']
 have iI:(((s.heap.push<|seqObj "list" #[] 0).update s.heap.objs.size (Obj.mapSeq (·++[Value.ref x,Value.ref y].toArray))).push<|seqObj "list" [Value.ref x,Value.ref y].toArray 0).get? (s.heap.objs.size+1)=some (seqObj "list" [Value.ref x,Value.ref y].toArray 0):=by
  rw [<- hsz];exact As _ rfl
 have lx:x < s.heap.objs.size:=let ⟨_,_,_,_,e,_⟩:=hx;Av e
 have ly:y < s.heap.objs.size:=let ⟨_,_,_,_,e,_⟩:=hy;Av e
 have keep:∀ z r,Pr s.heap z r->Pr (((s.heap.push<|seqObj "list" #[] 0).update s.heap.objs.size (Obj.mapSeq (·++[Value.ref x,Value.ref y].toArray))).push<|seqObj "list" [Value.ref x,Value.ref y].toArray 0) z r:=by
  rintro z r ⟨o,m,t,u,q1,q2⟩;have hz:=Av q1;exact⟨o,m,t,u,Af _<|(Da _ _<|Cr hz).trans<|Af _ q1,q2⟩
 show wpAny _ _ _ _ _ {s with heap:=((s.heap.push<|seqObj "list" #[] 0).update s.heap.objs.size (Obj.mapSeq (·++[Value.ref x,Value.ref y].toArray))).push (seqObj "list" [Value.ref x,Value.ref y].toArray 0)};rw [hsz];refine BJ<|CK<|wpAny_call_entry_kw slot_list_sort ⟨_,iI,rfl⟩ entry_list_sort (UB iI (Cr<|Bp lx) (Cr<|Bp ly) (keep x p hx) (keep y q hy) ⟨_,rfl,?_⟩)<|args_list_sort_rev _ _;obtain⟨e,he⟩:=sortedAll_at s.heap [Value.ref x,Value.ref y] (if lexLt p q then #[.ref y,.ref x] else #[.ref x,.ref y]);exact BK ⟨_,rfl,h _ e (λb u hb=>sortedAll_old hb) he⟩
end
end bH
namespace L2
open PySem PySem.Spec PyProof.Rows bH
section
variable{X:Cx}{e:Expr}{σ:St}{H:Hp}{Q:VK}{pos p kp cp:Pos}{j:Nat}
theorem Jr{pins:List (Addr×Obj)}{s:Shared}{a:Addr}{i j:Int}(I:Inv X pins σ H s)(h:H a=some (.tup [.int i,.int j])):Pr s.heap a (i,j):=by
 obtain⟨its,r,pl,_⟩:=I.tuple<|a7.of h;obtain⟨u,v,rfl,⟨t,rfl⟩,⟨t',rfl⟩⟩:=vals2 r;obtain⟨o,ho,hc,n,hd⟩:=pl;exact⟨o,n,t,t',ho,hc,hd⟩
theorem UH(hm:X.mg "sorted" = none) (h:Ev X e σ H λv H1=>∃ l x y a b c d,v = .ref l/\H1 l=some (.lst [.ref x,.ref y])/\H1 x=some (.tup [.int a,.int b])/\H1 y=some (.tup [.int c,.int d]) /\
   ∀ r,H1 r=none->Q (.ref r) (upd H1 r<|.lst (if lexLt (a,b) (c,d) then [.ref y,.ref x] else [.ref x,.ref y]))) (hg:Gl X "sorted":=by rfl)
  (he:backTo pos (starEach [e] X.env)=(false,eval e X.env) :: backTo pos (starEach [] X.env):=by rfl) (bN:(backTo pos<|starEach [e] X.env).any (·.1)=false:=by rfl) (dS:isStar e=false:=by rfl) :
  Ev X (.Call (.Name "sorted" p) [e] [⟨some "reverse",.Constant (.bool true) j cp,kp⟩] pos) σ H Q:=by
 refine⟨λpins s I=>?_⟩;refine JW<|l9 I hg hm FP ?_;have hE:Ea X [e] σ H λvs H1=>∃ l x y a b c d,vs=[.ref l]/\H1 l=some (.lst [.ref x,.ref y])/\H1 x=some (.tup [.int a,.int b])/\H1 y=some (.tup [.int c,.int d]) /\
   ∀ r,H1 r=none->Q (.ref r) (upd H1 r<|.lst (if lexLt (a,b) (c,d) then [.ref y,.ref x] else [.ref x,.ref y])):=
  ao (h.mono λv H1 ⟨l,x,y,a,b,c,d,e1,r1⟩=>aA ⟨l,x,y,a,b,c,d,by rw [e1],r1⟩) dS
 refine callWith_kw (aP (hE.run pos pins s I) λus s1 ⟨vs,H1,I1,r1,l,x,y,a,b,c,d,ev,hl,hx,hy,q⟩=>?_) he bN;subst ev;obtain⟨u,rfl,ru⟩:=vals1 r1;cases (show u=Value.ref l from ru);refine kws_cons<|BK<|kws_nil ?_;obtain⟨its,r2,pl,_⟩:=I1.list<|al.of hl;obtain⟨u,v,rfl,ru,rv⟩:=vals2 r2;cases (show u=Value.ref x from ru);cases (show v=Value.ref y from rv);refine UE pl.isList (Jr I1 hx) (Jr I1 hy) λh' e kp he=>?_;refine⟨.ref _,_,I1.dX (s':={s1 with heap:=h'}) kp rfl rfl (Ep _) (show az X.prog X.w _ h' _ (.lst (if lexLt (a,b) (c,d) then [.ref y,.ref x] else [.ref x,.ref y])) from ?_),rfl,q _<|I1.aE.fresh<|Ep _⟩
 split at he
 ·rename_i hb;rw [BP hb];exact⟨by show 2<=sizeLine;rw [FJ];decide,[.ref y,.ref x],e,.cons rfl (.cons rfl .nil),he⟩
 ·rename_i hb;rw [BL hb];exact⟨by show 2<=sizeLine;rw [FJ];decide,[.ref x,.ref y],e,.cons rfl (.cons rfl .nil),he⟩
end
end L2
namespace Nt
open PySem
abbrev Net:=List<|Str×List Str
abbrev End:=Nat×Nat
def row(n:Net)(r:Nat):List Str:=((n[r]?).map (·.2)).getD []
def aF(n:Net)(e:End):Option Str:=(row n e.1)[e.2]?
def bo(r:Nat)(ts:List Str)(p:Nat):List (Str×End):=(ts.zipIdx p).map λx=>(x.1,(r,x.2))
def dQ(r:Nat):Net->List (Str×End)
 | []=>[]
 | a :: n=>bo r a.2 0++dQ (r+1) n
def bh(n:Net):List (Str×End):=dQ 0 n
def ends(n:Net):List End:=(bh n).map (·.2)
def ag(n:Net):List Str:=n.flatMap (·.2)
def pos(n:Net)(z:Str):List End:=((bh n).filter λx=>decide (x.1=z)).map (·.2)
theorem aW{r:Nat}{ts:List Str}{p:Nat}{z:Str}{e:End}:(z,e)∈bo r ts p↔e.1=r/\p<=e.2/\ts[e.2 - p]?=some z:=by
 unfold bo;rw [Aj]
 constructor
 ·rintro ⟨⟨y,k⟩,hm,he⟩;cases he;have:=Fm.mp hm;exact⟨rfl,this.1,this.2⟩
 ·rintro ⟨h1,h2,h3⟩;refine⟨(z,e.2),Fm.mpr ⟨h2,h3⟩,?_⟩;rw [<- h1]
theorem bj:∀{n:Net} {k:Nat} {z:Str} {e:End},(z,e)∈dQ k n↔k<=e.1/\(row n<|e.1 - k)[e.2]?=some z
 | [],k,z,e=>by
  constructor
  ·intro h;cases h
  ·rintro ⟨_,h⟩;simp [row] at h
 | a :: n,k,z,e=>by
  unfold dQ;rw [An,aW,bj]
  constructor
  ·rintro (⟨h1,_,h3⟩ | ⟨h1,h2⟩)
   ·refine⟨by omega,?_⟩;rw [show e.1 - k=0 by omega]
    simpa [row] using h3
   ·refine⟨by omega,?_⟩;rw [show e.1 - k=(e.1 - (k+1))+1 by omega]
    simpa [row] using h2
  ·rintro ⟨h1,h2⟩
   rcases Db k e.1 with h | h
   ·refine .inr ⟨h,?_⟩;rw [show e.1 - k=(e.1 - (k+1))+1 by omega] at h2
    simpa [row] using h2
   ·refine .inl ⟨by omega,Bq _,?_⟩;rw [show e.1 - k=0 by omega] at h2
    simpa [row] using h2
theorem aN{n:Net}{z:Str}{e:End}:(z,e)∈bh n↔aF n e=some z:=by
 unfold bh aF;rw [bj];simp
theorem af{n:Net}{e:End}:e∈ends n↔∃ z,aF n e=some z:=by
 unfold ends;rw [Aj]
 constructor
 ·rintro ⟨⟨z,e'⟩,h,rfl⟩;exact⟨z,aN.mp h⟩
 ·rintro ⟨z,h⟩;exact⟨(z,e),aN.mpr h,rfl⟩
theorem aH{n:Net}{z:Str}{e:End}:e∈pos n z↔aF n e=some z:=by
 unfold pos;rw [Aj]
 constructor
 ·rintro ⟨⟨y,e'⟩,h,rfl⟩;rw [Bf,DR] at h;obtain⟨h1,h2⟩:=h;subst h2;exact aN.mp h1
 ·intro h;exact⟨(z,e),Bf.mpr ⟨aN.mpr h,by simp⟩,rfl⟩
theorem UI(r:Nat):∀(ts:List Str) (p:Nat),(bo r ts p).map (·.1)=ts:=by
 intro ts p;unfold bo;rw [Ck];have:((λx:Str×End=>x.1) ∘ λx:Str×Nat=>(x.1,(r,x.2)))=Prod.fst:=rfl;rw [this,List.zipIdx_map_fst]
theorem jH:∀(n:Net) (k:Nat),(dQ k n).map (·.1)=ag n
 | [],_=>rfl
 | a :: n,k=>by
  unfold dQ ag;rw [Al,UI,jH n<|k+1,Cd];rfl
theorem UK(r:Nat)(ts:List Str)(p:Nat):((bo r ts p).map (·.2)).Nodup:=by
 unfold bo;rw [Ck];have e:((λx:Str×End=>x.2) ∘ λx:Str×Nat=>(x.1,(r,x.2)))=(λk:Nat=>(r,k)) ∘ Prod.snd:=rfl;rw [e,<- Ck,List.zipIdx_map_snd];refine QF _ (R:=(·≠·)) ?_ List.nodup_range';intro a b h fK;exact h (Prod.mk.inj fK).2
theorem Js:∀(n:Net) (k:Nat),((dQ k n).map (·.2)).Nodup
 | [],_=>Cj
 | a :: n,k=>by
  unfold dQ;rw [Al,Bv];refine⟨UK _ _ _,Js n<|k+1,?_⟩;intro x hx y hy e;subst e;obtain⟨⟨z,e1⟩,h1,rfl⟩:=Aj.mp hx;obtain⟨⟨z2,e2⟩,h2,he⟩:=Aj.mp hy;simp only at he;subst he;have q1:=(aW.mp h1).1;have q2:=(bj.mp h2).1;omega
theorem lz(n:Net):(ends n).Nodup:=Js n 0
theorem Jt(n:Net)(z:Str):(pos n z).Nodup:=by
 unfold pos;exact(lz n).sublist<|List.Sublist.map _<|List.filter_sublist
theorem qw(n:Net)(z:Str):(pos n z).length=(ag n).count z:=by
 unfold pos;rw [Ab,<- jH n 0,<- List.countP_eq_length_filter,List.count,List.countP_map];rfl
def aj(n:Net):Prop:=∀ z∈ag n,(ag n).count z=2
theorem dE{n:Net}{e:End}{z:Str}(h:aF n e=some z):z∈ag n:=by
 have:=aN.mpr h;rw [<- jH n 0];exact Aj.mpr ⟨_,this,rfl⟩
def other(n:Net)(e:End):End:=match aF n e with
 | some z=>(match pos n z with
  | [a,b]=>if a=e then b else a
  | _=>e)
 | none=>e
theorem mV{n:Net}(T:aj n){e:End}{z:Str}(h:aF n e=some z):∃ a b,pos n z=[a,b]/\a≠b/\(e=a\/e=b):=by
 have hl:=qw n z;rw [T z<|dE h] at hl;have hn:=Jt n z;have hm:=aH.mpr h
 match hp:pos n z,hl with
 | [a,b],_=>
  rw [hp] at hn hm;refine⟨a,b,rfl,?_,?_⟩
  ·intro e;subst e;simp at hn
  ·simpa using hm
theorem cf{n:Net}(T:aj n){e:End}{z:Str}(h:aF n e=some z):aF n (other n e)=some z/\other n (other n e)=e/\other n e≠e:=by
 obtain⟨a,b,hp,fK,he⟩:=mV T h;have ha:aF n a=some z:=aH.mp (by rw [hp];simp);have hb:aF n b=some z:=aH.mp<|by rw [hp];simp
 rcases he with rfl | rfl
 ·have e1:other n e=b:=by unfold other;simp only [h,hp];simp
  have e2:other n b=e:=by unfold other;simp only [hb,hp];simp [fK]
  rw [e1];exact⟨hb,e2,fK.symm⟩
 ·have e1:other n e=a:=by unfold other;simp only [h,hp];simp [fK]
  have e2:other n a=e:=by unfold other;simp only [ha,hp];simp
  rw [e1];exact⟨ha,e2,fK⟩
def left(n:Net)(e:End):End:=(e.1,(e.2+1) % (row n e.1).length)
def step(n:Net)(e:End):End:=left n (other n e)
theorem fY{n:Net}{e:End}{z:Str}(h:aF n e=some z):e.2 < (row n e.1).length:=(Ac.mp h).1
theorem b6{n:Net}{e:End}{z:Str}(h:aF n e=some z):e.1 < n.length:=by
 rcases Db e.1 n.length with c | c
 ·exact c
 ·have:=fY h;unfold row at this;rw [Bb c] at this;simp at this
theorem qz{n:Net}{e:End}(h:e.2 < (row n e.1).length):∃ z,aF n e=some z:=⟨_,Aa h⟩
theorem UL{n:Net}{e:End}(h:e∈ends n):left n e∈ends n:=by
 obtain⟨z,h⟩:=af.mp h;have:=fY h;exact af.mpr<|qz (show(e.2+1) % (row n e.1).length < (row n e.1).length from Gz _<|by omega)
theorem cM{n:Net}(T:aj n){e:End}(h:e∈ends n):other n e∈ends n:=by
 obtain⟨z,h⟩:=af.mp h;exact af.mpr ⟨z,(cf T h).1⟩
theorem jI{n:Net}(T:aj n){e:End}(h:e∈ends n):step n e∈ends n:=UL<|cM T h
theorem UM{n:Net}{a b:End}(ha:a∈ends n)(hb:b∈ends n)(h:left n a=left n b):a=b:=by
 obtain⟨z,ha⟩:=af.mp ha;obtain⟨y,hb⟩:=af.mp hb;have la:=fY ha;have lb:=fY hb;unfold left at h;obtain⟨h1,h2⟩:=Prod.mk.inj h;rw [h1] at la h2;have:a.2=b.2:=by
  rcases Db (a.2+1) (row n b.1).length with c | c <;> rcases Db (b.2+1) (row n b.1).length with d | d
  ·rw [Bx c,Bx d] at h2;omega
  ·have e:b.2+1=(row n b.1).length:=by omega
   rw [Bx c,e,Ee] at h2;omega
  ·have e:a.2+1=(row n b.1).length:=by omega
   rw [Bx d,e,Ee] at h2;omega
  ·omega
 exact HJ h1 this
theorem Ju{n:Net}(T:aj n){a b:End}(ha:a∈ends n)(hb:b∈ends n)(h:other n a=other n b):a=b:=by
 obtain⟨z,ha⟩:=af.mp ha;obtain⟨y,hb⟩:=af.mp hb;rw [<- (cf T ha).2.1,h,(cf T hb).2.1]
theorem ud{n:Net}(T:aj n){a b:End}(ha:a∈ends n)(hb:b∈ends n)(h:step n a=step n b):a=b:=
 Ju T ha hb (UM (cM T ha) (cM T hb) h)
theorem aU{α:Type} [DecidableEq α]:∀{a b:List α},a.Nodup->(∀ z∈a,z∈b)->a.length<=b.length
 | [],b,_,_=>Bq _
 | x :: r,b,hn,hs=>by
  rw [Bg] at hn;have hx:=hs x Ad;have:=aU (a:=r) (b:=b.erase x) hn.2 λz hz=>by
   have bu:z≠x:=λe=>hn.1<|e ▸ hz;exact(Gs bu).mpr<|hs z<|Ae _ hz
  rw [QT hx] at this;have hp:0 < b.length:=List.length_pos_of_mem hx;rw [Au];omega
def it{α:Type}(f:α->α):Nat->α->α
 | 0,a=>a
 | k+1,a=>f<|it f k a
theorem gB{α:Type}{f:α->α}{S:List α}(hf:∀ a∈S,f a∈S){a:α}(h:a∈S):∀ k,it f k a∈S
 | 0=>h
 | k+1=>hf _<|gB hf h k
theorem uf{α:Type} [DecidableEq α] {f:α->α} {S:List α} (hf:∀ a∈S,f a∈S) (inj:∀ a∈S,∀ b∈S,f a=f b->a=b) {a:α} (h:a∈S):∃ k,0 < k/\k<=S.length/\it f k a=a:=by
 have cancel:∀ i j,it f i a=it f (i+j) a->it f j a=a:=by
  intro i
  induction i with
  | zero=>intro j e;rw [Ec] at e;exact e.symm
  | succ i ih=>
   intro j e;refine ih j ?_;rw [show i+1+j=(i+j)+1 by omega] at e;exact inj _ (gB hf h i) _ (gB hf h<|i+j) e
 refine DN λhn=>?_;have nd:((List.range<|S.length+1).map λi=>it f i a).Nodup:=by
  refine QF _ (R:=λi j=>i < j/\j < S.length+1) ?_ ?_
  ·rintro i j ⟨h1,h2⟩ e;refine hn ⟨j - i,by omega,by omega,cancel i (j - i) ?_⟩;rw [show i+(j - i)=j by omega];exact e
  ·rw [Be];intro i j hi hj dv;simp only [Fd];simp at hj;exact⟨dv,hj⟩
 have:=aU nd λz hz=>by
  obtain⟨i,_,rfl⟩:=Aj.mp hz;exact gB hf h i
 simp at this;omega
theorem gW:∀(n:Net) (r:Nat),(row n r).length<=(ag n).length
 | [],r=>by simp [row,ag]
 | a :: n,0=>by simp [row,ag]
 | a :: n,r+1=>by
  have:=gW n r;simp [row,ag] at this ⊢;omega
theorem Jv:∀(n:Net) (r:Nat),(ag<|n.take r).length<=(ag n).length
 | [],r=>by simp [ag]
 | a :: n,0=>by simp [ag]
 | a :: n,r+1=>by
  have:=Jv n r;simp [ag] at this ⊢;omega
structure cN(n:Net)(e:Nt.End)(fs:List End):Prop where
 pos:0 < fs.length
 len:fs.length<=(ends n).length
 at':∀ i,i < fs.length->fs[i]?=some (it (step n) i e)
 back:it (step n) fs.length e=e
 first:∀ i,0 < i->i < fs.length->it (step n) i e≠e
open L2
abbrev Ls(zs:List Str):HO:= .lst<|zs.map V.str
abbrev Tp(e:End):HO:= .tup [.int e.1,.int e.2]
structure ai(H:Hp)(R:Addr)(as:List<|Addr×Addr)(n:Net):Prop where
 len:as.length=n.length
 lst:H R=some (.lst<|as.map λa=> .ref a.1)
 tup:∀(i:Nat) a r,as[i]?=some a->n[i]?=some r->H a.1=some (.tup [.str r.1,.ref a.2])/\H a.2=some (Ls r.2)
 inj:(as.map (·.2)).Nodup
theorem ai.same{H H':Hp}{R:Addr}{as:List (Addr×Addr)}{n:Net}(h:ai H R as n)(s:ak H H'):ai H' R as n:=
 ⟨h.len,s _ _ h.lst,λi a r h1 h2=>⟨s _ _ (h.tup i a r h1 h2).1,s _ _ (h.tup i a r h1 h2).2⟩,h.inj⟩
theorem ai.at{H:Hp}{R:Addr}{as:List (Addr×Addr)}{n:Net}(h:ai H R as n){i:Nat}(hi:i < n.length) :
  ∃ a,as[i]?=some a/\dW (as.map λa=>V.ref a.1) (i:Int)=some (.ref a.1)/\H a.1=some (.tup [.str n[i].1,.ref a.2])/\H a.2=some (Ls<|row n i)/\row n i=n[i].2:=by
 have hl:=h.len;have e:as[i]?=some as[i]:=Aa (by omega);have er:row n i=n[i].2:=by unfold row;rw [Aa hi];rfl
 have q:=h.tup i as[i] n[i] e<|Aa hi;refine⟨as[i],e,kZ (by rw [Ai,e];rfl),q.1,?_,er⟩;rw [er];exact q.2
theorem yH{zs:List Str}{j:Nat}{z:Str}(h:zs[j]?=some z):dW (zs.map V.str) (j:Int)=some (.str z):=kZ<|by rw [Ai,h];rfl
inductive Pd (H:Hp):List Addr->List End->Prop where
 | nil:Pd H [] []
 | cons {t:Addr} {e:End} {ts:List Addr} {es:List End}:H t=some (Tp e)->Pd H ts es->Pd H (t :: ts) (e :: es)
theorem Pd.append{H:Hp}{ts us:List Addr}{es fs:List End}(h:Pd H ts es)(g:Pd H us fs):Pd H (ts++us) (es++fs):=by
 induction h with
 | nil=>exact g
 | cons h1 _ ih=>exact .cons h1 ih
theorem Pd.keep{H H':Hp}{ts:List Addr}{es:List End}(h:Pd H ts es)(k:∀ t e,H t=some (Tp e)->H' t=some (Tp e)):Pd H' ts es:=by
 induction h with
 | nil=>exact .nil
 | cons h1 _ ih=>exact .cons (k _ _ h1) ih
theorem Pd.length{H:Hp}{ts:List Addr}{es:List End}(h:Pd H ts es):ts.length=es.length:=by
 induction h with
 | nil=>rfl
 | cons _ _ ih=>rw [Au,Au,ih]
theorem Pd.at{H:Hp}{ts:List Addr}{es:List End}(h:Pd H ts es):∀{i:Nat} {e:End},es[i]?=some e->∃ t,ts[i]?=some t/\H t=some (Tp e):=by
 induction h with
 | nil=>intro i e h;simp at h
 | cons h1 _ ih=>
  intro i e h;cases i with
  | zero=>simp at h;subst h;exact⟨_,rfl,h1⟩
  | succ i=>simp only [Gb] at h ⊢;exact ih h
def bS(done:List<|Str×End)(z:Str):List End:=(done.filter λx=>decide (x.1=z)).map (·.2)
theorem fN(done:List<|Str×End)(y z:Str)(e:End):bS (done++[(y,e)]) z=bS done z++(if y=z then [e] else []):=by
 unfold bS;rw [Dh,Al]
 congr 1
 by_cases h:y=z
 ·rw [BP h];simp [h]
 ·rw [BL h];simp [h]
structure aX(H0 H:Hp)(d:Addr)(done:List<|Str×End)(kvs:List<|Key×V)(ks:List Str)(A:Str->Option (Addr×List Addr)):Prop where
 same:ak H0 H
 free:H0 d=none
 dict:H d=some (.dK kvs)
 keys:kvs.map (·.1)=ks.map Sum.inr
 nodup:ks.Nodup
 mem:∀ z,z∈ks↔(A z).isSome=true
 val:∀ z,aK kvs (Sum.inr z)=(A z).map λa=> .ref a.1
 at':∀ z a ts,A z=some (a,ts)->H0 a=none/\a≠d/\H a=some (.lst<|ts.map V.ref)/\Pd H ts (bS done z)
 inj:∀ z y a ts us,A z=some (a,ts)->A y=some (a,us)->z=y
 fz:∀ z,A z=none->bS done z=[]
 some':∀ z a ts,A z=some (a,ts)->bS done z≠[]
theorem aX.start{H:Hp}{d:Addr}(h:H d=none):aX H (upd H d<|.dK []) d [] [] [] (λ_=>none) where
 same:=λb u q=>by rw [ay<|bt q h];exact q
 free:=h
 dict:=aD
 keys:=rfl
 nodup:=Cj
 mem:=λz=>by simp
 val:=λz=>rfl
 at':=λz a ts h=>by cases h
 inj:=λz y a ts us h=>by cases h
 fz:=λz _=>rfl
 some':=λz a ts h=>by cases h
theorem qA{H:Hp}{t a:Addr}{e:End}{xs:List V}(h:H t=some (Tp e))(g:H a=some (.lst xs)):t≠a:=b9 h g λz=>nomatch z
theorem aX.old{H0 H:Hp}{d:Addr}{done:List (Str×End)}{kvs:List (Key×V)}{ks:List Str}{A:Str->Option (Addr×List Addr)}(S:aX H0 H d done kvs ks A){z:Str}{e:End}{a l0 t:Addr}{ts:List Addr}
  (hA:A z=some (a,ts)) (hl:H l0=none) (ht:(upd H l0<|.lst []) t=none) :
  aX H0 (upd (upd (upd H l0<|.lst []) t<|Tp e) a<|.lst<|ts.map V.ref++[.ref t]) d (done++[(z,e)]) kvs ks (λy=>if y=z then some (a,ts++[t]) else A y):=by
 obtain⟨q1,q2,q3,q4⟩:=S.at' z a ts hA;have ug:H t=none:=by
  by_cases c:t=l0
  ·rw [c,aD] at ht;cases ht
  ·rwa [ay c] at ht
 have uh:l0≠a:=(bt q3 hl).symm;have ui:t≠a:=(bt q3 ug).symm;have oM:a≠t:=ui.symm;have keep:∀ b u,b≠a->H b=some u->(upd (upd (upd H l0<|.lst []) t<|Tp e) a<|.lst<|ts.map V.ref++[.ref t]) b=some u:=λb u h1 h2=>by
  rw [ay h1,ay<|bt h2 ug,ay<|bt h2 hl];exact h2
 have kt:∀ b f,H b=some (Tp f)->(upd (upd (upd H l0<|.lst []) t<|Tp e) a<|.lst<|ts.map V.ref++[.ref t]) b=some (Tp f):=λb f h=>keep b _ (qA h q3) h;have et:(upd (upd (upd H l0<|.lst []) t<|Tp e) a<|.lst<|ts.map V.ref++[.ref t]) t=some (Tp e):=by rw [ay ui,aD]
 refine⟨λb u h=>?_,S.free,keep d _ (CN q2) S.dict,S.keys,S.nodup,λy=>?_,λy=>?_,λy a' gC h=>?_,λy y' a' gC us h1 h2=>?_,λy h=>?_,λy a' gC h=>?_⟩
 ·exact keep b u (bt h q1)<|S.same _ _ h
 ·rw [S.mem y]
  by_cases c:y=z
  ·rw [BP c,c,hA];simp
  ·rw [BL c]
 ·rw [S.val y]
  by_cases c:y=z
  ·rw [BP c,c,hA];rfl
  ·rw [BL c]
 ·by_cases c:y=z
  ·rw [BP c] at h;cases h;refine⟨q1,q2,by rw [aD,Al];rfl,?_⟩;rw [fN,c,BP rfl];exact(q4.keep kt).append<|.cons et .nil
  ·rw [BL c] at h;obtain⟨r1,r2,r3,r4⟩:=S.at' y a' gC h;have bu:a'≠a:=λe2=>c<|S.inj y z a gC ts (e2 ▸ h) hA;refine⟨r1,r2,keep _ _ bu r3,?_⟩;rw [fN,BL λh=>c h.symm,Bz];exact r4.keep kt
 ·by_cases c:y=z <;> by_cases c':y'=z
  ·rw [c,c']
  ·rw [BP c] at h1;rw [BL c'] at h2;cases h1;exact absurd (S.inj y' z a us ts h2 hA) c'
  ·rw [BL c] at h1;rw [BP c'] at h2;cases h2;exact absurd (S.inj y z a gC ts h1 hA) c
  ·rw [BL c] at h1;rw [BL c'] at h2;exact S.inj y y' a' gC us h1 h2
 ·by_cases c:y=z
  ·rw [BP c] at h;cases h
  ·rw [BL c] at h;rw [fN,BL λh=>c h.symm,Bz];exact S.fz y h
 ·by_cases c:y=z
  ·rw [fN,BP c.symm];simp
  ·rw [BL c] at h;rw [fN,BL λh=>c h.symm,Bz];exact S.some' y a' gC h
theorem aX.new{H0 H:Hp}{d:Addr}{done:List (Str×End)}{kvs:List (Key×V)}{ks:List Str}{A:Str->Option (Addr×List Addr)}(S:aX H0 H d done kvs ks A){z:Str}{e:End}{l0 t:Addr}
  (hA:A z=none) (hl:H l0=none) (ht:(upd (upd H l0<|.lst []) d<|.dK<|putK kvs (Sum.inr z)<|.ref l0) t=none) :
  aX H0 (upd (upd (upd (upd H l0<|.lst []) d<|.dK<|putK kvs (Sum.inr z)<|.ref l0) t<|Tp e) l0<|.lst [.ref t]) d (done++[(z,e)]) (putK kvs (Sum.inr z)<|.ref l0) (ks++[z]) (λy=>if y=z then some (l0,[t]) else A y):=by
 have iu:d≠l0:=bt S.dict hl;have yI:t≠d:=λc=>by rw [c,aD] at ht;cases ht
 have mW:t≠l0:=λc=>by rw [ay yI,c,aD] at ht;cases ht
 have ug:H t=none:=by rwa [ay yI,ay mW] at ht
 have vn:aK kvs (Sum.inr z)=none:=by rw [S.val z,hA];rfl
 have keep:∀ b u,b≠d->H b=some u->(upd (upd (upd (upd H l0<|.lst []) d<|.dK<|putK kvs (Sum.inr z)<|.ref l0) t<|Tp e) l0<|.lst [.ref t]) b=some u:=λb u h1 h2=>by
  rw [ay<|bt h2 hl,ay<|bt h2 ug,ay h1,ay<|bt h2 hl];exact h2
 have kt:∀ b f,H b=some (Tp f)->(upd (upd (upd (upd H l0<|.lst []) d<|.dK<|putK kvs (Sum.inr z)<|.ref l0) t<|Tp e) l0<|.lst [.ref t]) b=some (Tp f):=λb f h=>keep b _ (b9 h S.dict λz=>nomatch z) h;have UN:H0 l0=none:=S.same.free hl;have zk:z∉ks:=λh=>by
  have:=(S.mem z).mp h;rw [hA] at this;cases this
 refine⟨λb u h=>?_,S.free,?_,?_,?_,λy=>?_,λy=>?_,λy a' gC h=>?_,λy y' a' gC us h1 h2=>?_,λy h=>?_,λy a' gC h=>?_⟩
 ·exact keep b u (bt h S.free)<|S.same _ _ h
 ·rw [ay iu,ay yI.symm,aD]
 ·rw [Hw _ vn,Al,S.keys,Al];rfl
 ·rw [Bv];exact⟨S.nodup,by simp,λx hx y hy e=>by rw [Ah] at hy;subst hy e;exact zk hx⟩
 ·rw [An,Ah,S.mem y]
  by_cases c:y=z
  ·rw [BP c];simp [c]
  ·rw [BL c];simp [c]
 ·rw [fQ]
  by_cases c:y=z
  ·rw [BP (by rw [c]),BP c];rfl
  ·rw [BL λh=>c<|Sum.inr.inj h,BL c,S.val y]
 ·by_cases c:y=z
  ·rw [BP c] at h;cases h;refine⟨UN,iu.symm,by rw [aD];rfl,?_⟩;rw [fN,c,BP rfl,S.fz z hA];exact .cons (by rw [ay mW,aD]) .nil
  ·rw [BL c] at h;obtain⟨r1,r2,r3,r4⟩:=S.at' y a' gC h;refine⟨r1,r2,keep _ _ r2 r3,?_⟩;rw [fN,BL λh=>c h.symm,Bz];exact r4.keep kt
 ·by_cases c:y=z <;> by_cases c':y'=z
  ·rw [c,c']
  ·rw [BP c] at h1;rw [BL c'] at h2;cases h1;exact absurd hl<|by rw [(S.at' y' l0 us h2).2.2.1];exact λh=>nomatch h
  ·rw [BL c] at h1;rw [BP c'] at h2;cases h2;exact absurd hl<|by rw [(S.at' y l0 gC h1).2.2.1];exact λh=>nomatch h
  ·rw [BL c] at h1;rw [BL c'] at h2;exact S.inj y y' a' gC us h1 h2
 ·by_cases c:y=z
  ·rw [BP c] at h;cases h
  ·rw [BL c] at h;rw [fN,BL λh=>c h.symm,Bz];exact S.fz y h
 ·by_cases c:y=z
  ·rw [fN,BP c.symm];simp
  ·rw [BL c] at h;rw [fN,BL λh=>c h.symm,Bz];exact S.some' y a' gC h
theorem yJ:∀(n m:Net) (k:Nat),dQ k (n++m)=dQ k n++dQ (k+n.length) m
 | [],m,k=>rfl
 | a :: n,m,k=>by
  show bo k a.2 0++dQ (k+1) (n++m)=(bo k a.2 0++dQ (k+1) n)++dQ (k+(n.length+1)) m;rw [yJ n m<|k+1,Ar,show k+1+n.length=k+(n.length+1) by omega]
theorem qB{n:Net}{r:Nat}(h:r < n.length):bh (n.take<|r+1)=bh (n.take r)++bo r (row n r) 0:=by
 unfold bh;rw [Do,Aa h,yJ];have e:(n.take r).length=r:=by rw [Br];omega
 rw [e,Ec];have er:row n r=n[r].2:=by unfold row;rw [Aa h];rfl
 rw [er];show _++(bo r n[r].2 0++[])=_;rw [Bz]
theorem oN{r:Nat}{ts:List Str}{p:Nat}{z:Str}(h:ts[p]?=some z):bo r (ts.take<|p+1) 0=bo r (ts.take p) 0++[(z,(r,p))]:=by
 unfold bo;have hp:=(Ac.mp h).1;rw [Do,h,List.zipIdx_append,Al];have e:(ts.take p).length=p:=by rw [Br];omega
 rw [e,Ec];rfl
structure bz(H:Hp)(d:Addr)(n:Net)(ks:List Str):Prop where
 dict:∃ kvs,H d=some (.dK kvs)/\kvs.map (·.1)=ks.map Sum.inr/\∀ z∈ag n,∃ a ts,aK kvs (Sum.inr z)=some (.ref a)/\H a=some (.lst<|ts.map V.ref)/\Pd H ts (pos n z)
 nodup:ks.Nodup
 mem:∀ z,z∈ks↔z∈ag n
theorem bz.same{H H':Hp}{d:Addr}{n:Net}{ks:List Str}(S:bz H d n ks)(s:ak H H'):bz H' d n ks:=by
 obtain⟨kvs,h1,h2,h3⟩:=S.dict;refine⟨⟨kvs,s _ _ h1,h2,λz hz=>?_⟩,S.nodup,S.mem⟩;obtain⟨a,ts,q1,q2,q3⟩:=h3 z hz;exact⟨a,ts,q1,s _ _ q2,q3.keep λt e h=>s _ _ h⟩
theorem bW{n:Net}{z:Str}:z∈ag n↔pos n z≠[]:=by
 rw [<- Ds,<- qw,Cn]
theorem aX.whole{H0 H:Hp}{d:Addr}{n:Net}{kvs:List (Key×V)}{ks:List Str}{A:Str->Option (Addr×List Addr)}(S:aX H0 H d (bh n) kvs ks A):bz H d n ks:=by
 have mem:∀ z,z∈ks↔z∈ag n:=λz=>by
  rw [S.mem z,bW];cases h:A z with
  | none=>simp;exact S.fz z h
  | some p=>
   obtain⟨a,ts⟩:=p;simp;exact S.some' z a ts h
 refine⟨⟨kvs,S.dict,S.keys,λz hz=>?_⟩,S.nodup,mem⟩;have:=(S.mem z).mp<|(mem z).mpr hz;cases h:A z with
 | none=>rw [h] at this;cases this
 | some p=>
  obtain⟨a,ts⟩:=p;obtain⟨q1,q2,q3,q4⟩:=S.at' z a ts h;exact⟨a,ts,by rw [S.val z,h];rfl,q3,q4⟩
theorem all2(e:Nat->Bool):(List.range 2).all e=(e 0 && e 1):=by
 show(([0,1]:List Nat).all e)=_;simp
theorem Jw(x y:End):(cz (.int x.1) (.int y.1) && cz (.int x.2) (.int y.2))=decide (x=y):=by
 obtain⟨a,b⟩:=x;obtain⟨c,d⟩:=y
 by_cases h:a=c <;> by_cases h2:b=d
 ·subst h h2;simp [cz]
 ·have:¬(b:Int)=(d:Int):=λe=>h2 (by omega);simp [cz,h2,this]
 ·have:¬(a:Int)=(c:Int):=λe=>h (by omega);simp [cz,h,this]
 ·have:¬(a:Int)=(c:Int):=λe=>h (by omega);simp [cz,h,this]
section
variable{X:Cx}{H:Hp}{s t:Addr}{x y:End}
theorem Jx:∀(j:Nat) (u v:V),[V.int x.1,.int x.2][j]?=some u->[V.int y.1,.int y.2][j]?=some v->i5 X H 0 u v (if j=0 then cz (.int x.1) (.int y.1) else cz (.int x.2) (.int y.2))
 | 0,u,v,h1,h2=>by
  cases h1;cases h2;exact qu rfl rfl
 | 1,u,v,h1,h2=>by
  cases h1;cases h2;exact qu rfl rfl
 | j+2,u,v,h1,h2=>by simp at h1
theorem UO(hs:H s=some (Tp x))(ht:H t=some (Tp y)):kh X H 1 (.ref s) (.ref t) (decide (x=y)):=by
 have:=Jj (X:=X) (k:=0) (λj=>if j=0 then cz (.int x.1) (.int y.1) else cz (.int x.2) (.int y.2)) (a7.of hs) (a7.of ht) rfl Jx;rw [show([V.int (x.1:Int),.int x.2].length)=2 from rfl,all2] at this;have e:=Jw x y;simp only [DK] at this;rw [BL (by decide),e] at this;exact this
theorem UP(hs:H s=some (Tp x))(ht:H t=some (Tp y)):mS X H 1 (.ref s) (.ref t) (decide (x=y)):=by
 have:=Jk (X:=X) (k:=0) (λj=>if j=0 then cz (.int x.1) (.int y.1) else cz (.int x.2) (.int y.2)) (a7.of hs) (a7.of ht) rfl Jx;rw [show([V.int (x.1:Int),.int x.2].length)=2 from rfl,all2] at this;have e:=Jw x y;simp only [DK] at this;rw [BL (by decide),e] at this;exact this
end
abbrev lets:Str:= "abcdefghijklmnopqrstuvwxyz0123456789"
theorem Jy:lets.cps.toList.length=36:=by decide +kernel
theorem UQ:lets.cps.toList.Nodup:=by decide +kernel
def sgn(i:Int):Nat:=(dW lets.cps.toList<|i % 36).getD 0
theorem yK(i:Int):dW lets.cps.toList (i % 36)=some (sgn i):=by
 have h0:0<=i % 36:=Bt _ (by decide);have h1:i % 36 < 36:=Cc _ (by decide);have hj:(i % 36).toNat < lets.cps.toList.length:=by rw [Jy];omega
 have q:=kZ (xs:=lets.cps.toList) (j:=(i % 36).toNat) (v:=lets.cps.toList[(i % 36).toNat]) (by simp [hj]);rw [show(((i % 36).toNat:Nat):Int)=i % 36 by omega] at q;unfold sgn;rw [q];rfl
theorem Jz{i j:Int}(h:sgn i=sgn j):i % 36=j % 36:=by
 have key:∀ k:Int,lets.cps.toList[(k % 36).toNat]?=some (sgn k):=λk=>by
  have h0:0<=k % 36:=Bt _ (by decide);have h1:k % 36 < 36:=Cc _ (by decide);have hj:(k % 36).toNat < lets.cps.toList.length:=by rw [Jy];omega
  have q:=kZ (xs:=lets.cps.toList) (j:=(k % 36).toNat) (v:=lets.cps.toList[(k % 36).toNat]) (by simp [hj]);rw [show(((k % 36).toNat:Nat):Int)=k % 36 by omega,yK] at q;rw [Aa hj,Option.some.inj q]
 have hi:=key i;have hj:=key j;rw [h] at hi;obtain⟨l1,e1⟩:=Ac.mp hi;obtain⟨l2,e2⟩:=Ac.mp hj;have:=(Gp (xs:=lets.cps.toList) (h₀:=l1) (h₁:=l2) UQ).mp<|e1.trans e2.symm;have a0:0<=i % 36:=Bt _ (by decide);have b0:0<=j % 36:=Bt _ (by decide);omega
def turn(b:Int)(sp:Int)(v k:Nat):Int:=b / 64+(k:Int) * (b / 7 % 5)+(if(k:Int)=sp then(v:Int) else 0)
def nm(b sp:Int)(v:Nat):Nat->Str
 | 0=>⟨#[]⟩
 | k+1=>nm b sp v k++⟨#[sgn<|turn b sp v k]⟩
theorem app_list(x y:Str):(x++y).cps.toList=x.cps.toList++y.cps.toList:=by
 show(x.cps++y.cps).toList=_;simp
theorem uj(b sp:Int)(v:Nat):∀ k,(nm b sp v k).cps.toList=(List.range k).map λj=>sgn<|turn b sp v j
 | 0=>rfl
 | k+1=>by
  show(nm b sp v k++⟨#[sgn<|turn b sp v k]⟩).cps.toList=_;rw [app_list,uj b sp v k,Cz,Al];rfl
theorem UR{b sp:Int}{u v k:Nat}(hu:u < 36)(hv:v < 36)(h0:0<=sp)(h1:sp < (k:Int))(h:nm b sp u k=nm b sp v k):u=v:=by
 have e:(nm b sp u k).cps.toList=(nm b sp v k).cps.toList:=by rw [h]
 rw [uj,uj] at e;have hk:sp.toNat < k:=by omega
 have q:((List.range k).map λj=>sgn<|turn b sp u j)[sp.toNat]?=((List.range k).map λj=>sgn<|turn b sp v j)[sp.toNat]?:=by rw [e]
 rw [Ai,Ai,Dq hk] at q;have q2:sgn (turn b sp u sp.toNat)=sgn (turn b sp v sp.toNat):=Option.some.inj q;have q3:=Jz q2;unfold turn at q3;rw [show((sp.toNat:Nat):Int)=sp by omega,BP rfl,BP rfl] at q3;omega
theorem fold_list(c:Nat):∀(k:Nat) (acc:Array Nat),((List.replicate k (#[c]:Array Nat)).foldl (·++·) acc).toList=acc.toList++List.replicate k c
 | 0,acc=>by simp
 | k+1,acc=>by
  rw [List.replicate_succ,Cy,fold_list c k,List.replicate_succ];simp
theorem mul_list(c:Nat){i:Int}(h:1<=i):(Txt.mul ⟨#[c]⟩ i).cps.toList=List.replicate i.toNat c:=by
 unfold Txt.mul;rw [BL<|by omega]
 by_cases e:i=1
 ·subst e;rfl
 ·have e1:(i == 1 || (⟨#[c]⟩:Str).length == 0)=false:=by
   have:(i == 1)=false:=by simpa using e
   rw [this];rfl
  rw [e1];simp only [Az,CT];have:=fold_list c i.toNat #[]
  simpa using this
def aM(b:Int)(v:Nat):Str:=if b % 3=2 then Txt.mul ⟨#[sgn<|b / 64+(v:Int) / 8]⟩ (1+(v:Int) % 8) else nm b (b / 8 % (1+b % 8)) v (1+b % 8).toNat
theorem UT{b:Int}{u v:Nat}(hu:u < 36)(hv:v < 36)(h:aM b u=aM b v):u=v:=by
 have s0:0<=b % 8:=Bt _ (by decide);unfold aM at h
 by_cases c:b % 3=2
 ·rw [BP c,BP c] at h;have u0:0<=(u:Int) % 8:=Bt _ (by decide);have v0:0<=(v:Int) % 8:=Bt _ (by decide);have e:(Txt.mul ⟨#[sgn<|b / 64+(u:Int) / 8]⟩<|1+(u:Int) % 8).cps.toList=(Txt.mul ⟨#[sgn<|b / 64+(v:Int) / 8]⟩<|1+(v:Int) % 8).cps.toList:=by rw [h]
  rw [mul_list _ (by omega),mul_list _<|by omega] at e;have l:=BZ List.length e;rw [Fi,Fi] at l;have hd:(List.replicate (1+(u:Int) % 8).toNat<|sgn<|b / 64+(u:Int) / 8)[0]?=(List.replicate (1+(v:Int) % 8).toNat<|sgn<|b / 64+(v:Int) / 8)[0]?:=by rw [e]
  rw [Fa,Fa,BP (by omega),BP<|by omega] at hd;have q:=Jz<|Option.some.inj hd;omega
 ·rw [BL c,BL c] at h;refine UR hu hv (Bt _<|by omega) ?_ h;have:=Cc (b / 8) (show 0 < 1+b % 8 by omega);omega
def namesOf(b:Int)(m:Nat):List Str:=(List.range m).map<|aM b
theorem uk{b:Int}{m:Nat}(h:m<=36):(namesOf b m).Nodup:=by
 unfold namesOf;refine QF _ (R:=λi j=>i < j/\j < m) ?_ ?_
 ·rintro i j ⟨h1,h2⟩ e;have:=UT (by omega) (by omega) e;omega
 ·rw [Be];intro i j hi hj dv;simp only [Fd];simp at hj;exact⟨dv,hj⟩
theorem ul(b:Int)(m:Nat):namesOf b (m+1)=namesOf b m++[aM b m]:=by
 unfold namesOf;rw [Cz,Al];rfl
theorem yL(b:Int)(m:Nat):(namesOf b m).length=m:=by unfold namesOf;simp
theorem UU{b:Int}{m i:Nat}(h:i < m):(namesOf b m)[i]?=some (aM b i):=by
 unfold namesOf;rw [Ai,Dq h];rfl
end Nt
namespace D3
open PySem L2
def top(i:Nat):Stmt:=PySem.Challenge.pw_threewebs_k43_whole_all_doubles.main.body.getD i<|.Pass ⟨0,0,0,0⟩
abbrev uo:Stmt:=top 4
abbrev uq:Stmt:=top 5
abbrev yM:Stmt:=top 6
abbrev yN:Stmt:=top 7
abbrev yO:Stmt:=top 8
abbrev ur:Stmt:=top 9
abbrev ut:Stmt:=top 10
abbrev uv:Stmt:=top 11
abbrev yP:Stmt:=top 13
abbrev mX:Stmt:=top 15
abbrev mY:Stmt:=top 16
abbrev qC:Stmt:=top 17
abbrev uw:Stmt:=top 20
abbrev uz:Stmt:=top 21
abbrev yQ:Stmt:=top 23
abbrev mZ:Stmt:=top 24
abbrev yR:Stmt:=top 25
abbrev yS:Stmt:=top 26
abbrev yT:Stmt:=top 27
abbrev yU:Stmt:=top 28
abbrev yV:Stmt:=top 29
abbrev m4:Stmt:=top 30
abbrev m5:Stmt:=top 31
abbrev uA:Stmt:=top 32
abbrev uB:Stmt:=top 33
abbrev uC:Stmt:=top 34
abbrev yW:Stmt:=top 35
abbrev yX:Stmt:=top 36
abbrev ki:Stmt:=top 37
structure Txt(mg:Str->Option Value):Prop where
 yY:mg "isinstance" = none
 yZ:mg "tuple" = none
 y4:mg "str" = none
 qD:mg "int" = none
 JA:mg "bool" = none
 i6:mg "list" = none
 qE:mg "dict" = none
 m7:mg "set" = none
 enum:mg "enumerate" = none
 zip:mg "zip" = none
 len:mg "len" = none
 range:mg "range" = none
 sorted:mg "sorted" = none
 max:mg "max" = none
 all:mg "all" = none
 nine:∃ u,mg "MOST_WALKERS" = some u/\RelV (.int 9) u
open Nt bH
theorem small{n:Nat}(h:n<=100000):n<=sizeLine:=by rw [FJ];omega
theorem cD{n:Nat}(h:n<=100000):n < sizeLine:=by rw [FJ];omega
theorem a8{H:Hp}{p:Addr}(h:H p=none)(o:HO):ak H (upd H p o):=λb u q=>by rw [ay<|bt q h];exact q
theorem fZ{H1 H2:Hp}{r:Addr}{o:HO}(s:ak H1 H2)(h:H1 r=none):ak H1 (upd H2 r o):=λb u q=>by
 rw [ay<|bt q h];exact s _ _ q
theorem UW{H:Hp}{l:Addr}{zs:List Str}{y:Str}:upd H l (.lst<|zs.map V.str++[V.str y])=upd H l (Ls<|zs++[y]):=by
 show _=upd H l (.lst<|(zs++[y]).map V.str);rw [Al];rfl
def uD(K:PySem.W.Frag):Sp:=λvs H Q _=>∃(a:Addr) (ns:List Int) (k:Int),vs=[.ref a,.int k]/\al K H a (ns.map V.int)/\0<=k/\∀ i,Q (.int i) H
def y7(K:PySem.W.Frag):Sp:=λvs H Q _=>∃(a:Addr) (ns:List Int) (k:Int),vs=[.ref a,.int k]/\al K H a (ns.map V.int)/\0<=k/\∀ i H',ak H H'->Q (.int i) H'
def y8:Sp:=λvs H Q _=>∃(b m:Int),vs=[.int b,.int m]/\0<=m/\m<=36/\∀ l H',ak H H'->H l=none->H' l=some (Ls<|namesOf b m.toNat)->Q (.ref l) H'
def uE:Sp:=λvs H Q _=>∃(R:Addr) (as:List<|Addr×Addr) (n:Net),vs=[.ref R]/\ai H R as n/\n.length<=1000/\(ag n).length<=1000/\∀ d ks H',ak H H'->H d=none->bz H' d n ks->Q (.ref d) H'
def y9:Sp:=λvs H Q _=>∃(R d t:Addr) (as:List<|Addr×Addr) (n:Net) (ks:List Str) (e:Nt.End),vs=[.ref R,.ref d,.ref t]/\ai H R as n/\bz H d n ks/\aj n/\H t=some (Tp e)/\e∈ends n/\∀ u,H u=some (Tp<|other n e)->Q (.ref u) H
def zg:Sp:=λvs H Q _=>∃(R d t:Addr) (as:List<|Addr×Addr) (n:Net) (ks:List Str) (e:Nt.End),vs=[.ref R,.ref d,.ref t,.int 1]/\ai H R as n/\bz H d n ks/\aj n/\H t=some (Tp e)/\e∈ends n/\∀ u H',ak H H'->H u=none->H' u=some (Tp<|step n e)->Q (.ref u) H'
def zh:Sp:=λvs H Q _=>∃(R d t:Addr) (as:List<|Addr×Addr) (n:Net) (ks:List Str) (e:Nt.End),vs=[.ref R,.ref d,.ref t]/\ai H R as n/\bz H d n ks/\aj n/\H t=some (Tp e)/\e∈ends n/\(ends n).length<=1000 /\
 ∀ l ts fs H',ak H H'->H l=none->H' l=some (.lst<|ts.map V.ref)->Pd H' ts fs->cN n e fs->Q (.ref l) H'
section
variable{P:Program}{w:World}{K:PySem.W.Frag}{mg:Str->Option Value}{base:Heap}
theorem UX:aq ["_law_script","_law_k"] ["_law_script","_law_k"] (bd yQ):=⟨rfl,rfl,rfl,by decide +kernel,rfl,by decide +kernel,by decide +kernel⟩
theorem UY{ns:List Int}{k:Int}(h0:0<=k)(h1:k < (ns.length:Int)):∃ v:Int,dW (ns.map V.int) k=some (.int v):=by
 have hj:k.toNat < ns.length:=by omega
 have q:=kZ (xs:=ns.map V.int) (j:=k.toNat) (v:= .int ns[k.toNat]) (by simp [hj]);rw [show((k.toNat:Nat):Int)=k by omega] at q;exact⟨_,q⟩
theorem UZ{f:Addr}{fd:FuncData}(F:bL K "_law_cell_at" "_law_cell_at" yQ f fd)(T:Txt mg):aG P w K mg base bG 1 f fd ["_law_script","_law_k"] (uD K):=by
 refine F.gb UX (λvs H Q E h=>?_) λb0 H vs Q E hr h=>?_
 ·obtain⟨a,ns,k,rfl,_⟩:=h;rfl
 obtain⟨a,ns,k,rfl,hS,h0,q⟩:=h;show Run _ _ _ [some<|.ref a,some<|.int k] H;refine im<|dM P0<|ae 1<|bQ cT T.len DQ<|ao<|ae 0<|aA ⟨a,_,rfl,.inl hS,_,_,rfl,rfl,_,rfl,?_⟩;refine j5 (λc=>?_) λc=>?_
 ·have c':=BX c;obtain⟨v,hv⟩:=UY (ns:=ns) h0 (by rw [Ab] at c';exact c');exact b5<|bb cS<|ae 0<|ae 1 ⟨a,_,_,.int v,rfl,rfl,hS,hv,q v⟩
 ·exact bm<|b5<|aB<|q 0
abbrev m8:List V:=[.int 48271,.int 69621,.int 16807,.int 39373,.int 21401,.int 60493,.int 87721,.int 31337]
abbrev fA:List V:=[.int 99991,.int 99989,.int 99971,.int 99961,.int 99929,.int 99923,.int 99907,.int 99901]
theorem eight{i:Int}(h0:0<=i)(h1:i < 8):i=0\/i=1\/i=2\/i=3\/i=4\/i=5\/i=6\/i=7:=by
 obtain⟨k,rfl⟩:=Int.eq_ofNat_of_zero_le h0;exact(by decide:∀ k:Fin 8,(k.1:Int)=0\/(k.1:Int)=1\/(k.1:Int)=2\/(k.1:Int)=3\/(k.1:Int)=4\/(k.1:Int)=5\/(k.1:Int)=6\/(k.1:Int)=7) ⟨k,Int.ofNat_lt.mp h1⟩
theorem U0{i:Int}(h0:0<=i)(h1:i < 8):∃ m:Int,dW m8 i=some (.int m)/\0 < m/\m < 100000:=by
 rcases eight h0 h1 with rfl | rfl | rfl | rfl | rfl | rfl | rfl | rfl <;> exact⟨_,rfl,by decide,by decide⟩
theorem U1{i:Int}(h0:0<=i)(h1:i < 8):∃ m:Int,dW fA i=some (.int m)/\0 < m/\m < 100000:=by
 rcases eight h0 h1 with rfl | rfl | rfl | rfl | rfl | rfl | rfl | rfl <;> exact⟨_,rfl,by decide,by decide⟩
theorem lA:aq ["_law_script","_law_at","_law_by","_law_prime","_law_cell","_law_big_here","_law_k","_law_one"] ["_law_script","_law_at"] (bd mZ):=⟨rfl,rfl,rfl,by decide +kernel,rfl,by decide +kernel,by decide +kernel⟩
theorem U2{f:Addr}{fd:FuncData}(F:bL K "_law_big" "_law_big" mZ f fd)(T:Txt mg)(G:aV P w K mg base 1 "_law_cell_at" ["_law_script","_law_k"]<|uD K) :
  aG P w K mg base bG 2 f fd ["_law_script","_law_at"] (y7 K):=by
 refine F.gb lA (λvs H Q E h=>?_) λb0 H vs Q E hr h=>?_
 ·obtain⟨a,ns,k,rfl,_⟩:=h;rfl
 obtain⟨a,ns,k,rfl,hS,h0,q⟩:=h;have nd:=lA.nd;show Run _ _ _ [some<|.ref a,some<|.int k,none,none,none,none,none,none] H;refine aY 2 nd (gS<|ao<|aB<|ao<|aB<|ao<|aB<|ao<|aB<|ao<|aB<|ao<|aB<|ao<|aB<|ao<|aB<|aA ⟨(by show 8<=sizeLine;decide),λp hp=>?_⟩);refine aY 3 nd (gS<|ao<|aB<|ao<|aB<|ao<|aB<|ao<|aB<|ao<|aB<|ao<|aB<|ao<|aB<|ao<|aB<|aA ⟨(by show 8<=sizeLine;decide),λp2 ii=>?_⟩);have U3:p≠p2:=by
  intro e;rw [<- e,aD] at ii;cases ii
 have s1:ak H (upd H p<|.tup m8):=a8 hp _;have s2:ak H (upd (upd H p<|.tup m8) p2<|.tup fA):=s1.trans<|a8 ii _;have e1:(upd (upd H p<|.tup m8) p2<|.tup fA) p=some (.tup m8):=by rw [ay U3,aD]
 have e2:(upd (upd H p<|.tup m8) p2<|.tup fA) p2=some (.tup fA):=aD;generalize upd (upd H p<|.tup m8) p2 (.tup fA)=H2 at s2 e1 e2 ⊢;refine aY 4 nd<|bR G hr<|ao<|ae 0<|ao<|ae 1<|aA ⟨a,ns,k,rfl,s2.seq hS,h0,λb=>?_⟩;show Run _ _ _ [some<|.ref a,some<|.int k,some<|.ref p,some<|.ref p2,some<|.int b,none,none,none] H2;refine xQ True True (λR qq=>?_) (λ_=>?_) λ_=>bm ?_
 ·refine xO (Ry<|dM kX<|aQ cJ<|ae 4<|aB ⟨_,_,rfl,rfl,(by show(0:Int) < 2;decide),aB ⟨rfl,_,rfl,?_⟩⟩);refine j5 (λc=>?_) (λc=>qq false (λz=>nomatch z) λ_=>trivial);exact Rz<|dM GH<|ae 4<|aQ F1<|aB<|aB ⟨_,_,rfl,rfl,⟨by decide,by decide,by decide⟩,_,_,rfl,rfl,_,rfl,qq _ (λ_=>trivial) λ_=>trivial⟩
 ·exact b5<|aQ gu<|ae 4<|aB ⟨_,_,rfl,rfl,⟨by decide,by decide⟩,q _ _ s2⟩
 refine aY 5 nd<|aB ?_;refine iO T.range<|aB ⟨60,rfl,by decide,by decide,iP (n:=60) (λ_ σ H3=>H3=H2/\∃(x:Int) (u v:Option V),σ=[some<|.ref a,some<|.int k,some<|.ref p,some<|.ref p2,some<|.int b,some<|.int x,u,v]) ⟨rfl,0,_,_,rfl⟩ ?_ ?_⟩
 ·rintro i σ H3 hi ⟨rfl,x,u,v,rfl⟩;have i9:0<=(0+(i:Int)) % 9:=Bt _ (by decide);obtain⟨m1,f1,g1,g2⟩:=U0 (i:=(0+(i:Int)) % 8) (Bt _<|by decide) (Cc _<|by decide);obtain⟨m2,f2,g3,g4⟩:=U1 (i:=(0+(i:Int)) % 8) (Bt _<|by decide) (Cc _<|by decide);refine bE 6 nd ?_;refine aY 7 nd<|aQ fc<|aQ fc<|aQ cJ<|bR G hr<|ao<|ae 0<|ao<|aQ fc<|ae 1<|aQ cJ<|ae 6<|aB ?_;refine⟨_,_,rfl,rfl,(by show(0:Int) < 9;decide),_,_,rfl,rfl,aA ⟨a,ns,_,rfl,s2.seq hS,?_,λc=>?_⟩⟩
  ·show 0<=k+(0+(i:Int)) % 9;omega
  refine aQ F1 (aB<|aB ⟨_,_,rfl,rfl,⟨by decide,by decide,by decide⟩,_,_,rfl,rfl,(by show(0:Int) < 10 ^ (18:Int).toNat;decide),aB ⟨_,_,rfl,rfl,?_⟩⟩);refine aQ pW<|ae 6<|ae 6 ?_;refine⟨_,_,rfl,rfl,.inl ⟨by omega,by omega⟩,_,_,rfl,rfl,?_⟩;refine aY 5 nd (aQ fc<|aQ pW<|ae 5<|aB ⟨_,_,rfl,rfl,.inr ⟨by decide,by decide⟩,?_⟩);refine aQ cJ (aQ cJ<|aQ pW<|ae 7<|bb cw<|ae 2<|aQ cJ<|ae 6<|aB ⟨_,_,rfl,rfl,(by show(0:Int) < 8;decide),p,_,_,_,rfl,rfl,a7.of e1,f1,_,_,rfl,rfl,.inr ⟨by omega,by omega⟩,?_⟩);refine bb cw (ae 3<|aQ cJ<|ae 6<|aB ⟨_,_,rfl,rfl,(by show(0:Int) < 8;decide),p2,_,_,_,rfl,rfl,a7.of e2,f2,_,_,rfl,rfl,g3,aB ⟨_,_,rfl,rfl,(by show(0:Int) < 7919;decide),_,_,rfl,rfl,?_⟩⟩);exact bm ⟨rfl,_,_,_,rfl⟩
 ·rintro σ H3 ⟨rfl,x,u,v,rfl⟩;exact b5<|ae 5<|q x _ s2
abbrev NN:List Str:=["_law_stem","_law_many","_law_signs","_law_size","_law_spot","_law_names_here","_law_v","_law_name","_law_k","_law_turn"]
theorem gD:aq NN ["_law_stem","_law_many"] (bd yR):=⟨rfl,rfl,rfl,by decide +kernel,rfl,by decide +kernel,by decide +kernel⟩
theorem U4{f:Addr}{fd:FuncData}(F:bL K "_law_names" "_law_names" yR f fd)(T:Txt mg):aG P w K mg base bG 1 f fd ["_law_stem","_law_many"] y8:=by
 refine F.gb gD (λvs H Q E h=>?_) λb0 H vs Q E hr h=>?_
 ·obtain⟨b,m,rfl,_⟩:=h;rfl
 obtain⟨b,m,rfl,m0,m1,q⟩:=h;have nd:=gD.nd;have s0:0<=b % 8:=Bt _ (by decide);have s1:b % 8 < 8:=Cc _ (by decide);show Run _ _ _ [some<|.int b,some<|.int m,none,none,none,none,none,none,none,none] H;refine aY 2 nd<|xJ ?_;refine aY 3 nd (aQ fc<|aB<|aQ cJ<|ae 0<|aB ⟨_,_,rfl,rfl,(by show(0:Int) < 8;decide),_,_,rfl,rfl,?_⟩);refine aY 4 nd (aQ cJ<|aQ gu<|ae 0<|aB ⟨_,_,rfl,rfl,⟨by decide,by decide⟩,ae 3 ⟨_,_,rfl,rfl,(by show 0 < 1+b % 8;omega),?_⟩⟩);refine aY 5 nd<|dL<|aA ⟨Z0,λl hl=>?_⟩;show Run _ _ _ [some<|.int b,some<|.int m,some<|.str lets,some<|.int<|1+b % 8,some<|.int<|b / 8 % (1+b % 8),some<|.ref l,none,none,none,none] _;have spE:b / 8 % (1+b % 8)=b / 8 % (1+b % 8):=rfl;refine iO T.range<|ae 1 ⟨m,rfl,by omega,by omega,iP (n:=m.toNat) (λi σ H3=>H3=upd H l (Ls<|namesOf b i)/\∃ u1 u2 u3 u4,σ=[some<|.int b,some<|.int m,some<|.str lets,some<|.int<|1+b % 8,some<|.int<|b / 8 % (1+b % 8),some<|.ref l,u1,u2,u3,u4]) ⟨rfl,_,_,_,_,rfl⟩ ?_ ?_⟩
 ·rintro i σ H3 hi ⟨rfl,u1,u2,u3,u4,rfl⟩;refine bE 6 nd ?_;refine aY 7 nd<|xJ ?_;refine iO T.range<|ae 3 ⟨_,rfl,by omega,by omega,iP (n:=(1+b % 8).toNat) (λj σ H4=>H4=upd H l (Ls<|namesOf b i)/\∃(u3 u4:Option V),σ=[some<|.int b,some<|.int m,some<|.str lets,some<|.int<|1+b % 8,some<|.int<|b / 8 % (1+b % 8),some<|.ref l,some<|.int<|0+(i:Int),some<|.str<|nm b (b / 8 % (1+b % 8)) i j,u3,u4]) ⟨rfl,_,_,rfl⟩ ?_ ?_⟩
  ·rintro j σ H4 hj ⟨rfl,v3,v4,rfl⟩;have t0:0<=b / 7 % 5:=Bt _ (by decide);have t1:b / 7 % 5 < 5:=Cc _ (by decide);have nl:(nm b (b / 8 % (1+b % 8)) i j).length=j:=by
    have:=BZ List.length<|uj b (b / 8 % (1+b % 8)) i j;show(nm b (b / 8 % (1+b % 8)) i j).cps.size=j
    simpa using this
   refine bE 8 nd ?_;refine aY 9 nd (aQ fc<|aQ gu<|ae 0<|aB ⟨_,_,rfl,rfl,⟨by decide,by decide⟩,aQ pW<|ae 8<|aQ cJ<|aQ gu<|ae 0<|aB ⟨_,_,rfl,rfl,⟨by decide,by decide⟩,aB ⟨_,_,rfl,rfl,(by show(0:Int) < 5;decide),?_⟩⟩⟩);refine⟨_,_,rfl,rfl,.inr ⟨by omega,by omega⟩,_,_,rfl,rfl,?_⟩;refine Jg ((0+(j:Int))=b / 8 % (1+b % 8)) (¬(0+(j:Int))=b / 8 % (1+b % 8)) (λσ' H'=>H'=upd H l (Ls<|namesOf b i)/\σ'=[some<|.int b,some<|.int m,some<|.str lets,some<|.int<|1+b % 8,some<|.int<|b / 8 % (1+b % 8),some<|.ref l,some<|.int<|0+(i:Int),some<|.str<|nm b (b / 8 % (1+b % 8)) i j,some<|.int<|0+(j:Int),some<|.int<|turn b (b / 8 % (1+b % 8)) i j]) (λR qq=>?_) (λhc=>?_) (λhc=>bm ⟨rfl,?_⟩) ?_
   ·refine dM kX<|ae 8<|ae 4 ⟨rfl,_,rfl,?_⟩
    by_cases hc:(0+(j:Int))=b / 8 % (1+b % 8)
    ·rw [BW (show V.int (0+(j:Int))=V.int (b / 8 % (1+b % 8)) by rw [hc])];exact qq true (λ_=>hc) λh=>by cases h
    ·rw [BR λh=>hc<|V.int.inj h];exact qq false (λh=>by cases h) λ_=>hc
   ·refine aY 9 nd<|aQ fc<|ae 9<|ae 6 ⟨_,_,rfl,rfl,bm ⟨rfl,?_⟩⟩;have e:b / 64+(0+(j:Int)) * (b / 7 % 5)+(0+(i:Int))=turn b (b / 8 % (1+b % 8)) i j:=by
     unfold turn;rw [BP (by omega),Dg,Dg]
    rw [<- e];rfl
   ·have e:b / 64+(0+(j:Int)) * (b / 7 % 5)=turn b (b / 8 % (1+b % 8)) i j:=by
     unfold turn;rw [BL (by omega),Dg,Int.add_zero]
    rw [<- e];rfl
   ·rintro σ' H' ⟨rfl,rfl⟩;refine aY 7 nd<|aQ P5<|ae 7<|bb Hi<|ae 2<|aQ cJ<|ae 9<|aB ⟨_,_,rfl,rfl,(by show(0:Int) < 36;decide),lets,_,sgn<|turn b (b / 8 % (1+b % 8)) i j,rfl,rfl,by decide +kernel,yK _,_,_,rfl,rfl,small (by show(nm b (b / 8 % (1+b % 8)) i j).length+1<=100000;omega),bm ⟨rfl,_,_,rfl⟩⟩
  ·rintro σ H4 ⟨rfl,v3,v4,rfl⟩;refine Jg (b % 3=2) (¬ b % 3=2) (λσ' H'=>H'=upd H l (Ls<|namesOf b i)/\σ'=[some<|.int b,some<|.int m,some<|.str lets,some<|.int<|1+b % 8,some<|.int<|b / 8 % (1+b % 8),some<|.ref l,some<|.int<|0+(i:Int),some<|.str<|aM b i,v3,v4]) (λR qq=>?_) (λhc=>?_) (λhc=>bm ⟨rfl,?_⟩) ?_
   ·refine dM kX<|aQ cJ<|ae 0<|aB ⟨_,_,rfl,rfl,(by show(0:Int) < 3;decide),aB ⟨rfl,_,rfl,?_⟩⟩
    by_cases hc:b % 3=2
    ·rw [BW (show V.int (b % 3)=V.int 2 by rw [hc])];exact qq true (λ_=>hc) λh=>by cases h
    ·rw [BR λh=>hc<|V.int.inj h];exact qq false (λh=>by cases h) λ_=>hc
   ·have e0:0<=(0+(i:Int)) % 8:=Bt _ (by decide);have e1:(0+(i:Int)) % 8 < 8:=Cc _ (by decide);refine aY 7 nd (aQ Rn<|bb Hi<|ae 2<|aQ cJ<|aQ fc<|aQ gu<|ae 0<|aB ⟨_,_,rfl,rfl,⟨by decide,by decide⟩,aQ gu<|ae 6<|aB ⟨_,_,rfl,rfl,⟨by decide,by decide⟩,_,_,rfl,rfl,aB ⟨_,_,rfl,rfl,(by show(0:Int) < 36;decide),lets,_,sgn<|b / 64+(0+(i:Int)) / 8,rfl,rfl,by decide +kernel,yK _,?_⟩⟩⟩);refine aQ fc (aB<|aQ cJ<|ae 6<|aB ⟨_,_,rfl,rfl,(by show(0:Int) < 8;decide),_,_,rfl,rfl,?_⟩);refine⟨_,_,rfl,rfl,by omega,by omega,?_,bm ⟨rfl,?_⟩⟩
    ·show 1 * _<=_;omega
    ·have e:Txt.mul ⟨#[sgn<|b / 64+(0+(i:Int)) / 8]⟩ (1+(0+(i:Int)) % 8)=aM b i:=by
      unfold aM;rw [BP hc,Dg]
     rw [<- e];rfl
   ·have e:nm b (b / 8 % (1+b % 8)) i (1+b % 8).toNat=aM b i:=by
     unfold aM;rw [BL hc]
    rw [<- e]
   ·rintro σ' H' ⟨rfl,rfl⟩;refine fS<|jF<|ae 5 ⟨l,rfl,⟨_,aD⟩,ae 7 ⟨_,aD,?_,?_⟩⟩
    ·rw [Ab,yL];exact cD<|by omega
    ·rw [FC];refine bm ⟨?_,_,_,_,_,rfl⟩;rw [ul];exact UW
 ·rintro σ H3 ⟨rfl,u1,u2,u3,u4,rfl⟩;exact b5<|ae 5<|q l _ (a8 hl _) hl aD
theorem U5{H:Hp}{d:Addr}{kvs:List (Key×V)}(h:H d=some (.dK kvs)):jX K "dict" (.ref d) H:=Or.inr<|Or.inr<|Or.inl ⟨rfl,Or.inl ⟨kvs,h⟩⟩
abbrev NS:List Str:=["_law_rows","_law_seats_here","_law_r","_law_place"]
theorem gE:aq NS ["_law_rows"] (bd yS):=⟨rfl,rfl,rfl,by decide +kernel,rfl,by decide +kernel,by decide +kernel⟩
theorem U6{f:Addr}{fd:FuncData}(F:bL K "_law_seats" "_law_seats" yS f fd)(T:Txt mg):aG P w K mg base bG 1 f fd ["_law_rows"] uE:=by
 refine F.gb gE (λvs H Q E h=>?_) λb0 H vs Q E hr h=>?_
 ·obtain⟨R,as,n,rfl,_⟩:=h;rfl
 obtain⟨R,as,n,rfl,hR,hn,ht,q⟩:=h;have nd:=gE.nd;have cg:=hR.len;show Run _ _ _ [some<|.ref R,none,none,none] H;refine aY 1 nd<|Jo λd hd=>?_;refine iO T.range (bQ cT T.len DQ<|ao<|ae 0<|aA ⟨R,_,rfl,.inl<|al.of<|a8 hd _ _ _ hR.lst,_,rfl,by omega,by rw [Ab];omega,?_⟩);rw [Ab,cg,Bd];refine iP (λr σ H3=>∃ kvs ks A u1 u2,aX H H3 d (bh<|n.take r) kvs ks A/\σ=[some<|.ref R,some<|.ref d,u1,u2]) ⟨_,_,_,_,_,aX.start hd,rfl⟩ ?_ ?_
 ·rintro r σ H3 hi ⟨kvs,ks,A',u1,u2,S,rfl⟩;rw [Dg];refine bE 2 nd ?_;obtain⟨a,ea,fB,et,el,er⟩:=(hR.same S.same).at hi;refine iO T.range<|bQ cT T.len DQ<|ao<|bb cw<|bb cS<|ae 0<|ae 2 ⟨R,_,_,.ref a.1,rfl,rfl,al.of<|S.same _ _ hR.lst,fB,aB ⟨a.1,_,_,.ref a.2,rfl,rfl,a7.of et,rfl,aA ⟨a.2,_,rfl,.inl<|al.of el,_,rfl,by omega,?_,?_⟩⟩⟩
  ·have:(row n r).length<=1000:=by
    have h1:(row n r).length<=(ag n).length:=by
     exact gW n r
    omega
   rw [Ab];omega
  rw [Ab,Bd];refine iP (λp σ H4=>∃ kvs ks A u2,aX H H4 d (bh (n.take r)++bo r ((row n r).take p) 0) kvs ks A/\σ=[some<|.ref R,some<|.ref d,some<|.int (r:Int),u2]) ⟨kvs,ks,A',_,by simpa [bo] using S,rfl⟩ ?_ ?_
  ·rintro p σ H4 hp ⟨kvs,ks,A',u2,S,rfl⟩;rw [Dg];refine bE 3 nd ?_;obtain⟨a,ea,fB,et,el,er⟩:=(hR.same S.same).at hi;have hz:(row n r)[p]?=some (row n r)[p]:=Aa hp;generalize (row n r)[p]=z at hz;have next:bh (n.take r)++bo r ((row n r).take<|p+1) 0=(bh (n.take r)++bo r ((row n r).take p) 0)++[(z,(r,p))]:=by
    rw [oN hz,Ar]
   have hlen:kvs.length < sizeLine:=by
    have h1:ks.length<=1000:=by
     refine Ce (aU (b:=ag n) S.nodup λy hy=>?_) ht;have h2:=(S.mem y).mp hy;cases hA:A' y with
     | none=>rw [hA] at h2;cases h2
     | some pr=>
      obtain⟨a2,jJ⟩:=pr;have h3:=S.some' y a2 jJ hA;unfold bS at h3;obtain⟨x,hx⟩:=Ek _ h3;obtain⟨⟨y2,e2⟩,hm,_⟩:=Aj.mp hx;rw [Bf,DR] at hm;obtain⟨hm,rfl⟩:=hm;have:(y2,e2)∈bh n:=by
       rcases An.mp hm with hm | hm
       ·have q1:=aN.mp hm;refine aN.mpr ?_;have q2:=b6 q1;unfold aF row at q1 ⊢;rw [Br] at q2;rwa [Dv<|by omega] at q1
       ·have q1:=aW.mp hm;refine aN.mpr ?_;unfold aF;rw [q1.1];have q3:=q1.2.2;rw [TY] at q3;have q4:=(Ac.mp q3).1;rw [Br] at q4;rwa [Dv<|by omega] at q3
      exact dE<|aN.mp this
    have h2:=BZ List.length S.keys;rw [Ab,Ab] at h2;exact cD<|by omega
   refine fS<|jF<|yE PySem.F.plainAttrs_dict PySem.F.slot_dict_setdefault PySem.F.type_dict_setdefault Um<|ae 1 ⟨U5 S.dict,bb cS<|bb cw<|bb cS<|ae 0<|ae 2 ⟨R,_,_,.ref a.1,rfl,rfl,al.of<|S.same _ _ hR.lst,fB,aB ⟨a.1,_,_,.ref a.2,rfl,rfl,a7.of et,rfl,ae 3 ⟨a.2,_,_,.str z,rfl,rfl,al.of el,yH hz,?_⟩⟩⟩⟩;refine dL<|aA ⟨Z0,λl0 j8=>?_⟩;have iu:d≠l0:=bt S.dict j8;refine⟨d,kvs,Sum.inr z,.ref l0,rfl,rfl,by rw [ay iu];exact S.dict,hlen,?_⟩;cases hA:A' z with
   | some pr=>
    obtain⟨a2,jJ⟩:=pr;obtain⟨q1,q2,q3,q4⟩:=S.at' z a2 jJ hA;have uh:a2≠l0:=bt q3 j8;refine .inl ⟨.ref a2,by rw [S.val z,hA];rfl,a2,rfl,⟨_,by rw [ay uh];exact q3⟩,?_⟩;refine gS<|ao<|ae 2<|ao<|ae 3<|aA ⟨Z2,λt jE=>?_⟩;have ui:a2≠t:=λe=>by rw [<- e,ay uh,q3] at jE;cases jE
    refine⟨jJ.map V.ref,by rw [ay ui,ay uh];exact q3,?_,?_⟩
    ·rw [Ab,q4.length];have h1:(bS (bh (n.take r)++bo r ((row n r).take p) 0) z).length<=100000:=by
      unfold bS;rw [Ab];refine Ce (Go _ _) ?_;rw [Ag];have h2:(bh<|n.take r).length<=1000:=by
       have:=BZ List.length<|jH (n.take r) 0;rw [Ab] at this;unfold bh;rw [this];exact Ce (Jv n r) ht
      have h3:(bo r ((row n r).take p) 0).length<=1000:=by
       unfold bo;rw [Ab,List.length_zipIdx,Br];have h1:(row n r).length<=(ag n).length:=by
        exact gW n r
       omega
      omega
     exact cD h1
    ·refine bm ⟨kvs,ks,(λy=>if y=z then some (a2,jJ++[t]) else A' y),_,?_,rfl⟩;rw [next];exact S.old (e:=(r,p)) hA j8 jE
   | none=>
    refine .inr ⟨by rw [S.val z,hA];rfl,l0,rfl,⟨_,by rw [ay iu.symm];exact aD⟩,?_⟩;refine gS<|ao<|ae 2<|ao<|ae 3<|aA ⟨Z2,λt jE=>?_⟩;have mW:l0≠t:=λe=>by rw [<- e,ay iu.symm,aD] at jE;cases jE
    refine⟨[],by rw [ay mW,ay iu.symm,aD],by show 0 < sizeLine;decide,?_⟩;refine bm ⟨putK kvs (Sum.inr z)<|.ref l0,ks++[z],(λy=>if y=z then some (l0,[t]) else A' y),_,?_,rfl⟩;rw [next];exact S.new (e:=(r,p)) hA j8 jE
  ·rintro σ H4 ⟨kvs,ks,A',u2,S,rfl⟩;refine bm ⟨kvs,ks,A',_,_,?_,rfl⟩;rw [qB hi];rwa [Dc] at S
 ·rintro σ H3 ⟨kvs,ks,A',u1,u2,S,rfl⟩;rw [Dc] at S;exact b5<|ae 1<|q d ks H3 S.same S.free S.whole
abbrev NO:List Str:=["_law_rows","_law_seats_here","_law_end","_law_pair"]
theorem gF:aq NO ["_law_rows","_law_seats_here","_law_end"] (bd yT):=⟨rfl,rfl,rfl,by decide +kernel,rfl,by decide +kernel,by decide +kernel⟩
theorem U7{f:Addr}{fd:FuncData}(F:bL K "_law_other" "_law_other" yT f fd)(T:Txt mg):aG P w K mg base bG 1 f fd ["_law_rows","_law_seats_here","_law_end"] y9:=by
 refine F.gb gF (λvs H Q E h=>?_) λb0 H vs Q E hr h=>?_
 ·obtain⟨R,d,t,as,n,ks,e,rfl,_⟩:=h;rfl
 obtain⟨R,d,t,as,n,ks,e,rfl,hR,hS,hT,ht,he,q⟩:=h;have nd:=gF.nd;have hu:=hr.eF;obtain⟨z,hz⟩:=af.mp he;have aS:=b6 hz;obtain⟨a,ea,fB,et,el,er⟩:=hR.at aS;obtain⟨kvs,h1,h2,h3⟩:=hS.dict;obtain⟨pa,ts,v1,v2,v3⟩:=h3 z<|dE hz;obtain⟨x,y,hp,zi,t9⟩:=mV hT hz;rw [hp] at v3;cases v3 with
 | cons x1 v3=>
 cases v3 with
 | cons y1 v3=>
 cases v3;rename_i tx ty;show Run _ _ _ [some<|.ref R,some<|.ref d,some<|.ref t,none] H;have i7:=hr.u1;refine aY 3 nd<|gU i7<|ae 1<|bb cS<|bb cw<|bb cS<|ae 0<|bb cw<|ae 2<|aB ⟨t,_,_,.int (e.1:Int),rfl,rfl,a7.of ht,rfl,R,_,_,.ref a.1,rfl,rfl,al.of hR.lst,fB,aB ⟨a.1,_,_,.ref a.2,rfl,rfl,a7.of et,rfl,?_⟩⟩;refine bb cw (ae 2<|aB ⟨t,_,_,.int (e.2:Int),rfl,rfl,a7.of ht,rfl,a.2,_,_,.str z,rfl,rfl,al.of el,yH hz,d,.ref pa,rfl,by rw [<- v1];exact bw.k (k:=Sum.inr z) h1,?_⟩);show Run _ _ _ [some<|.ref R,some<|.ref d,some<|.ref t,some<|.ref pa] H;refine b5<|bb cS<|ae 3<|oA Jm T.qD TF<|ao<|tN (yC hu)<|bb cS<|ae 3<|aB ⟨pa,_,_,.ref tx,rfl,rfl,al.of v2,rfl,ae 2 ⟨1,_,by decide,UO x1 ht,?_⟩⟩
 by_cases c:x=e
 ·rw [BW c];refine aA ⟨_,rfl,pa,[.ref tx,.ref ty],1,.ref ty,rfl,rfl,al.of v2,rfl,q ty ?_⟩;have e1:other n e=y:=by unfold other;simp only [hz,hp];simp [c]
  rw [e1];exact y1
 ·rw [BR c];refine aA ⟨_,rfl,pa,[.ref tx,.ref ty],0,.ref tx,rfl,rfl,al.of v2,rfl,q tx ?_⟩;have e1:other n e=x:=by unfold other;simp only [hz,hp];simp [c]
  rw [e1];exact x1
abbrev NT:List Str:=["_law_rows","_law_seats_here","_law_end","_law_turn","_law_other_here"]
theorem i8:aq NT ["_law_rows","_law_seats_here","_law_end","_law_turn"] (bd yU):=⟨rfl,rfl,rfl,by decide +kernel,rfl,by decide +kernel,by decide +kernel⟩
theorem U8{f:Addr}{fd:FuncData}(F:bL K "_law_step" "_law_step" yU f fd)(T:Txt mg)(G:aV P w K mg base 1 "_law_other" ["_law_rows","_law_seats_here","_law_end"] y9) :
  aG P w K mg base bG 2 f fd ["_law_rows","_law_seats_here","_law_end","_law_turn"] zg:=by
 refine F.gb i8 (λvs H Q E h=>?_) λb0 H vs Q E hr h=>?_
 ·obtain⟨R,d,t,as,n,ks,e,rfl,_⟩:=h;rfl
 obtain⟨R,d,t,as,n,ks,e,rfl,hR,hS,hT,ht,he,q⟩:=h;have nd:=i8.nd;have ho:=cM hT he;obtain⟨z,hz⟩:=af.mp ho;have aS:=b6 hz;have mB:=fY hz;obtain⟨a,ea,fB,et,el,er⟩:=hR.at aS;show Run _ _ _ [some<|.ref R,some<|.ref d,some<|.ref t,some<|.int 1,none] H;refine aY 4 nd<|bR G hr<|ao<|ae 0<|ao<|ae 1<|ao<|ae 2<|aA ⟨R,d,t,as,n,ks,e,rfl,hR,hS,hT,ht,he,λu hu=>?_⟩;show Run _ _ _ [some<|.ref R,some<|.ref d,some<|.ref t,some<|.int 1,some<|.ref u] H;refine b5<|gS<|ao<|bb cw<|ae 4<|aB ⟨u,_,_,.int ((other n e).1:Int),rfl,rfl,a7.of hu,rfl,?_⟩;refine ao<|aQ cJ<|aQ fc<|bb cw<|ae 4<|aB ⟨u,_,_,.int ((other n e).2:Int),rfl,rfl,a7.of hu,rfl,ae 3 ⟨_,_,rfl,rfl,?_⟩⟩;refine bQ cT T.len DQ<|ao<|bb cw<|bb cS<|ae 0<|bb cw<|ae 4<|aB ⟨u,_,_,.int ((other n e).1:Int),rfl,rfl,a7.of hu,rfl,R,_,_,.ref a.1,rfl,rfl,al.of hR.lst,fB,aB ⟨a.1,_,_,.ref a.2,rfl,rfl,a7.of et,rfl,aA ⟨a.2,_,rfl,.inl<|al.of el,?_⟩⟩⟩;rw [Ab];refine⟨_,_,rfl,rfl,by omega,aA ⟨Z2,λp hp=>?_⟩⟩;refine q p _ (a8 hp _) hp ?_;rw [aD];unfold Nt.step Nt.left;show some (HO.tup [.int ((other n e).1:Int),.int<|(((other n e).2:Int)+1) % ((row n (other n e).1).length:Int)])=some (HO.tup [.int ((other n e).1:Int),.int ((((other n e).2+1) % (row n (other n e).1).length:Nat):Int)]);rw [Int.natCast_emod];rfl
abbrev NF:List Str:=["_law_rows","_law_seats_here","_law_end","_law_face_here","_law_here"]
theorem ja:aq NF ["_law_rows","_law_seats_here","_law_end"] (bd yV):=⟨rfl,rfl,rfl,by decide +kernel,rfl,by decide +kernel,by decide +kernel⟩
def fm(n:Net)(e:Nt.End)(j:Nat):List Nt.End:=(List.range j).map λi=>it (step n) i e
theorem U9(n:Net)(e:Nt.End)(j:Nat):fm n e (j+1)=fm n e j++[it (step n) j e]:=by
 unfold fm;rw [Cz,Al];rfl
theorem U'{f:Addr}{fd:FuncData}(F:bL K "_law_face" "_law_face" yV f fd)(T:Txt mg)(G:aV P w K mg base 2 "_law_step" ["_law_rows","_law_seats_here","_law_end","_law_turn"] zg) :
  aG P w K mg base bG 3 f fd ["_law_rows","_law_seats_here","_law_end"] zh:=by
 refine F.gb ja (λvs H Q E h=>?_) λb0 H vs Q E hr h=>?_
 ·obtain⟨R,d,t,as,n,ks,e,rfl,_⟩:=h;rfl
 obtain⟨R,d,t,as,n,ks,e,rfl,hR,hS,hT,ht,he,hb,q⟩:=h;have nd:=ja.nd;have hu:=hr.eF;obtain⟨k,k0,k1,k2⟩:=uf (f:=step n) (S:=ends n) (λa ha=>jI hT ha) (λa ha b hb=>ud hT ha hb) he;show Run _ _ _ [some<|.ref R,some<|.ref d,some<|.ref t,none,none] H;refine aY 3 nd<|dL<|ao<|ae 2<|aA ⟨Z1,λl hl=>?_⟩;have g1:=a8 hl<|.lst [.ref t];refine aY 4 nd<|bR G hr<|ao<|ae 0<|ao<|ae 1<|ao<|ae 2<|ao<|aB<|aA ⟨R,d,t,as,n,ks,e,rfl,hR.same g1,hS.same g1,hT,g1 _ _ ht,he,λu H1 s1 nu eu=>?_⟩;show Run _ _ _ [some<|.ref R,some<|.ref d,some<|.ref t,some<|.ref l,some<|.ref u] H1;refine yF (λm σ H2=>∃(j:Nat) (ts:List Addr) (u:Addr),m=k - j/\0 < j/\j<=k/\ak H H2/\H2 l=some (.lst<|ts.map V.ref)/\Pd H2 ts (fm n e j)/\H2 u=some (Tp<|it (step n) j e)/\(∀ i,0 < i->i < j->it (step n) i e≠e)/\σ=[some<|.ref R,some<|.ref d,some<|.ref t,some<|.ref l,some<|.ref u])
  (m0:=k - 1) ⟨1,[t],u,rfl,Fn,k0,g1.trans s1,s1 _ _ aD,.cons (s1 _ _<|g1 _ _ ht) .nil,eu,λi h1 h2=>by omega,rfl⟩ ?_
 rintro m σ H2 ⟨j,ts,u,rfl,j0,j1,sH,el,ep,eu,hf,rfl⟩;refine dM (qv hu) (ae 4<|ae 2 ⟨1,_,by decide,UP eu<|sH _ _ ht,_,rfl,?_⟩);have pl:=ep.length;have ol:(fm n e j).length=j:=by unfold fm;simp
 by_cases c:it (step n) j e=e
 ·rw [BW c];refine cU (b5<|ae 3<|q l ts (fm n e j) H2 sH hl el ep ⟨by omega,by omega,λi hi=>?_,by rw [ol];exact c,λi h1 h2=>hf i h1<|by omega⟩);unfold fm;rw [Ai,Dq<|by omega];rfl
 ·rw [BR c];have jk:j < k:=by
   rcases Db j k with h | h
   ·exact h
   ·have:j=k:=by omega
    subst this;exact absurd k2 c
  refine gN (fS<|jF<|ae 3 ⟨l,rfl,⟨_,el⟩,ae 4 ⟨_,el,by rw [Ab];exact cD (by omega),?_⟩⟩);have s2:ak H (upd H2 l<|.lst<|ts.map V.ref++[.ref u]):=fZ sH hl;have kt:∀ b f,H2 b=some (Tp f)->(upd H2 l<|.lst<|ts.map V.ref++[.ref u]) b=some (Tp f):=λb f h=>by
   rw [ay<|qA h el];exact h
  have JE:=kt u _ eu;refine aY 4 nd<|bR G hr<|ao<|ae 0<|ao<|ae 1<|ao<|ae 4<|ao<|aB<|aA ⟨R,d,u,as,n,ks,it (step n) j e,rfl,hR.same s2,hS.same s2,hT,JE,gB (λa ha=>jI hT ha) he j,λv H3 s3 nv ev=>?_⟩;refine bm ⟨k - (j+1),by omega,j+1,ts++[u],v,rfl,Gd _,jk,s2.trans s3,?_,?_,ev,λi h1 h2=>?_,rfl⟩
  ·rw [Al];exact s3 _ _ aD
  ·rw [U9];exact(ep.keep λb f h=>s3 _ _<|kt b f h).append<|.cons (s3 _ _ JE) .nil
  ·rcases Ex.mp h2 with h | h
   ·exact hf i h1 h
   ·rw [h];exact c
end
end D3
namespace Nt
open PySem L2
def Full(n:Net):Prop:=(∃ nm,n=[(nm,[])])\/(n≠[]/\∀ i,i < n.length->row n i≠[])
def dR(n:Net)(c:End):Prop:=c.1 < n.length/\c.2 < max 1 (row n c.1).length
def ins(n:Net)(c:End)(z:Str):Net:=n.modify c.1 λr=>(r.1,r.2.take c.2++z :: r.2.drop c.2)
theorem fO(n:Net)(c:End)(z:Str):(ins n c z).length=n.length:=by unfold ins;rw [List.length_modify]
theorem zj(n:Net)(c:End)(z:Str):(ins n c z).map (·.1)=n.map (·.1):=by
 unfold ins;refine Dp λi=>?_;rw [Ai,Ai,Fo];cases n[i]? with
 | none=>rfl
 | some r=>by_cases h:c.1=i <;> simp [h]
theorem oO(n:Net)(c:End)(z:Str)(i:Nat)(hc:c.1 < n.length):row (ins n c z) i=if c.1=i then(row n i).take c.2++z :: (row n i).drop c.2 else row n i:=by
 unfold row ins;rw [Fo]
 by_cases h:c.1=i
 ·subst h;rw [Aa hc];simp
 ·rw [BL h];cases n[i]? with
  | none=>simp [h]
  | some r=>simp [h]
theorem jK:∀(n:Net) (c:End) (z:Str),c.1 < n.length->(ag<|ins n c z).Perm (z :: ag n)
 | [],c,z,h=>by simp at h
 | a :: n,(0,p),z,h=>by
  unfold ins ag;simp only [List.modify_zero_cons,Cd];have:(a.2.take p++z :: a.2.drop p).Perm (z :: a.2):=by
   refine List.perm_middle.trans ?_;rw [De]
  exact this.append_right _
 | a :: n,(i+1,p),z,h=>by
  have ih:=jK n (i,p) z (by simpa using h);unfold ins ag at ih ⊢;simp only [List.modify_succ_cons,Cd];refine(ih.append_left a.2).trans ?_;exact List.perm_middle
theorem zp{n:Net}{c:End}{z:Str}(F:Full n)(hc:c.1 < n.length):n.length=1\/(∀ i,i < n.length->row n i≠[])->(∀ i,i < (ins n c z).length->row (ins n c z) i≠[])/\ins n c z≠[]:=by
 intro h;have hl:=fO n c z;refine⟨λi hi=>?_,λe=>?_⟩
 ·rw [oO n c z i hc]
  by_cases q:c.1=i
  ·rw [BP q];simp
  ·rw [BL q]
   rcases h with h | h
   ·rw [hl] at hi;omega
   ·exact h i<|by omega
 ·rw [e] at hl;simp at hl;omega
theorem Full.some{n:Net}(F:Full n):n≠[]:=by
 rcases F with ⟨nm,rfl⟩ | h
 ·simp
 ·exact h.1
theorem Full.either{n:Net}(F:Full n):n.length=1\/(∀ i,i < n.length->row n i≠[]):=by
 rcases F with ⟨nm,rfl⟩ | h
 ·exact .inl rfl
 ·exact .inr h.2
theorem Full.cn{n:Net}(F:Full n)(h0:row n 0≠[]){c:End}(hc:dR n c):c∈ends n:=by
 rcases F with ⟨nm,rfl⟩ | h
 ·exact absurd rfl h0
 ·have:=h.2 c.1 hc.1;have hp:0 < (row n c.1).length:=Cn.mpr this;have aS:c.2 < (row n c.1).length:=by
   have:=hc.2;omega
  exact af.mpr<|qz aS
theorem Va{n:Net}{e:End}(h:e∈ends n):dR n e:=by
 obtain⟨z,h⟩:=af.mp h;have:=fY h;exact⟨b6 h,by omega⟩
def m9(H H':Hp)(bad:List Addr):Prop:=∀ b o,H b=some o->b∉bad->H' b=some o
theorem JI(zs:List Str)(i:Nat)(z:Str):insertAt (zs.map V.str) i (.str z)=(zs.take i++z :: zs.drop i).map V.str:=by
 unfold insertAt;rw [Al,Bj,List.map_take,TV]
theorem ai.ins{H:Hp}{R:Addr}{as:List (Addr×Addr)}{n:Net}(h:ai H R as n){c:End}{z:Str}{a:Addr×Addr}(ha:as[c.1]?=some a)(hc:c.1 < n.length) :
  ai (upd H a.2<|Ls<|(row n c.1).take c.2++z :: (row n c.1).drop c.2) R as (Nt.ins n c z):=by
 have q0:=h.tup c.1 a n[c.1] ha<|Aa hc;have Vb:R≠a.2:=by
  intro e;have h1:=h.lst;rw [e,q0.2] at h1;have h2:=HO.lst.inj<|Option.some.inj h1;have h3:=BZ List.length h2;cases hm:n[c.1].2 with
  | nil=>
   rw [hm] at h2;have:as.map (λa=>V.ref a.1)=[]:=h2.symm;have hl:=BZ List.length this;rw [Ab,h.len] at hl;rw [hl] at hc;exact absurd hc<|Em _
  | cons y r=>
   rw [hm] at h2;cases as with
   | nil=>simp at h2
   | cons b bs=>
    simp at h2
 have er:row n c.1=n[c.1].2:=by unfold row;rw [Aa hc];rfl
 refine⟨by rw [fO];exact h.len,by rw [ay Vb];exact h.lst,λi b r hb hr=>?_,h.inj⟩;unfold Nt.ins at hr;rw [Fo] at hr;cases hn:n[i]? with
 | none=>rw [hn] at hr;by_cases q:c.1=i <;> simp [q] at hr
 | some r0=>
  rw [hn] at hr;have q1:=h.tup i b r0 hb hn;have t1:b.1≠a.2:=b9 q1.1 q0.2 λe=>nomatch e
  by_cases q:c.1=i
  ·subst q;rw [Aa hc] at hn;cases hn;rw [ha] at hb;cases hb;simp at hr;subst hr;refine⟨by rw [ay t1];exact q1.1,?_⟩;rw [aD,er]
  ·simp [q] at hr;subst hr;have t2:b.2≠a.2:=λe=>by
    have l1:i < as.length:=(Ac.mp hb).1;have l2:c.1 < as.length:=(Ac.mp ha).1;have x1:(as.map (·.2))[i]?=some b.2:=by rw [Ai,hb];rfl
    have x2:(as.map (·.2))[c.1]?=some a.2:=by rw [Ai,ha];rfl
    obtain⟨y1,z1⟩:=Ac.mp x1;obtain⟨y2,z2⟩:=Ac.mp x2;exact q<|(Gp (h₀:=y2) (h₁:=y1) h.inj).mp<|z2.trans<|e.symm.trans z1.symm
   exact⟨by rw [ay t1];exact q1.1,by rw [ay t2];exact q1.2⟩
theorem ai.more{H:Hp}{R t l:Addr}{as:List (Addr×Addr)}{n:Net}{pt:Str}{zs:List Str}(h:ai H R as n)(ht:H t=some (.tup [.str pt,.ref l]))(hl:H l=some (Ls zs))(hn:l∉as.map (·.2))(hR:l≠R) :
  ai (upd H R<|.lst<|as.map (λa=>V.ref a.1)++[.ref t]) R (as++[(t,l)]) (n++[(pt,zs)]):=by
 have cg:=h.len;refine⟨by rw [Ag,Ag,cg];rfl,by rw [aD,Al];rfl,λi b r hb hr=>?_,?_⟩
 ·rcases Db i as.length with c | c
  ·rw [Aq c] at hb;rw [Aq<|by omega] at hr;have q:=h.tup i b r hb hr;have t1:b.1≠R:=b9 q.1 h.lst λe=>nomatch e;have t2:b.2≠R:=by
    intro e;have h1:=h.lst;rw [<- e,q.2] at h1;have h2:=HO.lst.inj<|Option.some.inj h1;cases as with
    | nil=>simp at c
    | cons b' bs=>
     cases hm:r.2 with
     | nil=>rw [hm] at h2;simp at h2
     | cons y r=>rw [hm] at h2;simp at h2
   exact⟨by rw [ay t1];exact q.1,by rw [ay t2];exact q.2⟩
  ·have e:i=as.length:=by
    have:=(Ac.mp hb).1;rw [Ag] at this;simp at this;omega
   subst e;rw [Ay<|Am _] at hb;rw [cg,Ay<|Am _] at hr;simp at hb hr;subst hb hr;have t1:t≠R:=b9 ht h.lst λe=>nomatch e;exact⟨by rw [ay t1];exact ht,by rw [ay hR];exact hl⟩
 ·rw [Al,Bv];exact⟨h.inj,by simp,λx hx y hy e=>by simp at hy;subst hy e;exact hn hx⟩
theorem ai.lists{H:Hp}{R:Addr}{as:List (Addr×Addr)}{n:Net}(h:ai H R as n){x:Addr×Addr}(hx:x∈as):∃ zs,H x.2=some (Ls zs):=by
 obtain⟨i,hi,e⟩:=Cq.mp hx;have hl:=h.len;exact⟨_,(h.tup i x (n[i]'(by omega)) (by rw [<- e];exact Aa hi)<|Aa<|by omega).2⟩
theorem ai.fresh{H:Hp}{R l:Addr}{as:List (Addr×Addr)}{n:Net}(h:ai H R as n)(hl:H l=none){x:Addr×Addr}(hx:x∈as):l≠x.2:=by
 obtain⟨zs,e⟩:=h.lists hx;exact(bt e hl).symm
theorem f7(n:Net):(ends n).length=(ag n).length:=by
 unfold ends bh;rw [Ab,<- jH n 0,Ab]
theorem cN.ends{n:Net}(T:aj n){e:End}{fs:List End}(h:cN n e fs)(he:e∈ends n):∀ c∈fs,c∈Nt.ends n:=by
 intro c hc;obtain⟨i,hi,e2⟩:=Cq.mp hc;have:=h.at' i hi;rw [Aa hi,e2] at this;rw [Option.some.inj this];exact gB (λa ha=>jI T ha) he i
theorem uF{n:Net}{c k:End}{z:Str}(hc:dR n c)(hk:k.1 < n.length):dR (ins n k z) c:=by
 refine⟨by rw [fO];exact hc.1,?_⟩;rw [oO n k z c.1 hk];have:=hc.2
 split
 ·rw [Ag,Au,Br,Co];omega
 ·exact this
def dbl(zs:List Str):List Str:=zs.flatMap λz=>[z,z]
theorem zq(y:Str):∀ zs:List Str,(dbl zs).count y=2 * zs.count y
 | []=>rfl
 | z :: r=>by
  unfold dbl;rw [Cd];have ih:=zq y r;unfold dbl at ih;rw [Es,ih,Cu,Cu,Cu,List.count_nil];omega
theorem gG{y:Str}{zs:List Str}:y∈dbl zs↔y∈zs:=by
 rw [<- Ds,zq,<- Ds];omega
theorem zu:∀ zs:List Str,(dbl zs).length=2 * zs.length
 | []=>rfl
 | z :: r=>by
  unfold dbl;rw [Cd,Ag];have ih:=zu r;unfold dbl at ih;rw [ih,Au];simp;omega
theorem Vc(zs:List Str)(z:Str):dbl (zs++[z])=dbl zs++[z,z]:=by
 unfold dbl;rw [Ez];rfl
theorem JO{n:Net}{zs:List Str}(hn:zs.Nodup)(p:(ag n).Perm<|dbl zs):aj n:=λz hz=>by
 rw [p.count_eq,zq];have h1:z∈zs:=gG.mp<|p.mem_iff.mp hz;rw [hn.count,BP h1]
def NE(n:Net):Prop:=∀ r∈n,r.2≠[]
theorem gX{n:Net}{i:Nat}(h:i < n.length):row n i=n[i].2:=by unfold row;rw [Aa h];rfl
theorem Vd{n:Net}(h:NE n)(h0:n≠[]):Full n:= .inr ⟨h0,λi hi=>by rw [gX hi];exact h _<|Bn hi⟩
theorem Full.ne{n:Net}(h:Full n):(∃ nm,n=[(nm,[])])\/NE n:=by
 rcases h with h | ⟨_,h⟩
 ·exact .inl h
 ·refine .inr λr hr=>?_;obtain⟨i,hi,rfl⟩:=Cq.mp hr;have:=h i hi;rwa [gX hi] at this
theorem JP:∀(n:Net) (k:Nat) (h:k < n.length),(ag n).Perm<|n[k].2++ag (n.eraseIdx k)
 | [],k,h=>by simp at h
 | a :: n,0,h=>by unfold ag;simp
 | a :: n,k+1,h=>by
  have ih:=JP n k (by simpa using h);unfold ag at ih ⊢;simp only [Cd,List.getElem_cons_succ,RG];refine(ih.append_left a.2).trans ?_;rw [<- Ar,<- Ar];exact List.perm_append_comm.append_right _
theorem Ve(n:Net)(k:Nat)(h:k < n.length):(n.map (·.1)).Perm (n[k].1 :: (n.eraseIdx k).map (·.1)):=by
 have:=(bx.bB n k h).map (·.1);exact this.symm
theorem zv(zs:List Str)(i:Nat):(zs.drop i++zs.take i).Perm zs:=by
 refine Cf.trans ?_;rw [De]
theorem ai.upd{H:Hp}{R x:Addr}{as:List (Addr×Addr)}{n:Net}(h:ai H R as n){xs:List V}{o:HO}(hx:H x=some (.lst xs))(hR:R≠x)(ha:∀ a∈as,a.2≠x):ai (upd H x o) R as n:=by
 refine⟨h.len,by rw [ay hR];exact h.lst,λi a r h1 h2=>?_,h.inj⟩;have q:=h.tup i a r h1 h2;exact⟨by rw [ay<|b9 q.1 hx λe=>nomatch e];exact q.1,by rw [ay<|ha a<|Ap h1];exact q.2⟩
theorem zx{α:Type}(l:List α)(k i:Nat):(l.eraseIdx k)[i]?=if i < k then l[i]? else l[i+1]?:=by
 rw [Gh]
theorem ai.erase{H:Hp}{R:Addr}{as:List (Addr×Addr)}{n:Net}(h:ai H R as n){k:Nat}(hk:k < n.length) :
  ai (L2.upd H R<|.lst<|(as.map λa=>V.ref a.1).eraseIdx k) R (as.eraseIdx k) (n.eraseIdx k):=by
 have hl:=h.len;refine⟨by rw [Cp,Cp,hl],?_,λi a r h1 h2=>?_,?_⟩
 ·rw [aD]
  congr 2
  refine Dp λi=>?_;rw [zx,Ai,Ai,Ai,zx]
  split <;> rfl
 ·rw [zx] at h1 h2;have q:H a.1=some (.tup [.str r.1,.ref a.2])/\H a.2=some (Ls r.2):=by
   by_cases c:i < k
   ·rw [BP c] at h1 h2;exact h.tup i a r h1 h2
   ·rw [BL c] at h1 h2;exact h.tup (i+1) a r h1 h2
  have t2:a.2≠R:=by
   intro e;have h3:=h.lst;rw [<- e,q.2] at h3;have h4:=HO.lst.inj<|Option.some.inj h3;cases as with
   | nil=>simp at hl;simp [<- hl] at hk
   | cons b bs=>
    cases hm:r.2 with
    | nil=>rw [hm] at h4;simp at h4
    | cons y r=>rw [hm] at h4;simp at h4
  exact⟨by rw [ay<|b9 q.1 h.lst λe=>nomatch e];exact q.1,by rw [ay t2];exact q.2⟩
 ·have:((as.eraseIdx k).map (·.2)).Sublist (as.map (·.2)):=(List.eraseIdx_sublist as k).map _;exact h.inj.sublist this
theorem Vf(zs:List Str)(i:Nat):dj (zs.map V.str) (some (i:Int)) none=(zs.drop i).map V.str:=by
 unfold dj;rw [HT.d9,HT.di,Ab];rw [Ci (by rw [Co,Ab];omega),TV]
 rcases UG i zs.length with h | h
 ·rw [RP h]
 ·rw [QV h,Ef (by simp),Ef<|by simpa using h]
theorem Vg(zs:List Str)(i:Nat):dj (zs.map V.str) none (some (i:Int))=(zs.take i).map V.str:=by
 unfold dj;rw [HT.d9,HT.di,Ab,List.drop_zero,TY,List.map_take]
 rcases UG i zs.length with h | h
 ·rw [RP h]
 ·rw [QV h,Ci (by simp),Ci<|by simpa using h]
end Nt
namespace L2
open PySem PySem.Spec PyProof.Rows
theorem Vh{P:Program}{w:World}{k:Key}{u:Value}(h:(c7 P w).is k u=true):RelV (kV k) u:=by
 rcases jx h with ⟨i,t,rfl,rfl⟩ | ⟨x,t,rfl,rfl⟩ <;> exact⟨t,rfl⟩
section
variable{X:Cx}{pins:List (Addr×Obj)}{σ:St}{H:Hp}{s:Shared}
theorem Vi{d:Addr}{kvs:List (Key×V)}(I:Inv X pins σ H s)(e:H d=some (.dK kvs)):∃ o,s.heap.get? d=some o/\Inv X pins σ (upd H d<|.bD o<|.dK kvs) s:=by
 obtain⟨z,hd,vs,rel,dd⟩:=tG I.aE e;obtain⟨o,es,ep,ho,rest⟩:=id dd;refine⟨o,ho,?_⟩;exact k5 (t':=s.toks) I (by rw [e];exact True.intro) ⟨rfl,λ_ _=>rfl⟩ ⟨o,ho⟩ (show az X.prog X.w _ s.heap d (.bD o<|.dK kvs) from⟨ho,z,hd,vs,rel,dd⟩)
def zy(d:Addr)(o:Obj)(kvs:List<|Key×V):It:=
 ⟨λi H=>H d=some (.bD o<|.dK kvs)/\i < kvs.length,λi H x H'=>H'=H/\∃ p,kvs[i]?=some p/\x=kV p.1,λi H=>H d=some (.bD o<|.dK kvs)/\kvs.length<=i⟩
theorem JS{P:Program}{w:World}{h:Heap}{d:Addr}{o:Obj}{es:Array DictEntry}{ep:Nat}{kvs:List (Key×V)}(aE:b4 P w H h)(e:H d=some (.bD o<|.dK kvs))(hd:o.data = .dict es ep):∃ vs,KV kvs vs/\h.DictAt (c7 P w) d vs ep:=by
 obtain⟨ho,z,_,vs,rel,dd⟩:=(show az P w H h d (.bD o<|.dK kvs) from aE d _ e);obtain⟨kS,o',d8,c8,r1,r2,r3⟩:=dd.dictAt;have:o=o':=Option.some.inj<|ho.symm.trans c8;subst this;rw [hd] at r2
 injection r2 with e1 e2
 subst e1;subst e2;exact⟨vs,rel,o,es,c8,r1,hd,r3⟩
theorem Vj{P:Program}{w:World}{K:PySem.W.Frag}{tg:Expr}(d it:Addr)(o:Obj)(es:Array DictEntry)(ep:Nat)(kvs:List<|Key×V)(ng:o.data = .dict es ep):Turn P w K tg (zy d o kvs) [it] it (λi h=>h.IsKeyIter it d i kvs.length ep) where
 mem:=by simp
 obj:=λi h st b hb=>by
  have e:b=it:=by simpa using hb
  subst e;obtain⟨o,e,c,d⟩:=st;exact⟨o,e,λv z=>by rw [d] at z;cases z⟩
 keep:=λi h h' st k=>let ⟨o,ho,r⟩:=st;⟨o,k it (by simp) o ho,r⟩
 item:=by
  intro X hP hw hK hc i pins s σ H E I hf st hg;subst hP hw hK;obtain⟨f0,f1,f2,f3,f4,f5⟩:=hf it (by simp);obtain⟨hd,hi⟩:=hg;obtain⟨vs,rel,da⟩:=JS I.aE hd ng;have hl:=rel.length;have oG:i < vs.length:=by omega
  have hx:vs[i]?=some vs[i]:=Aa oG;rw [hl] at st;refine wpAny_pyNext_dict_item (k:=vs[i].1) (v:=vs[i].2) st da hx λkey h' hk db fT=>?_;have I1:Inv X pins σ H {s with heap:=h'}:=I.turned (t':=s.toks) (λb o hb e=>fT.extBut b o hb e) f0 f1 f3 f4 f5;obtain⟨o2,e2,c2,d2⟩:=id db;refine⟨_,rfl,wC (s:={s with heap:=h'}) e2 c2 d2 (by decide) ⟨kV vs[i].1,H,I1,Vh hk,⟨rfl,kvs[i],Aa hi,?_⟩,by rw [hl];exact db,λb hb=>(hf b hb).1⟩⟩;have ek:=rel.keys;have e3:(kvs.map (·.1))[i]?=(vs.map (·.1))[i]?:=by rw [ek]
  rw [Ai,Ai,Aa hi,hx] at e3;have e4:kvs[i].1=vs[i].1:=Option.some.inj e3;rw [e4]
 done:=by
  intro X hP hw hK hc i pins s σ H E I hf st hg;subst hP hw hK;obtain⟨f0,f1,f2,f3,f4,f5⟩:=hf it (by simp);obtain⟨hd,hi⟩:=hg;obtain⟨vs,rel,da⟩:=JS I.aE hd ng;have hl:=rel.length;rw [hl] at st;exact wpAny_pyNext_dict_end (I.ok.hd hc) st da (by rw [Bb];omega) λh' eb=>⟨rfl,I.turned (t':=s.toks) (λb o hb e=>eb b o hb e) f0 f1 f3 f4 f5⟩
 self:=λ_ _ _ _ _ st h=>wpAny_pyIter_keyiter st h
end
section
variable{X:Cx}{elt tg:Expr}{ifs:List Expr}{scope:Scope}{σ:St}{H:Hp}{N':List Str}{A a d:Addr}{xs:List V}{kvs:List (Key×V)}{after:Hp->Prop}
theorem qF(Pv:Nat->St->Hp->Prop)(h0:Pv 0 σ H)(hl:∀ i σ' H',i<=xs.length->Pv i σ' H'->al X.K H' a xs)
  (hs : ∀ i x σ' H', xs[i]? = some x → Pv i σ' H' → xT X N' scope tg x σ' H' λσ2 H3 => xU X N' scope ifs σ2 H3 λb H4 =>
   if b=true then xS X N' scope elt σ2 H4 λv H5=>∃ ys,H5 A=some (.lst ys)/\ys.length < sizeLine/\Pv (i+1) σ2 (upd H5 A<|.lst<|ys++[v]) else Pv (i+1) σ2 H4)
  (hd:∀ σ' H',Pv xs.length σ' H'->after H'):oB X N' scope tg ifs elt (mj X.K a) A after σ H:=by
 refine⟨λi m σ' H'=>m=xs.length - i/\i<=xs.length/\Pv i σ' H',⟨_,rfl,Bq _,h0⟩,?_⟩;rintro i m σ' H' ⟨rfl,hi,p⟩;have q:=hl i σ' H' hi p
 by_cases aS:i < xs.length
 ·refine .inr ⟨⟨xs,xs[i],q,by simp [aS]⟩,Pv<|i+1,λσ' H' p'=>⟨xs.length - (i+1),by omega,rfl,aS,p'⟩,λx H2 y=>?_⟩;obtain⟨e,y⟩:=y;subst e;exact hs i x σ' _ (y xs q) p
 ·have e:i=xs.length:=by omega
  subst e;exact .inl ⟨⟨xs,q,Am _⟩,hd σ' H' p⟩
theorem uG{zs:List Str}(f:Str->Bool)(hz:zs.length < sizeLine)(ha:H a=some (.lst<|zs.map V.str))(hA:H A=none)
  (hg:∀ cl C s₀ H₀ ex v v0 H' R,R (σ++[some v]) H'->Eg (fk X N' scope cl C s₀ H₀ ex) tg v (σ++[v0]) H' R)
  (hi:∀ cl C s₀ H₀ ex z ys T,T (f z) (upd H A<|.lst ys)->Ei (fk X N' scope cl C s₀ H₀ ex) ifs (σ++[some<|.str z]) (upd H A<|.lst ys) T)
  (he:∀ cl C s₀ H₀ ex z H' R,R (V.str z) H'->Ev (fk X N' scope cl C s₀ H₀ ex) elt (σ++[some<|.str z]) H' R) (q:after<|upd H A<|.lst<|(zs.filter f).map V.str) :
  oB X N' scope tg ifs elt (mj X.K a) A after (σ++List.replicate 1 none) (upd H A<|.lst []):=by
 have ne:a≠A:=bt ha hA;refine qF (xs:=zs.map V.str) (λk σ' H'=>(∃ v,σ'=σ++[v])/\H'=upd H A (.lst<|((zs.take k).filter f).map V.str)) ⟨⟨none,rfl⟩,by simp⟩ ?_ ?_ ?_
 ·rintro i σ' H' _ ⟨_,rfl⟩;exact al.of<|by rw [ay ne];exact ha
 ·rintro i x σ' H' hx ⟨⟨v,rfl⟩,rfl⟩;rw [Ai,Ba] at hx;obtain⟨z,Vk,rfl⟩:=hx;intro cl C s₀ H₀ ex;refine hg cl C s₀ H₀ ex _ _ _ _ ?_;intro cl C s₀ H₀ ex;refine hi cl C s₀ H₀ ex z _ _ ?_;have e:(zs.take<|i+1).filter f=(zs.take i).filter f++(if f z=true then [z] else []):=by
   rw [Do,Vk,Dh]
   congr 1
   cases hf:f z <;> simp [hf]
  have hlen:((zs.take i).filter f).length<=zs.length:=Ce (Go _ _)<|by rw [Br];omega
  by_cases hf:f z=true
  ·rw [BP hf];intro cl C s₀ H₀ ex;refine he cl C s₀ H₀ ex z _ _ ⟨_,aD,by rw [Ab];omega,⟨_,rfl⟩,?_⟩;rw [FC,e,BP hf,Al];rfl
  ·rw [BL hf];refine⟨⟨_,rfl⟩,?_⟩;rw [e,BL hf,Bz]
 ·rintro σ' H' ⟨_,rfl⟩;have e2:zs.take (zs.map V.str).length=zs:=Ci (by simp);rw [e2];exact q
theorem JU(z:Str)(zs:List Str):oq (.str z) (zs.map V.str)=zs.contains z:=by
 unfold oq
 induction zs with
 | nil=>rfl
 | cons y r ih=>
  rw [Bj,Fu,ih,List.contains_cons]
  congr 1
  show cz (.str y) (.str z)=(z == y)
  by_cases h:y=z
  ·subst h;simp [cz]
  ·have h':z≠y:=λq=>h q.symm;show(y == z)=(z == y);rw [beq_eq_false_iff_ne.mpr h,beq_eq_false_iff_ne.mpr h']
theorem JY(zs:List Str):(zs.map V.str).all iK=true:=by
 rw [Eh];intro x hx;obtain⟨z,_,rfl⟩:=Aj.mp hx;rfl
theorem nh{e1 e2:Expr}{k:Nat}{pos:Pos}{t:Addr}{x y:V}{R:St->Hp->Prop}(hc:X.calm=true)(ht:a7 X.K H t [x,y])(h:Eg X e1 x σ H λσ1 H1=>Eg X e2 y σ1 H1 R)
  (hn:(assignEach [e1,e2] X.env).length=2:=by rfl) (dS:(assignEach [e1,e2] X.env).findIdx? (·.1)=none:=by rfl)
  (oI:(assignEach [e1,e2] X.env).map (·.2)=assign e1 X.env :: (assignEach [e2] X.env).map (·.2):=by rfl) (uH:(assignEach [e2] X.env).map (·.2)=assign e2 X.env :: (assignEach [] X.env).map (·.2):=by rfl) :
  Eg X (.Tuple [e1,e2] k pos) (.ref t) σ H R:=
 HP (Ph (t:=wA (λv σ H Q=>Eg X e1 v σ H Q)<|wA (λv σ H Q=>Eg X e2 v σ H Q) pP) hc (FR tK (FR tK Pg uH) oI) hn dS) ⟨t,_,rfl,ht,rfl,_,_,rfl,h.mono λσ1 H1 h1=>⟨_,_,rfl,h1.mono λσ2 H2 q=>⟨rfl,q⟩⟩⟩
end
end L2
namespace PySem
theorem getAttr?_miss_list{prog:Program}{w:World}{A:Around}{E:Value->Shared->Prop}{s:Shared}{a:Addr}{o:Obj}{xs:Array Value}{k:Nat}{name:Str}{Q:Option Value->Shared->Prop}
  (hx:s.heap.get? a=some o) (hc:o.cls = .type "list") (gT:o.data = .seq xs k) (hd:o.dict=none) (qG:typeLookup (.type "list") name=pure none) (qH:(["__module__","__name__","__qualname__","__doc__","__annotations__"]:List Str).contains name=false) (hA:A.handled=none)
  (h:∀ h' tk e,Heap.NewExcOf s.heap h' e "AttributeError"->Q none {s with heap:=h',toks:=tk}) (hsz:name.length+100<=sizeLine:=by size_fits) :
  wpAny (model prog w) A (getAttr? (.ref a) name) Q E s:=by
 obtain⟨c,dct,dat,sl⟩:=o;simp only at hc gT hd;subst hc gT hd;obtain⟨hp,g,d,tk,os⟩:=s;have hT:∀ t7,(⟨hp,g,d,t7,os⟩:Shared).TypeIs (.ref a) "list":=λ_=>⟨_,hx,rfl⟩;have f1:=sub_AttributeError;have f3:=F.slot_list_getattribute.lookup;have f4:=F.slot_list_getattribute.bind<|.ref a;have f5:=am_list_getattr_none;unfold getAttr? getAttrBy? getAttrBy
 repeat (any_goals (first | assumption | exact hT _ | ((with_reducible show wpAny _ _ (call (Value.builtin "list.__getattribute__") _ _) _ _ _);refine JL F.slot_list_getattribute (hT _) am_entry_list_getattribute (F.args_list_getattribute_2 _ _) (meets_getattribute_miss_list a xs k sl name _ qG qH hsz) ⟨hx,hA,λh' t7 e ip=>?_⟩) | wp_step))
 obtain⟨t',u',he⟩:=ip.there;show wpAny _ _ (getattributeRaised _ _ _ _ _ _ _) _ _ _;unfold getattributeRaised
 repeat (any_goals (first | assumption | wp_step))
 exact h _ _ _ ip.of
namespace F
theorem a9:entryFor table "dict.update.loop" = some Builtin.«dict.update.loop»:=entryFor_of_tree<|by kernel_rfl
theorem aI:plainId "dict.update.loop" = true:=by decide +kernel
theorem eM:typeLookup (.type "list") "keys" = pure none:=by rw [RN,LQ];kernel_rfl
end F
section
variable{prog:Program}{w:World}{K:Type} [DecidableEq K] {knd:KeyKind prog w K} {A:Around} {R:Result->Shared->Prop}
def zA(knd:KeyKind prog w K)(h:Heap)(items:List Value)(fA:List<|K×Value):Prop:=
 items.length=fA.length/\∀(j:Nat) it,items[j]?=some it->∃ T key k v o n,it = .ref T/\fA[j]?=some (k,v)/\knd.is k key=true/\h.get? T=some o/\o.cls = .type "tuple"/\o.data = .seq #[key,v] n
theorem Vl(kvs:List<|K×Value)(k:K)(v:Value):(stored kvs k v).length<=kvs.length+1:=by
 unfold stored
 split
 ·rw [Ab];omega
 ·rw [Ag];simp
theorem Vm{hB:Heap}{d I l:Addr}{items:List Value}{fA:List (K×Value)}(hd:hB.objs.size<=d)(hI:hB.objs.size<=I)(zB:d≠I)(hl:hB.IsList l items.toArray)(hp:zA knd hB items fA)(hn:items.length < sizeLine)(hh:A.handled=none) :
  ∀(k i:Nat) (s:Shared) (acc:List<|K×Value),items.length - i=k->i<=items.length->(∀ b o,hB.get? b=some o->s.heap.get? b=some o)->s.heap.IsListIter I l i->s.heap.DictOf knd d acc->acc.length<=i ->
   (∀ h' tk,(∀ b o,b≠I->b≠d->s.heap.get? b=some o->h'.get? b=some o)->h'.DictOf knd d ((fA.drop i).foldl (λa p=>stored a p.1 p.2) acc)->R (.ok<|.ret .none) {s with heap:=h',toks:=tk}) ->
   codeAny (model prog w) A (.builtin "dict.update.loop" ⟨[.ref d,.ref I,rawInt i,.none],[]⟩) R s:=by
 have nb:∀ b o,hB.get? b=some o->b≠I/\b≠d:=λb o e=>⟨Bk<|Bc (Av e) hI,Bk<|Bc (Av e) hd⟩;intro k
 induction k with
 | zero=>
  intro i s acc hk hi fC dS hD cg hR;have Ic:i=items.length:=by omega
  refine DW F.a9 ?_;rw [DP F.aI _];show wpAny _ A.in1 (pyNext (.ref I) >>= _) _ _ s;have iX:s.heap.IsList l items.toArray:=let ⟨o,ho,r⟩:=hl;⟨o,fC _ _ ho,r⟩
  refine BJ (wpAny_pyNext_list_end hh dS iX (by simp;omega) λh' eb=>?_);show wpAny _ A.in1 (Builtin.Dict.addKeywords d [] >>= _) _ _ _;refine BJ<|BK<|BK ?_;refine hR h' s.toks (λb o hb _ e=>eb b o hb e) ?_;rw [List.drop_eq_nil_of_le<|by have:=hp.1;omega];exact hD.extBut eb zB
 | succ k ih=>
  intro i s acc hk hi fC dS hD cg hR;have aS:i < items.length:=by omega
  have hx:items[i]?=some items[i]:=Aa aS;obtain⟨T,key,kk,v,o,n,e1,e2,e3,e4,e5,e6⟩:=hp.2 i _ hx;rw [e1] at hx;refine DW F.a9 ?_;rw [DP F.aI _];show wpAny _ A.in1 (pyNext (.ref I) >>= _) _ _ s;have iX:s.heap.IsList l items.toArray:=let ⟨o,ho,r⟩:=hl;⟨o,fC _ _ ho,r⟩
  refine BJ (wpAny_pyNext_list_item dS iX (x:= .ref T) (by simpa using hx) λh' db sb=>?_);have eT:h'.get? T=some o:=(sb.2 T (nb T o e4).1).trans<|fC _ _ e4;refine BJ<|CK<|BJ<|wpAny_tryCatch ?_;unfold Builtin.Dict.pairItems;refine BJ<|JX (T:= "tuple") ⟨o,eT,e5⟩ ?_;rw [BP<|by decide];refine BJ<|wpAny_seqItems (s:={s with heap:=h'}) eT e6<|BK ?_;show wpAny _ _ (holding [key,v]<|dictSet d key v) _ _ _;refine CK (wpAny_dictSet_pairs (knd:=knd) (s:={s with heap:=h'}) (k:=kk) e3 (hD.extBut sb.extBut zB) (λh2 D2 J0=>?_)<|by omega);refine BK ⟨GK F.aI _,?_⟩;have J1:∀ b o,b≠I->b≠d->s.heap.get? b=some o->h2.get? b=some o:=λb o h1 h3 e=>(J0.2 b h3).trans<|(sb.2 b h1).trans e;refine ih (i+1) {s with heap:=h2,toks:=s.toks+1} (stored acc kk v) (by omega) aS (λb o e=>J1 b o (nb b o e).1 (nb b o e).2<|fC _ _ e) (db.extBut J0.extBut<|CN zB) D2 (by have:=Vl acc kk v;omega) λh3 tk k3 D3=>?_;refine hR h3 tk (λb o h1 mI e=>k3 b o h1 mI<|J1 b o h1 mI e) ?_;have e7:fA.drop i=(kk,v) :: fA.drop (i+1):=by
   obtain⟨hj,e8⟩:=Ac.mp e2;rw [El hj,e8]
  rw [e7];exact D3
theorem Vn{E:Value->Shared->Prop}{s:Shared}{Q:Value->Shared->Prop}{l:Addr}{ol:Obj}{nl:Nat}{items:List Value}{fA:List (K×Value)}(ho:s.heap.get? l=some ol)(hc:ol.cls = .type "list")(ng:ol.dict=none)(zC:ol.data = .seq items.toArray nl)(hp:zA knd s.heap items fA)(hn:items.length < sizeLine)(hh:A.handled=none)
  (h:∀ h' tk,(∀ b o,s.heap.get? b=some o->h'.get? b=some o)->h'.DictOf knd s.heap.objs.size (fA.foldl (λa p=>stored a p.1 p.2) [])->Q (.ref s.heap.objs.size) {s with heap:=h',toks:=tk}) :
  wpAny (model prog w) A (call (.type "dict") [.ref l]) Q E s:=by
 refine callType_codes (Q₁:=λobj s₁=>obj = .ref s.heap.objs.size/\s₁={s with heap:=s.heap.push {cls:= .type "dict",data:= .dict #[]}}) F.kt_called_dict (F.kt_typeCall_dict_1 _) F.entry_dict_init (kt_code_dict_new _ ⟨rfl,rfl⟩) ?_;rintro obj s₁ ⟨rfl,rfl⟩;have iR:(s.heap.push {cls:= .type "dict",data:= .dict #[]}).DictOf knd s.heap.objs.size []:=Heap.DictOf.new s.heap;have c8:(s.heap.push {cls:= .type "dict",data:= .dict #[]}).get? l=some ol:=Af _ ho;refine⟨iR.typeIs,F.args_dict_init_2 _ _,?_⟩;unfold Builtin.«dict.__init__»;refine BJ ?_;unfold Builtin.Dict.selfAndRest;refine BJ<|wpAny_notOrdered_dict iR.typeIs ?_;show wpAny _ _ (pure (s.heap.objs.size,[Value.ref l])) _ _ _;refine BK ?_;show wpAny _ _ (Builtin.Dict.updateFrom "dict.__init__" s.heap.objs.size (.ref l) [] .none) _ _ _;unfold Builtin.Dict.updateFrom;refine BJ<|JX (T:= "list") ⟨ol,c8,hc⟩ ?_;rw [BP<|by decide];refine BJ (getAttr?_miss_list c8 hc zC ng F.eM (by decide) (by exact hh) λh' tk e ne=>?_);rw [BP (show(none:Option Value).isNone=true from rfl)];have kp:∀ b o,s.heap.get? b=some o->h'.get? b=some o:=λb o e=>ne.keeps b o<|Af _ e;refine BJ<|GX ?_;have hL:h'.IsList l items.toArray:=⟨ol,kp _ _ ho,hc,nl,zC⟩;refine BJ<|QD hL ?_;refine BK ⟨GK F.aI _,?_⟩;have J2:h'.DictOf knd s.heap.objs.size []:=let ⟨o,es,ep,ho,r⟩:=iR;⟨o,es,ep,ne.keeps _ _ ho,r⟩
 have aS:s.heap.objs.size < h'.objs.size:=let ⟨o,es,ep,ho,r⟩:=J2;Av ho
 refine Vm (hB:=s.heap) (d:=s.heap.objs.size) (I:=h'.objs.size) (l:=l) (Am _) (Ch aS) (Bk aS) ⟨ol,ho,hc,nl,zC⟩ hp hn (by exact hh) _ 0 _ [] rfl (Bq _) (λb o e=>Af _<|kp b o e) ⟨_,As _ rfl,rfl,rfl⟩ (J2.push _) (Bq _) λh2 Vo k2 D2=>?_;refine⟨rfl,h h2 Vo (λb o e=>k2 b o (Bk<|Av<|kp b o e) (Bk<|Av e)<|Af _<|kp b o e) D2⟩
end
end PySem
namespace L2
open PySem PySem.Spec PyProof.Rows
section
variable{X:Cx}{pins:List (Addr×Obj)}{σ:St}{H:Hp}{s:Shared}
theorem Vp{kvs:List (Key×V)}:∀{ps:List (Key×V)} {acc:List (Key×Value)} {rs:List (Key×Value)},KV ps acc->KV kvs rs->KV (kvs.foldl (λa p=>putK a p.1 p.2) ps) (rs.foldl (λa p=>stored a p.1 p.2) acc):=by
 induction kvs with
 | nil=>intro ps acc rs h g;cases g;exact h
 | cons p r ih=>
  intro ps acc rs h g;cases g with
  | @cons _ q _ r' hq hr=>
   obtain⟨e1,e2⟩:=hq;rw [Cy,Cy];refine ih ?_ hr;rw [<- e1];exact h.put p.1 e2
theorem J3{P:Program}{w:World}{h:Heap}:∀{kvs:List (Key×V)} {ts:List Addr},ts.length=kvs.length->(∀(j:Nat) t kv,ts[j]?=some t->kvs[j]?=some kv->∃ key v o m,(c7 P w).is kv.1 key=true/\RelV kv.2 v/\h.get? t=some o/\o.cls = .type "tuple"/\o.data = .seq #[key,v] m) ->
  ∃ rs:List<|Key×Value,KV kvs rs/\∀(j:Nat) t,ts[j]?=some t->∃ key k v o m,rs[j]?=some (k,v)/\(c7 P w).is k key=true/\h.get? t=some o/\o.cls = .type "tuple"/\o.data = .seq #[key,v] m
 | [],ts,hl,_=>by
  have:ts=[]:=Bi.mp hl;subst this;exact⟨[],.nil,λj t h=>by simp at h⟩
 | kv :: r,[],hl,_=>by simp at hl
 | kv :: r,t :: ts,hl,hp=>by
  obtain⟨key,v,o,m,q1,q2,q3,q4,q5⟩:=hp 0 t kv rfl rfl;obtain⟨rs,hk,hr⟩:=J3 (kvs:=r) (ts:=ts) (by simpa using hl) λj t kv h1 h2=>hp (j+1) t kv (by simpa using h1) (by simpa using h2);refine⟨(kv.1,v) :: rs,.cons ⟨rfl,q2⟩ hk,λj t' ht=>?_⟩;cases j with
  | zero=>
   cases ht;exact⟨key,kv.1,v,o,m,rfl,q1,q3,q4,q5⟩
  | succ j=>
   obtain⟨key,k,v,o,m,e,z⟩:=hr j t' (by simpa using ht);exact⟨key,k,v,o,m,by simpa using e,z⟩
theorem Vq(hc:X.calm=true):fJ X (.type "dict") (λxs H Q=>∃(a:Addr) (ts:List Addr) (kvs:List<|Key×V),xs=[.ref a]/\H a=some (.lst<|ts.map V.ref)/\ts.length=kvs.length/\ts.length < sizeLine/\(∀(j:Nat) t kv,ts[j]?=some t->kvs[j]?=some kv->H t=some (.tup [kV kv.1,kv.2])) /\
  ∀ d,H d=none->Q (.ref d) (upd H d<|.dK<|kvs.foldl (λa p=>putK a p.1 p.2) [])):=by
 intro pins s σ H xs us Q I r h;obtain⟨a,ts,kvs,rfl,hH,hl,hz,ht,q⟩:=h;obtain⟨u,rfl,ru⟩:=vals1 r;cases (show u=Value.ref a from ru);obtain⟨z,its,n,rv,e⟩:=(show az X.prog X.w H s.heap a (.lst<|ts.map V.ref) from I.aE a _ hH);have iZ:=rv.length;rw [Ab] at iZ;have ni:∀(j:Nat) t,ts[j]?=some t->its[j]?=some (.ref t):=λj t hj=>by
  obtain⟨u,hu,ru⟩:=rv.get (i:=j) (x:= .ref t) (by rw [Ai,hj];rfl);cases (show u=Value.ref t from ru);exact hu
 have pair:∀(j:Nat) t kv,ts[j]?=some t->kvs[j]?=some kv->∃ key v o m,(c7 X.prog X.w).is kv.1 key=true/\RelV kv.2 v/\s.heap.get? t=some o/\o.cls = .type "tuple"/\o.data = .seq #[key,v] m:=λj t kv h1 h2=>by
  obtain⟨z2,dq,fM,o,eo,co,m,dm⟩:=(show az X.prog X.w H s.heap t (.tup [kV kv.1,kv.2]) from I.aE t _<|ht j t kv h1 h2);obtain⟨key,v,e3,r1,r2⟩:=fM.two;refine⟨key,v,o,m,mE r1,r2,eo,co,?_⟩;rw [dm,e3]
 obtain⟨rs,hk,hr⟩:=J3 hl pair;have zD:=hk.length;have hP:zA (c7 X.prog X.w) s.heap its rs:=by
  refine⟨by omega,λj it hj=>?_⟩;have oP:j < ts.length:=by have:=(Ac.mp hj).1;omega
  have J5:ts[j]?=some ts[j]:=Aa oP;have e2:=ni j _ J5;rw [hj] at e2;obtain⟨key,k,v,o,m,q1,q2,q3,q4,q5⟩:=hr j _ J5;exact⟨ts[j],key,k,v,o,m,Option.some.inj e2,q1,q2,q3,q4,q5⟩
 refine Vn (knd:=c7 X.prog X.w) e rfl rfl rfl hP (by omega) (I.ok.hd hc) λh' tk kp D=>?_;have hlen:∀(l:List<|Key×V) (a:List<|Key×V),(l.foldl (λa p=>putK a p.1 p.2) a).length<=a.length+l.length:=by
  intro l
  induction l with
  | nil=>intro a;exact Am _
  | cons p r ih=>
   intro a;rw [Cy,Au];have h1:=ih<|putK a p.1 p.2;have h2:=ig a p.1 p.2;omega
 have hb:=I.big;refine⟨.ref s.heap.objs.size,_,I.laid (t':=tk) kp (Am _) (show az X.prog X.w _ h' _ (.dK<|kvs.foldl (λa p=>putK a p.1 p.2) []) from⟨?_,?_,_,Vp (kvs:=kvs) (ps:=[]) (acc:=[]) .nil hk,D⟩),rfl,q _<|I.aE.fresh<|Am _⟩
 ·have:=hlen kvs [];rw [Fh] at this;omega
 ·exact beq_eq_false_iff_ne.mpr<|Cr hb
end
section
variable{X:Cx}{pins:List (Addr×Obj)}{σ:St}{H:Hp}{s:Shared}{h':Heap}
theorem Inv.bY{t':Nat}{ch:List Addr}(I:Inv X pins σ H s)(hf:∀ b∈ch,bV X pins H b)(k:∀ b o,b∉ch->s.heap.get? b=some o->h'.get? b=some o):Inv X pins σ H {s with heap:=h',toks:=t'}:=by
 have pN:∀ b u,H b=some u->b∉ch:=λb u e z=>by rw [(hf b z).1] at e;cases e
 refine I.step (g':=s.gens) (d':=s.drawn) (ch:=ch) (λb hb=>?_) (λb o _ _ hc e _=>k b o hc e) (λb o _ _ hc e _=>⟨o.slots,k b o hc e⟩) (λ_ _ _ _ n=>n)
  (λb o hc e=>⟨o,k b o hc e⟩) (λ_ _ e=>e) (λ_ _ _ e=>e) (λb ps e=>⟨#[],by rw [e];simp⟩) (λm hm=>?_) (λb u e=>?_) I.bare
 ·obtain⟨f0,f1,f2,f3,f4,f5⟩:=hf b hb;exact⟨f3,f1,f4,f5⟩
 ·obtain⟨o,es,ep,ho,r⟩:=hm;exact⟨o,es,ep,k _ o (λz=>(hf _ z).2.1 rfl) ho,r⟩
 ·refine(I.aE b u e).gK (λc v hc q=>k c v ?_ q) (λ_ q=>q) λ_ _ q=>q
  rcases hc with z | z
  ·rw [z];exact pN b u e
  ·exact pN c _ z
def uI(K:PySem.W.Frag)(a b:Addr):It:=
  ⟨λi H => ∃ xs ys x y, al K H a xs ∧ al K H b ys ∧ xs[i]? = some x ∧ ys[i]? = some y,
   λi H v H'=>∃ T x y,H T=none/\v = .ref T/\H'=upd H T (.tup [x,y])/\(∀ xs,al K H a xs->xs[i]?=some x)/\∀ ys,al K H b ys->ys[i]?=some y,
   λi H=>∃ xs ys,al K H a xs/\al K H b ys/\(xs.length<=i\/ys.length<=i)⟩
def J6(m a b:Addr)(i:Nat)(h:Heap):Prop:=
 IsZip h (m+4) (m+2) (m+3) .none/\IsPair h (m+2) (.ref m) (.ref<|m+1)/\(∃ x y,IsPair h (m+3) x y)/\h.IsListIter m a i/\h.IsListIter (m+1) b i
theorem J7{h:Heap}{m a b:Addr}{i:Nat}{xs ys:Array Value}(z:J6 m a b i h)(ha:h.IsList a xs)(hb:h.IsList b ys):ZipApart (m+4) (m+2) (m+3) m (m+1) a b:=by
  obtain⟨z1,z2,⟨x,y,z3⟩,⟨o4,e4,c4,_⟩,⟨o5,e5,c5,_⟩⟩:=z;have cls:∀{l:Addr} {vs:Array Value} {c:Addr} {o:Obj},h.IsList l vs->h.get? c=some o->o.cls ≠ .type "list"->l≠c:=λhl hc hn e=>by
    obtain⟨ol,qk,lq,_⟩:=hl;rw [e,hc] at qk;cases qk;exact hn lq
  exact { TIz := by simp, TOz := by simp, i1z := by simp, i2z := by simp, TITO := by simp, TIi1 := by simp, TIi2 := by simp, TOi1 := by simp, TOi2 := by simp, i12 := by simp
          l1z:=cls ha z1 (by show Value.type "zip"≠Value.type "list";decide),l1TO:=cls ha z3 (by show Value.type "tuple"≠Value.type "list";decide),l1i1:=cls ha e4 (by rw [c4];decide),l1i2:=cls ha e5<|by rw [c5];decide
          l2z:=cls hb z1 (by show Value.type "zip"≠Value.type "list";decide),l2TO:=cls hb z3 (by show Value.type "tuple"≠Value.type "list";decide),l2i1:=cls hb e4 (by rw [c4];decide),l2i2:=cls hb e5 (by rw [c5];decide)}
theorem Vr{P:Program}{w:World}{K:PySem.W.Frag}{elts:List Expr}{k:Nat}{tp:Pos}(m a b:Addr):Turn P w K (.Tuple elts k tp) (uI K a b) [m,m+1,m+2,m+3,m+4] (m+4) (J6 m a b) where
 mem:=by simp
 obj:=λi h st c hc=>by
  obtain⟨z1,z2,⟨x,y,z3⟩,⟨o4,e4,c4,d4⟩,⟨o5,e5,c5,d5⟩⟩:=st;simp only [Ak,Cm,HN] at hc
  rcases hc with rfl | rfl | rfl | rfl | rfl
  ·exact⟨_,e4,λv z=>by rw [d4] at z;cases z⟩
  ·exact⟨_,e5,λv z=>by rw [d5] at z;cases z⟩
  ·exact⟨_,z2,λv z=>by cases z⟩
  ·exact⟨_,z3,λv z=>by cases z⟩
  ·exact⟨_,z1,λv z=>by cases z⟩
 keep:=λi h h' st kp=>by
  obtain⟨z1,z2,⟨x,y,z3⟩,⟨o4,e4,r4⟩,⟨o5,e5,r5⟩⟩:=st;exact⟨kp _ (by simp) _ z1,kp _ (by simp) _ z2,⟨x,y,kp _ (by simp) _ z3⟩,⟨o4,kp _ (by simp) _ e4,r4⟩,⟨o5,kp _ (by simp) _ e5,r5⟩⟩
 item:=by
  intro X hP hw hK hc i pins s σ H E I hf st hg;subst hP hw hK;obtain⟨xs,ys,x,y,lB,uJ,hx,hy⟩:=hg;obtain⟨qI,uK,p1,uL⟩:=I.list lB;obtain⟨dq,fM,p2,uM⟩:=I.list uJ;obtain⟨u1,i7,Vs⟩:=uK.get hx;obtain⟨u2,zE,Vt⟩:=fM.get hy;have D:=J7 st p1.isList p2.isList;obtain⟨z1,z2,⟨x0,y0,z3⟩,z4,z5⟩:=id st;refine wpAny_pyNext_zip_item D z1 z2 z3 z4 z5 p1.isList p2.isList (x:=u1) (y:=u2) (by simpa using i7) (by simpa using zE) λh' a1 a2 a3 a4 a5 a6 kp=>?_;have hT:H s.heap.objs.size=none:=I.aE.fresh<|Am _;have nT:∀ c∈[m,m+1,m+2,m+3,m+4],c≠s.heap.objs.size:=λc bI=>by
   have:∃ o,s.heap.get? c=some o:=by
    obtain⟨o4,e4,_⟩:=z4;obtain⟨o5,e5,_⟩:=z5;simp only [Ak,Cm,HN] at bI
    rcases bI with rfl | rfl | rfl | rfl | rfl
    ·exact⟨_,e4⟩
    ·exact⟨_,e5⟩
    ·exact⟨_,z2⟩
    ·exact⟨_,z3⟩
    ·exact⟨_,z1⟩
   obtain⟨o,e⟩:=this;exact Bk<|Av e
  have I1:Inv X pins σ (upd H s.heap.objs.size<|.tup [x,y]) {s with heap:=s.heap.push {cls:= .type "tuple",data:= .seq #[u1,u2]}}:=
   I.laid (t':=s.toks) (λb o e=>Af _ e) (Am _) (show az X.prog X.w _ _ _ (.tup [x,y]) from⟨Z2,[u1,u2],.cons Vs<|.cons Vt .nil,⟨_,As _ rfl,rfl,_,rfl⟩⟩)
  have f1:∀ c∈[m,m+1,m+2,m+3,m+4],bV X pins (upd H s.heap.objs.size<|.tup [x,y]) c:=λc bI=>⟨by rw [ay<|nT c bI];exact(hf c bI).1,(hf c bI).2⟩;have qp:∀ c o,c∉[m,m+1,m+2,m+3,m+4]->(s.heap.push {cls:= .type "tuple",data:= .seq #[u1,u2]}).get? c=some o->h'.get? c=some o:=λc o bI e=>by
   rcases Heap.get?_push_cases e with ⟨ec,eo⟩ | e'
   ·rw [ec,eo];exact a5
   ·simp only [Ak,Cm,HN,not_or] at bI;exact kp c o bI.2.2.2.2 bI.2.2.2.1 bI.1 bI.2.1 e'
  have I2:=Inv.bY (h':=h') (t':=s.toks) I1 f1 qp;refine⟨_,rfl,wpAny_letOwnedTupleGo_zip (s:={s with heap:=h'}) a1 λh2 b1 sb=>?_⟩;have Vu:IsPair h' (m+2) (.ref m) (.ref<|m+1):=kp _ _ (by simp) (by simp) (by simp) (by simp) z2;have Vv:∀ c o,c∉[m+4]->h'.get? c=some o->h2.get? c=some o:=λc o bI e=>(sb.2 c<|by simpa using bI).trans e;have I3:=Inv.bY (h':=h2) (t':=s.toks) I2 (ch:=[m+4]) (λc bI=>f1 c<|by simp at bI;simp [bI]) Vv;refine⟨.ref s.heap.objs.size,_,I3,rfl,⟨_,x,y,hT,rfl,rfl,λzs hz=>by rw [I.df hz lB];exact hx,λzs hz=>by rw [I.df hz uJ];exact hy⟩,?_,λc bI=>(f1 c bI).1⟩;have sx:∀ c o,c≠m+4->h'.get? c=some o->h2.get? c=some o:=λc o bI e=>(sb.2 c bI).trans e;obtain⟨o3,e3,r3⟩:=a3;obtain⟨o4,e4,r4⟩:=a4;exact⟨b1,sx _ _ (by simp) Vu,⟨u1,u2,sx _ _ (by simp) a2⟩,⟨o3,sx _ _ (by simp) e3,r3⟩,⟨o4,sx _ _ (by simp) e4,r4⟩⟩
 done:=by
  intro X hP hw hK hc i pins s σ H E I hf st hg;subst hP hw hK;obtain⟨xs,ys,lB,uJ,zF⟩:=hg;obtain⟨qI,uK,p1,uL⟩:=I.list lB;obtain⟨dq,fM,p2,uM⟩:=I.list uJ;have l1:=uK.length;have l2:=fM.length;have D:=J7 st p1.isList p2.isList;obtain⟨z1,z2,⟨x0,y0,z3⟩,z4,z5⟩:=id st;refine wpAny_pyNext_zip_end (I.ok.hd hc) D z1 z2 z3 z4 z5 p1.isList p2.isList ?_ λh' kp=>⟨rfl,I.bY (t':=s.toks) (ch:=[m,m+1,m+2,m+3,m+4]) hf λc o bI e=>?_⟩
  ·rcases zF with h | h
   ·exact .inl<|by simp;omega
   ·exact .inr<|by simp;omega
  ·simp only [Ak,Cm,HN,not_or] at bI;exact kp c o bI.2.2.2.2 bI.2.2.2.1 bI.1 bI.2.1 e
 self:=λ_ _ _ _ _ st h=>wpAny_pyIter_zip st.1 h
end
section
variable{X:Cx}
def zG(K:PySem.W.Frag)(ta:TA):TI:=λσ H R=>ta σ H λvs H1=>∃ a b,vs=[.ref a,.ref b]/\(∃ xs,al K H1 a xs)/\(∃ ys,al K H1 b ys)/\R (uI K a b) H1
theorem J8{elts:List Expr}{k:Nat}{tp:Pos}{a b:Expr}{ta:TA}{p pos:Pos}(hg:Gl X "zip")(hm:X.mg "zip" = none)(ha:PA X [a,b] ta)(hs:starEach [a,b] X.env=[(false,eval a X.env),(false,eval b X.env)]:=by rfl)(uH:starEach [b] X.env=[(false,eval b X.env)]:=by rfl) :
  PI X (.Tuple elts k tp) (.Call (.Name "zip" p) [a,b] [] pos) (zG X.K ta):=by
 intro pins s σ H R I h;refine Call_ (l9 I hg hm boot_zip<|JK (aP (ha pos pins s σ H _ I h) λus s1 ⟨vs,H1,I1,r1,q1⟩=>?_) (by rw [hs,uH])<|by rw [uH];rfl);obtain⟨x,y,e,⟨xs,hx⟩,⟨ys,hy⟩,q⟩:=q1;subst e;obtain⟨u,v,rfl,ru,rv⟩:=r1.two;cases (show u=Value.ref x from ru);cases (show v=Value.ref y from rv);obtain⟨qI,uK,p1,uL⟩:=I1.list hx;obtain⟨dq,fM,p2,uM⟩:=I1.list hy;refine call_zip_2 p1.isList p2.isList λh' a1 a2 a3 a4 a5 a6 kp=>?_;refine wpAny_pyIter_zip (s:={s1 with heap:=h'}) a1 ?_;refine⟨s1.heap.objs.size+4,[s1.heap.objs.size,s1.heap.objs.size+1,s1.heap.objs.size+2,s1.heap.objs.size+3,s1.heap.objs.size+4],_,_,H1,rfl,I1.kept (t':=s1.toks) kp,Vr s1.heap.objs.size x y,⟨a1,a2,⟨_,_,a3⟩,a4,a5⟩,λb hb=>?_,q⟩;have hle:s1.heap.objs.size<=b:=by
  simp only [Ak,Cm,HN] at hb
  rcases hb with rfl | rfl | rfl | rfl | rfl <;> omega
 exact I1.iJ hle<|I1.aE.fresh hle
end
def oQ(elt t1 i1:Expr)(f1:List Expr)(t2 i2:Expr)(f2:List Expr)(scope:Scope)(pos:Pos)(acc:Value)(env:Env):Sem Unit:=do
 let x <- eval i2 env
 standAt i2.pos
 let x <- foldedSetIterable i2 env x
 let _ <- runOwn (.compStart (.ListComp elt [⟨t1,i1,f1,0⟩,⟨t2,i2,f2,0⟩] scope pos) 1 (<- holding [x]<|pyIter x) acc env) env
section
variable{X:Cx}{elt t1 i1 t2 i2:Expr}{f1 f2:List Expr}{scope:Scope}{pos:Pos}{σ:St}{H:Hp}{acc:Value}{env:Env}
theorem Vw:Clause (.ListComp elt [⟨t1,i1,f1,0⟩,⟨t2,i2,f2,0⟩] scope pos) 0 t1 i1 f1 acc env (oQ elt t1 i1 f1 t2 i2 f2 scope pos acc env):=⟨rfl,λ_=>rfl,λ_ _ _=>rfl,λ_ _=>rfl,λ_ _ _=>rfl,λ_ _=>rfl,λit=>by
 unfold oQ;simp only [bind_assoc,pure_bind];rfl⟩
theorem Vx:Clause (.ListComp elt [⟨t1,i1,f1,0⟩,⟨t2,i2,f2,0⟩] scope pos) 1 t2 i2 f2 acc env (emit elt acc env):=⟨rfl,λ_=>rfl,λ_ _ _=>rfl,λ_ _=>rfl,λ_ _ _=>rfl,λ_ _=>rfl,λ_=>rfl⟩
theorem Vy{wi:TI}{Q:St->Hp->Prop}(iQ:X.xe=λ_ _=>False)(hc:X.calm=true)(hi:PI X t2 i2 wi)(h:wi σ H λJ H1=>iq X t2 f2 (emit elt acc X.env) J Q σ H1)
  (hs:∀ x,foldedSetIterable i2 X.env x=pure x:=by intro _;rfl):lj X (oQ elt t1 i1 f1 t2 i2 f2 scope pos acc X.env) σ H Q:=by
 refine⟨λpins s I=>?_⟩;unfold oQ;refine BJ<|aP (hi pins s σ H _ I h) λx s1 h1=>?_;refine BJ<|IK<|BJ<|JD (hs x)<|BJ<|CK<|CV h1 (λkW s2 h2=>?_) λ_ _ e=>e;obtain⟨it,fp,tn,J,H2,e,I2,T,eS,kj,q⟩:=h2;subst e;refine BJ<|wpAny_runOwn (Q:=λ_ s'=>wpAny (model X.prog X.w) X.A (pure ()) (λ_ s'=>∃ σ' H',Inv X pins σ' H' s'/\Q σ' H') X.xe s') ?_;exact ya iQ hc Vx I2 T eS kj q λσ' H' s' I' q'=>BK ⟨σ',H',I',q'⟩
theorem Vz{wi:TI}{Q:VK}(sc:Scope)(N N':List Str)(n:Nat)(hi:PI X t1 i1 wi)
  (h:wi σ H λJ H1=>∀ D,H1 D=none->∀ cl C s₀ H₀ ex,iq (fk X N' scope cl C s₀ H₀ ex) t1 f1 (oQ elt t1 i1 f1 t2 i2 f2 scope pos (.ref D)<|compEnvC scope cl C X.env) J (λ_ H'=>Q (.ref D) H') (σ++List.replicate n none)<|upd H1 D<|.lst [])
  (hc:X.calm=true:=by rfl) (mL:X.env.scope=sc:=by rfl) (hN:X.N=N:=by rfl) (hk:oC sc scope N N'=true:=by decide +kernel) (hl:N'.length=N.length+n:=by rfl)
  (hs:∀ x,foldedSetIterable i1 X.env x=pure x:=by intro _;rfl):Ev X (.ListComp elt [⟨t1,i1,f1,0⟩,⟨t2,i2,f2,0⟩] scope pos) σ H Q:=by
 refine⟨λpins s I=>?_⟩;subst mL hN;have ck:=bO.of hk;rw [eval_ListComp];refine HW (use:=none) rfl hs (tI λx hx hf=>I.ok.has x.1<|ck.free x hx hf) ck.kind ck.names (aP (hi pins s σ H _ I h) λv s1 h1=>aP h1 λkW s2 h2=>?_);obtain⟨it,fp,tn,J,H2,e,I2,T,eS,kj,q⟩:=h2;subst e;refine tR (e:= .ListComp elt [⟨t1,i1,f1,0⟩,⟨t2,i2,f2,0⟩] scope pos) (newAcc:=newList []) (o0:={cls:= .type "list",dict:=none,data:= .seq ([]:List Value).toArray}) (u0:=λ_=> .lst []) (λ_ _ _ h=>DG h<|by show(0:Nat)<=sizeLine;exact Bq _) (λ_ _ _=>⟨Bq _,[],0,.nil,As _ rfl⟩) (Q:=Q) (RR:=λacc C=>compPost (model X.prog X.w) X.A X.xe none (EP X pins σ Q) acc C) hc ck hl (inner:=oQ elt t1 i1 f1 t2 i2 f2 scope pos) (λ_ _=>Vw) I2 T eS kj q ?_;intro D C H' s' m IX hn hC c1 c2 c3 c4 qq;exact⟨m,hn,λh' fT=>⟨.ref D,H',IX.turned (t':=s'.toks) (λb o hb e=>fT.extBut b o hb e) hC (CN<|CN c1) (.inr c2) c3 c4,rfl,qq⟩⟩
end
section
variable{X:Cx}{pins:List (Addr×Obj)}{σ:St}{H:Hp}{s:Shared}{a:Addr}{y v:V}{u r:Value}{A:Around}{E:Value->Shared->Prop}
theorem VA{H':Hp}{Q:Unit->Shared->Prop}(hu:A.units+1 < cLine)(I:Inv X pins σ H s)(g:cC H a y v H')(ry:RelV y u)(rv:RelV v r)(h:∀ s',Inv X pins σ H' s'->Q () s') :
  wpAny (model X.prog X.w) A (dictSet a u r) Q E s:=by
 rcases g with ⟨kvs,k,e,ey,l,eH⟩ | ⟨kvs,k,b,e,ey,eb,l,eH⟩
 ·subst ey eH;obtain⟨z,hd,vs,rel,dd⟩:=tG I.aE e;have hz:vs.length<=sizeLine:=by rw [<- rel.length];exact z
  have hl:(putK kvs k v).length<=sizeLine:=by have:=ig kvs k v;omega
  refine wpAny_dictSet_pairs (hsz:=hz) (mE ry) dd λh' ik hs=>h _ ?_;have he:∃ q,h'.get? a=some q:=let ⟨q,_,_,hq,_⟩:=ik;⟨q,hq⟩
  exact k5 I (by rw [e];exact True.intro) hs he<|xu hl hd (rel.put k rv) ik
 ·subst ey eH;cases (show u=Value.ref b from ry);obtain⟨z,hd,xs,rel,dd⟩:=Hz I.aE e;have hz:xs.length<=sizeLine:=by rw [<- Paired.length rel];exact z
  have hl:(putK kvs k v).length<=sizeLine:=by have:=ig kvs k v;omega
  have room:(tupleKind<|c7 X.prog X.w).room A:=by first | exact hu | exact Nat.lt_of_succ_lt hu | exact Fy (Ep _) hu
  refine wpAny_dictSet_heap (hsz:=hz) room (qe I.aE eb) dd λh' ik hs=>h _ ?_;obtain⟨q,es,ep,hq,h2,h3,h4,_,h5⟩:=ik;refine k5 I (by rw [e];exact True.intro) hs ⟨q,hq⟩ ⟨hl,hd,_,(rel.put k eb rv).keeps λc ys ec=>?_,q,es,ep,hq,h2,h3,h4,h5⟩;rw [ay<|b9 ec e λz=>nomatch z];exact ec
end
def km(k v:Expr)(acc:Value)(env:Env):Sem Unit:=do
 let kv <- eval k env
 let vv <- holding [kv]<|eval v env
 match acc with
 | .ref d=>do
  standAt {k.pos with endLine:=v.pos.endLine,endCol:=v.pos.endCol}
  holding [kv,vv] (dictSet d kv vv)
 | _=>unsupported "internal:dictcomp"
def oR(k v t1 i1:Expr)(f1:List Expr)(t2 i2:Expr)(f2:List Expr)(scope:Scope)(pos:Pos)(acc:Value)(env:Env):Sem Unit:=do
 let x <- eval i2 env
 standAt i2.pos
 let x <- foldedSetIterable i2 env x
 let _ <- runOwn (.compStart (.DictComp k v [⟨t1,i1,f1,0⟩,⟨t2,i2,f2,0⟩] scope pos) 1 (<- holding [x]<|pyIter x) acc env) env
section
variable{X:Cx}{k v t1 i1 t2 i2:Expr}{f1 f2:List Expr}{scope:Scope}{pos:Pos}{σ:St}{H:Hp}{acc:Value}{env:Env}
theorem VB:Clause (.DictComp k v [⟨t1,i1,f1,0⟩] scope pos) 0 t1 i1 f1 acc env (km k v acc env):=⟨rfl,λ_=>rfl,λ_ _ _=>rfl,λ_ _=>rfl,λ_ _ _=>rfl,λ_ _=>rfl,λit=>by
 unfold km;cases acc <;> first | rfl | (simp only [bind_assoc,pure_bind];rfl)⟩
theorem VC:Clause (.DictComp k v [⟨t1,i1,f1,0⟩,⟨t2,i2,f2,0⟩] scope pos) 0 t1 i1 f1 acc env (oR k v t1 i1 f1 t2 i2 f2 scope pos acc env):=⟨rfl,λ_=>rfl,λ_ _ _=>rfl,λ_ _=>rfl,λ_ _ _=>rfl,λ_ _=>rfl,λit=>by
 unfold oR;simp only [bind_assoc,pure_bind];rfl⟩
theorem VD:Clause (.DictComp k v [⟨t1,i1,f1,0⟩,⟨t2,i2,f2,0⟩] scope pos) 1 t2 i2 f2 acc env (km k v acc env):=⟨rfl,λ_=>rfl,λ_ _ _=>rfl,λ_ _=>rfl,λ_ _ _=>rfl,λ_ _=>rfl,λit=>by
 unfold km;cases acc <;> first | rfl | (simp only [bind_assoc,pure_bind];rfl)⟩
theorem J9{D:Addr}{Q:St->Hp->Prop}(hu:X.A.units+1 < cLine)(h:Ev X k σ H λy H1=>Ev X v σ H1 λx H2=>∃ H3,cC H2 D y x H3/\Q σ H3):lj X (km k v (.ref D) X.env) σ H Q:=by
 refine⟨λpins s I=>?_⟩;unfold km;refine BJ<|aP (h.run pins s I) λkv s1 ⟨y,H1,I1,r1,h1⟩=>?_;refine BJ<|CK<|aP (h1.run pins s1 I1) λvv s2 ⟨x,H2,I2,r2,H3,dp,q⟩=>?_;show wpAny _ _ (standAt _ >>= λ_=>holding [kv,vv]<|dictSet D kv vv) _ _ _;exact BJ<|IK<|CK<|VA hu I2 dp r1 r2 λs' I'=>⟨σ,H3,I',q⟩
theorem VE{wi:TI}{Q:St->Hp->Prop}(iQ:X.xe=λ_ _=>False)(hc:X.calm=true)(hi:PI X t2 i2 wi)(h:wi σ H λJ H1=>iq X t2 f2 (km k v acc X.env) J Q σ H1)
  (hs:∀ x,foldedSetIterable i2 X.env x=pure x:=by intro _;rfl):lj X (oR k v t1 i1 f1 t2 i2 f2 scope pos acc X.env) σ H Q:=by
 refine⟨λpins s I=>?_⟩;unfold oR;refine BJ<|aP (hi pins s σ H _ I h) λx s1 h1=>?_;refine BJ<|IK<|BJ<|JD (hs x)<|BJ<|CK<|CV h1 (λkW s2 h2=>?_) λ_ _ e=>e;obtain⟨it,fp,tn,J,H2,e,I2,T,eS,kj,q⟩:=h2;subst e;refine BJ<|wpAny_runOwn (Q:=λ_ s'=>wpAny (model X.prog X.w) X.A (pure ()) (λ_ s'=>∃ σ' H',Inv X pins σ' H' s'/\Q σ' H') X.xe s') ?_;exact ya iQ hc VD I2 T eS kj q λσ' H' s' I' q'=>BK ⟨σ',H',I',q'⟩
theorem J'{wi:TI}{Q:VK}(sc:Scope)(N N':List Str)(n:Nat)(hi:PI X t1 i1 wi)
  (h:wi σ H λJ H1=>∀ D,H1 D=none->∀ cl C s₀ H₀ ex,iq (fk X N' scope cl C s₀ H₀ ex) t1 f1 (km k v (.ref D)<|compEnvC scope cl C X.env) J (λ_ H'=>Q (.ref D) H') (σ++List.replicate n none)<|upd H1 D<|.dT [])
  (hc:X.calm=true:=by rfl) (mL:X.env.scope=sc:=by rfl) (hN:X.N=N:=by rfl) (hk:oC sc scope N N'=true:=by decide +kernel) (hl:N'.length=N.length+n:=by rfl)
  (hs:∀ x,foldedSetIterable i1 X.env x=pure x:=by intro _;rfl):Ev X (.DictComp k v [⟨t1,i1,f1,0⟩] scope pos) σ H Q:=by
 refine⟨λpins s I=>?_⟩;subst mL hN;have ck:=bO.of hk;show wpAny _ _ (comprehension (.DictComp k v [⟨t1,i1,f1,0⟩] scope pos) scope X.env (firstIterPos [⟨t1,i1,f1,0⟩] pos) newDict (firstAsync [⟨t1,i1,f1,0⟩])<|firstIter [⟨t1,i1,f1,0⟩] X.env) _ _ _;refine HW (use:=none) rfl hs (tI λx hx hf=>I.ok.has x.1<|ck.free x hx hf) ck.kind ck.names (aP (hi pins s σ H _ I h) λxv s1 h1=>aP h1 λkW s2 h2=>?_);obtain⟨it,fp,tn,J,H2,e,I2,T,eS,kj,q⟩:=h2;subst e;refine tR (e:= .DictComp k v [⟨t1,i1,f1,0⟩] scope pos) (newAcc:=newDict) (o0:={cls:= .type "dict",data:= .dict #[]}) (u0:=λ_=> .dT []) (λ_ _ _ h=>DG h) (λ_ h hb=>xA h hb) (Q:=Q) (RR:=λacc C=>compPost (model X.prog X.w) X.A X.xe none (EP X pins σ Q) acc C) hc ck hl (inner:=km k v) (λ_ _=>VB) I2 T eS kj q ?_;intro D C H' s' m IX hn hC c1 c2 c3 c4 qq;exact⟨m,hn,λh' fT=>⟨.ref D,H',IX.turned (t':=s'.toks) (λb o hb e=>fT.extBut b o hb e) hC (CN<|CN c1) (.inr c2) c3 c4,rfl,qq⟩⟩
theorem VF{wi:TI}{Q:VK}(sc:Scope)(N N':List Str)(n:Nat)(hi:PI X t1 i1 wi)
  (h:wi σ H λJ H1=>∀ D,H1 D=none->∀ cl C s₀ H₀ ex,iq (fk X N' scope cl C s₀ H₀ ex) t1 f1 (oR k v t1 i1 f1 t2 i2 f2 scope pos (.ref D)<|compEnvC scope cl C X.env) J (λ_ H'=>Q (.ref D) H') (σ++List.replicate n none)<|upd H1 D<|.dT [])
  (hc:X.calm=true:=by rfl) (mL:X.env.scope=sc:=by rfl) (hN:X.N=N:=by rfl) (hk:oC sc scope N N'=true:=by decide +kernel) (hl:N'.length=N.length+n:=by rfl)
  (hs:∀ x,foldedSetIterable i1 X.env x=pure x:=by intro _;rfl):Ev X (.DictComp k v [⟨t1,i1,f1,0⟩,⟨t2,i2,f2,0⟩] scope pos) σ H Q:=by
 refine⟨λpins s I=>?_⟩;subst mL hN;have ck:=bO.of hk;show wpAny _ _ (comprehension (.DictComp k v [⟨t1,i1,f1,0⟩,⟨t2,i2,f2,0⟩] scope pos) scope X.env (firstIterPos [⟨t1,i1,f1,0⟩,⟨t2,i2,f2,0⟩] pos) newDict (firstAsync [⟨t1,i1,f1,0⟩,⟨t2,i2,f2,0⟩])<|firstIter [⟨t1,i1,f1,0⟩,⟨t2,i2,f2,0⟩] X.env) _ _ _;refine HW (use:=none) rfl hs (tI λx hx hf=>I.ok.has x.1<|ck.free x hx hf) ck.kind ck.names (aP (hi pins s σ H _ I h) λxv s1 h1=>aP h1 λkW s2 h2=>?_);obtain⟨it,fp,tn,J,H2,e,I2,T,eS,kj,q⟩:=h2;subst e;refine tR (e:= .DictComp k v [⟨t1,i1,f1,0⟩,⟨t2,i2,f2,0⟩] scope pos) (newAcc:=newDict) (o0:={cls:= .type "dict",data:= .dict #[]}) (u0:=λ_=> .dT []) (λ_ _ _ h=>DG h) (λ_ h hb=>xA h hb) (Q:=Q) (RR:=λacc C=>compPost (model X.prog X.w) X.A X.xe none (EP X pins σ Q) acc C) hc ck hl (inner:=oR k v t1 i1 f1 t2 i2 f2 scope pos) (λ_ _=>VC) I2 T eS kj q ?_;intro D C H' s' m IX hn hC c1 c2 c3 c4 qq;exact⟨m,hn,λh' fT=>⟨.ref D,H',IX.turned (t':=s'.toks) (λb o hb e=>fT.extBut b o hb e) hC (CN<|CN c1) (.inr c2) c3 c4,rfl,qq⟩⟩
end
open bx
theorem VG{prog:Program}{w:World}{A:Around}{E:Value->Shared->Prop}{s:Shared}{a:Addr}{zs:List Str}{z:Str}{tk:Tok}{Q:Value->Shared->Prop}(S:au prog w s.heap a zs)(hb:zs.length+1 < 1000)
  (h:∀ h',Heap.SameBut a s.heap h'->au prog w h' a (added zs z)->Q .none {s with heap:=h',toks:=s.toks+1}) :
  wpAny (model prog w) A (call (.builtin "set.add") [.ref a,.str z tk]) Q E s:=by
 have hT:s.TypeIs (.ref a) "set":=let ⟨o,_,_,_,ho,hx,_⟩:=S;⟨o,ho,hx.1⟩
 refine CZ F.slot_set_add hT F.entry_set_add ?_<|F.args_set_add_2 _ _;unfold Builtin.«set.add» Builtin.Frozenset.oneOther;simp only [Gq,bind_assoc];unfold Builtin.Frozenset.addrOf setAdd;refine BJ<|BK ?_
 try dsimp only
 refine BJ<|BK ?_
 try dsimp only
 refine BJ ?_;refine CK ?_;refine BJ ((PySem.strKind prog w).pyHash (k:=z) (v:= .str z tk) (by simp [PySem.strKind,Value.isStrOf]) ?_);refine yj (s:={s with toks:=s.toks+1}) S hb λb h' sb S'=>?_;show wpAny _ _ (ret Value.none) _ _ _;exact BK ⟨_,rfl,h h' sb S'⟩
section
variable{X:Cx}{elt t1 i1 t2 i2:Expr}{f1 f2:List Expr}{scope:Scope}{pos:Pos}{σ:St}{H:Hp}{acc:Value}{env:Env}
end
end L2
namespace L2
open PySem PySem.Builtin PySem.Builtin.Str
section
variable{X:Cx}{σ:St}{H:Hp}{Q:VK}
end
end L2
namespace PySem
def Plain(h:Heap)(d:Addr)(es:Array DictEntry)(ep:Nat):Prop:=∃ o,h.get? d=some o/\o.ExactDict/\o.data = .dict es ep
section
variable{P:Program}{w:World}{A:Around}{E:Value->Shared->Prop}{s:Shared}
theorem VH(d:Addr)(hd:(d == sysModules)=false):MeetsIn P w (Builtin.«dict.items» ⟨[.ref d],[]⟩) (λ_ R u=>u.TypeIs (.ref d) "dict" /\
  R (.ok<|.ret<|.ref u.heap.objs.size) {u with heap:=u.heap.push {cls:= .type "dict_items",data:= .fields #[.ref d]}}):=by
 refine .of_wp λB R u ⟨hT,k⟩=>?_;unfold Builtin.«dict.items» Builtin.Dict.noArgs;refine BJ<|BJ<|wpAny_notOrdered_dict hT ?_;show wpAny _ _ (pure d) _ _ u;refine BK ?_;show wpAny _ _ (Builtin.Dict.showsAll d >>= _) _ _ u;unfold Builtin.Dict.showsAll;rw [BL<|by rw [hd];exact At];exact BJ<|BK<|BJ<|DG<|BK ⟨_,rfl,k⟩
theorem VI{v d:Addr}{es:Array DictEntry}{ep:Nat}{Q:Value->Shared->Prop}(hv:s.heap.IsItemsView v d)(hm:Plain s.heap d es ep)
  (k:Q (.ref s.heap.objs.size) {s with heap:=s.heap.push {cls:= .type "dict_itemiterator",data:= .fields #[.none,.bool false,.ref d,.int 0 0,.int es.size 0,.int ep 0,.none,.none]}}) :
  wpAny (model P w) A (pyIter<|.ref v) Q E s:=by
 obtain⟨vo,e1,e2,e3⟩:=id hv;obtain⟨o,f1,f2,f3⟩:=hm;refine KH hv.typeIs F.slot_dict_items_iter<|CZ F.slot_dict_items_iter hv.typeIs F.entry_dict_items_iter ?_<|F.args_dict_items_iter_1 _;unfold Builtin.«dict_items.__iter__» Builtin.Dict_items.dictOf Builtin.Dict_items.newIterator;refine BJ<|BK<|BJ<|BJ<|RX e1 e3 (x:= .ref d) rfl (BK ?_);refine BJ<|BJ<|QG f1 f3<|BJ<|RQ f1 f3 ?_;have ow:Builtin.Dict_items.ownsTuple "dict_itemiterator" = true:=by decide
 simp only [ow,DK];refine DG (BK ⟨_,rfl,"dict_itemiterator",_,⟨_,As _ rfl,rfl⟩,F.slot_dict_itemiterator_next.lookup,?_⟩) ?_
 ·simpa [rawInt,Builtin.Dict_items.ownedTupleFields] using k
 ·simp only [sizeOk,Builtin.Dict_items.ownedTupleFields,Aw,Ag,Au,Fh,FJ];omega
theorem VJ{it d:Addr}{i ep:Nat}{es:Array DictEntry}{en:DictEntry}{y z:Value}{Q:Option Value->Shared->Prop}(hit:IsItemIter s.heap it d i es.size ep y z)(hm:Plain s.heap d es ep)(hx:es[i]?=some en)
  (k : ∀ h', IsItemIterOut h' it d (i + 1) es.size ep en.key en.val s.heap.objs.size → h'.get? s.heap.objs.size = some { cls := .type "tuple", data := .seq #[en.key, en.val] } →
   (∀ b o,b≠it->s.heap.get? b=some o->h'.get? b=some o)->Q (some<|.ref s.heap.objs.size) {s with heap:=h'}):wpAny (model P w) A (pyNext<|.ref it) Q E s:=by
 obtain⟨hp,g,dr,tk,os⟩:=s;obtain⟨o,f1,f2,f3⟩:=hm;have ty:Shared.TypeIs ⟨hp,g,dr,tk,os⟩ (.ref it) "dict_itemiterator":=⟨_,hit,rfl⟩;have lt:i < es.size:=by
  rcases Db i es.size with h | h
  ·exact h
  ·rw [Ed h] at hx;cases hx
 have ow:Builtin.Dict_items.ownsTuple "dict_itemiterator" = true:=by decide
 unfold pyNext;refine BJ<|KR<|HY (name:=Str.ofString "__next__") ty GQ<|CZ GQ ty OD ?_<|MN _;refine BJ<|BK<|BJ<|BJ ?_
 first | refine BJ (FW ty<|BK ?_) | refine BJ<|HS ty<|BK ?_
 refine BJ<|PJ hit rfl ?_;simp only [ow,DK];show wpAny _ _ (if(Value.ref d == Value.none)=true then _ else _) _ _ _;rw [BL (show ¬((Value.ref d == Value.none)=true) from At)];refine BJ<|BK<|BJ<|QG f1 f3 ?_;rw [BL<|by simp];refine BJ<|BK<|BJ<|RQ f1 f3 ?_;rw [BL<|by simp];refine BK ?_;have ee:es[i]=en:=Option.some.inj<|(Dd lt).symm.trans hx;simp only [show ¬((i:Int) < 0) from by omega,CT,Bd,hx];refine BJ ?_
 first | refine BJ (FW ty<|BK ?_) | refine BJ<|HS ty<|BK ?_
 refine BJ<|KJ ty ?_;show wpAny _ _ (setField (.ref it) 3 (rawInt<|(i:Int)+1) >>= _) _ _ ⟨hp,g,dr,tk,os⟩;refine BJ (IV hit (by simp) λha ea sa=>?_);replace sa:Heap.SameBut it hp ha:=sa;replace ea:IsItemIter ha it d (i+1) es.size ep y z:=by
  have e:((i+1:Nat):Int)=(i:Int)+1:=by omega
  unfold IsItemIter;rw [e]
  simpa [rawInt] using ea
 have Ka:Shared.TypeIs ⟨ha,g,dr,tk,os⟩ (.ref it) "dict_itemiterator":=⟨_,ea,rfl⟩;refine BJ<|CK<|BJ<|KJ Ka<|BJ<|KJ Ka ?_;show wpAny _ _ (Builtin.Dict_items.pairFromOwner (.ref it) 6 en.key en.val) _ _ ⟨ha,g,dr,tk,os⟩;unfold Builtin.Dict_items.pairFromOwner Builtin.Dict_items.ownedTupleIsFree;refine BJ<|PK ?_;have eb:IsItemIter (ha.push {cls:= .type "tuple",data:= .seq #[en.key,en.val]}) it d (i+1) es.size ep y z:=Af _ ea;have za:ha.objs.size=hp.objs.size:=sa.1;have il:it < hp.objs.size:=Av hit;have tb:(ha.push {cls:= .type "tuple",data:= .seq #[en.key,en.val]}).get? hp.objs.size=some {cls:= .type "tuple",data:= .seq #[en.key,en.val]}:=by rw [<- za];exact As _ rfl
 have kb:∀ b u,b≠it->hp.get? b=some u->(ha.push {cls:= .type "tuple",data:= .seq #[en.key,en.val]}).get? b=some u:=λb u hb e=>Af _<|sa.extBut b u hb e;rw [za];generalize ha.push {cls:= .type "tuple",data:= .seq #[en.key,en.val]}=hb at eb tb kb;refine BJ<|BJ<|RX (s:=⟨hb,g,dr,tk,os⟩) eb rfl (x:= .none) rfl (BK ?_);simp only [DK];refine BJ<|RX (s:=⟨hb,g,dr,tk,os⟩) eb rfl (x:=y) rfl (BJ<|RX (s:=⟨hb,g,dr,tk,os⟩) eb rfl (x:=z) rfl ?_);refine BJ (IV eb (by simp) λh3 e3 s3=>?_);replace s3:Heap.SameBut it hb h3:=s3;replace e3:IsItemIter h3 it d (i+1) es.size ep en.key z:=e3;refine BJ (IV e3 (by simp) λh4 e4 s4=>?_);replace s4:Heap.SameBut it h3 h4:=s4;replace e4:IsItemIter h4 it d (i+1) es.size ep en.key en.val:=e4;refine BJ (IV e4 (by simp) λh5 e5 s5=>?_);replace s5:Heap.SameBut it h4 h5:=s5;replace e5:IsItemIterOut h5 it d (i+1) es.size ep en.key en.val hp.objs.size:=e5;refine BJ (IV e5 (by simp) λh6 e6 s6=>?_);replace s6:Heap.SameBut it h5 h6:=s6;replace e6:IsItemIterOut h6 it d (i+1) es.size ep en.key en.val hp.objs.size:=e6;have all:=((s3.trans s4).trans s5).trans s6;exact BJ<|wpAny_letGo<|BK<|BK ⟨_,rfl,BK<|k h6 e6 (all.extBut _ _ (Cr il) tb) λb u jb e=>all.extBut b u jb<|kb b u jb e⟩
theorem VL{it d:Addr}{i ep:Nat}{es:Array DictEntry}{y z:Value}{Q:Option Value->Shared->Prop}(hh:A.handled=none)(hit:IsItemIter s.heap it d i es.size ep y z)(hm:Plain s.heap d es ep)(hx:es.size<=i)
  (k:∀ h',Heap.ExtBut it s.heap h'->Q none {s with heap:=h'}):wpAny (model P w) A (pyNext<|.ref it) Q E s:=by
 obtain⟨o,f1,f2,f3⟩:=hm;have ty:s.TypeIs (.ref it) "dict_itemiterator":=⟨_,hit,rfl⟩;have ow:Builtin.Dict_items.ownsTuple "dict_itemiterator" = true:=by decide
 unfold pyNext;refine BJ<|KR<|HY (name:=Str.ofString "__next__") ty GQ<|CZ GQ ty OD ?_<|MN _;refine BJ<|BK<|BJ<|BJ ?_
 first | refine BJ (FW ty<|BK ?_) | refine BJ<|HS ty<|BK ?_
 refine BJ<|PJ hit rfl ?_;simp only [ow,DK];show wpAny _ _ (if(Value.ref d == Value.none)=true then _ else _) _ _ s;rw [BL (show ¬((Value.ref d == Value.none)=true) from At)];refine BJ<|BK<|BJ<|QG f1 f3 ?_;rw [BL<|by simp];refine BJ<|BK<|BJ<|RQ f1 f3 ?_;rw [BL<|by simp];refine BK ?_;simp only [show ¬((i:Int) < 0) from by omega,CT,Bd,Ed hx];refine BJ ?_
 first | refine BJ (FW ty<|BK ?_) | refine BJ<|HS ty<|BK ?_
 show wpAny _ _ (setField (.ref it) 2 .none >>= _) _ _ s;refine BJ (FQ hit rfl (by simp) ?_);show wpAny _ _ (newExc (.type "StopIteration") [] >>= _) _ _ _;refine BJ ?_;simp only [newExc,newTuple];refine BJ (DG ?_<|by size_fits);refine BJ (m:=firstArgMember _ _) (JD (a:=Value.none) (by first | rfl | (simp only [firstArgMember];rfl)) ?_);refine DG ?_ (by size_fits);simp only [raiseNew];refine BJ<|wpAny_handled ?_;rw [show A.in1.handled=none from hh];refine BJ<|BK<|wpAny_throw ?_;exact BJ<|JN (T:= "StopIteration") (b:=true) ⟨_,As _ rfl,rfl⟩ isSubtype_stop<|BK<|k _<|((CP ..).extBut.push _).push _
theorem VM:entryFor table "dict_itemiterator.__iter__" = some Builtin.«dict_keyiterator.__iter__»:=
 PB (id':= "dict_keyiterator.__iter__") (by kernel_rfl) rfl (by decide +kernel) (by kernel_rfl)
theorem VN{it d:Addr}{i n ep:Nat}{y z:Value}{Q:Value->Shared->Prop}(e:IsItemIter s.heap it d i n ep y z)(h:Q (.ref it) s):wpAny (model P w) A (pyIter<|.ref it) Q E s:=by
 have ty:s.TypeIs (.ref it) "dict_itemiterator":=⟨_,e,rfl⟩;refine KH ty OJ<|CZ OJ ty VM ?_<|F.args_dict_itemiterator_iter_1 _;show wpAny _ _ (ret<|.ref it) _ _ s;exact BK ⟨_,rfl,"dict_itemiterator",_,ty,F.slot_dict_itemiterator_next.lookup,h⟩
end
end PySem
namespace L2
open PySem PySem.Spec PyProof.Rows
section
variable{X:Cx}{pins:List (Addr×Obj)}{σ:St}{H:Hp}{s:Shared}
theorem VO{d:Addr}{kvs:List (List Key×V)}(I:Inv X pins σ H s)(e:H d=some (.dT kvs)):∃ o,s.heap.get? d=some o/\Inv X pins σ (upd H d<|.bD o<|.dT kvs) s:=by
 obtain⟨z,hd,xs,r,o,es,ep,ho,h2,h3,h4,h5⟩:=(show az X.prog X.w H s.heap d (.dT kvs) from I.aE d _ e);refine⟨o,ho,?_⟩;have r':KT (upd H d<|.bD o<|.dT kvs) kvs xs:=KT.keeps r λb ys q=>by
  rw [ay<|b9 q e λz=>nomatch z];exact q
 exact k5 (t':=s.toks) I (by rw [e];exact True.intro) ⟨rfl,λ_ _=>rfl⟩ ⟨o,ho⟩ (show az X.prog X.w _ s.heap d (.bD o<|.dT kvs) from⟨ho,z,hd,xs,r',o,es,ep,ho,h2,h3,h4,h5⟩)
def Itm(d:Addr)(o:Obj)(kvs:List<|List Key×V):It:=
  ⟨λi H => H d = some (.bD o<|.dT kvs) ∧ i < kvs.length,
   λi H v H'=>∃ T b k x,kvs[i]?=some (k,x)/\H b=some (.tup<|k.map kV)/\H T=none/\v = .ref T/\H'=upd H T (.tup [.ref b,x]),
   λi H=>H d=some (.bD o<|.dT kvs)/\kvs.length<=i⟩
theorem Kb{P:Program}{w:World}{h:Heap}{d:Addr}{o:Obj}{es:Array DictEntry}{ep:Nat}{kvs:List (List Key×V)}(aE:b4 P w H h)(e:H d=some (.bD o<|.dT kvs))(hd:o.data = .dict es ep) :
  Plain h d es ep/\∃ xs,KT H kvs xs/\es.toList=xs.map (entryOfKey<|tupleKind<|c7 P w):=by
 obtain⟨ho,z,_,xs,r,o',d8,kS,c8,h2,h3,h4,h5⟩:=(show az P w H h d (.bD o<|.dT kvs) from aE d _ e);have:o=o':=Option.some.inj<|ho.symm.trans c8;subst this;rw [hd] at h3
 injection h3 with e1 e2
 subst e1;subst e2;exact⟨⟨o,ho,h2,hd⟩,xs,r,h4⟩
theorem kt_len{H:Hp}:∀{kvs:List (List Key×V)} {xs:List (List Key×Addr×Value)},KT H kvs xs->kvs.length=xs.length:=λr=>by
 induction r with
 | nil=>rfl
 | cons _ _ ih=>simp only [Au,ih]
theorem kt_at{H:Hp}:∀{kvs:List (List Key×V)} {xs:List (List Key×Addr×Value)},KT H kvs xs->∀{i:Nat} {k:List Key} {x:V},kvs[i]?=some (k,x)->∃ b u,xs[i]?=some (k,b,u)/\H b=some (.tup<|k.map kV)/\RelV x u:=λr=>by
 induction r with
 | nil=>intro i k x h;simp at h
 | @cons p q ps qs hq t ih=>
  intro i k x h;cases i with
  | zero=>
   simp only [List.getElem?_cons_zero,Option.some.injEq] at h;subst h;obtain⟨a,b,c⟩:=q;obtain⟨q1,q2,q3⟩:=hq;have q1:k=a:=q1;subst q1;exact⟨b,c,rfl,q2,q3⟩
  | succ i=>exact ih<|by simpa using h
theorem VP{P:Program}{w:World}{K:PySem.W.Frag}{elts:List Expr}{kk:Nat}{tp:Pos}(d it:Addr)(o:Obj)(es:Array DictEntry)(ep:Nat)(kvs:List<|List Key×V)(ng:o.data = .dict es ep) :
  Turn P w K (.Tuple elts kk tp) (Itm d o kvs) [it] it (λi h=>∃ y z,IsItemIter h it d i es.size ep y z) where
 mem:=by simp
 obj:=λi h st b hb=>by
  have e:b=it:=by simpa using hb
  subst e;obtain⟨y,z,e⟩:=st;exact⟨_,e,λv z=>by cases z⟩
 keep:=λi h h' st k=>let ⟨y,z,e⟩:=st;⟨y,z,k it (by simp) _ e⟩
 item:=by
  intro X hP hw hK hc i pins s σ H E I hf st hg;subst hP hw hK;obtain⟨f0,f1,f2,f3,f4,f5⟩:=hf it (by simp);obtain⟨hd,hi⟩:=hg;obtain⟨pd,xs,r,qJ⟩:=Kb I.aE hd ng;obtain⟨y,z,st⟩:=st;have hx:kvs[i]?=some (kvs[i].1,kvs[i].2):=Aa hi;obtain⟨b,u,lB,hb,ru⟩:=kt_at r hx;have uN:=entry_at qJ i;rw [lB] at uN;refine VJ st pd (en:=entryOfKey (tupleKind<|c7 X.prog X.w) (kvs[i].1,b,u)) uN λh' q1 q2 kp=>?_;have hT:H s.heap.objs.size=none:=I.aE.fresh<|Am _;have nT:it≠s.heap.objs.size:=Bk<|Av st;have I1:Inv X pins σ (upd H s.heap.objs.size<|.tup [.ref b,kvs[i].2]) {s with heap:=s.heap.push {cls:= .type "tuple",data:= .seq #[Value.ref b,u]}}:=
   I.laid (t':=s.toks) (λb o e=>Af _ e) (Am _) (show az X.prog X.w _ _ _ (.tup [.ref b,kvs[i].2]) from⟨Z2,[Value.ref b,u],.cons rfl (.cons ru .nil),⟨_,As _ rfl,rfl,_,rfl⟩⟩)
  have fp:∀ c∈[it],bV X pins (upd H s.heap.objs.size<|.tup [.ref b,kvs[i].2]) c:=λc bI=>by
   have e:c=it:=by simpa using bI
   subst e;exact⟨by rw [ay nT];exact f0,f1,f2,f3,f4,f5⟩
  have I2:=Inv.bY (h':=h') (t':=s.toks) I1 fp λc v bI e=>by
   have nc:c≠it:=by simpa using bI
   rcases Heap.get?_push_cases e with ⟨ec,eo⟩ | e'
   ·rw [ec,eo];exact q2
   ·exact kp c v nc e'
  refine⟨_,rfl,wpAny_letOwnedTupleGo_items (s:={s with heap:=h'}) q1 λh2 b1 sb=>?_⟩;have I3:=Inv.bY (h':=h2) (t':=s.toks) I2 fp λc v bI e=>(sb.2 c<|by simpa using bI).trans e;exact⟨.ref s.heap.objs.size,_,I3,rfl,⟨_,b,kvs[i].1,kvs[i].2,hx,hb,hT,rfl,rfl⟩,⟨_,_,b1⟩,λc bI=>(fp c bI).1⟩
 done:=by
  intro X hP hw hK hc i pins s σ H E I hf st hg;subst hP hw hK;obtain⟨hd,hi⟩:=hg;obtain⟨pd,xs,r,qJ⟩:=Kb I.aE hd ng;obtain⟨y,z,st⟩:=st;have hl:es.size=kvs.length:=by rw [kt_len r,<- Bs,qJ,Ab]
  exact VL (I.ok.hd hc) st pd (by omega) λh' eb=>⟨rfl,I.bY (t':=s.toks) hf λc v bI e=>eb c v (by simpa using bI) e⟩
 self:=λ_ _ _ _ _ st h=>let ⟨y,z,e⟩:=st;VN e h
end
section
variable{X:Cx}
def VQ(to:TE):TI:=λσ H R=>to σ H λx H1=>∃ d kvs,x = .ref d/\H1 d=some (.dT kvs)/\∀ o,R (Itm d o kvs)<|upd H1 d<|.bD o<|.dT kvs
theorem Kc{elts:List Expr}{kk:Nat}{tp ap cp:Pos}{l:Expr}{to:TE}(ho:PE X l to)(bC:attributeBase l "items" X.env (eval l X.env)=eval l X.env:=by rfl)(hline:(ap.endLine == cp.line)=true:=by rfl) :
  PI X (.Tuple elts kk tp) (.Call (.Attribute l "items" ap) [] [] cp) (VQ to):=by
 intro pins s σ H R I h;refine wpAny_Call_method0_late bC hline<|aP (ho pins s σ H _ I h) λv s1 ⟨x,H1,I1,r1,q1⟩=>?_;obtain⟨d,kvs,e,hd,q⟩:=q1;subst e;cases (show v=Value.ref d from r1);obtain⟨_,VR,_,_,o,es,ep,e1,e2,e3,_⟩:=(show az X.prog X.w H1 s1.heap d (.dT kvs) from I1.aE d _ hd);have ty:s1.TypeIs (.ref d) "dict":=⟨o,e1,e2.1⟩;refine⟨"dict","dict.items",F.plainAttrs_dict,F.slot_dict_items,F.type_dict_items,ty,λa ea=>?_,JC rfl (PySem.evalArgs_none ?_)⟩
 ·cases ea;exact⟨o,e1,e2.2.1⟩
 refine call_meetsIn F.slot_dict_items ty F.entry_dict_items (F.args_dict_items_1 _) (VH d VR) ⟨ty,?_⟩;obtain⟨o',eo,I2⟩:=VO I1 hd;have:o=o':=Option.some.inj<|e1.symm.trans eo;subst this;have I3:=I2.kept (t':=s1.toks) (h':=s1.heap.push {cls:= .type "dict_items",data:= .fields #[.ref d]}) λb u e=>Af _ e;refine VI (s:={s1 with heap:=s1.heap.push {cls:= .type "dict_items",data:= .fields #[.ref d]}}) (d:=d) (es:=es) (ep:=ep) ⟨_,As _ rfl,rfl,rfl⟩ ⟨o,Af _ e1,e2,e3⟩ ?_;refine⟨_,[(s1.heap.push {cls:= .type "dict_items",data:= .fields #[.ref d]}).objs.size],_,_,_,rfl,I3.kept (t':=s1.toks) λb u e=>Af _ e,VP d _ o es ep kvs e3,⟨_,_,As _ rfl⟩,λb hb=>?_,q o⟩;have e:b=(s1.heap.push {cls:= .type "dict_items",data:= .fields #[.ref d]}).objs.size:=by simpa using hb
 subst e;exact I3.iJ (Am _)<|I3.aE.fresh<|Am _
end
section
variable{X:Cx}{tg:Expr}{ifs:List Expr}{inner:Sem Unit}{σ:St}{H:Hp}{d:Addr}{o:Obj}{kvs:List (List Key×V)}{after:St->Hp->Prop}
theorem VS(Pv:Nat->St->Hp->Prop)(h0:Pv 0 σ H)(hl:∀ i σ' H',i<=kvs.length->Pv i σ' H'->H' d=some (.bD o<|.dT kvs))
  (hs:∀ i k x b T σ' H',kvs[i]?=some (k,x)->Pv i σ' H'->H' b=some (.tup<|k.map kV)->H' T=none->Eg X tg (.ref T) σ' (upd H' T<|.tup [.ref b,x]) λσ2 H3=>Ei X ifs σ2 H3 λc H4=>if c=true then lj X inner σ2 H4 (Pv<|i+1) else Pv (i+1) σ2 H4)
  (hd:∀ σ' H',Pv kvs.length σ' H'->after σ' H'):iq X tg ifs inner (Itm d o kvs) after σ H:=by
 refine⟨λi m σ' H'=>m=kvs.length - i/\i<=kvs.length/\Pv i σ' H',⟨_,rfl,Bq _,h0⟩,?_⟩;rintro i m σ' H' ⟨rfl,hi,p⟩;have q:=hl i σ' H' hi p
 by_cases aS:i < kvs.length
 ·refine .inr ⟨⟨q,aS⟩,Pv<|i+1,λσ' H' p'=>⟨kvs.length - (i+1),by omega,rfl,aS,p'⟩,λv H2 y=>?_⟩;obtain⟨T,b,k,x,hx,hb,hT,rfl,rfl⟩:=y;exact hs i k x b T σ' _ hx p hb hT
 ·have e:i=kvs.length:=by omega
  subst e;exact .inl ⟨⟨q,Am _⟩,hd σ' H' p⟩
end
open bx
def ah{α:Type}:List α->List α
 | []=>[]
 | [a]=>[a]
 | a :: _ :: r=>a :: ah r
theorem nj{α:Type}:∀(xs:List α) (k:Nat),(ah xs)[k]?=xs[2 * k]?
 | [],k=>by simp [ah]
 | [a],0=>rfl
 | [a],k+1=>by
  show([]:List α)[k]?=[a][2 * (k+1)]?;rw [Bb<|Bq _,Bb<|by show 1<=_;omega]
 | a :: b :: r,0=>rfl
 | a :: b :: r,k+1=>by
  show(ah r)[k]?=(a :: b :: r)[2 * (k+1)]?;rw [nj r k,show 2 * (k+1)=2 * k+1+1 by omega];rfl
theorem qK{α:Type}:∀(xs:List α),(ah xs).length=(xs.length+1) / 2
 | []=>by
  show 0=(0+1) / 2;omega
 | [a]=>by
  show 1=(1+1) / 2;omega
 | a :: b :: r=>by
  show(ah r).length+1=(r.length+1+1+1) / 2;rw [qK r];omega
theorem VU{α:Type}(xs:List α):(ah xs).length<=xs.length:=by
 rw [qK];omega
theorem Kd:∀{xs:List V} {us:List Value},av xs us->av (ah xs) (ah us)
 | [],us,r=>by
  have:=r.zero;subst this;exact .nil
 | [a],us,r=>by
  obtain⟨u,rfl,ru⟩:=r.one;exact .cons ru .nil
 | a :: b :: r,us,h=>by
  cases h with
  | cons h1 h2=>
   cases h2 with
   | cons h3 h4=>exact .cons h1<|Kd h4
theorem Ke{α:Type}(g:Nat->Option α):∀(c:Nat),(∀ k,k < c->∃ v,g k=some v)->((List.range c).filterMap g).length=c/\∀ k,k < c->((List.range c).filterMap g)[k]?=g k
 | 0,_=>⟨rfl,λk h=>absurd h<|Em _⟩
 | c+1,h=>by
  obtain⟨h1,h2⟩:=Ke g c λk hk=>h k (by omega);obtain⟨v,hv⟩:=h c (by omega);have e:(List.range<|c+1).filterMap g=(List.range c).filterMap g++[v]:=by
   rw [Cz,List.filterMap_append,Eb,hv];rfl
  rw [e];refine⟨by rw [Ag,h1];rfl,λk hk=>?_⟩
  by_cases mK:k < c
  ·rw [Aq<|by omega];exact h2 k mK
  ·have:k=c:=by omega
   subst this;rw [Ay (by omega),h1,UJ,hv];rfl
theorem VV(its:List Value):slicePick its.toArray none none (some 2)=(ah its).toArray:=by
 unfold slicePick;have hb:sliceBounds none none (some 2) its.toArray.size=(0,(its.length:Int),2):=rfl;rw [hb]
 congr 1
 show((sliceRange 0 (its.length:Int) 2).filterMap (its.toArray[·]?))=ah its;have hr:sliceRange 0 (its.length:Int) 2=(List.range<|(its.length+1) / 2).map λk=>2 * k:=by
  unfold sliceRange;have e1:(if(2:Int) > 0 then(if(0:Int) < (its.length:Int) then((its.length:Int) - 0+2 - 1) / 2 else 0) else(if(0:Int) > (its.length:Int) then(0 - (its.length:Int) - 2 - 1) / (-2) else 0)).toNat=(its.length+1) / 2:=by
   rw [BP<|by decide]
   split <;> omega
  show(List.range _).map _=_;rw [e1];exact Bu λk _=>by omega
 rw [hr,List.filterMap_map];obtain⟨h1,h2⟩:=Ke (λk=>its.toArray[2 * k]?) ((its.length+1) / 2) λk hk=>⟨its[2 * k]'(by omega),by rw [<- Ca];exact Aa (l:=its)<|by omega⟩;apply Dp;intro k;show((List.range<|(its.length+1) / 2).filterMap λk=>its.toArray[2 * k]?)[k]?=_
 by_cases hk:k < (its.length+1) / 2
 ·rw [h2 k hk,nj,<- Ca]
 ·rw [Bb (by omega),Bb<|by rw [qK];omega]
section
variable{X:Cx}{σ:St}{H:Hp}{Q:VK}
theorem VW{e:Expr}{j:Nat}{p1 p2 pos:Pos} (h:Ev X e σ H λx H1=>∃ a xs,x = .ref a/\al X.K H1 a xs/\∀ p,H1 p=none->Q (.ref p) (upd H1 p<|.lst<|ah xs)) :
  Ev X (.Subscript e (.Slice none none (some<|.Constant (.int 2) j p1) p2) pos) σ H Q:=by
 refine⟨λpins s I=>Subscript_<|aP (h.run pins s I) λv s1 ⟨x,H1,I1,r1,a,xs,ex,hx,q⟩=>?_⟩;subst ex;cases (show v=Value.ref a from r1);refine wpAny_Slice ?_;rw [evalPart_none];refine BK<|BK ?_;rw [evalPart_some];refine aP ((aB (X:=X) (i:=2) (j:=j) (p:=p1) (σ:=σ) (H:=H1) (Q:=λy H2=>y = .int 2/\H2=H1) ⟨rfl,rfl⟩).run pins s1 I1) λv2 s2 ⟨y,H2,I2,r2,ey,eh⟩=>?_;subst ey eh;obtain⟨t,rfl⟩:=r2;obtain⟨its,r,pl,hz⟩:=I2.list hx;have hlen:=r.length;have I3:Inv X pins σ H2 {s2 with heap:=s2.heap.push {cls:= .type "slice",data:= .fields #[.none,.none,.int 2 t]}}:=I2.kept (t':=s2.toks) λb ob q=>Af _ q;have Kf:=pl.isList.push {cls:= .type "slice",data:= .fields #[.none,.none,.int 2 t]};show wpAny (model X.prog X.w) X.A (subscriptTail e _ (.ref a)<|.ref s2.heap.objs.size) (EP X pins σ Q) X.xe {s2 with heap:=s2.heap.push {cls:= .type "slice",data:= .fields #[.none,.none,.int 2 t]}};refine tail_any (ops:=[.ref a,.ref s2.heap.objs.size]) (T:= "list") (Heap.IsList.typeIs (s:={s2 with heap:=s2.heap.push {cls:= .type "slice",data:= .fields #[.none,.none,.int 2 t]}}) Kf) slot_list_getitem.lookup ?_ (by with_unfolding_all rfl);refine wpAny_getItem_list_slice (s:={s2 with heap:=s2.heap.push {cls:= .type "slice",data:= .fields #[.none,.none,.int 2 t]}}) Kf (Heap.IsSliceOf.new ..) .none .none (.int 2 t) (by decide) ?_ (by rw [Aw];omega);rw [VV];exact⟨.ref _,_,I3.p9 (t':=s2.toks) (Kd r)<|Ce (VU _) hz,rfl,q _ I3.fresh⟩
end
section
variable{prog:Program}{w:World}{A:Around}{E:Value->Shared->Prop}{s:Shared}
theorem VX{Q:Value->Shared->Prop}(k:Q (.ref s.heap.objs.size) {s with heap:=s.heap.push (fU w)}):codeAny (model prog w) A (.call (.builtin "set.__new__") ⟨[.type "set"],[]⟩) (wants Q E) s:=by
 refine JT ?_;show wpAny _ A.in1 (checkBuiltinCall "set.__new__" ⟨[.type "set"],[]⟩ >>= λ_=>again<|.builtin "set.__new__" ⟨[.type "set"],[]⟩) _ _ s;refine BJ<|JD PySem.F.newCall_set_0<|BK ⟨GK TJ _,DW PySem.F.entry_set_new ?_⟩;rw [DP TJ _];unfold Builtin.«set.__new__» Builtin.Frozenset.newClass
 dsimp only
 refine BJ<|BJ<|JD (show isType (.type "set")=pure true from rfl)<|BK ?_;simp only [Dw,Az,CT];unfold newSet;refine BJ<|BJ<|wp_text ?_
 dsimp only
 simp only [newObj];exact BJ<|RW<|BK<|BK k
theorem VY{Q:Value->Shared->Prop}(k:Q (.ref s.heap.objs.size) {s with heap:=s.heap.push (fU w)}):wpAny (model prog w) A (call (.type "set") []) Q E s:=by
 obtain⟨c,tl,yt⟩:=PySem.F.called_set.mro;have qj:=PySem.F.called_set.made;have kd:=PySem.F.called_set.sub;refine wpAny_call<|JT ?_;show wpAny _ _ (callAny (.type "set") _) _ _ _;refine BK ⟨Code.quiet_builtin _ (by decide +kernel),DW PySem.F.entry_type_call ?_⟩;rw [Around.under_plain (weight_type_call_type "set" [] []) rfl];have h1:=PySem.F.called_set.notType;have h2:=PySem.F.called_set.canCreate;have h3:=PySem.F.typeCall_set_0
 repeat (any_goals (first | assumption | wp_step))
 refine JG (VX (E:=E) (Q:=λv u=>v = .ref s.heap.objs.size/\u={s with heap:=s.heap.push (fU w)}) ⟨rfl,rfl⟩) λr u hr=>?_;cases r with
 | error e=>exact hr
 | ok fl=>
  cases fl with
  | ret v=>
   obtain⟨rfl,rfl⟩:=hr;have hT:Shared.TypeIs {s with heap:=s.heap.push (fU w)} (.ref s.heap.objs.size) "set":=⟨_,As _ rfl,rfl⟩;have yu:=PySem.F.called_set.init.lookup;have yv:=PySem.F.called_set.init.bind<|.ref s.heap.objs.size
   repeat (any_goals (first | assumption | wp_step))
   refine JG (codeAny_call_builtin (R:=wants (λr u=>r = .none/\Q (.ref s.heap.objs.size) u) E) PySem.F.called_set.init.plain PySem.F.entry_set_init<|check_set_init hT ?_) λr2 u2 gA=>?_
   ·unfold Builtin.«set.__init__» noKeywords
    wp_walk
    exact⟨rfl,k⟩
   ·cases r2 with
    | error e=>exact gA
    | ok f2=>
     cases f2 with
     | ret r=>
      obtain⟨rfl,hq⟩:=gA
      repeat (any_goals (first | assumption | wp_step))
     | _=>exact gA.elim
  | _=>exact hr.elim
theorem VZ{a:Addr}{zs:List Str}{z:Str}{tk:Tok}{Q:Value->Shared->Prop}(S:au prog w s.heap a zs) (h:Q (.bool<|decide (z∉zs)) {s with toks:=s.toks+1}):wpAny (model prog w) A (compareOp .NotIn (.str z tk)<|.ref a) Q E s:=by
 have hT:=S.typeIs;show wpAny _ _ (do return .bool (!(<- contains (.ref a)<|.str z tk))) Q E s;refine BJ ?_;unfold contains
 try with_reducible refine CK ?_
 refine BJ<|RL hT PySem.F.slot_set_contains.lookup ?_;show wpAny _ _ (if(some (Value.builtin "set.__contains__") == some Value.none)=true then _ else _) _ E s;rw [BL<|by rw [beq_builtin_none];exact At];refine BJ<|wpAny_callSpecialUnlessNone?_slot (name:=Str.ofString "__contains__") hT QJ<|CZ QJ hT entry_set_contains ?_<|PySem.F.args_set_contains_2 _ _;unfold Builtin.«frozenset.__contains__» Builtin.Frozenset.oneOther;simp only [Gq,bind_assoc];unfold Builtin.Frozenset.addrOf Builtin.Frozenset.withSetAsKey setContains;refine BJ<|BK ?_
 try dsimp only
 refine BJ<|BK ?_
 try dsimp only
 refine BJ<|wpAny_tryCatch<|CK ?_;refine BJ<|(strKind prog w).pyHash (k:=z) (NK _ _ _ _) ?_;obtain⟨o,es,ep,t,ho,hx,hd,T⟩:=S;refine BJ<|Iw (s:={s with toks:=s.toks+1}) ho hd T (λhz=>?_) λj hj e=>?_
 ·refine BK ?_;show wpAny _ _ (ret<|Value.bool false) _ _ _;rw [BW hz] at h;exact BK ⟨_,rfl,FZ<|BK h⟩
 ·refine BK ?_;show wpAny _ _ (ret<|Value.bool true) _ _ _;have hz:z∈zs:=T.keys.mem_iff.mp (by rw [<- e];exact Aj.mpr ⟨_,Bn hj,rfl⟩);rw [BR<|not_not_intro hz] at h;exact BK ⟨_,rfl,FZ<|BK h⟩
end
section
variable{X:Cx}{σ:St}{H:Hp}{Q:VK}
theorem V0{p pos:Pos}(hm:X.mg "set" = none)(h:∀ D,H D=none->Q (.ref D) (upd H D<|bn X.prog X.w D []))(hg:Gl X "set":=by rfl):Ev X (.Call (.Name "set" p) [] [] pos) σ H Q:=by
 refine⟨λpins s I=>Call_<|l9 I hg hm LR<|PyProof.Rows.callWith_type0<|VY ?_⟩;exact⟨.ref s.heap.objs.size,_,I.laid (t':=s.toks) (λb o e=>Af _ e) (Am _)<|ua<|IH<|As _ rfl,rfl,h _ I.fresh⟩
theorem V1:cr X (compareOp .NotIn) (λx y H Q=>∃ z a zs,x = .str z/\y = .ref a/\H a=some (bn X.prog X.w a zs)/\Q (.bl<|decide (z∉zs)) H):=by
 intro pins s σ H x y v u Q I rx ry h;obtain⟨z,a,zs,rfl,rfl,hA,q⟩:=h;obtain⟨t,rfl⟩:=rx;cases (show u=Value.ref a from ry);exact VZ (I.set hA) ⟨.bl _,H,I.tok _,rfl,q⟩
theorem V2{o e:Expr}{ap cp:Pos} (h:Ev X o σ H λx H1=>∃ a,x = .ref a/\(∃ zs,H1 a=some (bn X.prog X.w a zs))/\Ev X e σ H1 λy H2=>∃ z zs,y = .str z/\H2 a=some (bn X.prog X.w a zs)/\zs.length+1 < 1000/\Q .non (upd H2 a<|bn X.prog X.w a<|added zs z))
  (bC:attributeBase o "add" X.env (eval o X.env)=eval o X.env:=by rfl)
  (eB:((backTo cp<|starEach [e] X.env).all (λx=>!x.1) && (backToKw cp<|keywordEach [] X.env).all (λx=>x.1.isSome) && decide ([e].length+([]:List Keyword).length+(if([]:List Keyword).isEmpty then 0 else 1) < 30))=true:=by rfl)
  (hline:(ap.endLine == cp.line)=true:=by rfl) (hs:starEach [e] X.env=(false,eval e X.env) :: starEach [] X.env:=by rfl) (dS:isStar e=false:=by rfl):Ev X (.Call (.Attribute o "add" ap) [e] [] cp) σ H Q:=by
 refine⟨λpins s I=>wpAny_Call_method_late bC eB hline rfl (aP (h.run pins s I) λv s1 ⟨x,H1,I1,r1,a,ex,⟨zs,hA⟩,h2⟩=>?_)⟩;subst ex;cases (show v=Value.ref a from r1);have S:=I1.set hA;refine⟨"set","set.add",PySem.F.plainAttrs_set,PySem.F.slot_set_add,PySem.F.type_set_add,S.typeIs,λb eb=>?_,?_⟩
 ·cases eb;obtain⟨o,_,_,_,ho,hx,_⟩:=S;exact⟨o,ho,hx.2.1⟩
 have hE:Ea X [e] σ H1 (λys H2=>∃ z zs,ys=[.str z]/\H2 a=some (bn X.prog X.w a zs)/\zs.length+1 < 1000/\Q .non (upd H2 a<|bn X.prog X.w a<|added zs z)):=ao (h2.mono λy H2 ⟨z,zs,ey,q⟩=>aA ⟨z,zs,by rw [ey],q⟩) dS;have Kg:=hE.run cp pins s1 I1;rw [hs] at Kg ⊢;refine JC rfl (Calls.evalArgs_plain ?_);refine aP Kg λus s2 ⟨vs,H2,I2,r2,z,ys,ev,Kh,hl,q⟩=>?_;subst ev;obtain⟨u,rfl,ru⟩:=vals1 r2;obtain⟨tk,rfl⟩:=ru;refine VG (I2.set Kh) hl λh' sb S'=>⟨.non,_,k5 (t':=s2.toks+1) I2 (by rw [Kh];exact True.intro) sb ?_<|ua S',rfl,q⟩;obtain⟨o,_,_,_,ho,_⟩:=S';exact⟨o,ho⟩
end
end L2
namespace Nt
open PySem L2
def cV(c:Int)(n:Net)(e:End):End:=(e.1,(((e.2:Int)+c) % ((row n e.1).length:Int)).toNat)
theorem qL{c:Int}{n:Net}{e:End}(h:e∈ends n):(((cV c n e).2:Nat):Int)=((e.2:Int)+c) % ((row n e.1).length:Int):=by
 obtain⟨z,hz⟩:=af.mp h;have:=fY hz;exact Int.toNat_of_nonneg<|Bt _<|by omega
theorem Ki{c:Int}{n:Net}{e:End}(h:e∈ends n):cV c n e∈ends n:=by
 obtain⟨z,hz⟩:=af.mp h;have h1:=fY hz;have h2:=qL (c:=c) h;have h3:((e.2:Int)+c) % ((row n e.1).length:Int) < ((row n e.1).length:Int):=Cc _ (by omega);exact af.mpr<|qz (e:=cV c n e)<|by show(cV c n e).2 < (row n e.1).length;omega
theorem lC{c:Int}{n:Net}{e:End}(h:e∈ends n):cV (-c) n (cV c n e)=e:=by
 have h2:=qL (c:=c) h;have h3:=qL (c:=-c)<|Ki (c:=c) h;obtain⟨z,hz⟩:=af.mp h;have h1:=fY hz;have hr:(cV c n e).1=e.1:=rfl;rw [hr,h2] at h3;have e1:(((e.2:Int)+c) % ((row n e.1).length:Int)+-c) % ((row n e.1).length:Int)=(e.2:Int):=by
  have:(((e.2:Int)+c) % ((row n e.1).length:Int)+-c) % ((row n e.1).length:Int)=((e.2:Int)+c+-c) % ((row n e.1).length:Int):=by
   rw [Int.add_emod,Int.emod_emod,<- Int.add_emod]
  rw [this,show(e.2:Int)+c+-c=(e.2:Int) by omega];exact Int.emod_eq_of_lt (by omega)<|by omega
 rw [e1] at h3;have h4:(cV (-c) n<|cV c n e).2=e.2:=by omega
 exact HJ rfl h4
theorem Kj{c:Int}{n:Net}{a b:End}(ha:a∈ends n)(hb:b∈ends n)(h:cV c n a=cV c n b):a=b:=by
 rw [<- lC (c:=c) ha,<- lC (c:=c) hb,h]
theorem uO{n:Net}{e:End}(h:e∈ends n):left n e=cV 1 n e:=by
 have h2:=qL (c:=1) h;refine HJ rfl ?_;show(e.2+1) % (row n e.1).length=(cV 1 n e).2;have:(((e.2+1) % (row n e.1).length:Nat):Int)=((e.2:Int)+1) % ((row n e.1).length:Int):=by simp
 omega
def go(c:Int)(n:Net)(e:End):End:=cV c n<|other n e
theorem eW{c:Int}{n:Net}(T:aj n){e:End}(h:e∈ends n):go c n e∈ends n:=Ki<|cM T h
theorem go_inj{c:Int}{n:Net}(T:aj n){a b:End}(ha:a∈ends n)(hb:b∈ends n)(h:go c n a=go c n b):a=b:=Ju T ha hb<|Kj (cM T ha) (cM T hb) h
theorem Kk{n:Net}(T:aj n){e:End}(h:e∈ends n):step n e=go 1 n e:=uO<|cM T h
def two(n:Net)(e:End):End:=go (-1) n<|go 1 n e
theorem ko{n:Net}(T:aj n){e:End}(h:e∈ends n):two n e∈ends n:=eW T<|eW T h
theorem qM{n:Net}(T:aj n){a b:End}(ha:a∈ends n)(hb:b∈ends n)(h:two n a=two n b):a=b:=go_inj T ha hb<|go_inj T (eW T ha) (eW T hb) h
def wk(n:Net)(e:End):Nat->List End
 | 0=>[]
 | k+1=>wk n e k++[it (two n) k e,go 1 n<|it (two n) k e]
theorem nn(n:Net)(e:End):∀ k,(wk n e k).length=2 * k
 | 0=>rfl
 | k+1=>by
  show(wk n e k++_).length=_;rw [Ag,nn n e k];show 2 * k+2=_;omega
theorem nq(n:Net)(e:End):∀(k i:Nat),i < k->(wk n e k)[2 * i]?=some (it (two n) i e)
 | 0,i,h=>absurd h<|Em _
 | k+1,i,h=>by
  show(wk n e k++[it (two n) k e,go 1 n<|it (two n) k e])[2 * i]?=_;have l:=nn n e k
  by_cases hk:i < k
  ·rw [Aq<|by omega];exact nq n e k i hk
  ·have:i=k:=by omega
   subst this;rw [Ay (by omega),l,UJ];rfl
theorem uP(n:Net)(e:End):∀(k i:Nat),i < k->(wk n e k)[2 * i+1]?=some (go 1 n<|it (two n) i e)
 | 0,i,h=>absurd h<|Em _
 | k+1,i,h=>by
  show(wk n e k++[it (two n) k e,go 1 n<|it (two n) k e])[2 * i+1]?=_;have l:=nn n e k
  by_cases hk:i < k
  ·rw [Aq<|by omega];exact uP n e k i hk
  ·have:i=k:=by omega
   subst this;rw [Ay (by omega),l,show 2 * i+1 - 2 * i=1 by omega];rfl
theorem V3(n:Net)(e:End)(k:Nat):ah (wk n e k)=(List.range k).map λi=>it (two n) i e:=by
 apply Dp;intro i;rw [nj,Ai]
 by_cases h:i < k
 ·rw [nq n e k i h,Dq h];rfl
 ·rw [Bb (by rw [nn];omega),Bb<|by rw [Fj];omega];rfl
theorem zH{n:Net}(T:aj n){e:End}(h:e∈ends n):∀ k,∀ c∈wk n e k,c∈ends n
 | 0,c,hc=>by cases hc
 | k+1,c,hc=>by
  have hk:it (two n) k e∈ends n:=gB (λa ha=>ko T ha) h k
  rcases An.mp hc with hc | hc
  ·exact zH T h k c hc
  ·rcases Ak.mp hc with rfl | hc
   ·exact hk
   ·rw [Ah.mp hc];exact eW T hk
structure gY(n:Net)(e:End)(k:Nat):Prop where
 pos:0 < k
 back:it (two n) k e=e
 first:∀ i,0 < i->i < k->it (two n) i e≠e
theorem gY.unique{n:Net}{e:End}{k l:Nat}(a:gY n e k)(b:gY n e l):k=l:=by
 rcases Gi k l with h | h | h
 ·exact absurd a.back<|b.first k a.pos h
 ·exact h
 ·exact absurd b.back<|a.first l b.pos h
noncomputable def qN(n:Net)(e:End):Nat:=by classical exact if h:∃ k,gY n e k then h.choose else 0
theorem qO{n:Net}{e:End}{k:Nat}(h:gY n e k):qN n e=k:=by
 have hx:∃ k,gY n e k:=⟨k,h⟩;unfold qN;rw [dif_pos hx];exact hx.choose_spec.unique h
noncomputable def walker(n:Net)(e:End):List End:=wk n e<|qN n e
structure jc(n:Net)(ws:List End):Prop where
 ends:∀ c∈ws,c∈Nt.ends n
 ne0:0 < ws.length
 even:ws.length % 2=0
 few:ws.length<=2 * (Nt.ends n).length
 at':∀ k,k < ws.length->∃ c,ws[k]?=some c/\ws[(k+1) % ws.length]?=some (go (1 - 2 * ((k:Int) % 2)) n c)
theorem V4{n:Net}(T:aj n){e:End}(h:e∈Nt.ends n){k:Nat}(p:gY n e k)(hk:k<=(Nt.ends n).length):jc n (wk n e k):=by
 have l:=nn n e k;have p0:=p.pos;refine⟨zH T h k,by omega,by omega,by omega,λj hj=>?_⟩;rw [l] at hj ⊢
 rcases Nat.mod_two_eq_zero_or_one j with h2 | h2
 ·obtain⟨i,rfl⟩:∃ i,j=2 * i:=⟨j / 2,by omega⟩;refine⟨_,nq n e k i (by omega),?_⟩;rw [Bx (by omega),uP n e k i<|by omega];have:(1:Int) - 2 * (((2 * i:Nat):Int) % 2)=1:=by omega
  rw [this]
 ·obtain⟨i,rfl⟩:∃ i,j=2 * i+1:=⟨j / 2,by omega⟩;refine⟨_,uP n e k i (by omega),?_⟩;have e1:(1:Int) - 2 * (((2 * i+1:Nat):Int) % 2)=-1:=by omega
  rw [e1];show _=some (two n<|it (two n) i e)
  by_cases hl:i+1 < k
  ·rw [Bx (by omega),show 2 * i+1+1=2 * (i+1) by omega];exact nq n e k (i+1) hl
  ·have:i+1=k:=by omega
   rw [show 2 * i+1+1=2 * k by omega,Ee];have e2:two n (it (two n) i e)=it (two n) k e:=by rw [<- this];rfl
   rw [e2,p.back];exact nq n e k 0<|by omega
def aw(n:Net)(e:End):Str:=(aF n e).getD ⟨#[]⟩
theorem cW{n:Net}{e:End}{z:Str}(h:aF n e=some z):aw n e=z:=by unfold aw;rw [h];rfl
noncomputable def dw(n:Net):List End->List Str->List (List End)
 | [],_=>[]
 | e :: r,told=>if aw n e∈told then dw n r told else walker n e :: dw n r (told++(ah<|walker n e).map (aw n))
theorem oS{n:Net}(T:aj n){e:End}(h:e∈ends n):∃ k,gY n e k/\k<=(ends n).length:=by
 obtain⟨k,k0,k1,k2⟩:=uf (f:=two n) (S:=ends n) (λa ha=>ko T ha) (λa ha b hb=>qM T ha hb) h;have aux:∀ m,∀ k,k<=m->0 < k->it (two n) k e=e->∃ j,j<=k/\gY n e j:=by
  intro m
  induction m with
  | zero=>intro k h1 h2;omega
  | succ m ih=>
   intro k h1 h2 h3
   by_cases c:∃ i,0 < i/\i < k/\it (two n) i e=e
   ·obtain⟨i,i1,i2,i3⟩:=c;obtain⟨j,j1,j2⟩:=ih i (by omega) i1 i3;exact⟨j,by omega,j2⟩
   ·exact⟨k,Am _,h2,h3,λi i1 i2 i3=>c ⟨i,i1,i2,i3⟩⟩
 obtain⟨j,j1,j2⟩:=aux k k (Am _) k0 k2;exact⟨j,j2,by omega⟩
theorem V5{n:Net}(T:aj n){e:End}(h:e∈ends n):jc n (walker n e):=by
 obtain⟨k,p,hk⟩:=oS T h;unfold walker;rw [qO p];exact V4 T h p hk
theorem nr{n:Net}(T:aj n):∀(es:List End) (told:List Str),(∀ e∈es,e∈ends n)->∀ w∈dw n es told,jc n w
 | [],_,_,w,hw=>by cases hw
 | e :: r,told,h,w,hw=>by
  unfold dw at hw
  split at hw
  ·exact nr T r told (λa ha=>h a<|Ae _ ha) w hw
  ·rcases Ak.mp hw with rfl | hw
   ·exact V5 T<|h e<|Ad ..
   ·exact nr T r _ (λa ha=>h a<|Ae _ ha) w hw
theorem uQ(n:Net):∀(es:List End) (told:List Str),(dw n es told).length<=es.length
 | [],_=>Am _
 | e :: r,told=>by
  unfold dw
  split
  ·have:=uQ n r told;show _<=r.length+1;omega
  ·have:=uQ n r<|told++(ah<|walker n e).map (aw n);show _+1<=r.length+1;omega
structure eO(n:Net)(e:End)(k:Nat):Prop where
 pos:0 < k
 back:it (step n) k e=e
 first:∀ i,0 < i->i < k->it (step n) i e≠e
theorem eO.unique{n:Net}{e:End}{k l:Nat}(a:eO n e k)(b:eO n e l):k=l:=by
 rcases Gi k l with h | h | h
 ·exact absurd a.back<|b.first k a.pos h
 ·exact h
 ·exact absurd b.back<|a.first l b.pos h
noncomputable def gZ(n:Net)(e:End):Nat:=by classical exact if h:∃ k,eO n e k then h.choose else 0
theorem V6{n:Net}{e:End}{k:Nat}(h:eO n e k):gZ n e=k:=by
 have hx:∃ k,eO n e k:=⟨k,h⟩;unfold gZ;rw [dif_pos hx];exact hx.choose_spec.unique h
theorem V7{n:Net}(T:aj n){e:End}(h:e∈ends n):∃ k,eO n e k/\k<=(ends n).length:=by
 obtain⟨k,k0,k1,k2⟩:=uf (f:=step n) (S:=ends n) (λa ha=>jI T ha) (λa ha b hb=>ud T ha hb) h;have aux:∀ m,∀ k,k<=m->0 < k->it (step n) k e=e->∃ j,j<=k/\eO n e j:=by
  intro m
  induction m with
  | zero=>intro k h1 h2;omega
  | succ m ih=>
   intro k h1 h2 h3
   by_cases c:∃ i,0 < i/\i < k/\it (step n) i e=e
   ·obtain⟨i,i1,i2,i3⟩:=c;obtain⟨j,j1,j2⟩:=ih i (by omega) i1 i3;exact⟨j,by omega,j2⟩
   ·exact⟨k,Am _,h2,h3,λi i1 i2 i3=>c ⟨i,i1,i2,i3⟩⟩
 obtain⟨j,j1,j2⟩:=aux k k (Am _) k0 k2;exact⟨j,j2,by omega⟩
def fl(n:Net)(e:End)(k:Nat):List End:=(List.range k).map λi=>it (step n) i e
theorem V8(n:Net)(e:End)(k:Nat):fl n e (k+1)=fl n e k++[it (step n) k e]:=by
 unfold fl;rw [Cz,Al];rfl
theorem oT(n:Net)(e:End)(k:Nat):(fl n e k).length=k:=by unfold fl;simp
theorem V9(n:Net)(e:End){k i:Nat}(h:i < k):(fl n e k)[i]?=some (it (step n) i e):=by
 unfold fl;rw [Ai,Dq h];rfl
noncomputable def face(n:Net)(e:End):List End:=fl n e<|gZ n e
theorem V'{n:Net}{e:End}{k:Nat}(p:eO n e k)(hk:k<=(ends n).length):cN n e (fl n e k):=
 ⟨by rw [oT];exact p.pos,by rw [oT];exact hk,λi hi=>V9 n e (by rw [oT] at hi;exact hi),by rw [oT];exact p.back,by rw [oT];exact p.first⟩
theorem nw{n:Net}(T:aj n){e:End}(h:e∈ends n):cN n e (face n e):=by
 obtain⟨k,p,hk⟩:=V7 T h;unfold face;rw [V6 p];exact V' p hk
theorem Kl{n:Net}(T:aj n){e:End}(h:e∈ends n):∀ c∈face n e,c∈ends n:=(nw T h).ends T h
noncomputable def oU(n:Net):List End->List End->List (List End)
 | [],_=>[]
 | e :: r,told=>if e∈told then oU n r told else face n e :: oU n r (told++face n e)
noncomputable def g5(n:Net):List (List End):=if ends n=[] then [[]] else oU n (ends n) []
end Nt
namespace Nt
variable{α β:Type}
def dY(f:α->α):List α->α->α->Prop
 | [],a,b=>a=b
 | x :: l,a,b=>x=a/\dY f l (f x) b
theorem bA{f:α->α}:∀{l k:List α} {a b:α},dY f (l++k) a b↔∃ c,dY f l a c/\dY f k c b
 | [],k,a,b=>⟨λh=>⟨a,rfl,h⟩,λ⟨c,e,h⟩=>by cases e;exact h⟩
 | x :: l,k,a,b=>by
  show(x=a/\dY f (l++k) (f x) b)↔∃ c,(x=a/\dY f l (f x) c)/\dY f k c b;rw [bA];exact⟨λ⟨e,c,h1,h2⟩=>⟨c,⟨e,h1⟩,h2⟩,λ⟨c,⟨e,h1⟩,h2⟩=>⟨e,c,h1,h2⟩⟩
theorem zI{f:α->α}{f':β->β}{g:α->β}:∀{l:List α} {a b:α},(∀ x∈l,f' (g x)=g (f x))->dY f l a b->dY f' (l.map g) (g a) (g b)
 | [],_,_,_,h=>BZ g h
 | x :: l,a,b,hg,h=>⟨BZ g h.1,by rw [hg x Ad];exact zI (λy hy=>hg y<|Ae _ hy) h.2⟩
theorem uR{f:α->α}:∀{l:List α} {x a b y:α},dY f (x :: l) a b->y∈x :: l->f y∈l\/f y=b
 | [],x,a,b,y,h,hy=>by
  rw [Ah] at hy;subst hy;exact .inr h.2
 | z :: l,x,a,b,y,h,hy=>by
  rcases Ak.mp hy with rfl | hy
  ·exact .inl<|by rw [<- h.2.1];exact Ad
  ·rcases uR h.2 hy with q | q
   ·exact .inl<|Ae _ q
   ·exact .inr q
theorem oV{f:α->α}{l:List α}{a y:α}(h:dY f l a a)(ha:a∈l)(hy:y∈l):f y∈l:=by
 cases l with
 | nil=>cases hy
 | cons x l=>
  rcases uR h hy with q | q
  ·exact Ae _ q
  ·rw [q];exact ha
theorem uS{f:α->α}{f':β->β}{g:α->β}{c:α}{h:β}:∀{l:List α} {x:α},(∀ y∈x :: l,f y=c->f' (g y)=h)->(∀ y∈x :: l,f y≠c->f' (g y)=g (f y))->c∉l->dY f (x :: l) x c->dY f' ((x :: l).map g) (g x) h
 | [],x,h1,_,_,p=>⟨rfl,h1 x Ad p.2⟩
 | y :: l,x,h1,h2,hc,p=>by
  have e:y=f x:=p.2.1;have ne:f x≠c:=λq=>hc (by rw [<- q,<- e];exact Ad);refine⟨rfl,?_⟩;rw [h2 x Ad ne,<- e];refine uS (λz hz=>h1 z<|Ae _ hz) (λz hz=>h2 z<|Ae _ hz) (λq=>hc<|Ae _ q) ?_;exact⟨rfl,p.2.2⟩
structure Dec(f:α->α)(D:List α)(Ls:List<|List α):Prop where
 fD:∀ l∈Ls,∃ a,a∈l/\dY f l a a
 all:Ls.flatten.Perm D
 nd:D.Nodup
theorem Dec.sub{f:α->α}{D:List α}{Ls:List (List α)}(d:Dec f D Ls){l:List α}(hl:l∈Ls){x:α}(hx:x∈l):x∈D:=
 d.all.mem_iff.mp (Du.mpr ⟨l,hl,hx⟩)
theorem Dec.pick{f:α->α}{D:List α}{Ls:List (List α)}(d:Dec f D Ls){c:α}(hc:c∈D):∃ l Ms,Ls.length=Ms.length+1/\Dec f D ((c :: l) :: Ms):=by
 obtain⟨l,hl,lq⟩:=Du.mp<|d.all.mem_iff.mpr hc;obtain⟨A,B,rfl⟩:=Fe hl;obtain⟨p,q,rfl⟩:=Fe lq;obtain⟨a,ha,h⟩:=d.fD _ hl;obtain⟨m,h1,h2⟩:=bA.mp h;have e:c=m:=h2.1;subst e;refine⟨q++p,A++B,by simp [Nat.add_assoc],λk hk=>?_,?_,d.nd⟩
 ·rcases Ak.mp hk with rfl | hk
  ·exact⟨c,Ad,bA (l:=c :: q).mpr ⟨a,h2,h1⟩⟩
  ·refine d.fD k ?_
   rcases An.mp hk with q | q
   ·exact Ax _ q
   ·exact Ao _<|Ae _ q
 ·refine List.Perm.trans ?_ d.all;simp only [Cg,Ft,Fp];have e1:(c :: (q++p)).Perm (p++c :: q):=by
   rw [<- Fp];exact Cf
  refine((e1.append_right _).trans ?_);rw [<- Ar,<- Ar];exact(Cf).append_right _
theorem Dec.apart{f:α->α}{D:List α}{l:List α}{Ms:List (List α)}(d:Dec f D<|l :: Ms):l.Nodup/\∀ m∈Ms,∀ x∈l,x∉m:=by
 have h:=d.all.nodup_iff.mpr d.nd;rw [Cg,Bv] at h;exact⟨h.1,λm hm x hx Wa=>h.2.2 x hx x (Du.mpr ⟨m,hm,Wa⟩) rfl⟩
theorem uT{g:α->β}:∀(Ls:List<|List α),(Ls.map<|List.map g).flatten=Ls.flatten.map g
 | []=>rfl
 | l :: Ls=>by rw [Bj,Cg,uT Ls,Cg,Al]
theorem Dec.rest{f:α->α}{f':β->β}{g:α->β}{D:List α}{l:List α}{Ms:List (List α)}(d:Dec f D<|l :: Ms)(ho:∀ x∈D,f x∉l->f' (g x)=g (f x)):∀ m∈Ms.map (List.map g),∃ a,a∈m/\dY f' m a a:=by
 intro m hm;obtain⟨k,hk,rfl⟩:=Aj.mp hm;obtain⟨a,ha,p⟩:=d.fD k<|Ae _ hk;refine⟨g a,Aj.mpr ⟨a,ha,rfl⟩,zI (λx hx=>ho x (d.sub (Ae _ hk) hx) λq=>?_) p⟩;exact d.apart.2 k hk _ q<|oV p ha hx
theorem Dec.grow{f:α->α}{f':β->β}{g:α->β}{D:List α}{c:α}{l:List α}{Ms:List (List α)}(d:Dec f D<|(c :: l) :: Ms){new:List β}{h:β}(hn:dY f' new h<|g c)(hh:∀ x∈D,f x=c->f' (g x)=h)(ho:∀ x∈D,f x≠c->f' (g x)=g (f x))(nd:(D.map g++new).Nodup) :
  Dec f' (D.map g++new) (((c :: l).map g++new) :: Ms.map (List.map g)):=by
 have ap:=d.apart;have lq:c∉l:=(Bg.mp ap.1).1;refine⟨λk hk=>?_,?_,nd⟩
 ·rcases Ak.mp hk with rfl | hk
  ·obtain⟨a,ha,p⟩:=d.fD _ Ad;have e:c=a:=p.1;subst e;exact⟨g c,Ax _ Ad,bA.mpr ⟨h,uS (λy hy=>hh y<|d.sub Ad hy) (λy hy=>ho y<|d.sub Ad hy) lq p,hn⟩⟩
  ·exact d.rest (λx hx q=>ho x hx λe=>q<|by rw [e];exact Ad) k hk
 ·rw [Cg,uT];have:=d.all.map g;rw [Cg,Al] at this;refine List.Perm.trans ?_<|this.append_right new;rw [Ar,Ar];exact(Cf).append_left _
theorem Dec.split{f:α->α}{f':β->β}{g:α->β}{D:List α}{c d0:α}{l:List α}{Ms:List (List α)}(d:Dec f D<|(c :: l) :: Ms)(hd:d0∈l){e1 e2:β}(h1:f' e1=g d0)(h2:f' e2=g c)(hc:∀ x∈D,f x=c->f' (g x)=e1)(Wb:∀ x∈D,f x=d0->f' (g x)=e2)(ho:∀ x∈D,f x≠c->f x≠d0->f' (g x)=g (f x))(nd:(D.map g++[e1,e2]).Nodup) :
  ∃ Ls,Ls.length=Ms.length+2/\Dec f' (D.map g++[e1,e2]) Ls/\∃ l∈Ls,e2∈l/\e1∉l:=by
 have ap:=d.apart;obtain⟨p,q,rfl⟩:=Fe hd;have zJ:=Bg.mp ap.1;have Km:=Bv.mp zJ.2;have Wc:=Bg.mp Km.2.1;have Wd:d0∉p:=λx=>Km.2.2 d0 x d0 Ad rfl;have Wf:c∉p:=λx=>zJ.1<|Ax _ x;have Wg:c∉q:=λx=>zJ.1<|Ao _<|Ae _ x;obtain⟨a,ha,pp⟩:=d.fD _ Ad;have e:c=a:=pp.1;subst e;obtain⟨m,p1,p2⟩:=(bA (l:=c :: p)).mp pp;have e:d0=m:=p2.1;subst e;have inD:∀ y∈c :: p,y∈D:=λy hy=>d.sub Ad (by
  rcases Ak.mp hy with rfl | hy
  ·exact Ad
  ·exact Ae _<|Ax _ hy)
 have qP:∀ y∈d0 :: q,y∈D:=λy hy=>d.sub Ad<|Ae _<|Ao _ hy;have zK:=Bv.mp nd;have Wh:e1≠e2:=λe=>by
  have:=zK.2.1;rw [e] at this;simp at this
 refine⟨((c :: p).map g++[e2]) :: ((d0 :: q).map g++[e1]) :: Ms.map (List.map g),by simp,⟨λk hk=>?_,?_,nd⟩,_,Ad,Ao _<|Ah.mpr rfl,λh=>?_⟩
 ·rcases Ak.mp hk with rfl | hk
  ·refine⟨g c,Ax _ Ad,bA.mpr ⟨e2,uS (λy hy=>Wb y<|inD y hy) (λy hy ne=>ho y (inD y hy) (λec=>?_) ne) Wd p1,rfl,h2⟩⟩
   rcases uR p1 hy with z | z
   ·exact Wf<|by rw [<- ec];exact z
   ·exact ne z
  ·rcases Ak.mp hk with rfl | hk
   ·refine⟨g d0,Ax _ Ad,bA.mpr ⟨e1,uS (λy hy=>hc y<|qP y hy) (λy hy ne=>ho y (qP y hy) ne λec=>?_) Wg p2,rfl,h1⟩⟩
    rcases uR p2 hy with z | z
    ·exact Wc.1<|by rw [<- ec];exact z
    ·exact ne z
   ·exact d.rest (λx hx q=>ho x hx (λe=>q<|by rw [e];exact Ad) λe=>q<|by rw [e];exact Ae _<|Ao _ Ad) k hk
 ·simp only [Cg,uT];have:=d.all.map g;rw [Cg,Al,<- Fp,Al] at this;refine List.Perm.trans ?_<|this.append_right [e1,e2];generalize (c :: p).map g=A;generalize (d0 :: q).map g=B;generalize Ms.flatten.map g=C
  letI:DecidableEq β:=λa b=>Classical.propDecidable<|a=b
  rw [List.perm_iff_count];intro z;simp only [Es,Cu,List.count_nil];omega
 ·rcases An.mp h with h | h
  ·obtain⟨y,hy,e⟩:=Aj.mp h;exact zK.2.2 e1 (Aj.mpr ⟨y,inD y hy,e⟩) e1 Ad rfl
  ·exact Wh<|Ah.mp h
theorem Dec.more{f:β->β}{D:List β}{Ls:List (List β)}(d:Dec f D Ls){b:β}(hb:f b=b)(nd:(D++[b]).Nodup):Dec f (D++[b]) (Ls++[[b]]):=by
 refine⟨λl hl=>?_,?_,nd⟩
 ·rcases An.mp hl with h | h
  ·exact d.fD l h
  ·rw [Ah] at h;subst h;exact⟨b,Ad,rfl,hb⟩
 ·rw [Ft];exact d.all.append_right _
theorem Dec.carry{f:α->α}{f':β->β}{g:α->β}{D:List α}{D':List β}{Ls:List (List α)}(d:Dec f D Ls)(ho:∀ x∈D,f' (g x)=g (f x))(hD:(D.map g).Perm D')(nd:D'.Nodup):Dec f' D' (Ls.map<|List.map g):=by
 refine⟨λm hm=>?_,?_,nd⟩
 ·obtain⟨k,hk,rfl⟩:=Aj.mp hm;obtain⟨a,ha,p⟩:=d.fD k hk;exact⟨g a,Aj.mpr ⟨a,ha,rfl⟩,zI (λx hx=>ho x<|d.sub hk hx) p⟩
 ·rw [uT];exact(d.all.map g).trans hD
open PySem
theorem nA{α:Type} [DecidableEq α]:∀{a b:List α},a.Nodup->(∀ z∈a,z∈b)->b.length<=a.length->a.Perm b
 | [],b,_,_,hl=>by
  have:b=[]:=Bi.mp<|Nat.le_zero.mp hl;rw [this]
 | x :: a,b,nd,sub,hl=>by
  have Kn:=Bg.mp nd;have hx:=sub x Ad;have pb:=List.perm_cons_erase hx;refine List.Perm.trans ((nA Kn.2 (λz hz=>?_) ?_).cons x) pb.symm
  ·exact(Gs λe=>Kn.1<|by rw [<- e];exact hz).mpr<|sub z<|Ae _ hz
  ·have:=pb.length_eq;rw [Au] at this hl;omega
theorem jd{n:Net}(T:aj n){a b:End}{z:Str}(ha:aF n a=some z)(hb:aF n b=some z)(ne:a≠b):other n a=b:=by
 obtain⟨h1,_,h3⟩:=cf T ha;obtain⟨p,q,e,_,_⟩:=mV T ha;have m1:=aH.mpr ha;have m2:=aH.mpr hb;have m3:=aH.mpr h1;rw [e] at m1 m2 m3;simp only [Ak,Cm,HN] at m1 m2 m3
 rcases m1 with rfl | rfl <;> rcases m2 with rfl | rfl <;> rcases m3 with m3 | m3 <;> first | exact m3 | exact absurd rfl ne | exact absurd m3 h3
def sh(c e:End):End:=if e.1=c.1/\c.2<=e.2 then(e.1,e.2+1) else e
theorem kq(c e:End):(sh c e).1=e.1:=by unfold sh;split <;> rfl
theorem lD{c a b:End}(h:sh c a=sh c b):a=b:=by
 have h1:a.1=b.1:=by rw [<- kq c a,h,kq]
 have h2:=BZ Prod.snd h;unfold sh at h2;refine HJ h1 ?_
 by_cases x:a.1=c.1/\c.2<=a.2
 ·rw [BP x] at h2
  by_cases y:b.1=c.1/\c.2<=b.2
  ·rw [BP y] at h2;exact Nat.succ.inj h2
  ·rw [BL y] at h2;have h2:a.2+1=b.2:=h2;exact absurd ⟨h1 ▸ x.1,by omega⟩ y
 ·rw [BL x] at h2
  by_cases y:b.1=c.1/\c.2<=b.2
  ·rw [BP y] at h2;have h2:a.2=b.2+1:=h2;exact absurd ⟨h1 ▸ y.1,by omega⟩ x
  ·rw [BL y] at h2;exact h2
theorem lE(c e:End):sh c e≠c:=by
 intro h;have h1:e.1=c.1:=by rw [<- kq c e,h]
 have h2:=BZ Prod.snd h;unfold sh at h2
 by_cases x:e.1=c.1/\c.2<=e.2
 ·rw [BP x] at h2;have h2:e.2+1=c.2:=h2;omega
 ·rw [BL x] at h2;exact x ⟨h1,by omega⟩
section
variable{n:Net}{c:End}{z:Str}
theorem oW(hc:c.1 < n.length)(hp:c.2<=(row n c.1).length)(i:Nat):(row (ins n c z) i).length=if c.1=i then(row n i).length+1 else(row n i).length:=by
 rw [oO n c z i hc]
 by_cases h:c.1=i
 ·subst h;rw [BP rfl,BP rfl,Ag,Au,Br,Co];omega
 ·rw [BL h,BL h]
theorem zL(hc:c.1 < n.length)(hp:c.2<=(row n c.1).length):aF (ins n c z) c=some z:=by
 unfold aF;rw [oO n c z c.1 hc,BP rfl,Ay (by rw [Br];omega),Br,show c.2 - min c.2 (row n c.1).length=0 by omega];rfl
theorem oX(hc:c.1 < n.length)(hp:c.2<=(row n c.1).length)(e:End):aF (ins n c z) (sh c e)=aF n e:=by
 unfold aF;rw [kq,oO n c z e.1 hc];unfold sh
 by_cases h:c.1=e.1
 ·rw [BP h]
  by_cases k:c.2<=e.2
  ·rw [BP ⟨h.symm,k⟩,Ay (by rw [Br];show _<=e.2+1;omega),Br];show(z :: (row n e.1).drop c.2)[e.2+1 - min c.2 (row n e.1).length]?=_;rw [<- h,show e.2+1 - min c.2 (row n c.1).length=(e.2 - c.2)+1 by omega,Gb,Fz,show c.2+(e.2 - c.2)=e.2 by omega]
  ·rw [BL λq=>k q.2,Aq (by rw [Br,<- h];omega),Dv<|by omega]
 ·rw [BL h,BL λq=>h q.1.symm]
theorem lF(hc:c.1 < n.length)(hp:c.2 < (row n c.1).length):left (ins n c z) c=sh c c:=by
 unfold left sh;rw [oW hc<|Ch hp,BP rfl,BP ⟨rfl,Am _⟩,Bx<|by omega]
theorem gH(hc:c.1 < n.length)(hp:c.2 < (row n c.1).length){e:End}(he:e.2 < (row n e.1).length):left (ins n c z) (sh c e)=if left n e=c then c else sh c (left n e):=by
 by_cases h:c.1=e.1
 ·have e1:(left n e).1=e.1:=rfl;have e2:(left n e).2=(e.2+1) % (row n e.1).length:=rfl;have q:(left n e=c)↔(e.2+1) % (row n e.1).length=c.2:=⟨λx=>by rw [<- e2,x],λx=>HJ h.symm x⟩;have L:(left (ins n c z) (sh c e))=(e.1,((sh c e).2+1) % ((row n e.1).length+1)):=by
   unfold left;rw [kq,oW hc<|Ch hp,BP h]
  rw [L];rw [h] at hp;have S:(sh c e).2=if c.2<=e.2 then e.2+1 else e.2:=by
   unfold sh
   by_cases k:c.2<=e.2
   ·rw [BP ⟨h.symm,k⟩,BP k]
   ·rw [BL λq=>k q.2,BL k]
  have S2:sh c (left n e)=(e.1,if c.2<=(e.2+1) % (row n e.1).length then(e.2+1) % (row n e.1).length+1 else(e.2+1) % (row n e.1).length):=by
   unfold sh
   by_cases k:c.2<=(e.2+1) % (row n e.1).length
   ·rw [BP ⟨h.symm,k⟩,BP k];rfl
   ·rw [BL λq=>k q.2,BL k];rfl
  rw [S,S2];generalize (row n e.1).length=m at *
  by_cases k:e.2+1 < m
  ·rw [Bx k] at q ⊢
   by_cases j:e.2+1=c.2
   ·rw [BP<|q.mpr j,BL (by omega),Bx<|by omega];exact HJ h.symm j
   ·rw [BL λx=>j<|q.mp x]
    by_cases i:c.2<=e.2
    ·rw [BP i,BP (by omega),Bx<|by omega]
    ·rw [BL i,BL (by omega),Bx<|by omega]
  ·have em:e.2+1=m:=by omega
   rw [em,Ee] at q ⊢;rw [BP (by omega),Ee]
   by_cases j:0=c.2
   ·rw [BP<|q.mpr j];exact HJ h.symm j
   ·rw [BL λx=>j<|q.mp x,BL<|by omega]
 ·have ne:left n e≠c:=λx=>h (by rw [<- x];rfl);rw [BL ne];have s1:sh c e=e:=by unfold sh;rw [BL λq=>h q.1.symm]
  have s2:sh c (left n e)=left n e:=by unfold sh;rw [BL λq=>h q.1.symm]
  rw [s1,s2];unfold left;rw [oW hc<|Ch hp,BL h]
end
def Pl(n:Net):Prop:=(ag n=[]/\n.length=1)\/∃ Ls,Dec (step n) (ends n) Ls/\2 * (n.length+Ls.length)=(ag n).length+4
structure dF(n m:Net)(g:End->End)(e1 e2:End)(z:Str):Prop where
 cE:∀ e∈ends n,aF m (g e)=aF n e
 t1:aF m e1=some z
 t2:aF m e2=some z
 inj:∀ a b,g a=g b->a=b
 n1:∀ a∈ends n,g a≠e1
 n2:∀ a∈ends n,g a≠e2
 ne:e1≠e2
 len:(ag m).length=(ag n).length+2
section
variable{n m:Net}{g:End->End}{e1 e2:End}{z:Str}
theorem dF.nd(p:dF n m g e1 e2 z):((ends n).map g++[e1,e2]).Nodup:=by
 rw [Bv];refine⟨?_,?_,?_⟩
 ·exact(Fk.mpr<|(lz n).imp λ{a b} h e=>h<|p.inj a b e)
 ·simp [p.ne]
 ·rintro a ha b hb rfl;obtain⟨x,hx,rfl⟩:=Aj.mp ha;simp only [Ak,Cm,HN] at hb
  rcases hb with h | h
  ·exact p.n1 x hx h
  ·exact p.n2 x hx h
theorem dF.perm(p:dF n m g e1 e2 z):((ends n).map g++[e1,e2]).Perm (ends m):=by
 refine nA p.nd (λa ha=>?_)<|by rw [f7,p.len,Ag,Ab,f7];exact Am _
 rcases An.mp ha with h | h
 ·obtain⟨x,hx,rfl⟩:=Aj.mp h;obtain⟨y,hy⟩:=af.mp hx;exact af.mpr ⟨y,by rw [p.cE x hx];exact hy⟩
 ·simp only [Ak,Cm,HN] at h
  rcases h with rfl | rfl
  ·exact af.mpr ⟨z,p.t1⟩
  ·exact af.mpr ⟨z,p.t2⟩
theorem dF.fV(p:dF n m g e1 e2 z)(T:aj n)(T':aj m){e:End}(he:e∈ends n):other m (g e)=g (other n e):=by
 obtain⟨y,hy⟩:=af.mp he;obtain⟨h1,_,h3⟩:=cf T hy;exact jd T' (by rw [p.cE e he];exact hy) (by rw [p.cE _<|af.mpr ⟨y,h1⟩];exact h1) λh=>h3 (p.inj _ _ h).symm
theorem dF.o1(p:dF n m g e1 e2 z)(T':aj m):other m e1=e2:=jd T' p.t1 p.t2 p.ne
theorem dF.o2(p:dF n m g e1 e2 z)(T':aj m):other m e2=e1:=jd T' p.t2 p.t1 p.ne.symm
theorem Dec.perm{α:Type}{f:α->α}{D D':List α}{Ls:List (List α)}(d:Dec f D Ls)(h:D.Perm D'):Dec f D' Ls:=⟨d.fD,d.all.trans h,h.nodup_iff.mp d.nd⟩
theorem uU{α:Type}{f:α->α}{l:List α}(h:∀ x∈l,f x∈l){a:α}(ha:a∈l):∀ k,it f k a∈l:=λk=>gB h ha k
theorem Dec.one{α:Type}{f:α->α}{D:List α}{a b:α}{l:List α}{Ms:List (List α)}(d:Dec f D<|(a :: l) :: Ms)(hb:b∈D)(h:(∃ k,it f k a=b)\/∃ k,it f k b=a)(ne:b≠a):b∈l:=by
 have cl:∀ k∈(a :: l) :: Ms,∀ x∈k,f x∈k:=λk hk x hx=>by
  obtain⟨c,hc,p⟩:=d.fD k hk;exact oV p hc hx
 have hm:b∈a :: l:=by
  rcases h with ⟨k,rfl⟩ | ⟨k,e⟩
  ·exact uU (cl _ Ad) Ad k
  ·obtain⟨j,hj,Ko⟩:=Du.mp<|d.all.mem_iff.mpr hb
   rcases Ak.mp hj with rfl | mN
   ·exact Ko
   ·have:=uU (cl j hj) Ko k;rw [e] at this;exact absurd this<|d.apart.2 j mN a Ad
 rcases Ak.mp hm with h | h
 ·exact absurd h ne
 ·exact h
theorem Wi(p:dF n m g e1 e2 z)(T:aj n)(T':aj m)(hl:m.length=n.length){k1 k2:End}(h1:k1∈ends n)(h2:k2∈ends n)(ne:k2≠k1)(same:(∃ k,it (step n) k k1=k2)\/∃ k,it (step n) k k2=k1)
  (l1:left m e1=g k1) (l2:left m e2=g k2) (lf:∀ e∈ends n,left m (g e)=if left n e=k1 then e1 else if left n e=k2 then e2 else g (left n e)) (P:Pl n):Pl m:=by
 have st:∀ x∈ends n,step m (g x)=if step n x=k1 then e1 else if step n x=k2 then e2 else g (step n x):=λx hx=>by
  unfold step;rw [p.fV T T' hx];exact lf _<|cM T hx
 rcases P with ⟨e,_⟩ | ⟨Ls,d,eu⟩
 ·obtain⟨y,hy⟩:=af.mp h1;have:=dE hy;rw [e] at this;cases this
 ·obtain⟨l,Ms,hL,d⟩:=d.pick h1;have hk:=d.one h2 same ne;obtain⟨Kp,Wj,d',_⟩:=d.split (f':=step m) (g:=g) hk (e1:=e1) (e2:=e2) (by unfold step;rw [p.o1 T'];exact l2) (by unfold step;rw [p.o2 T'];exact l1)
   (λx hx e=>by rw [st x hx,BP e]) (λx hx e=>by rw [st x hx,BL (by rw [e];exact ne),BP e]) (λx hx a b=>by rw [st x hx,BL a,BL b]) p.nd
  refine .inr ⟨Kp,d'.perm p.perm,?_⟩;have:=p.len;omega
theorem Wk(p:dF n m g e1 e2 z)(T:aj n)(T':aj m)(hl:m.length=n.length){c:End}(h1:c∈ends n)
  (l1:left m e1=g c) (l2:left m e2=e1) (lf:∀ e∈ends n,left m (g e)=if left n e=c then e2 else g (left n e)) (P:Pl n):Pl m:=by
 have st:∀ x∈ends n,step m (g x)=if step n x=c then e2 else g (step n x):=λx hx=>by
  unfold step;rw [p.fV T T' hx];exact lf _<|cM T hx
 rcases P with ⟨e,_⟩ | ⟨Ls,d,eu⟩
 ·obtain⟨y,hy⟩:=af.mp h1;have:=dE hy;rw [e] at this;cases this
 ·obtain⟨l,Ms,hL,d⟩:=d.pick h1;have nd:=p.nd;have qQ:((ends n).map g++[e2]++[e1]).Nodup:=by
   rw [Ar];exact((List.Perm.swap e1 e2 []).append_left _).nodup_iff.mpr nd
  have d1:=d.grow (f':=step m) (g:=g) (new:=[e2]) (h:=e2) ⟨rfl,by unfold step;rw [p.o2 T'];exact l1⟩ (λx hx e=>by rw [st x hx,BP e]) (λx hx e=>by rw [st x hx,BL e]) (Bv.mp qQ).1;have d2:=d1.more (b:=e1) (by unfold step;rw [p.o1 T'];exact l2) qQ;have pm:((ends n).map g++[e2]++[e1]).Perm (ends m):=by
   refine List.Perm.trans ?_ p.perm;rw [Ar];exact(List.Perm.swap e1 e2 []).append_left _
  refine .inr ⟨_,d2.perm pm,?_⟩;have:=p.len;simp only [Ag,Au,Ab,Fh];omega
theorem Wl(p:dF n m g e1 e2 z)(T:aj n)(T':aj m)(hl:m.length=n.length+1){c:End}(h1:c∈ends n)
  (l1:left m e1=g c) (l2:left m e2=e2) (lf:∀ e∈ends n,left m (g e)=if left n e=c then e1 else g (left n e)) (P:Pl n):Pl m:=by
 have st:∀ x∈ends n,step m (g x)=if step n x=c then e1 else g (step n x):=λx hx=>by
  unfold step;rw [p.fV T T' hx];exact lf _<|cM T hx
 rcases P with ⟨e,_⟩ | ⟨Ls,d,eu⟩
 ·obtain⟨y,hy⟩:=af.mp h1;have:=dE hy;rw [e] at this;cases this
 ·obtain⟨l,Ms,hL,d⟩:=d.pick h1;have s1:step m e1=e2:=by unfold step;rw [p.o1 T'];exact l2
  have s2:step m e2=g c:=by unfold step;rw [p.o2 T'];exact l1
  have d1:=d.grow (f':=step m) (g:=g) (new:=[e1,e2]) (h:=e1) ⟨rfl,by rw [s1];exact⟨rfl,s2⟩⟩ (λx hx e=>by rw [st x hx,BP e]) (λx hx e=>by rw [st x hx,BL e]) p.nd;refine .inr ⟨_,d1.perm p.perm,?_⟩;have:=p.len;simp only [Au,Ab];omega
end
theorem dZ{n:Net}{e:End}(h:e∈ends n):e.1 < n.length/\e.2 < (row n e.1).length:=by
 obtain⟨z,hz⟩:=af.mp h;exact⟨b6 hz,fY hz⟩
section
variable{n:Net}{z:Str}
theorem Kq{k1 k2:End}(h1:k1.1 < n.length/\k1.2<=(row n k1.1).length)(h2:k2.1 < n.length/\k2.2<=(row n k2.1).length):dF n (ins (ins n k1 z) k2 z) (λe=>sh k2<|sh k1 e) (sh k2 k1) k2 z:=by
 have c2:k2.1 < (ins n k1 z).length:=by rw [fO];exact h2.1
 have p2:k2.2<=(row (ins n k1 z) k2.1).length:=by
  rw [oW h1.1 h1.2]
  split
  ·have:=h2.2;omega
  ·exact h2.2
 refine⟨λe _=>?_,?_,zL c2 p2,λa b h=>lD<|lD h,λa _ h=>lE k1 a<|lD h,λa _=>lE k2 _,lE k2 k1,?_⟩
 ·show aF _ (sh k2<|sh k1 e)=_;rw [oX c2 p2,oX h1.1 h1.2]
 ·rw [oX c2 p2];exact zL h1.1 h1.2
 ·rw [(jK _ k2 z c2).length_eq,Au,(jK _ k1 z h1.1).length_eq,Au]
theorem Wm{k1 k2:End}(T:aj n)(T':aj<|ins (ins n k1 z) k2 z)(h1:k1∈ends n)(h2:k2∈ends n)(ord:k2=k1\/sh k1 k2=k2)(same:(∃ k,it (step n) k k1=k2)\/∃ k,it (step n) k k2=k1)(P:Pl n):Pl (ins (ins n k1 z) k2 z):=by
 have r1:=dZ h1;have r2:=dZ h2;have p:=Kq (z:=z) (k1:=k1) (k2:=k2) ⟨r1.1,Ch r1.2⟩ ⟨r2.1,Ch r2.2⟩;have c2:k2.1 < (ins n k1 z).length:=by rw [fO];exact r2.1
 have rl:∀ i,(row n i).length<=(row (ins n k1 z) i).length:=λi=>by
  rw [oW r1.1<|Ch r1.2]
  split <;> omega
 have p2:k2.2 < (row (ins n k1 z) k2.1).length:=Bc r2.2<|rl _;have p1:k1.2 < (row (ins n k1 z) k1.1).length:=Bc r1.2<|rl _;have hl:(ins (ins n k1 z) k2 z).length=n.length:=by rw [fO,fO]
 have sl:∀ e∈ends n,(sh k1 e).2 < (row (ins n k1 z) (sh k1 e).1).length:=λe he=>by
  obtain⟨y,hy⟩:=af.mp he;exact fY (z:=y)<|by rw [oX r1.1<|Ch r1.2];exact hy
 have l0:left (ins n k1 z) k1=sh k1 k1:=lF r1.1 r1.2
 by_cases e:k2=k1
 ·subst e;refine Wk p T T' hl h1 ?_ (lF c2 p2) (λe he=>?_) P
  ·rw [gH c2 p2 p1,l0,BL<|lE _ _]
  ·show left _ (sh k2<|sh k2 e)=_;rw [gH c2 p2<|sl e he,gH r1.1 r1.2 (dZ he).2]
   by_cases q:left n e=k2
   ·rw [BP q,BP rfl,BP q]
   ·rw [BL q,BL<|lE _ _,BL q]
 ·have hs:sh k1 k2=k2:=ord.resolve_left e;refine Wi p T T' hl h1 h2 e same ?_ ?_ (λe' he=>?_) P
  ·rw [gH c2 p2 p1,l0,BL λq=>e<|lD (c:=k1)<|by rw [hs,q]]
  ·show left _ k2=sh k2 (sh k1 k2);rw [hs];exact lF c2 p2
  ·show left _ (sh k2<|sh k1 e')=if left n e'=k1 then sh k2 k1 else if left n e'=k2 then k2 else sh k2 (sh k1<|left n e');rw [gH c2 p2<|sl e' he,gH r1.1 r1.2 (dZ he).2]
   by_cases q:left n e'=k1
   ·rw [BP q,BP q,BL λx=>e x.symm]
   ·rw [BL q,BL q]
    by_cases q2:left n e'=k2
    ·rw [BP q2,q2,hs,BP rfl]
    ·rw [BL q2,BL λx=>q2<|lD (c:=k1)<|by rw [x,hs]]
theorem lG{a b:Net}{i:Nat}(h:i < a.length):row (a++b) i=row a i:=by
 unfold row;rw [Aq h]
theorem uV{a:Net}{x:Str×List Str}:row (a++[x]) a.length=x.2:=by
 unfold row;rw [Ay<|Am _];simp
theorem Kr{c:End}{pt:Str}(h1:c.1 < n.length/\c.2<=(row n c.1).length):dF n (ins n c z++[(pt,[z])]) (sh c) c (n.length,0) z:=by
 have la:∀ e:End,e.1 < n.length->aF (ins n c z++[(pt,[z])]) e=aF (ins n c z) e:=λe he=>by
  unfold aF;rw [lG<|by rw [fO];exact he]
 refine⟨λe he=>?_,?_,?_,λa b h=>lD h,λa _=>lE c a,λa ha h=>?_,λh=>?_,?_⟩
 ·rw [la _ (by rw [kq];exact(dZ he).1),oX h1.1 h1.2]
 ·rw [la _ h1.1,zL h1.1 h1.2]
 ·unfold aF;have:=uV (a:=ins n c z) (x:=(pt,[z]));rw [fO] at this;show(row _ n.length)[0]?=_;rw [this];rfl
 ·have:=(dZ ha).1;rw [<- kq c a,h] at this;exact absurd this<|Dl _
 ·have:=h1.1;rw [h] at this;exact absurd this<|Dl _
 ·unfold ag;rw [Ez,Ag];have:=(jK _ c z h1.1).length_eq;unfold ag at this;rw [this];rfl
theorem Wn{c:End}{pt:Str}(T:aj n)(T':aj<|ins n c z++[(pt,[z])])(h1:c∈ends n)(P:Pl n):Pl (ins n c z++[(pt,[z])]):=by
 have r1:=dZ h1;have p:=Kr (z:=z) (c:=c) (pt:=pt) ⟨r1.1,Ch r1.2⟩;have la:∀ e:End,e.1 < n.length->left (ins n c z++[(pt,[z])]) e=left (ins n c z) e:=λe he=>by
  unfold left;rw [lG<|by rw [fO];exact he]
 refine Wl p T T' (by rw [Ag,fO];rfl) h1 ?_ ?_ (λe he=>?_) P
 ·rw [la _ r1.1];exact lF r1.1 r1.2
 ·unfold left;have:=uV (a:=ins n c z) (x:=(pt,[z]));rw [fO] at this;show(n.length,(0+1) % (row _ n.length).length)=_;rw [this];exact BZ (Prod.mk _)<|Ee 1
 ·rw [la _<|by rw [kq];exact(dZ he).1];exact gH r1.1 r1.2 (dZ he).2
end
theorem Ks{m:Net}{z:Str}{e1 e2:End}(T':aj m)(hE:ends m=[e1,e2])(t1:aF m e1=some z)(t2:aF m e2=some z)(ne:e1≠e2)
  (h:(m.length=2/\left m e1=e1/\left m e2=e2)\/(m.length=1/\left m e1=e2/\left m e2=e1)):Pl m:=by
 have o1:=jd T' t1 t2 ne;have o2:=jd T' t2 t1 ne.symm;have hl:(ag m).length=2:=by rw [<- f7,hE];rfl
 have nd:[e1,e2].Nodup:=by simp [ne]
 rcases h with ⟨hm,l1,l2⟩ | ⟨hm,l1,l2⟩
 ·refine .inr ⟨[[e1,e2]],?_,by rw [hm,hl];rfl⟩;rw [hE];refine⟨λl hl=>?_,List.Perm.refl _,nd⟩;rw [Ah] at hl;subst hl;refine⟨e1,Ad,rfl,?_⟩;unfold step;rw [o1,l2];exact⟨rfl,by show left m (other m e2)=e1;rw [o2,l1]⟩
 ·refine .inr ⟨[[e1],[e2]],?_,by rw [hm,hl];rfl⟩;rw [hE];refine⟨λl hl=>?_,List.Perm.refl _,nd⟩;simp only [Ak,Cm,HN] at hl
  rcases hl with rfl | rfl
  ·exact⟨e1,Ad,rfl,by show left m (other m e1)=e1;rw [o1,l2]⟩
  ·exact⟨e2,Ad,rfl,by show left m (other m e2)=e2;rw [o2,l1]⟩
theorem Wo{nm pt z:Str}(T':aj [(nm,[z]),(pt,[z])]):Pl [(nm,[z]),(pt,[z])]:=
 Ks (e1:=(0,0)) (e2:=(1,0)) (z:=z) T' rfl rfl rfl (by decide) (.inl ⟨rfl,by simp [left,row],by simp [left,row]⟩)
theorem Wp{nm z:Str}(T':aj [(nm,[z,z])]):Pl [(nm,[z,z])]:=
 Ks (e1:=(0,0)) (e2:=(0,1)) (z:=z) T' rfl rfl rfl (by decide) (.inr ⟨rfl,by simp [left,row],by simp [left,row]⟩)
theorem Wq{n m:Net}{g:End->End}(T:aj n)(T':aj m)(hl:m.length=n.length)(ht:(ag m).length=(ag n).length)(cE:∀ e∈ends n,aF m (g e)=aF n e)(inj:∀ a∈ends n,∀ b∈ends n,g a=g b->a=b)
  (lf:∀ e∈ends n,left m (g e)=g (left n e)) (P:Pl n):Pl m:=by
 rcases P with ⟨e,h⟩ | ⟨Ls,d,eu⟩
 ·exact .inl ⟨Bi.mp (by rw [ht,e];rfl),by rw [hl,h]⟩
 ·have nd:((ends n).map g).Nodup:=by
   have:∀(l:List End),(∀ x∈l,x∈ends n)->l.Nodup->(l.map g).Nodup:=by
    intro l
    induction l with
    | nil=>intro _ _;exact Cj
    | cons x l ih=>
     intro hs h;have h:=Bg.mp h;rw [Bj];refine Bg.mpr ⟨λhx=>?_,ih (λy hy=>hs y<|Ae _ hy) h.2⟩;obtain⟨y,hy,e⟩:=Aj.mp hx;have:=inj y (hs y<|Ae _ hy) x (hs x Ad) e;exact h.1<|this ▸ hy
   exact this _ (λx hx=>hx)<|lz n
  have pm:((ends n).map g).Perm (ends m):=by
   refine nA nd (λa ha=>?_) (by rw [Ab,f7,f7,ht];exact Am _);obtain⟨x,hx,rfl⟩:=Aj.mp ha;obtain⟨y,hy⟩:=af.mp hx;exact af.mpr ⟨y,by rw [cE x hx];exact hy⟩
  refine .inr ⟨_,d.carry (f':=step m) (g:=g) (λx hx=>?_) pm<|lz m,by rw [Ab,hl,ht];exact eu⟩;obtain⟨y,hy⟩:=af.mp hx;obtain⟨h1,_,h3⟩:=cf T hy;have ho:other n x∈ends n:=af.mpr ⟨y,h1⟩;have:other m (g x)=g (other n x):=jd T' (by rw [cE x hx];exact hy) (by rw [cE _ ho];exact h1) λh=>h3 (inj _ hx _ ho h).symm;unfold step;rw [this];exact lf _ ho
def lH(i len q:Nat):Nat:=if i<=q then q - i else q+len - i
def dz(N j i len:Nat)(e:End):End:=if e.1 < j then e else if e.1=j then(N - 1,lH i len e.2) else(e.1 - 1,e.2)
theorem Kt{a:Net}{j:Nat}{x:Str×List Str}(hj:j < a.length)(r:Nat)(hr:r < a.length):row (a.eraseIdx j++[x]) (if r < j then r else if r=j then a.length - 1 else r - 1)=if r=j then x.2 else row a r:=by
 have le:(a.eraseIdx j).length=a.length - 1:=by rw [Cp,BP hj]
 by_cases h1:r < j
 ·rw [BP h1,BL (by omega),lG<|by rw [le];omega];unfold row;rw [Gh,BP h1]
 ·rw [BL h1]
  by_cases h2:r=j
  ·rw [BP h2,BP h2,<- le,uV]
  ·rw [BL h2,BL h2,lG<|by rw [le];omega];unfold row;rw [Gh,BL (by omega),show r - 1+1=r by omega]
theorem Wr{i len q:Nat}(hi:i < len)(hq:q < len):(lH i len q+1) % len=lH i len ((q+1) % len):=by
 unfold lH
 by_cases k:q+1 < len
 ·rw [Bx k]
  by_cases h:i<=q
  ·rw [BP h,BP (by omega),Bx<|by omega];omega
  ·rw [BL h]
   by_cases h2:q+1=i
   ·rw [BP (by omega),show q+len - i+1=len by omega,Ee];omega
   ·rw [BL (by omega),Bx<|by omega];omega
 ·have e:q+1=len:=by omega
  rw [e,Ee,BP<|by omega]
  by_cases h:i=0
  ·rw [BP (by omega),show q - i+1=len by omega,Ee];omega
  ·rw [BL (by omega),Bx<|by omega];omega
theorem Ws{l:List Str}{i q:Nat}(hi:i < l.length)(hq:q < l.length):(l.drop i++l.take i)[lH i l.length q]?=l[q]?:=by
 unfold lH
 by_cases h:i<=q
 ·rw [BP h,Aq (by rw [Co];omega),Fz,show i+(q - i)=q by omega]
 ·rw [BL h,Ay (by rw [Co];omega),Co,Dv (by omega),show q+l.length - i - (l.length - i)=q by omega]
theorem Ku{a:Net}{j i:Nat}{x:Str}(hj:j < a.length)(hi:i < max 1 (row a j).length):∃ g:End->End,(∀ e∈ends a,aF (a.eraseIdx j++[(x,(row a j).drop i++(row a j).take i)]) (g e)=aF a e)/\(∀ b∈ends a,∀ c∈ends a,g b=g c->b=c) /\
  ∀ e∈ends a,left (a.eraseIdx j++[(x,(row a j).drop i++(row a j).take i)]) (g e)=g (left a e):=by
 have fst:∀ e:End,(dz a.length j i (row a j).length e).1=if e.1 < j then e.1 else if e.1=j then a.length - 1 else e.1 - 1:=λe=>by
  unfold dz
  by_cases h:e.1 < j
  ·rw [BP h,BP h]
  ·rw [BL h,BL h]
   by_cases h2:e.1=j
   ·rw [BP h2,BP h2]
   ·rw [BL h2,BL h2]
 have snd:∀ e:End,(dz a.length j i (row a j).length e).2=if e.1=j then lH i (row a j).length e.2 else e.2:=λe=>by
  unfold dz
  by_cases h:e.1 < j
  ·rw [BP h,BL<|by omega]
  ·rw [BL h]
   by_cases h2:e.1=j
   ·rw [BP h2,BP h2]
   ·rw [BL h2,BL h2]
 have Kv:∀ e:End,e.1 < a.length->row (a.eraseIdx j++[(x,(row a j).drop i++(row a j).take i)]) (dz a.length j i (row a j).length e).1=if e.1=j then(row a j).drop i++(row a j).take i else row a e.1:=λe he=>by
  rw [fst,Kt hj e.1 he]
 refine⟨dz a.length j i (row a j).length,λe he=>?_,λb hb c hc h=>?_,λe he=>?_⟩
 ·have r:=dZ he;unfold aF;rw [Kv e r.1,snd]
  by_cases h:e.1=j
  ·rw [BP h,BP h,<- h,Ws (by have:=hi;rw [<- h] at this;omega) r.2]
  ·rw [BL h,BL h]
 ·have rb:=dZ hb;have rc:=dZ hc;have h1:=BZ Prod.fst h;have h2:=BZ Prod.snd h;rw [fst,fst] at h1;rw [snd,snd] at h2
  by_cases p:b.1=j
  ·by_cases q:c.1=j
   ·rw [BP p,BP q] at h2;refine HJ (by rw [p,q]) ?_;have rb:=rb.2;have rc:=rc.2;rw [p] at rb;rw [q] at rc;unfold lH at h2
    by_cases u:i<=b.2
    ·rw [BP u] at h2
     by_cases v:i<=c.2
     ·rw [BP v] at h2;omega
     ·rw [BL v] at h2;omega
    ·rw [BL u] at h2
     by_cases v:i<=c.2
     ·rw [BP v] at h2;omega
     ·rw [BL v] at h2;omega
   ·exfalso
    rw [BL (by omega),BP p] at h1;have:=rc.1
    by_cases u:c.1 < j
    ·rw [BP u] at h1;omega
    ·rw [BL u,BL q] at h1;omega
  ·by_cases q:c.1=j
   ·exfalso
    have:=rb.1;rw [BL (show ¬ c.1 < j by omega),BP q] at h1
    by_cases u:b.1 < j
    ·rw [BP u] at h1;omega
    ·rw [BL u,BL p] at h1;omega
   ·rw [BL p,BL q] at h2;refine HJ ?_ h2;rw [BL p,BL q] at h1
    by_cases u:b.1 < j
    ·rw [BP u] at h1
     by_cases v:c.1 < j
     ·rw [BP v] at h1;exact h1
     ·rw [BL v] at h1;omega
    ·rw [BL u] at h1
     by_cases v:c.1 < j
     ·rw [BP v] at h1;omega
     ·rw [BL v] at h1;omega
 ·have r:=dZ he;have L1:(left a e).1=e.1:=rfl;have L2:(left a e).2=(e.2+1) % (row a e.1).length:=rfl;refine HJ ?_ ?_
  ·show(dz a.length j i (row a j).length e).1=(dz a.length j i (row a j).length<|left a e).1;rw [fst,fst,L1]
  ·show((dz a.length j i (row a j).length e).2+1) % (row _ (dz a.length j i (row a j).length e).1).length=(dz a.length j i (row a j).length<|left a e).2;rw [Kv e r.1,snd,snd,L1,L2]
   by_cases h:e.1=j
   ·rw [BP h,BP h,BP h,Ag,Co,Br];have r2:=r.2;rw [h] at r2 ⊢;rw [show(row a j).length - i+min i (row a j).length=(row a j).length by omega];exact Wr (by omega) r2
   ·rw [BL h,BL h,BL h]
theorem Wt{a:Net}{j i:Nat}{x:Str}(hj:j < a.length)(hi:i < max 1 (row a j).length)(T:aj a) (T':aj<|a.eraseIdx j++[(x,(row a j).drop i++(row a j).take i)])
  (ht:(ag<|a.eraseIdx j++[(x,(row a j).drop i++(row a j).take i)]).length=(ag a).length) (P:Pl a):Pl (a.eraseIdx j++[(x,(row a j).drop i++(row a j).take i)]):=by
 obtain⟨g,h1,h2,h3⟩:=Ku (x:=x) hj hi;exact Wq (g:=g) T T' (by rw [Ag,Cp,BP hj,Dr];omega) ht h1 h2 h3 P
theorem Kw{α:Type}(f:α->α)(a:α):∀ k,it f k (f a)=it f (k+1) a
 | 0=>rfl
 | k+1=>by show f (it f k<|f a)=f (it f (k+1) a);rw [Kw f a k]
theorem uW{α:Type}{f:α->α}:∀{l:List α} {a b x:α},dY f l a b->x∈l->∃ k,it f k a=x
 | y :: l,a,b,x,h,hx=>by
  rcases Ak.mp hx with rfl | hx
  ·exact⟨0,h.1.symm⟩
  ·obtain⟨k,e⟩:=uW h.2 hx;refine⟨k+1,?_⟩;rw [<- Kw,<- h.1];exact e
theorem Dec.unique{α:Type} [DecidableEq α] {f:α->α}:∀{Ls Ms:List (List α)} {D:List α},Dec f D Ls->Dec f D Ms->Ls.length=Ms.length
 | [],Ms,D,d,d'=>by
  have e:D=[]:=List.Perm.eq_nil d.all.symm;subst e;cases Ms with
  | nil=>rfl
  | cons m Ms=>
   obtain⟨a,ha,_⟩:=d'.fD m Ad;have:=d'.sub Ad ha;cases this
 | l :: Ls,Ms,D,d,d'=>by
  obtain⟨c,hc,p⟩:=d.fD l Ad;obtain⟨l',Kx,hL,uX⟩:=d'.pick<|d.sub Ad hc;obtain⟨c',bI,p'⟩:=uX.fD _ Ad;have e:c=c':=p'.1;subst e;have s1:∀ x∈l,x∈c :: l':=λx hx=>by
   obtain⟨k,rfl⟩:=uW p hx;exact uU (λy hy=>oV p' bI hy) bI k
  have s2:∀ x∈c :: l',x∈l:=λx hx=>by
   obtain⟨k,rfl⟩:=uW p' hx;exact uU (λy hy=>oV p hc hy) hc k
  have pm:l.Perm (c :: l'):=nA d.apart.1 s1<|aU uX.apart.1 s2;have q:Ls.flatten.Perm Kx.flatten:=by
   have h1:=d.all.trans uX.all.symm;rw [Cg,Cg] at h1;exact(List.perm_append_left_iff l).mp<|h1.trans<|pm.symm.append_right _
  have nd:=d.all.nodup_iff.mpr d.nd;rw [Cg,Bv] at nd;have:=Dec.unique (Ls:=Ls) (Ms:=Kx) (D:=Ls.flatten) ⟨λk hk=>d.fD k<|Ae _ hk,List.Perm.refl _,nd.2.1⟩ ⟨λk hk=>uX.fD k<|Ae _ hk,q.symm,nd.2.1⟩;rw [Au,this,hL]
theorem Ky(n:Net)(e:End):∀ k,dY (step n) (fl n e k) e<|it (step n) k e
 | 0=>rfl
 | k+1=>by
  rw [V8];exact bA.mpr ⟨_,Ky n e k,rfl,rfl⟩
theorem qR{n:Net}(T:aj n){e:End}(h:e∈ends n):e∈face n e/\dY (step n) (face n e) e e:=by
 have f:=nw T h;have h0:=f.at' 0 f.pos;refine⟨Ap h0,?_⟩;have:=Ky n e<|gZ n e;have e2:face n e=fl n e (gZ n e):=rfl;have hl:(face n e).length=gZ n e:=by rw [e2,oT]
 rw [<- hl,f.back,hl] at this;exact this
theorem Wu{n:Net}(T:aj n){e:End}(h:e∈ends n):∀ i j,it (step n) i e=it (step n) (i+j) e->it (step n) j e=e:=by
 have hf:∀ a∈ends n,step n a∈ends n:=λa ha=>jI T ha;intro i
 induction i with
 | zero=>intro j e;rw [Ec] at e;exact e.symm
 | succ i ih=>
  intro j e;refine ih j ?_;rw [show i+1+j=(i+j)+1 by omega] at e;exact ud T (gB hf h i) (gB hf h<|i+j) e
theorem Wv{n:Net}(T:aj n){e:End}(h:e∈ends n):(face n e).Nodup:=by
 have f:=nw T h;unfold List.Nodup;rw [Be];intro i j hi hj dv q;have a:=f.at' i hi;have b:=f.at' j hj;rw [Aa hi] at a;rw [Aa hj] at b;have a:=Option.some.inj a;have b:=Option.some.inj b;rw [q,b] at a;refine f.first (j - i) (by omega) (by omega) (Wu T h i (j - i) ?_);rw [show i+(j - i)=j by omega];exact a.symm
def lx(a b:End):Prop:=a.1 < b.1\/(a.1=b.1/\a.2 < b.2)
theorem Kz(r:Nat):∀(ts:List Str) (p:Nat),((bo r ts p).map (·.2)).Pairwise lx
 | [],p=>List.Pairwise.nil
 | t :: ts,p=>by
  show(((r,p):End) :: (bo r ts<|p+1).map (·.2)).Pairwise lx;refine List.Pairwise.cons (λb hb=>?_)<|Kz r ts<|p+1;obtain⟨⟨z,e⟩,hx,rfl⟩:=Aj.mp hb;obtain⟨h1,h2,_⟩:=aW.mp hx;exact .inr ⟨h1.symm,by show p < e.2;omega⟩
theorem KA:∀(n:Net) (k:Nat),((dQ k n).map (·.2)).Pairwise lx
 | [],k=>List.Pairwise.nil
 | a :: n,k=>by
  unfold dQ;rw [Al,Gu];refine⟨Kz k a.2 0,KA n<|k+1,λx hx y hy=>?_⟩;obtain⟨⟨z,e⟩,h1,rfl⟩:=Aj.mp hx;obtain⟨⟨z',e'⟩,h2,rfl⟩:=Aj.mp hy;have q1:=(aW.mp h1).1;have q2:=(bj.mp h2).1;exact .inl<|by show e.1 < e'.1;omega
theorem Ww(n:Net):(ends n).Pairwise lx:=KA n 0
theorem KE{a b:End}(h:lx a b):¬ lx b a:=by
 unfold lx at *;omega
def Told(n:Net)(told:List End):Prop:=∀ x∈told,step n x∈told
theorem Wx{n:Net}(T:aj n){told:List End}(hc:Told n told){e:End}(h:e∈ends n)(hn:e∉told):∀ c∈face n e,c∉told:=by
 intro c Wy Wz;obtain⟨he,p⟩:=qR T h;obtain⟨A,B,q⟩:=Fe Wy;rw [q] at p;obtain⟨m,p1,p2⟩:=bA.mp p;have e1:c=m:=p2.1;subst e1;have:∀(l:List End) (a b:End),dY (step n) l a b->a∈told->b∈told:=by
  intro l
  induction l with
  | nil=>intro a b h ha;rw [<- (show a=b from h)];exact ha
  | cons x l ih=>intro a b h ha;exact ih _ _ h.2<|hc _<|h.1 ▸ ha
 exact hn<|this _ _ _ p2 Wz
theorem WB{n:Net}(T:aj n){told:List End}(hc:Told n told){e:End}(h:e∈ends n):Told n (told++face n e):=by
 intro x hx
 rcases An.mp hx with q | q
 ·exact Ax _<|hc x q
 ·obtain⟨he,p⟩:=qR T h;exact Ao _<|oV p he q
structure qS(n:Net)(es told:List End)(Fs:List<|List End):Prop where
 face:∀ w∈Fs,∃ e∈es,w=Nt.face n e/\e∈ends n/\∀ c∈w,¬ lx c e
 cov:∀ e∈es,e∈told\/∃ w∈Fs,e∈w
 nd:Fs.flatten.Nodup
 out:∀ w∈Fs,∀ c∈w,c∉told
 ord:Fs.Pairwise λv w=>∀ a b,v[0]?=some a->w[0]?=some b->lx a b
theorem zM{n:Net}(T:aj n):∀(es told pre:List End),ends n=pre++es->(∀ x∈pre,x∈told)->Told n told->qS n es told (oU n es told)
 | [],told,pre,_,_,_=>by
  unfold oU;exact⟨λw hw=>(nomatch hw),λe he=>(nomatch he),Cj,λw hw=>(nomatch hw),List.Pairwise.nil⟩
 | e :: r,told,pre,hE,hp,hc=>by
  have KG:ends n=(pre++[e])++r:=by rw [hE,Ar];rfl
  have he:e∈ends n:=by rw [hE];exact Ao _ Ad
  have bZ:=Ww n;rw [hE,Gu] at bZ;have aS:=(Cs.mp bZ.2.1).1;unfold oU
  split
  ·rename_i ht;have I:=zM T r told (pre++[e]) KG (λx hx=>by
    rcases An.mp hx with q | q
    ·exact hp x q
    ·rw [Ah] at q;rw [q];exact ht) hc
   exact⟨λw hw=>by obtain⟨a,h1,h2⟩:=I.face w hw;exact⟨a,Ae _ h1,h2⟩,λx hx=>by
    rcases Ak.mp hx with rfl | hx
    ·exact .inl ht
    ·exact I.cov x hx,I.nd,I.out,I.ord⟩
  ·rename_i ht;have fp:=qR T he;have ap:=Wx T hc he ht;have I:=zM T r (told++face n e) (pre++[e]) KG (λx hx=>by
    rcases An.mp hx with q | q
    ·exact Ax _<|hp x q
    ·rw [Ah] at q;rw [q];exact Ao _ fp.1)<|WB T hc he
   refine⟨λw hw=>?_,λx hx=>?_,?_,λw hw c nB=>?_,?_⟩
   ·rcases Ak.mp hw with rfl | hw
    ·refine⟨e,Ad,rfl,he,λc nB q=>?_⟩;have h1:=Kl T he c nB;rw [hE] at h1
     rcases An.mp h1 with h1 | h1
     ·exact ap c nB<|hp c h1
     ·rcases Ak.mp h1 with rfl | h1
      ·exact KE q q
      ·exact KE q<|aS c h1
    ·obtain⟨a,h1,h2⟩:=I.face w hw;exact⟨a,Ae _ h1,h2⟩
   ·rcases Ak.mp hx with rfl | hx
    ·exact .inr ⟨_,Ad,fp.1⟩
    ·rcases I.cov x hx with q | ⟨w,h1,h2⟩
     ·rcases An.mp q with q | q
      ·exact .inl q
      ·exact .inr ⟨_,Ad,q⟩
     ·exact .inr ⟨w,Ae _ h1,h2⟩
   ·rw [Cg,Bv];refine⟨Wv T he,I.nd,λa ha b hb q=>?_⟩;obtain⟨w,hw,WC⟩:=Du.mp hb;exact I.out w hw b WC<|Ao _<|q ▸ ha
   ·rcases Ak.mp hw with rfl | hw
    ·exact ap c nB
    ·exact λq=>I.out w hw c nB<|Ax _ q
   ·refine List.Pairwise.cons (λw hw a b ha hb=>?_) I.ord;obtain⟨e',h1,rfl,h2,_⟩:=I.face w hw;have f1:=(nw T he).at' 0 (nw T he).pos;have f2:=(nw T h2).at' 0 (nw T h2).pos;rw [ha] at f1;rw [hb] at f2;rw [Option.some.inj f1,Option.some.inj f2];exact aS e' h1
theorem KI{n:Net}(T:aj n)(h0:ends n≠[]):qS n (ends n) [] (g5 n):=by
 unfold g5;rw [BL h0];exact zM T (ends n) [] [] rfl (λx hx=>by cases hx) (λx hx=>by cases hx)
theorem KL{n:Net}(T:aj n)(h0:ends n≠[]):Dec (step n) (ends n) (g5 n):=by
 have g:=KI T h0;refine⟨λl hl=>?_,?_,lz n⟩
 ·obtain⟨e,_,rfl,he,_⟩:=g.face l hl;exact⟨e,qR T he⟩
 ·refine nA g.nd (λz hz=>?_)<|aU (lz n) λz hz=>?_
  ·obtain⟨w,hw,WD⟩:=Du.mp hz;obtain⟨e,_,rfl,he,_⟩:=g.face w hw;exact Kl T he z WD
  ·rcases g.cov z hz with q | ⟨w,hw,q⟩
   ·cases q
   ·exact Du.mpr ⟨w,hw,q⟩
theorem WG{n:Net}(T:aj n)(F:Full n)(P:Pl n):2 * (n.length+(g5 n).length)=(ag n).length+4:=by
 rcases P with ⟨e,h⟩ | ⟨Ls,d,eu⟩
 ·have:ends n=[]:=Bi.mp (by rw [f7,e];rfl);unfold g5;rw [BP this,h,e];rfl
 ·by_cases h0:ends n=[]
  ·have t0:(ag n).length=0:=by rw [<- f7,h0];rfl
   have:Ls=[]:=by
    cases Ls with
    | nil=>rfl
    | cons l Ls=>
     obtain⟨a,ha,_⟩:=d.fD l Ad;have:=d.sub Ad ha;rw [h0] at this;cases this
   subst this
   exfalso
   rcases F with ⟨nm,rfl⟩ | ⟨bu,h⟩
   ·rw [t0] at eu;exact absurd (show 2=4 from eu)<|by decide
   ·have hp:=Cn.mpr bu;have hr:=h 0 hp;have:((0,0):End)∈ends n:=af.mpr (qz<|by show 0 < (row n 0).length;exact Cn.mpr hr);rw [h0] at this;cases this
  ·rw [<- Dec.unique d<|KL T h0];exact eu
theorem uY{n m:Net}{z:Str}(hp:(ag m).Perm<|z :: z :: ag n)(T:aj n)(hz:z∉ag n):aj m:=by
 intro y hy;rw [hp.count_eq,Cu,Cu]
 by_cases e:z=y
 ·subst e;rw [List.count_eq_zero.mpr hz];simp
 ·have hy:=hp.mem_iff.mp hy
  rcases Ak.mp hy with h | hy
  ·exact absurd h.symm e
  ·rcases Ak.mp hy with h | hy
   ·exact absurd h.symm e
   ·rw [T y hy];have:(z == y)=false:=by simpa using e
    rw [this];rfl
theorem oY{nm:Str}{c:End}(h:dR [(nm,[])] c):c=(0,0):=by
 obtain⟨h1,h2⟩:=h;have h1:c.1 < 1:=h1;have e:c.1=0:=by omega
 have h2:c.2 < max 1 (row [(nm,[])] c.1).length:=h2;rw [e] at h2;have h2:c.2 < 1:=h2;exact HJ e<|by show c.2=0;omega
theorem uZ{n:Net}(F:Full n):(∃ nm,n=[(nm,[])])\/row n 0≠[]:=by
 rcases F with h | ⟨h1,h2⟩
 ·exact .inl h
 ·exact .inr<|h2 0<|Cn.mpr h1
theorem WH{n:Net}{c:End}{z pt:Str}(T:aj n)(F:Full n)(hz:z∉ag n)(hc:dR n c) (hp:(ag<|ins n c z++[(pt,[z])]).Perm<|z :: z :: ag n) (P:Pl n):Pl (ins n c z++[(pt,[z])]):=by
 have T':=uY hp T hz
 rcases uZ F with ⟨nm,rfl⟩ | h0
 ·have:=oY hc;subst this;exact Wo T'
 ·exact Wn T T' (F.cn h0 hc) P
theorem WK{n:Net}{k1 k2:End}{z:Str}(T:aj n)(F:Full n)(hz:z∉ag n)(h1:dR n k1)(h2:dR n k2) (hp:(ag<|ins (ins n k1 z) k2 z).Perm<|z :: z :: ag n) (ord:k2=k1\/sh k1 k2=k2) (same:(∃ k,it (step n) k k1=k2)\/∃ k,it (step n) k k2=k1) (P:Pl n):Pl (ins (ins n k1 z) k2 z):=by
 have T':=uY hp T hz
 rcases uZ F with ⟨nm,rfl⟩ | h0
 ·have:=oY h1;subst this;have:=oY h2;subst this;exact Wp T'
 ·exact Wm T T' (F.cn h0 h1) (F.cn h0 h2) ord same P
theorem WL{a b:End}(h:bH.lexLt ((a.1:Int),(a.2:Int)) ((b.1:Int),(b.2:Int))=true):sh b a=a:=by
 unfold bH.lexLt at h;unfold sh;refine BL λq=>?_;rw [BP<|by rw [q.1]] at h;have:=BX h;have q2:=q.2;omega
theorem WM{a b:End}(h:bH.lexLt ((a.1:Int),(a.2:Int)) ((b.1:Int),(b.2:Int))=false):b=a\/sh a b=b:=by
 unfold bH.lexLt at h
 by_cases e:(a.1:Int)=(b.1:Int)
 ·rw [BP e] at h;have h:=IW h
  by_cases e2:a.2=b.2
  ·exact .inl<|HJ (by omega) e2.symm
  ·refine .inr<|BL λq=>?_;have q2:=q.2;have h:¬((a.2:Int) < (b.2:Int)):=h;omega
 ·exact .inr<|BL λq=>e<|by rw [q.1]
theorem KO(a b:Net):ag (a++b)=ag a++ag b:=by
 unfold ag;rw [Ez]
theorem WN{n n2 n0:Net}{j i:Nat}{x:Str}(hj:j < n.length)(hi:i < max 1 (row n j).length)(T0:aj n0)(pt:(ag n++ag n2).Perm<|ag n0)
  (fE:(ag (n.eraseIdx j)++ag (n2++[(x,(row n j).drop i++(row n j).take i)])).Perm<|ag n0) (P:Pl<|n++n2):Pl (n.eraseIdx j++(n2++[(x,(row n j).drop i++(row n j).take i)])):=by
 have tw:∀ m:Net,(ag m).Perm (ag n0)->aj m:=λm p y hy=>by rw [p.count_eq];exact T0 y<|p.mem_iff.mp hy
 rw [<- KO] at pt fE;have er:row (n++n2) j=row n j:=lG hj;have ee:n.eraseIdx j++(n2++[(x,(row n j).drop i++(row n j).take i)])=(n++n2).eraseIdx j++[(x,(row (n++n2) j).drop i++(row (n++n2) j).take i)]:=by
  rw [KN hj,Ar,er]
 rw [ee] at fE ⊢;exact Wt (by rw [Ag];omega) (by rw [er];exact hi) (tw _ pt) (tw _ fE) (by rw [fE.length_eq,pt.length_eq]) P
end Nt
namespace Nt
theorem WO{n:Net}{e c:End}{fs:List End}(f:cN n e fs)(h:c∈fs):∃ k,it (step n) k e=c:=by
 obtain⟨i,hi,e1⟩:=Cq.mp h;have:=f.at' i hi;rw [Aa hi,e1] at this;exact⟨i,(Option.some.inj this).symm⟩
open PySem
def ax:List Bool->Bool
 | []=>false
 | b :: l=>b ^^ ax l
theorem ku:∀(a b:List Bool),ax (a++b)=(ax a ^^ ax b)
 | [],b=>by simp [ax]
 | x :: a,b=>by
  show(x ^^ ax (a++b))=((x ^^ ax a) ^^ ax b);rw [ku a b,Bool.xor_assoc]
theorem KP{a b:List Bool}(h:a.Perm b):ax a=ax b:=by
 induction h with
 | nil=>rfl
 | cons x _ ih=>show(x ^^ _)=(x ^^ _);rw [ih]
 | swap x y l=>show(y ^^ (x ^^ ax l))=(x ^^ (y ^^ ax l));cases x <;> cases y <;> simp
 | trans _ _ h1 h2=>exact h1.trans h2
theorem je{α:Type}(f g:α->Bool):∀ l:List α,ax (l.map λx=>f x ^^ g x)=(ax (l.map f) ^^ ax (l.map g))
 | []=>rfl
 | x :: l=>by
  show((f x ^^ g x) ^^ ax (l.map λx=>f x ^^ g x))=((f x ^^ ax (l.map f)) ^^ (g x ^^ ax (l.map g)));rw [je f g l];cases f x <;> cases g x <;> cases ax (l.map f) <;> cases ax (l.map g) <;> rfl
def dG(n:Net)(s:Str->Bool):Prop:=∀ r,ax ((row n r).map s)=false
structure aT(n:Net)(s:Str->Bool)(χ:End->Bool):Prop where
 go:∀ e∈ends n,χ (step n e)=χ e
 cE:∀ e z,aF n e=some z->s z=(χ e ^^ χ (other n e))
def RS(n:Net):Prop:=∀ s:Str->Bool,dG n s->∃ χ,aT n s χ
theorem KS(n:Net)(r:Nat)(s:Str->Bool)(g:End->Bool)(h:∀ p z,(row n r)[p]?=some z->s z=g (r,p)):(row n r).map s=(List.range (row n r).length).map λp=>g (r,p):=by
 apply Dp;intro p;rw [Ai,Ai]
 by_cases hp:p < (row n r).length
 ·rw [Aa hp,Dq hp];exact BZ some<|h p _<|Aa hp
 ·rw [Bb (by omega),Bb<|by simp;omega];rfl
theorem zN(f:Nat->Bool)(m:Nat):ax ((List.range m).map λp=>f<|(p+1) % m)=ax ((List.range m).map f):=by
 cases m with
 | zero=>rfl
 | succ k=>
  have e:(List.range<|k+1).map (λp=>f<|(p+1) % (k+1))=((List.range k).map λp=>f<|p+1)++[f 0]:=by
   rw [Cz,Al]
   congr 1
   ·refine Bu λp hp=>?_;have:=Bm.mp hp;show f ((p+1) % (k+1))=f (p+1);rw [Bx<|by omega]
   ·simp
  rw [e,List.range_succ_eq_map,Bj,Ck,ku];show _=(f 0 ^^ ax ((List.range k).map<|f ∘ Nat.succ));show(ax ((List.range k).map λp=>f<|p+1) ^^ (f 0 ^^ false))=(f 0 ^^ ax ((List.range k).map λp=>f<|p+1));cases f 0 <;> cases ax ((List.range k).map λp=>f<|p+1) <;> rfl
theorem aT.even{n:Net}(T:aj n){s:Str->Bool}{χ:End->Bool}(h:aT n s χ):dG n s:=by
 intro r;rw [KS n r s (λe=>χ e ^^ χ (other n e)) λp z hz=>h.cE (r,p) z hz];rw [je (λp=>χ (r,p)) λp=>χ<|other n (r,p)];have e:((List.range (row n r).length).map λp=>χ<|other n (r,p))=(List.range (row n r).length).map λp=>χ (r,(p+1) % (row n r).length):=by
  refine Bu λp hp=>?_;have hp:=Bm.mp hp;obtain⟨z,hz⟩:=qz (n:=n) (e:=(r,p)) hp;obtain⟨h1,h2,_⟩:=cf T hz;have:=h.go (other n (r,p))<|af.mpr ⟨z,h1⟩;rw [<- this];show χ (left n (other n<|other n (r,p)))=_;rw [h2];rfl
 rw [e,zN λp=>χ (r,p)];cases ax ((List.range (row n r).length).map λp=>χ (r,p)) <;> rfl
theorem aT.xor{n:Net}{s t:Str->Bool}{χ ψ:End->Bool}(h:aT n s χ)(g:aT n t ψ):aT n (λz=>s z ^^ t z) (λe=>χ e ^^ ψ e):=by
 refine⟨λe he=>?_,λe z hz=>?_⟩
 ·rw [h.go e he,g.go e he]
 ·show(s z ^^ t z)=((χ e ^^ ψ e) ^^ (χ (other n e) ^^ ψ (other n e)));rw [h.cE e z hz,g.cE e z hz];cases χ e <;> cases ψ e <;> cases χ (other n e) <;> cases ψ (other n e) <;> rfl
theorem dG.xor{n:Net}{s t:Str->Bool}(h:dG n s)(g:dG n t):dG n (λz=>s z ^^ t z):=λr=>by
 rw [je s t,h r,g r];rfl
section
variable{n m:Net}{g:End->End}{e1 e2:End}{z:Str}
theorem dF.mark(p:dF n m g e1 e2 z)(χ:End->Bool)(a:Bool):∃ χ':End->Bool,(∀ e∈ends n,χ' (g e)=χ e)/\χ' e1=a/\χ' e2=a:=by
 refine⟨λx=>if x=e1 then a else if x=e2 then a else match (ends n).find? (λe=>decide (g e=x)) with | some e=>χ e | none=>false,λe he=>?_,?_,?_⟩
 ·show(if g e=e1 then a else if g e=e2 then a else match (ends n).find? (λe'=>decide (g e'=g e)) with | some e=>χ e | none=>false)=χ e;rw [BL<|p.n1 e he,BL<|p.n2 e he];cases hf:(ends n).find? (λe'=>decide (g e'=g e)) with
  | none=>exact absurd (BW (rfl:g e=g e))<|by simpa using Fx.mp hf e he
  | some e'=>
   have h5:=Gx hf;have h5:g e'=g e:=BX h5;rw [p.inj _ _ h5]
 ·simp
 ·simp
theorem dF.jf(p:dF n m g e1 e2 z)(T:aj n)(T':aj m){s:Str->Bool}{χ:End->Bool}(h:aT n s χ)(hz:s z=false){a:Bool}
  (st:∀ x∈ends n,step m (g x)=g (step n x)\/((step m (g x)=e1\/step m (g x)=e2)/\χ (step n x)=a))
  (s1:step m e1=e1\/step m e1=e2\/∃ k∈ends n,step m e1=g k/\χ k=a) (s2:step m e2=e1\/step m e2=e2\/∃ k∈ends n,step m e2=g k/\χ k=a):∃ χ',aT m s χ':=by
 obtain⟨χ',h1,h2,h3⟩:=p.mark χ a;have jg:∀ x∈ends m,(∃ e∈ends n,x=g e)\/x=e1\/x=e2:=λx hx=>by
  have:=p.perm.mem_iff.mpr hx
  rcases An.mp this with q | q
  ·obtain⟨e,he,rfl⟩:=Aj.mp q;exact .inl ⟨e,he,rfl⟩
  ·simp only [Ak,Cm,HN] at q;exact .inr q
 refine⟨χ',λx hx=>?_,λx y hy=>?_⟩
 ·rcases jg x hx with ⟨e,he,rfl⟩ | rfl | rfl
  ·rw [h1 e he]
   rcases st e he with q | ⟨q,qa⟩
   ·rw [q,h1 _<|jI T he,h.go e he]
   ·rw [h.go e he] at qa
    rcases q with q | q
    ·rw [q,h2,qa]
    ·rw [q,h3,qa]
  ·rcases s1 with q | q | ⟨k,hk,q,qa⟩
   ·rw [q]
   ·rw [q,h2,h3]
   ·rw [q,h1 k hk,h2,qa]
  ·rcases s2 with q | q | ⟨k,hk,q,qa⟩
   ·rw [q,h2,h3]
   ·rw [q]
   ·rw [q,h1 k hk,h3,qa]
 ·rcases jg x (af.mpr ⟨y,hy⟩) with ⟨e,he,rfl⟩ | rfl | rfl
  ·rw [p.cE e he] at hy;obtain⟨o1,_,_⟩:=cf T hy;rw [p.fV T T' he,h1 e he,h1 _<|af.mpr ⟨y,o1⟩];exact h.cE e y hy
  ·rw [p.t1] at hy;cases hy;rw [p.o1 T',h2,h3,hz];cases a <;> rfl
  ·rw [p.t2] at hy;cases hy;rw [p.o2 T',h2,h3,hz];cases a <;> rfl
theorem KU(T':aj m){ψ:End->Bool}(hψ:∀ e∈ends m,ψ (step m e)=ψ e)(t1:aF m e1=some z)(ho:other m e1=e2)(ne:ψ e1≠ψ e2)(h0:∀ s,dG m s->s z=false->∃ χ,aT m s χ):RS m:=by
 intro s hs
 by_cases hz:s z=false
 ·exact h0 s hs hz
 ·have hz:s z=true:=by cases h:s z with | true=>rfl | false=>exact absurd h hz
  let t:Str->Bool:=λy=>match (ends m).find? (λe=>decide (aF m e=some y)) with | some e=>ψ e ^^ ψ (other m e) | none=>false
  have ht:aT m t ψ:=by
   refine⟨hψ,λe y hy=>?_⟩;show(match (ends m).find? (λe=>decide (aF m e=some y)) with | some e=>ψ e ^^ ψ (other m e) | none=>false)=_;cases hf:(ends m).find? (λe=>decide (aF m e=some y)) with
   | none=>exact absurd (BW hy)<|by simpa using Fx.mp hf e (af.mpr ⟨y,hy⟩)
   | some e'=>
    have h5:=Gx hf;have h':aF m e'=some y:=BX h5
    by_cases q:e'=e
    ·rw [q]
    ·have o1:=jd T' h' hy q;have o2:=jd T' hy h'<|CN q;show(ψ e' ^^ ψ (other m e'))=_;rw [o1,o2];cases ψ e <;> cases ψ e' <;> rfl
  have tz:t z=true:=by
   rw [ht.cE e1 z t1,ho];cases h1:ψ e1 <;> cases h2:ψ e2 <;> simp_all
  obtain⟨χ,hχ⟩:=h0 (λy=>s y ^^ t y) (hs.xor<|ht.even T') (by show(s z ^^ t z)=false;rw [hz,tz];rfl);have:=hχ.xor ht;refine⟨λe=>χ e ^^ ψ e,this.go,λe y hy=>?_⟩;rw [<- this.cE e y hy];show s y=((s y ^^ t y) ^^ t y);cases s y <;> cases t y <;> rfl
theorem zO{n:Net}{c:End}{z:Str}(hc:c.1 < n.length){s:Str->Bool}(hz:s z=false)(r:Nat):ax ((row (ins n c z) r).map s)=ax ((row n r).map s):=by
 rw [oO n c z r hc]
 by_cases h:c.1=r
 ·rw [BP h,Al,Bj,ku];show(ax (((row n r).take c.2).map s) ^^ (s z ^^ ax (((row n r).drop c.2).map s)))=_;rw [hz,Gj,<- ku,<- Al,De]
 ·rw [BL h]
theorem Dec.mark{α:Type} [DecidableEq α] {f:α->α} {D:List α} {Ls:List (List α)} (d:Dec f D Ls) {l:List α} (hl:l∈Ls):∀ x∈D,(f x∈l↔x∈l):=by
 intro x hx;obtain⟨A,B,rfl⟩:=Fe hl;have d':Dec f D (l :: (A++B)):=⟨λk hk=>d.fD k (by
  rcases Ak.mp hk with rfl | hk
  ·exact hl
  ·rcases An.mp hk with q | q
   ·exact Ax _ q
   ·exact Ao _<|Ae _ q),by
  refine List.Perm.trans ?_ d.all;rw [Cg,Ft,Ft,Cg,<- Ar,<- Ar];exact(Cf).append_right _,d.nd⟩
 have cl:∀ k∈l :: (A++B),∀ x∈k,f x∈k:=λk hk x hx=>by
  obtain⟨c,hc,p⟩:=d'.fD k hk;exact oV p hc hx
 by_cases h:x∈l
 ·exact⟨λ_=>h,λ_=>cl l Ad x h⟩
 ·refine⟨λq=>?_,λq=>absurd q h⟩
  exfalso
  obtain⟨k,hk,KW⟩:=Du.mp<|d'.all.mem_iff.mpr hx
  rcases Ak.mp hk with rfl | mK
  ·exact h KW
  ·exact d'.apart.2 k mK _ q<|cl k hk x KW
theorem zP{s:Str->Bool}{χ:End->Bool}(T:aj n)(h:aT n s χ){a:End}(ha:a∈ends n):∀ k,χ (it (step n) k a)=χ a
 | 0=>rfl
 | k+1=>by
  show χ (step n<|it (step n) k a)=_;rw [h.go _<|gB (λx hx=>jI T hx) ha k,zP T h ha k]
theorem WQ(p:dF n m g e1 e2 z)(T:aj n)(T':aj m){k1 k2:End}(h1:k1∈ends n)(h2:k2∈ends n)(ne:k2≠k1)(same:(∃ k,it (step n) k k1=k2)\/∃ k,it (step n) k k2=k1)
  (l1:left m e1=g k1) (l2:left m e2=g k2) (lf:∀ e∈ends n,left m (g e)=if left n e=k1 then e1 else if left n e=k2 then e2 else g (left n e))
  {Ls:List (List End)} (d:Dec (step n) (ends n) Ls) (ev:∀ s,dG m s->s z=false->dG n s) (R:RS n):RS m:=by
 have st:∀ x∈ends n,step m (g x)=if step n x=k1 then e1 else if step n x=k2 then e2 else g (step n x):=λx hx=>by
  unfold step;rw [p.fV T T' hx];exact lf _<|cM T hx
 have s1:step m e1=g k2:=by unfold step;rw [p.o1 T'];exact l2
 have s2:step m e2=g k1:=by unfold step;rw [p.o2 T'];exact l1
 obtain⟨l,Ms,hL,d⟩:=d.pick h1;have hk:=d.one h2 same ne;obtain⟨Kp,Wj,d',w,hw,w2,w1⟩:=d.split (f':=step m) (g:=g) hk (e1:=e1) (e2:=e2) s1 s2
  (λx hx e=>by rw [st x hx,BP e]) (λx hx e=>by rw [st x hx,BL (by rw [e];exact ne),BP e]) (λx hx a b=>by rw [st x hx,BL a,BL b]) p.nd
 have dm:=d'.perm p.perm;refine KU T' (ψ:=λx=>decide (x∈w)) (λx hx=>decide_eq_decide.mpr<|dm.mark hw x hx) p.t1 (p.o1 T') (by show decide (e1∈w)≠decide (e2∈w);rw [BR w1,BW w2];decide) λs hs hz=>?_;obtain⟨χ,hχ⟩:=R s<|ev s hs hz;have ek:χ k2=χ k1:=by
  rcases same with ⟨k,e⟩ | ⟨k,e⟩
  ·rw [<- e];exact zP T hχ h1 k
  ·rw [<- e];exact(zP T hχ h2 k).symm
 refine p.jf T T' hχ hz (a:=χ k1) (λx hx=>?_) (.inr<|.inr ⟨k2,h2,s1,ek⟩)<|.inr<|.inr ⟨k1,h1,s2,rfl⟩;rw [st x hx]
 by_cases c1:step n x=k1
 ·rw [BP c1];exact .inr ⟨.inl rfl,by rw [c1]⟩
 ·rw [BL c1]
  by_cases c2:step n x=k2
  ·rw [BP c2];exact .inr ⟨.inr rfl,by rw [c2,ek]⟩
  ·rw [BL c2];exact .inl rfl
theorem WR(p:dF n m g e1 e2 z)(T:aj n)(T':aj m){c:End}(h1:c∈ends n)(l1:left m e1=g c)(l2:left m e2=e1)(lf:∀ e∈ends n,left m (g e)=if left n e=c then e2 else g (left n e))
  (ev:∀ s,dG m s->s z=false->dG n s) (R:RS n):RS m:=by
 have st:∀ x∈ends n,step m (g x)=if step n x=c then e2 else g (step n x):=λx hx=>by
  unfold step;rw [p.fV T T' hx];exact lf _<|cM T hx
 have s1:step m e1=e1:=by unfold step;rw [p.o1 T'];exact l2
 have s2:step m e2=g c:=by unfold step;rw [p.o2 T'];exact l1
 have va:e1∈ends m:=af.mpr ⟨z,p.t1⟩;refine KU T' (ψ:=λx=>decide (x=e1)) (λx hx=>?_) p.t1 (p.o1 T') (by show decide (e1=e1)≠decide (e2=e1);rw [BW rfl,BR p.ne.symm];decide) λs hs hz=>?_
 ·by_cases q:x=e1
  ·rw [q,s1]
  ·show decide (step m x=e1)=decide (x=e1);rw [BR q];exact BR λe=>q<|ud T' hx va<|by rw [e,s1]
 obtain⟨χ,hχ⟩:=R s<|ev s hs hz;refine p.jf T T' hχ hz (a:=χ c) (λx hx=>?_) (.inl s1)<|.inr<|.inr ⟨c,h1,s2,rfl⟩;rw [st x hx]
 by_cases c1:step n x=c
 ·rw [BP c1];exact .inr ⟨.inr rfl,by rw [c1]⟩
 ·rw [BL c1];exact .inl rfl
theorem WT(p:dF n m g e1 e2 z)(T:aj n)(T':aj m){c:End}(h1:c∈ends n)(l1:left m e1=g c)(l2:left m e2=e2)(lf:∀ e∈ends n,left m (g e)=if left n e=c then e1 else g (left n e))
  (hz:∀ s,dG m s->s z=false) (ev:∀ s,dG m s->s z=false->dG n s) (R:RS n):RS m:=by
 have st:∀ x∈ends n,step m (g x)=if step n x=c then e1 else g (step n x):=λx hx=>by
  unfold step;rw [p.fV T T' hx];exact lf _<|cM T hx
 have s1:step m e1=e2:=by unfold step;rw [p.o1 T'];exact l2
 have s2:step m e2=g c:=by unfold step;rw [p.o2 T'];exact l1
 intro s hs;have hz:=hz s hs;obtain⟨χ,hχ⟩:=R s<|ev s hs hz;refine p.jf T T' hχ hz (a:=χ c) (λx hx=>?_) (.inr<|.inl s1)<|.inr<|.inr ⟨c,h1,s2,rfl⟩;rw [st x hx]
 by_cases c1:step n x=c
 ·rw [BP c1];exact .inr ⟨.inl rfl,by rw [c1]⟩
 ·rw [BL c1];exact .inl rfl
end
section
variable{n:Net}{z:Str}
theorem WU{k1 k2:End}(T:aj n)(T':aj<|ins (ins n k1 z) k2 z)(h1:k1∈ends n)(h2:k2∈ends n)(ord:k2=k1\/sh k1 k2=k2)(same:(∃ k,it (step n) k k1=k2)\/∃ k,it (step n) k k2=k1)(P:Pl n)(R:RS n):RS (ins (ins n k1 z) k2 z):=by
 have r1:=dZ h1;have r2:=dZ h2;have p:=Kq (z:=z) (k1:=k1) (k2:=k2) ⟨r1.1,Ch r1.2⟩ ⟨r2.1,Ch r2.2⟩;have c2:k2.1 < (ins n k1 z).length:=by rw [fO];exact r2.1
 have rl:∀ i,(row n i).length<=(row (ins n k1 z) i).length:=λi=>by
  rw [oW r1.1<|Ch r1.2]
  split <;> omega
 have p2:k2.2 < (row (ins n k1 z) k2.1).length:=Bc r2.2<|rl _;have p1:k1.2 < (row (ins n k1 z) k1.1).length:=Bc r1.2<|rl _;have sl:∀ e∈ends n,(sh k1 e).2 < (row (ins n k1 z) (sh k1 e).1).length:=λe he=>by
  obtain⟨y,hy⟩:=af.mp he;exact fY (z:=y)<|by rw [oX r1.1<|Ch r1.2];exact hy
 have l0:left (ins n k1 z) k1=sh k1 k1:=lF r1.1 r1.2;have ev:∀ s,dG (ins (ins n k1 z) k2 z) s->s z=false->dG n s:=λs hs hz r=>by
  rw [<- zO r1.1 hz r,<- zO c2 hz r];exact hs r
 by_cases e:k2=k1
 ·subst e;refine WR p T T' h1 ?_ (lF c2 p2) (λe he=>?_) ev R
  ·rw [gH c2 p2 p1,l0,BL<|lE _ _]
  ·show left _ (sh k2<|sh k2 e)=_;rw [gH c2 p2<|sl e he,gH r1.1 r1.2 (dZ he).2]
   by_cases q:left n e=k2
   ·rw [BP q,BP rfl,BP q]
   ·rw [BL q,BL<|lE _ _,BL q]
 ·have hs:sh k1 k2=k2:=ord.resolve_left e
  rcases P with ⟨t0,_⟩ | ⟨Ls,d,_⟩
  ·obtain⟨y,hy⟩:=af.mp h1;have:=dE hy;rw [t0] at this;cases this
  refine WQ p T T' h1 h2 e same ?_ ?_ (λe' he=>?_) d ev R
  ·rw [gH c2 p2 p1,l0,BL λq=>e<|lD (c:=k1)<|by rw [hs,q]]
  ·show left _ k2=sh k2 (sh k1 k2);rw [hs];exact lF c2 p2
  ·show left _ (sh k2<|sh k1 e')=if left n e'=k1 then sh k2 k1 else if left n e'=k2 then k2 else sh k2 (sh k1<|left n e');rw [gH c2 p2<|sl e' he,gH r1.1 r1.2 (dZ he).2]
   by_cases q:left n e'=k1
   ·rw [BP q,BP q,BL λx=>e x.symm]
   ·rw [BL q,BL q]
    by_cases q2:left n e'=k2
    ·rw [BP q2,q2,hs,BP rfl]
    ·rw [BL q2,BL λx=>q2<|lD (c:=k1)<|by rw [x,hs]]
theorem WV{c:End}{pt:Str}(T:aj n)(T':aj<|ins n c z++[(pt,[z])])(h1:c∈ends n)(R:RS n):RS (ins n c z++[(pt,[z])]):=by
 have r1:=dZ h1;have p:=Kr (z:=z) (c:=c) (pt:=pt) ⟨r1.1,Ch r1.2⟩;have la:∀ e:End,e.1 < n.length->left (ins n c z++[(pt,[z])]) e=left (ins n c z) e:=λe he=>by
  unfold left;rw [lG<|by rw [fO];exact he]
 have jh:=uV (a:=ins n c z) (x:=(pt,[z]));rw [fO] at jh;refine WT p T T' h1 ?_ ?_ (λe he=>?_) (λs hs=>?_) (λs hs hz r=>?_) R
 ·rw [la _ r1.1];exact lF r1.1 r1.2
 ·unfold left;show(n.length,(0+1) % (row _ n.length).length)=_;rw [jh];exact BZ (Prod.mk _)<|Ee 1
 ·rw [la _<|by rw [kq];exact(dZ he).1];exact gH r1.1 r1.2 (dZ he).2
 ·have:=hs n.length;rw [jh] at this;have:(s z ^^ false)=false:=this
  simpa using this
 ·by_cases h:r < n.length
  ·have:=hs r;rw [lG (by rw [fO];exact h),zO r1.1 hz r] at this;exact this
  ·have:row n r=[]:=by
    unfold row;rw [Bb<|by omega];rfl
   rw [this];rfl
end
theorem WW{nm:Str}:RS [(nm,[])]:=λs _=>⟨λ_=>false,λe he=>rfl,λe y hy=>by
 have:=dE hy;cases this⟩
theorem WX{nm pt z:Str}(T':aj [(nm,[z]),(pt,[z])]):RS [(nm,[z]),(pt,[z])]:=λs hs=>⟨λ_=>false,λe he=>rfl,λe y hy=>by
 have h:=dE hy;have:y=z:=by simpa [ag] using h
 rw [this];have:=hs 0;have:(s z ^^ false)=false:=this
 simpa using this⟩
theorem WY{nm z:Str}(T':aj [(nm,[z,z])]):RS [(nm,[z,z])]:=λs _=>by
 have t1:aF [(nm,[z,z])] (0,0)=some z:=rfl;have t2:aF [(nm,[z,z])] (0,1)=some z:=rfl;have o1:=jd T' t1 t2 (by decide);have o2:=jd T' t2 t1 (by decide);have hE:ends [(nm,[z,z])]=[(0,0),(0,1)]:=rfl;refine⟨λe=>decide (e=(0,0)) && s z,λe he=>?_,λe y hy=>?_⟩
 ·rw [hE] at he;simp only [Ak,Cm,HN] at he
  rcases he with rfl | rfl
  ·show(decide (left [(nm,[z,z])] (other [(nm,[z,z])] (0,0))=(0,0)) && s z)=_;rw [o1];simp [left,row]
  ·show(decide (left [(nm,[z,z])] (other [(nm,[z,z])] (0,1))=(0,0)) && s z)=_;rw [o2];simp [left,row]
 ·have h:=dE hy;have e1:y=z:=by simpa [ag] using h
  have he:=af.mpr ⟨y,hy⟩;rw [hE] at he;simp only [Ak,Cm,HN] at he;rw [e1]
  rcases he with rfl | rfl
  ·rw [o1];simp
  ·rw [o2];simp
def Fl(n:Net):Prop:=Pl n/\RS n
theorem WZ{nm:Str}:Fl [(nm,[])]:=⟨.inl ⟨rfl,rfl⟩,WW⟩
theorem W0{n:Net}{c:End}{z pt:Str}(T:aj n)(F:Full n)(hz:z∉ag n)(hc:dR n c) (hp:(ag<|ins n c z++[(pt,[z])]).Perm<|z :: z :: ag n) (P:Fl n):Fl (ins n c z++[(pt,[z])]):=by
 refine⟨WH T F hz hc hp P.1,?_⟩;have T':=uY hp T hz
 rcases uZ F with ⟨nm,rfl⟩ | h0
 ·have:=oY hc;subst this;exact WX T'
 ·exact WV T T' (F.cn h0 hc) P.2
theorem W1{n:Net}{k1 k2:End}{z:Str}(T:aj n)(F:Full n)(hz:z∉ag n)(h1:dR n k1)(h2:dR n k2) (hp:(ag<|ins (ins n k1 z) k2 z).Perm<|z :: z :: ag n) (ord:k2=k1\/sh k1 k2=k2) (same:(∃ k,it (step n) k k1=k2)\/∃ k,it (step n) k k2=k1) (P:Fl n):Fl (ins (ins n k1 z) k2 z):=by
 refine⟨WK T F hz h1 h2 hp ord same P.1,?_⟩;have T':=uY hp T hz
 rcases uZ F with ⟨nm,rfl⟩ | h0
 ·have:=oY h1;subst this;have:=oY h2;subst this;exact WY T'
 ·exact WU T T' (F.cn h0 h1) (F.cn h0 h2) ord same P.1 P.2
theorem W2{n m:Net}{g:End->End}(T:aj n)(T':aj m)(ht:(ag m).length=(ag n).length)(cE:∀ e∈ends n,aF m (g e)=aF n e)(inj:∀ a∈ends n,∀ b∈ends n,g a=g b->a=b)
  (lf:∀ e∈ends n,left m (g e)=g (left n e)) (ev:∀ s,dG m s->dG n s) (R:RS n):RS m:=by
 have qT:∀ x∈ends m,∃ e∈ends n,x=g e:=by
  have nd:((ends n).map g).Nodup:=by
   have:∀(l:List End),(∀ x∈l,x∈ends n)->l.Nodup->(l.map g).Nodup:=by
    intro l
    induction l with
    | nil=>intro _ _;exact Cj
    | cons x l ih=>
     intro hs h;have h:=Bg.mp h;rw [Bj];refine Bg.mpr ⟨λhx=>?_,ih (λy hy=>hs y<|Ae _ hy) h.2⟩;obtain⟨y,hy,e⟩:=Aj.mp hx;have:=inj y (hs y<|Ae _ hy) x (hs x Ad) e;exact h.1<|this ▸ hy
   exact this _ (λx hx=>hx)<|lz n
  have pm:((ends n).map g).Perm (ends m):=by
   refine nA nd (λa ha=>?_) (by rw [Ab,f7,f7,ht];exact Am _);obtain⟨x,hx,rfl⟩:=Aj.mp ha;obtain⟨y,hy⟩:=af.mp hx;exact af.mpr ⟨y,by rw [cE x hx];exact hy⟩
  intro x hx;obtain⟨e,he,q⟩:=Aj.mp<|pm.mem_iff.mpr hx;exact⟨e,he,q.symm⟩
 intro s hs;obtain⟨χ,hχ⟩:=R s<|ev s hs
 let χ':End->Bool:=λx=>match (ends n).find? (λe=>decide (g e=x)) with | some e=>χ e | none=>false
 have h1:∀ e∈ends n,χ' (g e)=χ e:=λe he=>by
  show(match (ends n).find? (λe'=>decide (g e'=g e)) with | some e=>χ e | none=>false)=χ e;cases hf:(ends n).find? (λe'=>decide (g e'=g e)) with
  | none=>exact absurd (BW (rfl:g e=g e))<|by simpa using Fx.mp hf e he
  | some e'=>
   have h5:=Gx hf;have h5:g e'=g e:=BX h5;rw [inj _ (List.mem_of_find?_eq_some hf) _ he h5]
 have fV:∀ e∈ends n,other m (g e)=g (other n e):=λe he=>by
  obtain⟨y,hy⟩:=af.mp he;obtain⟨h1,_,h3⟩:=cf T hy;have ho:other n e∈ends n:=af.mpr ⟨y,h1⟩;exact jd T' (by rw [cE e he];exact hy) (by rw [cE _ ho];exact h1) λh=>h3 (inj _ he _ ho h).symm
 refine⟨χ',λx hx=>?_,λx y hy=>?_⟩
 ·obtain⟨e,he,rfl⟩:=qT x hx;have:step m (g e)=g (step n e):=by
   unfold step;rw [fV e he];exact lf _<|cM T he
  rw [this,h1 _<|jI T he,h1 e he,hχ.go e he]
 ·obtain⟨e,he,rfl⟩:=qT x<|af.mpr ⟨y,hy⟩;rw [cE e he] at hy;rw [fV e he,h1 e he,h1 _<|cM T he];exact hχ.cE e y hy
theorem W3{a:Net}{j i:Nat}{x:Str}(hj:j < a.length)(hi:i < max 1 (row a j).length)(T:aj a) (T':aj<|a.eraseIdx j++[(x,(row a j).drop i++(row a j).take i)])
  (ht:(ag<|a.eraseIdx j++[(x,(row a j).drop i++(row a j).take i)]).length=(ag a).length) (R:RS a):RS (a.eraseIdx j++[(x,(row a j).drop i++(row a j).take i)]):=by
 obtain⟨g,h1,h2,h3⟩:=Ku (x:=x) hj hi;refine W2 T T' ht h1 h2 h3 (λs hs r=>?_) R
 by_cases hr:r < a.length
 ·have:=hs (if r < j then r else if r=j then a.length - 1 else r - 1);rw [Kt hj r hr] at this
  by_cases e:r=j
  ·rw [BP e] at this;rw [<- this,e];refine KP<|List.Perm.map s ?_;show(row a j).Perm ((row a j).drop i++(row a j).take i);refine List.Perm.trans ?_ Cf;rw [De]
  ·rw [BL e] at this;exact this
 ·have:row a r=[]:=by
   unfold row;rw [Bb<|by omega];rfl
  rw [this];rfl
theorem W4{n n2 n0:Net}{j i:Nat}{x:Str}(hj:j < n.length)(hi:i < max 1 (row n j).length)(T0:aj n0)(pt:(ag n++ag n2).Perm<|ag n0)
  (fE:(ag (n.eraseIdx j)++ag (n2++[(x,(row n j).drop i++(row n j).take i)])).Perm<|ag n0) (P:Fl<|n++n2):Fl (n.eraseIdx j++(n2++[(x,(row n j).drop i++(row n j).take i)])):=by
 refine⟨WN hj hi T0 pt fE P.1,?_⟩;have tw:∀ m:Net,(ag m).Perm (ag n0)->aj m:=λm p y hy=>by rw [p.count_eq];exact T0 y<|p.mem_iff.mp hy
 rw [<- KO] at pt fE;have er:row (n++n2) j=row n j:=lG hj;have ee:n.eraseIdx j++(n2++[(x,(row n j).drop i++(row n j).take i)])=(n++n2).eraseIdx j++[(x,(row (n++n2) j).drop i++(row (n++n2) j).take i)]:=by
  rw [KN hj,Ar,er]
 rw [ee] at fE ⊢;exact W3 (by rw [Ag];omega) (by rw [er];exact hi) (tw _ pt) (tw _ fE) (by rw [fE.length_eq,pt.length_eq]) P.2
open L2
def aJ(n:Net)(r:Nat):Str:=((n[r]?).map (·.1)).getD ⟨#[]⟩
theorem jL{n:Net}{r:Nat}(h:r < n.length):aJ n r=n[r].1:=by unfold aJ;rw [Aa h];rfl
abbrev Lk:=Str×Str×Str
def zQ(n:Net)(x:Lk):Prop:=∃ a b,pos n x.1=[a,b]/\x.2.1=aJ n a.1/\x.2.2=aJ n b.1
inductive Way (ls:List<|Str×Str×Bool) (f:Str):Str->Bool->Prop where
 | here:Way ls f f false
 | there {x y:Str} {b o:Bool}:Way ls f x b->(x,y,o)∈ls->Way ls f y (b != o)
 | back {x y:Str} {b o:Bool}:Way ls f x b->(y,x,o)∈ls->Way ls f y (b != o)
def cF(n:Net)(ss:List Str):Bool:=n.all λr=>(r.2.filter λz=>ss.contains z).length % 2 == 0
theorem ix{n:Net}(T:aj n){e x:End}{z:Str}(h:aF n e=some z):aF n x=some z↔x=e\/x=other n e:=by
 obtain⟨o1,o2,o3⟩:=cf T h;refine⟨λhx=>?_,λhx=>?_⟩
 ·obtain⟨a,b,hp,fK,he⟩:=mV T h;have mx:x∈pos n z:=aH.mpr hx;have mo:other n e∈pos n z:=aH.mpr o1;rw [hp] at mx mo;simp only [Ak,Cm,HN] at mx mo
  rcases he with he | he
  ·rcases mx with m | m
   ·exact .inl<|m.trans he.symm
   ·rcases mo with m2 | m2
    ·exact absurd (m2.trans he.symm) o3
    ·exact .inr<|m.trans m2.symm
  ·rcases mx with m | m
   ·rcases mo with m2 | m2
    ·exact .inr<|m.trans m2.symm
    ·exact absurd (m2.trans he.symm) o3
   ·exact .inl<|m.trans he.symm
 ·rcases hx with rfl | rfl
  ·exact h
  ·exact o1
abbrev Bl:=Str×Str×Bool
def W5(ls:List Bl)(x y:Str)(o:Bool):Prop:=(x,y,o)∈ls\/(y,x,o)∈ls
open PyProof.Rows (sortedS)
def b7(n:Net):Prop:=∀ P:Str->Prop,(∃ r∈n,P r.1)->(∀ r∈n,∀ s∈n,∀ t,t∈r.2->t∈s.2->P r.1->P s.1)->∀ r∈n,P r.1
theorem K0{n m:Net}(h1:∀ r∈n,∃ s∈m,s.1=r.1/\∀ t∈r.2,t∈s.2)(h2:∀ s∈m,∃ r∈n,r.1=s.1)(h:b7 n):b7 m:=by
 rintro P ⟨s,hs,ps⟩ cl s' fT;obtain⟨r,hr,er⟩:=h2 s hs;obtain⟨r',kz,W6⟩:=h2 s' fT;rw [<- W6];refine h P ⟨r,hr,by rw [er];exact ps⟩ (λa ha b hb t ta tb pa=>?_) r' kz;obtain⟨a',vb,ea,sa⟩:=h1 a ha;obtain⟨b',jb,eb,sb⟩:=h1 b hb;rw [<- eb];exact cl a' vb b' jb t (sa t ta) (sb t tb)<|by rw [ea];exact pa
theorem W7(r:Str×List Str):b7 [r]:=by
 rintro P ⟨s,hs,ps⟩ _ x hx;rw [Ah] at hs hx;rw [hx,<- hs];exact ps
theorem zR(n:Net)(c:End)(z:Str)(i:Nat):(ins n c z)[i]?=(n[i]?).map λr=>if c.1=i then(r.1,r.2.take c.2++z :: r.2.drop c.2) else r:=by
 unfold ins;rw [Fo]
 by_cases h:c.1=i
 ·simp [h]
 ·simp [h]
theorem zS{n:Net}{c:End}{z:Str}(h:b7 n):b7 (ins n c z):=by
 refine K0 (λr hr=>?_) (λs hs=>?_) h
 ·obtain⟨i,hi⟩:=Bo hr;have e:=zR n c z i;rw [hi] at e;refine⟨_,Ap e,?_,λt ht=>?_⟩
  ·split <;> rfl
  ·split
   ·show t∈r.2.take c.2++z :: r.2.drop c.2;rw [<- De c.2 r.2] at ht
    rcases An.mp ht with q | q
    ·exact Ax _ q
    ·exact Ao _<|Ae _ q
   ·exact ht
 ·obtain⟨i,hi⟩:=Bo hs;rw [zR,Ba] at hi;obtain⟨r,hr,e⟩:=hi;refine⟨r,Ap hr,?_⟩;rw [<- e]
  split <;> rfl
theorem W8{n:Net}{c:End}{z:Str}(hc:c.1 < n.length):∃ r∈ins n c z,z∈r.2:=by
 have e:=zR n c z c.1;rw [Aa hc] at e;refine⟨_,Ap e,?_⟩;show z∈(if c.1=c.1 then((n[c.1].1,n[c.1].2.take c.2++z :: n[c.1].2.drop c.2):Str×List Str) else n[c.1]).2;rw [BP rfl];exact Ao _<|Ad ..
theorem W9{n:Net}{z pt:Str}(h:b7 n)(hz:∃ r∈n,z∈r.2):b7 (n++[(pt,[z])]):=by
 obtain⟨r,hr,zr⟩:=hz;rintro P ⟨s,hs,ps⟩ cl x hx;have mn:((pt,[z]):Str×List Str)∈n++[(pt,[z])]:=Ao _<|Ah.mpr rfl;have ml:∀{y},y∈n->y∈n++[(pt,[z])]:=λhy=>Ax _ hy;have all:∀ y∈n,P y.1:=by
  refine h P ?_ λa ha b hb t ta tb pa=>cl a (ml ha) b (ml hb) t ta tb pa
  rcases An.mp hs with q | q
  ·exact⟨s,q,ps⟩
  ·rw [Ah] at q;subst q;exact⟨r,hr,cl _ mn r (ml hr) z (Ah.mpr rfl) zr ps⟩
 rcases An.mp hx with q | q
 ·exact all x q
 ·rw [Ah] at q;subst q;exact cl r (ml hr) _ mn z zr (Ah.mpr rfl)<|all r hr
def cO(zs:List Str):Prop:=zs.Pairwise λa b=>a.cps.toList < b.cps.toList
theorem vd:∀{zs:List Str},sortedS zs=true->zs.Nodup->cO zs
 | [],_,_=>List.Pairwise.nil
 | z :: r,h,hn=>by
  rw [Bg] at hn;refine List.Pairwise.cons (λx hx=>?_)<|vd (bx.dP h) hn.2;have h1:=bx.du r z h x hx
  rcases Gv.mp h1 with q | q
  ·exact q
  ·exact absurd hx<|by rw [<- bx.eJ q];exact hn.1
theorem nC{zs:List Str}(h:cO zs):zs.Nodup:=h.imp λq e=>by rw [e] at q;exact Gk _ q
theorem qU:∀{a b:List Str},cO a->cO b->(∀ x,x∈a↔x∈b)->a=b
 | [],[],_,_,_=>rfl
 | [],y :: b,_,_,h=>by have:=(h y).mpr<|Ad ..;cases this
 | x :: a,[],_,_,h=>by have:=(h x).mp<|Ad ..;cases this
 | x :: a,y :: b,ha,hb,h=>by
  unfold cO at ha hb;rw [Cs] at ha hb;have W':x=y:=by
   rcases Ak.mp ((h x).mp<|Ad ..) with e | e
   ·exact e
   ·rcases Ak.mp ((h y).mpr<|Ad ..) with e2 | e2
    ·exact e2.symm
    ·exact absurd (Gr (ha.1 y e2)<|hb.1 x e)<|Gk _
  subst W';have nx:∀(l:List Str),(∀ z∈l,x.cps.toList < z.cps.toList)->x∉l:=λl hl hm=>Gk _<|hl x hm;have:a=b:=qU ha.2 hb.2 λz=>by
   constructor
   ·intro hz
    rcases Ak.mp ((h z).mp<|Ae _ hz) with e | e
    ·exact absurd (e ▸ hz)<|nx a ha.1
    ·exact e
   ·intro hz
    rcases Ak.mp ((h z).mpr<|Ae _ hz) with e | e
    ·exact absurd (e ▸ hz)<|nx b hb.1
    ·exact e
  rw [this]
def eX(n:Net)(ps:List Str)(z:Str):Prop:=∃ e,aF n e=some z/\aJ n e.1∈ps/\aJ n (other n e).1∉ps
theorem oZ{n:Net}{ps:List Str}{z:Str}(h:eX n ps z):z∈ag n:=by
 obtain⟨e,he,_⟩:=h;exact dE he
theorem iy{n:Net}(T:aj n){ps:List Str}{z:Str}{e:End}(he:aF n e=some z):eX n ps z↔(decide (aJ n e.1∈ps) != decide (aJ n (other n e).1∈ps))=true:=by
 have o:=cf T he
 constructor
 ·rintro ⟨x,hx,h1,h2⟩
  rcases (ix T he).mp hx with q | q
  ·subst q;simp [h1,h2]
  ·subst q;rw [o.2.1] at h2;simp [h1,h2]
 ·intro h
  by_cases h1:aJ n e.1∈ps
  ·by_cases h2:aJ n (other n e).1∈ps
   ·simp [h1,h2] at h
   ·exact⟨e,he,h1,h2⟩
  ·by_cases h2:aJ n (other n e).1∈ps
   ·exact⟨other n e,o.1,h2,by rw [o.2.1];exact h1⟩
   ·simp [h1,h2] at h
theorem Xa{n:Net}(T:aj n){x:Lk}(h:zQ n x):∃ e,aF n e=some x.1/\x.2.1=aJ n e.1/\x.2.2=aJ n (other n e).1:=by
 obtain⟨a,b,hp,h1,h2⟩:=h;have ha:aF n a=some x.1:=aH.mp (by rw [hp];exact Ad ..);have hb:aF n b=some x.1:=aH.mp (by rw [hp];simp);have nE:=Jt n x.1;rw [hp] at nE;have fK:b≠a:=λq=>by rw [q] at nE;simp at nE
 rcases (ix T ha).mp hb with q | q
 ·exact absurd q fK
 ·exact⟨a,ha,h1,by rw [h2,q]⟩
theorem Xb{n:Net}(T:aj n){ps:List Str}{x:Lk}(h:zQ n x):eX n ps x.1↔(decide (x.2.1∈ps) != decide (x.2.2∈ps))=true:=by
 obtain⟨e,he,h1,h2⟩:=Xa T h;rw [h1,h2];exact iy T he
def bF(n:Net):Str:=aJ n 0
structure bX(n:Net)(ss sd:List Str):Prop where
 bZ:cO sd
 mem:∀ x∈sd,x∈n.map (·.1)
 fst:bF n∉sd
 cut:∀ z,z∈ss↔eX n sd z
structure Tells(n:Net)(ss:List Str)(ls:List Bl):Prop where
 to:∀ e z,aF n e=some z->W5 ls (aJ n e.1) (aJ n (other n e).1) (decide (z∈ss))
 K1:∀ l∈ls,∃ e z,aF n e=some z/\l=(aJ n e.1,aJ n (other n e).1,decide (z∈ss))
theorem Xc{n:Net}(T:aj n){ss sd:List Str}{ls:List Bl}(t:Tells n ss ls)(hc:∀ z,z∈ss↔eX n sd z){f x:Str}{b:Bool}(w:Way ls f x b):decide (x∈sd)=(decide (f∈sd) != b):=by
 have step:∀{x y:Str} {o:Bool},(x,y,o)∈ls->o=(decide (x∈sd) != decide (y∈sd)):=λ{x y o} h=>by
  obtain⟨e,z,he,hl⟩:=t.K1 _ h;have h1:x=aJ n e.1:=BZ (·.1) hl;have h2:y=aJ n (other n e).1:=BZ (·.2.1) hl;have h3:o=decide (z∈ss):=BZ (·.2.2) hl;rw [h1,h2,h3,Cw,CJ,hc z];exact iy T he
 induction w with
 | here=>simp
 | @there x y b o w h ih=>
  rw [step h,ih];cases decide (f∈sd) <;> cases b <;> cases decide (y∈sd) <;> rfl
 | @back x y b o w h ih=>
  rw [step h,ih];cases decide (f∈sd) <;> cases b <;> cases decide (y∈sd) <;> rfl
theorem K2{n:Net}(T:aj n){ss sd:List Str}{ls:List Bl}(t:Tells n ss ls)(h:bX n ss sd){x:Str}{b:Bool}(w:Way ls (bF n) x b):decide (x∈sd)=b:=by
 rw [Xc T t h.cut w,BR h.fst];simp
theorem iz{n:Net}{i:Nat}(h:i < n.length):aJ n i∈n.map (·.1):=by
 rw [jL h];exact Aj.mpr ⟨_,Bn h,rfl⟩
theorem Xd{n:Net}(T:aj n)(h:b7 n)(h0:0 < n.length){ss:List Str}{ls:List Bl}(t:Tells n ss ls):∀ x∈n.map (·.1),∃ b,Way ls (bF n) x b:=by
 intro x hx;obtain⟨r,hr,rfl⟩:=Aj.mp hx;refine h (λx=>∃ b,Way ls (bF n) x b) ⟨n[0],Bn h0,false,?_⟩ (λr hr s hs z zr zs ⟨b,w⟩=>?_) r hr
 ·have:bF n=n[0].1:=jL h0;rw [<- this];exact .here
 ·obtain⟨i,hi,rfl⟩:=Cq.mp hr;obtain⟨j,hj,rfl⟩:=Cq.mp hs;obtain⟨p,hp⟩:=Bo zr;obtain⟨q,hq⟩:=Bo zs;have h1:aF n (i,p)=some z:=by show(row n i)[p]?=_;rw [gX hi];exact hp
  have h2:aF n (j,q)=some z:=by show(row n j)[q]?=_;rw [gX hj];exact hq
  rcases (ix T h1).mp h2 with e | e
  ·have:j=i:=BZ (·.1) e;subst this;exact⟨b,w⟩
  ·have tt:=t.to _ _ h1;rw [<- e] at tt;rw [show aJ n ((i,p):End).1=n[i].1 from jL hi,show aJ n ((j,q):End).1=n[j].1 from jL hj] at tt
   rcases tt with tt | tt
   ·exact⟨_,.there w tt⟩
   ·exact⟨_,.back w tt⟩
theorem Xe{n:Net}(T:aj n)(h:b7 n)(h0:0 < n.length){ss a b:List Str}{ls:List Bl}(t:Tells n ss ls)(ha:bX n ss a)(hb:bX n ss b):a=b:=by
 refine qU ha.bZ hb.bZ λx=>?_;have k:x∈n.map (·.1)->(x∈a↔x∈b):=λhx=>by
  obtain⟨c,w⟩:=Xd T h h0 t x hx;rw [<- CJ (p:=x∈a),K2 T t ha w,<- K2 T t hb w,CJ]
 exact⟨λhx=>(k<|ha.mem x hx).mp hx,λhx=>(k<|hb.mem x hx).mpr hx⟩
noncomputable def dA(n:Net)(ss:List Str):List Bl:=(ends n).map λe=>(aJ n e.1,aJ n (other n e).1,decide ((aF n e).getD ⟨#[]⟩∈ss))
theorem zT{n:Net}{ss:List Str}:Tells n ss (dA n ss):=by
 refine⟨λe z h=> .inl (Aj.mpr ⟨e,af.mpr ⟨z,h⟩,by rw [h];rfl⟩),λl hl=>?_⟩;obtain⟨e,he,q⟩:=Aj.mp hl;obtain⟨z,hz⟩:=af.mp he;exact⟨e,z,hz,by rw [<- q,hz];rfl⟩
theorem qV{n:Net}(T:aj n){e:End}{z:Str}(h:aF n e=some z):(other n e).1 < n.length:=b6 (cf T h).1
theorem Xf{n:Net}(T:aj n){ps qs:List Str}(h:∀ x∈n.map (·.1),x∈qs↔x∉ps)(z:Str):eX n ps z↔eX n qs z:=by
 have k:∀{e:End},aF n e=some z->(eX n ps z↔eX n qs z):=λ{e} he=>by
  rw [iy T he,iy T he];have a1:=h _<|iz<|b6 he;have a2:=h _<|iz<|qV T he
  by_cases h1:aJ n e.1∈ps <;> by_cases h2:aJ n (other n e).1∈ps <;> simp [a1,a2,h1,h2]
 constructor
 ·intro hc;obtain⟨e,he,_⟩:=hc;exact(k he).mp ⟨e,he,by assumption⟩
 ·intro hc;obtain⟨e,he,_⟩:=hc;exact(k he).mpr ⟨e,he,by assumption⟩
open PyProof.Rows (sortedS)
theorem zU{n:Net}(hn:(n.map (·.1)).Nodup){i j:Nat}(hi:i < n.length)(hj:j < n.length)(h:aJ n i=aJ n j):i=j:=by
 rw [jL hi,jL hj] at h;have:=(Bh.mp hn);rw [Be] at this
 rcases Gi i j with q | q | q
 ·exact absurd (by rw [Dj,Dj];exact h)<|this i j (by simpa using hi) (by simpa using hj) q
 ·exact q
 ·exact absurd (by rw [Dj,Dj];exact h.symm)<|this j i (by simpa using hj) (by simpa using hi) q
open PyProof.Rows (sortedS)
theorem K3(a b c:List Str)(h:∀ z,z∈c↔(if z∈a then z∉b else z∈b)):∀ zs:List Str,(zs.filter λz=>c.contains z).length % 2=((zs.filter λz=>a.contains z).length+(zs.filter λz=>b.contains z).length) % 2
 | []=>rfl
 | z :: r=>by
  have ih:=K3 a b c h r;have hz:=h z;have ca:=λ(l:List Str)=>(Cb (as:=l) (a:=z));simp only [Cv]
  by_cases ha:z∈a <;> by_cases hb:z∈b
  ·have hc:z∉c:=λq=>by have:=hz.mp q;rw [BP ha] at this;exact this hb
   rw [BP<|(ca a).mpr ha,BP<|(ca b).mpr hb,BL λq=>hc<|(ca c).mp q,Au,Au];omega
  ·have hc:z∈c:=hz.mpr (by rw [BP ha];exact hb);rw [BP<|(ca a).mpr ha,BL λq=>hb<|(ca b).mp q,BP<|(ca c).mpr hc,Au,Au];omega
  ·have hc:z∈c:=hz.mpr (by rw [BL ha];exact hb);rw [BL λq=>ha<|(ca a).mp q,BP<|(ca b).mpr hb,BP<|(ca c).mpr hc,Au,Au];omega
  ·have hc:z∉c:=λq=>by have:=hz.mp q;rw [BL ha] at this;exact hb this
   rw [BL λq=>ha<|(ca a).mp q,BL λq=>hb<|(ca b).mp q,BL λq=>hc<|(ca c).mp q];exact ih
theorem cG{n:Net}{ss:List Str}:cF n ss=true↔∀ r∈n,(r.2.filter λz=>ss.contains z).length % 2=0:=by
 unfold cF;rw [Eh];exact⟨λh r hr=>by simpa using h r hr,λh r hr=>by simpa using h r hr⟩
theorem Xg{n:Net}{a b c:List Str}(ha:cF n a=true)(hb:cF n b=true)(h:∀ z,z∈c↔(if z∈a then z∉b else z∈b)):cF n c=true:=by
 rw [cG] at ha hb ⊢;intro r hr;have h1:=ha r hr;have h2:=hb r hr;rw [K3 a b c h];omega
theorem K4(k:Nat)(z:Str):∀(ts:List Str) (p:Nat),(bS (bo k ts p) z).length=ts.count z
 | [],p=>rfl
 | t :: r,p=>by
  have ih:=K4 k z r<|p+1;have e:bo k (t :: r) p=(t,(k,p)) :: bo k r (p+1):=by unfold bo;rfl
  rw [e];unfold bS at ih ⊢;rw [Cv,Cu]
  by_cases h:t=z
  ·rw [BP<|BW h,Bj,Au,ih,BP<|by simpa using h]
  ·rw [BL λq=>h<|BX q,ih,BL<|by simpa using h];rfl
theorem Xh(a b:List<|Str×End)(z:Str):bS (a++b) z=bS a z++bS b z:=by
 unfold bS;rw [Dh,Al]
theorem K5{k:Nat}{ts:List Str}{p:Nat}{z:Str}{e:End}(h:e∈bS (bo k ts p) z):e.1=k:=by
 unfold bS at h;obtain⟨x,hx,rfl⟩:=Aj.mp h;obtain⟨y,e⟩:=x;exact(aW.mp (Bf.mp hx).1).1
theorem K6(ps:List Str)(f:Nat->Str)(z:Str):∀(m:Net) (k:Nat),(∀(i:Nat) r,m[i]?=some r->f (k+i)=r.1)->((bS (dQ k m) z).filter λe=>decide (f e.1∈ps)).length=(ag<|m.filter λr=>decide (r.1∈ps)).count z
 | [],k,_=>rfl
 | r :: m,k,h=>by
  have ih:=K6 ps f z m (k+1) λi s hs=>by
   have:=h (i+1) s (by simpa using hs);rw [<- this]
   congr 1
   omega
  have e:dQ k (r :: m)=bo k r.2 0++dQ (k+1) m:=rfl;have hk:f k=r.1:=h 0 r rfl;rw [e,Xh,Dh,Ag,ih,Cv]
  by_cases hr:r.1∈ps
  ·rw [BP<|BW hr];have:ag (r :: m.filter λr=>decide (r.1∈ps))=r.2++ag (m.filter λr=>decide (r.1∈ps)):=by unfold ag;rfl
   rw [this,Es,List.filter_eq_self.mpr (λe he=>by rw [K5 he,hk];exact BW hr),K4]
  ·rw [BL λq=>hr<|BX q];have:(bS (bo k r.2 0) z).filter (λe=>decide (f e.1∈ps))=[]:=Ff.mpr λe he q=>by
    rw [K5 he,hk] at q;exact hr<|BX q
   rw [this];simp
theorem Xi{n:Net}(T:aj n)(ps:List Str)(z:Str):eX n ps z↔(ag<|n.filter λr=>decide (r.1∈ps)).count z % 2=1:=by
 have e:=K6 ps (aJ n) z n 0 λi r h=>by
  rw [Ec];unfold aJ;rw [h];rfl
 rw [<- e];show eX n ps z↔((pos n z).filter λe=>decide (aJ n e.1∈ps)).length % 2=1
 by_cases hz:z∈ag n
 ·obtain⟨a,ha⟩:∃ a,a∈pos n z:=by
   cases hp:pos n z with
   | nil=>exact absurd hp<|bW.mp hz
   | cons a r=>exact⟨a,Ad ..⟩
  obtain⟨x,y,hp,zi,hh⟩:=mV T<|aH.mp ha;have hl:zQ n (z,aJ n x.1,aJ n y.1):=⟨x,y,hp,rfl,rfl⟩;rw [show eX n ps z↔_ from Xb (ps:=ps) T hl,hp]
  by_cases h1:aJ n x.1∈ps <;> by_cases h2:aJ n y.1∈ps <;> simp [h1,h2]
 ·have hp:pos n z=[]:=DN λh=>hz<|bW.mpr h;rw [hp];exact⟨λh=>absurd (oZ h) hz,λh=>by cases h⟩
theorem zV{a:List Str}(hn:a.Nodup):∀ l:List Str,(l.filter λz=>a.contains z).length=(a.map λz=>l.count z).sum
 | []=>by
  have:∀ a:List Str,(a.map λz=>([]:List Str).count z).sum=0:=λa=>by
   induction a with
   | nil=>rfl
   | cons x r ih=>rw [Bj,Fv,ih];rfl
  rw [this];rfl
 | y :: l=>by
  have ih:=zV hn l;have key:∀ a:List Str,(a.map λz=>(y :: l).count z).sum=(a.map λz=>l.count z).sum+a.count y:=λa=>by
   induction a with
   | nil=>rfl
   | cons x r ih=>
    rw [Bj,Fv,ih,Bj,Fv,Cu,Cu]
    by_cases h:y=x
    ·rw [BP (by simp [h]),BP<|by simp [h]];omega
    ·rw [BL (by simpa using h),BL<|by simpa using λq=>h<|Eq.symm q];omega
  rw [key,Cv,<- ih,hn.count]
  by_cases h:y∈a
  ·rw [BP<|Cb.mpr h,BP h,Au]
  ·rw [BL λq=>h<|Cb.mp q,BL h];rfl
theorem K7{a:List Str}:∀ m:Net,(∀ r∈m,(r.2.filter λz=>a.contains z).length % 2=0)->((ag m).filter λz=>a.contains z).length % 2=0
 | [],_=>rfl
 | r :: m,h=>by
  have ih:=K7 m λs hs=>h s<|Ae _ hs;have h1:=h r<|Ad ..;have:ag (r :: m)=r.2++ag m:=by unfold ag;rfl
  rw [this,Dh,Ag];omega
theorem K8(cs:List Str)(g:Str->Nat)(h:∀ z,z∈cs↔g z % 2=1):∀ a:List Str,(a.filter λz=>cs.contains z).length % 2=(a.map g).sum % 2
 | []=>rfl
 | z :: r=>by
  have ih:=K8 cs g h r;rw [Cv,Bj,Fv]
  by_cases hz:z∈cs
  ·rw [BP<|Cb.mpr hz,Au];have:=(h z).mp hz;omega
  ·rw [BL λq=>hz<|Cb.mp q];have:¬ g z % 2=1:=λq=>hz<|(h z).mpr q;omega
theorem Xj{n:Net}(T:aj n){a cs ps:List Str}(ha:cF n a=true)(hn:a.Nodup)(hc:∀ z,z∈cs↔eX n ps z):(a.filter λz=>cs.contains z).length % 2=0:=by
 rw [K8 cs (λz=>(ag<|n.filter λr=>decide (r.1∈ps)).count z) (λz=>(hc z).trans<|Xi T ps z) a,<- zV hn];exact K7 _ λr hr=>cG.mp ha r (Bf.mp hr).1
theorem ve{n:Net}(T:aj n){ss:List Str}(hn:ss.Nodup)(hm:∀ z∈ss,z∈ag n):2 * ss.length<=(ag n).length:=by
 have h:=zV hn<|ag n;have e:∀ l:List Str,(∀ z∈l,z∈ag n)->(l.map λz=>(ag n).count z).sum=2 * l.length:=λl=>by
  induction l with
  | nil=>intro _;rfl
  | cons x r ih=>
   intro hl;rw [Bj,Fv,ih λz hz=>hl z<|Ae _ hz,T x<|hl x<|Ad ..,Au];omega
 rw [e ss hm] at h;rw [<- h];exact Go _ _
structure dB(n:Net)(cs:List Str):Prop where
 bZ:cO cs
 cut:∃ ps,∀ z,z∈cs↔eX n ps z
theorem Xk{n:Net}(T:aj n){a b c:List Str}(ha:dB n a)(hb:dB n b)(hs:cO c)(h:∀ z,z∈c↔(if z∈a then z∉b else z∈b)):dB n c:=by
 obtain⟨pa,ca⟩:=ha.cut;obtain⟨pb,cb⟩:=hb.cut;have hm:∀ x,x∈n.map (·.1)->(decide (x∈(n.map (·.1)).filter λx=>decide (x∈pa) != decide (x∈pb))=(decide (x∈pa) != decide (x∈pb))):=λx hx=>by
  rw [Cw,CJ,Bf];exact⟨λq=>q.2,λq=>⟨hx,q⟩⟩
 refine⟨hs,(n.map (·.1)).filter λx=>decide (x∈pa) != decide (x∈pb),λz=>?_⟩;rw [h z]
 by_cases hz:z∈ag n
 ·obtain⟨e,he⟩:∃ e,e∈pos n z:=by
   cases hp:pos n z with
   | nil=>exact absurd hp<|bW.mp hz
   | cons a r=>exact⟨a,Ad ..⟩
  have he:=aH.mp he;rw [iy T he,hm _<|iz<|b6 he,hm _<|iz<|qV T he];have h1:=(ca z).trans<|iy T he;have h2:=(cb z).trans<|iy T he
  by_cases q1:z∈a <;> by_cases q2:z∈b
  ·have h1:=h1.mp q1;have h2:=h2.mp q2;rw [BP q1];refine⟨λq=>absurd q2 q,λq=>?_⟩
   revert h1 h2 q
   cases decide (aJ n e.1∈pa) <;> cases decide (aJ n e.1∈pb) <;> cases decide (aJ n (other n e).1∈pa) <;> cases decide (aJ n (other n e).1∈pb) <;> simp
  ·have h1:=h1.mp q1;have h2:¬ _:=λq=>q2<|h2.mpr q;rw [BP q1];refine⟨λ_=>?_,λ_=>q2⟩
   revert h1 h2
   cases decide (aJ n e.1∈pa) <;> cases decide (aJ n e.1∈pb) <;> cases decide (aJ n (other n e).1∈pa) <;> cases decide (aJ n (other n e).1∈pb) <;> simp
  ·have h1:¬ _:=λq=>q1<|h1.mpr q;have h2:=h2.mp q2;rw [BL q1];refine⟨λ_=>?_,λ_=>q2⟩
   revert h1 h2
   cases decide (aJ n e.1∈pa) <;> cases decide (aJ n e.1∈pb) <;> cases decide (aJ n (other n e).1∈pa) <;> cases decide (aJ n (other n e).1∈pb) <;> simp
  ·have h1:¬ _:=λq=>q1<|h1.mpr q;have h2:¬ _:=λq=>q2<|h2.mpr q;rw [BL q1];refine⟨λq=>absurd q q2,λq=>?_⟩
   revert h1 h2 q
   cases decide (aJ n e.1∈pa) <;> cases decide (aJ n e.1∈pb) <;> cases decide (aJ n (other n e).1∈pa) <;> cases decide (aJ n (other n e).1∈pb) <;> simp
 ·have n1:z∉a:=λq=>hz<|oZ<|(ca z).mp q;have n2:z∉b:=λq=>hz<|oZ<|(cb z).mp q;rw [BL n1];exact⟨λq=>absurd q n2,λq=>absurd (oZ q) hz⟩
theorem Xl{x y:Str}(h:x≠y):x.cps.toList < y.cps.toList\/y.cps.toList < x.cps.toList:=by
 by_cases q:x.cps.toList < y.cps.toList
 ·exact .inl q
 ·rcases Gv.mp (List.not_lt.mp q) with q | q
  ·exact .inr q
  ·exact absurd (bx.eJ q).symm h
theorem K9(x:Str):∀ sd:List Str,cO sd->∃ g6,cO g6/\∀ y,y∈g6↔y=x\/y∈sd
 | [],_=>⟨[x],Gc _ _,λy=>by simp⟩
 | z :: r,h=>by
  have h:=Cs.mp h
  by_cases e:x=z
  ·subst e;exact⟨x :: r,Cs.mpr h,λy=>by simp⟩
  ·rcases Xl e with q | q
   ·refine⟨x :: z :: r,Cs.mpr ⟨λy hy=>?_,Cs.mpr h⟩,λy=>Ak⟩
    rcases Ak.mp hy with rfl | hy
    ·exact q
    ·exact Gr q<|h.1 y hy
   ·obtain⟨g6,hs,hm⟩:=K9 x r h.2;refine⟨z :: g6,Cs.mpr ⟨λy hy=>?_,hs⟩,λy=>?_⟩
    ·rcases (hm y).mp hy with rfl | hy
     ·exact q
     ·exact h.1 y hy
    ·rw [Ak,hm y,Ak];exact⟨λk=>by rcases k with k | k | k <;> simp [k],λk=>by rcases k with k | k | k <;> simp [k]⟩
theorem o6:∀ l:List Str,∃ sd,cO sd/\∀ x,x∈sd↔x∈l
 | []=>⟨[],List.Pairwise.nil,λ_=>Iff.rfl⟩
 | x :: r=>by
  obtain⟨sd,hs,hm⟩:=o6 r;obtain⟨g6,fT,Xm⟩:=K9 x sd hs;exact⟨g6,fT,λy=>by rw [Xm y,hm y,Ak]⟩
theorem K'{n:Net}(T:aj n)(h0:0 < n.length){cs:List Str}(h:dB n cs):∃ sd,bX n cs sd:=by
 obtain⟨ps,hc⟩:=h.cut
 by_cases hf:bF n∈ps
 ·obtain⟨sd,hs,hm⟩:=o6 ((n.map (·.1)).filter λx=>!decide (x∈ps));have hm:∀ x,x∈sd↔x∈n.map (·.1)/\x∉ps:=λx=>by
   rw [hm x,Bf,Bool.not_eq_true',HX]
  refine⟨sd,hs,λx hx=>((hm x).mp hx).1,λq=>((hm _).mp q).2 hf,λz=>(hc z).trans<|Xf T (λx hx=>?_) z⟩;rw [hm x];exact⟨λq=>q.2,λq=>⟨hx,q⟩⟩
 ·obtain⟨sd,hs,hm⟩:=o6 ((n.map (·.1)).filter λx=>decide (x∈ps));have hm:∀ x,x∈sd↔x∈n.map (·.1)/\x∈ps:=λx=>by
   rw [hm x,Bf,CJ]
  refine⟨sd,hs,λx hx=>((hm x).mp hx).1,λq=>hf ((hm _).mp q).2,λz=>(hc z).trans ?_⟩;have k:∀{e:End},aF n e=some z->(eX n ps z↔eX n sd z):=λ{e} he=>by
   rw [iy T he,iy T he];have a1:=hm<|aJ n e.1;have a2:=hm<|aJ n (other n e).1;have b1:=iz<|b6 he;have b2:=iz<|qV T he;have c1:decide (aJ n e.1∈sd)=decide (aJ n e.1∈ps):=by rw [Cw,CJ,CJ,a1];exact⟨λq=>q.2,λq=>⟨b1,q⟩⟩
   have c2:decide (aJ n (other n e).1∈sd)=decide (aJ n (other n e).1∈ps):=by rw [Cw,CJ,CJ,a2];exact⟨λq=>q.2,λq=>⟨b2,q⟩⟩
   rw [c1,c2]
  constructor
  ·intro q;obtain⟨e,he,_⟩:=id q;exact(k he).mp q
  ·intro q;obtain⟨e,he,_⟩:=id q;exact(k he).mpr q
def HF(n:Net):Prop:=b7 n/\Fl n
theorem Xn{nm:Str}:HF [(nm,[])]:=⟨W7 _,WZ⟩
theorem Xo{n:Net}{c:End}{z pt:Str}(T:aj n)(F:Full n)(hz:z∉ag n)(hc:dR n c) (hp:(ag<|ins n c z++[(pt,[z])]).Perm<|z :: z :: ag n) (P:HF n):HF (ins n c z++[(pt,[z])]):=
 ⟨W9 (zS P.1)<|W8 hc.1,W0 T F hz hc hp P.2⟩
theorem Xp{n:Net}{k1 k2:End}{z:Str}(T:aj n)(F:Full n)(hz:z∉ag n)(h1:dR n k1)(h2:dR n k2) (hp:(ag<|ins (ins n k1 z) k2 z).Perm<|z :: z :: ag n) (ord:k2=k1\/sh k1 k2=k2) (same:(∃ k,it (step n) k k1=k2)\/∃ k,it (step n) k k2=k1) (P:HF n):HF (ins (ins n k1 z) k2 z):=
 ⟨zS<|zS P.1,W1 T F hz h1 h2 hp ord same P.2⟩
theorem Xq{n n2 n0:Net}{j i:Nat}(hj:j < n.length)(hi:i < max 1 (row n j).length)(T0:aj n0)(pt:(ag n++ag n2).Perm<|ag n0)
  (fE:(ag (n.eraseIdx j)++ag (n2++[(n[j].1,(row n j).drop i++(row n j).take i)])).Perm<|ag n0) (P:HF<|n++n2):HF (n.eraseIdx j++(n2++[(n[j].1,(row n j).drop i++(row n j).take i)])):=by
 refine⟨K0 (λr hr=>?_) (λx hx=>?_) P.1,W4 hj hi T0 pt fE P.2⟩
 ·rcases An.mp hr with hx | hx
  ·rcases (bx.bB n j hj).symm.mem_iff.mp hx |> Ak.mp with q | q
   ·refine⟨(n[j].1,(row n j).drop i++(row n j).take i),Ao _<|Ao _<|Ah.mpr rfl,by rw [q],λt ht=>?_⟩;refine(zv (row n j) i).mem_iff.mpr ?_;rw [gX hj,<- q];exact ht
   ·exact⟨r,Ax _ q,rfl,λt h=>h⟩
  ·exact⟨r,Ao _<|Ax _ hx,rfl,λt h=>h⟩
 ·rcases An.mp hx with hx | hx
  ·exact⟨x,Ax _<|Ey hx,rfl⟩
  ·rcases An.mp hx with hx | hx
   ·exact⟨x,Ao _ hx,rfl⟩
   ·rw [Ah] at hx;exact⟨n[j],Ax _<|Bn hj,by rw [hx]⟩
theorem zW(s:Str->Bool):∀ l:List Str,ax (l.map s)=decide ((l.filter s).length % 2=1)
 | []=>rfl
 | x :: l=>by
  show(s x ^^ ax (l.map s))=_;rw [zW s l,Cv];cases h:s x
  ·rw [BL (by decide),Gj]
  ·rw [BP rfl,Au,Bool.true_xor,<- decide_not];exact decide_eq_decide.mpr<|by omega
theorem La{n:Net}{ss:List Str}(h:cF n ss=true):dG n (λz=>ss.contains z):=λr=>by
 rw [zW]
 by_cases hr:r < n.length
 ·have:=cG.mp h n[r]<|Bn hr;rw [gX hr];exact BR<|by omega
 ·have:row n r=[]:=by
   unfold row;rw [Bb<|by omega];rfl
  rw [this];rfl
theorem Xr{n:Net}{s:Str->Bool}{ss:List Str}(h:dG n s)(hs:∀ z∈ag n,ss.contains z=s z):cF n ss=true:=cG.mpr λr hr=>by
 obtain⟨i,hi,rfl⟩:=Cq.mp hr;have:=h i;rw [zW,gX hi] at this;have e:(n[i].2.filter λz=>ss.contains z)=n[i].2.filter s:=List.filter_congr λz hz=>hs z<|Fr.mpr ⟨n[i],hr,hz⟩;rw [e];have:=IW this;omega
theorem nF{α:Type}:∀ l:List α,ax (l.map λ_=>false)=false
 | []=>rfl
 | _ :: l=>by show(false ^^ ax _)=false;rw [nF l];rfl
theorem zX(x:Nat)(e:End):∀ m,ax ((List.range m).map λp=>decide ((x,p)=e))=decide (x=e.1/\e.2 < m)
 | 0=>by simp [ax]
 | m+1=>by
  rw [Cz,Al,ku,zX x e m];show(decide (x=e.1/\e.2 < m) ^^ (decide ((x,m)=e) ^^ false))=_;rw [Gm];obtain⟨a,b⟩:=e
  by_cases h:x=a
  ·by_cases h2:b=m
   ·subst h;subst h2;simp
   ·have e1:((x,m)=(a,b))=False:=by simp [h];omega
    rw [BR (p:=(x,m)=(a,b)) (by rw [e1];exact id),Gm];exact decide_eq_decide.mpr ⟨λq=>⟨q.1,by have:=q.2;omega⟩,λq=>⟨q.1,by have:=q.2;show b < m;omega⟩⟩
  ·rw [BR λq=>h q.1,BR λq=>h<|BZ Prod.fst q,BR λq=>h q.1];rfl
theorem Lb{n:Net}(T:aj n){e:End}{t:Str}(h:aF n e=some t)(x:Nat):ax ((row n x).map λy=>decide (y=t))=(decide (x=e.1) ^^ decide (x=(other n e).1)):=by
 have o:=cf T h;rw [KS n x (λy=>decide (y=t)) (λa=>decide (a=e) ^^ decide (a=other n e)) λp z hz=>?_]
 ·rw [je (λp=>decide ((x,p)=e)) λp=>decide ((x,p)=other n e),zX,zX];have l1:=fY h;have l2:=fY o.1
  congr 1
  ·exact decide_eq_decide.mpr ⟨λq=>q.1,λq=>⟨q,by rw [q];exact l1⟩⟩
  ·exact decide_eq_decide.mpr ⟨λq=>q.1,λq=>⟨q,by rw [q];exact l2⟩⟩
 ·have hz:aF n (x,p)=some z:=hz
  by_cases q:z=t
  ·subst q
   rcases (ix T h).mp hz with k | k
   ·rw [k,BW rfl,BW rfl,BR<|CN o.2.2];rfl
   ·rw [k,BW rfl,BW rfl,BR o.2.2];rfl
  ·have h1:((x,p):End)≠e:=λk=>by rw [k,h] at hz;exact q (Option.some.inj hz).symm
   have h2:((x,p):End)≠other n e:=λk=>by rw [k,o.1] at hz;exact q (Option.some.inj hz).symm
   rw [BR q,BR h1,BR h2];rfl
end Nt
namespace D3
open PySem L2 Nt bH
def zY:Sp:=λvs H Q _=>∃(R:Addr) (as:List<|Addr×Addr) (n:Net) (b:Int) (z pt:Str),vs=[.ref R,.int b,.str z,.str pt]/\ai H R as n/\aj n/\Full n/\z∉ag n/\n.length<=100/\(ag n).length<=100 /\
 ∀ i nG n' H',ai H' R nG n'->m9 H H' (R :: as.map (·.2))->(∀ a∈nG,a∈as\/H a.2=none)->(ag n').Perm (z :: z :: ag n)->(n'.map (·.1)=n.map (·.1)\/n'.map (·.1)=n.map (·.1)++[pt])->Full n'->(HF n->HF n')->Q (.int i) H'
section
variable{P:Program}{w:World}{K:PySem.W.Frag}{mg:Str->Option Value}{base:Heap}
abbrev NP:List Str:=["_law_rows","_law_big_here","_law_tie","_law_point","_law_corners","_law_r","_law_place","_law_one","_law_kind","_law_face_here","_law_other_here","_law_spot"]
theorem lI:aq NP ["_law_rows","_law_big_here","_law_tie","_law_point"] (bd m4):=⟨rfl,rfl,rfl,by decide +kernel,rfl,by decide +kernel,by decide +kernel⟩
theorem Lc{ts:List Addr}{j:Nat}{t:Addr}(h:ts[j]?=some t):dW (ts.map V.ref) (j:Int)=some (.ref t):=kZ<|by rw [Ai,h];rfl
theorem Xs{f:Addr}{fd:FuncData}(F:bL K "_law_put" "_law_put" m4 f fd)(T:Txt mg)
  (GS:aV P w K mg base 3 "_law_seats" ["_law_rows"] uE)
  (GF:aV P w K mg base 3 "_law_face" ["_law_rows","_law_seats_here","_law_end"] zh) :
  aG P w K mg base bG 4 f fd ["_law_rows","_law_big_here","_law_tie","_law_point"] zY:=by
 refine F.gb lI (λvs H Q E h=>?_) λb0 H vs Q E hr h=>?_
 ·obtain⟨R,as,n,b,z,pt,rfl,_⟩:=h;rfl
 obtain⟨R,as,n,b,z,pt,rfl,hR,hT,hF,hz,hn,htn,q⟩:=h;have nd:=lI.nd;have hu:=hr.eF;have cg:=hR.len;show Run _ _ _ [some<|.ref R,some<|.int b,some<|.str z,some<|.str pt,none,none,none,none,none,none,none,none] H;refine aY 4 nd<|dL<|aA ⟨Z0,λlc Ld=>?_⟩;have g0:=a8 Ld<|.lst [];refine iO T.range (bQ cT T.len DQ<|ao<|ae 0<|aA ⟨R,_,rfl,.inl<|al.of<|g0 _ _ hR.lst,_,rfl,by omega,by rw [Ab];omega,?_⟩);rw [Ab,cg,Bd];refine iP (λr σ H3=>∃(ts:List Addr) (cs:List Nt.End) (u1 u2:Option V),ak H H3/\H3 lc=some (.lst<|ts.map V.ref)/\Pd H3 ts cs/\(∀ c∈cs,dR n c)/\(0 < r->cs≠[])/\cs.length<=101 * r/\σ=[some<|.ref R,some<|.int b,some<|.str z,some<|.str pt,some<|.ref lc,u1,u2,none,none,none,none,none]) ⟨[],[],_,_,g0,aD,.nil,λc hc=>(nomatch hc),λh=>absurd h (by decide),Am _,rfl⟩ ?_ ?_
 ·rintro r σ H3 hi ⟨ts,cs,u1,u2,sH,el,ep,hc,bu,hlen,rfl⟩;rw [Dg];refine bE 5 nd ?_;obtain⟨a,ea,fB,et,Xt,er⟩:=(hR.same sH).at hi;have ji:=gW n r;refine iO T.range<|bQ (wI rfl) T.max MF<|ao<|aB<|ao<|bQ cT T.len DQ<|ao<|bb cw<|bb cS<|ae 0<|ae 5 ⟨R,_,_,.ref a.1,rfl,rfl,al.of<|sH _ _ hR.lst,fB,aB ⟨a.1,_,_,.ref a.2,rfl,rfl,a7.of et,rfl,aA ⟨a.2,_,rfl,.inl<|al.of Xt,?_⟩⟩⟩;rw [Ab];have em:(if((row n r).length:Int) > 1 then((row n r).length:Int) else 1)=((max 1 (row n r).length:Nat):Int):=by
   split <;> omega
  refine aA ⟨1,_,rfl,((max 1 (row n r).length:Nat):Int),by rw [em],by omega,by omega,?_⟩;rw [Bd];refine iP (λp σ H4=>∃(ts:List Addr) (cs:List Nt.End) (u2:Option V),ak H H4/\H4 lc=some (.lst<|ts.map V.ref)/\Pd H4 ts cs/\(∀ c∈cs,dR n c)/\(0 < r+p->cs≠[])/\cs.length<=101 * r+p/\σ=[some<|.ref R,some<|.int b,some<|.str z,some<|.str pt,some<|.ref lc,some<|.int (r:Int),u2,none,none,none,none,none]) ⟨ts,cs,_,sH,el,ep,hc,bu,hlen,rfl⟩ ?_ ?_
  ·rintro p σ H4 hp ⟨ts,cs,u2,sH,el,ep,hc,bu,hlen,rfl⟩;rw [Dg];refine bE 6 nd ?_;refine fS<|jF<|ae 4 ⟨lc,rfl,⟨_,el⟩,gS<|ao<|ae 5<|ao<|ae 6<|aA ⟨Z2,λt ht=>?_⟩⟩;have mW:lc≠t:=bt el ht;have s2:=a8 ht<|Tp (r,p);have zZ:=ep.length;refine⟨ts.map V.ref,by rw [ay mW];exact el,by rw [Ab];exact cD (by omega),?_⟩;refine bm ⟨ts++[t],cs++[(r,p)],_,fZ (sH.trans s2) Ld,by rw [aD,Al];rfl,?_,λc h=>?_,λ_=>by simp,by rw [Ag];simp;omega,rfl⟩
   ·refine Pd.append (ep.keep λx e h=>?_)<|.cons ?_ .nil
    ·rw [ay<|qA h el];exact s2 _ _ h
    ·rw [ay mW.symm,aD]
   ·rcases An.mp h with h | h
    ·exact hc c h
    ·rw [Ah] at h;subst h;exact⟨hi,hp⟩
  ·rintro σ H4 ⟨ts,cs,u2,sH,el,ep,hc,bu,hlen,rfl⟩;refine bm ⟨ts,cs,_,_,sH,el,ep,hc,λ_=>bu (by omega),by omega,rfl⟩
 rintro σ H3 ⟨ts,cs,u1,u2,sH,el,ep,hc,bu,hlen,rfl⟩;have xZ:0 < n.length:=Cn.mpr hF.some;have jS:=bu xZ;have dk:0 < cs.length:=Cn.mpr jS;have zZ:=ep.length;have m0:0<=b % (cs.length:Int):=Bt _ (by omega);have m1:b % (cs.length:Int) < cs.length:=Cc _ (by omega);obtain⟨j,hj⟩:∃ j:Nat,b % (cs.length:Int)=j:=⟨(b % (cs.length:Int)).toNat,by omega⟩;have oP:j < cs.length:=by omega
 have vf:cs[j]?=some cs[j]:=Aa oP;obtain⟨t1,vg,e1⟩:=ep.at vf;have gq:dR n cs[j]:=hc _<|Bn oP;generalize cs[j]=c1 at e1 gq;refine aY 7 nd<|bb cS<|ae 4<|aQ cJ<|ae 1<|bQ cT T.len DQ<|ao<|ae 4<|aA ⟨lc,_,rfl,.inl<|al.of el,?_⟩;rw [Ab,zZ];refine⟨_,_,rfl,rfl,by omega,lc,_,_,.ref t1,rfl,rfl,al.of el,by rw [hj];exact Lc vg,?_⟩;refine aY 1 nd<|aQ gu<|ae 1<|bQ cT T.len DQ<|ao<|ae 4<|aA ⟨lc,_,rfl,.inl<|al.of el,?_⟩;rw [Ab,zZ];refine⟨_,_,rfl,rfl,⟨by omega,by omega⟩,?_⟩;show Run _ _ _ [some<|.ref R,some<|.int<|b / (cs.length:Int),some<|.str z,some<|.str pt,some<|.ref lc,u1,u2,some<|.ref t1,none,none,none,none] H3;generalize b / (cs.length:Int)=b2;refine aY 8 nd (aQ cJ<|ae 1<|aB ⟨_,_,rfl,rfl,(by show(0:Int) < 3;decide),?_⟩);refine aY 1 nd (aQ gu<|ae 1<|aB ⟨_,_,rfl,rfl,⟨by decide,by decide⟩,?_⟩);show Run _ _ _ [some<|.ref R,some<|.int<|b2 / 3,some<|.str z,some<|.str pt,some<|.ref lc,u1,u2,some<|.ref t1,some<|.int<|b2 % 3,none,none,none] H3;generalize b2 / 3=b3;have iA:=hR.same sH;obtain⟨a,ea,fB,eta,Le,era⟩:=iA.at gq.1;have Lf:∀(m:Net),(ag m).length<=200->∀ i,(row m i).length<=200:=λm h i=>Ce (gW m i) h;have cin:c1.2<=(row n c1.1).length:=by
  have:=gq.2;omega
 refine im<|dM kX<|ae 8<|aB ⟨rfl,_,rfl,?_⟩;refine j5 (λ_=>?_) λ_=>bm ?_
 ·
  have rl:=gW n c1.1;refine fS<|yE EY QW QX Jl<|bb cw<|bb cS<|ae 0<|bb cw<|ae 7<|aB ⟨t1,_,_,.int (c1.1:Int),rfl,rfl,a7.of e1,rfl,R,_,_,.ref a.1,rfl,rfl,al.of iA.lst,fB,aB ⟨a.1,_,_,.ref a.2,rfl,rfl,a7.of eta,rfl,Or.inl ⟨rfl,_,al.of Le⟩,?_⟩⟩;refine bb cw (ae 7<|aB ⟨t1,_,_,.int (c1.2:Int),rfl,rfl,a7.of e1,rfl,ae 2 ⟨a.2,_,_,_,rfl,rfl,Le,by omega,by rw [Bd,Ab];exact cin,by rw [Ab];exact cD (by omega),?_⟩⟩);rw [Bd,JI];have R4:=iA.ins (z:=z) ea gq.1;refine fS<|jF<|ae 0 ⟨R,rfl,⟨_,R4.lst⟩,gS<|ao<|ae 3<|ao<|dL<|ao<|ae 2<|aA ⟨Z1,λl1 fv=>?_⟩⟩;refine aA ⟨Z2,λt2 jE=>?_⟩;have s5:=a8 fv<|Ls [z];have s6:=a8 jE<|.tup [.str pt,.ref l1];have R6:=(R4.same s5).same s6;refine⟨_,R6.lst,by rw [Ab];exact cD (by omega),?_⟩;have Xu:H3 l1=none:=by
   by_cases q1:l1=a.2
   ·rw [q1,aD] at fv;cases fv
   ·rwa [ay q1] at fv
  have Xv:l1∉as.map (·.2):=λhm=>by
   obtain⟨x,hx,e⟩:=Aj.mp hm;exact R4.fresh fv hx e.symm
  have Xw:l1≠R:=λe=>by rw [e,R4.lst] at fv;cases fv
  have R7:=R6.more (t:=t2) (l:=l1) (pt:=pt) (zs:=[z]) aD (s6 _ _ aD) Xv Xw;have tp:(ag<|ins n c1 z++[(pt,[z])]).Perm (z :: z :: ag n):=by
   unfold ag;rw [Ez];show(ag (ins n c1 z)++[z]).Perm _;exact(Cf).trans<|(jK n c1 z gq.1).cons z
  refine b5<|ae 1<|q _ _ _ _ R7 (λx o hx jj=>?_) (λx hx=>?_) tp (.inr ?_) ?_ λhP=>Xo hT hF hz gq tp hP
  ·have x1:x≠R:=λe=>jj (by rw [e];exact Ad);have x2:x≠a.2:=λe=>jj (Ae _<|by rw [e];exact Aj.mpr ⟨a,Ap ea,rfl⟩);rw [ay x1];refine s6 _ _<|s5 _ _ ?_;rw [ay x2];exact sH _ _ hx
  ·rcases An.mp hx with hx | hx
   ·exact .inl hx
   ·rw [Ah] at hx;subst hx;exact .inr<|sH.free Xu
  ·rw [Al,zj];rfl
  ·refine .inr ⟨by simp,λi hi=>?_⟩;have Xx:=(zp (z:=z) hF gq.1 hF.either).1;rw [Ag] at hi;simp at hi
   rcases Db i (ins n c1 z).length with h | h
   ·have:=Xx i h;unfold row at this ⊢;rw [Aq h];exact this
   ·unfold row;rw [Ay h,show i - (ins n c1 z).length=0 by omega];simp
 ·
  refine aY 9 nd<|dL<|ao<|ae 7<|aA ⟨Z1,λlf Lg=>?_⟩;have s4:=a8 Lg<|.lst [.ref t1];have sH4:=sH.trans s4;have nH:=iA.same s4;obtain⟨a0,ea0,z6,Xy,Lh,er0⟩:=nH.at xZ;have Xz:∀ x∈as,lf≠x.2:=λx hx=>iA.fresh Lg hx;show Run _ _ _ [some<|.ref R,some<|.int b3,some<|.str z,some<|.str pt,some<|.ref lc,u1,u2,some<|.ref t1,some<|.int<|b2 % 3,some<|.ref lf,none,none] (upd H3 lf<|.lst [.ref t1]);refine Jn (λk H'=>ak (upd H3 lf<|.lst [.ref t1]) H'/\(k=true->row n 0≠[])) (λσ' H'=>∃(lf:Addr) (jJ:List Addr) (fs:List Nt.End),ak H3 H'/\(∀ x∈as,lf≠x.2)/\H' lf=some (.lst<|jJ.map V.ref)/\Pd H' jJ fs/\0 < fs.length/\fs.length<=1000/\(∀ c∈fs,dR n c/\∃ k,it (step n) k c1=c) /\
   σ'=[some<|.ref R,some<|.int b3,some<|.str z,some<|.str pt,some<|.ref lc,u1,u2,some<|.ref t1,some<|.int<|b2 % 3,some<|.ref lf,none,none]) ?_ ?_ (λH5 ⟨s5,_⟩=>bm ⟨lf,[t1],[c1],s4.trans s5,Xz,s5 _ _ aD,.cons (s5 _ _<|s4 _ _ e1) .nil,Fn,by show 1<=1000;decide,λc kA=>by rw [Ah] at kA;rw [kA];exact⟨gq,0,rfl⟩,rfl⟩) ?_
  ·refine dM (qv hu)<|bb cw<|bb cS<|ae 0<|aB ⟨R,_,_,.ref a0.1,rfl,rfl,al.of nH.lst,z6,aB ⟨a0.1,_,_,.ref a0.2,rfl,rfl,a7.of Xy,rfl,dL<|aA ⟨Z0,λp hp=>?_⟩⟩⟩;have s5:=a8 hp<|.lst []
   by_cases h0:row n 0=[]
   ·refine⟨1,_,by decide,yB (k:=0) (xs:=[]) (ys:=[]) (λ_=>true) (al.of<|by rw [s5 _ _ Lh,h0];rfl) (al.of aD) rfl (λj x y hx _=>by simp at hx),_,rfl,s5,λh=>by cases h⟩
   ·refine⟨1,_,by decide,Ji (k:=1) (al.of<|s5 _ _ Lh) (al.of (xs:=[]) aD) (by rw [Ab];intro h;exact h0<|Bi.mp h),_,rfl,s5,λ_=>h0⟩
  ·rintro H4 ⟨z7,h0⟩;have h0:=h0 rfl;have nH:=nH.same z7;have va:=hF.cn h0 gq;have qW:=f7 n;refine aY 9 nd (bR GF hr<|ao<|ae 0<|ao<|bR GS hr<|ao<|ae 0<|aA ⟨R,as,n,rfl,nH,by omega,by omega,λd ks H5 s5 n5 S5=>?_⟩);refine ao (ae 7<|aA ⟨R,d,t1,as,n,ks,c1,rfl,nH.same s5,S5,hT,s5 _ _<|z7 _ _<|s4 _ _ e1,va,by omega,λl6 XA XB H6 s6 n6 e6 p6 f6=>?_⟩);exact bm ⟨l6,XA,XB,s4.trans<|z7.trans<|s5.trans s6,λx hx=>(nH.same s5).fresh n6 hx,e6,p6,f6.pos,by have:=f6.len;omega,λc kA=>⟨Va<|f6.ends hT va c kA,WO f6 kA⟩,rfl⟩
  ·rintro σ' H5 ⟨lf,jJ,fs,s5,XC,z8,yl,XD,XE,z9,rfl⟩;have qX:=yl.length;have n0:0<=b3 % (fs.length:Int):=Bt _ (by omega);have n1:b3 % (fs.length:Int) < fs.length:=Cc _ (by omega);obtain⟨j2,jM⟩:∃ j:Nat,b3 % (fs.length:Int)=j:=⟨(b3 % (fs.length:Int)).toNat,by omega⟩;have qY:j2 < fs.length:=by omega
   have AA:fs[j2]?=some fs[j2]:=Aa qY;obtain⟨t2,vh,e2⟩:=yl.at AA;obtain⟨nI,AB⟩:=z9 _<|Bn qY;generalize fs[j2]=c2 at e2 nI AB;have mJ:=s5 _ _ e1;refine aY 10 nd<|bb cS<|ae 9<|aQ cJ<|ae 1<|bQ cT T.len DQ<|ao<|ae 9<|aA ⟨lf,_,rfl,.inl<|al.of z8,?_⟩;rw [Ab,qX];refine⟨_,_,rfl,rfl,by omega,lf,_,_,.ref t2,rfl,rfl,al.of z8,by rw [jM];exact Lc vh,?_⟩;have vi:=iA.same s5;show Run _ _ _ [some<|.ref R,some<|.int b3,some<|.str z,some<|.str pt,some<|.ref lc,u1,u2,some<|.ref t1,some<|.int<|b2 % 3,some<|.ref lf,some<|.ref t2,none] H5;refine j6<|UH T.sorted<|dL<|ao<|ae 7<|ao<|ae 10<|aA ⟨Z2,λl2 iL=>?_⟩;have s6:=a8 iL<|.lst [.ref t1,.ref t2];refine⟨l2,t1,t2,(c1.1:Int),(c1.2:Int),(c2.1:Int),(c2.2:Int),rfl,aD,s6 _ _ mJ,s6 _ _ e2,λrr Li=>?_⟩;have rn:∀ x∈as,rr≠x.2:=λx hx=>(vi.same s6).fresh Li hx;obtain⟨x1,x2,k1,k2,lB,f1,f2,q1,q2,AF,qZ⟩:∃ x1 x2 k1 k2,(if lexLt ((c1.1:Int),(c1.2:Int)) ((c2.1:Int),(c2.2:Int))=true then [V.ref t2,.ref t1] else [.ref t1,.ref t2])=[.ref x1,.ref x2]/\(upd H5 l2<|.lst [.ref t1,.ref t2]) x1=some (Tp k1)/\(upd H5 l2<|.lst [.ref t1,.ref t2]) x2=some (Tp k2)/\dR n k1/\dR n k2/\(k2=k1\/sh k1 k2=k2)/\((∃ k,it (step n) k k1=k2)\/∃ k,it (step n) k k2=k1):=by
    cases Lj:lexLt ((c1.1:Int),(c1.2:Int)) ((c2.1:Int),(c2.2:Int)) with
    | true=>exact⟨t2,t1,c2,c1,rfl,s6 _ _ e2,s6 _ _ mJ,nI,gq,.inr<|WL Lj,.inr AB⟩
    | false=>exact⟨t1,t2,c1,c2,rfl,s6 _ _ mJ,s6 _ _ e2,gq,nI,WM Lj,.inl AB⟩
   rw [lB];have s7:=a8 Li<|.lst [.ref x1,.ref x2];have f1:=s7 _ _ f1;have f2:=s7 _ _ f2;have s6:=s6.trans s7;have fr:=aD (H:=upd H5 l2<|.lst [.ref t1,.ref t2]) (a:=rr) (o:= .lst [.ref x1,.ref x2]);generalize upd (upd H5 l2<|.lst [.ref t1,.ref t2]) rr (.lst [.ref x1,.ref x2])=H6 at f1 f2 s6 fr ⊢;have ra:ak H H6:=sH.trans<|s5.trans s6;have XF:=vi.same s6;have rd:m9 H H6 (R :: as.map (·.2)):=λx o hx _=>ra _ _ hx;refine⟨rr,rfl,⟨_,al.of fr⟩,j7 (xs:=[.ref x1,.ref x2]) (λi σ H7=>∃(m:Net) (u:Option V),ai H7 R as m/\m9 H H7 (R :: as.map (·.2))/\H7 rr=some (.lst [.ref x1,.ref x2])/\H7 lf=some (.lst<|jJ.map V.ref)/\H7 x1=some (Tp k1)/\H7 x2=some (Tp k2) /\
    ((i=0/\m=n)\/(i=1/\m=ins n k1 z)\/(i=2/\m=ins (ins n k1 z) k2 z))/\σ=[some<|.ref R,some<|.int b3,some<|.str z,some<|.str pt,some<|.ref lc,u1,u2,some<|.ref t1,some<|.int<|b2 % 3,some<|.ref lf,some<|.ref t2,u]) ⟨n,_,XF,rd,fr,s6 _ _ z8,f1,f2,.inl ⟨rfl,rfl⟩,rfl⟩ ?_ ?_ ?_⟩
   ·rintro i σ H7 _ ⟨m,u,_,_,vj,_⟩;exact al.of vj
   ·rintro i v σ H7 hv ⟨m,u,rg,rh,vj,AG,g1,g2,hm,rfl⟩;have XG:=(jK n k1 z q1.1).length_eq;rw [Au] at XG;obtain⟨y,k,rfl,hy,hk,gI,hml⟩:∃ y k,v = .ref y/\H7 y=some (Tp k)/\dR m k/\((i+1=0/\ins m k z=n)\/(i+1=1/\ins m k z=ins n k1 z)\/(i+1=2/\ins m k z=ins (ins n k1 z) k2 z))/\(ag m).length<=200:=by
     rcases hm with ⟨rfl,rfl⟩ | ⟨rfl,rfl⟩ | ⟨rfl,rfl⟩
     ·cases hv;exact⟨x1,k1,rfl,g1,q1,.inr<|.inl ⟨rfl,rfl⟩,by omega⟩
     ·cases hv;exact⟨x2,k2,rfl,g2,uF q2 q1.1,.inr<|.inr ⟨rfl,rfl⟩,by omega⟩
     ·simp at hv
    refine bE 11 nd ?_;obtain⟨a',Ln,AH,AI,kC,XH⟩:=rg.at hk.1;have rl:=gW m k.1;have pK:k.2<=(row m k.1).length:=by
     have:=hk.2;omega
    refine fS<|yE EY QW QX Jl<|bb cw<|bb cS<|ae 0<|bb cw<|ae 11<|aB ⟨y,_,_,.int (k.1:Int),rfl,rfl,a7.of hy,rfl,R,_,_,.ref a'.1,rfl,rfl,al.of rg.lst,AH,aB ⟨a'.1,_,_,.ref a'.2,rfl,rfl,a7.of AI,rfl,Or.inl ⟨rfl,_,al.of kC⟩,?_⟩⟩;refine bb cw (ae 11<|aB ⟨y,_,_,.int (k.2:Int),rfl,rfl,a7.of hy,rfl,ae 2 ⟨a'.2,_,_,_,rfl,rfl,kC,by omega,by rw [Bd,Ab];exact pK,by rw [Ab];exact cD (by omega),?_⟩⟩);rw [Bd,JI];have am:a'∈as:=Ap Ln;refine bm ⟨ins m k z,_,rg.ins Ln hk.1,λx o hx jj=>?_,by rw [ay<|rn a' am];exact vj,by rw [ay<|XC a' am];exact AG,by rw [ay<|qA g1 kC];exact g1,by rw [ay<|qA g2 kC];exact g2,gI,rfl⟩;have x2:x≠a'.2:=λe=>jj (Ae _<|by rw [e];exact Aj.mpr ⟨a',am,rfl⟩);rw [ay x2];exact rh x o hx jj
   ·rintro σ H7 ⟨m,u,rg,rh,vj,AG,g1,g2,hm,rfl⟩;have em:m=ins (ins n k1 z) k2 z:=by
     rcases hm with ⟨h,_⟩ | ⟨h,_⟩ | ⟨_,h⟩
     ·exact absurd h<|by show ¬(2=0);decide
     ·exact absurd h<|by show ¬(2=1);decide
     ·exact h
    refine b5<|aQ gu<|ae 1<|bQ cT T.len DQ<|ao<|ae 9<|aA ⟨lf,_,rfl,.inl<|al.of AG,?_⟩;rw [Ab,qX];refine⟨_,_,rfl,rfl,⟨by omega,by omega⟩,?_⟩;have fi:=zp (z:=z) hF q1.1 hF.either;have F2:Full (ins n k1 z):= .inr ⟨fi.2,fi.1⟩;have Lp:=zp (z:=z) F2 (uF (z:=z) q2 q1.1).1 F2.either;subst em;exact q _ as _ H7 rg rh (λx hx=> .inl hx) ((jK _ k2 z (uF (z:=z) q2 q1.1).1).trans<|(jK n k1 z q1.1).cons z) (.inl<|by rw [zj,zj]) (.inr ⟨Lp.2,Lp.1⟩) λhP=>Xp hT hF hz q1 q2 ((jK _ k2 z (uF (z:=z) q2 q1.1).1).trans<|(jK n k1 z q1.1).cons z) AF qZ hP
def AJ:Sp:=λvs H Q _=>∃(b m sm:Int),vs=[.int b,.int m,.int sm]/\0<=m/\m<=35 /\
 ∀ L as n H',ak H H'->H L=none->ai H' L as n->aj n->(n.map (·.1)).Nodup->Full n->HF n->(ag n).length<=2 * m.toNat->n.length<=m.toNat+1->(∀ a∈as,H a.2=none)->Q (.ref L) H'
abbrev NB:List Str:=["_law_big_here","_law_most","_law_stem","_law_many","_law_ties","_law_points","_law_rows","_law_k","_law_told","_law_row","_law_size"]
theorem lJ:aq NB ["_law_big_here","_law_most","_law_stem"] (bd m5):=⟨rfl,rfl,rfl,by decide +kernel,rfl,by decide +kernel,by decide +kernel⟩
theorem Lq{H:Hp}{d:Addr}{xs:List V}(h:H d=some (.lst xs)):jX K "list" (.ref d) H:=Or.inl ⟨rfl,xs,al.of h⟩
theorem iz{b:Int}{m i:Nat}(h:i < m):dW ((namesOf b m).map V.str) (i:Int)=some (.str<|aM b i):=yH<|UU h
theorem XI{f:Addr}{fd:FuncData}(F:bL K "_law_net_by" "_law_net_by" m5 f fd)(T:Txt mg)
  (GN:aV P w K mg base 4 "_law_names" ["_law_stem","_law_many"] y8)
  (GP:aV P w K mg base 4 "_law_put" ["_law_rows","_law_big_here","_law_tie","_law_point"] zY) :
  aG P w K mg base bG 5 f fd ["_law_big_here","_law_most","_law_stem"] AJ:=by
 refine F.gb lJ (λvs H Q E h=>?_) λb0 H vs Q E hr h=>?_
 ·obtain⟨b,m,sm,rfl,_⟩:=h;rfl
 obtain⟨b,m,sm,rfl,m0,m35,q⟩:=h;have nd:=lJ.nd;have hu:=hr.eF;have k0:0<=b % (m+1):=Bt _ (by omega);have k1:b % (m+1) < m+1:=Cc _ (by omega);obtain⟨mn,XJ⟩:∃ k:Nat,b % (m+1)=k:=⟨(b % (m+1)).toNat,by omega⟩;have hmm:mn<=m.toNat:=by omega
 show Run _ _ _ [some<|.int b,some<|.int m,some<|.int sm,none,none,none,none,none,none,none,none] H;refine aY 3 nd<|aQ cJ<|ae 0<|aQ fc<|ae 1<|aB ⟨_,_,rfl,rfl,?_⟩;refine⟨_,_,rfl,rfl,(by show 0 < m+1;omega),?_⟩;refine aY 0 nd<|aQ gu<|ae 0<|aQ fc<|ae 1<|aB ⟨_,_,rfl,rfl,?_⟩;refine⟨_,_,rfl,rfl,(by show pU b (m+1);exact⟨by omega,by omega⟩),?_⟩;show Run _ _ _ [some<|.int<|b / (m+1),some<|.int m,some<|.int sm,some<|.int<|b % (m+1),none,none,none,none,none,none,none] H;rw [XJ];generalize b / (m+1)=b1;refine aY 4 nd (bR GN hr<|ao<|ae 2<|ao<|ae 3<|aA ⟨sm,(mn:Int),rfl,by omega,by omega,λlt H1 s1 n1 e1=>?_⟩);rw [Bd] at e1;refine aY 5 nd (bR GN hr<|ao<|bb cS<|dL<|ao<|aQ fc<|aQ gu<|ae 2<|aB ⟨_,_,rfl,rfl,⟨by decide,by decide⟩,aB ⟨_,_,rfl,rfl,ao<|ae 2<|aA ⟨Z2,λp hp=>?_⟩⟩⟩);refine oA Jm T.qD TF (ao<|tN kX<|aQ cJ<|ae 2<|aB ⟨_,_,rfl,rfl,(by show(0:Int) < 4;decide),aB ⟨rfl,aA ⟨_,rfl,?_⟩⟩⟩);have s2:=a8 hp<|.lst [.int<|sm / 3+1,.int sm];obtain⟨iB,ex⟩:∃ iB:Int,dW [V.int<|sm / 3+1,.int sm] (if decide (V.int (sm % 4)=V.int 1)=true then 1 else 0)=some (.int iB):=by
  cases decide (V.int (sm % 4)=V.int 1) with
  | true=>exact⟨sm,rfl⟩
  | false=>exact⟨sm / 3+1,rfl⟩
 refine⟨p,_,_,.int iB,rfl,rfl,al.of aD,ex,?_⟩;refine ao (aQ fc<|ae 3<|aB ⟨_,_,rfl,rfl,aA ⟨iB,(mn:Int)+1,rfl,by omega,by omega,λlp H2 s3 n3 e3=>?_⟩⟩);have em:((mn:Int)+1).toNat=mn+1:=by omega
 rw [em] at e3;have AK:ak H H2:=s1.trans<|s2.trans s3;have e1:H2 lt=some (Ls<|namesOf sm mn):=s3 _ _<|s2 _ _ e1;show Run _ _ _ [some<|.int b1,some<|.int m,some<|.int sm,some<|.int (mn:Int),some<|.ref lt,some<|.ref lp,none,none,none,none,none] H2;refine aY 6 nd<|dL<|ao<|gS<|ao<|bb cS<|ae 5<|aB ⟨lp,_,_,.str<|aM iB 0,rfl,rfl,al.of e3,iz<|Gd _,ao<|dL<|aA ⟨Z0,λl1 fv=>?_⟩⟩;refine aA ⟨Z2,λt1 XM=>aA ⟨Z1,λR Lr=>?_⟩⟩;have s4:=a8 fv<|Ls [];have s5:=a8 XM<|.tup [.str<|aM iB 0,.ref l1];have s6:=a8 Lr<|.lst [.ref t1];have XN:ai (upd (upd (upd H2 l1<|.lst []) t1<|.tup [.str<|aM iB 0,.ref l1]) R<|.lst [.ref t1]) R [(t1,l1)] [(aM iB 0,[])]:=by
  refine⟨rfl,aD,λi a r h1 h2=>?_,by simp⟩;cases i with
  | zero=>
   cases h1;cases h2;exact⟨s6 _ _ aD,s6 _ _<|s5 _ _ aD⟩
  | succ i=>simp at h1
 have fR:H2 R=none:=s4.free<|s5.free Lr;show Run _ _ _ [some<|.int b1,some<|.int m,some<|.int sm,some<|.int (mn:Int),some<|.ref lt,some<|.ref lp,some<|.ref R,none,none,none,none] (upd (upd (upd H2 l1<|.lst []) t1<|.tup [.str<|aM iB 0,.ref l1]) R<|.lst [.ref t1]);refine iO T.range (ae 3 ⟨(mn:Int),rfl,by omega,by omega,?_⟩);rw [Bd];refine iP (λk σ H3=>∃(as:List<|Addr×Addr) (n:Net) (b:Int) (u:Option V),ai H3 R as n/\ak H2 H3/\(∀ a∈as,H2 a.2=none)/\Full n/\HF n/\(ag n).Perm (dbl<|namesOf sm k)/\n.map (·.1)=namesOf iB n.length/\n.length<=k+1 /\
  σ=[some<|.int b,some<|.int m,some<|.int sm,some<|.int (mn:Int),some<|.ref lt,some<|.ref lp,some<|.ref R,u,none,none,none]) ⟨_,_,b1,_,XN,s4.trans<|s5.trans s6,λa ha=>by rw [Ah] at ha;rw [ha];exact fv,.inl ⟨_,rfl⟩,Xn,List.Perm.refl _,rfl,Am _,rfl⟩ ?_ ?_
 ·rintro k σ H3 hk ⟨as,n,b,u,hR,sH,oD,hF,vk,hp,vp,hlen,rfl⟩;rw [Dg];refine bE 7 nd ?_;have cg:=hR.len;have tl:=hp.length_eq;rw [zu,yL] at tl;have nz:aM sm k∉ag n:=λh=>by
   have h1:=gG.mp<|hp.mem_iff.mp h;have h2:=uk (b:=sm) (m:=k+1) (by omega);rw [ul,Bv] at h2;exact h2.2.2 _ h1 _ (Ah.mpr rfl) rfl
  have n0:0 < n.length:=Cn.mpr hF.some;refine aY 0 nd<|bR GP hr<|ao<|ae 6<|ao<|ae 0<|ao<|bb cS<|ae 4<|ae 7 ⟨lt,_,_,.str<|aM sm k,rfl,rfl,al.of<|sH _ _ e1,iz hk,?_⟩;refine ao<|bb cS<|ae 5<|bQ cT T.len DQ<|ao<|ae 6<|aA ⟨R,_,rfl,.inl<|al.of hR.lst,?_⟩;rw [Ab,cg];refine⟨lp,_,_,.str<|aM iB n.length,rfl,rfl,al.of<|sH _ _ e3,iz (by omega),?_⟩;refine aA ⟨R,as,n,b,aM sm k,aM iB n.length,rfl,hR,JO (uk<|by omega) hp,hF,nz,by omega,by omega,λi nG n' H' XO kp AO AQ ri XQ AT=>?_⟩;have XR:ak H2 H':=λx o hx=>by
   refine kp x o (sH _ _ hx) λhm=>?_
   rcases Ak.mp hm with h | h
   ·rw [h,fR] at hx;cases hx
   ·obtain⟨y,hy,e⟩:=Aj.mp h;rw [<- e,oD y hy] at hx;cases hx
  refine bm ⟨nG,n',i,_,XO,XR,λy hy=>?_,XQ,AT vk,?_,?_,?_,rfl⟩
  ·rcases AO y hy with h | h
   ·exact oD y h
   ·exact sH.free h
  ·refine AQ.trans ?_;rw [ul,Vc];refine List.Perm.trans ?_ Cf;exact((hp.cons _).cons _)
  ·rcases ri with h | h
   ·have hl:=BZ List.length h;rw [Ab,Ab] at hl;rw [h,hl];exact vp
   ·have hl:=BZ List.length h;rw [Ab,Ag,Ab] at hl;have iX:n'.length=n.length+1:=hl;rw [h,iX,ul,vp]
  ·rcases ri with h | h
   ·have hl:=BZ List.length h;rw [Ab,Ab] at hl;omega
   ·have hl:=BZ List.length h;rw [Ab,Ag,Ab] at hl;have iX:n'.length=n.length+1:=hl;omega
 rintro σ H3 ⟨XS,n0,b,u,hR,sH,oD,hF,AU,hp,vp,hlen,rfl⟩;have tl:=hp.length_eq;rw [zu,yL] at tl;have Lv:aj n0:=JO (uk<|by omega) hp;have XT:(n0.map (·.1)).Nodup:=by rw [vp];exact uk<|by omega
 refine aY 8 nd<|dL<|aA ⟨Z0,λL hL=>?_⟩;have s7:=a8 hL<|.lst [];have Lw:R≠L:=bt hR.lst hL;have fL:H2 L=none:=sH.free hL;have kD:ai (upd H3 L<|.lst []) L [] []:=⟨rfl,aD,λi a r h1=>by simp at h1,by simp⟩;refine yF (λk σ H4=>∃(as lK:List<|Addr×Addr) (n n2:Net) (b:Int) (u9 g7:Option V),k=n.length/\ai H4 R as n/\ai H4 L lK n2/\ak H2 H4/\(∀ a∈as,a.2≠L)/\(∀ a∈lK,a.2≠R)/\(∀ a∈lK,H2 a.2=none)/\n.length+n2.length=n0.length /\
   (ag n++ag n2).Perm (ag n0)/\(n.map (·.1)++n2.map (·.1)).Perm (n0.map (·.1))/\(NE n0->NE n/\NE n2)/\HF (n++n2) /\
   σ=[some<|.int b,some<|.int m,some<|.int sm,some<|.int (mn:Int),some<|.ref lt,some<|.ref lp,some<|.ref R,u,some<|.ref L,u9,g7])
  (m0:=n0.length) ⟨XS,[],n0,[],b,_,_,rfl,hR.same s7,kD,sH.trans s7,λa ha=>(hR.fresh hL ha).symm,λa ha=>(nomatch ha),λa ha=>(nomatch ha),rfl,by simp [ag],by simp,λh=>⟨h,λr hr=>(nomatch hr)⟩,by rw [Bz];exact AU,rfl⟩ ?_
 rintro k σ H4 ⟨as,lK,n,n2,b,u9,g7,rfl,hR,o7,sH,aL,aR,Lx,rj,pt,pn,bu,vk,rfl⟩;have cg:=hR.len;have AV:=o7.len;have XU:(ag n).length<=70:=by
  have:=pt.length_eq;rw [Ag] at this;omega
 refine dM (qv hu)<|ae 6<|dL<|aA ⟨Z0,λp ii=>?_⟩;have s8:=a8 ii<|.lst []
 by_cases h0:n=[]
 ·subst h0;have ea:as=[]:=Bi.mp (by simpa using cg);subst ea;refine⟨1,_,by decide,yB (k:=0) (xs:=[]) (ys:=[]) (λ_=>true) (al.of<|s8 _ _ hR.lst) (al.of aD) rfl (λj x y hx _=>by simp at hx),_,rfl,cU<|b5<|ae 8 ?_⟩;have fE:(ag n2).Perm (ag n0):=pt;have XW:(n2.map (·.1)).Perm (n0.map (·.1)):=pn;have l2:n2.length=n0.length:=by simpa using rj
  refine q L lK n2 _ (AK.trans<|sH.trans s8) (AK.free fL) (o7.same s8) (λz hz=>?_) (XW.nodup_iff.mpr XT) ?_ vk (by rw [fE.length_eq];omega) (by omega) λa ha=>AK.free<|Lx a ha
  ·rw [fE.count_eq];exact Lv z<|fE.mem_iff.mp hz
  ·rcases hF.ne with ⟨nm,h⟩ | h
   ·subst h;have t0:ag n2=[]:=List.Perm.eq_nil fE
    match n2,l2,t0 with
    | [(nm2,zs)],_,t0=>
     have:zs=[]:=by simpa [ag] using t0
     subst this;exact .inl ⟨_,rfl⟩
   ·refine Vd (bu h).2 λe=>?_;rw [e] at l2;exact hF.some<|Bi.mp l2.symm
 ·have np:0 < n.length:=Cn.mpr h0;refine⟨1,_,by decide,Ji (k:=1) (al.of<|s8 _ _ hR.lst) (al.of (xs:=[]) aD) (by rw [Ab,cg];exact Cr np),_,rfl,gN ?_⟩;have hR:=hR.same s8;have o7:=o7.same s8;have sH:=sH.trans s8;generalize upd H4 p (.lst [])=H5 at hR o7 sH ⊢;have r0:0<=b % (n.length:Int):=Bt _ (by omega);have r1:b % (n.length:Int) < n.length:=Cc _ (by omega);obtain⟨j,hj⟩:∃ k:Nat,b % (n.length:Int)=k:=⟨(b % (n.length:Int)).toNat,by omega⟩;have nJ:j < n.length:=by omega
  obtain⟨a,ea,fB,et,el,er⟩:=hR.at nJ;refine aY 9 nd<|yD EY PySem.F.slot_list_pop PySem.F.type_list_pop QO<|ae 6 ⟨Lq hR.lst,aQ cJ<|ae 0<|bQ cT T.len DQ<|ao<|ae 6<|aA ⟨R,_,rfl,.inl<|al.of hR.lst,?_⟩⟩;rw [Ab,cg];refine⟨_,_,rfl,rfl,by omega,R,_,_,j,.ref a.1,rfl,rfl,hR.lst,by rw [hj];omega,by rw [hj];omega,?_,?_,?_⟩
  ·rw [hj,Ab,cg];unfold seqIndex?;have c1:¬((j:Int) < 0):=by omega
   simp only [c1,CT];have c2:(decide (0<=(j:Int)) && decide ((j:Int) < (n.length:Int)))=true:=by
    rw [By,DR,DR];omega
   rw [BP c2,Bd]
  ·rw [Ai,ea];rfl
  have R6:=hR.erase nJ;have am:a∈as:=Ap ea;have AW:∀ x∈as,x.2≠R:=λx hx e=>by
   obtain⟨zs,e2⟩:=hR.lists hx;have h3:=hR.lst;rw [<- e,e2] at h3;have h4:=HO.lst.inj<|Option.some.inj h3;cases as with
   | nil=>cases hx
   | cons b' bs=>
    cases zs with
    | nil=>simp at h4
    | cons y r=>simp at h4
  have L6:=o7.upd (o:= .lst<|(as.map λa=>V.ref a.1).eraseIdx j) hR.lst Lw.symm aR;have rk:(upd H5 R<|.lst<|(as.map λa=>V.ref a.1).eraseIdx j) a.1=some (.tup [.str n[j].1,.ref a.2]):=by rw [ay<|b9 et hR.lst λe=>nomatch e];exact et
  have vq:(upd H5 R<|.lst<|(as.map λa=>V.ref a.1).eraseIdx j) a.2=some (Ls<|row n j):=by rw [ay<|AW a am];exact el
  have ra:ak H2 (upd H5 R<|.lst<|(as.map λa=>V.ref a.1).eraseIdx j):=fZ sH fR;generalize upd H5 R (.lst<|(as.map λa=>V.ref a.1).eraseIdx j)=H6 at R6 L6 rk vq ra ⊢;have XX:=R6.len;have nK:(n.eraseIdx j).length=n.length - 1:=by rw [Cp,BP nJ]
  refine aY 0 nd<|aQ gu<|ae 0<|aQ fc<|bQ cT T.len DQ<|ao<|ae 6<|aA ⟨R,_,rfl,.inl<|al.of R6.lst,aB ⟨_,_,rfl,rfl,?_⟩⟩;rw [Ab,XX,nK];refine⟨_,_,rfl,rfl,⟨by omega,by omega⟩,?_⟩;have XY:=gW n j;refine aY 10 nd<|bQ (wI rfl) T.max MF<|ao<|aB<|ao<|bQ cT T.len DQ<|ao<|bb cw<|ae 9<|aB ⟨a.1,_,_,.ref a.2,rfl,rfl,a7.of rk,rfl,aA ⟨a.2,_,rfl,.inl<|al.of vq,?_⟩⟩;rw [Ab];refine aA ⟨1,_,rfl,?_⟩;have XZ:(if((row n j).length:Int) > 1 then((row n j).length:Int) else 1)=((max 1 (row n j).length:Nat):Int):=by
   split <;> omega
  rw [XZ];show Run _ _ _ [some<|.int<|b / ((n.length - 1:Nat)+1:Int),some<|.int m,some<|.int sm,some<|.int (mn:Int),some<|.ref lt,some<|.ref lp,some<|.ref R,u,some<|.ref L,some<|.ref a.1,some<|.int ((max 1 (row n j).length:Nat):Int)] H6;generalize b / ((n.length - 1:Nat)+1:Int)=b2;have z0:0<=b2 % ((max 1 (row n j).length:Nat):Int):=Bt _ (by omega);obtain⟨i,hi⟩:∃ k:Nat,b2 % ((max 1 (row n j).length:Nat):Int)=k:=⟨(b2 % ((max 1 (row n j).length:Nat):Int)).toNat,by omega⟩;refine fS<|jF<|ae 8 ⟨L,rfl,⟨_,L6.lst⟩,gS<|ao<|bb cw<|ae 9<|aB ⟨a.1,_,_,.str n[j].1,rfl,rfl,a7.of rk,rfl,?_⟩⟩;refine ao (aQ Hq<|xL w5<|bb cw<|ae 9<|aB ⟨a.1,_,_,.ref a.2,rfl,rfl,a7.of rk,rfl,xN<|aQ cJ<|ae 0<|ae 10 ⟨b2,((max 1 (row n j).length:Nat):Int),rfl,rfl,by omega,_,rfl,xM ⟨a.2,_,rfl,al.of vq,λp1 lL=>?_⟩⟩⟩);rw [hi,Vf];have t1:=a8 lL<|Ls<|(row n j).drop i;refine xL w5 (bb cw<|ae 9<|aB ⟨a.1,_,_,.ref a.2,rfl,rfl,a7.of<|t1 _ _ rk,rfl,xM<|xN<|aQ cJ<|ae 0<|ae 10 ⟨b2,((max 1 (row n j).length:Nat):Int),rfl,rfl,by omega,_,rfl,a.2,_,rfl,al.of<|t1 _ _ vq,λp2 ii=>?_⟩⟩);rw [hi,Vg];have t2:=a8 ii<|Ls<|(row n j).take i;refine⟨p1,p2,_,_,rfl,rfl,t2 _ _ aD,aD,?_,λp3 nL=>?_⟩
  ·rw [Ab,Ab,Co,Br];exact small<|by omega
  rw [<- Al];have t3:=a8 nL<|Ls<|(row n j).drop i++(row n j).take i;refine aA ⟨Z2,λt4 X0=>?_⟩;have s4:=a8 X0<|.tup [.str n[j].1,.ref p3];have nM:=t1.trans<|t2.trans<|t3.trans s4;have L7:=L6.same nM;have R7:=R6.same nM;have X1:p3≠L:=λe=>by rw [e,(t1.trans t2) _ _ L6.lst] at nL;cases nL
  have X2:p3≠R:=λe=>by rw [e,(t1.trans t2) _ _ R6.lst] at nL;cases nL
  have X3:p3∉lK.map (·.2):=λhm=>by
   obtain⟨y,hy,e⟩:=Aj.mp hm;exact(L6.same<|t1.trans t2).fresh nL hy e.symm
  have L8:=L7.more (t:=t4) (l:=p3) (pt:=n[j].1) (zs:=(row n j).drop i++(row n j).take i) aD (s4 _ _ aD) X3 X1;refine⟨_,L7.lst,by rw [Ab,AV];exact cD (by omega),?_⟩;have Ly:∀ x∈as.eraseIdx j,x.2≠L:=λx hx=>aL x<|Ey hx;have R8:=R7.upd (o:= .lst<|lK.map (λa=>V.ref a.1)++[.ref t4]) L7.lst Lw Ly;refine aY 0 nd (aQ gu<|ae 0<|ae 10 ⟨b2,((max 1 (row n j).length:Nat):Int),rfl,rfl,⟨by omega,by omega⟩,?_⟩);have pe:=JP n j nJ;have ne:=Ve n j nJ;have Lz:(ag (n.eraseIdx j)++ag (n2++[(n[j].1,(row n j).drop i++(row n j).take i)])).Perm (ag n0):=by
   refine List.Perm.trans ?_ pt;unfold ag;rw [Ez];show(ag (n.eraseIdx j)++(ag n2++(((row n j).drop i++(row n j).take i)++[]))).Perm _;rw [Bz,er];have w1:(n[j].2.drop i++n[j].2.take i).Perm n[j].2:=zv _ _;refine((w1.append_left _).append_left _).trans ?_;have w2:(ag n++ag n2).Perm ((n[j].2++ag (n.eraseIdx j))++ag n2):=pe.append_right _;refine List.Perm.trans ?_ w2.symm;rw [Ar];refine List.Perm.trans ?_<|Cf (l₁:=ag (n.eraseIdx j)++ag n2);rw [Ar]
  refine bm ⟨n.length - 1,by omega,as.eraseIdx j,lK++[(t4,p3)],n.eraseIdx j,n2++[(n[j].1,(row n j).drop i++(row n j).take i)],_,_,_,nK.symm,R8,L8,fZ (ra.trans nM) fL,Ly,λx hx=>?_,λx hx=>?_,?_,Lz,?_,λh=>⟨λr hr=>?_,λr hr=>?_⟩,Xq nJ (by have:=Cc b2 (show(0:Int) < ((max 1 (row n j).length:Nat):Int) by omega);rw [hi] at this;exact Int.ofNat_lt.mp this) Lv pt Lz vk,rfl⟩
  ·rcases An.mp hx with hx | hx
   ·exact aR x hx
   ·rw [Ah] at hx;rw [hx];exact X2
  ·rcases An.mp hx with hx | hx
   ·exact Lx x hx
   ·rw [Ah] at hx;rw [hx];exact ra.free<|t1.free<|t2.free nL
  ·rw [Ag,nK];simp;omega
  ·refine List.Perm.trans ?_ pn;rw [Al];show((n.eraseIdx j).map (·.1)++(n2.map (·.1)++[n[j].1])).Perm _;refine List.Perm.trans ?_ (ne.append_right _).symm;rw [<- Ar];exact Cf
  ·exact(bu h).1 r<|Ey hr
  ·rcases An.mp hr with hr | hr
   ·exact(bu h).2 r hr
   ·rw [Ah] at hr;rw [hr];intro e;have w1:=(zv (row n j) i).length_eq;have e':(row n j).drop i++(row n j).take i=[]:=e;rw [e'] at w1;have:=(bu h).1 n[j]<|Bn nJ;rw [er] at w1;exact this<|Bi.mp w1.symm
def AX:Sp:=λvs H Q _=>∃(R:Addr) (as:List<|Addr×Addr) (n:Net),vs=[.ref R]/\ai H R as n/\n.length<=1000/\∀ L nG H',ak H H'->H L=none->(∀ a∈nG,H a.1=none/\H a.2=none)->ai H' L nG n->Q (.ref L) H'
theorem lM{H H':Hp}{l:Addr}(s:ak H H')(h:H' l=none):H l=none:=by
 cases e:H l with
 | none=>rfl
 | some v=>rw [s _ _ e] at h;cases h
abbrev NC:List Str:=["_law_rows"]
abbrev LA:List Str:=["_law_rows","_law_row"]
theorem jl:aq NC ["_law_rows"] (bd uA):=⟨rfl,rfl,rfl,by decide +kernel,rfl,by decide +kernel,by decide +kernel⟩
theorem AY:LA.Nodup:=by decide +kernel
theorem X4{f:Addr}{fd:FuncData}(F:bL K "_law_copy" "_law_copy" uA f fd)(T:Txt mg):aG P w K mg base bG 1 f fd ["_law_rows"] AX:=by
 refine F.gb jl (λvs H Q E h=>?_) λb0 H vs Q E hr h=>?_
 ·obtain⟨R,as,n,rfl,_⟩:=h;rfl
 obtain⟨R,as,n,rfl,hR,hn,q⟩:=h;have nd:=jl.nd;have cg:=hR.len;show Run _ _ _ [some<|.ref R] H;refine b5<|j9 (bd uA) NC LA 1 (ie bK)<|ae 0 ⟨R,rfl,⟨_,al.of hR.lst⟩,λD hD=>?_⟩;refine qF (xs:=as.map λa=>V.ref a.1) (λi σ' H'=>(∃ v,σ'=[some<|.ref R]++[v])/\∃ bs:List<|Addr×Addr,bs.length=i/\H' D=some (.lst<|bs.map λa=> .ref a.1) /\
  (∀(j:Nat) a r,bs[j]?=some a->n[j]?=some r->H' a.1=some (.tup [.str r.1,.ref a.2])/\H' a.2=some (Ls r.2))/\(bs.map (·.2)).Nodup/\(∀ a∈bs,a.2≠D/\H a.1=none/\H a.2=none/\∃ zs,H' a.2=some (Ls zs))/\ak H H')
  ⟨⟨none,rfl⟩,[],rfl,aD,λj a r h=>by simp at h,Cj,λa h=>by simp at h,a8 hD _⟩ ?_ ?_ ?_
 ·rintro i σ' H' _ ⟨_,bs,_,_,_,_,_,sm⟩;exact al.of<|sm _ _ hR.lst
 ·rintro i x σ' H' hx ⟨⟨v,rfl⟩,bs,oK,kc,AZ,ro,o8,sm⟩;have hi:i < n.length:=by
   have:=(Ac.mp hx).1;rw [Ab] at this;omega
  obtain⟨a,ea,fB,et,el,er⟩:=(hR.same sm).at hi;rw [Ai,ea] at hx;cases hx;intro cl C' s₀ H₀ ex;refine bE 1 AY ?_;intro cl C' s₀ H₀ ex;refine jB ?_;rw [BP rfl];intro cl C' s₀ H₀ ex;refine gS<|ao<|bb cw<|ae 1<|aB ⟨a.1,_,_,.str n[i].1,rfl,rfl,a7.of et,rfl,?_⟩;refine ao<|oA Qw T.i6 KQ<|ao<|bb cw<|ae 1<|aB ⟨a.1,_,_,.ref a.2,rfl,rfl,a7.of et,rfl,?_⟩;refine aA ⟨a.2,_,rfl,.inl<|al.of el,λl hl=>aA ⟨Z2,λt ht=>?_⟩⟩;have j8:=lM sm hl;have A0:t≠l:=λe=>by rw [e,aD] at ht;cases ht
  have eQ:H' t=none:=by rw [ay A0] at ht;exact ht
  have LD:=lM sm eQ;have o9:l≠D:=λe=>by rw [e] at hl;rw [hl] at kc;cases kc
  have LI:t≠D:=λe=>by rw [e] at eQ;rw [eQ] at kc;cases kc
  refine⟨bs.map λa=> .ref a.1,?_,?_,⟨_,rfl⟩,bs++[(t,l)],by rw [Ag,oK];rfl,?_,?_,?_,?_,?_⟩
  ·rw [ay<|CN LI,ay<|CN o9];exact kc
  ·rw [Ab];exact cD<|by omega
  ·rw [aD,Al];rfl
  ·intro j b r hb kz
   by_cases hj:j < bs.length
   ·rw [Aq hj] at hb;obtain⟨q1,q2⟩:=AZ j b r hb kz;have X5:=(o8 b<|Ap hb).1;have n1:b.1≠D:=b9 q1 kc λz=>nomatch z;refine⟨?_,?_⟩
    ·rw [ay n1,ay<|bt q1 eQ,ay<|bt q1 hl];exact q1
    ·rw [ay X5,ay<|bt q2 eQ,ay<|bt q2 hl];exact q2
   ·rw [Ay<|by omega] at hb;have jM:j - bs.length=0:=by
     have:=(Ac.mp hb).1;simp at this;omega
    have vt:j=i:=by omega
    rw [jM] at hb;cases hb;rw [vt,Aa hi] at kz;cases kz;refine⟨?_,?_⟩
    ·rw [ay LI,aD]
    ·rw [ay o9,ay<|CN A0,aD,er]
  ·rw [Al];refine qf ro λhm=>?_;obtain⟨b,hb,e⟩:=Aj.mp hm;obtain⟨_,_,_,zs,q⟩:=o8 b hb;have e':b.2=l:=e;rw [e',hl] at q;cases q
  ·intro b hb
   rcases An.mp hb with hb | hb
   ·obtain⟨q1,q2,q3,zs,q4⟩:=o8 b hb;refine⟨q1,q2,q3,zs,?_⟩;rw [ay q1,ay<|bt q4 eQ,ay<|bt q4 hl];exact q4
   ·rw [Ah.mp hb];refine⟨o9,LD,j8,row n i,?_⟩;rw [ay o9,ay<|CN A0,aD]
  ·intro c o hc;rw [ay<|bt hc hD,ay<|bt hc LD,ay<|bt hc j8];exact sm _ _ hc
 ·rintro σ' H' ⟨_,bs,oK,kc,AZ,ro,o8,sm⟩;rw [Ab] at oK;exact q D bs H' sm hD (λa ha=>⟨(o8 a ha).2.1,(o8 a ha).2.2.1⟩) ⟨by omega,kc,AZ,ro⟩
end
abbrev Tn(p:Str)(j:Int):HO:= .tup [.str p,.int j]
def rp:Sp:=λvs H Q _=>∃(t l:Addr) (p:Str) (zs:List Str),vs=[.ref t]/\H t=some (.tup [.str p,.ref l])/\H l=some (Ls zs)/\zs.length<=1000 /\
 ∀(L:Addr) (ts:List Addr) (H':Hp),ak H H'->H L=none->H' L=some (.lst<|ts.map V.ref)->ts.length=zs.length->(∀(j:Nat) t,ts[j]?=some t->H' t=some (Tn p j))->Q (.ref L) H'
section
variable{X:Cx}{elt tg:Expr}{ifs:List Expr}{scope:Scope}{σ:St}{H:Hp}{N':List Str}{A:Addr}{after:Hp->Prop}
theorem X6{lo:Int}{n:Nat}(Pv:Nat->St->Hp->Prop)(h0:Pv 0 σ H)
  (hs : ∀ i σ' H', i < n → Pv i σ' H' → xT X N' scope tg (.int<|lo + i) σ' H' λσ2 H3 => xU X N' scope ifs σ2 H3 λb H4 =>
   if b=true then xS X N' scope elt σ2 H4 λv H5=>∃ ys,H5 A=some (.lst ys)/\ys.length < sizeLine/\Pv (i+1) σ2 (upd H5 A<|.lst<|ys++[v]) else Pv (i+1) σ2 H4)
  (hd:∀ σ' H',Pv n σ' H'->after H'):oB X N' scope tg ifs elt (om lo n) A after σ H:=by
 refine⟨λi m σ' H'=>m=n - i/\i<=n/\Pv i σ' H',⟨_,rfl,Bq _,h0⟩,?_⟩;rintro i m σ' H' ⟨rfl,hi,p⟩
 by_cases aS:i < n
 ·refine .inr ⟨aS,Pv<|i+1,λσ' H' p'=>⟨n - (i+1),by omega,rfl,aS,p'⟩,λx H2 y=>?_⟩;obtain⟨e,y⟩:=y;subst e y;exact hs i σ' _ aS p
 ·have e:i=n:=by omega
  subst e;exact .inl ⟨Am _,hd σ' H' p⟩
end
section
variable{P:Program}{w:World}{K:PySem.W.Frag}{mg:Str->Option Value}{base:Heap}
abbrev LJ:List Str:=["row","point","ties"]
abbrev LL:List Str:=["row","point","ties","place"]
theorem jm:aq LJ ["row"] (bd uo):=⟨rfl,rfl,rfl,by decide +kernel,rfl,by decide +kernel,by decide +kernel⟩
theorem X7:LL.Nodup:=by decide +kernel
theorem X8{f:Addr}{fd:FuncData}(F:bL K "ends_round" "ends_round" uo f fd)(T:Txt mg):aG P w K mg base bG 1 f fd ["row"] rp:=by
 refine F.gb jm (λvs H Q E h=>?_) λb0 H vs Q E hr h=>?_
 ·obtain⟨t,l,p,zs,rfl,_⟩:=h;rfl
 obtain⟨t,l,p,zs,rfl,ht,hl,hz,q⟩:=h;have nd:=jm.nd;show Run _ _ _ [some<|.ref t,none,none] H;refine xR<|ae 0<|nh rfl (a7.of ht) (bE 1 nd<|bE 2 nd ?_);show Run _ _ _ [some<|.ref t,some<|.str p,some<|.ref l] H;refine b5<|j9 (bd uo) LJ LL 1 (FX rfl T.range (ta:=qg _ _) gR (mG _ [] _ rfl)) ?_;show Ea _ _ _ _ _;refine ao (bQ cT T.len DQ<|ao<|ae 2<|aA ⟨l,_,rfl,.inl<|al.of hl,aA ⟨_,rfl,by omega,by rw [Ab];omega,λD hD=>?_⟩⟩);rw [Ab,Bd];refine X6 (λi σ' H'=>(∃ v,σ'=[some<|.ref t,some<|.str p,some<|.ref l]++[v])/\∃ ts:List Addr,ts.length=i/\H' D=some (.lst<|ts.map V.ref)/\(∀(j:Nat) t,ts[j]?=some t->H' t=some (Tn p j))/\ak H H')
  ⟨⟨none,rfl⟩,[],rfl,aD,λj t h=>by simp at h,a8 hD _⟩ ?_ ?_
 ·rintro i σ' H' hi ⟨⟨v,rfl⟩,ts,fv,eD,rq,sm⟩;rw [Dg];intro cl C' s₀ H₀ ex;refine bE 3 X7 ?_;intro cl C' s₀ H₀ ex;refine jB ?_;rw [BP rfl];intro cl C' s₀ H₀ ex;refine gS<|ao<|ae 1<|ao<|ae 3<|aA ⟨Z2,λu hu=>?_⟩;have nu:u≠D:=λe=>by rw [e,eD] at hu;cases hu
  have X9:=lM sm hu;refine⟨ts.map V.ref,by rw [ay<|CN nu];exact eD,by rw [Ab];exact cD (by omega),⟨_,rfl⟩,ts++[u],by rw [Ag,fv];rfl,by rw [aD,Al];rfl,?_,?_⟩
  ·intro j t' eQ
   by_cases hj:j < ts.length
   ·rw [Aq hj] at eQ;have e:=rq j t' eQ;have n1:t'≠D:=b9 e eD λz=>nomatch z;rw [ay n1,ay<|bt e hu];exact e
   ·rw [Ay<|by omega] at eQ;have jM:j - ts.length=0:=by
     have:=(Ac.mp eQ).1;simp at this;omega
    rw [jM] at eQ;cases eQ;have:j=i:=by omega
    rw [this,ay nu,aD]
  ·intro c o hc;rw [ay<|bt hc hD,ay<|bt hc X9];exact sm _ _ hc
 ·rintro σ' H' ⟨_,ts,fv,eD,rq,sm⟩;exact q D ts H' sm hD eD fv rq
def f9(g:Int->Int):Sp:=λvs H Q _=>∃(e:Addr) (p:Str) (j m:Int),vs=[.ref e,.int m]/\H e=some (Tn p j)/\0 < m/\∀ t H',ak H H'->H' t=some (Tn p<|g j % m)->Q (.ref t) H'
abbrev LN:List Str:=["end","many","point","place"]
theorem jn:aq LN ["end","many"] (bd yM):=⟨rfl,rfl,rfl,by decide +kernel,rfl,by decide +kernel,by decide +kernel⟩
theorem fF:aq LN ["end","many"] (bd yN):=⟨rfl,rfl,rfl,by decide +kernel,rfl,by decide +kernel,by decide +kernel⟩
theorem Ya{f:Addr}{fd:FuncData}(F:bL K "turned_left" "turned_left" yM f fd)(T:Txt mg):aG P w K mg base bG 1 f fd ["end","many"] (f9 λj=>j+1):=by
 refine F.gb jn (λvs H Q E h=>?_) λb0 H vs Q E hr h=>?_
 ·obtain⟨e,p,j,m,rfl,_⟩:=h;rfl
 obtain⟨e,p,j,m,rfl,he,hm,q⟩:=h;have nd:=jn.nd;show Run _ _ _ [some<|.ref e,some<|.int m,none,none] H;refine xR<|ae 0<|nh rfl (a7.of he) (bE 2 nd<|bE 3 nd ?_);refine b5 (gS<|ao<|ae 2<|ao<|aQ cJ<|aQ fc<|ae 3<|aB ⟨_,_,rfl,rfl,ae 1 ⟨_,_,rfl,rfl,(by show 0 < m;exact hm),aA ⟨Z2,λt ht=>?_⟩⟩⟩);exact q t _ (a8 ht _) aD
theorem Yb{f:Addr}{fd:FuncData}(F:bL K "turned_right" "turned_right" yN f fd)(T:Txt mg):aG P w K mg base bG 1 f fd ["end","many"] (f9 λj=>j - 1):=by
 refine F.gb fF (λvs H Q E h=>?_) λb0 H vs Q E hr h=>?_
 ·obtain⟨e,p,j,m,rfl,_⟩:=h;rfl
 obtain⟨e,p,j,m,rfl,he,hm,q⟩:=h;have nd:=fF.nd;show Run _ _ _ [some<|.ref e,some<|.int m,none,none] H;refine xR<|ae 0<|nh rfl (a7.of he) (bE 2 nd<|bE 3 nd ?_);refine b5 (gS<|ao<|ae 2<|ao<|aQ cJ<|aQ wG<|ae 3<|aB ⟨_,_,rfl,rfl,ae 1 ⟨_,_,rfl,rfl,(by show 0 < m;exact hm),aA ⟨Z2,λt ht=>?_⟩⟩⟩);exact q t _ (a8 ht _) aD
theorem Yc{kvs:List (Key×V)}:∀{acc:List (Key×V)},((acc++kvs).map (·.1)).Nodup->kvs.foldl (λa p=>putK a p.1 p.2) acc=acc++kvs:=by
 induction kvs with
 | nil=>intro acc _;simp
 | cons p r ih=>
  intro acc h;have hn:aK acc p.1=none:=by
   cases e:aK acc p.1 with
   | none=>rfl
   | some v=>
    have hm:=HC e;rw [Al,Bj] at h;exact absurd rfl ((Bv.mp h).2.2 _ hm _ Ad)
  rw [Cy,Hw _ hn,ih (by rw [Ar];exact h),Ar];rfl
theorem LO:∀{kvs:List (Key×V)} {i:Nat} {p:Key×V},(kvs.map (·.1)).Nodup->kvs[i]?=some p->aK kvs p.1=some p.2
 | [],_,_,_,h=>by simp at h
 | q :: r,0,p,_,h=>by
  cases h;exact gO rfl
 | q :: r,i+1,p,hn,h=>by
  rw [Bj,Bg] at hn;have hm:r[i]?=some p:=by simpa using h
  rw [gP λe=>hn.1<|by rw [e];exact Aj.mpr ⟨p,Ap hm,rfl⟩];exact LO hn.2 hm
def ga(n:Net)(as:List<|Addr×Addr):List (Key×V):=List.zipWith (λr a=>(Sum.inr r.1,V.ref a.2)) n as
theorem LU:∀(n:Net) (as:List<|Addr×Addr),as.length=n.length->(ga n as).map (·.1)=(n.map (·.1)).map Sum.inr
 | [],[],_=>rfl
 | [],_ :: _,h=>by simp at h
 | _ :: _,[],h=>by simp at h
 | r :: n,a :: as,h=>by
  have:=LU n as (by simpa using h);show Sum.inr r.1 :: (ga n as).map (·.1)=_;rw [this];rfl
theorem LV{n:Net}{as:List (Addr×Addr)}{i:Nat}{r:Str×List Str}{a:Addr×Addr}(h1:n[i]?=some r)(h2:as[i]?=some a):(ga n as)[i]?=some (Sum.inr r.1,.ref a.2):=by
 unfold ga;rw [List.getElem?_zipWith,h1,h2]
theorem Yd{l:List Str}(h:l.Nodup):(l.map (Sum.inr:Str->Key)).Nodup:=by
 rw [Bh,Fk];exact(Bh.mp h).imp λh q=>h<|Sum.inr.inj q
end
def nameAt(n:Net)(r:Nat):Str:=((n[r]?).map (·.1)).getD ⟨#[]⟩
def key(n:Net)(e:Nt.End):List Key:=[Sum.inr<|nameAt n e.1,Sum.inl (e.2:Int)]
abbrev TN(n:Net)(e:Nt.End):HO:=Tn (nameAt n e.1) (e.2:Int)
theorem pc{n:Net}{r:Nat}(h:r < n.length):nameAt n r=n[r].1:=by unfold nameAt;rw [Aa h];rfl
theorem pf{n:Net}(hN:(n.map (·.1)).Nodup){a b:Nt.End}(ha:a.1 < n.length)(hb:b.1 < n.length)(h:key n a=key n b):a=b:=by
 unfold key at h
 injection h with h1 h2
 injection h2 with h2 _
 have e1:=Sum.inr.inj h1;have e2:=Sum.inl.inj h2;rw [pc ha,pc hb] at e1;have e3:a.1=b.1:=by
  have la:a.1 < (n.map (·.1)).length:=by rw [Ab];exact ha
  have lb:b.1 < (n.map (·.1)).length:=by rw [Ab];exact hb
  refine(Gp (i:=a.1) (j:=b.1) (h₀:=la) (h₁:=lb) hN).mp ?_;rw [Dj,Dj];exact e1
 exact HJ e3<|by omega
theorem A1{n:Net}{r p:Nat}{z:Str}(hr:r < n.length)(hz:(row n r)[p]?=some z):∃ rest,bh n=(bh (n.take r)++bo r ((row n r).take p) 0)++(z,(r,p)) :: rest:=by
 have e1:bh n=bh (n.take<|r+1)++dQ (0+(n.take<|r+1).length) (n.drop<|r+1):=by
  have:=yJ (n.take<|r+1) (n.drop<|r+1) 0;rw [De] at this;exact this
 have e2:bo r (row n r) 0=bo r ((row n r).take<|p+1) 0++bo r ((row n r).drop<|p+1) (0+((row n r).take<|p+1).length):=by
  unfold bo;rw [<- Al,<- List.zipIdx_append,De]
 rw [e1,qB hr,e2,oN hz];refine⟨bo r ((row n r).drop<|p+1) (0+((row n r).take<|p+1).length)++dQ (0+(n.take<|r+1).length) (n.drop<|r+1),?_⟩;simp only [Ar,Fp,Gy]
theorem LW{κ:Type} [DecidableEq κ] (kvs:List<|κ×V) (k:κ) (v:V):(putK kvs k v).map (·.1)=if k∈kvs.map (·.1) then kvs.map (·.1) else kvs.map (·.1)++[k]:=by
 have e:(kvs.any λkv=>decide (kv.1=k))=decide (k∈kvs.map (·.1)):=by
  rw [Cw,List.any_eq_true,CJ,Aj];exact⟨λ⟨p,h1,h2⟩=>⟨p,h1,BX h2⟩,λ⟨p,h1,h2⟩=>⟨p,h1,BW h2⟩⟩
 unfold putK;rw [e]
 by_cases h:k∈kvs.map (·.1)
 ·rw [BP<|BW h,BP h,Ck];refine Bu λp _=>?_;show(if p.1=k then(p.1,v) else p).1=p.1
  split <;> rfl
 ·rw [BL (by simpa using h),BL h,Al];rfl
theorem fG{κ:Type} [DecidableEq κ] {kvs:List (κ×V)} {k j:κ} {v:V}:j∈(putK kvs k v).map (·.1)↔j∈kvs.map (·.1)\/j=k:=by
 rw [LW]
 split
 ·exact⟨.inl,λh=>h.elim id λe=>by rw [e];assumption⟩
 ·rw [An,Ah]
theorem LX{κ:Type} [DecidableEq κ] {kvs:List (κ×V)} {k:κ} {v:V} (h:(kvs.map (·.1)).Nodup):((putK kvs k v).map (·.1)).Nodup:=by
 rw [LW]
 split
 ·exact h
 ·rename_i hn;exact qf h hn
structure g8(n:Net)(done:List<|Str×Nt.End)(H:Hp)(kM:List<|Key×V)(kO:List<|List Key×V):Prop where
 m0:∀ z,bS done z=[]->aK kM (Sum.inr z)=none
 m1:∀ z a rest,bS done z=a :: rest->∃ t,aK kM (Sum.inr z)=some (.ref t)/\H t=some (TN n a)
 o:∀ z a b rest,bS done z=a :: b :: rest->(∃ u,aK kO (key n a)=some (.ref u)/\H u=some (TN n b))/\∃ u,aK kO (key n b)=some (.ref u)/\H u=some (TN n a)
 sub:∀ p∈done,aF n p.2=some p.1
 gd:kM.length<=done.length
 eR:kO.length<=2 * done.length
 ks:∀ k∈kO.map (·.1),∃ p∈done,k=key n p.2
 nd:(kO.map (·.1)).Nodup
theorem g8.keep{n:Net}{done:List (Str×Nt.End)}{H H':Hp}{kM:List (Key×V)}{kO:List (List Key×V)}(I:g8 n done H kM kO)(k:∀ t p j,H t=some (Tn p j)->H' t=some (Tn p j)):g8 n done H' kM kO where
 m0:=I.m0
 m1:=λz a rest h=>let ⟨t,e1,e2⟩:=I.m1 z a rest h;⟨t,e1,k _ _ _ e2⟩
 o:=λz a b rest h=>let ⟨⟨u,e1,e2⟩,⟨v,e3,e4⟩⟩:=I.o z a b rest h;⟨⟨u,e1,k _ _ _ e2⟩,⟨v,e3,k _ _ _ e4⟩⟩
 sub:=I.sub
 gd:=I.gd
 eR:=I.eR
 ks:=I.ks
 nd:=I.nd
theorem rz{done:List (Str×Nt.End)}{z:Str}{a:Nt.End}(h:a∈bS done z):(z,a)∈done:=by
 unfold bS at h;obtain⟨⟨y,b⟩,hm,rfl⟩:=Aj.mp h;obtain⟨h1,h2⟩:=Bf.mp hm;have:y=z:=BX h2;subst this;exact h1
theorem g8.new{n:Net}{done:List (Str×Nt.End)}{H:Hp}{kM:List (Key×V)}{kO:List (List Key×V)}(I:g8 n done H kM kO){z:Str}{e:Nt.End}{t:Addr}(ht:H t=some (TN n e))(hz:aF n e=some z)(h0:bS done z=[]) :
  g8 n (done++[(z,e)]) H (putK kM (Sum.inr z)<|.ref t) kO where
 m0:=λy hy=>by
  rw [fN] at hy;obtain⟨h1,h2⟩:=List.append_eq_nil_iff.mp hy;have bu:¬ z=y:=λq=>by rw [BP q] at h2;cases h2
  rw [fQ,BL λq=>bu (Sum.inr.inj q).symm];exact I.m0 y h1
 m1:=λy a rest hy=>by
  rw [fN] at hy
  by_cases q:z=y
  ·subst q;rw [h0,BP rfl] at hy;cases hy;exact⟨t,by rw [fQ,BP rfl],ht⟩
  ·rw [BL q,Bz] at hy;obtain⟨u,e1,e2⟩:=I.m1 y a rest hy;exact⟨u,by rw [fQ,BL λp=>q (Sum.inr.inj p).symm];exact e1,e2⟩
 o:=λy a b rest hy=>by
  rw [fN] at hy
  by_cases q:z=y
  ·subst q;rw [h0,BP rfl] at hy;cases hy
  ·rw [BL q,Bz] at hy;exact I.o y a b rest hy
 sub:=λp hp=>by
  rcases An.mp hp with h | h
  ·exact I.sub p h
  ·rw [Ah.mp h];exact hz
 gd:=by
  have:=ig kM (Sum.inr z)<|.ref t;have:=I.gd;rw [Ag,Dr];omega
 eR:=by
  have:=I.eR;rw [Ag,Dr];omega
 ks:=λk hk=>let ⟨p,hp,e⟩:=I.ks k hk;⟨p,Ax _ hp,e⟩
 nd:=I.nd
theorem g8.old{n:Net}(hN:(n.map (·.1)).Nodup){done:List (Str×Nt.End)}{H:Hp}{kM:List (Key×V)}{kO:List (List Key×V)}(I:g8 n done H kM kO){z:Str}{e a:Nt.End}{te tm:Addr}(ht:H te=some (TN n e))(hm:H tm=some (TN n a))(hz:aF n e=some z)(h1:bS done z=[a])(Ye:a≠e) :
  g8 n (done++[(z,e)]) H kM (putK (putK kO (key n e)<|.ref tm) (key n a)<|.ref te) where
 m0:=λy hy=>by
  rw [fN] at hy;exact I.m0 y (List.append_eq_nil_iff.mp hy).1
 m1:=λy c rest hy=>by
  rw [fN] at hy
  by_cases q:z=y
  ·subst q;rw [h1,BP rfl] at hy;cases hy;exact I.m1 z a [] h1
  ·rw [BL q,Bz] at hy;exact I.m1 y c rest hy
 o:=λy c b rest hy=>by
  rw [fN] at hy;have ta:aF n a=some z:=I.sub (z,a)<|rz<|by rw [h1];exact Ah.mpr rfl
  by_cases q:z=y
  ·subst q;rw [h1,BP rfl] at hy;cases hy;refine⟨⟨te,by rw [fQ,BP rfl],ht⟩,⟨tm,?_,hm⟩⟩;rw [fQ,BL λp=>Ye (pf hN (b6 hz) (b6 ta) p).symm,fQ,BP rfl]
  ·rw [BL q,Bz] at hy;have tc:aF n c=some y:=I.sub (y,c) (rz<|by rw [hy];exact Ad);have tb:aF n b=some y:=I.sub (y,b) (rz<|by rw [hy];exact Ae _ Ad);have ne:∀ x:Nt.End,aF n x=some y->¬ key n x=key n a/\¬ key n x=key n e:=λx hx=>by
    refine⟨λp=>?_,λp=>?_⟩
    ·have:=pf hN (b6 hx) (b6 ta) p;rw [this,ta] at hx;exact q<|Option.some.inj hx
    ·have:=pf hN (b6 hx) (b6 hz) p;rw [this,hz] at hx;exact q<|Option.some.inj hx
   obtain⟨⟨u,e1,e2⟩,⟨v,e3,e4⟩⟩:=I.o y c b rest hy;refine⟨⟨u,?_,e2⟩,⟨v,?_,e4⟩⟩
   ·rw [fQ,BL (ne c tc).1,fQ,BL (ne c tc).2];exact e1
   ·rw [fQ,BL (ne b tb).1,fQ,BL (ne b tb).2];exact e3
 sub:=λp hp=>by
  rcases An.mp hp with h | h
  ·exact I.sub p h
  ·rw [Ah.mp h];exact hz
 gd:=by
  have:=I.gd;rw [Ag,Dr];omega
 eR:=by
  have h1:=ig (putK kO (key n e)<|.ref tm) (key n a)<|.ref te;have h2:=ig kO (key n e)<|.ref tm;have:=I.eR;rw [Ag,Dr];omega
 ks:=λk hk=>by
  rcases fG.mp hk with hk | rfl
  ·rcases fG.mp hk with hk | rfl
   ·obtain⟨p,hp,e⟩:=I.ks k hk;exact⟨p,Ax _ hp,e⟩
   ·exact⟨(z,e),Ao _<|Ah.mpr rfl,rfl⟩
  ·exact⟨(z,a),Ax _ (rz<|by rw [h1];exact Ah.mpr rfl),rfl⟩
 nd:=LX<|LX I.nd
theorem g8.whole{n:Net}(T:aj n){H:Hp}{kM:List (Key×V)}{kO:List (List Key×V)}(I:g8 n (bh n) H kM kO){e:Nt.End}(he:e∈ends n):∃ u,aK kO (key n e)=some (.ref u)/\H u=some (TN n<|other n e):=by
 obtain⟨z,hz⟩:=af.mp he;obtain⟨a,b,hp,fK,t9⟩:=mV T hz;have AQ:bS (bh n) z=a :: b :: []:=hp;have ta:aF n a=some z:=aH.mp (by rw [hp];simp);have tb:aF n b=some z:=aH.mp (by rw [hp];simp);obtain⟨o1,o2⟩:=I.o z a b [] AQ
 rcases t9 with rfl | rfl
 ·have:b=other n e:=((ix T hz).mp tb).resolve_left<|CN fK;rw [<- this];exact o1
 ·have:a=other n e:=((ix T hz).mp ta).resolve_left fK;rw [<- this];exact o2
def jo:Sp:=λvs H Q _=>∃(R:Addr) (as:List<|Addr×Addr) (n:Net),vs=[.ref R]/\ai H R as n/\(n.map (·.1)).Nodup/\aj n/\n.length<=1000/\(ag n).length<=1000 /\
 ∀(d:Addr) (kvs:List<|List Key×V) (H':Hp),ak H H'->H d=none->H' d=some (.dT kvs)->(∀ e∈ends n,∃ u,aK kvs (key n e)=some (.ref u)/\H' u=some (TN n<|other n e))->(kvs.map (·.1)).Nodup->(∀ k∈kvs.map (·.1),∃ e∈ends n,k=key n e)->kvs.length<=2000->Q (.ref d) H'
section
variable{X:Cx}{D:Ends}{σ:St}{H:Hp}{body:List Stmt}
theorem Yf{tg:Expr}{a b:Addr}{xs ys:List V}{after:St->Hp->Prop}(hlen:xs.length=ys.length)(Pv:Nat->St->Hp->Prop)(h0:Pv 0 σ H)(hl:∀ i σ H,i<=xs.length->Pv i σ H->al X.K H a xs/\al X.K H b ys)
  (hs:∀ i x y T σ H,xs[i]?=some x->ys[i]?=some y->Pv i σ H->H T=none->Eg X tg (.ref T) σ (upd H T<|.tup [x,y]) λσ2 H2=>Run X body {D with nx:=Pv<|i+1,ct:=Pv<|i+1,bk:=after} σ2 H2) (hd:∀ σ H,Pv xs.length σ H->after σ H):Loop X tg body (uI X.K a b) D after σ H:=by
 refine⟨λi m σ H=>m=xs.length - i/\i<=xs.length/\Pv i σ H,⟨xs.length,by simp,Bq _,h0⟩,?_⟩;rintro i m σ H ⟨rfl,hi,p⟩;obtain⟨q1,q2⟩:=hl i σ H hi p
 by_cases aS:i < xs.length
 ·refine .inr ⟨⟨xs,ys,xs[i],ys[i],q1,q2,Aa aS,Aa<|by omega⟩,Pv<|i+1,λσ' H' p'=>⟨xs.length - (i+1),by omega,rfl,aS,p'⟩,λv H' y=>?_⟩;obtain⟨T,x,y,hT,rfl,rfl,y1,y2⟩:=y;exact hs i x y T σ _ (y1 xs q1) (y2 ys q2) p hT
 ·have e:i=xs.length:=by omega
  subst e;exact .inl ⟨⟨xs,ys,q1,q2,.inl<|Am _⟩,hd σ H p⟩
end
section
variable{P:Program}{w:World}{K:PySem.W.Frag}{mg:Str->Option Value}{base:Heap}
abbrev Yg:List Str:=["rows","met","others","row","end","tie"]
theorem rA:aq Yg ["rows"] (bd yO):=⟨rfl,rfl,rfl,by decide +kernel,rfl,by decide +kernel,by decide +kernel⟩
theorem LY{H:Hp}{t d:Addr}{xs:List V}{kvs:List (Key×V)}(h:H t=some (.tup xs))(g:H d=some (.dK kvs)):t≠d:=b9 h g λz=>nomatch z
theorem nN{H:Hp}{t d:Addr}{xs:List V}{kvs:List (List Key×V)}(h:H t=some (.tup xs))(g:H d=some (.dT kvs)):t≠d:=b9 h g λz=>nomatch z
theorem Yh{f:Addr}{fd:FuncData}(F:bL K "other_ends" "other_ends" yO f fd)(T:Txt mg)
  (GE:aV P w K mg base 1 "ends_round" ["row"] rp) :
  aG P w K mg base bG 2 f fd ["rows"] jo:=by
 refine F.gb rA (λvs H Q E h=>?_) λb0 H vs Q E hr h=>?_
 ·obtain⟨R,as,n,rfl,_⟩:=h;rfl
 obtain⟨R,as,n,rfl,hR,hN,hT,hn,ht,q⟩:=h;have nd:=rA.nd;have cg:=hR.len;have hu:=hr.u1;show Run _ _ _ [some<|.ref R,none,none,none,none,none] H;refine aY 1 nd<|Jo λdm vw=>?_;refine aY 2 nd<|Uo λdO vx=>?_;show Run _ _ _ [some<|.ref R,some<|.ref dm,some<|.ref dO,none,none,none] (upd (upd H dm<|.dK []) dO<|.dT []);have rB:dO≠dm:=λe=>by rw [e,aD] at vx;cases vx
 have nO:H dO=none:=by rw [ay rB] at vx;exact vx
 have em:(upd (upd H dm<|.dK []) dO<|.dT []) dm=some (.dK []):=by rw [ay<|CN rB,aD]
 have eo:(upd (upd H dm<|.dK []) dO<|.dT []) dO=some (.dT []):=aD;have s0:ak H (upd (upd H dm<|.dK []) dO<|.dT []):=λb o h=>by rw [ay<|bt h nO,ay<|bt h vw];exact h
 generalize upd (upd H dm<|.dK []) dO (.dT [])=H1 at em eo s0 ⊢;refine j6<|ae 0 ⟨R,rfl,⟨_,al.of<|s0 _ _ hR.lst⟩,j7 (xs:=as.map λa=>V.ref a.1) (λr σ H'=>∃ kM kO u1 u2 u3,ak H H'/\H' dm=some (.dK kM)/\H' dO=some (.dT kO)/\g8 n (bh<|n.take r) H' kM kO/\σ=[some<|.ref R,some<|.ref dm,some<|.ref dO,u1,u2,u3])
  ⟨[],[],_,_,_,s0,em,eo,⟨λ_ _=>rfl,λz a rest h=>(by cases h),λz a b rest h=>(by cases h),λp h=>(by cases h),Bq _,Bq _,λk h=>(by cases h),Cj⟩,rfl⟩ ?_ ?_ ?_⟩
 ·rintro r σ H' _ ⟨kM,kO,u1,u2,u3,sm,_⟩;exact al.of<|sm _ _ hR.lst
 ·rintro r x σ H' hx ⟨kM,kO,u1,u2,u3,sm,LZ,A2,I,rfl⟩;have hi:r < n.length:=by
   have:=(Ac.mp hx).1;rw [Ab] at this;omega
  obtain⟨a,ea,fB,et,el,er⟩:=(hR.same sm).at hi;rw [Ai,ea] at hx;cases hx;have ji:(row n r).length<=1000:=Ce (gW n r) ht;have Yi:nameAt n r=n[r].1:=pc hi;refine bE 3 nd ?_;refine tP (J8 rfl T.zip (ta:=qg _ _) gR) ?_;show Ea _ _ _ _ _;refine ao<|bR GE hr<|ao<|ae 3<|aA ⟨a.1,a.2,n[r].1,row n r,rfl,et,el,ji,λL ts H5 s5 n5 e5 l5 t5=>?_⟩;refine ao<|bb cw<|ae 3<|aB ⟨a.1,_,_,.ref a.2,rfl,rfl,a7.of<|s5 _ _ et,rfl,aA ⟨L,a.2,rfl,⟨_,al.of e5⟩,⟨_,al.of<|s5 _ _ el⟩,?_⟩⟩;have vy:=s5 _ _ LZ;have vz:=s5 _ _ A2;have ph:=s5 _ _ el;refine Yf (xs:=ts.map V.ref) (ys:=(row n r).map V.str) (by rw [Ab,Ab,l5]) (λp σ' cP=>∃ kM kO u2 u3,(∀ b o,b≠dm->b≠dO->H5 b=some o->cP b=some o)/\cP dm=some (.dK kM)/\cP dO=some (.dT kO)/\g8 n (bh (n.take r)++bo r ((row n r).take p) 0) cP kM kO/\σ'=[some<|.ref R,some<|.ref dm,some<|.ref dO,some<|.ref a.1,u2,u3])
   ⟨kM,kO,_,_,λb o _ _ h=>h,vy,vz,?_,rfl⟩ ?_ ?_ ?_
  ·have:bo r ((row n r).take 0) 0=[]:=by simp [bo]
   rw [this,Bz];exact I.keep λt p j h=>s5 _ _ h
  ·rintro p σ' cP _ ⟨kM,kO,u2,u3,kb,_,_,_,rfl⟩;exact⟨al.of (kb _ _ (b9 e5 vy λz=>nomatch z) (b9 e5 vz λz=>nomatch z) e5),al.of<|kb _ _ (b9 ph vy λz=>nomatch z) (b9 ph vz λz=>nomatch z) ph⟩
  ·rintro p x y Tt σ' cP hx hy ⟨kM,kO,u2,u3,kb,vA,vB,I6,rfl⟩ jq;rw [Ai,Ba] at hx hy;obtain⟨te,g9,rfl⟩:=hx;obtain⟨z,hz,rfl⟩:=hy;have kE:=t5 p te g9;have rC:cP te=some (Tn n[r].1 p):=kb _ _ (LY kE vy) (nN kE vz) kE;have kG:aF n (r,p)=some z:=hz;obtain⟨rest,dU⟩:=A1 hi hz;have hlen:(bh (n.take r)++bo r ((row n r).take p) 0).length < 1000:=by
    have h1:(bh n).length=(ag n).length:=by
     have:=BZ List.length<|jH n 0;rw [Ab] at this;exact this
    have h2:=BZ List.length dU;rw [Ag,Au] at h2;omega
   have gI:bh (n.take r)++bo r ((row n r).take<|p+1) 0=(bh (n.take r)++bo r ((row n r).take p) 0)++[(z,(r,p))]:=by
    rw [oN hz,Ar]
   have jr:∀ b,b∈bS (bh (n.take r)++bo r ((row n r).take p) 0) z->b≠(r,p):=λb hb e=>by
    have hm:=rz hb;have nE:=lz n;unfold ends at nE;rw [dU,Al,Bj] at nE;exact(Bv.mp nE).2.2 _ (Aj.mpr ⟨_,hm,rfl⟩) _ Ad e
   have rD:(bS (bh (n.take r)++bo r ((row n r).take p) 0) z).length<=1:=by
    have h1:(pos n z).length=2:=by rw [qw];exact hT z<|dE kG
    have h2:pos n z=bS (bh (n.take r)++bo r ((row n r).take p) 0) z++bS ((z,(r,p)) :: rest) z:=by
     show bS (bh n) z=_;rw [dU];unfold bS;rw [Dh,Al]
    have h3:1<=(bS ((z,(r,p)) :: rest) z).length:=by
     unfold bS;rw [Cv,BP<|by simp];simp
    rw [h2,Ag] at h1;omega
   generalize bh (n.take r)++bo r ((row n r).take p) 0=done at I6 hlen gI jr rD;rw [gI];have hTm:Tt≠dm:=λe=>by rw [e,vA] at jq;cases jq
   have hTo:Tt≠dO:=λe=>by rw [e,vB] at jq;cases jq
   have s7:=a8 jq<|.tup [.ref te,.str z];have A3:∀ b o,b≠dm->b≠dO->H5 b=some o->(upd cP Tt<|.tup [.ref te,.str z]) b=some o:=λb o h1 h2 h=>s7 _ _<|kb b o h1 h2 h;have pj:=s7 _ _ vA;have pk:=s7 _ _ vB;have I7:=I6.keep (H':=upd cP Tt<|.tup [.ref te,.str z]) λt p j h=>s7 _ _ h;have kH:=s7 _ _ rC;refine nh rfl (a7.of aD) (bE 4 nd<|bE 5 nd ?_);show Run _ _ _ [some<|.ref R,some<|.ref dm,some<|.ref dO,some<|.ref a.1,some<|.ref te,some<|.str z] _;generalize upd cP Tt (.tup [.ref te,.str z])=H7 at A3 pj pk I7 kH;have nP:H7 te=some (TN n (r,p)):=by
    show H7 te=some (Tn (nameAt n r) p);rw [Yi];exact kH
   have hM:kM.length < sizeLine:=cD (by have:=I7.gd;omega);have hO:kO.length < sizeLine:=cD (by have:=I7.eR;omega);refine im<|Uq hu<|ae 5<|ae 1 ⟨dm,_,rfl,bw.k (k:=Sum.inr z) pj,?_⟩
   match pq:bS done z with
   | []=>
    rw [I7.m0 z pq];show if false=true then _ else _;rw [BL At];refine yG hu<|ae 4<|ae 1<|ae 5 ⟨dm,_,rfl,cC.k (k:=Sum.inr z) pj hM,bm<|bm ⟨_,kO,_,_,λb o h1 h2 h=>?_,aD,?_,?_,rfl⟩⟩
    ·rw [ay h1];exact A3 b o h1 h2 h
    ·rw [ay rB];exact pk
    ·exact(I7.new nP kG pq).keep λt p j h=>by rw [ay<|LY h pj];exact h
   | b :: more=>
    have rE:more=[]:=by
     rw [pq,Au] at rD;exact Bi.mp<|by omega
    subst rE;obtain⟨tm,vm,A4⟩:=I7.m1 z b [] pq;rw [vm];show if true=true then _ else _;rw [BP rfl];have jQ:b≠(r,p):=jr b (by rw [pq];exact Ah.mpr rfl);refine yG hu (gU hu<|ae 1<|ae 5 ⟨dm,.ref tm,rfl,by rw [<- vm];exact bw.k (k:=Sum.inr z) pj,ae 2<|ae 4 ⟨dO,_,rfl,cC.t (k:=key n (r,p)) pk nP hO,?_⟩⟩);have hO2:=ig kO (key n (r,p))<|.ref tm;have hO3:=I7.eR;have L3:(upd H7 dO<|.dT<|putK kO (key n (r,p))<|.ref tm) dm=some (.dK kM):=by rw [ay<|CN rB];exact pj
    have A5:(upd H7 dO<|.dT<|putK kO (key n (r,p))<|.ref tm) tm=some (TN n b):=by rw [ay<|nN A4 pk];exact A4
    refine yG hu<|ae 4<|ae 2<|gU hu<|ae 1<|ae 5 ⟨dm,.ref tm,rfl,by rw [<- vm];exact bw.k (k:=Sum.inr z) L3,dO,_,rfl,cC.t (k:=key n b) aD A5 (cD<|by omega),bm<|bm ⟨kM,_,_,_,λb o h1 h2 h=>?_,?_,aD,?_,rfl⟩⟩
    ·rw [ay h2,ay h2];exact A3 b o h1 h2 h
    ·rw [ay<|CN rB];exact L3
    ·exact(I7.old hN nP A4 kG pq jQ).keep λt p j h=>by rw [ay<|nN h pk,ay<|nN h pk];exact h
  ·rintro σ' cP ⟨kM,kO,u2,u3,kb,vA,vB,I6,rfl⟩;refine bm ⟨kM,kO,_,_,_,λb o h=>?_,vA,vB,?_,rfl⟩
   ·exact kb b o (bt h vw) (bt h nO)<|s5 _ _<|sm _ _ h
   ·rw [Ab,l5,Dc] at I6;rw [qB hi];exact I6
 ·rintro σ H' ⟨kM,kO,u1,u2,u3,sm,LZ,A2,I,rfl⟩;rw [Ab,cg,Dc] at I;have lO:=I.eR;have ls:(bh n).length=(ag n).length:=by rw [<- jH n 0,Ab];rfl
  exact b5<|ae 2<|q dO kO H' sm nO A2 (λe he=>I.whole hT he) I.nd (λk hk=>let ⟨p,hp,e⟩:=I.ks k hk;⟨p.2,Aj.mpr ⟨p,hp,rfl⟩,e⟩)<|by omega
end
def kI(n:Net)(H:Hp)(us:List Addr)(done:List<|Str×Nt.End):Prop:=us.length=done.length/\∀(j:Nat) u p,us[j]?=some u->done[j]?=some p->H u=some (TN n p.2)
theorem kI.keep{n:Net}{H H':Hp}{us:List Addr}{done:List (Str×Nt.End)}(h:kI n H us done)(k:∀ t p j,H t=some (Tn p j)->H' t=some (Tn p j)):kI n H' us done:=⟨h.1,λj u p h1 h2=>k _ _ _<|h.2 j u p h1 h2⟩
theorem kI.snoc{n:Net}{H H':Hp}{us:List Addr}{done:List (Str×Nt.End)}{u:Addr}{p:Str×Nt.End}(h:kI n H us done)(k:∀ t p j,H t=some (Tn p j)->H' t=some (Tn p j))(hu:H' u=some (TN n p.2)):kI n H' (us++[u]) (done++[p]):=by
 obtain⟨hl,ha⟩:=h;refine⟨by rw [Ag,Ag,hl];rfl,λj v x hv hx=>?_⟩
 by_cases hj:j < us.length
 ·rw [Aq hj] at hv;rw [Aq<|by omega] at hx;exact k _ _ _<|ha j v x hv hx
 ·rw [Ay<|by omega] at hv hx;have jM:j - us.length=0:=by
   have:=(Ac.mp hv).1;simp at this;omega
  have Yj:j - done.length=0:=by omega
  rw [jM] at hv;rw [Yj] at hx;cases hv;cases hx;exact hu
section
variable{X:Cx}{tg:Expr}{ifs:List Expr}{inner:Sem Unit}{σ:St}{H:Hp}{a b:Addr}{xs ys:List V}{after:St->Hp->Prop}
theorem A6(Pv:Nat->St->Hp->Prop)(h0:Pv 0 σ H)(hl:∀ i σ' H',i<=xs.length->Pv i σ' H'->al X.K H' a xs)
  (hs:∀ i x σ' H',xs[i]?=some x->Pv i σ' H'->Eg X tg x σ' H' λσ2 H3=>Ei X ifs σ2 H3 λb H4=>if b=true then lj X inner σ2 H4 (Pv<|i+1) else Pv (i+1) σ2 H4)
  (hd:∀ σ' H',Pv xs.length σ' H'->after σ' H'):iq X tg ifs inner (mj X.K a) after σ H:=by
 refine⟨λi m σ' H'=>m=xs.length - i/\i<=xs.length/\Pv i σ' H',⟨_,rfl,Bq _,h0⟩,?_⟩;rintro i m σ' H' ⟨rfl,hi,p⟩;have q:=hl i σ' H' hi p
 by_cases aS:i < xs.length
 ·refine .inr ⟨⟨xs,xs[i],q,by simp [aS]⟩,Pv<|i+1,λσ' H' p'=>⟨xs.length - (i+1),by omega,rfl,aS,p'⟩,λx H2 y=>?_⟩;obtain⟨e,y⟩:=y;subst e;exact hs i x σ' _ (y xs q) p
 ·have e:i=xs.length:=by omega
  subst e;exact .inl ⟨⟨xs,q,Am _⟩,hd σ' H' p⟩
theorem Yk(hlen:xs.length=ys.length)(Pv:Nat->St->Hp->Prop)(h0:Pv 0 σ H)(hl:∀ i σ' H',i<=xs.length->Pv i σ' H'->al X.K H' a xs/\al X.K H' b ys)
  (hs:∀ i x y T σ' H',xs[i]?=some x->ys[i]?=some y->Pv i σ' H'->H' T=none->Eg X tg (.ref T) σ' (upd H' T<|.tup [x,y]) λσ2 H3=>Ei X ifs σ2 H3 λb H4=>if b=true then lj X inner σ2 H4 (Pv<|i+1) else Pv (i+1) σ2 H4)
  (hd:∀ σ' H',Pv xs.length σ' H'->after σ' H'):iq X tg ifs inner (uI X.K a b) after σ H:=by
 refine⟨λi m σ' H'=>m=xs.length - i/\i<=xs.length/\Pv i σ' H',⟨_,rfl,Bq _,h0⟩,?_⟩;rintro i m σ' H' ⟨rfl,hi,p⟩;obtain⟨q1,q2⟩:=hl i σ' H' hi p
 by_cases aS:i < xs.length
 ·refine .inr ⟨⟨xs,ys,xs[i],ys[i],q1,q2,Aa aS,Aa<|by omega⟩,Pv<|i+1,λσ' H' p'=>⟨xs.length - (i+1),by omega,rfl,aS,p'⟩,λv H2 y=>?_⟩;obtain⟨T,x,y,hT,rfl,rfl,y1,y2⟩:=y;exact hs i x y T σ' _ (y1 xs q1) (y2 ys q2) p hT
 ·have e:i=xs.length:=by omega
  subst e;exact .inl ⟨⟨xs,ys,q1,q2,.inl<|Am _⟩,hd σ' H' p⟩
end
def A7:Sp:=λvs H Q _=>∃(R:Addr) (as:List<|Addr×Addr) (n:Net),vs=[.ref R]/\ai H R as n/\n.length<=1000/\(ag n).length<=1000 /\
 ∀(L:Addr) (ts:List Addr) (H':Hp),ak H H'->H L=none->H' L=some (.lst<|ts.map V.ref)->kI n H' ts (bh n)->Q (.ref L) H'
section
variable{P:Program}{w:World}{K:PySem.W.Frag}{mg:Str->Option Value}{base:Heap}
abbrev L4:List Str:=["rows"]
abbrev L5:List Str:=["rows","row","end"]
theorem gJ:aq L4 ["rows"] (bd uq):=⟨rfl,rfl,rfl,by decide +kernel,rfl,by decide +kernel,by decide +kernel⟩
theorem L9:L5.Nodup:=by decide +kernel
theorem Yl{f:Addr}{fd:FuncData}(F:bL K "ends_in_order" "ends_in_order" uq f fd)(T:Txt mg)
  (GE:aV P w K mg base 1 "ends_round" ["row"] rp) :
  aG P w K mg base bG 2 f fd ["rows"] A7:=by
 refine F.gb gJ (λvs H Q E h=>?_) λb0 H vs Q E hr h=>?_
 ·obtain⟨R,as,n,rfl,_⟩:=h;rfl
 obtain⟨R,as,n,rfl,hR,hn,ht,q⟩:=h;have nd:=gJ.nd;have cg:=hR.len;show Run _ _ _ [some<|.ref R] H;refine b5<|Vz (bd uq) L4 L5 2 (ie bK)<|ae 0 ⟨R,rfl,⟨_,al.of hR.lst⟩,λD hD cl C s₀ H₀ ex=>?_⟩;refine A6 (xs:=as.map λa=>V.ref a.1) (λr σ' H'=>(∃ v1 v2,σ'=[some<|.ref R]++[v1,v2])/\∃ ts:List Addr,ak H H'/\H' D=some (.lst<|ts.map V.ref)/\kI n H' ts (bh<|n.take r)) ⟨⟨none,none,rfl⟩,[],a8 hD _,aD,⟨rfl,λj u p h=>(by cases h)⟩⟩ ?_ ?_ ?_
 ·rintro r σ' H' _ ⟨_,ts,sm,_⟩;exact al.of<|sm _ _ hR.lst
 ·rintro r x σ' H' hx ⟨⟨v1,v2,rfl⟩,ts,sm,eD,AN⟩;have hi:r < n.length:=by
   have:=(Ac.mp hx).1;rw [Ab] at this;omega
  obtain⟨a,ea,fB,et,el,er⟩:=(hR.same sm).at hi;rw [Ai,ea] at hx;cases hx;have ji:(row n r).length<=1000:=Ce (gW n r) ht;refine bE 1 L9 ?_;refine jB ?_;rw [BP rfl];refine Vy rfl rfl (ie bK) (bR GE hr<|ao<|ae 1<|aA ⟨a.1,a.2,n[r].1,row n r,rfl,et,el,ji,λL us H5 s5 n5 e5 l5 t5=>⟨L,rfl,⟨_,al.of e5⟩,?_⟩⟩);have Ym:L≠D:=λe=>by rw [e,eD] at n5;cases n5
  refine A6 (xs:=us.map V.ref) (λp σ' cP=>(∃ v2,σ'=[some<|.ref R]++[some<|.ref a.1,v2])/\∃ ts:List Addr,(∀ b o,b≠D->H5 b=some o->cP b=some o)/\cP D=some (.lst<|ts.map V.ref)/\kI n cP ts (bh (n.take r)++bo r ((row n r).take p) 0))
   ⟨⟨_,rfl⟩,ts,λb o _ h=>h,s5 _ _ eD,by simpa [bo] using AN.keep (H':=H5) λt p j h=>s5 _ _ h⟩ ?_ ?_ ?_
  ·rintro p σ' cP _ ⟨_,ts,kb,_⟩;exact al.of<|kb _ _ Ym e5
  ·rintro p x σ' cP hx ⟨⟨v2,rfl⟩,ts,kb,js,rF⟩;rw [Ai,Ba] at hx;obtain⟨te,g9,rfl⟩:=hx;have hp:p < (row n r).length:=by have:=(Ac.mp g9).1;omega
   have hz:(row n r)[p]?=some (row n r)[p]:=Aa hp;generalize (row n r)[p]=z at hz;have kE:=t5 p te g9;have vC:te≠D:=b9 kE (s5 _ _ eD) λz=>nomatch z;have rC:=kb _ _ vC kE;obtain⟨rest,dU⟩:=A1 hi hz;have hlen:ts.length < 1000:=by
    have h1:(bh n).length=(ag n).length:=by
     have:=BZ List.length<|jH n 0;rw [Ab] at this;exact this
    have h2:=BZ List.length dU;rw [Ag,Au] at h2;have:=rF.1;omega
   refine bE 2 L9 ?_;refine jB ?_;rw [BP rfl];refine Ii (ae 2 ⟨ts.map V.ref,js,by rw [Ab];exact cD (by omega),⟨_,rfl⟩,ts++[te],λb o hb h=>by rw [ay hb];exact kb b o hb h,by rw [aD,Al];rfl,?_⟩);rw [oN hz,<- Ar];refine rF.snoc (λt p j h=>by rw [ay<|b9 h js λz=>nomatch z];exact h) ?_;rw [ay vC];show cP te=some (Tn (nameAt n r) p);rw [pc hi];exact rC
  ·rintro σ' cP ⟨⟨v2,rfl⟩,ts,kb,js,rF⟩;refine⟨⟨_,_,rfl⟩,ts,λb o h=>kb b o (bt h hD)<|s5 _ _<|sm _ _ h,js,?_⟩;rw [Ab,l5,Dc,<- qB hi] at rF;exact rF
 ·rintro σ' H' ⟨_,ts,sm,eD,AN⟩;rw [Ab,cg,Dc] at AN;exact q D ts H' sm hD eD AN
end
section
variable{X:Cx}{H:Hp}
theorem A8{k:Nat}(z:Str):i5 X H k (.str z) (.str z) true:=by
 have:=qu (X:=X) (H:=H) (k:=k) (x:= .str z) (y:= .str z) rfl rfl;have e:cz (.str z) (.str z)=true:=by show(z == z)=true;simp
 rw [e] at this;exact this
theorem Yn{p p':Str}{j j':Int}:∀(i:Nat) (u v:V),[V.str p,.int j][i]?=some u->[V.str p',.int j'][i]?=some v->i5 X H 0 u v (if i=0 then cz (.str p) (.str p') else cz (.int j) (.int j'))
 | 0,u,v,h1,h2=>by
  cases h1;cases h2;exact qu rfl rfl
 | 1,u,v,h1,h2=>by
  cases h1;cases h2;exact qu rfl rfl
 | i+2,u,v,h1,h2=>by simp at h1
theorem Yo(p p':Str)(j j':Int):(cz (.str p) (.str p') && cz (.int j) (.int j'))=decide (p=p'/\j=j'):=by
 show((p == p') && (j == j'))=_
 by_cases h:p=p' <;> by_cases h2:j=j' <;> simp [h,h2]
theorem Yp{s t:Addr}{p p':Str}{j j':Int}(hs:H s=some (Tn p j))(ht:H t=some (Tn p' j')):mS X H 1 (.ref s) (.ref t) (decide (p=p'/\j=j')):=by
 have:=Jk (X:=X) (k:=0) (λi=>if i=0 then cz (.str p) (.str p') else cz (.int j) (.int j')) (a7.of hs) (a7.of ht) rfl Yn;rw [show([V.str p,.int j].length)=2 from rfl,all2] at this;have e:=Yo p p' j j';simp only [DK] at this;rw [BL (by decide),e] at this;exact this
theorem Ma{a b:Addr}{zs:List Str}(ha:H a=some (Ls zs))(hb:H b=some (Ls zs)):kh X H 1 (.ref a) (.ref b) true:=by
 have q:=Jh (X:=X) (k:=0) (λ_=>true) (al.of (K:=X.K) ha) (al.of (K:=X.K) hb) rfl λj x y hx hy=>by
  rw [hx] at hy;cases hy;rw [Ai,Ba] at hx;obtain⟨z,_,rfl⟩:=hx;exact A8 z
 rw [ub] at q;exact q
theorem Mb{k:Nat}{a b:Addr}(h:kh X H k (.ref a) (.ref b) true):i5 X H k (.ref a) (.ref b) true:=by
 by_cases e:a=b
 ·subst e;exact Ue
 ·exact Ug e h
theorem Yq{R R':Addr}{as bs:List (Addr×Addr)}{n:Net}(h:ai H R as n)(g:ai H R' bs n):kh X H 3 (.ref R) (.ref R') true:=by
 have q:=Jh (X:=X) (k:=2) (λ_=>true) (al.of (K:=X.K) h.lst) (al.of (K:=X.K) g.lst) (by rw [Ab,Ab,h.len,g.len]) λj x y hx hy=>by
  rw [Ai,Ba] at hx hy;obtain⟨a,ea,rfl⟩:=hx;obtain⟨b,eb,rfl⟩:=hy;have hj:j < n.length:=by
   have:=(Ac.mp ea).1;have:=h.len;omega
  obtain⟨q1,q2⟩:=h.tup j a n[j] ea<|Aa hj;obtain⟨q3,q4⟩:=g.tup j b n[j] eb<|Aa hj;have t:=Jj (X:=X) (k:=1) (λ_=>true) (a7.of (K:=X.K) q1) (a7.of (K:=X.K) q3) rfl λi x y hx hy=>by
   match i with
   | 0=>cases hx;cases hy;exact A8 _
   | 1=>cases hx;cases hy;exact Mb<|Ma q2 q4
   | i+2=>simp at hx
  rw [ub] at t;exact Mb t
 rw [ub] at q;exact q
end
theorem Yr{X:Cx}{H:Hp}{a b:Addr}{zs:List Str}(ha:H a=some (Ls zs))(hb:H b=some (Ls zs)):mS X H 1 (.ref a) (.ref b) true:=by
 have q:=yB (X:=X) (k:=0) (λ_=>true) (al.of (K:=X.K) ha) (al.of (K:=X.K) hb) rfl λj x y hx hy=>by
  rw [hx] at hy;cases hy;rw [Ai,Ba] at hx;obtain⟨z,_,rfl⟩:=hx;exact A8 z
 rw [ub] at q;exact q
def kJ:Sp:=λvs H Q _=>∃(R:Addr) (as:List<|Addr×Addr) (n:Net),vs=[.ref R]/\ai H R as n/\(n.map (·.1)).Nodup/\n.length<=1000/\(ag n).length<=1000 /\
 ∀(d:Addr) (kvs:List<|List Key×V) (H':Hp),ak H H'->H d=none->H' d=some (.dT kvs)->(∀ e z,aF n e=some z->aK kvs (key n e)=some (.str z))->Q (.ref d) H'
section
variable{P:Program}{w:World}{K:PySem.W.Frag}{mg:Str->Option Value}{base:Heap}
abbrev Md:List Str:=["rows"]
abbrev Mf:List Str:=["rows","row","end","tie"]
theorem A9:aq Md ["rows"] (bd ur):=⟨rfl,rfl,rfl,by decide +kernel,rfl,by decide +kernel,by decide +kernel⟩
theorem BA:Mf.Nodup:=by decide +kernel
theorem Ys{f:Addr}{fd:FuncData}(F:bL K "ties_by_end" "ties_by_end" ur f fd)(T:Txt mg)
  (GE:aV P w K mg base 1 "ends_round" ["row"] rp) :
  aG P w K mg base bG 2 f fd ["rows"] kJ:=by
 refine F.gb A9 (λvs H Q E h=>?_) λb0 H vs Q E hr h=>?_
 ·obtain⟨R,as,n,rfl,_⟩:=h;rfl
 obtain⟨R,as,n,rfl,hR,hN,hn,ht,q⟩:=h;have cg:=hR.len;have hu:=hr.u1;show Run _ _ _ [some<|.ref R] H;refine b5<|VF (bd ur) Md Mf 3 (ie bK)<|ae 0 ⟨R,rfl,⟨_,al.of hR.lst⟩,λD hD cl C s₀ H₀ ex=>?_⟩;refine A6 (xs:=as.map λa=>V.ref a.1) (λr σ' H'=>(∃ v1 v2 v3,σ'=[some<|.ref R]++[v1,v2,v3])/\∃ kvs:List<|List Key×V,ak H H'/\H' D=some (.dT kvs)/\kvs.length<=(bh<|n.take r).length/\∀ p∈bh (n.take r),aF n p.2=some p.1/\aK kvs (key n p.2)=some (.str p.1)) ⟨⟨none,none,none,rfl⟩,[],a8 hD _,aD,Bq _,λp h=>(by cases h)⟩ ?_ ?_ ?_
 ·rintro r σ' H' _ ⟨_,kvs,sm,_⟩;exact al.of<|sm _ _ hR.lst
 ·rintro r x σ' H' hx ⟨⟨v1,v2,v3,rfl⟩,kvs,sm,eD,Mg,vD⟩;have hi:r < n.length:=by
   have:=(Ac.mp hx).1;rw [Ab] at this;omega
  obtain⟨a,ea,fB,et,el,er⟩:=(hR.same sm).at hi;rw [Ai,ea] at hx;cases hx;have ji:(row n r).length<=1000:=Ce (gW n r) ht;refine bE 1 BA ?_;refine jB ?_;rw [BP rfl];refine VE rfl rfl (J8 rfl T.zip (ta:=qg _ _) gR) ?_;show Ea _ _ _ _ _;refine ao<|bR GE hr<|ao<|ae 1<|aA ⟨a.1,a.2,n[r].1,row n r,rfl,et,el,ji,λL us H5 s5 n5 e5 l5 t5=>?_⟩;refine ao<|bb cw<|ae 1<|aB ⟨a.1,_,_,.ref a.2,rfl,rfl,a7.of<|s5 _ _ et,rfl,aA ⟨L,a.2,rfl,⟨_,al.of e5⟩,⟨_,al.of<|s5 _ _ el⟩,?_⟩⟩;have jN:=s5 _ _ eD;have ph:=s5 _ _ el;refine Yk (xs:=us.map V.ref) (ys:=(row n r).map V.str) (by rw [Ab,Ab,l5]) (λp σ' cP=>(∃ v2 v3,σ'=[some<|.ref R]++[some<|.ref a.1,v2,v3])/\∃ kvs:List<|List Key×V,(∀ b o,b≠D->H5 b=some o->cP b=some o)/\cP D=some (.dT kvs)/\kvs.length<=(bh (n.take r)++bo r ((row n r).take p) 0).length/\∀ x∈bh (n.take r)++bo r ((row n r).take p) 0,aF n x.2=some x.1/\aK kvs (key n x.2)=some (.str x.1))
   ⟨⟨_,_,rfl⟩,kvs,λb o _ h=>h,jN,by simpa [bo] using Mg,by simpa [bo] using vD⟩ ?_ ?_ ?_
  ·rintro p σ' cP _ ⟨_,kvs,kb,_⟩;exact⟨al.of (kb _ _ (b9 e5 jN λz=>nomatch z) e5),al.of<|kb _ _ (b9 ph jN λz=>nomatch z) ph⟩
  ·rintro p x y Tt σ' cP hx hy ⟨⟨v2,v3,rfl⟩,kvs,kb,js,nQ,kK⟩ jq;rw [Ai,Ba] at hx hy;obtain⟨te,g9,rfl⟩:=hx;obtain⟨z,hz,rfl⟩:=hy;have kE:=t5 p te g9;have vC:te≠D:=b9 kE jN λz=>nomatch z;have rC:=kb _ _ vC kE;have kG:aF n (r,p)=some z:=hz;obtain⟨rest,dU⟩:=A1 hi hz;have hlen:(bh (n.take r)++bo r ((row n r).take p) 0).length < 1000:=by
    have h1:(bh n).length=(ag n).length:=by
     have:=BZ List.length<|jH n 0;rw [Ab] at this;exact this
    have h2:=BZ List.length dU;rw [Ag,Au] at h2;omega
   have nTD:Tt≠D:=λe=>by rw [e,js] at jq;cases jq
   have s7:=a8 jq<|.tup [.ref te,.str z];refine nh rfl (a7.of aD) (bE 2 BA<|bE 3 BA ?_);refine jB ?_;rw [BP rfl];have kH:(upd cP Tt<|.tup [.ref te,.str z]) te=some (.tup<|(key n (r,p)).map kV):=by
    rw [s7 _ _ rC];show some (Tn n[r].1 (p:Int))=some (Tn (nameAt n r) (p:Int));rw [pc hi]
   refine J9 hu<|ae 2<|ae 3 ⟨_,cC.t (k:=key n (r,p)) (s7 _ _ js) kH (cD<|by omega),⟨_,_,rfl⟩,_,λb o hb h=>?_,aD,?_,?_⟩
   ·rw [ay hb];exact s7 _ _<|kb b o hb h
   ·rw [oN hz,<- Ar,Ag];have:=ig kvs (key n (r,p))<|.str z;show _<=_+1;omega
   ·rw [oN hz,<- Ar];intro x hx
    rcases An.mp hx with h | h
    ·obtain⟨q1,q2⟩:=kK x h;refine⟨q1,?_⟩;rw [fQ]
     by_cases hk:key n x.2=key n (r,p)
     ·rw [BP hk];have:=pf hN (b6 q1) (b6 kG) hk;rw [this,kG] at q1;rw [Option.some.inj q1]
     ·rw [BL hk];exact q2
    ·rw [Ah.mp h];exact⟨kG,by rw [fQ,BP rfl]⟩
  ·rintro σ' cP ⟨⟨v2,v3,rfl⟩,kvs,kb,js,nQ,kK⟩;rw [Ab,l5,Dc,<- qB hi] at nQ kK;exact⟨⟨_,_,_,rfl⟩,kvs,λb o h=>kb b o (bt h hD)<|s5 _ _<|sm _ _ h,js,nQ,kK⟩
 ·rintro σ' H' ⟨_,kvs,sm,eD,Mg,vD⟩;rw [Ab,cg,Dc] at vD;exact q D kvs H' sm hD eD λe z he=>(vD (z,e)<|aN.mpr he).2
theorem rG(K:PySem.W.Frag):PySem.W.kitOne K (.type "list") (.type "list")=some true:=by rfl
theorem BD(K:PySem.W.Frag):PySem.W.kitOne K (.type "str") (.type "str")=some true:=by rfl
theorem Mh{κ:Type} [DecidableEq κ]:∀{kvs:List (κ×V)} {i:Nat} {p:κ×V},(kvs.map (·.1)).Nodup->kvs[i]?=some p->aK kvs p.1=some p.2
 | [],_,_,_,h=>by simp at h
 | q :: r,0,p,_,h=>by
  cases h;exact gO rfl
 | q :: r,i+1,p,hn,h=>by
  rw [Bj,Bg] at hn;have hm:r[i]?=some p:=by simpa using h
  rw [gP λe=>hn.1<|by rw [e];exact Aj.mpr ⟨p,Ap hm,rfl⟩];exact Mh hn.2 hm
theorem Yu{κ:Type}{l:List κ}(h:l.Nodup){i j:Nat}{a:κ}(hi:l[i]?=some a)(hj:l[j]?=some a):i=j:=by
 have h1:=(Ac.mp hi).1;have h2:=(Ac.mp hj).1;have e1:=(Ac.mp hi).2;have e2:=(Ac.mp hj).2
 rcases Gi i j with c | c | c
 ·exact absurd (e1.trans e2.symm)<|Be.mp h i j h1 h2 c
 ·exact c
 ·exact absurd (e2.trans e1.symm)<|Be.mp h j i h2 h1 c
def gg(c:Int):Sp:=λvs H Q _=>∃(R:Addr) (as:List<|Addr×Addr) (n:Net),vs=[.ref R]/\ai H R as n/\(n.map (·.1)).Nodup/\aj n/\n.length<=1000/\(ag n).length<=1000 /\
 ∀(d:Addr) (kvs:List<|List Key×V) (H':Hp),ak H H'->H d=none->H' d=some (.dT kvs)->(∀ e∈ends n,∃ u,aK kvs (key n e)=some (.ref u)/\H' u=some (TN n<|go c n e))->Q (.ref d) H'
abbrev kL:List Str:=["rows","lists"]
abbrev nR:List Str:=["rows","lists","end","other"]
theorem Mi:nR.Nodup:=by decide +kernel
theorem Mj{c:Int}{x y:Str}{st:Stmt}{f:Addr}{fd:FuncData}(h:(x = "left_steps"/\y = "turned_left"/\st=ut)\/(x = "right_steps"/\y = "turned_right"/\st=uv))(F:bL K x x st f fd)(T:Txt mg)
  (GO:aV P w K mg base 2 "other_ends" ["rows"] jo) (GT:aV P w K mg base 2 y ["end","many"]<|f9 λj=>j+c) :
  aG P w K mg base bG 3 f fd ["rows"] (gg c):=by
 rcases h with ⟨rfl,rfl,rfl⟩ | ⟨rfl,rfl,rfl⟩
 all_goals
  refine F.gb (N:=kL) ⟨rfl,rfl,rfl,by decide +kernel,rfl,by decide +kernel,by decide +kernel⟩ (λvs H Q E h=>?_) λb0 H vs Q E hr h=>?_
  ·obtain⟨R,as,n,rfl,_⟩:=h;rfl
  obtain⟨R,as,n,rfl,hR,hN,hT,hn,ht,q⟩:=h;have nd:kL.Nodup:=by decide +kernel
  have cg:=hR.len;have hu:=hr.u1;show Run _ _ _ [some<|.ref R,none] H;have keys:=LU n as cg;have knd:((ga n as).map (·.1)).Nodup:=by rw [keys];exact Yd hN
  have BE:(ga n as).length=n.length:=by have:=BZ List.length keys;simpa using this
  refine aY 1 nd (oA (Vq rfl) T.qE PyProof.Rows.boot_dict (ao (ae 0 (aA ⟨R,as.map (·.1),ga n as,rfl,?_,?_,?_,?_,λdl iu=>?_⟩))))
  ·rw [Ck];exact hR.lst
  ·rw [Ab,BE,cg]
  ·rw [Ab];exact cD<|by omega
  ·intro j t kv h1 h2;rw [Ai,Ba] at h1;obtain⟨a,ea,rfl⟩:=h1;have hj:j < n.length:=by have:=(Ac.mp ea).1;omega
   have e:=LV (Aa hj) ea;rw [h2] at e;cases e;exact(hR.tup j a n[j] ea<|Aa hj).1
  have ef:(ga n as).foldl (λa p=>putK a p.1 p.2) []=ga n as:=by
   rw [Yc (acc:=[]) (by rw [Gy];exact knd),Gy]
  rw [ef];have s1:=a8 iu<|.dK<|ga n as;have el:(upd H dl<|.dK<|ga n as) dl=some (.dK<|ga n as):=aD;generalize upd H dl (.dK<|ga n as)=H1 at s1 el;show Run _ _ _ [some<|.ref R,some<|.ref dl] H1
  first | refine b5 (J' (bd ut) kL nR 2 (Kc bK) ?_) | refine b5<|J' (bd uv) kL nR 2 (Kc bK) ?_
  refine bR GO hr<|ao<|ae 0<|aA ⟨R,as,n,rfl,hR.same s1,hN,hT,hn,ht,λd kvs H2 s2 qQ ed val rH Yv Mk=>?_⟩;refine⟨d,kvs,rfl,ed,λo D hD cl C s₀ H₀ ex=>?_⟩;have Yw:D≠d:=λe=>by rw [e,aD] at hD;cases hD
  have hD2:H2 D=none:=by rw [ay Yw] at hD;exact hD
  have pv:H d=none:=lM s1 qQ;have sB:ak H (upd H2 d<|.bD o<|.dT kvs):=fZ (s1.trans s2) pv;have kB:∀ b o',b≠d->H2 b=some o'->(upd H2 d<|.bD o<|.dT kvs) b=some o':=λb o' hb h=>by rw [ay hb];exact h
  have tB:∀ b p j,H2 b=some (Tn p j)->(upd H2 d<|.bD o<|.dT kvs) b=some (Tn p j):=λb p j h=>kB b _ (nN h ed) h;have Ml:(upd H2 d<|.bD o<|.dT kvs) d=some (.bD o<|.dT kvs):=aD;have Mm:(upd H2 d<|.bD o<|.dT kvs) dl=some (.dK<|ga n as):=kB _ _ (λe=>by rw [e,qQ] at el;cases el)<|s2 _ _ el;have Yx:=hR.same sB;generalize upd H2 d (.bD o<|.dT kvs)=HB at hD sB tB Ml Mm Yx;have BF:=lM sB hD;refine VS (λi σ' H'=>(∃ v1 v2,σ'=[some<|.ref R,some<|.ref dl]++[v1,v2])/\∃ nS:List<|List Key×V,H' D=some (.dT nS)/\nS.length<=i/\ak HB H' /\
   (∀ j k x e,j < i->kvs[j]?=some (k,x)->e∈ends n->k=key n e->∃ u,aK nS (key n e)=some (.ref u)/\H' u=some (TN n<|go c n e)))
   ⟨⟨none,none,rfl⟩,[],aD,Am _,a8 hD _,λj k x e h=>absurd h<|Em _⟩ ?_ ?_ ?_
  ·rintro i σ' H' _ ⟨_,_,_,_,sm,_⟩;exact sm _ _ Ml
  ·rintro i k x b Tt σ' H' hx ⟨⟨v1,v2,rfl⟩,nS,eD,l2,sm,all⟩ hb jq;have hi:i < kvs.length:=(Ac.mp hx).1;obtain⟨e,he,rfl⟩:=Yv k<|Aj.mpr ⟨_,Ap hx,rfl⟩;obtain⟨u,hv,zE⟩:=val e he;have rJ:aK kvs (key n e)=some x:=Mh rH hx;rw [hv] at rJ;cases rJ;have tX:=cM hT he;obtain⟨zo,Mp⟩:=af.mp tX;have ji:=b6 Mp;have qW:=fY Mp;have Yy:nameAt n (other n e).1=n[(other n e).1].1:=pc ji;have sT:=a8 jq<|.tup [.ref b,.ref u];have Mq:=sT _ _<|sm _ _<|tB _ _ _ zE;refine nh rfl (a7.of aD) (bE 2 Mi<|bE 3 Mi ?_);refine jB ?_;rw [BP rfl];have Mr:as[(other n e).1]?=some (as[(other n e).1]'(by omega)):=Aa (by omega);have Mt:n[(other n e).1]?=some n[(other n e).1]:=Aa ji;have ev:aK (ga n as) (Sum.inr<|nameAt n (other n e).1)=some (.ref (as[(other n e).1]'(by omega)).2):=by rw [Yy];exact LO knd<|LV Mt Mr
   have BG:=(hR.tup _ _ _ Mr Mt).2;have rK:row n (other n e).1=n[(other n e).1].2:=gX ji;refine J9 hu<|ae 2<|bR GT hr<|ao<|ae 3<|ao<|bQ cT T.len DQ<|ao<|gU hu<|ae 1<|bb cw<|ae 3<|aB ⟨u,_,_,.str<|nameAt n (other n e).1,rfl,rfl,a7.of Mq,rfl,?_⟩;refine⟨dl,.ref (as[(other n e).1]'(by omega)).2,rfl,by rw [<- ev];exact bw.k (k:=Sum.inr<|nameAt n (other n e).1)<|sT _ _<|sm _ _ Mm,aA ⟨_,_,rfl,.inl<|al.of<|sT _ _<|sm _ _<|sB _ _ BG,aA ⟨u,_,_,_,rfl,Mq,?_,λt2 H4 s4 vh=>?_⟩⟩⟩
   ·rw [Ab,<- rK];omega
   rw [Ab,<- rK] at vh;have Mu:H4 t2=some (TN n<|go c n e):=by
    rw [vh];have:=qL (c:=c) tX;show some (Tn _ _)=some (Tn _ (((go c n e).2:Nat):Int));unfold go;rw [this];rfl
   have ro:=s4 _ _<|sT _ _ hb;refine⟨_,cC.t (k:=key n e) (s4 _ _<|sT _ _ eD) ro (cD<|by omega),⟨_,_,rfl⟩,_,aD,?_,fZ ((sm.trans sT).trans s4) hD,λj k' x' e' hj ip t6 mK=>?_⟩
   ·have:=ig nS (key n e)<|.ref t2;omega
   ·subst mK
    by_cases vt:j=i
    ·subst vt;rw [hx] at ip;have Yz:key n e=key n e':=BZ Prod.fst<|Option.some.inj ip;obtain⟨z1,uL⟩:=af.mp he;obtain⟨z2,uM⟩:=af.mp t6;have:=pf hN (b6 uL) (b6 uM) Yz;subst this;exact⟨t2,by rw [fQ,BP rfl],by rw [ay<|nN Mu<|s4 _ _<|sT _ _ eD];exact Mu⟩
    ·obtain⟨u3,YB,YC⟩:=all j _ x' e' (by omega) ip t6 rfl;refine⟨u3,?_,?_⟩
     ·rw [fQ,BL,YB];intro hk;have h1:(kvs.map (·.1))[j]?=some (key n e'):=by rw [Ai,ip];rfl
      have h2:(kvs.map (·.1))[i]?=some (key n e'):=by rw [Ai,hx,hk];rfl
      exact vt<|Yu rH h1 h2
     ·have q4:=s4 _ _<|sT _ _ YC;rw [ay<|nN q4<|s4 _ _<|sT _ _ eD];exact q4
  ·rintro σ' H' ⟨_,nS,eD,_,sm,all⟩;refine q D nS H' (sB.trans sm) BF eD λe he=>?_;obtain⟨u,hv,_⟩:=val e he;obtain⟨i,hi⟩:∃ i:Nat,(kvs.map (·.1))[i]?=some (key n e):=Bo<|HC hv;rw [Ai,Ba] at hi;obtain⟨⟨k,x⟩,hx,hk⟩:=hi;exact all i k x e (Ac.mp hx).1 hx he hk
theorem YD{f:Addr}{fd:FuncData}(F:bL K "left_steps" "left_steps" ut f fd)(T:Txt mg)(GO:aV P w K mg base 2 "other_ends" ["rows"] jo)(GT:aV P w K mg base 2 "turned_left" ["end","many"]<|f9 λj=>j+1):aG P w K mg base bG 3 f fd ["rows"] (gg 1):=Mj (.inl ⟨rfl,rfl,rfl⟩) F T GO GT
theorem YF{f:Addr}{fd:FuncData}(F:bL K "right_steps" "right_steps" uv f fd)(T:Txt mg)(GO:aV P w K mg base 2 "other_ends" ["rows"] jo)(GT:aV P w K mg base 2 "turned_right" ["end","many"]<|f9 λj=>j - 1):aG P w K mg base bG 3 f fd ["rows"] (gg (-1)):=Mj (.inr ⟨rfl,rfl,rfl⟩) F T GO GT
def dH(n:Net)(H:Hp)(ts:List Addr)(es:List Nt.End):Prop:=ts.length=es.length/\∀(j:Nat) t e,ts[j]?=some t->es[j]?=some e->H t=some (TN n e)
theorem dH.keep{n:Net}{H H':Hp}{ts:List Addr}{es:List Nt.End}(h:dH n H ts es)(k:∀ t p j,H t=some (Tn p j)->H' t=some (Tn p j)):dH n H' ts es:=⟨h.1,λj t e h1 h2=>k _ _ _<|h.2 j t e h1 h2⟩
theorem dH.same{n:Net}{H H':Hp}{ts:List Addr}{es:List Nt.End}(h:dH n H ts es)(s:ak H H'):dH n H' ts es:=h.keep λ_ _ _ q=>s _ _ q
theorem dH.append{n:Net}{H:Hp}{ts us:List Addr}{es fs:List Nt.End}(h:dH n H ts es)(g:dH n H us fs):dH n H (ts++us) (es++fs):=by
 refine⟨by rw [Ag,Ag,h.1,g.1],λj t e h1 h2=>?_⟩;have hl:=h.1
 by_cases hj:j < ts.length
 ·rw [Aq hj] at h1;rw [Aq<|by omega] at h2;exact h.2 j t e h1 h2
 ·rw [Ay<|by omega] at h1 h2;rw [<- hl] at h2;exact g.2 _ t e h1 h2
theorem dH.two{n:Net}{H:Hp}{t u:Addr}{a b:Nt.End}(h1:H t=some (TN n a))(h2:H u=some (TN n b)):dH n H [t,u] [a,b]:=⟨rfl,λj x e h3 h4=>by
 match j with
 | 0=>cases h3;cases h4;exact h1
 | 1=>cases h3;cases h4;exact h2
 | j+2=>simp at h3⟩
theorem YG{n:Net}(hN:(n.map (·.1)).Nodup){a b:Nt.End}(ha:a∈ends n)(hb:b∈ends n):decide (nameAt n a.1=nameAt n b.1/\(a.2:Int)=(b.2:Int))=decide (a=b):=by
 obtain⟨z1,h1⟩:=af.mp ha;obtain⟨z2,h2⟩:=af.mp hb;refine decide_eq_decide.mpr ⟨λ⟨p,q⟩=>pf hN (b6 h1) (b6 h2) (by unfold key;rw [p,q]),λe=>by rw [e];exact⟨rfl,rfl⟩⟩
theorem BH{K:PySem.W.Frag}{H:Hp}{d:Addr}{xs:List V}(h:H d=some (.lst xs)):jX K "list" (.ref d) H:=Or.inl ⟨rfl,xs,al.of h⟩
def bf(n:Net)(H:Hp)(d:Addr)(c:Int):Prop:=∃ kvs,H d=some (.dT kvs)/\∀ e∈ends n,∃ u,aK kvs (key n e)=some (.ref u)/\H u=some (TN n<|go c n e)
theorem bf.same{n:Net}{H H':Hp}{d:Addr}{c:Int}(h:bf n H d c)(s:ak H H'):bf n H' d c:=let ⟨kvs,h1,h2⟩:=h;⟨kvs,s _ _ h1,λe he=>let ⟨u,a,b⟩:=h2 e he;⟨u,a,s _ _ b⟩⟩
theorem bf.get{n:Net}{H:Hp}{d t:Addr}{c:Int}{e:Nt.End}(h:bf n H d c)(he:e∈ends n)(ht:H t=some (TN n e)):∃ u,bw H d (.ref t) (some<|.ref u)/\H u=some (TN n<|go c n e):=by
 obtain⟨kvs,h1,h2⟩:=h;obtain⟨u,a,b⟩:=h2 e he;exact⟨u,by rw [<- a];exact bw.t (k:=key n e) h1 ht,b⟩
def nU:Sp:=λvs H Q _=>∃(dl dr t:Addr) (n:Net) (e:Nt.End),vs=[.ref dl,.ref dr,.ref t]/\bf n H dl 1/\bf n H dr (-1)/\(n.map (·.1)).Nodup/\aj n/\(ag n).length<=1000/\e∈ends n/\H t=some (TN n e) /\
 ∀(l:Addr) (ts:List Addr) (k:Nat) (H':Hp),ak H H'->H l=none->H' l=some (.lst<|ts.map V.ref)->dH n H' ts (wk n e k)->gY n e k->k<=(ends n).length->Q (.ref l) H'
abbrev YH:List Str:=["lefts","rights","first","walker","end"]
theorem rL:aq YH ["lefts","rights","first"] (bd mY):=⟨rfl,rfl,rfl,by decide +kernel,rfl,by decide +kernel,by decide +kernel⟩
theorem BI(ts:List Addr)(a b:Addr):ts.map V.ref++[V.ref a,V.ref b]=(ts++[a]).map V.ref++[V.ref b]:=by rw [Al,Ar];rfl
theorem YJ{f:Addr}{fd:FuncData}(F:bL K "walker_from" "walker_from" mY f fd)(T:Txt mg):aG P w K mg base bG 1 f fd ["lefts","rights","first"] nU:=by
 refine F.gb rL (λvs H Q E h=>?_) λb0 H vs Q E hr h=>?_
 ·obtain⟨dl,dr,t,n,e,rfl,_⟩:=h;rfl
 obtain⟨dl,dr,t,n,e,rfl,hL,Mv,hN,hT,jO,he,ht,q⟩:=h;have nd:=rL.nd;have qW:=f7 n;have hu:=hr.u1;have un:=hr.eF;obtain⟨k,k0,k1,k2⟩:=uf (f:=two n) (S:=ends n) (λa ha=>ko hT ha) (λa ha b hb=>qM hT ha hb) he;obtain⟨u1,g1,e1⟩:=hL.get he ht;show Run _ _ _ [some<|.ref dl,some<|.ref dr,some<|.ref t,none,none] H;refine aY 3 nd<|dL<|ao<|ae 2<|ao<|gU hu<|ae 0<|ae 2 ⟨dl,.ref u1,rfl,g1,aA ⟨Z2,λl hl=>?_⟩⟩;have s1:=a8 hl<|.lst [.ref t,.ref u1];have el:(upd H l<|.lst [.ref t,.ref u1]) l=some (.lst<|[t,u1].map V.ref):=aD;generalize upd H l (.lst [.ref t,.ref u1])=H1 at s1 el;obtain⟨u2,g2,e2⟩:=(Mv.same s1).get (eW hT he)<|s1 _ _ e1;refine aY 4 nd<|gU hu<|ae 1<|bb cS<|ae 3<|HR F6<|aB ⟨1,rfl,l,_,_,.ref u1,rfl,rfl,al.of el,rfl,dr,.ref u2,rfl,g2,?_⟩;show Run _ _ _ [some<|.ref dl,some<|.ref dr,some<|.ref t,some<|.ref l,some<|.ref u2] H1;refine yF (λm σ H2=>∃(j:Nat) (ts:List Addr) (u:Addr),m=k - j/\0 < j/\j<=k/\ak H H2/\H2 l=some (.lst<|ts.map V.ref)/\dH n H2 ts (wk n e j)/\H2 u=some (TN n<|it (two n) j e)/\(∀ i,0 < i->i < j->it (two n) i e≠e)/\σ=[some<|.ref dl,some<|.ref dr,some<|.ref t,some<|.ref l,some<|.ref u])
  (m0:=k - 1) ⟨1,[t,u1],u2,rfl,Fn,k0,s1,el,dH.two (s1 _ _ ht)<|s1 _ _ e1,e2,λi h1 h2=>by omega,rfl⟩ ?_
 rintro m σ H2 ⟨j,ts,u,rfl,j0,j1,sH,rM,at2,eu,hf,rfl⟩;have BM:it (two n) j e∈ends n:=gB (λa ha=>ko hT ha) he j;refine dM (qv un) (ae 4<|ae 2 ⟨1,_,by decide,Yp eu<|sH _ _ ht,_,rfl,?_⟩);rw [YG hN BM he];have tl:=at2.1;rw [nn] at tl
 by_cases c:it (two n) j e=e
 ·rw [BW c];exact cU<|b5<|ae 3<|q l ts j H2 sH hl rM at2 ⟨j0,c,hf⟩<|by omega
 ·rw [BR c];have jk:j < k:=by
   rcases Db j k with h | h
   ·exact h
   ·have:j=k:=by omega
    subst this;exact absurd k2 c
  obtain⟨v1,g3,e3⟩:=(hL.same sH).get BM eu;refine gN<|fS<|yD EY PySem.F.slot_list_extend PySem.F.type_list_extend QI<|ae 3 (v:= .ref l) ⟨BH rM,dL<|ao<|ae 4<|ao<|gU hu<|ae 0<|ae 4 ⟨dl,.ref v1,rfl,g3,aA ⟨Z2,λp hp=>?_⟩⟩⟩;have s3:=a8 hp<|.lst [.ref u,.ref v1];have nlp:l≠p:=bt rM hp;refine⟨l,p,ts.map V.ref,[.ref u,.ref v1],rfl,rfl,s3 _ _ rM,aD,small (by rw [Ab];show _+2<=100000;omega),?_⟩;have BO:ak H (upd (upd H2 p<|.lst [.ref u,.ref v1]) l<|.lst<|ts.map V.ref++[.ref u,.ref v1]):=fZ (sH.trans s3) hl;have BQ:(upd (upd H2 p<|.lst [.ref u,.ref v1]) l<|.lst<|ts.map V.ref++[.ref u,.ref v1]) l=some (.lst<|(ts++[u,v1]).map V.ref):=by rw [aD,Al];rfl
  have kt:∀ b p' j',H2 b=some (Tn p' j')->(upd (upd H2 p<|.lst [.ref u,.ref v1]) l<|.lst<|ts.map V.ref++[.ref u,.ref v1]) b=some (Tn p' j'):=λb p' j' h=>by
   rw [ay<|b9 h rM λz=>nomatch z];exact s3 _ _ h
  generalize upd (upd H2 p<|.lst [.ref u,.ref v1]) l (.lst<|ts.map V.ref++[.ref u,.ref v1])=H3 at BO BQ kt;obtain⟨v2,g4,e4⟩:=(Mv.same BO).get (eW hT BM)<|kt _ _ _ e3;refine aY 4 nd<|gU hu<|ae 1<|bb cS<|ae 3<|HR F6<|aB ⟨1,rfl,l,_,_,.ref v1,rfl,rfl,al.of BQ,?_,dr,.ref v2,rfl,g4,?_⟩
  ·rw [Al];show dW (ts.map V.ref++[V.ref u,V.ref v1]) (-1)=_;rw [BI];exact Qr _ _
  refine bm ⟨k - (j+1),by omega,j+1,ts++[u,v1],v2,rfl,Gd _,jk,BO,BQ,(at2.keep kt).append<|dH.two (kt _ _ _ eu)<|kt _ _ _ e3,e4,λi h1 h2=>?_,rfl⟩
  by_cases dv:i=j
  ·subst dv;exact c
  ·exact hf i h1<|by omega
open bx
theorem Mw{α β:Type}(f:α->β):∀ xs:List α,ah (xs.map f)=(ah xs).map f
 | []=>rfl
 | [a]=>rfl
 | a :: b :: r=>by
  show f a :: ah (r.map f)=f a :: (ah r).map f;rw [Mw f r]
theorem dH.ah{n:Net}{H:Hp}{ts:List Addr}{es:List Nt.End}(h:dH n H ts es):dH n H (L2.ah ts) (L2.ah es):=by
 refine⟨by rw [qK,qK,h.1],λj t e h1 h2=>?_⟩;rw [nj] at h1 h2;exact h.2 _ t e h1 h2
theorem lN{P:Program}{w:World}{H:Hp}{a d:Addr}{o:HO}{zs:List Str}(h:H a=some o)(g:H d=some (bn P w d zs))(ho:∀ φ,o ≠ .ext φ):a≠d:=λe=>by
 rw [e,g] at h;exact ho _ (Option.some.inj h).symm
structure iC(n:Net)(H:Hp)(L:Addr)(ls:List Addr)(ws:List<|List Nt.End):Prop where
 lst:H L=some (.lst<|ls.map V.ref)
 len:ls.length=ws.length
 BU:ls.Nodup
 out:L∉ls
 at':∀(j:Nat) l w,ls[j]?=some l->ws[j]?=some w->∃ ts,H l=some (.lst<|ts.map V.ref)/\dH n H ts w
theorem iC.same{n:Net}{H H':Hp}{L:Addr}{ls:List Addr}{ws:List (List Nt.End)}(h:iC n H L ls ws)(s:ak H H'):iC n H' L ls ws:=
 ⟨s _ _ h.lst,h.len,h.BU,h.out,λj l w h1 h2=>let ⟨ts,a,b⟩:=h.at' j l w h1 h2;⟨ts,s _ _ a,b.same s⟩⟩
theorem iC.keep{n:Net}{H H':Hp}{L:Addr}{ls:List Addr}{ws:List (List Nt.End)}(h:iC n H L ls ws)(hL:H' L=H L)(kl:∀ l∈ls,∀ o,H l=some o->H' l=some o)(kt:∀ t p j,H t=some (Tn p j)->H' t=some (Tn p j)):iC n H' L ls ws:=
 ⟨by rw [hL];exact h.lst,h.len,h.BU,h.out,λj l w h1 h2=>let ⟨ts,a,b⟩:=h.at' j l w h1 h2;⟨ts,kl l (Ap h1) _ a,b.keep kt⟩⟩
theorem iC.snoc{n:Net}{H H':Hp}{L l:Addr}{ls ts:List Addr}{ws:List (List Nt.End)}{v:List Nt.End}(h:iC n H L ls ws)(hL:H' L=some (.lst<|ls.map V.ref++[.ref l]))(kl:∀ l∈ls,∀ o,H l=some o->H' l=some o)(kt:∀ t p j,H t=some (Tn p j)->H' t=some (Tn p j))
  (hl:H' l=some (.lst<|ts.map V.ref)) (hv:dH n H' ts v) (hn:l∉ls) (Mx:L≠l):iC n H' L (ls++[l]) (ws++[v]):=by
 refine⟨by rw [hL,Al];rfl,by rw [Ag,Ag,h.len];rfl,qf h.BU hn,λhm=>?_,λj a x h1 h2=>?_⟩
 ·rcases An.mp hm with hm | hm
  ·exact h.out hm
  ·exact Mx<|Ah.mp hm
 ·have hlen:=h.len
  by_cases hj:j < ls.length
  ·rw [Aq hj] at h1;rw [Aq<|by omega] at h2;obtain⟨us,q1,q2⟩:=h.at' j a x h1 h2;exact⟨us,kl a (Ap h1) _ q1,q2.keep kt⟩
  ·rw [Ay<|by omega] at h1 h2;have jM:j - ls.length=0:=by
    have:=(Ac.mp h1).1;simp at this;omega
   rw [jM] at h1;rw [<- hlen,jM] at h2;cases h1;cases h2;exact⟨ts,hl,hv⟩
def vE:Sp:=λvs H Q _=>∃(R:Addr) (as:List<|Addr×Addr) (n:Net),vs=[.ref R]/\ai H R as n/\(n.map (·.1)).Nodup/\aj n/\n.length<=1000/\(ag n).length<=400 /\
 ∀(L:Addr) (ls:List Addr) (H':Hp),ak H H'->H L=none->iC n H' L ls (dw n (ends n) [])->(∀ l∈ls,H l=none)->Q (.ref L) H'
theorem YK{n:Net}{i:Nat}{p:Str×Nt.End}(h:(bh n)[i]?=some p):(ends n)[i]?=some p.2:=by unfold ends;rw [Ai,h];rfl
abbrev YL:List Str:=["rows","lefts","rights","names","told","walkers","first","walker","end"]
theorem rN:aq YL ["rows"] (bd mX):=⟨rfl,rfl,rfl,by decide +kernel,rfl,by decide +kernel,by decide +kernel⟩
theorem YM{f:Addr}{fd:FuncData}(F:bL K "walkers_of" "walkers_of" mX f fd)(T:Txt mg)
  (GL:aV P w K mg base 3 "left_steps" ["rows"]<|gg 1)
  (GR:aV P w K mg base 3 "right_steps" ["rows"]<|gg (-1))
  (GN:aV P w K mg base 3 "ties_by_end" ["rows"] kJ)
  (GO:aV P w K mg base 3 "ends_in_order" ["rows"] A7)
  (GW:aV P w K mg base 3 "walker_from" ["lefts","rights","first"] nU) :
  aG P w K mg base bG 4 f fd ["rows"] vE:=by
 refine F.gb rN (λvs H Q E h=>?_) λb0 H vs Q E hr h=>?_
 ·obtain⟨R,as,n,rfl,_⟩:=h;rfl
 obtain⟨R,as,n,rfl,hR,hN,hT,hn,jO,q⟩:=h;have nd:=rN.nd;have qW:=f7 n;have hu:=hr.u1;show Run _ _ _ [some<|.ref R,none,none,none,none,none,none,none,none] H;refine aY 1 nd (bR GL hr<|ao<|ae 0<|aA ⟨R,as,n,rfl,hR,hN,hT,hn,by omega,λdl kl H1 s1 n1 e1 v1=>?_⟩);refine aY 2 nd (bR GR hr<|ao<|ae 0<|aA ⟨R,as,n,rfl,hR.same s1,hN,hT,hn,by omega,λdr kr H2 s2 n2 e2 v2=>?_⟩);refine aY 3 nd (bR GN hr<|ao<|ae 0<|aA ⟨R,as,n,rfl,hR.same<|s1.trans s2,hN,hn,by omega,λdn kn H3 s3 n3 e3 v3=>?_⟩);refine aY 4 nd<|V0 T.m7 λD hD=>?_;refine aY 5 nd<|dL<|aA ⟨Z0,λL hL=>?_⟩;have YN:bf n H3 dl 1:=bf.same ⟨kl,e1,v1⟩<|s2.trans s3;have YQ:bf n H3 dr (-1):=bf.same ⟨kr,e2,v2⟩ s3;have nV:=(s1.trans s2).trans s3;have vF:L≠D:=λe=>by rw [e,aD] at hL;cases hL
 have YR:H3 L=none:=by rw [ay vF] at hL;exact hL
 have BF:=lM nV hD;have kD:=lM nV YR;have sB:ak H3 (upd (upd H3 D<|bn P w D []) L<|.lst []):=(a8 hD _).trans<|a8 hL _;have My:(upd (upd H3 D<|bn P w D []) L<|.lst []) D=some (bn P w D []):=by rw [ay<|CN vF,aD]
 have BV:(upd (upd H3 D<|bn P w D []) L<|.lst []) L=some (.lst []):=aD;have B0:=nV.trans sB;have rO:=YN.same sB;have rP:=YQ.same sB;have Mz:=sB _ _ e3;show Run _ _ _ [some<|.ref R,some<|.ref dl,some<|.ref dr,some<|.ref dn,some<|.ref D,some<|.ref L,none,none,none] (upd (upd H3 D<|bn P w D []) L<|.lst []);generalize upd (upd H3 D<|bn P w D []) L (.lst [])=HB at sB My BV B0 rO rP Mz;refine j6 (bR GO hr<|ao<|ae 0<|aA ⟨R,as,n,rfl,hR.same B0,hn,by omega,λU us H5 s5 n5 e5 B1=>⟨U,rfl,⟨_,al.of e5⟩,?_⟩⟩);have MA:=B0.trans s5;have jN:=s5 _ _ My;have vG:=s5 _ _ BV;have B2:=rO.same s5;have B3:=rP.same s5;have B4:=s5 _ _ Mz;have YS:U≠L:=λe=>by rw [e,BV] at n5;cases n5
 have YT:us.length=(ends n).length:=by rw [B1.1];unfold ends;rw [Ab]
 refine j7 (xs:=us.map V.ref) (λi σ H'=>∃(zs told:List Str) (ls:List Addr) (ws:List<|List Nt.End) (u1 u2 u3:Option V),(∀ b o,b≠D->b≠L->H5 b=some o->H' b=some o)/\H' D=some (bn P w D zs)/\zs.Nodup/\(∀ z∈zs,z∈ag n)/\(∀ z,z∈zs↔z∈told) /\
  iC n H' L ls ws/\(∀ l∈ls,H5 l=none)/\ls.length<=i/\dw n (ends n) []=ws++dw n ((ends n).drop i) told/\σ=[some<|.ref R,some<|.ref dl,some<|.ref dr,some<|.ref dn,some<|.ref D,some<|.ref L,u1,u2,u3])
  ⟨[],[],[],[],_,_,_,λb o _ _ h=>h,jN,Cj,λz h=>by simp at h,λz=>by simp,⟨vG,rfl,Cj,by simp,λj l w h=>by simp at h⟩,λl h=>by simp at h,Am _,rfl,rfl⟩ ?_ ?_ ?_
 ·rintro i σ H' _ ⟨_,_,_,_,_,_,_,kp,_⟩;exact al.of<|kp _ _ (lN e5 jN λφ z=>nomatch z) YS e5
 ·rintro i x σ H' hx ⟨zs,told,ls,ws,u1,u2,u3,kp,eD,zn,zt,zm,hW,hf,yu,rQ,rfl⟩;have hi:i < us.length:=by
   have:=(Ac.mp hx).1;rw [Ab] at this;exact this
  rw [Ai,Aa hi] at hx;cases hx;have B5:i < (bh n).length:=by have:=B1.1;omega
  have vH:H5 us[i]=some (TN n (bh n)[i].2):=B1.2 i us[i] (bh n)[i] (Aa hi)<|Aa B5;have lP:=YK<|Aa B5;have hG:aF n (bh n)[i].2=some (bh n)[i].1:=aN.mp (by have:=Bn B5;exact this);generalize (bh n)[i]=pr at vH lP hG;obtain⟨z,e⟩:=pr;have vH:H5 us[i]=some (TN n e):=vH;have hG:aF n e=some z:=hG;have lP:(ends n)[i]?=some e:=lP;have he:e∈ends n:=Ap lP;have lQ:(ends n).drop i=e :: (ends n).drop (i+1):=by
   have MB:i < (ends n).length:=by omega
   rw [El MB]
   congr 1
   have:=Aa MB;rw [lP] at this;exact(Option.some.inj this).symm
  have MC:∀{b p j},H5 b=some (Tn p j)->H' b=some (Tn p j):=λ{b p j} h=>kp _ _ (lN h jN λφ z=>nomatch z) (b9 h vG λz=>nomatch z) h;have eQ:=MC vH;have B6:H' dn=some (.dT kn):=kp _ _ (lN B4 jN λφ z=>nomatch z) (b9 B4 vG λz=>nomatch z) B4;have dS:∀{d c},bf n H5 d c->bf n H' d c:=λ{d c} ⟨kvs,a,b⟩=>⟨kvs,kp _ _ (lN a jN λφ z=>nomatch z) (b9 a vG λz=>nomatch z) a,λe he=>let ⟨u,p,r⟩:=b e he;⟨u,p,MC r⟩⟩;have YV:bw H' dn (.ref us[i]) (some<|.str z):=by rw [<- v3 e z hG];exact bw.t (k:=key n e) B6 eQ
  refine bE 6 nd ?_;refine im<|dM V1<|gU hu<|ae 3<|ae 6 ⟨dn,.str z,rfl,YV,ae 4 ⟨z,D,zs,rfl,rfl,eD,_,rfl,?_⟩⟩;refine j5 (λc=>?_) λc=>?_
  ·have hz:z∉zs:=BX c;have gj:aw n e∉told:=by rw [cW hG];exact λh=>hz<|(zm z).mpr h
   refine aY 7 nd (bR GW hr<|ao<|ae 1<|ao<|ae 2<|ao<|ae 6<|aA ⟨dl,dr,us[i],n,e,rfl,dS B2,dS B3,hN,hT,by omega,he,eQ,λl ts k H6 s6 n6 e6 YW pr hk=>?_⟩);have YX:=qO pr;have rR:walker n e=wk n e k:=by unfold walker;rw [YX]
   have B7:=s6 _ _ hW.lst;have js:=s6 _ _ eD;have B8:L≠l:=bt hW.lst n6;have o9:D≠l:=bt eD n6;refine fS (jF<|ae 5 ⟨L,rfl,⟨_,B7⟩,ae 7 ⟨_,B7,by rw [Ab];exact cD (by omega),?_⟩⟩);have k7:∀ b o,b≠L->H6 b=some o->(upd H6 L<|.lst<|ls.map V.ref++[.ref l]) b=some o:=λb o hb h=>by rw [ay hb];exact h
   have MD:(upd H6 L<|.lst<|ls.map V.ref++[.ref l]) L=some (.lst<|ls.map V.ref++[.ref l]):=aD;generalize upd H6 L (.lst<|ls.map V.ref++[.ref l])=H7 at k7 MD;have ME:∀ t p j,H6 t=some (Tn p j)->H7 t=some (Tn p j):=λt p j h=>k7 _ _ (b9 h B7 λz=>nomatch z) h;have e7:=k7 _ _ (CN B8) e6;have YY:=k7 _ _ (CN vF) js;have MG:=YW.keep ME;have B9:l∉ls:=λhm=>by
    obtain⟨j,hj⟩:=Bo hm;have hlen:=hW.len;have CA:j < ws.length:=by have:=(Ac.mp hj).1;omega
    obtain⟨_,a,_⟩:=hW.at' j l ws[j] hj<|Aa CA;rw [n6] at a;cases a
   have YZ:iC n H7 L (ls++[l]) (ws++[wk n e k]):=hW.snoc MD (λa ha o ho=>k7 _ _ (λq=>hW.out<|q ▸ ha)<|s6 _ _ ho) (λt p j h=>ME _ _ _<|s6 _ _ h) e7 MG B9 B8;have Y0:H5 l=none:=by
    cases q5:H5 l with
    | none=>rfl
    | some o=>rw [kp _ _ (CN o9) (CN B8) q5] at n6;cases n6
   have Y1:∀ a∈ls++[l],H5 a=none:=λa ha=>by
    rcases An.mp ha with ha | ha
    ·exact hf a ha
    ·rw [Ah.mp ha];exact Y0
   have rh:∀ b o,b≠D->b≠L->H5 b=some o->H7 b=some o:=λb o h1 h2 h=>k7 _ _ h2<|s6 _ _<|kp b o h1 h2 h;have Y2:(ls++[l]).length<=i+1:=by rw [Ag];show ls.length+1<=_;omega
   have CB:dw n (ends n) []=(ws++[wk n e k])++dw n ((ends n).drop<|i+1) (told++(ah<|wk n e k).map (aw n)):=by
    rw [rQ,lQ];show ws++(if aw n e∈told then _ else _)=_;rw [BL gj,rR,Ar];rfl
   have Y3:=zH hT he k;refine j6<|VW<|ae 7 ⟨l,_,rfl,al.of e7,λp hp=>⟨p,rfl,⟨_,al.of aD⟩,?_⟩⟩;rw [Mw];have s8:=a8 hp<|.lst<|(ah ts).map V.ref;have e8:(upd H7 p<|.lst<|(ah ts).map V.ref) p=some (.lst<|(ah ts).map V.ref):=aD;have lR:=s8 _ _ YY;have px:=YZ.same s8;have vI:=(MG.same s8).ah;have MH:∀ b o,b≠D->b≠L->H5 b=some o->(upd H7 p<|.lst<|(ah ts).map V.ref) b=some o:=λb o h1 h2 h=>s8 _ _<|rh b o h1 h2 h;have CD:=s8 _ _ (k7 _ _ (b9 B6 hW.lst λz=>nomatch z)<|s6 _ _ B6);generalize upd H7 p (.lst<|(ah ts).map V.ref)=H8 at s8 e8 lR px vI MH CD;have Y4:p≠D:=lN e8 lR λφ z=>nomatch z;refine j7 (xs:=(ah ts).map V.ref) (λm σ H9=>∃(gy:List Str) (u3:Option V),(∀ b o,b≠D->H8 b=some o->H9 b=some o)/\H9 D=some (bn P w D gy)/\gy.Nodup/\(∀ z∈gy,z∈ag n)/\(∀ z,z∈gy↔z∈told++((ah<|wk n e k).take m).map (aw n)) /\
    σ=[some<|.ref R,some<|.ref dl,some<|.ref dr,some<|.ref dn,some<|.ref D,some<|.ref L,some<|.ref us[i],some<|.ref l,u3]) ⟨zs,_,λb o _ h=>h,lR,zn,zt,λz=>by rw [zm z];simp,rfl⟩ ?_ ?_ ?_
   ·rintro m σ H9 _ ⟨_,_,k9,_⟩;exact al.of<|k9 _ _ Y4 e8
   ·rintro m x σ H9 hx ⟨gy,u3,k9,vJ,rS,vK,vL,rfl⟩;have hm:m < (ah ts).length:=by
     have:=(Ac.mp hx).1;rw [Ab] at this;exact this
    have l8:=vI.1;rw [Ai,Aa hm] at hx;cases hx;have kA:m < (ah<|wk n e k).length:=by omega
    have CF:=vI.2 m _ _ (Aa hm)<|Aa kA;have nB:(ah<|wk n e k)[m]∈wk n e k:=by
     have h1:(ah<|wk n e k)[m]?=some (ah<|wk n e k)[m]:=Aa kA;rw [nj] at h1;exact Ap h1
    have vf:=Y3 _ nB;obtain⟨y,hy⟩:=af.mp vf;have nW:(ah<|wk n e k).take (m+1)=(ah<|wk n e k).take m++[(ah<|wk n e k)[m]]:=by rw [Do,Aa kA];rfl
    generalize (ah<|wk n e k)[m]=c at CF vf hy nW;have Y5:H9 (ah ts)[m]=some (TN n c):=k9 _ _ (lN CF lR λφ z=>nomatch z) CF;have Y6:H9 dn=some (.dT kn):=k9 _ _ (lN CD lR λφ z=>nomatch z) CD;have Y7:bw H9 dn (.ref (ah ts)[m]) (some<|.str y):=by rw [<- v3 c y hy];exact bw.t (k:=key n c) Y6 Y5
    have zl:gy.length<=(ag n).length:=aU rS vK;refine bE 8 nd ?_;refine fS<|V2<|ae 4 ⟨D,rfl,⟨_,vJ⟩,gU hu<|ae 3<|ae 8 ⟨dn,.str y,rfl,Y7,y,gy,rfl,vJ,by omega,bm ⟨added gy y,_,λb o hb h=>?_,aD,?_,λz hz=>?_,λz=>?_,rfl⟩⟩⟩
    ·rw [ay hb];exact k9 b o hb h
    ·unfold added
     split
     ·exact rS
     ·rename_i Y8;exact qf rS Y8
    ·rcases (yq gy y z).mp hz with h | h
     ·exact vK z h
     ·rw [h];exact dE hy
    ·rw [yq,vL z,nW,Al,<- Ar,An (s:=told++_)];show _\/z=y↔_\/z∈[aw n c];rw [cW hy,Ah]
   ·rintro σ H9 ⟨gy,u3,k9,vJ,rS,vK,vL,rfl⟩;have l8:=vI.1;rw [Ab,l8,Dc] at vL;refine bm<|bm ⟨gy,told++(ah<|wk n e k).map (aw n),ls++[l],ws++[wk n e k],_,_,_,λb o h1 h2 h=>k9 _ _ h1<|MH b o h1 h2 h,vJ,rS,vK,vL,?_,Y1,Y2,CB,rfl⟩;refine px.keep ?_ (λa ha o ho=>k9 _ _ ?_ ho) λt p j h=>k9 _ _ (lN h lR λφ z=>nomatch z) h
    ·rw [px.lst];exact k9 _ _ vF px.lst
    ·intro q;rw [q,lR] at ho;obtain⟨j,hj⟩:=Bo ha;have hlen:=px.len;have CA:j < (ws++[wk n e k]).length:=by have:=(Ac.mp hj).1;omega
     obtain⟨_,b,_⟩:=px.at' j a _ hj<|Aa CA;rw [q,lR] at b;cases b
  ·have hz:z∈zs:=Classical.not_not.mp<|IW<|Dz.mpr c;refine bm (bm ⟨zs,told,ls,ws,_,_,_,kp,eD,zn,zt,zm,hW,hf,by omega,?_,rfl⟩);rw [rQ,lQ];show ws++(if aw n e∈told then _ else _)=_;rw [BP<|by rw [cW hG];exact(zm z).mp hz]
 ·rintro σ H' ⟨zs,told,ls,ws,u1,u2,u3,kp,eD,zn,zt,zm,hW,hf,yu,rQ,rfl⟩;rw [Ab,YT,List.drop_length] at rQ;have CH:dw n (ends n) []=ws:=by rw [rQ];show ws++[]=ws;rw [Bz]
  refine b5 (ae 5<|q L ls H' (λb o h=>?_) kD (by rw [CH];exact hW) λl hl=>lM MA<|hf l hl);exact kp _ _ (bt h BF) (bt h kD)<|MA _ _ h
end
end D3
namespace cQ
open PySem PySem.W PyProof.Rows
section
variable{lt:Nat->Nat->Bool}{cmp:Nat->Nat->(Bool->Shared->Prop)->Shared->Prop}{J:Shared->Prop}{n:Nat}
structure dC(lt:Nat->Nat->Bool)(cmp:Nat->Nat->(Bool->Shared->Prop)->Shared->Prop)(J:Shared->Prop)(n:Nat):Prop where
 ask:∀(i j:Nat) (C:Bool->Shared->Prop) (s:Shared),i < n->j < n->i≠j->J s->(∀ s',J s'->C (lt i j) s')->cmp i j C s
 Y9:∀ i j,i < n->j < n->i≠j->lt i j=true\/lt j i=true
 asy:∀ i j,lt i j=true->lt j i=false
 vM:∀ i j k,lt i j=true->lt j k=true->lt i k=true
def g(p:Array Nat)(i:Nat):Nat:=p.getD i 0
structure Pm(p:Array Nat)(n:Nat):Prop where
 size:p.size=n
 lt:∀ i,i < n->g p i < n
 inj:∀ i j,i < n->j < n->g p i=g p j->i=j
theorem hU{p:Array Nat}{i:Nat}{v:Nat}(h:p[i]?=some v):g p i=v:=by
 unfold g;rw [Dk,h];rfl
theorem jt{p q:Array Nat}{i j:Nat}(h:p[i]?=q[j]?):g p i=g q j:=by
 unfold g;rw [Dk,Dk,h]
theorem MI(n:Nat):Pm (List.toArray<|List.range n) n:=by
 have e:∀ i,i < n->g (List.toArray<|List.range n) i=i:=λi hi=>hU (by simp [hi]);exact⟨by simp,λi hi=>by rw [e i hi];exact hi,λi j hi hj h=>by rw [e i hi,e j hj] at h;exact h⟩
def Up(lt:Nat->Nat->Bool)(p:Array Nat)(m:Nat):Prop:=∀ i j,i < j->j < m->lt (g p i) (g p j)=true
def Dn(lt:Nat->Nat->Bool)(p:Array Nat)(m:Nat):Prop:=∀ i j,i < j->j < m->lt (g p j) (g p i)=true
theorem Y'(p:Array Nat):Up lt p 1:=λi j h1 h2=>by omega
theorem Za(A:dC lt cmp J n){p:Array Nat}{m:Nat}(h1:1<=m)(h:Up lt p m)(hm:lt (g p<|m - 1) (g p m)=true):Up lt p (m+1):=λi j hi hj=>by
 by_cases c:j < m
 ·exact h i j hi c
 ·have:j=m:=by omega
  subst this
  by_cases d:i=j - 1
  ·rw [d];exact hm
  ·exact A.vM _ _ _ (h i (j - 1) (by omega)<|by omega) hm
theorem Zb(A:dC lt cmp J n){p:Array Nat}{m:Nat}(h1:1<=m)(h:Dn lt p m)(hm:lt (g p m) (g p<|m - 1)=true):Dn lt p (m+1):=λi j hi hj=>by
 by_cases c:j < m
 ·exact h i j hi c
 ·have:j=m:=by omega
  subst this
  by_cases d:i=j - 1
  ·rw [d];exact hm
  ·exact A.vM _ _ _ hm<|h i (j - 1) (by omega)<|by omega
theorem CI(A:dC lt cmp J n){i j:Nat}(hi:i < n)(hj:j < n)(bu:i≠j)(h:lt i j=false):lt j i=true:=by
 rcases A.Y9 i j hi hj bu with q | q
 ·rw [h] at q;cases q
 ·exact q
theorem CL(A:dC lt cmp J n){p:Array Nat}(P:Pm p n):∀(f m:Nat) (Q:Nat->Shared->Prop) (s:Shared),1<=m->m+f<=n->Up lt p m->J s ->
  (∀ k s',J s'->m<=k->k<=m+f->Up lt p k->(k < m+f->lt (g p k) (g p<|k - 1)=true)->Q k s')->(kas_asc p f m).kasWp cmp Q s
 | 0,m,Q,s,h1,h2,hu,hJ,k=>k m s hJ (Am _) (Am _) hu λh=>by omega
 | f+1,m,Q,s,h1,h2,hu,hJ,k=>by
  have bu:g p m≠g p (m - 1):=λh=>by have:=P.inj m (m - 1) (by omega) (by omega) h;omega
  refine A.ask _ _ _ _ (P.lt m<|by omega) (P.lt (m - 1)<|by omega) bu hJ λs' fH=>?_;cases e:lt (p.getD m 0) (p.getD (m - 1) 0) with
  | true=>exact k m s' fH (Am _) (by omega) hu λ_=>e
  | false=>
   have Zc:Up lt p (m+1):=Za A h1 hu (CI A (P.lt m<|by omega) (P.lt (m - 1)<|by omega) bu e);exact CL A P f (m+1) Q s' (by omega) (by omega) Zc fH λk' s2 j2 a b c d=>k k' s2 j2 (by omega) (by omega) c λh=>d<|by omega
theorem ML(A:dC lt cmp J n){p:Array Nat}(P:Pm p n):∀(f m:Nat) (Q:Array Nat×Nat×Nat->Shared->Prop) (s:Shared),1<=m->m+f<=n->Dn lt p m->J s ->
  (∀ k s',J s'->m<=k->k<=m+f->Dn lt p k->Q (p,k,0) s')->(kas_desc f p m 0).kasWp cmp Q s
 | 0,m,Q,s,h1,h2,hd,hJ,k=>k m s hJ (Am _) (Am _) hd
 | f+1,m,Q,s,h1,h2,hd,hJ,k=>by
  have bu:g p m≠g p (m - 1):=λh=>by have:=P.inj m (m - 1) (by omega) (by omega) h;omega
  refine A.ask _ _ _ _ (P.lt m<|by omega) (P.lt (m - 1)<|by omega) bu hJ λs' fH=>?_;cases e:lt (p.getD m 0) (p.getD (m - 1) 0) with
  | true=>
   show(if true=true then(if 0 > 0 then _ else kas_desc f p (m+1) 0) else _:KasT _).kasWp cmp Q s';rw [BP rfl,BL<|by omega];exact ML A P f (m+1) Q s' (by omega) (by omega) (Zb A h1 hd e) fH λk' s2 j2 a b c=>k k' s2 j2 (by omega) (by omega) c
  | false=>
   refine A.ask _ _ _ _ (P.lt (m - 1)<|by omega) (P.lt m<|by omega) (CN bu) fH λs2 rT=>?_;have e2:lt (p.getD (m - 1) 0) (p.getD m 0)=true:=CI A (P.lt m<|by omega) (P.lt (m - 1)<|by omega) bu e;rw [e2];exact k m s2 rT (Am _) (by omega) hd
theorem rV{p:Array Nat}{m k:Nat}(h:m<=p.size):g (kas_rev p 0 m) k=if k < m then g p (m - 1 - k) else g p k:=by
 have e:=getElem?_mirror_all (xs:=p) (i:=0) (j:=m) h k
 by_cases c:k < m
 ·rw [BP c];rw [BP ⟨Bq _,c⟩] at e;refine jt<|e.trans ?_
  congr 1
  omega
 ·rw [BL c];rw [BL λq=>c q.2] at e;exact jt e
theorem MM{p:Array Nat}{m:Nat}(P:Pm p n)(h:m<=n):Pm (kas_rev p 0 m) n:=by
 have hs:m<=p.size:=by rw [P.size];exact h
 refine⟨by rw [kas_rev_size];exact P.size,λi hi=>?_,λi j hi hj q=>?_⟩
 ·rw [rV hs]
  split
  ·exact P.lt _<|by omega
  ·exact P.lt _ hi
 ·rw [rV hs,rV hs] at q
  by_cases c:i < m <;> by_cases d:j < m
  ·rw [BP c,BP d] at q;have:=P.inj _ _ (by omega) (by omega) q;omega
  ·rw [BP c,BL d] at q;have:=P.inj _ _ (by omega) hj q;omega
  ·rw [BL c,BP d] at q;have:=P.inj _ _ hi (by omega) q;omega
  ·rw [BL c,BL d] at q;exact P.inj _ _ hi hj q
theorem Zd{p:Array Nat}{m:Nat}(P:Pm p n)(h:m<=n)(hd:Dn lt p m):Up lt (kas_rev p 0 m) m:=λi j hi hj=>by
 have hs:m<=p.size:=by rw [P.size];exact h
 rw [rV hs,rV hs,BP (by omega),BP hj];exact hd (m - 1 - j) (m - 1 - i) (by omega)<|by omega
theorem Zf(A:dC lt cmp J n){p:Array Nat}(P:Pm p n){m:Nat}{Q:Nat×Array Nat->Shared->Prop}{s:Shared}(h1:1<=m)(h2:m<=n)(hd:Dn lt p m)(hJ:J s)
  (k:∀ r q s',J s'->1<=r->r<=n->Pm q n->Up lt q r->Q (r,q) s'):(kas_tail3 m n p).kasWp cmp Q s:=by
 unfold kas_tail3;rw [JV];exact CL A (MM P h2) (n - m) m _ s h1 (by omega) (Zd P h2 hd) hJ λr s' j a b c _=>k r _ s' j (by omega) (by omega) (MM P h2) c
theorem Zg(A:dC lt cmp J n){p:Array Nat}(P:Pm p n){Q:Nat×Array Nat->Shared->Prop}{s:Shared}(h2:2<=n)(hJ:J s)
  (k:∀ r q s',J s'->1<=r->r<=n->Pm q n->Up lt q r->Q (r,q) s'):(kas_count n p).kasWp cmp Q s:=by
 unfold kas_count;rw [JV];refine CL A P (n - 1) 1 _ s (Am _) (by omega) (Y' p) hJ λm s' fH m1 m2 hu rW=>?_
 by_cases c:m=n
 ·subst c;rw [BP<|by simp];exact k m p s' fH m1 (Am _) P hu
 ·rw [BL<|by simpa using c]
  by_cases d:m > 1
  ·rw [BP d];have bu:g p 0≠g p (m - 1):=λh=>by have:=P.inj 0 (m - 1) (by omega) (by omega) h;omega
   refine A.ask _ _ _ _ (P.lt 0<|by omega) (P.lt (m - 1)<|by omega) bu fH λs2 rT=>?_;have e:lt (p.getD 0 0) (p.getD (m - 1) 0)=true:=hu 0 (m - 1) (by omega) (by omega);rw [e];exact k m p s2 rT m1 (by omega) P hu
  ·rw [BL d];have em:m=1:=by omega
   subst em;unfold kas_descPart;rw [JV];have hl:=rW (by omega);have hd2:Dn lt p 2:=λi j hi hj=>by
    have:i=0/\j=1:=by omega
    rw [this.1,this.2];exact hl
   refine ML A P (n - (1+1)) (1+1) _ s' (by omega) (by omega) hd2 fH λr s2 rT r1 r2 hd=>?_;show(if(0:Nat) > 0 then _ else kas_tail3 r n p:KasT _).kasWp cmp Q s2;rw [BL<|by omega];exact Zf A P (by omega) (by omega) hd rT k
theorem CM(A:dC lt cmp J n){p:Array Nat}(P:Pm p n){k:Nat}(hk:k < n)(hu:Up lt p k):∀(f l r:Nat) (Q:Nat->Shared->Prop) (s:Shared),r<=k->l<=r->r - l<=f->J s->(∀ i,i < l->lt (g p i) (g p k)=true)->(∀ i,r<=i->i < k->lt (g p k) (g p i)=true) ->
  (∀ m s',J s'->m<=k->(∀ i,i < m->lt (g p i) (g p k)=true)->(∀ i,m<=i->i < k->lt (g p k) (g p i)=true)->Q m s')->(kas_place p k f l r).kasWp cmp Q s
 | 0,l,r,Q,s,h1,h2,h3,hJ,ha,hb,q=>q l s hJ (by omega) ha λi hi=>hb i<|by omega
 | f+1,l,r,Q,s,h1,h2,h3,hJ,ha,hb,q=>by
  unfold kas_place
  by_cases c:l>=r
  ·rw [BP c];exact q l s hJ (by omega) ha λi hi=>hb i<|by omega
  ·rw [BL c];have Zh:(l+r) / 2 < k:=by omega
   have bu:g p k≠g p ((l+r) / 2):=λh=>by have:=P.inj k _ hk (by omega) h;omega
   refine A.ask _ _ _ _ (P.lt k hk) (P.lt _<|by omega) bu hJ λs' fH=>?_;cases e:lt (p.getD k 0) (p.getD ((l+r) / 2) 0) with
   | true=>
    show(kas_place p k f l<|(l+r) / 2).kasWp cmp Q s';refine CM A P hk hu f l ((l+r) / 2) Q s' (by omega) (by omega) (by omega) fH ha (λi hi MO=>?_) q
    by_cases d:i=(l+r) / 2
    ·rw [d];exact e
    ·exact A.vM _ _ _ e<|hu _ _ (by omega) MO
   | false=>
    show(kas_place p k f ((l+r) / 2+1) r).kasWp cmp Q s';have e2:=CI A (P.lt k hk) (P.lt _<|by omega) bu e;refine CM A P hk hu f ((l+r) / 2+1) r Q s' h1 (by omega) (by omega) fH (λi hi=>?_) hb q
    by_cases d:i=(l+r) / 2
    ·rw [d];exact e2
    ·exact A.vM _ _ _ (hu _ _ (by omega) Zh) e2
theorem rX{p:Array Nat}{k m i:Nat}(hk:k < p.size)(hm:m<=k):g (bubble p k<|k - m) i=if i=m then g p k else if m < i/\i<=k then g p (i - 1) else g p i:=by
 have e:=getElem?_bubble (xs:=p) hk (k - m) (by omega) i;rw [show k - (k - m)=m by omega] at e
 by_cases c:i=m
 ·rw [BP c];rw [BP c] at e;exact jt e
 ·rw [BL c];rw [BL c] at e
  by_cases d:m < i/\i<=k
  ·rw [BP d];rw [BP d] at e;exact jt e
  ·rw [BL d];rw [BL d] at e;exact jt e
theorem Zi{p:Array Nat}{k m:Nat}(P:Pm p n)(hk:k < n)(hm:m<=k):Pm (bubble p k<|k - m) n:=by
 have hs:k < p.size:=by rw [P.size];exact hk
 refine⟨by rw [bubble_size];exact P.size,λi hi=>?_,λi j hi hj q=>?_⟩
 ·rw [rX hs hm]
  split
  ·exact P.lt k hk
  ·split
   ·exact P.lt _<|by omega
   ·exact P.lt _ hi
 ·rw [rX hs hm,rX hs hm] at q;have src:∀ a,a < n->∃ b,b < n/\(if a=m then g p k else if m < a/\a<=k then g p (a - 1) else g p a)=g p b/\((a=m/\b=k)\/(a≠m/\(m < a/\a<=k)/\b=a - 1)\/(a≠m/\¬(m < a/\a<=k)/\b=a)):=λa ha=>by
   by_cases c:a=m
   ·exact⟨k,hk,by rw [BP c],.inl ⟨c,rfl⟩⟩
   ·by_cases d:m < a/\a<=k
    ·exact⟨a - 1,by omega,by rw [BL c,BP d],.inr<|.inl ⟨c,d,rfl⟩⟩
    ·exact⟨a,ha,by rw [BL c,BL d],.inr<|.inr ⟨c,d,rfl⟩⟩
  obtain⟨x,x1,x2,x3⟩:=src i hi;obtain⟨y,y1,y2,y3⟩:=src j hj;rw [x2,y2] at q;have e:=P.inj x y x1 y1 q;subst e
  rcases x3 with ⟨a1,a2⟩ | ⟨a1,a2,a3⟩ | ⟨a1,a2,a3⟩
  ·rcases y3 with ⟨b1,b2⟩ | ⟨b1,b2,b3⟩ | ⟨b1,b2,b3⟩
   ·exact a1.trans b1.symm
   ·exact absurd (a2.symm.trans b3)<|Cr<|Bc (Nat.sub_lt (Gn b2.1) Fn) b2.2
   ·exact absurd ⟨Ga (by rw [<- b3,a2];exact hm)<|CN b1,by rw [<- b3,a2];exact Am _⟩ b2
  ·rcases y3 with ⟨b1,b2⟩ | ⟨b1,b2,b3⟩ | ⟨b1,b2,b3⟩
   ·exact absurd (b2.symm.trans a3)<|Cr<|Bc (Nat.sub_lt (Gn a2.1) Fn) a2.2
   ·exact Nat.sub_one_cancel (Gn a2.1) (Gn b2.1)<|a3.symm.trans b3
   ·exact absurd ⟨Ga (by rw [<- b3,a3];exact Nat.le_sub_one_of_lt a2.1)<|CN b1,by rw [<- b3,a3];exact Ce (Nat.sub_le _ _) a2.2⟩ b2
  ·rcases y3 with ⟨b1,b2⟩ | ⟨b1,b2,b3⟩ | ⟨b1,b2,b3⟩
   ·exact absurd ⟨Ga (by rw [<- a3,b2];exact hm)<|CN a1,by rw [<- a3,b2];exact Am _⟩ a2
   ·exact absurd ⟨Ga (by rw [<- a3,b3];exact Nat.le_sub_one_of_lt b2.1)<|CN a1,by rw [<- a3,b3];exact Ce (Nat.sub_le _ _) b2.2⟩ a2
   ·exact a3.symm.trans b3
theorem Zj{p:Array Nat}{k m:Nat}(P:Pm p n)(hk:k < n)(hm:m<=k)(hu:Up lt p k)(ha:∀ i,i < m->lt (g p i) (g p k)=true)(hb:∀ i,m<=i->i < k->lt (g p k) (g p i)=true):Up lt (bubble p k<|k - m) (k+1):=λi j hi hj=>by
 have hs:k < p.size:=by rw [P.size];exact hk
 rw [rX hs hm,rX hs hm]
 by_cases c:i=m
 ·rw [BP c,BL (by omega),BP<|by omega];exact hb _ (by omega)<|by omega
 ·rw [BL c]
  by_cases d:j=m
  ·rw [BP d,BL<|by omega];exact ha i<|by omega
  ·rw [BL d]
   by_cases e:m < i/\i<=k
   ·rw [BP e,BP<|by omega];exact hu _ _ (by omega)<|by omega
   ·rw [BL e]
    by_cases f:m < j/\j<=k
    ·rw [BP f];exact hu _ _ (by omega)<|by omega
    ·rw [BL f];exact hu _ _ hi<|by omega
theorem MQ(A:dC lt cmp J n):∀(f:Nat) (p:Array Nat) (k:Nat) (Q:Array Nat->Shared->Prop) (s:Shared),Pm p n->1<=k->k+f=n->Up lt p k->J s->(∀ q s',J s'->Pm q n->Up lt q n->Q q s')->(kas_bin f p k).kasWp cmp Q s
 | 0,p,k,Q,s,P,h1,h2,hu,hJ,q=>by
  have:k=n:=by omega
  subst this;exact q p s hJ P hu
 | f+1,p,k,Q,s,P,h1,h2,hu,hJ,q=>by
  unfold kas_bin;rw [JV];refine CM A P (by omega) hu k 0 k _ s (Am _) (Bq _) (by omega) hJ (λi hi=>by omega) (λi hi MO=>by omega) λm s' fH hm ha hb=>?_;exact MQ A f _ (k+1) Q s' (Zi P (by omega) hm) (by omega) (by omega) (Zj P (by omega) hm hu ha hb) fH q
theorem Zk(A:dC lt cmp J n){Q:Array Nat->Shared->Prop}{s:Shared}(h2:2<=n)(hJ:J s)(q:∀ p s',J s'->Pm p n->Up lt p n->Q p s'):(kas_sort n).kasWp cmp Q s:=by
 unfold kas_sort;rw [JV];refine Zg A (MI n) h2 hJ λr p s' fH r1 r2 P hu=>?_;show(if r < n then kas_bin (n - max r 1) p (max r 1) else .ret p:KasT _).kasWp cmp Q s';have em:max r 1=r:=by omega
 rw [em]
 by_cases c:r < n
 ·rw [BP c];exact MQ A (n - r) p r Q s' P r1 (by omega) hu fH q
 ·rw [BL c];have:r=n:=by omega
  subst this;exact q p s' fH P hu
end
theorem MR{p:Array Nat}{n:Nat}(P:Pm p n):p.toList.Nodup:=by
 rw [Bh,Be];intro i j hi hj dv e;have oG:i < n:=by rw [Bs,P.size] at hi;exact hi
 have mN:j < n:=by rw [Bs,P.size] at hj;exact hj
 have e1:g p i=p.toList[i]:=hU (by rw [<- Ca];exact Aa hi);have e2:g p j=p.toList[j]:=hU (by rw [<- Ca];exact Aa hj);have:=P.inj i j oG mN (by rw [e1,e2,e]);omega
theorem CO{p:Array Nat}{n v:Nat}(P:Pm p n)(h:v∈p.toList):v < n:=by
 obtain⟨i,hi⟩:=Bo h;have hl:i < n:=by have:=(Ac.mp hi).1;rw [Bs,P.size] at this;exact this
 have e1:g p i=v:=hU (by rw [<- Ca];exact hi);rw [<- e1];exact P.lt i hl
theorem Zm{p:Array Nat}{n:Nat}(P:Pm p n):p.toList.Perm (List.range n):=by
 rw [Dm (MR P) QM];intro v;rw [Bm];refine⟨λh=>CO P h,λh=>DN λhn=>?_⟩;have l1:p.toList.length<=((List.range n).erase v).length:=Nt.aU (MR P) λz hz=>by
  have bu:z≠v:=λe=>hn<|e ▸ hz;exact(Gs bu).mpr<|Bm.mpr<|CO P hz
 rw [QT<|Bm.mpr h,Bs,P.size,Fj] at l1;omega
section
variable{prog:Program}{w:World}{A:Around}{E:Value->Shared->Prop}{s:Shared}
theorem Zn{a b:Str}(h:a.cps.toList=b.cps.toList):a=b:=by
 apply Str.ext';exact Array.toList_inj.mp h
theorem map_range(vs:List Value):(List.range vs.length).map (λi=>vs.getD i Value.none)=vs:=by
 apply QS
 ·simp
 ·intro i h1 h2;simp [h2]
end
end cQ
namespace L2
open PySem PySem.Spec PyProof.Rows cQ
theorem MS:∀{ts:List Addr} {its:List Value},av (ts.map V.ref) its->its=ts.map Value.ref
 | [],its,r=>r.zero
 | t :: ts,its,r=>by
  cases r with
  | cons h1 h2=>
   rw [MS h2];have:_=Value.ref t:=h1;rw [this];rfl
theorem MT:∀(ts:List Addr),av (ts.map V.ref)<|ts.map Value.ref
 | []=> .nil
 | t :: ts=> .cons rfl (MT ts)
theorem Zo{α β:Type}(xs:List α)(ys:List β)(h:xs.length=ys.length)(a:α)(b:β):(List.range xs.length).map (λi=>(xs.getD i a,ys.getD i b))=xs.zip ys:=by
 apply QS
 ·simp [h]
 ·intro i h1 h2;have hx:i < xs.length:=by simp at h1;exact h1
  have hy:i < ys.length:=by omega
  simp [hx,hy]
section
variable{X:Cx}{σ:St}{H:Hp}
end
end L2
namespace L2
open PySem PySem.Spec PyProof.Rows
section
variable{X:Cx}{σ:St}{H:Hp}{Q:VK}
end
open bx
section
variable{prog:Program}{w:World}{A:Around}{E:Value->Shared->Prop}{s:Shared}{T:String}{r d:Addr}{n:Nat}{P:Nat->Value->Prop}{OK:Heap->Prop}
end
section
variable{X:Cx}
end
end L2
namespace L2
open PySem PySem.Spec PyProof.Rows
section
end
section
variable{X:Cx}
theorem MU(z:Str):∀ zs:List Str,countIn (.str z) (zs.map PyData.str)=(zs.count z:Int)
 | []=>rfl
 | y :: r=>by
  rw [Bj,countIn,MU z r,Cu];simp only [same]
  rcases Bool.eq_false_or_eq_true (y == z) with hb | hb <;> simp only [hb,Az,DK,CT] <;> push_cast <;> omega
def Zq(K:PySem.W.Frag):V->List V->Hp->VK->Prop:=λx vs H Q=>∃(l:Addr) (zs:List Str) (z:Str),x = .ref l/\vs=[.str z]/\al K H l (zs.map V.str)/\Q (.int (zs.count z:Int)) H
theorem Zr:k4 X "list.count" (Zq X.K):=by
 intro pins s σ H x vs v us Q I rx rv h;obtain⟨l,zs,z,rfl,rfl,hH,q⟩:=h;cases rx;obtain⟨u,rfl,ru⟩:=rv.one;obtain⟨tk,rfl⟩:=ru;obtain⟨its,r,pl,hz⟩:=I.list hH;refine count_list_strs pl.isList (yz r) ?_;rw [MU];exact⟨.int (zs.count z:Int),H,I.tok _,⟨_,rfl⟩,q⟩
end
section
variable{X:Cx}{σ:St}{H:Hp}{D:Ends}{body:List Stmt}
def Zt(tl:TE):TI:=λσ H R=>tl σ H λx H1=>∃ d o kvs,x = .ref d/\H1 d=some (.bD o<|.dK kvs)/\R (zy d o kvs) H1
theorem Zu{tg l:Expr}{tl:TE}(hl:PE X l tl):PI X tg l (Zt tl):=by
 intro pins s σ H R I h;refine aP (hl pins s σ H _ I h) λv s1 ⟨x,H1,I1,r1,q1⟩=>?_;obtain⟨d,o,kvs,e,hH,q⟩:=q1;subst e;cases (show v=Value.ref d from r1);obtain⟨ho,z,vw,vs,rel,dd⟩:=(show az X.prog X.w H1 s1.heap d (.bD o<|.dK kvs) from I1.aE d _ hH);obtain⟨ep,o',es,c8,r1,r2,r3⟩:=dd.dictAt;have:o=o':=Option.some.inj<|ho.symm.trans c8;subst this;refine wpAny_pyIter_dict vw ⟨o,es,c8,r1,r2,r3⟩ ?_;refine⟨s1.heap.objs.size,[s1.heap.objs.size],_,_,_,rfl,I1.kept (t':=s1.toks) λb o e=>Af _ e,Vj d _ o es ep kvs r2,⟨_,As _ rfl,rfl,by rw [rel.length];rfl⟩,λb hb=>?_,q⟩;have e:b=s1.heap.objs.size:=by simpa using hb
 subst e;exact I1.iJ (Am _)<|I1.aE.fresh<|Am _
theorem Zv{tg:Expr}{d:Addr}{o:Obj}{kvs:List (Key×V)}{after:St->Hp->Prop}(Pv:Nat->St->Hp->Prop)(h0:Pv 0 σ H)(hl:∀ i σ H,i<=kvs.length->Pv i σ H->H d=some (.bD o<|.dK kvs))
  (hs:∀ i p σ H,kvs[i]?=some p->Pv i σ H->Eg X tg (kV p.1) σ H λσ2 H2=>Run X body {D with nx:=Pv<|i+1,ct:=Pv<|i+1,bk:=after} σ2 H2) (hd:∀ σ H,Pv kvs.length σ H->after σ H):Loop X tg body (zy d o kvs) D after σ H:=by
 refine⟨λi m σ H=>m=kvs.length - i/\i<=kvs.length/\Pv i σ H,⟨kvs.length,by simp,Bq _,h0⟩,?_⟩;rintro i m σ H ⟨rfl,hi,p⟩;have q:=hl i σ H hi p
 by_cases aS:i < kvs.length
 ·refine .inr ⟨⟨q,aS⟩,Pv<|i+1,λσ' H' p'=>⟨kvs.length - (i+1),by omega,rfl,aS,p'⟩,λx H' y=>?_⟩;obtain⟨e,p',ep,y⟩:=y;subst e y;exact hs i p' σ _ ep p
 ·have e:i=kvs.length:=by omega
  subst e;exact .inl ⟨⟨q,Am _⟩,hd σ H p⟩
end
end L2
namespace D3
open PySem L2 Nt bH bx
open PyProof.Rows (sortedS)
def CU:Sp:=λvs H Q _=>∃(R a:Addr) (as:List<|Addr×Addr) (n:Net) (ss:List Str),vs=[.ref R,.ref a]/\ai H R as n/\n.length<=60/\(ag n).length<=1000/\H a=some (Ls ss)/\∀ H',ak H H'->Q (.bl<|cF n ss) H'
def CY:Sp:=λvs H Q _=>∃(a b:Addr) (xs ys:List Str),vs=[.ref a,.ref b]/\H a=some (Ls xs)/\H b=some (Ls ys)/\xs.length+ys.length < 64 /\
 ∀ l ss H',ak H H'->H l=none->H' l=some (Ls ss)->sortedS ss=true->ss.Nodup->(∀ z,z∈ss↔(if z∈xs then z∉ys else z∈ys))->Q (.ref l) H'
section
variable{P:Program}{w:World}{K:PySem.W.Frag}{mg:Str->Option Value}{base:Heap}
theorem Zw(n:Net)(ss:List Str)(r:Str×List Str):cF (n++[r]) ss=(cF n ss && ((r.2.filter λz=>ss.contains z).length % 2 == 0)):=by
 unfold cF;rw [List.all_append];simp
theorem Zx{n:Net}{ss:List Str}{i:Nat}(hi:i < n.length)(h:¬((row n i).filter λz=>ss.contains z).length % 2=0):cF n ss=false:=by
 cases e:cF n ss with
 | false=>rfl
 | true=>
  unfold cF at e;have:=Eh.mp e n[i]<|Bn hi;rw [KC,<- gX hi] at this;exact absurd this h
abbrev MV:List Str:=["_law_rows","_law_some","_law_point","_law_names_here"]
abbrev rY:List Str:=["_law_rows","_law_some","_law_point","_law_names_here","_law_tie"]
theorem rZ:aq MV ["_law_rows","_law_some"] (bd uB):=⟨rfl,rfl,rfl,by decide +kernel,rfl,by decide +kernel,by decide +kernel⟩
theorem Zy:rY.Nodup:=by decide +kernel
theorem Zz{f:Addr}{fd:FuncData}(F:bL K "_law_even" "_law_even" uB f fd)(T:Txt mg):aG P w K mg base bG 1 f fd ["_law_rows","_law_some"] CU:=by
 refine F.gb rZ (λvs H Q E h=>?_) λb0 H vs Q E hr h=>?_
 ·obtain⟨R,a,as,n,ss,rfl,_⟩:=h;rfl
 obtain⟨R,a,as,n,ss,rfl,hR,hn,ht,ha,q⟩:=h;have nd:=rZ.nd;have cg:=hR.len;show Run _ _ _ [some<|.ref R,some<|.ref a,none,none] H;refine j6<|ae 0 ⟨R,rfl,⟨_,al.of hR.lst⟩,j7 (xs:=as.map λa=>V.ref a.1) (λi σ H3=>ak H H3/\cF (n.take i) ss=true/\∃ u v,σ=[some<|.ref R,some<|.ref a,u,v]) ⟨ak.refl H,rfl,_,_,rfl⟩ ?_ ?_ ?_⟩
 ·rintro i σ H3 _ ⟨sm,_,_,_,_⟩;exact al.of<|sm _ _ hR.lst
 ·rintro i x σ H3 hx ⟨sm,ev,u,v,rfl⟩;have hi:i < n.length:=by
   have:=(Ac.mp hx).1;rw [Ab] at this;omega
  obtain⟨b,eb,fB,et,el,er⟩:=(hR.same sm).at hi;rw [Ai,eb] at hx;cases hx;have ji:(row n i).length<=1000:=Ce (gW n i) ht;refine nh rfl (a7.of et) (bE 2 nd<|bE 3 nd ?_);refine Jn (λk H4=>ak H3 H4/\k=decide (((row n i).filter λz=>ss.contains z).length % 2=1)) (λσ' H'=>ak H H'/\cF (n.take<|i+1) ss=true/\∃ u v,σ'=[some<|.ref R,some<|.ref a,u,v]) ?_ ?_ ?_ λσ' H' h=>bm h
  ·refine dM kX<|aQ cJ<|bQ cT T.len DQ<|ao<|j9 (bd uB) MV rY 1 (ie bK)<|ae 3 ⟨b.2,rfl,⟨_,al.of el⟩,λD hD=>?_⟩;refine uG (σ:=[some<|.ref R,some<|.ref a,some<|.str n[i].1,some<|.ref b.2]) (λz=>ss.contains z) (cD<|by omega) el hD (λcl C s₀ H₀ ex v v0 H' R' h=>bE 4 Zy h) (λcl C s₀ H₀ ex z ys T' h=>?_) (λcl C s₀ H₀ ex z H' R' h=>ae 4 h) ?_
   ·refine tS (dM Hl<|ae 4<|ae 1 ⟨a,_,rfl,.inl (al.of<|by rw [ay<|bt (sm _ _ ha) hD];exact sm _ _ ha),rfl,JY _,_,rfl,?_⟩);show T' (oq (.str z)<|ss.map V.str) _;rw [JU];exact h
   ·refine aA ⟨D,_,rfl,.inl<|al.of aD,aB ⟨_,_,rfl,rfl,(by show(0:Int) < 2;decide),aB ⟨rfl,_,rfl,a8 hD _,?_⟩⟩⟩;rw [Ab];refine decide_eq_decide.mpr ⟨λh=>?_,λh=>?_⟩
    ·have:=V.int.inj h;omega
    ·have:((((row n i).filter λz=>ss.contains z).length:Int)) % 2=1:=by omega
     exact BZ V.int this
  ·rintro H4 ⟨s4,e⟩;have hb:=BX e.symm;refine b5<|HQ ?_;rw [<- Zx (ss:=ss) hi<|by omega];exact q H4<|sm.trans s4
  ·rintro H4 ⟨s4,e⟩;have hb:=IW e.symm;refine bm ⟨sm.trans s4,?_,_,_,rfl⟩;rw [Do,Aa hi];show cF (n.take i++[n[i]]) ss=true;rw [Zw,ev,<- gX hi,Hb,KC];omega
 ·rintro σ H3 ⟨sm,ev,u,v,rfl⟩;rw [Ab,cg,Dc] at ev;refine b5<|HQ ?_;rw [<- ev];exact q H3 sm
theorem ZA:aq ["one","other"] ["one","other"] (bd yP):=⟨rfl,rfl,rfl,by decide +kernel,rfl,by decide +kernel,by decide +kernel⟩
theorem ZC{f:Addr}{fd:FuncData}(F:bL K "summed" "summed" yP f fd)(T:Txt mg):aG P w K mg base bG 1 f fd ["one","other"] CY:=by
 refine F.gb ZA (λvs H Q E h=>?_) λb0 H vs Q E hr h=>?_
 ·obtain⟨a,b,xs,ys,rfl,_⟩:=h;rfl
 obtain⟨a,b,xs,ys,rfl,ha,hb,hl,q⟩:=h;show Run _ _ _ [some<|.ref a,some<|.ref b] H;refine b5 (bQ (Ud rfl) T.sorted FP<|ao<|aQ Uc<|oA (Je rfl) T.m7 LR<|ao<|ae 0<|aA ⟨a,xs,rfl,al.of ha,by omega,λc hc=>?_⟩);have h1:=a8 hc<|bn P w c<|made xs;refine oA (Je rfl) T.m7 LR (ao<|ae 1<|aA ⟨b,ys,rfl,al.of<|h1 _ _ hb,by omega,λd hd=>?_⟩);have h2:=a8 hd<|bn P w d<|made ys;have l1:=yr xs;have l2:=yr ys;refine⟨c,d,made xs,made ys,rfl,rfl,h2 _ _ aD,aD,by omega,by omega,λe zc he hn hm=>?_⟩;have h3:=a8 he<|bn P w e zc;have MX:∀ z,z∈zc↔(if z∈xs then z∉ys else z∈ys):=λz=>by
  rw [hm z];simp only [To]
 have hlen:zc.length<=(xs++ys).length:=aU hn λz hz=>by
  have:=(MX z).mp hz;rw [An]
  by_cases c:z∈xs
  ·exact .inl c
  ·rw [BL c] at this;exact .inr this
 rw [Ag] at hlen;refine aA ⟨e,zc,rfl,aD,by omega,λl ss hl hp hs=>?_⟩;have h4:=a8 hl<|Ls ss;exact q l ss _ (h1.trans<|h2.trans<|h3.trans h4) (h1.free<|h2.free<|h3.free hl) aD hs (hp.nodup_iff.mpr hn) λz=>by
  rw [hp.mem_iff];exact MX z
end
end D3
namespace D3
open PySem L2 Nt bH
open PyProof.Rows (sortedS)
def C0:Sp:=λvs H Q _=>∃(R W:Addr) (as:List<|Addr×Addr) (n:Net) (ts:List Addr) (es:List Nt.End),vs=[.ref R,.ref W]/\ai H R as n/\(n.map (·.1)).Nodup/\n.length<=1000/\(ag n).length<=1000/\H W=some (.lst<|ts.map V.ref)/\dH n H ts es/\(∀ e∈es,e∈ends n)/\es.length<=1000/\(∀ l:List Str,l.Nodup->(∀ z∈l,z∈es.map (aw n))->l.length < 64) /\
 ∀(l:Addr) (ss:List Str) (H':Hp),ak H H'->H l=none->H' l=some (Ls ss)->cO ss->(∀ z,z∈ss↔(es.map<|aw n).count z=1)->Q (.ref l) H'
theorem MY(L:List Str):(L.filter λz=>decide (L.count z=1)).Nodup:=by
 rw [List.nodup_iff_count];intro z
 by_cases h:L.count z=1
 ·rw [List.count_filter<|by simpa using h];omega
 ·rw [List.count_eq_zero_of_not_mem]
  ·omega
  ·intro hm;exact h<|BX (Bf.mp hm).2
theorem ZD(L:List Str)(z:Str):z∈(L.filter λz=>decide (L.count z=1))↔L.count z=1:=by
 rw [Bf,CJ];exact⟨λh=>h.2,λh=>⟨Ds.mp (by omega),h⟩⟩
section
variable{P:Program}{w:World}{K:PySem.W.Frag}{mg:Str->Option Value}{base:Heap}
abbrev C1:List Str:=["rows","walker","names","gone"]
abbrev se:List Str:=["rows","walker","names","gone","end"]
abbrev sf:List Str:=["rows","walker","names","gone","tie"]
theorem sg:aq C1 ["rows","walker"] (bd qC):=⟨rfl,rfl,rfl,by decide +kernel,rfl,by decide +kernel,by decide +kernel⟩
theorem ZE:se.Nodup:=by decide +kernel
theorem ZF:sf.Nodup:=by decide +kernel
theorem ZG{f:Addr}{fd:FuncData}(F:bL K "core_of" "core_of" qC f fd)(T:Txt mg)
  (GT:aV P w K mg base 2 "ties_by_end" ["rows"] kJ):aG P w K mg base bG 3 f fd ["rows","walker"] C0:=by
 refine F.gb sg (λvs H Q E h=>?_) λb0 H vs Q E hr h=>?_
 ·obtain⟨R,W,as,n,ts,es,rfl,_⟩:=h;rfl
 obtain⟨R,W,as,n,ts,es,rfl,hR,hN,hn,jO,hW,hE,qJ,hle,si,q⟩:=h;have nd:=sg.nd;have i7:=hr.u1;have hl:=hE.1;show Run _ _ _ [some<|.ref R,some<|.ref W,none,none] H;refine aY 2 nd<|bR GT hr<|ao<|ae 0<|aA ⟨R,as,n,rfl,hR,hN,hn,jO,λd kvs H1 s1 zK ed mP=>?_⟩;show Run _ _ _ [some<|.ref R,some<|.ref W,some<|.ref d,none] H1;have MZ:=s1 _ _ hW;have ZH:=hE.same s1;refine aY 3 nd<|j9 (bd qC) C1 se 1 (ie bK)<|ae 1 ⟨W,rfl,⟨_,al.of MZ⟩,λD hD=>?_⟩;refine qF (xs:=ts.map V.ref) (λi σ' H'=>(∃ v,σ'=[some<|.ref R,some<|.ref W,some<|.ref d,none]++[v])/\ak H1 H'/\H' D=some (Ls<|(es.take i).map<|aw n)) ⟨⟨none,rfl⟩,a8 hD _,aD⟩ ?_ ?_ ?_
 ·rintro i σ' H' _ ⟨_,sm,_⟩;exact al.of<|sm _ _ MZ
 ·rintro i x σ' H' hx ⟨⟨v,rfl⟩,sm,eD⟩;rw [Ai,Ba] at hx;obtain⟨t,ht,rfl⟩:=hx;have hi:i < es.length:=by have:=(Ac.mp ht).1;omega
  have he:es[i]?=some es[i]:=Aa hi;have vg:es.take (i+1)=es.take i++[es[i]]:=by rw [Do,he];rfl
  generalize lP:es[i]=e at he vg;have g9:=sm _ _<|ZH.2 i t e ht he;have uN:=qJ e<|Ap he;obtain⟨z,hz⟩:=af.mp uN;have kG:aw n e=z:=cW hz;intro cl C s₀ H₀ ex;refine bE 4 ZE ?_;intro cl C s₀ H₀ ex;refine jB ?_;rw [BP rfl];intro cl C s₀ H₀ ex;refine gU i7<|ae 2<|ae 4 ⟨d,.str z,rfl,(by rw [<- mP e z hz];exact bw.t (k:=key n e) (sm _ _ ed) g9),_,eD,?_,⟨_,rfl⟩,fZ sm hD,?_⟩
  ·rw [Ab,Ab,Br];exact cD<|by omega
  ·rw [aD,vg,Al];show some (HO.lst<|((es.take i).map<|aw n).map V.str++[V.str z])=some (HO.lst<|((es.take i).map (aw n)++[aw n e]).map V.str);rw [Al];show some (HO.lst<|((es.take i).map<|aw n).map V.str++[V.str z])=some (HO.lst<|((es.take i).map<|aw n).map V.str++[V.str<|aw n e]);rw [kG]
 rintro σ' H' ⟨_,sm,eD⟩;have C2:es.take (ts.map V.ref).length=es:=Ci (by rw [Ab];omega);rw [C2] at eD;show Run _ _ _ [some<|.ref R,some<|.ref W,some<|.ref d,some<|.ref D] H';generalize ZI:es.map (aw n)=L at eD si q;have Mx:L.length<=1000:=by rw [<- ZI,Ab];exact hle
 refine b5<|bQ Jf T.sorted FP<|ao<|j9 (bd qC) C1 sf 1 (ie bK)<|ae 3 ⟨D,rfl,⟨_,al.of eD⟩,λD3 C3=>?_⟩;have n3:D≠D3:=bt eD C3;refine uG (λz=>decide (L.count z=1)) (cD<|by omega) eD C3 (λcl C s0 H0 ex v v0 H' R' h=>bE 4 ZF h) (λcl C s0 H0 ex z zs T' h=>tS<|dM kX<|yD EY PySem.F.slot_list_count PySem.F.type_list_count Zr<|ae 3 (v:= .ref D) ⟨Or.inl ⟨rfl,_,al.of<|by rw [ay n3];exact eD⟩,ae 4 ⟨D,L,z,rfl,rfl,al.of (by rw [ay n3];exact eD),aB ⟨rfl,_,rfl,?_⟩⟩⟩) (λcl C s0 H0 ex z H' R' h=>ae 4 h) ?_
 ·have ek:decide (V.int (L.count z:Int)=V.int 1)=decide (L.count z=1):=decide_eq_decide.mpr ⟨λk=>by have:=V.int.inj k;omega,λk=>by rw [k];rfl⟩;show T' (decide (V.int (L.count z:Int)=V.int 1)) _;rw [ek];exact h
 refine aA ⟨D3,_,rfl,al.of aD,si _ (MY L) λz hz=>(Bf.mp hz).1,λl ss iL i0 i4=>?_⟩;have s3:=s1.trans<|sm.trans<|a8 C3<|Ls<|L.filter λz=>decide (L.count z=1);exact q l ss _ (s3.trans<|a8 iL _) (s3.free iL) aD (vd i4<|i0.nodup_iff.mpr<|MY L) λz=>by rw [i0.mem_iff];exact ZD L z
end
end D3
namespace Nt
open PySem L2
theorem M0(x:Str):∀{sd:List Str},cO sd->∃ g6,cO g6/\∀ y,y∈g6↔y=x\/y∈sd
 | [],_=>⟨[x],Gc _ _,λy=>by simp⟩
 | a :: r,h=>by
  have h':=Cs.mp h
  by_cases q:x.cps.toList < a.cps.toList
  ·refine⟨x :: a :: r,Cs.mpr ⟨λy hy=>?_,h⟩,λy=>by simp⟩
   rcases Ak.mp hy with e | e
   ·rw [e];exact q
   ·exact Gr q<|h'.1 y e
  ·rcases Gv.mp (List.not_lt.mp q) with q2 | q2
   ·obtain⟨g6,s1,s2⟩:=M0 x h'.2;refine⟨a :: g6,Cs.mpr ⟨λy hy=>?_,s1⟩,λy=>?_⟩
    ·rcases (s2 y).mp hy with e | e
     ·rw [e];exact q2
     ·exact h'.1 y e
    ·rw [Ak,s2,Ak]
     constructor
     ·rintro (e | e | e)
      ·exact .inr<|.inl e
      ·exact .inl e
      ·exact .inr<|.inr e
     ·rintro (e | e | e)
      ·exact .inr<|.inl e
      ·exact .inl e
      ·exact .inr<|.inr e
   ·refine⟨a :: r,h,λy=>?_⟩;have:a=x:=bx.eJ q2;subst this;simp
theorem M1:∀ L:List Str,∃ sd,cO sd/\∀ y,y∈sd↔y∈L
 | []=>⟨[],List.Pairwise.nil,λ_=>Iff.rfl⟩
 | x :: L=>by
  obtain⟨sd,h1,h2⟩:=M1 L;obtain⟨g6,h3,h4⟩:=M0 x h1;exact⟨g6,h3,λy=>by rw [h4,h2,Ak]⟩
theorem C4(z:Str):∀ L:List Str,decide (L.count z % 2=1)=ax (L.map λy=>decide (z=y))
 | []=>rfl
 | y :: L=>by
  show _=(decide (z=y) ^^ ax (L.map λy=>decide (z=y)));rw [<- C4 z L,Cu]
  by_cases h:z=y
  ·subst h;rw [BW rfl,KZ,BP rfl,Bool.true_xor,<- decide_not];exact decide_eq_decide.mpr<|by omega
  ·rw [BR h,BL λq=>h (eq_of_beq q).symm,Gj];rfl
theorem C5{α β:Type}(f:α->β->Bool)(M:List β):∀ L:List α,ax (L.map λa=>ax<|M.map λb=>f a b)=ax (M.map λb=>ax<|L.map λa=>f a b)
 | []=>(nF M).symm
 | a :: L=>by
  show(ax (M.map λb=>f a b) ^^ ax (L.map λa=>ax<|M.map λb=>f a b))=ax (M.map λb=>f a b ^^ ax (L.map λa=>f a b));rw [C5 f M L,je (λb=>f a b) λb=>ax<|L.map λa=>f a b]
theorem map_range{α β:Type}(l:List α)(f:α->β)(g:Nat->β)(h:∀ k x,l[k]?=some x->g k=f x):l.map f=(List.range l.length).map g:=by
 apply Dp;intro k;rw [Ai,Ai]
 by_cases hk:k < l.length
 ·rw [Aa hk,Dq hk];exact BZ some (h k _<|Aa hk).symm
 ·rw [Bb (by omega),Bb<|by simp;omega];rfl
theorem ZJ{α:Type}(l:List α)(f g:α->Bool)(h:∀ k,k < l.length->∃ x y,l[k]?=some x/\l[(k+1) % l.length]?=some y/\g x=f y):ax (l.map g)=ax (l.map f):=by
 let F:Nat->Bool:=λk=>match l[k]? with | some x=>f x | none=>false
 have hf:l.map f=(List.range l.length).map F:=map_range l f F λk x hk=>by show(match l[k]? with | some x=>f x | none=>false)=_;rw [hk]
 have hg:l.map g=(List.range l.length).map λk=>F ((k+1) % l.length):=map_range l g _ λk x hk=>by
  obtain⟨x',y,h1,h2,h3⟩:=h k (Ac.mp hk).1;rw [hk] at h1;cases h1;show(match l[(k+1) % l.length]? with | some x=>f x | none=>false)=_;rw [h2];exact h3.symm
 rw [hf,hg,zN]
theorem C6(F:Nat->Bool):∀ m,(∀ i,i < m->F (2 * i+1)=F (2 * i))->ax ((List.range<|2 * m).map F)=false
 | 0,_=>rfl
 | m+1,h=>by
  rw [show 2 * (m+1)=2 * m+1+1 by omega,Cz,Cz,Al,Al,ku,ku,C6 F m λi hi=>h i<|by omega];show((false ^^ (F (2 * m) ^^ false)) ^^ (F (2 * m+1) ^^ false))=false;rw [h m<|by omega];cases F (2 * m) <;> rfl
theorem M3{n:Net}(T:aj n){e:End}(h:e∈ends n):step n (other n<|go (-1) n e)=other n e:=by
 have h1:=eW (c:=-1) T h;obtain⟨z,hz⟩:=af.mp h1;show left n (other n<|other n<|go (-1) n e)=_;rw [(cf T hz).2.1,uO h1];show cV 1 n (cV (-1) n<|other n e)=_;have:=lC (c:=-1)<|cM T h;rw [Int.neg_neg] at this;exact this
def cH(n:Net)(w:List End)(z:Str):Bool:=decide ((w.map<|aw n).count z % 2=1)
theorem ZK{n:Net}(T:aj n){w:List End}(W:jc n w):dG n (cH n w):=λr=>by
 have e1:(row n r).map (cH n w)=(row n r).map λz=>ax (w.map λe=>decide (z=aw n e)):=Bu λz _=>by
  unfold cH;rw [C4,Ck];rfl
 rw [e1,C5 λz e=>decide (z=aw n e)];have e2:(w.map λe=>ax<|(row n r).map λz=>decide (z=aw n e))=w.map λe=>(decide (r=e.1) ^^ decide (r=(other n e).1)):=Bu λe he=>by
  obtain⟨z,hz⟩:=af.mp<|W.ends e he;rw [cW hz];exact Lb T hz r
 rw [e2,je (λe=>decide (r=e.1)) λe=>decide (r=(other n e).1)];rw [ZJ w (λe=>decide (r=e.1)) (λe=>decide (r=(other n e).1)) λk hk=>by
  obtain⟨c,h1,h2⟩:=W.at' k hk;exact⟨c,_,h1,h2,rfl⟩]
 cases ax (w.map λe=>decide (r=e.1)) <;> rfl
theorem ZL{n:Net}(T:aj n){w:List End}(W:jc n w){t:Str->Bool}{χ:End->Bool}(h:aT n t χ):ax (w.map λe=>t<|aw n e)=false:=by
 have e1:(w.map λe=>t<|aw n e)=w.map λe=>(χ e ^^ χ (other n e)):=Bu λe he=>by
  obtain⟨z,hz⟩:=af.mp<|W.ends e he;rw [cW hz];exact h.cE e z hz
 rw [e1,je χ λe=>χ<|other n e];obtain⟨m,hm⟩:∃ m,w.length=2 * m:=⟨w.length / 2,by have:=W.even;omega⟩;have a1:ax (w.map χ)=false:=by
  let F:Nat->Bool:=λk=>match w[k]? with | some x=>χ x | none=>false
  rw [map_range w χ F λk x hk=>by show(match w[k]? with | some x=>χ x | none=>false)=_;rw [hk],hm];refine C6 F m λi hi=>?_;obtain⟨c,h1,h2⟩:=W.at' (2 * i) (by omega);rw [Bx (by omega),show(1:Int) - 2 * (((2 * i:Nat):Int) % 2)=1 by omega] at h2;show(match w[2 * i+1]? with | some x=>χ x | none=>false)=(match w[2 * i]? with | some x=>χ x | none=>false);rw [h1,h2];have hc:=W.ends c<|Ap h1;show χ (go 1 n c)=χ c;rw [<- Kk T hc];exact h.go c hc
 have a2:ax (w.map λe=>χ<|other n e)=false:=by
  let F:Nat->Bool:=λk=>match w[k]? with | some x=>χ (other n x) | none=>false
  rw [map_range w (λe=>χ<|other n e) F λk x hk=>by show(match w[k]? with | some x=>χ (other n x) | none=>false)=_;rw [hk],<- zN F,hm];refine C6 (λp=>F<|(p+1) % (2 * m)) m λi hi=>?_;obtain⟨c,h1,h2⟩:=W.at' (2 * i+1) (by omega);rw [hm,show(1:Int) - 2 * (((2 * i+1:Nat):Int) % 2)=-1 by omega] at h2;show(match w[(2 * i+1+1) % (2 * m)]? with | some x=>χ (other n x) | none=>false)=(match w[(2 * i+1) % (2 * m)]? with | some x=>χ (other n x) | none=>false);rw [h2,Bx (show 2 * i+1 < 2 * m by omega),h1];have hc:=W.ends c<|Ap h1;show χ (other n<|go (-1) n c)=χ (other n c);rw [<- M3 T hc];exact(h.go _<|cM T<|eW T hc).symm
 rw [a1,a2];rfl
def bP(zs:List Str)(t s:Str->Bool):Bool:=ax<|zs.map λz=>t z && s z
theorem M4(zs:List Str)(t u s:Str->Bool):bP zs (λz=>t z ^^ u z) s=(bP zs t s ^^ bP zs u s):=by
 unfold bP;rw [<- je (λz=>t z && s z) λz=>u z && s z]
 congr 1
 refine Bu λz _=>?_;show((t z ^^ u z) && s z)=_;cases t z <;> cases u z <;> cases s z <;> rfl
theorem C7{s:Str->Bool}{y:Str}:∀{zs:List Str},zs.Nodup->y∈zs->bP zs (λz=>decide (z=y)) s=s y
 | z :: zs,hn,hy=>by
  have hn:=Bg.mp hn;show((decide (z=y) && s z) ^^ bP zs (λz=>decide (z=y)) s)=s y
  by_cases h:z=y
  ·subst h;have:bP zs (λx=>decide (x=z)) s=false:=by
    unfold bP;have e:(zs.map λx=>decide (x=z) && s x)=zs.map λ_=>false:=Bu λx hx=>by
     have ne:¬ x=z:=λq=>hn.1<|q ▸ hx;rw [BR ne];rfl
    rw [e,nF]
   rw [this,BW rfl];cases s z <;> rfl
  ·rw [BR h,C7 hn.2<|(Ak.mp hy).resolve_left<|CN h];cases s y <;> rfl
theorem ZM{n:Net}{zs:List Str}(hz:zs.Nodup){t:Str->Bool}:∀{L:List Str},(∀ y∈L,y∈zs)->bP zs t (λz=>decide (L.count z % 2=1))=ax (L.map t)
 | L,hL=>by
  unfold bP;have e:(zs.map λz=>t z && decide (L.count z % 2=1))=zs.map λz=>ax (L.map λy=>t z && decide (z=y)):=Bu λz _=>by
   rw [C4];cases t z
   ·show false=ax (L.map λ_=>false);rw [nF]
   ·rfl
  rw [e,C5 λz y=>t z && decide (z=y)]
  congr 1
  refine Bu λy hy=>?_;have:=C7 (s:=t) hz<|hL y hy;rw [<- this];unfold bP
  congr 1
  refine Bu λz _=>?_;rw [Bool.and_comm]
theorem M5{n:Net}(T:aj n)(hN:(n.map (·.1)).Nodup){ss zs:List Str}(hz:zs.Nodup)(hm:∀ z,z∈zs↔z∈ag n){x:Str}{b:Bool}(h:Way (dA n ss) (bF n) x b) :
  ∃ t:Str->Bool,(∀ r,r < n.length->ax ((row n r).map t)=(decide (aJ n r=bF n) ^^ decide (aJ n r=x)))/\bP zs t (λz=>decide (z∈ss))=b:=by
 have add:∀{x y:Str} {o b:Bool},(∃ e z,aF n e=some z/\((x=aJ n e.1/\y=aJ n (other n e).1)\/(y=aJ n e.1/\x=aJ n (other n e).1))/\o=decide (z∈ss))->(∃ t:Str->Bool,(∀ r,r < n.length->ax ((row n r).map t)=(decide (aJ n r=bF n) ^^ decide (aJ n r=x)))/\bP zs t (λz=>decide (z∈ss))=b) ->
   ∃ t:Str->Bool,(∀ r,r < n.length->ax ((row n r).map t)=(decide (aJ n r=bF n) ^^ decide (aJ n r=y)))/\bP zs t (λz=>decide (z∈ss))=(b != o):=by
  rintro x y o b ⟨e,z,gj,zi,rfl⟩ ⟨t,h1,h2⟩;refine⟨λu=>t u ^^ decide (u=z),λr hr=>?_,?_⟩
  ·rw [je t λu=>decide (u=z),h1 r hr,Lb T gj r];have e1:∀ i,i < n.length->decide (r=i)=decide (aJ n r=aJ n i):=λi hi=>decide_eq_decide.mpr ⟨λq=>by rw [q],λq=>zU hN hr hi q⟩;rw [e1 _<|b6 gj,e1 _<|qV T gj]
   rcases zi with ⟨a1,a2⟩ | ⟨a1,a2⟩
   ·rw [<- a1,<- a2];cases decide (aJ n r=bF n) <;> cases decide (aJ n r=x) <;> cases decide (aJ n r=y) <;> rfl
   ·rw [<- a1,<- a2];cases decide (aJ n r=bF n) <;> cases decide (aJ n r=x) <;> cases decide (aJ n r=y) <;> rfl
  ·rw [M4,h2,C7 hz<|(hm z).mpr<|dE gj]
 have lk:∀{x y:Str} {o:Bool},(x,y,o)∈dA n ss->∃ e z,aF n e=some z/\((x=aJ n e.1/\y=aJ n (other n e).1))/\o=decide (z∈ss):=λ{x y o} hm=>by
  obtain⟨e,z,h1,h2⟩:=(zT (n:=n) (ss:=ss)).K1 _ hm;exact⟨e,z,h1,⟨BZ (·.1) h2,BZ (·.2.1) h2⟩,BZ (·.2.2) h2⟩
 induction h with
 | here=>exact⟨λ_=>false,λr _=>by rw [nF];cases decide (aJ n r=bF n) <;> rfl,by unfold bP;exact nF zs⟩
 | there _ ht ih=>
  obtain⟨e,z,h1,h2,h3⟩:=lk ht;exact add ⟨e,z,h1,.inl h2,h3⟩ ih
 | back _ ht ih=>
  obtain⟨e,z,h1,h2,h3⟩:=lk ht;exact add ⟨e,z,h1,.inr ⟨h2.1,h2.2⟩,h3⟩ ih
theorem ZN{n:Net}(T:aj n)(hg:b7 n)(hN:(n.map (·.1)).Nodup)(h0:0 < n.length){ss zs:List Str}(hz:zs.Nodup)(hm:∀ z,z∈zs↔z∈ag n)(hs:∀ z∈ss,z∈ag n)(C8:∀ t,dG n t->bP zs t (λz=>decide (z∈ss))=false):∃ sd,bX n ss sd:=by
 classical
 have uniq:∀{x b c},Way (dA n ss) (bF n) x b->Way (dA n ss) (bF n) x c->b=c:=λ{x b c} h1 h2=>by
  obtain⟨t,t1,t2⟩:=M5 T hN hz hm h1;obtain⟨u,u1,u2⟩:=M5 T hN hz hm h2;have:=C8 (λz=>t z ^^ u z) λr=>by
   by_cases hr:r < n.length
   ·rw [je t u,t1 r hr,u1 r hr];cases decide (aJ n r=bF n) <;> cases decide (aJ n r=x) <;> rfl
   ·have:row n r=[]:=by
     unfold row;rw [Bb<|by omega];rfl
    rw [this];rfl
  rw [M4,t2,u2] at this;cases b <;> cases c <;> first | rfl | cases this
 have next:∀{e:End} {z:Str} {b:Bool},aF n e=some z->Way (dA n ss) (bF n) (aJ n e.1) b->Way (dA n ss) (bF n) (aJ n (other n e).1) (b != decide (z∈ss)):=λ{e z b} he h=>by
  rcases (zT (n:=n) (ss:=ss)).to e z he with t | t
  ·exact .there h t
  ·exact .back h t
 have all:∀ r,r < n.length->∃ b,Way (dA n ss) (bF n) (aJ n r) b:=λr hr=>by
  have:=hg (λx=>∃ b,Way (dA n ss) (bF n) x b) ⟨n[0],Bn h0,false,by rw [<- jL h0];exact .here⟩ (λr hr s fT t tr ts ⟨b,hb⟩=>?_) n[r]<|Bn hr
  ·rw [<- jL hr] at this;exact this
  ·obtain⟨i,hi,rfl⟩:=Cq.mp hr;obtain⟨j,hj,rfl⟩:=Cq.mp fT;obtain⟨p,hp⟩:=Bo tr;obtain⟨q,hq⟩:=Bo ts;have h1:aF n (i,p)=some t:=by show(row n i)[p]?=_;rw [gX hi];exact hp
   have h2:aF n (j,q)=some t:=by show(row n j)[q]?=_;rw [gX hj];exact hq
   rcases (ix T h1).mp h2 with e | e
   ·have:j=i:=BZ (·.1) e;subst this;exact⟨b,hb⟩
   ·rw [<- jL hi] at hb;have:=next h1 hb;rw [<- e] at this;exact⟨_,by rw [<- jL hj];exact this⟩
 obtain⟨sd,h1,h2⟩:=M1<|((List.range n.length).filter λ(r:Nat)=>decide (Way (dA n ss) (bF n) (aJ n r) true)).map<|aJ n;have mem:∀ r,r < n.length->∀ b,Way (dA n ss) (bF n) (aJ n r) b->decide (aJ n r∈sd)=b:=λr hr b hb=>by
  have:aJ n r∈sd↔b=true:=by
   rw [h2,Aj]
   constructor
   ·rintro ⟨i,hi,e⟩;rw [Bf,Bm] at hi;have:=zU hN hi.1 hr e;subst this;exact uniq hb<|BX hi.2
   ·intro e;subst e;exact⟨r,Bf.mpr ⟨Bm.mpr hr,BW hb⟩,rfl⟩
  by_cases q:b=true
  ·rw [q];exact BW<|this.mpr q
  ·rw [Bool.not_eq_true] at q;rw [q];exact BR λk=>by rw [this.mp k] at q;cases q
 refine⟨sd,h1,λx hx=>?_,λhx=>?_,λz=>?_⟩
 ·obtain⟨i,hi,rfl⟩:=Aj.mp<|(h2 x).mp hx;exact iz<|Bm.mp (Bf.mp hi).1
 ·have:=mem 0 h0 false .here;exact absurd hx<|IW this
 ·by_cases gj:z∈ag n
  ·obtain⟨p,hp⟩:∃ p,p∈pos n z:=by
    have:pos n z≠[]:=λq=>by have:=qw n z;rw [q,T z gj] at this;cases this
    exact Ek _ this
   have he:=aH.mp hp;obtain⟨b,hb⟩:=all p.1<|b6 he;have hc:=next he hb;rw [iy T he,mem _ (b6 he) b hb,mem _ (qV T he) _ hc]
   constructor
   ·intro h;rw [BW h];cases b <;> rfl
   ·intro h;refine DN λk=>?_;rw [BR k] at h;cases b <;> cases h
  ·exact⟨λh=>absurd (hs z h) gj,λh=>absurd (oZ h) gj⟩
theorem C9{n:Net}(T:aj n){e:End}(h:e∈ends n):two n (other n<|two n e)=other n e:=by
 have g1:=eW (c:=1) T h;have h2:=ko T h;obtain⟨z,hz⟩:=af.mp h2;obtain⟨y,hy⟩:=af.mp g1;have e1:go 1 n (other n<|two n e)=other n (go 1 n e):=by
  show cV 1 n (other n<|other n<|two n e)=_;rw [(cf T hz).2.1];show cV 1 n (cV (-1) n<|other n<|go 1 n e)=_;have:=lC (c:=-1)<|cM T g1;rw [Int.neg_neg] at this;exact this
 show go (-1) n (go 1 n<|other n<|two n e)=_;rw [e1];show cV (-1) n (other n<|other n<|go 1 n e)=_;rw [(cf T hy).2.1];exact lC<|cM T h
theorem iD{n:Net}(T:aj n){e:End}(h:e∈ends n)(k:Nat):it (two n) k e∈ends n:=gB (λa ha=>ko T ha) h k
theorem M6{α:Type}(f:α->α)(a:α):∀ k,it f k (f a)=it f (k+1) a
 | 0=>rfl
 | k+1=>by show f (it f k<|f a)=f (it f (k+1) a);rw [M6 f a k]
theorem py{α:Type}(f:α->α)(a:α)(i:Nat):∀ j,it f (i+j) a=it f j (it f i a)
 | 0=>rfl
 | j+1=>by show f (it f (i+j) a)=f (it f j<|it f i a);rw [py f a i j]
theorem ZO{n:Net}(T:aj n){e:End}(h:e∈ends n):two n e≠other n e:=λq=>by
 have g1:=eW (c:=1) T h;obtain⟨y,hy⟩:=af.mp g1;have h1:cV (-1) n (go 1 n e)=other n e:=lC<|cM T h;have h2:cV (-1) n (other n<|go 1 n e)=other n e:=q;exact(cf T hy).2.2<|Kj (c:=-1) (cM T g1) g1<|h2.trans h1.symm
theorem M7{n:Net}(T:aj n):∀(k:Nat) {e:End},e∈ends n->it (two n) k e≠other n e
 | 0,e,h=>λq=>by
  obtain⟨z,hz⟩:=af.mp h;exact(cf T hz).2.2 q.symm
 | 1,e,h=>ZO T h
 | k+2,e,h=>λq=>by
  have e1:two n (it (two n) (k+1) e)=two n (other n<|two n e):=by rw [C9 T h];exact q
  have e2:=qM T (iD T h<|k+1) (cM T<|ko T h) e1;rw [<- M6] at e2;exact M7 T k (ko T h) e2
theorem sj{n:Net}(T:aj n){a b:End}(ha:a∈ends n)(hb:b∈ends n)(h:aw n a=aw n b):b=a\/b=other n a:=by
 obtain⟨z,hz⟩:=af.mp ha;obtain⟨y,hy⟩:=af.mp hb;rw [cW hz,cW hy] at h;subst h;exact(ix T hz).mp hy
theorem ZP{n:Net}(T:aj n){e:End}(h:e∈ends n){k:Nat}(p:gY n e k){i j:Nat}(dv:i < j)(hj:j < k):it (two n) i e≠it (two n) j e:=λq=>by
 have inj:∀(m:Nat) {a b:End},a∈ends n->b∈ends n->it (two n) m a=it (two n) m b->a=b:=λm=>by
  induction m with
  | zero=>intro a b _ _ q;exact q
  | succ m ih=>intro a b ha hb q;exact ih ha hb<|qM T (iD T ha m) (iD T hb m) q
 have e1:it (two n) j e=it (two n) i (it (two n) (j - i) e):=by rw [<- py,show j - i+i=j by omega]
 rw [e1] at q;have:=inj i h (iD T h _) q;exact p.first (j - i) (by omega) (by omega) this.symm
theorem ZQ{n:Net}(T:aj n){e:End}(h:e∈ends n){k:Nat}(p:gY n e k){i j:Nat}(dv:i < j)(hj:j < k):aw n (it (two n) i e)≠aw n (it (two n) j e):=λq=>by
 rcases sj T (iD T h i) (iD T h j) q with c | c
 ·exact ZP T h p dv hj c.symm
 ·rw [show j=i+(j - i) by omega,py] at c;exact M7 T (j - i) (iD T h i) c
theorem ZR{n:Net}(T:aj n){x y:End}(hx:x∈ends n)(hy:y∈ends n)(q:aw n (go 1 n x)=aw n (go 1 n y)):x=y\/two n y=other n x:=by
 have g1:=eW (c:=1) T hx
 rcases sj T g1 (eW (c:=1) T hy) q with c | c
 ·exact .inl (go_inj T hy hx c).symm
 ·refine .inr ?_;obtain⟨z,hz⟩:=af.mp g1;show go (-1) n (go 1 n y)=_;rw [c];show cV (-1) n (other n<|other n<|go 1 n x)=_;rw [(cf T hz).2.1];exact lC<|cM T hx
theorem M8(n:Net)(e:End):∀ k,((wk n e k).map<|aw n).Perm<|((List.range k).map λi=>aw n<|it (two n) i e)++(List.range k).map λi=>aw n<|go 1 n<|it (two n) i e
 | 0=>List.Perm.refl _
 | k+1=>by
  rw [Cz,Al,Al];show((wk n e k++[it (two n) k e,go 1 n<|it (two n) k e]).map<|aw n).Perm _;rw [Al];refine((M8 n e k).append_right _).trans ?_;generalize ((List.range k).map λi=>aw n<|it (two n) i e)=A;generalize ((List.range k).map λi=>aw n<|go 1 n<|it (two n) i e)=B;show(A++B++[aw n<|it (two n) k e,aw n<|go 1 n<|it (two n) k e]).Perm ((A++[aw n<|it (two n) k e])++(B++[aw n<|go 1 n<|it (two n) k e]));rw [Ar,Ar];refine LK A ?_;show(B++([aw n<|it (two n) k e]++[aw n<|go 1 n<|it (two n) k e])).Perm ([aw n<|it (two n) k e]++(B++[aw n<|go 1 n<|it (two n) k e]));rw [<- Ar,<- Ar];exact RZ _ Cf
noncomputable def cA(n:Net)(e:End):List End:=ah<|walker n e
theorem Dt{n:Net}{e:End}{k:Nat}(p:gY n e k):cA n e=(List.range k).map λi=>it (two n) i e:=by
 unfold cA walker;rw [qO p,V3]
theorem M9{n:Net}{e:End}{k:Nat}(h:it (two n) k e=e):∀ m,it (two n) (k * m) e=e
 | 0=>rfl
 | m+1=>by rw [Nat.mul_succ,Nat.add_comm,py,h,M9 h m]
theorem iE{n:Net}(T:aj n){e:End}(h:e∈ends n){x:End}:x∈cA n e↔∃ i,it (two n) i e=x:=by
 obtain⟨k,p,_⟩:=oS T h;rw [Dt p,Aj]
 constructor
 ·rintro ⟨i,_,q⟩;exact⟨i,q⟩
 ·rintro ⟨i,q⟩;have p0:=p.pos;refine⟨i % k,Bm.mpr<|Gz _ p0,?_⟩;rw [<- q];have:=Nat.div_add_mod i k
  conv=>rhs;rw [<- this]
  rw [py,M9 p.back]
theorem pA{n:Net}(T:aj n){e:End}(h:e∈ends n):∀ x∈cA n e,x∈ends n:=λx hx=>by
 obtain⟨i,q⟩:=(iE T h).mp hx;rw [<- q];exact iD T h i
theorem DA{n:Net}(T:aj n){e:End}(h:e∈ends n){x:End}(hx:x∈cA n e):∃ y∈cA n e,two n y=x:=by
 obtain⟨i,q⟩:=(iE T h).mp hx;obtain⟨k,p,_⟩:=oS T h;have p0:=p.pos;refine⟨it (two n) (i+k - 1) e,(iE T h).mpr ⟨_,rfl⟩,?_⟩;show it (two n) (i+k - 1+1) e=x;rw [show i+k - 1+1=k+i by omega,py,p.back,q]
theorem DB{n:Net}(T:aj n){e:End}(h:e∈ends n){x:End}(hx:x∈cA n e):two n x∈cA n e:=by
 obtain⟨i,q⟩:=(iE T h).mp hx;exact(iE T h).mpr ⟨i+1,by rw [<- q];rfl⟩
theorem Nb{n:Net}(T:aj n){e:End}(h:e∈ends n){x:End}(hx:x∈ends n):aw n x∈(cA n e).map (aw n)↔x∈cA n e\/other n x∈cA n e:=by
 rw [Aj]
 constructor
 ·rintro ⟨y,hy,q⟩
  rcases sj T hx (pA T h y hy) q.symm with c | c
  ·exact .inl<|c ▸ hy
  ·exact .inr<|c ▸ hy
 ·rintro (c | c)
  ·exact⟨x,c,rfl⟩
  ·refine⟨_,c,?_⟩;obtain⟨z,hz⟩:=af.mp hx;rw [cW hz,cW (cf T hz).1]
theorem Nc{n:Net}(T:aj n){e:End}(h:e∈ends n):other n (other n e)=e:=by
 obtain⟨z,hz⟩:=af.mp h;exact(cf T hz).2.1
def sk(n:Net)(told:List Str):Prop:=∀ x∈ends n,(aw n (two n x)∈told↔aw n x∈told)
theorem Nf{n:Net}(T:aj n){told:List Str}(C:sk n told){e:End}(h:e∈ends n):∀ i,aw n (it (two n) i e)∈told↔aw n e∈told
 | 0=>Iff.rfl
 | i+1=>(C _<|iD T h i).trans<|Nf T C h i
theorem ZS{n:Net}(T:aj n){e:End}(h:e∈ends n):sk n ((cA n e).map<|aw n):=λx hx=>by
 rw [Nb T h<|ko T hx,Nb T h hx]
 constructor
 ·rintro (c | c)
  ·obtain⟨y,hy,q⟩:=DA T h c;exact .inl<|qM T (pA T h y hy) hx q ▸ hy
  ·have:=DB T h c;rw [C9 T hx] at this;exact .inr this
 ·rintro (c | c)
  ·exact .inl<|DB T h c
  ·obtain⟨y,hy,q⟩:=DA T h c;have jP:=pA T h y hy;have e1:two n x=other n y:=by
    rw [<- Nc T hx,<- q,C9 T jP]
   exact .inr<|by rw [e1,Nc T jP];exact hy
structure lS(n:Net)(es:List End)(told:List Str)(ws:List<|List End):Prop where
 nd:((ws.flatMap ah).map<|aw n).Nodup
 new:∀ x∈ws.flatMap ah,x∈ends n/\aw n x∉told
 cov:∀ e∈es,aw n e∈told\/aw n e∈(ws.flatMap ah).map (aw n)
 wk:∀ w∈ws,∃ e,e∈ends n/\w=walker n e
theorem DC{n:Net}(T:aj n):∀(es:List End) (told:List Str),(∀ e∈es,e∈ends n)->sk n told->lS n es told (dw n es told)
 | [],told,_,_=>by
  unfold dw;exact⟨Cj,λx hx=>(nomatch hx),λe he=>(nomatch he),λw hw=>(nomatch hw)⟩
 | e :: r,told,he,C=>by
  have h:=he e<|Ad ..;unfold dw
  by_cases q:aw n e∈told
  ·rw [BP q];have I:=DC T r told (λa ha=>he a<|Ae _ ha) C;refine⟨I.nd,I.new,λa ha=>?_,I.wk⟩
   rcases Ak.mp ha with rfl | ha
   ·exact .inl q
   ·exact I.cov a ha
  ·rw [BL q];have C':sk n (told++(ah<|walker n e).map (aw n)):=λx hx=>by
    rw [An,An];exact or_congr (C x hx)<|ZS T h x hx
   have I:=DC T r _ (λa ha=>he a<|Ae _ ha) C';have fresh:∀ x∈cA n e,x∈ends n/\aw n x∉told:=λx hx=>by
    obtain⟨i,k⟩:=(iE T h).mp hx;refine⟨pA T h x hx,λz=>q ?_⟩;rw [<- k] at z;exact(Nf T C h i).mp z
   refine⟨?_,λx hx=>?_,λa ha=>?_,λw hw=>?_⟩
   ·rw [Cd,Al,Bv];refine⟨?_,I.nd,λa ha b hb k=>?_⟩
    ·obtain⟨k,p,_⟩:=oS T h;show((cA n e).map<|aw n).Nodup;rw [Dt p,Ck,Bh,Fk,Be];intro i j hi hj dv;rw [Fd,Fd];rw [Fj] at hj;exact ZQ T h p dv hj
    ·subst k;obtain⟨x,hx,rfl⟩:=Aj.mp hb;exact(I.new x hx).2<|Ao _ ha
   ·rw [Cd] at hx
    rcases An.mp hx with k | k
    ·exact fresh x k
    ·exact⟨(I.new x k).1,λz=>(I.new x k).2<|Ax _ z⟩
   ·rw [Cd,Al]
    rcases Ak.mp ha with rfl | ha
    ·exact .inr<|Ax _<|Aj.mpr ⟨a,(iE T h).mpr ⟨0,rfl⟩,rfl⟩
    ·rcases I.cov a ha with k | k
     ·rcases An.mp k with k | k
      ·exact .inl k
      ·exact .inr<|Ax _ k
     ·exact .inr<|Ao _ k
   ·rcases Ak.mp hw with rfl | hw
    ·exact⟨e,h,rfl⟩
    ·exact I.wk w hw
theorem Ng{n:Net}(T:aj n){e:End}(h:e∈ends n):((walker n e).map<|aw n).Perm ((cA n e).map (aw n)++(cA n e).map λx=>aw n<|go 1 n x):=by
 obtain⟨k,p,_⟩:=oS T h;rw [Dt p,Ck,Ck];unfold walker;rw [qO p];exact M8 n e k
theorem Nh{n:Net}(T:aj n):∀{ws:List (List End)},(∀ w∈ws,∃ e,e∈ends n/\w=walker n e)->(ws.flatMap λw=>w.map<|aw n).Perm ((ws.flatMap ah).map (aw n)++(ws.flatMap ah).map λx=>aw n<|go 1 n x)
 | [],_=>List.Perm.refl _
 | w :: ws,h=>by
  obtain⟨e,he,rfl⟩:=h w<|Ad ..;have I:=Nh T (ws:=ws) λw hw=>h w<|Ae _ hw;rw [Cd,Cd,Al,Al];refine((Ng T he).append I).trans ?_;show(((cA n e).map (aw n)++(cA n e).map λx=>aw n<|go 1 n x)++_).Perm (((cA n e).map (aw n)++_)++((cA n e).map (λx=>aw n<|go 1 n x)++_));generalize (cA n e).map (aw n)=A;generalize ((cA n e).map λx=>aw n<|go 1 n x)=B;generalize (ws.flatMap ah).map (aw n)=D;generalize ((ws.flatMap ah).map λx=>aw n<|go 1 n x)=F;rw [Ar,Ar];refine LK A ?_;rw [<- Ar,<- Ar];exact RZ _ Cf
noncomputable abbrev aC(n:Net):List (List End):=dw n (ends n) []
theorem ZT(n:Net):sk n []:=λx _=>by simp
theorem nX{n:Net}(T:aj n):lS n (ends n) [] (aC n):=DC T (ends n) [] (λ_ h=>h)<|ZT n
theorem DE{n:Net}(T:aj n){z:Str}(hz:z∈ag n):(((aC n).flatMap ah).map<|aw n).count z=1:=by
 have I:=nX T;rw [List.Nodup.count I.nd,BP];have:pos n z≠[]:=λq=>by have:=qw n z;rw [q,T z hz] at this;cases this
 obtain⟨p,hp⟩:=Ek _ this;have hp:=aH.mp hp;have:=I.cov p<|af.mpr ⟨z,hp⟩;rw [cW hp] at this
 rcases this with k | k
 ·cases k
 ·exact k
theorem ZU{n:Net}(T:aj n){x:End}(hx:x∈(aC n).flatMap ah):two n x∈(aC n).flatMap ah:=by
 obtain⟨w,hw,hx⟩:=Fr.mp hx;obtain⟨e,he,rfl⟩:=(nX T).wk w hw;exact Fr.mpr ⟨_,hw,DB T he hx⟩
theorem vN{α β:Type}{f:α->β}:∀{l:List α},l.Nodup->(∀ a∈l,∀ b∈l,f a=f b->a=b)->(l.map f).Nodup
 | [],_,_=>Cj
 | a :: l,h,inj=>by
  have h:=Bg.mp h;refine Bg.mpr ⟨λhm=>?_,vN h.2 λx hx y hy=>inj x (Ae _ hx) y<|Ae _ hy⟩;obtain⟨b,hb,q⟩:=Aj.mp hm;have:=inj a (Ad ..) b (Ae _ hb) q.symm;exact h.1<|this ▸ hb
theorem vO{α β:Type}{f:α->β}:∀{l:List α},(l.map f).Nodup->∀ a∈l,∀ b∈l,f a=f b->a=b
 | c :: l,h,a,ha,b,hb,q=>by
  rw [Bj,Bg] at h
  rcases Ak.mp ha with ea | vb
  ·rcases Ak.mp hb with eb | jb
   ·rw [ea,eb]
   ·exact absurd (Aj.mpr ⟨b,jb,by rw [<- q,ea]⟩) h.1
  ·rcases Ak.mp hb with eb | jb
   ·exact absurd (Aj.mpr ⟨a,vb,by rw [q,eb]⟩) h.1
   ·exact vO h.2 a vb b jb q
theorem Ni{α β:Type}{f:α->β}:∀{l:List α},(l.map f).Nodup->l.Nodup
 | [],_=>Cj
 | a :: l,h=>by
  rw [Bj,Bg] at h;exact Bg.mpr ⟨λk=>h.1<|Aj.mpr ⟨a,k,rfl⟩,Ni h.2⟩
theorem Nj{n:Net}(T:aj n):(((aC n).flatMap ah).map λx=>aw n<|go 1 n x).Perm (((aC n).flatMap ah).map<|aw n):=by
 have I:=nX T;refine nA (vN (Ni I.nd) λx hx y hy q=>?_) (λz hz=>?_)<|by rw [Ab,Ab];exact Am _
 ·have iQ:=(I.new x hx).1;have jP:=(I.new y hy).1
  rcases ZR T iQ jP q with c | c
  ·exact c
  ·exfalso
   have t:aw n (two n y)=aw n x:=by
    obtain⟨z,hz⟩:=af.mp iQ;rw [c,cW hz,cW (cf T hz).1]
   have:=vO I.nd _ (ZU T hy) x hx t;obtain⟨z,hz⟩:=af.mp iQ;exact(cf T hz).2.2<|c.symm.trans this
 ·obtain⟨x,hx,rfl⟩:=Aj.mp hz;obtain⟨y,hy⟩:=af.mp<|eW (c:=1) T (I.new x hx).1;rw [cW hy];refine Ds.mp ?_;rw [DE T<|dE hy];exact Fn
theorem ZV{n:Net}(T:aj n){z:Str}(hz:z∈ag n):((aC n).flatMap λw=>w.map<|aw n).count z=2:=by
 rw [(Nh T (nX T).wk).count_eq,Es,(Nj T).count_eq,DE T hz]
theorem Nk(n:Net)(z:Str):∀ ws:List<|List End,(ws.flatMap λw=>w.map<|aw n).count z=(ws.map λw=>(w.map<|aw n).count z).sum
 | []=>rfl
 | w :: ws=>by rw [Cd,Es,Nk n z ws];rfl
theorem Nm:∀(l:List Nat) (x:Nat),x∈l->x<=l.sum
 | y :: l,x,h=>by
  rw [Fv]
  rcases Ak.mp h with rfl | h
  ·omega
  ·have:=Nm l x h;omega
theorem ZW{n:Net}(T:aj n){z:Str}(hz:z∈ag n){w:List End}(hw:w∈aC n):(w.map<|aw n).count z<=2:=by
 have h:=ZV T hz;rw [Nk] at h;have:=Nm ((aC n).map λw=>(w.map<|aw n).count z) _<|Aj.mpr ⟨w,hw,rfl⟩;omega
theorem DF{n:Net}{w:List End}{ss:List Str}(hw:∀ c∈w,c∈ends n)(h:∀ z,z∈ss↔(w.map<|aw n).count z=1):∀ z∈ss,z∈ag n:=λz hz=>by
 have:=Ds.mp (by rw [(h z).mp hz];exact Fn);obtain⟨e,he,rfl⟩:=Aj.mp this;obtain⟨y,hy⟩:=af.mp<|hw e he;rw [cW hy];exact dE hy
theorem DH{n:Net}(T:aj n){w:List End}(hw:w∈aC n){ss:List Str}(h:∀ z,z∈ss↔(w.map<|aw n).count z=1){z:Str}(hz:z∈ag n):decide (z∈ss)=cH n w z:=by
 have:=ZW T hz hw;unfold cH;refine decide_eq_decide.mpr<|(h z).trans ?_;omega
theorem ZX{n:Net}(T:aj n){w:List End}(hw:w∈aC n){ss:List Str}(h:∀ z,z∈ss↔(w.map<|aw n).count z=1):cF n ss=true:=by
 refine Xr (ZK T<|nr T (ends n) [] (λ_ h=>h) w hw) λz hz=>?_;rw [<- DH T hw h hz]
 by_cases k:z∈ss
 ·rw [BW k];exact Cb.mpr k
 ·rw [BR k];exact Dz.mpr λq=>k<|Cb.mp q
theorem ZY{n:Net}(T:aj n)(hf:HF n)(hN:(n.map (·.1)).Nodup)(h0:0 < n.length){w:List End}(hw:w∈aC n){ss:List Str}(h:∀ z,z∈ss↔(w.map<|aw n).count z=1):∃ sd,bX n ss sd:=by
 have W:=nr T (ends n) [] (λ_ h=>h) w hw;have ZZ:=DF W.ends h;obtain⟨zs,sz,mz⟩:=o6<|ag n;refine ZN T hf.1 hN h0 (nC sz) mz ZZ λt ht=>?_;obtain⟨χ,hχ⟩:=hf.2.2 t ht;have:=ZL T W hχ;have e:bP zs t (λz=>decide (z∈ss))=bP zs t (λz=>decide ((w.map<|aw n).count z % 2=1)):=by
  unfold bP
  congr 1
  refine Bu λz hz=>?_;show(t z && decide (z∈ss))=(t z && decide ((w.map<|aw n).count z % 2=1));rw [DH T hw h<|(mz z).mp hz];rfl
 rw [e,ZM (n:=n) (nC sz) λy hy=>?_]
 ·rw [Ck];exact this
 ·obtain⟨x,hx,rfl⟩:=Aj.mp hy;obtain⟨y,hy⟩:=af.mp<|W.ends x hx;rw [cW hy];exact(mz y).mpr<|dE hy
end Nt
namespace L2
open PySem PySem.Spec PyProof.Rows
section
variable{X:Cx}{σ:St}{H:Hp}
end
section
variable{M:Model}{A:Around}{E:Value->Shared->Prop}{s:Shared}
end
section
variable{P:Program}{w:World}{K:PySem.W.Frag}{mg:Str->Option Value}{base:Heap}{N:List Str}{qual:Str}{scope:Scope}{f:Addr}{cd:Value}{A:Around}{outer:List Env}{s:Shared}{H:Hp}{E:XK}
end
section
variable{X:Cx}{σ:St}{H:Hp}{D:Ends}{rest:List Stmt}
end
section
variable{P:Program}{w:World}{K:PySem.W.Frag}{mg:Str->Option Value}{base:Heap}{N:List Str}{qual:Str}{scope:Scope}{f:Addr}{cd:Value}{A:Around}{outer:List Env}{s:Shared}{H:Hp}{E:XK}
end
section
variable{X:Cx}{CX:fP}{k:Nat}{f:Addr}{fd:FuncData}{ps:List Str}{sp:Sp}{E:XK}{x:Str}{p pos:Pos}{e:Expr}{es:List Expr}{σ:St}{H:Hp}{Q:VK}
end
section
variable{X:Cx}{pins:List (Addr×Obj)}{σ:St}{H:Hp}{s:Shared}{b:Addr}
end
section
variable{M:Model}{A:Around}{E:Value->Shared->Prop}{K:PySem.W.Frag}{s:Shared}
end
section
variable{X:Cx}{pins:List (Addr×Obj)}{σ:St}{H:Hp}{s:Shared}
end
open PySem.W
section
variable{prog:Program}{w:World}{A:Around}{E:Value->Shared->Prop}{s:Shared}{K:Frag}{a C:Addr}{o:Obj}
end
end L2
namespace L2
open PySem PySem.Spec PyProof.Rows
section
variable{prog:Program}{w:World}{A:Around}{E:Value->Shared->Prop}{s:Shared}
end
open bH
section
variable{X:Cx}{a b e:Expr}{es:List Expr}{σ:St}{H:Hp}{Q:VK}{pos p kp cp:Pos}{j:Nat}
end
end L2
namespace L2
open PySem PySem.Spec PyProof.Rows bx
section
variable{X:Cx}{elt t1 i1 t2 i2 t3 i3:Expr}{f1 f2 f3:List Expr}{scope:Scope}{pos:Pos}{σ:St}{H:Hp}{acc:Value}{env:Env}
end
section
variable{X:Cx}{tg:Expr}{ifs:List Expr}{inner:Sem Unit}{σ:St}{H:Hp}{a:Addr}{xs:List V}{after:St->Hp->Prop}
end
section
variable{X:Cx}{σ:St}{H:Hp}{Q:VK}
end
end L2
namespace Nt
open PySem L2 Classical
def fI{α:Type}(k:Nat)(w:List α):List α:=ah<|w.drop k
def cX(k:Nat):Nat->List (List End)->List (Nat×End)
 | _,[]=>[]
 | m,w :: ws=>((fI k w).map λe=>(m,e))++cX k (m+1) ws
def cY(k:Nat)(ws:List<|List End):List (Nat×End):=cX k 0 ws
theorem Nn(k:Nat):∀(m:Nat) (ws:List<|List End),(cX k m ws).map (·.2)=ws.flatMap (fI k)
 | m,[]=>rfl
 | m,w :: ws=>by
  unfold cX;rw [Al,Nn k (m+1) ws,Ck,Cd]
  congr 1
  exact List.map_id' _
theorem vP{n:Net}{e:End}:fI 1 (walker n e)=(ah<|walker n e).map (go 1 n):=by
 unfold walker fI;have l:=nn n e<|qN n e;apply Dp;intro i;rw [Ai,nj,nj,Fz]
 by_cases h:i < qN n e
 ·rw [show 1+2 * i=2 * i+1 by omega,uP n e _ i h,nq n e _ i h];rfl
 ·rw [Bb (by omega),Bb<|by omega];rfl
theorem Np{n:Net}:∀{ws:List (List End)},(∀ w∈ws,∃ e,e∈ends n/\w=walker n e)->ws.flatMap (fI 1)=(ws.flatMap ah).map (go 1 n)
 | [],_=>rfl
 | w :: ws,h=>by
  obtain⟨e,_,rfl⟩:=h w<|Ad ..;rw [Cd,Cd,Al,vP,Np λv hv=>h v<|Ae _ hv]
theorem Nq{n:Net}(T:aj n){k:Nat}(hk:k<=1):((cY k<|aC n).map λp=>aw n p.2).Perm (((aC n).flatMap ah).map<|aw n):=by
 have e:((cY k<|aC n).map λp=>aw n p.2)=((aC n).flatMap<|fI k).map (aw n):=by
  unfold cY;rw [<- Nn k 0<|aC n,Ck];rfl
 rw [e]
 match k,hk with
 | 0,_=>exact List.Perm.refl _
 | 1,_=>
  rw [Np (nX T).wk,Ck];exact Nj T
theorem DI{n:Net}(T:aj n){k:Nat}(hk:k<=1):((cY k<|aC n).map λp=>aw n p.2).Nodup:=(Nq T hk).nodup_iff.mpr (nX T).nd
theorem pB{n:Net}(T:aj n){k:Nat}(hk:k<=1){z:Str}:z∈((cY k<|aC n).map λp=>aw n p.2)↔z∈ag n:=by
 rw [(Nq T hk).mem_iff];refine⟨λh=>?_,λh=>Ds.mp<|by rw [DE T h];exact Fn⟩;obtain⟨x,hx,rfl⟩:=Aj.mp h;obtain⟨y,hy⟩:=af.mp ((nX T).new x hx).1;rw [cW hy];exact dE hy
noncomputable def cI(n:Net)(k:Nat)(z:Str):List (Nat×End):=(cY k<|aC n).filter λp=>decide (aw n p.2=z)
theorem vQ{α:Type}{f:α->Str}:∀{l:List α},(l.map f).Nodup->∀{p:α},p∈l->(l.filter λx=>decide (f x=f p))=[p]
 | a :: l,hn,p,hp=>by
  rw [Bj,Bg] at hn;rw [Cv]
  by_cases h:f a=f p
  ·rw [BP<|BW h];have e:a=p:=by
    rcases Ak.mp hp with q | q
    ·exact q.symm
    ·exact absurd (by rw [h];exact Aj.mpr ⟨p,q,rfl⟩) hn.1
   subst e
   congr 1
   rw [Ff];intro x hx q;exact hn.1<|by rw [<- BX q];exact Aj.mpr ⟨x,hx,rfl⟩
  ·rw [BL λq=>h<|BX q]
   rcases Ak.mp hp with q | q
   ·exact absurd (by rw [q]) h
   ·exact vQ hn.2 q
theorem vR{n:Net}(T:aj n){k:Nat}(hk:k<=1){z:Str}(hz:z∈ag n):∃ p,p∈cY k (aC n)/\aw n p.2=z/\cI n k z=[p]:=by
 obtain⟨p,hp,rfl⟩:=Aj.mp<|(pB T hk).mpr hz;exact⟨p,hp,rfl,vQ (DI T hk) hp⟩
theorem DJ{n:Net}(T:aj n):∀(es:List End) (told:List Str),(∀ e∈es,e∈ends n)->∀(i:Nat) w,(dw n es told)[i]?=some w ->
  ∃ e l r,es=l++e :: r/\(∀ x∈l,aw n x∈told++(((dw n es told).take i).flatMap ah).map (aw n))/\aw n e∉told++(((dw n es told).take i).flatMap ah).map (aw n)/\w=walker n e
 | [],told,_,i,w,h=>by simp [dw] at h
 | e :: r,told,hE,i,w,h=>by
  have hr:∀ a∈r,a∈ends n:=λa ha=>hE a<|Ae _ ha;unfold dw at h ⊢
  by_cases c:aw n e∈told
  ·rw [BP c] at h ⊢;obtain⟨x,l,r',h1,h2,h3,h4⟩:=DJ T r told hr i w h;refine⟨x,e :: l,r',by rw [h1];rfl,λy hy=>?_,h3,h4⟩
   rcases Ak.mp hy with q | q
   ·rw [q];exact Ax _ c
   ·exact h2 y q
  ·rw [BL c] at h ⊢
   match i with
   | 0=>
    cases h;refine⟨e,[],r,rfl,λy hy=>(nomatch hy),?_,rfl⟩
    simpa using c
   | i+1=>
    obtain⟨x,l,r',h1,h2,h3,h4⟩:=DJ T r (told++(ah<|walker n e).map (aw n)) hr i w h;have eq:(told++(((walker n e :: dw n r (told++(ah<|walker n e).map (aw n))).take<|i+1).flatMap ah).map (aw n))=(told++(ah<|walker n e).map (aw n))++(((dw n r<|told++(ah<|walker n e).map (aw n)).take i).flatMap ah).map (aw n):=by
     rw [List.take_succ_cons,Cd,Al,Ar]
    rw [eq];refine⟨x,e :: l,r',by rw [h1];rfl,λy hy=>?_,h3,h4⟩
    rcases Ak.mp hy with q | q
    ·rw [q];refine Ax _<|Ao _<|Aj.mpr ⟨e,?_,rfl⟩;exact(iE T<|hE e<|Ad ..).mpr ⟨0,rfl⟩
    ·exact h2 y q
noncomputable def Nr(n:Net)(i:Nat):List Str:=(((aC n).take i).flatMap ah).map<|aw n
theorem Z3{n:Net}(T:aj n){i:Nat}{w:List End}(h:(aC n)[i]?=some w):∃ e l r,ends n=l++e :: r/\(∀ x∈l,aw n x∈Nr n i)/\aw n e∉Nr n i/\w=walker n e:=by
 obtain⟨e,l,r,h1,h2,h3,h4⟩:=DJ T (ends n) [] (λ_ h=>h) i w h;exact⟨e,l,r,h1,h2,h3,h4⟩
theorem Z4{n:Net}(T:aj n){e:End}(h:e∈ends n):(walker n e)[0]?=some e:=by
 obtain⟨k,p,_⟩:=oS T h;unfold walker;rw [qO p];have:=nq n e k 0 p.pos;exact this
structure gk(n:Net)(s:Str->Bool)(c:Nat->Bool)(χ:End->Bool):Prop where
 face:aT n s χ
 cut:∀ e z,aF n e=some z->s z=(c e.1 ^^ c (other n e).1)
def hV(n:Net)(c:Nat->Bool)(χ:End->Bool)(x:End):Bool:=c x.1 ^^ χ (other n x)
def pC(c:Nat->Bool)(χ:End->Bool)(y:End):Bool:=c y.1 ^^ χ y
section
variable{n:Net}{s:Str->Bool}{c:Nat->Bool}{χ:End->Bool}
theorem gk.odd(T:aj n)(D:gk n s c χ){x:End}(hx:x∈ends n):pC c χ (go 1 n x)=hV n c χ x:=by
 obtain⟨z,hz⟩:=af.mp hx;have h1:=D.face.go x hx;rw [Kk T hx] at h1;have h2:=D.face.cE x z hz;have h3:=D.cut x z hz;unfold pC hV;rw [h1,show(go 1 n x).1=(other n x).1 from rfl];rw [h2] at h3
 revert h3
 cases χ x <;> cases χ (other n x) <;> cases c x.1 <;> cases c (other n x).1 <;> simp
theorem gk.even(T:aj n)(D:gk n s c χ){y:End}(hy:y∈ends n):hV n c χ (go (-1) n y)=pC c χ y:=by
 obtain⟨z,hz⟩:=af.mp hy;have h1:=D.face.go _<|cM T<|eW T hy (c:=-1);rw [M3 T hy] at h1;have h2:=D.face.cE y z hz;have h3:=D.cut y z hz;unfold pC hV;rw [<- h1,show(go (-1) n y).1=(other n y).1 from rfl];rw [h2] at h3
 revert h3
 cases χ y <;> cases χ (other n y) <;> cases c y.1 <;> cases c (other n y).1 <;> simp
theorem gk.two(T:aj n)(D:gk n s c χ){x:End}(hx:x∈ends n):hV n c χ (Nt.two n x)=hV n c χ x:=by
 rw [show Nt.two n x=go (-1) n (go 1 n x) from rfl,D.even T<|eW T hx,D.odd T hx]
theorem gk.it(T:aj n)(D:gk n s c χ){x:End}(hx:x∈ends n):∀ k,hV n c χ (Nt.it (Nt.two n) k x)=hV n c χ x
 | 0=>rfl
 | k+1=>by
  show hV n c χ (Nt.two n<|Nt.it (Nt.two n) k x)=_;rw [D.two T<|iD T hx k,D.it T hx k]
theorem Nu(k:Nat):∀(m:Nat) (ws:List<|List End) {i:Nat} {e:End},(i,e)∈cX k m ws->∃ j w,ws[j]?=some w/\i=m+j/\e∈fI k w
 | m,[],i,e,h=>by simp [cX] at h
 | m,w :: ws,i,e,h=>by
  unfold cX at h
  rcases An.mp h with h | h
  ·obtain⟨x,hx,q⟩:=Aj.mp h;cases q;exact⟨0,w,rfl,rfl,hx⟩
  ·obtain⟨j,v,h1,h2,h3⟩:=Nu k (m+1) ws h;exact⟨j+1,v,h1,by omega,h3⟩
theorem sn{k:Nat}{ws:List (List End)}{i:Nat}{e:End}(h:(i,e)∈cY k ws):∃ w,ws[i]?=some w/\e∈fI k w:=by
 obtain⟨j,w,h1,h2,h3⟩:=Nu k 0 ws h;rw [Ec] at h2;subst h2;exact⟨w,h1,h3⟩
noncomputable def dD(n:Net)(c:Nat->Bool)(χ:End->Bool)(i:Nat):Bool:=match (aC n)[i]? with
 | some (e :: _)=>hV n c χ e
 | _=>false
theorem Nv(T:aj n){i:Nat}{e:End}(he:e∈ends n)(h:(aC n)[i]?=some (walker n e)):dD n c χ i=hV n c χ e:=by
 have h0:=Z4 T he;unfold dD;rw [h];cases hw:walker n e with
 | nil=>rw [hw] at h0;cases h0
 | cons a l=>rw [hw] at h0;cases h0;rfl
theorem pD(T:aj n){i:Nat}{w:List End}(h:(aC n)[i]?=some w):∃ e,e∈ends n/\w=walker n e:=by
 obtain⟨e,l,r,heq,_,_,hw⟩:=Z3 T h;exact⟨e,by rw [heq];simp,hw⟩
theorem gk.iN(T:aj n)(D:gk n s c χ){i:Nat}{x:End}(h:(i,x)∈cY 0 (aC n)):x∈ends n/\hV n c χ x=dD n c χ i:=by
 obtain⟨w,hw,hx⟩:=sn h;obtain⟨e,he,rfl⟩:=pD T hw;have hx:x∈cA n e:=hx;obtain⟨k,rfl⟩:=(iE T he).mp hx;rw [Nv T he hw];exact⟨iD T he k,D.it T he k⟩
theorem gk.sq(T:aj n)(D:gk n s c χ){i:Nat}{y:End}(h:(i,y)∈cY 1 (aC n)):y∈ends n/\pC c χ y=dD n c χ i:=by
 obtain⟨w,hw,hy⟩:=sn h;obtain⟨e,he,rfl⟩:=pD T hw;rw [vP] at hy;obtain⟨x,hx,rfl⟩:=Aj.mp hy;have hx:x∈cA n e:=hx;obtain⟨k,rfl⟩:=(iE T he).mp hx;rw [Nv T he hw];have:=iD T he k;exact⟨eW T this,by rw [D.odd T this,D.it T he k]⟩
theorem gk.cE(T:aj n)(D:gk n s c χ){p q:Nat×End}(hp:p∈cY 0 (aC n))(hq:q∈cY 1 (aC n))(h:aw n p.2=aw n q.2):s (aw n p.2)=(dD n c χ p.1 ^^ dD n c χ q.1):=by
 obtain⟨i,x⟩:=p;obtain⟨j,y⟩:=q;obtain⟨hx,e1⟩:=D.iN T hp;obtain⟨hy,e2⟩:=D.sq T hq;show s (aw n x)=(dD n c χ i ^^ dD n c χ j);obtain⟨z,hz⟩:=af.mp hx;have h2:=D.face.cE x z hz;have h3:=D.cut x z hz;rw [<- e1,<- e2,cW hz];unfold hV pC
 rcases sj T hx hy h with k | k
 ·subst k;rw [h2];cases χ y <;> cases χ (other n y) <;> cases c y.1 <;> rfl
 ·subst k;rw [h3];cases χ (other n x) <;> cases c x.1 <;> cases c (other n x).1 <;> rfl
end
theorem Z5{α:Type}(k:Nat):fI k ([]:List α)=[]:=by unfold fI;rw [List.drop_nil];rfl
theorem Nw(k i:Nat):∀(m:Nat) (ws:List<|List End),((cX k m ws).filter λp=>decide (p.1=i))=if m<=i then((fI k<|ws[i - m]?.getD []).map λe=>(i,e)) else []
 | m,[]=>by
  rw [List.getElem?_nil];show []=if m<=i then((fI k ([]:List End)).map λe=>(i,e)) else [];rw [Z5]
  split <;> rfl
 | m,w :: ws=>by
  unfold cX;rw [Dh,Nw k i (m+1) ws]
  by_cases h:m=i
  ·subst h;rw [BP<|Am _,BL (by omega),Bz,UJ];rw [List.filter_eq_self.mpr λa ha=>by obtain⟨x,_,rfl⟩:=Aj.mp ha;exact BW rfl];rfl
  ·rw [Ff.mpr λa ha=>by obtain⟨x,_,rfl⟩:=Aj.mp ha;exact λq=>h<|BX q,Gy]
   by_cases c:m<=i
   ·rw [BP c,BP (by omega),show i - m=(i - (m+1))+1 by omega];rfl
   ·rw [BL c,BL<|by omega]
theorem Nx{α:Type}(f:α->Str)(z:Str):∀ l:List α,(l.map f).count z=(l.filter λx=>decide (f x=z)).length
 | []=>rfl
 | a :: l=>by
  rw [Bj,Cu,Nx f z l,Cv]
  by_cases h:f a=z
  ·rw [BP (by rw [h];exact KZ z),BP<|BW h,Au]
  ·rw [BL (by rw [KC];exact h),BL λq=>h<|BX q];rfl
theorem Ny{n:Net}{k:Nat}{z:Str}{p:Nat×End}(hp:cI n k z=[p]){i:Nat}{w:List End}(hw:(aC n)[i]?=some w):((fI k w).map<|aw n).count z=if p.1=i then 1 else 0:=by
 have h1:=Nw k i 0<|aC n;rw [BP<|Bq _,TY,hw] at h1;have h1:(cY k<|aC n).filter (λp=>decide (p.1=i))=(fI k w).map λe=>(i,e):=h1;have h2:(((cY k<|aC n).filter λp=>decide (p.1=i)).filter λp=>decide (aw n p.2=z))=(cI n k z).filter λp=>decide (p.1=i):=by
  unfold cI;rw [List.filter_filter,List.filter_filter]
  congr 1
  funext p
  exact Bool.and_comm ..
 rw [h1,hp,List.filter_map] at h2;have h3:=BZ List.length h2;rw [Ab] at h3;rw [Nx];refine Eq.trans h3 ?_;rw [Cv]
 by_cases c:p.1=i
 ·rw [BP<|BW c,BP c];rfl
 ·rw [BL λq=>c<|BX q,BL c];rfl
theorem Z6{n:Net}(T:aj n){z:Str}{p q:Nat×End}(hp:cI n 0 z=[p])(hq:cI n 1 z=[q]){i:Nat}{w:List End}(hw:(aC n)[i]?=some w):cH n w z=(decide (p.1=i) ^^ decide (q.1=i)):=by
 obtain⟨e,he,rfl⟩:=pD T hw;have c0:=Ny hp hw;have c1:=Ny hq hw;rw [vP,Ck] at c1;have c0:((cA n e).map<|aw n).count z=_:=c0;have c1:((cA n e).map λx=>aw n<|go 1 n x).count z=_:=c1;unfold cH;rw [(Ng T he).count_eq,Es,c0,c1]
 by_cases a:p.1=i <;> by_cases b:q.1=i <;> simp [a,b]
theorem Nz(k:Nat):∀(m:Nat) (ws:List<|List End) {j:Nat} {w:List End} {e:End},ws[j]?=some w->e∈fI k w->(m+j,e)∈cX k m ws
 | m,[],j,w,e,h,_=>by simp at h
 | m,v :: ws,0,w,e,h,he=>by
  cases h;unfold cX;exact Ax _<|Aj.mpr ⟨e,he,rfl⟩
 | m,v :: ws,j+1,w,e,h,he=>by
  unfold cX;refine Ao _ ?_;have:=Nz k (m+1) ws (j:=j) h he;rw [show m+(j+1)=m+1+j by omega];exact this
theorem vS{k:Nat}{ws:List (List End)}{i:Nat}{w:List End}{e:End}(h:ws[i]?=some w)(he:e∈fI k w):(i,e)∈cY k ws:=by
 have:=Nz k 0 ws h he;rw [Ec] at this;exact this
theorem Z7{n:Net}(T:aj n){x:End}(hx:x∈ends n):∃ p∈cY 0 (aC n),∃ q∈cY 1 (aC n),p.1=q.1/\aw n p.2=aw n x/\aw n q.2=aw n (left n x):=by
 obtain⟨z,hz⟩:=af.mp hx;obtain⟨p,hp,ez⟩:=Aj.mp ((pB T (k:=0)<|by decide).mpr<|dE hz);obtain⟨i,e⟩:=p;obtain⟨w,hw,he⟩:=sn hp;obtain⟨e0,h0,rfl⟩:=pD T hw;have DM:e∈cA n e0:=he;have lP:=pA T h0 e DM;have ht:aw n x=aw n e:=by rw [cW hz];exact ez.symm
 have hO:∀ y∈cA n e0,go 1 n y∈fI 1 (walker n e0):=λy hy=>by
  rw [vP];exact Aj.mpr ⟨y,hy,rfl⟩
 rcases sj T hx lP ht with k | k
 ·obtain⟨y,hy,h2⟩:=DA T h0 DM;have jP:=pA T h0 y hy;refine⟨(i,e),hp,(i,go 1 n y),vS hw<|hO y hy,rfl,ht.symm,?_⟩;have hg:=eW T jP (c:=1);have h3:other n (go 1 n y)=left n x:=by
   have:cV (-1) n (other n<|go 1 n y)=x:=by rw [<- k];exact h2
   have hb:=lC (c:=-1)<|cM T hg;rw [this,show(-(-1):Int)=1 from rfl] at hb;rw [uO hx,hb]
  obtain⟨t,eQ⟩:=af.mp hg;show aw n (go 1 n y)=_;rw [<- h3,cW eQ,cW (cf T eQ).1]
 ·refine⟨(i,e),hp,(i,go 1 n e),vS hw<|hO e DM,rfl,ht.symm,?_⟩;show aw n (cV 1 n<|other n e)=_;rw [k,(cf T hz).2.1,uO hx]
theorem DS{n:Net}(T:aj n){k:Nat}(hk:k<=1){p q:Nat×End}(hp:p∈cY k (aC n))(hq:q∈cY k (aC n))(h:aw n p.2=aw n q.2):p=q:=by
 have h1:=vQ (DI T hk) hp;have h2:=vQ (DI T hk) hq;have h3:(λx:Nat×End=>decide (aw n x.2=aw n p.2))=λx=>decide (aw n x.2=aw n q.2):=by rw [h]
 rw [h3] at h1;exact List.cons.inj (h1.symm.trans h2) |>.1
theorem Z8{n:Net}(T:aj n)(hg:b7 n)(hN:(n.map (·.1)).Nodup){S:Nat->Prop}(s0:∃ p∈cY 0 (aC n),S p.1)
  (cl:∀ p∈cY 0 (aC n),∀ q∈cY 1 (aC n),aw n p.2=aw n q.2->(S p.1↔S q.1)):∀ i,i < (aC n).length->S i:=by
 let B:Str->Prop:=λz=>∃ p∈cY 0 (aC n),aw n p.2=z/\S p.1
 have bp:∀{p:Nat×End},p∈cY 0 (aC n)->(B (aw n p.2)↔S p.1):=λ{p} hp=>⟨λ⟨q,hq,e,h⟩=>by rw [DS T (by decide) hp hq e.symm];exact h,λh=>⟨p,hp,rfl,h⟩⟩;have bq:∀{q:Nat×End},q∈cY 1 (aC n)->(B (aw n q.2)↔S q.1):=λ{q} hq=>by
  have hz:aw n q.2∈ag n:=(pB T (k:=1)<|by decide).mp<|Aj.mpr ⟨q,hq,rfl⟩;obtain⟨p,hp,e⟩:=Aj.mp ((pB T (k:=0)<|by decide).mpr hz);have e:aw n p.2=aw n q.2:=e;rw [<- e,bp hp];exact cl p hp q hq e
 have bl:∀ x∈ends n,(B (aw n x)↔B (aw n<|left n x)):=λx hx=>by
  obtain⟨p,hp,q,hq,e,e1,e2⟩:=Z7 T hx;rw [<- e1,<- e2,bp hp,bq hq,e]
 have br:∀(r j:Nat) z,(row n r)[j]?=some z->∀ z0,(row n r)[0]?=some z0->(B z↔B z0):=λr j=>by
  induction j with
  | zero=>intro z h z0 h0;rw [h] at h0;cases h0;exact Iff.rfl
  | succ j ih=>
   intro z h z0 h0;have hl:=(Ac.mp h).1;obtain⟨y,hy⟩:∃ y,(row n r)[j]?=some y:=⟨_,Aa<|by omega⟩;have tu:aF n (r,j)=some y:=hy;have b:=bl (r,j)<|af.mpr ⟨y,tu⟩;have e:left n (r,j)=(r,j+1):=by
    unfold left;rw [show(j+1) % (row n r).length=j+1 from Bx hl]
   have h':aF n (r,j+1)=some z:=h;rw [e,cW tu,cW h'] at b;exact b.symm.trans<|ih y hy z0 h0
 have ba:∀ r∈n,∀ y∈r.2,∀ z∈r.2,B y->B z:=λr hr y hy z hz h=>by
  obtain⟨i,hi,rfl⟩:=List.getElem_of_mem hr;rw [<- gX hi] at hy hz;obtain⟨a,ha⟩:=Bo hy;obtain⟨b,hb⟩:=Bo hz;obtain⟨z0,h0⟩:∃ z0,(row n i)[0]?=some z0:=⟨_,Aa<|by have:=(Ac.mp ha).1;omega⟩;exact(br i b z hb z0 h0).mpr<|(br i a y ha z0 h0).mp h
 have all:∀ r∈n,∃ t∈r.2,B t:=by
  have:=hg (λx=>∃ r∈n,r.1=x/\∃ t∈r.2,B t) ?_ ?_
  ·intro r hr;obtain⟨r',kz,e,t,ht,b⟩:=this r hr;have:r'=r:=by
    have:=vO hN r' kz r hr e;exact this
   subst this;exact⟨t,ht,b⟩
  ·obtain⟨p,hp,sp⟩:=s0;have hz:aw n p.2∈ag n:=(pB T (k:=0)<|by decide).mp<|Aj.mpr ⟨p,hp,rfl⟩;unfold ag at hz;obtain⟨r,hr,ht⟩:=Fr.mp hz;exact⟨r,hr,r,hr,rfl,_,ht,(bp hp).mpr sp⟩
  ·rintro r hr s hs t Z9 rq ⟨r',kz,e,y,hy,b⟩;have:=vO hN r' kz r hr e;subst this;exact⟨s,hs,rfl,t,rq,ba r' hr y hy t Z9 b⟩
 have every:∀ z∈ag n,B z:=λz hz=>by
  unfold ag at hz;obtain⟨r,hr,ht⟩:=Fr.mp hz;obtain⟨y,hy,b⟩:=all r hr;exact ba r hr y hy z ht b
 intro i hi;have hw:=Aa hi;obtain⟨e,he,rR⟩:=pD T hw;rw [rR] at hw;have hm:e∈cA n e:=(iE T he).mpr ⟨0,rfl⟩;have hp:=vS (k:=0) hw hm;obtain⟨z,hz⟩:=af.mp he;exact(bp hp).mp<|every _<|by show aw n e∈_;rw [cW hz];exact dE hz
theorem NA{m a:Nat}(h:a < m)(f:Nat->Bool):ax ((List.range m).map λi=>f i && decide (a=i))=f a:=by
 induction m with
 | zero=>omega
 | succ m ih=>
  rw [Cz,Al,ku];show(_ ^^ ((f m && decide (a=m)) ^^ false))=_;rw [Gm]
  by_cases c:a=m
  ·subst c;have:ax ((List.range a).map λi=>f i && decide (a=i))=false:=by
    have e:((List.range a).map λi=>f i && decide (a=i))=(List.range a).map λ_=>false:=Bu λi hi=>by
     rw [BR (λq=>by have:=Bm.mp hi;omega),SM]
    rw [e,nF]
   rw [this,BW rfl,Bool.and_true,Gj]
  ·rw [ih (by omega),BR c,SM,Gm]
theorem Z'{n:Net}(T:aj n)(ch:Nat->Bool){z:Str}{p q:Nat×End}(hp:cI n 0 z=[p])(hq:cI n 1 z=[q]) :
  ax ((List.range (aC n).length).map λi=>ch i && cH n ((aC n)[i]?.getD []) z)=(ch p.1 ^^ ch q.1):=by
 have lt:∀{k:Nat} {p:Nat×End},cI n k z=[p]->p.1 < (aC n).length:=λ{k p} h=>by
  have:p∈cI n k z:=by rw [h];exact Ah.mpr rfl
  obtain⟨w,hw,_⟩:=sn (i:=p.1) (e:=p.2) (Bf.mp this).1;exact(Ac.mp hw).1
 have e:((List.range (aC n).length).map λi=>ch i && cH n ((aC n)[i]?.getD []) z)=(List.range (aC n).length).map λi=>(ch i && decide (p.1=i)) ^^ (ch i && decide (q.1=i)):=Bu λi hi=>by
  have hw:=Aa<|Bm.mp hi;have ho:=Z6 T hp hq hw;rw [hw,Option.getD_some,ho];cases ch i <;> rfl
 rw [e,je,NA<|lt hp,NA<|lt hq]
theorem q62{n:Net}(T:aj n)(R:RS n){ss sd:List Str}(he:cF n ss=true)(hs:bX n ss sd):∃ c χ,gk n (λz=>decide (z∈ss)) c χ:=by
 obtain⟨χ,hχ⟩:=R _<|La he;have es:(λz=>ss.contains z)=λz=>decide (z∈ss):=by
  funext z
  by_cases h:z∈ss
  ·rw [BW h];exact Cb.mpr h
  ·rw [BR h];exact Dz.mpr λq=>h<|Cb.mp q
 rw [es] at hχ;refine⟨λr=>decide (aJ n r∈sd),χ,hχ,λe z hz=>?_⟩;have ho:=cf T hz;have h1:=hs.cut z;show decide (z∈ss)=(decide (aJ n e.1∈sd) ^^ decide (aJ n (other n e).1∈sd))
 by_cases a:aJ n e.1∈sd <;> by_cases b:aJ n (other n e).1∈sd
 ·rw [BW a,BW b,BR]
  ·rfl
  ·intro k;obtain⟨x,hx,q1,q2⟩:=h1.mp k
   rcases (ix T hz).mp hx with rfl | rfl
   ·exact q2 b
   ·rw [ho.2.1] at q2;exact q2 a
 ·rw [BW a,BR b,BW]
  ·rfl
  ·exact h1.mpr ⟨e,hz,a,b⟩
 ·rw [BR a,BW b,BW]
  ·rfl
  ·exact h1.mpr ⟨other n e,ho.1,b,by rw [ho.2.1];exact a⟩
 ·rw [BR a,BR b,BR]
  ·rfl
  ·intro k;obtain⟨x,hx,q1,q2⟩:=h1.mp k
   rcases (ix T hz).mp hx with rfl | rfl
   ·exact a q1
   ·exact b q1
structure cR(n:Net)(cs:List<|List Str):Prop where
 len:cs.length=(aC n).length
 mem:∀(i:Nat) c w,cs[i]?=some c->(aC n)[i]?=some w->∀ z,z∈c↔(w.map<|aw n).count z=1
 bZ:∀ c∈cs,cO c
section
variable{n:Net}{cs:List (List Str)}{ss zs:List Str}{c:Nat->Bool}{χ:End->Bool}
theorem cR.at'(C:cR n cs)(T:aj n){i:Nat}(hi:i < (aC n).length){z:Str}(hz:z∈ag n):decide (z∈cs[i]?.getD [])=cH n ((aC n)[i]?.getD []) z:=by
 have h1:=Aa hi;have h2:=Aa (show i < cs.length by rw [C.len];exact hi);rw [h1,h2];exact DH T (Bn hi) (C.mem i _ _ h2 h1) hz
theorem ND{k:Nat}{z:Str}{p:Nat×End}(h:cI n k z=[p]):p.1 < (aC n).length:=by
 have:p∈cI n k z:=by rw [h];exact Ah.mpr rfl
 obtain⟨w,hw,_⟩:=sn (i:=p.1) (e:=p.2) (Bf.mp this).1;exact(Ac.mp hw).1
theorem NI{α:Type}(g f:α->Bool):∀ l:List α,ax ((l.filter g).map f)=ax (l.map λi=>g i && f i)
 | []=>rfl
 | a :: l=>by
  rw [Cv];have ih:=NI g f l;cases h:g a with
  | true=>
   rw [BP rfl];show(f a ^^ ax ((l.filter g).map f))=((g a && f a) ^^ ax (l.map λi=>g i && f i));rw [ih,h,Hb]
  | false=>
   rw [BL (by decide),ih];show _=((g a && f a) ^^ ax (l.map λi=>g i && f i));rw [h,Bool.false_and,Gj]
structure gl(n:Net)(ss:List Str)(ns:List Nat):Prop where
 bZ:ns.Pairwise (· < ·)
 iG:∀ i∈ns,1<=i/\i < (aC n).length
 sum:∀ z∈ag n,ax (ns.map λi=>cH n ((aC n)[i]?.getD []) z)=decide (z∈ss)
end
end Nt
namespace L2
open PySem PySem.Spec PyProof.Rows bH
section
variable{X:Cx}
end
end L2
namespace L2
open PySem PySem.Spec PyProof.Rows
section
variable{X:Cx}{σ:St}{H:Hp}{D:Ends}{body rest:List Stmt}{a b:Expr}
theorem q4k{d:Addr}{kvs:List (Key×V)}{l:List Stmt}(hd:H d=some (.dK kvs)) (h:∀ o,Run X l D σ<|upd H d<|.bD o<|.dK kvs):Run X l D σ H:=by
 refine⟨λpins s I=>?_⟩;obtain⟨o,ho,I'⟩:=Vi I hd;exact(h o).run pins s I'
end
end L2
namespace bx
open PySem SetTable
section
variable{t:SetTable}{es:Array (Int×Value)}{Z:List Ze}
end
section
variable{prog:Program}{w:World}{K:Type} [DecidableEq K]
variable{A:Around}{E:Value->Shared->Prop}{s:Shared}{a b:Addr}{knd:HeapKind prog w K}{k:K}{Y:List (Nat×K×Addr)}
end
section
variable{prog:Program}{w:World}{K:Type} [DecidableEq K] {knd:KeyKind prog w K}
end
end bx
namespace L2
open PySem PySem.Spec PyProof.Rows bx Classical
section
variable{prog:Program}{w:World}{A:Around}{E:Value->Shared->Prop}{s:Shared}{a b:Addr}{Y:List Yt}{k:List Key}
end
section
variable{X:Cx}{σ:St}{H:Hp}{Q:VK}{pins:List (Addr×Obj)}{s:Shared}{a b:Addr}{Y:List Yt}
end
end L2
namespace L2
open PySem PySem.Spec PyProof.Rows
section
variable{X:Cx}{σ:St}{H:Hp}{Q:VK}
end
section
variable{X:Cx}{elt tg:Expr}{ifs:List Expr}{scope:Scope}{σ:St}{H:Hp}{N':List Str}{A a:Addr}{xs:List V}{after:Hp->Prop}
end
end L2
namespace D3
open PySem L2 Nt bH bx
open PyProof.Rows (sortedS)
open Classical
def cZ(H:Hp)(L:Addr)(us:List Addr)(cs:List<|List Str):Prop:=H L=some (.lst<|us.map V.ref)/\us.length=cs.length/\∀(i:Nat) u c,us[i]?=some u->cs[i]?=some c->H u=some (Ls c)
theorem cZ.same{H H':Hp}{L:Addr}{us:List Addr}{cs:List (List Str)}(h:cZ H L us cs)(s:ak H H'):cZ H' L us cs:=⟨s _ _ h.1,h.2.1,λi u c a b=>s _ _<|h.2.2 i u c a b⟩
def DT:Sp:=λvs H Q _=>∃(R:Addr) (as:List<|Addr×Addr) (n:Net),vs=[.ref R]/\ai H R as n/\(n.map (·.1)).Nodup/\aj n/\n.length<=60/\(ag n).length<=60 /\
 ∀(L:Addr) (us:List Addr) (cs:List<|List Str) (H':Hp),ak H H'->H L=none->cZ H' L us cs->cR n cs->Q (.ref L) H'
structure kN(n:Net)(H:Hp)(D:Addr)(us:List Addr)(cs:List<|List Str)(i:Nat):Prop where
 lst:H D=some (.lst<|us.map V.ref)
 lu:us.length=i
 lc:cs.length=i
 at':∀(j:Nat) u c,us[j]?=some u->cs[j]?=some c->H u=some (Ls c)/\u≠D
 mem:∀(j:Nat) c w,cs[j]?=some c->(aC n)[j]?=some w->∀ z,z∈c↔(w.map<|aw n).count z=1
 bZ:∀ c∈cs,cO c
theorem kN.step{n:Net}{H H2:Hp}{D k:Addr}{us:List Addr}{cs:List (List Str)}{i:Nat}{ks:List Str}{es:List Nt.End}(I:kN n H D us cs i)(s2:ak H H2)(nk:H k=none)(e2:H2 k=some (Ls ks))(so:cO ks)(hw:(aC n)[i]?=some es)(m2:∀ z,z∈ks↔(es.map<|aw n).count z=1):kN n (upd H2 D<|.lst<|us.map V.ref++[.ref k]) D (us++[k]) (cs++[ks]) (i+1):=by
 have lu:=I.lu;have lc:=I.lc;have sr:k≠D:=λe=>by rw [e,I.lst] at nk;cases nk
 have zero:∀{α:Type} {l:List α} {a b:α} {j:Nat},¬ j < l.length->(l++[a])[j]?=some b->j=l.length/\a=b:=λ{α l a b j} h e=>by
  rw [Ay<|by omega] at e;have hj:j - l.length=0:=by have:=(Ac.mp e).1;simp at this;omega
  rw [hj] at e;exact⟨by omega,by cases e;rfl⟩
 refine⟨by rw [aD,Al];rfl,by rw [Ag,lu];rfl,by rw [Ag,lc];rfl,λj u c h1 h2=>?_,λj c w h1 h2=>?_,λc hc=>?_⟩
 ·by_cases hj:j < us.length
  ·rw [Aq hj] at h1;rw [Aq<|by omega] at h2;obtain⟨q1,q2⟩:=I.at' j u c h1 h2;exact⟨by rw [ay q2];exact s2 _ _ q1,q2⟩
  ·obtain⟨_,rfl⟩:=zero hj h1;obtain⟨_,rfl⟩:=zero (by omega) h2;exact⟨by rw [ay sr];exact e2,sr⟩
 ·by_cases hj:j < cs.length
  ·rw [Aq hj] at h1;exact I.mem j c w h1 h2
  ·obtain⟨ej,rfl⟩:=zero hj h1;rw [ej,lc,hw] at h2;cases h2;exact m2
 ·rcases An.mp hc with h | h
  ·exact I.bZ c h
  ·rw [Ah.mp h];exact so
theorem kN.start{n:Net}{H:Hp}{D:Addr}(h:H D=some (.lst [])):kN n H D [] [] 0:=⟨h,rfl,rfl,λj u c h=>by simp at h,λj c w h=>by simp at h,λc h=>by cases h⟩
theorem kN.whole{n:Net}{H:Hp}{D:Addr}{us:List Addr}{cs:List (List Str)}(I:kN n H D us cs (aC n).length):cZ H D us cs/\cR n cs:=⟨⟨I.lst,I.lu.trans I.lc.symm,λi u c a b=>(I.at' i u c a b).1⟩,I.lc,I.mem,I.bZ⟩
theorem q8m{n:Net}{es:List Nt.End}(h:∀ e∈es,e∈ends n):∀ z∈es.map (aw n),z∈ag n:=λz hz=>by
 obtain⟨e,he,rfl⟩:=Aj.mp hz;obtain⟨y,hy⟩:=af.mp<|h e he;rw [cW hy];exact dE hy
section
variable{P:Program}{w:World}{K:PySem.W.Frag}{mg:Str->Option Value}{base:Heap}
abbrev NM:List Str:=["rows"]
abbrev su:List Str:=["rows","walker"]
theorem sv:aq NM ["rows"] (bd uz):=⟨rfl,rfl,rfl,by decide +kernel,rfl,by decide +kernel,by decide +kernel⟩
theorem q6t:su.Nodup:=by decide +kernel
theorem k9u{f:Addr}{fd:FuncData}(F:bL K "cores_of" "cores_of" uz f fd)(T:Txt mg)(GW:aV P w K mg base 4 "walkers_of" ["rows"] vE)(GC:aV P w K mg base 4 "core_of" ["rows","walker"] C0):aG P w K mg base bG 5 f fd ["rows"] DT:=by
 refine F.gb sv (λvs H Q E h=>?_) λb0 H vs Q E hr h=>?_
 ·obtain⟨R,as,n,rfl,_⟩:=h;rfl
 obtain⟨R,as,n,rfl,hR,hN,hT,hn,jO,q⟩:=h;have nd:=sv.nd;have qW:=f7 n;show Run _ _ _ [some<|.ref R] H;refine b5 (j9 (bd uz) NM su 1 (ie bK)<|bR GW hr<|ao<|ae 0<|aA ⟨R,as,n,rfl,hR,hN,hT,by omega,by omega,λW ls H1 s1 n1 hW fW=>⟨W,rfl,⟨_,al.of hW.lst⟩,λD hD=>?_⟩⟩);have wl:(aC n).length<=(ends n).length:=uQ n (ends n) [];have DU:=nr hT (ends n) [] λe he=>he;have vT:ls.length=(aC n).length:=hW.len;refine qF (xs:=ls.map V.ref) (λi σ' H'=>(∃ v,σ'=[some<|.ref R]++[v])/\ak H1 H'/\∃ us cs,kN n H' D us cs i) ⟨⟨none,rfl⟩,a8 hD _,[],[],kN.start aD⟩ ?_ ?_ ?_
 ·rintro i σ' H' _ ⟨_,sm,_⟩;exact al.of<|sm _ _ hW.lst
 ·rintro i x σ' H' hx ⟨⟨v,rfl⟩,sm,us,cs,I⟩;rw [Ai,Ba] at hx;obtain⟨l,hl,rfl⟩:=hx;have iZ:i < (aC n).length:=by have:=(Ac.mp hl).1;rw [<- vT];exact this
  have vU:=Aa iZ;obtain⟨ts,el,hE⟩:=(hW.same sm).at' i l _ hl vU;have wk:=DU _<|Ap vU;generalize (aC n)[i]=es at vU hE wk;have few:=wk.few;have lu:=I.lu;intro cl C s₀ H₀ ex;refine bE 1 q6t ?_;intro cl C s₀ H₀ ex;refine jB<|gN ?_;intro cl C s₀ H₀ ex;refine bR GC hr<|ao<|ae 0<|ao<|ae 1<|aA ⟨R,l,as,n,ts,es,rfl,hR.same<|s1.trans sm,hN,by omega,by omega,el,hE,wk.ends,by omega,λl hn hm=>?_,λk ks H2 s2 n2 e2 so2 m2=>?_⟩
  ·have:=aU hn λz hz=>q8m wk.ends z<|hm z hz;omega
  exact⟨_,s2 _ _ I.lst,by rw [Ab];exact cD (by omega),⟨_,rfl⟩,fZ (sm.trans s2) hD,_,_,I.step s2 n2 e2 so2 vU m2⟩
 ·rintro σ' H' ⟨_,sm,us,cs,I⟩;rw [Ab,vT] at I;exact q D us cs H' (s1.trans sm) (s1.free hD) I.whole.1 I.whole.2
end
end D3
namespace Nt
open PySem L2 Classical
section
variable{n:Net}
noncomputable def par(n:Net)(l:List Nat)(z:Str):Bool:=ax<|l.map λi=>cH n ((aC n)[i]?.getD []) z
theorem q0i{a b:List Nat}(h:a.Perm b)(z:Str):par n a z=par n b z:=KP<|h.map _
theorem q7v{l:List Nat}(hn:l.Nodup)(hl:∀ i∈l,i < (aC n).length)(z:Str):par n l z=ax ((List.range (aC n).length).map λi=>decide (i∈l) && cH n ((aC n)[i]?.getD []) z):=by
 have p:l.Perm ((List.range (aC n).length).filter λi=>decide (i∈l)):=(Dm hn<|List.nodup_range.filter _).mpr λi=>by
  rw [Bf,Bm,CJ];exact⟨λh=>⟨hl i h,h⟩,λh=>h.2⟩
 rw [q0i p z];exact NI _ _ _
theorem DV(T:aj n){l:List Nat}(hn:l.Nodup)(hl:∀ i∈l,i < (aC n).length){z:Str}{p q:Nat×End}(hp:cI n 0 z=[p])(hq:cI n 1 z=[q]):par n l z=(decide (p.1∈l) ^^ decide (q.1∈l)):=by
 rw [q7v hn hl,Z' T (λi=>decide (i∈l)) hp hq]
theorem k66(T:aj n)(hg:b7 n)(hN:(n.map (·.1)).Nodup){ss:List Str}{a b:List Nat}(ha:gl n ss a)(hb:b.Pairwise (· < ·))(hr:∀ i∈b,1<=i/\i < (aC n).length)(hs:∀ z∈ag n,par n b z=decide (z∈ss)):a=b:=by
 have na:a.Nodup:=Bh.mpr<|ha.bZ.imp λh=>Bk h;have nb:b.Nodup:=Bh.mpr<|hb.imp λh=>Bk h;have mem:∀ i,i < (aC n).length->(i∈a↔i∈b):=by
  intro i hi;have h0:0 < (aC n).length:=by omega
  have hw:=Aa h0;obtain⟨e,he,rR⟩:=pD T hw;rw [rR] at hw;have hp:=vS (k:=0) hw (show e∈cA n e from(iE T he).mpr ⟨0,rfl⟩);refine Z8 T hg hN (S:=λi=>i∈a↔i∈b) ⟨_,hp,?_⟩ (λp hp q hq e=>?_) i hi
  ·exact⟨λh=>absurd (ha.iG 0 h).1 (by decide),λh=>absurd (hr 0 h).1<|by decide⟩
  ·have gj:aw n p.2∈ag n:=(pB T (k:=0)<|by decide).mp<|Aj.mpr ⟨p,hp,rfl⟩;obtain⟨p',p1,p2,NR⟩:=vR T (k:=0) (by decide) gj;obtain⟨q',q1,q2,NU⟩:=vR T (k:=1) (by decide) gj;obtain rfl:=DS T (by decide) hp p1 p2.symm;obtain rfl:=DS T (by decide) hq q1<|e.symm.trans q2.symm;have e1:=DV T na (λi hi=>(ha.iG i hi).2) NR NU;have e2:=DV T nb (λi hi=>(hr i hi).2) NR NU;have e3:par n a (aw n p.2)=par n b (aw n p.2):=(ha.sum _ gj).trans (hs _ gj).symm;rw [e1,e2] at e3
   by_cases x1:p.1∈a <;> by_cases x2:p.1∈b <;> by_cases x3:q.1∈a <;> by_cases x4:q.1∈b <;> simp [x1,x2,x3,x4] at e3 ⊢
 refine QZ (le:=λx y:Nat=>x<=y) (λx y _ _ h1 h2=>Nat.le_antisymm h1 h2) (ha.bZ.imp λh=>Ch h) (hb.imp λh=>Ch h)<|(Dm na nb).mpr λi=>?_;exact⟨λh=>(mem i (ha.iG i h).2).mp h,λh=>(mem i (hr i h).2).mpr h⟩
structure Sum(n:Net)(l:List Nat)(ss:List Str):Prop where
 bZ:cO ss
 mem:∀ z∈ss,z∈ag n
 sum:∀ z∈ag n,decide (z∈ss)=par n l z
theorem Sum.uniq{l m:List Nat}{a b:List Str}(ha:Sum n l a)(hb:Sum n m b)(h:∀ z∈ag n,par n l z=par n m z):a=b:=qU ha.bZ hb.bZ λz=>by
 by_cases hz:z∈ag n
 ·exact decide_eq_decide.mp<|(ha.sum z hz).trans<|(h z hz).trans (hb.sum z hz).symm
 ·exact⟨λk=>absurd (ha.mem z k) hz,λk=>absurd (hb.mem z k) hz⟩
theorem Sum.nil:Sum n [] []:=⟨List.Pairwise.nil,λz h=>(by cases h),λz _=>rfl⟩
theorem Sum.snoc{cs:List (List Str)}(C:cR n cs)(T:aj n){l:List Nat}{ss ms ci:List Str}{i:Nat}(h:Sum n l ss)(hi:cs[i]?=some ci)(so:cO ms)(hm:∀ z,z∈ms↔(if z∈ss then z∉ci else z∈ci)):Sum n (l++[i]) ms:=by
 have iZ:=(Ac.mp hi).1;have hw:i < (aC n).length:=by rw [<- C.len];exact iZ
 have wk:=nr T (ends n) [] (λe he=>he) _<|Bn hw;have cin:=DF wk.ends<|C.mem i _ _ hi<|Aa hw;refine⟨so,λz hz=>?_,λz hz=>?_⟩
 ·have:=(hm z).mp hz
  by_cases k:z∈ss
  ·exact h.mem z k
  ·rw [BL k] at this;exact cin z this
 ·have oM:=C.at' T hw hz;rw [hi,Option.getD_some] at oM;unfold par;rw [Al,ku];show _=(par n l z ^^ (cH n ((aC n)[i]?.getD []) z ^^ false));rw [Gm,<- h.sum z hz,<- oM];have h7:=hm z
  by_cases k1:z∈ss <;> by_cases k2:z∈ci <;> simp [k1,k2] at h7 <;> simp [h7,k1,k2]
theorem Sum.dbl{cs:List (List Str)}(C:cR n cs)(T:aj n)(hf:HF n)(hN:(n.map (·.1)).Nodup)(h0:0 < n.length){ss ms ci:List Str}{i:Nat}(he:cF n ss=true)(hc:dB n ss)(hi:cs[i]?=some ci)(so:cO ms)(hm:∀ z,z∈ms↔(if z∈ss then z∉ci else z∈ci)):cF n ms=true/\dB n ms:=by
 have iZ:=(Ac.mp hi).1;have hw:i < (aC n).length:=by rw [<- C.len];exact iZ
 have cm:=C.mem i _ _ hi<|Aa hw;have e2:=ZX T (Bn hw) cm;obtain⟨sd,hsd⟩:=ZY T hf hN h0 (Bn hw) cm;have c2:dB n ci:=⟨C.bZ ci<|Ap hi,sd,hsd.cut⟩;exact⟨Xg he e2 hm,Xk T hc c2 so hm⟩
theorem NV(n:Net):cF n []=true/\dB n []:=by
 refine⟨?_,List.Pairwise.nil,[],λz=>⟨λh=>(by cases h),λ⟨e,_,h,_⟩=>(by cases h)⟩⟩;unfold cF;simp;intro a b _;rw [Ff.mpr λz _ h=>by cases h];rfl
def SB:Nat->List (List Nat)
 | 0=>[[]]
 | k+1=>SB k++(SB k).map (·++[k+1])
theorem vV:∀ k,(SB k).length=2 ^ k
 | 0=>rfl
 | k+1=>by rw [SB,Ag,Ab,vV k,Ge];omega
theorem sw:∀ k,∀ l∈SB k,l.Pairwise (· < ·)/\∀ i∈l,1<=i/\i<=k
 | 0,l,h=>by
  rw [SB,Ah] at h;subst h;exact⟨List.Pairwise.nil,λi h=>by cases h⟩
 | k+1,l,h=>by
  rw [SB,An,Aj] at h
  rcases h with h | ⟨m,h,rfl⟩
  ·have:=sw k l h;exact⟨this.1,λi hi=>⟨(this.2 i hi).1,Gg (this.2 i hi).2⟩⟩
  ·have:=sw k m h;refine⟨Gu.mpr ⟨this.1,Gc _ _,λa ha b hb=>?_⟩,λi hi=>?_⟩
   ·rw [Ah.mp hb];exact Nat.lt_succ_of_le (this.2 a ha).2
   ·rcases An.mp hi with hi | hi
    ·exact⟨(this.2 i hi).1,Gg (this.2 i hi).2⟩
    ·rw [Ah.mp hi];exact⟨QK<|Bq _,Am _⟩
theorem DZ:∀ k,(SB k).Nodup
 | 0=>by simp [SB]
 | k+1=>by
  rw [SB,Bv];refine⟨DZ k,vN (DZ k) λa _ b _ e=>List.append_cancel_right e,λa ha b hb e=>?_⟩;obtain⟨m,_,rfl⟩:=Aj.mp hb;have:=(sw k a ha).2 (k+1) (by rw [e];exact Ao _<|Fb _);omega
theorem vW(p:Nat->Bool):∀ k,((List.range' 1 k).filter p)∈SB k
 | 0=>Fb _
 | k+1=>by
  rw [List.range'_concat,Dh,SB,An];have e:1+1 * k=k+1:=by omega
  rw [e]
  by_cases h:p (k+1)=true
  ·refine .inr<|Aj.mpr ⟨_,vW p k,?_⟩;rw [List.filter_cons_of_pos h];rfl
  ·left
   rw [List.filter_cons_of_neg h]
   simpa using vW p k
structure kP(n:Net)(ss:List Str):Prop where
 bZ:cO ss
 even:cF n ss=true
 cut:dB n ss
theorem q3r(T:aj n)(R:RS n)(h0:0 < n.length){ss:List Str}(D:kP n ss):∃ l,l∈SB ((aC n).length - 1)/\gl n ss l:=by
 obtain⟨sd,hs⟩:=K' T h0 D.cut;obtain⟨c,χ,D'⟩:=q62 T R D.even hs;refine⟨_,vW (λi=>dD n c χ i ^^ dD n c χ 0) _,?_⟩;have mem:∀ i,i < (aC n).length->decide (i∈(List.range' 1<|(aC n).length - 1).filter λi=>dD n c χ i ^^ dD n c χ 0)=(dD n c χ i ^^ dD n c χ 0):=λi hi=>by
  by_cases hz:i=0
  ·subst hz;rw [Bool.xor_self];exact BR λh=>by have:=List.mem_range'.mp (Bf.mp h).1;omega
  ·cases hb:(dD n c χ i ^^ dD n c χ 0) with
   | true=>exact BW<|Bf.mpr ⟨List.mem_range'.mpr ⟨i - 1,by omega,by omega⟩,hb⟩
   | false=>exact BR λh=>by have:=(Bf.mp h).2;rw [hb] at this;cases this
 have ok:=sw _ _<|vW (λi=>dD n c χ i ^^ dD n c χ 0)<|(aC n).length - 1;have iG:∀ i∈(List.range' 1<|(aC n).length - 1).filter λi=>dD n c χ i ^^ dD n c χ 0,1<=i/\i < (aC n).length:=λi hi=>by
  have:=ok.2 i hi;omega
 refine⟨ok.1,iG,λz hz=>?_⟩;obtain⟨p,p1,p2,hp⟩:=vR T (k:=0) (by decide) hz;obtain⟨q,q1,q2,hq⟩:=vR T (k:=1) (by decide) hz;refine(DV T (Bh.mpr<|ok.1.imp λh=>Bk h) (λi hi=>(iG i hi).2) hp hq).trans ?_;rw [mem _<|ND hp,mem _<|ND hq];have e:=D'.cE T p1 q1<|p2.trans q2.symm;rw [p2] at e;rw [e];cases dD n c χ p.1 <;> cases dD n c χ q.1 <;> cases dD n c χ 0 <;> rfl
theorem kP.mem{ss:List Str}(D:kP n ss):∀ z∈ss,z∈ag n:=λz hz=>by
 obtain⟨ps,h⟩:=D.cut.cut;exact oZ<|(h z).mp hz
structure c6(n:Net)(k:Nat)(ds:List<|List Str):Prop where
 len:ds.length=2 ^ k
 sum:∀(i:Nat) l d,(SB k)[i]?=some l->ds[i]?=some d->Sum n l d
 dbl:∀ d∈ds,kP n d
theorem c6.nil:c6 n 0 [[]]:=by
 refine⟨rfl,λi l d h1 h2=>?_,λd h=>?_⟩
 ·match i,h1,h2 with
  | 0,h1,h2=>cases h1;cases h2;exact Sum.nil
  | i+1,h1,_=>cases h1
 ·rw [Ah.mp h];exact⟨List.Pairwise.nil,(NV n).1,(NV n).2⟩
theorem c6.step{cs:List (List Str)}(C:cR n cs)(T:aj n)(hf:HF n)(hN:(n.map (·.1)).Nodup)(h0:0 < n.length){k:Nat}{ds ms:List (List Str)}{c:List Str}(D:c6 n k ds)(hc:cs[k+1]?=some c)
  (hl:ms.length=ds.length) (hm:∀(i:Nat) d m,ds[i]?=some d->ms[i]?=some m->cO m/\∀ z,z∈m↔(if z∈d then z∉c else z∈c)):c6 n (k+1) (ds++ms):=by
 have l1:=D.len;have l2:=vV k;refine⟨by rw [Ag,hl,l1,Ge];omega,λi l d h1 h2=>?_,λd h=>?_⟩
 ·rw [SB] at h1
  by_cases hi:i < 2 ^ k
  ·rw [Aq<|by omega] at h1 h2;exact D.sum i l d h1 h2
  ·rw [Ay<|by omega] at h1 h2;rw [Ai,Ba] at h1;obtain⟨l',iX,rfl⟩:=h1;rw [l2] at iX;rw [l1] at h2;have aS:i - 2 ^ k < ds.length:=by have:=(Ac.mp h2).1;omega
   obtain⟨so,me⟩:=hm _ _ _ (Aa aS) h2;exact(D.sum _ _ _ iX<|Aa aS).snoc C T hc so me
 ·rcases An.mp h with h | h
  ·exact D.dbl d h
  ·obtain⟨i,hi⟩:=Bo h;have aS:i < ds.length:=by have:=(Ac.mp hi).1;omega
   obtain⟨so,me⟩:=hm i _ _ (Aa aS) hi;have dd:=D.dbl _<|Bn aS;have:=Sum.dbl C T hf hN h0 dd.even dd.cut hc so me;exact⟨so,this.1,this.2⟩
theorem c6.at'{k:Nat}{ds:List (List Str)}(D:c6 n k ds){i:Nat}(hi:i < ds.length):∃ l,(SB k)[i]?=some l/\Sum n l ds[i]:=by
 have lr:i < (SB k).length:=by rw [vV,<- D.len];exact hi
 exact⟨_,Aa lr,D.sum i _ _ (Aa lr)<|Aa hi⟩
theorem c6.nums{k:Nat}{ds:List (List Str)}{l:List Nat}{d:List Str}(hk:k=(aC n).length - 1)(hl:l∈SB k)(s:Sum n l d):gl n d l:=by
 have ok:=sw k l hl;exact⟨ok.1,λi hi=>by have:=ok.2 i hi;omega,λz hz=>(s.sum z hz).symm⟩
theorem c6.nd(T:aj n)(hg:b7 n)(hN:(n.map (·.1)).Nodup){ds:List (List Str)}(D:c6 n ((aC n).length - 1) ds):ds.Nodup:=by
 rw [Bh,Be];intro i j hi hj dv e;obtain⟨l,hl,sl⟩:=D.at' hi;obtain⟨m,hm,sm⟩:=D.at' hj;rw [<- e] at sm;have q1:=c6.nums (ds:=ds) rfl (Ap hl) sl;have q2:=c6.nums (ds:=ds) rfl (Ap hm) sm;have el:=k66 T hg hN q1 q2.bZ q2.iG q2.sum;subst el;have a:=(Ac.mp hl);have b:=(Ac.mp hm);exact Be.mp (Bh.mp<|DZ _) i j a.1 b.1 dv<|a.2.trans b.2.symm
theorem c6.all(T:aj n)(R:RS n)(h0:0 < n.length){ds:List (List Str)}(D:c6 n ((aC n).length - 1) ds){ss:List Str}(h:kP n ss):ss∈ds:=by
 obtain⟨l,hl,nb⟩:=q3r T R h0 h;obtain⟨i,hi⟩:=Bo hl;have hd:i < ds.length:=by rw [D.len,<- vV];exact(Ac.mp hi).1
 have s:=D.sum i l _ hi<|Aa hd;have s2:Sum n l ss:=⟨h.bZ,h.mem,λz hz=>(nb.sum z hz).symm⟩;rw [s2.uniq s λz _=>rfl];exact Bn hd
def allB:Nat->List (List Bool)
 | 0=>[[]]
 | k+1=>(allB k).map (true :: ·)++(allB k).map (false :: ·)
theorem NX:∀ k,(allB k).length=2 ^ k
 | 0=>rfl
 | k+1=>by rw [allB,Ag,Ab,Ab,NX k,Ge];omega
theorem D0:∀(l:List Bool),l∈allB l.length
 | []=>Fb _
 | true :: l=>Ax _<|Aj.mpr ⟨l,D0 l,rfl⟩
 | false :: l=>Ao _<|Aj.mpr ⟨l,D0 l,rfl⟩
theorem j7z(T:aj n)(R:RS n)(he:ends n≠[]){ds:List (List Str)}(nd:ds.Nodup)(hd:∀ d∈ds,kP n d):ds.length<=2 ^ (g5 n).length:=by
 have ex:∀ d:List Str,∃ χ:End->Bool,d∈ds->aT n (λz=>d.contains z) χ:=λd=>by
  by_cases h:d∈ds
  ·obtain⟨χ,hχ⟩:=R _<|La (hd d h).even;exact⟨χ,λ_=>hχ⟩
  ·exact⟨λ_=>false,λk=>absurd k h⟩
 have g5:=KL T he;have g:∀ d,(((Nt.g5 n).map λw=>(Classical.choose<|ex d)<|w[0]?.getD (0,0))).length=(Nt.g5 n).length:=λd=>Ab _;have key:(ds.map λd=>(Nt.g5 n).map λw=>(Classical.choose<|ex d)<|w[0]?.getD (0,0)).Nodup:=vN nd λa ha b hb e=>by
  have fa:=MJ (ex a) ha;have fb:=MJ (ex b) hb;generalize Classical.choose (ex a)=χ at fa e;generalize Classical.choose (ex b)=ψ at fb e;have same:∀ x∈ends n,χ x=ψ x:=λx hx=>by
   have good:=KI T he
   rcases good.cov x hx with q | ⟨w,hw,q⟩
   ·cases q
   ·have e1:=List.map_inj_left.mp e w hw;obtain⟨y,hy,rfl,jP,_⟩:=good.face w hw;obtain⟨_,p⟩:=qR T jP;obtain⟨k,rfl⟩:=uW p q;have st:∀ k,χ (it (step n) k y)=χ y/\ψ (it (step n) k y)=ψ y/\it (step n) k y∈ends n:=λk=>by
     induction k with
     | zero=>exact⟨rfl,rfl,jP⟩
     | succ k ih=>
      have m:=gB (λa ha=>jI T ha) jP k;exact⟨(fa.go _ m).trans ih.1,(fb.go _ m).trans ih.2.1,jI T m⟩
    have pv:(face n y)[0]?.getD (0,0)=y:=by
     cases h:face n y with
     | nil=>rw [h] at q;cases q
     | cons c r=>
      rw [h] at p;exact p.1.symm ▸ rfl
    rw [pv] at e1;rw [(st k).1,(st k).2.1];exact e1
  refine qU (hd a ha).bZ (hd b hb).bZ λz=>?_
  by_cases hz:z∈ag n
  ·obtain⟨e,g9⟩:∃ e,aF n e=some z:=by
    have:z∈(bh n).map (·.1):=by rw [show(bh n).map (·.1)=ag n from jH n 0];exact hz
    obtain⟨x,hx,rfl⟩:=Aj.mp this;exact⟨x.2,aN.mp hx⟩
   have o:=cf T g9;have t1:=fa.cE e z g9;have t2:=fb.cE e z g9;rw [same e<|af.mpr ⟨z,g9⟩,same _<|af.mpr ⟨z,o.1⟩,<- t2] at t1;have t3:a.contains z=b.contains z:=t1;rw [<- Cb,<- Cb,t3]
  ·exact⟨λh=>absurd ((hd a ha).mem z h) hz,λh=>absurd ((hd b hb).mem z h) hz⟩
 have:=aU key (b:=allB (Nt.g5 n).length) λz hz=>by
  obtain⟨d,_,rfl⟩:=Aj.mp hz;have:=D0<|(Nt.g5 n).map λw=>(Classical.choose<|ex d)<|w[0]?.getD (0,0);rw [g d] at this;exact this
 rw [Ab,NX] at this;exact this
theorem NY:∀(k:Nat) (p:Nat->Bool),∃ s,s < 2 ^ k/\∀ i,i < k->s.testBit i=p i
 | 0,_=>⟨0,by decide,λi h=>by omega⟩
 | k+1,p=>by
  obtain⟨s,h1,h2⟩:=NY k λi=>p<|i+1;refine⟨2 * s+(p 0).toNat,?_,λi hi=>?_⟩
  ·rw [Ge];have:(p 0).toNat<=1:=by cases p 0 <;> decide
   omega
  ·cases i with
   | zero=>rw [RB];cases p 0 <;> simp [Bool.toNat] <;> omega
   | succ i=>
    rw [RD];have:(2 * s+(p 0).toNat) / 2=s:=by cases p 0 <;> simp [Bool.toNat] <;> omega
    rw [this];exact h2 i<|by omega
theorem k9d{k s t:Nat}(hs:s < 2 ^ k)(ht:t < 2 ^ k)(h:∀ i,i < k->s.testBit i=t.testBit i):s=t:=Nat.eq_of_testBit_eq λi=>by
 by_cases c:i < k
 ·exact h i c
 ·have:2 ^ k<=2 ^ i:=Dy (by decide) (by omega);rw [SJ<|Bc hs this,SJ<|Bc ht this]
structure bM(n:Net)(s:Nat)(ss:List Str):Prop where
 bZ:cO ss
 mem:∀ z,z∈ss↔∃ e,aF n e=some z/\(2 * s).testBit e.1≠(2 * s).testBit (other n e).1
def sy(n:Net)(s:Nat):List Str:=((List.range n.length).filter λi=>(2 * s).testBit i).map<|aJ n
theorem nY(hN:(n.map (·.1)).Nodup){s i:Nat}(hi:i < n.length):aJ n i∈sy n s↔(2 * s).testBit i=true:=by
 unfold sy;rw [Aj]
 constructor
 ·rintro ⟨j,hj,e⟩;have:=Bf.mp hj;rw [zU hN (Bm.mp this.1) hi e] at this;exact this.2
 ·exact λh=>⟨i,Bf.mpr ⟨Bm.mpr hi,h⟩,rfl⟩
theorem bM.is(T:aj n)(hN:(n.map (·.1)).Nodup){s:Nat}{ss:List Str}(h:bM n s ss)(z:Str):z∈ss↔eX n (sy n s) z:=by
 rw [h.mem z]
 constructor
 ·rintro ⟨e,he,hb⟩;rw [iy T he,bne_iff_ne];have a:=nY hN (s:=s)<|b6 he;have b:=nY hN (s:=s)<|b6 (cf T he).1;intro q;have q2:=decide_eq_decide.mp q;rw [a,b] at q2;apply hb;rw [Cw];exact q2
 ·rintro ⟨e,he,h1,h2⟩;rw [nY hN<|b6 he] at h1;rw [nY hN<|b6 (cf T he).1] at h2;exact⟨e,he,λq=>h2<|by rw [<- q];exact h1⟩
theorem bM.D1(T:aj n)(hN:(n.map (·.1)).Nodup){s:Nat}{ss:List Str}(h:bM n s ss):dB n ss:=⟨h.bZ,_,h.is T hN⟩
theorem bM.side(T:aj n)(hN:(n.map (·.1)).Nodup)(h0:0 < n.length){s:Nat}{ss:List Str}(h:bM n s ss):∃ sd,bX n ss sd/\∀ x,x∈sd↔x∈sy n s:=by
 obtain⟨sd,h1,h2⟩:=o6<|sy n s;refine⟨sd,⟨h1,λx hx=>?_,λhx=>?_,λz=>?_⟩,h2⟩
 ·obtain⟨i,hi,rfl⟩:=Aj.mp<|(h2 x).mp hx;exact iz<|Bm.mp (Bf.mp hi).1
 ·have:=(nY hN h0).mp<|(h2 _).mp hx;rw [RB] at this;simp at this
 ·rw [h.is T hN z];unfold eX;simp only [h2]
theorem bM.inj(T:aj n)(hg:b7 n)(hN:(n.map (·.1)).Nodup)(h0:0 < n.length){s t:Nat}{ss:List Str}(hs:bM n s ss)(ht:bM n t ss)(ls:s < 2 ^ (n.length - 1))(lt:t < 2 ^ (n.length - 1)):s=t:=by
 obtain⟨a,a1,a2⟩:=hs.side T hN h0;obtain⟨b,b1,b2⟩:=ht.side T hN h0;have e:=Xe T hg h0 zT a1 b1;subst e;refine k9d ls lt λi hi=>?_;have x:=nY hN (s:=s) (i:=i+1) (by omega);have y:=nY hN (s:=t) (i:=i+1) (by omega);rw [<- a2] at x;rw [<- b2] at y;have d:∀ u:Nat,2 * u / 2=u:=λu=>by omega
 rw [RD,d] at x y;rw [Cw,<- x,<- y]
theorem bM.all(T:aj n)(hN:(n.map (·.1)).Nodup)(h0:0 < n.length){ss:List Str}(h:dB n ss):∃ s,s < 2 ^ (n.length - 1)/\bM n s ss:=by
 obtain⟨sd,hs⟩:=K' T h0 h;obtain⟨s,l,hb⟩:=NY (n.length - 1) λi=>decide (aJ n (i+1)∈sd);refine⟨s,l,h.bZ,λz=>?_⟩;have bit:∀ i,i < n.length->(2 * s).testBit i=decide (aJ n i∈sd):=λi hi=>by
  cases i with
  | zero=>
   rw [RB,BR (show aJ n 0∉sd from hs.fst)];simp
  | succ i=>
   have d:2 * s / 2=s:=by omega
   rw [RD,d];exact hb i<|by omega
 rw [hs.cut z]
 constructor
 ·rintro ⟨e,he,h1,h2⟩;refine⟨e,he,?_⟩;rw [bit _<|b6 he,bit _<|b6 (cf T he).1,BW h1,BR h2];decide
 ·rintro ⟨e,he,bu⟩;rw [iy T he,bne_iff_ne,<- bit _<|b6 he,<- bit _<|b6 (cf T he).1];exact bu
structure b8(n:Net)(t:Nat)(ds:List<|List Str):Prop where
 nd:ds.Nodup
 len:ds.length<=t
 dbl:∀ d∈ds,kP n d/\∃ s,s < t/\bM n s d
 all:∀ s,s < t->∀ d,bM n s d->cF n d=true->d∈ds
theorem b8.nil:b8 n 0 []:=⟨Cj,Am _,λd h=>(by cases h),λs h=>(by omega)⟩
theorem bM.uniq{s:Nat}{a b:List Str}(ha:bM n s a)(hb:bM n s b):a=b:=qU ha.bZ hb.bZ λz=>(ha.mem z).trans (hb.mem z).symm
theorem b8.no{t:Nat}{ds:List (List Str)}(D:b8 n t ds){c:List Str}(hc:bM n t c)(he:cF n c=false):b8 n (t+1) ds:=by
 refine⟨D.nd,Gg D.len,λd h=>⟨(D.dbl d h).1,?_⟩,λs hs d hd ed=>?_⟩
 ·obtain⟨s,hs,q⟩:=(D.dbl d h).2;exact⟨s,Bp hs,q⟩
 ·rcases Ex.mp hs with hs | rfl
  ·exact D.all s hs d hd ed
  ·rw [hc.uniq hd] at he;rw [he] at ed;cases ed
theorem b8.yes(T:aj n)(hg:b7 n)(hN:(n.map (·.1)).Nodup)(h0:0 < n.length){t:Nat}{ds:List (List Str)}(D:b8 n t ds)(ht:t < 2 ^ (n.length - 1)){c:List Str}(hc:bM n t c)(he:cF n c=true):b8 n (t+1) (ds++[c]):=by
 refine⟨?_,by rw [Ag];exact QK D.len,λd h=>?_,λs hs d hd ed=>?_⟩
 ·rw [Bv];refine⟨D.nd,by simp,λa ha b hb e=>?_⟩;rw [Ah.mp hb] at e;subst e;obtain⟨s,hs,q⟩:=(D.dbl a ha).2;have:=q.inj T hg hN h0 hc (by omega) ht;omega
 ·rcases An.mp h with h | h
  ·obtain⟨s,hs,q⟩:=(D.dbl d h).2;exact⟨(D.dbl d h).1,s,Bp hs,q⟩
  ·rw [Ah.mp h];exact⟨⟨hc.bZ,he,hc.D1 T hN⟩,t,Fq _,hc⟩
 ·rcases Ex.mp hs with hs | rfl
  ·exact Ax _<|D.all s hs d hd ed
  ·rw [hc.uniq hd];exact Ao _<|Fb _
theorem b8.whole(T:aj n)(hN:(n.map (·.1)).Nodup)(h0:0 < n.length){ds:List (List Str)}(D:b8 n (2 ^ (n.length - 1)) ds){ss:List Str}(h:kP n ss):ss∈ds:=by
 obtain⟨s,l,c⟩:=bM.all T hN h0 h.cut;exact D.all s l ss c h.even
theorem b8.few(T:aj n)(hf:HF n)(F:Full n)(ht:(ag n).length<=20){ds:List (List Str)}(D:b8 n (2 ^ (n.length - 1)) ds):ds.length<=32:=by
 by_cases c:n.length<=6
 ·have:2 ^ (n.length - 1)<=2 ^ 5:=Dy (by decide) (by omega);have:=D.len;omega
 ·have eu:=WG T F hf.2.1;have he:ends n≠[]:=λh=>by
   have:(ag n).length=0:=by rw [<- f7,h];rfl
   rcases F with ⟨nm,rfl⟩ | ⟨_,h2⟩
   ·simp at c
   ·have:=h2 0 (by omega);have:=gW n 0;exact h2 0 (by omega)<|Bi.mp<|by omega
  have:=j7z T hf.2.2 he D.nd λd h=>(D.dbl d h).1;have:2 ^ (g5 n).length<=2 ^ 5:=Dy (by decide) (by omega);omega
theorem N0(T:aj n)(hf:HF n)(hN:(n.map (·.1)).Nodup)(h0:0 < n.length){ds ms:List (List Str)}(D:c6 n ((aC n).length - 1) ds)(M:b8 n (2 ^ (n.length - 1)) ms):ds.Perm ms:=
 (Dm (D.nd T hf.1 hN) M.nd).mpr λd=>⟨λh=>M.whole T hN h0<|D.dbl d h,λh=>D.all T hf.2.2 h0 (M.dbl d h).1⟩
end
theorem c6.ex{n:Net}{cs:List (List Str)}(C:cR n cs)(T:aj n)(hf:HF n)(hN:(n.map (·.1)).Nodup)(h0:0 < n.length):∀ k,k<=(aC n).length - 1->∃ ds,c6 n k ds
 | 0,_=>⟨_,c6.nil⟩
 | k+1,h=>by
  obtain⟨ds,D⟩:=c6.ex C T hf hN h0 k (by omega);have hk:k+1 < cs.length:=by rw [C.len];omega
  have ch:∀ d:List Str,∃ m,cO m/\∀ z,z∈m↔(if z∈d then z∉cs[k+1] else z∈cs[k+1]):=λd=>by
   obtain⟨m,m1,m2⟩:=o6<|d.filter (λz=>decide (z∉cs[k+1]))++cs[k+1].filter λz=>decide (z∉d);refine⟨m,m1,λz=>?_⟩;rw [m2,An,Bf,Bf,CJ,CJ]
   by_cases a:z∈d <;> by_cases b:z∈cs[k+1] <;> simp [a,b]
  refine⟨_,D.step C T hf hN h0 (Aa hk) (ms:=ds.map λd=>Classical.choose<|ch d) (Ab _) λi d m h1 h2=>?_⟩;rw [Ai,h1] at h2;cases h2;exact MJ<|ch d
end Nt
namespace cQ
open PySem PySem.W PyProof.Rows PySem.SeqAt
open PySem.AutoSeq1 (wpAny_loadPart')
open PySem.MeetsSeq PySem.MeetsSeq2 PySem.MeetsSeq3
def aZ:List Str->List Str->Bool
 | [],[]=>false
 | [],_ :: _=>true
 | _ :: _,[]=>false
 | x :: xs,y :: ys=>if x=y then aZ xs ys else decide (x.cps.toList < y.cps.toList)
theorem N2:∀{a b:List Str},a≠b->aZ a b=true\/aZ b a=true
 | [],[],h=>absurd rfl h
 | [],_ :: _,_=> .inl rfl
 | _ :: _,[],_=> .inr rfl
 | x :: xs,y :: ys,h=>by
  show(if x=y then aZ xs ys else decide (x.cps.toList < y.cps.toList))=true\/(if y=x then aZ ys xs else decide (y.cps.toList < x.cps.toList))=true
  by_cases e:x=y
  ·rw [BP e,BP e.symm];exact N2 λq=>h<|by rw [e,q]
  ·rw [BL e,BL λq=>e q.symm,CJ,CJ]
   by_cases c:x.cps.toList < y.cps.toList
   ·exact .inl c
   ·refine .inr<|DN λd=>e<|Zn<|List.le_antisymm (List.not_lt.mp d)<|List.not_lt.mp c
theorem D4:∀{a b:List Str},aZ a b=true->aZ b a=false
 | [],[],_=>rfl
 | [],_ :: _,_=>rfl
 | _ :: _,[],h=>by cases h
 | x :: xs,y :: ys,h=>by
  show(if y=x then aZ ys xs else decide (y.cps.toList < x.cps.toList))=false;have h2:(if x=y then aZ xs ys else decide (x.cps.toList < y.cps.toList))=true:=h
  by_cases e:x=y
  ·rw [BP e] at h2;rw [BP e.symm];exact D4 h2
  ·rw [BL e] at h2;rw [BL λq=>e q.symm];exact BR λq=>Gk _<|Gr (BX h2) q
theorem N3:∀{a b c:List Str},aZ a b=true->aZ b c=true->aZ a c=true
 | [],[],_,h,_=>by cases h
 | [],_ :: _,[],_,h=>by cases h
 | [],_ :: _,_ :: _,_,_=>rfl
 | _ :: _,[],_,h,_=>by cases h
 | _ :: _,_ :: _,[],_,h=>by cases h
 | x :: xs,y :: ys,z :: zs,h,k=>by
  have h2:(if x=y then aZ xs ys else decide (x.cps.toList < y.cps.toList))=true:=h;have k2:(if y=z then aZ ys zs else decide (y.cps.toList < z.cps.toList))=true:=k;show(if x=z then aZ xs zs else decide (x.cps.toList < z.cps.toList))=true
  by_cases e:x=y
  ·rw [BP e] at h2
   by_cases d:y=z
   ·rw [BP d] at k2;rw [BP<|e.trans d];exact N3 h2 k2
   ·rw [BL d] at k2;rw [e,BL d];exact k2
  ·rw [BL e] at h2;have l1:=BX h2
   by_cases d:y=z
   ·rw [<- d,BL e];exact h2
   ·rw [BL d] at k2;have l2:=Gr l1<|BX k2;rw [BL λq=>Gk _<|by rw [q] at l2;exact l2];exact BW l2
def SX(xs:Array Value)(zs:List Str):Prop:=xs.size=zs.length/\∀(i:Nat) (h:i < xs.size) (k:i < zs.length),∃ t,xs[i]=Value.str zs[i] t
theorem k5z(l b:Addr)(items bg:Array Value)(n n2:Nat)(dd pE:Option Addr)(sl pF:Array<|Option Value)(zs us:List Str)(hz:SX items zs)(hu:SX bg us)(k:Nat) :
  ∀ i:Nat,items.size - i=k->i<=items.size->i<=bg.size->Meets (Builtin.«list.__eq__.loop» ⟨[.ref l,.ref b,rawInt i,rawInt 0],[]⟩)
   (λ_ R s => s.heap.get? l = some { cls := .type "list", dict := dd, data := .seq items n, slots := sl } ∧ s.heap.get? b = some { cls := .type "list", dict := pE, data := .seq bg n2, slots := pF } ∧
    R (.ok<|.ret<|.bool<|aZ (zs.drop i)<|us.drop i) s):=by
 have z1:=hz.1;have z2:=hu.1
 induction k with
 | zero=>
  intro i hk g1 g2 prog w A R s h;obtain⟨hp,g,d,tk,os⟩:=s;obtain⟨hl,hb,h⟩:=h
  wp_walk using DX hl,DX hb
  have vX:items[((i:Nat):Int).toNat]?=none:=by simp;omega
  have hd:zs.drop i=[]:=by simp;omega
  rw [hd] at h;rw [vX];have e:aZ [] (us.drop i)=decide (items.size < bg.size):=by
   cases q:us.drop i with
   | nil=>
    have:us.length<=i:=by simpa using q
    exact(BR<|by omega).symm
   | cons x y=>
    have:i < us.length:=by
     refine DN λc=>?_;rw [Ef<|by omega] at q;cases q
    exact(BW<|by omega).symm
  rw [e] at h
  wp_walk using DX hl,DX hb
  exact h
 | succ k ih=>
  intro i hk g1 g2 prog w A R s h;obtain⟨hp,g,d,tk,os⟩:=s;obtain⟨hl,hb,h⟩:=h
  wp_walk using DX hl,DX hb
  have aS:i < items.size:=by omega
  have vX:items[((i:Nat):Int).toNat]?=some items[i]:=by simp [aS]
  have sC:i < zs.length:=by omega
  obtain⟨t,ht⟩:=hz.2 i aS sC;rw [El sC] at h;rw [vX]
  by_cases c:i < bg.size
  ·have lr:bg[((i:Nat):Int).toNat]?=some bg[i]:=by simp [c]
   have lT:i < us.length:=by omega
   obtain⟨u,N4⟩:=hu.2 i c lT;have hc:((i:Int)+1)=((i+1:Nat):Int):=by push_cast;rfl
   rw [El lT] at h;rw [lr,ht,N4];have h2:R (.ok<|.ret<|.bool (if zs[i]=us[i] then aZ (zs.drop<|i+1) (us.drop<|i+1) else decide (zs[i].cps.toList < us[i].cps.toList))) ⟨hp,g,d,tk,os⟩:=h;refine BJ<|EqAt.str_str (A:=A.in1) zs[i] t us[i] u prog w _ _ ?_;cases jb:(zs[i] == us[i]) with
   | true=>
    rw [BP<|beq_iff_eq.mp jb] at h2
    wp_walk
    rw [hc];exact⟨GK plain_eq_loop _,DW entry_eq_loop<|by
     rw [DP plain_eq_loop _];exact ih (i+1) (by omega) (by omega) (by omega) prog w A R _ ⟨hl,hb,h2⟩⟩
   | false=>
    rw [BL<|beq_eq_false_iff_ne.mp jb] at h2
    wp_walk using DX hl,DX hb
    rw [vX,lr,ht,N4];refine BJ (show wpAny (model prog w) A.in1 (compareOp .Lt (.str zs[i] t)<|.str us[i] u) _ _ _ from lt_str ?_)
    wp_walk
    exact h2
  ·have lr:bg[((i:Nat):Int).toNat]?=none:=by simp;omega
   have hd:us.drop i=[]:=by simp;omega
   rw [hd] at h;rw [lr];have e:aZ (zs[i] :: zs.drop (i+1)) []=decide (items.size < bg.size):=(BR<|by omega).symm;rw [e] at h
   wp_walk using DX hl,DX hb
   exact h
theorem k6b(l b:Addr)(items bg:Array Value)(n n2:Nat)(dd pE:Option Addr)(sl pF:Array<|Option Value)(zs us:List Str)(hz:SX items zs)(hu:SX bg us) :
  Meets (Builtin.«list.__lt__» ⟨[.ref l,.ref b],[]⟩)
   (λ_ R s => s.heap.get? l = some { cls := .type "list", dict := dd, data := .seq items n, slots := sl } ∧ s.heap.get? b = some { cls := .type "list", dict := pE, data := .seq bg n2, slots := pF } ∧
    R (.ok<|.ret<|.bool<|aZ zs us) s):=by
 intro prog w A R s h;obtain⟨hp,g,d,tk,os⟩:=s;obtain⟨hl,hb,h⟩:=h;have f3:=AutoSeq1.sub_list_list
 wp_walk using DX hl,DX hb
 exact⟨GK plain_eq_loop _,DW entry_eq_loop<|by
  rw [DP plain_eq_loop _];exact k5z l b items bg n n2 dd pE sl pF zs us hz hu _ 0 rfl (Bq _) (Bq _) prog w A R _ ⟨hl,hb,h⟩⟩
def pG(h:Heap)(v:Value)(z:List Str):Prop:=∃ a o xs n,v = .ref a/\h.get? a=some o/\o.cls = .type "list"/\o.data = .seq xs n/\SX xs z
theorem pG.keep{h h':Heap}{v:Value}{z:List Str}(x:pG h v z)(k:∀ a o,v = .ref a->h.get? a=some o->h'.get? a=some o):pG h' v z:=by
 obtain⟨a,o,xs,n,e,h1,h2⟩:=x;exact⟨a,o,xs,n,e,k a o e h1,h2⟩
def hZ(h:Heap)(vs:List Value)(zs:List<|List Str):Prop:=vs.length=zs.length/\∀(i:Nat) v z,vs[i]?=some v->zs[i]?=some z->pG h v z
def lU(zs:List<|List Str)(i j:Nat):Bool:=aZ (zs.getD i [])<|zs.getD j []
section
variable{prog:Program}{w:World}{A:Around}{E:Value->Shared->Prop}{s:Shared}
theorem q56{x y:Value}{z u:List Str}{Q:Bool->Shared->Prop}(hA:A.units < cLine)(hx:pG s.heap x z)(hy:pG s.heap y u)(h:Q (aZ z u) s):wpAny (model prog w) A (keyLt' oneType' x y) Q E s:=by
 obtain⟨a,⟨cls,dd,data,sl⟩,xs,n,rfl,h1,h2,h3,h4⟩:=hx;obtain⟨b,⟨x0a,pE,data2,pF⟩,ys,n',rfl,g1,g2,g3,g4⟩:=hy;simp only at h2 h3 g2 g3;subst h2 h3 g2 g3;rw [keyLt'_oneType,oneLt'_eq];simp only [DK];refine BJ<|wpAny_cRoomFor hA ?_;refine BJ<|wpAny_callSpecialIfBound?_slot ⟨_,h1,rfl⟩ PySem.F.slot_list_lt<|JL PySem.F.slot_list_lt ⟨_,h1,rfl⟩ PySem.F.entry_list_lt (PySem.F.args_list_lt_2 _ _) (k6b a b xs ys n n' dd pE sl pF z u h4 g4) ⟨h1,g1,?_⟩;exact FZ h
theorem k8y{vs:List Value}{zs:List (List Str)}(hA:A.units < cLine)(hh:hZ s.heap vs zs)(hn:zs.Nodup):dC (lU zs) (kas_ask prog w A oneType' vs) (λs'=>s'=s) vs.length:=by
 have hl:=hh.1;have gz:∀ i,(hi:i < zs.length)->zs.getD i []=zs[i]:=λi hi=>by simp [hi]
 have gv:∀ i,(hi:i < vs.length)->vs.getD i Value.none=vs[i]:=λi hi=>by simp [hi]
 have ne:∀ i j,(hi:i < zs.length)->(hj:j < zs.length)->i≠j->zs[i]≠zs[j]:=λi j hi hj dv e=>by
  rcases Nat.lt_or_gt_of_ne dv with c | c
  ·exact Be.mp (Bh.mp hn) i j hi hj c e
  ·exact Be.mp (Bh.mp hn) j i hj hi c e.symm
 refine⟨λi j C s' hi hj dv hs hC=>?_,λi j hi hj dv=>?_,λi j h=>D4 h,λi j k h1 h2=>N3 h1 h2⟩
 ·subst hs;unfold kas_ask;rw [gv i hi,gv j hj];have e:lU zs i j=aZ zs[i] zs[j]:=by unfold lU;rw [gz i (by omega),gz j<|by omega]
  refine q56 hA (hh.2 i _ zs[i] (Aa hi)<|Aa<|by omega) (hh.2 j _ zs[j] (Aa hj)<|Aa<|by omega) ?_;rw [<- e];exact hC s' rfl
 ·unfold lU;rw [gz i (by omega),gz j<|by omega];exact N2<|ne i j (by omega) (by omega) dv
theorem k9b{a:Addr}{vs:List Value}{zs:List (List Str)}{n:Nat}{P:PySem.Fin->Shared->Prop}(hA:A.units < cLine)(ho:s.heap.get? a=some (seqObj "list" vs.toArray n))(cg:∀ v∈vs,v ≠ .ref a)(hh:hZ s.heap vs zs)(hn:zs.Nodup)(mR:vs.length < 64)
  (h:∀ p:Array Nat,Pm p vs.length->Up (lU zs) p vs.length->P (.done<|.ret .none) {s with heap:=sortedHeap s.heap a vs (List.toArray<|p.toList.map λi=>vs.getD i Value.none)}) :
  wpAny (model prog w) A (Builtin.«list.sort» ⟨[.ref a],[]⟩) P E s:=by
 rw [list_sort_plain];have ha:a < s.heap.objs.size:=Av ho;have hsl:vs.length<=sizeLine:=by rw [FJ];omega
 refine BJ<|NQ ho rfl ?_;refine BJ<|KY ho rfl ?_;obtain⟨e1,ke⟩:∃ e1,(s.heap.update a<|Obj.mapSeq λ_=>#[]).get? a=some (seqObj "list" #[] e1):=⟨_,get?_update_seq ho λ_=>#[]⟩;refine BJ<|PL ke rfl ?_;refine BJ<|PK ?_;refine BJ<|JQ ?_;refine CK ?_;have mU:(((s.heap.update a<|Obj.mapSeq λ_=>#[]).push<|seqObj "tuple" vs.toArray 0).push<|seqObj "list" #[] 0).get? a=some (seqObj "list" #[] e1):=Af _<|Af _ ke;show wpAny (model prog w) A _ P E {s with heap:=((s.heap.update a<|Obj.mapSeq λ_=>#[]).push<|seqObj "tuple" vs.toArray 0).push (seqObj "list" #[] 0)};have N5:hZ (((s.heap.update a<|Obj.mapSeq λ_=>#[]).push<|seqObj "tuple" vs.toArray 0).push<|seqObj "list" #[] 0) vs zs:=⟨hh.1,λi v z h1 h2=>(hh.2 i v z h1 h2).keep λb o e q=>by
  have hb:a≠b:=λe2=>cg v (Ap h1) (by rw [e,e2]);exact Af _<|Af _<|(Da _ _ hb).trans q⟩
 dsimp only
 have hsz:vs.toArray.size=vs.length:=by simp
 by_cases h2:vs.toArray.size < 2
 ·rw [BP h2,BP h2];refine BJ<|BK ?_;rw [StateT.run_pure];refine BJ<|BK ?_
  dsimp only
  have e5:(arrOf<|SortSt.mk' general' (vs.toArray.zip vs.toArray) #[] 7 none).map (·.2)=vs.toArray:=by
   show(vs.toArray.zip vs.toArray).map (·.2)=_;apply Array.toList_inj.mp;simp [List.map_snd_zip]
  refine BJ<|PL mU rfl ?_;refine BJ (KY mU rfl ?_ (hsz2:=by rw [e5,hsz];omega));simp only [FT,Az,CT];refine BK ?_;rw [e5];have fin:=h (List.toArray<|List.range vs.length) (MI _) λi j hi hj=>by rw [hsz] at h2;omega
  have e6:(List.toArray<|List.range vs.length).toList.map (λi=>vs.getD i Value.none)=vs:=map_range vs;rw [e6] at fin;exact fin
 ·rw [BL h2,BL h2];rw [hsz] at h2;refine BJ<|kas_kind (T:= .type "list") (by omega) (λv hv=>?_) (by decide) (by decide) ?_
  ·obtain⟨i,hi⟩:=Bo hv;have D5:i < zs.length:=by have:=(Ac.mp hi).1;have:=hh.1;omega
   obtain⟨b,o,xs,n,rfl,q1,q2,_⟩:=N5.2 i v zs[i] hi<|Aa D5;have lk:Looks (model prog w) (((s.heap.update a<|Obj.mapSeq λ_=>#[]).push<|seqObj "tuple" vs.toArray 0).push<|seqObj "list" #[] 0) (typeOf<|.ref b) o.cls:=(Looks.ld q1).andThen .now;rw [q2] at lk;exact lk
  refine BJ<|CV (kat_run (prog:=prog) (w:=w) (A:=A) (E:=E) (κ:=oneType') (ks:=vs) (vs:=vs) (Q:=λdb s'=>s'={s with heap:=((s.heap.update a<|Obj.mapSeq λ_=>#[]).push<|seqObj "tuple" vs.toArray 0).push (seqObj "list" #[] 0)}/\∃ p:Array Nat,Pm p vs.length/\Up (lU zs) p vs.length/\arrOf db=p.map (kas_item<|vs.toArray.zip vs.toArray)/\failedOf db=none)
   (G:=λp s'=>s'={s with heap:=((s.heap.update a<|Obj.mapSeq λ_=>#[]).push<|seqObj "tuple" vs.toArray 0).push (seqObj "list" #[] 0)}/\Pm p vs.length/\Up (lU zs) p vs.length) rfl (by omega) mR (λp db s' _ a2 a3 a4=>⟨a4.1,p,a4.2.1,a4.2.2,a2,a3⟩)
   (Zk (k8y (s:={s with heap:=((s.heap.update a<|Obj.mapSeq λ_=>#[]).push<|seqObj "tuple" vs.toArray 0).push (seqObj "list" #[] 0)}) hA N5 hn) (by omega) rfl λp s' e P U=>⟨e,P,U⟩)) ?_ λ_ _ e=>e
  rintro ⟨⟨⟩,db⟩ s' ⟨rfl,p,P,U,tZ,hf⟩
  dsimp only
  have e3:=kat_snds (ks:=vs) (vs:=vs) rfl tZ;refine BJ<|PL mU rfl ?_;refine BJ (KY mU rfl ?_ (hsz2:=by rw [e3,Aw,Ab,Bs,P.size];omega));rw [hf];simp only [FT,Az,CT];refine BK ?_;rw [e3];exact h p P U
theorem q15{l:Addr}{vs:List Value}{zs:List (List Str)}{Q:Value->Shared->Prop}(hA:A.units+8 < cLine)(hl:s.heap.IsList l vs.toArray)(hh:hZ s.heap vs zs)(hn:zs.Nodup)(mR:vs.length < 64)
  (h:∀(h':Heap) (e:Nat) (p:Array Nat),Pm p vs.length->Up (lU zs) p vs.length->(∀ b u,s.heap.get? b=some u->h'.get? b=some u)->h'.get? (s.heap.objs.size+1)=some (seqObj "list" (List.toArray<|p.toList.map λi=>vs.getD i Value.none) e)->Q (.ref<|s.heap.objs.size+1) {s with heap:=h'}) :
  wpAny (model prog w) A (call (.builtin "sorted") [.ref l]) Q E s:=by
 have hsl:vs.length<=sizeLine:=by rw [FJ];omega
 refine Calls.call_function_entry kind_sorted plain_sorted entry_sorted (args_sorted1 _) ?_;unfold Builtin.«sorted»;refine BJ (m:=checkCount "sorted" 1 1 _)<|BK ?_;refine BJ<|collect_list (vs:=vs) hl ?_;refine BJ<|JQ ?_;have hsz:((s.heap.push<|seqObj "list" #[] 0).update s.heap.objs.size (Obj.mapSeq (·++vs.toArray))).objs.size=s.heap.objs.size+1:=by
  rw [Heap.size_update,size_push']
 have iI:(((s.heap.push<|seqObj "list" #[] 0).update s.heap.objs.size (Obj.mapSeq (·++vs.toArray))).push<|seqObj "list" vs.toArray 0).get? (s.heap.objs.size+1)=some (seqObj "list" vs.toArray 0):=by
  rw [<- hsz];exact As _ rfl
 have hhL:hZ (((s.heap.push<|seqObj "list" #[] 0).update s.heap.objs.size (Obj.mapSeq (·++vs.toArray))).push<|seqObj "list" vs.toArray 0) vs zs:=⟨hh.1,λi v z h1 h2=>(hh.2 i v z h1 h2).keep λb o e q=>
  Af _ ((Da _ _<|Cr<|Av q).trans<|Af _ q)⟩
 have bu:∀ v∈vs,v ≠ .ref (s.heap.objs.size+1):=λv hv e=>by
  obtain⟨i,hi⟩:=Bo hv;have hl:=hh.1;have D5:i < zs.length:=by have:=(Ac.mp hi).1;omega
  obtain⟨b,o,xs,n,e2,h1,_⟩:=hh.2 i v zs[i] hi<|Aa D5;rw [e2] at e;cases e;exact absurd (Nat.lt_of_succ_lt<|Av h1)<|Dl _
 show wpAny _ _ _ _ _ {s with heap:=((s.heap.push<|seqObj "list" #[] 0).update s.heap.objs.size (Obj.mapSeq (·++vs.toArray))).push (seqObj "list" vs.toArray 0)};rw [hsz];refine BJ (CK<|CZ slot_list_sort ⟨_,iI,rfl⟩ entry_list_sort (k9b (by show A.units+1+1 < cLine;omega) iI bu hhL hn mR λp P U=>⟨_,rfl,?_⟩)<|args_list_sort _);obtain⟨e,he⟩:=sortedAll_at s.heap vs<|List.toArray<|p.toList.map λi=>vs.getD i Value.none;exact BK ⟨_,rfl,h _ e p P U (λb u hb=>sortedAll_old hb) he⟩
end
end cQ
namespace L2
open PySem PySem.Spec PyProof.Rows cQ
theorem q37:∀{zs:List Str} {its:List Value},av (zs.map V.str) its->SX its.toArray zs:=λ{zs its} r=>by
 have hl:its.length=zs.length:=by have:=r.length;rw [Ab] at this;exact this.symm
 refine⟨by rw [Aw];exact hl,λi h k=>?_⟩;have:∀{zs:List Str} {its:List Value},av (zs.map V.str) its->∀(i:Nat) (h:i < its.length) (k:i < zs.length),∃ t,its[i]=Value.str zs[i] t:=by
  intro zs
  induction zs with
  | nil=>intro its r i h k;exact absurd k<|Em _
  | cons z zs ih=>
   intro its r i h k;cases r with
   | cons a b=>
    obtain⟨t,rfl⟩:=a;cases i with
    | zero=>exact⟨t,rfl⟩
    | succ i=>exact ih b i (Gf h)<|Gf k
 simpa using this r i (by simpa using h) k
theorem q3i{a b:List (List Str)}(ha:a.Pairwise λx y=>aZ x y=true)(hb:b.Pairwise λx y=>aZ x y=true)(h:a.Perm b):a=b:=
 QZ (le:=λx y=>aZ x y=true) (λx y _ _ h1 h2=>by rw [D4 h1] at h2;cases h2) ha hb h
section
variable{X:Cx}{σ:St}{H:Hp}
theorem N6(hu:X.A.units+8 < cLine):fJ X (.builtin "sorted") (λxs H Q=>∃(l:Addr) (ts:List Addr) (zs:List<|List Str),xs=[.ref l]/\al X.K H l (ts.map V.ref)/\ts.length=zs.length/\zs.Nodup/\ts.length < 64/\(∀(i:Nat) t z,ts[i]?=some t->zs[i]?=some z->H t=some (.lst<|z.map V.str)) /\
  ∀(r:Addr) (ps:List<|Addr×List Str),H r=none->ps.Perm (ts.zip zs)->ps.Pairwise (λa b=>aZ a.2 b.2=true)->Q (.ref r) (upd H r<|.lst<|ps.map λp=> .ref p.1)):=by
 intro pins s σ H xs us Q I r h;obtain⟨l,ts,zs,rfl,hl,hlen,hn,mR,hd,q⟩:=h;obtain⟨u,rfl,ru⟩:=vals1 r;cases (show u=Value.ref l from ru);obtain⟨its,rv,pl,_⟩:=I.list hl;have ei:=MS rv;subst ei;have hh:hZ s.heap (ts.map Value.ref) zs:=by
  refine⟨by rw [Ab];exact hlen,λi v z h1 h2=>?_⟩;rw [Ai,Ba] at h1;obtain⟨t,ht,rfl⟩:=h1;obtain⟨its,r3,tp,_⟩:=I.list<|al.of<|hd i t z ht h2;obtain⟨o,ho,hc,n,hd2⟩:=tp.isList;exact⟨t,o,_,n,rfl,ho,hc,hd2,q37 r3⟩
 refine q15 hu pl.isList hh hn (by rw [Ab];exact mR) λh' e p P U kp he=>?_;rw [Ab] at P U;have pl2:p.toList.length=ts.length:=by rw [Bs];exact P.size
 have e1:(p.toList.map λi=>(ts.map Value.ref).getD i Value.none)=((p.toList.map λi=>(ts.getD i 0,zs.getD i [])).map λx=>x.1).map Value.ref:=by
  rw [Ck,Ck];refine Bu λi hi=>?_;have aS:=CO P hi;show(ts.map Value.ref).getD i Value.none=Value.ref (ts.getD i 0);simp [aS]
 refine⟨.ref _,_,I.dX (s':={s with heap:=h'}) kp rfl rfl (Ep _) (show az X.prog X.w _ h' _ (.lst<|(p.toList.map λi=>(ts.getD i 0,zs.getD i [])).map λx=>V.ref x.1) from ?_),rfl,q _ (p.toList.map λi=>(ts.getD i 0,zs.getD i [])) (I.aE.fresh<|Ep _) ?_ ?_⟩
 ·refine⟨by rw [Ab,Ab,pl2,FJ];omega,_,e,?_,he⟩;rw [e1];have:=MT<|(p.toList.map λi=>(ts.getD i 0,zs.getD i ([]:List Str))).map λx=>x.1;rw [Ck] at this;exact this
 ·rw [<- Zo ts zs hlen 0 []];exact(Zm P).map _
 ·rw [Be];intro i j hi hj dv;rw [Ab] at hi hj;have:=U i j dv (by omega);have q1:g p i=p.toList[i]:=hU (by rw [<- Ca];exact Aa hi);have q2:g p j=p.toList[j]:=hU (by rw [<- Ca];exact Aa hj);rw [q1,q2] at this;rw [Dj,Dj];exact this
end
end L2
namespace D3
open PySem L2 Nt bH bx
open PyProof.Rows (sortedS)
open cQ (aZ)
open Classical
def D6:Sp:=λvs H Q _=>∃(R:Addr) (as:List<|Addr×Addr) (n:Net),vs=[.ref R]/\ai H R as n/\(n.map (·.1)).Nodup/\aj n/\HF n/\0 < n.length/\n.length<=60/\(ag n).length<=32/\(∀ ds,c6 n ((aC n).length - 1) ds->ds.length<=32) /\
 ∀(L:Addr) (us:List Addr) (ds d0:List<|List Str) (H':Hp),ak H H'->H L=none->cZ H' L us ds->(∀ u∈us,H u=none/\u≠L)->c6 n ((aC n).length - 1) d0->ds.Perm d0->ds.Pairwise (λa b=>aZ a b=true)->Q (.ref L) H'
structure kQ(H0 H:Hp)(D:Addr)(us:List Addr)(cs:List<|List Str)(i:Nat):Prop where
 lst:H D=some (.lst<|us.map V.ref)
 lu:us.length=i
 lc:cs.length=i
 at':∀(j:Nat) u c,us[j]?=some u->cs[j]?=some c->H u=some (Ls c)/\u≠D
 fr:∀ u∈us,H0 u=none
theorem D7{α:Type}{l:List α}{a b:α}{j:Nat}(h:¬ j < l.length)(e:(l++[a])[j]?=some b):j=l.length/\a=b:=by
 rw [Ay<|by omega] at e;have hj:j - l.length=0:=by have:=(Ac.mp e).1;simp at this;omega
 rw [hj] at e;exact⟨by omega,by cases e;rfl⟩
theorem kQ.step{H0 H H2:Hp}{D k:Addr}{us:List Addr}{cs:List (List Str)}{i:Nat}{ks:List Str}(I:kQ H0 H D us cs i)(s2:ak H H2)(nk:H k=none)(n0:H0 k=none)(e2:H2 k=some (Ls ks)):kQ H0 (upd H2 D<|.lst<|us.map V.ref++[.ref k]) D (us++[k]) (cs++[ks]) (i+1):=by
 have lu:=I.lu;have lc:=I.lc;have sr:k≠D:=λe=>by rw [e,I.lst] at nk;cases nk
 refine⟨by rw [aD,Al];rfl,by rw [Ag,lu];rfl,by rw [Ag,lc];rfl,λj u c h1 h2=>?_,λu hu=>?_⟩
 ·by_cases hj:j < us.length
  ·rw [Aq hj] at h1;rw [Aq<|by omega] at h2;obtain⟨q1,q2⟩:=I.at' j u c h1 h2;exact⟨by rw [ay q2];exact s2 _ _ q1,q2⟩
  ·obtain⟨_,rfl⟩:=D7 hj h1;obtain⟨_,rfl⟩:=D7 (by omega) h2;exact⟨by rw [ay sr];exact e2,sr⟩
 ·rcases An.mp hu with h | h
  ·exact I.fr u h
  ·rw [Ah.mp h];exact n0
theorem kQ.start{H0 H:Hp}{D:Addr}(h:H D=some (.lst [])):kQ H0 H D [] [] 0:=⟨h,rfl,rfl,λj u c h=>by simp at h,λu h=>by cases h⟩
theorem q55{α β:Type}{xs:List α}{ys:List β}{x:α}{y:β}(h:(x,y)∈xs.zip ys):∃ i:Nat,xs[i]?=some x/\ys[i]?=some y:=by
 obtain⟨i,hi⟩:=Bo h;rw [List.getElem?_zip_eq_some] at hi;exact⟨i,hi⟩
theorem N7{H:Hp}{L r:Addr}{us:List Addr}{ds:List (List Str)}{ps:List (Addr×List Str)}(h:cZ H L us ds)(hr:H r=none)(hp:ps.Perm<|us.zip ds):cZ (upd H r<|.lst<|ps.map λp=> .ref p.1) r (ps.map (·.1)) (ps.map (·.2))/\(ps.map (·.2)).Perm ds/\∀ u∈ps.map (·.1),u∈us/\u≠r:=by
 have mem:∀ p∈ps,∃ i:Nat,us[i]?=some p.1/\ds[i]?=some p.2:=λp q=>q55<|hp.mem_iff.mp q;refine⟨⟨by rw [aD,Ck];rfl,by rw [Ab,Ab],λi u c h1 h2=>?_⟩,?_,λu hu=>?_⟩
 ·rw [Ai,Ba] at h1 h2;obtain⟨p,lL,rfl⟩:=h1;obtain⟨p',ii,rfl⟩:=h2;rw [lL] at ii;cases ii;obtain⟨j,j1,j2⟩:=mem p<|Ap lL;have:=h.2.2 j _ _ j1 j2;rw [ay<|bt this hr];exact this
 ·have:=hp.map (·.2);rw [List.map_snd_zip<|by rw [h.2.1];exact Am _] at this;exact this
 ·obtain⟨p,lL,rfl⟩:=Aj.mp hu;obtain⟨j,j1,j2⟩:=mem p lL;exact⟨Ap j1,bt (h.2.2 j _ _ j1 j2) hr⟩
theorem k9n(ts:List Addr)(i:Nat):dj (ts.map V.ref) (some (i:Int)) none=(ts.drop i).map V.ref:=by
 unfold dj;rw [HT.d9,HT.di,Ab];rw [Ci (by rw [Co,Ab];omega),TV]
 rcases UG i ts.length with h | h
 ·rw [RP h]
 ·rw [QV h,Ef (by simp),Ef<|by simpa using h]
section
variable{P:Program}{w:World}{K:PySem.W.Frag}{mg:Str->Option Value}{base:Heap}
abbrev N8:List Str:=["rows","cores","doubles","core"]
abbrev sD:List Str:=["rows","cores","doubles","core","double"]
theorem sE:aq N8 ["rows"] (bd uw):=⟨rfl,rfl,rfl,by decide +kernel,rfl,by decide +kernel,by decide +kernel⟩
theorem q68:sD.Nodup:=by decide +kernel
theorem q3q{f:Addr}{fd:FuncData}(F:bL K "doubles_of" "doubles_of" uw f fd)(T:Txt mg)(GC:aV P w K mg base 5 "cores_of" ["rows"] DT)(GS:aV P w K mg base 5 "summed" ["one","other"] CY) :
  aG P w K mg base bG 6 f fd ["rows"] D6:=by
 refine F.gb sE (λvs H Q E h=>?_) λb0 H vs Q E hr h=>?_
 ·obtain⟨R,as,n,rfl,_⟩:=h;rfl
 obtain⟨R,as,n,rfl,hR,hN,hT,hF,h0,hn,jO,few,q⟩:=h;have nd:=sE.nd;have D8:=Fy (Nat.add_le_add_left (by decide:8<=100) _) hr.eF;obtain⟨um,hm,rm⟩:=T.nine;show Run _ _ _ [some<|.ref R,none,none,none] H;refine aY 1 nd (bR GC hr<|ao<|ae 0<|aA ⟨R,as,n,rfl,hR,hN,hT,hn,by omega,λC cu cs H1 s1 n1 hC lg=>?_⟩);have lcs:=lg.len;have lcu:=hC.2.1;obtain⟨dx,Dx⟩:=c6.ex lg hT hF hN h0 _<|Am _;have p32:2 ^ ((aC n).length - 1)<=32:=by rw [<- Dx.len];exact few _ Dx
 have w6:(aC n).length<=6:=by
  refine DN λk=>?_;have:2 ^ 6<=2 ^ ((aC n).length - 1):=Dy (by decide) (by omega);omega
 have pw:∀ i,i<=(aC n).length - 1->2 ^ i<=32:=λi hi=>Ce (Dy (by decide) hi) p32;show Run _ _ _ [some<|.ref R,some<|.ref C,none,none] H1;refine im<|dM GH<|bQ cT T.len DQ<|ao<|ae 1<|aA ⟨C,_,rfl,.inl<|al.of hC.1,Rw hm rm ⟨_,_,rfl,rfl,_,rfl,?_⟩⟩;rw [Ab,BR<|by omega];refine cU<|bm ?_;refine aY 2 nd<|dL<|ao<|dL<|aA ⟨Z0,λd0 pv=>aA ⟨Z1,λL0 kD=>?_⟩⟩;have sa:=a8 pv<|.lst [];have sb:=a8 kD<|.lst [.ref d0];have eL:(upd (upd H1 d0<|.lst []) L0<|.lst [.ref d0]) L0=some (.lst<|[d0].map V.ref):=aD;have n0L:d0≠L0:=λe=>by rw [<- e,aD] at kD;cases kD
 have ed:(upd (upd H1 d0<|.lst []) L0<|.lst [.ref d0]) d0=some (Ls []):=by rw [ay n0L,aD];rfl
 have s2:=sa.trans sb;have f0:H d0=none:=s1.free pv;have fL:H L0=none:=s1.free<|sa.free kD;show Run _ _ _ [some<|.ref R,some<|.ref C,some<|.ref L0,none] (upd (upd H1 d0<|.lst []) L0<|.lst [.ref d0]);generalize upd (upd H1 d0<|.lst []) L0 (.lst [.ref d0])=H2 at eL ed s2;have N9:=hC.same s2;have Oa:∀{xs:List Str},cO xs->(∀ z∈xs,z∈ag n)->xs.length<=16:=λh1 h2=>by have:=ve hT (nC h1) h2;omega
 refine j6<|xL w5<|ae 1<|xN<|aB ⟨1,rfl,xM ⟨C,_,rfl,al.of N9.1,λp1 lL=>?_⟩⟩;rw [show dj (cu.map V.ref) (some 1) none=(cu.drop 1).map V.ref from k9n cu 1];have e1:(upd H2 p1<|.lst<|(cu.drop 1).map V.ref) p1=some (.lst<|(cu.drop 1).map V.ref):=aD;have pH:=a8 lL<|.lst<|(cu.drop 1).map V.ref;refine⟨p1,rfl,⟨_,al.of e1⟩,?_⟩;generalize upd H2 p1 (.lst<|(cu.drop 1).map V.ref)=H3 at e1 pH;refine j7 (xs:=(cu.drop 1).map V.ref) (λi σ H'=>∃(D:Addr) (us:List Addr) (ds:List<|List Str) (u3:Option V),ak H3 H'/\H D=none/\cZ H' D us ds/\(∀ u∈us,H u=none)/\c6 n i ds/\σ=[some<|.ref R,some<|.ref C,some<|.ref D,u3])
  ⟨L0,[d0],[[]],_,ak.refl _,fL,⟨pH _ _ eL,rfl,λi u c h1 h2=>?_⟩,λu hu=>by rw [Ah.mp hu];exact f0,c6.nil,rfl⟩ ?_ ?_ ?_
 ·cases i with
  | zero=>cases h1;cases h2;exact pH _ _ ed
  | succ i=>cases h1
 ·rintro i σ H' _ ⟨_,_,_,_,sm,_⟩;exact al.of<|sm _ _ e1
 ·rintro i x σ H4 hx ⟨D,us,ds,u3,sm,nD,hD,sG,lV,rfl⟩;rw [Ai,Ba] at hx;obtain⟨D9,nZ,rfl⟩:=hx;rw [Fz,Nat.add_comm] at nZ;have iZ:=(Ac.mp nZ).1;have iw:i+1<=(aC n).length - 1:=by omega
  have p1i:=pw (i+1) iw;rw [Ge] at p1i;have ldx:=lV.len;have ldu:=hD.2.1;have hC4:=N9.same<|pH.trans sm;obtain⟨ci,vY⟩:∃ ci,cs[i+1]?=some ci:=⟨_,Aa<|by omega⟩;have hcu:=hC4.2.2 _ _ _ nZ vY;have csr:=lg.bZ _<|Ap vY;have zD:i+1 < (aC n).length:=by omega
  have wk:=nr hT (ends n) [] (λe he=>he) _<|Bn zD;have cin:=DF wk.ends<|lg.mem _ _ _ vY<|Aa zD;have lb:=Oa csr cin;refine bE 3 nd ?_;show Run _ _ _ [some<|.ref R,some<|.ref C,some<|.ref D,some<|.ref D9] H4;have sI:=(s1.trans<|s2.trans pH).trans sm;refine aY 2 nd<|aQ Hq<|ae 2<|j9 (bd uw) N8 sD 1 (ie bK)<|ae 2 ⟨D,rfl,⟨_,al.of hD.1⟩,λM hM=>?_⟩;refine qF (xs:=us.map V.ref) (λj σ' H'=>(∃ v,σ'=[some<|.ref R,some<|.ref C,some<|.ref D,some<|.ref D9]++[v])/\ak H4 H'/\∃ vs ms,kQ H H' M vs ms j/\∀(k:Nat) d m,ds[k]?=some d->ms[k]?=some m->cO m/\∀ z,z∈m↔(if z∈d then z∉ci else z∈ci)) ⟨⟨none,rfl⟩,a8 hM _,[],[],kQ.start aD,λk d m _ h=>by simp at h⟩ ?_ ?_ ?_
  ·rintro j σ' H' _ ⟨_,sm,_⟩;exact al.of<|sm _ _ hD.1
  ·rintro j x σ' H' hx ⟨⟨v,rfl⟩,s5,vs,ms,I,sp⟩;rw [Ai,Ba] at hx;obtain⟨u,i7,rfl⟩:=hx;have oP:=(Ac.mp i7).1;obtain⟨d,hd⟩:∃ d,ds[j]?=some d:=⟨_,Aa<|by omega⟩;have dd:=lV.dbl d<|Ap hd;have la:=Oa dd.bZ dd.mem;have lu:=I.lu;have lms:=I.lc;intro cl C s₀ H₀ ex;refine bE 4 q68 ?_;intro cl C s₀ H₀ ex;refine jB<|gN ?_;intro cl C s₀ H₀ ex;refine bR GS hr (ao<|ae 4<|ao<|ae 3<|aA ⟨u,D9,d,ci,rfl,s5 _ _<|hD.2.2 j _ _ i7 hd,s5 _ _ hcu,by omega,λk ks H6 s6 n6 e6 so6 nd6 m6=>?_⟩);refine⟨_,s6 _ _ I.lst,by rw [Ab];exact cD (by omega),⟨_,rfl⟩,fZ (s5.trans s6) hM,_,_,I.step s6 n6 (sI.free<|s5.free n6) e6,λk2 d2 m2 h1 h2=>?_⟩
   by_cases hj:k2 < ms.length
   ·rw [Aq hj] at h2;exact sp k2 d2 m2 h1 h2
   ·obtain⟨ej,rfl⟩:=D7 hj h2;rw [ej,lms,hd] at h1;cases h1;exact⟨vd so6 nd6,m6⟩
  ·rintro σ' H5 ⟨_,s5,vs,ms,I,sp⟩;rw [Ab] at I;have lv:=I.lu;have lm:=I.lc;have Ob:=hD.same s5;refine⟨D,M,_,_,rfl,rfl,Ob.1,I.lst,by rw [Ab,Ab];exact small (by omega),λN Oc=>bm ?_⟩;have eN:(upd H5 N<|.lst<|us.map V.ref++vs.map V.ref) N=some (.lst<|(us++vs).map V.ref):=by rw [aD,Al]
   have s6:=a8 Oc<|.lst<|us.map V.ref++vs.map V.ref;refine⟨N,us++vs,ds++ms,_,(sm.trans s5).trans s6,sI.free<|s5.free Oc,⟨eN,by rw [Ag,Ag];omega,λk u c h1 h2=>?_⟩,λu hu=>?_,lV.step lg hT hF hN h0 vY (by omega) sp,rfl⟩
   ·by_cases hk:k < us.length
    ·rw [Aq hk] at h1;rw [Aq<|by omega] at h2;exact s6 _ _<|Ob.2.2 k u c h1 h2
    ·rw [Ay<|by omega] at h1 h2;rw [<- ldu] at h2;exact s6 _ _ (I.at' _ u c h1 h2).1
   ·rcases An.mp hu with h | h
    ·exact sG u h
    ·exact I.fr u h
 ·rintro σ H4 ⟨D,us,ds,u3,sm,nD,hD,sG,lV,rfl⟩;have el:((cu.drop 1).map V.ref).length=(aC n).length - 1:=by rw [Ab,Co];omega
  rw [el] at lV;have hl:=lV.len;have lT:=hD.2.1;have sI:=(s1.trans<|s2.trans pH).trans sm;refine b5 (bQ (N6 D8) T.sorted FP<|ao<|ae 2<|aA ⟨D,us,ds,rfl,al.of hD.1,lT,lV.nd hT hF.1 hN,by omega,hD.2.2,λr ps gA hp i4=>?_⟩);obtain⟨q1,q2,q3⟩:=N7 hD gA hp;refine q r _ _ ds _ (sI.trans<|a8 gA _) (sI.free gA) q1 (λu hu=>⟨sG u (q3 u hu).1,(q3 u hu).2⟩) lV q2 ?_;rw [Fk];exact i4
open PyProof.Rows (sortedS)
open cQ (aZ)
open Classical
structure cq(H:Hp)(d:Addr)(o:Obj)(n:Net)(ks:List Str):Prop where
 dict:∃ kvs,H d=some (.bD o<|.dK kvs)/\kvs.map (·.1)=ks.map Sum.inr/\∀ z∈ag n,∃ a ts,aK kvs (Sum.inr z)=some (.ref a)/\H a=some (.lst<|ts.map V.ref)/\Pd H ts (pos n z)
 nodup:ks.Nodup
 mem:∀ z,z∈ks↔z∈ag n
theorem cq.same{H H':Hp}{d:Addr}{o:Obj}{n:Net}{ks:List Str}(S:cq H d o n ks)(s:ak H H'):cq H' d o n ks:=by
 obtain⟨kvs,h1,h2,h3⟩:=S.dict;refine⟨⟨kvs,s _ _ h1,h2,λz hz=>?_⟩,S.nodup,S.mem⟩;obtain⟨a,ts,q1,q2,q3⟩:=h3 z hz;exact⟨a,ts,q1,s _ _ q2,q3.keep λt e h=>s _ _ h⟩
theorem q2t{n:Net}(T:aj n){z:Str}(h:z∈ag n):∃ x,aF n x=some z/\aF n (other n x)=some z/\pos n z=[x,other n x]:=by
 rw [bW] at h;obtain⟨e,he⟩:=Ek _ h;obtain⟨a,b,hp,fK,_⟩:=mV T<|aH.mp he;have ha:aF n a=some z:=aH.mp (by rw [hp];exact Ad ..);have hb:aF n b=some z:=aH.mp (by rw [hp];simp);have e:b=other n a:=by
  rcases (ix T ha).mp hb with q | q
  ·exact absurd q.symm fK
  ·exact q
 subst e;exact⟨a,ha,hb,hp⟩
theorem cq.EA{H:Hp}{d:Addr}{o:Obj}{n:Net}{ks:List Str}(T:aj n)(S:cq H d o n ks){z:Str}(hz:z∈ag n):∃ x a tx ty,aF n x=some z/\aF n (other n x)=some z/\bw H d (.str z) (some<|.ref a)/\H a=some (.lst [.ref tx,.ref ty])/\H tx=some (Tp x)/\H ty=some (Tp<|other n x):=by
 obtain⟨gm,ed,ek,ev⟩:=S.dict;obtain⟨x,sJ,rJ,hp⟩:=q2t T hz;obtain⟨a,ts,v1,v2,v3⟩:=ev z hz;rw [hp] at v3;cases v3 with
 | cons x1 v3=>
 cases v3 with
 | cons y1 v3=>
 cases v3;rename_i tx ty;exact⟨x,a,tx,ty,sJ,rJ,by rw [<- v1];exact .inl ⟨gm,Sum.inr z,.inr ⟨o,ed⟩,rfl,rfl⟩,v2,x1,y1⟩
theorem q6z{gm:List (Key×V)}{ks:List Str}(ek:gm.map (·.1)=ks.map Sum.inr){i:Nat}{pr:Key×V}(h:gm[i]?=some pr):∃ z,ks[i]?=some z/\pr.1=Sum.inr z:=by
 have e2:(gm.map (·.1))[i]?=some pr.1:=by rw [Ai,h];rfl
 rw [ek,Ai,Ba] at e2;obtain⟨z,hz,e⟩:=e2;exact⟨z,hz,e.symm⟩
theorem Od(k j:Nat):Builtin.bitAnd ((k:Int) / 2 ^ j) 1=((k / 2 ^ j % 2:Nat):Int):=by
 have e:(k:Int) / 2 ^ j=((k / 2 ^ j:Nat):Int):=by
  rw [Int.natCast_ediv,RT];rfl
 rw [e,PyProof.Rows.bitAnd_pp (Fc _)<|by decide];show(((k / 2 ^ j) &&& 1:Nat):Int)=_;rw [Nat.and_one_is_mod]
def EB:Sp:=λvs H Q _=>∃(a b:Addr) (ss:List Str),vs=[.ref a,.ref b]/\H a=some (Ls ss)/\H b=some (Ls ss)/\ss.length<=1000/\∀ H',ak H H'->Q (.bl true) H'
def EC:Sp:=λvs H Q _=>∃(d:Addr) (o:Obj) (n:Net) (ks:List Str) (s:Nat),vs=[.ref d,.int<|2 * (s:Int)]/\cq H d o n ks/\aj n/\(ag n).length<=60/\∀(l:Addr) (ss:List Str) (H':Hp),ak H H'->H l=none->H' l=some (Ls ss)->bM n s ss->Q (.ref l) H'
def ED:Sp:=λvs H Q _=>∃(R d:Addr) (as:List<|Addr×Addr) (n:Net) (ks:List Str) (H0:Hp),vs=[.ref R,.ref d]/\ak H0 H/\H0 d=none/\ai H0 R as n/\bz H d n ks/\(n.map (·.1)).Nodup/\aj n/\HF n/\Full n/\0 < n.length/\n.length<=11/\(ag n).length<=20 /\
 ∀(L:Addr) (us:List Addr) (ds d0:List<|List Str) (H':Hp),ak H0 H'->cZ H' L us ds->b8 n (2 ^ (n.length - 1)) d0->ds.Perm d0->ds.Pairwise (λa b=>aZ a b=true)->Q (.ref L) H'
theorem ju{s i j:Nat}:(2 * s / 2 ^ i % 2=2 * s / 2 ^ j % 2)↔(2 * s).testBit i=(2 * s).testBit j:=by
 rw [LC,LC,decide_eq_decide];omega
abbrev Oe:List Str:=["_law_found","_law_due_here"]
abbrev sK:List Str:=["_law_found","_law_due_here","_law_one"]
theorem sL:aq Oe ["_law_found","_law_due_here"] (bd uC):=⟨rfl,rfl,rfl,by decide +kernel,rfl,by decide +kernel,by decide +kernel⟩
theorem q8q:sK.Nodup:=by decide +kernel
theorem q0f{f:Addr}{fd:FuncData}(F:bL K "_law_is_set" "_law_is_set" uC f fd)(T:Txt mg):aG P w K mg base bG 1 f fd ["_law_found","_law_due_here"] EB:=by
 refine F.gb sL (λvs H Q E h=>?_) λb0 H vs Q E hr h=>?_
 ·obtain⟨a,b,ss,rfl,_⟩:=h;rfl
 obtain⟨a,b,ss,rfl,ha,hb,hl,q⟩:=h;have nd:=sL.nd;have un:=hr.eF;show Run _ _ _ [some<|.ref a,some<|.ref b] H;refine im<|xO<|xP<|tO<|qh<|bQ xF T.yY JH<|ao<|ae 0<|ao<|xK (.ty "list") T.i6 KQ rfl (aA ⟨_,_,_,true,rfl,.lst ha,rG K,true,rfl,cU ?_⟩);refine HU (dM (qv un)<|ae 0<|ae 1 ⟨1,true,by decide,Yr ha hb,_,rfl,cU<|bm ?_⟩);refine b5<|tN (yC un)<|j9 (bd uC) Oe sK 1 (ie bK)<|ae 0 ⟨a,rfl,⟨_,al.of ha⟩,λD hD=>?_⟩;refine uG (λ_=>false) (cD<|by omega) ha hD (λcl C s0 H0 ex v v0 H' R' h=>bE 2 q8q h) (λcl C s0 H0 ex z zs T' h=>tS<|tO<|qh<|bQ xF T.yY JH<|ao<|ae 2<|ao<|xK (.ty "str") T.y4 PyProof.Rows.boot_str rfl (aA ⟨_,_,_,true,rfl,.str _,BD K,true,rfl,h⟩)) (λcl C s0 H0 ex z H' R' h=>ae 2 h) ?_;have e:(ss.filter λ_=>false)=[]:=by simp
 rw [e];refine dL<|aA ⟨Z0,λp hp=>?_⟩;have s1:=a8 hD<|.lst<|([]:List Str).map V.str;have s2:=a8 hp<|.lst [];exact⟨1,true,by decide,Ma (zs:=[]) (s2 _ _ aD) aD,q _<|s1.trans s2⟩
abbrev NCu:List Str:=["_law_seats_here","_law_sides","_law_cut_here","_law_tie","_law_one","_law_other_here"]
theorem sM:aq NCu ["_law_seats_here","_law_sides"] (bd yW):=⟨rfl,rfl,rfl,by decide +kernel,rfl,by decide +kernel,by decide +kernel⟩
theorem q4h{f:Addr}{fd:FuncData}(F:bL K "_law_cut" "_law_cut" yW f fd)(T:Txt mg):aG P w K mg base bG 1 f fd ["_law_seats_here","_law_sides"] EC:=by
 refine F.gb sM (λvs H Q E h=>?_) λb0 H vs Q E hr h=>?_
 ·obtain⟨d,o,n,ks,s,rfl,_⟩:=h;rfl
 obtain⟨d,o,n,ks,s,rfl,hS,hT,jO,q⟩:=h;have nd:=sM.nd;have i7:=hr.u1;obtain⟨gm,ed,ek,ev⟩:=hS.dict;have lkS:gm.length=ks.length:=by have:=BZ List.length ek;rw [Ab,Ab] at this;exact this
 show Run _ _ _ [some<|.ref d,some<|.int<|2 * (s:Int),none,none,none,none] H;refine aY 2 nd<|dL<|aA ⟨Z0,λL hL=>?_⟩;have s0:=a8 hL<|.lst [];have e0:(upd H L<|.lst []) L=some (Ls []):=aD;show Run _ _ _ [some<|.ref d,some<|.int<|2 * (s:Int),some<|.ref L,none,none,none] (upd H L<|.lst []);generalize upd H L (.lst [])=H0 at s0 e0;refine tP (Zu bK)<|ae 0 ⟨d,o,gm,rfl,s0 _ _ ed,Zv (λi σ H'=>∃(zs:List Str) (u3 u4 u5:Option V),ak H H'/\H' L=some (Ls zs)/\zs.Sublist (ks.take i)/\(∀ z,z∈zs↔z∈ks.take i/\∃ e,aF n e=some z/\(2 * s).testBit e.1≠(2 * s).testBit (other n e).1) /\
   σ=[some<|.ref d,some<|.int<|2 * (s:Int),some<|.ref L,u3,u4,u5]) ⟨[],_,_,_,s0,e0,List.Sublist.slnil,λz=>⟨λh=>(by cases h),λh=>(by cases h.1)⟩,rfl⟩ ?_ ?_ ?_⟩
 ·rintro i σ H' _ ⟨zs,v3,v4,v5,s1,_⟩;exact s1 _ _ ed
 ·rintro i pr σ H3 hpr ⟨zs,v3,v4,v5,s3,e3,sub,hz,rfl⟩;obtain⟨t,ht,epr⟩:=q6z ek hpr;rw [epr];have htt:t∈ag n:=(hS.mem t).mp<|Ap ht;obtain⟨x,a,tx,ty,sJ,rJ,dg,ea,etx,ety⟩:=(hS.same s3).EA hT htt;have nW:ks.take (i+1)=ks.take i++[t]:=by rw [Do,ht];rfl
  have sC:zs.length<=60:=by
   have:=sub.length_le;have l2:=aU hS.nodup λz h=>(hS.mem z).mp h;rw [Br] at this;omega
  refine bE 3 nd ?_;refine aY 4 nd<|aQ F5<|aQ F4<|ae 1<|bb cw<|bb cS<|gU i7<|ae 0<|ae 3 ⟨d,.ref a,rfl,dg,aB ⟨a,_,_,.ref tx,rfl,rfl,al.of ea,rfl,aB ⟨tx,_,_,.int (x.1:Int),rfl,rfl,a7.of etx,rfl,_,(x.1:Int),rfl,rfl,Fc _,aB ⟨_,_,rfl,rfl,?_⟩⟩⟩⟩;refine aY 5 nd<|aQ F5<|aQ F4<|ae 1<|bb cw<|bb cS<|gU i7<|ae 0<|ae 3 ⟨d,.ref a,rfl,dg,aB ⟨a,_,_,.ref ty,rfl,rfl,al.of ea,rfl,aB ⟨ty,_,_,.int ((other n x).1:Int),rfl,rfl,a7.of ety,rfl,_,((other n x).1:Int),rfl,rfl,Fc _,aB ⟨_,_,rfl,rfl,?_⟩⟩⟩⟩;show Run _ _ _ [some<|.ref d,some<|.int ((2 * s:Nat):Int),some<|.ref L,some<|.str t,some<|.int<|Builtin.bitAnd (((2 * s:Nat):Int) / 2 ^ ((x.1:Nat):Int).toNat) 1,some<|.int<|Builtin.bitAnd (((2 * s:Nat):Int) / 2 ^ (((other n x).1:Nat):Int).toNat) 1] H3;rw [Bd,Bd,Od,Od];show Run _ _ _ [some<|.ref d,some<|.int ((2 * s:Nat):Int),some<|.ref L,some<|.str t,some<|.int ((2 * s / 2 ^ x.1 % 2:Nat):Int),some<|.int ((2 * s / 2 ^ (other n x).1 % 2:Nat):Int)] H3;refine xQ ((2 * s).testBit x.1≠(2 * s).testBit (other n x).1) ((2 * s).testBit x.1=(2 * s).testBit (other n x).1) (λT' qq=>?_) (λc=>?_) λc=>?_
  ·refine dM wH<|ae 4<|ae 5 ⟨rfl,_,rfl,?_⟩;refine qq _ (λk c=>?_) λk=>?_
   ·rw [BW<|by rw [ju.mpr c]] at k;cases k
   ·rw [Bool.not_eq_false',CJ] at k;exact ju.mp<|by have:=V.int.inj k;omega
  ·refine fS (jF<|ae 2 ⟨L,rfl,⟨_,e3⟩,ae 3 ⟨_,e3,by rw [Ab];exact cD (by omega),?_⟩⟩);refine bm (bm ⟨zs++[t],_,_,_,fZ s3 hL,by rw [aD];show _=some (HO.lst<|(zs++[t]).map V.str);rw [Al];rfl,by rw [nW];exact sub.append<|List.Sublist.refl _,λz=>?_,rfl⟩);rw [An,hz z,nW,An,Ah]
   constructor
   ·rintro (⟨h1,h2⟩ | rfl)
    ·exact⟨.inl h1,h2⟩
    ·exact⟨.inr rfl,x,sJ,c⟩
   ·rintro ⟨h1 | h1,h2⟩
    ·exact .inl ⟨h1,h2⟩
    ·exact .inr h1
  ·refine bm (bm ⟨zs,_,_,_,s3,e3,by rw [nW];exact sub.trans<|List.sublist_append_left _ _,λz=>?_,rfl⟩);rw [hz z,nW,An,Ah]
   constructor
   ·rintro ⟨h1,h2⟩;exact⟨.inl h1,h2⟩
   ·rintro ⟨h1 | rfl,e,he,bu⟩
    ·exact⟨h1,e,he,bu⟩
    ·rcases (ix hT sJ).mp he with rfl | rfl
     ·exact absurd c bu
     ·rw [(cf hT sJ).2.1] at bu;exact absurd c.symm bu
 ·rintro σ H3 ⟨zs,v3,v4,v5,s3,e3,sub,hz,rfl⟩;rw [lkS,Ci<|Am _] at hz sub;have Og:=sub.nodup hS.nodup;have sC:zs.length < 64:=by
   have l2:=aU Og λz h=>(hS.mem z).mp<|sub.subset h;omega
  refine b5<|bQ Jf T.sorted FP<|ao<|ae 2<|aA ⟨L,zs,rfl,al.of e3,sC,λl ss iL i0 i4=>?_⟩;refine q l ss _ (s3.trans<|a8 iL _) (s3.free iL) aD ⟨vd i4<|i0.nodup_iff.mpr Og,λz=>?_⟩;rw [i0.mem_iff,hz z];exact⟨λh=>h.2,λh=>⟨(hS.mem z).mpr (by obtain⟨e,he,_⟩:=h;exact dE he),h⟩⟩
abbrev NDu:List Str:=["_law_rows","_law_seats_here","_law_due_here","_law_sides","_law_cut_here"]
theorem sN:aq NDu ["_law_rows","_law_seats_here"] (bd yX):=⟨rfl,rfl,rfl,by decide +kernel,rfl,by decide +kernel,by decide +kernel⟩
theorem q4u{f:Addr}{fd:FuncData}(F:bL K "_law_due" "_law_due" yX f fd)(T:Txt mg)(GC:aV P w K mg base 2 "_law_cut" ["_law_seats_here","_law_sides"] EC)(GE:aV P w K mg base 2 "_law_even" ["_law_rows","_law_some"] CU):aG P w K mg base bG 3 f fd ["_law_rows","_law_seats_here"] ED:=by
 refine F.gb sN (λvs H Q E h=>?_) λb0 H vs Q E hr h=>?_
 ·obtain⟨R,d,as,n,ks,H0,rfl,_⟩:=h;rfl
 obtain⟨R,d,as,n,ks,H0,rfl,s0,n0,hR,hS,hN,hT,Oh,hFu,h0,hn,jO,q⟩:=h;have nd:=sN.nd;have D8:=Fy (Nat.add_le_add_left (by decide:8<=100) _) hr.eF;have cg:=hR.len;obtain⟨gm,ed,ek,ev⟩:=hS.dict;refine q4k ed λob=>?_;have sF:ak H0 (upd H d<|.bD ob<|.dK gm):=fZ s0 n0;have kF:∀ b o,b≠d->H b=some o->(upd H d<|.bD ob<|.dK gm) b=some o:=λb o hb h=>by rw [ay hb];exact h
 have Oi:cq (upd H d<|.bD ob<|.dK gm) d ob n ks:=by
  refine⟨⟨gm,aD,ek,λz hz=>?_⟩,hS.nodup,hS.mem⟩;obtain⟨a,ts,q1,q2,q3⟩:=ev z hz;exact⟨a,ts,q1,kF _ _ (b9 q2 ed λz=>nomatch z) q2,q3.keep λt e h=>kF _ _ (b9 h ed λz=>nomatch z) h⟩
 show Run _ _ _ [some<|.ref R,some<|.ref d,none,none,none] (upd H d<|.bD ob<|.dK gm);generalize upd H d (.bD ob<|.dK gm)=H1 at sF Oi;refine aY 2 nd<|dL<|aA ⟨Z0,λL hL=>?_⟩;have s2:=a8 hL<|.lst [];have e2:(upd H1 L<|.lst []) L=some (.lst<|([]:List Addr).map V.ref):=aD;show Run _ _ _ [some<|.ref R,some<|.ref d,some<|.ref L,none,none] (upd H1 L<|.lst []);generalize upd H1 L (.lst [])=H2 at s2 e2;have pw:2 ^ (n.length - 1)<=2 ^ 10:=Dy (by decide) (by omega);have ej:(1:Int) * 2 ^ (((n.length:Int) - 1).toNat)=((2 ^ (n.length - 1):Nat):Int):=by
  rw [show((n.length:Int) - 1).toNat=n.length - 1 by omega,Int.one_mul];exact(RT 2 _).symm
 refine iO T.range<|aQ F3<|aB<|aQ wG<|bQ cT T.len DQ<|ao<|ae 0<|aA ⟨R,_,rfl,.inl<|al.of<|(sF.trans s2) _ _ hR.lst,aB ⟨_,_,rfl,rfl,_,_,rfl,rfl,?_,((2 ^ (n.length - 1):Nat):Int),?_,?_⟩⟩
 ·rw [Ab,cg];exact⟨by omega,by omega,by decide⟩
 ·rw [Ab,cg];exact BZ V.int ej
 refine⟨Int.le_trans (by decide)<|Fc _,Int.lt_of_le_of_lt (Int.ofNat_le.mpr pw) (by decide),?_⟩;rw [Bd];refine iP (n:=2 ^ (n.length - 1)) (λt σ H'=>∃(us:List Addr) (ds:List<|List Str) (u3 u4:Option V),ak H1 H'/\kQ (λ_=>none) H' L us ds ds.length/\b8 n t ds/\σ=[some<|.ref R,some<|.ref d,some<|.ref L,u3,u4]) ⟨[],[],_,_,s2,kQ.start e2,b8.nil,rfl⟩ ?_ ?_
 ·rintro t σ H3 ht ⟨us,ds,u3,u4,s3,I,D,rfl⟩;rw [Dg];have iA:=(hR.same sF).same s3;have dl:=D.len;have lu:=I.lu;refine bE 3 nd ?_;show Run _ _ _ [some<|.ref R,some<|.ref d,some<|.ref L,some<|.int (t:Int),u4] H3;refine aY 4 nd (bR GC hr<|ao<|ae 1<|ao<|aQ pW<|aB<|ae 3 ⟨_,_,rfl,rfl,.inl ⟨by decide,by decide⟩,aA ⟨d,ob,n,ks,t,rfl,Oi.same s3,hT,by omega,λc cs H4 s4 n4 e4 hc=>?_⟩⟩);show Run _ _ _ [some<|.ref R,some<|.ref d,some<|.ref L,some<|.int (t:Int),some<|.ref c] H4;refine im (qh<|bR GE hr<|ao<|ae 0<|ao<|ae 4<|aA ⟨R,c,as,n,cs,rfl,iA.same s4,by omega,by omega,e4,λH5 s5=>⟨_,rfl,?_⟩⟩);have n9:=s4.trans s5;cases he:cF n cs with
  | true=>
   refine gN (fS<|jF<|ae 2 ⟨L,rfl,⟨_,n9 _ _ I.lst⟩,ae 4 ⟨_,n9 _ _ I.lst,by rw [Ab];exact cD (by omega),?_⟩⟩);refine bm<|bm ⟨us++[c],ds++[cs],_,_,fZ (s3.trans n9) hL,?_,D.yes hT Oh.1 hN h0 ht hc he,rfl⟩;rw [Ag];exact I.step n9 n4 rfl (s5 _ _ e4)
  | false=>exact cU<|bm<|bm ⟨us,ds,_,_,s3.trans n9,⟨n9 _ _ I.lst,I.lu,I.lc,λj u c h1 h2=>⟨n9 _ _ (I.at' j u c h1 h2).1,(I.at' j u c h1 h2).2⟩,I.fr⟩,D.no hc he,rfl⟩
 ·rintro σ H3 ⟨us,ds,u3,u4,s3,I,D,rfl⟩;have fw:=D.few hT Oh hFu jO;have EE:cZ H3 L us ds:=⟨I.lst,I.lu.trans I.lc.symm,λi u c a b=>(I.at' i u c a b).1⟩;have lT:=EE.2.1;refine b5 (bQ (N6 D8) T.sorted FP<|ao<|ae 2<|aA ⟨L,us,ds,rfl,al.of I.lst,lT,D.nd,by omega,EE.2.2,λr ps gA hp i4=>?_⟩);obtain⟨q1,q2,q3⟩:=N7 EE gA hp;refine q r _ _ ds _ ((sF.trans s3).trans<|a8 gA _) q1 D q2 ?_;rw [Fk];exact i4
open PyProof.Rows (sortedS)
open cQ (aZ)
open Classical
def vZ(K:PySem.W.Frag):Sp:=λvs H Q _=>∃(a:Addr) (ns:List Int),vs=[.ref a]/\al K H a (ns.map V.int)/\ns.length<=63/\∀ H',Q (.bl true) H'
abbrev NW:List Str:=["_law_script","_law_big_here","_law_rows","_law_handed","_law_due_here","_law_many","_law_turn","_law_found","_law_k","_law_one","_law_other_here"]
abbrev Oj:List Str:=["_law_script","_law_big_here","_law_rows","_law_handed","_law_due_here","_law_many","_law_turn","_law_found","_law_k","_law_one","_law_other_here","_law_tie"]
theorem lW:aq NW ["_law_script"] (bd ki):=⟨rfl,rfl,rfl,by decide +kernel,rfl,by decide +kernel,by decide +kernel⟩
theorem q78:Oj.Nodup:=by decide +kernel
theorem k99{H:Hp}{L:Addr}{us:List Addr}{ds:List (List Str)}(h:cZ H L us ds)(hd:ds.Nodup):us.Nodup:=by
 rw [Bh,Be];intro i j hi hj dv e;have hl:=h.2.1;have a:=h.2.2 i _ _ (Aa hi) (Aa<|by omega);have b:=h.2.2 j _ _ (Aa hj) (Aa<|by omega);rw [<- e,a] at b;have e2:ds[i]=ds[j]:=by
  have:=HO.lst.inj<|Option.some.inj b;exact(List.map_inj_right λx y q=>V.str.inj q).mp this
 exact Be.mp (Bh.mp hd) i j (by omega) (by omega) dv e2
theorem q6w{f:Addr}{fd:FuncData}(F:bL K "law" "law" ki f fd)(T:Txt mg)
  (GC:aV P w K mg base 7 "_law_cell_at" ["_law_script","_law_k"]<|uD K) (GB:aV P w K mg base 7 "_law_big" ["_law_script","_law_at"]<|y7 K) (GN:aV P w K mg base 7 "_law_net_by" ["_law_big_here","_law_most","_law_stem"] AJ) (GY:aV P w K mg base 7 "_law_copy" ["_law_rows"] AX) (GS:aV P w K mg base 7 "_law_seats" ["_law_rows"] uE)
  (GD:aV P w K mg base 7 "_law_due" ["_law_rows","_law_seats_here"] ED) (GW:aV P w K mg base 7 "walkers_of" ["rows"] vE) (GI:aV P w K mg base 7 "_law_is_set" ["_law_found","_law_due_here"] EB) (GA:aV P w K mg base 7 "doubles_of" ["rows"] D6) :
  aG P w K mg base bG 8 f fd ["_law_script"] (vZ K):=by
 refine F.gb lW (λvs H Q E h=>?_) λb0 H vs Q E hr h=>?_
 ·obtain⟨a,ns,rfl,_⟩:=h;rfl
 obtain⟨a,ns,rfl,hS,h63,q⟩:=h;have nd:=lW.nd;have un:=hr.eF;show Run _ _ _ [some<|.ref a,none,none,none,none,none,none,none,none,none,none] H;refine aY 1 nd (bR GB hr<|ao<|ae 0<|ao<|aB<|aA ⟨a,ns,0,rfl,hS,by decide,λb H1 s1=>?_⟩);refine aY 2 nd (bR GN hr<|ao<|aQ gu<|ae 1<|aB ⟨_,_,rfl,rfl,⟨by decide,by decide⟩,?_⟩);refine ao (aB<|ao<|aQ fc<|aQ cJ<|ae 1<|aB ⟨_,_,rfl,rfl,(by show(0:Int) < 97;decide),bR GC hr<|ao<|ae 0<|ao<|aB<|aA ⟨a,ns,9,rfl,s1.seq hS,by decide,λc9=>⟨_,_,rfl,rfl,?_⟩⟩⟩);refine aA ⟨_,10,_,rfl,by decide,by decide,λR as n H2 s2 n2 hR hT hN hF hf jO B9 has=>?_⟩;have e10:((10:Int)).toNat=10:=rfl;rw [e10] at jO B9;have qW:=f7 n;have v6:0 < n.length:=Cn.mpr<|Full.some hF;refine aY 3 nd (bR GY hr<|ao<|ae 2<|aA ⟨R,as,n,rfl,hR,by omega,λM bs H3 s3 n3 f3 hM=>?_⟩);have iA:=hR.same s3;show Run _ _ _ [some<|.ref a,some<|.int b,some<|.ref R,some<|.ref M,none,none,none,none,none,none,none] H3;refine aY 4 nd (bR GD hr<|ao<|ae 2<|ao<|bR GS hr<|ao<|ae 2<|aA ⟨R,as,n,rfl,iA,by omega,by omega,λd ks H4 s4 n4 hSe=>?_⟩);refine aA ⟨R,d,as,n,ks,H3,rfl,s4,n4,iA,hSe,hN,hT,hf,hF,v6,by omega,by omega,λDL v7 Ol dd0 H5 s5 Om jv sO EF=>?_⟩;have vi:=iA.same s5;have EG:=hM.same s5;show Run _ _ _ [some<|.ref a,some<|.int b,some<|.ref R,some<|.ref M,some<|.ref DL,none,none,none,none,none,none] H5;refine aY 5 nd (bQ (wI rfl) T.max MF<|ao<|aB<|ao<|bQ cT T.len DQ<|ao<|bR GW hr<|ao<|ae 3<|aA ⟨M,bs,n,rfl,EG,hN,hT,by omega,by omega,λW ls H6 s6 n6 hW fW=>aA ⟨W,_,rfl,.inl<|al.of hW.lst,aA ⟨_,_,rfl,?_⟩⟩⟩);have vT:ls.length=(aC n).length:=hW.len;have em:(if((ls.map V.ref).length:Int) > 1 then((ls.map V.ref).length:Int) else 1)=((max 1 (aC n).length:Nat):Int):=by
  rw [Ab,vT]
  by_cases k:((aC n).length:Int) > 1
  ·rw [BP k];omega
  ·rw [BL k];omega
 rw [em];show Run _ _ _ [some<|.ref a,some<|.int b,some<|.ref R,some<|.ref M,some<|.ref DL,some<|.int ((max 1 (aC n).length:Nat):Int),none,none,none,none,none] H6;have lX:∀ ds,c6 n ((aC n).length - 1) ds->ds.length<=32:=λds D=>by
  rw [(N0 hT hf hN v6 D jv).length_eq];exact jv.few hT hf hF<|by omega
 refine iO T.range (aB ⟨2,rfl,by decide,by decide,?_⟩);refine iP (n:=2) (λt σ H'=>∃(u6 u7 u8 u9 g7:Option V),ak H6 H'/\σ=[some<|.ref a,some<|.int b,some<|.ref R,some<|.ref M,some<|.ref DL,some<|.int ((max 1 (aC n).length:Nat):Int),u6,u7,u8,u9,g7]) ⟨_,_,_,_,_,ak.refl _,rfl⟩ ?_ ?_
 ·rintro t σ H7 ht ⟨u6,u7,u8,u9,g7,s7,rfl⟩;rw [Dg];refine bE 6 nd ?_;have hM7:=(EG.same s6).same s7;refine aY 7 nd (bR GA hr<|ao<|ae 3<|aA ⟨M,bs,n,rfl,hM7,hN,hT,hf,v6,by omega,by omega,lX,λL us ds d0 H8 s8 n8 hL sG D sP dso=>?_⟩);have pm:ds.Perm Ol:=sP.trans<|(N0 hT hf hN v6 D jv).trans sO.symm;have eds:ds=Ol:=q3i dso EF pm;have dnd:ds.Nodup:=sP.nodup_iff.mpr<|D.nd hT hf.1 hN;have dd:∀ x∈ds,kP n x:=λx hx=>D.dbl x<|sP.mem_iff.mp hx;have EH:ds.length=2 ^ ((aC n).length - 1):=sP.length_eq.trans D.len;have d32:ds.length<=32:=by rw [sP.length_eq];exact lX _ D
  have x5:=k99 hL dnd;subst eds;have lT:=hL.2.1;have sQ:=Om.2.1;have jw:=((Om.same s6).same s7).same s8;show Run _ _ _ [some<|.ref a,some<|.int b,some<|.ref R,some<|.ref M,some<|.ref DL,some<|.int ((max 1 (aC n).length:Nat):Int),some<|.int (t:Int),some<|.ref L,u8,u9,g7] H8;refine im<|xO<|xP<|tO<|qh<|bQ xF T.yY JH<|ao<|ae 7<|ao<|xK (.ty "list") T.i6 KQ rfl (aA ⟨_,_,_,true,rfl,.lst hL.1,rG K,true,rfl,cU ?_⟩);refine xP<|dM wH<|bQ cT T.len DQ<|ao<|ae 7<|aA ⟨L,_,rfl,.inl<|al.of hL.1,bQ cT T.len DQ<|ao<|ae 4<|aA ⟨DL,_,rfl,.inl<|al.of jw.1,rfl,_,rfl,?_⟩⟩;rw [Ab,Ab,lT,sQ,BW rfl];refine cU ?_;refine HU<|dM wH<|bQ cT T.len DQ<|ao<|ae 4<|aA ⟨DL,_,rfl,.inl<|al.of jw.1,aQ F3<|aB<|aQ wG<|ae 5<|aB ⟨_,_,rfl,rfl,_,_,rfl,rfl,?_,rfl,_,rfl,?_⟩⟩
  ·have:=uQ n (ends n) [];have:(aC n).length<=(ends n).length:=this;exact⟨by omega,by omega,by decide⟩
  have e1:(1:Int) * 2 ^ ((((max 1 (aC n).length:Nat):Int) - 1).toNat)=((ds.length:Nat):Int):=by
   rw [show(((max 1 (aC n).length:Nat):Int) - 1).toNat=(aC n).length - 1 by omega,Int.one_mul,EH];exact(RT 2 _).symm
  have e3:V.int (((v7.map V.ref).length:Nat):Int)=(λi j:Int=>V.int<|i * 2 ^ j.toNat) 1 (((max 1 (aC n).length:Nat):Int) - 1):=by
   rw [Ab,sQ];exact(BZ V.int e1).symm
  rw [BW e3];refine cU<|bm ?_;refine iO T.range (bQ cT T.len DQ<|ao<|ae 4<|aA ⟨DL,_,rfl,.inl<|al.of jw.1,_,rfl,by omega,by rw [Ab];omega,?_⟩);rw [Ab,Bd];refine iP (n:=v7.length) (λk σ H'=>∃(u8:Option V),ak H8 H'/\σ=[some<|.ref a,some<|.int b,some<|.ref R,some<|.ref M,some<|.ref DL,some<|.int ((max 1 (aC n).length:Nat):Int),some<|.int (t:Int),some<|.ref L,u8,u9,g7]) ⟨_,ak.refl _,rfl⟩ ?_ ?_
  ·rintro k σ H9 hk ⟨v8,s9,rfl⟩;rw [Dg];refine bE 8 nd ?_;have oa:=hL.same s9;have ia:=jw.same s9;obtain⟨u,hu⟩:∃ u,us[k]?=some u:=⟨_,Aa<|by omega⟩;obtain⟨v,hv⟩:∃ v,v7[k]?=some v:=⟨_,Aa<|by omega⟩;obtain⟨x,hx⟩:∃ x,ds[k]?=some x:=⟨_,Aa<|by omega⟩;have xd:=dd x<|Ap hx;have xl:=ve hT (nC xd.bZ) xd.mem;show Run _ _ _ [some<|.ref a,some<|.int b,some<|.ref R,some<|.ref M,some<|.ref DL,some<|.int ((max 1 (aC n).length:Nat):Int),some<|.int (t:Int),some<|.ref L,some<|.int (k:Int),u9,g7] H9;refine im<|tO<|qh<|bR GI hr<|ao<|bb cS<|ae 7<|ae 8 ⟨L,_,_,.ref u,rfl,rfl,al.of oa.1,kZ (by rw [Ai,hu];rfl),ao<|bb cS<|ae 4<|ae 8 ⟨DL,_,_,.ref v,rfl,rfl,al.of ia.1,kZ (by rw [Ai,hv];rfl),aA ⟨u,v,x,rfl,oa.2.2 k _ _ hu hx,ia.2.2 k _ _ hv hx,by omega,λH10 s10=>⟨_,rfl,cU<|bm<|bm ⟨_,s9.trans s10,rfl⟩⟩⟩⟩⟩
  rintro σ H9 ⟨v8,s9,rfl⟩;have oa:=hL.same s9;have ia:=jw.same s9;refine j6<|ae 7 ⟨L,rfl,⟨_,al.of oa.1⟩,?_⟩;refine j7 (xs:=us.map V.ref) (λi σ H'=>∃(u9 g7:Option V),ak H9 H'/\σ=[some<|.ref a,some<|.int b,some<|.ref R,some<|.ref M,some<|.ref DL,some<|.int ((max 1 (aC n).length:Nat):Int),some<|.int (t:Int),some<|.ref L,v8,u9,g7]) ⟨_,_,ak.refl _,rfl⟩ ?_ ?_ ?_
  ·rintro i σ H' _ ⟨_,_,sm,_⟩;exact al.of<|sm _ _ oa.1
  ·rintro i x σ HA hx ⟨v9,v10,sA,rfl⟩;rw [Ai,Ba] at hx;obtain⟨u,hu,rfl⟩:=hx;have iZ:=(Ac.mp hu).1;obtain⟨x,hx⟩:∃ x,ds[i]?=some x:=⟨_,Aa<|by omega⟩;have xd:=dd x<|Ap hx;have xl:=ve hT (nC xd.bZ) xd.mem;refine bE 9 nd ?_;refine j6<|ae 4 ⟨DL,rfl,⟨_,al.of<|sA _ _ ia.1⟩,?_⟩;refine j7 (xs:=v7.map V.ref) (λi σ H'=>∃(g7:Option V),ak HA H'/\σ=[some<|.ref a,some<|.int b,some<|.ref R,some<|.ref M,some<|.ref DL,some<|.int ((max 1 (aC n).length:Nat):Int),some<|.int (t:Int),some<|.ref L,v8,some<|.ref u,g7]) ⟨_,ak.refl _,rfl⟩ ?_ ?_ ?_
   ·rintro i σ H' _ ⟨_,sm,_⟩;exact al.of<|sm _ _<|sA _ _ ia.1
   ·rintro j y σ HB hy ⟨w10,sB,rfl⟩;rw [Ai,Ba] at hy;obtain⟨v,hv,rfl⟩:=hy;have oP:=(Ac.mp hv).1;obtain⟨y,hy⟩:∃ y,ds[j]?=some y:=⟨_,Aa<|by omega⟩;have yd:=dd y<|Ap hy;obtain⟨ps,t8⟩:=yd.cut.cut;have ev:=Xj hT xd.even (nC xd.bZ) t8;have eu:=sB _ _<|sA _ _<|oa.2.2 i _ _ hu hx;have Oo:=sB _ _<|sA _ _<|ia.2.2 j _ _ hv hy;refine bE 10 nd ?_;show Run _ _ _ [some<|.ref a,some<|.int b,some<|.ref R,some<|.ref M,some<|.ref DL,some<|.int ((max 1 (aC n).length:Nat):Int),some<|.int (t:Int),some<|.ref L,v8,some<|.ref u,some<|.ref v] HB;refine im<|dM kX<|aQ cJ<|bQ cT T.len DQ<|ao<|j9 (bd ki) NW Oj 1 (ie bK)<|ae 9 ⟨u,rfl,⟨_,al.of eu⟩,λD hD=>?_⟩;refine uG (λz=>y.contains z) (cD<|by omega) eu hD (λcl C s0 H0 ex v v0 H' R' h=>bE 11 q78 h) (λcl C s0 H0 ex z zs T' h=>tS<|dM Hl<|ae 11<|ae 10 ⟨v,_,rfl,.inl (al.of<|by rw [ay<|bt Oo hD];exact Oo),rfl,JY _,_,rfl,?_⟩) (λcl C s0 H0 ex z H' R' h=>ae 11 h) ?_
    ·show T' (oq (.str z)<|y.map V.str) _;rw [JU];exact h
    refine aA ⟨D,_,rfl,.inl<|al.of aD,aB ⟨_,_,rfl,rfl,(by show(0:Int) < 2;decide),aB ⟨rfl,_,rfl,?_⟩⟩⟩;have e2:decide (V.int ((((x.filter λz=>y.contains z).map V.str).length:Int) % 2)=V.int 1)=false:=BR λk=>by
     have:=V.int.inj k;rw [Ab] at this;omega
    show(if decide (V.int ((((x.filter λz=>y.contains z).map V.str).length:Int) % 2)=V.int 1)=true then _ else _);rw [e2];exact cU<|bm<|bm ⟨_,sB.trans<|a8 hD _,rfl⟩
   ·rintro σ HB ⟨w10,sB,rfl⟩;exact bm ⟨_,_,sA.trans sB,rfl⟩
  rintro σ HA ⟨v9,v10,sA,rfl⟩;have EI:=oa.same sA;have sHA:ak H7 HA:=(s8.trans s9).trans sA;refine j6<|ae 7 ⟨L,rfl,⟨_,al.of EI.1⟩,?_⟩;refine j7 (xs:=us.map V.ref) (λi σ H'=>∃(u9:Option V),ak H7 H'/\H' L=some (.lst<|us.map V.ref)/\(∀(j:Nat) u x,i<=j->us[j]?=some u->ds[j]?=some x->H' u=some (Ls x))/\σ=[some<|.ref a,some<|.int b,some<|.ref R,some<|.ref M,some<|.ref DL,some<|.int ((max 1 (aC n).length:Nat):Int),some<|.int (t:Int),some<|.ref L,v8,u9,v10]) ⟨_,sHA,EI.1,λj u x _ h1 h2=>EI.2.2 j u x h1 h2,rfl⟩ ?_ ?_ ?_
  ·rintro i σ H' _ ⟨_,_,eL,_⟩;exact al.of eL
  ·rintro i x σ HB hx ⟨w9,sB,eL,oM,rfl⟩;rw [Ai,Ba] at hx;obtain⟨u,hu,rfl⟩:=hx;have iZ:=(Ac.mp hu).1;obtain⟨x,hx⟩:∃ x,ds[i]?=some x:=⟨_,Aa<|by omega⟩;have xd:=dd x<|Ap hx;have xl:=ve hT (nC xd.bZ) xd.mem;have eu:=oM i u x (Am _) hu hx;have fu:=sG u<|Ap hu;refine bE 9 nd ?_;refine fS (jF<|ae 9 ⟨u,rfl,⟨_,eu⟩,xJ ⟨_,eu,by rw [Ab];exact cD (by omega),?_⟩⟩);refine bm ⟨_,fZ sB fu.1,by rw [ay fu.2.symm];exact eL,λj v y hj h1 h2=>?_,rfl⟩;have ne:v≠u:=λe=>by
    rw [e] at h1;have a1:=Ac.mp h1;have a2:=Ac.mp hu;exact Be.mp (Bh.mp x5) i j a2.1 a1.1 (by omega)<|a2.2.trans a1.2.symm
   rw [ay ne];exact oM j v y (by omega) h1 h2
  ·rintro σ HB ⟨w9,sB,eL,_,rfl⟩;refine fS<|Uh EY PySem.F.slot_list_clear PySem.F.type_list_clear QQ<|ae 7 (v:= .ref L) ⟨Lq eL,L,_,rfl,rfl,eL,?_⟩;exact bm ⟨_,_,_,_,_,s7.trans<|fZ sB n8,rfl⟩
 ·rintro σ H7 ⟨u6,u7,u8,u9,g7,s7,rfl⟩;exact b5<|tN (yC un)<|ae 3<|ae 2 ⟨3,true,by decide,Yq ((EG.same s6).same s7)<|(vi.same s6).same s7,q _⟩
end
end D3
namespace D3
open PySem L2
theorem all_mk{l:PySem.W.OpenLaw}{w:World}{K:PySem.W.Frag}{h:Heap}{mg:Str->Option Value}{fa:Addr}(X:K.In h)(G:h.Ns mainGlobals mg)(yf:mg "law" = some (.ref fa))
  (h1:Df K "ends_round" uo) (h2:Df K "ends_in_order" uq) (h3:Df K "turned_left" yM) (h4:Df K "turned_right" yN) (h5:Df K "other_ends" yO) (h6:Df K "ties_by_end" ur) (h7:Df K "left_steps" ut) (h8:Df K "right_steps" uv) (h9:Df K "summed" yP) (EJ:Df K "walkers_of" mX) (EK:Df K "walker_from" mY) (EL:Df K "core_of" qC) (ER:Df K "doubles_of" uw) (EV:Df K "cores_of" uz) (EW:Df K "_law_cell_at" yQ) (EX:Df K "_law_big" mZ) (EZ:Df K "_law_names" yR) (E1:Df K "_law_seats" yS) (E2:Df K "_law_other" yT) (E3:Df K "_law_step" yU) (E4:Df K "_law_face" yV) (E5:Df K "_law_put" m4) (E6:Df K "_law_net_by" m5) (E7:Df K "_law_copy" uA) (E8:Df K "_law_even" uB) (E9:Df K "_law_is_set" uC) (E':Df K "_law_cut" yW) (FA:Df K "_law_due" yX) (hl:Df K "law" ki)
  {tk1:Tok} (s1:PySem.W.nsIn K mainGlobals "MOST_WALKERS" = some (some<|.int 9 tk1))
  (z:∀ x∈(["isinstance","tuple","str","int","bool","list","dict","set","enumerate","zip","len","range","sorted","max","all"]:List Str),PySem.W.nsIn K mainGlobals x=some none) :
  ∃ fd:FuncData,(∀(s:Shared) (v:Value),BindsTo s fd ⟨[v],[]⟩ [("_law_script",v)])/\∀ base:Heap,K.In base->base.Ns mainGlobals mg->aG l.prog w K mg base bG 8 fa fd ["_law_script"] (vZ K):=by
 have T:Txt mg:=⟨CQ X G (z _<|by simp),CQ X G (z _<|by simp),CQ X G (z _<|by simp),CQ X G (z _<|by simp),CQ X G (z _<|by simp),CQ X G (z _<|by simp),CQ X G (z _<|by simp),CQ X G (z _<|by simp),CQ X G (z _<|by simp),CQ X G (z _<|by simp),CQ X G (z _<|by simp),CQ X G (z _<|by simp),CQ X G (z _<|by simp),CQ X G (z _<|by simp),CQ X G (z _<|by simp),⟨_,TQ X G s1,_,rfl⟩⟩;refine hl.law X G yf (λ_ _ _ _ _ _ s v=> .of_eq rfl) λbase f fd F=>?_;have G1:aV l.prog w K mg base 1 "ends_round" ["row"] rp:=h1.has X G (λ_ _ _ _ _ _=>iT λ_=>rfl) λF=>X8 F T;have G2:aV l.prog w K mg base 2 "ends_in_order" ["rows"] A7:=h2.has X G (λ_ _ _ _ _ _=>iT λ_=>rfl) λF=>Yl F T (G1.mono<|by decide);have G3:aV l.prog w K mg base 1 "turned_left" ["end","many"] (f9 λj=>j+1):=h3.has X G (λ_ _ _ _ _ _=>iU λ_ _=>rfl) λF=>Ya F T;have G4:aV l.prog w K mg base 1 "turned_right" ["end","many"] (f9 λj=>j - 1):=h4.has X G (λ_ _ _ _ _ _=>iU λ_ _=>rfl) λF=>Yb F T;have G5:aV l.prog w K mg base 2 "other_ends" ["rows"] jo:=h5.has X G (λ_ _ _ _ _ _=>iT λ_=>rfl) λF=>Yh F T (G1.mono<|by decide);have G6:aV l.prog w K mg base 2 "ties_by_end" ["rows"] kJ:=h6.has X G (λ_ _ _ _ _ _=>iT λ_=>rfl) λF=>Ys F T (G1.mono<|by decide);have G7:aV l.prog w K mg base 3 "left_steps" ["rows"] (gg 1):=h7.has X G (λ_ _ _ _ _ _=>iT λ_=>rfl) λF=>YD F T (G5.mono<|by decide) (G3.mono<|by decide);have G8:aV l.prog w K mg base 3 "right_steps" ["rows"] (gg (-1)):=h8.has X G (λ_ _ _ _ _ _=>iT λ_=>rfl) λF=>YF F T (G5.mono<|by decide) (G4.mono<|by decide);have G11:aV l.prog w K mg base 1 "walker_from" ["lefts","rights","first"] nU:=EK.has X G (λ_ _ _ _ _ _=>tT λ_ _ _=>rfl) λF=>YJ F T;have Oq:aV l.prog w K mg base 4 "walkers_of" ["rows"] vE:=EJ.has X G (λ_ _ _ _ _ _=>iT λ_=>rfl) λF=>YM F T (G7.mono<|by decide) (G8.mono<|by decide) (G6.mono<|by decide) (G2.mono<|by decide) (G11.mono<|by decide);have G12:aV l.prog w K mg base 3 "core_of" ["rows","walker"] C0:=EL.has X G (λ_ _ _ _ _ _=>iU λ_ _=>rfl) λF=>ZG F T (G6.mono<|by decide);have G14:aV l.prog w K mg base 5 "cores_of" ["rows"] DT:=EV.has X G (λ_ _ _ _ _ _=>iT λ_=>rfl) λF=>k9u F T (Oq.mono<|by decide) (G12.mono<|by decide);have G9:aV l.prog w K mg base 1 "summed" ["one","other"] CY:=h9.has X G (λ_ _ _ _ _ _=>iU λ_ _=>rfl) λF=>ZC F T;have G13:aV l.prog w K mg base 6 "doubles_of" ["rows"] D6:=ER.has X G (λ_ _ _ _ _ _=>iT λ_=>rfl) λF=>q3q F T (G14.mono<|by decide) (G9.mono<|by decide);have Ot:aV l.prog w K mg base 1 "_law_cell_at" ["_law_script","_law_k"] (uD K):=EW.has X G (λ_ _ _ _ _ _=>iU λ_ _=>rfl) λF=>UZ F T;have G16:aV l.prog w K mg base 2 "_law_big" ["_law_script","_law_at"] (y7 K):=EX.has X G (λ_ _ _ _ _ _=>iU λ_ _=>rfl) λF=>U2 F T (Ot.mono<|by decide);have G17:aV l.prog w K mg base 1 "_law_names" ["_law_stem","_law_many"] y8:=EZ.has X G (λ_ _ _ _ _ _=>iU λ_ _=>rfl) λF=>U4 F T;have Ou:aV l.prog w K mg base 1 "_law_seats" ["_law_rows"] uE:=E1.has X G (λ_ _ _ _ _ _=>iT λ_=>rfl) λF=>U6 F T;have G19:aV l.prog w K mg base 1 "_law_other" ["_law_rows","_law_seats_here","_law_end"] y9:=E2.has X G (λ_ _ _ _ _ _=>tT λ_ _ _=>rfl) λF=>U7 F T;have G20:aV l.prog w K mg base 2 "_law_step" ["_law_rows","_law_seats_here","_law_end","_law_turn"] zg:=E3.has X G (λ_ _ _ _ _ _=>Ik λ_ _ _ _=>rfl) λF=>U8 F T (G19.mono<|by decide);have G21:aV l.prog w K mg base 3 "_law_face" ["_law_rows","_law_seats_here","_law_end"] zh:=E4.has X G (λ_ _ _ _ _ _=>tT λ_ _ _=>rfl) λF=>U' F T (G20.mono<|by decide);have G22:aV l.prog w K mg base 4 "_law_put" ["_law_rows","_law_big_here","_law_tie","_law_point"] zY:=E5.has X G (λ_ _ _ _ _ _=>Ik λ_ _ _ _=>rfl) λF=>Xs F T (Ou.mono<|by decide) (G21.mono<|by decide);have G23:aV l.prog w K mg base 5 "_law_net_by" ["_law_big_here","_law_most","_law_stem"] AJ:=E6.has X G (λ_ _ _ _ _ _=>tT λ_ _ _=>rfl) λF=>XI F T (G17.mono<|by decide) (G22.mono<|by decide);have G24:aV l.prog w K mg base 1 "_law_copy" ["_law_rows"] AX:=E7.has X G (λ_ _ _ _ _ _=>iT λ_=>rfl) λF=>X4 F T;have G25:aV l.prog w K mg base 1 "_law_even" ["_law_rows","_law_some"] CU:=E8.has X G (λ_ _ _ _ _ _=>iU λ_ _=>rfl) λF=>Zz F T;have G26:aV l.prog w K mg base 1 "_law_is_set" ["_law_found","_law_due_here"] EB:=E9.has X G (λ_ _ _ _ _ _=>iU λ_ _=>rfl) λF=>q0f F T;have G27:aV l.prog w K mg base 1 "_law_cut" ["_law_seats_here","_law_sides"] EC:=E'.has X G (λ_ _ _ _ _ _=>iU λ_ _=>rfl) λF=>q4h F T;have G28:aV l.prog w K mg base 3 "_law_due" ["_law_rows","_law_seats_here"] ED:=FA.has X G (λ_ _ _ _ _ _=>iU λ_ _=>rfl) λF=>q4u F T (G27.mono<|by decide) (G25.mono<|by decide);exact q6w F T (Ot.mono<|by decide) (G16.mono<|by decide) (G23.mono<|by decide) (G24.mono<|by decide) (Ou.mono<|by decide) (G28.mono<|by decide) (Oq.mono<|by decide) (G26.mono<|by decide)<|G13.mono<|by decide
theorem walk{l:PySem.W.OpenLaw}{q:Program}{loose:List Str}{XP:(Str->Option Value)->Heap->Prop}{YP:World->Heap->Prop}{d:DefRec}{K:Params->PySem.W.Frag}(hn:l.most=some 63)(j3:d.params.defaults=[])
  (hY:∀(w:World) (h:Heap),YP w h->(K w.params).In h)
  (F : ∀ (w : World) (mg : Str → Option Value) (fa : Addr) (h : Heap), (K w.params).In h → h.Ns mainGlobals mg → mg d.name = some (.ref fa) →
   ∃ fd:FuncData,(∀(s:Shared) (u:Value),BindsTo s fd ⟨[u],[]⟩ [("_law_script",u)])/\∀ base:Heap,(K w.params).In base->base.Ns mainGlobals mg->aG l.prog w (K w.params) mg base bG 8 fa fd ["_law_script"] (vZ<|K w.params)) :
  PySem.W.WalkO q loose XP YP l.row.toRowW d [] (λf vs=>PySem.call f vs):=
 L2.j4 (n:=63) (k:=8) (x:= "_law_script") (CX:=λ_=>bG) (sp:=λw=>vZ<|K w.params) hn (by decide) j3 ⟨rfl,by decide,by decide⟩ hY F (λ_ _ a ns hl _ hS=>⟨a,ns,rfl,hS,hl,λ_=>rfl⟩) λ_ _ _ _ _ z=>z
end D3
-- see NOTE.md
namespace PySem.W.Fast
def tw12938985956568361137:=()
def tw17341056143737652498:=()
def tw13090420073955687965:=()
def tw1560145270807594673:=()
def tw448386623277809265:=()
def tw11180531820979731888:=()
def tw16445216531725782035:=()
def tw16074939727752089612:=()
def tw706628406436154824:=()
def tw13632788049499744525:=()
def tw3264789563561023544:=()
def tw1019996147218868747:=()
def tw11758599506204056559:=()
def tw1989943545845835079:=()
end PySem.W.Fast
open PySem PySem.W PyProof.Rows
set_option maxRecDepth 100000 in
set_option maxHeartbeats 0 in
theorem PySem.Challenge.cw_threewebs_k43_whole_all_doubles_holds : PySem.Challenge.rw_threewebs_k43_whole_all_doubles.Holds := by
 w_on;o_law;k_head;(case hw=>w_witness2)
 k_fill
 refine D3.walk (l:=PySem.Challenge.rw_threewebs_k43_whole_all_doubles) rfl rfl (λw h Y=>PySem.W.kIn_of Y) ?F
 case F=>
  intro w mg fa h KX G qc;refine' D3.all_mk KX G qc ?h1 ?h2 ?h3 ?h4 ?h5 ?h6 ?h7 ?h8 ?h9 ?EJ ?EK ?EL ?ER ?EV ?EW ?EX ?EZ ?E1 ?E2 ?E3 ?E4 ?E5 ?E6 ?E7 ?E8 ?E9 ?E' ?FA ?h0 ?s1 ?zz
  case h1=>refine' L2.aO ?a ?l ?c ?k;(case a=>k_is);(case l=>k_is);(case c=>k_is);(case k=>k_is)
  case h2=>refine' L2.aO ?a ?l ?c ?k;(case a=>k_is);(case l=>k_is);(case c=>k_is);(case k=>k_is)
  case h3=>refine' L2.aO ?a ?l ?c ?k;(case a=>k_is);(case l=>k_is);(case c=>k_is);(case k=>k_is)
  case h4=>refine' L2.aO ?a ?l ?c ?k;(case a=>k_is);(case l=>k_is);(case c=>k_is);(case k=>k_is)
  case h5=>refine' L2.aO ?a ?l ?c ?k;(case a=>k_is);(case l=>k_is);(case c=>k_is);(case k=>k_is)
  case h6=>refine' L2.aO ?a ?l ?c ?k;(case a=>k_is);(case l=>k_is);(case c=>k_is);(case k=>k_is)
  case h7=>refine' L2.aO ?a ?l ?c ?k;(case a=>k_is);(case l=>k_is);(case c=>k_is);(case k=>k_is)
  case h8=>refine' L2.aO ?a ?l ?c ?k;(case a=>k_is);(case l=>k_is);(case c=>k_is);(case k=>k_is)
  case h9=>refine' L2.aO ?a ?l ?c ?k;(case a=>k_is);(case l=>k_is);(case c=>k_is);(case k=>k_is)
  case EJ=>refine' L2.aO ?a ?l ?c ?k;(case a=>k_is);(case l=>k_is);(case c=>k_is);(case k=>k_is)
  case EK=>refine' L2.aO ?a ?l ?c ?k;(case a=>k_is);(case l=>k_is);(case c=>k_is);(case k=>k_is)
  case EL=>refine' L2.aO ?a ?l ?c ?k;(case a=>k_is);(case l=>k_is);(case c=>k_is);(case k=>k_is)
  case ER=>refine' L2.aO ?a ?l ?c ?k;(case a=>k_is);(case l=>k_is);(case c=>k_is);(case k=>k_is)
  case EV=>refine' L2.aO ?a ?l ?c ?k;(case a=>k_is);(case l=>k_is);(case c=>k_is);(case k=>k_is)
  case EW=>refine' L2.aO ?a ?l ?c ?k;(case a=>k_is);(case l=>k_is);(case c=>k_is);(case k=>k_is)
  case EX=>refine' L2.aO ?a ?l ?c ?k;(case a=>k_is);(case l=>k_is);(case c=>k_is);(case k=>k_is)
  case EZ=>refine' L2.aO ?a ?l ?c ?k;(case a=>k_is);(case l=>k_is);(case c=>k_is);(case k=>k_is)
  case E1=>refine' L2.aO ?a ?l ?c ?k;(case a=>k_is);(case l=>k_is);(case c=>k_is);(case k=>k_is)
  case E2=>refine' L2.aO ?a ?l ?c ?k;(case a=>k_is);(case l=>k_is);(case c=>k_is);(case k=>k_is)
  case E3=>refine' L2.aO ?a ?l ?c ?k;(case a=>k_is);(case l=>k_is);(case c=>k_is);(case k=>k_is)
  case E4=>refine' L2.aO ?a ?l ?c ?k;(case a=>k_is);(case l=>k_is);(case c=>k_is);(case k=>k_is)
  case E5=>refine' L2.aO ?a ?l ?c ?k;(case a=>k_is);(case l=>k_is);(case c=>k_is);(case k=>k_is)
  case E6=>refine' L2.aO ?a ?l ?c ?k;(case a=>k_is);(case l=>k_is);(case c=>k_is);(case k=>k_is)
  case E7=>refine' L2.aO ?a ?l ?c ?k;(case a=>k_is);(case l=>k_is);(case c=>k_is);(case k=>k_is)
  case E8=>refine' L2.aO ?a ?l ?c ?k;(case a=>k_is);(case l=>k_is);(case c=>k_is);(case k=>k_is)
  case E9=>refine' L2.aO ?a ?l ?c ?k;(case a=>k_is);(case l=>k_is);(case c=>k_is);(case k=>k_is)
  case E'=>refine' L2.aO ?a ?l ?c ?k;(case a=>k_is);(case l=>k_is);(case c=>k_is);(case k=>k_is)
  case FA=>refine' L2.aO ?a ?l ?c ?k;(case a=>k_is);(case l=>k_is);(case c=>k_is);(case k=>k_is)
  case h0=>refine' L2.aO ?a ?l ?c ?k;(case a=>k_is);(case l=>k_is);(case c=>k_is);(case k=>k_is)
  case s1=>k_is
  case zz=>
   refine' Bw.mpr ⟨?_,?_⟩;k_is;refine' Bw.mpr ⟨?_,?_⟩;k_is;refine' Bw.mpr ⟨?_,?_⟩;k_is;refine' Bw.mpr ⟨?_,?_⟩;k_is;refine' Bw.mpr ⟨?_,?_⟩;k_is;refine' Bw.mpr ⟨?_,?_⟩;k_is;refine' Bw.mpr ⟨?_,?_⟩;k_is;refine' Bw.mpr ⟨?_,?_⟩;k_is;refine' Bw.mpr ⟨?_,?_⟩;k_is;refine' Bw.mpr ⟨?_,?_⟩;k_is;refine' Bw.mpr ⟨?_,?_⟩;k_is;refine' Bw.mpr ⟨?_,?_⟩;k_is;refine' Bw.mpr ⟨?_,?_⟩;k_is;refine' Bw.mpr ⟨?_,?_⟩;k_is;refine' Bw.mpr ⟨?_,?_⟩;k_is;exact λx hx=>nomatch hx

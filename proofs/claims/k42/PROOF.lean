import PyProof.Rows.All
import Wide.All
import OpenK.AllK
import Wide.FinOn
import Lean
import PyProof.EqAt
import PyProof.EqKinds
import PyProof.TupleCall
import KE.KDictLaws
import KE.KDictList
import KE.KDictSum
import KE.KIsAll
import KE.KSortTup
import KE.KUnpack
import KE.KUnpackStar
import PyProof.AttrMissSeq
import PyProof.CallStr
import PyProof.Conv_int_bool
import PyProof.DictItems
import PyProof.DictIter
import PyProof.DictList
import PyProof.EnumFor
import PyProof.EnumMake
import PyProof.EnumStmt
import PyProof.ExcArgsOwn
import PyProof.ExcAttrAll.ValueError
import PyProof.ExcBaseAll.ValueError
import PyProof.NeKinds
import PyProof.NsDelKeeps
import PyProof.Rows.CatchOwn
import PyProof.Rows.CountFlat
import PyProof.Rows.EnumRows
import PyProof.Rows.FStr
import PyProof.Rows.SeqMore
import PyProof.Rows.SortRev
import PyProof.Rows.StrSplitJoin
import PyProof.Rows.StrWeight2
import PyProof.Rows.TupDisplay
import PyProof.RulesTry
import PyProof.SetNew
import PyProof.SetRoads
import PyProof.StationsW
import PyProof.TupleKey
import PyProof.WalkInts
import PyProof.ZipIter
import PySem.Challenge.RW_threewebs_k42_no_doubles
abbrev BJ:=@PySem.wpAny_bind
abbrev BK:=@if_neg
abbrev BL:=@if_pos
abbrev BP:=@PySem.wpAny_pure
abbrev BR:=@decide_eq_false
abbrev BW:=@decide_eq_true
abbrev BX:=@of_decide_eq_true
abbrev BZ:=@congrArg
abbrev CG:=@Ne.symm
abbrev CJ:=@PySem.wpAny_holding
abbrev CK:=@PySem.wpAny_mono
abbrev CN:=@PySem.W.mg_none_of
abbrev CP:=@PyProof.Rows.boot_sorted
abbrev CQ:=@PySem.wpAny_newObj_type
abbrev CT:=@PySem.mem_of_lookup
abbrev CV:=@PySem.wpAny_call_entry
abbrev CW:=@PySem.F.plainAttrs_list
abbrev CZ:=@decide_eq_true_iff
abbrev DG:=@PySem.wpAny_setField
abbrev DK:=@PySem.Heap.SameBut.update
abbrev DN:=@if_true
abbrev DP:=@PySem.W.kia_one
abbrev DQ:=@if_false
abbrev DR:=@PySem.boot_len
abbrev DW:=@PySem.wpAny_setState_of
abbrev DX:=@PyProof.Rows.boot_isinstance
abbrev DY:=@PySem.sizeLine_eq
abbrev EY:=@PySem.wpAny_standAt
abbrev FJ:=@PySem.wpAny_truthy_bool
abbrev FN:=@or_false
abbrev FP:=@PySem.wpAny_comprehension_free
abbrev FQ:=@PyProof.Rows.wpS_bind
abbrev FT:=@PySem.Around.under_plainId
abbrev FW:=@PySem.codeAny_builtin
abbrev FZ:=@PySem.wpAny_typeNameOfWhole_itemiter
abbrev GJ:=@decide_eq_true_eq
abbrev GK:=@PySem.F.slot_dict_itemiterator_next
abbrev GX:=@PySem.wpAny_rule
abbrev GZ:=@PyProof.Rows.callWith_type1
abbrev HJ:=@PySem.wpAny_passesOwn
abbrev HN:=@PySem.wpAny_newList
abbrev HS:=@Prod.ext
abbrev HW:=@PySem.wpAny_typeNameOf_itemiter
abbrev HX:=@PySem.wpAny_field
abbrev HY:=@PySem.wpAny_callSpecial?_slot
abbrev IK:=@PySem.wpAny_attempt
abbrev IV:=@PySem.wpAny_Call_Name_kw
abbrev IW:=@PySem.wpAny_setField_rec
abbrev JB:=@of_decide_eq_false
abbrev JC:=@PySem.W.cellsFrom_some
abbrev JD:=@PySem.Calls.callWith_builtin
abbrev JF:=@PyProof.Rows.wpS_pure
abbrev JG:=@PySem.codeAny_mono
abbrev JH:=@PyProof.Rows.boot_int
abbrev JK:=@PySem.Obj.isFreed_of_fields
abbrev JL:=@PySem.plainId_quiet
abbrev JM:=@PySem.wpAny_of_eq
abbrev JN:=@PySem.PassesOwn.never
abbrev JQ:=@PySem.Calls.call_function_entry
abbrev JR:=@Classical.byContradiction
abbrev JT:=@PySem.W.KasT.kasWp_bind
abbrev JV:=@PySem.tupleKind_room_in1
abbrev JW:=@PySem.Obj.data_mapFields
abbrev JX:=@beq_iff_eq
abbrev JZ:=@decide_eq_false_iff_not
abbrev KC:=@PySem.F.slot_list_count
abbrev KD:=@PySem.F.type_list_count
abbrev KH:=@PySem.wpAny_pyIter_slot
abbrev KJ:=@bne_self_eq_false
abbrev KN:=@PySem.F.plain_list_iadd
abbrev KQ:=@PySem.wpAny_isOneOf_itemiter
abbrev KR:=@List.eraseIdx_append_of_lt_length
abbrev KY:=@PyProof.Rows.boot_list
abbrev KZ:=@PySem.W.mg_of
abbrev LC:=@PyProof.Rows.listUpdate_at
abbrev LK:=@PySem.wpAny_askSetting
abbrev LQ:=@List.Perm.append_left
abbrev LR:=@PySem.builtinLookup_eq_fast
abbrev MF:=@List.eraseIdxIfInBounds_toArray
abbrev MJ:=@PySem.F.args_dict_itemiterator_next_1
abbrev MK:=@PySem.Calls.evalArgs_plain
abbrev MN:=@PySem.call_meets
abbrev MP:=@PySem.wpAny_typeOf
abbrev NK:=@PyProof.Rows.listItems_at
abbrev NQ:=@PyProof.Rows.wpS_forRange
abbrev NZ:=@PySem.F.entry_dict_itemiterator_next
abbrev OD:=@PySem.F.slot_dict_itemiterator_iter
abbrev OJ:=@PySem.wpAny_setEntries_of
abbrev PB:=@PySem.wpAny_fieldsOf
abbrev PJ:=@PySem.wpAny_newTuple
abbrev PK:=@PyProof.Rows.seqEpoch_at
abbrev PL:=@PyProof.Rows.assignInOrder_cons
abbrev PN:=@List.lookup_append
abbrev PX:=@List.getElem?_drop
abbrev QB:=@Int.fdiv_eq_ediv_of_nonneg
abbrev QC:=@PyProof.Rows.sortedAll_old
abbrev QD:=@List.perm_ext_iff_of_nodup
abbrev QF:=@Option.isSome_map
abbrev QG:=@List.Pairwise.map
abbrev QJ:=@PySem.wpAny_dictEntries
abbrev QK:=@Nat.lt_trichotomy
abbrev QL:=@PySem.strKind_is
abbrev QM:=@List.drop_eq_getElem_cons
abbrev QS:=@PySem.F.slot_set_contains
abbrev QT:=@Nat.lt_succ_self
abbrev QV:=@PySem.wpAny_isInstance
abbrev QW:=@List.ext_getElem
abbrev QX:=@List.isEmpty_nil
abbrev QZ:=@PySem.F.slot_list_insert
abbrev RB:=@PySem.F.type_list_insert
abbrev RD:=@Option.getD_some
abbrev RG:=@Nat.max_eq_right
abbrev RJ:=@List.eraseIdx_cons_succ
abbrev RK:=@List.getElem?_cons_succ
abbrev RL:=@List.getElem?_cons_zero
abbrev RM:=@List.filter_cons_of_pos
abbrev RN:=@List.pairwise_singleton
abbrev RP:=@PySem.wpAny_execs_nil
abbrev RQ:=@List.of_mem_zip
abbrev RT:=@PySem.wpAny_specialOf
abbrev RV:=@PySem.codeAny_of_tree
abbrev RW:=@PySem.typeLookup_type
abbrev RX:=@PySem.wpAny_dictEpoch
abbrev RZ:=@List.find?_some
abbrev SJ:=@Nat.max_eq_left
abbrev SM:=@List.length_pos_of_mem
abbrev SN:=@List.drop_of_length_le
abbrev SQ:=@List.Perm.append_right
abbrev SX:=@Bool.and_false
abbrev TF:=@List.getElem?_toArray
abbrev TJ:=@Bool.not_false
abbrev TQ:=@PySem.F.plain_set_new
abbrev TV:=@PyProof.Rows.boot_max
abbrev TX:=@PySem.F.slot_list_pop
abbrev TY:=@PySem.F.type_list_pop
abbrev UG:=@Bool.xor_false
abbrev UJ:=@Nat.mod_lt
abbrev UL:=@Bool.xor_self
abbrev UW:=@Nat.le_of_eq
abbrev VB:=@Nat.sub_zero
abbrev VD:=@Nat.succ_pos
abbrev VF:=@Nat.sub_self
def Z2:2<=PySem.sizeLine:=by decide
def Z0:0<=PySem.sizeLine:=by decide
def Z1:1<=PySem.sizeLine:=by decide
def Z3:3<=PySem.sizeLine:=by decide
set_option Elab.async false
set_option linter.all false
set_option maxRecDepth 100000
set_option maxHeartbeats 4000000
abbrev Aa:=@List.length_map
abbrev Ab:=@List.getElem?_eq_getElem
abbrev Ac:=@List.getElem?_eq_some_iff
abbrev Ad:=@List.length_append
abbrev Ae:=@PySem.Heap.get?_push_of_some
abbrev Af:=@List.getElem?_map
abbrev Ag:=@List.mem_singleton
abbrev Ah:=@List.mem_cons_self
abbrev Ai:=@List.map_append
abbrev Aj:=@List.mem_map
abbrev Ak:=@List.mem_cons_of_mem
abbrev Al:=@List.mem_cons
abbrev Am:=@Nat.le_refl
abbrev An:=@List.mem_append
abbrev Ao:=@List.getElem?_append_left
abbrev Ap:=@Option.map_eq_some_iff
abbrev Aq:=@PySem.Heap.get?_push_size
abbrev Ar:=@PySem.Heap.lt_size
abbrev As:=@List.append_assoc
abbrev At:=@List.mem_of_getElem?
abbrev Au:=@List.mem_append_right
abbrev Av:=@Bool.false_ne_true
abbrev Aw:=@List.size_toArray
abbrev Ax:=@List.length_cons
abbrev Ay:=@List.getElem?_append_right
abbrev Az:=@List.mem_append_left
abbrev Ba:=@List.append_nil
abbrev Bb:=@Nat.lt_of_lt_of_le
abbrev Bc:=@List.getElem?_eq_none
abbrev Bd:=@List.length_take
abbrev Be:=@List.getElem?_of_mem
abbrev Bf:=@Int.toNat_natCast
abbrev Bg:=@List.nodup_iff_pairwise_ne
abbrev Bh:=@List.map_cons
abbrev Bi:=@List.nodup_cons
abbrev Bj:=@List.length_eq_zero_iff
abbrev Bk:=@List.mem_filter
abbrev Bm:=@List.take_length
abbrev Bn:=@Nat.ne_of_lt
abbrev Bo:=@Array.getElem?_toList
abbrev Bp:=@Nat.zero_le
abbrev Bq:=@Bool.and_eq_true
abbrev Br:=@PySem.Heap.get?_update_other
abbrev Bs:=@List.getElem_mem
abbrev Bt:=@List.pairwise_iff_getElem
abbrev Bu:=@Bool.false_eq_true
abbrev Bv:=@Nat.le_trans
abbrev Bw:=@Nat.le_of_lt
abbrev Bx:=@List.take_add_one
abbrev By:=@List.not_mem_nil
abbrev Bz:=@Int.emod_nonneg
abbrev Cb:=@List.mem_range
abbrev Cc:=@List.flatMap_cons
abbrev Cd:=@Nat.mod_eq_of_lt
abbrev Ce:=@List.perm_append_comm
abbrev Cf:=@List.nodup_append
abbrev Cg:=@Int.emod_lt_of_pos
abbrev Ch:=@Array.length_toList
abbrev Ci:=@List.map_map
abbrev Cj:=@List.nodup_nil
abbrev Ck:=@List.length_filter_le
abbrev Cm:=@Nat.ne_of_gt
abbrev Cn:=@Nat.lt_succ_of_lt
abbrev Co:=@Nat.lt_irrefl
abbrev Cp:=@List.filter_append
abbrev Cq:=@List.length_singleton
abbrev Cr:=@PySem.Heap.get?_update_self
abbrev Cs:=@List.map_congr_left
abbrev Ct:=@List.filter_cons
abbrev Cu:=@List.flatMap_append
abbrev Cv:=@List.take_append_drop
abbrev Cw:=@List.flatten_cons
abbrev Cy:=@List.pairwise_map
abbrev Cz:=@List.mem_iff_getElem
abbrev Da:=@Bool.eq_iff_iff
abbrev Db:=@List.length_drop
abbrev Dc:=@List.take_of_length_le
abbrev Dd:=@List.mem_flatMap
abbrev De:=@List.length_pos_iff
abbrev Dg:=@Int.zero_add
abbrev Dh:=@List.count_cons
abbrev Di:=@List.lookup_cons
abbrev Dj:=@List.all_eq_true
abbrev Dk:=@List.length_eraseIdx
abbrev Dl:=@List.getElem_map
abbrev Dm:=@PySem.Heap.size_push
abbrev Do:=@List.ext_getElem?
abbrev Dp:=@List.range_succ
abbrev Dq:=@List.contains_iff_mem
abbrev Dr:=@List.count_pos_iff
abbrev Ds:=@List.getElem?_take_of_lt
abbrev Dt:=@Nat.lt_or_ge
abbrev Du:=@List.length_range
abbrev Dv:=@Nat.not_lt_zero
abbrev Dw:=@Nat.mod_self
abbrev Dx:=@List.filter_eq_nil_iff
abbrev Dy:=@Array.getElem?_eq_some_iff
abbrev Dz:=@List.foldl_cons
abbrev Eb:=@Nat.le_succ
abbrev Ec:=@Nat.le_of_succ_le
abbrev Ed:=@Bool.eq_false_iff
abbrev Ee:=@Option.isSome_iff_exists
abbrev Ef:=@List.getElem?_range
abbrev Eh:=@List.getElem?_replicate
abbrev Ej:=@List.getElem_range
abbrev Ek:=@List.append_eq_nil_iff
abbrev El:=@List.find?_cons
abbrev Em:=@List.length_nil
abbrev Ep:=@List.length_replicate
abbrev Er:=@List.count_append
abbrev Es:=@Array.getD_eq_getD_getElem?
abbrev Eu:=@List.mem_zipIdx_iff_le_and_getElem?_sub
abbrev Ex:=@Array.getElem?_setIfInBounds_self_of_lt
abbrev Ey:=@List.mem_erase_of_ne
abbrev Ez:=@Nat.one_pos
abbrev Fa:=@List.getElem?_modify
abbrev Fb:=@List.cons_append
abbrev Fc:=@Nat.min_eq_right
abbrev Fd:=@List.mem_flatten
abbrev Fe:=@Array.getElem?_eq_getElem
abbrev Ff:=@List.exists_mem_of_ne_nil
abbrev Fg:=@List.filterMap_cons
abbrev Fh:=@List.flatten_append
abbrev Fi:=@List.any_cons
abbrev Fj:=@Bool.not_true
abbrev Fk:=@List.length_erase_of_mem
abbrev Fm:=@List.mem_of_mem_eraseIdx
abbrev Fn:=@Nat.min_eq_left
abbrev Fo:=@List.append_of_mem
abbrev Fp:=@List.pairwise_cons
abbrev Fq:=@Nat.lt_of_le_of_ne
abbrev Fr:=@List.getElem?_set_self
abbrev Fs:=@Nat.zero_add
abbrev Ft:=@Array.getElem?_eq_none
abbrev Fu:=@List.getElem?_eraseIdx
abbrev Fv:=@List.lt_irrefl
abbrev Fw:=@Nat.zero_lt_of_lt
abbrev Fx:=@List.getElem_inj
abbrev Fy:=@List.sum_cons
abbrev Fz:=@List.getElem?_set_ne
abbrev Ga:=@PySem.Heap.get?_push_cases
abbrev Gb:=@Option.map_some
abbrev Gc:=@List.forIn_cons
abbrev Gd:=@List.nil_append
abbrev Ge:=@Bool.false_xor
abbrev Gf:=@List.all_cons
abbrev Gg:=@List.lt_trans
namespace L2
open PySem PySem.Spec PyProof.Rows
abbrev Key:=Sum Int Str
def rk:Key->Value->Bool
 | .inl k,v=>Value.isInt k v
 | .inr x,v=>Value.isStrOf x v
def AT(w:World):Key->Int
 | .inl k=>hashInt k
 | .inr x=>hashStr w x
theorem kZ:∀{k:Key} {v:Value},rk k v=true->(∃ i t,k=Sum.inl i/\v=Value.int i t)\/(∃ x t,k=Sum.inr x/\v=Value.str x t)
 | .inl i,v,h=>by
  obtain⟨t,e⟩:=Value.isInt_shape (k:=i) (v:=v) h;exact .inl ⟨i,t,rfl,e⟩
 | .inr x,v,h=>by
  obtain⟨t,e⟩:=Value.isStrOf_shape (x:=x) (v:=v) h;exact .inr ⟨x,t,rfl,e⟩
def UN(i:Int)(t:Tok):rk (.inl i) (.int i t)=true:=by simp [rk,Value.isInt]
def UO(x:Str)(t:Tok):rk (.inr x) (.str x t)=true:=by simp [rk,Value.isStrOf]
def UP(a b:Int):decide ((Sum.inl a:Key)=Sum.inl b)=(a == b):=by
 by_cases e:a=b
 ·subst e;simp
 ·have h:¬(Sum.inl a:Key)=Sum.inl b:=λq=>e<|Sum.inl.inj q;rw [BR h];exact(beq_eq_false_iff_ne.mpr e).symm
def UQ(a b:Str):decide ((Sum.inr a:Key)=Sum.inr b)=decide (a=b):=by
 by_cases e:a=b
 ·subst e;simp
 ·have h:¬(Sum.inr a:Key)=Sum.inr b:=λq=>e<|Sum.inr.inj q;rw [BR h,BR e]
def UR(a:Int)(b:Str):decide ((Sum.inl a:Key)=Sum.inr b)=false:=BR λq=>nomatch q
def UT(a:Str)(b:Int):decide ((Sum.inr a:Key)=Sum.inl b)=false:=BR λq=>nomatch q
def dh(prog:Program)(w:World):PySem.KeyKind prog w Key where
 is:=rk
 hash:=AT w
 inj:=λv a b ha hb=>by
  rcases kZ ha with ⟨i,t,rfl,rfl⟩ | ⟨x,t,rfl,rfl⟩
  ·rcases kZ hb with ⟨j,u,rfl,e⟩ | ⟨y,u,rfl,e⟩
   ·injection e with e1 _;rw [e1]
   ·exact nomatch e
  ·rcases kZ hb with ⟨j,u,rfl,e⟩ | ⟨y,u,rfl,e⟩
   ·exact nomatch e
   ·injection e with e1 _;rw [e1]
 byValue:=λk v h=>by
  rcases kZ h with ⟨i,t,rfl,rfl⟩ | ⟨x,t,rfl,rfl⟩ <;> rfl
 pyHash:=λhv h=>by
  rcases kZ hv with ⟨i,t,rfl,rfl⟩ | ⟨x,t,rfl,rfl⟩
  ·exact wpAny_pyHash_int h
  ·exact wpAny_pyHash_str h
 eqBool:=λhu hv h=>by
  rcases kZ hu with ⟨i,t,rfl,rfl⟩ | ⟨x,t,rfl,rfl⟩
  ·rcases kZ hv with ⟨j,u,rfl,rfl⟩ | ⟨y,u,rfl,rfl⟩
   ·rw [UP] at h;exact wpAny_eqBool_int h
   ·rw [UR] at h;exact SeqAt.EqAt.int_str i t y u _ _ _ _ h
  ·rcases kZ hv with ⟨j,u,rfl,rfl⟩ | ⟨y,u,rfl,rfl⟩
   ·rw [UT] at h;exact SeqAt.EqAt.str_int x t j u _ _ _ _ h
   ·rw [UQ] at h;exact wpAny_eqBool_str h
 «strs»:=λk x t v h=>by
  rcases kZ h with ⟨i,u,rfl,e⟩ | ⟨y,u,rfl,e⟩
  ·exact nomatch e
  ·injection e with e1 _
   subst e1;cases v <;> rfl
def UU(prog:Program)(w:World)(i:Int)(t:Tok):(dh prog w).is (.inl i) (.int i t)=true:=UN i t
def UX(prog:Program)(w:World)(x:Str)(t:Tok):(dh prog w).is (.inr x) (.str x t)=true:=UO x t
inductive V where
 | non | bl (b:Bool) | int (i:Int) | str (x:Str) | iW (b:Array UInt8) | rm (b:UInt64) | ref (a:Addr) | ty (n:String)
 deriving DecidableEq
def RelV:V->Value->Prop
 | .non,u=>u=Value.none
 | .bl b,u=>u=Value.bool b
 | .int i,u=>∃ t,u=Value.int i t
 | .str x,u=>∃ t,u=Value.str x t
 | .iW b,u=>∃ t,u=Value.bytes b t
 | .rm b,u=>∃ t,u=Value.float b t
 | .ref a,u=>u=Value.ref a
 | .ty n,u=>u=Value.type n
abbrev ax:List V->List Value->Prop:=Paired RelV
def ax.length{xs:List V}{us:List Value}(r:ax xs us):xs.length=us.length:=Paired.length r
theorem ax.get:∀{xs:List V} {us:List Value} {i:Nat} {x:V},ax xs us->xs[i]?=some x->∃ u,us[i]?=some u/\RelV x u
 | _,_,_,_,.nil,e=>by simp at e
 | _,_,0,_,.cons r _,e=>by simp at e;subst e;exact⟨_,rfl,r⟩
 | _,_,i+1,x,.cons _ t,e=>by
  obtain⟨u,h1,h2⟩:=ax.get (i:=i) (x:=x) t (by simpa using e);exact⟨u,by simpa using h1,h2⟩
theorem ax.set{x:V}{u:Value}(r:RelV x u):∀{xs:List V} {us:List Value} (i:Nat),ax xs us->ax (xs.set i x) (us.set i u)
 | _,_,_,.nil=> .nil
 | _,_,0,.cons _ t=> .cons r t
 | _,_,i+1,.cons q t=> .cons q<|ax.set r i t
theorem ax.append:∀{xs ys:List V} {us ws:List Value},ax xs us->ax ys ws->ax (xs++ys) (us++ws)
 | _,_,_,_,.nil,s=>s
 | _,_,_,_,.cons r t,s=> .cons r<|ax.append t s
theorem ax.take:∀{xs:List V} {us:List Value} (n:Nat),ax xs us->ax (xs.take n) (us.take n)
 | _,_,0,_=> .nil
 | _,_,_+1,.nil=> .nil
 | _,_,n+1,.cons r t=> .cons r<|ax.take n t
theorem ax.drop:∀{xs:List V} {us:List Value} (n:Nat),ax xs us->ax (xs.drop n) (us.drop n)
 | _,_,0,r=>r
 | _,_,_+1,.nil=> .nil
 | _,_,n+1,.cons _ t=>ax.drop n t
def dN:Option V->Option Value->Prop
 | some v,some u=>RelV v u
 | none,none=>True
 | _,_=>False
def KV{κ:Type}:List (κ×V)->List (κ×Value)->Prop:=Paired λ(p:κ×V) (q:κ×Value)=>p.1=q.1/\RelV p.2 q.2
def kV:Key->V
 | .inl i=> .int i
 | .inr x=> .str x
inductive HO where
 | lst (xs:List V)
 | tup (xs:List V)
 | dK (kvs:List<|Key×V) | dT (kvs:List<|List Key×V)
 | set (S:Int->Bool) (n:Nat)
 | ins (C dx:Addr) (fs:List<|Str×V)
 | own (x:Addr)
 | xd (fs:List<|Str×V)
 | met (f x:Addr)
 | o7 (lo hi:Int)
 | bh (o:Obj) (u:HO)
 | nB (ps:Array Value)
 | ext (φ:Heap->Prop)
abbrev Hp:=Addr->Option HO
def upd(H:Hp)(a:Addr)(o:HO):Hp:=λb=>if b=a then some o else H b
def av{H:Hp}{a:Addr}{o:HO}:upd H a o a=some o:=by unfold upd;rw [BL rfl]
def au{H:Hp}{a b:Addr}{o:HO}(h:b≠a):upd H a o b=H b:=by unfold upd;rw [BK h]
def o8{H:Hp}{a:Addr}{o u:HO}:upd (upd H a o) a u=upd H a u:=by
 funext b;unfold upd;split <;> rfl
def bQ{H:Hp}{a b:Addr}{o u:HO}(h:H a=some o)(h':H b=some u)(d:o≠u):a≠b:=by
 intro e;subst e;rw [h] at h';exact d<|Option.some.inj h'
def bd{H:Hp}{a b:Addr}{o:HO}(h:H a=some o)(h':H b=none):a≠b:=by
 intro e;subst e;rw [h] at h';cases h'
section
variable(P:Program)(w:World)
def az(H:Hp)(h:Heap)(a:Addr):HO->Prop
 | .lst xs=>xs.length<=sizeLine/\∃(its:List Value) (n:Nat),ax xs its/\h.get? a=some {cls:= .type "list",data:= .seq its.toArray n}
 | .tup xs=>xs.length<=sizeLine/\∃ its:List Value,ax xs its/\IsTup h a its.toArray
 | .dK kvs=>kvs.length<=sizeLine/\(a == sysModules)=false/\∃ vs,KV kvs vs/\h.DictOf (dh P w) a vs
 | .dT kvs=>kvs.length<=sizeLine/\(a == sysModules)=false/\∃ xs:List<|List Key×Addr×Value,
   Paired (λ(p:List Key×V) (q:List Key×Addr×Value)=>p.1=q.1/\H q.2.1=some (.tup<|p.1.map kV)/\RelV p.2 q.2.2) kvs xs /\
   ∃ o es ep,h.get? a=some o/\o.ExactDict/\o.data = .dict es ep/\es.toList=xs.map (entryOfKey<|tupleKind<|dh P w)/\(xs.map (·.1)).Nodup
 | .set S n=>h.SetOf (intKind P w) a S n
 | .ins C dx fs=>H dx=some (.own a)/\fs.length<=1000/\dx≠a/\h.get? a=some (PySem.W.instObj C dx) /\
   ∃ mA,h.Ns1 dx mA/\(∀ f,dN (fs.lookup f)<|mA f)/\PySem.Within mA (fs.map (·.1))
 | .own _=>∃ o,h.get? a=some o
 | .xd fs=>∃ mA,h.Ns1 a mA/\∀ f,dN (fs.lookup f)<|mA f
 | .o7 lo hi=>∃ t u v,h.get? a=some {cls:= .type "range",data:= .fields #[.int lo t,.int hi u,.int 1 v]}
 | .bh o u=>h.get? a=some o/\az H h a u
 | .nB ps=>h.get? a=some {cls:= .none,data:= .fields ps}
 | .met f x=>h.get? a=some (PySem.W.methodObj (.ref f)<|.ref x)
 | .ext φ=>φ h/\(∃ o,h.get? a=some o)/\∀ h1 h2:Heap,φ h1->(∀ o,h1.get? a=some o->h2.get? a=some o)->φ h2
def b8(H:Hp)(h:Heap):Prop:=∀ a o,H a=some o->az P w H h a o
end
section
variable{P:Program}{w:World}{H H':Hp}{h h':Heap}{a:Addr}{o:HO}
theorem az.lt(x:az P w H h a o):a < h.objs.size:=by
 cases o with
 | lst xs=>obtain⟨_,_,_,_,e⟩:=x;exact Ar e
 | tup xs=>obtain⟨_,_,_,p⟩:=x;exact p.lt
 | dK kvs=>obtain⟨_,_,_,_,o,_,_,e,_⟩:=x;exact Ar e
 | dT kvs=>obtain⟨_,_,_,_,o,_,_,e,_⟩:=x;exact Ar e
 | set S n=>obtain⟨o,_,_,_,e,_⟩:=x;exact Ar e
 | ins C dx fs=>obtain⟨_,_,_,e,_⟩:=x;exact Ar e
 | own y=>obtain⟨_,e⟩:=x;exact Ar e
 | xd fs=>obtain⟨_,⟨_,_,_,e,_⟩,_⟩:=x;exact Ar e
 | o7 lo hi=>obtain⟨_,_,_,e⟩:=x;exact Ar e
 | bh ob u=>obtain⟨e,_⟩:=x;exact Ar e
 | nB ps=>exact Ar (show h.get? a=some _ from x)
 | met f y=>exact Ar (show h.get? a=some _ from x)
 | ext φ=>obtain⟨_,⟨_,e⟩,_⟩:=x;exact Ar e
theorem Paired.o9{α β:Type}{F G:α->β->Prop}:∀{l₁:List α} {l₂:List β},Paired F l₁ l₂->(∀ a b,F a b->G a b)->Paired G l₁ l₂
 | _,_,.nil,_=> .nil
 | _,_,.cons r t,f=> .cons (f _ _ r)<|Paired.o9 t f
theorem az.fk(x:az P w H h a o)(k:∀ b u,(b=a\/H b=some (.own a))->h.get? b=some u->h'.get? b=some u)
  (ho:∀ b,H b=some (.own a)->H' b=some (.own a)) (ht:∀ b xs,H b=some (.tup xs)->H' b=some (.tup xs)):az P w H' h' a o:=by
 induction o with
 | lst xs=>obtain⟨z,its,n,r,e⟩:=x;exact⟨z,its,n,r,k _ _ (.inl rfl) e⟩
 | tup xs=>obtain⟨z,its,r,ob,e,c⟩:=x;exact⟨z,its,r,ob,k _ _ (.inl rfl) e,c⟩
 | dK kvs=>obtain⟨z,y,vs,r,ob,es,ep,e,c⟩:=x;exact⟨z,y,vs,r,ob,es,ep,k _ _ (.inl rfl) e,c⟩
 | dT kvs=>
  obtain⟨z,y,xs,r,ob,es,ep,e,c⟩:=x;exact⟨z,y,xs,Paired.o9 r λp q z=>⟨z.1,ht _ _ z.2.1,z.2.2⟩,ob,es,ep,k _ _ (.inl rfl) e,c⟩
 | set S n=>obtain⟨ob,es,ep,t,e,c⟩:=x;exact⟨ob,es,ep,t,k _ _ (.inl rfl) e,c⟩
 | ins C dx fs=>
  obtain⟨d,z,ne,e,mA,⟨od,es,ep,e2,c⟩,r⟩:=x;exact⟨ho _ d,z,ne,k _ _ (.inl rfl) e,mA,⟨od,es,ep,k _ _ (.inr d) e2,c⟩,r⟩
 | own y=>obtain⟨ob,e⟩:=x;exact⟨ob,k _ _ (.inl rfl) e⟩
 | xd fs=>obtain⟨mA,⟨od,es,ep,e,c⟩,r⟩:=x;exact⟨mA,⟨od,es,ep,k _ _ (.inl rfl) e,c⟩,r⟩
 | o7 lo hi=>obtain⟨t,u,v,e⟩:=x;exact⟨t,u,v,k _ _ (.inl rfl) e⟩
 | bh ob u ih=>obtain⟨e,q⟩:=x;exact⟨k _ _ (.inl rfl) e,ih q⟩
 | nB ps=>
  have e:h.get? a=some {cls:= .none,data:= .fields ps}:=x;show h'.get? a=some {cls:= .none,data:= .fields ps};exact k a _ (.inl rfl) e
 | met f y=>
  have e:h.get? a=some (PySem.W.methodObj (.ref f)<|.ref y):=x;show h'.get? a=some (PySem.W.methodObj (.ref f)<|.ref y);exact k a _ (.inl rfl) e
 | ext φ=>obtain⟨p,⟨o,e⟩,st⟩:=x;exact⟨st _ _ p λo q=>k _ _ (.inl rfl) q,⟨o,k _ _ (.inl rfl) e⟩,st⟩
def b8.lt(x:b8 P w H h)(e:H a=some o):a < h.objs.size:=(x a o e).lt
theorem b8.fresh(x:b8 P w H h)(e:h.objs.size<=a):H a=none:=by
 cases q:H a with
 | none=>rfl
 | some u=>exact absurd (Bb (x.lt q) e)<|Co _
def b8.kept(x:b8 P w H h)(k:∀ b u,h.get? b=some u->h'.get? b=some u):b8 P w H h':=λa o e=>
 (x a o e).fk (λb u _ q=>k b u q) (λ_ q=>q) λ_ _ q=>q
def b8.laid(x:b8 P w H h)(k:∀ b u,h.get? b=some u->h'.get? b=some u)(hp:h.objs.size<=a)(new:az P w (upd H a o) h' a o):b8 P w (upd H a o) h':=λb u e=>by
 have hn:=x.fresh hp
 by_cases hb:b=a
 ·subst hb;rw [av] at e;cases e;exact new
 ·rw [au hb] at e;exact(x b u e).fk (λc v _ q=>k c v q) (λc q=>by rw [au<|bd q hn];exact q) λc xs q=>by rw [au<|bd q hn];exact q
end
def Rd(H:Hp)(a:Addr)(u:HO):Prop:=H a=some u\/∃ o,H a=some (.bh o u)
def Rd.ok{P:Program}{w:World}{H:Hp}{h:Heap}{a:Addr}{u:HO}(r:Rd H a u)(x:b8 P w H h):az P w H h a u:=by
 rcases r with r | ⟨o,r⟩
 ·exact x a u r
 ·obtain⟨_,q⟩:=x a _ r;exact q
def tM:Option HO->Prop
 | some (.lst _)=>True
 | some (.dK _)=>True
 | some (.dT _)=>True
 | some (.set _ _)=>True
 | some (.ins _ _ _)=>True
 | some (.ext _)=>True
 | _=>False
section
variable{P:Program}{w:World}{H:Hp}{h h':Heap}{x e:Addr}{o':HO}
def b8.write(ok:b8 P w H h)(mu:tM<|H x)(he:e=x\/H e=some (.own x))(k:∀ b u,b≠e->h.get? b=some u->h'.get? b=some u)(ro:∃ u,h'.get? e=some u)
  (new:az P w (upd H x o') h' x o'):b8 P w (upd H x o') h':=λb u q=>by
 have tN:∀ c y,H c=some (.own y)->c≠x:=λc y r z=>by subst z;rw [r] at mu;exact mu
 have AU:∀ c xs,H c=some (.tup xs)->c≠x:=λc xs r z=>by subst z;rw [r] at mu;exact mu
 by_cases hb:b=x
 ·subst hb;rw [av] at q;cases q;exact new
 ·rw [au hb] at q
  by_cases fK:b=e
  ·have q':H b=some (.own x):=by
    rcases he with z | z
    ·exact absurd (fK.trans z) hb
    ·rw [fK];exact z
   rw [q] at q';cases q';obtain⟨v,hv⟩:=ro;exact⟨v,by rw [fK];exact hv⟩
  ·refine(ok b u q).fk (λc v hc r=>k c v ?_ r) (λc r=>by rw [au<|tN c b r];exact r) λc xs r=>by rw [au<|AU c xs r];exact r
   rcases hc with rfl | hc
   ·exact fK
   ·rintro rfl
    rcases he with z | z
    ·exact tN c b hc z
    ·rw [hc] at z;cases z;exact hb rfl
end
structure Un(fs ex:List Addr)(H H':Hp)(h h':Heap):Prop where
 keep:∀ b o,h.get? b=some o->H b=none->b∉fs->b∉ex->h'.get? b=some o
 slot:∀ b o,h.get? b=some o->H b=none->b∈fs->b∉ex->∃ sl,h'.get? b=some {o with slots:=sl}
 free:∀ b o,h.get? b=some o->H b=none->b∉ex->H' b=none
 there:∀ b o,h.get? b=some o->b∉ex->∃ o',h'.get? b=some o'
 dP:∀ b xs,H b=some (.tup xs)->H' b=some (.tup xs)
 du:∀ b o u,H b=some (.bh o u)->H' b=some (.bh o u)
 dQ:∀ b ps,H b=some (.nB ps)->∃ more,H' b=some (.nB<|ps++more)
section
variable{fs UY ex LZ:List Addr}{H H1 H2:Hp}{h h1 h2 h':Heap}{a x e:Addr}{o:HO}
def Un.any(u:Un fs ex H H1 h h1){b:Addr}{ob:Obj}(q:h.get? b=some ob)(n:H b=none)(hx:b∉ex):∃ sl,h1.get? b=some {ob with slots:=sl}:=by
 by_cases hb:b∈fs
 ·exact u.slot b ob q n hb hx
 ·exact⟨ob.slots,u.keep b ob q n hb hx⟩
def Un.kept(k:∀ b u,h.get? b=some u->h'.get? b=some u):Un fs ex H H h h':=
 ⟨λb ob q _ _ _=>k b ob q,λb ob q _ _ _=>⟨ob.slots,k b ob q⟩,λ_ _ _ n _=>n,λb ob q _=>⟨ob,k b ob q⟩,λ_ _ q=>q,λ_ _ _ q=>q,λ_ ps q=>⟨#[],by rw [q];simp⟩⟩
def Un.refl:Un fs ex H H h h:=Un.kept λ_ _ q=>q
def Un.laid(k:∀ b u,h.get? b=some u->h'.get? b=some u)(hp:h.objs.size<=a)(hn:H a=none):Un fs ex H (upd H a o) h h' where
 keep:=λb u q _ _ _=>k b u q
 slot:=λb u q _ _ _=>⟨u.slots,k b u q⟩
 free:=λb u q n _=>by rw [au<|Bn<|Bb (Ar q) hp];exact n
 there:=λb u q _=>⟨u,k b u q⟩
 dP:=λb xs q=>by rw [au<|bd q hn];exact q
 du:=λb u xs q=>by rw [au<|bd q hn];exact q
 dQ:=λb ps q=>⟨#[],by rw [au<|bd q hn,q];simp⟩
def Un.write(mu:tM<|H x)(he:e=x\/H e=some (.own x))(k:∀ b u,b≠e->h.get? b=some u->h'.get? b=some u)(ro:∃ u,h'.get? e=some u):Un fs ex H (upd H x o) h h':=by
 have hx:∀ b,H b=none->b≠x:=λb n z=>by subst z;rw [n] at mu;exact mu
 have hb:∀ b,H b=none->b≠e:=λb n z=>by
  subst z
  rcases he with r | r
  ·exact hx b n r
  ·rw [n] at r;cases r
 have hm:∀ b u,H b=some u->¬ tM (some u)->b≠x:=λb u q nm z=>by subst z;rw [q] at mu;exact nm mu
 refine⟨λb u q n _ _=>k b u (hb b n) q,λb u q n _ _=>⟨u.slots,k b u (hb b n) q⟩,λb u q n _=>by rw [au<|hx b n];exact n,λb u q _=>?_,
  λb xs q=>by rw [au<|hm b _ q λz=>z];exact q,λb u xs q=>by rw [au<|hm b _ q λz=>z];exact q,λb ps q=>⟨#[],by rw [au<|hm b _ q λz=>z,q];simp⟩⟩
 by_cases fK:b=e
 ·subst fK;exact ro
 ·exact⟨u,k b u fK q⟩
end
def xN(h:Heap)(H:Hp):List Addr:=(List.range h.objs.size).filter λa=>(H a).isSome
def fm(h:Heap)(H:Hp):Heap:=PySem.W.hideAll h<|xN h H
def UZ(h:Heap)(H:Hp):(fm h H).objs.size=h.objs.size:=PySem.W.hideAll_size _ _
def U0{h:Heap}{H:Hp}{b:Addr}{o:Obj}(e:h.get? b=some o)(n:H b=none):(fm h H).get? b=some o:=
 PySem.W.hideAll_get _ e λhm=>by
  have q:(H b).isSome=true:=(Bk.mp hm).2;rw [n] at q;simp at q
theorem U1{h:Heap}{H:Hp}{b:Addr}{o:Obj}(e:(fm h H).get? b=some o):h.get? b=some o/\H b=none:=by
 have e':h.get? b=some o:=PySem.W.of_hideAll (xN h H) e;refine⟨e',?_⟩;cases q:H b with
 | none=>rfl
 | some x=>
  have hm:b∈xN h H:=Bk.mpr ⟨Cb.mpr<|Ar e',by simp [q]⟩;have z:(fm h H).get? b=none:=PySem.W.hideAll_none (xN h H) hm;rw [z] at e;cases e
structure Mod(K:PySem.W.Frag)(mg:Str->Option Value)(base:Heap):Prop where
 pc:K.In base
 glob:base.Ns mainGlobals mg
 blt:∃ mb,base.Ns builtinsNs mb/\∀ x:Str,x ≠ "__name__"->mb x=bootBuiltins x
 nolimit:base.NoLimit
structure Cx where
 prog:Program
 w:World
 K:PySem.W.Frag
 mg:Str->Option Value
 base:Heap
 A:Around
 N:List Str
 s₀:Shared
 H₀:Hp
 env:Env
 outer:List Env
 stack:List Env
 ex:List Addr
 fn:Str->Bool
 calm:Bool
 pn:List<|Addr×Obj
 xe:Value->Shared->Prop
def di(l:List Env):List Addr:=l.filterMap (·.frame)
abbrev Cx.fs(X:Cx):List Addr:=di X.outer
def AV(sc:Scope)(x:Str):Prop:=sc.names.lookup x=some .local\/sc.names.lookup x=some .cell\/sc.names.lookup x=some .free
def Loc(sc:Scope)(x:Str):Prop:=sc.names.lookup x=some .local\/sc.names.lookup x=some .cell
def Look(env:Env)(h:Heap)(m:Str->Option Value)(x:Str)(u:Value):Prop:=
 (env.kindOf x=some .local/\m x=some u)\/((env.kindOf x=some .cell\/env.kindOf x=some .free)/\∃ c,env.cells.lookup x=some c/\h.IsCell c (some u))
structure Cx.Ok(X:Cx):Prop where
 mod:Mod X.K X.mg X.base
 kind:X.env.scope.kind = .function
 glob:X.env.globals=mainGlobals
 blt:X.env.builtins=builtinsNs
 above:X.s₀.heap.objs.size<=X.env.locals
 inj:∀ x y c,X.env.cells.lookup x=some c->X.env.cells.lookup y=some c->x=y
 has:∀ x,(X.env.kindOf x=some .cell\/X.env.kindOf x=some .free)->∃ c,X.env.cells.lookup x=some c
 lR:∀ x c,X.fn x=true->X.env.cells.lookup x=some c->X.s₀.heap.objs.size<=c
 hd:X.calm=true->X.A.handled=none
 frames:X.A.frames=some X.stack
 k4:X.stack=X.outer\/(X.stack=X.env :: X.outer/\X.env.frame=some X.env.locals)
 rp:∀ b∈X.ex,b≠X.env.locals/\∀ x c,X.env.cells.lookup x=some c->c≠b
 bs:∀ b o,X.base.get? b=some o->X.s₀.heap.get? b=some o/\X.H₀ b=none
 js:X.base.objs.size<=X.s₀.heap.objs.size
 fq:∀ b o,X.base.get? b=some o->b∉X.ex
 fV:∀ b∈X.ex,b∉X.fs
 cr:X.s₀.heap.FunFrames X.base X.outer
 k6:∀ b∈X.fs,X.H₀ b=none
structure Inv(X:Cx)(pins:List<|Addr×Obj)(σ:List<|Option V)(H:Hp)(s:Shared):Prop where
 ok:X.Ok
 os:s.os=X.s₀.os
 bare:AllBare s.gens
 base:Un X.fs X.ex X.H₀ H X.s₀.heap s.heap
 loc:∃ m,s.heap.Ns X.env.locals m/\∀(i:Nat) (x:Str) (v:V),X.N[i]?=some x->σ[i]?=some (some v)->AV X.env.scope x->∃ u,RelV v u/\Look X.env s.heap m x u
 cell:∀ x c,X.env.cells.lookup x=some c->∃ v,s.heap.IsCell c v
 free:H X.env.locals=none
 bt:∀ x c,X.env.cells.lookup x=some c->H c=none
 pin:∀ p∈X.pn++pins,s.heap.get? p.1=some p.2/\H p.1=none/\p.1≠X.env.locals/\p.1∉X.fs/\∀ v,p.2.data ≠ .cell v
 aB:b8 X.prog X.w H s.heap
 len:σ.length=X.N.length
section
variable{X:Cx}{pins:List (Addr×Obj)}{σ:List (Option V)}{H H':Hp}{s:Shared}{h':Heap}
def Cx.Ok.AW(ok:X.Ok){b:Addr}{o:Obj}(e:X.base.get? b=some o):b∉X.fs:=λhb=>by
 have:=(ok.cr.mem hb).1;rw [e] at this;cases this
def Inv.bs(I:Inv X pins σ H s):∀ b o,X.base.get? b=some o->s.heap.get? b=some o/\H b=none:=λb o e=>
 ⟨I.base.keep b o (I.ok.bs b o e).1 (I.ok.bs b o e).2 (I.ok.AW e)<|I.ok.fq b o e,I.base.free b o (I.ok.bs b o e).1 (I.ok.bs b o e).2<|I.ok.fq b o e⟩
def Inv.bk(I:Inv X pins σ H s):∀ b o,X.base.get? b=some o->s.heap.get? b=some o:=λb o e=>(I.bs b o e).1
def Inv.mod(I:Inv X pins σ H s):Mod X.K X.mg X.base:=I.ok.mod
def Inv.d9(I:Inv X pins σ H s):X.K.In s.heap:=I.ok.mod.pc.keeps I.bk
def Inv.lt(I:Inv X pins σ H s):X.env.locals < s.heap.objs.size:=let ⟨_,hn,_⟩:=I.loc;hn.lt
def Inv.sz(I:Inv X pins σ H s):X.s₀.heap.objs.size<=s.heap.objs.size:=Bv I.ok.above<|Bw I.lt
def Inv.AX(I:Inv X pins σ H s){a:Addr}(h:s.heap.objs.size<=a):a∉X.fs:=λhb=>by
 obtain⟨_,o,ho,_⟩:=I.ok.cr.mem hb;exact absurd (Bb (Ar ho)<|Bv I.sz h)<|Co _
def Inv.jL(I:Inv X pins σ H s):∀ x c,X.env.cells.lookup x=some c->c≠X.env.locals:=λx c e z=>by
 obtain⟨v,o,ho,hd⟩:=I.cell x c e;obtain⟨m,⟨o',es,ep,dH,U2,_⟩,_⟩:=I.loc;rw [z,dH] at ho;cases ho;rw [U2] at hd;cases hd
def Inv.cr(I:Inv X pins σ H s):s.heap.FunFrames X.base X.outer:=by
 have all:∀(l:List Env),(∀ b∈di l,b∈X.fs)->X.s₀.heap.FunFrames X.base l->s.heap.FunFrames X.base l:=by
  intro l
  induction l with
  | nil=>intro _ _;trivial
  | cons env r ih=>
   intro hs hl;obtain⟨hk,⟨L,o,hf,hn,ho,hd⟩,hr⟩:=hl;have hL:L∈X.fs:=hs L (by unfold di;rw [Fg,hf];exact Ah);obtain⟨sl,e⟩:=I.base.slot L o ho (I.ok.k6 L hL) hL λz=>I.ok.fV L z hL;exact⟨hk,⟨L,_,hf,hn,e,hd⟩,ih (λb hb=>hs b<|by unfold di;rw [Fg,hf];exact Ak _ hb) hr⟩
 exact all X.outer (λ_ hb=>hb) I.ok.cr
def Inv.stack(I:Inv X pins σ H s):s.heap.FunFrames X.base X.stack:=by
 rcases I.ok.k4 with e | ⟨e,hf⟩
 ·rw [e];exact I.cr
 ·rw [e];obtain⟨m,hn,_⟩:=I.loc;refine .cons (by rw [I.ok.kind];decide) hf hn ?_ I.cr;exact Heap.get?_none_of_le<|Bv I.ok.js I.ok.above
def Inv.cX(I:Inv X pins σ H s):∀ b∈di X.stack,b∈X.env.locals :: X.fs:=λb hb=>by
 rcases I.ok.k4 with e | ⟨e,hf⟩
 ·rw [e] at hb;exact Ak _ hb
 ·rw [e] at hb;unfold di at hb;rw [Fg,hf] at hb;exact hb
def Inv.dI(I:Inv X pins σ H s):∀ b∈di X.stack,H b=none:=λb hb=>by
 rcases Al.mp (I.cX b hb) with e | hb
 ·rw [e];exact I.free
 ·obtain⟨_,o,ho,_⟩:=I.ok.cr.mem hb;exact I.base.free b o ho (I.ok.k6 b hb) λz=>I.ok.fV b z hb
def Inv.step{g':Array GenState}{t':Nat}{d':Drawn}{ch:List Addr}(I:Inv X pins σ H s)
  (k8:∀ b∈ch,(b∈X.ex\/X.s₀.heap.objs.size<=b)/\b≠X.env.locals/\(∀ x c,X.env.cells.lookup x=some c->c≠b)/\∀ p∈X.pn++pins,p.1≠b)
  (keep:∀ b o,b≠X.env.locals->b∉X.fs->b∉ch->s.heap.get? b=some o->H b=none->h'.get? b=some o)
  (slot:∀ b o,b≠X.env.locals->b∈X.fs->b∉ch->s.heap.get? b=some o->H b=none->∃ sl,h'.get? b=some {o with slots:=sl}) (free:∀ b o,b∉ch->s.heap.get? b=some o->H b=none->H' b=none)
  (there:∀ b o,b∉ch->s.heap.get? b=some o->∃ o',h'.get? b=some o')
  (dP:∀ b xs,H b=some (.tup xs)->H' b=some (.tup xs)) (du:∀ b o u,H b=some (.bh o u)->H' b=some (.bh o u)) (dQ:∀ b ps,H b=some (.nB ps)->∃ more,H' b=some (.nB<|ps++more))
  (ns:∀ m,s.heap.Ns X.env.locals m->h'.Ns X.env.locals m) (aB:b8 X.prog X.w H' h') (hg:AllBare g') :
  Inv X pins σ H' {s with heap:=h',gens:=g',drawn:=d',toks:=t'}:=by
 have L4:∀ b o,X.s₀.heap.get? b=some o->b≠X.env.locals:=λb o e=>Bn<|Bb (Ar e) I.ok.above;have xO:∀ b o,X.s₀.heap.get? b=some o->b∉X.ex->b∉ch:=λb o e hx hb=>by
  rcases (k8 b hb).1 with z | z
  ·exact hx z
  ·exact absurd (Bb (Ar e) z)<|Co _
 have cellK:∀ x c,X.env.cells.lookup x=some c->∀ v,s.heap.IsCell c v->h'.IsCell c v:=λx c e v ⟨o,ho,hd⟩=>by
  have tO:c∉ch:=λz=>(k8 c z).2.2.1 x c e rfl
  by_cases hc:c∈X.fs
  ·obtain⟨sl,q⟩:=slot c o (I.jL x c e) hc tO ho<|I.bt x c e;exact⟨_,q,hd⟩
  ·exact⟨o,keep c o (I.jL x c e) hc tO ho<|I.bt x c e,hd⟩
 refine⟨I.ok,I.os,hg,⟨λb o e n hb hx=>?_,λb o e n hb hx=>?_,λb o e n hx=>?_,λb o e hx=>?_,λb xs e=>dP b xs<|I.base.dP b xs e,λb o xs e=>du b o xs<|I.base.du b o xs e,λb ps e=>?_⟩,?_,λx c e=>?_,?_,λx c e=>?_,λp hp=>?_,aB,I.len⟩
 ·exact keep b o (L4 b o e) hb (xO b o e hx) (I.base.keep b o e n hb hx)<|I.base.free b o e n hx
 ·obtain⟨sl,e1⟩:=I.base.slot b o e n hb hx;obtain⟨xP,e2⟩:=slot b _ (L4 b o e) hb (xO b o e hx) e1<|I.base.free b o e n hx;exact⟨xP,e2⟩
 ·obtain⟨o',e1⟩:=I.base.there b o e hx;exact free b o' (xO b o e hx) e1<|I.base.free b o e n hx
 ·obtain⟨o',e1⟩:=I.base.there b o e hx;exact there b o' (xO b o e hx) e1
 ·obtain⟨m1,e1⟩:=I.base.dQ b ps e;obtain⟨m2,e2⟩:=dQ b _ e1;exact⟨m1++m2,by rw [e2,Array.append_assoc]⟩
 ·obtain⟨m,hn,hl⟩:=I.loc;refine⟨m,ns m hn,λi x v e1 e2 e3=>?_⟩;obtain⟨u,r,l⟩:=hl i x v e1 e2 e3;refine⟨u,r,?_⟩
  rcases l with l | ⟨k,c,e,z⟩
  ·exact .inl l
  ·exact .inr ⟨k,c,e,cellK x c e _ z⟩
 ·obtain⟨v,z⟩:=I.cell x c e;exact⟨v,cellK x c e v z⟩
 ·obtain⟨m,⟨o,_,_,ho,_⟩,_⟩:=I.loc;exact free _ o (λz=>(k8 _ z).2.1 rfl) ho I.free
 ·obtain⟨v,o,ho,hd⟩:=I.cell x c e;exact free c o (λz=>(k8 c z).2.2.1 x c e rfl) ho<|I.bt x c e
 ·obtain⟨e,n,ne,nf,d⟩:=I.pin p hp;have tO:p.1∉ch:=λz=>(k8 p.1 z).2.2.2 p hp rfl;exact⟨keep p.1 p.2 ne nf tO e n,free p.1 p.2 tO e n,ne,nf,d⟩
def Inv.un{t':Nat}(I:Inv X pins σ H s)(u:Un X.fs [] H H' s.heap h')(aB:b8 X.prog X.w H' h'):Inv X pins σ H' {s with heap:=h',toks:=t'}:=by
 obtain⟨m,⟨o,es,ep,ho,r⟩,_⟩:=id I.loc;obtain⟨sl,hL⟩:=u.any ho I.free (by simp);exact I.step (g':=s.gens) (d':=s.drawn) (ch:=[]) (λ_ z=>nomatch z) (λb o _ hb _ e n=>u.keep b o e n hb<|by simp) (λb o _ hb _ e n=>u.slot b o e n hb<|by simp) (λb o _ e n=>u.free b o e n<|by simp) (λb o _ e=>u.there b o e<|by simp) u.dP u.du u.dQ (λm' hm=>by
  obtain⟨o',fu,tP,dH,r'⟩:=hm;rw [ho] at dH;cases dH;exact⟨_,fu,tP,hL,r'⟩) aB I.bare
def Inv.call{g':Array GenState}{t':Nat}{d':Drawn}{ch:List Addr}(I:Inv X pins σ H s)(u:Un (di X.stack) ch H H' s.heap h')(aB:b8 X.prog X.w H' h')(hg:AllBare g')
  (k8:∀ b∈ch,(b∈X.ex\/X.s₀.heap.objs.size<=b)/\b≠X.env.locals/\(∀ x c,X.env.cells.lookup x=some c->c≠b)/\∀ p∈X.pn++pins,p.1≠b) :
  Inv X pins σ H' {s with heap:=h',gens:=g',drawn:=d',toks:=t'}:=by
 obtain⟨m,⟨o,es,ep,ho,r⟩,_⟩:=id I.loc;obtain⟨sl,hL⟩:=u.any ho I.free λz=>(k8 _ z).2.1 rfl;exact I.step (ch:=ch) k8 (λb o hL hb hc e n=>u.keep b o e n (λz=>(Al.mp<|I.cX b z).elim hL hb) hc) (λb o _ _ hc e n=>u.any e n hc) (λb o hc e n=>u.free b o e n hc) (λb o hc e=>u.there b o e hc) u.dP u.du u.dQ (λm' hm=>by
  obtain⟨o',fu,tP,dH,r'⟩:=hm;rw [ho] at dH;cases dH;exact⟨_,fu,tP,hL,r'⟩) aB hg
def Inv.turned{t':Nat}{it:Addr}(I:Inv X pins σ H s)(k:∀ b o,b≠it->s.heap.get? b=some o->h'.get? b=some o)(hn:H it=none)(hL:it≠X.env.locals)
  (h1:it∈X.ex\/X.s₀.heap.objs.size<=it) (h2:∀ x c,X.env.cells.lookup x=some c->c≠it) (h3:∀ p∈X.pn++pins,p.1≠it):Inv X pins σ H {s with heap:=h',toks:=t'}:=by
 have tQ:∀ b u,H b=some u->b≠it:=λb u e z=>by rw [z,hn] at e;cases e
 refine I.step (g':=s.gens) (d':=s.drawn) (ch:=[it]) (λb hb=>?_) (λb o _ _ hc e _=>k b o (λz=>hc<|by simp [z]) e) (λb o _ _ hc e _=>⟨o.slots,k b o (λz=>hc<|by simp [z]) e⟩) (λ_ _ _ _ n=>n)
  (λb o hc e=>⟨o,k b o (λz=>hc<|by simp [z]) e⟩) (λ_ _ e=>e) (λ_ _ _ e=>e) (λb ps e=>⟨#[],by rw [e];simp⟩) (λm hm=>?_) (λb u e=>?_) I.bare
 ·have e:b=it:=by simpa using hb
  subst e;exact⟨h1,hL,h2,h3⟩
 ·obtain⟨o,es,ep,ho,r⟩:=hm;exact⟨o,es,ep,k _ o (CG hL) ho,r⟩
 ·refine(I.aB b u e).fk (λc v hc q=>k c v ?_ q) (λ_ q=>q) λ_ _ q=>q
  rcases hc with z | z
  ·rw [z];exact tQ b u e
  ·exact tQ c _ z
def Inv.tok(I:Inv X pins σ H s)(t:Nat):Inv X pins σ H {s with toks:=t}:=I.un (h':=s.heap) (t':=t) Un.refl I.aB
def Inv.kept{t':Nat}(I:Inv X pins σ H s)(k:∀ b u,s.heap.get? b=some u->h'.get? b=some u):Inv X pins σ H {s with heap:=h',toks:=t'}:=I.un (Un.kept k)<|I.aB.kept k
def Inv.laid{a:Addr}{o:HO}{t':Nat}(I:Inv X pins σ H s)(k:∀ b u,s.heap.get? b=some u->h'.get? b=some u)(hp:s.heap.objs.size<=a)(new:az X.prog X.w (upd H a o) h' a o) :
  Inv X pins σ (upd H a o) {s with heap:=h',toks:=t'}:=I.un (Un.laid k hp<|I.aB.fresh hp)<|I.aB.laid k hp new
def Inv.write{x e:Addr}{o:HO}{t':Nat}(I:Inv X pins σ H s)(mu:tM<|H x)(he:e=x\/H e=some (.own x))(k:∀ b u,b≠e->s.heap.get? b=some u->h'.get? b=some u)(ro:∃ u,h'.get? e=some u)
  (new:az X.prog X.w (upd H x o) h' x o):Inv X pins σ (upd H x o) {s with heap:=h',toks:=t'}:=I.un (Un.write mu he k ro)<|I.aB.write mu he k ro new
def Inv.iq{nC:List (Addr×Obj)}(I:Inv X pins σ H s)(h:∀ p∈nC,s.heap.get? p.1=some p.2/\H p.1=none/\p.1≠X.env.locals/\p.1∉X.fs/\∀ v,p.2.data ≠ .cell v):Inv X nC σ H s:=
 ⟨I.ok,I.os,I.bare,I.base,I.loc,I.cell,I.free,I.bt,λp hp=>(An.mp hp).elim (λz=>I.pin p<|Az _ z)<|h p,I.aB,I.len⟩
def AY{N:List Str}(hN:N.Nodup){i j:Nat}{x:Str}(a:N[i]?=some x)(b:N[j]?=some x):i=j:=by
 obtain⟨h1,e1⟩:=Ac.mp a;obtain⟨h2,e2⟩:=Ac.mp b;exact(Fx hN).mp<|e1.trans e2.symm
def L9{M:Model}{A:Around}{E:Value->Shared->Prop}{i:Nat}{x:Str}{v:V}{u:Value}{Q:Unit->Shared->Prop}(I:Inv X pins σ H s)(hN:X.N.Nodup)(hi:X.N[i]?=some x)(hx:Loc X.env.scope x)(r:RelV v u)
  (h:∀ s',Inv X pins (σ.set i<|some v) H s'->(∃ a,Heap.SameBut a s.heap s'.heap/\(a=X.env.locals\/X.env.cells.lookup x=some a))->Q () s') (hf:X.fn x=true\/X.env.scope.names.lookup x=some .local:=by first | exact .inl rfl | exact .inr rfl | assumption):wpAny M A (storeName X.env x u) Q E s:=by
 obtain⟨m,hn,hl⟩:=id I.loc;have pf:(X.env.scope.kind == .class || (X.env.scope.kind == .module && X.env.locals != X.env.globals))=false:=by rw [I.ok.kind];rfl
 have hiσ:i < σ.length:=by rw [I.len];exact(Ac.mp hi).1
 have jL:=I.jL;have tracked:∀{a:Addr} {h':Heap},(∃ o,s.heap.get? a=some o/\H a=none)->Heap.SameBut a s.heap h'->b8 X.prog X.w H h':=λ{a h'} ha hs b ob e=>by
  obtain⟨_,_,nG⟩:=ha;refine(I.aB b ob e).fk (λc w' hc q=>(hs.2 c ?_).trans q) (λ_ q=>q) λ_ _ q=>q;rintro rfl
  rcases hc with rfl | hc
  ·rw [nG] at e;cases e
  ·rw [nG] at hc;cases hc
 rcases hx with hk | hk
 ·refine wpAny_storeName_local hk hn (λh' nH hs=>?_) pf;obtain⟨oL,_,_,gI,_⟩:=id hn;refine h _ ⟨I.ok,I.os,I.bare,⟨λb o e n hb hx=>?_,λb o e n hb hx=>?_,I.base.free,λb o e hx=>?_,I.base.dP,I.base.du,I.base.dQ⟩,⟨_,nH,λj y v' e1 e2 e3=>?_⟩,λy c e=>?_,I.free,I.bt,λp hp=>?_,tracked ⟨oL,gI,I.free⟩ hs,by simpa using I.len⟩ ⟨_,hs,.inl rfl⟩
  ·exact(hs.2 b<|Bn<|Bb (Ar e) I.ok.above).trans<|I.base.keep b o e n hb hx
  ·obtain⟨sl,e1⟩:=I.base.slot b o e n hb hx;exact⟨sl,(hs.2 b<|Bn<|Bb (Ar e) I.ok.above).trans e1⟩
  ·obtain⟨o',e1⟩:=I.base.there b o e hx;exact⟨o',(hs.2 b<|Bn<|Bb (Ar e) I.ok.above).trans e1⟩
  ·by_cases hj:j=i
   ·subst hj;rw [hi] at e1;cases e1;rw [Fr hiσ] at e2;cases e2;exact⟨u,r,.inl ⟨hk,by simp⟩⟩
   ·rw [Fz<|CG hj] at e2;obtain⟨u',r',q⟩:=hl j y v' e1 e2 e3;refine⟨u',r',?_⟩
    rcases q with ⟨k,e⟩ | ⟨k,c,e,z⟩
    ·refine .inl ⟨k,?_⟩;have:y≠x:=λe=>hj<|AY hN e1<|e ▸ hi;simp [this,e]
    ·exact .inr ⟨k,c,e,z.sameBut hs<|jL y c e⟩
  ·obtain⟨w',z⟩:=I.cell y c e;exact⟨w',z.sameBut hs<|jL y c e⟩
  ·obtain⟨e,n,ne,nf,d⟩:=I.pin p hp;exact⟨(hs.2 p.1 ne).trans e,n,ne,nf,d⟩
 ·have tR:X.fn x=true:=by
   rcases hf with z | z
   ·exact z
   ·rw [z] at hk;cases hk
  obtain⟨c,hc⟩:=I.ok.has x<|.inl hk;obtain⟨w',z⟩:=I.cell x c hc;refine wpAny_storeName_cell I.ok.kind hk hc z λh' bj hs=>?_;obtain⟨oc,Ma,AZ⟩:=id z;refine h {s with heap:=h'} ⟨I.ok,I.os,I.bare,⟨λb o e n hb hx=>?_,λb o e n hb hx=>?_,I.base.free,λb o e hx=>?_,I.base.dP,I.base.du,I.base.dQ⟩,⟨m,hn.sameBut hs<|CG<|jL x c hc,λj y v' e1 e2 e3=>?_⟩,λy c' e=>?_,I.free,I.bt,λp hp=>?_,tracked ⟨oc,Ma,I.bt x c hc⟩ hs,by simpa using I.len⟩ ⟨c,hs,.inr hc⟩
  ·exact(hs.2 b<|Bn<|Bb (Ar e)<|I.ok.lR x c tR hc).trans<|I.base.keep b o e n hb hx
  ·obtain⟨sl,e1⟩:=I.base.slot b o e n hb hx;exact⟨sl,(hs.2 b<|Bn<|Bb (Ar e)<|I.ok.lR x c tR hc).trans e1⟩
  ·obtain⟨o',e1⟩:=I.base.there b o e hx;exact⟨o',(hs.2 b<|Bn<|Bb (Ar e)<|I.ok.lR x c tR hc).trans e1⟩
  ·by_cases hj:j=i
   ·subst hj;rw [hi] at e1;cases e1;rw [Fr hiσ] at e2;cases e2;exact⟨u,r,.inr ⟨.inl hk,c,hc,bj⟩⟩
   ·rw [Fz<|CG hj] at e2;obtain⟨u',r',q⟩:=hl j y v' e1 e2 e3;refine⟨u',r',?_⟩
    rcases q with q | ⟨k,c',e,z'⟩
    ·exact .inl q
    ·refine .inr ⟨k,c',e,z'.sameBut hs ?_⟩;rintro rfl;exact hj<|AY hN e1<|I.ok.inj _ _ _ e hc ▸ hi
  ·by_cases iu:c'=c
   ·subst iu;exact⟨_,bj⟩
   ·obtain⟨w2,z2⟩:=I.cell y c' e;exact⟨w2,z2.sameBut hs iu⟩
  ·obtain⟨e,n,ne,nf,d⟩:=I.pin p hp;refine⟨(hs.2 p.1 ?_).trans e,n,ne,nf,d⟩;intro q;rw [q,Ma] at e;have q':oc=p.2:=Option.some.inj e;exact d w'<|by rw [<- q'];exact AZ
def tS{M:Model}{A:Around}{E:Value->Shared->Prop}{i:Nat}{x:Str}{v:V}{u:Value}{Q:Unit->Shared->Prop}(I:Inv X pins σ H s)(hN:X.N.Nodup)(hi:X.N[i]?=some x)(hx:Loc X.env.scope x)(r:RelV v u)
  (h:∀ s',Inv X pins (σ.set i<|some v) H s'->Q () s') (hf:X.fn x=true\/X.env.scope.names.lookup x=some .local:=by first | exact .inl rfl | exact .inr rfl | assumption):wpAny M A (storeName X.env x u) Q E s:=
 L9 I hN hi hx r (λs' I' _=>h s' I') hf
def Inv.call'{s':Shared}{ch:List Addr}(I:Inv X pins σ H s)(ho:s'.os=s.os)(u:Un (di X.stack) ch H H' s.heap s'.heap)(aB:b8 X.prog X.w H' s'.heap)(hg:AllBare s'.gens)
  (k8:∀ b∈ch,(b∈X.ex\/X.s₀.heap.objs.size<=b)/\b≠X.env.locals/\(∀ x c,X.env.cells.lookup x=some c->c≠b)/\∀ p∈X.pn++pins,p.1≠b):Inv X pins σ H' s':=by
 obtain⟨h',g',d',t',o'⟩:=s';have e:o'=s.os:=ho;subst e;exact I.call (g':=g') (t':=t') (d':=d') u aB hg k8
end
abbrev XK:=Value->Option Addr->Hp->Prop
abbrev St:=List<|Option V
abbrev VK:=V->Hp->Prop
abbrev TE:=St->Hp->VK->Prop
abbrev TT:=St->Hp->(Bool->Hp->Prop)->Prop
abbrev TA:=St->Hp->(List V->Hp->Prop)->Prop
structure Ends where
 nx:St->Hp->Prop
 rt:VK
 bk:St->Hp->Prop:=λ_ _=>False
 ct:St->Hp->Prop:=λ_ _=>False
abbrev TS:=Ends->St->Hp->Prop
def EP(X:Cx)(pins:List<|Addr×Obj)(σ:St)(Q:VK)(u:Value)(s':Shared):Prop:=∃ v H',Inv X pins σ H' s'/\RelV v u/\Q v H'
def TP(X:Cx)(pins:List<|Addr×Obj)(σ:St)(Q:Bool->Hp->Prop)(b:Bool)(s':Shared):Prop:=∃ H',Inv X pins σ H' s'/\Q b H'
def AP(X:Cx)(pins:List<|Addr×Obj)(σ:St)(Q:List V->Hp->Prop)(us:List Value)(s':Shared):Prop:=∃ vs H',Inv X pins σ H' s'/\ax vs us/\Q vs H'
def SP(X:Cx)(pins:List<|Addr×Obj)(D:Ends)(f:Flow)(s':Shared):Prop:=
 match f with
 | .next=>∃ σ' H',Inv X pins σ' H' s'/\D.nx σ' H'
 | .brk=>∃ σ' H',Inv X pins σ' H' s'/\D.bk σ' H'
 | .cont=>∃ σ' H',Inv X pins σ' H' s'/\D.ct σ' H'
 | .ret u=>∃ v σ' H',Inv X pins σ' H' s'/\RelV v u/\D.rt v H'
def PE(X:Cx)(e:Expr)(t:TE):Prop:=
 ∀(pins:List<|Addr×Obj) (s:Shared) (σ:St) (H:Hp) (Q:VK),Inv X pins σ H s->t σ H Q->wpAny (model X.prog X.w) X.A (eval e X.env) (EP X pins σ Q) X.xe s
def PT(X:Cx)(e:Expr)(t:TT):Prop:=
 ∀(pins:List<|Addr×Obj) (s:Shared) (σ:St) (H:Hp) (Q:Bool->Hp->Prop),Inv X pins σ H s->t σ H Q->wpAny (model X.prog X.w) X.A (isTrue e X.env<|eval e X.env) (TP X pins σ Q) X.xe s
def PW(X:Cx)(e:Expr)(t:TT):Prop:=
 ∀(whole:Sem Value) (pins:List<|Addr×Obj) (s:Shared) (σ:St) (H:Hp) (Q:Bool->Hp->Prop),Inv X pins σ H s->t σ H Q->wpAny (model X.prog X.w) X.A (isTrue e X.env whole) (TP X pins σ Q) X.xe s
def PA(X:Cx)(es:List Expr)(t:TA):Prop:=
 ∀(pos:Pos) (pins:List<|Addr×Obj) (s:Shared) (σ:St) (H:Hp) (Q:List V->Hp->Prop),Inv X pins σ H s->t σ H Q->wpAny (model X.prog X.w) X.A (spliced<|backTo pos<|starEach es X.env) (AP X pins σ Q) X.xe s
def PS(X:Cx)(st:Stmt)(t:TS):Prop:=
 ∀(pins:List<|Addr×Obj) (s:Shared) (σ:St) (H:Hp) (D:Ends),Inv X pins σ H s->t D σ H->wpAny (model X.prog X.w) X.A (exec st X.env) (SP X pins D) X.xe s
def iX(X:Cx)(st:List Stmt)(t:TS):Prop:=
 ∀(pins:List<|Addr×Obj) (s:Shared) (σ:St) (H:Hp) (D:Ends),Inv X pins σ H s->t D σ H->wpAny (model X.prog X.w) X.A (execs st X.env) (SP X pins D) X.xe s
def aF{α:Type}{t:Sem α}{Q Q':α->Shared->Prop}{M:Model}{A:Around}{E:Value->Shared->Prop}{s:Shared}(h:wpAny M A t Q E s)(hQ:∀ a s,Q a s->Q' a s):wpAny M A t Q' E s:=CK h hQ λ_ _ x=>x
section
variable{X:Cx}
def bin{a b:Expr}{ta tb:TE}(ha:PE X a ta)(hb:PE X b tb){pins:List (Addr×Obj)}{s:Shared}{σ:St}{H:Hp}{R:V->V->Hp->Prop}(I:Inv X pins σ H s)(h:ta σ H λx H1=>tb σ H1 λy H2=>R x y H2)
  {α:Type} {Q:α->Shared->Prop} {f:Value->Value->Sem α}
  (hf:∀ v u s2 x y H2,Inv X pins σ H2 s2->RelV x v->RelV y u->R x y H2->wpAny (model X.prog X.w) X.A (f v u) Q X.xe s2) :
  wpAny (model X.prog X.w) X.A (eval a X.env) (λv s₁=>wpAny (model X.prog X.w) X.A (eval b X.env) (λu s₂=>wpAny (model X.prog X.w) X.A (f v u) Q X.xe s₂) X.xe s₁) X.xe s:=by
 refine aF (ha pins s σ H _ I h) λv s1 ⟨x,H1,I1,r1,q1⟩=>?_;refine aF (hb pins s1 σ H1 _ I1 q1) λu s2 ⟨y,H2,I2,r2,q2⟩=>?_;exact hf v u s2 x y H2 I2 r1 r2 q2
def A0(i:Nat):TE:=λσ H Q=>∃ v,σ[i]?=some (some v)/\Q v H
def tC(v:V):TE:=λ_ H Q=>Q v H
def U3{i:Nat}{x:Str}{pos:Pos}(hN:X.N[i]?=some x)(hv:AV X.env.scope x)(hd:(x == ("__debug__" : Str))=false:=by decide)(iw:(x == ("__classdict__" : Str))=false:=by decide):PE X (.Name x pos) (A0 i):=by
 intro pins s σ H Q I h;obtain⟨v,e,h⟩:=h;obtain⟨m,hn,hl⟩:=I.loc;obtain⟨u,r,l⟩:=hl i x v hN e hv;have fin:EP X pins σ Q u s:=⟨v,H,I,r,h⟩
 rcases l with ⟨hk,hm⟩ | ⟨hk,c,hc,iy⟩
 ·exact wpAny_Name (wpAny_loadName_local I.ok.kind hk hn hm fin) hd
 ·rcases hk with hk | hk
  ·exact wpAny_Name (wpAny_loadName_cell I.ok.kind hk hc iy fin) hd
  ·exact wpAny_Name (wpAny_loadName_free I.ok.kind hk hc iy fin iw) hd
def U4{i j pos}:PE X (.Constant (.int i) j pos) (tC<|.int i):=λ_ _ _ H _ I h=>wpAny_Constant_int ⟨.int i,H,I.tok _,⟨_,rfl⟩,h⟩
def U5{b j pos}:PE X (.Constant (.bool b) j pos) (tC<|.bl b):=λ_ _ _ H _ I h=>Constant_bool ⟨.bl b,H,I,rfl,h⟩
def U6{j pos}:PE X (.Constant .none j pos) (tC .non):=λ_ _ _ H _ I h=>Constant_none ⟨.non,H,I,rfl,h⟩
def U7{x j pos}:PE X (.Constant (.str x) j pos) (tC<|.str x):=λ_ _ _ H _ I h=>Calls.Constant_str ⟨.str x,H,I.tok _,⟨_,rfl⟩,h⟩
def Gl(X:Cx)(x:Str):Prop:=X.env.kindOf x=some .globalImplicit
def tT{E:Value->Shared->Prop}{pins:List (Addr×Obj)}{s:Shared}{σ:St}{H:Hp}{x:Str}{u:Value}{pos:Pos}{Q:Value->Shared->Prop}(I:Inv X pins σ H s)(hg:Gl X x)(hm:X.mg x=some u)(h:Q u s)
  (hd:(x == ("__debug__" : Str))=false:=by decide):wpAny (model X.prog X.w) X.A (eval (.Name x pos) X.env) Q E s:=
 Calls.Name_function_global I.ok.kind hg (Calls.loadGlobal_global (by rw [I.ok.glob];exact I.mod.glob.keeps I.bk) hm h) hd
def nI{E:Value->Shared->Prop}{pins:List (Addr×Obj)}{s:Shared}{σ:St}{H:Hp}{x:Str}{u:Value}{pos:Pos}{Q:Value->Shared->Prop}(I:Inv X pins σ H s)(hg:Gl X x)(hm:X.mg x=none)(hv:bootBuiltins x=some u)(h:Q u s)
  (hn:x ≠ "__name__":=by decide) (hd:(x == ("__debug__" : Str))=false:=by decide):wpAny (model X.prog X.w) X.A (eval (.Name x pos) X.env) Q E s:=by
 obtain⟨mb,h1,h2⟩:=I.mod.blt;exact Calls.Name_function_global I.ok.kind hg (Calls.loadGlobal_builtin (by rw [I.ok.glob];exact I.mod.glob.keeps I.bk) hm (by rw [I.ok.blt];exact h1.keeps I.bk) ((h2 x hn).trans hv) h) hd
def U8{x:Str}{v:V}{u:Value}{pos:Pos}(hg:Gl X x)(hm:X.mg x=some u)(r:RelV v u)(hd:(x == ("__debug__" : Str))=false:=by decide):PE X (.Name x pos) (tC v):=
 λ_ _ _ H _ I h=>tT I hg hm ⟨v,H,I,r,h⟩ hd
def U9{x:Str}{v:V}{u:Value}{pos:Pos}(hg:Gl X x)(hm:X.mg x=none)(hv:bootBuiltins x=some u)(r:RelV v u)(hn:x ≠ "__name__":=by decide)(hd:(x == ("__debug__" : Str))=false:=by decide):PE X (.Name x pos) (tC v):=
 λ_ _ _ H _ I h=>nI I hg hm hv ⟨v,H,I,r,h⟩ hn hd
variable{a b:Expr}{ta tb:TE}{pos:Pos}
def PC(X:Cx)(op:CmpOp)(a b:Expr)(t:TE):Prop:=
 ∀(pins:List<|Addr×Obj) (s:Shared) (σ:St) (H:Hp) (Q:VK),Inv X pins σ H s->t σ H Q ->
  wpAny (model X.prog X.w) X.A (eval a X.env) (λv s₁=>wpAny (model X.prog X.w) X.A (eval b X.env) (λu s₂=>wpAny (model X.prog X.w) X.A (compareOp op v u) (EP X pins σ Q) X.xe s₂) X.xe s₁) X.xe s
def tB(t:TE):TT:=λσ H Q=>t σ H λx H1=>∃ c,x = .bl c/\Q c H1
def Mb{op:CmpOp}{t:TE}(h:PC X op a b t)(h1:behindInMarks op b=false:=by first | exact tU _ (by decide) (by decide) | rfl):PT X (.Compare a [op] [b] pos) (tB t):=by
 intro pins s σ H Q I hw;refine wpAny_isTrue_Compare1 (aF (h pins s σ H _ I hw) λv s1 h1=>aF h1 λu s2 h2=>aF h2 λc s3 ⟨x,H1,I1,r1,q1⟩=>?_) h1;obtain⟨d,rfl,q⟩:=q1;cases r1;exact FJ ⟨H1,I1,q⟩
def U'{e:Expr}{t:TE}(h:PE X e t)(he:∀ whole,isTrue e X.env whole=(do let v <- whole;standAt e.pos;holding [v] (truthy v)):=by intro _;rfl):PT X e (tB t):=by
 intro pins s σ H Q I hw;refine isTrue_plain (aF (h pins s σ H _ I hw) λv s1 ⟨x,H1,I1,r1,q1⟩=>?_)<|he _;obtain⟨d,rfl,q⟩:=q1;cases r1;exact FJ ⟨H1,I1,q⟩
variable{tA xQ:TT}{rest:List Expr}
def A1(t u:TT):TT:=λσ H Q=>t σ H λc H1=>if c=true then u σ H1 Q else Q false H1
def Va(t u:TT):TT:=λσ H Q=>t σ H λc H1=>if c=true then Q true H1 else u σ H1 Q
def A2(t:TT):TT:=λσ H Q=>t σ H λc H1=>Q (!c) H1
theorem Vb(ha:PT X a tA):PW X (.BoolOp .And [a] pos) tA:=by
 intro wh pins s σ H Q I h;refine isTrue_and<|aF (ha pins s σ H Q I h) λc s1 e=>?_;cases c with
 | true=>exact isTrue_and_nil e
 | false=>exact e
theorem Vc(ha:PT X a tA):PW X (.BoolOp .Or [a] pos) tA:=by
 intro wh pins s σ H Q I h;refine isTrue_or<|aF (ha pins s σ H Q I h) λc s1 e=>?_;cases c with
 | false=>exact isTrue_or_nil e
 | true=>exact e
theorem Vd(ha:PT X a tA)(hb:PW X (.BoolOp .And (b :: rest) pos) xQ):PW X (.BoolOp .And (a :: b :: rest) pos) (A1 tA xQ):=by
 intro wh pins s σ H Q I h;refine isTrue_and<|aF (ha pins s σ H _ I h) λc s1 ⟨H1,I1,q1⟩=>?_;cases c with
 | true=>exact hb wh pins s1 σ H1 Q I1 q1
 | false=>exact⟨H1,I1,q1⟩
theorem Ve(ha:PT X a tA)(hb:PW X (.BoolOp .Or (b :: rest) pos) xQ):PW X (.BoolOp .Or (a :: b :: rest) pos) (Va tA xQ):=by
 intro wh pins s σ H Q I h;refine isTrue_or<|aF (ha pins s σ H _ I h) λc s1 ⟨H1,I1,q1⟩=>?_;cases c with
 | true=>exact⟨H1,I1,q1⟩
 | false=>exact hb wh pins s1 σ H1 Q I1 q1
def Vf(ha:PT X a tA):PT X (.UnaryOp .Not a pos) (A2 tA):=by
 intro pins s σ H Q I h;exact isTrue_not<|ha pins s σ H (λc H1=>Q (!c) H1) I h
def Vg(ta tb:TE):TE:=λσ H Q=>ta σ H λx H1=>∃ c,x = .bl c/\if c=true then tb σ H1 Q else Q (.bl false) H1
def Vh(ta:TE):TE:=λσ H Q=>ta σ H λx H1=>∃ c,x = .bl c/\Q (.bl (!c)) H1
def Vi{op}{t:TE}(h:PE X a t):PE X (.BoolOp op [a] pos) t:=λpins s σ H Q I hw=>BoolOp_one<|h pins s σ H Q I hw
theorem Vj(ha:PE X a ta)(hb:PE X (.BoolOp .And (b :: rest) pos) tb):PE X (.BoolOp .And (a :: b :: rest) pos) (Vg ta tb):=by
 intro pins s σ H Q I h;refine BoolOp_and<|aF (ha pins s σ H _ I h) λv s1 ⟨x,H1,I1,r1,q1⟩=>?_;obtain⟨c,rfl,q1⟩:=q1;cases r1;refine FJ ?_;cases c with
 | true=>exact hb pins s1 σ H1 Q I1 q1
 | false=>exact⟨.bl false,H1,I1,rfl,q1⟩
def Vk(ha:PE X a ta):PE X (.UnaryOp .Not a pos) (Vh ta):=by
 intro pins s σ H Q I h;refine UnaryOp_<|aF (ha pins s σ H _ I h) λv s1 ⟨x,H1,I1,r1,q1⟩=>?_;obtain⟨c,rfl,q1⟩:=q1;cases r1;exact not_of<|FJ ⟨.bl (!c),H1,I1,rfl,q1⟩
def Vl(t:TT)(ta tb:TE):TE:=λσ H Q=>t σ H λc H1=>if c=true then ta σ H1 Q else tb σ H1 Q
theorem Vm{c:Expr}(hc:PT X c tA)(ha:PE X a ta)(hb:PE X b tb):PE X (.IfExp c a b pos) (Vl tA ta tb):=by
 intro pins s σ H Q I h;refine wpAny_IfExp<|aF (hc pins s σ H _ I h) λd s1 ⟨H1,I1,q1⟩=>?_;cases d with
 | true=>exact ha pins s1 σ H1 Q I1 q1
 | false=>exact hb pins s1 σ H1 Q I1 q1
end
def ai(K:PySem.W.Frag)(H:Hp)(a:Addr)(xs:List V):Prop:=
 Rd H a (.lst xs) \/
  ∃(o:Obj) (its:Array Value) (n:Nat),K.lookup a=some o/\o.cls = .type "list"/\o.dict=none/\o.data = .seq its n/\its.size<=sizeLine/\ax xs its.toList
def aM(K:PySem.W.Frag)(H:Hp)(a:Addr)(xs:List V):Prop:=
 Rd H a (.tup xs) \/
  ∃(o:Obj) (its:Array Value) (n:Nat),K.lookup a=some o/\o.cls = .type "tuple"/\o.data = .seq its n/\its.size<=sizeLine/\ax xs its.toList
def A3:Value->Option V
 | .none=>some .non
 | .bool b=>some<|.bl b
 | .int i _=>some<|.int i
 | .str x _=>some<|.str x
 | .bytes b _=>some<|.iW b
 | .float b _=>some<|.rm b
 | .ref a=>some<|.ref a
 | .type n=>some<|.ty n
 | _=>none
theorem RelV.abs{x:V}{u:Value}(r:RelV x u):A3 u=some x:=by
 cases x with
 | non=>cases r;rfl
 | bl _=>cases r;rfl
 | int _=>obtain⟨t,rfl⟩:=r;rfl
 | str _=>obtain⟨t,rfl⟩:=r;rfl
 | iW _=>obtain⟨t,rfl⟩:=r;rfl
 | rm _=>obtain⟨t,rfl⟩:=r;rfl
 | ref _=>cases r;rfl
 | ty _=>cases r;rfl
def RelV.inj{x y:V}{u:Value}(r:RelV x u)(q:RelV y u):x=y:=Option.some.inj<|r.abs.symm.trans q.abs
theorem ax.inj:∀{xs ys:List V} {us:List Value},ax xs us->ax ys us->xs=ys
 | _,_,_,.nil,.nil=>rfl
 | _,_,_,.cons r t,.cons r' t'=>by rw [r.inj r',ax.inj t t']
section
variable{X:Cx}{pins:List (Addr×Obj)}{σ:St}{H:Hp}{s:Shared}{a:Addr}{xs ys:List V}
def ai.of{K:PySem.W.Frag}(h:H a=some (.lst xs)):ai K H a xs:= .inl<|.inl h
def aM.of{K:PySem.W.Frag}(h:H a=some (.tup xs)):aM K H a xs:= .inl<|.inl h
def Inv.list(I:Inv X pins σ H s)(h:ai X.K H a xs):∃ its:List Value,ax xs its/\PlainL s.heap a its.toArray/\xs.length<=sizeLine:=by
 rcases h with h | ⟨o,its,n,hk,hc,hd,hs,hz,r⟩
 ·obtain⟨z,its,n,r,e⟩:=h.ok I.aB;exact⟨its,r,⟨_,n,e,rfl,rfl,rfl⟩,z⟩
 ·refine⟨its.toList,r,⟨o,n,I.d9 a o hk,hc,hd,by simpa using hs⟩,?_⟩;have e:=r.length;simp only [Ch] at e;omega
def Inv.tuple(I:Inv X pins σ H s)(h:aM X.K H a xs):∃ its:List Value,ax xs its/\IsTup s.heap a its.toArray/\xs.length<=sizeLine:=by
 rcases h with h | ⟨o,its,n,hk,hc,hs,hz,r⟩
 ·obtain⟨z,its,r,p⟩:=h.ok I.aB;exact⟨its,r,p,z⟩
 ·refine⟨its.toList,r,⟨o,I.d9 a o hk,hc,n,by simpa using hs⟩,?_⟩;have e:=r.length;simp only [Ch] at e;omega
def Inv.cM(I:Inv X pins σ H s)(h:ai X.K H a xs)(h':ai X.K H a ys):xs=ys:=by
 obtain⟨its,r,⟨o,n,e,_,_,d⟩,_⟩:=I.list h;obtain⟨its',r',⟨o',n',e',_,_,d'⟩,_⟩:=I.list h';rw [e] at e';cases e';rw [d] at d'
 injection d' with d1 _
 have:its=its':=by simpa using BZ Array.toList d1
 subst this;exact r.inj r'
def Inv.iY(I:Inv X pins σ H s)(h:aM X.K H a xs)(h':aM X.K H a ys):xs=ys:=by
 obtain⟨its,r,⟨o,e,_,n,d⟩,_⟩:=I.tuple h;obtain⟨its',r',⟨o',e',_,n',d'⟩,_⟩:=I.tuple h';rw [e] at e';cases e';rw [d] at d'
 injection d' with d1 _
 have:its=its':=by simpa using BZ Array.toList d1
 subst this;exact r.inj r'
end
abbrev Cx.dv(X:Cx)(E:Value->Shared->Prop):Cx:={X with xe:=E}
abbrev Cx.lT(X:Cx):Cx:=X.dv λ_ _=>False
def Cx.Ok.dv{X:Cx}(ok:X.Ok)(E:Value->Shared->Prop):(X.dv E).Ok:=
 ⟨ok.mod,ok.kind,ok.glob,ok.blt,ok.above,ok.inj,ok.has,ok.lR,ok.hd,ok.frames,ok.k4,ok.rp,ok.bs,ok.js,ok.fq,ok.fV,ok.cr,ok.k6⟩
def Cx.Ok.bI{X:Cx}{E:Value->Shared->Prop}(ok:(X.dv E).Ok):X.Ok:=
 ⟨ok.mod,ok.kind,ok.glob,ok.blt,ok.above,ok.inj,ok.has,ok.lR,ok.hd,ok.frames,ok.k4,ok.rp,ok.bs,ok.js,ok.fq,ok.fV,ok.cr,ok.k6⟩
section
variable{X:Cx}{pins:List (Addr×Obj)}{σ:St}{H:Hp}{s:Shared}{E:Value->Shared->Prop}
def Inv.dv(I:Inv X pins σ H s)(E:Value->Shared->Prop):Inv (X.dv E) pins σ H s:=⟨I.ok.dv E,I.os,I.bare,I.base,I.loc,I.cell,I.free,I.bt,I.pin,I.aB,I.len⟩
def Inv.bI(I:Inv (X.dv E) pins σ H s):Inv X pins σ H s:=⟨I.ok.bI,I.os,I.bare,I.base,I.loc,I.cell,I.free,I.bt,I.pin,I.aB,I.len⟩
theorem SP.bI{D:Ends}{f:Flow}{s':Shared}(h:SP (X.dv E) pins D f s'):SP X pins D f s':=by
 cases f with
 | next=>obtain⟨σ',H',I,q⟩:=h;exact⟨σ',H',I.bI,q⟩
 | brk=>obtain⟨σ',H',I,q⟩:=h;exact⟨σ',H',I.bI,q⟩
 | cont=>obtain⟨σ',H',I,q⟩:=h;exact⟨σ',H',I.bI,q⟩
 | ret u=>obtain⟨v,σ',H',I,r,q⟩:=h;exact⟨v,σ',H',I.bI,r,q⟩
def iX.lT{st:List Stmt}{t:TS}(h:iX X.lT st t):iX X st t:=λpins s σ H D I hw=>
 CK (h pins s σ H D (I.dv _) hw) (λ_ _ q=>q.bI) λ_ _ z=>False.elim z
end
section
variable{X:Cx}{st:Stmt}{rest:List Stmt}{t u:TS}{e:Expr}{te:TE}{pos:Pos}
def Vn:TS:=λD σ H=>D.nx σ H
def A4(t u:TS):TS:=λD σ H=>t {D with nx:=u D} σ H
def Md:iX X [] Vn:=λ_ _ σ H _ I h=>RP ⟨σ,H,I,h⟩
theorem Vo(h1:PS X st t)(h2:iX X rest u):iX X (st :: rest) (A4 t u):=by
 intro pins s σ H D I h;refine wpAny_execs_cons<|aF (h1 pins s σ H {D with nx:=u D} I h) λf s1 q=>?_;cases f with
 | next=>
  obtain⟨σ',H',I',q⟩:=q;exact h2 pins s1 σ' H' D I' q
 | ret v=>exact q
 | brk=>exact q
 | cont=>exact q
def Inv.quiet{pins:List (Addr×Obj)}{σ:St}{H:Hp}{s:Shared}(I:Inv X pins σ H s):interactive X.env=false:=by simp [interactive,I.ok.kind]
def Vp(te:TE):TS:=λD σ H=>te σ H λ_ H1=>D.nx σ H1
def Vq(he:PE X e te)(hs:swapsWith e none pos.line X.env=pure false:=by rfl):PS X (.Expr e pos) (Vp te):=by
 intro pins s σ H D I h;exact wpAny_Expr_any (aF (he pins s σ H _ I h) λv s1 ⟨x,H1,I1,r1,q1⟩=>⟨σ,H1,I1,q1⟩) I.quiet hs
def A5(te:TE):TS:=λD σ H=>te σ H D.rt
def Vr(he:PE X e te):PS X (.Return (some e) pos) (A5 te):=by
 intro pins s σ H D I h;exact wpAny_Return_some<|aF (he pins s σ H _ I h) λv s1 ⟨x,H1,I1,r1,q1⟩=>⟨x,σ,H1,I1,r1,q1⟩
def A6(c:TT)(t u:TS):TS:=λD σ H=>c σ H λb H1=>if b=true then t D σ H1 else u D σ H1
theorem Vs{c:Expr}{a b:List Stmt}{tc:TT}(hc:PT X c tc)(ha:iX X a t)(hb:iX X b u):PS X (.If c a b pos) (A6 tc t u):=by
 intro pins s σ H D I h;refine wpAny_If<|aF (hc pins s σ H _ I h) λd s1 ⟨H1,I1,q1⟩=>?_;cases d with
 | true=>exact ha pins s1 σ H1 D I1 q1
 | false=>exact hb pins s1 σ H1 D I1 q1
end
abbrev TG:=V->St->Hp->(St->Hp->Prop)->Prop
abbrev ph:=List V->St->Hp->(St->Hp->Prop)->Prop
def PG(X:Cx)(target:Expr)(t:TG):Prop:=
 ∀(pins:List<|Addr×Obj) (s:Shared) (σ:St) (H:Hp) (v:V) (u:Value) (Q:St->Hp->Prop),Inv X pins σ H s->RelV v u->t v σ H Q ->
  wpAny (model X.prog X.w) X.A (assign target X.env u) (λ_ s'=>∃ σ' H',Inv X pins σ' H' s'/\Q σ' H') X.xe s
def xR(X:Cx)(ts:List Expr)(t:ph):Prop:=
 ∀(pins:List<|Addr×Obj) (s:Shared) (σ:St) (H:Hp) (vs:List V) (us:List Value) (Q:St->Hp->Prop),Inv X pins σ H s->ax vs us->t vs σ H Q ->
  wpAny (model X.prog X.w) X.A (assignInOrder ((assignEach ts X.env).map (·.2)) us) (λ_ s'=>∃ σ' H',Inv X pins σ' H' s'/\Q σ' H') X.xe s
section
variable{X:Cx}{pos:Pos}
def Mf(i:Nat):TG:=λv σ H Q=>Q (σ.set i<|some v) H
def Vt{i:Nat}{x:Str}(hN:X.N.Nodup)(hi:X.N[i]?=some x)(hx:Loc X.env.scope x)(hf:X.fn x=true\/X.env.scope.names.lookup x=some .local:=by first | exact .inl rfl | exact .inr rfl | assumption):PG X (.Name x pos) (Mf i):=by
 intro pins s σ H v u Q I r h;exact wpAny_assign_Name<|tS I hN hi hx r (λs' I'=>⟨_,H,I',h⟩) hf
def pj:ph:=λvs σ H Q=>vs=[]/\Q σ H
def rq(t:TG)(u:ph):ph:=λvs σ H Q=>∃ v r,vs=v :: r/\t v σ H λσ' H'=>u r σ' H' Q
def Mg:xR X [] pj:=by
 intro pins s σ H vs us Q I r h;obtain⟨e,h⟩:=h;subst e;cases r;exact assignInOrder_nil ⟨σ,H,I,h⟩
theorem tV{e:Expr}{es:List Expr}{t:TG}{u:ph}(h1:PG X e t)(h2:xR X es u)
  (hs:(assignEach (e :: es) X.env).map (·.2)=assign e X.env :: (assignEach es X.env).map (·.2):=by rfl):xR X (e :: es) (rq t u):=by
 intro pins s σ H vs us Q I r h;obtain⟨v,vr,e1,h⟩:=h;subst e1;cases r with
 | cons r rr=>
  rw [hs];refine PL<|aF (h1 pins s σ H _ _ _ I r h) λ_ s1 ⟨σ1,H1,I1,q1⟩=>?_;exact h2 pins s1 σ1 H1 _ _ Q I1 rr q1
def A7(K:PySem.W.Frag)(n:Nat)(t:ph):TG:=λv σ H Q=>∃ a xs,v = .ref a/\aM K H a xs/\xs.length=n/\t xs σ H Q
def Mh{es:List Expr}{k:Nat}{t:ph}{n:Nat}(hc:X.calm=true)(h:xR X es t)
  (hn:(assignEach es X.env).length=n:=by rfl) (cg:(assignEach es X.env).findIdx? (·.1)=none:=by rfl):PG X (.Tuple es k pos) (A7 X.K n t):=by
 intro pins s σ H v u Q I r hw;obtain⟨a,xs,e1,hq,hl,hw⟩:=hw;subst e1;cases r;obtain⟨its,rv,ht,hz⟩:=I.tuple hq;refine assign_Tuple_tuple (I.ok.hd hc) ht (by simp [hn,<- hl,rv.length]) cg λh' hx=>?_;have I1:Inv X pins σ H {s with heap:=h'}:=I.kept (t':=s.toks) λb o e=>hx b o (Bn<|Ar e) e;exact h pins _ σ H xs _ Q I1 (by simpa using rv) hw
def tW(te:TE)(g:TG):TS:=λD σ H=>te σ H λx H1=>g x σ H1 D.nx
def Vu{tg e:Expr}{te:TE}{g:TG}(he:PE X e te)(hg:PG X tg g)(hs:swapsWithSole [tg] e pos.line X.env=pure false:=by rfl)(hw:swappedStores [tg] e X.env=pure none:=by rfl)
  (h1:(assignEach [tg] X.env).map (·.2)=[assign tg X.env]:=by rfl):PS X (.Assign [tg] e pos) (tW te g):=by
 intro pins s σ H D I h;refine wpAny_Assign_stores (aF (he pins s σ H _ I h) λv s1 ⟨x,H1,I1,r1,q1⟩=>?_) hs hw;rw [h1];exact aF (hg pins s1 σ H1 x v _ I1 r1 q1) λ_ s2 q=>q
def Vv{i:Nat}{x:Str}{e:Expr}{te:TE}{pos':Pos}(hN:X.N.Nodup)(hi:X.N[i]?=some x)(hx:Loc X.env.scope x)(he:PE X e te)(hs:swapsWith e (some<|.Name x pos') pos.line X.env=pure false:=by rfl)(hf:X.fn x=true\/X.env.scope.names.lookup x=some .local:=by first | exact .inl rfl | exact .inr rfl | assumption) :
  PS X (.Assign [.Name x pos'] e pos) (tW te<|Mf i):=by
 intro pins s σ H D I h;refine wpAny_Assign_Name (aF (he pins s σ H _ I h) λv s1 ⟨y,H1,I1,r1,q1⟩=>?_) hs;exact tS I1 hN hi hx r1 (λs2 I2=>⟨_,H1,I2,q1⟩) hf
def A8(i j:Nat)(ta:TA):TS:=λD σ H=>ta σ H λvs H1=>∃ v w,vs=[v,w]/\D.nx ((σ.set i<|some v).set j<|some w) H1
def Vw{i j:Nat}{x y:Str}{a b:Expr}{ta:TA}{px py pt:Pos}{kt k2 pk}(hc:X.calm=true)(hN:X.N.Nodup)(hi:X.N[i]?=some x)(hj:X.N[j]?=some y)(dw:i≠j)
  (hx:X.env.scope.names.lookup x=some .local) (hy:X.env.scope.names.lookup y=some .local) (ha:PA X [a,b] ta)
  (hw:swappedStores [.Tuple [.Name x px,.Name y py] kt pt] (.Tuple [a,b] k2 pk) X.env=pure (some [x,y]))
  (hs:swapsWithSole [.Tuple [.Name x px,.Name y py] kt pt] (.Tuple [a,b] k2 pk) pos.line X.env=pure false:=by rfl) :
  PS X (.Assign [.Tuple [.Name x px,.Name y py] kt pt] (.Tuple [a,b] k2 pk) pos) (A8 i j ta):=by
 intro pins s σ H D I h;rw [exec_Assign_arm];refine BJ<|EY ?_;rw [hs];refine BJ<|BP ?_;rw [BK<|by decide];refine BJ<|Tuple_<|aF (ha _ pins s σ H _ I h) λus s1 ⟨vs,H1,I1,r1,q1⟩=>?_;obtain⟨v,w,e1,q1⟩:=q1;subst e1;obtain⟨u1,u2,rfl,rv,dJ⟩:∃ u1 u2,us=[u1,u2]/\RelV v u1/\RelV w u2:=by
  cases r1 with
  | cons p q=>
   cases q with
   | cons p' q'=>
    cases q';exact⟨_,_,rfl,p,p'⟩
 refine CQ ?_ Z2;have I2:Inv X pins σ H1 {s1 with heap:=s1.heap.push {cls:= .type "tuple",data:= .seq [u1,u2].toArray}}:=I1.kept (t':=s1.toks) λb o e=>Ae _ e;rw [hw];refine BJ<|BP ?_;show wpAny (model X.prog X.w) X.A (do rule "assign.swapped-stores";let items <- unpackItems (.ref s1.heap.objs.size) 2 none;assignInOrder [λv=>bindName X.env y v,λv=>bindName X.env x v] items.reverse;pure Flow.next) _ _ _;refine BJ<|GX<|BJ<|unpackItems_tuple (items:=#[u1,u2]) (I.ok.hd hc) (IsTup.new s1.heap _) λh' iZ=>?_;have I3:=I2.kept (h':=h') (t':=s1.toks) λb o e=>iZ b o (Bn<|Ar e) e;show wpAny _ _ (assignInOrder [λv=>bindName X.env y v,λv=>bindName X.env x v] [u2,u1] >>= λ_=>pure Flow.next) _ _ _;refine BJ<|PL<|wpAny_bindName<|tS I3 hN hj (.inl hy) dJ (λs2 I4=>?_)<|.inr hy;refine PL<|wpAny_bindName<|tS I4 hN hi (.inl hx) rv (λs3 I5=>assignInOrder_nil<|BP ?_)<|.inr hx;rw [List.set_comm _ _<|CG dw] at I5;exact⟨_,H1,I5,q1⟩
def Vx(c:TT)(tb:TS):TS:=λD σ H=>∃ W:Nat->St->Hp->Prop,(∃ m,W m σ H)/\∀ m σ H,W m σ H ->
 c σ H λb H1=>if b=true then ∃ N:St->Hp->Prop,(∀ σ' H',N σ' H'->∃ m',m' < m/\W m' σ' H')/\tb {D with nx:=N,ct:=N,bk:=D.nx} σ H1 else D.nx σ H1
theorem Vy{c:Expr}{body:List Stmt}{tc:TT}{tb:TS}(hp:PassesOwn (model X.prog X.w) X.A X.env X.xe)(hc:PT X c tc)(hb:iX X body tb):PS X (.While c body [] pos) (Vx tc tb):=by
 intro pins s σ H D I h;obtain⟨W,⟨m0,w0⟩,turn⟩:=h;refine wpAny_While<|codeAny_whileLoop (λn s'=>∃ σ' H',Inv X pins σ' H' s'/\W n σ' H') ?_ m0 ⟨σ,H,I,w0⟩;rintro n s1 ⟨σ1,H1,I1,w1⟩;refine HJ hp<|aF (hc pins s1 σ1 H1 _ I1<|turn n σ1 H1 w1) λb s2 ⟨H2,I2,q2⟩=>?_;cases b with
 | true=>
  obtain⟨N,hN,q2⟩:=q2;rw [BL rfl];refine HJ hp<|aF (hb pins s2 σ1 H2 _ I2 q2) λf s3 q3=>?_;cases f with
  | next=>
   obtain⟨σ3,H3,I3,n3⟩:=q3;obtain⟨m',hm,w3⟩:=hN σ3 H3 n3;exact⟨m',hm,σ3,H3,I3,w3⟩
  | cont=>
   obtain⟨σ3,H3,I3,n3⟩:=q3;obtain⟨m',hm,w3⟩:=hN σ3 H3 n3;exact⟨m',hm,σ3,H3,I3,w3⟩
  | brk=>exact q3
  | ret v=>exact q3
 | false=>
  rw [BK Av];exact RP ⟨σ1,H2,I2,q2⟩
end
structure It where
 go:Nat->Hp->Prop
 tX:Nat->Hp->V->Hp->Prop
 stop:Nat->Hp->Prop
def cb(X:Cx)(pins:List<|Addr×Obj)(H:Hp)(b:Addr):Prop:=
 H b=none/\b≠X.env.locals/\b∉X.fs/\(b∈X.ex\/X.s₀.heap.objs.size<=b)/\(∀ x c,X.env.cells.lookup x=some c->c≠b)/\∀ p∈X.pn++pins,p.1≠b
def Inv.fX{X:Cx}{pins:List (Addr×Obj)}{σ:St}{H H':Hp}{s:Shared}{b:Addr}(I:Inv X pins σ H s)(hb:s.heap.objs.size<=b)(hn:H' b=none):cb X pins H' b:=by
 refine⟨hn,Cm<|Bb I.lt hb,I.AX hb,.inr<|Bv I.sz hb,λx c e z=>?_,λp hp z=>?_⟩
 ·obtain⟨v,q⟩:=I.cell x c e;exact absurd (Bb q.lt<|by rw [z];exact hb)<|Co _
 ·exact absurd (Bb (Ar (I.pin p hp).1)<|by rw [z];exact hb)<|Co _
structure Turn(P:Program)(w:World)(K:PySem.W.Frag)(tg:Expr)(J:It)(fp:List Addr)(it:Addr)(tn:Nat->Heap->Prop):Prop where
 mem:it∈fp
 obj:∀ i h,tn i h->∀ b∈fp,∃ o,h.get? b=some o/\∀ v,o.data ≠ .cell v
 keep:∀ i h h',tn i h->(∀ b∈fp,∀ o,h.get? b=some o->h'.get? b=some o)->tn i h'
 item:∀(X:Cx),X.prog=P->X.w=w->X.K=K->X.calm=true->∀(i:Nat) (pins:List<|Addr×Obj) (s:Shared) (σ:St) (H:Hp) (E:Value->Shared->Prop),Inv X pins σ H s->(∀ b∈fp,cb X pins H b)->tn i s.heap->J.go i H ->
  wpAny (model P w) X.A (pyNext<|.ref it) (λr s1=>∃ u,r=some u /\
   wpAny (model P w) X.A (letOwnedTupleGo tg (.ref it) u) (λ_ s2=>∃ x H',Inv X pins σ H' s2/\RelV x u/\J.tX i H x H'/\tn (i+1) s2.heap/\∀ b∈fp,H' b=none) E s1) E s
 done:∀(X:Cx),X.prog=P->X.w=w->X.K=K->X.calm=true->∀(i:Nat) (pins:List<|Addr×Obj) (s:Shared) (σ:St) (H:Hp) (E:Value->Shared->Prop),Inv X pins σ H s->(∀ b∈fp,cb X pins H b)->tn i s.heap->J.stop i H ->
  wpAny (model P w) X.A (pyNext<|.ref it) (λr s1=>r=none/\Inv X pins σ H s1) E s
 self:∀(A:Around) (i:Nat) (s:Shared) (Q:Value->Shared->Prop) (E:Value->Shared->Prop),tn i s.heap->Q (.ref it) s->wpAny (model P w) A (pyIter<|.ref it) Q E s
abbrev TI:=St->Hp->(It->Hp->Prop)->Prop
def Mi(X:Cx)(pins:List<|Addr×Obj)(σ:St)(tg:Expr)(R:It->Hp->Prop)(jM:Value)(s2:Shared):Prop:=
 ∃(it:Addr) (fp:List Addr) (tn:Nat->Heap->Prop) (J:It) (H':Hp),jM = .ref it/\Inv X pins σ H' s2/\Turn X.prog X.w X.K tg J fp it tn/\tn 0 s2.heap/\(∀ b∈fp,cb X pins H' b)/\R J H'
def PI(X:Cx)(tg iter:Expr)(wi:TI):Prop:=
 ∀(pins:List<|Addr×Obj) (s:Shared) (σ:St) (H:Hp) (R:It->Hp->Prop),Inv X pins σ H s->wi σ H R ->
  wpAny (model X.prog X.w) X.A (eval iter X.env) (λv s1=>wpAny (model X.prog X.w) X.A (pyIter v) (Mi X pins σ tg R) X.xe s1) X.xe s
def xS{M:Model}{A:Around}{E:Value->Shared->Prop}{s:Shared}{tg:Expr}{it:Addr}{u:Value}{o:Obj}{n:String}{vs:Array Value}{Q:Unit->Shared->Prop}(ho:s.heap.get? it=some o)(hc:o.cls = .type n)(hd:o.data = .fields vs)
    (hn:["enumerate","zip","dict_itemiterator","dict_reverseitemiterator","odict_iterator","itertools.zip_longest","itertools.pairwise"].contains n=false) (hQ:Q () s):wpAny M A (letOwnedTupleGo tg (.ref it) u) Q E s:=by
  unfold letOwnedTupleGo;cases tg <;> first
    | exact BP hQ
    | (cases u <;> first
        | exact BP hQ
        | (refine BJ<|wpAny_load ho ?_
           rw [hc,hd];show wpAny M A (if(["enumerate","zip","dict_itemiterator","dict_reverseitemiterator","odict_iterator","itertools.zip_longest","itertools.pairwise"].contains n && vs[0]? == some (rawInt _))=true then _ else _) Q E s;rw [BK<|by intro h;rw [hn,Bool.false_and] at h;cases h];exact BP hQ))
def pq(K:PySem.W.Frag)(a:Addr):It:=
 ⟨λi H=>∃ xs x,ai K H a xs/\xs[i]?=some x,λi H x H'=>H'=H/\∀ xs,ai K H a xs->xs[i]?=some x,λi H=>∃ xs,ai K H a xs/\xs.length<=i⟩
def xT(K:PySem.W.Frag)(a:Addr):It:=
 ⟨λi H=>∃ xs x,aM K H a xs/\xs[i]?=some x,λi H x H'=>H'=H/\∀ xs,aM K H a xs->xs[i]?=some x,λi H=>∃ xs,aM K H a xs/\xs.length<=i⟩
def rz(lo:Int)(n:Nat):It:=⟨λi _=>i < n,λi H x H'=>H'=H/\x = .int (lo+i),λi _=>n<=i⟩
def Vz{P:Program}{w:World}{K:PySem.W.Frag}{tg:Expr}(a it:Addr):Turn P w K tg (pq K a) [it] it (λi h=>h.IsListIter it a i) where
 mem:=by simp
 obj:=λi h st b hb=>by
  have e:b=it:=by simpa using hb
  subst e;obtain⟨o,e,c,d⟩:=st;exact⟨o,e,λv z=>by rw [d] at z;cases z⟩
 keep:=λi h h' st k=>st.at λo e=>k it (by simp) o e
 item:=by
  intro X hP hw hK hc i pins s σ H E I hf st hg;subst hP hw hK;obtain⟨xs,x,hq,hx⟩:=hg;obtain⟨its,rv,p,hz⟩:=I.list hq;obtain⟨u,hu,ru⟩:=rv.get hx;obtain⟨f0,f1,f2,f3,f4,f5⟩:=hf it (by simp);refine wpAny_pyNext_list_item st p.isList (x:=u) (by simpa using hu) λh' cY sb=>?_;have I1:Inv X pins σ H {s with heap:=h'}:=I.turned (t':=s.toks) (λb o hb e=>(sb.2 b hb).trans e) f0 f1 f3 f4 f5;obtain⟨o,e,c,d⟩:=id cY;exact⟨u,rfl,xS (s:={s with heap:=h'}) e c d (by decide) ⟨x,H,I1,ru,⟨rfl,λys hy=>by rw [I.cM hy hq];exact hx⟩,cY,λb hb=>(hf b hb).1⟩⟩
 done:=by
  intro X hP hw hK hc i pins s σ H E I hf st hg;subst hP hw hK;obtain⟨xs,hq,hx⟩:=hg;obtain⟨its,rv,p,hz⟩:=I.list hq;obtain⟨f0,f1,f2,f3,f4,f5⟩:=hf it (by simp);have hl:=rv.length;exact wpAny_pyNext_list_end (I.ok.hd hc) st p.isList (by simp;omega) λh' eb=>⟨rfl,I.turned (t':=s.toks) (λb o hb e=>eb b o hb e) f0 f1 f3 f4 f5⟩
 self:=λ_ _ _ _ _ st h=>wpAny_pyIter_listiter st h
def VA{P:Program}{w:World}{K:PySem.W.Frag}{tg:Expr}(a it:Addr):Turn P w K tg (xT K a) [it] it (λi h=>h.IsTupleIter it a i) where
 mem:=by simp
 obj:=λi h st b hb=>by
  have e:b=it:=by simpa using hb
  subst e;obtain⟨o,e,c,d⟩:=st;exact⟨o,e,λv z=>by rw [d] at z;cases z⟩
 keep:=λi h h' st k=>st.at λo e=>k it (by simp) o e
 item:=by
  intro X hP hw hK hc i pins s σ H E I hf st hg;subst hP hw hK;obtain⟨xs,x,hq,hx⟩:=hg;obtain⟨its,rv,p,hz⟩:=I.tuple hq;obtain⟨u,hu,ru⟩:=rv.get hx;obtain⟨f0,f1,f2,f3,f4,f5⟩:=hf it (by simp);refine wpAny_pyNext_tuple_item st (show s.heap.IsTuple a its.toArray from p) (x:=u) (by simpa using hu) λh' cY sb=>?_;have I1:Inv X pins σ H {s with heap:=h'}:=I.turned (t':=s.toks) (λb o hb e=>(sb.2 b hb).trans e) f0 f1 f3 f4 f5;obtain⟨o,e,c,d⟩:=id cY;exact⟨u,rfl,xS (s:={s with heap:=h'}) e c d (by decide) ⟨x,H,I1,ru,⟨rfl,λys hy=>by rw [I.iY hy hq];exact hx⟩,cY,λb hb=>(hf b hb).1⟩⟩
 done:=by
  intro X hP hw hK hc i pins s σ H E I hf st hg;subst hP hw hK;obtain⟨xs,hq,hx⟩:=hg;obtain⟨its,rv,p,hz⟩:=I.tuple hq;obtain⟨f0,f1,f2,f3,f4,f5⟩:=hf it (by simp);have hl:=rv.length;exact wpAny_pyNext_tuple_end (I.ok.hd hc) st (show s.heap.IsTuple a its.toArray from p) (by simp;omega) λh' eb=>⟨rfl,I.turned (t':=s.toks) (λb o hb e=>eb b o hb e) f0 f1 f3 f4 f5⟩
 self:=λ_ _ _ _ _ st h=>wpAny_pyIter_tupleiter st h
def VC{P:Program}{w:World}{K:PySem.W.Frag}{tg:Expr}(it:Addr)(lo:Int)(n:Nat):Turn P w K tg (rz lo n) [it] it (λi h=>IsRangeIter h it (lo+(i:Nat) * 1) ((n:Int) - (i:Nat)) 1) where
 mem:=by simp
 obj:=λi h st b hb=>by
  have e:b=it:=by simpa using hb
  subst e;exact⟨_,st,λv z=>by
   have z':Data.fields _=Data.cell v:=z;cases z'⟩
 keep:=λi h h' st k=>k it (by simp) _ st
 item:=by
  intro X hP hw hK hc i pins s σ H E I hf st hg;subst hP hw hK;obtain⟨f0,f1,f2,f3,f4,f5⟩:=hf it (by simp);have W:=Walks.range (prog:=X.prog) (w:=X.w) (I.ok.hd hc) it lo 1 n;refine W.item i s _ _ hg st λv h' tk hv cY kk=>?_;obtain⟨t,rfl⟩:=hv;have I1:Inv X pins σ H {s with heap:=h',toks:=tk}:=I.turned (λb o hb e=>kk b o (by simpa using hb) e) f0 f1 f3 f4 f5;refine⟨_,rfl,xS (s:={s with heap:=h',toks:=tk}) (n:= "range_iterator") cY rfl rfl (by decide) ⟨.int<|lo+i,H,I1,⟨t,?_⟩,⟨rfl,rfl⟩,cY,λb hb=>(hf b hb).1⟩⟩;rw [Int.mul_one]
 done:=by
  intro X hP hw hK hc i pins s σ H E I hf st hg;subst hP hw hK;obtain⟨f0,f1,f2,f3,f4,f5⟩:=hf it (by simp);exact wpAny_pyNext_range_end (I.ok.hd hc) st (by have:n<=i:=hg;omega) λh' eb=>⟨rfl,I.turned (t':=s.toks) (λb o hb e=>eb b o hb e) f0 f1 f3 f4 f5⟩
 self:=λ_ _ _ _ _ st h=>wpAny_pyIter_rangeiter st h
section
variable{X:Cx}{tg:Expr}
def VE(K:PySem.W.Frag)(tl:TE):TI:=λσ H R=>tl σ H λx H1=>∃ a,x = .ref a/\(∃ xs,ai K H1 a xs)/\R (pq K a) H1
def A9(K:PySem.W.Frag)(tl:TE):TI:=λσ H R=>tl σ H λx H1=>∃ a,x = .ref a/\(∃ xs,aM K H1 a xs)/\R (xT K a) H1
def eg{l:Expr}{tl:TE}(hl:PE X l tl):PI X tg l (VE X.K tl):=by
 intro pins s σ H R I h;refine aF (hl pins s σ H _ I h) λv s1 ⟨x,H1,I1,r1,q1⟩=>?_;obtain⟨a,e,⟨xs,hq⟩,q⟩:=q1;subst e;cases r1;obtain⟨its,rv,p,hz⟩:=I1.list hq;refine wpAny_pyIter_list p.isList ?_;refine⟨s1.heap.objs.size,[s1.heap.objs.size],_,_,H1,rfl,I1.kept (t':=s1.toks) λb o e=>Ae _ e,Vz a _,⟨_,Aq _ rfl,rfl,rfl⟩,λb hb=>?_,q⟩;have e:b=s1.heap.objs.size:=by simpa using hb
 subst e;exact I1.fX (Am _)<|I1.aB.fresh<|Am _
def VG{l:Expr}{tl:TE}(hl:PE X l tl):PI X tg l (A9 X.K tl):=by
 intro pins s σ H R I h;refine aF (hl pins s σ H _ I h) λv s1 ⟨x,H1,I1,r1,q1⟩=>?_;obtain⟨a,e,⟨xs,hq⟩,q⟩:=q1;subst e;cases r1;obtain⟨its,rv,p,hz⟩:=I1.tuple hq;refine wpAny_pyIter_tuple (show s1.heap.IsTuple a its.toArray from p) ?_;refine⟨s1.heap.objs.size,[s1.heap.objs.size],_,_,H1,rfl,I1.kept (t':=s1.toks) λb o e=>Ae _ e,VA a _,⟨_,Aq _ rfl,rfl,rfl⟩,λb hb=>?_,q⟩;have e:b=s1.heap.objs.size:=by simpa using hb
 subst e;exact I1.fX (Am _)<|I1.aB.fresh<|Am _
def VH{pins:List (Addr×Obj)}{σ:St}{H:Hp}{s:Shared}{R:It->Hp->Prop}{E:Value->Shared->Prop}{lo hi:Int}{t u v:Tok}{tk:Nat}(I:Inv X pins σ H s)(h1:-(2 ^ 62)<=lo)(h2:lo < 2 ^ 62)(h3:-(2 ^ 62)<=hi)(h4:hi < 2 ^ 62)
  (q:R (rz lo (hi - lo).toNat) H):wpAny (model X.prog X.w) X.A (pyIter<|.ref s.heap.objs.size) (Mi X pins σ tg R) E {s with heap:=s.heap.push {cls:= .type "range",data:= .fields #[.int lo t,.int hi u,.int 1 v]},toks:=tk}:=by
 refine wpAny_pyIter_range (IsRange.new ..) (small_one h1 h2 h3 h4) ?_;have I1:Inv X pins σ H {s with heap:=s.heap.push {cls:= .type "range",data:= .fields #[.int lo t,.int hi u,.int 1 v]},toks:=tk}:=I.kept λb o e=>Ae _ e;refine⟨(s.heap.push {cls:= .type "range",data:= .fields #[.int lo t,.int hi u,.int 1 v]}).objs.size,[(s.heap.push {cls:= .type "range",data:= .fields #[.int lo t,.int hi u,.int 1 v]}).objs.size],_,_,H,rfl,
  I1.kept (t':=tk) λb o e=>Ae _ e,VC _ lo (hi - lo).toNat,?_,λb hb=>?_,q⟩
 ·have e1:lo+((0:Nat):Int) * 1=lo:=by simp
  have e2:(((hi - lo).toNat:Nat):Int) - ((0:Nat):Int)=Builtin.Range.rangeSize lo hi 1:=by rw [rangeSize_one];split <;> omega
  show IsRangeIter _ _ (lo+((0:Nat):Int) * 1) ((((hi - lo).toNat:Nat):Int) - ((0:Nat):Int)) 1;rw [e1,e2];exact Aq _ rfl
 ·have e:b=(s.heap.push {cls:= .type "range",data:= .fields #[.int lo t,.int hi u,.int 1 v]}).objs.size:=by simpa using hb
  subst e;exact I1.fX (Am _)<|I1.aB.fresh<|Am _
def Mj(ta:TA):TI:=λσ H R=>ta σ H λvs H1=>∃ j:Int,vs=[.int j]/\-(2 ^ 62)<=j/\j < 2 ^ 62/\R (rz 0 j.toNat) H1
theorem xU{a:Expr}{ta:TA}{p pos:Pos}(hg:Gl X "range")(hm:X.mg "range" = none)(ha:PA X [a] ta)(hs:starEach [a] X.env=[(false,eval a X.env)]:=by rfl):PI X tg (.Call (.Name "range" p) [a] [] pos) (Mj ta):=by
 intro pins s σ H R I h;refine Call_<|nI I hg hm boot_range<|GZ (aF (ha pos pins s σ H _ I h) λus s1 ⟨vs,H1,I1,r1,q1⟩=>?_) hs rfl;obtain⟨j,e,q1,q2,q⟩:=q1;subst e;cases r1 with
 | cons r rr=>
  cases rr;obtain⟨t,rfl⟩:=r;exact call_range_1<|VH I1 (by omega) (by omega) q1 q2<|by simpa using q
def BA(wi:TI)(g:TG)(tb:TS):TS:=λD σ H=>wi σ H λJ H1=>∃ W:Nat->Nat->St->Hp->Prop,(∃ m,W 0 m σ H1)/\∀ i m σ H,W i m σ H ->
 (J.stop i H/\D.nx σ H)\/(J.go i H/\∃ N:St->Hp->Prop,(∀ σ' H',N σ' H'->∃ m',m' < m/\W (i+1) m' σ' H')/\∀ x H',J.tX i H x H'->g x σ H' λσ2 H2=>tb {D with nx:=N,ct:=N,bk:=D.nx} σ2 H2)
def tY(fp:List Addr)(h:Heap):List (Addr×Obj):=fp.filterMap λb=>(h.get? b).map λo=>(b,o)
def xV{fp:List Addr}{h:Heap}{b:Addr}{o:Obj}(hb:b∈fp)(e:h.get? b=some o):(b,o)∈tY fp h:=List.mem_filterMap.mpr ⟨b,hb,by rw [e];rfl⟩
theorem VI{fp:List Addr}{h:Heap}{p:Addr×Obj}(hp:p∈tY fp h):p.1∈fp/\h.get? p.1=some p.2:=by
 obtain⟨b,hb,e⟩:=List.mem_filterMap.mp hp;cases q:h.get? b with
 | none=>rw [q] at e;cases e
 | some o=>
  rw [q] at e;have e':(b,o)=p:=Option.some.inj e;subst e';exact⟨hb,q⟩
def Inv.pinned{pins:List (Addr×Obj)}{σ:St}{H:Hp}{s:Shared}{fp:List Addr}(I:Inv X pins σ H s)(hf:∀ b∈fp,cb X pins H b)(ho:∀ b∈fp,∃ o,s.heap.get? b=some o/\∀ v,o.data ≠ .cell v):Inv X (pins++tY fp s.heap) σ H s:=
 I.iq λp hp=>(An.mp hp).elim (λz=>I.pin p<|Au _ z) λz=>by
  obtain⟨hb,e⟩:=VI z;obtain⟨f0,f1,f2,_⟩:=hf p.1 hb;obtain⟨o,e',d⟩:=ho p.1 hb;rw [e] at e';cases e';exact⟨e,f0,f1,f2,d⟩
def Inv.cN{pins pl:List (Addr×Obj)}{σ:St}{H:Hp}{s:Shared}(I:Inv X (pins++pl) σ H s):Inv X pins σ H s:=I.iq λp hp=>I.pin p<|Au _<|Az _ hp
def VJ{iter:Expr}{body:List Stmt}{wi:TI}{g:TG}{tb:TS}{pos:Pos}(hp:PassesOwn (model X.prog X.w) X.A X.env X.xe)(hc:X.calm=true)(hi:PI X tg iter wi)(hg:PG X tg g)(hb:iX X body tb)
  (hs:∀ x,foldedSetIterable iter X.env x=pure x:=by intro _;rfl):PS X (.For tg iter body [] pos) (BA wi g tb):=by
 intro pins s σ H D I h;refine wpAny_For (aF (hi pins s σ H _ I h) λv s1 h1=>aF h1 λjM s2 h2=>?_) hs;obtain⟨it,fp,tn,J,H2,e,I2,T,dL,f2,W,⟨m0,w0⟩,turn⟩:=h2;subst e;have stat:∀{H':Hp},(∀ b∈fp,H' b=none)->∀ b∈fp,cb X pins H' b:=λhn b hb=>⟨hn b hb,(f2 b hb).2⟩;refine codeAny_forLoop_any (λn s'=>∃ i σ' H',Inv X pins σ' H' s'/\tn i s'.heap/\(∀ b∈fp,H' b=none)/\W i n σ' H') ?_ m0 ⟨0,σ,H2,I2,dL,λb hb=>(f2 b hb).1,w0⟩;rintro n s3 ⟨i,σ3,H3,I3,Mk,Ml,w3⟩
 rcases turn i n σ3 H3 w3 with ⟨stop,qn⟩ | ⟨go,N,hN,step⟩
 ·refine HJ hp<|aF (T.done X rfl rfl rfl hc i pins s3 σ3 H3 X.xe I3 (stat Ml) Mk stop) λr s4 ⟨hr,I4⟩=>?_;subst hr;exact RP ⟨σ3,H3,I4,qn⟩
 ·refine HJ hp<|aF (T.item X rfl rfl rfl hc i pins s3 σ3 H3 X.xe I3 (stat Ml) Mk go) λr s4 ⟨u,hr,h4⟩=>?_;subst hr;refine HJ hp<|aF h4 λ_ s5 ⟨x,H5,I5,r5,y5,BD,VL⟩=>?_;have VM:=I5.pinned (stat VL)<|T.obj _ _ BD;refine HJ hp<|aF (hg _ s5 σ3 H5 x u _ VM r5<|step x H5 y5) λ_ s6 ⟨σ6,H6,I6,q6⟩=>?_;refine HJ hp<|aF (hb _ s6 σ6 H6 _ I6 q6) λf s7 q7=>?_;have again:∀{σ7:St} {H7:Hp},Inv X (pins++tY fp s5.heap) σ7 H7 s7->N σ7 H7->∃ m,m < n/\∃ i σ' H',Inv X pins σ' H' s7/\tn i s7.heap/\(∀ b∈fp,H' b=none)/\W i m σ' H':=λ{σ7 H7} I7 n7=>by
   obtain⟨m',hm,w7⟩:=hN σ7 H7 n7;refine⟨m',hm,i+1,σ7,H7,I7.cN,T.keep _ _ _ BD λb hb o e=>(I7.pin (b,o)<|Au _<|Au _<|xV hb e).1,λb hb=>?_,w7⟩;obtain⟨o,e,d⟩:=T.obj _ _ BD b hb;exact(I7.pin (b,o)<|Au _<|Au _<|xV hb e).2.1
  cases f with
  | next=>obtain⟨σ7,H7,I7,n7⟩:=q7;exact again I7 n7
  | cont=>obtain⟨σ7,H7,I7,n7⟩:=q7;exact again I7 n7
  | brk=>obtain⟨σ7,H7,I7,q7⟩:=q7;exact⟨σ7,H7,I7.cN,q7⟩
  | ret v=>obtain⟨x7,σ7,H7,I7,r7,q7⟩:=q7;exact⟨x7,σ7,H7,I7.cN,r7,q7⟩
end
abbrev R2:=V->V->Hp->VK->Prop
def cC(X:Cx)(f:Value->Value->Sem Value)(r:R2):Prop:=
 ∀(pins:List<|Addr×Obj) (s:Shared) (σ:St) (H:Hp) (x y:V) (v u:Value) (Q:VK),Inv X pins σ H s->RelV x v->RelV y u->r x y H Q ->
  wpAny (model X.prog X.w) X.A (f v u) (EP X pins σ Q) X.xe s
def xW(X:Cx)(f:Value->Sem Value)(r:V->Hp->VK->Prop):Prop:=
 ∀(pins:List<|Addr×Obj) (s:Shared) (σ:St) (H:Hp) (x:V) (v:Value) (Q:VK),Inv X pins σ H s->RelV x v->r x H Q ->
  wpAny (model X.prog X.w) X.A (f v) (EP X pins σ Q) X.xe s
def fv(X:Cx)(f:Value)(r:List V->Hp->VK->Prop):Prop:=
 ∀(pins:List<|Addr×Obj) (s:Shared) (σ:St) (H:Hp) (xs:List V) (us:List Value) (Q:VK),Inv X pins σ H s->ax xs us->r xs H Q ->
  wpAny (model X.prog X.w) X.A (call f us) (EP X pins σ Q) X.xe s
def BE(X:Cx)(r:V->Hp->(Bool->Hp->Prop)->Prop):Prop:=
 ∀(pins:List<|Addr×Obj) (s:Shared) (σ:St) (H:Hp) (x:V) (v:Value) (Q:Bool->Hp->Prop),Inv X pins σ H s->RelV x v->r x H Q ->
  wpAny (model X.prog X.w) X.A (truthy v) (TP X pins σ Q) X.xe s
def xX(r:R2)(ta tb:TE):TE:=λσ H Q=>ta σ H λx H1=>tb σ H1 λy H2=>r x y H2 Q
def VN(r:V->Hp->VK->Prop)(ta:TE):TE:=λσ H Q=>ta σ H λx H1=>r x H1 Q
def rI(C:Int->Int->Prop)(g:Int->Int->V):R2:=λx y H Q=>∃ i j,x = .int i/\y = .int j/\C i j/\Q (g i j) H
def nJ(g:Int->Int->V):R2:=λx y H Q=>∃ i j,x = .int i/\y = .int j/\Q (g i j) H
def rU(g:Int->V):V->Hp->VK->Prop:=λx H Q=>∃ i,x = .int i/\Q (g i) H
section
variable{X:Cx}{a b c:Expr}{ta tb tc:TE}{pos:Pos}
def pv(ha:PE X a ta)(hb:PE X b tb){pins:List (Addr×Obj)}{s:Shared}{σ:St}{H:Hp}{R:V->V->Hp->Prop}(I:Inv X pins σ H s)
  (h:ta σ H λx H1=>tb σ H1 λy H2=>R x y H2) {Q:Value->Shared->Prop} {f:Value->Value->Sem Value}
  (hf:∀ v u s2 x y H2,Inv X pins σ H2 s2->RelV x v->RelV y u->R x y H2->wpAny (model X.prog X.w) X.A (f v u) Q X.xe s2) :
  wpAny (model X.prog X.w) X.A (eval a X.env) (λv s₁=>wpAny (model X.prog X.w) X.A (eval b X.env) (λu s₂=>wpAny (model X.prog X.w) X.A (f v u) Q X.xe s₂) X.xe s₁) X.xe s:=by
 refine aF (ha pins s σ H _ I h) λv s1 ⟨x,H1,I1,r1,q1⟩=>?_;refine aF (hb pins s1 σ H1 _ I1 q1) λu s2 ⟨y,H2,I2,r2,q2⟩=>?_;exact hf v u s2 x y H2 I2 r1 r2 q2
def VO{op:Operator}{r:R2}(ho:cC X (binaryOp op) r)(ha:PE X a ta)(hb:PE X b tb):PE X (.BinOp a op b pos) (xX r ta tb):=by
 intro pins s σ H Q I h;exact wpAny_BinOp<|pv ha hb I h λv u s2 x y H2 I2 rx ry q=>ho pins s2 σ H2 x y v u Q I2 rx ry q
def VP{op:UnaryOp}{r:V->Hp->VK->Prop}(ho:xW X (unaryOp op) r)(ha:PE X a ta):PE X (.UnaryOp op a pos) (VN r ta):=by
 intro pins s σ H Q I h;exact UnaryOp_<|aF (ha pins s σ H _ I h) λv s1 ⟨x,H1,I1,r1,q1⟩=>ho pins s1 σ H1 x v Q I1 r1 q1
def tZ{f:Value->Value->Sem Value}{C:Int->Int->Prop}{g:Int->Int->Int}
  (rule:∀(i j:Int) (t u:Tok) (s:Shared) (Q:Value->Shared->Prop) (E:Value->Shared->Prop),C i j->Q (.int (g i j) s.toks) {s with toks:=s.toks+1}->wpAny (model X.prog X.w) X.A (f (.int i t)<|.int j u) Q E s) :
  cC X f (rI C λi j=> .int<|g i j):=by
 intro pins s σ H x y v u Q I rx ry h;obtain⟨i,j,rfl,rfl,hc,q⟩:=h;obtain⟨t,rfl⟩:=rx;obtain⟨t',rfl⟩:=ry;exact rule i j t t' s _ _ hc ⟨.int<|g i j,H,I.tok _,⟨_,rfl⟩,q⟩
def pw{f:Value->Value->Sem Value}{g:Int->Int->Int}
  (rule:∀(i j:Int) (t u:Tok) (s:Shared) (Q:Value->Shared->Prop) (E:Value->Shared->Prop),Q (.int (g i j) s.toks) {s with toks:=s.toks+1}->wpAny (model X.prog X.w) X.A (f (.int i t)<|.int j u) Q E s) :
  cC X f (nJ λi j=> .int<|g i j):=by
 intro pins s σ H x y v u Q I rx ry h;obtain⟨i,j,rfl,rfl,q⟩:=h;obtain⟨t,rfl⟩:=rx;obtain⟨t',rfl⟩:=ry;exact rule i j t t' s _ _ ⟨.int<|g i j,H,I.tok _,⟨_,rfl⟩,q⟩
def pz{f:Value->Value->Sem Value}{g:Int->Int->Bool}
  (rule:∀(i j:Int) (t u:Tok) (s:Shared) (Q:Value->Shared->Prop) (E:Value->Shared->Prop),Q (.bool<|g i j) s->wpAny (model X.prog X.w) X.A (f (.int i t)<|.int j u) Q E s) :
  cC X f (nJ λi j=> .bl<|g i j):=by
 intro pins s σ H x y v u Q I rx ry h;obtain⟨i,j,rfl,rfl,q⟩:=h;obtain⟨t,rfl⟩:=rx;obtain⟨t',rfl⟩:=ry;exact rule i j t t' s _ _ ⟨.bl<|g i j,H,I,rfl,q⟩
def t6(i j:Int):Prop:=0 < j/\j < 1073741824
def BF(i j:Int):Prop:=0<=j/\j<=1000000/\i.natAbs < 2 ^ 64
def pA(i j:Int):Prop:=(-(2 ^ 64) < i/\i < 2 ^ 64)\/(-(2 ^ 64) < j/\j < 2 ^ 64)
def pA.ok{i j:Int}(h:pA i j):IntMulOk i j:=by
 rcases h with ⟨h1,h2⟩ | ⟨h1,h2⟩
 ·exact .of_left<|intBits_le_64 h1 h2
 ·exact .of_right<|intBits_le_64 h1 h2
def VQ(k:Nat):(0:Int)<=2 ^ k:=by
 rw [two_pow_cast];exact Int.natCast_nonneg _
def fM:cC X (binaryOp .Add) (nJ λi j=> .int<|i+j):=pw λ_ _ _ _ _ _ _ q=>add_int q
def VR:cC X (binaryOp .Sub) (nJ λi j=> .int<|i - j):=pw λ_ _ _ _ _ _ _ q=>sub_int q
def xY:cC X (binaryOp .Mult) (rI pA λi j=> .int<|i * j):=tZ λ_ _ _ _ _ _ _ hc q=>mul_int q hc.ok
def iz:cC X (binaryOp .FloorDiv) (rI t6 λi j=> .int<|i / j):=tZ λi j _ _ _ _ _ hc q=>by
 have h1:(0:Int) < j:=hc.1;have h2:j < 1073741824:=hc.2;exact floordiv_int (by omega) (by rw [QB i<|by omega];exact q)<|.inl<|PyProof.noPylong_small<|by omega
def cO:cC X (binaryOp .Mod) (rI (λ_ j=>0 < j) λi j=> .int<|i % j):=tZ λi j _ _ _ _ _ hc q=>by
 have h1:(0:Int) < j:=hc;exact mod_int' (by omega)<|by rw [Int.fmod_eq_emod_of_nonneg i<|by omega];exact q
def Mm:cC X (binaryOp .Pow) (rI BF λi j=> .int<|i ^ j.toNat):=tZ λ_ _ _ _ _ _ _ hc q=>pow_int_small hc.1 hc.2.1 hc.2.2 q
def VS:cC X (binaryOp .RShift) (rI (λ_ j=>0<=j) λi j=> .int<|i / 2 ^ j.toNat):=tZ λi j _ _ _ _ _ hc q=>
 rshift_int hc (by rw [QB i<|VQ _];exact q)
def VU:cC X (binaryOp .BitAnd) (nJ λi j=> .int<|Builtin.bitAnd i j):=pw λ_ _ _ _ _ _ _ q=>and_int q
def VV{f:Value->Sem Value}{g:Int->Int}
  (rule:∀(i:Int) (t:Tok) (s:Shared) (Q:Value->Shared->Prop) (E:Value->Shared->Prop),Q (.int (g i) s.toks) {s with toks:=s.toks+1}->wpAny (model X.prog X.w) X.A (f<|.int i t) Q E s) :
  xW X f (rU λi=> .int<|g i):=by
 intro pins s σ H x v Q I rx h;obtain⟨i,rfl,q⟩:=h;obtain⟨t,rfl⟩:=rx;exact rule i t s _ _ ⟨.int<|g i,H,I.tok _,⟨_,rfl⟩,q⟩
def Mp:xW X (unaryOp .USub) (rU λi=> .int (-i)):=VV λ_ _ _ _ _ q=>neg_int q
def pB:V->V->Bool
 | .non,.non=>true | .non,.int _=>true | .int _,.non=>true | .non,.bl _=>true | .bl _,.non=>true | .non,.str _=>true | .str _,.non=>true
 | .int _,.int _=>true | .bl _,.bl _=>true | .str _,.str _=>true | .iW _,.iW _=>true
 | .int _,.str _=>true | .str _,.int _=>true | .bl _,.str _=>true | .str _,.bl _=>true
 | _,_=>false
def VW:R2:=λx y H Q=>pB x y=true/\Q (.bl<|decide (x=y)) H
def VX:R2:=λx y H Q=>pB x y=true/\Q (.bl (!decide (x=y))) H
def Mq{i j:Int}:decide (V.int i=V.int j)=(i == j):=by
 rw [Da];simp
def t7{i j:Bool}:decide (V.bl i=V.bl j)=(i == j):=by
 rw [Da];simp
def Mr{i j:Str}:decide (V.str i=V.str j)=(i == j):=by
 rw [Da];simp
def Mt{i j:Array UInt8}:decide (V.iW i=V.iW j)=(i.toList == j.toList):=by
 rw [Da];cases i;cases j;simp
def cD{pins:List (Addr×Obj)}{σ:St}{H:Hp}{s:Shared}{Q:VK}{k k':Bool}(I:Inv X pins σ H s)(q:Q (.bl k) H)(e:k=k'):EP X pins σ Q (.bool k') s:=by
 subst e;exact⟨.bl k,H,I,rfl,q⟩
theorem i0:cC X (compareOp .Eq) VW:=by
 intro pins s σ H x y v u Q I rx ry h;obtain⟨hs,q⟩:=h;cases x with
 | non=>
  cases rx;cases y with
  | non=>cases ry;exact PySem.EqNone.eq_none_none<|cD I q<|by simp
  | bl j=>cases ry;exact PySem.EqNone.eq_none_bool<|cD I q<|by simp
  | int j=>obtain⟨t',rfl⟩:=ry;exact PySem.EqNone.eq_none_int<|cD I q<|by simp
  | str j=>obtain⟨t',rfl⟩:=ry;exact PySem.EqNone.eq_none_str<|cD I q<|by simp
  | _=>exact absurd (show false=true from hs) Av
 | bl i=>
  cases rx;cases y with
  | non=>cases ry;exact PySem.EqNone.eq_bool_none<|cD I q<|by simp
  | bl j=>cases ry;exact eq_bool<|cD I q t7
  | str j=>obtain⟨t',rfl⟩:=ry;exact PySem.EqMixed.eq_bool_str<|cD I q<|by simp
  | _=>exact absurd (show false=true from hs) Av
 | int i=>
  obtain⟨t,rfl⟩:=rx;cases y with
  | non=>cases ry;exact PySem.EqNone.eq_int_none<|cD I q<|by simp
  | int j=>obtain⟨t',rfl⟩:=ry;exact eq_int<|cD I q Mq
  | str j=>obtain⟨t',rfl⟩:=ry;exact PySem.EqMixed.eq_int_str<|cD I q<|by simp
  | _=>exact absurd (show false=true from hs) Av
 | str i=>
  obtain⟨t,rfl⟩:=rx;cases y with
  | non=>cases ry;exact PySem.EqNone.eq_str_none<|cD I q<|by simp
  | bl j=>cases ry;exact PySem.EqMixed.eq_str_bool<|cD I q<|by simp
  | int j=>obtain⟨t',rfl⟩:=ry;exact PySem.EqMixed.eq_str_int<|cD I q<|by simp
  | str j=>obtain⟨t',rfl⟩:=ry;exact eq_str<|cD I q Mr
  | _=>exact absurd (show false=true from hs) Av
 | iW i=>
  obtain⟨t,rfl⟩:=rx;cases y with
  | iW j=>obtain⟨t',rfl⟩:=ry;exact PySem.W.eq_bytes<|cD I q Mt
  | _=>exact absurd (show false=true from hs) Av
 | _=>cases y <;> exact absurd (show false=true from hs) Av
theorem xZ:cC X (compareOp .NotEq) VX:=by
 intro pins s σ H x y v u Q I rx ry h;obtain⟨hs,q⟩:=h;cases x with
 | non=>
  cases rx;cases y with
  | non=>cases ry;exact PySem.EqNone.ne_none_none<|cD I q<|by simp
  | bl j=>cases ry;exact PySem.EqNone.ne_none_bool<|cD I q<|by simp
  | int j=>obtain⟨t',rfl⟩:=ry;exact PySem.EqNone.ne_none_int<|cD I q<|by simp
  | str j=>obtain⟨t',rfl⟩:=ry;exact PySem.EqNone.ne_none_str<|cD I q<|by simp
  | _=>exact absurd (show false=true from hs) Av
 | bl i=>
  cases rx;cases y with
  | non=>cases ry;exact PySem.EqNone.ne_bool_none<|cD I q<|by simp
  | bl j=>cases ry;exact ne_bool<|cD I q<|BZ not t7
  | str j=>obtain⟨t',rfl⟩:=ry;exact PySem.EqMixed.ne_bool_str<|cD I q<|by simp
  | _=>exact absurd (show false=true from hs) Av
 | int i=>
  obtain⟨t,rfl⟩:=rx;cases y with
  | non=>cases ry;exact PySem.EqNone.ne_int_none<|cD I q<|by simp
  | int j=>obtain⟨t',rfl⟩:=ry;exact ne_int<|cD I q<|BZ not Mq
  | str j=>obtain⟨t',rfl⟩:=ry;exact PySem.EqMixed.ne_int_str<|cD I q<|by simp
  | _=>exact absurd (show false=true from hs) Av
 | str i=>
  obtain⟨t,rfl⟩:=rx;cases y with
  | non=>cases ry;exact PySem.EqNone.ne_str_none<|cD I q<|by simp
  | bl j=>cases ry;exact PySem.EqMixed.ne_str_bool<|cD I q<|by simp
  | int j=>obtain⟨t',rfl⟩:=ry;exact PySem.EqMixed.ne_str_int<|cD I q<|by simp
  | str j=>obtain⟨t',rfl⟩:=ry;exact ne_str<|cD I q<|BZ not Mr
  | _=>exact absurd (show false=true from hs) Av
 | iW i=>
  obtain⟨t,rfl⟩:=rx;cases y with
  | iW j=>obtain⟨t',rfl⟩:=ry;exact PySem.W.ne_bytes<|cD I q<|BZ not Mt
  | _=>exact absurd (show false=true from hs) Av
 | _=>cases y <;> exact absurd (show false=true from hs) Av
def Mu:cC X (compareOp .Lt) (nJ λi j=> .bl<|decide (i < j)):=pz λ_ _ _ _ _ _ _ q=>lt_int q
def Mv:cC X (compareOp .Gt) (nJ λi j=> .bl<|decide (j < i)):=pz λ_ _ _ _ _ _ _ q=>gt_int q
def VY:cC X (compareOp .GtE) (nJ λi j=> .bl<|decide (j<=i)):=pz λ_ _ _ _ _ _ _ q=>ge_int q
def BG:cC X (compareOp .Is) (λx y H Q=>y = .non/\Q (.bl<|decide (x = .non)) H):=by
 intro pins s σ H x y v u Q I rx ry h;obtain⟨rfl,q⟩:=h;cases ry;refine is_none_gen<|cD I q ?_;cases x <;> first
  | (cases rx;rfl)
  | (obtain⟨t,rfl⟩:=rx;rfl)
def VZ:cC X (compareOp .IsNot) (λx y H Q=>y = .non/\Q (.bl (!decide (x = .non))) H):=by
 intro pins s σ H x y v u Q I rx ry h;obtain⟨rfl,q⟩:=h;cases ry;refine isnot_none_gen<|cD I q ?_;cases x <;> first
  | (cases rx;rfl)
  | (obtain⟨t,rfl⟩:=rx;rfl)
def V0{op:CmpOp}{r:R2}(ho:cC X (compareOp op) r)(ha:PE X a ta)(hb:PE X b tb)(hm:behindInMarks op b=false):PE X (.Compare a [op] [b] pos) (xX r ta tb):=by
 intro pins s σ H Q I h;exact wpAny_Compare1 (pv ha hb I h λv u s2 x y H2 I2 rx ry q=>ho pins s2 σ H2 x y v u Q I2 rx ry q) hm
def V1(t:TE):TT:=λσ H Q=>t σ H λx H'=>∃ k,x = .bl k/\Q k H'
def V2{op:CmpOp}{r:R2}(ho:cC X (compareOp op) r)(ha:PE X a ta)(hb:PE X b tb)(hm:behindInMarks op b=false):PT X (.Compare a [op] [b] pos) (V1<|xX r ta tb):=by
 intro pins s σ H Q I h;refine wpAny_isTrue_Compare1 (aF (ha pins s σ H _ I h) λv s1 ⟨x,H1,I1,r1,q1⟩=>aF (hb pins s1 σ H1 _ I1 q1) λu s2 ⟨y,H2,I2,r2,q2⟩=>
  aF (ho pins s2 σ H2 x y v u _ I2 r1 r2 q2) λc s3 ⟨z,H3,I3,r3,k,e,q3⟩=>?_) hm
 subst e;cases r3;exact FJ ⟨H3,I3,q3⟩
def lU(K:PySem.W.Frag)(x:V)(H:Hp)(k:Bool):Prop:=
 match x with
 | .non=>k=false
 | .bl b=>k=b
 | .int i=>k=(i != 0)
 | .str y=>y.length<=sizeLine/\k=((y.length:Int) != 0)
 | .iW y=>y.size<=sizeLine/\k=((y.size:Int) != 0)
 | .ref p=>(∃ xs,ai K H p xs/\k = !xs.isEmpty)\/(∃ xs,aM K H p xs/\k = !xs.isEmpty)\/∃ kvs,H p=some (.dK kvs)/\k = !kvs.isEmpty
 | _=>False
def V3{κ:Type}{kvs:List (κ×V)}{vs:List (κ×Value)}(r:KV kvs vs):(!vs.isEmpty) = !kvs.isEmpty:=by
 cases r <;> rfl
def Mw{xs:List V}{its:List Value}(r:ax xs its):(!its.toArray.isEmpty) = !xs.isEmpty:=by
 cases r <;> simp
def t8:(sizeLine:Nat) < 2 ^ 63:=by rw [DY];decide
theorem Mx:BE X (λx H Q=>∃ k,lU X.K x H k/\Q k H):=by
 intro pins s σ H x v Q I rx h;obtain⟨k,e,q⟩:=h;have hl:=t8;have hs:sizeLine=16777216:=DY;cases x with
 | non=>
  cases rx;have e':k=false:=e;subst e';exact truthy_none ⟨H,I,q⟩
 | bl b=>
  cases rx;have e':k=b:=e;subst e';exact FJ ⟨H,I,q⟩
 | int i=>
  obtain⟨t,rfl⟩:=rx;have e':k=(i != 0):=e;subst e';exact PySem.P.truthy_int ⟨H,I,q⟩
 | str y=>
  obtain⟨t,rfl⟩:=rx;obtain⟨hy,e'⟩:y.length<=sizeLine/\k=((y.length:Int) != 0):=e;subst e';exact PySem.P.truthy_str (by omega) ⟨H,I.tok _,q⟩
 | iW y=>
  obtain⟨t,rfl⟩:=rx;obtain⟨hy,e'⟩:y.size<=sizeLine/\k=((y.size:Int) != 0):=e;subst e';exact PySem.W.truthy_bytes (by omega) ⟨H,I.tok _,q⟩
 | ref p=>
  cases rx;have e':(∃ xs,ai X.K H p xs/\k = !xs.isEmpty)\/(∃ xs,aM X.K H p xs/\k = !xs.isEmpty)\/∃ kvs,H p=some (.dK kvs)/\k = !kvs.isEmpty:=e
  rcases e' with ⟨xs,hx,e'⟩ | ⟨xs,hx,e'⟩ | ⟨kvs,hx,e'⟩
  ·subst e';obtain⟨its,r,pl,hz⟩:=I.list hx;have hlen:=r.length;exact wpAny_truthy_list pl.isList (by simp only [Aw];omega) ⟨H,I.tok _,by rw [Mw r];exact q⟩
  ·subst e';obtain⟨its,r,pl,hz⟩:=I.tuple hx;have hlen:=r.length;exact truthy_tuple pl (by simp only [Aw];omega) ⟨H,I.tok _,by rw [Mw r];exact q⟩
  ·subst e';obtain⟨hz,hS,vs,r,m⟩:kvs.length<=sizeLine/\(p == sysModules)=false/\∃ vs,KV kvs vs/\s.heap.DictOf (dh X.prog X.w) p vs:=I.aB p _ hx;have hlen:kvs.length=vs.length:=Paired.length r;exact wpAny_truthy_dict hS m (by omega) ⟨H,I.tok _,by rw [V3 r];exact q⟩
 | _=>exact(show False from e).elim
def V4(ha:PE X a ta)(he:∀ whole,isTrue a X.env whole=(do let v <- whole;standAt a.pos;holding [v] (truthy v))) :
  PT X a (λσ H Q=>ta σ H λx H'=>∃ k,lU X.K x H' k/\Q k H'):=by
 intro pins s σ H Q I h;exact isTrue_plain (aF (ha pins s σ H _ I h) λv s1 ⟨x,H1,I1,r1,q1⟩=>Mx pins s1 σ H1 x v Q I1 r1 q1)<|he _
def V5:cC X (binaryOp .Add) (λx y H Q=>∃ i j,x = .str i/\y = .str j/\i.length+j.length<=sizeLine/\Q (.str<|i++j) H):=by
 intro pins s σ H x y v u Q I rx ry h;obtain⟨i,j,rfl,rfl,hz,q⟩:=h;obtain⟨t,rfl⟩:=rx;obtain⟨t',rfl⟩:=ry;exact add_str (λt' tk=>⟨.str<|i++j,H,I.tok _,⟨_,rfl⟩,q⟩) hz
theorem vals1{x:V}{us:List Value}(r:ax [x] us):∃ u,us=[u]/\RelV x u:=by
 cases r with
 | cons r1 r2=>cases r2;exact⟨_,rfl,r1⟩
theorem vals2{x y:V}{us:List Value}(r:ax [x,y] us):∃ u w',us=[u,w']/\RelV x u/\RelV y w':=by
 cases r with
 | cons r1 r2=>
  cases r2 with
  | cons r3 r4=>cases r4;exact⟨_,_,rfl,r1,r3⟩
def My(hc:X.calm=true):fv X (.builtin "max") (λxs H Q=>∃ i j,xs=[.int i,.int j]/\Q (.int (if j > i then j else i)) H):=by
 intro pins s σ H xs us Q I r h;obtain⟨i,j,rfl,q⟩:=h;obtain⟨u,w',rfl,⟨t,rfl⟩,⟨t',rfl⟩⟩:=vals2 r;refine max_two_ints (I.ok.hd hc) λh' tk k=>⟨_,H,I.kept k,?_,q⟩
 by_cases hj:j > i
 ·rw [BL hj,BL hj];exact⟨_,rfl⟩
 ·rw [BK hj,BK hj];exact⟨_,rfl⟩
end
structure pC(h:Heap)(x dx C:Addr)(mA:Str->Option Value):Prop where
 obj:h.get? x=some (PySem.W.instObj C dx)
 ns:h.Ns1 dx mA
 ne:dx≠x
def V6{h:Heap}{dx:Addr}{mA:Str->Option Value}(n:h.Ns1 dx mA):∃ od,h.get? dx=some od/\∀ name,PySem.W.lookIn name od=some (mA name):=by
 obtain⟨o,es,ep,ho,hd,hk,_,hm⟩:=n;refine⟨o,ho,λname=>?_⟩;have e:=hm name;unfold nsFind findBy at e;rw [<- Array.find?_toList] at e;unfold PySem.W.lookIn;rw [hd]
 dsimp only
 split
 ·rename_i y q;rw [q] at e;exact BZ some e
 ·rename_i q;rw [q] at e;have a:es.toList.any (·.refKey)=false:=by
   rw [List.any_eq_false];intro y hy;obtain⟨z,t,BH⟩:=hk y<|Array.mem_toList_iff.mp hy;simp [DictEntry.refKey,BH]
  have a':¬ es.toList.any (·.refKey)=true:=by rw [a];exact Av
  rw [BK a'];exact BZ some e
def pC.look{h:Heap}{x dx C:Addr}{mA:Str->Option Value}(I:pC h x dx C mA):∃ od,PySem.W.InstAt h x (PySem.W.instObj C dx) C (some od)/\∀ name,PySem.W.lookIn name od=some (mA name):=
 let ⟨od,ho,hl⟩:=V6 I.ns
 ⟨od,⟨I.obj,rfl,rfl,ho⟩,hl⟩
section
variable{prog:Program}{w:World}{A:Around}{E:Value->Shared->Prop}{s:Shared}{K:PySem.W.Frag}{x dx C f:Addr}{mA:Str->Option Value}{name:Str}{v:Value}
end
theorem dN.some_of{v:V}{o:Option Value}(r:dN (some v) o):∃ u,o=some u/\RelV v u:=by
 cases o with
 | none=>exact(show False from r).elim
 | some u=>exact⟨u,rfl,r⟩
section
variable{P:Program}{w:World}{H H':Hp}{h h':Heap}{a C dx:Addr}{fs UY:List (Str×V)}
def V7(aB:b8 P w H h)(e:H a=some (.ins C dx fs)):∃ mA,pC h a dx C mA/\(∀ f,dN (fs.lookup f)<|mA f)/\PySem.Within mA (fs.map (·.1))/\fs.length<=1000/\H dx=some (.own a):=by
 obtain⟨d,z,ne,ob,mA,n,r,q⟩:=(show az P w H h a (.ins C dx fs) from aB a _ e);exact⟨mA,⟨ob,n,ne⟩,r,q,z,d⟩
end
structure BI(K:PySem.W.Frag)(C:Addr):Prop where
 pg:PySem.W.plainGet K C Str.empty=true
 hd:PySem.W.hasDictIn K C=true
 po:PySem.W.plainOver K C=true
 sa:PySem.W.findIn K (.ref C) "__setattr__" = some (some<|.builtin "object.__setattr__")
def BI.get{K:PySem.W.Frag}{C:Addr}(c:BI K C)(f:Str):PySem.W.plainGet K C f=true:=c.pg
section
variable{X:Cx}{pins:List (Addr×Obj)}{σ:St}{H:Hp}{s:Shared}{a C dx:Addr}{fs:List (Str×V)}{f:Str}{v:V}{A:Around}{E:Value->Shared->Prop}
end
section
variable{X:Cx}{o e value:Expr}{f:Str}{pos pos' BM:Pos}{ta tv:TE}
end
section
variable{X:Cx}{pins:List (Addr×Obj)}{σ:St}{H:Hp}{s:Shared}{A:Around}{E:Value->Shared->Prop}{Q:Value->Shared->Prop}{c:Value}{b:Bool}
inductive cZ (K:PySem.W.Frag) (H:Hp):V->Value->Prop where
 | non:cZ K H .non<|.type "NoneType"
 | bl (x:Bool):cZ K H (.bl x)<|.type "bool"
 | int (i:Int):cZ K H (.int i)<|.type "int"
 | str (x:Str):cZ K H (.str x)<|.type "str"
 | rm (x:UInt64):cZ K H (.rm x)<|.type "float"
 | lst {a:Addr} {xs:List V} (e:H a=some (.lst xs)):cZ K H (.ref a)<|.type "list"
 | bh {a:Addr} {o:Obj} {xs:List V} (e:H a=some (.bh o<|.lst xs)):cZ K H (.ref a)<|.type "list"
 | tup {a:Addr} {xs:List V} (e:H a=some (.tup xs)):cZ K H (.ref a)<|.type "tuple"
 | dK {a:Addr} {kvs:List (Key×V)} (e:H a=some (.dK kvs)):cZ K H (.ref a)<|.type "dict"
 | dT {a:Addr} {kvs:List (List Key×V)} (e:H a=some (.dT kvs)):cZ K H (.ref a)<|.type "dict"
 | ins {a C dx:Addr} {fs:List (Str×V)} (e:H a=some (.ins C dx fs)) (cl:BI K C) (ha:PySem.W.findIn K (.ref C) "__class__" = some (some<|.builtin "object.__class__"))
   (hn:PySem.W.specialIn K (.builtin "object.__class__") "__get__" = some (some<|.builtin "getset_descriptor.__get__")) (t9:PySem.W.takesIn K (.builtin "object.__class__")=some true)
   (hm:PySem.W.mroIn K C (.type "object")=some true):cZ K H (.ref a)<|.ref C
theorem V8{x:V}{u t:Value}(I:Inv X pins σ H s)(rx:RelV x u)(ty:cZ X.K H x t)(e:PySem.W.kitOne X.K t c=some b)(h:∀ tk,Q (.bool b) {s with toks:=tk}) :
  wpAny (model X.prog X.w) A (call (.builtin "isinstance") [u,c]) Q E s:=by
 cases ty with
 | non=>cases (show u=Value.none from rx);exact DP PySem.W.kitx_none I.d9 True.intro e (λz=>nomatch z) h
 | bl y=>cases (show u=Value.bool y from rx);exact DP PySem.W.kitx_bool I.d9 True.intro e (λz=>nomatch z) h
 | int i=>obtain⟨t,q⟩:=(show ∃ t,u=Value.int i t from rx);cases q;exact DP PySem.W.kitx_int I.d9 True.intro e (λz=>nomatch z) h
 | str y=>obtain⟨t,q⟩:=(show ∃ t,u=Value.str y t from rx);cases q;exact DP PySem.W.kitx_str I.d9 True.intro e (λz=>nomatch z) h
 | rm y=>obtain⟨t,q⟩:=(show ∃ t,u=Value.float y t from rx);cases q;exact DP PySem.W.kitx_float I.d9 True.intro e (λz=>nomatch z) h
 | @lst a xs ea=>
  cases (show u=Value.ref a from rx);obtain⟨_,_,n,_,h1⟩:=(show az X.prog X.w H s.heap a (.lst xs) from I.aB a _ ea);exact DP PySem.W.kitx_list I.d9 ⟨_,h1,rfl⟩ e (λz=>nomatch z) h
 | @bh a ob xs ea=>
  cases (show u=Value.ref a from rx);obtain⟨_,_,_,n,_,h1⟩:=(show az X.prog X.w H s.heap a (.bh ob<|.lst xs) from I.aB a _ ea);exact DP PySem.W.kitx_list I.d9 ⟨_,h1,rfl⟩ e (λz=>nomatch z) h
 | @tup a xs ea=>
  cases (show u=Value.ref a from rx);obtain⟨_,_,_,p⟩:=(show az X.prog X.w H s.heap a (.tup xs) from I.aB a _ ea);obtain⟨o,h1,h2,_⟩:=p;exact DP PySem.W.kitx_tuple I.d9 ⟨o,h1,h2⟩ e (λz=>nomatch z) h
 | @dK a kvs ea=>
  cases (show u=Value.ref a from rx);obtain⟨_,_,vs,_,p⟩:=(show az X.prog X.w H s.heap a (.dK kvs) from I.aB a _ ea);obtain⟨o,es,ep,h1,h2,_⟩:=p;exact DP PySem.W.kitx_dict I.d9 ⟨o,h1,h2.1⟩ e (λz=>nomatch z) h
 | @dT a kvs ea=>
  cases (show u=Value.ref a from rx);obtain⟨_,_,xs,_,o,es,ep,h1,h2,_⟩:=(show az X.prog X.w H s.heap a (.dT kvs) from I.aB a _ ea);exact DP PySem.W.kitx_dict I.d9 ⟨o,h1,h2.1⟩ e (λz=>nomatch z) h
 | @ins a C dx fs ea cl ha hn t9 hm=>
  cases (show u=Value.ref a from rx);obtain⟨mA,O,_⟩:=V7 I.aB ea;obtain⟨od,J,_⟩:=O.look;exact DP (PySem.W.kitx_own (cl.get _) cl.hd ha hn t9 hm) I.d9 J e (λz=>nomatch z) h
end
structure bo(k:Nat)(A:Around):Prop where
 hd:A.handled=none
 dp:A.depth+3 * k+5 < recursionLimit
 un:A.units+16 * k+200 < cLine
def bo.mono{j k:Nat}{A:Around}(r:bo k A)(h:j<=k):bo j A:=⟨r.hd,by have:=r.dp;omega,by have:=r.un;omega⟩
def bo.deeper{k:Nat}{A:Around}(r:bo (k+1) A)(env:Env):bo k (A.deeper env):=
 ⟨r.hd,by have:=r.dp;show A.depth+1+3 * k+5 < _;omega,by have:=r.un;show A.units+3+16 * k+200 < _;omega⟩
def bo.depth{k:Nat}{A:Around}(r:bo k A):A.depth < recursionLimit:=by have:=r.dp;omega
def BO:TA:=λ_ H Q=>Q [] H
def Mz(ta:TE)(tr:TA):TA:=λσ H Q=>ta σ H λx H1=>tr σ H1 λxs H2=>Q (x :: xs) H2
section
variable{X:Cx}{e:Expr}{es:List Expr}{te:TE}{t:TA}{pos:Pos}
def V9:PA X [] BO:=λ_ _ _ _ H Q I h=>Calls.spliced_nil ⟨[],H,I,.nil,h⟩
def V'(ha:PE X e te)(hr:PA X es t)(hs:starEach (e :: es) X.env=(false,eval e X.env) :: starEach es X.env:=by rfl):PA X (e :: es) (Mz te t):=by
 intro pos pins s σ H Q I h;rw [hs];show wpAny _ _ (spliced<|(false,eval e X.env) :: backTo pos (starEach es X.env)) _ _ s;refine Calls.spliced_cons<|aF (ha pins s σ H _ I h) λu s1 ⟨x,H1,I1,r1,q1⟩=>?_;exact aF (hr pos pins s1 σ H1 _ I1 q1) λus s2 ⟨xs,H2,I2,r2,q2⟩=>⟨x :: xs,H2,I2,.cons r1 r2,q2⟩
def BQ(t:TA):TE:=λσ H Q=>t σ H λxs H1=>xs.length<=sizeLine/\∀ p,H1 p=none->Q (.ref p) (upd H1 p<|.tup xs)
def BU(t:TA):TE:=λσ H Q=>t σ H λxs H1=>xs.length<=sizeLine/\∀ p,H1 p=none->Q (.ref p) (upd H1 p<|.lst xs)
def Wa{x1}(h:PA X es t):PE X (.Tuple es x1 pos) (BQ t):=by
 intro pins s σ H Q I hq;refine wpAny_Tuple_spliced (aF (h pos pins s σ H _ I hq) λus s1 ⟨xs,H1,I1,r,z,q⟩=>⟨by rw [<- r.length];exact z,?_⟩);have hf:H1 s1.heap.objs.size=none:=I1.aB.fresh<|Am _;refine⟨.ref s1.heap.objs.size,upd H1 s1.heap.objs.size<|.tup xs,I1.laid (t':=s1.toks) (λb u e=>Ae _ e) (Am _) ?_,rfl,q _ hf⟩;exact⟨z,us,r,⟨_,Aq _ rfl,rfl,_,rfl⟩⟩
def Wb(h:PA X es t):PE X (.List es pos) (BU t):=by
 intro pins s σ H Q I hq;refine wpAny_List_spliced (aF (h pos pins s σ H _ I hq) λus s1 ⟨xs,H1,I1,r,z,q⟩=>⟨by rw [<- r.length];exact z,?_⟩);have hf:H1 s1.heap.objs.size=none:=I1.aB.fresh<|Am _;refine⟨.ref s1.heap.objs.size,upd H1 s1.heap.objs.size<|.lst xs,I1.laid (t':=s1.toks) (λb u e=>Ae _ e) (Am _) ?_,rfl,q _ hf⟩;exact⟨z,us,0,r,Aq _ rfl⟩
end
abbrev Sp:=List V->Hp->VK->XK->Prop
abbrev fN:=List Env->Hp->Shared->XK->Value->Shared->Prop
structure lV(P:Program)(w:World)(K:PySem.W.Frag)(mg:Str->Option Value)(base:Heap)(A:Around)(outer:List Env)(s:Shared)(H:Hp):Prop where
 frames:A.frames=some outer
 mod:Mod K mg base
 bs:∀ b o,base.get? b=some o->s.heap.get? b=some o/\H b=none
 js:base.objs.size<=s.heap.objs.size
 cr:s.heap.FunFrames base outer
 k6:∀ b∈di outer,H b=none
 aB:b8 P w H s.heap
 bare:AllBare s.gens
def CE(outer:List Env)(P:Program)(w:World)(H:Hp)(s:Shared)(Q:VK)(u:Value)(s':Shared):Prop:=
 ∃ v H',s'.os=s.os/\AllBare s'.gens/\Un (di outer) [] H H' s.heap s'.heap/\b8 P w H' s'.heap/\RelV v u/\Q v H'
def CR(CX:fN)(outer:List Env)(P:Program)(w:World)(H:Hp)(s:Shared)(Q:VK)(E:XK)(r:Result)(s':Shared):Prop:=
 match r with
 | .ok (.ret u)=>CE outer P w H s Q u s'
 | .ok _=>False
 | .error e=>CX outer H s E e s'
structure aC(P:Program)(w:World)(K:PySem.W.Frag)(mg:Str->Option Value)(base:Heap)(CX:fN)(k:Nat)(f:Addr)(fd:FuncData)(ps:List Str)(sp:Sp):Prop where
 len:∀ vs H Q E,sp vs H Q E->vs.length=ps.length
 run:∀(A:Around) (outer:List Env) (s:Shared) (H:Hp) (args:Args) (us:List Value) (vs:List V) (Q:VK) (E:XK),bo k A->lV P w K mg base A outer s H->BindsTo s fd args (ps.zip us)->ax vs us->sp vs H Q E ->
  codeAny (model P w) A (.call (.ref f) args) (CR CX outer P w H s Q E) s
def aC.mono{P:Program}{w:World}{K:PySem.W.Frag}{mg:Str->Option Value}{base:Heap}{CX:fN}{j k:Nat}{f:Addr}{fd:FuncData}{ps:List Str}{sp:Sp}(F:aC P w K mg base CX j f fd ps sp)(h:j<=k) :
  aC P w K mg base CX k f fd ps sp:=⟨F.len,λA outer s H args us vs Q E hr=>F.run A outer s H args us vs Q E<|hr.mono h⟩
def aC.imp{P:Program}{w:World}{K:PySem.W.Frag}{mg:Str->Option Value}{base:Heap}{CX:fN}{k:Nat}{f:Addr}{fd:FuncData}{ps:List Str}{sp MA:Sp}(F:aC P w K mg base CX k f fd ps sp)
  (h:∀ vs H Q E,MA vs H Q E->sp vs H Q E):aC P w K mg base CX k f fd ps MA:=
 ⟨λvs H Q E q=>F.len vs H Q E<|h _ _ _ _ q,λA outer s H args us vs Q E hr he hb hv hs=>F.run A outer s H args us vs Q E hr he hb hv<|h _ _ _ _ hs⟩
section
variable{X:Cx}{pins:List (Addr×Obj)}{σ:St}{H:Hp}{s s':Shared}
def Inv.ua(I:Inv X pins σ H s):lV X.prog X.w X.K X.mg X.base X.A X.stack s H:=
 ⟨I.ok.frames,I.ok.mod,I.bs,Bv I.ok.js I.sz,I.stack,I.dI,I.aB,I.bare⟩
def Inv.after{Q:VK}{u:Value}(I:Inv X pins σ H s)(h:CE X.stack X.prog X.w H s Q u s'):EP X pins σ Q u s':=by
 obtain⟨v,H',os,bare,un,aB,r,q⟩:=h;obtain⟨hh,g,d,t,Wc⟩:=s';obtain rfl:Wc=s.os:=os;exact⟨v,H',I.call (h':=hh) (g':=g) (d':=d) (t':=t) (ch:=[]) un aB bare (λb z=>absurd z<|by simp),r,q⟩
end
def MB(sp:Sp)(lW:List V)(E:XK)(t:TA):TE:=λσ H Q=>t σ H λvs H1=>sp (vs++lW) H1 Q E
def Binds(K:PySem.W.Frag)(fd:FuncData)(ps:List Str)(ds:List Value):Prop:=
 ∀(s:Shared) (us:List Value),K.In s.heap->(us++ds).length=ps.length->BindsTo s fd ⟨us,[]⟩ (ps.zip<|us++ds)
def Binds.all{K:PySem.W.Frag}{fd:FuncData}{ps:List Str}(h:∀ us:List Value,us.length=ps.length->bindArgs fd ⟨us,[]⟩=pure (ps.zip us)):Binds K fd ps []:=λs us _ hl=>by
 rw [Ba] at hl ⊢;exact .of_eq<|h us hl
def rA(CX:fN)(X:Cx)(E:XK):Prop:=∀(pins:List<|Addr×Obj) (σ:St) (H:Hp) (s:Shared) (e:Value) (s':Shared),Inv X pins σ H s->CX X.stack H s E e s'->X.xe e s'
section
variable{X:Cx}{CX:fN}{k:Nat}{f C:Addr}{fd:FuncData}{ps:List Str}{sp:Sp}{lW:List V}{ds:List Value}{E:XK}{x m:Str}{p pos apos:Pos}{e o:Expr}{es:List Expr}{ta:TE}{t:TA}
theorem Wd{pins:List (Addr×Obj)}{σ:St}{H:Hp}{s:Shared}{Q:VK}{us:List Value}{vs:List V}(F:aC X.prog X.w X.K X.mg X.base CX k f fd ps sp)(hr:bo k X.A)(hb:Binds X.K fd ps ds)(hd:ax lW ds)(hx:rA CX X E)
  (I:Inv X pins σ H s) (r:ax vs us) (h:sp (vs++lW) H Q E):wpAny (model X.prog X.w) X.A (call (.ref f) us) (EP X pins σ Q) X.xe s:=by
 have r2:ax (vs++lW) (us++ds):=r.append hd;have hl:(us++ds).length=ps.length:=by rw [<- r2.length];exact F.len _ _ _ _ h
 refine wpAny_call<|JG (F.run X.A X.stack s H ⟨us,[]⟩ (us++ds) (vs++lW) Q E hr I.ua (hb s us I.d9 hl) r2 h) λr s' hq=>?_;cases r with
 | error e=>exact hx pins σ H s e s' I hq
 | ok fl=>
  cases fl with
  | ret u=>exact I.after hq
  | next=>exact False.elim hq
  | brk=>exact False.elim hq
  | cont=>exact False.elim hq
def Wf(F:aC X.prog X.w X.K X.mg X.base CX k f fd ps sp)(hr:bo k X.A)(hg:Gl X x)(hm:X.mg x=some (.ref f))(hk:PySem.W.keepIn X.K (.ref f)=true)(hb:Binds X.K fd ps ds)(hd:ax lW ds)(hx:rA CX X E)
  (ha:PA X (e :: es) t) (cP:(x == ("__debug__" : Str))=false:=by decide) (he:starEach (e :: es) X.env=(false,eval e X.env) :: starEach es X.env:=by rfl) (jN:(backTo pos<|starEach es X.env).any (·.1)=false:=by rfl) :
  PE X (.Call (.Name x p) (e :: es) [] pos) (MB sp lW E t):=by
 intro pins s σ H Q I h;refine IV<|tT I hg hm ?_ cP;refine PySem.W.callWith_K (h₀:=X.base) I.ok.mod.pc hk (aF (ha pos pins s σ H _ I h) λus s1 ⟨vs,H1,I1,r,q⟩=>⟨I1.d9,?_⟩) he jN;exact Wd F hr hb hd hx I1 r q
end
section
variable{X:Cx}{CX:fN}{k:Nat}{f C:Addr}{fd:FuncData}{ps ks:List Str}{sp:Sp}{E:XK}{x m:Str}{p pos apos Wg:Pos}{e o:Expr}{es:List Expr}{kws:List Keyword}{te ta:TE}{t tk:TA}{nm:Option Str}
variable{g:List Value->List Value->List Value}{gV:List V->List V->List V}
end
structure ao(N P:List Str)(sc:Scope):Prop where
 kind:sc.kind = .function
 co:sc.isCoroutine=false
 gen:sc.isGenerator=false
 nd:N.Nodup
 pre:N.take P.length=P
 par:∀ x∈P,sc.names.lookup x=some .local\/sc.names.lookup x=some .cell
 pD:∀ y∈sc.names,y.2 ≠ .free
theorem MC{kindOf:Str->Option NameKind}{x:Str}:∀{binds:List (Str×Value)} {m:Str->Option Value},(∀ v,(x,v)∉binds)->bindL kindOf binds m x=m x
 | [],_,_=>rfl
 | (n,v) :: r,m,h=>by
  unfold bindL;rw [MC λw hw=>h w<|Ak _ hw]
  split
  ·have:x≠n:=by rintro rfl;exact h v Ah
   simp [this]
  ·rfl
theorem MD{kindOf:Str->Option NameKind}{x:Str}:∀{binds:List (Str×Value)} {m:Str->Option Value},(∀ v,(x,v)∉binds)->bindC kindOf binds m x=m x
 | [],_,_=>rfl
 | (n,v) :: r,m,h=>by
  unfold bindC;rw [MD λw hw=>h w<|Ak _ hw]
  split
  ·rfl
  ·have:x≠n:=by rintro rfl;exact h v Ah
   simp [this]
theorem ME{kindOf:Str->Option NameKind}{x:Str}{v:Value}:∀{P:List Str} {vs:List Value} {i:Nat} {m:Str->Option Value},P.Nodup->P[i]?=some x->vs[i]?=some v->kindOf x=some .local ->
  bindL kindOf (P.zip vs) m x=some v
 | [],_,_,_,_,h,_,_=>by simp at h
 | _ :: _,[],_,_,_,_,h,_=>by simp at h
 | p :: P,w :: vs,0,m,nd,h1,h2,hk=>by
  simp at h1 h2;subst h1;subst h2;show bindL kindOf ((p,w) :: P.zip vs) m p=_;unfold bindL;rw [MC λv hv=>(Bi.mp nd).1 (RQ hv).1,BL hk];simp
 | p :: P,w :: vs,i+1,m,nd,h1,h2,hk=>by
  show bindL kindOf ((p,w) :: P.zip vs) m x=_;unfold bindL;exact ME (i:=i) (Bi.mp nd).2 (by simpa using h1) (by simpa using h2) hk
theorem MG{kindOf:Str->Option NameKind}{x:Str}{v:Value}:∀{P:List Str} {vs:List Value} {i:Nat} {m:Str->Option Value},P.Nodup->P[i]?=some x->vs[i]?=some v->kindOf x≠some .local ->
  bindC kindOf (P.zip vs) m x=some v
 | [],_,_,_,_,h,_,_=>by simp at h
 | _ :: _,[],_,_,_,_,h,_=>by simp at h
 | p :: P,w :: vs,0,m,nd,h1,h2,hk=>by
  simp at h1 h2;subst h1;subst h2;show bindC kindOf ((p,w) :: P.zip vs) m p=_;unfold bindC;rw [MD λv hv=>(Bi.mp nd).1 (RQ hv).1,BK hk];simp
 | p :: P,w :: vs,i+1,m,nd,h1,h2,hk=>by
  show bindC kindOf ((p,w) :: P.zip vs) m x=_;unfold bindC;exact MG (i:=i) (Bi.mp nd).2 (by simpa using h1) (by simpa using h2) hk
def start(N:List Str)(vs:List V):St:=vs.map some++List.replicate (N.length - vs.length) none
def eN(CX:fN)(P:Program)(w:World)(K:PySem.W.Frag)(mg:Str->Option Value)(base:Heap)(N:List Str)(qual:Str)(scope:Scope)(f:Addr)(cd:Value)(A:Around)(outer:List Env)(s:Shared)(H:Hp)(E:XK):Cx where
 prog:=P
 w:=w
 K:=K
 mg:=mg
 base:=base
 A:=A.deeper<|envOfC qual scope s.heap.objs.size f cd
 N:=N
 s₀:=s
 H₀:=H
 env:=envOfC qual scope s.heap.objs.size f cd
 outer:=outer
 stack:=envOfC qual scope s.heap.objs.size f cd :: outer
 ex:=[]
 calm:=true
 fn:=λ_=>true
 pn:=[]
 xe:=λe s'=>wpAny (model P w) (A.deeper<|envOfC qual scope s.heap.objs.size f cd) (leaving (envOfC qual scope s.heap.objs.size f cd) e) (λ_ pE=>CX outer H s E e pE) (λe' pE=>CX outer H s E e' pE) s'
def MH{sc:Scope}{n:Nat}{x:Str}(h:sc.names.lookup x=some .cell):∃ c,(cellsFrom n sc.names []).lookup x=some c:=by
 have q:=JC sc.names n []<|.inl h;exact Ee.mp q
def Wh{CX:fN}{P:Program}{w:World}{K:PySem.W.Frag}{mg:Str->Option Value}{base:Heap}{N ps:List Str}{qual:Str}{scope:Scope}{f:Addr}{cd:Value}{A:Around}{outer:List Env}{s s1:Shared}{H:Hp}{E:XK}{us:List Value}{vs:List V}
  (S:ao N ps scope) (hd:A.handled=none) (e0:lV P w K mg base A outer s H) (hl:vs.length=ps.length) (r:ax vs us)
  (x:InCallC s s.heap.objs.size (bindL (envOfC qual scope s.heap.objs.size f cd).kindOf (ps.zip us) λ_=>none) (cellsFrom (s.heap.objs.size+1) scope.names []) (bindC (envOfC qual scope s.heap.objs.size f cd).kindOf (ps.zip us) λ_=>none) s1) :
  Inv (eN CX P w K mg base N qual scope f cd A outer s H E) [] (start N vs) H s1:=by
 have jN:ps.length<=N.length:=by have:=BZ List.length S.pre;rw [Bd] at this;omega
 obtain⟨h1,tk,rfl,hk⟩:=x.done;have ub:∀ b:Addr,b∉(eN CX P w K mg base N qual scope f cd A outer s H E).ex:=λb z=>absurd (show b∈([]:List Addr) from z) (by simp);refine⟨⟨e0.mod,S.kind,rfl,rfl,Am _,λy z c h1 h2=>?_,λy hy=>?_,λy c _ h=>?_,λ_=>hd,Around.frames_deeper e0.frames,.inr ⟨rfl,rfl⟩,λb z=>absurd z<|ub b,e0.bs,e0.js,λb _ _=>ub b,λb z=>absurd z<|ub b,e0.cr,e0.k6⟩,
  rfl,e0.bare,Un.kept hk,⟨_,x.toInCall.ns,λi y v h1 h2 h3=>?_⟩,λy c h=>⟨_,x.cell y c h⟩,e0.aB.fresh<|Am _,λy c h=>?_,λp hp=>absurd (show p∈([]:List<|Addr×Obj) from hp) (by simp),e0.aB.kept hk,?_⟩
 ·exact name_of_addr x.apart (CT h1)<|CT h2
 ·have hy:scope.names.lookup y=some .cell\/scope.names.lookup y=some .free:=hy
  rcases hy with hy | hy
  ·exact MH hy
  ·exact absurd rfl (S.pD _<|CT hy)
 ·exact Bw<|x.above y c<|CT h
 ·have hi:i < vs.length:=by
   unfold start at h2
   by_cases hi:i < vs.length
   ·exact hi
   ·rw [Ay<|by simpa using hi] at h2;rw [Eh] at h2
    split at h2 <;> cases h2
  have ha:vs[i]?=some v:=by
   unfold start at h2;rw [Ao (by simpa using hi),Af] at h2;cases e:vs[i]? with
   | none=>rw [e] at h2;cases h2
   | some a=>rw [e] at h2;cases h2;rfl
  obtain⟨u,hu,rv⟩:=r.get ha;have hp:ps[i]?=some y:=by
   rw [<- S.pre,Ds<|by omega];exact h1
  have MI:ps.Nodup:=by rw [<- S.pre];exact S.nd.sublist<|List.take_sublist _ _
  refine⟨u,rv,?_⟩
  rcases S.par y (At hp) with k | k
  ·exact .inl ⟨k,ME MI hp hu k⟩
  ·obtain⟨c,e⟩:=MH (n:=s.heap.objs.size+1) k;refine .inr ⟨.inl k,c,e,?_⟩;have q:=x.cell y c e;rw [MG MI hp hu<|by show scope.names.lookup y≠_;rw [k];decide] at q;exact q
 ·exact e0.aB.fresh<|Bw<|x.above y c<|CT h
 ·unfold start;show _=N.length;rw [Ad,Aa,Ep];omega
theorem ML{CX:fN}{P:Program}{w:World}{K:PySem.W.Frag}{mg:Str->Option Value}{base:Heap}{k:Nat}{f:Addr}{name qual:Str}{params:Arguments}{body:List Stmt}{scope:Scope}{dV kV doc pm bE ct oc:Value}{an od:Option Addr}
  {jO:Array (Option Value)} {N ps:List Str} {sp:Sp} (lk:K.lookup f=some ⟨oc,od,.func<|PySem.W.fnOf name qual params body scope dV kV doc pm an bE ct,jO⟩) (iw:PySem.W.codeIn K bE qual=true) (S:ao N ps scope)
  (len:∀ vs H Q E,sp vs H Q E->vs.length=ps.length)
  (cQ : ∀ (A : Around) (outer : List Env) (s : Shared) (H : Hp) (vs : List V) (Q : VK) (E : XK), bo k (A.deeper<|envOfC qual scope s.heap.objs.size f bE) → sp vs H Q E →
   ∃ t,iX (eN CX P w K mg base N qual scope f bE A outer s H E) body t/\t {nx:=λ_ H'=>Q .non H',rt:=Q} (start N vs) H) :
  aC P w K mg base CX (k+1) f (PySem.W.fnOf name qual params body scope dV kV doc pm an bE ct) ps sp:=by
 refine⟨len,λA outer s H args us vs Q E hr e0 hb r dM=>?_⟩;have hl:=len _ _ _ _ dM;have KX:K.In s.heap:=e0.mod.pc.keeps λb o e=>(e0.bs b o e).1;have lim:s.heap.NoLimit:=e0.mod.nolimit.keeps λb o e=>(e0.bs b o e).1;have uc:∀ y∈ps.zip us,scope.names.lookup y.1=some .local\/(scope.names.lookup y.1=some .cell/\((cellsFrom (s.heap.objs.size+1) scope.names []).lookup y.1).isSome=true):=λ⟨n,v⟩ hy=>by
  rcases S.par n (RQ hy).1 with q | q
  ·exact .inl q
  ·exact .inr ⟨q,JC _ _ _<|.inl q⟩
 refine codeAny_call_function hr.depth (KX _ _ lk) rfl S.co S.gen rfl (PySem.W.codeRec_of KX iw) (hb _ _ _ _ ?_);refine wpAny_newFunctionEnv_cells S.kind uc λenv he s1 x=>?_;subst he;refine⟨lim.keeps x.toInCall.keep,codeAny_func ?_⟩;obtain⟨t,ht,hq⟩:=cQ A outer s H vs Q E (hr.deeper _) dM;have I:Inv (eN CX P w K mg base N qual scope f bE A outer s H E) [] (start N vs) H s1:=Wh S hr.hd e0 hl r x;refine CK (ht [] s1 (start N vs) H _ I hq) (λfl s' hs=>?_) λe s' hs=>hs;have fin:∀{σ':St} {H':Hp} {v:V} {u:Value},Inv (eN CX P w K mg base N qual scope f bE A outer s H E) [] σ' H' s'->RelV v u->Q v H'->CE outer P w H s Q u s':=
  λ{σ' H' v u} J rv q=>⟨v,H',J.os,J.bare,J.base,J.aB,rv,q⟩
 cases fl with
 | ret u=>
  obtain⟨v,σ',H',J,rv,q⟩:=hs;exact fin J rv q
 | next=>
  obtain⟨σ',H',J,q⟩:=hs;exact fin (v:=V.non) (u:=Value.none) J rfl q
 | brk=>
  obtain⟨_,_,_,q⟩:=hs;exact False.elim q
 | cont=>
  obtain⟨_,_,_,q⟩:=hs;exact False.elim q
section
variable{X:Cx}{x:Str}{p pos:Pos}{e:Expr}{es:List Expr}{t:TA}{id T:String}{r:List V->Hp->VK->Prop}
def x4(r:List V->Hp->VK->Prop)(t:TA):TE:=λσ H Q=>t σ H λvs H1=>r vs H1 Q
def Wi(hc:fv X (.builtin id) r)(hg:Gl X x)(hm:X.mg x=none)(hv:bootBuiltins x=some (.builtin id))(ha:PA X (e :: es) t)(hn:x ≠ "__name__":=by decide)(cP:(x == ("__debug__" : Str))=false:=by decide)
  (he:starEach (e :: es) X.env=(false,eval e X.env) :: starEach es X.env:=by rfl) (jN:(backTo pos<|starEach es X.env).any (·.1)=false:=by rfl):PE X (.Call (.Name x p) (e :: es) [] pos) (x4 r t):=by
 intro pins s σ H Q I h;refine IV<|nI I hg hm hv ?_ hn cP;exact PyProof.Rows.callWith_builtin1 (aF (ha pos pins s σ H _ I h) λus s1 ⟨vs,H1,I1,r1,q1⟩=>hc pins s1 σ H1 vs us Q I1 r1 q1) he jN
def Wj(hc:fv X (.type T) r)(hg:Gl X x)(hm:X.mg x=none)(hv:bootBuiltins x=some (.type T))(ha:PA X (e :: es) t)(hn:x ≠ "__name__":=by decide)(cP:(x == ("__debug__" : Str))=false:=by decide)
  (he:starEach (e :: es) X.env=(false,eval e X.env) :: starEach es X.env:=by rfl) (jN:(backTo pos<|starEach es X.env).any (·.1)=false:=by rfl):PE X (.Call (.Name x p) (e :: es) [] pos) (x4 r t):=by
 intro pins s σ H Q I h;refine IV<|nI I hg hm hv ?_ hn cP;exact GZ (aF (ha pos pins s σ H _ I h) λus s1 ⟨vs,H1,I1,r1,q1⟩=>hc pins s1 σ H1 vs us Q I1 r1 q1) he jN
end
end L2
namespace HT
open PySem PyProof.Rows
section
open PySem.SeqAt
open PySem.AutoSeq1 (wpAny_loadPart')
open PySem.MeetsSeq PySem.MeetsSeq2 PySem.MeetsSeq3
end
section
variable{prog:Program}{w:World}{A:Around}{E:Value->Shared->Prop}{s:Shared}
def fY(n d:Nat):Option Int->Nat
 | none=>d
 | some v=>if v < 0 then(v+(n:Int)).toNat else min v.toNat n
def fZ(n d:Nat):fY n d none=d:=rfl
def iA(n d k:Nat):fY n d (some (k:Int))=min k n:=by
 show(if(k:Int) < 0 then((k:Int)+(n:Int)).toNat else min (k:Int).toNat n)=min k n;rw [BK (by omega),Bf]
end
end HT
namespace L2
open PySem PySem.Spec PyProof.Rows
abbrev TO:=St->Hp->(Option Int->Hp->Prop)->Prop
def PO(X:Cx)(e:Option Expr)(t:TO):Prop:=
 ∀(pins:List<|Addr×Obj) (s:Shared) (σ:St) (H:Hp) (Q:Option Int->Hp->Prop),Inv X pins σ H s->t σ H Q ->
  wpAny (model X.prog X.w) X.A (evalPart e X.env) (λu s'=>∃ o H',Inv X pins σ H' s'/\IsPart u o/\Q o H') X.xe s
def Wk:TO:=λ_ H Q=>Q none H
def Wl(t:TE):TO:=λσ H Q=>t σ H λx H1=>∃ i,x = .int i/\Q (some i) H1
section
variable{X:Cx}{e:Expr}{te:TE}{lo hi:Option Expr}{tl th:TO}{pos p2:Pos}
def Wm:PO X none Wk:=by
 intro pins s σ H Q I h;rw [evalPart_none];exact BP ⟨none,H,I,.none,h⟩
def Wn(h:PE X e te):PO X (some e) (Wl te):=by
 intro pins s σ H Q I hw;rw [evalPart_some];refine aF (h pins s σ H _ I hw) λu s1 ⟨x,H1,I1,r1,q1⟩=>?_;obtain⟨i,rfl,q⟩:=q1;obtain⟨t,rfl⟩:=r1;exact⟨some i,H1,I1,.int i t,q⟩
def BV(X:Cx)(r:V->Option Int->Option Int->Hp->VK->Prop):Prop:=
 ∀(pins:List<|Addr×Obj) (s:Shared) (σ:St) (H:Hp) (x:V) (v vl vu:Value) (lo hi:Option Int) (sl:Addr) (Q:VK),Inv X pins σ H s->RelV x v->s.heap.IsSliceOf sl vl vu .none->IsPart vl lo->IsPart vu hi->r x lo hi H Q ->
  ∃ T id,typeLookup (.type T) "__getitem__" = pure (some<|.builtin id)/\s.TypeIs v T/\wpAny (model X.prog X.w) X.A (getItem v<|.ref sl) (EP X pins σ Q) X.xe s
def Wo(r:V->Option Int->Option Int->Hp->VK->Prop)(te:TE)(tl th:TO):TE:=λσ H Q=>te σ H λx H1=>tl σ H1 λl H2=>th σ H2 λu H3=>r x l u H3 Q
def Wp{r:V->Option Int->Option Int->Hp->VK->Prop}(hr:BV X r)(he:PE X e te)(hl:PO X lo tl)(hu:PO X hi th):PE X (.Subscript e (.Slice lo hi none p2) pos) (Wo r te tl th):=by
 intro pins s σ H Q I h;refine Subscript_<|aF (he pins s σ H _ I h) λv s1 ⟨x,H1,I1,r1,q1⟩=>?_;refine wpAny_Slice<|aF (hl pins s1 σ H1 _ I1 q1) λvl s2 ⟨l,H2,I2,pl,q2⟩=>aF (hu pins s2 σ H2 _ I2 q2) λvu s3 ⟨u,H3,I3,pu,q3⟩=>?_;rw [evalPart_none];refine BP ?_;have I4:Inv X pins σ H3 {s3 with heap:=s3.heap.push {cls:= .type "slice",data:= .fields #[vl,vu,.none]}}:=I3.kept (t':=s3.toks) λb ob q=>Ae _ q;obtain⟨T,id,hT,ht,hg⟩:=hr pins {s3 with heap:=s3.heap.push {cls:= .type "slice",data:= .fields #[vl,vu,.none]}} σ H3 x v vl vu l u s3.heap.objs.size Q I4 r1 (Heap.IsSliceOf.new ..) pl pu q3;show wpAny (model X.prog X.w) X.A (subscriptTail e (.Slice lo hi none p2) v<|.ref s3.heap.objs.size) (EP X pins σ Q) X.xe {s3 with heap:=s3.heap.push {cls:= .type "slice",data:= .fields #[vl,vu,.none]}};exact tail_any (ops:=[.ref s3.heap.objs.size,v]) ht hT hg<|by with_unfolding_all rfl
def f7(xs:List V)(lo hi:Option Int):List V:=(xs.drop<|HT.fY xs.length 0 lo).take<|HT.fY xs.length xs.length hi - HT.fY xs.length 0 lo
def Wq(xs:List V)(lo hi:Option Int):(f7 xs lo hi).length<=xs.length:=by
 unfold f7;rw [Bd,Db];omega
end
def nK(n:Nat)(i:Int):Option Nat:=if 0<=i then(if i < n then some i.toNat else none) else if -(n:Int)<=i then some (i+n).toNat else none
def eY{α:Type}(xs:List α)(i:Int):Option α:=(nK xs.length i).bind λj=>xs[j]?
def Wr{n:Nat}{i:Int}{j:Nat}(h:nK n i=some j):seqIndex? i n=some j/\j < n/\-(n:Int)<=i/\i < n:=by
 unfold nK at h
 by_cases h0:0<=i
 ·rw [BL h0] at h
  by_cases h1:i < n
  ·rw [BL h1] at h;have e:i.toNat=j:=Option.some.inj h;exact⟨by rw [seqIndex_of h0 h1,e],by omega,by omega,h1⟩
  ·rw [BK h1] at h;cases h
 ·rw [BK h0] at h
  by_cases h1:-(n:Int)<=i
  ·rw [BL h1] at h;have e:(i+n).toNat=j:=Option.some.inj h;exact⟨by rw [seqIndex_neg (by omega) h1,e],by omega,h1,by omega⟩
  ·rw [BK h1] at h;cases h
theorem B0{α:Type}{xs:List α}{i:Int}{v:α}(h:eY xs i=some v):∃ j,seqIndex? i xs.length=some j/\xs[j]?=some v/\j < xs.length/\-(xs.length:Int)<=i/\i < xs.length:=by
 unfold eY at h;cases e:nK xs.length i with
 | none=>rw [e] at h;cases h
 | some j=>
  rw [e] at h;obtain⟨h1,h2,h3,h4⟩:=Wr e;exact⟨j,h1,h,h2,h3,h4⟩
def nM{α:Type}{xs:List α}{j:Nat}{v:α}(h:xs[j]?=some v):eY xs (j:Int)=some v:=by
 have hj:j < xs.length:=(Ac.mp h).1;have e:nK xs.length (j:Int)=some j:=by
  unfold nK;rw [BL (by omega),BL<|by omega];simp
 unfold eY;rw [e];exact h
def Ws{α:Type}(xs:List α)(v:α):eY (xs++[v]) (-1)=some v:=by
 have hl:(xs++[v]).length=xs.length+1:=by simp
 have e:nK (xs++[v]).length (-1)=some xs.length:=by
  unfold nK;rw [hl,BK (by decide),BL<|by omega]
  congr 1
  omega
 unfold eY;rw [e];show(xs++[v])[xs.length]?=some v;simp
def MM(b:Expr):Prop:=∀ o i,subscripted b false o i=operate [o,i] (getItem o i)
def ud(X:Cx)(r:R2):Prop:=
 ∀(value slice:Expr) (pins:List<|Addr×Obj) (s:Shared) (σ:St) (H:Hp) (x y:V) (v u:Value) (Q:VK),Inv X pins σ H s->RelV x v->RelV y u->r x y H Q ->
  subscripted slice false v u=operate [v,u] (getItem v u)->wpAny (model X.prog X.w) X.A (subscriptTail value slice v u) (EP X pins σ Q) X.xe s
def uf(X:Cx)(id:String)(r:V->List V->Hp->VK->Prop):Prop:=
 ∀(pins:List<|Addr×Obj) (s:Shared) (σ:St) (H:Hp) (x:V) (xs:List V) (v:Value) (us:List Value) (Q:VK),Inv X pins σ H s->RelV x v->ax xs us->r x xs H Q ->
  wpAny (model X.prog X.w) X.A (call (.builtin id)<|v :: us) (EP X pins σ Q) X.xe s
section
variable{X:Cx}{a b:Expr}{ta tb:TE}{pos:Pos}
def Wt{r:R2}(hr:ud X r)(ha:PE X a ta)(hb:PE X b tb)(hs:MM b):PE X (.Subscript a b pos) (xX r ta tb):=by
 intro pins s σ H Q I h;exact Subscript_<|pv ha hb I h λv u s2 x y H2 I2 rx ry q=>hr a b pins s2 σ H2 x y v u Q I2 rx ry q<|hs _ _
def B1(K:PySem.W.Frag):R2:=λx y H Q=>∃ p xs i v,x = .ref p/\y = .int i/\ai K H p xs/\eY xs i=some v/\Q v H
def B2(K:PySem.W.Frag):R2:=λx y H Q=>∃ p xs i v,x = .ref p/\y = .int i/\aM K H p xs/\eY xs i=some v/\Q v H
def B3:R2:=λx y H Q=>∃ z i c,x = .str z/\y = .int i/\z.length<=sizeLine/\eY z.cps.toList i=some c/\Q (.str ⟨#[c]⟩) H
def cv:ud X (B1 X.K):=by
 intro value slice pins s σ H x y v u Q I rx ry h hs;obtain⟨p,xs,i,z,rfl,rfl,hq,he,q⟩:=h;cases rx;obtain⟨t,rfl⟩:=ry;obtain⟨its,r,pl,hz⟩:=I.list hq;obtain⟨j,h1,h2,h3,h4,h5⟩:=B0 he;obtain⟨w,ew,dJ⟩:=r.get h2;have hl:=r.length;have hn:=t8;have fin:EP X pins σ Q w s:=⟨z,H,I,dJ,q⟩
 by_cases h0:0<=i
 ·have hj:i.toNat=j:=by
   rw [seqIndex_of h0 h5] at h1;exact Option.some.inj h1
  exact item_listR pl.isList h0 (by omega) (by rw [hj];simpa using ew) fin hs
 ·have hj:(i+(its.toArray.size:Int)).toNat=j:=by
   rw [seqIndex_neg (by omega) h4] at h1;rw [Aw,<- hl];exact Option.some.inj h1
  exact subscriptTail_builtinR (x:=w) pl.isList.typeIs slot_list_getitem.lookup
   (wpAny_getItem_list_neg (Q:=λr s'=>r=w/\EP X pins σ Q r s') pl.isList (by omega) (by rw [Aw] <;> omega) (by omega) (by rw [hj];simpa using ew) ⟨rfl,fin⟩) hs
def ce:ud X (B2 X.K):=by
 intro value slice pins s σ H x y v u Q I rx ry h hs;obtain⟨p,xs,i,z,rfl,rfl,hq,he,q⟩:=h;cases rx;obtain⟨t,rfl⟩:=ry;obtain⟨its,r,pl,hz⟩:=I.tuple hq;obtain⟨j,h1,h2,h3,h4,h5⟩:=B0 he;obtain⟨w,ew,dJ⟩:=r.get h2;have hl:=r.length;have hn:=t8;have fin:EP X pins σ Q w s:=⟨z,H,I,dJ,q⟩;exact subscriptTail_builtinR (x:=w) pl.typeIs slot_tuple_getitem.lookup
  (getItem_tuple (j:=j) (Q:=λr s'=>r=w/\EP X pins σ Q r s') pl (by omega) (by omega) (by rw [Aw,<- hl];exact h1) (by simpa using ew) ⟨rfl,fin⟩) hs
def MO:ud X B3:=by
 intro value slice pins s σ H x y v u Q I rx ry h hs;obtain⟨z,i,c,rfl,rfl,hz,he,q⟩:=h;obtain⟨t,rfl⟩:=rx;obtain⟨t',rfl⟩:=ry;obtain⟨j,h1,h2,h3,h4,h5⟩:=B0 he;have hl:z.cps.toList.length=z.length:=by simp [Str.length]
 rw [hl] at h1 h4 h5;have hn:=t8;exact tail_any (typeIs_str s z t) slot_str_getitem.lookup (getItem_str (c:=c) (by
  have e1:decide (i < -(2 ^ 63:Int))=false:=BR (by omega);have e2:decide (i>=2 ^ 63)=false:=BR (by omega);rw [e1,e2,Bool.or_false]) (by rw [h1];simpa using h2) ⟨.str ⟨#[c]⟩,H,I.tok _,⟨_,rfl⟩,q⟩) hs
def Wu(lo hi:Option Int)(n:Nat):(sliceBounds lo hi none n).1=((HT.fY n 0 lo:Nat):Int)/\(sliceBounds lo hi none n).2.1=((HT.fY n n hi:Nat):Int)/\(sliceBounds lo hi none n).2.2=1:=by
 refine⟨?_,?_,rfl⟩
 ·cases lo with
  | none=>simp [sliceBounds,HT.fY]
  | some i=>
   simp only [sliceBounds,HT.fY,Option.getD_none,show(1:Int) > 0 by decide,DN]
   by_cases h:i < 0
   ·simp only [h,DN] <;> omega
   ·simp only [h,DQ] <;> omega
 ·cases hi with
  | none=>simp [sliceBounds,HT.fY]
  | some i=>
   simp only [sliceBounds,HT.fY,Option.getD_none,show(1:Int) > 0 by decide,DN]
   by_cases h:i < 0
   ·simp only [h,DN] <;> omega
   ·simp only [h,DQ] <;> omega
def Wv(its:List Value)(lo hi:Option Int):slicePick its.toArray lo hi none=((its.drop<|HT.fY its.length 0 lo).take<|HT.fY its.length its.length hi - HT.fY its.length 0 lo).toArray:=by
 obtain⟨h1,h2,h3⟩:=Wu lo hi its.toArray.size;unfold slicePick;rw [h1,h2,h3];simp only [sliceRange_one,pick_run,Aw] <;> rfl
def B4(K:PySem.W.Frag):V->Option Int->Option Int->Hp->VK->Prop:=λx lo hi H Q=>∃ a xs,x = .ref a/\ai K H a xs/\∀ p,H p=none->Q (.ref p) (upd H p<|.lst<|f7 xs lo hi)
def MQ:BV X (B4 X.K):=by
 intro pins s σ H x v vl vu lo hi sl Q I rx hs pl pu h;obtain⟨a,xs,rfl,hx,q⟩:=h;cases rx;obtain⟨its,r,ht,hz⟩:=I.list hx;have hlen:=r.length;refine⟨"list",_,slot_list_getitem.lookup,ht.isList.typeIs,?_⟩;refine wpAny_getItem_list_slice ht.isList hs pl pu .none (by simp) ?_ (by rw [Aw] <;> omega);rw [Wv,<- hlen];refine⟨.ref s.heap.objs.size,_,I.laid (t':=s.toks) (o:= .lst<|f7 xs lo hi) (λb ob q=>Ae _ q) (Am _) ?_,rfl,q _<|I.aB.fresh<|Am _⟩;exact⟨Bv (Wq xs lo hi) hz,_,0,(r.drop<|HT.fY xs.length 0 lo).take<|HT.fY xs.length xs.length hi - HT.fY xs.length 0 lo,Aq _ rfl⟩
def jP:V->Bool
 | .non=>true
 | .bl _=>true
 | .int _=>true
 | .str _=>true
 | _=>false
def cE:V->V->Bool
 | .non,.non=>true
 | .bl a,.bl b=>a == b
 | .bl a,.int b=>(if a then 1 else 0) == b
 | .int a,.bl b=>a == (if b then 1 else 0)
 | .int a,.int b=>a == b
 | .str a,.str b=>a == b
 | _,_=>false
theorem MR{A:Around}{s:Shared}{y x:V}{u v:Value}(ry:RelV y u)(rx:RelV x v)(fy:jP y=true)(fx:jP x=true):SeqAt.EqAt A s u v (cE y x):=by
 cases y with
 | non=>
  cases ry;cases x with
  | non=>cases rx;exact SeqAt.EqAt.same _
  | bl b=>cases rx;exact SeqAt.EqAt.none_bool b
  | int b=>obtain⟨t,rfl⟩:=rx;exact SeqAt.EqAt.none_int b t
  | str b=>obtain⟨t,rfl⟩:=rx;exact SeqAt.EqAt.none_str b t
  | _=>exact absurd (show false=true from fx) Av
 | bl a=>
  cases ry;cases x with
  | non=>cases rx;exact SeqAt.EqAt.bool_none a
  | bl b=>cases rx;exact SeqAt.EqAt.bool_bool a b
  | int b=>obtain⟨t,rfl⟩:=rx;exact SeqAt.EqAt.bool_int a b t
  | str b=>obtain⟨t,rfl⟩:=rx;exact SeqAt.EqAt.bool_str a b t
  | _=>exact absurd (show false=true from fx) Av
 | int a=>
  obtain⟨t',rfl⟩:=ry;cases x with
  | non=>cases rx;exact SeqAt.EqAt.int_none a t'
  | bl b=>cases rx;exact SeqAt.EqAt.int_bool a t' b
  | int b=>obtain⟨t,rfl⟩:=rx;exact SeqAt.EqAt.int_int a t' b t
  | str b=>obtain⟨t,rfl⟩:=rx;exact SeqAt.EqAt.int_str a t' b t
  | _=>exact absurd (show false=true from fx) Av
 | str a=>
  obtain⟨t',rfl⟩:=ry;cases x with
  | non=>cases rx;exact SeqAt.EqAt.str_none a t'
  | bl b=>cases rx;exact SeqAt.EqAt.str_bool a t' b
  | int b=>obtain⟨t,rfl⟩:=rx;exact SeqAt.EqAt.str_int a t' b t
  | str b=>obtain⟨t,rfl⟩:=rx;exact SeqAt.EqAt.str_str a t' b t
  | _=>exact absurd (show false=true from fx) Av
 | _=>exact absurd (show false=true from fy) Av
def gX(x:V)(u:Value):Bool:=match u with
 | .none=>cE .non x
 | .bool b=>cE (.bl b) x
 | .int i _=>cE (.int i) x
 | .str z _=>cE (.str z) x
 | _=>false
theorem MS{x y:V}{u:Value}(r:RelV y u)(f:jP y=true):gX x u=cE y x:=by
 cases y with
 | non=>cases r;rfl
 | bl b=>cases r;rfl
 | int i=>obtain⟨t,rfl⟩:=r;rfl
 | str z=>obtain⟨t,rfl⟩:=r;rfl
 | _=>exact absurd (show false=true from f) Av
theorem ug{x:V}:∀{xs:List V} {us:List Value},ax xs us->xs.all jP=true->us.any (gX x)=xs.any λy=>cE y x
 | _,_,.nil,_=>rfl
 | y :: xs,u :: us,.cons r t,f=>by
  rw [Gf,Bq] at f;rw [Fi,Fi,MS r f.1,ug t f.2]
theorem uh{A:Around}{s:Shared}{x:V}{v:Value}(rx:RelV x v)(fx:jP x=true):∀{xs:List V} {us:List Value},ax xs us->xs.all jP=true->∀ u∈us,SeqAt.EqAt A s u v<|gX x u
 | _,_,.nil,_=>λu hu=>by cases hu
 | y :: xs,u :: us,.cons r t,f=>λu' hu=>by
  rw [Gf,Bq] at f
  rcases Al.mp hu with rfl | hu
  ·rw [MS r f.1];exact MR r rx f.1 fx
  ·exact uh rx fx t f.2 u' hu
def nN(x:V)(xs:List V):Bool:=xs.any λy=>cE y x
def MT(K:PySem.W.Frag)(neg:Bool):R2:=λx y H Q=>∃ p xs,y = .ref p/\(ai K H p xs\/aM K H p xs)/\jP x=true/\xs.all jP=true/\Q (.bl (if neg then !nN x xs else nN x xs)) H
def lX:cC X (compareOp .In) (MT X.K false):=by
 intro pins s σ H x y v u Q I rx ry h;obtain⟨p,xs,rfl,hq,fx,fs,q⟩:=h;cases ry
 rcases hq with hq | hq
 ·obtain⟨its,r,pl,hz⟩:=I.list hq;refine SeqAt.in_listAt (gX x) pl.isList (λw hw=>uh rx fx r fs w<|by simpa using hw) ⟨.bl _,H,I,rfl,?_⟩;rw [show its.toArray.any (gX x)=its.any (gX x) by simp,ug r fs];exact q
 ·obtain⟨its,r,pl,hz⟩:=I.tuple hq;refine SeqAt.in_tupleAt (gX x) pl (λw hw=>uh rx fx r fs w<|by simpa using hw) ⟨.bl _,H,I,rfl,?_⟩;rw [show its.toArray.any (gX x)=its.any (gX x) by simp,ug r fs];exact q
def MU:cC X (compareOp .NotIn) (MT X.K true):=by
 intro pins s σ H x y v u Q I rx ry h;obtain⟨p,xs,rfl,hq,fx,fs,q⟩:=h;cases ry
 rcases hq with hq | hq
 ·obtain⟨its,r,pl,hz⟩:=I.list hq;refine SeqAt.notIn_listAt (gX x) pl.isList (λw hw=>uh rx fx r fs w<|by simpa using hw) ⟨.bl _,H,I,rfl,?_⟩;rw [show its.toArray.any (gX x)=its.any (gX x) by simp,ug r fs];exact q
 ·obtain⟨its,r,pl,hz⟩:=I.tuple hq;refine SeqAt.notIn_tupleAt (gX x) pl (λw hw=>uh rx fx r fs w<|by simpa using hw) ⟨.bl _,H,I,rfl,?_⟩;rw [show its.toArray.any (gX x)=its.any (gX x) by simp,ug r fs];exact q
def eB:fv X (.builtin "len") (λxs H Q=>∃ p ys,xs=[.ref p]/\(ai X.K H p ys\/aM X.K H p ys)/\Q (.int ys.length) H):=by
 intro pins s σ H xs us Q I r h;obtain⟨p,ys,rfl,hq,q⟩:=h;obtain⟨u,rfl,rx⟩:=vals1 r;cases rx;have hn:=t8
 rcases hq with hq | hq
 ·obtain⟨its,r',pl,hz⟩:=I.list hq;have hlen:=r'.length;exact Calls.call_len_list pl.isList (by simp only [Aw] <;> omega) ⟨.int ys.length,H,I.tok _,⟨s.toks+1,by rw [Aw,hlen]⟩,q⟩
 ·obtain⟨its,r',pl,hz⟩:=I.tuple hq;have hlen:=r'.length;exact len_tuple pl (by simp only [Aw] <;> omega) ⟨.int ys.length,H,I.tok _,⟨s.toks+1,by rw [Aw,hlen]⟩,q⟩
def MV:fv X (.type "list") (λxs H Q=>∃ p ys,xs=[.ref p]/\(ai X.K H p ys\/aM X.K H p ys)/\∀ l,H l=none->Q (.ref l) (upd H l<|.lst ys)):=by
 intro pins s σ H xs us Q I r h;obtain⟨p,ys,rfl,hq,q⟩:=h;obtain⟨u,rfl,rx⟩:=vals1 r;cases rx;have fin:∀(its:List Value),ax ys its->ys.length<=sizeLine->∀(h':Heap) (c':Nat),(∀ b o',s.heap.get? b=some o'->h'.get? b=some o') ->
   h'.get? s.heap.objs.size=some {cls:= .type "list",dict:=none,data:= .seq its.toArray c',slots:=#[]}->EP X pins σ Q (.ref s.heap.objs.size) {s with heap:=h'}:=λits r' hz h' c' kp e=>
  ⟨.ref s.heap.objs.size,_,I.laid (t':=s.toks) kp (Am _) (show az X.prog X.w _ h' _ (.lst ys) from⟨hz,its,c',r',e⟩),rfl,q _<|I.aB.fresh<|Am _⟩
 rcases hq with hq | hq
 ·obtain⟨its,r',pl,hz⟩:=I.list hq;have hlen:=r'.length;obtain⟨o,ho,hc,n,hd⟩:=pl.isList;exact call_list_seq p (.inl rfl) ho hc hd (λh' c' kp e=>fin its r' hz h' c' kp e)<|by simp only [Aw] <;> omega
 ·obtain⟨its,r',pl,hz⟩:=I.tuple hq;have hlen:=r'.length;obtain⟨o,ho,hc,n,hd⟩:=pl;exact call_list_seq p (.inr rfl) ho hc hd (λh' c' kp e=>fin its r' hz h' c' kp e)<|by simp only [Aw] <;> omega
def lY(K:PySem.W.Frag)(T:String)(x:V)(H:Hp):Prop:=match x with
 | .str _=>T = "str"
 | .int _=>T = "int"
 | .ref p=>(T = "list"/\∃ xs,ai K H p xs)\/(T = "tuple"/\∃ o,K.lookup p=some o/\o.cls = .type "tuple"/\o.dict=none) \/
   (T = "dict"/\((∃ kvs,H p=some (.dK kvs))\/∃ kvs,H p=some (.dT kvs)))\/(T = "set"/\∃ S n,H p=some (.set S n))
 | _=>False
theorem MX{pins:List (Addr×Obj)}{σ:St}{H:Hp}{s:Shared}{T:String}{x:V}{v:Value}(I:Inv X pins σ H s)(r:RelV x v)(ty:lY X.K T x H) :
  s.TypeIs v T/\∀ a,v = .ref a->∃ ob,s.heap.get? a=some ob/\ob.dict=none:=by
 cases x with
 | str z=>
  obtain⟨t,rfl⟩:=r;cases (show T = "str" from ty);exact⟨typeIs_str s z t,λ_ e=>nomatch e⟩
 | int i=>
  obtain⟨t,rfl⟩:=r;cases (show T = "int" from ty);exact⟨typeIs_int s i t,λ_ e=>nomatch e⟩
 | ref p=>
  cases r
  rcases ty with ⟨rfl,xs,hq⟩ | ⟨rfl,o,hk,hc,hd⟩ | ⟨rfl,hk⟩ | ⟨rfl,S,n,hk⟩
  ·obtain⟨its,_,pl,_⟩:=I.list hq;refine⟨pl.isList.typeIs,λa e=>?_⟩;cases e;obtain⟨o,n,e,c,hd,_⟩:=pl;exact⟨o,e,hd⟩
  ·refine⟨⟨o,I.d9 p o hk,hc⟩,λa e=>?_⟩;cases e;exact⟨o,I.d9 _ o hk,hd⟩
  ·have z:∃ o,s.heap.get? p=some o/\o.ExactDict:=by
    rcases hk with ⟨kvs,hk⟩ | ⟨kvs,hk⟩
    ·obtain⟨_,_,_,_,o,_,_,e,ex,_⟩:=I.aB p _ hk;exact⟨o,e,ex⟩
    ·obtain⟨_,_,_,_,o,_,_,e,ex,_⟩:=I.aB p _ hk;exact⟨o,e,ex⟩
   obtain⟨o,e,ex⟩:=z;refine⟨⟨o,e,ex.1⟩,λa e2=>?_⟩;cases e2;exact⟨o,e,ex.2.1⟩
  ·obtain⟨o,_,_,_,e,ex,_⟩:=I.aB p _ hk;refine⟨⟨o,e,ex.1⟩,λa e2=>?_⟩;cases e2;exact⟨o,e,ex.2.1⟩
 | _=>exact False.elim ty
def B5(K:PySem.W.Frag)(T:String)(r:V->List V->Hp->VK->Prop)(to:TE):TE:=λσ H Q=>to σ H λx H1=>lY K T x H1/\r x [] H1 Q
def Ww(K:PySem.W.Frag)(T:String)(r:V->List V->Hp->VK->Prop)(to:TE)(t:TA):TE:=λσ H Q=>to σ H λx H1=>lY K T x H1/\t σ H1 λxs H2=>r x xs H2 Q
variable{o e:Expr}{es:List Expr}{to:TE}{t:TA}{name:Str}{apos dR:Pos}{T id:String}{r:V->List V->Hp->VK->Prop}
def Wx(pa:PlainAttrs T)(slot:Slot T name id)(l3:typeOf (.builtin id)=pure (.type "method_descriptor"))(hm:uf X id r)(ho:PE X o to)
  (bJ:attributeBase o name X.env (eval o X.env)=eval o X.env:=by rfl) (hline:(apos.endLine == dR.line)=true:=by rfl):PE X (.Call (.Attribute o name apos) [] [] dR) (B5 X.K T r to):=by
 intro pins s σ H Q I h;refine wpAny_Call_method0_late bJ hline<|aF (ho pins s σ H _ I h) λv s1 ⟨x,H1,I1,r1,ty,q1⟩=>?_;obtain⟨h1,h2⟩:=MX I1 r1 ty;exact⟨T,id,pa,slot,l3,h1,h2,JD rfl (PySem.evalArgs_none<|hm pins s1 σ H1 x [] v [] Q I1 r1 .nil q1)⟩
def B6(pa:PlainAttrs T)(slot:Slot T name id)(l3:typeOf (.builtin id)=pure (.type "method_descriptor"))(hm:uf X id r)(ho:PE X o to)(ha:PA X (e :: es) t)
  (bJ:attributeBase o name X.env (eval o X.env)=eval o X.env:=by rfl)
  (c6 : ((backTo dR<|starEach (e :: es) X.env).all (λx => !x.1) && (backToKw dR<|keywordEach [] X.env).all (λx => x.1.isSome)
   && decide ((e :: es).length+([]:List Keyword).length+(if([]:List Keyword).isEmpty then 0 else 1) < 30))=true:=by rfl)
  (hline:(apos.endLine == dR.line)=true:=by rfl) (hs:starEach (e :: es) X.env=(false,eval e X.env) :: starEach es X.env:=by rfl) (b4:(backTo dR<|starEach es X.env).any (·.1)=false:=by rfl) :
  PE X (.Call (.Attribute o name apos) (e :: es) [] dR) (Ww X.K T r to t):=by
 intro pins s σ H Q I h;refine wpAny_Call_method_late bJ c6 hline rfl (aF (ho pins s σ H _ I h) λv s1 ⟨x,H1,I1,r1,ty,q1⟩=>?_);obtain⟨h1,h2⟩:=MX I1 r1 ty;refine⟨T,id,pa,slot,l3,h1,h2,?_⟩;have hA:=ha dR pins s1 σ H1 _ I1 q1;rw [hs] at hA ⊢;refine JD (by show(false || (backTo dR<|starEach es X.env).any (·.1))=false;rw [b4] <;> rfl)<|MK ?_;exact aF hA λus s2 ⟨vs,H2,I2,r2,q2⟩=>hm pins s2 σ H2 x vs v us Q I2 r1 r2 q2
end
def nO(X:Cx)(id:String)(r:V->List V->Hp->VK->Prop):Prop:=
 ∀(pins:List<|Addr×Obj) (s:Shared) (σ:St) (H:Hp) (x:V) (xs:List V) (v:Value) (us:List Value) (Q:VK),Inv X pins σ H s->RelV x v->ax xs us->r x xs H Q ->
  wpAny (model X.prog X.w) X.A (call (.builtin id)<|v :: us) (EP X pins σ Q) X.xe s
theorem ax.hd{x:V}{xs:List V}{us:List Value}(h:ax (x :: xs) us):∃ u vs,us=u :: vs/\RelV x u/\ax xs vs:=by
 cases h with
 | cons r t=>exact⟨_,_,rfl,r,t⟩
def ax.nl{us:List Value}(h:ax [] us):us=[]:=by
 cases h;rfl
def ax.one{x:V}{us:List Value}(h:ax [x] us):∃ u,us=[u]/\RelV x u:=by
 obtain⟨u,vs,rfl,r,t⟩:=h.hd;rw [t.nl];exact⟨u,rfl,r⟩
def ax.two{x y:V}{us:List Value}(h:ax [x,y] us):∃ u v,us=[u,v]/\RelV x u/\RelV y v:=by
 obtain⟨u,vs,rfl,r,t⟩:=h.hd;obtain⟨v,ws,rfl,q,t⟩:=t.hd;rw [t.nl];exact⟨u,v,rfl,r,q⟩
theorem ax.zero:∀{us:List Value},ax [] us->us=[]
 | _,.nil=>rfl
theorem ax.dropLast{xs:List V}{us:List Value}(h:ax xs us):ax xs.dropLast us.dropLast:=by
 induction h with
 | nil=>exact .nil
 | cons r t ih=>
  cases t with
  | nil=>exact .nil
  | cons q t'=>exact .cons r ih
theorem ax.eraseIdx:∀{xs:List V} {us:List Value} (i:Nat),ax xs us->ax (xs.eraseIdx i) (us.eraseIdx i)
 | _,_,_,.nil=> .nil
 | _,_,0,.cons _ t=>t
 | _,_,i+1,.cons r t=> .cons r<|ax.eraseIdx i t
theorem Wy{α:Type}(l:List α):l.eraseIdx (l.length - 1)=l.dropLast:=by
 induction l with
 | nil=>rfl
 | cons a r ih=>
  cases r with
  | nil=>rfl
  | cons b r=>
   have e:(a :: b :: r).length - 1=((b :: r).length - 1)+1:=by
    have h1:(a :: b :: r).length=r.length+2:=rfl;have h2:(b :: r).length=r.length+1:=rfl;omega
   rw [e,RJ,ih]
   all_goals rfl
theorem MY{α:Type}:∀(l:List α) (i:Nat),(l.eraseIdx i).length<=l.length
 | [],_=>Am _
 | _ :: _,0=>Eb _
 | _ :: r,i+1=>Nat.succ_le_succ<|MY r i
section
variable{X:Cx}{pins:List (Addr×Obj)}{σ:St}{H:Hp}{s:Shared}{l b:Addr}{xs ys zs:List V}
def Inv.jQ{its its':List Value}{n:Nat}{f:Array Value->Array Value}{t':Nat}(I:Inv X pins σ H s)(hH:H l=some (.lst xs))
  (e:s.heap.get? l=some {cls:= .type "list",data:= .seq its.toArray n}) (hf:f its.toArray=its'.toArray) (hv:ax ys its') (hz:ys.length<=sizeLine) :
  Inv X pins σ (upd H l<|.lst ys) {s with heap:=s.heap.update l<|Obj.mapSeq f,toks:=t'}:=by
 have q:=PySem.IsL.update e f;rw [hf] at q;refine I.write (x:=l) (e:=l) (by rw [hH];exact trivial) (.inl rfl) (λb' u hb hu=>(Br s.heap (Obj.mapSeq f)<|CG hb).trans hu) ⟨_,q⟩ ?_;exact⟨hz,its',_,hv,q⟩
def Inv.uj{its:List Value}{t':Nat}(I:Inv X pins σ H s)(hv:ax ys its)(hz:ys.length<=sizeLine) :
  Inv X pins σ (upd H s.heap.objs.size<|.lst ys) {s with heap:=s.heap.push {cls:= .type "list",data:= .seq its.toArray},toks:=t'}:=
 I.laid (λ_ _ q=>Ae _ q) (Am _) ⟨hz,its,0,hv,Aq _ rfl⟩
def Inv.fresh(I:Inv X pins σ H s):H s.heap.objs.size=none:=I.aB.fresh<|Am _
def Inv.f9(I:Inv X pins σ H s)(hH:H l=some (.lst xs)):xs.length<=sizeLine/\∃(its:List Value) (n:Nat),ax xs its/\xs.length=its.length/\s.heap.get? l=some {cls:= .type "list",data:= .seq its.toArray n}:=by
 obtain⟨z,its,n,r,e⟩:=I.aB l _ hH;exact⟨z,its,n,r,r.length,e⟩
def Wz{n:Nat}(h:n<=sizeLine):Builtin.List.listTooLong n=false:=by
 unfold Builtin.List.listTooLong;exact BR<|by omega
end
section
variable{X:Cx}
def WB:V->List V->Hp->VK->Prop:=λx vs H Q=>∃ l xs y,x = .ref l/\vs=[y]/\H l=some (.lst xs)/\xs.length < sizeLine/\Q .non (upd H l<|.lst<|xs++[y])
def MZ:nO X "list.append" WB:=by
 intro pins s σ H x vs v us Q I rx rv h;obtain⟨l,xs,y,rfl,rfl,hH,hz,q⟩:=h;cases rx;obtain⟨u,rfl,ru⟩:=rv.one;obtain⟨z,its,n,r,hl,e⟩:=I.f9 hH;refine MN F.slot_list_append ⟨_,e,rfl⟩ F.entry_list_append (F.args_list_append_2 _ _) (PySem.list_append l its.toArray n u<|by rw [Aw];omega) ⟨e,?_⟩;refine⟨.non,_,I.jQ (its':=its++[u]) hH e (by simp) (r.append<|.cons ru .nil) ?_,rfl,q⟩;rw [Ad,Cq];omega
def WC:V->List V->Hp->VK->Prop:=λx vs H Q=>∃ l b xs zs,x = .ref l/\vs=[.ref b]/\H l=some (.lst xs)/\H b=some (.lst zs)/\xs.length+zs.length<=sizeLine/\Q .non (upd H l<|.lst<|xs++zs)
def WD:nO X "list.extend" WC:=by
 intro pins s σ H x vs v us Q I rx rv h;obtain⟨l,b,xs,zs,rfl,rfl,hH,hB,hz,q⟩:=h;cases rx;obtain⟨u,rfl,ru⟩:=rv.one;cases ru;obtain⟨z,its,n,r,hl,e⟩:=I.f9 hH;obtain⟨z2,dS,n2,r2,gJ,e2⟩:=I.f9 hB;have hsz:its.toArray.size+dS.toArray.size<=sizeLine:=by rw [Aw,Aw];omega
 have uk:¬(!its.toArray.isEmpty && Builtin.List.listTooLong (its.toArray.size+dS.toArray.size))=true:=by
  rw [Wz hsz,SX];exact Av
 refine MN F.slot_list_extend ⟨_,e,rfl⟩ F.entry_list_extend (F.args_list_extend_2 _ _)
  (AutoSeq1.list_extend_list_list_0 l its.toArray n b dS.toArray n2 uk (by rw [Aw];omega)<|by omega) ⟨e,e2,?_⟩
 refine⟨.non,_,I.jQ (its':=its++dS) hH e (by simp) (r.append r2) ?_,rfl,q⟩;rw [Ad];omega
def B7:V->List V->Hp->VK->Prop:=λx vs H Q=>∃ l xs y,x = .ref l/\vs=[]/\H l=some (.lst xs)/\xs[xs.length - 1]?=some y/\Q y (upd H l<|.lst xs.dropLast)
def WG:nO X "list.pop" B7:=by
 intro pins s σ H x vs v us Q I rx rv h;obtain⟨l,xs,y,rfl,rfl,hH,hy,q⟩:=h;cases rx;have WH:=rv.zero;subst WH;obtain⟨z,its,n,r,hl,e⟩:=I.f9 hH;obtain⟨u,hu,ru⟩:=r.get hy;have x5:its.toArray[its.toArray.size - 1]?=some u:=by
  show its.toArray[its.length - 1]?=some u;rw [<- Bo,<- hl];exact hu
 refine MN F.slot_list_pop ⟨_,e,rfl⟩ F.entry_list_pop (F.args_list_pop_1 _) (MeetsSeq.list_pop_last l its.toArray n u x5<|by rw [Aw];omega) ⟨e,?_⟩;refine⟨y,_,I.jQ (its':=its.dropLast) hH e ?_ r.dropLast ?_,ru,q⟩
 ·show its.toArray.eraseIdxIfInBounds (its.toArray.size - 1)=its.dropLast.toArray;rw [Aw,MF,Wy]
 ·rw [List.length_dropLast];omega
def WK:V->List V->Hp->VK->Prop:=λx vs H Q=>∃ l xs i k y,x = .ref l/\vs=[.int i]/\H l=some (.lst xs)/\-(2 ^ 63)<=i/\i < 2 ^ 63/\seqIndex? i xs.length=some k/\xs[k]?=some y/\Q y (upd H l<|.lst<|xs.eraseIdx k)
def WL:nO X "list.pop" WK:=by
 intro pins s σ H x vs v us Q I rx rv h;obtain⟨l,xs,i,k,y,rfl,rfl,hH,h1,h2,hk,hy,q⟩:=h;cases rx;obtain⟨u,rfl,ru⟩:=rv.one;obtain⟨t,rfl⟩:=ru;obtain⟨z,its,n,r,hl,e⟩:=I.f9 hH;obtain⟨w,hw,dJ⟩:=r.get hy;refine MN F.slot_list_pop ⟨_,e,rfl⟩ F.entry_list_pop (F.args_list_pop_2 _ _)
  (MeetsSeq.list_pop_at l its.toArray n i t k w (fitsIndex_both h1 h2) (by rw [Aw,<- hl];exact hk) (by rw [<- Bo];exact hw)<|by rw [Aw];omega) ⟨e,?_⟩
 refine⟨y,_,I.jQ (its':=its.eraseIdx k) hH e ?_ (r.eraseIdx k) ?_,dJ,q⟩
 ·show its.toArray.eraseIdxIfInBounds k=(its.eraseIdx k).toArray;rw [MF]
 ·have:=MY xs k;omega
def B8:R2:=λx y H Q=>∃ l b xs zs,x = .ref l/\y = .ref b/\H l=some (.lst xs)/\H b=some (.lst zs)/\xs.length+zs.length<=sizeLine/\∀ p,H p=none->Q (.ref p) (upd H p<|.lst<|xs++zs)
def x6:cC X (binaryOp .Add) B8:=by
 intro pins s σ H x y v u Q I rx ry h;obtain⟨l,b,xs,zs,rfl,rfl,hH,hB,hz,q⟩:=h;cases rx;cases ry;obtain⟨z,its,n,r,hl,e⟩:=I.f9 hH;obtain⟨z2,dS,n2,r2,gJ,e2⟩:=I.f9 hB;refine PySem.P.add_list e e2 ?_ (by rw [Aw,Aw];omega);have ea:its.toArray++dS.toArray=(its++dS).toArray:=by simp
 rw [ea];exact⟨.ref _,_,I.uj (t':=s.toks) (r.append r2) (by rw [Ad];omega),rfl,q _ I.fresh⟩
end
section
variable{prog:Program}{w:World}{A:Around}{E:Value->Shared->Prop}{s:Shared}
end
section
variable{X:Cx}
end
end L2
namespace M0
open PySem PySem.W PySem.Calls PyProof.Rows
theorem WM{P:Params}{h:Heap}:∀(ns:List Int) (vs:List Value),WellAll P h vs (ns.map WData.int)->IntsAre vs ns:=by
 intro ns
 induction ns with
 | nil=>
  intro vs w;rw [List.map_nil] at w;cases w;exact .nil
 | cons n ns ih=>
  intro vs w;rw [Bh] at w;cases w with
  | cons a b=>
   cases a;exact .cons _ _<|ih _ b
theorem WN{l:OpenLaw}{n:Nat}(hn:l.most=some n){P:Params}{h:Heap}{args:List WData}{vals:List Value}
  (l7:l.row.toRowW.claim.pre args=true) (B9:WellAll P h vals args) :
  ∃ a vs ns,vals=[Value.ref a]/\args=[WData.list<|ns.map WData.int]/\h.get? a=some {cls:= .type "list",data:= .seq vs.toArray}/\IntsAre vs ns/\ns.length<=n:=by
 have WO:WShape.hasAll [] args [.list .int]=true:=(pre_splitW l7).1;have hc:l.pre.holds [] {args:=args}=true:=(pre_splitW l7).2;obtain⟨d,r,rfl,h1,h2⟩:=hasAllW_cons WO;obtain rfl:=hasAllW_nil h2;obtain⟨xs,rfl,h3⟩:=hasW_list h1;obtain⟨ns,rfl⟩:=items_int h3;have hlen:ns.length<=n:=by
  unfold OpenLaw.pre at hc;have h4:(WTm.not<|.lt (.lit<|.int (n:Int))<|.len<|.arg 0).holds [] {args:=[.list<|ns.map .int]}=true:=by
   have h4:=(holds_andW hc).1;rw [hn] at h4;exact h4
  have h5:=condW_of h4<|w_not<|w_lt w_lit<|w_len_list<|w_arg rfl;rw [Aa] at h5;refine Nat.le_of_not_lt λq=>?_;have q':(n:Int) < ((ns.length:Nat):Int):=by omega
  first
   | (rw [BW q'] at h5;exact absurd h5<|by decide)
   | (simp at h5;omega)
 cases B9 with
 | cons w1 w2=>
  cases w2;cases w1 with
  | list ho jR=>exact⟨_,_,ns,rfl,rfl,ho,WM ns _ jR,hlen⟩
def WQ(l:OpenLaw)(args:List WData):l.row.toRowW.claim.post args (.bool true) args=true:=
 postW_of (r:=l.row.toRowW) (X:=(true == true))
  (show WShape.has [] (.bool true) .bool=true by first | rfl | decide | simp [WShape.has,WShape.arms,WShape.armsAll])
  (show(WTm.eq .res<|.lit<|.bool true).value [] {args:=args,res:=some<|.bool true,after:=args}=some (.bool<|true == true) from w_eq_bool (w_res rfl) w_lit) rfl
def gd{l:OpenLaw}{n:Nat}{q:Program}{loose:List Str}{XP:(Str->Option Value)->Heap->Prop}{YP:World->Heap->Prop}{d:DefRec}
  (hn:l.most=some n) (ul:d.params.defaults=[])
  (call : ∀ (w : World) (s₀ s₁ : Shared) (mg mb : Str → Option Value) (fa : Addr) (o : Obj) (pm cd doc : Value) (a : Addr) (vs : List Value) (ns : List Int),
   Ground q loose [] XP w s₀ mg mb s₁.heap->YP w s₁.heap ->
   s₁.heap.get? fa=some o->o.data = .func (docDef d.name d.params d.body d.scope pm cd doc)->s₁.heap.CodeRec cd d.name->mg d.name=some (.ref fa) ->
   s₁.heap.get? a=some {cls:= .type "list",data:= .seq vs.toArray}->IntsAre vs ns->ns.length<=n->s₁.gens=#[] ->
   codeAny (model l.prog w) callerA (.call (.ref fa) ⟨[.ref a],[]⟩) (λr s'=>r = .ok (.ret<|.bool true)/\OldK s₁.heap s'.heap/\s'.os=s₁.os/\AllBare s'.gens) s₁) :
  WalkO q loose XP YP l.row.toRowW d [] (λf vs=>PySem.call f vs):=by
 intro w s₀ s₁ mg mb G Y fa o pm cd doc dV kV ho hd iw hD um hg args vals as l7 hlay hrd B9 hlo;obtain rfl:dV = .none:=Dflts.none hD ul;obtain rfl:kV = .none:=Dflts.noKw hD;obtain⟨a,vs,ns,rfl,rfl,jS,hints,hlen⟩:=WN hn l7 B9;refine enter_call<|JG (call w s₀ s₁ mg mb fa o pm cd doc a vs ns G Y ho (fd_plain hd) iw um jS hints hlen hg) λr s' hq=>?_;obtain⟨rfl,h2,h3,h4⟩:=hq;exact⟨.inl ⟨.bool true,.bool true,[],rfl,λ_=>rfl,.bool true,WQ l _,λ_=>⟨List.Pairwise.nil,λ_ hm=>(nomatch hm)⟩⟩,h2,h3,h4⟩
section
variable{prog:Program}{w:World}{A:Around}{E:Value->Shared->Prop}{s:Shared}{K:Frag}
end
end M0
namespace L2
open PySem PySem.Spec PyProof.Rows
theorem M1:∀{vs:List Value} {ns:List Int},IntsAre vs ns->ax (ns.map V.int) vs
 | _,_,.nil=> .nil
 | _,_,.cons n t h=> .cons ⟨t,rfl⟩<|M1 h
def Only(H:Hp):Prop:=∀ b,H b=none\/∃ o xs,H b=some (.bh o<|.lst xs)
theorem WR{P:Program}{w:World}{K:PySem.W.Frag}{mg mb:Str->Option Value}{CX:fN}{k:Nat}{fa a:Addr}{fd:FuncData}{x:Str}{sp:Sp}{s₁:Shared}{vs:List Value}{ns:List Int}
  (KX:K.In s₁.heap) (gK:s₁.heap.Ns mainGlobals mg) (hb:s₁.heap.Ns builtinsNs mb) (WT:∀ x:Str,x ≠ "__name__"->mb x=bootBuiltins x) (B':s₁.heap.NoLimit) (hg:s₁.gens=#[])
  (ha:s₁.heap.get? a=some {cls:= .type "list",data:= .seq vs.toArray}) (hi:IntsAre vs ns) (hl:ns.length<=sizeLine) (hr:bo k callerA)
  (F:∀ base:Heap,K.In base->base.Ns mainGlobals mg->aC P w K mg base CX k fa fd [x] sp) (uo:∀(s:Shared) (u:Value),BindsTo s fd ⟨[u],[]⟩ [(x,u)])
  (dM:∀ H:Hp,Only H->ai K H a (ns.map V.int)->sp [.ref a] H (λv _=>v = .bl true) λ_ _ _=>False)
  (CA:∀ H e s',CX [] H s₁ (λ_ _ _=>False) e s'->False) :
  codeAny (model P w) callerA (.call (.ref fa) ⟨[.ref a],[]⟩) (λr s'=>r = .ok (.ret<|.bool true)/\OldK s₁.heap s'.heap/\s'.os=s₁.os/\AllBare s'.gens) s₁:=by
 have rv:=M1 hi;have CB:=hi.length;have core:∀ H:Hp,Only H->ai K H a (ns.map V.int)->b8 P w H s₁.heap->(∀ b,H b≠none->b=a)->(H a≠none->K.lookup a=none) ->
   codeAny (model P w) callerA (.call (.ref fa) ⟨[.ref a],[]⟩) (λr s'=>r = .ok (.ret<|.bool true)/\OldK s₁.heap s'.heap/\s'.os=s₁.os/\AllBare s'.gens) s₁:=by
  intro H hO hS aB hA hK;have iB:∀{b:Addr} {o:Obj},s₁.heap.get? b=some o->H b=none->(fm s₁.heap H).get? b=some o:=λe n=>U0 e n;have ub:∀{b:Addr} {o:Obj} {es:Array DictEntry} {ep:Nat},s₁.heap.get? b=some o->o.data = .dict es ep->H b=none:=λ{b o es ep} e d=>by
   cases q:H b with
   | none=>rfl
   | some u=>
    have e':b=a:=hA b (by rw [q];simp);subst e';rw [ha] at e;cases e;have d':Data.seq vs.toArray _=Data.dict es ep:=d;cases d'
  have x8:∀{b:Addr} {m:Str->Option Value},s₁.heap.Ns b m->(fm s₁.heap H).Ns b m:=λ{b m} ⟨o,es,ep,e,d,r⟩=>⟨o,es,ep,iB e<|ub e d,d,r⟩;have M3:K.In (fm s₁.heap H):=λb o e=>iB (KX b o e)<|by
   cases q:H b with
   | none=>rfl
   | some u=>
    have e':b=a:=hA b (by rw [q];simp);subst e';rw [hK<|by rw [q];simp] at e;cases e
  have hM:Mod K mg (fm s₁.heap H):=⟨M3,x8 gK,⟨mb,x8 hb,WT⟩,let ⟨mc,h1,h2⟩:=B';⟨mc,x8 h1,h2⟩⟩;have e0:lV P w K mg (fm s₁.heap H) callerA [] s₁ H:=⟨rfl,hM,λb o e=>U1 e,UW<|UZ _ _,trivial,λb hb=>absurd (show b∈([]:List Addr) from hb) (by simp),aB,.of_eq hg⟩;refine JG ((F _ M3<|x8 gK).run callerA [] s₁ H ⟨[.ref a],[]⟩ [.ref a] [.ref a] _ _ hr e0 (uo s₁<|.ref a) (.cons rfl .nil)<|dM H hO hS) λr s' h=>?_;cases r with
  | error e=>exact(CA H e s' h).elim
  | ok fl=>
   cases fl with
   | next=>exact False.elim h
   | brk=>exact False.elim h
   | cont=>exact False.elim h
   | ret u=>
    obtain⟨v,H',os,bare,un,CD,r',q⟩:=h;have q':v = .bl true:=q;subst q';obtain rfl:u=Value.bool true:=r';refine⟨rfl,OldK.of_keep λb o e=>?_,os,bare⟩;cases q:H b with
    | none=>exact un.keep b o e q (by intro z;exact absurd (show b∈([]:List Addr) from z)<|by simp)<|by simp
    | some u=>
     rcases hO b with z | ⟨ob,xs,z⟩
     ·rw [q] at z;cases z
     ·have z2:=un.du b ob _ z;obtain⟨e1,_⟩:=aB b _ z;obtain⟨e2,_⟩:=CD b _ z2;rw [e] at e1;cases e1;exact e2
 cases hk:K.lookup a with
 | some o=>
  have e:=KX a o hk;rw [ha] at e;cases e;refine core (λ_=>none) (λ_=> .inl rfl) (.inr ⟨_,vs.toArray,_,hk,rfl,rfl,rfl,by rw [Aw,CB];exact hl,by simpa using rv⟩) (λb u z=>by have z':(none:Option HO)=some u:=z;cases z') (λb z=>absurd rfl z) λz=>absurd rfl z
 | none=>
  refine core (λb=>if b=a then some (.bh {cls:= .type "list",data:= .seq vs.toArray}<|.lst<|ns.map V.int) else none) (λb=>?_) (.inl<|.inr ⟨{cls:= .type "list",data:= .seq vs.toArray},BL rfl⟩) (λb u z=>?_) (λb z=>?_) λ_=>hk
  ·by_cases hb:b=a
   ·exact .inr ⟨_,_,BL hb⟩
   ·exact .inl<|BK hb
  ·by_cases hb:b=a
   ·have z':=(BL hb).symm.trans z;cases z';subst hb;exact⟨ha,by rw [Aa];exact hl,vs,_,rv,ha⟩
   ·have z':=(BK hb).symm.trans z;cases z'
  ·by_cases hb:b=a
   ·exact hb
   ·exact absurd (BK hb) z
def l9{l:PySem.W.OpenLaw}{n k:Nat}{q:Program}{loose:List Str}{XP:(Str->Option Value)->Heap->Prop}{YP:World->Heap->Prop}{d:DefRec}{K:Params->PySem.W.Frag}{CX:World->fN}{sp:World->Sp}{x:Str}
  (hn:l.most=some n) (WU:n<=sizeLine) (ul:d.params.defaults=[]) (hr:bo k callerA)
  (hY:∀(w:World) (h:Heap),YP w h->(K w.params).In h)
  (F : ∀ (w : World) (mg : Str → Option Value) (fa : Addr) (h : Heap), (K w.params).In h → h.Ns mainGlobals mg → mg d.name = some (.ref fa) →
   ∃ fd:FuncData,(∀(s:Shared) (u:Value),BindsTo s fd ⟨[u],[]⟩ [(x,u)]) /\
    ∀ base:Heap,(K w.params).In base->base.Ns mainGlobals mg->aC l.prog w (K w.params) mg base (CX w) k fa fd [x] (sp w))
  (dM:∀(w:World) (H:Hp) (a:Addr) (ns:List Int),ns.length<=n->Only H->ai (K w.params) H a (ns.map V.int)->sp w [.ref a] H (λv _=>v = .bl true) λ_ _ _=>False)
  (CA:∀(w:World) (H:Hp) (s:Shared) (e:Value) (s':Shared),CX w [] H s (λ_ _ _=>False) e s'->False) :
  PySem.W.WalkO q loose XP YP l.row.toRowW d [] (λf vs=>PySem.call f vs):=by
 refine M0.gd hn ul λw s₀ s₁ mg mb fa o pm cd doc a vs ns G Y ho hd iw um jS hints hlen hg=>?_;have KX:=hY w _ Y;obtain⟨fd,hb,hF⟩:=F w mg fa _ KX G.T.g um;exact WR KX G.T.g G.T.b G.T.builtins G.T.nolimit hg jS hints (Bv hlen WU) hr hF hb (λH hO hS=>dM w H a ns hlen hO hS) λH e s'=>CA w H s₁ e s'
def nP(s:Stmt):Arguments:=match s with
 | .FunctionDef _ a _ _ _ _ _ _ _ _=>a
 | _=>{posonlyargs:=[],args:=[],vararg:=none,kwonlyargs:=[],kw_defaults:=[],kwarg:=none,defaults:=[]}
def gL(s:Stmt):List Stmt:=match s with
 | .FunctionDef _ _ b _ _ _ _ _ _ _=>b
 | _=>[]
def aP(s:Stmt):Scope:=match s with
 | .FunctionDef _ _ _ _ _ _ sc _ _ _=>sc
 | _=>{kind:= .function,names:=[],isGenerator:=false,isCoroutine:=false}
abbrev bA:fN:=λ_ _ _ _ _ _=>False
abbrev E0:XK:=λ_ _ _=>False
def jT{X:Cx}:rA bA X E0:=λ_ _ _ _ _ _ _ h=>h.elim
structure bu(K:PySem.W.Frag)(x qual:Str)(st:Stmt)(f:Addr)(fd:FuncData):Prop where
 ex:∃(oc:Value) (od:Option Addr) (kV doc pm:Value) (an:Option Addr) (bE ct:Value) (jO:Array<|Option Value),
  fd=PySem.W.fnOf x qual (nP st) (gL st) (aP st) .none kV doc pm an bE ct/\K.lookup f=some ⟨oc,od,.func fd,jO⟩/\PySem.W.codeIn K bE qual=true
 kp:PySem.W.keepIn K (.ref f)=true
section
variable{P:Program}{w:World}{K:PySem.W.Frag}{mg:Str->Option Value}{base:Heap}
def bu.ok{x qual:Str}{st:Stmt}{f:Addr}{fd:FuncData}{N ps:List Str}{k:Nat}{sp:Sp}(F:bu K x qual st f fd)(S:ao N ps<|aP st)(len:∀ vs H Q E,sp vs H Q E->vs.length=ps.length)
  (cQ : ∀ (bE : Value) (A : Around) (outer : List Env) (s : Shared) (H : Hp) (vs : List V) (Q : VK) (E : XK), bo k (A.deeper<|envOfC qual (aP st) s.heap.objs.size f bE) → sp vs H Q E →
   ∃ t,iX (eN bA P w K mg base N qual (aP st) f bE A outer s H E).lT (gL st) t/\t {nx:=λ_ H'=>Q .non H',rt:=Q} (start N vs) H):aC P w K mg base bA (k+1) f fd ps sp:=by
 obtain⟨oc,od,kV,doc,pm,an,bE,ct,jO,rfl,lk,iw⟩:=F.ex;refine ML lk iw S len λA outer s H vs Q E hr dM=>?_;obtain⟨t,h,q⟩:=cQ bE A outer s H vs Q E hr dM;exact⟨t,h.lT,q⟩
def bu.binds{x qual:Str}{st:Stmt}{f:Addr}{fd:FuncData}{ps:List Str}(F:bu K x qual st f fd)
  (h:∀(kV doc pm:Value) (an:Option Addr) (bE ct:Value) (us:List Value),us.length=ps.length->bindArgs (PySem.W.fnOf x qual (nP st) (gL st) (aP st) .none kV doc pm an bE ct) ⟨us,[]⟩=pure (ps.zip us)):Binds K fd ps []:=by
 obtain⟨oc,od,kV,doc,pm,an,bE,ct,jO,rfl,lk,iw⟩:=F.ex;exact .all<|h kV doc pm an bE ct
def WV{x qual:Str}{st:Stmt}{f:Addr}{oc:Value}{od an:Option Addr}{jO:Array (Option Value)}{kV doc pm bE ct:Value}(l:K.lookup f=some ⟨oc,od,.func<|PySem.W.fnOf x qual (nP st) (gL st) (aP st) .none kV doc pm an bE ct,jO⟩)
  (c:PySem.W.codeIn K bE qual=true) (k:PySem.W.keepIn K (.ref f)=true):bu K x qual st f (PySem.W.fnOf x qual (nP st) (gL st) (aP st) .none kV doc pm an bE ct):=⟨⟨oc,od,kV,doc,pm,an,bE,ct,jO,rfl,l,c⟩,k⟩
end
section
variable{X:Cx}
end
def bR{A B:Prop}(h:B):if false=true then A else B:=by
 rw [BK Av];exact h
def cw{A B:Prop}(h:A):if true=true then A else B:=by
 rw [BL rfl];exact h
def gg{c A B:Prop} [Decidable c] (h1:c->A) (h2:¬ c->B):if c then A else B:=by
 by_cases h:c
 ·rw [BL h];exact h1 h
 ·rw [BK h];exact h2 h
def ah(H H':Hp):Prop:=∀ b o,H b=some o->H' b=some o
def ah.refl(H:Hp):ah H H:=λ_ _ h=>h
def ah.trans{H H1 H2:Hp}(a:ah H H1)(b:ah H1 H2):ah H H2:=λc o h=>b c o<|a c o h
theorem ah.free{H H':Hp}(e:ah H H'){l:Addr}(h:H' l=Option.none):H l=Option.none:=by
 cases q:H l with
 | none=>rfl
 | some o=>
  rw [e l o q] at h;cases h
def ah.seq{K:PySem.W.Frag}{H H':Hp}{a:Addr}{xs:List V}(e:ah H H')(h:ai K H a xs):ai K H' a xs:=by
 rcases h with (h | ⟨o,h⟩) | h
 ·exact .inl<|.inl<|e _ _ h
 ·exact .inl<|.inr ⟨o,e _ _ h⟩
 ·exact .inr h
section
variable{κ:Type} [DecidableEq κ]
def al(kvs:List<|κ×V)(k:κ):Option V:=(kvs.find? λkv=>decide (kv.1=k)).map (·.2)
def putK(kvs:List<|κ×V)(k:κ)(v:V):List (κ×V):=
 if(kvs.any λkv=>decide (kv.1=k))=true then kvs.map (λkv=>if kv.1=k then(kv.1,v) else kv) else kvs++[(k,v)]
def gj{p:κ×V}{r:List (κ×V)}{k:κ}(e:p.1=k):al (p :: r) k=some p.2:=by simp [al,El,e]
def gk{p:κ×V}{r:List (κ×V)}{k:κ}(e:¬ p.1=k):al (p :: r) k=al r k:=by simp [al,El,e]
theorem rB(k:κ):∀ kvs:List<|κ×V,(kvs.any λkv=>decide (kv.1=k))=(al kvs k).isSome
 | []=>rfl
 | p :: r=>by
  rw [Fi]
  by_cases e:p.1=k
  ·simp only [gj e,BW e,Bool.true_or,Option.isSome_some]
  ·rw [gk e,BR e,Bool.false_or];exact rB k r
theorem M4(k j:κ)(y:V):∀ kvs:List<|κ×V,al (kvs.map λkv=>if kv.1=k then(kv.1,y) else kv) j=(al kvs j).map λx=>if j=k then y else x
 | []=>rfl
 | p :: r=>by
  have ih:=M4 k j y r;rw [Bh]
  by_cases h:p.1=k
  ·rw [BL h]
   by_cases e:p.1=j
   ·rw [gj (p:=(p.1,y)) e,gj e,Gb,BL<|e.symm.trans h]
   ·rw [gk (p:=(p.1,y)) e,gk e,ih]
  ·rw [BK h]
   by_cases e:p.1=j
   ·rw [gj (p:=p) e,gj e,Gb,BK λz=>h<|e.trans z]
   ·rw [gk (p:=p) e,gk e,ih]
theorem M5(k j:κ)(y:V):∀ kvs:List<|κ×V,al kvs k=none->al (kvs++[(k,y)]) j=if j=k then some y else al kvs j
 | [],_=>by
  by_cases e:k=j
  ·rw [BL e.symm];exact gj (p:=(k,y)) e
  ·rw [BK λz=>e z.symm];exact gk (p:=(k,y)) e
 | p :: r,hn=>by
  rw [Fb];have hk:¬ p.1=k:=λz=>by rw [gj z] at hn;cases hn
  rw [gk hk] at hn;have ih:=M5 k j y r hn
  by_cases e:p.1=j
  ·rw [gj e,gj e,BK λz=>hk<|e.trans z]
  ·rw [gk e,gk e,ih]
def c7(kvs:List<|κ×V)(k j:κ)(y:V):al (putK kvs k y) j=if j=k then some y else al kvs j:=by
 unfold putK
 by_cases a:(kvs.any λkv=>decide (kv.1=k))=true
 ·rw [BL a,M4];rw [rB] at a
  by_cases e:j=k
  ·obtain⟨x,hx⟩:=Ee.mp a;rw [BL e,e,hx,Gb,BL rfl]
  ·rw [BK e];cases al kvs j with
   | none=>rfl
   | some x=>rw [Gb,BK e]
 ·rw [BK a];refine M5 k j y kvs ?_;rw [rB] at a;cases q:al kvs k with
  | none=>rfl
  | some x=>rw [q] at a;exact(a rfl).elim
def i4(kvs:List<|κ×V)(k:κ)(v:V):(putK kvs k v).length<=kvs.length+1:=by
 unfold putK
 split
 ·rw [Aa];omega
 ·rw [Ad,Ax,Em];omega
def M6{kvs:List (κ×V)}{k:κ}(v:V)(h:al kvs k=none):putK kvs k v=kvs++[(k,v)]:=by
 unfold putK;rw [rB,h];exact BK<|by decide
theorem dN.bS{o:Option V}{u:Option Value}(r:dN o u):o.isSome=u.isSome:=by
 cases o with
 | none=>cases u with
  | none=>rfl
  | some _=>exact(show False from r).elim
 | some _=>cases u with
  | none=>exact(show False from r).elim
  | some _=>rfl
theorem KV.val{kvs:List (κ×V)}{vs:List (κ×Value)}(r:KV kvs vs)(k:κ):dN (al kvs k) (valueAt vs k):=by
 unfold KV at r
 induction r with
 | nil=>exact True.intro
 | @cons p q ps qs h t ih=>
  obtain⟨h1,h2⟩:=h
  by_cases e:p.1=k
  ·have e':q.1=k:=h1.symm.trans e;have b:valueAt (q :: qs) k=some q.2:=by simp [valueAt,El,e']
   rw [gj e,b];exact h2
  ·have e':¬ q.1=k:=λz=>e<|h1.trans z;have b:valueAt (q :: qs) k=valueAt qs k:=by simp [valueAt,El,e']
   rw [gk e,b];exact ih
theorem KV.any{kvs:List (κ×V)}{vs:List (κ×Value)}(r:KV kvs vs)(k:κ):(kvs.any λkv=>decide (kv.1=k))=vs.any λkv=>decide (kv.1=k):=by
 unfold KV at r
 induction r with
 | nil=>rfl
 | cons h t ih=>rw [Fi,Fi,ih,h.1]
theorem KV.repl{kvs:List (κ×V)}{vs:List (κ×Value)}(r:KV kvs vs)(k:κ){y:V}{u:Value}(ry:RelV y u) :
  KV (kvs.map λkv=>if kv.1=k then(kv.1,y) else kv) (vs.map λkv=>if kv.1=k then(kv.1,u) else kv):=by
 unfold KV at r ⊢
 induction r with
 | nil=>exact .nil
 | @cons p q ps qs h t ih=>
  rw [Bh,Bh];refine .cons ?_ ih;obtain⟨h1,h2⟩:=h
  by_cases e:p.1=k
  ·rw [BL e,BL<|h1.symm.trans e];exact⟨h1,ry⟩
  ·rw [BK e,BK λz=>e<|h1.trans z];exact⟨h1,h2⟩
def KV.put{kvs:List (κ×V)}{vs:List (κ×Value)}(r:KV kvs vs)(k:κ){y:V}{u:Value}(ry:RelV y u):KV (putK kvs k y) (stored vs k u):=by
 unfold putK stored;rw [r.any k]
 by_cases e:(vs.any λkv=>decide (kv.1=k))=true
 ·rw [BL e,BL e];exact r.repl k ry
 ·rw [BK e,BK e];exact Paired.snoc r ⟨rfl,ry⟩
theorem KV.keys{kvs:List (κ×V)}{vs:List (κ×Value)}(r:KV kvs vs):kvs.map (·.1)=vs.map (·.1):=by
 unfold KV at r
 induction r with
 | nil=>rfl
 | cons h t ih=>rw [Bh,Bh,ih,h.1]
def KV.length{kvs:List (κ×V)}{vs:List (κ×Value)}(r:KV kvs vs):kvs.length=vs.length:=Paired.length r
end
theorem nQ{P:Program}{w:World}{k:Key}{u:Value}(r:RelV (kV k) u):(dh P w).is k u=true:=by
 cases k with
 | inl i=>obtain⟨t,e⟩:=(show ∃ t,u=Value.int i t from r);subst e;exact UU P w i t
 | inr x=>obtain⟨t,e⟩:=(show ∃ t,u=Value.str x t from r);subst e;exact UX P w x t
theorem M7{P:Program}{w:World}:∀{ks:List Key} {us:List Value},ax (ks.map kV) us->ItemsAre (dh P w) ks us
 | [],_,r=>by rw [List.map_nil] at r;cases r;exact .nil
 | k :: ks,_,r=>by
  rw [Bh] at r;cases r with
  | cons h t=>exact .cons (nQ h)<|M7 t
abbrev KT(H:Hp):List (List Key×V)->List (List Key×Addr×Value)->Prop:=Paired λp q=>p.1=q.1/\H q.2.1=some (.tup<|p.1.map kV)/\RelV p.2 q.2.2
theorem KT.val{H:Hp}{kvs:List (List Key×V)}{xs:List (List Key×Addr×Value)}(r:KT H kvs xs)(k:List Key):dN (al kvs k) ((atKey xs k).map (·.2)):=by
 induction r with
 | nil=>exact True.intro
 | @cons p q ps qs h t ih=>
  obtain⟨h1,_,h2⟩:=h
  by_cases e:p.1=k
  ·have e':q.1=k:=h1.symm.trans e;have b:atKey (q :: qs) k=some q.2:=by simp [atKey,El,e']
   rw [gj e,b];exact h2
  ·have e':¬ q.1=k:=λz=>e<|h1.trans z;have b:atKey (q :: qs) k=atKey qs k:=by simp [atKey,El,e']
   rw [gk e,b];exact ih
theorem KT.repl{H:Hp}{kvs:List (List Key×V)}{xs:List (List Key×Addr×Value)}(r:KT H kvs xs)(k:List Key){y:V}{u:Value}(ry:RelV y u) :
  KT H (kvs.map λkv=>if kv.1=k then(kv.1,y) else kv) (xs.map<|putAt k u):=by
 induction r with
 | nil=>exact .nil
 | @cons p q ps qs h t ih=>
  rw [Bh,Bh];refine .cons ?_ ih;obtain⟨h1,h2,h3⟩:=h;unfold putAt
  by_cases e:p.1=k
  ·rw [BL e,BL<|h1.symm.trans e];exact⟨h1,h2,ry⟩
  ·rw [BK e,BK λz=>e<|h1.trans z];exact⟨h1,h2,h3⟩
def KT.put{H:Hp}{kvs:List (List Key×V)}{xs:List (List Key×Addr×Value)}(r:KT H kvs xs)(k:List Key){b:Addr}{y:V}{u:Value}(hb:H b=some (.tup<|k.map kV))(ry:RelV y u) :
  KT H (putK kvs k y) (storedH xs k b u):=by
 have e:(kvs.any λkv=>decide (kv.1=k))=(atKey xs k).isSome:=by
  rw [rB,(r.val k).bS,QF]
 unfold putK storedH;rw [e]
 by_cases q:(atKey xs k).isSome=true
 ·rw [BL q,BL q];exact r.repl k ry
 ·rw [BK q,BK q];exact Paired.snoc r ⟨rfl,hb,ry⟩
def KT.keeps{H H':Hp}{kvs:List (List Key×V)}{xs:List (List Key×Addr×Value)}(r:KT H kvs xs)(ht:∀ b ys,H b=some (.tup ys)->H' b=some (.tup ys)):KT H' kvs xs:=
 Paired.o9 r λ_ _ z=>⟨z.1,ht _ _ z.2.1,z.2.2⟩
section
variable{P:Program}{w:World}{H:Hp}{h:Heap}{a:Addr}
def M8{u:HO}(ok:b8 P w H h)(e:Rd H a u):az P w H h a u:=e.ok ok
def rC{kvs:List (Key×V)}(ok:b8 P w H h)(e:Rd H a<|.dK kvs):kvs.length<=sizeLine/\(a == sysModules)=false/\∃ vs,KV kvs vs/\h.DictOf (dh P w) a vs:=
 show az P w H h a (.dK kvs) from M8 ok e
def uq{kvs:List (Key×V)}(ok:b8 P w H h)(e:H a=some (.dK kvs)):kvs.length<=sizeLine/\(a == sysModules)=false/\∃ vs,KV kvs vs/\h.DictOf (dh P w) a vs:=rC ok<|.inl e
def rD{ks:List Key}(ok:b8 P w H h)(e:H a=some (.tup<|ks.map kV)):(tupleKind<|dh P w).is h ks a:=by
 obtain⟨_,its,r,o,h1,h2,n,h3⟩:=(show az P w H h a (.tup<|ks.map kV) from ok a _ e);exact⟨o,its.toArray,n,h1,h2,h3,by simpa using M7 r⟩
def ur{kvs:List (List Key×V)}(ok:b8 P w H h)(e:Rd H a<|.dT kvs):kvs.length<=sizeLine/\(a == sysModules)=false /\
  ∃ xs,KT H kvs xs/\h.DictOfH (tupleKind<|dh P w) a xs:=by
 obtain⟨z,y,xs,r,o,es,ep,h1,h2,h3,h4,h5⟩:=(show az P w H h a (.dT kvs) from M8 ok e);refine⟨z,y,xs,r,o,es,ep,h1,h2,h3,h4,λx hx=>?_,h5⟩;have all:∀{l:List (List Key×V)} {m:List (List Key×Addr×Value)},KT H l m->∀ x∈m,(tupleKind<|dh P w).is h x.1 x.2.1:=by
  intro l m q
  induction q with
  | nil=>intro x hx;exact nomatch hx
  | @cons p q ps qs hq t ih=>
   intro x hx
   rcases Al.mp hx with e | hx
   ·subst e;exact rD ok<|by rw [<- hq.1];exact hq.2.1
   ·exact ih x hx
 exact all r x hx
def M9{kvs:List (List Key×V)}(ok:b8 P w H h)(e:H a=some (.dT kvs)):kvs.length<=sizeLine/\(a == sysModules)=false /\
  ∃ xs,KT H kvs xs/\h.DictOfH (tupleKind<|dh P w) a xs:=ur ok<|.inl e
end
def aU(H:Hp)(a:Addr)(y:V)(r:Option V):Prop:=
 (∃ kvs k,Rd H a (.dK kvs)/\y=kV k/\r=al kvs k)\/∃ kvs k b,Rd H a (.dT kvs)/\y = .ref b/\H b=some (.tup<|k.map kV)/\r=al kvs k
def bT(H:Hp)(a:Addr)(y v:V)(H':Hp):Prop:=
 (∃ kvs k,H a=some (.dK kvs)/\y=kV k/\kvs.length < sizeLine/\H'=upd H a (.dK<|putK kvs k v)) \/
 ∃ kvs k b,H a=some (.dT kvs)/\y = .ref b/\H b=some (.tup<|k.map kV)/\kvs.length < sizeLine/\H'=upd H a (.dT<|putK kvs k v)
def aU.k{H:Hp}{a:Addr}{kvs:List (Key×V)}{k:Key}(e:H a=some (.dK kvs)):aU H a (kV k) (al kvs k):= .inl ⟨kvs,k,.inl e,rfl,rfl⟩
def aU.t{H:Hp}{a b:Addr}{kvs:List (List Key×V)}{k:List Key}(e:H a=some (.dT kvs))(eb:H b=some (.tup<|k.map kV)):aU H a (.ref b) (al kvs k):= .inr ⟨kvs,k,b,.inl e,rfl,eb,rfl⟩
def bT.k{H:Hp}{a:Addr}{kvs:List (Key×V)}{k:Key}{v:V}(e:H a=some (.dK kvs))(hl:kvs.length < sizeLine):bT H a (kV k) v (upd H a<|.dK<|putK kvs k v):= .inl ⟨kvs,k,e,rfl,hl,rfl⟩
def bT.t{H:Hp}{a b:Addr}{kvs:List (List Key×V)}{k:List Key}{v:V}(e:H a=some (.dT kvs))(eb:H b=some (.tup<|k.map kV))(hl:kvs.length < sizeLine) :
  bT H a (.ref b) v (upd H a<|.dT<|putK kvs k v):= .inr ⟨kvs,k,b,e,rfl,eb,hl,rfl⟩
section
variable{X:Cx}{pins:List (Addr×Obj)}{σ:St}{H:Hp}{s:Shared}{a:Addr}{y v:V}{u r:Value}{o:Option V}{A:Around}{E:Value->Shared->Prop}
def Inv.big(I:Inv X pins σ H s):sysModules < s.heap.objs.size:=by
 have h:mainGlobals < s.heap.objs.size:=(I.mod.glob.keeps I.bk).lt;exact Nat.lt_trans (by decide) h
def WW{Q:Value->Shared->Prop}(hu:A.units+1 < cLine)(I:Inv X pins σ H s)(g:aU H a y<|some v)(ry:RelV y u)(h:∀ w' s',Inv X pins σ H s'->RelV v w'->Q w' s') :
  wpAny (model X.prog X.w) A (getItem (.ref a) u) Q E s:=by
 rcases g with ⟨kvs,k,e,ey,l⟩ | ⟨kvs,k,b,e,ey,eb,l⟩
 ·subst ey;obtain⟨z,hd,vs,rel,dd⟩:=rC I.aB e;obtain⟨w',hw,dJ⟩:=dN.some_of (v:=v) (o:=valueAt vs k) (by rw [l];exact rel.val k);exact wpAny_getItem_of (nQ ry) dd.mapOf hw<|h w' _ (I.tok _) dJ
 ·subst ey;cases (show u=Value.ref b from ry);obtain⟨z,hd,xs,rel,dd⟩:=ur I.aB e;obtain⟨w',hw,dJ⟩:=dN.some_of (v:=v) (o:=(atKey xs k).map (·.2)) (by rw [l];exact rel.val k);obtain⟨p,hp,jt⟩:=Ap.mp hw;refine wpAny_getItem_heap (JV hu) (rD I.aB eb) dd hp ?_;rw [jt];exact h w' _ (I.tok _) dJ
def CF{Q:Value->Shared->Prop}(hu:A.units+1 < cLine)(I:Inv X pins σ H s)(g:aU H a y o)(ry:RelV y u)(h:∀ s',Inv X pins σ H s'->Q (.bool o.isSome) s') :
  wpAny (model X.prog X.w) A (compareOp .In u<|.ref a) Q E s:=by
 rcases g with ⟨kvs,k,e,ey,l⟩ | ⟨kvs,k,b,e,ey,eb,l⟩
 ·subst ey;obtain⟨z,hd,vs,rel,dd⟩:=rC I.aB e;refine wpAny_in_of (nQ ry) hd dd.mapOf ?_;rw [<- (rel.val k).bS,<- l];exact h _<|I.tok _
 ·subst ey;cases (show u=Value.ref b from ry);obtain⟨z,hd,xs,rel,dd⟩:=ur I.aB e;refine wpAny_in_heap (JV hu) (rD I.aB eb) hd dd ?_;have q:=(rel.val k).bS;rw [QF] at q;rw [<- q,<- l];exact h _<|I.tok _
def WX{Q:Value->Shared->Prop}(hu:A.units+1 < cLine)(I:Inv X pins σ H s)(g:aU H a y o)(ry:RelV y u)(h:∀ s',Inv X pins σ H s'->Q (.bool (!o.isSome)) s') :
  wpAny (model X.prog X.w) A (compareOp .NotIn u<|.ref a) Q E s:=by
 rcases g with ⟨kvs,k,e,ey,l⟩ | ⟨kvs,k,b,e,ey,eb,l⟩
 ·subst ey;obtain⟨z,hd,vs,rel,dd⟩:=rC I.aB e;refine wpAny_notIn_of (nQ ry) hd dd.mapOf ?_;rw [<- (rel.val k).bS,<- l];exact h _<|I.tok _
 ·subst ey;cases (show u=Value.ref b from ry);obtain⟨z,hd,xs,rel,dd⟩:=ur I.aB e;refine wpAny_notIn_heap (JV hu) (rD I.aB eb) hd dd ?_;have q:=(rel.val k).bS;rw [QF] at q;rw [<- q,<- l];exact h _<|I.tok _
def l'{h':Heap}{t':Nat}{ob:HO}(I:Inv X pins σ H s)(mu:tM<|H a)(hs:Heap.SameBut a s.heap h')(he:∃ q,h'.get? a=some q)(new:az X.prog X.w (upd H a ob) h' a ob) :
  Inv X pins σ (upd H a ob) {s with heap:=h',toks:=t'}:=
 I.write (x:=a) (e:=a) mu (.inl rfl) (λb q hb z=>(hs.2 b hb).trans z) he new
def CH{P:Program}{w:World}{H':Hp}{h':Heap}{kvs:List (Key×V)}{vs:List (Key×Value)}(z:kvs.length<=sizeLine)(hd:(a == sysModules)=false)(rel:KV kvs vs)(dd:h'.DictOf (dh P w) a vs) :
  az P w H' h' a (.dK kvs):=⟨z,hd,vs,rel,dd⟩
def WY{H':Hp}{Q:Unit->Shared->Prop}(hu:A.units+1 < cLine)(I:Inv X pins σ H s)(g:bT H a y v H')(ry:RelV y u)(rv:RelV v r)(h:∀ s',Inv X pins σ H' s'->Q () s') :
  wpAny (model X.prog X.w) A (setItem (.ref a) u r) Q E s:=by
 rcases g with ⟨kvs,k,e,ey,l,eH⟩ | ⟨kvs,k,b,e,ey,eb,l,eH⟩
 ·subst ey eH;obtain⟨z,hd,vs,rel,dd⟩:=uq I.aB e;have hz:vs.length<=sizeLine:=by rw [<- rel.length];exact z
  have hl:(putK kvs k v).length<=sizeLine:=by have:=i4 kvs k v;omega
  refine wpAny_setItem_pairs (hsz:=hz) (nQ ry) dd λh' i5 hs=>h _ ?_;have he:∃ q,h'.get? a=some q:=let ⟨q,_,_,hq,_⟩:=i5;⟨q,hq⟩
  exact l' I (by rw [e];exact True.intro) hs he<|CH hl hd (rel.put k rv) i5
 ·subst ey eH;cases (show u=Value.ref b from ry);obtain⟨z,hd,xs,rel,dd⟩:=M9 I.aB e;have hz:xs.length<=sizeLine:=by rw [<- Paired.length rel];exact z
  have hl:(putK kvs k v).length<=sizeLine:=by have:=i4 kvs k v;omega
  refine wpAny_setItem_heap (hsz:=hz) (JV hu) (rD I.aB eb) dd λh' i5 hs=>h _ ?_;obtain⟨q,es,ep,hq,h2,h3,h4,_,h5⟩:=i5;refine l' I (by rw [e];exact True.intro) hs ⟨q,hq⟩ ⟨hl,hd,_,(rel.put k eb rv).keeps λc ys ec=>?_,q,es,ep,hq,h2,h3,h4,h5⟩;rw [au<|bQ ec e λz=>nomatch z];exact ec
end
section
variable{X:Cx}{pins:List (Addr×Obj)}{σ:St}{H:Hp}{s:Shared}{a:Addr}{kvs:List (Key×V)}{k:Key}{u:Value}{A:Around}{E:Value->Shared->Prop}
end
def pF(i:Expr):Prop:=∀ ov iv,subscripted i false ov iv=operate [ov,iv] (getItem ov iv)
def WZ{prog:Program}{w:World}{A:Around}{E:Value->Shared->Prop}{s:Shared}{env:Env}{value slice:Expr}{pos:Pos}{T id:String}{Q:Value->Shared->Prop}
  (hl:typeLookup (.type T) "__getitem__" = pure (some<|.builtin id)) (hs:pF slice)
  (h:wpAny (model prog w) A (eval value env) (λo s₁=>wpAny (model prog w) A (eval slice env) (λi s₂=>s₂.TypeIs o T/\wpAny (model prog w) A (getItem o i) Q E s₂) E s₁) E s) :
  wpAny (model prog w) A (eval (.Subscript value slice pos) env) Q E s:=by
 refine Subscript_<|CK h (λo s₁ h₁=>CK h₁ (λi s₂ h₂=>?_) λ_ _ x=>x) λ_ _ x=>x;obtain⟨hT,h₂⟩:=h₂;unfold subscriptTail;refine BJ ?_;rw [getitemInPython_of_ne hT.not_modules];refine BJ<|RT hT hl ?_;have fin:wpAny (model prog w) A (subscripted slice false o i) (λr s₃=>wpAny (model prog w) A (letTemporaryGo value o r >>= λ_=>pure r) Q E s₃) E s₂:=by
  rw [hs o i];exact wpAny_operating<|CK h₂ (λr s₃ h₃=>BJ<|wpAny_letTemporaryGo<|BP h₃) λ_ _ x=>x
 first
  | exact BP<|BJ fin
  | exact BJ<|BP<|BJ fin
  | exact BJ fin
def W0{X:Cx}{pins:List (Addr×Obj)}{σ:St}{H:Hp}{s:Shared}{a:Addr}{y:V}{o:Option V}(I:Inv X pins σ H s)(g:aU H a y o):s.TypeIs (.ref a) "dict":=by
 rcases g with ⟨kvs,k,e,_,_⟩ | ⟨kvs,k,b,e,_,_,_⟩
 ·obtain⟨_,_,vs,_,dd⟩:=rC I.aB e;exact dd.typeIs
 ·obtain⟨_,_,xs,_,dd⟩:=ur I.aB e;exact dd.typeIs
def W1(td ty:TE):TE:=λσ H Q=>td σ H λx H1=>ty σ H1 λy H2=>∃ a v,x = .ref a/\aU H2 a y (some v)/\Q v H2
def CI(ty td:TE):TE:=λσ H Q=>ty σ H λy H1=>td σ H1 λx H2=>∃ a o,x = .ref a/\aU H2 a y o/\Q (.bl o.isSome) H2
def W2(ty td:TE):TE:=λσ H Q=>ty σ H λy H1=>td σ H1 λx H2=>∃ a o,x = .ref a/\aU H2 a y o/\Q (.bl (!o.isSome)) H2
def W3(td ty tv:TE):TS:=λD σ H=>tv σ H λv H1=>td σ H1 λx H2=>ty σ H2 λy H3=>∃ a H4,x = .ref a/\bT H3 a y v H4/\D.nx σ H4
section
variable{X:Cx}{o i e value:Expr}{pos pos' BM:Pos}{td ty tv:TE}
def W4(hu:X.A.units+1 < cLine)(ho:PE X o td)(hi:PE X i ty)(hs:pF i):PE X (.Subscript o i pos) (W1 td ty):=by
 intro pins s σ H Q I h;refine WZ PySem.F.slot_dict_getitem.lookup hs<|aF (ho pins s σ H _ I h) λu s1 ⟨x,H1,I1,rx,q1⟩=>aF (hi pins s1 σ H1 _ I1 q1) λiv s2 ⟨y,H2,I2,ry,a,v,ex,g,q2⟩=>?_;subst ex;obtain rfl:u=Value.ref a:=rx;exact⟨W0 I2 g,WW hu I2 g ry λw' s3 I3 dJ=>⟨v,H2,I3,dJ,q2⟩⟩
def W5(hu:X.A.units+1 < cLine)(hi:PE X i ty)(ho:PE X o td):PC X .In i o (CI ty td):=by
 intro pins s σ H Q I h;refine aF (hi pins s σ H _ I h) λiv s1 ⟨y,H1,I1,ry,q1⟩=>aF (ho pins s1 σ H1 _ I1 q1) λu s2 ⟨x,H2,I2,rx,a,ov,ex,g,q2⟩=>?_;subst ex;obtain rfl:u=Value.ref a:=rx;exact CF hu I2 g ry λs3 I3=>⟨.bl ov.isSome,H2,I3,rfl,q2⟩
def W6(hu:X.A.units+1 < cLine)(hi:PE X i ty)(ho:PE X o td):PC X .NotIn i o (W2 ty td):=by
 intro pins s σ H Q I h;refine aF (hi pins s σ H _ I h) λiv s1 ⟨y,H1,I1,ry,q1⟩=>aF (ho pins s1 σ H1 _ I1 q1) λu s2 ⟨x,H2,I2,rx,a,ov,ex,g,q2⟩=>?_;subst ex;obtain rfl:u=Value.ref a:=rx;exact WX hu I2 g ry λs3 I3=>⟨.bl (!ov.isSome),H2,I3,rfl,q2⟩
def W7(hu:X.A.units+1 < cLine)(ho:PE X o td)(hi:PE X i ty)(hv:PE X value tv)(hs:swapsWith value (some<|.Subscript o i pos') pos.line X.env=pure false) :
  PS X (.Assign [.Subscript o i pos'] value pos) (W3 td ty tv):=by
 intro pins s σ H D I h;refine wpAny_Assign_Subscript (aF (hv pins s σ H _ I h) λr s1 ⟨v,H1,I1,rv,q1⟩=>aF (ho pins s1 σ H1 _ I1 q1) λu s2 ⟨x,H2,I2,rx,q2⟩=>aF (hi pins s2 σ H2 _ I2 q2) λiv s3 ⟨y,H3,I3,ry,a,H4,ex,g,q3⟩=>?_) hs;subst ex;obtain rfl:u=Value.ref a:=rx;exact WY hu I3 g ry rv λs4 I4=>⟨σ,H4,I4,q3⟩
end
def Nb{P:Program}{w:World}{H:Hp}(h:Heap)(hb:sysModules < h.objs.size):az P w H (h.push {cls:= .type "dict",data:= .dict #[]}) h.objs.size (.dK []):=
 ⟨Bp _,beq_eq_false_iff_ne.mpr<|CG<|Bn hb,[],.nil,Heap.DictOf.new h⟩
def CM{P:Program}{w:World}{H:Hp}(h:Heap)(hb:sysModules < h.objs.size):az P w H (h.push {cls:= .type "dict",data:= .dict #[]}) h.objs.size (.dT []):=
 ⟨Bp _,beq_eq_false_iff_ne.mpr<|CG<|Bn hb,[],.nil,_,#[],0,Aq _ rfl,⟨rfl,rfl,rfl⟩,rfl,rfl,Cj⟩
def W8:TE:=λ_ H Q=>∀ p,H p=none->Q (.ref p) (upd H p<|.dK [])
def W9:TE:=λ_ H Q=>∀ p,H p=none->Q (.ref p) (upd H p<|.dT [])
section
variable{X:Cx}{pos:Pos}
def W':PE X (.Dict [] [] pos) W8:=λpins s σ H Q I h=>
 wpAny_Dict_empty ⟨.ref s.heap.objs.size,_,I.laid (a:=s.heap.objs.size) (o:= .dK []) (t':=s.toks) (λ_ _ q=>Ae _ q) (Am _)<|Nb s.heap I.big,rfl,h _<|I.aB.fresh<|Am _⟩
def Xa:PE X (.Dict [] [] pos) W9:=λpins s σ H Q I h=>
 wpAny_Dict_empty ⟨.ref s.heap.objs.size,_,I.laid (a:=s.heap.objs.size) (o:= .dT []) (t':=s.toks) (λ_ _ q=>Ae _ q) (Am _)<|CM s.heap I.big,rfl,h _<|I.aB.fresh<|Am _⟩
end
section
variable{X:Cx}{pins:List (Addr×Obj)}{σ:St}{H:Hp}{s:Shared}{a:Addr}{y d:V}{u r:Value}{o:Option V}{A:Around}{E:Value->Shared->Prop}
end
section
variable{X:Cx}{o e f:Expr}{apos dR:Pos}{td ty tx:TE}
end
section
variable{X:Cx}{pins:List (Addr×Obj)}{σ:St}{H:Hp}{s:Shared}{a:Addr}{kvs:List (Key×V)}{A:Around}{E:Value->Shared->Prop}
end
section
variable{X:Cx}{pins:List (Addr×Obj)}{σ:St}{H:Hp}{s:Shared}{a:Addr}{y:V}{u:Value}{A:Around}{E:Value->Shared->Prop}
end
section
variable{X:Cx}
end
section
variable{κ:Type} [DecidableEq κ]
def Nc{kvs:List (κ×V)}{k:κ}{v:V}(h:al kvs k=some v):k∈kvs.map (·.1):=by
 have q:(kvs.any λkv=>decide (kv.1=k))=true:=by
  rw [rB,h]
  all_goals rfl
 obtain⟨p,hp,e⟩:=List.any_eq_true.mp q;exact Aj.mpr ⟨p,hp,BX e⟩
theorem me:∀{l:List κ} {k:κ},l.Nodup->¬ k∈l->(l++[k]).Nodup
 | [],k,_,_=>by simp
 | a :: r,k,h,hk=>by
  obtain⟨h1,h2⟩:=Bi.mp h;show(a :: (r++[k])).Nodup;refine Bi.mpr ⟨λm=>?_,me h2 λm=>hk<|Al.mpr<|Or.inr m⟩
  rcases An.mp m with q | q
  ·exact h1 q
  ·exact hk<|Al.mpr<|Or.inl (Ag.mp q).symm
end
section
variable{X:Cx}{tg:Expr}
end
theorem Nf{env:Env}:∀{names:List (Str×NameKind)} {x:Str} {k':NameKind},
  (names.map λ(n,k)=>if(k == NameKind.free && env.scope.kind == .function && env.kindOf n == some .cell) then(n,NameKind.cell) else(n,k)).lookup x=some k' ->
  ∃ k,names.lookup x=some k/\(k'=k\/(k = .free/\k' = .cell))
 | [],_,_,h=>by simp at h
 | (n,k) :: r,x,k',h=>by
  have ih:=@Nf env r x k'
  change List.lookup x ((if(k == NameKind.free && env.scope.kind == .function && env.kindOf n == some .cell)=true then(n,NameKind.cell) else(n,k)) :: _)=_ at h
  cases hx:x == n with
  | true=>
   by_cases hc:(k == NameKind.free && env.scope.kind == .function && env.kindOf n == some .cell)=true
   ·rw [BL hc] at h;simp only [Di,hx] at h;cases h;have hk:k = .free:=by
     have:=(Bq _ _ ▸ (Bq _ _ ▸ hc).1).1;cases k <;> first | rfl | (exact absurd this<|by decide)
    exact⟨k,by simp [Di,hx],.inr ⟨hk,rfl⟩⟩
   ·rw [BK hc] at h;simp only [Di,hx] at h;cases h;exact⟨k,by simp [Di,hx],.inl rfl⟩
  | false=>
   have h2:∃ k,r.lookup x=some k/\(k'=k\/(k = .free/\k' = .cell)):=by
    by_cases hc:(k == NameKind.free && env.scope.kind == .function && env.kindOf n == some .cell)=true
    ·rw [BL hc] at h;simp only [Di,hx] at h;exact ih h
    ·rw [BK hc] at h;simp only [Di,hx] at h;exact ih h
   obtain⟨k2,e2,r2⟩:=h2;exact⟨k2,by simp [Di,hx,e2],r2⟩
def cF(names:List<|Str×NameKind)(cells:List<|Str×Addr)(acc:List<|Str×Addr):List (Str×Addr):=
 names.foldl (λa x=>if x.2 == .free then(match cells.lookup x.1 with | some c=>(x.1,c) :: a | none=>a) else a) acc
def rE{scope:Scope}{env:Env}(h:∀ x∈scope.names,x.2 = .free->∃ c,env.cells.lookup x.1=some c):closureFor scope env=pure (cF scope.names env.cells []):=by
 have all:∀(l:List<|Str×NameKind) (acc:List<|Str×Addr),(∀ x∈l,x.2 = .free->∃ c,env.cells.lookup x.1=some c) ->
   (forIn l acc λ(x:Str×NameKind) (cs:List<|Str×Addr)=>(if x.2 == .free then(do let c <- cellOf env x.1;pure (ForInStep.yield<|(x.1,c) :: cs)) else pure (ForInStep.yield cs):Sem _))=pure (cF l env.cells acc):=by
  intro l
  induction l with
  | nil=>intro acc _;rfl
  | cons x r ih=>
   intro acc hl;rw [Gc];have hr:∀ y∈r,y.2 = .free->∃ c,env.cells.lookup y.1=some c:=λy hy=>hl y<|Ak _ hy;cases hk:x.2 == .free with
   | true=>
    have Xb:x.2 = .free:=by
     revert hk
     cases x.2 <;> intro hk <;> first | rfl | (exact absurd hk<|by decide)
    obtain⟨c,hc⟩:=hl x Ah Xb;simp only [DN,cellOf,hc];rw [show cF (x :: r) env.cells acc=cF r env.cells ((x.1,c) :: acc) by unfold cF;rw [Dz];simp [hk,hc]];exact ih _ hr
   | false=>
    simp only [Bu,DQ];rw [show cF (x :: r) env.cells acc=cF r env.cells acc by unfold cF;rw [Dz];simp [hk]];exact ih _ hr
 have q:=all scope.names [] h;simp only [closureFor];exact(BZ (· >>= λr=>pure r) q).trans rfl
theorem CO:∀(names:List<|Str×NameKind) (cells acc:List<|Str×Addr),(∀ x c,(x,c)∈acc->cells.lookup x=some c)->∀ x c,(x,c)∈cF names cells acc->cells.lookup x=some c
 | [],_,_,h=>h
 | y :: r,cells,acc,h=>by
  have e:cF (y :: r) cells acc=cF r cells (if y.2 == .free then(match cells.lookup y.1 with | some c=>(y.1,c) :: acc | none=>acc) else acc):=rfl;rw [e];refine CO r cells _ ?_;cases hk:y.2 == .free with
  | false=>simpa using h
  | true=>
   cases hc:cells.lookup y.1 with
   | none=>simpa using h
   | some c=>
    intro x d hx;simp only [DN] at hx
    rcases Al.mp hx with e | hx
    ·cases e;exact hc
    ·exact h x d hx
theorem Ng:∀(names:List<|Str×NameKind) (cells acc:List<|Str×Addr) (x:Str) (c:Addr),(x,c)∈acc->(x,c)∈cF names cells acc
 | [],_,_,_,_,h=>h
 | y :: r,cells,acc,x,c,h=>by
  have e:cF (y :: r) cells acc=cF r cells (if y.2 == .free then(match cells.lookup y.1 with | some c=>(y.1,c) :: acc | none=>acc) else acc):=rfl;rw [e];refine Ng r cells _ x c ?_;cases hk:y.2 == .free with
  | false=>simpa using h
  | true=>
   cases hc:cells.lookup y.1 with
   | none=>simpa using h
   | some d=>simp only [DN];exact Ak _ h
theorem CU:∀(names:List<|Str×NameKind) (cells acc:List<|Str×Addr) (x:Str) (c:Addr),(x,NameKind.free)∈names->cells.lookup x=some c->(x,c)∈cF names cells acc
 | [],_,_,_,_,h,_=>by cases h
 | y :: r,cells,acc,x,c,h,hc=>by
  have e:cF (y :: r) cells acc=cF r cells (if y.2 == .free then(match cells.lookup y.1 with | some c=>(y.1,c) :: acc | none=>acc) else acc):=rfl;rw [e]
  rcases Al.mp h with e2 | h
  ·subst e2;refine Ng r cells _ x c ?_;have:(NameKind.free == NameKind.free)=true:=rfl;simp only [hc,this,DN];exact Ah
  ·exact CU r cells _ x c h hc
theorem CY{α:Type}:∀{l:List (Str×α)} {x:Str} {c:α},(x,c)∈l->∃ d,l.lookup x=some d
 | [],_,_,h=>by cases h
 | (n,d) :: r,x,c,h=>by
  cases hx:x == n with
  | true=>exact⟨d,by simp [Di,hx]⟩
  | false=>
   rcases Al.mp h with e | h
   ·cases e;simp at hx
   ·obtain⟨d',e⟩:=CY h;exact⟨d',by simp [Di,hx,e]⟩
section
variable{prog:Program}{w:World}{A:Around}{R:Result->Shared->Prop}{s:Shared}
theorem k0z{elt target iter:Expr}{ifs:List Expr}{scope:Scope}{pos:Pos}{it acc:Value}{env:Env}(I:Nat->Shared->Prop)
  (turn : ∀ n s, I n s → wpAny (model prog w) A (pyNext it) (λr s₁ => match r with
   | none=>R (.ok .next) s₁
   | some v=>wpAny (model prog w) A (letOwnedTupleGo target it v) (λ_ s₁'=>wpAny (model prog w) A (assign target env v) (λ_ s₂=>
     wpAny (model prog w) A (forIn ifs true λc r=>if r=true then do let ok <- isTrue c env<|eval c env;pure (ForInStep.yield ok) else pure (ForInStep.yield r)) (λok s₃=>
      if ok=true then wpAny (model prog w) A (eval elt env) (λx s₄=>
       wpAny (model prog w) A (call (.builtin "list.append") [acc,x]) (λ_ s₅=>∃ m,m < n/\I m s₅) (notedBy (model prog w) A env λe s'=>R (.error e) s') s₄) (notedBy (model prog w) A env λe s'=>R (.error e) s') s₃
      else ∃ m,m < n/\I m s₃) (notedBy (model prog w) A env λe s'=>R (.error e) s') s₂) (notedBy (model prog w) A env λe s'=>R (.error e) s') s₁') (notedBy (model prog w) A env λe s'=>R (.error e) s') s₁) (notedBy (model prog w) A env λe s'=>R (.error e) s') s)
  (n:Nat) (h:I n s) :
  codeAny (model prog w) A (.compLoop (.ListComp elt [⟨target,iter,ifs,0⟩] scope pos) 0 it acc env) R s:=by
 refine codeAny_loop rfl I (λn s hI=>?_) n h;show wpAny _ A ((compTurn (.ListComp elt [⟨target,iter,ifs,0⟩] scope pos) 0 it acc env).onRaise λx=>do noteFrame x env;theTreesLotGoes x) _ _ s;refine wpAny_noted ?_;rw [compTurn_list];refine BJ<|EY<|BJ<|CK (turn n s hI) (λr s₁ h₁=>?_) λ_ _ h'=>h';cases r with
 | none=>exact BP h₁
 | some v=>
  refine BJ<|CK h₁ (λ_ s₁' h₁'=>?_) λ_ _ h'=>h';refine BJ<|CK h₁' (λ_ s₂ h₂=>BJ<|CK h₂ (λok s₃ h₃=>?_) λ_ _ h'=>h') λ_ _ h'=>h';cases ok with
  | false=>exact BP ⟨rfl,h₃⟩
  | true=>
   exact BJ<|BJ<|CK h₃ (λx s₄ h₄=>BJ<|CK h₄ (λ_ s₅ h₅=>BP<|BP ⟨rfl,h₅⟩) λ_ _ h'=>h') λ_ _ h'=>h'
end
def Nh(X:Cx)(ifs:List Expr)(t:TT):Prop:=
 ∀(pins:List<|Addr×Obj) (s:Shared) (σ:St) (H:Hp) (Q:Bool->Hp->Prop),Inv X pins σ H s->t σ H Q ->
  wpAny (model X.prog X.w) X.A (forIn ifs true λc r=>if r=true then do let ok <- isTrue c X.env<|eval c X.env;pure (ForInStep.yield ok) else pure (ForInStep.yield r)) (TP X pins σ Q) X.xe s
def C0:TT:=λ_ H Q=>Q true H
def Xc{X:Cx}:Nh X [] C0:=λ_ _ _ H _ I h=>wpAny_tests_nil ⟨H,I,h⟩
def Xd{X:Cx}{c:Expr}{t:TT}(h:PT X c t):Nh X [c] t:=λpins s σ H Q I hq=>wpAny_tests_one<|h pins s σ H Q I hq
def fO(X:Cx)(N':List Str)(scope:Scope)(cl:List<|Str×Addr)(C:Addr)(s₀:Shared)(H₀:Hp)(ex:List Addr):Cx:=
 {prog:=X.prog,w:=X.w,K:=X.K,mg:=X.mg,base:=X.base,A:=X.A,N:=N',s₀:=s₀,H₀:=H₀,env:=compEnvC scope cl C X.env,outer:=X.stack,stack:=X.stack,ex:=ex,fn:=λx=>match scope.names.lookup x with | some .cell=>true | _=>false,calm:=X.calm,pn:=[],xe:=λ_ _=>False}
def i6{α:Type}{t:Sem α}{Q Q':α->Shared->Prop}{M:Model}{A:Around}{E:Value->Shared->Prop}{s:Shared}(h:wpAny M A t Q (λ_ _=>False) s)(hQ:∀ a s,Q a s->Q' a s):wpAny M A t Q' E s:=CK h hQ λ_ _ z=>z.elim
section
variable{X:Cx}
def C1:fv X (.builtin "isinstance") (λxs H Q=>∃ x t T b,xs=[x,.ty T]/\cZ X.K H x t/\PySem.W.kitOne X.K t (.type T)=some b/\Q (.bl b) H):=by
 intro pins s σ H xs us Q I r h;obtain⟨x,t,T,b,rfl,ty,e,q⟩:=h;obtain⟨u,w',rfl,ru,dJ⟩:=vals2 r;cases (show w'=Value.type T from dJ);exact V8 I ru ty e λtk=>⟨.bl b,H,I.tok tk,rfl,q⟩
def Xe:cC X (binaryOp .Mult) (λx y H Q=>∃ z i,x = .str z/\y = .int i/\0<=i/\i<=100000/\z.length * i.toNat<=100000/\Q (.str<|Txt.mul z i) H):=by
 intro pins s σ H x y v u Q I rx ry h;obtain⟨z,i,rfl,rfl,h0,h1,h2,q⟩:=h;obtain⟨t,rfl⟩:=rx;obtain⟨t',rfl⟩:=ry;have hsz:sizeLine=16777216:=DY;refine SB.mul ⟨?_,λh3 h4=>?_,λh3 h4=>?_⟩ λt' k=>⟨.str _,H,I.tok k,⟨_,rfl⟩,q⟩
 ·rw [BR (by omega),BR<|by omega];rfl
 ·have h5:(z.length:Int)<=100000:=by
   have h6:z.length * 1<=z.length * i.toNat:=Nat.mul_le_mul_left _ (by omega);omega
  have h7:(100000:Int)<=(2 ^ 63 - 1) / i:=by
   rw [Int.le_ediv_iff_mul_le<|by omega];have:(100000:Int) * i<=100000 * 100000:=Int.mul_le_mul_of_nonneg_left h1 (by decide);have e:(2:Int) ^ 63 - 1=9223372036854775807:=by decide
   omega
  omega
 ·unfold Builtin.Str.tooLong;rw [hsz];exact BR<|by omega
end
def isStar:Expr->Bool
 | .Starred _ _=>true
 | _=>false
def noStar(es:List Expr):Bool:=es.all λe=>!isStar e
def pG(e:Expr)(es:List Expr)(env:Env)(h:isStar e=false):starEach (e :: es) env=(false,eval e env) :: starEach es env:=by
 cases e <;> first | rfl | (exact absurd h<|by simp [isStar])
theorem x9(pos:Pos)(env:Env):∀ es:List Expr,noStar es=true->(backTo pos<|starEach es env).any (·.1)=false
 | [],_=>rfl
 | e :: es,h=>by
  have h':(!isStar e)=true/\noStar es=true:=by
   have:=h;unfold noStar at this ⊢;rw [Gf,Bq] at this;exact this
  have hs:isStar e=false:=by
   have:=h'.1;cases q:isStar e with
   | true=>rw [q] at this;cases this
   | false=>rfl
  rw [pG e es env hs];show(false || (backTo pos<|starEach es env).any (·.1))=false;rw [x9 pos env es h'.2];rfl
theorem rF{e:Expr}{es:List Expr}(h:noStar (e :: es)=true):isStar e=false/\noStar es=true:=by
 unfold noStar at h ⊢;rw [Gf,Bq] at h;refine⟨?_,h.2⟩;cases q:isStar e with
 | true=>rw [q] at h;cases h.1
 | false=>rfl
section
variable{X:Cx}{CX:fN}{k:Nat}{f C:Addr}{fd:FuncData}{ps:List Str}{sp:Sp}{lW:List V}{ds:List Value}{E:XK}{x m:Str}{p pos apos:Pos}{e o:Expr}{es:List Expr}{ta te:TE}{t:TA}{id T:String}{r:List V->Hp->VK->Prop}
def Xf(ha:PE X e te)(hr:PA X es t)(hs:isStar e=false:=by rfl):PA X (e :: es) (Mz te t):=V' ha hr<|pG _ _ _ hs
def Xg(F:aC X.prog X.w X.K X.mg X.base CX k f fd ps sp)(hr:bo k X.A)(hm:X.mg x=some (.ref f))(hk:PySem.W.keepIn X.K (.ref f)=true)(hb:Binds X.K fd ps [])(hx:rA CX X E)
  (ha:PA X (e :: es) t) (hg:Gl X x:=by rfl) (cP:(x == ("__debug__" : Str))=false:=by decide) (hs:noStar (e :: es)=true:=by rfl):PE X (.Call (.Name x p) (e :: es) [] pos) (MB sp [] E t):=
 Wf F hr hg hm hk hb .nil hx ha cP (pG _ _ _ (rF hs).1) (x9 _ _ _ (rF hs).2)
def C2(hc:fv X (.builtin id) r)(hm:X.mg x=none)(hv:bootBuiltins x=some (.builtin id))(ha:PA X (e :: es) t)(hg:Gl X x:=by rfl)(hn:x ≠ "__name__":=by decide)(cP:(x == ("__debug__" : Str))=false:=by decide)
  (hs:noStar (e :: es)=true:=by rfl):PE X (.Call (.Name x p) (e :: es) [] pos) (x4 r t):=
 Wi hc hg hm hv ha hn cP (pG _ _ _ (rF hs).1) (x9 _ _ _ (rF hs).2)
def C3(hc:fv X (.type T) r)(hm:X.mg x=none)(hv:bootBuiltins x=some (.type T))(ha:PA X (e :: es) t)(hg:Gl X x:=by rfl)(hn:x ≠ "__name__":=by decide)(cP:(x == ("__debug__" : Str))=false:=by decide)
  (hs:noStar (e :: es)=true:=by rfl):PE X (.Call (.Name x p) (e :: es) [] pos) (x4 r t):=
 Wj hc hg hm hv ha hn cP (pG _ _ _ (rF hs).1) (x9 _ _ _ (rF hs).2)
end
structure Ev(X:Cx)(e:Expr)(σ:St)(H:Hp)(Q:VK):Prop where
 run:∀(pins:List<|Addr×Obj) (s:Shared),Inv X pins σ H s->wpAny (model X.prog X.w) X.A (eval e X.env) (EP X pins σ Q) X.xe s
structure Et(X:Cx)(e:Expr)(σ:St)(H:Hp)(Q:Bool->Hp->Prop):Prop where
 run:∀(pins:List<|Addr×Obj) (s:Shared),Inv X pins σ H s->wpAny (model X.prog X.w) X.A (isTrue e X.env<|eval e X.env) (TP X pins σ Q) X.xe s
structure Ew(X:Cx)(e:Expr)(σ:St)(H:Hp)(Q:Bool->Hp->Prop):Prop where
 run:∀(whole:Sem Value) (pins:List<|Addr×Obj) (s:Shared),Inv X pins σ H s->wpAny (model X.prog X.w) X.A (isTrue e X.env whole) (TP X pins σ Q) X.xe s
structure Ea(X:Cx)(es:List Expr)(σ:St)(H:Hp)(Q:List V->Hp->Prop):Prop where
 run:∀(pos:Pos) (pins:List<|Addr×Obj) (s:Shared),Inv X pins σ H s->wpAny (model X.prog X.w) X.A (spliced<|backTo pos<|starEach es X.env) (AP X pins σ Q) X.xe s
structure Eo(X:Cx)(e:Option Expr)(σ:St)(H:Hp)(Q:Option Int->Hp->Prop):Prop where
 run:∀(pins:List<|Addr×Obj) (s:Shared),Inv X pins σ H s->wpAny (model X.prog X.w) X.A (evalPart e X.env) (λu s'=>∃ o H',Inv X pins σ H' s'/\IsPart u o/\Q o H') X.xe s
structure Eg(X:Cx)(e:Expr)(v:V)(σ:St)(H:Hp)(Q:St->Hp->Prop):Prop where
 run:∀(pins:List<|Addr×Obj) (s:Shared) (u:Value),Inv X pins σ H s->RelV v u->wpAny (model X.prog X.w) X.A (assign e X.env u) (λ_ s'=>∃ σ' H',Inv X pins σ' H' s'/\Q σ' H') X.xe s
structure Run(X:Cx)(l:List Stmt)(D:Ends)(σ:St)(H:Hp):Prop where
 run:∀(pins:List<|Addr×Obj) (s:Shared),Inv X pins σ H s->wpAny (model X.prog X.w) X.A (execs l X.env) (SP X pins D) X.xe s
def Xh(X:Cx)(e:Expr):TE:=λσ H Q=>Ev X e σ H Q
def Xi(X:Cx)(e:Expr):TT:=λσ H Q=>Et X e σ H Q
def Xj(X:Cx)(e:Expr):TT:=λσ H Q=>Ew X e σ H Q
def ut(X:Cx)(es:List Expr):TA:=λσ H Q=>Ea X es σ H Q
def Xk(X:Cx)(e:Option Expr):TO:=λσ H Q=>Eo X e σ H Q
def Xl(X:Cx)(e:Expr):TG:=λv σ H Q=>Eg X e v σ H Q
def C4(X:Cx)(l:List Stmt):TS:=λD σ H=>Run X l D σ H
section
variable{X:Cx}{e a b c o:Expr}{es:List Expr}{st:Stmt}{rest body lg:List Stmt}{σ:St}{H:Hp}{Q:VK}{T:Bool->Hp->Prop}{L:List V->Hp->Prop}{D:Ends}{pos p p2:Pos}
def bf:PE X e (Xh X e):=λpins s _ _ _ I h=>h.run pins s I
def mh:PT X e (Xi X e):=λpins s _ _ _ I h=>h.run pins s I
def Ni:PW X e (Xj X e):=λwh pins s _ _ _ I h=>h.run wh pins s I
def gn:PA X es (ut X es):=λpos pins s _ _ _ I h=>h.run pos pins s I
def Nj{e:Option Expr}:PO X e (Xk X e):=λpins s _ _ _ I h=>h.run pins s I
def pH:PG X e (Xl X e):=λpins s _ _ _ u _ I r h=>h.run pins s u I r
def nR{l:List Stmt}:iX X l (C4 X l):=λpins s _ _ _ I h=>h.run pins s I
def cW{t:TE}(h1:PE X e t)(h2:t σ H Q):Ev X e σ H Q:=⟨λpins s I=>h1 pins s σ H Q I h2⟩
def rG{t:TT}(h1:PT X e t)(h2:t σ H T):Et X e σ H T:=⟨λpins s I=>h1 pins s σ H T I h2⟩
def ya{t:TT}(h1:PW X e t)(h2:t σ H T):Ew X e σ H T:=⟨λwh pins s I=>h1 wh pins s σ H T I h2⟩
def Nk{t:TA}(h1:PA X es t)(h2:t σ H L):Ea X es σ H L:=⟨λpos pins s I=>h1 pos pins s σ H L I h2⟩
def Nm{e:Option Expr}{t:TO}{R:Option Int->Hp->Prop}(h1:PO X e t)(h2:t σ H R):Eo X e σ H R:=⟨λpins s I=>h1 pins s σ H R I h2⟩
def C5{t:TG}{v:V}{R:St->Hp->Prop}(h1:PG X e t)(h2:t v σ H R):Eg X e v σ H R:=⟨λpins s u I r=>h1 pins s σ H v u R I r h2⟩
def ju{t:TS}(h1:PS X st t)(h2:t {D with nx:=λσ' H'=>Run X rest D σ' H'} σ H):Run X (st :: rest) D σ H:=⟨λpins s I=>Vo h1 nR pins s σ H D I h2⟩
def a7(h:D.nx σ H):Run X [] D σ H:=⟨λpins s I=>Md pins s σ H D I h⟩
def Ev.mono{Q':VK}(h:Ev X e σ H Q)(f:∀ v H',Q v H'->Q' v H'):Ev X e σ H Q':=⟨λpins s I=>aF (h.run pins s I) λ_ _ ⟨v,H',I',r,q⟩=>⟨v,H',I',r,f v H' q⟩⟩
def Et.mono{T':Bool->Hp->Prop}(h:Et X e σ H T)(f:∀ v H',T v H'->T' v H'):Et X e σ H T':=⟨λpins s I=>aF (h.run pins s I) λv _ ⟨H',I',q⟩=>⟨H',I',f v H' q⟩⟩
def Ea.mono{L':List V->Hp->Prop}(h:Ea X es σ H L)(f:∀ v H',L v H'->L' v H'):Ea X es σ H L':=⟨λpos pins s I=>aF (h.run pos pins s I) λ_ _ ⟨v,H',I',r,q⟩=>⟨v,H',I',r,f v H' q⟩⟩
def ae(i:Nat){x:Str}{v:V}(h:Q v H)(hv:σ[i]?=some (some v):=by rfl)(hN:X.N[i]?=some x:=by rfl)(hs:AV X.env.scope x:=by first | exact Or.inl rfl | exact Or.inr (Or.inl rfl) | exact Or.inr<|Or.inr rfl)(hd:(x == ("__debug__" : Str))=false:=by decide)
  (iw:(x == ("__classdict__" : Str))=false:=by decide):Ev X (.Name x p) σ H Q:=cW (U3 (i:=i) hN hs hd iw) ⟨v,hv,h⟩
def aD{i:Int}{j:Nat}(h:Q (.int i) H):Ev X (.Constant (.int i) j p) σ H Q:=cW (U4) h
def pI{i:Bool}{j:Nat}(h:Q (.bl i) H):Ev X (.Constant (.bool i) j p) σ H Q:=cW (U5) h
def mj{j:Nat}(h:Q .non H):Ev X (.Constant .none j p) σ H Q:=cW (U6) h
def C6{i:Str}{j:Nat}(h:Q (.str i) H):Ev X (.Constant (.str i) j p) σ H Q:=cW (U7) h
def C7{x:Str}{v:V}{u:Value}(hm:X.mg x=some u)(r:RelV v u)(h:Q v H)(hg:Gl X x:=by rfl)(hd:(x == ("__debug__" : Str))=false:=by decide):Ev X (.Name x p) σ H Q:=cW (U8 hg hm r hd) h
def yb{x:Str}(v:V){u:Value}(hm:X.mg x=none)(hv:bootBuiltins x=some u)(r:RelV v u)(h:Q v H)(hg:Gl X x:=by rfl)(hn:x ≠ "__name__":=by decide)(hd:(x == ("__debug__" : Str))=false:=by decide):Ev X (.Name x p) σ H Q:=cW (U9 hg hm hv r hn hd) h
def aY{op:Operator}{r:R2}(ho:cC X (binaryOp op) r)(h:Ev X a σ H λx H1=>Ev X b σ H1 λy H2=>r x y H2 Q):Ev X (.BinOp a op b pos) σ H Q:=cW (VO ho bf bf) h
def Nn{op:UnaryOp}{r:V->Hp->VK->Prop}(ho:xW X (unaryOp op) r)(h:Ev X a σ H λx H1=>r x H1 Q):Ev X (.UnaryOp op a pos) σ H Q:=cW (VP ho bf) h
def gY{op:CmpOp}{r:R2}(ho:cC X (compareOp op) r)(h:Ev X a σ H λx H1=>Ev X b σ H1 λy H2=>r x y H2 Q)(hm:behindInMarks op b=false:=by with_unfolding_all rfl):Ev X (.Compare a [op] [b] pos) σ H Q:=cW (V0 ho bf bf hm) h
def Xm(h:Ev X a σ H λx H1=>∃ k,x = .bl k/\Q (.bl (!k)) H1):Ev X (.UnaryOp .Not a pos) σ H Q:=cW (Vk bf) h
def C8(h:Ev X a σ H λx H1=>∃ k,x = .bl k/\if k=true then Ev X (.BoolOp .And (b :: es) pos) σ H1 Q else Q (.bl false) H1):Ev X (.BoolOp .And (a :: b :: es) pos) σ H Q:=cW (Vj bf bf) h
def Np{op:BoolOp}(h:Ev X a σ H Q):Ev X (.BoolOp op [a] pos) σ H Q:=cW (Vi bf) h
def Xn(h:Et X c σ H λk H1=>if k=true then Ev X a σ H1 Q else Ev X b σ H1 Q):Ev X (.IfExp c a b pos) σ H Q:=cW (Vm mh bf bf) h
def aZ{r:R2}(hr:ud X r)(h:Ev X a σ H λx H1=>Ev X b σ H1 λy H2=>r x y H2 Q)(hs:MM b:=by intro _ _;rfl):Ev X (.Subscript a b pos) σ H Q:=cW (Wt hr bf bf hs) h
def Nq{r:V->Option Int->Option Int->Hp->VK->Prop}{lo hi:Option Expr}(hr:BV X r)(h:Ev X a σ H λx H1=>Eo X lo σ H1 λl H2=>Eo X hi σ H2 λu H3=>r x l u H3 Q):Ev X (.Subscript a (.Slice lo hi none p2) pos) σ H Q:=cW (Wp hr bf Nj Nj) h
def Nr{R:Option Int->Hp->Prop}(h:R none H):Eo X none σ H R:=Nm (Wm) h
def Nu{R:Option Int->Hp->Prop}(h:Ev X a σ H λx H1=>∃ i,x = .int i/\R (some i) H1):Eo X (some a) σ H R:=Nm (Wn bf) h
def aA(h:L [] H):Ea X [] σ H L:=Nk (V9) h
def aj(h:Ev X e σ H λx H1=>Ea X es σ H1 λxs H2=>L (x :: xs) H2)(hs:isStar e=false:=by rfl):Ea X (e :: es) σ H L:=Nk (Xf bf gn hs) h
def eC{k:Nat}(h:Ea X es σ H λxs H1=>xs.length<=sizeLine/\∀ p,H1 p=none->Q (.ref p) (upd H1 p<|.tup xs)):Ev X (.Tuple es k pos) σ H Q:=cW (Wa gn) h
def dU(h:Ea X es σ H λxs H1=>xs.length<=sizeLine/\∀ p,H1 p=none->Q (.ref p) (upd H1 p<|.lst xs)):Ev X (.List es pos) σ H Q:=cW (Wb gn) h
def Nv{CX:fN}{k:Nat}{f:Addr}{fd:FuncData}{ps:List Str}{sp:Sp}{E:XK}{x:Str}(F:aC X.prog X.w X.K X.mg X.base CX k f fd ps sp)(hr:bo k X.A)(hm:X.mg x=some (.ref f))(hk:PySem.W.keepIn X.K (.ref f)=true)(hb:Binds X.K fd ps [])(hx:rA CX X E)
  (h:Ea X (e :: es) σ H λvs H1=>sp vs H1 Q E) (hg:Gl X x:=by rfl) (cP:(x == ("__debug__" : Str))=false:=by decide) (hs:noStar (e :: es)=true:=by rfl):Ev X (.Call (.Name x p) (e :: es) [] pos) σ H Q:=
 cW (Xg F hr hm hk hb hx gn hg cP hs) (show Ea X (e :: es) σ H _ from h.mono λvs H1 q=>by rw [Ba];exact q)
def bX{id:String}{r:List V->Hp->VK->Prop}{x:Str}(hc:fv X (.builtin id) r)(hm:X.mg x=none)(hv:bootBuiltins x=some (.builtin id))(h:Ea X (e :: es) σ H λvs H1=>r vs H1 Q)(hg:Gl X x:=by rfl)(hn:x ≠ "__name__":=by decide)(cP:(x == ("__debug__" : Str))=false:=by decide)
  (hs:noStar (e :: es)=true:=by rfl):Ev X (.Call (.Name x p) (e :: es) [] pos) σ H Q:=cW (C2 hc hm hv gn hg hn cP hs) h
def rH{T:String}{r:List V->Hp->VK->Prop}{x:Str}(hc:fv X (.type T) r)(hm:X.mg x=none)(hv:bootBuiltins x=some (.type T))(h:Ea X (e :: es) σ H λvs H1=>r vs H1 Q)(hg:Gl X x:=by rfl)(hn:x ≠ "__name__":=by decide)(cP:(x == ("__debug__" : Str))=false:=by decide)
  (hs:noStar (e :: es)=true:=by rfl):Ev X (.Call (.Name x p) (e :: es) [] pos) σ H Q:=cW (C3 hc hm hv gn hg hn cP hs) h
def cz{op:CmpOp}{r:R2}(ho:cC X (compareOp op) r)(h:Ev X a σ H λx H1=>Ev X b σ H1 λy H2=>r x y H2 λz H3=>∃ k,z = .bl k/\T k H3)(hm:behindInMarks op b=false:=by with_unfolding_all rfl):Et X (.Compare a [op] [b] pos) σ H T:=rG (V2 ho bf bf hm) h
def rJ(h:Et X a σ H λk H1=>T (!k) H1):Et X (.UnaryOp .Not a pos) σ H T:=rG (Vf mh) h
def lh(h:Ev X e σ H λx H1=>∃ k,x = .bl k/\T k H1)(he:∀ whole,isTrue e X.env whole=(do let v <- whole;standAt e.pos;holding [v] (truthy v)):=by intro _;rfl):Et X e σ H T:=rG (U' bf he) h
def Nw(h:Ev X e σ H λx H1=>∃ k,lU X.K x H1 k/\T k H1)(he:∀ whole,isTrue e X.env whole=(do let v <- whole;standAt e.pos;holding [v] (truthy v)):=by intro _;rfl):Et X e σ H T:=rG (V4 bf he) h
def nS(h:Ew X e σ H T):Et X e σ H T:=⟨λpins s I=>h.run _ pins s I⟩
def yc(h:Et X a σ H λk H1=>if k=true then Ew X (.BoolOp .And (b :: es) pos) σ H1 T else T false H1):Ew X (.BoolOp .And (a :: b :: es) pos) σ H T:=ya (Vd mh Ni) h
def rK(h:Et X a σ H λk H1=>if k=true then T true H1 else Ew X (.BoolOp .Or (b :: es) pos) σ H1 T):Ew X (.BoolOp .Or (a :: b :: es) pos) σ H T:=ya (Ve mh Ni) h
def yd(h:Et X a σ H T):Ew X (.BoolOp .And [a] pos) σ H T:=ya (Vb mh) h
def ye(h:Et X a σ H T):Ew X (.BoolOp .Or [a] pos) σ H T:=ya (Vc mh) h
def aW(i:Nat){x:Str}{v:V}{R:St->Hp->Prop}(hN:X.N.Nodup)(h:R (σ.set i<|some v) H)(hi:X.N[i]?=some x:=by rfl)(hx:Loc X.env.scope x:=by first | exact Or.inl rfl | exact Or.inr rfl)(hf:X.fn x=true\/X.env.scope.names.lookup x=some .local:=by first | exact .inl rfl | exact .inr rfl | assumption):Eg X (.Name x p) v σ H R:=C5 (Vt hN hi hx hf) h
def aT(i:Nat){x:Str}{pos':Pos}(hN:X.N.Nodup)(h:Ev X e σ H λv H1=>Run X rest D (σ.set i<|some v) H1)(hi:X.N[i]?=some x:=by rfl)(hx:Loc X.env.scope x:=by first | exact Or.inl rfl | exact Or.inr rfl)(hs:swapsWith e (some<|.Name x pos') pos.line X.env=pure false:=by rfl)
  (hf:X.fn x=true\/X.env.scope.names.lookup x=some .local:=by first | exact .inl rfl | exact .inr rfl | assumption):Run X (.Assign [.Name x pos'] e pos :: rest) D σ H:=ju (Vv hN hi hx bf hs hf) h
def gM(h:Et X c σ H λk H1=>if k=true then Run X body {D with nx:=λσ' H'=>Run X rest D σ' H'} σ H1 else Run X lg {D with nx:=λσ' H'=>Run X rest D σ' H'} σ H1):Run X (.If c body lg pos :: rest) D σ H:=ju (Vs mh nR nR) h
def yf(φ ψ:Prop)(hc:∀ T:Bool->Hp->Prop,(∀ k:Bool,(k=true->φ)->(k=false->ψ)->T k H)->Et X c σ H T)(ht:φ->Run X body {D with nx:=λσ' H'=>Run X rest D σ' H'} σ H)(hu:ψ->Run X lg {D with nx:=λσ' H'=>Run X rest D σ' H'} σ H):Run X (.If c body lg pos :: rest) D σ H:=
 gM (hc _ λk p q=>by
  cases k with
  | true=>rw [BL rfl];exact ht<|p rfl
  | false=>rw [BK Av];exact hu<|q rfl)
def bL(h:Ev X e σ H D.rt):Run X (.Return (some e) pos :: rest) D σ H:=ju (Vr bf) h
def g5(h:Ev X e σ H λ_ H1=>Run X rest D σ H1)(hs:swapsWith e none pos.line X.env=pure false:=by rfl):Run X (.Expr e pos :: rest) D σ H:=ju (Vq bf hs) h
def yg{tg:Expr}(h:Ev X e σ H λv H1=>Eg X tg v σ H1 λσ' H'=>Run X rest D σ' H')(hs:swapsWithSole [tg] e pos.line X.env=pure false:=by rfl)(hw:swappedStores [tg] e X.env=pure none:=by rfl)
  (h1:(assignEach [tg] X.env).map (·.2)=[assign tg X.env]:=by rfl):Run X (.Assign [tg] e pos :: rest) D σ H:=ju (Vu bf pH hs hw h1) h
def Loop(X:Cx)(tg:Expr)(body:List Stmt)(J:It)(D:Ends)(after:St->Hp->Prop)(σ:St)(H:Hp):Prop:=
 ∃ W:Nat->Nat->St->Hp->Prop,(∃ m,W 0 m σ H)/\∀ i m σ H,W i m σ H->(J.stop i H/\after σ H)\/(J.go i H/\∃ N:St->Hp->Prop,(∀ σ' H',N σ' H'->∃ m',m' < m/\W (i+1) m' σ' H') /\
  ∀ x H',J.tX i H x H'->Eg X tg x σ H' λσ2 H2=>Run X body {D with nx:=N,ct:=N,bk:=after} σ2 H2)
def rL{tg iter:Expr}{wi:TI}(hi:PI X tg iter wi)(h:wi σ H λJ H1=>Loop X tg body J D (λσ' H'=>Run X rest D σ' H') σ H1)(hp:PassesOwn (model X.prog X.w) X.A X.env X.xe:=by exact JN)(hc:X.calm=true:=by rfl)
  (hs:∀ x,foldedSetIterable iter X.env x=pure x:=by intro _;rfl):Run X (.For tg iter body [] pos :: rest) D σ H:=ju (VJ hp hc hi pH nR hs) h
def mq{tg:Expr}{q:Pos}(hm:X.mg "range" = none)(h:Ev X a σ H λx H1=>∃ j:Int,x = .int j/\-(2 ^ 62)<=j/\j < 2 ^ 62/\Loop X tg body (rz 0 j.toNat) D (λσ' H'=>Run X rest D σ' H') σ H1)(hg:Gl X "range":=by rfl)(hp:PassesOwn (model X.prog X.w) X.A X.env X.xe:=by exact JN)(hc:X.calm=true:=by rfl)(hs:isStar a=false:=by rfl) :
  Run X (.For tg (.Call (.Name "range" q) [a] [] p) body [] pos :: rest) D σ H:=
 rL (wi:=Mj<|ut X [a]) (xU hg hm gn<|pG a [] _ hs) (show Ea X [a] σ H _ from aj (h.mono λx H1 ⟨j,e,h1,h2,h3⟩=>aA ⟨j,by rw [e],h1,h2,h3⟩) hs) hp hc (by intro _;rfl)
def Xp{tg iter:Expr}(h:Ev X iter σ H λx H1=>∃ a,x = .ref a/\(∃ xs,aM X.K H1 a xs)/\Loop X tg body (xT X.K a) D (λσ' H'=>Run X rest D σ' H') σ H1)(hp:PassesOwn (model X.prog X.w) X.A X.env X.xe:=by exact JN)(hc:X.calm=true:=by rfl)
  (hs:∀ x,foldedSetIterable iter X.env x=pure x:=by intro _;rfl):Run X (.For tg iter body [] pos :: rest) D σ H:=rL (VG bf) h hp hc hs
def jU{tg iter:Expr}(h:Ev X iter σ H λx H1=>∃ a,x = .ref a/\(∃ xs,ai X.K H1 a xs)/\Loop X tg body (pq X.K a) D (λσ' H'=>Run X rest D σ' H') σ H1)(hp:PassesOwn (model X.prog X.w) X.A X.env X.xe:=by exact JN)(hc:X.calm=true:=by rfl)
  (hs:∀ x,foldedSetIterable iter X.env x=pure x:=by intro _;rfl):Run X (.For tg iter body [] pos :: rest) D σ H:=rL (eg bf) h hp hc hs
def mr{tg:Expr}{lo:Int}{n:Nat}{after:St->Hp->Prop}(Pv:Nat->St->Hp->Prop)(h0:Pv 0 σ H)
  (hs:∀ i σ H,i < n->Pv i σ H->Eg X tg (.int<|lo+i) σ H λσ2 H2=>Run X body {D with nx:=Pv<|i+1,ct:=Pv<|i+1,bk:=after} σ2 H2) (hd:∀ σ H,Pv n σ H->after σ H):Loop X tg body (rz lo n) D after σ H:=by
 refine⟨λi m σ H=>m=n - i/\i<=n/\Pv i σ H,⟨n,by simp,Bp _,h0⟩,?_⟩;rintro i m σ H ⟨rfl,hi,p⟩
 by_cases aX:i < n
 ·refine .inr ⟨aX,Pv<|i+1,λσ' H' p'=>⟨n - (i+1),by omega,rfl,aX,p'⟩,λx H' y=>?_⟩;obtain⟨e,y⟩:=y;subst e y;exact hs i σ _ aX p
 ·have e:i=n:=by omega
  subst e;exact .inl ⟨Am _,hd σ H p⟩
def Xq{tg:Expr}{at_:Addr}{xs:List V}{after:St->Hp->Prop}(Pv:Nat->St->Hp->Prop)(h0:Pv 0 σ H)(hl:∀ i σ H,i<=xs.length->Pv i σ H->aM X.K H at_ xs)
  (hs:∀ i x σ H,xs[i]?=some x->Pv i σ H->Eg X tg x σ H λσ2 H2=>Run X body {D with nx:=Pv<|i+1,ct:=Pv<|i+1,bk:=after} σ2 H2) (hd:∀ σ H,Pv xs.length σ H->after σ H):Loop X tg body (xT X.K at_) D after σ H:=by
 refine⟨λi m σ H=>m=xs.length - i/\i<=xs.length/\Pv i σ H,⟨xs.length,by simp,Bp _,h0⟩,?_⟩;rintro i m σ H ⟨rfl,hi,p⟩;have q:=hl i σ H hi p
 by_cases aX:i < xs.length
 ·refine .inr ⟨⟨xs,xs[i],q,by simp [aX]⟩,Pv<|i+1,λσ' H' p'=>⟨xs.length - (i+1),by omega,rfl,aX,p'⟩,λx H' y=>?_⟩;obtain⟨e,y⟩:=y;subst e;exact hs i x σ _ (y xs q) p
 ·have e:i=xs.length:=by omega
  subst e;exact .inl ⟨⟨xs,q,Am _⟩,hd σ H p⟩
def jV{tg:Expr}{at_:Addr}{xs:List V}{after:St->Hp->Prop}(Pv:Nat->St->Hp->Prop)(h0:Pv 0 σ H)(hl:∀ i σ H,i<=xs.length->Pv i σ H->ai X.K H at_ xs)
  (hs:∀ i x σ H,xs[i]?=some x->Pv i σ H->Eg X tg x σ H λσ2 H2=>Run X body {D with nx:=Pv<|i+1,ct:=Pv<|i+1,bk:=after} σ2 H2) (hd:∀ σ H,Pv xs.length σ H->after σ H):Loop X tg body (pq X.K at_) D after σ H:=by
 refine⟨λi m σ H=>m=xs.length - i/\i<=xs.length/\Pv i σ H,⟨xs.length,by simp,Bp _,h0⟩,?_⟩;rintro i m σ H ⟨rfl,hi,p⟩;have q:=hl i σ H hi p
 by_cases aX:i < xs.length
 ·refine .inr ⟨⟨xs,xs[i],q,by simp [aX]⟩,Pv<|i+1,λσ' H' p'=>⟨xs.length - (i+1),by omega,rfl,aX,p'⟩,λx H' y=>?_⟩;obtain⟨e,y⟩:=y;subst e;exact hs i x σ _ (y xs q) p
 ·have e:i=xs.length:=by omega
  subst e;exact .inl ⟨⟨xs,q,Am _⟩,hd σ H p⟩
def bu.go{P:Program}{w:World}{K:PySem.W.Frag}{mg:Str->Option Value}{base:Heap}{x qual:Str}{st:Stmt}{f:Addr}{fd:FuncData}{N ps:List Str}{k:Nat}{sp:Sp}(F:bu K x qual st f fd)(S:ao N ps<|aP st)(len:∀ vs H Q E,sp vs H Q E->vs.length=ps.length)
  (cQ : ∀ (bE : Value) (A : Around) (outer : List Env) (s : Shared) (H : Hp) (vs : List V) (Q : VK) (E : XK), bo k (A.deeper<|envOfC qual (aP st) s.heap.objs.size f bE) → sp vs H Q E →
   Run (eN bA P w K mg base N qual (aP st) f bE A outer s H E).lT (gL st) {nx:=λ_ H'=>Q .non H',rt:=Q} (start N vs) H):aC P w K mg base bA (k+1) f fd ps sp:=
 F.ok S len λbE A outer s H vs Q E hr dM=>⟨_,nR,cQ bE A outer s H vs Q E hr dM⟩
end
structure Ei(X:Cx)(ifs:List Expr)(σ:St)(H:Hp)(Q:Bool->Hp->Prop):Prop where
 run:∀(pins:List<|Addr×Obj) (s:Shared),Inv X pins σ H s ->
  wpAny (model X.prog X.w) X.A (forIn ifs true λc r=>if r=true then do let ok <- isTrue c X.env<|eval c X.env;pure (ForInStep.yield ok) else pure (ForInStep.yield r)) (TP X pins σ Q) X.xe s
def uv(X:Cx)(N':List Str)(scope:Scope)(e:Expr)(σ:St)(H:Hp)(Q:VK):Prop:=∀ cl C s₀ H₀ ex,Ev (fO X N' scope cl C s₀ H₀ ex) e σ H Q
def uw(X:Cx)(N':List Str)(scope:Scope)(e:Expr)(v:V)(σ:St)(H:Hp)(Q:St->Hp->Prop):Prop:=∀ cl C s₀ H₀ ex,Eg (fO X N' scope cl C s₀ H₀ ex) e v σ H Q
def uz(X:Cx)(N':List Str)(scope:Scope)(ifs:List Expr)(σ:St)(H:Hp)(Q:Bool->Hp->Prop):Prop:=∀ cl C s₀ H₀ ex,Ei (fO X N' scope cl C s₀ H₀ ex) ifs σ H Q
def li(X:Cx)(N':List Str)(scope:Scope)(tg:Expr)(ifs:List Expr)(elt:Expr)(J:It)(D:Addr)(after:Hp->Prop)(σ:St)(H:Hp):Prop:=
 ∃ W:Nat->Nat->St->Hp->Prop,(∃ m,W 0 m σ H)/\∀ i m σ' H',W i m σ' H' ->
  (J.stop i H' ∧ after H') ∨ (J.go i H' ∧ ∃ N : St → Hp → Prop, (∀ σ' H', N σ' H' → ∃ m', m' < m ∧ W (i + 1) m' σ' H') ∧ ∀ x H2, J.tX i H' x H2 → uw X N' scope tg x σ' H2 λσ2 H3 => uz X N' scope ifs σ2 H3 λb H4 =>
   if b=true then uv X N' scope elt σ2 H4 λv H5=>∃ ys,H5 D=some (.lst ys)/\ys.length < sizeLine/\N σ2 (upd H5 D<|.lst<|ys++[v]) else N σ2 H4)
theorem pJ:∀(names:List<|Str×NameKind) (n:Nat) (acc:List<|Str×Addr),cellsFrom n names acc=cellsFrom n names []++acc
 | [],_,_=>rfl
 | (y,k) :: r,n,acc=>by
  unfold cellsFrom
  split
  ·rw [pJ r (n+1)<|(y,n) :: acc,pJ r (n+1) [(y,n)],As];rfl
  ·exact pJ r n acc
theorem uA:∀(names:List<|Str×NameKind) (n:Nat) {x:Str} {c:Addr},(x,c)∈cellsFrom n names []->(x,NameKind.cell)∈names/\n<=c
 | [],_,_,_,h=>by cases h
 | (y,k) :: r,n,x,c,h=>by
  unfold cellsFrom at h
  split at h
  ·rename_i hk;rw [pJ,An] at h
   rcases h with h | h
   ·obtain⟨a,b⟩:=uA r (n+1) h;exact⟨Ak _ a,by omega⟩
   ·cases Ag.mp h;have:k = .cell:=by cases k <;> first | rfl | exact absurd hk<|by decide
    subst this;exact⟨Ah,Am _⟩
  ·obtain⟨a,b⟩:=uA r n h;exact⟨Ak _ a,b⟩
theorem Nx{names:List (Str×NameKind)}{n:Nat}{cl:List (Str×Addr)}{x:Str}{c:Addr}(h:(cellsFrom n names cl).lookup x=some c):((x,c)∈cellsFrom n names []/\n<=c)\/cl.lookup x=some c:=by
 rw [pJ,PN] at h;cases e:(cellsFrom n names []).lookup x with
 | some d=>
  rw [e] at h;cases h;have hm:=CT e;exact .inl ⟨hm,(uA _ _ hm).2⟩
 | none=>
  rw [e] at h;exact .inr h
theorem Xr{names:List (Str×NameKind)}{n:Nat}{cl:List (Str×Addr)}{x:Str}(h:(x,NameKind.cell)∉names):(cellsFrom n names cl).lookup x=cl.lookup x:=by
 rw [pJ,PN];cases e:(cellsFrom n names []).lookup x with
 | some d=>exact absurd (uA _ _<|CT e).1 h
 | none=>rfl
section
variable{M:Model}{A:Around}{E:Value->Shared->Prop}{s:Shared}
def Xs{scope:Scope}{globals:Addr}{closure:List (Str×Addr)}{qual:Str}{func:Option Addr}{code:Value}{outer:Env}{builtins:Addr}{Q:Env->Shared->Prop}
  (hQ : ∀ h', h'.Ns s.heap.objs.size (λ_ => none) → (∀ b o, s.heap.get? b = some o → h'.get? b = some o) → CellsOk h' (s.heap.objs.size + 1) (cellsFrom (s.heap.objs.size + 1) scope.names []) →
   Q (newEnv scope s.heap.objs.size globals (cellsFrom (s.heap.objs.size+1) scope.names closure) qual func code (some outer) builtins) {s with heap:=h'}) :
  wpAny M A (newFunctionEnv scope globals closure [] qual func code (some outer) builtins) Q E s:=by
 simp only [newFunctionEnv,Option.isSome_some,DN];refine BJ<|wpAny_alloc ?_;refine BJ (wpAny_layCells _ (λname kind cells=>by cases Xt:kind == NameKind.cell <;> simp [Xt]) _ _ _ _ ?_);have ok:=cellsFrom_ok scope.names (s.heap.push {cls:= .type "dict",data:= .dict #[]}) (s.heap.objs.size+1) [] ⟨λ_ _ hm=>(nomatch hm),List.Pairwise.nil⟩ (by rw [Dm];exact Am _);rw [Dm] at ok;rw [show({s with heap:=s.heap.push {cls:= .type "dict",data:= .dict #[]}}:Shared).heap.objs.size=s.heap.objs.size+1 from Dm ..];rw [List.forIn_nil];exact BJ<|BP<|BP<|hQ _ ((Heap.Ns.new s.heap<|.type "dict").keeps<|pushCells_keeps _ _) (λb o e=>pushCells_keeps _ _ b o<|Ae _ e) ok
end
def nU(sc scope:Scope)(N N':List Str):Bool:=
 (match scope.kind with | .function=>true | _=>false) &&
 scope.names.all (λy=>match y.2 with
  | .cell=>(match scope.names.lookup y.1 with | some .cell=>true | _=>false)
  | .local=>(match scope.names.lookup y.1 with | some .local=>true | _=>false)
  | .free=>(match sc.names.lookup y.1 with | some .cell=>true | some .free=>true | _=>false) && (match scope.names.lookup y.1 with | some .free=>true | _=>false)
  | _=>true) &&
 (List.range N'.length).all λi => match N'[i]? with
  | none=>true
  | some x=>match scope.names.lookup x with
   | some .local=>decide (N.length<=i)
   | some .cell=>decide (N.length<=i)
   | some .free=>decide (N[i]?=some x)
   | _=>true
structure bK(sc scope:Scope)(N N':List Str):Prop where
 kind:scope.kind = .function
 cell:∀ y∈scope.names,y.2 = .cell->scope.names.lookup y.1=some .cell
 names:∀ y∈scope.names,y.2 = .local->scope.names.lookup y.1=some .local
 free:∀ y∈scope.names,y.2 = .free->sc.names.lookup y.1=some .cell\/sc.names.lookup y.1=some .free
 Ny:∀ y∈scope.names,y.2 = .free->scope.names.lookup y.1=some .free
 own:∀(i:Nat) x,N'[i]?=some x->scope.names.lookup x=some .local->N.length<=i
 C9:∀(i:Nat) x,N'[i]?=some x->scope.names.lookup x=some .cell->N.length<=i
 out:∀(i:Nat) x,N'[i]?=some x->scope.names.lookup x=some .free->N[i]?=some x
def bK.of{sc scope:Scope}{N N':List Str}(h:nU sc scope N N'=true):bK sc scope N N':=by
 unfold nU at h;rw [Bq,Bq] at h;obtain⟨⟨h1,h2⟩,h3⟩:=h;have nV:=Dj.mp h2;have DA:=Dj.mp h3;refine⟨?_,λy hy e=>?_,λy hy e=>?_,λy hy e=>?_,λy hy e=>?_,λi x hi e=>?_,λi x hi e=>?_,λi x hi e=>?_⟩
 ·revert h1;cases scope.kind <;> intro h1 <;> first | rfl | cases h1
 ·have q:=nV y hy;rw [e] at q;simp only at q
  split at q
  ·assumption
  ·cases q
 ·have q:=nV y hy;rw [e] at q;simp only at q
  split at q
  ·assumption
  ·cases q
 ·have q:=nV y hy;rw [e] at q;simp only at q;rw [Bq] at q;have q:=q.1
  split at q
  ·exact .inl<|by assumption
  ·exact .inr<|by assumption
  ·cases q
 ·have q:=nV y hy;rw [e] at q;simp only at q;rw [Bq] at q;have q:=q.2
  split at q
  ·assumption
  ·cases q
 ·have q:=DA i<|Cb.mpr (Ac.mp hi).1;rw [hi] at q;simp only [e] at q;exact BX q
 ·have q:=DA i<|Cb.mpr (Ac.mp hi).1;rw [hi] at q;simp only [e] at q;exact BX q
 ·have q:=DA i<|Cb.mpr (Ac.mp hi).1;rw [hi] at q;simp only [e] at q;exact BX q
section
variable{X:Cx}{pins:List (Addr×Obj)}{σ:St}{H:Hp}{s:Shared}
def Xu{N':List Str}{scope:Scope}{n:Nat}{fp:List Addr}{h₁:Heap}{t':Nat}{m:Str->Option Value}(I:Inv X pins σ H s)(ck:bK X.env.scope scope X.N N')(hl:N'.length=X.N.length+n)
  (gK:h₁.Ns s.heap.objs.size m) (old:∀ b o,s.heap.get? b=some o->h₁.get? b=some o) (eG:CellsOk h₁ (s.heap.objs.size+1)<|cellsFrom (s.heap.objs.size+1) scope.names [])
  (nW:∀ b∈fp,cb X pins H b/\b < s.heap.objs.size) :
  Inv (fO X N' scope (cellsFrom (s.heap.objs.size+1) scope.names<|cF scope.names X.env.cells []) s.heap.objs.size s H fp) [] (σ++List.replicate n none) H {s with heap:=h₁,toks:=t'}:=by
 have sub:∀ x c,(cF scope.names X.env.cells []).lookup x=some c->X.env.cells.lookup x=some c:=λx c e=>CO _ _ _ (λ_ _ z=>by simp at z) x c<|CT e;have both:∀ x c,(cellsFrom (s.heap.objs.size+1) scope.names<|cF scope.names X.env.cells []).lookup x=some c->((x,c)∈cellsFrom (s.heap.objs.size+1) scope.names []/\s.heap.objs.size+1<=c)\/X.env.cells.lookup x=some c:=λx c e=>by
  rcases Nx e with z | z
  ·exact .inl z
  ·exact .inr<|sub x c z
 have nX:∀ x c,X.env.cells.lookup x=some c->c < s.heap.objs.size:=λx c e=>by
  obtain⟨v,o,ho,_⟩:=I.cell x c e;exact Ar ho
 have Xv:H s.heap.objs.size=none:=I.aB.fresh<|Am _;have kindOf:∀{x:Str} {k':NameKind},(relabel scope X.env).names.lookup x=some k'->∃ k,scope.names.lookup x=some k/\(k'=k\/(k = .free/\k' = .cell)):=λz=>Nf z;have NA:∀ x,scope.names.lookup x=some .free->(cellsFrom (s.heap.objs.size+1) scope.names<|cF scope.names X.env.cells []).lookup x=(cF scope.names X.env.cells []).lookup x:=λx e=>Xr λhm=>by
  have:=ck.cell _ hm rfl;rw [e] at this;cases this
 have DB:∀ x,scope.names.lookup x=some .cell->∃ c,(cellsFrom (s.heap.objs.size+1) scope.names<|cF scope.names X.env.cells []).lookup x=some c:=λx e=>Ee.mp<|JC _ _ _<|.inl e;have Xw:(fO X N' scope (cellsFrom (s.heap.objs.size+1) scope.names<|cF scope.names X.env.cells []) s.heap.objs.size s H fp).Ok:=by
  refine⟨I.ok.mod,ck.kind,I.ok.glob,I.ok.blt,Am _,λx y c e1 e2=>?_,λx hx=>?_,λx c hf e=>?_,I.ok.hd,I.ok.frames,.inl rfl,λb hb=>⟨Bn (nW b hb).2,λx c e=>?_⟩,
   I.bs,Bv I.ok.js I.sz,λb o e hb=>?_,λb hb hf=>?_,I.stack,I.dI⟩
  ·rcases both x c e1 with z1 | z1
   ·rcases both y c e2 with z2 | z2
    ·exact name_of_addr eG.apart z1.1 z2.1
    ·exact absurd (nX y c z2)<|Nat.not_lt.mpr<|Ec z1.2
   ·rcases both y c e2 with z2 | z2
    ·exact absurd (nX x c z1)<|Nat.not_lt.mpr<|Ec z2.2
    ·exact I.ok.inj x y c z1 z2
  ·have iZ:(relabel scope X.env).names.lookup x=some .cell\/(relabel scope X.env).names.lookup x=some .free:=hx;have:∃ k,scope.names.lookup x=some k/\(k = .free\/k = .cell):=by
    rcases iZ with z | z
    ·obtain⟨k,e,r⟩:=kindOf z
     rcases r with r | ⟨r,_⟩
     ·exact⟨k,e,.inr r.symm⟩
     ·exact⟨k,e,.inl r⟩
    ·obtain⟨k,e,r⟩:=kindOf z
     rcases r with r | ⟨r,_⟩
     ·exact⟨k,e,.inl r.symm⟩
     ·exact⟨k,e,.inl r⟩
   obtain⟨k,e,rfl | rfl⟩:=this
   ·have hm:=CT e;obtain⟨c,hc⟩:=I.ok.has x<|ck.free _ hm rfl;obtain⟨d,hd⟩:=CY<|CU scope.names X.env.cells [] x c hm hc;exact⟨d,(NA x e).trans hd⟩
   ·exact DB x e
  ·have hx:scope.names.lookup x=some .cell:=by
    have ND:(match scope.names.lookup x with | some .cell=>true | _=>false)=true:=hf
    split at ND
    ·assumption
    ·cases ND
   have e':(cellsFrom (s.heap.objs.size+1) scope.names<|cF scope.names X.env.cells []).lookup x=some c:=e;have q1:=Ee.mp<|JC scope.names (s.heap.objs.size+1) []<|.inl hx;obtain⟨d,hd⟩:=q1;rw [pJ,PN,hd] at e';have e2:d=c:=Option.some.inj e';have:=(uA _ _<|CT hd).2;rw [<- e2];exact Ec this
  ·have e':(cellsFrom (s.heap.objs.size+1) scope.names<|cF scope.names X.env.cells []).lookup x=some c:=e
   rcases both x c e' with z | z
   ·have h1:=(nW b hb).2;have h2:=z.2;exact λk=>absurd h1<|Nat.not_lt.mpr<|by rw [<- k];exact Ec h2
   ·exact(nW b hb).1.2.2.2.2.1 x c z
  ·have:=(nW b hb).1.2.2.2.1
   rcases this with z | z
   ·exact I.ok.fq b o e z
   ·exact absurd (Bb (Ar e)<|Bv I.ok.js z)<|Co _
  ·rcases Al.mp (I.cX b hf) with z | z
   ·exact(nW b hb).1.2.1 z
   ·exact(nW b hb).1.2.2.1 z
 refine⟨Xw,rfl,I.bare,Un.kept old,⟨m,gK,λi x v e1 e2 e3=>?_⟩,λx c e=>?_,Xv,λx c e=>?_,λp hp=>absurd hp (by simp [fO]),I.aB.kept old,?_⟩
 ·have hi:i < σ.length:=by
   by_cases hi:i < σ.length
   ·exact hi
   ·rw [Ay (by omega),Eh] at e2
    split at e2 <;> cases e2
  rw [Ao hi] at e2;have pK:N'[i]?=some x:=e1;have Xx:∃ k',(relabel scope X.env).names.lookup x=some k'/\(k' = .local\/k' = .cell\/k' = .free):=by
   rcases e3 with z | z | z
   ·exact⟨_,z,.inl rfl⟩
   ·exact⟨_,z,.inr<|.inl rfl⟩
   ·exact⟨_,z,.inr<|.inr rfl⟩
  obtain⟨k',DC,pL⟩:=Xx;obtain⟨k,ek,r⟩:=kindOf DC;have kf:k = .free:=by
   rcases r with r | ⟨r,_⟩
   ·subst r
    rcases pL with z | z | z
    ·subst z;have:=ck.own i x pK ek;rw [I.len] at hi;omega
    ·subst z;have:=ck.C9 i x pK ek;rw [I.len] at hi;omega
    ·exact z
   ·exact r
  subst kf;have hm:=CT ek;have Xy:=ck.out i x pK ek;obtain⟨m0,DE,g6⟩:=I.loc;have kx:=ck.free _ hm rfl;obtain⟨u,ru,lk⟩:=g6 i x v Xy e2 (by rcases kx with z | z;exact .inr<|.inl z;exact .inr<|.inr z);refine⟨u,ru,.inr ⟨?_,?_⟩⟩
  ·rcases r with r | ⟨_,r⟩
   ·subst r;exact .inr DC
   ·subst r;exact .inl DC
  ·rcases lk with ⟨k1,_⟩ | ⟨_,c,hc,iy⟩
   ·have DF:X.env.scope.names.lookup x=some .local:=k1
    rcases kx with z | z
    ·rw [DF] at z;cases z
    ·rw [DF] at z;cases z
   ·have NI:=CU scope.names X.env.cells [] x c hm hc;obtain⟨d,hd⟩:=CY NI;have:d=c:=Option.some.inj<|(sub x d hd).symm.trans hc;subst this;obtain⟨o,ho,i7⟩:=iy;exact⟨d,(NA x ek).trans hd,o,old _ _ ho,i7⟩
 ·have e':(cellsFrom (s.heap.objs.size+1) scope.names<|cF scope.names X.env.cells []).lookup x=some c:=e
  rcases both x c e' with z | z
  ·exact⟨none,(eG.empty x c z.1).1⟩
  ·obtain⟨v,o,ho,i7⟩:=I.cell x c z;exact⟨v,o,old _ _ ho,i7⟩
 ·have e':(cellsFrom (s.heap.objs.size+1) scope.names<|cF scope.names X.env.cells []).lookup x=some c:=e
  rcases both x c e' with z | z
  ·exact I.aB.fresh<|Ec z.2
  ·exact I.bt x c z
 ·rw [Ad,Ep,I.len];exact hl.symm
end
structure Clause(e:Expr)(d:Nat)(tg iter:Expr)(ifs:List Expr)(acc:Value)(env:Env)(inner:Sem Unit):Prop where
 at':(clausesOf e)[d]?=some ⟨tg,iter,ifs,0⟩
 quiet:∀ it,(Code.compLoop e d it acc env).quiet=true
 den:∀(prog:Program) (w:World) it,(model prog w).den (.compLoop e d it acc env)=(compTurn e d it acc env).onRaise (λx=>do noteFrame x env;theTreesLotGoes x)
 Xz:∀(A:Around) it,A.under (.compLoop e d it acc env)=A
 DH:∀(prog:Program) (w:World) it,(model prog w).den (.compStart e d it acc env)=(compStart e d it acc env).onRaise (λx=>do noteFrame x env;standAt theWindowsPlace)
 DI:∀(A:Around) it,A.under (.compStart e d it acc env)=A
 turn:∀ it,compTurn e d it acc env=(do
   standAt iter.pos
   match <- pyNext it with
   | none=>pure<|.done .next
   | some v=>
    letOwnedTupleGo tg it v
    assign tg env v
    let mut ok:=true
    for c in ifs do
     if ok then ok <- isTrue c env<|eval c env
    if ok then
     inner
    again (.compLoop e d it acc env))
section
variable{prog:Program}{w:World}{A:Around}{R:Result->Shared->Prop}{s:Shared}
theorem XA{e:Expr}{d:Nat}{tg iter:Expr}{ifs:List Expr}{it acc:Value}{env:Env}{inner:Sem Unit}(C:Clause e d tg iter ifs acc env inner)(I:Nat->Shared->Prop)
  (turn : ∀ n s, I n s → wpAny (model prog w) A (pyNext it) (λr s₁ => match r with
   | none=>R (.ok .next) s₁
   | some v=>wpAny (model prog w) A (letOwnedTupleGo tg it v) (λ_ s₁'=>wpAny (model prog w) A (assign tg env v) (λ_ s₂=>
     wpAny (model prog w) A (forIn ifs true λc r=>if r=true then do let ok <- isTrue c env<|eval c env;pure (ForInStep.yield ok) else pure (ForInStep.yield r)) (λok s₃=>
      if ok=true then wpAny (model prog w) A inner (λ_ s₄=>∃ m,m < n/\I m s₄) (notedBy (model prog w) A env λe s'=>R (.error e) s') s₃
      else ∃ m,m < n/\I m s₃) (notedBy (model prog w) A env λe s'=>R (.error e) s') s₂) (notedBy (model prog w) A env λe s'=>R (.error e) s') s₁') (notedBy (model prog w) A env λe s'=>R (.error e) s') s₁) (notedBy (model prog w) A env λe s'=>R (.error e) s') s)
  (n:Nat) (h:I n s) :
  codeAny (model prog w) A (.compLoop e d it acc env) R s:=by
 refine codeAny_loop (C.quiet it) I (λn s hI=>?_) n h;rw [C.Xz,C.den];refine wpAny_noted ?_;rw [C.turn];refine BJ<|EY<|BJ<|CK (turn n s hI) (λr s₁ h₁=>?_) λ_ _ h'=>h';cases r with
 | none=>exact BP h₁
 | some v=>
  refine BJ<|CK h₁ (λ_ s₁' h₁'=>?_) λ_ _ h'=>h';refine BJ<|CK h₁' (λ_ s₂ h₂=>BJ<|CK h₂ (λok s₃ h₃=>?_) λ_ _ h'=>h') λ_ _ h'=>h';cases ok with
  | false=>exact BP ⟨rfl,h₃⟩
  | true=>exact BJ<|CK h₃ (λ_ s₄ h₄=>BP ⟨rfl,h₄⟩) λ_ _ h'=>h'
def XB{e:Expr}{d:Nat}{tg iter:Expr}{ifs:List Expr}{it acc:Value}{env:Env}{inner:Sem Unit}(C:Clause e d tg iter ifs acc env inner)
  (h0:codeAny (model prog w) A (.compLoop e d it acc env) R s)
  (h:wpAny (model prog w) A (pyIter it) (λDJ s'=>codeAny (model prog w) A (.compLoop e d DJ acc env) R s') (notedBy (model prog w) A env λx s'=>R (.error x) s') s) :
  codeAny (model prog w) A (.compStart e d it acc env) R s:=by
 refine RV ?_;rw [C.DI,C.DH];refine wpAny_notedAt ?_;unfold compStart;rw [C.at'];show wpAny _ _ (ask >>= _) _ _ s;refine BJ<|LK<|wpAny_ite ?_
 split
 ·first
   | exact BJ<|BP<|BP<|And.intro (C.quiet _) h0
   | exact BP<|And.intro (C.quiet _) h0
 ·first
   | exact BJ<|GX<|BJ<|EY<|BJ<|CK h (λDJ s' h'=>BP<|And.intro (C.quiet _) h') λ_ _ x=>x
   | (refine BJ<|GX ?_;show wpAny _ _ (standAt iter.pos >>= _) _ _ s;exact BJ<|EY<|BJ<|CK h (λDJ s' h'=>BP<|And.intro (C.quiet _) h') λ_ _ x=>x)
end
structure lj(X:Cx)(m:Sem Unit)(σ:St)(H:Hp)(Q:St->Hp->Prop):Prop where
 run:∀(pins:List<|Addr×Obj) (s:Shared),Inv X pins σ H s->wpAny (model X.prog X.w) X.A m (λ_ s'=>∃ σ' H',Inv X pins σ' H' s'/\Q σ' H') X.xe s
def iC(X:Cx)(tg:Expr)(ifs:List Expr)(inner:Sem Unit)(J:It)(after:St->Hp->Prop)(σ:St)(H:Hp):Prop:=
 ∃ W:Nat->Nat->St->Hp->Prop,(∃ m,W 0 m σ H)/\∀ i m σ' H',W i m σ' H' ->
  (J.stop i H' ∧ after σ' H') ∨ (J.go i H' ∧ ∃ N : St → Hp → Prop, (∀ σ' H', N σ' H' → ∃ m', m' < m ∧ W (i + 1) m' σ' H') ∧ ∀ x H2, J.tX i H' x H2 → Eg X tg x σ' H2 λσ2 H3 => Ei X ifs σ2 H3 λb H4 =>
   if b=true then lj X inner σ2 H4 N else N σ2 H4)
def yh{X:Cx}(i8:X.xe=λ_ _=>False)(hc:X.calm=true){e:Expr}{d:Nat}{tg iter:Expr}{ifs:List Expr}{acc:Value}{inner:Sem Unit}(C:Clause e d tg iter ifs acc X.env inner){pins:List (Addr×Obj)}{σ:St}{H:Hp}{s:Shared}
  {it:Addr} {fp:List Addr} {tn:Nat->Heap->Prop} {J:It} {after:St->Hp->Prop} {R:Result->Shared->Prop} (I:Inv X pins σ H s) (T:Turn X.prog X.w X.K tg J fp it tn) (st:tn 0 s.heap) (hf:∀ b∈fp,cb X pins H b) (h:iC X tg ifs inner J after σ H)
  (hR:∀ σ' H' s',Inv X pins σ' H' s'->after σ' H'->R (.ok .next) s') :
  codeAny (model X.prog X.w) X.A (.compStart e d (.ref it) acc X.env) R s:=by
 obtain⟨W,⟨m0,w0⟩,turn⟩:=h;have stat:∀{H':Hp},(∀ b∈fp,H' b=none)->∀ b∈fp,cb X pins H' b:=λhn b hb=>⟨hn b hb,(hf b hb).2⟩;have loop:codeAny (model X.prog X.w) X.A (.compLoop e d (.ref it) acc X.env) R s:=by
  refine XA C (λk s'=>∃ i σ' H',Inv X pins σ' H' s'/\tn i s'.heap/\(∀ b∈fp,H' b=none)/\W i k σ' H') ?_ m0 ⟨0,σ,H,I,st,λb hb=>(hf b hb).1,w0⟩;rintro k s4 ⟨i,σ4,H4,J4,NM,NU,w4⟩
  rcases turn i k σ4 H4 w4 with ⟨stop,qn⟩ | ⟨go,N,hN,step⟩
  ·have d1:=T.done X rfl rfl rfl hc i pins s4 σ4 H4 (λ_ _=>False) J4 (stat NU) NM stop;refine i6 d1 λr s5 ⟨hr,I5⟩=>?_;subst hr;exact hR _ _ _ I5 qn
  ·have d1:=T.item X rfl rfl rfl hc i pins s4 σ4 H4 (λ_ _=>False) J4 (stat NU) NM go;refine i6 d1 λr s5 ⟨u,hr,h5⟩=>?_;subst hr;refine i6 h5 λ_ s6 ⟨x,H6,I6,r6,y6,DL,XD⟩=>?_;have XE:=I6.pinned (stat XD)<|T.obj _ _ DL;have again:∀{σ7:St} {H7:Hp} {s7:Shared},Inv X (pins++tY fp s6.heap) σ7 H7 s7->N σ7 H7->∃ m,m < k/\∃ i σ' H',Inv X pins σ' H' s7/\tn i s7.heap/\(∀ b∈fp,H' b=none)/\W i m σ' H':=λ{σ7 H7 s7} I7 n7=>by
    obtain⟨m',hm,w7⟩:=hN σ7 H7 n7;refine⟨m',hm,i+1,σ7,H7,I7.cN,T.keep _ _ _ DL λb hb o e=>(I7.pin (b,o)<|Au _<|Au _<|xV hb e).1,λb hb=>?_,w7⟩;obtain⟨o,e,d⟩:=T.obj _ _ DL b hb;exact(I7.pin (b,o)<|Au _<|Au _<|xV hb e).2.1
   have a1:=(step x H6 y6).run _ s6 u XE r6;rw [i8] at a1;refine i6 a1 λ_ s7 ⟨σ7,H7,I7,q7⟩=>?_;have a2:=q7.run _ s7 I7;rw [i8] at a2;refine i6 a2 λok s8 ⟨H8,I8,q8⟩=>?_;cases ok with
   | false=>
    rw [BK Av] at q8 ⊢;exact again I8 q8
   | true=>
    rw [BL rfl] at q8 ⊢;have a3:=q8.run _ s8 I8;rw [i8] at a3;exact i6 a3 λ_ s9 ⟨σ9,H9,I9,q9⟩=>again I9 q9
 exact XB C loop<|T.self _ 0 _ _ _ st loop
def uB{X:Cx}{e:Expr}{tg iter:Expr}{ifs:List Expr}{scope:Scope}{N':List Str}{newAcc:Sem Value}{o0:Obj}{u0:Addr->HO}{n:Nat}{inner:Value->Env->Sem Unit}{pins:List (Addr×Obj)}{σ:St}{H2:Hp}{s2:Shared}{E:Value->Shared->Prop}{RR:Value->Addr->Result->Shared->Prop}{it:Addr}{fp:List Addr}{tn:Nat->Heap->Prop}{J:It}{Q:VK}
  (jW:∀(Q:Value->Shared->Prop) (E:Value->Shared->Prop) (s:Shared),Q (.ref s.heap.objs.size) {s with heap:=s.heap.push o0}->wpAny (model X.prog X.w) X.A newAcc Q E s) (jS:∀(H:Hp) (h:Heap),sysModules < h.objs.size->az X.prog X.w H (h.push o0) h.objs.size (u0 h.objs.size))
  (hc:X.calm=true) (ck:bK X.env.scope scope X.N N') (hl:N'.length=X.N.length+n) (hC:∀ acc env,Clause e 0 tg iter ifs acc env<|inner acc env)
  (I2:Inv X pins σ H2 s2) (T:Turn X.prog X.w X.K tg J fp it tn) (dL:tn 0 s2.heap) (f2:∀ b∈fp,cb X pins H2 b)
  (q:∀ D,H2 D=none->∀ cl C s₀ H₀ ex,iC (fO X N' scope cl C s₀ H₀ ex) tg ifs (inner (.ref D)<|compEnvC scope cl C X.env) J (λ_ H'=>Q (.ref D) H') (σ++List.replicate n none)<|upd H2 D<|u0 D)
  (DM:∀ D C H' s' m,Inv X pins σ H' s'->s'.heap.Ns C m->H' C=none->C≠X.env.locals->X.s₀.heap.objs.size<=C->(∀ x c,X.env.cells.lookup x=some c->c≠C)->(∀ p∈X.pn++pins,p.1≠C)->Q (.ref D) H'->RR (.ref D) C (.ok .next) s') :
  wpAny (model X.prog X.w) X.A newAcc (λacc s₃=>wpAny (model X.prog X.w) X.A (newFunctionEnv scope X.env.globals (cF scope.names X.env.cells []) [] X.env.qual none .none<|some X.env) (λjX s₄=>
   codeAny (model X.prog X.w) X.A (.compStart e 0 (.ref it) acc {jX with scope:=relabel scope X.env}) (RR acc jX.locals) s₄) E s₃) E s2:=by
 refine jW _ _ _<|Xs λh₁ hns₁ old₁ hcs₁=>?_;have hD:H2 s2.heap.objs.size=none:=I2.aB.fresh<|Am _;have q0:=q s2.heap.objs.size hD;have fl:∀ b∈fp,b < s2.heap.objs.size:=λb hb=>by
  obtain⟨o,e,_⟩:=T.obj 0 _ dL b hb;exact Ar e
 have I3:Inv X pins σ (upd H2 s2.heap.objs.size<|u0 s2.heap.objs.size) {s2 with heap:=s2.heap.push o0}:=
  I2.laid (t':=s2.toks) (λb o e=>Ae _ e) (Am _) (jS _ _ I2.big)
 generalize yi:({s2 with heap:=s2.heap.push o0}:Shared)=s3 at I3 hns₁ old₁ hcs₁ ⊢;have XG:s3.heap.objs.size=s2.heap.objs.size+1:=by rw [<- yi];exact Dm ..
 have DS:∀ b o,s2.heap.get? b=some o->s3.heap.get? b=some o:=λb o e=>by rw [<- yi];exact Ae _ e
 have old:∀ b o,s3.heap.get? b=some o->h₁.get? b=some o:=old₁;have f3:∀ b∈fp,cb X pins (upd H2 s2.heap.objs.size<|u0 s2.heap.objs.size) b/\b < s3.heap.objs.size:=λb hb=>by
  refine⟨⟨?_,(f2 b hb).2⟩,by rw [XG];exact Cn<|fl b hb⟩;rw [au<|Bn<|fl b hb];exact(f2 b hb).1
 have I4:=λ(t':Nat)=>Xu (N':=N') (scope:=scope) (n:=n) (fp:=fp) (h₁:=h₁) (t':=t') I3 ck hl hns₁ old hcs₁ f3;generalize hX:fO X N' scope (cellsFrom (s3.heap.objs.size+1) scope.names<|cF scope.names X.env.cells []) s3.heap.objs.size s3 (upd H2 s2.heap.objs.size<|u0 s2.heap.objs.size) fp=X' at I4;have eP:X'.prog=X.prog:=by rw [<- hX];rfl
 have ew:X'.w=X.w:=by rw [<- hX];rfl
 have eK:X'.K=X.K:=by rw [<- hX];rfl
 have eA:X'.A=X.A:=by rw [<- hX];rfl
 have eE:X'.env=compEnvC scope (cellsFrom (s3.heap.objs.size+1) scope.names<|cF scope.names X.env.cells []) s3.heap.objs.size X.env:=by rw [<- hX];rfl
 have ec:X'.calm=true:=by rw [<- hX];exact hc
 have LZ:X'.xe=λ_ _=>False:=by rw [<- hX];rfl
 have stat:∀{H':Hp},(∀ b∈fp,H' b=none)->∀ b∈fp,cb X' [] H' b:=λhn b hb=>by
  refine⟨hn b hb,?_,?_,?_,?_,?_⟩
  ·rw [eE];exact Bn (f3 b hb).2
  ·rw [<- hX];intro hf
   rcases Al.mp (I3.cX b hf) with z | z
   ·exact(f3 b hb).1.2.1 z
   ·exact(f3 b hb).1.2.2.1 z
  ·rw [<- hX];exact .inl hb
  ·rw [eE];intro x c e
   rcases Nx e with z | z
   ·exact λk=>absurd (f3 b hb).2<|Nat.not_lt.mpr<|by rw [<- k];exact Ec z.2
   ·exact(f3 b hb).1.2.2.2.2.1 x c<|CO _ _ _ (λ_ _ z=>by simp at z) x c<|CT z
  ·rw [<- hX];intro p hp;exact absurd hp<|by simp [fO]
 have fin:∀{σ':St} {H':Hp} {s':Shared},Inv X' [] σ' H' s'->Q (.ref s2.heap.objs.size) H'->RR (.ref s2.heap.objs.size) s3.heap.objs.size (.ok .next) s':=λ{σ' H' s'} I' q'=>by
  obtain⟨m',nH,_⟩:=id I'.loc;rw [eE] at nH;have XH:s'.os=s3.os:=by have:=I'.os;rw [<- hX] at this;exact this
  have XI:Un (di X.stack) fp (upd H2 s2.heap.objs.size<|u0 s2.heap.objs.size) H' s3.heap s'.heap:=by have:=I'.base;rw [<- hX] at this;exact this
  have aB:b8 X.prog X.w H' s'.heap:=by have:=I'.aB;rw [eP,ew] at this;exact this
  have IX:Inv X pins σ H' s':=I3.call' (ch:=fp) XH XI aB I'.bare λb hb=>⟨(f3 b hb).1.2.2.2.1,(f3 b hb).1.2.1,(f3 b hb).1.2.2.2.2.1,(f3 b hb).1.2.2.2.2.2⟩;have iD:=I'.free;rw [eE] at iD;refine DM _ _ H' s' m' IX nH iD (Cm I3.lt) I3.sz (λx c e z=>?_) (λp hp z=>?_) q'
  ·obtain⟨v,o,ho,_⟩:=I3.cell x c e;exact absurd (Ar ho)<|by rw [z];exact Co _
  ·exact absurd (Ar (I3.pin p hp).1)<|by rw [z];exact Co _
 have XJ:∀ b∈fp,cb X' [] (upd H2 s2.heap.objs.size<|u0 s2.heap.objs.size) b:=stat λb hb=>(f3 b hb).1.1;have q1:iC X' tg ifs (inner (.ref s2.heap.objs.size) X'.env) J (λ_ H'=>Q (.ref s2.heap.objs.size) H') (σ++List.replicate n none) (upd H2 s2.heap.objs.size<|u0 s2.heap.objs.size):=by
  rw [eE,<- hX];exact q0 _ _ _ _ _
 have T':Turn X'.prog X'.w X'.K tg J fp it tn:=by rw [eP,ew,eK];exact T
 have fin2:=yh (s:={s3 with heap:=h₁,toks:=s3.toks}) LZ ec (hC (.ref s2.heap.objs.size) X'.env) (I4 s3.toks) T' (T.keep 0 _ _ dL λb _ o e=>old b o<|DS b o e) XJ q1 (R:=RR (.ref s2.heap.objs.size) s3.heap.objs.size) λσ' H' s' I' a'=>fin I' a';rw [eP,ew,eA,eE] at fin2;exact fin2
def emit(elt:Expr)(acc:Value)(env:Env):Sem Unit:=do let _ <- call (.builtin "list.append") [acc,<- eval elt env]
section
variable{X:Cx}{elt tg iter:Expr}{ifs:List Expr}{scope:Scope}{pos:Pos}{σ:St}{H:Hp}{acc:Value}{env:Env}{N':List Str}{J:It}
def XM:Clause (.ListComp elt [⟨tg,iter,ifs,0⟩] scope pos) 0 tg iter ifs acc env (emit elt acc env):=⟨rfl,λ_=>rfl,λ_ _ _=>rfl,λ_ _=>rfl,λ_ _ _=>rfl,λ_ _=>rfl,λ_=>rfl⟩
def NV{D:Addr}{Q:St->Hp->Prop} (h:Ev X elt σ H λv H1=>∃ ys,H1 D=some (.lst ys)/\ys.length < sizeLine/\Q σ (upd H1 D<|.lst<|ys++[v])):lj X (emit elt (.ref D) X.env) σ H Q:=by
 refine⟨λpins s I=>?_⟩;unfold emit;refine BJ<|aF (h.run pins s I) λv s1 ⟨x,H1,I1,r1,ys,hy,hz,q⟩=>?_;refine BJ<|aF (MZ (X:=X) _ s1 σ H1 (.ref D) [x] (.ref D) [v] (λ_ H'=>Q σ H') I1 rfl (.cons r1 .nil) ⟨_,ys,x,rfl,rfl,hy,hz,q⟩) λ_ s2 ⟨_,H2,I2,_,q2⟩=>BP ⟨σ,H2,I2,q2⟩
def Eg.mono{v:V}{R R':St->Hp->Prop}(h:Eg X elt v σ H R)(f:∀ σ' H',R σ' H'->R' σ' H'):Eg X elt v σ H R':=⟨λpins s u I r=>aF (h.run pins s u I r) λ_ _ ⟨σ',H',I',q⟩=>⟨σ',H',I',f _ _ q⟩⟩
def Ei.mono{T T':Bool->Hp->Prop}(h:Ei X ifs σ H T)(f:∀ b H',T b H'->T' b H'):Ei X ifs σ H T':=⟨λpins s I=>aF (h.run pins s I) λ_ _ ⟨H',I',q⟩=>⟨H',I',f _ _ q⟩⟩
theorem XN{D:Addr}{after:Hp->Prop}(h:li X N' scope tg ifs elt J D after σ H)(cl:List<|Str×Addr)(C:Addr)(s₀:Shared)(H₀:Hp)(ex:List Addr):iC (fO X N' scope cl C s₀ H₀ ex) tg ifs (emit elt (.ref D)<|compEnvC scope cl C X.env) J (λ_ H'=>after H') σ H:=by
 obtain⟨W,w0,t⟩:=h;refine⟨W,w0,λi m σ' H' w=>(t i m σ' H' w).imp id λ⟨g,N,hN,st⟩=>⟨g,N,hN,λx H2 y=>(st x H2 y cl C s₀ H₀ ex).mono λσ2 H3 h3=>(h3 cl C s₀ H₀ ex).mono λb H4 h4=>?_⟩⟩;cases b with
 | true=>
  rw [BL rfl] at h4 ⊢;exact NV (X:=fO X N' scope cl C s₀ H₀ ex)<|h4 cl C s₀ H₀ ex
 | false=>
  rw [BK Av] at h4 ⊢;exact h4
def NX{n:Nat}{pins:List (Addr×Obj)}{H2:Hp}{s2:Shared}{E:Value->Shared->Prop}{RR:Value->Addr->Result->Shared->Prop}{it:Addr}{fp:List Addr}{tn:Nat->Heap->Prop}{Q:VK}
  (hc:X.calm=true) (ck:bK X.env.scope scope X.N N') (hl:N'.length=X.N.length+n) (I2:Inv X pins σ H2 s2) (T:Turn X.prog X.w X.K tg J fp it tn) (dL:tn 0 s2.heap) (f2:∀ b∈fp,cb X pins H2 b)
  (q:∀ D,H2 D=none->li X N' scope tg ifs elt J D (λH'=>Q (.ref D) H') (σ++List.replicate n none) (upd H2 D<|.lst []))
  (DM:∀ D C H' s' m,Inv X pins σ H' s'->s'.heap.Ns C m->H' C=none->C≠X.env.locals->X.s₀.heap.objs.size<=C->(∀ x c,X.env.cells.lookup x=some c->c≠C)->(∀ p∈X.pn++pins,p.1≠C)->Q (.ref D) H'->RR (.ref D) C (.ok .next) s') :
  wpAny (model X.prog X.w) X.A (newList []) (λacc s₃=>wpAny (model X.prog X.w) X.A (newFunctionEnv scope X.env.globals (cF scope.names X.env.cells []) [] X.env.qual none .none<|some X.env) (λjX s₄=>
   codeAny (model X.prog X.w) X.A (.compStart (.ListComp elt [⟨tg,iter,ifs,0⟩] scope pos) 0 (.ref it) acc {jX with scope:=relabel scope X.env}) (RR acc jX.locals) s₄) E s₃) E s2:=
 uB (newAcc:=newList []) (o0:={cls:= .type "list",dict:=none,data:= .seq ([]:List Value).toArray}) (u0:=λ_=> .lst []) (λ_ _ _ h=>CQ h<|by show(0:Nat)<=sizeLine;exact Bp _) (λ_ _ _=>⟨Bp _,[],0,.nil,Aq _ rfl⟩) hc ck hl (λ_ _=>XM) I2 T dL f2 (λD hD=>XN<|q D hD) DM
end
section
variable{X:Cx}{elt tg iter c:Expr}{ifs:List Expr}{scope:Scope}{pos p:Pos}{wi:TI}{σ:St}{H:Hp}{Q:VK}{T:Bool->Hp->Prop}{rest:List Stmt}{D:Ends}
def g7(h:T true H):Ei X [] σ H T:=⟨λpins s I=>Xc pins s σ H T I h⟩
def iE(h:Et X c σ H T):Ei X [c] σ H T:=⟨λpins s I=>Xd mh pins s σ H T I h⟩
def gN(sc:Scope)(N N':List Str)(n:Nat)(hi:PI X tg iter wi)
  (h:wi σ H λJ H1=>∀ D,H1 D=none->li X N' scope tg ifs elt J D (λH'=>Q (.ref D) H') (σ++List.replicate n none) (upd H1 D<|.lst []))
  (hc:X.calm=true:=by rfl) (i':X.env.scope=sc:=by rfl) (hN:X.N=N:=by rfl) (hk:nU sc scope N N'=true:=by decide +kernel) (hl:N'.length=N.length+n:=by rfl)
  (hs:∀ x,foldedSetIterable iter X.env x=pure x:=by intro _;rfl):Ev X (.ListComp elt [⟨tg,iter,ifs,0⟩] scope pos) σ H Q:=by
 refine⟨λpins s I=>?_⟩;subst i' hN;have ck:=bK.of hk;rw [eval_ListComp];refine FP (use:=none) rfl hs (rE λx hx hf=>I.ok.has x.1<|ck.free x hx hf) ck.kind ck.names (aF (hi pins s σ H _ I h) λv s1 h1=>aF h1 λjM s2 h2=>?_);obtain⟨it,fp,tn,J,H2,e,I2,T,dL,f2,q⟩:=h2;subst e;refine NX (RR:=λacc C=>compPost (model X.prog X.w) X.A X.xe none (EP X pins σ Q) acc C) hc ck hl I2 T dL f2 q ?_;intro D C H' s' m IX hn hC c1 c2 c3 c4 qq;exact⟨m,hn,λh' fb=>⟨.ref D,H',IX.turned (t':=s'.toks) (λb o hb e=>fb.extBut b o hb e) hC (CG<|CG c1) (.inr c2) c3 c4,rfl,qq⟩⟩
def rM(i:Nat){y:Str}{py uC:Pos}(sc:Scope)(N N':List Str)(n:Nat)(jv:X.N.Nodup)(hi:PI X tg iter wi)
  (h:wi σ H λJ H1=>∀ A,H1 A=none->li X N' scope tg ifs elt J A (λH'=>Run X rest D (σ.set i<|some<|.ref A) H') (σ++List.replicate n none) (upd H1 A<|.lst []))
  (XQ:X.N[i]?=some y:=by rfl) (hy:Loc X.env.scope y:=by first | exact Or.inl rfl | exact Or.inr rfl)
  (XR:swapsWith (.ListComp elt [⟨tg,iter,ifs,0⟩] scope pos) (some<|.Name y py) uC.line X.env=pure true:=by rfl)
  (hc:X.calm=true:=by rfl) (i':X.env.scope=sc:=by rfl) (hN:X.N=N:=by rfl) (hk:nU sc scope N N'=true:=by decide +kernel) (hl:N'.length=N.length+n:=by rfl)
  (hs:∀ x,foldedSetIterable iter X.env x=pure x:=by intro _;rfl) (hf:X.fn y=true\/X.env.scope.names.lookup y=some .local:=by first | exact .inl rfl | exact .inr rfl | assumption) :
  Run X (.Assign [.Name y py] (.ListComp elt [⟨tg,iter,ifs,0⟩] scope pos) uC :: rest) D σ H:=by
 refine ju (t:=λD' σ H=>wi σ H λJ H1=>∀ A,H1 A=none->li X N' scope tg ifs elt J A (λH'=>D'.nx (σ.set i<|some<|.ref A) H') (σ++List.replicate n none) (upd H1 A<|.lst [])) ?_ h;intro pins s σ H D I h;subst i' hN;have ck:=bK.of hk;rw [exec_Assign_Name_used _ _ _ _ XR];refine BJ<|EY<|BJ ?_;show wpAny _ X.A (do let _ <- comprehension (.ListComp elt [⟨tg,iter,ifs,0⟩] scope pos) scope X.env _ (newList []) false (eval iter X.env)<|some<|assign (.Name y py) X.env) _ _ s;refine BJ<|CK (FP (use:=some<|assign (.Name y py) X.env) (Q:=λ_ s'=>SP X pins D .next s') rfl hs (rE λx hx hf=>I.ok.has x.1<|ck.free x hx hf) ck.kind ck.names
  (aF (hi pins s σ H _ I h) λv s1 h1=>aF h1 λjM s2 h2=>?_)) (λ_ s' hq=>BP<|BP hq) λ_ _ e=>e
 obtain⟨it,fp,tn,J,H2,e,I2,T,dL,f2,q⟩:=h2;subst e;refine NX (Q:=λx H1=>D.nx (σ.set i<|some x) H1) (RR:=λacc C=>compPost (model X.prog X.w) X.A X.xe (some<|assign (.Name y py) X.env) (λ_ s'=>SP X pins D .next s') acc C) hc ck hl I2 T dL f2 q ?_;intro D' C H' s' m IX hn hC c1 c2 c3 c4 qq;show wpAny _ X.A (assign (.Name y py) X.env<|.ref D') _ _ _;refine wpAny_assign_Name<|L9 IX jv XQ hy (v:= .ref D') rfl (λpE XS DT=>?_) hf;obtain⟨a,DT,ha⟩:=DT;have XT:C≠a:=by
  rcases ha with ha | ha
  ·rw [ha];exact c1
  ·exact CG<|c3 _ _ ha
 refine⟨m,hn.sameBut DT XT,λh' fb=>⟨_,H',XS.turned (t':=pE.toks) (λb o hb e=>fb.extBut b o hb e) hC c1 (.inr c2) c3 c4,qq⟩⟩
end
structure aO(P:Program)(w:World)(K:PySem.W.Frag)(mg:Str->Option Value)(base:Heap)(k:Nat)(x:Str)(ps:List Str)(sp:Sp):Prop where
 ex:∃ f fd,aC P w K mg base bA k f fd ps sp/\Binds K fd ps []/\PySem.W.keepIn K (.ref f)=true/\mg x=some (.ref f)
def aO.mono{P:Program}{w:World}{K:PySem.W.Frag}{mg:Str->Option Value}{base:Heap}{j k:Nat}{x:Str}{ps:List Str}{sp:Sp}(h:aO P w K mg base j x ps sp)(le:j<=k):aO P w K mg base k x ps sp:=
 let ⟨f,fd,F,r⟩:=h.ex;⟨f,fd,F.mono le,r⟩
def bG{X:Cx}{k:Nat}{ps:List Str}{sp:Sp}{x:Str}{e:Expr}{es:List Expr}{σ:St}{H:Hp}{Q:VK}{p pos:Pos}(G:aO X.prog X.w X.K X.mg X.base k x ps sp)(hr:bo k X.A)
  (h:Ea X (e :: es) σ H λvs H1=>sp vs H1 Q E0) (hg:Gl X x:=by rfl) (cP:(x == ("__debug__" : Str))=false:=by decide) (hs:noStar (e :: es)=true:=by rfl):Ev X (.Call (.Name x p) (e :: es) [] pos) σ H Q:=
 let ⟨_,_,F,b,kp,m⟩:=G.ex;Nv F hr m kp b jT h hg cP hs
def _root_.L2.bo.gq{k:Nat}{A:Around}(hr:bo k A):A.units+100 < cLine:=by have:=hr.un;omega
def _root_.L2.bo.u1{k:Nat}{A:Around}(hr:bo k A):A.units+1 < cLine:=by have:=hr.un;omega
def Df(K:PySem.W.Frag)(x:Str)(st:Stmt):Prop:=∃(f:Addr) (fd:FuncData),PySem.W.nsIn K mainGlobals x=some (some<|.ref f)/\bu K x x st f fd
def uD{K:PySem.W.Frag}{x:Str}{st:Stmt}{f:Addr}{oc kV doc pm bE ct:Value}{od an:Option Addr}{sl:Array (Option Value)}(a:PySem.W.nsIn K mainGlobals x=some (some<|.ref f))
  (l:K.lookup f=some ⟨oc,od,.func<|PySem.W.fnOf x x (nP st) (gL st) (aP st) .none kV doc pm an bE ct,sl⟩) (c:PySem.W.codeIn K bE x=true) (k:PySem.W.keepIn K (.ref f)=true):Df K x st:=⟨f,_,a,WV l c k⟩
structure uE where
 f:Addr
 bE:Value
 A:Around
 outer:List Env
 s:Shared
 H:Hp
 E:XK
def DU(N:List Str)(qual:Str)(scope:Scope)(P:Program)(w:World)(K:PySem.W.Frag)(mg:Str->Option Value)(base:Heap)(b:uE):Cx:=(eN bA P w K mg base N qual scope b.f b.bE b.A b.outer b.s b.H b.E).lT
def En(Q:VK):Ends:={nx:=λ_ H'=>Q .non H',rt:=Q}
def bu.gb{P:Program}{w:World}{K:PySem.W.Frag}{mg:Str->Option Value}{base:Heap}{x qual:Str}{st:Stmt}{f:Addr}{fd:FuncData}{N ps:List Str}{k:Nat}{sp:Sp}(F:bu K x qual st f fd)(S:ao N ps<|aP st)(len:∀ vs H Q E,sp vs H Q E->vs.length=ps.length)
  (cQ:∀(b:uE) (H:Hp) (vs:List V) (Q:VK) (E:XK),bo k (b.A.deeper<|envOfC qual (aP st) b.s.heap.objs.size b.f b.bE)->sp vs H Q E->Run (DU N qual (aP st) P w K mg base b) (gL st) (En Q) (start N vs) H):aC P w K mg base bA (k+1) f fd ps sp:=
 F.go S len λbE A outer s H vs Q E hr dM=>cQ ⟨f,bE,A,outer,s,H,E⟩ H vs Q E hr dM
theorem ll{us:List Value}{k:Nat}(h:us.length=k+1):∃ a r,us=a :: r/\r.length=k:=by
 cases us with
 | nil=>cases h
 | cons a r=>exact⟨a,r,rfl,Nat.succ.inj h⟩
def jw{fd:FuncData}{ps:List Str}(f:∀ a:Value,bindArgs fd ⟨[a],[]⟩=pure (ps.zip [a])):∀ us:List Value,us.length=1->bindArgs fd ⟨us,[]⟩=pure (ps.zip us):=λus h=>by
 obtain⟨a,r0,e0,h0⟩:=ll h;have z:=Bj.mp h0;subst z e0;exact f a
def fP{fd:FuncData}{ps:List Str}(f:∀ a b:Value,bindArgs fd ⟨[a,b],[]⟩=pure (ps.zip [a,b])):∀ us:List Value,us.length=2->bindArgs fd ⟨us,[]⟩=pure (ps.zip us):=λus h=>by
 obtain⟨a,r0,e0,h0⟩:=ll h;obtain⟨b,r1,e1,h1⟩:=ll h0;have z:=Bj.mp h1;subst z e1 e0;exact f a b
def uF{fd:FuncData}{ps:List Str}(f:∀ a b c:Value,bindArgs fd ⟨[a,b,c],[]⟩=pure (ps.zip [a,b,c])):∀ us:List Value,us.length=3->bindArgs fd ⟨us,[]⟩=pure (ps.zip us):=λus h=>by
 obtain⟨a,r0,e0,h0⟩:=ll h;obtain⟨b,r1,e1,h1⟩:=ll h0;obtain⟨c,r2,e2,h2⟩:=ll h1;have z:=Bj.mp h2;subst z e2 e1 e0;exact f a b c
def DV{fd:FuncData}{ps:List Str}(f:∀ a b c d:Value,bindArgs fd ⟨[a,b,c,d],[]⟩=pure (ps.zip [a,b,c,d])):∀ us:List Value,us.length=4->bindArgs fd ⟨us,[]⟩=pure (ps.zip us):=λus h=>by
 obtain⟨a,r0,e0,h0⟩:=ll h;obtain⟨b,r1,e1,h1⟩:=ll h0;obtain⟨c,r2,e2,h2⟩:=ll h1;obtain⟨d,r3,e3,h3⟩:=ll h2;have z:=Bj.mp h3;subst z e3 e2 e1 e0;exact f a b c d
def Df.has{P:Program}{w:World}{K:PySem.W.Frag}{mg:Str->Option Value}{h base:Heap}{k:Nat}{x:Str}{st:Stmt}{ps:List Str}{sp:Sp}(d:Df K x st)(X:K.In h)(G:h.Ns mainGlobals mg)
  (hb:∀(kV doc pm:Value) (an:Option Addr) (bE ct:Value) (us:List Value),us.length=ps.length->bindArgs (PySem.W.fnOf x x (nP st) (gL st) (aP st) .none kV doc pm an bE ct) ⟨us,[]⟩=pure (ps.zip us))
  (ok:∀{f:Addr} {fd:FuncData},bu K x x st f fd->aC P w K mg base bA k f fd ps sp):aO P w K mg base k x ps sp:=
 let ⟨f,fd,a,F⟩:=d;⟨f,fd,ok F,F.binds hb,F.kp,KZ X G a⟩
def Df.law{P:Program}{w:World}{K:PySem.W.Frag}{mg:Str->Option Value}{h:Heap}{k:Nat}{x y:Str}{st:Stmt}{sp:Sp}{fa:Addr}(d:Df K x st)(X:K.In h)(G:h.Ns mainGlobals mg)(DZ:mg x=some (.ref fa))
  (hb:∀(kV doc pm:Value) (an:Option Addr) (bE ct:Value) (s:Shared) (v:Value),BindsTo s (PySem.W.fnOf x x (nP st) (gL st) (aP st) .none kV doc pm an bE ct) ⟨[v],[]⟩ [(y,v)])
  (ok:∀(base:Heap) {f:Addr} {fd:FuncData},bu K x x st f fd->aC P w K mg base bA k f fd [y] sp) :
  ∃ fd:FuncData,(∀(s:Shared) (v:Value),BindsTo s fd ⟨[v],[]⟩ [(y,v)])/\∀ base:Heap,K.In base->base.Ns mainGlobals mg->aC P w K mg base bA k fa fd [y] sp:=by
 obtain⟨f,fd,a,F⟩:=d;have e:=DZ.symm.trans<|KZ X G a;cases e;obtain⟨oc,od,kV,doc,pm,an,bE,ct,jO,rfl,lk,iw⟩:=id F.ex;exact⟨_,hb kV doc pm an bE ct,λbase _ _=>ok base F⟩
end L2
namespace bU
open PySem
def eO(w:World):Bool:=w.params.followText "set-order"
def keyOf(e:Int×Value):Str:=match e.2 with
 | .str x _=>x
 | _=>⟨#[]⟩
section
variable(prog:Program)(w:World)
def D0(e:Int×Value):Prop:=∃ z t,e=((strKind prog w).hash z,Value.str z t)
structure Tab(es:Array<|Int×Value)(t:SetTable)(zs:List Str):Prop where
 elts:∀ e∈es.toList,D0 prog w e
 keys:(es.toList.map keyOf).Perm zs
 nodup:zs.Nodup
 few:zs.length < 1000
 fits:t.fits es.size=true
 led:t.led = !eO w
 plain:es=#[]\/t.plain=false
def bv(h:Heap)(a:Addr)(zs:List Str):Prop:=∃ o es ep t,h.get? a=some o/\o.ExactSet/\o.data = .set es ep t/\Tab prog w es t zs
end
section
variable{prog:Program}{w:World}{es:Array (Int×Value)}{t:SetTable}{zs:List Str}{h h':Heap}{a:Addr}
def Tab.elems(T:Tab prog w es t zs):ElemsOf (strKind prog w) es.toList:=λe he=>by
 obtain⟨z,u,rfl⟩:=T.elts e he;exact⟨⟨z,QL _ _ _ _,rfl⟩,rfl⟩
def Tab.size(T:Tab prog w es t zs):es.size=zs.length:=by
 have:=T.keys.length_eq;rw [Aa,Ch] at this;exact this
def Tab.jY(T:Tab prog w es t zs):es.size < 1000:=by rw [T.size];exact T.few
def Tab.scan(T:Tab prog w es t zs):es.size < scanBound:=by have:=T.jY;unfold scanBound;omega
def Tab.perm{fu:Array (Int×Value)}{t':SetTable}(T:Tab prog w es t zs)(p:fu.toList.Perm es.toList)(hf:t'.fits fu.size=true)(hl:t'.led=t.led)(hp:fu=#[]\/t'.plain=false):Tab prog w fu t' zs:=
 ⟨λe he=>T.elts e<|p.mem_iff.mp he,(p.map keyOf).trans T.keys,T.nodup,T.few,hf,hl.trans T.led,hp⟩
def bv.keep(S:bv prog w h a zs)(k:∀ o,h.get? a=some o->h'.get? a=some o):bv prog w h' a zs:=let ⟨o,es,ep,t,h1,h2⟩:=S;⟨o,es,ep,t,k o h1,h2⟩
def bv.typeIs{s:Shared}(S:bv prog w s.heap a zs):s.TypeIs (.ref a) "set":=let ⟨o,_,_,_,h1,h2,_⟩:=S;⟨o,h1,h2.1⟩
def NY{o:Obj}{ep:Nat}{fu:Array (Int×Value)}{t':SetTable}{iF:List Str}(ho:h.get? a=some o)(hx:o.ExactSet)(hd:o.data = .set es ep t)(T':Tab prog w fu t' iF) :
  (h.update a<|Obj.putSet fu t').get? a=some {o with data:= .set fu (ep+1) t'}/\bv prog w (h.update a<|Obj.putSet fu t') a iF:=by
 have q:=Cr (Obj.putSet fu t') ho (by rw [putSet_of fu t' hd];rfl);rw [putSet_of fu t' hd] at q;exact⟨q,_,fu,ep+1,t',q,hx,rfl,T'⟩
def D1{e:Int×Value}(he:D0 prog w e)(z:Str):(strKind prog w).is z e.2=decide (z=keyOf e):=by
 obtain⟨y,u,rfl⟩:=he;exact KeyKind.is_eq_decide (QL prog w y u) z
def find_none(T:Tab prog w es t zs){z:Str}(hz:z∉zs):es.toList.findIdx? (λe=>(strKind prog w).is z e.2)=none:=by
 rw [List.findIdx?_eq_none_iff];intro e he;rw [D1<|T.elts e he,JZ];rintro rfl;exact hz<|T.keys.mem_iff.mp<|List.mem_map_of_mem he
theorem find_some(T:Tab prog w es t zs){z:Str}(hz:z∈zs):∃ j,∃ hj:j < es.toList.length,es.toList.findIdx? (λe=>(strKind prog w).is z e.2)=some j/\keyOf es.toList[j]=z:=by
 obtain⟨e,he,e2⟩:=Aj.mp<|T.keys.mem_iff.mpr hz;cases q:es.toList.findIdx? (λe=>(strKind prog w).is z e.2) with
 | none=>
  have:=List.findIdx?_eq_none_iff.mp q e he;rw [D1<|T.elts e he,JZ] at this;exact absurd e2.symm this
 | some j=>
  obtain⟨hj,p,_⟩:=List.findIdx?_eq_some_iff_getElem.mp q;rw [D1<|T.elts _<|Bs hj,GJ] at p;exact⟨j,hj,rfl,p.symm⟩
def XU(t:SetTable)(n:Nat):(t.orStandIn n).led=t.led/\((t.orStandIn n).plain=true->t.plain=true):=by
 unfold SetTable.orStandIn
 split
 ·exact⟨rfl,id⟩
 ·exact⟨rfl,λh=>by cases h⟩
def XW(t:SetTable)(es:Array<|Int×Value)(x:Int)(v:Value):(layNew t es x v).2.1.led=t.led:=by
 unfold layNew
 split
 ·exact(XU _ _).1
 ·rfl
theorem XX{mask f m:Nat}{l p:Bool}{hs:Array Int}{t':SetTable}{o:Array Nat}(e:SetTable.laid mask f m l p hs=some (t',o)):t'.led=l/\t'.plain=p:=by
 unfold SetTable.laid at e;cases c:SetTable.layClean mask hs with
 | none=>rw [c] at e;cases e
 | some ow=>rw [c] at e;cases e;exact⟨rfl,rfl⟩
def N0(t:SetTable)(es:Array<|Int×Value)(n:Nat)(hp:t.plain=false):(relayAll t es n).2.1.led=t.led/\(relayAll t es n).2.1.plain=false:=by
 unfold relayAll
 split
 ·rename_i t' o e;have q:=XX e
  dsimp only
  split
  ·exact⟨q.1,q.2.trans hp⟩
  ·exact⟨rfl,rfl⟩
 ·exact⟨rfl,rfl⟩
end
section
variable{prog:Program}{w:World}{A:Around}{E:Value->Shared->Prop}{s:Shared}{a:Addr}{zs:List Str}
def mv{n:Nat}(h:n < 1001):n<=sizeLine:=by rw [DY];omega
theorem N2{g:Bool->Sem Unit}(hg:∀(b:Bool) (s₁:Shared) (Q':Unit->Shared->Prop),Q' () s₁->wpAny (model prog w) A (g b) Q' E s₁)
  {o:Obj} {es:Array (Int×Value)} {ep:Nat} {t:SetTable} (ho:s.heap.get? a=some o) (hx:o.ExactSet) (hd:o.data = .set es ep t)
  {fQ:Array (Int×Value)} {t2:SetTable} (T:Tab prog w fQ t2 zs) (hp:t2.plain=false) {c:Bool} {R:Option Bool->Shared->Prop}
  (k:∀ h',Heap.SameBut a s.heap h'->bv prog w h' a zs->R (some true) {s with heap:=h'}) :
  wpAny (model prog w) A (do
   storeSet a fQ t2
   if c=true then do
     g (relayAll t2 fQ<|SetTable.grown fQ.size).2.2
     storeSet a (relayAll t2 fQ<|SetTable.grown fQ.size).1 (relayAll t2 fQ<|SetTable.grown fQ.size).2.1
     pure (some true)
    else pure (some true)) R E s:=by
 refine BJ<|wpAny_storeSet_of ho hd ?_<|mv<|Cn T.jY;obtain⟨q1,q2⟩:=NY ho hx hd T;have sb:=DK s.heap a<|Obj.putSet fQ t2;cases c with
 | false=>exact BP<|k _ sb q2
 | true=>
  have p:=relayAll_perm t2 fQ<|SetTable.grown fQ.size;have T3:=T.perm p (relayAll_fits t2 fQ<|SetTable.grown fQ.size) (N0 t2 fQ _ hp).1<|.inr (N0 t2 fQ _ hp).2;refine BJ<|hg _ _ _ ?_;refine BJ<|wpAny_storeSet_of q1 rfl ?_ (mv<|Cn T3.jY);exact BP<|k _ (sb.trans<|DK _ a _) (NY q1 hx rfl T3).2
def added(zs:List Str)(z:Str):List Str:=if z∈zs then zs else zs++[z]
def XY{z:Str}{tk:Tok}{Q:Bool->Shared->Prop}(S:bv prog w s.heap a zs)(hb:zs.length+1 < 1000)
  (k:∀(b:Bool) h',Heap.SameBut a s.heap h'->bv prog w h' a (added zs z)->Q b {s with heap:=h'}) :
  wpAny (model prog w) A (setAddHashed a (.str z tk)<|(strKind prog w).hash z) Q E s:=by
 obtain⟨o,es,ep,t,ho,hx,hd,T⟩:=S;unfold setAddHashed setAddHashedIn;refine CJ<|BJ<|DW ho hd T.fits ?_
 dsimp only
 rw [byScan_of (knd:=strKind prog w) (x:= .str z tk) rfl T.scan T.elems];simp only [↓reduceIte];unfold setAddByScan;refine BJ<|BJ<|GX<|BJ<|wpAny_setScan_of (knd:=strKind prog w) (k:=z) (QL _ _ _ _) ho hd T.fits T.elems ?_
 by_cases hz:z∈zs
 ·obtain⟨j,hj,e,_⟩:=find_some T hz;rw [e]
  dsimp only
  refine BP<|BP<|k false s.heap (Heap.SameBut.refl a s.heap) ?_;unfold added;rw [BL hz];exact⟨o,es,ep,t,ho,hx,hd,T⟩
 ·rw [find_none T hz]
  dsimp only
  have gw:∀(b:Bool) (s₁:Shared) (Q':Unit->Shared->Prop),Q' () s₁->wpAny (model prog w) A (match b with | true=>rule "set.scan.the-table-gave-way" | false=>pure ()) Q' E s₁:=
   λb s₁ Q' q=>by cases b <;> first | exact BP q | exact GX q
  have p:=layNew_perm t es ((strKind prog w).hash z)<|.str z tk;have f:=layNew_fits t es ((strKind prog w).hash z)<|.str z tk;have l:=XW t es ((strKind prog w).hash z)<|.str z tk;generalize layNew t es ((strKind prog w).hash z) (.str z tk)=L at p f l ⊢;obtain⟨fQ,t1,wd,gv⟩:=L
  dsimp only at p f l ⊢
  rw [Array.toList_push] at p;have tab:∀ t2:SetTable,t2.fits fQ.size=true->t2.led=t1.led->t2.plain=false->Tab prog w fQ t2 (zs++[z]):=λt2 h1 h2 h3=>{
   elts:=λe he=>by
    rcases An.mp (p.mem_iff.mp he) with he | he
    ·exact T.elts e he
    ·exact⟨z,tk,Ag.mp he⟩
   keys:=by
    refine(p.map keyOf).trans ?_;rw [Ai];exact T.keys.append<|List.Perm.refl _
   nodup:=by
    rw [Cf];refine⟨T.nodup,by simp,λx hx y hy e=>?_⟩;rw [Ag] at hy;subst hy e;exact hz hx
   few:=by rw [Ad];exact hb
   fits:=h1
   led:=h2.trans<|l.trans T.led
   plain:= .inr h3}
  have fin:∀ h',Heap.SameBut a s.heap h'->bv prog w h' a (zs++[z])->Q true {s with heap:=h'}:=λh' q1 q2=>k true h' q1 (by unfold added;rw [BK hz];exact q2);refine BJ<|gw _ _ _ ?_
  split
  ·rename_i hp;refine BJ ?_;rw [hashByValue_scannable 8 rfl];refine BP ?_;refine N2 gw ho hx hd (tab {t1 with plain:=false} (SetTable.fits_plain_off f) rfl rfl) rfl λh' q1 q2=>?_
   dsimp only
   exact BP<|fin h' q1 q2
  ·rename_i hp;refine BJ<|BP ?_;simp only [↓reduceIte];refine N2 gw ho hx hd (tab t1 f rfl (Ed.mpr hp)) (Ed.mpr hp) λh' q1 q2=>?_
   dsimp only
   exact BP<|fin h' q1 q2
def XZ{z:Str}{tk:Tok}{Q:Option Nat->Shared->Prop}{o:Obj}{es:Array (Int×Value)}{ep:Nat}{t:SetTable}(ho:s.heap.get? a=some o)(hd:o.data = .set es ep t)(T:Tab prog w es t zs)
  (k0:z∉zs->Q none s) (k1:∀ j,(hj:j < es.toList.length)->keyOf es.toList[j]=z->Q (some j) s):wpAny (model prog w) A (setFind a (.str z tk)<|(strKind prog w).hash z) Q E s:=by
 unfold setFind setFindIn;refine BJ<|DW ho hd T.fits ?_
 dsimp only
 rw [byScan_of (knd:=strKind prog w) (x:= .str z tk) rfl T.scan T.elems];simp only [↓reduceIte];refine BJ<|GX<|BJ<|wpAny_setScan_of (knd:=strKind prog w) (k:=z) (QL _ _ _ _) ho hd T.fits T.elems ?_
 by_cases hz:z∈zs
 ·obtain⟨j,hj,e,q⟩:=find_some T hz;rw [e]
  dsimp only
  rw [Fs];exact BP<|k1 j hj q
 ·rw [find_none T hz];exact BP<|k0 hz
theorem bV{α:Type}:∀(l:List α) (j:Nat) (hj:j < l.length),(l[j] :: l.eraseIdx j).Perm l
 | [],_,h=>by simp at h
 | x :: r,0,_=>List.Perm.refl _
 | x :: r,j+1,h=>(List.Perm.swap x _ _).trans<|(bV r j<|Nat.lt_of_succ_lt_succ h).cons x
theorem N3{α:Type}(next:Nat->Nat):∀(fuel k:Nat) (left:List α) (out:Array α),left.length<=fuel->(pickOrder.go next fuel k left out).toList.Perm (out.toList++left)
 | 0,k,left,out,h=>by
  have:left=[]:=Bj.mp (by omega);subst this;unfold pickOrder.go;simp
 | fuel+1,k,left,out,h=>by
  unfold pickOrder.go;cases e:left[next k % left.length]? with
  | none=>
   have:left=[]:=by
    cases left with
    | nil=>rfl
    | cons x r=>
     have hl:next k % (x :: r).length < (x :: r).length:=UJ _ (by simp);rw [Ab hl] at e;cases e
   subst this;simp
  | some x=>
   dsimp only
   obtain⟨hl,e2⟩:=Ac.mp e;refine(N3 next fuel (k+1) _ _ (by rw [Dk,BL hl];omega)).trans ?_;rw [Array.toList_push,As];refine LQ _ ?_;have:=bV left _ hl;rw [e2] at this;exact this
def X0{α:Type}(next:Nat->Nat)(xs:Array α):(pickOrder next xs).toList.Perm xs.toList:=by
 have:=N3 next xs.size 0 xs.toList #[] (by simp)
 simpa [pickOrder] using this
def wp_choose{src:Source}{n:Nat}{Q:Nat->Shared->Prop}(hn:n≠0)(h:∀ i d,i < n->Q i {s with drawn:=d}):wpAny (model prog w) A (choose src n) Q E s:=
 λΓ p _=>⟨hn,h _ _<|UJ _<|Nat.pos_of_ne_zero hn⟩
theorem N4{α:Type}:∀(n:Nat) (xs:List α) (s:Shared) (Q:List α->Shared->Prop),xs.length<=n->(∀ ys d,ys.Perm xs->Q ys {s with drawn:=d})->wpAny (model prog w) A (drawOrder n xs) Q E s
 | 0,xs,s,Q,h,k=>by
  have:xs=[]:=Bj.mp (by omega);subst this;unfold drawOrder;exact BP<|k [] s.drawn<|List.Perm.refl _
 | n+1,[],s,Q,h,k=>by
  unfold drawOrder;exact BP<|k [] s.drawn<|List.Perm.refl _
 | n+1,x :: r,s,Q,h,k=>by
  unfold drawOrder;refine BJ (wp_choose (by simp) λi d hi=>?_);rw [Ab hi]
  dsimp only
  refine BJ (N4 n _ _ _ (by rw [Dk,BL hi];omega) λys d2 p=>?_);exact BP<|k _ d2<|(p.cons _).trans<|bV _ i hi
def wp_text{Q:Bool->Shared->Prop}(k:Q (eO w) s):wpAny (model prog w) A setsByText Q E s:=by
 unfold setsByText;exact BJ<|LK<|BP k
variable{o:Obj}{es:Array (Int×Value)}{ep:Nat}{t:SetTable}
end
open Builtin.Frozenset
section
variable{prog:Program}{w:World}{A:Around}{E:Value->Shared->Prop}{s:Shared}{a:Addr}{zs:List Str}
structure pM(w:World)(t:SetTable):Prop where
 place:t.place=#[]
 dummies:t.dummies=#[]
 led:t.led = !eO w
 plain:t.plain=true
def pM.tab{t:SetTable}(B:pM w t):Tab prog w #[] t []:=
 ⟨λe he=>by simp at he,by simp,Cj,by decide,by unfold SetTable.fits SetTable.fill;rw [B.place,B.dummies];simp,B.led,.inl rfl⟩
variable{o:Obj}{ep:Nat}{t:SetTable}
end
section
variable{prog:Program}{w:World}{A:Around}{E:Value->Shared->Prop}{s:Shared}{a r:Addr}{za zr:List Str}
end
def N5(zs:List Str)(z y:Str):y∈added zs z↔y∈zs\/y=z:=by
 unfold added
 split
 ·rename_i h;exact⟨.inl,λq=>q.elim id λe=>e ▸ h⟩
 ·rw [An,Ag]
section
variable{prog:Program}{w:World}{A:Around}{E:Value->Shared->Prop}{s:Shared}
def pN(w:World):Obj:={cls:= .type "set",dict:=none,data:= .set #[] 0 (.fresh 0 0 (!eO w))}
def N6{h:Heap}{a:Addr}(e:h.get? a=some (pN w)):bv prog w h a []:=⟨_,_,_,_,e,⟨rfl,rfl,rfl⟩,rfl,pM.tab ⟨rfl,rfl,rfl,rfl⟩⟩
variable{R:Result->Shared->Prop}{I:Addr}{fp wr:List Addr}{G:Array GenState->Array GenState->Prop}{n:Nat}{P:Nat->Value->Prop}{St:Nat->Shared->Prop}
end
def slot_next:Slot "set_iterator" "__next__" "set_iterator.__next__":=
 .of (owner:= "set_iterator") (n:= "__next__") (by rw [RW,LR];kernel_rfl) (by decide +kernel) (by decide +kernel) (by decide +kernel)
  (by first | exact .inl (by decide +kernel) | exact .inr<|by decide +kernel) (by rw [isSubtype_type];kernel_rfl)
def entry_next:entryFor table "set_iterator.__next__" = some Builtin.«set_iterator.__next__»:=entryFor_of_fast<|by kernel_rfl
def args_next(a:Value):argsOk "set_iterator.__next__" ⟨[a],[]⟩:=by unfold argsOk;kernel_rfl
def X1:entryFor table "set.__iter__" = some Builtin.«frozenset.__iter__»:=
 entryFor_alias (id':= "frozenset.__iter__") (by kernel_rfl) rfl (by decide +kernel) (by kernel_rfl)
def lr(first:Value)(i:Nat)(a:Addr)(n ep:Nat):Obj:={cls:= .type "set_iterator",data:= .fields #[first,.int i 0,.ref a,.int n 0,.int ep 0]}
def fw(ys:List Nat):Obj:={cls:= .type "tuple",data:= .seq (ys.map λ(i:Nat)=>rawInt i).toArray}
inductive Way (w:World) (h:Heap) (a tp:Addr) (es:Array<|Int×Value) (ep:Nat) (t:SetTable) (ws:List<|Int×Value) (i:Nat):Value->Prop where
 | drawn (ys:List Nat) (ht:h.get? tp=some (fw ys)) (hl:ys.length=es.size) (hw:∀ j:Nat,∀ y,ys[j]?=some y->es[y]?=ws[j]?):Way w h a tp es ep t ws i<|.ref tp
 | text (c:Int) (hb:eO w=true) (hw:ws=(pickOrder (w.params.setOrder a ep) es).toList):Way w h a tp es ep t ws i<|.int c 0
 | one (c:Nat) (hb:eO w=false) (hs:es.size<=1) (hw:ws=es.toList) (hc:SetTable.below t.place c=i):Way w h a tp es ep t ws i<|.int c 0
section
variable{prog:Program}{w:World}{A:Around}{E:Value->Shared->Prop}{s:Shared}{a tp it:Addr}{zs:List Str}{o:Obj}{es:Array (Int×Value)}{ep:Nat}{t:SetTable}{ws:List (Int×Value)}{i:Nat}{first:Value}
def N7(j c:Nat):SetTable.below #[j] c=if j < c then 1 else 0:=by
 unfold SetTable.below;show SetTable.below.go #[j] c 1 0 1=_;unfold SetTable.below.go;simp only [Nat.zero_lt_one,DN];show(if(#[j]:Array Nat).getD 0 c < c then SetTable.below.go #[j] c 0 1 1 else SetTable.below.go #[j] c 0 0 0)=_;rw [show(#[j]:Array Nat).getD 0 c=j by rfl]
 split <;> rfl
theorem Way.keep{h h':Heap}(W:Way w h a tp es ep t ws i first)(k:∀ o,h.get? tp=some o->h'.get? tp=some o):Way w h' a tp es ep t ws i first:=by
 cases W with
 | drawn ys ht hl hw=>exact .drawn ys (k _ ht) hl hw
 | text c hb hw=>exact .text c hb hw
 | one c hb hs hw hc=>exact .one c hb hs hw hc
def uG{h:Heap}{n:Nat}(x:Value)(e:h.get? it=some (lr first i a n ep)):(h.update it (Obj.mapFields (·.setIfInBounds 0 x))).get? it=some (lr x i a n ep):=Cr _ e rfl
def up1{h:Heap}{n:Nat}(e:h.get? it=some (lr first i a n ep)):(h.update it (Obj.mapFields (·.setIfInBounds 1 (rawInt<|(i:Int)+1)))).get? it=some (lr first (i+1) a n ep):=Cr _ e rfl
theorem N8{p:Array Nat}(h:p.size=1):∃ j,p=#[j]:=by
 obtain⟨l⟩:=p
 match l,h with
 | [j],_=>exact⟨j,rfl⟩
def N9(T:Tab prog w es t zs):t.place.size=es.size:=by
 have:=T.fits;unfold SetTable.fits at this;rw [Bq,JX] at this;exact this.1
theorem X2{Q:Option Value->Shared->Prop}(hi:s.heap.get? it=some (lr first i a es.size ep))(ho:s.heap.get? a=some o)(hd:o.data = .set es ep t)(T:Tab prog w es t zs)(hW:Way w s.heap a tp es ep t ws i first)
  (bw:tp≠it) (hp:ws.Perm es.toList) {e:Int×Value} (he:ws[i]?=some e) (k:∀ h' jZ,Heap.SameBut it s.heap h'->h'.get? it=some (lr jZ (i+1) a es.size ep)->Way w h' a tp es ep t ws (i+1) jZ->Q (some e.2) {s with heap:=h'}) :
  wpAny (model prog w) A (pyNext<|.ref it) Q E s:=by
 have hT:s.TypeIs (.ref it) "set_iterator":=⟨_,hi,rfl⟩;unfold pyNext;refine BJ<|IK<|HY (name:=Str.ofString "__next__") hT slot_next<|CV slot_next hT entry_next ?_<|args_next _;unfold Builtin.«set_iterator.__next__»;refine BJ<|BP ?_;refine BJ<|PB hi rfl ?_
 dsimp only
 refine BJ<|OJ ho hd T.fits ?_;rw [BK<|by simp];have Oa:∀ x,Heap.SameBut it s.heap ((s.heap.update it (Obj.mapFields (·.setIfInBounds 0 x))).update it (Obj.mapFields (·.setIfInBounds 1 (rawInt<|(i:Int)+1)))):=λx=>(DK ..).trans<|DK ..;have lv:i < es.size:=by
  have h1:ws.length=es.size:=by simpa using hp.length_eq
  rcases Dt i ws.length with h | h
  ·omega
  ·rw [Bc h] at he;cases he
 have Ob:Heap.SameBut it s.heap (s.heap.update it (Obj.mapFields (·.setIfInBounds 1 (rawInt<|(i:Int)+1)))):=DK ..;cases hW with
 | drawn ys ht hl hw=>
  dsimp only
  have hy:ys[i]?=some (ys[i]'(by omega)):=Ab _;generalize ys[i]'(by omega)=y at hy;refine BJ<|wpAny_seqItems ht rfl ?_
  dsimp only
  have e1:(ys.map λ(i:Nat)=>rawInt i).toArray[(i:Int).toNat]?=some (.int y 0):=by
   rw [Bf,TF,Af,hy];rfl
  rw [e1]
  dsimp only
  unfold setNextDrawn;refine BJ<|BJ<|DW ho hd T.fits ?_
  dsimp only
  rw [BK<|by simp];have e2:es[(y:Int).toNat]?=some e:=by
   rw [Bf,hw i y hy];exact he
  rw [e2]
  dsimp only
  refine BP (BJ<|DG hi rfl (by simp) ?_);refine BP ⟨_,rfl,BP<|k _ _ Ob (up1 hi)<|.drawn ys ?_ hl hw⟩;rw [Ob.2 tp bw];exact ht
 | text c hb hw=>
  dsimp only
  unfold setNext;refine BJ<|BJ<|DW ho hd T.fits ?_
  dsimp only
  refine BJ<|wp_text ?_;rw [hb];simp only [DN];rw [BK<|by simp];unfold setWalk;refine BJ<|BJ<|DW ho hd T.fits ?_
  dsimp only
  refine BJ<|wp_text ?_;rw [hb];simp only [DN];refine BJ<|LK ?_;refine BP ?_;have e1:(pickOrder ((model prog w).w.params.setOrder a ep) es)[(i:Int).toNat]?=some e:=by
   rw [Bf,<- Bo];show(pickOrder (w.params.setOrder a ep) es).toList[i]?=_;rw [<- hw];exact he
  rw [e1];refine BP ?_
  dsimp only [Option.map]
  refine BJ (DG hi rfl (by simp) ?_);refine BJ (DG (uG _ hi) rfl (by simp) ?_);exact BP ⟨_,rfl,BP<|k _ _ (Oa _) (up1<|uG _ hi)<|.text _ hb hw⟩
 | one c hb hs hw hc=>
  have X3:i=0:=by omega
  have jx:es.size=1:=by omega
  subst X3;have Oc:t.place.size=1:=(N9 T).trans jx;obtain⟨j,hj⟩:=N8 Oc
  dsimp only
  unfold setNext;refine BJ<|BJ<|DW ho hd T.fits ?_
  dsimp only
  refine BJ<|wp_text ?_;rw [hb];simp only [Bu,DQ];show wpAny _ _ (if(!t.plain && decide (es.size > 1))=true then _ else _) _ _ _;rw [BK<|by rw [jx];simp];refine BJ ?_;show wpAny _ _ (if(!t.led && !es.isEmpty)=true then _ else _) _ _ _;rw [BK<|by rw [T.led,hb];simp];refine BP ?_;rw [Bf,hc];have e1:es[0]?=some e:=by
   rw [<- Bo,<- hw];exact he
  have e2:t.place[0]?=some j:=by rw [hj];rfl
  rw [e1,e2];refine BP ?_
  dsimp only
  refine BJ (DG hi rfl (by simp) ?_);refine BJ (DG (uG _ hi) rfl (by simp) ?_);refine BP ⟨_,rfl,BP<|k _ _ (Oa _) (up1<|uG _ hi)<|.one (j+1) hb hs hw ?_⟩;rw [hj,N7,BL<|QT _]
theorem X4{Q:Option Value->Shared->Prop}(hh:A.handled=none)(hi:s.heap.get? it=some (lr first i a es.size ep))(ho:s.heap.get? a=some o)(hd:o.data = .set es ep t)(T:Tab prog w es t zs)(hW:Way w s.heap a tp es ep t ws i first)
  (hp:ws.Perm es.toList) (he:i=es.size) (k:∀ h',Heap.ExtBut it s.heap h'->Q none {s with heap:=h'}) :
  wpAny (model prog w) A (pyNext<|.ref it) Q E s:=by
 have hT:s.TypeIs (.ref it) "set_iterator":=⟨_,hi,rfl⟩;have wl:ws.length=es.size:=by simpa using hp.length_eq
 unfold pyNext;refine BJ<|IK<|HY (name:=Str.ofString "__next__") hT slot_next<|CV slot_next hT entry_next ?_<|args_next _;unfold Builtin.«set_iterator.__next__»;refine BJ<|BP ?_;refine BJ<|PB hi rfl ?_
 dsimp only
 refine BJ<|OJ ho hd T.fits ?_;rw [BK<|by simp];have fin:∀ h2:Heap,Heap.SameBut it s.heap h2->wpAny (model prog w) A.in1 (newExc (Value.type "StopIteration") [] >>= λx=>(raiseNew x:Sem Fin)) (λfin s'=>∃ v,fin=Fin.done (Flow.ret v)/\wpAny (model prog w) A (pure<|some v) Q E s')
   (λe s'=>wpAny (model prog w) A (isInstance e (Value.type "StopIteration") >>= λb=>if b=true then pure none else throw e) Q E s') {s with heap:=h2}:=by
  intro h2 sb;refine BJ ?_;simp only [newExc,newTuple];refine BJ (CQ ?_<|by size_fits);refine BJ (m:=firstArgMember _ _) (JM (a:=Value.none) (by first | rfl | (simp only [firstArgMember];rfl)) ?_);refine CQ ?_ (by size_fits);simp only [raiseNew];refine BJ<|wpAny_handled ?_;rw [show A.in1.handled=none from hh];refine BJ<|BP<|wpAny_throw ?_;refine BJ<|QV (T:= "StopIteration") (b:=true) ⟨_,Aq _ rfl,rfl⟩ isSubtype_stop ?_;exact BP<|k _<|(sb.extBut.push _).push _
 cases hW with
 | drawn ys ht hl hw=>
  dsimp only
  refine BJ<|wpAny_seqItems ht rfl ?_
  dsimp only
  have e1:(ys.map λ(i:Nat)=>rawInt i).toArray[(i:Int).toNat]?=none:=by
   rw [Bf,TF,Bc];rw [Aa];omega
  rw [e1]
  dsimp only
  refine BJ (DG hi rfl (by simp) ?_);refine BJ (DG (uG _ hi) rfl (by simp) ?_);exact fin _<|(DK ..).trans<|DK ..
 | text c hb hw=>
  dsimp only
  unfold setNext;refine BJ<|BJ<|DW ho hd T.fits ?_
  dsimp only
  refine BJ<|wp_text ?_;rw [hb];simp only [DN];rw [BK<|by simp];unfold setWalk;refine BJ<|BJ<|DW ho hd T.fits ?_
  dsimp only
  refine BJ<|wp_text ?_;rw [hb];simp only [DN];refine BJ<|LK ?_;refine BP ?_;have e1:(pickOrder ((model prog w).w.params.setOrder a ep) es)[(i:Int).toNat]?=none:=by
   rw [Bf,<- Bo];show(pickOrder (w.params.setOrder a ep) es).toList[i]?=_;rw [<- hw,Bc];omega
  rw [e1];refine BP ?_
  dsimp only [Option.map]
  refine BJ (DG hi rfl (by simp) ?_);exact fin _<|DK ..
 | one c hb hs hw hc=>
  dsimp only
  unfold setNext;refine BJ<|BJ<|DW ho hd T.fits ?_
  dsimp only
  refine BJ<|wp_text ?_;rw [hb];simp only [Bu,DQ];show wpAny _ _ (if(!t.plain && decide (es.size > 1))=true then _ else _) _ _ _;rw [BK<|by rw [BR<|by omega];simp];refine BJ ?_;show wpAny _ _ (if(!t.led && !es.isEmpty)=true then _ else _) _ _ _;rw [BK<|by rw [T.led,hb];simp];refine BP ?_;rw [Bf,hc];have e1:es[i]?=none:=Ft (by omega);rw [e1];refine BP ?_
  dsimp only
  refine BJ (DG hi rfl (by simp) ?_);exact fin _<|DK ..
open PySem.Spec
def Od:Slot "set_iterator" "__iter__" "set_iterator.__iter__":=
 .of (owner:= "set_iterator") (n:= "__iter__") (by rw [RW,LR];kernel_rfl) (by decide +kernel) (by decide +kernel) (by decide +kernel)
  (by first | exact .inl (by decide +kernel) | exact .inr<|by decide +kernel) (by rw [isSubtype_type];kernel_rfl)
def X5:entryFor table "set_iterator.__iter__" = some Builtin.«dict_keyiterator.__iter__»:=
 entryFor_alias (id':= "dict_keyiterator.__iter__") (by kernel_rfl) rfl (by decide +kernel) (by kernel_rfl)
def X6(a:Value):argsOk "set_iterator.__iter__" ⟨[a],[]⟩:=by unfold argsOk;kernel_rfl
def X7(hh:A.handled=none)(h1:a≠it)(h2:tp≠it)(hd:o.data = .set es ep t)(T:Tab prog w es t zs)(hp:ws.Perm es.toList) :
  Walks prog w A it [it,a,tp] [it] es.size (λi v=>∃ e,ws[i]?=some e/\v=e.2) (λi h=>∃ first,h.get? it=some (lr first i a es.size ep)/\h.get? a=some o/\Way w h a tp es ep t ws i first) where
 sub:=λb hb=>by simp at hb;simp [hb]
 frame:=λi h h' ⟨first,q1,q2,q3⟩ k=>⟨first,k it (by simp) _ q1,k a (by simp) _ q2,q3.keep<|k tp<|by simp⟩
 item:=λi s Q E hi ⟨first,q1,q2,q3⟩ k=>by
  have wl:ws.length=es.size:=by simpa using hp.length_eq
  obtain⟨e,he⟩:∃ e,ws[i]?=some e:=⟨ws[i]'(by omega),Ab _⟩;refine X2 q1 q2 hd T q3 h2 hp he λh' f' sb g1 g2=>?_;exact k _ h' s.toks ⟨e,he,rfl⟩ ⟨f',g1,by rw [sb.2 a h1];exact q2,g2⟩ λb o hb e=>by rw [sb.2 b λh=>hb<|by simp [h]];exact e
 done:=λs Q E ⟨first,q1,q2,q3⟩ k=>X4 hh q1 q2 hd T q3 hp rfl λh' e=>k h' s.toks λb o hb e2=>e b o (λh=>hb<|by simp [h]) e2
 self:=λi s Q E ⟨first,q1,q2,q3⟩ k=>by
  have hT:s.TypeIs (.ref it) "set_iterator":=⟨_,q1,rfl⟩;refine KH hT Od<|CV Od hT X5 ?_<|X6 _;show wpAny _ _ (ret<|.ref it) _ _ s;exact BP ⟨_,rfl,"set_iterator",_,hT,slot_next.lookup,k⟩
def X8(es:Array<|Int×Value):(List.range es.size).map (λy=>(es[y]?).getD (0,Value.none))=es.toList:=by
 refine QW (by simp) λj h1 h2=>?_;rw [Dl,Ej];have:j < es.size:=by simpa using h2
 rw [Fe this];simp
def X9{Q:Value->Shared->Prop}(ho:s.heap.get? a=some o)(hx:o.ExactSet)(hd:o.data = .set es ep t)(T:Tab prog w es t zs)
  (k:∀ h' d it tp ws first,(∀ b u,s.heap.get? b=some u->h'.get? b=some u)->s.heap.objs.size<=it->it < h'.objs.size->tp < h'.objs.size->(tp=a\/s.heap.objs.size<=tp)->tp≠it->h'.get? it=some (lr first 0 a es.size ep)->Way w h' a tp es ep t ws 0 first->ws.Perm es.toList->Q (.ref it) {s with heap:=h',drawn:=d}) :
  wpAny (model prog w) A (pyIter<|.ref a) Q E s:=by
 have hT:s.TypeIs (.ref a) "set":=⟨o,ho,hx.1⟩;have aX:a < s.heap.objs.size:=Ar ho;refine KH hT F.slot_set_iter<|CV F.slot_set_iter hT X1 ?_<|F.args_set_iter_1 _;unfold Builtin.«frozenset.__iter__» slot0 slotArgs;simp only [QX,Fj,Bu,↓reduceIte,bind_assoc,Em,KJ];unfold addrOf Builtin.Frozenset.sizeOf;refine BJ<|BP ?_;refine BJ<|BP ?_;refine BJ<|BJ<|OJ ho hd T.fits<|BP ?_;unfold setDrawn;refine BJ<|BJ<|DW ho hd T.fits ?_
 dsimp only
 refine BJ<|wp_text ?_;refine BP ?_
 by_cases c:(!eO w && (!t.plain && decide (es.size > 1)))=true
 ·show wpAny _ _ (if(!eO w && (!t.plain && decide (es.size > 1)))=true then _ else _) _ _ _;rw [BL c];refine BJ (N4 _ _ _ _ (by simp) λys d p=>?_);have uH:ys.length=es.size:=by simpa using p.length_eq
  refine BJ (PJ ?_<|by rw [Aa,uH];exact mv<|Cn T.jY);have o1:(s.heap.push<|fw ys).get? a=some o:=Ae _ ho;refine BJ<|wpAny_setEpoch_of (s:={s with heap:=s.heap.push<|fw ys,drawn:=d}) o1 hd T.fits ?_;refine BJ<|CQ<|BP ⟨_,rfl,"set_iterator",_,⟨_,Aq _ rfl,rfl⟩,slot_next.lookup,?_⟩;have jx:(s.heap.push<|fw ys).objs.size=s.heap.objs.size+1:=Dm ..;refine k _ d _ s.heap.objs.size (ys.map λy=>(es[y]?).getD (0,Value.none)) (.ref s.heap.objs.size) (λb u e=>Ae _<|Ae _ e) (by show s.heap.objs.size<=(s.heap.push<|fw ys).objs.size;omega) ?_ ?_ (.inr<|Am _) ?_ (Aq _ rfl) ?_ ?_
  ·show(s.heap.push<|fw ys).objs.size < ((s.heap.push<|fw ys).push _).objs.size;simp only [Dm];omega
  ·show s.heap.objs.size < ((s.heap.push<|fw ys).push _).objs.size;rw [Dm,jx];omega
  ·show s.heap.objs.size≠(s.heap.push<|fw ys).objs.size;omega
  ·refine .drawn ys (Ae _<|Aq _ rfl) uH λj y hy=>?_;have hm:y < es.size:=by
    have:=p.mem_iff.mp<|At hy
    simpa using this
   rw [Af,hy];show _=some ((es[y]?).getD (0,Value.none));rw [Fe hm];rfl
  ·have:=p.map λy=>(es[y]?).getD (0,Value.none);rwa [X8] at this
 ·show wpAny _ _ (if(!eO w && (!t.plain && decide (es.size > 1)))=true then _ else _) _ _ _;rw [BK c];refine BJ<|BP ?_;refine BJ<|wpAny_setEpoch_of ho hd T.fits ?_;refine BJ<|CQ<|BP ⟨_,rfl,"set_iterator",_,⟨_,Aq _ rfl,rfl⟩,slot_next.lookup,?_⟩;have kk:=λws hW hp=>k (s.heap.push<|lr (.int 0 0) 0 a es.size ep) s.drawn s.heap.objs.size a ws (.int 0 0) (λb u e=>Ae _ e) (Am _) (by rw [Dm];exact QT _) (by rw [Dm];exact Cn aX) (.inl rfl) (Bn aX) (Aq _ rfl) hW hp;cases hb:eO w with
  | true=>exact kk _ (.text 0 hb rfl)<|X0 _ _
  | false=>
   have h1:es.size<=1:=by
    rcases T.plain with q | q
    ·rw [q];simp
    ·rw [hb,q] at c;simp at c;exact c
   refine kk es.toList (.one 0 hb h1 rfl ?_)<|List.Perm.refl _;have Oc:=N9 T
   rcases Dt es.size 1 with h | h
   ·have:t.place=#[]:=Array.eq_empty_of_size_eq_zero (by omega);rw [this];rfl
   ·obtain⟨j,hj⟩:=N8 (p:=t.place) (by omega);rw [hj,N7,BK<|Dv _]
def Ya:typeLookup (.type "set") "__len__" = pure (some<|.builtin "set.__len__"):=F.slot_set_len.lookup
def Yb{Q:Bool->Shared->Prop}(hT:s.TypeIs (.ref a) "set")(k:Q false s):wpAny (model prog w) A (Builtin.List.listLengthHint<|.ref a) Q E s:=by
 unfold Builtin.List.listLengthHint;refine BJ<|RT hT Ya ?_
 dsimp only
 have e1:splitId "set.__len__" = some ("set","__len__"):=by kernel_rfl
 rw [e1]
 dsimp only
 refine BJ<|QV hT sub_set_self ?_;simp only [Fj,Bu,DQ];rw [BL]
 ·exact BJ<|MP hT<|BP k
 ·decide +kernel
def Yc{Q:List Value->Shared->Prop}(hh:A.handled=none)(ho:s.heap.get? a=some o)(hx:o.ExactSet)(hd:o.data = .set es ep t)(T:Tab prog w es t zs)
  (k:∀ s' (acc:List<|Int×Value),(∀ b u,s.heap.get? b=some u->s'.heap.get? b=some u)->s'.gens=s.gens->s'.os=s.os->s.heap.objs.size < s'.heap.objs.size->acc.Perm es.toList->Q (acc.map (·.2)) s'):wpAny (model prog w) A (collect<|.ref a) Q E s:=by
 have aX:a < s.heap.objs.size:=Ar ho;unfold collect;refine BJ<|wpAny_runValue<|FW F.entry_proto_collect ?_;rw [FT F.plain_proto_collect _];show wpAny _ A.in1 (newList [] >>= λl=>again<|.builtin "list.__iadd__" ⟨[l,.ref a],[]⟩) _ _ s;refine BJ<|HN ?_;refine BP ⟨JL KN _,FW F.entry_list_iadd ?_⟩;rw [FT KN _];generalize hL:s.heap.objs.size=L;have mw:(s.heap.push {cls:= .type "list",data:= .seq ([]:List Value).toArray}).get? a=some o:=Ae _ ho;have Yd:(s.heap.push {cls:= .type "list",data:= .seq ([]:List Value).toArray}).get? L=some {cls:= .type "list",data:= .seq ([]:List Value).toArray}:=by rw [<- hL];exact Aq _ rfl
 have hT:Shared.TypeIs {s with heap:=s.heap.push {cls:= .type "list",data:= .seq ([]:List Value).toArray}} (.ref a) "set":=⟨o,mw,hx.1⟩;show wpAny _ A.in1 (Builtin.List.listExtendWith (.ref L) (.ref a)<|.ref L) _ _ _;unfold Builtin.List.listExtendWith;refine BJ<|MP hT ?_;have n1:Builtin.List.listSameRef (.ref L) (.ref a)=false:=by
  have:L≠a:=by rw [<- hL];exact Cm aX
  simp [Builtin.List.listSameRef,this]
 have n2:(Value.type "set" == Value.type "list")=false:=by decide
 have n3:(Value.type "set" == Value.type "tuple")=false:=by decide
 simp only [n1,n2,n3,Bool.or_false,Bu,DQ];refine BJ<|X9 mw hx hd T λh2 d it tp ws first pO rN hi2 iG yj bw gi W p=>?_;have Oe:=pO a o mw;have yk:=pO L _ Yd;have mz:(s.heap.push {cls:= .type "list",data:= .seq ([]:List Value).toArray}).objs.size=L+1:=by rw [Dm,hL]
 refine BJ<|CJ<|Yb (a:=a) (s:={s with heap:=h2,drawn:=d}) ⟨o,Oe,hx.1⟩ ?_;show wpAny _ A.in1 (rule "list.extend.makes-room" >>= λ_=>Builtin.List.listTouch (.ref L) >>= λ_=>again<|.builtin "list.extend.loop" ⟨[.ref L,.ref it,.ref L],[]⟩) _ _ _;refine BJ<|GX ?_;refine BJ ?_;show wpAny _ A.in1 (updateSeq L (·.push .none) >>= λ_=>updateSeq L (·.pop)) _ _ _;refine BJ<|wpAny_updateSeq yk rfl ?_;have Og:=Cr (Obj.mapSeq (·.push Value.none)) yk rfl;refine wpAny_updateSeq Og rfl ?_;have Ye:=Cr (Obj.mapSeq (·.pop)) Og rfl;have g8:∀ b u,b≠L->h2.get? b=some u->((h2.update L (Obj.mapSeq (·.push Value.none))).update L (Obj.mapSeq (·.pop))).get? b=some u:=
  λb u hb e=>(Br _ _<|CG hb).trans<|(Br _ _<|CG hb).trans e
 have uI:it≠L:=by
  have g9:L+1<=it:=by rw [<- mz];exact rN
  exact Cm g9
 have D4:a≠L:=by rw [<- hL];exact Bn aX
 have Yf:a≠it:=by
  have g9:L+1<=it:=by rw [<- mz];exact rN
  intro e;rw [<- hL,<- e] at g9;exact absurd g9<|Nat.not_le.mpr<|Cn aX
 have Oh:tp≠L:=by
  rcases yj with h | h
  ·rw [h];exact D4
  ·have h':L+1<=tp:=by rw [<- mz];exact h
   exact Cm h'
 have nW:L∉[it,a,tp]:=by
  intro h
  rcases Al.mp h with h | h
  ·exact uI h.symm
  ·rcases Al.mp h with h | h
   ·exact D4 h.symm
   ·exact Oh (Ag.mp h).symm
 refine BP ⟨JL F.plain_extend_loop _,codeAny_extend_loopS ((X7 (by simp [hh]) Yf bw hd T p).toS) (mv<|Cn T.jY) L nW (.ref L) es.size 0 _ _ _ rfl (Bp _) ⟨first,g8 it _ uI gi,g8 a _ D4 Oe,W.keep λu e=>g8 tp u Oh e⟩ Ye (ItemsOf.nil _) λs' acc c m lz hI=>?_⟩;show wpAny _ A (load L >>= _) _ _ s';refine BJ<|wpAny_load lz ?_;have wl:ws.length=es.size:=by simpa using p.length_eq
 have el:acc.toList=ws.map (·.2):=by
  refine Do λj=>?_;rw [Bo,Af];cases hj:acc[j]? with
  | none=>
   have:ws[j]?=none:=by
    rw [Bc];rw [wl,<- hI.1];exact Array.getElem?_eq_none_iff.mp hj
   rw [this];rfl
  | some v=>
   obtain⟨e,h1,h2⟩:=hI.2 j v hj;rw [h1,h2];rfl
 refine BP ?_;rw [el];refine k s' ws (λb u e=>?_) m.gens m.os (by rw [hL];exact Ar lz) p;have hb:b < s.heap.objs.size:=Ar e;have Oi:b≠L:=by rw [<- hL];exact Bn hb
 have Oj:b≠it:=by
  intro q;have g9:L+1<=it:=by rw [<- mz];exact rN
  rw [<- hL,<- q] at g9;exact absurd g9<|Nat.not_le.mpr<|Cn hb
 refine m.heap b u (λh=>?_)<|g8 b u Oi<|pO b u<|Ae _ e
 rcases Al.mp h with h | h
 ·exact Oi h
 ·exact Oj<|Ag.mp h
end
end bU
namespace bU
open PySem PySem.Spec PyProof.Rows
def Yg(a b:List Nat):ltCps a b=decide (a < b):=ltCps_eq a b
theorem dW:∀(l:List Str) (p:Str),risingS p l=true->∀ x∈l,p.cps.toList<=x.cps.toList
 | [],_,_,x,hx=>by cases hx
 | y :: r,p,h,x,hx=>by
  unfold risingS at h;rw [Bq,Bool.not_eq_true',Yg,JZ] at h;have h1:p.cps.toList<=y.cps.toList:=h.1
  rcases Al.mp hx with rfl | hx
  ·exact h1
  ·exact List.le_trans h1<|dW r y h.2 x hx
theorem eQ{p:Str}:∀{l:List Str},risingS p l=true->sortedS l=true
 | [],_=>rfl
 | y :: r,h=>by
  unfold risingS at h;rw [Bq] at h;exact h.2
def iH{a b:Str}(h:a.cps.toList=b.cps.toList):a=b:=by
 cases a;cases b;simp only at h;have:=Array.toList_inj.mp h;rw [this]
theorem Ol{prog:Program}{w:World}:∀(l:List<|Int×Value),(∀ e∈l,D0 prog w e)->StrsAre (l.map (·.2)) (l.map keyOf)
 | [],_=> .nil
 | e :: r,h=>by
  obtain⟨z,t,rfl⟩:=h e Ah;exact .cons z t<|Ol r λx hx=>h x<|Ak _ hx
section
variable{prog:Program}{w:World}{A:Around}{E:Value->Shared->Prop}{s:Shared}{a:Addr}{zs:List Str}
def Yh{Q:Value->Shared->Prop}(hh:A.handled=none)(S:bv prog w s.heap a zs)(mB:zs.length < 64)
  (k:∀(s':Shared) (l:Addr) (out:Array Value) (e:Nat) (ss:List Str),(∀ b u,s.heap.get? b=some u->s'.heap.get? b=some u)->s'.gens=s.gens->s'.os=s.os->s.heap.objs.size<=l->s'.heap.get? l=some (seqObj "list" out e)->StrsAre out.toList ss->ss.Perm zs->sortedS ss=true->Q (.ref l) s') :
  wpAny (model prog w) A (call (.builtin "sorted") [.ref a]) Q E s:=by
 obtain⟨o,es,ep,t,ho,hx,hd,T⟩:=S;refine JQ kind_sorted plain_sorted entry_sorted (args_sorted1 _) ?_;unfold Builtin.«sorted»;refine BJ (m:=checkCount "sorted" 1 1 _)<|BP ?_;refine BJ (Yc (by simp [hh]) ho hx hd T λs1 acc kp g1 o1 z1 p=>?_);have hS:=Ol (prog:=prog) (w:=w) acc λe he=>T.elts e<|p.mem_iff.mp he;have hlen:(acc.map (·.2)).length=zs.length:=by
  rw [Aa,p.length_eq,Ch,T.size]
 refine BJ (HN ?_<|by rw [hlen];exact mv<|by omega);have gI:(s1.heap.push (seqObj "list" (acc.map (·.2)).toArray 0)).get? s1.heap.objs.size=some (seqObj "list" (acc.map (·.2)).toArray 0):=Aq _ rfl;have hsz:s.heap.objs.size<=s1.heap.objs.size:=Bw z1;refine BJ (CJ<|CV slot_list_sort ⟨_,gI,rfl⟩ entry_list_sort (list_sort_treeK strKind_oneLt gI hS.keysOf (λv₁ v₂ rest e=>keyKind_strs<|by rw [<- e];exact hS) (by rw [hlen];exact mB) λcY a1 a2=>⟨_,rfl,?_⟩)<|args_list_sort _);obtain⟨ss,q1,q2,q3⟩:=sorted_out_str hS a1 a2;obtain⟨e,he⟩:=sortedHeap_at (out:=(arrOf cY).map (·.2)) gI;refine BP ⟨_,rfl,k _ _ _ e ss (λb u hb=>?_) g1 o1 hsz he q1 (q2.trans<|(p.map keyOf).trans T.keys) q3⟩;have jy:=kp b u hb;have aX:=Ar jy;show(sortedHeap (s1.heap.push _) s1.heap.objs.size _ _).get? b=some u;rw [sortedHeap_old (Bn aX)<|by rw [size_push'];exact Cn aX];exact Ae _ jy
end
end bU
namespace L2
open PySem PySem.Spec PyProof.Rows bU
def bC(prog:Program)(w:World)(a:Addr)(zs:List Str):HO:= .ext λh=>bv prog w h a zs
section
variable{X:Cx}{pins:List (Addr×Obj)}{σ:St}{H:Hp}{s s':Shared}{a:Addr}{zs:List Str}
def Inv.like(I:Inv X pins σ H s)(e1:s'.heap=s.heap)(e2:s'.gens=s.gens)(e3:s'.os=s.os):Inv X pins σ H s':=by
 obtain⟨h,g,d,t,o⟩:=s;obtain⟨h',g',d',t',o'⟩:=s';simp only at e1 e2 e3;subst e1 e2 e3;exact⟨I.ok,I.os,I.bare,I.base,I.loc,I.cell,I.free,I.bt,I.pin,I.aB,I.len⟩
def Inv.fc{o:HO}(I:Inv X pins σ H s)(k:∀ b u,s.heap.get? b=some u->s'.heap.get? b=some u)(e2:s'.gens=s.gens)(e3:s'.os=s.os)(hp:s.heap.objs.size<=a)(new:az X.prog X.w (upd H a o) s'.heap a o):Inv X pins σ (upd H a o) s':=
 (I.laid (t':=s.toks) k hp new).like (s':=s') rfl e2 e3
def yl{h:Heap}(S:bv X.prog X.w h a zs):az X.prog X.w H h a (bC X.prog X.w a zs):=by
 refine⟨S,?_,λh1 h2 q k=>q.keep k⟩;obtain⟨o,_,_,_,ho,_⟩:=S;exact⟨o,ho⟩
def Inv.set(I:Inv X pins σ H s)(h:H a=some (bC X.prog X.w a zs)):bv X.prog X.w s.heap a zs:=(I.aB a _ h).1
theorem D5:∀{zs:List Str} {us:List Value},ax (zs.map V.str) us->StrsAre us zs
 | [],_,.nil=> .nil
 | z :: r,_,.cons q qs=>by
  obtain⟨t,rfl⟩:=q;exact .cons z t<|D5 qs
theorem ym:∀{us:List Value} {zs:List Str},StrsAre us zs->ax (zs.map V.str) us
 | _,_,.nil=> .nil
 | _,_,.cons z t q=> .cons ⟨t,rfl⟩<|ym q
def Yi(hc:X.calm=true):fv X (.builtin "sorted") (λxs H Q=>∃ p zs,xs=[.ref p]/\H p=some (bC X.prog X.w p zs)/\zs.length < 64/\∀ l ss,H l=none->ss.Perm zs->sortedS ss=true->Q (.ref l) (upd H l<|.lst<|ss.map V.str)):=by
 intro pins s σ H xs us Q I r h;obtain⟨p,zs,rfl,hp,hl,q⟩:=h;obtain⟨u,rfl,ru⟩:=vals1 r;cases (show u=Value.ref p from ru);refine Yh (I.ok.hd hc) (I.set hp) hl λs' l out e ss kp e2 e3 rN he hS cL fS=>?_;have hlen:ss.length<=sizeLine:=by rw [cL.length_eq];exact mv<|by omega
 refine⟨.ref _,_,I.fc (s':=s') kp e2 e3 rN (show az X.prog X.w _ s'.heap l (.lst<|ss.map V.str) from⟨by rw [Aa];exact hlen,out.toList,e,ym hS,he⟩),rfl,q _ ss (I.aB.fresh rN) cL fS⟩
def uJ:fv X (.builtin "sorted") (λxs H Q=>∃ p zs,xs=[.ref p]/\ai X.K H p (zs.map V.str)/\zs.length < 64/\∀ l ss,H l=none->ss.Perm zs->sortedS ss=true->Q (.ref l) (upd H l<|.lst<|ss.map V.str)):=by
 intro pins s σ H xs us Q I r h;obtain⟨p,zs,rfl,hp,hl,q⟩:=h;obtain⟨u,rfl,ru⟩:=vals1 r;cases (show u=Value.ref p from ru);obtain⟨its,rv,pl,hz⟩:=I.list hp;have e1:=rv.length;rw [Aa] at e1;refine PyProof.Rows.sorted_strs pl.isList (D5 rv) (by omega) λout ss hS cL fS=>?_;obtain⟨e,he⟩:=sortedAll_at s.heap its out;have hlen:ss.length<=sizeLine:=by rw [cL.length_eq];exact mv<|by omega
 refine⟨.ref _,_,I.fc (s':={s with heap:=sortedAll s.heap its out}) (λb u hb=>QC hb) rfl rfl (Eb _) (show az X.prog X.w _ _ _ (.lst<|ss.map V.str) from⟨by rw [Aa];exact hlen,out.toList,e,ym hS,he⟩),rfl,q _ ss (I.aB.fresh<|Eb _) cL fS⟩
end
end L2
namespace L2
open PySem PySem.Spec PyProof.Rows
section
variable{X:Cx}{o e:Expr}{σ:St}{H:Hp}{Q:VK}{ap cp:Pos}
def j3 (h:Ev X o σ H λx H1=>∃ l,x = .ref l/\(∃ xs,H1 l=some (.lst xs))/\Ev X e σ H1 λy H2=>∃ xs,H2 l=some (.lst xs)/\xs.length < sizeLine/\Q .non (upd H2 l<|.lst<|xs++[y]))
  (bJ:attributeBase o "append" X.env (eval o X.env)=eval o X.env:=by rfl)
  (c6:((backTo cp<|starEach [e] X.env).all (λx=>!x.1) && (backToKw cp<|keywordEach [] X.env).all (λx=>x.1.isSome) && decide ([e].length+([]:List Keyword).length+(if([]:List Keyword).isEmpty then 0 else 1) < 30))=true:=by rfl)
  (hline:(ap.endLine == cp.line)=true:=by rfl) (hs:starEach [e] X.env=(false,eval e X.env) :: starEach [] X.env:=by rfl) (b4:(backTo cp<|starEach [] X.env).any (·.1)=false:=by rfl) (cg:isStar e=false:=by rfl) :
  Ev X (.Call (.Attribute o "append" ap) [e] [] cp) σ H Q:=by
 refine cW (B6 CW PySem.F.slot_list_append PySem.F.type_list_append MZ bf (gn (es:=[e])) bJ c6 hline hs b4)<|h.mono λx H1 ⟨l,ex,⟨xs,hl⟩,h2⟩=>?_;subst ex;refine⟨.inl ⟨rfl,xs,ai.of hl⟩,?_⟩;exact aj (h2.mono λy H2 ⟨ys,hy,hz,q⟩=>aA ⟨l,ys,y,rfl,rfl,hy,hz,q⟩) cg
end
section
variable{X:Cx}{c:Expr}{body lg rest:List Stmt}{D:Ends}{σ:St}{H:Hp}{pos:Pos}
def Run.nx{M M':St->Hp->Prop}{l:List Stmt}(h:Run X l {D with nx:=M} σ H)(f:∀ σ' H',M σ' H'->M' σ' H'):Run X l {D with nx:=M'} σ H:=
 ⟨λpins s I => aF (h.run pins s I) λfl s' q => by
  cases fl with
  | next=>
   obtain⟨σ',H',I',m⟩:=q;exact⟨σ',H',I',f σ' H' m⟩
  | _=>exact q⟩
def D6(φ ψ:Prop)(M:St->Hp->Prop)(hc:∀ T:Bool->Hp->Prop,(∀ k:Bool,(k=true->φ)->(k=false->ψ)->T k H)->Et X c σ H T)(ht:φ->Run X body {D with nx:=M} σ H)(hu:ψ->Run X lg {D with nx:=M} σ H)
  (hr:∀ σ' H',M σ' H'->Run X rest D σ' H'):Run X (.If c body lg pos :: rest) D σ H:=
 yf φ ψ hc (λp=>(ht p).nx hr) (λp=>(hu p).nx hr)
end
def jz(X:Cx)(H:Hp)(k:Nat)(x y:V)(b:Bool):Prop:=∀(pins:List<|Addr×Obj) (σ:St) (s:Shared) (A:Around) (u v:Value),Inv X pins σ H s->A.units+k < cLine->RelV x u->RelV y v->SeqAt.EqAt A s u v b
def lB(X:Cx)(H:Hp)(k:Nat)(x y:V)(b:Bool):Prop:=∀(pins:List<|Addr×Obj) (σ:St) (s:Shared) (A:Around) (u v:Value),Inv X pins σ H s->A.units+k < cLine->RelV x u->RelV y v->SeqAt.RcAt A s u v b
def nY(X:Cx)(H:Hp)(k:Nat)(x y:V)(b:Bool):Prop:=∀(pins:List<|Addr×Obj) (σ:St) (s:Shared) (A:Around) (u v:Value),Inv X pins σ H s->A.units+k < cLine->RelV x u->RelV y v->SeqAt.RcNeAt A s u v (!b)
section
variable{X:Cx}{H:Hp}{k:Nat}{a b:Addr}{xs ys:List V}
def pP{x y:V}(fx:jP x=true)(fy:jP y=true):jz X H k x y (cE x y):=λ_ _ _ _ _ _ _ _ rx ry=>MR rx ry fx fy
def Yj:jz X H k (.ref a) (.ref a) true:=λ_ _ _ _ u v _ _ rx ry=>by
 cases rx;cases ry;exact SeqAt.EqAt.same _
def Yk(bw:a≠b){c:Bool}(h:lB X H k (.ref a) (.ref b) c):jz X H k (.ref a) (.ref b) c:=λpins σ s A u v I hu rx ry=>by
 cases rx;cases ry;exact SeqAt.EqAt.of_refs bw<|h pins σ s A _ _ I hu rfl rfl
def nZ{us:List Value}(r:ax xs us){j:Nat}(h:j < us.length):∃ x,xs[j]?=some x/\RelV x us[j]:=by
 have hl:=r.length;have hj:j < xs.length:=by omega
 obtain⟨u,e,q⟩:=r.get<|Ab hj;rw [Ab h] at e;cases e;exact⟨_,Ab hj,q⟩
def D7(e:Nat->Bool)(ha:ai X.K H a xs)(hb:ai X.K H b ys)(hl:xs.length=ys.length)(he:∀ j x y,xs[j]?=some x->ys[j]?=some y->jz X H k x y (e j)):lB X H (k+1) (.ref a) (.ref b) ((List.range xs.length).all e):=λpins σ s A u v I hu rx ry=>by
 cases rx;cases ry;obtain⟨i1,r1,p1,_⟩:=I.list ha;obtain⟨i2,r2,p2,_⟩:=I.list hb;have l1:=r1.length;have l2:=r2.length;have q:=SeqAt.RcAt.lists (A:=A) (e:=e) p1.isList p2.isList (by simp;omega) (by omega) λj h1 h2=>by
  obtain⟨x,ex,qx⟩:=nZ r1 (j:=j) (by simpa using h1);obtain⟨y,ey,qy⟩:=nZ r2 (j:=j) (by simpa using h2);exact he j x y ex ey pins σ s A.in1 _ _ I (by show A.units+1+k < cLine;omega) (by simpa using qx)<|by simpa using qy
 rw [Aw,<- l1] at q;exact q
def yn(e:Nat->Bool)(ha:ai X.K H a xs)(hb:ai X.K H b ys)(hl:xs.length=ys.length)(he:∀ j x y,xs[j]?=some x->ys[j]?=some y->jz X H k x y (e j)):nY X H (k+1) (.ref a) (.ref b) ((List.range xs.length).all e):=λpins σ s A u v I hu rx ry=>by
 cases rx;cases ry;obtain⟨i1,r1,p1,_⟩:=I.list ha;obtain⟨i2,r2,p2,_⟩:=I.list hb;have l1:=r1.length;have l2:=r2.length;have q:=SeqAt.RcNeAt.lists (A:=A) (e:=e) p1.isList p2.isList (by simp;omega) (by omega) λj h1 h2=>by
  obtain⟨x,ex,qx⟩:=nZ r1 (j:=j) (by simpa using h1);obtain⟨y,ey,qy⟩:=nZ r2 (j:=j) (by simpa using h2);exact he j x y ex ey pins σ s A.in1 _ _ I (by show A.units+1+k < cLine;omega) (by simpa using qx)<|by simpa using qy
 rw [Aw,<- l1] at q;exact q
def Yl(ha:ai X.K H a xs)(hb:ai X.K H b ys)(hl:xs.length≠ys.length):lB X H k (.ref a) (.ref b) false:=λpins σ s A u v I hu rx ry=>by
 cases rx;cases ry;obtain⟨i1,r1,p1,_⟩:=I.list ha;obtain⟨i2,r2,p2,_⟩:=I.list hb;have l1:=r1.length;have l2:=r2.length;exact SeqAt.RcAt.lists_lengths p1.isList p2.isList (by simp;omega)<|by omega
def Om(ha:ai X.K H a xs)(hb:ai X.K H b ys)(hl:xs.length≠ys.length):nY X H k (.ref a) (.ref b) false:=λpins σ s A u v I hu rx ry=>by
 cases rx;cases ry;obtain⟨i1,r1,p1,_⟩:=I.list ha;obtain⟨i2,r2,p2,_⟩:=I.list hb;have l1:=r1.length;have l2:=r2.length;exact SeqAt.RcNeAt.lists_lengths p1.isList p2.isList (by simp;omega)<|by omega
def Oo(e:Nat->Bool)(ha:aM X.K H a xs)(hb:aM X.K H b ys)(hl:xs.length=ys.length)(he:∀ j x y,xs[j]?=some x->ys[j]?=some y->jz X H k x y (e j)):lB X H (k+1) (.ref a) (.ref b) ((List.range xs.length).all e):=λpins σ s A u v I hu rx ry=>by
 cases rx;cases ry;obtain⟨i1,r1,p1,_⟩:=I.tuple ha;obtain⟨i2,r2,p2,_⟩:=I.tuple hb;have l1:=r1.length;have l2:=r2.length;have q:=SeqAt.RcAt.tuples (A:=A) (e:=e) p1 p2 (by omega) λj h1 h2=>by
  obtain⟨x,ex,qx⟩:=nZ r1 (j:=j) (by simpa using h1);obtain⟨y,ey,qy⟩:=nZ r2 (j:=j) (by simpa using h2);exact he j x y ex ey pins σ s A.in1 _ _ I (by show A.units+1+k < cLine;omega) (by simpa using qx)<|by simpa using qy
 rw [Aw,Aw,<- l1,<- l2,hl,Nat.min_self,<- hl] at q
 simpa using q
def uK(n:Nat):(List.range n).all (λ_=>true)=true:=by simp
def yo(hu:X.A.units+100 < cLine):cC X (compareOp .Eq) (λx y H Q=>∃ k c,k<=100/\lB X H k x y c/\Q (.bl c) H):=by
 intro pins s σ H x y v u Q I rx ry h;obtain⟨k,c,hk,hc,q⟩:=h;exact hc pins σ s X.A v u I (by omega) rx ry X.prog X.w X.xe _ ⟨.bl c,H,I,rfl,q⟩
def rO(hu:X.A.units+100 < cLine):cC X (compareOp .NotEq) (λx y H Q=>∃ k c,k<=100/\nY X H k x y c/\Q (.bl (!c)) H):=by
 intro pins s σ H x y v u Q I rx ry h;obtain⟨k,c,hk,hc,q⟩:=h;exact hc pins σ s X.A v u I (by omega) rx ry X.prog X.w X.xe _ ⟨.bl (!c),H,I,rfl,q⟩
def Oq(e:Nat->Bool)(ha:aM X.K H a xs)(hb:aM X.K H b ys)(hl:xs.length=ys.length)(he:∀ j x y,xs[j]?=some x->ys[j]?=some y->jz X H k x y (e j)):nY X H (k+1) (.ref a) (.ref b) ((List.range xs.length).all e):=λpins σ s A u v I hu rx ry=>by
 cases rx;cases ry;obtain⟨i1,r1,p1,_⟩:=I.tuple ha;obtain⟨i2,r2,p2,_⟩:=I.tuple hb;have l1:=r1.length;have l2:=r2.length;have q:=SeqAt.RcNeAt.tuples (A:=A) (e:=e) p1 p2 (by omega) λj h1 h2=>by
  obtain⟨x,ex,qx⟩:=nZ r1 (j:=j) (by simpa using h1);obtain⟨y,ey,qy⟩:=nZ r2 (j:=j) (by simpa using h2);exact he j x y ex ey pins σ s A.in1 _ _ I (by show A.units+1+k < cLine;omega) (by simpa using qx)<|by simpa using qy
 rw [Aw,Aw,<- l1,<- l2,hl,Nat.min_self,<- hl] at q
 simpa using q
end
section
variable{X:Cx}{o e f c:Expr}{σ:St}{H:Hp}{Q:VK}{T:Bool->Hp->Prop}{ap cp pos:Pos}{body rest:List Stmt}{D:Ends}
def Ym{name:Str}{Ty id:String}{r:V->List V->Hp->VK->Prop}(pa:PlainAttrs Ty)(slot:Slot Ty name id)(l3:typeOf (.builtin id)=pure (.type "method_descriptor"))(hm:uf X id r)
  (h:Ev X o σ H λx H1=>lY X.K Ty x H1/\r x [] H1 Q) (bJ:attributeBase o name X.env (eval o X.env)=eval o X.env:=by rfl) (hline:(ap.endLine == cp.line)=true:=by rfl):Ev X (.Call (.Attribute o name ap) [] [] cp) σ H Q:=
 cW (Wx pa slot l3 hm bf bJ hline) h
def uL{name:Str}{Ty id:String}{r:V->List V->Hp->VK->Prop}(pa:PlainAttrs Ty)(slot:Slot Ty name id)(l3:typeOf (.builtin id)=pure (.type "method_descriptor"))(hm:uf X id r)
  (h:Ev X o σ H λx H1=>lY X.K Ty x H1/\Ev X e σ H1 λy H2=>r x [y] H2 Q) (bJ:attributeBase o name X.env (eval o X.env)=eval o X.env:=by rfl)
  (c6:((backTo cp<|starEach [e] X.env).all (λx=>!x.1) && (backToKw cp<|keywordEach [] X.env).all (λx=>x.1.isSome) && decide ([e].length+([]:List Keyword).length+(if([]:List Keyword).isEmpty then 0 else 1) < 30))=true:=by rfl)
  (hline:(ap.endLine == cp.line)=true:=by rfl) (hs:starEach [e] X.env=(false,eval e X.env) :: starEach [] X.env:=by rfl) (b4:(backTo cp<|starEach [] X.env).any (·.1)=false:=by rfl) (cg:isStar e=false:=by rfl):Ev X (.Call (.Attribute o name ap) [e] [] cp) σ H Q:=
 cW (B6 pa slot l3 hm bf (gn (es:=[e])) bJ c6 hline hs b4) (h.mono λx H1 ⟨t,h2⟩=>⟨t,aj (h2.mono λy H2 q=>aA q) cg⟩)
def D8{name:Str}{Ty id:String}{r:V->List V->Hp->VK->Prop}(pa:PlainAttrs Ty)(slot:Slot Ty name id)(l3:typeOf (.builtin id)=pure (.type "method_descriptor"))(hm:uf X id r)
  (h:Ev X o σ H λx H1=>lY X.K Ty x H1/\Ev X e σ H1 λy H2=>Ev X f σ H2 λz H3=>r x [y,z] H3 Q) (bJ:attributeBase o name X.env (eval o X.env)=eval o X.env:=by rfl)
  (c6:((backTo cp<|starEach [e,f] X.env).all (λx=>!x.1) && (backToKw cp<|keywordEach [] X.env).all (λx=>x.1.isSome) && decide ([e,f].length+([]:List Keyword).length+(if([]:List Keyword).isEmpty then 0 else 1) < 30))=true:=by rfl)
  (hline:(ap.endLine == cp.line)=true:=by rfl) (hs:starEach [e,f] X.env=(false,eval e X.env) :: starEach [f] X.env:=by rfl) (b4:(backTo cp<|starEach [f] X.env).any (·.1)=false:=by rfl) (cg:isStar e=false:=by rfl) (Yn:isStar f=false:=by rfl):Ev X (.Call (.Attribute o name ap) [e,f] [] cp) σ H Q:=
 cW (B6 pa slot l3 hm bf (gn (es:=[e,f])) bJ c6 hline hs b4) (h.mono λx H1 ⟨t,h2⟩=>⟨t,aj (h2.mono λy H2 h3=>aj (h3.mono λz H3 q=>aA q) Yn) cg⟩)
def insertAt(xs:List V)(i:Nat)(y:V):List V:=xs.take i++y :: xs.drop i
def Yo:V->List V->Hp->VK->Prop:=λx vs H Q=>∃ l xs i y,x = .ref l/\vs=[.int i,y]/\H l=some (.lst xs)/\0<=i/\i.toNat<=xs.length/\xs.length < sizeLine/\Q .non (upd H l<|.lst<|insertAt xs i.toNat y)
def Yp{i:Int}(h0:0<=i)(h:i<=16777216):¬(!Builtin.List.listFitsIndex i)=true:=by
 have e:Builtin.List.listFitsIndex i=true:=by
  unfold Builtin.List.listFitsIndex;rw [Bq,GJ,GJ];omega
 rw [e];exact Av
def Ot:nO X "list.insert" Yo:=by
 intro pins s σ H x vs v us Q I rx rv h;obtain⟨l,xs,i,y,rfl,rfl,hH,h0,hi,hz,q⟩:=h;cases rx;obtain⟨u,w',rfl,ru,dJ⟩:=rv.two;obtain⟨tk,rfl⟩:=ru;obtain⟨z,its,n,r,hl,e⟩:=I.f9 hH;have hs:sizeLine=16777216:=DY;have z2:its.toArray.size<=sizeLine:=by rw [Aw,<- hl];exact z
 have mm:=AutoSeq1.list_insert_list_int_val_1 l its.toArray n i tk w' (Yp h0<|by omega) z2;refine MN F.slot_list_insert ⟨_,e,rfl⟩ F.entry_list_insert (F.args_list_insert_3 _ _ _) mm ⟨e,?_⟩;have ef:(λxs:Array Value=>have k:=if i < 0 then(i+(xs.size:Int)).toNat else min i.toNat xs.size;(xs.extract 0 k).push w'++xs.extract k) its.toArray=(its.take i.toNat++w' :: its.drop i.toNat).toArray:=by
  have hn:¬ i < 0:=by omega
  have hm:min i.toNat its.length=i.toNat:=by omega
  simp only [hn,DQ,Aw,hm];apply Array.ext';simp;exact Dc<|by simp
 refine⟨.non,_,I.jQ (its':=its.take i.toNat++w' :: its.drop i.toNat) hH e ef ((r.take i.toNat).append<|.cons dJ<|r.drop i.toNat) ?_,rfl,q⟩;rw [Ad,Ax,Bd,Db];omega
def Yq:V->List V->Hp->VK->Prop:=λx vs H Q=>∃ a kvs k y,x = .ref a/\vs=[kV k,y]/\H a=some (.dK kvs)/\kvs.length < sizeLine /\
 ((∃ v,al kvs k=some v/\Q v H)\/(al kvs k=none/\Q y (upd H a<|.dK<|putK kvs k y)))
def Yr:nO X "dict.setdefault" Yq:=by
 intro pins s σ H x vs v us Q I rx rv h;obtain⟨a,kvs,k,y,rfl,rfl,hH,hz,q⟩:=h;cases rx;obtain⟨u,w',rfl,ru,dJ⟩:=rv.two;obtain⟨z,hd,rs,rel,dd⟩:=uq I.aB hH;have hl:=rel.length;refine call_meetsIn F.slot_dict_setdefault dd.typeIs F.entry_dict_setdefault (F.args_dict_setdefault_3 _ _ _) (kt_meets_setdefault (dh X.prog X.w) a (nQ ru) hd w') ⟨rs,dd,by omega,λv hv=>?_,λhn h' i5 hs=>?_⟩
 ·have gP:=rel.val k;rw [hv] at gP
  rcases q with ⟨v',e',q⟩ | ⟨e',_⟩
  ·rw [e'] at gP;exact⟨v',H,I.tok _,gP,q⟩
  ·rw [e'] at gP;exact gP.elim
 ·have gP:=rel.val k;rw [hn] at gP
  rcases q with ⟨v',e',_⟩ | ⟨e',q⟩
  ·rw [e'] at gP;exact gP.elim
  ·have he:∃ q,h'.get? a=some q:=let ⟨q,_,_,hq,_⟩:=i5;⟨q,hq⟩
   have gJ:(putK kvs k y).length<=sizeLine:=by have:=i4 kvs k y;omega
   exact⟨y,_,l' I (by rw [hH];exact True.intro) hs he<|CH gJ hd (rel.put k dJ) i5,dJ,q⟩
def D9:fv X (.type "int") (λxs H Q=>∃ b:Bool,xs=[.bl b]/\Q (.int (if b then 1 else 0)) H):=by
 intro pins s σ H xs us Q I r h;obtain⟨b,rfl,q⟩:=h;obtain⟨u,rfl,ru⟩:=vals1 r;cases (show u=Value.bool b from ru);exact call_int_bool ⟨.int (if b then 1 else 0),H,I.tok _,⟨_,rfl⟩,q⟩
def Ou{lg:List Stmt}(Φ:Bool->Hp->Prop)(M:St->Hp->Prop)(hc:Et X c σ H Φ)(ht:∀ H1,Φ true H1->Run X body {D with nx:=M} σ H1)(hu:∀ H1,Φ false H1->Run X lg {D with nx:=M} σ H1)
  (hr:∀ σ' H',M σ' H'->Run X rest D σ' H'):Run X (.If c body lg pos :: rest) D σ H:=
 gM (hc.mono λk H1 p=>by
  cases k with
  | true=>rw [BL rfl];exact(ht H1 p).nx hr
  | false=>rw [BK Av];exact(hu H1 p).nx hr)
theorem uM(W:Nat->St->Hp->Prop){m0:Nat}(h0:W m0 σ H)
  (turn:∀ m σ H,W m σ H->Et X c σ H λb H1=>if b=true then Run X body {D with nx:=λσ' H'=>∃ m',m' < m/\W m' σ' H',ct:=λσ' H'=>∃ m',m' < m/\W m' σ' H',bk:=λσ' H'=>Run X rest D σ' H'} σ H1 else Run X rest D σ H1)
  (hp:PassesOwn (model X.prog X.w) X.A X.env X.xe:=by exact JN):Run X (.While c body [] pos :: rest) D σ H:=by
 refine ju (Vy hp mh nR) ⟨W,⟨m0,h0⟩,λm σ1 H1 w1=>(turn m σ1 H1 w1).mono λb H2 q=>?_⟩;cases b with
 | true=>
  rw [BL rfl] at q;exact⟨λσ' H'=>∃ m',m' < m/\W m' σ' H',λ_ _ h=>h,q⟩
 | false=>
  rw [BK Av] at q;exact q
def EA(h:∀ p,H p=none->Q (.ref p) (upd H p<|.dK [])):Ev X (.Dict [] [] pos) σ H Q:=cW W' h
def Ys(h:∀ p,H p=none->Q (.ref p) (upd H p<|.dT [])):Ev X (.Dict [] [] pos) σ H Q:=cW Xa h
def dX(hu:X.A.units+1 < cLine)(h:Ev X o σ H λx H1=>Ev X e σ H1 λy H2=>∃ a v,x = .ref a/\aU H2 a y (some v)/\Q v H2)(hs:pF e:=by intro _ _;rfl):Ev X (.Subscript o e pos) σ H Q:=cW (W4 hu bf bf hs) h
def yp(hu:X.A.units+1 < cLine)(h:Ev X e σ H λy H1=>Ev X o σ H1 λx H2=>∃ a r,x = .ref a/\aU H2 a y r/\T r.isSome H2)(hm:behindInMarks .In o=false:=by with_unfolding_all rfl):Et X (.Compare e [.In] [o] pos) σ H T:=
 rG (Mb (W5 hu bf bf) hm) (h.mono λy H1 h2=>h2.mono λx H2 ⟨a,r,h3,h4,h5⟩=>⟨a,r,h3,h4,_,rfl,h5⟩)
def EB(hu:X.A.units+1 < cLine)(h:Ev X e σ H λy H1=>Ev X o σ H1 λx H2=>∃ a r,x = .ref a/\aU H2 a y r/\T (!r.isSome) H2)(hm:behindInMarks .NotIn o=false:=by with_unfolding_all rfl):Et X (.Compare e [.NotIn] [o] pos) σ H T:=
 rG (Mb (W6 hu bf bf) hm) (h.mono λy H1 h2=>h2.mono λx H2 ⟨a,r,h3,h4,h5⟩=>⟨a,r,h3,h4,_,rfl,h5⟩)
def rP{p2:Pos}(hu:X.A.units+1 < cLine)(h:Ev X f σ H λv H1=>Ev X o σ H1 λx H2=>Ev X e σ H2 λy H3=>∃ a H4,x = .ref a/\bT H3 a y v H4/\Run X rest D σ H4)(hs:swapsWith f (some<|.Subscript o e p2) pos.line X.env=pure false:=by rfl) :
  Run X (.Assign [.Subscript o e p2] f pos :: rest) D σ H:=ju (W7 hu bf bf bf hs) h
end
end L2
namespace bB
open PySem PySem.Spec PyProof.Rows
def lexLt(a b:Int×Int):Bool:=if a.1=b.1 then decide (a.2 < b.2) else decide (a.1 < b.1)
def Yu(b:Bool)(x y:Value):keyLt' (tuples' b) x y=(do
  let xs <- Builtin.List.listItems x
  let ys <- Builtin.List.listItems y
  for ((p,q),i) in (xs.toList.zip ys.toList).zipIdx do
   if !(<- eqBool p q) then return <- oneLt' (b && i == 0) p q
  return xs.size < ys.size):=rfl
section
variable{prog:Program}{w:World}{A:Around}{E:Value->Shared->Prop}{s:Shared}
def Pr(h:Heap)(a:Addr)(p:Int×Int):Prop:=∃ o n t u,h.get? a=some o/\o.cls = .type "tuple"/\o.data = .seq #[.int p.1 t,.int p.2 u] n
def Ov{a b:Int}{t u:Tok}{Q:Bool->Shared->Prop}(h:Q (decide (a=b)) s):wpAny (model prog w) A (eqBool (.int a t)<|.int b u) Q E s:=by
 refine SeqAt.EqAt.int_int a t b u prog w E Q ?_;have e:(a == b)=decide (a=b):=rfl;rw [e];exact h
def Yv{a b:Int}{t u:Tok}{Q:Bool->Shared->Prop}(h:Q (decide (a < b)) s):wpAny (model prog w) A (oneLt' false (.int a t)<|.int b u) Q E s:=by
 rw [oneLt'_eq];simp only [Bu,DQ];refine BJ ?_;show wpAny _ _ (compareOp .Lt (.int a t)<|.int b u) _ _ _;exact lt_int<|FJ h
def Yw{x y:Addr}{p q:Int×Int}{Q:Bool->Shared->Prop}(hx:Pr s.heap x p)(hy:Pr s.heap y q)(h:Q (lexLt p q) s):wpAny (model prog w) A (keyLt' (tuples' true) (.ref x)<|.ref y) Q E s:=by
 obtain⟨ox,nx,tx,ux,yq,cx,dx⟩:=hx;obtain⟨oy,ny,ty,uy,Yx,cy,dy⟩:=hy;rw [Yu];refine BJ<|NK yq dx ?_;refine BJ<|NK Yx dy ?_;show wpAny _ _ (forIn [((Value.int p.1 tx,Value.int q.1 ty),0),((Value.int p.2 ux,Value.int q.2 uy),1)] _ _ >>= _) _ _ _;rw [Gc];refine BJ<|BJ ?_
 dsimp only
 refine BJ<|Ov ?_
 by_cases c:p.1=q.1
 ·rw [BW c];simp only [Fj,Bu,DQ];refine BP ?_
  dsimp only
  rw [Gc];refine BJ ?_
  dsimp only
  refine BJ<|Ov ?_
  by_cases c2:p.2=q.2
  ·rw [BW c2];simp only [Fj,Bu,DQ];refine BP ?_
   dsimp only
   rw [List.forIn_nil];refine BP<|BP ?_;have e:lexLt p q=false:=by unfold lexLt;rw [BL c,c2];simp
   rw [e] at h
   simpa using h
  ·rw [BR c2];simp only [TJ,DN];refine BJ<|Yv<|BP ?_
   dsimp only
   refine BP<|BP ?_;have e:lexLt p q=decide (p.2 < q.2):=by unfold lexLt;rw [BL c]
   rw [e] at h;exact h
 ·rw [BR c];simp only [TJ,DN];refine BJ<|oneLt_int<|BP ?_
  dsimp only
  refine BP<|BP ?_;have e:lexLt p q=decide (p.1 < q.1):=by unfold lexLt;rw [BK c]
  rw [e] at h;exact h
def Yy{x y:Value}:(#[x,y]:Array Value).size<=sizeLine+1:=by
 rw [DY];show 2<=_;decide
def Yz(v:Value):firstOfTuple' v=(do
  if(<- typeOf v) != .type "tuple" then return none
  return (<- Builtin.List.listItems v)[0]?):=rfl
def Ow{x:Addr}{p:Int×Int}{Q:Option Value->Shared->Prop}(hx:Pr s.heap x p)(h:∀ t,Q (some<|.int p.1 t) s):wpAny (model prog w) A (firstOfTuple'<|.ref x) Q E s:=by
 obtain⟨ox,nx,tx,ux,yq,cx,dx⟩:=hx;rw [Yz];refine BJ<|MP (T:= "tuple") ⟨ox,yq,cx⟩ ?_;rw [show(Value.type "tuple" != Value.type "tuple")=false by decide];simp only [Bu,DQ];refine BJ<|NK yq dx ?_;exact BP<|h tx
def YB{x y:Addr}{p q:Int×Int}{Q:SortKind->Shared->Prop}(hx:Pr s.heap x p)(hy:Pr s.heap y q)(h:Q (tuples' true) s):wpAny (model prog w) A (keyKind' #[.ref x,.ref y]) Q E s:=by
 rw [keyKind'_eq,show(#[.ref x,.ref y]:Array Value)=[.ref x,.ref y].toArray from rfl,List.mapM_toArray];refine BJ<|wpAny_map ?_;rw [List.mapM_cons];refine BJ<|Ow hx λt=>?_;rw [List.mapM_cons];refine BJ<|BJ<|Ow hy λu=>?_;rw [List.mapM_nil];refine BJ<|BP<|BP<|BP ?_;rw [BL<|by simp];refine BJ<|GX ?_;rw [oneTypeOnly'_eq];show wpAny _ _ ((Array.mapM typeOf [Value.int p.1 t,Value.int q.1 u].toArray >>= _) >>= _) _ _ _;rw [List.mapM_toArray];have e1:[Value.int p.1 t,Value.int q.1 u].mapM typeOf=(pure [Value.type "int",Value.type "int"]:Sem _):=rfl;rw [e1];refine BP ?_;have e2:(if((#[Value.type "int",Value.type "int"]:Array Value).all λx=>x == (#[Value.type "int",Value.type "int"]:Array Value)[0])=true then some (#[Value.type "int",Value.type "int"]:Array Value)[0] else none)=some (Value.type "int"):=by
  rw [BL]
  ·rfl
  ·simp
 show Q (tuples'<|Option.any (λx=>x != Value.type "tuple") _) s;rw [e2];exact h
def wp_at{st:SortSt}{x y:Addr}{p q:Int×Int}{i j:Nat}{Q:Option Bool->SortSt->Prop}(hk:kindOf st=tuples' true)(hi:(arrOf st)[i]?=some (.ref x,.ref x))(hj:(arrOf st)[j]?=some (.ref y,.ref y))(hx:Pr s.heap x p)(hy:Pr s.heap y q)(h:Q (some<|lexLt p q) st) :
  wpS (model prog w) A E s (ltAt' i j) Q st:=by
 rw [ltAt'_eq];refine FQ<|wpS_get ?_;show wpS _ _ _ _ (elem' (arrOf st) i >>= λa=>elem' (arrOf st) j >>= λb=>lt' a b) Q st;rw [elem'_eq,elem'_eq,hi,hj];refine FQ<|JF<|FQ<|JF ?_;rw [lt'_eq];refine FQ<|wpS_get ?_;rw [hk];refine FQ<|wpS_lift<|IK<|Yw hx hy ⟨rfl,?_⟩;exact JF h
def lD(x y:Addr)(p q:Int×Int):Array Keyed:=if lexLt q p then #[(.ref y,.ref y),(.ref x,.ref x)] else #[(.ref x,.ref x),(.ref y,.ref y)]
def YC{x y:Addr}{p q:Int×Int}{Q:Option Nat->SortSt->Prop}(hx:Pr s.heap x p)(hy:Pr s.heap y q)
  (h:Q (some 2)<|SortSt.mk' (tuples' true) (lD x y p q) #[] 7 none):wpS (model prog w) A E s (countRun' 0 2) Q (SortSt.mk' (tuples' true) #[(.ref x,.ref x),(.ref y,.ref y)] #[] 7 none):=by
 rw [countRun0_eq];refine FQ ?_;unfold ascLoop;refine wpS_mono (NQ (I:=λi c st=>st=SortSt.mk' (tuples' true) #[(.ref x,.ref x),(.ref y,.ref y)] #[] 7 none/\c=(none,i)/\(i=2->lexLt q p=false))
  (Q:=λc st=>st=SortSt.mk' (tuples' true) #[(.ref x,.ref x),(.ref y,.ref y)] #[] 7 none/\((c=(none,1)/\lexLt q p=true)\/(c=(none,2)/\lexLt q p=false))) ?_ ?_ ⟨rfl,rfl,λh=>by cases h⟩) ?_
 ·rintro i c st h1 h2 ⟨rfl,rfl,hI⟩;have e:i=1:=by omega
  subst e;refine FQ<|wp_at rfl rfl rfl hy hx ?_
  dsimp only
  cases hb:lexLt q p with
  | true=>
   rw [BL rfl];exact JF ⟨rfl,.inl ⟨rfl,rfl⟩⟩
  | false=>
   rw [BK Av];exact JF ⟨rfl,rfl,λ_=>rfl⟩
 ·rintro c st ⟨rfl,rfl,hI⟩;exact⟨rfl,.inr ⟨rfl,hI rfl⟩⟩
 ·rintro c st ⟨rfl,⟨rfl,hb⟩ | ⟨rfl,hb⟩⟩
  ·dsimp only
   rw [BK (by decide),BK<|by decide];unfold descPart;refine FQ<|wpS_lift<|GX ⟨rfl,?_⟩;unfold descLoop;refine FQ (wpS_mono (NQ (I:=λi c st=>c=(none,2,0)/\st=SortSt.mk' (tuples' true) #[(.ref x,.ref x),(.ref y,.ref y)] #[] 7 none) (Q:=λc st=>c=(none,2,0)/\st=SortSt.mk' (tuples' true) #[(.ref x,.ref x),(.ref y,.ref y)] #[] 7 none) (λi c st h1 h2 _=>by omega) (λc st h=>h) ⟨rfl,rfl⟩) ?_);rintro c st ⟨rfl,rfl⟩
   dsimp only
   rw [BK<|by decide];unfold tail3;refine FQ<|wpS_reverse ?_;unfold ascLoop;refine FQ (wpS_mono (NQ (I:=λi c st=>c=(none,2)/\st=SortSt.mk' (tuples' true) #[(.ref y,.ref y),(.ref x,.ref x)] #[] 7 none) (Q:=λc st=>c=(none,2)/\st=SortSt.mk' (tuples' true) #[(.ref y,.ref y),(.ref x,.ref x)] #[] 7 none) (λi c st h1 h2 _=>by omega) (λc st h=>h) ⟨rfl,rfl⟩) ?_);rintro c st ⟨rfl,rfl⟩
   dsimp only
   refine JF ?_;unfold lD at h;rw [BL hb] at h;exact h
  ·dsimp only
   rw [BL<|by decide];refine JF ?_;unfold lD at h;rw [BK<|by rw [hb];exact Av] at h;exact h
def YD{x y:Addr}{p q:Int×Int}{Q:Unit->SortSt->Prop}(hx:Pr s.heap x p)(hy:Pr s.heap y q)(h:∀ st,arrOf st=lD x y p q->failedOf st=none->Q () st) :
  wpS (model prog w) A E s sortRuns' Q (SortSt.mk' (tuples' true) #[(.ref x,.ref x),(.ref y,.ref y)] #[] 7 none):=by
 rw [sortRuns'_eq];refine FQ<|wpS_get ?_
 dsimp only
 have YF:minRun' 2 2 0=2:=by rw [minRun'_succ,BL<|by decide]
 show wpS _ _ _ _ ((forIn [0:2] _ _) >>= _) _ _;have sz:(#[(Value.ref x,Value.ref x),(Value.ref y,Value.ref y)]:Array Keyed).size=2:=rfl;refine FQ<|wpS_mono (NQ (I:=λi c st=>(i=0/\c=(none,0)/\st=SortSt.mk' (tuples' true) #[(.ref x,.ref x),(.ref y,.ref y)] #[] 7 none)\/(1<=i/\c=(none,2)/\st=SortSt.mk' (tuples' true) (lD x y p q) #[(0,2,0)] 7 none))
  (Q:=λc st=>c=(none,2)/\st=SortSt.mk' (tuples' true) (lD x y p q) #[(0,2,0)] 7 none) ?_ ?_ (.inl ⟨rfl,rfl,rfl⟩)) ?_
 ·rintro i c st h1 h2 (⟨rfl,rfl,rfl⟩ | ⟨hi,rfl,rfl⟩)
  ·dsimp only
   rw [BK<|by show ¬(0>=2);decide];refine FQ ?_;show wpS _ _ _ _ (countRun' 0 2) _ _;refine YC hx hy ?_
   dsimp only
   rw [BK<|by show ¬(2 < minRun' 2 2 0);rw [YF];decide];refine FQ<|wpS_get ?_;show wpS _ _ _ _ (modify _ >>= _) _ _;exact FQ<|wpS_modify<|JF<|.inr ⟨Am _,rfl,rfl⟩
  ·dsimp only
   rw [BL<|by show 2>=2;decide];exact JF ⟨rfl,rfl⟩
 ·rintro c st (⟨h1,_,_⟩ | ⟨_,hc,hs⟩)
  ·exact absurd h1<|by decide
  ·exact⟨hc,hs⟩
 ·rintro c st ⟨rfl,rfl⟩
  dsimp only
  refine FQ<|wpS_mono (NQ (I:=λ_ c st=>st=SortSt.mk' (tuples' true) (lD x y p q) #[(0,2,0)] 7 none/\c=(none,())) (Q:=λc st=>st=SortSt.mk' (tuples' true) (lD x y p q) #[(0,2,0)] 7 none/\c=(none,())) ?_ (λ_ _ hh=>hh) ⟨rfl,rfl⟩) ?_
  ·rintro i c st _ _ ⟨rfl,rfl⟩;refine FQ<|wpS_get ?_;rw [BL<|by show 1<=1;decide];exact JF ⟨rfl,rfl⟩
  ·rintro c st ⟨rfl,rfl⟩;exact JF<|h _ rfl rfl
def YG{a x y:Addr}{p q:Int×Int}{n:Nat}{P:Fin->Shared->Prop}(ho:s.heap.get? a=some (seqObj "list" #[.ref x,.ref y] n))(YH:a≠x)(YJ:a≠y)(hx:Pr s.heap x p)(hy:Pr s.heap y q)
  (h:P (.done<|.ret .none) {s with heap:=sortedHeap s.heap a [.ref x,.ref y] (if lexLt p q then #[.ref y,.ref x] else #[.ref x,.ref y])}) :
  wpAny (model prog w) A (Builtin.«list.sort» ⟨[.ref a],[(Str.ofString "reverse",.bool true)]⟩) P E s:=by
 rw [list_sort_rev];have ha:a < s.heap.objs.size:=Ar ho;refine BJ<|NK ho rfl ?_;refine BJ<|LC ho rfl ?_;obtain⟨e1,mw⟩:∃ e1,(s.heap.update a<|Obj.mapSeq λ_=>#[]).get? a=some (seqObj "list" #[] e1):=⟨_,get?_update_seq ho λ_=>#[]⟩;refine BJ<|PK mw rfl ?_;refine BJ<|PJ ?_;refine BJ<|HN ?_;refine CJ ?_;have pQ:(((s.heap.update a<|Obj.mapSeq λ_=>#[]).push<|seqObj "tuple" [Value.ref x,Value.ref y].toArray 0).push<|seqObj "list" #[] 0).get? a=some (seqObj "list" #[] e1):=
  Ae _ (Ae _ mw)
 show wpAny (model prog w) A _ P E {s with heap:=((s.heap.update a<|Obj.mapSeq λ_=>#[]).push<|seqObj "tuple" [Value.ref x,Value.ref y].toArray 0).push (seqObj "list" #[] 0)};have keep:∀ z r,a≠z->Pr s.heap z r->Pr (((s.heap.update a<|Obj.mapSeq λ_=>#[]).push<|seqObj "tuple" [Value.ref x,Value.ref y].toArray 0).push<|seqObj "list" #[] 0) z r:=by
  rintro z r hz ⟨o,m,t,u,q1,q2⟩;exact⟨o,m,t,u,Ae _<|Ae _<|(Br _ _ hz).trans q1,q2⟩
 have kx:=keep x p YH hx;have ky:=keep y q YJ hy
 dsimp only
 rw [BL rfl];refine BJ<|GX ?_;rw [BK<|by show ¬(2 < 2);decide];refine BJ<|YB kx ky ?_;rw [BK<|by show ¬(2 < 2);decide];have e2:(if true=true then((#[Value.ref x,Value.ref y]:Array Value).zip #[Value.ref x,Value.ref y]).reverse else(#[Value.ref x,Value.ref y]:Array Value).zip #[Value.ref x,Value.ref y])=#[(Value.ref y,Value.ref y),(Value.ref x,Value.ref x)]:=by
  rw [BL rfl];simp
 rw [e2];refine BJ<|CK (YD (Q:=λ_ st=>arrOf st=lD y x q p/\failedOf st=none) ky kx λst h1 h2=>⟨h1,h2⟩) ?_ λ_ _ e=>e;rintro ⟨⟨⟩,cY⟩ s' ⟨rfl,hs,hf⟩
 dsimp only
 have e3:(if true=true then((arrOf cY).map (·.2)).reverse else(arrOf cY).map (·.2))=(if lexLt p q then #[.ref y,.ref x] else #[.ref x,.ref y]):=by
  rw [BL rfl,hs];unfold lD
  split <;> simp
 refine BJ<|PK pQ rfl ?_;refine BJ (LC pQ rfl ?_ (hsz2:=by rw [e3];split <;> exact Yy));rw [hf];simp only [KJ,Bu,DQ];refine BP ?_;have e4:(λ_:Array Value=>if True then((arrOf cY).map (·.2)).reverse else(arrOf cY).map (·.2))=λ_=>(if lexLt p q then #[.ref y,.ref x] else #[.ref x,.ref y]):=by
  funext _
  rw [BL trivial];rw [BL rfl] at e3;exact e3
 rw [e4];exact h
def YK{l x y:Addr}{p q:Int×Int}{Q:Value->Shared->Prop}(hl:s.heap.IsList l #[.ref x,.ref y])(hx:Pr s.heap x p)(hy:Pr s.heap y q)
  (h:∀(h':Heap) (e:Nat),(∀ b u,s.heap.get? b=some u->h'.get? b=some u)->h'.get? (s.heap.objs.size+1)=some (seqObj "list" (if lexLt p q then #[.ref y,.ref x] else #[.ref x,.ref y]) e)->Q (.ref<|s.heap.objs.size+1) {s with heap:=h'}) :
  wpAny (model prog w) A (call (.builtin "sorted") [.ref l] [(Str.ofString "reverse",.bool true)]) Q E s:=by
 refine call_function_entry_kw kind_sorted plain_sorted entry_sorted (args_sorted_rev _ _) ?_;unfold Builtin.«sorted»;refine BJ (m:=checkCount "sorted" 1 1 _)<|BP ?_;refine BJ<|collect_list (vs:=[.ref x,.ref y]) hl ?_;refine BJ<|HN ?_;have hsz:((s.heap.push<|seqObj "list" #[] 0).update s.heap.objs.size (Obj.mapSeq (·++[Value.ref x,Value.ref y].toArray))).objs.size=s.heap.objs.size+1:=by
  rw [Heap.size_update,size_push']
 have gI:(((s.heap.push<|seqObj "list" #[] 0).update s.heap.objs.size (Obj.mapSeq (·++[Value.ref x,Value.ref y].toArray))).push<|seqObj "list" [Value.ref x,Value.ref y].toArray 0).get? (s.heap.objs.size+1)=some (seqObj "list" [Value.ref x,Value.ref y].toArray 0):=by
  rw [<- hsz];exact Aq _ rfl
 have lx:x < s.heap.objs.size:=let ⟨_,_,_,_,e,_⟩:=hx;Ar e
 have ly:y < s.heap.objs.size:=let ⟨_,_,_,_,e,_⟩:=hy;Ar e
 have keep:∀ z r,Pr s.heap z r->Pr (((s.heap.push<|seqObj "list" #[] 0).update s.heap.objs.size (Obj.mapSeq (·++[Value.ref x,Value.ref y].toArray))).push<|seqObj "list" [Value.ref x,Value.ref y].toArray 0) z r:=by
  rintro z r ⟨o,m,t,u,q1,q2⟩;have hz:=Ar q1;exact⟨o,m,t,u,Ae _<|(Br _ _<|Cm hz).trans<|Ae _ q1,q2⟩
 show wpAny _ _ _ _ _ {s with heap:=((s.heap.push<|seqObj "list" #[] 0).update s.heap.objs.size (Obj.mapSeq (·++[Value.ref x,Value.ref y].toArray))).push (seqObj "list" [Value.ref x,Value.ref y].toArray 0)};rw [hsz];refine BJ<|CJ<|wpAny_call_entry_kw slot_list_sort ⟨_,gI,rfl⟩ entry_list_sort (YG gI (Cm<|Cn lx) (Cm<|Cn ly) (keep x p hx) (keep y q hy) ⟨_,rfl,?_⟩)<|args_list_sort_rev _ _;obtain⟨e,he⟩:=sortedAll_at s.heap [Value.ref x,Value.ref y] (if lexLt p q then #[.ref y,.ref x] else #[.ref x,.ref y]);exact BP ⟨_,rfl,h _ e (λb u hb=>QC hb) he⟩
end
end bB
namespace L2
open PySem PySem.Spec PyProof.Rows bB
section
variable{X:Cx}{e:Expr}{σ:St}{H:Hp}{Q:VK}{pos p kp cp:Pos}{j:Nat}
def Ox{pins:List (Addr×Obj)}{s:Shared}{a:Addr}{i j:Int}(I:Inv X pins σ H s)(h:H a=some (.tup [.int i,.int j])):Pr s.heap a (i,j):=by
 obtain⟨its,r,pl,_⟩:=I.tuple<|aM.of h;obtain⟨u,v,rfl,⟨t,rfl⟩,⟨t',rfl⟩⟩:=vals2 r;obtain⟨o,ho,hc,n,hd⟩:=pl;exact⟨o,n,t,t',ho,hc,hd⟩
def YL(hm:X.mg "sorted" = none) (h:Ev X e σ H λv H1=>∃ l x y a b c d,v = .ref l/\H1 l=some (.lst [.ref x,.ref y])/\H1 x=some (.tup [.int a,.int b])/\H1 y=some (.tup [.int c,.int d]) /\
   ∀ r,H1 r=none->Q (.ref r) (upd H1 r<|.lst (if lexLt (a,b) (c,d) then [.ref y,.ref x] else [.ref x,.ref y]))) (hg:Gl X "sorted":=by rfl)
  (he:backTo pos (starEach [e] X.env)=(false,eval e X.env) :: backTo pos (starEach [] X.env):=by rfl) (b4:(backTo pos<|starEach [e] X.env).any (·.1)=false:=by rfl) (cg:isStar e=false:=by rfl) :
  Ev X (.Call (.Name "sorted" p) [e] [⟨some "reverse",.Constant (.bool true) j cp,kp⟩] pos) σ H Q:=by
 refine⟨λpins s I=>?_⟩;refine IV<|nI I hg hm CP ?_;have hE:Ea X [e] σ H λvs H1=>∃ l x y a b c d,vs=[.ref l]/\H1 l=some (.lst [.ref x,.ref y])/\H1 x=some (.tup [.int a,.int b])/\H1 y=some (.tup [.int c,.int d]) /\
   ∀ r,H1 r=none->Q (.ref r) (upd H1 r<|.lst (if lexLt (a,b) (c,d) then [.ref y,.ref x] else [.ref x,.ref y])):=
  aj (h.mono λv H1 ⟨l,x,y,a,b,c,d,e1,r1⟩=>aA ⟨l,x,y,a,b,c,d,by rw [e1],r1⟩) cg
 refine callWith_kw (aF (hE.run pos pins s I) λus s1 ⟨vs,H1,I1,r1,l,x,y,a,b,c,d,ev,hl,hx,hy,q⟩=>?_) he b4;subst ev;obtain⟨u,rfl,ru⟩:=vals1 r1;cases (show u=Value.ref l from ru);refine kws_cons<|BP<|kws_nil ?_;obtain⟨its,r2,pl,_⟩:=I1.list<|ai.of hl;obtain⟨u,v,rfl,ru,rv⟩:=vals2 r2;cases (show u=Value.ref x from ru);cases (show v=Value.ref y from rv);refine YK pl.isList (Ox I1 hx) (Ox I1 hy) λh' e kp he=>?_;refine⟨.ref _,_,I1.fc (s':={s1 with heap:=h'}) kp rfl rfl (Eb _) (show az X.prog X.w _ h' _ (.lst (if lexLt (a,b) (c,d) then [.ref y,.ref x] else [.ref x,.ref y])) from ?_),rfl,q _<|I1.aB.fresh<|Eb _⟩
 split at he
 ·rename_i hb;rw [BL hb];exact⟨by show 2<=sizeLine;rw [DY];decide,[.ref y,.ref x],e,.cons rfl (.cons rfl .nil),he⟩
 ·rename_i hb;rw [BK hb];exact⟨by show 2<=sizeLine;rw [DY];decide,[.ref x,.ref y],e,.cons rfl (.cons rfl .nil),he⟩
end
end L2
namespace Nt
open PySem
abbrev Net:=List<|Str×List Str
abbrev End:=Nat×Nat
def row(n:Net)(r:Nat):List Str:=((n[r]?).map (·.2)).getD []
def aG(n:Net)(e:End):Option Str:=(row n e.1)[e.2]?
def bD(r:Nat)(ts:List Str)(p:Nat):List (Str×End):=(ts.zipIdx p).map λx=>(x.1,(r,x.2))
def gQ(r:Nat):Net->List (Str×End)
 | []=>[]
 | a :: n=>bD r a.2 0++gQ (r+1) n
def bg(n:Net):List (Str×End):=gQ 0 n
def ends(n:Net):List End:=(bg n).map (·.2)
def ag(n:Net):List Str:=n.flatMap (·.2)
def pos(n:Net)(z:Str):List End:=((bg n).filter λx=>decide (x.1=z)).map (·.2)
def b5{r:Nat}{ts:List Str}{p:Nat}{z:Str}{e:End}:(z,e)∈bD r ts p↔e.1=r/\p<=e.2/\ts[e.2 - p]?=some z:=by
 unfold bD;rw [Aj]
 constructor
 ·rintro ⟨⟨y,k⟩,hm,he⟩;cases he;have:=Eu.mp hm;exact⟨rfl,this.1,this.2⟩
 ·rintro ⟨h1,h2,h3⟩;refine⟨(z,e.2),Eu.mpr ⟨h2,h3⟩,?_⟩;rw [<- h1]
theorem bO:∀{n:Net} {k:Nat} {z:Str} {e:End},(z,e)∈gQ k n↔k<=e.1/\(row n<|e.1 - k)[e.2]?=some z
 | [],k,z,e=>by
  constructor
  ·intro h;cases h
  ·rintro ⟨_,h⟩;simp [row] at h
 | a :: n,k,z,e=>by
  unfold gQ;rw [An,b5,bO]
  constructor
  ·rintro (⟨h1,_,h3⟩ | ⟨h1,h2⟩)
   ·refine⟨by omega,?_⟩;rw [show e.1 - k=0 by omega]
    simpa [row] using h3
   ·refine⟨by omega,?_⟩;rw [show e.1 - k=(e.1 - (k+1))+1 by omega]
    simpa [row] using h2
  ·rintro ⟨h1,h2⟩
   rcases Dt k e.1 with h | h
   ·refine .inr ⟨h,?_⟩;rw [show e.1 - k=(e.1 - (k+1))+1 by omega] at h2
    simpa [row] using h2
   ·refine .inl ⟨by omega,Bp _,?_⟩;rw [show e.1 - k=0 by omega] at h2
    simpa [row] using h2
def aV{n:Net}{z:Str}{e:End}:(z,e)∈bg n↔aG n e=some z:=by
 unfold bg aG;rw [bO];simp
def af{n:Net}{e:End}:e∈ends n↔∃ z,aG n e=some z:=by
 unfold ends;rw [Aj]
 constructor
 ·rintro ⟨⟨z,e'⟩,h,rfl⟩;exact⟨z,aV.mp h⟩
 ·rintro ⟨z,h⟩;exact⟨(z,e),aV.mpr h,rfl⟩
def aH{n:Net}{z:Str}{e:End}:e∈pos n z↔aG n e=some z:=by
 unfold pos;rw [Aj]
 constructor
 ·rintro ⟨⟨y,e'⟩,h,rfl⟩;rw [Bk,GJ] at h;obtain⟨h1,h2⟩:=h;subst h2;exact aV.mp h1
 ·intro h;exact⟨(z,e),Bk.mpr ⟨aV.mpr h,by simp⟩,rfl⟩
def YM(r:Nat):∀(ts:List Str) (p:Nat),(bD r ts p).map (·.1)=ts:=by
 intro ts p;unfold bD;rw [Ci];have:((λx:Str×End=>x.1) ∘ λx:Str×Nat=>(x.1,(r,x.2)))=Prod.fst:=rfl;rw [this,List.zipIdx_map_fst]
theorem lE:∀(n:Net) (k:Nat),(gQ k n).map (·.1)=ag n
 | [],_=>rfl
 | a :: n,k=>by
  unfold gQ ag;rw [Ai,YM,lE n<|k+1,Cc];rfl
def YN(r:Nat)(ts:List Str)(p:Nat):((bD r ts p).map (·.2)).Nodup:=by
 unfold bD;rw [Ci];have e:((λx:Str×End=>x.2) ∘ λx:Str×Nat=>(x.1,(r,x.2)))=(λk:Nat=>(r,k)) ∘ Prod.snd:=rfl;rw [e,<- Ci,List.zipIdx_map_snd];refine QG _ (R:=(·≠·)) ?_ List.nodup_range';intro a b h gs;exact h (Prod.mk.inj gs).2
theorem Oy:∀(n:Net) (k:Nat),((gQ k n).map (·.2)).Nodup
 | [],_=>Cj
 | a :: n,k=>by
  unfold gQ;rw [Ai,Cf];refine⟨YN _ _ _,Oy n<|k+1,?_⟩;intro x hx y hy e;subst e;obtain⟨⟨z,e1⟩,h1,rfl⟩:=Aj.mp hx;obtain⟨⟨z2,e2⟩,h2,he⟩:=Aj.mp hy;simp only at he;subst he;have q1:=(b5.mp h1).1;have q2:=(bO.mp h2).1;omega
def rQ(n:Net):(ends n).Nodup:=Oy n 0
def Oz(n:Net)(z:Str):(pos n z).Nodup:=by
 unfold pos;exact(rQ n).sublist<|List.Sublist.map _<|List.filter_sublist
def rR(n:Net)(z:Str):(pos n z).length=(ag n).count z:=by
 unfold pos;rw [Aa,<- lE n 0,<- List.countP_eq_length_filter,List.count,List.countP_map];rfl
def aw(n:Net):Prop:=∀ z∈ag n,(ag n).count z=2
def eI{n:Net}{e:End}{z:Str}(h:aG n e=some z):z∈ag n:=by
 have:=aV.mpr h;rw [<- lE n 0];exact Aj.mpr ⟨_,this,rfl⟩
def other(n:Net)(e:End):End:=match aG n e with
 | some z=>(match pos n z with
  | [a,b]=>if a=e then b else a
  | _=>e)
 | none=>e
theorem pR{n:Net}(T:aw n){e:End}{z:Str}(h:aG n e=some z):∃ a b,pos n z=[a,b]/\a≠b/\(e=a\/e=b):=by
 have hl:=rR n z;rw [T z<|eI h] at hl;have hn:=Oz n z;have hm:=aH.mpr h
 match hp:pos n z,hl with
 | [a,b],_=>
  rw [hp] at hn hm;refine⟨a,b,rfl,?_,?_⟩
  ·intro e;subst e;simp at hn
  ·simpa using hm
def c8{n:Net}(T:aw n){e:End}{z:Str}(h:aG n e=some z):aG n (other n e)=some z/\other n (other n e)=e/\other n e≠e:=by
 obtain⟨a,b,hp,gs,he⟩:=pR T h;have ha:aG n a=some z:=aH.mp (by rw [hp];simp);have hb:aG n b=some z:=aH.mp<|by rw [hp];simp
 rcases he with rfl | rfl
 ·have e1:other n e=b:=by unfold other;simp only [h,hp];simp
  have e2:other n b=e:=by unfold other;simp only [hb,hp];simp [gs]
  rw [e1];exact⟨hb,e2,gs.symm⟩
 ·have e1:other n e=a:=by unfold other;simp only [h,hp];simp [gs]
  have e2:other n a=e:=by unfold other;simp only [ha,hp];simp
  rw [e1];exact⟨ha,e2,gs⟩
def left(n:Net)(e:End):End:=(e.1,(e.2+1) % (row n e.1).length)
def step(n:Net)(e:End):End:=left n (other n e)
def ja{n:Net}{e:End}{z:Str}(h:aG n e=some z):e.2 < (row n e.1).length:=(Ac.mp h).1
def dz{n:Net}{e:End}{z:Str}(h:aG n e=some z):e.1 < n.length:=by
 rcases Dt e.1 n.length with c | c
 ·exact c
 ·have:=ja h;unfold row at this;rw [Bc c] at this;simp at this
def yr{n:Net}{e:End}(h:e.2 < (row n e.1).length):∃ z,aG n e=some z:=⟨_,Ab h⟩
def YQ{n:Net}{e:End}(h:e∈ends n):left n e∈ends n:=by
 obtain⟨z,h⟩:=af.mp h;have:=ja h;exact af.mpr<|yr (show(e.2+1) % (row n e.1).length < (row n e.1).length from UJ _<|by omega)
def dj{n:Net}(T:aw n){e:End}(h:e∈ends n):other n e∈ends n:=by
 obtain⟨z,h⟩:=af.mp h;exact af.mpr ⟨z,(c8 T h).1⟩
def rS{n:Net}(T:aw n){e:End}(h:e∈ends n):step n e∈ends n:=YQ<|dj T h
def YR{n:Net}{a b:End}(ha:a∈ends n)(hb:b∈ends n)(h:left n a=left n b):a=b:=by
 obtain⟨z,ha⟩:=af.mp ha;obtain⟨y,hb⟩:=af.mp hb;have la:=ja ha;have lb:=ja hb;unfold left at h;obtain⟨h1,h2⟩:=Prod.mk.inj h;rw [h1] at la h2;have:a.2=b.2:=by
  rcases Dt (a.2+1) (row n b.1).length with c | c <;> rcases Dt (b.2+1) (row n b.1).length with d | d
  ·rw [Cd c,Cd d] at h2;omega
  ·have e:b.2+1=(row n b.1).length:=by omega
   rw [Cd c,e,Dw] at h2;omega
  ·have e:a.2+1=(row n b.1).length:=by omega
   rw [Cd d,e,Dw] at h2;omega
  ·omega
 exact HS h1 this
def OA{n:Net}(T:aw n){a b:End}(ha:a∈ends n)(hb:b∈ends n)(h:other n a=other n b):a=b:=by
 obtain⟨z,ha⟩:=af.mp ha;obtain⟨y,hb⟩:=af.mp hb;rw [<- (c8 T ha).2.1,h,(c8 T hb).2.1]
def OB{n:Net}(T:aw n){a b:End}(ha:a∈ends n)(hb:b∈ends n)(h:step n a=step n b):a=b:=
 OA T ha hb (YR (dj T ha) (dj T hb) h)
theorem aE{α:Type} [DecidableEq α]:∀{a b:List α},a.Nodup->(∀ z∈a,z∈b)->a.length<=b.length
 | [],b,_,_=>Bp _
 | x :: r,b,hn,hs=>by
  rw [Bi] at hn;have hx:=hs x Ah;have:=aE (a:=r) (b:=b.erase x) hn.2 λz hz=>by
   have bw:z≠x:=λe=>hn.1<|e ▸ hz;exact(Ey bw).mpr<|hs z<|Ak _ hz
  rw [Fk hx] at this;have hp:0 < b.length:=SM hx;rw [Ax];omega
def it{α:Type}(f:α->α):Nat->α->α
 | 0,a=>a
 | k+1,a=>f<|it f k a
theorem j4{α:Type}{f:α->α}{S:List α}(hf:∀ a∈S,f a∈S){a:α}(h:a∈S):∀ k,it f k a∈S
 | 0=>h
 | k+1=>hf _<|j4 hf h k
def EC{α:Type} [DecidableEq α] {f:α->α} {S:List α} (hf:∀ a∈S,f a∈S) (inj:∀ a∈S,∀ b∈S,f a=f b->a=b) {a:α} (h:a∈S):∃ k,0 < k/\k<=S.length/\it f k a=a:=by
 have cancel:∀ i j,it f i a=it f (i+j) a->it f j a=a:=by
  intro i
  induction i with
  | zero=>intro j e;rw [Fs] at e;exact e.symm
  | succ i ih=>
   intro j e;refine ih j ?_;rw [show i+1+j=(i+j)+1 by omega] at e;exact inj _ (j4 hf h i) _ (j4 hf h<|i+j) e
 refine JR λhn=>?_;have nd:((List.range<|S.length+1).map λi=>it f i a).Nodup:=by
  refine QG _ (R:=λi j=>i < j/\j < S.length+1) ?_ ?_
  ·rintro i j ⟨h1,h2⟩ e;refine hn ⟨j - i,by omega,by omega,cancel i (j - i) ?_⟩;rw [show i+(j - i)=j by omega];exact e
  ·rw [Bt];intro i j hi hj dw;simp only [Ej];simp at hj;exact⟨dw,hj⟩
 have:=aE nd λz hz=>by
  obtain⟨i,_,rfl⟩:=Aj.mp hz;exact j4 hf h i
 simp at this;omega
theorem jb:∀(n:Net) (r:Nat),(row n r).length<=(ag n).length
 | [],r=>by simp [row,ag]
 | a :: n,0=>by simp [row,ag]
 | a :: n,r+1=>by
  have:=jb n r;simp [row,ag] at this ⊢;omega
theorem OC:∀(n:Net) (r:Nat),(ag<|n.take r).length<=(ag n).length
 | [],r=>by simp [ag]
 | a :: n,0=>by simp [ag]
 | a :: n,r+1=>by
  have:=OC n r;simp [ag] at this ⊢;omega
structure fz(n:Net)(e:Nt.End)(fs:List End):Prop where
 pos:0 < fs.length
 len:fs.length<=(ends n).length
 at':∀ i,i < fs.length->fs[i]?=some (it (step n) i e)
 back:it (step n) fs.length e=e
 first:∀ i,0 < i->i < fs.length->it (step n) i e≠e
open L2
abbrev Ls(zs:List Str):HO:= .lst<|zs.map V.str
abbrev Tp(e:End):HO:= .tup [.int e.1,.int e.2]
structure ak(H:Hp)(R:Addr)(as:List<|Addr×Addr)(n:Net):Prop where
 len:as.length=n.length
 lst:H R=some (.lst<|as.map λa=> .ref a.1)
 tup:∀(i:Nat) a r,as[i]?=some a->n[i]?=some r->H a.1=some (.tup [.str r.1,.ref a.2])/\H a.2=some (Ls r.2)
 inj:(as.map (·.2)).Nodup
def ak.same{H H':Hp}{R:Addr}{as:List (Addr×Addr)}{n:Net}(h:ak H R as n)(s:ah H H'):ak H' R as n:=
 ⟨h.len,s _ _ h.lst,λi a r h1 h2=>⟨s _ _ (h.tup i a r h1 h2).1,s _ _ (h.tup i a r h1 h2).2⟩,h.inj⟩
def ak.at{H:Hp}{R:Addr}{as:List (Addr×Addr)}{n:Net}(h:ak H R as n){i:Nat}(hi:i < n.length) :
  ∃ a,as[i]?=some a/\eY (as.map λa=>V.ref a.1) (i:Int)=some (.ref a.1)/\H a.1=some (.tup [.str n[i].1,.ref a.2])/\H a.2=some (Ls<|row n i)/\row n i=n[i].2:=by
 have hl:=h.len;have e:as[i]?=some as[i]:=Ab (by omega);have er:row n i=n[i].2:=by unfold row;rw [Ab hi];rfl
 have q:=h.tup i as[i] n[i] e<|Ab hi;refine⟨as[i],e,nM (by rw [Af,e];rfl),q.1,?_,er⟩;rw [er];exact q.2
def uN{zs:List Str}{j:Nat}{z:Str}(h:zs[j]?=some z):eY (zs.map V.str) (j:Int)=some (.str z):=nM<|by rw [Af,h];rfl
inductive Pd (H:Hp):List Addr->List End->Prop where
 | nil:Pd H [] []
 | cons {t:Addr} {e:End} {ts:List Addr} {es:List End}:H t=some (Tp e)->Pd H ts es->Pd H (t :: ts) (e :: es)
theorem Pd.append{H:Hp}{ts us:List Addr}{es fs:List End}(h:Pd H ts es)(g:Pd H us fs):Pd H (ts++us) (es++fs):=by
 induction h with
 | nil=>exact g
 | cons h1 _ ih=>exact .cons h1 ih
theorem Pd.keep{H H':Hp}{ts:List Addr}{es:List End}(h:Pd H ts es)(k:∀ t e,H t=some (Tp e)->H' t=some (Tp e)):Pd H' ts es:=by
 induction h with
 | nil=>exact .nil
 | cons h1 _ ih=>exact .cons (k _ _ h1) ih
theorem Pd.length{H:Hp}{ts:List Addr}{es:List End}(h:Pd H ts es):ts.length=es.length:=by
 induction h with
 | nil=>rfl
 | cons _ _ ih=>rw [Ax,Ax,ih]
theorem Pd.at{H:Hp}{ts:List Addr}{es:List End}(h:Pd H ts es):∀{i:Nat} {e:End},es[i]?=some e->∃ t,ts[i]?=some t/\H t=some (Tp e):=by
 induction h with
 | nil=>intro i e h;simp at h
 | cons h1 _ ih=>
  intro i e h;cases i with
  | zero=>simp at h;subst h;exact⟨_,rfl,h1⟩
  | succ i=>simp only [RK] at h ⊢;exact ih h
def b6(done:List<|Str×End)(z:Str):List End:=(done.filter λx=>decide (x.1=z)).map (·.2)
def dk(done:List<|Str×End)(y z:Str)(e:End):b6 (done++[(y,e)]) z=b6 done z++(if y=z then [e] else []):=by
 unfold b6;rw [Cp,Ai]
 congr 1
 by_cases h:y=z
 ·rw [BL h];simp [h]
 ·rw [BK h];simp [h]
structure a8(H0 H:Hp)(d:Addr)(done:List<|Str×End)(kvs:List<|Key×V)(ks:List Str)(A:Str->Option (Addr×List Addr)):Prop where
 same:ah H0 H
 free:H0 d=none
 dict:H d=some (.dK kvs)
 keys:kvs.map (·.1)=ks.map Sum.inr
 nodup:ks.Nodup
 mem:∀ z,z∈ks↔(A z).isSome=true
 val:∀ z,al kvs (Sum.inr z)=(A z).map λa=> .ref a.1
 at':∀ z a ts,A z=some (a,ts)->H0 a=none/\a≠d/\H a=some (.lst<|ts.map V.ref)/\Pd H ts (b6 done z)
 inj:∀ z y a ts us,A z=some (a,ts)->A y=some (a,us)->z=y
 gu:∀ z,A z=none->b6 done z=[]
 some':∀ z a ts,A z=some (a,ts)->b6 done z≠[]
def a8.start{H:Hp}{d:Addr}(h:H d=none):a8 H (upd H d<|.dK []) d [] [] [] (λ_=>none) where
 same:=λb u q=>by rw [au<|bd q h];exact q
 free:=h
 dict:=av
 keys:=rfl
 nodup:=Cj
 mem:=λz=>by simp
 val:=λz=>rfl
 at':=λz a ts h=>by cases h
 inj:=λz y a ts us h=>by cases h
 gu:=λz _=>rfl
 some':=λz a ts h=>by cases h
def uO{H:Hp}{t a:Addr}{e:End}{xs:List V}(h:H t=some (Tp e))(g:H a=some (.lst xs)):t≠a:=bQ h g λz=>nomatch z
def a8.old{H0 H:Hp}{d:Addr}{done:List (Str×End)}{kvs:List (Key×V)}{ks:List Str}{A:Str->Option (Addr×List Addr)}(S:a8 H0 H d done kvs ks A){z:Str}{e:End}{a l0 t:Addr}{ts:List Addr}
  (hA:A z=some (a,ts)) (hl:H l0=none) (ht:(upd H l0<|.lst []) t=none) :
  a8 H0 (upd (upd (upd H l0<|.lst []) t<|Tp e) a<|.lst<|ts.map V.ref++[.ref t]) d (done++[(z,e)]) kvs ks (λy=>if y=z then some (a,ts++[t]) else A y):=by
 obtain⟨q1,q2,q3,q4⟩:=S.at' z a ts hA;have yt:H t=none:=by
  by_cases c:t=l0
  ·rw [c,av] at ht;cases ht
  ·rwa [au c] at ht
 have yu:l0≠a:=(bd q3 hl).symm;have yv:t≠a:=(bd q3 yt).symm;have cA:a≠t:=yv.symm;have keep:∀ b u,b≠a->H b=some u->(upd (upd (upd H l0<|.lst []) t<|Tp e) a<|.lst<|ts.map V.ref++[.ref t]) b=some u:=λb u h1 h2=>by
  rw [au h1,au<|bd h2 yt,au<|bd h2 hl];exact h2
 have kt:∀ b f,H b=some (Tp f)->(upd (upd (upd H l0<|.lst []) t<|Tp e) a<|.lst<|ts.map V.ref++[.ref t]) b=some (Tp f):=λb f h=>keep b _ (uO h q3) h;have et:(upd (upd (upd H l0<|.lst []) t<|Tp e) a<|.lst<|ts.map V.ref++[.ref t]) t=some (Tp e):=by rw [au yv,av]
 refine⟨λb u h=>?_,S.free,keep d _ (CG q2) S.dict,S.keys,S.nodup,λy=>?_,λy=>?_,λy a' iI h=>?_,λy y' a' iI us h1 h2=>?_,λy h=>?_,λy a' iI h=>?_⟩
 ·exact keep b u (bd h q1)<|S.same _ _ h
 ·rw [S.mem y]
  by_cases c:y=z
  ·rw [BL c,c,hA];simp
  ·rw [BK c]
 ·rw [S.val y]
  by_cases c:y=z
  ·rw [BL c,c,hA];rfl
  ·rw [BK c]
 ·by_cases c:y=z
  ·rw [BL c] at h;cases h;refine⟨q1,q2,by rw [av,Ai];rfl,?_⟩;rw [dk,c,BL rfl];exact(q4.keep kt).append<|.cons et .nil
  ·rw [BK c] at h;obtain⟨r1,r2,r3,r4⟩:=S.at' y a' iI h;have bw:a'≠a:=λe2=>c<|S.inj y z a iI ts (e2 ▸ h) hA;refine⟨r1,r2,keep _ _ bw r3,?_⟩;rw [dk,BK λh=>c h.symm,Ba];exact r4.keep kt
 ·by_cases c:y=z <;> by_cases c':y'=z
  ·rw [c,c']
  ·rw [BL c] at h1;rw [BK c'] at h2;cases h1;exact absurd (S.inj y' z a us ts h2 hA) c'
  ·rw [BK c] at h1;rw [BL c'] at h2;cases h2;exact absurd (S.inj y z a iI ts h1 hA) c
  ·rw [BK c] at h1;rw [BK c'] at h2;exact S.inj y y' a' iI us h1 h2
 ·by_cases c:y=z
  ·rw [BL c] at h;cases h
  ·rw [BK c] at h;rw [dk,BK λh=>c h.symm,Ba];exact S.gu y h
 ·by_cases c:y=z
  ·rw [dk,BL c.symm];simp
  ·rw [BK c] at h;rw [dk,BK λh=>c h.symm,Ba];exact S.some' y a' iI h
def a8.new{H0 H:Hp}{d:Addr}{done:List (Str×End)}{kvs:List (Key×V)}{ks:List Str}{A:Str->Option (Addr×List Addr)}(S:a8 H0 H d done kvs ks A){z:Str}{e:End}{l0 t:Addr}
  (hA:A z=none) (hl:H l0=none) (ht:(upd (upd H l0<|.lst []) d<|.dK<|putK kvs (Sum.inr z)<|.ref l0) t=none) :
  a8 H0 (upd (upd (upd (upd H l0<|.lst []) d<|.dK<|putK kvs (Sum.inr z)<|.ref l0) t<|Tp e) l0<|.lst [.ref t]) d (done++[(z,e)]) (putK kvs (Sum.inr z)<|.ref l0) (ks++[z]) (λy=>if y=z then some (l0,[t]) else A y):=by
 have j5:d≠l0:=bd S.dict hl;have ED:t≠d:=λc=>by rw [c,av] at ht;cases ht
 have j6:t≠l0:=λc=>by rw [au ED,c,av] at ht;cases ht
 have yt:H t=none:=by rwa [au ED,au j6] at ht
 have vn:al kvs (Sum.inr z)=none:=by rw [S.val z,hA];rfl
 have keep:∀ b u,b≠d->H b=some u->(upd (upd (upd (upd H l0<|.lst []) d<|.dK<|putK kvs (Sum.inr z)<|.ref l0) t<|Tp e) l0<|.lst [.ref t]) b=some u:=λb u h1 h2=>by
  rw [au<|bd h2 hl,au<|bd h2 yt,au h1,au<|bd h2 hl];exact h2
 have kt:∀ b f,H b=some (Tp f)->(upd (upd (upd (upd H l0<|.lst []) d<|.dK<|putK kvs (Sum.inr z)<|.ref l0) t<|Tp e) l0<|.lst [.ref t]) b=some (Tp f):=λb f h=>keep b _ (bQ h S.dict λz=>nomatch z) h;have YS:H0 l0=none:=S.same.free hl;have zk:z∉ks:=λh=>by
  have:=(S.mem z).mp h;rw [hA] at this;cases this
 refine⟨λb u h=>?_,S.free,?_,?_,?_,λy=>?_,λy=>?_,λy a' iI h=>?_,λy y' a' iI us h1 h2=>?_,λy h=>?_,λy a' iI h=>?_⟩
 ·exact keep b u (bd h S.free)<|S.same _ _ h
 ·rw [au j5,au ED.symm,av]
 ·rw [M6 _ vn,Ai,S.keys,Ai];rfl
 ·rw [Cf];exact⟨S.nodup,by simp,λx hx y hy e=>by rw [Ag] at hy;subst hy e;exact zk hx⟩
 ·rw [An,Ag,S.mem y]
  by_cases c:y=z
  ·rw [BL c];simp [c]
  ·rw [BK c];simp [c]
 ·rw [c7]
  by_cases c:y=z
  ·rw [BL (by rw [c]),BL c];rfl
  ·rw [BK λh=>c<|Sum.inr.inj h,BK c,S.val y]
 ·by_cases c:y=z
  ·rw [BL c] at h;cases h;refine⟨YS,j5.symm,by rw [av];rfl,?_⟩;rw [dk,c,BL rfl,S.gu z hA];exact .cons (by rw [au j6,av]) .nil
  ·rw [BK c] at h;obtain⟨r1,r2,r3,r4⟩:=S.at' y a' iI h;refine⟨r1,r2,keep _ _ r2 r3,?_⟩;rw [dk,BK λh=>c h.symm,Ba];exact r4.keep kt
 ·by_cases c:y=z <;> by_cases c':y'=z
  ·rw [c,c']
  ·rw [BL c] at h1;rw [BK c'] at h2;cases h1;exact absurd hl<|by rw [(S.at' y' l0 us h2).2.2.1];exact λh=>nomatch h
  ·rw [BK c] at h1;rw [BL c'] at h2;cases h2;exact absurd hl<|by rw [(S.at' y l0 iI h1).2.2.1];exact λh=>nomatch h
  ·rw [BK c] at h1;rw [BK c'] at h2;exact S.inj y y' a' iI us h1 h2
 ·by_cases c:y=z
  ·rw [BL c] at h;cases h
  ·rw [BK c] at h;rw [dk,BK λh=>c h.symm,Ba];exact S.gu y h
 ·by_cases c:y=z
  ·rw [dk,BL c.symm];simp
  ·rw [BK c] at h;rw [dk,BK λh=>c h.symm,Ba];exact S.some' y a' iI h
theorem EE:∀(n m:Net) (k:Nat),gQ k (n++m)=gQ k n++gQ (k+n.length) m
 | [],m,k=>rfl
 | a :: n,m,k=>by
  show bD k a.2 0++gQ (k+1) (n++m)=(bD k a.2 0++gQ (k+1) n)++gQ (k+(n.length+1)) m;rw [EE n m<|k+1,As,show k+1+n.length=k+(n.length+1) by omega]
def rT{n:Net}{r:Nat}(h:r < n.length):bg (n.take<|r+1)=bg (n.take r)++bD r (row n r) 0:=by
 unfold bg;rw [Bx,Ab h,EE];have e:(n.take r).length=r:=by rw [Bd];omega
 rw [e,Fs];have er:row n r=n[r].2:=by unfold row;rw [Ab h];rfl
 rw [er];show _++(bD r n[r].2 0++[])=_;rw [Ba]
def pS{r:Nat}{ts:List Str}{p:Nat}{z:Str}(h:ts[p]?=some z):bD r (ts.take<|p+1) 0=bD r (ts.take p) 0++[(z,(r,p))]:=by
 unfold bD;have hp:=(Ac.mp h).1;rw [Bx,h,List.zipIdx_append,Ai];have e:(ts.take p).length=p:=by rw [Bd];omega
 rw [e,Fs];rfl
structure bN(H:Hp)(d:Addr)(n:Net)(ks:List Str):Prop where
 dict:∃ kvs,H d=some (.dK kvs)/\kvs.map (·.1)=ks.map Sum.inr/\∀ z∈ag n,∃ a ts,al kvs (Sum.inr z)=some (.ref a)/\H a=some (.lst<|ts.map V.ref)/\Pd H ts (pos n z)
 nodup:ks.Nodup
 mem:∀ z,z∈ks↔z∈ag n
def bN.same{H H':Hp}{d:Addr}{n:Net}{ks:List Str}(S:bN H d n ks)(s:ah H H'):bN H' d n ks:=by
 obtain⟨kvs,h1,h2,h3⟩:=S.dict;refine⟨⟨kvs,s _ _ h1,h2,λz hz=>?_⟩,S.nodup,S.mem⟩;obtain⟨a,ts,q1,q2,q3⟩:=h3 z hz;exact⟨a,ts,q1,s _ _ q2,q3.keep λt e h=>s _ _ h⟩
def OG{n:Net}{z:Str}:z∈ag n↔pos n z≠[]:=by
 rw [<- Dr,<- rR,De]
theorem a8.whole{H0 H:Hp}{d:Addr}{n:Net}{kvs:List (Key×V)}{ks:List Str}{A:Str->Option (Addr×List Addr)}(S:a8 H0 H d (bg n) kvs ks A):bN H d n ks:=by
 have mem:∀ z,z∈ks↔z∈ag n:=λz=>by
  rw [S.mem z,OG];cases h:A z with
  | none=>simp;exact S.gu z h
  | some p=>
   obtain⟨a,ts⟩:=p;simp;exact S.some' z a ts h
 refine⟨⟨kvs,S.dict,S.keys,λz hz=>?_⟩,S.nodup,mem⟩;have:=(S.mem z).mp<|(mem z).mpr hz;cases h:A z with
 | none=>rw [h] at this;cases this
 | some p=>
  obtain⟨a,ts⟩:=p;obtain⟨q1,q2,q3,q4⟩:=S.at' z a ts h;exact⟨a,ts,by rw [S.val z,h];rfl,q3,q4⟩
def all2(e:Nat->Bool):(List.range 2).all e=(e 0 && e 1):=by
 show(([0,1]:List Nat).all e)=_;simp
def OH(x y:End):(cE (.int x.1) (.int y.1) && cE (.int x.2) (.int y.2))=decide (x=y):=by
 obtain⟨a,b⟩:=x;obtain⟨c,d⟩:=y
 by_cases h:a=c <;> by_cases h2:b=d
 ·subst h h2;simp [cE]
 ·have:¬(b:Int)=(d:Int):=λe=>h2 (by omega);simp [cE,h2,this]
 ·have:¬(a:Int)=(c:Int):=λe=>h (by omega);simp [cE,h,this]
 ·have:¬(a:Int)=(c:Int):=λe=>h (by omega);simp [cE,h,this]
section
variable{X:Cx}{H:Hp}{s t:Addr}{x y:End}
theorem OI:∀(j:Nat) (u v:V),[V.int x.1,.int x.2][j]?=some u->[V.int y.1,.int y.2][j]?=some v->jz X H 0 u v (if j=0 then cE (.int x.1) (.int y.1) else cE (.int x.2) (.int y.2))
 | 0,u,v,h1,h2=>by
  cases h1;cases h2;exact pP rfl rfl
 | 1,u,v,h1,h2=>by
  cases h1;cases h2;exact pP rfl rfl
 | j+2,u,v,h1,h2=>by simp at h1
def YT(hs:H s=some (Tp x))(ht:H t=some (Tp y)):lB X H 1 (.ref s) (.ref t) (decide (x=y)):=by
 have:=Oo (X:=X) (k:=0) (λj=>if j=0 then cE (.int x.1) (.int y.1) else cE (.int x.2) (.int y.2)) (aM.of hs) (aM.of ht) rfl OI;rw [show([V.int (x.1:Int),.int x.2].length)=2 from rfl,all2] at this;have e:=OH x y;simp only [DN] at this;rw [BK (by decide),e] at this;exact this
def YV(hs:H s=some (Tp x))(ht:H t=some (Tp y)):nY X H 1 (.ref s) (.ref t) (decide (x=y)):=by
 have:=Oq (X:=X) (k:=0) (λj=>if j=0 then cE (.int x.1) (.int y.1) else cE (.int x.2) (.int y.2)) (aM.of hs) (aM.of ht) rfl OI;rw [show([V.int (x.1:Int),.int x.2].length)=2 from rfl,all2] at this;have e:=OH x y;simp only [DN] at this;rw [BK (by decide),e] at this;exact this
end
abbrev lets:Str:= "abcdefghijklmnopqrstuvwxyz0123456789"
def OL:lets.cps.toList.length=36:=by decide +kernel
def YW:lets.cps.toList.Nodup:=by decide +kernel
def sgn(i:Int):Nat:=(eY lets.cps.toList<|i % 36).getD 0
def EF(i:Int):eY lets.cps.toList (i % 36)=some (sgn i):=by
 have h0:0<=i % 36:=Bz _ (by decide);have h1:i % 36 < 36:=Cg _ (by decide);have hj:(i % 36).toNat < lets.cps.toList.length:=by rw [OL];omega
 have q:=nM (xs:=lets.cps.toList) (j:=(i % 36).toNat) (v:=lets.cps.toList[(i % 36).toNat]) (by simp [hj]);rw [show(((i % 36).toNat:Nat):Int)=i % 36 by omega] at q;unfold sgn;rw [q];rfl
def OM{i j:Int}(h:sgn i=sgn j):i % 36=j % 36:=by
 have key:∀ k:Int,lets.cps.toList[(k % 36).toNat]?=some (sgn k):=λk=>by
  have h0:0<=k % 36:=Bz _ (by decide);have h1:k % 36 < 36:=Cg _ (by decide);have hj:(k % 36).toNat < lets.cps.toList.length:=by rw [OL];omega
  have q:=nM (xs:=lets.cps.toList) (j:=(k % 36).toNat) (v:=lets.cps.toList[(k % 36).toNat]) (by simp [hj]);rw [show(((k % 36).toNat:Nat):Int)=k % 36 by omega,EF] at q;rw [Ab hj,Option.some.inj q]
 have hi:=key i;have hj:=key j;rw [h] at hi;obtain⟨l1,e1⟩:=Ac.mp hi;obtain⟨l2,e2⟩:=Ac.mp hj;have:=(Fx (xs:=lets.cps.toList) (h₀:=l1) (h₁:=l2) YW).mp<|e1.trans e2.symm;have a0:0<=i % 36:=Bz _ (by decide);have b0:0<=j % 36:=Bz _ (by decide);omega
def turn(b:Int)(sp:Int)(v k:Nat):Int:=b / 64+(k:Int) * (b / 7 % 5)+(if(k:Int)=sp then(v:Int) else 0)
def nm(b sp:Int)(v:Nat):Nat->Str
 | 0=>⟨#[]⟩
 | k+1=>nm b sp v k++⟨#[sgn<|turn b sp v k]⟩
def app_list(x y:Str):(x++y).cps.toList=x.cps.toList++y.cps.toList:=by
 show(x.cps++y.cps).toList=_;simp
theorem yw(b sp:Int)(v:Nat):∀ k,(nm b sp v k).cps.toList=(List.range k).map λj=>sgn<|turn b sp v j
 | 0=>rfl
 | k+1=>by
  show(nm b sp v k++⟨#[sgn<|turn b sp v k]⟩).cps.toList=_;rw [app_list,yw b sp v k,Dp,Ai];rfl
def YX{b sp:Int}{u v k:Nat}(hu:u < 36)(hv:v < 36)(h0:0<=sp)(h1:sp < (k:Int))(h:nm b sp u k=nm b sp v k):u=v:=by
 have e:(nm b sp u k).cps.toList=(nm b sp v k).cps.toList:=by rw [h]
 rw [yw,yw] at e;have hk:sp.toNat < k:=by omega
 have q:((List.range k).map λj=>sgn<|turn b sp u j)[sp.toNat]?=((List.range k).map λj=>sgn<|turn b sp v j)[sp.toNat]?:=by rw [e]
 rw [Af,Af,Ef hk] at q;have q2:sgn (turn b sp u sp.toNat)=sgn (turn b sp v sp.toNat):=Option.some.inj q;have q3:=OM q2;unfold turn at q3;rw [show((sp.toNat:Nat):Int)=sp by omega,BL rfl,BL rfl] at q3;omega
theorem fold_list(c:Nat):∀(k:Nat) (acc:Array Nat),((List.replicate k (#[c]:Array Nat)).foldl (·++·) acc).toList=acc.toList++List.replicate k c
 | 0,acc=>by simp
 | k+1,acc=>by
  rw [List.replicate_succ,Dz,fold_list c k,List.replicate_succ];simp
def mul_list(c:Nat){i:Int}(h:1<=i):(Txt.mul ⟨#[c]⟩ i).cps.toList=List.replicate i.toNat c:=by
 unfold Txt.mul;rw [BK<|by omega]
 by_cases e:i=1
 ·subst e;rfl
 ·have e1:(i == 1 || (⟨#[c]⟩:Str).length == 0)=false:=by
   have:(i == 1)=false:=by simpa using e
   rw [this];rfl
  rw [e1];simp only [Bu,DQ];have:=fold_list c i.toNat #[]
  simpa using this
def aN(b:Int)(v:Nat):Str:=if b % 3=2 then Txt.mul ⟨#[sgn<|b / 64+(v:Int) / 8]⟩ (1+(v:Int) % 8) else nm b (b / 8 % (1+b % 8)) v (1+b % 8).toNat
def YY{b:Int}{u v:Nat}(hu:u < 36)(hv:v < 36)(h:aN b u=aN b v):u=v:=by
 have s0:0<=b % 8:=Bz _ (by decide);unfold aN at h
 by_cases c:b % 3=2
 ·rw [BL c,BL c] at h;have u0:0<=(u:Int) % 8:=Bz _ (by decide);have v0:0<=(v:Int) % 8:=Bz _ (by decide);have e:(Txt.mul ⟨#[sgn<|b / 64+(u:Int) / 8]⟩<|1+(u:Int) % 8).cps.toList=(Txt.mul ⟨#[sgn<|b / 64+(v:Int) / 8]⟩<|1+(v:Int) % 8).cps.toList:=by rw [h]
  rw [mul_list _ (by omega),mul_list _<|by omega] at e;have l:=BZ List.length e;rw [Ep,Ep] at l;have hd:(List.replicate (1+(u:Int) % 8).toNat<|sgn<|b / 64+(u:Int) / 8)[0]?=(List.replicate (1+(v:Int) % 8).toNat<|sgn<|b / 64+(v:Int) / 8)[0]?:=by rw [e]
  rw [Eh,Eh,BL (by omega),BL<|by omega] at hd;have q:=OM<|Option.some.inj hd;omega
 ·rw [BK c,BK c] at h;refine YX hu hv (Bz _<|by omega) ?_ h;have:=Cg (b / 8) (show 0 < 1+b % 8 by omega);omega
def namesOf(b:Int)(m:Nat):List Str:=(List.range m).map<|aN b
def yx{b:Int}{m:Nat}(h:m<=36):(namesOf b m).Nodup:=by
 unfold namesOf;refine QG _ (R:=λi j=>i < j/\j < m) ?_ ?_
 ·rintro i j ⟨h1,h2⟩ e;have:=YY (by omega) (by omega) e;omega
 ·rw [Bt];intro i j hi hj dw;simp only [Ej];simp at hj;exact⟨dw,hj⟩
def yy(b:Int)(m:Nat):namesOf b (m+1)=namesOf b m++[aN b m]:=by
 unfold namesOf;rw [Dp,Ai];rfl
def EG(b:Int)(m:Nat):(namesOf b m).length=m:=by unfold namesOf;simp
def YZ{b:Int}{m i:Nat}(h:i < m):(namesOf b m)[i]?=some (aN b i):=by
 unfold namesOf;rw [Af,Ef h];rfl
end Nt
namespace Q2
open PySem L2
def top(i:Nat):Stmt:=PySem.Challenge.pw_threewebs_k42_no_doubles.main.body.getD i<|.Pass ⟨0,0,0,0⟩
abbrev yz:Stmt:=top 6
abbrev yA:Stmt:=top 7
abbrev EH:Stmt:=top 8
abbrev EI:Stmt:=top 9
abbrev EJ:Stmt:=top 10
abbrev yB:Stmt:=top 11
abbrev yC:Stmt:=top 12
abbrev yD:Stmt:=top 13
abbrev yE:Stmt:=top 15
abbrev EK:Stmt:=top 16
abbrev uP:Stmt:=top 17
abbrev hG:Stmt:=top 19
abbrev pT:Stmt:=top 20
abbrev yF:Stmt:=top 21
abbrev uQ:Stmt:=top 22
abbrev pU:Stmt:=top 24
abbrev pV:Stmt:=top 25
abbrev uR:Stmt:=top 26
abbrev EL:Stmt:=top 28
abbrev uS:Stmt:=top 29
abbrev yG:Stmt:=top 30
abbrev ER:Stmt:=top 32
abbrev pW:Stmt:=top 33
abbrev EV:Stmt:=top 34
abbrev EW:Stmt:=top 35
abbrev EX:Stmt:=top 36
abbrev EZ:Stmt:=top 37
abbrev E1:Stmt:=top 38
abbrev pX:Stmt:=top 39
abbrev pY:Stmt:=top 40
abbrev yH:Stmt:=top 41
abbrev yI:Stmt:=top 42
abbrev yJ:Stmt:=top 43
abbrev uT:Stmt:=top 44
abbrev n8:Stmt:=top 45
abbrev E3:Stmt:=top 46
abbrev pZ:Stmt:=top 47
abbrev jc:Stmt:=top 48
structure Txt(mg:Str->Option Value):Prop where
 rV:mg "isinstance" = none
 E4:mg "tuple" = none
 Y0:mg "str" = none
 mC:mg "int" = none
 uU:mg "bool" = none
 j7:mg "list" = none
 uV:mg "dict" = none
 E5:mg "set" = none
 enum:mg "enumerate" = none
 zip:mg "zip" = none
 len:mg "len" = none
 range:mg "range" = none
 sorted:mg "sorted" = none
 max:mg "max" = none
 all:mg "all" = none
 E6:mg "ValueError" = none
open Nt bB
def small{n:Nat}(h:n<=100000):n<=sizeLine:=by rw [DY];omega
def bH{n:Nat}(h:n<=100000):n < sizeLine:=by rw [DY];omega
def aK{H:Hp}{p:Addr}(h:H p=none)(o:HO):ah H (upd H p o):=λb u q=>by rw [au<|bd q h];exact q
def db{H1 H2:Hp}{r:Addr}{o:HO}(s:ah H1 H2)(h:H1 r=none):ah H1 (upd H2 r o):=λb u q=>by
 rw [au<|bd q h];exact s _ _ q
def E7{H:Hp}{l:Addr}{zs:List Str}{y:Str}:upd H l (.lst<|zs.map V.str++[V.str y])=upd H l (Ls<|zs++[y]):=by
 show _=upd H l (.lst<|(zs++[y]).map V.str);rw [Ai];rfl
def yK(K:PySem.W.Frag):Sp:=λvs H Q _=>∃(a:Addr) (ns:List Int) (k:Int),vs=[.ref a,.int k]/\ai K H a (ns.map V.int)/\0<=k/\∀ i,Q (.int i) H
def E8(K:PySem.W.Frag):Sp:=λvs H Q _=>∃(a:Addr) (ns:List Int) (k:Int),vs=[.ref a,.int k]/\ai K H a (ns.map V.int)/\0<=k/\∀ i H',ah H H'->Q (.int i) H'
def E9:Sp:=λvs H Q _=>∃(b m:Int),vs=[.int b,.int m]/\0<=m/\m<=36/\∀ l H',ah H H'->H l=none->H' l=some (Ls<|namesOf b m.toNat)->Q (.ref l) H'
def yL:Sp:=λvs H Q _=>∃(R:Addr) (as:List<|Addr×Addr) (n:Net),vs=[.ref R]/\ak H R as n/\n.length<=1000/\(ag n).length<=1000/\∀ d ks H',ah H H'->H d=none->bN H' d n ks->Q (.ref d) H'
def FA:Sp:=λvs H Q _=>∃(R d t:Addr) (as:List<|Addr×Addr) (n:Net) (ks:List Str) (e:Nt.End),vs=[.ref R,.ref d,.ref t]/\ak H R as n/\bN H d n ks/\aw n/\H t=some (Tp e)/\e∈ends n/\∀ u,H u=some (Tp<|other n e)->Q (.ref u) H
def FC:Sp:=λvs H Q _=>∃(R d t:Addr) (as:List<|Addr×Addr) (n:Net) (ks:List Str) (e:Nt.End),vs=[.ref R,.ref d,.ref t,.int 1]/\ak H R as n/\bN H d n ks/\aw n/\H t=some (Tp e)/\e∈ends n/\∀ u H',ah H H'->H u=none->H' u=some (Tp<|step n e)->Q (.ref u) H'
def FD:Sp:=λvs H Q _=>∃(R d t:Addr) (as:List<|Addr×Addr) (n:Net) (ks:List Str) (e:Nt.End),vs=[.ref R,.ref d,.ref t]/\ak H R as n/\bN H d n ks/\aw n/\H t=some (Tp e)/\e∈ends n/\(ends n).length<=1000 /\
 ∀ l ts fs H',ah H H'->H l=none->H' l=some (.lst<|ts.map V.ref)->Pd H' ts fs->fz n e fs->Q (.ref l) H'
section
variable{P:Program}{w:World}{K:PySem.W.Frag}{mg:Str->Option Value}{base:Heap}
def Y1:ao ["_law_script","_law_k"] ["_law_script","_law_k"] (aP ER):=⟨rfl,rfl,rfl,by decide +kernel,rfl,by decide +kernel,by decide +kernel⟩
def Y2{ns:List Int}{k:Int}(h0:0<=k)(h1:k < (ns.length:Int)):∃ v:Int,eY (ns.map V.int) k=some (.int v):=by
 have hj:k.toNat < ns.length:=by omega
 have q:=nM (xs:=ns.map V.int) (j:=k.toNat) (v:= .int ns[k.toNat]) (by simp [hj]);rw [show((k.toNat:Nat):Int)=k by omega] at q;exact⟨_,q⟩
def Y3{f:Addr}{fd:FuncData}(F:bu K "_law_cell_at" "_law_cell_at" ER f fd)(T:Txt mg):aC P w K mg base bA 1 f fd ["_law_script","_law_k"] (yK K):=by
 refine F.gb Y1 (λvs H Q E h=>?_) λb0 H vs Q E hr h=>?_
 ·obtain⟨a,ns,k,rfl,_⟩:=h;rfl
 obtain⟨a,ns,k,rfl,hS,h0,q⟩:=h;show Run _ _ _ [some<|.ref a,some<|.int k] H;refine gM<|cz Mu<|ae 1<|bX eB T.len DR<|aj<|ae 0<|aA ⟨a,_,rfl,.inl hS,_,_,rfl,rfl,_,rfl,?_⟩;refine gg (λc=>?_) λc=>?_
 ·have c':=BX c;obtain⟨v,hv⟩:=Y2 (ns:=ns) h0 (by rw [Aa] at c';exact c');exact bL<|aZ cv<|ae 0<|ae 1 ⟨a,_,_,.int v,rfl,rfl,hS,hv,q v⟩
 ·exact a7<|bL<|aD<|q 0
abbrev p4:List V:=[.int 48271,.int 69621,.int 16807,.int 39373,.int 21401,.int 60493,.int 87721,.int 31337]
abbrev gy:List V:=[.int 99991,.int 99989,.int 99971,.int 99961,.int 99929,.int 99923,.int 99907,.int 99901]
def eight{i:Int}(h0:0<=i)(h1:i < 8):i=0\/i=1\/i=2\/i=3\/i=4\/i=5\/i=6\/i=7:=by
 obtain⟨k,rfl⟩:=Int.eq_ofNat_of_zero_le h0;exact(by decide:∀ k:Fin 8,(k.1:Int)=0\/(k.1:Int)=1\/(k.1:Int)=2\/(k.1:Int)=3\/(k.1:Int)=4\/(k.1:Int)=5\/(k.1:Int)=6\/(k.1:Int)=7) ⟨k,Int.ofNat_lt.mp h1⟩
def Y4{i:Int}(h0:0<=i)(h1:i < 8):∃ m:Int,eY p4 i=some (.int m)/\0 < m/\m < 100000:=by
 rcases eight h0 h1 with rfl | rfl | rfl | rfl | rfl | rfl | rfl | rfl <;> exact⟨_,rfl,by decide,by decide⟩
def Y5{i:Int}(h0:0<=i)(h1:i < 8):∃ m:Int,eY gy i=some (.int m)/\0 < m/\m < 100000:=by
 rcases eight h0 h1 with rfl | rfl | rfl | rfl | rfl | rfl | rfl | rfl <;> exact⟨_,rfl,by decide,by decide⟩
def oa:ao ["_law_script","_law_at","_law_by","_law_prime","_law_cell","_law_big_here","_law_k","_law_one"] ["_law_script","_law_at"] (aP pW):=⟨rfl,rfl,rfl,by decide +kernel,rfl,by decide +kernel,by decide +kernel⟩
def Y6{f:Addr}{fd:FuncData}(F:bu K "_law_big" "_law_big" pW f fd)(T:Txt mg)(G:aO P w K mg base 1 "_law_cell_at" ["_law_script","_law_k"]<|yK K) :
  aC P w K mg base bA 2 f fd ["_law_script","_law_at"] (E8 K):=by
 refine F.gb oa (λvs H Q E h=>?_) λb0 H vs Q E hr h=>?_
 ·obtain⟨a,ns,k,rfl,_⟩:=h;rfl
 obtain⟨a,ns,k,rfl,hS,h0,q⟩:=h;have nd:=oa.nd;show Run _ _ _ [some<|.ref a,some<|.int k,none,none,none,none,none,none] H;refine aT 2 nd (eC<|aj<|aD<|aj<|aD<|aj<|aD<|aj<|aD<|aj<|aD<|aj<|aD<|aj<|aD<|aj<|aD<|aA ⟨(by show 8<=sizeLine;decide),λp hp=>?_⟩);refine aT 3 nd (eC<|aj<|aD<|aj<|aD<|aj<|aD<|aj<|aD<|aj<|aD<|aj<|aD<|aj<|aD<|aj<|aD<|aA ⟨(by show 8<=sizeLine;decide),λp2 jt=>?_⟩);have Y7:p≠p2:=by
  intro e;rw [<- e,av] at jt;cases jt
 have s1:ah H (upd H p<|.tup p4):=aK hp _;have s2:ah H (upd (upd H p<|.tup p4) p2<|.tup gy):=s1.trans<|aK jt _;have e1:(upd (upd H p<|.tup p4) p2<|.tup gy) p=some (.tup p4):=by rw [au Y7,av]
 have e2:(upd (upd H p<|.tup p4) p2<|.tup gy) p2=some (.tup gy):=av;generalize upd (upd H p<|.tup p4) p2 (.tup gy)=H2 at s2 e1 e2 ⊢;refine aT 4 nd<|bG G hr<|aj<|ae 0<|aj<|ae 1<|aA ⟨a,ns,k,rfl,s2.seq hS,h0,λb=>?_⟩;show Run _ _ _ [some<|.ref a,some<|.int k,some<|.ref p,some<|.ref p2,some<|.int b,none,none,none] H2;refine yf True True (λR qq=>?_) (λ_=>?_) λ_=>a7 ?_
 ·refine nS (yc<|cz i0<|aY cO<|ae 4<|aD ⟨_,_,rfl,rfl,(by show(0:Int) < 2;decide),aD ⟨rfl,_,rfl,?_⟩⟩);refine gg (λc=>?_) (λc=>qq false (λz=>nomatch z) λ_=>trivial);exact yd<|cz Mv<|ae 4<|aY Mm<|aD<|aD ⟨_,_,rfl,rfl,⟨by decide,by decide,by decide⟩,_,_,rfl,rfl,_,rfl,qq _ (λ_=>trivial) λ_=>trivial⟩
 ·exact bL<|aY iz<|ae 4<|aD ⟨_,_,rfl,rfl,⟨by decide,by decide⟩,q _ _ s2⟩
 refine aT 5 nd<|aD ?_;refine mq T.range<|aD ⟨60,rfl,by decide,by decide,mr (n:=60) (λ_ σ H3=>H3=H2/\∃(x:Int) (u v:Option V),σ=[some<|.ref a,some<|.int k,some<|.ref p,some<|.ref p2,some<|.int b,some<|.int x,u,v]) ⟨rfl,0,_,_,rfl⟩ ?_ ?_⟩
 ·rintro i σ H3 hi ⟨rfl,x,u,v,rfl⟩;have i9:0<=(0+(i:Int)) % 9:=Bz _ (by decide);obtain⟨m1,f1,g1,g2⟩:=Y4 (i:=(0+(i:Int)) % 8) (Bz _<|by decide) (Cg _<|by decide);obtain⟨m2,f2,g3,g4⟩:=Y5 (i:=(0+(i:Int)) % 8) (Bz _<|by decide) (Cg _<|by decide);refine aW 6 nd ?_;refine aT 7 nd<|aY fM<|aY fM<|aY cO<|bG G hr<|aj<|ae 0<|aj<|aY fM<|ae 1<|aY cO<|ae 6<|aD ?_;refine⟨_,_,rfl,rfl,(by show(0:Int) < 9;decide),_,_,rfl,rfl,aA ⟨a,ns,_,rfl,s2.seq hS,?_,λc=>?_⟩⟩
  ·show 0<=k+(0+(i:Int)) % 9;omega
  refine aY Mm (aD<|aD ⟨_,_,rfl,rfl,⟨by decide,by decide,by decide⟩,_,_,rfl,rfl,(by show(0:Int) < 10 ^ (18:Int).toNat;decide),aD ⟨_,_,rfl,rfl,?_⟩⟩);refine aY xY<|ae 6<|ae 6 ?_;refine⟨_,_,rfl,rfl,.inl ⟨by omega,by omega⟩,_,_,rfl,rfl,?_⟩;refine aT 5 nd (aY fM<|aY xY<|ae 5<|aD ⟨_,_,rfl,rfl,.inr ⟨by decide,by decide⟩,?_⟩);refine aY cO (aY cO<|aY xY<|ae 7<|aZ ce<|ae 2<|aY cO<|ae 6<|aD ⟨_,_,rfl,rfl,(by show(0:Int) < 8;decide),p,_,_,_,rfl,rfl,aM.of e1,f1,_,_,rfl,rfl,.inr ⟨by omega,by omega⟩,?_⟩);refine aZ ce (ae 3<|aY cO<|ae 6<|aD ⟨_,_,rfl,rfl,(by show(0:Int) < 8;decide),p2,_,_,_,rfl,rfl,aM.of e2,f2,_,_,rfl,rfl,g3,aD ⟨_,_,rfl,rfl,(by show(0:Int) < 7919;decide),_,_,rfl,rfl,?_⟩⟩);exact a7 ⟨rfl,_,_,_,rfl⟩
 ·rintro σ H3 ⟨rfl,x,u,v,rfl⟩;exact bL<|ae 5<|q x _ s2
abbrev NN:List Str:=["_law_stem","_law_many","_law_signs","_law_size","_law_spot","_law_names_here","_law_v","_law_name","_law_k","_law_turn"]
def iJ:ao NN ["_law_stem","_law_many"] (aP EV):=⟨rfl,rfl,rfl,by decide +kernel,rfl,by decide +kernel,by decide +kernel⟩
def Y8{f:Addr}{fd:FuncData}(F:bu K "_law_names" "_law_names" EV f fd)(T:Txt mg):aC P w K mg base bA 1 f fd ["_law_stem","_law_many"] E9:=by
 refine F.gb iJ (λvs H Q E h=>?_) λb0 H vs Q E hr h=>?_
 ·obtain⟨b,m,rfl,_⟩:=h;rfl
 obtain⟨b,m,rfl,m0,m1,q⟩:=h;have nd:=iJ.nd;have s0:0<=b % 8:=Bz _ (by decide);have s1:b % 8 < 8:=Cg _ (by decide);show Run _ _ _ [some<|.int b,some<|.int m,none,none,none,none,none,none,none,none] H;refine aT 2 nd<|C6 ?_;refine aT 3 nd (aY fM<|aD<|aY cO<|ae 0<|aD ⟨_,_,rfl,rfl,(by show(0:Int) < 8;decide),_,_,rfl,rfl,?_⟩);refine aT 4 nd (aY cO<|aY iz<|ae 0<|aD ⟨_,_,rfl,rfl,⟨by decide,by decide⟩,ae 3 ⟨_,_,rfl,rfl,(by show 0 < 1+b % 8;omega),?_⟩⟩);refine aT 5 nd<|dU<|aA ⟨Z0,λl hl=>?_⟩;show Run _ _ _ [some<|.int b,some<|.int m,some<|.str lets,some<|.int<|1+b % 8,some<|.int<|b / 8 % (1+b % 8),some<|.ref l,none,none,none,none] _;have spE:b / 8 % (1+b % 8)=b / 8 % (1+b % 8):=rfl;refine mq T.range<|ae 1 ⟨m,rfl,by omega,by omega,mr (n:=m.toNat) (λi σ H3=>H3=upd H l (Ls<|namesOf b i)/\∃ u1 u2 u3 u4,σ=[some<|.int b,some<|.int m,some<|.str lets,some<|.int<|1+b % 8,some<|.int<|b / 8 % (1+b % 8),some<|.ref l,u1,u2,u3,u4]) ⟨rfl,_,_,_,_,rfl⟩ ?_ ?_⟩
 ·rintro i σ H3 hi ⟨rfl,u1,u2,u3,u4,rfl⟩;refine aW 6 nd ?_;refine aT 7 nd<|C6 ?_;refine mq T.range<|ae 3 ⟨_,rfl,by omega,by omega,mr (n:=(1+b % 8).toNat) (λj σ H4=>H4=upd H l (Ls<|namesOf b i)/\∃(u3 u4:Option V),σ=[some<|.int b,some<|.int m,some<|.str lets,some<|.int<|1+b % 8,some<|.int<|b / 8 % (1+b % 8),some<|.ref l,some<|.int<|0+(i:Int),some<|.str<|nm b (b / 8 % (1+b % 8)) i j,u3,u4]) ⟨rfl,_,_,rfl⟩ ?_ ?_⟩
  ·rintro j σ H4 hj ⟨rfl,v3,v4,rfl⟩;have t0:0<=b / 7 % 5:=Bz _ (by decide);have t1:b / 7 % 5 < 5:=Cg _ (by decide);have nl:(nm b (b / 8 % (1+b % 8)) i j).length=j:=by
    have:=BZ List.length<|yw b (b / 8 % (1+b % 8)) i j;show(nm b (b / 8 % (1+b % 8)) i j).cps.size=j
    simpa using this
   refine aW 8 nd ?_;refine aT 9 nd (aY fM<|aY iz<|ae 0<|aD ⟨_,_,rfl,rfl,⟨by decide,by decide⟩,aY xY<|ae 8<|aY cO<|aY iz<|ae 0<|aD ⟨_,_,rfl,rfl,⟨by decide,by decide⟩,aD ⟨_,_,rfl,rfl,(by show(0:Int) < 5;decide),?_⟩⟩⟩);refine⟨_,_,rfl,rfl,.inr ⟨by omega,by omega⟩,_,_,rfl,rfl,?_⟩;refine D6 ((0+(j:Int))=b / 8 % (1+b % 8)) (¬(0+(j:Int))=b / 8 % (1+b % 8)) (λσ' H'=>H'=upd H l (Ls<|namesOf b i)/\σ'=[some<|.int b,some<|.int m,some<|.str lets,some<|.int<|1+b % 8,some<|.int<|b / 8 % (1+b % 8),some<|.ref l,some<|.int<|0+(i:Int),some<|.str<|nm b (b / 8 % (1+b % 8)) i j,some<|.int<|0+(j:Int),some<|.int<|turn b (b / 8 % (1+b % 8)) i j]) (λR qq=>?_) (λhc=>?_) (λhc=>a7 ⟨rfl,?_⟩) ?_
   ·refine cz i0<|ae 8<|ae 4 ⟨rfl,_,rfl,?_⟩
    by_cases hc:(0+(j:Int))=b / 8 % (1+b % 8)
    ·rw [BW (show V.int (0+(j:Int))=V.int (b / 8 % (1+b % 8)) by rw [hc])];exact qq true (λ_=>hc) λh=>by cases h
    ·rw [BR λh=>hc<|V.int.inj h];exact qq false (λh=>by cases h) λ_=>hc
   ·refine aT 9 nd<|aY fM<|ae 9<|ae 6 ⟨_,_,rfl,rfl,a7 ⟨rfl,?_⟩⟩;have e:b / 64+(0+(j:Int)) * (b / 7 % 5)+(0+(i:Int))=turn b (b / 8 % (1+b % 8)) i j:=by
     unfold turn;rw [BL (by omega),Dg,Dg]
    rw [<- e];rfl
   ·have e:b / 64+(0+(j:Int)) * (b / 7 % 5)=turn b (b / 8 % (1+b % 8)) i j:=by
     unfold turn;rw [BK (by omega),Dg,Int.add_zero]
    rw [<- e];rfl
   ·rintro σ' H' ⟨rfl,rfl⟩;refine aT 7 nd<|aY V5<|ae 7<|aZ MO<|ae 2<|aY cO<|ae 9<|aD ⟨_,_,rfl,rfl,(by show(0:Int) < 36;decide),lets,_,sgn<|turn b (b / 8 % (1+b % 8)) i j,rfl,rfl,by decide +kernel,EF _,_,_,rfl,rfl,small (by show(nm b (b / 8 % (1+b % 8)) i j).length+1<=100000;omega),a7 ⟨rfl,_,_,rfl⟩⟩
  ·rintro σ H4 ⟨rfl,v3,v4,rfl⟩;refine D6 (b % 3=2) (¬ b % 3=2) (λσ' H'=>H'=upd H l (Ls<|namesOf b i)/\σ'=[some<|.int b,some<|.int m,some<|.str lets,some<|.int<|1+b % 8,some<|.int<|b / 8 % (1+b % 8),some<|.ref l,some<|.int<|0+(i:Int),some<|.str<|aN b i,v3,v4]) (λR qq=>?_) (λhc=>?_) (λhc=>a7 ⟨rfl,?_⟩) ?_
   ·refine cz i0<|aY cO<|ae 0<|aD ⟨_,_,rfl,rfl,(by show(0:Int) < 3;decide),aD ⟨rfl,_,rfl,?_⟩⟩
    by_cases hc:b % 3=2
    ·rw [BW (show V.int (b % 3)=V.int 2 by rw [hc])];exact qq true (λ_=>hc) λh=>by cases h
    ·rw [BR λh=>hc<|V.int.inj h];exact qq false (λh=>by cases h) λ_=>hc
   ·have e0:0<=(0+(i:Int)) % 8:=Bz _ (by decide);have e1:(0+(i:Int)) % 8 < 8:=Cg _ (by decide);refine aT 7 nd (aY Xe<|aZ MO<|ae 2<|aY cO<|aY fM<|aY iz<|ae 0<|aD ⟨_,_,rfl,rfl,⟨by decide,by decide⟩,aY iz<|ae 6<|aD ⟨_,_,rfl,rfl,⟨by decide,by decide⟩,_,_,rfl,rfl,aD ⟨_,_,rfl,rfl,(by show(0:Int) < 36;decide),lets,_,sgn<|b / 64+(0+(i:Int)) / 8,rfl,rfl,by decide +kernel,EF _,?_⟩⟩⟩);refine aY fM (aD<|aY cO<|ae 6<|aD ⟨_,_,rfl,rfl,(by show(0:Int) < 8;decide),_,_,rfl,rfl,?_⟩);refine⟨_,_,rfl,rfl,by omega,by omega,?_,a7 ⟨rfl,?_⟩⟩
    ·show 1 * _<=_;omega
    ·have e:Txt.mul ⟨#[sgn<|b / 64+(0+(i:Int)) / 8]⟩ (1+(0+(i:Int)) % 8)=aN b i:=by
      unfold aN;rw [BL hc,Dg]
     rw [<- e];rfl
   ·have e:nm b (b / 8 % (1+b % 8)) i (1+b % 8).toNat=aN b i:=by
     unfold aN;rw [BK hc]
    rw [<- e]
   ·rintro σ' H' ⟨rfl,rfl⟩;refine g5<|j3<|ae 5 ⟨l,rfl,⟨_,av⟩,ae 7 ⟨_,av,?_,?_⟩⟩
    ·rw [Aa,EG];exact bH<|by omega
    ·rw [o8];refine a7 ⟨?_,_,_,_,_,rfl⟩;rw [yy];exact E7
 ·rintro σ H3 ⟨rfl,u1,u2,u3,u4,rfl⟩;exact bL<|ae 5<|q l _ (aK hl _) hl av
def Y9{H:Hp}{d:Addr}{kvs:List (Key×V)}(h:H d=some (.dK kvs)):lY K "dict" (.ref d) H:=Or.inr<|Or.inr<|Or.inl ⟨rfl,Or.inl ⟨kvs,h⟩⟩
abbrev NS:List Str:=["_law_rows","_law_seats_here","_law_r","_law_place"]
def iK:ao NS ["_law_rows"] (aP EW):=⟨rfl,rfl,rfl,by decide +kernel,rfl,by decide +kernel,by decide +kernel⟩
def Y'{f:Addr}{fd:FuncData}(F:bu K "_law_seats" "_law_seats" EW f fd)(T:Txt mg):aC P w K mg base bA 1 f fd ["_law_rows"] yL:=by
 refine F.gb iK (λvs H Q E h=>?_) λb0 H vs Q E hr h=>?_
 ·obtain⟨R,as,n,rfl,_⟩:=h;rfl
 obtain⟨R,as,n,rfl,hR,hn,ht,q⟩:=h;have nd:=iK.nd;have bY:=hR.len;show Run _ _ _ [some<|.ref R,none,none,none] H;refine aT 1 nd<|EA λd hd=>?_;refine mq T.range (bX eB T.len DR<|aj<|ae 0<|aA ⟨R,_,rfl,.inl<|ai.of<|aK hd _ _ _ hR.lst,_,rfl,by omega,by rw [Aa];omega,?_⟩);rw [Aa,bY,Bf];refine mr (λr σ H3=>∃ kvs ks A u1 u2,a8 H H3 d (bg<|n.take r) kvs ks A/\σ=[some<|.ref R,some<|.ref d,u1,u2]) ⟨_,_,_,_,_,a8.start hd,rfl⟩ ?_ ?_
 ·rintro r σ H3 hi ⟨kvs,ks,A',u1,u2,S,rfl⟩;rw [Dg];refine aW 2 nd ?_;obtain⟨a,ea,eR,et,el,er⟩:=(hR.same S.same).at hi;refine mq T.range<|bX eB T.len DR<|aj<|aZ ce<|aZ cv<|ae 0<|ae 2 ⟨R,_,_,.ref a.1,rfl,rfl,ai.of<|S.same _ _ hR.lst,eR,aD ⟨a.1,_,_,.ref a.2,rfl,rfl,aM.of et,rfl,aA ⟨a.2,_,rfl,.inl<|ai.of el,_,rfl,by omega,?_,?_⟩⟩⟩
  ·have:(row n r).length<=1000:=by
    have h1:(row n r).length<=(ag n).length:=by
     exact jb n r
    omega
   rw [Aa];omega
  rw [Aa,Bf];refine mr (λp σ H4=>∃ kvs ks A u2,a8 H H4 d (bg (n.take r)++bD r ((row n r).take p) 0) kvs ks A/\σ=[some<|.ref R,some<|.ref d,some<|.int (r:Int),u2]) ⟨kvs,ks,A',_,by simpa [bD] using S,rfl⟩ ?_ ?_
  ·rintro p σ H4 hp ⟨kvs,ks,A',u2,S,rfl⟩;rw [Dg];refine aW 3 nd ?_;obtain⟨a,ea,eR,et,el,er⟩:=(hR.same S.same).at hi;have hz:(row n r)[p]?=some (row n r)[p]:=Ab hp;generalize (row n r)[p]=z at hz;have next:bg (n.take r)++bD r ((row n r).take<|p+1) 0=(bg (n.take r)++bD r ((row n r).take p) 0)++[(z,(r,p))]:=by
    rw [pS hz,As]
   have hlen:kvs.length < sizeLine:=by
    have h1:ks.length<=1000:=by
     refine Bv (aE (b:=ag n) S.nodup λy hy=>?_) ht;have h2:=(S.mem y).mp hy;cases hA:A' y with
     | none=>rw [hA] at h2;cases h2
     | some pr=>
      obtain⟨a2,lF⟩:=pr;have h3:=S.some' y a2 lF hA;unfold b6 at h3;obtain⟨x,hx⟩:=Ff _ h3;obtain⟨⟨y2,e2⟩,hm,_⟩:=Aj.mp hx;rw [Bk,GJ] at hm;obtain⟨hm,rfl⟩:=hm;have:(y2,e2)∈bg n:=by
       rcases An.mp hm with hm | hm
       ·have q1:=aV.mp hm;refine aV.mpr ?_;have q2:=dz q1;unfold aG row at q1 ⊢;rw [Bd] at q2;rwa [Ds<|by omega] at q1
       ·have q1:=b5.mp hm;refine aV.mpr ?_;unfold aG;rw [q1.1];have q3:=q1.2.2;rw [VB] at q3;have q4:=(Ac.mp q3).1;rw [Bd] at q4;rwa [Ds<|by omega] at q3
      exact eI<|aV.mp this
    have h2:=BZ List.length S.keys;rw [Aa,Aa] at h2;exact bH<|by omega
   refine g5<|j3<|D8 PySem.F.plainAttrs_dict PySem.F.slot_dict_setdefault PySem.F.type_dict_setdefault Yr<|ae 1 ⟨Y9 S.dict,aZ cv<|aZ ce<|aZ cv<|ae 0<|ae 2 ⟨R,_,_,.ref a.1,rfl,rfl,ai.of<|S.same _ _ hR.lst,eR,aD ⟨a.1,_,_,.ref a.2,rfl,rfl,aM.of et,rfl,ae 3 ⟨a.2,_,_,.str z,rfl,rfl,ai.of el,uN hz,?_⟩⟩⟩⟩;refine dU<|aA ⟨Z0,λl0 g6=>?_⟩;have j5:d≠l0:=bd S.dict g6;refine⟨d,kvs,Sum.inr z,.ref l0,rfl,rfl,by rw [au j5];exact S.dict,hlen,?_⟩;cases hA:A' z with
   | some pr=>
    obtain⟨a2,lF⟩:=pr;obtain⟨q1,q2,q3,q4⟩:=S.at' z a2 lF hA;have yu:a2≠l0:=bd q3 g6;refine .inl ⟨.ref a2,by rw [S.val z,hA];rfl,a2,rfl,⟨_,by rw [au yu];exact q3⟩,?_⟩;refine eC<|aj<|ae 2<|aj<|ae 3<|aA ⟨Z2,λt iG=>?_⟩;have yv:a2≠t:=λe=>by rw [<- e,au yu,q3] at iG;cases iG
    refine⟨lF.map V.ref,by rw [au yv,au yu];exact q3,?_,?_⟩
    ·rw [Aa,q4.length];have h1:(b6 (bg (n.take r)++bD r ((row n r).take p) 0) z).length<=100000:=by
      unfold b6;rw [Aa];refine Bv (Ck _ _) ?_;rw [Ad];have h2:(bg<|n.take r).length<=1000:=by
       have:=BZ List.length<|lE (n.take r) 0;rw [Aa] at this;unfold bg;rw [this];exact Bv (OC n r) ht
      have h3:(bD r ((row n r).take p) 0).length<=1000:=by
       unfold bD;rw [Aa,List.length_zipIdx,Bd];have h1:(row n r).length<=(ag n).length:=by
        exact jb n r
       omega
      omega
     exact bH h1
    ·refine a7 ⟨kvs,ks,(λy=>if y=z then some (a2,lF++[t]) else A' y),_,?_,rfl⟩;rw [next];exact S.old (e:=(r,p)) hA g6 iG
   | none=>
    refine .inr ⟨by rw [S.val z,hA];rfl,l0,rfl,⟨_,by rw [au j5.symm];exact av⟩,?_⟩;refine eC<|aj<|ae 2<|aj<|ae 3<|aA ⟨Z2,λt iG=>?_⟩;have j6:l0≠t:=λe=>by rw [<- e,au j5.symm,av] at iG;cases iG
    refine⟨[],by rw [au j6,au j5.symm,av],by show 0 < sizeLine;decide,?_⟩;refine a7 ⟨putK kvs (Sum.inr z)<|.ref l0,ks++[z],(λy=>if y=z then some (l0,[t]) else A' y),_,?_,rfl⟩;rw [next];exact S.new (e:=(r,p)) hA g6 iG
  ·rintro σ H4 ⟨kvs,ks,A',u2,S,rfl⟩;refine a7 ⟨kvs,ks,A',_,_,?_,rfl⟩;rw [rT hi];rwa [Bm] at S
 ·rintro σ H3 ⟨kvs,ks,A',u1,u2,S,rfl⟩;rw [Bm] at S;exact bL<|ae 1<|q d ks H3 S.same S.free S.whole
abbrev NO:List Str:=["_law_rows","_law_seats_here","_law_end","_law_pair"]
def iL:ao NO ["_law_rows","_law_seats_here","_law_end"] (aP EX):=⟨rfl,rfl,rfl,by decide +kernel,rfl,by decide +kernel,by decide +kernel⟩
theorem Za{f:Addr}{fd:FuncData}(F:bu K "_law_other" "_law_other" EX f fd)(T:Txt mg):aC P w K mg base bA 1 f fd ["_law_rows","_law_seats_here","_law_end"] FA:=by
 refine F.gb iL (λvs H Q E h=>?_) λb0 H vs Q E hr h=>?_
 ·obtain⟨R,d,t,as,n,ks,e,rfl,_⟩:=h;rfl
 obtain⟨R,d,t,as,n,ks,e,rfl,hR,hS,hT,ht,he,q⟩:=h;have nd:=iL.nd;have hu:=hr.gq;obtain⟨z,hz⟩:=af.mp he;have aX:=dz hz;obtain⟨a,ea,eR,et,el,er⟩:=hR.at aX;obtain⟨kvs,h1,h2,h3⟩:=hS.dict;obtain⟨pa,ts,v1,v2,v3⟩:=h3 z<|eI hz;obtain⟨x,y,hp,hxy,yj⟩:=pR hT hz;rw [hp] at v3;cases v3 with
 | cons x1 v3=>
 cases v3 with
 | cons y1 v3=>
 cases v3;rename_i tx ty;show Run _ _ _ [some<|.ref R,some<|.ref d,some<|.ref t,none] H;have cj:=hr.u1;refine aT 3 nd<|dX cj<|ae 1<|aZ cv<|aZ ce<|aZ cv<|ae 0<|aZ ce<|ae 2<|aD ⟨t,_,_,.int (e.1:Int),rfl,rfl,aM.of ht,rfl,R,_,_,.ref a.1,rfl,rfl,ai.of hR.lst,eR,aD ⟨a.1,_,_,.ref a.2,rfl,rfl,aM.of et,rfl,?_⟩⟩;refine aZ ce (ae 2<|aD ⟨t,_,_,.int (e.2:Int),rfl,rfl,aM.of ht,rfl,a.2,_,_,.str z,rfl,rfl,ai.of el,uN hz,d,.ref pa,rfl,by rw [<- v1];exact aU.k (k:=Sum.inr z) h1,?_⟩);show Run _ _ _ [some<|.ref R,some<|.ref d,some<|.ref t,some<|.ref pa] H;refine bL<|aZ cv<|ae 3<|rH D9 T.mC JH<|aj<|gY (yo hu)<|aZ cv<|ae 3<|aD ⟨pa,_,_,.ref tx,rfl,rfl,ai.of v2,rfl,ae 2 ⟨1,_,by decide,YT x1 ht,?_⟩⟩
 by_cases c:x=e
 ·rw [BW c];refine aA ⟨_,rfl,pa,[.ref tx,.ref ty],1,.ref ty,rfl,rfl,ai.of v2,rfl,q ty ?_⟩;have e1:other n e=y:=by unfold other;simp only [hz,hp];simp [c]
  rw [e1];exact y1
 ·rw [BR c];refine aA ⟨_,rfl,pa,[.ref tx,.ref ty],0,.ref tx,rfl,rfl,ai.of v2,rfl,q tx ?_⟩;have e1:other n e=x:=by unfold other;simp only [hz,hp];simp [c]
  rw [e1];exact x1
abbrev NT:List Str:=["_law_rows","_law_seats_here","_law_end","_law_turn","_law_other_here"]
def j8:ao NT ["_law_rows","_law_seats_here","_law_end","_law_turn"] (aP EZ):=⟨rfl,rfl,rfl,by decide +kernel,rfl,by decide +kernel,by decide +kernel⟩
def Zb{f:Addr}{fd:FuncData}(F:bu K "_law_step" "_law_step" EZ f fd)(T:Txt mg)(G:aO P w K mg base 1 "_law_other" ["_law_rows","_law_seats_here","_law_end"] FA) :
  aC P w K mg base bA 2 f fd ["_law_rows","_law_seats_here","_law_end","_law_turn"] FC:=by
 refine F.gb j8 (λvs H Q E h=>?_) λb0 H vs Q E hr h=>?_
 ·obtain⟨R,d,t,as,n,ks,e,rfl,_⟩:=h;rfl
 obtain⟨R,d,t,as,n,ks,e,rfl,hR,hS,hT,ht,he,q⟩:=h;have nd:=j8.nd;have ho:=dj hT he;obtain⟨z,hz⟩:=af.mp ho;have aX:=dz hz;have jN:=ja hz;obtain⟨a,ea,eR,et,el,er⟩:=hR.at aX;show Run _ _ _ [some<|.ref R,some<|.ref d,some<|.ref t,some<|.int 1,none] H;refine aT 4 nd<|bG G hr<|aj<|ae 0<|aj<|ae 1<|aj<|ae 2<|aA ⟨R,d,t,as,n,ks,e,rfl,hR,hS,hT,ht,he,λu hu=>?_⟩;show Run _ _ _ [some<|.ref R,some<|.ref d,some<|.ref t,some<|.int 1,some<|.ref u] H;refine bL<|eC<|aj<|aZ ce<|ae 4<|aD ⟨u,_,_,.int ((other n e).1:Int),rfl,rfl,aM.of hu,rfl,?_⟩;refine aj<|aY cO<|aY fM<|aZ ce<|ae 4<|aD ⟨u,_,_,.int ((other n e).2:Int),rfl,rfl,aM.of hu,rfl,ae 3 ⟨_,_,rfl,rfl,?_⟩⟩;refine bX eB T.len DR<|aj<|aZ ce<|aZ cv<|ae 0<|aZ ce<|ae 4<|aD ⟨u,_,_,.int ((other n e).1:Int),rfl,rfl,aM.of hu,rfl,R,_,_,.ref a.1,rfl,rfl,ai.of hR.lst,eR,aD ⟨a.1,_,_,.ref a.2,rfl,rfl,aM.of et,rfl,aA ⟨a.2,_,rfl,.inl<|ai.of el,?_⟩⟩⟩;rw [Aa];refine⟨_,_,rfl,rfl,by omega,aA ⟨Z2,λp hp=>?_⟩⟩;refine q p _ (aK hp _) hp ?_;rw [av];unfold Nt.step Nt.left;show some (HO.tup [.int ((other n e).1:Int),.int<|(((other n e).2:Int)+1) % ((row n (other n e).1).length:Int)])=some (HO.tup [.int ((other n e).1:Int),.int ((((other n e).2+1) % (row n (other n e).1).length:Nat):Int)]);rw [Int.natCast_emod];rfl
abbrev NF:List Str:=["_law_rows","_law_seats_here","_law_end","_law_face_here","_law_here"]
def j9:ao NF ["_law_rows","_law_seats_here","_law_end"] (aP E1):=⟨rfl,rfl,rfl,by decide +kernel,rfl,by decide +kernel,by decide +kernel⟩
def og(n:Net)(e:Nt.End)(j:Nat):List Nt.End:=(List.range j).map λi=>it (step n) i e
def Zc(n:Net)(e:Nt.End)(j:Nat):og n e (j+1)=og n e j++[it (step n) j e]:=by
 unfold og;rw [Dp,Ai];rfl
def Zd{f:Addr}{fd:FuncData}(F:bu K "_law_face" "_law_face" E1 f fd)(T:Txt mg)(G:aO P w K mg base 2 "_law_step" ["_law_rows","_law_seats_here","_law_end","_law_turn"] FC) :
  aC P w K mg base bA 3 f fd ["_law_rows","_law_seats_here","_law_end"] FD:=by
 refine F.gb j9 (λvs H Q E h=>?_) λb0 H vs Q E hr h=>?_
 ·obtain⟨R,d,t,as,n,ks,e,rfl,_⟩:=h;rfl
 obtain⟨R,d,t,as,n,ks,e,rfl,hR,hS,hT,ht,he,hb,q⟩:=h;have nd:=j9.nd;have hu:=hr.gq;obtain⟨k,k0,k1,k2⟩:=EC (f:=step n) (S:=ends n) (λa ha=>rS hT ha) (λa ha b hb=>OB hT ha hb) he;show Run _ _ _ [some<|.ref R,some<|.ref d,some<|.ref t,none,none] H;refine aT 3 nd<|dU<|aj<|ae 2<|aA ⟨Z1,λl hl=>?_⟩;have g1:=aK hl<|.lst [.ref t];refine aT 4 nd<|bG G hr<|aj<|ae 0<|aj<|ae 1<|aj<|ae 2<|aj<|aD<|aA ⟨R,d,t,as,n,ks,e,rfl,hR.same g1,hS.same g1,hT,g1 _ _ ht,he,λu H1 s1 nu eu=>?_⟩;show Run _ _ _ [some<|.ref R,some<|.ref d,some<|.ref t,some<|.ref l,some<|.ref u] H1;refine uM (λm σ H2=>∃(j:Nat) (ts:List Addr) (u:Addr),m=k - j/\0 < j/\j<=k/\ah H H2/\H2 l=some (.lst<|ts.map V.ref)/\Pd H2 ts (og n e j)/\H2 u=some (Tp<|it (step n) j e)/\(∀ i,0 < i->i < j->it (step n) i e≠e)/\σ=[some<|.ref R,some<|.ref d,some<|.ref t,some<|.ref l,some<|.ref u])
  (m0:=k - 1) ⟨1,[t],u,rfl,Ez,k0,g1.trans s1,s1 _ _ av,.cons (s1 _ _<|g1 _ _ ht) .nil,eu,λi h1 h2=>by omega,rfl⟩ ?_
 rintro m σ H2 ⟨j,ts,u,rfl,j0,j1,sH,el,ep,eu,hf,rfl⟩;refine cz (rO hu) (ae 4<|ae 2 ⟨1,_,by decide,YV eu<|sH _ _ ht,_,rfl,?_⟩);have pl:=ep.length;have ol:(og n e j).length=j:=by unfold og;simp
 by_cases c:it (step n) j e=e
 ·rw [BW c];refine bR (bL<|ae 3<|q l ts (og n e j) H2 sH hl el ep ⟨by omega,by omega,λi hi=>?_,by rw [ol];exact c,λi h1 h2=>hf i h1<|by omega⟩);unfold og;rw [Af,Ef<|by omega];rfl
 ·rw [BR c];have jk:j < k:=by
   rcases Dt j k with h | h
   ·exact h
   ·have:j=k:=by omega
    subst this;exact absurd k2 c
  refine cw (g5<|j3<|ae 3 ⟨l,rfl,⟨_,el⟩,ae 4 ⟨_,el,by rw [Aa];exact bH (by omega),?_⟩⟩);have s2:ah H (upd H2 l<|.lst<|ts.map V.ref++[.ref u]):=db sH hl;have kt:∀ b f,H2 b=some (Tp f)->(upd H2 l<|.lst<|ts.map V.ref++[.ref u]) b=some (Tp f):=λb f h=>by
   rw [au<|uO h el];exact h
  have OO:=kt u _ eu;refine aT 4 nd<|bG G hr<|aj<|ae 0<|aj<|ae 1<|aj<|ae 4<|aj<|aD<|aA ⟨R,d,u,as,n,ks,it (step n) j e,rfl,hR.same s2,hS.same s2,hT,OO,j4 (λa ha=>rS hT ha) he j,λv H3 s3 nv ev=>?_⟩;refine a7 ⟨k - (j+1),by omega,j+1,ts++[u],v,rfl,VD _,jk,s2.trans s3,?_,?_,ev,λi h1 h2=>?_,rfl⟩
  ·rw [Ai];exact s3 _ _ av
  ·rw [Zc];exact(ep.keep λb f h=>s3 _ _<|kt b f h).append<|.cons (s3 _ _ OO) .nil
  ·rcases Nat.lt_succ_iff_lt_or_eq.mp h2 with h | h
   ·exact hf i h1 h
   ·rw [h];exact c
end
end Q2
namespace Nt
open PySem L2
def Full(n:Net):Prop:=(∃ nm,n=[(nm,[])])\/(n≠[]/\∀ i,i < n.length->row n i≠[])
def eU(n:Net)(c:End):Prop:=c.1 < n.length/\c.2 < max 1 (row n c.1).length
def ins(n:Net)(c:End)(z:Str):Net:=n.modify c.1 λr=>(r.1,r.2.take c.2++z :: r.2.drop c.2)
def gR(n:Net)(c:End)(z:Str):(ins n c z).length=n.length:=by unfold ins;rw [List.length_modify]
theorem FE(n:Net)(c:End)(z:Str):(ins n c z).map (·.1)=n.map (·.1):=by
 unfold ins;refine Do λi=>?_;rw [Af,Af,Fa];cases n[i]? with
 | none=>rfl
 | some r=>by_cases h:c.1=i <;> simp [h]
def rW(n:Net)(c:End)(z:Str)(i:Nat)(hc:c.1 < n.length):row (ins n c z) i=if c.1=i then(row n i).take c.2++z :: (row n i).drop c.2 else row n i:=by
 unfold row ins;rw [Fa]
 by_cases h:c.1=i
 ·subst h;rw [Ab hc];simp
 ·rw [BK h];cases n[i]? with
  | none=>simp [h]
  | some r=>simp [h]
theorem lG:∀(n:Net) (c:End) (z:Str),c.1 < n.length->(ag<|ins n c z).Perm (z :: ag n)
 | [],c,z,h=>by simp at h
 | a :: n,(0,p),z,h=>by
  unfold ins ag;simp only [List.modify_zero_cons,Cc];have:(a.2.take p++z :: a.2.drop p).Perm (z :: a.2):=by
   refine List.perm_middle.trans ?_;rw [Cv]
  exact this.append_right _
 | a :: n,(i+1,p),z,h=>by
  have ih:=lG n (i,p) z (by simpa using h);unfold ins ag at ih ⊢;simp only [List.modify_succ_cons,Cc];refine(ih.append_left a.2).trans ?_;exact List.perm_middle
def FG{n:Net}{c:End}{z:Str}(F:Full n)(hc:c.1 < n.length):n.length=1\/(∀ i,i < n.length->row n i≠[])->(∀ i,i < (ins n c z).length->row (ins n c z) i≠[])/\ins n c z≠[]:=by
 intro h;have hl:=gR n c z;refine⟨λi hi=>?_,λe=>?_⟩
 ·rw [rW n c z i hc]
  by_cases q:c.1=i
  ·rw [BL q];simp
  ·rw [BK q]
   rcases h with h | h
   ·rw [hl] at hi;omega
   ·exact h i<|by omega
 ·rw [e] at hl;simp at hl;omega
def Full.some{n:Net}(F:Full n):n≠[]:=by
 rcases F with ⟨nm,rfl⟩ | h
 ·simp
 ·exact h.1
def Full.either{n:Net}(F:Full n):n.length=1\/(∀ i,i < n.length->row n i≠[]):=by
 rcases F with ⟨nm,rfl⟩ | h
 ·exact .inl rfl
 ·exact .inr h.2
def Full.cH{n:Net}(F:Full n)(h0:row n 0≠[]){c:End}(hc:eU n c):c∈ends n:=by
 rcases F with ⟨nm,rfl⟩ | h
 ·exact absurd rfl h0
 ·have:=h.2 c.1 hc.1;have hp:0 < (row n c.1).length:=De.mpr this;have aX:c.2 < (row n c.1).length:=by
   have:=hc.2;omega
  exact af.mpr<|yr aX
def Zf{n:Net}{e:End}(h:e∈ends n):eU n e:=by
 obtain⟨z,h⟩:=af.mp h;have:=ja h;exact⟨dz h,by omega⟩
def p5(H H':Hp)(bad:List Addr):Prop:=∀ b o,H b=some o->b∉bad->H' b=some o
def OQ(zs:List Str)(i:Nat)(z:Str):insertAt (zs.map V.str) i (.str z)=(zs.take i++z :: zs.drop i).map V.str:=by
 unfold insertAt;rw [Ai,Bh,List.map_take,List.map_drop]
theorem ak.ins{H:Hp}{R:Addr}{as:List (Addr×Addr)}{n:Net}(h:ak H R as n){c:End}{z:Str}{a:Addr×Addr}(ha:as[c.1]?=some a)(hc:c.1 < n.length) :
  ak (upd H a.2<|Ls<|(row n c.1).take c.2++z :: (row n c.1).drop c.2) R as (Nt.ins n c z):=by
 have q0:=h.tup c.1 a n[c.1] ha<|Ab hc;have Zg:R≠a.2:=by
  intro e;have h1:=h.lst;rw [e,q0.2] at h1;have h2:=HO.lst.inj<|Option.some.inj h1;have h3:=BZ List.length h2;cases hm:n[c.1].2 with
  | nil=>
   rw [hm] at h2;have:as.map (λa=>V.ref a.1)=[]:=h2.symm;have hl:=BZ List.length this;rw [Aa,h.len] at hl;rw [hl] at hc;exact absurd hc<|Dv _
  | cons y r=>
   rw [hm] at h2;cases as with
   | nil=>simp at h2
   | cons b bs=>
    simp at h2
 have er:row n c.1=n[c.1].2:=by unfold row;rw [Ab hc];rfl
 refine⟨by rw [gR];exact h.len,by rw [au Zg];exact h.lst,λi b r hb hr=>?_,h.inj⟩;unfold Nt.ins at hr;rw [Fa] at hr;cases hn:n[i]? with
 | none=>rw [hn] at hr;by_cases q:c.1=i <;> simp [q] at hr
 | some r0=>
  rw [hn] at hr;have q1:=h.tup i b r0 hb hn;have t1:b.1≠a.2:=bQ q1.1 q0.2 λe=>nomatch e
  by_cases q:c.1=i
  ·subst q;rw [Ab hc] at hn;cases hn;rw [ha] at hb;cases hb;simp at hr;subst hr;refine⟨by rw [au t1];exact q1.1,?_⟩;rw [av,er]
  ·simp [q] at hr;subst hr;have t2:b.2≠a.2:=λe=>by
    have l1:i < as.length:=(Ac.mp hb).1;have l2:c.1 < as.length:=(Ac.mp ha).1;have x1:(as.map (·.2))[i]?=some b.2:=by rw [Af,hb];rfl
    have x2:(as.map (·.2))[c.1]?=some a.2:=by rw [Af,ha];rfl
    obtain⟨y1,z1⟩:=Ac.mp x1;obtain⟨y2,z2⟩:=Ac.mp x2;exact q<|(Fx (h₀:=y2) (h₁:=y1) h.inj).mp<|z2.trans<|e.symm.trans z1.symm
   exact⟨by rw [au t1];exact q1.1,by rw [au t2];exact q1.2⟩
def ak.more{H:Hp}{R t l:Addr}{as:List (Addr×Addr)}{n:Net}{pt:Str}{zs:List Str}(h:ak H R as n)(ht:H t=some (.tup [.str pt,.ref l]))(hl:H l=some (Ls zs))(hn:l∉as.map (·.2))(hR:l≠R) :
  ak (upd H R<|.lst<|as.map (λa=>V.ref a.1)++[.ref t]) R (as++[(t,l)]) (n++[(pt,zs)]):=by
 have bY:=h.len;refine⟨by rw [Ad,Ad,bY];rfl,by rw [av,Ai];rfl,λi b r hb hr=>?_,?_⟩
 ·rcases Dt i as.length with c | c
  ·rw [Ao c] at hb;rw [Ao<|by omega] at hr;have q:=h.tup i b r hb hr;have t1:b.1≠R:=bQ q.1 h.lst λe=>nomatch e;have t2:b.2≠R:=by
    intro e;have h1:=h.lst;rw [<- e,q.2] at h1;have h2:=HO.lst.inj<|Option.some.inj h1;cases as with
    | nil=>simp at c
    | cons b' bs=>
     cases hm:r.2 with
     | nil=>rw [hm] at h2;simp at h2
     | cons y r=>rw [hm] at h2;simp at h2
   exact⟨by rw [au t1];exact q.1,by rw [au t2];exact q.2⟩
  ·have e:i=as.length:=by
    have:=(Ac.mp hb).1;rw [Ad] at this;simp at this;omega
   subst e;rw [Ay<|Am _] at hb;rw [bY,Ay<|Am _] at hr;simp at hb hr;subst hb hr;have t1:t≠R:=bQ ht h.lst λe=>nomatch e;exact⟨by rw [au t1];exact ht,by rw [au hR];exact hl⟩
 ·rw [Ai,Cf];exact⟨h.inj,by simp,λx hx y hy e=>by simp at hy;subst hy e;exact hn hx⟩
def ak.lists{H:Hp}{R:Addr}{as:List (Addr×Addr)}{n:Net}(h:ak H R as n){x:Addr×Addr}(hx:x∈as):∃ zs,H x.2=some (Ls zs):=by
 obtain⟨i,hi,e⟩:=Cz.mp hx;have hl:=h.len;exact⟨_,(h.tup i x (n[i]'(by omega)) (by rw [<- e];exact Ab hi)<|Ab<|by omega).2⟩
def ak.fresh{H:Hp}{R l:Addr}{as:List (Addr×Addr)}{n:Net}(h:ak H R as n)(hl:H l=none){x:Addr×Addr}(hx:x∈as):l≠x.2:=by
 obtain⟨zs,e⟩:=h.lists hx;exact(bd e hl).symm
def iM(n:Net):(ends n).length=(ag n).length:=by
 unfold ends bg;rw [Aa,<- lE n 0,Aa]
def fz.ends{n:Net}(T:aw n){e:End}{fs:List End}(h:fz n e fs)(he:e∈ends n):∀ c∈fs,c∈Nt.ends n:=by
 intro c hc;obtain⟨i,hi,e2⟩:=Cz.mp hc;have:=h.at' i hi;rw [Ab hi,e2] at this;rw [Option.some.inj this];exact j4 (λa ha=>rS T ha) he i
def yM{n:Net}{c k:End}{z:Str}(hc:eU n c)(hk:k.1 < n.length):eU (ins n k z) c:=by
 refine⟨by rw [gR];exact hc.1,?_⟩;rw [rW n k z c.1 hk];have:=hc.2
 split
 ·rw [Ad,Ax,Bd,Db];omega
 ·exact this
def dbl(zs:List Str):List Str:=zs.flatMap λz=>[z,z]
theorem FH(y:Str):∀ zs:List Str,(dbl zs).count y=2 * zs.count y
 | []=>rfl
 | z :: r=>by
  unfold dbl;rw [Cc];have ih:=FH y r;unfold dbl at ih;rw [Er,ih,Dh,Dh,Dh,List.count_nil];omega
def iN{y:Str}{zs:List Str}:y∈dbl zs↔y∈zs:=by
 rw [<- Dr,FH,<- Dr];omega
theorem FI:∀ zs:List Str,(dbl zs).length=2 * zs.length
 | []=>rfl
 | z :: r=>by
  unfold dbl;rw [Cc,Ad];have ih:=FI r;unfold dbl at ih;rw [ih,Ax];simp;omega
def Zh(zs:List Str)(z:Str):dbl (zs++[z])=dbl zs++[z,z]:=by
 unfold dbl;rw [Cu];rfl
def OS{n:Net}{zs:List Str}(hn:zs.Nodup)(p:(ag n).Perm<|dbl zs):aw n:=λz hz=>by
 rw [p.count_eq,FH];have h1:z∈zs:=iN.mp<|p.mem_iff.mp hz;rw [hn.count,BL h1]
def NE(n:Net):Prop:=∀ r∈n,r.2≠[]
def jd{n:Net}{i:Nat}(h:i < n.length):row n i=n[i].2:=by unfold row;rw [Ab h];rfl
def Zi{n:Net}(h:NE n)(h0:n≠[]):Full n:= .inr ⟨h0,λi hi=>by rw [jd hi];exact h _<|Bs hi⟩
def Full.ne{n:Net}(h:Full n):(∃ nm,n=[(nm,[])])\/NE n:=by
 rcases h with h | ⟨_,h⟩
 ·exact .inl h
 ·refine .inr λr hr=>?_;obtain⟨i,hi,rfl⟩:=Cz.mp hr;have:=h i hi;rwa [jd hi] at this
theorem OT:∀(n:Net) (k:Nat) (h:k < n.length),(ag n).Perm<|n[k].2++ag (n.eraseIdx k)
 | [],k,h=>by simp at h
 | a :: n,0,h=>by unfold ag;simp
 | a :: n,k+1,h=>by
  have ih:=OT n k (by simpa using h);unfold ag at ih ⊢;simp only [Cc,List.getElem_cons_succ,RJ];refine(ih.append_left a.2).trans ?_;rw [<- As,<- As];exact List.perm_append_comm.append_right _
def Zj(n:Net)(k:Nat)(h:k < n.length):(n.map (·.1)).Perm (n[k].1 :: (n.eraseIdx k).map (·.1)):=by
 have:=(bU.bV n k h).map (·.1);exact this.symm
def FK(zs:List Str)(i:Nat):(zs.drop i++zs.take i).Perm zs:=by
 refine Ce.trans ?_;rw [Cv]
def ak.upd{H:Hp}{R x:Addr}{as:List (Addr×Addr)}{n:Net}(h:ak H R as n){xs:List V}{o:HO}(hx:H x=some (.lst xs))(hR:R≠x)(ha:∀ a∈as,a.2≠x):ak (upd H x o) R as n:=by
 refine⟨h.len,by rw [au hR];exact h.lst,λi a r h1 h2=>?_,h.inj⟩;have q:=h.tup i a r h1 h2;exact⟨by rw [au<|bQ q.1 hx λe=>nomatch e];exact q.1,by rw [au<|ha a<|At h1];exact q.2⟩
def FL{α:Type}(l:List α)(k i:Nat):(l.eraseIdx k)[i]?=if i < k then l[i]? else l[i+1]?:=by
 rw [Fu]
def ak.erase{H:Hp}{R:Addr}{as:List (Addr×Addr)}{n:Net}(h:ak H R as n){k:Nat}(hk:k < n.length) :
  ak (L2.upd H R<|.lst<|(as.map λa=>V.ref a.1).eraseIdx k) R (as.eraseIdx k) (n.eraseIdx k):=by
 have hl:=h.len;refine⟨by rw [Dk,Dk,hl],?_,λi a r h1 h2=>?_,?_⟩
 ·rw [av]
  congr 2
  refine Do λi=>?_;rw [FL,Af,Af,Af,FL]
  split <;> rfl
 ·rw [FL] at h1 h2;have q:H a.1=some (.tup [.str r.1,.ref a.2])/\H a.2=some (Ls r.2):=by
   by_cases c:i < k
   ·rw [BL c] at h1 h2;exact h.tup i a r h1 h2
   ·rw [BK c] at h1 h2;exact h.tup (i+1) a r h1 h2
  have t2:a.2≠R:=by
   intro e;have h3:=h.lst;rw [<- e,q.2] at h3;have h4:=HO.lst.inj<|Option.some.inj h3;cases as with
   | nil=>simp at hl;simp [<- hl] at hk
   | cons b bs=>
    cases hm:r.2 with
    | nil=>rw [hm] at h4;simp at h4
    | cons y r=>rw [hm] at h4;simp at h4
  exact⟨by rw [au<|bQ q.1 h.lst λe=>nomatch e];exact q.1,by rw [au t2];exact q.2⟩
 ·have:((as.eraseIdx k).map (·.2)).Sublist (as.map (·.2)):=(List.eraseIdx_sublist as k).map _;exact h.inj.sublist this
def Zk(zs:List Str)(i:Nat):f7 (zs.map V.str) (some (i:Int)) none=(zs.drop i).map V.str:=by
 unfold f7;rw [HT.iA,HT.fZ,Aa];rw [Dc (by rw [Db,Aa];omega),List.map_drop]
 rcases Nat.le_total i zs.length with h | h
 ·rw [Fn h]
 ·rw [Fc h,SN (by simp),SN<|by simpa using h]
def Zm(zs:List Str)(i:Nat):f7 (zs.map V.str) none (some (i:Int))=(zs.take i).map V.str:=by
 unfold f7;rw [HT.iA,HT.fZ,Aa,List.drop_zero,VB,List.map_take]
 rcases Nat.le_total i zs.length with h | h
 ·rw [Fn h]
 ·rw [Fc h,Dc (by simp),Dc<|by simpa using h]
end Nt
namespace L2
open PySem PySem.Spec PyProof.Rows
def OU{P:Program}{w:World}{k:Key}{u:Value}(h:(dh P w).is k u=true):RelV (kV k) u:=by
 rcases kZ h with ⟨i,t,rfl,rfl⟩ | ⟨x,t,rfl,rfl⟩ <;> exact⟨t,rfl⟩
section
variable{X:Cx}{pins:List (Addr×Obj)}{σ:St}{H:Hp}{s:Shared}
def OV{d:Addr}{kvs:List (Key×V)}(I:Inv X pins σ H s)(e:H d=some (.dK kvs)):∃ o,s.heap.get? d=some o/\Inv X pins σ (upd H d<|.bh o<|.dK kvs) s:=by
 obtain⟨z,hd,vs,rel,dd⟩:=uq I.aB e;obtain⟨o,es,ep,ho,rest⟩:=id dd;refine⟨o,ho,?_⟩;exact l' (t':=s.toks) I (by rw [e];exact True.intro) ⟨rfl,λ_ _=>rfl⟩ ⟨o,ho⟩ (show az X.prog X.w _ s.heap d (.bh o<|.dK kvs) from⟨ho,z,hd,vs,rel,dd⟩)
def uW(d:Addr)(o:Obj)(kvs:List<|Key×V):It:=
 ⟨λi H=>H d=some (.bh o<|.dK kvs)/\i < kvs.length,λi H x H'=>H'=H/\∃ p,kvs[i]?=some p/\x=kV p.1,λi H=>H d=some (.bh o<|.dK kvs)/\kvs.length<=i⟩
def OW{P:Program}{w:World}{h:Heap}{d:Addr}{o:Obj}{es:Array DictEntry}{ep:Nat}{kvs:List (Key×V)}(aB:b8 P w H h)(e:H d=some (.bh o<|.dK kvs))(hd:o.data = .dict es ep):∃ vs,KV kvs vs/\h.DictAt (dh P w) d vs ep:=by
 obtain⟨ho,z,_,vs,rel,dd⟩:=(show az P w H h d (.bh o<|.dK kvs) from aB d _ e);obtain⟨tP,o',fu,dH,r1,r2,r3⟩:=dd.dictAt;have:o=o':=Option.some.inj<|ho.symm.trans dH;subst this;rw [hd] at r2
 injection r2 with e1 e2
 subst e1;subst e2;exact⟨vs,rel,o,es,dH,r1,hd,r3⟩
def OX{P:Program}{w:World}{K:PySem.W.Frag}{tg:Expr}(d it:Addr)(o:Obj)(es:Array DictEntry)(ep:Nat)(kvs:List<|Key×V)(p7:o.data = .dict es ep):Turn P w K tg (uW d o kvs) [it] it (λi h=>h.IsKeyIter it d i kvs.length ep) where
 mem:=by simp
 obj:=λi h st b hb=>by
  have e:b=it:=by simpa using hb
  subst e;obtain⟨o,e,c,d⟩:=st;exact⟨o,e,λv z=>by rw [d] at z;cases z⟩
 keep:=λi h h' st k=>let ⟨o,ho,r⟩:=st;⟨o,k it (by simp) o ho,r⟩
 item:=by
  intro X hP hw hK hc i pins s σ H E I hf st hg;subst hP hw hK;obtain⟨f0,f1,f2,f3,f4,f5⟩:=hf it (by simp);obtain⟨hd,hi⟩:=hg;obtain⟨vs,rel,da⟩:=OW I.aB hd p7;have hl:=rel.length;have FO:i < vs.length:=by omega
  have hx:vs[i]?=some vs[i]:=Ab FO;rw [hl] at st;refine wpAny_pyNext_dict_item (k:=vs[i].1) (v:=vs[i].2) st da hx λkey h' hk cY fb=>?_;have I1:Inv X pins σ H {s with heap:=h'}:=I.turned (t':=s.toks) (λb o hb e=>fb.extBut b o hb e) f0 f1 f3 f4 f5;obtain⟨o2,e2,c2,d2⟩:=id cY;refine⟨_,rfl,xS (s:={s with heap:=h'}) e2 c2 d2 (by decide) ⟨kV vs[i].1,H,I1,OU hk,⟨rfl,kvs[i],Ab hi,?_⟩,by rw [hl];exact cY,λb hb=>(hf b hb).1⟩⟩;have ek:=rel.keys;have e3:(kvs.map (·.1))[i]?=(vs.map (·.1))[i]?:=by rw [ek]
  rw [Af,Af,Ab hi,hx] at e3;have e4:kvs[i].1=vs[i].1:=Option.some.inj e3;rw [e4]
 done:=by
  intro X hP hw hK hc i pins s σ H E I hf st hg;subst hP hw hK;obtain⟨f0,f1,f2,f3,f4,f5⟩:=hf it (by simp);obtain⟨hd,hi⟩:=hg;obtain⟨vs,rel,da⟩:=OW I.aB hd p7;have hl:=rel.length;rw [hl] at st;exact wpAny_pyNext_dict_end (I.ok.hd hc) st da (by rw [Bc];omega) λh' eb=>⟨rfl,I.turned (t':=s.toks) (λb o hb e=>eb b o hb e) f0 f1 f3 f4 f5⟩
 self:=λ_ _ _ _ _ st h=>wpAny_pyIter_keyiter st h
def Zn(tl:TE):TI:=λσ H R=>tl σ H λx H1=>∃ d kvs,x = .ref d/\H1 d=some (.dK kvs)/\∀ o,R (uW d o kvs)<|upd H1 d<|.bh o<|.dK kvs
def OY{tg l:Expr}{tl:TE}(hl:PE X l tl):PI X tg l (Zn tl):=by
 intro pins s σ H R I h;refine aF (hl pins s σ H _ I h) λv s1 ⟨x,H1,I1,r1,q1⟩=>?_;obtain⟨d,kvs,e,hH,q⟩:=q1;subst e;cases (show v=Value.ref d from r1);obtain⟨o,ho,I2⟩:=OV I1 hH;obtain⟨z,mD,vs,rel,dd⟩:=uq I1.aB hH;obtain⟨ep,o',es,dH,r1,r2,r3⟩:=dd.dictAt;have:o=o':=Option.some.inj<|ho.symm.trans dH;subst this;refine wpAny_pyIter_dict mD ⟨o,es,dH,r1,r2,r3⟩ ?_;refine⟨s1.heap.objs.size,[s1.heap.objs.size],_,_,_,rfl,I2.kept (t':=s1.toks) λb o e=>Ae _ e,OX d _ o es ep kvs r2,⟨_,Aq _ rfl,rfl,by rw [rel.length];rfl⟩,λb hb=>?_,q o⟩;have e:b=s1.heap.objs.size:=by simpa using hb
 subst e;exact I2.fX (Am _)<|I2.aB.fresh<|Am _
end
section
variable{X:Cx}{elt tg:Expr}{ifs:List Expr}{scope:Scope}{σ:St}{H:Hp}{N':List Str}{A a d:Addr}{xs:List V}{kvs:List (Key×V)}{after:Hp->Prop}
def ka(Pv:Nat->St->Hp->Prop)(h0:Pv 0 σ H)(hl:∀ i σ' H',i<=xs.length->Pv i σ' H'->ai X.K H' a xs)
  (hs : ∀ i x σ' H', xs[i]? = some x → Pv i σ' H' → uw X N' scope tg x σ' H' λσ2 H3 => uz X N' scope ifs σ2 H3 λb H4 =>
   if b=true then uv X N' scope elt σ2 H4 λv H5=>∃ ys,H5 A=some (.lst ys)/\ys.length < sizeLine/\Pv (i+1) σ2 (upd H5 A<|.lst<|ys++[v]) else Pv (i+1) σ2 H4)
  (hd:∀ σ' H',Pv xs.length σ' H'->after H'):li X N' scope tg ifs elt (pq X.K a) A after σ H:=by
 refine⟨λi m σ' H'=>m=xs.length - i/\i<=xs.length/\Pv i σ' H',⟨_,rfl,Bp _,h0⟩,?_⟩;rintro i m σ' H' ⟨rfl,hi,p⟩;have q:=hl i σ' H' hi p
 by_cases aX:i < xs.length
 ·refine .inr ⟨⟨xs,xs[i],q,by simp [aX]⟩,Pv<|i+1,λσ' H' p'=>⟨xs.length - (i+1),by omega,rfl,aX,p'⟩,λx H2 y=>?_⟩;obtain⟨e,y⟩:=y;subst e;exact hs i x σ' _ (y xs q) p
 ·have e:i=xs.length:=by omega
  subst e;exact .inl ⟨⟨xs,q,Am _⟩,hd σ' H' p⟩
def OZ{o:Obj}(Pv:Nat->St->Hp->Prop)(h0:Pv 0 σ H)(hl:∀ i σ' H',i<=kvs.length->Pv i σ' H'->H' d=some (.bh o<|.dK kvs))
  (hs : ∀ i p σ' H', kvs[i]? = some p → Pv i σ' H' → uw X N' scope tg (kV p.1) σ' H' λσ2 H3 => uz X N' scope ifs σ2 H3 λb H4 =>
   if b=true then uv X N' scope elt σ2 H4 λv H5=>∃ ys,H5 A=some (.lst ys)/\ys.length < sizeLine/\Pv (i+1) σ2 (upd H5 A<|.lst<|ys++[v]) else Pv (i+1) σ2 H4)
  (hd:∀ σ' H',Pv kvs.length σ' H'->after H'):li X N' scope tg ifs elt (uW d o kvs) A after σ H:=by
 refine⟨λi m σ' H'=>m=kvs.length - i/\i<=kvs.length/\Pv i σ' H',⟨_,rfl,Bp _,h0⟩,?_⟩;rintro i m σ' H' ⟨rfl,hi,p⟩;have q:=hl i σ' H' hi p
 by_cases aX:i < kvs.length
 ·refine .inr ⟨⟨q,aX⟩,Pv<|i+1,λσ' H' p'=>⟨kvs.length - (i+1),by omega,rfl,aX,p'⟩,λx H2 y=>?_⟩;obtain⟨e,p',ep,y⟩:=y;subst e y;exact hs i p' σ' _ ep p
 ·have e:i=kvs.length:=by omega
  subst e;exact .inl ⟨⟨q,Am _⟩,hd σ' H' p⟩
def rX{zs:List Str}(f:Str->Bool)(hz:zs.length < sizeLine)(ha:H a=some (.lst<|zs.map V.str))(hA:H A=none)
  (hg:∀ cl C s₀ H₀ ex v v0 H' R,R (σ++[some v]) H'->Eg (fO X N' scope cl C s₀ H₀ ex) tg v (σ++[v0]) H' R)
  (hi:∀ cl C s₀ H₀ ex z ys T,T (f z) (upd H A<|.lst ys)->Ei (fO X N' scope cl C s₀ H₀ ex) ifs (σ++[some<|.str z]) (upd H A<|.lst ys) T)
  (he:∀ cl C s₀ H₀ ex z H' R,R (V.str z) H'->Ev (fO X N' scope cl C s₀ H₀ ex) elt (σ++[some<|.str z]) H' R) (q:after<|upd H A<|.lst<|(zs.filter f).map V.str) :
  li X N' scope tg ifs elt (pq X.K a) A after (σ++List.replicate 1 none) (upd H A<|.lst []):=by
 have ne:a≠A:=bd ha hA;refine ka (xs:=zs.map V.str) (λk σ' H'=>(∃ v,σ'=σ++[v])/\H'=upd H A (.lst<|((zs.take k).filter f).map V.str)) ⟨⟨none,rfl⟩,by simp⟩ ?_ ?_ ?_
 ·rintro i σ' H' _ ⟨_,rfl⟩;exact ai.of<|by rw [au ne];exact ha
 ·rintro i x σ' H' hx ⟨⟨v,rfl⟩,rfl⟩;rw [Af,Ap] at hx;obtain⟨z,Zo,rfl⟩:=hx;intro cl C s₀ H₀ ex;refine hg cl C s₀ H₀ ex _ _ _ _ ?_;intro cl C s₀ H₀ ex;refine hi cl C s₀ H₀ ex z _ _ ?_;have e:(zs.take<|i+1).filter f=(zs.take i).filter f++(if f z=true then [z] else []):=by
   rw [Bx,Zo,Cp]
   congr 1
   cases hf:f z <;> simp [hf]
  have hlen:((zs.take i).filter f).length<=zs.length:=Bv (Ck _ _)<|by rw [Bd];omega
  by_cases hf:f z=true
  ·rw [BL hf];intro cl C s₀ H₀ ex;refine he cl C s₀ H₀ ex z _ _ ⟨_,av,by rw [Aa];omega,⟨_,rfl⟩,?_⟩;rw [o8,e,BL hf,Ai];rfl
  ·rw [BK hf];refine⟨⟨_,rfl⟩,?_⟩;rw [e,BK hf,Ba]
 ·rintro σ' H' ⟨_,rfl⟩;have e2:zs.take (zs.map V.str).length=zs:=Dc (by simp);rw [e2];exact q
theorem kd(z:Str)(zs:List Str):nN (.str z) (zs.map V.str)=zs.contains z:=by
 unfold nN
 induction zs with
 | nil=>rfl
 | cons y r ih=>
  rw [Bh,Fi,ih,List.contains_cons]
  congr 1
  show cE (.str y) (.str z)=(z == y)
  by_cases h:y=z
  ·subst h;simp [cE]
  ·have h':z≠y:=λq=>h q.symm;show(y == z)=(z == y);rw [beq_eq_false_iff_ne.mpr h,beq_eq_false_iff_ne.mpr h']
def ke(zs:List Str):(zs.map V.str).all jP=true:=by
 rw [Dj];intro x hx;obtain⟨z,_,rfl⟩:=Aj.mp hx;rfl
def iO{e1 e2:Expr}{k:Nat}{pos:Pos}{t:Addr}{x y:V}{R:St->Hp->Prop}(hc:X.calm=true)(ht:aM X.K H t [x,y])(h:Eg X e1 x σ H λσ1 H1=>Eg X e2 y σ1 H1 R)
  (hn:(assignEach [e1,e2] X.env).length=2:=by rfl) (cg:(assignEach [e1,e2] X.env).findIdx? (·.1)=none:=by rfl)
  (jx:(assignEach [e1,e2] X.env).map (·.2)=assign e1 X.env :: (assignEach [e2] X.env).map (·.2):=by rfl) (rY:(assignEach [e2] X.env).map (·.2)=assign e2 X.env :: (assignEach [] X.env).map (·.2):=by rfl) :
  Eg X (.Tuple [e1,e2] k pos) (.ref t) σ H R:=
 C5 (Mh (t:=rq (λv σ H Q=>Eg X e1 v σ H Q)<|rq (λv σ H Q=>Eg X e2 v σ H Q) pj) hc (tV pH (tV pH Mg rY) jx) hn cg) ⟨t,_,rfl,ht,rfl,_,_,rfl,h.mono λσ1 H1 h1=>⟨_,_,rfl,h1.mono λσ2 H2 q=>⟨rfl,q⟩⟩⟩
end
end L2
namespace PySem
def getAttr?_miss_list{prog:Program}{w:World}{A:Around}{E:Value->Shared->Prop}{s:Shared}{a:Addr}{o:Obj}{xs:Array Value}{k:Nat}{name:Str}{Q:Option Value->Shared->Prop}
  (hx:s.heap.get? a=some o) (hc:o.cls = .type "list") (i7:o.data = .seq xs k) (hd:o.dict=none) (uX:typeLookup (.type "list") name=pure none) (uY:(["__module__","__name__","__qualname__","__doc__","__annotations__"]:List Str).contains name=false) (hA:A.handled=none)
  (h:∀ h' tk e,Heap.NewExcOf s.heap h' e "AttributeError"->Q none {s with heap:=h',toks:=tk}) (hsz:name.length+100<=sizeLine:=by size_fits) :
  wpAny (model prog w) A (getAttr? (.ref a) name) Q E s:=by
 obtain⟨c,dct,dat,sl⟩:=o;simp only at hc i7 hd;subst hc i7 hd;obtain⟨hp,g,d,tk,os⟩:=s;have hT:∀ O0,(⟨hp,g,d,O0,os⟩:Shared).TypeIs (.ref a) "list":=λ_=>⟨_,hx,rfl⟩;have f1:=sub_AttributeError;have f3:=F.slot_list_getattribute.lookup;have f4:=F.slot_list_getattribute.bind<|.ref a;have f5:=am_list_getattr_none;unfold getAttr? getAttrBy? getAttrBy
 repeat (any_goals (first | assumption | exact hT _ | ((with_reducible show wpAny _ _ (call (Value.builtin "list.__getattribute__") _ _) _ _ _);refine MN F.slot_list_getattribute (hT _) am_entry_list_getattribute (F.args_list_getattribute_2 _ _) (meets_getattribute_miss_list a xs k sl name _ uX uY hsz) ⟨hx,hA,λh' O0 e iZ=>?_⟩) | wp_step))
 obtain⟨t',u',he⟩:=iZ.there;show wpAny _ _ (getattributeRaised _ _ _ _ _ _ _) _ _ _;unfold getattributeRaised
 repeat (any_goals (first | assumption | wp_step))
 exact h _ _ _ iZ.of
namespace F
def bn:entryFor table "dict.update.loop" = some Builtin.«dict.update.loop»:=entryFor_of_tree<|by kernel_rfl
def aI:plainId "dict.update.loop" = true:=by decide +kernel
def fA:typeLookup (.type "list") "keys" = pure none:=by rw [RW,LR];kernel_rfl
end F
section
variable{prog:Program}{w:World}{K:Type} [DecidableEq K] {knd:KeyKind prog w K} {A:Around} {R:Result->Shared->Prop}
def FR(knd:KeyKind prog w K)(h:Heap)(items:List Value)(gy:List<|K×Value):Prop:=
 items.length=gy.length/\∀(j:Nat) it,items[j]?=some it->∃ T key k v o n,it = .ref T/\gy[j]?=some (k,v)/\knd.is k key=true/\h.get? T=some o/\o.cls = .type "tuple"/\o.data = .seq #[key,v] n
def Zq(kvs:List<|K×Value)(k:K)(v:Value):(stored kvs k v).length<=kvs.length+1:=by
 unfold stored
 split
 ·rw [Aa];omega
 ·rw [Ad];simp
theorem Zr{hB:Heap}{d I l:Addr}{items:List Value}{gy:List (K×Value)}(hd:hB.objs.size<=d)(hI:hB.objs.size<=I)(FU:d≠I)(hl:hB.IsList l items.toArray)(hp:FR knd hB items gy)(hn:items.length < sizeLine)(hh:A.handled=none) :
  ∀(k i:Nat) (s:Shared) (acc:List<|K×Value),items.length - i=k->i<=items.length->(∀ b o,hB.get? b=some o->s.heap.get? b=some o)->s.heap.IsListIter I l i->s.heap.DictOf knd d acc->acc.length<=i ->
   (∀ h' tk,(∀ b o,b≠I->b≠d->s.heap.get? b=some o->h'.get? b=some o)->h'.DictOf knd d ((gy.drop i).foldl (λa p=>stored a p.1 p.2) acc)->R (.ok<|.ret .none) {s with heap:=h',toks:=tk}) ->
   codeAny (model prog w) A (.builtin "dict.update.loop" ⟨[.ref d,.ref I,rawInt i,.none],[]⟩) R s:=by
 have nb:∀ b o,hB.get? b=some o->b≠I/\b≠d:=λb o e=>⟨Bn<|Bb (Ar e) hI,Bn<|Bb (Ar e) hd⟩;intro k
 induction k with
 | zero=>
  intro i s acc hk hi gA cg hD bY hR;have NI:i=items.length:=by omega
  refine FW F.bn ?_;rw [FT F.aI _];show wpAny _ A.in1 (pyNext (.ref I) >>= _) _ _ s;have rZ:s.heap.IsList l items.toArray:=let ⟨o,ho,r⟩:=hl;⟨o,gA _ _ ho,r⟩
  refine BJ (wpAny_pyNext_list_end hh cg rZ (by simp;omega) λh' eb=>?_);show wpAny _ A.in1 (Builtin.Dict.addKeywords d [] >>= _) _ _ _;refine BJ<|BP<|BP ?_;refine hR h' s.toks (λb o hb _ e=>eb b o hb e) ?_;rw [List.drop_eq_nil_of_le<|by have:=hp.1;omega];exact hD.extBut eb FU
 | succ k ih=>
  intro i s acc hk hi gA cg hD bY hR;have aX:i < items.length:=by omega
  have hx:items[i]?=some items[i]:=Ab aX;obtain⟨T,key,kk,v,o,n,e1,e2,e3,e4,e5,e6⟩:=hp.2 i _ hx;rw [e1] at hx;refine FW F.bn ?_;rw [FT F.aI _];show wpAny _ A.in1 (pyNext (.ref I) >>= _) _ _ s;have rZ:s.heap.IsList l items.toArray:=let ⟨o,ho,r⟩:=hl;⟨o,gA _ _ ho,r⟩
  refine BJ (wpAny_pyNext_list_item cg rZ (x:= .ref T) (by simpa using hx) λh' cY sb=>?_);have eT:h'.get? T=some o:=(sb.2 T (nb T o e4).1).trans<|gA _ _ e4;refine BJ<|CJ<|BJ<|wpAny_tryCatch ?_;unfold Builtin.Dict.pairItems;refine BJ<|MP (T:= "tuple") ⟨o,eT,e5⟩ ?_;rw [BL<|by decide];refine BJ<|wpAny_seqItems (s:={s with heap:=h'}) eT e6<|BP ?_;show wpAny _ _ (holding [key,v]<|dictSet d key v) _ _ _;refine CJ (wpAny_dictSet_pairs (knd:=knd) (s:={s with heap:=h'}) (k:=kk) e3 (hD.extBut sb.extBut FU) (λh2 D2 O1=>?_)<|by omega);refine BP ⟨JL F.aI _,?_⟩;have O2:∀ b o,b≠I->b≠d->s.heap.get? b=some o->h2.get? b=some o:=λb o h1 h3 e=>(O1.2 b h3).trans<|(sb.2 b h1).trans e;refine ih (i+1) {s with heap:=h2,toks:=s.toks+1} (stored acc kk v) (by omega) aX (λb o e=>O2 b o (nb b o e).1 (nb b o e).2<|gA _ _ e) (cY.extBut O1.extBut<|CG FU) D2 (by have:=Zq acc kk v;omega) λh3 tk k3 D3=>?_;refine hR h3 tk (λb o h1 nV e=>k3 b o h1 nV<|O2 b o h1 nV e) ?_;have e7:gy.drop i=(kk,v) :: gy.drop (i+1):=by
   obtain⟨hj,e8⟩:=Ac.mp e2;rw [QM hj,e8]
  rw [e7];exact D3
def Zt{E:Value->Shared->Prop}{s:Shared}{Q:Value->Shared->Prop}{l:Addr}{ol:Obj}{nl:Nat}{items:List Value}{gy:List (K×Value)}(ho:s.heap.get? l=some ol)(hc:ol.cls = .type "list")(p7:ol.dict=none)(FV:ol.data = .seq items.toArray nl)(hp:FR knd s.heap items gy)(hn:items.length < sizeLine)(hh:A.handled=none)
  (h:∀ h' tk,(∀ b o,s.heap.get? b=some o->h'.get? b=some o)->h'.DictOf knd s.heap.objs.size (gy.foldl (λa p=>stored a p.1 p.2) [])->Q (.ref s.heap.objs.size) {s with heap:=h',toks:=tk}) :
  wpAny (model prog w) A (call (.type "dict") [.ref l]) Q E s:=by
 refine callType_codes (Q₁:=λobj s₁=>obj = .ref s.heap.objs.size/\s₁={s with heap:=s.heap.push {cls:= .type "dict",data:= .dict #[]}}) F.kt_called_dict (F.kt_typeCall_dict_1 _) F.entry_dict_init (kt_code_dict_new _ ⟨rfl,rfl⟩) ?_;rintro obj s₁ ⟨rfl,rfl⟩;have jW:(s.heap.push {cls:= .type "dict",data:= .dict #[]}).DictOf knd s.heap.objs.size []:=Heap.DictOf.new s.heap;have dH:(s.heap.push {cls:= .type "dict",data:= .dict #[]}).get? l=some ol:=Ae _ ho;refine⟨jW.typeIs,F.args_dict_init_2 _ _,?_⟩;unfold Builtin.«dict.__init__»;refine BJ ?_;unfold Builtin.Dict.selfAndRest;refine BJ<|wpAny_notOrdered_dict jW.typeIs ?_;show wpAny _ _ (pure (s.heap.objs.size,[Value.ref l])) _ _ _;refine BP ?_;show wpAny _ _ (Builtin.Dict.updateFrom "dict.__init__" s.heap.objs.size (.ref l) [] .none) _ _ _;unfold Builtin.Dict.updateFrom;refine BJ<|MP (T:= "list") ⟨ol,dH,hc⟩ ?_;rw [BL<|by decide];refine BJ (getAttr?_miss_list dH hc FV p7 F.fA (by decide) (by exact hh) λh' tk e ne=>?_);rw [BL (show(none:Option Value).isNone=true from rfl)];have kp:∀ b o,s.heap.get? b=some o->h'.get? b=some o:=λb o e=>ne.keeps b o<|Ae _ e;refine BJ<|GX ?_;have hL:h'.IsList l items.toArray:=⟨ol,kp _ _ ho,hc,nl,FV⟩;refine BJ<|wpAny_pyIter_list hL ?_;refine BP ⟨JL F.aI _,?_⟩;have O3:h'.DictOf knd s.heap.objs.size []:=let ⟨o,es,ep,ho,r⟩:=jW;⟨o,es,ep,ne.keeps _ _ ho,r⟩
 have aX:s.heap.objs.size < h'.objs.size:=let ⟨o,es,ep,ho,r⟩:=O3;Ar ho
 refine Zr (hB:=s.heap) (d:=s.heap.objs.size) (I:=h'.objs.size) (l:=l) (Am _) (Bw aX) (Bn aX) ⟨ol,ho,hc,nl,FV⟩ hp hn (by exact hh) _ 0 _ [] rfl (Bp _) (λb o e=>Ae _<|kp b o e) ⟨_,Aq _ rfl,rfl,rfl⟩ (O3.push _) (Bp _) λh2 Zu k2 D2=>?_;refine⟨rfl,h h2 Zu (λb o e=>k2 b o (Bn<|Ar<|kp b o e) (Bn<|Ar e)<|Ae _<|kp b o e) D2⟩
end
end PySem
namespace L2
open PySem PySem.Spec PyProof.Rows
section
variable{X:Cx}{pins:List (Addr×Obj)}{σ:St}{H:Hp}{s:Shared}
theorem Zv{kvs:List (Key×V)}:∀{ps:List (Key×V)} {acc:List (Key×Value)} {rs:List (Key×Value)},KV ps acc->KV kvs rs->KV (kvs.foldl (λa p=>putK a p.1 p.2) ps) (rs.foldl (λa p=>stored a p.1 p.2) acc):=by
 induction kvs with
 | nil=>intro ps acc rs h g;cases g;exact h
 | cons p r ih=>
  intro ps acc rs h g;cases g with
  | @cons _ q _ r' hq hr=>
   obtain⟨e1,e2⟩:=hq;rw [Dz,Dz];refine ih ?_ hr;rw [<- e1];exact h.put p.1 e2
theorem O4{P:Program}{w:World}{h:Heap}:∀{kvs:List (Key×V)} {ts:List Addr},ts.length=kvs.length->(∀(j:Nat) t kv,ts[j]?=some t->kvs[j]?=some kv->∃ key v o m,(dh P w).is kv.1 key=true/\RelV kv.2 v/\h.get? t=some o/\o.cls = .type "tuple"/\o.data = .seq #[key,v] m) ->
  ∃ rs:List<|Key×Value,KV kvs rs/\∀(j:Nat) t,ts[j]?=some t->∃ key k v o m,rs[j]?=some (k,v)/\(dh P w).is k key=true/\h.get? t=some o/\o.cls = .type "tuple"/\o.data = .seq #[key,v] m
 | [],ts,hl,_=>by
  have:ts=[]:=Bj.mp hl;subst this;exact⟨[],.nil,λj t h=>by simp at h⟩
 | kv :: r,[],hl,_=>by simp at hl
 | kv :: r,t :: ts,hl,hp=>by
  obtain⟨key,v,o,m,q1,q2,q3,q4,q5⟩:=hp 0 t kv rfl rfl;obtain⟨rs,hk,hr⟩:=O4 (kvs:=r) (ts:=ts) (by simpa using hl) λj t kv h1 h2=>hp (j+1) t kv (by simpa using h1) (by simpa using h2);refine⟨(kv.1,v) :: rs,.cons ⟨rfl,q2⟩ hk,λj t' ht=>?_⟩;cases j with
  | zero=>
   cases ht;exact⟨key,kv.1,v,o,m,rfl,q1,q3,q4,q5⟩
  | succ j=>
   obtain⟨key,k,v,o,m,e,z⟩:=hr j t' (by simpa using ht);exact⟨key,k,v,o,m,by simpa using e,z⟩
def Zw(hc:X.calm=true):fv X (.type "dict") (λxs H Q=>∃(a:Addr) (ts:List Addr) (kvs:List<|Key×V),xs=[.ref a]/\H a=some (.lst<|ts.map V.ref)/\ts.length=kvs.length/\ts.length < sizeLine/\(∀(j:Nat) t kv,ts[j]?=some t->kvs[j]?=some kv->H t=some (.tup [kV kv.1,kv.2])) /\
  ∀ d,H d=none->Q (.ref d) (upd H d<|.dK<|kvs.foldl (λa p=>putK a p.1 p.2) [])):=by
 intro pins s σ H xs us Q I r h;obtain⟨a,ts,kvs,rfl,hH,hl,hz,ht,q⟩:=h;obtain⟨u,rfl,ru⟩:=vals1 r;cases (show u=Value.ref a from ru);obtain⟨z,its,n,rv,e⟩:=(show az X.prog X.w H s.heap a (.lst<|ts.map V.ref) from I.aB a _ hH);have lv:=rv.length;rw [Aa] at lv;have p8:∀(j:Nat) t,ts[j]?=some t->its[j]?=some (.ref t):=λj t hj=>by
  obtain⟨u,hu,ru⟩:=rv.get (i:=j) (x:= .ref t) (by rw [Af,hj];rfl);cases (show u=Value.ref t from ru);exact hu
 have pair:∀(j:Nat) t kv,ts[j]?=some t->kvs[j]?=some kv->∃ key v o m,(dh X.prog X.w).is kv.1 key=true/\RelV kv.2 v/\s.heap.get? t=some o/\o.cls = .type "tuple"/\o.data = .seq #[key,v] m:=λj t kv h1 h2=>by
  obtain⟨z2,dS,gP,o,eo,co,m,dm⟩:=(show az X.prog X.w H s.heap t (.tup [kV kv.1,kv.2]) from I.aB t _<|ht j t kv h1 h2);obtain⟨key,v,e3,r1,r2⟩:=gP.two;refine⟨key,v,o,m,nQ r1,r2,eo,co,?_⟩;rw [dm,e3]
 obtain⟨rs,hk,hr⟩:=O4 hl pair;have se:=hk.length;have hP:FR (dh X.prog X.w) s.heap its rs:=by
  refine⟨by omega,λj it hj=>?_⟩;have sf:j < ts.length:=by have:=(Ac.mp hj).1;omega
  have O5:ts[j]?=some ts[j]:=Ab sf;have e2:=p8 j _ O5;rw [hj] at e2;obtain⟨key,k,v,o,m,q1,q2,q3,q4,q5⟩:=hr j _ O5;exact⟨ts[j],key,k,v,o,m,Option.some.inj e2,q1,q2,q3,q4,q5⟩
 refine Zt (knd:=dh X.prog X.w) e rfl rfl rfl hP (by omega) (I.ok.hd hc) λh' tk kp D=>?_;have hlen:∀(l:List<|Key×V) (a:List<|Key×V),(l.foldl (λa p=>putK a p.1 p.2) a).length<=a.length+l.length:=by
  intro l
  induction l with
  | nil=>intro a;exact Am _
  | cons p r ih=>
   intro a;rw [Dz,Ax];have h1:=ih<|putK a p.1 p.2;have h2:=i4 a p.1 p.2;omega
 have hb:=I.big;refine⟨.ref s.heap.objs.size,_,I.laid (t':=tk) kp (Am _) (show az X.prog X.w _ h' _ (.dK<|kvs.foldl (λa p=>putK a p.1 p.2) []) from⟨?_,?_,_,Zv (kvs:=kvs) (ps:=[]) (acc:=[]) .nil hk,D⟩),rfl,q _<|I.aB.fresh<|Am _⟩
 ·have:=hlen kvs [];rw [Em] at this;omega
 ·exact beq_eq_false_iff_ne.mpr<|Cm hb
end
section
variable{X:Cx}{pins:List (Addr×Obj)}{σ:St}{H:Hp}{s:Shared}{h':Heap}
def Inv.bF{t':Nat}{ch:List Addr}(I:Inv X pins σ H s)(hf:∀ b∈ch,cb X pins H b)(k:∀ b o,b∉ch->s.heap.get? b=some o->h'.get? b=some o):Inv X pins σ H {s with heap:=h',toks:=t'}:=by
 have tQ:∀ b u,H b=some u->b∉ch:=λb u e z=>by rw [(hf b z).1] at e;cases e
 refine I.step (g':=s.gens) (d':=s.drawn) (ch:=ch) (λb hb=>?_) (λb o _ _ hc e _=>k b o hc e) (λb o _ _ hc e _=>⟨o.slots,k b o hc e⟩) (λ_ _ _ _ n=>n)
  (λb o hc e=>⟨o,k b o hc e⟩) (λ_ _ e=>e) (λ_ _ _ e=>e) (λb ps e=>⟨#[],by rw [e];simp⟩) (λm hm=>?_) (λb u e=>?_) I.bare
 ·obtain⟨f0,f1,f2,f3,f4,f5⟩:=hf b hb;exact⟨f3,f1,f4,f5⟩
 ·obtain⟨o,es,ep,ho,r⟩:=hm;exact⟨o,es,ep,k _ o (λz=>(hf _ z).2.1 rfl) ho,r⟩
 ·refine(I.aB b u e).fk (λc v hc q=>k c v ?_ q) (λ_ q=>q) λ_ _ q=>q
  rcases hc with z | z
  ·rw [z];exact tQ b u e
  ·exact tQ c _ z
def yN(K:PySem.W.Frag)(a b:Addr):It:=
  ⟨λi H => ∃ xs ys x y, ai K H a xs ∧ ai K H b ys ∧ xs[i]? = some x ∧ ys[i]? = some y,
   λi H v H'=>∃ T x y,H T=none/\v = .ref T/\H'=upd H T (.tup [x,y])/\(∀ xs,ai K H a xs->xs[i]?=some x)/\∀ ys,ai K H b ys->ys[i]?=some y,
   λi H=>∃ xs ys,ai K H a xs/\ai K H b ys/\(xs.length<=i\/ys.length<=i)⟩
def O6(m a b:Addr)(i:Nat)(h:Heap):Prop:=
 IsZip h (m+4) (m+2) (m+3) .none/\IsPair h (m+2) (.ref m) (.ref<|m+1)/\(∃ x y,IsPair h (m+3) x y)/\h.IsListIter m a i/\h.IsListIter (m+1) b i
def O7{h:Heap}{m a b:Addr}{i:Nat}{xs ys:Array Value}(z:O6 m a b i h)(ha:h.IsList a xs)(hb:h.IsList b ys):ZipApart (m+4) (m+2) (m+3) m (m+1) a b:=by
  obtain⟨z1,z2,⟨x,y,z3⟩,⟨o4,e4,c4,_⟩,⟨o5,e5,c5,_⟩⟩:=z;have cls:∀{l:Addr} {vs:Array Value} {c:Addr} {o:Obj},h.IsList l vs->h.get? c=some o->o.cls ≠ .type "list"->l≠c:=λhl hc hn e=>by
    obtain⟨ol,O8,p9,_⟩:=hl;rw [e,hc] at O8;cases O8;exact hn p9
  exact { TIz := by simp, TOz := by simp, i1z := by simp, i2z := by simp, TITO := by simp, TIi1 := by simp, TIi2 := by simp, TOi1 := by simp, TOi2 := by simp, i12 := by simp
          l1z:=cls ha z1 (by show Value.type "zip"≠Value.type "list";decide),l1TO:=cls ha z3 (by show Value.type "tuple"≠Value.type "list";decide),l1i1:=cls ha e4 (by rw [c4];decide),l1i2:=cls ha e5<|by rw [c5];decide
          l2z:=cls hb z1 (by show Value.type "zip"≠Value.type "list";decide),l2TO:=cls hb z3 (by show Value.type "tuple"≠Value.type "list";decide),l2i1:=cls hb e4 (by rw [c4];decide),l2i2:=cls hb e5 (by rw [c5];decide)}
def Zx{P:Program}{w:World}{K:PySem.W.Frag}{elts:List Expr}{k:Nat}{tp:Pos}(m a b:Addr):Turn P w K (.Tuple elts k tp) (yN K a b) [m,m+1,m+2,m+3,m+4] (m+4) (O6 m a b) where
 mem:=by simp
 obj:=λi h st c hc=>by
  obtain⟨z1,z2,⟨x,y,z3⟩,⟨o4,e4,c4,d4⟩,⟨o5,e5,c5,d5⟩⟩:=st;simp only [Al,By,FN] at hc
  rcases hc with rfl | rfl | rfl | rfl | rfl
  ·exact⟨_,e4,λv z=>by rw [d4] at z;cases z⟩
  ·exact⟨_,e5,λv z=>by rw [d5] at z;cases z⟩
  ·exact⟨_,z2,λv z=>by cases z⟩
  ·exact⟨_,z3,λv z=>by cases z⟩
  ·exact⟨_,z1,λv z=>by cases z⟩
 keep:=λi h h' st kp=>by
  obtain⟨z1,z2,⟨x,y,z3⟩,⟨o4,e4,r4⟩,⟨o5,e5,r5⟩⟩:=st;exact⟨kp _ (by simp) _ z1,kp _ (by simp) _ z2,⟨x,y,kp _ (by simp) _ z3⟩,⟨o4,kp _ (by simp) _ e4,r4⟩,⟨o5,kp _ (by simp) _ e5,r5⟩⟩
 item:=by
  intro X hP hw hK hc i pins s σ H E I hf st hg;subst hP hw hK;obtain⟨xs,ys,x,y,eV,uZ,hx,hy⟩:=hg;obtain⟨kg,mE,p1,qb⟩:=I.list eV;obtain⟨dS,gP,p2,yO⟩:=I.list uZ;obtain⟨u1,cj,FX⟩:=mE.get hx;obtain⟨u2,FY,Zy⟩:=gP.get hy;have D:=O7 st p1.isList p2.isList;obtain⟨z1,z2,⟨x0,y0,z3⟩,z4,z5⟩:=id st;refine wpAny_pyNext_zip_item D z1 z2 z3 z4 z5 p1.isList p2.isList (x:=u1) (y:=u2) (by simpa using cj) (by simpa using FY) λh' a1 a2 a3 a4 a5 a6 kp=>?_;have hT:H s.heap.objs.size=none:=I.aB.fresh<|Am _;have nT:∀ c∈[m,m+1,m+2,m+3,m+4],c≠s.heap.objs.size:=λc bj=>by
   have:∃ o,s.heap.get? c=some o:=by
    obtain⟨o4,e4,_⟩:=z4;obtain⟨o5,e5,_⟩:=z5;simp only [Al,By,FN] at bj
    rcases bj with rfl | rfl | rfl | rfl | rfl
    ·exact⟨_,e4⟩
    ·exact⟨_,e5⟩
    ·exact⟨_,z2⟩
    ·exact⟨_,z3⟩
    ·exact⟨_,z1⟩
   obtain⟨o,e⟩:=this;exact Bn<|Ar e
  have I1:Inv X pins σ (upd H s.heap.objs.size<|.tup [x,y]) {s with heap:=s.heap.push {cls:= .type "tuple",data:= .seq #[u1,u2]}}:=
   I.laid (t':=s.toks) (λb o e=>Ae _ e) (Am _) (show az X.prog X.w _ _ _ (.tup [x,y]) from⟨Z2,[u1,u2],.cons FX<|.cons Zy .nil,⟨_,Aq _ rfl,rfl,_,rfl⟩⟩)
  have f1:∀ c∈[m,m+1,m+2,m+3,m+4],cb X pins (upd H s.heap.objs.size<|.tup [x,y]) c:=λc bj=>⟨by rw [au<|nT c bj];exact(hf c bj).1,(hf c bj).2⟩;have pO:∀ c o,c∉[m,m+1,m+2,m+3,m+4]->(s.heap.push {cls:= .type "tuple",data:= .seq #[u1,u2]}).get? c=some o->h'.get? c=some o:=λc o bj e=>by
   rcases Ga e with ⟨ec,eo⟩ | e'
   ·rw [ec,eo];exact a5
   ·simp only [Al,By,FN,not_or] at bj;exact kp c o bj.2.2.2.2 bj.2.2.2.1 bj.1 bj.2.1 e'
  have I2:=Inv.bF (h':=h') (t':=s.toks) I1 f1 pO;refine⟨_,rfl,wpAny_letOwnedTupleGo_zip (s:={s with heap:=h'}) a1 λh2 b1 sb=>?_⟩;have Zz:IsPair h' (m+2) (.ref m) (.ref<|m+1):=kp _ _ (by simp) (by simp) (by simp) (by simp) z2;have yP:∀ c o,c∉[m+4]->h'.get? c=some o->h2.get? c=some o:=λc o bj e=>(sb.2 c<|by simpa using bj).trans e;have I3:=Inv.bF (h':=h2) (t':=s.toks) I2 (ch:=[m+4]) (λc bj=>f1 c<|by simp at bj;simp [bj]) yP;refine⟨.ref s.heap.objs.size,_,I3,rfl,⟨_,x,y,hT,rfl,rfl,λzs hz=>by rw [I.cM hz eV];exact hx,λzs hz=>by rw [I.cM hz uZ];exact hy⟩,?_,λc bj=>(f1 c bj).1⟩;have sx:∀ c o,c≠m+4->h'.get? c=some o->h2.get? c=some o:=λc o bj e=>(sb.2 c bj).trans e;obtain⟨o3,e3,r3⟩:=a3;obtain⟨o4,e4,r4⟩:=a4;exact⟨b1,sx _ _ (by simp) Zz,⟨u1,u2,sx _ _ (by simp) a2⟩,⟨o3,sx _ _ (by simp) e3,r3⟩,⟨o4,sx _ _ (by simp) e4,r4⟩⟩
 done:=by
  intro X hP hw hK hc i pins s σ H E I hf st hg;subst hP hw hK;obtain⟨xs,ys,eV,uZ,va⟩:=hg;obtain⟨kg,mE,p1,qb⟩:=I.list eV;obtain⟨dS,gP,p2,yO⟩:=I.list uZ;have l1:=mE.length;have l2:=gP.length;have D:=O7 st p1.isList p2.isList;obtain⟨z1,z2,⟨x0,y0,z3⟩,z4,z5⟩:=id st;refine wpAny_pyNext_zip_end (I.ok.hd hc) D z1 z2 z3 z4 z5 p1.isList p2.isList ?_ λh' kp=>⟨rfl,I.bF (t':=s.toks) (ch:=[m,m+1,m+2,m+3,m+4]) hf λc o bj e=>?_⟩
  ·rcases va with h | h
   ·exact .inl<|by simp;omega
   ·exact .inr<|by simp;omega
  ·simp only [Al,By,FN,not_or] at bj;exact kp c o bj.2.2.2.2 bj.2.2.2.1 bj.1 bj.2.1 e
 self:=λ_ _ _ _ _ st h=>wpAny_pyIter_zip st.1 h
end
section
variable{X:Cx}
def F0(K:PySem.W.Frag)(ta:TA):TI:=λσ H R=>ta σ H λvs H1=>∃ a b,vs=[.ref a,.ref b]/\(∃ xs,ai K H1 a xs)/\(∃ ys,ai K H1 b ys)/\R (yN K a b) H1
def O9{elts:List Expr}{k:Nat}{tp:Pos}{a b:Expr}{ta:TA}{p pos:Pos}(hg:Gl X "zip")(hm:X.mg "zip" = none)(ha:PA X [a,b] ta)(hs:starEach [a,b] X.env=[(false,eval a X.env),(false,eval b X.env)]:=by rfl)(rY:starEach [b] X.env=[(false,eval b X.env)]:=by rfl) :
  PI X (.Tuple elts k tp) (.Call (.Name "zip" p) [a,b] [] pos) (F0 X.K ta):=by
 intro pins s σ H R I h;refine Call_ (nI I hg hm boot_zip<|GZ (aF (ha pos pins s σ H _ I h) λus s1 ⟨vs,H1,I1,r1,q1⟩=>?_) (by rw [hs,rY])<|by rw [rY];rfl);obtain⟨x,y,e,⟨xs,hx⟩,⟨ys,hy⟩,q⟩:=q1;subst e;obtain⟨u,v,rfl,ru,rv⟩:=r1.two;cases (show u=Value.ref x from ru);cases (show v=Value.ref y from rv);obtain⟨kg,mE,p1,qb⟩:=I1.list hx;obtain⟨dS,gP,p2,yO⟩:=I1.list hy;refine call_zip_2 p1.isList p2.isList λh' a1 a2 a3 a4 a5 a6 kp=>?_;refine wpAny_pyIter_zip (s:={s1 with heap:=h'}) a1 ?_;refine⟨s1.heap.objs.size+4,[s1.heap.objs.size,s1.heap.objs.size+1,s1.heap.objs.size+2,s1.heap.objs.size+3,s1.heap.objs.size+4],_,_,H1,rfl,I1.kept (t':=s1.toks) kp,Zx s1.heap.objs.size x y,⟨a1,a2,⟨_,_,a3⟩,a4,a5⟩,λb hb=>?_,q⟩;have hle:s1.heap.objs.size<=b:=by
  simp only [Al,By,FN] at hb
  rcases hb with rfl | rfl | rfl | rfl | rfl <;> omega
 exact I1.fX hle<|I1.aB.fresh hle
end
def sg(elt t1 i1:Expr)(f1:List Expr)(t2 i2:Expr)(f2:List Expr)(scope:Scope)(pos:Pos)(acc:Value)(env:Env):Sem Unit:=do
 let x <- eval i2 env
 standAt i2.pos
 let x <- foldedSetIterable i2 env x
 let _ <- runOwn (.compStart (.ListComp elt [⟨t1,i1,f1,0⟩,⟨t2,i2,f2,0⟩] scope pos) 1 (<- holding [x]<|pyIter x) acc env) env
section
variable{X:Cx}{elt t1 i1 t2 i2:Expr}{f1 f2:List Expr}{scope:Scope}{pos:Pos}{σ:St}{H:Hp}{acc:Value}{env:Env}
def ZA:Clause (.ListComp elt [⟨t1,i1,f1,0⟩,⟨t2,i2,f2,0⟩] scope pos) 0 t1 i1 f1 acc env (sg elt t1 i1 f1 t2 i2 f2 scope pos acc env):=⟨rfl,λ_=>rfl,λ_ _ _=>rfl,λ_ _=>rfl,λ_ _ _=>rfl,λ_ _=>rfl,λit=>by
 unfold sg;simp only [bind_assoc,pure_bind];rfl⟩
def ZC:Clause (.ListComp elt [⟨t1,i1,f1,0⟩,⟨t2,i2,f2,0⟩] scope pos) 1 t2 i2 f2 acc env (emit elt acc env):=⟨rfl,λ_=>rfl,λ_ _ _=>rfl,λ_ _=>rfl,λ_ _ _=>rfl,λ_ _=>rfl,λ_=>rfl⟩
def ZD{wi:TI}{Q:St->Hp->Prop}(i8:X.xe=λ_ _=>False)(hc:X.calm=true)(hi:PI X t2 i2 wi)(h:wi σ H λJ H1=>iC X t2 f2 (emit elt acc X.env) J Q σ H1)
  (hs:∀ x,foldedSetIterable i2 X.env x=pure x:=by intro _;rfl):lj X (sg elt t1 i1 f1 t2 i2 f2 scope pos acc X.env) σ H Q:=by
 refine⟨λpins s I=>?_⟩;unfold sg;refine BJ<|aF (hi pins s σ H _ I h) λx s1 h1=>?_;refine BJ<|EY<|BJ<|JM (hs x)<|BJ<|CJ<|CK h1 (λjM s2 h2=>?_) λ_ _ e=>e;obtain⟨it,fp,tn,J,H2,e,I2,T,dL,je,q⟩:=h2;subst e;refine BJ<|wpAny_runOwn (Q:=λ_ s'=>wpAny (model X.prog X.w) X.A (pure ()) (λ_ s'=>∃ σ' H',Inv X pins σ' H' s'/\Q σ' H') X.xe s') ?_;exact yh i8 hc ZC I2 T dL je q λσ' H' s' I' q'=>BP ⟨σ',H',I',q'⟩
def ZE{wi:TI}{Q:VK}(sc:Scope)(N N':List Str)(n:Nat)(hi:PI X t1 i1 wi)
  (h:wi σ H λJ H1=>∀ D,H1 D=none->∀ cl C s₀ H₀ ex,iC (fO X N' scope cl C s₀ H₀ ex) t1 f1 (sg elt t1 i1 f1 t2 i2 f2 scope pos (.ref D)<|compEnvC scope cl C X.env) J (λ_ H'=>Q (.ref D) H') (σ++List.replicate n none)<|upd H1 D<|.lst [])
  (hc:X.calm=true:=by rfl) (i':X.env.scope=sc:=by rfl) (hN:X.N=N:=by rfl) (hk:nU sc scope N N'=true:=by decide +kernel) (hl:N'.length=N.length+n:=by rfl)
  (hs:∀ x,foldedSetIterable i1 X.env x=pure x:=by intro _;rfl):Ev X (.ListComp elt [⟨t1,i1,f1,0⟩,⟨t2,i2,f2,0⟩] scope pos) σ H Q:=by
 refine⟨λpins s I=>?_⟩;subst i' hN;have ck:=bK.of hk;rw [eval_ListComp];refine FP (use:=none) rfl hs (rE λx hx hf=>I.ok.has x.1<|ck.free x hx hf) ck.kind ck.names (aF (hi pins s σ H _ I h) λv s1 h1=>aF h1 λjM s2 h2=>?_);obtain⟨it,fp,tn,J,H2,e,I2,T,dL,je,q⟩:=h2;subst e;refine uB (e:= .ListComp elt [⟨t1,i1,f1,0⟩,⟨t2,i2,f2,0⟩] scope pos) (newAcc:=newList []) (o0:={cls:= .type "list",dict:=none,data:= .seq ([]:List Value).toArray}) (u0:=λ_=> .lst []) (λ_ _ _ h=>CQ h<|by show(0:Nat)<=sizeLine;exact Bp _) (λ_ _ _=>⟨Bp _,[],0,.nil,Aq _ rfl⟩) (Q:=Q) (RR:=λacc C=>compPost (model X.prog X.w) X.A X.xe none (EP X pins σ Q) acc C) hc ck hl (inner:=sg elt t1 i1 f1 t2 i2 f2 scope pos) (λ_ _=>ZA) I2 T dL je q ?_;intro D C H' s' m IX hn hC c1 c2 c3 c4 qq;exact⟨m,hn,λh' fb=>⟨.ref D,H',IX.turned (t':=s'.toks) (λb o hb e=>fb.extBut b o hb e) hC (CG<|CG c1) (.inr c2) c3 c4,rfl,qq⟩⟩
end
section
variable{X:Cx}{pins:List (Addr×Obj)}{σ:St}{H:Hp}{s:Shared}{a:Addr}{y v:V}{u r:Value}{A:Around}{E:Value->Shared->Prop}
def O'{H':Hp}{Q:Unit->Shared->Prop}(hu:A.units+1 < cLine)(I:Inv X pins σ H s)(g:bT H a y v H')(ry:RelV y u)(rv:RelV v r)(h:∀ s',Inv X pins σ H' s'->Q () s') :
  wpAny (model X.prog X.w) A (dictSet a u r) Q E s:=by
 rcases g with ⟨kvs,k,e,ey,l,eH⟩ | ⟨kvs,k,b,e,ey,eb,l,eH⟩
 ·subst ey eH;obtain⟨z,hd,vs,rel,dd⟩:=uq I.aB e;have hz:vs.length<=sizeLine:=by rw [<- rel.length];exact z
  have hl:(putK kvs k v).length<=sizeLine:=by have:=i4 kvs k v;omega
  refine wpAny_dictSet_pairs (hsz:=hz) (nQ ry) dd λh' i5 hs=>h _ ?_;have he:∃ q,h'.get? a=some q:=let ⟨q,_,_,hq,_⟩:=i5;⟨q,hq⟩
  exact l' I (by rw [e];exact True.intro) hs he<|CH hl hd (rel.put k rv) i5
 ·subst ey eH;cases (show u=Value.ref b from ry);obtain⟨z,hd,xs,rel,dd⟩:=M9 I.aB e;have hz:xs.length<=sizeLine:=by rw [<- Paired.length rel];exact z
  have hl:(putK kvs k v).length<=sizeLine:=by have:=i4 kvs k v;omega
  have room:(tupleKind<|dh X.prog X.w).room A:=by first | exact hu | exact Nat.lt_of_succ_lt hu | exact Nat.lt_of_le_of_lt (Eb _) hu
  refine wpAny_dictSet_heap (hsz:=hz) room (rD I.aB eb) dd λh' i5 hs=>h _ ?_;obtain⟨q,es,ep,hq,h2,h3,h4,_,h5⟩:=i5;refine l' I (by rw [e];exact True.intro) hs ⟨q,hq⟩ ⟨hl,hd,_,(rel.put k eb rv).keeps λc ys ec=>?_,q,es,ep,hq,h2,h3,h4,h5⟩;rw [au<|bQ ec e λz=>nomatch z];exact ec
end
def mG(k v:Expr)(acc:Value)(env:Env):Sem Unit:=do
 let kv <- eval k env
 let vv <- holding [kv]<|eval v env
 match acc with
 | .ref d=>do
  standAt {k.pos with endLine:=v.pos.endLine,endCol:=v.pos.endCol}
  holding [kv,vv] (dictSet d kv vv)
 | _=>unsupported "internal:dictcomp"
def si(k v t1 i1:Expr)(f1:List Expr)(t2 i2:Expr)(f2:List Expr)(scope:Scope)(pos:Pos)(acc:Value)(env:Env):Sem Unit:=do
 let x <- eval i2 env
 standAt i2.pos
 let x <- foldedSetIterable i2 env x
 let _ <- runOwn (.compStart (.DictComp k v [⟨t1,i1,f1,0⟩,⟨t2,i2,f2,0⟩] scope pos) 1 (<- holding [x]<|pyIter x) acc env) env
section
variable{X:Cx}{k v t1 i1 t2 i2:Expr}{f1 f2:List Expr}{scope:Scope}{pos:Pos}{σ:St}{H:Hp}{acc:Value}{env:Env}
def ZF:Clause (.DictComp k v [⟨t1,i1,f1,0⟩] scope pos) 0 t1 i1 f1 acc env (mG k v acc env):=⟨rfl,λ_=>rfl,λ_ _ _=>rfl,λ_ _=>rfl,λ_ _ _=>rfl,λ_ _=>rfl,λit=>by
 unfold mG;cases acc <;> first | rfl | (simp only [bind_assoc,pure_bind];rfl)⟩
def ZG:Clause (.DictComp k v [⟨t1,i1,f1,0⟩,⟨t2,i2,f2,0⟩] scope pos) 0 t1 i1 f1 acc env (si k v t1 i1 f1 t2 i2 f2 scope pos acc env):=⟨rfl,λ_=>rfl,λ_ _ _=>rfl,λ_ _=>rfl,λ_ _ _=>rfl,λ_ _=>rfl,λit=>by
 unfold si;simp only [bind_assoc,pure_bind];rfl⟩
def ZH:Clause (.DictComp k v [⟨t1,i1,f1,0⟩,⟨t2,i2,f2,0⟩] scope pos) 1 t2 i2 f2 acc env (mG k v acc env):=⟨rfl,λ_=>rfl,λ_ _ _=>rfl,λ_ _=>rfl,λ_ _ _=>rfl,λ_ _=>rfl,λit=>by
 unfold mG;cases acc <;> first | rfl | (simp only [bind_assoc,pure_bind];rfl)⟩
def Pa{D:Addr}{Q:St->Hp->Prop}(hu:X.A.units+1 < cLine)(h:Ev X k σ H λy H1=>Ev X v σ H1 λx H2=>∃ H3,bT H2 D y x H3/\Q σ H3):lj X (mG k v (.ref D) X.env) σ H Q:=by
 refine⟨λpins s I=>?_⟩;unfold mG;refine BJ<|aF (h.run pins s I) λkv s1 ⟨y,H1,I1,r1,h1⟩=>?_;refine BJ<|CJ<|aF (h1.run pins s1 I1) λvv s2 ⟨x,H2,I2,r2,H3,dp,q⟩=>?_;show wpAny _ _ (standAt _ >>= λ_=>holding [kv,vv]<|dictSet D kv vv) _ _ _;exact BJ<|EY<|CJ<|O' hu I2 dp r1 r2 λs' I'=>⟨σ,H3,I',q⟩
def ZI{wi:TI}{Q:St->Hp->Prop}(i8:X.xe=λ_ _=>False)(hc:X.calm=true)(hi:PI X t2 i2 wi)(h:wi σ H λJ H1=>iC X t2 f2 (mG k v acc X.env) J Q σ H1)
  (hs:∀ x,foldedSetIterable i2 X.env x=pure x:=by intro _;rfl):lj X (si k v t1 i1 f1 t2 i2 f2 scope pos acc X.env) σ H Q:=by
 refine⟨λpins s I=>?_⟩;unfold si;refine BJ<|aF (hi pins s σ H _ I h) λx s1 h1=>?_;refine BJ<|EY<|BJ<|JM (hs x)<|BJ<|CJ<|CK h1 (λjM s2 h2=>?_) λ_ _ e=>e;obtain⟨it,fp,tn,J,H2,e,I2,T,dL,je,q⟩:=h2;subst e;refine BJ<|wpAny_runOwn (Q:=λ_ s'=>wpAny (model X.prog X.w) X.A (pure ()) (λ_ s'=>∃ σ' H',Inv X pins σ' H' s'/\Q σ' H') X.xe s') ?_;exact yh i8 hc ZH I2 T dL je q λσ' H' s' I' q'=>BP ⟨σ',H',I',q'⟩
def Pb{wi:TI}{Q:VK}(sc:Scope)(N N':List Str)(n:Nat)(hi:PI X t1 i1 wi)
  (h:wi σ H λJ H1=>∀ D,H1 D=none->∀ cl C s₀ H₀ ex,iC (fO X N' scope cl C s₀ H₀ ex) t1 f1 (mG k v (.ref D)<|compEnvC scope cl C X.env) J (λ_ H'=>Q (.ref D) H') (σ++List.replicate n none)<|upd H1 D<|.dT [])
  (hc:X.calm=true:=by rfl) (i':X.env.scope=sc:=by rfl) (hN:X.N=N:=by rfl) (hk:nU sc scope N N'=true:=by decide +kernel) (hl:N'.length=N.length+n:=by rfl)
  (hs:∀ x,foldedSetIterable i1 X.env x=pure x:=by intro _;rfl):Ev X (.DictComp k v [⟨t1,i1,f1,0⟩] scope pos) σ H Q:=by
 refine⟨λpins s I=>?_⟩;subst i' hN;have ck:=bK.of hk;show wpAny _ _ (comprehension (.DictComp k v [⟨t1,i1,f1,0⟩] scope pos) scope X.env (firstIterPos [⟨t1,i1,f1,0⟩] pos) newDict (firstAsync [⟨t1,i1,f1,0⟩])<|firstIter [⟨t1,i1,f1,0⟩] X.env) _ _ _;refine FP (use:=none) rfl hs (rE λx hx hf=>I.ok.has x.1<|ck.free x hx hf) ck.kind ck.names (aF (hi pins s σ H _ I h) λxv s1 h1=>aF h1 λjM s2 h2=>?_);obtain⟨it,fp,tn,J,H2,e,I2,T,dL,je,q⟩:=h2;subst e;refine uB (e:= .DictComp k v [⟨t1,i1,f1,0⟩] scope pos) (newAcc:=newDict) (o0:={cls:= .type "dict",data:= .dict #[]}) (u0:=λ_=> .dT []) (λ_ _ _ h=>CQ h) (λ_ h hb=>CM h hb) (Q:=Q) (RR:=λacc C=>compPost (model X.prog X.w) X.A X.xe none (EP X pins σ Q) acc C) hc ck hl (inner:=mG k v) (λ_ _=>ZF) I2 T dL je q ?_;intro D C H' s' m IX hn hC c1 c2 c3 c4 qq;exact⟨m,hn,λh' fb=>⟨.ref D,H',IX.turned (t':=s'.toks) (λb o hb e=>fb.extBut b o hb e) hC (CG<|CG c1) (.inr c2) c3 c4,rfl,qq⟩⟩
def ZJ{wi:TI}{Q:VK}(sc:Scope)(N N':List Str)(n:Nat)(hi:PI X t1 i1 wi)
  (h:wi σ H λJ H1=>∀ D,H1 D=none->∀ cl C s₀ H₀ ex,iC (fO X N' scope cl C s₀ H₀ ex) t1 f1 (si k v t1 i1 f1 t2 i2 f2 scope pos (.ref D)<|compEnvC scope cl C X.env) J (λ_ H'=>Q (.ref D) H') (σ++List.replicate n none)<|upd H1 D<|.dT [])
  (hc:X.calm=true:=by rfl) (i':X.env.scope=sc:=by rfl) (hN:X.N=N:=by rfl) (hk:nU sc scope N N'=true:=by decide +kernel) (hl:N'.length=N.length+n:=by rfl)
  (hs:∀ x,foldedSetIterable i1 X.env x=pure x:=by intro _;rfl):Ev X (.DictComp k v [⟨t1,i1,f1,0⟩,⟨t2,i2,f2,0⟩] scope pos) σ H Q:=by
 refine⟨λpins s I=>?_⟩;subst i' hN;have ck:=bK.of hk;show wpAny _ _ (comprehension (.DictComp k v [⟨t1,i1,f1,0⟩,⟨t2,i2,f2,0⟩] scope pos) scope X.env (firstIterPos [⟨t1,i1,f1,0⟩,⟨t2,i2,f2,0⟩] pos) newDict (firstAsync [⟨t1,i1,f1,0⟩,⟨t2,i2,f2,0⟩])<|firstIter [⟨t1,i1,f1,0⟩,⟨t2,i2,f2,0⟩] X.env) _ _ _;refine FP (use:=none) rfl hs (rE λx hx hf=>I.ok.has x.1<|ck.free x hx hf) ck.kind ck.names (aF (hi pins s σ H _ I h) λxv s1 h1=>aF h1 λjM s2 h2=>?_);obtain⟨it,fp,tn,J,H2,e,I2,T,dL,je,q⟩:=h2;subst e;refine uB (e:= .DictComp k v [⟨t1,i1,f1,0⟩,⟨t2,i2,f2,0⟩] scope pos) (newAcc:=newDict) (o0:={cls:= .type "dict",data:= .dict #[]}) (u0:=λ_=> .dT []) (λ_ _ _ h=>CQ h) (λ_ h hb=>CM h hb) (Q:=Q) (RR:=λacc C=>compPost (model X.prog X.w) X.A X.xe none (EP X pins σ Q) acc C) hc ck hl (inner:=si k v t1 i1 f1 t2 i2 f2 scope pos) (λ_ _=>ZG) I2 T dL je q ?_;intro D C H' s' m IX hn hC c1 c2 c3 c4 qq;exact⟨m,hn,λh' fb=>⟨.ref D,H',IX.turned (t':=s'.toks) (λb o hb e=>fb.extBut b o hb e) hC (CG<|CG c1) (.inr c2) c3 c4,rfl,qq⟩⟩
end
open bU
def Pg{prog:Program}{w:World}{A:Around}{E:Value->Shared->Prop}{s:Shared}{a:Addr}{zs:List Str}{z:Str}{tk:Tok}{Q:Value->Shared->Prop}(S:bv prog w s.heap a zs)(hb:zs.length+1 < 1000)
  (h:∀ h',Heap.SameBut a s.heap h'->bv prog w h' a (added zs z)->Q .none {s with heap:=h',toks:=s.toks+1}) :
  wpAny (model prog w) A (call (.builtin "set.add") [.ref a,.str z tk]) Q E s:=by
 have hT:s.TypeIs (.ref a) "set":=let ⟨o,_,_,_,ho,hx,_⟩:=S;⟨o,ho,hx.1⟩
 refine CV F.slot_set_add hT F.entry_set_add ?_<|F.args_set_add_2 _ _;unfold Builtin.«set.add» Builtin.Frozenset.oneOther;simp only [QX,bind_assoc];unfold Builtin.Frozenset.addrOf setAdd;refine BJ<|BP ?_
 try dsimp only
 refine BJ<|BP ?_
 try dsimp only
 refine BJ ?_;refine CJ ?_;refine BJ ((PySem.strKind prog w).pyHash (k:=z) (v:= .str z tk) (by simp [PySem.strKind,Value.isStrOf]) ?_);refine XY (s:={s with toks:=s.toks+1}) S hb λb h' sb S'=>?_;show wpAny _ _ (ret Value.none) _ _ _;exact BP ⟨_,rfl,h h' sb S'⟩
def ZK{prog:Program}{w:World}{A:Around}{E:Value->Shared->Prop}{s:Shared}{Q:Value->Shared->Prop}(k:Q (.ref s.heap.objs.size) {s with heap:=s.heap.push (pN w)}):wpAny (model prog w) A (newSet<|.type "set") Q E s:=by
 unfold newSet;refine BJ<|wp_text ?_
 dsimp only
 simp only [newObj];exact BJ<|wpAny_alloc<|BP k
def vb(elt:Expr)(acc:Value)(env:Env):Sem Unit:=do let v <- eval elt env;standAt elt.pos;let _ <- call (.builtin "set.add") [acc,v]
def sj(elt t1 i1:Expr)(f1:List Expr)(t2 i2:Expr)(f2:List Expr)(scope:Scope)(pos:Pos)(acc:Value)(env:Env):Sem Unit:=do
 let x <- eval i2 env
 standAt i2.pos
 let x <- foldedSetIterable i2 env x
 let _ <- runOwn (.compStart (.SetComp elt [⟨t1,i1,f1,0⟩,⟨t2,i2,f2,0⟩] scope pos) 1 (<- holding [x]<|pyIter x) acc env) env
section
variable{X:Cx}{elt t1 i1 t2 i2:Expr}{f1 f2:List Expr}{scope:Scope}{pos:Pos}{σ:St}{H:Hp}{acc:Value}{env:Env}
def ZL:Clause (.SetComp elt [⟨t1,i1,f1,0⟩,⟨t2,i2,f2,0⟩] scope pos) 0 t1 i1 f1 acc env (sj elt t1 i1 f1 t2 i2 f2 scope pos acc env):=⟨rfl,λ_=>rfl,λ_ _ _=>rfl,λ_ _=>rfl,λ_ _ _=>rfl,λ_ _=>rfl,λit=>by
 unfold sj;simp only [bind_assoc,pure_bind];rfl⟩
def ZM:Clause (.SetComp elt [⟨t1,i1,f1,0⟩,⟨t2,i2,f2,0⟩] scope pos) 1 t2 i2 f2 acc env (vb elt acc env):=⟨rfl,λ_=>rfl,λ_ _ _=>rfl,λ_ _=>rfl,λ_ _ _=>rfl,λ_ _=>rfl,λit=>by
 unfold vb
 first | rfl | (simp only [bind_assoc,pure_bind];rfl)⟩
def ZN{D:Addr}{Q:St->Hp->Prop} (h:Ev X elt σ H λv H1=>∃ z zs,v = .str z/\H1 D=some (bC X.prog X.w D zs)/\zs.length+1 < 1000/\Q σ (upd H1 D<|bC X.prog X.w D<|added zs z)):lj X (vb elt (.ref D) X.env) σ H Q:=by
 refine⟨λpins s I=>?_⟩;unfold vb;refine BJ<|aF (h.run pins s I) λv s1 ⟨x,H1,I1,r1,z,zs,e,hD,hl,q⟩=>?_;subst e;obtain⟨tk,rfl⟩:=r1;refine BJ (EY<|BJ<|Pg (I1.set hD) hl λh' sb S'=>BP ⟨σ,_,l' (t':=s1.toks+1) I1 (by rw [hD];exact True.intro) sb ?_<|yl S',q⟩);obtain⟨o,_,_,_,ho,_⟩:=S';exact⟨o,ho⟩
def ZO{wi:TI}{Q:St->Hp->Prop}(i8:X.xe=λ_ _=>False)(hc:X.calm=true)(hi:PI X t2 i2 wi)(h:wi σ H λJ H1=>iC X t2 f2 (vb elt acc X.env) J Q σ H1)
  (hs:∀ x,foldedSetIterable i2 X.env x=pure x:=by intro _;rfl):lj X (sj elt t1 i1 f1 t2 i2 f2 scope pos acc X.env) σ H Q:=by
 refine⟨λpins s I=>?_⟩;unfold sj;refine BJ<|aF (hi pins s σ H _ I h) λx s1 h1=>?_;refine BJ<|EY<|BJ<|JM (hs x)<|BJ<|CJ<|CK h1 (λjM s2 h2=>?_) λ_ _ e=>e;obtain⟨it,fp,tn,J,H2,e,I2,T,dL,je,q⟩:=h2;subst e;refine BJ<|wpAny_runOwn (Q:=λ_ s'=>wpAny (model X.prog X.w) X.A (pure ()) (λ_ s'=>∃ σ' H',Inv X pins σ' H' s'/\Q σ' H') X.xe s') ?_;exact yh i8 hc ZM I2 T dL je q λσ' H' s' I' q'=>BP ⟨σ',H',I',q'⟩
def ZP{wi:TI}{Q:VK}(sc:Scope)(N N':List Str)(n:Nat)(hi:PI X t1 i1 wi)
  (h:wi σ H λJ H1=>∀ D,H1 D=none->∀ cl C s₀ H₀ ex,iC (fO X N' scope cl C s₀ H₀ ex) t1 f1 (sj elt t1 i1 f1 t2 i2 f2 scope pos (.ref D)<|compEnvC scope cl C X.env) J (λ_ H'=>Q (.ref D) H') (σ++List.replicate n none)<|upd H1 D<|bC X.prog X.w D [])
  (hc:X.calm=true:=by rfl) (i':X.env.scope=sc:=by rfl) (hN:X.N=N:=by rfl) (hk:nU sc scope N N'=true:=by decide +kernel) (hl:N'.length=N.length+n:=by rfl)
  (hs:∀ x,foldedSetIterable i1 X.env x=pure x:=by intro _;rfl):Ev X (.SetComp elt [⟨t1,i1,f1,0⟩,⟨t2,i2,f2,0⟩] scope pos) σ H Q:=by
 refine⟨λpins s I=>?_⟩;subst i' hN;have ck:=bK.of hk;show wpAny _ _ (comprehension (.SetComp elt [⟨t1,i1,f1,0⟩,⟨t2,i2,f2,0⟩] scope pos) scope X.env (firstIterPos [⟨t1,i1,f1,0⟩,⟨t2,i2,f2,0⟩] pos) (newSet<|.type "set") (firstAsync [⟨t1,i1,f1,0⟩,⟨t2,i2,f2,0⟩])<|firstIter [⟨t1,i1,f1,0⟩,⟨t2,i2,f2,0⟩] X.env) _ _ _;refine FP (use:=none) rfl hs (rE λx hx hf=>I.ok.has x.1<|ck.free x hx hf) ck.kind ck.names (aF (hi pins s σ H _ I h) λxv s1 h1=>aF h1 λjM s2 h2=>?_);obtain⟨it,fp,tn,J,H2,e,I2,T,dL,je,q⟩:=h2;subst e;refine uB (e:= .SetComp elt [⟨t1,i1,f1,0⟩,⟨t2,i2,f2,0⟩] scope pos) (newAcc:=newSet<|.type "set") (o0:=pN X.w) (u0:=λD=>bC X.prog X.w D []) (λ_ _ _ h=>ZK h) (λ_ h _=>yl<|N6<|Aq _ rfl) (Q:=Q) (RR:=λacc C=>compPost (model X.prog X.w) X.A X.xe none (EP X pins σ Q) acc C) hc ck hl (inner:=sj elt t1 i1 f1 t2 i2 f2 scope pos) (λ_ _=>ZL) I2 T dL je q ?_;intro D C H' s' m IX hn hC c1 c2 c3 c4 qq;exact⟨m,hn,λh' fb=>⟨.ref D,H',IX.turned (t':=s'.toks) (λb o hb e=>fb.extBut b o hb e) hC (CG<|CG c1) (.inr c2) c3 c4,rfl,qq⟩⟩
end
end L2
namespace ZQ
open PySem PySem.Builtin PySem.Builtin.Str PySem.StrLaws
end ZQ
namespace L2
open PySem PySem.Builtin PySem.Builtin.Str
section
variable{X:Cx}{σ:St}{H:Hp}{Q:VK}
end
end L2
namespace PySem
def Plain(h:Heap)(d:Addr)(es:Array DictEntry)(ep:Nat):Prop:=∃ o,h.get? d=some o/\o.ExactDict/\o.data = .dict es ep
section
variable{P:Program}{w:World}{A:Around}{E:Value->Shared->Prop}{s:Shared}
def ZR(d:Addr)(hd:(d == sysModules)=false):MeetsIn P w (Builtin.«dict.items» ⟨[.ref d],[]⟩) (λ_ R u=>u.TypeIs (.ref d) "dict" /\
  R (.ok<|.ret<|.ref u.heap.objs.size) {u with heap:=u.heap.push {cls:= .type "dict_items",data:= .fields #[.ref d]}}):=by
 refine .of_wp λB R u ⟨hT,k⟩=>?_;unfold Builtin.«dict.items» Builtin.Dict.noArgs;refine BJ<|BJ<|wpAny_notOrdered_dict hT ?_;show wpAny _ _ (pure d) _ _ u;refine BP ?_;show wpAny _ _ (Builtin.Dict.showsAll d >>= _) _ _ u;unfold Builtin.Dict.showsAll;rw [BK<|by rw [hd];exact Av];exact BJ<|BP<|BJ<|CQ<|BP ⟨_,rfl,k⟩
def ZS{v d:Addr}{es:Array DictEntry}{ep:Nat}{Q:Value->Shared->Prop}(hv:s.heap.IsItemsView v d)(hm:Plain s.heap d es ep)
  (k:Q (.ref s.heap.objs.size) {s with heap:=s.heap.push {cls:= .type "dict_itemiterator",data:= .fields #[.none,.bool false,.ref d,.int 0 0,.int es.size 0,.int ep 0,.none,.none]}}) :
  wpAny (model P w) A (pyIter<|.ref v) Q E s:=by
 obtain⟨vo,e1,e2,e3⟩:=id hv;obtain⟨o,f1,f2,f3⟩:=hm;refine KH hv.typeIs F.slot_dict_items_iter<|CV F.slot_dict_items_iter hv.typeIs F.entry_dict_items_iter ?_<|F.args_dict_items_iter_1 _;unfold Builtin.«dict_items.__iter__» Builtin.Dict_items.dictOf Builtin.Dict_items.newIterator;refine BJ<|BP<|BJ<|BJ<|HX e1 e3 (x:= .ref d) rfl (BP ?_);refine BJ<|BJ<|QJ f1 f3<|BJ<|RX f1 f3 ?_;have ow:Builtin.Dict_items.ownsTuple "dict_itemiterator" = true:=by decide
 simp only [ow,DN];refine CQ (BP ⟨_,rfl,"dict_itemiterator",_,⟨_,Aq _ rfl,rfl⟩,F.slot_dict_itemiterator_next.lookup,?_⟩) ?_
 ·simpa [rawInt,Builtin.Dict_items.ownedTupleFields] using k
 ·simp only [sizeOk,Builtin.Dict_items.ownedTupleFields,Aw,Ad,Ax,Em,DY];omega
def ZT{it d:Addr}{i ep:Nat}{es:Array DictEntry}{en:DictEntry}{y z:Value}{Q:Option Value->Shared->Prop}(hit:IsItemIter s.heap it d i es.size ep y z)(hm:Plain s.heap d es ep)(hx:es[i]?=some en)
  (k : ∀ h', IsItemIterOut h' it d (i + 1) es.size ep en.key en.val s.heap.objs.size → h'.get? s.heap.objs.size = some { cls := .type "tuple", data := .seq #[en.key, en.val] } →
   (∀ b o,b≠it->s.heap.get? b=some o->h'.get? b=some o)->Q (some<|.ref s.heap.objs.size) {s with heap:=h'}):wpAny (model P w) A (pyNext<|.ref it) Q E s:=by
 obtain⟨hp,g,dr,tk,os⟩:=s;obtain⟨o,f1,f2,f3⟩:=hm;have ty:Shared.TypeIs ⟨hp,g,dr,tk,os⟩ (.ref it) "dict_itemiterator":=⟨_,hit,rfl⟩;have lt:i < es.size:=by
  rcases Dt i es.size with h | h
  ·exact h
  ·rw [Ft h] at hx;cases hx
 have ow:Builtin.Dict_items.ownsTuple "dict_itemiterator" = true:=by decide
 unfold pyNext;refine BJ<|IK<|HY (name:=Str.ofString "__next__") ty GK<|CV GK ty NZ ?_<|MJ _;refine BJ<|BP<|BJ<|BJ ?_
 first | refine BJ (FZ ty<|BP ?_) | refine BJ<|HW ty<|BP ?_
 refine BJ<|PB hit rfl ?_;simp only [ow,DN];show wpAny _ _ (if(Value.ref d == Value.none)=true then _ else _) _ _ _;rw [BK (show ¬((Value.ref d == Value.none)=true) from Av)];refine BJ<|BP<|BJ<|QJ f1 f3 ?_;rw [BK<|by simp];refine BJ<|BP<|BJ<|RX f1 f3 ?_;rw [BK<|by simp];refine BP ?_;have ee:es[i]=en:=Option.some.inj<|(Fe lt).symm.trans hx;simp only [show ¬((i:Int) < 0) from by omega,DQ,Bf,hx];refine BJ ?_
 first | refine BJ (FZ ty<|BP ?_) | refine BJ<|HW ty<|BP ?_
 refine BJ<|KQ ty ?_;show wpAny _ _ (setField (.ref it) 3 (rawInt<|(i:Int)+1) >>= _) _ _ ⟨hp,g,dr,tk,os⟩;refine BJ (IW hit (by simp) λha ea sa=>?_);replace sa:Heap.SameBut it hp ha:=sa;replace ea:IsItemIter ha it d (i+1) es.size ep y z:=by
  have e:((i+1:Nat):Int)=(i:Int)+1:=by omega
  unfold IsItemIter;rw [e]
  simpa [rawInt] using ea
 have Ph:Shared.TypeIs ⟨ha,g,dr,tk,os⟩ (.ref it) "dict_itemiterator":=⟨_,ea,rfl⟩;refine BJ<|CJ<|BJ<|KQ Ph<|BJ<|KQ Ph ?_;show wpAny _ _ (Builtin.Dict_items.pairFromOwner (.ref it) 6 en.key en.val) _ _ ⟨ha,g,dr,tk,os⟩;unfold Builtin.Dict_items.pairFromOwner Builtin.Dict_items.ownedTupleIsFree;refine BJ<|PJ ?_;have eb:IsItemIter (ha.push {cls:= .type "tuple",data:= .seq #[en.key,en.val]}) it d (i+1) es.size ep y z:=Ae _ ea;have za:ha.objs.size=hp.objs.size:=sa.1;have il:it < hp.objs.size:=Ar hit;have tb:(ha.push {cls:= .type "tuple",data:= .seq #[en.key,en.val]}).get? hp.objs.size=some {cls:= .type "tuple",data:= .seq #[en.key,en.val]}:=by rw [<- za];exact Aq _ rfl
 have kb:∀ b u,b≠it->hp.get? b=some u->(ha.push {cls:= .type "tuple",data:= .seq #[en.key,en.val]}).get? b=some u:=λb u hb e=>Ae _<|sa.extBut b u hb e;rw [za];generalize ha.push {cls:= .type "tuple",data:= .seq #[en.key,en.val]}=hb at eb tb kb;refine BJ<|BJ<|HX (s:=⟨hb,g,dr,tk,os⟩) eb rfl (x:= .none) rfl (BP ?_);simp only [DN];refine BJ<|HX (s:=⟨hb,g,dr,tk,os⟩) eb rfl (x:=y) rfl (BJ<|HX (s:=⟨hb,g,dr,tk,os⟩) eb rfl (x:=z) rfl ?_);refine BJ (IW eb (by simp) λh3 e3 s3=>?_);replace s3:Heap.SameBut it hb h3:=s3;replace e3:IsItemIter h3 it d (i+1) es.size ep en.key z:=e3;refine BJ (IW e3 (by simp) λh4 e4 s4=>?_);replace s4:Heap.SameBut it h3 h4:=s4;replace e4:IsItemIter h4 it d (i+1) es.size ep en.key en.val:=e4;refine BJ (IW e4 (by simp) λh5 e5 s5=>?_);replace s5:Heap.SameBut it h4 h5:=s5;replace e5:IsItemIterOut h5 it d (i+1) es.size ep en.key en.val hp.objs.size:=e5;refine BJ (IW e5 (by simp) λh6 e6 s6=>?_);replace s6:Heap.SameBut it h5 h6:=s6;replace e6:IsItemIterOut h6 it d (i+1) es.size ep en.key en.val hp.objs.size:=e6;have all:=((s3.trans s4).trans s5).trans s6;exact BJ<|wpAny_letGo<|BP<|BP ⟨_,rfl,BP<|k h6 e6 (all.extBut _ _ (Cm il) tb) λb u kh e=>all.extBut b u kh<|kb b u kh e⟩
def ZU{it d:Addr}{i ep:Nat}{es:Array DictEntry}{y z:Value}{Q:Option Value->Shared->Prop}(hh:A.handled=none)(hit:IsItemIter s.heap it d i es.size ep y z)(hm:Plain s.heap d es ep)(hx:es.size<=i)
  (k:∀ h',Heap.ExtBut it s.heap h'->Q none {s with heap:=h'}):wpAny (model P w) A (pyNext<|.ref it) Q E s:=by
 obtain⟨o,f1,f2,f3⟩:=hm;have ty:s.TypeIs (.ref it) "dict_itemiterator":=⟨_,hit,rfl⟩;have ow:Builtin.Dict_items.ownsTuple "dict_itemiterator" = true:=by decide
 unfold pyNext;refine BJ<|IK<|HY (name:=Str.ofString "__next__") ty GK<|CV GK ty NZ ?_<|MJ _;refine BJ<|BP<|BJ<|BJ ?_
 first | refine BJ (FZ ty<|BP ?_) | refine BJ<|HW ty<|BP ?_
 refine BJ<|PB hit rfl ?_;simp only [ow,DN];show wpAny _ _ (if(Value.ref d == Value.none)=true then _ else _) _ _ s;rw [BK (show ¬((Value.ref d == Value.none)=true) from Av)];refine BJ<|BP<|BJ<|QJ f1 f3 ?_;rw [BK<|by simp];refine BJ<|BP<|BJ<|RX f1 f3 ?_;rw [BK<|by simp];refine BP ?_;simp only [show ¬((i:Int) < 0) from by omega,DQ,Bf,Ft hx];refine BJ ?_
 first | refine BJ (FZ ty<|BP ?_) | refine BJ<|HW ty<|BP ?_
 show wpAny _ _ (setField (.ref it) 2 .none >>= _) _ _ s;refine BJ (DG hit rfl (by simp) ?_);show wpAny _ _ (newExc (.type "StopIteration") [] >>= _) _ _ _;refine BJ ?_;simp only [newExc,newTuple];refine BJ (CQ ?_<|by size_fits);refine BJ (m:=firstArgMember _ _) (JM (a:=Value.none) (by first | rfl | (simp only [firstArgMember];rfl)) ?_);refine CQ ?_ (by size_fits);simp only [raiseNew];refine BJ<|wpAny_handled ?_;rw [show A.in1.handled=none from hh];refine BJ<|BP<|wpAny_throw ?_;exact BJ<|QV (T:= "StopIteration") (b:=true) ⟨_,Aq _ rfl,rfl⟩ isSubtype_stop<|BP<|k _<|((DK ..).extBut.push _).push _
def ZV:entryFor table "dict_itemiterator.__iter__" = some Builtin.«dict_keyiterator.__iter__»:=
 entryFor_alias (id':= "dict_keyiterator.__iter__") (by kernel_rfl) rfl (by decide +kernel) (by kernel_rfl)
def ZW{it d:Addr}{i n ep:Nat}{y z:Value}{Q:Value->Shared->Prop}(e:IsItemIter s.heap it d i n ep y z)(h:Q (.ref it) s):wpAny (model P w) A (pyIter<|.ref it) Q E s:=by
 have ty:s.TypeIs (.ref it) "dict_itemiterator":=⟨_,e,rfl⟩;refine KH ty OD<|CV OD ty ZV ?_<|F.args_dict_itemiterator_iter_1 _;show wpAny _ _ (ret<|.ref it) _ _ s;exact BP ⟨_,rfl,"dict_itemiterator",_,ty,F.slot_dict_itemiterator_next.lookup,h⟩
end
end PySem
namespace L2
open PySem PySem.Spec PyProof.Rows
section
variable{X:Cx}{pins:List (Addr×Obj)}{σ:St}{H:Hp}{s:Shared}
def ZX{d:Addr}{kvs:List (List Key×V)}(I:Inv X pins σ H s)(e:H d=some (.dT kvs)):∃ o,s.heap.get? d=some o/\Inv X pins σ (upd H d<|.bh o<|.dT kvs) s:=by
 obtain⟨z,hd,xs,r,o,es,ep,ho,h2,h3,h4,h5⟩:=(show az X.prog X.w H s.heap d (.dT kvs) from I.aB d _ e);refine⟨o,ho,?_⟩;have r':KT (upd H d<|.bh o<|.dT kvs) kvs xs:=KT.keeps r λb ys q=>by
  rw [au<|bQ q e λz=>nomatch z];exact q
 exact l' (t':=s.toks) I (by rw [e];exact True.intro) ⟨rfl,λ_ _=>rfl⟩ ⟨o,ho⟩ (show az X.prog X.w _ s.heap d (.bh o<|.dT kvs) from⟨ho,z,hd,xs,r',o,es,ep,ho,h2,h3,h4,h5⟩)
def Itm(d:Addr)(o:Obj)(kvs:List<|List Key×V):It:=
  ⟨λi H => H d = some (.bh o<|.dT kvs) ∧ i < kvs.length,
   λi H v H'=>∃ T b k x,kvs[i]?=some (k,x)/\H b=some (.tup<|k.map kV)/\H T=none/\v = .ref T/\H'=upd H T (.tup [.ref b,x]),
   λi H=>H d=some (.bh o<|.dT kvs)/\kvs.length<=i⟩
def Pj{P:Program}{w:World}{h:Heap}{d:Addr}{o:Obj}{es:Array DictEntry}{ep:Nat}{kvs:List (List Key×V)}(aB:b8 P w H h)(e:H d=some (.bh o<|.dT kvs))(hd:o.data = .dict es ep) :
  Plain h d es ep/\∃ xs,KT H kvs xs/\es.toList=xs.map (entryOfKey<|tupleKind<|dh P w):=by
 obtain⟨ho,z,_,xs,r,o',fu,tP,dH,h2,h3,h4,h5⟩:=(show az P w H h d (.bh o<|.dT kvs) from aB d _ e);have:o=o':=Option.some.inj<|ho.symm.trans dH;subst this;rw [hd] at h3
 injection h3 with e1 e2
 subst e1;subst e2;exact⟨⟨o,ho,h2,hd⟩,xs,r,h4⟩
theorem kt_len{H:Hp}:∀{kvs:List (List Key×V)} {xs:List (List Key×Addr×Value)},KT H kvs xs->kvs.length=xs.length:=λr=>by
 induction r with
 | nil=>rfl
 | cons _ _ ih=>simp only [Ax,ih]
theorem kt_at{H:Hp}:∀{kvs:List (List Key×V)} {xs:List (List Key×Addr×Value)},KT H kvs xs->∀{i:Nat} {k:List Key} {x:V},kvs[i]?=some (k,x)->∃ b u,xs[i]?=some (k,b,u)/\H b=some (.tup<|k.map kV)/\RelV x u:=λr=>by
 induction r with
 | nil=>intro i k x h;simp at h
 | @cons p q ps qs hq t ih=>
  intro i k x h;cases i with
  | zero=>
   simp only [RL,Option.some.injEq] at h;subst h;obtain⟨a,b,c⟩:=q;obtain⟨q1,q2,q3⟩:=hq;have q1:k=a:=q1;subst q1;exact⟨b,c,rfl,q2,q3⟩
  | succ i=>exact ih<|by simpa using h
def ZY{P:Program}{w:World}{K:PySem.W.Frag}{elts:List Expr}{kk:Nat}{tp:Pos}(d it:Addr)(o:Obj)(es:Array DictEntry)(ep:Nat)(kvs:List<|List Key×V)(p7:o.data = .dict es ep) :
  Turn P w K (.Tuple elts kk tp) (Itm d o kvs) [it] it (λi h=>∃ y z,IsItemIter h it d i es.size ep y z) where
 mem:=by simp
 obj:=λi h st b hb=>by
  have e:b=it:=by simpa using hb
  subst e;obtain⟨y,z,e⟩:=st;exact⟨_,e,λv z=>by cases z⟩
 keep:=λi h h' st k=>let ⟨y,z,e⟩:=st;⟨y,z,k it (by simp) _ e⟩
 item:=by
  intro X hP hw hK hc i pins s σ H E I hf st hg;subst hP hw hK;obtain⟨f0,f1,f2,f3,f4,f5⟩:=hf it (by simp);obtain⟨hd,hi⟩:=hg;obtain⟨pd,xs,r,qd⟩:=Pj I.aB hd p7;obtain⟨y,z,st⟩:=st;have hx:kvs[i]?=some (kvs[i].1,kvs[i].2):=Ab hi;obtain⟨b,u,eV,hb,ru⟩:=kt_at r hx;have sk:=entry_at qd i;rw [eV] at sk;refine ZT st pd (en:=entryOfKey (tupleKind<|dh X.prog X.w) (kvs[i].1,b,u)) sk λh' q1 q2 kp=>?_;have hT:H s.heap.objs.size=none:=I.aB.fresh<|Am _;have nT:it≠s.heap.objs.size:=Bn<|Ar st;have I1:Inv X pins σ (upd H s.heap.objs.size<|.tup [.ref b,kvs[i].2]) {s with heap:=s.heap.push {cls:= .type "tuple",data:= .seq #[Value.ref b,u]}}:=
   I.laid (t':=s.toks) (λb o e=>Ae _ e) (Am _) (show az X.prog X.w _ _ _ (.tup [.ref b,kvs[i].2]) from⟨Z2,[Value.ref b,u],.cons rfl (.cons ru .nil),⟨_,Aq _ rfl,rfl,_,rfl⟩⟩)
  have fp:∀ c∈[it],cb X pins (upd H s.heap.objs.size<|.tup [.ref b,kvs[i].2]) c:=λc bj=>by
   have e:c=it:=by simpa using bj
   subst e;exact⟨by rw [au nT];exact f0,f1,f2,f3,f4,f5⟩
  have I2:=Inv.bF (h':=h') (t':=s.toks) I1 fp λc v bj e=>by
   have nc:c≠it:=by simpa using bj
   rcases Ga e with ⟨ec,eo⟩ | e'
   ·rw [ec,eo];exact q2
   ·exact kp c v nc e'
  refine⟨_,rfl,wpAny_letOwnedTupleGo_items (s:={s with heap:=h'}) q1 λh2 b1 sb=>?_⟩;have I3:=Inv.bF (h':=h2) (t':=s.toks) I2 fp λc v bj e=>(sb.2 c<|by simpa using bj).trans e;exact⟨.ref s.heap.objs.size,_,I3,rfl,⟨_,b,kvs[i].1,kvs[i].2,hx,hb,hT,rfl,rfl⟩,⟨_,_,b1⟩,λc bj=>(fp c bj).1⟩
 done:=by
  intro X hP hw hK hc i pins s σ H E I hf st hg;subst hP hw hK;obtain⟨hd,hi⟩:=hg;obtain⟨pd,xs,r,qd⟩:=Pj I.aB hd p7;obtain⟨y,z,st⟩:=st;have hl:es.size=kvs.length:=by rw [kt_len r,<- Ch,qd,Aa]
  exact ZU (I.ok.hd hc) st pd (by omega) λh' eb=>⟨rfl,I.bF (t':=s.toks) hf λc v bj e=>eb c v (by simpa using bj) e⟩
 self:=λ_ _ _ _ _ st h=>let ⟨y,z,e⟩:=st;ZW e h
end
section
variable{X:Cx}
def ZZ(to:TE):TI:=λσ H R=>to σ H λx H1=>∃ d kvs,x = .ref d/\H1 d=some (.dT kvs)/\∀ o,R (Itm d o kvs)<|upd H1 d<|.bh o<|.dT kvs
def Pk{elts:List Expr}{kk:Nat}{tp ap cp:Pos}{l:Expr}{to:TE}(ho:PE X l to)(bJ:attributeBase l "items" X.env (eval l X.env)=eval l X.env:=by rfl)(hline:(ap.endLine == cp.line)=true:=by rfl) :
  PI X (.Tuple elts kk tp) (.Call (.Attribute l "items" ap) [] [] cp) (ZZ to):=by
 intro pins s σ H R I h;refine wpAny_Call_method0_late bJ hline<|aF (ho pins s σ H _ I h) λv s1 ⟨x,H1,I1,r1,q1⟩=>?_;obtain⟨d,kvs,e,hd,q⟩:=q1;subst e;cases (show v=Value.ref d from r1);obtain⟨_,Z4,_,_,o,es,ep,e1,e2,e3,_⟩:=(show az X.prog X.w H1 s1.heap d (.dT kvs) from I1.aB d _ hd);have ty:s1.TypeIs (.ref d) "dict":=⟨o,e1,e2.1⟩;refine⟨"dict","dict.items",F.plainAttrs_dict,F.slot_dict_items,F.type_dict_items,ty,λa ea=>?_,JD rfl (PySem.evalArgs_none ?_)⟩
 ·cases ea;exact⟨o,e1,e2.2.1⟩
 refine call_meetsIn F.slot_dict_items ty F.entry_dict_items (F.args_dict_items_1 _) (ZR d Z4) ⟨ty,?_⟩;obtain⟨o',eo,I2⟩:=ZX I1 hd;have:o=o':=Option.some.inj<|e1.symm.trans eo;subst this;have I3:=I2.kept (t':=s1.toks) (h':=s1.heap.push {cls:= .type "dict_items",data:= .fields #[.ref d]}) λb u e=>Ae _ e;refine ZS (s:={s1 with heap:=s1.heap.push {cls:= .type "dict_items",data:= .fields #[.ref d]}}) (d:=d) (es:=es) (ep:=ep) ⟨_,Aq _ rfl,rfl,rfl⟩ ⟨o,Ae _ e1,e2,e3⟩ ?_;refine⟨_,[(s1.heap.push {cls:= .type "dict_items",data:= .fields #[.ref d]}).objs.size],_,_,_,rfl,I3.kept (t':=s1.toks) λb u e=>Ae _ e,ZY d _ o es ep kvs e3,⟨_,_,Aq _ rfl⟩,λb hb=>?_,q o⟩;have e:b=(s1.heap.push {cls:= .type "dict_items",data:= .fields #[.ref d]}).objs.size:=by simpa using hb
 subst e;exact I3.fX (Am _)<|I3.aB.fresh<|Am _
end
section
variable{X:Cx}{tg:Expr}{ifs:List Expr}{inner:Sem Unit}{σ:St}{H:Hp}{d:Addr}{o:Obj}{kvs:List (List Key×V)}{after:St->Hp->Prop}
def Z5(Pv:Nat->St->Hp->Prop)(h0:Pv 0 σ H)(hl:∀ i σ' H',i<=kvs.length->Pv i σ' H'->H' d=some (.bh o<|.dT kvs))
  (hs:∀ i k x b T σ' H',kvs[i]?=some (k,x)->Pv i σ' H'->H' b=some (.tup<|k.map kV)->H' T=none->Eg X tg (.ref T) σ' (upd H' T<|.tup [.ref b,x]) λσ2 H3=>Ei X ifs σ2 H3 λc H4=>if c=true then lj X inner σ2 H4 (Pv<|i+1) else Pv (i+1) σ2 H4)
  (hd:∀ σ' H',Pv kvs.length σ' H'->after σ' H'):iC X tg ifs inner (Itm d o kvs) after σ H:=by
 refine⟨λi m σ' H'=>m=kvs.length - i/\i<=kvs.length/\Pv i σ' H',⟨_,rfl,Bp _,h0⟩,?_⟩;rintro i m σ' H' ⟨rfl,hi,p⟩;have q:=hl i σ' H' hi p
 by_cases aX:i < kvs.length
 ·refine .inr ⟨⟨q,aX⟩,Pv<|i+1,λσ' H' p'=>⟨kvs.length - (i+1),by omega,rfl,aX,p'⟩,λv H2 y=>?_⟩;obtain⟨T,b,k,x,hx,hb,hT,rfl,rfl⟩:=y;exact hs i k x b T σ' _ hx p hb hT
 ·have e:i=kvs.length:=by omega
  subst e;exact .inl ⟨⟨q,Am _⟩,hd σ' H' p⟩
end
open bU
def aq{α:Type}:List α->List α
 | []=>[]
 | [a]=>[a]
 | a :: _ :: r=>a :: aq r
theorem qe{α:Type}:∀(xs:List α) (k:Nat),(aq xs)[k]?=xs[2 * k]?
 | [],k=>by simp [aq]
 | [a],0=>rfl
 | [a],k+1=>by
  show([]:List α)[k]?=[a][2 * (k+1)]?;rw [Bc<|Bp _,Bc<|by show 1<=_;omega]
 | a :: b :: r,0=>rfl
 | a :: b :: r,k+1=>by
  show(aq r)[k]?=(a :: b :: r)[2 * (k+1)]?;rw [qe r k,show 2 * (k+1)=2 * k+1+1 by omega];rfl
theorem vd{α:Type}:∀(xs:List α),(aq xs).length=(xs.length+1) / 2
 | []=>by
  show 0=(0+1) / 2;omega
 | [a]=>by
  show 1=(1+1) / 2;omega
 | a :: b :: r=>by
  show(aq r).length+1=(r.length+1+1+1) / 2;rw [vd r];omega
def Z6{α:Type}(xs:List α):(aq xs).length<=xs.length:=by
 rw [vd];omega
theorem Pn:∀{xs:List V} {us:List Value},ax xs us->ax (aq xs) (aq us)
 | [],us,r=>by
  have:=r.zero;subst this;exact .nil
 | [a],us,r=>by
  obtain⟨u,rfl,ru⟩:=r.one;exact .cons ru .nil
 | a :: b :: r,us,h=>by
  cases h with
  | cons h1 h2=>
   cases h2 with
   | cons h3 h4=>exact .cons h1<|Pn h4
theorem Pp{α:Type}(g:Nat->Option α):∀(c:Nat),(∀ k,k < c->∃ v,g k=some v)->((List.range c).filterMap g).length=c/\∀ k,k < c->((List.range c).filterMap g)[k]?=g k
 | 0,_=>⟨rfl,λk h=>absurd h<|Dv _⟩
 | c+1,h=>by
  obtain⟨h1,h2⟩:=Pp g c λk hk=>h k (by omega);obtain⟨v,hv⟩:=h c (by omega);have e:(List.range<|c+1).filterMap g=(List.range c).filterMap g++[v]:=by
   rw [Dp,List.filterMap_append,Fg,hv];rfl
  rw [e];refine⟨by rw [Ad,h1];rfl,λk hk=>?_⟩
  by_cases pL:k < c
  ·rw [Ao<|by omega];exact h2 k pL
  ·have:k=c:=by omega
   subst this;rw [Ay (by omega),h1,VF,hv];rfl
def Z7(its:List Value):slicePick its.toArray none none (some 2)=(aq its).toArray:=by
 unfold slicePick;have hb:sliceBounds none none (some 2) its.toArray.size=(0,(its.length:Int),2):=rfl;rw [hb]
 congr 1
 show((sliceRange 0 (its.length:Int) 2).filterMap (its.toArray[·]?))=aq its;have hr:sliceRange 0 (its.length:Int) 2=(List.range<|(its.length+1) / 2).map λk=>2 * k:=by
  unfold sliceRange;have e1:(if(2:Int) > 0 then(if(0:Int) < (its.length:Int) then((its.length:Int) - 0+2 - 1) / 2 else 0) else(if(0:Int) > (its.length:Int) then(0 - (its.length:Int) - 2 - 1) / (-2) else 0)).toNat=(its.length+1) / 2:=by
   rw [BL<|by decide]
   split <;> omega
  show(List.range _).map _=_;rw [e1];exact Cs λk _=>by omega
 rw [hr,List.filterMap_map];obtain⟨h1,h2⟩:=Pp (λk=>its.toArray[2 * k]?) ((its.length+1) / 2) λk hk=>⟨its[2 * k]'(by omega),by rw [<- Bo];exact Ab (l:=its)<|by omega⟩;apply Do;intro k;show((List.range<|(its.length+1) / 2).filterMap λk=>its.toArray[2 * k]?)[k]?=_
 by_cases hk:k < (its.length+1) / 2
 ·rw [h2 k hk,qe,<- Bo]
 ·rw [Bc (by omega),Bc<|by rw [vd];omega]
section
variable{X:Cx}{σ:St}{H:Hp}{Q:VK}
def Z8{e:Expr}{j:Nat}{p1 p2 pos:Pos} (h:Ev X e σ H λx H1=>∃ a xs,x = .ref a/\ai X.K H1 a xs/\∀ p,H1 p=none->Q (.ref p) (upd H1 p<|.lst<|aq xs)) :
  Ev X (.Subscript e (.Slice none none (some<|.Constant (.int 2) j p1) p2) pos) σ H Q:=by
 refine⟨λpins s I=>Subscript_<|aF (h.run pins s I) λv s1 ⟨x,H1,I1,r1,a,xs,ex,hx,q⟩=>?_⟩;subst ex;cases (show v=Value.ref a from r1);refine wpAny_Slice ?_;rw [evalPart_none];refine BP<|BP ?_;rw [evalPart_some];refine aF ((aD (X:=X) (i:=2) (j:=j) (p:=p1) (σ:=σ) (H:=H1) (Q:=λy H2=>y = .int 2/\H2=H1) ⟨rfl,rfl⟩).run pins s1 I1) λv2 s2 ⟨y,H2,I2,r2,ey,eh⟩=>?_;subst ey eh;obtain⟨t,rfl⟩:=r2;obtain⟨its,r,pl,hz⟩:=I2.list hx;have hlen:=r.length;have I3:Inv X pins σ H2 {s2 with heap:=s2.heap.push {cls:= .type "slice",data:= .fields #[.none,.none,.int 2 t]}}:=I2.kept (t':=s2.toks) λb ob q=>Ae _ q;have Pq:=pl.isList.push {cls:= .type "slice",data:= .fields #[.none,.none,.int 2 t]};show wpAny (model X.prog X.w) X.A (subscriptTail e _ (.ref a)<|.ref s2.heap.objs.size) (EP X pins σ Q) X.xe {s2 with heap:=s2.heap.push {cls:= .type "slice",data:= .fields #[.none,.none,.int 2 t]}};refine tail_any (ops:=[.ref a,.ref s2.heap.objs.size]) (T:= "list") (Heap.IsList.typeIs (s:={s2 with heap:=s2.heap.push {cls:= .type "slice",data:= .fields #[.none,.none,.int 2 t]}}) Pq) slot_list_getitem.lookup ?_ (by with_unfolding_all rfl);refine wpAny_getItem_list_slice (s:={s2 with heap:=s2.heap.push {cls:= .type "slice",data:= .fields #[.none,.none,.int 2 t]}}) Pq (Heap.IsSliceOf.new ..) .none .none (.int 2 t) (by decide) ?_ (by rw [Aw];omega);rw [Z7];exact⟨.ref _,_,I3.uj (t':=s2.toks) (Pn r)<|Bv (Z6 _) hz,rfl,q _ I3.fresh⟩
end
section
variable{prog:Program}{w:World}{A:Around}{E:Value->Shared->Prop}{s:Shared}
def Z9{Q:Value->Shared->Prop}(k:Q (.ref s.heap.objs.size) {s with heap:=s.heap.push (pN w)}):codeAny (model prog w) A (.call (.builtin "set.__new__") ⟨[.type "set"],[]⟩) (wants Q E) s:=by
 refine RV ?_;show wpAny _ A.in1 (checkBuiltinCall "set.__new__" ⟨[.type "set"],[]⟩ >>= λ_=>again<|.builtin "set.__new__" ⟨[.type "set"],[]⟩) _ _ s;refine BJ<|JM PySem.F.newCall_set_0<|BP ⟨JL TQ _,FW PySem.F.entry_set_new ?_⟩;rw [FT TQ _];unfold Builtin.«set.__new__» Builtin.Frozenset.newClass
 dsimp only
 refine BJ<|BJ<|JM (show isType (.type "set")=pure true from rfl)<|BP ?_;simp only [Fj,Bu,DQ];unfold newSet;refine BJ<|BJ<|wp_text ?_
 dsimp only
 simp only [newObj];exact BJ<|wpAny_alloc<|BP<|BP k
theorem Z'{Q:Value->Shared->Prop}(k:Q (.ref s.heap.objs.size) {s with heap:=s.heap.push (pN w)}):wpAny (model prog w) A (call (.type "set") []) Q E s:=by
 obtain⟨c,tl,ve⟩:=PySem.F.called_set.mro;have Pt:=PySem.F.called_set.made;have eW:=PySem.F.called_set.sub;refine wpAny_call<|RV ?_;show wpAny _ _ (callAny (.type "set") _) _ _ _;refine BP ⟨Code.quiet_builtin _ (by decide +kernel),FW PySem.F.entry_type_call ?_⟩;rw [Around.under_plain (weight_type_call_type "set" [] []) rfl];have h1:=PySem.F.called_set.notType;have h2:=PySem.F.called_set.canCreate;have h3:=PySem.F.typeCall_set_0
 repeat (any_goals (first | assumption | wp_step))
 refine JG (Z9 (E:=E) (Q:=λv u=>v = .ref s.heap.objs.size/\u={s with heap:=s.heap.push (pN w)}) ⟨rfl,rfl⟩) λr u hr=>?_;cases r with
 | error e=>exact hr
 | ok fl=>
  cases fl with
  | ret v=>
   obtain⟨rfl,rfl⟩:=hr;have hT:Shared.TypeIs {s with heap:=s.heap.push (pN w)} (.ref s.heap.objs.size) "set":=⟨_,Aq _ rfl,rfl⟩;have oh:=PySem.F.called_set.init.lookup;have Oj:=PySem.F.called_set.init.bind<|.ref s.heap.objs.size
   repeat (any_goals (first | assumption | wp_step))
   refine JG (codeAny_call_builtin (R:=wants (λr u=>r = .none/\Q (.ref s.heap.objs.size) u) E) PySem.F.called_set.init.plain PySem.F.entry_set_init<|check_set_init hT ?_) λr2 u2 F1=>?_
   ·unfold Builtin.«set.__init__» noKeywords
    wp_walk
    exact⟨rfl,k⟩
   ·cases r2 with
    | error e=>exact F1
    | ok f2=>
     cases f2 with
     | ret r=>
      obtain⟨rfl,hq⟩:=F1
      repeat (any_goals (first | assumption | wp_step))
     | _=>exact F1.elim
  | _=>exact hr.elim
def k6o{a:Addr}{zs:List Str}{z:Str}{tk:Tok}{Q:Value->Shared->Prop}(S:bv prog w s.heap a zs) (h:Q (.bool<|decide (z∉zs)) {s with toks:=s.toks+1}):wpAny (model prog w) A (compareOp .NotIn (.str z tk)<|.ref a) Q E s:=by
 have hT:=S.typeIs;show wpAny _ _ (do return .bool (!(<- contains (.ref a)<|.str z tk))) Q E s;refine BJ ?_;unfold contains
 try with_reducible refine CJ ?_
 refine BJ<|RT hT PySem.F.slot_set_contains.lookup ?_;show wpAny _ _ (if(some (Value.builtin "set.__contains__") == some Value.none)=true then _ else _) _ E s;rw [BK<|by rw [beq_builtin_none];exact Av];refine BJ<|wpAny_callSpecialUnlessNone?_slot (name:=Str.ofString "__contains__") hT QS<|CV QS hT entry_set_contains ?_<|PySem.F.args_set_contains_2 _ _;unfold Builtin.«frozenset.__contains__» Builtin.Frozenset.oneOther;simp only [QX,bind_assoc];unfold Builtin.Frozenset.addrOf Builtin.Frozenset.withSetAsKey setContains;refine BJ<|BP ?_
 try dsimp only
 refine BJ<|BP ?_
 try dsimp only
 refine BJ<|wpAny_tryCatch<|CJ ?_;refine BJ<|(strKind prog w).pyHash (k:=z) (QL _ _ _ _) ?_;obtain⟨o,es,ep,t,ho,hx,hd,T⟩:=S;refine BJ<|XZ (s:={s with toks:=s.toks+1}) ho hd T (λhz=>?_) λj hj e=>?_
 ·refine BP ?_;show wpAny _ _ (ret<|Value.bool false) _ _ _;rw [BW hz] at h;exact BP ⟨_,rfl,FJ<|BP h⟩
 ·refine BP ?_;show wpAny _ _ (ret<|Value.bool true) _ _ _;have hz:z∈zs:=T.keys.mem_iff.mp (by rw [<- e];exact Aj.mpr ⟨_,Bs hj,rfl⟩);rw [BR<|not_not_intro hz] at h;exact BP ⟨_,rfl,FJ<|BP h⟩
end
section
variable{X:Cx}{σ:St}{H:Hp}{Q:VK}
def q4b{p pos:Pos}(hm:X.mg "set" = none)(h:∀ D,H D=none->Q (.ref D) (upd H D<|bC X.prog X.w D []))(hg:Gl X "set":=by rfl):Ev X (.Call (.Name "set" p) [] [] pos) σ H Q:=by
 refine⟨λpins s I=>Call_<|nI I hg hm PyProof.Rows.boot_set<|PyProof.Rows.callWith_type0<|Z' ?_⟩;exact⟨.ref s.heap.objs.size,_,I.laid (t':=s.toks) (λb o e=>Ae _ e) (Am _)<|yl<|N6<|Aq _ rfl,rfl,h _ I.fresh⟩
def k0j:cC X (compareOp .NotIn) (λx y H Q=>∃ z a zs,x = .str z/\y = .ref a/\H a=some (bC X.prog X.w a zs)/\Q (.bl<|decide (z∉zs)) H):=by
 intro pins s σ H x y v u Q I rx ry h;obtain⟨z,a,zs,rfl,rfl,hA,q⟩:=h;obtain⟨t,rfl⟩:=rx;cases (show u=Value.ref a from ry);exact k6o (I.set hA) ⟨.bl _,H,I.tok _,rfl,q⟩
def q2q{o e:Expr}{ap cp:Pos} (h:Ev X o σ H λx H1=>∃ a,x = .ref a/\(∃ zs,H1 a=some (bC X.prog X.w a zs))/\Ev X e σ H1 λy H2=>∃ z zs,y = .str z/\H2 a=some (bC X.prog X.w a zs)/\zs.length+1 < 1000/\Q .non (upd H2 a<|bC X.prog X.w a<|added zs z))
  (bJ:attributeBase o "add" X.env (eval o X.env)=eval o X.env:=by rfl)
  (c6:((backTo cp<|starEach [e] X.env).all (λx=>!x.1) && (backToKw cp<|keywordEach [] X.env).all (λx=>x.1.isSome) && decide ([e].length+([]:List Keyword).length+(if([]:List Keyword).isEmpty then 0 else 1) < 30))=true:=by rfl)
  (hline:(ap.endLine == cp.line)=true:=by rfl) (hs:starEach [e] X.env=(false,eval e X.env) :: starEach [] X.env:=by rfl) (cg:isStar e=false:=by rfl):Ev X (.Call (.Attribute o "add" ap) [e] [] cp) σ H Q:=by
 refine⟨λpins s I=>wpAny_Call_method_late bJ c6 hline rfl (aF (h.run pins s I) λv s1 ⟨x,H1,I1,r1,a,ex,⟨zs,hA⟩,h2⟩=>?_)⟩;subst ex;cases (show v=Value.ref a from r1);have S:=I1.set hA;refine⟨"set","set.add",PySem.F.plainAttrs_set,PySem.F.slot_set_add,PySem.F.type_set_add,S.typeIs,λb eb=>?_,?_⟩
 ·cases eb;obtain⟨o,_,_,_,ho,hx,_⟩:=S;exact⟨o,ho,hx.2.1⟩
 have hE:Ea X [e] σ H1 (λys H2=>∃ z zs,ys=[.str z]/\H2 a=some (bC X.prog X.w a zs)/\zs.length+1 < 1000/\Q .non (upd H2 a<|bC X.prog X.w a<|added zs z)):=aj (h2.mono λy H2 ⟨z,zs,ey,q⟩=>aA ⟨z,zs,by rw [ey],q⟩) cg;have Pu:=hE.run cp pins s1 I1;rw [hs] at Pu ⊢;refine JD rfl (MK ?_);refine aF Pu λus s2 ⟨vs,H2,I2,r2,z,ys,ev,Pw,hl,q⟩=>?_;subst ev;obtain⟨u,rfl,ru⟩:=vals1 r2;obtain⟨tk,rfl⟩:=ru;refine Pg (I2.set Pw) hl λh' sb S'=>⟨.non,_,l' (t':=s2.toks+1) I2 (by rw [Pw];exact True.intro) sb ?_<|yl S',rfl,q⟩;obtain⟨o,_,_,_,ho,_⟩:=S';exact⟨o,ho⟩
end
end L2
namespace Nt
open PySem L2
def dA(c:Int)(n:Net)(e:End):End:=(e.1,(((e.2:Int)+c) % ((row n e.1).length:Int)).toNat)
def vf{c:Int}{n:Net}{e:End}(h:e∈ends n):(((dA c n e).2:Nat):Int)=((e.2:Int)+c) % ((row n e.1).length:Int):=by
 obtain⟨z,hz⟩:=af.mp h;have:=ja hz;exact Int.toNat_of_nonneg<|Bz _<|by omega
def Px{c:Int}{n:Net}{e:End}(h:e∈ends n):dA c n e∈ends n:=by
 obtain⟨z,hz⟩:=af.mp h;have h1:=ja hz;have h2:=vf (c:=c) h;have h3:((e.2:Int)+c) % ((row n e.1).length:Int) < ((row n e.1).length:Int):=Cg _ (by omega);exact af.mpr<|yr (e:=dA c n e)<|by show(dA c n e).2 < (row n e.1).length;omega
def oj{c:Int}{n:Net}{e:End}(h:e∈ends n):dA (-c) n (dA c n e)=e:=by
 have h2:=vf (c:=c) h;have h3:=vf (c:=-c)<|Px (c:=c) h;obtain⟨z,hz⟩:=af.mp h;have h1:=ja hz;have hr:(dA c n e).1=e.1:=rfl;rw [hr,h2] at h3;have e1:(((e.2:Int)+c) % ((row n e.1).length:Int)+-c) % ((row n e.1).length:Int)=(e.2:Int):=by
  have:(((e.2:Int)+c) % ((row n e.1).length:Int)+-c) % ((row n e.1).length:Int)=((e.2:Int)+c+-c) % ((row n e.1).length:Int):=by
   rw [Int.add_emod,Int.emod_emod,<- Int.add_emod]
  rw [this,show(e.2:Int)+c+-c=(e.2:Int) by omega];exact Int.emod_eq_of_lt (by omega)<|by omega
 rw [e1] at h3;have h4:(dA (-c) n<|dA c n e).2=e.2:=by omega
 exact HS rfl h4
def Py{c:Int}{n:Net}{a b:End}(ha:a∈ends n)(hb:b∈ends n)(h:dA c n a=dA c n b):a=b:=by
 rw [<- oj (c:=c) ha,<- oj (c:=c) hb,h]
def yQ{n:Net}{e:End}(h:e∈ends n):left n e=dA 1 n e:=by
 have h2:=vf (c:=1) h;refine HS rfl ?_;show(e.2+1) % (row n e.1).length=(dA 1 n e).2;have:(((e.2+1) % (row n e.1).length:Nat):Int)=((e.2:Int)+1) % ((row n e.1).length:Int):=by simp
 omega
def go(c:Int)(n:Net)(e:End):End:=dA c n<|other n e
def gB{c:Int}{n:Net}(T:aw n){e:End}(h:e∈ends n):go c n e∈ends n:=Px<|dj T h
def go_inj{c:Int}{n:Net}(T:aw n){a b:End}(ha:a∈ends n)(hb:b∈ends n)(h:go c n a=go c n b):a=b:=OA T ha hb<|Py (dj T ha) (dj T hb) h
def q3n{n:Net}(T:aw n){e:End}(h:e∈ends n):step n e=go 1 n e:=yQ<|dj T h
def two(n:Net)(e:End):End:=go (-1) n<|go 1 n e
def mH{n:Net}(T:aw n){e:End}(h:e∈ends n):two n e∈ends n:=gB T<|gB T h
def vg{n:Net}(T:aw n){a b:End}(ha:a∈ends n)(hb:b∈ends n)(h:two n a=two n b):a=b:=go_inj T ha hb<|go_inj T (gB T ha) (gB T hb) h
def wk(n:Net)(e:End):Nat->List End
 | 0=>[]
 | k+1=>wk n e k++[it (two n) k e,go 1 n<|it (two n) k e]
theorem qf(n:Net)(e:End):∀ k,(wk n e k).length=2 * k
 | 0=>rfl
 | k+1=>by
  show(wk n e k++_).length=_;rw [Ad,qf n e k];show 2 * k+2=_;omega
theorem qg(n:Net)(e:End):∀(k i:Nat),i < k->(wk n e k)[2 * i]?=some (it (two n) i e)
 | 0,i,h=>absurd h<|Dv _
 | k+1,i,h=>by
  show(wk n e k++[it (two n) k e,go 1 n<|it (two n) k e])[2 * i]?=_;have l:=qf n e k
  by_cases hk:i < k
  ·rw [Ao<|by omega];exact qg n e k i hk
  ·have:i=k:=by omega
   subst this;rw [Ay (by omega),l,VF];rfl
theorem yR(n:Net)(e:End):∀(k i:Nat),i < k->(wk n e k)[2 * i+1]?=some (go 1 n<|it (two n) i e)
 | 0,i,h=>absurd h<|Dv _
 | k+1,i,h=>by
  show(wk n e k++[it (two n) k e,go 1 n<|it (two n) k e])[2 * i+1]?=_;have l:=qf n e k
  by_cases hk:i < k
  ·rw [Ao<|by omega];exact yR n e k i hk
  ·have:i=k:=by omega
   subst this;rw [Ay (by omega),l,show 2 * i+1 - 2 * i=1 by omega];rfl
def q0n(n:Net)(e:End)(k:Nat):aq (wk n e k)=(List.range k).map λi=>it (two n) i e:=by
 apply Do;intro i;rw [qe,Af]
 by_cases h:i < k
 ·rw [qg n e k i h,Ef h];rfl
 ·rw [Bc (by rw [qf];omega),Bc<|by rw [Du];omega];rfl
theorem F3{n:Net}(T:aw n){e:End}(h:e∈ends n):∀ k,∀ c∈wk n e k,c∈ends n
 | 0,c,hc=>by cases hc
 | k+1,c,hc=>by
  have hk:it (two n) k e∈ends n:=j4 (λa ha=>mH T ha) h k
  rcases An.mp hc with hc | hc
  ·exact F3 T h k c hc
  ·rcases Al.mp hc with rfl | hc
   ·exact hk
   ·rw [Ag.mp hc];exact gB T hk
structure jf(n:Net)(e:End)(k:Nat):Prop where
 pos:0 < k
 back:it (two n) k e=e
 first:∀ i,0 < i->i < k->it (two n) i e≠e
def jf.unique{n:Net}{e:End}{k l:Nat}(a:jf n e k)(b:jf n e l):k=l:=by
 rcases QK k l with h | h | h
 ·exact absurd a.back<|b.first k a.pos h
 ·exact h
 ·exact absurd b.back<|a.first l b.pos h
noncomputable def vh(n:Net)(e:End):Nat:=by classical exact if h:∃ k,jf n e k then h.choose else 0
def vi{n:Net}{e:End}{k:Nat}(h:jf n e k):vh n e=k:=by
 have hx:∃ k,jf n e k:=⟨k,h⟩;unfold vh;rw [dif_pos hx];exact hx.choose_spec.unique h
noncomputable def walker(n:Net)(e:End):List End:=wk n e<|vh n e
structure qh(n:Net)(ws:List End):Prop where
 ends:∀ c∈ws,c∈Nt.ends n
 ne0:0 < ws.length
 even:ws.length % 2=0
 few:ws.length<=2 * (Nt.ends n).length
 at':∀ k,k < ws.length->∃ c,ws[k]?=some c/\ws[(k+1) % ws.length]?=some (go (1 - 2 * ((k:Int) % 2)) n c)
def q69{n:Net}(T:aw n){e:End}(h:e∈Nt.ends n){k:Nat}(p:jf n e k)(hk:k<=(Nt.ends n).length):qh n (wk n e k):=by
 have l:=qf n e k;have p0:=p.pos;refine⟨F3 T h k,by omega,by omega,by omega,λj hj=>?_⟩;rw [l] at hj ⊢
 rcases Nat.mod_two_eq_zero_or_one j with h2 | h2
 ·obtain⟨i,rfl⟩:∃ i,j=2 * i:=⟨j / 2,by omega⟩;refine⟨_,qg n e k i (by omega),?_⟩;rw [Cd (by omega),yR n e k i<|by omega];have:(1:Int) - 2 * (((2 * i:Nat):Int) % 2)=1:=by omega
  rw [this]
 ·obtain⟨i,rfl⟩:∃ i,j=2 * i+1:=⟨j / 2,by omega⟩;refine⟨_,yR n e k i (by omega),?_⟩;have e1:(1:Int) - 2 * (((2 * i+1:Nat):Int) % 2)=-1:=by omega
  rw [e1];show _=some (two n<|it (two n) i e)
  by_cases hl:i+1 < k
  ·rw [Cd (by omega),show 2 * i+1+1=2 * (i+1) by omega];exact qg n e k (i+1) hl
  ·have:i+1=k:=by omega
   rw [show 2 * i+1+1=2 * k by omega,Dw];have e2:two n (it (two n) i e)=it (two n) k e:=by rw [<- this];rfl
   rw [e2,p.back];exact qg n e k 0<|by omega
def ay(n:Net)(e:End):Str:=(aG n e).getD ⟨#[]⟩
def dY{n:Net}{e:End}{z:Str}(h:aG n e=some z):ay n e=z:=by unfold ay;rw [h];rfl
noncomputable def dZ(n:Net):List End->List Str->List (List End)
 | [],_=>[]
 | e :: r,told=>if ay n e∈told then dZ n r told else walker n e :: dZ n r (told++(aq<|walker n e).map (ay n))
def sr{n:Net}(T:aw n){e:End}(h:e∈ends n):∃ k,jf n e k/\k<=(ends n).length:=by
 obtain⟨k,k0,k1,k2⟩:=EC (f:=two n) (S:=ends n) (λa ha=>mH T ha) (λa ha b hb=>vg T ha hb) h;have aux:∀ m,∀ k,k<=m->0 < k->it (two n) k e=e->∃ j,j<=k/\jf n e j:=by
  intro m
  induction m with
  | zero=>intro k h1 h2;omega
  | succ m ih=>
   intro k h1 h2 h3
   by_cases c:∃ i,0 < i/\i < k/\it (two n) i e=e
   ·obtain⟨i,i1,i2,i3⟩:=c;obtain⟨j,j1,j2⟩:=ih i (by omega) i1 i3;exact⟨j,by omega,j2⟩
   ·exact⟨k,Am _,h2,h3,λi i1 i2 i3=>c ⟨i,i1,i2,i3⟩⟩
 obtain⟨j,j1,j2⟩:=aux k k (Am _) k0 k2;exact⟨j,j2,by omega⟩
def k58{n:Net}(T:aw n){e:End}(h:e∈ends n):qh n (walker n e):=by
 obtain⟨k,p,hk⟩:=sr T h;unfold walker;rw [vi p];exact q69 T h p hk
theorem vj{n:Net}(T:aw n):∀(es:List End) (told:List Str),(∀ e∈es,e∈ends n)->∀ w∈dZ n es told,qh n w
 | [],_,_,w,hw=>by cases hw
 | e :: r,told,h,w,hw=>by
  unfold dZ at hw
  split at hw
  ·exact vj T r told (λa ha=>h a<|Ak _ ha) w hw
  ·rcases Al.mp hw with rfl | hw
   ·exact k58 T<|h e<|Ah ..
   ·exact vj T r _ (λa ha=>h a<|Ak _ ha) w hw
theorem su(n:Net):∀(es:List End) (told:List Str),(dZ n es told).length<=es.length
 | [],_=>Am _
 | e :: r,told=>by
  unfold dZ
  split
  ·have:=su n r told;show _<=r.length+1;omega
  ·have:=su n r<|told++(aq<|walker n e).map (ay n);show _+1<=r.length+1;omega
end Nt
namespace Nt
variable{α β:Type}
def gU(f:α->α):List α->α->α->Prop
 | [],a,b=>a=b
 | x :: l,a,b=>x=a/\gU f l (f x) b
theorem b7{f:α->α}:∀{l k:List α} {a b:α},gU f (l++k) a b↔∃ c,gU f l a c/\gU f k c b
 | [],k,a,b=>⟨λh=>⟨a,rfl,h⟩,λ⟨c,e,h⟩=>by cases e;exact h⟩
 | x :: l,k,a,b=>by
  show(x=a/\gU f (l++k) (f x) b)↔∃ c,(x=a/\gU f l (f x) c)/\gU f k c b;rw [b7];exact⟨λ⟨e,c,h1,h2⟩=>⟨c,⟨e,h1⟩,h2⟩,λ⟨c,⟨e,h1⟩,h2⟩=>⟨e,c,h1,h2⟩⟩
theorem F4{f:α->α}{f':β->β}{g:α->β}:∀{l:List α} {a b:α},(∀ x∈l,f' (g x)=g (f x))->gU f l a b->gU f' (l.map g) (g a) (g b)
 | [],_,_,_,h=>BZ g h
 | x :: l,a,b,hg,h=>⟨BZ g h.1,by rw [hg x Ah];exact F4 (λy hy=>hg y<|Ak _ hy) h.2⟩
theorem yS{f:α->α}:∀{l:List α} {x a b y:α},gU f (x :: l) a b->y∈x :: l->f y∈l\/f y=b
 | [],x,a,b,y,h,hy=>by
  rw [Ag] at hy;subst hy;exact .inr h.2
 | z :: l,x,a,b,y,h,hy=>by
  rcases Al.mp hy with rfl | hy
  ·exact .inl<|by rw [<- h.2.1];exact Ah
  ·rcases yS h.2 hy with q | q
   ·exact .inl<|Ak _ q
   ·exact .inr q
theorem F5{f:α->α}{l:List α}{a y:α}(h:gU f l a a)(ha:a∈l)(hy:y∈l):f y∈l:=by
 cases l with
 | nil=>cases hy
 | cons x l=>
  rcases yS h hy with q | q
  ·exact Ak _ q
  ·rw [q];exact ha
theorem yT{f:α->α}{f':β->β}{g:α->β}{c:α}{h:β}:∀{l:List α} {x:α},(∀ y∈x :: l,f y=c->f' (g y)=h)->(∀ y∈x :: l,f y≠c->f' (g y)=g (f y))->c∉l->gU f (x :: l) x c->gU f' ((x :: l).map g) (g x) h
 | [],x,h1,_,_,p=>⟨rfl,h1 x Ah p.2⟩
 | y :: l,x,h1,h2,hc,p=>by
  have e:y=f x:=p.2.1;have ne:f x≠c:=λq=>hc (by rw [<- q,<- e];exact Ah);refine⟨rfl,?_⟩;rw [h2 x Ah ne,<- e];refine yT (λz hz=>h1 z<|Ak _ hz) (λz hz=>h2 z<|Ak _ hz) (λq=>hc<|Ak _ q) ?_;exact⟨rfl,p.2.2⟩
structure Dec(f:α->α)(D:List α)(Ls:List<|List α):Prop where
 kj:∀ l∈Ls,∃ a,a∈l/\gU f l a a
 all:Ls.flatten.Perm D
 nd:D.Nodup
def Dec.sub{f:α->α}{D:List α}{Ls:List (List α)}(d:Dec f D Ls){l:List α}(hl:l∈Ls){x:α}(hx:x∈l):x∈D:=
 d.all.mem_iff.mp (Fd.mpr ⟨l,hl,hx⟩)
def Dec.pick{f:α->α}{D:List α}{Ls:List (List α)}(d:Dec f D Ls){c:α}(hc:c∈D):∃ l Ms,Ls.length=Ms.length+1/\Dec f D ((c :: l) :: Ms):=by
 obtain⟨l,hl,p9⟩:=Fd.mp<|d.all.mem_iff.mpr hc;obtain⟨A,B,rfl⟩:=Fo hl;obtain⟨p,q,rfl⟩:=Fo p9;obtain⟨a,ha,h⟩:=d.kj _ hl;obtain⟨m,h1,h2⟩:=b7.mp h;have e:c=m:=h2.1;subst e;refine⟨q++p,A++B,by simp [Nat.add_assoc],λk hk=>?_,?_,d.nd⟩
 ·rcases Al.mp hk with rfl | hk
  ·exact⟨c,Ah,b7 (l:=c :: q).mpr ⟨a,h2,h1⟩⟩
  ·refine d.kj k ?_
   rcases An.mp hk with q | q
   ·exact Az _ q
   ·exact Au _<|Ak _ q
 ·refine List.Perm.trans ?_ d.all;simp only [Cw,Fh,Fb];have e1:(c :: (q++p)).Perm (p++c :: q):=by
   rw [<- Fb];exact Ce
  refine((e1.append_right _).trans ?_);rw [<- As,<- As];exact(Ce).append_right _
def Dec.apart{f:α->α}{D:List α}{l:List α}{Ms:List (List α)}(d:Dec f D<|l :: Ms):l.Nodup/\∀ m∈Ms,∀ x∈l,x∉m:=by
 have h:=d.all.nodup_iff.mpr d.nd;rw [Cw,Cf] at h;exact⟨h.1,λm hm x hx hxm=>h.2.2 x hx x (Fd.mpr ⟨m,hm,hxm⟩) rfl⟩
theorem yU{g:α->β}:∀(Ls:List<|List α),(Ls.map<|List.map g).flatten=Ls.flatten.map g
 | []=>rfl
 | l :: Ls=>by rw [Bh,Cw,yU Ls,Cw,Ai]
def Dec.rest{f:α->α}{f':β->β}{g:α->β}{D:List α}{l:List α}{Ms:List (List α)}(d:Dec f D<|l :: Ms)(ho:∀ x∈D,f x∉l->f' (g x)=g (f x)):∀ m∈Ms.map (List.map g),∃ a,a∈m/\gU f' m a a:=by
 intro m hm;obtain⟨k,hk,rfl⟩:=Aj.mp hm;obtain⟨a,ha,p⟩:=d.kj k<|Ak _ hk;refine⟨g a,Aj.mpr ⟨a,ha,rfl⟩,F4 (λx hx=>ho x (d.sub (Ak _ hk) hx) λq=>?_) p⟩;exact d.apart.2 k hk _ q<|F5 p ha hx
def Dec.grow{f:α->α}{f':β->β}{g:α->β}{D:List α}{c:α}{l:List α}{Ms:List (List α)}(d:Dec f D<|(c :: l) :: Ms){new:List β}{h:β}(hn:gU f' new h<|g c)(hh:∀ x∈D,f x=c->f' (g x)=h)(ho:∀ x∈D,f x≠c->f' (g x)=g (f x))(nd:(D.map g++new).Nodup) :
  Dec f' (D.map g++new) (((c :: l).map g++new) :: Ms.map (List.map g)):=by
 have ap:=d.apart;have p9:c∉l:=(Bi.mp ap.1).1;refine⟨λk hk=>?_,?_,nd⟩
 ·rcases Al.mp hk with rfl | hk
  ·obtain⟨a,ha,p⟩:=d.kj _ Ah;have e:c=a:=p.1;subst e;exact⟨g c,Az _ Ah,b7.mpr ⟨h,yT (λy hy=>hh y<|d.sub Ah hy) (λy hy=>ho y<|d.sub Ah hy) p9 p,hn⟩⟩
  ·exact d.rest (λx hx q=>ho x hx λe=>q<|by rw [e];exact Ah) k hk
 ·rw [Cw,yU];have:=d.all.map g;rw [Cw,Ai] at this;refine List.Perm.trans ?_<|this.append_right new;rw [As,As];exact(Ce).append_left _
def Dec.split{f:α->α}{f':β->β}{g:α->β}{D:List α}{c d0:α}{l:List α}{Ms:List (List α)}(d:Dec f D<|(c :: l) :: Ms)(hd:d0∈l){e1 e2:β}(h1:f' e1=g d0)(h2:f' e2=g c)(hc:∀ x∈D,f x=c->f' (g x)=e1)(hc2:∀ x∈D,f x=d0->f' (g x)=e2)(ho:∀ x∈D,f x≠c->f x≠d0->f' (g x)=g (f x))(nd:(D.map g++[e1,e2]).Nodup) :
  ∃ Ls,Ls.length=Ms.length+2/\Dec f' (D.map g++[e1,e2]) Ls/\∃ l∈Ls,e2∈l/\e1∉l:=by
 have ap:=d.apart;obtain⟨p,q,rfl⟩:=Fo hd;have F6:=Bi.mp ap.1;have Pz:=Cf.mp F6.2;have ap3:=Bi.mp Pz.2.1;have hdp:d0∉p:=λx=>Pz.2.2 d0 x d0 Ah rfl;have hcp:c∉p:=λx=>F6.1<|Az _ x;have hcq:c∉q:=λx=>F6.1<|Au _<|Ak _ x;obtain⟨a,ha,pp⟩:=d.kj _ Ah;have e:c=a:=pp.1;subst e;obtain⟨m,p1,p2⟩:=(b7 (l:=c :: p)).mp pp;have e:d0=m:=p2.1;subst e;have inD:∀ y∈c :: p,y∈D:=λy hy=>d.sub Ah (by
  rcases Al.mp hy with rfl | hy
  ·exact Ah
  ·exact Ak _<|Az _ hy)
 have vk:∀ y∈d0 :: q,y∈D:=λy hy=>d.sub Ah<|Ak _<|Au _ hy;have F7:=Cf.mp nd;have e12:e1≠e2:=λe=>by
  have:=F7.2.1;rw [e] at this;simp at this
 refine⟨((c :: p).map g++[e2]) :: ((d0 :: q).map g++[e1]) :: Ms.map (List.map g),by simp,⟨λk hk=>?_,?_,nd⟩,_,Ah,Au _<|Ag.mpr rfl,λh=>?_⟩
 ·rcases Al.mp hk with rfl | hk
  ·refine⟨g c,Az _ Ah,b7.mpr ⟨e2,yT (λy hy=>hc2 y<|inD y hy) (λy hy ne=>ho y (inD y hy) (λec=>?_) ne) hdp p1,rfl,h2⟩⟩
   rcases yS p1 hy with z | z
   ·exact hcp<|by rw [<- ec];exact z
   ·exact ne z
  ·rcases Al.mp hk with rfl | hk
   ·refine⟨g d0,Az _ Ah,b7.mpr ⟨e1,yT (λy hy=>hc y<|vk y hy) (λy hy ne=>ho y (vk y hy) ne λec=>?_) hcq p2,rfl,h1⟩⟩
    rcases yS p2 hy with z | z
    ·exact ap3.1<|by rw [<- ec];exact z
    ·exact ne z
   ·exact d.rest (λx hx q=>ho x hx (λe=>q<|by rw [e];exact Ah) λe=>q<|by rw [e];exact Ak _<|Au _ Ah) k hk
 ·simp only [Cw,yU];have:=d.all.map g;rw [Cw,Ai,<- Fb,Ai] at this;refine List.Perm.trans ?_<|this.append_right [e1,e2];generalize (c :: p).map g=A;generalize (d0 :: q).map g=B;generalize Ms.flatten.map g=C
  letI:DecidableEq β:=λa b=>Classical.propDecidable<|a=b
  rw [List.perm_iff_count];intro z;simp only [Er,Dh,List.count_nil];omega
 ·rcases An.mp h with h | h
  ·obtain⟨y,hy,e⟩:=Aj.mp h;exact F7.2.2 e1 (Aj.mpr ⟨y,inD y hy,e⟩) e1 Ah rfl
  ·exact e12<|Ag.mp h
def Dec.more{f:β->β}{D:List β}{Ls:List (List β)}(d:Dec f D Ls){b:β}(hb:f b=b)(nd:(D++[b]).Nodup):Dec f (D++[b]) (Ls++[[b]]):=by
 refine⟨λl hl=>?_,?_,nd⟩
 ·rcases An.mp hl with h | h
  ·exact d.kj l h
  ·rw [Ag] at h;subst h;exact⟨b,Ah,rfl,hb⟩
 ·rw [Fh];exact d.all.append_right _
def Dec.carry{f:α->α}{f':β->β}{g:α->β}{D:List α}{D':List β}{Ls:List (List α)}(d:Dec f D Ls)(ho:∀ x∈D,f' (g x)=g (f x))(hD:(D.map g).Perm D')(nd:D'.Nodup):Dec f' D' (Ls.map<|List.map g):=by
 refine⟨λm hm=>?_,?_,nd⟩
 ·obtain⟨k,hk,rfl⟩:=Aj.mp hm;obtain⟨a,ha,p⟩:=d.kj k hk;exact⟨g a,Aj.mpr ⟨a,ha,rfl⟩,F4 (λx hx=>ho x<|d.sub hk hx) p⟩
 ·rw [yU];exact(d.all.map g).trans hD
open PySem
theorem vp{α:Type} [DecidableEq α]:∀{a b:List α},a.Nodup->(∀ z∈a,z∈b)->b.length<=a.length->a.Perm b
 | [],b,_,_,hl=>by
  have:b=[]:=Bj.mp<|Nat.le_zero.mp hl;rw [this]
 | x :: a,b,nd,sub,hl=>by
  have PD:=Bi.mp nd;have hx:=sub x Ah;have pb:=List.perm_cons_erase hx;refine List.Perm.trans ((vp PD.2 (λz hz=>?_) ?_).cons x) pb.symm
  ·exact(Ey λe=>PD.1<|by rw [<- e];exact hz).mpr<|sub z<|Ak _ hz
  ·have:=pb.length_eq;rw [Ax] at this hl;omega
def km{n:Net}(T:aw n){a b:End}{z:Str}(ha:aG n a=some z)(hb:aG n b=some z)(ne:a≠b):other n a=b:=by
 obtain⟨h1,_,h3⟩:=c8 T ha;obtain⟨p,q,e,_,_⟩:=pR T ha;have m1:=aH.mpr ha;have m2:=aH.mpr hb;have m3:=aH.mpr h1;rw [e] at m1 m2 m3;simp only [Al,By,FN] at m1 m2 m3
 rcases m1 with rfl | rfl <;> rcases m2 with rfl | rfl <;> rcases m3 with m3 | m3 <;> first | exact m3 | exact absurd rfl ne | exact absurd m3 h3
def sh(c e:End):End:=if e.1=c.1/\c.2<=e.2 then(e.1,e.2+1) else e
def mI(c e:End):(sh c e).1=e.1:=by unfold sh;split <;> rfl
def om{c a b:End}(h:sh c a=sh c b):a=b:=by
 have h1:a.1=b.1:=by rw [<- mI c a,h,mI]
 have h2:=BZ Prod.snd h;unfold sh at h2;refine HS h1 ?_
 by_cases x:a.1=c.1/\c.2<=a.2
 ·rw [BL x] at h2
  by_cases y:b.1=c.1/\c.2<=b.2
  ·rw [BL y] at h2;exact Nat.succ.inj h2
  ·rw [BK y] at h2;have h2:a.2+1=b.2:=h2;exact absurd ⟨h1 ▸ x.1,by omega⟩ y
 ·rw [BK x] at h2
  by_cases y:b.1=c.1/\c.2<=b.2
  ·rw [BL y] at h2;have h2:a.2=b.2+1:=h2;exact absurd ⟨h1 ▸ y.1,by omega⟩ x
  ·rw [BK y] at h2;exact h2
def oq(c e:End):sh c e≠c:=by
 intro h;have h1:e.1=c.1:=by rw [<- mI c e,h]
 have h2:=BZ Prod.snd h;unfold sh at h2
 by_cases x:e.1=c.1/\c.2<=e.2
 ·rw [BL x] at h2;have h2:e.2+1=c.2:=h2;omega
 ·rw [BK x] at h2;exact x ⟨h1,by omega⟩
section
variable{n:Net}{c:End}{z:Str}
def sv(hc:c.1 < n.length)(hp:c.2<=(row n c.1).length)(i:Nat):(row (ins n c z) i).length=if c.1=i then(row n i).length+1 else(row n i).length:=by
 rw [rW n c z i hc]
 by_cases h:c.1=i
 ·subst h;rw [BL rfl,BL rfl,Ad,Ax,Bd,Db];omega
 ·rw [BK h,BK h]
def F8(hc:c.1 < n.length)(hp:c.2<=(row n c.1).length):aG (ins n c z) c=some z:=by
 unfold aG;rw [rW n c z c.1 hc,BL rfl,Ay (by rw [Bd];omega),Bd,show c.2 - min c.2 (row n c.1).length=0 by omega];rfl
def sw(hc:c.1 < n.length)(hp:c.2<=(row n c.1).length)(e:End):aG (ins n c z) (sh c e)=aG n e:=by
 unfold aG;rw [mI,rW n c z e.1 hc];unfold sh
 by_cases h:c.1=e.1
 ·rw [BL h]
  by_cases k:c.2<=e.2
  ·rw [BL ⟨h.symm,k⟩,Ay (by rw [Bd];show _<=e.2+1;omega),Bd];show(z :: (row n e.1).drop c.2)[e.2+1 - min c.2 (row n e.1).length]?=_;rw [<- h,show e.2+1 - min c.2 (row n c.1).length=(e.2 - c.2)+1 by omega,RK,PX,show c.2+(e.2 - c.2)=e.2 by omega]
  ·rw [BK λq=>k q.2,Ao (by rw [Bd,<- h];omega),Ds<|by omega]
 ·rw [BK h,BK λq=>h q.1.symm]
def ou(hc:c.1 < n.length)(hp:c.2 < (row n c.1).length):left (ins n c z) c=sh c c:=by
 unfold left sh;rw [sv hc<|Bw hp,BL rfl,BL ⟨rfl,Am _⟩,Cd<|by omega]
def iP(hc:c.1 < n.length)(hp:c.2 < (row n c.1).length){e:End}(he:e.2 < (row n e.1).length):left (ins n c z) (sh c e)=if left n e=c then c else sh c (left n e):=by
 by_cases h:c.1=e.1
 ·have e1:(left n e).1=e.1:=rfl;have e2:(left n e).2=(e.2+1) % (row n e.1).length:=rfl;have q:(left n e=c)↔(e.2+1) % (row n e.1).length=c.2:=⟨λx=>by rw [<- e2,x],λx=>HS h.symm x⟩;have L:(left (ins n c z) (sh c e))=(e.1,((sh c e).2+1) % ((row n e.1).length+1)):=by
   unfold left;rw [mI,sv hc<|Bw hp,BL h]
  rw [L];rw [h] at hp;have S:(sh c e).2=if c.2<=e.2 then e.2+1 else e.2:=by
   unfold sh
   by_cases k:c.2<=e.2
   ·rw [BL ⟨h.symm,k⟩,BL k]
   ·rw [BK λq=>k q.2,BK k]
  have S2:sh c (left n e)=(e.1,if c.2<=(e.2+1) % (row n e.1).length then(e.2+1) % (row n e.1).length+1 else(e.2+1) % (row n e.1).length):=by
   unfold sh
   by_cases k:c.2<=(e.2+1) % (row n e.1).length
   ·rw [BL ⟨h.symm,k⟩,BL k];rfl
   ·rw [BK λq=>k q.2,BK k];rfl
  rw [S,S2];generalize (row n e.1).length=m at *
  by_cases k:e.2+1 < m
  ·rw [Cd k] at q ⊢
   by_cases j:e.2+1=c.2
   ·rw [BL<|q.mpr j,BK (by omega),Cd<|by omega];exact HS h.symm j
   ·rw [BK λx=>j<|q.mp x]
    by_cases i:c.2<=e.2
    ·rw [BL i,BL (by omega),Cd<|by omega]
    ·rw [BK i,BK (by omega),Cd<|by omega]
  ·have em:e.2+1=m:=by omega
   rw [em,Dw] at q ⊢;rw [BL (by omega),Dw]
   by_cases j:0=c.2
   ·rw [BL<|q.mpr j];exact HS h.symm j
   ·rw [BK λx=>j<|q.mp x,BK<|by omega]
 ·have ne:left n e≠c:=λx=>h (by rw [<- x];rfl);rw [BK ne];have s1:sh c e=e:=by unfold sh;rw [BK λq=>h q.1.symm]
  have s2:sh c (left n e)=left n e:=by unfold sh;rw [BK λq=>h q.1.symm]
  rw [s1,s2];unfold left;rw [sv hc<|Bw hp,BK h]
end
def Pl(n:Net):Prop:=(ag n=[]/\n.length=1)\/∃ Ls,Dec (step n) (ends n) Ls/\2 * (n.length+Ls.length)=(ag n).length+4
structure eJ(n m:Net)(g:End->End)(e1 e2:End)(z:Str):Prop where
 de:∀ e∈ends n,aG m (g e)=aG n e
 t1:aG m e1=some z
 t2:aG m e2=some z
 inj:∀ a b,g a=g b->a=b
 n1:∀ a∈ends n,g a≠e1
 n2:∀ a∈ends n,g a≠e2
 ne:e1≠e2
 len:(ag m).length=(ag n).length+2
section
variable{n m:Net}{g:End->End}{e1 e2:End}{z:Str}
def eJ.nd(p:eJ n m g e1 e2 z):((ends n).map g++[e1,e2]).Nodup:=by
 rw [Cf];refine⟨?_,?_,?_⟩
 ·exact(Cy.mpr<|(rQ n).imp λ{a b} h e=>h<|p.inj a b e)
 ·simp [p.ne]
 ·rintro a ha b hb rfl;obtain⟨x,hx,rfl⟩:=Aj.mp ha;simp only [Al,By,FN] at hb
  rcases hb with h | h
  ·exact p.n1 x hx h
  ·exact p.n2 x hx h
def eJ.perm(p:eJ n m g e1 e2 z):((ends n).map g++[e1,e2]).Perm (ends m):=by
 refine vp p.nd (λa ha=>?_)<|by rw [iM,p.len,Ad,Aa,iM];exact Am _
 rcases An.mp ha with h | h
 ·obtain⟨x,hx,rfl⟩:=Aj.mp h;obtain⟨y,hy⟩:=af.mp hx;exact af.mpr ⟨y,by rw [p.de x hx];exact hy⟩
 ·simp only [Al,By,FN] at h
  rcases h with rfl | rfl
  ·exact af.mpr ⟨z,p.t1⟩
  ·exact af.mpr ⟨z,p.t2⟩
def eJ.g8(p:eJ n m g e1 e2 z)(T:aw n)(T':aw m){e:End}(he:e∈ends n):other m (g e)=g (other n e):=by
 obtain⟨y,hy⟩:=af.mp he;obtain⟨h1,_,h3⟩:=c8 T hy;exact km T' (by rw [p.de e he];exact hy) (by rw [p.de _<|af.mpr ⟨y,h1⟩];exact h1) λh=>h3 (p.inj _ _ h).symm
def eJ.o1(p:eJ n m g e1 e2 z)(T':aw m):other m e1=e2:=km T' p.t1 p.t2 p.ne
def eJ.o2(p:eJ n m g e1 e2 z)(T':aw m):other m e2=e1:=km T' p.t2 p.t1 p.ne.symm
def Dec.perm{α:Type}{f:α->α}{D D':List α}{Ls:List (List α)}(d:Dec f D Ls)(h:D.Perm D'):Dec f D' Ls:=⟨d.kj,d.all.trans h,h.nodup_iff.mp d.nd⟩
def PF{α:Type}{f:α->α}{l:List α}(h:∀ x∈l,f x∈l){a:α}(ha:a∈l):∀ k,it f k a∈l:=λk=>j4 h ha k
def Dec.one{α:Type}{f:α->α}{D:List α}{a b:α}{l:List α}{Ms:List (List α)}(d:Dec f D<|(a :: l) :: Ms)(hb:b∈D)(h:(∃ k,it f k a=b)\/∃ k,it f k b=a)(ne:b≠a):b∈l:=by
 have cl:∀ k∈(a :: l) :: Ms,∀ x∈k,f x∈k:=λk hk x hx=>by
  obtain⟨c,hc,p⟩:=d.kj k hk;exact F5 p hc hx
 have hm:b∈a :: l:=by
  rcases h with ⟨k,rfl⟩ | ⟨k,e⟩
  ·exact PF (cl _ Ah) Ah k
  ·obtain⟨j,hj,PH⟩:=Fd.mp<|d.all.mem_iff.mpr hb
   rcases Al.mp hj with rfl | qi
   ·exact PH
   ·have:=PF (cl j hj) PH k;rw [e] at this;exact absurd this<|d.apart.2 j qi a Ah
 rcases Al.mp hm with h | h
 ·exact absurd h ne
 ·exact h
def q1c(p:eJ n m g e1 e2 z)(T:aw n)(T':aw m)(hl:m.length=n.length){k1 k2:End}(h1:k1∈ends n)(h2:k2∈ends n)(ne:k2≠k1)(same:(∃ k,it (step n) k k1=k2)\/∃ k,it (step n) k k2=k1)
  (l1:left m e1=g k1) (l2:left m e2=g k2) (lf:∀ e∈ends n,left m (g e)=if left n e=k1 then e1 else if left n e=k2 then e2 else g (left n e)) (P:Pl n):Pl m:=by
 have st:∀ x∈ends n,step m (g x)=if step n x=k1 then e1 else if step n x=k2 then e2 else g (step n x):=λx hx=>by
  unfold step;rw [p.g8 T T' hx];exact lf _<|dj T hx
 rcases P with ⟨e,_⟩ | ⟨Ls,d,eu⟩
 ·obtain⟨y,hy⟩:=af.mp h1;have:=eI hy;rw [e] at this;cases this
 ·obtain⟨l,Ms,hL,d⟩:=d.pick h1;have hk:=d.one h2 same ne;obtain⟨PQ,hL',d',_⟩:=d.split (f':=step m) (g:=g) hk (e1:=e1) (e2:=e2) (by unfold step;rw [p.o1 T'];exact l2) (by unfold step;rw [p.o2 T'];exact l1)
   (λx hx e=>by rw [st x hx,BL e]) (λx hx e=>by rw [st x hx,BK (by rw [e];exact ne),BL e]) (λx hx a b=>by rw [st x hx,BK a,BK b]) p.nd
  refine .inr ⟨PQ,d'.perm p.perm,?_⟩;have:=p.len;omega
def q4c(p:eJ n m g e1 e2 z)(T:aw n)(T':aw m)(hl:m.length=n.length){c:End}(h1:c∈ends n)
  (l1:left m e1=g c) (l2:left m e2=e1) (lf:∀ e∈ends n,left m (g e)=if left n e=c then e2 else g (left n e)) (P:Pl n):Pl m:=by
 have st:∀ x∈ends n,step m (g x)=if step n x=c then e2 else g (step n x):=λx hx=>by
  unfold step;rw [p.g8 T T' hx];exact lf _<|dj T hx
 rcases P with ⟨e,_⟩ | ⟨Ls,d,eu⟩
 ·obtain⟨y,hy⟩:=af.mp h1;have:=eI hy;rw [e] at this;cases this
 ·obtain⟨l,Ms,hL,d⟩:=d.pick h1;have nd:=p.nd;have vq:((ends n).map g++[e2]++[e1]).Nodup:=by
   rw [As];exact((List.Perm.swap e1 e2 []).append_left _).nodup_iff.mpr nd
  have d1:=d.grow (f':=step m) (g:=g) (new:=[e2]) (h:=e2) ⟨rfl,by unfold step;rw [p.o2 T'];exact l1⟩ (λx hx e=>by rw [st x hx,BL e]) (λx hx e=>by rw [st x hx,BK e]) (Cf.mp vq).1;have d2:=d1.more (b:=e1) (by unfold step;rw [p.o1 T'];exact l2) vq;have pm:((ends n).map g++[e2]++[e1]).Perm (ends m):=by
   refine List.Perm.trans ?_ p.perm;rw [As];exact(List.Perm.swap e1 e2 []).append_left _
  refine .inr ⟨_,d2.perm pm,?_⟩;have:=p.len;simp only [Ad,Ax,Aa,Em];omega
def k8r(p:eJ n m g e1 e2 z)(T:aw n)(T':aw m)(hl:m.length=n.length+1){c:End}(h1:c∈ends n)
  (l1:left m e1=g c) (l2:left m e2=e2) (lf:∀ e∈ends n,left m (g e)=if left n e=c then e1 else g (left n e)) (P:Pl n):Pl m:=by
 have st:∀ x∈ends n,step m (g x)=if step n x=c then e1 else g (step n x):=λx hx=>by
  unfold step;rw [p.g8 T T' hx];exact lf _<|dj T hx
 rcases P with ⟨e,_⟩ | ⟨Ls,d,eu⟩
 ·obtain⟨y,hy⟩:=af.mp h1;have:=eI hy;rw [e] at this;cases this
 ·obtain⟨l,Ms,hL,d⟩:=d.pick h1;have s1:step m e1=e2:=by unfold step;rw [p.o1 T'];exact l2
  have s2:step m e2=g c:=by unfold step;rw [p.o2 T'];exact l1
  have d1:=d.grow (f':=step m) (g:=g) (new:=[e1,e2]) (h:=e1) ⟨rfl,by rw [s1];exact⟨rfl,s2⟩⟩ (λx hx e=>by rw [st x hx,BL e]) (λx hx e=>by rw [st x hx,BK e]) p.nd;refine .inr ⟨_,d1.perm p.perm,?_⟩;have:=p.len;simp only [Ax,Aa];omega
end
def fe{n:Net}{e:End}(h:e∈ends n):e.1 < n.length/\e.2 < (row n e.1).length:=by
 obtain⟨z,hz⟩:=af.mp h;exact⟨dz hz,ja hz⟩
section
variable{n:Net}{z:Str}
def PR{k1 k2:End}(h1:k1.1 < n.length/\k1.2<=(row n k1.1).length)(h2:k2.1 < n.length/\k2.2<=(row n k2.1).length):eJ n (ins (ins n k1 z) k2 z) (λe=>sh k2<|sh k1 e) (sh k2 k1) k2 z:=by
 have c2:k2.1 < (ins n k1 z).length:=by rw [gR];exact h2.1
 have p2:k2.2<=(row (ins n k1 z) k2.1).length:=by
  rw [sv h1.1 h1.2]
  split
  ·have:=h2.2;omega
  ·exact h2.2
 refine⟨λe _=>?_,?_,F8 c2 p2,λa b h=>om<|om h,λa _ h=>oq k1 a<|om h,λa _=>oq k2 _,oq k2 k1,?_⟩
 ·show aG _ (sh k2<|sh k1 e)=_;rw [sw c2 p2,sw h1.1 h1.2]
 ·rw [sw c2 p2];exact F8 h1.1 h1.2
 ·rw [(lG _ k2 z c2).length_eq,Ax,(lG _ k1 z h1.1).length_eq,Ax]
def q5j{k1 k2:End}(T:aw n)(T':aw<|ins (ins n k1 z) k2 z)(h1:k1∈ends n)(h2:k2∈ends n)(ord:k2=k1\/sh k1 k2=k2)(same:(∃ k,it (step n) k k1=k2)\/∃ k,it (step n) k k2=k1)(P:Pl n):Pl (ins (ins n k1 z) k2 z):=by
 have r1:=fe h1;have r2:=fe h2;have p:=PR (z:=z) (k1:=k1) (k2:=k2) ⟨r1.1,Bw r1.2⟩ ⟨r2.1,Bw r2.2⟩;have c2:k2.1 < (ins n k1 z).length:=by rw [gR];exact r2.1
 have rl:∀ i,(row n i).length<=(row (ins n k1 z) i).length:=λi=>by
  rw [sv r1.1<|Bw r1.2]
  split <;> omega
 have p2:k2.2 < (row (ins n k1 z) k2.1).length:=Bb r2.2<|rl _;have p1:k1.2 < (row (ins n k1 z) k1.1).length:=Bb r1.2<|rl _;have hl:(ins (ins n k1 z) k2 z).length=n.length:=by rw [gR,gR]
 have sl:∀ e∈ends n,(sh k1 e).2 < (row (ins n k1 z) (sh k1 e).1).length:=λe he=>by
  obtain⟨y,hy⟩:=af.mp he;exact ja (z:=y)<|by rw [sw r1.1<|Bw r1.2];exact hy
 have l0:left (ins n k1 z) k1=sh k1 k1:=ou r1.1 r1.2
 by_cases e:k2=k1
 ·subst e;refine q4c p T T' hl h1 ?_ (ou c2 p2) (λe he=>?_) P
  ·rw [iP c2 p2 p1,l0,BK<|oq _ _]
  ·show left _ (sh k2<|sh k2 e)=_;rw [iP c2 p2<|sl e he,iP r1.1 r1.2 (fe he).2]
   by_cases q:left n e=k2
   ·rw [BL q,BL rfl,BL q]
   ·rw [BK q,BK<|oq _ _,BK q]
 ·have hs:sh k1 k2=k2:=ord.resolve_left e;refine q1c p T T' hl h1 h2 e same ?_ ?_ (λe' he=>?_) P
  ·rw [iP c2 p2 p1,l0,BK λq=>e<|om (c:=k1)<|by rw [hs,q]]
  ·show left _ k2=sh k2 (sh k1 k2);rw [hs];exact ou c2 p2
  ·show left _ (sh k2<|sh k1 e')=if left n e'=k1 then sh k2 k1 else if left n e'=k2 then k2 else sh k2 (sh k1<|left n e');rw [iP c2 p2<|sl e' he,iP r1.1 r1.2 (fe he).2]
   by_cases q:left n e'=k1
   ·rw [BL q,BL q,BK λx=>e x.symm]
   ·rw [BK q,BK q]
    by_cases q2:left n e'=k2
    ·rw [BL q2,q2,hs,BL rfl]
    ·rw [BK q2,BK λx=>q2<|om (c:=k1)<|by rw [x,hs]]
def oz{a b:Net}{i:Nat}(h:i < a.length):row (a++b) i=row a i:=by
 unfold row;rw [Ao h]
def yV{a:Net}{x:Str×List Str}:row (a++[x]) a.length=x.2:=by
 unfold row;rw [Ay<|Am _];simp
def PU{c:End}{pt:Str}(h1:c.1 < n.length/\c.2<=(row n c.1).length):eJ n (ins n c z++[(pt,[z])]) (sh c) c (n.length,0) z:=by
 have la:∀ e:End,e.1 < n.length->aG (ins n c z++[(pt,[z])]) e=aG (ins n c z) e:=λe he=>by
  unfold aG;rw [oz<|by rw [gR];exact he]
 refine⟨λe he=>?_,?_,?_,λa b h=>om h,λa _=>oq c a,λa ha h=>?_,λh=>?_,?_⟩
 ·rw [la _ (by rw [mI];exact(fe he).1),sw h1.1 h1.2]
 ·rw [la _ h1.1,F8 h1.1 h1.2]
 ·unfold aG;have:=yV (a:=ins n c z) (x:=(pt,[z]));rw [gR] at this;show(row _ n.length)[0]?=_;rw [this];rfl
 ·have:=(fe ha).1;rw [<- mI c a,h] at this;exact absurd this<|Co _
 ·have:=h1.1;rw [h] at this;exact absurd this<|Co _
 ·unfold ag;rw [Cu,Ad];have:=(lG _ c z h1.1).length_eq;unfold ag at this;rw [this];rfl
def k91{c:End}{pt:Str}(T:aw n)(T':aw<|ins n c z++[(pt,[z])])(h1:c∈ends n)(P:Pl n):Pl (ins n c z++[(pt,[z])]):=by
 have r1:=fe h1;have p:=PU (z:=z) (c:=c) (pt:=pt) ⟨r1.1,Bw r1.2⟩;have la:∀ e:End,e.1 < n.length->left (ins n c z++[(pt,[z])]) e=left (ins n c z) e:=λe he=>by
  unfold left;rw [oz<|by rw [gR];exact he]
 refine k8r p T T' (by rw [Ad,gR];rfl) h1 ?_ ?_ (λe he=>?_) P
 ·rw [la _ r1.1];exact ou r1.1 r1.2
 ·unfold left;have:=yV (a:=ins n c z) (x:=(pt,[z]));rw [gR] at this;show(n.length,(0+1) % (row _ n.length).length)=_;rw [this];exact BZ (Prod.mk _)<|Dw 1
 ·rw [la _<|by rw [mI];exact(fe he).1];exact iP r1.1 r1.2 (fe he).2
end
def PV{m:Net}{z:Str}{e1 e2:End}(T':aw m)(hE:ends m=[e1,e2])(t1:aG m e1=some z)(t2:aG m e2=some z)(ne:e1≠e2)
  (h:(m.length=2/\left m e1=e1/\left m e2=e2)\/(m.length=1/\left m e1=e2/\left m e2=e1)):Pl m:=by
 have o1:=km T' t1 t2 ne;have o2:=km T' t2 t1 ne.symm;have hl:(ag m).length=2:=by rw [<- iM,hE];rfl
 have nd:[e1,e2].Nodup:=by simp [ne]
 rcases h with ⟨hm,l1,l2⟩ | ⟨hm,l1,l2⟩
 ·refine .inr ⟨[[e1,e2]],?_,by rw [hm,hl];rfl⟩;rw [hE];refine⟨λl hl=>?_,List.Perm.refl _,nd⟩;rw [Ag] at hl;subst hl;refine⟨e1,Ah,rfl,?_⟩;unfold step;rw [o1,l2];exact⟨rfl,by show left m (other m e2)=e1;rw [o2,l1]⟩
 ·refine .inr ⟨[[e1],[e2]],?_,by rw [hm,hl];rfl⟩;rw [hE];refine⟨λl hl=>?_,List.Perm.refl _,nd⟩;simp only [Al,By,FN] at hl
  rcases hl with rfl | rfl
  ·exact⟨e1,Ah,rfl,by show left m (other m e1)=e1;rw [o1,l2]⟩
  ·exact⟨e2,Ah,rfl,by show left m (other m e2)=e2;rw [o2,l1]⟩
def k78{nm pt z:Str}(T':aw [(nm,[z]),(pt,[z])]):Pl [(nm,[z]),(pt,[z])]:=
 PV (e1:=(0,0)) (e2:=(1,0)) (z:=z) T' rfl rfl rfl (by decide) (.inl ⟨rfl,by simp [left,row],by simp [left,row]⟩)
def q2z{nm z:Str}(T':aw [(nm,[z,z])]):Pl [(nm,[z,z])]:=
 PV (e1:=(0,0)) (e2:=(0,1)) (z:=z) T' rfl rfl rfl (by decide) (.inr ⟨rfl,by simp [left,row],by simp [left,row]⟩)
def q06{n m:Net}{g:End->End}(T:aw n)(T':aw m)(hl:m.length=n.length)(ht:(ag m).length=(ag n).length)(de:∀ e∈ends n,aG m (g e)=aG n e)(inj:∀ a∈ends n,∀ b∈ends n,g a=g b->a=b)
  (lf:∀ e∈ends n,left m (g e)=g (left n e)) (P:Pl n):Pl m:=by
 rcases P with ⟨e,h⟩ | ⟨Ls,d,eu⟩
 ·exact .inl ⟨Bj.mp (by rw [ht,e];rfl),by rw [hl,h]⟩
 ·have nd:((ends n).map g).Nodup:=by
   have:∀(l:List End),(∀ x∈l,x∈ends n)->l.Nodup->(l.map g).Nodup:=by
    intro l
    induction l with
    | nil=>intro _ _;exact Cj
    | cons x l ih=>
     intro hs h;have h:=Bi.mp h;rw [Bh];refine Bi.mpr ⟨λhx=>?_,ih (λy hy=>hs y<|Ak _ hy) h.2⟩;obtain⟨y,hy,e⟩:=Aj.mp hx;have:=inj y (hs y<|Ak _ hy) x (hs x Ah) e;exact h.1<|this ▸ hy
   exact this _ (λx hx=>hx)<|rQ n
  have pm:((ends n).map g).Perm (ends m):=by
   refine vp nd (λa ha=>?_) (by rw [Aa,iM,iM,ht];exact Am _);obtain⟨x,hx,rfl⟩:=Aj.mp ha;obtain⟨y,hy⟩:=af.mp hx;exact af.mpr ⟨y,by rw [de x hx];exact hy⟩
  refine .inr ⟨_,d.carry (f':=step m) (g:=g) (λx hx=>?_) pm<|rQ m,by rw [Aa,hl,ht];exact eu⟩;obtain⟨y,hy⟩:=af.mp hx;obtain⟨h1,_,h3⟩:=c8 T hy;have ho:other n x∈ends n:=af.mpr ⟨y,h1⟩;have:other m (g x)=g (other n x):=km T' (by rw [de x hx];exact hy) (by rw [de _ ho];exact h1) λh=>h3 (inj _ hx _ ho h).symm;unfold step;rw [this];exact lf _ ho
def oA(i len q:Nat):Nat:=if i<=q then q - i else q+len - i
def d3(N j i len:Nat)(e:End):End:=if e.1 < j then e else if e.1=j then(N - 1,oA i len e.2) else(e.1 - 1,e.2)
def PY{a:Net}{j:Nat}{x:Str×List Str}(hj:j < a.length)(r:Nat)(hr:r < a.length):row (a.eraseIdx j++[x]) (if r < j then r else if r=j then a.length - 1 else r - 1)=if r=j then x.2 else row a r:=by
 have le:(a.eraseIdx j).length=a.length - 1:=by rw [Dk,BL hj]
 by_cases h1:r < j
 ·rw [BL h1,BK (by omega),oz<|by rw [le];omega];unfold row;rw [Fu,BL h1]
 ·rw [BK h1]
  by_cases h2:r=j
  ·rw [BL h2,BL h2,<- le,yV]
  ·rw [BK h2,BK h2,oz<|by rw [le];omega];unfold row;rw [Fu,BK (by omega),show r - 1+1=r by omega]
def k95{i len q:Nat}(hi:i < len)(hq:q < len):(oA i len q+1) % len=oA i len ((q+1) % len):=by
 unfold oA
 by_cases k:q+1 < len
 ·rw [Cd k]
  by_cases h:i<=q
  ·rw [BL h,BL (by omega),Cd<|by omega];omega
  ·rw [BK h]
   by_cases h2:q+1=i
   ·rw [BL (by omega),show q+len - i+1=len by omega,Dw];omega
   ·rw [BK (by omega),Cd<|by omega];omega
 ·have e:q+1=len:=by omega
  rw [e,Dw,BL<|by omega]
  by_cases h:i=0
  ·rw [BL (by omega),show q - i+1=len by omega,Dw];omega
  ·rw [BK (by omega),Cd<|by omega];omega
def q51{l:List Str}{i q:Nat}(hi:i < l.length)(hq:q < l.length):(l.drop i++l.take i)[oA i l.length q]?=l[q]?:=by
 unfold oA
 by_cases h:i<=q
 ·rw [BL h,Ao (by rw [Db];omega),PX,show i+(q - i)=q by omega]
 ·rw [BK h,Ay (by rw [Db];omega),Db,Ds (by omega),show q+l.length - i - (l.length - i)=q by omega]
def PZ{a:Net}{j i:Nat}{x:Str}(hj:j < a.length)(hi:i < max 1 (row a j).length):∃ g:End->End,(∀ e∈ends a,aG (a.eraseIdx j++[(x,(row a j).drop i++(row a j).take i)]) (g e)=aG a e)/\(∀ b∈ends a,∀ c∈ends a,g b=g c->b=c) /\
  ∀ e∈ends a,left (a.eraseIdx j++[(x,(row a j).drop i++(row a j).take i)]) (g e)=g (left a e):=by
 have fst:∀ e:End,(d3 a.length j i (row a j).length e).1=if e.1 < j then e.1 else if e.1=j then a.length - 1 else e.1 - 1:=λe=>by
  unfold d3
  by_cases h:e.1 < j
  ·rw [BL h,BL h]
  ·rw [BK h,BK h]
   by_cases h2:e.1=j
   ·rw [BL h2,BL h2]
   ·rw [BK h2,BK h2]
 have snd:∀ e:End,(d3 a.length j i (row a j).length e).2=if e.1=j then oA i (row a j).length e.2 else e.2:=λe=>by
  unfold d3
  by_cases h:e.1 < j
  ·rw [BL h,BK<|by omega]
  ·rw [BK h]
   by_cases h2:e.1=j
   ·rw [BL h2,BL h2]
   ·rw [BK h2,BK h2]
 have P0:∀ e:End,e.1 < a.length->row (a.eraseIdx j++[(x,(row a j).drop i++(row a j).take i)]) (d3 a.length j i (row a j).length e).1=if e.1=j then(row a j).drop i++(row a j).take i else row a e.1:=λe he=>by
  rw [fst,PY hj e.1 he]
 refine⟨d3 a.length j i (row a j).length,λe he=>?_,λb hb c hc h=>?_,λe he=>?_⟩
 ·have r:=fe he;unfold aG;rw [P0 e r.1,snd]
  by_cases h:e.1=j
  ·rw [BL h,BL h,<- h,q51 (by have:=hi;rw [<- h] at this;omega) r.2]
  ·rw [BK h,BK h]
 ·have rb:=fe hb;have rc:=fe hc;have h1:=BZ Prod.fst h;have h2:=BZ Prod.snd h;rw [fst,fst] at h1;rw [snd,snd] at h2
  by_cases p:b.1=j
  ·by_cases q:c.1=j
   ·rw [BL p,BL q] at h2;refine HS (by rw [p,q]) ?_;have rb:=rb.2;have rc:=rc.2;rw [p] at rb;rw [q] at rc;unfold oA at h2
    by_cases u:i<=b.2
    ·rw [BL u] at h2
     by_cases v:i<=c.2
     ·rw [BL v] at h2;omega
     ·rw [BK v] at h2;omega
    ·rw [BK u] at h2
     by_cases v:i<=c.2
     ·rw [BL v] at h2;omega
     ·rw [BK v] at h2;omega
   ·exfalso
    rw [BK (by omega),BL p] at h1;have:=rc.1
    by_cases u:c.1 < j
    ·rw [BL u] at h1;omega
    ·rw [BK u,BK q] at h1;omega
  ·by_cases q:c.1=j
   ·exfalso
    have:=rb.1;rw [BK (show ¬ c.1 < j by omega),BL q] at h1
    by_cases u:b.1 < j
    ·rw [BL u] at h1;omega
    ·rw [BK u,BK p] at h1;omega
   ·rw [BK p,BK q] at h2;refine HS ?_ h2;rw [BK p,BK q] at h1
    by_cases u:b.1 < j
    ·rw [BL u] at h1
     by_cases v:c.1 < j
     ·rw [BL v] at h1;exact h1
     ·rw [BK v] at h1;omega
    ·rw [BK u] at h1
     by_cases v:c.1 < j
     ·rw [BL v] at h1;omega
     ·rw [BK v] at h1;omega
 ·have r:=fe he;have L1:(left a e).1=e.1:=rfl;have L2:(left a e).2=(e.2+1) % (row a e.1).length:=rfl;refine HS ?_ ?_
  ·show(d3 a.length j i (row a j).length e).1=(d3 a.length j i (row a j).length<|left a e).1;rw [fst,fst,L1]
  ·show((d3 a.length j i (row a j).length e).2+1) % (row _ (d3 a.length j i (row a j).length e).1).length=(d3 a.length j i (row a j).length<|left a e).2;rw [P0 e r.1,snd,snd,L1,L2]
   by_cases h:e.1=j
   ·rw [BL h,BL h,BL h,Ad,Db,Bd];have r2:=r.2;rw [h] at r2 ⊢;rw [show(row a j).length - i+min i (row a j).length=(row a j).length by omega];exact k95 (by omega) r2
   ·rw [BK h,BK h,BK h]
def q7j{a:Net}{j i:Nat}{x:Str}(hj:j < a.length)(hi:i < max 1 (row a j).length)(T:aw a) (T':aw<|a.eraseIdx j++[(x,(row a j).drop i++(row a j).take i)])
  (ht:(ag<|a.eraseIdx j++[(x,(row a j).drop i++(row a j).take i)]).length=(ag a).length) (P:Pl a):Pl (a.eraseIdx j++[(x,(row a j).drop i++(row a j).take i)]):=by
 obtain⟨g,h1,h2,h3⟩:=PZ (x:=x) hj hi;exact q06 (g:=g) T T' (by rw [Ad,Dk,BL hj,Cq];omega) ht h1 h2 h3 P
def yW{n m:Net}{z:Str}(hp:(ag m).Perm<|z :: z :: ag n)(T:aw n)(hz:z∉ag n):aw m:=by
 intro y hy;rw [hp.count_eq,Dh,Dh]
 by_cases e:z=y
 ·subst e;rw [List.count_eq_zero.mpr hz];simp
 ·have hy:=hp.mem_iff.mp hy
  rcases Al.mp hy with h | hy
  ·exact absurd h.symm e
  ·rcases Al.mp hy with h | hy
   ·exact absurd h.symm e
   ·rw [T y hy];have:(z == y)=false:=by simpa using e
    rw [this];rfl
def sy{nm:Str}{c:End}(h:eU [(nm,[])] c):c=(0,0):=by
 obtain⟨h1,h2⟩:=h;have h1:c.1 < 1:=h1;have e:c.1=0:=by omega
 have h2:c.2 < max 1 (row [(nm,[])] c.1).length:=h2;rw [e] at h2;have h2:c.2 < 1:=h2;exact HS e<|by show c.2=0;omega
def yX{n:Net}(F:Full n):(∃ nm,n=[(nm,[])])\/row n 0≠[]:=by
 rcases F with h | ⟨h1,h2⟩
 ·exact .inl h
 ·exact .inr<|h2 0<|De.mpr h1
def k5h{n:Net}{c:End}{z pt:Str}(T:aw n)(F:Full n)(hz:z∉ag n)(hc:eU n c) (hp:(ag<|ins n c z++[(pt,[z])]).Perm<|z :: z :: ag n) (P:Pl n):Pl (ins n c z++[(pt,[z])]):=by
 have T':=yW hp T hz
 rcases yX F with ⟨nm,rfl⟩ | h0
 ·have:=sy hc;subst this;exact k78 T'
 ·exact k91 T T' (F.cH h0 hc) P
def q3x{n:Net}{k1 k2:End}{z:Str}(T:aw n)(F:Full n)(hz:z∉ag n)(h1:eU n k1)(h2:eU n k2) (hp:(ag<|ins (ins n k1 z) k2 z).Perm<|z :: z :: ag n) (ord:k2=k1\/sh k1 k2=k2) (same:(∃ k,it (step n) k k1=k2)\/∃ k,it (step n) k k2=k1) (P:Pl n):Pl (ins (ins n k1 z) k2 z):=by
 have T':=yW hp T hz
 rcases yX F with ⟨nm,rfl⟩ | h0
 ·have:=sy h1;subst this;have:=sy h2;subst this;exact q2z T'
 ·exact q5j T T' (F.cH h0 h1) (F.cH h0 h2) ord same P
def k96{a b:End}(h:bB.lexLt ((a.1:Int),(a.2:Int)) ((b.1:Int),(b.2:Int))=true):sh b a=a:=by
 unfold bB.lexLt at h;unfold sh;refine BK λq=>?_;rw [BL<|by rw [q.1]] at h;have:=BX h;have q2:=q.2;omega
def k90{a b:End}(h:bB.lexLt ((a.1:Int),(a.2:Int)) ((b.1:Int),(b.2:Int))=false):b=a\/sh a b=b:=by
 unfold bB.lexLt at h
 by_cases e:(a.1:Int)=(b.1:Int)
 ·rw [BL e] at h;have h:=JB h
  by_cases e2:a.2=b.2
  ·exact .inl<|HS (by omega) e2.symm
  ·refine .inr<|BK λq=>?_;have q2:=q.2;have h:¬((a.2:Int) < (b.2:Int)):=h;omega
 ·exact .inr<|BK λq=>e<|by rw [q.1]
def P1(a b:Net):ag (a++b)=ag a++ag b:=by
 unfold ag;rw [Cu]
def q4q{n n2 n0:Net}{j i:Nat}{x:Str}(hj:j < n.length)(hi:i < max 1 (row n j).length)(T0:aw n0)(pt:(ag n++ag n2).Perm<|ag n0)
  (gC:(ag (n.eraseIdx j)++ag (n2++[(x,(row n j).drop i++(row n j).take i)])).Perm<|ag n0) (P:Pl<|n++n2):Pl (n.eraseIdx j++(n2++[(x,(row n j).drop i++(row n j).take i)])):=by
 have tw:∀ m:Net,(ag m).Perm (ag n0)->aw m:=λm p y hy=>by rw [p.count_eq];exact T0 y<|p.mem_iff.mp hy
 rw [<- P1] at pt gC;have er:row (n++n2) j=row n j:=oz hj;have ee:n.eraseIdx j++(n2++[(x,(row n j).drop i++(row n j).take i)])=(n++n2).eraseIdx j++[(x,(row (n++n2) j).drop i++(row (n++n2) j).take i)]:=by
  rw [KR hj,As,er]
 rw [ee] at gC ⊢;exact q7j (by rw [Ad];omega) (by rw [er];exact hi) (tw _ pt) (tw _ gC) (by rw [gC.length_eq,pt.length_eq]) P
end Nt
namespace Nt
def q5c{n:Net}{e c:End}{fs:List End}(f:fz n e fs)(h:c∈fs):∃ k,it (step n) k e=c:=by
 obtain⟨i,hi,e1⟩:=Cz.mp h;have:=f.at' i hi;rw [Ab hi,e1] at this;exact⟨i,(Option.some.inj this).symm⟩
open PySem
def aJ:List Bool->Bool
 | []=>false
 | b :: l=>b ^^ aJ l
theorem sD:∀(a b:List Bool),aJ (a++b)=(aJ a ^^ aJ b)
 | [],b=>by simp [aJ]
 | x :: a,b=>by
  show(x ^^ aJ (a++b))=((x ^^ aJ a) ^^ aJ b);rw [sD a b,Bool.xor_assoc]
theorem P2{a b:List Bool}(h:a.Perm b):aJ a=aJ b:=by
 induction h with
 | nil=>rfl
 | cons x _ ih=>show(x ^^ _)=(x ^^ _);rw [ih]
 | swap x y l=>show(y ^^ (x ^^ aJ l))=(x ^^ (y ^^ aJ l));cases x <;> cases y <;> simp
 | trans _ _ h1 h2=>exact h1.trans h2
theorem yY{α:Type}(f g:α->Bool):∀ l:List α,aJ (l.map λx=>f x ^^ g x)=(aJ (l.map f) ^^ aJ (l.map g))
 | []=>rfl
 | x :: l=>by
  show((f x ^^ g x) ^^ aJ (l.map λx=>f x ^^ g x))=((f x ^^ aJ (l.map f)) ^^ (g x ^^ aJ (l.map g)));rw [yY f g l];cases f x <;> cases g x <;> cases aJ (l.map f) <;> cases aJ (l.map g) <;> rfl
def fB(n:Net)(s:Str->Bool):Prop:=∀ r,aJ ((row n r).map s)=false
structure a9(n:Net)(s:Str->Bool)(χ:End->Bool):Prop where
 go:∀ e∈ends n,χ (step n e)=χ e
 de:∀ e z,aG n e=some z->s z=(χ e ^^ χ (other n e))
def RS(n:Net):Prop:=∀ s:Str->Bool,fB n s->∃ χ,a9 n s χ
def k8d(n:Net)(r:Nat)(s:Str->Bool)(g:End->Bool)(h:∀ p z,(row n r)[p]?=some z->s z=g (r,p)):(row n r).map s=(List.range (row n r).length).map λp=>g (r,p):=by
 apply Do;intro p;rw [Af,Af]
 by_cases hp:p < (row n r).length
 ·rw [Ab hp,Ef hp];exact BZ some<|h p _<|Ab hp
 ·rw [Bc (by omega),Bc<|by simp;omega];rfl
theorem k6v(f:Nat->Bool)(m:Nat):aJ ((List.range m).map λp=>f<|(p+1) % m)=aJ ((List.range m).map f):=by
 cases m with
 | zero=>rfl
 | succ k=>
  have e:(List.range<|k+1).map (λp=>f<|(p+1) % (k+1))=((List.range k).map λp=>f<|p+1)++[f 0]:=by
   rw [Dp,Ai]
   congr 1
   ·refine Cs λp hp=>?_;have:=Cb.mp hp;show f ((p+1) % (k+1))=f (p+1);rw [Cd<|by omega]
   ·simp
  rw [e,List.range_succ_eq_map,Bh,Ci,sD];show _=(f 0 ^^ aJ ((List.range k).map<|f ∘ Nat.succ));show(aJ ((List.range k).map λp=>f<|p+1) ^^ (f 0 ^^ false))=(f 0 ^^ aJ ((List.range k).map λp=>f<|p+1));cases f 0 <;> cases aJ ((List.range k).map λp=>f<|p+1) <;> rfl
def a9.even{n:Net}(T:aw n){s:Str->Bool}{χ:End->Bool}(h:a9 n s χ):fB n s:=by
 intro r;rw [k8d n r s (λe=>χ e ^^ χ (other n e)) λp z hz=>h.de (r,p) z hz];rw [yY (λp=>χ (r,p)) λp=>χ<|other n (r,p)];have e:((List.range (row n r).length).map λp=>χ<|other n (r,p))=(List.range (row n r).length).map λp=>χ (r,(p+1) % (row n r).length):=by
  refine Cs λp hp=>?_;have hp:=Cb.mp hp;obtain⟨z,hz⟩:=yr (n:=n) (e:=(r,p)) hp;obtain⟨h1,h2,_⟩:=c8 T hz;have:=h.go (other n (r,p))<|af.mpr ⟨z,h1⟩;rw [<- this];show χ (left n (other n<|other n (r,p)))=_;rw [h2];rfl
 rw [e,k6v λp=>χ (r,p)];cases aJ ((List.range (row n r).length).map λp=>χ (r,p)) <;> rfl
def a9.xor{n:Net}{s t:Str->Bool}{χ ψ:End->Bool}(h:a9 n s χ)(g:a9 n t ψ):a9 n (λz=>s z ^^ t z) (λe=>χ e ^^ ψ e):=by
 refine⟨λe he=>?_,λe z hz=>?_⟩
 ·rw [h.go e he,g.go e he]
 ·show(s z ^^ t z)=((χ e ^^ ψ e) ^^ (χ (other n e) ^^ ψ (other n e)));rw [h.de e z hz,g.de e z hz];cases χ e <;> cases ψ e <;> cases χ (other n e) <;> cases ψ (other n e) <;> rfl
def fB.xor{n:Net}{s t:Str->Bool}(h:fB n s)(g:fB n t):fB n (λz=>s z ^^ t z):=λr=>by
 rw [yY s t,h r,g r];rfl
section
variable{n m:Net}{g:End->End}{e1 e2:End}{z:Str}
def eJ.mark(p:eJ n m g e1 e2 z)(χ:End->Bool)(a:Bool):∃ χ':End->Bool,(∀ e∈ends n,χ' (g e)=χ e)/\χ' e1=a/\χ' e2=a:=by
 refine⟨λx=>if x=e1 then a else if x=e2 then a else match (ends n).find? (λe=>decide (g e=x)) with | some e=>χ e | none=>false,λe he=>?_,?_,?_⟩
 ·show(if g e=e1 then a else if g e=e2 then a else match (ends n).find? (λe'=>decide (g e'=g e)) with | some e=>χ e | none=>false)=χ e;rw [BK<|p.n1 e he,BK<|p.n2 e he];cases hf:(ends n).find? (λe'=>decide (g e'=g e)) with
  | none=>exact absurd (BW (rfl:g e=g e))<|by simpa using List.find?_eq_none.mp hf e he
  | some e'=>
   have h5:=RZ hf;have h5:g e'=g e:=BX h5;rw [p.inj _ _ h5]
 ·simp
 ·simp
def eJ.ko(p:eJ n m g e1 e2 z)(T:aw n)(T':aw m){s:Str->Bool}{χ:End->Bool}(h:a9 n s χ)(hz:s z=false){a:Bool}
  (st:∀ x∈ends n,step m (g x)=g (step n x)\/((step m (g x)=e1\/step m (g x)=e2)/\χ (step n x)=a))
  (s1:step m e1=e1\/step m e1=e2\/∃ k∈ends n,step m e1=g k/\χ k=a) (s2:step m e2=e1\/step m e2=e2\/∃ k∈ends n,step m e2=g k/\χ k=a):∃ χ',a9 m s χ':=by
 obtain⟨χ',h1,h2,h3⟩:=p.mark χ a;have kq:∀ x∈ends m,(∃ e∈ends n,x=g e)\/x=e1\/x=e2:=λx hx=>by
  have:=p.perm.mem_iff.mpr hx
  rcases An.mp this with q | q
  ·obtain⟨e,he,rfl⟩:=Aj.mp q;exact .inl ⟨e,he,rfl⟩
  ·simp only [Al,By,FN] at q;exact .inr q
 refine⟨χ',λx hx=>?_,λx y hy=>?_⟩
 ·rcases kq x hx with ⟨e,he,rfl⟩ | rfl | rfl
  ·rw [h1 e he]
   rcases st e he with q | ⟨q,qa⟩
   ·rw [q,h1 _<|rS T he,h.go e he]
   ·rw [h.go e he] at qa
    rcases q with q | q
    ·rw [q,h2,qa]
    ·rw [q,h3,qa]
  ·rcases s1 with q | q | ⟨k,hk,q,qa⟩
   ·rw [q]
   ·rw [q,h2,h3]
   ·rw [q,h1 k hk,h2,qa]
  ·rcases s2 with q | q | ⟨k,hk,q,qa⟩
   ·rw [q,h2,h3]
   ·rw [q]
   ·rw [q,h1 k hk,h3,qa]
 ·rcases kq x (af.mpr ⟨y,hy⟩) with ⟨e,he,rfl⟩ | rfl | rfl
  ·rw [p.de e he] at hy;obtain⟨o1,_,_⟩:=c8 T hy;rw [p.g8 T T' he,h1 e he,h1 _<|af.mpr ⟨y,o1⟩];exact h.de e y hy
  ·rw [p.t1] at hy;cases hy;rw [p.o1 T',h2,h3,hz];cases a <;> rfl
  ·rw [p.t2] at hy;cases hy;rw [p.o2 T',h2,h3,hz];cases a <;> rfl
def P4(T':aw m){ψ:End->Bool}(hψ:∀ e∈ends m,ψ (step m e)=ψ e)(t1:aG m e1=some z)(ho:other m e1=e2)(ne:ψ e1≠ψ e2)(h0:∀ s,fB m s->s z=false->∃ χ,a9 m s χ):RS m:=by
 intro s hs
 by_cases hz:s z=false
 ·exact h0 s hs hz
 ·have hz:s z=true:=by cases h:s z with | true=>rfl | false=>exact absurd h hz
  let t:Str->Bool:=λy=>match (ends m).find? (λe=>decide (aG m e=some y)) with | some e=>ψ e ^^ ψ (other m e) | none=>false
  have ht:a9 m t ψ:=by
   refine⟨hψ,λe y hy=>?_⟩;show(match (ends m).find? (λe=>decide (aG m e=some y)) with | some e=>ψ e ^^ ψ (other m e) | none=>false)=_;cases hf:(ends m).find? (λe=>decide (aG m e=some y)) with
   | none=>exact absurd (BW hy)<|by simpa using List.find?_eq_none.mp hf e (af.mpr ⟨y,hy⟩)
   | some e'=>
    have h5:=RZ hf;have h':aG m e'=some y:=BX h5
    by_cases q:e'=e
    ·rw [q]
    ·have o1:=km T' h' hy q;have o2:=km T' hy h'<|CG q;show(ψ e' ^^ ψ (other m e'))=_;rw [o1,o2];cases ψ e <;> cases ψ e' <;> rfl
  have tz:t z=true:=by
   rw [ht.de e1 z t1,ho];cases h1:ψ e1 <;> cases h2:ψ e2 <;> simp_all
  obtain⟨χ,hχ⟩:=h0 (λy=>s y ^^ t y) (hs.xor<|ht.even T') (by show(s z ^^ t z)=false;rw [hz,tz];rfl);have:=hχ.xor ht;refine⟨λe=>χ e ^^ ψ e,this.go,λe y hy=>?_⟩;rw [<- this.de e y hy];show s y=((s y ^^ t y) ^^ t y);cases s y <;> cases t y <;> rfl
def F9{n:Net}{c:End}{z:Str}(hc:c.1 < n.length){s:Str->Bool}(hz:s z=false)(r:Nat):aJ ((row (ins n c z) r).map s)=aJ ((row n r).map s):=by
 rw [rW n c z r hc]
 by_cases h:c.1=r
 ·rw [BL h,Ai,Bh,sD];show(aJ (((row n r).take c.2).map s) ^^ (s z ^^ aJ (((row n r).drop c.2).map s)))=_;rw [hz,Ge,<- sD,<- Ai,Cv]
 ·rw [BK h]
def Dec.mark{α:Type} [DecidableEq α] {f:α->α} {D:List α} {Ls:List (List α)} (d:Dec f D Ls) {l:List α} (hl:l∈Ls):∀ x∈D,(f x∈l↔x∈l):=by
 intro x hx;obtain⟨A,B,rfl⟩:=Fo hl;have d':Dec f D (l :: (A++B)):=⟨λk hk=>d.kj k (by
  rcases Al.mp hk with rfl | hk
  ·exact hl
  ·rcases An.mp hk with q | q
   ·exact Az _ q
   ·exact Au _<|Ak _ q),by
  refine List.Perm.trans ?_ d.all;rw [Cw,Fh,Fh,Cw,<- As,<- As];exact(Ce).append_right _,d.nd⟩
 have cl:∀ k∈l :: (A++B),∀ x∈k,f x∈k:=λk hk x hx=>by
  obtain⟨c,hc,p⟩:=d'.kj k hk;exact F5 p hc hx
 by_cases h:x∈l
 ·exact⟨λ_=>h,λ_=>cl l Ah x h⟩
 ·refine⟨λq=>?_,λq=>absurd q h⟩
  exfalso
  obtain⟨k,hk,P5⟩:=Fd.mp<|d'.all.mem_iff.mpr hx
  rcases Al.mp hk with rfl | pL
  ·exact h P5
  ·exact d'.apart.2 k pL _ q<|cl k hk x P5
theorem F'{s:Str->Bool}{χ:End->Bool}(T:aw n)(h:a9 n s χ){a:End}(ha:a∈ends n):∀ k,χ (it (step n) k a)=χ a
 | 0=>rfl
 | k+1=>by
  show χ (step n<|it (step n) k a)=_;rw [h.go _<|j4 (λx hx=>rS T hx) ha k,F' T h ha k]
def q1a(p:eJ n m g e1 e2 z)(T:aw n)(T':aw m){k1 k2:End}(h1:k1∈ends n)(h2:k2∈ends n)(ne:k2≠k1)(same:(∃ k,it (step n) k k1=k2)\/∃ k,it (step n) k k2=k1)
  (l1:left m e1=g k1) (l2:left m e2=g k2) (lf:∀ e∈ends n,left m (g e)=if left n e=k1 then e1 else if left n e=k2 then e2 else g (left n e))
  {Ls:List (List End)} (d:Dec (step n) (ends n) Ls) (ev:∀ s,fB m s->s z=false->fB n s) (R:RS n):RS m:=by
 have st:∀ x∈ends n,step m (g x)=if step n x=k1 then e1 else if step n x=k2 then e2 else g (step n x):=λx hx=>by
  unfold step;rw [p.g8 T T' hx];exact lf _<|dj T hx
 have s1:step m e1=g k2:=by unfold step;rw [p.o1 T'];exact l2
 have s2:step m e2=g k1:=by unfold step;rw [p.o2 T'];exact l1
 obtain⟨l,Ms,hL,d⟩:=d.pick h1;have hk:=d.one h2 same ne;obtain⟨PQ,hL',d',w,hw,w2,w1⟩:=d.split (f':=step m) (g:=g) hk (e1:=e1) (e2:=e2) s1 s2
  (λx hx e=>by rw [st x hx,BL e]) (λx hx e=>by rw [st x hx,BK (by rw [e];exact ne),BL e]) (λx hx a b=>by rw [st x hx,BK a,BK b]) p.nd
 have dm:=d'.perm p.perm;refine P4 T' (ψ:=λx=>decide (x∈w)) (λx hx=>decide_eq_decide.mpr<|dm.mark hw x hx) p.t1 (p.o1 T') (by show decide (e1∈w)≠decide (e2∈w);rw [BR w1,BW w2];decide) λs hs hz=>?_;obtain⟨χ,hχ⟩:=R s<|ev s hs hz;have ek:χ k2=χ k1:=by
  rcases same with ⟨k,e⟩ | ⟨k,e⟩
  ·rw [<- e];exact F' T hχ h1 k
  ·rw [<- e];exact(F' T hχ h2 k).symm
 refine p.ko T T' hχ hz (a:=χ k1) (λx hx=>?_) (.inr<|.inr ⟨k2,h2,s1,ek⟩)<|.inr<|.inr ⟨k1,h1,s2,rfl⟩;rw [st x hx]
 by_cases c1:step n x=k1
 ·rw [BL c1];exact .inr ⟨.inl rfl,by rw [c1]⟩
 ·rw [BK c1]
  by_cases c2:step n x=k2
  ·rw [BL c2];exact .inr ⟨.inr rfl,by rw [c2,ek]⟩
  ·rw [BK c2];exact .inl rfl
def q3w(p:eJ n m g e1 e2 z)(T:aw n)(T':aw m){c:End}(h1:c∈ends n)(l1:left m e1=g c)(l2:left m e2=e1)(lf:∀ e∈ends n,left m (g e)=if left n e=c then e2 else g (left n e))
  (ev:∀ s,fB m s->s z=false->fB n s) (R:RS n):RS m:=by
 have st:∀ x∈ends n,step m (g x)=if step n x=c then e2 else g (step n x):=λx hx=>by
  unfold step;rw [p.g8 T T' hx];exact lf _<|dj T hx
 have s1:step m e1=e1:=by unfold step;rw [p.o1 T'];exact l2
 have s2:step m e2=g c:=by unfold step;rw [p.o2 T'];exact l1
 have qj:e1∈ends m:=af.mpr ⟨z,p.t1⟩;refine P4 T' (ψ:=λx=>decide (x=e1)) (λx hx=>?_) p.t1 (p.o1 T') (by show decide (e1=e1)≠decide (e2=e1);rw [BW rfl,BR p.ne.symm];decide) λs hs hz=>?_
 ·by_cases q:x=e1
  ·rw [q,s1]
  ·show decide (step m x=e1)=decide (x=e1);rw [BR q];exact BR λe=>q<|OB T' hx qj<|by rw [e,s1]
 obtain⟨χ,hχ⟩:=R s<|ev s hs hz;refine p.ko T T' hχ hz (a:=χ c) (λx hx=>?_) (.inl s1)<|.inr<|.inr ⟨c,h1,s2,rfl⟩;rw [st x hx]
 by_cases c1:step n x=c
 ·rw [BL c1];exact .inr ⟨.inr rfl,by rw [c1]⟩
 ·rw [BK c1];exact .inl rfl
def k8y(p:eJ n m g e1 e2 z)(T:aw n)(T':aw m){c:End}(h1:c∈ends n)(l1:left m e1=g c)(l2:left m e2=e2)(lf:∀ e∈ends n,left m (g e)=if left n e=c then e1 else g (left n e))
  (hz:∀ s,fB m s->s z=false) (ev:∀ s,fB m s->s z=false->fB n s) (R:RS n):RS m:=by
 have st:∀ x∈ends n,step m (g x)=if step n x=c then e1 else g (step n x):=λx hx=>by
  unfold step;rw [p.g8 T T' hx];exact lf _<|dj T hx
 have s1:step m e1=e2:=by unfold step;rw [p.o1 T'];exact l2
 have s2:step m e2=g c:=by unfold step;rw [p.o2 T'];exact l1
 intro s hs;have hz:=hz s hs;obtain⟨χ,hχ⟩:=R s<|ev s hs hz;refine p.ko T T' hχ hz (a:=χ c) (λx hx=>?_) (.inr<|.inl s1)<|.inr<|.inr ⟨c,h1,s2,rfl⟩;rw [st x hx]
 by_cases c1:step n x=c
 ·rw [BL c1];exact .inr ⟨.inl rfl,by rw [c1]⟩
 ·rw [BK c1];exact .inl rfl
end
section
variable{n:Net}{z:Str}
def q8f{k1 k2:End}(T:aw n)(T':aw<|ins (ins n k1 z) k2 z)(h1:k1∈ends n)(h2:k2∈ends n)(ord:k2=k1\/sh k1 k2=k2)(same:(∃ k,it (step n) k k1=k2)\/∃ k,it (step n) k k2=k1)(P:Pl n)(R:RS n):RS (ins (ins n k1 z) k2 z):=by
 have r1:=fe h1;have r2:=fe h2;have p:=PR (z:=z) (k1:=k1) (k2:=k2) ⟨r1.1,Bw r1.2⟩ ⟨r2.1,Bw r2.2⟩;have c2:k2.1 < (ins n k1 z).length:=by rw [gR];exact r2.1
 have rl:∀ i,(row n i).length<=(row (ins n k1 z) i).length:=λi=>by
  rw [sv r1.1<|Bw r1.2]
  split <;> omega
 have p2:k2.2 < (row (ins n k1 z) k2.1).length:=Bb r2.2<|rl _;have p1:k1.2 < (row (ins n k1 z) k1.1).length:=Bb r1.2<|rl _;have sl:∀ e∈ends n,(sh k1 e).2 < (row (ins n k1 z) (sh k1 e).1).length:=λe he=>by
  obtain⟨y,hy⟩:=af.mp he;exact ja (z:=y)<|by rw [sw r1.1<|Bw r1.2];exact hy
 have l0:left (ins n k1 z) k1=sh k1 k1:=ou r1.1 r1.2;have ev:∀ s,fB (ins (ins n k1 z) k2 z) s->s z=false->fB n s:=λs hs hz r=>by
  rw [<- F9 r1.1 hz r,<- F9 c2 hz r];exact hs r
 by_cases e:k2=k1
 ·subst e;refine q3w p T T' h1 ?_ (ou c2 p2) (λe he=>?_) ev R
  ·rw [iP c2 p2 p1,l0,BK<|oq _ _]
  ·show left _ (sh k2<|sh k2 e)=_;rw [iP c2 p2<|sl e he,iP r1.1 r1.2 (fe he).2]
   by_cases q:left n e=k2
   ·rw [BL q,BL rfl,BL q]
   ·rw [BK q,BK<|oq _ _,BK q]
 ·have hs:sh k1 k2=k2:=ord.resolve_left e
  rcases P with ⟨t0,_⟩ | ⟨Ls,d,_⟩
  ·obtain⟨y,hy⟩:=af.mp h1;have:=eI hy;rw [t0] at this;cases this
  refine q1a p T T' h1 h2 e same ?_ ?_ (λe' he=>?_) d ev R
  ·rw [iP c2 p2 p1,l0,BK λq=>e<|om (c:=k1)<|by rw [hs,q]]
  ·show left _ k2=sh k2 (sh k1 k2);rw [hs];exact ou c2 p2
  ·show left _ (sh k2<|sh k1 e')=if left n e'=k1 then sh k2 k1 else if left n e'=k2 then k2 else sh k2 (sh k1<|left n e');rw [iP c2 p2<|sl e' he,iP r1.1 r1.2 (fe he).2]
   by_cases q:left n e'=k1
   ·rw [BL q,BL q,BK λx=>e x.symm]
   ·rw [BK q,BK q]
    by_cases q2:left n e'=k2
    ·rw [BL q2,q2,hs,BL rfl]
    ·rw [BK q2,BK λx=>q2<|om (c:=k1)<|by rw [x,hs]]
def k63{c:End}{pt:Str}(T:aw n)(T':aw<|ins n c z++[(pt,[z])])(h1:c∈ends n)(R:RS n):RS (ins n c z++[(pt,[z])]):=by
 have r1:=fe h1;have p:=PU (z:=z) (c:=c) (pt:=pt) ⟨r1.1,Bw r1.2⟩;have la:∀ e:End,e.1 < n.length->left (ins n c z++[(pt,[z])]) e=left (ins n c z) e:=λe he=>by
  unfold left;rw [oz<|by rw [gR];exact he]
 have ku:=yV (a:=ins n c z) (x:=(pt,[z]));rw [gR] at ku;refine k8y p T T' h1 ?_ ?_ (λe he=>?_) (λs hs=>?_) (λs hs hz r=>?_) R
 ·rw [la _ r1.1];exact ou r1.1 r1.2
 ·unfold left;show(n.length,(0+1) % (row _ n.length).length)=_;rw [ku];exact BZ (Prod.mk _)<|Dw 1
 ·rw [la _<|by rw [mI];exact(fe he).1];exact iP r1.1 r1.2 (fe he).2
 ·have:=hs n.length;rw [ku] at this;have:(s z ^^ false)=false:=this
  simpa using this
 ·by_cases h:r < n.length
  ·have:=hs r;rw [oz (by rw [gR];exact h),F9 r1.1 hz r] at this;exact this
  ·have:row n r=[]:=by
    unfold row;rw [Bc<|by omega];rfl
   rw [this];rfl
end
def q7p{nm:Str}:RS [(nm,[])]:=λs _=>⟨λ_=>false,λe he=>rfl,λe y hy=>by
 have:=eI hy;cases this⟩
def k8g{nm pt z:Str}(T':aw [(nm,[z]),(pt,[z])]):RS [(nm,[z]),(pt,[z])]:=λs hs=>⟨λ_=>false,λe he=>rfl,λe y hy=>by
 have h:=eI hy;have:y=z:=by simpa [ag] using h
 rw [this];have:=hs 0;have:(s z ^^ false)=false:=this
 simpa using this⟩
def q2g{nm z:Str}(T':aw [(nm,[z,z])]):RS [(nm,[z,z])]:=λs _=>by
 have t1:aG [(nm,[z,z])] (0,0)=some z:=rfl;have t2:aG [(nm,[z,z])] (0,1)=some z:=rfl;have o1:=km T' t1 t2 (by decide);have o2:=km T' t2 t1 (by decide);have hE:ends [(nm,[z,z])]=[(0,0),(0,1)]:=rfl;refine⟨λe=>decide (e=(0,0)) && s z,λe he=>?_,λe y hy=>?_⟩
 ·rw [hE] at he;simp only [Al,By,FN] at he
  rcases he with rfl | rfl
  ·show(decide (left [(nm,[z,z])] (other [(nm,[z,z])] (0,0))=(0,0)) && s z)=_;rw [o1];simp [left,row]
  ·show(decide (left [(nm,[z,z])] (other [(nm,[z,z])] (0,1))=(0,0)) && s z)=_;rw [o2];simp [left,row]
 ·have h:=eI hy;have e1:y=z:=by simpa [ag] using h
  have he:=af.mpr ⟨y,hy⟩;rw [hE] at he;simp only [Al,By,FN] at he;rw [e1]
  rcases he with rfl | rfl
  ·rw [o1];simp
  ·rw [o2];simp
def Fl(n:Net):Prop:=Pl n/\RS n
def q8j{nm:Str}:Fl [(nm,[])]:=⟨.inl ⟨rfl,rfl⟩,q7p⟩
def k77{n:Net}{c:End}{z pt:Str}(T:aw n)(F:Full n)(hz:z∉ag n)(hc:eU n c) (hp:(ag<|ins n c z++[(pt,[z])]).Perm<|z :: z :: ag n) (P:Fl n):Fl (ins n c z++[(pt,[z])]):=by
 refine⟨k5h T F hz hc hp P.1,?_⟩;have T':=yW hp T hz
 rcases yX F with ⟨nm,rfl⟩ | h0
 ·have:=sy hc;subst this;exact k8g T'
 ·exact k63 T T' (F.cH h0 hc) P.2
def q3m{n:Net}{k1 k2:End}{z:Str}(T:aw n)(F:Full n)(hz:z∉ag n)(h1:eU n k1)(h2:eU n k2) (hp:(ag<|ins (ins n k1 z) k2 z).Perm<|z :: z :: ag n) (ord:k2=k1\/sh k1 k2=k2) (same:(∃ k,it (step n) k k1=k2)\/∃ k,it (step n) k k2=k1) (P:Fl n):Fl (ins (ins n k1 z) k2 z):=by
 refine⟨q3x T F hz h1 h2 hp ord same P.1,?_⟩;have T':=yW hp T hz
 rcases yX F with ⟨nm,rfl⟩ | h0
 ·have:=sy h1;subst this;have:=sy h2;subst this;exact q2g T'
 ·exact q8f T T' (F.cH h0 h1) (F.cH h0 h2) ord same P.1 P.2
def k9t{n m:Net}{g:End->End}(T:aw n)(T':aw m)(ht:(ag m).length=(ag n).length)(de:∀ e∈ends n,aG m (g e)=aG n e)(inj:∀ a∈ends n,∀ b∈ends n,g a=g b->a=b)
  (lf:∀ e∈ends n,left m (g e)=g (left n e)) (ev:∀ s,fB m s->fB n s) (R:RS n):RS m:=by
 have vt:∀ x∈ends m,∃ e∈ends n,x=g e:=by
  have nd:((ends n).map g).Nodup:=by
   have:∀(l:List End),(∀ x∈l,x∈ends n)->l.Nodup->(l.map g).Nodup:=by
    intro l
    induction l with
    | nil=>intro _ _;exact Cj
    | cons x l ih=>
     intro hs h;have h:=Bi.mp h;rw [Bh];refine Bi.mpr ⟨λhx=>?_,ih (λy hy=>hs y<|Ak _ hy) h.2⟩;obtain⟨y,hy,e⟩:=Aj.mp hx;have:=inj y (hs y<|Ak _ hy) x (hs x Ah) e;exact h.1<|this ▸ hy
   exact this _ (λx hx=>hx)<|rQ n
  have pm:((ends n).map g).Perm (ends m):=by
   refine vp nd (λa ha=>?_) (by rw [Aa,iM,iM,ht];exact Am _);obtain⟨x,hx,rfl⟩:=Aj.mp ha;obtain⟨y,hy⟩:=af.mp hx;exact af.mpr ⟨y,by rw [de x hx];exact hy⟩
  intro x hx;obtain⟨e,he,q⟩:=Aj.mp<|pm.mem_iff.mpr hx;exact⟨e,he,q.symm⟩
 intro s hs;obtain⟨χ,hχ⟩:=R s<|ev s hs
 let χ':End->Bool:=λx=>match (ends n).find? (λe=>decide (g e=x)) with | some e=>χ e | none=>false
 have h1:∀ e∈ends n,χ' (g e)=χ e:=λe he=>by
  show(match (ends n).find? (λe'=>decide (g e'=g e)) with | some e=>χ e | none=>false)=χ e;cases hf:(ends n).find? (λe'=>decide (g e'=g e)) with
  | none=>exact absurd (BW (rfl:g e=g e))<|by simpa using List.find?_eq_none.mp hf e he
  | some e'=>
   have h5:=RZ hf;have h5:g e'=g e:=BX h5;rw [inj _ (List.mem_of_find?_eq_some hf) _ he h5]
 have g8:∀ e∈ends n,other m (g e)=g (other n e):=λe he=>by
  obtain⟨y,hy⟩:=af.mp he;obtain⟨h1,_,h3⟩:=c8 T hy;have ho:other n e∈ends n:=af.mpr ⟨y,h1⟩;exact km T' (by rw [de e he];exact hy) (by rw [de _ ho];exact h1) λh=>h3 (inj _ he _ ho h).symm
 refine⟨χ',λx hx=>?_,λx y hy=>?_⟩
 ·obtain⟨e,he,rfl⟩:=vt x hx;have:step m (g e)=g (step n e):=by
   unfold step;rw [g8 e he];exact lf _<|dj T he
  rw [this,h1 _<|rS T he,h1 e he,hχ.go e he]
 ·obtain⟨e,he,rfl⟩:=vt x<|af.mpr ⟨y,hy⟩;rw [de e he] at hy;rw [g8 e he,h1 e he,h1 _<|dj T he];exact hχ.de e y hy
def q5s{a:Net}{j i:Nat}{x:Str}(hj:j < a.length)(hi:i < max 1 (row a j).length)(T:aw a) (T':aw<|a.eraseIdx j++[(x,(row a j).drop i++(row a j).take i)])
  (ht:(ag<|a.eraseIdx j++[(x,(row a j).drop i++(row a j).take i)]).length=(ag a).length) (R:RS a):RS (a.eraseIdx j++[(x,(row a j).drop i++(row a j).take i)]):=by
 obtain⟨g,h1,h2,h3⟩:=PZ (x:=x) hj hi;refine k9t T T' ht h1 h2 h3 (λs hs r=>?_) R
 by_cases hr:r < a.length
 ·have:=hs (if r < j then r else if r=j then a.length - 1 else r - 1);rw [PY hj r hr] at this
  by_cases e:r=j
  ·rw [BL e] at this;rw [<- this,e];refine P2<|List.Perm.map s ?_;show(row a j).Perm ((row a j).drop i++(row a j).take i);refine List.Perm.trans ?_ Ce;rw [Cv]
  ·rw [BK e] at this;exact this
 ·have:row a r=[]:=by
   unfold row;rw [Bc<|by omega];rfl
  rw [this];rfl
def q3o{n n2 n0:Net}{j i:Nat}{x:Str}(hj:j < n.length)(hi:i < max 1 (row n j).length)(T0:aw n0)(pt:(ag n++ag n2).Perm<|ag n0)
  (gC:(ag (n.eraseIdx j)++ag (n2++[(x,(row n j).drop i++(row n j).take i)])).Perm<|ag n0) (P:Fl<|n++n2):Fl (n.eraseIdx j++(n2++[(x,(row n j).drop i++(row n j).take i)])):=by
 refine⟨q4q hj hi T0 pt gC P.1,?_⟩;have tw:∀ m:Net,(ag m).Perm (ag n0)->aw m:=λm p y hy=>by rw [p.count_eq];exact T0 y<|p.mem_iff.mp hy
 rw [<- P1] at pt gC;have er:row (n++n2) j=row n j:=oz hj;have ee:n.eraseIdx j++(n2++[(x,(row n j).drop i++(row n j).take i)])=(n++n2).eraseIdx j++[(x,(row (n++n2) j).drop i++(row (n++n2) j).take i)]:=by
  rw [KR hj,As,er]
 rw [ee] at gC ⊢;exact q5s (by rw [Ad];omega) (by rw [er];exact hi) (tw _ pt) (tw _ gC) (by rw [gC.length_eq,pt.length_eq]) P.2
open L2
def bb(n:Net)(r:Nat):Str:=((n[r]?).map (·.1)).getD ⟨#[]⟩
def jg{n:Net}{r:Nat}(h:r < n.length):bb n r=n[r].1:=by unfold bb;rw [Ab h];rfl
abbrev Lk:=Str×Str×Str
def oB(n:Net)(x:Lk):Prop:=∃ a b,pos n x.1=[a,b]/\x.2.1=bb n a.1/\x.2.2=bb n b.1
structure iQ(n:Net)(done:List<|Str×End)(kM:List<|Key×V)(ls:List Lk):Prop where
 m0:∀ z,b6 done z=[]->al kM (Sum.inr z)=none
 m1:∀ z a rest,b6 done z=a :: rest->al kM (Sum.inr z)=some (.str<|bb n a.1)
 mem:∀ x:Lk,x∈ls↔∃ a b rest,b6 done x.1=a :: b :: rest/\x.2.1=bb n a.1/\x.2.2=bb n b.1
 dB:(ls.map (·.1)).Nodup
 d6:kM.length<=done.length
 mJ:ls.length<=done.length
def iQ.start(n:Net):iQ n [] [] []:=⟨λ_ _=>rfl,λz a rest h=>(by cases h),λx=>⟨λh=>(by cases h),λ⟨a,b,rest,h,_⟩=>(by cases h)⟩,Cj,Am _,Am _⟩
def iQ.new{n:Net}{done:List (Str×End)}{kM:List (Key×V)}{ls:List Lk}(I:iQ n done kM ls){z:Str}{e:End}(h0:b6 done z=[]):iQ n (done++[(z,e)]) (putK kM (Sum.inr z)<|.str<|bb n e.1) ls:=by
 refine⟨λy hy=>?_,λy a rest hy=>?_,λx=>?_,I.dB,?_,?_⟩
 ·rw [dk] at hy;obtain⟨h1,h2⟩:=Ek.mp hy;have bw:¬ z=y:=λq=>by rw [BL q] at h2;cases h2
  rw [c7,BK λq=>bw (Sum.inr.inj q).symm];exact I.m0 y h1
 ·rw [dk] at hy
  by_cases q:z=y
  ·subst q;rw [h0,BL rfl] at hy;cases hy;rw [c7,BL rfl]
  ·rw [BK q,Ba] at hy;rw [c7,BK λp=>q (Sum.inr.inj p).symm];exact I.m1 y a rest hy
 ·rw [I.mem x]
  by_cases q:z=x.1
  ·constructor
   ·rintro ⟨a,b,rest,h,_⟩;rw [<- q,h0] at h;cases h
   ·rintro ⟨a,b,rest,h,_⟩;rw [dk,<- q,h0,BL rfl] at h;cases h
  ·constructor
   ·rintro ⟨a,b,rest,h,r⟩;exact⟨a,b,rest,by rw [dk,BK q,Ba];exact h,r⟩
   ·rintro ⟨a,b,rest,h,r⟩;rw [dk,BK q,Ba] at h;exact⟨a,b,rest,h,r⟩
 ·have:=i4 kM (Sum.inr z)<|.str<|bb n e.1;have:=I.d6;rw [Ad,Cq];omega
 ·have:=I.mJ;rw [Ad,Cq];omega
def iQ.old{n:Net}{done:List (Str×End)}{kM:List (Key×V)}{ls:List Lk}(I:iQ n done kM ls){z:Str}{a e:End}(h1:b6 done z=[a]):iQ n (done++[(z,e)]) kM (ls++[(z,bb n a.1,bb n e.1)]):=by
 have hz:b6 (done++[(z,e)]) z=[a,e]:=by rw [dk,h1,BL rfl];rfl
 have hnz:z∉ls.map (·.1):=λh=>by
  obtain⟨x,hx,ex⟩:=Aj.mp h;obtain⟨b,c,rest,hp,_⟩:=(I.mem x).mp hx;have ex:x.1=z:=ex;rw [ex,h1] at hp;cases hp
 refine⟨λy hy=>?_,λy b rest hy=>?_,λx=>?_,?_,?_,?_⟩
 ·rw [dk] at hy;exact I.m0 y (Ek.mp hy).1
 ·by_cases q:z=y
  ·subst q;rw [hz] at hy;cases hy;exact I.m1 z a [] h1
  ·rw [dk,BK q,Ba] at hy;exact I.m1 y b rest hy
 ·rw [An,Ag,I.mem x]
  by_cases q:z=x.1
  ·constructor
   ·rintro (⟨b,c,rest,h,_⟩ | h)
    ·rw [<- q,h1] at h;cases h
    ·subst h;exact⟨a,e,[],hz,rfl,rfl⟩
   ·rintro ⟨b,c,rest,h,r1,r2⟩;rw [<- q,hz] at h;cases h;obtain⟨x1,x2,x3⟩:=x;have q:z=x1:=q;have r1:x2=bb n a.1:=r1;have r2:x3=bb n e.1:=r2;subst q r1 r2;exact .inr rfl
  ·constructor
   ·rintro (⟨b,c,rest,h,r⟩ | h)
    ·exact⟨b,c,rest,by rw [dk,BK q,Ba];exact h,r⟩
    ·subst h;exact absurd rfl q
   ·rintro ⟨b,c,rest,h,r⟩;rw [dk,BK q,Ba] at h;exact .inl ⟨b,c,rest,h,r⟩
 ·rw [Ai];exact me I.dB hnz
 ·have:=I.d6;rw [Ad,Cq];omega
 ·have:=I.mJ;rw [Ad,Ad];show _+1<=_+1;omega
def iQ.whole{n:Net}(T:aw n){kM:List (Key×V)}{ls:List Lk}(I:iQ n (bg n) kM ls)(x:Lk):x∈ls↔oB n x:=by
 rw [I.mem x]
 constructor
 ·rintro ⟨a,b,rest,h,r⟩;have hp:pos n x.1=a :: b :: rest:=h;have ha:aG n a=some x.1:=aH.mp (by rw [hp];exact Ah ..);have hl:=rR n x.1;rw [hp,T x.1<|eI ha] at hl;have:rest=[]:=by
   have:rest.length+1+1=2:=hl;exact Bj.mp<|by omega
  rw [this] at hp;exact⟨a,b,hp,r⟩
 ·rintro ⟨a,b,h,r⟩;exact⟨a,b,[],h,r⟩
inductive Way (ls:List<|Str×Str×Bool) (f:Str):Str->Bool->Prop where
 | here:Way ls f f false
 | there {x y:Str} {b o:Bool}:Way ls f x b->(x,y,o)∈ls->Way ls f y (b != o)
 | back {x y:Str} {b o:Bool}:Way ls f x b->(y,x,o)∈ls->Way ls f y (b != o)
def fC(n:Net)(ss:List Str):Bool:=n.all λr=>(r.2.filter λz=>ss.contains z).length % 2 == 0
def jh{n:Net}(T:aw n){e x:End}{z:Str}(h:aG n e=some z):aG n x=some z↔x=e\/x=other n e:=by
 obtain⟨o1,o2,o3⟩:=c8 T h;refine⟨λhx=>?_,λhx=>?_⟩
 ·obtain⟨a,b,hp,gs,he⟩:=pR T h;have mx:x∈pos n z:=aH.mpr hx;have mo:other n e∈pos n z:=aH.mpr o1;rw [hp] at mx mo;simp only [Al,By,FN] at mx mo
  rcases he with he | he
  ·rcases mx with m | m
   ·exact .inl<|m.trans he.symm
   ·rcases mo with m2 | m2
    ·exact absurd (m2.trans he.symm) o3
    ·exact .inr<|m.trans m2.symm
  ·rcases mx with m | m
   ·rcases mo with m2 | m2
    ·exact .inr<|m.trans m2.symm
    ·exact absurd (m2.trans he.symm) o3
   ·exact .inl<|m.trans he.symm
 ·rcases hx with rfl | rfl
  ·exact h
  ·exact o1
abbrev Bl:=Str×Str×Bool
def has(kvs:List<|Key×V)(x:Str):Prop:=∃ v,al kvs (Sum.inr x)=some v
def dq(ls:List Bl)(x y:Str)(o:Bool):Prop:=(x,y,o)∈ls\/(y,x,o)∈ls
def qk(ls:List Bl):List Str:=ls.flatMap λl=>[l.1,l.2.1]
def sG{κ:Type} [DecidableEq κ] (kvs:List<|κ×V) (k:κ) (v:V):(putK kvs k v).map (·.1)=if k∈kvs.map (·.1) then kvs.map (·.1) else kvs.map (·.1)++[k]:=by
 have e:(kvs.any λkv=>decide (kv.1=k))=decide (k∈kvs.map (·.1)):=by
  rw [Da,List.any_eq_true,CZ,Aj];exact⟨λ⟨p,h1,h2⟩=>⟨p,h1,BX h2⟩,λ⟨p,h1,h2⟩=>⟨p,h1,BW h2⟩⟩
 unfold putK;rw [e]
 by_cases h:k∈kvs.map (·.1)
 ·rw [BL<|BW h,BL h,Ci];refine Cs λp _=>?_;show(if p.1=k then(p.1,v) else p).1=p.1
  split <;> rfl
 ·rw [BK (by simpa using h),BK h,Ai];rfl
structure bZ(ls:List Bl)(f:Str)(hr:Option Str)(kvs:List<|Key×V)(wt:List Str):Prop where
 dB:(kvs.map (·.1)).Nodup
 txt:∀ k∈kvs.map (·.1),∃ x,k=Sum.inr x/\x∈f :: qk ls
 val:∀ x v,al kvs (Sum.inr x)=some v->∃ b,v = .bl b/\Way ls f x b
 fst:has kvs f
 sI:∀ x∈wt,has kvs x
 yZ:∀ x,some x=hr->has kvs x
 cls:∀ x,has kvs x->x∈wt\/some x=hr\/∀ y o,dq ls x y o->has kvs y
def bZ.iR{ls:List Bl}{f:Str}{hr:Option Str}{kvs:List (Key×V)}{wt:List Str}(I:bZ ls f hr kvs wt){g:Str}(hg:al kvs (Sum.inr g)=none):Sum.inr g∉kvs.map (·.1):=by
 intro hm;obtain⟨p,hp,e⟩:=Aj.mp hm;have:∃ i:Nat,kvs[i]?=some p:=Be hp;obtain⟨i,hi⟩:=this;have:∀{l:List (Key×V)},(∃ q∈l,q.1=Sum.inr g)->al l (Sum.inr g)≠none:=λ{l}=>by
  induction l with
  | nil=>rintro ⟨q,hq,_⟩;cases hq
  | cons c r ih=>
   rintro ⟨q,hq,e⟩ hn
   by_cases hc:c.1=Sum.inr g
   ·rw [gj hc] at hn;cases hn
   ·rw [gk hc] at hn
    rcases Al.mp hq with rfl | hq
    ·exact hc e
    ·exact ih ⟨q,hq,e⟩ hn
 exact this ⟨p,hp,e⟩ hg
def bZ.whole{ls:List Bl}{f:Str}{kvs:List (Key×V)}(I:bZ ls f none kvs []):∀ x b,Way ls f x b->∃ b',al kvs (Sum.inr x)=some (.bl b'):=by
 have jR:∀ x b,Way ls f x b->has kvs x:=λx b w=>by
  induction w with
  | here=>exact I.fst
  | there w hm ih=>
   rcases I.cls _ ih with d | d | d
   ·cases d
   ·cases d
   ·exact d _ _<|.inl hm
  | back w hm ih=>
   rcases I.cls _ ih with d | d | d
   ·cases d
   ·cases d
   ·exact d _ _<|.inr hm
 intro x b w;obtain⟨v,hv⟩:=jR x b w;obtain⟨b',e,_⟩:=I.val x v hv;exact⟨b',by rw [hv,e]⟩
theorem vw{kvs:List (Key×V)}(hn:(kvs.map (·.1)).Nodup){k:Key}{v:V}:(k,v)∈kvs↔al kvs k=some v:=by
 induction kvs with
 | nil=>exact⟨λh=>(by cases h),λh=>(by cases h)⟩
 | cons c r ih=>
  rw [Bh,Bi] at hn;obtain⟨c1,c2⟩:=c
  by_cases hc:c1=k
  ·subst hc;rw [gj rfl]
   constructor
   ·intro h
    rcases Al.mp h with e | e
    ·cases e;rfl
    ·exact absurd (Aj.mpr ⟨_,e,rfl⟩) hn.1
   ·intro h;cases h;exact Ah ..
  ·rw [gk hc,<- ih hn.2]
   constructor
   ·intro h
    rcases Al.mp h with e | e
    ·cases e;exact absurd rfl hc
    ·exact e
   ·exact Ak _
open PyProof.Rows (sortedS)
def cm(n:Net):Prop:=∀ P:Str->Prop,(∃ r∈n,P r.1)->(∀ r∈n,∀ s∈n,∀ t,t∈r.2->t∈s.2->P r.1->P s.1)->∀ r∈n,P r.1
def P6{n m:Net}(h1:∀ r∈n,∃ s∈m,s.1=r.1/\∀ t∈r.2,t∈s.2)(h2:∀ s∈m,∃ r∈n,r.1=s.1)(h:cm n):cm m:=by
 rintro P ⟨s,hs,ps⟩ cl s' fb;obtain⟨r,hr,er⟩:=h2 s hs;obtain⟨r',kz,er'⟩:=h2 s' fb;rw [<- er'];refine h P ⟨r,hr,by rw [er];exact ps⟩ (λa ha b hb t ta tb pa=>?_) r' kz;obtain⟨a',y4,ea,sa⟩:=h1 a ha;obtain⟨b',kh,eb,sb⟩:=h1 b hb;rw [<- eb];exact cl a' y4 b' kh t (sa t ta) (sb t tb)<|by rw [ea];exact pa
def k80(r:Str×List Str):cm [r]:=by
 rintro P ⟨s,hs,ps⟩ _ x hx;rw [Ag] at hs hx;rw [hx,<- hs];exact ps
def Gh(n:Net)(c:End)(z:Str)(i:Nat):(ins n c z)[i]?=(n[i]?).map λr=>if c.1=i then(r.1,r.2.take c.2++z :: r.2.drop c.2) else r:=by
 unfold ins;rw [Fa]
 by_cases h:c.1=i
 ·simp [h]
 ·simp [h]
def Gi{n:Net}{c:End}{z:Str}(h:cm n):cm (ins n c z):=by
 refine P6 (λr hr=>?_) (λs hs=>?_) h
 ·obtain⟨i,hi⟩:=Be hr;have e:=Gh n c z i;rw [hi] at e;refine⟨_,At e,?_,λt ht=>?_⟩
  ·split <;> rfl
  ·split
   ·show t∈r.2.take c.2++z :: r.2.drop c.2;rw [<- Cv c.2 r.2] at ht
    rcases An.mp ht with q | q
    ·exact Az _ q
    ·exact Au _<|Ak _ q
   ·exact ht
 ·obtain⟨i,hi⟩:=Be hs;rw [Gh,Ap] at hi;obtain⟨r,hr,e⟩:=hi;refine⟨r,At hr,?_⟩;rw [<- e]
  split <;> rfl
def q3h{n:Net}{c:End}{z:Str}(hc:c.1 < n.length):∃ r∈ins n c z,z∈r.2:=by
 have e:=Gh n c z c.1;rw [Ab hc] at e;refine⟨_,At e,?_⟩;show z∈(if c.1=c.1 then((n[c.1].1,n[c.1].2.take c.2++z :: n[c.1].2.drop c.2):Str×List Str) else n[c.1]).2;rw [BL rfl];exact Au _<|Ah ..
def k7j{n:Net}{z pt:Str}(h:cm n)(hz:∃ r∈n,z∈r.2):cm (n++[(pt,[z])]):=by
 obtain⟨r,hr,zr⟩:=hz;rintro P ⟨s,hs,ps⟩ cl x hx;have mn:((pt,[z]):Str×List Str)∈n++[(pt,[z])]:=Au _<|Ag.mpr rfl;have ml:∀{y},y∈n->y∈n++[(pt,[z])]:=λhy=>Az _ hy;have all:∀ y∈n,P y.1:=by
  refine h P ?_ λa ha b hb t ta tb pa=>cl a (ml ha) b (ml hb) t ta tb pa
  rcases An.mp hs with q | q
  ·exact⟨s,q,ps⟩
  ·rw [Ag] at q;subst q;exact⟨r,hr,cl _ mn r (ml hr) z (Ag.mpr rfl) zr ps⟩
 rcases An.mp hx with q | q
 ·exact all x q
 ·rw [Ag] at q;subst q;exact cl r (ml hr) _ mn z zr (Ag.mpr rfl)<|all r hr
def cB(zs:List Str):Prop:=zs.Pairwise λa b=>a.cps.toList < b.cps.toList
theorem sJ:∀{zs:List Str},sortedS zs=true->zs.Nodup->cB zs
 | [],_,_=>List.Pairwise.nil
 | z :: r,h,hn=>by
  rw [Bi] at hn;refine List.Pairwise.cons (λx hx=>?_)<|sJ (bU.eQ h) hn.2;have h1:=bU.dW r z h x hx
  rcases List.le_iff_lt_or_eq.mp h1 with q | q
  ·exact q
  ·exact absurd hx<|by rw [<- bU.iH q];exact hn.1
def ql{zs:List Str}(h:cB zs):zs.Nodup:=h.imp λq e=>by rw [e] at q;exact Fv _ q
theorem y7:∀{a b:List Str},cB a->cB b->(∀ x,x∈a↔x∈b)->a=b
 | [],[],_,_,_=>rfl
 | [],y :: b,_,_,h=>by have:=(h y).mpr<|Ah ..;cases this
 | x :: a,[],_,_,h=>by have:=(h x).mp<|Ah ..;cases this
 | x :: a,y :: b,ha,hb,h=>by
  unfold cB at ha hb;rw [Fp] at ha hb;have exy:x=y:=by
   rcases Al.mp ((h x).mp<|Ah ..) with e | e
   ·exact e
   ·rcases Al.mp ((h y).mpr<|Ah ..) with e2 | e2
    ·exact e2.symm
    ·exact absurd (Gg (ha.1 y e2)<|hb.1 x e)<|Fv _
  subst exy;have nx:∀(l:List Str),(∀ z∈l,x.cps.toList < z.cps.toList)->x∉l:=λl hl hm=>Fv _<|hl x hm;have:a=b:=y7 ha.2 hb.2 λz=>by
   constructor
   ·intro hz
    rcases Al.mp ((h z).mp<|Ak _ hz) with e | e
    ·exact absurd (e ▸ hz)<|nx a ha.1
    ·exact e
   ·intro hz
    rcases Al.mp ((h z).mpr<|Ak _ hz) with e | e
    ·exact absurd (e ▸ hz)<|nx b hb.1
    ·exact e
  rw [this]
def mK(n:Net)(ps:List Str)(z:Str):Prop:=∃ e,aG n e=some z/\bb n e.1∈ps/\bb n (other n e).1∉ps
def q3f{n:Net}{ps:List Str}{z:Str}(h:mK n ps z):z∈ag n:=by
 obtain⟨e,he,_⟩:=h;exact eI he
def Gj{n:Net}(T:aw n){ps:List Str}{z:Str}{e:End}(he:aG n e=some z):mK n ps z↔(decide (bb n e.1∈ps) != decide (bb n (other n e).1∈ps))=true:=by
 have o:=c8 T he
 constructor
 ·rintro ⟨x,hx,h1,h2⟩
  rcases (jh T he).mp hx with q | q
  ·subst q;simp [h1,h2]
  ·subst q;rw [o.2.1] at h2;simp [h1,h2]
 ·intro h
  by_cases h1:bb n e.1∈ps
  ·by_cases h2:bb n (other n e).1∈ps
   ·simp [h1,h2] at h
   ·exact⟨e,he,h1,h2⟩
  ·by_cases h2:bb n (other n e).1∈ps
   ·exact⟨other n e,o.1,h2,by rw [o.2.1];exact h1⟩
   ·simp [h1,h2] at h
def P7{n:Net}(T:aw n){x:Lk}(h:oB n x):∃ e,aG n e=some x.1/\x.2.1=bb n e.1/\x.2.2=bb n (other n e).1:=by
 obtain⟨a,b,hp,h1,h2⟩:=h;have ha:aG n a=some x.1:=aH.mp (by rw [hp];exact Ah ..);have hb:aG n b=some x.1:=aH.mp (by rw [hp];simp);have jv:=Oz n x.1;rw [hp] at jv;have gs:b≠a:=λq=>by rw [q] at jv;simp at jv
 rcases (jh T ha).mp hb with q | q
 ·exact absurd q gs
 ·exact⟨a,ha,h1,by rw [h2,q]⟩
def P8{n:Net}(T:aw n){e:End}{z:Str}(h:aG n e=some z):oB n (z,bb n e.1,bb n (other n e).1)\/oB n (z,bb n (other n e).1,bb n e.1):=by
 obtain⟨a,b,hp,gs,hh⟩:=pR T h;have ha:aG n a=some z:=aH.mp (by rw [hp];exact Ah ..);have hb:aG n b=some z:=aH.mp<|by rw [hp];simp
 rcases hh with q | q
 ·subst q;refine .inl ⟨e,b,hp,rfl,?_⟩
  rcases (jh T h).mp hb with q | q
  ·exact absurd q.symm gs
  ·show bb n (other n e).1=bb n b.1;rw [q]
 ·subst q;refine .inr ⟨a,e,hp,?_,rfl⟩
  rcases (jh T h).mp ha with q | q
  ·exact absurd q gs
  ·show bb n (other n e).1=bb n a.1;rw [q]
def Gk{n:Net}(T:aw n){ps:List Str}{x:Lk}(h:oB n x):mK n ps x.1↔(decide (x.2.1∈ps) != decide (x.2.2∈ps))=true:=by
 obtain⟨e,he,h1,h2⟩:=P7 T h;rw [h1,h2];exact Gj T he
def cI(n:Net):Str:=bb n 0
structure bx(n:Net)(ss sd:List Str):Prop where
 lH:cB sd
 mem:∀ x∈sd,x∈n.map (·.1)
 fst:cI n∉sd
 cut:∀ z,z∈ss↔mK n sd z
structure Tells(n:Net)(ss:List Str)(ls:List Bl):Prop where
 to:∀ e z,aG n e=some z->dq ls (bb n e.1) (bb n (other n e).1) (decide (z∈ss))
 P9:∀ l∈ls,∃ e z,aG n e=some z/\l=(bb n e.1,bb n (other n e).1,decide (z∈ss))
theorem P'{n:Net}(T:aw n){ss sd:List Str}{ls:List Bl}(t:Tells n ss ls)(hc:∀ z,z∈ss↔mK n sd z){f x:Str}{b:Bool}(w:Way ls f x b):decide (x∈sd)=(decide (f∈sd) != b):=by
 have step:∀{x y:Str} {o:Bool},(x,y,o)∈ls->o=(decide (x∈sd) != decide (y∈sd)):=λ{x y o} h=>by
  obtain⟨e,z,he,hl⟩:=t.P9 _ h;have h1:x=bb n e.1:=BZ (·.1) hl;have h2:y=bb n (other n e).1:=BZ (·.2.1) hl;have h3:o=decide (z∈ss):=BZ (·.2.2) hl;rw [h1,h2,h3,Da,CZ,hc z];exact Gj T he
 induction w with
 | here=>simp
 | @there x y b o w h ih=>
  rw [step h,ih];cases decide (f∈sd) <;> cases b <;> cases decide (y∈sd) <;> rfl
 | @back x y b o w h ih=>
  rw [step h,ih];cases decide (f∈sd) <;> cases b <;> cases decide (y∈sd) <;> rfl
def y8{n:Net}(T:aw n){ss sd:List Str}{ls:List Bl}(t:Tells n ss ls)(h:bx n ss sd){x:Str}{b:Bool}(w:Way ls (cI n) x b):decide (x∈sd)=b:=by
 rw [P' T t h.cut w,BR h.fst];simp
def oD{n:Net}{i:Nat}(h:i < n.length):bb n i∈n.map (·.1):=by
 rw [jg h];exact Aj.mpr ⟨_,Bs h,rfl⟩
def q40{n:Net}(T:aw n)(h:cm n)(h0:0 < n.length){ss:List Str}{ls:List Bl}(t:Tells n ss ls):∀ x∈n.map (·.1),∃ b,Way ls (cI n) x b:=by
 intro x hx;obtain⟨r,hr,rfl⟩:=Aj.mp hx;refine h (λx=>∃ b,Way ls (cI n) x b) ⟨n[0],Bs h0,false,?_⟩ (λr hr s hs z zr zs ⟨b,w⟩=>?_) r hr
 ·have:cI n=n[0].1:=jg h0;rw [<- this];exact .here
 ·obtain⟨i,hi,rfl⟩:=Cz.mp hr;obtain⟨j,hj,rfl⟩:=Cz.mp hs;obtain⟨p,hp⟩:=Be zr;obtain⟨q,hq⟩:=Be zs;have h1:aG n (i,p)=some z:=by show(row n i)[p]?=_;rw [jd hi];exact hp
  have h2:aG n (j,q)=some z:=by show(row n j)[q]?=_;rw [jd hj];exact hq
  rcases (jh T h1).mp h2 with e | e
  ·have:j=i:=BZ (·.1) e;subst this;exact⟨b,w⟩
  ·have tt:=t.to _ _ h1;rw [<- e] at tt;rw [show bb n ((i,p):End).1=n[i].1 from jg hi,show bb n ((j,q):End).1=n[j].1 from jg hj] at tt
   rcases tt with tt | tt
   ·exact⟨_,.there w tt⟩
   ·exact⟨_,.back w tt⟩
noncomputable def qm(n:Net)(ss:List Str):List Bl:=(ends n).map λe=>(bb n e.1,bb n (other n e).1,decide ((aG n e).getD ⟨#[]⟩∈ss))
def Gm{n:Net}{ss:List Str}:Tells n ss (qm n ss):=by
 refine⟨λe z h=> .inl (Aj.mpr ⟨e,af.mpr ⟨z,h⟩,by rw [h];rfl⟩),λl hl=>?_⟩;obtain⟨e,he,q⟩:=Aj.mp hl;obtain⟨z,hz⟩:=af.mp he;exact⟨e,z,hz,by rw [<- q,hz];rfl⟩
def k6x{n:Net}(T:aw n){ss:List Str}{ls:List Lk}(h:∀ x,x∈ls↔oB n x):Tells n ss (ls.map λx=>(x.2.1,x.2.2,decide (x.1∈ss))):=by
 refine⟨λe z he=>?_,λl hl=>?_⟩
 ·rcases P8 T he with q | q
  ·exact .inl<|Aj.mpr ⟨_,(h _).mpr q,rfl⟩
  ·exact .inr<|Aj.mpr ⟨_,(h _).mpr q,rfl⟩
 ·obtain⟨x,hx,q⟩:=Aj.mp hl;obtain⟨e,he,h1,h2⟩:=P7 T<|(h x).mp hx;exact⟨e,x.1,he,by rw [<- q,h1,h2]⟩
def j98{n:Net}(T:aw n){ss sd:List Str}{ls:List Bl}(t:Tells n ss ls)(hs:cB sd)(hm:∀ x∈sd,x∈n.map (·.1))(hc:∀ z,z∈ss↔mK n sd z){b:Bool}(w:Way ls (cI n) (cI n) b)(hb:cI n∈sd↔b=true):bx n ss sd:=by
 refine⟨hs,hm,λhf=>?_,hc⟩;have e:=P' T t hc w;rw [hb.mp hf,BW hf] at e;cases e
def Gn{n:Net}(T:aw n){e:End}{z:Str}(h:aG n e=some z):(other n e).1 < n.length:=dz (c8 T h).1
def q0b{X:Cx}{H:Hp}{k:Nat}(y z:Str):jz X H k (.str y) (.str z) (decide (y=z)):=by
 have:=pP (X:=X) (H:=H) (k:=k) (x:= .str y) (y:= .str z) rfl rfl;have e:cE (.str y) (.str z)=decide (y=z):=by
  show(y == z)=_;rw [Da,CZ];simp
 rw [e] at this;exact this
def q5w(ys zs:List Str)(h:ys.length=zs.length):(List.range ys.length).all (λj=>decide (ys[j]?=zs[j]?))=decide (ys=zs):=by
 rw [Da,Dj,CZ]
 constructor
 ·intro q;refine Do λj=>?_
  by_cases hj:j < ys.length
  ·exact BX<|q j<|Cb.mpr hj
  ·rw [Bc (by omega),Bc<|by omega]
 ·rintro rfl j _;exact BW rfl
def k8c{X:Cx}{H:Hp}{a b:Addr}{ys zs:List Str}(ha:H a=some (Ls ys))(hb:H b=some (Ls zs)):lB X H 1 (.ref a) (.ref b) (decide (ys=zs)):=by
 by_cases hl:ys.length=zs.length
 ·have q:=D7 (X:=X) (k:=0) (λj=>decide (ys[j]?=zs[j]?)) (ai.of (K:=X.K) ha) (ai.of (K:=X.K) hb) (by rw [Aa,Aa,hl]) λj x y hx hy=>by
   rw [Af,Ap] at hx hy;obtain⟨u,hu,rfl⟩:=hx;obtain⟨v,hv,rfl⟩:=hy;have:=q0b (X:=X) (H:=H) (k:=0) u v;have e:decide (ys[j]?=zs[j]?)=decide (u=v):=by
    rw [hu,hv,Da,CZ,CZ];exact⟨Option.some.inj,λh=>by rw [h]⟩
   rw [e];exact this
  rw [Aa,q5w ys zs hl] at q;exact q
 ·have e:decide (ys=zs)=false:=BR λq=>hl (by rw [q]);rw [e];exact Yl (ai.of ha) (ai.of hb)<|by rw [Aa,Aa];exact hl
theorem Qa{n:Net}(T:aw n){ss:List Str}{ls:List Bl}(t:Tells n ss ls)(h0:0 < n.length){x:Str}{b:Bool}(w:Way ls (cI n) x b):x∈n.map (·.1):=by
 have k:∀{x y:Str} {o:Bool},(x,y,o)∈ls->x∈n.map (·.1)/\y∈n.map (·.1):=λ{x y o} h=>by
  obtain⟨e,z,he,hl⟩:=t.P9 _ h;have h1:x=bb n e.1:=BZ (·.1) hl;have h2:y=bb n (other n e).1:=BZ (·.2.1) hl;rw [h1,h2];exact⟨oD<|dz he,oD<|Gn T he⟩
 cases w with
 | here=>exact oD h0
 | there w h=>exact(k h).2
 | back w h=>exact(k h).1
def k36{n:Net}(T:aw n){ss:List Str}{ls:List Bl}(t:Tells n ss ls)(h0:0 < n.length){kvs:List (Key×V)}(I:bZ ls (cI n) none kvs []):kvs.length<=n.length:=by
 have:=aE I.dB (b:=(n.map (·.1)).map Sum.inr) λk hk=>by
  obtain⟨x,rfl,_⟩:=I.txt k hk;have:∃ v,al kvs (Sum.inr x)=some v:=by
   cases hv:al kvs (Sum.inr x) with
   | some v=>exact⟨v,rfl⟩
   | none=>exact absurd hk<|I.iR hv
  obtain⟨v,hv⟩:=this;obtain⟨b,_,w⟩:=I.val x v hv;exact Aj.mpr ⟨x,Qa T t h0 w,rfl⟩
 rw [Aa,Aa,Aa] at this;exact this
def k06{n:Net}(T:aw n)(hh:cm n)(h0:0 < n.length){ss sd:List Str}{ls:List Bl}(t:Tells n ss ls){kvs:List (Key×V)}(I:bZ ls (cI n) none kvs [])(hs:cB sd)(hm:∀ x,x∈sd↔al kvs (Sum.inr x)=some (.bl true)) :
  ((∀ z,z∈ss↔mK n sd z)->bx n ss sd)/\∀ jA,bx n ss jA->jA=sd:=by
 constructor
 ·intro hc;obtain⟨b,hb⟩:=I.whole (cI n) false .here;obtain⟨b',e,w⟩:=I.val _ _ hb;cases e;refine j98 T t hs (λx hx=>?_) hc w ?_
  ·obtain⟨b',e,w⟩:=I.val _ _<|(hm x).mp hx;exact Qa T t h0 w
  ·rw [hm,hb];exact⟨λq=>V.bl.inj<|Option.some.inj q,λq=>by rw [q]⟩
 ·intro jA h;refine y7 h.lH hs λx=>?_;rw [hm]
  constructor
  ·intro hx;obtain⟨b,w⟩:=q40 T hh h0 t x<|h.mem x hx;obtain⟨b',kh⟩:=I.whole x b w;obtain⟨b2,e,w2⟩:=I.val _ _ kh;cases e;have:=y8 T t h w2;rw [BW hx] at this;rw [kh,<- this]
  ·intro hx;obtain⟨b2,e,w2⟩:=I.val _ _ hx;cases e;exact BX<|y8 T t h w2
open PyProof.Rows (sortedS)
theorem k98{kvs:List (Key×V)}{k:Key}(hg:al kvs k=none):k∉kvs.map (·.1):=by
 induction kvs with
 | nil=>intro h;cases h
 | cons c r ih=>
  intro h
  by_cases hc:c.1=k
  ·rw [gj hc] at hg;cases hg
  ·rw [gk hc] at hg
   rcases Al.mp h with q | q
   ·exact hc q.symm
   ·exact ih hg q
def q7q{a b:Nat}(h:a≠b):¬(Sum.inl (a:Int):Key)=Sum.inl (b:Int):=λq=>h<|by have:=Sum.inl.inj q;omega
def y9{n:Net}(hn:(n.map (·.1)).Nodup){i j:Nat}(hi:i < n.length)(hj:j < n.length)(h:bb n i=bb n j):i=j:=by
 rw [jg hi,jg hj] at h;have:=(Bg.mp hn);rw [Bt] at this
 rcases QK i j with q | q | q
 ·exact absurd (by rw [Dl,Dl];exact h)<|this i j (by simpa using hi) (by simpa using hj) q
 ·exact q
 ·exact absurd (by rw [Dl,Dl];exact h.symm)<|this j i (by simpa using hj) (by simpa using hi) q
open PyProof.Rows (sortedS)
theorem k4f(a b c:List Str)(h:∀ z,z∈c↔(if z∈a then z∉b else z∈b)):∀ zs:List Str,(zs.filter λz=>c.contains z).length % 2=((zs.filter λz=>a.contains z).length+(zs.filter λz=>b.contains z).length) % 2
 | []=>rfl
 | z :: r=>by
  have ih:=k4f a b c h r;have hz:=h z;have ca:=λ(l:List Str)=>(Dq (as:=l) (a:=z));simp only [Ct]
  by_cases ha:z∈a <;> by_cases hb:z∈b
  ·have hc:z∉c:=λq=>by have:=hz.mp q;rw [BL ha] at this;exact this hb
   rw [BL<|(ca a).mpr ha,BL<|(ca b).mpr hb,BK λq=>hc<|(ca c).mp q,Ax,Ax];omega
  ·have hc:z∈c:=hz.mpr (by rw [BL ha];exact hb);rw [BL<|(ca a).mpr ha,BK λq=>hb<|(ca b).mp q,BL<|(ca c).mpr hc,Ax,Ax];omega
  ·have hc:z∈c:=hz.mpr (by rw [BK ha];exact hb);rw [BK λq=>ha<|(ca a).mp q,BL<|(ca b).mpr hb,BL<|(ca c).mpr hc,Ax,Ax];omega
  ·have hc:z∉c:=λq=>by have:=hz.mp q;rw [BK ha] at this;exact hb this
   rw [BK λq=>ha<|(ca a).mp q,BK λq=>hb<|(ca b).mp q,BK λq=>hc<|(ca c).mp q];exact ih
def kA{n:Net}{ss:List Str}:fC n ss=true↔∀ r∈n,(r.2.filter λz=>ss.contains z).length % 2=0:=by
 unfold fC;rw [Dj];exact⟨λh r hr=>by simpa using h r hr,λh r hr=>by simpa using h r hr⟩
theorem Qb{a:List Str}(hn:a.Nodup):∀ l:List Str,(l.filter λz=>a.contains z).length=(a.map λz=>l.count z).sum
 | []=>by
  have:∀ a:List Str,(a.map λz=>([]:List Str).count z).sum=0:=λa=>by
   induction a with
   | nil=>rfl
   | cons x r ih=>rw [Bh,Fy,ih];rfl
  rw [this];rfl
 | y :: l=>by
  have ih:=Qb hn l;have key:∀ a:List Str,(a.map λz=>(y :: l).count z).sum=(a.map λz=>l.count z).sum+a.count y:=λa=>by
   induction a with
   | nil=>rfl
   | cons x r ih=>
    rw [Bh,Fy,ih,Bh,Fy,Dh,Dh]
    by_cases h:y=x
    ·rw [BL (by simp [h]),BL<|by simp [h]];omega
    ·rw [BK (by simpa using h),BK<|by simpa using λq=>h<|Eq.symm q];omega
  rw [key,Ct,<- ih,hn.count]
  by_cases h:y∈a
  ·rw [BL<|Dq.mpr h,BL h,Ax]
  ·rw [BK λq=>h<|Dq.mp q,BK h];rfl
def Gp{n:Net}(T:aw n){ss:List Str}(hn:ss.Nodup)(hm:∀ z∈ss,z∈ag n):2 * ss.length<=(ag n).length:=by
 have h:=Qb hn<|ag n;have e:∀ l:List Str,(∀ z∈l,z∈ag n)->(l.map λz=>(ag n).count z).sum=2 * l.length:=λl=>by
  induction l with
  | nil=>intro _;rfl
  | cons x r ih=>
   intro hl;rw [Bh,Fy,ih λz hz=>hl z<|Ak _ hz,T x<|hl x<|Ah ..,Ax];omega
 rw [e ss hm] at h;rw [<- h];exact Ck _ _
def HF(n:Net):Prop:=cm n/\Fl n
def q7y{nm:Str}:HF [(nm,[])]:=⟨k80 _,q8j⟩
def k61{n:Net}{c:End}{z pt:Str}(T:aw n)(F:Full n)(hz:z∉ag n)(hc:eU n c) (hp:(ag<|ins n c z++[(pt,[z])]).Perm<|z :: z :: ag n) (P:HF n):HF (ins n c z++[(pt,[z])]):=
 ⟨k7j (Gi P.1)<|q3h hc.1,k77 T F hz hc hp P.2⟩
def q3l{n:Net}{k1 k2:End}{z:Str}(T:aw n)(F:Full n)(hz:z∉ag n)(h1:eU n k1)(h2:eU n k2) (hp:(ag<|ins (ins n k1 z) k2 z).Perm<|z :: z :: ag n) (ord:k2=k1\/sh k1 k2=k2) (same:(∃ k,it (step n) k k1=k2)\/∃ k,it (step n) k k2=k1) (P:HF n):HF (ins (ins n k1 z) k2 z):=
 ⟨Gi<|Gi P.1,q3m T F hz h1 h2 hp ord same P.2⟩
def q2i{n n2 n0:Net}{j i:Nat}(hj:j < n.length)(hi:i < max 1 (row n j).length)(T0:aw n0)(pt:(ag n++ag n2).Perm<|ag n0)
  (gC:(ag (n.eraseIdx j)++ag (n2++[(n[j].1,(row n j).drop i++(row n j).take i)])).Perm<|ag n0) (P:HF<|n++n2):HF (n.eraseIdx j++(n2++[(n[j].1,(row n j).drop i++(row n j).take i)])):=by
 refine⟨P6 (λr hr=>?_) (λx hx=>?_) P.1,q3o hj hi T0 pt gC P.2⟩
 ·rcases An.mp hr with hx | hx
  ·rcases (bU.bV n j hj).symm.mem_iff.mp hx |> Al.mp with q | q
   ·refine⟨(n[j].1,(row n j).drop i++(row n j).take i),Au _<|Au _<|Ag.mpr rfl,by rw [q],λt ht=>?_⟩;refine(FK (row n j) i).mem_iff.mpr ?_;rw [jd hj,<- q];exact ht
   ·exact⟨r,Az _ q,rfl,λt h=>h⟩
  ·exact⟨r,Au _<|Az _ hx,rfl,λt h=>h⟩
 ·rcases An.mp hx with hx | hx
  ·exact⟨x,Az _<|Fm hx,rfl⟩
  ·rcases An.mp hx with hx | hx
   ·exact⟨x,Au _ hx,rfl⟩
   ·rw [Ag] at hx;exact⟨n[j],Az _<|Bs hj,by rw [hx]⟩
theorem Qc(s:Str->Bool):∀ l:List Str,aJ (l.map s)=decide ((l.filter s).length % 2=1)
 | []=>rfl
 | x :: l=>by
  show(s x ^^ aJ (l.map s))=_;rw [Qc s l,Ct];cases h:s x
  ·rw [BK (by decide),Ge]
  ·rw [BL rfl,Ax,Bool.true_xor,<- decide_not];exact decide_eq_decide.mpr<|by omega
def q8v{n:Net}{ss:List Str}(h:fC n ss=true):fB n (λz=>ss.contains z):=λr=>by
 rw [Qc]
 by_cases hr:r < n.length
 ·have:=kA.mp h n[r]<|Bs hr;rw [jd hr];exact BR<|by omega
 ·have:row n r=[]:=by
   unfold row;rw [Bc<|by omega];rfl
  rw [this];rfl
theorem Qd{α:Type}:∀ l:List α,aJ (l.map λ_=>false)=false
 | []=>rfl
 | _ :: l=>by show(false ^^ aJ _)=false;rw [Qd l];rfl
end Nt
namespace Q2
open PySem L2 Nt bB
def Gq:Sp:=λvs H Q _=>∃(R:Addr) (as:List<|Addr×Addr) (n:Net) (b:Int) (z pt:Str),vs=[.ref R,.int b,.str z,.str pt]/\ak H R as n/\aw n/\Full n/\z∉ag n/\n.length<=100/\(ag n).length<=100 /\
 ∀ i qo n' H',ak H' R qo n'->p5 H H' (R :: as.map (·.2))->(∀ a∈qo,a∈as\/H a.2=none)->(ag n').Perm (z :: z :: ag n)->(n'.map (·.1)=n.map (·.1)\/n'.map (·.1)=n.map (·.1)++[pt])->Full n'->(HF n->HF n')->Q (.int i) H'
section
variable{P:Program}{w:World}{K:PySem.W.Frag}{mg:Str->Option Value}{base:Heap}
abbrev NP:List Str:=["_law_rows","_law_big_here","_law_tie","_law_point","_law_corners","_law_r","_law_place","_law_one","_law_kind","_law_face_here","_law_other_here","_law_spot"]
def oE:ao NP ["_law_rows","_law_big_here","_law_tie","_law_point"] (aP pX):=⟨rfl,rfl,rfl,by decide +kernel,rfl,by decide +kernel,by decide +kernel⟩
def Qe{ts:List Addr}{j:Nat}{t:Addr}(h:ts[j]?=some t):eY (ts.map V.ref) (j:Int)=some (.ref t):=nM<|by rw [Af,h];rfl
def q7h{f:Addr}{fd:FuncData}(F:bu K "_law_put" "_law_put" pX f fd)(T:Txt mg)
  (GS:aO P w K mg base 3 "_law_seats" ["_law_rows"] yL)
  (GF:aO P w K mg base 3 "_law_face" ["_law_rows","_law_seats_here","_law_end"] FD) :
  aC P w K mg base bA 4 f fd ["_law_rows","_law_big_here","_law_tie","_law_point"] Gq:=by
 refine F.gb oE (λvs H Q E h=>?_) λb0 H vs Q E hr h=>?_
 ·obtain⟨R,as,n,b,z,pt,rfl,_⟩:=h;rfl
 obtain⟨R,as,n,b,z,pt,rfl,hR,hT,hF,hz,hn,htn,q⟩:=h;have nd:=oE.nd;have hu:=hr.gq;have bY:=hR.len;show Run _ _ _ [some<|.ref R,some<|.int b,some<|.str z,some<|.str pt,none,none,none,none,none,none,none,none] H;refine aT 4 nd<|dU<|aA ⟨Z0,λlc Qf=>?_⟩;have g0:=aK Qf<|.lst [];refine mq T.range (bX eB T.len DR<|aj<|ae 0<|aA ⟨R,_,rfl,.inl<|ai.of<|g0 _ _ hR.lst,_,rfl,by omega,by rw [Aa];omega,?_⟩);rw [Aa,bY,Bf];refine mr (λr σ H3=>∃(ts:List Addr) (cs:List Nt.End) (u1 u2:Option V),ah H H3/\H3 lc=some (.lst<|ts.map V.ref)/\Pd H3 ts cs/\(∀ c∈cs,eU n c)/\(0 < r->cs≠[])/\cs.length<=101 * r/\σ=[some<|.ref R,some<|.int b,some<|.str z,some<|.str pt,some<|.ref lc,u1,u2,none,none,none,none,none]) ⟨[],[],_,_,g0,av,.nil,λc hc=>(nomatch hc),λh=>absurd h (by decide),Am _,rfl⟩ ?_ ?_
 ·rintro r σ H3 hi ⟨ts,cs,u1,u2,sH,el,ep,hc,bw,hlen,rfl⟩;rw [Dg];refine aW 5 nd ?_;obtain⟨a,ea,eR,et,ell,er⟩:=(hR.same sH).at hi;have jB:=jb n r;refine mq T.range<|bX (My rfl) T.max TV<|aj<|aD<|aj<|bX eB T.len DR<|aj<|aZ ce<|aZ cv<|ae 0<|ae 5 ⟨R,_,_,.ref a.1,rfl,rfl,ai.of<|sH _ _ hR.lst,eR,aD ⟨a.1,_,_,.ref a.2,rfl,rfl,aM.of et,rfl,aA ⟨a.2,_,rfl,.inl<|ai.of ell,?_⟩⟩⟩;rw [Aa];have em:(if((row n r).length:Int) > 1 then((row n r).length:Int) else 1)=((max 1 (row n r).length:Nat):Int):=by
   split <;> omega
  refine aA ⟨1,_,rfl,((max 1 (row n r).length:Nat):Int),by rw [em],by omega,by omega,?_⟩;rw [Bf];refine mr (λp σ H4=>∃(ts:List Addr) (cs:List Nt.End) (u2:Option V),ah H H4/\H4 lc=some (.lst<|ts.map V.ref)/\Pd H4 ts cs/\(∀ c∈cs,eU n c)/\(0 < r+p->cs≠[])/\cs.length<=101 * r+p/\σ=[some<|.ref R,some<|.int b,some<|.str z,some<|.str pt,some<|.ref lc,some<|.int (r:Int),u2,none,none,none,none,none]) ⟨ts,cs,_,sH,el,ep,hc,bw,hlen,rfl⟩ ?_ ?_
  ·rintro p σ H4 hp ⟨ts,cs,u2,sH,el,ep,hc,bw,hlen,rfl⟩;rw [Dg];refine aW 6 nd ?_;refine g5<|j3<|ae 4 ⟨lc,rfl,⟨_,el⟩,eC<|aj<|ae 5<|aj<|ae 6<|aA ⟨Z2,λt ht=>?_⟩⟩;have j6:lc≠t:=bd el ht;have s2:=aK ht<|Tp (r,p);have Gr:=ep.length;refine⟨ts.map V.ref,by rw [au j6];exact el,by rw [Aa];exact bH (by omega),?_⟩;refine a7 ⟨ts++[t],cs++[(r,p)],_,db (sH.trans s2) Qf,by rw [av,Ai];rfl,?_,λc h=>?_,λ_=>by simp,by rw [Ad];simp;omega,rfl⟩
   ·refine Pd.append (ep.keep λx e h=>?_)<|.cons ?_ .nil
    ·rw [au<|uO h el];exact s2 _ _ h
    ·rw [au j6.symm,av]
   ·rcases An.mp h with h | h
    ·exact hc c h
    ·rw [Ag] at h;subst h;exact⟨hi,hp⟩
  ·rintro σ H4 ⟨ts,cs,u2,sH,el,ep,hc,bw,hlen,rfl⟩;refine a7 ⟨ts,cs,_,_,sH,el,ep,hc,λ_=>bw (by omega),by omega,rfl⟩
 rintro σ H3 ⟨ts,cs,u1,u2,sH,el,ep,hc,bw,hlen,rfl⟩;have DE:0 < n.length:=De.mpr hF.some;have jL:=bw DE;have dR:0 < cs.length:=De.mpr jL;have Gr:=ep.length;have m0:0<=b % (cs.length:Int):=Bz _ (by omega);have m1:b % (cs.length:Int) < cs.length:=Cg _ (by omega);obtain⟨j,hj⟩:∃ j:Nat,b % (cs.length:Int)=j:=⟨(b % (cs.length:Int)).toNat,by omega⟩;have sf:j < cs.length:=by omega
 have zb:cs[j]?=some cs[j]:=Ab sf;obtain⟨t1,lI,e1⟩:=ep.at zb;have iu:eU n cs[j]:=hc _<|Bs sf;generalize cs[j]=c1 at e1 iu;refine aT 7 nd<|aZ cv<|ae 4<|aY cO<|ae 1<|bX eB T.len DR<|aj<|ae 4<|aA ⟨lc,_,rfl,.inl<|ai.of el,?_⟩;rw [Aa,Gr];refine⟨_,_,rfl,rfl,by omega,lc,_,_,.ref t1,rfl,rfl,ai.of el,by rw [hj];exact Qe lI,?_⟩;refine aT 1 nd<|aY iz<|ae 1<|bX eB T.len DR<|aj<|ae 4<|aA ⟨lc,_,rfl,.inl<|ai.of el,?_⟩;rw [Aa,Gr];refine⟨_,_,rfl,rfl,⟨by omega,by omega⟩,?_⟩;show Run _ _ _ [some<|.ref R,some<|.int<|b / (cs.length:Int),some<|.str z,some<|.str pt,some<|.ref lc,u1,u2,some<|.ref t1,none,none,none,none] H3;generalize b / (cs.length:Int)=b2;refine aT 8 nd (aY cO<|ae 1<|aD ⟨_,_,rfl,rfl,(by show(0:Int) < 3;decide),?_⟩);refine aT 1 nd (aY iz<|ae 1<|aD ⟨_,_,rfl,rfl,⟨by decide,by decide⟩,?_⟩);show Run _ _ _ [some<|.ref R,some<|.int<|b2 / 3,some<|.str z,some<|.str pt,some<|.ref lc,u1,u2,some<|.ref t1,some<|.int<|b2 % 3,none,none,none] H3;generalize b2 / 3=b3;have sK:=hR.same sH;obtain⟨a,ea,eR,eta,Qg,era⟩:=sK.at iu.1;have Qh:∀(m:Net),(ag m).length<=200->∀ i,(row m i).length<=200:=λm h i=>Bv (jb m i) h;have cin:c1.2<=(row n c1.1).length:=by
  have:=iu.2;omega
 refine gM<|cz i0<|ae 8<|aD ⟨rfl,_,rfl,?_⟩;refine gg (λ_=>?_) λ_=>a7 ?_
 ·
  have rl:=jb n c1.1;refine g5<|D8 CW QZ RB Ot<|aZ ce<|aZ cv<|ae 0<|aZ ce<|ae 7<|aD ⟨t1,_,_,.int (c1.1:Int),rfl,rfl,aM.of e1,rfl,R,_,_,.ref a.1,rfl,rfl,ai.of sK.lst,eR,aD ⟨a.1,_,_,.ref a.2,rfl,rfl,aM.of eta,rfl,Or.inl ⟨rfl,_,ai.of Qg⟩,?_⟩⟩;refine aZ ce (ae 7<|aD ⟨t1,_,_,.int (c1.2:Int),rfl,rfl,aM.of e1,rfl,ae 2 ⟨a.2,_,_,_,rfl,rfl,Qg,by omega,by rw [Bf,Aa];exact cin,by rw [Aa];exact bH (by omega),?_⟩⟩);rw [Bf,OQ];have R4:=sK.ins (z:=z) ea iu.1;refine g5<|j3<|ae 0 ⟨R,rfl,⟨_,R4.lst⟩,eC<|aj<|ae 3<|aj<|dU<|aj<|ae 2<|aA ⟨Z1,λl1 iS=>?_⟩⟩;refine aA ⟨Z2,λt2 iG=>?_⟩;have s5:=aK iS<|Ls [z];have s6:=aK iG<|.tup [.str pt,.ref l1];have R6:=(R4.same s5).same s6;refine⟨_,R6.lst,by rw [Aa];exact bH (by omega),?_⟩;have l1f:H3 l1=none:=by
   by_cases q1:l1=a.2
   ·rw [q1,av] at iS;cases iS
   ·rwa [au q1] at iS
  have l1n:l1∉as.map (·.2):=λhm=>by
   obtain⟨x,hx,e⟩:=Aj.mp hm;exact R4.fresh iS hx e.symm
  have l1R:l1≠R:=λe=>by rw [e,R4.lst] at iS;cases iS
  have R7:=R6.more (t:=t2) (l:=l1) (pt:=pt) (zs:=[z]) av (s6 _ _ av) l1n l1R;have tp:(ag<|ins n c1 z++[(pt,[z])]).Perm (z :: z :: ag n):=by
   unfold ag;rw [Cu];show(ag (ins n c1 z)++[z]).Perm _;exact(Ce).trans<|(lG n c1 z iu.1).cons z
  refine bL<|ae 1<|q _ _ _ _ R7 (λx o hx kC=>?_) (λx hx=>?_) tp (.inr ?_) ?_ λhP=>k61 hT hF hz iu tp hP
  ·have x1:x≠R:=λe=>kC (by rw [e];exact Ah);have x2:x≠a.2:=λe=>kC (Ak _<|by rw [e];exact Aj.mpr ⟨a,At ea,rfl⟩);rw [au x1];refine s6 _ _<|s5 _ _ ?_;rw [au x2];exact sH _ _ hx
  ·rcases An.mp hx with hx | hx
   ·exact .inl hx
   ·rw [Ag] at hx;subst hx;exact .inr<|sH.free l1f
  ·rw [Ai,FE];rfl
  ·refine .inr ⟨by simp,λi hi=>?_⟩;have hfi:=(FG (z:=z) hF iu.1 hF.either).1;rw [Ad] at hi;simp at hi
   rcases Dt i (ins n c1 z).length with h | h
   ·have:=hfi i h;unfold row at this ⊢;rw [Ao h];exact this
   ·unfold row;rw [Ay h,show i - (ins n c1 z).length=0 by omega];simp
 ·
  refine aT 9 nd<|dU<|aj<|ae 7<|aA ⟨Z1,λlf Qi=>?_⟩;have s4:=aK Qi<|.lst [.ref t1];have zc:=sH.trans s4;have qp:=sK.same s4;obtain⟨a0,ea0,qt,sN,Gs,er0⟩:=qp.at DE;have lf0:∀ x∈as,lf≠x.2:=λx hx=>sK.fresh Qi hx;show Run _ _ _ [some<|.ref R,some<|.int b3,some<|.str z,some<|.str pt,some<|.ref lc,u1,u2,some<|.ref t1,some<|.int<|b2 % 3,some<|.ref lf,none,none] (upd H3 lf<|.lst [.ref t1]);refine Ou (λk H'=>ah (upd H3 lf<|.lst [.ref t1]) H'/\(k=true->row n 0≠[])) (λσ' H'=>∃(lf:Addr) (lF:List Addr) (fs:List Nt.End),ah H3 H'/\(∀ x∈as,lf≠x.2)/\H' lf=some (.lst<|lF.map V.ref)/\Pd H' lF fs/\0 < fs.length/\fs.length<=1000/\(∀ c∈fs,eU n c/\∃ k,it (step n) k c1=c) /\
   σ'=[some<|.ref R,some<|.int b3,some<|.str z,some<|.str pt,some<|.ref lc,u1,u2,some<|.ref t1,some<|.int<|b2 % 3,some<|.ref lf,none,none]) ?_ ?_ (λH5 ⟨s5,_⟩=>a7 ⟨lf,[t1],[c1],s4.trans s5,lf0,s5 _ _ av,.cons (s5 _ _<|s4 _ _ e1) .nil,Ez,by show 1<=1000;decide,λc mL=>by rw [Ag] at mL;rw [mL];exact⟨iu,0,rfl⟩,rfl⟩) ?_
  ·refine cz (rO hu)<|aZ ce<|aZ cv<|ae 0<|aD ⟨R,_,_,.ref a0.1,rfl,rfl,ai.of qp.lst,qt,aD ⟨a0.1,_,_,.ref a0.2,rfl,rfl,aM.of sN,rfl,dU<|aA ⟨Z0,λp hp=>?_⟩⟩⟩;have s5:=aK hp<|.lst []
   by_cases h0:row n 0=[]
   ·refine⟨1,_,by decide,yn (k:=0) (xs:=[]) (ys:=[]) (λ_=>true) (ai.of<|by rw [s5 _ _ Gs,h0];rfl) (ai.of av) rfl (λj x y hx _=>by simp at hx),_,rfl,s5,λh=>by cases h⟩
   ·refine⟨1,_,by decide,Om (k:=1) (ai.of<|s5 _ _ Gs) (ai.of (xs:=[]) av) (by rw [Aa];intro h;exact h0<|Bj.mp h),_,rfl,s5,λ_=>h0⟩
  ·rintro H4 ⟨Gu,h0⟩;have h0:=h0 rfl;have qp:=qp.same Gu;have qj:=hF.cH h0 iu;have mM:=iM n;refine aT 9 nd (bG GF hr<|aj<|ae 0<|aj<|bG GS hr<|aj<|ae 0<|aA ⟨R,as,n,rfl,qp,by omega,by omega,λd ks H5 s5 n5 S5=>?_⟩);refine aj (ae 7<|aA ⟨R,d,t1,as,n,ks,c1,rfl,qp.same s5,S5,hT,s5 _ _<|Gu _ _<|s4 _ _ e1,qj,by omega,λl6 ts6 fs6 H6 s6 n6 e6 p6 f6=>?_⟩);exact a7 ⟨l6,ts6,fs6,s4.trans<|Gu.trans<|s5.trans s6,λx hx=>(qp.same s5).fresh n6 hx,e6,p6,f6.pos,by have:=f6.len;omega,λc mL=>⟨Zf<|f6.ends hT qj c mL,q5c f6 mL⟩,rfl⟩
  ·rintro σ' H5 ⟨lf,lF,fs,s5,lfn,Gv,Qj,x0a,x0b,Gw,rfl⟩;have vx:=Qj.length;have n0:0<=b3 % (fs.length:Int):=Bz _ (by omega);have n1:b3 % (fs.length:Int) < fs.length:=Cg _ (by omega);obtain⟨j2,fD⟩:∃ j:Nat,b3 % (fs.length:Int)=j:=⟨(b3 % (fs.length:Int)).toNat,by omega⟩;have vy:j2 < fs.length:=by omega
   have Gx:fs[j2]?=some fs[j2]:=Ab vy;obtain⟨t2,zf,e2⟩:=Qj.at Gx;obtain⟨qu,Gy⟩:=Gw _<|Bs vy;generalize fs[j2]=c2 at e2 qu Gy;have pK:=s5 _ _ e1;refine aT 10 nd<|aZ cv<|ae 9<|aY cO<|ae 1<|bX eB T.len DR<|aj<|ae 9<|aA ⟨lf,_,rfl,.inl<|ai.of Gv,?_⟩;rw [Aa,vx];refine⟨_,_,rfl,rfl,by omega,lf,_,_,.ref t2,rfl,rfl,ai.of Gv,by rw [fD];exact Qe zf,?_⟩;have vz:=sK.same s5;show Run _ _ _ [some<|.ref R,some<|.int b3,some<|.str z,some<|.str pt,some<|.ref lc,u1,u2,some<|.ref t1,some<|.int<|b2 % 3,some<|.ref lf,some<|.ref t2,none] H5;refine jU<|YL T.sorted<|dU<|aj<|ae 7<|aj<|ae 10<|aA ⟨Z2,λl2 gJ=>?_⟩;have s6:=aK gJ<|.lst [.ref t1,.ref t2];refine⟨l2,t1,t2,(c1.1:Int),(c1.2:Int),(c2.1:Int),(c2.2:Int),rfl,av,s6 _ _ pK,s6 _ _ e2,λrr Qk=>?_⟩;have rn:∀ x∈as,rr≠x.2:=λx hx=>(vz.same s6).fresh Qk hx;obtain⟨x1,x2,k1,k2,eV,f1,f2,q1,q2,Gz,vA⟩:∃ x1 x2 k1 k2,(if lexLt ((c1.1:Int),(c1.2:Int)) ((c2.1:Int),(c2.2:Int))=true then [V.ref t2,.ref t1] else [.ref t1,.ref t2])=[.ref x1,.ref x2]/\(upd H5 l2<|.lst [.ref t1,.ref t2]) x1=some (Tp k1)/\(upd H5 l2<|.lst [.ref t1,.ref t2]) x2=some (Tp k2)/\eU n k1/\eU n k2/\(k2=k1\/sh k1 k2=k2)/\((∃ k,it (step n) k k1=k2)\/∃ k,it (step n) k k2=k1):=by
    cases Ql:lexLt ((c1.1:Int),(c1.2:Int)) ((c2.1:Int),(c2.2:Int)) with
    | true=>exact⟨t2,t1,c2,c1,rfl,s6 _ _ e2,s6 _ _ pK,qu,iu,.inr<|k96 Ql,.inr Gy⟩
    | false=>exact⟨t1,t2,c1,c2,rfl,s6 _ _ pK,s6 _ _ e2,iu,qu,k90 Ql,.inl Gy⟩
   rw [eV];have s7:=aK Qk<|.lst [.ref x1,.ref x2];have f1:=s7 _ _ f1;have f2:=s7 _ _ f2;have s6:=s6.trans s7;have fr:=av (H:=upd H5 l2<|.lst [.ref t1,.ref t2]) (a:=rr) (o:= .lst [.ref x1,.ref x2]);generalize upd (upd H5 l2<|.lst [.ref t1,.ref t2]) rr (.lst [.ref x1,.ref x2])=H6 at f1 f2 s6 fr ⊢;have mO:ah H H6:=sH.trans<|s5.trans s6;have hR6:=vz.same s6;have vC:p5 H H6 (R :: as.map (·.2)):=λx o hx _=>mO _ _ hx;refine⟨rr,rfl,⟨_,ai.of fr⟩,jV (xs:=[.ref x1,.ref x2]) (λi σ H7=>∃(m:Net) (u:Option V),ak H7 R as m/\p5 H H7 (R :: as.map (·.2))/\H7 rr=some (.lst [.ref x1,.ref x2])/\H7 lf=some (.lst<|lF.map V.ref)/\H7 x1=some (Tp k1)/\H7 x2=some (Tp k2) /\
    ((i=0/\m=n)\/(i=1/\m=ins n k1 z)\/(i=2/\m=ins (ins n k1 z) k2 z))/\σ=[some<|.ref R,some<|.int b3,some<|.str z,some<|.str pt,some<|.ref lc,u1,u2,some<|.ref t1,some<|.int<|b2 % 3,some<|.ref lf,some<|.ref t2,u]) ⟨n,_,hR6,vC,fr,s6 _ _ Gv,f1,f2,.inl ⟨rfl,rfl⟩,rfl⟩ ?_ ?_ ?_⟩
   ·rintro i σ H7 _ ⟨m,u,_,_,zg,_⟩;exact ai.of zg
   ·rintro i v σ H7 hv ⟨m,u,vD,vE,zg,GA,g1,g2,hm,rfl⟩;have ti1:=(lG n k1 z q1.1).length_eq;rw [Ax] at ti1;obtain⟨y,k,rfl,hy,hk,cR,hml⟩:∃ y k,v = .ref y/\H7 y=some (Tp k)/\eU m k/\((i+1=0/\ins m k z=n)\/(i+1=1/\ins m k z=ins n k1 z)\/(i+1=2/\ins m k z=ins (ins n k1 z) k2 z))/\(ag m).length<=200:=by
     rcases hm with ⟨rfl,rfl⟩ | ⟨rfl,rfl⟩ | ⟨rfl,rfl⟩
     ·cases hv;exact⟨x1,k1,rfl,g1,q1,.inr<|.inl ⟨rfl,rfl⟩,by omega⟩
     ·cases hv;exact⟨x2,k2,rfl,g2,yM q2 q1.1,.inr<|.inr ⟨rfl,rfl⟩,by omega⟩
     ·simp at hv
    refine aW 11 nd ?_;obtain⟨a',Qm,GH,GU,mP,x0c⟩:=vD.at hk.1;have rl:=jb m k.1;have pc:k.2<=(row m k.1).length:=by
     have:=hk.2;omega
    refine g5<|D8 CW QZ RB Ot<|aZ ce<|aZ cv<|ae 0<|aZ ce<|ae 11<|aD ⟨y,_,_,.int (k.1:Int),rfl,rfl,aM.of hy,rfl,R,_,_,.ref a'.1,rfl,rfl,ai.of vD.lst,GH,aD ⟨a'.1,_,_,.ref a'.2,rfl,rfl,aM.of GU,rfl,Or.inl ⟨rfl,_,ai.of mP⟩,?_⟩⟩;refine aZ ce (ae 11<|aD ⟨y,_,_,.int (k.2:Int),rfl,rfl,aM.of hy,rfl,ae 2 ⟨a'.2,_,_,_,rfl,rfl,mP,by omega,by rw [Bf,Aa];exact pc,by rw [Aa];exact bH (by omega),?_⟩⟩);rw [Bf,OQ];have am:a'∈as:=At Qm;refine a7 ⟨ins m k z,_,vD.ins Qm hk.1,λx o hx kC=>?_,by rw [au<|rn a' am];exact zg,by rw [au<|lfn a' am];exact GA,by rw [au<|uO g1 mP];exact g1,by rw [au<|uO g2 mP];exact g2,cR,rfl⟩;have x2:x≠a'.2:=λe=>kC (Ak _<|by rw [e];exact Aj.mpr ⟨a',am,rfl⟩);rw [au x2];exact vE x o hx kC
   ·rintro σ H7 ⟨m,u,vD,vE,zg,GA,g1,g2,hm,rfl⟩;have em:m=ins (ins n k1 z) k2 z:=by
     rcases hm with ⟨h,_⟩ | ⟨h,_⟩ | ⟨_,h⟩
     ·exact absurd h<|by show ¬(2=0);decide
     ·exact absurd h<|by show ¬(2=1);decide
     ·exact h
    refine bL<|aY iz<|ae 1<|bX eB T.len DR<|aj<|ae 9<|aA ⟨lf,_,rfl,.inl<|ai.of GA,?_⟩;rw [Aa,vx];refine⟨_,_,rfl,rfl,⟨by omega,by omega⟩,?_⟩;have fi:=FG (z:=z) hF q1.1 hF.either;have F2:Full (ins n k1 z):= .inr ⟨fi.2,fi.1⟩;have Qn:=FG (z:=z) F2 (yM (z:=z) q2 q1.1).1 F2.either;subst em;exact q _ as _ H7 vD vE (λx hx=> .inl hx) ((lG _ k2 z (yM (z:=z) q2 q1.1).1).trans<|(lG n k1 z q1.1).cons z) (.inl<|by rw [FE,FE]) (.inr ⟨Qn.2,Qn.1⟩) λhP=>q3l hT hF hz q1 q2 ((lG _ k2 z (yM (z:=z) q2 q1.1).1).trans<|(lG n k1 z q1.1).cons z) Gz vA hP
def GV:Sp:=λvs H Q _=>∃(b m sm:Int),vs=[.int b,.int m,.int sm]/\0<=m/\m<=35 /\
 ∀ L as n H',ah H H'->H L=none->ak H' L as n->aw n->(n.map (·.1)).Nodup->Full n->HF n->(ag n).length<=2 * m.toNat->n.length<=m.toNat+1->(∀ a∈as,H a.2=none)->Q (.ref L) H'
abbrev NB:List Str:=["_law_big_here","_law_most","_law_stem","_law_many","_law_ties","_law_points","_law_rows","_law_k","_law_told_here","_law_row","_law_size"]
def oF:ao NB ["_law_big_here","_law_most","_law_stem"] (aP pY):=⟨rfl,rfl,rfl,by decide +kernel,rfl,by decide +kernel,by decide +kernel⟩
def q8g{H:Hp}{d:Addr}{xs:List V}(h:H d=some (.lst xs)):lY K "list" (.ref d) H:=Or.inl ⟨rfl,xs,ai.of h⟩
def oD{b:Int}{m i:Nat}(h:i < m):eY ((namesOf b m).map V.str) (i:Int)=some (.str<|aN b i):=uN<|YZ h
def q74{f:Addr}{fd:FuncData}(F:bu K "_law_net_by" "_law_net_by" pY f fd)(T:Txt mg)
  (GN:aO P w K mg base 4 "_law_names" ["_law_stem","_law_many"] E9)
  (GP:aO P w K mg base 4 "_law_put" ["_law_rows","_law_big_here","_law_tie","_law_point"] Gq) :
  aC P w K mg base bA 5 f fd ["_law_big_here","_law_most","_law_stem"] GV:=by
 refine F.gb oF (λvs H Q E h=>?_) λb0 H vs Q E hr h=>?_
 ·obtain⟨b,m,sm,rfl,_⟩:=h;rfl
 obtain⟨b,m,sm,rfl,m0,m35,q⟩:=h;have nd:=oF.nd;have hu:=hr.gq;have k0:0<=b % (m+1):=Bz _ (by omega);have k1:b % (m+1) < m+1:=Cg _ (by omega);obtain⟨mn,hmn⟩:∃ k:Nat,b % (m+1)=k:=⟨(b % (m+1)).toNat,by omega⟩;have hmm:mn<=m.toNat:=by omega
 show Run _ _ _ [some<|.int b,some<|.int m,some<|.int sm,none,none,none,none,none,none,none,none] H;refine aT 3 nd<|aY cO<|ae 0<|aY fM<|ae 1<|aD ⟨_,_,rfl,rfl,?_⟩;refine⟨_,_,rfl,rfl,(by show 0 < m+1;omega),?_⟩;refine aT 0 nd<|aY iz<|ae 0<|aY fM<|ae 1<|aD ⟨_,_,rfl,rfl,?_⟩;refine⟨_,_,rfl,rfl,(by show t6 b (m+1);exact⟨by omega,by omega⟩),?_⟩;show Run _ _ _ [some<|.int<|b / (m+1),some<|.int m,some<|.int sm,some<|.int<|b % (m+1),none,none,none,none,none,none,none] H;rw [hmn];generalize b / (m+1)=b1;refine aT 4 nd (bG GN hr<|aj<|ae 2<|aj<|ae 3<|aA ⟨sm,(mn:Int),rfl,by omega,by omega,λlt H1 s1 n1 e1=>?_⟩);rw [Bf] at e1;refine aT 5 nd (bG GN hr<|aj<|aZ cv<|dU<|aj<|aY fM<|aY iz<|ae 2<|aD ⟨_,_,rfl,rfl,⟨by decide,by decide⟩,aD ⟨_,_,rfl,rfl,aj<|ae 2<|aA ⟨Z2,λp hp=>?_⟩⟩⟩);refine rH D9 T.mC JH (aj<|gY i0<|aY cO<|ae 2<|aD ⟨_,_,rfl,rfl,(by show(0:Int) < 4;decide),aD ⟨rfl,aA ⟨_,rfl,?_⟩⟩⟩);have s2:=aK hp<|.lst [.int<|sm / 3+1,.int sm];obtain⟨jC,ex⟩:∃ jC:Int,eY [V.int<|sm / 3+1,.int sm] (if decide (V.int (sm % 4)=V.int 1)=true then 1 else 0)=some (.int jC):=by
  cases decide (V.int (sm % 4)=V.int 1) with
  | true=>exact⟨sm,rfl⟩
  | false=>exact⟨sm / 3+1,rfl⟩
 refine⟨p,_,_,.int jC,rfl,rfl,ai.of av,ex,?_⟩;refine aj (aY fM<|ae 3<|aD ⟨_,_,rfl,rfl,aA ⟨jC,(mn:Int)+1,rfl,by omega,by omega,λlp H2 s3 n3 e3=>?_⟩⟩);have em:((mn:Int)+1).toNat=mn+1:=by omega
 rw [em] at e3;have mQ:ah H H2:=s1.trans<|s2.trans s3;have e1:H2 lt=some (Ls<|namesOf sm mn):=s3 _ _<|s2 _ _ e1;show Run _ _ _ [some<|.int b1,some<|.int m,some<|.int sm,some<|.int (mn:Int),some<|.ref lt,some<|.ref lp,none,none,none,none,none] H2;refine aT 6 nd<|dU<|aj<|eC<|aj<|aZ cv<|ae 5<|aD ⟨lp,_,_,.str<|aN jC 0,rfl,rfl,ai.of e3,oD<|VD _,aj<|dU<|aA ⟨Z0,λl1 iS=>?_⟩⟩;refine aA ⟨Z2,λt1 G0=>aA ⟨Z1,λR G'=>?_⟩⟩;have s4:=aK iS<|Ls [];have s5:=aK G0<|.tup [.str<|aN jC 0,.ref l1];have s6:=aK G'<|.lst [.ref t1];have hR0:ak (upd (upd (upd H2 l1<|.lst []) t1<|.tup [.str<|aN jC 0,.ref l1]) R<|.lst [.ref t1]) R [(t1,l1)] [(aN jC 0,[])]:=by
  refine⟨rfl,av,λi a r h1 h2=>?_,by simp⟩;cases i with
  | zero=>
   cases h1;cases h2;exact⟨s6 _ _ av,s6 _ _<|s5 _ _ av⟩
  | succ i=>simp at h1
 have fR:H2 R=none:=s4.free<|s5.free G';show Run _ _ _ [some<|.int b1,some<|.int m,some<|.int sm,some<|.int (mn:Int),some<|.ref lt,some<|.ref lp,some<|.ref R,none,none,none,none] (upd (upd (upd H2 l1<|.lst []) t1<|.tup [.str<|aN jC 0,.ref l1]) R<|.lst [.ref t1]);refine mq T.range (ae 3 ⟨(mn:Int),rfl,by omega,by omega,?_⟩);rw [Bf];refine mr (λk σ H3=>∃(as:List<|Addr×Addr) (n:Net) (b:Int) (u:Option V),ak H3 R as n/\ah H2 H3/\(∀ a∈as,H2 a.2=none)/\Full n/\HF n/\(ag n).Perm (dbl<|namesOf sm k)/\n.map (·.1)=namesOf jC n.length/\n.length<=k+1 /\
  σ=[some<|.int b,some<|.int m,some<|.int sm,some<|.int (mn:Int),some<|.ref lt,some<|.ref lp,some<|.ref R,u,none,none,none]) ⟨_,_,b1,_,hR0,s4.trans<|s5.trans s6,λa ha=>by rw [Ag] at ha;rw [ha];exact iS,.inl ⟨_,rfl⟩,q7y,List.Perm.refl _,rfl,Am _,rfl⟩ ?_ ?_
 ·rintro k σ H3 hk ⟨as,n,b,u,hR,sH,iD,hF,zh,hp,zi,hlen,rfl⟩;rw [Dg];refine aW 7 nd ?_;have bY:=hR.len;have tl:=hp.length_eq;rw [FI,EG] at tl;have nz:aN sm k∉ag n:=λh=>by
   have h1:=iN.mp<|hp.mem_iff.mp h;have h2:=yx (b:=sm) (m:=k+1) (by omega);rw [yy,Cf] at h2;exact h2.2.2 _ h1 _ (Ag.mpr rfl) rfl
  have n0:0 < n.length:=De.mpr hF.some;refine aT 0 nd<|bG GP hr<|aj<|ae 6<|aj<|ae 0<|aj<|aZ cv<|ae 4<|ae 7 ⟨lt,_,_,.str<|aN sm k,rfl,rfl,ai.of<|sH _ _ e1,oD hk,?_⟩;refine aj<|aZ cv<|ae 5<|bX eB T.len DR<|aj<|ae 6<|aA ⟨R,_,rfl,.inl<|ai.of hR.lst,?_⟩;rw [Aa,bY];refine⟨lp,_,_,.str<|aN jC n.length,rfl,rfl,ai.of<|sH _ _ e3,oD (by omega),?_⟩;refine aA ⟨R,as,n,b,aN sm k,aN jC n.length,rfl,hR,OS (yx<|by omega) hp,hF,nz,by omega,by omega,λi qo n' H' hR' kp Hc oG vF hF' He=>?_⟩;have sH':ah H2 H':=λx o hx=>by
   refine kp x o (sH _ _ hx) λhm=>?_
   rcases Al.mp hm with h | h
   ·rw [h,fR] at hx;cases hx
   ·obtain⟨y,hy,e⟩:=Aj.mp h;rw [<- e,iD y hy] at hx;cases hx
  refine a7 ⟨qo,n',i,_,hR',sH',λy hy=>?_,hF',He zh,?_,?_,?_,rfl⟩
  ·rcases Hc y hy with h | h
   ·exact iD y h
   ·exact sH.free h
  ·refine oG.trans ?_;rw [yy,Zh];refine List.Perm.trans ?_ Ce;exact((hp.cons _).cons _)
  ·rcases vF with h | h
   ·have hl:=BZ List.length h;rw [Aa,Aa] at hl;rw [h,hl];exact zi
   ·have hl:=BZ List.length h;rw [Aa,Ad,Aa] at hl;have rZ:n'.length=n.length+1:=hl;rw [h,rZ,yy,zi]
  ·rcases vF with h | h
   ·have hl:=BZ List.length h;rw [Aa,Aa] at hl;omega
   ·have hl:=BZ List.length h;rw [Aa,Ad,Aa] at hl;have rZ:n'.length=n.length+1:=hl;omega
 rintro σ H3 ⟨as0,n0,b,u,hR,sH,iD,hF,Hf,hp,zi,hlen,rfl⟩;have tl:=hp.length_eq;rw [FI,EG] at tl;have Qo:aw n0:=OS (yx<|by omega) hp;have hN0:(n0.map (·.1)).Nodup:=by rw [zi];exact yx<|by omega
 refine aT 8 nd<|dU<|aA ⟨Z0,λL hL=>?_⟩;have s7:=aK hL<|.lst [];have Qp:R≠L:=bd hR.lst hL;have fL:H2 L=none:=sH.free hL;have zj:ak (upd H3 L<|.lst []) L [] []:=⟨rfl,av,λi a r h1=>by simp at h1,by simp⟩;refine uM (λk σ H4=>∃(as oH:List<|Addr×Addr) (n n2:Net) (b:Int) (u9 qv:Option V),k=n.length/\ak H4 R as n/\ak H4 L oH n2/\ah H2 H4/\(∀ a∈as,a.2≠L)/\(∀ a∈oH,a.2≠R)/\(∀ a∈oH,H2 a.2=none)/\n.length+n2.length=n0.length /\
   (ag n++ag n2).Perm (ag n0)/\(n.map (·.1)++n2.map (·.1)).Perm (n0.map (·.1))/\(NE n0->NE n/\NE n2)/\HF (n++n2) /\
   σ=[some<|.int b,some<|.int m,some<|.int sm,some<|.int (mn:Int),some<|.ref lt,some<|.ref lp,some<|.ref R,u,some<|.ref L,u9,qv])
  (m0:=n0.length) ⟨as0,[],n0,[],b,_,_,rfl,hR.same s7,zj,sH.trans s7,λa ha=>(hR.fresh hL ha).symm,λa ha=>(nomatch ha),λa ha=>(nomatch ha),rfl,by simp [ag],by simp,λh=>⟨h,λr hr=>(nomatch hr)⟩,by rw [Ba];exact Hf,rfl⟩ ?_
 rintro k σ H4 ⟨as,oH,n,n2,b,u9,qv,rfl,hR,sO,sH,aL,aR,Qq,vG,pt,pn,bw,zh,rfl⟩;have bY:=hR.len;have Hg:=sO.len;have Hh:(ag n).length<=70:=by
  have:=pt.length_eq;rw [Ad] at this;omega
 refine cz (rO hu)<|ae 6<|dU<|aA ⟨Z0,λp jt=>?_⟩;have s8:=aK jt<|.lst []
 by_cases h0:n=[]
 ·subst h0;have ea:as=[]:=Bj.mp (by simpa using bY);subst ea;refine⟨1,_,by decide,yn (k:=0) (xs:=[]) (ys:=[]) (λ_=>true) (ai.of<|s8 _ _ hR.lst) (ai.of av) rfl (λj x y hx _=>by simp at hx),_,rfl,bR<|bL<|ae 8 ?_⟩;have gC:(ag n2).Perm (ag n0):=pt;have pn':(n2.map (·.1)).Perm (n0.map (·.1)):=pn;have l2:n2.length=n0.length:=by simpa using vG
  refine q L oH n2 _ (mQ.trans<|sH.trans s8) (mQ.free fL) (sO.same s8) (λz hz=>?_) (pn'.nodup_iff.mpr hN0) ?_ zh (by rw [gC.length_eq];omega) (by omega) λa ha=>mQ.free<|Qq a ha
  ·rw [gC.count_eq];exact Qo z<|gC.mem_iff.mp hz
  ·rcases hF.ne with ⟨nm,h⟩ | h
   ·subst h;have t0:ag n2=[]:=List.Perm.eq_nil gC
    match n2,l2,t0 with
    | [(nm2,zs)],_,t0=>
     have:zs=[]:=by simpa [ag] using t0
     subst this;exact .inl ⟨_,rfl⟩
   ·refine Zi (bw h).2 λe=>?_;rw [e] at l2;exact hF.some<|Bj.mp l2.symm
 ·have np:0 < n.length:=De.mpr h0;refine⟨1,_,by decide,Om (k:=1) (ai.of<|s8 _ _ hR.lst) (ai.of (xs:=[]) av) (by rw [Aa,bY];exact Cm np),_,rfl,cw ?_⟩;have hR:=hR.same s8;have sO:=sO.same s8;have sH:=sH.trans s8;generalize upd H4 p (.lst [])=H5 at hR sO sH ⊢;have r0:0<=b % (n.length:Int):=Bz _ (by omega);have r1:b % (n.length:Int) < n.length:=Cg _ (by omega);obtain⟨j,hj⟩:∃ k:Nat,b % (n.length:Int)=k:=⟨(b % (n.length:Int)).toNat,by omega⟩;have qw:j < n.length:=by omega
  obtain⟨a,ea,eR,et,el,er⟩:=hR.at qw;refine aT 9 nd<|uL CW TX TY WL<|ae 6 ⟨q8g hR.lst,aY cO<|ae 0<|bX eB T.len DR<|aj<|ae 6<|aA ⟨R,_,rfl,.inl<|ai.of hR.lst,?_⟩⟩;rw [Aa,bY];refine⟨_,_,rfl,rfl,by omega,R,_,_,j,.ref a.1,rfl,rfl,hR.lst,by rw [hj];omega,by rw [hj];omega,?_,?_,?_⟩
  ·rw [hj,Aa,bY];unfold seqIndex?;have c1:¬((j:Int) < 0):=by omega
   simp only [c1,DQ];have c2:(decide (0<=(j:Int)) && decide ((j:Int) < (n.length:Int)))=true:=by
    rw [Bq,GJ,GJ];omega
   rw [BL c2,Bf]
  ·rw [Af,ea];rfl
  have R6:=hR.erase qw;have am:a∈as:=At ea;have Hi:∀ x∈as,x.2≠R:=λx hx e=>by
   obtain⟨zs,e2⟩:=hR.lists hx;have h3:=hR.lst;rw [<- e,e2] at h3;have h4:=HO.lst.inj<|Option.some.inj h3;cases as with
   | nil=>cases hx
   | cons b' bs=>
    cases zs with
    | nil=>simp at h4
    | cons y r=>simp at h4
  have L6:=sO.upd (o:= .lst<|(as.map λa=>V.ref a.1).eraseIdx j) hR.lst Qp.symm aR;have kD:(upd H5 R<|.lst<|(as.map λa=>V.ref a.1).eraseIdx j) a.1=some (.tup [.str n[j].1,.ref a.2]):=by rw [au<|bQ et hR.lst λe=>nomatch e];exact et
  have zp:(upd H5 R<|.lst<|(as.map λa=>V.ref a.1).eraseIdx j) a.2=some (Ls<|row n j):=by rw [au<|Hi a am];exact el
  have mO:ah H2 (upd H5 R<|.lst<|(as.map λa=>V.ref a.1).eraseIdx j):=db sH fR;generalize upd H5 R (.lst<|(as.map λa=>V.ref a.1).eraseIdx j)=H6 at R6 L6 kD zp mO ⊢;have le6:=R6.len;have qz:(n.eraseIdx j).length=n.length - 1:=by rw [Dk,BL qw]
  refine aT 0 nd<|aY iz<|ae 0<|aY fM<|bX eB T.len DR<|aj<|ae 6<|aA ⟨R,_,rfl,.inl<|ai.of R6.lst,aD ⟨_,_,rfl,rfl,?_⟩⟩;rw [Aa,le6,qz];refine⟨_,_,rfl,rfl,⟨by omega,by omega⟩,?_⟩;have x0e:=jb n j;refine aT 10 nd<|bX (My rfl) T.max TV<|aj<|aD<|aj<|bX eB T.len DR<|aj<|aZ ce<|ae 9<|aD ⟨a.1,_,_,.ref a.2,rfl,rfl,aM.of kD,rfl,aA ⟨a.2,_,rfl,.inl<|ai.of zp,?_⟩⟩;rw [Aa];refine aA ⟨1,_,rfl,?_⟩;have emx:(if((row n j).length:Int) > 1 then((row n j).length:Int) else 1)=((max 1 (row n j).length:Nat):Int):=by
   split <;> omega
  rw [emx];show Run _ _ _ [some<|.int<|b / ((n.length - 1:Nat)+1:Int),some<|.int m,some<|.int sm,some<|.int (mn:Int),some<|.ref lt,some<|.ref lp,some<|.ref R,u,some<|.ref L,some<|.ref a.1,some<|.int ((max 1 (row n j).length:Nat):Int)] H6;generalize b / ((n.length - 1:Nat)+1:Int)=b2;have z0:0<=b2 % ((max 1 (row n j).length:Nat):Int):=Bz _ (by omega);obtain⟨i,hi⟩:∃ k:Nat,b2 % ((max 1 (row n j).length:Nat):Int)=k:=⟨(b2 % ((max 1 (row n j).length:Nat):Int)).toNat,by omega⟩;refine g5<|j3<|ae 8 ⟨L,rfl,⟨_,L6.lst⟩,eC<|aj<|aZ ce<|ae 9<|aD ⟨a.1,_,_,.str n[j].1,rfl,rfl,aM.of kD,rfl,?_⟩⟩;refine aj (aY x6<|Nq MQ<|aZ ce<|ae 9<|aD ⟨a.1,_,_,.ref a.2,rfl,rfl,aM.of kD,rfl,Nu<|aY cO<|ae 0<|ae 10 ⟨b2,((max 1 (row n j).length:Nat):Int),rfl,rfl,by omega,_,rfl,Nr ⟨a.2,_,rfl,ai.of zp,λp1 vH=>?_⟩⟩⟩);rw [hi,Zk];have t1:=aK vH<|Ls<|(row n j).drop i;refine Nq MQ (aZ ce<|ae 9<|aD ⟨a.1,_,_,.ref a.2,rfl,rfl,aM.of<|t1 _ _ kD,rfl,Nr<|Nu<|aY cO<|ae 0<|ae 10 ⟨b2,((max 1 (row n j).length:Nat):Int),rfl,rfl,by omega,_,rfl,a.2,_,rfl,ai.of<|t1 _ _ zp,λp2 jt=>?_⟩⟩);rw [hi,Zm];have t2:=aK jt<|Ls<|(row n j).take i;refine⟨p1,p2,_,_,rfl,rfl,t2 _ _ av,av,?_,λp3 qA=>?_⟩
  ·rw [Aa,Aa,Db,Bd];exact small<|by omega
  rw [<- Ai];have t3:=aK qA<|Ls<|(row n j).drop i++(row n j).take i;refine aA ⟨Z2,λt4 ht4=>?_⟩;have s4:=aK ht4<|.tup [.str n[j].1,.ref p3];have qB:=t1.trans<|t2.trans<|t3.trans s4;have L7:=L6.same qB;have R7:=R6.same qB;have p3L:p3≠L:=λe=>by rw [e,(t1.trans t2) _ _ L6.lst] at qA;cases qA
  have p3R:p3≠R:=λe=>by rw [e,(t1.trans t2) _ _ R6.lst] at qA;cases qA
  have p3n:p3∉oH.map (·.2):=λhm=>by
   obtain⟨y,hy,e⟩:=Aj.mp hm;exact(L6.same<|t1.trans t2).fresh qA hy e.symm
  have L8:=L7.more (t:=t4) (l:=p3) (pt:=n[j].1) (zs:=(row n j).drop i++(row n j).take i) av (s4 _ _ av) p3n p3L;refine⟨_,L7.lst,by rw [Aa,Hg];exact bH (by omega),?_⟩;have Qr:∀ x∈as.eraseIdx j,x.2≠L:=λx hx=>aL x<|Fm hx;have R8:=R7.upd (o:= .lst<|oH.map (λa=>V.ref a.1)++[.ref t4]) L7.lst Qp Qr;refine aT 0 nd (aY iz<|ae 0<|ae 10 ⟨b2,((max 1 (row n j).length:Nat):Int),rfl,rfl,⟨by omega,by omega⟩,?_⟩);have pe:=OT n j qw;have ne:=Zj n j qw;have Qs:(ag (n.eraseIdx j)++ag (n2++[(n[j].1,(row n j).drop i++(row n j).take i)])).Perm (ag n0):=by
   refine List.Perm.trans ?_ pt;unfold ag;rw [Cu];show(ag (n.eraseIdx j)++(ag n2++(((row n j).drop i++(row n j).take i)++[]))).Perm _;rw [Ba,er];have w1:(n[j].2.drop i++n[j].2.take i).Perm n[j].2:=FK _ _;refine((w1.append_left _).append_left _).trans ?_;have w2:(ag n++ag n2).Perm ((n[j].2++ag (n.eraseIdx j))++ag n2):=pe.append_right _;refine List.Perm.trans ?_ w2.symm;rw [As];refine List.Perm.trans ?_<|Ce (l₁:=ag (n.eraseIdx j)++ag n2);rw [As]
  refine a7 ⟨n.length - 1,by omega,as.eraseIdx j,oH++[(t4,p3)],n.eraseIdx j,n2++[(n[j].1,(row n j).drop i++(row n j).take i)],_,_,_,qz.symm,R8,L8,db (mO.trans qB) fL,Qr,λx hx=>?_,λx hx=>?_,?_,Qs,?_,λh=>⟨λr hr=>?_,λr hr=>?_⟩,q2i qw (by have:=Cg b2 (show(0:Int) < ((max 1 (row n j).length:Nat):Int) by omega);rw [hi] at this;exact Int.ofNat_lt.mp this) Qo pt Qs zh,rfl⟩
  ·rcases An.mp hx with hx | hx
   ·exact aR x hx
   ·rw [Ag] at hx;rw [hx];exact p3R
  ·rcases An.mp hx with hx | hx
   ·exact Qq x hx
   ·rw [Ag] at hx;rw [hx];exact mO.free<|t1.free<|t2.free qA
  ·rw [Ad,qz];simp;omega
  ·refine List.Perm.trans ?_ pn;rw [Ai];show((n.eraseIdx j).map (·.1)++(n2.map (·.1)++[n[j].1])).Perm _;refine List.Perm.trans ?_ (ne.append_right _).symm;rw [<- As];exact Ce
  ·exact(bw h).1 r<|Fm hr
  ·rcases An.mp hr with hr | hr
   ·exact(bw h).2 r hr
   ·rw [Ag] at hr;rw [hr];intro e;have w1:=(FK (row n j) i).length_eq;have e':(row n j).drop i++(row n j).take i=[]:=e;rw [e'] at w1;have:=(bw h).1 n[j]<|Bs qw;rw [er] at w1;exact this<|Bj.mp w1.symm
def Hj:Sp:=λvs H Q _=>∃(R:Addr) (as:List<|Addr×Addr) (n:Net),vs=[.ref R]/\ak H R as n/\n.length<=1000/\∀ L qo H',ah H H'->H L=none->(∀ a∈qo,H a.1=none/\H a.2=none)->ak H' L qo n->Q (.ref L) H'
theorem jD{H H':Hp}{l:Addr}(s:ah H H')(h:H' l=none):H l=none:=by
 cases e:H l with
 | none=>rfl
 | some v=>rw [s _ _ e] at h;cases h
abbrev NC:List Str:=["_law_rows"]
abbrev Qt:List Str:=["_law_rows","_law_row"]
def kE:ao NC ["_law_rows"] (aP yH):=⟨rfl,rfl,rfl,by decide +kernel,rfl,by decide +kernel,by decide +kernel⟩
def Hk:Qt.Nodup:=by decide +kernel
def q4j{f:Addr}{fd:FuncData}(F:bu K "_law_copy" "_law_copy" yH f fd)(T:Txt mg):aC P w K mg base bA 1 f fd ["_law_rows"] Hj:=by
 refine F.gb kE (λvs H Q E h=>?_) λb0 H vs Q E hr h=>?_
 ·obtain⟨R,as,n,rfl,_⟩:=h;rfl
 obtain⟨R,as,n,rfl,hR,hn,q⟩:=h;have nd:=kE.nd;have bY:=hR.len;show Run _ _ _ [some<|.ref R] H;refine bL<|gN (aP yH) NC Qt 1 (eg bf)<|ae 0 ⟨R,rfl,⟨_,ai.of hR.lst⟩,λD hD=>?_⟩;refine ka (xs:=as.map λa=>V.ref a.1) (λi σ' H'=>(∃ v,σ'=[some<|.ref R]++[v])/\∃ bs:List<|Addr×Addr,bs.length=i/\H' D=some (.lst<|bs.map λa=> .ref a.1) /\
  (∀(j:Nat) a r,bs[j]?=some a->n[j]?=some r->H' a.1=some (.tup [.str r.1,.ref a.2])/\H' a.2=some (Ls r.2))/\(bs.map (·.2)).Nodup/\(∀ a∈bs,a.2≠D/\H a.1=none/\H a.2=none/\∃ zs,H' a.2=some (Ls zs))/\ah H H')
  ⟨⟨none,rfl⟩,[],rfl,av,λj a r h=>by simp at h,Cj,λa h=>by simp at h,aK hD _⟩ ?_ ?_ ?_
 ·rintro i σ' H' _ ⟨_,bs,_,_,_,_,_,sm⟩;exact ai.of<|sm _ _ hR.lst
 ·rintro i x σ' H' hx ⟨⟨v,rfl⟩,bs,jy,kG,Hl,vI,sP,sm⟩;have hi:i < n.length:=by
   have:=(Ac.mp hx).1;rw [Aa] at this;omega
  obtain⟨a,ea,eR,et,el,er⟩:=(hR.same sm).at hi;rw [Af,ea] at hx;cases hx;intro cl C' s₀ H₀ ex;refine aW 1 Hk ?_;intro cl C' s₀ H₀ ex;refine g7 ?_;rw [BL rfl];intro cl C' s₀ H₀ ex;refine eC<|aj<|aZ ce<|ae 1<|aD ⟨a.1,_,_,.str n[i].1,rfl,rfl,aM.of et,rfl,?_⟩;refine aj<|rH MV T.j7 KY<|aj<|aZ ce<|ae 1<|aD ⟨a.1,_,_,.ref a.2,rfl,rfl,aM.of et,rfl,?_⟩;refine aA ⟨a.2,_,rfl,.inl<|ai.of el,λl hl=>aA ⟨Z2,λt ht=>?_⟩⟩;have g6:=jD sm hl;have Hm:t≠l:=λe=>by rw [e,av] at ht;cases ht
  have dC:H' t=none:=by rw [au Hm] at ht;exact ht
  have zq:=jD sm dC;have sQ:l≠D:=λe=>by rw [e] at hl;rw [hl] at kG;cases kG
  have zu:t≠D:=λe=>by rw [e] at dC;rw [dC] at kG;cases kG
  refine⟨bs.map λa=> .ref a.1,?_,?_,⟨_,rfl⟩,bs++[(t,l)],by rw [Ad,jy];rfl,?_,?_,?_,?_,?_⟩
  ·rw [au<|CG zu,au<|CG sQ];exact kG
  ·rw [Aa];exact bH<|by omega
  ·rw [av,Ai];rfl
  ·intro j b r hb kz
   by_cases hj:j < bs.length
   ·rw [Ao hj] at hb;obtain⟨q1,q2⟩:=Hl j b r hb kz;have hbD:=(sP b<|At hb).1;have n1:b.1≠D:=bQ q1 kG λz=>nomatch z;refine⟨?_,?_⟩
    ·rw [au n1,au<|bd q1 dC,au<|bd q1 hl];exact q1
    ·rw [au hbD,au<|bd q2 dC,au<|bd q2 hl];exact q2
   ·rw [Ay<|by omega] at hb;have fD:j - bs.length=0:=by
     have:=(Ac.mp hb).1;simp at this;omega
    have zv:j=i:=by omega
    rw [fD] at hb;cases hb;rw [zv,Ab hi] at kz;cases kz;refine⟨?_,?_⟩
    ·rw [au zu,av]
    ·rw [au sQ,au<|CG Hm,av,er]
  ·rw [Ai];refine me vI λhm=>?_;obtain⟨b,hb,e⟩:=Aj.mp hm;obtain⟨_,_,_,zs,q⟩:=sP b hb;have e':b.2=l:=e;rw [e',hl] at q;cases q
  ·intro b hb
   rcases An.mp hb with hb | hb
   ·obtain⟨q1,q2,q3,zs,q4⟩:=sP b hb;refine⟨q1,q2,q3,zs,?_⟩;rw [au q1,au<|bd q4 dC,au<|bd q4 hl];exact q4
   ·rw [Ag.mp hb];refine⟨sQ,zq,g6,row n i,?_⟩;rw [au sQ,au<|CG Hm,av]
  ·intro c o hc;rw [au<|bd hc hD,au<|bd hc zq,au<|bd hc g6];exact sm _ _ hc
 ·rintro σ' H' ⟨_,bs,jy,kG,Hl,vI,sP,sm⟩;rw [Aa] at jy;exact q D bs H' sm hD (λa ha=>⟨(sP a ha).2.1,(sP a ha).2.2.1⟩) ⟨by omega,kG,Hl,vI⟩
end
abbrev Tn(p:Str)(j:Int):HO:= .tup [.str p,.int j]
def vJ:Sp:=λvs H Q _=>∃(t l:Addr) (p:Str) (zs:List Str),vs=[.ref t]/\H t=some (.tup [.str p,.ref l])/\H l=some (Ls zs)/\zs.length<=1000 /\
 ∀(L:Addr) (ts:List Addr) (H':Hp),ah H H'->H L=none->H' L=some (.lst<|ts.map V.ref)->ts.length=zs.length->(∀(j:Nat) t,ts[j]?=some t->H' t=some (Tn p j))->Q (.ref L) H'
section
variable{X:Cx}{elt tg:Expr}{ifs:List Expr}{scope:Scope}{σ:St}{H:Hp}{N':List Str}{A:Addr}{after:Hp->Prop}
def Hn{lo:Int}{n:Nat}(Pv:Nat->St->Hp->Prop)(h0:Pv 0 σ H)
  (hs : ∀ i σ' H', i < n → Pv i σ' H' → uw X N' scope tg (.int<|lo + i) σ' H' λσ2 H3 => uz X N' scope ifs σ2 H3 λb H4 =>
   if b=true then uv X N' scope elt σ2 H4 λv H5=>∃ ys,H5 A=some (.lst ys)/\ys.length < sizeLine/\Pv (i+1) σ2 (upd H5 A<|.lst<|ys++[v]) else Pv (i+1) σ2 H4)
  (hd:∀ σ' H',Pv n σ' H'->after H'):li X N' scope tg ifs elt (rz lo n) A after σ H:=by
 refine⟨λi m σ' H'=>m=n - i/\i<=n/\Pv i σ' H',⟨_,rfl,Bp _,h0⟩,?_⟩;rintro i m σ' H' ⟨rfl,hi,p⟩
 by_cases aX:i < n
 ·refine .inr ⟨aX,Pv<|i+1,λσ' H' p'=>⟨n - (i+1),by omega,rfl,aX,p'⟩,λx H2 y=>?_⟩;obtain⟨e,y⟩:=y;subst e y;exact hs i σ' _ aX p
 ·have e:i=n:=by omega
  subst e;exact .inl ⟨Am _,hd σ' H' p⟩
end
section
variable{P:Program}{w:World}{K:PySem.W.Frag}{mg:Str->Option Value}{base:Heap}
abbrev Qu:List Str:=["row","point","ties"]
abbrev Qv:List Str:=["row","point","ties","place"]
def kH:ao Qu ["row"] (aP yz):=⟨rfl,rfl,rfl,by decide +kernel,rfl,by decide +kernel,by decide +kernel⟩
def q8x:Qv.Nodup:=by decide +kernel
def q41{f:Addr}{fd:FuncData}(F:bu K "ends_round" "ends_round" yz f fd)(T:Txt mg):aC P w K mg base bA 1 f fd ["row"] vJ:=by
 refine F.gb kH (λvs H Q E h=>?_) λb0 H vs Q E hr h=>?_
 ·obtain⟨t,l,p,zs,rfl,_⟩:=h;rfl
 obtain⟨t,l,p,zs,rfl,ht,hl,hz,q⟩:=h;have nd:=kH.nd;show Run _ _ _ [some<|.ref t,none,none] H;refine yg<|ae 0<|iO rfl (aM.of ht) (aW 1 nd<|aW 2 nd ?_);show Run _ _ _ [some<|.ref t,some<|.str p,some<|.ref l] H;refine bL<|gN (aP yz) Qu Qv 1 (xU rfl T.range (ta:=ut _ _) gn (pG _ [] _ rfl)) ?_;show Ea _ _ _ _ _;refine aj (bX eB T.len DR<|aj<|ae 2<|aA ⟨l,_,rfl,.inl<|ai.of hl,aA ⟨_,rfl,by omega,by rw [Aa];omega,λD hD=>?_⟩⟩);rw [Aa,Bf];refine Hn (λi σ' H'=>(∃ v,σ'=[some<|.ref t,some<|.str p,some<|.ref l]++[v])/\∃ ts:List Addr,ts.length=i/\H' D=some (.lst<|ts.map V.ref)/\(∀(j:Nat) t,ts[j]?=some t->H' t=some (Tn p j))/\ah H H')
  ⟨⟨none,rfl⟩,[],rfl,av,λj t h=>by simp at h,aK hD _⟩ ?_ ?_
 ·rintro i σ' H' hi ⟨⟨v,rfl⟩,ts,iS,eD,vK,sm⟩;rw [Dg];intro cl C' s₀ H₀ ex;refine aW 3 q8x ?_;intro cl C' s₀ H₀ ex;refine g7 ?_;rw [BL rfl];intro cl C' s₀ H₀ ex;refine eC<|aj<|ae 1<|aj<|ae 3<|aA ⟨Z2,λu hu=>?_⟩;have nu:u≠D:=λe=>by rw [e,eD] at hu;cases hu
  have hu0:=jD sm hu;refine⟨ts.map V.ref,by rw [au<|CG nu];exact eD,by rw [Aa];exact bH (by omega),⟨_,rfl⟩,ts++[u],by rw [Ad,iS];rfl,by rw [av,Ai];rfl,?_,?_⟩
  ·intro j t' dC
   by_cases hj:j < ts.length
   ·rw [Ao hj] at dC;have e:=vK j t' dC;have n1:t'≠D:=bQ e eD λz=>nomatch z;rw [au n1,au<|bd e hu];exact e
   ·rw [Ay<|by omega] at dC;have fD:j - ts.length=0:=by
     have:=(Ac.mp dC).1;simp at this;omega
    rw [fD] at dC;cases dC;have:j=i:=by omega
    rw [this,au nu,av]
  ·intro c o hc;rw [au<|bd hc hD,au<|bd hc hu0];exact sm _ _ hc
 ·rintro σ' H' ⟨_,ts,iS,eD,vK,sm⟩;exact q D ts H' sm hD eD iS vK
def hU(g:Int->Int):Sp:=λvs H Q _=>∃(e:Addr) (p:Str) (j m:Int),vs=[.ref e,.int m]/\H e=some (Tn p j)/\0 < m/\∀ t H',ah H H'->H' t=some (Tn p<|g j % m)->Q (.ref t) H'
abbrev Qw:List Str:=["end","many","point","place"]
def kI:ao Qw ["end","many"] (aP EH):=⟨rfl,rfl,rfl,by decide +kernel,rfl,by decide +kernel,by decide +kernel⟩
def gD:ao Qw ["end","many"] (aP EI):=⟨rfl,rfl,rfl,by decide +kernel,rfl,by decide +kernel,by decide +kernel⟩
def q2m{f:Addr}{fd:FuncData}(F:bu K "turned_left" "turned_left" EH f fd)(T:Txt mg):aC P w K mg base bA 1 f fd ["end","many"] (hU λj=>j+1):=by
 refine F.gb kI (λvs H Q E h=>?_) λb0 H vs Q E hr h=>?_
 ·obtain⟨e,p,j,m,rfl,_⟩:=h;rfl
 obtain⟨e,p,j,m,rfl,he,hm,q⟩:=h;have nd:=kI.nd;show Run _ _ _ [some<|.ref e,some<|.int m,none,none] H;refine yg<|ae 0<|iO rfl (aM.of he) (aW 2 nd<|aW 3 nd ?_);refine bL (eC<|aj<|ae 2<|aj<|aY cO<|aY fM<|ae 3<|aD ⟨_,_,rfl,rfl,ae 1 ⟨_,_,rfl,rfl,(by show 0 < m;exact hm),aA ⟨Z2,λt ht=>?_⟩⟩⟩);exact q t _ (aK ht _) av
def k62{f:Addr}{fd:FuncData}(F:bu K "turned_right" "turned_right" EI f fd)(T:Txt mg):aC P w K mg base bA 1 f fd ["end","many"] (hU λj=>j - 1):=by
 refine F.gb gD (λvs H Q E h=>?_) λb0 H vs Q E hr h=>?_
 ·obtain⟨e,p,j,m,rfl,_⟩:=h;rfl
 obtain⟨e,p,j,m,rfl,he,hm,q⟩:=h;have nd:=gD.nd;show Run _ _ _ [some<|.ref e,some<|.int m,none,none] H;refine yg<|ae 0<|iO rfl (aM.of he) (aW 2 nd<|aW 3 nd ?_);refine bL (eC<|aj<|ae 2<|aj<|aY cO<|aY VR<|ae 3<|aD ⟨_,_,rfl,rfl,ae 1 ⟨_,_,rfl,rfl,(by show 0 < m;exact hm),aA ⟨Z2,λt ht=>?_⟩⟩⟩);exact q t _ (aK ht _) av
theorem k9r{kvs:List (Key×V)}:∀{acc:List (Key×V)},((acc++kvs).map (·.1)).Nodup->kvs.foldl (λa p=>putK a p.1 p.2) acc=acc++kvs:=by
 induction kvs with
 | nil=>intro acc _;simp
 | cons p r ih=>
  intro acc h;have hn:al acc p.1=none:=by
   cases e:al acc p.1 with
   | none=>rfl
   | some v=>
    have hm:=Nc e;rw [Ai,Bh] at h;exact absurd rfl ((Cf.mp h).2.2 _ hm _ Ah)
  rw [Dz,M6 _ hn,ih (by rw [As];exact h),As];rfl
theorem Qx:∀{kvs:List (Key×V)} {i:Nat} {p:Key×V},(kvs.map (·.1)).Nodup->kvs[i]?=some p->al kvs p.1=some p.2
 | [],_,_,_,h=>by simp at h
 | q :: r,0,p,_,h=>by
  cases h;exact gj rfl
 | q :: r,i+1,p,hn,h=>by
  rw [Bh,Bi] at hn;have hm:r[i]?=some p:=by simpa using h
  rw [gk λe=>hn.1<|by rw [e];exact Aj.mpr ⟨p,At hm,rfl⟩];exact Qx hn.2 hm
def hV(n:Net)(as:List<|Addr×Addr):List (Key×V):=List.zipWith (λr a=>(Sum.inr r.1,V.ref a.2)) n as
theorem Qy:∀(n:Net) (as:List<|Addr×Addr),as.length=n.length->(hV n as).map (·.1)=(n.map (·.1)).map Sum.inr
 | [],[],_=>rfl
 | [],_ :: _,h=>by simp at h
 | _ :: _,[],h=>by simp at h
 | r :: n,a :: as,h=>by
  have:=Qy n as (by simpa using h);show Sum.inr r.1 :: (hV n as).map (·.1)=_;rw [this];rfl
def Qz{n:Net}{as:List (Addr×Addr)}{i:Nat}{r:Str×List Str}{a:Addr×Addr}(h1:n[i]?=some r)(h2:as[i]?=some a):(hV n as)[i]?=some (Sum.inr r.1,.ref a.2):=by
 unfold hV;rw [List.getElem?_zipWith,h1,h2]
def k5n{l:List Str}(h:l.Nodup):(l.map (Sum.inr:Str->Key)).Nodup:=by
 rw [Bg,Cy];exact(Bg.mp h).imp λh q=>h<|Sum.inr.inj q
end
def nameAt(n:Net)(r:Nat):Str:=((n[r]?).map (·.1)).getD ⟨#[]⟩
def key(n:Net)(e:Nt.End):List Key:=[Sum.inr<|nameAt n e.1,Sum.inl (e.2:Int)]
abbrev TN(n:Net)(e:Nt.End):HO:=Tn (nameAt n e.1) (e.2:Int)
def qC{n:Net}{r:Nat}(h:r < n.length):nameAt n r=n[r].1:=by unfold nameAt;rw [Ab h];rfl
def sR{n:Net}(hN:(n.map (·.1)).Nodup){a b:Nt.End}(ha:a.1 < n.length)(hb:b.1 < n.length)(h:key n a=key n b):a=b:=by
 unfold key at h
 injection h with h1 h2
 injection h2 with h2 _
 have e1:=Sum.inr.inj h1;have e2:=Sum.inl.inj h2;rw [qC ha,qC hb] at e1;have e3:a.1=b.1:=by
  have la:a.1 < (n.map (·.1)).length:=by rw [Aa];exact ha
  have lb:b.1 < (n.map (·.1)).length:=by rw [Aa];exact hb
  refine(Fx (i:=a.1) (j:=b.1) (h₀:=la) (h₁:=lb) hN).mp ?_;rw [Dl,Dl];exact e1
 exact HS e3<|by omega
def vL{n:Net}{r p:Nat}{z:Str}(hr:r < n.length)(hz:(row n r)[p]?=some z):∃ rest,bg n=(bg (n.take r)++bD r ((row n r).take p) 0)++(z,(r,p)) :: rest:=by
 have e1:bg n=bg (n.take<|r+1)++gQ (0+(n.take<|r+1).length) (n.drop<|r+1):=by
  have:=EE (n.take<|r+1) (n.drop<|r+1) 0;rw [Cv] at this;exact this
 have e2:bD r (row n r) 0=bD r ((row n r).take<|p+1) 0++bD r ((row n r).drop<|p+1) (0+((row n r).take<|p+1).length):=by
  unfold bD;rw [<- Ai,<- List.zipIdx_append,Cv]
 rw [e1,rT hr,e2,pS hz];refine⟨bD r ((row n r).drop<|p+1) (0+((row n r).take<|p+1).length)++gQ (0+(n.take<|r+1).length) (n.drop<|r+1),?_⟩;simp only [As,Fb,Gd]
def QA{κ:Type} [DecidableEq κ] (kvs:List<|κ×V) (k:κ) (v:V):(putK kvs k v).map (·.1)=if k∈kvs.map (·.1) then kvs.map (·.1) else kvs.map (·.1)++[k]:=by
 have e:(kvs.any λkv=>decide (kv.1=k))=decide (k∈kvs.map (·.1)):=by
  rw [Da,List.any_eq_true,CZ,Aj];exact⟨λ⟨p,h1,h2⟩=>⟨p,h1,BX h2⟩,λ⟨p,h1,h2⟩=>⟨p,h1,BW h2⟩⟩
 unfold putK;rw [e]
 by_cases h:k∈kvs.map (·.1)
 ·rw [BL<|BW h,BL h,Ci];refine Cs λp _=>?_;show(if p.1=k then(p.1,v) else p).1=p.1
  split <;> rfl
 ·rw [BK (by simpa using h),BK h,Ai];rfl
def gE{κ:Type} [DecidableEq κ] {kvs:List (κ×V)} {k j:κ} {v:V}:j∈(putK kvs k v).map (·.1)↔j∈kvs.map (·.1)\/j=k:=by
 rw [QA]
 split
 ·exact⟨.inl,λh=>h.elim id λe=>by rw [e];assumption⟩
 ·rw [An,Ag]
def QE{κ:Type} [DecidableEq κ] {kvs:List (κ×V)} {k:κ} {v:V} (h:(kvs.map (·.1)).Nodup):((putK kvs k v).map (·.1)).Nodup:=by
 rw [QA]
 split
 ·exact h
 ·rename_i hn;exact me h hn
structure ji(n:Net)(done:List<|Str×Nt.End)(H:Hp)(kM:List<|Key×V)(kO:List<|List Key×V):Prop where
 m0:∀ z,b6 done z=[]->al kM (Sum.inr z)=none
 m1:∀ z a rest,b6 done z=a :: rest->∃ t,al kM (Sum.inr z)=some (.ref t)/\H t=some (TN n a)
 o:∀ z a b rest,b6 done z=a :: b :: rest->(∃ u,al kO (key n a)=some (.ref u)/\H u=some (TN n b))/\∃ u,al kO (key n b)=some (.ref u)/\H u=some (TN n a)
 sub:∀ p∈done,aG n p.2=some p.1
 d6:kM.length<=done.length
 fE:kO.length<=2 * done.length
 ks:∀ k∈kO.map (·.1),∃ p∈done,k=key n p.2
 nd:(kO.map (·.1)).Nodup
def ji.keep{n:Net}{done:List (Str×Nt.End)}{H H':Hp}{kM:List (Key×V)}{kO:List (List Key×V)}(I:ji n done H kM kO)(k:∀ t p j,H t=some (Tn p j)->H' t=some (Tn p j)):ji n done H' kM kO where
 m0:=I.m0
 m1:=λz a rest h=>let ⟨t,e1,e2⟩:=I.m1 z a rest h;⟨t,e1,k _ _ _ e2⟩
 o:=λz a b rest h=>let ⟨⟨u,e1,e2⟩,⟨v,e3,e4⟩⟩:=I.o z a b rest h;⟨⟨u,e1,k _ _ _ e2⟩,⟨v,e3,k _ _ _ e4⟩⟩
 sub:=I.sub
 d6:=I.d6
 fE:=I.fE
 ks:=I.ks
 nd:=I.nd
def vM{done:List (Str×Nt.End)}{z:Str}{a:Nt.End}(h:a∈b6 done z):(z,a)∈done:=by
 unfold b6 at h;obtain⟨⟨y,b⟩,hm,rfl⟩:=Aj.mp h;obtain⟨h1,h2⟩:=Bk.mp hm;have:y=z:=BX h2;subst this;exact h1
def ji.new{n:Net}{done:List (Str×Nt.End)}{H:Hp}{kM:List (Key×V)}{kO:List (List Key×V)}(I:ji n done H kM kO){z:Str}{e:Nt.End}{t:Addr}(ht:H t=some (TN n e))(hz:aG n e=some z)(h0:b6 done z=[]) :
  ji n (done++[(z,e)]) H (putK kM (Sum.inr z)<|.ref t) kO where
 m0:=λy hy=>by
  rw [dk] at hy;obtain⟨h1,h2⟩:=Ek.mp hy;have bw:¬ z=y:=λq=>by rw [BL q] at h2;cases h2
  rw [c7,BK λq=>bw (Sum.inr.inj q).symm];exact I.m0 y h1
 m1:=λy a rest hy=>by
  rw [dk] at hy
  by_cases q:z=y
  ·subst q;rw [h0,BL rfl] at hy;cases hy;exact⟨t,by rw [c7,BL rfl],ht⟩
  ·rw [BK q,Ba] at hy;obtain⟨u,e1,e2⟩:=I.m1 y a rest hy;exact⟨u,by rw [c7,BK λp=>q (Sum.inr.inj p).symm];exact e1,e2⟩
 o:=λy a b rest hy=>by
  rw [dk] at hy
  by_cases q:z=y
  ·subst q;rw [h0,BL rfl] at hy;cases hy
  ·rw [BK q,Ba] at hy;exact I.o y a b rest hy
 sub:=λp hp=>by
  rcases An.mp hp with h | h
  ·exact I.sub p h
  ·rw [Ag.mp h];exact hz
 d6:=by
  have:=i4 kM (Sum.inr z)<|.ref t;have:=I.d6;rw [Ad,Cq];omega
 fE:=by
  have:=I.fE;rw [Ad,Cq];omega
 ks:=λk hk=>let ⟨p,hp,e⟩:=I.ks k hk;⟨p,Az _ hp,e⟩
 nd:=I.nd
def ji.old{n:Net}(hN:(n.map (·.1)).Nodup){done:List (Str×Nt.End)}{H:Hp}{kM:List (Key×V)}{kO:List (List Key×V)}(I:ji n done H kM kO){z:Str}{e a:Nt.End}{te tm:Addr}(ht:H te=some (TN n e))(hm:H tm=some (TN n a))(hz:aG n e=some z)(h1:b6 done z=[a])(hae:a≠e) :
  ji n (done++[(z,e)]) H kM (putK (putK kO (key n e)<|.ref tm) (key n a)<|.ref te) where
 m0:=λy hy=>by
  rw [dk] at hy;exact I.m0 y (Ek.mp hy).1
 m1:=λy c rest hy=>by
  rw [dk] at hy
  by_cases q:z=y
  ·subst q;rw [h1,BL rfl] at hy;cases hy;exact I.m1 z a [] h1
  ·rw [BK q,Ba] at hy;exact I.m1 y c rest hy
 o:=λy c b rest hy=>by
  rw [dk] at hy;have ta:aG n a=some z:=I.sub (z,a)<|vM<|by rw [h1];exact Ag.mpr rfl
  by_cases q:z=y
  ·subst q;rw [h1,BL rfl] at hy;cases hy;refine⟨⟨te,by rw [c7,BL rfl],ht⟩,⟨tm,?_,hm⟩⟩;rw [c7,BK λp=>hae (sR hN (dz hz) (dz ta) p).symm,c7,BL rfl]
  ·rw [BK q,Ba] at hy;have tc:aG n c=some y:=I.sub (y,c) (vM<|by rw [hy];exact Ah);have tb:aG n b=some y:=I.sub (y,b) (vM<|by rw [hy];exact Ak _ Ah);have ne:∀ x:Nt.End,aG n x=some y->¬ key n x=key n a/\¬ key n x=key n e:=λx hx=>by
    refine⟨λp=>?_,λp=>?_⟩
    ·have:=sR hN (dz hx) (dz ta) p;rw [this,ta] at hx;exact q<|Option.some.inj hx
    ·have:=sR hN (dz hx) (dz hz) p;rw [this,hz] at hx;exact q<|Option.some.inj hx
   obtain⟨⟨u,e1,e2⟩,⟨v,e3,e4⟩⟩:=I.o y c b rest hy;refine⟨⟨u,?_,e2⟩,⟨v,?_,e4⟩⟩
   ·rw [c7,BK (ne c tc).1,c7,BK (ne c tc).2];exact e1
   ·rw [c7,BK (ne b tb).1,c7,BK (ne b tb).2];exact e3
 sub:=λp hp=>by
  rcases An.mp hp with h | h
  ·exact I.sub p h
  ·rw [Ag.mp h];exact hz
 d6:=by
  have:=I.d6;rw [Ad,Cq];omega
 fE:=by
  have h1:=i4 (putK kO (key n e)<|.ref tm) (key n a)<|.ref te;have h2:=i4 kO (key n e)<|.ref tm;have:=I.fE;rw [Ad,Cq];omega
 ks:=λk hk=>by
  rcases gE.mp hk with hk | rfl
  ·rcases gE.mp hk with hk | rfl
   ·obtain⟨p,hp,e⟩:=I.ks k hk;exact⟨p,Az _ hp,e⟩
   ·exact⟨(z,e),Au _<|Ag.mpr rfl,rfl⟩
  ·exact⟨(z,a),Az _ (vM<|by rw [h1];exact Ag.mpr rfl),rfl⟩
 nd:=QE<|QE I.nd
def ji.whole{n:Net}(T:aw n){H:Hp}{kM:List (Key×V)}{kO:List (List Key×V)}(I:ji n (bg n) H kM kO){e:Nt.End}(he:e∈ends n):∃ u,al kO (key n e)=some (.ref u)/\H u=some (TN n<|other n e):=by
 obtain⟨z,hz⟩:=af.mp he;obtain⟨a,b,hp,gs,yj⟩:=pR T hz;have oG:b6 (bg n) z=a :: b :: []:=hp;have ta:aG n a=some z:=aH.mp (by rw [hp];simp);have tb:aG n b=some z:=aH.mp (by rw [hp];simp);obtain⟨o1,o2⟩:=I.o z a b [] oG
 rcases yj with rfl | rfl
 ·have:b=other n e:=((jh T hz).mp tb).resolve_left<|CG gs;rw [<- this];exact o1
 ·have:a=other n e:=((jh T hz).mp ta).resolve_left gs;rw [<- this];exact o2
def kJ:Sp:=λvs H Q _=>∃(R:Addr) (as:List<|Addr×Addr) (n:Net),vs=[.ref R]/\ak H R as n/\(n.map (·.1)).Nodup/\aw n/\n.length<=1000/\(ag n).length<=1000 /\
 ∀(d:Addr) (kvs:List<|List Key×V) (H':Hp),ah H H'->H d=none->H' d=some (.dT kvs)->(∀ e∈ends n,∃ u,al kvs (key n e)=some (.ref u)/\H' u=some (TN n<|other n e))->(kvs.map (·.1)).Nodup->(∀ k∈kvs.map (·.1),∃ e∈ends n,k=key n e)->kvs.length<=2000->Q (.ref d) H'
section
variable{X:Cx}{D:Ends}{σ:St}{H:Hp}{body:List Stmt}
def q0g{tg:Expr}{a b:Addr}{xs ys:List V}{after:St->Hp->Prop}(hlen:xs.length=ys.length)(Pv:Nat->St->Hp->Prop)(h0:Pv 0 σ H)(hl:∀ i σ H,i<=xs.length->Pv i σ H->ai X.K H a xs/\ai X.K H b ys)
  (hs:∀ i x y T σ H,xs[i]?=some x->ys[i]?=some y->Pv i σ H->H T=none->Eg X tg (.ref T) σ (upd H T<|.tup [x,y]) λσ2 H2=>Run X body {D with nx:=Pv<|i+1,ct:=Pv<|i+1,bk:=after} σ2 H2) (hd:∀ σ H,Pv xs.length σ H->after σ H):Loop X tg body (yN X.K a b) D after σ H:=by
 refine⟨λi m σ H=>m=xs.length - i/\i<=xs.length/\Pv i σ H,⟨xs.length,by simp,Bp _,h0⟩,?_⟩;rintro i m σ H ⟨rfl,hi,p⟩;obtain⟨q1,q2⟩:=hl i σ H hi p
 by_cases aX:i < xs.length
 ·refine .inr ⟨⟨xs,ys,xs[i],ys[i],q1,q2,Ab aX,Ab<|by omega⟩,Pv<|i+1,λσ' H' p'=>⟨xs.length - (i+1),by omega,rfl,aX,p'⟩,λv H' y=>?_⟩;obtain⟨T,x,y,hT,rfl,rfl,y1,y2⟩:=y;exact hs i x y T σ _ (y1 xs q1) (y2 ys q2) p hT
 ·have e:i=xs.length:=by omega
  subst e;exact .inl ⟨⟨xs,ys,q1,q2,.inl<|Am _⟩,hd σ H p⟩
end
section
variable{P:Program}{w:World}{K:PySem.W.Frag}{mg:Str->Option Value}{base:Heap}
abbrev NOE:List Str:=["rows","met","others","row","end","tie"]
def vN:ao NOE ["rows"] (aP EJ):=⟨rfl,rfl,rfl,by decide +kernel,rfl,by decide +kernel,by decide +kernel⟩
def QH{H:Hp}{t d:Addr}{xs:List V}{kvs:List (Key×V)}(h:H t=some (.tup xs))(g:H d=some (.dK kvs)):t≠d:=bQ h g λz=>nomatch z
def qD{H:Hp}{t d:Addr}{xs:List V}{kvs:List (List Key×V)}(h:H t=some (.tup xs))(g:H d=some (.dT kvs)):t≠d:=bQ h g λz=>nomatch z
def q9y{f:Addr}{fd:FuncData}(F:bu K "other_ends" "other_ends" EJ f fd)(T:Txt mg)
  (GE:aO P w K mg base 1 "ends_round" ["row"] vJ) :
  aC P w K mg base bA 2 f fd ["rows"] kJ:=by
 refine F.gb vN (λvs H Q E h=>?_) λb0 H vs Q E hr h=>?_
 ·obtain⟨R,as,n,rfl,_⟩:=h;rfl
 obtain⟨R,as,n,rfl,hR,hN,hT,hn,ht,q⟩:=h;have nd:=vN.nd;have bY:=hR.len;have hu:=hr.u1;show Run _ _ _ [some<|.ref R,none,none,none,none,none] H;refine aT 1 nd<|EA λdm mD=>?_;refine aT 2 nd<|Ys λdO zx=>?_;show Run _ _ _ [some<|.ref R,some<|.ref dm,some<|.ref dO,none,none,none] (upd (upd H dm<|.dK []) dO<|.dT []);have vO:dO≠dm:=λe=>by rw [e,av] at zx;cases zx
 have qF:H dO=none:=by rw [au vO] at zx;exact zx
 have em:(upd (upd H dm<|.dK []) dO<|.dT []) dm=some (.dK []):=by rw [au<|CG vO,av]
 have eo:(upd (upd H dm<|.dK []) dO<|.dT []) dO=some (.dT []):=av;have s0:ah H (upd (upd H dm<|.dK []) dO<|.dT []):=λb o h=>by rw [au<|bd h qF,au<|bd h mD];exact h
 generalize upd (upd H dm<|.dK []) dO (.dT [])=H1 at em eo s0 ⊢;refine jU<|ae 0 ⟨R,rfl,⟨_,ai.of<|s0 _ _ hR.lst⟩,jV (xs:=as.map λa=>V.ref a.1) (λr σ H'=>∃ kM kO u1 u2 u3,ah H H'/\H' dm=some (.dK kM)/\H' dO=some (.dT kO)/\ji n (bg<|n.take r) H' kM kO/\σ=[some<|.ref R,some<|.ref dm,some<|.ref dO,u1,u2,u3])
  ⟨[],[],_,_,_,s0,em,eo,⟨λ_ _=>rfl,λz a rest h=>(by cases h),λz a b rest h=>(by cases h),λp h=>(by cases h),Bp _,Bp _,λk h=>(by cases h),Cj⟩,rfl⟩ ?_ ?_ ?_⟩
 ·rintro r σ H' _ ⟨kM,kO,u1,u2,u3,sm,_⟩;exact ai.of<|sm _ _ hR.lst
 ·rintro r x σ H' hx ⟨kM,kO,u1,u2,u3,sm,QI,Ho,I,rfl⟩;have hi:r < n.length:=by
   have:=(Ac.mp hx).1;rw [Aa] at this;omega
  obtain⟨a,ea,eR,et,el,er⟩:=(hR.same sm).at hi;rw [Af,ea] at hx;cases hx;have jB:(row n r).length<=1000:=Bv (jb n r) ht;have enm:nameAt n r=n[r].1:=qC hi;refine aW 3 nd ?_;refine rL (O9 rfl T.zip (ta:=ut _ _) gn) ?_;show Ea _ _ _ _ _;refine aj<|bG GE hr<|aj<|ae 3<|aA ⟨a.1,a.2,n[r].1,row n r,rfl,et,el,jB,λL ts H5 s5 n5 e5 l5 t5=>?_⟩;refine aj<|aZ ce<|ae 3<|aD ⟨a.1,_,_,.ref a.2,rfl,rfl,aM.of<|s5 _ _ et,rfl,aA ⟨L,a.2,rfl,⟨_,ai.of e5⟩,⟨_,ai.of<|s5 _ _ el⟩,?_⟩⟩;have zy:=s5 _ _ QI;have zA:=s5 _ _ Ho;have sU:=s5 _ _ el;refine q0g (xs:=ts.map V.ref) (ys:=(row n r).map V.str) (by rw [Aa,Aa,l5]) (λp σ' bM=>∃ kM kO u2 u3,(∀ b o,b≠dm->b≠dO->H5 b=some o->bM b=some o)/\bM dm=some (.dK kM)/\bM dO=some (.dT kO)/\ji n (bg (n.take r)++bD r ((row n r).take p) 0) bM kM kO/\σ'=[some<|.ref R,some<|.ref dm,some<|.ref dO,some<|.ref a.1,u2,u3])
   ⟨kM,kO,_,_,λb o _ _ h=>h,zy,zA,?_,rfl⟩ ?_ ?_ ?_
  ·have:bD r ((row n r).take 0) 0=[]:=by simp [bD]
   rw [this,Ba];exact I.keep λt p j h=>s5 _ _ h
  ·rintro p σ' bM _ ⟨kM,kO,u2,u3,kb,_,_,_,rfl⟩;exact⟨ai.of (kb _ _ (bQ e5 zy λz=>nomatch z) (bQ e5 zA λz=>nomatch z) e5),ai.of<|kb _ _ (bQ sU zy λz=>nomatch z) (bQ sU zA λz=>nomatch z) sU⟩
  ·rintro p x y Tt σ' bM hx hy ⟨kM,kO,u2,u3,kb,zB,zC,I6,rfl⟩ kK;rw [Af,Ap] at hx hy;obtain⟨te,lJ,rfl⟩:=hx;obtain⟨z,hz,rfl⟩:=hy;have mR:=t5 p te lJ;have vP:bM te=some (Tn n[r].1 p):=kb _ _ (QH mR zy) (qD mR zA) mR;have kL:aG n (r,p)=some z:=hz;obtain⟨rest,dM⟩:=vL hi hz;have hlen:(bg (n.take r)++bD r ((row n r).take p) 0).length < 1000:=by
    have h1:(bg n).length=(ag n).length:=by
     have:=BZ List.length<|lE n 0;rw [Aa] at this;exact this
    have h2:=BZ List.length dM;rw [Ad,Ax] at h2;omega
   have cR:bg (n.take r)++bD r ((row n r).take<|p+1) 0=(bg (n.take r)++bD r ((row n r).take p) 0)++[(z,(r,p))]:=by
    rw [pS hz,As]
   have kN:∀ b,b∈b6 (bg (n.take r)++bD r ((row n r).take p) 0) z->b≠(r,p):=λb hb e=>by
    have hm:=vM hb;have jv:=rQ n;unfold ends at jv;rw [dM,Ai,Bh] at jv;exact(Cf.mp jv).2.2 _ (Aj.mpr ⟨_,hm,rfl⟩) _ Ah e
   have vQ:(b6 (bg (n.take r)++bD r ((row n r).take p) 0) z).length<=1:=by
    have h1:(pos n z).length=2:=by rw [rR];exact hT z<|eI kL
    have h2:pos n z=b6 (bg (n.take r)++bD r ((row n r).take p) 0) z++b6 ((z,(r,p)) :: rest) z:=by
     show b6 (bg n) z=_;rw [dM];unfold b6;rw [Cp,Ai]
    have h3:1<=(b6 ((z,(r,p)) :: rest) z).length:=by
     unfold b6;rw [Ct,BL<|by simp];simp
    rw [h2,Ad] at h1;omega
   generalize bg (n.take r)++bD r ((row n r).take p) 0=done at I6 hlen cR kN vQ;rw [cR];have hTm:Tt≠dm:=λe=>by rw [e,zB] at kK;cases kK
   have hTo:Tt≠dO:=λe=>by rw [e,zC] at kK;cases kK
   have s7:=aK kK<|.tup [.ref te,.str z];have Hq:∀ b o,b≠dm->b≠dO->H5 b=some o->(upd bM Tt<|.tup [.ref te,.str z]) b=some o:=λb o h1 h2 h=>s7 _ _<|kb b o h1 h2 h;have sV:=s7 _ _ zB;have sW:=s7 _ _ zC;have I7:=I6.keep (H':=upd bM Tt<|.tup [.ref te,.str z]) λt p j h=>s7 _ _ h;have mS:=s7 _ _ vP;refine iO rfl (aM.of av) (aW 4 nd<|aW 5 nd ?_);show Run _ _ _ [some<|.ref R,some<|.ref dm,some<|.ref dO,some<|.ref a.1,some<|.ref te,some<|.str z] _;generalize upd bM Tt (.tup [.ref te,.str z])=H7 at Hq sV sW I7 mS;have qG:H7 te=some (TN n (r,p)):=by
    show H7 te=some (Tn (nameAt n r) p);rw [enm];exact mS
   have hM:kM.length < sizeLine:=bH (by have:=I7.d6;omega);have hO:kO.length < sizeLine:=bH (by have:=I7.fE;omega);refine gM<|yp hu<|ae 5<|ae 1 ⟨dm,_,rfl,aU.k (k:=Sum.inr z) sV,?_⟩
   match jE:b6 done z with
   | []=>
    rw [I7.m0 z jE];show if false=true then _ else _;rw [BK Av];refine rP hu<|ae 4<|ae 1<|ae 5 ⟨dm,_,rfl,bT.k (k:=Sum.inr z) sV hM,a7<|a7 ⟨_,kO,_,_,λb o h1 h2 h=>?_,av,?_,?_,rfl⟩⟩
    ·rw [au h1];exact Hq b o h1 h2 h
    ·rw [au vO];exact sW
    ·exact(I7.new qG kL jE).keep λt p j h=>by rw [au<|QH h sV];exact h
   | b :: more=>
    have vR:more=[]:=by
     rw [jE,Ax] at vQ;exact Bj.mp<|by omega
    subst vR;obtain⟨tm,vm,Hr⟩:=I7.m1 z b [] jE;rw [vm];show if true=true then _ else _;rw [BL rfl];have fK:b≠(r,p):=kN b (by rw [jE];exact Ag.mpr rfl);refine rP hu (dX hu<|ae 1<|ae 5 ⟨dm,.ref tm,rfl,by rw [<- vm];exact aU.k (k:=Sum.inr z) sV,ae 2<|ae 4 ⟨dO,_,rfl,bT.t (k:=key n (r,p)) sW qG hO,?_⟩⟩);have hO2:=i4 kO (key n (r,p))<|.ref tm;have hO3:=I7.fE;have QN:(upd H7 dO<|.dT<|putK kO (key n (r,p))<|.ref tm) dm=some (.dK kM):=by rw [au<|CG vO];exact sV
    have Hs:(upd H7 dO<|.dT<|putK kO (key n (r,p))<|.ref tm) tm=some (TN n b):=by rw [au<|qD Hr sW];exact Hr
    refine rP hu<|ae 4<|ae 2<|dX hu<|ae 1<|ae 5 ⟨dm,.ref tm,rfl,by rw [<- vm];exact aU.k (k:=Sum.inr z) QN,dO,_,rfl,bT.t (k:=key n b) av Hs (bH<|by omega),a7<|a7 ⟨kM,_,_,_,λb o h1 h2 h=>?_,?_,av,?_,rfl⟩⟩
    ·rw [au h2,au h2];exact Hq b o h1 h2 h
    ·rw [au<|CG vO];exact QN
    ·exact(I7.old hN qG Hr kL jE fK).keep λt p j h=>by rw [au<|qD h sW,au<|qD h sW];exact h
  ·rintro σ' bM ⟨kM,kO,u2,u3,kb,zB,zC,I6,rfl⟩;refine a7 ⟨kM,kO,_,_,_,λb o h=>?_,zB,zC,?_,rfl⟩
   ·exact kb b o (bd h mD) (bd h qF)<|s5 _ _<|sm _ _ h
   ·rw [Aa,l5,Bm] at I6;rw [rT hi];exact I6
 ·rintro σ H' ⟨kM,kO,u1,u2,u3,sm,QI,Ho,I,rfl⟩;rw [Aa,bY,Bm] at I;have lO:=I.fE;have ls:(bg n).length=(ag n).length:=by rw [<- lE n 0,Aa];rfl
  exact bL<|ae 2<|q dO kO H' sm qF Ho (λe he=>I.whole hT he) I.nd (λk hk=>let ⟨p,hp,e⟩:=I.ks k hk;⟨p.2,Aj.mpr ⟨p,hp,rfl⟩,e⟩)<|by omega
end
def mU(n:Net)(H:Hp)(us:List Addr)(done:List<|Str×Nt.End):Prop:=us.length=done.length/\∀(j:Nat) u p,us[j]?=some u->done[j]?=some p->H u=some (TN n p.2)
def mU.keep{n:Net}{H H':Hp}{us:List Addr}{done:List (Str×Nt.End)}(h:mU n H us done)(k:∀ t p j,H t=some (Tn p j)->H' t=some (Tn p j)):mU n H' us done:=⟨h.1,λj u p h1 h2=>k _ _ _<|h.2 j u p h1 h2⟩
def mU.snoc{n:Net}{H H':Hp}{us:List Addr}{done:List (Str×Nt.End)}{u:Addr}{p:Str×Nt.End}(h:mU n H us done)(k:∀ t p j,H t=some (Tn p j)->H' t=some (Tn p j))(hu:H' u=some (TN n p.2)):mU n H' (us++[u]) (done++[p]):=by
 obtain⟨hl,ha⟩:=h;refine⟨by rw [Ad,Ad,hl];rfl,λj v x hv hx=>?_⟩
 by_cases hj:j < us.length
 ·rw [Ao hj] at hv;rw [Ao<|by omega] at hx;exact k _ _ _<|ha j v x hv hx
 ·rw [Ay<|by omega] at hv hx;have fD:j - us.length=0:=by
   have:=(Ac.mp hv).1;simp at this;omega
  have hj3:j - done.length=0:=by omega
  rw [fD] at hv;rw [hj3] at hx;cases hv;cases hx;exact hu
section
variable{X:Cx}{tg:Expr}{ifs:List Expr}{inner:Sem Unit}{σ:St}{H:Hp}{a b:Addr}{xs ys:List V}{after:St->Hp->Prop}
def vS(Pv:Nat->St->Hp->Prop)(h0:Pv 0 σ H)(hl:∀ i σ' H',i<=xs.length->Pv i σ' H'->ai X.K H' a xs)
  (hs:∀ i x σ' H',xs[i]?=some x->Pv i σ' H'->Eg X tg x σ' H' λσ2 H3=>Ei X ifs σ2 H3 λb H4=>if b=true then lj X inner σ2 H4 (Pv<|i+1) else Pv (i+1) σ2 H4)
  (hd:∀ σ' H',Pv xs.length σ' H'->after σ' H'):iC X tg ifs inner (pq X.K a) after σ H:=by
 refine⟨λi m σ' H'=>m=xs.length - i/\i<=xs.length/\Pv i σ' H',⟨_,rfl,Bp _,h0⟩,?_⟩;rintro i m σ' H' ⟨rfl,hi,p⟩;have q:=hl i σ' H' hi p
 by_cases aX:i < xs.length
 ·refine .inr ⟨⟨xs,xs[i],q,by simp [aX]⟩,Pv<|i+1,λσ' H' p'=>⟨xs.length - (i+1),by omega,rfl,aX,p'⟩,λx H2 y=>?_⟩;obtain⟨e,y⟩:=y;subst e;exact hs i x σ' _ (y xs q) p
 ·have e:i=xs.length:=by omega
  subst e;exact .inl ⟨⟨xs,q,Am _⟩,hd σ' H' p⟩
def k2f(hlen:xs.length=ys.length)(Pv:Nat->St->Hp->Prop)(h0:Pv 0 σ H)(hl:∀ i σ' H',i<=xs.length->Pv i σ' H'->ai X.K H' a xs/\ai X.K H' b ys)
  (hs:∀ i x y T σ' H',xs[i]?=some x->ys[i]?=some y->Pv i σ' H'->H' T=none->Eg X tg (.ref T) σ' (upd H' T<|.tup [x,y]) λσ2 H3=>Ei X ifs σ2 H3 λb H4=>if b=true then lj X inner σ2 H4 (Pv<|i+1) else Pv (i+1) σ2 H4)
  (hd:∀ σ' H',Pv xs.length σ' H'->after σ' H'):iC X tg ifs inner (yN X.K a b) after σ H:=by
 refine⟨λi m σ' H'=>m=xs.length - i/\i<=xs.length/\Pv i σ' H',⟨_,rfl,Bp _,h0⟩,?_⟩;rintro i m σ' H' ⟨rfl,hi,p⟩;obtain⟨q1,q2⟩:=hl i σ' H' hi p
 by_cases aX:i < xs.length
 ·refine .inr ⟨⟨xs,ys,xs[i],ys[i],q1,q2,Ab aX,Ab<|by omega⟩,Pv<|i+1,λσ' H' p'=>⟨xs.length - (i+1),by omega,rfl,aX,p'⟩,λv H2 y=>?_⟩;obtain⟨T,x,y,hT,rfl,rfl,y1,y2⟩:=y;exact hs i x y T σ' _ (y1 xs q1) (y2 ys q2) p hT
 ·have e:i=xs.length:=by omega
  subst e;exact .inl ⟨⟨xs,ys,q1,q2,.inl<|Am _⟩,hd σ' H' p⟩
end
def Ht:Sp:=λvs H Q _=>∃(R:Addr) (as:List<|Addr×Addr) (n:Net),vs=[.ref R]/\ak H R as n/\n.length<=1000/\(ag n).length<=1000 /\
 ∀(L:Addr) (ts:List Addr) (H':Hp),ah H H'->H L=none->H' L=some (.lst<|ts.map V.ref)->mU n H' ts (bg n)->Q (.ref L) H'
section
variable{P:Program}{w:World}{K:PySem.W.Frag}{mg:Str->Option Value}{base:Heap}
abbrev QO:List Str:=["rows"]
abbrev QP:List Str:=["rows","row","end"]
def iT:ao QO ["rows"] (aP yA):=⟨rfl,rfl,rfl,by decide +kernel,rfl,by decide +kernel,by decide +kernel⟩
def QQ:QP.Nodup:=by decide +kernel
def k9l{f:Addr}{fd:FuncData}(F:bu K "ends_in_order" "ends_in_order" yA f fd)(T:Txt mg)
  (GE:aO P w K mg base 1 "ends_round" ["row"] vJ) :
  aC P w K mg base bA 2 f fd ["rows"] Ht:=by
 refine F.gb iT (λvs H Q E h=>?_) λb0 H vs Q E hr h=>?_
 ·obtain⟨R,as,n,rfl,_⟩:=h;rfl
 obtain⟨R,as,n,rfl,hR,hn,ht,q⟩:=h;have nd:=iT.nd;have bY:=hR.len;show Run _ _ _ [some<|.ref R] H;refine bL<|ZE (aP yA) QO QP 2 (eg bf)<|ae 0 ⟨R,rfl,⟨_,ai.of hR.lst⟩,λD hD cl C s₀ H₀ ex=>?_⟩;refine vS (xs:=as.map λa=>V.ref a.1) (λr σ' H'=>(∃ v1 v2,σ'=[some<|.ref R]++[v1,v2])/\∃ ts:List Addr,ah H H'/\H' D=some (.lst<|ts.map V.ref)/\mU n H' ts (bg<|n.take r)) ⟨⟨none,none,rfl⟩,[],aK hD _,av,⟨rfl,λj u p h=>(by cases h)⟩⟩ ?_ ?_ ?_
 ·rintro r σ' H' _ ⟨_,ts,sm,_⟩;exact ai.of<|sm _ _ hR.lst
 ·rintro r x σ' H' hx ⟨⟨v1,v2,rfl⟩,ts,sm,eD,AN⟩;have hi:r < n.length:=by
   have:=(Ac.mp hx).1;rw [Aa] at this;omega
  obtain⟨a,ea,eR,et,el,er⟩:=(hR.same sm).at hi;rw [Af,ea] at hx;cases hx;have jB:(row n r).length<=1000:=Bv (jb n r) ht;refine aW 1 QQ ?_;refine g7 ?_;rw [BL rfl];refine ZD rfl rfl (eg bf) (bG GE hr<|aj<|ae 1<|aA ⟨a.1,a.2,n[r].1,row n r,rfl,et,el,jB,λL us H5 s5 n5 e5 l5 t5=>⟨L,rfl,⟨_,ai.of e5⟩,?_⟩⟩);have Hu:L≠D:=λe=>by rw [e,eD] at n5;cases n5
  refine vS (xs:=us.map V.ref) (λp σ' bM=>(∃ v2,σ'=[some<|.ref R]++[some<|.ref a.1,v2])/\∃ ts:List Addr,(∀ b o,b≠D->H5 b=some o->bM b=some o)/\bM D=some (.lst<|ts.map V.ref)/\mU n bM ts (bg (n.take r)++bD r ((row n r).take p) 0))
   ⟨⟨_,rfl⟩,ts,λb o _ h=>h,s5 _ _ eD,by simpa [bD] using AN.keep (H':=H5) λt p j h=>s5 _ _ h⟩ ?_ ?_ ?_
  ·rintro p σ' bM _ ⟨_,ts,kb,_⟩;exact ai.of<|kb _ _ Hu e5
  ·rintro p x σ' bM hx ⟨⟨v2,rfl⟩,ts,kb,dD,vT⟩;rw [Af,Ap] at hx;obtain⟨te,lJ,rfl⟩:=hx;have hp:p < (row n r).length:=by have:=(Ac.mp lJ).1;omega
   have hz:(row n r)[p]?=some (row n r)[p]:=Ab hp;generalize (row n r)[p]=z at hz;have mR:=t5 p te lJ;have zD:te≠D:=bQ mR (s5 _ _ eD) λz=>nomatch z;have vP:=kb _ _ zD mR;obtain⟨rest,dM⟩:=vL hi hz;have hlen:ts.length < 1000:=by
    have h1:(bg n).length=(ag n).length:=by
     have:=BZ List.length<|lE n 0;rw [Aa] at this;exact this
    have h2:=BZ List.length dM;rw [Ad,Ax] at h2;have:=vT.1;omega
   refine aW 2 QQ ?_;refine g7 ?_;rw [BL rfl];refine NV (ae 2 ⟨ts.map V.ref,dD,by rw [Aa];exact bH (by omega),⟨_,rfl⟩,ts++[te],λb o hb h=>by rw [au hb];exact kb b o hb h,by rw [av,Ai];rfl,?_⟩);rw [pS hz,<- As];refine vT.snoc (λt p j h=>by rw [au<|bQ h dD λz=>nomatch z];exact h) ?_;rw [au zD];show bM te=some (Tn (nameAt n r) p);rw [qC hi];exact vP
  ·rintro σ' bM ⟨⟨v2,rfl⟩,ts,kb,dD,vT⟩;refine⟨⟨_,_,rfl⟩,ts,λb o h=>kb b o (bd h hD)<|s5 _ _<|sm _ _ h,dD,?_⟩;rw [Aa,l5,Bm,<- rT hi] at vT;exact vT
 ·rintro σ' H' ⟨_,ts,sm,eD,AN⟩;rw [Aa,bY,Bm] at AN;exact q D ts H' sm hD eD AN
end
section
variable{X:Cx}{H:Hp}
def Hv{k:Nat}(z:Str):jz X H k (.str z) (.str z) true:=by
 have:=pP (X:=X) (H:=H) (k:=k) (x:= .str z) (y:= .str z) rfl rfl;have e:cE (.str z) (.str z)=true:=by show(z == z)=true;simp
 rw [e] at this;exact this
theorem q7n{p p':Str}{j j':Int}:∀(i:Nat) (u v:V),[V.str p,.int j][i]?=some u->[V.str p',.int j'][i]?=some v->jz X H 0 u v (if i=0 then cE (.str p) (.str p') else cE (.int j) (.int j'))
 | 0,u,v,h1,h2=>by
  cases h1;cases h2;exact pP rfl rfl
 | 1,u,v,h1,h2=>by
  cases h1;cases h2;exact pP rfl rfl
 | i+2,u,v,h1,h2=>by simp at h1
def q63(p p':Str)(j j':Int):(cE (.str p) (.str p') && cE (.int j) (.int j'))=decide (p=p'/\j=j'):=by
 show((p == p') && (j == j'))=_
 by_cases h:p=p' <;> by_cases h2:j=j' <;> simp [h,h2]
def q5p{s t:Addr}{p p':Str}{j j':Int}(hs:H s=some (Tn p j))(ht:H t=some (Tn p' j')):nY X H 1 (.ref s) (.ref t) (decide (p=p'/\j=j')):=by
 have:=Oq (X:=X) (k:=0) (λi=>if i=0 then cE (.str p) (.str p') else cE (.int j) (.int j')) (aM.of hs) (aM.of ht) rfl q7n;rw [show([V.str p,.int j].length)=2 from rfl,all2] at this;have e:=q63 p p' j j';simp only [DN] at this;rw [BK (by decide),e] at this;exact this
def QR{a b:Addr}{zs:List Str}(ha:H a=some (Ls zs))(hb:H b=some (Ls zs)):lB X H 1 (.ref a) (.ref b) true:=by
 have q:=D7 (X:=X) (k:=0) (λ_=>true) (ai.of (K:=X.K) ha) (ai.of (K:=X.K) hb) rfl λj x y hx hy=>by
  rw [hx] at hy;cases hy;rw [Af,Ap] at hx;obtain⟨z,_,rfl⟩:=hx;exact Hv z
 rw [uK] at q;exact q
def QU{k:Nat}{a b:Addr}(h:lB X H k (.ref a) (.ref b) true):jz X H k (.ref a) (.ref b) true:=by
 by_cases e:a=b
 ·subst e;exact Yj
 ·exact Yk e h
def q0f{R R':Addr}{as bs:List (Addr×Addr)}{n:Net}(h:ak H R as n)(g:ak H R' bs n):lB X H 3 (.ref R) (.ref R') true:=by
 have q:=D7 (X:=X) (k:=2) (λ_=>true) (ai.of (K:=X.K) h.lst) (ai.of (K:=X.K) g.lst) (by rw [Aa,Aa,h.len,g.len]) λj x y hx hy=>by
  rw [Af,Ap] at hx hy;obtain⟨a,ea,rfl⟩:=hx;obtain⟨b,eb,rfl⟩:=hy;have hj:j < n.length:=by
   have:=(Ac.mp ea).1;have:=h.len;omega
  obtain⟨q1,q2⟩:=h.tup j a n[j] ea<|Ab hj;obtain⟨q3,q4⟩:=g.tup j b n[j] eb<|Ab hj;have t:=Oo (X:=X) (k:=1) (λ_=>true) (aM.of (K:=X.K) q1) (aM.of (K:=X.K) q3) rfl λi x y hx hy=>by
   match i with
   | 0=>cases hx;cases hy;exact Hv _
   | 1=>cases hx;cases hy;exact QU<|QR q2 q4
   | i+2=>simp at hx
  rw [uK] at t;exact QU t
 rw [uK] at q;exact q
end
def q0m{X:Cx}{H:Hp}{a b:Addr}{zs:List Str}(ha:H a=some (Ls zs))(hb:H b=some (Ls zs)):nY X H 1 (.ref a) (.ref b) true:=by
 have q:=yn (X:=X) (k:=0) (λ_=>true) (ai.of (K:=X.K) ha) (ai.of (K:=X.K) hb) rfl λj x y hx hy=>by
  rw [hx] at hy;cases hy;rw [Af,Ap] at hx;obtain⟨z,_,rfl⟩:=hx;exact Hv z
 rw [uK] at q;exact q
def mV:Sp:=λvs H Q _=>∃(R:Addr) (as:List<|Addr×Addr) (n:Net),vs=[.ref R]/\ak H R as n/\(n.map (·.1)).Nodup/\n.length<=1000/\(ag n).length<=1000 /\
 ∀(d:Addr) (kvs:List<|List Key×V) (H':Hp),ah H H'->H d=none->H' d=some (.dT kvs)->(∀ e z,aG n e=some z->al kvs (key n e)=some (.str z))->Q (.ref d) H'
section
variable{P:Program}{w:World}{K:PySem.W.Frag}{mg:Str->Option Value}{base:Heap}
abbrev QY:List Str:=["rows"]
abbrev Q0:List Str:=["rows","row","end","tie"]
def Hw:ao QY ["rows"] (aP yB):=⟨rfl,rfl,rfl,by decide +kernel,rfl,by decide +kernel,by decide +kernel⟩
def Hx:Q0.Nodup:=by decide +kernel
def q92{f:Addr}{fd:FuncData}(F:bu K "ties_by_end" "ties_by_end" yB f fd)(T:Txt mg)
  (GE:aO P w K mg base 1 "ends_round" ["row"] vJ) :
  aC P w K mg base bA 2 f fd ["rows"] mV:=by
 refine F.gb Hw (λvs H Q E h=>?_) λb0 H vs Q E hr h=>?_
 ·obtain⟨R,as,n,rfl,_⟩:=h;rfl
 obtain⟨R,as,n,rfl,hR,hN,hn,ht,q⟩:=h;have bY:=hR.len;have hu:=hr.u1;show Run _ _ _ [some<|.ref R] H;refine bL<|ZJ (aP yB) QY Q0 3 (eg bf)<|ae 0 ⟨R,rfl,⟨_,ai.of hR.lst⟩,λD hD cl C s₀ H₀ ex=>?_⟩;refine vS (xs:=as.map λa=>V.ref a.1) (λr σ' H'=>(∃ v1 v2 v3,σ'=[some<|.ref R]++[v1,v2,v3])/\∃ kvs:List<|List Key×V,ah H H'/\H' D=some (.dT kvs)/\kvs.length<=(bg<|n.take r).length/\∀ p∈bg (n.take r),aG n p.2=some p.1/\al kvs (key n p.2)=some (.str p.1)) ⟨⟨none,none,none,rfl⟩,[],aK hD _,av,Bp _,λp h=>(by cases h)⟩ ?_ ?_ ?_
 ·rintro r σ' H' _ ⟨_,kvs,sm,_⟩;exact ai.of<|sm _ _ hR.lst
 ·rintro r x σ' H' hx ⟨⟨v1,v2,v3,rfl⟩,kvs,sm,eD,Q1,zE⟩;have hi:r < n.length:=by
   have:=(Ac.mp hx).1;rw [Aa] at this;omega
  obtain⟨a,ea,eR,et,el,er⟩:=(hR.same sm).at hi;rw [Af,ea] at hx;cases hx;have jB:(row n r).length<=1000:=Bv (jb n r) ht;refine aW 1 Hx ?_;refine g7 ?_;rw [BL rfl];refine ZI rfl rfl (O9 rfl T.zip (ta:=ut _ _) gn) ?_;show Ea _ _ _ _ _;refine aj<|bG GE hr<|aj<|ae 1<|aA ⟨a.1,a.2,n[r].1,row n r,rfl,et,el,jB,λL us H5 s5 n5 e5 l5 t5=>?_⟩;refine aj<|aZ ce<|ae 1<|aD ⟨a.1,_,_,.ref a.2,rfl,rfl,aM.of<|s5 _ _ et,rfl,aA ⟨L,a.2,rfl,⟨_,ai.of e5⟩,⟨_,ai.of<|s5 _ _ el⟩,?_⟩⟩;have lK:=s5 _ _ eD;have sU:=s5 _ _ el;refine k2f (xs:=us.map V.ref) (ys:=(row n r).map V.str) (by rw [Aa,Aa,l5]) (λp σ' bM=>(∃ v2 v3,σ'=[some<|.ref R]++[some<|.ref a.1,v2,v3])/\∃ kvs:List<|List Key×V,(∀ b o,b≠D->H5 b=some o->bM b=some o)/\bM D=some (.dT kvs)/\kvs.length<=(bg (n.take r)++bD r ((row n r).take p) 0).length/\∀ x∈bg (n.take r)++bD r ((row n r).take p) 0,aG n x.2=some x.1/\al kvs (key n x.2)=some (.str x.1))
   ⟨⟨_,_,rfl⟩,kvs,λb o _ h=>h,lK,by simpa [bD] using Q1,by simpa [bD] using zE⟩ ?_ ?_ ?_
  ·rintro p σ' bM _ ⟨_,kvs,kb,_⟩;exact⟨ai.of (kb _ _ (bQ e5 lK λz=>nomatch z) e5),ai.of<|kb _ _ (bQ sU lK λz=>nomatch z) sU⟩
  ·rintro p x y Tt σ' bM hx hy ⟨⟨v2,v3,rfl⟩,kvs,kb,dD,qH,mW⟩ kK;rw [Af,Ap] at hx hy;obtain⟨te,lJ,rfl⟩:=hx;obtain⟨z,hz,rfl⟩:=hy;have mR:=t5 p te lJ;have zD:te≠D:=bQ mR lK λz=>nomatch z;have vP:=kb _ _ zD mR;have kL:aG n (r,p)=some z:=hz;obtain⟨rest,dM⟩:=vL hi hz;have hlen:(bg (n.take r)++bD r ((row n r).take p) 0).length < 1000:=by
    have h1:(bg n).length=(ag n).length:=by
     have:=BZ List.length<|lE n 0;rw [Aa] at this;exact this
    have h2:=BZ List.length dM;rw [Ad,Ax] at h2;omega
   have nTD:Tt≠D:=λe=>by rw [e,dD] at kK;cases kK
   have s7:=aK kK<|.tup [.ref te,.str z];refine iO rfl (aM.of av) (aW 2 Hx<|aW 3 Hx ?_);refine g7 ?_;rw [BL rfl];have mS:(upd bM Tt<|.tup [.ref te,.str z]) te=some (.tup<|(key n (r,p)).map kV):=by
    rw [s7 _ _ vP];show some (Tn n[r].1 (p:Int))=some (Tn (nameAt n r) (p:Int));rw [qC hi]
   refine Pa hu<|ae 2<|ae 3 ⟨_,bT.t (k:=key n (r,p)) (s7 _ _ dD) mS (bH<|by omega),⟨_,_,rfl⟩,_,λb o hb h=>?_,av,?_,?_⟩
   ·rw [au hb];exact s7 _ _<|kb b o hb h
   ·rw [pS hz,<- As,Ad];have:=i4 kvs (key n (r,p))<|.str z;show _<=_+1;omega
   ·rw [pS hz,<- As];intro x hx
    rcases An.mp hx with h | h
    ·obtain⟨q1,q2⟩:=mW x h;refine⟨q1,?_⟩;rw [c7]
     by_cases hk:key n x.2=key n (r,p)
     ·rw [BL hk];have:=sR hN (dz q1) (dz kL) hk;rw [this,kL] at q1;rw [Option.some.inj q1]
     ·rw [BK hk];exact q2
    ·rw [Ag.mp h];exact⟨kL,by rw [c7,BL rfl]⟩
  ·rintro σ' bM ⟨⟨v2,v3,rfl⟩,kvs,kb,dD,qH,mW⟩;rw [Aa,l5,Bm,<- rT hi] at qH mW;exact⟨⟨_,_,_,rfl⟩,kvs,λb o h=>kb b o (bd h hD)<|s5 _ _<|sm _ _ h,dD,qH,mW⟩
 ·rintro σ' H' ⟨_,kvs,sm,eD,Q1,zE⟩;rw [Aa,bY,Bm] at zE;exact q D kvs H' sm hD eD λe z he=>(zE (z,e)<|aV.mpr he).2
def Hy(K:PySem.W.Frag):PySem.W.kitOne K (.type "list") (.type "list")=some true:=by rfl
def Hz(K:PySem.W.Frag):PySem.W.kitOne K (.type "int") (.type "int")=some true:=by rfl
def HH(K:PySem.W.Frag):PySem.W.kitOne K (.type "int") (.type "bool")=some false:=by kernel_rfl
theorem Q3{κ:Type} [DecidableEq κ]:∀{kvs:List (κ×V)} {i:Nat} {p:κ×V},(kvs.map (·.1)).Nodup->kvs[i]?=some p->al kvs p.1=some p.2
 | [],_,_,_,h=>by simp at h
 | q :: r,0,p,_,h=>by
  cases h;exact gj rfl
 | q :: r,i+1,p,hn,h=>by
  rw [Bh,Bi] at hn;have hm:r[i]?=some p:=by simpa using h
  rw [gk λe=>hn.1<|by rw [e];exact Aj.mpr ⟨p,At hm,rfl⟩];exact Q3 hn.2 hm
def q8r{κ:Type}{l:List κ}(h:l.Nodup){i j:Nat}{a:κ}(hi:l[i]?=some a)(hj:l[j]?=some a):i=j:=by
 have h1:=(Ac.mp hi).1;have h2:=(Ac.mp hj).1;have e1:=(Ac.mp hi).2;have e2:=(Ac.mp hj).2
 rcases QK i j with c | c | c
 ·exact absurd (e1.trans e2.symm)<|Bt.mp h i j h1 h2 c
 ·exact c
 ·exact absurd (e2.trans e1.symm)<|Bt.mp h j i h2 h1 c
def ia(c:Int):Sp:=λvs H Q _=>∃(R:Addr) (as:List<|Addr×Addr) (n:Net),vs=[.ref R]/\ak H R as n/\(n.map (·.1)).Nodup/\aw n/\n.length<=1000/\(ag n).length<=1000 /\
 ∀(d:Addr) (kvs:List<|List Key×V) (H':Hp),ah H H'->H d=none->H' d=some (.dT kvs)->(∀ e∈ends n,∃ u,al kvs (key n e)=some (.ref u)/\H' u=some (TN n<|go c n e))->Q (.ref d) H'
abbrev mX:List Str:=["rows","lists"]
abbrev qI:List Str:=["rows","lists","end","other"]
def Q4:qI.Nodup:=by decide +kernel
def Q5{c:Int}{x y:Str}{st:Stmt}{f:Addr}{fd:FuncData}(h:(x = "left_steps"/\y = "turned_left"/\st=yC)\/(x = "right_steps"/\y = "turned_right"/\st=yD))(F:bu K x x st f fd)(T:Txt mg)
  (GO:aO P w K mg base 2 "other_ends" ["rows"] kJ) (GT:aO P w K mg base 2 y ["end","many"]<|hU λj=>j+c) :
  aC P w K mg base bA 3 f fd ["rows"] (ia c):=by
 rcases h with ⟨rfl,rfl,rfl⟩ | ⟨rfl,rfl,rfl⟩
 all_goals
  refine F.gb (N:=mX) ⟨rfl,rfl,rfl,by decide +kernel,rfl,by decide +kernel,by decide +kernel⟩ (λvs H Q E h=>?_) λb0 H vs Q E hr h=>?_
  ·obtain⟨R,as,n,rfl,_⟩:=h;rfl
  obtain⟨R,as,n,rfl,hR,hN,hT,hn,ht,q⟩:=h;have nd:mX.Nodup:=by decide +kernel
  have bY:=hR.len;have hu:=hr.u1;show Run _ _ _ [some<|.ref R,none] H;have keys:=Qy n as bY;have knd:((hV n as).map (·.1)).Nodup:=by rw [keys];exact k5n hN
  have HI:(hV n as).length=n.length:=by have:=BZ List.length keys;simpa using this
  refine aT 1 nd (rH (Zw rfl) T.uV PyProof.Rows.boot_dict (aj (ae 0 (aA ⟨R,as.map (·.1),hV n as,rfl,?_,?_,?_,?_,λdl j5=>?_⟩))))
  ·rw [Ci];exact hR.lst
  ·rw [Aa,HI,bY]
  ·rw [Aa];exact bH<|by omega
  ·intro j t kv h1 h2;rw [Af,Ap] at h1;obtain⟨a,ea,rfl⟩:=h1;have hj:j < n.length:=by have:=(Ac.mp ea).1;omega
   have e:=Qz (Ab hj) ea;rw [h2] at e;cases e;exact(hR.tup j a n[j] ea<|Ab hj).1
  have ef:(hV n as).foldl (λa p=>putK a p.1 p.2) []=hV n as:=by
   rw [k9r (acc:=[]) (by rw [Gd];exact knd),Gd]
  rw [ef];have s1:=aK j5<|.dK<|hV n as;have el:(upd H dl<|.dK<|hV n as) dl=some (.dK<|hV n as):=av;generalize upd H dl (.dK<|hV n as)=H1 at s1 el;show Run _ _ _ [some<|.ref R,some<|.ref dl] H1
  first | refine bL (Pb (aP yC) mX qI 2 (Pk bf) ?_) | refine bL<|Pb (aP yD) mX qI 2 (Pk bf) ?_
  refine bG GO hr<|aj<|ae 0<|aA ⟨R,as,n,rfl,hR.same s1,hN,hT,hn,ht,λd kvs H2 s2 vq ed val vU kks Q6=>?_⟩;refine⟨d,kvs,rfl,ed,λo D hD cl C s₀ H₀ ex=>?_⟩;have nDd:D≠d:=λe=>by rw [e,av] at hD;cases hD
  have gW:H2 D=none:=by rw [au nDd] at hD;exact hD
  have vV:H d=none:=jD s1 vq;have sB:ah H (upd H2 d<|.bh o<|.dT kvs):=db (s1.trans s2) vV;have kB:∀ b o',b≠d->H2 b=some o'->(upd H2 d<|.bh o<|.dT kvs) b=some o':=λb o' hb h=>by rw [au hb];exact h
  have tB:∀ b p j,H2 b=some (Tn p j)->(upd H2 d<|.bh o<|.dT kvs) b=some (Tn p j):=λb p j h=>kB b _ (qD h ed) h;have Q7:(upd H2 d<|.bh o<|.dT kvs) d=some (.bh o<|.dT kvs):=av;have Q8:(upd H2 d<|.bh o<|.dT kvs) dl=some (.dK<|hV n as):=kB _ _ (λe=>by rw [e,vq] at el;cases el)<|s2 _ _ el;have hRB:=hR.same sB;generalize upd H2 d (.bh o<|.dT kvs)=HB at hD sB tB Q7 Q8 hRB;have HK:=jD sB hD;refine Z5 (λi σ' H'=>(∃ v1 v2,σ'=[some<|.ref R,some<|.ref dl]++[v1,v2])/\∃ cG:List<|List Key×V,H' D=some (.dT cG)/\cG.length<=i/\ah HB H' /\
   (∀ j k x e,j < i->kvs[j]?=some (k,x)->e∈ends n->k=key n e->∃ u,al cG (key n e)=some (.ref u)/\H' u=some (TN n<|go c n e)))
   ⟨⟨none,none,rfl⟩,[],av,Am _,aK hD _,λj k x e h=>absurd h<|Dv _⟩ ?_ ?_ ?_
  ·rintro i σ' H' _ ⟨_,_,_,_,sm,_⟩;exact sm _ _ Q7
  ·rintro i k x b Tt σ' H' hx ⟨⟨v1,v2,rfl⟩,cG,eD,l2,sm,all⟩ hb kK;have hi:i < kvs.length:=(Ac.mp hx).1;obtain⟨e,he,rfl⟩:=kks k<|Aj.mpr ⟨_,At hx,rfl⟩;obtain⟨u,hv,FY⟩:=val e he;have mY:al kvs (key n e)=some x:=Q3 vU hx;rw [hv] at mY;cases mY;have Q9:=dj hT he;obtain⟨zo,Ra⟩:=af.mp Q9;have jB:=dz Ra;have mM:=ja Ra;have nmE:nameAt n (other n e).1=n[(other n e).1].1:=qC jB;have sT:=aK kK<|.tup [.ref b,.ref u];have Rb:=sT _ _<|sm _ _<|tB _ _ _ FY;refine iO rfl (aM.of av) (aW 2 Q4<|aW 3 Q4 ?_);refine g7 ?_;rw [BL rfl];have Rc:as[(other n e).1]?=some (as[(other n e).1]'(by omega)):=Ab (by omega);have vW:n[(other n e).1]?=some n[(other n e).1]:=Ab jB;have ev:al (hV n as) (Sum.inr<|nameAt n (other n e).1)=some (.ref (as[(other n e).1]'(by omega)).2):=by rw [nmE];exact Qx knd<|Qz vW Rc
   have HL:=(hR.tup _ _ _ Rc vW).2;have vX:row n (other n e).1=n[(other n e).1].2:=jd jB;refine Pa hu<|ae 2<|bG GT hr<|aj<|ae 3<|aj<|bX eB T.len DR<|aj<|dX hu<|ae 1<|aZ ce<|ae 3<|aD ⟨u,_,_,.str<|nameAt n (other n e).1,rfl,rfl,aM.of Rb,rfl,?_⟩;refine⟨dl,.ref (as[(other n e).1]'(by omega)).2,rfl,by rw [<- ev];exact aU.k (k:=Sum.inr<|nameAt n (other n e).1)<|sT _ _<|sm _ _ Q8,aA ⟨_,_,rfl,.inl<|ai.of<|sT _ _<|sm _ _<|sB _ _ HL,aA ⟨u,_,_,_,rfl,Rb,?_,λt2 H4 s4 zf=>?_⟩⟩⟩
   ·rw [Aa,<- vX];omega
   rw [Aa,<- vX] at zf;have zF:H4 t2=some (TN n<|go c n e):=by
    rw [zf];have:=vf (c:=c) Q9;show some (Tn _ _)=some (Tn _ (((go c n e).2:Nat):Int));unfold go;rw [this];rfl
   have vI:=s4 _ _<|sT _ _ hb;refine⟨_,bT.t (k:=key n e) (s4 _ _<|sT _ _ eD) vI (bH<|by omega),⟨_,_,rfl⟩,_,av,?_,db ((sm.trans sT).trans s4) hD,λj k' x' e' hj iZ Rf pL=>?_⟩
   ·have:=i4 cG (key n e)<|.ref t2;omega
   ·subst pL
    by_cases zv:j=i
    ·subst zv;rw [hx] at iZ;have hke:key n e=key n e':=BZ Prod.fst<|Option.some.inj iZ;obtain⟨z1,qb⟩:=af.mp he;obtain⟨z2,yO⟩:=af.mp Rf;have:=sR hN (dz qb) (dz yO) hke;subst this;exact⟨t2,by rw [c7,BL rfl],by rw [au<|qD zF<|s4 _ _<|sT _ _ eD];exact zF⟩
    ·obtain⟨u3,hu3,hu4⟩:=all j _ x' e' (by omega) iZ Rf rfl;refine⟨u3,?_,?_⟩
     ·rw [c7,BK,hu3];intro hk;have h1:(kvs.map (·.1))[j]?=some (key n e'):=by rw [Af,iZ];rfl
      have h2:(kvs.map (·.1))[i]?=some (key n e'):=by rw [Af,hx,hk];rfl
      exact zv<|q8r vU h1 h2
     ·have q4:=s4 _ _<|sT _ _ hu4;rw [au<|qD q4<|s4 _ _<|sT _ _ eD];exact q4
  ·rintro σ' H' ⟨_,cG,eD,_,sm,all⟩;refine q D cG H' (sB.trans sm) HK eD λe he=>?_;obtain⟨u,hv,_⟩:=val e he;obtain⟨i,hi⟩:∃ i:Nat,(kvs.map (·.1))[i]?=some (key n e):=Be<|Nc hv;rw [Af,Ap] at hi;obtain⟨⟨k,x⟩,hx,hk⟩:=hi;exact all i k x e (Ac.mp hx).1 hx he hk
def q8y{f:Addr}{fd:FuncData}(F:bu K "left_steps" "left_steps" yC f fd)(T:Txt mg)(GO:aO P w K mg base 2 "other_ends" ["rows"] kJ)(GT:aO P w K mg base 2 "turned_left" ["end","many"]<|hU λj=>j+1):aC P w K mg base bA 3 f fd ["rows"] (ia 1):=Q5 (.inl ⟨rfl,rfl,rfl⟩) F T GO GT
def q9u{f:Addr}{fd:FuncData}(F:bu K "right_steps" "right_steps" yD f fd)(T:Txt mg)(GO:aO P w K mg base 2 "other_ends" ["rows"] kJ)(GT:aO P w K mg base 2 "turned_right" ["end","many"]<|hU λj=>j - 1):aC P w K mg base bA 3 f fd ["rows"] (ia (-1)):=Q5 (.inr ⟨rfl,rfl,rfl⟩) F T GO GT
def d7(n:Net)(H:Hp)(ts:List Addr)(es:List Nt.End):Prop:=ts.length=es.length/\∀(j:Nat) t e,ts[j]?=some t->es[j]?=some e->H t=some (TN n e)
def d7.keep{n:Net}{H H':Hp}{ts:List Addr}{es:List Nt.End}(h:d7 n H ts es)(k:∀ t p j,H t=some (Tn p j)->H' t=some (Tn p j)):d7 n H' ts es:=⟨h.1,λj t e h1 h2=>k _ _ _<|h.2 j t e h1 h2⟩
def d7.same{n:Net}{H H':Hp}{ts:List Addr}{es:List Nt.End}(h:d7 n H ts es)(s:ah H H'):d7 n H' ts es:=h.keep λ_ _ _ q=>s _ _ q
def d7.append{n:Net}{H:Hp}{ts us:List Addr}{es fs:List Nt.End}(h:d7 n H ts es)(g:d7 n H us fs):d7 n H (ts++us) (es++fs):=by
 refine⟨by rw [Ad,Ad,h.1,g.1],λj t e h1 h2=>?_⟩;have hl:=h.1
 by_cases hj:j < ts.length
 ·rw [Ao hj] at h1;rw [Ao<|by omega] at h2;exact h.2 j t e h1 h2
 ·rw [Ay<|by omega] at h1 h2;rw [<- hl] at h2;exact g.2 _ t e h1 h2
theorem d7.two{n:Net}{H:Hp}{t u:Addr}{a b:Nt.End}(h1:H t=some (TN n a))(h2:H u=some (TN n b)):d7 n H [t,u] [a,b]:=⟨rfl,λj x e h3 h4=>by
 match j with
 | 0=>cases h3;cases h4;exact h1
 | 1=>cases h3;cases h4;exact h2
 | j+2=>simp at h3⟩
def q82{n:Net}(hN:(n.map (·.1)).Nodup){a b:Nt.End}(ha:a∈ends n)(hb:b∈ends n):decide (nameAt n a.1=nameAt n b.1/\(a.2:Int)=(b.2:Int))=decide (a=b):=by
 obtain⟨z1,h1⟩:=af.mp ha;obtain⟨z2,h2⟩:=af.mp hb;refine decide_eq_decide.mpr ⟨λ⟨p,q⟩=>sR hN (dz h1) (dz h2) (by unfold key;rw [p,q]),λe=>by rw [e];exact⟨rfl,rfl⟩⟩
def HM{K:PySem.W.Frag}{H:Hp}{d:Addr}{xs:List V}(h:H d=some (.lst xs)):lY K "list" (.ref d) H:=Or.inl ⟨rfl,xs,ai.of h⟩
def bz(n:Net)(H:Hp)(d:Addr)(c:Int):Prop:=∃ kvs,H d=some (.dT kvs)/\∀ e∈ends n,∃ u,al kvs (key n e)=some (.ref u)/\H u=some (TN n<|go c n e)
def bz.same{n:Net}{H H':Hp}{d:Addr}{c:Int}(h:bz n H d c)(s:ah H H'):bz n H' d c:=let ⟨kvs,h1,h2⟩:=h;⟨kvs,s _ _ h1,λe he=>let ⟨u,a,b⟩:=h2 e he;⟨u,a,s _ _ b⟩⟩
def bz.get{n:Net}{H:Hp}{d t:Addr}{c:Int}{e:Nt.End}(h:bz n H d c)(he:e∈ends n)(ht:H t=some (TN n e)):∃ u,aU H d (.ref t) (some<|.ref u)/\H u=some (TN n<|go c n e):=by
 obtain⟨kvs,h1,h2⟩:=h;obtain⟨u,a,b⟩:=h2 e he;exact⟨u,by rw [<- a];exact aU.t (k:=key n e) h1 ht,b⟩
def qJ:Sp:=λvs H Q _=>∃(dl dr t:Addr) (n:Net) (e:Nt.End),vs=[.ref dl,.ref dr,.ref t]/\bz n H dl 1/\bz n H dr (-1)/\(n.map (·.1)).Nodup/\aw n/\(ag n).length<=1000/\e∈ends n/\H t=some (TN n e) /\
 ∀(l:Addr) (ts:List Addr) (k:Nat) (H':Hp),ah H H'->H l=none->H' l=some (.lst<|ts.map V.ref)->d7 n H' ts (wk n e k)->jf n e k->k<=(ends n).length->Q (.ref l) H'
abbrev NWf:List Str:=["lefts","rights","first","walker","end"]
def vY:ao NWf ["lefts","rights","first"] (aP pV):=⟨rfl,rfl,rfl,by decide +kernel,rfl,by decide +kernel,by decide +kernel⟩
def HP(ts:List Addr)(a b:Addr):ts.map V.ref++[V.ref a,V.ref b]=(ts++[a]).map V.ref++[V.ref b]:=by rw [Ai,As];rfl
def q9d{f:Addr}{fd:FuncData}(F:bu K "walker_from" "walker_from" pV f fd)(T:Txt mg):aC P w K mg base bA 1 f fd ["lefts","rights","first"] qJ:=by
 refine F.gb vY (λvs H Q E h=>?_) λb0 H vs Q E hr h=>?_
 ·obtain⟨dl,dr,t,n,e,rfl,_⟩:=h;rfl
 obtain⟨dl,dr,t,n,e,rfl,hL,Rg,hN,hT,ib,he,ht,q⟩:=h;have nd:=vY.nd;have mM:=iM n;have hu:=hr.u1;have un:=hr.gq;obtain⟨k,k0,k1,k2⟩:=EC (f:=two n) (S:=ends n) (λa ha=>mH hT ha) (λa ha b hb=>vg hT ha hb) he;obtain⟨u1,g1,e1⟩:=hL.get he ht;show Run _ _ _ [some<|.ref dl,some<|.ref dr,some<|.ref t,none,none] H;refine aT 3 nd<|dU<|aj<|ae 2<|aj<|dX hu<|ae 0<|ae 2 ⟨dl,.ref u1,rfl,g1,aA ⟨Z2,λl hl=>?_⟩⟩;have s1:=aK hl<|.lst [.ref t,.ref u1];have el:(upd H l<|.lst [.ref t,.ref u1]) l=some (.lst<|[t,u1].map V.ref):=av;generalize upd H l (.lst [.ref t,.ref u1])=H1 at s1 el;obtain⟨u2,g2,e2⟩:=(Rg.same s1).get (gB hT he)<|s1 _ _ e1;refine aT 4 nd<|dX hu<|ae 1<|aZ cv<|ae 3<|Nn Mp<|aD ⟨1,rfl,l,_,_,.ref u1,rfl,rfl,ai.of el,rfl,dr,.ref u2,rfl,g2,?_⟩;show Run _ _ _ [some<|.ref dl,some<|.ref dr,some<|.ref t,some<|.ref l,some<|.ref u2] H1;refine uM (λm σ H2=>∃(j:Nat) (ts:List Addr) (u:Addr),m=k - j/\0 < j/\j<=k/\ah H H2/\H2 l=some (.lst<|ts.map V.ref)/\d7 n H2 ts (wk n e j)/\H2 u=some (TN n<|it (two n) j e)/\(∀ i,0 < i->i < j->it (two n) i e≠e)/\σ=[some<|.ref dl,some<|.ref dr,some<|.ref t,some<|.ref l,some<|.ref u])
  (m0:=k - 1) ⟨1,[t,u1],u2,rfl,Ez,k0,s1,el,d7.two (s1 _ _ ht)<|s1 _ _ e1,e2,λi h1 h2=>by omega,rfl⟩ ?_
 rintro m σ H2 ⟨j,ts,u,rfl,j0,j1,sH,vZ,at2,eu,hf,rfl⟩;have HQ:it (two n) j e∈ends n:=j4 (λa ha=>mH hT ha) he j;refine cz (rO un) (ae 4<|ae 2 ⟨1,_,by decide,q5p eu<|sH _ _ ht,_,rfl,?_⟩);rw [q82 hN HQ he];have tl:=at2.1;rw [qf] at tl
 by_cases c:it (two n) j e=e
 ·rw [BW c];exact bR<|bL<|ae 3<|q l ts j H2 sH hl vZ at2 ⟨j0,c,hf⟩<|by omega
 ·rw [BR c];have jk:j < k:=by
   rcases Dt j k with h | h
   ·exact h
   ·have:j=k:=by omega
    subst this;exact absurd k2 c
  obtain⟨v1,g3,e3⟩:=(hL.same sH).get HQ eu;refine cw<|g5<|uL CW PySem.F.slot_list_extend PySem.F.type_list_extend WD<|ae 3 (v:= .ref l) ⟨HM vZ,dU<|aj<|ae 4<|aj<|dX hu<|ae 0<|ae 4 ⟨dl,.ref v1,rfl,g3,aA ⟨Z2,λp hp=>?_⟩⟩⟩;have s3:=aK hp<|.lst [.ref u,.ref v1];have nlp:l≠p:=bd vZ hp;refine⟨l,p,ts.map V.ref,[.ref u,.ref v1],rfl,rfl,s3 _ _ vZ,av,small (by rw [Aa];show _+2<=100000;omega),?_⟩;have qK:ah H (upd (upd H2 p<|.lst [.ref u,.ref v1]) l<|.lst<|ts.map V.ref++[.ref u,.ref v1]):=db (sH.trans s3) hl;have HR:(upd (upd H2 p<|.lst [.ref u,.ref v1]) l<|.lst<|ts.map V.ref++[.ref u,.ref v1]) l=some (.lst<|(ts++[u,v1]).map V.ref):=by rw [av,Ai];rfl
  have kt:∀ b p' j',H2 b=some (Tn p' j')->(upd (upd H2 p<|.lst [.ref u,.ref v1]) l<|.lst<|ts.map V.ref++[.ref u,.ref v1]) b=some (Tn p' j'):=λb p' j' h=>by
   rw [au<|bQ h vZ λz=>nomatch z];exact s3 _ _ h
  generalize upd (upd H2 p<|.lst [.ref u,.ref v1]) l (.lst<|ts.map V.ref++[.ref u,.ref v1])=H3 at qK HR kt;obtain⟨v2,g4,e4⟩:=(Rg.same qK).get (gB hT HQ)<|kt _ _ _ e3;refine aT 4 nd<|dX hu<|ae 1<|aZ cv<|ae 3<|Nn Mp<|aD ⟨1,rfl,l,_,_,.ref v1,rfl,rfl,ai.of HR,?_,dr,.ref v2,rfl,g4,?_⟩
  ·rw [Ai];show eY (ts.map V.ref++[V.ref u,V.ref v1]) (-1)=_;rw [HP];exact Ws _ _
  refine a7 ⟨k - (j+1),by omega,j+1,ts++[u,v1],v2,rfl,VD _,jk,qK,HR,(at2.keep kt).append<|d7.two (kt _ _ _ eu)<|kt _ _ _ e3,e4,λi h1 h2=>?_,rfl⟩
  by_cases dw:i=j
  ·subst dw;exact c
  ·exact hf i h1<|by omega
open bU
theorem Rh{α β:Type}(f:α->β):∀ xs:List α,aq (xs.map f)=(aq xs).map f
 | []=>rfl
 | [a]=>rfl
 | a :: b :: r=>by
  show f a :: aq (r.map f)=f a :: (aq r).map f;rw [Rh f r]
def d7.aq{n:Net}{H:Hp}{ts:List Addr}{es:List Nt.End}(h:d7 n H ts es):d7 n H (L2.aq ts) (L2.aq es):=by
 refine⟨by rw [vd,vd,h.1],λj t e h1 h2=>?_⟩;rw [qe] at h1 h2;exact h.2 _ t e h1 h2
def oI{P:Program}{w:World}{H:Hp}{a d:Addr}{o:HO}{zs:List Str}(h:H a=some o)(g:H d=some (bC P w d zs))(ho:∀ φ,o ≠ .ext φ):a≠d:=λe=>by
 rw [e,g] at h;exact ho _ (Option.some.inj h).symm
structure jF(n:Net)(H:Hp)(L:Addr)(ls:List Addr)(ws:List<|List Nt.End):Prop where
 lst:H L=some (.lst<|ls.map V.ref)
 len:ls.length=ws.length
 dB:ls.Nodup
 out:L∉ls
 at':∀(j:Nat) l w,ls[j]?=some l->ws[j]?=some w->∃ ts,H l=some (.lst<|ts.map V.ref)/\d7 n H ts w
def jF.same{n:Net}{H H':Hp}{L:Addr}{ls:List Addr}{ws:List (List Nt.End)}(h:jF n H L ls ws)(s:ah H H'):jF n H' L ls ws:=
 ⟨s _ _ h.lst,h.len,h.dB,h.out,λj l w h1 h2=>let ⟨ts,a,b⟩:=h.at' j l w h1 h2;⟨ts,s _ _ a,b.same s⟩⟩
def jF.keep{n:Net}{H H':Hp}{L:Addr}{ls:List Addr}{ws:List (List Nt.End)}(h:jF n H L ls ws)(hL:H' L=H L)(kl:∀ l∈ls,∀ o,H l=some o->H' l=some o)(kt:∀ t p j,H t=some (Tn p j)->H' t=some (Tn p j)):jF n H' L ls ws:=
 ⟨by rw [hL];exact h.lst,h.len,h.dB,h.out,λj l w h1 h2=>let ⟨ts,a,b⟩:=h.at' j l w h1 h2;⟨ts,kl l (At h1) _ a,b.keep kt⟩⟩
def jF.snoc{n:Net}{H H':Hp}{L l:Addr}{ls ts:List Addr}{ws:List (List Nt.End)}{v:List Nt.End}(h:jF n H L ls ws)(hL:H' L=some (.lst<|ls.map V.ref++[.ref l]))(kl:∀ l∈ls,∀ o,H l=some o->H' l=some o)(kt:∀ t p j,H t=some (Tn p j)->H' t=some (Tn p j))
  (hl:H' l=some (.lst<|ts.map V.ref)) (hv:d7 n H' ts v) (hn:l∉ls) (HU:L≠l):jF n H' L (ls++[l]) (ws++[v]):=by
 refine⟨by rw [hL,Ai];rfl,by rw [Ad,Ad,h.len];rfl,me h.dB hn,λhm=>?_,λj a x h1 h2=>?_⟩
 ·rcases An.mp hm with hm | hm
  ·exact h.out hm
  ·exact HU<|Ag.mp hm
 ·have hlen:=h.len
  by_cases hj:j < ls.length
  ·rw [Ao hj] at h1;rw [Ao<|by omega] at h2;obtain⟨us,q1,q2⟩:=h.at' j a x h1 h2;exact⟨us,kl a (At h1) _ q1,q2.keep kt⟩
  ·rw [Ay<|by omega] at h1 h2;have fD:j - ls.length=0:=by
    have:=(Ac.mp h1).1;simp at this;omega
   rw [fD] at h1;rw [<- hlen,fD] at h2;cases h1;cases h2;exact⟨ts,hl,hv⟩
def zG:Sp:=λvs H Q _=>∃(R:Addr) (as:List<|Addr×Addr) (n:Net),vs=[.ref R]/\ak H R as n/\(n.map (·.1)).Nodup/\aw n/\n.length<=1000/\(ag n).length<=400 /\
 ∀(L:Addr) (ls:List Addr) (H':Hp),ah H H'->H L=none->jF n H' L ls (dZ n (ends n) [])->(∀ l∈ls,H l=none)->Q (.ref L) H'
def q44{n:Net}{i:Nat}{p:Str×Nt.End}(h:(bg n)[i]?=some p):(ends n)[i]?=some p.2:=by unfold ends;rw [Af,h];rfl
abbrev NWs:List Str:=["rows","lefts","rights","names","told","walkers","first","walker","end"]
def v8:ao NWs ["rows"] (aP pU):=⟨rfl,rfl,rfl,by decide +kernel,rfl,by decide +kernel,by decide +kernel⟩
def q61{f:Addr}{fd:FuncData}(F:bu K "walkers_of" "walkers_of" pU f fd)(T:Txt mg)
  (GL:aO P w K mg base 3 "left_steps" ["rows"]<|ia 1)
  (GR:aO P w K mg base 3 "right_steps" ["rows"]<|ia (-1))
  (GN:aO P w K mg base 3 "ties_by_end" ["rows"] mV)
  (GO:aO P w K mg base 3 "ends_in_order" ["rows"] Ht)
  (GW:aO P w K mg base 3 "walker_from" ["lefts","rights","first"] qJ) :
  aC P w K mg base bA 4 f fd ["rows"] zG:=by
 refine F.gb v8 (λvs H Q E h=>?_) λb0 H vs Q E hr h=>?_
 ·obtain⟨R,as,n,rfl,_⟩:=h;rfl
 obtain⟨R,as,n,rfl,hR,hN,hT,hn,ib,q⟩:=h;have nd:=v8.nd;have mM:=iM n;have hu:=hr.u1;show Run _ _ _ [some<|.ref R,none,none,none,none,none,none,none,none] H;refine aT 1 nd (bG GL hr<|aj<|ae 0<|aA ⟨R,as,n,rfl,hR,hN,hT,hn,by omega,λdl kl H1 s1 n1 e1 v1=>?_⟩);refine aT 2 nd (bG GR hr<|aj<|ae 0<|aA ⟨R,as,n,rfl,hR.same s1,hN,hT,hn,by omega,λdr kr H2 s2 n2 e2 v2=>?_⟩);refine aT 3 nd (bG GN hr<|aj<|ae 0<|aA ⟨R,as,n,rfl,hR.same<|s1.trans s2,hN,hn,by omega,λdn kn H3 s3 n3 e3 v3=>?_⟩);refine aT 4 nd<|q4b T.E5 λD hD=>?_;refine aT 5 nd<|dU<|aA ⟨Z0,λL hL=>?_⟩;have hSL:bz n H3 dl 1:=bz.same ⟨kl,e1,v1⟩<|s2.trans s3;have hSR:bz n H3 dr (-1):=bz.same ⟨kr,e2,v2⟩ s3;have qL:=(s1.trans s2).trans s3;have zH:L≠D:=λe=>by rw [e,av] at hL;cases hL
 have hL3:H3 L=none:=by rw [au zH] at hL;exact hL
 have HK:=jD qL hD;have zj:=jD qL hL3;have sB:ah H3 (upd (upd H3 D<|bC P w D []) L<|.lst []):=(aK hD _).trans<|aK hL _;have Ri:(upd (upd H3 D<|bC P w D []) L<|.lst []) D=some (bC P w D []):=by rw [au<|CG zH,av]
 have HV:(upd (upd H3 D<|bC P w D []) L<|.lst []) L=some (.lst []):=av;have HZ:=qL.trans sB;have v9:=hSL.same sB;have wa:=hSR.same sB;have Rj:=sB _ _ e3;show Run _ _ _ [some<|.ref R,some<|.ref dl,some<|.ref dr,some<|.ref dn,some<|.ref D,some<|.ref L,none,none,none] (upd (upd H3 D<|bC P w D []) L<|.lst []);generalize upd (upd H3 D<|bC P w D []) L (.lst [])=HB at sB Ri HV HZ v9 wa Rj;refine jU (bG GO hr<|aj<|ae 0<|aA ⟨R,as,n,rfl,hR.same HZ,hn,by omega,λU us H5 s5 n5 e5 Ia=>⟨U,rfl,⟨_,ai.of e5⟩,?_⟩⟩);have sX:=HZ.trans s5;have lK:=s5 _ _ Ri;have oJ:=s5 _ _ HV;have Ib:=v9.same s5;have Ic:=wa.same s5;have Ie:=s5 _ _ Rj;have nUL:U≠L:=λe=>by rw [e,HV] at n5;cases n5
 have mZ:us.length=(ends n).length:=by rw [Ia.1];unfold ends;rw [Aa]
 refine jV (xs:=us.map V.ref) (λi σ H'=>∃(zs told:List Str) (ls:List Addr) (ws:List<|List Nt.End) (u1 u2 u3:Option V),(∀ b o,b≠D->b≠L->H5 b=some o->H' b=some o)/\H' D=some (bC P w D zs)/\zs.Nodup/\(∀ z∈zs,z∈ag n)/\(∀ z,z∈zs↔z∈told) /\
  jF n H' L ls ws/\(∀ l∈ls,H5 l=none)/\ls.length<=i/\dZ n (ends n) []=ws++dZ n ((ends n).drop i) told/\σ=[some<|.ref R,some<|.ref dl,some<|.ref dr,some<|.ref dn,some<|.ref D,some<|.ref L,u1,u2,u3])
  ⟨[],[],[],[],_,_,_,λb o _ _ h=>h,lK,Cj,λz h=>by simp at h,λz=>by simp,⟨oJ,rfl,Cj,by simp,λj l w h=>by simp at h⟩,λl h=>by simp at h,Am _,rfl,rfl⟩ ?_ ?_ ?_
 ·rintro i σ H' _ ⟨_,_,_,_,_,_,_,kp,_⟩;exact ai.of<|kp _ _ (oI e5 lK λφ z=>nomatch z) nUL e5
 ·rintro i x σ H' hx ⟨zs,told,ls,ws,u1,u2,u3,kp,eD,zn,zt,zm,hW,hf,oh,wc,rfl⟩;have hi:i < us.length:=by
   have:=(Ac.mp hx).1;rw [Aa] at this;exact this
  rw [Af,Ab hi] at hx;cases hx;have Ig:i < (bg n).length:=by have:=Ia.1;omega
  have zI:H5 us[i]=some (TN n (bg n)[i].2):=Ia.2 i us[i] (bg n)[i] (Ab hi)<|Ab Ig;have m4:=q44<|Ab Ig;have jj:aG n (bg n)[i].2=some (bg n)[i].1:=aV.mp (by have:=Bs Ig;exact this);generalize (bg n)[i]=pr at zI m4 jj;obtain⟨z,e⟩:=pr;have zI:H5 us[i]=some (TN n e):=zI;have jj:aG n e=some z:=jj;have m4:(ends n)[i]?=some e:=m4;have he:e∈ends n:=At m4;have oK:(ends n).drop i=e :: (ends n).drop (i+1):=by
   have Rk:i < (ends n).length:=by omega
   rw [QM Rk]
   congr 1
   have:=Ab Rk;rw [m4] at this;exact(Option.some.inj this).symm
  have Rl:∀{b p j},H5 b=some (Tn p j)->H' b=some (Tn p j):=λ{b p j} h=>kp _ _ (oI h lK λφ z=>nomatch z) (bQ h oJ λz=>nomatch z) h;have dC:=Rl zI;have Ih:H' dn=some (.dT kn):=kp _ _ (oI Ie lK λφ z=>nomatch z) (bQ Ie oJ λz=>nomatch z) Ie;have cg:∀{d c},bz n H5 d c->bz n H' d c:=λ{d c} ⟨kvs,a,b⟩=>⟨kvs,kp _ _ (oI a lK λφ z=>nomatch z) (bQ a oJ λz=>nomatch z) a,λe he=>let ⟨u,p,r⟩:=b e he;⟨u,p,Rl r⟩⟩;have hd1:aU H' dn (.ref us[i]) (some<|.str z):=by rw [<- v3 e z jj];exact aU.t (k:=key n e) Ih dC
  refine aW 6 nd ?_;refine gM<|cz k0j<|dX hu<|ae 3<|ae 6 ⟨dn,.str z,rfl,hd1,ae 4 ⟨z,D,zs,rfl,rfl,eD,_,rfl,?_⟩⟩;refine gg (λc=>?_) λc=>?_
  ·have hz:z∉zs:=BX c;have fG:ay n e∉told:=by rw [dY jj];exact λh=>hz<|(zm z).mpr h
   refine aT 7 nd (bG GW hr<|aj<|ae 1<|aj<|ae 2<|aj<|ae 6<|aA ⟨dl,dr,us[i],n,e,rfl,cg Ib,cg Ic,hN,hT,by omega,he,dC,λl ts k H6 s6 n6 e6 at6 pr hk=>?_⟩);have hpe:=vi pr;have we:walker n e=wk n e k:=by unfold walker;rw [hpe]
   have qM:=s6 _ _ hW.lst;have dD:=s6 _ _ eD;have Ii:L≠l:=bd hW.lst n6;have sQ:D≠l:=bd eD n6;refine g5 (j3<|ae 5 ⟨L,rfl,⟨_,qM⟩,ae 7 ⟨_,qM,by rw [Aa];exact bH (by omega),?_⟩⟩);have k7:∀ b o,b≠L->H6 b=some o->(upd H6 L<|.lst<|ls.map V.ref++[.ref l]) b=some o:=λb o hb h=>by rw [au hb];exact h
   have Rm:(upd H6 L<|.lst<|ls.map V.ref++[.ref l]) L=some (.lst<|ls.map V.ref++[.ref l]):=av;generalize upd H6 L (.lst<|ls.map V.ref++[.ref l])=H7 at k7 Rm;have Rn:∀ t p j,H6 t=some (Tn p j)->H7 t=some (Tn p j):=λt p j h=>k7 _ _ (bQ h qM λz=>nomatch z) h;have e7:=k7 _ _ (CG Ii) e6;have eD7:=k7 _ _ (CG zH) dD;have Ro:=at6.keep Rn;have Ij:l∉ls:=λhm=>by
    obtain⟨j,hj⟩:=Be hm;have hlen:=hW.len;have Ik:j < ws.length:=by have:=(Ac.mp hj).1;omega
    obtain⟨_,a,_⟩:=hW.at' j l ws[j] hj<|Ab Ik;rw [n6] at a;cases a
   have hW7:jF n H7 L (ls++[l]) (ws++[wk n e k]):=hW.snoc Rm (λa ha o ho=>k7 _ _ (λq=>hW.out<|q ▸ ha)<|s6 _ _ ho) (λt p j h=>Rn _ _ _<|s6 _ _ h) e7 Ro Ij Ii;have l57:H5 l=none:=by
    cases q5:H5 l with
    | none=>rfl
    | some o=>rw [kp _ _ (CG sQ) (CG Ii) q5] at n6;cases n6
   have hf7:∀ a∈ls++[l],H5 a=none:=λa ha=>by
    rcases An.mp ha with ha | ha
    ·exact hf a ha
    ·rw [Ag.mp ha];exact l57
   have vE:∀ b o,b≠D->b≠L->H5 b=some o->H7 b=some o:=λb o h1 h2 h=>k7 _ _ h2<|s6 _ _<|kp b o h1 h2 h;have zJ:(ls++[l]).length<=i+1:=by rw [Ad];show ls.length+1<=_;omega
   have Il:dZ n (ends n) []=(ws++[wk n e k])++dZ n ((ends n).drop<|i+1) (told++(aq<|wk n e k).map (ay n)):=by
    rw [wc,oK];show ws++(if ay n e∈told then _ else _)=_;rw [BK fG,we,As];rfl
   have m6:=F3 hT he k;refine jU<|Z8<|ae 7 ⟨l,_,rfl,ai.of e7,λp hp=>⟨p,rfl,⟨_,ai.of av⟩,?_⟩⟩;rw [Rh];have s8:=aK hp<|.lst<|(aq ts).map V.ref;have e8:(upd H7 p<|.lst<|(aq ts).map V.ref) p=some (.lst<|(aq ts).map V.ref):=av;have oM:=s8 _ _ eD7;have sY:=hW7.same s8;have zK:=(Ro.same s8).aq;have Rp:∀ b o,b≠D->b≠L->H5 b=some o->(upd H7 p<|.lst<|(aq ts).map V.ref) b=some o:=λb o h1 h2 h=>s8 _ _<|vE b o h1 h2 h;have Im:=s8 _ _ (k7 _ _ (bQ Ih hW.lst λz=>nomatch z)<|s6 _ _ Ih);generalize upd H7 p (.lst<|(aq ts).map V.ref)=H8 at s8 e8 oM sY zK Rp Im;have Io:p≠D:=oI e8 oM λφ z=>nomatch z;refine jV (xs:=(aq ts).map V.ref) (λm σ H9=>∃(iF:List Str) (u3:Option V),(∀ b o,b≠D->H8 b=some o->H9 b=some o)/\H9 D=some (bC P w D iF)/\iF.Nodup/\(∀ z∈iF,z∈ag n)/\(∀ z,z∈iF↔z∈told++((aq<|wk n e k).take m).map (ay n)) /\
    σ=[some<|.ref R,some<|.ref dl,some<|.ref dr,some<|.ref dn,some<|.ref D,some<|.ref L,some<|.ref us[i],some<|.ref l,u3]) ⟨zs,_,λb o _ h=>h,oM,zn,zt,λz=>by rw [zm z];simp,rfl⟩ ?_ ?_ ?_
   ·rintro m σ H9 _ ⟨_,_,k9,_⟩;exact ai.of<|k9 _ _ Io e8
   ·rintro m x σ H9 hx ⟨iF,u3,k9,zL,wg,zM,zN,rfl⟩;have hm:m < (aq ts).length:=by
     have:=(Ac.mp hx).1;rw [Aa] at this;exact this
    have l8:=zK.1;rw [Af,Ab hm] at hx;cases hx;have mL:m < (aq<|wk n e k).length:=by omega
    have Ip:=zK.2 m _ _ (Ab hm)<|Ab mL;have hcw:(aq<|wk n e k)[m]∈wk n e k:=by
     have h1:(aq<|wk n e k)[m]?=some (aq<|wk n e k)[m]:=Ab mL;rw [qe] at h1;exact At h1
    have zb:=m6 _ hcw;obtain⟨y,hy⟩:=af.mp zb;have ic:(aq<|wk n e k).take (m+1)=(aq<|wk n e k).take m++[(aq<|wk n e k)[m]]:=by rw [Bx,Ab mL];rfl
    generalize (aq<|wk n e k)[m]=c at Ip zb hy ic;have hc9:H9 (aq ts)[m]=some (TN n c):=k9 _ _ (oI Ip oM λφ z=>nomatch z) Ip;have ed9:H9 dn=some (.dT kn):=k9 _ _ (oI Im oM λφ z=>nomatch z) Im;have hd9:aU H9 dn (.ref (aq ts)[m]) (some<|.str y):=by rw [<- v3 c y hy];exact aU.t (k:=key n c) ed9 hc9
    have zl:iF.length<=(ag n).length:=aE wg zM;refine aW 8 nd ?_;refine g5<|q2q<|ae 4 ⟨D,rfl,⟨_,zL⟩,dX hu<|ae 3<|ae 8 ⟨dn,.str y,rfl,hd9,y,iF,rfl,zL,by omega,a7 ⟨added iF y,_,λb o hb h=>?_,av,?_,λz hz=>?_,λz=>?_,rfl⟩⟩⟩
    ·rw [au hb];exact k9 b o hb h
    ·unfold added
     split
     ·exact wg
     ·rename_i hny;exact me wg hny
    ·rcases (N5 iF y z).mp hz with h | h
     ·exact zM z h
     ·rw [h];exact eI hy
    ·rw [N5,zN z,ic,Ai,<- As,An (s:=told++_)];show _\/z=y↔_\/z∈[ay n c];rw [dY hy,Ag]
   ·rintro σ H9 ⟨iF,u3,k9,zL,wg,zM,zN,rfl⟩;have l8:=zK.1;rw [Aa,l8,Bm] at zN;refine a7<|a7 ⟨iF,told++(aq<|wk n e k).map (ay n),ls++[l],ws++[wk n e k],_,_,_,λb o h1 h2 h=>k9 _ _ h1<|Rp b o h1 h2 h,zL,wg,zM,zN,?_,hf7,zJ,Il,rfl⟩;refine sY.keep ?_ (λa ha o ho=>k9 _ _ ?_ ho) λt p j h=>k9 _ _ (oI h oM λφ z=>nomatch z) h
    ·rw [sY.lst];exact k9 _ _ zH sY.lst
    ·intro q;rw [q,oM] at ho;obtain⟨j,hj⟩:=Be ha;have hlen:=sY.len;have Ik:j < (ws++[wk n e k]).length:=by have:=(Ac.mp hj).1;omega
     obtain⟨_,b,_⟩:=sY.at' j a _ hj<|Ab Ik;rw [q,oM] at b;cases b
  ·have hz:z∈zs:=Classical.not_not.mp<|JB<|Ed.mpr c;refine a7 (a7 ⟨zs,told,ls,ws,_,_,_,kp,eD,zn,zt,zm,hW,hf,by omega,?_,rfl⟩);rw [wc,oK];show ws++(if ay n e∈told then _ else _)=_;rw [BL<|by rw [dY jj];exact(zm z).mp hz]
 ·rintro σ H' ⟨zs,told,ls,ws,u1,u2,u3,kp,eD,zn,zt,zm,hW,hf,oh,wc,rfl⟩;rw [Aa,mZ,List.drop_length] at wc;have Iq:dZ n (ends n) []=ws:=by rw [wc];show ws++[]=ws;rw [Ba]
  refine bL (ae 5<|q L ls H' (λb o h=>?_) zj (by rw [Iq];exact hW) λl hl=>jD sX<|hf l hl);exact kp _ _ (bd h HK) (bd h zj)<|sX _ _ h
end
end Q2
namespace oO
open PySem PySem.W PyProof.Rows
section
variable{lt:Nat->Nat->Bool}{cmp:Nat->Nat->(Bool->Shared->Prop)->Shared->Prop}{J:Shared->Prop}{n:Nat}
structure d8(lt:Nat->Nat->Bool)(cmp:Nat->Nat->(Bool->Shared->Prop)->Shared->Prop)(J:Shared->Prop)(n:Nat):Prop where
 ask:∀(i j:Nat) (C:Bool->Shared->Prop) (s:Shared),i < n->j < n->i≠j->J s->(∀ s',J s'->C (lt i j) s')->cmp i j C s
 oP:∀ i j,i < n->j < n->i≠j->lt i j=true\/lt j i=true
 asy:∀ i j,lt i j=true->lt j i=false
 zO:∀ i j k,lt i j=true->lt j k=true->lt i k=true
def g(p:Array Nat)(i:Nat):Nat:=p.getD i 0
structure Pm(p:Array Nat)(n:Nat):Prop where
 size:p.size=n
 lt:∀ i,i < n->g p i < n
 inj:∀ i j,i < n->j < n->g p i=g p j->i=j
def jl{p:Array Nat}{i:Nat}{v:Nat}(h:p[i]?=some v):g p i=v:=by
 unfold g;rw [Es,h];rfl
def kP{p q:Array Nat}{i j:Nat}(h:p[i]?=q[j]?):g p i=g q j:=by
 unfold g;rw [Es,Es,h]
def Rq(n:Nat):Pm (List.toArray<|List.range n) n:=by
 have e:∀ i,i < n->g (List.toArray<|List.range n) i=i:=λi hi=>jl (by simp [hi]);exact⟨by simp,λi hi=>by rw [e i hi];exact hi,λi j hi hj h=>by rw [e i hi,e j hj] at h;exact h⟩
def Up(lt:Nat->Nat->Bool)(p:Array Nat)(m:Nat):Prop:=∀ i j,i < j->j < m->lt (g p i) (g p j)=true
def Dn(lt:Nat->Nat->Bool)(p:Array Nat)(m:Nat):Prop:=∀ i j,i < j->j < m->lt (g p j) (g p i)=true
def q8o(p:Array Nat):Up lt p 1:=λi j h1 h2=>by omega
def q3e(A:d8 lt cmp J n){p:Array Nat}{m:Nat}(h1:1<=m)(h:Up lt p m)(hm:lt (g p<|m - 1) (g p m)=true):Up lt p (m+1):=λi j hi hj=>by
 by_cases c:j < m
 ·exact h i j hi c
 ·have:j=m:=by omega
  subst this
  by_cases d:i=j - 1
  ·rw [d];exact hm
  ·exact A.zO _ _ _ (h i (j - 1) (by omega)<|by omega) hm
def q3p(A:d8 lt cmp J n){p:Array Nat}{m:Nat}(h1:1<=m)(h:Dn lt p m)(hm:lt (g p m) (g p<|m - 1)=true):Dn lt p (m+1):=λi j hi hj=>by
 by_cases c:j < m
 ·exact h i j hi c
 ·have:j=m:=by omega
  subst this
  by_cases d:i=j - 1
  ·rw [d];exact hm
  ·exact A.zO _ _ _ hm<|h i (j - 1) (by omega)<|by omega
def Ir(A:d8 lt cmp J n){i j:Nat}(hi:i < n)(hj:j < n)(bw:i≠j)(h:lt i j=false):lt j i=true:=by
 rcases A.oP i j hi hj bw with q | q
 ·rw [h] at q;cases q
 ·exact q
theorem Iu(A:d8 lt cmp J n){p:Array Nat}(P:Pm p n):∀(f m:Nat) (Q:Nat->Shared->Prop) (s:Shared),1<=m->m+f<=n->Up lt p m->J s ->
  (∀ k s',J s'->m<=k->k<=m+f->Up lt p k->(k < m+f->lt (g p k) (g p<|k - 1)=true)->Q k s')->(kas_asc p f m).kasWp cmp Q s
 | 0,m,Q,s,h1,h2,hu,hJ,k=>k m s hJ (Am _) (Am _) hu λh=>by omega
 | f+1,m,Q,s,h1,h2,hu,hJ,k=>by
  have bw:g p m≠g p (m - 1):=λh=>by have:=P.inj m (m - 1) (by omega) (by omega) h;omega
  refine A.ask _ _ _ _ (P.lt m<|by omega) (P.lt (m - 1)<|by omega) bw hJ λs' gF=>?_;cases e:lt (p.getD m 0) (p.getD (m - 1) 0) with
  | true=>exact k m s' gF (Am _) (by omega) hu λ_=>e
  | false=>
   have kQ:Up lt p (m+1):=q3e A h1 hu (Ir A (P.lt m<|by omega) (P.lt (m - 1)<|by omega) bw e);exact Iu A P f (m+1) Q s' (by omega) (by omega) kQ gF λk' s2 j2 a b c d=>k k' s2 j2 (by omega) (by omega) c λh=>d<|by omega
theorem Rr(A:d8 lt cmp J n){p:Array Nat}(P:Pm p n):∀(f m:Nat) (Q:Array Nat×Nat×Nat->Shared->Prop) (s:Shared),1<=m->m+f<=n->Dn lt p m->J s ->
  (∀ k s',J s'->m<=k->k<=m+f->Dn lt p k->Q (p,k,0) s')->(kas_desc f p m 0).kasWp cmp Q s
 | 0,m,Q,s,h1,h2,hd,hJ,k=>k m s hJ (Am _) (Am _) hd
 | f+1,m,Q,s,h1,h2,hd,hJ,k=>by
  have bw:g p m≠g p (m - 1):=λh=>by have:=P.inj m (m - 1) (by omega) (by omega) h;omega
  refine A.ask _ _ _ _ (P.lt m<|by omega) (P.lt (m - 1)<|by omega) bw hJ λs' gF=>?_;cases e:lt (p.getD m 0) (p.getD (m - 1) 0) with
  | true=>
   show(if true=true then(if 0 > 0 then _ else kas_desc f p (m+1) 0) else _:KasT _).kasWp cmp Q s';rw [BL rfl,BK<|by omega];exact Rr A P f (m+1) Q s' (by omega) (by omega) (q3p A h1 hd e) gF λk' s2 j2 a b c=>k k' s2 j2 (by omega) (by omega) c
  | false=>
   refine A.ask _ _ _ _ (P.lt (m - 1)<|by omega) (P.lt m<|by omega) (CG bw) gF λs2 wj=>?_;have e2:lt (p.getD (m - 1) 0) (p.getD m 0)=true:=Ir A (P.lt m<|by omega) (P.lt (m - 1)<|by omega) bw e;rw [e2];exact k m s2 wj (Am _) (by omega) hd
def wm{p:Array Nat}{m k:Nat}(h:m<=p.size):g (kas_rev p 0 m) k=if k < m then g p (m - 1 - k) else g p k:=by
 have e:=getElem?_mirror_all (xs:=p) (i:=0) (j:=m) h k
 by_cases c:k < m
 ·rw [BL c];rw [BL ⟨Bp _,c⟩] at e;refine kP<|e.trans ?_
  congr 1
  omega
 ·rw [BK c];rw [BK λq=>c q.2] at e;exact kP e
def Rt{p:Array Nat}{m:Nat}(P:Pm p n)(h:m<=n):Pm (kas_rev p 0 m) n:=by
 have hs:m<=p.size:=by rw [P.size];exact h
 refine⟨by rw [kas_rev_size];exact P.size,λi hi=>?_,λi j hi hj q=>?_⟩
 ·rw [wm hs]
  split
  ·exact P.lt _<|by omega
  ·exact P.lt _ hi
 ·rw [wm hs,wm hs] at q
  by_cases c:i < m <;> by_cases d:j < m
  ·rw [BL c,BL d] at q;have:=P.inj _ _ (by omega) (by omega) q;omega
  ·rw [BL c,BK d] at q;have:=P.inj _ _ (by omega) hj q;omega
  ·rw [BK c,BL d] at q;have:=P.inj _ _ hi (by omega) q;omega
  ·rw [BK c,BK d] at q;exact P.inj _ _ hi hj q
def q7l{p:Array Nat}{m:Nat}(P:Pm p n)(h:m<=n)(hd:Dn lt p m):Up lt (kas_rev p 0 m) m:=λi j hi hj=>by
 have hs:m<=p.size:=by rw [P.size];exact h
 rw [wm hs,wm hs,BL (by omega),BL hj];exact hd (m - 1 - j) (m - 1 - i) (by omega)<|by omega
def q07(A:d8 lt cmp J n){p:Array Nat}(P:Pm p n){m:Nat}{Q:Nat×Array Nat->Shared->Prop}{s:Shared}(h1:1<=m)(h2:m<=n)(hd:Dn lt p m)(hJ:J s)
  (k:∀ r q s',J s'->1<=r->r<=n->Pm q n->Up lt q r->Q (r,q) s'):(kas_tail3 m n p).kasWp cmp Q s:=by
 unfold kas_tail3;rw [JT];exact Iu A (Rt P h2) (n - m) m _ s h1 (by omega) (q7l P h2 hd) hJ λr s' j a b c _=>k r _ s' j (by omega) (by omega) (Rt P h2) c
def q0a(A:d8 lt cmp J n){p:Array Nat}(P:Pm p n){Q:Nat×Array Nat->Shared->Prop}{s:Shared}(h2:2<=n)(hJ:J s)
  (k:∀ r q s',J s'->1<=r->r<=n->Pm q n->Up lt q r->Q (r,q) s'):(kas_count n p).kasWp cmp Q s:=by
 unfold kas_count;rw [JT];refine Iu A P (n - 1) 1 _ s (Am _) (by omega) (q8o p) hJ λm s' gF m1 m2 hu wn=>?_
 by_cases c:m=n
 ·subst c;rw [BL<|by simp];exact k m p s' gF m1 (Am _) P hu
 ·rw [BK<|by simpa using c]
  by_cases d:m > 1
  ·rw [BL d];have bw:g p 0≠g p (m - 1):=λh=>by have:=P.inj 0 (m - 1) (by omega) (by omega) h;omega
   refine A.ask _ _ _ _ (P.lt 0<|by omega) (P.lt (m - 1)<|by omega) bw gF λs2 wj=>?_;have e:lt (p.getD 0 0) (p.getD (m - 1) 0)=true:=hu 0 (m - 1) (by omega) (by omega);rw [e];exact k m p s2 wj m1 (by omega) P hu
  ·rw [BK d];have em:m=1:=by omega
   subst em;unfold kas_descPart;rw [JT];have hl:=wn (by omega);have hd2:Dn lt p 2:=λi j hi hj=>by
    have:i=0/\j=1:=by omega
    rw [this.1,this.2];exact hl
   refine Rr A P (n - (1+1)) (1+1) _ s' (by omega) (by omega) hd2 gF λr s2 wj r1 r2 hd=>?_;show(if(0:Nat) > 0 then _ else kas_tail3 r n p:KasT _).kasWp cmp Q s2;rw [BK<|by omega];exact q07 A P (by omega) (by omega) hd wj k
theorem Iv(A:d8 lt cmp J n){p:Array Nat}(P:Pm p n){k:Nat}(hk:k < n)(hu:Up lt p k):∀(f l r:Nat) (Q:Nat->Shared->Prop) (s:Shared),r<=k->l<=r->r - l<=f->J s->(∀ i,i < l->lt (g p i) (g p k)=true)->(∀ i,r<=i->i < k->lt (g p k) (g p i)=true) ->
  (∀ m s',J s'->m<=k->(∀ i,i < m->lt (g p i) (g p k)=true)->(∀ i,m<=i->i < k->lt (g p k) (g p i)=true)->Q m s')->(kas_place p k f l r).kasWp cmp Q s
 | 0,l,r,Q,s,h1,h2,h3,hJ,ha,hb,q=>q l s hJ (by omega) ha λi hi=>hb i<|by omega
 | f+1,l,r,Q,s,h1,h2,h3,hJ,ha,hb,q=>by
  unfold kas_place
  by_cases c:l>=r
  ·rw [BL c];exact q l s hJ (by omega) ha λi hi=>hb i<|by omega
  ·rw [BK c];have hmk:(l+r) / 2 < k:=by omega
   have bw:g p k≠g p ((l+r) / 2):=λh=>by have:=P.inj k _ hk (by omega) h;omega
   refine A.ask _ _ _ _ (P.lt k hk) (P.lt _<|by omega) bw hJ λs' gF=>?_;cases e:lt (p.getD k 0) (p.getD ((l+r) / 2) 0) with
   | true=>
    show(kas_place p k f l<|(l+r) / 2).kasWp cmp Q s';refine Iv A P hk hu f l ((l+r) / 2) Q s' (by omega) (by omega) (by omega) gF ha (λi hi Ru=>?_) q
    by_cases d:i=(l+r) / 2
    ·rw [d];exact e
    ·exact A.zO _ _ _ e<|hu _ _ (by omega) Ru
   | false=>
    show(kas_place p k f ((l+r) / 2+1) r).kasWp cmp Q s';have e2:=Ir A (P.lt k hk) (P.lt _<|by omega) bw e;refine Iv A P hk hu f ((l+r) / 2+1) r Q s' h1 (by omega) (by omega) gF (λi hi=>?_) hb q
    by_cases d:i=(l+r) / 2
    ·rw [d];exact e2
    ·exact A.zO _ _ _ (hu _ _ (by omega) hmk) e2
def wo{p:Array Nat}{k m i:Nat}(hk:k < p.size)(hm:m<=k):g (bubble p k<|k - m) i=if i=m then g p k else if m < i/\i<=k then g p (i - 1) else g p i:=by
 have e:=getElem?_bubble (xs:=p) hk (k - m) (by omega) i;rw [show k - (k - m)=m by omega] at e
 by_cases c:i=m
 ·rw [BL c];rw [BL c] at e;exact kP e
 ·rw [BK c];rw [BK c] at e
  by_cases d:m < i/\i<=k
  ·rw [BL d];rw [BL d] at e;exact kP e
  ·rw [BK d];rw [BK d] at e;exact kP e
def q6h{p:Array Nat}{k m:Nat}(P:Pm p n)(hk:k < n)(hm:m<=k):Pm (bubble p k<|k - m) n:=by
 have hs:k < p.size:=by rw [P.size];exact hk
 refine⟨by rw [bubble_size];exact P.size,λi hi=>?_,λi j hi hj q=>?_⟩
 ·rw [wo hs hm]
  split
  ·exact P.lt k hk
  ·split
   ·exact P.lt _<|by omega
   ·exact P.lt _ hi
 ·rw [wo hs hm,wo hs hm] at q;have src:∀ a,a < n->∃ b,b < n/\(if a=m then g p k else if m < a/\a<=k then g p (a - 1) else g p a)=g p b/\((a=m/\b=k)\/(a≠m/\(m < a/\a<=k)/\b=a - 1)\/(a≠m/\¬(m < a/\a<=k)/\b=a)):=λa ha=>by
   by_cases c:a=m
   ·exact⟨k,hk,by rw [BL c],.inl ⟨c,rfl⟩⟩
   ·by_cases d:m < a/\a<=k
    ·exact⟨a - 1,by omega,by rw [BK c,BL d],.inr<|.inl ⟨c,d,rfl⟩⟩
    ·exact⟨a,ha,by rw [BK c,BK d],.inr<|.inr ⟨c,d,rfl⟩⟩
  obtain⟨x,x1,x2,x3⟩:=src i hi;obtain⟨y,y1,y2,y3⟩:=src j hj;rw [x2,y2] at q;have e:=P.inj x y x1 y1 q;subst e
  rcases x3 with ⟨a1,a2⟩ | ⟨a1,a2,a3⟩ | ⟨a1,a2,a3⟩
  ·rcases y3 with ⟨b1,b2⟩ | ⟨b1,b2,b3⟩ | ⟨b1,b2,b3⟩
   ·exact a1.trans b1.symm
   ·exact absurd (a2.symm.trans b3)<|Cm<|Bb (Nat.sub_lt (Fw b2.1) Ez) b2.2
   ·exact absurd ⟨Fq (by rw [<- b3,a2];exact hm)<|CG b1,by rw [<- b3,a2];exact Am _⟩ b2
  ·rcases y3 with ⟨b1,b2⟩ | ⟨b1,b2,b3⟩ | ⟨b1,b2,b3⟩
   ·exact absurd (b2.symm.trans a3)<|Cm<|Bb (Nat.sub_lt (Fw a2.1) Ez) a2.2
   ·exact Nat.sub_one_cancel (Fw a2.1) (Fw b2.1)<|a3.symm.trans b3
   ·exact absurd ⟨Fq (by rw [<- b3,a3];exact Nat.le_sub_one_of_lt a2.1)<|CG b1,by rw [<- b3,a3];exact Bv (Nat.sub_le _ _) a2.2⟩ b2
  ·rcases y3 with ⟨b1,b2⟩ | ⟨b1,b2,b3⟩ | ⟨b1,b2,b3⟩
   ·exact absurd ⟨Fq (by rw [<- a3,b2];exact hm)<|CG a1,by rw [<- a3,b2];exact Am _⟩ a2
   ·exact absurd ⟨Fq (by rw [<- a3,b3];exact Nat.le_sub_one_of_lt b2.1)<|CG a1,by rw [<- a3,b3];exact Bv (Nat.sub_le _ _) b2.2⟩ a2
   ·exact a3.symm.trans b3
def q5k{p:Array Nat}{k m:Nat}(P:Pm p n)(hk:k < n)(hm:m<=k)(hu:Up lt p k)(ha:∀ i,i < m->lt (g p i) (g p k)=true)(hb:∀ i,m<=i->i < k->lt (g p k) (g p i)=true):Up lt (bubble p k<|k - m) (k+1):=λi j hi hj=>by
 have hs:k < p.size:=by rw [P.size];exact hk
 rw [wo hs hm,wo hs hm]
 by_cases c:i=m
 ·rw [BL c,BK (by omega),BL<|by omega];exact hb _ (by omega)<|by omega
 ·rw [BK c]
  by_cases d:j=m
  ·rw [BL d,BK<|by omega];exact ha i<|by omega
  ·rw [BK d]
   by_cases e:m < i/\i<=k
   ·rw [BL e,BL<|by omega];exact hu _ _ (by omega)<|by omega
   ·rw [BK e]
    by_cases f:m < j/\j<=k
    ·rw [BL f];exact hu _ _ (by omega)<|by omega
    ·rw [BK f];exact hu _ _ hi<|by omega
theorem Rv(A:d8 lt cmp J n):∀(f:Nat) (p:Array Nat) (k:Nat) (Q:Array Nat->Shared->Prop) (s:Shared),Pm p n->1<=k->k+f=n->Up lt p k->J s->(∀ q s',J s'->Pm q n->Up lt q n->Q q s')->(kas_bin f p k).kasWp cmp Q s
 | 0,p,k,Q,s,P,h1,h2,hu,hJ,q=>by
  have:k=n:=by omega
  subst this;exact q p s hJ P hu
 | f+1,p,k,Q,s,P,h1,h2,hu,hJ,q=>by
  unfold kas_bin;rw [JT];refine Iv A P (by omega) hu k 0 k _ s (Am _) (Bp _) (by omega) hJ (λi hi=>by omega) (λi hi Ru=>by omega) λm s' gF hm ha hb=>?_;exact Rv A f _ (k+1) Q s' (q6h P (by omega) hm) (by omega) (by omega) (q5k P (by omega) hm hu ha hb) gF q
def q4n(A:d8 lt cmp J n){Q:Array Nat->Shared->Prop}{s:Shared}(h2:2<=n)(hJ:J s)(q:∀ p s',J s'->Pm p n->Up lt p n->Q p s'):(kas_sort n).kasWp cmp Q s:=by
 unfold kas_sort;rw [JT];refine q0a A (Rq n) h2 hJ λr p s' gF r1 r2 P hu=>?_;show(if r < n then kas_bin (n - max r 1) p (max r 1) else .ret p:KasT _).kasWp cmp Q s';have em:max r 1=r:=by omega
 rw [em]
 by_cases c:r < n
 ·rw [BL c];exact Rv A (n - r) p r Q s' P r1 (by omega) hu gF q
 ·rw [BK c];have:r=n:=by omega
  subst this;exact q p s' gF P hu
end
def Rw{p:Array Nat}{n:Nat}(P:Pm p n):p.toList.Nodup:=by
 rw [Bg,Bt];intro i j hi hj dw e;have FO:i < n:=by rw [Ch,P.size] at hi;exact hi
 have qi:j < n:=by rw [Ch,P.size] at hj;exact hj
 have e1:g p i=p.toList[i]:=jl (by rw [<- Bo];exact Ab hi);have e2:g p j=p.toList[j]:=jl (by rw [<- Bo];exact Ab hj);have:=P.inj i j FO qi (by rw [e1,e2,e]);omega
def Iw{p:Array Nat}{n v:Nat}(P:Pm p n)(h:v∈p.toList):v < n:=by
 obtain⟨i,hi⟩:=Be h;have hl:i < n:=by have:=(Ac.mp hi).1;rw [Ch,P.size] at this;exact this
 have e1:g p i=v:=jl (by rw [<- Bo];exact hi);rw [<- e1];exact P.lt i hl
def q47{p:Array Nat}{n:Nat}(P:Pm p n):p.toList.Perm (List.range n):=by
 rw [QD (Rw P) List.nodup_range];intro v;rw [Cb];refine⟨λh=>Iw P h,λh=>JR λhn=>?_⟩;have l1:p.toList.length<=((List.range n).erase v).length:=Nt.aE (Rw P) λz hz=>by
  have bw:z≠v:=λe=>hn<|e ▸ hz;exact(Ey bw).mpr<|Cb.mpr<|Iw P hz
 rw [Fk<|Cb.mpr h,Ch,P.size,Du] at l1;omega
def Hd(h:Heap)(v:Value)(z:Str):Prop:=∃ a o xs n t,v = .ref a/\h.get? a=some o/\o.cls = .type "tuple"/\o.data = .seq xs n/\xs[0]?=some (.str z t)
def Hd.keep{h h':Heap}{v:Value}{z:Str}(x:Hd h v z)(k:∀ a o,v = .ref a->h.get? a=some o->h'.get? a=some o):Hd h' v z:=by
 obtain⟨a,o,xs,n,t,e,h1,h2⟩:=x;exact⟨a,o,xs,n,t,e,k a o e h1,h2⟩
def qN(h:Heap)(vs:List Value)(zs:List Str):Prop:=vs.length=zs.length/\∀(i:Nat) v z,vs[i]?=some v->zs[i]?=some z->Hd h v z
def ltZ(zs:List Str)(i j:Nat):Bool:=decide ((zs.getD i ⟨#[]⟩).cps.toList < (zs.getD j ⟨#[]⟩).cps.toList)
section
variable{prog:Program}{w:World}{A:Around}{E:Value->Shared->Prop}{s:Shared}
theorem Rx:∀{h:Heap} {vs:List Value} {zs:List Str},qN h vs zs->∃ fs,KatTups h vs fs/\fs.length=vs.length/\∀ f∈fs,∃ z t,f=Value.str z t
 | h,[],_,_=>⟨[],KatTups.nil,rfl,λf hf=>by cases hf⟩
 | h,v :: vs,[],hh=>by have:=hh.1;simp at this
 | h,v :: vs,z :: zs,hh=>by
  obtain⟨fs,k1,k2,k3⟩:=Rx (h:=h) (vs:=vs) (zs:=zs) ⟨by have:=hh.1;simpa using this,λi a b h1 h2=>hh.2 (i+1) a b (by simpa using h1)<|by simpa using h2⟩;obtain⟨a,o,xs,n,t,rfl,h1,h2,h3,h4⟩:=hh.2 0 v z rfl rfl;refine⟨.str z t :: fs,KatTups.cons h1 h2 h3 h4 k1,by rw [Ax,Ax,k2],λf hf=>?_⟩
  rcases Al.mp hf with rfl | hf
  ·exact⟨z,t,rfl⟩
  ·exact k3 f hf
def q5o{x y:Value}{z u:Str}{Q:Bool->Shared->Prop}(hx:Hd s.heap x z)(hy:Hd s.heap y u)(bw:z≠u)(h:Q (decide (z.cps.toList < u.cps.toList)) s):wpAny (model prog w) A (keyLt' (tuples' true) x y) Q E s:=by
 obtain⟨a,o,xs,n,t,rfl,h1,h2,h3,h4⟩:=hx;obtain⟨b,o',ys,n',t',rfl,g1,g2,g3,g4⟩:=hy;refine kat_lt h1 h3 g1 g3 ?_;have ex:∃ r,xs.toList = .str z t :: r:=by
  have:xs.toList[0]?=some (.str z t):=by rw [Bo];exact h4
  cases e:xs.toList with
  | nil=>rw [e] at this;cases this
  | cons c r=>rw [e] at this;cases this;exact⟨r,rfl⟩
 have ey:∃ r,ys.toList = .str u t' :: r:=by
  have:ys.toList[0]?=some (.str u t'):=by rw [Bo];exact g4
  cases e:ys.toList with
  | nil=>rw [e] at this;cases this
  | cons c r=>rw [e] at this;cases this;exact⟨r,rfl⟩
 obtain⟨rx,ex⟩:=ex;obtain⟨ry,ey⟩:=ey;rw [ex,ey];show KatLex prog w A true _ Q ((.str z t,.str u t') :: rx.zip ry) 0 s;refine kat_cons<|eqBool_str ?_;have:(z == u)=false:=beq_eq_false_iff_ne.mpr bw;rw [this];exact kat_no<|oneLt_str h
def q3a{a b:Str}(h:a.cps.toList=b.cps.toList):a=b:=by
 apply Str.ext';exact Array.toList_inj.mp h
def k86{vs:List Value}{zs:List Str}(hh:qN s.heap vs zs)(hn:zs.Nodup):d8 (ltZ zs) (kas_ask prog w A (tuples' true) vs) (λs'=>s'=s) vs.length:=by
 have hl:=hh.1;have gz:∀ i,(hi:i < zs.length)->zs.getD i ⟨#[]⟩=zs[i]:=λi hi=>by simp [hi]
 have gv:∀ i,(hi:i < vs.length)->vs.getD i Value.none=vs[i]:=λi hi=>by simp [hi]
 have ne:∀ i j,(hi:i < zs.length)->(hj:j < zs.length)->i≠j->zs[i]≠zs[j]:=λi j hi hj dw e=>by
  rcases Nat.lt_or_gt_of_ne dw with c | c
  ·exact Bt.mp (Bg.mp hn) i j hi hj c e
  ·exact Bt.mp (Bg.mp hn) j i hj hi c e.symm
 refine⟨λi j C s' hi hj dw hs hC=>?_,λi j hi hj dw=>?_,λi j h=>?_,λi j k h1 h2=>?_⟩
 ·subst hs;unfold kas_ask;rw [gv i hi,gv j hj];have e:ltZ zs i j=decide (zs[i].cps.toList < zs[j].cps.toList):=by unfold ltZ;rw [gz i (by omega),gz j<|by omega]
  refine q5o (hh.2 i _ zs[i] (Ab hi)<|Ab<|by omega) (hh.2 j _ zs[j] (Ab hj)<|Ab<|by omega) (ne i j (by omega) (by omega) dw) ?_;rw [<- e];exact hC s' rfl
 ·unfold ltZ;rw [gz i (by omega),gz j (by omega),CZ,CZ]
  by_cases c:zs[i].cps.toList < zs[j].cps.toList
  ·exact .inl c
  ·by_cases d:zs[j].cps.toList < zs[i].cps.toList
   ·exact .inr d
   ·have:zs[i].cps.toList=zs[j].cps.toList:=List.le_antisymm (List.not_lt.mp d)<|List.not_lt.mp c;exact absurd (q3a this)<|ne i j (by omega) (by omega) dw
 ·unfold ltZ at h ⊢;have:=BX h;exact BR λq=>Fv _<|Gg this q
 ·unfold ltZ at h1 h2 ⊢;exact BW<|Gg (BX h1)<|BX h2
def map_range(vs:List Value):(List.range vs.length).map (λi=>vs.getD i Value.none)=vs:=by
 apply QW
 ·simp
 ·intro i h1 h2;simp [h2]
def k87{a:Addr}{vs:List Value}{zs:List Str}{n:Nat}{P:Fin->Shared->Prop}(ho:s.heap.get? a=some (seqObj "list" vs.toArray n))(bY:∀ v∈vs,v ≠ .ref a)(hh:qN s.heap vs zs)(hn:zs.Nodup)(mB:vs.length < 64)
  (h:∀ p:Array Nat,Pm p vs.length->Up (ltZ zs) p vs.length->P (.done<|.ret .none) {s with heap:=sortedHeap s.heap a vs (List.toArray<|p.toList.map λi=>vs.getD i Value.none)}) :
  wpAny (model prog w) A (Builtin.«list.sort» ⟨[.ref a],[]⟩) P E s:=by
 rw [list_sort_plain];have ha:a < s.heap.objs.size:=Ar ho;have Iy:vs.length<=sizeLine:=by rw [DY];omega
 refine BJ<|NK ho rfl ?_;refine BJ<|LC ho rfl ?_;obtain⟨e1,mw⟩:∃ e1,(s.heap.update a<|Obj.mapSeq λ_=>#[]).get? a=some (seqObj "list" #[] e1):=⟨_,get?_update_seq ho λ_=>#[]⟩;refine BJ<|PK mw rfl ?_;refine BJ<|PJ ?_;refine BJ<|HN ?_;refine CJ ?_;have pQ:(((s.heap.update a<|Obj.mapSeq λ_=>#[]).push<|seqObj "tuple" vs.toArray 0).push<|seqObj "list" #[] 0).get? a=some (seqObj "list" #[] e1):=Ae _<|Ae _ mw;show wpAny (model prog w) A _ P E {s with heap:=((s.heap.update a<|Obj.mapSeq λ_=>#[]).push<|seqObj "tuple" vs.toArray 0).push (seqObj "list" #[] 0)};have Ry:qN (((s.heap.update a<|Obj.mapSeq λ_=>#[]).push<|seqObj "tuple" vs.toArray 0).push<|seqObj "list" #[] 0) vs zs:=⟨hh.1,λi v z h1 h2=>(hh.2 i v z h1 h2).keep λb o e q=>by
  have hb:a≠b:=λe2=>bY v (At h1) (by rw [e,e2]);exact Ae _<|Ae _<|(Br _ _ hb).trans q⟩
 dsimp only
 have hsz:vs.toArray.size=vs.length:=by simp
 by_cases h2:vs.toArray.size < 2
 ·rw [BL h2,BL h2];refine BJ<|BP ?_;rw [StateT.run_pure];refine BJ<|BP ?_
  dsimp only
  have e5:(arrOf<|SortSt.mk' general' (vs.toArray.zip vs.toArray) #[] 7 none).map (·.2)=vs.toArray:=by
   show(vs.toArray.zip vs.toArray).map (·.2)=_;apply Array.toList_inj.mp;simp [List.map_snd_zip]
  refine BJ<|PK pQ rfl ?_;refine BJ (LC pQ rfl ?_ (hsz2:=by rw [e5,hsz];omega));simp only [KJ,Bu,DQ];refine BP ?_;rw [e5];have fin:=h (List.toArray<|List.range vs.length) (Rq _) λi j hi hj=>by rw [hsz] at h2;omega
  have e6:(List.toArray<|List.range vs.length).toList.map (λi=>vs.getD i Value.none)=vs:=map_range vs;rw [e6] at fin;exact fin
 ·rw [BK h2,BK h2];obtain⟨fs,k1,k2,k3⟩:=Rx Ry;rw [hsz] at h2;refine BJ<|kat_kind (T:= .type "str") k1 (by omega) (λf hf=>?_) (by decide) ?_
  ·obtain⟨z,t,rfl⟩:=k3 f hf;exact Looks.of_pure rfl
  refine BJ<|CK (kat_run (prog:=prog) (w:=w) (A:=A) (E:=E) (κ:=tuples' true) (ks:=vs) (vs:=vs) (Q:=λcY s'=>s'={s with heap:=((s.heap.update a<|Obj.mapSeq λ_=>#[]).push<|seqObj "tuple" vs.toArray 0).push (seqObj "list" #[] 0)}/\∃ p:Array Nat,Pm p vs.length/\Up (ltZ zs) p vs.length/\arrOf cY=p.map (kas_item<|vs.toArray.zip vs.toArray)/\failedOf cY=none)
   (G:=λp s'=>s'={s with heap:=((s.heap.update a<|Obj.mapSeq λ_=>#[]).push<|seqObj "tuple" vs.toArray 0).push (seqObj "list" #[] 0)}/\Pm p vs.length/\Up (ltZ zs) p vs.length) rfl (by omega) mB (λp cY s' _ a2 a3 a4=>⟨a4.1,p,a4.2.1,a4.2.2,a2,a3⟩)
   (q4n (k86 (s:={s with heap:=((s.heap.update a<|Obj.mapSeq λ_=>#[]).push<|seqObj "tuple" vs.toArray 0).push (seqObj "list" #[] 0)}) Ry hn) (by omega) rfl λp s' e P U=>⟨e,P,U⟩)) ?_ λ_ _ e=>e
  rintro ⟨⟨⟩,cY⟩ s' ⟨rfl,p,P,U,har,hf⟩
  dsimp only
  have e3:=kat_snds (ks:=vs) (vs:=vs) rfl har;refine BJ<|PK pQ rfl ?_;refine BJ (LC pQ rfl ?_ (hsz2:=by rw [e3,Aw,Aa,Ch,P.size];omega));rw [hf];simp only [KJ,Bu,DQ];refine BP ?_;rw [e3];exact h p P U
def q2r{l:Addr}{vs:List Value}{zs:List Str}{Q:Value->Shared->Prop}(hl:s.heap.IsList l vs.toArray)(hh:qN s.heap vs zs)(hn:zs.Nodup)(mB:vs.length < 64)
  (h:∀(h':Heap) (e:Nat) (p:Array Nat),Pm p vs.length->Up (ltZ zs) p vs.length->(∀ b u,s.heap.get? b=some u->h'.get? b=some u)->h'.get? (s.heap.objs.size+1)=some (seqObj "list" (List.toArray<|p.toList.map λi=>vs.getD i Value.none) e)->Q (.ref<|s.heap.objs.size+1) {s with heap:=h'}) :
  wpAny (model prog w) A (call (.builtin "sorted") [.ref l]) Q E s:=by
 have Iy:vs.length<=sizeLine:=by rw [DY];omega
 refine JQ kind_sorted plain_sorted entry_sorted (args_sorted1 _) ?_;unfold Builtin.«sorted»;refine BJ (m:=checkCount "sorted" 1 1 _)<|BP ?_;refine BJ<|collect_list (vs:=vs) hl ?_;refine BJ<|HN ?_;have hsz:((s.heap.push<|seqObj "list" #[] 0).update s.heap.objs.size (Obj.mapSeq (·++vs.toArray))).objs.size=s.heap.objs.size+1:=by
  rw [Heap.size_update,size_push']
 have gI:(((s.heap.push<|seqObj "list" #[] 0).update s.heap.objs.size (Obj.mapSeq (·++vs.toArray))).push<|seqObj "list" vs.toArray 0).get? (s.heap.objs.size+1)=some (seqObj "list" vs.toArray 0):=by
  rw [<- hsz];exact Aq _ rfl
 have hhL:qN (((s.heap.push<|seqObj "list" #[] 0).update s.heap.objs.size (Obj.mapSeq (·++vs.toArray))).push<|seqObj "list" vs.toArray 0) vs zs:=⟨hh.1,λi v z h1 h2=>(hh.2 i v z h1 h2).keep λb o e q=>
  Ae _ ((Br _ _<|Cm<|Ar q).trans<|Ae _ q)⟩
 have bw:∀ v∈vs,v ≠ .ref (s.heap.objs.size+1):=λv hv e=>by
  obtain⟨i,hi⟩:=Be hv;have hl:=hh.1;have hiz:i < zs.length:=by have:=(Ac.mp hi).1;omega
  obtain⟨b,o,xs,n,t,e2,h1,_⟩:=hh.2 i v zs[i] hi<|Ab hiz;rw [e2] at e;cases e;exact absurd (Nat.lt_of_succ_lt<|Ar h1)<|Co _
 show wpAny _ _ _ _ _ {s with heap:=((s.heap.push<|seqObj "list" #[] 0).update s.heap.objs.size (Obj.mapSeq (·++vs.toArray))).push (seqObj "list" vs.toArray 0)};rw [hsz];refine BJ<|CJ<|CV slot_list_sort ⟨_,gI,rfl⟩ entry_list_sort (k87 gI bw hhL hn mB λp P U=>⟨_,rfl,?_⟩)<|args_list_sort _;obtain⟨e,he⟩:=sortedAll_at s.heap vs<|List.toArray<|p.toList.map λi=>vs.getD i Value.none;exact BP ⟨_,rfl,h _ e p P U (λb u hb=>QC hb) he⟩
end
end oO
namespace L2
open PySem PySem.Spec PyProof.Rows oO
theorem RA:∀{ts:List Addr} {its:List Value},ax (ts.map V.ref) its->its=ts.map Value.ref
 | [],its,r=>r.zero
 | t :: ts,its,r=>by
  cases r with
  | cons h1 h2=>
   rw [RA h2];have:_=Value.ref t:=h1;rw [this];rfl
theorem RC:∀(ts:List Addr),ax (ts.map V.ref)<|ts.map Value.ref
 | []=> .nil
 | t :: ts=> .cons rfl (RC ts)
def k7d{α β:Type}(xs:List α)(ys:List β)(h:xs.length=ys.length)(a:α)(b:β):(List.range xs.length).map (λi=>(xs.getD i a,ys.getD i b))=xs.zip ys:=by
 apply QW
 ·simp [h]
 ·intro i h1 h2;have hx:i < xs.length:=by simp at h1;exact h1
  have hy:i < ys.length:=by omega
  simp [hx,hy]
section
variable{X:Cx}{σ:St}{H:Hp}
def j9g:fv X (.builtin "sorted") (λxs H Q=>∃(l:Addr) (ts:List Addr) (zs:List Str),xs=[.ref l]/\ai X.K H l (ts.map V.ref)/\ts.length=zs.length/\zs.Nodup/\ts.length < 64/\(∀(i:Nat) t z,ts[i]?=some t->zs[i]?=some z->∃ r,H t=some (.tup<|.str z :: r)) /\
  ∀(r:Addr) (ps:List<|Addr×Str),H r=none->ps.Perm (ts.zip zs)->ps.Pairwise (λa b=>a.2.cps.toList < b.2.cps.toList)->Q (.ref r) (upd H r<|.lst<|ps.map λp=> .ref p.1)):=by
 intro pins s σ H xs us Q I r h;obtain⟨l,ts,zs,rfl,hl,hlen,hn,mB,hd,q⟩:=h;obtain⟨u,rfl,ru⟩:=vals1 r;cases (show u=Value.ref l from ru);obtain⟨its,rv,pl,_⟩:=I.list hl;have ei:=RA rv;subst ei;have hh:qN s.heap (ts.map Value.ref) zs:=by
  refine⟨by rw [Aa];exact hlen,λi v z h1 h2=>?_⟩;rw [Af,Ap] at h1;obtain⟨t,ht,rfl⟩:=h1;obtain⟨rr,hr⟩:=hd i t z ht h2;obtain⟨its,r3,tp,_⟩:=I.tuple<|aM.of hr;cases r3 with
  | cons a1 a2=>
   obtain⟨tk,rfl⟩:=a1;obtain⟨o,ho,hc,n,hd2⟩:=tp;exact⟨t,o,_,n,tk,rfl,ho,hc,hd2,rfl⟩
 refine q2r pl.isList hh hn (by rw [Aa];exact mB) λh' e p P U kp he=>?_;rw [Aa] at P U;have gp:∀ i,i < ts.length->g p i < ts.length:=P.lt;have pl2:p.toList.length=ts.length:=by rw [Ch];exact P.size
 have e1:(p.toList.map λi=>(ts.map Value.ref).getD i Value.none)=((p.toList.map λi=>(ts.getD i 0,zs.getD i ⟨#[]⟩)).map λx=>x.1).map Value.ref:=by
  rw [Ci,Ci];refine Cs λi hi=>?_;have aX:=Iw P hi;show(ts.map Value.ref).getD i Value.none=Value.ref (ts.getD i 0);simp [aX]
 refine⟨.ref _,_,I.fc (s':={s with heap:=h'}) kp rfl rfl (Eb _) (show az X.prog X.w _ h' _ (.lst<|(p.toList.map λi=>(ts.getD i 0,zs.getD i ⟨#[]⟩)).map λx=>V.ref x.1) from ?_),rfl,q _ (p.toList.map λi=>(ts.getD i 0,zs.getD i ⟨#[]⟩)) (I.aB.fresh<|Eb _) ?_ ?_⟩
 ·refine⟨by rw [Aa,Aa,pl2,DY];omega,_,e,?_,he⟩;rw [e1];have:=RC<|(p.toList.map λi=>(ts.getD i 0,zs.getD i (⟨#[]⟩:Str))).map λx=>x.1;rw [Ci] at this;exact this
 ·rw [<- k7d ts zs hlen 0 ⟨#[]⟩];exact(q47 P).map _
 ·rw [Bt];intro i j hi hj dw;rw [Aa] at hi hj;have:=U i j dw (by omega);have q1:g p i=p.toList[i]:=jl (by rw [<- Bo];exact Ab hi);have q2:g p j=p.toList[j]:=jl (by rw [<- Bo];exact Ab hj);rw [q1,q2] at this;rw [Dl,Dl];exact BX this
def Iz{e1 e2 e3:Expr}{k:Nat}{pos:Pos}{t:Addr}{x y z:V}{R:St->Hp->Prop}(hc:X.calm=true)(ht:aM X.K H t [x,y,z])(h:Eg X e1 x σ H λσ1 H1=>Eg X e2 y σ1 H1 λσ2 H2=>Eg X e3 z σ2 H2 R)
  (hn:(assignEach [e1,e2,e3] X.env).length=3:=by rfl) (cg:(assignEach [e1,e2,e3] X.env).findIdx? (·.1)=none:=by rfl)
  (jx:(assignEach [e1,e2,e3] X.env).map (·.2)=assign e1 X.env :: (assignEach [e2,e3] X.env).map (·.2):=by rfl) (rY:(assignEach [e2,e3] X.env).map (·.2)=assign e2 X.env :: (assignEach [e3] X.env).map (·.2):=by rfl) (yi:(assignEach [e3] X.env).map (·.2)=assign e3 X.env :: (assignEach [] X.env).map (·.2):=by rfl) :
  Eg X (.Tuple [e1,e2,e3] k pos) (.ref t) σ H R:=
 C5 (Mh (t:=rq (λv σ H Q=>Eg X e1 v σ H Q)<|rq (λv σ H Q=>Eg X e2 v σ H Q)<|rq (λv σ H Q=>Eg X e3 v σ H Q) pj) hc (tV pH (tV pH (tV pH Mg yi) rY) jx) hn cg)
  ⟨t,_,rfl,ht,rfl,_,_,rfl,h.mono λσ1 H1 h1=>⟨_,_,rfl,h1.mono λσ2 H2 h2=>⟨_,_,rfl,h2.mono λσ3 H3 q=>⟨rfl,q⟩⟩⟩⟩
end
end L2
namespace Q2
open PySem L2 Nt bB
abbrev T3(x:Lk):HO:= .tup [.str x.1,.str x.2.1,.str x.2.2]
def m8(H:Hp)(us:List Addr)(ls:List Lk):Prop:=us.length=ls.length/\∀(j:Nat) u x,us[j]?=some u->ls[j]?=some x->H u=some (T3 x)
def m8.keep{H H':Hp}{us:List Addr}{ls:List Lk}(h:m8 H us ls)(k:∀ t xs,H t=some (.tup xs)->H' t=some (.tup xs)):m8 H' us ls:=⟨h.1,λj u x h1 h2=>k _ _<|h.2 j u x h1 h2⟩
def m8.snoc{H:Hp}{us:List Addr}{ls:List Lk}{u:Addr}{x:Lk}(h:m8 H us ls)(hu:H u=some (T3 x)):m8 H (us++[u]) (ls++[x]):=by
 refine⟨by rw [Ad,Ad,h.1];rfl,λj v y h1 h2=>?_⟩;have hl:=h.1
 by_cases hj:j < us.length
 ·rw [Ao hj] at h1;rw [Ao<|by omega] at h2;exact h.2 j v y h1 h2
 ·rw [Ay<|by omega] at h1 h2;have fD:j - us.length=0:=by
   have:=(Ac.mp h1).1;simp at this;omega
  rw [fD] at h1;rw [<- hl,fD] at h2;cases h1;cases h2;exact hu
def zP(ls:List Lk):Prop:=ls.Pairwise λx y=>x.1.cps.toList < y.1.cps.toList
def zQ:Sp:=λvs H Q _=>∃(R:Addr) (as:List<|Addr×Addr) (n:Net),vs=[.ref R]/\ak H R as n/\aw n/\n.length<=1000/\(ag n).length<=60 /\
 ∀(L:Addr) (us:List Addr) (ls:List Lk) (H':Hp),ah H H'->H L=none->H' L=some (.lst<|us.map V.ref)->m8 H' us ls->zP ls->(∀ x,x∈ls↔oB n x)->ls.length<=60->Q (.ref L) H'
def k9m{n:Net}(T:aw n){r p:Nat}{z:Str}(hr:r < n.length)(hz:(row n r)[p]?=some z):(b6 (bg (n.take r)++bD r ((row n r).take p) 0) z).length<=1:=by
 obtain⟨rest,h⟩:=vL hr hz;have h1:b6 (bg n) z=b6 (bg (n.take r)++bD r ((row n r).take p) 0) z++(r,p) :: b6 rest z:=by
  rw [h];unfold b6;rw [Cp,Ai,RM<|by simp];rfl
 have h2:(b6 (bg n) z).length=2:=by
  have:=rR n z;rw [T z<|eI (e:=(r,p)) hz] at this;exact this
 rw [h1,Ad,Ax] at h2;omega
section
variable{P:Program}{w:World}{K:PySem.W.Frag}{mg:Str->Option Value}{base:Heap}
abbrev NLk:List Str:=["rows","met","links","point","ties","tie"]
def wq:ao NLk ["rows"] (aP EK):=⟨rfl,rfl,rfl,by decide +kernel,rfl,by decide +kernel,by decide +kernel⟩
def k8z{f:Addr}{fd:FuncData}(F:bu K "links_of" "links_of" EK f fd)(T:Txt mg):aC P w K mg base bA 1 f fd ["rows"] zQ:=by
 refine F.gb wq (λvs H Q E h=>?_) λb0 H vs Q E hr h=>?_
 ·obtain⟨R,as,n,rfl,_⟩:=h;rfl
 obtain⟨R,as,n,rfl,hR,hT,hn,ib,q⟩:=h;have nd:=wq.nd;have bY:=hR.len;have hu:=hr.u1;show Run _ _ _ [some<|.ref R,none,none,none,none,none] H;refine aT 1 nd<|EA λdm mD=>?_;refine aT 2 nd<|dU<|aA ⟨Z0,λM hM=>?_⟩;have lN:M≠dm:=λe=>by rw [e,av] at hM;cases hM
 have wu:H M=none:=by rw [au lN] at hM;exact hM
 have s0:ah H (upd (upd H dm<|.dK []) M<|.lst []):=(aK mD _).trans<|aK hM _;have wv:(upd (upd H dm<|.dK []) M<|.lst []) dm=some (.dK []):=by rw [au<|CG lN,av]
 have m9:(upd (upd H dm<|.dK []) M<|.lst []) M=some (.lst []):=av;show Run _ _ _ [some<|.ref R,some<|.ref dm,some<|.ref M,none,none,none] (upd (upd H dm<|.dK []) M<|.lst []);generalize upd (upd H dm<|.dK []) M (.lst [])=H0 at s0 wv m9;have IA:(bg n).length=(ag n).length:=by rw [<- lE n 0,Aa];rfl
 refine jU<|ae 0 ⟨R,rfl,⟨_,ai.of<|s0 _ _ hR.lst⟩,jV (xs:=as.map λa=>V.ref a.1) (λr σ H'=>∃(kM:List<|Key×V) (us:List Addr) (ls:List Lk) (u1 u2 u3:Option V),ah H H'/\H' dm=some (.dK kM)/\H' M=some (.lst<|us.map V.ref)/\m8 H' us ls/\iQ n (bg<|n.take r) kM ls/\σ=[some<|.ref R,some<|.ref dm,some<|.ref M,u1,u2,u3])
  ⟨[],[],[],_,_,_,s0,wv,m9,⟨rfl,λj u x h=>by simp at h⟩,iQ.start n,rfl⟩ ?_ ?_ ?_⟩
 ·rintro r σ H' _ ⟨_,_,_,_,_,_,sm,_⟩;exact ai.of<|sm _ _ hR.lst
 ·rintro r x σ H' hx ⟨kM,us,ls,u1,u2,u3,sm,ed,eM,cA,I,rfl⟩;have hi:r < n.length:=by
   have:=(Ac.mp hx).1;rw [Aa] at this;omega
  obtain⟨a,ea,eR,et,el,er⟩:=(hR.same sm).at hi;rw [Af,ea] at hx;cases hx;refine iO rfl (aM.of et) (aW 3 nd<|aW 4 nd ?_);refine jU<|ae 4 ⟨a.2,rfl,⟨_,ai.of el⟩,jV (xs:=(row n r).map V.str) (λp σ bM=>∃(kM:List<|Key×V) (us:List Addr) (ls:List Lk) (u3:Option V),ah H bM/\bM a.2=some (Ls<|row n r)/\bM dm=some (.dK kM)/\bM M=some (.lst<|us.map V.ref)/\m8 bM us ls/\iQ n (bg (n.take r)++bD r ((row n r).take p) 0) kM ls/\σ=[some<|.ref R,some<|.ref dm,some<|.ref M,some<|.str n[r].1,some<|.ref a.2,u3])
   ⟨kM,us,ls,_,sm,el,ed,eM,cA,by simpa [bD] using I,rfl⟩ ?_ ?_ ?_⟩
  ·rintro p σ bM _ ⟨_,_,_,_,_,e,_⟩;exact ai.of e
  ·rintro p x σ bM hx ⟨kM,us,ls,u3,sm,el,ed,eM,cA,I,rfl⟩;have hp:p < (row n r).length:=by
    have:=(Ac.mp hx).1;rw [Aa] at this;exact this
   have hz:(row n r)[p]?=some (row n r)[p]:=Ab hp;rw [Af,hz] at hx;cases hx;have jx:=pS (r:=r) hz;have hle:=k9m hT hi hz;have b9:(bg (n.take r)++bD r ((row n r).take p) 0).length<=60:=by
    obtain⟨rest,wx⟩:=vL hi hz;have h1:=BZ List.length wx;simp only [Ad] at h1 ⊢;omega
   have lM:=I.d6;have lL:=I.mJ;have lA:=cA.1;have RE:bb n r=n[r].1:=jg hi;have naM:a.2≠M:=λe=>by
    have:=(hR.tup r a n[r] ea<|Ab hi).2;rw [e,wu] at this;cases this
   generalize (row n r)[p]=z at hz jx hle;refine aW 5 nd ?_;refine gM<|yp hu<|ae 5<|ae 1 ⟨dm,_,rfl,aU.k (k:=Sum.inr z) ed,?_⟩;cases jE:b6 (bg (n.take r)++bD r ((row n r).take p) 0) z with
   | nil=>
    rw [I.m0 z jE];show if false=true then _ else _;rw [BK<|by decide];refine rP hu<|ae 3<|ae 1<|ae 5 ⟨dm,_,rfl,bT.k (k:=Sum.inr z) ed (bH<|by omega),a7<|a7 ⟨_,us,ls,_,db sm mD,?_,av,?_,cA.keep λt xs h=>?_,?_,rfl⟩⟩
    ·rw [au<|bQ el ed λz=>nomatch z];exact el
    ·rw [au lN];exact eM
    ·rw [au<|bQ h ed λz=>nomatch z];exact h
    ·rw [jx,<- As];have:=I.new (e:=(r,p)) jE;show iQ n _ (putK kM (Sum.inr z)<|.str n[r].1) ls;rw [<- RE];exact this
   | cons b rest=>
    have hr0:rest=[]:=by
     rw [jE] at hle;exact Bj.mp<|by have:rest.length+1<=1:=hle;omega
    subst hr0;have vm:=I.m1 z b [] jE;rw [vm];show if true=true then _ else _;rw [BL rfl];refine g5 (j3<|ae 2 ⟨M,rfl,⟨_,eM⟩,eC<|aj<|ae 5<|aj<|dX hu<|ae 1<|ae 5 ⟨dm,.str<|bb n b.1,rfl,by rw [<- vm];exact aU.k (k:=Sum.inr z) ed,aj<|ae 3<|aA ⟨Z3,λt ht=>?_⟩⟩⟩);have sT:=aK ht<|.tup [.str z,.str<|bb n b.1,.str n[r].1];have RF:t≠M:=λe=>by rw [e,eM] at ht;cases ht
    have zF:(upd bM t<|.tup [.str z,.str<|bb n b.1,.str n[r].1]) t=some (T3 (z,bb n b.1,bb n (r,p).1)):=by
     rw [av];show _=some (HO.tup [.str z,.str<|bb n b.1,.str<|bb n r]);rw [RE]
    have kT:∀ c xs,(upd bM t<|.tup [.str z,.str<|bb n b.1,.str n[r].1]) c=some (.tup xs)->(upd (upd bM t<|.tup [.str z,.str<|bb n b.1,.str n[r].1]) M<|.lst<|us.map V.ref++[.ref t]) c=some (.tup xs):=λc xs h=>by
     rw [au<|bQ h (sT _ _ eM) λz=>nomatch z];exact h
    refine⟨_,sT _ _ eM,by rw [Aa];exact bH (by omega),a7<|a7 ⟨kM,us++[t],ls++[(z,bb n b.1,bb n (r,p).1)],_,db (sm.trans sT) wu,?_,?_,?_,?_,?_,rfl⟩⟩
    ·rw [au naM];exact sT _ _ el
    ·rw [au<|CG lN];exact sT _ _ ed
    ·rw [av,Ai];rfl
    ·exact((cA.keep λc xs h=>sT _ _ h).snoc zF).keep kT
    ·rw [jx,<- As];exact I.old (e:=(r,p)) jE
  ·rintro σ bM ⟨kM,us,ls,u3,sm,_,ed,eM,cA,I,rfl⟩;rw [Aa,Bm] at I;refine a7 ⟨kM,us,ls,_,_,_,sm,ed,eM,cA,?_,rfl⟩;rw [rT hi];exact I
 ·rintro σ H' ⟨kM,us,ls,u1,u2,u3,sm,ed,eM,cA,I,rfl⟩;rw [Aa,bY,Bm] at I;have lL:=I.mJ;have lA:=cA.1;have aX:us.length < 64:=by omega
  refine bL (bX j9g T.sorted CP (aj (ae 2 (aA ⟨M,us,ls.map (·.1),rfl,ai.of eM,by rw [Aa];exact lA,I.dB,aX,λi t z h1 h2=>?_,λL ps hL hp hs=>?_⟩))))
  ·rw [Af,Ap] at h2;obtain⟨x,hx,rfl⟩:=h2;exact⟨_,cA.2 i t x h1 hx⟩
  have pick:∀ p∈ps,∃ x,x∈ls/\x.1=p.2/\H' p.1=some (T3 x):=λp cL=>by
   have hz:=hp.mem_iff.mp cL;obtain⟨i,hi⟩:=Be hz;rw [List.getElem?_zip_eq_some] at hi;obtain⟨h1,h2⟩:=hi;rw [Af,Ap] at h2;obtain⟨x,hx,e⟩:=h2;exact⟨x,At hx,e,cA.2 i _ x h1 hx⟩
  obtain⟨xs,eV⟩:∃ xs:List Lk,xs.length=ps.length/\∀(j:Nat) p x,ps[j]?=some p->xs[j]?=some x->x∈ls/\x.1=p.2/\H' p.1=some (T3 x):=by
   clear hs hp
   induction ps with
   | nil=>exact⟨[],rfl,λj p x h=>by simp at h⟩
   | cons p r ih=>
    obtain⟨x,q1,q2,q3⟩:=pick p<|Ah ..;obtain⟨xs,l1,l2⟩:=ih λc hc=>pick c<|Ak _ hc;refine⟨x :: xs,by rw [Ax,Ax,l1],λj c y h1 h2=>?_⟩;cases j with
    | zero=>
     cases h1;cases h2;exact⟨q1,q2,q3⟩
    | succ j=>exact l2 j c y (by simpa using h1)<|by simpa using h2
  obtain⟨lx,eV⟩:=eV;have lp:ps.length=ls.length:=by rw [hp.length_eq,List.length_zip,Aa];omega
  have sL:=aK hL<|.lst<|ps.map λp=> .ref p.1;have RH:zP xs:=by
   unfold zP;rw [Bt];intro i j hi hj dw;have a1:=(eV i ps[i] xs[i] (Ab<|by omega)<|Ab hi).2.1;have a2:=(eV j ps[j] xs[j] (Ab<|by omega)<|Ab hj).2.1;rw [a1,a2];exact Bt.mp hs i j (by omega) (by omega) dw
  have qO:(xs.map (·.1)).Nodup:=by
   rw [Bg,Cy];exact RH.imp λh e=>by rw [e] at h;exact Fv _ h
  have fH:∀ x,x∈xs↔x∈ls:=λx=>by
   constructor
   ·intro h;obtain⟨j,hj⟩:=Be h;have sf:=(Ac.mp hj).1;exact(eV j ps[j] x (Ab<|by omega) hj).1
   ·intro h;refine JR λhn=>?_;have IB:xs.Nodup:=by
     rw [Bg] at qO ⊢;rw [Cy] at qO;exact qO.imp λh e=>h<|by rw [e]
    have:=aE IB (b:=ls.erase x) λz hz=>by
     have hzl:z∈ls:=by
      obtain⟨j,hj⟩:=Be hz;have sf:=(Ac.mp hj).1;exact(eV j ps[j] z (Ab<|by omega) hj).1
     exact(Ey λe:z=x=>hn<|e ▸ hz).mpr hzl
    rw [Fk h] at this;have:0 < ls.length:=SM h;omega
  refine q L (ps.map (·.1)) xs _ (sm.trans sL) (jD sm hL) (by rw [av,Ci];rfl) ⟨by rw [Aa];omega,λj u x h1 h2=>?_⟩ RH (λx=>by rw [fH x];exact I.whole hT x) (by omega);rw [Af,Ap] at h1;obtain⟨p,vH,rfl⟩:=h1;exact sL _ _ (eV j p x vH h2).2.2
end
end Q2
namespace Nz
open PySem L2 Nt
inductive Way {α:Type} (ls:List<|α×α×Bool) (f:α):α->Bool->Prop where
 | here:Way ls f f false
 | there {x y:α} {b o:Bool}:Way ls f x b->(x,y,o)∈ls->Way ls f y (b != o)
 | back {x y:α} {b o:Bool}:Way ls f x b->(y,x,o)∈ls->Way ls f y (b != o)
abbrev Bl(α:Type):=α×α×Bool
def has{α:Type}(φ:α->Key)(kvs:List<|Key×V)(x:α):Prop:=∃ v,al kvs (φ x)=some v
def dq{α:Type}(ls:List<|Bl α)(x y:α)(o:Bool):Prop:=(x,y,o)∈ls\/(y,x,o)∈ls
def qk{α:Type}(ls:List<|Bl α):List α:=ls.flatMap λl=>[l.1,l.2.1]
theorem RO{α:Type}:∀ ls:List<|Bl α,(qk ls).length=2 * ls.length
 | []=>rfl
 | l :: r=>by
  show(qk r).length+1+1=2 * (r.length+1);rw [RO r];omega
def k97{α:Type}{ls:List (Bl α)}{x y:α}{o:Bool}(h:dq ls x y o):y∈qk ls:=by
 rcases h with h | h
 ·exact Dd.mpr ⟨_,h,by simp⟩
 ·exact Dd.mpr ⟨_,h,by simp⟩
structure bZ{α:Type}(φ:α->Key)(ls:List<|Bl α)(f:α)(hr:Option α)(kvs:List<|Key×V)(wt:List α):Prop where
 dB:(kvs.map (·.1)).Nodup
 txt:∀ k∈kvs.map (·.1),∃ x,k=φ x/\x∈f :: qk ls
 val:∀ x v,al kvs (φ x)=some v->∃ b,v = .bl b/\Way ls f x b
 fst:has φ kvs f
 sI:∀ x∈wt,has φ kvs x
 yZ:∀ x,some x=hr->has φ kvs x
 cls:∀ x,has φ kvs x->x∈wt\/some x=hr\/∀ y o,dq ls x y o->has φ kvs y
def bZ.len{α:Type}{φ:α->Key}{ls:List (Bl α)}{f:α}{hr:Option α}{kvs:List (Key×V)}{wt:List α}(I:bZ φ ls f hr kvs wt):kvs.length<=1+2 * ls.length:=by
 have:=aE I.dB (b:=(f :: qk ls).map φ) λk hk=>by
  obtain⟨x,e,hx⟩:=I.txt k hk;rw [e];exact Aj.mpr ⟨x,hx,rfl⟩
 rw [Aa,Aa,Ax,RO] at this;omega
def cS{α:Type}{φ:α->Key}{kvs:List (Key×V)}{k:Key}{v:V}{x:α}(h:has φ kvs x):has φ (putK kvs k v) x:=by
 obtain⟨u,hu⟩:=h;unfold has;rw [c7]
 split
 ·exact⟨_,rfl⟩
 ·exact⟨u,hu⟩
open Classical in
def bZ.start{α:Type}{φ:α->Key}(ki:∀ x y,φ x=φ y->x=y)(ls:List<|Bl α)(f:α):bZ φ ls f none (putK [] (φ f)<|.bl false) [f]:=by
 have e:putK ([]:List<|Key×V) (φ f) (.bl false)=[(φ f,.bl false)]:=rfl;have hv:∀ x,al ([(φ f,.bl false)]:List<|Key×V) (φ x)=if x=f then some (.bl false) else none:=λx=>by
  rw [<- e,c7]
  by_cases h:x=f
  ·rw [BL h,BL<|by rw [h]]
  ·rw [BK h,BK λq=>h<|ki _ _ q];rfl
 rw [e];refine⟨by simp,λk hk=>⟨f,by simpa using hk,Ah ..⟩,λx v h=>?_,⟨.bl false,by rw [hv f,BL rfl]⟩,λx hx=>?_,λx hx=>by(cases hx),λx hx=>?_⟩
 ·rw [hv x] at h
  by_cases c:x=f
  ·rw [BL c] at h;cases h;subst c;exact⟨false,rfl,.here⟩
  ·rw [BK c] at h;cases h
 ·rw [Ag.mp hx];exact⟨.bl false,by rw [hv f,BL rfl]⟩
 ·obtain⟨v,h⟩:=hx;rw [hv x] at h
  by_cases c:x=f
  ·exact .inl<|Ag.mpr c
  ·rw [BK c] at h;cases h
def bZ.pop{α:Type}{φ:α->Key}{ls:List (Bl α)}{f h:α}{kvs:List (Key×V)}{wt:List α}(I:bZ φ ls f none kvs<|wt++[h]):bZ φ ls f (some h) kvs wt:=by
 refine⟨I.dB,I.txt,I.val,I.fst,λx hx=>I.sI x<|Az _ hx,λx hx=>(by cases hx;exact I.sI h<|Au _<|Ag.mpr rfl),λx hx=>?_⟩
 rcases I.cls x hx with c | c | c
 ·rcases An.mp c with c | c
  ·exact .inl c
  ·exact .inr<|.inl<|by rw [Ag.mp c]
 ·cases c
 ·exact .inr<|.inr c
def bZ.close{α:Type}{φ:α->Key}{ls:List (Bl α)}{f h:α}{kvs:List (Key×V)}{wt:List α}(I:bZ φ ls f (some h) kvs wt)(c:∀ y o,dq ls h y o->has φ kvs y):bZ φ ls f none kvs wt:=by
 refine⟨I.dB,I.txt,I.val,I.fst,I.sI,λx hx=>(by cases hx),λx hx=>?_⟩
 rcases I.cls x hx with d | d | d
 ·exact .inl d
 ·cases d;exact .inr<|.inr c
 ·exact .inr<|.inr d
def bZ.iR{α:Type}{φ:α->Key}{ls:List (Bl α)}{f:α}{hr:Option α}{kvs:List (Key×V)}{wt:List α}(I:bZ φ ls f hr kvs wt){g:α}(hg:al kvs (φ g)=none):φ g∉kvs.map (·.1):=by
 intro hm;obtain⟨p,hp,e⟩:=Aj.mp hm;have:∃ i:Nat,kvs[i]?=some p:=Be hp;obtain⟨i,hi⟩:=this;have:∀{l:List (Key×V)},(∃ q∈l,q.1=φ g)->al l (φ g)≠none:=λ{l}=>by
  induction l with
  | nil=>rintro ⟨q,hq,_⟩;cases hq
  | cons c r ih=>
   rintro ⟨q,hq,e⟩ hn
   by_cases hc:c.1=φ g
   ·rw [gj hc] at hn;cases hn
   ·rw [gk hc] at hn
    rcases Al.mp hq with rfl | hq
    ·exact hc e
    ·exact ih ⟨q,hq,e⟩ hn
 exact this ⟨p,hp,e⟩ hg
def bZ.hrk{α:Type}{φ:α->Key}{ls:List (Bl α)}{f h:α}{kvs:List (Key×V)}{wt:List α}(I:bZ φ ls f (some h) kvs wt):has φ kvs h:=I.yZ h rfl
def bZ.add{α:Type}{φ:α->Key}(ki:∀ x y,φ x=φ y->x=y){ls:List (Bl α)}{f h g:α}{kvs:List (Key×V)}{wt:List α}{b o:Bool}(I:bZ φ ls f (some h) kvs wt)(hg:al kvs (φ g)=none)(hh:al kvs (φ h)=some (.bl b))(t:dq ls h g o) :
  bZ φ ls f (some h) (putK kvs (φ g)<|.bl<|b != o) (wt++[g]):=by
 have wz:=I.iR hg;have hw:Way ls f g (b != o):=by
  obtain⟨b',e,hw⟩:=I.val h _ hh;cases e
  rcases t with t | t
  ·exact .there hw t
  ·exact .back hw t
 refine⟨?_,λk hk=>?_,λx v hv=>?_,cS I.fst,λx hx=>?_,λx hx=>cS<|I.yZ x hx,λx hx=>?_⟩
 ·rw [sG,BK wz];exact me I.dB wz
 ·rw [sG,BK wz] at hk
  rcases An.mp hk with hk | hk
  ·exact I.txt k hk
  ·exact⟨g,Ag.mp hk,Ak _<|k97 t⟩
 ·rw [c7] at hv
  by_cases c:φ x=φ g
  ·rw [BL c] at hv;cases hv;rw [ki _ _ c];exact⟨_,rfl,hw⟩
  ·rw [BK c] at hv;exact I.val x v hv
 ·rcases An.mp hx with hx | hx
  ·exact cS<|I.sI x hx
  ·rw [Ag.mp hx];exact⟨_,by rw [c7,BL rfl]⟩
 ·obtain⟨v,hv⟩:=hx;rw [c7] at hv
  by_cases c:φ x=φ g
  ·exact .inl<|Au _<|Ag.mpr<|ki _ _ c
  ·rw [BK c] at hv
   rcases I.cls x ⟨v,hv⟩ with d | d | d
   ·exact .inl<|Az _ d
   ·exact .inr<|.inl d
   ·exact .inr<|.inr λy o' ht=>cS<|d y o' ht
def bZ.whole{α:Type}{φ:α->Key}{ls:List (Bl α)}{f:α}{kvs:List (Key×V)}(I:bZ φ ls f none kvs []):∀ x b,Way ls f x b->∃ b',al kvs (φ x)=some (.bl b'):=by
 have jR:∀ x b,Way ls f x b->has φ kvs x:=λx b w=>by
  induction w with
  | here=>exact I.fst
  | there w hm ih=>
   rcases I.cls _ ih with d | d | d
   ·cases d
   ·cases d
   ·exact d _ _<|.inl hm
  | back w hm ih=>
   rcases I.cls _ ih with d | d | d
   ·cases d
   ·cases d
   ·exact d _ _<|.inr hm
 intro x b w;obtain⟨v,hv⟩:=jR x b w;obtain⟨b',e,_⟩:=I.val x v hv;exact⟨b',by rw [hv,e]⟩
def jm:V->Bool
 | .bl b=>b
 | _=>false
noncomputable def jG{α:Type}(φ:α->Key)(p:Key×V):List α:=open Classical in if h:jm p.2=true/\∃ x,p.1=φ x then [h.2.choose] else []
noncomputable def aQ{α:Type}(φ:α->Key)(kvs:List<|Key×V):List α:=kvs.flatMap<|jG φ
theorem ie{α:Type}{φ:α->Key}(ki:∀ x y,φ x=φ y->x=y)(x:α)(b:Bool):jG φ (φ x,.bl b)=if b=true then [x] else []:=by
 unfold jG;cases b with
 | true=>
  have h:jm (φ x,V.bl true).2=true/\∃ y,(φ x,V.bl true).1=φ y:=⟨rfl,x,rfl⟩;rw [dif_pos h,BL rfl,ki _ _ h.2.choose_spec.symm]
 | false=>rw [dif_neg (λh=>by cases h.1),BK<|by decide]
def cJ{α:Type}(φ:α->Key)(kvs:List<|Key×V)(p:Key×V):aQ φ (kvs++[p])=aQ φ kvs++jG φ p:=by
 unfold aQ;rw [Cu];simp
theorem bW{α:Type}(φ:α->Key):∀ kvs:List<|Key×V,(aQ φ kvs).length<=kvs.length
 | []=>Am _
 | p :: r=>by
  show(jG φ p++aQ φ r).length<=r.length+1;have:=bW φ r;have:(jG φ p).length<=1:=by unfold jG;split <;> simp
  rw [Ad];omega
def bZ.mem{α:Type}{φ:α->Key}(ki:∀ x y,φ x=φ y->x=y){ls:List (Bl α)}{f:α}{kvs:List (Key×V)}(I:bZ φ ls f none kvs [])(x:α):x∈aQ φ kvs↔al kvs (φ x)=some (.bl true):=by
 rw [<- vw I.dB];unfold aQ;rw [Dd]
 constructor
 ·rintro ⟨⟨k,v⟩,hp,hx⟩;obtain⟨y,rfl,_⟩:=I.txt k<|Aj.mpr ⟨_,hp,rfl⟩;obtain⟨b,rfl,_⟩:=I.val y v<|(vw I.dB).mp hp;rw [ie ki] at hx;cases b with
  | true=>rw [BL rfl] at hx;rw [Ag.mp hx];exact hp
  | false=>cases hx
 ·intro h;exact⟨_,h,by rw [ie ki,BL rfl];exact Ag.mpr rfl⟩
theorem fh{α:Type}{φ:α->Key}(ki:∀ x y,φ x=φ y->x=y):∀ kvs:List<|Key×V,(kvs.map (·.1)).Nodup->(aQ φ kvs).Nodup
 | [],_=>Cj
 | p :: r,h=>by
  rw [Bh,Bi] at h;show(jG φ p++aQ φ r).Nodup;have ih:=fh ki r h.2;have key:∀(q:Key×V) (x:α),x∈jG φ q->q.1=φ x:=λq x hx=>by
   unfold jG at hx
   split at hx
   ·rename_i hq;rw [Ag.mp hx];exact hq.2.choose_spec
   ·cases hx
  have n1:(jG φ p).Nodup:=by unfold jG;split <;> simp
  refine Cf.mpr ⟨n1,ih,λa ha b hb e=>?_⟩;subst e;obtain⟨q,hq,hx⟩:=Dd.mp hb;exact h.1<|Aj.mpr ⟨q,hq,by rw [key q a hx,key p a ha]⟩
end Nz
namespace L2
open PySem PySem.Spec PyProof.Rows
section
variable{X:Cx}{σ:St}{H:Hp}{Q:VK}
def RU{k v:Expr}{pos:Pos}(hu:X.A.units+1 < cLine)(h:∀ d,H d=none->Ev X k σ (upd H d<|.dK []) λy H1=>Ev X v σ H1 λx H2=>∃ H3,bT H2 d y x H3/\Q (.ref d) H3):Ev X (.Dict [some k] [v] pos) σ H Q:=by
 refine⟨λpins s I=>wpAny_Dict_any rfl rfl (by simp) (by show 1<=15;decide) ?_⟩;have I0:Inv X pins σ (upd H s.heap.objs.size<|.dK []) {s with heap:=s.heap.push {cls:= .type "dict",data:= .dict #[]}}:=I.laid (a:=s.heap.objs.size) (o:= .dK []) (t':=s.toks) (λ_ _ q=>Ae _ q) (Am _)<|Nb s.heap I.big;show wpAny _ _ (evalPairs [(eval k X.env,do let x <- eval v X.env;standAt pos;pure x)]) _ _ _;unfold evalPairs;refine BJ<|aF ((h _ I.fresh).run pins _ I0) λkv s1 ⟨y,H1,I1,r1,h1⟩=>?_;refine BJ<|CJ<|BJ<|aF (h1.run pins s1 I1) λvv s2 ⟨x,H2,I2,r2,H3,dp,q⟩=>?_;refine BJ<|EY<|BP ?_;unfold evalPairs;refine BJ<|CJ<|BP<|BP ?_;unfold storeAll;rw [Gc];refine BJ<|BJ<|O' hu I2 dp r1 r2 λs' I'=>BP ?_;exact BP ⟨.ref _,H3,I',rfl,q⟩
end
end L2
namespace Q2
open PySem L2 Nt bB
abbrev T3b(x:Bl):HO:= .tup [.str x.1,.str x.2.1,.bl x.2.2]
def RY(H:Hp)(us:List Addr)(ls:List Bl):Prop:=us.length=ls.length/\∀(j:Nat) u x,us[j]?=some u->ls[j]?=some x->H u=some (T3b x)
def IC:Sp:=λvs H Q _=>∃(f:Str) (L:Addr) (us:List Addr) (ls:List Bl),vs=[.str f,.ref L]/\H L=some (.lst<|us.map V.ref)/\RY H us ls/\ls.length<=60 /\
 ∀(d:Addr) (kvs:List<|Key×V) (H':Hp),ah H H'->H d=none->H' d=some (.dK kvs)->bZ ls f none kvs []->Q (.ref d) H'
abbrev R0{α:Type}(φ:α->Key)(x:Nz.Bl α):HO:= .tup [kV<|φ x.1,kV<|φ x.2.1,.bl x.2.2]
def kR{α:Type}(φ:α->Key)(H:Hp)(us:List Addr)(ls:List<|Nz.Bl α):Prop:=us.length=ls.length/\∀(j:Nat) u x,us[j]?=some u->ls[j]?=some x->H u=some (R0 φ x)
def kR.same{α:Type}{φ:α->Key}{H H':Hp}{us:List Addr}{ls:List (Nz.Bl α)}(h:kR φ H us ls)(s:ah H H'):kR φ H' us ls:=⟨h.1,λj u x h1 h2=>s _ _<|h.2 j u x h1 h2⟩
abbrev Lg{α:Type}(φ:α->Key)(l:List α):HO:= .lst<|l.map λx=>kV<|φ x
def R1{α:Type}(φ:α->Key):Sp:=λvs H Q _=>∃(f:α) (L:Addr) (us:List Addr) (ls:List<|Nz.Bl α),vs=[kV<|φ f,.ref L]/\H L=some (.lst<|us.map V.ref)/\kR φ H us ls/\ls.length<=60 /\
 ∀(d:Addr) (kvs:List<|Key×V) (H':Hp),ah H H'->H d=none->H' d=some (.dK kvs)->Nz.bZ φ ls f none kvs []->Q (.ref d) H'
def q6r{a b:Key}(h:kV a=kV b):a=b:=by
 cases a <;> cases b <;> cases h <;> rfl
section
variable{P:Program}{w:World}{K:PySem.W.Frag}{mg:Str->Option Value}{base:Heap}
abbrev NSp:List Str:=["first","links","odds","waiting","here","one","other","odd","start","goal"]
def wA:ao NSp ["first","links"] (aP uP):=⟨rfl,rfl,rfl,by decide +kernel,rfl,by decide +kernel,by decide +kernel⟩
def q6x{α:Type}(φ:α->Key)(wt:List α)(h:α):(((wt++[h]).map λx=>kV<|φ x)[((wt++[h]).map λx=>kV<|φ x).length - 1]?=some (kV<|φ h))/\((wt++[h]).map λx=>kV<|φ x).dropLast=wt.map (λx=>kV<|φ x):=by
 rw [Ai]
 constructor
 ·simp
 ·exact List.dropLast_concat
def R3{α:Type}{φ:α->Key}(ki:∀ x y,φ x=φ y->x=y)(i':∀ x y,pB (kV<|φ x) (kV<|φ y)=true){f:Addr}{fd:FuncData}(F:bu K "spread" "spread" uP f fd)(T:Txt mg):aC P w K mg base bA 1 f fd ["first","links"] (R1 φ):=by
 refine F.gb wA (λvs H Q E h=>?_) λb0 H vs Q E hr h=>?_
 ·obtain⟨f,L,us,ls,rfl,_⟩:=h;rfl
 obtain⟨ft,L,us,ls,rfl,hL,cA,h60,q⟩:=h;have nd:=wA.nd;have hu:=hr.u1;have mZ:=cA.1;show Run _ _ _ [some<|kV<|φ ft,some<|.ref L,none,none,none,none,none,none,none,none] H;refine aT 2 nd<|RU hu λd hd=>ae 0<|pI ⟨_,bT.k (k:=φ ft) av<|bH<|Bp _,?_⟩;rw [o8];refine aT 3 nd<|dU<|aj<|ae 0<|aA ⟨Z1,λM hM=>?_⟩;have lN:M≠d:=λe=>by rw [e,av] at hM;cases hM
 have wu:H M=none:=by rw [au lN] at hM;exact hM
 have s0:ah H (upd (upd H d<|.dK<|putK [] (φ ft)<|.bl false) M<|.lst [kV<|φ ft]):=(aK hd _).trans<|aK hM _;have wv:(upd (upd H d<|.dK<|putK [] (φ ft)<|.bl false) M<|.lst [kV<|φ ft]) d=some (.dK<|putK [] (φ ft)<|.bl false):=by rw [au<|CG lN,av]
 have m9:(upd (upd H d<|.dK<|putK [] (φ ft)<|.bl false) M<|.lst [kV<|φ ft]) M=some (Lg φ [ft]):=av;show Run _ _ _ [some<|kV<|φ ft,some<|.ref L,some<|.ref d,some<|.ref M,none,none,none,none,none,none] (upd (upd H d<|.dK<|putK [] (φ ft)<|.bl false) M<|.lst [kV<|φ ft]);generalize upd (upd H d<|.dK<|putK [] (φ ft)<|.bl false) M (.lst [kV<|φ ft])=H0 at s0 wv m9;refine uM (λm σ H'=>m<=1000/\∃(kvs:List<|Key×V) (wt:List α) (u4 u5 u6 u7 u8 u9:Option V),ah H H'/\H' d=some (.dK kvs)/\H' M=some (Lg φ wt)/\Nz.bZ φ ls ft none kvs wt/\m=2 * (1+2 * ls.length - kvs.length)+wt.length /\
   σ=[some<|kV<|φ ft,some<|.ref L,some<|.ref d,some<|.ref M,u4,u5,u6,u7,u8,u9]) (m0:=2 * (1+2 * ls.length - 1)+1)
  ⟨by omega,_,[ft],_,_,_,_,_,_,s0,wv,m9,Nz.bZ.start ki ls ft,rfl,rfl⟩ ?_
 rintro m σ H1 ⟨hm,kvs,wt,u4,u5,u6,u7,u8,u9,s1,R5,IE,I,em,rfl⟩;refine Nw<|ae 3 (v:= .ref M) ⟨!wt.isEmpty,Or.inl ⟨wt.map λx=>kV<|φ x,ai.of IE,by cases wt <;> rfl⟩,?_⟩
 rcases List.eq_nil_or_concat wt with e | ⟨kS,hh,e⟩
 ·subst e;rw [BK λh=>nomatch h];exact bL<|ae 2<|q d kvs H1 s1 hd R5 I
 rw [List.concat_eq_append] at e;subst e;rw [BL<|by cases kS <;> rfl];obtain⟨hy,j5⟩:=q6x φ kS hh;refine aT 4 nd<|Ym CW TX TY WG<|ae 3 (v:= .ref M) ⟨Or.inl ⟨rfl,_,ai.of IE⟩,M,_,kV<|φ hh,rfl,rfl,IE,hy,?_⟩;rw [j5];have I1:=I.pop;have lw:(kS++[hh]).length=kS.length+1:=by rw [Ad];rfl
 rw [lw] at em;have R9:∀{H':Hp},ah H H'->H' L=some (.lst<|us.map V.ref):=λs=>s _ _ hL;show Run _ _ _ [some<|kV<|φ ft,some<|.ref L,some<|.ref d,some<|.ref M,some<|kV<|φ hh,u5,u6,u7,u8,u9] (upd H1 M<|Lg φ kS);have s2:ah H (upd H1 M<|Lg φ kS):=db s1 wu;have Sb:(upd H1 M<|Lg φ kS) d=some (.dK kvs):=by rw [au<|CG lN];exact R5
 have Sd:(upd H1 M<|Lg φ kS) M=some (Lg φ kS):=av;generalize upd H1 M (Lg φ kS)=H2 at s2 Sb Sd;refine jU<|ae 1 ⟨L,rfl,⟨_,ai.of<|R9 s2⟩,jV (xs:=us.map V.ref) (λj σ H'=>∃(kvs:List<|Key×V) (wt:List α) (u5 u6 u7 u8 u9:Option V),ah H H'/\H' d=some (.dK kvs)/\H' M=some (Lg φ wt)/\Nz.bZ φ ls ft (some hh) kvs wt/\2 * (1+2 * ls.length - kvs.length)+wt.length < m /\
   (∀ l∈ls.take j,(l.1=hh->Nz.has φ kvs l.2.1)/\(l.2.1=hh->Nz.has φ kvs l.1))/\σ=[some<|kV<|φ ft,some<|.ref L,some<|.ref d,some<|.ref M,some<|kV<|φ hh,u5,u6,u7,u8,u9])
  ⟨kvs,kS,_,_,_,_,_,s2,Sb,Sd,I1,by omega,λl hl=>by simp at hl,rfl⟩ ?_ ?_ ?_⟩
 ·rintro j σ H' _ ⟨_,_,_,_,_,_,_,sm,_⟩;exact ai.of<|R9 sm
 ·rintro j x σ H3 hx ⟨kvs,wt,u5,u6,u7,u8,u9,s3,ed,eM,I,aX,b9,rfl⟩;rw [Af,Ap] at hx;obtain⟨u,cj,rfl⟩:=hx;have hj:j < ls.length:=by
   have:=(Ac.mp cj).1;omega
  have Se:ls[j]?=some ls[j]:=Ab hj;have kQ:=(cA.same s3).2 j u _ cj Se;have fH:ls[j]∈ls:=Bs hj;have t9:∀ l∈ls.take (j+1),l∈ls.take j\/l=ls[j]:=λl hl=>by
   rw [Bx,Se] at hl
   rcases An.mp hl with q | q
   ·exact .inl q
   ·exact .inr<|by simpa using q
  generalize ls[j]=lx at kQ fH t9;obtain⟨on,ot,od⟩:=lx;refine Iz rfl (aM.of kQ) (aW 5 nd<|aW 6 nd<|aW 7 nd ?_);show Run _ _ _ [some<|kV<|φ ft,some<|.ref L,some<|.ref d,some<|.ref M,some<|kV<|φ hh,some<|kV<|φ on,some<|kV<|φ ot,some<|.bl od,u8,u9] H3;refine Xp<|eC<|aj<|eC<|aj<|ae 5<|aj<|ae 6<|aA ⟨Z2,λt1 G0=>?_⟩;refine aj<|eC<|aj<|ae 6<|aj<|ae 5<|aA ⟨Z2,λt2 iG=>aA ⟨Z2,λtt htt=>?_⟩⟩;have n1:=aK G0<|.tup [kV<|φ on,kV<|φ ot];have n2:=aK iG<|.tup [kV<|φ ot,kV<|φ on];have n3:=aK htt<|.tup [.ref t1,.ref t2];have e1:=n3 _ _<|n2 _ _<|av (H:=H3) (a:=t1) (o:= .tup [kV<|φ on,kV<|φ ot]);have e2:=n3 _ _<|av (H:=upd H3 t1<|.tup [kV<|φ on,kV<|φ ot]) (a:=t2) (o:= .tup [kV<|φ ot,kV<|φ on]);have e3:=av (H:=upd (upd H3 t1<|.tup [kV<|φ on,kV<|φ ot]) t2<|.tup [kV<|φ ot,kV<|φ on]) (a:=tt) (o:= .tup [.ref t1,.ref t2]);have n:=n1.trans<|n2.trans n3;refine⟨tt,rfl,⟨_,aM.of e3⟩,?_⟩;generalize upd (upd (upd H3 t1<|.tup [kV<|φ on,kV<|φ ot]) t2<|.tup [kV<|φ ot,kV<|φ on]) tt (.tup [.ref t1,.ref t2])=H4 at e1 e2 e3 n;refine Xq (xs:=[.ref t1,.ref t2]) (λi σ H'=>∃(kvs:List<|Key×V) (wt:List α) (u8 u9:Option V),ah H H'/\H' d=some (.dK kvs)/\H' M=some (Lg φ wt)/\H' t1=some (.tup [kV<|φ on,kV<|φ ot])/\H' t2=some (.tup [kV<|φ ot,kV<|φ on])/\H' tt=some (.tup [.ref t1,.ref t2])/\Nz.bZ φ ls ft (some hh) kvs wt/\2 * (1+2 * ls.length - kvs.length)+wt.length < m /\
   (∀ l∈ls.take j,(l.1=hh->Nz.has φ kvs l.2.1)/\(l.2.1=hh->Nz.has φ kvs l.1))/\(0 < i->on=hh->Nz.has φ kvs ot)/\(1 < i->ot=hh->Nz.has φ kvs on)/\σ=[some<|kV<|φ ft,some<|.ref L,some<|.ref d,some<|.ref M,some<|kV<|φ hh,some<|kV<|φ on,some<|kV<|φ ot,some<|.bl od,u8,u9])
   ⟨kvs,wt,_,_,s3.trans n,n _ _ ed,n _ _ eM,e1,e2,e3,I,aX,b9,λh=>absurd h (by decide),λh=>absurd h (by decide),rfl⟩ ?_ ?_ ?_
  ·rintro i σ H' _ ⟨_,_,_,_,_,_,_,_,_,e,_⟩;exact aM.of e
  ·rintro i x σ H5 hx ⟨kvs,wt,u8,u9,s5,ed,eM,e1,e2,e3,I,aX,b9,d1,d2,rfl⟩;obtain⟨st,gl,t,rfl,et,IG,cR⟩:∃ st gl t,x = .ref t/\H5 t=some (.tup [kV<|φ st,kV<|φ gl])/\Nz.dq ls st gl od/\∀ jn,(∀ y,Nz.has φ kvs y->Nz.has φ jn y)->(st=hh->Nz.has φ jn gl)->(0 < i+1->on=hh->Nz.has φ jn ot)/\(1 < i+1->ot=hh->Nz.has φ jn on):=by
    match i with
    | 0=>
     cases hx;exact⟨on,ot,t1,rfl,e1,.inl fH,λjn mo h=>⟨λ_=>h,λh=>absurd h<|by decide⟩⟩
    | 1=>
     cases hx;exact⟨ot,on,t2,rfl,e2,.inr fH,λjn mo h=>⟨λ_ e=>mo _ (d1 (by decide) e),λ_=>h⟩⟩
    | i+2=>simp at hx
   refine iO rfl (aM.of et) (aW 8 nd<|aW 9 nd ?_);show Run _ _ _ [some<|kV<|φ ft,some<|.ref L,some<|.ref d,some<|.ref M,some<|kV<|φ hh,some<|kV<|φ on,some<|kV<|φ ot,some<|.bl od,some<|kV<|φ st,some<|kV<|φ gl] H5;have skip:(st=hh->Nz.has φ kvs gl)->∃(kvs:List<|Key×V) (wt:List α) (u8 u9:Option V),ah H H5/\H5 d=some (.dK kvs)/\H5 M=some (Lg φ wt)/\H5 t1=some (.tup [kV<|φ on,kV<|φ ot])/\H5 t2=some (.tup [kV<|φ ot,kV<|φ on])/\H5 tt=some (.tup [.ref t1,.ref t2])/\Nz.bZ φ ls ft (some hh) kvs wt/\2 * (1+2 * ls.length - kvs.length)+wt.length < m /\
     (∀ l∈ls.take j,(l.1=hh->Nz.has φ kvs l.2.1)/\(l.2.1=hh->Nz.has φ kvs l.1))/\(0 < i+1->on=hh->Nz.has φ kvs ot)/\(1 < i+1->ot=hh->Nz.has φ kvs on)/\[some<|kV<|φ ft,some<|.ref L,some<|.ref d,some<|.ref M,some<|kV<|φ hh,some<|kV<|φ on,some<|kV<|φ ot,some<|.bl od,some<|kV<|φ st,some<|kV<|φ gl]=[some<|kV<|φ ft,some<|.ref L,some<|.ref d,some<|.ref M,some<|kV<|φ hh,some<|kV<|φ on,some<|kV<|φ ot,some<|.bl od,u8,u9]:=λh=>
    ⟨kvs,wt,_,_,s5,ed,eM,e1,e2,e3,I,aX,b9,(cR kvs (λ_ h=>h) h).1,(cR kvs (λ_ h=>h) h).2,rfl⟩
   refine gM<|nS<|yc<|cz i0<|ae 8<|ae 4 ⟨i' _ _,_,rfl,?_⟩
   by_cases cg:st=hh
   ·rw [BL<|BW<|by rw [cg]];refine yd<|EB hu<|ae 9<|ae 2 ⟨d,_,rfl,aU.k (k:=φ gl) ed,?_⟩;cases hg:al kvs (φ gl) with
    | some v=>
     show if false=true then _ else _;rw [BK<|by decide];exact a7<|a7<|skip λ_=>⟨v,hg⟩
    | none=>
     show if true=true then _ else _;rw [BL rfl];have hhh:Nz.has φ kvs hh:=by
      rcases I.hrk with q
      exact q
     obtain⟨v,hv⟩:=hhh;obtain⟨b,rfl,_⟩:=I.val hh v hv;subst cg;have I':=Nz.bZ.add ki (o:=od) I hg hv IG;have lk:=I.len;have lk':=I'.len;have se:(putK kvs (φ gl)<|.bl<|b != od).length=kvs.length+1:=by
      have wz:=I.iR hg;have:=BZ List.length<|sG kvs (φ gl)<|.bl<|b != od;rw [BK wz,Ad,Aa,Aa] at this;exact this
     refine rP hu (gY xZ<|dX hu<|ae 2<|ae 4 ⟨d,.bl b,rfl,by rw [<- hv];exact aU.k (k:=φ st) ed,ae 7 ⟨rfl,?_⟩⟩);rw [t7];refine ae 2 (ae 9 ⟨d,_,rfl,bT.k (k:=φ gl) ed (bH<|by omega),?_⟩);have Sf:(upd H5 d<|.dK<|putK kvs (φ gl)<|.bl<|b != od) M=some (Lg φ wt):=by rw [au lN];exact eM
     refine g5 (j3<|ae 3 ⟨M,rfl,⟨_,Sf⟩,ae 9 ⟨_,Sf,by rw [Aa];exact bH (by omega),?_⟩⟩);have kT:∀ c xs,H5 c=some (.tup xs)->(upd (upd H5 d<|.dK<|putK kvs (φ gl)<|.bl<|b != od) M<|.lst<|wt.map (λx=>kV<|φ x)++[kV<|φ gl]) c=some (.tup xs):=λc xs h=>by
      rw [au (bQ h eM λz=>nomatch z),au<|bQ h ed λz=>nomatch z];exact h
     have mo:∀ y,Nz.has φ kvs y->Nz.has φ (putK kvs (φ gl)<|.bl<|b != od) y:=λy h=>Nz.cS h;have hn:=cR _ mo (λ_=>⟨.bl<|b != od,by rw [c7,BL rfl]⟩);refine a7<|a7 ⟨_,wt++[gl],_,_,db (db s5 hd) wu,?_,?_,kT _ _ e1,kT _ _ e2,kT _ _ e3,I',?_,λl hl=>⟨λe=>mo _<|(b9 l hl).1 e,λe=>mo _<|(b9 l hl).2 e⟩,hn.1,hn.2,rfl⟩
     ·rw [au<|CG lN];exact av
     ·rw [av];show some (HO.lst<|wt.map (λx=>kV<|φ x)++[kV<|φ gl])=some (HO.lst<|(wt++[gl]).map λx=>kV<|φ x);rw [Ai];rfl
     ·rw [se,Ad];rw [se] at lk';show _+(wt.length+1) < m;clear hn cR d1 d2 skip;omega
   ·rw [BK λh=>cg<|ki _ _<|q6r<|BX h];show if false=true then _ else _;rw [BK<|by decide];exact a7<|a7<|skip λh=>absurd h cg
  ·rintro σ H5 ⟨kvs,wt,u8,u9,s5,ed,eM,_,_,_,I,aX,b9,d1,d2,rfl⟩;refine a7 ⟨kvs,wt,_,_,_,_,_,s5,ed,eM,I,aX,λl hl=>?_,rfl⟩
   rcases t9 l hl with q | q
   ·exact b9 l q
   ·subst q;exact⟨d1 (by show 0 < 2;decide),d2<|by show 1 < 2;decide⟩
 ·rintro σ H3 ⟨kvs,wt,u5,u6,u7,u8,u9,s3,ed,eM,I,aX,b9,rfl⟩;rw [Aa,mZ,Bm] at b9;refine a7 ⟨_,aX,by omega,kvs,wt,_,_,_,_,_,_,s3,ed,eM,I.close λy o ht=>?_,rfl,rfl⟩
  rcases ht with h | h
  ·exact(b9 _ h).1 rfl
  ·exact(b9 _ h).2 rfl
def q91{ls:List Bl}{f:Str}{kvs:List (Key×V)}(I:Nz.bZ Sum.inr ls f none kvs []):bZ ls f none kvs []:=by
 have wy:∀{x:Str} {b:Bool},Nz.Way ls f x b->Way ls f x b:=λw=>by
  induction w with
  | here=>exact .here
  | there _ h ih=>exact .there ih h
  | back _ h ih=>exact .back ih h
 exact⟨I.dB,I.txt,λx v h=>let ⟨b,e,w⟩:=I.val x v h;⟨b,e,wy w⟩,I.fst,I.sI,I.yZ,I.cls⟩
def k52{f:Addr}{fd:FuncData}(F:bu K "spread" "spread" uP f fd)(T:Txt mg):aC P w K mg base bA 1 f fd ["first","links"] IC:=
 (R3 (φ:=(Sum.inr:Str->Key)) (λ_ _ h=>Sum.inr.inj h) (λ_ _=>rfl) F T).imp λvs H Q E ⟨f,L,us,ls,e,h1,h2,h3,q⟩=>⟨f,L,us,ls,e,h1,h2,h3,λd kvs H' s n e I=>q d kvs H' s n e<|q91 I⟩
open PyProof.Rows (sortedS)
def IH:Sp:=λvs H Q _=>∃(R p:Addr) (as:List<|Addr×Addr) (n:Net) (ps:List Str),vs=[.ref R,.ref p]/\ak H R as n/\aw n/\n.length<=60/\(ag n).length<=60/\H p=some (Ls ps) /\
 ∀(L:Addr) (cs:List Str) (H':Hp),ah H H'->H L=none->H' L=some (Ls cs)->cB cs->(∀ z,z∈cs↔mK n ps z)->cs.length<=60->Q (.ref L) H'
def II:Sp:=λvs H Q _=>∃(R p:Addr) (as:List<|Addr×Addr) (n:Net) (ss:List Str),vs=[.ref R,.ref p]/\ak H R as n/\aw n/\cm n/\0 < n.length/\n.length<=60/\(ag n).length<=60/\H p=some (Ls ss)/\cB ss /\
 (∀(L:Addr) (sd:List Str) (H':Hp),ah H H'->H L=none->H' L=some (Ls sd)->bx n ss sd->Q (.ref L) H')/\(∀ H',ah H H'->(∀ sd,¬ bx n ss sd)->Q .non H')
def wB(ps:List Str)(x:Lk):Bool:=decide (x.2.1∈ps) != decide (x.2.2∈ps)
def dE(ps:List Str)(ls:List Lk):List Str:=(ls.filter<|wB ps).map (·.1)
def k93{ps:List Str}{ls:List Lk}(h:zP ls):cB (dE ps ls):=by
 unfold cB dE;rw [Cy];exact h.sublist List.filter_sublist
def q1f{n:Net}(T:aw n){ps:List Str}{ls:List Lk}(h:∀ x,x∈ls↔oB n x)(z:Str):z∈dE ps ls↔mK n ps z:=by
 unfold dE;rw [Aj]
 constructor
 ·rintro ⟨x,hx,rfl⟩;rw [Bk] at hx;exact(Gk T<|(h x).mp hx.1).mpr hx.2
 ·intro hc;obtain⟨e,he,_⟩:=id hc
  rcases P8 T he with q | q
  ·exact⟨_,Bk.mpr ⟨(h _).mpr q,(Gk T q).mp hc⟩,rfl⟩
  ·exact⟨_,Bk.mpr ⟨(h _).mpr q,(Gk T q).mp hc⟩,rfl⟩
def Sg(ps:List Str)(ls:List Lk):(dE ps ls).length<=ls.length:=by
 unfold dE;rw [Aa];exact Ck _ _
def k7n(ps:List Str)(ls:List Lk)(x:Lk):dE ps (ls++[x])=dE ps ls++(if wB ps x=true then [x.1] else []):=by
 unfold dE;rw [Cp,Ai]
 congr 1
 cases h:wB ps x <;> simp [h]
def qP(zs:List Str)(z:Str):zs.contains z=decide (z∈zs):=by
 rw [Da,CZ];exact Dq
abbrev Sh:List Str:=["rows","points"]
abbrev wC:List Str:=["rows","points","tie","one","other"]
def IJ:ao Sh ["rows","points"] (aP yF):=⟨rfl,rfl,rfl,by decide +kernel,rfl,by decide +kernel,by decide +kernel⟩
def IL:wC.Nodup:=by decide +kernel
def q7t{f:Addr}{fd:FuncData}(F:bu K "cut_of" "cut_of" yF f fd)(T:Txt mg)
  (G:aO P w K mg base 1 "links_of" ["rows"] zQ) :
  aC P w K mg base bA 2 f fd ["rows","points"] IH:=by
 refine F.gb IJ (λvs H Q E h=>?_) λb0 H vs Q E hr h=>?_
 ·obtain⟨R,p,as,n,ps,rfl,_⟩:=h;rfl
 obtain⟨R,p,as,n,ps,rfl,hR,hT,hn,ht,hp,q⟩:=h;show Run _ _ _ [some<|.ref R,some<|.ref p] H;refine bL (gN (aP yF) Sh wC 3 (eg bf)<|bG G hr<|aj<|ae 0<|aA ⟨R,as,n,rfl,hR,hT,by omega,ht,λL us ls H1 s1 n1 eL cA fS fH hlen=>?_⟩);refine⟨L,rfl,⟨_,ai.of eL⟩,λD hD=>?_⟩;have Hu:L≠D:=bd eL hD;have Io:p≠D:=bd (s1 _ _ hp) hD;have mZ:=cA.1;refine ka (xs:=us.map V.ref) (λi σ' H'=>(∃ v1 v2 v3,σ'=[some<|.ref R,some<|.ref p]++[v1,v2,v3])/\H'=upd H1 D (Ls<|dE ps<|ls.take i)) ⟨⟨_,_,_,rfl⟩,rfl⟩ ?_ ?_ ?_
 ·rintro i σ' H' _ ⟨_,rfl⟩;exact ai.of<|by rw [au Hu];exact eL
 ·rintro i x σ' H' hx ⟨⟨v1,v2,v3,rfl⟩,rfl⟩;rw [Af,Ap] at hx;obtain⟨u,cj,rfl⟩:=hx;have hi:i < ls.length:=by
   have:=(Ac.mp cj).1;omega
  have oh:ls[i]?=some ls[i]:=Ab hi;have kQ:=cA.2 i u _ cj oh;have ic:ls.take (i+1)=ls.take i++[ls[i]]:=by rw [Bx,oh];rfl
  rw [ic,k7n];generalize ls[i]=lx at kQ;obtain⟨ti,on,ot⟩:=lx;have IM:(upd H1 D<|Ls<|dE ps<|ls.take i) u=some (.tup [.str ti,.str on,.str ot]):=by rw [au<|bd kQ hD];exact kQ
  have oG:(upd H1 D<|Ls<|dE ps<|ls.take i) p=some (Ls ps):=by rw [au Io];exact s1 _ _ hp
  intro cl C' s₀ H₀ ex;refine Iz rfl (aM.of IM) (aW 2 IL<|aW 3 IL<|aW 4 IL ?_);intro cl C' s₀ H₀ ex;refine iE<|cz xZ<|gY lX<|ae 3<|ae 1 ⟨p,_,rfl,.inl<|ai.of oG,rfl,ke _,?_⟩;refine gY lX<|ae 4<|ae 1 ⟨p,_,rfl,.inl<|ai.of oG,rfl,ke _,rfl,_,rfl,?_⟩;have fF:∀(x y:Bool),(if false=true then x else y)=y:=λ_ _=>rfl;rw [fF,fF,kd,kd,qP,qP,t7];show if wB ps (ti,on,ot)=true then _ else _;have p9:=Bv (Sg ps<|ls.take i) (show(ls.take i).length<=ls.length by rw [Bd];omega)
  by_cases hc:wB ps (ti,on,ot)=true
  ·rw [BL hc];intro cl C' s₀ H₀ ex;refine ae 2 ⟨_,av,by rw [Aa];exact bH (by omega),⟨_,_,_,rfl⟩,?_⟩;rw [o8,BL hc];exact E7
  ·rw [BK hc];refine⟨⟨_,_,_,rfl⟩,?_⟩;rw [BK hc,Ba]
 ·rintro σ' H' ⟨_,rfl⟩;rw [Aa,mZ,Bm];have p9:=Sg ps ls;exact q D _ _ (s1.trans<|aK hD _) (jD s1 hD) av (k93 fS) (q1f hT fH)<|by omega
abbrev wD(ss:List Str)(x:Lk):Bl:=(x.2.1,x.2.2,decide (x.1∈ss))
abbrev IP:List Str:=["rows","some","links","odds","side"]
abbrev wF:List Str:=["rows","some","links","odds","side","tie","one","other"]
abbrev wG:List Str:=["rows","some","links","odds","side","point"]
def wH:ao IP ["rows","some"] (aP uQ):=⟨rfl,rfl,rfl,by decide +kernel,rfl,by decide +kernel,by decide +kernel⟩
def IQ:wF.Nodup:=by decide +kernel
def q5i:wG.Nodup:=by decide +kernel
def wI:Key->Str
 | Sum.inr z=>z
 | _=>⟨#[]⟩
def jm:V->Bool
 | .bl b=>b
 | _=>false
def aQ(kvs:List<|Key×V):List Str:=(kvs.filter λp=>jm p.2).map λp=>wI p.1
def bW(kvs:List<|Key×V):(aQ kvs).length<=kvs.length:=by
 unfold aQ;rw [Aa];exact Ck _ _
def cJ(kvs:List<|Key×V)(p:Key×V):aQ (kvs++[p])=aQ kvs++(if jm p.2=true then [wI p.1] else []):=by
 unfold aQ;rw [Cp,Ai]
 congr 1
 cases h:jm p.2 <;> simp [h]
def k6e{kvs:List (Key×V)}(hn:(kvs.map (·.1)).Nodup)(ht:∀ k∈kvs.map (·.1),∃ x,k=Sum.inr x)(x:Str):x∈aQ kvs↔al kvs (Sum.inr x)=some (.bl true):=by
 rw [<- vw hn];unfold aQ;rw [Aj]
 constructor
 ·rintro ⟨⟨k,v⟩,hp,rfl⟩;rw [Bk] at hp;obtain⟨y,hy⟩:=ht k<|Aj.mpr ⟨_,hp.1,rfl⟩;have hv:jm v=true:=hp.2;subst hy;cases v with
  | bl b=>
   have:b=true:=hv;subst this;exact hp.1
  | _=>cases hv
 ·intro h;exact⟨_,Bk.mpr ⟨h,rfl⟩,rfl⟩
def k00{kvs:List (Key×V)}(hn:(kvs.map (·.1)).Nodup)(ht:∀ k∈kvs.map (·.1),∃ x,k=Sum.inr x):(aQ kvs).Nodup:=by
 have e:((kvs.filter λp=>jm p.2).map (·.1)).Nodup:=hn.sublist<|List.filter_sublist.map _;unfold aQ;have e2:((kvs.filter λp=>jm p.2).map λp=>wI p.1).map Sum.inr=(kvs.filter λp=>jm p.2).map (λp=>(p.1:Key)):=by
  rw [Ci];refine Cs λp hp=>?_;obtain⟨y,hy⟩:=ht p.1<|Aj.mpr ⟨p,(Bk.mp hp).1,rfl⟩;show Sum.inr (wI p.1)=p.1;rw [hy];rfl
 rw [Bg];have e3:(((kvs.filter λp=>jm p.2).map λp=>wI p.1).map (Sum.inr:Str->Key)).Nodup:=by rw [e2];exact e
 rw [Bg,Cy] at e3;exact e3.imp λh q=>h<|by rw [q]
def q2a{f:Addr}{fd:FuncData}(F:bu K "side_of" "side_of" uQ f fd)(T:Txt mg)
  (GL:aO P w K mg base 2 "links_of" ["rows"] zQ)
  (GS:aO P w K mg base 2 "spread" ["first","links"] IC)
  (GC:aO P w K mg base 2 "cut_of" ["rows","points"] IH) :
  aC P w K mg base bA 3 f fd ["rows","some"] II:=by
 refine F.gb wH (λvs H Q E h=>?_) λb0 H vs Q E hr h=>?_
 ·obtain⟨R,p,as,n,ps,rfl,_⟩:=h;rfl
 obtain⟨R,p,as,n,ss,rfl,hR,hT,wJ,h0,hn,ht,hp,jo,q1,q2⟩:=h;have nd:=wH.nd;have hu:=hr.gq;have cj:=hr.u1;show Run _ _ _ [some<|.ref R,some<|.ref p,none,none,none] H;refine rM 2 (aP uQ) IP wF 3 nd (eg bf) (bG GL hr<|aj<|ae 0<|aA ⟨R,as,n,rfl,hR,hT,by omega,ht,λL us ls H1 s1 n1 eL cA fS fH hlen=>?_⟩);refine⟨L,rfl,⟨_,ai.of eL⟩,λD hD=>?_⟩;have mZ:=cA.1;have tl:=k6x (ss:=ss) hT fH;refine ka (xs:=us.map V.ref) (λi σ' H'=>(∃ v1 v2 v3,σ'=[some<|.ref R,some<|.ref p,none,none,none]++[v1,v2,v3])/\∃ ws:List Addr,ah H1 H'/\H' D=some (.lst<|ws.map V.ref)/\RY H' ws ((ls.take i).map<|wD ss)) ⟨⟨_,_,_,rfl⟩,[],aK hD _,av,rfl,λj u x h=>by simp at h⟩ ?_ ?_ ?_
 ·rintro i σ' H' _ ⟨_,ws,sm,_⟩;exact ai.of<|sm _ _ eL
 ·rintro i x σ' H' hx ⟨⟨v1,v2,v3,rfl⟩,ws,sm,eD,ig⟩;rw [Af,Ap] at hx;obtain⟨u,cj,rfl⟩:=hx;have hi:i < ls.length:=by
   have:=(Ac.mp cj).1;omega
  have oh:ls[i]?=some ls[i]:=Ab hi;have kQ:=sm _ _<|cA.2 i u _ cj oh;have ic:(ls.take<|i+1).map (wD ss)=(ls.take i).map (wD ss)++[wD ss ls[i]]:=by rw [Bx,oh,Ai];rfl
  rw [ic];have lw:ws.length=i:=by
   have:=ig.1;rw [Aa,Bd] at this;omega
  generalize ls[i]=lx at kQ;obtain⟨ti,on,ot⟩:=lx;have oG:=sm _ _<|s1 _ _ hp;intro cl C' s₀ H₀ ex;refine Iz rfl (aM.of kQ) (aW 5 IQ<|aW 6 IQ<|aW 7 IQ ?_);intro cl C' s₀ H₀ ex;refine g7 ?_;rw [BL rfl];intro cl C' s₀ H₀ ex;refine eC<|aj<|ae 6<|aj<|ae 7<|aj<|gY lX<|ae 5<|ae 1 ⟨p,_,rfl,.inl<|ai.of oG,rfl,ke _,aA ⟨Z3,λt dC=>?_⟩⟩;have fF:∀(x y:Bool),(if false=true then x else y)=y:=λ_ _=>rfl;rw [fF,kd,qP];have zu:t≠D:=λe=>by rw [e,eD] at dC;cases dC
  have sT:=aK dC<|.tup [.str on,.str ot,.bl<|decide (ti∈ss)];refine⟨_,sT _ _ eD,by rw [Aa];exact bH (by omega),⟨_,_,_,rfl⟩,ws++[t],db (sm.trans sT) hD,?_,?_,?_⟩
  ·rw [av,Ai];rfl
  ·rw [Ad,Ad,ig.1];rfl
  ·intro j v y h1 h2;have hl:=ig.1
   by_cases hj:j < ws.length
   ·rw [Ao hj] at h1;rw [Ao<|by omega] at h2;have e:=ig.2 j v y h1 h2;rw [au<|bQ (sT _ _ e) (sT _ _ eD) λz=>nomatch z];exact sT _ _ e
   ·rw [Ay<|by omega] at h1 h2;have fD:j - ws.length=0:=by
     have:=(Ac.mp h1).1;simp at this;omega
    rw [fD] at h1;rw [<- hl,fD] at h2;cases h1;cases h2;rw [au zu];exact av
 ·rintro σ' H2 ⟨_,ws,s2,eD,ig⟩;rw [Aa,mZ,Bm] at ig;have mQ:ah H H2:=s1.trans s2;have wK:=hR.same mQ;obtain⟨a0,ea0,qt,sN,Gs,er0⟩:=wK.at h0;have hf:n[0].1=cI n:=(jg h0).symm;show Run _ _ _ [some<|.ref R,some<|.ref p,some<|.ref D,none,none] H2;refine aT 3 nd<|bG GS hr<|aj<|aZ ce<|aZ cv<|ae 0<|aD ⟨R,_,_,.ref a0.1,rfl,rfl,ai.of wK.lst,qt,aD ⟨a0.1,_,_,.str n[0].1,rfl,rfl,aM.of sN,rfl,?_⟩⟩;refine aj (ae 2<|aA ⟨n[0].1,D,ws,ls.map<|wD ss,rfl,eD,ig,by rw [Aa];exact hlen,λd kvs H3 s3 nd3 ed3 I=>?_⟩);rw [hf] at I;have qK:ah H H3:=mQ.trans s3;have se:=k36 hT tl h0 I;have wL:∀ k∈kvs.map (·.1),∃ x,k=Sum.inr x:=λk hk=>(I.txt k hk).imp λx h=>h.1;show Run _ _ _ [some<|.ref R,some<|.ref p,some<|.ref D,some<|.ref d,none] H3;refine aT 4 nd<|bX uJ T.sorted CP<|aj<|gN (aP uQ) IP wG 1 (OY bf)<|ae 3 ⟨d,kvs,rfl,ed3,λob E2 ng=>?_⟩;have nE:E2≠d:=λe=>by rw [e,av] at ng;cases ng
  have IT:H3 E2=none:=by rw [au nE] at ng;exact ng
  have vV:H d=none:=mQ.free nd3;refine OZ (λi σ' H'=>(∃ v,σ'=[some<|.ref R,some<|.ref p,some<|.ref D,some<|.ref d,none]++[v])/\H'=upd (upd H3 d<|.bh ob<|.dK kvs) E2 (Ls<|aQ<|kvs.take i)) ⟨⟨_,rfl⟩,rfl⟩ ?_ ?_ ?_
  ·rintro i σ' H' _ ⟨_,rfl⟩;rw [au<|CG nE,av]
  ·rintro i pr σ' H' nh ⟨⟨v,rfl⟩,rfl⟩;have hm:pr∈kvs:=At nh;have ic:kvs.take (i+1)=kvs.take i++[pr]:=by rw [Bx,nh];rfl
   obtain⟨k,vv⟩:=pr;obtain⟨z,rfl⟩:=wL k<|Aj.mpr ⟨_,hm,rfl⟩;have hv:=(vw I.dB).mp hm;obtain⟨b,rfl,_⟩:=I.val z vv hv;rw [ic,cJ];intro cl C' s₀ H₀ ex;refine aW 5 q5i ?_;intro cl C' s₀ H₀ ex;have dg:aU (upd (upd H3 d<|.bh ob<|.dK kvs) E2<|Ls<|aQ<|kvs.take i) d (kV<|Sum.inr z) (some<|.bl b):=by
    rw [<- hv];exact .inl ⟨kvs,Sum.inr z,.inr ⟨ob,by rw [au<|CG nE,av]⟩,rfl,rfl⟩
   refine iE<|lh<|dX cj<|ae 3<|ae 5 ⟨d,.bl b,rfl,dg,b,rfl,?_⟩;have j6:=Bv (bW<|kvs.take i) (show(kvs.take i).length<=kvs.length by rw [Bd];omega)
   by_cases hb:b=true
   ·rw [BL hb];intro cl C' s₀ H₀ ex;refine ae 5 ⟨_,av,by rw [Aa];exact bH (by omega),⟨_,rfl⟩,?_⟩;rw [o8,BL (show jm (.bl b)=true from hb)];exact E7
   ·rw [BK hb];refine⟨⟨_,rfl⟩,?_⟩;rw [BK (show ¬ jm (.bl b)=true from hb),Ba]
  ·rintro σ' H' ⟨_,rfl⟩;rw [Bm];have j6:=bW kvs;refine aA ⟨E2,_,rfl,ai.of av,by omega,λl sd hl cL qR=>?_⟩;have IU:l≠E2:=λe=>by rw [e,av] at hl;cases hl
   have IY:l≠d:=λe=>by rw [e,au<|CG nE,av] at hl;cases hl
   have zR:H3 l=none:=by rw [au IU,au IY] at hl;exact hl
   have g6:H l=none:=qK.free zR;have IZ:H E2=none:=qK.free IT;have zc:ah H (upd (upd (upd H3 d<|.bh ob<|.dK kvs) E2<|Ls<|aQ kvs) l<|.lst<|sd.map V.str):=λc o' hc=>by
    rw [au<|bd hc g6,au<|bd hc IZ,au<|bd hc vV];exact qK _ _ hc
   have Ja:(upd (upd (upd H3 d<|.bh ob<|.dK kvs) E2<|Ls<|aQ kvs) l<|.lst<|sd.map V.str) l=some (Ls sd):=av;show Run _ _ _ [some<|.ref R,some<|.ref p,some<|.ref D,some<|.ref d,some<|.ref l] (upd (upd (upd H3 d<|.bh ob<|.dK kvs) E2<|Ls<|aQ kvs) l<|.lst<|sd.map V.str);generalize upd (upd (upd H3 d<|.bh ob<|.dK kvs) E2<|Ls<|aQ kvs) l (.lst<|sd.map V.str)=H4 at zc Ja ⊢;have qS:cB sd:=sJ qR<|cL.nodup_iff.mpr<|k00 I.dB wL;have key:=k06 hT wJ h0 tl I qS λx=>by rw [cL.mem_iff];exact k6e I.dB wL x
   refine bL<|Xn<|cz (yo hu)<|bG GC hr<|aj<|ae 0<|aj<|ae 4<|aA ⟨R,l,as,n,sd,rfl,hR.same zc,hT,hn,ht,Ja,λL5 cs H5 s5 n5 e5 tf m5 l5=>?_⟩;have sX:=zc.trans s5;refine ae 1 ⟨1,_,by omega,k8c e5<|sX _ _ hp,_,rfl,?_⟩
   by_cases eG:cs=ss
   ·rw [BL<|BW eG];exact ae 4<|q1 l sd H5 sX g6 (s5 _ _ Ja)<|key.1 λz=>by rw [<- eG];exact m5 z
   ·rw [BK λh=>eG<|BX h];refine mj<|q2 H5 sX λjA fb=>?_;have e:=key.2 jA fb;subst e;exact eG<|y7 tf jo λz=>(m5 z).trans (fb.cut z).symm
end
end Q2
namespace L2
open PySem PySem.Spec PyProof.Rows bU
section
variable{prog:Program}{w:World}{A:Around}{E:Value->Shared->Prop}{s:Shared}{T:String}{r d:Addr}{n:Nat}{P:Nat->Value->Prop}{OK:Heap->Prop}
def k03{R:List Value->Shared->Prop}(K:PySem.W.KdlSrc prog w T r d n P OK)(hh:A.handled=none)(aB:OK s.heap)(hn:n<=sizeLine)
  (h:∀(h':Heap) (tk:Nat) (acc:Array Value),(∀ b o,s.heap.get? b=some o->h'.get? b=some o)->s.heap.objs.size < h'.objs.size->ItemsOf P acc n->R acc.toList {s with heap:=h',toks:=tk}) :
  wpAny (model prog w) A (collect<|.ref r) R E s:=by
 obtain⟨l1,l2⟩:=K.there _ aB;unfold collect;refine BJ<|wpAny_runValue<|FW F.entry_proto_collect ?_;rw [FT F.plain_proto_collect _];show wpAny _ A.in1 (newList [] >>= λl=>again<|.builtin "list.__iadd__" ⟨[l,.ref r],[]⟩) _ _ s;refine BJ<|HN ?_;refine BP ⟨JL KN _,FW F.entry_list_iadd ?_⟩;rw [FT KN _];generalize hL:s.heap.objs.size=L at *;have hS:(s.heap.push {cls:= .type "list",data:= .seq ([]:List Value).toArray}).get? L=some {cls:= .type "list",data:= .seq #[]}:=by rw [<- hL];exact Aq _ rfl
 show wpAny _ A.in1 (Builtin.List.listExtendWith (.ref L) (.ref r)<|.ref L) _ _ _;refine CK (PySem.W.kdl_extend (A:=A) (s:={s with heap:=s.heap.push {cls:= .type "list",data:= .seq ([]:List Value).toArray}})
  (R:=λ(q:Result) (s':Shared)=>∃(h':Heap) (tk:Nat) (acc:Array Value) (c:Nat),q = .ok (.ret<|.ref L)/\s'={s with heap:=h',toks:=tk}/\(∀ b o,s.heap.get? b=some o->h'.get? b=some o)/\h'.get? L=some {cls:= .type "list",dict:=none,data:= .seq acc c,slots:=#[]}/\ItemsOf P acc n)
  K hh (K.keep _ _ aB λb _ o e=>Ae _ e) L (Cm l1) (Cm l2) (.ref L) 0 hS
  (λh' tk acc c hk lz fI=>⟨h',tk,acc,c,rfl,rfl,λb o e=>hk b o (by rw [<- hL];exact Bn<|Ar e)<|Ae _ e,lz,fI⟩) hn) (λfin s' x=>?_) λe s' x=>?_
 ·cases fin with
  | done f=>
   obtain⟨h',tk,acc,c,e,rfl,hk,lz,fI⟩:=x;cases e;show wpAny _ A (load L >>= _) _ _ _;exact BJ<|wpAny_load lz<|BP<|h h' tk acc hk (Ar lz) fI
  | again c₁=>
   refine⟨x.1,JG x.2 λq s₂ y=>?_⟩;obtain⟨h',tk,acc,c,rfl,rfl,hk,lz,fI⟩:=y;show wpAny _ A (load L >>= _) _ _ _;exact BJ<|wpAny_load lz<|BP<|h h' tk acc hk (Ar lz) fI
 ·obtain⟨_,_,_,_,e',_⟩:=x;cases e'
end
section
variable{X:Cx}
theorem k5a:∀{zs:List Str} {us:List Value},us.length=zs.length->(∀(j:Nat) u,us[j]?=some u->∃ z t,zs[j]?=some z/\u=Value.str z t)->StrsAre us zs:=by
 intro zs
 induction zs with
 | nil=>
  intro us h _;cases us with
  | nil=>exact .nil
  | cons a r=>cases h
 | cons z r ih=>
  intro us h g;cases us with
  | nil=>cases h
  | cons u q=>
   obtain⟨z',t,e,rfl⟩:=g 0 u rfl;simp only [RL,Option.some.injEq] at e;subst e;exact .cons z t<|ih (by simpa using h) λj u hu=>by simpa using g (j+1) u (by simpa using hu)
def j5x(hc:X.calm=true):fv X (.builtin "sorted") (λxs H Q=>∃ a kvs zs,xs=[.ref a]/\Rd H a (.dK kvs)/\kvs.map (·.1)=zs.map Sum.inr/\zs.length < 64/\∀ l ss,H l=none->ss.Perm zs->sortedS ss=true->Q (.ref l) (upd H l<|.lst<|ss.map V.str)):=by
 intro pins s σ H xs us Q I r h;obtain⟨a,kvs,zs,rfl,hH,hk,mB,q⟩:=h;obtain⟨u,rfl,ru⟩:=vals1 r;cases (show u=Value.ref a from ru);obtain⟨z,hd,vs,rel,dd⟩:=rC I.aB hH;obtain⟨ep,da⟩:=dd.dictAt;have hl:=rel.length;have Si:vs.length=zs.length:=by
  have:=BZ List.length hk;rw [Aa,Aa] at this;omega
 refine JQ kind_sorted plain_sorted entry_sorted (args_sorted1 _) ?_;unfold Builtin.«sorted»;refine BJ (m:=checkCount "sorted" 1 1 _)<|BP ?_;refine BJ (k03 (A:=X.A.in1) (PySem.W.kdl_dict (knd:=dh X.prog X.w) (kvs:=vs) (ep:=ep) hd) (I.ok.hd hc) da (by omega) λh' tk acc hkp hgr fI=>?_);have hS:StrsAre acc.toList zs:=k5a (by rw [Ch,fI.1];exact Si) λj u hu=>by
  obtain⟨k,x,e,g⟩:=fI.2 j u (by rw [<- Bo];exact hu);have e2:(kvs.map (·.1))[j]?=some k:=by rw [rel.keys,Af,e];rfl
  rw [hk,Af,Ap] at e2;obtain⟨zz,hz,rfl⟩:=e2;obtain⟨t,et⟩:∃ t,u=Value.str zz t:=OU g;exact⟨zz,t,hz,et⟩
 have hlen:acc.toList.length=zs.length:=by rw [Ch,fI.1];exact Si
 refine BJ (HN ?_<|by rw [hlen];exact mv<|by omega);have gI:(h'.push<|seqObj "list" acc.toList.toArray 0).get? h'.objs.size=some (seqObj "list" acc.toList.toArray 0):=Aq _ rfl;have hsz:s.heap.objs.size<=h'.objs.size:=Bw hgr;refine BJ (CJ<|CV slot_list_sort ⟨_,gI,rfl⟩ entry_list_sort (list_sort_treeK strKind_oneLt gI hS.keysOf (λv₁ v₂ rest e=>keyKind_strs<|by rw [<- e];exact hS) (by rw [hlen];exact mB) λcY a1 a2=>⟨_,rfl,?_⟩)<|args_list_sort _);obtain⟨ss,q1,q2,q3⟩:=sorted_out_str hS a1 a2;obtain⟨e,he⟩:=sortedHeap_at (out:=(arrOf cY).map (·.2)) gI;have hls:ss.length<=sizeLine:=by rw [q2.length_eq];exact mv<|by omega
 refine BP ⟨_,rfl,.ref _,_,I.fc (a:=h'.objs.size) (o:= .lst<|ss.map V.str) (λb u hb=>?_) rfl rfl hsz ⟨by rw [Aa];exact hls,_,e,ym q1,he⟩,rfl,q _ ss (I.aB.fresh hsz) q2 q3⟩;have jy:=hkp b u hb;have aX:=Ar jy;show(sortedHeap (h'.push _) h'.objs.size _ _).get? b=some u;rw [sortedHeap_old (Bn aX)<|by rw [size_push'];exact Cn aX];exact Ae _ jy
end
end L2
namespace L2
open PySem PySem.Spec PyProof.Rows
section
def Jb(K:PySem.W.Frag)(l:Addr):It:=
  ⟨λi H => ∃ xs x, ai K H l xs ∧ xs[i]? = some x,
   λi H v H'=>∃ T x,H T=none/\v = .ref T/\H'=upd H T (.tup [.int (i:Int),x])/\∀ xs,ai K H l xs->xs[i]?=some x,
   λi H=>∃ xs,ai K H l xs/\xs.length<=i⟩
def q8k(m l:Addr)(i:Nat)(h:Heap):Prop:=(∃ old,IsEnum h (m+1) m (i:Int) old)/\h.IsListIter m l i
def k5z{P:Program}{w:World}{K:PySem.W.Frag}{elts:List Expr}{k:Nat}{tp:Pos}(m l:Addr):Turn P w K (.Tuple elts k tp) (Jb K l) [m,m+1] (m+1) (q8k m l) where
 mem:=by simp
 obj:=λi h st c hc=>by
  obtain⟨⟨old,z1⟩,⟨o4,e4,c4,d4⟩⟩:=st;simp only [Al,By,FN] at hc
  rcases hc with rfl | rfl
  ·exact⟨_,e4,λv z=>by rw [d4] at z;cases z⟩
  ·exact⟨_,z1,λv z=>by cases z⟩
 keep:=λi h h' st kp=>by
  obtain⟨⟨old,z1⟩,⟨o4,e4,r4⟩⟩:=st;exact⟨⟨old,kp _ (by simp) _ z1⟩,⟨o4,kp _ (by simp) _ e4,r4⟩⟩
 item:=by
  intro X hP hw hK hc i pins s σ H E I hf st hg;subst hP hw hK;obtain⟨xs,x,eV,hx⟩:=hg;obtain⟨kg,mE,p1,qb⟩:=I.list eV;obtain⟨u1,cj,FX⟩:=mE.get hx;obtain⟨⟨old,z1⟩,z4⟩:=id st;refine wpAny_pyNext_enum_item z1 z4 p1.isList (x:=u1) (by simpa using cj) (by simp) λh' a1 a2 a3 a4 kp=>?_;have hT:H s.heap.objs.size=none:=I.aB.fresh<|Am _;have nT:∀ c∈[m,m+1],c≠s.heap.objs.size:=λc bj=>by
   have:∃ o,s.heap.get? c=some o:=by
    obtain⟨o4,e4,_⟩:=z4;simp only [Al,By,FN] at bj
    rcases bj with rfl | rfl
    ·exact⟨_,e4⟩
    ·exact⟨_,z1⟩
   obtain⟨o,e⟩:=this;exact Bn<|Ar e
  have I1:Inv X pins σ (upd H s.heap.objs.size<|.tup [.int (i:Int),x]) {s with heap:=s.heap.push {cls:= .type "tuple",data:= .seq #[.int i s.toks,u1]},toks:=s.toks+1}:=
   I.laid (t':=s.toks+1) (λb o e=>Ae _ e) (Am _) (show az X.prog X.w _ _ _ (.tup [.int (i:Int),x]) from⟨Z2,[.int i s.toks,u1],.cons ⟨_,rfl⟩<|.cons FX .nil,⟨_,Aq _ rfl,rfl,_,rfl⟩⟩)
  have f1:∀ c∈[m,m+1],cb X pins (upd H s.heap.objs.size<|.tup [.int (i:Int),x]) c:=λc bj=>⟨by rw [au<|nT c bj];exact(hf c bj).1,(hf c bj).2⟩;have pO:∀ c o,c∉[m,m+1]->(s.heap.push {cls:= .type "tuple",data:= .seq #[.int i s.toks,u1]}).get? c=some o->h'.get? c=some o:=λc o bj e=>by
   rcases Ga e with ⟨ec,eo⟩ | e'
   ·rw [ec,eo];exact a3
   ·simp only [Al,By,FN,not_or] at bj;exact kp c o bj.2 bj.1 e'
  have I2:=Inv.bF (h':=h') (t':=s.toks+1) I1 f1 pO;refine⟨_,rfl,wpAny_letOwnedTupleGo_enum (s:={s with heap:=h',toks:=s.toks+1}) a1 λh2 b1 sb=>?_⟩;have yP:∀ c o,c∉[m+1]->h'.get? c=some o->h2.get? c=some o:=λc o bj e=>(sb.2 c<|by simpa using bj).trans e;have I3:=Inv.bF (h':=h2) (t':=s.toks+1) I2 (ch:=[m+1]) (λc bj=>f1 c<|by simp at bj;simp [bj]) yP;refine⟨.ref s.heap.objs.size,_,I3,rfl,⟨_,x,hT,rfl,rfl,λzs hz=>by rw [I.cM hz eV];exact hx⟩,?_,λc bj=>(f1 c bj).1⟩;obtain⟨o3,e3,r3⟩:=a2;exact⟨⟨u1,b1⟩,⟨o3,yP _ _ (by simp) e3,r3⟩⟩
 done:=by
  intro X hP hw hK hc i pins s σ H E I hf st hg;subst hP hw hK;obtain⟨xs,eV,va⟩:=hg;obtain⟨kg,mE,p1,qb⟩:=I.list eV;have l1:=mE.length;obtain⟨⟨old,z1⟩,z4⟩:=id st;refine wpAny_pyNext_enum_end (I.ok.hd hc) z1 z4 p1.isList (by simp;omega) λh' kp=>⟨rfl,I.bF (t':=s.toks) (ch:=[m,m+1]) hf λc o bj e=>?_⟩;simp only [Al,By,FN,not_or] at bj;exact kp c o bj.1 e
 self:=λ_ _ _ _ _ st h=>by
  obtain⟨⟨old,z1⟩,_⟩:=st;exact wpAny_pyIter_enum z1 h
end
section
variable{X:Cx}
def q9a(K:PySem.W.Frag)(ta:TA):TI:=λσ H R=>ta σ H λvs H1=>∃ a,vs=[.ref a]/\(∃ xs,ai K H1 a xs)/\R (Jb K a) H1
def q42{elts:List Expr}{k:Nat}{tp:Pos}{a:Expr}{ta:TA}{p pos:Pos}(hg:Gl X "enumerate")(hm:X.mg "enumerate" = none)(ha:PA X [a] ta)(hs:starEach [a] X.env=[(false,eval a X.env)]:=by rfl) :
  PI X (.Tuple elts k tp) (.Call (.Name "enumerate" p) [a] [] pos) (q9a X.K ta):=by
 intro pins s σ H R I h;refine Call_<|nI I hg hm boot_enumerate<|GZ (aF (ha pos pins s σ H _ I h) λus s1 ⟨vs,H1,I1,r1,q1⟩=>?_) hs rfl;obtain⟨x,e,⟨xs,hx⟩,q⟩:=q1;subst e;obtain⟨u,rfl,ru⟩:=r1.one;cases (show u=Value.ref x from ru);obtain⟨kg,mE,p1,qb⟩:=I1.list hx;refine call_enumerate_list p1.isList λh' a1 a2 a3 kp=>?_;refine wpAny_pyIter_enum (s:={s1 with heap:=h'}) a1 ?_;refine⟨s1.heap.objs.size+1,[s1.heap.objs.size,s1.heap.objs.size+1],_,_,H1,rfl,I1.kept (t':=s1.toks) kp,k5z s1.heap.objs.size x,⟨⟨_,a1⟩,a2⟩,λb hb=>?_,q⟩;have hle:s1.heap.objs.size<=b:=by
  simp only [Al,By,FN] at hb
  rcases hb with rfl | rfl <;> omega
 exact I1.fX hle<|I1.aB.fresh hle
theorem Sj(z:Str):∀ zs:List Str,countIn (.str z) (zs.map PyData.str)=(zs.count z:Int)
 | []=>rfl
 | y :: r=>by
  rw [Bh,countIn,Sj z r,Dh];simp only [same]
  rcases Bool.eq_false_or_eq_true (y == z) with hb | hb <;> simp only [hb,Bu,DN,DQ] <;> push_cast <;> omega
def q6u(K:PySem.W.Frag):V->List V->Hp->VK->Prop:=λx vs H Q=>∃(l:Addr) (zs:List Str) (z:Str),x = .ref l/\vs=[.str z]/\ai K H l (zs.map V.str)/\Q (.int (zs.count z:Int)) H
def Sl:nO X "list.count" (q6u X.K):=by
 intro pins s σ H x vs v us Q I rx rv h;obtain⟨l,zs,z,rfl,rfl,hH,q⟩:=h;cases rx;obtain⟨u,rfl,ru⟩:=rv.one;obtain⟨tk,rfl⟩:=ru;obtain⟨its,r,pl,hz⟩:=I.list hH;refine count_list_strs pl.isList (D5 r) ?_;rw [Sj];exact⟨.int (zs.count z:Int),H,I.tok _,⟨_,rfl⟩,q⟩
end
section
variable{X:Cx}{σ:St}{H:Hp}{D:Ends}{body:List Stmt}
def q5y(tl:TE):TI:=λσ H R=>tl σ H λx H1=>∃ d o kvs,x = .ref d/\H1 d=some (.bh o<|.dK kvs)/\R (uW d o kvs) H1
def Sn{tg l:Expr}{tl:TE}(hl:PE X l tl):PI X tg l (q5y tl):=by
 intro pins s σ H R I h;refine aF (hl pins s σ H _ I h) λv s1 ⟨x,H1,I1,r1,q1⟩=>?_;obtain⟨d,o,kvs,e,hH,q⟩:=q1;subst e;cases (show v=Value.ref d from r1);obtain⟨ho,z,mD,vs,rel,dd⟩:=(show az X.prog X.w H1 s1.heap d (.bh o<|.dK kvs) from I1.aB d _ hH);obtain⟨ep,o',es,dH,r1,r2,r3⟩:=dd.dictAt;have:o=o':=Option.some.inj<|ho.symm.trans dH;subst this;refine wpAny_pyIter_dict mD ⟨o,es,dH,r1,r2,r3⟩ ?_;refine⟨s1.heap.objs.size,[s1.heap.objs.size],_,_,_,rfl,I1.kept (t':=s1.toks) λb o e=>Ae _ e,OX d _ o es ep kvs r2,⟨_,Aq _ rfl,rfl,by rw [rel.length];rfl⟩,λb hb=>?_,q⟩;have e:b=s1.heap.objs.size:=by simpa using hb
 subst e;exact I1.fX (Am _)<|I1.aB.fresh<|Am _
def Sq{tg:Expr}{d:Addr}{o:Obj}{kvs:List (Key×V)}{after:St->Hp->Prop}(Pv:Nat->St->Hp->Prop)(h0:Pv 0 σ H)(hl:∀ i σ H,i<=kvs.length->Pv i σ H->H d=some (.bh o<|.dK kvs))
  (hs:∀ i p σ H,kvs[i]?=some p->Pv i σ H->Eg X tg (kV p.1) σ H λσ2 H2=>Run X body {D with nx:=Pv<|i+1,ct:=Pv<|i+1,bk:=after} σ2 H2) (hd:∀ σ H,Pv kvs.length σ H->after σ H):Loop X tg body (uW d o kvs) D after σ H:=by
 refine⟨λi m σ H=>m=kvs.length - i/\i<=kvs.length/\Pv i σ H,⟨kvs.length,by simp,Bp _,h0⟩,?_⟩;rintro i m σ H ⟨rfl,hi,p⟩;have q:=hl i σ H hi p
 by_cases aX:i < kvs.length
 ·refine .inr ⟨⟨q,aX⟩,Pv<|i+1,λσ' H' p'=>⟨kvs.length - (i+1),by omega,rfl,aX,p'⟩,λx H' y=>?_⟩;obtain⟨e,p',ep,y⟩:=y;subst e y;exact hs i p' σ _ ep p
 ·have e:i=kvs.length:=by omega
  subst e;exact .inl ⟨⟨q,Am _⟩,hd σ H p⟩
end
end L2
namespace Q2
open PySem L2 Nt bB
open PyProof.Rows (sortedS)
open Classical
def tj:Sp:=λvs H Q _=>∃(R a:Addr) (as:List<|Addr×Addr) (n:Net) (ss:List Str),vs=[.ref R,.ref a]/\ak H R as n/\n.length<=60/\(ag n).length<=1000/\H a=some (Ls ss)/\∀ H',ah H H'->Q (.bl<|fC n ss) H'
def cf(n:Net)(ss:List Str):Prop:=fC n ss=true/\∃ sd,bx n ss sd
noncomputable def Jc:Sp:=λvs H Q _=>∃(R p:Addr) (as:List<|Addr×Addr) (n:Net) (ss:List Str),vs=[.ref R,.ref p]/\ak H R as n/\aw n/\cm n/\0 < n.length/\n.length<=60/\(ag n).length<=60/\H p=some (Ls ss)/\cB ss/\∀ H',ah H H'->Q (.bl<|decide (cf n ss)) H'
section
variable{P:Program}{w:World}{K:PySem.W.Frag}{mg:Str->Option Value}{base:Heap}
def k6p(n:Net)(ss:List Str)(r:Str×List Str):fC (n++[r]) ss=(fC n ss && ((r.2.filter λz=>ss.contains z).length % 2 == 0)):=by
 unfold fC;rw [List.all_append];simp
theorem k9b{n:Net}{ss:List Str}{i:Nat}(hi:i < n.length)(h:¬((row n i).filter λz=>ss.contains z).length % 2=0):fC n ss=false:=by
 cases e:fC n ss with
 | false=>rfl
 | true=>
  unfold fC at e;have:=Dj.mp e n[i]<|Bs hi;rw [JX,<- jd hi] at this;exact absurd this h
def q3c{X:Cx}{a:Expr}{pos:Pos}{σ:St}{H:Hp}{Q:VK}(h:Ev X a σ H λx H1=>∃ k,lU X.K x H1 k/\Q (.bl (!k)) H1):Ev X (.UnaryOp .Not a pos) σ H Q:=by
 refine⟨λpins s I=>PyProof.Rows.UnaryOp_<|aF (h.run pins s I) λv s1 ⟨x,H1,I1,r1,k,tk,q1⟩=>?_⟩;exact PyProof.Rows.not_of<|aF (Mx pins s1 σ H1 x v (λc H2=>Q (.bl (!c)) H2) I1 r1 ⟨k,tk,q1⟩) λc s2 ⟨H2,I2,q2⟩=>⟨.bl (!c),H2,I2,rfl,q2⟩
def jq(ss:List Str)(r:Str×List Str):Bool:=(r.2.filter λz=>ss.contains z).length % 2 == 0
def Jd:Sp:=λvs H Q _=>∃(R a:Addr) (as:List<|Addr×Addr) (n:Net) (ss:List Str),vs=[.ref R,.ref a]/\ak H R as n/\n.length<=60/\(ag n).length<=1000/\H a=some (Ls ss) /\
 ∀(L:Addr) (zs:List Str) (H':Hp),ah H H'->H L=none->H' L=some (Ls zs)->zs.Perm ((n.filter λr=>!jq ss r).map (·.1))->Q (.ref L) H'
abbrev NR:List Str:=["rows","some"]
abbrev Je:List Str:=["rows","some","point","ties"]
abbrev Sr:List Str:=["rows","some","point","ties","tie"]
def q7w:ao NR ["rows","some"] (aP hG):=⟨rfl,rfl,rfl,by decide +kernel,rfl,by decide +kernel,by decide +kernel⟩
def q89:ao NR ["rows","some"] (aP pT):=⟨rfl,rfl,rfl,by decide +kernel,rfl,by decide +kernel,by decide +kernel⟩
def wM:Je.Nodup:=by decide +kernel
def q9w:Sr.Nodup:=by decide +kernel
def q90:Scope:=match gL hG with
 | [.Return (some<|.Call _ [.ListComp _ _ sc _] _ _) _]=>sc
 | _=>aP hG
def Jf:Scope:=relabel q90<|PyProof.Rows.envOfC "odd_points" (aP hG) 0 0 .none
def q53{f:Addr}{fd:FuncData}(F:bu K "odd_points" "odd_points" hG f fd)(T:Txt mg):aC P w K mg base bA 1 f fd ["rows","some"] Jd:=by
 refine F.gb q7w (λvs H Q E h=>?_) λb0 H vs Q E hr h=>?_
 ·obtain⟨R,a,as,n,ss,rfl,_⟩:=h;rfl
 obtain⟨R,a,as,n,ss,rfl,hR,hn,ht,ha,q⟩:=h;have bY:=hR.len;show Run _ _ _ [some<|.ref R,some<|.ref a] H;refine bL<|bX uJ T.sorted CP<|aj<|gN (aP hG) NR Je 2 (eg bf)<|ae 0 ⟨R,rfl,⟨_,ai.of hR.lst⟩,λD hD=>?_⟩;refine ka (xs:=as.map λa=>V.ref a.1) (λi σ' H'=>(∃ v1 v2,σ'=[some<|.ref R,some<|.ref a]++[v1,v2])/\H' D=some (.lst<|((n.take i).filter λr=>!jq ss r).map λr=>V.str r.1)/\ah H H') ⟨⟨none,none,rfl⟩,av,aK hD _⟩ ?_ ?_ ?_
 ·rintro i σ' H' _ ⟨_,_,sm⟩;exact ai.of<|sm _ _ hR.lst
 ·rintro i x σ' H' hx ⟨⟨v1,v2,rfl⟩,eD,sm⟩;have hi:i < n.length:=by
   have:=(Ac.mp hx).1;rw [Aa] at this;omega
  obtain⟨b,eb,eR,et,el,er⟩:=(hR.same sm).at hi;rw [Af,eb] at hx;cases hx;have jB:(row n i).length<=1000:=Bv (jb n i) ht;have lI:n.take (i+1)=n.take i++[n[i]]:=by rw [Bx,Ab hi];rfl
  intro cl C' s₀ H₀ ex;refine iO rfl (aM.of et) (aW 2 wM<|aW 3 wM ?_);intro cl C' s₀ H₀ ex;refine iE<|cz i0<|aY cO<|bX eB T.len DR<|aj<|gN Jf Je Sr 1 (eg bf)<|ae 3 ⟨b.2,rfl,⟨_,ai.of el⟩,λD2 gW=>?_⟩;refine rX (σ:=[some<|.ref R,some<|.ref a,some<|.str n[i].1,some<|.ref b.2]) (λz=>ss.contains z) (bH<|by omega) el gW (λcl C s₀ H₀ ex v v0 H' R' h=>aW 4 q9w h) (λcl C s₀ H₀ ex z ys T' h=>?_) (λcl C s₀ H₀ ex z H' R' h=>ae 4 h) ?_
  ·refine iE (cz lX<|ae 4<|ae 1 ⟨a,_,rfl,.inl (ai.of<|by rw [au<|bd (sm _ _ ha) gW];exact sm _ _ ha),rfl,ke _,_,rfl,?_⟩);show T' (nN (.str z)<|ss.map V.str) _;rw [kd];exact h
  ·have nDD:D≠D2:=bd eD gW;have s2:=aK gW<|.lst<|((row n i).filter λz=>ss.contains z).map V.str;refine aA ⟨D2,_,rfl,.inl<|ai.of av,aD ⟨_,_,rfl,rfl,(by show(0:Int) < 2;decide),aD ⟨rfl,_,rfl,?_⟩⟩⟩;have ek:decide (V.int ((((((row n i).filter λz=>ss.contains z).map V.str).length:Nat):Int) % 2)=V.int 1) = !jq ss n[i]:=by
    unfold jq;rw [Aa,er]
    by_cases hc:(n[i].2.filter λz=>ss.contains z).length % 2=0
    ·rw [BR (λh=>by have:=V.int.inj h;omega),beq_iff_eq.mpr hc];rfl
    ·rw [BW (BZ V.int<|by omega),beq_eq_false_iff_ne.mpr hc];rfl
   show if decide (V.int ((((((row n i).filter λz=>ss.contains z).map V.str).length:Nat):Int) % 2)=V.int 1)=true then _ else _;rw [ek];refine gg (λc=>?_) λc=>?_
   ·intro cl C' s₀ H₀ ex;refine ae 2 ⟨_,s2 _ _ eD,?_,⟨_,_,rfl⟩,?_,db (sm.trans s2) hD⟩
    ·rw [Aa];refine bH<|Bv (Ck ..) ?_;rw [Bd];omega
    ·rw [av,lI,Cp,Ai];have:[n[i]].filter (λr=>!jq ss r)=[n[i]]:=by rw [RM<|by simpa using c];rfl
     rw [this];rfl
   ·refine⟨⟨_,_,rfl⟩,?_,sm.trans s2⟩;rw [lI,Cp];have:[n[i]].filter (λr=>!jq ss r)=[]:=by rw [List.filter_cons_of_neg<|by simpa using c];rfl
    rw [this,Ba];exact s2 _ _ eD
 ·rintro σ' H' ⟨_,eD,sm⟩;rw [Aa,bY,Bm] at eD;have e2:((n.filter λr=>!jq ss r).map λr=>V.str r.1)=(((n.filter λr=>!jq ss r).map (·.1)).map V.str):=by rw [Ci];rfl
  rw [e2] at eD;refine aA ⟨D,_,rfl,ai.of eD,?_,λl zs hl hp _=>?_⟩
  ·rw [Aa];exact Nat.lt_of_le_of_lt (Ck ..)<|by omega
  ·exact q l zs _ (sm.trans<|aK hl _) (jD sm hl) av hp
def q6l{f:Addr}{fd:FuncData}(F:bu K "is_round" "is_round" pT f fd)(T:Txt mg)
  (G:aO P w K mg base 1 "odd_points" ["rows","some"] Jd):aC P w K mg base bA 2 f fd ["rows","some"] tj:=by
 refine F.gb q89 (λvs H Q E h=>?_) λb0 H vs Q E hr h=>?_
 ·obtain⟨R,a,as,n,ss,rfl,_⟩:=h;rfl
 obtain⟨R,a,as,n,ss,rfl,hR,hn,ht,ha,q⟩:=h;show Run _ _ _ [some<|.ref R,some<|.ref a] H;refine bL<|q3c<|bG G hr<|aj<|ae 0<|aj<|ae 1<|aA ⟨R,a,as,n,ss,rfl,hR,hn,ht,ha,λL zs H' s' nL eL hp=>?_⟩;refine⟨_,Or.inl ⟨_,ai.of eL,rfl⟩,?_⟩;have e:(!(!(zs.map V.str).isEmpty))=fC n ss:=by
  rw [Bool.not_not];have e1:(zs.map V.str).isEmpty=(n.filter λr=>!jq ss r).isEmpty:=by
   have hl:=hp.length_eq;rw [Aa] at hl;have e0:∀{α β:Type} (x:List α) (y:List β),x.length=y.length->x.isEmpty=y.isEmpty:=λx y h=>by cases x <;> cases y <;> simp_all
   exact e0 _ _<|by rw [Aa];exact hl
  rw [e1];unfold fC;cases h1:(n.filter λr=>!jq ss r).isEmpty with
  | true=>
   have h2:=List.isEmpty_iff.mp h1;refine(Dj.mpr λr hr=>?_).symm;have:=Dx.mp h2 r hr
   simpa [jq] using this
  | false=>
   cases h3:n.all λr=>(r.2.filter λz=>ss.contains z).length % 2 == 0 with
   | false=>rfl
   | true=>
    exfalso
    have h4:(n.filter λr=>!jq ss r)=[]:=Dx.mpr λr hr=>by
     have:=Dj.mp h3 r hr;unfold jq;rw [this];simp
    rw [h4] at h1;cases h1
 rw [e];exact q H' s'
def Jg:ao ["rows","some"] ["rows","some"] (aP EL):=⟨rfl,rfl,rfl,by decide +kernel,rfl,by decide +kernel,by decide +kernel⟩
theorem q5v{f:Addr}{fd:FuncData}(F:bu K "is_double" "is_double" EL f fd)(T:Txt mg)
  (GQ:aO P w K mg base 3 "is_round" ["rows","some"] tj)
  (GI:aO P w K mg base 3 "side_of" ["rows","some"] II) :
  aC P w K mg base bA 4 f fd ["rows","some"] Jc:=by
 refine F.gb Jg (λvs H Q E h=>?_) λb0 H vs Q E hr h=>?_
 ·obtain⟨R,p,as,n,ss,rfl,_⟩:=h;rfl
 obtain⟨R,p,as,n,ss,rfl,hR,hT,wJ,h0,hn,ib,hp,so,q⟩:=h;show Run _ _ _ [some<|.ref R,some<|.ref p] H;refine bL (C8<|bG GQ hr<|aj<|ae 0<|aj<|ae 1<|aA ⟨R,p,as,n,ss,rfl,hR,hn,by omega,hp,λH1 s1=>⟨_,rfl,?_⟩⟩);cases m6:fC n ss with
 | false=>
  rw [BK<|by decide];have e:decide (cf n ss)=false:=BR λk=>by rw [k.1] at m6;cases m6
  rw [<- e];exact q H1 s1
 | true=>
  rw [BL rfl];refine Np<|gY VZ<|bG GI hr<|aj<|ae 0<|aj<|ae 1<|aA ⟨R,p,as,n,ss,rfl,hR.same s1,hT,wJ,h0,hn,ib,s1 _ _ hp,so,λL sd H2 s2 n2 e2 qS=>mj ⟨rfl,?_⟩,λH2 s2 Jh=>mj ⟨rfl,?_⟩⟩
  ·have e:decide (cf n ss)=true:=BW ⟨m6,sd,qS⟩;rw [BR (λk=>by cases k),TJ,<- e];exact q H2<|s1.trans s2
  ·have e:decide (cf n ss)=false:=BR λk=>by
    obtain⟨_,sd,qS⟩:=k;exact Jh sd qS
   rw [BW rfl,Fj,<- e];exact q H2<|s1.trans s2
open PyProof.Rows (sortedS)
def zS:Sp:=λvs H Q _=>∃(a b:Addr) (xs ys:List Str),vs=[.ref a,.ref b]/\H a=some (Ls xs)/\H b=some (Ls ys)/\xs.length+ys.length < 64/\xs.Nodup/\ys.Nodup /\
 ∀ l ss H',ah H H'->H l=none->H' l=some (Ls ss)->cB ss->(∀ z,z∈ss↔(if z∈xs then z∉ys else z∈ys))->Q (.ref l) H'
abbrev Ss:List Str:=["_law_rows","_law_some","_law_point","_law_names_here"]
abbrev wN:List Str:=["_law_rows","_law_some","_law_point","_law_names_here","_law_tie"]
def wO:ao Ss ["_law_rows","_law_some"] (aP yJ):=⟨rfl,rfl,rfl,by decide +kernel,rfl,by decide +kernel,by decide +kernel⟩
def q9z:wN.Nodup:=by decide +kernel
def q43{f:Addr}{fd:FuncData}(F:bu K "_law_even" "_law_even" yJ f fd)(T:Txt mg):aC P w K mg base bA 1 f fd ["_law_rows","_law_some"] tj:=by
 refine F.gb wO (λvs H Q E h=>?_) λb0 H vs Q E hr h=>?_
 ·obtain⟨R,a,as,n,ss,rfl,_⟩:=h;rfl
 obtain⟨R,a,as,n,ss,rfl,hR,hn,ht,ha,q⟩:=h;have nd:=wO.nd;have bY:=hR.len;show Run _ _ _ [some<|.ref R,some<|.ref a,none,none] H;refine jU<|ae 0 ⟨R,rfl,⟨_,ai.of hR.lst⟩,jV (xs:=as.map λa=>V.ref a.1) (λi σ H3=>ah H H3/\fC (n.take i) ss=true/\∃ u v,σ=[some<|.ref R,some<|.ref a,u,v]) ⟨ah.refl H,rfl,_,_,rfl⟩ ?_ ?_ ?_⟩
 ·rintro i σ H3 _ ⟨sm,_,_,_,_⟩;exact ai.of<|sm _ _ hR.lst
 ·rintro i x σ H3 hx ⟨sm,ev,u,v,rfl⟩;have hi:i < n.length:=by
   have:=(Ac.mp hx).1;rw [Aa] at this;omega
  obtain⟨b,eb,eR,et,el,er⟩:=(hR.same sm).at hi;rw [Af,eb] at hx;cases hx;have jB:(row n i).length<=1000:=Bv (jb n i) ht;refine iO rfl (aM.of et) (aW 2 nd<|aW 3 nd ?_);refine Ou (λk H4=>ah H3 H4/\k=decide (((row n i).filter λz=>ss.contains z).length % 2=1)) (λσ' H'=>ah H H'/\fC (n.take<|i+1) ss=true/\∃ u v,σ'=[some<|.ref R,some<|.ref a,u,v]) ?_ ?_ ?_ λσ' H' h=>a7 h
  ·refine cz i0<|aY cO<|bX eB T.len DR<|aj<|gN (aP yJ) Ss wN 1 (eg bf)<|ae 3 ⟨b.2,rfl,⟨_,ai.of el⟩,λD hD=>?_⟩;refine rX (σ:=[some<|.ref R,some<|.ref a,some<|.str n[i].1,some<|.ref b.2]) (λz=>ss.contains z) (bH<|by omega) el hD (λcl C s₀ H₀ ex v v0 H' R' h=>aW 4 q9z h) (λcl C s₀ H₀ ex z ys T' h=>?_) (λcl C s₀ H₀ ex z H' R' h=>ae 4 h) ?_
   ·refine iE (cz lX<|ae 4<|ae 1 ⟨a,_,rfl,.inl (ai.of<|by rw [au<|bd (sm _ _ ha) hD];exact sm _ _ ha),rfl,ke _,_,rfl,?_⟩);show T' (nN (.str z)<|ss.map V.str) _;rw [kd];exact h
   ·refine aA ⟨D,_,rfl,.inl<|ai.of av,aD ⟨_,_,rfl,rfl,(by show(0:Int) < 2;decide),aD ⟨rfl,_,rfl,aK hD _,?_⟩⟩⟩;rw [Aa];refine decide_eq_decide.mpr ⟨λh=>?_,λh=>?_⟩
    ·have:=V.int.inj h;omega
    ·have:((((row n i).filter λz=>ss.contains z).length:Int)) % 2=1:=by omega
     exact BZ V.int this
  ·rintro H4 ⟨s4,e⟩;have hb:=BX e.symm;refine bL<|pI ?_;rw [<- k9b (ss:=ss) hi<|by omega];exact q H4<|sm.trans s4
  ·rintro H4 ⟨s4,e⟩;have hb:=JB e.symm;refine a7 ⟨sm.trans s4,?_,_,_,rfl⟩;rw [Bx,Ab hi];show fC (n.take i++[n[i]]) ss=true;rw [k6p,ev,<- jd hi,Bool.true_and,JX];omega
 ·rintro σ H3 ⟨sm,ev,u,v,rfl⟩;rw [Aa,bY,Bm] at ev;refine bL<|pI ?_;rw [<- ev];exact q H3 sm
abbrev Ji:List Str:=["_law_one","_law_other_here","_law_first","_law_second"]
abbrev qT:List Str:=["_law_one","_law_other_here","_law_first","_law_second","_law_x"]
def wQ:ao Ji ["_law_one","_law_other_here"] (aP uT):=⟨rfl,rfl,rfl,by decide +kernel,rfl,by decide +kernel,by decide +kernel⟩
def Sv:qT.Nodup:=by decide +kernel
def q19{f:Addr}{fd:FuncData}(F:bu K "_law_sum" "_law_sum" uT f fd)(T:Txt mg):aC P w K mg base bA 1 f fd ["_law_one","_law_other_here"] zS:=by
 refine F.gb wQ (λvs H Q E h=>?_) λb0 H vs Q E hr h=>?_
 ·obtain⟨a,b,xs,ys,rfl,_⟩:=h;rfl
 obtain⟨a,b,xs,ys,rfl,ha,hb,hl,nx,ny,q⟩:=h;have nd:=wQ.nd;show Run _ _ _ [some<|.ref a,some<|.ref b,none,none] H;refine rM 2 (aP uT) Ji qT 1 nd (eg bf)<|ae 0 ⟨a,rfl,⟨_,ai.of ha⟩,λD hD=>?_⟩;refine rX (λz=>!ys.contains z) (bH<|by omega) ha hD (λcl C s0 H0 ex v v0 H' R' h=>aW 4 Sv h) (λcl C s0 H0 ex z zs T' h=>iE<|cz MU<|ae 4<|ae 1 ⟨b,_,rfl,.inl (ai.of<|by rw [au<|bd hb hD];exact hb),rfl,ke _,_,rfl,?_⟩) (λcl C s0 H0 ex z H' R' h=>ae 4 h) ?_
 ·show T' (!nN (.str z) (ys.map V.str)) _;rw [kd];exact h
 have s1:=aK hD<|.lst<|(xs.filter λz=>!ys.contains z).map V.str;have eD:(upd H D<|.lst<|(xs.filter λz=>!ys.contains z).map V.str) D=some (Ls<|xs.filter λz=>!ys.contains z):=av;show Run _ _ _ [some<|.ref a,some<|.ref b,some<|.ref D,none] (upd H D<|.lst<|(xs.filter λz=>!ys.contains z).map V.str);generalize upd H D (.lst<|(xs.filter λz=>!ys.contains z).map V.str)=H1 at s1 eD;have Sw:=s1 _ _ ha;have jy:=s1 _ _ hb;refine rM 3 (aP uT) Ji qT 1 nd (eg bf)<|ae 1 ⟨b,rfl,⟨_,ai.of jy⟩,λD2 gW=>?_⟩;refine rX (λz=>!xs.contains z) (bH<|by omega) jy gW (λcl C s0 H0 ex v v0 H' R' h=>aW 4 Sv h) (λcl C s0 H0 ex z zs T' h=>iE<|cz MU<|ae 4<|ae 0 ⟨a,_,rfl,.inl (ai.of<|by rw [au<|bd Sw gW];exact Sw),rfl,ke _,_,rfl,?_⟩) (λcl C s0 H0 ex z H' R' h=>ae 4 h) ?_
 ·show T' (!nN (.str z) (xs.map V.str)) _;rw [kd];exact h
 have s2:=aK gW<|.lst<|(ys.filter λz=>!xs.contains z).map V.str;have lP:(upd H1 D2<|.lst<|(ys.filter λz=>!xs.contains z).map V.str) D2=some (Ls<|ys.filter λz=>!xs.contains z):=av;show Run _ _ _ [some<|.ref a,some<|.ref b,some<|.ref D,some<|.ref D2] (upd H1 D2<|.lst<|(ys.filter λz=>!xs.contains z).map V.str);have eD:=s2 _ _ eD;generalize upd H1 D2 (.lst<|(ys.filter λz=>!xs.contains z).map V.str)=H2 at s2 lP eD;have f1:=Ck (λz=>!ys.contains z) xs;have f2:=Ck (λz=>!xs.contains z) ys;have Jj:((xs.filter λz=>!ys.contains z)++(ys.filter λz=>!xs.contains z)).Nodup:=Cf.mpr ⟨nx.filter _,ny.filter _,λx hx y hy e=>by
  rw [Bk] at hx hy;subst e;have:=hy.2;simp [hx.1] at this⟩
 have mem:∀ z,z∈(xs.filter λz=>!ys.contains z)++(ys.filter λz=>!xs.contains z)↔(if z∈xs then z∉ys else z∈ys):=λz=>by
  rw [An,Bk,Bk]
  by_cases q1:z∈xs <;> by_cases q2:z∈ys <;> simp [q1,q2]
 refine bL<|bX uJ T.sorted CP<|aj<|aY x6<|ae 2<|ae 3 ⟨D,D2,_,_,rfl,rfl,eD,lP,?_,λl gJ=>?_⟩
 ·rw [Aa,Aa];exact small<|by omega
 rw [<- Ai];generalize (xs.filter λz=>!ys.contains z)++(ys.filter λz=>!xs.contains z)=L at Jj mem gJ ⊢;have s3:=s2.trans<|aK gJ<|Ls L;have lL:L.length < 64:=by
  have:=aE (b:=xs++ys) Jj λz hz=>by
   have:=(mem z).mp hz;rw [An]
   by_cases k:z∈xs
   ·exact .inl k
   ·rw [BK k] at this;exact .inr this
  rw [Ad] at this;omega
 refine aA ⟨l,L,rfl,ai.of av,lL,λl4 ss tq cL fS=>?_⟩;have s4:=s1.trans s3;exact q l4 ss _ (s4.trans<|aK tq _) (s4.free tq) av (sJ fS<|cL.nodup_iff.mpr Jj) λz=>by rw [cL.mem_iff];exact mem z
end
end Q2
namespace Nt
open PySem L2
theorem Sx(x:Str):∀{sd:List Str},cB sd->∃ jA,cB jA/\∀ y,y∈jA↔y=x\/y∈sd
 | [],_=>⟨[x],RN _ _,λy=>by simp⟩
 | a :: r,h=>by
  have h':=Fp.mp h
  by_cases q:x.cps.toList < a.cps.toList
  ·refine⟨x :: a :: r,Fp.mpr ⟨λy hy=>?_,h⟩,λy=>by simp⟩
   rcases Al.mp hy with e | e
   ·rw [e];exact q
   ·exact Gg q<|h'.1 y e
  ·rcases List.le_iff_lt_or_eq.mp (List.not_lt.mp q) with q2 | q2
   ·obtain⟨jA,s1,s2⟩:=Sx x h'.2;refine⟨a :: jA,Fp.mpr ⟨λy hy=>?_,s1⟩,λy=>?_⟩
    ·rcases (s2 y).mp hy with e | e
     ·rw [e];exact q2
     ·exact h'.1 y e
    ·rw [Al,s2,Al]
     constructor
     ·rintro (e | e | e)
      ·exact .inr<|.inl e
      ·exact .inl e
      ·exact .inr<|.inr e
     ·rintro (e | e | e)
      ·exact .inr<|.inl e
      ·exact .inl e
      ·exact .inr<|.inr e
   ·refine⟨a :: r,h,λy=>?_⟩;have:a=x:=bU.iH q2;subst this;simp
theorem Sy:∀ L:List Str,∃ sd,cB sd/\∀ y,y∈sd↔y∈L
 | []=>⟨[],List.Pairwise.nil,λ_=>Iff.rfl⟩
 | x :: L=>by
  obtain⟨sd,h1,h2⟩:=Sy L;obtain⟨jA,h3,h4⟩:=Sx x h1;exact⟨jA,h3,λy=>by rw [h4,h2,Al]⟩
abbrev vB(b:Bool):V:= .int (if b then 1 else 0)
def Jk{b c:Bool}(h:vB b=vB c):b=c:=by
 cases b <;> cases c <;> first | rfl | (exact absurd (V.int.inj h)<|by decide)
structure fT(n:Net)(ss:List Str)(kvs:List<|Key×V):Prop where
 dB:(kvs.map (·.1)).Nodup
 num:∀ k∈kvs.map (·.1),∃ r:Nat,k=Sum.inl (r:Int)/\r < n.length
 val:∀(r:Nat) v,al kvs (Sum.inl (r:Int))=some v->∃ b,v=vB b/\Way (qm n ss) (cI n) (bb n r) b
 fst:al kvs (Sum.inl ((0:Nat):Int))=some (vB false)
def fT.start{n:Net}{ss:List Str}(h0:0 < n.length):fT n ss (putK [] (Sum.inl 0)<|.int 0):=by
 have hv:∀ r:Nat,al (putK ([]:List<|Key×V) (Sum.inl 0)<|.int 0) (Sum.inl (r:Int))=if r=0 then some (.int 0) else none:=λr=>by
  rw [c7]
  by_cases h:r=0
  ·subst h;rfl
  ·rw [BK h,BK λq=>h<|by have:=Sum.inl.inj q;omega];rfl
 refine⟨by show([Sum.inl 0]:List Key).Nodup;simp,λk hk=>⟨0,by simpa [putK] using hk,h0⟩,λr v h=>?_,(hv 0).trans<|BL rfl⟩;rw [hv] at h
 by_cases c:r=0
 ·rw [BL c] at h;cases h;subst c;exact⟨false,rfl,.here⟩
 ·rw [BK c] at h;cases h
def fT.len{n:Net}{ss:List Str}{kvs:List (Key×V)}(I:fT n ss kvs):kvs.length<=n.length:=by
 have:=aE I.dB (b:=(List.range n.length).map λr=>Sum.inl ((r:Nat):Int)) λk hk=>by
  obtain⟨r,e,h⟩:=I.num k hk;exact Aj.mpr ⟨r,Cb.mpr h,e.symm⟩
 rw [Aa,Aa,Du] at this;exact this
def fT.way{n:Net}{ss:List Str}{kvs:List (Key×V)}(I:fT n ss kvs){e:End}{z:Str}{b:Bool}(hz:aG n e=some z)(hb:al kvs (Sum.inl (e.1:Int))=some (vB b)):Way (qm n ss) (cI n) (bb n (other n e).1) (b != decide (z∈ss)):=by
 obtain⟨b',q,w⟩:=I.val e.1 _ hb;have:=Jk q;subst this
 rcases (Gm (n:=n) (ss:=ss)).to e z hz with t | t
 ·exact .there w t
 ·exact .back w t
def fT.add{n:Net}(T:aw n){ss:List Str}{kvs:List (Key×V)}(I:fT n ss kvs){e:End}{z:Str}{b:Bool}(hz:aG n e=some z)(hb:al kvs (Sum.inl (e.1:Int))=some (vB b)) (hn:al kvs (Sum.inl ((other n e).1:Int))=none) :
  fT n ss (putK kvs (Sum.inl ((other n e).1:Int))<|vB<|b != decide (z∈ss))/\(putK kvs (Sum.inl ((other n e).1:Int))<|vB<|b != decide (z∈ss)).length=kvs.length+1:=by
 have w:=I.way hz hb;have aX:=Gn T hz;have oQ:=k98 hn;refine⟨⟨?_,λk hk=>?_,λr v hv=>?_,?_⟩,?_⟩
 ·rw [sG,BK oQ];exact me I.dB oQ
 ·rw [sG,BK oQ] at hk
  rcases An.mp hk with hk | hk
  ·exact I.num k hk
  ·exact⟨_,Ag.mp hk,aX⟩
 ·rw [c7] at hv
  by_cases q:r=(other n e).1
  ·rw [BL<|by rw [q]] at hv;cases hv;exact⟨_,rfl,by rw [q];exact w⟩
  ·rw [BK<|q7q q] at hv;exact I.val r v hv
 ·have hv:=I.fst;rw [c7,BK λq=>by rw [q,hn] at hv;cases hv];exact hv
 ·have:=BZ List.length<|sG kvs (Sum.inl ((other n e).1:Int))<|vB<|b != decide (z∈ss);rw [BK oQ,Ad,Aa,Aa] at this;exact this
def qU(n:Net)(kvs:List<|Key×V)(z:Str):Prop:=∀ e,aG n e=some z->al kvs (Sum.inl (e.1:Int))≠none->al kvs (Sum.inl ((other n e).1:Int))≠none
def fT.all{n:Net}(T:aw n)(hg:cm n)(h0:0 < n.length)(hn:(n.map (·.1)).Nodup){ss:List Str}{kvs:List (Key×V)}(I:fT n ss kvs)(hs:∀ z∈ag n,qU n kvs z):∀ r,r < n.length->∃ b,al kvs (Sum.inl (r:Int))=some (vB b):=λr hr=>by
 have one:∀ i,al kvs (Sum.inl ((i:Nat):Int))≠none->∃ b,al kvs (Sum.inl (i:Int))=some (vB b):=λi hi=>by
  obtain⟨v,hv⟩:=Option.ne_none_iff_exists'.mp hi;obtain⟨b,e,_⟩:=I.val i v hv;exact⟨b,by rw [hv,e]⟩
 refine one r ?_;have:=hg (λx=>∃ i,i < n.length/\bb n i=x/\al kvs (Sum.inl ((i:Nat):Int))≠none) ⟨n[0],Bs h0,0,h0,jg h0,by rw [I.fst];exact λz=>nomatch z⟩ (λr hr s fb t tr ts ⟨i,hi,e,hb⟩=>?_) n[r]<|Bs hr
 ·obtain⟨i,hi,e,hb⟩:=this;rw [<- jg hr] at e;rw [<- y9 hn hi hr e];exact hb
 ·obtain⟨k,hk,rfl⟩:=Cz.mp hr;obtain⟨j,hj,rfl⟩:=Cz.mp fb;rw [<- jg hk] at e;have:=y9 hn hi hk e;subst this;obtain⟨p,hp⟩:=Be tr;obtain⟨q,hq⟩:=Be ts;have h1:aG n (i,p)=some t:=by show(row n i)[p]?=_;rw [jd hi];exact hp
  have h2:aG n (j,q)=some t:=by show(row n j)[q]?=_;rw [jd hj];exact hq
  refine⟨j,hj,jg hj,?_⟩
  rcases (jh T h1).mp h2 with e | e
  ·have:j=i:=BZ (·.1) e;subst this;exact hb
  ·have:=hs t (eI h1) (i,p) h1 hb;rw [<- e] at this;exact this
def fT.bad{n:Net}(T:aw n){ss:List Str}{kvs:List (Key×V)}(I:fT n ss kvs){e:End}{z:Str}{b c:Bool}(hz:aG n e=some z)(hb:al kvs (Sum.inl (e.1:Int))=some (vB b)) (hc:al kvs (Sum.inl ((other n e).1:Int))=some (vB c))
  (bw:(b != c)≠decide (z∈ss)):∀ sd,¬ bx n ss sd:=λsd hs=>by
 obtain⟨c',q,w⟩:=I.val _ _ hc;have:=Jk q;subst this;have e1:=y8 T Gm hs w;have e2:=y8 T Gm hs<|I.way hz hb;rw [e1] at e2;apply bw;rw [e2];cases b <;> cases decide (z∈ss) <;> rfl
def fT.whole{n:Net}(T:aw n)(hn:(n.map (·.1)).Nodup)(h0:0 < n.length){ss:List Str}{kvs:List (Key×V)}(I:fT n ss kvs)(ha:∀ r,r < n.length->∃ b,al kvs (Sum.inl (r:Int))=some (vB b))(jo:∀ z∈ss,z∈ag n)
  (aB:∀ z∈ag n,∃ e b c,aG n e=some z/\al kvs (Sum.inl (e.1:Int))=some (vB b)/\al kvs (Sum.inl ((other n e).1:Int))=some (vB c)/\(b != c)=decide (z∈ss)):∃ sd,bx n ss sd:=by
 obtain⟨sd,h1,h2⟩:=Sy<|((List.range n.length).filter λ(r:Nat)=>decide (al kvs (Sum.inl (r:Int))=some (vB true))).map<|bb n;have mem:∀ r,r < n.length->∀ b,al kvs (Sum.inl (r:Int))=some (vB b)->decide (bb n r∈sd)=b:=λr hr b hb=>by
  have:bb n r∈sd↔b=true:=by
   rw [h2,Aj]
   constructor
   ·rintro ⟨i,hi,e⟩;rw [Bk,Cb] at hi;have:=y9 hn hi.1 hr e;subst this;have h3:=BX hi.2;rw [hb] at h3;exact Jk<|Option.some.inj h3
   ·intro e;subst e;exact⟨r,Bk.mpr ⟨Cb.mpr hr,BW hb⟩,rfl⟩
  by_cases q:b=true
  ·rw [q];exact BW<|this.mpr q
  ·rw [Bool.not_eq_true] at q;rw [q];exact BR λk=>by rw [this.mp k] at q;cases q
 refine⟨sd,h1,λx hx=>?_,λhx=>?_,λz=>?_⟩
 ·obtain⟨i,hi,rfl⟩:=Aj.mp<|(h2 x).mp hx;exact oD<|Cb.mp (Bk.mp hi).1
 ·have:=mem 0 h0 false I.fst;exact absurd hx<|JB this
 ·by_cases hz:z∈ag n
  ·obtain⟨e,b,c,he,hb,hc,hbc⟩:=aB z hz;rw [Gj T he,mem _ (dz he) b hb,mem _ (Gn T he) c hc,hbc];exact⟨λh=>BW h,λh=>BX h⟩
  ·exact⟨λh=>absurd (jo z h) hz,λh=>absurd (q3f h) hz⟩
end Nt
namespace L2
open PySem PySem.Spec PyProof.Rows
section
variable{X:Cx}{σ:St}{H:Hp}{D:Ends}{body rest:List Stmt}{a b:Expr}
def q35(i j:Nat){x y:Str}{px py pt pos:Pos}{kt k2:Nat}{pk:Pos}(hN:X.N.Nodup)(dw:i≠j) (h:Ea X [a,b] σ H λvs H1=>∃ v w,vs=[v,w]/\Run X rest D ((σ.set i<|some v).set j<|some w) H1)
  (hi:X.N[i]?=some x:=by rfl) (hj:X.N[j]?=some y:=by rfl) (hx:X.env.scope.names.lookup x=some .local:=by rfl) (hy:X.env.scope.names.lookup y=some .local:=by rfl) (hc:X.calm=true:=by rfl)
  (hw:swappedStores [.Tuple [.Name x px,.Name y py] kt pt] (.Tuple [a,b] k2 pk) X.env=pure (some [x,y]):=by rfl)
  (hs:swapsWithSole [.Tuple [.Name x px,.Name y py] kt pt] (.Tuple [a,b] k2 pk) pos.line X.env=pure false:=by rfl) :
  Run X (.Assign [.Tuple [.Name x px,.Name y py] kt pt] (.Tuple [a,b] k2 pk) pos :: rest) D σ H:=
 ju (Vw hc hN hi hj dw hx hy gn hw hs) h
def q2d{d:Addr}{kvs:List (Key×V)}{l:List Stmt}(hd:H d=some (.dK kvs)) (h:∀ o,Run X l D σ<|upd H d<|.bh o<|.dK kvs):Run X l D σ H:=by
 refine⟨λpins s I=>?_⟩;obtain⟨o,ho,I'⟩:=OV I hd;exact(h o).run pins s I'
end
end L2
namespace Q2
open PySem L2 Nt bB
open PyProof.Rows (sortedS)
structure df(H:Hp)(d:Addr)(o:Obj)(n:Net)(ks:List Str):Prop where
 dict:∃ kvs,H d=some (.bh o<|.dK kvs)/\kvs.map (·.1)=ks.map Sum.inr/\∀ z∈ag n,∃ a ts,al kvs (Sum.inr z)=some (.ref a)/\H a=some (.lst<|ts.map V.ref)/\Pd H ts (pos n z)
 nodup:ks.Nodup
 mem:∀ z,z∈ks↔z∈ag n
def df.same{H H':Hp}{d:Addr}{o:Obj}{n:Net}{ks:List Str}(S:df H d o n ks)(s:ah H H'):df H' d o n ks:=by
 obtain⟨kvs,h1,h2,h3⟩:=S.dict;refine⟨⟨kvs,s _ _ h1,h2,λz hz=>?_⟩,S.nodup,S.mem⟩;obtain⟨a,ts,q1,q2,q3⟩:=h3 z hz;exact⟨a,ts,q1,s _ _ q2,q3.keep λt e h=>s _ _ h⟩
def q3z{n:Net}(T:aw n){z:Str}(h:z∈ag n):∃ x,aG n x=some z/\aG n (other n x)=some z/\pos n z=[x,other n x]:=by
 rw [OG] at h;obtain⟨e,he⟩:=Ff _ h;obtain⟨a,b,hp,gs,_⟩:=pR T<|aH.mp he;have ha:aG n a=some z:=aH.mp (by rw [hp];exact Ah ..);have hb:aG n b=some z:=aH.mp (by rw [hp];simp);have e:b=other n a:=by
  rcases (jh T ha).mp hb with q | q
  ·exact absurd q.symm gs
  ·exact q
 subst e;exact⟨a,ha,hb,hp⟩
def Jl:Sp:=λvs H Q _=>∃(R d p:Addr) (as:List<|Addr×Addr) (n:Net) (ss ks:List Str) (ob:Obj),vs=[.ref R,.ref d,.ref p]/\ak H R as n/\df H d ob n ks/\aw n/\cm n/\(n.map (·.1)).Nodup/\0 < n.length/\n.length<=60/\H p=some (Ls ss)/\(∀ z∈ss,z∈ag n) /\
 (∀(L:Addr) (H':Hp),ah H H'->(∃ sd,bx n ss sd)->Q (.ref L) H')/\(∀ H',ah H H'->(∀ sd,¬ bx n ss sd)->Q .non H')
section
variable{P:Program}{w:World}{K:PySem.W.Frag}{mg:Str->Option Value}{base:Heap}
abbrev Sz:List Str:=["_law_rows","_law_seats_here","_law_some","_law_side_here","_law_more","_law_tie","_law_one","_law_other_here"]
abbrev wR:List Str:=["_law_rows","_law_seats_here","_law_some","_law_side_here","_law_more","_law_tie","_law_one","_law_other_here","_law_r"]
def wU:ao Sz ["_law_rows","_law_seats_here","_law_some"] (aP yI):=⟨rfl,rfl,rfl,by decide +kernel,rfl,by decide +kernel,by decide +kernel⟩
def q9k:wR.Nodup:=by decide +kernel
def SA{fj:List (Key×V)}{ks:List Str}(ek:fj.map (·.1)=ks.map Sum.inr){i:Nat}{pr:Key×V}(h:fj[i]?=some pr):∃ z,ks[i]?=some z/\pr.1=Sum.inr z:=by
 have e2:(fj.map (·.1))[i]?=some pr.1:=by rw [Af,h];rfl
 rw [ek,Af,Ap] at e2;obtain⟨z,hz,e⟩:=e2;exact⟨z,hz,e.symm⟩
def q2k(b c:Bool):((if b then(1:Int) else 0)+(if c then 1 else 0)) % 2=if(b != c) then 1 else 0:=by cases b <;> cases c <;> decide
theorem k9f{f:Addr}{fd:FuncData}(F:bu K "_law_side" "_law_side" yI f fd)(T:Txt mg):aC P w K mg base bA 1 f fd ["_law_rows","_law_seats_here","_law_some"] Jl:=by
 refine F.gb wU (λvs H Q E h=>?_) λb0 H vs Q E hr h=>?_
 ·obtain⟨R,d,p,as,n,ss,ks,ob,rfl,_⟩:=h;rfl
 obtain⟨R,d,p,as,n,ss,ks,ob,rfl,hR,hS,hT,wJ,zT,h0,hn,hp,jo,q1,q2⟩:=h;have nd:=wU.nd;have cj:=hr.u1;have bY:=hR.len;obtain⟨fj,ed,ek,ev⟩:=hS.dict;have wV:∀{H':Hp} {z:Str},ah H H'->z∈ag n->∃ x a tx ty,aG n x=some z/\aG n (other n x)=some z/\aU H' d (.str z) (some<|.ref a)/\H' a=some (.lst [.ref tx,.ref ty])/\H' tx=some (Tp x)/\H' ty=some (Tp<|other n x):=λ{H' z} sm hz=>by
  obtain⟨x,lQ,mY,hp⟩:=q3z hT hz;obtain⟨a,ts,v1,v2,v3⟩:=ev z hz;rw [hp] at v3;cases v3 with
  | cons x1 v3=>
  cases v3 with
  | cons y1 v3=>
  cases v3;rename_i tx ty;exact⟨x,a,tx,ty,lQ,mY,by rw [<- v1];exact .inl ⟨fj,Sum.inr z,.inr ⟨ob,sm _ _ ed⟩,rfl,rfl⟩,sm _ _ v2,sm _ _ x1,sm _ _ y1⟩
 show Run _ _ _ [some<|.ref R,some<|.ref d,some<|.ref p,none,none,none,none,none] H;refine aT 3 nd<|RU cj λd2 hd2=>aD<|aD ⟨_,bT.k (k:=Sum.inl 0) av<|bH<|Bp _,?_⟩;rw [o8];refine aT 4 nd<|pI ?_;have s0:ah H (upd H d2<|.dK<|putK [] (Sum.inl 0)<|.int 0):=aK hd2 _;have e0:(upd H d2<|.dK<|putK [] (Sum.inl 0)<|.int 0) d2=some (.dK<|putK [] (Sum.inl 0)<|.int 0):=av;show Run _ _ _ [some<|.ref R,some<|.ref d,some<|.ref p,some<|.ref d2,some<|.bl true,none,none,none] (upd H d2<|.dK<|putK [] (Sum.inl 0)<|.int 0);generalize upd H d2 (.dK<|putK [] (Sum.inl 0)<|.int 0)=H0 at s0 e0;refine uM (λm σ H'=>∃(kvs:List<|Key×V) (mo:Bool) (u5 u6 u7:Option V),ah H H'/\H' d2=some (.dK kvs)/\fT n ss kvs/\(mo=false->∀ z∈ag n,qU n kvs z)/\m=2 * (n.length - kvs.length)+(if mo then 1 else 0) /\
   σ=[some<|.ref R,some<|.ref d,some<|.ref p,some<|.ref d2,some<|.bl mo,u5,u6,u7]) (m0:=2 * (n.length - 1)+1)
  ⟨_,true,_,_,_,s0,e0,fT.start h0,λz=>(nomatch z),rfl,rfl⟩ ?_
 rintro m σ H2 ⟨kvs,mo,u5,u6,u7,s2,e2,I,sh,em,rfl⟩;refine lh<|ae 4 ⟨mo,rfl,?_⟩;cases mo with
 | true=>
  rw [BL rfl];refine aT 4 nd<|pI ?_;show Run _ _ _ [some<|.ref R,some<|.ref d,some<|.ref p,some<|.ref d2,some<|.bl false,u5,u6,u7] H2;have hml:kvs.length<=n.length:=I.len;refine rL (Sn bf)<|ae 1 ⟨d,ob,fj,rfl,s2 _ _ ed,Sq (λi σ H'=>∃(cG:List<|Key×V) (mo:Bool) (u5 u6 u7:Option V),ah H H'/\H' d2=some (.dK cG)/\fT n ss cG/\kvs.length<=cG.length/\(mo=true->kvs.length < cG.length)/\(mo=false->cG=kvs/\∀ j,j < i->∀ z,ks[j]?=some z->qU n kvs z) /\
    σ=[some<|.ref R,some<|.ref d,some<|.ref p,some<|.ref d2,some<|.bl mo,u5,u6,u7]) ⟨kvs,false,_,_,_,s2,e2,I,Am _,λz=>(nomatch z),λ_=>⟨rfl,λj hj=>absurd hj<|Dv _⟩,rfl⟩ ?_ ?_ ?_⟩
  ·rintro i σ H' _ ⟨cG,mo,v5,v6,v7,s3,_⟩;exact s3 _ _ ed
  ·rintro i pr σ H3 nh ⟨cG,mo,v5,v6,v7,s3,e3,I3,hl,Jm,Jn,rfl⟩;obtain⟨z,hz,Jo⟩:=SA ek nh;rw [Jo];have fG:z∈ag n:=(hS.mem z).mp<|At hz;obtain⟨x,a,tx,ty,lQ,mY,dg,ea,Jp,Jq⟩:=wV s3 fG;refine aW 5 nd ?_;refine aT 6 nd<|aZ ce<|aZ cv<|dX cj<|ae 1<|ae 5 ⟨d,.ref a,rfl,dg,aD ⟨a,_,_,.ref tx,rfl,rfl,ai.of ea,rfl,aD ⟨tx,_,_,.int (x.1:Int),rfl,rfl,aM.of Jp,rfl,?_⟩⟩⟩;refine aT 7 nd<|aZ ce<|aZ cv<|dX cj<|ae 1<|ae 5 ⟨d,.ref a,rfl,dg,aD ⟨a,_,_,.ref ty,rfl,rfl,ai.of ea,rfl,aD ⟨ty,_,_,.int ((other n x).1:Int),rfl,rfl,aM.of Jq,rfl,?_⟩⟩⟩;show Run _ _ _ [some<|.ref R,some<|.ref d,some<|.ref p,some<|.ref d2,some<|.bl mo,some<|.str z,some<|.int (x.1:Int),some<|.int ((other n x).1:Int)] H3;refine D6 (al cG (Sum.inl (x.1:Int))=none/\al cG (Sum.inl ((other n x).1:Int))≠none) (al cG (Sum.inl (x.1:Int))=none->al cG (Sum.inl ((other n x).1:Int))=none)
    (λσ' H'=>H'=H3/\∃ e,aG n e=some z/\aG n (other n e)=some z/\other n (other n e)=e/\(al cG (Sum.inl (e.1:Int))=none->al cG (Sum.inl ((other n e).1:Int))=none)/\σ'=[some<|.ref R,some<|.ref d,some<|.ref p,some<|.ref d2,some<|.bl mo,some<|.str z,some<|.int (e.1:Int),some<|.int ((other n e).1:Int)]) (λT' qq=>?_) (λc=>?_) (λc=>a7 ⟨rfl,x,lQ,mY,(c8 hT lQ).2.1,c,rfl⟩) ?_
   ·refine nS<|yc<|EB cj<|ae 6<|ae 3 ⟨d2,_,rfl,aU.k (k:=Sum.inl (x.1:Int)) e3,?_⟩;cases hg:al cG (Sum.inl (x.1:Int)) with
    | none=>
     refine cw ?_;refine yd<|yp cj<|ae 7<|ae 3 ⟨d2,_,rfl,aU.k (k:=Sum.inl ((other n x).1:Int)) e3,?_⟩;cases wW:al cG (Sum.inl ((other n x).1:Int)) with
     | none=>exact qq false (λz=>nomatch z) λ_ _=>wW
     | some v=>exact qq true (λ_=>⟨hg,by rw [wW];exact λz=>nomatch z⟩) λz=>nomatch z
    | some v=>
     refine bR ?_;exact qq false (λz=>nomatch z) λ_ k=>by rw [hg] at k;cases k
   ·refine q35 6 7 nd (by decide)<|aj<|ae 7<|aj<|ae 6<|aA ⟨_,_,rfl,?_⟩;have oo:=(c8 hT lQ).2.1;exact a7 ⟨rfl,other n x,mY,by rw [oo];exact lQ,by rw [oo],λk=>absurd k c.2,by rw [oo];rfl⟩
   rintro σ' H' ⟨rfl,e,qj,he2,oo,bw,rfl⟩;refine yf (al cG (Sum.inl (e.1:Int))≠none/\al cG (Sum.inl ((other n e).1:Int))=none) (¬(al cG (Sum.inl (e.1:Int))≠none/\al cG (Sum.inl ((other n e).1:Int))=none)) (λT' qq=>?_) (λc=>?_) λc=>?_
   ·refine nS<|yc<|yp cj<|ae 6<|ae 3 ⟨d2,_,rfl,aU.k (k:=Sum.inl (e.1:Int)) e3,?_⟩;cases hg:al cG (Sum.inl (e.1:Int)) with
    | some v=>
     refine cw ?_;refine yd<|EB cj<|ae 7<|ae 3 ⟨d2,_,rfl,aU.k (k:=Sum.inl ((other n e).1:Int)) e3,?_⟩;cases wW:al cG (Sum.inl ((other n e).1:Int)) with
     | none=>exact qq true (λ_=>⟨by rw [hg];exact λz=>(nomatch z),wW⟩) λz=>nomatch z
     | some v=>exact qq false (λz=>nomatch z) λ_ k=>by rw [wW] at k;cases k.2
    | none=>
     refine bR ?_;exact qq false (λz=>nomatch z) λ_ k=>k.1 hg
   ·obtain⟨c1,c2⟩:=c;obtain⟨v,hv⟩:=Option.ne_none_iff_exists'.mp c1;obtain⟨b,rfl,wy⟩:=I3.val e.1 v hv;obtain⟨I4,tq⟩:=I3.add hT qj hv c2;have lk:=I3.len;refine rP cj (aY cO<|aY fM<|dX cj<|ae 3<|ae 6 ⟨d2,vB b,rfl,by rw [<- hv];exact aU.k (k:=Sum.inl (e.1:Int)) e3,?_⟩);refine rH D9 T.mC JH<|aj<|gY lX<|ae 5<|ae 2 ⟨p,_,rfl,.inl<|ai.of<|s3 _ _ hp,rfl,ke _,?_⟩;refine aA ⟨_,rfl,_,_,rfl,rfl,aD ⟨_,_,rfl,rfl,(by show(0:Int) < 2;decide),?_⟩⟩;rw [kd,qP];have e9:vB (b != decide (z∈ss)) = .int (((if b then(1:Int) else 0)+(if decide (z∈ss) then 1 else 0)) % 2):=BZ V.int (q2k b<|decide (z∈ss)).symm;rw [e9] at I4 tq;refine ae 3 (ae 7 ⟨d2,_,rfl,bT.k (k:=Sum.inl ((other n e).1:Int)) e3 (bH<|by omega),?_⟩);refine aT 4 nd<|pI ?_;refine a7<|a7 ⟨_,true,_,_,_,db s3 hd2,av,I4,Bv (Nat.le_succ_of_le hl)<|UW tq.symm,λ_=>Bb (Nat.lt_succ_of_le hl)<|UW tq.symm,λz=>(nomatch z),rfl⟩
   ·refine a7<|a7 ⟨cG,mo,_,_,_,s3,e3,I3,hl,Jm,λq=>?_,rfl⟩;obtain⟨r1,r2⟩:=Jn q;refine⟨r1,λj hj y hy=>?_⟩
    by_cases k:j < i
    ·exact r2 j k y hy
    ·have:j=i:=by omega
     subst this;rw [hz] at hy;cases hy;subst r1;intro x' iZ wX
     rcases (jh hT qj).mp iZ with q' | q'
     ·subst q';intro k';exact c ⟨wX,k'⟩
     ·subst q';rw [oo];intro k';exact wX<|bw k'
  ·rintro σ H3 ⟨cG,mo,v5,v6,v7,s3,e3,I3,hl,Jm,Jn,rfl⟩;have zR:=I3.len;refine a7 ⟨_,?_,cG,mo,v5,v6,v7,s3,e3,I3,λq=>?_,rfl,rfl⟩
   ·cases mo with
    | true=>
     have:=Jm rfl;simp only [DN] at em ⊢;omega
    | false=>
     simp only [DN,Bu,DQ] at em ⊢;omega
   ·obtain⟨r1,r2⟩:=Jn q;subst r1;intro z hz;obtain⟨j,hj⟩:=Be<|(hS.mem z).mpr hz;have lk:fj.length=ks.length:=by have:=BZ List.length ek;rw [Aa,Aa] at this;exact this
    exact r2 j (by rw [lk];exact(Ac.mp hj).1) z hj
 | false=>
  rw [BK<|by decide];have all:=I.all hT wJ h0 zT<|sh rfl;refine rL (Sn bf)<|ae 1 ⟨d,ob,fj,rfl,s2 _ _ ed,Sq (λi σ H'=>∃(u5 u6 u7:Option V),H'=H2/\(∀ j,j < i->∀ z,ks[j]?=some z->∃ e b c,aG n e=some z/\al kvs (Sum.inl (e.1:Int))=some (vB b)/\al kvs (Sum.inl ((other n e).1:Int))=some (vB c)/\(b != c)=decide (z∈ss)) /\
    σ=[some<|.ref R,some<|.ref d,some<|.ref p,some<|.ref d2,some<|.bl false,u5,u6,u7]) ⟨_,_,_,rfl,λj hj=>absurd hj<|Dv _,rfl⟩ ?_ ?_ ?_⟩
  ·rintro i σ H' _ ⟨v5,v6,v7,rfl,_⟩;exact s2 _ _ ed
  ·rintro i pr σ H3 nh ⟨v5,v6,v7,rfl,hj,rfl⟩;obtain⟨z,hz,Jo⟩:=SA ek nh;rw [Jo];have fG:z∈ag n:=(hS.mem z).mp<|At hz;obtain⟨x,a,tx,ty,lQ,mY,dg,ea,Jp,Jq⟩:=wV s2 fG;obtain⟨b,hb⟩:=all x.1<|dz lQ;obtain⟨c,hc⟩:=all (other n x).1<|dz mY;refine aW 5 nd ?_;refine aT 6 nd (dX cj<|ae 3<|aZ ce<|aZ cv<|dX cj<|ae 1<|ae 5 ⟨d,.ref a,rfl,dg,aD ⟨a,_,_,.ref tx,rfl,rfl,ai.of ea,rfl,aD ⟨tx,_,_,.int (x.1:Int),rfl,rfl,aM.of Jp,rfl,d2,vB b,rfl,by rw [<- hb];exact aU.k (k:=Sum.inl (x.1:Int)) e2,?_⟩⟩⟩);refine aT 7 nd (dX cj<|ae 3<|aZ ce<|aZ cv<|dX cj<|ae 1<|ae 5 ⟨d,.ref a,rfl,dg,aD ⟨a,_,_,.ref ty,rfl,rfl,ai.of ea,rfl,aD ⟨ty,_,_,.int ((other n x).1:Int),rfl,rfl,aM.of Jq,rfl,d2,vB c,rfl,by rw [<- hc];exact aU.k (k:=Sum.inl ((other n x).1:Int)) e2,?_⟩⟩⟩);show Run _ _ _ [some<|.ref R,some<|.ref d,some<|.ref p,some<|.ref d2,some<|.bl false,some<|.str z,some<|vB b,some<|vB c] H3;refine yf ((b != c)≠decide (z∈ss)) ((b != c)=decide (z∈ss)) (λT' qq=>?_) (λk=>?_) λk=>?_
   ·refine cz xZ<|gY xZ<|ae 6<|ae 7 ⟨rfl,?_⟩;refine gY lX<|ae 5<|ae 2 ⟨p,_,rfl,.inl<|ai.of<|s2 _ _ hp,rfl,ke _,rfl,_,rfl,?_⟩;rw [kd,qP];have e9:(!decide (V.bl (!decide (vB b=vB c))=V.bl (decide (z∈ss))))=((b != c) != decide (z∈ss)):=by
     rw [t7];cases b <;> cases c <;> rfl
    show T' (!decide (V.bl (!decide (vB b=vB c))=V.bl (decide (z∈ss)))) H3;rw [e9];exact qq _ (λk=>bne_iff_ne.mp k) λk=>by generalize (b != c)=u at k ⊢;cases u <;> cases hd:decide (z∈ss) <;> rw [hd] at k <;> first | rfl | cases k
   ·refine bL<|mj ?_;exact q2 _ s2<|I.bad hT lQ hb hc k
   ·refine a7<|a7 ⟨_,_,_,rfl,λj qi y hy=>?_,rfl⟩
    by_cases kk:j < i
    ·exact hj j kk y hy
    ·have:j=i:=by omega
     subst this;rw [hz] at hy;cases hy;exact⟨x,b,c,lQ,hb,hc,k⟩
  ·rintro σ H3 ⟨v5,v6,v7,rfl,hj,rfl⟩;have whole:∃ sd,bx n ss sd:=I.whole hT zT h0 all jo λz hz=>by
    obtain⟨j,qi⟩:=Be<|(hS.mem z).mpr hz;have lk:fj.length=ks.length:=by have:=BZ List.length ek;rw [Aa,Aa] at this;exact this
    exact hj j (by rw [lk];exact(Ac.mp qi).1) z qi
   have G':=(hR.same s2).len;refine bL<|gN (aP yI) Sz wR 1 (xU rfl T.range gn)<|aj<|bX eB T.len DR<|aj<|ae 0<|aA ⟨R,_,rfl,.inl<|ai.of (hR.same s2).lst,aA ⟨_,rfl,?_,?_,λD hD=>?_⟩⟩
   ·rw [Aa];omega
   ·rw [Aa];omega
   rw [Aa,Bf,bY];refine Hn (λi σ' H'=>(∃ v,σ'=[some<|.ref R,some<|.ref d,some<|.ref p,some<|.ref d2,some<|.bl false,v5,v6,v7]++[v])/\ah H H'/\H' d2=some (.dK kvs)/\∃ ys,H' D=some (.lst ys)/\ys.length<=i) ⟨⟨_,rfl⟩,s2.trans<|aK hD _,by rw [au<|bd e2 hD];exact e2,[],av,Am _⟩ ?_ ?_
   ·rintro i σ' H' hi ⟨⟨v,rfl⟩,s4,e4,ys,eD,uZ⟩;rw [Dg];obtain⟨b,hb⟩:=all i hi;intro cl C s₀ H₀ ex;refine aW 8 q9k ?_;intro cl C s₀ H₀ ex;refine iE (cz i0<|dX cj<|ae 3<|ae 8 ⟨d2,vB b,rfl,by rw [<- hb];exact aU.k (k:=Sum.inl (i:Int)) e4,aD ⟨rfl,_,rfl,?_⟩⟩);have nD:d2≠D:=bQ e4 eD λz=>nomatch z;refine gg (λc=>?_) (λc=>⟨⟨_,rfl⟩,s4,e4,ys,eD,by omega⟩);intro cl C s₀ H₀ ex;refine ae 8 ⟨ys,eD,bH (by omega),⟨_,rfl⟩,db s4<|s2.free hD,by rw [au nD];exact e4,_,av,by rw [Ad];show ys.length+1<=i+1;omega⟩
   ·rintro σ' H' ⟨_,s4,_⟩;exact q1 D H' s4 whole
open PyProof.Rows (sortedS)
def Jr:Sp:=λvs H Q _=>∃(R W:Addr) (as:List<|Addr×Addr) (n:Net) (ts:List Addr) (es:List Nt.End),vs=[.ref R,.ref W]/\ak H R as n/\(n.map (·.1)).Nodup/\n.length<=1000/\H W=some (.lst<|ts.map V.ref)/\d7 n H ts es/\(∀ e∈es,e∈ends n)/\es.length<=1000/\(∀ l:List Str,l.Nodup->(∀ z∈l,z∈es.map (ay n))->l.length < 64) /\
 ∀(l:Addr) (ss:List Str) (H':Hp),ah H H'->H l=none->H' l=some (Ls ss)->cB ss->(∀ z,z∈ss↔(es.map<|ay n).count z=1)->Q (.ref l) H'
abbrev Js:List Str:=["_law_rows","_law_walker","_law_ties"]
abbrev qV:List Str:=["_law_rows","_law_walker","_law_ties","_law_end"]
abbrev wY:List Str:=["_law_rows","_law_walker","_law_ties","_law_end","_law_row"]
abbrev wZ:List Str:=["_law_rows","_law_walker","_law_ties","_law_tie"]
def w5:ao Js ["_law_rows","_law_walker"] (aP n8):=⟨rfl,rfl,rfl,by decide +kernel,rfl,by decide +kernel,by decide +kernel⟩
def q6t:qV.Nodup:=by decide +kernel
def q68:wY.Nodup:=by decide +kernel
def q7o:wZ.Nodup:=by decide +kernel
def q9x:Scope:=match gL n8 with
 | .Assign _ (.ListComp _ _ sc _) _ :: _=>sc
 | _=>aP n8
def q9c:Scope:=relabel q9x<|PyProof.Rows.envOfC "_law_core" (aP n8) 0 0 .none
def zU(L:List Str):(L.filter λz=>decide (L.count z=1)).Nodup:=by
 rw [List.nodup_iff_count];intro z
 by_cases h:L.count z=1
 ·rw [List.count_filter<|by simpa using h];omega
 ·rw [List.count_eq_zero_of_not_mem]
  ·omega
  ·intro hm;exact h<|BX (Bk.mp hm).2
def SD(L:List Str)(z:Str):z∈(L.filter λz=>decide (L.count z=1))↔L.count z=1:=by
 rw [Bk,CZ];exact⟨λh=>h.2,λh=>⟨Dr.mp (by omega),h⟩⟩
def q01{f:Addr}{fd:FuncData}(F:bu K "_law_core" "_law_core" n8 f fd)(T:Txt mg):aC P w K mg base bA 1 f fd ["_law_rows","_law_walker"] Jr:=by
 refine F.gb w5 (λvs H Q E h=>?_) λb0 H vs Q E hr h=>?_
 ·obtain⟨R,W,as,n,ts,es,rfl,_⟩:=h;rfl
 obtain⟨R,W,as,n,ts,es,rfl,hR,hN,hn,hW,hE,qd,hle,kU,q⟩:=h;have nd:=w5.nd;have bY:=hR.len;have hl:=hE.1;show Run _ _ _ [some<|.ref R,some<|.ref W,none] H;refine aT 2 nd<|gN (aP n8) Js qV 1 (eg bf)<|ae 1 ⟨W,rfl,⟨_,ai.of hW⟩,λD hD=>?_⟩;refine ka (xs:=ts.map V.ref) (λi σ' H'=>(∃ v,σ'=[some<|.ref R,some<|.ref W,none]++[v])/\ah H H'/\H' D=some (Ls<|(es.take i).map<|ay n)) ⟨⟨none,rfl⟩,aK hD _,av⟩ ?_ ?_ ?_
 ·rintro i σ' H' _ ⟨_,sm,_⟩;exact ai.of<|sm _ _ hW
 ·rintro i x σ' H' hx ⟨⟨v,rfl⟩,sm,eD⟩;rw [Af,Ap] at hx;obtain⟨t,ht,rfl⟩:=hx;have hi:i < es.length:=by have:=(Ac.mp ht).1;omega
  have he:es[i]?=some es[i]:=Ab hi;have lI:es.take (i+1)=es.take i++[es[i]]:=by rw [Bx,he];rfl
  generalize m4:es[i]=e at he lI;have lJ:=hE.2 i t e ht he;have sk:=qd e<|At he;obtain⟨z,hz⟩:=af.mp sk;have kL:ay n e=z:=dY hz;intro cl C s₀ H₀ ex;refine aW 3 q6t ?_;intro cl C s₀ H₀ ex;refine g7 ?_;rw [BL rfl];intro cl C s₀ H₀ ex;refine aZ cv<|gN q9c qV wY 1 (eg bf)<|ae 0 ⟨R,rfl,⟨_,ai.of<|sm _ _ hR.lst⟩,λD2 gW=>?_⟩;have nDD:D≠D2:=bd eD gW;refine ka (xs:=as.map λa=>V.ref a.1) (λj σ' H2=>(∃ v,σ'=[some<|.ref R,some<|.ref W,none,some<|.ref t]++[v])/\ah H' H2/\H2 D2=some (Ls (if e.1 < j then [z] else []))) ⟨⟨none,rfl⟩,aK gW _,av⟩ ?_ ?_ ?_
  ·rintro j σ' H2 _ ⟨_,ni,_⟩;exact ai.of<|ni _ _<|sm _ _ hR.lst
  ·rintro j x σ' H2 hx ⟨⟨v,rfl⟩,ni,lP⟩;have hj:j < n.length:=by
    have:=(Ac.mp hx).1;rw [Aa] at this;omega
   obtain⟨b,eb,eR,et,el,er⟩:=(hR.same<|sm.trans ni).at hj;rw [Af,eb] at hx;cases hx;have w6:=(sm.trans ni) _ _ lJ;intro cl C s₀ H₀ ex;refine aW 4 q68 ?_;intro cl C s₀ H₀ ex;refine iE<|cz i0<|aZ ce<|ae 4<|aD ⟨b.1,_,_,.str n[j].1,rfl,rfl,aM.of et,rfl,aZ ce<|ae 3<|aD ⟨t,_,_,.str<|nameAt n e.1,rfl,rfl,aM.of w6,rfl,rfl,_,rfl,?_⟩⟩;have mM:=dz hz;have ek:decide (V.str n[j].1=V.str (nameAt n e.1))=decide (e.1=j):=by
    refine decide_eq_decide.mpr ⟨λk=>?_,λk=>?_⟩
    ·have k:=V.str.inj k;exact(y9 hN hj mM<|by rw [jg hj];exact k).symm
    ·rw [<- qC hj,k]
   show if decide (V.str n[j].1=V.str (nameAt n e.1))=true then _ else _;rw [ek];refine gg (λc=>?_) λc=>?_
   ·have c:=BX c;subst c;intro cl C s₀ H₀ ex;have cA:(row n e.1)[e.2]?=some z:=hz;refine aZ cv<|aZ ce<|ae 4<|aD ⟨b.1,_,_,.ref b.2,rfl,rfl,aM.of et,rfl,aZ ce<|ae 3<|aD ⟨t,_,_,.int (e.2:Int),rfl,rfl,aM.of w6,rfl,b.2,_,_,.str z,rfl,rfl,ai.of el,uN cA,_,lP,?_,⟨_,rfl⟩,db ni gW,?_⟩⟩
    ·rw [BK<|Co _];exact bH<|by decide
    ·rw [av,BK<|Co _,BL<|QT _];rfl
   ·have c:=JB<|Ed.mpr c;refine⟨⟨_,rfl⟩,ni,?_⟩;rw [lP]
    by_cases k:e.1 < j
    ·rw [BL k,BL<|by omega]
    ·rw [BK k,BK<|by omega]
  ·rintro σ' H2 ⟨_,ni,lP⟩;rw [Aa,bY,BL<|dz hz] at lP;refine aD ⟨D2,_,_,.str z,rfl,rfl,ai.of lP,rfl,_,ni _ _ eD,?_,⟨_,rfl⟩,db (sm.trans ni) hD,?_⟩
   ·rw [Aa,Aa,Bd];exact bH<|by omega
   ·rw [av,lI,Ai];show some (HO.lst<|((es.take i).map<|ay n).map V.str++[V.str z])=some (HO.lst<|((es.take i).map (ay n)++[ay n e]).map V.str);rw [Ai];show some (HO.lst<|((es.take i).map<|ay n).map V.str++[V.str z])=some (HO.lst<|((es.take i).map<|ay n).map V.str++[V.str<|ay n e]);rw [kL]
 rintro σ' H' ⟨_,sm,eD⟩;have qW:es.take (ts.map V.ref).length=es:=Dc (by rw [Aa];omega);rw [qW] at eD;show Run _ _ _ [some<|.ref R,some<|.ref W,some<|.ref D] H';generalize Jt:es.map (ay n)=L at eD kU q;have HU:L.length<=1000:=by rw [<- Jt,Aa];exact hle
 refine bL<|bX uJ T.sorted CP<|aj<|gN (aP n8) Js wZ 1 (eg bf)<|ae 2 ⟨D,rfl,⟨_,ai.of eD⟩,λD3 qX=>?_⟩;have n3:D≠D3:=bd eD qX;refine rX (λz=>decide (L.count z=1)) (bH<|by omega) eD qX (λcl C s0 H0 ex v v0 H' R' h=>aW 3 q7o h) (λcl C s0 H0 ex z zs T' h=>iE<|cz i0<|uL CW KC KD Sl<|ae 2 (v:= .ref D) ⟨Or.inl ⟨rfl,_,ai.of<|by rw [au n3];exact eD⟩,ae 3 ⟨D,L,z,rfl,rfl,ai.of (by rw [au n3];exact eD),aD ⟨rfl,_,rfl,?_⟩⟩⟩) (λcl C s0 H0 ex z H' R' h=>ae 3 h) ?_
 ·have ek:decide (V.int (L.count z:Int)=V.int 1)=decide (L.count z=1):=decide_eq_decide.mpr ⟨λk=>by have:=V.int.inj k;omega,λk=>by rw [k];rfl⟩;show T' (decide (V.int (L.count z:Int)=V.int 1)) _;rw [ek];exact h
 refine aA ⟨D3,_,rfl,ai.of av,kU _ (zU L) λz hz=>(Bk.mp hz).1,λl ss gJ cL fS=>?_⟩;have s3:=sm.trans<|aK qX<|Ls<|L.filter λz=>decide (L.count z=1);exact q l ss _ (s3.trans<|aK gJ _) (s3.free gJ) av (sJ fS<|cL.nodup_iff.mpr<|zU L) λz=>by rw [cL.mem_iff];exact SD L z
end
end Q2
namespace L2
open PySem PySem.Spec PyProof.Rows
section
variable{X:Cx}{σ:St}{H:Hp}
end
structure Xo(h:Heap)(e T:Addr)(C fl:Value):Prop where
 ex:∃ oe vs,h.get? e=some oe/\oe.cls=C/\oe.dict=none/\oe.data = .fields vs/\vs[1]?=some (.ref T)/\vs[2]?=some .none
 ne:T≠e
 tr:∃ oT ts,h.get? T=some oT/\oT.data = .fields ts/\ts[3]?=some fl
structure Kp(fs bad:List Addr)(h h':Heap):Prop where
 keep:∀ b o,h.get? b=some o->b∉fs->b∉bad->h'.get? b=some o
 slot:∀ b o,h.get? b=some o->b∈fs->∃ sl,h'.get? b=some {o with slots:=sl}
def j67(o:Obj)(f:Array Value->Array Value):(o.mapFields f).dict=o.dict:=by
 obtain⟨c,d,dt,sl⟩:=o;cases dt <;> rfl
section
variable{M:Model}{A:Around}{E:Value->Shared->Prop}{s:Shared}
def SE{base:Heap}{env:Env}{outer:List Env}{L e:Addr}{oe:Obj}{vs:Array Value}{head:Value}{nx:Bool}{Q:Unit->Shared->Prop}(iD:A.frames=some (env :: outer))(hl:s.heap.FunFrames base<|env :: outer)(hf:env.frame=some L)
  (he:s.heap.get? e=some oe) (hd:oe.data = .fields vs) (oR:oe.dict=none) (h1:1 < vs.size) (h2:vs[2]?=some .none)
  (h:∀ h' T,s.heap.get? T=none->Xo h' e T oe.cls .none->Kp (di<|env :: outer) [e] s.heap h'->Q () {s with heap:=h'}) :
  wpAny M A (do let a <- frameOf env;let pl <- entryPlaceOf L nx;let b <- EntryCells.newEntry head a .none (rawInt L) .none pl;setField (.ref e) 1 b) (λ_ s'=>wpAny M A (setFlight (.ref e) none) Q E s') E s:=by
 have SF:e∉di (env :: outer):=λhm=>by
  obtain⟨_,o,ho,hn⟩:=hl.mem hm;rw [he] at ho;cases ho;exact hn vs hd
 refine BJ<|wpAny_frameOf_fun iD hl hf λha sa=>?_;refine BJ<|wpAny_entryPlaceOf λpl ip=>?_;unfold EntryCells.newEntry newFields;refine BJ<|CQ ?_<|ip.sizeOk5 _ _ _ _ _;generalize hT:({cls:= .type "traceback",dict:=none,data:= .fields ([head,.ref L,.none,rawInt L,.none]++(if pl.isEmpty then List.replicate 6 Value.none else pl)).toArray}:Obj)=oT;have ea:ha.get? e=some oe:=(sa.2.1 e SF).trans he;have eb:(ha.push oT).get? e=some oe:=Ae _ ea;have tb:(ha.push oT).get? ha.objs.size=some oT:=Aq ha (by rw [<- hT];rfl);have Ju:ha.objs.size≠e:=Cm<|Ar ea;refine DG eb hd h1 ?_;have dc:=JW hd (·.setIfInBounds 1 (Value.ref ha.objs.size));have ec:=Cr (Obj.mapFields (·.setIfInBounds 1 (Value.ref ha.objs.size))) eb<|JK dc;have tc:((ha.push oT).update e (Obj.mapFields (·.setIfInBounds 1 (Value.ref ha.objs.size)))).get? ha.objs.size=some oT:=(Br _ _<|CG Ju).trans tb;unfold setFlight;refine BJ (HX ec dc (x:= .ref ha.objs.size) (by simp [h1]) ?_);rw [BL (show(Value.ref ha.objs.size != Value.none)=true from by simp)];have dT:oT.data = .fields ([head,.ref L,.none,rawInt L,.none]++(if pl.isEmpty then List.replicate 6 Value.none else pl)).toArray:=by rw [<- hT]
 have sz:3 < ([head,.ref L,.none,rawInt L,.none]++(if pl.isEmpty then List.replicate 6 Value.none else pl)).toArray.size:=by
  simp only [Aw,Ad,Ax,Em];omega
 refine DG tc dT sz<|h _ ha.objs.size (by
  cases hq:s.heap.get? ha.objs.size with
  | none=>rfl
  | some o=>
   obtain⟨sl,z⟩:=sa.2.2 _ o hq;exact absurd (Ar z)<|Co _) ?_ ?_
 ·have dd:=JW dT (·.setIfInBounds 3 ((none:Option Addr).elim Value.none λf=>rawInt f));refine⟨⟨_,_,(Br _ _ Ju).trans ec,Obj.cls_mapFields _ _,by rw [j67];exact oR,dc,by simp [h1],by rw [Array.getElem?_setIfInBounds_ne<|by decide];exact h2⟩,Ju,⟨_,_,Cr _ tc<|JK dd,dd,?_⟩⟩;rw [Ex sz];rfl
 ·have kp:∀ b o,b≠e->ha.get? b=some o->(((ha.push oT).update e (Obj.mapFields (·.setIfInBounds 1 (Value.ref ha.objs.size)))).update ha.objs.size (Obj.mapFields (·.setIfInBounds 3 ((none:Option Addr).elim Value.none λf=>rawInt f)))).get? b=some o:=λb o hb q=>by
   rw [Br _ _<|Cm<|Ar q,Br _ _<|CG hb];exact Ae _ q
  refine⟨λb o q nf nb=>kp b o (λz=>nb<|by simp [z])<|(sa.2.1 b nf).trans q,λb o q hb=>?_⟩;obtain⟨sl,z⟩:=sa.2.2 b o q;exact⟨sl,kp b _ (λy=>SF<|y ▸ hb) z⟩
def k9i{base:Heap}{env:Env}{outer:List Env}{L e:Addr}{oe:Obj}{vs:Array Value}{Q:Unit->Shared->Prop}(iD:A.frames=some (env :: outer))(hl:s.heap.FunFrames base<|env :: outer)(hf:env.frame=some L)
  (he:s.heap.get? e=some oe) (hd:oe.data = .fields vs) (oR:oe.dict=none) (h1:vs[1]?=some .none) (h2:vs[2]?=some .none)
  (h:∀ h' T,s.heap.get? T=none->Xo h' e T oe.cls .none->Kp (di<|env :: outer) [e] s.heap h'->Q () {s with heap:=h'}) :
  wpAny M A (noteFrame (.ref e) env) (λ_ s'=>wpAny M A (setFlight (.ref e) none) Q E s') E s:=by
 unfold noteFrame;simp only [hf];refine BJ<|HX he hd h1 ?_;rw [BK<|by decide];exact SE iD hl hf he hd oR (Dy.mp h1).1 h2 h
def q3y{base:Heap}{env:Env}{outer:List Env}{L e T:Addr}{C:Value}{Q:Unit->Shared->Prop}(iD:A.frames=some (env :: outer))(hl:s.heap.FunFrames base<|env :: outer)(hf:env.frame=some L)(x:Xo s.heap e T C .none)
  (h:∀ h' T',s.heap.get? T'=none->Xo h' e T' C .none->Kp (di<|env :: outer) [e,T] s.heap h'->Q () {s with heap:=h'}) :
  wpAny M A (noteFrame (.ref e) env) (λ_ s'=>wpAny M A (setFlight (.ref e) none) Q E s') E s:=by
 obtain⟨⟨oe,vs,he,hc,oR,hd,h1,h2⟩,bw,⟨oT,ts,hT,dT,h3⟩⟩:=x;subst hc;unfold noteFrame;simp only [hf];refine BJ<|HX he hd h1 ?_;rw [BL (show(Value.ref T != Value.none)=true from by simp)];refine BJ<|HX hT dT h3 ?_;rw [BK (show ¬((Value.none == rawInt L)=true) from by simp [rawInt])];refine BJ<|DG hT dT (Dy.mp h3).1 ?_;have nT:∀ b,b≠T->(s.heap.update T (Obj.mapFields (·.setIfInBounds 3 Value.none))).get? b=s.heap.get? b:=λb hb=>Br _ _<|CG hb;have SG:∀ b o,s.heap.get? b=some o->(∀ vs,o.data ≠ .fields vs)->b≠T:=λb o q hn z=>by
  rw [z,hT] at q;cases q;exact hn ts dT
 have nf:T∉di (env :: outer):=λhm=>by
  obtain⟨_,o,ho,hn⟩:=hl.mem hm;exact SG T o ho hn rfl
 refine SE iD (hl.of_keeps λb o q hn=>⟨o,(nT b<|SG b o q hn).trans q,rfl⟩) hf ((nT e<|CG bw).trans he) hd oR (Dy.mp h1).1 h2 λh' T' z x k=>h h' T' ?_ x ⟨λb o q n1 n2=>?_,λb o q hb=>?_⟩
 ·cases hq:s.heap.get? T' with
  | none=>rfl
  | some o=>
   by_cases y:T'=T
   ·have:=Cr (Obj.mapFields (·.setIfInBounds 3 Value.none)) hT<|JK<|JW dT _;rw [y] at z;exact absurd (this.symm.trans z)<|by simp
   ·have:=(nT T' y).trans hq;exact absurd (this.symm.trans z)<|by simp
 ·have n3:b≠T:=λy=>n2 (by simp [y]);exact k.keep b o ((nT b n3).trans q) n1 λy=>n2<|by simp at y;simp [y]
 ·exact k.slot b o ((nT b λy=>nf<|y ▸ hb).trans q) hb
def k43{e T:Addr}{C:Value}{Q:Unit->Shared->Prop}(x:Xo s.heap e T C .none)(h:∀ h',Xo h' e T C .none->(∀ b o,b≠T->s.heap.get? b=some o->h'.get? b=some o)->Q () {s with heap:=h'}):wpAny M A (setFlight (.ref e) none) Q E s:=by
 obtain⟨⟨oe,vs,he,hc,oR,hd,h1,h2⟩,bw,⟨oT,ts,hT,dT,h3⟩⟩:=x;unfold setFlight;refine BJ<|HX he hd h1 ?_;rw [BL (show(Value.ref T != Value.none)=true from by simp)];have sz:=(Dy.mp h3).1;have dd:=JW dT (·.setIfInBounds 3 ((none:Option Addr).elim Value.none λf=>rawInt f));refine DG hT dT sz<|h _ ⟨⟨oe,vs,(Br _ _ bw).trans he,hc,oR,hd,h1,h2⟩,bw,⟨_,_,Cr _ hT<|JK dd,dd,?_⟩⟩ λb o hb q=>(Br _ _<|CG hb).trans q;rw [Ex sz];rfl
end
def Jv{fs f2 bad:List Addr}{H H':Hp}{h h1 h2:Heap}(u:Un fs [] H H' h h1)(k:Kp f2 bad h1 h2)(hf:∀ b o,h.get? b=some o->b∈f2->b∈fs)(hb:∀ b∈bad,h.get? b=none):Un fs [] H H' h h2:=by
 have nb:∀ b o,h.get? b=some o->b∉bad:=λb o q z=>by rw [hb b z] at q;cases q
 refine⟨λb o q n nf _=>k.keep b o (u.keep b o q n nf<|by simp) (λz=>nf<|hf b o q z)<|nb b o q,λb o q n hm _=>?_,u.free,λb o q _=>?_,u.dP,u.du,u.dQ⟩
 ·obtain⟨sl,z⟩:=u.slot b o q n hm<|by simp
  by_cases y:b∈f2
  ·obtain⟨xP,z'⟩:=k.slot b _ z y;exact⟨xP,z'⟩
  ·exact⟨sl,k.keep b _ z y<|nb b o q⟩
 ·obtain⟨o',z⟩:=u.there b o q<|by simp
  by_cases y:b∈f2
  ·obtain⟨xP,z'⟩:=k.slot b _ z y;exact⟨_,z'⟩
  ·exact⟨o',k.keep b _ z y<|nb b o q⟩
def SH{P:Program}{w:World}{f2 bad:List Addr}{H:Hp}{h1 h2:Heap}(x:b8 P w H h1)(k:Kp f2 bad h1 h2)(hf:∀ b∈f2,H b=none)(hb:∀ b∈bad,H b=none):b8 P w H h2:=λa o e=>by
 refine(x a o e).fk (λb u hh q=>k.keep b u q (λz=>?_) λz=>?_) (λ_ q=>q) λ_ _ q=>q
 ·have:=hf b z
  rcases hh with y | y
  ·rw [y,e] at this;cases this
  ·rw [y] at this;cases this
 ·have:=hb b z
  rcases hh with y | y
  ·rw [y,e] at this;cases this
  ·rw [y] at this;cases this
theorem q7r{P:Program}{w:World}{H:Hp}{h:Heap}{a:Addr}{o:HO}(x:az P w H h a o):∃ u,h.get? a=some u:=by
 cases o with
 | lst xs=>obtain⟨_,_,_,_,q⟩:=x;exact⟨_,q⟩
 | tup xs=>obtain⟨_,_,_,u,q,_⟩:=x;exact⟨_,q⟩
 | dK kvs=>obtain⟨_,_,_,_,u,_,_,q,_⟩:=x;exact⟨_,q⟩
 | dT kvs=>obtain⟨_,_,_,_,u,_,_,q,_⟩:=x;exact⟨_,q⟩
 | set S n=>obtain⟨u,_,_,_,q,_⟩:=x;exact⟨_,q⟩
 | ins C dx fs=>obtain⟨_,_,_,q,_⟩:=x;exact⟨_,q⟩
 | own y=>exact x
 | xd fs=>obtain⟨_,⟨_,_,_,q,_⟩,_⟩:=x;exact⟨_,q⟩
 | o7 lo hi=>obtain⟨_,_,_,q⟩:=x;exact⟨_,q⟩
 | bh ob u=>obtain⟨q,_⟩:=x;exact⟨_,q⟩
 | nB ps=>exact⟨_,x⟩
 | met f y=>exact⟨_,x⟩
 | ext φ=>obtain⟨_,q,_⟩:=x;exact q
def XF(P:Program)(w:World):fN:=λouter H s E e s'=>∃(ea T:Addr) (C:Value) (H':Hp),e = .ref ea/\E C none H'/\s'.os=s.os/\AllBare s'.gens/\Un (di outer) [] H H' s.heap s'.heap/\b8 P w H' s'.heap/\Xo s'.heap ea T C .none /\
 s.heap.get? ea=none/\s.heap.get? T=none/\H' ea=none/\H' T=none
section
variable{P:Program}{w:World}{K:PySem.W.Frag}{mg:Str->Option Value}{base:Heap}{N:List Str}{qual:Str}{scope:Scope}{f:Addr}{cd:Value}{A:Around}{outer:List Env}{s:Shared}{H:Hp}{E:XK}
def q5d:di (envOfC qual scope s.heap.objs.size f cd :: outer)=s.heap.objs.size :: di outer:=rfl
theorem Jw{b:Addr}{fs ex:List Addr}{Ha Hb:Hp}{h h1:Heap}(u:Un fs ex Ha Hb h h1)(hx:b∉ex)(n:h1.get? b=none):h.get? b=none:=by
 cases q:h.get? b with
 | none=>rfl
 | some o=>obtain⟨o',z⟩:=u.there b o q hx;rw [n] at z;cases z
theorem Jx{P:Program}{w:World}{Ha:Hp}{h1:Heap}{b:Addr}(x:b8 P w Ha h1)(n:h1.get? b=none):Ha b=none:=by
 cases q:Ha b with
 | none=>rfl
 | some o=>
  exfalso
  obtain⟨u,z⟩:=q7r<|x b o q;rw [n] at z;cases z
end
abbrev nj:List Value:=[.type "ValueError",.type "Exception",.type "BaseException",.type "object"]
def XC(K:PySem.W.Frag)(C:Addr):Prop:=PySem.W.excIn K C nj "ValueError.__new__" = true
def XC.obj{K:PySem.W.Frag}{h:Heap}{C:Addr}(q:XC K C)(X:K.In h):∃ bm N nm qn bs hdct sn sub ab col dd k0 k1 k2 k3 k5 mN,h.get? C=some (excClassObj nm qn C N bs bm hdct sn sub ab col dd k0 k1 k2 k3 k5 "ValueError.__new__")/\h.Ns N mN/\mN "__init__" = none/\OwnTail h nj bm:=by
 unfold XC PySem.W.excIn at q
 split at q
 ·rename_i dd cd sl ho
  split at q
  ·rename_i D bm k0 k1 k2 k3 n k5 hm hs;simp only [Bq,JX,Bool.not_eq_true'] at q;obtain⟨⟨⟨⟨⟨eD,en⟩,w8⟩,ht⟩,aB⟩,vW⟩:=q;obtain⟨nm,bs,mro,ns,qn,hd,sn,sub,ab,col,del⟩:=cd
   dsimp only at hm w8 aB vW
   subst eD en hm w8;have esl:sl=#[k0,k1,k2,k3,some<|.builtin "ValueError.__new__",k5]:=by
    cases sl;simp only at hs;rw [hs]
   subst esl;exact⟨bm,ns,nm,qn,bs,hd,sn,sub,ab,col,dd,k0,k1,k2,k3,k5,_,X _ _ ho,.of_isNs<|PySem.W.isNs_of_in X aB,PySem.W.nsMap_none_of_in X aB vW,PySem.W.tail_of_in X ht⟩
  ·cases q
 ·cases q
section
variable{X:Cx}{σ:St}{H:Hp}{D:Ends}{rest:List Stmt}
def Rz(X:Cx)(E:St->XK):Prop:=∀(pins:List<|Addr×Obj) (σ:St) (H:Hp) (s:Shared) (h':Heap) (e C:Addr) (args:List Value),Inv X pins σ H s->Heap.MadeExcOf s.heap h' e (.ref C) args->E σ (.ref C) none H->X.xe (.ref e) {s with heap:=h'}
def k7s{E:St->XK}(hz:Rz X E){x:Str}{C:Addr}{a:Expr}{np cp pos:Pos}(hm:X.mg x=some (.ref C))(hC:XC X.K C)(hc:X.calm=true)(h:Ea X [a] σ H λvs H1=>vs.length<=sizeLine/\E σ (.ref C) none H1)(hg:Gl X x:=by rfl)(cP:(x == ("__debug__" : Str))=false:=by decide)
  (he:starEach [a] X.env=(false,eval a X.env) :: starEach [] X.env:=by rfl):Run X (.Raise (some<|.Call (.Name x np) [a] [] cp) none pos :: rest) D σ H:=by
 refine ju (t:=λD σ H=>Ea X [a] σ H λvs H1=>vs.length<=sizeLine/\E σ (.ref C) none H1) ?_ h;intro pins s σ H D I h;obtain⟨bm,N,nm,qn,bs,hdct,sn,sub,ab,col,dd,k0,k1,k2,k3,k5,mN,oC,oN,oi,oT⟩:=hC.obj I.ok.mod.pc;refine wpAny_Raise_call_subT (C:=C) (nm:=nm) (q:=qn) (N:=N) (bs:=bs) (bm:=bm) (hdct:=hdct) (sn:=sn) (sub:=sub) (ab:=ab) (col:=col) (dd:=dd) (k0:=k0) (k1:=k1) (k2:=k2) (k3:=k3) (k5:=k5) PySem.F.excBase_ValueError (mN:=mN) (oT.hasType PySem.F.excBase_ValueError.hasBase) (I.ok.hd hc) (by rw [he];rfl) oi<|tT I hg hm ⟨rfl,?_⟩ cP;have q:=h.run cp pins s I;rw [he] at q ⊢;refine MK<|aF q λus s2 ⟨vs,H2,I2,r,z2,q2⟩=>⟨rfl,by rw [<- r.length];exact z2,I2.bk _ _ oC,oN.keeps I2.bk,oT.keeps I2.bk,λh' e hx=>hz pins σ H2 s2 h' e C us I2 hx q2⟩
end
section
variable{P:Program}{w:World}{K:PySem.W.Frag}{mg:Str->Option Value}{base:Heap}{N:List Str}{qual:Str}{scope:Scope}{f:Addr}{cd:Value}{A:Around}{outer:List Env}{s:Shared}{H:Hp}{E:XK}
def q7k{h h':Heap}(k:∀ b o,h.get? b=some o->h'.get? b=some o):Kp [] [] h h':=⟨λb o q _ _=>k b o q,λb o q z=>absurd z<|by simp⟩
def q9m:Rz (eN (XF P w) P w K mg base N qual scope f cd A outer s H E) (λ_=>E):=by
 intro pins σ H1 s1 h' e C args I hx hE;obtain⟨t,he,_,_⟩:=hx.there;show wpAny (model P w) (A.deeper<|envOfC qual scope s.heap.objs.size f cd) (leaving (envOfC qual scope s.heap.objs.size f cd)<|.ref e) _ _ _;unfold leaving;have n0:H1 e=none:=Jx I.aB hx.new;have k1:=q7k hx.keeps;refine BJ<|k9i (s:={s1 with heap:=h'}) (base:=base) (outer:=outer) I.ok.frames (I.stack.of_keeps λb o q _=>⟨o,hx.keeps b o q,rfl⟩) rfl he rfl rfl rfl rfl λh2 T z x k=>?_;have Jy:b8 P w H1 h':=I.aB.kept hx.keeps;have un1:Un (di outer) [] H H1 s.heap h':=Jv (H:=H) (h:=s.heap) I.base k1 (λb o q hb=>absurd hb<|by simp) λb hb=>absurd hb (by simp);have nT:s1.heap.get? T=none:=by
  cases q:s1.heap.get? T with
  | none=>rfl
  | some o=>have:=hx.keeps _ _ q;exact absurd (this.symm.trans z)<|by simp
 have ns:s.heap.get? e=none:=Jw (ex:=[]) (Hb:=H1) I.base (by simp) hx.new;refine⟨e,T,.ref C,H1,rfl,hE,I.os,I.bare,Jv un1 k (λb o q hb=>?_) λb hb=>?_,SH Jy k (λb hb=>I.dI b hb) λb hb=>?_,x,ns,Jw (ex:=[]) (Hb:=H1) I.base (by simp) nT,n0,Jx I.aB nT⟩
 ·rw [q5d] at hb
  rcases Al.mp hb with y | y
  ·exact absurd (Ar q)<|by rw [y];exact Co _
  ·exact y
 ·rw [Ag.mp hb];exact ns
 ·rw [Ag.mp hb];exact n0
def SK(N:List Str)(qual:Str)(scope:Scope)(P:Program)(w:World)(K:PySem.W.Frag)(mg:Str->Option Value)(base:Heap)(b:uE):Cx:=eN (XF P w) P w K mg base N qual scope b.f b.bE b.A b.outer b.s b.H b.E
def bu.gx{x:Str}{st:Stmt}{fd:FuncData}{ps:List Str}{k:Nat}{sp:Sp}(F:bu K x qual st f fd)(S:ao N ps<|aP st)(len:∀ vs H Q E,sp vs H Q E->vs.length=ps.length)
  (cQ:∀(b:uE) (H:Hp) (vs:List V) (Q:VK),bo k (b.A.deeper<|envOfC qual (aP st) b.s.heap.objs.size b.f b.bE)->sp vs H Q b.E->Run (SK N qual (aP st) P w K mg base b) (gL st) (En Q) (start N vs) H):aC P w K mg base (XF P w) (k+1) f fd ps sp:=by
 obtain⟨oc,od,kV,doc,pm,an,bE,ct,jO,rfl,lk,iw⟩:=F.ex;refine ML lk iw S len λA outer s H vs Q E hr dM=>?_;exact⟨_,nR,cQ ⟨f,bE,A,outer,s,H,E⟩ H vs Q hr dM⟩
def rzX{b:uE}:Rz (SK N qual scope P w K mg base b) (λ_=>b.E):=q9m
end
structure gG(P:Program)(w:World)(K:PySem.W.Frag)(mg:Str->Option Value)(base:Heap)(k:Nat)(x:Str)(ps:List Str)(sp:Sp):Prop where
 ex:∃ f fd,aC P w K mg base (XF P w) k f fd ps sp/\Binds K fd ps []/\PySem.W.keepIn K (.ref f)=true/\mg x=some (.ref f)
def gG.mono{P:Program}{w:World}{K:PySem.W.Frag}{mg:Str->Option Value}{base:Heap}{j k:Nat}{x:Str}{ps:List Str}{sp:Sp}(h:gG P w K mg base j x ps sp)(le:j<=k):gG P w K mg base k x ps sp:=
 let ⟨f,fd,F,r⟩:=h.ex;⟨f,fd,F.mono le,r⟩
def q9s{X:Cx}{k:Nat}{ps:List Str}{sp:Sp}{x:Str}{e:Expr}{es:List Expr}{σ:St}{H:Hp}{Q:VK}{E:XK}{p pos:Pos}(G:gG X.prog X.w X.K X.mg X.base k x ps sp)(hr:bo k X.A)(hx:rA (XF X.prog X.w) X E)
  (h:Ea X (e :: es) σ H λvs H1=>sp vs H1 Q E) (hg:Gl X x:=by rfl) (cP:(x == ("__debug__" : Str))=false:=by decide) (hs:noStar (e :: es)=true:=by rfl):Ev X (.Call (.Name x p) (e :: es) [] pos) σ H Q:=
 let ⟨_,_,F,b,kp,m⟩:=G.ex;Nv F hr m kp b hx h hg cP hs
def Df.Jz{P:Program}{w:World}{K:PySem.W.Frag}{mg:Str->Option Value}{h base:Heap}{k:Nat}{x:Str}{st:Stmt}{ps:List Str}{sp:Sp}(d:Df K x st)(X:K.In h)(G:h.Ns mainGlobals mg)
  (hb:∀(kV doc pm:Value) (an:Option Addr) (bE ct:Value) (us:List Value),us.length=ps.length->bindArgs (PySem.W.fnOf x x (nP st) (gL st) (aP st) .none kV doc pm an bE ct) ⟨us,[]⟩=pure (ps.zip us))
  (ok:∀{f:Addr} {fd:FuncData},bu K x x st f fd->aC P w K mg base (XF P w) k f fd ps sp):gG P w K mg base k x ps sp:=
 let ⟨f,fd,a,F⟩:=d;⟨f,fd,ok F,F.binds hb,F.kp,KZ X G a⟩
def JA(CX:fN)(X:Cx)(σ:St)(E:XK):Prop:=∀(pins:List<|Addr×Obj) (H:Hp) (s:Shared) (e:Value) (s':Shared),Inv X pins σ H s->CX X.stack H s E e s'->X.xe e s'
section
variable{X:Cx}{CX:fN}{k:Nat}{f:Addr}{fd:FuncData}{ps:List Str}{sp:Sp}{E:XK}{x:Str}{p pos:Pos}{e:Expr}{es:List Expr}{σ:St}{H:Hp}{Q:VK}
theorem k8v(F:aC X.prog X.w X.K X.mg X.base CX k f fd ps sp)(hr:bo k X.A)(hm:X.mg x=some (.ref f))(hk:PySem.W.keepIn X.K (.ref f)=true)(hb:Binds X.K fd ps [])(hx:JA CX X σ E)(h:Ea X (e :: es) σ H λvs H1=>sp vs H1 Q E)
  (hg:Gl X x:=by rfl) (cP:(x == ("__debug__" : Str))=false:=by decide) (he:starEach (e :: es) X.env=(false,eval e X.env) :: starEach es X.env:=by rfl) (jN:(backTo pos<|starEach es X.env).any (·.1)=false:=by rfl):Ev X (.Call (.Name x p) (e :: es) [] pos) σ H Q:=by
 refine⟨λpins s I=>IV<|tT I hg hm ?_ cP⟩;refine PySem.W.callWith_K (h₀:=X.base) I.ok.mod.pc hk (aF (h.run pos pins s I) λus s1 ⟨vs,H1,I1,r,q⟩=>⟨I1.d9,?_⟩) he jN;have hl:us.length=ps.length:=by rw [<- r.length];exact F.len _ _ _ _ q
 have gJ:(us++[]).length=ps.length:=by rw [Ba];exact hl
 have kG:=hb s1 us I1.d9 gJ;rw [Ba] at kG;refine wpAny_call<|JG (F.run X.A X.stack s1 H1 ⟨us,[]⟩ us vs Q E hr I1.ua kG r q) λr s' hq=>?_;cases r with
 | error y=>exact hx pins H1 s1 y s' I1 hq
 | ok fl=>
  cases fl with
  | ret u=>exact I1.after hq
  | next=>exact False.elim hq
  | brk=>exact False.elim hq
  | cont=>exact False.elim hq
def q20(G:gG X.prog X.w X.K X.mg X.base k x ps sp)(hr:bo k X.A)(hx:JA (XF X.prog X.w) X σ E)(h:Ea X (e :: es) σ H λvs H1=>sp vs H1 Q E)
  (hg:Gl X x:=by rfl) (cP:(x == ("__debug__" : Str))=false:=by decide) (he:starEach (e :: es) X.env=(false,eval e X.env) :: starEach es X.env:=by rfl) (jN:(backTo pos<|starEach es X.env).any (·.1)=false:=by rfl):Ev X (.Call (.Name x p) (e :: es) [] pos) σ H Q:=
 let ⟨_,_,F,b,kp,m⟩:=G.ex;k8v F hr m kp b hx h hg cP he jN
end
abbrev XO(oe:Obj):HO:= .bh oe<|.own 0
structure zV(oe:Obj)(C:Value):Prop where
 cls:oe.cls=C
 dict:oe.dict=none
 data:∃ vs,oe.data = .fields vs/\vs[2]?=some .none
abbrev Cx.bP(X:Cx)(p:List<|Addr×Obj):Cx:={X with pn:=X.pn++p}
structure w9(X:Cx)(pins:List<|Addr×Obj)(b:Addr):Prop where
 l:b≠X.env.locals
 c:∀ x c,X.env.cells.lookup x=some c->c≠b
 p:∀ q∈X.pn++pins,q.1≠b
 f:b∉X.fs
 s:X.s₀.heap.get? b=none
section
variable{X:Cx}{pins:List (Addr×Obj)}{σ:St}{H:Hp}{s:Shared}{b:Addr}
def JE(I:Inv X pins σ H s)(hex:X.ex=[])(n:s.heap.get? b=none):w9 X pins b:=by
 refine⟨λz=>?_,λx c e z=>?_,λq hq z=>?_,λz=>?_,Jw I.base (by rw [hex];simp) n⟩
 ·obtain⟨m,⟨o,_,_,ho,_⟩,_⟩:=I.loc;rw [<- z,n] at ho;cases ho
 ·obtain⟨v,o,ho,_⟩:=I.cell x c e;rw [z,n] at ho;cases ho
 ·have:=(I.pin q hq).1;rw [z,n] at this;cases this
 ·obtain⟨_,o,ho,_⟩:=I.cr.mem z;rw [n] at ho;cases ho
def Inv.kp{bad:List Addr}{h':Heap}{t':Nat}(I:Inv X pins σ H s)(hex:X.ex=[])(k:Kp (di X.stack) bad s.heap h')(ha:∀ b∈bad,w9 X pins b)(hn:∀ b∈bad,H b=none):Inv X pins σ H {s with heap:=h',toks:=t'}:=by
 have kc:∀ x c,X.env.cells.lookup x=some c->∀ v,s.heap.IsCell c v->h'.IsCell c v:=λx c e v ⟨o,ho,hd⟩=>by
  by_cases y:c∈di X.stack
  ·obtain⟨sl,z⟩:=k.slot c o ho y;exact⟨_,z,hd⟩
  ·exact⟨o,k.keep c o ho y λw=>(ha c w).c x c e rfl,hd⟩
 have kl:∀ m,s.heap.Ns X.env.locals m->h'.Ns X.env.locals m:=λm hm=>by
  obtain⟨o,es,ep,ho,r⟩:=hm
  by_cases y:X.env.locals∈di X.stack
  ·obtain⟨sl,z⟩:=k.slot _ o ho y;exact⟨_,es,ep,z,r⟩
  ·exact⟨o,es,ep,k.keep _ o ho y λw=>(ha _ w).l rfl,r⟩
 refine⟨I.ok,I.os,I.bare,?_,?_,λx c e=>?_,I.free,I.bt,λp hp=>?_,SH I.aB k (λb hb=>I.dI b hb) hn,I.len⟩
 ·have u:=I.base;rw [hex] at u ⊢;refine Jv u k (λb o q hb=>?_) λb hb=>(ha b hb).s
  rcases Al.mp (I.cX b hb) with y | y
  ·exact absurd (Bb (Ar q) I.ok.above)<|by rw [y];exact Co _
  ·exact y
 ·obtain⟨m,hm,hl⟩:=I.loc;refine⟨m,kl m hm,λi x v e1 e2 e3=>?_⟩;obtain⟨u,r,q⟩:=hl i x v e1 e2 e3;refine⟨u,r,?_⟩
  rcases q with q | ⟨y,c,e,z⟩
  ·exact .inl q
  ·exact .inr ⟨y,c,e,kc x c e _ z⟩
 ·obtain⟨v,z⟩:=I.cell x c e;exact⟨v,kc x c e v z⟩
 ·obtain⟨e,n,ne,nf,d⟩:=I.pin p hp;refine⟨k.keep _ _ e (λy=>?_) λw=>(ha _ w).p p hp rfl,n,ne,nf,d⟩
  rcases Al.mp (I.cX _ y) with z | z
  ·exact ne z
  ·exact nf z
def Inv.xa{o:HO}(I:Inv X pins σ H s)(hex:X.ex=[])(a:w9 X pins b)(n:H b=none)(ho:az X.prog X.w (upd H b o) s.heap b o):Inv X pins σ (upd H b o) s:=by
 have u:=I.base;have ne:∀ c o',H c=some o'->c≠b:=λc o' q z=>by rw [z,n] at q;cases q
 refine⟨I.ok,I.os,I.bare,⟨u.keep,u.slot,λc o' q n' hx=>?_,u.there,λc xs q=>?_,λc o' v q=>?_,λc ps q=>?_⟩,I.loc,I.cell,by rw [au<|CG a.l];exact I.free,λx c e=>by rw [au<|a.c x c e];exact I.bt x c e,λp hp=>?_,λc o' q=>?_,I.len⟩
 ·have:c≠b:=λz=>by rw [z,a.s] at q;cases q
  rw [au this];exact u.free c o' q n' hx
 ·have q':=u.dP c xs q;rw [au<|ne _ _ q'];exact q'
 ·have q':=u.du c o' v q;rw [au<|ne _ _ q'];exact q'
 ·obtain⟨m,q'⟩:=u.dQ c ps q;exact⟨m,by rw [au<|ne _ _ q'];exact q'⟩
 ·obtain⟨e,n',r⟩:=I.pin p hp;exact⟨e,by rw [au<|a.p p hp];exact n',r⟩
 ·by_cases y:c=b
  ·subst y;rw [av] at q;cases q;exact ho
  ·rw [au y] at q;exact(I.aB c o' q).fk (λ_ _ _ z=>z) (λd z=>by rw [au<|ne _ _ z];exact z) λd xs z=>by rw [au<|ne _ _ z];exact z
end
def Cgt(X:Cx)(Φ:Value->St->Hp->Prop)(e:Value)(s':Shared):Prop:=∃(pins:List<|Addr×Obj) (σ:St) (H:Hp) (ea T:Addr) (C:Value),e = .ref ea/\Inv X pins σ H s'/\Xo s'.heap ea T C .none/\w9 X pins ea/\w9 X pins T/\H ea=none/\H T=none/\Φ C σ H
abbrev zW(X:Cx)(p:List<|Addr×Obj)(Φ:Value->St->Hp->Prop):Cx:=(X.bP p).dv<|Cgt (X.bP p) Φ
def q9o{X:Cx}{p:List (Addr×Obj)}{Φ:Value->St->Hp->Prop}{σ:St}(hex:X.ex=[]):JA (XF X.prog X.w) (zW X p Φ) σ (λC _ H'=>Φ C σ H'):=by
 rintro pins H s e s' I ⟨ea,T,C,H',rfl,hE,os,bare,un,aB,x,n1,n2,n3,n4⟩;have I2:=I.call' (ch:=[]) os un aB bare (λb z=>absurd z<|by simp);have J:Inv (X.bP p) pins σ H s:=I.bI;exact⟨pins,σ,H',ea,T,C,rfl,I2.bI,x,JE J hex n1,JE J hex n2,n3,n4,hE⟩
abbrev gH(X:Cx)(p:List<|Addr×Obj)(ea:Addr):Cx:={X with A:=X.A.mark<|some<|.ref ea,calm:=false,pn:=X.pn++p,xe:=λ_ _=>False}
def Inv.hd{X:Cx}{p pins:List (Addr×Obj)}{σ:St}{H:Hp}{s:Shared}{ea:Addr}(I:Inv (X.bP p) pins σ H s):Inv (gH X p ea) pins σ H s:=
 ⟨⟨I.ok.mod,I.ok.kind,I.ok.glob,I.ok.blt,I.ok.above,I.ok.inj,I.ok.has,I.ok.lR,(λz=>(nomatch z)),I.ok.frames,I.ok.k4,I.ok.rp,I.ok.bs,I.ok.js,I.ok.fq,I.ok.fV,I.ok.cr,I.ok.k6⟩,I.os,I.bare,I.base,I.loc,I.cell,I.free,I.bt,I.pin,I.aB,I.len⟩
def Inv.JI{X:Cx}{p pins xc:List (Addr×Obj)}{σ:St}{H:Hp}{s:Shared}{ea:Addr}(I:Inv (gH X p ea) pins σ H s)(hc:X.calm=true->X.A.handled=none):Inv (X.bP p) pins σ H s:=
 ⟨⟨I.ok.mod,I.ok.kind,I.ok.glob,I.ok.blt,I.ok.above,I.ok.inj,I.ok.has,I.ok.lR,hc,I.ok.frames,I.ok.k4,I.ok.rp,I.ok.bs,I.ok.js,I.ok.fq,I.ok.fV,I.ok.cr,I.ok.k6⟩,I.os,I.bare,I.base,I.loc,I.cell,I.free,I.bt,I.pin,I.aB,I.len⟩
def Inv.qY{X:Cx}{p pins:List (Addr×Obj)}{σ:St}{H:Hp}{s:Shared}(I:Inv X p σ H s):Inv (X.bP p) [] σ H s:=
 ⟨⟨I.ok.mod,I.ok.kind,I.ok.glob,I.ok.blt,I.ok.above,I.ok.inj,I.ok.has,I.ok.lR,I.ok.hd,I.ok.frames,I.ok.k4,I.ok.rp,I.ok.bs,I.ok.js,I.ok.fq,I.ok.fV,I.ok.cr,I.ok.k6⟩,I.os,I.bare,I.base,I.loc,I.cell,I.free,I.bt,λq hq=>I.pin q (by simpa using hq),I.aB,I.len⟩
def Inv.iU{X:Cx}{p pins:List (Addr×Obj)}{σ:St}{H:Hp}{s:Shared}(I:Inv (X.bP p) pins σ H s):Inv X p σ H s:=
 ⟨⟨I.ok.mod,I.ok.kind,I.ok.glob,I.ok.blt,I.ok.above,I.ok.inj,I.ok.has,I.ok.lR,I.ok.hd,I.ok.frames,I.ok.k4,I.ok.rp,I.ok.bs,I.ok.js,I.ok.fq,I.ok.fV,I.ok.cr,I.ok.k6⟩,I.os,I.bare,I.base,I.loc,I.cell,I.free,I.bt,λq hq=>I.pin q<|Az _ hq,I.aB,I.len⟩
def tu(K:PySem.W.Frag)(C S:Addr):Bool:=match K.lookup C with
 | some ⟨_,_,.cls cd,_⟩=>cd.mro.contains<|.ref S
 | _=>false
def q72{K:PySem.W.Frag}{h:Heap}{C S:Addr}(X:K.In h)(q:tu K C S=true){nm qn:Str}{N:Addr}{bs bm:List Value}{hdct:Bool}{sn:List Str}{sub:List Value}{ab:Bool}{col:Option Bool}{dd:Option Addr}{k0 k1 k2 k3 k5:Option Value}{nid:String}
  (oC:h.get? C=some (excClassObj nm qn C N bs bm hdct sn sub ab col dd k0 k1 k2 k3 k5 nid)):(Value.ref C :: bm).contains (.ref S)=true:=by
 unfold tu at q
 split at q
 ·rename_i ho;have:=(X _ _ ho).symm.trans oC;cases this;exact q
 ·cases q
section
variable{M:Model}{A:Around}{E:Value->Shared->Prop}{K:PySem.W.Frag}{s:Shared}
def k75{e C S:Addr}{oe:Obj}{Q:Bool->Shared->Prop}(X:K.In s.heap)(hC:XC K C)(hS:XC K S)(hm:tu K C S=true)(he:s.heap.get? e=some oe)(hc:oe.cls = .ref C)(h:Q true s):wpAny M A (excMatches (.ref e)<|.ref S) Q E s:=by
 obtain⟨bm,N,nm,qn,bs,hdct,sn,sub,ab,col,dd,k0,k1,k2,k3,k5,mN,oC,oN,oi,oT⟩:=hC.obj X;obtain⟨bm',N',nm',qn',bs',SL,sn',x0g,ab',x0h,i5,k0',DF,k2',k3',k5',mN',oS,oN',oi',oT'⟩:=hS.obj X;have c1:=q72 X hm oC;have c2:(Value.ref S :: bm').contains (.type "BaseException")=true:=by rw [List.contains_cons,oT'.hasType PySem.F.excBase_ValueError.hasBase,Bool.or_true]
 have f:=tc_notTuple;obtain⟨hh,g,d,tk,os⟩:=s;unfold excMatches
 repeat (first | (with_reducible refine wpAny_loadPart_at he ?_;rw [hc]) | with_reducible refine wpAny_loadPart_at oS ?_ | (with_reducible refine wpAny_isSubtype_exc oS ?_;rw [c2]) | (with_reducible refine wpAny_isSubtype_exc oC ?_;rw [c1]) | wp_step)
 exact h
end
section
variable{X:Cx}{pins:List (Addr×Obj)}{σ:St}{H:Hp}{s:Shared}
def Inv.cq{M:Model}{A:Around}{E:Value->Shared->Prop}{Q:Unit->Shared->Prop}{i:Nat}{n:Str}{pos:Pos}(I:Inv X pins σ H s)(hN:X.N.Nodup)(hi:X.N[i]?=some n)(hl:X.env.scope.names.lookup n=some .local)
  (h:∀ s',Inv X pins (σ.set i none) H s'->Q () s'):wpAny M A (do bindName X.env n .none;unbindBehindTheSuite X.env n pos) Q E s:=by
 obtain⟨m,hn,JO⟩:=id I.loc;have pf:(X.env.scope.kind == .class || (X.env.scope.kind == .module && X.env.locals != X.env.globals))=false:=by rw [I.ok.kind];rfl
 have hiσ:i < σ.length:=by rw [I.len];exact(Ac.mp hi).1
 obtain⟨oL,_,_,gI,_⟩:=id hn;refine wpAny_nameGoes_keeps hl hn pf λh' v nH hs=>h _ ?_;have low:∀ b o,X.s₀.heap.get? b=some o->b≠X.env.locals:=λb o q=>Bn<|Bb (Ar q) I.ok.above;refine⟨I.ok,I.os,I.bare,⟨λb o q n' hb hx=>(hs.2 b<|low b o q).trans<|I.base.keep b o q n' hb hx,λb o q n' hb hx=>?_,I.base.free,λb o q hx=>?_,I.base.dP,I.base.du,I.base.dQ⟩,⟨_,nH,λj y v' e1 e2 e3=>?_⟩,λy c q=>?_,I.free,I.bt,λp hp=>?_,λb u q=>?_,by rw [List.length_set];exact I.len⟩
 ·obtain⟨sl,z⟩:=I.base.slot b o q n' hb hx;exact⟨sl,(hs.2 b<|low b o q).trans z⟩
 ·obtain⟨o',z⟩:=I.base.there b o q hx;exact⟨o',(hs.2 b<|low b o q).trans z⟩
 ·by_cases hj:j=i
  ·subst hj;rw [Fr hiσ] at e2;cases e2
  ·rw [Fz<|CG hj] at e2;obtain⟨u,r,q⟩:=JO j y v' e1 e2 e3;refine⟨u,r,?_⟩
   rcases q with ⟨k,z⟩ | ⟨k,c,z,w⟩
   ·have:y≠n:=λz=>hj<|AY hN e1<|z ▸ hi;exact .inl ⟨k,by simp [this,z]⟩
   ·exact .inr ⟨k,c,z,w.sameBut hs<|I.jL y c z⟩
 ·obtain⟨v2,z⟩:=I.cell y c q;exact⟨v2,z.sameBut hs<|I.jL y c q⟩
 ·obtain⟨e,n',ne,nf,d⟩:=I.pin p hp;exact⟨(hs.2 p.1 ne).trans e,n',ne,nf,d⟩
 ·refine(I.aB b u q).fk (λc w' hc z=>(hs.2 c ?_).trans z) (λ_ z=>z) λ_ _ z=>z;rintro rfl
  rcases hc with hc | hc
  ·rw [<- hc,I.free] at q;cases q
  ·rw [I.free] at hc;cases hc
end
def q7d(X:Cx)(D:Ends)(rest:List Stmt)(i:Nat):Ends:={nx:=λσ H=>Run X rest D (σ.set i none) H,rt:=D.rt,bk:=λσ H=>D.bk (σ.set i none) H,ct:=λσ H=>D.ct (σ.set i none) H}
def q3t{X:Cx}{σ:St}{H:Hp}{D:Ends}{rest body oU:List Stmt}{b₀:Stmt}{x n:Str}{S:Addr}{np hp pos:Pos}(i:Nat)(Φ:Value->St->Hp->Prop)(hm:X.mg x=some (.ref S))(hS:XC X.K S)(hN:X.N.Nodup)
  (hb:∀ p,Run (zW X p Φ) body {D with nx:=λσ' H'=>Run X rest D σ' H'} σ H)
  (hh:∀ C σ' H',Φ C σ' H'->∃ Ca,C = .ref Ca/\XC X.K Ca/\tu X.K Ca S=true/\∀ p ea oe,zV oe C->H' ea=none->Run (gH X p ea) (b₀ :: oU) (q7d X D rest i) (σ'.set i<|some<|.ref ea) (upd H' ea<|XO oe))
  (hi:X.N[i]?=some n:=by rfl) (hl:X.env.scope.names.lookup n=some .local:=by rfl) (hex:X.ex=[]:=by rfl) (cg:X.stack=X.env :: X.outer:=by rfl) (iD:X.env.frame=some X.env.locals:=by rfl)
  (tR:X.fn n=true\/X.env.scope.names.lookup n=some .local:=by first | exact .inl rfl | exact .inr rfl) (hg:Gl X x:=by rfl) (cP:(x == ("__debug__" : Str))=false:=by decide) :
  Run X (.Try body [.ExceptHandler (some<|.Name x np) (some n) (b₀ :: oU) hp] [] [] pos :: rest) D σ H:=by
 refine ju (t:=λD' σ H=>∀ p,Run (zW X p Φ) body {D with nx:=λσ' H'=>Run X rest D σ' H'} σ H/\D'={D with nx:=λσ' H'=>Run X rest D σ' H'}) ?_ λp=>⟨hb p,rfl⟩;intro p0 s σ H D' I h;obtain⟨hb,rfl⟩:=h p0;refine wpAny_Try_except<|CK (hb.run [] s<|(I.qY (pins:=[])).dv _) (λf s1 q=>?_) λe s1 q=>?_
 ·have out:∀{pp:List (Addr×Obj)} {σ':St} {H':Hp},Inv (zW X p0 Φ) pp σ' H' s1->Inv X p0 σ' H' s1:=λJ=>(J.bI).iU;cases f with
  | next=>
   obtain⟨σ',H',J,q⟩:=q;exact Md p0 s1 σ' H' _ (out J) q
  | brk=>obtain⟨σ',H',J,q⟩:=q;exact⟨σ',H',out J,q⟩
  | cont=>obtain⟨σ',H',J,q⟩:=q;exact⟨σ',H',out J,q⟩
  | ret u=>obtain⟨v,σ',H',J,r,q⟩:=q;exact⟨v,σ',H',out J,r,q⟩
 ·obtain⟨pp,σ',H',ea,T,C,rfl,J,x1,a1,a2,n1,n2,hΦ⟩:=q;obtain⟨Ca,rfl,hC,ve,JP⟩:=hh C σ' H' hΦ;have fr:(X.bP p0).A.frames=some (X.env :: X.outer):=by rw [<- cg];exact J.ok.frames
  have k4:s1.heap.FunFrames X.base (X.env :: X.outer):=by rw [<- cg];exact J.stack
  refine q3y fr k4 iD x1 λh2 T' z x2 k=>?_;have k':Kp (di (X.bP p0).stack) [ea,T] s1.heap h2:=by
   show Kp (di X.stack) [ea,T] s1.heap h2;rw [cg];exact k
  have J2:Inv (X.bP p0) pp σ' H' {s1 with heap:=h2}:=J.kp (t':=s1.toks) hex k' (λb hb=>by
   rcases Al.mp hb with y | y
   ·rw [y];exact a1
   ·rw [Ag.mp y];exact a2) (λb hb=>by
   rcases Al.mp hb with y | y
   ·rw [y];exact n1
   ·rw [Ag.mp y];exact n2)
  have a3:=JE J hex z;have n3:H' T'=none:=Jx J.aB z;have J3:Inv (gH X p0 ea) pp σ' H' {s1 with heap:=h2}:=J2.hd;obtain⟨⟨oe,vs,he,hc,oR,hd,h1,nV⟩,bw,JS⟩:=id x2;refine wpAny_handleBy_cons (codeAny_handlers_test<|tT J3 hg hm ?_ cP) (by intro q;cases q);refine k75 J3.d9 hC hS ve he hc ?_;refine codeAny_handlers_suite_as<|k43 x2 λh3 x3 k3=>?_;have J4:Inv (gH X p0 ea) pp σ' H' {s1 with heap:=h3}:=J3.kp (s:={s1 with heap:=h2}) (t':=s1.toks) (bad:=[T']) hex ⟨λb o q _ nb=>k3 b o (λy=>nb<|by simp [y]) q,λb o q hb=>⟨o.slots,k3 b o (λy=>by
   obtain⟨_,o',dH,nH⟩:=J3.stack.mem hb;obtain⟨oT,ts,hT,dT,_⟩:=JS;rw [y] at dH;have:=dH.symm.trans hT;cases this;exact nH _ dT) q⟩⟩ (λb hb=>by rw [Ag.mp hb];exact⟨a3.l,a3.c,a3.p,a3.f,a3.s⟩) λb hb=>by rw [Ag.mp hb];exact n3
  obtain⟨⟨SR,vs3,SU,hc3,JU,hd3,zX,xf⟩,_,_⟩:=x3;have J5:Inv (gH X p0 ea) pp σ' (upd H' ea<|XO SR) {s1 with heap:=h3}:=J4.xa hex ⟨a1.l,a1.c,a1.p,a1.f,a1.s⟩ n1 ⟨SU,⟨_,SU⟩⟩;refine tS (X:=gH X p0 ea) J5 hN hi (Or.inl hl) (v:= .ref ea) rfl (λs4 J6=>?_) tR;refine CK ((JP p0 ea SR ⟨hc3,JU,vs3,hd3,xf⟩ n1).run pp s4 J6) (λf s5 q=>?_) λ_ _ z=>z.elim;have out:∀{σ2:St} {H2:Hp} {s6:Shared},Inv (gH X p0 ea) pp σ2 H2 s6->Inv X p0 σ2 H2 s6:=λJ=>((J.JI (xc:=[]) J2.ok.hd).iU);cases f with
  | next=>
   obtain⟨σ2,H2,J7,q⟩:=q;exact J7.cq hN hi hl λs6 J8=>⟨_,H2,out J8,q⟩
  | brk=>
   obtain⟨σ2,H2,J7,q⟩:=q;exact J7.cq hN hi hl λs6 J8=>⟨_,H2,out J8,q⟩
  | cont=>
   obtain⟨σ2,H2,J7,q⟩:=q;exact J7.cq hN hi hl λs6 J8=>⟨_,H2,out J8,q⟩
  | ret u=>
   obtain⟨v,σ2,H2,J7,r,q⟩:=q;exact J7.cq hN hi hl λs6 J8=>⟨v,_,H2,out J8,r,q⟩
open PySem.W
section
variable{prog:Program}{w:World}{A:Around}{E:Value->Shared->Prop}{s:Shared}{K:Frag}{a C:Addr}{o:Obj}
def nn(K:Frag)(C:Addr):Bool:=findIn K (.ref C) "__getattribute__" == some (some<|.builtin "BaseException.__getattribute__") && findIn K (.ref C) "__getattr__" == some none && findIn K (.ref C) "__class__" == some (some<|.builtin "object.__class__") &&
 mroIn K C (.type "object") == some true && mroIn K C (.type "BaseException") == some true && (clsIn K C).isSome
def k88{Q:Option Value->Shared->Prop}(X:K.In s.heap)(I:InstAt s.heap a o C none)(q:nn K C=true)(hq:Q (some<|.ref C) {s with toks:=s.toks+1}):wpAny (model prog w) A (getAttr? (.ref a) "__class__") Q E s:=by
 unfold nn at q;simp only [Bq,JX] at q;obtain⟨⟨⟨⟨⟨h1,h2⟩,h3⟩,h4⟩,h5⟩,_⟩:=q;obtain⟨hh,g,d,t,os⟩:=s;have L0:=I.type (M:=model prog w);have L1:=looks_findIn (M:=model prog w) X h1;have L2:=looks_findIn (M:=model prog w) X h2;have L3:=looks_findIn (M:=model prog w) X h3;have L5:=looks_mroIn (M:=model prog w) X h5;unfold getAttr? getAttrBy? getAttrBy;refine BJ<|wpAny_mkText<|BJ<|IK<|CJ<|BJ<|L0.at (BJ<|L1.at ?_);show wpAny _ _ (getAttrByItsOwn _ _ _ _ _ _) _ _ _;unfold getAttrByItsOwn hookBefore callGetattribute boundAndCalled;have f3:=F.attr_ValueError.ga.bind<|.ref a;refine BJ ?_;show wpAny _ _ (typeLookup (.ref C) "__getattr__") _ _ _;refine L2.at ?_;refine BJ<|IK<|CJ ?_;rw [BK<|by decide];rw [f3];refine BJ<|BP ?_;refine wpAny_call<|codeAny_call_builtin F.attr_ValueError.ga.plain F.entry_bexc_ga ?_;have hk:builtinKind "BaseException.__getattribute__" = some .slot:=by decide +kernel
 have dM:splitId "BaseException.__getattribute__" = some ("BaseException","__getattribute__"):=by decide +kernel
 have ha:=F.args_bexc_ga (.ref a)<|.str "__class__" t;simp only [checkBuiltinCall,hk,dM];refine BJ ?_;unfold isInstance;have LB:Looks (model prog w) hh (isSubtype (.ref C)<|.type "BaseException") true:=L5
 repeat lk
 have hid:(toString "getset_descriptor"++toString "."++toString (Str.ofString "__get__").toString:String) = "getset_descriptor.__get__":=by decide +kernel
 rw [hid];refine wpAny_run (c:= .call (.builtin "getset_descriptor.__get__") ⟨[.builtin "object.__class__",.ref a,.ref C],[]⟩) (h:=none) ?_;refine class_get (s:=⟨hh,g,d,t+1,os⟩) (K:=K) X I h4 ?_
 repeat lk
 exact hq
def SV(q:nn K C=true):KitX K (.ref a) (.ref C) (λh=>∃ o,InstAt h a o C none) where
 ty:=λ_ _ _ ⟨_,I⟩=>I.type
 it:=λ_ _ X _=>by
  unfold nn at q;rw [Bq] at q;have z:=q.2;unfold clsIn at z
  split at z
  ·rename_i ho;intro A' Q' E' s' k r;unfold isType loadHead;exact BJ<|wpAny_loadPart (k _ _<|X _ _ ho)<|BP r
  ·cases z
 ne:=λh tp dd its n sl X JY=>by
  unfold nn at q;rw [Bq] at q;have z:=q.2;refine Ed.mpr λy=>?_;have e:C=tp:=Value.ref.inj<|beq_iff_eq.mp y;subst e;unfold clsIn at z
  split at z
  ·rename_i ho;cases (X _ _ ho).symm.trans JY
  ·cases z
 ca:=λX ⟨_,I⟩ k=>k88 X I q k
end
end L2
namespace L2
open PySem PySem.Spec PyProof.Rows
def SW{h:Heap}{ea C:Addr}{oe:Obj}(he:h.get? ea=some oe)(x:zV oe<|.ref C):PySem.W.InstAt h ea oe C none:=by
 obtain⟨vs,hd,_⟩:=x.data;refine⟨he,x.cls,?_,?_⟩
 ·unfold PySem.W.notCls;rw [hd]
 ·rw [x.dict];exact True.intro
def SY{X:Cx}:fv X (.builtin "isinstance") (λxs H Q=>∃ ea C oe c v b,xs=[.ref ea,v]/\(∀ u,RelV v u->u=c)/\H ea=some (XO oe)/\zV oe (.ref C)/\nn X.K C=true/\PySem.W.kitOne X.K (.ref C) c=some b/\Q (.bl b) H):=by
 intro pins s σ H xs us Q I r h;obtain⟨ea,C,oe,c,v,b,rfl,hv,hH,ix,hl,e,q⟩:=h;obtain⟨u,w',rfl,ru,dJ⟩:=vals2 r;cases (show u=Value.ref ea from ru);cases hv _ dJ;have he:s.heap.get? ea=some oe:=(show az X.prog X.w H s.heap ea (XO oe) from I.aB ea _ hH).1;exact DP (SV hl) I.d9 ⟨oe,SW he ix⟩ e (λz=>nomatch z) λtk=>⟨.bl b,H,I.tok tk,rfl,q⟩
section
variable{prog:Program}{w:World}{A:Around}{E:Value->Shared->Prop}{s:Shared}
end
section
variable{X:Cx}{tg:Expr}
end
section
variable{X:Cx}{elt tg iter:Expr}{ifs:List Expr}{scope:Scope}{pos:Pos}{N':List Str}{n:Nat}{wi:TI}{g:TG}{tc:TT}{te:TE}
end
section
variable{X:Cx}{elt tg iter c:Expr}{ifs:List Expr}{scope:Scope}{pos p:Pos}{wi:TI}{σ:St}{H:Hp}{Q:VK}{T:Bool->Hp->Prop}{rest:List Stmt}{D:Ends}
end
section
variable{X:Cx}{k:Nat}{ps:List Str}{sp:Addr->Obj->Sp}{E:XK}{x:Str}{p pos:Pos}{e:Expr}{es:List Expr}{σ:St}{H:Hp}{Q:VK}
end
end L2
namespace Q2
open PySem L2 Nt bB bU
open PyProof.Rows (sortedS)
def qZ:Sp:=λvs H Q _=>∃(R:Addr) (as:List<|Addr×Addr) (n:Net),vs=[.ref R]/\ak H R as n/\n.length<=1000/\(ag n).length<=900/\(∀ zs:List Str,zs.Nodup->(∀ z∈zs,z∈ag n)->zs.length < 64) /\
 ∀(L:Addr) (ss:List Str) (H':Hp),ah H H'->H L=none->H' L=some (Ls ss)->ss.Nodup->sortedS ss=true->(∀ z,z∈ss↔z∈ag n)->Q (.ref L) H'
def k19{zs:List Str}{z:Str}(h:zs.Nodup):(added zs z).Nodup:=by
 unfold added
 split
 ·exact h
 ·rename_i hz;exact me h hz
def k8m{zs:List Str}{z y:Str}:y∈added zs z↔y∈zs\/y=z:=by
 unfold added
 split
 ·rename_i hz;refine⟨.inl,λh=>h.elim id λe=>?_⟩;rw [e];exact hz
 ·rw [An,Ag]
def SZ{n:Net}{r:Nat}(h:r < n.length):ag (n.take<|r+1)=ag (n.take r)++row n r:=by
 rw [jd h];unfold ag;rw [Bx,Ab h,Cu];simp
def cK:List Str:=["NoWalker","NoDouble","TooMany"]
structure Cl(K:PySem.W.Frag)(mg:Str->Option Value)(c:Str->Addr):Prop where
 net:mg "NetError" = some (.ref<|c "NetError")
 J0:XC K<|c "NetError"
 at':∀ x∈cK,mg x=some (.ref<|c x)/\XC K (c x)/\tu K (c x) (c "NetError")=true/\nn K (c x)=true/\PySem.W.kitOne K (.ref<|c x) (.type "ValueError")=some true
 J1:∀ x∈cK,∀ y∈cK,PySem.W.kitOne K (.ref<|c x) (.ref<|c y)=some (decide (x=y))
def jH(K:PySem.W.Frag)(x:Str):Addr:=match PySem.W.nsIn K mainGlobals x with
 | some (some<|.ref a)=>a
 | _=>0
def J9(K:PySem.W.Frag):Bool:=(PySem.W.nsIn K mainGlobals "NetError" == some (some<|.ref<|jH K "NetError")) && PySem.W.excIn K (jH K "NetError") nj "ValueError.__new__" &&
 cK.all λx=>(PySem.W.nsIn K mainGlobals x == some (some<|.ref<|jH K x)) && PySem.W.excIn K (jH K x) nj "ValueError.__new__" && tu K (jH K x) (jH K "NetError") && nn K (jH K x) && (PySem.W.kitOne K (.ref<|jH K x) (.type "ValueError") == some true) &&
  cK.all λy=>PySem.W.kitOne K (.ref<|jH K x) (.ref<|jH K y) == some (decide (x=y))
def q9v{K:PySem.W.Frag}{h:Heap}{mg:Str->Option Value}(X:K.In h)(G:h.Ns mainGlobals mg)(q:J9 K=true):Cl K mg (jH K):=by
 unfold J9 at q;simp only [Bq,Dj,JX] at q;obtain⟨⟨q1,q2⟩,q3⟩:=q;exact⟨KZ X G q1,q2,λx hx=>by obtain⟨⟨⟨⟨⟨a1,a2⟩,a3⟩,a4⟩,a5⟩,_⟩:=q3 x hx;exact⟨KZ X G a1,a2,a3,a4,a5⟩,λx hx y hy=>(q3 x hx).2 y hy⟩
def Few(n:Net):Prop:=∀ zs:List Str,zs.Nodup->(∀ z∈zs,z∈ag n)->zs.length < 64
section
variable{P:Program}{w:World}{K:PySem.W.Frag}{mg:Str->Option Value}{base:Heap}
abbrev xg:List Str:=["rows"]
abbrev xh:List Str:=["rows","point","ties","tie"]
def kW:ao xg ["rows"] (aP yE):=⟨rfl,rfl,rfl,by decide +kernel,rfl,by decide +kernel,by decide +kernel⟩
def J':xh.Nodup:=by decide +kernel
def q38{f:Addr}{fd:FuncData}(F:bu K "ties_of" "ties_of" yE f fd)(T:Txt mg):aC P w K mg base bA 1 f fd ["rows"] qZ:=by
 refine F.gb kW (λvs H Q E h=>?_) λb0 H vs Q E hr h=>?_
 ·obtain⟨R,as,n,rfl,_⟩:=h;rfl
 obtain⟨R,as,n,rfl,hR,hn,ht,c6,q⟩:=h;have nd:=kW.nd;have bY:=hR.len;have sub:∀(zs:List Str) (r:Nat) (ys:List Str),zs.Nodup->(∀ z,z∈zs->z∈ag n)->zs.length < 64:=λzs r ys h1 h2=>c6 zs h1 h2;have Ka:∀ r,r < n.length->∀ z,z∈ag (n.take r)\/z∈row n r->z∈ag n:=λr kz z hz=>by
  have e:ag n=ag (n.take<|r+1)++ag (n.drop<|r+1):=by
   unfold ag;rw [<- Cu,Cv]
  rw [e,SZ kz]
  rcases hz with h | h <;> simp [h]
 show Run _ _ _ [some<|.ref R] H;refine bL<|bX (Yi rfl) T.sorted CP<|aj<|ZP (aP yE) xg xh 3 (eg bf)<|ae 0 ⟨R,rfl,⟨_,ai.of hR.lst⟩,λD hD cl C s₀ H₀ ex=>?_⟩;refine vS (xs:=as.map λa=>V.ref a.1) (λr σ' H'=>(∃ v1 v2 v3,σ'=[some<|.ref R]++[v1,v2,v3])/\∃ zs:List Str,ah H H'/\H' D=some (bC P w D zs)/\zs.Nodup/\∀ z,z∈zs↔z∈ag (n.take r)) ⟨⟨none,none,none,rfl⟩,[],aK hD _,av,Cj,λz=>Iff.rfl⟩ ?_ ?_ ?_
 ·rintro r σ' H' _ ⟨_,zs,sm,_⟩;exact ai.of<|sm _ _ hR.lst
 ·rintro r x σ' H' hx ⟨⟨v1,v2,v3,rfl⟩,zs,sm,eD,zn,zm⟩;have hi:r < n.length:=by
   have:=(Ac.mp hx).1;rw [Aa] at this;omega
  obtain⟨a,ea,eR,et,el,er⟩:=(hR.same sm).at hi;rw [Af,ea] at hx;cases hx;refine iO rfl (aM.of et) (aW 1 J'<|aW 2 J' ?_);refine g7 ?_;rw [BL rfl];refine ZO rfl rfl (eg bf) (ae 2 ⟨a.2,rfl,⟨_,ai.of el⟩,?_⟩);have naD:a.2≠D:=bQ el eD λz=>nomatch z;refine vS (xs:=(row n r).map V.str) (λp σ' bM=>(∃ v3,σ'=[some<|.ref R]++[some<|.str n[r].1,some<|.ref a.2,v3])/\∃ zs:List Str,(∀ b o,b≠D->H' b=some o->bM b=some o)/\bM D=some (bC P w D zs)/\zs.Nodup/\∀ z,z∈zs↔z∈ag (n.take r)\/z∈(row n r).take p)
   ⟨⟨_,rfl⟩,zs,λb o _ h=>h,eD,zn,λz=>by rw [zm z];simp⟩ ?_ ?_ ?_
  ·rintro p σ' bM _ ⟨_,zs,kb,_⟩;exact ai.of<|kb _ _ naD el
  ·rintro p x σ' bM hx ⟨⟨v3,rfl⟩,zs,kb,dD,zY,zZ⟩;rw [Af,Ap] at hx;obtain⟨z,hz,rfl⟩:=hx;refine aW 3 J' ?_;refine g7 ?_;rw [BL rfl];have hl:zs.length < 64:=c6 zs zY λy hy=>Ka r hi y<|((zZ y).mp hy).imp id λh=>List.mem_of_mem_take h;refine ZN (ae 3 ⟨z,zs,rfl,dD,by omega,⟨_,rfl⟩,added zs z,λb o hb h=>by rw [au hb];exact kb b o hb h,av,k19 zY,λy=>?_⟩);rw [k8m,zZ y,Bx,hz,or_assoc];simp
  ·rintro σ' bM ⟨⟨v3,rfl⟩,zs,kb,dD,zY,zZ⟩;refine⟨⟨_,_,_,rfl⟩,zs,λb o h=>kb b o (bd h hD)<|sm _ _ h,dD,zY,λz=>?_⟩;rw [zZ z,Aa,Bm,SZ hi,An]
 ·rintro σ' H' ⟨_,zs,sm,eD,zn,zm⟩;rw [Aa,bY,Bm] at zm;refine aA ⟨D,zs,rfl,eD,c6 zs zn λy hy=>(zm y).mp hy,λl ss hl hp hs=>?_⟩;exact q l ss _ (sm.trans<|aK hl _) (jD sm hl) av (hp.nodup_iff.mpr zn) hs λz=>by rw [hp.mem_iff,zm z]
end
end Q2
namespace Q2
open PySem L2 Nt bB
open PyProof.Rows (sortedS)
def Kb:Sp:=λvs H Q _=>∃(R W:Addr) (as:List<|Addr×Addr) (n:Net) (ts:List Addr) (es:List Nt.End),vs=[.ref R,.ref W]/\ak H R as n/\(n.map (·.1)).Nodup/\n.length<=1000/\(ag n).length<=1000/\H W=some (.lst<|ts.map V.ref)/\d7 n H ts es/\(∀ e∈es,e∈ends n)/\es.length<=1000/\(∀ l:List Str,l.Nodup->(∀ z∈l,z∈es.map (ay n))->l.length < 64) /\
 ∀(l:Addr) (ss:List Str) (H':Hp),ah H H'->H l=none->H' l=some (Ls ss)->cB ss->(∀ z,z∈ss↔(es.map<|ay n).count z=1)->Q (.ref l) H'
section
variable{P:Program}{w:World}{K:PySem.W.Frag}{mg:Str->Option Value}{base:Heap}
abbrev Kc:List Str:=["rows","walker","names","gone"]
abbrev xi:List Str:=["rows","walker","names","gone","end"]
abbrev xj:List Str:=["rows","walker","names","gone","tie"]
def xk:ao Kc ["rows","walker"] (aP uR):=⟨rfl,rfl,rfl,by decide +kernel,rfl,by decide +kernel,by decide +kernel⟩
def q6g:xi.Nodup:=by decide +kernel
def q8q:xj.Nodup:=by decide +kernel
def q2h{f:Addr}{fd:FuncData}(F:bu K "core_of" "core_of" uR f fd)(T:Txt mg)
  (GT:aO P w K mg base 2 "ties_by_end" ["rows"] mV):aC P w K mg base bA 3 f fd ["rows","walker"] Kb:=by
 refine F.gb xk (λvs H Q E h=>?_) λb0 H vs Q E hr h=>?_
 ·obtain⟨R,W,as,n,ts,es,rfl,_⟩:=h;rfl
 obtain⟨R,W,as,n,ts,es,rfl,hR,hN,hn,ib,hW,hE,qd,hle,kU,q⟩:=h;have nd:=xk.nd;have cj:=hr.u1;have hl:=hE.1;show Run _ _ _ [some<|.ref R,some<|.ref W,none,none] H;refine aT 2 nd<|bG GT hr<|aj<|ae 0<|aA ⟨R,as,n,rfl,hR,hN,hn,ib,λd kvs H1 s1 F7 ed Kd=>?_⟩;show Run _ _ _ [some<|.ref R,some<|.ref W,some<|.ref d,none] H1;have S0:=s1 _ _ hW;have hE1:=hE.same s1;refine aT 3 nd<|gN (aP uR) Kc xi 1 (eg bf)<|ae 1 ⟨W,rfl,⟨_,ai.of S0⟩,λD hD=>?_⟩;refine ka (xs:=ts.map V.ref) (λi σ' H'=>(∃ v,σ'=[some<|.ref R,some<|.ref W,some<|.ref d,none]++[v])/\ah H1 H'/\H' D=some (Ls<|(es.take i).map<|ay n)) ⟨⟨none,rfl⟩,aK hD _,av⟩ ?_ ?_ ?_
 ·rintro i σ' H' _ ⟨_,sm,_⟩;exact ai.of<|sm _ _ S0
 ·rintro i x σ' H' hx ⟨⟨v,rfl⟩,sm,eD⟩;rw [Af,Ap] at hx;obtain⟨t,ht,rfl⟩:=hx;have hi:i < es.length:=by have:=(Ac.mp ht).1;omega
  have he:es[i]?=some es[i]:=Ab hi;have lI:es.take (i+1)=es.take i++[es[i]]:=by rw [Bx,he];rfl
  generalize m4:es[i]=e at he lI;have lJ:=sm _ _<|hE1.2 i t e ht he;have sk:=qd e<|At he;obtain⟨z,hz⟩:=af.mp sk;have kL:ay n e=z:=dY hz;intro cl C s₀ H₀ ex;refine aW 4 q6g ?_;intro cl C s₀ H₀ ex;refine g7 ?_;rw [BL rfl];intro cl C s₀ H₀ ex;refine dX cj<|ae 2<|ae 4 ⟨d,.str z,rfl,(by rw [<- Kd e z hz];exact aU.t (k:=key n e) (sm _ _ ed) lJ),_,eD,?_,⟨_,rfl⟩,db sm hD,?_⟩
  ·rw [Aa,Aa,Bd];exact bH<|by omega
  ·rw [av,lI,Ai];show some (HO.lst<|((es.take i).map<|ay n).map V.str++[V.str z])=some (HO.lst<|((es.take i).map (ay n)++[ay n e]).map V.str);rw [Ai];show some (HO.lst<|((es.take i).map<|ay n).map V.str++[V.str z])=some (HO.lst<|((es.take i).map<|ay n).map V.str++[V.str<|ay n e]);rw [kL]
 rintro σ' H' ⟨_,sm,eD⟩;have qW:es.take (ts.map V.ref).length=es:=Dc (by rw [Aa];omega);rw [qW] at eD;show Run _ _ _ [some<|.ref R,some<|.ref W,some<|.ref d,some<|.ref D] H';generalize Jt:es.map (ay n)=L at eD kU q;have HU:L.length<=1000:=by rw [<- Jt,Aa];exact hle
 refine bL<|bX uJ T.sorted CP<|aj<|gN (aP uR) Kc xj 1 (eg bf)<|ae 3 ⟨D,rfl,⟨_,ai.of eD⟩,λD3 qX=>?_⟩;have n3:D≠D3:=bd eD qX;refine rX (λz=>decide (L.count z=1)) (bH<|by omega) eD qX (λcl C s0 H0 ex v v0 H' R' h=>aW 4 q8q h) (λcl C s0 H0 ex z zs T' h=>iE<|cz i0<|uL CW KC KD Sl<|ae 3 (v:= .ref D) ⟨Or.inl ⟨rfl,_,ai.of<|by rw [au n3];exact eD⟩,ae 4 ⟨D,L,z,rfl,rfl,ai.of (by rw [au n3];exact eD),aD ⟨rfl,_,rfl,?_⟩⟩⟩) (λcl C s0 H0 ex z H' R' h=>ae 4 h) ?_
 ·have ek:decide (V.int (L.count z:Int)=V.int 1)=decide (L.count z=1):=decide_eq_decide.mpr ⟨λk=>by have:=V.int.inj k;omega,λk=>by rw [k];rfl⟩;show T' (decide (V.int (L.count z:Int)=V.int 1)) _;rw [ek];exact h
 refine aA ⟨D3,_,rfl,ai.of av,kU _ (zU L) λz hz=>(Bk.mp hz).1,λl ss gJ cL fS=>?_⟩;have s3:=s1.trans<|sm.trans<|aK qX<|Ls<|L.filter λz=>decide (L.count z=1);exact q l ss _ (s3.trans<|aK gJ _) (s3.free gJ) av (sJ fS<|cL.nodup_iff.mpr<|zU L) λz=>by rw [cL.mem_iff];exact SD L z
abbrev Lz(l:List Int):HO:= .lst<|l.map V.int
abbrev T3z(x:Nz.Bl Int):HO:= .tup [.int x.1,.int x.2.1,.bl x.2.2]
abbrev AtZ(H:Hp)(us:List Addr)(ls:List<|Nz.Bl Int):Prop:=kR (Sum.inl:Int->Key) H us ls
abbrev Ke:Sp:=R1 (Sum.inl:Int->Key)
def k4h{f:Addr}{fd:FuncData}(F:bu K "spread" "spread" uP f fd)(T:Txt mg):aC P w K mg base bA 1 f fd ["first","links"] Ke:=R3 (φ:=(Sum.inl:Int->Key)) (λ_ _ h=>Sum.inl.inj h) (λ_ _=>rfl) F T
end
end Q2
namespace Nt
open PySem L2
def k82{n:Net}(T:aw n){e:End}(h:e∈ends n):step n (other n<|go (-1) n e)=other n e:=by
 have h1:=gB (c:=-1) T h;obtain⟨z,hz⟩:=af.mp h1;show left n (other n<|other n<|go (-1) n e)=_;rw [(c8 T hz).2.1,yQ h1];show dA 1 n (dA (-1) n<|other n e)=_;have:=oj (c:=-1)<|dj T h;rw [Int.neg_neg] at this;exact this
def eX(n:Net)(w:List End)(z:Str):Bool:=decide ((w.map<|ay n).count z % 2=1)
def Kf{n:Net}(T:aw n){e:End}(h:e∈ends n):two n (other n<|two n e)=other n e:=by
 have g1:=gB (c:=1) T h;have h2:=mH T h;obtain⟨z,hz⟩:=af.mp h2;obtain⟨y,hy⟩:=af.mp g1;have e1:go 1 n (other n<|two n e)=other n (go 1 n e):=by
  show dA 1 n (other n<|other n<|two n e)=_;rw [(c8 T hz).2.1];show dA 1 n (dA (-1) n<|other n<|go 1 n e)=_;have:=oj (c:=-1)<|dj T g1;rw [Int.neg_neg] at this;exact this
 show go (-1) n (go 1 n<|other n<|two n e)=_;rw [e1];show dA (-1) n (other n<|other n<|go 1 n e)=_;rw [(c8 T hy).2.1];exact oj<|dj T h
def jI{n:Net}(T:aw n){e:End}(h:e∈ends n)(k:Nat):it (two n) k e∈ends n:=j4 (λa ha=>mH T ha) h k
theorem S1{α:Type}(f:α->α)(a:α):∀ k,it f k (f a)=it f (k+1) a
 | 0=>rfl
 | k+1=>by show f (it f k<|f a)=f (it f (k+1) a);rw [S1 f a k]
theorem tD{α:Type}(f:α->α)(a:α)(i:Nat):∀ j,it f (i+j) a=it f j (it f i a)
 | 0=>rfl
 | j+1=>by show f (it f (i+j) a)=f (it f j<|it f i a);rw [tD f a i j]
def q58{n:Net}(T:aw n){e:End}(h:e∈ends n):two n e≠other n e:=λq=>by
 have g1:=gB (c:=1) T h;obtain⟨y,hy⟩:=af.mp g1;have h1:dA (-1) n (go 1 n e)=other n e:=oj<|dj T h;have h2:dA (-1) n (other n<|go 1 n e)=other n e:=q;exact(c8 T hy).2.2<|Py (c:=-1) (dj T g1) g1<|h2.trans h1.symm
theorem S3{n:Net}(T:aw n):∀(k:Nat) {e:End},e∈ends n->it (two n) k e≠other n e
 | 0,e,h=>λq=>by
  obtain⟨z,hz⟩:=af.mp h;exact(c8 T hz).2.2 q.symm
 | 1,e,h=>q58 T h
 | k+2,e,h=>λq=>by
  have e1:two n (it (two n) (k+1) e)=two n (other n<|two n e):=by rw [Kf T h];exact q
  have e2:=vg T (jI T h<|k+1) (dj T<|mH T h) e1;rw [<- S1] at e2;exact S3 T k (mH T h) e2
def xl{n:Net}(T:aw n){a b:End}(ha:a∈ends n)(hb:b∈ends n)(h:ay n a=ay n b):b=a\/b=other n a:=by
 obtain⟨z,hz⟩:=af.mp ha;obtain⟨y,hy⟩:=af.mp hb;rw [dY hz,dY hy] at h;subst h;exact(jh T hz).mp hy
def q9g{n:Net}(T:aw n){e:End}(h:e∈ends n){k:Nat}(p:jf n e k){i j:Nat}(dw:i < j)(hj:j < k):it (two n) i e≠it (two n) j e:=λq=>by
 have inj:∀(m:Nat) {a b:End},a∈ends n->b∈ends n->it (two n) m a=it (two n) m b->a=b:=λm=>by
  induction m with
  | zero=>intro a b _ _ q;exact q
  | succ m ih=>intro a b ha hb q;exact ih ha hb<|vg T (jI T ha m) (jI T hb m) q
 have e1:it (two n) j e=it (two n) i (it (two n) (j - i) e):=by rw [<- tD,show j - i+i=j by omega]
 rw [e1] at q;have:=inj i h (jI T h _) q;exact p.first (j - i) (by omega) (by omega) this.symm
def k5r{n:Net}(T:aw n){e:End}(h:e∈ends n){k:Nat}(p:jf n e k){i j:Nat}(dw:i < j)(hj:j < k):ay n (it (two n) i e)≠ay n (it (two n) j e):=λq=>by
 rcases xl T (jI T h i) (jI T h j) q with c | c
 ·exact q9g T h p dw hj c.symm
 ·rw [show j=i+(j - i) by omega,tD] at c;exact S3 T (j - i) (jI T h i) c
def q25{n:Net}(T:aw n){x y:End}(hx:x∈ends n)(hy:y∈ends n)(q:ay n (go 1 n x)=ay n (go 1 n y)):x=y\/two n y=other n x:=by
 have g1:=gB (c:=1) T hx
 rcases xl T g1 (gB (c:=1) T hy) q with c | c
 ·exact .inl (go_inj T hy hx c).symm
 ·refine .inr ?_;obtain⟨z,hz⟩:=af.mp g1;show go (-1) n (go 1 n y)=_;rw [c];show dA (-1) n (other n<|other n<|go 1 n x)=_;rw [(c8 T hz).2.1];exact oj<|dj T hx
theorem S4(n:Net)(e:End):∀ k,((wk n e k).map<|ay n).Perm<|((List.range k).map λi=>ay n<|it (two n) i e)++(List.range k).map λi=>ay n<|go 1 n<|it (two n) i e
 | 0=>List.Perm.refl _
 | k+1=>by
  rw [Dp,Ai,Ai];show((wk n e k++[it (two n) k e,go 1 n<|it (two n) k e]).map<|ay n).Perm _;rw [Ai];refine((S4 n e k).append_right _).trans ?_;generalize ((List.range k).map λi=>ay n<|it (two n) i e)=A;generalize ((List.range k).map λi=>ay n<|go 1 n<|it (two n) i e)=B;show(A++B++[ay n<|it (two n) k e,ay n<|go 1 n<|it (two n) k e]).Perm ((A++[ay n<|it (two n) k e])++(B++[ay n<|go 1 n<|it (two n) k e]));rw [As,As];refine LQ A ?_;show(B++([ay n<|it (two n) k e]++[ay n<|go 1 n<|it (two n) k e])).Perm ([ay n<|it (two n) k e]++(B++[ay n<|go 1 n<|it (two n) k e]));rw [<- As,<- As];exact SQ _ Ce
noncomputable def cT(n:Net)(e:End):List End:=aq<|walker n e
def Kg{n:Net}{e:End}{k:Nat}(p:jf n e k):cT n e=(List.range k).map λi=>it (two n) i e:=by
 unfold cT walker;rw [vi p,q0n]
theorem S6{n:Net}{e:End}{k:Nat}(h:it (two n) k e=e):∀ m,it (two n) (k * m) e=e
 | 0=>rfl
 | m+1=>by rw [Nat.mul_succ,Nat.add_comm,tD,h,S6 h m]
def jJ{n:Net}(T:aw n){e:End}(h:e∈ends n){x:End}:x∈cT n e↔∃ i,it (two n) i e=x:=by
 obtain⟨k,p,_⟩:=sr T h;rw [Kg p,Aj]
 constructor
 ·rintro ⟨i,_,q⟩;exact⟨i,q⟩
 ·rintro ⟨i,q⟩;have p0:=p.pos;refine⟨i % k,Cb.mpr<|UJ _ p0,?_⟩;rw [<- q];have:=Nat.div_add_mod i k
  conv=>rhs;rw [<- this]
  rw [tD,S6 p.back]
def tE{n:Net}(T:aw n){e:End}(h:e∈ends n):∀ x∈cT n e,x∈ends n:=λx hx=>by
 obtain⟨i,q⟩:=(jJ T h).mp hx;rw [<- q];exact jI T h i
def Kh{n:Net}(T:aw n){e:End}(h:e∈ends n){x:End}(hx:x∈cT n e):∃ y∈cT n e,two n y=x:=by
 obtain⟨i,q⟩:=(jJ T h).mp hx;obtain⟨k,p,_⟩:=sr T h;have p0:=p.pos;refine⟨it (two n) (i+k - 1) e,(jJ T h).mpr ⟨_,rfl⟩,?_⟩;show it (two n) (i+k - 1+1) e=x;rw [show i+k - 1+1=k+i by omega,tD,p.back,q]
def Ki{n:Net}(T:aw n){e:End}(h:e∈ends n){x:End}(hx:x∈cT n e):two n x∈cT n e:=by
 obtain⟨i,q⟩:=(jJ T h).mp hx;exact(jJ T h).mpr ⟨i+1,by rw [<- q];rfl⟩
def S7{n:Net}(T:aw n){e:End}(h:e∈ends n){x:End}(hx:x∈ends n):ay n x∈(cT n e).map (ay n)↔x∈cT n e\/other n x∈cT n e:=by
 rw [Aj]
 constructor
 ·rintro ⟨y,hy,q⟩
  rcases xl T hx (tE T h y hy) q.symm with c | c
  ·exact .inl<|c ▸ hy
  ·exact .inr<|c ▸ hy
 ·rintro (c | c)
  ·exact⟨x,c,rfl⟩
  ·refine⟨_,c,?_⟩;obtain⟨z,hz⟩:=af.mp hx;rw [dY hz,dY (c8 T hz).1]
def S8{n:Net}(T:aw n){e:End}(h:e∈ends n):other n (other n e)=e:=by
 obtain⟨z,hz⟩:=af.mp h;exact(c8 T hz).2.1
def xm(n:Net)(told:List Str):Prop:=∀ x∈ends n,(ay n (two n x)∈told↔ay n x∈told)
theorem S9{n:Net}(T:aw n){told:List Str}(C:xm n told){e:End}(h:e∈ends n):∀ i,ay n (it (two n) i e)∈told↔ay n e∈told
 | 0=>Iff.rfl
 | i+1=>(C _<|jI T h i).trans<|S9 T C h i
def q76{n:Net}(T:aw n){e:End}(h:e∈ends n):xm n ((cT n e).map<|ay n):=λx hx=>by
 rw [S7 T h<|mH T hx,S7 T h hx]
 constructor
 ·rintro (c | c)
  ·obtain⟨y,hy,q⟩:=Kh T h c;exact .inl<|vg T (tE T h y hy) hx q ▸ hy
  ·have:=Ki T h c;rw [Kf T hx] at this;exact .inr this
 ·rintro (c | c)
  ·exact .inl<|Ki T h c
  ·obtain⟨y,hy,q⟩:=Kh T h c;have tF:=tE T h y hy;have e1:two n x=other n y:=by
    rw [<- S8 T hx,<- q,Kf T tF]
   exact .inr<|by rw [e1,S8 T tF];exact hy
structure oV(n:Net)(es:List End)(told:List Str)(ws:List<|List End):Prop where
 nd:((ws.flatMap aq).map<|ay n).Nodup
 new:∀ x∈ws.flatMap aq,x∈ends n/\ay n x∉told
 cov:∀ e∈es,ay n e∈told\/ay n e∈(ws.flatMap aq).map (ay n)
 wk:∀ w∈ws,∃ e,e∈ends n/\w=walker n e
theorem Kj{n:Net}(T:aw n):∀(es:List End) (told:List Str),(∀ e∈es,e∈ends n)->xm n told->oV n es told (dZ n es told)
 | [],told,_,_=>by
  unfold dZ;exact⟨Cj,λx hx=>(nomatch hx),λe he=>(nomatch he),λw hw=>(nomatch hw)⟩
 | e :: r,told,he,C=>by
  have h:=he e<|Ah ..;unfold dZ
  by_cases q:ay n e∈told
  ·rw [BL q];have I:=Kj T r told (λa ha=>he a<|Ak _ ha) C;refine⟨I.nd,I.new,λa ha=>?_,I.wk⟩
   rcases Al.mp ha with rfl | ha
   ·exact .inl q
   ·exact I.cov a ha
  ·rw [BK q];have C':xm n (told++(aq<|walker n e).map (ay n)):=λx hx=>by
    rw [An,An];exact or_congr (C x hx)<|q76 T h x hx
   have I:=Kj T r _ (λa ha=>he a<|Ak _ ha) C';have fresh:∀ x∈cT n e,x∈ends n/\ay n x∉told:=λx hx=>by
    obtain⟨i,k⟩:=(jJ T h).mp hx;refine⟨tE T h x hx,λz=>q ?_⟩;rw [<- k] at z;exact(S9 T C h i).mp z
   refine⟨?_,λx hx=>?_,λa ha=>?_,λw hw=>?_⟩
   ·rw [Cc,Ai,Cf];refine⟨?_,I.nd,λa ha b hb k=>?_⟩
    ·obtain⟨k,p,_⟩:=sr T h;show((cT n e).map<|ay n).Nodup;rw [Kg p,Ci,Bg,Cy,Bt];intro i j hi hj dw;rw [Ej,Ej];rw [Du] at hj;exact k5r T h p dw hj
    ·subst k;obtain⟨x,hx,rfl⟩:=Aj.mp hb;exact(I.new x hx).2<|Au _ ha
   ·rw [Cc] at hx
    rcases An.mp hx with k | k
    ·exact fresh x k
    ·exact⟨(I.new x k).1,λz=>(I.new x k).2<|Az _ z⟩
   ·rw [Cc,Ai]
    rcases Al.mp ha with rfl | ha
    ·exact .inr<|Az _<|Aj.mpr ⟨a,(jJ T h).mpr ⟨0,rfl⟩,rfl⟩
    ·rcases I.cov a ha with k | k
     ·rcases An.mp k with k | k
      ·exact .inl k
      ·exact .inr<|Az _ k
     ·exact .inr<|Au _ k
   ·rcases Al.mp hw with rfl | hw
    ·exact⟨e,h,rfl⟩
    ·exact I.wk w hw
def Ta{n:Net}(T:aw n){e:End}(h:e∈ends n):((walker n e).map<|ay n).Perm ((cT n e).map (ay n)++(cT n e).map λx=>ay n<|go 1 n x):=by
 obtain⟨k,p,_⟩:=sr T h;rw [Kg p,Ci,Ci];unfold walker;rw [vi p];exact S4 n e k
theorem Tb{n:Net}(T:aw n):∀{ws:List (List End)},(∀ w∈ws,∃ e,e∈ends n/\w=walker n e)->(ws.flatMap λw=>w.map<|ay n).Perm ((ws.flatMap aq).map (ay n)++(ws.flatMap aq).map λx=>ay n<|go 1 n x)
 | [],_=>List.Perm.refl _
 | w :: ws,h=>by
  obtain⟨e,he,rfl⟩:=h w<|Ah ..;have I:=Tb T (ws:=ws) λw hw=>h w<|Ak _ hw;rw [Cc,Cc,Ai,Ai];refine((Ta T he).append I).trans ?_;show(((cT n e).map (ay n)++(cT n e).map λx=>ay n<|go 1 n x)++_).Perm (((cT n e).map (ay n)++_)++((cT n e).map (λx=>ay n<|go 1 n x)++_));generalize (cT n e).map (ay n)=A;generalize ((cT n e).map λx=>ay n<|go 1 n x)=B;generalize (ws.flatMap aq).map (ay n)=D;generalize ((ws.flatMap aq).map λx=>ay n<|go 1 n x)=F;rw [As,As];refine LQ A ?_;rw [<- As,<- As];exact SQ _ Ce
noncomputable abbrev aS(n:Net):List (List End):=dZ n (ends n) []
def q2l(n:Net):xm n []:=λx _=>by simp
def ra{n:Net}(T:aw n):oV n (ends n) [] (aS n):=Kj T (ends n) [] (λ_ h=>h)<|q2l n
def Kk{n:Net}(T:aw n){z:Str}(hz:z∈ag n):(((aS n).flatMap aq).map<|ay n).count z=1:=by
 have I:=ra T;rw [List.Nodup.count I.nd,BL];have:pos n z≠[]:=λq=>by have:=rR n z;rw [q,T z hz] at this;cases this
 obtain⟨p,hp⟩:=Ff _ this;have hp:=aH.mp hp;have:=I.cov p<|af.mpr ⟨z,hp⟩;rw [dY hp] at this
 rcases this with k | k
 ·cases k
 ·exact k
def q3b{n:Net}(T:aw n){x:End}(hx:x∈(aS n).flatMap aq):two n x∈(aS n).flatMap aq:=by
 obtain⟨w,hw,hx⟩:=Dd.mp hx;obtain⟨e,he,rfl⟩:=(ra T).wk w hw;exact Dd.mpr ⟨_,hw,Ki T he hx⟩
theorem Tc{α β:Type}{f:α->β}:∀{l:List α},l.Nodup->(∀ a∈l,∀ b∈l,f a=f b->a=b)->(l.map f).Nodup
 | [],_,_=>Cj
 | a :: l,h,inj=>by
  have h:=Bi.mp h;refine Bi.mpr ⟨λhm=>?_,Tc h.2 λx hx y hy=>inj x (Ak _ hx) y<|Ak _ hy⟩;obtain⟨b,hb,q⟩:=Aj.mp hm;have:=inj a (Ah ..) b (Ak _ hb) q.symm;exact h.1<|this ▸ hb
theorem z6{α β:Type}{f:α->β}:∀{l:List α},(l.map f).Nodup->∀ a∈l,∀ b∈l,f a=f b->a=b
 | c :: l,h,a,ha,b,hb,q=>by
  rw [Bh,Bi] at h
  rcases Al.mp ha with ea | y4
  ·rcases Al.mp hb with eb | kh
   ·rw [ea,eb]
   ·exact absurd (Aj.mpr ⟨b,kh,by rw [<- q,ea]⟩) h.1
  ·rcases Al.mp hb with eb | kh
   ·exact absurd (Aj.mpr ⟨a,y4,by rw [q,eb]⟩) h.1
   ·exact z6 h.2 a y4 b kh q
theorem Td{α β:Type}{f:α->β}:∀{l:List α},(l.map f).Nodup->l.Nodup
 | [],_=>Cj
 | a :: l,h=>by
  rw [Bh,Bi] at h;exact Bi.mpr ⟨λk=>h.1<|Aj.mpr ⟨a,k,rfl⟩,Td h.2⟩
def Te{n:Net}(T:aw n):(((aS n).flatMap aq).map λx=>ay n<|go 1 n x).Perm (((aS n).flatMap aq).map<|ay n):=by
 have I:=ra T;refine vp (Tc (Td I.nd) λx hx y hy q=>?_) (λz hz=>?_)<|by rw [Aa,Aa];exact Am _
 ·have i8:=(I.new x hx).1;have tF:=(I.new y hy).1
  rcases q25 T i8 tF q with c | c
  ·exact c
  ·exfalso
   have t:ay n (two n y)=ay n x:=by
    obtain⟨z,hz⟩:=af.mp i8;rw [c,dY hz,dY (c8 T hz).1]
   have:=z6 I.nd _ (q3b T hy) x hx t;obtain⟨z,hz⟩:=af.mp i8;exact(c8 T hz).2.2<|c.symm.trans this
 ·obtain⟨x,hx,rfl⟩:=Aj.mp hz;obtain⟨y,hy⟩:=af.mp<|gB (c:=1) T (I.new x hx).1;rw [dY hy];refine Dr.mp ?_;rw [Kk T<|eI hy];exact Ez
def k6f{n:Net}(T:aw n){z:Str}(hz:z∈ag n):((aS n).flatMap λw=>w.map<|ay n).count z=2:=by
 rw [(Tb T (ra T).wk).count_eq,Er,(Te T).count_eq,Kk T hz]
theorem Tf(n:Net)(z:Str):∀ ws:List<|List End,(ws.flatMap λw=>w.map<|ay n).count z=(ws.map λw=>(w.map<|ay n).count z).sum
 | []=>rfl
 | w :: ws=>by rw [Cc,Er,Tf n z ws];rfl
theorem Tg:∀(l:List Nat) (x:Nat),x∈l->x<=l.sum
 | y :: l,x,h=>by
  rw [Fy]
  rcases Al.mp h with rfl | h
  ·omega
  ·have:=Tg l x h;omega
def q05{n:Net}(T:aw n){z:Str}(hz:z∈ag n){w:List End}(hw:w∈aS n):(w.map<|ay n).count z<=2:=by
 have h:=k6f T hz;rw [Tf] at h;have:=Tg ((aS n).map λw=>(w.map<|ay n).count z) _<|Aj.mpr ⟨w,hw,rfl⟩;omega
def Ti{n:Net}{w:List End}{ss:List Str}(hw:∀ c∈w,c∈ends n)(h:∀ z,z∈ss↔(w.map<|ay n).count z=1):∀ z∈ss,z∈ag n:=λz hz=>by
 have:=Dr.mp (by rw [(h z).mp hz];exact Ez);obtain⟨e,he,rfl⟩:=Aj.mp this;obtain⟨y,hy⟩:=af.mp<|hw e he;rw [dY hy];exact eI hy
def k9e{n:Net}(T:aw n){w:List End}(hw:w∈aS n){ss:List Str}(h:∀ z,z∈ss↔(w.map<|ay n).count z=1){z:Str}(hz:z∈ag n):decide (z∈ss)=eX n w z:=by
 have:=q05 T hz hw;unfold eX;refine decide_eq_decide.mpr<|(h z).trans ?_;omega
end Nt
namespace L2
open PySem PySem.Spec PyProof.Rows bB
section
variable{X:Cx}{a b e:Expr}{es:List Expr}{σ:St}{H:Hp}{Q:VK}{pos p kp cp:Pos}{j:Nat}
theorem Kl:∀{ns:List Int} {us:List Value},ax (ns.map V.int) us->IntsAre us ns
 | [],[],.nil=> .nil
 | n :: ns,u :: us,.cons r t=>by
  obtain⟨tk,rfl⟩:=(show ∃ t,u=Value.int n t from r);exact .cons _ _<|Kl t
theorem Tj:∀{ns:List Int} {us:List Value},IntsAre us ns->ax (ns.map V.int) us
 | [],[],.nil=> .nil
 | n :: ns,_ :: us,.cons _ _ t=> .cons ⟨_,rfl⟩<|Tj t
def k4u:fv X (.builtin "isinstance") (λxs H Q=>∃ ea C oe tp Km vs b,xs=[.ref ea,.ref tp]/\H tp=some (.tup Km)/\(∀ us,ax Km us->us=vs)/\H ea=some (XO oe)/\zV oe (.ref C)/\nn X.K C=true/\PySem.W.kitAny X.K (.ref C) vs=some b/\Q (.bl b) H):=by
 intro pins s σ H xs us Q I r h;obtain⟨ea,C,oe,tp,Km,vs,b,rfl,JY,hv,hH,ix,hl,e,q⟩:=h;obtain⟨u,w',rfl,ru,dJ⟩:=vals2 r;cases (show u=Value.ref ea from ru);cases (show w'=Value.ref tp from dJ);obtain⟨its,r2,pl,_⟩:=I.tuple<|aM.of JY;obtain rfl:=hv its r2;obtain⟨o,ho,hc,n,hd⟩:=pl;obtain⟨oc,od,oda,jO⟩:=o;have hc:oc=_:=hc;have hd:oda=_:=hd;subst hc hd;have he:s.heap.get? ea=some oe:=(show az X.prog X.w H s.heap ea (XO oe) from I.aB ea _ hH).1;exact PySem.W.kia_tup (SV hl) I.d9 ⟨oe,SW he ix⟩ ho e (λz=>nomatch z) λtk=>⟨.bl b,H,I.tok tk,rfl,q⟩
end
end L2
namespace L2
open PySem PySem.Spec PyProof.Rows bU
section
variable{X:Cx}{elt t1 i1 t2 i2 t3 i3:Expr}{f1 f2 f3:List Expr}{scope:Scope}{pos:Pos}{σ:St}{H:Hp}{acc:Value}{env:Env}
end
section
variable{X:Cx}{tg:Expr}{ifs:List Expr}{inner:Sem Unit}{σ:St}{H:Hp}{a:Addr}{xs:List V}{after:St->Hp->Prop}
end
section
variable{X:Cx}{σ:St}{H:Hp}{Q:VK}
end
end L2
namespace Nt
open PySem L2 Classical
def fU{α:Type}(k:Nat)(w:List α):List α:=aq<|w.drop k
def dF(k:Nat):Nat->List (List End)->List (Nat×End)
 | _,[]=>[]
 | m,w :: ws=>((fU k w).map λe=>(m,e))++dF k (m+1) ws
def dG(k:Nat)(ws:List<|List End):List (Nat×End):=dF k 0 ws
theorem Tl(k:Nat):∀(m:Nat) (ws:List<|List End),(dF k m ws).map (·.2)=ws.flatMap (fU k)
 | m,[]=>rfl
 | m,w :: ws=>by
  unfold dF;rw [Ai,Tl k (m+1) ws,Ci,Cc]
  congr 1
  exact List.map_id' _
def z7{n:Net}{e:End}:fU 1 (walker n e)=(aq<|walker n e).map (go 1 n):=by
 unfold walker fU;have l:=qf n e<|vh n e;apply Do;intro i;rw [Af,qe,qe,PX]
 by_cases h:i < vh n e
 ·rw [show 1+2 * i=2 * i+1 by omega,yR n e _ i h,qg n e _ i h];rfl
 ·rw [Bc (by omega),Bc<|by omega];rfl
theorem To{n:Net}:∀{ws:List (List End)},(∀ w∈ws,∃ e,e∈ends n/\w=walker n e)->ws.flatMap (fU 1)=(ws.flatMap aq).map (go 1 n)
 | [],_=>rfl
 | w :: ws,h=>by
  obtain⟨e,_,rfl⟩:=h w<|Ah ..;rw [Cc,Cc,Ai,z7,To λv hv=>h v<|Ak _ hv]
theorem Tr{n:Net}(T:aw n){k:Nat}(hk:k<=1):((dG k<|aS n).map λp=>ay n p.2).Perm (((aS n).flatMap aq).map<|ay n):=by
 have e:((dG k<|aS n).map λp=>ay n p.2)=((aS n).flatMap<|fU k).map (ay n):=by
  unfold dG;rw [<- Tl k 0<|aS n,Ci];rfl
 rw [e]
 match k,hk with
 | 0,_=>exact List.Perm.refl _
 | 1,_=>
  rw [To (ra T).wk,Ci];exact Te T
def Kn{n:Net}(T:aw n){k:Nat}(hk:k<=1):((dG k<|aS n).map λp=>ay n p.2).Nodup:=(Tr T hk).nodup_iff.mpr (ra T).nd
def tG{n:Net}(T:aw n){k:Nat}(hk:k<=1){z:Str}:z∈((dG k<|aS n).map λp=>ay n p.2)↔z∈ag n:=by
 rw [(Tr T hk).mem_iff];refine⟨λh=>?_,λh=>Dr.mp<|by rw [Kk T h];exact Ez⟩;obtain⟨x,hx,rfl⟩:=Aj.mp h;obtain⟨y,hy⟩:=af.mp ((ra T).new x hx).1;rw [dY hy];exact eI hy
noncomputable def cU(n:Net)(k:Nat)(z:Str):List (Nat×End):=(dG k<|aS n).filter λp=>decide (ay n p.2=z)
theorem z8{α:Type}{f:α->Str}:∀{l:List α},(l.map f).Nodup->∀{p:α},p∈l->(l.filter λx=>decide (f x=f p))=[p]
 | a :: l,hn,p,hp=>by
  rw [Bh,Bi] at hn;rw [Ct]
  by_cases h:f a=f p
  ·rw [BL<|BW h];have e:a=p:=by
    rcases Al.mp hp with q | q
    ·exact q.symm
    ·exact absurd (by rw [h];exact Aj.mpr ⟨p,q,rfl⟩) hn.1
   subst e
   congr 1
   rw [Dx];intro x hx q;exact hn.1<|by rw [<- BX q];exact Aj.mpr ⟨x,hx,rfl⟩
  ·rw [BK λq=>h<|BX q]
   rcases Al.mp hp with q | q
   ·exact absurd (by rw [q]) h
   ·exact z8 hn.2 q
def oW{n:Net}(T:aw n){k:Nat}(hk:k<=1){z:Str}(hz:z∈ag n):∃ p,p∈dG k (aS n)/\ay n p.2=z/\cU n k z=[p]:=by
 obtain⟨p,hp,rfl⟩:=Aj.mp<|(tG T hk).mpr hz;exact⟨p,hp,rfl,z8 (Kn T hk) hp⟩
theorem Ko{n:Net}(T:aw n):∀(es:List End) (told:List Str),(∀ e∈es,e∈ends n)->∀(i:Nat) w,(dZ n es told)[i]?=some w ->
  ∃ e l r,es=l++e :: r/\(∀ x∈l,ay n x∈told++(((dZ n es told).take i).flatMap aq).map (ay n))/\ay n e∉told++(((dZ n es told).take i).flatMap aq).map (ay n)/\w=walker n e
 | [],told,_,i,w,h=>by simp [dZ] at h
 | e :: r,told,hE,i,w,h=>by
  have hr:∀ a∈r,a∈ends n:=λa ha=>hE a<|Ak _ ha;unfold dZ at h ⊢
  by_cases c:ay n e∈told
  ·rw [BL c] at h ⊢;obtain⟨x,l,r',h1,h2,h3,h4⟩:=Ko T r told hr i w h;refine⟨x,e :: l,r',by rw [h1];rfl,λy hy=>?_,h3,h4⟩
   rcases Al.mp hy with q | q
   ·rw [q];exact Az _ c
   ·exact h2 y q
  ·rw [BK c] at h ⊢
   match i with
   | 0=>
    cases h;refine⟨e,[],r,rfl,λy hy=>(nomatch hy),?_,rfl⟩
    simpa using c
   | i+1=>
    obtain⟨x,l,r',h1,h2,h3,h4⟩:=Ko T r (told++(aq<|walker n e).map (ay n)) hr i w h;have eq:(told++(((walker n e :: dZ n r (told++(aq<|walker n e).map (ay n))).take<|i+1).flatMap aq).map (ay n))=(told++(aq<|walker n e).map (ay n))++(((dZ n r<|told++(aq<|walker n e).map (ay n)).take i).flatMap aq).map (ay n):=by
     rw [List.take_succ_cons,Cc,Ai,As]
    rw [eq];refine⟨x,e :: l,r',by rw [h1];rfl,λy hy=>?_,h3,h4⟩
    rcases Al.mp hy with q | q
    ·rw [q];refine Az _<|Au _<|Aj.mpr ⟨e,?_,rfl⟩;exact(jJ T<|hE e<|Ah ..).mpr ⟨0,rfl⟩
    ·exact h2 y q
noncomputable def Ts(n:Net)(i:Nat):List Str:=(((aS n).take i).flatMap aq).map<|ay n
def k47{n:Net}(T:aw n){i:Nat}{w:List End}(h:(aS n)[i]?=some w):∃ e l r,ends n=l++e :: r/\(∀ x∈l,ay n x∈Ts n i)/\ay n e∉Ts n i/\w=walker n e:=by
 obtain⟨e,l,r,h1,h2,h3,h4⟩:=Ko T (ends n) [] (λ_ h=>h) i w h;exact⟨e,l,r,h1,h2,h3,h4⟩
def k09{n:Net}(T:aw n){e:End}(h:e∈ends n):(walker n e)[0]?=some e:=by
 obtain⟨k,p,_⟩:=sr T h;unfold walker;rw [vi p];have:=qg n e k 0 p.pos;exact this
structure cf(n:Net)(s:Str->Bool)(c:Nat->Bool)(χ:End->Bool):Prop where
 face:a9 n s χ
 cut:∀ e z,aG n e=some z->s z=(c e.1 ^^ c (other n e).1)
def jr(n:Net)(c:Nat->Bool)(χ:End->Bool)(x:End):Bool:=c x.1 ^^ χ (other n x)
def tH(c:Nat->Bool)(χ:End->Bool)(y:End):Bool:=c y.1 ^^ χ y
section
variable{n:Net}{s:Str->Bool}{c:Nat->Bool}{χ:End->Bool}
def cf.odd(T:aw n)(D:cf n s c χ){x:End}(hx:x∈ends n):tH c χ (go 1 n x)=jr n c χ x:=by
 obtain⟨z,hz⟩:=af.mp hx;have h1:=D.face.go x hx;rw [q3n T hx] at h1;have h2:=D.face.de x z hz;have h3:=D.cut x z hz;unfold tH jr;rw [h1,show(go 1 n x).1=(other n x).1 from rfl];rw [h2] at h3
 revert h3
 cases χ x <;> cases χ (other n x) <;> cases c x.1 <;> cases c (other n x).1 <;> simp
def cf.even(T:aw n)(D:cf n s c χ){y:End}(hy:y∈ends n):jr n c χ (go (-1) n y)=tH c χ y:=by
 obtain⟨z,hz⟩:=af.mp hy;have h1:=D.face.go _<|dj T<|gB T hy (c:=-1);rw [k82 T hy] at h1;have h2:=D.face.de y z hz;have h3:=D.cut y z hz;unfold tH jr;rw [<- h1,show(go (-1) n y).1=(other n y).1 from rfl];rw [h2] at h3
 revert h3
 cases χ y <;> cases χ (other n y) <;> cases c y.1 <;> cases c (other n y).1 <;> simp
def cf.two(T:aw n)(D:cf n s c χ){x:End}(hx:x∈ends n):jr n c χ (Nt.two n x)=jr n c χ x:=by
 rw [show Nt.two n x=go (-1) n (go 1 n x) from rfl,D.even T<|gB T hx,D.odd T hx]
theorem cf.it(T:aw n)(D:cf n s c χ){x:End}(hx:x∈ends n):∀ k,jr n c χ (Nt.it (Nt.two n) k x)=jr n c χ x
 | 0=>rfl
 | k+1=>by
  show jr n c χ (Nt.two n<|Nt.it (Nt.two n) k x)=_;rw [D.two T<|jI T hx k,D.it T hx k]
theorem Tv(k:Nat):∀(m:Nat) (ws:List<|List End) {i:Nat} {e:End},(i,e)∈dF k m ws->∃ j w,ws[j]?=some w/\i=m+j/\e∈fU k w
 | m,[],i,e,h=>by simp [dF] at h
 | m,w :: ws,i,e,h=>by
  unfold dF at h
  rcases An.mp h with h | h
  ·obtain⟨x,hx,q⟩:=Aj.mp h;cases q;exact⟨0,w,rfl,rfl,hx⟩
  ·obtain⟨j,v,h1,h2,h3⟩:=Tv k (m+1) ws h;exact⟨j+1,v,h1,by omega,h3⟩
def xn{k:Nat}{ws:List (List End)}{i:Nat}{e:End}(h:(i,e)∈dG k ws):∃ w,ws[i]?=some w/\e∈fU k w:=by
 obtain⟨j,w,h1,h2,h3⟩:=Tv k 0 ws h;rw [Fs] at h2;subst h2;exact⟨w,h1,h3⟩
noncomputable def cV(n:Net)(c:Nat->Bool)(χ:End->Bool)(i:Nat):Bool:=match (aS n)[i]? with
 | some (e :: _)=>jr n c χ e
 | _=>false
theorem Tw(T:aw n){i:Nat}{e:End}(he:e∈ends n)(h:(aS n)[i]?=some (walker n e)):cV n c χ i=jr n c χ e:=by
 have h0:=k09 T he;unfold cV;rw [h];cases hw:walker n e with
 | nil=>rw [hw] at h0;cases h0
 | cons a l=>rw [hw] at h0;cases h0;rfl
def tI(T:aw n){i:Nat}{w:List End}(h:(aS n)[i]?=some w):∃ e,e∈ends n/\w=walker n e:=by
 obtain⟨e,l,r,heq,_,_,hw⟩:=k47 T h;exact⟨e,by rw [heq];simp,hw⟩
def cf.jT(T:aw n)(D:cf n s c χ){i:Nat}{x:End}(h:(i,x)∈dG 0 (aS n)):x∈ends n/\jr n c χ x=cV n c χ i:=by
 obtain⟨w,hw,hx⟩:=xn h;obtain⟨e,he,rfl⟩:=tI T hw;have hx:x∈cT n e:=hx;obtain⟨k,rfl⟩:=(jJ T he).mp hx;rw [Tw T he hw];exact⟨jI T he k,D.it T he k⟩
def cf.xo(T:aw n)(D:cf n s c χ){i:Nat}{y:End}(h:(i,y)∈dG 1 (aS n)):y∈ends n/\tH c χ y=cV n c χ i:=by
 obtain⟨w,hw,hy⟩:=xn h;obtain⟨e,he,rfl⟩:=tI T hw;rw [z7] at hy;obtain⟨x,hx,rfl⟩:=Aj.mp hy;have hx:x∈cT n e:=hx;obtain⟨k,rfl⟩:=(jJ T he).mp hx;rw [Tw T he hw];have:=jI T he k;exact⟨gB T this,by rw [D.odd T this,D.it T he k]⟩
def cf.de(T:aw n)(D:cf n s c χ){p q:Nat×End}(hp:p∈dG 0 (aS n))(hq:q∈dG 1 (aS n))(h:ay n p.2=ay n q.2):s (ay n p.2)=(cV n c χ p.1 ^^ cV n c χ q.1):=by
 obtain⟨i,x⟩:=p;obtain⟨j,y⟩:=q;obtain⟨hx,e1⟩:=D.jT T hp;obtain⟨hy,e2⟩:=D.xo T hq;show s (ay n x)=(cV n c χ i ^^ cV n c χ j);obtain⟨z,hz⟩:=af.mp hx;have h2:=D.face.de x z hz;have h3:=D.cut x z hz;rw [<- e1,<- e2,dY hz];unfold jr tH
 rcases xl T hx hy h with k | k
 ·subst k;rw [h2];cases χ y <;> cases χ (other n y) <;> cases c y.1 <;> rfl
 ·subst k;rw [h3];cases χ (other n x) <;> cases c x.1 <;> cases c (other n x).1 <;> rfl
end
def q3d{α:Type}(k:Nat):fU k ([]:List α)=[]:=by unfold fU;rw [List.drop_nil];rfl
theorem Tx(k i:Nat):∀(m:Nat) (ws:List<|List End),((dF k m ws).filter λp=>decide (p.1=i))=if m<=i then((fU k<|ws[i - m]?.getD []).map λe=>(i,e)) else []
 | m,[]=>by
  rw [List.getElem?_nil];show []=if m<=i then((fU k ([]:List End)).map λe=>(i,e)) else [];rw [q3d]
  split <;> rfl
 | m,w :: ws=>by
  unfold dF;rw [Cp,Tx k i (m+1) ws]
  by_cases h:m=i
  ·subst h;rw [BL<|Am _,BK (by omega),Ba,VF];rw [List.filter_eq_self.mpr λa ha=>by obtain⟨x,_,rfl⟩:=Aj.mp ha;exact BW rfl];rfl
  ·rw [Dx.mpr λa ha=>by obtain⟨x,_,rfl⟩:=Aj.mp ha;exact λq=>h<|BX q,Gd]
   by_cases c:m<=i
   ·rw [BL c,BL (by omega),show i - m=(i - (m+1))+1 by omega];rfl
   ·rw [BK c,BK<|by omega]
theorem Tz{α:Type}(f:α->Str)(z:Str):∀ l:List α,(l.map f).count z=(l.filter λx=>decide (f x=z)).length
 | []=>rfl
 | a :: l=>by
  rw [Bh,Dh,Tz f z l,Ct]
  by_cases h:f a=z
  ·rw [BL (by rw [h];exact beq_self_eq_true z),BL<|BW h,Ax]
  ·rw [BK (by rw [JX];exact h),BK λq=>h<|BX q];rfl
def TB{n:Net}{k:Nat}{z:Str}{p:Nat×End}(hp:cU n k z=[p]){i:Nat}{w:List End}(hw:(aS n)[i]?=some w):((fU k w).map<|ay n).count z=if p.1=i then 1 else 0:=by
 have h1:=Tx k i 0<|aS n;rw [BL<|Bp _,VB,hw] at h1;have h1:(dG k<|aS n).filter (λp=>decide (p.1=i))=(fU k w).map λe=>(i,e):=h1;have h2:(((dG k<|aS n).filter λp=>decide (p.1=i)).filter λp=>decide (ay n p.2=z))=(cU n k z).filter λp=>decide (p.1=i):=by
  unfold cU;rw [List.filter_filter,List.filter_filter]
  congr 1
  funext p
  exact Bool.and_comm ..
 rw [h1,hp,List.filter_map] at h2;have h3:=BZ List.length h2;rw [Aa] at h3;rw [Tz];refine Eq.trans h3 ?_;rw [Ct]
 by_cases c:p.1=i
 ·rw [BL<|BW c,BL c];rfl
 ·rw [BK λq=>c<|BX q,BK c];rfl
def TC{n:Net}(T:aw n){z:Str}{p q:Nat×End}(hp:cU n 0 z=[p])(hq:cU n 1 z=[q]){i:Nat}{w:List End}(hw:(aS n)[i]?=some w):eX n w z=(decide (p.1=i) ^^ decide (q.1=i)):=by
 obtain⟨e,he,rfl⟩:=tI T hw;have c0:=TB hp hw;have c1:=TB hq hw;rw [z7,Ci] at c1;have c0:((cT n e).map<|ay n).count z=_:=c0;have c1:((cT n e).map λx=>ay n<|go 1 n x).count z=_:=c1;unfold eX;rw [(Ta T he).count_eq,Er,c0,c1]
 by_cases a:p.1=i <;> by_cases b:q.1=i <;> simp [a,b]
theorem TD(k:Nat):∀(m:Nat) (ws:List<|List End) {j:Nat} {w:List End} {e:End},ws[j]?=some w->e∈fU k w->(m+j,e)∈dF k m ws
 | m,[],j,w,e,h,_=>by simp at h
 | m,v :: ws,0,w,e,h,he=>by
  cases h;unfold dF;exact Az _<|Aj.mpr ⟨e,he,rfl⟩
 | m,v :: ws,j+1,w,e,h,he=>by
  unfold dF;refine Au _ ?_;have:=TD k (m+1) ws (j:=j) h he;rw [show m+(j+1)=m+1+j by omega];exact this
def z9{k:Nat}{ws:List (List End)}{i:Nat}{w:List End}{e:End}(h:ws[i]?=some w)(he:e∈fU k w):(i,e)∈dG k ws:=by
 have:=TD k 0 ws h he;rw [Fs] at this;exact this
def j85{n:Net}(T:aw n){x:End}(hx:x∈ends n):∃ p∈dG 0 (aS n),∃ q∈dG 1 (aS n),p.1=q.1/\ay n p.2=ay n x/\ay n q.2=ay n (left n x):=by
 obtain⟨z,hz⟩:=af.mp hx;obtain⟨p,hp,ez⟩:=Aj.mp ((tG T (k:=0)<|by decide).mpr<|eI hz);obtain⟨i,e⟩:=p;obtain⟨w,hw,he⟩:=xn hp;obtain⟨e0,h0,rfl⟩:=tI T hw;have Kq:e∈cT n e0:=he;have m4:=tE T h0 e Kq;have ht:ay n x=ay n e:=by rw [dY hz];exact ez.symm
 have hO:∀ y∈cT n e0,go 1 n y∈fU 1 (walker n e0):=λy hy=>by
  rw [z7];exact Aj.mpr ⟨y,hy,rfl⟩
 rcases xl T hx m4 ht with k | k
 ·obtain⟨y,hy,h2⟩:=Kh T h0 Kq;have tF:=tE T h0 y hy;refine⟨(i,e),hp,(i,go 1 n y),z9 hw<|hO y hy,rfl,ht.symm,?_⟩;have hg:=gB T tF (c:=1);have h3:other n (go 1 n y)=left n x:=by
   have:dA (-1) n (other n<|go 1 n y)=x:=by rw [<- k];exact h2
   have hb:=oj (c:=-1)<|dj T hg;rw [this,show(-(-1):Int)=1 from rfl] at hb;rw [yQ hx,hb]
  obtain⟨t,dC⟩:=af.mp hg;show ay n (go 1 n y)=_;rw [<- h3,dY dC,dY (c8 T dC).1]
 ·refine⟨(i,e),hp,(i,go 1 n e),z9 hw<|hO e Kq,rfl,ht.symm,?_⟩;show ay n (dA 1 n<|other n e)=_;rw [k,(c8 T hz).2.1,yQ hx]
def Kr{n:Net}(T:aw n){k:Nat}(hk:k<=1){p q:Nat×End}(hp:p∈dG k (aS n))(hq:q∈dG k (aS n))(h:ay n p.2=ay n q.2):p=q:=by
 have h1:=z8 (Kn T hk) hp;have h2:=z8 (Kn T hk) hq;have h3:(λx:Nat×End=>decide (ay n x.2=ay n p.2))=λx=>decide (ay n x.2=ay n q.2):=by rw [h]
 rw [h3] at h1;exact List.cons.inj (h1.symm.trans h2) |>.1
def q30{n:Net}(T:aw n)(hg:cm n)(hN:(n.map (·.1)).Nodup){S:Nat->Prop}(s0:∃ p∈dG 0 (aS n),S p.1)
  (cl:∀ p∈dG 0 (aS n),∀ q∈dG 1 (aS n),ay n p.2=ay n q.2->(S p.1↔S q.1)):∀ i,i < (aS n).length->S i:=by
 let B:Str->Prop:=λz=>∃ p∈dG 0 (aS n),ay n p.2=z/\S p.1
 have bp:∀{p:Nat×End},p∈dG 0 (aS n)->(B (ay n p.2)↔S p.1):=λ{p} hp=>⟨λ⟨q,hq,e,h⟩=>by rw [Kr T (by decide) hp hq e.symm];exact h,λh=>⟨p,hp,rfl,h⟩⟩;have bq:∀{q:Nat×End},q∈dG 1 (aS n)->(B (ay n q.2)↔S q.1):=λ{q} hq=>by
  have hz:ay n q.2∈ag n:=(tG T (k:=1)<|by decide).mp<|Aj.mpr ⟨q,hq,rfl⟩;obtain⟨p,hp,e⟩:=Aj.mp ((tG T (k:=0)<|by decide).mpr hz);have e:ay n p.2=ay n q.2:=e;rw [<- e,bp hp];exact cl p hp q hq e
 have bl:∀ x∈ends n,(B (ay n x)↔B (ay n<|left n x)):=λx hx=>by
  obtain⟨p,hp,q,hq,e,e1,e2⟩:=j85 T hx;rw [<- e1,<- e2,bp hp,bq hq,e]
 have br:∀(r j:Nat) z,(row n r)[j]?=some z->∀ z0,(row n r)[0]?=some z0->(B z↔B z0):=λr j=>by
  induction j with
  | zero=>intro z h z0 h0;rw [h] at h0;cases h0;exact Iff.rfl
  | succ j ih=>
   intro z h z0 h0;have hl:=(Ac.mp h).1;obtain⟨y,hy⟩:∃ y,(row n r)[j]?=some y:=⟨_,Ab<|by omega⟩;have x5:aG n (r,j)=some y:=hy;have b:=bl (r,j)<|af.mpr ⟨y,x5⟩;have e:left n (r,j)=(r,j+1):=by
    unfold left;rw [show(j+1) % (row n r).length=j+1 from Cd hl]
   have h':aG n (r,j+1)=some z:=h;rw [e,dY x5,dY h'] at b;exact b.symm.trans<|ih y hy z0 h0
 have ba:∀ r∈n,∀ y∈r.2,∀ z∈r.2,B y->B z:=λr hr y hy z hz h=>by
  obtain⟨i,hi,rfl⟩:=List.getElem_of_mem hr;rw [<- jd hi] at hy hz;obtain⟨a,ha⟩:=Be hy;obtain⟨b,hb⟩:=Be hz;obtain⟨z0,h0⟩:∃ z0,(row n i)[0]?=some z0:=⟨_,Ab<|by have:=(Ac.mp ha).1;omega⟩;exact(br i b z hb z0 h0).mpr<|(br i a y ha z0 h0).mp h
 have all:∀ r∈n,∃ t∈r.2,B t:=by
  have:=hg (λx=>∃ r∈n,r.1=x/\∃ t∈r.2,B t) ?_ ?_
  ·intro r hr;obtain⟨r',kz,e,t,ht,b⟩:=this r hr;have:r'=r:=by
    have:=z6 hN r' kz r hr e;exact this
   subst this;exact⟨t,ht,b⟩
  ·obtain⟨p,hp,sp⟩:=s0;have hz:ay n p.2∈ag n:=(tG T (k:=0)<|by decide).mp<|Aj.mpr ⟨p,hp,rfl⟩;unfold ag at hz;obtain⟨r,hr,ht⟩:=Dd.mp hz;exact⟨r,hr,r,hr,rfl,_,ht,(bp hp).mpr sp⟩
  ·rintro r hr s hs t JS vK ⟨r',kz,e,y,hy,b⟩;have:=z6 hN r' kz r hr e;subst this;exact⟨s,hs,rfl,t,vK,ba r' hr y hy t JS b⟩
 have every:∀ z∈ag n,B z:=λz hz=>by
  unfold ag at hz;obtain⟨r,hr,ht⟩:=Dd.mp hz;obtain⟨y,hy,b⟩:=all r hr;exact ba r hr y hy z ht b
 intro i hi;have hw:=Ab hi;obtain⟨e,he,we⟩:=tI T hw;rw [we] at hw;have hm:e∈cT n e:=(jJ T he).mpr ⟨0,rfl⟩;have hp:=z9 (k:=0) hw hm;obtain⟨z,hz⟩:=af.mp he;exact(bp hp).mp<|every _<|by show ay n e∈_;rw [dY hz];exact eI hz
theorem TH{m a:Nat}(h:a < m)(f:Nat->Bool):aJ ((List.range m).map λi=>f i && decide (a=i))=f a:=by
 induction m with
 | zero=>omega
 | succ m ih=>
  rw [Dp,Ai,sD];show(_ ^^ ((f m && decide (a=m)) ^^ false))=_;rw [UG]
  by_cases c:a=m
  ·subst c;have:aJ ((List.range a).map λi=>f i && decide (a=i))=false:=by
    have e:((List.range a).map λi=>f i && decide (a=i))=(List.range a).map λ_=>false:=Cs λi hi=>by
     rw [BR (λq=>by have:=Cb.mp hi;omega),SX]
    rw [e,Qd]
   rw [this,BW rfl,Bool.and_true,Ge]
  ·rw [ih (by omega),BR c,SX,UG]
def k41{n:Net}(T:aw n)(ch:Nat->Bool){z:Str}{p q:Nat×End}(hp:cU n 0 z=[p])(hq:cU n 1 z=[q]) :
  aJ ((List.range (aS n).length).map λi=>ch i && eX n ((aS n)[i]?.getD []) z)=(ch p.1 ^^ ch q.1):=by
 have lt:∀{k:Nat} {p:Nat×End},cU n k z=[p]->p.1 < (aS n).length:=λ{k p} h=>by
  have:p∈cU n k z:=by rw [h];exact Ag.mpr rfl
  obtain⟨w,hw,_⟩:=xn (i:=p.1) (e:=p.2) (Bk.mp this).1;exact(Ac.mp hw).1
 have e:((List.range (aS n).length).map λi=>ch i && eX n ((aS n)[i]?.getD []) z)=(List.range (aS n).length).map λi=>(ch i && decide (p.1=i)) ^^ (ch i && decide (q.1=i)):=Cs λi hi=>by
  have hw:=Ab<|Cb.mp hi;have ho:=TC T hp hq hw;rw [hw,RD,ho];cases ch i <;> rfl
 rw [e,yY,TH<|lt hp,TH<|lt hq]
def q59{n:Net}(T:aw n)(R:RS n){ss sd:List Str}(he:fC n ss=true)(hs:bx n ss sd):∃ c χ,cf n (λz=>decide (z∈ss)) c χ:=by
 obtain⟨χ,hχ⟩:=R _<|q8v he;have es:(λz=>ss.contains z)=λz=>decide (z∈ss):=by
  funext z
  by_cases h:z∈ss
  ·rw [BW h];exact Dq.mpr h
  ·rw [BR h];exact Ed.mpr λq=>h<|Dq.mp q
 rw [es] at hχ;refine⟨λr=>decide (bb n r∈sd),χ,hχ,λe z hz=>?_⟩;have ho:=c8 T hz;have h1:=hs.cut z;show decide (z∈ss)=(decide (bb n e.1∈sd) ^^ decide (bb n (other n e).1∈sd))
 by_cases a:bb n e.1∈sd <;> by_cases b:bb n (other n e).1∈sd
 ·rw [BW a,BW b,BR]
  ·rfl
  ·intro k;obtain⟨x,hx,q1,q2⟩:=h1.mp k
   rcases (jh T hz).mp hx with rfl | rfl
   ·exact q2 b
   ·rw [ho.2.1] at q2;exact q2 a
 ·rw [BW a,BR b,BW]
  ·rfl
  ·exact h1.mpr ⟨e,hz,a,b⟩
 ·rw [BR a,BW b,BW]
  ·rfl
  ·exact h1.mpr ⟨other n e,ho.1,b,by rw [ho.2.1];exact a⟩
 ·rw [BR a,BR b,BR]
  ·rfl
  ·intro k;obtain⟨x,hx,q1,q2⟩:=h1.mp k
   rcases (jh T hz).mp hx with rfl | rfl
   ·exact a q1
   ·exact b q1
structure cn(n:Net)(cs:List<|List Str):Prop where
 len:cs.length=(aS n).length
 mem:∀(i:Nat) c w,cs[i]?=some c->(aS n)[i]?=some w->∀ z,z∈c↔(w.map<|ay n).count z=1
 lH:∀ c∈cs,cB c
noncomputable def ii(cs:List<|List Str)(z:Str):List Nat:=(List.range cs.length).filter λi=>decide (z∈cs[i]?.getD [])
theorem Ks{a b:Nat}(h:a < b):∀ m,((List.range m).filter λi=>decide (a=i) ^^ decide (b=i))=(if a < m then [a] else [])++(if b < m then [b] else [])
 | 0=>rfl
 | m+1=>by
  rw [Dp,Cp,Ks h m]
  by_cases h1:a=m
  ·subst h1;rw [BK (by omega),BK (by omega),BL (by omega),BK<|by omega];have:([a].filter λi=>decide (a=i) ^^ decide (b=i))=[a]:=by
    rw [Ct,BL<|by rw [BW rfl,BR<|by omega];rfl];rfl
   rw [this];rfl
  ·by_cases h2:b=m
   ·subst h2;rw [BL (by omega),BK (by omega),BL (by omega),BL<|by omega];have:([b].filter λi=>decide (a=i) ^^ decide (b=i))=[b]:=by
     rw [Ct,BL<|by rw [BR h1,BW rfl];rfl];rfl
    rw [this];rfl
   ·have:([m].filter λi=>decide (a=i) ^^ decide (b=i))=[]:=by
     rw [Ct,BK<|by rw [BR h1,BR h2];decide];rfl
    rw [this,Ba]
    by_cases c1:a < m <;> by_cases c2:b < m
    ·rw [BL c1,BL c2,BL (by omega),BL<|by omega]
    ·rw [BL c1,BK c2,BL (by omega),BK<|by omega]
    ·rw [BK c1,BL c2,BK (by omega),BL<|by omega]
    ·rw [BK c1,BK c2,BK (by omega),BK<|by omega]
section
variable{n:Net}{cs:List (List Str)}{ss zs:List Str}{c:Nat->Bool}{χ:End->Bool}
def cn.at'(C:cn n cs)(T:aw n){i:Nat}(hi:i < (aS n).length){z:Str}(hz:z∈ag n):decide (z∈cs[i]?.getD [])=eX n ((aS n)[i]?.getD []) z:=by
 have h1:=Ab hi;have h2:=Ab (show i < cs.length by rw [C.len];exact hi);rw [h1,h2];exact k9e T (Bs hi) (C.mem i _ _ h2 h1) hz
def AA{k:Nat}{z:Str}{p:Nat×End}(h:cU n k z=[p]):p.1 < (aS n).length:=by
 have:p∈cU n k z:=by rw [h];exact Ag.mpr rfl
 obtain⟨w,hw,_⟩:=xn (i:=p.1) (e:=p.2) (Bk.mp this).1;exact(Ac.mp hw).1
def Kt(C:cn n cs)(T:aw n){z:Str}(hz:z∈ag n){p q:Nat×End}(hp:cU n 0 z=[p])(hq:cU n 1 z=[q]):ii cs z=if p.1=q.1 then [] else [min p.1 q.1,max p.1 q.1]:=by
 have lp:=AA hp;have lq:=AA hq;have e:ii cs z=(List.range (aS n).length).filter λi=>decide (p.1=i) ^^ decide (q.1=i):=by
  unfold ii;rw [C.len];refine List.filter_congr λi hi=>?_;have hi:=Cb.mp hi;have hw:=Ab hi;rw [C.at' T hi hz,hw];exact TC T hp hq hw
 rw [e]
 by_cases h:p.1=q.1
 ·rw [BL h,h,Dx];intro i _;cases decide (q.1=i) <;> decide
 ·rw [BK h]
  by_cases l:p.1 < q.1
  ·rw [Ks l,BL lp,BL lq,Fn<|Bw l,RG<|Bw l];rfl
  ·have l:q.1 < p.1:=by omega
   have e2:(λi=>decide (p.1=i) ^^ decide (q.1=i))=λi=>decide (q.1=i) ^^ decide (p.1=i):=by funext i;exact Bool.xor_comm ..
   rw [e2,Ks l,BL lp,BL lq,Fc<|Bw l,SJ<|Bw l];rfl
noncomputable def kX(cs:List<|List Str)(ss:List Str)(z:Str):List (Nz.Bl Int):=match ii cs z with
 | a :: b :: _=>[((a:Int),(b:Int),decide (z∈ss))]
 | _=>[]
noncomputable def ik(cs:List<|List Str)(ss zs:List Str):List (Nz.Bl Int):=zs.flatMap<|kX cs ss
def q34(cs:List<|List Str)(ss:List Str)(z:Str):(kX cs ss z).length<=1:=by
 unfold kX
 split <;> simp
theorem Ku(cs:List<|List Str)(ss:List Str):∀ zs:List Str,(ik cs ss zs).length<=zs.length
 | []=>Am _
 | z :: zs=>by
  show(kX cs ss z++ik cs ss zs).length<=zs.length+1;rw [Ad];have:=q34 cs ss z;have:=Ku cs ss zs;omega
def q00(cs:List<|List Str)(ss zs:List Str)(z:Str):ik cs ss (zs++[z])=ik cs ss zs++kX cs ss z:=by
 unfold ik;rw [Cu];simp
def TK(C:cn n cs)(T:aw n)(D:cf n (λz=>decide (z∈ss)) c χ)(hz:∀ z∈zs,z∈ag n){x y:Int}{o:Bool}(h:(x,y,o)∈ik cs ss zs) :
  ∃ a b:Nat,x=(a:Int)/\y=(b:Int)/\a < (aS n).length/\b < (aS n).length/\o=(cV n c χ a ^^ cV n c χ b):=by
 obtain⟨z,Kv,hm⟩:=Dd.mp h;obtain⟨p,p1,p2,hp⟩:=oW T (k:=0) (by decide)<|hz z Kv;obtain⟨q,q1,q2,hq⟩:=oW T (k:=1) (by decide)<|hz z Kv;have hd:=D.de T p1 q1<|p2.trans q2.symm;rw [p2] at hd;have hb:=Kt C T (hz z Kv) hp hq;unfold kX at hm
 by_cases e:p.1=q.1
 ·rw [hb,BL e] at hm;cases hm
 ·rw [hb,BK e] at hm;have hm:=Ag.mp hm;cases hm;have lp:=AA hp;have lq:=AA hq;refine⟨min p.1 q.1,max p.1 q.1,rfl,rfl,by omega,by omega,?_⟩;show decide (z∈ss)=_;have hd:decide (z∈ss)=_:=hd;rw [hd]
  by_cases l:p.1 < q.1
  ·rw [Fn<|Bw l,RG<|Bw l]
  ·rw [Fc (by omega),SJ (by omega),Bool.xor_comm]
theorem Kw(C:cn n cs)(T:aw n)(D:cf n (λz=>decide (z∈ss)) c χ)(hz:∀ z∈zs,z∈ag n){x:Int}{b:Bool}(w:Nz.Way (ik cs ss zs) (0:Int) x b) :
  ∃ i:Nat,x=(i:Int)/\(i=0\/i < (aS n).length)/\b=(cV n c χ i ^^ cV n c χ 0):=by
 induction w with
 | here=>exact⟨0,rfl,.inl rfl,by rw [UL]⟩
 | there w hm ih=>
  obtain⟨i,rfl,_,rfl⟩:=ih;obtain⟨a,b,ea,rfl,_,hb,rfl⟩:=TK C T D hz hm;obtain rfl:i=a:=by omega
  refine⟨b,rfl,.inr hb,?_⟩;cases cV n c χ i <;> cases cV n c χ 0 <;> cases cV n c χ b <;> rfl
 | back w hm ih=>
  obtain⟨i,rfl,_,rfl⟩:=ih;obtain⟨a,b,rfl,ea,ha,_,rfl⟩:=TK C T D hz hm;obtain rfl:i=b:=by omega
  refine⟨a,rfl,.inr ha,?_⟩;cases cV n c χ i <;> cases cV n c χ 0 <;> cases cV n c χ a <;> rfl
def k9g(C:cn n cs)(T:aw n)(hg:cm n)(hN:(n.map (·.1)).Nodup)(hz:∀ z,z∈zs↔z∈ag n):∀ i,i < (aS n).length->∃ b,Nz.Way (ik cs ss zs) (0:Int) (i:Int) b:=by
 intro i hi;have h0:0 < (aS n).length:=by omega
 have hw:=Ab h0;obtain⟨e,he,we⟩:=tI T hw;rw [we] at hw;have hp:=z9 (k:=0) hw (show e∈fU 0 (walker n e) from(jJ T he).mpr ⟨0,rfl⟩);refine q30 T hg hN (S:=λi=>∃ b,Nz.Way (ik cs ss zs) (0:Int) (i:Int) b) ⟨_,hp,false,.here⟩ (λp hp q hq e=>?_) i hi;have fG:ay n p.2∈ag n:=(tG T (k:=0)<|by decide).mp<|Aj.mpr ⟨p,hp,rfl⟩;obtain⟨p',p1,p2,Kx⟩:=oW T (k:=0) (by decide) fG;obtain⟨q',q1,q2,Ky⟩:=oW T (k:=1) (by decide) fG;obtain rfl:=Kr T (by decide) hp p1 p2.symm;obtain rfl:=Kr T (by decide) hq q1<|e.symm.trans q2.symm
 by_cases k:p.1=q.1
 ·rw [k]
 ·have hb:=Kt C T fG Kx Ky;rw [BK k] at hb;have hm:(((min p.1 q.1:Nat):Int),((max p.1 q.1:Nat):Int),decide (ay n p.2∈ss))∈ik cs ss zs:=by
   refine Dd.mpr ⟨ay n p.2,(hz _).mpr fG,?_⟩;unfold kX;rw [hb];exact Ag.mpr rfl
  by_cases l:p.1 < q.1
  ·rw [Fn<|Bw l,RG<|Bw l] at hm;exact⟨λ⟨b,w⟩=>⟨_,.there w hm⟩,λ⟨b,w⟩=>⟨_,.back w hm⟩⟩
  ·rw [Fc (by omega),SJ<|by omega] at hm;exact⟨λ⟨b,w⟩=>⟨_,.back w hm⟩,λ⟨b,w⟩=>⟨_,.there w hm⟩⟩
theorem TL{α:Type}(g f:α->Bool):∀ l:List α,aJ ((l.filter g).map f)=aJ (l.map λi=>g i && f i)
 | []=>rfl
 | a :: l=>by
  rw [Ct];have ih:=TL g f l;cases h:g a with
  | true=>
   rw [BL rfl];show(f a ^^ aJ ((l.filter g).map f))=((g a && f a) ^^ aJ (l.map λi=>g i && f i));rw [ih,h,Bool.true_and]
  | false=>
   rw [BK (by decide),ih];show _=((g a && f a) ^^ aJ (l.map λi=>g i && f i));rw [h,Bool.false_and,Ge]
def k8u(C:cn n cs)(T:aw n)(hz:∀ z∈zs,z∈ag n)(D:cf n (λz=>decide (z∈ss)) c χ){kvs:List (Key×V)}(I:Nz.bZ Sum.inl (ik cs ss zs) 0 none kvs [])
  {is:List Int} (h1:is.Nodup) (h2:∀ x,x∈is↔al kvs (Sum.inl x)=some (.bl true)):is.length<=(aS n).length:=by
 have:=aE h1 (b:=(List.range (aS n).length).map λi:Nat=>(i:Int)) λx hx=>by
  obtain⟨b,e,w⟩:=I.val x _<|(h2 x).mp hx;cases e;obtain⟨i,rfl,hi,hb⟩:=Kw C T D hz w;have:i≠0:=λk=>by subst k;rw [UL] at hb;cases hb
  exact Aj.mpr ⟨i,Cb.mpr<|hi.resolve_left this,rfl⟩
 rw [Aa,Du] at this;exact this
structure fJ(n:Net)(ss:List Str)(ns:List Nat):Prop where
 lH:ns.Pairwise (· < ·)
 o7:∀ i∈ns,1<=i/\i < (aS n).length
 sum:∀ z∈ag n,aJ (ns.map λi=>eX n ((aS n)[i]?.getD []) z)=decide (z∈ss)
def q5b(C:cn n cs)(T:aw n)(hg:cm n)(hN:(n.map (·.1)).Nodup)(hz:∀ z,z∈zs↔z∈ag n)(D:cf n (λz=>decide (z∈ss)) c χ){kvs:List (Key×V)}(I:Nz.bZ Sum.inl (ik cs ss zs) 0 none kvs [])
  {is:List Int} (h1:is.Pairwise (· < ·)) (h2:∀ x,x∈is↔al kvs (Sum.inl x)=some (.bl true)):∃ ns:List Nat,is=ns.map (λi:Nat=>(i:Int))/\fJ n ss ns:=by
 have pos:∀ x∈is,∃ i:Nat,x=(i:Int)/\1<=i/\i < (aS n).length/\(cV n c χ i ^^ cV n c χ 0)=true:=λx hx=>by
  obtain⟨b,e,w⟩:=I.val x _<|(h2 x).mp hx;cases e;obtain⟨i,rfl,hi,hb⟩:=Kw C T D (λz h=>(hz z).mp h) w;have:i≠0:=λk=>by subst k;rw [UL] at hb;cases hb
  exact⟨i,rfl,by omega,hi.resolve_left this,hb.symm⟩
 have back:∀ i,i < (aS n).length->(cV n c χ i ^^ cV n c χ 0)=true->((i:Nat):Int)∈is:=λi hi h=>by
  obtain⟨b,w⟩:=k9g (ss:=ss) C T hg hN hz i hi;obtain⟨b',hv⟩:=I.whole _ _ w;obtain⟨b2,e,w2⟩:=I.val _ _ hv;cases e;obtain⟨j,ej,_,hb⟩:=Kw C T D (λz h=>(hz z).mp h) w2;obtain rfl:i=j:=by omega
  rw [h] at hb;subst hb;exact(h2 _).mpr hv
 refine⟨is.map Int.toNat,?_,?_,?_,?_⟩
 ·rw [Ci];refine(List.map_id is).symm.trans<|Cs λx hx=>?_;obtain⟨i,rfl,_⟩:=pos x hx;rfl
 ·rw [Cy];exact h1.imp_of_mem λ{a b} ha hb h=>by
   obtain⟨i,rfl,_⟩:=pos a ha;obtain⟨j,rfl,_⟩:=pos b hb;show i < j;omega
 ·intro i hi;obtain⟨x,hx,rfl⟩:=Aj.mp hi;obtain⟨i,rfl,a,b,_⟩:=pos x hx;exact⟨a,b⟩
 ·intro z fG;obtain⟨p,p1,p2,hp⟩:=oW T (k:=0) (by decide) fG;obtain⟨q,q1,q2,hq⟩:=oW T (k:=1) (by decide) fG;have hd:=D.de T p1 q1<|p2.trans q2.symm;rw [p2] at hd;have perm:(is.map Int.toNat).Perm ((List.range (aS n).length).filter λi=>cV n c χ i ^^ cV n c χ 0):=by
   refine(QD ?_<|List.nodup_range.filter _).mpr λi=>?_
   ·rw [Bg,Cy];exact h1.imp_of_mem λ{a b} ha hb h=>by
     obtain⟨i,rfl,_⟩:=pos a ha;obtain⟨j,rfl,_⟩:=pos b hb;show i≠j;omega
   ·rw [Bk,Cb]
    constructor
    ·intro h;obtain⟨x,hx,rfl⟩:=Aj.mp h;obtain⟨i,rfl,_,b,k⟩:=pos x hx;exact⟨b,k⟩
    ·exact λ⟨a,b⟩=>Aj.mpr ⟨_,back i a b,rfl⟩
  rw [P2<|perm.map _,TL,k41 T (λi=>cV n c χ i ^^ cV n c χ 0) hp hq];have hd:decide (z∈ss)=_:=hd;rw [hd];cases cV n c χ p.1 <;> cases cV n c χ q.1 <;> cases cV n c χ 0 <;> rfl
end
end Nt
namespace L2
open PySem PySem.Spec PyProof.Rows bB
section
variable{X:Cx}
def TR:fv X (.builtin "sorted") (λxs H Q=>∃ p ns,xs=[.ref p]/\ai X.K H p (ns.map V.int)/\ns.length < 64/\∀ l ss,H l=none->List.Perm ss ns->ss.Pairwise (·<=·)->Q (.ref l) (upd H l<|.lst<|ss.map V.int)):=by
 intro pins s σ H xs us Q I r h;obtain⟨p,ns,rfl,hp,hl,q⟩:=h;obtain⟨u,rfl,ru⟩:=vals1 r;cases (show u=Value.ref p from ru);obtain⟨its,rv,pl,hz⟩:=I.list hp;have e1:=rv.length;rw [Aa] at e1;refine PyProof.Rows.sorted_ints pl.isList (Kl rv) (by omega) λout ss hS cL fS=>?_;obtain⟨e,he⟩:=sortedAll_at s.heap its out;have hlen:ss.length<=sizeLine:=by rw [cL.length_eq,DY];omega
 refine⟨.ref _,_,I.fc (s':={s with heap:=sortedAll s.heap its out}) (λb u hb=>QC hb) rfl rfl (Eb _) (show az X.prog X.w _ _ _ (.lst<|ss.map V.int) from⟨by rw [Aa];exact hlen,out.toList,e,Tj hS,he⟩),rfl,q _ ss (I.aB.fresh<|Eb _) cL fS⟩
def q27{l:List Stmt}{D:Ends}{σ:St}{H:Hp}(h:Run X.lT l D σ H):Run X l D σ H:=⟨λpins s I=>(nR (X:=X.lT)).lT pins s σ H D I h⟩
def q2w(K:PySem.W.Frag):V->List V->Hp->VK->Prop:=λx vs H Q=>∃(l:Addr) (ns:List Int) (k:Int),x = .ref l/\vs=[.int k]/\ai K H l (ns.map V.int)/\Q (.int (ns.count k:Nat)) H
def k8t:nO X "list.count" (q2w X.K):=by
 intro pins s σ H x vs v us Q I rx rv h;obtain⟨l,ns,k,rfl,rfl,hH,q⟩:=h;cases rx;obtain⟨u,rfl,ru⟩:=rv.one;obtain⟨tk,rfl⟩:=(show ∃ t,u=Value.int k t from ru);obtain⟨its,r,pl,hz⟩:=I.list hH;refine PyProof.Rows.count_list_ints pl.isList (Kl r) ?_;exact⟨.int (ns.count k:Nat),H,I.tok _,⟨_,rfl⟩,q⟩
def q03{H:Hp}{a b:Addr}{ns:List Int}(ha:H a=some (.lst<|ns.map V.int))(hb:H b=some (.lst<|ns.map V.int)):nY X H 1 (.ref a) (.ref b) true:=by
 have q:=yn (X:=X) (k:=0) (λ_=>true) (ai.of (K:=X.K) ha) (ai.of (K:=X.K) hb) rfl λj x y hx hy=>by
  rw [hx] at hy;cases hy;rw [Af,Ap] at hx;obtain⟨z,_,rfl⟩:=hx;have e:=pP (X:=X) (H:=H) (k:=0) (x:= .int z) (y:= .int z) rfl rfl;rw [show cE (.int z) (.int z)=true from BW rfl] at e;exact e
 rw [uK] at q;exact q
end
end L2
namespace bU
open PySem SetTable
section
variable{t:SetTable}{es:Array (Int×Value)}{Z:List Ze}
end
section
variable{prog:Program}{w:World}{K:Type} [DecidableEq K]
variable{A:Around}{E:Value->Shared->Prop}{s:Shared}{a b:Addr}{knd:HeapKind prog w K}{k:K}{Y:List (Nat×K×Addr)}
end
section
variable{prog:Program}{w:World}{K:Type} [DecidableEq K] {knd:KeyKind prog w K}
end
end bU
namespace L2
open PySem PySem.Spec PyProof.Rows bU Classical
section
variable{prog:Program}{w:World}{A:Around}{E:Value->Shared->Prop}{s:Shared}{a b:Addr}{Y:List Yt}{k:List Key}
end
section
variable{X:Cx}{σ:St}{H:Hp}{Q:VK}{pins:List (Addr×Obj)}{s:Shared}{a b:Addr}{Y:List Yt}
end
end L2
namespace L2
open PySem PySem.Spec PyProof.Rows
section
variable{X:Cx}{σ:St}{H:Hp}{Q:VK}
end
section
variable{X:Cx}{elt tg:Expr}{ifs:List Expr}{scope:Scope}{σ:St}{H:Hp}{N':List Str}{A a:Addr}{xs:List V}{after:Hp->Prop}
def k33(Pv:Nat->St->Hp->Prop)(h0:Pv 0 σ H)(hl:∀ i σ' H',i<=xs.length->Pv i σ' H'->ai X.K H' a xs)
  (hs : ∀ (i : Nat) x T σ' H', xs[i]? = some x → Pv i σ' H' → H' T = none → uw X N' scope tg (.ref T) σ' (upd H' T<|.tup [.int (i : Int), x]) λσ2 H3 => uz X N' scope ifs σ2 H3 λb H4 =>
   if b=true then uv X N' scope elt σ2 H4 λv H5=>∃ ys,H5 A=some (.lst ys)/\ys.length < sizeLine/\Pv (i+1) σ2 (upd H5 A<|.lst<|ys++[v]) else Pv (i+1) σ2 H4)
  (hd:∀ σ' H',Pv xs.length σ' H'->after H'):li X N' scope tg ifs elt (Jb X.K a) A after σ H:=by
 refine⟨λi m σ' H'=>m=xs.length - i/\i<=xs.length/\Pv i σ' H',⟨_,rfl,Bp _,h0⟩,?_⟩;rintro i m σ' H' ⟨rfl,hi,p⟩;have q:=hl i σ' H' hi p
 by_cases aX:i < xs.length
 ·refine .inr ⟨⟨xs,xs[i],q,by simp [aX]⟩,Pv<|i+1,λσ' H' p'=>⟨xs.length - (i+1),by omega,rfl,aX,p'⟩,λv H2 y=>?_⟩;obtain⟨T,x,hT,rfl,rfl,hx⟩:=y;exact hs i x T σ' _ (hx xs q) p hT
 ·have e:i=xs.length:=by omega
  subst e;exact .inl ⟨⟨xs,q,Am _⟩,hd σ' H' p⟩
end
end L2
namespace Q2
open PySem L2 Nt bB bU
open PyProof.Rows (sortedS)
open Classical
def im(H:Hp)(L:Addr)(us:List Addr)(cs:List<|List Str):Prop:=H L=some (.lst<|us.map V.ref)/\us.length=cs.length/\∀(i:Nat) u c,us[i]?=some u->cs[i]?=some c->H u=some (Ls c)
def im.same{H H':Hp}{L:Addr}{us:List Addr}{cs:List (List Str)}(h:im H L us cs)(s:ah H H'):im H' L us cs:=⟨s _ _ h.1,h.2.1,λi u c a b=>s _ _<|h.2.2 i u c a b⟩
def Kz:Sp:=λvs H Q _=>∃(R:Addr) (as:List<|Addr×Addr) (n:Net),vs=[.ref R]/\ak H R as n/\(n.map (·.1)).Nodup/\aw n/\n.length<=60/\(ag n).length<=60 /\
 ∀(L:Addr) (us:List Addr) (cs:List<|List Str) (H':Hp),ah H H'->H L=none->im H' L us cs->cn n cs->Q (.ref L) H'
noncomputable def KA(c:Str->Addr):Sp:=λvs H Q E=>∃(R p:Addr) (as:List<|Addr×Addr) (n:Net) (ss:List Str),vs=[.ref R,.ref p]/\ak H R as n/\(n.map (·.1)).Nodup/\aw n/\HF n/\0 < n.length/\n.length<=60/\(ag n).length<=60/\H p=some (Ls ss)/\cB ss /\
 (¬ cf n ss->∀ H',ah H H'->E (.ref<|c "NoDouble") none H')/\(cf n ss->∀(L:Addr) (ns:List Nat) (H':Hp),ah H H'->H L=none->H' L=some (Lz<|ns.map λi:Nat=>(i:Int))->fJ n ss ns->Q (.ref L) H')
def nq:∀ x y:Int,(Sum.inl x:Key)=Sum.inl y->x=y:=λ_ _ h=>Sum.inl.inj h
structure kY(n:Net)(H:Hp)(D:Addr)(us:List Addr)(cs:List<|List Str)(i:Nat):Prop where
 lst:H D=some (.lst<|us.map V.ref)
 lu:us.length=i
 lc:cs.length=i
 at':∀(j:Nat) u c,us[j]?=some u->cs[j]?=some c->H u=some (Ls c)/\u≠D
 mem:∀(j:Nat) c w,cs[j]?=some c->(aS n)[j]?=some w->∀ z,z∈c↔(w.map<|ay n).count z=1
 lH:∀ c∈cs,cB c
def kY.step{n:Net}{H H2:Hp}{D k:Addr}{us:List Addr}{cs:List (List Str)}{i:Nat}{ks:List Str}{es:List Nt.End}(I:kY n H D us cs i)(s2:ah H H2)(nk:H k=none)(e2:H2 k=some (Ls ks))(so:cB ks)(hw:(aS n)[i]?=some es)(m2:∀ z,z∈ks↔(es.map<|ay n).count z=1):kY n (upd H2 D<|.lst<|us.map V.ref++[.ref k]) D (us++[k]) (cs++[ks]) (i+1):=by
 have lu:=I.lu;have lc:=I.lc;have xq:k≠D:=λe=>by rw [e,I.lst] at nk;cases nk
 have zero:∀{α:Type} {l:List α} {a b:α} {j:Nat},¬ j < l.length->(l++[a])[j]?=some b->j=l.length/\a=b:=λ{α l a b j} h e=>by
  rw [Ay<|by omega] at e;have hj:j - l.length=0:=by have:=(Ac.mp e).1;simp at this;omega
  rw [hj] at e;exact⟨by omega,by cases e;rfl⟩
 refine⟨by rw [av,Ai];rfl,by rw [Ad,lu];rfl,by rw [Ad,lc];rfl,λj u c h1 h2=>?_,λj c w h1 h2=>?_,λc hc=>?_⟩
 ·by_cases hj:j < us.length
  ·rw [Ao hj] at h1;rw [Ao<|by omega] at h2;obtain⟨q1,q2⟩:=I.at' j u c h1 h2;exact⟨by rw [au q2];exact s2 _ _ q1,q2⟩
  ·obtain⟨_,rfl⟩:=zero hj h1;obtain⟨_,rfl⟩:=zero (by omega) h2;exact⟨by rw [au xq];exact e2,xq⟩
 ·by_cases hj:j < cs.length
  ·rw [Ao hj] at h1;exact I.mem j c w h1 h2
  ·obtain⟨ej,rfl⟩:=zero hj h1;rw [ej,lc,hw] at h2;cases h2;exact m2
 ·rcases An.mp hc with h | h
  ·exact I.lH c h
  ·rw [Ag.mp h];exact so
def kY.start{n:Net}{H:Hp}{D:Addr}(h:H D=some (.lst [])):kY n H D [] [] 0:=⟨h,rfl,rfl,λj u c h=>by simp at h,λj c w h=>by simp at h,λc h=>by cases h⟩
def kY.whole{n:Net}{H:Hp}{D:Addr}{us:List Addr}{cs:List (List Str)}(I:kY n H D us cs (aS n).length):im H D us cs/\cn n cs:=⟨⟨I.lst,I.lu.trans I.lc.symm,λi u c a b=>(I.at' i u c a b).1⟩,I.lc,I.mem,I.lH⟩
def TU{n:Net}{es:List Nt.End}(h:∀ e∈es,e∈ends n):∀ z∈es.map (ay n),z∈ag n:=λz hz=>by
 obtain⟨e,he,rfl⟩:=Aj.mp hz;obtain⟨y,hy⟩:=af.mp<|h e he;rw [dY hy];exact eI hy
section
variable{P:Program}{w:World}{K:PySem.W.Frag}{mg:Str->Option Value}{base:Heap}
abbrev T1:List Str:=["rows"]
abbrev xr:List Str:=["rows","walker"]
def xt:ao T1 ["rows"] (aP yG):=⟨rfl,rfl,rfl,by decide +kernel,rfl,by decide +kernel,by decide +kernel⟩
def q5n:xr.Nodup:=by decide +kernel
def k9o{f:Addr}{fd:FuncData}(F:bu K "cores_of" "cores_of" yG f fd)(T:Txt mg)(GW:aO P w K mg base 4 "walkers_of" ["rows"] zG)(GC:aO P w K mg base 4 "core_of" ["rows","walker"] Kb):aC P w K mg base bA 5 f fd ["rows"] Kz:=by
 refine F.gb xt (λvs H Q E h=>?_) λb0 H vs Q E hr h=>?_
 ·obtain⟨R,as,n,rfl,_⟩:=h;rfl
 obtain⟨R,as,n,rfl,hR,hN,hT,hn,ib,q⟩:=h;have nd:=xt.nd;have mM:=iM n;show Run _ _ _ [some<|.ref R] H;refine bL (gN (aP yG) T1 xr 1 (eg bf)<|bG GW hr<|aj<|ae 0<|aA ⟨R,as,n,rfl,hR,hN,hT,by omega,by omega,λW ls H1 s1 n1 hW fW=>⟨W,rfl,⟨_,ai.of hW.lst⟩,λD hD=>?_⟩⟩);have wl:(aS n).length<=(ends n).length:=su n (ends n) [];have nr:=vj hT (ends n) [] λe he=>he;have xu:ls.length=(aS n).length:=hW.len;refine ka (xs:=ls.map V.ref) (λi σ' H'=>(∃ v,σ'=[some<|.ref R]++[v])/\ah H1 H'/\∃ us cs,kY n H' D us cs i) ⟨⟨none,rfl⟩,aK hD _,[],[],kY.start av⟩ ?_ ?_ ?_
 ·rintro i σ' H' _ ⟨_,sm,_⟩;exact ai.of<|sm _ _ hW.lst
 ·rintro i x σ' H' hx ⟨⟨v,rfl⟩,sm,us,cs,I⟩;rw [Af,Ap] at hx;obtain⟨l,hl,rfl⟩:=hx;have lv:i < (aS n).length:=by have:=(Ac.mp hl).1;rw [<- xu];exact this
  have iV:=Ab lv;obtain⟨ts,el,hE⟩:=(hW.same sm).at' i l _ hl iV;have wk:=nr _<|At iV;generalize (aS n)[i]=es at iV hE wk;have few:=wk.few;have lu:=I.lu;intro cl C s₀ H₀ ex;refine aW 1 q5n ?_;intro cl C s₀ H₀ ex;refine g7<|cw ?_;intro cl C s₀ H₀ ex;refine bG GC hr<|aj<|ae 0<|aj<|ae 1<|aA ⟨R,l,as,n,ts,es,rfl,hR.same<|s1.trans sm,hN,by omega,by omega,el,hE,wk.ends,by omega,λl hn hm=>?_,λk ks H2 s2 n2 e2 KE m2=>?_⟩
  ·have:=aE hn λz hz=>TU wk.ends z<|hm z hz;omega
  exact⟨_,s2 _ _ I.lst,by rw [Aa];exact bH (by omega),⟨_,rfl⟩,db (sm.trans s2) hD,_,_,I.step s2 n2 e2 KE iV m2⟩
 ·rintro σ' H' ⟨_,sm,us,cs,I⟩;rw [Aa,xu] at I;exact q D us cs H' (s1.trans sm) (s1.free hD) I.whole.1 I.whole.2
abbrev KG:List Str:=["rows","some","cores","links","tie","bearers","chosen"]
abbrev xx:List Str:=["rows","some","cores","links","tie","bearers","chosen","number","core"]
abbrev xA:List Str:=["rows","some","cores","links","tie","bearers","chosen","number"]
def xB:ao KG ["rows","some"] (aP uS):=⟨rfl,rfl,rfl,by decide +kernel,rfl,by decide +kernel,by decide +kernel⟩
def T2:xx.Nodup:=by decide +kernel
def q73:xA.Nodup:=by decide +kernel
noncomputable def rd(cs:List<|List Str)(z:Str)(i:Nat):List Int:=((List.range i).filter λk=>decide (z∈cs[k]?.getD [])).map λk:Nat=>(k:Int)
def k35(cs:List<|List Str)(z:Str)(i:Nat):rd cs z (i+1)=rd cs z i++(if z∈cs[i]?.getD [] then [(i:Int)] else []):=by
 unfold rd;rw [Dp,Cp,Ai,Ct]
 by_cases h:z∈cs[i]?.getD []
 ·rw [BL<|BW h,BL h];rfl
 ·rw [BK λk=>h<|BX k,BK h];rfl
def k8s(cs:List<|List Str)(z:Str)(i:Nat):(rd cs z i).length<=i:=by
 unfold rd;rw [Aa];have:=Ck (λk=>decide (z∈cs[k]?.getD []))<|List.range i;rw [Du] at this;exact this
def kR.keep{α:Type}{φ:α->Key}{H H':Hp}{us:List Addr}{ls:List (Nz.Bl α)}(h:kR φ H us ls)(k:∀ t xs,H t=some (.tup xs)->H' t=some (.tup xs)):kR φ H' us ls:=⟨h.1,λj u x h1 h2=>k _ _<|h.2 j u x h1 h2⟩
def kR.snoc{α:Type}{φ:α->Key}{H:Hp}{us:List Addr}{ls:List (Nz.Bl α)}{u:Addr}{x:Nz.Bl α}(h:kR φ H us ls)(hu:H u=some (R0 φ x)):kR φ H (us++[u]) (ls++[x]):=by
 refine⟨by rw [Ad,Ad,h.1];rfl,λj v y h1 h2=>?_⟩;have hl:=h.1
 by_cases hj:j < us.length
 ·rw [Ao hj] at h1;rw [Ao<|by omega] at h2;exact h.2 j v y h1 h2
 ·rw [Ay<|by omega] at h1 h2;have fD:j - us.length=0:=by
   have:=(Ac.mp h1).1;simp at this;omega
  rw [fD] at h1;rw [<- hl,fD] at h2;cases h1;cases h2;exact hu
def T4{H:Hp}{l:Addr}{zs:List Int}{y:Int}:upd H l (.lst<|zs.map V.int++[V.int y])=upd H l (Lz<|zs++[y]):=by
 show _=upd H l (.lst<|(zs++[y]).map V.int);rw [Ai];rfl
def q4o{f:Addr}{fd:FuncData}{c:Str->Addr}(F:bu K "numbers_by" "numbers_by" uS f fd)(T:Txt mg)(cl:Cl K mg c)(GD:aO P w K mg base 5 "is_double" ["rows","some"] Jc)(GC:aO P w K mg base 5 "cores_of" ["rows"] Kz)(GT:aO P w K mg base 5 "ties_of" ["rows"] qZ)(GS:aO P w K mg base 5 "spread" ["first","links"] Ke) :
  aC P w K mg base (XF P w) 6 f fd ["rows","some"] (KA c):=by
 refine F.gx xB (λvs H Q E h=>?_) λb0 H vs Q hr h=>?_
 ·obtain⟨R,p,as,n,ss,rfl,_⟩:=h;rfl
 obtain⟨R,p,as,n,ss,rfl,hR,hN,hT,hf,h0,hn,ib,hp,jo,qE,qQ⟩:=h;have nd:=xB.nd;have cj:=hr.u1;have few:Few n:=λzs h1 h2=>by have:=aE h1 h2;omega
 have mN:("NoDouble" : Str)∈cK:=by decide
 show Run _ _ _ [some<|.ref R,some<|.ref p,none,none,none,none,none] H;refine gM<|rJ<|lh<|bG GD hr<|aj<|ae 0<|aj<|ae 1<|aA ⟨R,p,as,n,ss,rfl,hR,hT,hf.1,h0,hn,ib,hp,jo,λH1 s1=>⟨_,rfl,?_⟩⟩
 by_cases hD:cf n ss
 case neg=>
  rw [BR hD];exact cw<|k7s rzX (cl.at' _ mN).1 (cl.at' _ mN).2.1 rfl (aj<|C6<|aA ⟨Z1,qE hD _ s1⟩)
 rw [BW hD];refine bR<|a7<|q27 ?_;obtain⟨sd,qS⟩:=hD.2;obtain⟨cc,χ,DD⟩:=q59 hT hf.2.2 hD.1 qS;refine aT 2 nd<|bG GC hr<|aj<|ae 0<|aA ⟨R,as,n,rfl,hR.same s1,hN,hT,hn,ib,λC cu cs H2 s2 n2 hC eG=>?_⟩;refine aT 3 nd<|dU<|aA ⟨Z0,λM hM=>?_⟩;have jK:=s1.trans s2;have sM:=aK hM<|.lst [];have m9:(upd H2 M<|.lst []) M=some (.lst []):=av;show Run _ _ _ [some<|.ref R,some<|.ref p,some<|.ref C,some<|.ref M,none,none,none] (upd H2 M<|.lst []);generalize upd H2 M (.lst [])=H3 at sM m9;have KI:=jK.trans sM;refine jU (bG GT hr<|aj<|ae 0<|aA ⟨R,as,n,rfl,hR.same KI,by omega,by omega,few,λtl zs H4 s4 n4 e4 znd zso nw=>⟨tl,rfl,⟨_,ai.of e4⟩,?_⟩⟩);have x0i:=aE znd λz hz=>(nw z).mp hz;have wl:(aS n).length<=(ends n).length:=su n (ends n) [];have mM:=iM n;have lcs:=eG.len;have RF:tl≠M:=λe=>by rw [e,m9] at n4;cases n4
 have sM4:=sM.trans s4;refine jV (xs:=zs.map V.str) (λj σ H'=>∃(us:List Addr) (u4 u5:Option V),ah H2 H'/\H' tl=some (Ls zs)/\H' M=some (.lst<|us.map V.ref)/\AtZ H' us (ik cs ss<|zs.take j)/\σ=[some<|.ref R,some<|.ref p,some<|.ref C,some<|.ref M,u4,u5,none]) ⟨[],_,_,sM4,e4,s4 _ _ m9,⟨rfl,λj u x h=>by simp at h⟩,rfl⟩ ?_ ?_ ?_
 ·rintro j σ H' _ ⟨us,u4,u5,sm,et,_⟩;exact ai.of et
 ·rintro j x σ H5 hx ⟨us,u4,u5,sm,et,eM,cA,rfl⟩;rw [Af,Ap] at hx;obtain⟨z,hz,rfl⟩:=hx;have fG:=(nw z).mp<|At hz;have ic:zs.take (j+1)=zs.take j++[z]:=by rw [Bx,hz];rfl
  have AB:=hC.same sm;have lC:=AB.2.1;have zJ:=Ku cs ss<|zs.take j;rw [Bd] at zJ;have bY:=cA.1;refine aW 4 nd ?_;show Run _ _ _ [some<|.ref R,some<|.ref p,some<|.ref C,some<|.ref M,some<|.str z,u5,none] H5;refine rM 5 (aP uS) KG xx 2 nd (q42 rfl T.enum gn)<|aj<|ae 2<|aA ⟨C,rfl,⟨_,ai.of AB.1⟩,λD T5=>?_⟩;refine k33 (xs:=cu.map V.ref) (λi σ' H'=>(∃ v1 v2,σ'=[some<|.ref R,some<|.ref p,some<|.ref C,some<|.ref M,some<|.str z,u5,none]++[v1,v2])/\ah H5 H'/\H' D=some (Lz<|rd cs z i)) ⟨⟨_,_,rfl⟩,aK T5 _,av⟩ ?_ ?_ ?_
  ·rintro i σ' H' _ ⟨_,sm,_⟩;exact ai.of<|sm _ _ AB.1
  ·rintro i x Tq σ' H6 hx ⟨⟨v1,v2,rfl⟩,oX,dD⟩ hTq;rw [Af,Ap] at hx;obtain⟨u,hu,rfl⟩:=hx;have hi:i < cs.length:=by have:=(Ac.mp hu).1;omega
   have nA:=Ab hi;have T6:=AB.2.2 i u _ hu nA;have sq:=aK hTq<|.tup [.int (i:Int),.ref u];have bl:=k8s cs z i;rw [k35,nA,RD];generalize cs[i]=ci at T6;intro cl C' s₀ H₀ ex;refine iO rfl (aM.of av) (aW 7 T2<|aW 8 T2 ?_);intro cl C' s₀ H₀ ex;refine iE<|cz lX<|ae 4<|ae 8 ⟨u,_,rfl,.inl<|ai.of<|sq _ _<|oX _ _ T6,rfl,ke _,_,rfl,?_⟩;have fF:∀(x y:Bool),(if false=true then x else y)=y:=λ_ _=>rfl;rw [fF,kd,qP]
   by_cases hb:z∈ci
   ·rw [BW hb,BL hb];refine cw ?_;intro cl C' s₀ H₀ ex;refine ae 7 ⟨_,sq _ _ dD,by rw [Aa];exact bH (by omega),⟨_,_,rfl⟩,db (oX.trans sq) T5,?_⟩;rw [T4];exact av
   ·rw [BR hb,BK hb,Ba];exact bR ⟨⟨_,_,rfl⟩,oX.trans sq,sq _ _ dD⟩
  rintro σ' H6 ⟨_,oX,dD⟩;rw [Aa,lC] at dD;have ebz:rd cs z cs.length=(ii cs z).map λk:Nat=>(k:Int):=rfl;rw [ebz] at dD;have kD:=oX _ _ et;have AF:=oX _ _ eM;have xC:=cA.same oX;have KL:=sm.trans oX;have elk:ik cs ss (zs.take<|j+1)=ik cs ss (zs.take j)++kX cs ss z:=by rw [ic,q00]
  rw [elk];show Run _ _ _ [some<|.ref R,some<|.ref p,some<|.ref C,some<|.ref M,some<|.str z,some<|.ref D,none] H6;obtain⟨p0,p1,p2,Kx⟩:=oW hT (k:=0) (by decide) fG;obtain⟨q0,q1,q2,Ky⟩:=oW hT (k:=1) (by decide) fG;have fK:=Kt eG hT fG Kx Ky;refine gM<|Nw<|ae 5 (v:= .ref D) ⟨!(ii cs z).isEmpty,Or.inl ⟨_,ai.of dD,by cases ii cs z <;> rfl⟩,?_⟩
  by_cases T7:p0.1=q0.1
  ·rw [BL T7] at fK;rw [fK];refine bR<|a7<|a7 ⟨us,_,_,KL,kD,AF,?_,rfl⟩;unfold kX;rw [fK,Ba];exact xC
  ·rw [BK T7] at fK;generalize min p0.1 q0.1=a at fK;generalize max p0.1 q0.1=b at fK;rw [fK] at dD ⊢;have el1:kX cs ss z=[((a:Int),(b:Int),decide (z∈ss))]:=by unfold kX;rw [fK]
   rw [el1];have hp6:=KL _ _<|jK _ _ hp;refine cw<|g5<|j3<|ae 3 ⟨M,rfl,⟨_,AF⟩,eC<|aj<|aZ cv<|ae 5<|aD ⟨D,_,_,.int (a:Int),rfl,rfl,ai.of dD,rfl,aj<|aZ cv<|ae 5<|aD ⟨D,_,_,.int (b:Int),rfl,rfl,ai.of dD,rfl,?_⟩⟩⟩;refine aj<|gY lX<|ae 4<|ae 1 ⟨p,_,rfl,.inl<|ai.of hp6,rfl,ke _,aA ⟨Z3,λt dC=>?_⟩⟩;have fF:∀(x y:Bool),(if false=true then x else y)=y:=λ_ _=>rfl;rw [fF,kd,qP];have sT:=aK dC<|.tup [.int (a:Int),.int (b:Int),.bl<|decide (z∈ss)];have e3:(upd H6 t<|.tup [.int (a:Int),.int (b:Int),.bl<|decide (z∈ss)]) t=some (T3z ((a:Int),(b:Int),decide (z∈ss))):=av;refine⟨_,sT _ _ AF,by rw [Aa];exact bH (by omega),a7<|a7 ⟨us++[t],_,_,db (KL.trans sT) hM,?_,?_,((xC.same sT).snoc e3).keep λt xs h=>?_,rfl⟩⟩
   ·rw [au RF];exact sT _ _ kD
   ·rw [av,Ai];rfl
   ·rw [au<|bQ h (sT _ _ AF) λz=>nomatch z];exact h
 ·rintro σ H5 ⟨us,u4,u5,sm,et,eM,cA,rfl⟩;rw [Aa,Bm] at cA;have zJ:=Ku cs ss zs;refine aT 6 nd (bG GS hr<|aj<|aD<|aj<|ae 3<|aA ⟨(0:Int),M,us,_,rfl,eM,cA,by omega,λd kvs H6 s6 n6 e6 I=>?_⟩);have s26:=sm.trans s6;have mO:=jK.trans s26;have wL:∀ k∈kvs.map (·.1),∃ x,k=Sum.inl x:=λk hk=>(I.txt k hk).imp λx h=>h.1;have vV:H d=none:=(jK.trans sm).free n6;have se:=I.len;show Run _ _ _ [some<|.ref R,some<|.ref p,some<|.ref C,some<|.ref M,u4,u5,some<|.ref d] H6;refine bL<|bX TR T.sorted CP<|aj<|gN (aP uS) KG xA 1 (OY bf)<|ae 6 ⟨d,kvs,rfl,e6,λob E2 ng=>?_⟩;have nE:E2≠d:=λe=>by rw [e,av] at ng;cases ng
  have IT:H6 E2=none:=by rw [au nE] at ng;exact ng
  refine OZ (λi σ' H'=>(∃ v,σ'=[some<|.ref R,some<|.ref p,some<|.ref C,some<|.ref M,u4,u5,some<|.ref d]++[v])/\H'=upd (upd H6 d<|.bh ob<|.dK kvs) E2 (Lz<|Nz.aQ Sum.inl<|kvs.take i)) ⟨⟨_,rfl⟩,rfl⟩ ?_ ?_ ?_
  ·rintro i σ' H' _ ⟨_,rfl⟩;rw [au<|CG nE,av]
  ·rintro i pr σ' H' nh ⟨⟨v,rfl⟩,rfl⟩;have hm:pr∈kvs:=At nh;have ic:kvs.take (i+1)=kvs.take i++[pr]:=by rw [Bx,nh];rfl
   obtain⟨k,vv⟩:=pr;obtain⟨z,rfl⟩:=wL k<|Aj.mpr ⟨_,hm,rfl⟩;have hv:=(vw I.dB).mp hm;obtain⟨b,rfl,_⟩:=I.val z vv hv;rw [ic,Nz.cJ,Nz.ie nq];intro cl C' s₀ H₀ ex;refine aW 7 q73 ?_;intro cl C' s₀ H₀ ex;have dg:aU (upd (upd H6 d<|.bh ob<|.dK kvs) E2<|Lz<|Nz.aQ Sum.inl<|kvs.take i) d (kV<|Sum.inl z) (some<|.bl b):=by
    rw [<- hv];exact .inl ⟨kvs,Sum.inl z,.inr ⟨ob,by rw [au<|CG nE,av]⟩,rfl,rfl⟩
   refine iE<|lh<|dX cj<|ae 6<|ae 7 ⟨d,.bl b,rfl,dg,b,rfl,?_⟩;have j6:=Bv (Nz.bW Sum.inl<|kvs.take i) (show(kvs.take i).length<=kvs.length by rw [Bd];omega)
   by_cases hb:b=true
   ·rw [BL hb];intro cl C' s₀ H₀ ex;refine ae 7 ⟨_,av,by rw [Aa];exact bH (by omega),⟨_,rfl⟩,?_⟩;rw [o8,BL hb];exact T4
   ·rw [BK hb];refine⟨⟨_,rfl⟩,?_⟩;rw [BK hb,Ba]
  ·rintro σ' H' ⟨_,rfl⟩;rw [Bm];have T8:=Nz.fh nq kvs I.dB;have Hh:(Nz.aQ (Sum.inl:Int->Key) kvs).length<=(aS n).length:=k8u eG hT (λz hz=>(nw z).mp hz) DD I T8 λx=>I.mem nq x;refine aA ⟨E2,_,rfl,ai.of av,by omega,λl sd hl cL qR=>?_⟩;have IU:l≠E2:=λe=>by rw [e,av] at hl;cases hl
   have IY:l≠d:=λe=>by rw [e,au<|CG nE,av] at hl;cases hl
   have zR:H6 l=none:=by rw [au IU,au IY] at hl;exact hl
   have g6:H l=none:=mO.free zR;have IZ:H E2=none:=mO.free IT;have aX:sd.Pairwise (· < ·):=by
    have jv:=cL.nodup_iff.mpr T8;rw [Bg] at jv;exact(qR.and jv).imp λ⟨a,b⟩=>by omega
   obtain⟨ns,rfl,gK⟩:=q5b eG hT hf.1 hN nw DD I aX λx=>by rw [cL.mem_iff];exact I.mem nq x
   refine qQ hD l ns _ (λc o' hc=>?_) g6 av gK;rw [au<|bd hc g6,au<|bd hc IZ,au<|bd hc vV];exact mO _ _ hc
open PyProof.Rows (sortedS)
open Classical
noncomputable def KO:Sp:=λvs H Q _=>∃(R p:Addr) (as:List<|Addr×Addr) (n:Net) (ss:List Str),vs=[.ref R,.ref p]/\ak H R as n/\(n.map (·.1)).Nodup/\aw n/\HF n/\0 < n.length/\n.length<=60/\(ag n).length<=60/\H p=some (Ls ss)/\cB ss /\
 (¬ cf n ss->∀(t:Addr) (H':Hp),ah H H'->H' t=some (.tup [.non,.bl true])->Q (.ref t) H')/\(cf n ss->∀(t L:Addr) (ns:List Nat) (H':Hp),ah H H'->H' t=some (.tup [.ref L,.bl true])->H' L=some (Lz<|ns.map λi:Nat=>(i:Int))->fJ n ss ns->Q (.ref t) H')
def KP:Sp:=λvs H Q _=>∃(R d C p:Addr) (as:List<|Addr×Addr) (n:Net) (ks:List Str) (ob:Obj) (cu:List Addr) (cs:List<|List Str) (ss:List Str),vs=[.ref R,.ref d,.ref C,.ref p]/\ak H R as n/\df H d ob n ks/\(n.map (·.1)).Nodup/\aw n/\HF n/\0 < n.length/\n.length<=60/\(ag n).length<=32/\im H C cu cs/\cn n cs/\H p=some (Ls ss)/\cB ss/\(∀ z∈ss,z∈ag n)/\∀ H',ah H H'->Q (.bl true) H'
def k7y:bootBuiltins "ValueError" = some (.type "ValueError"):=by decide +kernel
abbrev NTo:List Str:=["_law_rows","_law_some","e","_law_own"]
def xD:ao NTo ["_law_rows","_law_some"] (aP E3):=⟨rfl,rfl,rfl,by decide +kernel,rfl,by decide +kernel,by decide +kernel⟩
def q22{f:Addr}{fd:FuncData}{c:Str->Addr}(F:bu K "_law_told" "_law_told" E3 f fd)(T:Txt mg)(cl:Cl K mg c)(GP:gG P w K mg base 6 "numbers_by" ["rows","some"]<|KA c):aC P w K mg base bA 7 f fd ["_law_rows","_law_some"] KO:=by
 refine F.gb xD (λvs H Q E h=>?_) λb0 H vs Q E hr h=>?_
 ·obtain⟨R,p,as,n,ss,rfl,_⟩:=h;rfl
 obtain⟨R,p,as,n,ss,rfl,hR,hN,hT,hf,h0,hn,ib,hp,jo,qE,qQ⟩:=h;have nd:=xD.nd;show Run _ _ _ [some<|.ref R,some<|.ref p,none,none] H;have mx:("NoDouble" : Str)∈cK:=by decide
 refine q3t 2 (λC σ' H'=>¬ cf n ss/\C = .ref (c "NoDouble")/\σ'=[some<|.ref R,some<|.ref p,none,none]/\ah H H') cl.net cl.J0 nd (λpp=>?_) ?_
 ·refine bL<|eC<|aj<|q20 GP hr (q9o rfl)<|aj<|ae 0<|aj<|ae 1<|aA ⟨R,p,as,n,ss,rfl,hR,hN,hT,hf,h0,hn,ib,hp,jo,λk H' s'=>⟨k,rfl,rfl,s'⟩,λk L ns H' s' nL eL gK=>aj<|pI<|aA ⟨Z2,λt ht=>?_⟩⟩;have s2:=aK ht<|.tup [.ref L,.bl true];exact qQ k t L ns _ (s'.trans s2) av (s2 _ _ eL) gK
 ·rintro C σ' H' ⟨hD,rfl,rfl,s'⟩;refine⟨c "NoDouble",rfl,(cl.at' _ mx).2.1,(cl.at' _ mx).2.2.1,λpp ea oe ix nea=>?_⟩;have s1:=aK nea<|XO oe;have hE:(upd H' ea<|XO oe) ea=some (XO oe):=av;have sE:=s'.trans s1;show Run _ _ _ [some<|.ref R,some<|.ref p,some<|.ref ea,none] (upd H' ea<|XO oe);generalize upd H' ea (XO oe)=H6 at s1 hE sE;refine aT 3 nd (C8<|bX SY T.rV DX<|aj<|ae 2<|aj<|C7 (cl.at' "NoDouble" (by decide)).1 (v:= .ref<|c "NoDouble") rfl (aA ⟨ea,c "NoDouble",oe,.ref<|c "NoDouble",.ref<|c "NoDouble",_,rfl,λu r=>r,hE,ix,(cl.at' _ mx).2.2.2.1,cl.J1 _ mx "NoDouble" (by decide),_,rfl,?_⟩));rw [BW rfl];refine cw<|C8<|bX SY T.rV DX<|aj<|ae 2<|aj<|yb (.ty "ValueError") T.E6 k7y rfl (aA ⟨ea,c "NoDouble",oe,.type "ValueError",.ty "ValueError",true,rfl,λu r=>r,hE,ix,(cl.at' _ mx).2.2.2.1,(cl.at' _ mx).2.2.2.2,true,rfl,cw ?_⟩);refine Np (Xm<|bX k4u T.rV DX<|aj<|ae 2<|aj<|eC<|aj<|C7 (cl.at' "NoWalker" (by decide)).1 (v:= .ref<|c "NoWalker") rfl (aj<|C7 (cl.at' "TooMany" (by decide)).1 (v:= .ref<|c "TooMany") rfl (aA ⟨Z2,λt ht=>?_⟩)));have s2:=aK ht<|.tup [.ref<|c "NoWalker",.ref<|c "TooMany"];refine aA ⟨ea,c "NoDouble",oe,t,_,[.ref<|c "NoWalker",.ref<|c "TooMany"],false,rfl,av,λus r=>?_,s2 _ _ hE,ix,(cl.at' _ mx).2.2.2.1,?_,false,rfl,?_⟩
  ·obtain⟨u,v,rfl,r1,r2⟩:=vals2 r;cases r1;cases r2;rfl
  ·have k1:=cl.J1 _ mx "NoWalker" (by decide);have k2:=cl.J1 _ mx "TooMany" (by decide);rw [show decide (("NoDouble" : Str) = "NoWalker")=false by decide] at k1;rw [show decide (("NoDouble" : Str) = "TooMany")=false by decide] at k2;show PySem.W.kitAny K _ _=some false;unfold PySem.W.kitAny;rw [k1];show PySem.W.kitAny K _ _=_;unfold PySem.W.kitAny;rw [k2];rfl
  have T9:=sE.trans s2;show Run _ _ _ [some<|.ref R,some<|.ref p,some<|.ref ea,some<|.bl true] (upd H6 t<|.tup [.ref<|c "NoWalker",.ref<|c "TooMany"]);generalize upd H6 t (.tup [.ref<|c "NoWalker",.ref<|c "TooMany"])=H7 at T9;refine bL<|eC<|aj<|mj<|aj<|ae 3<|aA ⟨Z2,λt2 iG=>?_⟩;exact qE hD t2 _ (T9.trans<|aK iG _) av
abbrev KS:List Str:=["_law_rows","_law_seats_here","_law_cores","_law_some","_law_given","_law_found","_law_own","_law_total","_law_k","_law_number"]
def xE:ao KS ["_law_rows","_law_seats_here","_law_cores","_law_some"] (aP pZ):=⟨rfl,rfl,rfl,by decide +kernel,rfl,by decide +kernel,by decide +kernel⟩
def k67{α:Type}(f:α->Bool){l:List α}{k:Nat}{a:α}(h:l[k]?=some a):aJ ((l.take<|k+1).map f)=(aJ ((l.take k).map f) ^^ f a):=by
 rw [Bx,h,Ai,sD];show(_ ^^ (f a ^^ false))=_;rw [UG]
def k84{f:Addr}{fd:FuncData}(F:bu K "_law_right" "_law_right" pZ f fd)(T:Txt mg)(GT:aO P w K mg base 7 "_law_told" ["_law_rows","_law_some"] KO)
  (GE:aO P w K mg base 7 "_law_even" ["_law_rows","_law_some"] tj) (GI:aO P w K mg base 7 "_law_side" ["_law_rows","_law_seats_here","_law_some"] Jl) (GM:aO P w K mg base 7 "_law_sum" ["_law_one","_law_other_here"] zS) :
  aC P w K mg base bA 8 f fd ["_law_rows","_law_seats_here","_law_cores","_law_some"] KP:=by
 refine F.gb xE (λvs H Q E h=>?_) λb0 H vs Q E hr h=>?_
 ·obtain⟨R,d,C,p,as,n,ks,ob,cu,cs,ss,rfl,_⟩:=h;rfl
 obtain⟨R,d,C,p,as,n,ks,ob,cu,cs,ss,rfl,hR,hS,hN,hT,hf,h0,hn,ib,hC,eG,hp,jo,cg,q⟩:=h;have nd:=xE.nd;have un:=hr.gq;have KU:∀{xs:List Str},cB xs->(∀ z∈xs,z∈ag n)->xs.length<=16:=λh1 h2=>by have:=Gp hT (ql h1) h2;omega
 have lss:=KU jo cg;show Run _ _ _ [some<|.ref R,some<|.ref d,some<|.ref C,some<|.ref p,none,none,none,none,none,none] H;refine aT 4 nd<|rH MV T.j7 KY<|aj<|ae 3<|aA ⟨p,_,rfl,.inl<|ai.of hp,λg hg=>?_⟩;have s1:=aK hg<|Ls ss;have KW:(upd H g<|Ls ss) g=some (Ls ss):=av;show Run _ _ _ [some<|.ref R,some<|.ref d,some<|.ref C,some<|.ref p,some<|.ref g,none,none,none,none,none] (upd H g<|Ls ss);generalize upd H g (Ls ss)=H1 at s1 KW;have test:∀(v:V) (H2:Hp),ah H1 H2->((¬ cf n ss/\v = .non)\/(cf n ss/\∃(L:Addr) (ns:List Nat),v = .ref L/\H2 L=some (Lz<|ns.map λi:Nat=>(i:Int))/\fJ n ss ns))->Run (DU KS "_law_right" (aP pZ) P w K mg base b0) ((gL pZ).drop 2) (En Q) [some<|.ref R,some<|.ref d,some<|.ref C,some<|.ref p,some<|.ref g,some v,some<|.bl true,none,none,none] H2:=by
  intro v H2 s2 hv;have jK:=s1.trans s2;refine gM (nS<|rK<|cz (rO un)<|ae 4<|ae 3 ⟨1,true,by decide,q0m (s2 _ _ KW)<|jK _ _ hp,_,rfl,bR ?_⟩);refine ye<|rJ<|lh<|ae 6 ⟨true,rfl,bR<|a7 ?_⟩;have wK:=hR.same jK;have yk:=hS.same jK;have jt:=jK _ _ hp;have yes:cf n ss->∀ H3,ah H2 H3->Run (DU KS "_law_right" (aP pZ) P w K mg base b0) ((gL pZ).drop 4) (En Q) [some<|.ref R,some<|.ref d,some<|.ref C,some<|.ref p,some<|.ref g,some v,some<|.bl true,none,none,none] H3:=λhD H3 s3=>by
   obtain⟨_,L,ns,rfl,eL,gK⟩:=hv.resolve_left λk=>k.1 hD;have KI:=jK.trans s3;have xF:=s3 _ _ eL;have lns:ns.length<=32:=by
    have zT:ns.Nodup:=Bg.mpr<|gK.lH.imp λh=>Bn h;have h1:=aE zT (b:=List.range (aS n).length) λi hi=>Cb.mpr (gK.o7 i hi).2;rw [Du] at h1;have wl:(aS n).length<=(ends n).length:=su n (ends n) [];have mM:=iM n;omega
   have Ua:(ns.map λi:Nat=>(i:Int)).length=ns.length:=Aa ..;have rg:(ns.map λi:Nat=>(i:Int)).Pairwise (· < ·):=Cy.mpr (gK.lH.imp λh=>by omega);have Ub:(ns.map λi:Nat=>(i:Int)).Nodup:=Bg.mpr<|rg.imp λh=>Int.ne_of_lt h;have xG:∀{k:Nat} {i:Nat},ns[k]?=some i->(ns.map λi:Nat=>(i:Int))[k]?=some (i:Int):=λh=>by rw [Af,h];rfl
   generalize hIs:(ns.map λi:Nat=>(i:Int))=is at xF Ua rg Ub xG;refine gM<|nS<|rK<|rJ<|lh<|bX C1 T.rV DX<|aj<|ae 5<|aj<|yb (.ty "list") T.j7 KY rfl (aA ⟨_,_,_,true,rfl,.lst xF,Hy K,true,rfl,bR ?_⟩);refine ye (cz (rO un)<|ae 5<|bX TR T.sorted CP<|aj<|ae 5<|aA ⟨L,is,rfl,ai.of xF,by omega,λl AG hl cL fS=>?_⟩);have e':AG=is:=List.Perm.eq_of_pairwise (le:=λa b:Int=>a<=b) (λa b _ _ h1 h2=>Int.le_antisymm h1 h2) fS (rg.imp λh=>Int.le_of_lt h) cL;subst e';have s4:=aK hl<|.lst<|AG.map V.int;refine⟨1,true,by decide,q03 (s4 _ _ xF) av,_,rfl,bR<|a7 ?_⟩;have Uc:=KI.trans s4;have Ud:=s4 _ _ xF;generalize upd H3 l (.lst<|AG.map V.int)=H4 at Uc Ud;refine aT 7 nd<|dU<|aA ⟨Z0,λt0 zq=>?_⟩;have s5:=aK zq<|.lst [];have sN:(upd H4 t0<|.lst []) t0=some (Ls []):=av;have AH:=Uc.trans s5;have oJ:=s5 _ _ Ud;show Run _ _ _ [some<|.ref R,some<|.ref d,some<|.ref C,some<|.ref p,some<|.ref g,some<|.ref L,some<|.bl true,some<|.ref t0,none,none] (upd H4 t0<|.lst []);generalize upd H4 t0 (.lst [])=H5 at AH oJ sN;have lIv:(AG.map V.int).length=ns.length:=by rw [Aa,Ua]
   refine mq T.range (bX eB T.len DR<|aj<|ae 5<|aA ⟨L,_,rfl,.inl<|ai.of oJ,_,rfl,by omega,by omega,?_⟩);rw [lIv,Bf];refine mr (n:=ns.length) (λk σ H'=>∃(oP:Addr) (ts:List Str) (u8 u9:Option V),ah H5 H'/\H' oP=some (Ls ts)/\cB ts/\(∀ z∈ts,z∈ag n)/\(∀ z∈ag n,decide (z∈ts)=aJ ((ns.take k).map λi=>eX n ((aS n)[i]?.getD []) z))/\σ=[some<|.ref R,some<|.ref d,some<|.ref C,some<|.ref p,some<|.ref g,some<|.ref L,some<|.bl true,some<|.ref oP,u8,u9])
    ⟨t0,[],_,_,ah.refl _,sN,List.Pairwise.nil,λz hz=>(by cases hz),λz _=>rfl,rfl⟩ ?_ ?_
   ·rintro k σ H6 hk ⟨oP,ts,u8,u9,s6,et,so,mt,md,rfl⟩;rw [Dg];have oQ:=Ab hk;have xH:=gK.o7 _<|Bs hk;generalize ns[k]=i at oQ xH;have qM:=s6 _ _ oJ;have AI:=(hC.same AH).same s6;have hi:i < cs.length:=by rw [eG.len];exact xH.2
    have nA:=Ab hi;have lcu:=AI.2.1;have rh:=Ab (show i < cu.length by omega);have K0:=AI.2.2 i _ _ rh nA;have iV:=Ab xH.2;have wk:=vj hT (ends n) [] (λe he=>he) _<|Bs xH.2;have cin:=Ti wk.ends<|eG.mem i _ _ nA iV;have K1:=eG.lH _<|Bs hi;have cA:∀ z,z∈ag n->decide (z∈cs[i])=eX n ((aS n)[i]?.getD []) z:=λz hz=>by
     have:=eG.at' hT xH.2 hz;rw [nA,RD] at this;exact this
    generalize cs[i]=ci at K0 cin K1 cA;generalize cu[i]=ui at rh K0;have lci:=KU K1 cin;have lts:=KU so mt;refine aW 8 nd ?_;refine aT 9 nd (aZ cv<|ae 5<|ae 8 ⟨L,_,_,.int (i:Int),rfl,rfl,ai.of qM,nM (by rw [Af,xG oQ];rfl),?_⟩);show Run _ _ _ [some<|.ref R,some<|.ref d,some<|.ref C,some<|.ref p,some<|.ref g,some<|.ref L,some<|.bl true,some<|.ref oP,some<|.int (k:Int),some<|.int (i:Int)] H6;refine gM<|nS<|rK<|rJ<|lh<|bX C1 T.rV DX<|aj<|ae 9<|aj<|yb (.ty "int") T.mC JH rfl (aA ⟨_,_,_,true,rfl,.int _,Hz K,true,rfl,bR ?_⟩);refine rK<|lh<|bX C1 T.rV DX<|aj<|ae 9<|aj<|yb (.ty "bool") T.uU PyProof.Rows.boot_bool rfl (aA ⟨_,_,_,false,rfl,.int _,HH K,false,rfl,bR ?_⟩);refine rK<|cz Mu<|ae 9<|aD ⟨_,_,rfl,rfl,_,rfl,?_⟩;rw [BR<|by omega];refine bR<|ye<|cz VY<|ae 9<|bX eB T.len DR<|aj<|ae 2<|aA ⟨C,_,rfl,.inl<|ai.of AI.1,_,_,rfl,rfl,_,rfl,?_⟩;rw [BR<|by rw [Aa];omega];refine bR<|a7 ?_;refine gM<|cz Mv<|uL CW KC KD k8t<|ae 5 (v:= .ref L) ⟨Or.inl ⟨rfl,_,ai.of qM⟩,ae 9 ⟨L,_,_,rfl,rfl,ai.of qM,aD ⟨_,_,rfl,rfl,_,rfl,?_⟩⟩⟩;rw [BR<|by have:=List.nodup_iff_count.mp Ub (i:Int);omega];refine bR<|a7 ?_;refine aT 7 nd (bG GM hr<|aj<|ae 7<|aj<|aZ cv<|ae 2<|ae 9 ⟨C,_,_,.ref ui,rfl,rfl,ai.of AI.1,nM (by rw [Af,rh];rfl),aA ⟨oP,ui,ts,ci,rfl,et,K0,by omega,ql so,ql K1,λm ms H7 s7 n7 e7 so7 m7=>?_⟩⟩);refine a7 ⟨m,ms,_,_,s6.trans s7,e7,so7,λz hz=>?_,λz hz=>?_,rfl⟩
    ·have:=(m7 z).mp hz
     by_cases k:z∈ts
     ·exact mt z k
     ·rw [BK k] at this;exact cin z this
    ·rw [k67 _ oQ,<- md z hz,<- cA z hz];have h7:=m7 z
     by_cases k1:z∈ts <;> by_cases k2:z∈ci
     ·rw [BW k1,BW k2,BR λk=>by have:=h7.mp k;rw [BL k1] at this;exact this k2];rfl
     ·rw [BW k1,BR k2,BW<|h7.mpr<|by rw [BL k1];exact k2];rfl
     ·rw [BR k1,BW k2,BW<|h7.mpr<|by rw [BK k1];exact k2];rfl
     ·rw [BR k1,BR k2,BR λk=>by have:=h7.mp k;rw [BK k1] at this;exact k2 this];rfl
   ·rintro σ H6 ⟨oP,ts,u8,u9,s6,et,so,mt,md,rfl⟩;rw [Bm] at md;have ets:ts=ss:=y7 so jo λz=>by
     by_cases hz:z∈ag n
     ·have:=(md z hz).trans<|gK.sum z hz;exact decide_eq_decide.mp this
     ·exact⟨λk=>absurd (mt z k) hz,λk=>absurd (cg z k) hz⟩
    subst ets;exact bL<|gY (yo un)<|ae 7<|ae 3 ⟨1,true,by decide,QR et<|s6 _ _<|AH _ _ hp,q _<|AH.trans s6⟩
  refine gM (nS<|rK<|rJ<|lh<|bG GE hr<|aj<|ae 0<|aj<|ae 3<|aA ⟨R,p,as,n,ss,rfl,wK,hn,by omega,jt,λH3 s3=>⟨_,rfl,?_⟩⟩);cases m6:fC n ss with
  | false=>
   have hD:¬ cf n ss:=λk=>by rw [k.1] at m6;cases m6
   obtain⟨_,rfl⟩:=hv.resolve_right λk=>hD k.1;refine cw<|cw<|bL<|gY BG<|ae 5<|mj ⟨rfl,?_⟩;rw [BW rfl];exact q _<|jK.trans s3
  | true=>
   refine bR<|ye<|cz BG<|bG GI hr<|aj<|ae 0<|aj<|ae 1<|aj<|ae 3<|aA ⟨R,d,p,as,n,ss,ks,ob,rfl,wK.same s3,yk.same s3,hT,hf.1,hN,h0,hn,s3 _ _ jt,cg,λLq H4 s4 hex=>mj ⟨rfl,_,rfl,?_⟩,λH4 s4 Jh=>mj ⟨rfl,_,rfl,?_⟩⟩
   ·have hD:cf n ss:=⟨m6,hex⟩;rw [BR λk=>by cases k];exact bR<|a7<|yes hD H4<|s3.trans s4
   ·have hD:¬ cf n ss:=λk=>let ⟨sd,h⟩:=k.2;Jh sd h
    rw [BW rfl];obtain⟨_,rfl⟩:=hv.resolve_right λk=>hD k.1;refine cw<|bL<|gY BG<|ae 5<|mj ⟨rfl,?_⟩;rw [BW rfl];exact q _<|jK.trans<|s3.trans s4
 refine yg<|bG GT hr<|aj<|ae 0<|aj<|ae 4<|aA ⟨R,g,as,n,ss,rfl,hR.same s1,hN,hT,hf,h0,hn,by omega,KW,jo,λhD t H2 s2 et=>?_,λhD t L ns H2 s2 et eL gK=>?_⟩
 ·exact iO rfl (aM.of et) (aW 5 nd<|aW 6 nd<|test .non H2 s2<|.inl ⟨hD,rfl⟩)
 ·exact iO rfl (aM.of et) (aW 5 nd<|aW 6 nd<|test (.ref L) H2 s2<|.inr ⟨hD,L,ns,rfl,eL,gK⟩)
open PyProof.Rows (sortedS)
open Classical
def Good(n:Net)(H:Hp)(a:Addr):Prop:=∃ ss,H a=some (Ls ss)/\cB ss/\∀ z∈ss,z∈ag n
def Good.same{n:Net}{H H':Hp}{a:Addr}(h:Good n H a)(s:ah H H'):Good n H' a:=let ⟨ss,h1,h2⟩:=h;⟨ss,s _ _ h1,h2⟩
def Good.upd{n:Net}{H:Hp}{a b:Addr}{o:HO}(h:Good n H a)(ne:a≠b):Good n (upd H b o) a:=let ⟨ss,h1,h2⟩:=h;⟨ss,by rw [au ne];exact h1,h2⟩
def AJ(K:PySem.W.Frag):Sp:=λvs H Q _=>∃(a:Addr) (ns:List Int),vs=[.ref a]/\ai K H a (ns.map V.int)/\ns.length<=63/\∀ H',Q (.bl true) H'
def Ue{xs ys:List Str}(h:cB ys)(s:xs.Sublist ys):cB xs:=List.Pairwise.sublist s h
abbrev NW:List Str:=["_law_script","_law_big_here","_law_rows","_law_handed","_law_seats_here","_law_ties","_law_bits","_law_some","_law_cores","_law_sets","_law_core_here","_law_one"]
abbrev Ug:List Str:=["_law_script","_law_big_here","_law_rows","_law_handed","_law_seats_here","_law_ties","_law_bits","_law_some","_law_cores","_law_sets","_law_core_here","_law_one","_law_k"]
abbrev Uh:List Str:=["_law_script","_law_big_here","_law_rows","_law_handed","_law_seats_here","_law_ties","_law_bits","_law_some","_law_cores","_law_sets","_law_core_here","_law_one","_law_walker"]
abbrev Ui:List Str:=["_law_script","_law_big_here","_law_rows","_law_handed","_law_seats_here","_law_ties","_law_bits","_law_some","_law_cores","_law_sets","_law_core_here","_law_one","_law_tie"]
def oY:ao NW ["_law_script"] (aP jc):=⟨rfl,rfl,rfl,by decide +kernel,rfl,by decide +kernel,by decide +kernel⟩
def q9f:Ug.Nodup:=by decide +kernel
def q88:Uh.Nodup:=by decide +kernel
def q9l:Ui.Nodup:=by decide +kernel
def q7i{f:Addr}{fd:FuncData}(F:bu K "law" "law" jc f fd)(T:Txt mg)
  (GC:aO P w K mg base 8 "_law_cell_at" ["_law_script","_law_k"]<|yK K) (GB:aO P w K mg base 8 "_law_big" ["_law_script","_law_at"]<|E8 K) (GN:aO P w K mg base 8 "_law_net_by" ["_law_big_here","_law_most","_law_stem"] GV) (GY:aO P w K mg base 8 "_law_copy" ["_law_rows"] Hj) (GS:aO P w K mg base 8 "_law_seats" ["_law_rows"] yL)
  (GM:aO P w K mg base 8 "_law_sum" ["_law_one","_law_other_here"] zS) (GO:aO P w K mg base 8 "_law_core" ["_law_rows","_law_walker"] Jr) (GW:aO P w K mg base 8 "walkers_of" ["rows"] zG) (GR:aO P w K mg base 8 "_law_right" ["_law_rows","_law_seats_here","_law_cores","_law_some"] KP) :
  aC P w K mg base bA 9 f fd ["_law_script"] (AJ K):=by
 refine F.gb oY (λvs H Q E h=>?_) λb0 H vs Q E hr h=>?_
 ·obtain⟨a,ns,rfl,_⟩:=h;rfl
 obtain⟨a,ns,rfl,hS,h63,q⟩:=h;have nd:=oY.nd;have un:=hr.gq;show Run _ _ _ [some<|.ref a,none,none,none,none,none,none,none,none,none,none,none] H;refine aT 1 nd (bG GB hr<|aj<|ae 0<|aj<|aD<|aA ⟨a,ns,0,rfl,hS,by decide,λb H1 s1=>?_⟩);refine aT 2 nd (bG GN hr<|aj<|aY iz<|ae 1<|aD ⟨_,_,rfl,rfl,⟨by decide,by decide⟩,?_⟩);refine aj (aD<|aj<|aY fM<|aY cO<|ae 1<|aD ⟨_,_,rfl,rfl,(by show(0:Int) < 97;decide),bG GC hr<|aj<|ae 0<|aj<|aD<|aA ⟨a,ns,9,rfl,s1.seq hS,by decide,λc9=>⟨_,_,rfl,rfl,?_⟩⟩⟩);refine aA ⟨_,16,_,rfl,by decide,by decide,λR as n H2 s2 n2 hR hT hN hF hf ib Ij has=>?_⟩;have e16:((16:Int)).toNat=16:=rfl;rw [e16] at ib Ij;have mQ:ah H H2:=s1.trans s2;have mM:=iM n;have h0n:0 < n.length:=De.mpr<|Full.some hF;refine aT 3 nd (bG GY hr<|aj<|ae 2<|aA ⟨R,as,n,rfl,hR,by omega,λM bs H3 s3 n3 f3 hM=>?_⟩);refine aT 4 nd (bG GS hr<|aj<|ae 2<|aA ⟨R,as,n,rfl,hR.same s3,by omega,by omega,λds ks H4 s4 n4 xI=>?_⟩);obtain⟨fj,ed,ek,ev⟩:=xI.dict;have se:ks.length<=32:=by
  have:=aE xI.nodup λz hz=>(xI.mem z).mp hz;omega
 refine q2d ed λob=>?_;have n42:H2 ds=none:=s3.free n4;have sF:ah H3 (upd H4 ds<|.bh ob<|.dK fj):=db s4 n4;have kF:∀ b o,b≠ds->H4 b=some o->(upd H4 ds<|.bh ob<|.dK fj) b=some o:=λb o hb h=>by rw [au hb];exact h
 have AK:df (upd H4 ds<|.bh ob<|.dK fj) ds ob n ks:=by
  refine⟨⟨fj,av,ek,λz hz=>?_⟩,xI.nodup,xI.mem⟩;obtain⟨a,ts,q1,q2,q3⟩:=ev z hz;exact⟨a,ts,q1,kF _ _ (bQ q2 ed λz=>nomatch z) q2,q3.keep λt e h=>kF _ _ (bQ h ed λz=>nomatch z) h⟩
 have Uj:ai K (upd H4 ds<|.bh ob<|.dK fj) a (ns.map V.int):=((mQ.trans s3).trans sF).seq hS;have vz:=(hR.same s3).same sF;have Uk:=hM.same sF;show Run _ _ _ [some<|.ref a,some<|.int b,some<|.ref R,some<|.ref M,some<|.ref ds,none,none,none,none,none,none,none] (upd H4 ds<|.bh ob<|.dK fj);have Ul:(upd H4 ds<|.bh ob<|.dK fj) ds=some (.bh ob<|.dK fj):=av;generalize upd H4 ds (.bh ob<|.dK fj)=H5 at AK Uj vz Uk Ul;refine aT 5 nd (bX (j5x rfl) T.sorted CP<|aj<|ae 4<|aA ⟨ds,fj,ks,rfl,.inr ⟨ob,Ul⟩,ek,by omega,λt tt ht cL fS=>?_⟩);have tf:cB tt:=sJ fS<|cL.nodup_iff.mpr AK.nodup;have xJ:∀ z,z∈tt↔z∈ag n:=λz=>by rw [cL.mem_iff];exact AK.mem z
 have s6:=aK ht<|Ls tt;have kD:(upd H5 t<|Ls tt) t=some (Ls tt):=av;show Run _ _ _ [some<|.ref a,some<|.int b,some<|.ref R,some<|.ref M,some<|.ref ds,some<|.ref t,none,none,none,none,none,none] (upd H5 t<|Ls tt);generalize upd H5 t (Ls tt)=H6 at s6 kD;refine aT 6 nd (bG GB hr<|aj<|ae 0<|aj<|aD<|aA ⟨a,ns,10,rfl,s6.seq Uj,by decide,λbi H7 s7=>?_⟩);have s57:=s6.trans s7;have K2:=s7 _ _ kD;have j6:=Gp hT (ql tf) λz hz=>(xJ z).mp hz;have etl:(tt.map V.str).length=tt.length:=Aa ..;show Run _ _ _ [some<|.ref a,some<|.int b,some<|.ref R,some<|.ref M,some<|.ref ds,some<|.ref t,some<|.int bi,none,none,none,none,none] H7;refine rM 7 (aP jc) NW Ug 1 nd (xU rfl T.range gn) (aj<|bX eB T.len DR<|aj<|ae 5<|aA ⟨t,_,rfl,.inl<|ai.of K2,aA ⟨_,rfl,by omega,by omega,λD hD=>?_⟩⟩);rw [etl,Bf];refine Hn (λi σ' H'=>(∃ v,σ'=[some<|.ref a,some<|.int b,some<|.ref R,some<|.ref M,some<|.ref ds,some<|.ref t,some<|.int bi,none,none,none,none,none]++[v])/\ah H7 H'/\∃ ss,H' D=some (Ls ss)/\ss.Sublist (tt.take i)) ⟨⟨_,rfl⟩,aK hD _,[],av,List.Sublist.refl _⟩ ?_ ?_
 ·rintro i σ' H' hi ⟨⟨v,rfl⟩,sm,ss,eD,eW⟩;rw [Dg];have xK:tt[i]?=some tt[i]:=Ab hi;have ic:tt.take (i+1)=tt.take i++[tt[i]]:=by rw [Bx,xK];rfl
  intro cl C s₀ H₀ ex;refine aW 12 q9f ?_;intro cl C s₀ H₀ ex;refine iE<|cz i0<|aY VU<|aY VS<|ae 6<|ae 12 ⟨bi,(i:Int),rfl,rfl,?_,aD ⟨_,_,rfl,rfl,aD ⟨rfl,_,rfl,?_⟩⟩⟩
  ·omega
  refine gg (λc=>?_) (λc=>⟨⟨_,rfl⟩,sm,ss,eD,by rw [ic];exact eW.trans<|List.sublist_append_left _ _⟩);intro cl C s₀ H₀ ex;have Iy:=eW.length_le;rw [Bd] at Iy;refine aZ cv<|ae 5<|ae 12 ⟨t,_,_,.str tt[i],rfl,rfl,ai.of<|sm _ _ K2,uN xK,_,eD,by rw [Aa];exact bH (by omega),⟨_,rfl⟩,db sm hD,ss++[tt[i]],by rw [av];show some (HO.lst<|ss.map V.str++[V.str tt[i]])=some (HO.lst<|(ss++[tt[i]]).map V.str);rw [Ai];rfl,by rw [ic];exact List.Sublist.append eW<|List.Sublist.refl _⟩
 rintro σ' H8 ⟨_,s8,so,eo,eW⟩;rw [Bm] at eW;have K3:=s57.trans s8;have Um:=s8 _ _ K2;have gT:Good n H8 t:=⟨tt,Um,tf,λz hz=>(xJ z).mp hz⟩;have gO:Good n H8 D:=⟨so,eo,Ue tf eW,λz hz=>(xJ z).mp<|eW.subset hz⟩;have Uo:=Ue tf eW;have Uq:∀ z∈so,z∈ag n:=λz hz=>(xJ z).mp<|eW.subset hz;have Ur:=vz.same K3;have Us:=Uk.same K3;have hS8:=AK.same K3;show Run _ _ _ [some<|.ref a,some<|.int b,some<|.ref R,some<|.ref M,some<|.ref ds,some<|.ref t,some<|.int bi,some<|.ref D,none,none,none,none] H8;refine rM 8 (aP jc) NW Uh 1 nd (eg bf) (bG GW hr<|aj<|ae 3<|aA ⟨M,bs,n,rfl,Us,hN,hT,by omega,by omega,λW ls H9 s9 n9 hW fW=>⟨W,rfl,⟨_,ai.of hW.lst⟩,λCL Ut=>?_⟩⟩);have wl:(aS n).length<=(ends n).length:=su n (ends n) [];have nr:=vj hT (ends n) [] λe he=>he;have xu:ls.length=(aS n).length:=hW.len;refine ka (xs:=ls.map V.ref) (λi σ' H'=>(∃ v,σ'=[some<|.ref a,some<|.int b,some<|.ref R,some<|.ref M,some<|.ref ds,some<|.ref t,some<|.int bi,some<|.ref D,none,none,none,none]++[v])/\ah H9 H'/\∃ us cs,kY n H' CL us cs i) ⟨⟨none,rfl⟩,aK Ut _,[],[],kY.start av⟩ ?_ ?_ ?_
 ·rintro i σ' H' _ ⟨_,sm,_⟩;exact ai.of<|sm _ _ hW.lst
 ·rintro i x σ' H' hx ⟨⟨v,rfl⟩,sm,us,cs,I⟩;rw [Af,Ap] at hx;obtain⟨l,hl,rfl⟩:=hx;have lv:i < (aS n).length:=by have:=(Ac.mp hl).1;rw [<- xu];exact this
  have iV:=Ab lv;obtain⟨ts,el,hE⟩:=(hW.same sm).at' i l _ hl iV;have wk:=nr _<|At iV;generalize (aS n)[i]=es at iV hE wk;have few:=wk.few;have lu:=I.lu;intro cl C s₀ H₀ ex;refine aW 12 q88 ?_;intro cl C s₀ H₀ ex;refine g7<|cw ?_;intro cl C s₀ H₀ ex;refine bG GO hr<|aj<|ae 2<|aj<|ae 12<|aA ⟨R,l,as,n,ts,es,rfl,(Ur.same s9).same sm,hN,by omega,el,hE,wk.ends,by omega,λl hn hm=>?_,λk ks H2 s2 n2 e2 KE m2=>?_⟩
  ·have:=aE hn λz hz=>TU wk.ends z<|hm z hz;omega
  exact⟨_,s2 _ _ I.lst,by rw [Aa];exact bH (by omega),⟨_,rfl⟩,db (sm.trans s2) Ut,_,_,I.step s2 n2 e2 KE iV m2⟩
 rintro σ' HA ⟨_,sA,cu,cs,I⟩;rw [Aa,xu] at I;obtain⟨Uu,eG⟩:=I.whole;have cA:=Uu.2.2;have lu:=I.lu;have lc:=eG.len;have ri:=s9.trans sA;have oZ:∀{H':Hp},im H' CL cu cs->∀ u∈cu,Good n H' u:=λ{H'} h u hu=>by
  obtain⟨i,hi⟩:=Be hu;have lv:=(Ac.mp hi).1;have nA:=Ab (show i < cs.length by omega);have iV:=Ab (show i < (aS n).length by omega);have wk:=nr _<|At iV;exact⟨_,h.2.2 i u _ hi nA,eG.lH _<|Bs _,Ti wk.ends<|eG.mem i _ _ nA iV⟩
 have K4:=Ur.same ri;have K5:=Us.same ri;have K6:=hS8.same ri;have K7:=gT.same ri;have K8:=gO.same ri;have K9:=ri _ _ Um;have K':=ri _ _ eo;show Run _ _ _ [some<|.ref a,some<|.int b,some<|.ref R,some<|.ref M,some<|.ref ds,some<|.ref t,some<|.int bi,some<|.ref D,some<|.ref CL,none,none,none] HA;refine aT 9 nd<|aY x6<|aY x6<|dU<|aj<|ae 7<|aj<|dU<|aA ⟨Z0,λp0 hp0=>aj<|ae 5<|aA ⟨Z3,λp1 vH=>?_⟩⟩;have b0':=aK hp0<|.lst [];have Uv:=aK vH<|.lst [.ref D,.ref p0,.ref t];have AO:(upd HA p0<|.lst []) p0=some (Ls []):=av;have Uw:(upd (upd HA p0<|.lst []) p1<|.lst [.ref D,.ref p0,.ref t]) p1=some (.lst<|([D,p0,t]:List Addr).map V.ref):=av;have AO:=Uv _ _ AO;have sB:=b0'.trans Uv;generalize upd (upd HA p0<|.lst []) p1 (.lst [.ref D,.ref p0,.ref t])=HB at AO Uw sB;have Ux:=sB _ _ K9;refine gN (aP jc) NW Ui 1 (eg bf)<|ae 5 ⟨t,rfl,⟨_,ai.of Ux⟩,λD2 gW=>?_⟩;refine ka (xs:=tt.map V.str) (λi σ' H'=>(∃ v,σ'=[some<|.ref a,some<|.int b,some<|.ref R,some<|.ref M,some<|.ref ds,some<|.ref t,some<|.int bi,some<|.ref D,some<|.ref CL,none,none,none]++[v])/\ah HB H'/\∃ us:List Addr,H' D2=some (.lst<|us.map V.ref)/\us.length=i/\∀ u∈us,Good n H' u/\u≠D2) ⟨⟨none,rfl⟩,aK gW _,[],av,rfl,λu h=>(by cases h)⟩ ?_ ?_ ?_
 ·rintro i σ' H' _ ⟨_,sm,_⟩;exact ai.of<|sm _ _ Ux
 ·rintro i x σ' H' hx ⟨⟨v,rfl⟩,sm,us,eD,lu,xL⟩;have lv:=(Ac.mp hx).1;rw [Aa] at lv;rw [Af,Ap] at hx;obtain⟨z,hz,rfl⟩:=hx;have fG:=(xJ z).mp<|At hz;intro cl C s₀ H₀ ex;refine aW 12 q9l ?_;intro cl C s₀ H₀ ex;refine g7<|cw ?_;intro cl C s₀ H₀ ex;refine dU<|aj<|ae 12<|aA ⟨Z1,λk hk=>?_⟩;have s2:=aK hk<|.lst [.str z];have ek:(upd H' k<|.lst [.str z]) k=some (Ls [z]):=av;have xq:k≠D2:=λe=>by rw [e,eD] at hk;cases hk
  refine⟨_,s2 _ _ eD,by rw [Aa];exact bH (by omega),⟨_,rfl⟩,db (sm.trans s2) gW,us++[k],?_,by rw [Ad,lu];rfl,λu hu=>?_⟩
  ·rw [av,Ai];rfl
  ·rcases An.mp hu with h | h
   ·exact⟨((xL u h).1.same s2).upd (xL u h).2,(xL u h).2⟩
   ·rw [Ag.mp h];exact⟨(show Good n _ k from⟨[z],ek,RN _ _,λy hy=>by rw [Ag.mp hy];exact fG⟩).upd xq,xq⟩
 rintro σ' HC ⟨_,sC,us,lP,mZ,xL⟩;rw [Aa] at mZ;have sBC:=sB.trans sC;have e1C:=sC _ _ Uw;refine⟨p1,D2,_,_,rfl,rfl,e1C,lP,?_,λZ hZ=>?_⟩
 ·rw [Aa,Aa];exact small<|by show 3+us.length<=_;omega
 have sZ:=aK hZ<|.lst<|([D,p0,t]:List Addr).map V.ref++us.map V.ref;have eZ:(upd HC Z<|.lst<|([D,p0,t]:List Addr).map V.ref++us.map V.ref) Z=some (.lst<|([D,p0,t]++us).map V.ref):=by rw [av,Ai]
 have o6:=sBC.trans sZ;have gZ:∀ x∈[D,p0,t]++us,Good n (upd HC Z<|.lst<|([D,p0,t]:List Addr).map V.ref++us.map V.ref) x:=λx hx=>by
  rcases An.mp hx with h | h
  ·simp only [Al,By,FN] at h
   rcases h with rfl | rfl | rfl
   ·exact K8.same o6
   ·exact(show Good n HB _ from⟨[],AO,List.Pairwise.nil,λz hz=>by cases hz⟩).same<|sC.trans sZ
   ·exact K7.same o6
  ·exact(xL x h).1.same sZ
 have lZ:([D,p0,t]++us).length<=40:=by rw [Ad];show 3+us.length<=40;omega
 generalize upd HC Z (.lst<|([D,p0,t]:List Addr).map V.ref++us.map V.ref)=HD at eZ o6 gZ;generalize [D,p0,t]++us=ys at eZ gZ lZ;have tJ:=Uu.same o6;refine ae 8 ⟨Z,CL,_,_,rfl,rfl,eZ,tJ.1,?_,λS La=>?_⟩
 ·rw [Aa,Aa];exact small<|by omega
 have sS:=aK La<|.lst<|ys.map V.ref++cu.map V.ref;have eS:(upd HD S<|.lst<|ys.map V.ref++cu.map V.ref) S=some (.lst<|(ys++cu).map V.ref):=by rw [av,Ai]
 have noS:∀{x:Addr} {H':Hp},ah HD H'->Good n HD x->x≠S:=λ{x H'} s g k=>by
  obtain⟨ss,h,_⟩:=g;rw [k,La] at h;cases h
 have gS:∀ x∈ys++cu,Good n HD x:=λx hx=>by
  rcases An.mp hx with h | h
  ·exact gZ x h
  ·exact oZ tJ x h
 have Uy:∀ x∈ys++cu,Good n (upd HD S<|.lst<|ys.map V.ref++cu.map V.ref) x/\x≠S:=λx hx=>⟨(gS x hx).same sS,noS sS<|gS x hx⟩;have lS:(ys++cu).length<=80:=by rw [Ad];omega
 have eoD:=o6 _ _ K';have Uz:=K5.same o6;have hRD:=K4.same o6;have hSD:=K6.same o6;have UA:∀{xs:List Str},cB xs->(∀ z∈xs,z∈ag n)->xs.length<=16:=λh1 h2=>by have:=Gp hT (ql h1) h2;omega
 have lso:=UA Uo Uq;show Run _ _ _ [some<|.ref a,some<|.int b,some<|.ref R,some<|.ref M,some<|.ref ds,some<|.ref t,some<|.int bi,some<|.ref D,some<|.ref CL,some<|.ref S,none,none] (upd HD S<|.lst<|ys.map V.ref++cu.map V.ref);generalize upd HD S (.lst<|ys.map V.ref++cu.map V.ref)=HE at sS eS Uy;refine jU<|ae 8 ⟨CL,rfl,⟨_,ai.of<|sS _ _ tJ.1⟩,?_⟩;refine jV (xs:=cu.map V.ref) (λi σ H'=>∃(xs:List Addr) (qv:Option V),ah HD H'/\H' S=some (.lst<|xs.map V.ref)/\xs.length<=80+i/\(∀ x∈xs,Good n H' x/\x≠S) /\
   σ=[some<|.ref a,some<|.int b,some<|.ref R,some<|.ref M,some<|.ref ds,some<|.ref t,some<|.int bi,some<|.ref D,some<|.ref CL,some<|.ref S,qv,none]) ⟨ys++cu,_,sS,eS,by omega,Uy,rfl⟩ ?_ ?_ ?_
 ·rintro i σ H' _ ⟨_,_,sm,_⟩;exact ai.of<|sm _ _ tJ.1
 ·rintro i x σ H' hx ⟨xs,qv,sm,tK,hxl,xM,rfl⟩;rw [Af,Ap] at hx;obtain⟨u,hu,rfl⟩:=hx;have lv:=(Ac.mp hu).1;obtain⟨ci,eci,UB,UC⟩:=(oZ tJ u<|At hu).same sm;have lci:=UA UB UC;refine aW 10 nd ?_;refine g5<|j3<|ae 9 ⟨S,rfl,⟨_,tK⟩,bG GM hr<|aj<|ae 7<|aj<|ae 10<|aA ⟨D,u,so,ci,rfl,sm _ _ eoD,eci,by omega,ql Uo,ql UB,λm ms HF sF nF eF soF mF=>⟨_,sF _ _ tK,?_,?_⟩⟩⟩
  ·rw [Aa];exact bH<|by omega
  have gm:Good n HF m:=⟨ms,eF,soF,λz hz=>by
   have:=(mF z).mp hz
   by_cases k:z∈so
   ·exact Uq z k
   ·rw [BK k] at this;exact UC z this⟩
  have UD:m≠S:=λk=>by rw [k,tK] at nF;cases nF
  refine a7 ⟨xs++[m],_,db (sm.trans sF) La,by rw [av,Ai];rfl,by rw [Ad];show xs.length+1<=_;omega,λx hx=>?_,rfl⟩
  rcases An.mp hx with h | h
  ·exact⟨((xM x h).1.same sF).upd (xM x h).2,(xM x h).2⟩
  ·rw [Ag.mp h];exact⟨gm.upd UD,UD⟩
 ·rintro σ HG ⟨xs,qv,sm,tK,hxl,xM,rfl⟩;refine jU<|ae 9 ⟨S,rfl,⟨_,ai.of tK⟩,?_⟩;refine jV (xs:=xs.map V.ref) (λi σ H'=>∃(Lb:Option V),ah HG H'/\σ=[some<|.ref a,some<|.int b,some<|.ref R,some<|.ref M,some<|.ref ds,some<|.ref t,some<|.int bi,some<|.ref D,some<|.ref CL,some<|.ref S,qv,Lb]) ⟨_,ah.refl _,rfl⟩ ?_ ?_ ?_
  ·rintro i σ H' _ ⟨_,rj,_⟩;exact ai.of<|rj _ _ tK
  ·rintro i x σ H' hx ⟨Lb,rj,rfl⟩;rw [Af,Ap] at hx;obtain⟨y,hy,rfl⟩:=hx;obtain⟨ss,ey,soy,my⟩:=(xM y<|At hy).1.same rj;have tL:=sm.trans rj;refine aW 11 nd ?_;exact gM<|rJ<|lh<|bG GR hr<|aj<|ae 3<|aj<|ae 4<|aj<|ae 8<|aj<|ae 11<|aA ⟨M,ds,CL,y,bs,n,ks,ob,cu,cs,ss,rfl,Uz.same tL,hSD.same tL,hN,hT,hf,h0n,by omega,by omega,tJ.same tL,eG,ey,soy,my,λbM pE=>⟨true,rfl,bR<|a7<|a7 ⟨_,rj.trans pE,rfl⟩⟩⟩
  ·rintro σ H' ⟨Lb,rj,rfl⟩;have tL:=sm.trans rj;exact bL<|gY (yo un)<|ae 3<|ae 2 ⟨3,true,by decide,q0f (Uz.same tL)<|hRD.same tL,q _⟩
end
end Q2
namespace Q2
open PySem L2
def all_mk{l:PySem.W.OpenLaw}{w:World}{K:PySem.W.Frag}{h:Heap}{mg:Str->Option Value}{fa:Addr}(X:K.In h)(G:h.Ns mainGlobals mg)(DZ:mg "law" = some (.ref fa))
  (h1:Df K "ends_round" yz) (h2:Df K "ends_in_order" yA) (h3:Df K "turned_left" EH) (h4:Df K "turned_right" EI) (h5:Df K "other_ends" EJ) (h6:Df K "ties_by_end" yB) (h7:Df K "left_steps" yC) (h8:Df K "right_steps" yD) (h9:Df K "ties_of" yE) (Lc:Df K "links_of" EK) (AQ:Df K "spread" uP) (Ld:Df K "odd_points" hG) (zX:Df K "is_round" pT) (Le:Df K "cut_of" yF) (Lf:Df K "side_of" uQ) (Lh:Df K "walkers_of" pU) (Li:Df K "walker_from" pV) (Lj:Df K "core_of" uR) (Ln:Df K "is_double" EL) (Lp:Df K "numbers_by" uS) (Lr:Df K "cores_of" yG) (Lv:Df K "_law_cell_at" ER) (xf:Df K "_law_big" pW) (Lw:Df K "_law_names" EV) (Lx:Df K "_law_seats" EW) (Ly:Df K "_law_other" EX) (LA:Df K "_law_step" EZ) (LD:Df K "_law_face" E1) (LI:Df K "_law_put" pX) (LJ:Df K "_law_net_by" pY) (LL:Df K "_law_copy" yH) (LN:Df K "_law_side" yI) (LO:Df K "_law_even" yJ) (LU:Df K "_law_sum" uT) (LV:Df K "_law_core" n8) (LW:Df K "_law_told" E3) (LX:Df K "_law_right" pZ) (hl:Df K "law" jc)
  (qc:J9 K=true)
  (z:∀ x∈(["isinstance","tuple","str","int","bool","list","dict","set","enumerate","zip","len","range","sorted","max","all","ValueError"]:List Str),PySem.W.nsIn K mainGlobals x=some none) :
  ∃ fd:FuncData,(∀(s:Shared) (v:Value),BindsTo s fd ⟨[v],[]⟩ [("_law_script",v)])/\∀ base:Heap,K.In base->base.Ns mainGlobals mg->aC l.prog w K mg base bA 9 fa fd ["_law_script"] (AJ K):=by
 have T:Txt mg:=⟨CN X G (z _<|by simp),CN X G (z _<|by simp),CN X G (z _<|by simp),CN X G (z _<|by simp),CN X G (z _<|by simp),CN X G (z _<|by simp),CN X G (z _<|by simp),CN X G (z _<|by simp),CN X G (z _<|by simp),CN X G (z _<|by simp),CN X G (z _<|by simp),CN X G (z _<|by simp),CN X G (z _<|by simp),CN X G (z _<|by simp),CN X G (z _<|by simp),CN X G<|z _<|by simp⟩;have cl:=q9v X G qc;refine hl.law X G DZ (λ_ _ _ _ _ _ s v=> .of_eq rfl) λbase f fd F=>?_;have G1:aO l.prog w K mg base 1 "ends_round" ["row"] vJ:=h1.has X G (λ_ _ _ _ _ _=>jw λ_=>rfl) λF=>q41 F T;have G2:aO l.prog w K mg base 2 "ends_in_order" ["rows"] Ht:=h2.has X G (λ_ _ _ _ _ _=>jw λ_=>rfl) λF=>k9l F T (G1.mono<|by decide);have G3:aO l.prog w K mg base 1 "turned_left" ["end","many"] (hU λj=>j+1):=h3.has X G (λ_ _ _ _ _ _=>fP λ_ _=>rfl) λF=>q2m F T;have G4:aO l.prog w K mg base 1 "turned_right" ["end","many"] (hU λj=>j - 1):=h4.has X G (λ_ _ _ _ _ _=>fP λ_ _=>rfl) λF=>k62 F T;have G5:aO l.prog w K mg base 2 "other_ends" ["rows"] kJ:=h5.has X G (λ_ _ _ _ _ _=>jw λ_=>rfl) λF=>q9y F T (G1.mono<|by decide);have G6:aO l.prog w K mg base 2 "ties_by_end" ["rows"] mV:=h6.has X G (λ_ _ _ _ _ _=>jw λ_=>rfl) λF=>q92 F T (G1.mono<|by decide);have G7:aO l.prog w K mg base 3 "left_steps" ["rows"] (ia 1):=h7.has X G (λ_ _ _ _ _ _=>jw λ_=>rfl) λF=>q8y F T (G5.mono<|by decide) (G3.mono<|by decide);have G8:aO l.prog w K mg base 3 "right_steps" ["rows"] (ia (-1)):=h8.has X G (λ_ _ _ _ _ _=>jw λ_=>rfl) λF=>q9u F T (G5.mono<|by decide) (G4.mono<|by decide);have G17:aO l.prog w K mg base 1 "walker_from" ["lefts","rights","first"] qJ:=Li.has X G (λ_ _ _ _ _ _=>uF λ_ _ _=>rfl) λF=>q9d F T;have UE:aO l.prog w K mg base 4 "walkers_of" ["rows"] zG:=Lh.has X G (λ_ _ _ _ _ _=>jw λ_=>rfl) λF=>q61 F T (G7.mono<|by decide) (G8.mono<|by decide) (G6.mono<|by decide) (G2.mono<|by decide) (G17.mono<|by decide);have G9:aO l.prog w K mg base 1 "ties_of" ["rows"] qZ:=h9.has X G (λ_ _ _ _ _ _=>jw λ_=>rfl) λF=>q38 F T;have G18:aO l.prog w K mg base 3 "core_of" ["rows","walker"] Kb:=Lj.has X G (λ_ _ _ _ _ _=>fP λ_ _=>rfl) λF=>q2h F T (G6.mono<|by decide);have G21:aO l.prog w K mg base 5 "cores_of" ["rows"] Kz:=Lr.has X G (λ_ _ _ _ _ _=>jw λ_=>rfl) λF=>k9o F T (UE.mono<|by decide) (G18.mono<|by decide);have UH:aO l.prog w K mg base 1 "links_of" ["rows"] zQ:=Lc.has X G (λ_ _ _ _ _ _=>jw λ_=>rfl) λF=>k8z F T;have LY:aO l.prog w K mg base 1 "spread" ["first","links"] IC:=AQ.has X G (λ_ _ _ _ _ _=>fP λ_ _=>rfl) λF=>k52 F T;have G14:aO l.prog w K mg base 2 "cut_of" ["rows","points"] IH:=Le.has X G (λ_ _ _ _ _ _=>fP λ_ _=>rfl) λF=>q7t F T (UH.mono<|by decide);have G15:aO l.prog w K mg base 3 "side_of" ["rows","some"] II:=Lf.has X G (λ_ _ _ _ _ _=>fP λ_ _=>rfl) λF=>q2a F T (UH.mono<|by decide) (LY.mono<|by decide) (G14.mono<|by decide);have G12:aO l.prog w K mg base 1 "odd_points" ["rows","some"] Jd:=Ld.has X G (λ_ _ _ _ _ _=>fP λ_ _=>rfl) λF=>q53 F T;have G13:aO l.prog w K mg base 2 "is_round" ["rows","some"] tj:=zX.has X G (λ_ _ _ _ _ _=>fP λ_ _=>rfl) λF=>q6l F T (G12.mono<|by decide);have G19:aO l.prog w K mg base 4 "is_double" ["rows","some"] Jc:=Ln.has X G (λ_ _ _ _ _ _=>fP λ_ _=>rfl) λF=>q5v F T (G13.mono<|by decide) (G15.mono<|by decide);have LY:aO l.prog w K mg base 1 "spread" ["first","links"] Ke:=AQ.has X G (λ_ _ _ _ _ _=>fP λ_ _=>rfl) λF=>k4h F T;have G20:gG l.prog w K mg base 6 "numbers_by" ["rows","some"] (KA<|jH K):=Lp.Jz X G (λ_ _ _ _ _ _=>fP λ_ _=>rfl) λF=>q4o F T cl (G19.mono<|by decide) (G21.mono<|by decide) (G9.mono<|by decide) (LY.mono<|by decide);have UI:aO l.prog w K mg base 1 "_law_cell_at" ["_law_script","_law_k"] (yK K):=Lv.has X G (λ_ _ _ _ _ _=>fP λ_ _=>rfl) λF=>Y3 F T;have G23:aO l.prog w K mg base 2 "_law_big" ["_law_script","_law_at"] (E8 K):=xf.has X G (λ_ _ _ _ _ _=>fP λ_ _=>rfl) λF=>Y6 F T (UI.mono<|by decide);have G24:aO l.prog w K mg base 1 "_law_names" ["_law_stem","_law_many"] E9:=Lw.has X G (λ_ _ _ _ _ _=>fP λ_ _=>rfl) λF=>Y8 F T;have UK:aO l.prog w K mg base 1 "_law_seats" ["_law_rows"] yL:=Lx.has X G (λ_ _ _ _ _ _=>jw λ_=>rfl) λF=>Y' F T;have G26:aO l.prog w K mg base 1 "_law_other" ["_law_rows","_law_seats_here","_law_end"] FA:=Ly.has X G (λ_ _ _ _ _ _=>uF λ_ _ _=>rfl) λF=>Za F T;have G27:aO l.prog w K mg base 2 "_law_step" ["_law_rows","_law_seats_here","_law_end","_law_turn"] FC:=LA.has X G (λ_ _ _ _ _ _=>DV λ_ _ _ _=>rfl) λF=>Zb F T (G26.mono<|by decide);have G28:aO l.prog w K mg base 3 "_law_face" ["_law_rows","_law_seats_here","_law_end"] FD:=LD.has X G (λ_ _ _ _ _ _=>uF λ_ _ _=>rfl) λF=>Zd F T (G27.mono<|by decide);have G29:aO l.prog w K mg base 4 "_law_put" ["_law_rows","_law_big_here","_law_tie","_law_point"] Gq:=LI.has X G (λ_ _ _ _ _ _=>DV λ_ _ _ _=>rfl) λF=>q7h F T (UK.mono<|by decide) (G28.mono<|by decide);have G30:aO l.prog w K mg base 5 "_law_net_by" ["_law_big_here","_law_most","_law_stem"] GV:=LJ.has X G (λ_ _ _ _ _ _=>uF λ_ _ _=>rfl) λF=>q74 F T (G24.mono<|by decide) (G29.mono<|by decide);have G31:aO l.prog w K mg base 1 "_law_copy" ["_law_rows"] Hj:=LL.has X G (λ_ _ _ _ _ _=>jw λ_=>rfl) λF=>q4j F T;have G32:aO l.prog w K mg base 1 "_law_side" ["_law_rows","_law_seats_here","_law_some"] Jl:=LN.has X G (λ_ _ _ _ _ _=>uF λ_ _ _=>rfl) λF=>k9f F T;have G33:aO l.prog w K mg base 1 "_law_even" ["_law_rows","_law_some"] tj:=LO.has X G (λ_ _ _ _ _ _=>fP λ_ _=>rfl) λF=>q43 F T;have UM:aO l.prog w K mg base 1 "_law_sum" ["_law_one","_law_other_here"] zS:=LU.has X G (λ_ _ _ _ _ _=>fP λ_ _=>rfl) λF=>q19 F T;have G35:aO l.prog w K mg base 1 "_law_core" ["_law_rows","_law_walker"] Jr:=LV.has X G (λ_ _ _ _ _ _=>fP λ_ _=>rfl) λF=>q01 F T;have G36:aO l.prog w K mg base 7 "_law_told" ["_law_rows","_law_some"] KO:=LW.has X G (λ_ _ _ _ _ _=>fP λ_ _=>rfl) λF=>q22 F T cl (G20.mono<|by decide);have G37:aO l.prog w K mg base 8 "_law_right" ["_law_rows","_law_seats_here","_law_cores","_law_some"] KP:=LX.has X G (λ_ _ _ _ _ _=>DV λ_ _ _ _=>rfl) λF=>k84 F T (G36.mono<|by decide) (G33.mono<|by decide) (G32.mono<|by decide) (UM.mono<|by decide);exact q7i F T (UI.mono<|by decide) (G23.mono<|by decide) (G30.mono<|by decide) (G31.mono<|by decide) (UK.mono<|by decide) (UM.mono<|by decide) (G35.mono<|by decide) (UE.mono<|by decide)<|G37.mono<|by decide
def walk{l:PySem.W.OpenLaw}{q:Program}{loose:List Str}{XP:(Str->Option Value)->Heap->Prop}{YP:World->Heap->Prop}{d:DefRec}{K:Params->PySem.W.Frag}(hn:l.most=some 63)(ul:d.params.defaults=[])
  (hY:∀(w:World) (h:Heap),YP w h->(K w.params).In h)
  (F : ∀ (w : World) (mg : Str → Option Value) (fa : Addr) (h : Heap), (K w.params).In h → h.Ns mainGlobals mg → mg d.name = some (.ref fa) →
   ∃ fd:FuncData,(∀(s:Shared) (u:Value),BindsTo s fd ⟨[u],[]⟩ [("_law_script",u)])/\∀ base:Heap,(K w.params).In base->base.Ns mainGlobals mg->aC l.prog w (K w.params) mg base bA 9 fa fd ["_law_script"] (AJ<|K w.params)) :
  PySem.W.WalkO q loose XP YP l.row.toRowW d [] (λf vs=>PySem.call f vs):=
 L2.l9 (n:=63) (k:=9) (x:= "_law_script") (CX:=λ_=>bA) (sp:=λw=>AJ<|K w.params) hn (by decide) ul ⟨rfl,by decide,by decide⟩ hY F (λ_ _ a ns hl _ hS=>⟨a,ns,rfl,hS,hl,λ_=>rfl⟩) λ_ _ _ _ _ z=>z
end Q2
-- see NOTE.md
namespace PySem.W.Fast
def tw8527150983058458530:=()
def tw3527451543416742022:=()
def tw16589590919714907066:=()
def tw12133128887904190014:=()
def tw16390202213180094536:=()
def tw6088584898414273387:=()
def tw4254295432110524080:=()
def tw11432597762463415969:=()
def tw9060988279593073531:=()
def tw13620484075090373962:=()
def tw457579858616786314:=()
def tw566506109394576008:=()
def tw587190362915403596:=()
def tw15466364393995845418:=()
def tw669767142719648745:=()
def tw14293301476333537073:=()
def tw17662211911270472175:=()
def tw16651975311990034201:=()
def tw12631387530113128885:=()
def tw2472572163379761007:=()
def tw3021862627833606554:=()
def tw17837996329130807490:=()
def tw5333194595678593934:=()
def tw38138584904470474:=()
def tw14728043217158710705:=()
def tw2038467522150807472:=()
def tw10684992220129271889:=()
def tw2316774966134871632:=()
def tw10403961223761946011:=()
def tw1048135975864039138:=()
def tw17639639423783442891:=()
def tw15077556078151228513:=()
def tw2268537906691906478:=()
def tw13317133470031077473:=()
def tw7823022064641364892:=()
def tw3548407791659687220:=()
def tw10554520681720663070:=()
def tw15860071741248406120:=()
def tw5294233764631123938:=()
def tw11451050824417559385:=()
def tw3110296621677674985:=()
def tw9024978951766120182:=()
def tw4051880486101753659:=()
def tw5490347177193341722:=()
def tw2792553011646933539:=()
def tw11866412560193364171:=()
def tw11977741671842832411:=()
def tw9717110542058557424:=()
def tw2770217441843286302:=()
def tw17977427129303309428:=()
def tw15097952294767999681:=()
def tw9096508327840568819:=()
def tw15575386704401755171:=()
def tw9461497899849338983:=()
def tw8287599522874676134:=()
def tw4202316693951959884:=()
def tw10781814240379068941:=()
def tw10996130969959230226:=()
def tw9044690208921756922:=()
def tw11187556928724873124:=()
def tw6402038850155249747:=()
def tw12139042708796434887:=()
def tw13740481861451005936:=()
def tw13900587330507779452:=()
def tw11444860961568278681:=()
def tw156109105337577602:=()
def tw10386514471170282823:=()
def tw9920316420335377420:=()
def tw4153657994349429244:=()
def tw17115789823378025405:=()
def tw11616001558268412826:=()
def tw3163603591752473277:=()
def tw8276698961616130157:=()
def tw12283896638710604302:=()
def tw6762004235315672797:=()
def tw9088180916232345798:=()
def tw9529850789999055368:=()
def tw4166581981490006786:=()
def tw214205586988129767:=()
def tw14377342247165679761:=()
def tw918240243311228181:=()
def tw7357660800154777993:=()
def tw10010825142921584301:=()
def tw2549534783395491529:=()
def tw4712512965168833781:=()
def tw12131347506011207780:=()
def tw12150009756356182088:=()
def tw5761754631677684438:=()
def tw11806981321078267309:=()
def tw17252419893450237494:=()
def tw13988599571764081000:=()
def tw13355093319264168111:=()
def tw1222524103455647787:=()
def tw3987660219640972686:=()
def tw11187264427457341975:=()
def tw16950400880909365550:=()
def tw9370589406795947579:=()
def tw4407899088185107450:=()
def tw9517151739650680705:=()
def tw10355558232386453896:=()
def tw9496293750662545650:=()
def tw15084636417697037448:=()
def tw12519752861894820267:=()
def tw10151493347656155321:=()
def tw2302559120877151932:=()
end PySem.W.Fast
open PySem PySem.W PyProof.Rows
set_option maxRecDepth 100000 in
set_option maxHeartbeats 0 in
theorem PySem.Challenge.cw_threewebs_k42_no_doubles_holds : PySem.Challenge.rw_threewebs_k42_no_doubles.Holds := by
 w_on;o_law;k_head;(case hw=>w_witness2)
 k_fill
 refine Q2.walk (l:=PySem.Challenge.rw_threewebs_k42_no_doubles) rfl rfl (λw h Y=>PySem.W.kIn_of Y) ?F
 case F=>
  intro w mg fa h KX G um;refine' Q2.all_mk KX G um ?h1 ?h2 ?h3 ?h4 ?h5 ?h6 ?h7 ?h8 ?h9 ?Lc ?AQ ?Ld ?zX ?Le ?Lf ?Lh ?Li ?Lj ?Ln ?Lp ?Lr ?Lv ?xf ?Lw ?Lx ?Ly ?LA ?LD ?LI ?LJ ?LL ?LN ?LO ?LU ?LV ?LW ?LX ?h0 ?qc ?zz
  case h1 | h2 | h3 | h4 | h5 | h6 | h7 | h8 | h9 | Lc | AQ | Ld | zX | Le | Lf | Lh | Li | Lj | Ln | Lp | Lr | Lv | xf | Lw | Lx | Ly | LA | LD | LI | LJ | LL | LN | LO | LU | LV | LW | LX | h0=>refine' L2.uD ?a ?l ?c ?k;(case a=>k_is);(case l=>k_is);(case c=>k_is);(case k=>k_is)
  case qc=>kernel_rfl
  case zz=>
   refine' List.forall_mem_cons.mpr ⟨?_,?_⟩;k_is
   iterate 15 (refine' List.forall_mem_cons.mpr ⟨?_,?_⟩;k_is)
   exact λx hx=>nomatch hx

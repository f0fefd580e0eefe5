import PyProof.Rows.All
import Wide.All
import OpenK.AllK
import Wide.FinOn
import Lean
import PyProof.EqAt
import PyProof.EqKinds
import PyProof.TupleCall
import KE.KDictLaws
import KE.KDictList
import KE.KDictSum
import KE.KIsAll
import KE.KRevIter
import KE.KSortTup
import KE.KUnpack
import KE.KUnpackStar
import PyProof.AttrMissSeq
import PyProof.CallStr
import PyProof.Conv_int_bool
import PyProof.DictItems
import PyProof.DictIter
import PyProof.DictList
import PyProof.EnumFor
import PyProof.EnumMake
import PyProof.EnumStmt
import PyProof.ExcArgsOwn
import PyProof.ExcAttrAll.ValueError
import PyProof.ExcBaseAll.ValueError
import PyProof.FitsInt
import PyProof.NeKinds
import PyProof.NsDelKeeps
import PyProof.Rows.CatchOwn
import PyProof.Rows.CountFlat
import PyProof.Rows.EnumRows
import PyProof.Rows.FStr
import PyProof.Rows.Range3
import PyProof.Rows.SeqMore
import PyProof.Rows.SortRev
import PyProof.Rows.StrSplitJoin
import PyProof.Rows.StrWeight2
import PyProof.Rows.TupDisplay
import PyProof.RulesTry
import PyProof.SetNew
import PyProof.SetRoads
import PyProof.StationsW
import PyProof.TupleKey
import PyProof.WalkInts
import PyProof.ZipIter
import PySem.Challenge.RW_threewebs_k33_whole_the_other_nets_walke
abbrev BJ:=@PySem.wpAny_bind
abbrev BK:=@PySem.wpAny_pure
abbrev BL:=@if_pos
abbrev BP:=@if_neg
abbrev BR:=@decide_eq_false
abbrev BW:=@decide_eq_true
abbrev BX:=@Ne.symm
abbrev BZ:=@PySem.W.mg_none_of
abbrev CG:=@congrArg
abbrev CJ:=@PySem.wpAny_holding
abbrev CK:=@PySem.wpAny_setState_of
abbrev CN:=@if_false
abbrev CP:=@PySem.wpAny_mono
abbrev CQ:=@of_decide_eq_true
abbrev CT:=@PySem.wpAny_newObj_type
abbrev CV:=@PySem.mem_of_lookup
abbrev CW:=@PySem.Heap.SameBut.update
abbrev CZ:=@if_true
abbrev DG:=@PySem.wpAny_call_entry
abbrev DK:=@Classical.byContradiction
abbrev DN:=@decide_eq_true_eq
abbrev DP:=@PySem.wpAny_setField
abbrev DQ:=@PySem.boot_len
abbrev DR:=@PySem.wpAny_truthy_bool
abbrev DW:=@PySem.wpAny_comprehension_free
abbrev DX:=@PyProof.Rows.callWith_type1
abbrev DY:=@PyProof.Rows.wpS_bind
abbrev EY:=@PySem.wpAny_standAt
abbrev FJ:=@PySem.F.plainAttrs_list
abbrev FN:=@PySem.sizeLine_eq
abbrev FP:=@PySem.tupleKind_room_in1
abbrev FQ:=@PySem.wpAny_typeNameOfWhole_itemiter
abbrev FT:=@PySem.F.slot_dict_itemiterator_next
abbrev FW:=@decide_eq_true_iff
abbrev FZ:=@PySem.wpAny_passesOwn
abbrev GD:=@PySem.wpAny_rule
abbrev GJ:=@PySem.Around.under_plainId
abbrev GK:=@PySem.wpAny_typeNameOf_itemiter
abbrev GQ:=@PySem.F.slot_set_contains
abbrev GX:=@PySem.wpAny_callSpecial?_slot
abbrev GZ:=@PySem.codeAny_builtin
abbrev HD:=@PySem.wpAny_setField_rec
abbrev HF:=@PySem.W.cellsFrom_some
abbrev HJ:=@PySem.Calls.callWith_builtin
abbrev HN:=@PySem.wpAny_of_eq
abbrev HS:=@PyProof.Rows.wpS_pure
abbrev HW:=@or_false
abbrev HX:=@PySem.wpAny_field
abbrev HY:=@PySem.Calls.evalArgs_plain
abbrev IK:=@beq_self_eq_true
abbrev IV:=@PySem.wpAny_specialOf
abbrev IW:=@PySem.wpAny_Call_Name_kw
abbrev JB:=@PySem.wpAny_getItem_list_slice
abbrev JC:=@PySem.wpAny_typeOf
abbrev JD:=@PySem.wpAny_seqItems
abbrev JF:=@decide_eq_false_iff_not
abbrev JG:=@PySem.wpAny_storeSet_of
abbrev JH:=@PySem.wpAny_pyIter_slot
abbrev JK:=@PySem.wpAny_Call_method_late
abbrev JL:=@PySem.wpAny_isOneOf_itemiter
abbrev JM:=@PySem.wpAny_callSpecialUnlessNone?_slot
abbrev JN:=@PySem.W.mg_of
abbrev JQ:=@PySem.wpAny_attempt
abbrev JR:=@PySem.plainId_quiet
abbrev JT:=@PySem.wpAny_askSetting
abbrev JV:=@PySem.builtinLookup_eq_fast
abbrev JW:=@PySem.Obj.isFreed_of_fields
abbrev JX:=@PySem.F.args_dict_itemiterator_next_1
abbrev JZ:=@List.eraseIdx_eq_take_drop_succ
abbrev KC:=@PySem.codeAny_mono
abbrev KD:=@PySem.PassesOwn.never
abbrev KH:=@PyProof.Rows.wpS_forRange
abbrev KJ:=@PySem.F.entry_dict_itemiterator_next
abbrev KN:=@PySem.F.slot_dict_itemiterator_iter
abbrev KQ:=@PySem.wpAny_setEntries_of
abbrev KR:=@PySem.wpAny_fieldsOf
abbrev KY:=@Prod.ext
abbrev KZ:=@dif_pos
abbrev LC:=@List.lookup_append
abbrev LK:=@List.filter_append
abbrev LQ:=@List.zipIdx_append
abbrev LR:=@PySem.F.args_set_contains_2
abbrev MF:=@PyProof.Rows.callWith_type0
abbrev MJ:=@PyProof.Rows.joinParts_cons
abbrev MK:=@PySem.Obj.data_mapFields
abbrev MN:=@PySem.evalPart_some
abbrev MP:=@PySem.wpAny_newList
abbrev NK:=@List.Pairwise.map
abbrev NQ:=@PySem.wpAny_dictEntries
abbrev NZ:=@PyProof.Rows.Subscript_
abbrev OD:=@PySem.call_meets
abbrev OJ:=@beq_iff_eq
abbrev PB:=@PySem.strKind_is
abbrev PJ:=@List.exists_mem_of_ne_nil
abbrev PK:=@PySem.wpAny_isInstance
abbrev PL:=@PyProof.Rows.boot_sorted
abbrev PN:=@PySem.F.slot_list_insert
abbrev PX:=@PySem.F.type_list_insert
abbrev QB:=@PySem.wpAny_runOwn
abbrev QC:=@List.filter_cons
abbrev QD:=@Nat.sub_self
abbrev QF:=@PySem.wpAny_forIn_list
abbrev QG:=@PySem.wpAny_execs_nil
abbrev QJ:=@List.of_mem_zip
abbrev QK:=@List.forIn_cons
abbrev QL:=@PySem.codeAny_of_tree
abbrev QM:=@PySem.typeLookup_type
abbrev QS:=@List.count_cons
abbrev QT:=@PySem.wpAny_dictEpoch
abbrev QV:=@List.nil_append
abbrev QW:=@List.getElem?_set_self
abbrev QX:=@PyProof.noPylong_small
abbrev QZ:=@Nat.le_succ
abbrev RB:=@List.drop_of_length_le
abbrev RD:=@PySem.F.plainAttrs_set
abbrev RG:=@Bool.and_false
abbrev RJ:=@List.getElem?_toArray
abbrev RK:=@List.length_filter_le
abbrev RL:=@PyProof.Rows.boot_int
abbrev RM:=@PyProof.Rows.boot_max
abbrev RN:=@PySem.F.slot_list_pop
abbrev RP:=@PySem.F.type_list_pop
abbrev RQ:=@PySem.F.plain_set_new
abbrev RT:=@PyProof.Rows.boot_set
abbrev RV:=@PySem.ofString_length
abbrev RW:=@List.getElem?_reverse
abbrev RX:=@Nat.lt_trans
abbrev RZ:=@Nat.add_zero
abbrev SJ:=@Nat.add_comm
theorem Z0:0<=PySem.sizeLine:=by decide
theorem Z2:2<=PySem.sizeLine:=by decide
theorem Z1:1<=PySem.sizeLine:=by decide
set_option Elab.async false
set_option linter.all false
set_option maxRecDepth 100000
set_option maxHeartbeats 4000000
abbrev Aa:=@List.length_map
abbrev Ab:=@List.getElem?_eq_getElem
abbrev Ac:=@List.getElem?_eq_some_iff
abbrev Ad:=@List.getElem?_map
abbrev Ae:=@PySem.Heap.get?_push_of_some
abbrev Af:=@List.length_append
abbrev Ag:=@Nat.le_refl
abbrev Ah:=@List.mem_singleton
abbrev Ai:=@List.map_append
abbrev Aj:=@List.mem_map
abbrev Ak:=@List.mem_cons_of_mem
abbrev Al:=@List.mem_of_getElem?
abbrev Am:=@List.mem_cons
abbrev An:=@PySem.Heap.get?_push_size
abbrev Ao:=@Bool.false_ne_true
abbrev Ap:=@List.size_toArray
abbrev Aq:=@List.mem_append
abbrev Ar:=@PySem.Heap.lt_size
abbrev As:=@List.mem_cons_self
abbrev At:=@List.getElem?_append_left
abbrev Au:=@List.getElem?_append_right
abbrev Av:=@Bool.false_eq_true
abbrev Aw:=@List.append_assoc
abbrev Ax:=@Option.map_eq_some_iff
abbrev Ay:=@List.getElem?_eq_none
abbrev Az:=@List.mem_append_right
abbrev Ba:=@Int.toNat_natCast
abbrev Bb:=@List.map_cons
abbrev Bc:=@List.mem_range
abbrev Bd:=@List.pairwise_iff_getElem
abbrev Be:=@Nat.zero_le
abbrev Bf:=@List.length_eq_zero_iff
abbrev Bg:=@Array.getElem?_toList
abbrev Bh:=@List.append_nil
abbrev Bi:=@List.length_take
abbrev Bj:=@List.length_cons
abbrev Bk:=@Nat.lt_of_lt_of_le
abbrev Bl:=@List.mem_append_left
abbrev Bm:=@List.length_drop
abbrev Bn:=@Int.emod_nonneg
abbrev Bo:=@List.nodup_iff_pairwise_ne
abbrev Bp:=@Nat.ne_of_lt
abbrev Bq:=@Array.getElem?_eq_getElem
abbrev Br:=@Bool.and_eq_true
abbrev Bs:=@List.nodup_cons
abbrev Bt:=@List.getElem?_of_mem
abbrev Bu:=@Int.emod_lt_of_pos
abbrev Bv:=@List.map_map
abbrev Bw:=@List.nodup_nil
abbrev Bx:=@PySem.Heap.get?_update_other
abbrev By:=@List.flatMap_cons
abbrev Bz:=@Nat.le_trans
abbrev Ca:=@List.take_length
abbrev Cb:=@Nat.lt_succ_of_lt
abbrev Cc:=@Nat.lt_or_ge
abbrev Cd:=@List.take_of_length_le
abbrev Ce:=@List.take_add_one
abbrev Cf:=@PySem.Heap.get?_update_self
abbrev Cg:=@Nat.not_lt_zero
abbrev Ch:=@Nat.lt_irrefl
abbrev Ci:=@List.not_mem_nil
abbrev Cj:=@List.length_range
abbrev Ck:=@List.ext_getElem?
abbrev Cm:=@Nat.mod_two_eq_zero_or_one
abbrev Cn:=@Array.getElem?_eq_none
abbrev Co:=@Array.length_toList
abbrev Cp:=@List.nodup_append
abbrev Cq:=@Nat.ne_of_gt
abbrev Cr:=@Nat.zero_add
abbrev Cs:=@List.getElem?_drop
abbrev Ct:=@List.lookup_cons
abbrev Cu:=@List.getElem_mem
abbrev Cv:=@Nat.mod_eq_of_lt
abbrev Cw:=@PySem.Heap.size_push
abbrev Cy:=@List.filterMap_cons
abbrev Cz:=@Bool.eq_iff_iff
abbrev Da:=@List.take_append_drop
abbrev Db:=@Nat.mod_lt
abbrev Dc:=@List.getElem?_take_of_lt
abbrev Dd:=@Int.zero_add
abbrev De:=@List.pairwise_map
abbrev Dg:=@Nat.lt_trichotomy
abbrev Dh:=@List.mem_filter
abbrev Di:=@List.foldl_cons
abbrev Dj:=@List.length_pos_iff
abbrev Dk:=@List.getElem?_range
abbrev Dl:=@Array.getD_eq_getD_getElem?
abbrev Dm:=@Bool.not_true
abbrev Dn:=@List.getElem_map
abbrev Do:=@List.length_singleton
abbrev Dp:=@List.perm_append_comm
abbrev Dq:=@Nat.le_of_succ_le
abbrev Dr:=@Nat.succ_pos
abbrev Ds:=@Bool.eq_false_iff
abbrev Dt:=@List.length_eraseIdx
abbrev Du:=@Option.isSome_iff_exists
abbrev Dv:=@List.flatMap_append
abbrev Dw:=@List.length_reverse
abbrev Dx:=@List.getElem?_replicate
abbrev Dy:=@List.all_eq_true
abbrev Dz:=@List.nodup_range
abbrev Eb:=@List.getElem_range
abbrev Ec:=@Nat.mod_self
abbrev Ed:=@List.count_pos_iff
abbrev Ee:=@List.find?_cons
abbrev Ef:=@Array.getElem?_setIfInBounds
abbrev Eh:=@List.length_replicate
abbrev Ej:=@List.mem_zipIdx_iff_le_and_getElem?_sub
abbrev Ek:=@Array.getElem?_eq_some_iff
abbrev El:=@Nat.lt_succ_self
abbrev Em:=@List.isEmpty_nil
abbrev Ep:=@Option.getD_some
abbrev Er:=@List.drop_eq_getElem_cons
abbrev Es:=@List.map_congr_left
abbrev Eu:=@List.any_cons
abbrev Ex:=@Array.getElem?_replicate
abbrev Ey:=@List.map_drop
abbrev Ez:=@List.mem_of_mem_eraseIdx
abbrev Fa:=@List.length_nil
abbrev Fb:=@List.range_succ
abbrev Fc:=@List.mem_filterMap
abbrev Fd:=@Nat.sub_zero
abbrev Fe:=@List.contains_iff_mem
abbrev Ff:=@List.getElem_inj
abbrev Fg:=@List.map_take
abbrev Fh:=@Nat.one_pos
abbrev Fi:=@List.getElem?_modify
abbrev Fj:=@List.mem_iff_getElem
abbrev Fk:=@PySem.Heap.get?_push_cases
abbrev Fl:=@List.pairwise_append
abbrev Fm:=@Option.map_some
abbrev Fn:=@Nat.le_of_lt
abbrev Fo:=@Bool.not_false
abbrev Fp:=@List.all_cons
namespace L2
open PySem PySem.Spec PyProof.Rows
abbrev Key:=Sum Int Str
def n9:Key->Value->Bool
 | .inl k,v=>Value.isInt k v
 | .inr x,v=>Value.isStrOf x v
def w9(w:World):Key->Int
 | .inl k=>hashInt k
 | .inr x=>hashStr w x
theorem iZ:∀{k:Key} {v:Value},n9 k v=true->(∃ i t,k=Sum.inl i/\v=Value.int i t)\/(∃ x t,k=Sum.inr x/\v=Value.str x t)
 | .inl i,v,h=>by
  obtain⟨t,e⟩:=Value.isInt_shape (k:=i) (v:=v) h;exact .inl ⟨i,t,rfl,e⟩
 | .inr x,v,h=>by
  obtain⟨t,e⟩:=Value.isStrOf_shape (x:=x) (v:=v) h;exact .inr ⟨x,t,rfl,e⟩
theorem N0(i:Int)(t:Tok):n9 (.inl i) (.int i t)=true:=by simp [n9,Value.isInt]
theorem N2(x:Str)(t:Tok):n9 (.inr x) (.str x t)=true:=by simp [n9,Value.isStrOf]
theorem N3(a b:Int):decide ((Sum.inl a:Key)=Sum.inl b)=(a == b):=by
 by_cases e:a=b
 ·subst e;simp
 ·have h:¬(Sum.inl a:Key)=Sum.inl b:=λq=>e<|Sum.inl.inj q;rw [BR h];exact(beq_eq_false_iff_ne.mpr e).symm
theorem N4(a b:Str):decide ((Sum.inr a:Key)=Sum.inr b)=decide (a=b):=by
 by_cases e:a=b
 ·subst e;simp
 ·have h:¬(Sum.inr a:Key)=Sum.inr b:=λq=>e<|Sum.inr.inj q;rw [BR h,BR e]
theorem N5(a:Int)(b:Str):decide ((Sum.inl a:Key)=Sum.inr b)=false:=BR λq=>nomatch q
theorem N6(a:Str)(b:Int):decide ((Sum.inr a:Key)=Sum.inl b)=false:=BR λq=>nomatch q
def bz(prog:Program)(w:World):PySem.KeyKind prog w Key where
 is:=n9
 hash:=w9 w
 inj:=λv a b ha hb=>by
  rcases iZ ha with ⟨i,t,rfl,rfl⟩ | ⟨x,t,rfl,rfl⟩
  ·rcases iZ hb with ⟨j,u,rfl,e⟩ | ⟨y,u,rfl,e⟩
   ·injection e with e1 _;rw [e1]
   ·exact nomatch e
  ·rcases iZ hb with ⟨j,u,rfl,e⟩ | ⟨y,u,rfl,e⟩
   ·exact nomatch e
   ·injection e with e1 _;rw [e1]
 byValue:=λk v h=>by
  rcases iZ h with ⟨i,t,rfl,rfl⟩ | ⟨x,t,rfl,rfl⟩ <;> rfl
 pyHash:=λhv h=>by
  rcases iZ hv with ⟨i,t,rfl,rfl⟩ | ⟨x,t,rfl,rfl⟩
  ·exact wpAny_pyHash_int h
  ·exact wpAny_pyHash_str h
 eqBool:=λhu hv h=>by
  rcases iZ hu with ⟨i,t,rfl,rfl⟩ | ⟨x,t,rfl,rfl⟩
  ·rcases iZ hv with ⟨j,u,rfl,rfl⟩ | ⟨y,u,rfl,rfl⟩
   ·rw [N3] at h;exact wpAny_eqBool_int h
   ·rw [N5] at h;exact SeqAt.EqAt.int_str i t y u _ _ _ _ h
  ·rcases iZ hv with ⟨j,u,rfl,rfl⟩ | ⟨y,u,rfl,rfl⟩
   ·rw [N6] at h;exact SeqAt.EqAt.str_int x t j u _ _ _ _ h
   ·rw [N4] at h;exact wpAny_eqBool_str h
 «strs»:=λk x t v h=>by
  rcases iZ h with ⟨i,u,rfl,e⟩ | ⟨y,u,rfl,e⟩
  ·exact nomatch e
  ·injection e with e1 _
   subst e1;cases v <;> rfl
theorem N7(prog:Program)(w:World)(i:Int)(t:Tok):(bz prog w).is (.inl i) (.int i t)=true:=N0 i t
theorem N8(prog:Program)(w:World)(x:Str)(t:Tok):(bz prog w).is (.inr x) (.str x t)=true:=N2 x t
inductive V where
 | non | bl (b:Bool) | int (i:Int) | str (x:Str) | gl (b:Array UInt8) | xa (b:UInt64) | ref (a:Addr) | ty (n:String)
 deriving DecidableEq
def RelV:V->Value->Prop
 | .non,u=>u=Value.none
 | .bl b,u=>u=Value.bool b
 | .int i,u=>∃ t,u=Value.int i t
 | .str x,u=>∃ t,u=Value.str x t
 | .gl b,u=>∃ t,u=Value.bytes b t
 | .xa b,u=>∃ t,u=Value.float b t
 | .ref a,u=>u=Value.ref a
 | .ty n,u=>u=Value.type n
abbrev aq:List V->List Value->Prop:=Paired RelV
theorem aq.length{xs:List V}{us:List Value}(r:aq xs us):xs.length=us.length:=Paired.length r
theorem aq.get:∀{xs:List V} {us:List Value} {i:Nat} {x:V},aq xs us->xs[i]?=some x->∃ u,us[i]?=some u/\RelV x u
 | _,_,_,_,.nil,e=>by simp at e
 | _,_,0,_,.cons r _,e=>by simp at e;subst e;exact⟨_,rfl,r⟩
 | _,_,i+1,x,.cons _ t,e=>by
  obtain⟨u,h1,h2⟩:=aq.get (i:=i) (x:=x) t (by simpa using e);exact⟨u,by simpa using h1,h2⟩
theorem aq.set{x:V}{u:Value}(r:RelV x u):∀{xs:List V} {us:List Value} (i:Nat),aq xs us->aq (xs.set i x) (us.set i u)
 | _,_,_,.nil=> .nil
 | _,_,0,.cons _ t=> .cons r t
 | _,_,i+1,.cons q t=> .cons q<|aq.set r i t
theorem aq.append:∀{xs ys:List V} {us ws:List Value},aq xs us->aq ys ws->aq (xs++ys) (us++ws)
 | _,_,_,_,.nil,s=>s
 | _,_,_,_,.cons r t,s=> .cons r<|aq.append t s
theorem aq.take:∀{xs:List V} {us:List Value} (n:Nat),aq xs us->aq (xs.take n) (us.take n)
 | _,_,0,_=> .nil
 | _,_,_+1,.nil=> .nil
 | _,_,n+1,.cons r t=> .cons r<|aq.take n t
theorem aq.drop:∀{xs:List V} {us:List Value} (n:Nat),aq xs us->aq (xs.drop n) (us.drop n)
 | _,_,0,r=>r
 | _,_,_+1,.nil=> .nil
 | _,_,n+1,.cons _ t=>aq.drop n t
def db:Option V->Option Value->Prop
 | some v,some u=>RelV v u
 | none,none=>True
 | _,_=>False
def KV{κ:Type}:List (κ×V)->List (κ×Value)->Prop:=Paired λ(p:κ×V) (q:κ×Value)=>p.1=q.1/\RelV p.2 q.2
def kV:Key->V
 | .inl i=> .int i
 | .inr x=> .str x
inductive HO where
 | lst (xs:List V)
 | tup (xs:List V)
 | dK (kvs:List<|Key×V) | dT (kvs:List<|List Key×V)
 | set (S:Int->Bool) (n:Nat)
 | ins (C dx:Addr) (fs:List<|Str×V)
 | own (x:Addr)
 | xd (fs:List<|Str×V)
 | met (f x:Addr)
 | uj (lo hi:Int)
 | bN (o:Obj) (u:HO)
 | kg (ps:Array Value)
 | ext (φ:Heap->Prop)
abbrev Hp:=Addr->Option HO
def upd(H:Hp)(a:Addr)(o:HO):Hp:=λb=>if b=a then some o else H b
theorem ax{H:Hp}{a:Addr}{o:HO}:upd H a o a=some o:=by unfold upd;rw [BL rfl]
theorem au{H:Hp}{a b:Addr}{o:HO}(h:b≠a):upd H a o b=H b:=by unfold upd;rw [BP h]
theorem N9{H:Hp}{a:Addr}{o u:HO}:upd (upd H a o) a u=upd H a u:=by
 funext b;unfold upd;split <;> rfl
theorem bO{H:Hp}{a b:Addr}{o u:HO}(h:H a=some o)(h':H b=some u)(d:o≠u):a≠b:=by
 intro e;subst e;rw [h] at h';exact d<|Option.some.inj h'
theorem a9{H:Hp}{a b:Addr}{o:HO}(h:H a=some o)(h':H b=none):a≠b:=by
 intro e;subst e;rw [h] at h';cases h'
section
variable(P:Program)(w:World)
def az(H:Hp)(h:Heap)(a:Addr):HO->Prop
 | .lst xs=>xs.length<=sizeLine/\∃(its:List Value) (n:Nat),aq xs its/\h.get? a=some {cls:= .type "list",data:= .seq its.toArray n}
 | .tup xs=>xs.length<=sizeLine/\∃ its:List Value,aq xs its/\IsTup h a its.toArray
 | .dK kvs=>kvs.length<=sizeLine/\(a == sysModules)=false/\∃ vs,KV kvs vs/\h.DictOf (bz P w) a vs
 | .dT kvs=>kvs.length<=sizeLine/\(a == sysModules)=false/\∃ xs:List<|List Key×Addr×Value,
   Paired (λ(p:List Key×V) (q:List Key×Addr×Value)=>p.1=q.1/\H q.2.1=some (.tup<|p.1.map kV)/\RelV p.2 q.2.2) kvs xs /\
   ∃ o es ep,h.get? a=some o/\o.ExactDict/\o.data = .dict es ep/\es.toList=xs.map (entryOfKey<|tupleKind<|bz P w)/\(xs.map (·.1)).Nodup
 | .set S n=>h.SetOf (intKind P w) a S n
 | .ins C dx fs=>H dx=some (.own a)/\fs.length<=1000/\dx≠a/\h.get? a=some (PySem.W.instObj C dx) /\
   ∃ mA,h.Ns1 dx mA/\(∀ f,db (fs.lookup f)<|mA f)/\PySem.Within mA (fs.map (·.1))
 | .own _=>∃ o,h.get? a=some o
 | .xd fs=>∃ mA,h.Ns1 a mA/\∀ f,db (fs.lookup f)<|mA f
 | .uj lo hi=>∃ t u v,h.get? a=some {cls:= .type "range",data:= .fields #[.int lo t,.int hi u,.int 1 v]}
 | .bN o u=>h.get? a=some o/\az H h a u
 | .kg ps=>h.get? a=some {cls:= .none,data:= .fields ps}
 | .met f x=>h.get? a=some (PySem.W.methodObj (.ref f)<|.ref x)
 | .ext φ=>φ h/\(∃ o,h.get? a=some o)/\∀ h1 h2:Heap,φ h1->(∀ o,h1.get? a=some o->h2.get? a=some o)->φ h2
def bQ(H:Hp)(h:Heap):Prop:=∀ a o,H a=some o->az P w H h a o
end
section
variable{P:Program}{w:World}{H H':Hp}{h h':Heap}{a:Addr}{o:HO}
theorem az.lt(x:az P w H h a o):a < h.objs.size:=by
 cases o with
 | lst xs=>obtain⟨_,_,_,_,e⟩:=x;exact Ar e
 | tup xs=>obtain⟨_,_,_,p⟩:=x;exact p.lt
 | dK kvs=>obtain⟨_,_,_,_,o,_,_,e,_⟩:=x;exact Ar e
 | dT kvs=>obtain⟨_,_,_,_,o,_,_,e,_⟩:=x;exact Ar e
 | set S n=>obtain⟨o,_,_,_,e,_⟩:=x;exact Ar e
 | ins C dx fs=>obtain⟨_,_,_,e,_⟩:=x;exact Ar e
 | own y=>obtain⟨_,e⟩:=x;exact Ar e
 | xd fs=>obtain⟨_,⟨_,_,_,e,_⟩,_⟩:=x;exact Ar e
 | uj lo hi=>obtain⟨_,_,_,e⟩:=x;exact Ar e
 | bN ob u=>obtain⟨e,_⟩:=x;exact Ar e
 | kg ps=>exact Ar (show h.get? a=some _ from x)
 | met f y=>exact Ar (show h.get? a=some _ from x)
 | ext φ=>obtain⟨_,⟨_,e⟩,_⟩:=x;exact Ar e
theorem Paired.lT{α β:Type}{F G:α->β->Prop}:∀{l₁:List α} {l₂:List β},Paired F l₁ l₂->(∀ a b,F a b->G a b)->Paired G l₁ l₂
 | _,_,.nil,_=> .nil
 | _,_,.cons r t,f=> .cons (f _ _ r)<|Paired.lT t f
theorem az.fk(x:az P w H h a o)(k:∀ b u,(b=a\/H b=some (.own a))->h.get? b=some u->h'.get? b=some u)
  (ho:∀ b,H b=some (.own a)->H' b=some (.own a)) (ht:∀ b xs,H b=some (.tup xs)->H' b=some (.tup xs)):az P w H' h' a o:=by
 induction o with
 | lst xs=>obtain⟨z,its,n,r,e⟩:=x;exact⟨z,its,n,r,k _ _ (.inl rfl) e⟩
 | tup xs=>obtain⟨z,its,r,ob,e,c⟩:=x;exact⟨z,its,r,ob,k _ _ (.inl rfl) e,c⟩
 | dK kvs=>obtain⟨z,y,vs,r,ob,es,ep,e,c⟩:=x;exact⟨z,y,vs,r,ob,es,ep,k _ _ (.inl rfl) e,c⟩
 | dT kvs=>
  obtain⟨z,y,xs,r,ob,es,ep,e,c⟩:=x;exact⟨z,y,xs,Paired.lT r λp q z=>⟨z.1,ht _ _ z.2.1,z.2.2⟩,ob,es,ep,k _ _ (.inl rfl) e,c⟩
 | set S n=>obtain⟨ob,es,ep,t,e,c⟩:=x;exact⟨ob,es,ep,t,k _ _ (.inl rfl) e,c⟩
 | ins C dx fs=>
  obtain⟨d,z,ne,e,mA,⟨od,es,ep,e2,c⟩,r⟩:=x;exact⟨ho _ d,z,ne,k _ _ (.inl rfl) e,mA,⟨od,es,ep,k _ _ (.inr d) e2,c⟩,r⟩
 | own y=>obtain⟨ob,e⟩:=x;exact⟨ob,k _ _ (.inl rfl) e⟩
 | xd fs=>obtain⟨mA,⟨od,es,ep,e,c⟩,r⟩:=x;exact⟨mA,⟨od,es,ep,k _ _ (.inl rfl) e,c⟩,r⟩
 | uj lo hi=>obtain⟨t,u,v,e⟩:=x;exact⟨t,u,v,k _ _ (.inl rfl) e⟩
 | bN ob u ih=>obtain⟨e,q⟩:=x;exact⟨k _ _ (.inl rfl) e,ih q⟩
 | kg ps=>
  have e:h.get? a=some {cls:= .none,data:= .fields ps}:=x;show h'.get? a=some {cls:= .none,data:= .fields ps};exact k a _ (.inl rfl) e
 | met f y=>
  have e:h.get? a=some (PySem.W.methodObj (.ref f)<|.ref y):=x;show h'.get? a=some (PySem.W.methodObj (.ref f)<|.ref y);exact k a _ (.inl rfl) e
 | ext φ=>obtain⟨p,⟨o,e⟩,st⟩:=x;exact⟨st _ _ p λo q=>k _ _ (.inl rfl) q,⟨o,k _ _ (.inl rfl) e⟩,st⟩
theorem bQ.lt(x:bQ P w H h)(e:H a=some o):a < h.objs.size:=(x a o e).lt
theorem bQ.fresh(x:bQ P w H h)(e:h.objs.size<=a):H a=none:=by
 cases q:H a with
 | none=>rfl
 | some u=>exact absurd (Bk (x.lt q) e)<|Ch _
theorem bQ.kept(x:bQ P w H h)(k:∀ b u,h.get? b=some u->h'.get? b=some u):bQ P w H h':=λa o e=>
 (x a o e).fk (λb u _ q=>k b u q) (λ_ q=>q) λ_ _ q=>q
theorem bQ.laid(x:bQ P w H h)(k:∀ b u,h.get? b=some u->h'.get? b=some u)(hp:h.objs.size<=a)(new:az P w (upd H a o) h' a o):bQ P w (upd H a o) h':=λb u e=>by
 have hn:=x.fresh hp
 by_cases hb:b=a
 ·subst hb;rw [ax] at e;cases e;exact new
 ·rw [au hb] at e;exact(x b u e).fk (λc v _ q=>k c v q) (λc q=>by rw [au<|a9 q hn];exact q) λc xs q=>by rw [au<|a9 q hn];exact q
end
def Rd(H:Hp)(a:Addr)(u:HO):Prop:=H a=some u\/∃ o,H a=some (.bN o u)
theorem Rd.ok{P:Program}{w:World}{H:Hp}{h:Heap}{a:Addr}{u:HO}(r:Rd H a u)(x:bQ P w H h):az P w H h a u:=by
 rcases r with r | ⟨o,r⟩
 ·exact x a u r
 ·obtain⟨_,q⟩:=x a _ r;exact q
def pT:Option HO->Prop
 | some (.lst _)=>True
 | some (.dK _)=>True
 | some (.dT _)=>True
 | some (.set _ _)=>True
 | some (.ins _ _ _)=>True
 | some (.ext _)=>True
 | _=>False
section
variable{P:Program}{w:World}{H:Hp}{h h':Heap}{x e:Addr}{o':HO}
theorem bQ.write(ok:bQ P w H h)(mu:pT<|H x)(he:e=x\/H e=some (.own x))(k:∀ b u,b≠e->h.get? b=some u->h'.get? b=some u)(oa:∃ u,h'.get? e=some u)
  (new:az P w (upd H x o') h' x o'):bQ P w (upd H x o') h':=λb u q=>by
 have pU:∀ c y,H c=some (.own y)->c≠x:=λc y r z=>by subst z;rw [r] at mu;exact mu
 have xc:∀ c xs,H c=some (.tup xs)->c≠x:=λc xs r z=>by subst z;rw [r] at mu;exact mu
 by_cases hb:b=x
 ·subst hb;rw [ax] at q;cases q;exact new
 ·rw [au hb] at q
  by_cases gT:b=e
  ·have q':H b=some (.own x):=by
    rcases he with z | z
    ·exact absurd (gT.trans z) hb
    ·rw [gT];exact z
   rw [q] at q';cases q';obtain⟨v,hv⟩:=oa;exact⟨v,by rw [gT];exact hv⟩
  ·refine(ok b u q).fk (λc v hc r=>k c v ?_ r) (λc r=>by rw [au<|pU c b r];exact r) λc xs r=>by rw [au<|xc c xs r];exact r
   rcases hc with rfl | hc
   ·exact gT
   ·rintro rfl
    rcases he with z | z
    ·exact pU c b hc z
    ·rw [hc] at z;cases z;exact hb rfl
end
structure Un(fs ex:List Addr)(H H':Hp)(h h':Heap):Prop where
 keep:∀ b o,h.get? b=some o->H b=none->b∉fs->b∉ex->h'.get? b=some o
 slot:∀ b o,h.get? b=some o->H b=none->b∈fs->b∉ex->∃ sl,h'.get? b=some {o with slots:=sl}
 free:∀ b o,h.get? b=some o->H b=none->b∉ex->H' b=none
 there:∀ b o,h.get? b=some o->b∉ex->∃ o',h'.get? b=some o'
 dB:∀ b xs,H b=some (.tup xs)->H' b=some (.tup xs)
 de:∀ b o u,H b=some (.bN o u)->H' b=some (.bN o u)
 dC:∀ b ps,H b=some (.kg ps)->∃ more,H' b=some (.kg<|ps++more)
section
variable{fs Oa ex Fx:List Addr}{H H1 H2:Hp}{h h1 h2 h':Heap}{a x e:Addr}{o:HO}
theorem Un.any(u:Un fs ex H H1 h h1){b:Addr}{ob:Obj}(q:h.get? b=some ob)(n:H b=none)(hx:b∉ex):∃ sl,h1.get? b=some {ob with slots:=sl}:=by
 by_cases hb:b∈fs
 ·exact u.slot b ob q n hb hx
 ·exact⟨ob.slots,u.keep b ob q n hb hx⟩
theorem Un.kept(k:∀ b u,h.get? b=some u->h'.get? b=some u):Un fs ex H H h h':=
 ⟨λb ob q _ _ _=>k b ob q,λb ob q _ _ _=>⟨ob.slots,k b ob q⟩,λ_ _ _ n _=>n,λb ob q _=>⟨ob,k b ob q⟩,λ_ _ q=>q,λ_ _ _ q=>q,λ_ ps q=>⟨#[],by rw [q];simp⟩⟩
theorem Un.refl:Un fs ex H H h h:=Un.kept λ_ _ q=>q
theorem Un.laid(k:∀ b u,h.get? b=some u->h'.get? b=some u)(hp:h.objs.size<=a)(hn:H a=none):Un fs ex H (upd H a o) h h' where
 keep:=λb u q _ _ _=>k b u q
 slot:=λb u q _ _ _=>⟨u.slots,k b u q⟩
 free:=λb u q n _=>by rw [au<|Bp<|Bk (Ar q) hp];exact n
 there:=λb u q _=>⟨u,k b u q⟩
 dB:=λb xs q=>by rw [au<|a9 q hn];exact q
 de:=λb u xs q=>by rw [au<|a9 q hn];exact q
 dC:=λb ps q=>⟨#[],by rw [au<|a9 q hn,q];simp⟩
theorem Un.write(mu:pT<|H x)(he:e=x\/H e=some (.own x))(k:∀ b u,b≠e->h.get? b=some u->h'.get? b=some u)(oa:∃ u,h'.get? e=some u):Un fs ex H (upd H x o) h h':=by
 have hx:∀ b,H b=none->b≠x:=λb n z=>by subst z;rw [n] at mu;exact mu
 have hb:∀ b,H b=none->b≠e:=λb n z=>by
  subst z
  rcases he with r | r
  ·exact hx b n r
  ·rw [n] at r;cases r
 have hm:∀ b u,H b=some u->¬ pT (some u)->b≠x:=λb u q nm z=>by subst z;rw [q] at mu;exact nm mu
 refine⟨λb u q n _ _=>k b u (hb b n) q,λb u q n _ _=>⟨u.slots,k b u (hb b n) q⟩,λb u q n _=>by rw [au<|hx b n];exact n,λb u q _=>?_,
  λb xs q=>by rw [au<|hm b _ q λz=>z];exact q,λb u xs q=>by rw [au<|hm b _ q λz=>z];exact q,λb ps q=>⟨#[],by rw [au<|hm b _ q λz=>z,q];simp⟩⟩
 by_cases gT:b=e
 ·subst gT;exact oa
 ·exact⟨u,k b u gT q⟩
end
def uk(h:Heap)(H:Hp):List Addr:=(List.range h.objs.size).filter λa=>(H a).isSome
def dD(h:Heap)(H:Hp):Heap:=PySem.W.hideAll h<|uk h H
theorem Ob(h:Heap)(H:Hp):(dD h H).objs.size=h.objs.size:=PySem.W.hideAll_size _ _
theorem Oc{h:Heap}{H:Hp}{b:Addr}{o:Obj}(e:h.get? b=some o)(n:H b=none):(dD h H).get? b=some o:=
 PySem.W.hideAll_get _ e λhm=>by
  have q:(H b).isSome=true:=(Dh.mp hm).2;rw [n] at q;simp at q
theorem Od{h:Heap}{H:Hp}{b:Addr}{o:Obj}(e:(dD h H).get? b=some o):h.get? b=some o/\H b=none:=by
 have e':h.get? b=some o:=PySem.W.of_hideAll (uk h H) e;refine⟨e',?_⟩;cases q:H b with
 | none=>rfl
 | some x=>
  have hm:b∈uk h H:=Dh.mpr ⟨Bc.mpr<|Ar e',by simp [q]⟩;have z:(dD h H).get? b=none:=PySem.W.hideAll_none (uk h H) hm;rw [z] at e;cases e
structure Mod(K:PySem.W.Frag)(mg:Str->Option Value)(base:Heap):Prop where
 og:K.In base
 glob:base.Ns mainGlobals mg
 blt:∃ mb,base.Ns builtinsNs mb/\∀ x:Str,x ≠ "__name__"->mb x=bootBuiltins x
 nolimit:base.NoLimit
structure Cx where
 prog:Program
 w:World
 K:PySem.W.Frag
 mg:Str->Option Value
 base:Heap
 A:Around
 N:List Str
 s₀:Shared
 H₀:Hp
 env:Env
 outer:List Env
 stack:List Env
 ex:List Addr
 fn:Str->Bool
 calm:Bool
 pn:List<|Addr×Obj
 xe:Value->Shared->Prop
def df(l:List Env):List Addr:=l.filterMap (·.frame)
abbrev Cx.fs(X:Cx):List Addr:=df X.outer
def xf(sc:Scope)(x:Str):Prop:=sc.names.lookup x=some .local\/sc.names.lookup x=some .cell\/sc.names.lookup x=some .free
def Loc(sc:Scope)(x:Str):Prop:=sc.names.lookup x=some .local\/sc.names.lookup x=some .cell
def Look(env:Env)(h:Heap)(m:Str->Option Value)(x:Str)(u:Value):Prop:=
 (env.kindOf x=some .local/\m x=some u)\/((env.kindOf x=some .cell\/env.kindOf x=some .free)/\∃ c,env.cells.lookup x=some c/\h.IsCell c (some u))
structure Cx.Ok(X:Cx):Prop where
 mod:Mod X.K X.mg X.base
 kind:X.env.scope.kind = .function
 glob:X.env.globals=mainGlobals
 blt:X.env.builtins=builtinsNs
 above:X.s₀.heap.objs.size<=X.env.locals
 inj:∀ x y c,X.env.cells.lookup x=some c->X.env.cells.lookup y=some c->x=y
 has:∀ x,(X.env.kindOf x=some .cell\/X.env.kindOf x=some .free)->∃ c,X.env.cells.lookup x=some c
 pV:∀ x c,X.fn x=true->X.env.cells.lookup x=some c->X.s₀.heap.objs.size<=c
 hd:X.calm=true->X.A.handled=none
 frames:X.A.frames=some X.stack
 ul:X.stack=X.outer\/(X.stack=X.env :: X.outer/\X.env.frame=some X.env.locals)
 Fy:∀ b∈X.ex,b≠X.env.locals/\∀ x c,X.env.cells.lookup x=some c->c≠b
 bs:∀ b o,X.base.get? b=some o->X.s₀.heap.get? b=some o/\X.H₀ b=none
 kh:X.base.objs.size<=X.s₀.heap.objs.size
 ig:∀ b o,X.base.get? b=some o->b∉X.ex
 jt:∀ b∈X.ex,b∉X.fs
 cS:X.s₀.heap.FunFrames X.base X.outer
 oh:∀ b∈X.fs,X.H₀ b=none
structure Inv(X:Cx)(pins:List<|Addr×Obj)(σ:List<|Option V)(H:Hp)(s:Shared):Prop where
 ok:X.Ok
 os:s.os=X.s₀.os
 bare:AllBare s.gens
 base:Un X.fs X.ex X.H₀ H X.s₀.heap s.heap
 loc:∃ m,s.heap.Ns X.env.locals m/\∀(i:Nat) (x:Str) (v:V),X.N[i]?=some x->σ[i]?=some (some v)->xf X.env.scope x->∃ u,RelV v u/\Look X.env s.heap m x u
 cell:∀ x c,X.env.cells.lookup x=some c->∃ v,s.heap.IsCell c v
 free:H X.env.locals=none
 bW:∀ x c,X.env.cells.lookup x=some c->H c=none
 pin:∀ p∈X.pn++pins,s.heap.get? p.1=some p.2/\H p.1=none/\p.1≠X.env.locals/\p.1∉X.fs/\∀ v,p.2.data ≠ .cell v
 aC:bQ X.prog X.w H s.heap
 len:σ.length=X.N.length
section
variable{X:Cx}{pins:List (Addr×Obj)}{σ:List (Option V)}{H H':Hp}{s:Shared}{h':Heap}
theorem Cx.Ok.xg(ok:X.Ok){b:Addr}{o:Obj}(e:X.base.get? b=some o):b∉X.fs:=λhb=>by
 have:=(ok.cS.mem hb).1;rw [e] at this;cases this
theorem Inv.bs(I:Inv X pins σ H s):∀ b o,X.base.get? b=some o->s.heap.get? b=some o/\H b=none:=λb o e=>
 ⟨I.base.keep b o (I.ok.bs b o e).1 (I.ok.bs b o e).2 (I.ok.xg e)<|I.ok.ig b o e,I.base.free b o (I.ok.bs b o e).1 (I.ok.bs b o e).2<|I.ok.ig b o e⟩
theorem Inv.bk(I:Inv X pins σ H s):∀ b o,X.base.get? b=some o->s.heap.get? b=some o:=λb o e=>(I.bs b o e).1
theorem Inv.mod(I:Inv X pins σ H s):Mod X.K X.mg X.base:=I.ok.mod
theorem Inv.oj(I:Inv X pins σ H s):X.K.In s.heap:=I.ok.mod.og.keeps I.bk
theorem Inv.lt(I:Inv X pins σ H s):X.env.locals < s.heap.objs.size:=let ⟨_,hn,_⟩:=I.loc;hn.lt
theorem Inv.sz(I:Inv X pins σ H s):X.s₀.heap.objs.size<=s.heap.objs.size:=Bz I.ok.above<|Fn I.lt
theorem Inv.xh(I:Inv X pins σ H s){a:Addr}(h:s.heap.objs.size<=a):a∉X.fs:=λhb=>by
 obtain⟨_,o,ho,_⟩:=I.ok.cS.mem hb;exact absurd (Bk (Ar ho)<|Bz I.sz h)<|Ch _
theorem Inv.ju(I:Inv X pins σ H s):∀ x c,X.env.cells.lookup x=some c->c≠X.env.locals:=λx c e z=>by
 obtain⟨v,o,ho,hd⟩:=I.cell x c e;obtain⟨m,⟨o',es,ep,dR,Oe,_⟩,_⟩:=I.loc;rw [z,dR] at ho;cases ho;rw [Oe] at hd;cases hd
theorem Inv.cS(I:Inv X pins σ H s):s.heap.FunFrames X.base X.outer:=by
 have all:∀(l:List Env),(∀ b∈df l,b∈X.fs)->X.s₀.heap.FunFrames X.base l->s.heap.FunFrames X.base l:=by
  intro l
  induction l with
  | nil=>intro _ _;trivial
  | cons env r ih=>
   intro hs hl;obtain⟨hk,⟨L,o,hf,hn,ho,hd⟩,hr⟩:=hl;have hL:L∈X.fs:=hs L (by unfold df;rw [Cy,hf];exact As);obtain⟨sl,e⟩:=I.base.slot L o ho (I.ok.oh L hL) hL λz=>I.ok.jt L z hL;exact⟨hk,⟨L,_,hf,hn,e,hd⟩,ih (λb hb=>hs b<|by unfold df;rw [Cy,hf];exact Ak _ hb) hr⟩
 exact all X.outer (λ_ hb=>hb) I.ok.cS
theorem Inv.stack(I:Inv X pins σ H s):s.heap.FunFrames X.base X.stack:=by
 rcases I.ok.ul with e | ⟨e,hf⟩
 ·rw [e];exact I.cS
 ·rw [e];obtain⟨m,hn,_⟩:=I.loc;refine .cons (by rw [I.ok.kind];decide) hf hn ?_ I.cS;exact Heap.get?_none_of_le<|Bz I.ok.kh I.ok.above
theorem Inv.dE(I:Inv X pins σ H s):∀ b∈df X.stack,b∈X.env.locals :: X.fs:=λb hb=>by
 rcases I.ok.ul with e | ⟨e,hf⟩
 ·rw [e] at hb;exact Ak _ hb
 ·rw [e] at hb;unfold df at hb;rw [Cy,hf] at hb;exact hb
theorem Inv.cN(I:Inv X pins σ H s):∀ b∈df X.stack,H b=none:=λb hb=>by
 rcases Am.mp (I.dE b hb) with e | hb
 ·rw [e];exact I.free
 ·obtain⟨_,o,ho,_⟩:=I.ok.cS.mem hb;exact I.base.free b o ho (I.ok.oh b hb) λz=>I.ok.jt b z hb
theorem Inv.step{g':Array GenState}{t':Nat}{d':Drawn}{ch:List Addr}(I:Inv X pins σ H s)
  (i0:∀ b∈ch,(b∈X.ex\/X.s₀.heap.objs.size<=b)/\b≠X.env.locals/\(∀ x c,X.env.cells.lookup x=some c->c≠b)/\∀ p∈X.pn++pins,p.1≠b)
  (keep:∀ b o,b≠X.env.locals->b∉X.fs->b∉ch->s.heap.get? b=some o->H b=none->h'.get? b=some o)
  (slot:∀ b o,b≠X.env.locals->b∈X.fs->b∉ch->s.heap.get? b=some o->H b=none->∃ sl,h'.get? b=some {o with slots:=sl}) (free:∀ b o,b∉ch->s.heap.get? b=some o->H b=none->H' b=none)
  (there:∀ b o,b∉ch->s.heap.get? b=some o->∃ o',h'.get? b=some o')
  (dB:∀ b xs,H b=some (.tup xs)->H' b=some (.tup xs)) (de:∀ b o u,H b=some (.bN o u)->H' b=some (.bN o u)) (dC:∀ b ps,H b=some (.kg ps)->∃ more,H' b=some (.kg<|ps++more))
  (ns:∀ m,s.heap.Ns X.env.locals m->h'.Ns X.env.locals m) (aC:bQ X.prog X.w H' h') (hg:AllBare g') :
  Inv X pins σ H' {s with heap:=h',gens:=g',drawn:=d',toks:=t'}:=by
 have Fz:∀ b o,X.s₀.heap.get? b=some o->b≠X.env.locals:=λb o e=>Bp<|Bk (Ar e) I.ok.above;have um:∀ b o,X.s₀.heap.get? b=some o->b∉X.ex->b∉ch:=λb o e hx hb=>by
  rcases (i0 b hb).1 with z | z
  ·exact hx z
  ·exact absurd (Bk (Ar e) z)<|Ch _
 have cellK:∀ x c,X.env.cells.lookup x=some c->∀ v,s.heap.IsCell c v->h'.IsCell c v:=λx c e v ⟨o,ho,hd⟩=>by
  have pW:c∉ch:=λz=>(i0 c z).2.2.1 x c e rfl
  by_cases hc:c∈X.fs
  ·obtain⟨sl,q⟩:=slot c o (I.ju x c e) hc pW ho<|I.bW x c e;exact⟨_,q,hd⟩
  ·exact⟨o,keep c o (I.ju x c e) hc pW ho<|I.bW x c e,hd⟩
 refine⟨I.ok,I.os,hg,⟨λb o e n hb hx=>?_,λb o e n hb hx=>?_,λb o e n hx=>?_,λb o e hx=>?_,λb xs e=>dB b xs<|I.base.dB b xs e,λb o xs e=>de b o xs<|I.base.de b o xs e,λb ps e=>?_⟩,?_,λx c e=>?_,?_,λx c e=>?_,λp hp=>?_,aC,I.len⟩
 ·exact keep b o (Fz b o e) hb (um b o e hx) (I.base.keep b o e n hb hx)<|I.base.free b o e n hx
 ·obtain⟨sl,e1⟩:=I.base.slot b o e n hb hx;obtain⟨uo,e2⟩:=slot b _ (Fz b o e) hb (um b o e hx) e1<|I.base.free b o e n hx;exact⟨uo,e2⟩
 ·obtain⟨o',e1⟩:=I.base.there b o e hx;exact free b o' (um b o e hx) e1<|I.base.free b o e n hx
 ·obtain⟨o',e1⟩:=I.base.there b o e hx;exact there b o' (um b o e hx) e1
 ·obtain⟨m1,e1⟩:=I.base.dC b ps e;obtain⟨m2,e2⟩:=dC b _ e1;exact⟨m1++m2,by rw [e2,Array.append_assoc]⟩
 ·obtain⟨m,hn,hl⟩:=I.loc;refine⟨m,ns m hn,λi x v e1 e2 e3=>?_⟩;obtain⟨u,r,l⟩:=hl i x v e1 e2 e3;refine⟨u,r,?_⟩
  rcases l with l | ⟨k,c,e,z⟩
  ·exact .inl l
  ·exact .inr ⟨k,c,e,cellK x c e _ z⟩
 ·obtain⟨v,z⟩:=I.cell x c e;exact⟨v,cellK x c e v z⟩
 ·obtain⟨m,⟨o,_,_,ho,_⟩,_⟩:=I.loc;exact free _ o (λz=>(i0 _ z).2.1 rfl) ho I.free
 ·obtain⟨v,o,ho,hd⟩:=I.cell x c e;exact free c o (λz=>(i0 c z).2.2.1 x c e rfl) ho<|I.bW x c e
 ·obtain⟨e,n,ne,nf,d⟩:=I.pin p hp;have pW:p.1∉ch:=λz=>(i0 p.1 z).2.2.2 p hp rfl;exact⟨keep p.1 p.2 ne nf pW e n,free p.1 p.2 pW e n,ne,nf,d⟩
theorem Inv.un{t':Nat}(I:Inv X pins σ H s)(u:Un X.fs [] H H' s.heap h')(aC:bQ X.prog X.w H' h'):Inv X pins σ H' {s with heap:=h',toks:=t'}:=by
 obtain⟨m,⟨o,es,ep,ho,r⟩,_⟩:=id I.loc;obtain⟨sl,hL⟩:=u.any ho I.free (by simp);exact I.step (g':=s.gens) (d':=s.drawn) (ch:=[]) (λ_ z=>nomatch z) (λb o _ hb _ e n=>u.keep b o e n hb<|by simp) (λb o _ hb _ e n=>u.slot b o e n hb<|by simp) (λb o _ e n=>u.free b o e n<|by simp) (λb o _ e=>u.there b o e<|by simp) u.dB u.de u.dC (λm' hm=>by
  obtain⟨o',cH,ki,dR,r'⟩:=hm;rw [ho] at dR;cases dR;exact⟨_,cH,ki,hL,r'⟩) aC I.bare
theorem Inv.call{g':Array GenState}{t':Nat}{d':Drawn}{ch:List Addr}(I:Inv X pins σ H s)(u:Un (df X.stack) ch H H' s.heap h')(aC:bQ X.prog X.w H' h')(hg:AllBare g')
  (i0:∀ b∈ch,(b∈X.ex\/X.s₀.heap.objs.size<=b)/\b≠X.env.locals/\(∀ x c,X.env.cells.lookup x=some c->c≠b)/\∀ p∈X.pn++pins,p.1≠b) :
  Inv X pins σ H' {s with heap:=h',gens:=g',drawn:=d',toks:=t'}:=by
 obtain⟨m,⟨o,es,ep,ho,r⟩,_⟩:=id I.loc;obtain⟨sl,hL⟩:=u.any ho I.free λz=>(i0 _ z).2.1 rfl;exact I.step (ch:=ch) i0 (λb o hL hb hc e n=>u.keep b o e n (λz=>(Am.mp<|I.dE b z).elim hL hb) hc) (λb o _ _ hc e n=>u.any e n hc) (λb o hc e n=>u.free b o e n hc) (λb o hc e=>u.there b o e hc) u.dB u.de u.dC (λm' hm=>by
  obtain⟨o',cH,ki,dR,r'⟩:=hm;rw [ho] at dR;cases dR;exact⟨_,cH,ki,hL,r'⟩) aC hg
theorem Inv.turned{t':Nat}{it:Addr}(I:Inv X pins σ H s)(k:∀ b o,b≠it->s.heap.get? b=some o->h'.get? b=some o)(hn:H it=none)(hL:it≠X.env.locals)
  (h1:it∈X.ex\/X.s₀.heap.objs.size<=it) (h2:∀ x c,X.env.cells.lookup x=some c->c≠it) (h3:∀ p∈X.pn++pins,p.1≠it):Inv X pins σ H {s with heap:=h',toks:=t'}:=by
 have pX:∀ b u,H b=some u->b≠it:=λb u e z=>by rw [z,hn] at e;cases e
 refine I.step (g':=s.gens) (d':=s.drawn) (ch:=[it]) (λb hb=>?_) (λb o _ _ hc e _=>k b o (λz=>hc<|by simp [z]) e) (λb o _ _ hc e _=>⟨o.slots,k b o (λz=>hc<|by simp [z]) e⟩) (λ_ _ _ _ n=>n)
  (λb o hc e=>⟨o,k b o (λz=>hc<|by simp [z]) e⟩) (λ_ _ e=>e) (λ_ _ _ e=>e) (λb ps e=>⟨#[],by rw [e];simp⟩) (λm hm=>?_) (λb u e=>?_) I.bare
 ·have e:b=it:=by simpa using hb
  subst e;exact⟨h1,hL,h2,h3⟩
 ·obtain⟨o,es,ep,ho,r⟩:=hm;exact⟨o,es,ep,k _ o (BX hL) ho,r⟩
 ·refine(I.aC b u e).fk (λc v hc q=>k c v ?_ q) (λ_ q=>q) λ_ _ q=>q
  rcases hc with z | z
  ·rw [z];exact pX b u e
  ·exact pX c _ z
theorem Inv.tok(I:Inv X pins σ H s)(t:Nat):Inv X pins σ H {s with toks:=t}:=I.un (h':=s.heap) (t':=t) Un.refl I.aC
theorem Inv.kept{t':Nat}(I:Inv X pins σ H s)(k:∀ b u,s.heap.get? b=some u->h'.get? b=some u):Inv X pins σ H {s with heap:=h',toks:=t'}:=I.un (Un.kept k)<|I.aC.kept k
theorem Inv.laid{a:Addr}{o:HO}{t':Nat}(I:Inv X pins σ H s)(k:∀ b u,s.heap.get? b=some u->h'.get? b=some u)(hp:s.heap.objs.size<=a)(new:az X.prog X.w (upd H a o) h' a o) :
  Inv X pins σ (upd H a o) {s with heap:=h',toks:=t'}:=I.un (Un.laid k hp<|I.aC.fresh hp)<|I.aC.laid k hp new
theorem Inv.write{x e:Addr}{o:HO}{t':Nat}(I:Inv X pins σ H s)(mu:pT<|H x)(he:e=x\/H e=some (.own x))(k:∀ b u,b≠e->s.heap.get? b=some u->h'.get? b=some u)(oa:∃ u,h'.get? e=some u)
  (new:az X.prog X.w (upd H x o) h' x o):Inv X pins σ (upd H x o) {s with heap:=h',toks:=t'}:=I.un (Un.write mu he k oa)<|I.aC.write mu he k oa new
theorem Inv.fK{kj:List (Addr×Obj)}(I:Inv X pins σ H s)(h:∀ p∈kj,s.heap.get? p.1=some p.2/\H p.1=none/\p.1≠X.env.locals/\p.1∉X.fs/\∀ v,p.2.data ≠ .cell v):Inv X kj σ H s:=
 ⟨I.ok,I.os,I.bare,I.base,I.loc,I.cell,I.free,I.bW,λp hp=>(Aq.mp hp).elim (λz=>I.pin p<|Bl _ z)<|h p,I.aC,I.len⟩
theorem FA{N:List Str}(hN:N.Nodup){i j:Nat}{x:Str}(a:N[i]?=some x)(b:N[j]?=some x):i=j:=by
 obtain⟨h1,e1⟩:=Ac.mp a;obtain⟨h2,e2⟩:=Ac.mp b;exact(Ff hN).mp<|e1.trans e2.symm
theorem FC{M:Model}{A:Around}{E:Value->Shared->Prop}{i:Nat}{x:Str}{v:V}{u:Value}{Q:Unit->Shared->Prop}(I:Inv X pins σ H s)(hN:X.N.Nodup)(hi:X.N[i]?=some x)(hx:Loc X.env.scope x)(r:RelV v u)
  (h:∀ s',Inv X pins (σ.set i<|some v) H s'->(∃ a,Heap.SameBut a s.heap s'.heap/\(a=X.env.locals\/X.env.cells.lookup x=some a))->Q () s') (hf:X.fn x=true\/X.env.scope.names.lookup x=some .local:=by first | exact .inl rfl | exact .inr rfl | assumption):wpAny M A (storeName X.env x u) Q E s:=by
 obtain⟨m,hn,hl⟩:=id I.loc;have xi:(X.env.scope.kind == .class || (X.env.scope.kind == .module && X.env.locals != X.env.globals))=false:=by rw [I.ok.kind];rfl
 have hiσ:i < σ.length:=by rw [I.len];exact(Ac.mp hi).1
 have ju:=I.ju;have tracked:∀{a:Addr} {h':Heap},(∃ o,s.heap.get? a=some o/\H a=none)->Heap.SameBut a s.heap h'->bQ X.prog X.w H h':=λ{a h'} ha hs b ob e=>by
  obtain⟨_,_,km⟩:=ha;refine(I.aC b ob e).fk (λc w' hc q=>(hs.2 c ?_).trans q) (λ_ q=>q) λ_ _ q=>q;rintro rfl
  rcases hc with rfl | hc
  ·rw [km] at e;cases e
  ·rw [km] at hc;cases hc
 rcases hx with hk | hk
 ·refine wpAny_storeName_local hk hn (λh' uq hs=>?_) xi;obtain⟨oL,_,_,ko,_⟩:=id hn;refine h _ ⟨I.ok,I.os,I.bare,⟨λb o e n hb hx=>?_,λb o e n hb hx=>?_,I.base.free,λb o e hx=>?_,I.base.dB,I.base.de,I.base.dC⟩,⟨_,uq,λj y v' e1 e2 e3=>?_⟩,λy c e=>?_,I.free,I.bW,λp hp=>?_,tracked ⟨oL,ko,I.free⟩ hs,by simpa using I.len⟩ ⟨_,hs,.inl rfl⟩
  ·exact(hs.2 b<|Bp<|Bk (Ar e) I.ok.above).trans<|I.base.keep b o e n hb hx
  ·obtain⟨sl,e1⟩:=I.base.slot b o e n hb hx;exact⟨sl,(hs.2 b<|Bp<|Bk (Ar e) I.ok.above).trans e1⟩
  ·obtain⟨o',e1⟩:=I.base.there b o e hx;exact⟨o',(hs.2 b<|Bp<|Bk (Ar e) I.ok.above).trans e1⟩
  ·by_cases hj:j=i
   ·subst hj;rw [hi] at e1;cases e1;rw [QW hiσ] at e2;cases e2;exact⟨u,r,.inl ⟨hk,by simp⟩⟩
   ·rw [List.getElem?_set_ne<|BX hj] at e2;obtain⟨u',r',q⟩:=hl j y v' e1 e2 e3;refine⟨u',r',?_⟩
    rcases q with ⟨k,e⟩ | ⟨k,c,e,z⟩
    ·refine .inl ⟨k,?_⟩;have:y≠x:=λe=>hj<|FA hN e1<|e ▸ hi;simp [this,e]
    ·exact .inr ⟨k,c,e,z.sameBut hs<|ju y c e⟩
  ·obtain⟨w',z⟩:=I.cell y c e;exact⟨w',z.sameBut hs<|ju y c e⟩
  ·obtain⟨e,n,ne,nf,d⟩:=I.pin p hp;exact⟨(hs.2 p.1 ne).trans e,n,ne,nf,d⟩
 ·have xj:X.fn x=true:=by
   rcases hf with z | z
   ·exact z
   ·rw [z] at hk;cases hk
  obtain⟨c,hc⟩:=I.ok.has x<|.inl hk;obtain⟨w',z⟩:=I.cell x c hc;refine wpAny_storeName_cell I.ok.kind hk hc z λh' aW hs=>?_;obtain⟨oc,FD,xk⟩:=id z;refine h {s with heap:=h'} ⟨I.ok,I.os,I.bare,⟨λb o e n hb hx=>?_,λb o e n hb hx=>?_,I.base.free,λb o e hx=>?_,I.base.dB,I.base.de,I.base.dC⟩,⟨m,hn.sameBut hs<|BX<|ju x c hc,λj y v' e1 e2 e3=>?_⟩,λy c' e=>?_,I.free,I.bW,λp hp=>?_,tracked ⟨oc,FD,I.bW x c hc⟩ hs,by simpa using I.len⟩ ⟨c,hs,.inr hc⟩
  ·exact(hs.2 b<|Bp<|Bk (Ar e)<|I.ok.pV x c xj hc).trans<|I.base.keep b o e n hb hx
  ·obtain⟨sl,e1⟩:=I.base.slot b o e n hb hx;exact⟨sl,(hs.2 b<|Bp<|Bk (Ar e)<|I.ok.pV x c xj hc).trans e1⟩
  ·obtain⟨o',e1⟩:=I.base.there b o e hx;exact⟨o',(hs.2 b<|Bp<|Bk (Ar e)<|I.ok.pV x c xj hc).trans e1⟩
  ·by_cases hj:j=i
   ·subst hj;rw [hi] at e1;cases e1;rw [QW hiσ] at e2;cases e2;exact⟨u,r,.inr ⟨.inl hk,c,hc,aW⟩⟩
   ·rw [List.getElem?_set_ne<|BX hj] at e2;obtain⟨u',r',q⟩:=hl j y v' e1 e2 e3;refine⟨u',r',?_⟩
    rcases q with q | ⟨k,c',e,z'⟩
    ·exact .inl q
    ·refine .inr ⟨k,c',e,z'.sameBut hs ?_⟩;rintro rfl;exact hj<|FA hN e1<|I.ok.inj _ _ _ e hc ▸ hi
  ·by_cases gm:c'=c
   ·subst gm;exact⟨_,aW⟩
   ·obtain⟨w2,z2⟩:=I.cell y c' e;exact⟨w2,z2.sameBut hs gm⟩
  ·obtain⟨e,n,ne,nf,d⟩:=I.pin p hp;refine⟨(hs.2 p.1 ?_).trans e,n,ne,nf,d⟩;intro q;rw [q,FD] at e;have q':oc=p.2:=Option.some.inj e;exact d w'<|by rw [<- q'];exact xk
theorem FE{M:Model}{A:Around}{E:Value->Shared->Prop}{i:Nat}{x:Str}{v:V}{u:Value}{Q:Unit->Shared->Prop}(I:Inv X pins σ H s)(hN:X.N.Nodup)(hi:X.N[i]?=some x)(hx:Loc X.env.scope x)(r:RelV v u)
  (h:∀ s',Inv X pins (σ.set i<|some v) H s'->Q () s') (hf:X.fn x=true\/X.env.scope.names.lookup x=some .local:=by first | exact .inl rfl | exact .inr rfl | assumption):wpAny M A (storeName X.env x u) Q E s:=
 FC I hN hi hx r (λs' I' _=>h s' I') hf
theorem Inv.call'{s':Shared}{ch:List Addr}(I:Inv X pins σ H s)(ho:s'.os=s.os)(u:Un (df X.stack) ch H H' s.heap s'.heap)(aC:bQ X.prog X.w H' s'.heap)(hg:AllBare s'.gens)
  (i0:∀ b∈ch,(b∈X.ex\/X.s₀.heap.objs.size<=b)/\b≠X.env.locals/\(∀ x c,X.env.cells.lookup x=some c->c≠b)/\∀ p∈X.pn++pins,p.1≠b):Inv X pins σ H' s':=by
 obtain⟨h',g',d',t',o'⟩:=s';have e:o'=s.os:=ho;subst e;exact I.call (g':=g') (t':=t') (d':=d') u aC hg i0
end
abbrev XK:=Value->Option Addr->Hp->Prop
abbrev St:=List<|Option V
abbrev VK:=V->Hp->Prop
abbrev TE:=St->Hp->VK->Prop
abbrev TT:=St->Hp->(Bool->Hp->Prop)->Prop
abbrev TA:=St->Hp->(List V->Hp->Prop)->Prop
structure Ends where
 nx:St->Hp->Prop
 rt:VK
 bk:St->Hp->Prop:=λ_ _=>False
 ct:St->Hp->Prop:=λ_ _=>False
abbrev TS:=Ends->St->Hp->Prop
def EP(X:Cx)(pins:List<|Addr×Obj)(σ:St)(Q:VK)(u:Value)(s':Shared):Prop:=∃ v H',Inv X pins σ H' s'/\RelV v u/\Q v H'
def TP(X:Cx)(pins:List<|Addr×Obj)(σ:St)(Q:Bool->Hp->Prop)(b:Bool)(s':Shared):Prop:=∃ H',Inv X pins σ H' s'/\Q b H'
def AP(X:Cx)(pins:List<|Addr×Obj)(σ:St)(Q:List V->Hp->Prop)(us:List Value)(s':Shared):Prop:=∃ vs H',Inv X pins σ H' s'/\aq vs us/\Q vs H'
def SP(X:Cx)(pins:List<|Addr×Obj)(D:Ends)(f:Flow)(s':Shared):Prop:=
 match f with
 | .next=>∃ σ' H',Inv X pins σ' H' s'/\D.nx σ' H'
 | .brk=>∃ σ' H',Inv X pins σ' H' s'/\D.bk σ' H'
 | .cont=>∃ σ' H',Inv X pins σ' H' s'/\D.ct σ' H'
 | .ret u=>∃ v σ' H',Inv X pins σ' H' s'/\RelV v u/\D.rt v H'
def PE(X:Cx)(e:Expr)(t:TE):Prop:=
 ∀(pins:List<|Addr×Obj) (s:Shared) (σ:St) (H:Hp) (Q:VK),Inv X pins σ H s->t σ H Q->wpAny (model X.prog X.w) X.A (eval e X.env) (EP X pins σ Q) X.xe s
def PT(X:Cx)(e:Expr)(t:TT):Prop:=
 ∀(pins:List<|Addr×Obj) (s:Shared) (σ:St) (H:Hp) (Q:Bool->Hp->Prop),Inv X pins σ H s->t σ H Q->wpAny (model X.prog X.w) X.A (isTrue e X.env<|eval e X.env) (TP X pins σ Q) X.xe s
def PW(X:Cx)(e:Expr)(t:TT):Prop:=
 ∀(whole:Sem Value) (pins:List<|Addr×Obj) (s:Shared) (σ:St) (H:Hp) (Q:Bool->Hp->Prop),Inv X pins σ H s->t σ H Q->wpAny (model X.prog X.w) X.A (isTrue e X.env whole) (TP X pins σ Q) X.xe s
def PA(X:Cx)(es:List Expr)(t:TA):Prop:=
 ∀(pos:Pos) (pins:List<|Addr×Obj) (s:Shared) (σ:St) (H:Hp) (Q:List V->Hp->Prop),Inv X pins σ H s->t σ H Q->wpAny (model X.prog X.w) X.A (spliced<|backTo pos<|starEach es X.env) (AP X pins σ Q) X.xe s
def PS(X:Cx)(st:Stmt)(t:TS):Prop:=
 ∀(pins:List<|Addr×Obj) (s:Shared) (σ:St) (H:Hp) (D:Ends),Inv X pins σ H s->t D σ H->wpAny (model X.prog X.w) X.A (exec st X.env) (SP X pins D) X.xe s
def gn(X:Cx)(st:List Stmt)(t:TS):Prop:=
 ∀(pins:List<|Addr×Obj) (s:Shared) (σ:St) (H:Hp) (D:Ends),Inv X pins σ H s->t D σ H->wpAny (model X.prog X.w) X.A (execs st X.env) (SP X pins D) X.xe s
theorem aE{α:Type}{t:Sem α}{Q Q':α->Shared->Prop}{M:Model}{A:Around}{E:Value->Shared->Prop}{s:Shared}(h:wpAny M A t Q E s)(hQ:∀ a s,Q a s->Q' a s):wpAny M A t Q' E s:=CP h hQ λ_ _ x=>x
section
variable{X:Cx}
theorem bin{a b:Expr}{ta tb:TE}(ha:PE X a ta)(hb:PE X b tb){pins:List (Addr×Obj)}{s:Shared}{σ:St}{H:Hp}{R:V->V->Hp->Prop}(I:Inv X pins σ H s)(h:ta σ H λx H1=>tb σ H1 λy H2=>R x y H2)
  {α:Type} {Q:α->Shared->Prop} {f:Value->Value->Sem α}
  (hf:∀ v u s2 x y H2,Inv X pins σ H2 s2->RelV x v->RelV y u->R x y H2->wpAny (model X.prog X.w) X.A (f v u) Q X.xe s2) :
  wpAny (model X.prog X.w) X.A (eval a X.env) (λv s₁=>wpAny (model X.prog X.w) X.A (eval b X.env) (λu s₂=>wpAny (model X.prog X.w) X.A (f v u) Q X.xe s₂) X.xe s₁) X.xe s:=by
 refine aE (ha pins s σ H _ I h) λv s1 ⟨x,H1,I1,r1,q1⟩=>?_;refine aE (hb pins s1 σ H1 _ I1 q1) λu s2 ⟨y,H2,I2,r2,q2⟩=>?_;exact hf v u s2 x y H2 I2 r1 r2 q2
def xl(i:Nat):TE:=λσ H Q=>∃ v,σ[i]?=some (some v)/\Q v H
def tC(v:V):TE:=λ_ H Q=>Q v H
theorem Og{i:Nat}{x:Str}{pos:Pos}(hN:X.N[i]?=some x)(hv:xf X.env.scope x)(hd:(x == ("__debug__" : Str))=false:=by decide)(fM:(x == ("__classdict__" : Str))=false:=by decide):PE X (.Name x pos) (xl i):=by
 intro pins s σ H Q I h;obtain⟨v,e,h⟩:=h;obtain⟨m,hn,hl⟩:=I.loc;obtain⟨u,r,l⟩:=hl i x v hN e hv;have fin:EP X pins σ Q u s:=⟨v,H,I,r,h⟩
 rcases l with ⟨hk,hm⟩ | ⟨hk,c,hc,fN⟩
 ·exact wpAny_Name (wpAny_loadName_local I.ok.kind hk hn hm fin) hd
 ·rcases hk with hk | hk
  ·exact wpAny_Name (wpAny_loadName_cell I.ok.kind hk hc fN fin) hd
  ·exact wpAny_Name (wpAny_loadName_free I.ok.kind hk hc fN fin fM) hd
theorem Oh{i j pos}:PE X (.Constant (.int i) j pos) (tC<|.int i):=λ_ _ _ H _ I h=>wpAny_Constant_int ⟨.int i,H,I.tok _,⟨_,rfl⟩,h⟩
theorem Oi{b j pos}:PE X (.Constant (.bool b) j pos) (tC<|.bl b):=λ_ _ _ H _ I h=>Constant_bool ⟨.bl b,H,I,rfl,h⟩
theorem Oj{j pos}:PE X (.Constant .none j pos) (tC .non):=λ_ _ _ H _ I h=>Constant_none ⟨.non,H,I,rfl,h⟩
theorem Ol{x j pos}:PE X (.Constant (.str x) j pos) (tC<|.str x):=λ_ _ _ H _ I h=>Calls.Constant_str ⟨.str x,H,I.tok _,⟨_,rfl⟩,h⟩
def Gl(X:Cx)(x:Str):Prop:=X.env.kindOf x=some .globalImplicit
theorem FG{E:Value->Shared->Prop}{pins:List (Addr×Obj)}{s:Shared}{σ:St}{H:Hp}{x:Str}{u:Value}{pos:Pos}{Q:Value->Shared->Prop}(I:Inv X pins σ H s)(hg:Gl X x)(hm:X.mg x=some u)(h:Q u s)
  (hd:(x == ("__debug__" : Str))=false:=by decide):wpAny (model X.prog X.w) X.A (eval (.Name x pos) X.env) Q E s:=
 Calls.Name_function_global I.ok.kind hg (Calls.loadGlobal_global (by rw [I.ok.glob];exact I.mod.glob.keeps I.bk) hm h) hd
theorem i4{E:Value->Shared->Prop}{pins:List (Addr×Obj)}{s:Shared}{σ:St}{H:Hp}{x:Str}{u:Value}{pos:Pos}{Q:Value->Shared->Prop}(I:Inv X pins σ H s)(hg:Gl X x)(hm:X.mg x=none)(hv:bootBuiltins x=some u)(h:Q u s)
  (hn:x ≠ "__name__":=by decide) (hd:(x == ("__debug__" : Str))=false:=by decide):wpAny (model X.prog X.w) X.A (eval (.Name x pos) X.env) Q E s:=by
 obtain⟨mb,h1,h2⟩:=I.mod.blt;exact Calls.Name_function_global I.ok.kind hg (Calls.loadGlobal_builtin (by rw [I.ok.glob];exact I.mod.glob.keeps I.bk) hm (by rw [I.ok.blt];exact h1.keeps I.bk) ((h2 x hn).trans hv) h) hd
variable{a b:Expr}{ta tb:TE}{pos:Pos}
def PC(X:Cx)(op:CmpOp)(a b:Expr)(t:TE):Prop:=
 ∀(pins:List<|Addr×Obj) (s:Shared) (σ:St) (H:Hp) (Q:VK),Inv X pins σ H s->t σ H Q ->
  wpAny (model X.prog X.w) X.A (eval a X.env) (λv s₁=>wpAny (model X.prog X.w) X.A (eval b X.env) (λu s₂=>wpAny (model X.prog X.w) X.A (compareOp op v u) (EP X pins σ Q) X.xe s₂) X.xe s₁) X.xe s
def tB(t:TE):TT:=λσ H Q=>t σ H λx H1=>∃ c,x = .bl c/\Q c H1
theorem Om{op:CmpOp}{t:TE}(h:PC X op a b t)(h1:behindInMarks op b=false:=by first | exact pY _ (by decide) (by decide) | rfl):PT X (.Compare a [op] [b] pos) (tB t):=by
 intro pins s σ H Q I hw;refine wpAny_isTrue_Compare1 (aE (h pins s σ H _ I hw) λv s1 h1=>aE h1 λu s2 h2=>aE h2 λc s3 ⟨x,H1,I1,r1,q1⟩=>?_) h1;obtain⟨d,rfl,q⟩:=q1;cases r1;exact DR ⟨H1,I1,q⟩
theorem Oo{e:Expr}{t:TE}(h:PE X e t)(he:∀ whole,isTrue e X.env whole=(do let v <- whole;standAt e.pos;holding [v] (truthy v)):=by intro _;rfl):PT X e (tB t):=by
 intro pins s σ H Q I hw;refine isTrue_plain (aE (h pins s σ H _ I hw) λv s1 ⟨x,H1,I1,r1,q1⟩=>?_)<|he _;obtain⟨d,rfl,q⟩:=q1;cases r1;exact DR ⟨H1,I1,q⟩
variable{tA ur:TT}{rest:List Expr}
def xm(t u:TT):TT:=λσ H Q=>t σ H λc H1=>if c=true then u σ H1 Q else Q false H1
def Oq(t u:TT):TT:=λσ H Q=>t σ H λc H1=>if c=true then Q true H1 else u σ H1 Q
def xn(t:TT):TT:=λσ H Q=>t σ H λc H1=>Q (!c) H1
theorem Ot(ha:PT X a tA):PW X (.BoolOp .And [a] pos) tA:=by
 intro wh pins s σ H Q I h;refine isTrue_and<|aE (ha pins s σ H Q I h) λc s1 e=>?_;cases c with
 | true=>exact isTrue_and_nil e
 | false=>exact e
theorem Ou(ha:PT X a tA):PW X (.BoolOp .Or [a] pos) tA:=by
 intro wh pins s σ H Q I h;refine isTrue_or<|aE (ha pins s σ H Q I h) λc s1 e=>?_;cases c with
 | false=>exact isTrue_or_nil e
 | true=>exact e
theorem Ov(ha:PT X a tA)(hb:PW X (.BoolOp .And (b :: rest) pos) ur):PW X (.BoolOp .And (a :: b :: rest) pos) (xm tA ur):=by
 intro wh pins s σ H Q I h;refine isTrue_and<|aE (ha pins s σ H _ I h) λc s1 ⟨H1,I1,q1⟩=>?_;cases c with
 | true=>exact hb wh pins s1 σ H1 Q I1 q1
 | false=>exact⟨H1,I1,q1⟩
theorem Ow(ha:PT X a tA)(hb:PW X (.BoolOp .Or (b :: rest) pos) ur):PW X (.BoolOp .Or (a :: b :: rest) pos) (Oq tA ur):=by
 intro wh pins s σ H Q I h;refine isTrue_or<|aE (ha pins s σ H _ I h) λc s1 ⟨H1,I1,q1⟩=>?_;cases c with
 | true=>exact⟨H1,I1,q1⟩
 | false=>exact hb wh pins s1 σ H1 Q I1 q1
theorem Ox(ha:PT X a tA):PT X (.UnaryOp .Not a pos) (xn tA):=by
 intro pins s σ H Q I h;exact isTrue_not<|ha pins s σ H (λc H1=>Q (!c) H1) I h
def Oy(ta:TE):TE:=λσ H Q=>ta σ H λx H1=>∃ c,x = .bl c/\Q (.bl (!c)) H1
theorem Oz(ha:PE X a ta):PE X (.UnaryOp .Not a pos) (Oy ta):=by
 intro pins s σ H Q I h;refine UnaryOp_<|aE (ha pins s σ H _ I h) λv s1 ⟨x,H1,I1,r1,q1⟩=>?_;obtain⟨c,rfl,q1⟩:=q1;cases r1;exact not_of<|DR ⟨.bl (!c),H1,I1,rfl,q1⟩
end
def ak(K:PySem.W.Frag)(H:Hp)(a:Addr)(xs:List V):Prop:=
 Rd H a (.lst xs) \/
  ∃(o:Obj) (its:Array Value) (n:Nat),K.lookup a=some o/\o.cls = .type "list"/\o.dict=none/\o.data = .seq its n/\its.size<=sizeLine/\aq xs its.toList
def aM(K:PySem.W.Frag)(H:Hp)(a:Addr)(xs:List V):Prop:=
 Rd H a (.tup xs) \/
  ∃(o:Obj) (its:Array Value) (n:Nat),K.lookup a=some o/\o.cls = .type "tuple"/\o.data = .seq its n/\its.size<=sizeLine/\aq xs its.toList
def xo:Value->Option V
 | .none=>some .non
 | .bool b=>some<|.bl b
 | .int i _=>some<|.int i
 | .str x _=>some<|.str x
 | .bytes b _=>some<|.gl b
 | .float b _=>some<|.xa b
 | .ref a=>some<|.ref a
 | .type n=>some<|.ty n
 | _=>none
theorem RelV.abs{x:V}{u:Value}(r:RelV x u):xo u=some x:=by
 cases x with
 | non=>cases r;rfl
 | bl _=>cases r;rfl
 | int _=>obtain⟨t,rfl⟩:=r;rfl
 | str _=>obtain⟨t,rfl⟩:=r;rfl
 | gl _=>obtain⟨t,rfl⟩:=r;rfl
 | xa _=>obtain⟨t,rfl⟩:=r;rfl
 | ref _=>cases r;rfl
 | ty _=>cases r;rfl
theorem RelV.inj{x y:V}{u:Value}(r:RelV x u)(q:RelV y u):x=y:=Option.some.inj<|r.abs.symm.trans q.abs
theorem aq.inj:∀{xs ys:List V} {us:List Value},aq xs us->aq ys us->xs=ys
 | _,_,_,.nil,.nil=>rfl
 | _,_,_,.cons r t,.cons r' t'=>by rw [r.inj r',aq.inj t t']
section
variable{X:Cx}{pins:List (Addr×Obj)}{σ:St}{H:Hp}{s:Shared}{a:Addr}{xs ys:List V}
theorem ak.of{K:PySem.W.Frag}(h:H a=some (.lst xs)):ak K H a xs:= .inl<|.inl h
theorem aM.of{K:PySem.W.Frag}(h:H a=some (.tup xs)):aM K H a xs:= .inl<|.inl h
theorem Inv.list(I:Inv X pins σ H s)(h:ak X.K H a xs):∃ its:List Value,aq xs its/\PlainL s.heap a its.toArray/\xs.length<=sizeLine:=by
 rcases h with h | ⟨o,its,n,hk,hc,hd,hs,hz,r⟩
 ·obtain⟨z,its,n,r,e⟩:=h.ok I.aC;exact⟨its,r,⟨_,n,e,rfl,rfl,rfl⟩,z⟩
 ·refine⟨its.toList,r,⟨o,n,I.oj a o hk,hc,hd,by simpa using hs⟩,?_⟩;have e:=r.length;simp only [Co] at e;omega
theorem Inv.tuple(I:Inv X pins σ H s)(h:aM X.K H a xs):∃ its:List Value,aq xs its/\IsTup s.heap a its.toArray/\xs.length<=sizeLine:=by
 rcases h with h | ⟨o,its,n,hk,hc,hs,hz,r⟩
 ·obtain⟨z,its,r,p⟩:=h.ok I.aC;exact⟨its,r,p,z⟩
 ·refine⟨its.toList,r,⟨o,I.oj a o hk,hc,n,by simpa using hs⟩,?_⟩;have e:=r.length;simp only [Co] at e;omega
theorem Inv.cj(I:Inv X pins σ H s)(h:ak X.K H a xs)(h':ak X.K H a ys):xs=ys:=by
 obtain⟨its,r,⟨o,n,e,_,_,d⟩,_⟩:=I.list h;obtain⟨its',r',⟨o',n',e',_,_,d'⟩,_⟩:=I.list h';rw [e] at e';cases e';rw [d] at d'
 injection d' with d1 _
 have:its=its':=by simpa using CG Array.toList d1
 subst this;exact r.inj r'
theorem Inv.gp(I:Inv X pins σ H s)(h:aM X.K H a xs)(h':aM X.K H a ys):xs=ys:=by
 obtain⟨its,r,⟨o,e,_,n,d⟩,_⟩:=I.tuple h;obtain⟨its',r',⟨o',e',_,n',d'⟩,_⟩:=I.tuple h';rw [e] at e';cases e';rw [d] at d'
 injection d' with d1 _
 have:its=its':=by simpa using CG Array.toList d1
 subst this;exact r.inj r'
end
abbrev Cx.dg(X:Cx)(E:Value->Shared->Prop):Cx:={X with xe:=E}
abbrev Cx.om(X:Cx):Cx:=X.dg λ_ _=>False
theorem Cx.Ok.dg{X:Cx}(ok:X.Ok)(E:Value->Shared->Prop):(X.dg E).Ok:=
 ⟨ok.mod,ok.kind,ok.glob,ok.blt,ok.above,ok.inj,ok.has,ok.pV,ok.hd,ok.frames,ok.ul,ok.Fy,ok.bs,ok.kh,ok.ig,ok.jt,ok.cS,ok.oh⟩
theorem Cx.Ok.bX{X:Cx}{E:Value->Shared->Prop}(ok:(X.dg E).Ok):X.Ok:=
 ⟨ok.mod,ok.kind,ok.glob,ok.blt,ok.above,ok.inj,ok.has,ok.pV,ok.hd,ok.frames,ok.ul,ok.Fy,ok.bs,ok.kh,ok.ig,ok.jt,ok.cS,ok.oh⟩
section
variable{X:Cx}{pins:List (Addr×Obj)}{σ:St}{H:Hp}{s:Shared}{E:Value->Shared->Prop}
theorem Inv.dg(I:Inv X pins σ H s)(E:Value->Shared->Prop):Inv (X.dg E) pins σ H s:=⟨I.ok.dg E,I.os,I.bare,I.base,I.loc,I.cell,I.free,I.bW,I.pin,I.aC,I.len⟩
theorem Inv.bX(I:Inv (X.dg E) pins σ H s):Inv X pins σ H s:=⟨I.ok.bX,I.os,I.bare,I.base,I.loc,I.cell,I.free,I.bW,I.pin,I.aC,I.len⟩
theorem SP.bX{D:Ends}{f:Flow}{s':Shared}(h:SP (X.dg E) pins D f s'):SP X pins D f s':=by
 cases f with
 | next=>obtain⟨σ',H',I,q⟩:=h;exact⟨σ',H',I.bX,q⟩
 | brk=>obtain⟨σ',H',I,q⟩:=h;exact⟨σ',H',I.bX,q⟩
 | cont=>obtain⟨σ',H',I,q⟩:=h;exact⟨σ',H',I.bX,q⟩
 | ret u=>obtain⟨v,σ',H',I,r,q⟩:=h;exact⟨v,σ',H',I.bX,r,q⟩
theorem gn.om{st:List Stmt}{t:TS}(h:gn X.om st t):gn X st t:=λpins s σ H D I hw=>
 CP (h pins s σ H D (I.dg _) hw) (λ_ _ q=>q.bX) λ_ _ z=>False.elim z
end
section
variable{X:Cx}{st:Stmt}{rest:List Stmt}{t u:TS}{e:Expr}{te:TE}{pos:Pos}
def OA:TS:=λD σ H=>D.nx σ H
def xq(t u:TS):TS:=λD σ H=>t {D with nx:=u D} σ H
theorem OB:gn X [] OA:=λ_ _ σ H _ I h=>QG ⟨σ,H,I,h⟩
theorem OC(h1:PS X st t)(h2:gn X rest u):gn X (st :: rest) (xq t u):=by
 intro pins s σ H D I h;refine wpAny_execs_cons<|aE (h1 pins s σ H {D with nx:=u D} I h) λf s1 q=>?_;cases f with
 | next=>
  obtain⟨σ',H',I',q⟩:=q;exact h2 pins s1 σ' H' D I' q
 | ret v=>exact q
 | brk=>exact q
 | cont=>exact q
theorem Inv.quiet{pins:List (Addr×Obj)}{σ:St}{H:Hp}{s:Shared}(I:Inv X pins σ H s):interactive X.env=false:=by simp [interactive,I.ok.kind]
def OG(te:TE):TS:=λD σ H=>te σ H λ_ H1=>D.nx σ H1
theorem OH(he:PE X e te)(hs:swapsWith e none pos.line X.env=pure false:=by rfl):PS X (.Expr e pos) (OG te):=by
 intro pins s σ H D I h;exact wpAny_Expr_any (aE (he pins s σ H _ I h) λv s1 ⟨x,H1,I1,r1,q1⟩=>⟨σ,H1,I1,q1⟩) I.quiet hs
def xr(te:TE):TS:=λD σ H=>te σ H D.rt
theorem OI(he:PE X e te):PS X (.Return (some e) pos) (xr te):=by
 intro pins s σ H D I h;exact wpAny_Return_some<|aE (he pins s σ H _ I h) λv s1 ⟨x,H1,I1,r1,q1⟩=>⟨x,σ,H1,I1,r1,q1⟩
def xt(c:TT)(t u:TS):TS:=λD σ H=>c σ H λb H1=>if b=true then t D σ H1 else u D σ H1
theorem OL{c:Expr}{a b:List Stmt}{tc:TT}(hc:PT X c tc)(ha:gn X a t)(hb:gn X b u):PS X (.If c a b pos) (xt tc t u):=by
 intro pins s σ H D I h;refine wpAny_If<|aE (hc pins s σ H _ I h) λd s1 ⟨H1,I1,q1⟩=>?_;cases d with
 | true=>exact ha pins s1 σ H1 D I1 q1
 | false=>exact hb pins s1 σ H1 D I1 q1
end
abbrev TG:=V->St->Hp->(St->Hp->Prop)->Prop
abbrev lU:=List V->St->Hp->(St->Hp->Prop)->Prop
def PG(X:Cx)(target:Expr)(t:TG):Prop:=
 ∀(pins:List<|Addr×Obj) (s:Shared) (σ:St) (H:Hp) (v:V) (u:Value) (Q:St->Hp->Prop),Inv X pins σ H s->RelV v u->t v σ H Q ->
  wpAny (model X.prog X.w) X.A (assign target X.env u) (λ_ s'=>∃ σ' H',Inv X pins σ' H' s'/\Q σ' H') X.xe s
def ut(X:Cx)(ts:List Expr)(t:lU):Prop:=
 ∀(pins:List<|Addr×Obj) (s:Shared) (σ:St) (H:Hp) (vs:List V) (us:List Value) (Q:St->Hp->Prop),Inv X pins σ H s->aq vs us->t vs σ H Q ->
  wpAny (model X.prog X.w) X.A (assignInOrder ((assignEach ts X.env).map (·.2)) us) (λ_ s'=>∃ σ' H',Inv X pins σ' H' s'/\Q σ' H') X.xe s
section
variable{X:Cx}{pos:Pos}
def FH(i:Nat):TG:=λv σ H Q=>Q (σ.set i<|some v) H
theorem OM{i:Nat}{x:Str}(hN:X.N.Nodup)(hi:X.N[i]?=some x)(hx:Loc X.env.scope x)(hf:X.fn x=true\/X.env.scope.names.lookup x=some .local:=by first | exact .inl rfl | exact .inr rfl | assumption):PG X (.Name x pos) (FH i):=by
 intro pins s σ H v u Q I r h;exact wpAny_assign_Name<|FE I hN hi hx r (λs' I'=>⟨_,H,I',h⟩) hf
def p4:lU:=λvs σ H Q=>vs=[]/\Q σ H
def xu(t:TG)(u:lU):lU:=λvs σ H Q=>∃ v r,vs=v :: r/\t v σ H λσ' H'=>u r σ' H' Q
theorem OO:ut X [] p4:=by
 intro pins s σ H vs us Q I r h;obtain⟨e,h⟩:=h;subst e;cases r;exact assignInOrder_nil ⟨σ,H,I,h⟩
theorem FI{e:Expr}{es:List Expr}{t:TG}{u:lU}(h1:PG X e t)(h2:ut X es u)
  (hs:(assignEach (e :: es) X.env).map (·.2)=assign e X.env :: (assignEach es X.env).map (·.2):=by rfl):ut X (e :: es) (xu t u):=by
 intro pins s σ H vs us Q I r h;obtain⟨v,vr,e1,h⟩:=h;subst e1;cases r with
 | cons r rr=>
  rw [hs];refine assignInOrder_cons<|aE (h1 pins s σ H _ _ _ I r h) λ_ s1 ⟨σ1,H1,I1,q1⟩=>?_;exact h2 pins s1 σ1 H1 _ _ Q I1 rr q1
def xx(K:PySem.W.Frag)(n:Nat)(t:lU):TG:=λv σ H Q=>∃ a xs,v = .ref a/\aM K H a xs/\xs.length=n/\t xs σ H Q
theorem OQ{es:List Expr}{k:Nat}{t:lU}{n:Nat}(hc:X.calm=true)(h:ut X es t)
  (hn:(assignEach es X.env).length=n:=by rfl) (cO:(assignEach es X.env).findIdx? (·.1)=none:=by rfl):PG X (.Tuple es k pos) (xx X.K n t):=by
 intro pins s σ H v u Q I r hw;obtain⟨a,xs,e1,hq,hl,hw⟩:=hw;subst e1;cases r;obtain⟨its,rv,ht,hz⟩:=I.tuple hq;refine assign_Tuple_tuple (I.ok.hd hc) ht (by simp [hn,<- hl,rv.length]) cO λh' hx=>?_;have I1:Inv X pins σ H {s with heap:=h'}:=I.kept (t':=s.toks) λb o e=>hx b o (Bp<|Ar e) e;exact h pins _ σ H xs _ Q I1 (by simpa using rv) hw
def p5(te:TE)(g:TG):TS:=λD σ H=>te σ H λx H1=>g x σ H1 D.nx
theorem OS{tg e:Expr}{te:TE}{g:TG}(he:PE X e te)(hg:PG X tg g)(hs:swapsWithSole [tg] e pos.line X.env=pure false:=by rfl)(hw:swappedStores [tg] e X.env=pure none:=by rfl)
  (h1:(assignEach [tg] X.env).map (·.2)=[assign tg X.env]:=by rfl):PS X (.Assign [tg] e pos) (p5 te g):=by
 intro pins s σ H D I h;refine wpAny_Assign_stores (aE (he pins s σ H _ I h) λv s1 ⟨x,H1,I1,r1,q1⟩=>?_) hs hw;rw [h1];exact aE (hg pins s1 σ H1 x v _ I1 r1 q1) λ_ s2 q=>q
theorem OT{i:Nat}{x:Str}{e:Expr}{te:TE}{pos':Pos}(hN:X.N.Nodup)(hi:X.N[i]?=some x)(hx:Loc X.env.scope x)(he:PE X e te)(hs:swapsWith e (some<|.Name x pos') pos.line X.env=pure false:=by rfl)(hf:X.fn x=true\/X.env.scope.names.lookup x=some .local:=by first | exact .inl rfl | exact .inr rfl | assumption) :
  PS X (.Assign [.Name x pos'] e pos) (p5 te<|FH i):=by
 intro pins s σ H D I h;refine wpAny_Assign_Name (aE (he pins s σ H _ I h) λv s1 ⟨y,H1,I1,r1,q1⟩=>?_) hs;exact FE I1 hN hi hx r1 (λs2 I2=>⟨_,H1,I2,q1⟩) hf
def OU(c:TT)(tb:TS):TS:=λD σ H=>∃ W:Nat->St->Hp->Prop,(∃ m,W m σ H)/\∀ m σ H,W m σ H ->
 c σ H λb H1=>if b=true then ∃ N:St->Hp->Prop,(∀ σ' H',N σ' H'->∃ m',m' < m/\W m' σ' H')/\tb {D with nx:=N,ct:=N,bk:=D.nx} σ H1 else D.nx σ H1
theorem OV{c:Expr}{body:List Stmt}{tc:TT}{tb:TS}(hp:PassesOwn (model X.prog X.w) X.A X.env X.xe)(hc:PT X c tc)(hb:gn X body tb):PS X (.While c body [] pos) (OU tc tb):=by
 intro pins s σ H D I h;obtain⟨W,⟨m0,w0⟩,turn⟩:=h;refine wpAny_While<|codeAny_whileLoop (λn s'=>∃ σ' H',Inv X pins σ' H' s'/\W n σ' H') ?_ m0 ⟨σ,H,I,w0⟩;rintro n s1 ⟨σ1,H1,I1,w1⟩;refine FZ hp<|aE (hc pins s1 σ1 H1 _ I1<|turn n σ1 H1 w1) λb s2 ⟨H2,I2,q2⟩=>?_;cases b with
 | true=>
  obtain⟨N,hN,q2⟩:=q2;rw [BL rfl];refine FZ hp<|aE (hb pins s2 σ1 H2 _ I2 q2) λf s3 q3=>?_;cases f with
  | next=>
   obtain⟨σ3,H3,I3,n3⟩:=q3;obtain⟨m',hm,w3⟩:=hN σ3 H3 n3;exact⟨m',hm,σ3,H3,I3,w3⟩
  | cont=>
   obtain⟨σ3,H3,I3,n3⟩:=q3;obtain⟨m',hm,w3⟩:=hN σ3 H3 n3;exact⟨m',hm,σ3,H3,I3,w3⟩
  | brk=>exact q3
  | ret v=>exact q3
 | false=>
  rw [BP Ao];exact QG ⟨σ1,H2,I2,q2⟩
end
structure It where
 go:Nat->Hp->Prop
 p7:Nat->Hp->V->Hp->Prop
 stop:Nat->Hp->Prop
def bR(X:Cx)(pins:List<|Addr×Obj)(H:Hp)(b:Addr):Prop:=
 H b=none/\b≠X.env.locals/\b∉X.fs/\(b∈X.ex\/X.s₀.heap.objs.size<=b)/\(∀ x c,X.env.cells.lookup x=some c->c≠b)/\∀ p∈X.pn++pins,p.1≠b
theorem Inv.dF{X:Cx}{pins:List (Addr×Obj)}{σ:St}{H H':Hp}{s:Shared}{b:Addr}(I:Inv X pins σ H s)(hb:s.heap.objs.size<=b)(hn:H' b=none):bR X pins H' b:=by
 refine⟨hn,Cq<|Bk I.lt hb,I.xh hb,.inr<|Bz I.sz hb,λx c e z=>?_,λp hp z=>?_⟩
 ·obtain⟨v,q⟩:=I.cell x c e;exact absurd (Bk q.lt<|by rw [z];exact hb)<|Ch _
 ·exact absurd (Bk (Ar (I.pin p hp).1)<|by rw [z];exact hb)<|Ch _
structure Turn(P:Program)(w:World)(K:PySem.W.Frag)(tg:Expr)(J:It)(fp:List Addr)(it:Addr)(tn:Nat->Heap->Prop):Prop where
 mem:it∈fp
 obj:∀ i h,tn i h->∀ b∈fp,∃ o,h.get? b=some o/\∀ v,o.data ≠ .cell v
 keep:∀ i h h',tn i h->(∀ b∈fp,∀ o,h.get? b=some o->h'.get? b=some o)->tn i h'
 item:∀(X:Cx),X.prog=P->X.w=w->X.K=K->X.calm=true->∀(i:Nat) (pins:List<|Addr×Obj) (s:Shared) (σ:St) (H:Hp) (E:Value->Shared->Prop),Inv X pins σ H s->(∀ b∈fp,bR X pins H b)->tn i s.heap->J.go i H ->
  wpAny (model P w) X.A (pyNext<|.ref it) (λr s1=>∃ u,r=some u /\
   wpAny (model P w) X.A (letOwnedTupleGo tg (.ref it) u) (λ_ s2=>∃ x H',Inv X pins σ H' s2/\RelV x u/\J.p7 i H x H'/\tn (i+1) s2.heap/\∀ b∈fp,H' b=none) E s1) E s
 done:∀(X:Cx),X.prog=P->X.w=w->X.K=K->X.calm=true->∀(i:Nat) (pins:List<|Addr×Obj) (s:Shared) (σ:St) (H:Hp) (E:Value->Shared->Prop),Inv X pins σ H s->(∀ b∈fp,bR X pins H b)->tn i s.heap->J.stop i H ->
  wpAny (model P w) X.A (pyNext<|.ref it) (λr s1=>r=none/\Inv X pins σ H s1) E s
 self:∀(A:Around) (i:Nat) (s:Shared) (Q:Value->Shared->Prop) (E:Value->Shared->Prop),tn i s.heap->Q (.ref it) s->wpAny (model P w) A (pyIter<|.ref it) Q E s
abbrev TI:=St->Hp->(It->Hp->Prop)->Prop
def FK(X:Cx)(pins:List<|Addr×Obj)(σ:St)(tg:Expr)(R:It->Hp->Prop)(gq:Value)(s2:Shared):Prop:=
 ∃(it:Addr) (fp:List Addr) (tn:Nat->Heap->Prop) (J:It) (H':Hp),gq = .ref it/\Inv X pins σ H' s2/\Turn X.prog X.w X.K tg J fp it tn/\tn 0 s2.heap/\(∀ b∈fp,bR X pins H' b)/\R J H'
def PI(X:Cx)(tg iter:Expr)(wi:TI):Prop:=
 ∀(pins:List<|Addr×Obj) (s:Shared) (σ:St) (H:Hp) (R:It->Hp->Prop),Inv X pins σ H s->wi σ H R ->
  wpAny (model X.prog X.w) X.A (eval iter X.env) (λv s1=>wpAny (model X.prog X.w) X.A (pyIter v) (FK X pins σ tg R) X.xe s1) X.xe s
theorem oq{M:Model}{A:Around}{E:Value->Shared->Prop}{s:Shared}{tg:Expr}{it:Addr}{u:Value}{o:Obj}{n:String}{vs:Array Value}{Q:Unit->Shared->Prop}(ho:s.heap.get? it=some o)(hc:o.cls = .type n)(hd:o.data = .fields vs)
    (hn:["enumerate","zip","dict_itemiterator","dict_reverseitemiterator","odict_iterator","itertools.zip_longest","itertools.pairwise"].contains n=false) (hQ:Q () s):wpAny M A (letOwnedTupleGo tg (.ref it) u) Q E s:=by
  unfold letOwnedTupleGo;cases tg <;> first
    | exact BK hQ
    | (cases u <;> first
        | exact BK hQ
        | (refine BJ<|wpAny_load ho ?_
           rw [hc,hd];show wpAny M A (if(["enumerate","zip","dict_itemiterator","dict_reverseitemiterator","odict_iterator","itertools.zip_longest","itertools.pairwise"].contains n && vs[0]? == some (rawInt _))=true then _ else _) Q E s;rw [BP<|by intro h;rw [hn,Bool.false_and] at h;cases h];exact BK hQ))
def ot(K:PySem.W.Frag)(a:Addr):It:=
 ⟨λi H=>∃ xs x,ak K H a xs/\xs[i]?=some x,λi H x H'=>H'=H/\∀ xs,ak K H a xs->xs[i]?=some x,λi H=>∃ xs,ak K H a xs/\xs.length<=i⟩
def uv(K:PySem.W.Frag)(a:Addr):It:=
 ⟨λi H=>∃ xs x,aM K H a xs/\xs[i]?=some x,λi H x H'=>H'=H/\∀ xs,aM K H a xs->xs[i]?=some x,λi H=>∃ xs,aM K H a xs/\xs.length<=i⟩
def ou(lo:Int)(n:Nat):It:=⟨λi _=>i < n,λi H x H'=>H'=H/\x = .int (lo+i),λi _=>n<=i⟩
theorem OW{P:Program}{w:World}{K:PySem.W.Frag}{tg:Expr}(a it:Addr):Turn P w K tg (ot K a) [it] it (λi h=>h.IsListIter it a i) where
 mem:=by simp
 obj:=λi h st b hb=>by
  have e:b=it:=by simpa using hb
  subst e;obtain⟨o,e,c,d⟩:=st;exact⟨o,e,λv z=>by rw [d] at z;cases z⟩
 keep:=λi h h' st k=>st.at λo e=>k it (by simp) o e
 item:=by
  intro X hP hw hK hc i pins s σ H E I hf st hg;subst hP hw hK;obtain⟨xs,x,hq,hx⟩:=hg;obtain⟨its,rv,p,hz⟩:=I.list hq;obtain⟨u,hu,ru⟩:=rv.get hx;obtain⟨f0,f1,f2,f3,f4,f5⟩:=hf it (by simp);refine wpAny_pyNext_list_item st p.isList (x:=u) (by simpa using hu) λh' cC sb=>?_;have I1:Inv X pins σ H {s with heap:=h'}:=I.turned (t':=s.toks) (λb o hb e=>(sb.2 b hb).trans e) f0 f1 f3 f4 f5;obtain⟨o,e,c,d⟩:=id cC;exact⟨u,rfl,oq (s:={s with heap:=h'}) e c d (by decide) ⟨x,H,I1,ru,⟨rfl,λys hy=>by rw [I.cj hy hq];exact hx⟩,cC,λb hb=>(hf b hb).1⟩⟩
 done:=by
  intro X hP hw hK hc i pins s σ H E I hf st hg;subst hP hw hK;obtain⟨xs,hq,hx⟩:=hg;obtain⟨its,rv,p,hz⟩:=I.list hq;obtain⟨f0,f1,f2,f3,f4,f5⟩:=hf it (by simp);have hl:=rv.length;exact wpAny_pyNext_list_end (I.ok.hd hc) st p.isList (by simp;omega) λh' eb=>⟨rfl,I.turned (t':=s.toks) (λb o hb e=>eb b o hb e) f0 f1 f3 f4 f5⟩
 self:=λ_ _ _ _ _ st h=>wpAny_pyIter_listiter st h
theorem OX{P:Program}{w:World}{K:PySem.W.Frag}{tg:Expr}(a it:Addr):Turn P w K tg (uv K a) [it] it (λi h=>h.IsTupleIter it a i) where
 mem:=by simp
 obj:=λi h st b hb=>by
  have e:b=it:=by simpa using hb
  subst e;obtain⟨o,e,c,d⟩:=st;exact⟨o,e,λv z=>by rw [d] at z;cases z⟩
 keep:=λi h h' st k=>st.at λo e=>k it (by simp) o e
 item:=by
  intro X hP hw hK hc i pins s σ H E I hf st hg;subst hP hw hK;obtain⟨xs,x,hq,hx⟩:=hg;obtain⟨its,rv,p,hz⟩:=I.tuple hq;obtain⟨u,hu,ru⟩:=rv.get hx;obtain⟨f0,f1,f2,f3,f4,f5⟩:=hf it (by simp);refine wpAny_pyNext_tuple_item st (show s.heap.IsTuple a its.toArray from p) (x:=u) (by simpa using hu) λh' cC sb=>?_;have I1:Inv X pins σ H {s with heap:=h'}:=I.turned (t':=s.toks) (λb o hb e=>(sb.2 b hb).trans e) f0 f1 f3 f4 f5;obtain⟨o,e,c,d⟩:=id cC;exact⟨u,rfl,oq (s:={s with heap:=h'}) e c d (by decide) ⟨x,H,I1,ru,⟨rfl,λys hy=>by rw [I.gp hy hq];exact hx⟩,cC,λb hb=>(hf b hb).1⟩⟩
 done:=by
  intro X hP hw hK hc i pins s σ H E I hf st hg;subst hP hw hK;obtain⟨xs,hq,hx⟩:=hg;obtain⟨its,rv,p,hz⟩:=I.tuple hq;obtain⟨f0,f1,f2,f3,f4,f5⟩:=hf it (by simp);have hl:=rv.length;exact wpAny_pyNext_tuple_end (I.ok.hd hc) st (show s.heap.IsTuple a its.toArray from p) (by simp;omega) λh' eb=>⟨rfl,I.turned (t':=s.toks) (λb o hb e=>eb b o hb e) f0 f1 f3 f4 f5⟩
 self:=λ_ _ _ _ _ st h=>wpAny_pyIter_tupleiter st h
theorem OY{P:Program}{w:World}{K:PySem.W.Frag}{tg:Expr}(it:Addr)(lo:Int)(n:Nat):Turn P w K tg (ou lo n) [it] it (λi h=>IsRangeIter h it (lo+(i:Nat) * 1) ((n:Int) - (i:Nat)) 1) where
 mem:=by simp
 obj:=λi h st b hb=>by
  have e:b=it:=by simpa using hb
  subst e;exact⟨_,st,λv z=>by
   have z':Data.fields _=Data.cell v:=z;cases z'⟩
 keep:=λi h h' st k=>k it (by simp) _ st
 item:=by
  intro X hP hw hK hc i pins s σ H E I hf st hg;subst hP hw hK;obtain⟨f0,f1,f2,f3,f4,f5⟩:=hf it (by simp);have W:=Walks.range (prog:=X.prog) (w:=X.w) (I.ok.hd hc) it lo 1 n;refine W.item i s _ _ hg st λv h' tk hv cC kk=>?_;obtain⟨t,rfl⟩:=hv;have I1:Inv X pins σ H {s with heap:=h',toks:=tk}:=I.turned (λb o hb e=>kk b o (by simpa using hb) e) f0 f1 f3 f4 f5;refine⟨_,rfl,oq (s:={s with heap:=h',toks:=tk}) (n:= "range_iterator") cC rfl rfl (by decide) ⟨.int<|lo+i,H,I1,⟨t,?_⟩,⟨rfl,rfl⟩,cC,λb hb=>(hf b hb).1⟩⟩;rw [Int.mul_one]
 done:=by
  intro X hP hw hK hc i pins s σ H E I hf st hg;subst hP hw hK;obtain⟨f0,f1,f2,f3,f4,f5⟩:=hf it (by simp);exact wpAny_pyNext_range_end (I.ok.hd hc) st (by have:n<=i:=hg;omega) λh' eb=>⟨rfl,I.turned (t':=s.toks) (λb o hb e=>eb b o hb e) f0 f1 f3 f4 f5⟩
 self:=λ_ _ _ _ _ st h=>wpAny_pyIter_rangeiter st h
section
variable{X:Cx}{tg:Expr}
def OZ(K:PySem.W.Frag)(tl:TE):TI:=λσ H R=>tl σ H λx H1=>∃ a,x = .ref a/\(∃ xs,ak K H1 a xs)/\R (ot K a) H1
def xA(K:PySem.W.Frag)(tl:TE):TI:=λσ H R=>tl σ H λx H1=>∃ a,x = .ref a/\(∃ xs,aM K H1 a xs)/\R (uv K a) H1
theorem gs{l:Expr}{tl:TE}(hl:PE X l tl):PI X tg l (OZ X.K tl):=by
 intro pins s σ H R I h;refine aE (hl pins s σ H _ I h) λv s1 ⟨x,H1,I1,r1,q1⟩=>?_;obtain⟨a,e,⟨xs,hq⟩,q⟩:=q1;subst e;cases r1;obtain⟨its,rv,p,hz⟩:=I1.list hq;refine wpAny_pyIter_list p.isList ?_;refine⟨s1.heap.objs.size,[s1.heap.objs.size],_,_,H1,rfl,I1.kept (t':=s1.toks) λb o e=>Ae _ e,OW a _,⟨_,An _ rfl,rfl,rfl⟩,λb hb=>?_,q⟩;have e:b=s1.heap.objs.size:=by simpa using hb
 subst e;exact I1.dF (Ag _)<|I1.aC.fresh<|Ag _
theorem O0{l:Expr}{tl:TE}(hl:PE X l tl):PI X tg l (xA X.K tl):=by
 intro pins s σ H R I h;refine aE (hl pins s σ H _ I h) λv s1 ⟨x,H1,I1,r1,q1⟩=>?_;obtain⟨a,e,⟨xs,hq⟩,q⟩:=q1;subst e;cases r1;obtain⟨its,rv,p,hz⟩:=I1.tuple hq;refine wpAny_pyIter_tuple (show s1.heap.IsTuple a its.toArray from p) ?_;refine⟨s1.heap.objs.size,[s1.heap.objs.size],_,_,H1,rfl,I1.kept (t':=s1.toks) λb o e=>Ae _ e,OX a _,⟨_,An _ rfl,rfl,rfl⟩,λb hb=>?_,q⟩;have e:b=s1.heap.objs.size:=by simpa using hb
 subst e;exact I1.dF (Ag _)<|I1.aC.fresh<|Ag _
theorem O1{pins:List (Addr×Obj)}{σ:St}{H:Hp}{s:Shared}{R:It->Hp->Prop}{E:Value->Shared->Prop}{lo hi:Int}{t u v:Tok}{tk:Nat}(I:Inv X pins σ H s)(h1:-(2 ^ 62)<=lo)(h2:lo < 2 ^ 62)(h3:-(2 ^ 62)<=hi)(h4:hi < 2 ^ 62)
  (q:R (ou lo (hi - lo).toNat) H):wpAny (model X.prog X.w) X.A (pyIter<|.ref s.heap.objs.size) (FK X pins σ tg R) E {s with heap:=s.heap.push {cls:= .type "range",data:= .fields #[.int lo t,.int hi u,.int 1 v]},toks:=tk}:=by
 refine wpAny_pyIter_range (IsRange.new ..) (small_one h1 h2 h3 h4) ?_;have I1:Inv X pins σ H {s with heap:=s.heap.push {cls:= .type "range",data:= .fields #[.int lo t,.int hi u,.int 1 v]},toks:=tk}:=I.kept λb o e=>Ae _ e;refine⟨(s.heap.push {cls:= .type "range",data:= .fields #[.int lo t,.int hi u,.int 1 v]}).objs.size,[(s.heap.push {cls:= .type "range",data:= .fields #[.int lo t,.int hi u,.int 1 v]}).objs.size],_,_,H,rfl,
  I1.kept (t':=tk) λb o e=>Ae _ e,OY _ lo (hi - lo).toNat,?_,λb hb=>?_,q⟩
 ·have e1:lo+((0:Nat):Int) * 1=lo:=by simp
  have e2:(((hi - lo).toNat:Nat):Int) - ((0:Nat):Int)=Builtin.Range.rangeSize lo hi 1:=by rw [rangeSize_one];split <;> omega
  show IsRangeIter _ _ (lo+((0:Nat):Int) * 1) ((((hi - lo).toNat:Nat):Int) - ((0:Nat):Int)) 1;rw [e1,e2];exact An _ rfl
 ·have e:b=(s.heap.push {cls:= .type "range",data:= .fields #[.int lo t,.int hi u,.int 1 v]}).objs.size:=by simpa using hb
  subst e;exact I1.dF (Ag _)<|I1.aC.fresh<|Ag _
def FL(ta:TA):TI:=λσ H R=>ta σ H λvs H1=>∃ j:Int,vs=[.int j]/\-(2 ^ 62)<=j/\j < 2 ^ 62/\R (ou 0 j.toNat) H1
theorem xB{a:Expr}{ta:TA}{p pos:Pos}(hg:Gl X "range")(hm:X.mg "range" = none)(ha:PA X [a] ta)(hs:starEach [a] X.env=[(false,eval a X.env)]:=by rfl):PI X tg (.Call (.Name "range" p) [a] [] pos) (FL ta):=by
 intro pins s σ H R I h;refine Call_<|i4 I hg hm boot_range<|DX (aE (ha pos pins s σ H _ I h) λus s1 ⟨vs,H1,I1,r1,q1⟩=>?_) hs rfl;obtain⟨j,e,q1,q2,q⟩:=q1;subst e;cases r1 with
 | cons r rr=>
  cases rr;obtain⟨t,rfl⟩:=r;exact call_range_1<|O1 I1 (by omega) (by omega) q1 q2<|by simpa using q
def xC(wi:TI)(g:TG)(tb:TS):TS:=λD σ H=>wi σ H λJ H1=>∃ W:Nat->Nat->St->Hp->Prop,(∃ m,W 0 m σ H1)/\∀ i m σ H,W i m σ H ->
 (J.stop i H/\D.nx σ H)\/(J.go i H/\∃ N:St->Hp->Prop,(∀ σ' H',N σ' H'->∃ m',m' < m/\W (i+1) m' σ' H')/\∀ x H',J.p7 i H x H'->g x σ H' λσ2 H2=>tb {D with nx:=N,ct:=N,bk:=D.nx} σ2 H2)
def p8(fp:List Addr)(h:Heap):List (Addr×Obj):=fp.filterMap λb=>(h.get? b).map λo=>(b,o)
theorem uw{fp:List Addr}{h:Heap}{b:Addr}{o:Obj}(hb:b∈fp)(e:h.get? b=some o):(b,o)∈p8 fp h:=Fc.mpr ⟨b,hb,by rw [e];rfl⟩
theorem O2{fp:List Addr}{h:Heap}{p:Addr×Obj}(hp:p∈p8 fp h):p.1∈fp/\h.get? p.1=some p.2:=by
 obtain⟨b,hb,e⟩:=Fc.mp hp;cases q:h.get? b with
 | none=>rw [q] at e;cases e
 | some o=>
  rw [q] at e;have e':(b,o)=p:=Option.some.inj e;subst e';exact⟨hb,q⟩
theorem Inv.pinned{pins:List (Addr×Obj)}{σ:St}{H:Hp}{s:Shared}{fp:List Addr}(I:Inv X pins σ H s)(hf:∀ b∈fp,bR X pins H b)(ho:∀ b∈fp,∃ o,s.heap.get? b=some o/\∀ v,o.data ≠ .cell v):Inv X (pins++p8 fp s.heap) σ H s:=
 I.fK λp hp=>(Aq.mp hp).elim (λz=>I.pin p<|Az _ z) λz=>by
  obtain⟨hb,e⟩:=O2 z;obtain⟨f0,f1,f2,_⟩:=hf p.1 hb;obtain⟨o,e',d⟩:=ho p.1 hb;rw [e] at e';cases e';exact⟨e,f0,f1,f2,d⟩
theorem Inv.cm{pins pl:List (Addr×Obj)}{σ:St}{H:Hp}{s:Shared}(I:Inv X (pins++pl) σ H s):Inv X pins σ H s:=I.fK λp hp=>I.pin p<|Az _<|Bl _ hp
theorem O3{iter:Expr}{body:List Stmt}{wi:TI}{g:TG}{tb:TS}{pos:Pos}(hp:PassesOwn (model X.prog X.w) X.A X.env X.xe)(hc:X.calm=true)(hi:PI X tg iter wi)(hg:PG X tg g)(hb:gn X body tb)
  (hs:∀ x,foldedSetIterable iter X.env x=pure x:=by intro _;rfl):PS X (.For tg iter body [] pos) (xC wi g tb):=by
 intro pins s σ H D I h;refine wpAny_For (aE (hi pins s σ H _ I h) λv s1 h1=>aE h1 λgq s2 h2=>?_) hs;obtain⟨it,fp,tn,J,H2,e,I2,T,bZ,f2,W,⟨m0,w0⟩,turn⟩:=h2;subst e;have stat:∀{H':Hp},(∀ b∈fp,H' b=none)->∀ b∈fp,bR X pins H' b:=λhn b hb=>⟨hn b hb,(f2 b hb).2⟩;refine codeAny_forLoop_any (λn s'=>∃ i σ' H',Inv X pins σ' H' s'/\tn i s'.heap/\(∀ b∈fp,H' b=none)/\W i n σ' H') ?_ m0 ⟨0,σ,H2,I2,bZ,λb hb=>(f2 b hb).1,w0⟩;rintro n s3 ⟨i,σ3,H3,I3,FO,FR,w3⟩
 rcases turn i n σ3 H3 w3 with ⟨stop,qn⟩ | ⟨go,N,hN,step⟩
 ·refine FZ hp<|aE (T.done X rfl rfl rfl hc i pins s3 σ3 H3 X.xe I3 (stat FR) FO stop) λr s4 ⟨hr,I4⟩=>?_;subst hr;exact QG ⟨σ3,H3,I4,qn⟩
 ·refine FZ hp<|aE (T.item X rfl rfl rfl hc i pins s3 σ3 H3 X.xe I3 (stat FR) FO go) λr s4 ⟨u,hr,h4⟩=>?_;subst hr;refine FZ hp<|aE h4 λ_ s5 ⟨x,H5,I5,r5,y5,xD,O4⟩=>?_;have O5:=I5.pinned (stat O4)<|T.obj _ _ xD;refine FZ hp<|aE (hg _ s5 σ3 H5 x u _ O5 r5<|step x H5 y5) λ_ s6 ⟨σ6,H6,I6,q6⟩=>?_;refine FZ hp<|aE (hb _ s6 σ6 H6 _ I6 q6) λf s7 q7=>?_;have again:∀{σ7:St} {H7:Hp},Inv X (pins++p8 fp s5.heap) σ7 H7 s7->N σ7 H7->∃ m,m < n/\∃ i σ' H',Inv X pins σ' H' s7/\tn i s7.heap/\(∀ b∈fp,H' b=none)/\W i m σ' H':=λ{σ7 H7} I7 n7=>by
   obtain⟨m',hm,w7⟩:=hN σ7 H7 n7;refine⟨m',hm,i+1,σ7,H7,I7.cm,T.keep _ _ _ xD λb hb o e=>(I7.pin (b,o)<|Az _<|Az _<|uw hb e).1,λb hb=>?_,w7⟩;obtain⟨o,e,d⟩:=T.obj _ _ xD b hb;exact(I7.pin (b,o)<|Az _<|Az _<|uw hb e).2.1
  cases f with
  | next=>obtain⟨σ7,H7,I7,n7⟩:=q7;exact again I7 n7
  | cont=>obtain⟨σ7,H7,I7,n7⟩:=q7;exact again I7 n7
  | brk=>obtain⟨σ7,H7,I7,q7⟩:=q7;exact⟨σ7,H7,I7.cm,q7⟩
  | ret v=>obtain⟨x7,σ7,H7,I7,r7,q7⟩:=q7;exact⟨x7,σ7,H7,I7.cm,r7,q7⟩
end
abbrev R2:=V->V->Hp->VK->Prop
def cn(X:Cx)(f:Value->Value->Sem Value)(r:R2):Prop:=
 ∀(pins:List<|Addr×Obj) (s:Shared) (σ:St) (H:Hp) (x y:V) (v u:Value) (Q:VK),Inv X pins σ H s->RelV x v->RelV y u->r x y H Q ->
  wpAny (model X.prog X.w) X.A (f v u) (EP X pins σ Q) X.xe s
def uz(X:Cx)(f:Value->Sem Value)(r:V->Hp->VK->Prop):Prop:=
 ∀(pins:List<|Addr×Obj) (s:Shared) (σ:St) (H:Hp) (x:V) (v:Value) (Q:VK),Inv X pins σ H s->RelV x v->r x H Q ->
  wpAny (model X.prog X.w) X.A (f v) (EP X pins σ Q) X.xe s
def gU(X:Cx)(f:Value)(r:List V->Hp->VK->Prop):Prop:=
 ∀(pins:List<|Addr×Obj) (s:Shared) (σ:St) (H:Hp) (xs:List V) (us:List Value) (Q:VK),Inv X pins σ H s->aq xs us->r xs H Q ->
  wpAny (model X.prog X.w) X.A (call f us) (EP X pins σ Q) X.xe s
def xE(X:Cx)(r:V->Hp->(Bool->Hp->Prop)->Prop):Prop:=
 ∀(pins:List<|Addr×Obj) (s:Shared) (σ:St) (H:Hp) (x:V) (v:Value) (Q:Bool->Hp->Prop),Inv X pins σ H s->RelV x v->r x H Q ->
  wpAny (model X.prog X.w) X.A (truthy v) (TP X pins σ Q) X.xe s
def uA(r:R2)(ta tb:TE):TE:=λσ H Q=>ta σ H λx H1=>tb σ H1 λy H2=>r x y H2 Q
def O6(r:V->Hp->VK->Prop)(ta:TE):TE:=λσ H Q=>ta σ H λx H1=>r x H1 Q
def rI(C:Int->Int->Prop)(g:Int->Int->V):R2:=λx y H Q=>∃ i j,x = .int i/\y = .int j/\C i j/\Q (g i j) H
def oz(g:Int->Int->V):R2:=λx y H Q=>∃ i j,x = .int i/\y = .int j/\Q (g i j) H
def rU(g:Int->V):V->Hp->VK->Prop:=λx H Q=>∃ i,x = .int i/\Q (g i) H
section
variable{X:Cx}{a b c:Expr}{ta tb tc:TE}{pos:Pos}
theorem lV(ha:PE X a ta)(hb:PE X b tb){pins:List (Addr×Obj)}{s:Shared}{σ:St}{H:Hp}{R:V->V->Hp->Prop}(I:Inv X pins σ H s)
  (h:ta σ H λx H1=>tb σ H1 λy H2=>R x y H2) {Q:Value->Shared->Prop} {f:Value->Value->Sem Value}
  (hf:∀ v u s2 x y H2,Inv X pins σ H2 s2->RelV x v->RelV y u->R x y H2->wpAny (model X.prog X.w) X.A (f v u) Q X.xe s2) :
  wpAny (model X.prog X.w) X.A (eval a X.env) (λv s₁=>wpAny (model X.prog X.w) X.A (eval b X.env) (λu s₂=>wpAny (model X.prog X.w) X.A (f v u) Q X.xe s₂) X.xe s₁) X.xe s:=by
 refine aE (ha pins s σ H _ I h) λv s1 ⟨x,H1,I1,r1,q1⟩=>?_;refine aE (hb pins s1 σ H1 _ I1 q1) λu s2 ⟨y,H2,I2,r2,q2⟩=>?_;exact hf v u s2 x y H2 I2 r1 r2 q2
theorem O7{op:Operator}{r:R2}(ho:cn X (binaryOp op) r)(ha:PE X a ta)(hb:PE X b tb):PE X (.BinOp a op b pos) (uA r ta tb):=by
 intro pins s σ H Q I h;exact wpAny_BinOp<|lV ha hb I h λv u s2 x y H2 I2 rx ry q=>ho pins s2 σ H2 x y v u Q I2 rx ry q
theorem O8{op:UnaryOp}{r:V->Hp->VK->Prop}(ho:uz X (unaryOp op) r)(ha:PE X a ta):PE X (.UnaryOp op a pos) (O6 r ta):=by
 intro pins s σ H Q I h;exact UnaryOp_<|aE (ha pins s σ H _ I h) λv s1 ⟨x,H1,I1,r1,q1⟩=>ho pins s1 σ H1 x v Q I1 r1 q1
theorem uB{f:Value->Value->Sem Value}{C:Int->Int->Prop}{g:Int->Int->Int}
  (rule:∀(i j:Int) (t u:Tok) (s:Shared) (Q:Value->Shared->Prop) (E:Value->Shared->Prop),C i j->Q (.int (g i j) s.toks) {s with toks:=s.toks+1}->wpAny (model X.prog X.w) X.A (f (.int i t)<|.int j u) Q E s) :
  cn X f (rI C λi j=> .int<|g i j):=by
 intro pins s σ H x y v u Q I rx ry h;obtain⟨i,j,rfl,rfl,hc,q⟩:=h;obtain⟨t,rfl⟩:=rx;obtain⟨t',rfl⟩:=ry;exact rule i j t t' s _ _ hc ⟨.int<|g i j,H,I.tok _,⟨_,rfl⟩,q⟩
theorem p9{f:Value->Value->Sem Value}{g:Int->Int->Int}
  (rule:∀(i j:Int) (t u:Tok) (s:Shared) (Q:Value->Shared->Prop) (E:Value->Shared->Prop),Q (.int (g i j) s.toks) {s with toks:=s.toks+1}->wpAny (model X.prog X.w) X.A (f (.int i t)<|.int j u) Q E s) :
  cn X f (oz λi j=> .int<|g i j):=by
 intro pins s σ H x y v u Q I rx ry h;obtain⟨i,j,rfl,rfl,q⟩:=h;obtain⟨t,rfl⟩:=rx;obtain⟨t',rfl⟩:=ry;exact rule i j t t' s _ _ ⟨.int<|g i j,H,I.tok _,⟨_,rfl⟩,q⟩
theorem qa{f:Value->Value->Sem Value}{g:Int->Int->Bool}
  (rule:∀(i j:Int) (t u:Tok) (s:Shared) (Q:Value->Shared->Prop) (E:Value->Shared->Prop),Q (.bool<|g i j) s->wpAny (model X.prog X.w) X.A (f (.int i t)<|.int j u) Q E s) :
  cn X f (oz λi j=> .bl<|g i j):=by
 intro pins s σ H x y v u Q I rx ry h;obtain⟨i,j,rfl,rfl,q⟩:=h;obtain⟨t,rfl⟩:=rx;obtain⟨t',rfl⟩:=ry;exact rule i j t t' s _ _ ⟨.bl<|g i j,H,I,rfl,q⟩
def qb(i j:Int):Prop:=0 < j/\j < 1073741824
def xF(i j:Int):Prop:=0<=j/\j<=1000000/\i.natAbs < 2 ^ 64
def lW(i j:Int):Prop:=(-(2 ^ 64) < i/\i < 2 ^ 64)\/(-(2 ^ 64) < j/\j < 2 ^ 64)
theorem lW.ok{i j:Int}(h:lW i j):IntMulOk i j:=by
 rcases h with ⟨h1,h2⟩ | ⟨h1,h2⟩
 ·exact .of_left<|intBits_le_64 h1 h2
 ·exact .of_right<|intBits_le_64 h1 h2
theorem d0:cn X (binaryOp .Add) (oz λi j=> .int<|i+j):=p9 λ_ _ _ _ _ _ _ q=>add_int q
theorem O9:cn X (binaryOp .Sub) (oz λi j=> .int<|i - j):=p9 λ_ _ _ _ _ _ _ q=>sub_int q
theorem uC:cn X (binaryOp .Mult) (rI lW λi j=> .int<|i * j):=uB λ_ _ _ _ _ _ _ hc q=>mul_int q hc.ok
theorem fO:cn X (binaryOp .FloorDiv) (rI qb λi j=> .int<|i / j):=uB λi j _ _ _ _ _ hc q=>by
 have h1:(0:Int) < j:=hc.1;have h2:j < 1073741824:=hc.2;exact floordiv_int (by omega) (by rw [Int.fdiv_eq_ediv_of_nonneg i<|by omega];exact q)<|.inl<|QX<|by omega
theorem cI:cn X (binaryOp .Mod) (rI (λ_ j=>0 < j) λi j=> .int<|i % j):=uB λi j _ _ _ _ _ hc q=>by
 have h1:(0:Int) < j:=hc;exact mod_int' (by omega)<|by rw [Int.fmod_eq_emod_of_nonneg i<|by omega];exact q
theorem FU:cn X (binaryOp .Pow) (rI xF λi j=> .int<|i ^ j.toNat):=uB λ_ _ _ _ _ _ _ hc q=>pow_int_small hc.1 hc.2.1 hc.2.2 q
theorem O'{f:Value->Sem Value}{g:Int->Int}
  (rule:∀(i:Int) (t:Tok) (s:Shared) (Q:Value->Shared->Prop) (E:Value->Shared->Prop),Q (.int (g i) s.toks) {s with toks:=s.toks+1}->wpAny (model X.prog X.w) X.A (f<|.int i t) Q E s) :
  uz X f (rU λi=> .int<|g i):=by
 intro pins s σ H x v Q I rx h;obtain⟨i,rfl,q⟩:=h;obtain⟨t,rfl⟩:=rx;exact rule i t s _ _ ⟨.int<|g i,H,I.tok _,⟨_,rfl⟩,q⟩
theorem FV:uz X (unaryOp .USub) (rU λi=> .int (-i)):=O' λ_ _ _ _ _ q=>neg_int q
def qd:V->V->Bool
 | .non,.non=>true | .non,.int _=>true | .int _,.non=>true | .non,.bl _=>true | .bl _,.non=>true | .non,.str _=>true | .str _,.non=>true
 | .int _,.int _=>true | .bl _,.bl _=>true | .str _,.str _=>true | .gl _,.gl _=>true
 | .int _,.str _=>true | .str _,.int _=>true | .bl _,.str _=>true | .str _,.bl _=>true
 | _,_=>false
def Pa:R2:=λx y H Q=>qd x y=true/\Q (.bl<|decide (x=y)) H
def Pb:R2:=λx y H Q=>qd x y=true/\Q (.bl (!decide (x=y))) H
theorem FX{i j:Int}:decide (V.int i=V.int j)=(i == j):=by
 rw [Cz];simp
theorem FY{i j:Bool}:decide (V.bl i=V.bl j)=(i == j):=by
 rw [Cz];simp
theorem F0{i j:Str}:decide (V.str i=V.str j)=(i == j):=by
 rw [Cz];simp
theorem F1{i j:Array UInt8}:decide (V.gl i=V.gl j)=(i.toList == j.toList):=by
 rw [Cz];cases i;cases j;simp
theorem b7{pins:List (Addr×Obj)}{σ:St}{H:Hp}{s:Shared}{Q:VK}{k k':Bool}(I:Inv X pins σ H s)(q:Q (.bl k) H)(e:k=k'):EP X pins σ Q (.bool k') s:=by
 subst e;exact⟨.bl k,H,I,rfl,q⟩
theorem lX:cn X (compareOp .Eq) Pa:=by
 intro pins s σ H x y v u Q I rx ry h;obtain⟨hs,q⟩:=h;cases x with
 | non=>
  cases rx;cases y with
  | non=>cases ry;exact PySem.EqNone.eq_none_none<|b7 I q<|by simp
  | bl j=>cases ry;exact PySem.EqNone.eq_none_bool<|b7 I q<|by simp
  | int j=>obtain⟨t',rfl⟩:=ry;exact PySem.EqNone.eq_none_int<|b7 I q<|by simp
  | str j=>obtain⟨t',rfl⟩:=ry;exact PySem.EqNone.eq_none_str<|b7 I q<|by simp
  | _=>exact absurd (show false=true from hs) Ao
 | bl i=>
  cases rx;cases y with
  | non=>cases ry;exact PySem.EqNone.eq_bool_none<|b7 I q<|by simp
  | bl j=>cases ry;exact eq_bool<|b7 I q FY
  | str j=>obtain⟨t',rfl⟩:=ry;exact PySem.EqMixed.eq_bool_str<|b7 I q<|by simp
  | _=>exact absurd (show false=true from hs) Ao
 | int i=>
  obtain⟨t,rfl⟩:=rx;cases y with
  | non=>cases ry;exact PySem.EqNone.eq_int_none<|b7 I q<|by simp
  | int j=>obtain⟨t',rfl⟩:=ry;exact eq_int<|b7 I q FX
  | str j=>obtain⟨t',rfl⟩:=ry;exact PySem.EqMixed.eq_int_str<|b7 I q<|by simp
  | _=>exact absurd (show false=true from hs) Ao
 | str i=>
  obtain⟨t,rfl⟩:=rx;cases y with
  | non=>cases ry;exact PySem.EqNone.eq_str_none<|b7 I q<|by simp
  | bl j=>cases ry;exact PySem.EqMixed.eq_str_bool<|b7 I q<|by simp
  | int j=>obtain⟨t',rfl⟩:=ry;exact PySem.EqMixed.eq_str_int<|b7 I q<|by simp
  | str j=>obtain⟨t',rfl⟩:=ry;exact eq_str<|b7 I q F0
  | _=>exact absurd (show false=true from hs) Ao
 | gl i=>
  obtain⟨t,rfl⟩:=rx;cases y with
  | gl j=>obtain⟨t',rfl⟩:=ry;exact PySem.W.eq_bytes<|b7 I q F1
  | _=>exact absurd (show false=true from hs) Ao
 | _=>cases y <;> exact absurd (show false=true from hs) Ao
theorem uD:cn X (compareOp .NotEq) Pb:=by
 intro pins s σ H x y v u Q I rx ry h;obtain⟨hs,q⟩:=h;cases x with
 | non=>
  cases rx;cases y with
  | non=>cases ry;exact PySem.EqNone.ne_none_none<|b7 I q<|by simp
  | bl j=>cases ry;exact PySem.EqNone.ne_none_bool<|b7 I q<|by simp
  | int j=>obtain⟨t',rfl⟩:=ry;exact PySem.EqNone.ne_none_int<|b7 I q<|by simp
  | str j=>obtain⟨t',rfl⟩:=ry;exact PySem.EqNone.ne_none_str<|b7 I q<|by simp
  | _=>exact absurd (show false=true from hs) Ao
 | bl i=>
  cases rx;cases y with
  | non=>cases ry;exact PySem.EqNone.ne_bool_none<|b7 I q<|by simp
  | bl j=>cases ry;exact ne_bool<|b7 I q<|CG not FY
  | str j=>obtain⟨t',rfl⟩:=ry;exact PySem.EqMixed.ne_bool_str<|b7 I q<|by simp
  | _=>exact absurd (show false=true from hs) Ao
 | int i=>
  obtain⟨t,rfl⟩:=rx;cases y with
  | non=>cases ry;exact PySem.EqNone.ne_int_none<|b7 I q<|by simp
  | int j=>obtain⟨t',rfl⟩:=ry;exact ne_int<|b7 I q<|CG not FX
  | str j=>obtain⟨t',rfl⟩:=ry;exact PySem.EqMixed.ne_int_str<|b7 I q<|by simp
  | _=>exact absurd (show false=true from hs) Ao
 | str i=>
  obtain⟨t,rfl⟩:=rx;cases y with
  | non=>cases ry;exact PySem.EqNone.ne_str_none<|b7 I q<|by simp
  | bl j=>cases ry;exact PySem.EqMixed.ne_str_bool<|b7 I q<|by simp
  | int j=>obtain⟨t',rfl⟩:=ry;exact PySem.EqMixed.ne_str_int<|b7 I q<|by simp
  | str j=>obtain⟨t',rfl⟩:=ry;exact ne_str<|b7 I q<|CG not F0
  | _=>exact absurd (show false=true from hs) Ao
 | gl i=>
  obtain⟨t,rfl⟩:=rx;cases y with
  | gl j=>obtain⟨t',rfl⟩:=ry;exact PySem.W.ne_bytes<|b7 I q<|CG not F1
  | _=>exact absurd (show false=true from hs) Ao
 | _=>cases y <;> exact absurd (show false=true from hs) Ao
theorem Pg:cn X (compareOp .Lt) (oz λi j=> .bl<|decide (i < j)):=qa λ_ _ _ _ _ _ _ q=>lt_int q
theorem Ph:cn X (compareOp .Gt) (oz λi j=> .bl<|decide (j < i)):=qa λ_ _ _ _ _ _ _ q=>gt_int q
theorem F3:cn X (compareOp .Is) (λx y H Q=>y = .non/\Q (.bl<|decide (x = .non)) H):=by
 intro pins s σ H x y v u Q I rx ry h;obtain⟨rfl,q⟩:=h;cases ry;refine is_none_gen<|b7 I q ?_;cases x <;> first
  | (cases rx;rfl)
  | (obtain⟨t,rfl⟩:=rx;rfl)
theorem xG:cn X (compareOp .IsNot) (λx y H Q=>y = .non/\Q (.bl (!decide (x = .non))) H):=by
 intro pins s σ H x y v u Q I rx ry h;obtain⟨rfl,q⟩:=h;cases ry;refine isnot_none_gen<|b7 I q ?_;cases x <;> first
  | (cases rx;rfl)
  | (obtain⟨t,rfl⟩:=rx;rfl)
theorem Pj{op:CmpOp}{r:R2}(ho:cn X (compareOp op) r)(ha:PE X a ta)(hb:PE X b tb)(hm:behindInMarks op b=false):PE X (.Compare a [op] [b] pos) (uA r ta tb):=by
 intro pins s σ H Q I h;exact wpAny_Compare1 (lV ha hb I h λv u s2 x y H2 I2 rx ry q=>ho pins s2 σ H2 x y v u Q I2 rx ry q) hm
def Pk(t:TE):TT:=λσ H Q=>t σ H λx H'=>∃ k,x = .bl k/\Q k H'
theorem Pl{op:CmpOp}{r:R2}(ho:cn X (compareOp op) r)(ha:PE X a ta)(hb:PE X b tb)(hm:behindInMarks op b=false):PT X (.Compare a [op] [b] pos) (Pk<|uA r ta tb):=by
 intro pins s σ H Q I h;refine wpAny_isTrue_Compare1 (aE (ha pins s σ H _ I h) λv s1 ⟨x,H1,I1,r1,q1⟩=>aE (hb pins s1 σ H1 _ I1 q1) λu s2 ⟨y,H2,I2,r2,q2⟩=>
  aE (ho pins s2 σ H2 x y v u _ I2 r1 r2 q2) λc s3 ⟨z,H3,I3,r3,k,e,q3⟩=>?_) hm
 subst e;cases r3;exact DR ⟨H3,I3,q3⟩
def lY(K:PySem.W.Frag)(x:V)(H:Hp)(k:Bool):Prop:=
 match x with
 | .non=>k=false
 | .bl b=>k=b
 | .int i=>k=(i != 0)
 | .str y=>y.length<=sizeLine/\k=((y.length:Int) != 0)
 | .gl y=>y.size<=sizeLine/\k=((y.size:Int) != 0)
 | .ref p=>(∃ xs,ak K H p xs/\k = !xs.isEmpty)\/(∃ xs,aM K H p xs/\k = !xs.isEmpty)\/∃ kvs,H p=some (.dK kvs)/\k = !kvs.isEmpty
 | _=>False
theorem Pm{κ:Type}{kvs:List (κ×V)}{vs:List (κ×Value)}(r:KV kvs vs):(!vs.isEmpty) = !kvs.isEmpty:=by
 cases r <;> rfl
theorem F4{xs:List V}{its:List Value}(r:aq xs its):(!its.toArray.isEmpty) = !xs.isEmpty:=by
 cases r <;> simp
theorem qe:(sizeLine:Nat) < 2 ^ 63:=by rw [FN];decide
theorem Pn:xE X (λx H Q=>∃ k,lY X.K x H k/\Q k H):=by
 intro pins s σ H x v Q I rx h;obtain⟨k,e,q⟩:=h;have hl:=qe;have hs:sizeLine=16777216:=FN;cases x with
 | non=>
  cases rx;have e':k=false:=e;subst e';exact truthy_none ⟨H,I,q⟩
 | bl b=>
  cases rx;have e':k=b:=e;subst e';exact DR ⟨H,I,q⟩
 | int i=>
  obtain⟨t,rfl⟩:=rx;have e':k=(i != 0):=e;subst e';exact PySem.P.truthy_int ⟨H,I,q⟩
 | str y=>
  obtain⟨t,rfl⟩:=rx;obtain⟨hy,e'⟩:y.length<=sizeLine/\k=((y.length:Int) != 0):=e;subst e';exact PySem.P.truthy_str (by omega) ⟨H,I.tok _,q⟩
 | gl y=>
  obtain⟨t,rfl⟩:=rx;obtain⟨hy,e'⟩:y.size<=sizeLine/\k=((y.size:Int) != 0):=e;subst e';exact PySem.W.truthy_bytes (by omega) ⟨H,I.tok _,q⟩
 | ref p=>
  cases rx;have e':(∃ xs,ak X.K H p xs/\k = !xs.isEmpty)\/(∃ xs,aM X.K H p xs/\k = !xs.isEmpty)\/∃ kvs,H p=some (.dK kvs)/\k = !kvs.isEmpty:=e
  rcases e' with ⟨xs,hx,e'⟩ | ⟨xs,hx,e'⟩ | ⟨kvs,hx,e'⟩
  ·subst e';obtain⟨its,r,pl,hz⟩:=I.list hx;have hlen:=r.length;exact wpAny_truthy_list pl.isList (by simp only [Ap];omega) ⟨H,I.tok _,by rw [F4 r];exact q⟩
  ·subst e';obtain⟨its,r,pl,hz⟩:=I.tuple hx;have hlen:=r.length;exact truthy_tuple pl (by simp only [Ap];omega) ⟨H,I.tok _,by rw [F4 r];exact q⟩
  ·subst e';obtain⟨hz,hS,vs,r,m⟩:kvs.length<=sizeLine/\(p == sysModules)=false/\∃ vs,KV kvs vs/\s.heap.DictOf (bz X.prog X.w) p vs:=I.aC p _ hx;have hlen:kvs.length=vs.length:=Paired.length r;exact wpAny_truthy_dict hS m (by omega) ⟨H,I.tok _,by rw [Pm r];exact q⟩
 | _=>exact(show False from e).elim
theorem Pp(ha:PE X a ta)(he:∀ whole,isTrue a X.env whole=(do let v <- whole;standAt a.pos;holding [v] (truthy v))) :
  PT X a (λσ H Q=>ta σ H λx H'=>∃ k,lY X.K x H' k/\Q k H'):=by
 intro pins s σ H Q I h;exact isTrue_plain (aE (ha pins s σ H _ I h) λv s1 ⟨x,H1,I1,r1,q1⟩=>Pn pins s1 σ H1 x v Q I1 r1 q1)<|he _
theorem Pq:cn X (binaryOp .Add) (λx y H Q=>∃ i j,x = .str i/\y = .str j/\i.length+j.length<=sizeLine/\Q (.str<|i++j) H):=by
 intro pins s σ H x y v u Q I rx ry h;obtain⟨i,j,rfl,rfl,hz,q⟩:=h;obtain⟨t,rfl⟩:=rx;obtain⟨t',rfl⟩:=ry;exact add_str (λt' tk=>⟨.str<|i++j,H,I.tok _,⟨_,rfl⟩,q⟩) hz
theorem vals1{x:V}{us:List Value}(r:aq [x] us):∃ u,us=[u]/\RelV x u:=by
 cases r with
 | cons r1 r2=>cases r2;exact⟨_,rfl,r1⟩
theorem vals2{x y:V}{us:List Value}(r:aq [x,y] us):∃ u w',us=[u,w']/\RelV x u/\RelV y w':=by
 cases r with
 | cons r1 r2=>
  cases r2 with
  | cons r3 r4=>cases r4;exact⟨_,_,rfl,r1,r3⟩
theorem F5(hc:X.calm=true):gU X (.builtin "max") (λxs H Q=>∃ i j,xs=[.int i,.int j]/\Q (.int (if j > i then j else i)) H):=by
 intro pins s σ H xs us Q I r h;obtain⟨i,j,rfl,q⟩:=h;obtain⟨u,w',rfl,⟨t,rfl⟩,⟨t',rfl⟩⟩:=vals2 r;refine max_two_ints (I.ok.hd hc) λh' tk k=>⟨_,H,I.kept k,?_,q⟩
 by_cases hj:j > i
 ·rw [BL hj,BL hj];exact⟨_,rfl⟩
 ·rw [BP hj,BP hj];exact⟨_,rfl⟩
end
section
variable{prog:Program}{w:World}{A:Around}{E:Value->Shared->Prop}{s:Shared}{K:PySem.W.Frag}{x dx C f:Addr}{mA:Str->Option Value}{name:Str}{v:Value}
end
theorem db.some_of{v:V}{o:Option Value}(r:db (some v) o):∃ u,o=some u/\RelV v u:=by
 cases o with
 | none=>exact(show False from r).elim
 | some u=>exact⟨u,rfl,r⟩
section
variable{P:Program}{w:World}{H H':Hp}{h h':Heap}{a C dx:Addr}{fs Oa:List (Str×V)}
end
section
variable{X:Cx}{pins:List (Addr×Obj)}{σ:St}{H:Hp}{s:Shared}{a C dx:Addr}{fs:List (Str×V)}{f:Str}{v:V}{A:Around}{E:Value->Shared->Prop}
end
section
variable{X:Cx}{o e value:Expr}{f:Str}{pos pos' xH:Pos}{ta tv:TE}
end
section
variable{X:Cx}{pins:List (Addr×Obj)}{σ:St}{H:Hp}{s:Shared}{A:Around}{E:Value->Shared->Prop}{Q:Value->Shared->Prop}{c:Value}{b:Bool}
end
structure bf(k:Nat)(A:Around):Prop where
 hd:A.handled=none
 dp:A.depth+3 * k+5 < recursionLimit
 un:A.units+16 * k+200 < cLine
theorem bf.mono{j k:Nat}{A:Around}(r:bf k A)(h:j<=k):bf j A:=⟨r.hd,by have:=r.dp;omega,by have:=r.un;omega⟩
theorem bf.deeper{k:Nat}{A:Around}(r:bf (k+1) A)(env:Env):bf k (A.deeper env):=
 ⟨r.hd,by have:=r.dp;show A.depth+1+3 * k+5 < _;omega,by have:=r.un;show A.units+3+16 * k+200 < _;omega⟩
theorem bf.depth{k:Nat}{A:Around}(r:bf k A):A.depth < recursionLimit:=by have:=r.dp;omega
def xI:TA:=λ_ H Q=>Q [] H
def F6(ta:TE)(tr:TA):TA:=λσ H Q=>ta σ H λx H1=>tr σ H1 λxs H2=>Q (x :: xs) H2
section
variable{X:Cx}{e:Expr}{es:List Expr}{te:TE}{t:TA}{pos:Pos}
theorem Pt:PA X [] xI:=λ_ _ _ _ H Q I h=>Calls.spliced_nil ⟨[],H,I,.nil,h⟩
theorem Pu(ha:PE X e te)(hr:PA X es t)(hs:starEach (e :: es) X.env=(false,eval e X.env) :: starEach es X.env:=by rfl):PA X (e :: es) (F6 te t):=by
 intro pos pins s σ H Q I h;rw [hs];show wpAny _ _ (spliced<|(false,eval e X.env) :: backTo pos (starEach es X.env)) _ _ s;refine Calls.spliced_cons<|aE (ha pins s σ H _ I h) λu s1 ⟨x,H1,I1,r1,q1⟩=>?_;exact aE (hr pos pins s1 σ H1 _ I1 q1) λus s2 ⟨xs,H2,I2,r2,q2⟩=>⟨x :: xs,H2,I2,.cons r1 r2,q2⟩
def xJ(t:TA):TE:=λσ H Q=>t σ H λxs H1=>xs.length<=sizeLine/\∀ p,H1 p=none->Q (.ref p) (upd H1 p<|.tup xs)
def xK(t:TA):TE:=λσ H Q=>t σ H λxs H1=>xs.length<=sizeLine/\∀ p,H1 p=none->Q (.ref p) (upd H1 p<|.lst xs)
theorem Pw{x1}(h:PA X es t):PE X (.Tuple es x1 pos) (xJ t):=by
 intro pins s σ H Q I hq;refine wpAny_Tuple_spliced (aE (h pos pins s σ H _ I hq) λus s1 ⟨xs,H1,I1,r,z,q⟩=>⟨by rw [<- r.length];exact z,?_⟩);have hf:H1 s1.heap.objs.size=none:=I1.aC.fresh<|Ag _;refine⟨.ref s1.heap.objs.size,upd H1 s1.heap.objs.size<|.tup xs,I1.laid (t':=s1.toks) (λb u e=>Ae _ e) (Ag _) ?_,rfl,q _ hf⟩;exact⟨z,us,r,⟨_,An _ rfl,rfl,_,rfl⟩⟩
theorem Px(h:PA X es t):PE X (.List es pos) (xK t):=by
 intro pins s σ H Q I hq;refine wpAny_List_spliced (aE (h pos pins s σ H _ I hq) λus s1 ⟨xs,H1,I1,r,z,q⟩=>⟨by rw [<- r.length];exact z,?_⟩);have hf:H1 s1.heap.objs.size=none:=I1.aC.fresh<|Ag _;refine⟨.ref s1.heap.objs.size,upd H1 s1.heap.objs.size<|.lst xs,I1.laid (t':=s1.toks) (λb u e=>Ae _ e) (Ag _) ?_,rfl,q _ hf⟩;exact⟨z,us,0,r,An _ rfl⟩
end
abbrev Sp:=List V->Hp->VK->XK->Prop
abbrev eU:=List Env->Hp->Shared->XK->Value->Shared->Prop
structure jv(P:Program)(w:World)(K:PySem.W.Frag)(mg:Str->Option Value)(base:Heap)(A:Around)(outer:List Env)(s:Shared)(H:Hp):Prop where
 frames:A.frames=some outer
 mod:Mod K mg base
 bs:∀ b o,base.get? b=some o->s.heap.get? b=some o/\H b=none
 kh:base.objs.size<=s.heap.objs.size
 cS:s.heap.FunFrames base outer
 oh:∀ b∈df outer,H b=none
 aC:bQ P w H s.heap
 bare:AllBare s.gens
def CE(outer:List Env)(P:Program)(w:World)(H:Hp)(s:Shared)(Q:VK)(u:Value)(s':Shared):Prop:=
 ∃ v H',s'.os=s.os/\AllBare s'.gens/\Un (df outer) [] H H' s.heap s'.heap/\bQ P w H' s'.heap/\RelV v u/\Q v H'
def CR(CX:eU)(outer:List Env)(P:Program)(w:World)(H:Hp)(s:Shared)(Q:VK)(E:XK)(r:Result)(s':Shared):Prop:=
 match r with
 | .ok (.ret u)=>CE outer P w H s Q u s'
 | .ok _=>False
 | .error e=>CX outer H s E e s'
structure aD(P:Program)(w:World)(K:PySem.W.Frag)(mg:Str->Option Value)(base:Heap)(CX:eU)(k:Nat)(f:Addr)(fd:FuncData)(ps:List Str)(sp:Sp):Prop where
 len:∀ vs H Q E,sp vs H Q E->vs.length=ps.length
 run:∀(A:Around) (outer:List Env) (s:Shared) (H:Hp) (args:Args) (us:List Value) (vs:List V) (Q:VK) (E:XK),bf k A->jv P w K mg base A outer s H->BindsTo s fd args (ps.zip us)->aq vs us->sp vs H Q E ->
  codeAny (model P w) A (.call (.ref f) args) (CR CX outer P w H s Q E) s
theorem aD.mono{P:Program}{w:World}{K:PySem.W.Frag}{mg:Str->Option Value}{base:Heap}{CX:eU}{j k:Nat}{f:Addr}{fd:FuncData}{ps:List Str}{sp:Sp}(F:aD P w K mg base CX j f fd ps sp)(h:j<=k) :
  aD P w K mg base CX k f fd ps sp:=⟨F.len,λA outer s H args us vs Q E hr=>F.run A outer s H args us vs Q E<|hr.mono h⟩
section
variable{X:Cx}{pins:List (Addr×Obj)}{σ:St}{H:Hp}{s s':Shared}
theorem Inv.xL(I:Inv X pins σ H s):jv X.prog X.w X.K X.mg X.base X.A X.stack s H:=
 ⟨I.ok.frames,I.ok.mod,I.bs,Bz I.ok.kh I.sz,I.stack,I.cN,I.aC,I.bare⟩
theorem Inv.after{Q:VK}{u:Value}(I:Inv X pins σ H s)(h:CE X.stack X.prog X.w H s Q u s'):EP X pins σ Q u s':=by
 obtain⟨v,H',os,bare,un,aC,r,q⟩:=h;obtain⟨hh,g,d,t,Py⟩:=s';obtain rfl:Py=s.os:=os;exact⟨v,H',I.call (h':=hh) (g':=g) (d':=d) (t':=t) (ch:=[]) un aC bare (λb z=>absurd z<|by simp),r,q⟩
end
def F7(sp:Sp)(jw:List V)(E:XK)(t:TA):TE:=λσ H Q=>t σ H λvs H1=>sp (vs++jw) H1 Q E
def Binds(K:PySem.W.Frag)(fd:FuncData)(ps:List Str)(ds:List Value):Prop:=
 ∀(s:Shared) (us:List Value),K.In s.heap->(us++ds).length=ps.length->BindsTo s fd ⟨us,[]⟩ (ps.zip<|us++ds)
theorem Binds.all{K:PySem.W.Frag}{fd:FuncData}{ps:List Str}(h:∀ us:List Value,us.length=ps.length->bindArgs fd ⟨us,[]⟩=pure (ps.zip us)):Binds K fd ps []:=λs us _ hl=>by
 rw [Bh] at hl ⊢;exact .of_eq<|h us hl
def jx(CX:eU)(X:Cx)(E:XK):Prop:=∀(pins:List<|Addr×Obj) (σ:St) (H:Hp) (s:Shared) (e:Value) (s':Shared),Inv X pins σ H s->CX X.stack H s E e s'->X.xe e s'
section
variable{X:Cx}{CX:eU}{k:Nat}{f C:Addr}{fd:FuncData}{ps:List Str}{sp:Sp}{jw:List V}{ds:List Value}{E:XK}{x m:Str}{p pos apos:Pos}{e o:Expr}{es:List Expr}{ta:TE}{t:TA}
theorem Pz{pins:List (Addr×Obj)}{σ:St}{H:Hp}{s:Shared}{Q:VK}{us:List Value}{vs:List V}(F:aD X.prog X.w X.K X.mg X.base CX k f fd ps sp)(hr:bf k X.A)(hb:Binds X.K fd ps ds)(hd:aq jw ds)(hx:jx CX X E)
  (I:Inv X pins σ H s) (r:aq vs us) (h:sp (vs++jw) H Q E):wpAny (model X.prog X.w) X.A (call (.ref f) us) (EP X pins σ Q) X.xe s:=by
 have r2:aq (vs++jw) (us++ds):=r.append hd;have hl:(us++ds).length=ps.length:=by rw [<- r2.length];exact F.len _ _ _ _ h
 refine wpAny_call<|KC (F.run X.A X.stack s H ⟨us,[]⟩ (us++ds) (vs++jw) Q E hr I.xL (hb s us I.oj hl) r2 h) λr s' hq=>?_;cases r with
 | error e=>exact hx pins σ H s e s' I hq
 | ok fl=>
  cases fl with
  | ret u=>exact I.after hq
  | next=>exact False.elim hq
  | brk=>exact False.elim hq
  | cont=>exact False.elim hq
theorem PD(F:aD X.prog X.w X.K X.mg X.base CX k f fd ps sp)(hr:bf k X.A)(hg:Gl X x)(hm:X.mg x=some (.ref f))(hk:PySem.W.keepIn X.K (.ref f)=true)(hb:Binds X.K fd ps ds)(hd:aq jw ds)(hx:jx CX X E)
  (ha:PA X (e :: es) t) (cT:(x == ("__debug__" : Str))=false:=by decide) (he:starEach (e :: es) X.env=(false,eval e X.env) :: starEach es X.env:=by rfl) (gW:(backTo pos<|starEach es X.env).any (·.1)=false:=by rfl) :
  PE X (.Call (.Name x p) (e :: es) [] pos) (F7 sp jw E t):=by
 intro pins s σ H Q I h;refine IW<|FG I hg hm ?_ cT;refine PySem.W.callWith_K (h₀:=X.base) I.ok.mod.og hk (aE (ha pos pins s σ H _ I h) λus s1 ⟨vs,H1,I1,r,q⟩=>⟨I1.oj,?_⟩) he gW;exact Pz F hr hb hd hx I1 r q
end
section
variable{X:Cx}{CX:eU}{k:Nat}{f C:Addr}{fd:FuncData}{ps ks:List Str}{sp:Sp}{E:XK}{x m:Str}{p pos apos PF:Pos}{e o:Expr}{es:List Expr}{kws:List Keyword}{te ta:TE}{t tk:TA}{nm:Option Str}
variable{g:List Value->List Value->List Value}{gV:List V->List V->List V}
end
structure ao(N P:List Str)(sc:Scope):Prop where
 kind:sc.kind = .function
 co:sc.isCoroutine=false
 gen:sc.isGenerator=false
 nd:N.Nodup
 pre:N.take P.length=P
 par:∀ x∈P,sc.names.lookup x=some .local\/sc.names.lookup x=some .cell
 lZ:∀ y∈sc.names,y.2 ≠ .free
theorem F8{kindOf:Str->Option NameKind}{x:Str}:∀{binds:List (Str×Value)} {m:Str->Option Value},(∀ v,(x,v)∉binds)->bindL kindOf binds m x=m x
 | [],_,_=>rfl
 | (n,v) :: r,m,h=>by
  unfold bindL;rw [F8 λw hw=>h w<|Ak _ hw]
  split
  ·have:x≠n:=by rintro rfl;exact h v As
   simp [this]
  ·rfl
theorem F9{kindOf:Str->Option NameKind}{x:Str}:∀{binds:List (Str×Value)} {m:Str->Option Value},(∀ v,(x,v)∉binds)->bindC kindOf binds m x=m x
 | [],_,_=>rfl
 | (n,v) :: r,m,h=>by
  unfold bindC;rw [F9 λw hw=>h w<|Ak _ hw]
  split
  ·rfl
  ·have:x≠n:=by rintro rfl;exact h v As
   simp [this]
theorem F'{kindOf:Str->Option NameKind}{x:Str}{v:Value}:∀{P:List Str} {vs:List Value} {i:Nat} {m:Str->Option Value},P.Nodup->P[i]?=some x->vs[i]?=some v->kindOf x=some .local ->
  bindL kindOf (P.zip vs) m x=some v
 | [],_,_,_,_,h,_,_=>by simp at h
 | _ :: _,[],_,_,_,_,h,_=>by simp at h
 | p :: P,w :: vs,0,m,nd,h1,h2,hk=>by
  simp at h1 h2;subst h1;subst h2;show bindL kindOf ((p,w) :: P.zip vs) m p=_;unfold bindL;rw [F8 λv hv=>(Bs.mp nd).1 (QJ hv).1,BL hk];simp
 | p :: P,w :: vs,i+1,m,nd,h1,h2,hk=>by
  show bindL kindOf ((p,w) :: P.zip vs) m x=_;unfold bindL;exact F' (i:=i) (Bs.mp nd).2 (by simpa using h1) (by simpa using h2) hk
theorem Ga{kindOf:Str->Option NameKind}{x:Str}{v:Value}:∀{P:List Str} {vs:List Value} {i:Nat} {m:Str->Option Value},P.Nodup->P[i]?=some x->vs[i]?=some v->kindOf x≠some .local ->
  bindC kindOf (P.zip vs) m x=some v
 | [],_,_,_,_,h,_,_=>by simp at h
 | _ :: _,[],_,_,_,_,h,_=>by simp at h
 | p :: P,w :: vs,0,m,nd,h1,h2,hk=>by
  simp at h1 h2;subst h1;subst h2;show bindC kindOf ((p,w) :: P.zip vs) m p=_;unfold bindC;rw [F9 λv hv=>(Bs.mp nd).1 (QJ hv).1,BP hk];simp
 | p :: P,w :: vs,i+1,m,nd,h1,h2,hk=>by
  show bindC kindOf ((p,w) :: P.zip vs) m x=_;unfold bindC;exact Ga (i:=i) (Bs.mp nd).2 (by simpa using h1) (by simpa using h2) hk
def start(N:List Str)(vs:List V):St:=vs.map some++List.replicate (N.length - vs.length) none
def cD(CX:eU)(P:Program)(w:World)(K:PySem.W.Frag)(mg:Str->Option Value)(base:Heap)(N:List Str)(qual:Str)(scope:Scope)(f:Addr)(cd:Value)(A:Around)(outer:List Env)(s:Shared)(H:Hp)(E:XK):Cx where
 prog:=P
 w:=w
 K:=K
 mg:=mg
 base:=base
 A:=A.deeper<|envOfC qual scope s.heap.objs.size f cd
 N:=N
 s₀:=s
 H₀:=H
 env:=envOfC qual scope s.heap.objs.size f cd
 outer:=outer
 stack:=envOfC qual scope s.heap.objs.size f cd :: outer
 ex:=[]
 calm:=true
 fn:=λ_=>true
 pn:=[]
 xe:=λe s'=>wpAny (model P w) (A.deeper<|envOfC qual scope s.heap.objs.size f cd) (leaving (envOfC qual scope s.heap.objs.size f cd) e) (λ_ qf=>CX outer H s E e qf) (λe' qf=>CX outer H s E e' qf) s'
theorem Gb{sc:Scope}{n:Nat}{x:Str}(h:sc.names.lookup x=some .cell):∃ c,(cellsFrom n sc.names []).lookup x=some c:=by
 have q:=HF sc.names n []<|.inl h;exact Du.mp q
theorem PH{CX:eU}{P:Program}{w:World}{K:PySem.W.Frag}{mg:Str->Option Value}{base:Heap}{N ps:List Str}{qual:Str}{scope:Scope}{f:Addr}{cd:Value}{A:Around}{outer:List Env}{s s1:Shared}{H:Hp}{E:XK}{us:List Value}{vs:List V}
  (S:ao N ps scope) (hd:A.handled=none) (e0:jv P w K mg base A outer s H) (hl:vs.length=ps.length) (r:aq vs us)
  (x:InCallC s s.heap.objs.size (bindL (envOfC qual scope s.heap.objs.size f cd).kindOf (ps.zip us) λ_=>none) (cellsFrom (s.heap.objs.size+1) scope.names []) (bindC (envOfC qual scope s.heap.objs.size f cd).kindOf (ps.zip us) λ_=>none) s1) :
  Inv (cD CX P w K mg base N qual scope f cd A outer s H E) [] (start N vs) H s1:=by
 have gW:ps.length<=N.length:=by have:=CG List.length S.pre;rw [Bi] at this;omega
 obtain⟨h1,tk,rfl,hk⟩:=x.done;have qg:∀ b:Addr,b∉(cD CX P w K mg base N qual scope f cd A outer s H E).ex:=λb z=>absurd (show b∈([]:List Addr) from z) (by simp);refine⟨⟨e0.mod,S.kind,rfl,rfl,Ag _,λy z c h1 h2=>?_,λy hy=>?_,λy c _ h=>?_,λ_=>hd,Around.frames_deeper e0.frames,.inr ⟨rfl,rfl⟩,λb z=>absurd z<|qg b,e0.bs,e0.kh,λb _ _=>qg b,λb z=>absurd z<|qg b,e0.cS,e0.oh⟩,
  rfl,e0.bare,Un.kept hk,⟨_,x.toInCall.ns,λi y v h1 h2 h3=>?_⟩,λy c h=>⟨_,x.cell y c h⟩,e0.aC.fresh<|Ag _,λy c h=>?_,λp hp=>absurd (show p∈([]:List<|Addr×Obj) from hp) (by simp),e0.aC.kept hk,?_⟩
 ·exact name_of_addr x.apart (CV h1)<|CV h2
 ·have hy:scope.names.lookup y=some .cell\/scope.names.lookup y=some .free:=hy
  rcases hy with hy | hy
  ·exact Gb hy
  ·exact absurd rfl (S.lZ _<|CV hy)
 ·exact Fn<|x.above y c<|CV h
 ·have hi:i < vs.length:=by
   unfold start at h2
   by_cases hi:i < vs.length
   ·exact hi
   ·rw [Au<|by simpa using hi] at h2;rw [Dx] at h2
    split at h2 <;> cases h2
  have ha:vs[i]?=some v:=by
   unfold start at h2;rw [At (by simpa using hi),Ad] at h2;cases e:vs[i]? with
   | none=>rw [e] at h2;cases h2
   | some a=>rw [e] at h2;cases h2;rfl
  obtain⟨u,hu,rv⟩:=r.get ha;have hp:ps[i]?=some y:=by
   rw [<- S.pre,Dc<|by omega];exact h1
  have Gc:ps.Nodup:=by rw [<- S.pre];exact S.nd.sublist<|List.take_sublist _ _
  refine⟨u,rv,?_⟩
  rcases S.par y (Al hp) with k | k
  ·exact .inl ⟨k,F' Gc hp hu k⟩
  ·obtain⟨c,e⟩:=Gb (n:=s.heap.objs.size+1) k;refine .inr ⟨.inl k,c,e,?_⟩;have q:=x.cell y c e;rw [Ga Gc hp hu<|by show scope.names.lookup y≠_;rw [k];decide] at q;exact q
 ·exact e0.aC.fresh<|Fn<|x.above y c<|CV h
 ·unfold start;show _=N.length;rw [Af,Aa,Eh];omega
theorem Gd{CX:eU}{P:Program}{w:World}{K:PySem.W.Frag}{mg:Str->Option Value}{base:Heap}{k:Nat}{f:Addr}{name qual:Str}{params:Arguments}{body:List Stmt}{scope:Scope}{dV kV doc pm bn ct oc:Value}{an od:Option Addr}
  {i5:Array (Option Value)} {N ps:List Str} {sp:Sp} (lk:K.lookup f=some ⟨oc,od,.func<|PySem.W.fnOf name qual params body scope dV kV doc pm an bn ct,i5⟩) (fM:PySem.W.codeIn K bn qual=true) (S:ao N ps scope)
  (len:∀ vs H Q E,sp vs H Q E->vs.length=ps.length)
  (cq : ∀ (A : Around) (outer : List Env) (s : Shared) (H : Hp) (vs : List V) (Q : VK) (E : XK), bf k (A.deeper<|envOfC qual scope s.heap.objs.size f bn) → sp vs H Q E →
   ∃ t,gn (cD CX P w K mg base N qual scope f bn A outer s H E) body t/\t {nx:=λ_ H'=>Q .non H',rt:=Q} (start N vs) H) :
  aD P w K mg base CX (k+1) f (PySem.W.fnOf name qual params body scope dV kV doc pm an bn ct) ps sp:=by
 refine⟨len,λA outer s H args us vs Q E hr e0 hb r cY=>?_⟩;have hl:=len _ _ _ _ cY;have KX:K.In s.heap:=e0.mod.og.keeps λb o e=>(e0.bs b o e).1;have lim:s.heap.NoLimit:=e0.mod.nolimit.keeps λb o e=>(e0.bs b o e).1;have qh:∀ y∈ps.zip us,scope.names.lookup y.1=some .local\/(scope.names.lookup y.1=some .cell/\((cellsFrom (s.heap.objs.size+1) scope.names []).lookup y.1).isSome=true):=λ⟨n,v⟩ hy=>by
  rcases S.par n (QJ hy).1 with q | q
  ·exact .inl q
  ·exact .inr ⟨q,HF _ _ _<|.inl q⟩
 refine codeAny_call_function hr.depth (KX _ _ lk) rfl S.co S.gen rfl (PySem.W.codeRec_of KX fM) (hb _ _ _ _ ?_);refine wpAny_newFunctionEnv_cells S.kind qh λenv he s1 x=>?_;subst he;refine⟨lim.keeps x.toInCall.keep,codeAny_func ?_⟩;obtain⟨t,ht,hq⟩:=cq A outer s H vs Q E (hr.deeper _) cY;have I:Inv (cD CX P w K mg base N qual scope f bn A outer s H E) [] (start N vs) H s1:=PH S hr.hd e0 hl r x;refine CP (ht [] s1 (start N vs) H _ I hq) (λfl s' hs=>?_) λe s' hs=>hs;have fin:∀{σ':St} {H':Hp} {v:V} {u:Value},Inv (cD CX P w K mg base N qual scope f bn A outer s H E) [] σ' H' s'->RelV v u->Q v H'->CE outer P w H s Q u s':=
  λ{σ' H' v u} J rv q=>⟨v,H',J.os,J.bare,J.base,J.aC,rv,q⟩
 cases fl with
 | ret u=>
  obtain⟨v,σ',H',J,rv,q⟩:=hs;exact fin J rv q
 | next=>
  obtain⟨σ',H',J,q⟩:=hs;exact fin (v:=V.non) (u:=Value.none) J rfl q
 | brk=>
  obtain⟨_,_,_,q⟩:=hs;exact False.elim q
 | cont=>
  obtain⟨_,_,_,q⟩:=hs;exact False.elim q
section
variable{X:Cx}{x:Str}{p pos:Pos}{e:Expr}{es:List Expr}{t:TA}{id T:String}{r:List V->Hp->VK->Prop}
def uE(r:List V->Hp->VK->Prop)(t:TA):TE:=λσ H Q=>t σ H λvs H1=>r vs H1 Q
theorem PQ(hc:gU X (.builtin id) r)(hg:Gl X x)(hm:X.mg x=none)(hv:bootBuiltins x=some (.builtin id))(ha:PA X (e :: es) t)(hn:x ≠ "__name__":=by decide)(cT:(x == ("__debug__" : Str))=false:=by decide)
  (he:starEach (e :: es) X.env=(false,eval e X.env) :: starEach es X.env:=by rfl) (gW:(backTo pos<|starEach es X.env).any (·.1)=false:=by rfl):PE X (.Call (.Name x p) (e :: es) [] pos) (uE r t):=by
 intro pins s σ H Q I h;refine IW<|i4 I hg hm hv ?_ hn cT;exact PyProof.Rows.callWith_builtin1 (aE (ha pos pins s σ H _ I h) λus s1 ⟨vs,H1,I1,r1,q1⟩=>hc pins s1 σ H1 vs us Q I1 r1 q1) he gW
theorem PR(hc:gU X (.type T) r)(hg:Gl X x)(hm:X.mg x=none)(hv:bootBuiltins x=some (.type T))(ha:PA X (e :: es) t)(hn:x ≠ "__name__":=by decide)(cT:(x == ("__debug__" : Str))=false:=by decide)
  (he:starEach (e :: es) X.env=(false,eval e X.env) :: starEach es X.env:=by rfl) (gW:(backTo pos<|starEach es X.env).any (·.1)=false:=by rfl):PE X (.Call (.Name x p) (e :: es) [] pos) (uE r t):=by
 intro pins s σ H Q I h;refine IW<|i4 I hg hm hv ?_ hn cT;exact DX (aE (ha pos pins s σ H _ I h) λus s1 ⟨vs,H1,I1,r1,q1⟩=>hc pins s1 σ H1 vs us Q I1 r1 q1) he gW
end
end L2
namespace HT
open PySem PyProof.Rows
section
open PySem.SeqAt
open PySem.AutoSeq1 (wpAny_loadPart')
open PySem.MeetsSeq PySem.MeetsSeq2 PySem.MeetsSeq3
end
section
variable{prog:Program}{w:World}{A:Around}{E:Value->Shared->Prop}{s:Shared}
def d3(n d:Nat):Option Int->Nat
 | none=>d
 | some v=>if v < 0 then(v+(n:Int)).toNat else min v.toNat n
theorem d6(n d:Nat):d3 n d none=d:=rfl
theorem fP(n d k:Nat):d3 n d (some (k:Int))=min k n:=by
 show(if(k:Int) < 0 then((k:Int)+(n:Int)).toNat else min (k:Int).toNat n)=min k n;rw [BP (by omega),Ba]
end
end HT
namespace L2
open PySem PySem.Spec PyProof.Rows
abbrev TO:=St->Hp->(Option Int->Hp->Prop)->Prop
def PO(X:Cx)(e:Option Expr)(t:TO):Prop:=
 ∀(pins:List<|Addr×Obj) (s:Shared) (σ:St) (H:Hp) (Q:Option Int->Hp->Prop),Inv X pins σ H s->t σ H Q ->
  wpAny (model X.prog X.w) X.A (evalPart e X.env) (λu s'=>∃ o H',Inv X pins σ H' s'/\IsPart u o/\Q o H') X.xe s
def PU:TO:=λ_ H Q=>Q none H
def PV(t:TE):TO:=λσ H Q=>t σ H λx H1=>∃ i,x = .int i/\Q (some i) H1
section
variable{X:Cx}{e:Expr}{te:TE}{lo hi:Option Expr}{tl th:TO}{pos p2:Pos}
theorem PY:PO X none PU:=by
 intro pins s σ H Q I h;rw [evalPart_none];exact BK ⟨none,H,I,.none,h⟩
theorem PZ(h:PE X e te):PO X (some e) (PV te):=by
 intro pins s σ H Q I hw;rw [MN];refine aE (h pins s σ H _ I hw) λu s1 ⟨x,H1,I1,r1,q1⟩=>?_;obtain⟨i,rfl,q⟩:=q1;obtain⟨t,rfl⟩:=r1;exact⟨some i,H1,I1,.int i t,q⟩
def xM(X:Cx)(r:V->Option Int->Option Int->Hp->VK->Prop):Prop:=
 ∀(pins:List<|Addr×Obj) (s:Shared) (σ:St) (H:Hp) (x:V) (v vl vu:Value) (lo hi:Option Int) (sl:Addr) (Q:VK),Inv X pins σ H s->RelV x v->s.heap.IsSliceOf sl vl vu .none->IsPart vl lo->IsPart vu hi->r x lo hi H Q ->
  ∃ T id,typeLookup (.type T) "__getitem__" = pure (some<|.builtin id)/\s.TypeIs v T/\wpAny (model X.prog X.w) X.A (getItem v<|.ref sl) (EP X pins σ Q) X.xe s
def P1(r:V->Option Int->Option Int->Hp->VK->Prop)(te:TE)(tl th:TO):TE:=λσ H Q=>te σ H λx H1=>tl σ H1 λl H2=>th σ H2 λu H3=>r x l u H3 Q
theorem P2{r:V->Option Int->Option Int->Hp->VK->Prop}(hr:xM X r)(he:PE X e te)(hl:PO X lo tl)(hu:PO X hi th):PE X (.Subscript e (.Slice lo hi none p2) pos) (P1 r te tl th):=by
 intro pins s σ H Q I h;refine NZ<|aE (he pins s σ H _ I h) λv s1 ⟨x,H1,I1,r1,q1⟩=>?_;refine wpAny_Slice<|aE (hl pins s1 σ H1 _ I1 q1) λvl s2 ⟨l,H2,I2,pl,q2⟩=>aE (hu pins s2 σ H2 _ I2 q2) λvu s3 ⟨u,H3,I3,pu,q3⟩=>?_;rw [evalPart_none];refine BK ?_;have I4:Inv X pins σ H3 {s3 with heap:=s3.heap.push {cls:= .type "slice",data:= .fields #[vl,vu,.none]}}:=I3.kept (t':=s3.toks) λb ob q=>Ae _ q;obtain⟨T,id,hT,ht,hg⟩:=hr pins {s3 with heap:=s3.heap.push {cls:= .type "slice",data:= .fields #[vl,vu,.none]}} σ H3 x v vl vu l u s3.heap.objs.size Q I4 r1 (Heap.IsSliceOf.new ..) pl pu q3;show wpAny (model X.prog X.w) X.A (subscriptTail e (.Slice lo hi none p2) v<|.ref s3.heap.objs.size) (EP X pins σ Q) X.xe {s3 with heap:=s3.heap.push {cls:= .type "slice",data:= .fields #[vl,vu,.none]}};exact tail_any (ops:=[.ref s3.heap.objs.size,v]) ht hT hg<|by with_unfolding_all rfl
def dh(xs:List V)(lo hi:Option Int):List V:=(xs.drop<|HT.d3 xs.length 0 lo).take<|HT.d3 xs.length xs.length hi - HT.d3 xs.length 0 lo
theorem P4(xs:List V)(lo hi:Option Int):(dh xs lo hi).length<=xs.length:=by
 unfold dh;rw [Bi,Bm];omega
end
def kq(n:Nat)(i:Int):Option Nat:=if 0<=i then(if i < n then some i.toNat else none) else if -(n:Int)<=i then some (i+n).toNat else none
def dv{α:Type}(xs:List α)(i:Int):Option α:=(kq xs.length i).bind λj=>xs[j]?
theorem P5{n:Nat}{i:Int}{j:Nat}(h:kq n i=some j):seqIndex? i n=some j/\j < n/\-(n:Int)<=i/\i < n:=by
 unfold kq at h
 by_cases h0:0<=i
 ·rw [BL h0] at h
  by_cases h1:i < n
  ·rw [BL h1] at h;have e:i.toNat=j:=Option.some.inj h;exact⟨by rw [seqIndex_of h0 h1,e],by omega,by omega,h1⟩
  ·rw [BP h1] at h;cases h
 ·rw [BP h0] at h
  by_cases h1:-(n:Int)<=i
  ·rw [BL h1] at h;have e:(i+n).toNat=j:=Option.some.inj h;exact⟨by rw [seqIndex_neg (by omega) h1,e],by omega,h1,by omega⟩
  ·rw [BP h1] at h;cases h
theorem xN{α:Type}{xs:List α}{i:Int}{v:α}(h:dv xs i=some v):∃ j,seqIndex? i xs.length=some j/\xs[j]?=some v/\j < xs.length/\-(xs.length:Int)<=i/\i < xs.length:=by
 unfold dv at h;cases e:kq xs.length i with
 | none=>rw [e] at h;cases h
 | some j=>
  rw [e] at h;obtain⟨h1,h2,h3,h4⟩:=P5 e;exact⟨j,h1,h,h2,h3,h4⟩
theorem ku{α:Type}{xs:List α}{j:Nat}{v:α}(h:xs[j]?=some v):dv xs (j:Int)=some v:=by
 have hj:j < xs.length:=(Ac.mp h).1;have e:kq xs.length (j:Int)=some j:=by
  unfold kq;rw [BL (by omega),BL<|by omega];simp
 unfold dv;rw [e];exact h
theorem P6{α:Type}(xs:List α)(v:α):dv (xs++[v]) (-1)=some v:=by
 have hl:(xs++[v]).length=xs.length+1:=by simp
 have e:kq (xs++[v]).length (-1)=some xs.length:=by
  unfold kq;rw [hl,BP (by decide),BL<|by omega]
  congr 1
  omega
 unfold dv;rw [e];show(xs++[v])[xs.length]?=some v;simp
def Ge(b:Expr):Prop:=∀ o i,subscripted b false o i=operate [o,i] (getItem o i)
def qi(X:Cx)(r:R2):Prop:=
 ∀(value slice:Expr) (pins:List<|Addr×Obj) (s:Shared) (σ:St) (H:Hp) (x y:V) (v u:Value) (Q:VK),Inv X pins σ H s->RelV x v->RelV y u->r x y H Q ->
  subscripted slice false v u=operate [v,u] (getItem v u)->wpAny (model X.prog X.w) X.A (subscriptTail value slice v u) (EP X pins σ Q) X.xe s
def xO(X:Cx)(id:String)(r:V->List V->Hp->VK->Prop):Prop:=
 ∀(pins:List<|Addr×Obj) (s:Shared) (σ:St) (H:Hp) (x:V) (xs:List V) (v:Value) (us:List Value) (Q:VK),Inv X pins σ H s->RelV x v->aq xs us->r x xs H Q ->
  wpAny (model X.prog X.w) X.A (call (.builtin id)<|v :: us) (EP X pins σ Q) X.xe s
section
variable{X:Cx}{a b:Expr}{ta tb:TE}{pos:Pos}
theorem P7{r:R2}(hr:qi X r)(ha:PE X a ta)(hb:PE X b tb)(hs:Ge b):PE X (.Subscript a b pos) (uA r ta tb):=by
 intro pins s σ H Q I h;exact NZ<|lV ha hb I h λv u s2 x y H2 I2 rx ry q=>hr a b pins s2 σ H2 x y v u Q I2 rx ry q<|hs _ _
def xP(K:PySem.W.Frag):R2:=λx y H Q=>∃ p xs i v,x = .ref p/\y = .int i/\ak K H p xs/\dv xs i=some v/\Q v H
def xQ(K:PySem.W.Frag):R2:=λx y H Q=>∃ p xs i v,x = .ref p/\y = .int i/\aM K H p xs/\dv xs i=some v/\Q v H
def xR:R2:=λx y H Q=>∃ z i c,x = .str z/\y = .int i/\z.length<=sizeLine/\dv z.cps.toList i=some c/\Q (.str ⟨#[c]⟩) H
theorem cr:qi X (xP X.K):=by
 intro value slice pins s σ H x y v u Q I rx ry h hs;obtain⟨p,xs,i,z,rfl,rfl,hq,he,q⟩:=h;cases rx;obtain⟨t,rfl⟩:=ry;obtain⟨its,r,pl,hz⟩:=I.list hq;obtain⟨j,h1,h2,h3,h4,h5⟩:=xN he;obtain⟨w,ew,eV⟩:=r.get h2;have hl:=r.length;have hn:=qe;have fin:EP X pins σ Q w s:=⟨z,H,I,eV,q⟩
 by_cases h0:0<=i
 ·have hj:i.toNat=j:=by
   rw [seqIndex_of h0 h5] at h1;exact Option.some.inj h1
  exact item_listR pl.isList h0 (by omega) (by rw [hj];simpa using ew) fin hs
 ·have hj:(i+(its.toArray.size:Int)).toNat=j:=by
   rw [seqIndex_neg (by omega) h4] at h1;rw [Ap,<- hl];exact Option.some.inj h1
  exact subscriptTail_builtinR (x:=w) pl.isList.typeIs slot_list_getitem.lookup
   (wpAny_getItem_list_neg (Q:=λr s'=>r=w/\EP X pins σ Q r s') pl.isList (by omega) (by rw [Ap] <;> omega) (by omega) (by rw [hj];simpa using ew) ⟨rfl,fin⟩) hs
theorem bU:qi X (xQ X.K):=by
 intro value slice pins s σ H x y v u Q I rx ry h hs;obtain⟨p,xs,i,z,rfl,rfl,hq,he,q⟩:=h;cases rx;obtain⟨t,rfl⟩:=ry;obtain⟨its,r,pl,hz⟩:=I.tuple hq;obtain⟨j,h1,h2,h3,h4,h5⟩:=xN he;obtain⟨w,ew,eV⟩:=r.get h2;have hl:=r.length;have hn:=qe;have fin:EP X pins σ Q w s:=⟨z,H,I,eV,q⟩;exact subscriptTail_builtinR (x:=w) pl.typeIs slot_tuple_getitem.lookup
  (getItem_tuple (j:=j) (Q:=λr s'=>r=w/\EP X pins σ Q r s') pl (by omega) (by omega) (by rw [Ap,<- hl];exact h1) (by simpa using ew) ⟨rfl,fin⟩) hs
theorem Gf:qi X xR:=by
 intro value slice pins s σ H x y v u Q I rx ry h hs;obtain⟨z,i,c,rfl,rfl,hz,he,q⟩:=h;obtain⟨t,rfl⟩:=rx;obtain⟨t',rfl⟩:=ry;obtain⟨j,h1,h2,h3,h4,h5⟩:=xN he;have hl:z.cps.toList.length=z.length:=by simp [Str.length]
 rw [hl] at h1 h4 h5;have hn:=qe;exact tail_any (typeIs_str s z t) slot_str_getitem.lookup (getItem_str (c:=c) (by
  have e1:decide (i < -(2 ^ 63:Int))=false:=BR (by omega);have e2:decide (i>=2 ^ 63)=false:=BR (by omega);rw [e1,e2,Bool.or_false]) (by rw [h1];simpa using h2) ⟨.str ⟨#[c]⟩,H,I.tok _,⟨_,rfl⟩,q⟩) hs
theorem P8(lo hi:Option Int)(n:Nat):(sliceBounds lo hi none n).1=((HT.d3 n 0 lo:Nat):Int)/\(sliceBounds lo hi none n).2.1=((HT.d3 n n hi:Nat):Int)/\(sliceBounds lo hi none n).2.2=1:=by
 refine⟨?_,?_,rfl⟩
 ·cases lo with
  | none=>simp [sliceBounds,HT.d3]
  | some i=>
   simp only [sliceBounds,HT.d3,Option.getD_none,show(1:Int) > 0 by decide,CZ]
   by_cases h:i < 0
   ·simp only [h,CZ] <;> omega
   ·simp only [h,CN] <;> omega
 ·cases hi with
  | none=>simp [sliceBounds,HT.d3]
  | some i=>
   simp only [sliceBounds,HT.d3,Option.getD_none,show(1:Int) > 0 by decide,CZ]
   by_cases h:i < 0
   ·simp only [h,CZ] <;> omega
   ·simp only [h,CN] <;> omega
theorem P9(its:List Value)(lo hi:Option Int):slicePick its.toArray lo hi none=((its.drop<|HT.d3 its.length 0 lo).take<|HT.d3 its.length its.length hi - HT.d3 its.length 0 lo).toArray:=by
 obtain⟨h1,h2,h3⟩:=P8 lo hi its.toArray.size;unfold slicePick;rw [h1,h2,h3];simp only [sliceRange_one,pick_run,Ap] <;> rfl
def xS(K:PySem.W.Frag):V->Option Int->Option Int->Hp->VK->Prop:=λx lo hi H Q=>∃ a xs,x = .ref a/\ak K H a xs/\∀ p,H p=none->Q (.ref p) (upd H p<|.lst<|dh xs lo hi)
theorem kz:xM X (xS X.K):=by
 intro pins s σ H x v vl vu lo hi sl Q I rx hs pl pu h;obtain⟨a,xs,rfl,hx,q⟩:=h;cases rx;obtain⟨its,r,ht,hz⟩:=I.list hx;have hlen:=r.length;refine⟨"list",_,slot_list_getitem.lookup,ht.isList.typeIs,?_⟩;refine JB ht.isList hs pl pu .none (by simp) ?_ (by rw [Ap] <;> omega);rw [P9,<- hlen];refine⟨.ref s.heap.objs.size,_,I.laid (t':=s.toks) (o:= .lst<|dh xs lo hi) (λb ob q=>Ae _ q) (Ag _) ?_,rfl,q _<|I.aC.fresh<|Ag _⟩;exact⟨Bz (P4 xs lo hi) hz,_,0,(r.drop<|HT.d3 xs.length 0 lo).take<|HT.d3 xs.length xs.length hi - HT.d3 xs.length 0 lo,An _ rfl⟩
def ii:V->Bool
 | .non=>true
 | .bl _=>true
 | .int _=>true
 | .str _=>true
 | _=>false
def b8:V->V->Bool
 | .non,.non=>true
 | .bl a,.bl b=>a == b
 | .bl a,.int b=>(if a then 1 else 0) == b
 | .int a,.bl b=>a == (if b then 1 else 0)
 | .int a,.int b=>a == b
 | .str a,.str b=>a == b
 | _,_=>false
theorem Gg{A:Around}{s:Shared}{y x:V}{u v:Value}(ry:RelV y u)(rx:RelV x v)(fy:ii y=true)(fx:ii x=true):SeqAt.EqAt A s u v (b8 y x):=by
 cases y with
 | non=>
  cases ry;cases x with
  | non=>cases rx;exact SeqAt.EqAt.same _
  | bl b=>cases rx;exact SeqAt.EqAt.none_bool b
  | int b=>obtain⟨t,rfl⟩:=rx;exact SeqAt.EqAt.none_int b t
  | str b=>obtain⟨t,rfl⟩:=rx;exact SeqAt.EqAt.none_str b t
  | _=>exact absurd (show false=true from fx) Ao
 | bl a=>
  cases ry;cases x with
  | non=>cases rx;exact SeqAt.EqAt.bool_none a
  | bl b=>cases rx;exact SeqAt.EqAt.bool_bool a b
  | int b=>obtain⟨t,rfl⟩:=rx;exact SeqAt.EqAt.bool_int a b t
  | str b=>obtain⟨t,rfl⟩:=rx;exact SeqAt.EqAt.bool_str a b t
  | _=>exact absurd (show false=true from fx) Ao
 | int a=>
  obtain⟨t',rfl⟩:=ry;cases x with
  | non=>cases rx;exact SeqAt.EqAt.int_none a t'
  | bl b=>cases rx;exact SeqAt.EqAt.int_bool a t' b
  | int b=>obtain⟨t,rfl⟩:=rx;exact SeqAt.EqAt.int_int a t' b t
  | str b=>obtain⟨t,rfl⟩:=rx;exact SeqAt.EqAt.int_str a t' b t
  | _=>exact absurd (show false=true from fx) Ao
 | str a=>
  obtain⟨t',rfl⟩:=ry;cases x with
  | non=>cases rx;exact SeqAt.EqAt.str_none a t'
  | bl b=>cases rx;exact SeqAt.EqAt.str_bool a t' b
  | int b=>obtain⟨t,rfl⟩:=rx;exact SeqAt.EqAt.str_int a t' b t
  | str b=>obtain⟨t,rfl⟩:=rx;exact SeqAt.EqAt.str_str a t' b t
  | _=>exact absurd (show false=true from fx) Ao
 | _=>exact absurd (show false=true from fy) Ao
def jy(x:V)(u:Value):Bool:=match u with
 | .none=>b8 .non x
 | .bool b=>b8 (.bl b) x
 | .int i _=>b8 (.int i) x
 | .str z _=>b8 (.str z) x
 | _=>false
theorem Gh{x y:V}{u:Value}(r:RelV y u)(f:ii y=true):jy x u=b8 y x:=by
 cases y with
 | non=>cases r;rfl
 | bl b=>cases r;rfl
 | int i=>obtain⟨t,rfl⟩:=r;rfl
 | str z=>obtain⟨t,rfl⟩:=r;rfl
 | _=>exact absurd (show false=true from f) Ao
theorem xT{x:V}:∀{xs:List V} {us:List Value},aq xs us->xs.all ii=true->us.any (jy x)=xs.any λy=>b8 y x
 | _,_,.nil,_=>rfl
 | y :: xs,u :: us,.cons r t,f=>by
  rw [Fp,Br] at f;rw [Eu,Eu,Gh r f.1,xT t f.2]
theorem xU{A:Around}{s:Shared}{x:V}{v:Value}(rx:RelV x v)(fx:ii x=true):∀{xs:List V} {us:List Value},aq xs us->xs.all ii=true->∀ u∈us,SeqAt.EqAt A s u v<|jy x u
 | _,_,.nil,_=>λu hu=>by cases hu
 | y :: xs,u :: us,.cons r t,f=>λu' hu=>by
  rw [Fp,Br] at f
  rcases Am.mp hu with rfl | hu
  ·rw [Gh r f.1];exact Gg r rx f.1 fx
  ·exact xU rx fx t f.2 u' hu
def uF(x:V)(xs:List V):Bool:=xs.any λy=>b8 y x
def P'(K:PySem.W.Frag)(neg:Bool):R2:=λx y H Q=>∃ p xs,y = .ref p/\(ak K H p xs\/aM K H p xs)/\ii x=true/\xs.all ii=true/\Q (.bl (if neg then !uF x xs else uF x xs)) H
theorem Qa:cn X (compareOp .NotIn) (P' X.K true):=by
 intro pins s σ H x y v u Q I rx ry h;obtain⟨p,xs,rfl,hq,fx,fs,q⟩:=h;cases ry
 rcases hq with hq | hq
 ·obtain⟨its,r,pl,hz⟩:=I.list hq;refine SeqAt.notIn_listAt (jy x) pl.isList (λw hw=>xU rx fx r fs w<|by simpa using hw) ⟨.bl _,H,I,rfl,?_⟩;rw [show its.toArray.any (jy x)=its.any (jy x) by simp,xT r fs];exact q
 ·obtain⟨its,r,pl,hz⟩:=I.tuple hq;refine SeqAt.notIn_tupleAt (jy x) pl (λw hw=>xU rx fx r fs w<|by simpa using hw) ⟨.bl _,H,I,rfl,?_⟩;rw [show its.toArray.any (jy x)=its.any (jy x) by simp,xT r fs];exact q
theorem cZ:gU X (.builtin "len") (λxs H Q=>∃ p ys,xs=[.ref p]/\(ak X.K H p ys\/aM X.K H p ys)/\Q (.int ys.length) H):=by
 intro pins s σ H xs us Q I r h;obtain⟨p,ys,rfl,hq,q⟩:=h;obtain⟨u,rfl,rx⟩:=vals1 r;cases rx;have hn:=qe
 rcases hq with hq | hq
 ·obtain⟨its,r',pl,hz⟩:=I.list hq;have hlen:=r'.length;exact Calls.call_len_list pl.isList (by simp only [Ap] <;> omega) ⟨.int ys.length,H,I.tok _,⟨s.toks+1,by rw [Ap,hlen]⟩,q⟩
 ·obtain⟨its,r',pl,hz⟩:=I.tuple hq;have hlen:=r'.length;exact len_tuple pl (by simp only [Ap] <;> omega) ⟨.int ys.length,H,I.tok _,⟨s.toks+1,by rw [Ap,hlen]⟩,q⟩
theorem Qb:gU X (.type "list") (λxs H Q=>∃ p ys,xs=[.ref p]/\(ak X.K H p ys\/aM X.K H p ys)/\∀ l,H l=none->Q (.ref l) (upd H l<|.lst ys)):=by
 intro pins s σ H xs us Q I r h;obtain⟨p,ys,rfl,hq,q⟩:=h;obtain⟨u,rfl,rx⟩:=vals1 r;cases rx;have fin:∀(its:List Value),aq ys its->ys.length<=sizeLine->∀(h':Heap) (c':Nat),(∀ b o',s.heap.get? b=some o'->h'.get? b=some o') ->
   h'.get? s.heap.objs.size=some {cls:= .type "list",dict:=none,data:= .seq its.toArray c',slots:=#[]}->EP X pins σ Q (.ref s.heap.objs.size) {s with heap:=h'}:=λits r' hz h' c' kp e=>
  ⟨.ref s.heap.objs.size,_,I.laid (t':=s.toks) kp (Ag _) (show az X.prog X.w _ h' _ (.lst ys) from⟨hz,its,c',r',e⟩),rfl,q _<|I.aC.fresh<|Ag _⟩
 rcases hq with hq | hq
 ·obtain⟨its,r',pl,hz⟩:=I.list hq;have hlen:=r'.length;obtain⟨o,ho,hc,n,hd⟩:=pl.isList;exact call_list_seq p (.inl rfl) ho hc hd (λh' c' kp e=>fin its r' hz h' c' kp e)<|by simp only [Ap] <;> omega
 ·obtain⟨its,r',pl,hz⟩:=I.tuple hq;have hlen:=r'.length;obtain⟨o,ho,hc,n,hd⟩:=pl;exact call_list_seq p (.inr rfl) ho hc hd (λh' c' kp e=>fin its r' hz h' c' kp e)<|by simp only [Ap] <;> omega
def l4(K:PySem.W.Frag)(T:String)(x:V)(H:Hp):Prop:=match x with
 | .str _=>T = "str"
 | .int _=>T = "int"
 | .ref p=>(T = "list"/\∃ xs,ak K H p xs)\/(T = "tuple"/\∃ o,K.lookup p=some o/\o.cls = .type "tuple"/\o.dict=none) \/
   (T = "dict"/\((∃ kvs,H p=some (.dK kvs))\/∃ kvs,H p=some (.dT kvs)))\/(T = "set"/\∃ S n,H p=some (.set S n))
 | _=>False
theorem Qc{pins:List (Addr×Obj)}{σ:St}{H:Hp}{s:Shared}{T:String}{x:V}{v:Value}(I:Inv X pins σ H s)(r:RelV x v)(ty:l4 X.K T x H) :
  s.TypeIs v T/\∀ a,v = .ref a->∃ ob,s.heap.get? a=some ob/\ob.dict=none:=by
 cases x with
 | str z=>
  obtain⟨t,rfl⟩:=r;cases (show T = "str" from ty);exact⟨typeIs_str s z t,λ_ e=>nomatch e⟩
 | int i=>
  obtain⟨t,rfl⟩:=r;cases (show T = "int" from ty);exact⟨typeIs_int s i t,λ_ e=>nomatch e⟩
 | ref p=>
  cases r
  rcases ty with ⟨rfl,xs,hq⟩ | ⟨rfl,o,hk,hc,hd⟩ | ⟨rfl,hk⟩ | ⟨rfl,S,n,hk⟩
  ·obtain⟨its,_,pl,_⟩:=I.list hq;refine⟨pl.isList.typeIs,λa e=>?_⟩;cases e;obtain⟨o,n,e,c,hd,_⟩:=pl;exact⟨o,e,hd⟩
  ·refine⟨⟨o,I.oj p o hk,hc⟩,λa e=>?_⟩;cases e;exact⟨o,I.oj _ o hk,hd⟩
  ·have z:∃ o,s.heap.get? p=some o/\o.ExactDict:=by
    rcases hk with ⟨kvs,hk⟩ | ⟨kvs,hk⟩
    ·obtain⟨_,_,_,_,o,_,_,e,ex,_⟩:=I.aC p _ hk;exact⟨o,e,ex⟩
    ·obtain⟨_,_,_,_,o,_,_,e,ex,_⟩:=I.aC p _ hk;exact⟨o,e,ex⟩
   obtain⟨o,e,ex⟩:=z;refine⟨⟨o,e,ex.1⟩,λa e2=>?_⟩;cases e2;exact⟨o,e,ex.2.1⟩
  ·obtain⟨o,_,_,_,e,ex,_⟩:=I.aC p _ hk;refine⟨⟨o,e,ex.1⟩,λa e2=>?_⟩;cases e2;exact⟨o,e,ex.2.1⟩
 | _=>exact False.elim ty
def Qd(K:PySem.W.Frag)(T:String)(r:V->List V->Hp->VK->Prop)(to:TE)(t:TA):TE:=λσ H Q=>to σ H λx H1=>l4 K T x H1/\t σ H1 λxs H2=>r x xs H2 Q
variable{o e:Expr}{es:List Expr}{to:TE}{t:TA}{name:Str}{apos dG:Pos}{T id:String}{r:V->List V->Hp->VK->Prop}
theorem xV(pa:PlainAttrs T)(slot:Slot T name id)(qj:typeOf (.builtin id)=pure (.type "method_descriptor"))(hm:xO X id r)(ho:PE X o to)(ha:PA X (e :: es) t)
  (bG:attributeBase o name X.env (eval o X.env)=eval o X.env:=by rfl)
  (bY : ((backTo dG<|starEach (e :: es) X.env).all (λx => !x.1) && (backToKw dG<|keywordEach [] X.env).all (λx => x.1.isSome)
   && decide ((e :: es).length+([]:List Keyword).length+(if([]:List Keyword).isEmpty then 0 else 1) < 30))=true:=by rfl)
  (hline:(apos.endLine == dG.line)=true:=by rfl) (hs:starEach (e :: es) X.env=(false,eval e X.env) :: starEach es X.env:=by rfl) (bP:(backTo dG<|starEach es X.env).any (·.1)=false:=by rfl) :
  PE X (.Call (.Attribute o name apos) (e :: es) [] dG) (Qd X.K T r to t):=by
 intro pins s σ H Q I h;refine JK bG bY hline rfl (aE (ho pins s σ H _ I h) λv s1 ⟨x,H1,I1,r1,ty,q1⟩=>?_);obtain⟨h1,h2⟩:=Qc I1 r1 ty;refine⟨T,id,pa,slot,qj,h1,h2,?_⟩;have hA:=ha dG pins s1 σ H1 _ I1 q1;rw [hs] at hA ⊢;refine HJ (by show(false || (backTo dG<|starEach es X.env).any (·.1))=false;rw [bP] <;> rfl)<|HY ?_;exact aE hA λus s2 ⟨vs,H2,I2,r2,q2⟩=>hm pins s2 σ H2 x vs v us Q I2 r1 r2 q2
end
def qk(X:Cx)(id:String)(r:V->List V->Hp->VK->Prop):Prop:=
 ∀(pins:List<|Addr×Obj) (s:Shared) (σ:St) (H:Hp) (x:V) (xs:List V) (v:Value) (us:List Value) (Q:VK),Inv X pins σ H s->RelV x v->aq xs us->r x xs H Q ->
  wpAny (model X.prog X.w) X.A (call (.builtin id)<|v :: us) (EP X pins σ Q) X.xe s
theorem aq.hd{x:V}{xs:List V}{us:List Value}(h:aq (x :: xs) us):∃ u vs,us=u :: vs/\RelV x u/\aq xs vs:=by
 cases h with
 | cons r t=>exact⟨_,_,rfl,r,t⟩
theorem aq.nl{us:List Value}(h:aq [] us):us=[]:=by
 cases h;rfl
theorem aq.one{x:V}{us:List Value}(h:aq [x] us):∃ u,us=[u]/\RelV x u:=by
 obtain⟨u,vs,rfl,r,t⟩:=h.hd;rw [t.nl];exact⟨u,rfl,r⟩
theorem aq.two{x y:V}{us:List Value}(h:aq [x,y] us):∃ u v,us=[u,v]/\RelV x u/\RelV y v:=by
 obtain⟨u,vs,rfl,r,t⟩:=h.hd;obtain⟨v,ws,rfl,q,t⟩:=t.hd;rw [t.nl];exact⟨u,v,rfl,r,q⟩
theorem aq.zero:∀{us:List Value},aq [] us->us=[]
 | _,.nil=>rfl
theorem aq.eraseIdx:∀{xs:List V} {us:List Value} (i:Nat),aq xs us->aq (xs.eraseIdx i) (us.eraseIdx i)
 | _,_,_,.nil=> .nil
 | _,_,0,.cons _ t=>t
 | _,_,i+1,.cons r t=> .cons r<|aq.eraseIdx i t
theorem Gi{α:Type}:∀(l:List α) (i:Nat),(l.eraseIdx i).length<=l.length
 | [],_=>Ag _
 | _ :: _,0=>QZ _
 | _ :: r,i+1=>Nat.succ_le_succ<|Gi r i
section
variable{X:Cx}{pins:List (Addr×Obj)}{σ:St}{H:Hp}{s:Shared}{l b:Addr}{xs ys zs:List V}
theorem Inv.jz{its its':List Value}{n:Nat}{f:Array Value->Array Value}{t':Nat}(I:Inv X pins σ H s)(hH:H l=some (.lst xs))
  (e:s.heap.get? l=some {cls:= .type "list",data:= .seq its.toArray n}) (hf:f its.toArray=its'.toArray) (hv:aq ys its') (hz:ys.length<=sizeLine) :
  Inv X pins σ (upd H l<|.lst ys) {s with heap:=s.heap.update l<|Obj.mapSeq f,toks:=t'}:=by
 have q:=PySem.IsL.update e f;rw [hf] at q;refine I.write (x:=l) (e:=l) (by rw [hH];exact trivial) (.inl rfl) (λb' u hb hu=>(Bx s.heap (Obj.mapSeq f)<|BX hb).trans hu) ⟨_,q⟩ ?_;exact⟨hz,its',_,hv,q⟩
theorem Inv.l7{its:List Value}{t':Nat}(I:Inv X pins σ H s)(hv:aq ys its)(hz:ys.length<=sizeLine) :
  Inv X pins σ (upd H s.heap.objs.size<|.lst ys) {s with heap:=s.heap.push {cls:= .type "list",data:= .seq its.toArray},toks:=t'}:=
 I.laid (λ_ _ q=>Ae _ q) (Ag _) ⟨hz,its,0,hv,An _ rfl⟩
theorem Inv.fresh(I:Inv X pins σ H s):H s.heap.objs.size=none:=I.aC.fresh<|Ag _
theorem Inv.fm(I:Inv X pins σ H s)(hH:H l=some (.lst xs)):xs.length<=sizeLine/\∃(its:List Value) (n:Nat),aq xs its/\xs.length=its.length/\s.heap.get? l=some {cls:= .type "list",data:= .seq its.toArray n}:=by
 obtain⟨z,its,n,r,e⟩:=I.aC l _ hH;exact⟨z,its,n,r,r.length,e⟩
theorem Qe{n:Nat}(h:n<=sizeLine):Builtin.List.listTooLong n=false:=by
 unfold Builtin.List.listTooLong;exact BR<|by omega
end
section
variable{X:Cx}
def Qf:V->List V->Hp->VK->Prop:=λx vs H Q=>∃ l xs y,x = .ref l/\vs=[y]/\H l=some (.lst xs)/\xs.length < sizeLine/\Q .non (upd H l<|.lst<|xs++[y])
theorem Gj:qk X "list.append" Qf:=by
 intro pins s σ H x vs v us Q I rx rv h;obtain⟨l,xs,y,rfl,rfl,hH,hz,q⟩:=h;cases rx;obtain⟨u,rfl,ru⟩:=rv.one;obtain⟨z,its,n,r,hl,e⟩:=I.fm hH;refine OD F.slot_list_append ⟨_,e,rfl⟩ F.entry_list_append (F.args_list_append_2 _ _) (PySem.list_append l its.toArray n u<|by rw [Ap];omega) ⟨e,?_⟩;refine⟨.non,_,I.jz (its':=its++[u]) hH e (by simp) (r.append<|.cons ru .nil) ?_,rfl,q⟩;rw [Af,Do];omega
def Qg:V->List V->Hp->VK->Prop:=λx vs H Q=>∃ l b xs zs,x = .ref l/\vs=[.ref b]/\H l=some (.lst xs)/\H b=some (.lst zs)/\xs.length+zs.length<=sizeLine/\Q .non (upd H l<|.lst<|xs++zs)
theorem Qh:qk X "list.extend" Qg:=by
 intro pins s σ H x vs v us Q I rx rv h;obtain⟨l,b,xs,zs,rfl,rfl,hH,hB,hz,q⟩:=h;cases rx;obtain⟨u,rfl,ru⟩:=rv.one;cases ru;obtain⟨z,its,n,r,hl,e⟩:=I.fm hH;obtain⟨z2,cU,n2,r2,ql,e2⟩:=I.fm hB;have hsz:its.toArray.size+cU.toArray.size<=sizeLine:=by rw [Ap,Ap];omega
 have qm:¬(!its.toArray.isEmpty && Builtin.List.listTooLong (its.toArray.size+cU.toArray.size))=true:=by
  rw [Qe hsz,RG];exact Ao
 refine OD F.slot_list_extend ⟨_,e,rfl⟩ F.entry_list_extend (F.args_list_extend_2 _ _)
  (AutoSeq1.list_extend_list_list_0 l its.toArray n b cU.toArray n2 qm (by rw [Ap];omega)<|by omega) ⟨e,e2,?_⟩
 refine⟨.non,_,I.jz (its':=its++cU) hH e (by simp) (r.append r2) ?_,rfl,q⟩;rw [Af];omega
def Qi:V->List V->Hp->VK->Prop:=λx vs H Q=>∃ l xs i k y,x = .ref l/\vs=[.int i]/\H l=some (.lst xs)/\-(2 ^ 63)<=i/\i < 2 ^ 63/\seqIndex? i xs.length=some k/\xs[k]?=some y/\Q y (upd H l<|.lst<|xs.eraseIdx k)
theorem Gk:qk X "list.pop" Qi:=by
 intro pins s σ H x vs v us Q I rx rv h;obtain⟨l,xs,i,k,y,rfl,rfl,hH,h1,h2,hk,hy,q⟩:=h;cases rx;obtain⟨u,rfl,ru⟩:=rv.one;obtain⟨t,rfl⟩:=ru;obtain⟨z,its,n,r,hl,e⟩:=I.fm hH;obtain⟨w,hw,eV⟩:=r.get hy;refine OD F.slot_list_pop ⟨_,e,rfl⟩ F.entry_list_pop (F.args_list_pop_2 _ _)
  (MeetsSeq.list_pop_at l its.toArray n i t k w (fitsIndex_both h1 h2) (by rw [Ap,<- hl];exact hk) (by rw [<- Bg];exact hw)<|by rw [Ap];omega) ⟨e,?_⟩
 refine⟨y,_,I.jz (its':=its.eraseIdx k) hH e ?_ (r.eraseIdx k) ?_,eV,q⟩
 ·show its.toArray.eraseIdxIfInBounds k=(its.eraseIdx k).toArray;rw [List.eraseIdxIfInBounds_toArray]
 ·have:=Gi xs k;omega
def xW:R2:=λx y H Q=>∃ l b xs zs,x = .ref l/\y = .ref b/\H l=some (.lst xs)/\H b=some (.lst zs)/\xs.length+zs.length<=sizeLine/\∀ p,H p=none->Q (.ref p) (upd H p<|.lst<|xs++zs)
theorem uG:cn X (binaryOp .Add) xW:=by
 intro pins s σ H x y v u Q I rx ry h;obtain⟨l,b,xs,zs,rfl,rfl,hH,hB,hz,q⟩:=h;cases rx;cases ry;obtain⟨z,its,n,r,hl,e⟩:=I.fm hH;obtain⟨z2,cU,n2,r2,ql,e2⟩:=I.fm hB;refine PySem.P.add_list e e2 ?_ (by rw [Ap,Ap];omega);have ea:its.toArray++cU.toArray=(its++cU).toArray:=by simp
 rw [ea];exact⟨.ref _,_,I.l7 (t':=s.toks) (r.append r2) (by rw [Af];omega),rfl,q _ I.fresh⟩
end
section
variable{prog:Program}{w:World}{A:Around}{E:Value->Shared->Prop}{s:Shared}
end
section
variable{X:Cx}
end
end L2
namespace Gm
open PySem PySem.W PySem.Calls PyProof.Rows
theorem Qj{P:Params}{h:Heap}:∀(ns:List Int) (vs:List Value),WellAll P h vs (ns.map WData.int)->IntsAre vs ns:=by
 intro ns
 induction ns with
 | nil=>
  intro vs w;rw [List.map_nil] at w;cases w;exact .nil
 | cons n ns ih=>
  intro vs w;rw [Bb] at w;cases w with
  | cons a b=>
   cases a;exact .cons _ _<|ih _ b
theorem Qk{l:OpenLaw}{n:Nat}(hn:l.most=some n){P:Params}{h:Heap}{args:List WData}{vals:List Value}
  (jA:l.row.toRowW.claim.pre args=true) (qo:WellAll P h vals args) :
  ∃ a vs ns,vals=[Value.ref a]/\args=[WData.list<|ns.map WData.int]/\h.get? a=some {cls:= .type "list",data:= .seq vs.toArray}/\IntsAre vs ns/\ns.length<=n:=by
 have uH:WShape.hasAll [] args [.list .int]=true:=(pre_splitW jA).1;have hc:l.pre.holds [] {args:=args}=true:=(pre_splitW jA).2;obtain⟨d,r,rfl,h1,h2⟩:=hasAllW_cons uH;obtain rfl:=hasAllW_nil h2;obtain⟨xs,rfl,h3⟩:=hasW_list h1;obtain⟨ns,rfl⟩:=items_int h3;have hlen:ns.length<=n:=by
  unfold OpenLaw.pre at hc;have h4:(WTm.not<|.lt (.lit<|.int (n:Int))<|.len<|.arg 0).holds [] {args:=[.list<|ns.map .int]}=true:=by
   have h4:=(holds_andW hc).1;rw [hn] at h4;exact h4
  have h5:=condW_of h4<|w_not<|w_lt w_lit<|w_len_list<|w_arg rfl;rw [Aa] at h5;refine Nat.le_of_not_lt λq=>?_;have q':(n:Int) < ((ns.length:Nat):Int):=by omega
  first
   | (rw [BW q'] at h5;exact absurd h5<|by decide)
   | (simp at h5;omega)
 cases qo with
 | cons w1 w2=>
  cases w2;cases w1 with
  | list ho fq=>exact⟨_,_,ns,rfl,rfl,ho,Qj ns _ fq,hlen⟩
theorem Ql(l:OpenLaw)(args:List WData):l.row.toRowW.claim.post args (.bool true) args=true:=
 postW_of (r:=l.row.toRowW) (X:=(true == true))
  (show WShape.has [] (.bool true) .bool=true by first | rfl | decide | simp [WShape.has,WShape.arms,WShape.armsAll])
  (show(WTm.eq .res<|.lit<|.bool true).value [] {args:=args,res:=some<|.bool true,after:=args}=some (.bool<|true == true) from w_eq_bool (w_res rfl) w_lit) rfl
theorem d7{l:OpenLaw}{n:Nat}{q:Program}{loose:List Str}{XP:(Str->Option Value)->Heap->Prop}{YP:World->Heap->Prop}{d:DefRec}
  (hn:l.most=some n) (qp:d.params.defaults=[])
  (call : ∀ (w : World) (s₀ s₁ : Shared) (mg mb : Str → Option Value) (fa : Addr) (o : Obj) (pm cd doc : Value) (a : Addr) (vs : List Value) (ns : List Int),
   Ground q loose [] XP w s₀ mg mb s₁.heap->YP w s₁.heap ->
   s₁.heap.get? fa=some o->o.data = .func (docDef d.name d.params d.body d.scope pm cd doc)->s₁.heap.CodeRec cd d.name->mg d.name=some (.ref fa) ->
   s₁.heap.get? a=some {cls:= .type "list",data:= .seq vs.toArray}->IntsAre vs ns->ns.length<=n->s₁.gens=#[] ->
   codeAny (model l.prog w) callerA (.call (.ref fa) ⟨[.ref a],[]⟩) (λr s'=>r = .ok (.ret<|.bool true)/\OldK s₁.heap s'.heap/\s'.os=s₁.os/\AllBare s'.gens) s₁) :
  WalkO q loose XP YP l.row.toRowW d [] (λf vs=>PySem.call f vs):=by
 intro w s₀ s₁ mg mb G Y fa o pm cd doc dV kV ho hd fM hD qt hg args vals as jA hlay hrd qo xX;obtain rfl:dV = .none:=Dflts.none hD qp;obtain rfl:kV = .none:=Dflts.noKw hD;obtain⟨a,vs,ns,rfl,rfl,ik,hints,hlen⟩:=Qk hn jA qo;refine enter_call<|KC (call w s₀ s₁ mg mb fa o pm cd doc a vs ns G Y ho (fd_plain hd) fM qt ik hints hlen hg) λr s' hq=>?_;obtain⟨rfl,h2,h3,h4⟩:=hq;exact⟨.inl ⟨.bool true,.bool true,[],rfl,λ_=>rfl,.bool true,Ql l _,λ_=>⟨List.Pairwise.nil,λ_ hm=>(nomatch hm)⟩⟩,h2,h3,h4⟩
section
variable{prog:Program}{w:World}{A:Around}{E:Value->Shared->Prop}{s:Shared}{K:Frag}
end
end Gm
namespace L2
open PySem PySem.Spec PyProof.Rows
theorem Gn:∀{vs:List Value} {ns:List Int},IntsAre vs ns->aq (ns.map V.int) vs
 | _,_,.nil=> .nil
 | _,_,.cons n t h=> .cons ⟨t,rfl⟩<|Gn h
def Only(H:Hp):Prop:=∀ b,H b=none\/∃ o xs,H b=some (.bN o<|.lst xs)
theorem Qm{P:Program}{w:World}{K:PySem.W.Frag}{mg mb:Str->Option Value}{CX:eU}{k:Nat}{fa a:Addr}{fd:FuncData}{x:Str}{sp:Sp}{s₁:Shared}{vs:List Value}{ns:List Int}
  (KX:K.In s₁.heap) (uI:s₁.heap.Ns mainGlobals mg) (hb:s₁.heap.Ns builtinsNs mb) (Qn:∀ x:Str,x ≠ "__name__"->mb x=bootBuiltins x) (xY:s₁.heap.NoLimit) (hg:s₁.gens=#[])
  (ha:s₁.heap.get? a=some {cls:= .type "list",data:= .seq vs.toArray}) (hi:IntsAre vs ns) (hl:ns.length<=sizeLine) (hr:bf k callerA)
  (F:∀ base:Heap,K.In base->base.Ns mainGlobals mg->aD P w K mg base CX k fa fd [x] sp) (qu:∀(s:Shared) (u:Value),BindsTo s fd ⟨[u],[]⟩ [(x,u)])
  (cY:∀ H:Hp,Only H->ak K H a (ns.map V.int)->sp [.ref a] H (λv _=>v = .bl true) λ_ _ _=>False)
  (xZ:∀ H e s',CX [] H s₁ (λ_ _ _=>False) e s'->False) :
  codeAny (model P w) callerA (.call (.ref fa) ⟨[.ref a],[]⟩) (λr s'=>r = .ok (.ret<|.bool true)/\OldK s₁.heap s'.heap/\s'.os=s₁.os/\AllBare s'.gens) s₁:=by
 have rv:=Gn hi;have x3:=hi.length;have core:∀ H:Hp,Only H->ak K H a (ns.map V.int)->bQ P w H s₁.heap->(∀ b,H b≠none->b=a)->(H a≠none->K.lookup a=none) ->
   codeAny (model P w) callerA (.call (.ref fa) ⟨[.ref a],[]⟩) (λr s'=>r = .ok (.ret<|.bool true)/\OldK s₁.heap s'.heap/\s'.os=s₁.os/\AllBare s'.gens) s₁:=by
  intro H hO hS aC hA hK;have fQ:∀{b:Addr} {o:Obj},s₁.heap.get? b=some o->H b=none->(dD s₁.heap H).get? b=some o:=λe n=>Oc e n;have qg:∀{b:Addr} {o:Obj} {es:Array DictEntry} {ep:Nat},s₁.heap.get? b=some o->o.data = .dict es ep->H b=none:=λ{b o es ep} e d=>by
   cases q:H b with
   | none=>rfl
   | some u=>
    have e':b=a:=hA b (by rw [q];simp);subst e';rw [ha] at e;cases e;have d':Data.seq vs.toArray _=Data.dict es ep:=d;cases d'
  have uJ:∀{b:Addr} {m:Str->Option Value},s₁.heap.Ns b m->(dD s₁.heap H).Ns b m:=λ{b m} ⟨o,es,ep,e,d,r⟩=>⟨o,es,ep,fQ e<|qg e d,d,r⟩;have Gp:K.In (dD s₁.heap H):=λb o e=>fQ (KX b o e)<|by
   cases q:H b with
   | none=>rfl
   | some u=>
    have e':b=a:=hA b (by rw [q];simp);subst e';rw [hK<|by rw [q];simp] at e;cases e
  have hM:Mod K mg (dD s₁.heap H):=⟨Gp,uJ uI,⟨mb,uJ hb,Qn⟩,let ⟨mc,h1,h2⟩:=xY;⟨mc,uJ h1,h2⟩⟩;have e0:jv P w K mg (dD s₁.heap H) callerA [] s₁ H:=⟨rfl,hM,λb o e=>Od e,Nat.le_of_eq<|Ob _ _,trivial,λb hb=>absurd (show b∈([]:List Addr) from hb) (by simp),aC,.of_eq hg⟩;refine KC ((F _ Gp<|uJ uI).run callerA [] s₁ H ⟨[.ref a],[]⟩ [.ref a] [.ref a] _ _ hr e0 (qu s₁<|.ref a) (.cons rfl .nil)<|cY H hO hS) λr s' h=>?_;cases r with
  | error e=>exact(xZ H e s' h).elim
  | ok fl=>
   cases fl with
   | next=>exact False.elim h
   | brk=>exact False.elim h
   | cont=>exact False.elim h
   | ret u=>
    obtain⟨v,H',os,bare,un,x4,r',q⟩:=h;have q':v = .bl true:=q;subst q';obtain rfl:u=Value.bool true:=r';refine⟨rfl,OldK.of_keep λb o e=>?_,os,bare⟩;cases q:H b with
    | none=>exact un.keep b o e q (by intro z;exact absurd (show b∈([]:List Addr) from z)<|by simp)<|by simp
    | some u=>
     rcases hO b with z | ⟨ob,xs,z⟩
     ·rw [q] at z;cases z
     ·have z2:=un.de b ob _ z;obtain⟨e1,_⟩:=aC b _ z;obtain⟨e2,_⟩:=x4 b _ z2;rw [e] at e1;cases e1;exact e2
 cases hk:K.lookup a with
 | some o=>
  have e:=KX a o hk;rw [ha] at e;cases e;refine core (λ_=>none) (λ_=> .inl rfl) (.inr ⟨_,vs.toArray,_,hk,rfl,rfl,rfl,by rw [Ap,x3];exact hl,by simpa using rv⟩) (λb u z=>by have z':(none:Option HO)=some u:=z;cases z') (λb z=>absurd rfl z) λz=>absurd rfl z
 | none=>
  refine core (λb=>if b=a then some (.bN {cls:= .type "list",data:= .seq vs.toArray}<|.lst<|ns.map V.int) else none) (λb=>?_) (.inl<|.inr ⟨{cls:= .type "list",data:= .seq vs.toArray},BL rfl⟩) (λb u z=>?_) (λb z=>?_) λ_=>hk
  ·by_cases hb:b=a
   ·exact .inr ⟨_,_,BL hb⟩
   ·exact .inl<|BP hb
  ·by_cases hb:b=a
   ·have z':=(BL hb).symm.trans z;cases z';subst hb;exact⟨ha,by rw [Aa];exact hl,vs,_,rv,ha⟩
   ·have z':=(BP hb).symm.trans z;cases z'
  ·by_cases hb:b=a
   ·exact hb
   ·exact absurd (BP hb) z
theorem jB{l:PySem.W.OpenLaw}{n k:Nat}{q:Program}{loose:List Str}{XP:(Str->Option Value)->Heap->Prop}{YP:World->Heap->Prop}{d:DefRec}{K:Params->PySem.W.Frag}{CX:World->eU}{sp:World->Sp}{x:Str}
  (hn:l.most=some n) (Qo:n<=sizeLine) (qp:d.params.defaults=[]) (hr:bf k callerA)
  (hY:∀(w:World) (h:Heap),YP w h->(K w.params).In h)
  (F : ∀ (w : World) (mg : Str → Option Value) (fa : Addr) (h : Heap), (K w.params).In h → h.Ns mainGlobals mg → mg d.name = some (.ref fa) →
   ∃ fd:FuncData,(∀(s:Shared) (u:Value),BindsTo s fd ⟨[u],[]⟩ [(x,u)]) /\
    ∀ base:Heap,(K w.params).In base->base.Ns mainGlobals mg->aD l.prog w (K w.params) mg base (CX w) k fa fd [x] (sp w))
  (cY:∀(w:World) (H:Hp) (a:Addr) (ns:List Int),ns.length<=n->Only H->ak (K w.params) H a (ns.map V.int)->sp w [.ref a] H (λv _=>v = .bl true) λ_ _ _=>False)
  (xZ:∀(w:World) (H:Hp) (s:Shared) (e:Value) (s':Shared),CX w [] H s (λ_ _ _=>False) e s'->False) :
  PySem.W.WalkO q loose XP YP l.row.toRowW d [] (λf vs=>PySem.call f vs):=by
 refine Gm.d7 hn qp λw s₀ s₁ mg mb fa o pm cd doc a vs ns G Y ho hd fM qt ik hints hlen hg=>?_;have KX:=hY w _ Y;obtain⟨fd,hb,hF⟩:=F w mg fa _ KX G.T.g qt;exact Qm KX G.T.g G.T.b G.T.builtins G.T.nolimit hg ik hints (Bz hlen Qo) hr hF hb (λH hO hS=>cY w H a ns hlen hO hS) λH e s'=>xZ w H s₁ e s'
def kA(s:Stmt):Arguments:=match s with
 | .FunctionDef _ a _ _ _ _ _ _ _ _=>a
 | _=>{posonlyargs:=[],args:=[],vararg:=none,kwonlyargs:=[],kw_defaults:=[],kwarg:=none,defaults:=[]}
def fS(s:Stmt):List Stmt:=match s with
 | .FunctionDef _ _ b _ _ _ _ _ _ _=>b
 | _=>[]
def aV(s:Stmt):Scope:=match s with
 | .FunctionDef _ _ _ _ _ _ sc _ _ _=>sc
 | _=>{kind:= .function,names:=[],isGenerator:=false,isCoroutine:=false}
abbrev bD:eU:=λ_ _ _ _ _ _=>False
abbrev E0:XK:=λ_ _ _=>False
theorem Qp{X:Cx}:jx bD X E0:=λ_ _ _ _ _ _ _ h=>h.elim
structure bu(K:PySem.W.Frag)(x qual:Str)(st:Stmt)(f:Addr)(fd:FuncData):Prop where
 ex:∃(oc:Value) (od:Option Addr) (kV doc pm:Value) (an:Option Addr) (bn ct:Value) (i5:Array<|Option Value),
  fd=PySem.W.fnOf x qual (kA st) (fS st) (aV st) .none kV doc pm an bn ct/\K.lookup f=some ⟨oc,od,.func fd,i5⟩/\PySem.W.codeIn K bn qual=true
 kp:PySem.W.keepIn K (.ref f)=true
section
variable{P:Program}{w:World}{K:PySem.W.Frag}{mg:Str->Option Value}{base:Heap}
theorem bu.ok{x qual:Str}{st:Stmt}{f:Addr}{fd:FuncData}{N ps:List Str}{k:Nat}{sp:Sp}(F:bu K x qual st f fd)(S:ao N ps<|aV st)(len:∀ vs H Q E,sp vs H Q E->vs.length=ps.length)
  (cq : ∀ (bn : Value) (A : Around) (outer : List Env) (s : Shared) (H : Hp) (vs : List V) (Q : VK) (E : XK), bf k (A.deeper<|envOfC qual (aV st) s.heap.objs.size f bn) → sp vs H Q E →
   ∃ t,gn (cD bD P w K mg base N qual (aV st) f bn A outer s H E).om (fS st) t/\t {nx:=λ_ H'=>Q .non H',rt:=Q} (start N vs) H):aD P w K mg base bD (k+1) f fd ps sp:=by
 obtain⟨oc,od,kV,doc,pm,an,bn,ct,i5,rfl,lk,fM⟩:=F.ex;refine Gd lk fM S len λA outer s H vs Q E hr cY=>?_;obtain⟨t,h,q⟩:=cq bn A outer s H vs Q E hr cY;exact⟨t,h.om,q⟩
theorem bu.binds{x qual:Str}{st:Stmt}{f:Addr}{fd:FuncData}{ps:List Str}(F:bu K x qual st f fd)
  (h:∀(kV doc pm:Value) (an:Option Addr) (bn ct:Value) (us:List Value),us.length=ps.length->bindArgs (PySem.W.fnOf x qual (kA st) (fS st) (aV st) .none kV doc pm an bn ct) ⟨us,[]⟩=pure (ps.zip us)):Binds K fd ps []:=by
 obtain⟨oc,od,kV,doc,pm,an,bn,ct,i5,rfl,lk,fM⟩:=F.ex;exact .all<|h kV doc pm an bn ct
theorem Qq{x qual:Str}{st:Stmt}{f:Addr}{oc:Value}{od an:Option Addr}{i5:Array (Option Value)}{kV doc pm bn ct:Value}(l:K.lookup f=some ⟨oc,od,.func<|PySem.W.fnOf x qual (kA st) (fS st) (aV st) .none kV doc pm an bn ct,i5⟩)
  (c:PySem.W.codeIn K bn qual=true) (k:PySem.W.keepIn K (.ref f)=true):bu K x qual st f (PySem.W.fnOf x qual (kA st) (fS st) (aV st) .none kV doc pm an bn ct):=⟨⟨oc,od,kV,doc,pm,an,bn,ct,i5,rfl,l,c⟩,k⟩
end
section
variable{X:Cx}
end
theorem bH{A B:Prop}(h:B):if false=true then A else B:=by
 rw [BP Ao];exact h
theorem bI{A B:Prop}(h:A):if true=true then A else B:=by
 rw [BL rfl];exact h
theorem gu{c A B:Prop} [Decidable c] (h1:c->A) (h2:¬ c->B):if c then A else B:=by
 by_cases h:c
 ·rw [BL h];exact h1 h
 ·rw [BP h];exact h2 h
def aj(H H':Hp):Prop:=∀ b o,H b=some o->H' b=some o
theorem aj.refl(H:Hp):aj H H:=λ_ _ h=>h
theorem aj.trans{H H1 H2:Hp}(a:aj H H1)(b:aj H1 H2):aj H H2:=λc o h=>b c o<|a c o h
theorem aj.free{H H':Hp}(e:aj H H'){l:Addr}(h:H' l=Option.none):H l=Option.none:=by
 cases q:H l with
 | none=>rfl
 | some o=>
  rw [e l o q] at h;cases h
theorem aj.seq{K:PySem.W.Frag}{H H':Hp}{a:Addr}{xs:List V}(e:aj H H')(h:ak K H a xs):ak K H' a xs:=by
 rcases h with (h | ⟨o,h⟩) | h
 ·exact .inl<|.inl<|e _ _ h
 ·exact .inl<|.inr ⟨o,e _ _ h⟩
 ·exact .inr h
section
variable{κ:Type} [DecidableEq κ]
def aH(kvs:List<|κ×V)(k:κ):Option V:=(kvs.find? λkv=>decide (kv.1=k)).map (·.2)
def putK(kvs:List<|κ×V)(k:κ)(v:V):List (κ×V):=
 if(kvs.any λkv=>decide (kv.1=k))=true then kvs.map (λkv=>if kv.1=k then(kv.1,v) else kv) else kvs++[(k,v)]
theorem gy{p:κ×V}{r:List (κ×V)}{k:κ}(e:p.1=k):aH (p :: r) k=some p.2:=by simp [aH,Ee,e]
theorem gA{p:κ×V}{r:List (κ×V)}{k:κ}(e:¬ p.1=k):aH (p :: r) k=aH r k:=by simp [aH,Ee,e]
theorem oA(k:κ):∀ kvs:List<|κ×V,(kvs.any λkv=>decide (kv.1=k))=(aH kvs k).isSome
 | []=>rfl
 | p :: r=>by
  rw [Eu]
  by_cases e:p.1=k
  ·simp only [gy e,BW e,Bool.true_or,Option.isSome_some]
  ·rw [gA e,BR e,Bool.false_or];exact oA k r
theorem Gq(k j:κ)(y:V):∀ kvs:List<|κ×V,aH (kvs.map λkv=>if kv.1=k then(kv.1,y) else kv) j=(aH kvs j).map λx=>if j=k then y else x
 | []=>rfl
 | p :: r=>by
  have ih:=Gq k j y r;rw [Bb]
  by_cases h:p.1=k
  ·rw [BL h]
   by_cases e:p.1=j
   ·rw [gy (p:=(p.1,y)) e,gy e,Fm,BL<|e.symm.trans h]
   ·rw [gA (p:=(p.1,y)) e,gA e,ih]
  ·rw [BP h]
   by_cases e:p.1=j
   ·rw [gy (p:=p) e,gy e,Fm,BP λz=>h<|e.trans z]
   ·rw [gA (p:=p) e,gA e,ih]
theorem Gr(k j:κ)(y:V):∀ kvs:List<|κ×V,aH kvs k=none->aH (kvs++[(k,y)]) j=if j=k then some y else aH kvs j
 | [],_=>by
  by_cases e:k=j
  ·rw [BL e.symm];exact gy (p:=(k,y)) e
  ·rw [BP λz=>e z.symm];exact gA (p:=(k,y)) e
 | p :: r,hn=>by
  rw [List.cons_append];have hk:¬ p.1=k:=λz=>by rw [gy z] at hn;cases hn
  rw [gA hk] at hn;have ih:=Gr k j y r hn
  by_cases e:p.1=j
  ·rw [gy e,gy e,BP λz=>hk<|e.trans z]
  ·rw [gA e,gA e,ih]
theorem ft(kvs:List<|κ×V)(k j:κ)(y:V):aH (putK kvs k y) j=if j=k then some y else aH kvs j:=by
 unfold putK
 by_cases a:(kvs.any λkv=>decide (kv.1=k))=true
 ·rw [BL a,Gq];rw [oA] at a
  by_cases e:j=k
  ·obtain⟨x,hx⟩:=Du.mp a;rw [BL e,e,hx,Fm,BL rfl]
  ·rw [BP e];cases aH kvs j with
   | none=>rfl
   | some x=>rw [Fm,BP e]
 ·rw [BP a];refine Gr k j y kvs ?_;rw [oA] at a;cases q:aH kvs k with
  | none=>rfl
  | some x=>rw [q] at a;exact(a rfl).elim
theorem gX(kvs:List<|κ×V)(k:κ)(v:V):(putK kvs k v).length<=kvs.length+1:=by
 unfold putK
 split
 ·rw [Aa];omega
 ·rw [Af,Bj,Fa];omega
theorem Gs{kvs:List (κ×V)}{k:κ}(v:V)(h:aH kvs k=none):putK kvs k v=kvs++[(k,v)]:=by
 unfold putK;rw [oA,h];exact BP<|by decide
theorem db.cE{o:Option V}{u:Option Value}(r:db o u):o.isSome=u.isSome:=by
 cases o with
 | none=>cases u with
  | none=>rfl
  | some _=>exact(show False from r).elim
 | some _=>cases u with
  | none=>exact(show False from r).elim
  | some _=>rfl
theorem KV.val{kvs:List (κ×V)}{vs:List (κ×Value)}(r:KV kvs vs)(k:κ):db (aH kvs k) (valueAt vs k):=by
 unfold KV at r
 induction r with
 | nil=>exact True.intro
 | @cons p q ps qs h t ih=>
  obtain⟨h1,h2⟩:=h
  by_cases e:p.1=k
  ·have e':q.1=k:=h1.symm.trans e;have b:valueAt (q :: qs) k=some q.2:=by simp [valueAt,Ee,e']
   rw [gy e,b];exact h2
  ·have e':¬ q.1=k:=λz=>e<|h1.trans z;have b:valueAt (q :: qs) k=valueAt qs k:=by simp [valueAt,Ee,e']
   rw [gA e,b];exact ih
theorem KV.any{kvs:List (κ×V)}{vs:List (κ×Value)}(r:KV kvs vs)(k:κ):(kvs.any λkv=>decide (kv.1=k))=vs.any λkv=>decide (kv.1=k):=by
 unfold KV at r
 induction r with
 | nil=>rfl
 | cons h t ih=>rw [Eu,Eu,ih,h.1]
theorem KV.repl{kvs:List (κ×V)}{vs:List (κ×Value)}(r:KV kvs vs)(k:κ){y:V}{u:Value}(ry:RelV y u) :
  KV (kvs.map λkv=>if kv.1=k then(kv.1,y) else kv) (vs.map λkv=>if kv.1=k then(kv.1,u) else kv):=by
 unfold KV at r ⊢
 induction r with
 | nil=>exact .nil
 | @cons p q ps qs h t ih=>
  rw [Bb,Bb];refine .cons ?_ ih;obtain⟨h1,h2⟩:=h
  by_cases e:p.1=k
  ·rw [BL e,BL<|h1.symm.trans e];exact⟨h1,ry⟩
  ·rw [BP e,BP λz=>e<|h1.trans z];exact⟨h1,h2⟩
theorem KV.put{kvs:List (κ×V)}{vs:List (κ×Value)}(r:KV kvs vs)(k:κ){y:V}{u:Value}(ry:RelV y u):KV (putK kvs k y) (stored vs k u):=by
 unfold putK stored;rw [r.any k]
 by_cases e:(vs.any λkv=>decide (kv.1=k))=true
 ·rw [BL e,BL e];exact r.repl k ry
 ·rw [BP e,BP e];exact Paired.snoc r ⟨rfl,ry⟩
theorem KV.keys{kvs:List (κ×V)}{vs:List (κ×Value)}(r:KV kvs vs):kvs.map (·.1)=vs.map (·.1):=by
 unfold KV at r
 induction r with
 | nil=>rfl
 | cons h t ih=>rw [Bb,Bb,ih,h.1]
theorem KV.length{kvs:List (κ×V)}{vs:List (κ×Value)}(r:KV kvs vs):kvs.length=vs.length:=Paired.length r
end
theorem l9{P:Program}{w:World}{k:Key}{u:Value}(r:RelV (kV k) u):(bz P w).is k u=true:=by
 cases k with
 | inl i=>obtain⟨t,e⟩:=(show ∃ t,u=Value.int i t from r);subst e;exact N7 P w i t
 | inr x=>obtain⟨t,e⟩:=(show ∃ t,u=Value.str x t from r);subst e;exact N8 P w x t
theorem Gu{P:Program}{w:World}:∀{ks:List Key} {us:List Value},aq (ks.map kV) us->ItemsAre (bz P w) ks us
 | [],_,r=>by rw [List.map_nil] at r;cases r;exact .nil
 | k :: ks,_,r=>by
  rw [Bb] at r;cases r with
  | cons h t=>exact .cons (l9 h)<|Gu t
abbrev KT(H:Hp):List (List Key×V)->List (List Key×Addr×Value)->Prop:=Paired λp q=>p.1=q.1/\H q.2.1=some (.tup<|p.1.map kV)/\RelV p.2 q.2.2
theorem KT.val{H:Hp}{kvs:List (List Key×V)}{xs:List (List Key×Addr×Value)}(r:KT H kvs xs)(k:List Key):db (aH kvs k) ((atKey xs k).map (·.2)):=by
 induction r with
 | nil=>exact True.intro
 | @cons p q ps qs h t ih=>
  obtain⟨h1,_,h2⟩:=h
  by_cases e:p.1=k
  ·have e':q.1=k:=h1.symm.trans e;have b:atKey (q :: qs) k=some q.2:=by simp [atKey,Ee,e']
   rw [gy e,b];exact h2
  ·have e':¬ q.1=k:=λz=>e<|h1.trans z;have b:atKey (q :: qs) k=atKey qs k:=by simp [atKey,Ee,e']
   rw [gA e,b];exact ih
theorem KT.repl{H:Hp}{kvs:List (List Key×V)}{xs:List (List Key×Addr×Value)}(r:KT H kvs xs)(k:List Key){y:V}{u:Value}(ry:RelV y u) :
  KT H (kvs.map λkv=>if kv.1=k then(kv.1,y) else kv) (xs.map<|putAt k u):=by
 induction r with
 | nil=>exact .nil
 | @cons p q ps qs h t ih=>
  rw [Bb,Bb];refine .cons ?_ ih;obtain⟨h1,h2,h3⟩:=h;unfold putAt
  by_cases e:p.1=k
  ·rw [BL e,BL<|h1.symm.trans e];exact⟨h1,h2,ry⟩
  ·rw [BP e,BP λz=>e<|h1.trans z];exact⟨h1,h2,h3⟩
theorem KT.put{H:Hp}{kvs:List (List Key×V)}{xs:List (List Key×Addr×Value)}(r:KT H kvs xs)(k:List Key){b:Addr}{y:V}{u:Value}(hb:H b=some (.tup<|k.map kV))(ry:RelV y u) :
  KT H (putK kvs k y) (storedH xs k b u):=by
 have e:(kvs.any λkv=>decide (kv.1=k))=(atKey xs k).isSome:=by
  rw [oA,(r.val k).cE,Option.isSome_map]
 unfold putK storedH;rw [e]
 by_cases q:(atKey xs k).isSome=true
 ·rw [BL q,BL q];exact r.repl k ry
 ·rw [BP q,BP q];exact Paired.snoc r ⟨rfl,hb,ry⟩
theorem KT.keeps{H H':Hp}{kvs:List (List Key×V)}{xs:List (List Key×Addr×Value)}(r:KT H kvs xs)(ht:∀ b ys,H b=some (.tup ys)->H' b=some (.tup ys)):KT H' kvs xs:=
 Paired.lT r λ_ _ z=>⟨z.1,ht _ _ z.2.1,z.2.2⟩
section
variable{P:Program}{w:World}{H:Hp}{h:Heap}{a:Addr}
theorem Gv{u:HO}(ok:bQ P w H h)(e:Rd H a u):az P w H h a u:=e.ok ok
theorem uK{kvs:List (Key×V)}(ok:bQ P w H h)(e:Rd H a<|.dK kvs):kvs.length<=sizeLine/\(a == sysModules)=false/\∃ vs,KV kvs vs/\h.DictOf (bz P w) a vs:=
 show az P w H h a (.dK kvs) from Gv ok e
theorem qv{kvs:List (Key×V)}(ok:bQ P w H h)(e:H a=some (.dK kvs)):kvs.length<=sizeLine/\(a == sysModules)=false/\∃ vs,KV kvs vs/\h.DictOf (bz P w) a vs:=uK ok<|.inl e
theorem jC{ks:List Key}(ok:bQ P w H h)(e:H a=some (.tup<|ks.map kV)):(tupleKind<|bz P w).is h ks a:=by
 obtain⟨_,its,r,o,h1,h2,n,h3⟩:=(show az P w H h a (.tup<|ks.map kV) from ok a _ e);exact⟨o,its.toArray,n,h1,h2,h3,by simpa using Gu r⟩
theorem uL{kvs:List (List Key×V)}(ok:bQ P w H h)(e:Rd H a<|.dT kvs):kvs.length<=sizeLine/\(a == sysModules)=false /\
  ∃ xs,KT H kvs xs/\h.DictOfH (tupleKind<|bz P w) a xs:=by
 obtain⟨z,y,xs,r,o,es,ep,h1,h2,h3,h4,h5⟩:=(show az P w H h a (.dT kvs) from Gv ok e);refine⟨z,y,xs,r,o,es,ep,h1,h2,h3,h4,λx hx=>?_,h5⟩;have all:∀{l:List (List Key×V)} {m:List (List Key×Addr×Value)},KT H l m->∀ x∈m,(tupleKind<|bz P w).is h x.1 x.2.1:=by
  intro l m q
  induction q with
  | nil=>intro x hx;exact nomatch hx
  | @cons p q ps qs hq t ih=>
   intro x hx
   rcases Am.mp hx with e | hx
   ·subst e;exact jC ok<|by rw [<- hq.1];exact hq.2.1
   ·exact ih x hx
 exact all r x hx
theorem Gw{kvs:List (List Key×V)}(ok:bQ P w H h)(e:H a=some (.dT kvs)):kvs.length<=sizeLine/\(a == sysModules)=false /\
  ∃ xs,KT H kvs xs/\h.DictOfH (tupleKind<|bz P w) a xs:=uL ok<|.inl e
end
def bb(H:Hp)(a:Addr)(y:V)(r:Option V):Prop:=
 (∃ kvs k,Rd H a (.dK kvs)/\y=kV k/\r=aH kvs k)\/∃ kvs k b,Rd H a (.dT kvs)/\y = .ref b/\H b=some (.tup<|k.map kV)/\r=aH kvs k
def cu(H:Hp)(a:Addr)(y v:V)(H':Hp):Prop:=
 (∃ kvs k,H a=some (.dK kvs)/\y=kV k/\kvs.length < sizeLine/\H'=upd H a (.dK<|putK kvs k v)) \/
 ∃ kvs k b,H a=some (.dT kvs)/\y = .ref b/\H b=some (.tup<|k.map kV)/\kvs.length < sizeLine/\H'=upd H a (.dT<|putK kvs k v)
theorem bb.k{H:Hp}{a:Addr}{kvs:List (Key×V)}{k:Key}(e:H a=some (.dK kvs)):bb H a (kV k) (aH kvs k):= .inl ⟨kvs,k,.inl e,rfl,rfl⟩
theorem bb.t{H:Hp}{a b:Addr}{kvs:List (List Key×V)}{k:List Key}(e:H a=some (.dT kvs))(eb:H b=some (.tup<|k.map kV)):bb H a (.ref b) (aH kvs k):= .inr ⟨kvs,k,b,.inl e,rfl,eb,rfl⟩
theorem cu.k{H:Hp}{a:Addr}{kvs:List (Key×V)}{k:Key}{v:V}(e:H a=some (.dK kvs))(hl:kvs.length < sizeLine):cu H a (kV k) v (upd H a<|.dK<|putK kvs k v):= .inl ⟨kvs,k,e,rfl,hl,rfl⟩
theorem cu.t{H:Hp}{a b:Addr}{kvs:List (List Key×V)}{k:List Key}{v:V}(e:H a=some (.dT kvs))(eb:H b=some (.tup<|k.map kV))(hl:kvs.length < sizeLine) :
  cu H a (.ref b) v (upd H a<|.dT<|putK kvs k v):= .inr ⟨kvs,k,b,e,rfl,eb,hl,rfl⟩
section
variable{X:Cx}{pins:List (Addr×Obj)}{σ:St}{H:Hp}{s:Shared}{a:Addr}{y v:V}{u r:Value}{o:Option V}{A:Around}{E:Value->Shared->Prop}
theorem Inv.big(I:Inv X pins σ H s):sysModules < s.heap.objs.size:=by
 have h:mainGlobals < s.heap.objs.size:=(I.mod.glob.keeps I.bk).lt;exact RX (by decide) h
theorem Qr{Q:Value->Shared->Prop}(hu:A.units+1 < cLine)(I:Inv X pins σ H s)(g:bb H a y<|some v)(ry:RelV y u)(h:∀ w' s',Inv X pins σ H s'->RelV v w'->Q w' s') :
  wpAny (model X.prog X.w) A (getItem (.ref a) u) Q E s:=by
 rcases g with ⟨kvs,k,e,ey,l⟩ | ⟨kvs,k,b,e,ey,eb,l⟩
 ·subst ey;obtain⟨z,hd,vs,rel,dd⟩:=uK I.aC e;obtain⟨w',hw,eV⟩:=db.some_of (v:=v) (o:=valueAt vs k) (by rw [l];exact rel.val k);exact wpAny_getItem_of (l9 ry) dd.mapOf hw<|h w' _ (I.tok _) eV
 ·subst ey;cases (show u=Value.ref b from ry);obtain⟨z,hd,xs,rel,dd⟩:=uL I.aC e;obtain⟨w',hw,eV⟩:=db.some_of (v:=v) (o:=(atKey xs k).map (·.2)) (by rw [l];exact rel.val k);obtain⟨p,hp,im⟩:=Ax.mp hw;refine wpAny_getItem_heap (FP hu) (jC I.aC eb) dd hp ?_;rw [im];exact h w' _ (I.tok _) eV
theorem x5{Q:Value->Shared->Prop}(hu:A.units+1 < cLine)(I:Inv X pins σ H s)(g:bb H a y o)(ry:RelV y u)(h:∀ s',Inv X pins σ H s'->Q (.bool o.isSome) s') :
  wpAny (model X.prog X.w) A (compareOp .In u<|.ref a) Q E s:=by
 rcases g with ⟨kvs,k,e,ey,l⟩ | ⟨kvs,k,b,e,ey,eb,l⟩
 ·subst ey;obtain⟨z,hd,vs,rel,dd⟩:=uK I.aC e;refine wpAny_in_of (l9 ry) hd dd.mapOf ?_;rw [<- (rel.val k).cE,<- l];exact h _<|I.tok _
 ·subst ey;cases (show u=Value.ref b from ry);obtain⟨z,hd,xs,rel,dd⟩:=uL I.aC e;refine wpAny_in_heap (FP hu) (jC I.aC eb) hd dd ?_;have q:=(rel.val k).cE;rw [Option.isSome_map] at q;rw [<- q,<- l];exact h _<|I.tok _
theorem i6{h':Heap}{t':Nat}{ob:HO}(I:Inv X pins σ H s)(mu:pT<|H a)(hs:Heap.SameBut a s.heap h')(he:∃ q,h'.get? a=some q)(new:az X.prog X.w (upd H a ob) h' a ob) :
  Inv X pins σ (upd H a ob) {s with heap:=h',toks:=t'}:=
 I.write (x:=a) (e:=a) mu (.inl rfl) (λb q hb z=>(hs.2 b hb).trans z) he new
theorem x6{P:Program}{w:World}{H':Hp}{h':Heap}{kvs:List (Key×V)}{vs:List (Key×Value)}(z:kvs.length<=sizeLine)(hd:(a == sysModules)=false)(rel:KV kvs vs)(dd:h'.DictOf (bz P w) a vs) :
  az P w H' h' a (.dK kvs):=⟨z,hd,vs,rel,dd⟩
theorem Qs{H':Hp}{Q:Unit->Shared->Prop}(hu:A.units+1 < cLine)(I:Inv X pins σ H s)(g:cu H a y v H')(ry:RelV y u)(rv:RelV v r)(h:∀ s',Inv X pins σ H' s'->Q () s') :
  wpAny (model X.prog X.w) A (setItem (.ref a) u r) Q E s:=by
 rcases g with ⟨kvs,k,e,ey,l,eH⟩ | ⟨kvs,k,b,e,ey,eb,l,eH⟩
 ·subst ey eH;obtain⟨z,hd,vs,rel,dd⟩:=qv I.aC e;have hz:vs.length<=sizeLine:=by rw [<- rel.length];exact z
  have hl:(putK kvs k v).length<=sizeLine:=by have:=gX kvs k v;omega
  refine wpAny_setItem_pairs (hsz:=hz) (l9 ry) dd λh' gY hs=>h _ ?_;have he:∃ q,h'.get? a=some q:=let ⟨q,_,_,hq,_⟩:=gY;⟨q,hq⟩
  exact i6 I (by rw [e];exact True.intro) hs he<|x6 hl hd (rel.put k rv) gY
 ·subst ey eH;cases (show u=Value.ref b from ry);obtain⟨z,hd,xs,rel,dd⟩:=Gw I.aC e;have hz:xs.length<=sizeLine:=by rw [<- Paired.length rel];exact z
  have hl:(putK kvs k v).length<=sizeLine:=by have:=gX kvs k v;omega
  refine wpAny_setItem_heap (hsz:=hz) (FP hu) (jC I.aC eb) dd λh' gY hs=>h _ ?_;obtain⟨q,es,ep,hq,h2,h3,h4,_,h5⟩:=gY;refine i6 I (by rw [e];exact True.intro) hs ⟨q,hq⟩ ⟨hl,hd,_,(rel.put k eb rv).keeps λc ys ec=>?_,q,es,ep,hq,h2,h3,h4,h5⟩;rw [au<|bO ec e λz=>nomatch z];exact ec
end
section
variable{X:Cx}{pins:List (Addr×Obj)}{σ:St}{H:Hp}{s:Shared}{a:Addr}{kvs:List (Key×V)}{k:Key}{u:Value}{A:Around}{E:Value->Shared->Prop}
end
def me(i:Expr):Prop:=∀ ov iv,subscripted i false ov iv=operate [ov,iv] (getItem ov iv)
theorem Qt{prog:Program}{w:World}{A:Around}{E:Value->Shared->Prop}{s:Shared}{env:Env}{value slice:Expr}{pos:Pos}{T id:String}{Q:Value->Shared->Prop}
  (hl:typeLookup (.type T) "__getitem__" = pure (some<|.builtin id)) (hs:me slice)
  (h:wpAny (model prog w) A (eval value env) (λo s₁=>wpAny (model prog w) A (eval slice env) (λi s₂=>s₂.TypeIs o T/\wpAny (model prog w) A (getItem o i) Q E s₂) E s₁) E s) :
  wpAny (model prog w) A (eval (.Subscript value slice pos) env) Q E s:=by
 refine NZ<|CP h (λo s₁ h₁=>CP h₁ (λi s₂ h₂=>?_) λ_ _ x=>x) λ_ _ x=>x;obtain⟨hT,h₂⟩:=h₂;unfold subscriptTail;refine BJ ?_;rw [getitemInPython_of_ne hT.not_modules];refine BJ<|IV hT hl ?_;have fin:wpAny (model prog w) A (subscripted slice false o i) (λr s₃=>wpAny (model prog w) A (letTemporaryGo value o r >>= λ_=>pure r) Q E s₃) E s₂:=by
  rw [hs o i];exact wpAny_operating<|CP h₂ (λr s₃ h₃=>BJ<|wpAny_letTemporaryGo<|BK h₃) λ_ _ x=>x
 first
  | exact BK<|BJ fin
  | exact BJ<|BK<|BJ fin
  | exact BJ fin
theorem Qu{X:Cx}{pins:List (Addr×Obj)}{σ:St}{H:Hp}{s:Shared}{a:Addr}{y:V}{o:Option V}(I:Inv X pins σ H s)(g:bb H a y o):s.TypeIs (.ref a) "dict":=by
 rcases g with ⟨kvs,k,e,_,_⟩ | ⟨kvs,k,b,e,_,_,_⟩
 ·obtain⟨_,_,vs,_,dd⟩:=uK I.aC e;exact dd.typeIs
 ·obtain⟨_,_,xs,_,dd⟩:=uL I.aC e;exact dd.typeIs
def Qv(td ty:TE):TE:=λσ H Q=>td σ H λx H1=>ty σ H1 λy H2=>∃ a v,x = .ref a/\bb H2 a y (some v)/\Q v H2
def x8(ty td:TE):TE:=λσ H Q=>ty σ H λy H1=>td σ H1 λx H2=>∃ a o,x = .ref a/\bb H2 a y o/\Q (.bl o.isSome) H2
def Qw(td ty tv:TE):TS:=λD σ H=>tv σ H λv H1=>td σ H1 λx H2=>ty σ H2 λy H3=>∃ a H4,x = .ref a/\cu H3 a y v H4/\D.nx σ H4
section
variable{X:Cx}{o i e value:Expr}{pos pos' xH:Pos}{td ty tv:TE}
theorem Qx(hu:X.A.units+1 < cLine)(ho:PE X o td)(hi:PE X i ty)(hs:me i):PE X (.Subscript o i pos) (Qv td ty):=by
 intro pins s σ H Q I h;refine Qt PySem.F.slot_dict_getitem.lookup hs<|aE (ho pins s σ H _ I h) λu s1 ⟨x,H1,I1,rx,q1⟩=>aE (hi pins s1 σ H1 _ I1 q1) λiv s2 ⟨y,H2,I2,ry,a,v,ex,g,q2⟩=>?_;subst ex;obtain rfl:u=Value.ref a:=rx;exact⟨Qu I2 g,Qr hu I2 g ry λw' s3 I3 eV=>⟨v,H2,I3,eV,q2⟩⟩
theorem Qy(hu:X.A.units+1 < cLine)(hi:PE X i ty)(ho:PE X o td):PC X .In i o (x8 ty td):=by
 intro pins s σ H Q I h;refine aE (hi pins s σ H _ I h) λiv s1 ⟨y,H1,I1,ry,q1⟩=>aE (ho pins s1 σ H1 _ I1 q1) λu s2 ⟨x,H2,I2,rx,a,ov,ex,g,q2⟩=>?_;subst ex;obtain rfl:u=Value.ref a:=rx;exact x5 hu I2 g ry λs3 I3=>⟨.bl ov.isSome,H2,I3,rfl,q2⟩
theorem Qz(hu:X.A.units+1 < cLine)(ho:PE X o td)(hi:PE X i ty)(hv:PE X value tv)(hs:swapsWith value (some<|.Subscript o i pos') pos.line X.env=pure false) :
  PS X (.Assign [.Subscript o i pos'] value pos) (Qw td ty tv):=by
 intro pins s σ H D I h;refine wpAny_Assign_Subscript (aE (hv pins s σ H _ I h) λr s1 ⟨v,H1,I1,rv,q1⟩=>aE (ho pins s1 σ H1 _ I1 q1) λu s2 ⟨x,H2,I2,rx,q2⟩=>aE (hi pins s2 σ H2 _ I2 q2) λiv s3 ⟨y,H3,I3,ry,a,H4,ex,g,q3⟩=>?_) hs;subst ex;obtain rfl:u=Value.ref a:=rx;exact Qs hu I3 g ry rv λs4 I4=>⟨σ,H4,I4,q3⟩
end
theorem QA{P:Program}{w:World}{H:Hp}(h:Heap)(hb:sysModules < h.objs.size):az P w H (h.push {cls:= .type "dict",data:= .dict #[]}) h.objs.size (.dK []):=
 ⟨Be _,beq_eq_false_iff_ne.mpr<|BX<|Bp hb,[],.nil,Heap.DictOf.new h⟩
theorem x9{P:Program}{w:World}{H:Hp}(h:Heap)(hb:sysModules < h.objs.size):az P w H (h.push {cls:= .type "dict",data:= .dict #[]}) h.objs.size (.dT []):=
 ⟨Be _,beq_eq_false_iff_ne.mpr<|BX<|Bp hb,[],.nil,_,#[],0,An _ rfl,⟨rfl,rfl,rfl⟩,rfl,rfl,Bw⟩
def QE:TE:=λ_ H Q=>∀ p,H p=none->Q (.ref p) (upd H p<|.dK [])
def QH:TE:=λ_ H Q=>∀ p,H p=none->Q (.ref p) (upd H p<|.dT [])
section
variable{X:Cx}{pos:Pos}
theorem QI:PE X (.Dict [] [] pos) QE:=λpins s σ H Q I h=>
 wpAny_Dict_empty ⟨.ref s.heap.objs.size,_,I.laid (a:=s.heap.objs.size) (o:= .dK []) (t':=s.toks) (λ_ _ q=>Ae _ q) (Ag _)<|QA s.heap I.big,rfl,h _<|I.aC.fresh<|Ag _⟩
theorem QN:PE X (.Dict [] [] pos) QH:=λpins s σ H Q I h=>
 wpAny_Dict_empty ⟨.ref s.heap.objs.size,_,I.laid (a:=s.heap.objs.size) (o:= .dT []) (t':=s.toks) (λ_ _ q=>Ae _ q) (Ag _)<|x9 s.heap I.big,rfl,h _<|I.aC.fresh<|Ag _⟩
end
section
variable{X:Cx}{pins:List (Addr×Obj)}{σ:St}{H:Hp}{s:Shared}{a:Addr}{y d:V}{u r:Value}{o:Option V}{A:Around}{E:Value->Shared->Prop}
end
section
variable{X:Cx}{o e f:Expr}{apos dG:Pos}{td ty tx:TE}
end
section
variable{X:Cx}{pins:List (Addr×Obj)}{σ:St}{H:Hp}{s:Shared}{a:Addr}{kvs:List (Key×V)}{A:Around}{E:Value->Shared->Prop}
end
section
variable{X:Cx}{pins:List (Addr×Obj)}{σ:St}{H:Hp}{s:Shared}{a:Addr}{y:V}{u:Value}{A:Around}{E:Value->Shared->Prop}
end
section
variable{X:Cx}
end
section
variable{κ:Type} [DecidableEq κ]
theorem Gx{kvs:List (κ×V)}{k:κ}{v:V}(h:aH kvs k=some v):k∈kvs.map (·.1):=by
 have q:(kvs.any λkv=>decide (kv.1=k))=true:=by
  rw [oA,h]
  all_goals rfl
 obtain⟨p,hp,e⟩:=List.any_eq_true.mp q;exact Aj.mpr ⟨p,hp,CQ e⟩
theorem oB:∀{l:List κ} {k:κ},l.Nodup->¬ k∈l->(l++[k]).Nodup
 | [],k,_,_=>by simp
 | a :: r,k,h,hk=>by
  obtain⟨h1,h2⟩:=Bs.mp h;show(a :: (r++[k])).Nodup;refine Bs.mpr ⟨λm=>?_,oB h2 λm=>hk<|Am.mpr<|Or.inr m⟩
  rcases Aq.mp m with q | q
  ·exact h1 q
  ·exact hk<|Am.mpr<|Or.inl (Ah.mp q).symm
end
section
variable{X:Cx}{tg:Expr}
end
theorem Gy{env:Env}:∀{names:List (Str×NameKind)} {x:Str} {k':NameKind},
  (names.map λ(n,k)=>if(k == NameKind.free && env.scope.kind == .function && env.kindOf n == some .cell) then(n,NameKind.cell) else(n,k)).lookup x=some k' ->
  ∃ k,names.lookup x=some k/\(k'=k\/(k = .free/\k' = .cell))
 | [],_,_,h=>by simp at h
 | (n,k) :: r,x,k',h=>by
  have ih:=@Gy env r x k'
  change List.lookup x ((if(k == NameKind.free && env.scope.kind == .function && env.kindOf n == some .cell)=true then(n,NameKind.cell) else(n,k)) :: _)=_ at h
  cases hx:x == n with
  | true=>
   by_cases hc:(k == NameKind.free && env.scope.kind == .function && env.kindOf n == some .cell)=true
   ·rw [BL hc] at h;simp only [Ct,hx] at h;cases h;have hk:k = .free:=by
     have:=(Br _ _ ▸ (Br _ _ ▸ hc).1).1;cases k <;> first | rfl | (exact absurd this<|by decide)
    exact⟨k,by simp [Ct,hx],.inr ⟨hk,rfl⟩⟩
   ·rw [BP hc] at h;simp only [Ct,hx] at h;cases h;exact⟨k,by simp [Ct,hx],.inl rfl⟩
  | false=>
   have h2:∃ k,r.lookup x=some k/\(k'=k\/(k = .free/\k' = .cell)):=by
    by_cases hc:(k == NameKind.free && env.scope.kind == .function && env.kindOf n == some .cell)=true
    ·rw [BL hc] at h;simp only [Ct,hx] at h;exact ih h
    ·rw [BP hc] at h;simp only [Ct,hx] at h;exact ih h
   obtain⟨k2,e2,r2⟩:=h2;exact⟨k2,by simp [Ct,hx,e2],r2⟩
def b9(names:List<|Str×NameKind)(cells:List<|Str×Addr)(acc:List<|Str×Addr):List (Str×Addr):=
 names.foldl (λa x=>if x.2 == .free then(match cells.lookup x.1 with | some c=>(x.1,c) :: a | none=>a) else a) acc
theorem mh{scope:Scope}{env:Env}(h:∀ x∈scope.names,x.2 = .free->∃ c,env.cells.lookup x.1=some c):closureFor scope env=pure (b9 scope.names env.cells []):=by
 have all:∀(l:List<|Str×NameKind) (acc:List<|Str×Addr),(∀ x∈l,x.2 = .free->∃ c,env.cells.lookup x.1=some c) ->
   (forIn l acc λ(x:Str×NameKind) (cs:List<|Str×Addr)=>(if x.2 == .free then(do let c <- cellOf env x.1;pure (ForInStep.yield<|(x.1,c) :: cs)) else pure (ForInStep.yield cs):Sem _))=pure (b9 l env.cells acc):=by
  intro l
  induction l with
  | nil=>intro acc _;rfl
  | cons x r ih=>
   intro acc hl;rw [QK];have hr:∀ y∈r,y.2 = .free->∃ c,env.cells.lookup y.1=some c:=λy hy=>hl y<|Ak _ hy;cases hk:x.2 == .free with
   | true=>
    have QO:x.2 = .free:=by
     revert hk
     cases x.2 <;> intro hk <;> first | rfl | (exact absurd hk<|by decide)
    obtain⟨c,hc⟩:=hl x As QO;simp only [CZ,cellOf,hc];rw [show b9 (x :: r) env.cells acc=b9 r env.cells ((x.1,c) :: acc) by unfold b9;rw [Di];simp [hk,hc]];exact ih _ hr
   | false=>
    simp only [Av,CN];rw [show b9 (x :: r) env.cells acc=b9 r env.cells acc by unfold b9;rw [Di];simp [hk]];exact ih _ hr
 have q:=all scope.names [] h;simp only [closureFor];exact(CG (· >>= λr=>pure r) q).trans rfl
theorem ya:∀(names:List<|Str×NameKind) (cells acc:List<|Str×Addr),(∀ x c,(x,c)∈acc->cells.lookup x=some c)->∀ x c,(x,c)∈b9 names cells acc->cells.lookup x=some c
 | [],_,_,h=>h
 | y :: r,cells,acc,h=>by
  have e:b9 (y :: r) cells acc=b9 r cells (if y.2 == .free then(match cells.lookup y.1 with | some c=>(y.1,c) :: acc | none=>acc) else acc):=rfl;rw [e];refine ya r cells _ ?_;cases hk:y.2 == .free with
  | false=>simpa using h
  | true=>
   cases hc:cells.lookup y.1 with
   | none=>simpa using h
   | some c=>
    intro x d hx;simp only [CZ] at hx
    rcases Am.mp hx with e | hx
    ·cases e;exact hc
    ·exact h x d hx
theorem Gz:∀(names:List<|Str×NameKind) (cells acc:List<|Str×Addr) (x:Str) (c:Addr),(x,c)∈acc->(x,c)∈b9 names cells acc
 | [],_,_,_,_,h=>h
 | y :: r,cells,acc,x,c,h=>by
  have e:b9 (y :: r) cells acc=b9 r cells (if y.2 == .free then(match cells.lookup y.1 with | some c=>(y.1,c) :: acc | none=>acc) else acc):=rfl;rw [e];refine Gz r cells _ x c ?_;cases hk:y.2 == .free with
  | false=>simpa using h
  | true=>
   cases hc:cells.lookup y.1 with
   | none=>simpa using h
   | some d=>simp only [CZ];exact Ak _ h
theorem yb:∀(names:List<|Str×NameKind) (cells acc:List<|Str×Addr) (x:Str) (c:Addr),(x,NameKind.free)∈names->cells.lookup x=some c->(x,c)∈b9 names cells acc
 | [],_,_,_,_,h,_=>by cases h
 | y :: r,cells,acc,x,c,h,hc=>by
  have e:b9 (y :: r) cells acc=b9 r cells (if y.2 == .free then(match cells.lookup y.1 with | some c=>(y.1,c) :: acc | none=>acc) else acc):=rfl;rw [e]
  rcases Am.mp h with e2 | h
  ·subst e2;refine Gz r cells _ x c ?_;have:(NameKind.free == NameKind.free)=true:=rfl;simp only [hc,this,CZ];exact As
  ·exact yb r cells _ x c h hc
theorem yc{α:Type}:∀{l:List (Str×α)} {x:Str} {c:α},(x,c)∈l->∃ d,l.lookup x=some d
 | [],_,_,h=>by cases h
 | (n,d) :: r,x,c,h=>by
  cases hx:x == n with
  | true=>exact⟨d,by simp [Ct,hx]⟩
  | false=>
   rcases Am.mp h with e | h
   ·cases e;simp at hx
   ·obtain⟨d',e⟩:=yc h;exact⟨d',by simp [Ct,hx,e]⟩
section
variable{prog:Program}{w:World}{A:Around}{R:Result->Shared->Prop}{s:Shared}
theorem j9q{elt target iter:Expr}{ifs:List Expr}{scope:Scope}{pos:Pos}{it acc:Value}{env:Env}(I:Nat->Shared->Prop)
  (turn : ∀ n s, I n s → wpAny (model prog w) A (pyNext it) (λr s₁ => match r with
   | none=>R (.ok .next) s₁
   | some v=>wpAny (model prog w) A (letOwnedTupleGo target it v) (λ_ s₁'=>wpAny (model prog w) A (assign target env v) (λ_ s₂=>
     wpAny (model prog w) A (forIn ifs true λc r=>if r=true then do let ok <- isTrue c env<|eval c env;pure (ForInStep.yield ok) else pure (ForInStep.yield r)) (λok s₃=>
      if ok=true then wpAny (model prog w) A (eval elt env) (λx s₄=>
       wpAny (model prog w) A (call (.builtin "list.append") [acc,x]) (λ_ s₅=>∃ m,m < n/\I m s₅) (notedBy (model prog w) A env λe s'=>R (.error e) s') s₄) (notedBy (model prog w) A env λe s'=>R (.error e) s') s₃
      else ∃ m,m < n/\I m s₃) (notedBy (model prog w) A env λe s'=>R (.error e) s') s₂) (notedBy (model prog w) A env λe s'=>R (.error e) s') s₁') (notedBy (model prog w) A env λe s'=>R (.error e) s') s₁) (notedBy (model prog w) A env λe s'=>R (.error e) s') s)
  (n:Nat) (h:I n s) :
  codeAny (model prog w) A (.compLoop (.ListComp elt [⟨target,iter,ifs,0⟩] scope pos) 0 it acc env) R s:=by
 refine codeAny_loop rfl I (λn s hI=>?_) n h;show wpAny _ A ((compTurn (.ListComp elt [⟨target,iter,ifs,0⟩] scope pos) 0 it acc env).onRaise λx=>do noteFrame x env;theTreesLotGoes x) _ _ s;refine wpAny_noted ?_;rw [compTurn_list];refine BJ<|EY<|BJ<|CP (turn n s hI) (λr s₁ h₁=>?_) λ_ _ h'=>h';cases r with
 | none=>exact BK h₁
 | some v=>
  refine BJ<|CP h₁ (λ_ s₁' h₁'=>?_) λ_ _ h'=>h';refine BJ<|CP h₁' (λ_ s₂ h₂=>BJ<|CP h₂ (λok s₃ h₃=>?_) λ_ _ h'=>h') λ_ _ h'=>h';cases ok with
  | false=>exact BK ⟨rfl,h₃⟩
  | true=>
   exact BJ<|BJ<|CP h₃ (λx s₄ h₄=>BJ<|CP h₄ (λ_ s₅ h₅=>BK<|BK ⟨rfl,h₅⟩) λ_ _ h'=>h') λ_ _ h'=>h'
end
def GH(X:Cx)(ifs:List Expr)(t:TT):Prop:=
 ∀(pins:List<|Addr×Obj) (s:Shared) (σ:St) (H:Hp) (Q:Bool->Hp->Prop),Inv X pins σ H s->t σ H Q ->
  wpAny (model X.prog X.w) X.A (forIn ifs true λc r=>if r=true then do let ok <- isTrue c X.env<|eval c X.env;pure (ForInStep.yield ok) else pure (ForInStep.yield r)) (TP X pins σ Q) X.xe s
def yd:TT:=λ_ H Q=>Q true H
theorem QP{X:Cx}:GH X [] yd:=λ_ _ _ H _ I h=>wpAny_tests_nil ⟨H,I,h⟩
theorem QQ{X:Cx}{c:Expr}{t:TT}(h:PT X c t):GH X [c] t:=λpins s σ H Q I hq=>wpAny_tests_one<|h pins s σ H Q I hq
def eW(X:Cx)(N':List Str)(scope:Scope)(cl:List<|Str×Addr)(C:Addr)(s₀:Shared)(H₀:Hp)(ex:List Addr):Cx:=
 {prog:=X.prog,w:=X.w,K:=X.K,mg:=X.mg,base:=X.base,A:=X.A,N:=N',s₀:=s₀,H₀:=H₀,env:=compEnvC scope cl C X.env,outer:=X.stack,stack:=X.stack,ex:=ex,fn:=λx=>match scope.names.lookup x with | some .cell=>true | _=>false,calm:=X.calm,pn:=[],xe:=λ_ _=>False}
theorem gB{α:Type}{t:Sem α}{Q Q':α->Shared->Prop}{M:Model}{A:Around}{E:Value->Shared->Prop}{s:Shared}(h:wpAny M A t Q (λ_ _=>False) s)(hQ:∀ a s,Q a s->Q' a s):wpAny M A t Q' E s:=CP h hQ λ_ _ z=>z.elim
section
variable{X:Cx}
theorem QR:cn X (binaryOp .Mult) (λx y H Q=>∃ z i,x = .str z/\y = .int i/\0<=i/\i<=100000/\z.length * i.toNat<=100000/\Q (.str<|Txt.mul z i) H):=by
 intro pins s σ H x y v u Q I rx ry h;obtain⟨z,i,rfl,rfl,h0,h1,h2,q⟩:=h;obtain⟨t,rfl⟩:=rx;obtain⟨t',rfl⟩:=ry;have hsz:sizeLine=16777216:=FN;refine SB.mul ⟨?_,λh3 h4=>?_,λh3 h4=>?_⟩ λt' k=>⟨.str _,H,I.tok k,⟨_,rfl⟩,q⟩
 ·rw [BR (by omega),BR<|by omega];rfl
 ·have h5:(z.length:Int)<=100000:=by
   have h6:z.length * 1<=z.length * i.toNat:=Nat.mul_le_mul_left _ (by omega);omega
  have h7:(100000:Int)<=(2 ^ 63 - 1) / i:=by
   rw [Int.le_ediv_iff_mul_le<|by omega];have:(100000:Int) * i<=100000 * 100000:=Int.mul_le_mul_of_nonneg_left h1 (by decide);have e:(2:Int) ^ 63 - 1=9223372036854775807:=by decide
   omega
  omega
 ·unfold Builtin.Str.tooLong;rw [hsz];exact BR<|by omega
end
def isStar:Expr->Bool
 | .Starred _ _=>true
 | _=>false
def noStar(es:List Expr):Bool:=es.all λe=>!isStar e
theorem mj(e:Expr)(es:List Expr)(env:Env)(h:isStar e=false):starEach (e :: es) env=(false,eval e env) :: starEach es env:=by
 cases e <;> first | rfl | (exact absurd h<|by simp [isStar])
theorem uM(pos:Pos)(env:Env):∀ es:List Expr,noStar es=true->(backTo pos<|starEach es env).any (·.1)=false
 | [],_=>rfl
 | e :: es,h=>by
  have h':(!isStar e)=true/\noStar es=true:=by
   have:=h;unfold noStar at this ⊢;rw [Fp,Br] at this;exact this
  have hs:isStar e=false:=by
   have:=h'.1;cases q:isStar e with
   | true=>rw [q] at this;cases this
   | false=>rfl
  rw [mj e es env hs];show(false || (backTo pos<|starEach es env).any (·.1))=false;rw [uM pos env es h'.2];rfl
theorem oD{e:Expr}{es:List Expr}(h:noStar (e :: es)=true):isStar e=false/\noStar es=true:=by
 unfold noStar at h ⊢;rw [Fp,Br] at h;refine⟨?_,h.2⟩;cases q:isStar e with
 | true=>rw [q] at h;cases h.1
 | false=>rfl
section
variable{X:Cx}{CX:eU}{k:Nat}{f C:Addr}{fd:FuncData}{ps:List Str}{sp:Sp}{jw:List V}{ds:List Value}{E:XK}{x m:Str}{p pos apos:Pos}{e o:Expr}{es:List Expr}{ta te:TE}{t:TA}{id T:String}{r:List V->Hp->VK->Prop}
theorem QU(ha:PE X e te)(hr:PA X es t)(hs:isStar e=false:=by rfl):PA X (e :: es) (F6 te t):=Pu ha hr<|mj _ _ _ hs
theorem QY(F:aD X.prog X.w X.K X.mg X.base CX k f fd ps sp)(hr:bf k X.A)(hm:X.mg x=some (.ref f))(hk:PySem.W.keepIn X.K (.ref f)=true)(hb:Binds X.K fd ps [])(hx:jx CX X E)
  (ha:PA X (e :: es) t) (hg:Gl X x:=by rfl) (cT:(x == ("__debug__" : Str))=false:=by decide) (hs:noStar (e :: es)=true:=by rfl):PE X (.Call (.Name x p) (e :: es) [] pos) (F7 sp [] E t):=
 PD F hr hg hm hk hb .nil hx ha cT (mj _ _ _ (oD hs).1) (uM _ _ _ (oD hs).2)
theorem ye(hc:gU X (.builtin id) r)(hm:X.mg x=none)(hv:bootBuiltins x=some (.builtin id))(ha:PA X (e :: es) t)(hg:Gl X x:=by rfl)(hn:x ≠ "__name__":=by decide)(cT:(x == ("__debug__" : Str))=false:=by decide)
  (hs:noStar (e :: es)=true:=by rfl):PE X (.Call (.Name x p) (e :: es) [] pos) (uE r t):=
 PQ hc hg hm hv ha hn cT (mj _ _ _ (oD hs).1) (uM _ _ _ (oD hs).2)
theorem yf(hc:gU X (.type T) r)(hm:X.mg x=none)(hv:bootBuiltins x=some (.type T))(ha:PA X (e :: es) t)(hg:Gl X x:=by rfl)(hn:x ≠ "__name__":=by decide)(cT:(x == ("__debug__" : Str))=false:=by decide)
  (hs:noStar (e :: es)=true:=by rfl):PE X (.Call (.Name x p) (e :: es) [] pos) (uE r t):=
 PR hc hg hm hv ha hn cT (mj _ _ _ (oD hs).1) (uM _ _ _ (oD hs).2)
end
structure Ev(X:Cx)(e:Expr)(σ:St)(H:Hp)(Q:VK):Prop where
 run:∀(pins:List<|Addr×Obj) (s:Shared),Inv X pins σ H s->wpAny (model X.prog X.w) X.A (eval e X.env) (EP X pins σ Q) X.xe s
structure Et(X:Cx)(e:Expr)(σ:St)(H:Hp)(Q:Bool->Hp->Prop):Prop where
 run:∀(pins:List<|Addr×Obj) (s:Shared),Inv X pins σ H s->wpAny (model X.prog X.w) X.A (isTrue e X.env<|eval e X.env) (TP X pins σ Q) X.xe s
structure Ew(X:Cx)(e:Expr)(σ:St)(H:Hp)(Q:Bool->Hp->Prop):Prop where
 run:∀(whole:Sem Value) (pins:List<|Addr×Obj) (s:Shared),Inv X pins σ H s->wpAny (model X.prog X.w) X.A (isTrue e X.env whole) (TP X pins σ Q) X.xe s
structure Ea(X:Cx)(es:List Expr)(σ:St)(H:Hp)(Q:List V->Hp->Prop):Prop where
 run:∀(pos:Pos) (pins:List<|Addr×Obj) (s:Shared),Inv X pins σ H s->wpAny (model X.prog X.w) X.A (spliced<|backTo pos<|starEach es X.env) (AP X pins σ Q) X.xe s
structure Eo(X:Cx)(e:Option Expr)(σ:St)(H:Hp)(Q:Option Int->Hp->Prop):Prop where
 run:∀(pins:List<|Addr×Obj) (s:Shared),Inv X pins σ H s->wpAny (model X.prog X.w) X.A (evalPart e X.env) (λu s'=>∃ o H',Inv X pins σ H' s'/\IsPart u o/\Q o H') X.xe s
structure Eg(X:Cx)(e:Expr)(v:V)(σ:St)(H:Hp)(Q:St->Hp->Prop):Prop where
 run:∀(pins:List<|Addr×Obj) (s:Shared) (u:Value),Inv X pins σ H s->RelV v u->wpAny (model X.prog X.w) X.A (assign e X.env u) (λ_ s'=>∃ σ' H',Inv X pins σ' H' s'/\Q σ' H') X.xe s
structure Run(X:Cx)(l:List Stmt)(D:Ends)(σ:St)(H:Hp):Prop where
 run:∀(pins:List<|Addr×Obj) (s:Shared),Inv X pins σ H s->wpAny (model X.prog X.w) X.A (execs l X.env) (SP X pins D) X.xe s
def Q0(X:Cx)(e:Expr):TE:=λσ H Q=>Ev X e σ H Q
def Q1(X:Cx)(e:Expr):TT:=λσ H Q=>Et X e σ H Q
def Q2(X:Cx)(e:Expr):TT:=λσ H Q=>Ew X e σ H Q
def qw(X:Cx)(es:List Expr):TA:=λσ H Q=>Ea X es σ H Q
def Q3(X:Cx)(e:Option Expr):TO:=λσ H Q=>Eo X e σ H Q
def Q4(X:Cx)(e:Expr):TG:=λv σ H Q=>Eg X e v σ H Q
def yg(X:Cx)(l:List Stmt):TS:=λD σ H=>Run X l D σ H
section
variable{X:Cx}{e a b c o:Expr}{es:List Expr}{st:Stmt}{rest body i7:List Stmt}{σ:St}{H:Hp}{Q:VK}{T:Bool->Hp->Prop}{L:List V->Hp->Prop}{D:Ends}{pos p p2:Pos}
theorem bw:PE X e (Q0 X e):=λpins s _ _ _ I h=>h.run pins s I
theorem kC:PT X e (Q1 X e):=λpins s _ _ _ I h=>h.run pins s I
theorem GI:PW X e (Q2 X e):=λwh pins s _ _ _ I h=>h.run wh pins s I
theorem dS:PA X es (qw X es):=λpos pins s _ _ _ I h=>h.run pos pins s I
theorem GU{e:Option Expr}:PO X e (Q3 X e):=λpins s _ _ _ I h=>h.run pins s I
theorem uN:PG X e (Q4 X e):=λpins s _ _ _ u _ I r h=>h.run pins s u I r
theorem ml{l:List Stmt}:gn X l (yg X l):=λpins s _ _ _ I h=>h.run pins s I
theorem c6{t:TE}(h1:PE X e t)(h2:t σ H Q):Ev X e σ H Q:=⟨λpins s I=>h1 pins s σ H Q I h2⟩
theorem qz{t:TT}(h1:PT X e t)(h2:t σ H T):Et X e σ H T:=⟨λpins s I=>h1 pins s σ H T I h2⟩
theorem uO{t:TT}(h1:PW X e t)(h2:t σ H T):Ew X e σ H T:=⟨λwh pins s I=>h1 wh pins s σ H T I h2⟩
theorem GV{t:TA}(h1:PA X es t)(h2:t σ H L):Ea X es σ H L:=⟨λpos pins s I=>h1 pos pins s σ H L I h2⟩
theorem G0{e:Option Expr}{t:TO}{R:Option Int->Hp->Prop}(h1:PO X e t)(h2:t σ H R):Eo X e σ H R:=⟨λpins s I=>h1 pins s σ H R I h2⟩
theorem G'{t:TG}{v:V}{R:St->Hp->Prop}(h1:PG X e t)(h2:t v σ H R):Eg X e v σ H R:=⟨λpins s u I r=>h1 pins s σ H v u R I r h2⟩
theorem i8{t:TS}(h1:PS X st t)(h2:t {D with nx:=λσ' H'=>Run X rest D σ' H'} σ H):Run X (st :: rest) D σ H:=⟨λpins s I=>OC h1 ml pins s σ H D I h2⟩
theorem bg(h:D.nx σ H):Run X [] D σ H:=⟨λpins s I=>OB pins s σ H D I h⟩
theorem Ev.mono{Q':VK}(h:Ev X e σ H Q)(f:∀ v H',Q v H'->Q' v H'):Ev X e σ H Q':=⟨λpins s I=>aE (h.run pins s I) λ_ _ ⟨v,H',I',r,q⟩=>⟨v,H',I',r,f v H' q⟩⟩
theorem Et.mono{T':Bool->Hp->Prop}(h:Et X e σ H T)(f:∀ v H',T v H'->T' v H'):Et X e σ H T':=⟨λpins s I=>aE (h.run pins s I) λv _ ⟨H',I',q⟩=>⟨H',I',f v H' q⟩⟩
theorem Ea.mono{L':List V->Hp->Prop}(h:Ea X es σ H L)(f:∀ v H',L v H'->L' v H'):Ea X es σ H L':=⟨λpos pins s I=>aE (h.run pos pins s I) λ_ _ ⟨v,H',I',r,q⟩=>⟨v,H',I',r,f v H' q⟩⟩
theorem ae(i:Nat){x:Str}{v:V}(h:Q v H)(hv:σ[i]?=some (some v):=by rfl)(hN:X.N[i]?=some x:=by rfl)(hs:xf X.env.scope x:=by first | exact Or.inl rfl | exact Or.inr (Or.inl rfl) | exact Or.inr<|Or.inr rfl)(hd:(x == ("__debug__" : Str))=false:=by decide)
  (fM:(x == ("__classdict__" : Str))=false:=by decide):Ev X (.Name x p) σ H Q:=c6 (Og (i:=i) hN hs hd fM) ⟨v,hv,h⟩
theorem aA{i:Int}{j:Nat}(h:Q (.int i) H):Ev X (.Constant (.int i) j p) σ H Q:=c6 (Oh) h
theorem qA{i:Bool}{j:Nat}(h:Q (.bl i) H):Ev X (.Constant (.bool i) j p) σ H Q:=c6 (Oi) h
theorem oE{j:Nat}(h:Q .non H):Ev X (.Constant .none j p) σ H Q:=c6 (Oj) h
theorem uP{i:Str}{j:Nat}(h:Q (.str i) H):Ev X (.Constant (.str i) j p) σ H Q:=c6 (Ol) h
theorem aQ{op:Operator}{r:R2}(ho:cn X (binaryOp op) r)(h:Ev X a σ H λx H1=>Ev X b σ H1 λy H2=>r x y H2 Q):Ev X (.BinOp a op b pos) σ H Q:=c6 (O7 ho bw bw) h
theorem Hc{op:UnaryOp}{r:V->Hp->VK->Prop}(ho:uz X (unaryOp op) r)(h:Ev X a σ H λx H1=>r x H1 Q):Ev X (.UnaryOp op a pos) σ H Q:=c6 (O8 ho bw) h
theorem yh{op:CmpOp}{r:R2}(ho:cn X (compareOp op) r)(h:Ev X a σ H λx H1=>Ev X b σ H1 λy H2=>r x y H2 Q)(hm:behindInMarks op b=false:=by with_unfolding_all rfl):Ev X (.Compare a [op] [b] pos) σ H Q:=c6 (Pj ho bw bw hm) h
theorem Q5(h:Ev X a σ H λx H1=>∃ k,x = .bl k/\Q (.bl (!k)) H1):Ev X (.UnaryOp .Not a pos) σ H Q:=c6 (Oz bw) h
theorem aT{r:R2}(hr:qi X r)(h:Ev X a σ H λx H1=>Ev X b σ H1 λy H2=>r x y H2 Q)(hs:Ge b:=by intro _ _;rfl):Ev X (.Subscript a b pos) σ H Q:=c6 (P7 hr bw bw hs) h
theorem kD{r:V->Option Int->Option Int->Hp->VK->Prop}{lo hi:Option Expr}(hr:xM X r)(h:Ev X a σ H λx H1=>Eo X lo σ H1 λl H2=>Eo X hi σ H2 λu H3=>r x l u H3 Q):Ev X (.Subscript a (.Slice lo hi none p2) pos) σ H Q:=c6 (P2 hr bw GU GU) h
theorem kE{R:Option Int->Hp->Prop}(h:R none H):Eo X none σ H R:=G0 (PY) h
theorem kF{R:Option Int->Hp->Prop}(h:Ev X a σ H λx H1=>∃ i,x = .int i/\R (some i) H1):Eo X (some a) σ H R:=G0 (PZ bw) h
theorem ay(h:L [] H):Ea X [] σ H L:=GV (Pt) h
theorem al(h:Ev X e σ H λx H1=>Ea X es σ H1 λxs H2=>L (x :: xs) H2)(hs:isStar e=false:=by rfl):Ea X (e :: es) σ H L:=GV (QU bw dS hs) h
theorem eX{k:Nat}(h:Ea X es σ H λxs H1=>xs.length<=sizeLine/\∀ p,H1 p=none->Q (.ref p) (upd H1 p<|.tup xs)):Ev X (.Tuple es k pos) σ H Q:=c6 (Pw dS) h
theorem di(h:Ea X es σ H λxs H1=>xs.length<=sizeLine/\∀ p,H1 p=none->Q (.ref p) (upd H1 p<|.lst xs)):Ev X (.List es pos) σ H Q:=c6 (Px dS) h
theorem Hd{CX:eU}{k:Nat}{f:Addr}{fd:FuncData}{ps:List Str}{sp:Sp}{E:XK}{x:Str}(F:aD X.prog X.w X.K X.mg X.base CX k f fd ps sp)(hr:bf k X.A)(hm:X.mg x=some (.ref f))(hk:PySem.W.keepIn X.K (.ref f)=true)(hb:Binds X.K fd ps [])(hx:jx CX X E)
  (h:Ea X (e :: es) σ H λvs H1=>sp vs H1 Q E) (hg:Gl X x:=by rfl) (cT:(x == ("__debug__" : Str))=false:=by decide) (hs:noStar (e :: es)=true:=by rfl):Ev X (.Call (.Name x p) (e :: es) [] pos) σ H Q:=
 c6 (QY F hr hm hk hb hx dS hg cT hs) (show Ea X (e :: es) σ H _ from h.mono λvs H1 q=>by rw [Bh];exact q)
theorem cL{id:String}{r:List V->Hp->VK->Prop}{x:Str}(hc:gU X (.builtin id) r)(hm:X.mg x=none)(hv:bootBuiltins x=some (.builtin id))(h:Ea X (e :: es) σ H λvs H1=>r vs H1 Q)(hg:Gl X x:=by rfl)(hn:x ≠ "__name__":=by decide)(cT:(x == ("__debug__" : Str))=false:=by decide)
  (hs:noStar (e :: es)=true:=by rfl):Ev X (.Call (.Name x p) (e :: es) [] pos) σ H Q:=c6 (ye hc hm hv dS hg hn cT hs) h
theorem uQ{T:String}{r:List V->Hp->VK->Prop}{x:Str}(hc:gU X (.type T) r)(hm:X.mg x=none)(hv:bootBuiltins x=some (.type T))(h:Ea X (e :: es) σ H λvs H1=>r vs H1 Q)(hg:Gl X x:=by rfl)(hn:x ≠ "__name__":=by decide)(cT:(x == ("__debug__" : Str))=false:=by decide)
  (hs:noStar (e :: es)=true:=by rfl):Ev X (.Call (.Name x p) (e :: es) [] pos) σ H Q:=c6 (yf hc hm hv dS hg hn cT hs) h
theorem cB{op:CmpOp}{r:R2}(ho:cn X (compareOp op) r)(h:Ev X a σ H λx H1=>Ev X b σ H1 λy H2=>r x y H2 λz H3=>∃ k,z = .bl k/\T k H3)(hm:behindInMarks op b=false:=by with_unfolding_all rfl):Et X (.Compare a [op] [b] pos) σ H T:=qz (Pl ho bw bw hm) h
theorem Q6(h:Et X a σ H λk H1=>T (!k) H1):Et X (.UnaryOp .Not a pos) σ H T:=qz (Ox kC) h
theorem Q7(h:Ev X e σ H λx H1=>∃ k,x = .bl k/\T k H1)(he:∀ whole,isTrue e X.env whole=(do let v <- whole;standAt e.pos;holding [v] (truthy v)):=by intro _;rfl):Et X e σ H T:=qz (Oo bw he) h
theorem Q8(h:Ev X e σ H λx H1=>∃ k,lY X.K x H1 k/\T k H1)(he:∀ whole,isTrue e X.env whole=(do let v <- whole;standAt e.pos;holding [v] (truthy v)):=by intro _;rfl):Et X e σ H T:=qz (Pp bw he) h
theorem kG(h:Ew X e σ H T):Et X e σ H T:=⟨λpins s I=>h.run _ pins s I⟩
theorem qB(h:Et X a σ H λk H1=>if k=true then Ew X (.BoolOp .And (b :: es) pos) σ H1 T else T false H1):Ew X (.BoolOp .And (a :: b :: es) pos) σ H T:=uO (Ov kC GI) h
theorem yi(h:Et X a σ H λk H1=>if k=true then T true H1 else Ew X (.BoolOp .Or (b :: es) pos) σ H1 T):Ew X (.BoolOp .Or (a :: b :: es) pos) σ H T:=uO (Ow kC GI) h
theorem yj(h:Et X a σ H T):Ew X (.BoolOp .And [a] pos) σ H T:=uO (Ot kC) h
theorem yk(h:Et X a σ H T):Ew X (.BoolOp .Or [a] pos) σ H T:=uO (Ou kC) h
theorem bo(i:Nat){x:Str}{v:V}{R:St->Hp->Prop}(hN:X.N.Nodup)(h:R (σ.set i<|some v) H)(hi:X.N[i]?=some x:=by rfl)(hx:Loc X.env.scope x:=by first | exact Or.inl rfl | exact Or.inr rfl)(hf:X.fn x=true\/X.env.scope.names.lookup x=some .local:=by first | exact .inl rfl | exact .inr rfl | assumption):Eg X (.Name x p) v σ H R:=G' (OM hN hi hx hf) h
theorem aO(i:Nat){x:Str}{pos':Pos}(hN:X.N.Nodup)(h:Ev X e σ H λv H1=>Run X rest D (σ.set i<|some v) H1)(hi:X.N[i]?=some x:=by rfl)(hx:Loc X.env.scope x:=by first | exact Or.inl rfl | exact Or.inr rfl)(hs:swapsWith e (some<|.Name x pos') pos.line X.env=pure false:=by rfl)
  (hf:X.fn x=true\/X.env.scope.names.lookup x=some .local:=by first | exact .inl rfl | exact .inr rfl | assumption):Run X (.Assign [.Name x pos'] e pos :: rest) D σ H:=i8 (OT hN hi hx bw hs hf) h
theorem eY(h:Et X c σ H λk H1=>if k=true then Run X body {D with nx:=λσ' H'=>Run X rest D σ' H'} σ H1 else Run X i7 {D with nx:=λσ' H'=>Run X rest D σ' H'} σ H1):Run X (.If c body i7 pos :: rest) D σ H:=i8 (OL kC ml ml) h
theorem He(φ ψ:Prop)(hc:∀ T:Bool->Hp->Prop,(∀ k:Bool,(k=true->φ)->(k=false->ψ)->T k H)->Et X c σ H T)(ht:φ->Run X body {D with nx:=λσ' H'=>Run X rest D σ' H'} σ H)(hu:ψ->Run X i7 {D with nx:=λσ' H'=>Run X rest D σ' H'} σ H):Run X (.If c body i7 pos :: rest) D σ H:=
 eY (hc _ λk p q=>by
  cases k with
  | true=>rw [BL rfl];exact ht<|p rfl
  | false=>rw [BP Ao];exact hu<|q rfl)
theorem bS(h:Ev X e σ H D.rt):Run X (.Return (some e) pos :: rest) D σ H:=i8 (OI bw) h
theorem fb(h:Ev X e σ H λ_ H1=>Run X rest D σ H1)(hs:swapsWith e none pos.line X.env=pure false:=by rfl):Run X (.Expr e pos :: rest) D σ H:=i8 (OH bw hs) h
theorem yl{tg:Expr}(h:Ev X e σ H λv H1=>Eg X tg v σ H1 λσ' H'=>Run X rest D σ' H')(hs:swapsWithSole [tg] e pos.line X.env=pure false:=by rfl)(hw:swappedStores [tg] e X.env=pure none:=by rfl)
  (h1:(assignEach [tg] X.env).map (·.2)=[assign tg X.env]:=by rfl):Run X (.Assign [tg] e pos :: rest) D σ H:=i8 (OS bw uN hs hw h1) h
def Loop(X:Cx)(tg:Expr)(body:List Stmt)(J:It)(D:Ends)(after:St->Hp->Prop)(σ:St)(H:Hp):Prop:=
 ∃ W:Nat->Nat->St->Hp->Prop,(∃ m,W 0 m σ H)/\∀ i m σ H,W i m σ H->(J.stop i H/\after σ H)\/(J.go i H/\∃ N:St->Hp->Prop,(∀ σ' H',N σ' H'->∃ m',m' < m/\W (i+1) m' σ' H') /\
  ∀ x H',J.p7 i H x H'->Eg X tg x σ H' λσ2 H2=>Run X body {D with nx:=N,ct:=N,bk:=after} σ2 H2)
theorem qC{tg iter:Expr}{wi:TI}(hi:PI X tg iter wi)(h:wi σ H λJ H1=>Loop X tg body J D (λσ' H'=>Run X rest D σ' H') σ H1)(hp:PassesOwn (model X.prog X.w) X.A X.env X.xe:=by exact KD)(hc:X.calm=true:=by rfl)
  (hs:∀ x,foldedSetIterable iter X.env x=pure x:=by intro _;rfl):Run X (.For tg iter body [] pos :: rest) D σ H:=i8 (O3 hp hc hi uN ml hs) h
theorem kH{tg:Expr}{q:Pos}(hm:X.mg "range" = none)(h:Ev X a σ H λx H1=>∃ j:Int,x = .int j/\-(2 ^ 62)<=j/\j < 2 ^ 62/\Loop X tg body (ou 0 j.toNat) D (λσ' H'=>Run X rest D σ' H') σ H1)(hg:Gl X "range":=by rfl)(hp:PassesOwn (model X.prog X.w) X.A X.env X.xe:=by exact KD)(hc:X.calm=true:=by rfl)(hs:isStar a=false:=by rfl) :
  Run X (.For tg (.Call (.Name "range" q) [a] [] p) body [] pos :: rest) D σ H:=
 qC (wi:=FL<|qw X [a]) (xB hg hm dS<|mj a [] _ hs) (show Ea X [a] σ H _ from al (h.mono λx H1 ⟨j,e,h1,h2,h3⟩=>ay ⟨j,by rw [e],h1,h2,h3⟩) hs) hp hc (by intro _;rfl)
theorem mq{tg iter:Expr}(h:Ev X iter σ H λx H1=>∃ a,x = .ref a/\(∃ xs,ak X.K H1 a xs)/\Loop X tg body (ot X.K a) D (λσ' H'=>Run X rest D σ' H') σ H1)(hp:PassesOwn (model X.prog X.w) X.A X.env X.xe:=by exact KD)(hc:X.calm=true:=by rfl)
  (hs:∀ x,foldedSetIterable iter X.env x=pure x:=by intro _;rfl):Run X (.For tg iter body [] pos :: rest) D σ H:=qC (gs bw) h hp hc hs
theorem kI{tg:Expr}{lo:Int}{n:Nat}{after:St->Hp->Prop}(Pv:Nat->St->Hp->Prop)(h0:Pv 0 σ H)
  (hs:∀ i σ H,i < n->Pv i σ H->Eg X tg (.int<|lo+i) σ H λσ2 H2=>Run X body {D with nx:=Pv<|i+1,ct:=Pv<|i+1,bk:=after} σ2 H2) (hd:∀ σ H,Pv n σ H->after σ H):Loop X tg body (ou lo n) D after σ H:=by
 refine⟨λi m σ H=>m=n - i/\i<=n/\Pv i σ H,⟨n,by simp,Be _,h0⟩,?_⟩;rintro i m σ H ⟨rfl,hi,p⟩
 by_cases aK:i < n
 ·refine .inr ⟨aK,Pv<|i+1,λσ' H' p'=>⟨n - (i+1),by omega,rfl,aK,p'⟩,λx H' y=>?_⟩;obtain⟨e,y⟩:=y;subst e y;exact hs i σ _ aK p
 ·have e:i=n:=by omega
  subst e;exact .inl ⟨Ag _,hd σ H p⟩
theorem q5m{tg:Expr}{at_:Addr}{xs:List V}{after:St->Hp->Prop}(Pv:Nat->St->Hp->Prop)(h0:Pv 0 σ H)(hl:∀ i σ H,i<=xs.length->Pv i σ H->aM X.K H at_ xs)
  (hs:∀ i x σ H,xs[i]?=some x->Pv i σ H->Eg X tg x σ H λσ2 H2=>Run X body {D with nx:=Pv<|i+1,ct:=Pv<|i+1,bk:=after} σ2 H2) (hd:∀ σ H,Pv xs.length σ H->after σ H):Loop X tg body (uv X.K at_) D after σ H:=by
 refine⟨λi m σ H=>m=xs.length - i/\i<=xs.length/\Pv i σ H,⟨xs.length,by simp,Be _,h0⟩,?_⟩;rintro i m σ H ⟨rfl,hi,p⟩;have q:=hl i σ H hi p
 by_cases aK:i < xs.length
 ·refine .inr ⟨⟨xs,xs[i],q,by simp [aK]⟩,Pv<|i+1,λσ' H' p'=>⟨xs.length - (i+1),by omega,rfl,aK,p'⟩,λx H' y=>?_⟩;obtain⟨e,y⟩:=y;subst e;exact hs i x σ _ (y xs q) p
 ·have e:i=xs.length:=by omega
  subst e;exact .inl ⟨⟨xs,q,Ag _⟩,hd σ H p⟩
theorem mr{tg:Expr}{at_:Addr}{xs:List V}{after:St->Hp->Prop}(Pv:Nat->St->Hp->Prop)(h0:Pv 0 σ H)(hl:∀ i σ H,i<=xs.length->Pv i σ H->ak X.K H at_ xs)
  (hs:∀ i x σ H,xs[i]?=some x->Pv i σ H->Eg X tg x σ H λσ2 H2=>Run X body {D with nx:=Pv<|i+1,ct:=Pv<|i+1,bk:=after} σ2 H2) (hd:∀ σ H,Pv xs.length σ H->after σ H):Loop X tg body (ot X.K at_) D after σ H:=by
 refine⟨λi m σ H=>m=xs.length - i/\i<=xs.length/\Pv i σ H,⟨xs.length,by simp,Be _,h0⟩,?_⟩;rintro i m σ H ⟨rfl,hi,p⟩;have q:=hl i σ H hi p
 by_cases aK:i < xs.length
 ·refine .inr ⟨⟨xs,xs[i],q,by simp [aK]⟩,Pv<|i+1,λσ' H' p'=>⟨xs.length - (i+1),by omega,rfl,aK,p'⟩,λx H' y=>?_⟩;obtain⟨e,y⟩:=y;subst e;exact hs i x σ _ (y xs q) p
 ·have e:i=xs.length:=by omega
  subst e;exact .inl ⟨⟨xs,q,Ag _⟩,hd σ H p⟩
theorem bu.go{P:Program}{w:World}{K:PySem.W.Frag}{mg:Str->Option Value}{base:Heap}{x qual:Str}{st:Stmt}{f:Addr}{fd:FuncData}{N ps:List Str}{k:Nat}{sp:Sp}(F:bu K x qual st f fd)(S:ao N ps<|aV st)(len:∀ vs H Q E,sp vs H Q E->vs.length=ps.length)
  (cq : ∀ (bn : Value) (A : Around) (outer : List Env) (s : Shared) (H : Hp) (vs : List V) (Q : VK) (E : XK), bf k (A.deeper<|envOfC qual (aV st) s.heap.objs.size f bn) → sp vs H Q E →
   Run (cD bD P w K mg base N qual (aV st) f bn A outer s H E).om (fS st) {nx:=λ_ H'=>Q .non H',rt:=Q} (start N vs) H):aD P w K mg base bD (k+1) f fd ps sp:=
 F.ok S len λbn A outer s H vs Q E hr cY=>⟨_,ml,cq bn A outer s H vs Q E hr cY⟩
end
structure Ei(X:Cx)(ifs:List Expr)(σ:St)(H:Hp)(Q:Bool->Hp->Prop):Prop where
 run:∀(pins:List<|Addr×Obj) (s:Shared),Inv X pins σ H s ->
  wpAny (model X.prog X.w) X.A (forIn ifs true λc r=>if r=true then do let ok <- isTrue c X.env<|eval c X.env;pure (ForInStep.yield ok) else pure (ForInStep.yield r)) (TP X pins σ Q) X.xe s
def qD(X:Cx)(N':List Str)(scope:Scope)(e:Expr)(σ:St)(H:Hp)(Q:VK):Prop:=∀ cl C s₀ H₀ ex,Ev (eW X N' scope cl C s₀ H₀ ex) e σ H Q
def qF(X:Cx)(N':List Str)(scope:Scope)(e:Expr)(v:V)(σ:St)(H:Hp)(Q:St->Hp->Prop):Prop:=∀ cl C s₀ H₀ ex,Eg (eW X N' scope cl C s₀ H₀ ex) e v σ H Q
def qG(X:Cx)(N':List Str)(scope:Scope)(ifs:List Expr)(σ:St)(H:Hp)(Q:Bool->Hp->Prop):Prop:=∀ cl C s₀ H₀ ex,Ei (eW X N' scope cl C s₀ H₀ ex) ifs σ H Q
def jD(X:Cx)(N':List Str)(scope:Scope)(tg:Expr)(ifs:List Expr)(elt:Expr)(J:It)(D:Addr)(after:Hp->Prop)(σ:St)(H:Hp):Prop:=
 ∃ W:Nat->Nat->St->Hp->Prop,(∃ m,W 0 m σ H)/\∀ i m σ' H',W i m σ' H' ->
  (J.stop i H' ∧ after H') ∨ (J.go i H' ∧ ∃ N : St → Hp → Prop, (∀ σ' H', N σ' H' → ∃ m', m' < m ∧ W (i + 1) m' σ' H') ∧ ∀ x H2, J.p7 i H' x H2 → qF X N' scope tg x σ' H2 λσ2 H3 => qG X N' scope ifs σ2 H3 λb H4 =>
   if b=true then qD X N' scope elt σ2 H4 λv H5=>∃ ys,H5 D=some (.lst ys)/\ys.length < sizeLine/\N σ2 (upd H5 D<|.lst<|ys++[v]) else N σ2 H4)
theorem mv:∀(names:List<|Str×NameKind) (n:Nat) (acc:List<|Str×Addr),cellsFrom n names acc=cellsFrom n names []++acc
 | [],_,_=>rfl
 | (y,k) :: r,n,acc=>by
  unfold cellsFrom
  split
  ·rw [mv r (n+1)<|(y,n) :: acc,mv r (n+1) [(y,n)],Aw];rfl
  ·exact mv r n acc
theorem qH:∀(names:List<|Str×NameKind) (n:Nat) {x:Str} {c:Addr},(x,c)∈cellsFrom n names []->(x,NameKind.cell)∈names/\n<=c
 | [],_,_,_,h=>by cases h
 | (y,k) :: r,n,x,c,h=>by
  unfold cellsFrom at h
  split at h
  ·rename_i hk;rw [mv,Aq] at h
   rcases h with h | h
   ·obtain⟨a,b⟩:=qH r (n+1) h;exact⟨Ak _ a,by omega⟩
   ·cases Ah.mp h;have:k = .cell:=by cases k <;> first | rfl | exact absurd hk<|by decide
    subst this;exact⟨As,Ag _⟩
  ·obtain⟨a,b⟩:=qH r n h;exact⟨Ak _ a,b⟩
theorem Hf{names:List (Str×NameKind)}{n:Nat}{cl:List (Str×Addr)}{x:Str}{c:Addr}(h:(cellsFrom n names cl).lookup x=some c):((x,c)∈cellsFrom n names []/\n<=c)\/cl.lookup x=some c:=by
 rw [mv,LC] at h;cases e:(cellsFrom n names []).lookup x with
 | some d=>
  rw [e] at h;cases h;have hm:=CV e;exact .inl ⟨hm,(qH _ _ hm).2⟩
 | none=>
  rw [e] at h;exact .inr h
theorem Q9{names:List (Str×NameKind)}{n:Nat}{cl:List (Str×Addr)}{x:Str}(h:(x,NameKind.cell)∉names):(cellsFrom n names cl).lookup x=cl.lookup x:=by
 rw [mv,LC];cases e:(cellsFrom n names []).lookup x with
 | some d=>exact absurd (qH _ _<|CV e).1 h
 | none=>rfl
section
variable{M:Model}{A:Around}{E:Value->Shared->Prop}{s:Shared}
theorem Ra{scope:Scope}{globals:Addr}{closure:List (Str×Addr)}{qual:Str}{func:Option Addr}{code:Value}{outer:Env}{builtins:Addr}{Q:Env->Shared->Prop}
  (hQ : ∀ h', h'.Ns s.heap.objs.size (λ_ => none) → (∀ b o, s.heap.get? b = some o → h'.get? b = some o) → CellsOk h' (s.heap.objs.size + 1) (cellsFrom (s.heap.objs.size + 1) scope.names []) →
   Q (newEnv scope s.heap.objs.size globals (cellsFrom (s.heap.objs.size+1) scope.names closure) qual func code (some outer) builtins) {s with heap:=h'}) :
  wpAny M A (newFunctionEnv scope globals closure [] qual func code (some outer) builtins) Q E s:=by
 simp only [newFunctionEnv,Option.isSome_some,CZ];refine BJ<|wpAny_alloc ?_;refine BJ (wpAny_layCells _ (λname kind cells=>by cases Rb:kind == NameKind.cell <;> simp [Rb]) _ _ _ _ ?_);have ok:=cellsFrom_ok scope.names (s.heap.push {cls:= .type "dict",data:= .dict #[]}) (s.heap.objs.size+1) [] ⟨λ_ _ hm=>(nomatch hm),List.Pairwise.nil⟩ (by rw [Cw];exact Ag _);rw [Cw] at ok;rw [show({s with heap:=s.heap.push {cls:= .type "dict",data:= .dict #[]}}:Shared).heap.objs.size=s.heap.objs.size+1 from Cw ..];rw [List.forIn_nil];exact BJ<|BK<|BK<|hQ _ ((Heap.Ns.new s.heap<|.type "dict").keeps<|pushCells_keeps _ _) (λb o e=>pushCells_keeps _ _ b o<|Ae _ e) ok
end
def jE(sc scope:Scope)(N N':List Str):Bool:=
 (match scope.kind with | .function=>true | _=>false) &&
 scope.names.all (λy=>match y.2 with
  | .cell=>(match scope.names.lookup y.1 with | some .cell=>true | _=>false)
  | .local=>(match scope.names.lookup y.1 with | some .local=>true | _=>false)
  | .free=>(match sc.names.lookup y.1 with | some .cell=>true | some .free=>true | _=>false) && (match scope.names.lookup y.1 with | some .free=>true | _=>false)
  | _=>true) &&
 (List.range N'.length).all λi => match N'[i]? with
  | none=>true
  | some x=>match scope.names.lookup x with
   | some .local=>decide (N.length<=i)
   | some .cell=>decide (N.length<=i)
   | some .free=>decide (N[i]?=some x)
   | _=>true
structure bh(sc scope:Scope)(N N':List Str):Prop where
 kind:scope.kind = .function
 cell:∀ y∈scope.names,y.2 = .cell->scope.names.lookup y.1=some .cell
 names:∀ y∈scope.names,y.2 = .local->scope.names.lookup y.1=some .local
 free:∀ y∈scope.names,y.2 = .free->sc.names.lookup y.1=some .cell\/sc.names.lookup y.1=some .free
 Hg:∀ y∈scope.names,y.2 = .free->scope.names.lookup y.1=some .free
 own:∀(i:Nat) x,N'[i]?=some x->scope.names.lookup x=some .local->N.length<=i
 ym:∀(i:Nat) x,N'[i]?=some x->scope.names.lookup x=some .cell->N.length<=i
 out:∀(i:Nat) x,N'[i]?=some x->scope.names.lookup x=some .free->N[i]?=some x
theorem bh.of{sc scope:Scope}{N N':List Str}(h:jE sc scope N N'=true):bh sc scope N N':=by
 unfold jE at h;rw [Br,Br] at h;obtain⟨⟨h1,h2⟩,h3⟩:=h;have mw:=Dy.mp h2;have yn:=Dy.mp h3;refine⟨?_,λy hy e=>?_,λy hy e=>?_,λy hy e=>?_,λy hy e=>?_,λi x hi e=>?_,λi x hi e=>?_,λi x hi e=>?_⟩
 ·revert h1;cases scope.kind <;> intro h1 <;> first | rfl | cases h1
 ·have q:=mw y hy;rw [e] at q;simp only at q
  split at q
  ·assumption
  ·cases q
 ·have q:=mw y hy;rw [e] at q;simp only at q
  split at q
  ·assumption
  ·cases q
 ·have q:=mw y hy;rw [e] at q;simp only at q;rw [Br] at q;have q:=q.1
  split at q
  ·exact .inl<|by assumption
  ·exact .inr<|by assumption
  ·cases q
 ·have q:=mw y hy;rw [e] at q;simp only at q;rw [Br] at q;have q:=q.2
  split at q
  ·assumption
  ·cases q
 ·have q:=yn i<|Bc.mpr (Ac.mp hi).1;rw [hi] at q;simp only [e] at q;exact CQ q
 ·have q:=yn i<|Bc.mpr (Ac.mp hi).1;rw [hi] at q;simp only [e] at q;exact CQ q
 ·have q:=yn i<|Bc.mpr (Ac.mp hi).1;rw [hi] at q;simp only [e] at q;exact CQ q
section
variable{X:Cx}{pins:List (Addr×Obj)}{σ:St}{H:Hp}{s:Shared}
theorem Rc{N':List Str}{scope:Scope}{n:Nat}{fp:List Addr}{h₁:Heap}{t':Nat}{m:Str->Option Value}(I:Inv X pins σ H s)(ck:bh X.env.scope scope X.N N')(hl:N'.length=X.N.length+n)
  (uI:h₁.Ns s.heap.objs.size m) (old:∀ b o,s.heap.get? b=some o->h₁.get? b=some o) (Hh:CellsOk h₁ (s.heap.objs.size+1)<|cellsFrom (s.heap.objs.size+1) scope.names [])
  (kJ:∀ b∈fp,bR X pins H b/\b < s.heap.objs.size) :
  Inv (eW X N' scope (cellsFrom (s.heap.objs.size+1) scope.names<|b9 scope.names X.env.cells []) s.heap.objs.size s H fp) [] (σ++List.replicate n none) H {s with heap:=h₁,toks:=t'}:=by
 have sub:∀ x c,(b9 scope.names X.env.cells []).lookup x=some c->X.env.cells.lookup x=some c:=λx c e=>ya _ _ _ (λ_ _ z=>by simp at z) x c<|CV e;have both:∀ x c,(cellsFrom (s.heap.objs.size+1) scope.names<|b9 scope.names X.env.cells []).lookup x=some c->((x,c)∈cellsFrom (s.heap.objs.size+1) scope.names []/\s.heap.objs.size+1<=c)\/X.env.cells.lookup x=some c:=λx c e=>by
  rcases Hf e with z | z
  ·exact .inl z
  ·exact .inr<|sub x c z
 have kK:∀ x c,X.env.cells.lookup x=some c->c < s.heap.objs.size:=λx c e=>by
  obtain⟨v,o,ho,_⟩:=I.cell x c e;exact Ar ho
 have Rf:H s.heap.objs.size=none:=I.aC.fresh<|Ag _;have kindOf:∀{x:Str} {k':NameKind},(relabel scope X.env).names.lookup x=some k'->∃ k,scope.names.lookup x=some k/\(k'=k\/(k = .free/\k' = .cell)):=λz=>Gy z;have Hi:∀ x,scope.names.lookup x=some .free->(cellsFrom (s.heap.objs.size+1) scope.names<|b9 scope.names X.env.cells []).lookup x=(b9 scope.names X.env.cells []).lookup x:=λx e=>Q9 λhm=>by
  have:=ck.cell _ hm rfl;rw [e] at this;cases this
 have yo:∀ x,scope.names.lookup x=some .cell->∃ c,(cellsFrom (s.heap.objs.size+1) scope.names<|b9 scope.names X.env.cells []).lookup x=some c:=λx e=>Du.mp<|HF _ _ _<|.inl e;have Rg:(eW X N' scope (cellsFrom (s.heap.objs.size+1) scope.names<|b9 scope.names X.env.cells []) s.heap.objs.size s H fp).Ok:=by
  refine⟨I.ok.mod,ck.kind,I.ok.glob,I.ok.blt,Ag _,λx y c e1 e2=>?_,λx hx=>?_,λx c hf e=>?_,I.ok.hd,I.ok.frames,.inl rfl,λb hb=>⟨Bp (kJ b hb).2,λx c e=>?_⟩,
   I.bs,Bz I.ok.kh I.sz,λb o e hb=>?_,λb hb hf=>?_,I.stack,I.cN⟩
  ·rcases both x c e1 with z1 | z1
   ·rcases both y c e2 with z2 | z2
    ·exact name_of_addr Hh.apart z1.1 z2.1
    ·exact absurd (kK y c z2)<|Nat.not_lt.mpr<|Dq z1.2
   ·rcases both y c e2 with z2 | z2
    ·exact absurd (kK x c z1)<|Nat.not_lt.mpr<|Dq z2.2
    ·exact I.ok.inj x y c z1 z2
  ·have jF:(relabel scope X.env).names.lookup x=some .cell\/(relabel scope X.env).names.lookup x=some .free:=hx;have:∃ k,scope.names.lookup x=some k/\(k = .free\/k = .cell):=by
    rcases jF with z | z
    ·obtain⟨k,e,r⟩:=kindOf z
     rcases r with r | ⟨r,_⟩
     ·exact⟨k,e,.inr r.symm⟩
     ·exact⟨k,e,.inl r⟩
    ·obtain⟨k,e,r⟩:=kindOf z
     rcases r with r | ⟨r,_⟩
     ·exact⟨k,e,.inl r.symm⟩
     ·exact⟨k,e,.inl r⟩
   obtain⟨k,e,rfl | rfl⟩:=this
   ·have hm:=CV e;obtain⟨c,hc⟩:=I.ok.has x<|ck.free _ hm rfl;obtain⟨d,hd⟩:=yc<|yb scope.names X.env.cells [] x c hm hc;exact⟨d,(Hi x e).trans hd⟩
   ·exact yo x e
  ·have hx:scope.names.lookup x=some .cell:=by
    have Hj:(match scope.names.lookup x with | some .cell=>true | _=>false)=true:=hf
    split at Hj
    ·assumption
    ·cases Hj
   have e':(cellsFrom (s.heap.objs.size+1) scope.names<|b9 scope.names X.env.cells []).lookup x=some c:=e;have q1:=Du.mp<|HF scope.names (s.heap.objs.size+1) []<|.inl hx;obtain⟨d,hd⟩:=q1;rw [mv,LC,hd] at e';have e2:d=c:=Option.some.inj e';have:=(qH _ _<|CV hd).2;rw [<- e2];exact Dq this
  ·have e':(cellsFrom (s.heap.objs.size+1) scope.names<|b9 scope.names X.env.cells []).lookup x=some c:=e
   rcases both x c e' with z | z
   ·have h1:=(kJ b hb).2;have h2:=z.2;exact λk=>absurd h1<|Nat.not_lt.mpr<|by rw [<- k];exact Dq h2
   ·exact(kJ b hb).1.2.2.2.2.1 x c z
  ·have:=(kJ b hb).1.2.2.2.1
   rcases this with z | z
   ·exact I.ok.ig b o e z
   ·exact absurd (Bk (Ar e)<|Bz I.ok.kh z)<|Ch _
  ·rcases Am.mp (I.dE b hf) with z | z
   ·exact(kJ b hb).1.2.1 z
   ·exact(kJ b hb).1.2.2.1 z
 refine⟨Rg,rfl,I.bare,Un.kept old,⟨m,uI,λi x v e1 e2 e3=>?_⟩,λx c e=>?_,Rf,λx c e=>?_,λp hp=>absurd hp (by simp [eW]),I.aC.kept old,?_⟩
 ·have hi:i < σ.length:=by
   by_cases hi:i < σ.length
   ·exact hi
   ·rw [Au (by omega),Dx] at e2
    split at e2 <;> cases e2
  rw [At hi] at e2;have my:N'[i]?=some x:=e1;have Rh:∃ k',(relabel scope X.env).names.lookup x=some k'/\(k' = .local\/k' = .cell\/k' = .free):=by
   rcases e3 with z | z | z
   ·exact⟨_,z,.inl rfl⟩
   ·exact⟨_,z,.inr<|.inl rfl⟩
   ·exact⟨_,z,.inr<|.inr rfl⟩
  obtain⟨k',yp,jG⟩:=Rh;obtain⟨k,ek,r⟩:=kindOf yp;have kf:k = .free:=by
   rcases r with r | ⟨r,_⟩
   ·subst r
    rcases jG with z | z | z
    ·subst z;have:=ck.own i x my ek;rw [I.len] at hi;omega
    ·subst z;have:=ck.ym i x my ek;rw [I.len] at hi;omega
    ·exact z
   ·exact r
  subst kf;have hm:=CV ek;have Ri:=ck.out i x my ek;obtain⟨m0,yq,jH⟩:=I.loc;have kx:=ck.free _ hm rfl;obtain⟨u,ru,lk⟩:=jH i x v Ri e2 (by rcases kx with z | z;exact .inr<|.inl z;exact .inr<|.inr z);refine⟨u,ru,.inr ⟨?_,?_⟩⟩
  ·rcases r with r | ⟨_,r⟩
   ·subst r;exact .inr yp
   ·subst r;exact .inl yp
  ·rcases lk with ⟨k1,_⟩ | ⟨_,c,hc,fN⟩
   ·have Hk:X.env.scope.names.lookup x=some .local:=k1
    rcases kx with z | z
    ·rw [Hk] at z;cases z
    ·rw [Hk] at z;cases z
   ·have qI:=yb scope.names X.env.cells [] x c hm hc;obtain⟨d,hd⟩:=yc qI;have:d=c:=Option.some.inj<|(sub x d hd).symm.trans hc;subst this;obtain⟨o,ho,gC⟩:=fN;exact⟨d,(Hi x ek).trans hd,o,old _ _ ho,gC⟩
 ·have e':(cellsFrom (s.heap.objs.size+1) scope.names<|b9 scope.names X.env.cells []).lookup x=some c:=e
  rcases both x c e' with z | z
  ·exact⟨none,(Hh.empty x c z.1).1⟩
  ·obtain⟨v,o,ho,gC⟩:=I.cell x c z;exact⟨v,o,old _ _ ho,gC⟩
 ·have e':(cellsFrom (s.heap.objs.size+1) scope.names<|b9 scope.names X.env.cells []).lookup x=some c:=e
  rcases both x c e' with z | z
  ·exact I.aC.fresh<|Dq z.2
  ·exact I.bW x c z
 ·rw [Af,Eh,I.len];exact hl.symm
end
structure Clause(e:Expr)(d:Nat)(tg iter:Expr)(ifs:List Expr)(acc:Value)(env:Env)(inner:Sem Unit):Prop where
 at':(clausesOf e)[d]?=some ⟨tg,iter,ifs,0⟩
 quiet:∀ it,(Code.compLoop e d it acc env).quiet=true
 den:∀(prog:Program) (w:World) it,(model prog w).den (.compLoop e d it acc env)=(compTurn e d it acc env).onRaise (λx=>do noteFrame x env;theTreesLotGoes x)
 Rj:∀(A:Around) it,A.under (.compLoop e d it acc env)=A
 yr:∀(prog:Program) (w:World) it,(model prog w).den (.compStart e d it acc env)=(compStart e d it acc env).onRaise (λx=>do noteFrame x env;standAt theWindowsPlace)
 yt:∀(A:Around) it,A.under (.compStart e d it acc env)=A
 turn:∀ it,compTurn e d it acc env=(do
   standAt iter.pos
   match <- pyNext it with
   | none=>pure<|.done .next
   | some v=>
    letOwnedTupleGo tg it v
    assign tg env v
    let mut ok:=true
    for c in ifs do
     if ok then ok <- isTrue c env<|eval c env
    if ok then
     inner
    again (.compLoop e d it acc env))
section
variable{prog:Program}{w:World}{A:Around}{R:Result->Shared->Prop}{s:Shared}
theorem Rk{e:Expr}{d:Nat}{tg iter:Expr}{ifs:List Expr}{it acc:Value}{env:Env}{inner:Sem Unit}(C:Clause e d tg iter ifs acc env inner)(I:Nat->Shared->Prop)
  (turn : ∀ n s, I n s → wpAny (model prog w) A (pyNext it) (λr s₁ => match r with
   | none=>R (.ok .next) s₁
   | some v=>wpAny (model prog w) A (letOwnedTupleGo tg it v) (λ_ s₁'=>wpAny (model prog w) A (assign tg env v) (λ_ s₂=>
     wpAny (model prog w) A (forIn ifs true λc r=>if r=true then do let ok <- isTrue c env<|eval c env;pure (ForInStep.yield ok) else pure (ForInStep.yield r)) (λok s₃=>
      if ok=true then wpAny (model prog w) A inner (λ_ s₄=>∃ m,m < n/\I m s₄) (notedBy (model prog w) A env λe s'=>R (.error e) s') s₃
      else ∃ m,m < n/\I m s₃) (notedBy (model prog w) A env λe s'=>R (.error e) s') s₂) (notedBy (model prog w) A env λe s'=>R (.error e) s') s₁') (notedBy (model prog w) A env λe s'=>R (.error e) s') s₁) (notedBy (model prog w) A env λe s'=>R (.error e) s') s)
  (n:Nat) (h:I n s) :
  codeAny (model prog w) A (.compLoop e d it acc env) R s:=by
 refine codeAny_loop (C.quiet it) I (λn s hI=>?_) n h;rw [C.Rj,C.den];refine wpAny_noted ?_;rw [C.turn];refine BJ<|EY<|BJ<|CP (turn n s hI) (λr s₁ h₁=>?_) λ_ _ h'=>h';cases r with
 | none=>exact BK h₁
 | some v=>
  refine BJ<|CP h₁ (λ_ s₁' h₁'=>?_) λ_ _ h'=>h';refine BJ<|CP h₁' (λ_ s₂ h₂=>BJ<|CP h₂ (λok s₃ h₃=>?_) λ_ _ h'=>h') λ_ _ h'=>h';cases ok with
  | false=>exact BK ⟨rfl,h₃⟩
  | true=>exact BJ<|CP h₃ (λ_ s₄ h₄=>BK ⟨rfl,h₄⟩) λ_ _ h'=>h'
theorem Rl{e:Expr}{d:Nat}{tg iter:Expr}{ifs:List Expr}{it acc:Value}{env:Env}{inner:Sem Unit}(C:Clause e d tg iter ifs acc env inner)
  (h0:codeAny (model prog w) A (.compLoop e d it acc env) R s)
  (h:wpAny (model prog w) A (pyIter it) (λyu s'=>codeAny (model prog w) A (.compLoop e d yu acc env) R s') (notedBy (model prog w) A env λx s'=>R (.error x) s') s) :
  codeAny (model prog w) A (.compStart e d it acc env) R s:=by
 refine QL ?_;rw [C.yt,C.yr];refine wpAny_notedAt ?_;unfold compStart;rw [C.at'];show wpAny _ _ (ask >>= _) _ _ s;refine BJ<|JT<|wpAny_ite ?_
 split
 ·first
   | exact BJ<|BK<|BK<|And.intro (C.quiet _) h0
   | exact BK<|And.intro (C.quiet _) h0
 ·first
   | exact BJ<|GD<|BJ<|EY<|BJ<|CP h (λyu s' h'=>BK<|And.intro (C.quiet _) h') λ_ _ x=>x
   | (refine BJ<|GD ?_;show wpAny _ _ (standAt iter.pos >>= _) _ _ s;exact BJ<|EY<|BJ<|CP h (λyu s' h'=>BK<|And.intro (C.quiet _) h') λ_ _ x=>x)
end
structure gD(X:Cx)(m:Sem Unit)(σ:St)(H:Hp)(Q:St->Hp->Prop):Prop where
 run:∀(pins:List<|Addr×Obj) (s:Shared),Inv X pins σ H s->wpAny (model X.prog X.w) X.A m (λ_ s'=>∃ σ' H',Inv X pins σ' H' s'/\Q σ' H') X.xe s
def dU(X:Cx)(tg:Expr)(ifs:List Expr)(inner:Sem Unit)(J:It)(after:St->Hp->Prop)(σ:St)(H:Hp):Prop:=
 ∃ W:Nat->Nat->St->Hp->Prop,(∃ m,W 0 m σ H)/\∀ i m σ' H',W i m σ' H' ->
  (J.stop i H' ∧ after σ' H') ∨ (J.go i H' ∧ ∃ N : St → Hp → Prop, (∀ σ' H', N σ' H' → ∃ m', m' < m ∧ W (i + 1) m' σ' H') ∧ ∀ x H2, J.p7 i H' x H2 → Eg X tg x σ' H2 λσ2 H3 => Ei X ifs σ2 H3 λb H4 =>
   if b=true then gD X inner σ2 H4 N else N σ2 H4)
theorem qJ{X:Cx}(bq:X.xe=λ_ _=>False)(hc:X.calm=true){e:Expr}{d:Nat}{tg iter:Expr}{ifs:List Expr}{acc:Value}{inner:Sem Unit}(C:Clause e d tg iter ifs acc X.env inner){pins:List (Addr×Obj)}{σ:St}{H:Hp}{s:Shared}
  {it:Addr} {fp:List Addr} {tn:Nat->Heap->Prop} {J:It} {after:St->Hp->Prop} {R:Result->Shared->Prop} (I:Inv X pins σ H s) (T:Turn X.prog X.w X.K tg J fp it tn) (st:tn 0 s.heap) (hf:∀ b∈fp,bR X pins H b) (h:dU X tg ifs inner J after σ H)
  (hR:∀ σ' H' s',Inv X pins σ' H' s'->after σ' H'->R (.ok .next) s') :
  codeAny (model X.prog X.w) X.A (.compStart e d (.ref it) acc X.env) R s:=by
 obtain⟨W,⟨m0,w0⟩,turn⟩:=h;have stat:∀{H':Hp},(∀ b∈fp,H' b=none)->∀ b∈fp,bR X pins H' b:=λhn b hb=>⟨hn b hb,(hf b hb).2⟩;have loop:codeAny (model X.prog X.w) X.A (.compLoop e d (.ref it) acc X.env) R s:=by
  refine Rk C (λk s'=>∃ i σ' H',Inv X pins σ' H' s'/\tn i s'.heap/\(∀ b∈fp,H' b=none)/\W i k σ' H') ?_ m0 ⟨0,σ,H,I,st,λb hb=>(hf b hb).1,w0⟩;rintro k s4 ⟨i,σ4,H4,J4,Hl,Hm,w4⟩
  rcases turn i k σ4 H4 w4 with ⟨stop,qn⟩ | ⟨go,N,hN,step⟩
  ·have d1:=T.done X rfl rfl rfl hc i pins s4 σ4 H4 (λ_ _=>False) J4 (stat Hm) Hl stop;refine gB d1 λr s5 ⟨hr,I5⟩=>?_;subst hr;exact hR _ _ _ I5 qn
  ·have d1:=T.item X rfl rfl rfl hc i pins s4 σ4 H4 (λ_ _=>False) J4 (stat Hm) Hl go;refine gB d1 λr s5 ⟨u,hr,h5⟩=>?_;subst hr;refine gB h5 λ_ s6 ⟨x,H6,I6,r6,y6,yv,Rm⟩=>?_;have Rn:=I6.pinned (stat Rm)<|T.obj _ _ yv;have again:∀{σ7:St} {H7:Hp} {s7:Shared},Inv X (pins++p8 fp s6.heap) σ7 H7 s7->N σ7 H7->∃ m,m < k/\∃ i σ' H',Inv X pins σ' H' s7/\tn i s7.heap/\(∀ b∈fp,H' b=none)/\W i m σ' H':=λ{σ7 H7 s7} I7 n7=>by
    obtain⟨m',hm,w7⟩:=hN σ7 H7 n7;refine⟨m',hm,i+1,σ7,H7,I7.cm,T.keep _ _ _ yv λb hb o e=>(I7.pin (b,o)<|Az _<|Az _<|uw hb e).1,λb hb=>?_,w7⟩;obtain⟨o,e,d⟩:=T.obj _ _ yv b hb;exact(I7.pin (b,o)<|Az _<|Az _<|uw hb e).2.1
   have a1:=(step x H6 y6).run _ s6 u Rn r6;rw [bq] at a1;refine gB a1 λ_ s7 ⟨σ7,H7,I7,q7⟩=>?_;have a2:=q7.run _ s7 I7;rw [bq] at a2;refine gB a2 λok s8 ⟨H8,I8,q8⟩=>?_;cases ok with
   | false=>
    rw [BP Ao] at q8 ⊢;exact again I8 q8
   | true=>
    rw [BL rfl] at q8 ⊢;have a3:=q8.run _ s8 I8;rw [bq] at a3;exact gB a3 λ_ s9 ⟨σ9,H9,I9,q9⟩=>again I9 q9
 exact Rl C loop<|T.self _ 0 _ _ _ st loop
theorem oF{X:Cx}{e:Expr}{tg iter:Expr}{ifs:List Expr}{scope:Scope}{N':List Str}{newAcc:Sem Value}{o0:Obj}{u0:Addr->HO}{n:Nat}{inner:Value->Env->Sem Unit}{pins:List (Addr×Obj)}{σ:St}{H2:Hp}{s2:Shared}{E:Value->Shared->Prop}{RR:Value->Addr->Result->Shared->Prop}{it:Addr}{fp:List Addr}{tn:Nat->Heap->Prop}{J:It}{Q:VK}
  (iq:∀(Q:Value->Shared->Prop) (E:Value->Shared->Prop) (s:Shared),Q (.ref s.heap.objs.size) {s with heap:=s.heap.push o0}->wpAny (model X.prog X.w) X.A newAcc Q E s) (ik:∀(H:Hp) (h:Heap),sysModules < h.objs.size->az X.prog X.w H (h.push o0) h.objs.size (u0 h.objs.size))
  (hc:X.calm=true) (ck:bh X.env.scope scope X.N N') (hl:N'.length=X.N.length+n) (hC:∀ acc env,Clause e 0 tg iter ifs acc env<|inner acc env)
  (I2:Inv X pins σ H2 s2) (T:Turn X.prog X.w X.K tg J fp it tn) (bZ:tn 0 s2.heap) (f2:∀ b∈fp,bR X pins H2 b)
  (q:∀ D,H2 D=none->∀ cl C s₀ H₀ ex,dU (eW X N' scope cl C s₀ H₀ ex) tg ifs (inner (.ref D)<|compEnvC scope cl C X.env) J (λ_ H'=>Q (.ref D) H') (σ++List.replicate n none)<|upd H2 D<|u0 D)
  (yw:∀ D C H' s' m,Inv X pins σ H' s'->s'.heap.Ns C m->H' C=none->C≠X.env.locals->X.s₀.heap.objs.size<=C->(∀ x c,X.env.cells.lookup x=some c->c≠C)->(∀ p∈X.pn++pins,p.1≠C)->Q (.ref D) H'->RR (.ref D) C (.ok .next) s') :
  wpAny (model X.prog X.w) X.A newAcc (λacc s₃=>wpAny (model X.prog X.w) X.A (newFunctionEnv scope X.env.globals (b9 scope.names X.env.cells []) [] X.env.qual none .none<|some X.env) (λiu s₄=>
   codeAny (model X.prog X.w) X.A (.compStart e 0 (.ref it) acc {iu with scope:=relabel scope X.env}) (RR acc iu.locals) s₄) E s₃) E s2:=by
 refine iq _ _ _<|Ra λh₁ hns₁ old₁ hcs₁=>?_;have hD:H2 s2.heap.objs.size=none:=I2.aC.fresh<|Ag _;have q0:=q s2.heap.objs.size hD;have fl:∀ b∈fp,b < s2.heap.objs.size:=λb hb=>by
  obtain⟨o,e,_⟩:=T.obj 0 _ bZ b hb;exact Ar e
 have I3:Inv X pins σ (upd H2 s2.heap.objs.size<|u0 s2.heap.objs.size) {s2 with heap:=s2.heap.push o0}:=
  I2.laid (t':=s2.toks) (λb o e=>Ae _ e) (Ag _) (ik _ _ I2.big)
 generalize yx:({s2 with heap:=s2.heap.push o0}:Shared)=s3 at I3 hns₁ old₁ hcs₁ ⊢;have Ro:s3.heap.objs.size=s2.heap.objs.size+1:=by rw [<- yx];exact Cw ..
 have yy:∀ b o,s2.heap.get? b=some o->s3.heap.get? b=some o:=λb o e=>by rw [<- yx];exact Ae _ e
 have old:∀ b o,s3.heap.get? b=some o->h₁.get? b=some o:=old₁;have f3:∀ b∈fp,bR X pins (upd H2 s2.heap.objs.size<|u0 s2.heap.objs.size) b/\b < s3.heap.objs.size:=λb hb=>by
  refine⟨⟨?_,(f2 b hb).2⟩,by rw [Ro];exact Cb<|fl b hb⟩;rw [au<|Bp<|fl b hb];exact(f2 b hb).1
 have I4:=λ(t':Nat)=>Rc (N':=N') (scope:=scope) (n:=n) (fp:=fp) (h₁:=h₁) (t':=t') I3 ck hl hns₁ old hcs₁ f3;generalize hX:eW X N' scope (cellsFrom (s3.heap.objs.size+1) scope.names<|b9 scope.names X.env.cells []) s3.heap.objs.size s3 (upd H2 s2.heap.objs.size<|u0 s2.heap.objs.size) fp=X' at I4;have eP:X'.prog=X.prog:=by rw [<- hX];rfl
 have ew:X'.w=X.w:=by rw [<- hX];rfl
 have eK:X'.K=X.K:=by rw [<- hX];rfl
 have eA:X'.A=X.A:=by rw [<- hX];rfl
 have eE:X'.env=compEnvC scope (cellsFrom (s3.heap.objs.size+1) scope.names<|b9 scope.names X.env.cells []) s3.heap.objs.size X.env:=by rw [<- hX];rfl
 have ec:X'.calm=true:=by rw [<- hX];exact hc
 have Fx:X'.xe=λ_ _=>False:=by rw [<- hX];rfl
 have stat:∀{H':Hp},(∀ b∈fp,H' b=none)->∀ b∈fp,bR X' [] H' b:=λhn b hb=>by
  refine⟨hn b hb,?_,?_,?_,?_,?_⟩
  ·rw [eE];exact Bp (f3 b hb).2
  ·rw [<- hX];intro hf
   rcases Am.mp (I3.dE b hf) with z | z
   ·exact(f3 b hb).1.2.1 z
   ·exact(f3 b hb).1.2.2.1 z
  ·rw [<- hX];exact .inl hb
  ·rw [eE];intro x c e
   rcases Hf e with z | z
   ·exact λk=>absurd (f3 b hb).2<|Nat.not_lt.mpr<|by rw [<- k];exact Dq z.2
   ·exact(f3 b hb).1.2.2.2.2.1 x c<|ya _ _ _ (λ_ _ z=>by simp at z) x c<|CV z
  ·rw [<- hX];intro p hp;exact absurd hp<|by simp [eW]
 have fin:∀{σ':St} {H':Hp} {s':Shared},Inv X' [] σ' H' s'->Q (.ref s2.heap.objs.size) H'->RR (.ref s2.heap.objs.size) s3.heap.objs.size (.ok .next) s':=λ{σ' H' s'} I' q'=>by
  obtain⟨m',uq,_⟩:=id I'.loc;rw [eE] at uq;have Rq:s'.os=s3.os:=by have:=I'.os;rw [<- hX] at this;exact this
  have Rr:Un (df X.stack) fp (upd H2 s2.heap.objs.size<|u0 s2.heap.objs.size) H' s3.heap s'.heap:=by have:=I'.base;rw [<- hX] at this;exact this
  have aC:bQ X.prog X.w H' s'.heap:=by have:=I'.aC;rw [eP,ew] at this;exact this
  have IX:Inv X pins σ H' s':=I3.call' (ch:=fp) Rq Rr aC I'.bare λb hb=>⟨(f3 b hb).1.2.2.2.1,(f3 b hb).1.2.1,(f3 b hb).1.2.2.2.2.1,(f3 b hb).1.2.2.2.2.2⟩;have gZ:=I'.free;rw [eE] at gZ;refine yw _ _ H' s' m' IX uq gZ (Cq I3.lt) I3.sz (λx c e z=>?_) (λp hp z=>?_) q'
  ·obtain⟨v,o,ho,_⟩:=I3.cell x c e;exact absurd (Ar ho)<|by rw [z];exact Ch _
  ·exact absurd (Ar (I3.pin p hp).1)<|by rw [z];exact Ch _
 have Rt:∀ b∈fp,bR X' [] (upd H2 s2.heap.objs.size<|u0 s2.heap.objs.size) b:=stat λb hb=>(f3 b hb).1.1;have q1:dU X' tg ifs (inner (.ref s2.heap.objs.size) X'.env) J (λ_ H'=>Q (.ref s2.heap.objs.size) H') (σ++List.replicate n none) (upd H2 s2.heap.objs.size<|u0 s2.heap.objs.size):=by
  rw [eE,<- hX];exact q0 _ _ _ _ _
 have T':Turn X'.prog X'.w X'.K tg J fp it tn:=by rw [eP,ew,eK];exact T
 have fin2:=qJ (s:={s3 with heap:=h₁,toks:=s3.toks}) Fx ec (hC (.ref s2.heap.objs.size) X'.env) (I4 s3.toks) T' (T.keep 0 _ _ bZ λb _ o e=>old b o<|yy b o e) Rt q1 (R:=RR (.ref s2.heap.objs.size) s3.heap.objs.size) λσ' H' s' I' a'=>fin I' a';rw [eP,ew,eA,eE] at fin2;exact fin2
def emit(elt:Expr)(acc:Value)(env:Env):Sem Unit:=do let _ <- call (.builtin "list.append") [acc,<- eval elt env]
section
variable{X:Cx}{elt tg iter:Expr}{ifs:List Expr}{scope:Scope}{pos:Pos}{σ:St}{H:Hp}{acc:Value}{env:Env}{N':List Str}{J:It}
theorem Ru:Clause (.ListComp elt [⟨tg,iter,ifs,0⟩] scope pos) 0 tg iter ifs acc env (emit elt acc env):=⟨rfl,λ_=>rfl,λ_ _ _=>rfl,λ_ _=>rfl,λ_ _ _=>rfl,λ_ _=>rfl,λ_=>rfl⟩
theorem yz{D:Addr}{Q:St->Hp->Prop} (h:Ev X elt σ H λv H1=>∃ ys,H1 D=some (.lst ys)/\ys.length < sizeLine/\Q σ (upd H1 D<|.lst<|ys++[v])):gD X (emit elt (.ref D) X.env) σ H Q:=by
 refine⟨λpins s I=>?_⟩;unfold emit;refine BJ<|aE (h.run pins s I) λv s1 ⟨x,H1,I1,r1,ys,hy,hz,q⟩=>?_;refine BJ<|aE (Gj (X:=X) _ s1 σ H1 (.ref D) [x] (.ref D) [v] (λ_ H'=>Q σ H') I1 rfl (.cons r1 .nil) ⟨_,ys,x,rfl,rfl,hy,hz,q⟩) λ_ s2 ⟨_,H2,I2,_,q2⟩=>BK ⟨σ,H2,I2,q2⟩
theorem Eg.mono{v:V}{R R':St->Hp->Prop}(h:Eg X elt v σ H R)(f:∀ σ' H',R σ' H'->R' σ' H'):Eg X elt v σ H R':=⟨λpins s u I r=>aE (h.run pins s u I r) λ_ _ ⟨σ',H',I',q⟩=>⟨σ',H',I',f _ _ q⟩⟩
theorem Ei.mono{T T':Bool->Hp->Prop}(h:Ei X ifs σ H T)(f:∀ b H',T b H'->T' b H'):Ei X ifs σ H T':=⟨λpins s I=>aE (h.run pins s I) λ_ _ ⟨H',I',q⟩=>⟨H',I',f _ _ q⟩⟩
theorem Rv{D:Addr}{after:Hp->Prop}(h:jD X N' scope tg ifs elt J D after σ H)(cl:List<|Str×Addr)(C:Addr)(s₀:Shared)(H₀:Hp)(ex:List Addr):dU (eW X N' scope cl C s₀ H₀ ex) tg ifs (emit elt (.ref D)<|compEnvC scope cl C X.env) J (λ_ H'=>after H') σ H:=by
 obtain⟨W,w0,t⟩:=h;refine⟨W,w0,λi m σ' H' w=>(t i m σ' H' w).imp id λ⟨g,N,hN,st⟩=>⟨g,N,hN,λx H2 y=>(st x H2 y cl C s₀ H₀ ex).mono λσ2 H3 h3=>(h3 cl C s₀ H₀ ex).mono λb H4 h4=>?_⟩⟩;cases b with
 | true=>
  rw [BL rfl] at h4 ⊢;exact yz (X:=eW X N' scope cl C s₀ H₀ ex)<|h4 cl C s₀ H₀ ex
 | false=>
  rw [BP Ao] at h4 ⊢;exact h4
theorem Hn{n:Nat}{pins:List (Addr×Obj)}{H2:Hp}{s2:Shared}{E:Value->Shared->Prop}{RR:Value->Addr->Result->Shared->Prop}{it:Addr}{fp:List Addr}{tn:Nat->Heap->Prop}{Q:VK}
  (hc:X.calm=true) (ck:bh X.env.scope scope X.N N') (hl:N'.length=X.N.length+n) (I2:Inv X pins σ H2 s2) (T:Turn X.prog X.w X.K tg J fp it tn) (bZ:tn 0 s2.heap) (f2:∀ b∈fp,bR X pins H2 b)
  (q:∀ D,H2 D=none->jD X N' scope tg ifs elt J D (λH'=>Q (.ref D) H') (σ++List.replicate n none) (upd H2 D<|.lst []))
  (yw:∀ D C H' s' m,Inv X pins σ H' s'->s'.heap.Ns C m->H' C=none->C≠X.env.locals->X.s₀.heap.objs.size<=C->(∀ x c,X.env.cells.lookup x=some c->c≠C)->(∀ p∈X.pn++pins,p.1≠C)->Q (.ref D) H'->RR (.ref D) C (.ok .next) s') :
  wpAny (model X.prog X.w) X.A (newList []) (λacc s₃=>wpAny (model X.prog X.w) X.A (newFunctionEnv scope X.env.globals (b9 scope.names X.env.cells []) [] X.env.qual none .none<|some X.env) (λiu s₄=>
   codeAny (model X.prog X.w) X.A (.compStart (.ListComp elt [⟨tg,iter,ifs,0⟩] scope pos) 0 (.ref it) acc {iu with scope:=relabel scope X.env}) (RR acc iu.locals) s₄) E s₃) E s2:=
 oF (newAcc:=newList []) (o0:={cls:= .type "list",dict:=none,data:= .seq ([]:List Value).toArray}) (u0:=λ_=> .lst []) (λ_ _ _ h=>CT h<|by show(0:Nat)<=sizeLine;exact Be _) (λ_ _ _=>⟨Be _,[],0,.nil,An _ rfl⟩) hc ck hl (λ_ _=>Ru) I2 T bZ f2 (λD hD=>Rv<|q D hD) yw
end
section
variable{X:Cx}{elt tg iter c:Expr}{ifs:List Expr}{scope:Scope}{pos p:Pos}{wi:TI}{σ:St}{H:Hp}{Q:VK}{T:Bool->Hp->Prop}{rest:List Stmt}{D:Ends}
theorem d8(h:T true H):Ei X [] σ H T:=⟨λpins s I=>QP pins s σ H T I h⟩
theorem yA(h:Et X c σ H T):Ei X [c] σ H T:=⟨λpins s I=>QQ kC pins s σ H T I h⟩
theorem kL(sc:Scope)(N N':List Str)(n:Nat)(hi:PI X tg iter wi)
  (h:wi σ H λJ H1=>∀ D,H1 D=none->jD X N' scope tg ifs elt J D (λH'=>Q (.ref D) H') (σ++List.replicate n none) (upd H1 D<|.lst []))
  (hc:X.calm=true:=by rfl) (gE:X.env.scope=sc:=by rfl) (hN:X.N=N:=by rfl) (hk:jE sc scope N N'=true:=by decide +kernel) (hl:N'.length=N.length+n:=by rfl)
  (hs:∀ x,foldedSetIterable iter X.env x=pure x:=by intro _;rfl):Ev X (.ListComp elt [⟨tg,iter,ifs,0⟩] scope pos) σ H Q:=by
 refine⟨λpins s I=>?_⟩;subst gE hN;have ck:=bh.of hk;rw [eval_ListComp];refine DW (use:=none) rfl hs (mh λx hx hf=>I.ok.has x.1<|ck.free x hx hf) ck.kind ck.names (aE (hi pins s σ H _ I h) λv s1 h1=>aE h1 λgq s2 h2=>?_);obtain⟨it,fp,tn,J,H2,e,I2,T,bZ,f2,q⟩:=h2;subst e;refine Hn (RR:=λacc C=>compPost (model X.prog X.w) X.A X.xe none (EP X pins σ Q) acc C) hc ck hl I2 T bZ f2 q ?_;intro D C H' s' m IX hn hC c1 c2 c3 c4 qq;exact⟨m,hn,λh' fc=>⟨.ref D,H',IX.turned (t':=s'.toks) (λb o hb e=>fc.extBut b o hb e) hC (BX<|BX c1) (.inr c2) c3 c4,rfl,qq⟩⟩
theorem Ho(i:Nat){y:Str}{py qK:Pos}(sc:Scope)(N N':List Str)(n:Nat)(qL:X.N.Nodup)(hi:PI X tg iter wi)
  (h:wi σ H λJ H1=>∀ A,H1 A=none->jD X N' scope tg ifs elt J A (λH'=>Run X rest D (σ.set i<|some<|.ref A) H') (σ++List.replicate n none) (upd H1 A<|.lst []))
  (Rw:X.N[i]?=some y:=by rfl) (hy:Loc X.env.scope y:=by first | exact Or.inl rfl | exact Or.inr rfl)
  (Rx:swapsWith (.ListComp elt [⟨tg,iter,ifs,0⟩] scope pos) (some<|.Name y py) qK.line X.env=pure true:=by rfl)
  (hc:X.calm=true:=by rfl) (gE:X.env.scope=sc:=by rfl) (hN:X.N=N:=by rfl) (hk:jE sc scope N N'=true:=by decide +kernel) (hl:N'.length=N.length+n:=by rfl)
  (hs:∀ x,foldedSetIterable iter X.env x=pure x:=by intro _;rfl) (hf:X.fn y=true\/X.env.scope.names.lookup y=some .local:=by first | exact .inl rfl | exact .inr rfl | assumption) :
  Run X (.Assign [.Name y py] (.ListComp elt [⟨tg,iter,ifs,0⟩] scope pos) qK :: rest) D σ H:=by
 refine i8 (t:=λD' σ H=>wi σ H λJ H1=>∀ A,H1 A=none->jD X N' scope tg ifs elt J A (λH'=>D'.nx (σ.set i<|some<|.ref A) H') (σ++List.replicate n none) (upd H1 A<|.lst [])) ?_ h;intro pins s σ H D I h;subst gE hN;have ck:=bh.of hk;rw [exec_Assign_Name_used _ _ _ _ Rx];refine BJ<|EY<|BJ ?_;show wpAny _ X.A (do let _ <- comprehension (.ListComp elt [⟨tg,iter,ifs,0⟩] scope pos) scope X.env _ (newList []) false (eval iter X.env)<|some<|assign (.Name y py) X.env) _ _ s;refine BJ<|CP (DW (use:=some<|assign (.Name y py) X.env) (Q:=λ_ s'=>SP X pins D .next s') rfl hs (mh λx hx hf=>I.ok.has x.1<|ck.free x hx hf) ck.kind ck.names
  (aE (hi pins s σ H _ I h) λv s1 h1=>aE h1 λgq s2 h2=>?_)) (λ_ s' hq=>BK<|BK hq) λ_ _ e=>e
 obtain⟨it,fp,tn,J,H2,e,I2,T,bZ,f2,q⟩:=h2;subst e;refine Hn (Q:=λx H1=>D.nx (σ.set i<|some x) H1) (RR:=λacc C=>compPost (model X.prog X.w) X.A X.xe (some<|assign (.Name y py) X.env) (λ_ s'=>SP X pins D .next s') acc C) hc ck hl I2 T bZ f2 q ?_;intro D' C H' s' m IX hn hC c1 c2 c3 c4 qq;show wpAny _ X.A (assign (.Name y py) X.env<|.ref D') _ _ _;refine wpAny_assign_Name<|FC IX qL Rw hy (v:= .ref D') rfl (λqf Ry yB=>?_) hf;obtain⟨a,yB,ha⟩:=yB;have RA:C≠a:=by
  rcases ha with ha | ha
  ·rw [ha];exact c1
  ·exact BX<|c3 _ _ ha
 refine⟨m,hn.sameBut yB RA,λh' fc=>⟨_,H',Ry.turned (t':=qf.toks) (λb o hb e=>fc.extBut b o hb e) hC c1 (.inr c2) c3 c4,qq⟩⟩
end
structure aP(P:Program)(w:World)(K:PySem.W.Frag)(mg:Str->Option Value)(base:Heap)(k:Nat)(x:Str)(ps:List Str)(sp:Sp):Prop where
 ex:∃ f fd,aD P w K mg base bD k f fd ps sp/\Binds K fd ps []/\PySem.W.keepIn K (.ref f)=true/\mg x=some (.ref f)
theorem aP.mono{P:Program}{w:World}{K:PySem.W.Frag}{mg:Str->Option Value}{base:Heap}{j k:Nat}{x:Str}{ps:List Str}{sp:Sp}(h:aP P w K mg base j x ps sp)(le:j<=k):aP P w K mg base k x ps sp:=
 let ⟨f,fd,F,r⟩:=h.ex;⟨f,fd,F.mono le,r⟩
theorem bJ{X:Cx}{k:Nat}{ps:List Str}{sp:Sp}{x:Str}{e:Expr}{es:List Expr}{σ:St}{H:Hp}{Q:VK}{p pos:Pos}(G:aP X.prog X.w X.K X.mg X.base k x ps sp)(hr:bf k X.A)
  (h:Ea X (e :: es) σ H λvs H1=>sp vs H1 Q E0) (hg:Gl X x:=by rfl) (cT:(x == ("__debug__" : Str))=false:=by decide) (hs:noStar (e :: es)=true:=by rfl):Ev X (.Call (.Name x p) (e :: es) [] pos) σ H Q:=
 let ⟨_,_,F,b,kp,m⟩:=G.ex;Hd F hr m kp b Qp h hg cT hs
theorem _root_.L2.bf.dH{k:Nat}{A:Around}(hr:bf k A):A.units+100 < cLine:=by have:=hr.un;omega
theorem _root_.L2.bf.u1{k:Nat}{A:Around}(hr:bf k A):A.units+1 < cLine:=by have:=hr.un;omega
def Df(K:PySem.W.Frag)(x:Str)(st:Stmt):Prop:=∃(f:Addr) (fd:FuncData),PySem.W.nsIn K mainGlobals x=some (some<|.ref f)/\bu K x x st f fd
theorem qM{K:PySem.W.Frag}{x:Str}{st:Stmt}{f:Addr}{oc kV doc pm bn ct:Value}{od an:Option Addr}{sl:Array (Option Value)}(a:PySem.W.nsIn K mainGlobals x=some (some<|.ref f))
  (l:K.lookup f=some ⟨oc,od,.func<|PySem.W.fnOf x x (kA st) (fS st) (aV st) .none kV doc pm an bn ct,sl⟩) (c:PySem.W.codeIn K bn x=true) (k:PySem.W.keepIn K (.ref f)=true):Df K x st:=⟨f,_,a,Qq l c k⟩
structure oG where
 f:Addr
 bn:Value
 A:Around
 outer:List Env
 s:Shared
 H:Hp
 E:XK
def RC(N:List Str)(qual:Str)(scope:Scope)(P:Program)(w:World)(K:PySem.W.Frag)(mg:Str->Option Value)(base:Heap)(b:oG):Cx:=(cD bD P w K mg base N qual scope b.f b.bn b.A b.outer b.s b.H b.E).om
def En(Q:VK):Ends:={nx:=λ_ H'=>Q .non H',rt:=Q}
theorem bu.gb{P:Program}{w:World}{K:PySem.W.Frag}{mg:Str->Option Value}{base:Heap}{x qual:Str}{st:Stmt}{f:Addr}{fd:FuncData}{N ps:List Str}{k:Nat}{sp:Sp}(F:bu K x qual st f fd)(S:ao N ps<|aV st)(len:∀ vs H Q E,sp vs H Q E->vs.length=ps.length)
  (cq:∀(b:oG) (H:Hp) (vs:List V) (Q:VK) (E:XK),bf k (b.A.deeper<|envOfC qual (aV st) b.s.heap.objs.size b.f b.bn)->sp vs H Q E->Run (RC N qual (aV st) P w K mg base b) (fS st) (En Q) (start N vs) H):aD P w K mg base bD (k+1) f fd ps sp:=
 F.go S len λbn A outer s H vs Q E hr cY=>cq ⟨f,bn,A,outer,s,H,E⟩ H vs Q E hr cY
theorem ja{us:List Value}{k:Nat}(h:us.length=k+1):∃ a r,us=a :: r/\r.length=k:=by
 cases us with
 | nil=>cases h
 | cons a r=>exact⟨a,r,rfl,Nat.succ.inj h⟩
theorem g5{fd:FuncData}{ps:List Str}(f:∀ a:Value,bindArgs fd ⟨[a],[]⟩=pure (ps.zip [a])):∀ us:List Value,us.length=1->bindArgs fd ⟨us,[]⟩=pure (ps.zip us):=λus h=>by
 obtain⟨a,r0,e0,h0⟩:=ja h;have z:=Bf.mp h0;subst z e0;exact f a
theorem iw{fd:FuncData}{ps:List Str}(f:∀ a b:Value,bindArgs fd ⟨[a,b],[]⟩=pure (ps.zip [a,b])):∀ us:List Value,us.length=2->bindArgs fd ⟨us,[]⟩=pure (ps.zip us):=λus h=>by
 obtain⟨a,r0,e0,h0⟩:=ja h;obtain⟨b,r1,e1,h1⟩:=ja h0;have z:=Bf.mp h1;subst z e1 e0;exact f a b
theorem uR{fd:FuncData}{ps:List Str}(f:∀ a b c:Value,bindArgs fd ⟨[a,b,c],[]⟩=pure (ps.zip [a,b,c])):∀ us:List Value,us.length=3->bindArgs fd ⟨us,[]⟩=pure (ps.zip us):=λus h=>by
 obtain⟨a,r0,e0,h0⟩:=ja h;obtain⟨b,r1,e1,h1⟩:=ja h0;obtain⟨c,r2,e2,h2⟩:=ja h1;have z:=Bf.mp h2;subst z e2 e1 e0;exact f a b c
theorem Hq{fd:FuncData}{ps:List Str}(f:∀ a b c d:Value,bindArgs fd ⟨[a,b,c,d],[]⟩=pure (ps.zip [a,b,c,d])):∀ us:List Value,us.length=4->bindArgs fd ⟨us,[]⟩=pure (ps.zip us):=λus h=>by
 obtain⟨a,r0,e0,h0⟩:=ja h;obtain⟨b,r1,e1,h1⟩:=ja h0;obtain⟨c,r2,e2,h2⟩:=ja h1;obtain⟨d,r3,e3,h3⟩:=ja h2;have z:=Bf.mp h3;subst z e3 e2 e1 e0;exact f a b c d
theorem Df.has{P:Program}{w:World}{K:PySem.W.Frag}{mg:Str->Option Value}{h base:Heap}{k:Nat}{x:Str}{st:Stmt}{ps:List Str}{sp:Sp}(d:Df K x st)(X:K.In h)(G:h.Ns mainGlobals mg)
  (hb:∀(kV doc pm:Value) (an:Option Addr) (bn ct:Value) (us:List Value),us.length=ps.length->bindArgs (PySem.W.fnOf x x (kA st) (fS st) (aV st) .none kV doc pm an bn ct) ⟨us,[]⟩=pure (ps.zip us))
  (ok:∀{f:Addr} {fd:FuncData},bu K x x st f fd->aD P w K mg base bD k f fd ps sp):aP P w K mg base k x ps sp:=
 let ⟨f,fd,a,F⟩:=d;⟨f,fd,ok F,F.binds hb,F.kp,JN X G a⟩
theorem Df.law{P:Program}{w:World}{K:PySem.W.Frag}{mg:Str->Option Value}{h:Heap}{k:Nat}{x y:Str}{st:Stmt}{sp:Sp}{fa:Addr}(d:Df K x st)(X:K.In h)(G:h.Ns mainGlobals mg)(yC:mg x=some (.ref fa))
  (hb:∀(kV doc pm:Value) (an:Option Addr) (bn ct:Value) (s:Shared) (v:Value),BindsTo s (PySem.W.fnOf x x (kA st) (fS st) (aV st) .none kV doc pm an bn ct) ⟨[v],[]⟩ [(y,v)])
  (ok:∀(base:Heap) {f:Addr} {fd:FuncData},bu K x x st f fd->aD P w K mg base bD k f fd [y] sp) :
  ∃ fd:FuncData,(∀(s:Shared) (v:Value),BindsTo s fd ⟨[v],[]⟩ [(y,v)])/\∀ base:Heap,K.In base->base.Ns mainGlobals mg->aD P w K mg base bD k fa fd [y] sp:=by
 obtain⟨f,fd,a,F⟩:=d;have e:=yC.symm.trans<|JN X G a;cases e;obtain⟨oc,od,kV,doc,pm,an,bn,ct,i5,rfl,lk,fM⟩:=id F.ex;exact⟨_,hb kV doc pm an bn ct,λbase _ _=>ok base F⟩
end L2
namespace bT
open PySem
def oH(m i:Nat):Nat:=(i * 5+1) % m
def d9(m:Nat):Nat->Nat->List Nat
 | 0,_=>[]
 | n+1,i=>i :: d9 m n (oH m i)
def jI(m:Nat):Nat->Nat->Nat
 | 0,i=>i
 | n+1,i=>jI m n<|oH m i
theorem uS(m:Nat):∀ a b i,jI m (a+b) i=jI m b (jI m a i)
 | 0,b,i=>by rw [Cr];rfl
 | a+1,b,i=>by
  rw [show a+1+b=(a+b)+1 by omega];exact uS m a b<|oH m i
theorem yD(m:Nat):∀ n t i,t < n->jI m t i∈d9 m n i
 | 0,_,_,h=>by omega
 | n+1,0,i,_=>As
 | n+1,t+1,i,h=>Ak _<|yD m n t (oH m i)<|by omega
theorem yE(m:Nat):∀ n i j,j∈d9 m n i->∃ t,t < n/\jI m t i=j
 | 0,_,_,h=>by cases h
 | n+1,i,j,h=>by
  rcases Am.mp h with rfl | h
  ·exact⟨0,Dr _,rfl⟩
  ·obtain⟨t,ht,e⟩:=yE m n (oH m i) j h;exact⟨t+1,Nat.succ_lt_succ ht,e⟩
def covers(m:Nat):Bool:=jI m m 0 == 0 && (List.range m).all λj=>(d9 m m 0).contains j
theorem RE:covers 8=true:=by decide +kernel
theorem RF:covers 16=true:=by decide +kernel
theorem RH:covers 32=true:=by decide +kernel
theorem RO:covers 64=true:=by decide +kernel
theorem RU:covers 128=true:=by decide +kernel
theorem RY:covers 512=true:=by decide +kernel
def Pow(m:Nat):Prop:=m=8\/m=16\/m=32\/m=64\/m=128\/m=512
theorem Pow.covers{m:Nat}(h:Pow m):bT.covers m=true:=by
 rcases h with rfl | rfl | rfl | rfl | rfl | rfl
 ·exact RE
 ·exact RF
 ·exact RH
 ·exact RO
 ·exact RU
 ·exact RY
theorem Pow.pos{m:Nat}(h:Pow m):8<=m/\m<=512:=by rcases h with rfl | rfl | rfl | rfl | rfl | rfl <;> decide
theorem Pow.mem{m i j:Nat}(h:Pow m)(hi:i < m)(hj:j < m):j∈d9 m m i:=by
 have q:=h.covers;unfold bT.covers at q;rw [Br,Dy,OJ] at q;obtain⟨z,q⟩:=q;obtain⟨a,ha,ea⟩:=yE m m 0 i<|Fe.mp<|q i<|Bc.mpr hi;obtain⟨b,hb,eb⟩:=yE m m 0 j<|Fe.mp<|q j<|Bc.mpr hj
 rcases Cc b a with c | c
 ·have e:jI m (b+m - a) i=j:=by
   rw [<- ea,<- uS,show a+(b+m - a)=m+b by omega,uS,z,eb]
  rw [<- e];exact yD m m _ i<|by omega
 ·have e:jI m (b - a) i=j:=by
   rw [<- ea,<- uS,show a+(b - a)=b by omega,eb]
  rw [<- e];exact yD m m _ i<|by omega
def mz(mask:Nat):Nat->Nat->Nat->List Nat
 | 0,_,_=>[]
 | n+1,i,p=>i :: mz mask n (SetTable.leap mask i p).1 (SetTable.leap mask i p).2
theorem Hr(mask:Nat):∀ n i,mz mask n i 0=d9 (mask+1) n i
 | 0,_=>rfl
 | n+1,i=>by
  show i :: mz mask n ((i * 5+1+0 / 32) % (mask+1)) (0 / 32)=i :: d9 (mask+1) n (oH (mask+1) i);rw [show(0 / 32:Nat)=0 by decide,RZ,Hr mask n];rfl
theorem Hs{mask i p:Nat}:(SetTable.leap mask i p).1 < mask+1:=Db _<|Dr _
theorem Ht{mask:Nat}:∀(t n i p:Nat),i < mask+1->p < 32 ^ t->∃ i',i' < mask+1/\∀ j∈d9 (mask+1) n i',j∈mz mask (t+n) i p
 | 0,n,i,p,hi,hp=>by
  have e:p=0:=by simpa using hp
  subst e;refine⟨i,hi,λj hj=>?_⟩;rw [Cr,Hr];exact hj
 | t+1,n,i,p,hi,hp=>by
  have h2:p / 32 < 32 ^ t:=by
   rw [Nat.div_lt_iff_lt_mul<|by decide];rw [Nat.pow_succ] at hp;exact hp
  obtain⟨i',h',q⟩:=Ht t n (SetTable.leap mask i p).1 (p / 32) Hs h2;refine⟨i',h',λj hj=>?_⟩;rw [show t+1+n=(t+n)+1 by omega];exact Ak _<|q j hj
theorem Hu{mask i p j:Nat}(hm:Pow<|mask+1)(hi:i < mask+1)(hp:p < 2 ^ 64)(hj:j < mask+1):j∈mz mask (mask+15) i p:=by
 obtain⟨i',h',q⟩:=Ht (mask:=mask) 14 (mask+1) i p hi (Bk hp<|by decide);have:=q j<|hm.mem h' hj;rwa [show 14+(mask+1)=mask+15 by omega] at this
abbrev dj:=Array<|Option Nat
def nil?(owner:dj)(j:Nat):Bool:=(owner.getD j<|some 0).isNone
theorem yF(mask i:Nat):i<=SetTable.runEnd mask i:=by unfold SetTable.runEnd;split <;> omega
theorem Hv{mask:Nat}{owner:dj}:∀{fuel i p:Nat},SetTable.layClean.free mask owner fuel i p=none->∀ j∈mz mask fuel i p,nil? owner j=false
 | 0,_,_,_,j,hj=>by cases hj
 | fuel+1,i,p,h,j,hj=>by
  unfold SetTable.layClean.free at h
  split at h
  ·cases h
  ·rename_i hf
   rcases Am.mp hj with rfl | hj
   ·have:=List.find?_eq_none.mp hf 0 (Bc.mpr<|by have:=yF mask j;omega);rw [RZ] at this;exact Ds.mpr this
   ·exact Hv (fuel:=fuel) h j hj
theorem Hw{mask:Nat}{owner:dj}:∀{fuel i p j:Nat},SetTable.layClean.free mask owner fuel i p=some j->nil? owner j=true
 | 0,_,_,_,h=>by cases h
 | fuel+1,i,p,j,h=>by
  unfold SetTable.layClean.free at h
  split at h
  ·rename_i k hf;cases h;have:=List.find?_some hf;exact this
  ·exact Hw (fuel:=fuel) h
theorem nil?_iff{owner:dj}{j:Nat}:nil? owner j=true↔owner[j]?=some none:=by
 unfold nil?;rw [Dl];cases h:owner[j]? with
 | none=>simp
 | some v=>cases v <;> simp
structure Lies(m:Nat)(owner:dj)(k:Nat):Prop where
 size:owner.size=m
 lt:∀(j v:Nat),owner[j]?=some (some v)->v < k
 has:∀ v:Nat,v < k->∃ j:Nat,owner[j]?=some (some v)
 inj:∀(i j v:Nat),owner[i]?=some (some v)->owner[j]?=some (some v)->i=j
theorem Lies.start(m:Nat):Lies m (Array.replicate m none) 0 where
 size:=by simp
 lt:=λj v h=>by
  rw [Ex] at h
  split at h <;> cases h
 has:=λv h=>by omega
 inj:=λi j v h=>by
  rw [Ex] at h
  split at h <;> cases h
theorem Lies.put{m k j:Nat}{owner:dj}(L:Lies m owner k)(hj:owner[j]?=some none):Lies m (owner.setIfInBounds j<|some k) (k+1):=by
 have aK:j < owner.size:=by
  rcases Cc j owner.size with h | h
  ·exact h
  ·rw [Cn h] at hj;cases hj
 have at':∀ i:Nat,(owner.setIfInBounds j<|some k)[i]?=if j=i then some (some k) else owner[i]?:=by
  intro i;rw [Ef]
  split
  ·rename_i e;subst e;first | rfl | rw [BL aK]
  ·rfl
 refine⟨by rw [Array.size_setIfInBounds];exact L.size,λi v h=>?_,λv h=>?_,λa b v ha hb=>?_⟩
 ·rw [at'] at h
  split at h
  ·cases h;exact El _
  ·exact Cb<|L.lt i v h
 ·rcases Nat.lt_succ_iff_lt_or_eq.mp h with h | rfl
  ·obtain⟨i,hi⟩:=L.has v h;refine⟨i,?_⟩;rw [at',BP λe=>by subst e;rw [hj] at hi;cases hi];exact hi
  ·exact⟨j,by rw [at',BL rfl]⟩
 ·rw [at'] at ha hb
  split at ha
  ·rename_i e;cases ha
   split at hb
   ·rename_i e2;exact e.symm.trans e2
   ·have:=L.lt b k hb;omega
  ·split at hb
   ·cases hb;have:=L.lt a k ha;omega
   ·exact L.inj a b v ha hb
def live(m:Nat)(owner:dj):List (Nat×Nat):=(List.range m).filterMap λj=>(owner.getD j none).map (j,·)
theorem getD_some{owner:dj}{j v:Nat}:owner.getD j none=some v↔owner[j]?=some (some v):=by
 rw [Dl];cases h:owner[j]? with
 | none=>simp
 | some x=>simp
theorem cv{m:Nat}{owner:dj}{p:Nat×Nat}:p∈live m owner↔p.1 < m/\owner[p.1]?=some (some p.2):=by
 unfold live;rw [Fc]
 constructor
 ·rintro ⟨j,hj,e⟩;cases hv:owner.getD j none with
  | none=>rw [hv] at e;cases e
  | some v=>
   rw [hv] at e;cases e;exact⟨Bc.mp hj,getD_some.mp hv⟩
 ·rintro ⟨h1,h2⟩;exact⟨p.1,Bc.mpr h1,by rw [getD_some.mpr h2];rfl⟩
theorem Lies.nodup{m k:Nat}{owner:dj}(L:Lies m owner k):((live m owner).map (·.2)).Nodup:=by
 have q:∀ l:List Nat,l.Nodup->((l.filterMap λj=>(owner.getD j none).map (j,·)).map (·.2)).Nodup:=by
  intro l
  induction l with
  | nil=>intro _;exact Bw
  | cons a r ih=>
   intro hn;rw [Bs] at hn;rw [Cy];cases hv:owner.getD a none with
   | none=>exact ih hn.2
   | some v=>
    show(v :: (r.filterMap λj=>(owner.getD j none).map (j,·)).map (·.2)).Nodup;rw [Bs];refine⟨λh=>?_,ih hn.2⟩;obtain⟨p,hp,e⟩:=Aj.mp h;obtain⟨j,hj,e2⟩:=Fc.mp hp;cases hw:owner.getD j none with
    | none=>rw [hw] at e2;cases e2
    | some u=>
     rw [hw] at e2;cases e2;have e3:u=v:=e;subst e3;have:=L.inj a j u (getD_some.mp hv)<|getD_some.mp hw;subst this;exact hn.1 hj
 exact q _ Dz
theorem Lies.perm{m k:Nat}{owner:dj}(L:Lies m owner k):((live m owner).map (·.2)).Perm (List.range k):=by
 rw [List.perm_ext_iff_of_nodup L.nodup Dz];intro v;rw [Bc,Aj]
 constructor
 ·rintro ⟨p,hp,rfl⟩;exact L.lt _ _ (cv.mp hp).2
 ·intro h;obtain⟨j,hj⟩:=L.has v h;have aK:j < m:=by
   rw [<- L.size]
   rcases Cc j owner.size with h | h
   ·exact h
   ·rw [Cn h] at hj;cases hj
  exact⟨(j,v),cv.mpr ⟨aK,hj⟩,rfl⟩
theorem Lies.length{m k:Nat}{owner:dj}(L:Lies m owner k):(live m owner).length=k:=by
 have:=L.perm.length_eq;rwa [Aa,Cj] at this
theorem Lies.room{m k:Nat}{owner:dj}(L:Lies m owner k)(h:k < m):∃ j,j < m/\nil? owner j=true:=by
 refine DK λhn=>?_;have all:∀ j,j < m->∃ v,owner.getD j none=some v:=by
  intro j hj;have hs:j < owner.size:=by rw [L.size];exact hj
  cases hv:owner[j] with
  | none=>exact absurd ⟨j,hj,nil?_iff.mpr<|by rw [Bq hs,hv]⟩ hn
  | some v=>exact⟨v,getD_some.mpr<|by rw [Bq hs,hv]⟩
 have len:∀ l:List Nat,(∀ j∈l,j < m)->(l.filterMap λj=>(owner.getD j none).map (j,·)).length=l.length:=by
  intro l
  induction l with
  | nil=>intro _;rfl
  | cons a r ih=>
   intro hl;obtain⟨v,hv⟩:=all a<|hl a As;rw [Cy,hv];show(_ :: _).length=_;rw [Bj,Bj,ih λj hj=>hl j<|Ak _ hj]
 have e:=len (List.range m) λj hj=>Bc.mp hj;have e2:=L.length;unfold live at e2;rw [e,Cj] at e2;omega
theorem Hx(h:Int):SetTable.bits h < 2 ^ 64:=by
 unfold SetTable.bits;have h1:0<=h % (2 ^ 64:Int):=Bn _ (by decide);have h2:h % (2 ^ 64:Int) < 2 ^ 64:=Bu _ (by decide);omega
theorem Lies.free{mask k:Nat}{owner:dj}(L:Lies (mask+1) owner k)(hm:Pow<|mask+1)(h:k < mask+1)(x:Int) :
  ∃ j,SetTable.layClean.free mask owner (SetTable.turns mask) (SetTable.bits x % (mask+1)) (SetTable.bits x)=some j/\owner[j]?=some none:=by
 cases e:SetTable.layClean.free mask owner (SetTable.turns mask) (SetTable.bits x % (mask+1)) (SetTable.bits x) with
 | some j=>exact⟨j,rfl,nil?_iff.mp<|Hw e⟩
 | none=>
  obtain⟨j,hj,q⟩:=L.room h;have:=Hv e j<|Hu hm (Db _<|Dr _) (Hx x) hj;rw [q] at this;cases this
def uT(mask:Nat)(acc:Option<|dj×Nat)(h:Int):Option (dj×Nat):=do
 let (owner,k) <- acc
 let j <- SetTable.layClean.free mask owner (SetTable.turns mask) (SetTable.bits h % (mask+1))<|SetTable.bits h
 pure (owner.setIfInBounds j<|some k,k+1)
def dk(w:World):Bool:=w.params.followText "set-order"
def keyOf(e:Int×Value):Str:=match e.2 with
 | .str x _=>x
 | _=>⟨#[]⟩
section
variable(prog:Program)(w:World)
def yG(e:Int×Value):Prop:=∃ z t,e=((strKind prog w).hash z,Value.str z t)
structure Tab(es:Array<|Int×Value)(t:SetTable)(zs:List Str):Prop where
 elts:∀ e∈es.toList,yG prog w e
 keys:(es.toList.map keyOf).Perm zs
 nodup:zs.Nodup
 few:zs.length < 1000
 fits:t.fits es.size=true
 led:t.led = !dk w
 plain:es=#[]\/t.plain=false
def a8(h:Heap)(a:Addr)(zs:List Str):Prop:=∃ o es ep t,h.get? a=some o/\o.ExactSet/\o.data = .set es ep t/\Tab prog w es t zs
end
section
variable{prog:Program}{w:World}{es:Array (Int×Value)}{t:SetTable}{zs:List Str}{h h':Heap}{a:Addr}
theorem Tab.elems(T:Tab prog w es t zs):ElemsOf (strKind prog w) es.toList:=λe he=>by
 obtain⟨z,u,rfl⟩:=T.elts e he;exact⟨⟨z,PB _ _ _ _,rfl⟩,rfl⟩
theorem Tab.size(T:Tab prog w es t zs):es.size=zs.length:=by
 have:=T.keys.length_eq;rw [Aa,Co] at this;exact this
theorem Tab.ix(T:Tab prog w es t zs):es.size < 1000:=by rw [T.size];exact T.few
theorem Tab.scan(T:Tab prog w es t zs):es.size < scanBound:=by have:=T.ix;unfold scanBound;omega
theorem Tab.perm{cH:Array (Int×Value)}{t':SetTable}(T:Tab prog w es t zs)(p:cH.toList.Perm es.toList)(hf:t'.fits cH.size=true)(hl:t'.led=t.led)(hp:cH=#[]\/t'.plain=false):Tab prog w cH t' zs:=
 ⟨λe he=>T.elts e<|p.mem_iff.mp he,(p.map keyOf).trans T.keys,T.nodup,T.few,hf,hl.trans T.led,hp⟩
theorem a8.keep(S:a8 prog w h a zs)(k:∀ o,h.get? a=some o->h'.get? a=some o):a8 prog w h' a zs:=let ⟨o,es,ep,t,h1,h2⟩:=S;⟨o,es,ep,t,k o h1,h2⟩
theorem a8.typeIs{s:Shared}(S:a8 prog w s.heap a zs):s.TypeIs (.ref a) "set":=let ⟨o,_,_,_,h1,h2,_⟩:=S;⟨o,h1,h2.1⟩
theorem Hy{o:Obj}{ep:Nat}{cH:Array (Int×Value)}{t':SetTable}{fT:List Str}(ho:h.get? a=some o)(hx:o.ExactSet)(hd:o.data = .set es ep t)(T':Tab prog w cH t' fT) :
  (h.update a<|Obj.putSet cH t').get? a=some {o with data:= .set cH (ep+1) t'}/\a8 prog w (h.update a<|Obj.putSet cH t') a fT:=by
 have q:=Cf (Obj.putSet cH t') ho (by rw [putSet_of cH t' hd];rfl);rw [putSet_of cH t' hd] at q;exact⟨q,_,cH,ep+1,t',q,hx,rfl,T'⟩
theorem yH{e:Int×Value}(he:yG prog w e)(z:Str):(strKind prog w).is z e.2=decide (z=keyOf e):=by
 obtain⟨y,u,rfl⟩:=he;exact KeyKind.is_eq_decide (PB prog w y u) z
theorem find_none(T:Tab prog w es t zs){z:Str}(hz:z∉zs):es.toList.findIdx? (λe=>(strKind prog w).is z e.2)=none:=by
 rw [List.findIdx?_eq_none_iff];intro e he;rw [yH<|T.elts e he,JF];rintro rfl;exact hz<|T.keys.mem_iff.mp<|List.mem_map_of_mem he
theorem find_some(T:Tab prog w es t zs){z:Str}(hz:z∈zs):∃ j,∃ hj:j < es.toList.length,es.toList.findIdx? (λe=>(strKind prog w).is z e.2)=some j/\keyOf es.toList[j]=z:=by
 obtain⟨e,he,e2⟩:=Aj.mp<|T.keys.mem_iff.mpr hz;cases q:es.toList.findIdx? (λe=>(strKind prog w).is z e.2) with
 | none=>
  have:=List.findIdx?_eq_none_iff.mp q e he;rw [yH<|T.elts e he,JF] at this;exact absurd e2.symm this
 | some j=>
  obtain⟨hj,p,_⟩:=List.findIdx?_eq_some_iff_getElem.mp q;rw [yH<|T.elts _<|Cu hj,DN] at p;exact⟨j,hj,rfl,p.symm⟩
theorem R0(t:SetTable)(n:Nat):(t.orStandIn n).led=t.led/\((t.orStandIn n).plain=true->t.plain=true):=by
 unfold SetTable.orStandIn
 split
 ·exact⟨rfl,id⟩
 ·exact⟨rfl,λh=>by cases h⟩
theorem R1(t:SetTable)(es:Array<|Int×Value)(x:Int)(v:Value):(layNew t es x v).2.1.led=t.led:=by
 unfold layNew
 split
 ·exact(R0 _ _).1
 ·rfl
theorem R3{mask f m:Nat}{l p:Bool}{hs:Array Int}{t':SetTable}{o:Array Nat}(e:SetTable.laid mask f m l p hs=some (t',o)):t'.led=l/\t'.plain=p:=by
 unfold SetTable.laid at e;cases c:SetTable.layClean mask hs with
 | none=>rw [c] at e;cases e
 | some ow=>rw [c] at e;cases e;exact⟨rfl,rfl⟩
theorem Hz(t:SetTable)(es:Array<|Int×Value)(n:Nat)(hp:t.plain=false):(relayAll t es n).2.1.led=t.led/\(relayAll t es n).2.1.plain=false:=by
 unfold relayAll
 split
 ·rename_i t' o e;have q:=R3 e
  dsimp only
  split
  ·exact⟨q.1,q.2.trans hp⟩
  ·exact⟨rfl,rfl⟩
 ·exact⟨rfl,rfl⟩
end
section
variable{prog:Program}{w:World}{A:Around}{E:Value->Shared->Prop}{s:Shared}{a:Addr}{zs:List Str}
theorem kN{n:Nat}(h:n < 1001):n<=sizeLine:=by rw [FN];omega
theorem HE{g:Bool->Sem Unit}(hg:∀(b:Bool) (s₁:Shared) (Q':Unit->Shared->Prop),Q' () s₁->wpAny (model prog w) A (g b) Q' E s₁)
  {o:Obj} {es:Array (Int×Value)} {ep:Nat} {t:SetTable} (ho:s.heap.get? a=some o) (hx:o.ExactSet) (hd:o.data = .set es ep t)
  {cw:Array (Int×Value)} {t2:SetTable} (T:Tab prog w cw t2 zs) (hp:t2.plain=false) {c:Bool} {R:Option Bool->Shared->Prop}
  (k:∀ h',Heap.SameBut a s.heap h'->a8 prog w h' a zs->R (some true) {s with heap:=h'}) :
  wpAny (model prog w) A (do
   storeSet a cw t2
   if c=true then do
     g (relayAll t2 cw<|SetTable.grown cw.size).2.2
     storeSet a (relayAll t2 cw<|SetTable.grown cw.size).1 (relayAll t2 cw<|SetTable.grown cw.size).2.1
     pure (some true)
    else pure (some true)) R E s:=by
 refine BJ<|JG ho hd ?_<|kN<|Cb T.ix;obtain⟨q1,q2⟩:=Hy ho hx hd T;have sb:=CW s.heap a<|Obj.putSet cw t2;cases c with
 | false=>exact BK<|k _ sb q2
 | true=>
  have p:=relayAll_perm t2 cw<|SetTable.grown cw.size;have T3:=T.perm p (relayAll_fits t2 cw<|SetTable.grown cw.size) (Hz t2 cw _ hp).1<|.inr (Hz t2 cw _ hp).2;refine BJ<|hg _ _ _ ?_;refine BJ<|JG q1 rfl ?_ (kN<|Cb T3.ix);exact BK<|k _ (sb.trans<|CW _ a _) (Hy q1 hx rfl T3).2
def added(zs:List Str)(z:Str):List Str:=if z∈zs then zs else zs++[z]
theorem R5{z:Str}{tk:Tok}{Q:Bool->Shared->Prop}(S:a8 prog w s.heap a zs)(hb:zs.length+1 < 1000)
  (k:∀(b:Bool) h',Heap.SameBut a s.heap h'->a8 prog w h' a (added zs z)->Q b {s with heap:=h'}) :
  wpAny (model prog w) A (setAddHashed a (.str z tk)<|(strKind prog w).hash z) Q E s:=by
 obtain⟨o,es,ep,t,ho,hx,hd,T⟩:=S;unfold setAddHashed setAddHashedIn;refine CJ<|BJ<|CK ho hd T.fits ?_
 dsimp only
 rw [byScan_of (knd:=strKind prog w) (x:= .str z tk) rfl T.scan T.elems];simp only [↓reduceIte];unfold setAddByScan;refine BJ<|BJ<|GD<|BJ<|wpAny_setScan_of (knd:=strKind prog w) (k:=z) (PB _ _ _ _) ho hd T.fits T.elems ?_
 by_cases hz:z∈zs
 ·obtain⟨j,hj,e,_⟩:=find_some T hz;rw [e]
  dsimp only
  refine BK<|BK<|k false s.heap (Heap.SameBut.refl a s.heap) ?_;unfold added;rw [BL hz];exact⟨o,es,ep,t,ho,hx,hd,T⟩
 ·rw [find_none T hz]
  dsimp only
  have gw:∀(b:Bool) (s₁:Shared) (Q':Unit->Shared->Prop),Q' () s₁->wpAny (model prog w) A (match b with | true=>rule "set.scan.the-table-gave-way" | false=>pure ()) Q' E s₁:=
   λb s₁ Q' q=>by cases b <;> first | exact BK q | exact GD q
  have p:=layNew_perm t es ((strKind prog w).hash z)<|.str z tk;have f:=layNew_fits t es ((strKind prog w).hash z)<|.str z tk;have l:=R1 t es ((strKind prog w).hash z)<|.str z tk;generalize layNew t es ((strKind prog w).hash z) (.str z tk)=L at p f l ⊢;obtain⟨cw,t1,wd,gv⟩:=L
  dsimp only at p f l ⊢
  rw [Array.toList_push] at p;have tab:∀ t2:SetTable,t2.fits cw.size=true->t2.led=t1.led->t2.plain=false->Tab prog w cw t2 (zs++[z]):=λt2 h1 h2 h3=>{
   elts:=λe he=>by
    rcases Aq.mp (p.mem_iff.mp he) with he | he
    ·exact T.elts e he
    ·exact⟨z,tk,Ah.mp he⟩
   keys:=by
    refine(p.map keyOf).trans ?_;rw [Ai];exact T.keys.append<|List.Perm.refl _
   nodup:=by
    rw [Cp];refine⟨T.nodup,by simp,λx hx y hy e=>?_⟩;rw [Ah] at hy;subst hy e;exact hz hx
   few:=by rw [Af];exact hb
   fits:=h1
   led:=h2.trans<|l.trans T.led
   plain:= .inr h3}
  have fin:∀ h',Heap.SameBut a s.heap h'->a8 prog w h' a (zs++[z])->Q true {s with heap:=h'}:=λh' q1 q2=>k true h' q1 (by unfold added;rw [BP hz];exact q2);refine BJ<|gw _ _ _ ?_
  split
  ·rename_i hp;refine BJ ?_;rw [hashByValue_scannable 8 rfl];refine BK ?_;refine HE gw ho hx hd (tab {t1 with plain:=false} (SetTable.fits_plain_off f) rfl rfl) rfl λh' q1 q2=>?_
   dsimp only
   exact BK<|fin h' q1 q2
  ·rename_i hp;refine BJ<|BK ?_;simp only [↓reduceIte];refine HE gw ho hx hd (tab t1 f rfl (Ds.mpr hp)) (Ds.mpr hp) λh' q1 q2=>?_
   dsimp only
   exact BK<|fin h' q1 q2
theorem R9{z:Str}{tk:Tok}{Q:Option Nat->Shared->Prop}{o:Obj}{es:Array (Int×Value)}{ep:Nat}{t:SetTable}(ho:s.heap.get? a=some o)(hd:o.data = .set es ep t)(T:Tab prog w es t zs)
  (k0:z∉zs->Q none s) (k1:∀ j,(hj:j < es.toList.length)->keyOf es.toList[j]=z->Q (some j) s):wpAny (model prog w) A (setFind a (.str z tk)<|(strKind prog w).hash z) Q E s:=by
 unfold setFind setFindIn;refine BJ<|CK ho hd T.fits ?_
 dsimp only
 rw [byScan_of (knd:=strKind prog w) (x:= .str z tk) rfl T.scan T.elems];simp only [↓reduceIte];refine BJ<|GD<|BJ<|wpAny_setScan_of (knd:=strKind prog w) (k:=z) (PB _ _ _ _) ho hd T.fits T.elems ?_
 by_cases hz:z∈zs
 ·obtain⟨j,hj,e,q⟩:=find_some T hz;rw [e]
  dsimp only
  rw [Cr];exact BK<|k1 j hj q
 ·rw [find_none T hz];exact BK<|k0 hz
theorem b4{α:Type}:∀(l:List α) (j:Nat) (hj:j < l.length),(l[j] :: l.eraseIdx j).Perm l
 | [],_,h=>by simp at h
 | x :: r,0,_=>List.Perm.refl _
 | x :: r,j+1,h=>(List.Perm.swap x _ _).trans<|(b4 r j<|Nat.lt_of_succ_lt_succ h).cons x
theorem HG{α:Type}(next:Nat->Nat):∀(fuel k:Nat) (left:List α) (out:Array α),left.length<=fuel->(pickOrder.go next fuel k left out).toList.Perm (out.toList++left)
 | 0,k,left,out,h=>by
  have:left=[]:=Bf.mp (by omega);subst this;unfold pickOrder.go;simp
 | fuel+1,k,left,out,h=>by
  unfold pickOrder.go;cases e:left[next k % left.length]? with
  | none=>
   have:left=[]:=by
    cases left with
    | nil=>rfl
    | cons x r=>
     have hl:next k % (x :: r).length < (x :: r).length:=Db _ (by simp);rw [Ab hl] at e;cases e
   subst this;simp
  | some x=>
   dsimp only
   obtain⟨hl,e2⟩:=Ac.mp e;refine(HG next fuel (k+1) _ _ (by rw [Dt,BL hl];omega)).trans ?_;rw [Array.toList_push,Aw];refine List.Perm.append_left _ ?_;have:=b4 left _ hl;rw [e2] at this;exact this
theorem Sb{α:Type}(next:Nat->Nat)(xs:Array α):(pickOrder next xs).toList.Perm xs.toList:=by
 have:=HG next xs.size 0 xs.toList #[] (by simp)
 simpa [pickOrder] using this
theorem wp_choose{src:Source}{n:Nat}{Q:Nat->Shared->Prop}(hn:n≠0)(h:∀ i d,i < n->Q i {s with drawn:=d}):wpAny (model prog w) A (choose src n) Q E s:=
 λΓ p _=>⟨hn,h _ _<|Db _<|Nat.pos_of_ne_zero hn⟩
theorem HH{α:Type}:∀(n:Nat) (xs:List α) (s:Shared) (Q:List α->Shared->Prop),xs.length<=n->(∀ ys d,ys.Perm xs->Q ys {s with drawn:=d})->wpAny (model prog w) A (drawOrder n xs) Q E s
 | 0,xs,s,Q,h,k=>by
  have:xs=[]:=Bf.mp (by omega);subst this;unfold drawOrder;exact BK<|k [] s.drawn<|List.Perm.refl _
 | n+1,[],s,Q,h,k=>by
  unfold drawOrder;exact BK<|k [] s.drawn<|List.Perm.refl _
 | n+1,x :: r,s,Q,h,k=>by
  unfold drawOrder;refine BJ (wp_choose (by simp) λi d hi=>?_);rw [Ab hi]
  dsimp only
  refine BJ (HH n _ _ _ (by rw [Dt,BL hi];omega) λys d2 p=>?_);exact BK<|k _ d2<|(p.cons _).trans<|b4 _ i hi
theorem wp_text{Q:Bool->Shared->Prop}(k:Q (dk w) s):wpAny (model prog w) A setsByText Q E s:=by
 unfold setsByText;exact BJ<|JT<|BK k
variable{o:Obj}{es:Array (Int×Value)}{ep:Nat}{t:SetTable}
end
open Builtin.Frozenset
section
variable{prog:Program}{w:World}{A:Around}{E:Value->Shared->Prop}{s:Shared}{a:Addr}{zs:List Str}
structure mB(w:World)(t:SetTable):Prop where
 place:t.place=#[]
 dummies:t.dummies=#[]
 led:t.led = !dk w
 plain:t.plain=true
theorem mB.tab{t:SetTable}(B:mB w t):Tab prog w #[] t []:=
 ⟨λe he=>by simp at he,by simp,Bw,by decide,by unfold SetTable.fits SetTable.fill;rw [B.place,B.dummies];simp,B.led,.inl rfl⟩
variable{o:Obj}{ep:Nat}{t:SetTable}
end
section
variable{prog:Program}{w:World}{A:Around}{E:Value->Shared->Prop}{s:Shared}{a r:Addr}{za zr:List Str}
end
theorem HI(zs:List Str)(z y:Str):y∈added zs z↔y∈zs\/y=z:=by
 unfold added
 split
 ·rename_i h;exact⟨.inl,λq=>q.elim id λe=>e ▸ h⟩
 ·rw [Aq,Ah]
section
variable{prog:Program}{w:World}{A:Around}{E:Value->Shared->Prop}{s:Shared}
def kP(w:World):Obj:={cls:= .type "set",dict:=none,data:= .set #[] 0 (.fresh 0 0 (!dk w))}
theorem HK{h:Heap}{a:Addr}(e:h.get? a=some (kP w)):a8 prog w h a []:=⟨_,_,_,_,e,⟨rfl,rfl,rfl⟩,rfl,mB.tab ⟨rfl,rfl,rfl,rfl⟩⟩
variable{R:Result->Shared->Prop}{I:Addr}{fp wr:List Addr}{G:Array GenState->Array GenState->Prop}{n:Nat}{P:Nat->Value->Prop}{St:Nat->Shared->Prop}
end
theorem slot_next:Slot "set_iterator" "__next__" "set_iterator.__next__":=
 .of (owner:= "set_iterator") (n:= "__next__") (by rw [QM,JV];kernel_rfl) (by decide +kernel) (by decide +kernel) (by decide +kernel)
  (by first | exact .inl (by decide +kernel) | exact .inr<|by decide +kernel) (by rw [isSubtype_type];kernel_rfl)
theorem entry_next:entryFor table "set_iterator.__next__" = some Builtin.«set_iterator.__next__»:=entryFor_of_fast<|by kernel_rfl
theorem args_next(a:Value):argsOk "set_iterator.__next__" ⟨[a],[]⟩:=by unfold argsOk;kernel_rfl
theorem Sd:entryFor table "set.__iter__" = some Builtin.«frozenset.__iter__»:=
 entryFor_alias (id':= "frozenset.__iter__") (by kernel_rfl) rfl (by decide +kernel) (by kernel_rfl)
def jb(first:Value)(i:Nat)(a:Addr)(n ep:Nat):Obj:={cls:= .type "set_iterator",data:= .fields #[first,.int i 0,.ref a,.int n 0,.int ep 0]}
def dI(ys:List Nat):Obj:={cls:= .type "tuple",data:= .seq (ys.map λ(i:Nat)=>rawInt i).toArray}
inductive Way (w:World) (h:Heap) (a tp:Addr) (es:Array<|Int×Value) (ep:Nat) (t:SetTable) (ws:List<|Int×Value) (i:Nat):Value->Prop where
 | drawn (ys:List Nat) (ht:h.get? tp=some (dI ys)) (hl:ys.length=es.size) (hw:∀ j:Nat,∀ y,ys[j]?=some y->es[y]?=ws[j]?):Way w h a tp es ep t ws i<|.ref tp
 | text (c:Int) (hb:dk w=true) (hw:ws=(pickOrder (w.params.setOrder a ep) es).toList):Way w h a tp es ep t ws i<|.int c 0
 | one (c:Nat) (hb:dk w=false) (hs:es.size<=1) (hw:ws=es.toList) (hc:SetTable.below t.place c=i):Way w h a tp es ep t ws i<|.int c 0
section
variable{prog:Program}{w:World}{A:Around}{E:Value->Shared->Prop}{s:Shared}{a tp it:Addr}{zs:List Str}{o:Obj}{es:Array (Int×Value)}{ep:Nat}{t:SetTable}{ws:List (Int×Value)}{i:Nat}{first:Value}
theorem HL(j c:Nat):SetTable.below #[j] c=if j < c then 1 else 0:=by
 unfold SetTable.below;show SetTable.below.go #[j] c 1 0 1=_;unfold SetTable.below.go;simp only [Nat.zero_lt_one,CZ];show(if(#[j]:Array Nat).getD 0 c < c then SetTable.below.go #[j] c 0 1 1 else SetTable.below.go #[j] c 0 0 0)=_;rw [show(#[j]:Array Nat).getD 0 c=j by rfl]
 split <;> rfl
theorem Way.keep{h h':Heap}(W:Way w h a tp es ep t ws i first)(k:∀ o,h.get? tp=some o->h'.get? tp=some o):Way w h' a tp es ep t ws i first:=by
 cases W with
 | drawn ys ht hl hw=>exact .drawn ys (k _ ht) hl hw
 | text c hb hw=>exact .text c hb hw
 | one c hb hs hw hc=>exact .one c hb hs hw hc
theorem qN{h:Heap}{n:Nat}(x:Value)(e:h.get? it=some (jb first i a n ep)):(h.update it (Obj.mapFields (·.setIfInBounds 0 x))).get? it=some (jb x i a n ep):=Cf _ e rfl
theorem up1{h:Heap}{n:Nat}(e:h.get? it=some (jb first i a n ep)):(h.update it (Obj.mapFields (·.setIfInBounds 1 (rawInt<|(i:Int)+1)))).get? it=some (jb first (i+1) a n ep):=Cf _ e rfl
theorem HM{p:Array Nat}(h:p.size=1):∃ j,p=#[j]:=by
 obtain⟨l⟩:=p
 match l,h with
 | [j],_=>exact⟨j,rfl⟩
theorem HP(T:Tab prog w es t zs):t.place.size=es.size:=by
 have:=T.fits;unfold SetTable.fits at this;rw [Br,OJ] at this;exact this.1
theorem Se{Q:Option Value->Shared->Prop}(hi:s.heap.get? it=some (jb first i a es.size ep))(ho:s.heap.get? a=some o)(hd:o.data = .set es ep t)(T:Tab prog w es t zs)(hW:Way w s.heap a tp es ep t ws i first)
  (b6:tp≠it) (hp:ws.Perm es.toList) {e:Int×Value} (he:ws[i]?=some e) (k:∀ h' iy,Heap.SameBut it s.heap h'->h'.get? it=some (jb iy (i+1) a es.size ep)->Way w h' a tp es ep t ws (i+1) iy->Q (some e.2) {s with heap:=h'}) :
  wpAny (model prog w) A (pyNext<|.ref it) Q E s:=by
 have hT:s.TypeIs (.ref it) "set_iterator":=⟨_,hi,rfl⟩;unfold pyNext;refine BJ<|JQ<|GX (name:=Str.ofString "__next__") hT slot_next<|DG slot_next hT entry_next ?_<|args_next _;unfold Builtin.«set_iterator.__next__»;refine BJ<|BK ?_;refine BJ<|KR hi rfl ?_
 dsimp only
 refine BJ<|KQ ho hd T.fits ?_;rw [BP<|by simp];have HQ:∀ x,Heap.SameBut it s.heap ((s.heap.update it (Obj.mapFields (·.setIfInBounds 0 x))).update it (Obj.mapFields (·.setIfInBounds 1 (rawInt<|(i:Int)+1)))):=λx=>(CW ..).trans<|CW ..;have jJ:i < es.size:=by
  have h1:ws.length=es.size:=by simpa using hp.length_eq
  rcases Cc i ws.length with h | h
  ·omega
  ·rw [Ay h] at he;cases he
 have HR:Heap.SameBut it s.heap (s.heap.update it (Obj.mapFields (·.setIfInBounds 1 (rawInt<|(i:Int)+1)))):=CW ..;cases hW with
 | drawn ys ht hl hw=>
  dsimp only
  have hy:ys[i]?=some (ys[i]'(by omega)):=Ab _;generalize ys[i]'(by omega)=y at hy;refine BJ<|JD ht rfl ?_
  dsimp only
  have e1:(ys.map λ(i:Nat)=>rawInt i).toArray[(i:Int).toNat]?=some (.int y 0):=by
   rw [Ba,RJ,Ad,hy];rfl
  rw [e1]
  dsimp only
  unfold setNextDrawn;refine BJ<|BJ<|CK ho hd T.fits ?_
  dsimp only
  rw [BP<|by simp];have e2:es[(y:Int).toNat]?=some e:=by
   rw [Ba,hw i y hy];exact he
  rw [e2]
  dsimp only
  refine BK (BJ<|DP hi rfl (by simp) ?_);refine BK ⟨_,rfl,BK<|k _ _ HR (up1 hi)<|.drawn ys ?_ hl hw⟩;rw [HR.2 tp b6];exact ht
 | text c hb hw=>
  dsimp only
  unfold setNext;refine BJ<|BJ<|CK ho hd T.fits ?_
  dsimp only
  refine BJ<|wp_text ?_;rw [hb];simp only [CZ];rw [BP<|by simp];unfold setWalk;refine BJ<|BJ<|CK ho hd T.fits ?_
  dsimp only
  refine BJ<|wp_text ?_;rw [hb];simp only [CZ];refine BJ<|JT ?_;refine BK ?_;have e1:(pickOrder ((model prog w).w.params.setOrder a ep) es)[(i:Int).toNat]?=some e:=by
   rw [Ba,<- Bg];show(pickOrder (w.params.setOrder a ep) es).toList[i]?=_;rw [<- hw];exact he
  rw [e1];refine BK ?_
  dsimp only [Option.map]
  refine BJ (DP hi rfl (by simp) ?_);refine BJ (DP (qN _ hi) rfl (by simp) ?_);exact BK ⟨_,rfl,BK<|k _ _ (HQ _) (up1<|qN _ hi)<|.text _ hb hw⟩
 | one c hb hs hw hc=>
  have Sf:i=0:=by omega
  have oI:es.size=1:=by omega
  subst Sf;have qO:t.place.size=1:=(HP T).trans oI;obtain⟨j,hj⟩:=HM qO
  dsimp only
  unfold setNext;refine BJ<|BJ<|CK ho hd T.fits ?_
  dsimp only
  refine BJ<|wp_text ?_;rw [hb];simp only [Av,CN];show wpAny _ _ (if(!t.plain && decide (es.size > 1))=true then _ else _) _ _ _;rw [BP<|by rw [oI];simp];refine BJ ?_;show wpAny _ _ (if(!t.led && !es.isEmpty)=true then _ else _) _ _ _;rw [BP<|by rw [T.led,hb];simp];refine BK ?_;rw [Ba,hc];have e1:es[0]?=some e:=by
   rw [<- Bg,<- hw];exact he
  have e2:t.place[0]?=some j:=by rw [hj];rfl
  rw [e1,e2];refine BK ?_
  dsimp only
  refine BJ (DP hi rfl (by simp) ?_);refine BJ (DP (qN _ hi) rfl (by simp) ?_);refine BK ⟨_,rfl,BK<|k _ _ (HQ _) (up1<|qN _ hi)<|.one (j+1) hb hs hw ?_⟩;rw [hj,HL,BL<|El _]
theorem Sg{Q:Option Value->Shared->Prop}(hh:A.handled=none)(hi:s.heap.get? it=some (jb first i a es.size ep))(ho:s.heap.get? a=some o)(hd:o.data = .set es ep t)(T:Tab prog w es t zs)(hW:Way w s.heap a tp es ep t ws i first)
  (hp:ws.Perm es.toList) (he:i=es.size) (k:∀ h',Heap.ExtBut it s.heap h'->Q none {s with heap:=h'}) :
  wpAny (model prog w) A (pyNext<|.ref it) Q E s:=by
 have hT:s.TypeIs (.ref it) "set_iterator":=⟨_,hi,rfl⟩;have wl:ws.length=es.size:=by simpa using hp.length_eq
 unfold pyNext;refine BJ<|JQ<|GX (name:=Str.ofString "__next__") hT slot_next<|DG slot_next hT entry_next ?_<|args_next _;unfold Builtin.«set_iterator.__next__»;refine BJ<|BK ?_;refine BJ<|KR hi rfl ?_
 dsimp only
 refine BJ<|KQ ho hd T.fits ?_;rw [BP<|by simp];have fin:∀ h2:Heap,Heap.SameBut it s.heap h2->wpAny (model prog w) A.in1 (newExc (Value.type "StopIteration") [] >>= λx=>(raiseNew x:Sem Fin)) (λfin s'=>∃ v,fin=Fin.done (Flow.ret v)/\wpAny (model prog w) A (pure<|some v) Q E s')
   (λe s'=>wpAny (model prog w) A (isInstance e (Value.type "StopIteration") >>= λb=>if b=true then pure none else throw e) Q E s') {s with heap:=h2}:=by
  intro h2 sb;refine BJ ?_;simp only [newExc,newTuple];refine BJ (CT ?_<|by size_fits);refine BJ (m:=firstArgMember _ _) (HN (a:=Value.none) (by first | rfl | (simp only [firstArgMember];rfl)) ?_);refine CT ?_ (by size_fits);simp only [raiseNew];refine BJ<|wpAny_handled ?_;rw [show A.in1.handled=none from hh];refine BJ<|BK<|wpAny_throw ?_;refine BJ<|PK (T:= "StopIteration") (b:=true) ⟨_,An _ rfl,rfl⟩ isSubtype_stop ?_;exact BK<|k _<|(sb.extBut.push _).push _
 cases hW with
 | drawn ys ht hl hw=>
  dsimp only
  refine BJ<|JD ht rfl ?_
  dsimp only
  have e1:(ys.map λ(i:Nat)=>rawInt i).toArray[(i:Int).toNat]?=none:=by
   rw [Ba,RJ,Ay];rw [Aa];omega
  rw [e1]
  dsimp only
  refine BJ (DP hi rfl (by simp) ?_);refine BJ (DP (qN _ hi) rfl (by simp) ?_);exact fin _<|(CW ..).trans<|CW ..
 | text c hb hw=>
  dsimp only
  unfold setNext;refine BJ<|BJ<|CK ho hd T.fits ?_
  dsimp only
  refine BJ<|wp_text ?_;rw [hb];simp only [CZ];rw [BP<|by simp];unfold setWalk;refine BJ<|BJ<|CK ho hd T.fits ?_
  dsimp only
  refine BJ<|wp_text ?_;rw [hb];simp only [CZ];refine BJ<|JT ?_;refine BK ?_;have e1:(pickOrder ((model prog w).w.params.setOrder a ep) es)[(i:Int).toNat]?=none:=by
   rw [Ba,<- Bg];show(pickOrder (w.params.setOrder a ep) es).toList[i]?=_;rw [<- hw,Ay];omega
  rw [e1];refine BK ?_
  dsimp only [Option.map]
  refine BJ (DP hi rfl (by simp) ?_);exact fin _<|CW ..
 | one c hb hs hw hc=>
  dsimp only
  unfold setNext;refine BJ<|BJ<|CK ho hd T.fits ?_
  dsimp only
  refine BJ<|wp_text ?_;rw [hb];simp only [Av,CN];show wpAny _ _ (if(!t.plain && decide (es.size > 1))=true then _ else _) _ _ _;rw [BP<|by rw [BR<|by omega];simp];refine BJ ?_;show wpAny _ _ (if(!t.led && !es.isEmpty)=true then _ else _) _ _ _;rw [BP<|by rw [T.led,hb];simp];refine BK ?_;rw [Ba,hc];have e1:es[i]?=none:=Cn (by omega);rw [e1];refine BK ?_
  dsimp only
  refine BJ (DP hi rfl (by simp) ?_);exact fin _<|CW ..
open PySem.Spec
theorem HU:Slot "set_iterator" "__iter__" "set_iterator.__iter__":=
 .of (owner:= "set_iterator") (n:= "__iter__") (by rw [QM,JV];kernel_rfl) (by decide +kernel) (by decide +kernel) (by decide +kernel)
  (by first | exact .inl (by decide +kernel) | exact .inr<|by decide +kernel) (by rw [isSubtype_type];kernel_rfl)
theorem Sh:entryFor table "set_iterator.__iter__" = some Builtin.«dict_keyiterator.__iter__»:=
 entryFor_alias (id':= "dict_keyiterator.__iter__") (by kernel_rfl) rfl (by decide +kernel) (by kernel_rfl)
theorem Si(a:Value):argsOk "set_iterator.__iter__" ⟨[a],[]⟩:=by unfold argsOk;kernel_rfl
theorem Sj(hh:A.handled=none)(h1:a≠it)(h2:tp≠it)(hd:o.data = .set es ep t)(T:Tab prog w es t zs)(hp:ws.Perm es.toList) :
  Walks prog w A it [it,a,tp] [it] es.size (λi v=>∃ e,ws[i]?=some e/\v=e.2) (λi h=>∃ first,h.get? it=some (jb first i a es.size ep)/\h.get? a=some o/\Way w h a tp es ep t ws i first) where
 sub:=λb hb=>by simp at hb;simp [hb]
 frame:=λi h h' ⟨first,q1,q2,q3⟩ k=>⟨first,k it (by simp) _ q1,k a (by simp) _ q2,q3.keep<|k tp<|by simp⟩
 item:=λi s Q E hi ⟨first,q1,q2,q3⟩ k=>by
  have wl:ws.length=es.size:=by simpa using hp.length_eq
  obtain⟨e,he⟩:∃ e,ws[i]?=some e:=⟨ws[i]'(by omega),Ab _⟩;refine Se q1 q2 hd T q3 h2 hp he λh' f' sb g1 g2=>?_;exact k _ h' s.toks ⟨e,he,rfl⟩ ⟨f',g1,by rw [sb.2 a h1];exact q2,g2⟩ λb o hb e=>by rw [sb.2 b λh=>hb<|by simp [h]];exact e
 done:=λs Q E ⟨first,q1,q2,q3⟩ k=>Sg hh q1 q2 hd T q3 hp rfl λh' e=>k h' s.toks λb o hb e2=>e b o (λh=>hb<|by simp [h]) e2
 self:=λi s Q E ⟨first,q1,q2,q3⟩ k=>by
  have hT:s.TypeIs (.ref it) "set_iterator":=⟨_,q1,rfl⟩;refine JH hT HU<|DG HU hT Sh ?_<|Si _;show wpAny _ _ (ret<|.ref it) _ _ s;exact BK ⟨_,rfl,"set_iterator",_,hT,slot_next.lookup,k⟩
theorem Sl(es:Array<|Int×Value):(List.range es.size).map (λy=>(es[y]?).getD (0,Value.none))=es.toList:=by
 refine List.ext_getElem (by simp) λj h1 h2=>?_;rw [Dn,Eb];have:j < es.size:=by simpa using h2
 rw [Bq this];simp
theorem Sn{Q:Value->Shared->Prop}(ho:s.heap.get? a=some o)(hx:o.ExactSet)(hd:o.data = .set es ep t)(T:Tab prog w es t zs)
  (k:∀ h' d it tp ws first,(∀ b u,s.heap.get? b=some u->h'.get? b=some u)->s.heap.objs.size<=it->it < h'.objs.size->tp < h'.objs.size->(tp=a\/s.heap.objs.size<=tp)->tp≠it->h'.get? it=some (jb first 0 a es.size ep)->Way w h' a tp es ep t ws 0 first->ws.Perm es.toList->Q (.ref it) {s with heap:=h',drawn:=d}) :
  wpAny (model prog w) A (pyIter<|.ref a) Q E s:=by
 have hT:s.TypeIs (.ref a) "set":=⟨o,ho,hx.1⟩;have aK:a < s.heap.objs.size:=Ar ho;refine JH hT F.slot_set_iter<|DG F.slot_set_iter hT Sd ?_<|F.args_set_iter_1 _;unfold Builtin.«frozenset.__iter__» slot0 slotArgs;simp only [Em,Dm,Av,↓reduceIte,bind_assoc,Fa,bne_self_eq_false];unfold addrOf Builtin.Frozenset.sizeOf;refine BJ<|BK ?_;refine BJ<|BK ?_;refine BJ<|BJ<|KQ ho hd T.fits<|BK ?_;unfold setDrawn;refine BJ<|BJ<|CK ho hd T.fits ?_
 dsimp only
 refine BJ<|wp_text ?_;refine BK ?_
 by_cases c:(!dk w && (!t.plain && decide (es.size > 1)))=true
 ·show wpAny _ _ (if(!dk w && (!t.plain && decide (es.size > 1)))=true then _ else _) _ _ _;rw [BL c];refine BJ (HH _ _ _ _ (by simp) λys d p=>?_);have qP:ys.length=es.size:=by simpa using p.length_eq
  refine BJ (wpAny_newTuple ?_<|by rw [Aa,qP];exact kN<|Cb T.ix);have o1:(s.heap.push<|dI ys).get? a=some o:=Ae _ ho;refine BJ<|wpAny_setEpoch_of (s:={s with heap:=s.heap.push<|dI ys,drawn:=d}) o1 hd T.fits ?_;refine BJ<|CT<|BK ⟨_,rfl,"set_iterator",_,⟨_,An _ rfl,rfl⟩,slot_next.lookup,?_⟩;have oI:(s.heap.push<|dI ys).objs.size=s.heap.objs.size+1:=Cw ..;refine k _ d _ s.heap.objs.size (ys.map λy=>(es[y]?).getD (0,Value.none)) (.ref s.heap.objs.size) (λb u e=>Ae _<|Ae _ e) (by show s.heap.objs.size<=(s.heap.push<|dI ys).objs.size;omega) ?_ ?_ (.inr<|Ag _) ?_ (An _ rfl) ?_ ?_
  ·show(s.heap.push<|dI ys).objs.size < ((s.heap.push<|dI ys).push _).objs.size;simp only [Cw];omega
  ·show s.heap.objs.size < ((s.heap.push<|dI ys).push _).objs.size;rw [Cw,oI];omega
  ·show s.heap.objs.size≠(s.heap.push<|dI ys).objs.size;omega
  ·refine .drawn ys (Ae _<|An _ rfl) qP λj y hy=>?_;have hm:y < es.size:=by
    have:=p.mem_iff.mp<|Al hy
    simpa using this
   rw [Ad,hy];show _=some ((es[y]?).getD (0,Value.none));rw [Bq hm];rfl
  ·have:=p.map λy=>(es[y]?).getD (0,Value.none);rwa [Sl] at this
 ·show wpAny _ _ (if(!dk w && (!t.plain && decide (es.size > 1)))=true then _ else _) _ _ _;rw [BP c];refine BJ<|BK ?_;refine BJ<|wpAny_setEpoch_of ho hd T.fits ?_;refine BJ<|CT<|BK ⟨_,rfl,"set_iterator",_,⟨_,An _ rfl,rfl⟩,slot_next.lookup,?_⟩;have kk:=λws hW hp=>k (s.heap.push<|jb (.int 0 0) 0 a es.size ep) s.drawn s.heap.objs.size a ws (.int 0 0) (λb u e=>Ae _ e) (Ag _) (by rw [Cw];exact El _) (by rw [Cw];exact Cb aK) (.inl rfl) (Bp aK) (An _ rfl) hW hp;cases hb:dk w with
  | true=>exact kk _ (.text 0 hb rfl)<|Sb _ _
  | false=>
   have h1:es.size<=1:=by
    rcases T.plain with q | q
    ·rw [q];simp
    ·rw [hb,q] at c;simp at c;exact c
   refine kk es.toList (.one 0 hb h1 rfl ?_)<|List.Perm.refl _;have qO:=HP T
   rcases Cc es.size 1 with h | h
   ·have:t.place=#[]:=Array.eq_empty_of_size_eq_zero (by omega);rw [this];rfl
   ·obtain⟨j,hj⟩:=HM (p:=t.place) (by omega);rw [hj,HL,BP<|Cg _]
theorem Sq:typeLookup (.type "set") "__len__" = pure (some<|.builtin "set.__len__"):=F.slot_set_len.lookup
theorem Sr{Q:Bool->Shared->Prop}(hT:s.TypeIs (.ref a) "set")(k:Q false s):wpAny (model prog w) A (Builtin.List.listLengthHint<|.ref a) Q E s:=by
 unfold Builtin.List.listLengthHint;refine BJ<|IV hT Sq ?_
 dsimp only
 have e1:splitId "set.__len__" = some ("set","__len__"):=by kernel_rfl
 rw [e1]
 dsimp only
 refine BJ<|PK hT sub_set_self ?_;simp only [Dm,Av,CN];rw [BL]
 ·exact BJ<|JC hT<|BK k
 ·decide +kernel
theorem Ss{Q:List Value->Shared->Prop}(hh:A.handled=none)(ho:s.heap.get? a=some o)(hx:o.ExactSet)(hd:o.data = .set es ep t)(T:Tab prog w es t zs)
  (k:∀ s' (acc:List<|Int×Value),(∀ b u,s.heap.get? b=some u->s'.heap.get? b=some u)->s'.gens=s.gens->s'.os=s.os->s.heap.objs.size < s'.heap.objs.size->acc.Perm es.toList->Q (acc.map (·.2)) s'):wpAny (model prog w) A (collect<|.ref a) Q E s:=by
 have aK:a < s.heap.objs.size:=Ar ho;unfold collect;refine BJ<|wpAny_runValue<|GZ F.entry_proto_collect ?_;rw [GJ F.plain_proto_collect _];show wpAny _ A.in1 (newList [] >>= λl=>again<|.builtin "list.__iadd__" ⟨[l,.ref a],[]⟩) _ _ s;refine BJ<|MP ?_;refine BK ⟨JR F.plain_list_iadd _,GZ F.entry_list_iadd ?_⟩;rw [GJ F.plain_list_iadd _];generalize hL:s.heap.objs.size=L;have oJ:(s.heap.push {cls:= .type "list",data:= .seq ([]:List Value).toArray}).get? a=some o:=Ae _ ho;have Sv:(s.heap.push {cls:= .type "list",data:= .seq ([]:List Value).toArray}).get? L=some {cls:= .type "list",data:= .seq ([]:List Value).toArray}:=by rw [<- hL];exact An _ rfl
 have hT:Shared.TypeIs {s with heap:=s.heap.push {cls:= .type "list",data:= .seq ([]:List Value).toArray}} (.ref a) "set":=⟨o,oJ,hx.1⟩;show wpAny _ A.in1 (Builtin.List.listExtendWith (.ref L) (.ref a)<|.ref L) _ _ _;unfold Builtin.List.listExtendWith;refine BJ<|JC hT ?_;have n1:Builtin.List.listSameRef (.ref L) (.ref a)=false:=by
  have:L≠a:=by rw [<- hL];exact Cq aK
  simp [Builtin.List.listSameRef,this]
 have n2:(Value.type "set" == Value.type "list")=false:=by decide
 have n3:(Value.type "set" == Value.type "tuple")=false:=by decide
 simp only [n1,n2,n3,Bool.or_false,Av,CN];refine BJ<|Sn oJ hx hd T λh2 d it tp ws first mC oK hi2 iz uU b6 gi W p=>?_;have HV:=mC a o oJ;have Ia:=mC L _ Sv;have jK:(s.heap.push {cls:= .type "list",data:= .seq ([]:List Value).toArray}).objs.size=L+1:=by rw [Cw,hL]
 refine BJ<|CJ<|Sr (a:=a) (s:={s with heap:=h2,drawn:=d}) ⟨o,HV,hx.1⟩ ?_;show wpAny _ A.in1 (rule "list.extend.makes-room" >>= λ_=>Builtin.List.listTouch (.ref L) >>= λ_=>again<|.builtin "list.extend.loop" ⟨[.ref L,.ref it,.ref L],[]⟩) _ _ _;refine BJ<|GD ?_;refine BJ ?_;show wpAny _ A.in1 (updateSeq L (·.push .none) >>= λ_=>updateSeq L (·.pop)) _ _ _;refine BJ<|wpAny_updateSeq Ia rfl ?_;have Ib:=Cf (Obj.mapSeq (·.push Value.none)) Ia rfl;refine wpAny_updateSeq Ib rfl ?_;have Sw:=Cf (Obj.mapSeq (·.pop)) Ib rfl;have av:∀ b u,b≠L->h2.get? b=some u->((h2.update L (Obj.mapSeq (·.push Value.none))).update L (Obj.mapSeq (·.pop))).get? b=some u:=
  λb u hb e=>(Bx _ _<|BX hb).trans<|(Bx _ _<|BX hb).trans e
 have qR:it≠L:=by
  have fu:L+1<=it:=by rw [<- jK];exact oK
  exact Cq fu
 have yI:a≠L:=by rw [<- hL];exact Bp aK
 have Sx:a≠it:=by
  have fu:L+1<=it:=by rw [<- jK];exact oK
  intro e;rw [<- hL,<- e] at fu;exact absurd fu<|Nat.not_le.mpr<|Cb aK
 have Ic:tp≠L:=by
  rcases uU with h | h
  ·rw [h];exact yI
  ·have h':L+1<=tp:=by rw [<- jK];exact h
   exact Cq h'
 have kJ:L∉[it,a,tp]:=by
  intro h
  rcases Am.mp h with h | h
  ·exact qR h.symm
  ·rcases Am.mp h with h | h
   ·exact yI h.symm
   ·exact Ic (Ah.mp h).symm
 refine BK ⟨JR F.plain_extend_loop _,codeAny_extend_loopS ((Sj (by simp [hh]) Sx b6 hd T p).toS) (kN<|Cb T.ix) L kJ (.ref L) es.size 0 _ _ _ rfl (Be _) ⟨first,av it _ qR gi,av a _ yI HV,W.keep λu e=>av tp u Ic e⟩ Sw (ItemsOf.nil _) λs' acc c m Ie hI=>?_⟩;show wpAny _ A (load L >>= _) _ _ s';refine BJ<|wpAny_load Ie ?_;have wl:ws.length=es.size:=by simpa using p.length_eq
 have el:acc.toList=ws.map (·.2):=by
  refine Ck λj=>?_;rw [Bg,Ad];cases hj:acc[j]? with
  | none=>
   have:ws[j]?=none:=by
    rw [Ay];rw [wl,<- hI.1];exact Array.getElem?_eq_none_iff.mp hj
   rw [this];rfl
  | some v=>
   obtain⟨e,h1,h2⟩:=hI.2 j v hj;rw [h1,h2];rfl
 refine BK ?_;rw [el];refine k s' ws (λb u e=>?_) m.gens m.os (by rw [hL];exact Ar Ie) p;have hb:b < s.heap.objs.size:=Ar e;have Ig:b≠L:=by rw [<- hL];exact Bp hb
 have Ih:b≠it:=by
  intro q;have fu:L+1<=it:=by rw [<- jK];exact oK
  rw [<- hL,<- q] at fu;exact absurd fu<|Nat.not_le.mpr<|Cb hb
 refine m.heap b u (λh=>?_)<|av b u Ig<|mC b u<|Ae _ e
 rcases Am.mp h with h | h
 ·exact Ig h
 ·exact Ih<|Ah.mp h
end
end bT
namespace bT
open PySem PySem.Spec PyProof.Rows
theorem Ii{prog:Program}{w:World}:∀(l:List<|Int×Value),(∀ e∈l,yG prog w e)->StrsAre (l.map (·.2)) (l.map keyOf)
 | [],_=> .nil
 | e :: r,h=>by
  obtain⟨z,t,rfl⟩:=h e As;exact .cons z t<|Ii r λx hx=>h x<|Ak _ hx
section
variable{prog:Program}{w:World}{A:Around}{E:Value->Shared->Prop}{s:Shared}{a:Addr}{zs:List Str}
theorem Sy{Q:Value->Shared->Prop}(hh:A.handled=none)(S:a8 prog w s.heap a zs)(Sz:zs.length < 64)
  (k:∀(s':Shared) (l:Addr) (out:Array Value) (e:Nat) (ss:List Str),(∀ b u,s.heap.get? b=some u->s'.heap.get? b=some u)->s'.gens=s.gens->s'.os=s.os->s.heap.objs.size<=l->s'.heap.get? l=some (seqObj "list" out e)->StrsAre out.toList ss->ss.Perm zs->sortedS ss=true->Q (.ref l) s') :
  wpAny (model prog w) A (call (.builtin "sorted") [.ref a]) Q E s:=by
 obtain⟨o,es,ep,t,ho,hx,hd,T⟩:=S;refine Calls.call_function_entry kind_sorted plain_sorted entry_sorted (args_sorted1 _) ?_;unfold Builtin.«sorted»;refine BJ (m:=checkCount "sorted" 1 1 _)<|BK ?_;refine BJ (Ss (by simp [hh]) ho hx hd T λs1 acc kp g1 o1 z1 p=>?_);have hS:=Ii (prog:=prog) (w:=w) acc λe he=>T.elts e<|p.mem_iff.mp he;have hlen:(acc.map (·.2)).length=zs.length:=by
  rw [Aa,p.length_eq,Co,T.size]
 refine BJ (MP ?_<|by rw [hlen];exact kN<|by omega);have ko:(s1.heap.push (seqObj "list" (acc.map (·.2)).toArray 0)).get? s1.heap.objs.size=some (seqObj "list" (acc.map (·.2)).toArray 0):=An _ rfl;have hsz:s.heap.objs.size<=s1.heap.objs.size:=Fn z1;refine BJ (CJ<|DG slot_list_sort ⟨_,ko,rfl⟩ entry_list_sort (list_sort_treeK strKind_oneLt ko hS.keysOf (λv₁ v₂ rest e=>keyKind_strs<|by rw [<- e];exact hS) (by rw [hlen];exact Sz) λcC a1 a2=>⟨_,rfl,?_⟩)<|args_list_sort _);obtain⟨ss,q1,q2,q3⟩:=sorted_out_str hS a1 a2;obtain⟨e,he⟩:=sortedHeap_at (out:=(arrOf cC).map (·.2)) ko;refine BK ⟨_,rfl,k _ _ _ e ss (λb u hb=>?_) g1 o1 hsz he q1 (q2.trans<|(p.map keyOf).trans T.keys) q3⟩;have oM:=kp b u hb;have aK:=Ar oM;show(sortedHeap (s1.heap.push _) s1.heap.objs.size _ _).get? b=some u;rw [sortedHeap_old (Bp aK)<|by rw [size_push'];exact Cb aK];exact Ae _ oM
end
end bT
namespace L2
open PySem PySem.Spec PyProof.Rows bT
def bj(prog:Program)(w:World)(a:Addr)(zs:List Str):HO:= .ext λh=>a8 prog w h a zs
section
variable{X:Cx}{pins:List (Addr×Obj)}{σ:St}{H:Hp}{s s':Shared}{a:Addr}{zs:List Str}
theorem Inv.like(I:Inv X pins σ H s)(e1:s'.heap=s.heap)(e2:s'.gens=s.gens)(e3:s'.os=s.os):Inv X pins σ H s':=by
 obtain⟨h,g,d,t,o⟩:=s;obtain⟨h',g',d',t',o'⟩:=s';simp only at e1 e2 e3;subst e1 e2 e3;exact⟨I.ok,I.os,I.bare,I.base,I.loc,I.cell,I.free,I.bW,I.pin,I.aC,I.len⟩
theorem Inv.kQ{o:HO}(I:Inv X pins σ H s)(k:∀ b u,s.heap.get? b=some u->s'.heap.get? b=some u)(e2:s'.gens=s.gens)(e3:s'.os=s.os)(hp:s.heap.objs.size<=a)(new:az X.prog X.w (upd H a o) s'.heap a o):Inv X pins σ (upd H a o) s':=
 (I.laid (t':=s.toks) k hp new).like (s':=s') rfl e2 e3
theorem uV{h:Heap}(S:a8 X.prog X.w h a zs):az X.prog X.w H h a (bj X.prog X.w a zs):=by
 refine⟨S,?_,λh1 h2 q k=>q.keep k⟩;obtain⟨o,_,_,_,ho,_⟩:=S;exact⟨o,ho⟩
theorem Inv.set(I:Inv X pins σ H s)(h:H a=some (bj X.prog X.w a zs)):a8 X.prog X.w s.heap a zs:=(I.aC a _ h).1
theorem Ij:∀{us:List Value} {zs:List Str},StrsAre us zs->aq (zs.map V.str) us
 | _,_,.nil=> .nil
 | _,_,.cons z t q=> .cons ⟨t,rfl⟩<|Ij q
theorem SA(hc:X.calm=true):gU X (.builtin "sorted") (λxs H Q=>∃ p zs,xs=[.ref p]/\H p=some (bj X.prog X.w p zs)/\zs.length < 64/\∀ l ss,H l=none->ss.Perm zs->sortedS ss=true->Q (.ref l) (upd H l<|.lst<|ss.map V.str)):=by
 intro pins s σ H xs us Q I r h;obtain⟨p,zs,rfl,hp,hl,q⟩:=h;obtain⟨u,rfl,ru⟩:=vals1 r;cases (show u=Value.ref p from ru);refine Sy (I.ok.hd hc) (I.set hp) hl λs' l out e ss kp e2 e3 oK he hS oO SD=>?_;have hlen:ss.length<=sizeLine:=by rw [oO.length_eq];exact kN<|by omega
 refine⟨.ref _,_,I.kQ (s':=s') kp e2 e3 oK (show az X.prog X.w _ s'.heap l (.lst<|ss.map V.str) from⟨by rw [Aa];exact hlen,out.toList,e,Ij hS,he⟩),rfl,q _ ss (I.aC.fresh oK) oO SD⟩
end
end L2
namespace L2
open PySem PySem.Spec PyProof.Rows
section
variable{X:Cx}{o e:Expr}{σ:St}{H:Hp}{Q:VK}{ap cp:Pos}
theorem jL (h:Ev X o σ H λx H1=>∃ l,x = .ref l/\(∃ xs,H1 l=some (.lst xs))/\Ev X e σ H1 λy H2=>∃ xs,H2 l=some (.lst xs)/\xs.length < sizeLine/\Q .non (upd H2 l<|.lst<|xs++[y]))
  (bG:attributeBase o "append" X.env (eval o X.env)=eval o X.env:=by rfl)
  (bY:((backTo cp<|starEach [e] X.env).all (λx=>!x.1) && (backToKw cp<|keywordEach [] X.env).all (λx=>x.1.isSome) && decide ([e].length+([]:List Keyword).length+(if([]:List Keyword).isEmpty then 0 else 1) < 30))=true:=by rfl)
  (hline:(ap.endLine == cp.line)=true:=by rfl) (hs:starEach [e] X.env=(false,eval e X.env) :: starEach [] X.env:=by rfl) (bP:(backTo cp<|starEach [] X.env).any (·.1)=false:=by rfl) (cO:isStar e=false:=by rfl) :
  Ev X (.Call (.Attribute o "append" ap) [e] [] cp) σ H Q:=by
 refine c6 (xV FJ PySem.F.slot_list_append PySem.F.type_list_append Gj bw (dS (es:=[e])) bG bY hline hs bP)<|h.mono λx H1 ⟨l,ex,⟨xs,hl⟩,h2⟩=>?_;subst ex;refine⟨.inl ⟨rfl,xs,ak.of hl⟩,?_⟩;exact al (h2.mono λy H2 ⟨ys,hy,hz,q⟩=>ay ⟨l,ys,y,rfl,rfl,hy,hz,q⟩) cO
end
section
variable{X:Cx}{c:Expr}{body i7 rest:List Stmt}{D:Ends}{σ:St}{H:Hp}{pos:Pos}
theorem Run.nx{M M':St->Hp->Prop}{l:List Stmt}(h:Run X l {D with nx:=M} σ H)(f:∀ σ' H',M σ' H'->M' σ' H'):Run X l {D with nx:=M'} σ H:=
 ⟨λpins s I => aE (h.run pins s I) λfl s' q => by
  cases fl with
  | next=>
   obtain⟨σ',H',I',m⟩:=q;exact⟨σ',H',I',f σ' H' m⟩
  | _=>exact q⟩
theorem Ik(φ ψ:Prop)(M:St->Hp->Prop)(hc:∀ T:Bool->Hp->Prop,(∀ k:Bool,(k=true->φ)->(k=false->ψ)->T k H)->Et X c σ H T)(ht:φ->Run X body {D with nx:=M} σ H)(hu:ψ->Run X i7 {D with nx:=M} σ H)
  (hr:∀ σ' H',M σ' H'->Run X rest D σ' H'):Run X (.If c body i7 pos :: rest) D σ H:=
 He φ ψ hc (λp=>(ht p).nx hr) (λp=>(hu p).nx hr)
end
def kR(X:Cx)(H:Hp)(k:Nat)(x y:V)(b:Bool):Prop:=∀(pins:List<|Addr×Obj) (σ:St) (s:Shared) (A:Around) (u v:Value),Inv X pins σ H s->A.units+k < cLine->RelV x u->RelV y v->SeqAt.EqAt A s u v b
def mD(X:Cx)(H:Hp)(k:Nat)(x y:V)(b:Bool):Prop:=∀(pins:List<|Addr×Obj) (σ:St) (s:Shared) (A:Around) (u v:Value),Inv X pins σ H s->A.units+k < cLine->RelV x u->RelV y v->SeqAt.RcAt A s u v b
def oP(X:Cx)(H:Hp)(k:Nat)(x y:V)(b:Bool):Prop:=∀(pins:List<|Addr×Obj) (σ:St) (s:Shared) (A:Around) (u v:Value),Inv X pins σ H s->A.units+k < cLine->RelV x u->RelV y v->SeqAt.RcNeAt A s u v (!b)
section
variable{X:Cx}{H:Hp}{k:Nat}{a b:Addr}{xs ys:List V}
theorem qS{x y:V}(fx:ii x=true)(fy:ii y=true):kR X H k x y (b8 x y):=λ_ _ _ _ _ _ _ _ rx ry=>Gg rx ry fx fy
theorem kS{us:List Value}(r:aq xs us){j:Nat}(h:j < us.length):∃ x,xs[j]?=some x/\RelV x us[j]:=by
 have hl:=r.length;have hj:j < xs.length:=by omega
 obtain⟨u,e,q⟩:=r.get<|Ab hj;rw [Ab h] at e;cases e;exact⟨_,Ab hj,q⟩
theorem SE(e:Nat->Bool)(ha:ak X.K H a xs)(hb:ak X.K H b ys)(hl:xs.length=ys.length)(he:∀ j x y,xs[j]?=some x->ys[j]?=some y->kR X H k x y (e j)):mD X H (k+1) (.ref a) (.ref b) ((List.range xs.length).all e):=λpins σ s A u v I hu rx ry=>by
 cases rx;cases ry;obtain⟨i1,r1,p1,_⟩:=I.list ha;obtain⟨i2,r2,p2,_⟩:=I.list hb;have l1:=r1.length;have l2:=r2.length;have q:=SeqAt.RcAt.lists (A:=A) (e:=e) p1.isList p2.isList (by simp;omega) (by omega) λj h1 h2=>by
  obtain⟨x,ex,qx⟩:=kS r1 (j:=j) (by simpa using h1);obtain⟨y,ey,qy⟩:=kS r2 (j:=j) (by simpa using h2);exact he j x y ex ey pins σ s A.in1 _ _ I (by show A.units+1+k < cLine;omega) (by simpa using qx)<|by simpa using qy
 rw [Ap,<- l1] at q;exact q
theorem Il(e:Nat->Bool)(ha:ak X.K H a xs)(hb:ak X.K H b ys)(hl:xs.length=ys.length)(he:∀ j x y,xs[j]?=some x->ys[j]?=some y->kR X H k x y (e j)):oP X H (k+1) (.ref a) (.ref b) ((List.range xs.length).all e):=λpins σ s A u v I hu rx ry=>by
 cases rx;cases ry;obtain⟨i1,r1,p1,_⟩:=I.list ha;obtain⟨i2,r2,p2,_⟩:=I.list hb;have l1:=r1.length;have l2:=r2.length;have q:=SeqAt.RcNeAt.lists (A:=A) (e:=e) p1.isList p2.isList (by simp;omega) (by omega) λj h1 h2=>by
  obtain⟨x,ex,qx⟩:=kS r1 (j:=j) (by simpa using h1);obtain⟨y,ey,qy⟩:=kS r2 (j:=j) (by simpa using h2);exact he j x y ex ey pins σ s A.in1 _ _ I (by show A.units+1+k < cLine;omega) (by simpa using qx)<|by simpa using qy
 rw [Ap,<- l1] at q;exact q
theorem Im(ha:ak X.K H a xs)(hb:ak X.K H b ys)(hl:xs.length≠ys.length):mD X H k (.ref a) (.ref b) false:=λpins σ s A u v I hu rx ry=>by
 cases rx;cases ry;obtain⟨i1,r1,p1,_⟩:=I.list ha;obtain⟨i2,r2,p2,_⟩:=I.list hb;have l1:=r1.length;have l2:=r2.length;exact SeqAt.RcAt.lists_lengths p1.isList p2.isList (by simp;omega)<|by omega
theorem Io(ha:ak X.K H a xs)(hb:ak X.K H b ys)(hl:xs.length≠ys.length):oP X H k (.ref a) (.ref b) false:=λpins σ s A u v I hu rx ry=>by
 cases rx;cases ry;obtain⟨i1,r1,p1,_⟩:=I.list ha;obtain⟨i2,r2,p2,_⟩:=I.list hb;have l1:=r1.length;have l2:=r2.length;exact SeqAt.RcNeAt.lists_lengths p1.isList p2.isList (by simp;omega)<|by omega
theorem Ip(e:Nat->Bool)(ha:aM X.K H a xs)(hb:aM X.K H b ys)(hl:xs.length=ys.length)(he:∀ j x y,xs[j]?=some x->ys[j]?=some y->kR X H k x y (e j)):mD X H (k+1) (.ref a) (.ref b) ((List.range xs.length).all e):=λpins σ s A u v I hu rx ry=>by
 cases rx;cases ry;obtain⟨i1,r1,p1,_⟩:=I.tuple ha;obtain⟨i2,r2,p2,_⟩:=I.tuple hb;have l1:=r1.length;have l2:=r2.length;have q:=SeqAt.RcAt.tuples (A:=A) (e:=e) p1 p2 (by omega) λj h1 h2=>by
  obtain⟨x,ex,qx⟩:=kS r1 (j:=j) (by simpa using h1);obtain⟨y,ey,qy⟩:=kS r2 (j:=j) (by simpa using h2);exact he j x y ex ey pins σ s A.in1 _ _ I (by show A.units+1+k < cLine;omega) (by simpa using qx)<|by simpa using qy
 rw [Ap,Ap,<- l1,<- l2,hl,Nat.min_self,<- hl] at q
 simpa using q
theorem qT(hu:X.A.units+100 < cLine):cn X (compareOp .Eq) (λx y H Q=>∃ k c,k<=100/\mD X H k x y c/\Q (.bl c) H):=by
 intro pins s σ H x y v u Q I rx ry h;obtain⟨k,c,hk,hc,q⟩:=h;exact hc pins σ s X.A v u I (by omega) rx ry X.prog X.w X.xe _ ⟨.bl c,H,I,rfl,q⟩
theorem qU(hu:X.A.units+100 < cLine):cn X (compareOp .NotEq) (λx y H Q=>∃ k c,k<=100/\oP X H k x y c/\Q (.bl (!c)) H):=by
 intro pins s σ H x y v u Q I rx ry h;obtain⟨k,c,hk,hc,q⟩:=h;exact hc pins σ s X.A v u I (by omega) rx ry X.prog X.w X.xe _ ⟨.bl (!c),H,I,rfl,q⟩
theorem Iq(e:Nat->Bool)(ha:aM X.K H a xs)(hb:aM X.K H b ys)(hl:xs.length=ys.length)(he:∀ j x y,xs[j]?=some x->ys[j]?=some y->kR X H k x y (e j)):oP X H (k+1) (.ref a) (.ref b) ((List.range xs.length).all e):=λpins σ s A u v I hu rx ry=>by
 cases rx;cases ry;obtain⟨i1,r1,p1,_⟩:=I.tuple ha;obtain⟨i2,r2,p2,_⟩:=I.tuple hb;have l1:=r1.length;have l2:=r2.length;have q:=SeqAt.RcNeAt.tuples (A:=A) (e:=e) p1 p2 (by omega) λj h1 h2=>by
  obtain⟨x,ex,qx⟩:=kS r1 (j:=j) (by simpa using h1);obtain⟨y,ey,qy⟩:=kS r2 (j:=j) (by simpa using h2);exact he j x y ex ey pins σ s A.in1 _ _ I (by show A.units+1+k < cLine;omega) (by simpa using qx)<|by simpa using qy
 rw [Ap,Ap,<- l1,<- l2,hl,Nat.min_self,<- hl] at q
 simpa using q
end
section
variable{X:Cx}{o e f c:Expr}{σ:St}{H:Hp}{Q:VK}{T:Bool->Hp->Prop}{ap cp pos:Pos}{body rest:List Stmt}{D:Ends}
theorem yJ{name:Str}{Ty id:String}{r:V->List V->Hp->VK->Prop}(pa:PlainAttrs Ty)(slot:Slot Ty name id)(qj:typeOf (.builtin id)=pure (.type "method_descriptor"))(hm:xO X id r)
  (h:Ev X o σ H λx H1=>l4 X.K Ty x H1/\Ev X e σ H1 λy H2=>r x [y] H2 Q) (bG:attributeBase o name X.env (eval o X.env)=eval o X.env:=by rfl)
  (bY:((backTo cp<|starEach [e] X.env).all (λx=>!x.1) && (backToKw cp<|keywordEach [] X.env).all (λx=>x.1.isSome) && decide ([e].length+([]:List Keyword).length+(if([]:List Keyword).isEmpty then 0 else 1) < 30))=true:=by rfl)
  (hline:(ap.endLine == cp.line)=true:=by rfl) (hs:starEach [e] X.env=(false,eval e X.env) :: starEach [] X.env:=by rfl) (bP:(backTo cp<|starEach [] X.env).any (·.1)=false:=by rfl) (cO:isStar e=false:=by rfl):Ev X (.Call (.Attribute o name ap) [e] [] cp) σ H Q:=
 c6 (xV pa slot qj hm bw (dS (es:=[e])) bG bY hline hs bP) (h.mono λx H1 ⟨t,h2⟩=>⟨t,al (h2.mono λy H2 q=>ay q) cO⟩)
theorem yK{name:Str}{Ty id:String}{r:V->List V->Hp->VK->Prop}(pa:PlainAttrs Ty)(slot:Slot Ty name id)(qj:typeOf (.builtin id)=pure (.type "method_descriptor"))(hm:xO X id r)
  (h:Ev X o σ H λx H1=>l4 X.K Ty x H1/\Ev X e σ H1 λy H2=>Ev X f σ H2 λz H3=>r x [y,z] H3 Q) (bG:attributeBase o name X.env (eval o X.env)=eval o X.env:=by rfl)
  (bY:((backTo cp<|starEach [e,f] X.env).all (λx=>!x.1) && (backToKw cp<|keywordEach [] X.env).all (λx=>x.1.isSome) && decide ([e,f].length+([]:List Keyword).length+(if([]:List Keyword).isEmpty then 0 else 1) < 30))=true:=by rfl)
  (hline:(ap.endLine == cp.line)=true:=by rfl) (hs:starEach [e,f] X.env=(false,eval e X.env) :: starEach [f] X.env:=by rfl) (bP:(backTo cp<|starEach [f] X.env).any (·.1)=false:=by rfl) (cO:isStar e=false:=by rfl) (SF:isStar f=false:=by rfl):Ev X (.Call (.Attribute o name ap) [e,f] [] cp) σ H Q:=
 c6 (xV pa slot qj hm bw (dS (es:=[e,f])) bG bY hline hs bP) (h.mono λx H1 ⟨t,h2⟩=>⟨t,al (h2.mono λy H2 h3=>al (h3.mono λz H3 q=>ay q) SF) cO⟩)
def insertAt(xs:List V)(i:Nat)(y:V):List V:=xs.take i++y :: xs.drop i
def SG:V->List V->Hp->VK->Prop:=λx vs H Q=>∃ l xs i y,x = .ref l/\vs=[.int i,y]/\H l=some (.lst xs)/\0<=i/\i.toNat<=xs.length/\xs.length < sizeLine/\Q .non (upd H l<|.lst<|insertAt xs i.toNat y)
theorem SH{i:Int}(h0:0<=i)(h:i<=16777216):¬(!Builtin.List.listFitsIndex i)=true:=by
 have e:Builtin.List.listFitsIndex i=true:=by
  unfold Builtin.List.listFitsIndex;rw [Br,DN,DN];omega
 rw [e];exact Ao
theorem Ir:qk X "list.insert" SG:=by
 intro pins s σ H x vs v us Q I rx rv h;obtain⟨l,xs,i,y,rfl,rfl,hH,h0,hi,hz,q⟩:=h;cases rx;obtain⟨u,w',rfl,ru,eV⟩:=rv.two;obtain⟨tk,rfl⟩:=ru;obtain⟨z,its,n,r,hl,e⟩:=I.fm hH;have hs:sizeLine=16777216:=FN;have z2:its.toArray.size<=sizeLine:=by rw [Ap,<- hl];exact z
 have mm:=AutoSeq1.list_insert_list_int_val_1 l its.toArray n i tk w' (SH h0<|by omega) z2;refine OD F.slot_list_insert ⟨_,e,rfl⟩ F.entry_list_insert (F.args_list_insert_3 _ _ _) mm ⟨e,?_⟩;have ef:(λxs:Array Value=>have k:=if i < 0 then(i+(xs.size:Int)).toNat else min i.toNat xs.size;(xs.extract 0 k).push w'++xs.extract k) its.toArray=(its.take i.toNat++w' :: its.drop i.toNat).toArray:=by
  have hn:¬ i < 0:=by omega
  have hm:min i.toNat its.length=i.toNat:=by omega
  simp only [hn,CN,Ap,hm];apply Array.ext';simp;exact Cd<|by simp
 refine⟨.non,_,I.jz (its':=its.take i.toNat++w' :: its.drop i.toNat) hH e ef ((r.take i.toNat).append<|.cons eV<|r.drop i.toNat) ?_,rfl,q⟩;rw [Af,Bj,Bi,Bm];omega
def SK:V->List V->Hp->VK->Prop:=λx vs H Q=>∃ a kvs k y,x = .ref a/\vs=[kV k,y]/\H a=some (.dK kvs)/\kvs.length < sizeLine /\
 ((∃ v,aH kvs k=some v/\Q v H)\/(aH kvs k=none/\Q y (upd H a<|.dK<|putK kvs k y)))
theorem SL:qk X "dict.setdefault" SK:=by
 intro pins s σ H x vs v us Q I rx rv h;obtain⟨a,kvs,k,y,rfl,rfl,hH,hz,q⟩:=h;cases rx;obtain⟨u,w',rfl,ru,eV⟩:=rv.two;obtain⟨z,hd,rs,rel,dd⟩:=qv I.aC hH;have hl:=rel.length;refine call_meetsIn F.slot_dict_setdefault dd.typeIs F.entry_dict_setdefault (F.args_dict_setdefault_3 _ _ _) (kt_meets_setdefault (bz X.prog X.w) a (l9 ru) hd w') ⟨rs,dd,by omega,λv hv=>?_,λhn h' gY hs=>?_⟩
 ·have fe:=rel.val k;rw [hv] at fe
  rcases q with ⟨v',e',q⟩ | ⟨e',_⟩
  ·rw [e'] at fe;exact⟨v',H,I.tok _,fe,q⟩
  ·rw [e'] at fe;exact fe.elim
 ·have fe:=rel.val k;rw [hn] at fe
  rcases q with ⟨v',e',_⟩ | ⟨e',q⟩
  ·rw [e'] at fe;exact fe.elim
  ·have he:∃ q,h'.get? a=some q:=let ⟨q,_,_,hq,_⟩:=gY;⟨q,hq⟩
   have ql:(putK kvs k y).length<=sizeLine:=by have:=gX kvs k y;omega
   exact⟨y,_,i6 I (by rw [hH];exact True.intro) hs he<|x6 ql hd (rel.put k eV) gY,eV,q⟩
theorem Iu:gU X (.type "int") (λxs H Q=>∃ b:Bool,xs=[.bl b]/\Q (.int (if b then 1 else 0)) H):=by
 intro pins s σ H xs us Q I r h;obtain⟨b,rfl,q⟩:=h;obtain⟨u,rfl,ru⟩:=vals1 r;cases (show u=Value.bool b from ru);exact call_int_bool ⟨.int (if b then 1 else 0),H,I.tok _,⟨_,rfl⟩,q⟩
theorem SM{i7:List Stmt}(Φ:Bool->Hp->Prop)(M:St->Hp->Prop)(hc:Et X c σ H Φ)(ht:∀ H1,Φ true H1->Run X body {D with nx:=M} σ H1)(hu:∀ H1,Φ false H1->Run X i7 {D with nx:=M} σ H1)
  (hr:∀ σ' H',M σ' H'->Run X rest D σ' H'):Run X (.If c body i7 pos :: rest) D σ H:=
 eY (hc.mono λk H1 p=>by
  cases k with
  | true=>rw [BL rfl];exact(ht H1 p).nx hr
  | false=>rw [BP Ao];exact(hu H1 p).nx hr)
theorem uW(W:Nat->St->Hp->Prop){m0:Nat}(h0:W m0 σ H)
  (turn:∀ m σ H,W m σ H->Et X c σ H λb H1=>if b=true then Run X body {D with nx:=λσ' H'=>∃ m',m' < m/\W m' σ' H',ct:=λσ' H'=>∃ m',m' < m/\W m' σ' H',bk:=λσ' H'=>Run X rest D σ' H'} σ H1 else Run X rest D σ H1)
  (hp:PassesOwn (model X.prog X.w) X.A X.env X.xe:=by exact KD):Run X (.While c body [] pos :: rest) D σ H:=by
 refine i8 (OV hp kC ml) ⟨W,⟨m0,h0⟩,λm σ1 H1 w1=>(turn m σ1 H1 w1).mono λb H2 q=>?_⟩;cases b with
 | true=>
  rw [BL rfl] at q;exact⟨λσ' H'=>∃ m',m' < m/\W m' σ' H',λ_ _ h=>h,q⟩
 | false=>
  rw [BP Ao] at q;exact q
theorem Iv(h:∀ p,H p=none->Q (.ref p) (upd H p<|.dK [])):Ev X (.Dict [] [] pos) σ H Q:=c6 QI h
theorem SQ(h:∀ p,H p=none->Q (.ref p) (upd H p<|.dT [])):Ev X (.Dict [] [] pos) σ H Q:=c6 QN h
theorem fU(hu:X.A.units+1 < cLine)(h:Ev X o σ H λx H1=>Ev X e σ H1 λy H2=>∃ a v,x = .ref a/\bb H2 a y (some v)/\Q v H2)(hs:me e:=by intro _ _;rfl):Ev X (.Subscript o e pos) σ H Q:=c6 (Qx hu bw bw hs) h
theorem SR(hu:X.A.units+1 < cLine)(h:Ev X e σ H λy H1=>Ev X o σ H1 λx H2=>∃ a r,x = .ref a/\bb H2 a y r/\T r.isSome H2)(hm:behindInMarks .In o=false:=by with_unfolding_all rfl):Et X (.Compare e [.In] [o] pos) σ H T:=
 qz (Om (Qy hu bw bw) hm) (h.mono λy H1 h2=>h2.mono λx H2 ⟨a,r,h3,h4,h5⟩=>⟨a,r,h3,h4,_,rfl,h5⟩)
theorem yL{p2:Pos}(hu:X.A.units+1 < cLine)(h:Ev X f σ H λv H1=>Ev X o σ H1 λx H2=>Ev X e σ H2 λy H3=>∃ a H4,x = .ref a/\cu H3 a y v H4/\Run X rest D σ H4)(hs:swapsWith f (some<|.Subscript o e p2) pos.line X.env=pure false:=by rfl) :
  Run X (.Assign [.Subscript o e p2] f pos :: rest) D σ H:=i8 (Qz hu bw bw bw hs) h
end
end L2
namespace bt
open PySem PySem.Spec PyProof.Rows
def lexLt(a b:Int×Int):Bool:=if a.1=b.1 then decide (a.2 < b.2) else decide (a.1 < b.1)
theorem SU(b:Bool)(x y:Value):keyLt' (tuples' b) x y=(do
  let xs <- Builtin.List.listItems x
  let ys <- Builtin.List.listItems y
  for ((p,q),i) in (xs.toList.zip ys.toList).zipIdx do
   if !(<- eqBool p q) then return <- oneLt' (b && i == 0) p q
  return xs.size < ys.size):=rfl
section
variable{prog:Program}{w:World}{A:Around}{E:Value->Shared->Prop}{s:Shared}
def Pr(h:Heap)(a:Addr)(p:Int×Int):Prop:=∃ o n t u,h.get? a=some o/\o.cls = .type "tuple"/\o.data = .seq #[.int p.1 t,.int p.2 u] n
theorem Iw{a b:Int}{t u:Tok}{Q:Bool->Shared->Prop}(h:Q (decide (a=b)) s):wpAny (model prog w) A (eqBool (.int a t)<|.int b u) Q E s:=by
 refine SeqAt.EqAt.int_int a t b u prog w E Q ?_;have e:(a == b)=decide (a=b):=rfl;rw [e];exact h
theorem SV{a b:Int}{t u:Tok}{Q:Bool->Shared->Prop}(h:Q (decide (a < b)) s):wpAny (model prog w) A (oneLt' false (.int a t)<|.int b u) Q E s:=by
 rw [oneLt'_eq];simp only [Av,CN];refine BJ ?_;show wpAny _ _ (compareOp .Lt (.int a t)<|.int b u) _ _ _;exact lt_int<|DR h
theorem SW{x y:Addr}{p q:Int×Int}{Q:Bool->Shared->Prop}(hx:Pr s.heap x p)(hy:Pr s.heap y q)(h:Q (lexLt p q) s):wpAny (model prog w) A (keyLt' (tuples' true) (.ref x)<|.ref y) Q E s:=by
 obtain⟨ox,nx,tx,ux,uX,cx,dx⟩:=hx;obtain⟨oy,ny,ty,uy,SX,cy,dy⟩:=hy;rw [SU];refine BJ<|listItems_at uX dx ?_;refine BJ<|listItems_at SX dy ?_;show wpAny _ _ (forIn [((Value.int p.1 tx,Value.int q.1 ty),0),((Value.int p.2 ux,Value.int q.2 uy),1)] _ _ >>= _) _ _ _;rw [QK];refine BJ<|BJ ?_
 dsimp only
 refine BJ<|Iw ?_
 by_cases c:p.1=q.1
 ·rw [BW c];simp only [Dm,Av,CN];refine BK ?_
  dsimp only
  rw [QK];refine BJ ?_
  dsimp only
  refine BJ<|Iw ?_
  by_cases c2:p.2=q.2
  ·rw [BW c2];simp only [Dm,Av,CN];refine BK ?_
   dsimp only
   rw [List.forIn_nil];refine BK<|BK ?_;have e:lexLt p q=false:=by unfold lexLt;rw [BL c,c2];simp
   rw [e] at h
   simpa using h
  ·rw [BR c2];simp only [Fo,CZ];refine BJ<|SV<|BK ?_
   dsimp only
   refine BK<|BK ?_;have e:lexLt p q=decide (p.2 < q.2):=by unfold lexLt;rw [BL c]
   rw [e] at h;exact h
 ·rw [BR c];simp only [Fo,CZ];refine BJ<|oneLt_int<|BK ?_
  dsimp only
  refine BK<|BK ?_;have e:lexLt p q=decide (p.1 < q.1):=by unfold lexLt;rw [BP c]
  rw [e] at h;exact h
theorem SY{x y:Value}:(#[x,y]:Array Value).size<=sizeLine+1:=by
 rw [FN];show 2<=_;decide
theorem SZ(v:Value):firstOfTuple' v=(do
  if(<- typeOf v) != .type "tuple" then return none
  return (<- Builtin.List.listItems v)[0]?):=rfl
theorem Iy{x:Addr}{p:Int×Int}{Q:Option Value->Shared->Prop}(hx:Pr s.heap x p)(h:∀ t,Q (some<|.int p.1 t) s):wpAny (model prog w) A (firstOfTuple'<|.ref x) Q E s:=by
 obtain⟨ox,nx,tx,ux,uX,cx,dx⟩:=hx;rw [SZ];refine BJ<|JC (T:= "tuple") ⟨ox,uX,cx⟩ ?_;rw [show(Value.type "tuple" != Value.type "tuple")=false by decide];simp only [Av,CN];refine BJ<|listItems_at uX dx ?_;exact BK<|h tx
theorem S0{x y:Addr}{p q:Int×Int}{Q:SortKind->Shared->Prop}(hx:Pr s.heap x p)(hy:Pr s.heap y q)(h:Q (tuples' true) s):wpAny (model prog w) A (keyKind' #[.ref x,.ref y]) Q E s:=by
 rw [keyKind'_eq,show(#[.ref x,.ref y]:Array Value)=[.ref x,.ref y].toArray from rfl,List.mapM_toArray];refine BJ<|wpAny_map ?_;rw [List.mapM_cons];refine BJ<|Iy hx λt=>?_;rw [List.mapM_cons];refine BJ<|BJ<|Iy hy λu=>?_;rw [List.mapM_nil];refine BJ<|BK<|BK<|BK ?_;rw [BL<|by simp];refine BJ<|GD ?_;rw [oneTypeOnly'_eq];show wpAny _ _ ((Array.mapM typeOf [Value.int p.1 t,Value.int q.1 u].toArray >>= _) >>= _) _ _ _;rw [List.mapM_toArray];have e1:[Value.int p.1 t,Value.int q.1 u].mapM typeOf=(pure [Value.type "int",Value.type "int"]:Sem _):=rfl;rw [e1];refine BK ?_;have e2:(if((#[Value.type "int",Value.type "int"]:Array Value).all λx=>x == (#[Value.type "int",Value.type "int"]:Array Value)[0])=true then some (#[Value.type "int",Value.type "int"]:Array Value)[0] else none)=some (Value.type "int"):=by
  rw [BL]
  ·rfl
  ·simp
 show Q (tuples'<|Option.any (λx=>x != Value.type "tuple") _) s;rw [e2];exact h
theorem wp_at{st:SortSt}{x y:Addr}{p q:Int×Int}{i j:Nat}{Q:Option Bool->SortSt->Prop}(hk:kindOf st=tuples' true)(hi:(arrOf st)[i]?=some (.ref x,.ref x))(hj:(arrOf st)[j]?=some (.ref y,.ref y))(hx:Pr s.heap x p)(hy:Pr s.heap y q)(h:Q (some<|lexLt p q) st) :
  wpS (model prog w) A E s (ltAt' i j) Q st:=by
 rw [ltAt'_eq];refine DY<|wpS_get ?_;show wpS _ _ _ _ (elem' (arrOf st) i >>= λa=>elem' (arrOf st) j >>= λb=>lt' a b) Q st;rw [elem'_eq,elem'_eq,hi,hj];refine DY<|HS<|DY<|HS ?_;rw [lt'_eq];refine DY<|wpS_get ?_;rw [hk];refine DY<|wpS_lift<|JQ<|SW hx hy ⟨rfl,?_⟩;exact HS h
def jc(x y:Addr)(p q:Int×Int):Array Keyed:=if lexLt q p then #[(.ref y,.ref y),(.ref x,.ref x)] else #[(.ref x,.ref x),(.ref y,.ref y)]
theorem S1{x y:Addr}{p q:Int×Int}{Q:Option Nat->SortSt->Prop}(hx:Pr s.heap x p)(hy:Pr s.heap y q)
  (h:Q (some 2)<|SortSt.mk' (tuples' true) (jc x y p q) #[] 7 none):wpS (model prog w) A E s (countRun' 0 2) Q (SortSt.mk' (tuples' true) #[(.ref x,.ref x),(.ref y,.ref y)] #[] 7 none):=by
 rw [countRun0_eq];refine DY ?_;unfold ascLoop;refine wpS_mono (KH (I:=λi c st=>st=SortSt.mk' (tuples' true) #[(.ref x,.ref x),(.ref y,.ref y)] #[] 7 none/\c=(none,i)/\(i=2->lexLt q p=false))
  (Q:=λc st=>st=SortSt.mk' (tuples' true) #[(.ref x,.ref x),(.ref y,.ref y)] #[] 7 none/\((c=(none,1)/\lexLt q p=true)\/(c=(none,2)/\lexLt q p=false))) ?_ ?_ ⟨rfl,rfl,λh=>by cases h⟩) ?_
 ·rintro i c st h1 h2 ⟨rfl,rfl,hI⟩;have e:i=1:=by omega
  subst e;refine DY<|wp_at rfl rfl rfl hy hx ?_
  dsimp only
  cases hb:lexLt q p with
  | true=>
   rw [BL rfl];exact HS ⟨rfl,.inl ⟨rfl,rfl⟩⟩
  | false=>
   rw [BP Ao];exact HS ⟨rfl,rfl,λ_=>rfl⟩
 ·rintro c st ⟨rfl,rfl,hI⟩;exact⟨rfl,.inr ⟨rfl,hI rfl⟩⟩
 ·rintro c st ⟨rfl,⟨rfl,hb⟩ | ⟨rfl,hb⟩⟩
  ·dsimp only
   rw [BP (by decide),BP<|by decide];unfold descPart;refine DY<|wpS_lift<|GD ⟨rfl,?_⟩;unfold descLoop;refine DY (wpS_mono (KH (I:=λi c st=>c=(none,2,0)/\st=SortSt.mk' (tuples' true) #[(.ref x,.ref x),(.ref y,.ref y)] #[] 7 none) (Q:=λc st=>c=(none,2,0)/\st=SortSt.mk' (tuples' true) #[(.ref x,.ref x),(.ref y,.ref y)] #[] 7 none) (λi c st h1 h2 _=>by omega) (λc st h=>h) ⟨rfl,rfl⟩) ?_);rintro c st ⟨rfl,rfl⟩
   dsimp only
   rw [BP<|by decide];unfold tail3;refine DY<|wpS_reverse ?_;unfold ascLoop;refine DY (wpS_mono (KH (I:=λi c st=>c=(none,2)/\st=SortSt.mk' (tuples' true) #[(.ref y,.ref y),(.ref x,.ref x)] #[] 7 none) (Q:=λc st=>c=(none,2)/\st=SortSt.mk' (tuples' true) #[(.ref y,.ref y),(.ref x,.ref x)] #[] 7 none) (λi c st h1 h2 _=>by omega) (λc st h=>h) ⟨rfl,rfl⟩) ?_);rintro c st ⟨rfl,rfl⟩
   dsimp only
   refine HS ?_;unfold jc at h;rw [BL hb] at h;exact h
  ·dsimp only
   rw [BL<|by decide];refine HS ?_;unfold jc at h;rw [BP<|by rw [hb];exact Ao] at h;exact h
theorem S2{x y:Addr}{p q:Int×Int}{Q:Unit->SortSt->Prop}(hx:Pr s.heap x p)(hy:Pr s.heap y q)(h:∀ st,arrOf st=jc x y p q->failedOf st=none->Q () st) :
  wpS (model prog w) A E s sortRuns' Q (SortSt.mk' (tuples' true) #[(.ref x,.ref x),(.ref y,.ref y)] #[] 7 none):=by
 rw [sortRuns'_eq];refine DY<|wpS_get ?_
 dsimp only
 have S3:minRun' 2 2 0=2:=by rw [minRun'_succ,BL<|by decide]
 show wpS _ _ _ _ ((forIn [0:2] _ _) >>= _) _ _;have sz:(#[(Value.ref x,Value.ref x),(Value.ref y,Value.ref y)]:Array Keyed).size=2:=rfl;refine DY<|wpS_mono (KH (I:=λi c st=>(i=0/\c=(none,0)/\st=SortSt.mk' (tuples' true) #[(.ref x,.ref x),(.ref y,.ref y)] #[] 7 none)\/(1<=i/\c=(none,2)/\st=SortSt.mk' (tuples' true) (jc x y p q) #[(0,2,0)] 7 none))
  (Q:=λc st=>c=(none,2)/\st=SortSt.mk' (tuples' true) (jc x y p q) #[(0,2,0)] 7 none) ?_ ?_ (.inl ⟨rfl,rfl,rfl⟩)) ?_
 ·rintro i c st h1 h2 (⟨rfl,rfl,rfl⟩ | ⟨hi,rfl,rfl⟩)
  ·dsimp only
   rw [BP<|by show ¬(0>=2);decide];refine DY ?_;show wpS _ _ _ _ (countRun' 0 2) _ _;refine S1 hx hy ?_
   dsimp only
   rw [BP<|by show ¬(2 < minRun' 2 2 0);rw [S3];decide];refine DY<|wpS_get ?_;show wpS _ _ _ _ (modify _ >>= _) _ _;exact DY<|wpS_modify<|HS<|.inr ⟨Ag _,rfl,rfl⟩
  ·dsimp only
   rw [BL<|by show 2>=2;decide];exact HS ⟨rfl,rfl⟩
 ·rintro c st (⟨h1,_,_⟩ | ⟨_,hc,hs⟩)
  ·exact absurd h1<|by decide
  ·exact⟨hc,hs⟩
 ·rintro c st ⟨rfl,rfl⟩
  dsimp only
  refine DY<|wpS_mono (KH (I:=λ_ c st=>st=SortSt.mk' (tuples' true) (jc x y p q) #[(0,2,0)] 7 none/\c=(none,())) (Q:=λc st=>st=SortSt.mk' (tuples' true) (jc x y p q) #[(0,2,0)] 7 none/\c=(none,())) ?_ (λ_ _ hh=>hh) ⟨rfl,rfl⟩) ?_
  ·rintro i c st _ _ ⟨rfl,rfl⟩;refine DY<|wpS_get ?_;rw [BL<|by show 1<=1;decide];exact HS ⟨rfl,rfl⟩
  ·rintro c st ⟨rfl,rfl⟩;exact HS<|h _ rfl rfl
theorem S4{a x y:Addr}{p q:Int×Int}{n:Nat}{P:Fin->Shared->Prop}(ho:s.heap.get? a=some (seqObj "list" #[.ref x,.ref y] n))(S6:a≠x)(S7:a≠y)(hx:Pr s.heap x p)(hy:Pr s.heap y q)
  (h:P (.done<|.ret .none) {s with heap:=sortedHeap s.heap a [.ref x,.ref y] (if lexLt p q then #[.ref y,.ref x] else #[.ref x,.ref y])}) :
  wpAny (model prog w) A (Builtin.«list.sort» ⟨[.ref a],[(Str.ofString "reverse",.bool true)]⟩) P E s:=by
 rw [list_sort_rev];have ha:a < s.heap.objs.size:=Ar ho;refine BJ<|listItems_at ho rfl ?_;refine BJ<|listUpdate_at ho rfl ?_;obtain⟨e1,oJ⟩:∃ e1,(s.heap.update a<|Obj.mapSeq λ_=>#[]).get? a=some (seqObj "list" #[] e1):=⟨_,get?_update_seq ho λ_=>#[]⟩;refine BJ<|seqEpoch_at oJ rfl ?_;refine BJ<|wpAny_newTuple ?_;refine BJ<|MP ?_;refine CJ ?_;have Iz:(((s.heap.update a<|Obj.mapSeq λ_=>#[]).push<|seqObj "tuple" [Value.ref x,Value.ref y].toArray 0).push<|seqObj "list" #[] 0).get? a=some (seqObj "list" #[] e1):=
  Ae _ (Ae _ oJ)
 show wpAny (model prog w) A _ P E {s with heap:=((s.heap.update a<|Obj.mapSeq λ_=>#[]).push<|seqObj "tuple" [Value.ref x,Value.ref y].toArray 0).push (seqObj "list" #[] 0)};have keep:∀ z r,a≠z->Pr s.heap z r->Pr (((s.heap.update a<|Obj.mapSeq λ_=>#[]).push<|seqObj "tuple" [Value.ref x,Value.ref y].toArray 0).push<|seqObj "list" #[] 0) z r:=by
  rintro z r hz ⟨o,m,t,u,q1,q2⟩;exact⟨o,m,t,u,Ae _<|Ae _<|(Bx _ _ hz).trans q1,q2⟩
 have kx:=keep x p S6 hx;have ky:=keep y q S7 hy
 dsimp only
 rw [BL rfl];refine BJ<|GD ?_;rw [BP<|by show ¬(2 < 2);decide];refine BJ<|S0 kx ky ?_;rw [BP<|by show ¬(2 < 2);decide];have e2:(if true=true then((#[Value.ref x,Value.ref y]:Array Value).zip #[Value.ref x,Value.ref y]).reverse else(#[Value.ref x,Value.ref y]:Array Value).zip #[Value.ref x,Value.ref y])=#[(Value.ref y,Value.ref y),(Value.ref x,Value.ref x)]:=by
  rw [BL rfl];simp
 rw [e2];refine BJ<|CP (S2 (Q:=λ_ st=>arrOf st=jc y x q p/\failedOf st=none) ky kx λst h1 h2=>⟨h1,h2⟩) ?_ λ_ _ e=>e;rintro ⟨⟨⟩,cC⟩ s' ⟨rfl,hs,hf⟩
 dsimp only
 have e3:(if true=true then((arrOf cC).map (·.2)).reverse else(arrOf cC).map (·.2))=(if lexLt p q then #[.ref y,.ref x] else #[.ref x,.ref y]):=by
  rw [BL rfl,hs];unfold jc
  split <;> simp
 refine BJ<|seqEpoch_at Iz rfl ?_;refine BJ (listUpdate_at Iz rfl ?_ (hsz2:=by rw [e3];split <;> exact SY));rw [hf];simp only [bne_self_eq_false,Av,CN];refine BK ?_;have e4:(λ_:Array Value=>if True then((arrOf cC).map (·.2)).reverse else(arrOf cC).map (·.2))=λ_=>(if lexLt p q then #[.ref y,.ref x] else #[.ref x,.ref y]):=by
  funext _
  rw [BL trivial];rw [BL rfl] at e3;exact e3
 rw [e4];exact h
theorem S8{l x y:Addr}{p q:Int×Int}{Q:Value->Shared->Prop}(hl:s.heap.IsList l #[.ref x,.ref y])(hx:Pr s.heap x p)(hy:Pr s.heap y q)
  (h:∀(h':Heap) (e:Nat),(∀ b u,s.heap.get? b=some u->h'.get? b=some u)->h'.get? (s.heap.objs.size+1)=some (seqObj "list" (if lexLt p q then #[.ref y,.ref x] else #[.ref x,.ref y]) e)->Q (.ref<|s.heap.objs.size+1) {s with heap:=h'}) :
  wpAny (model prog w) A (call (.builtin "sorted") [.ref l] [(Str.ofString "reverse",.bool true)]) Q E s:=by
 refine call_function_entry_kw kind_sorted plain_sorted entry_sorted (args_sorted_rev _ _) ?_;unfold Builtin.«sorted»;refine BJ (m:=checkCount "sorted" 1 1 _)<|BK ?_;refine BJ<|collect_list (vs:=[.ref x,.ref y]) hl ?_;refine BJ<|MP ?_;have hsz:((s.heap.push<|seqObj "list" #[] 0).update s.heap.objs.size (Obj.mapSeq (·++[Value.ref x,Value.ref y].toArray))).objs.size=s.heap.objs.size+1:=by
  rw [Heap.size_update,size_push']
 have ko:(((s.heap.push<|seqObj "list" #[] 0).update s.heap.objs.size (Obj.mapSeq (·++[Value.ref x,Value.ref y].toArray))).push<|seqObj "list" [Value.ref x,Value.ref y].toArray 0).get? (s.heap.objs.size+1)=some (seqObj "list" [Value.ref x,Value.ref y].toArray 0):=by
  rw [<- hsz];exact An _ rfl
 have lx:x < s.heap.objs.size:=let ⟨_,_,_,_,e,_⟩:=hx;Ar e
 have ly:y < s.heap.objs.size:=let ⟨_,_,_,_,e,_⟩:=hy;Ar e
 have keep:∀ z r,Pr s.heap z r->Pr (((s.heap.push<|seqObj "list" #[] 0).update s.heap.objs.size (Obj.mapSeq (·++[Value.ref x,Value.ref y].toArray))).push<|seqObj "list" [Value.ref x,Value.ref y].toArray 0) z r:=by
  rintro z r ⟨o,m,t,u,q1,q2⟩;have hz:=Ar q1;exact⟨o,m,t,u,Ae _<|(Bx _ _<|Cq hz).trans<|Ae _ q1,q2⟩
 show wpAny _ _ _ _ _ {s with heap:=((s.heap.push<|seqObj "list" #[] 0).update s.heap.objs.size (Obj.mapSeq (·++[Value.ref x,Value.ref y].toArray))).push (seqObj "list" [Value.ref x,Value.ref y].toArray 0)};rw [hsz];refine BJ<|CJ<|wpAny_call_entry_kw slot_list_sort ⟨_,ko,rfl⟩ entry_list_sort (S4 ko (Cq<|Cb lx) (Cq<|Cb ly) (keep x p hx) (keep y q hy) ⟨_,rfl,?_⟩)<|args_list_sort_rev _ _;obtain⟨e,he⟩:=sortedAll_at s.heap [Value.ref x,Value.ref y] (if lexLt p q then #[.ref y,.ref x] else #[.ref x,.ref y]);exact BK ⟨_,rfl,h _ e (λb u hb=>sortedAll_old hb) he⟩
end
end bt
namespace L2
open PySem PySem.Spec PyProof.Rows bt
section
variable{X:Cx}{e:Expr}{σ:St}{H:Hp}{Q:VK}{pos p kp cp:Pos}{j:Nat}
theorem IA{pins:List (Addr×Obj)}{s:Shared}{a:Addr}{i j:Int}(I:Inv X pins σ H s)(h:H a=some (.tup [.int i,.int j])):Pr s.heap a (i,j):=by
 obtain⟨its,r,pl,_⟩:=I.tuple<|aM.of h;obtain⟨u,v,rfl,⟨t,rfl⟩,⟨t',rfl⟩⟩:=vals2 r;obtain⟨o,ho,hc,n,hd⟩:=pl;exact⟨o,n,t,t',ho,hc,hd⟩
theorem S9(hm:X.mg "sorted" = none) (h:Ev X e σ H λv H1=>∃ l x y a b c d,v = .ref l/\H1 l=some (.lst [.ref x,.ref y])/\H1 x=some (.tup [.int a,.int b])/\H1 y=some (.tup [.int c,.int d]) /\
   ∀ r,H1 r=none->Q (.ref r) (upd H1 r<|.lst (if lexLt (a,b) (c,d) then [.ref y,.ref x] else [.ref x,.ref y]))) (hg:Gl X "sorted":=by rfl)
  (he:backTo pos (starEach [e] X.env)=(false,eval e X.env) :: backTo pos (starEach [] X.env):=by rfl) (bP:(backTo pos<|starEach [e] X.env).any (·.1)=false:=by rfl) (cO:isStar e=false:=by rfl) :
  Ev X (.Call (.Name "sorted" p) [e] [⟨some "reverse",.Constant (.bool true) j cp,kp⟩] pos) σ H Q:=by
 refine⟨λpins s I=>?_⟩;refine IW<|i4 I hg hm PL ?_;have hE:Ea X [e] σ H λvs H1=>∃ l x y a b c d,vs=[.ref l]/\H1 l=some (.lst [.ref x,.ref y])/\H1 x=some (.tup [.int a,.int b])/\H1 y=some (.tup [.int c,.int d]) /\
   ∀ r,H1 r=none->Q (.ref r) (upd H1 r<|.lst (if lexLt (a,b) (c,d) then [.ref y,.ref x] else [.ref x,.ref y])):=
  al (h.mono λv H1 ⟨l,x,y,a,b,c,d,e1,r1⟩=>ay ⟨l,x,y,a,b,c,d,by rw [e1],r1⟩) cO
 refine callWith_kw (aE (hE.run pos pins s I) λus s1 ⟨vs,H1,I1,r1,l,x,y,a,b,c,d,ev,hl,hx,hy,q⟩=>?_) he bP;subst ev;obtain⟨u,rfl,ru⟩:=vals1 r1;cases (show u=Value.ref l from ru);refine kws_cons<|BK<|kws_nil ?_;obtain⟨its,r2,pl,_⟩:=I1.list<|ak.of hl;obtain⟨u,v,rfl,ru,rv⟩:=vals2 r2;cases (show u=Value.ref x from ru);cases (show v=Value.ref y from rv);refine S8 pl.isList (IA I1 hx) (IA I1 hy) λh' e kp he=>?_;refine⟨.ref _,_,I1.kQ (s':={s1 with heap:=h'}) kp rfl rfl (QZ _) (show az X.prog X.w _ h' _ (.lst (if lexLt (a,b) (c,d) then [.ref y,.ref x] else [.ref x,.ref y])) from ?_),rfl,q _<|I1.aC.fresh<|QZ _⟩
 split at he
 ·rename_i hb;rw [BL hb];exact⟨by show 2<=sizeLine;rw [FN];decide,[.ref y,.ref x],e,.cons rfl (.cons rfl .nil),he⟩
 ·rename_i hb;rw [BP hb];exact⟨by show 2<=sizeLine;rw [FN];decide,[.ref x,.ref y],e,.cons rfl (.cons rfl .nil),he⟩
end
end L2
namespace Nt
open PySem
abbrev Net:=List<|Str×List Str
abbrev End:=Nat×Nat
def row(n:Net)(r:Nat):List Str:=((n[r]?).map (·.2)).getD []
def bK(n:Net)(e:End):Option Str:=(row n e.1)[e.2]?
def bx(r:Nat)(ts:List Str)(p:Nat):List (Str×End):=(ts.zipIdx p).map λx=>(x.1,(r,x.2))
def dW(r:Nat):Net->List (Str×End)
 | []=>[]
 | a :: n=>bx r a.2 0++dW (r+1) n
def aZ(n:Net):List (Str×End):=dW 0 n
def ends(n:Net):List End:=(aZ n).map (·.2)
def ag(n:Net):List Str:=n.flatMap (·.2)
def pos(n:Net)(z:Str):List End:=((aZ n).filter λx=>decide (x.1=z)).map (·.2)
theorem aX{r:Nat}{ts:List Str}{p:Nat}{z:Str}{e:End}:(z,e)∈bx r ts p↔e.1=r/\p<=e.2/\ts[e.2 - p]?=some z:=by
 unfold bx;rw [Aj]
 constructor
 ·rintro ⟨⟨y,k⟩,hm,he⟩;cases he;have:=Ej.mp hm;exact⟨rfl,this.1,this.2⟩
 ·rintro ⟨h1,h2,h3⟩;refine⟨(z,e.2),Ej.mpr ⟨h2,h3⟩,?_⟩;rw [<- h1]
theorem bd:∀{n:Net} {k:Nat} {z:Str} {e:End},(z,e)∈dW k n↔k<=e.1/\(row n<|e.1 - k)[e.2]?=some z
 | [],k,z,e=>by
  constructor
  ·intro h;cases h
  ·rintro ⟨_,h⟩;simp [row] at h
 | a :: n,k,z,e=>by
  unfold dW;rw [Aq,aX,bd]
  constructor
  ·rintro (⟨h1,_,h3⟩ | ⟨h1,h2⟩)
   ·refine⟨by omega,?_⟩;rw [show e.1 - k=0 by omega]
    simpa [row] using h3
   ·refine⟨by omega,?_⟩;rw [show e.1 - k=(e.1 - (k+1))+1 by omega]
    simpa [row] using h2
  ·rintro ⟨h1,h2⟩
   rcases Cc k e.1 with h | h
   ·refine .inr ⟨h,?_⟩;rw [show e.1 - k=(e.1 - (k+1))+1 by omega] at h2
    simpa [row] using h2
   ·refine .inl ⟨by omega,Be _,?_⟩;rw [show e.1 - k=0 by omega] at h2
    simpa [row] using h2
theorem aJ{n:Net}{z:Str}{e:End}:(z,e)∈aZ n↔bK n e=some z:=by
 unfold aZ bK;rw [bd];simp
theorem af{n:Net}{e:End}:e∈ends n↔∃ z,bK n e=some z:=by
 unfold ends;rw [Aj]
 constructor
 ·rintro ⟨⟨z,e'⟩,h,rfl⟩;exact⟨z,aJ.mp h⟩
 ·rintro ⟨z,h⟩;exact⟨(z,e),aJ.mpr h,rfl⟩
theorem bB{n:Net}{z:Str}{e:End}:e∈pos n z↔bK n e=some z:=by
 unfold pos;rw [Aj]
 constructor
 ·rintro ⟨⟨y,e'⟩,h,rfl⟩;rw [Dh,DN] at h;obtain⟨h1,h2⟩:=h;subst h2;exact aJ.mp h1
 ·intro h;exact⟨(z,e),Dh.mpr ⟨aJ.mpr h,by simp⟩,rfl⟩
theorem Ta(r:Nat):∀(ts:List Str) (p:Nat),(bx r ts p).map (·.1)=ts:=by
 intro ts p;unfold bx;rw [Bv];have:((λx:Str×End=>x.1) ∘ λx:Str×Nat=>(x.1,(r,x.2)))=Prod.fst:=rfl;rw [this,List.zipIdx_map_fst]
theorem jd:∀(n:Net) (k:Nat),(dW k n).map (·.1)=ag n
 | [],_=>rfl
 | a :: n,k=>by
  unfold dW ag;rw [Ai,Ta,jd n<|k+1,By];rfl
theorem Tb(r:Nat)(ts:List Str)(p:Nat):((bx r ts p).map (·.2)).Nodup:=by
 unfold bx;rw [Bv];have e:((λx:Str×End=>x.2) ∘ λx:Str×Nat=>(x.1,(r,x.2)))=(λk:Nat=>(r,k)) ∘ Prod.snd:=rfl;rw [e,<- Bv,List.zipIdx_map_snd];refine NK _ (R:=(·≠·)) ?_ List.nodup_range';intro a b h g6;exact h (Prod.mk.inj g6).2
theorem IB:∀(n:Net) (k:Nat),((dW k n).map (·.2)).Nodup
 | [],_=>Bw
 | a :: n,k=>by
  unfold dW;rw [Ai,Cp];refine⟨Tb _ _ _,IB n<|k+1,?_⟩;intro x hx y hy e;subst e;obtain⟨⟨z,e1⟩,h1,rfl⟩:=Aj.mp hx;obtain⟨⟨z2,e2⟩,h2,he⟩:=Aj.mp hy;simp only at he;subst he;have q1:=(aX.mp h1).1;have q2:=(bd.mp h2).1;omega
theorem uY(n:Net):(ends n).Nodup:=IB n 0
theorem Tc(n:Net)(z:Str):(pos n z).Nodup:=by
 unfold pos;exact(uY n).sublist<|List.Sublist.map _<|List.filter_sublist
theorem uZ(n:Net)(z:Str):(pos n z).length=(ag n).count z:=by
 unfold pos;rw [Aa,<- jd n 0,<- List.countP_eq_length_filter,List.count,List.countP_map];rfl
def aB(n:Net):Prop:=∀ z∈ag n,(ag n).count z=2
theorem jM{n:Net}{e:End}{z:Str}(h:bK n e=some z):z∈ag n:=by
 have:=aJ.mpr h;rw [<- jd n 0];exact Aj.mpr ⟨_,this,rfl⟩
def other(n:Net)(e:End):End:=match bK n e with
 | some z=>(match pos n z with
  | [a,b]=>if a=e then b else a
  | _=>e)
 | none=>e
theorem u5{n:Net}(T:aB n){e:End}{z:Str}(h:bK n e=some z):∃ a b,pos n z=[a,b]/\a≠b/\(e=a\/e=b):=by
 have hl:=uZ n z;rw [T z<|jM h] at hl;have hn:=Tc n z;have hm:=bB.mpr h
 match hp:pos n z,hl with
 | [a,b],_=>
  rw [hp] at hn hm;refine⟨a,b,rfl,?_,?_⟩
  ·intro e;subst e;simp at hn
  ·simpa using hm
theorem dq{n:Net}(T:aB n){e:End}{z:Str}(h:bK n e=some z):bK n (other n e)=some z/\other n (other n e)=e/\other n e≠e:=by
 obtain⟨a,b,hp,g6,he⟩:=u5 T h;have ha:bK n a=some z:=bB.mp (by rw [hp];simp);have hb:bK n b=some z:=bB.mp<|by rw [hp];simp
 rcases he with rfl | rfl
 ·have e1:other n e=b:=by unfold other;simp only [h,hp];simp
  have e2:other n b=e:=by unfold other;simp only [hb,hp];simp [g6]
  rw [e1];exact⟨hb,e2,g6.symm⟩
 ·have e1:other n e=a:=by unfold other;simp only [h,hp];simp [g6]
  have e2:other n a=e:=by unfold other;simp only [ha,hp];simp
  rw [e1];exact⟨ha,e2,g6⟩
def left(n:Net)(e:End):End:=(e.1,(e.2+1) % (row n e.1).length)
def step(n:Net)(e:End):End:=left n (other n e)
theorem iA{n:Net}{e:End}{z:Str}(h:bK n e=some z):e.2 < (row n e.1).length:=(Ac.mp h).1
theorem c7{n:Net}{e:End}{z:Str}(h:bK n e=some z):e.1 < n.length:=by
 rcases Cc e.1 n.length with c | c
 ·exact c
 ·have:=iA h;unfold row at this;rw [Ay c] at this;simp at this
theorem yM{n:Net}{e:End}(h:e.2 < (row n e.1).length):∃ z,bK n e=some z:=⟨_,Ab h⟩
theorem IC{n:Net}{e:End}(h:e∈ends n):left n e∈ends n:=by
 obtain⟨z,h⟩:=af.mp h;have:=iA h;exact af.mpr<|yM (show(e.2+1) % (row n e.1).length < (row n e.1).length from Db _<|by omega)
theorem cP{n:Net}(T:aB n){e:End}(h:e∈ends n):other n e∈ends n:=by
 obtain⟨z,h⟩:=af.mp h;exact af.mpr ⟨z,(dq T h).1⟩
theorem oQ{n:Net}(T:aB n){e:End}(h:e∈ends n):step n e∈ends n:=IC<|cP T h
theorem Td{n:Net}{a b:End}(ha:a∈ends n)(hb:b∈ends n)(h:left n a=left n b):a=b:=by
 obtain⟨z,ha⟩:=af.mp ha;obtain⟨y,hb⟩:=af.mp hb;have la:=iA ha;have lb:=iA hb;unfold left at h;obtain⟨h1,h2⟩:=Prod.mk.inj h;rw [h1] at la h2;have:a.2=b.2:=by
  rcases Cc (a.2+1) (row n b.1).length with c | c <;> rcases Cc (b.2+1) (row n b.1).length with d | d
  ·rw [Cv c,Cv d] at h2;omega
  ·have e:b.2+1=(row n b.1).length:=by omega
   rw [Cv c,e,Ec] at h2;omega
  ·have e:a.2+1=(row n b.1).length:=by omega
   rw [Cv d,e,Ec] at h2;omega
  ·omega
 exact KY h1 this
theorem yN{n:Net}(T:aB n){a b:End}(ha:a∈ends n)(hb:b∈ends n)(h:other n a=other n b):a=b:=by
 obtain⟨z,ha⟩:=af.mp ha;obtain⟨y,hb⟩:=af.mp hb;rw [<- (dq T ha).2.1,h,(dq T hb).2.1]
theorem yO{n:Net}(T:aB n){a b:End}(ha:a∈ends n)(hb:b∈ends n)(h:step n a=step n b):a=b:=
 yN T ha hb (Td (cP T ha) (cP T hb) h)
theorem kT{α:Type} [DecidableEq α]:∀{a b:List α},a.Nodup->(∀ z∈a,z∈b)->a.length<=b.length
 | [],b,_,_=>Be _
 | x :: r,b,hn,hs=>by
  rw [Bs] at hn;have hx:=hs x As;have:=kT (a:=r) (b:=b.erase x) hn.2 λz hz=>by
   have b6:z≠x:=λe=>hn.1<|e ▸ hz;exact(List.mem_erase_of_ne b6).mpr<|hs z<|Ak _ hz
  rw [List.length_erase_of_mem hx] at this;have hp:0 < b.length:=List.length_pos_of_mem hx;rw [Bj];omega
def it{α:Type}(f:α->α):Nat->α->α
 | 0,a=>a
 | k+1,a=>f<|it f k a
theorem g7{α:Type}{f:α->α}{S:List α}(hf:∀ a∈S,f a∈S){a:α}(h:a∈S):∀ k,it f k a∈S
 | 0=>h
 | k+1=>hf _<|g7 hf h k
theorem va{α:Type} [DecidableEq α] {f:α->α} {S:List α} (hf:∀ a∈S,f a∈S) (inj:∀ a∈S,∀ b∈S,f a=f b->a=b) {a:α} (h:a∈S):∃ k,0 < k/\k<=S.length/\it f k a=a:=by
 have cancel:∀ i j,it f i a=it f (i+j) a->it f j a=a:=by
  intro i
  induction i with
  | zero=>intro j e;rw [Cr] at e;exact e.symm
  | succ i ih=>
   intro j e;refine ih j ?_;rw [show i+1+j=(i+j)+1 by omega] at e;exact inj _ (g7 hf h i) _ (g7 hf h<|i+j) e
 refine DK λhn=>?_;have nd:((List.range<|S.length+1).map λi=>it f i a).Nodup:=by
  refine NK _ (R:=λi j=>i < j/\j < S.length+1) ?_ ?_
  ·rintro i j ⟨h1,h2⟩ e;refine hn ⟨j - i,by omega,by omega,cancel i (j - i) ?_⟩;rw [show i+(j - i)=j by omega];exact e
  ·rw [Bd];intro i j hi hj iB;simp only [Eb];simp at hj;exact⟨iB,hj⟩
 have:=kT nd λz hz=>by
  obtain⟨i,_,rfl⟩:=Aj.mp hz;exact g7 hf h i
 simp at this;omega
theorem iC:∀(n:Net) (r:Nat),(row n r).length<=(ag n).length
 | [],r=>by simp [row,ag]
 | a :: n,0=>by simp [row,ag]
 | a :: n,r+1=>by
  have:=iC n r;simp [row,ag] at this ⊢;omega
theorem IE:∀(n:Net) (r:Nat),(ag<|n.take r).length<=(ag n).length
 | [],r=>by simp [ag]
 | a :: n,0=>by simp [ag]
 | a :: n,r+1=>by
  have:=IE n r;simp [ag] at this ⊢;omega
structure cV(n:Net)(e:Nt.End)(fs:List End):Prop where
 pos:0 < fs.length
 len:fs.length<=(ends n).length
 at':∀ i,i < fs.length->fs[i]?=some (it (step n) i e)
 back:it (step n) fs.length e=e
 first:∀ i,0 < i->i < fs.length->it (step n) i e≠e
open L2
abbrev Ls(zs:List Str):HO:= .lst<|zs.map V.str
abbrev Tp(e:End):HO:= .tup [.int e.1,.int e.2]
structure ai(H:Hp)(R:Addr)(as:List<|Addr×Addr)(n:Net):Prop where
 len:as.length=n.length
 lst:H R=some (.lst<|as.map λa=> .ref a.1)
 tup:∀(i:Nat) a r,as[i]?=some a->n[i]?=some r->H a.1=some (.tup [.str r.1,.ref a.2])/\H a.2=some (Ls r.2)
 inj:(as.map (·.2)).Nodup
theorem ai.same{H H':Hp}{R:Addr}{as:List (Addr×Addr)}{n:Net}(h:ai H R as n)(s:aj H H'):ai H' R as n:=
 ⟨h.len,s _ _ h.lst,λi a r h1 h2=>⟨s _ _ (h.tup i a r h1 h2).1,s _ _ (h.tup i a r h1 h2).2⟩,h.inj⟩
theorem ai.at{H:Hp}{R:Addr}{as:List (Addr×Addr)}{n:Net}(h:ai H R as n){i:Nat}(hi:i < n.length) :
  ∃ a,as[i]?=some a/\dv (as.map λa=>V.ref a.1) (i:Int)=some (.ref a.1)/\H a.1=some (.tup [.str n[i].1,.ref a.2])/\H a.2=some (Ls<|row n i)/\row n i=n[i].2:=by
 have hl:=h.len;have e:as[i]?=some as[i]:=Ab (by omega);have er:row n i=n[i].2:=by unfold row;rw [Ab hi];rfl
 have q:=h.tup i as[i] n[i] e<|Ab hi;refine⟨as[i],e,ku (by rw [Ad,e];rfl),q.1,?_,er⟩;rw [er];exact q.2
theorem vb{zs:List Str}{j:Nat}{z:Str}(h:zs[j]?=some z):dv (zs.map V.str) (j:Int)=some (.str z):=ku<|by rw [Ad,h];rfl
inductive Pd (H:Hp):List Addr->List End->Prop where
 | nil:Pd H [] []
 | cons {t:Addr} {e:End} {ts:List Addr} {es:List End}:H t=some (Tp e)->Pd H ts es->Pd H (t :: ts) (e :: es)
theorem Pd.append{H:Hp}{ts us:List Addr}{es fs:List End}(h:Pd H ts es)(g:Pd H us fs):Pd H (ts++us) (es++fs):=by
 induction h with
 | nil=>exact g
 | cons h1 _ ih=>exact .cons h1 ih
theorem Pd.keep{H H':Hp}{ts:List Addr}{es:List End}(h:Pd H ts es)(k:∀ t e,H t=some (Tp e)->H' t=some (Tp e)):Pd H' ts es:=by
 induction h with
 | nil=>exact .nil
 | cons h1 _ ih=>exact .cons (k _ _ h1) ih
theorem Pd.length{H:Hp}{ts:List Addr}{es:List End}(h:Pd H ts es):ts.length=es.length:=by
 induction h with
 | nil=>rfl
 | cons _ _ ih=>rw [Bj,Bj,ih]
theorem Pd.at{H:Hp}{ts:List Addr}{es:List End}(h:Pd H ts es):∀{i:Nat} {e:End},es[i]?=some e->∃ t,ts[i]?=some t/\H t=some (Tp e):=by
 induction h with
 | nil=>intro i e h;simp at h
 | cons h1 _ ih=>
  intro i e h;cases i with
  | zero=>simp at h;subst h;exact⟨_,rfl,h1⟩
  | succ i=>simp only [List.getElem?_cons_succ] at h ⊢;exact ih h
def cJ(done:List<|Str×End)(z:Str):List End:=(done.filter λx=>decide (x.1=z)).map (·.2)
theorem fh(done:List<|Str×End)(y z:Str)(e:End):cJ (done++[(y,e)]) z=cJ done z++(if y=z then [e] else []):=by
 unfold cJ;rw [LK,Ai]
 congr 1
 by_cases h:y=z
 ·rw [BL h];simp [h]
 ·rw [BP h];simp [h]
structure aS(H0 H:Hp)(d:Addr)(done:List<|Str×End)(kvs:List<|Key×V)(ks:List Str)(A:Str->Option (Addr×List Addr)):Prop where
 same:aj H0 H
 free:H0 d=none
 dict:H d=some (.dK kvs)
 keys:kvs.map (·.1)=ks.map Sum.inr
 nodup:ks.Nodup
 mem:∀ z,z∈ks↔(A z).isSome=true
 val:∀ z,aH kvs (Sum.inr z)=(A z).map λa=> .ref a.1
 at':∀ z a ts,A z=some (a,ts)->H0 a=none/\a≠d/\H a=some (.lst<|ts.map V.ref)/\Pd H ts (cJ done z)
 inj:∀ z y a ts us,A z=some (a,ts)->A y=some (a,us)->z=y
 eC:∀ z,A z=none->cJ done z=[]
 some':∀ z a ts,A z=some (a,ts)->cJ done z≠[]
theorem aS.start{H:Hp}{d:Addr}(h:H d=none):aS H (upd H d<|.dK []) d [] [] [] (λ_=>none) where
 same:=λb u q=>by rw [au<|a9 q h];exact q
 free:=h
 dict:=ax
 keys:=rfl
 nodup:=Bw
 mem:=λz=>by simp
 val:=λz=>rfl
 at':=λz a ts h=>by cases h
 inj:=λz y a ts us h=>by cases h
 eC:=λz _=>rfl
 some':=λz a ts h=>by cases h
theorem qV{H:Hp}{t a:Addr}{e:End}{xs:List V}(h:H t=some (Tp e))(g:H a=some (.lst xs)):t≠a:=bO h g λz=>nomatch z
theorem aS.old{H0 H:Hp}{d:Addr}{done:List (Str×End)}{kvs:List (Key×V)}{ks:List Str}{A:Str->Option (Addr×List Addr)}(S:aS H0 H d done kvs ks A){z:Str}{e:End}{a l0 t:Addr}{ts:List Addr}
  (hA:A z=some (a,ts)) (hl:H l0=none) (ht:(upd H l0<|.lst []) t=none) :
  aS H0 (upd (upd (upd H l0<|.lst []) t<|Tp e) a<|.lst<|ts.map V.ref++[.ref t]) d (done++[(z,e)]) kvs ks (λy=>if y=z then some (a,ts++[t]) else A y):=by
 obtain⟨q1,q2,q3,q4⟩:=S.at' z a ts hA;have vd:H t=none:=by
  by_cases c:t=l0
  ·rw [c,ax] at ht;cases ht
  ·rwa [au c] at ht
 have ve:l0≠a:=(a9 q3 hl).symm;have vf:t≠a:=(a9 q3 vd).symm;have iD:a≠t:=vf.symm;have keep:∀ b u,b≠a->H b=some u->(upd (upd (upd H l0<|.lst []) t<|Tp e) a<|.lst<|ts.map V.ref++[.ref t]) b=some u:=λb u h1 h2=>by
  rw [au h1,au<|a9 h2 vd,au<|a9 h2 hl];exact h2
 have kt:∀ b f,H b=some (Tp f)->(upd (upd (upd H l0<|.lst []) t<|Tp e) a<|.lst<|ts.map V.ref++[.ref t]) b=some (Tp f):=λb f h=>keep b _ (qV h q3) h;have et:(upd (upd (upd H l0<|.lst []) t<|Tp e) a<|.lst<|ts.map V.ref++[.ref t]) t=some (Tp e):=by rw [au vf,ax]
 refine⟨λb u h=>?_,S.free,keep d _ (BX q2) S.dict,S.keys,S.nodup,λy=>?_,λy=>?_,λy a' fV h=>?_,λy y' a' fV us h1 h2=>?_,λy h=>?_,λy a' fV h=>?_⟩
 ·exact keep b u (a9 h q1)<|S.same _ _ h
 ·rw [S.mem y]
  by_cases c:y=z
  ·rw [BL c,c,hA];simp
  ·rw [BP c]
 ·rw [S.val y]
  by_cases c:y=z
  ·rw [BL c,c,hA];rfl
  ·rw [BP c]
 ·by_cases c:y=z
  ·rw [BL c] at h;cases h;refine⟨q1,q2,by rw [ax,Ai];rfl,?_⟩;rw [fh,c,BL rfl];exact(q4.keep kt).append<|.cons et .nil
  ·rw [BP c] at h;obtain⟨r1,r2,r3,r4⟩:=S.at' y a' fV h;have b6:a'≠a:=λe2=>c<|S.inj y z a fV ts (e2 ▸ h) hA;refine⟨r1,r2,keep _ _ b6 r3,?_⟩;rw [fh,BP λh=>c h.symm,Bh];exact r4.keep kt
 ·by_cases c:y=z <;> by_cases c':y'=z
  ·rw [c,c']
  ·rw [BL c] at h1;rw [BP c'] at h2;cases h1;exact absurd (S.inj y' z a us ts h2 hA) c'
  ·rw [BP c] at h1;rw [BL c'] at h2;cases h2;exact absurd (S.inj y z a fV ts h1 hA) c
  ·rw [BP c] at h1;rw [BP c'] at h2;exact S.inj y y' a' fV us h1 h2
 ·by_cases c:y=z
  ·rw [BL c] at h;cases h
  ·rw [BP c] at h;rw [fh,BP λh=>c h.symm,Bh];exact S.eC y h
 ·by_cases c:y=z
  ·rw [fh,BL c.symm];simp
  ·rw [BP c] at h;rw [fh,BP λh=>c h.symm,Bh];exact S.some' y a' fV h
theorem aS.new{H0 H:Hp}{d:Addr}{done:List (Str×End)}{kvs:List (Key×V)}{ks:List Str}{A:Str->Option (Addr×List Addr)}(S:aS H0 H d done kvs ks A){z:Str}{e:End}{l0 t:Addr}
  (hA:A z=none) (hl:H l0=none) (ht:(upd (upd H l0<|.lst []) d<|.dK<|putK kvs (Sum.inr z)<|.ref l0) t=none) :
  aS H0 (upd (upd (upd (upd H l0<|.lst []) d<|.dK<|putK kvs (Sum.inr z)<|.ref l0) t<|Tp e) l0<|.lst [.ref t]) d (done++[(z,e)]) (putK kvs (Sum.inr z)<|.ref l0) (ks++[z]) (λy=>if y=z then some (l0,[t]) else A y):=by
 have jN:d≠l0:=a9 S.dict hl;have yP:t≠d:=λc=>by rw [c,ax] at ht;cases ht
 have mE:t≠l0:=λc=>by rw [au yP,c,ax] at ht;cases ht
 have vd:H t=none:=by rwa [au yP,au mE] at ht
 have vn:aH kvs (Sum.inr z)=none:=by rw [S.val z,hA];rfl
 have keep:∀ b u,b≠d->H b=some u->(upd (upd (upd (upd H l0<|.lst []) d<|.dK<|putK kvs (Sum.inr z)<|.ref l0) t<|Tp e) l0<|.lst [.ref t]) b=some u:=λb u h1 h2=>by
  rw [au<|a9 h2 hl,au<|a9 h2 vd,au h1,au<|a9 h2 hl];exact h2
 have kt:∀ b f,H b=some (Tp f)->(upd (upd (upd (upd H l0<|.lst []) d<|.dK<|putK kvs (Sum.inr z)<|.ref l0) t<|Tp e) l0<|.lst [.ref t]) b=some (Tp f):=λb f h=>keep b _ (bO h S.dict λz=>nomatch z) h;have Te:H0 l0=none:=S.same.free hl;have zk:z∉ks:=λh=>by
  have:=(S.mem z).mp h;rw [hA] at this;cases this
 refine⟨λb u h=>?_,S.free,?_,?_,?_,λy=>?_,λy=>?_,λy a' fV h=>?_,λy y' a' fV us h1 h2=>?_,λy h=>?_,λy a' fV h=>?_⟩
 ·exact keep b u (a9 h S.free)<|S.same _ _ h
 ·rw [au jN,au yP.symm,ax]
 ·rw [Gs _ vn,Ai,S.keys,Ai];rfl
 ·rw [Cp];exact⟨S.nodup,by simp,λx hx y hy e=>by rw [Ah] at hy;subst hy e;exact zk hx⟩
 ·rw [Aq,Ah,S.mem y]
  by_cases c:y=z
  ·rw [BL c];simp [c]
  ·rw [BP c];simp [c]
 ·rw [ft]
  by_cases c:y=z
  ·rw [BL (by rw [c]),BL c];rfl
  ·rw [BP λh=>c<|Sum.inr.inj h,BP c,S.val y]
 ·by_cases c:y=z
  ·rw [BL c] at h;cases h;refine⟨Te,jN.symm,by rw [ax];rfl,?_⟩;rw [fh,c,BL rfl,S.eC z hA];exact .cons (by rw [au mE,ax]) .nil
  ·rw [BP c] at h;obtain⟨r1,r2,r3,r4⟩:=S.at' y a' fV h;refine⟨r1,r2,keep _ _ r2 r3,?_⟩;rw [fh,BP λh=>c h.symm,Bh];exact r4.keep kt
 ·by_cases c:y=z <;> by_cases c':y'=z
  ·rw [c,c']
  ·rw [BL c] at h1;rw [BP c'] at h2;cases h1;exact absurd hl<|by rw [(S.at' y' l0 us h2).2.2.1];exact λh=>nomatch h
  ·rw [BP c] at h1;rw [BL c'] at h2;cases h2;exact absurd hl<|by rw [(S.at' y l0 fV h1).2.2.1];exact λh=>nomatch h
  ·rw [BP c] at h1;rw [BP c'] at h2;exact S.inj y y' a' fV us h1 h2
 ·by_cases c:y=z
  ·rw [BL c] at h;cases h
  ·rw [BP c] at h;rw [fh,BP λh=>c h.symm,Bh];exact S.eC y h
 ·by_cases c:y=z
  ·rw [fh,BL c.symm];simp
  ·rw [BP c] at h;rw [fh,BP λh=>c h.symm,Bh];exact S.some' y a' fV h
theorem yQ:∀(n m:Net) (k:Nat),dW k (n++m)=dW k n++dW (k+n.length) m
 | [],m,k=>rfl
 | a :: n,m,k=>by
  show bx k a.2 0++dW (k+1) (n++m)=(bx k a.2 0++dW (k+1) n)++dW (k+(n.length+1)) m;rw [yQ n m<|k+1,Aw,show k+1+n.length=k+(n.length+1) by omega]
theorem qW{n:Net}{r:Nat}(h:r < n.length):aZ (n.take<|r+1)=aZ (n.take r)++bx r (row n r) 0:=by
 unfold aZ;rw [Ce,Ab h,yQ];have e:(n.take r).length=r:=by rw [Bi];omega
 rw [e,Cr];have er:row n r=n[r].2:=by unfold row;rw [Ab h];rfl
 rw [er];show _++(bx r n[r].2 0++[])=_;rw [Bh]
theorem oR{r:Nat}{ts:List Str}{p:Nat}{z:Str}(h:ts[p]?=some z):bx r (ts.take<|p+1) 0=bx r (ts.take p) 0++[(z,(r,p))]:=by
 unfold bx;have hp:=(Ac.mp h).1;rw [Ce,h,LQ,Ai];have e:(ts.take p).length=p:=by rw [Bi];omega
 rw [e,Cr];rfl
structure bC(H:Hp)(d:Addr)(n:Net)(ks:List Str):Prop where
 dict:∃ kvs,H d=some (.dK kvs)/\kvs.map (·.1)=ks.map Sum.inr/\∀ z∈ag n,∃ a ts,aH kvs (Sum.inr z)=some (.ref a)/\H a=some (.lst<|ts.map V.ref)/\Pd H ts (pos n z)
 nodup:ks.Nodup
 mem:∀ z,z∈ks↔z∈ag n
theorem bC.same{H H':Hp}{d:Addr}{n:Net}{ks:List Str}(S:bC H d n ks)(s:aj H H'):bC H' d n ks:=by
 obtain⟨kvs,h1,h2,h3⟩:=S.dict;refine⟨⟨kvs,s _ _ h1,h2,λz hz=>?_⟩,S.nodup,S.mem⟩;obtain⟨a,ts,q1,q2,q3⟩:=h3 z hz;exact⟨a,ts,q1,s _ _ q2,q3.keep λt e h=>s _ _ h⟩
theorem Tf{n:Net}{z:Str}:z∈ag n↔pos n z≠[]:=by
 rw [<- Ed,<- uZ,Dj]
theorem aS.whole{H0 H:Hp}{d:Addr}{n:Net}{kvs:List (Key×V)}{ks:List Str}{A:Str->Option (Addr×List Addr)}(S:aS H0 H d (aZ n) kvs ks A):bC H d n ks:=by
 have mem:∀ z,z∈ks↔z∈ag n:=λz=>by
  rw [S.mem z,Tf];cases h:A z with
  | none=>simp;exact S.eC z h
  | some p=>
   obtain⟨a,ts⟩:=p;simp;exact S.some' z a ts h
 refine⟨⟨kvs,S.dict,S.keys,λz hz=>?_⟩,S.nodup,mem⟩;have:=(S.mem z).mp<|(mem z).mpr hz;cases h:A z with
 | none=>rw [h] at this;cases this
 | some p=>
  obtain⟨a,ts⟩:=p;obtain⟨q1,q2,q3,q4⟩:=S.at' z a ts h;exact⟨a,ts,by rw [S.val z,h];rfl,q3,q4⟩
theorem all2(e:Nat->Bool):(List.range 2).all e=(e 0 && e 1):=by
 show(([0,1]:List Nat).all e)=_;simp
theorem IG(x y:End):(b8 (.int x.1) (.int y.1) && b8 (.int x.2) (.int y.2))=decide (x=y):=by
 obtain⟨a,b⟩:=x;obtain⟨c,d⟩:=y
 by_cases h:a=c <;> by_cases h2:b=d
 ·subst h h2;simp [b8]
 ·have:¬(b:Int)=(d:Int):=λe=>h2 (by omega);simp [b8,h2,this]
 ·have:¬(a:Int)=(c:Int):=λe=>h (by omega);simp [b8,h,this]
 ·have:¬(a:Int)=(c:Int):=λe=>h (by omega);simp [b8,h,this]
section
variable{X:Cx}{H:Hp}{s t:Addr}{x y:End}
theorem IH:∀(j:Nat) (u v:V),[V.int x.1,.int x.2][j]?=some u->[V.int y.1,.int y.2][j]?=some v->kR X H 0 u v (if j=0 then b8 (.int x.1) (.int y.1) else b8 (.int x.2) (.int y.2))
 | 0,u,v,h1,h2=>by
  cases h1;cases h2;exact qS rfl rfl
 | 1,u,v,h1,h2=>by
  cases h1;cases h2;exact qS rfl rfl
 | j+2,u,v,h1,h2=>by simp at h1
theorem Tg(hs:H s=some (Tp x))(ht:H t=some (Tp y)):mD X H 1 (.ref s) (.ref t) (decide (x=y)):=by
 have:=Ip (X:=X) (k:=0) (λj=>if j=0 then b8 (.int x.1) (.int y.1) else b8 (.int x.2) (.int y.2)) (aM.of hs) (aM.of ht) rfl IH;rw [show([V.int (x.1:Int),.int x.2].length)=2 from rfl,all2] at this;have e:=IG x y;simp only [CZ] at this;rw [BP (by decide),e] at this;exact this
theorem Ti(hs:H s=some (Tp x))(ht:H t=some (Tp y)):oP X H 1 (.ref s) (.ref t) (decide (x=y)):=by
 have:=Iq (X:=X) (k:=0) (λj=>if j=0 then b8 (.int x.1) (.int y.1) else b8 (.int x.2) (.int y.2)) (aM.of hs) (aM.of ht) rfl IH;rw [show([V.int (x.1:Int),.int x.2].length)=2 from rfl,all2] at this;have e:=IG x y;simp only [CZ] at this;rw [BP (by decide),e] at this;exact this
end
abbrev lets:Str:= "abcdefghijklmnopqrstuvwxyz0123456789"
theorem II:lets.cps.toList.length=36:=by decide +kernel
theorem Tj:lets.cps.toList.Nodup:=by decide +kernel
def sgn(i:Int):Nat:=(dv lets.cps.toList<|i % 36).getD 0
theorem yR(i:Int):dv lets.cps.toList (i % 36)=some (sgn i):=by
 have h0:0<=i % 36:=Bn _ (by decide);have h1:i % 36 < 36:=Bu _ (by decide);have hj:(i % 36).toNat < lets.cps.toList.length:=by rw [II];omega
 have q:=ku (xs:=lets.cps.toList) (j:=(i % 36).toNat) (v:=lets.cps.toList[(i % 36).toNat]) (by simp [hj]);rw [show(((i % 36).toNat:Nat):Int)=i % 36 by omega] at q;unfold sgn;rw [q];rfl
theorem IJ{i j:Int}(h:sgn i=sgn j):i % 36=j % 36:=by
 have key:∀ k:Int,lets.cps.toList[(k % 36).toNat]?=some (sgn k):=λk=>by
  have h0:0<=k % 36:=Bn _ (by decide);have h1:k % 36 < 36:=Bu _ (by decide);have hj:(k % 36).toNat < lets.cps.toList.length:=by rw [II];omega
  have q:=ku (xs:=lets.cps.toList) (j:=(k % 36).toNat) (v:=lets.cps.toList[(k % 36).toNat]) (by simp [hj]);rw [show(((k % 36).toNat:Nat):Int)=k % 36 by omega,yR] at q;rw [Ab hj,Option.some.inj q]
 have hi:=key i;have hj:=key j;rw [h] at hi;obtain⟨l1,e1⟩:=Ac.mp hi;obtain⟨l2,e2⟩:=Ac.mp hj;have:=(Ff (xs:=lets.cps.toList) (h₀:=l1) (h₁:=l2) Tj).mp<|e1.trans e2.symm;have a0:0<=i % 36:=Bn _ (by decide);have b0:0<=j % 36:=Bn _ (by decide);omega
def turn(b:Int)(sp:Int)(v k:Nat):Int:=b / 64+(k:Int) * (b / 7 % 5)+(if(k:Int)=sp then(v:Int) else 0)
def nm(b sp:Int)(v:Nat):Nat->Str
 | 0=>⟨#[]⟩
 | k+1=>nm b sp v k++⟨#[sgn<|turn b sp v k]⟩
theorem app_list(x y:Str):(x++y).cps.toList=x.cps.toList++y.cps.toList:=by
 show(x.cps++y.cps).toList=_;simp
theorem vg(b sp:Int)(v:Nat):∀ k,(nm b sp v k).cps.toList=(List.range k).map λj=>sgn<|turn b sp v j
 | 0=>rfl
 | k+1=>by
  show(nm b sp v k++⟨#[sgn<|turn b sp v k]⟩).cps.toList=_;rw [app_list,vg b sp v k,Fb,Ai];rfl
theorem Tl{b sp:Int}{u v k:Nat}(hu:u < 36)(hv:v < 36)(h0:0<=sp)(h1:sp < (k:Int))(h:nm b sp u k=nm b sp v k):u=v:=by
 have e:(nm b sp u k).cps.toList=(nm b sp v k).cps.toList:=by rw [h]
 rw [vg,vg] at e;have hk:sp.toNat < k:=by omega
 have q:((List.range k).map λj=>sgn<|turn b sp u j)[sp.toNat]?=((List.range k).map λj=>sgn<|turn b sp v j)[sp.toNat]?:=by rw [e]
 rw [Ad,Ad,Dk hk] at q;have q2:sgn (turn b sp u sp.toNat)=sgn (turn b sp v sp.toNat):=Option.some.inj q;have q3:=IJ q2;unfold turn at q3;rw [show((sp.toNat:Nat):Int)=sp by omega,BL rfl,BL rfl] at q3;omega
theorem fold_list(c:Nat):∀(k:Nat) (acc:Array Nat),((List.replicate k (#[c]:Array Nat)).foldl (·++·) acc).toList=acc.toList++List.replicate k c
 | 0,acc=>by simp
 | k+1,acc=>by
  rw [List.replicate_succ,Di,fold_list c k,List.replicate_succ];simp
theorem mul_list(c:Nat){i:Int}(h:1<=i):(Txt.mul ⟨#[c]⟩ i).cps.toList=List.replicate i.toNat c:=by
 unfold Txt.mul;rw [BP<|by omega]
 by_cases e:i=1
 ·subst e;rfl
 ·have e1:(i == 1 || (⟨#[c]⟩:Str).length == 0)=false:=by
   have:(i == 1)=false:=by simpa using e
   rw [this];rfl
  rw [e1];simp only [Av,CN];have:=fold_list c i.toNat #[]
  simpa using this
def aI(b:Int)(v:Nat):Str:=if b % 3=2 then Txt.mul ⟨#[sgn<|b / 64+(v:Int) / 8]⟩ (1+(v:Int) % 8) else nm b (b / 8 % (1+b % 8)) v (1+b % 8).toNat
theorem To{b:Int}{u v:Nat}(hu:u < 36)(hv:v < 36)(h:aI b u=aI b v):u=v:=by
 have s0:0<=b % 8:=Bn _ (by decide);unfold aI at h
 by_cases c:b % 3=2
 ·rw [BL c,BL c] at h;have u0:0<=(u:Int) % 8:=Bn _ (by decide);have v0:0<=(v:Int) % 8:=Bn _ (by decide);have e:(Txt.mul ⟨#[sgn<|b / 64+(u:Int) / 8]⟩<|1+(u:Int) % 8).cps.toList=(Txt.mul ⟨#[sgn<|b / 64+(v:Int) / 8]⟩<|1+(v:Int) % 8).cps.toList:=by rw [h]
  rw [mul_list _ (by omega),mul_list _<|by omega] at e;have l:=CG List.length e;rw [Eh,Eh] at l;have hd:(List.replicate (1+(u:Int) % 8).toNat<|sgn<|b / 64+(u:Int) / 8)[0]?=(List.replicate (1+(v:Int) % 8).toNat<|sgn<|b / 64+(v:Int) / 8)[0]?:=by rw [e]
  rw [Dx,Dx,BL (by omega),BL<|by omega] at hd;have q:=IJ<|Option.some.inj hd;omega
 ·rw [BP c,BP c] at h;refine Tl hu hv (Bn _<|by omega) ?_ h;have:=Bu (b / 8) (show 0 < 1+b % 8 by omega);omega
def namesOf(b:Int)(m:Nat):List Str:=(List.range m).map<|aI b
theorem vh{b:Int}{m:Nat}(h:m<=36):(namesOf b m).Nodup:=by
 unfold namesOf;refine NK _ (R:=λi j=>i < j/\j < m) ?_ ?_
 ·rintro i j ⟨h1,h2⟩ e;have:=To (by omega) (by omega) e;omega
 ·rw [Bd];intro i j hi hj iB;simp only [Eb];simp at hj;exact⟨iB,hj⟩
theorem vi(b:Int)(m:Nat):namesOf b (m+1)=namesOf b m++[aI b m]:=by
 unfold namesOf;rw [Fb,Ai];rfl
theorem yS(b:Int)(m:Nat):(namesOf b m).length=m:=by unfold namesOf;simp
theorem Tr{b:Int}{m i:Nat}(h:i < m):(namesOf b m)[i]?=some (aI b i):=by
 unfold namesOf;rw [Ad,Dk h];rfl
end Nt
namespace H3
open PySem L2
def top(i:Nat):Stmt:=PySem.Challenge.pw_threewebs_k33_whole_the_other_nets_walke.main.body.getD i<|.Pass ⟨0,0,0,0⟩
abbrev vk:Stmt:=top 4
abbrev vp:Stmt:=top 5
abbrev yT:Stmt:=top 6
abbrev yU:Stmt:=top 7
abbrev yV:Stmt:=top 8
abbrev vq:Stmt:=top 9
abbrev vt:Stmt:=top 10
abbrev vw:Stmt:=top 11
abbrev yW:Stmt:=top 13
abbrev yX:Stmt:=top 14
abbrev vx:Stmt:=top 16
abbrev yY:Stmt:=top 17
abbrev mF:Stmt:=top 19
abbrev mG:Stmt:=top 20
abbrev vy:Stmt:=top 21
abbrev mH:Stmt:=top 23
abbrev yZ:Stmt:=top 25
abbrev mI:Stmt:=top 26
abbrev y3:Stmt:=top 27
abbrev y4:Stmt:=top 28
abbrev y7:Stmt:=top 29
abbrev y8:Stmt:=top 30
abbrev y9:Stmt:=top 31
abbrev mJ:Stmt:=top 32
abbrev mK:Stmt:=top 33
abbrev vz:Stmt:=top 34
abbrev mL:Stmt:=top 35
abbrev vA:Stmt:=top 36
abbrev zb:Stmt:=top 37
abbrev gF:Stmt:=top 38
structure Txt(mg:Str->Option Value):Prop where
 isi:mg "isinstance" = none
 zc:mg "tuple" = none
 Ts:mg "str" = none
 qX:mg "int" = none
 IL:mg "bool" = none
 qY:mg "list" = none
 qZ:mg "dict" = none
 ra:mg "set" = none
 enum:mg "enumerate" = none
 zip:mg "zip" = none
 len:mg "len" = none
 range:mg "range" = none
 sorted:mg "sorted" = none
 max:mg "max" = none
 all:mg "all" = none
 Tv:mg "ValueError" = none
 rev:mg "reversed" = none
open Nt bt
theorem small{n:Nat}(h:n<=100000):n<=sizeLine:=by rw [FN];omega
theorem cf{n:Nat}(h:n<=100000):n < sizeLine:=by rw [FN];omega
theorem aN{H:Hp}{p:Addr}(h:H p=none)(o:HO):aj H (upd H p o):=λb u q=>by rw [au<|a9 q h];exact q
theorem eF{H1 H2:Hp}{r:Addr}{o:HO}(s:aj H1 H2)(h:H1 r=none):aj H1 (upd H2 r o):=λb u q=>by
 rw [au<|a9 q h];exact s _ _ q
theorem IM{H:Hp}{l:Addr}{zs:List Str}{y:Str}:upd H l (.lst<|zs.map V.str++[V.str y])=upd H l (Ls<|zs++[y]):=by
 show _=upd H l (.lst<|(zs++[y]).map V.str);rw [Ai];rfl
def vB(K:PySem.W.Frag):Sp:=λvs H Q _=>∃(a:Addr) (ns:List Int) (k:Int),vs=[.ref a,.int k]/\ak K H a (ns.map V.int)/\0<=k/\∀ i,Q (.int i) H
def zf(K:PySem.W.Frag):Sp:=λvs H Q _=>∃(a:Addr) (ns:List Int) (k:Int),vs=[.ref a,.int k]/\ak K H a (ns.map V.int)/\0<=k/\∀ i H',aj H H'->Q (.int i) H'
def zg:Sp:=λvs H Q _=>∃(b m:Int),vs=[.int b,.int m]/\0<=m/\m<=36/\∀ l H',aj H H'->H l=none->H' l=some (Ls<|namesOf b m.toNat)->Q (.ref l) H'
def vC:Sp:=λvs H Q _=>∃(R:Addr) (as:List<|Addr×Addr) (n:Net),vs=[.ref R]/\ai H R as n/\n.length<=1000/\(ag n).length<=1000/\∀ d ks H',aj H H'->H d=none->bC H' d n ks->Q (.ref d) H'
def zh:Sp:=λvs H Q _=>∃(R d t:Addr) (as:List<|Addr×Addr) (n:Net) (ks:List Str) (e:Nt.End),vs=[.ref R,.ref d,.ref t]/\ai H R as n/\bC H d n ks/\aB n/\H t=some (Tp e)/\e∈ends n/\∀ u,H u=some (Tp<|other n e)->Q (.ref u) H
def zi:Sp:=λvs H Q _=>∃(R d t:Addr) (as:List<|Addr×Addr) (n:Net) (ks:List Str) (e:Nt.End),vs=[.ref R,.ref d,.ref t,.int 1]/\ai H R as n/\bC H d n ks/\aB n/\H t=some (Tp e)/\e∈ends n/\∀ u H',aj H H'->H u=none->H' u=some (Tp<|step n e)->Q (.ref u) H'
def zj:Sp:=λvs H Q _=>∃(R d t:Addr) (as:List<|Addr×Addr) (n:Net) (ks:List Str) (e:Nt.End),vs=[.ref R,.ref d,.ref t]/\ai H R as n/\bC H d n ks/\aB n/\H t=some (Tp e)/\e∈ends n/\(ends n).length<=1000 /\
 ∀ l ts fs H',aj H H'->H l=none->H' l=some (.lst<|ts.map V.ref)->Pd H' ts fs->cV n e fs->Q (.ref l) H'
section
variable{P:Program}{w:World}{K:PySem.W.Frag}{mg:Str->Option Value}{base:Heap}
theorem Tw:ao ["_law_script","_law_k"] ["_law_script","_law_k"] (aV yZ):=⟨rfl,rfl,rfl,by decide +kernel,rfl,by decide +kernel,by decide +kernel⟩
theorem Tx{ns:List Int}{k:Int}(h0:0<=k)(h1:k < (ns.length:Int)):∃ v:Int,dv (ns.map V.int) k=some (.int v):=by
 have hj:k.toNat < ns.length:=by omega
 have q:=ku (xs:=ns.map V.int) (j:=k.toNat) (v:= .int ns[k.toNat]) (by simp [hj]);rw [show((k.toNat:Nat):Int)=k by omega] at q;exact⟨_,q⟩
theorem Tz{f:Addr}{fd:FuncData}(F:bu K "_law_cell_at" "_law_cell_at" yZ f fd)(T:Txt mg):aD P w K mg base bD 1 f fd ["_law_script","_law_k"] (vB K):=by
 refine F.gb Tw (λvs H Q E h=>?_) λb0 H vs Q E hr h=>?_
 ·obtain⟨a,ns,k,rfl,_⟩:=h;rfl
 obtain⟨a,ns,k,rfl,hS,h0,q⟩:=h;show Run _ _ _ [some<|.ref a,some<|.int k] H;refine eY<|cB Pg<|ae 1<|cL cZ T.len DQ<|al<|ae 0<|ay ⟨a,_,rfl,.inl hS,_,_,rfl,rfl,_,rfl,?_⟩;refine gu (λc=>?_) λc=>?_
 ·have c':=CQ c;obtain⟨v,hv⟩:=Tx (ns:=ns) h0 (by rw [Aa] at c';exact c');exact bS<|aT cr<|ae 0<|ae 1 ⟨a,_,_,.int v,rfl,rfl,hS,hv,q v⟩
 ·exact bg<|bS<|aA<|q 0
abbrev mM:List V:=[.int 48271,.int 69621,.int 16807,.int 39373,.int 21401,.int 60493,.int 87721,.int 31337]
abbrev eG:List V:=[.int 99991,.int 99989,.int 99971,.int 99961,.int 99929,.int 99923,.int 99907,.int 99901]
theorem eight{i:Int}(h0:0<=i)(h1:i < 8):i=0\/i=1\/i=2\/i=3\/i=4\/i=5\/i=6\/i=7:=by
 obtain⟨k,rfl⟩:=Int.eq_ofNat_of_zero_le h0;exact(by decide:∀ k:Fin 8,(k.1:Int)=0\/(k.1:Int)=1\/(k.1:Int)=2\/(k.1:Int)=3\/(k.1:Int)=4\/(k.1:Int)=5\/(k.1:Int)=6\/(k.1:Int)=7) ⟨k,Int.ofNat_lt.mp h1⟩
theorem TB{i:Int}(h0:0<=i)(h1:i < 8):∃ m:Int,dv mM i=some (.int m)/\0 < m/\m < 100000:=by
 rcases eight h0 h1 with rfl | rfl | rfl | rfl | rfl | rfl | rfl | rfl <;> exact⟨_,rfl,by decide,by decide⟩
theorem TC{i:Int}(h0:0<=i)(h1:i < 8):∃ m:Int,dv eG i=some (.int m)/\0 < m/\m < 100000:=by
 rcases eight h0 h1 with rfl | rfl | rfl | rfl | rfl | rfl | rfl | rfl <;> exact⟨_,rfl,by decide,by decide⟩
theorem kU:ao ["_law_script","_law_at","_law_by","_law_prime","_law_cell","_law_big_here","_law_k","_law_one"] ["_law_script","_law_at"] (aV mI):=⟨rfl,rfl,rfl,by decide +kernel,rfl,by decide +kernel,by decide +kernel⟩
theorem TD{f:Addr}{fd:FuncData}(F:bu K "_law_big" "_law_big" mI f fd)(T:Txt mg)(G:aP P w K mg base 1 "_law_cell_at" ["_law_script","_law_k"]<|vB K) :
  aD P w K mg base bD 2 f fd ["_law_script","_law_at"] (zf K):=by
 refine F.gb kU (λvs H Q E h=>?_) λb0 H vs Q E hr h=>?_
 ·obtain⟨a,ns,k,rfl,_⟩:=h;rfl
 obtain⟨a,ns,k,rfl,hS,h0,q⟩:=h;have nd:=kU.nd;show Run _ _ _ [some<|.ref a,some<|.int k,none,none,none,none,none,none] H;refine aO 2 nd (eX<|al<|aA<|al<|aA<|al<|aA<|al<|aA<|al<|aA<|al<|aA<|al<|aA<|al<|aA<|ay ⟨(by show 8<=sizeLine;decide),λp hp=>?_⟩);refine aO 3 nd (eX<|al<|aA<|al<|aA<|al<|aA<|al<|aA<|al<|aA<|al<|aA<|al<|aA<|al<|aA<|ay ⟨(by show 8<=sizeLine;decide),λp2 im=>?_⟩);have TF:p≠p2:=by
  intro e;rw [<- e,ax] at im;cases im
 have s1:aj H (upd H p<|.tup mM):=aN hp _;have s2:aj H (upd (upd H p<|.tup mM) p2<|.tup eG):=s1.trans<|aN im _;have e1:(upd (upd H p<|.tup mM) p2<|.tup eG) p=some (.tup mM):=by rw [au TF,ax]
 have e2:(upd (upd H p<|.tup mM) p2<|.tup eG) p2=some (.tup eG):=ax;generalize upd (upd H p<|.tup mM) p2 (.tup eG)=H2 at s2 e1 e2 ⊢;refine aO 4 nd<|bJ G hr<|al<|ae 0<|al<|ae 1<|ay ⟨a,ns,k,rfl,s2.seq hS,h0,λb=>?_⟩;show Run _ _ _ [some<|.ref a,some<|.int k,some<|.ref p,some<|.ref p2,some<|.int b,none,none,none] H2;refine He True True (λR qq=>?_) (λ_=>?_) λ_=>bg ?_
 ·refine kG (qB<|cB lX<|aQ cI<|ae 4<|aA ⟨_,_,rfl,rfl,(by show(0:Int) < 2;decide),aA ⟨rfl,_,rfl,?_⟩⟩);refine gu (λc=>?_) (λc=>qq false (λz=>nomatch z) λ_=>trivial);exact yj<|cB Ph<|ae 4<|aQ FU<|aA<|aA ⟨_,_,rfl,rfl,⟨by decide,by decide,by decide⟩,_,_,rfl,rfl,_,rfl,qq _ (λ_=>trivial) λ_=>trivial⟩
 ·exact bS<|aQ fO<|ae 4<|aA ⟨_,_,rfl,rfl,⟨by decide,by decide⟩,q _ _ s2⟩
 refine aO 5 nd<|aA ?_;refine kH T.range<|aA ⟨60,rfl,by decide,by decide,kI (n:=60) (λ_ σ H3=>H3=H2/\∃(x:Int) (u v:Option V),σ=[some<|.ref a,some<|.int k,some<|.ref p,some<|.ref p2,some<|.int b,some<|.int x,u,v]) ⟨rfl,0,_,_,rfl⟩ ?_ ?_⟩
 ·rintro i σ H3 hi ⟨rfl,x,u,v,rfl⟩;have i9:0<=(0+(i:Int)) % 9:=Bn _ (by decide);obtain⟨m1,f1,g1,g2⟩:=TB (i:=(0+(i:Int)) % 8) (Bn _<|by decide) (Bu _<|by decide);obtain⟨m2,f2,g3,g4⟩:=TC (i:=(0+(i:Int)) % 8) (Bn _<|by decide) (Bu _<|by decide);refine bo 6 nd ?_;refine aO 7 nd<|aQ d0<|aQ d0<|aQ cI<|bJ G hr<|al<|ae 0<|al<|aQ d0<|ae 1<|aQ cI<|ae 6<|aA ?_;refine⟨_,_,rfl,rfl,(by show(0:Int) < 9;decide),_,_,rfl,rfl,ay ⟨a,ns,_,rfl,s2.seq hS,?_,λc=>?_⟩⟩
  ·show 0<=k+(0+(i:Int)) % 9;omega
  refine aQ FU (aA<|aA ⟨_,_,rfl,rfl,⟨by decide,by decide,by decide⟩,_,_,rfl,rfl,(by show(0:Int) < 10 ^ (18:Int).toNat;decide),aA ⟨_,_,rfl,rfl,?_⟩⟩);refine aQ uC<|ae 6<|ae 6 ?_;refine⟨_,_,rfl,rfl,.inl ⟨by omega,by omega⟩,_,_,rfl,rfl,?_⟩;refine aO 5 nd (aQ d0<|aQ uC<|ae 5<|aA ⟨_,_,rfl,rfl,.inr ⟨by decide,by decide⟩,?_⟩);refine aQ cI (aQ cI<|aQ uC<|ae 7<|aT bU<|ae 2<|aQ cI<|ae 6<|aA ⟨_,_,rfl,rfl,(by show(0:Int) < 8;decide),p,_,_,_,rfl,rfl,aM.of e1,f1,_,_,rfl,rfl,.inr ⟨by omega,by omega⟩,?_⟩);refine aT bU (ae 3<|aQ cI<|ae 6<|aA ⟨_,_,rfl,rfl,(by show(0:Int) < 8;decide),p2,_,_,_,rfl,rfl,aM.of e2,f2,_,_,rfl,rfl,g3,aA ⟨_,_,rfl,rfl,(by show(0:Int) < 7919;decide),_,_,rfl,rfl,?_⟩⟩);exact bg ⟨rfl,_,_,_,rfl⟩
 ·rintro σ H3 ⟨rfl,x,u,v,rfl⟩;exact bS<|ae 5<|q x _ s2
abbrev NN:List Str:=["_law_stem","_law_many","_law_signs","_law_size","_law_spot","_law_names_here","_law_v","_law_name","_law_k","_law_turn"]
theorem fX:ao NN ["_law_stem","_law_many"] (aV y3):=⟨rfl,rfl,rfl,by decide +kernel,rfl,by decide +kernel,by decide +kernel⟩
theorem TH{f:Addr}{fd:FuncData}(F:bu K "_law_names" "_law_names" y3 f fd)(T:Txt mg):aD P w K mg base bD 1 f fd ["_law_stem","_law_many"] zg:=by
 refine F.gb fX (λvs H Q E h=>?_) λb0 H vs Q E hr h=>?_
 ·obtain⟨b,m,rfl,_⟩:=h;rfl
 obtain⟨b,m,rfl,m0,m1,q⟩:=h;have nd:=fX.nd;have s0:0<=b % 8:=Bn _ (by decide);have s1:b % 8 < 8:=Bu _ (by decide);show Run _ _ _ [some<|.int b,some<|.int m,none,none,none,none,none,none,none,none] H;refine aO 2 nd<|uP ?_;refine aO 3 nd (aQ d0<|aA<|aQ cI<|ae 0<|aA ⟨_,_,rfl,rfl,(by show(0:Int) < 8;decide),_,_,rfl,rfl,?_⟩);refine aO 4 nd (aQ cI<|aQ fO<|ae 0<|aA ⟨_,_,rfl,rfl,⟨by decide,by decide⟩,ae 3 ⟨_,_,rfl,rfl,(by show 0 < 1+b % 8;omega),?_⟩⟩);refine aO 5 nd<|di<|ay ⟨Z0,λl hl=>?_⟩;show Run _ _ _ [some<|.int b,some<|.int m,some<|.str lets,some<|.int<|1+b % 8,some<|.int<|b / 8 % (1+b % 8),some<|.ref l,none,none,none,none] _;have spE:b / 8 % (1+b % 8)=b / 8 % (1+b % 8):=rfl;refine kH T.range<|ae 1 ⟨m,rfl,by omega,by omega,kI (n:=m.toNat) (λi σ H3=>H3=upd H l (Ls<|namesOf b i)/\∃ u1 u2 u3 u4,σ=[some<|.int b,some<|.int m,some<|.str lets,some<|.int<|1+b % 8,some<|.int<|b / 8 % (1+b % 8),some<|.ref l,u1,u2,u3,u4]) ⟨rfl,_,_,_,_,rfl⟩ ?_ ?_⟩
 ·rintro i σ H3 hi ⟨rfl,u1,u2,u3,u4,rfl⟩;refine bo 6 nd ?_;refine aO 7 nd<|uP ?_;refine kH T.range<|ae 3 ⟨_,rfl,by omega,by omega,kI (n:=(1+b % 8).toNat) (λj σ H4=>H4=upd H l (Ls<|namesOf b i)/\∃(u3 u4:Option V),σ=[some<|.int b,some<|.int m,some<|.str lets,some<|.int<|1+b % 8,some<|.int<|b / 8 % (1+b % 8),some<|.ref l,some<|.int<|0+(i:Int),some<|.str<|nm b (b / 8 % (1+b % 8)) i j,u3,u4]) ⟨rfl,_,_,rfl⟩ ?_ ?_⟩
  ·rintro j σ H4 hj ⟨rfl,v3,v4,rfl⟩;have t0:0<=b / 7 % 5:=Bn _ (by decide);have t1:b / 7 % 5 < 5:=Bu _ (by decide);have nl:(nm b (b / 8 % (1+b % 8)) i j).length=j:=by
    have:=CG List.length<|vg b (b / 8 % (1+b % 8)) i j;show(nm b (b / 8 % (1+b % 8)) i j).cps.size=j
    simpa using this
   refine bo 8 nd ?_;refine aO 9 nd (aQ d0<|aQ fO<|ae 0<|aA ⟨_,_,rfl,rfl,⟨by decide,by decide⟩,aQ uC<|ae 8<|aQ cI<|aQ fO<|ae 0<|aA ⟨_,_,rfl,rfl,⟨by decide,by decide⟩,aA ⟨_,_,rfl,rfl,(by show(0:Int) < 5;decide),?_⟩⟩⟩);refine⟨_,_,rfl,rfl,.inr ⟨by omega,by omega⟩,_,_,rfl,rfl,?_⟩;refine Ik ((0+(j:Int))=b / 8 % (1+b % 8)) (¬(0+(j:Int))=b / 8 % (1+b % 8)) (λσ' H'=>H'=upd H l (Ls<|namesOf b i)/\σ'=[some<|.int b,some<|.int m,some<|.str lets,some<|.int<|1+b % 8,some<|.int<|b / 8 % (1+b % 8),some<|.ref l,some<|.int<|0+(i:Int),some<|.str<|nm b (b / 8 % (1+b % 8)) i j,some<|.int<|0+(j:Int),some<|.int<|turn b (b / 8 % (1+b % 8)) i j]) (λR qq=>?_) (λhc=>?_) (λhc=>bg ⟨rfl,?_⟩) ?_
   ·refine cB lX<|ae 8<|ae 4 ⟨rfl,_,rfl,?_⟩
    by_cases hc:(0+(j:Int))=b / 8 % (1+b % 8)
    ·rw [BW (show V.int (0+(j:Int))=V.int (b / 8 % (1+b % 8)) by rw [hc])];exact qq true (λ_=>hc) λh=>by cases h
    ·rw [BR λh=>hc<|V.int.inj h];exact qq false (λh=>by cases h) λ_=>hc
   ·refine aO 9 nd<|aQ d0<|ae 9<|ae 6 ⟨_,_,rfl,rfl,bg ⟨rfl,?_⟩⟩;have e:b / 64+(0+(j:Int)) * (b / 7 % 5)+(0+(i:Int))=turn b (b / 8 % (1+b % 8)) i j:=by
     unfold turn;rw [BL (by omega),Dd,Dd]
    rw [<- e];rfl
   ·have e:b / 64+(0+(j:Int)) * (b / 7 % 5)=turn b (b / 8 % (1+b % 8)) i j:=by
     unfold turn;rw [BP (by omega),Dd,Int.add_zero]
    rw [<- e];rfl
   ·rintro σ' H' ⟨rfl,rfl⟩;refine aO 7 nd<|aQ Pq<|ae 7<|aT Gf<|ae 2<|aQ cI<|ae 9<|aA ⟨_,_,rfl,rfl,(by show(0:Int) < 36;decide),lets,_,sgn<|turn b (b / 8 % (1+b % 8)) i j,rfl,rfl,by decide +kernel,yR _,_,_,rfl,rfl,small (by show(nm b (b / 8 % (1+b % 8)) i j).length+1<=100000;omega),bg ⟨rfl,_,_,rfl⟩⟩
  ·rintro σ H4 ⟨rfl,v3,v4,rfl⟩;refine Ik (b % 3=2) (¬ b % 3=2) (λσ' H'=>H'=upd H l (Ls<|namesOf b i)/\σ'=[some<|.int b,some<|.int m,some<|.str lets,some<|.int<|1+b % 8,some<|.int<|b / 8 % (1+b % 8),some<|.ref l,some<|.int<|0+(i:Int),some<|.str<|aI b i,v3,v4]) (λR qq=>?_) (λhc=>?_) (λhc=>bg ⟨rfl,?_⟩) ?_
   ·refine cB lX<|aQ cI<|ae 0<|aA ⟨_,_,rfl,rfl,(by show(0:Int) < 3;decide),aA ⟨rfl,_,rfl,?_⟩⟩
    by_cases hc:b % 3=2
    ·rw [BW (show V.int (b % 3)=V.int 2 by rw [hc])];exact qq true (λ_=>hc) λh=>by cases h
    ·rw [BR λh=>hc<|V.int.inj h];exact qq false (λh=>by cases h) λ_=>hc
   ·have e0:0<=(0+(i:Int)) % 8:=Bn _ (by decide);have e1:(0+(i:Int)) % 8 < 8:=Bu _ (by decide);refine aO 7 nd (aQ QR<|aT Gf<|ae 2<|aQ cI<|aQ d0<|aQ fO<|ae 0<|aA ⟨_,_,rfl,rfl,⟨by decide,by decide⟩,aQ fO<|ae 6<|aA ⟨_,_,rfl,rfl,⟨by decide,by decide⟩,_,_,rfl,rfl,aA ⟨_,_,rfl,rfl,(by show(0:Int) < 36;decide),lets,_,sgn<|b / 64+(0+(i:Int)) / 8,rfl,rfl,by decide +kernel,yR _,?_⟩⟩⟩);refine aQ d0 (aA<|aQ cI<|ae 6<|aA ⟨_,_,rfl,rfl,(by show(0:Int) < 8;decide),_,_,rfl,rfl,?_⟩);refine⟨_,_,rfl,rfl,by omega,by omega,?_,bg ⟨rfl,?_⟩⟩
    ·show 1 * _<=_;omega
    ·have e:Txt.mul ⟨#[sgn<|b / 64+(0+(i:Int)) / 8]⟩ (1+(0+(i:Int)) % 8)=aI b i:=by
      unfold aI;rw [BL hc,Dd]
     rw [<- e];rfl
   ·have e:nm b (b / 8 % (1+b % 8)) i (1+b % 8).toNat=aI b i:=by
     unfold aI;rw [BP hc]
    rw [<- e]
   ·rintro σ' H' ⟨rfl,rfl⟩;refine fb<|jL<|ae 5 ⟨l,rfl,⟨_,ax⟩,ae 7 ⟨_,ax,?_,?_⟩⟩
    ·rw [Aa,yS];exact cf<|by omega
    ·rw [N9];refine bg ⟨?_,_,_,_,_,rfl⟩;rw [vi];exact IM
 ·rintro σ H3 ⟨rfl,u1,u2,u3,u4,rfl⟩;exact bS<|ae 5<|q l _ (aN hl _) hl ax
theorem TJ{H:Hp}{d:Addr}{kvs:List (Key×V)}(h:H d=some (.dK kvs)):l4 K "dict" (.ref d) H:=Or.inr<|Or.inr<|Or.inl ⟨rfl,Or.inl ⟨kvs,h⟩⟩
abbrev NS:List Str:=["_law_rows","_law_seats_here","_law_r","_law_place"]
theorem fY:ao NS ["_law_rows"] (aV y4):=⟨rfl,rfl,rfl,by decide +kernel,rfl,by decide +kernel,by decide +kernel⟩
theorem TK{f:Addr}{fd:FuncData}(F:bu K "_law_seats" "_law_seats" y4 f fd)(T:Txt mg):aD P w K mg base bD 1 f fd ["_law_rows"] vC:=by
 refine F.gb fY (λvs H Q E h=>?_) λb0 H vs Q E hr h=>?_
 ·obtain⟨R,as,n,rfl,_⟩:=h;rfl
 obtain⟨R,as,n,rfl,hR,hn,ht,q⟩:=h;have nd:=fY.nd;have cA:=hR.len;show Run _ _ _ [some<|.ref R,none,none,none] H;refine aO 1 nd<|Iv λd hd=>?_;refine kH T.range (cL cZ T.len DQ<|al<|ae 0<|ay ⟨R,_,rfl,.inl<|ak.of<|aN hd _ _ _ hR.lst,_,rfl,by omega,by rw [Aa];omega,?_⟩);rw [Aa,cA,Ba];refine kI (λr σ H3=>∃ kvs ks A u1 u2,aS H H3 d (aZ<|n.take r) kvs ks A/\σ=[some<|.ref R,some<|.ref d,u1,u2]) ⟨_,_,_,_,_,aS.start hd,rfl⟩ ?_ ?_
 ·rintro r σ H3 hi ⟨kvs,ks,A',u1,u2,S,rfl⟩;rw [Dd];refine bo 2 nd ?_;obtain⟨a,ea,dX,et,el,er⟩:=(hR.same S.same).at hi;refine kH T.range<|cL cZ T.len DQ<|al<|aT bU<|aT cr<|ae 0<|ae 2 ⟨R,_,_,.ref a.1,rfl,rfl,ak.of<|S.same _ _ hR.lst,dX,aA ⟨a.1,_,_,.ref a.2,rfl,rfl,aM.of et,rfl,ay ⟨a.2,_,rfl,.inl<|ak.of el,_,rfl,by omega,?_,?_⟩⟩⟩
  ·have:(row n r).length<=1000:=by
    have h1:(row n r).length<=(ag n).length:=by
     exact iC n r
    omega
   rw [Aa];omega
  rw [Aa,Ba];refine kI (λp σ H4=>∃ kvs ks A u2,aS H H4 d (aZ (n.take r)++bx r ((row n r).take p) 0) kvs ks A/\σ=[some<|.ref R,some<|.ref d,some<|.int (r:Int),u2]) ⟨kvs,ks,A',_,by simpa [bx] using S,rfl⟩ ?_ ?_
  ·rintro p σ H4 hp ⟨kvs,ks,A',u2,S,rfl⟩;rw [Dd];refine bo 3 nd ?_;obtain⟨a,ea,dX,et,el,er⟩:=(hR.same S.same).at hi;have hz:(row n r)[p]?=some (row n r)[p]:=Ab hp;generalize (row n r)[p]=z at hz;have next:aZ (n.take r)++bx r ((row n r).take<|p+1) 0=(aZ (n.take r)++bx r ((row n r).take p) 0)++[(z,(r,p))]:=by
    rw [oR hz,Aw]
   have hlen:kvs.length < sizeLine:=by
    have h1:ks.length<=1000:=by
     refine Bz (kT (b:=ag n) S.nodup λy hy=>?_) ht;have h2:=(S.mem y).mp hy;cases hA:A' y with
     | none=>rw [hA] at h2;cases h2
     | some pr=>
      obtain⟨a2,je⟩:=pr;have h3:=S.some' y a2 je hA;unfold cJ at h3;obtain⟨x,hx⟩:=PJ _ h3;obtain⟨⟨y2,e2⟩,hm,_⟩:=Aj.mp hx;rw [Dh,DN] at hm;obtain⟨hm,rfl⟩:=hm;have:(y2,e2)∈aZ n:=by
       rcases Aq.mp hm with hm | hm
       ·have q1:=aJ.mp hm;refine aJ.mpr ?_;have q2:=c7 q1;unfold bK row at q1 ⊢;rw [Bi] at q2;rwa [Dc<|by omega] at q1
       ·have q1:=aX.mp hm;refine aJ.mpr ?_;unfold bK;rw [q1.1];have q3:=q1.2.2;rw [Fd] at q3;have q4:=(Ac.mp q3).1;rw [Bi] at q4;rwa [Dc<|by omega] at q3
      exact jM<|aJ.mp this
    have h2:=CG List.length S.keys;rw [Aa,Aa] at h2;exact cf<|by omega
   refine fb<|jL<|yK PySem.F.plainAttrs_dict PySem.F.slot_dict_setdefault PySem.F.type_dict_setdefault SL<|ae 1 ⟨TJ S.dict,aT cr<|aT bU<|aT cr<|ae 0<|ae 2 ⟨R,_,_,.ref a.1,rfl,rfl,ak.of<|S.same _ _ hR.lst,dX,aA ⟨a.1,_,_,.ref a.2,rfl,rfl,aM.of et,rfl,ae 3 ⟨a.2,_,_,.str z,rfl,rfl,ak.of el,vb hz,?_⟩⟩⟩⟩;refine di<|ay ⟨Z0,λl0 jH=>?_⟩;have jN:d≠l0:=a9 S.dict jH;refine⟨d,kvs,Sum.inr z,.ref l0,rfl,rfl,by rw [au jN];exact S.dict,hlen,?_⟩;cases hA:A' z with
   | some pr=>
    obtain⟨a2,je⟩:=pr;obtain⟨q1,q2,q3,q4⟩:=S.at' z a2 je hA;have ve:a2≠l0:=a9 q3 jH;refine .inl ⟨.ref a2,by rw [S.val z,hA];rfl,a2,rfl,⟨_,by rw [au ve];exact q3⟩,?_⟩;refine eX<|al<|ae 2<|al<|ae 3<|ay ⟨Z2,λt iz=>?_⟩;have vf:a2≠t:=λe=>by rw [<- e,au ve,q3] at iz;cases iz
    refine⟨je.map V.ref,by rw [au vf,au ve];exact q3,?_,?_⟩
    ·rw [Aa,q4.length];have h1:(cJ (aZ (n.take r)++bx r ((row n r).take p) 0) z).length<=100000:=by
      unfold cJ;rw [Aa];refine Bz (RK _ _) ?_;rw [Af];have h2:(aZ<|n.take r).length<=1000:=by
       have:=CG List.length<|jd (n.take r) 0;rw [Aa] at this;unfold aZ;rw [this];exact Bz (IE n r) ht
      have h3:(bx r ((row n r).take p) 0).length<=1000:=by
       unfold bx;rw [Aa,List.length_zipIdx,Bi];have h1:(row n r).length<=(ag n).length:=by
        exact iC n r
       omega
      omega
     exact cf h1
    ·refine bg ⟨kvs,ks,(λy=>if y=z then some (a2,je++[t]) else A' y),_,?_,rfl⟩;rw [next];exact S.old (e:=(r,p)) hA jH iz
   | none=>
    refine .inr ⟨by rw [S.val z,hA];rfl,l0,rfl,⟨_,by rw [au jN.symm];exact ax⟩,?_⟩;refine eX<|al<|ae 2<|al<|ae 3<|ay ⟨Z2,λt iz=>?_⟩;have mE:l0≠t:=λe=>by rw [<- e,au jN.symm,ax] at iz;cases iz
    refine⟨[],by rw [au mE,au jN.symm,ax],by show 0 < sizeLine;decide,?_⟩;refine bg ⟨putK kvs (Sum.inr z)<|.ref l0,ks++[z],(λy=>if y=z then some (l0,[t]) else A' y),_,?_,rfl⟩;rw [next];exact S.new (e:=(r,p)) hA jH iz
  ·rintro σ H4 ⟨kvs,ks,A',u2,S,rfl⟩;refine bg ⟨kvs,ks,A',_,_,?_,rfl⟩;rw [qW hi];rwa [Ca] at S
 ·rintro σ H3 ⟨kvs,ks,A',u1,u2,S,rfl⟩;rw [Ca] at S;exact bS<|ae 1<|q d ks H3 S.same S.free S.whole
abbrev NO:List Str:=["_law_rows","_law_seats_here","_law_end","_law_pair"]
theorem fZ:ao NO ["_law_rows","_law_seats_here","_law_end"] (aV y7):=⟨rfl,rfl,rfl,by decide +kernel,rfl,by decide +kernel,by decide +kernel⟩
theorem TL{f:Addr}{fd:FuncData}(F:bu K "_law_other" "_law_other" y7 f fd)(T:Txt mg):aD P w K mg base bD 1 f fd ["_law_rows","_law_seats_here","_law_end"] zh:=by
 refine F.gb fZ (λvs H Q E h=>?_) λb0 H vs Q E hr h=>?_
 ·obtain⟨R,d,t,as,n,ks,e,rfl,_⟩:=h;rfl
 obtain⟨R,d,t,as,n,ks,e,rfl,hR,hS,hT,ht,he,q⟩:=h;have nd:=fZ.nd;have hu:=hr.dH;obtain⟨z,hz⟩:=af.mp he;have aK:=c7 hz;obtain⟨a,ea,dX,et,el,er⟩:=hR.at aK;obtain⟨kvs,h1,h2,h3⟩:=hS.dict;obtain⟨pa,ts,v1,v2,v3⟩:=h3 z<|jM hz;obtain⟨x,y,hp,hxy,uU⟩:=u5 hT hz;rw [hp] at v3;cases v3 with
 | cons x1 v3=>
 cases v3 with
 | cons y1 v3=>
 cases v3;rename_i tx ty;show Run _ _ _ [some<|.ref R,some<|.ref d,some<|.ref t,none] H;have rc:=hr.u1;refine aO 3 nd<|fU rc<|ae 1<|aT cr<|aT bU<|aT cr<|ae 0<|aT bU<|ae 2<|aA ⟨t,_,_,.int (e.1:Int),rfl,rfl,aM.of ht,rfl,R,_,_,.ref a.1,rfl,rfl,ak.of hR.lst,dX,aA ⟨a.1,_,_,.ref a.2,rfl,rfl,aM.of et,rfl,?_⟩⟩;refine aT bU (ae 2<|aA ⟨t,_,_,.int (e.2:Int),rfl,rfl,aM.of ht,rfl,a.2,_,_,.str z,rfl,rfl,ak.of el,vb hz,d,.ref pa,rfl,by rw [<- v1];exact bb.k (k:=Sum.inr z) h1,?_⟩);show Run _ _ _ [some<|.ref R,some<|.ref d,some<|.ref t,some<|.ref pa] H;refine bS<|aT cr<|ae 3<|uQ Iu T.qX RL<|al<|yh (qT hu)<|aT cr<|ae 3<|aA ⟨pa,_,_,.ref tx,rfl,rfl,ak.of v2,rfl,ae 2 ⟨1,_,by decide,Tg x1 ht,?_⟩⟩
 by_cases c:x=e
 ·rw [BW c];refine ay ⟨_,rfl,pa,[.ref tx,.ref ty],1,.ref ty,rfl,rfl,ak.of v2,rfl,q ty ?_⟩;have e1:other n e=y:=by unfold other;simp only [hz,hp];simp [c]
  rw [e1];exact y1
 ·rw [BR c];refine ay ⟨_,rfl,pa,[.ref tx,.ref ty],0,.ref tx,rfl,rfl,ak.of v2,rfl,q tx ?_⟩;have e1:other n e=x:=by unfold other;simp only [hz,hp];simp [c]
  rw [e1];exact x1
abbrev NT:List Str:=["_law_rows","_law_seats_here","_law_end","_law_turn","_law_other_here"]
theorem iE:ao NT ["_law_rows","_law_seats_here","_law_end","_law_turn"] (aV y8):=⟨rfl,rfl,rfl,by decide +kernel,rfl,by decide +kernel,by decide +kernel⟩
theorem TQ{f:Addr}{fd:FuncData}(F:bu K "_law_step" "_law_step" y8 f fd)(T:Txt mg)(G:aP P w K mg base 1 "_law_other" ["_law_rows","_law_seats_here","_law_end"] zh) :
  aD P w K mg base bD 2 f fd ["_law_rows","_law_seats_here","_law_end","_law_turn"] zi:=by
 refine F.gb iE (λvs H Q E h=>?_) λb0 H vs Q E hr h=>?_
 ·obtain⟨R,d,t,as,n,ks,e,rfl,_⟩:=h;rfl
 obtain⟨R,d,t,as,n,ks,e,rfl,hR,hS,hT,ht,he,q⟩:=h;have nd:=iE.nd;have ho:=cP hT he;obtain⟨z,hz⟩:=af.mp ho;have aK:=c7 hz;have gW:=iA hz;obtain⟨a,ea,dX,et,el,er⟩:=hR.at aK;show Run _ _ _ [some<|.ref R,some<|.ref d,some<|.ref t,some<|.int 1,none] H;refine aO 4 nd<|bJ G hr<|al<|ae 0<|al<|ae 1<|al<|ae 2<|ay ⟨R,d,t,as,n,ks,e,rfl,hR,hS,hT,ht,he,λu hu=>?_⟩;show Run _ _ _ [some<|.ref R,some<|.ref d,some<|.ref t,some<|.int 1,some<|.ref u] H;refine bS<|eX<|al<|aT bU<|ae 4<|aA ⟨u,_,_,.int ((other n e).1:Int),rfl,rfl,aM.of hu,rfl,?_⟩;refine al<|aQ cI<|aQ d0<|aT bU<|ae 4<|aA ⟨u,_,_,.int ((other n e).2:Int),rfl,rfl,aM.of hu,rfl,ae 3 ⟨_,_,rfl,rfl,?_⟩⟩;refine cL cZ T.len DQ<|al<|aT bU<|aT cr<|ae 0<|aT bU<|ae 4<|aA ⟨u,_,_,.int ((other n e).1:Int),rfl,rfl,aM.of hu,rfl,R,_,_,.ref a.1,rfl,rfl,ak.of hR.lst,dX,aA ⟨a.1,_,_,.ref a.2,rfl,rfl,aM.of et,rfl,ay ⟨a.2,_,rfl,.inl<|ak.of el,?_⟩⟩⟩;rw [Aa];refine⟨_,_,rfl,rfl,by omega,ay ⟨Z2,λp hp=>?_⟩⟩;refine q p _ (aN hp _) hp ?_;rw [ax];unfold Nt.step Nt.left;show some (HO.tup [.int ((other n e).1:Int),.int<|(((other n e).2:Int)+1) % ((row n (other n e).1).length:Int)])=some (HO.tup [.int ((other n e).1:Int),.int ((((other n e).2+1) % (row n (other n e).1).length:Nat):Int)]);rw [Int.natCast_emod];rfl
abbrev NF:List Str:=["_law_rows","_law_seats_here","_law_end","_law_face_here","_law_here"]
theorem iF:ao NF ["_law_rows","_law_seats_here","_law_end"] (aV y9):=⟨rfl,rfl,rfl,by decide +kernel,rfl,by decide +kernel,by decide +kernel⟩
def d9(n:Net)(e:Nt.End)(j:Nat):List Nt.End:=(List.range j).map λi=>it (step n) i e
theorem TR(n:Net)(e:Nt.End)(j:Nat):d9 n e (j+1)=d9 n e j++[it (step n) j e]:=by
 unfold d9;rw [Fb,Ai];rfl
theorem TU{f:Addr}{fd:FuncData}(F:bu K "_law_face" "_law_face" y9 f fd)(T:Txt mg)(G:aP P w K mg base 2 "_law_step" ["_law_rows","_law_seats_here","_law_end","_law_turn"] zi) :
  aD P w K mg base bD 3 f fd ["_law_rows","_law_seats_here","_law_end"] zj:=by
 refine F.gb iF (λvs H Q E h=>?_) λb0 H vs Q E hr h=>?_
 ·obtain⟨R,d,t,as,n,ks,e,rfl,_⟩:=h;rfl
 obtain⟨R,d,t,as,n,ks,e,rfl,hR,hS,hT,ht,he,hb,q⟩:=h;have nd:=iF.nd;have hu:=hr.dH;obtain⟨k,k0,k1,k2⟩:=va (f:=step n) (S:=ends n) (λa ha=>oQ hT ha) (λa ha b hb=>yO hT ha hb) he;show Run _ _ _ [some<|.ref R,some<|.ref d,some<|.ref t,none,none] H;refine aO 3 nd<|di<|al<|ae 2<|ay ⟨Z1,λl hl=>?_⟩;have g1:=aN hl<|.lst [.ref t];refine aO 4 nd<|bJ G hr<|al<|ae 0<|al<|ae 1<|al<|ae 2<|al<|aA<|ay ⟨R,d,t,as,n,ks,e,rfl,hR.same g1,hS.same g1,hT,g1 _ _ ht,he,λu H1 s1 nu eu=>?_⟩;show Run _ _ _ [some<|.ref R,some<|.ref d,some<|.ref t,some<|.ref l,some<|.ref u] H1;refine uW (λm σ H2=>∃(j:Nat) (ts:List Addr) (u:Addr),m=k - j/\0 < j/\j<=k/\aj H H2/\H2 l=some (.lst<|ts.map V.ref)/\Pd H2 ts (d9 n e j)/\H2 u=some (Tp<|it (step n) j e)/\(∀ i,0 < i->i < j->it (step n) i e≠e)/\σ=[some<|.ref R,some<|.ref d,some<|.ref t,some<|.ref l,some<|.ref u])
  (m0:=k - 1) ⟨1,[t],u,rfl,Fh,k0,g1.trans s1,s1 _ _ ax,.cons (s1 _ _<|g1 _ _ ht) .nil,eu,λi h1 h2=>by omega,rfl⟩ ?_
 rintro m σ H2 ⟨j,ts,u,rfl,j0,j1,sH,el,ep,eu,hf,rfl⟩;refine cB (qU hu) (ae 4<|ae 2 ⟨1,_,by decide,Ti eu<|sH _ _ ht,_,rfl,?_⟩);have pl:=ep.length;have ol:(d9 n e j).length=j:=by unfold d9;simp
 by_cases c:it (step n) j e=e
 ·rw [BW c];refine bH (bS<|ae 3<|q l ts (d9 n e j) H2 sH hl el ep ⟨by omega,by omega,λi hi=>?_,by rw [ol];exact c,λi h1 h2=>hf i h1<|by omega⟩);unfold d9;rw [Ad,Dk<|by omega];rfl
 ·rw [BR c];have jk:j < k:=by
   rcases Cc j k with h | h
   ·exact h
   ·have:j=k:=by omega
    subst this;exact absurd k2 c
  refine bI (fb<|jL<|ae 3 ⟨l,rfl,⟨_,el⟩,ae 4 ⟨_,el,by rw [Aa];exact cf (by omega),?_⟩⟩);have s2:aj H (upd H2 l<|.lst<|ts.map V.ref++[.ref u]):=eF sH hl;have kt:∀ b f,H2 b=some (Tp f)->(upd H2 l<|.lst<|ts.map V.ref++[.ref u]) b=some (Tp f):=λb f h=>by
   rw [au<|qV h el];exact h
  have IP:=kt u _ eu;refine aO 4 nd<|bJ G hr<|al<|ae 0<|al<|ae 1<|al<|ae 4<|al<|aA<|ay ⟨R,d,u,as,n,ks,it (step n) j e,rfl,hR.same s2,hS.same s2,hT,IP,g7 (λa ha=>oQ hT ha) he j,λv H3 s3 nv ev=>?_⟩;refine bg ⟨k - (j+1),by omega,j+1,ts++[u],v,rfl,Dr _,jk,s2.trans s3,?_,?_,ev,λi h1 h2=>?_,rfl⟩
  ·rw [Ai];exact s3 _ _ ax
  ·rw [TR];exact(ep.keep λb f h=>s3 _ _<|kt b f h).append<|.cons (s3 _ _ IP) .nil
  ·rcases Nat.lt_succ_iff_lt_or_eq.mp h2 with h | h
   ·exact hf i h1 h
   ·rw [h];exact c
end
end H3
namespace Nt
open PySem L2
def Full(n:Net):Prop:=(∃ nm,n=[(nm,[])])\/(n≠[]/\∀ i,i < n.length->row n i≠[])
def g8(n:Net)(c:End):Prop:=c.1 < n.length/\c.2 < max 1 (row n c.1).length
def ins(n:Net)(c:End)(z:Str):Net:=n.modify c.1 λr=>(r.1,r.2.take c.2++z :: r.2.drop c.2)
theorem zp(n:Net)(c:End)(z:Str):(ins n c z).length=n.length:=by unfold ins;rw [List.length_modify]
theorem zq(n:Net)(c:End)(z:Str):(ins n c z).map (·.1)=n.map (·.1):=by
 unfold ins;refine Ck λi=>?_;rw [Ad,Ad,Fi];cases n[i]? with
 | none=>rfl
 | some r=>by_cases h:c.1=i <;> simp [h]
theorem IQ(n:Net)(c:End)(z:Str)(i:Nat)(hc:c.1 < n.length):row (ins n c z) i=if c.1=i then(row n i).take c.2++z :: (row n i).drop c.2 else row n i:=by
 unfold row ins;rw [Fi]
 by_cases h:c.1=i
 ·subst h;rw [Ab hc];simp
 ·rw [BP h];cases n[i]? with
  | none=>simp [h]
  | some r=>simp [h]
theorem rd:∀(n:Net) (c:End) (z:Str),c.1 < n.length->(ag<|ins n c z).Perm (z :: ag n)
 | [],c,z,h=>by simp at h
 | a :: n,(0,p),z,h=>by
  unfold ins ag;simp only [List.modify_zero_cons,By];have:(a.2.take p++z :: a.2.drop p).Perm (z :: a.2):=by
   refine List.perm_middle.trans ?_;rw [Da]
  exact this.append_right _
 | a :: n,(i+1,p),z,h=>by
  have ih:=rd n (i,p) z (by simpa using h);unfold ins ag at ih ⊢;simp only [List.modify_succ_cons,By];refine(ih.append_left a.2).trans ?_;exact List.perm_middle
theorem zu{n:Net}{c:End}{z:Str}(F:Full n)(hc:c.1 < n.length):n.length=1\/(∀ i,i < n.length->row n i≠[])->(∀ i,i < (ins n c z).length->row (ins n c z) i≠[])/\ins n c z≠[]:=by
 intro h;have hl:=zp n c z;refine⟨λi hi=>?_,λe=>?_⟩
 ·rw [IQ n c z i hc]
  by_cases q:c.1=i
  ·rw [BL q];simp
  ·rw [BP q]
   rcases h with h | h
   ·rw [hl] at hi;omega
   ·exact h i<|by omega
 ·rw [e] at hl;simp at hl;omega
theorem Full.some{n:Net}(F:Full n):n≠[]:=by
 rcases F with ⟨nm,rfl⟩ | h
 ·simp
 ·exact h.1
theorem Full.either{n:Net}(F:Full n):n.length=1\/(∀ i,i < n.length->row n i≠[]):=by
 rcases F with ⟨nm,rfl⟩ | h
 ·exact .inl rfl
 ·exact .inr h.2
theorem Full.mO{n:Net}(F:Full n)(h0:row n 0≠[]){c:End}(hc:g8 n c):c∈ends n:=by
 rcases F with ⟨nm,rfl⟩ | h
 ·exact absurd rfl h0
 ·have:=h.2 c.1 hc.1;have hp:0 < (row n c.1).length:=Dj.mpr this;have aK:c.2 < (row n c.1).length:=by
   have:=hc.2;omega
  exact af.mpr<|yM aK
theorem TV{n:Net}{e:End}(h:e∈ends n):g8 n e:=by
 obtain⟨z,h⟩:=af.mp h;have:=iA h;exact⟨c7 h,by omega⟩
def mP(H H':Hp)(bad:List Addr):Prop:=∀ b o,H b=some o->b∉bad->H' b=some o
theorem IT(zs:List Str)(i:Nat)(z:Str):insertAt (zs.map V.str) i (.str z)=(zs.take i++z :: zs.drop i).map V.str:=by
 unfold insertAt;rw [Ai,Bb,Fg,Ey]
theorem ai.ins{H:Hp}{R:Addr}{as:List (Addr×Addr)}{n:Net}(h:ai H R as n){c:End}{z:Str}{a:Addr×Addr}(ha:as[c.1]?=some a)(hc:c.1 < n.length) :
  ai (upd H a.2<|Ls<|(row n c.1).take c.2++z :: (row n c.1).drop c.2) R as (Nt.ins n c z):=by
 have q0:=h.tup c.1 a n[c.1] ha<|Ab hc;have TX:R≠a.2:=by
  intro e;have h1:=h.lst;rw [e,q0.2] at h1;have h2:=HO.lst.inj<|Option.some.inj h1;have h3:=CG List.length h2;cases hm:n[c.1].2 with
  | nil=>
   rw [hm] at h2;have:as.map (λa=>V.ref a.1)=[]:=h2.symm;have hl:=CG List.length this;rw [Aa,h.len] at hl;rw [hl] at hc;exact absurd hc<|Cg _
  | cons y r=>
   rw [hm] at h2;cases as with
   | nil=>simp at h2
   | cons b bs=>
    simp at h2
 have er:row n c.1=n[c.1].2:=by unfold row;rw [Ab hc];rfl
 refine⟨by rw [zp];exact h.len,by rw [au TX];exact h.lst,λi b r hb hr=>?_,h.inj⟩;unfold Nt.ins at hr;rw [Fi] at hr;cases hn:n[i]? with
 | none=>rw [hn] at hr;by_cases q:c.1=i <;> simp [q] at hr
 | some r0=>
  rw [hn] at hr;have q1:=h.tup i b r0 hb hn;have t1:b.1≠a.2:=bO q1.1 q0.2 λe=>nomatch e
  by_cases q:c.1=i
  ·subst q;rw [Ab hc] at hn;cases hn;rw [ha] at hb;cases hb;simp at hr;subst hr;refine⟨by rw [au t1];exact q1.1,?_⟩;rw [ax,er]
  ·simp [q] at hr;subst hr;have t2:b.2≠a.2:=λe=>by
    have l1:i < as.length:=(Ac.mp hb).1;have l2:c.1 < as.length:=(Ac.mp ha).1;have x1:(as.map (·.2))[i]?=some b.2:=by rw [Ad,hb];rfl
    have x2:(as.map (·.2))[c.1]?=some a.2:=by rw [Ad,ha];rfl
    obtain⟨y1,z1⟩:=Ac.mp x1;obtain⟨y2,z2⟩:=Ac.mp x2;exact q<|(Ff (h₀:=y2) (h₁:=y1) h.inj).mp<|z2.trans<|e.symm.trans z1.symm
   exact⟨by rw [au t1];exact q1.1,by rw [au t2];exact q1.2⟩
theorem ai.more{H:Hp}{R t l:Addr}{as:List (Addr×Addr)}{n:Net}{pt:Str}{zs:List Str}(h:ai H R as n)(ht:H t=some (.tup [.str pt,.ref l]))(hl:H l=some (Ls zs))(hn:l∉as.map (·.2))(hR:l≠R) :
  ai (upd H R<|.lst<|as.map (λa=>V.ref a.1)++[.ref t]) R (as++[(t,l)]) (n++[(pt,zs)]):=by
 have cA:=h.len;refine⟨by rw [Af,Af,cA];rfl,by rw [ax,Ai];rfl,λi b r hb hr=>?_,?_⟩
 ·rcases Cc i as.length with c | c
  ·rw [At c] at hb;rw [At<|by omega] at hr;have q:=h.tup i b r hb hr;have t1:b.1≠R:=bO q.1 h.lst λe=>nomatch e;have t2:b.2≠R:=by
    intro e;have h1:=h.lst;rw [<- e,q.2] at h1;have h2:=HO.lst.inj<|Option.some.inj h1;cases as with
    | nil=>simp at c
    | cons b' bs=>
     cases hm:r.2 with
     | nil=>rw [hm] at h2;simp at h2
     | cons y r=>rw [hm] at h2;simp at h2
   exact⟨by rw [au t1];exact q.1,by rw [au t2];exact q.2⟩
  ·have e:i=as.length:=by
    have:=(Ac.mp hb).1;rw [Af] at this;simp at this;omega
   subst e;rw [Au<|Ag _] at hb;rw [cA,Au<|Ag _] at hr;simp at hb hr;subst hb hr;have t1:t≠R:=bO ht h.lst λe=>nomatch e;exact⟨by rw [au t1];exact ht,by rw [au hR];exact hl⟩
 ·rw [Ai,Cp];exact⟨h.inj,by simp,λx hx y hy e=>by simp at hy;subst hy e;exact hn hx⟩
theorem ai.lists{H:Hp}{R:Addr}{as:List (Addr×Addr)}{n:Net}(h:ai H R as n){x:Addr×Addr}(hx:x∈as):∃ zs,H x.2=some (Ls zs):=by
 obtain⟨i,hi,e⟩:=Fj.mp hx;have hl:=h.len;exact⟨_,(h.tup i x (n[i]'(by omega)) (by rw [<- e];exact Ab hi)<|Ab<|by omega).2⟩
theorem ai.fresh{H:Hp}{R l:Addr}{as:List (Addr×Addr)}{n:Net}(h:ai H R as n)(hl:H l=none){x:Addr×Addr}(hx:x∈as):l≠x.2:=by
 obtain⟨zs,e⟩:=h.lists hx;exact(a9 e hl).symm
theorem jO(n:Net):(ends n).length=(ag n).length:=by
 unfold ends aZ;rw [Aa,<- jd n 0,Aa]
theorem cV.ends{n:Net}(T:aB n){e:End}{fs:List End}(h:cV n e fs)(he:e∈ends n):∀ c∈fs,c∈Nt.ends n:=by
 intro c hc;obtain⟨i,hi,e2⟩:=Fj.mp hc;have:=h.at' i hi;rw [Ab hi,e2] at this;rw [Option.some.inj this];exact g7 (λa ha=>oQ T ha) he i
theorem zv{n:Net}{c k:End}{z:Str}(hc:g8 n c)(hk:k.1 < n.length):g8 (ins n k z) c:=by
 refine⟨by rw [zp];exact hc.1,?_⟩;rw [IQ n k z c.1 hk];have:=hc.2
 split
 ·rw [Af,Bj,Bi,Bm];omega
 ·exact this
end Nt
namespace H3
open PySem L2 Nt bt
def zx:Sp:=λvs H Q _=>∃(R:Addr) (as:List<|Addr×Addr) (n:Net) (b:Int) (z pt:Str),vs=[.ref R,.int b,.str z,.str pt]/\ai H R as n/\aB n/\Full n/\z∉ag n/\n.length<=100/\(ag n).length<=100 /\
 ∀ i mQ n' H',ai H' R mQ n'->mP H H' (R :: as.map (·.2))->(∀ a∈mQ,a∈as\/H a.2=none)->(ag n').Perm (z :: z :: ag n)->(n'.map (·.1)=n.map (·.1)\/n'.map (·.1)=n.map (·.1)++[pt])->Full n'->Q (.int i) H'
section
variable{P:Program}{w:World}{K:PySem.W.Frag}{mg:Str->Option Value}{base:Heap}
abbrev NP:List Str:=["_law_rows","_law_big_here","_law_tie","_law_point","_law_corners","_law_r","_law_place","_law_one","_law_kind","_law_face_here","_law_other_here","_law_spot"]
theorem kW:ao NP ["_law_rows","_law_big_here","_law_tie","_law_point"] (aV mJ):=⟨rfl,rfl,rfl,by decide +kernel,rfl,by decide +kernel,by decide +kernel⟩
theorem IU{ts:List Addr}{j:Nat}{t:Addr}(h:ts[j]?=some t):dv (ts.map V.ref) (j:Int)=some (.ref t):=ku<|by rw [Ad,h];rfl
theorem TY{f:Addr}{fd:FuncData}(F:bu K "_law_put" "_law_put" mJ f fd)(T:Txt mg)
  (GS:aP P w K mg base 3 "_law_seats" ["_law_rows"] vC)
  (GF:aP P w K mg base 3 "_law_face" ["_law_rows","_law_seats_here","_law_end"] zj) :
  aD P w K mg base bD 4 f fd ["_law_rows","_law_big_here","_law_tie","_law_point"] zx:=by
 refine F.gb kW (λvs H Q E h=>?_) λb0 H vs Q E hr h=>?_
 ·obtain⟨R,as,n,b,z,pt,rfl,_⟩:=h;rfl
 obtain⟨R,as,n,b,z,pt,rfl,hR,hT,hF,hz,hn,htn,q⟩:=h;have nd:=kW.nd;have hu:=hr.dH;have cA:=hR.len;show Run _ _ _ [some<|.ref R,some<|.int b,some<|.str z,some<|.str pt,none,none,none,none,none,none,none,none] H;refine aO 4 nd<|di<|ay ⟨Z0,λlc IY=>?_⟩;have g0:=aN IY<|.lst [];refine kH T.range (cL cZ T.len DQ<|al<|ae 0<|ay ⟨R,_,rfl,.inl<|ak.of<|g0 _ _ hR.lst,_,rfl,by omega,by rw [Aa];omega,?_⟩);rw [Aa,cA,Ba];refine kI (λr σ H3=>∃(ts:List Addr) (cs:List Nt.End) (u1 u2:Option V),aj H H3/\H3 lc=some (.lst<|ts.map V.ref)/\Pd H3 ts cs/\(∀ c∈cs,g8 n c)/\(0 < r->cs≠[])/\cs.length<=101 * r/\σ=[some<|.ref R,some<|.int b,some<|.str z,some<|.str pt,some<|.ref lc,u1,u2,none,none,none,none,none]) ⟨[],[],_,_,g0,ax,.nil,λc hc=>(nomatch hc),λh=>absurd h (by decide),Ag _,rfl⟩ ?_ ?_
 ·rintro r σ H3 hi ⟨ts,cs,u1,u2,sH,el,ep,hc,b6,hlen,rfl⟩;rw [Dd];refine bo 5 nd ?_;obtain⟨a,ea,dX,et,T1,er⟩:=(hR.same sH).at hi;have jf:=iC n r;refine kH T.range<|cL (F5 rfl) T.max RM<|al<|aA<|al<|cL cZ T.len DQ<|al<|aT bU<|aT cr<|ae 0<|ae 5 ⟨R,_,_,.ref a.1,rfl,rfl,ak.of<|sH _ _ hR.lst,dX,aA ⟨a.1,_,_,.ref a.2,rfl,rfl,aM.of et,rfl,ay ⟨a.2,_,rfl,.inl<|ak.of T1,?_⟩⟩⟩;rw [Aa];have em:(if((row n r).length:Int) > 1 then((row n r).length:Int) else 1)=((max 1 (row n r).length:Nat):Int):=by
   split <;> omega
  refine ay ⟨1,_,rfl,((max 1 (row n r).length:Nat):Int),by rw [em],by omega,by omega,?_⟩;rw [Ba];refine kI (λp σ H4=>∃(ts:List Addr) (cs:List Nt.End) (u2:Option V),aj H H4/\H4 lc=some (.lst<|ts.map V.ref)/\Pd H4 ts cs/\(∀ c∈cs,g8 n c)/\(0 < r+p->cs≠[])/\cs.length<=101 * r+p/\σ=[some<|.ref R,some<|.int b,some<|.str z,some<|.str pt,some<|.ref lc,some<|.int (r:Int),u2,none,none,none,none,none]) ⟨ts,cs,_,sH,el,ep,hc,b6,hlen,rfl⟩ ?_ ?_
  ·rintro p σ H4 hp ⟨ts,cs,u2,sH,el,ep,hc,b6,hlen,rfl⟩;rw [Dd];refine bo 6 nd ?_;refine fb<|jL<|ae 4 ⟨lc,rfl,⟨_,el⟩,eX<|al<|ae 5<|al<|ae 6<|ay ⟨Z2,λt ht=>?_⟩⟩;have mE:lc≠t:=a9 el ht;have s2:=aN ht<|Tp (r,p);have oS:=ep.length;refine⟨ts.map V.ref,by rw [au mE];exact el,by rw [Aa];exact cf (by omega),?_⟩;refine bg ⟨ts++[t],cs++[(r,p)],_,eF (sH.trans s2) IY,by rw [ax,Ai];rfl,?_,λc h=>?_,λ_=>by simp,by rw [Af];simp;omega,rfl⟩
   ·refine Pd.append (ep.keep λx e h=>?_)<|.cons ?_ .nil
    ·rw [au<|qV h el];exact s2 _ _ h
    ·rw [au mE.symm,ax]
   ·rcases Aq.mp h with h | h
    ·exact hc c h
    ·rw [Ah] at h;subst h;exact⟨hi,hp⟩
  ·rintro σ H4 ⟨ts,cs,u2,sH,el,ep,hc,b6,hlen,rfl⟩;refine bg ⟨ts,cs,_,_,sH,el,ep,hc,λ_=>b6 (by omega),by omega,rfl⟩
 rintro σ H3 ⟨ts,cs,u1,u2,sH,el,ep,hc,b6,hlen,rfl⟩;have yq:0 < n.length:=Dj.mpr hF.some;have ju:=b6 yq;have dG:0 < cs.length:=Dj.mpr ju;have oS:=ep.length;have m0:0<=b % (cs.length:Int):=Bn _ (by omega);have m1:b % (cs.length:Int) < cs.length:=Bu _ (by omega);obtain⟨j,hj⟩:∃ j:Nat,b % (cs.length:Int)=j:=⟨(b % (cs.length:Int)).toNat,by omega⟩;have vD:j < cs.length:=by omega
 have vE:cs[j]?=some cs[j]:=Ab vD;obtain⟨t1,mR,e1⟩:=ep.at vE;have gm:g8 n cs[j]:=hc _<|Cu vD;generalize cs[j]=c1 at e1 gm;refine aO 7 nd<|aT cr<|ae 4<|aQ cI<|ae 1<|cL cZ T.len DQ<|al<|ae 4<|ay ⟨lc,_,rfl,.inl<|ak.of el,?_⟩;rw [Aa,oS];refine⟨_,_,rfl,rfl,by omega,lc,_,_,.ref t1,rfl,rfl,ak.of el,by rw [hj];exact IU mR,?_⟩;refine aO 1 nd<|aQ fO<|ae 1<|cL cZ T.len DQ<|al<|ae 4<|ay ⟨lc,_,rfl,.inl<|ak.of el,?_⟩;rw [Aa,oS];refine⟨_,_,rfl,rfl,⟨by omega,by omega⟩,?_⟩;show Run _ _ _ [some<|.ref R,some<|.int<|b / (cs.length:Int),some<|.str z,some<|.str pt,some<|.ref lc,u1,u2,some<|.ref t1,none,none,none,none] H3;generalize b / (cs.length:Int)=b2;refine aO 8 nd (aQ cI<|ae 1<|aA ⟨_,_,rfl,rfl,(by show(0:Int) < 3;decide),?_⟩);refine aO 1 nd (aQ fO<|ae 1<|aA ⟨_,_,rfl,rfl,⟨by decide,by decide⟩,?_⟩);show Run _ _ _ [some<|.ref R,some<|.int<|b2 / 3,some<|.str z,some<|.str pt,some<|.ref lc,u1,u2,some<|.ref t1,some<|.int<|b2 % 3,none,none,none] H3;generalize b2 / 3=b3;have oU:=hR.same sH;obtain⟨a,ea,dX,eta,IZ,era⟩:=oU.at gm.1;have I0:∀(m:Net),(ag m).length<=200->∀ i,(row m i).length<=200:=λm h i=>Bz (iC m i) h;have cin:c1.2<=(row n c1.1).length:=by
  have:=gm.2;omega
 refine eY<|cB lX<|ae 8<|aA ⟨rfl,_,rfl,?_⟩;refine gu (λ_=>?_) λ_=>bg ?_
 ·
  have rl:=iC n c1.1;refine fb<|yK FJ PN PX Ir<|aT bU<|aT cr<|ae 0<|aT bU<|ae 7<|aA ⟨t1,_,_,.int (c1.1:Int),rfl,rfl,aM.of e1,rfl,R,_,_,.ref a.1,rfl,rfl,ak.of oU.lst,dX,aA ⟨a.1,_,_,.ref a.2,rfl,rfl,aM.of eta,rfl,Or.inl ⟨rfl,_,ak.of IZ⟩,?_⟩⟩;refine aT bU (ae 7<|aA ⟨t1,_,_,.int (c1.2:Int),rfl,rfl,aM.of e1,rfl,ae 2 ⟨a.2,_,_,_,rfl,rfl,IZ,by omega,by rw [Ba,Aa];exact cin,by rw [Aa];exact cf (by omega),?_⟩⟩);rw [Ba,IT];have R4:=oU.ins (z:=z) ea gm.1;refine fb<|jL<|ae 0 ⟨R,rfl,⟨_,R4.lst⟩,eX<|al<|ae 3<|al<|di<|al<|ae 2<|ay ⟨Z1,λl1 f7=>?_⟩⟩;refine ay ⟨Z2,λt2 iz=>?_⟩;have s5:=aN f7<|Ls [z];have s6:=aN iz<|.tup [.str pt,.ref l1];have R6:=(R4.same s5).same s6;refine⟨_,R6.lst,by rw [Aa];exact cf (by omega),?_⟩;have T2:H3 l1=none:=by
   by_cases q1:l1=a.2
   ·rw [q1,ax] at f7;cases f7
   ·rwa [au q1] at f7
  have T4:l1∉as.map (·.2):=λhm=>by
   obtain⟨x,hx,e⟩:=Aj.mp hm;exact R4.fresh f7 hx e.symm
  have T5:l1≠R:=λe=>by rw [e,R4.lst] at f7;cases f7
  have R7:=R6.more (t:=t2) (l:=l1) (pt:=pt) (zs:=[z]) ax (s6 _ _ ax) T4 T5;refine bS<|ae 1<|q _ _ _ _ R7 (λx o hx iG=>?_) (λx hx=>?_) ?_ (.inr ?_) ?_
  ·have x1:x≠R:=λe=>iG (by rw [e];exact As);have x2:x≠a.2:=λe=>iG (Ak _<|by rw [e];exact Aj.mpr ⟨a,Al ea,rfl⟩);rw [au x1];refine s6 _ _<|s5 _ _ ?_;rw [au x2];exact sH _ _ hx
  ·rcases Aq.mp hx with hx | hx
   ·exact .inl hx
   ·rw [Ah] at hx;subst hx;exact .inr<|sH.free T2
  ·unfold ag;rw [Dv];show(ag (ins n c1 z)++[z]).Perm _;refine(Dp).trans ?_;exact(rd n c1 z gm.1).cons z
  ·rw [Ai,zq];rfl
  ·refine .inr ⟨by simp,λi hi=>?_⟩;have T6:=(zu (z:=z) hF gm.1 hF.either).1;rw [Af] at hi;simp at hi
   rcases Cc i (ins n c1 z).length with h | h
   ·have:=T6 i h;unfold row at this ⊢;rw [At h];exact this
   ·unfold row;rw [Au h,show i - (ins n c1 z).length=0 by omega];simp
 ·
  refine aO 9 nd<|di<|al<|ae 7<|ay ⟨Z1,λlf Ja=>?_⟩;have s4:=aN Ja<|.lst [.ref t1];have sH4:=sH.trans s4;have iH:=oU.same s4;obtain⟨a0,ea0,zy,T7,Jb,er0⟩:=iH.at yq;have T8:∀ x∈as,lf≠x.2:=λx hx=>oU.fresh Ja hx;show Run _ _ _ [some<|.ref R,some<|.int b3,some<|.str z,some<|.str pt,some<|.ref lc,u1,u2,some<|.ref t1,some<|.int<|b2 % 3,some<|.ref lf,none,none] (upd H3 lf<|.lst [.ref t1]);refine SM (λk H'=>aj (upd H3 lf<|.lst [.ref t1]) H'/\(k=true->row n 0≠[])) (λσ' H'=>∃(lf:Addr) (je:List Addr) (fs:List Nt.End),aj H3 H'/\(∀ x∈as,lf≠x.2)/\H' lf=some (.lst<|je.map V.ref)/\Pd H' je fs/\0 < fs.length/\fs.length<=1000/\(∀ c∈fs,g8 n c) /\
   σ'=[some<|.ref R,some<|.int b3,some<|.str z,some<|.str pt,some<|.ref lc,u1,u2,some<|.ref t1,some<|.int<|b2 % 3,some<|.ref lf,none,none]) ?_ ?_ (λH5 ⟨s5,_⟩=>bg ⟨lf,[t1],[c1],s4.trans s5,T8,s5 _ _ ax,.cons (s5 _ _<|s4 _ _ e1) .nil,Fh,by show 1<=1000;decide,λc kX=>by rw [Ah] at kX;rw [kX];exact gm,rfl⟩) ?_
  ·refine cB (qU hu)<|aT bU<|aT cr<|ae 0<|aA ⟨R,_,_,.ref a0.1,rfl,rfl,ak.of iH.lst,zy,aA ⟨a0.1,_,_,.ref a0.2,rfl,rfl,aM.of T7,rfl,di<|ay ⟨Z0,λp hp=>?_⟩⟩⟩;have s5:=aN hp<|.lst []
   by_cases h0:row n 0=[]
   ·refine⟨1,_,by decide,Il (k:=0) (xs:=[]) (ys:=[]) (λ_=>true) (ak.of<|by rw [s5 _ _ Jb,h0];rfl) (ak.of ax) rfl (λj x y hx _=>by simp at hx),_,rfl,s5,λh=>by cases h⟩
   ·refine⟨1,_,by decide,Io (k:=1) (ak.of<|s5 _ _ Jb) (ak.of (xs:=[]) ax) (by rw [Aa];intro h;exact h0<|Bf.mp h),_,rfl,s5,λ_=>h0⟩
  ·rintro H4 ⟨mS,h0⟩;have h0:=h0 rfl;have iH:=iH.same mS;have Jc:=hF.mO h0 gm;have jg:=jO n;refine aO 9 nd (bJ GF hr<|al<|ae 0<|al<|bJ GS hr<|al<|ae 0<|ay ⟨R,as,n,rfl,iH,by omega,by omega,λd ks H5 s5 n5 S5=>?_⟩);refine al (ae 7<|ay ⟨R,d,t1,as,n,ks,c1,rfl,iH.same s5,S5,hT,s5 _ _<|mS _ _<|s4 _ _ e1,Jc,by omega,λl6 T9 Ua H6 s6 n6 e6 p6 f6=>?_⟩);exact bg ⟨l6,T9,Ua,s4.trans<|mS.trans<|s5.trans s6,λx hx=>(iH.same s5).fresh n6 hx,e6,p6,f6.pos,by have:=f6.len;omega,λc kX=>TV<|f6.ends hT Jc c kX,rfl⟩
  ·rintro σ' H5 ⟨lf,je,fs,s5,Ub,zA,Jd,Uc,Ud,zB,rfl⟩;have rg:=Jd.length;have n0:0<=b3 % (fs.length:Int):=Bn _ (by omega);have n1:b3 % (fs.length:Int) < fs.length:=Bu _ (by omega);obtain⟨j2,f9⟩:∃ j:Nat,b3 % (fs.length:Int)=j:=⟨(b3 % (fs.length:Int)).toNat,by omega⟩;have rh:j2 < fs.length:=by omega
   have zC:fs[j2]?=some fs[j2]:=Ab rh;obtain⟨t2,vF,e2⟩:=Jd.at zC;have mU:g8 n fs[j2]:=zB _<|Cu rh;generalize fs[j2]=c2 at e2 mU;have my:=s5 _ _ e1;refine aO 10 nd<|aT cr<|ae 9<|aQ cI<|ae 1<|cL cZ T.len DQ<|al<|ae 9<|ay ⟨lf,_,rfl,.inl<|ak.of zA,?_⟩;rw [Aa,rg];refine⟨_,_,rfl,rfl,by omega,lf,_,_,.ref t2,rfl,rfl,ak.of zA,by rw [f9];exact IU vF,?_⟩;have ri:=oU.same s5;show Run _ _ _ [some<|.ref R,some<|.int b3,some<|.str z,some<|.str pt,some<|.ref lc,u1,u2,some<|.ref t1,some<|.int<|b2 % 3,some<|.ref lf,some<|.ref t2,none] H5;refine mq<|S9 T.sorted<|di<|al<|ae 7<|al<|ae 10<|ay ⟨Z2,λl2 ql=>?_⟩;have s6:=aN ql<|.lst [.ref t1,.ref t2];refine⟨l2,t1,t2,(c1.1:Int),(c1.2:Int),(c2.1:Int),(c2.2:Int),rfl,ax,s6 _ _ my,s6 _ _ e2,λrr Je=>?_⟩;have rn:∀ x∈as,rr≠x.2:=λx hx=>(ri.same s6).fresh Je hx;obtain⟨x1,x2,k1,k2,gG,f1,f2,q1,q2⟩:∃ x1 x2 k1 k2,(if lexLt ((c1.1:Int),(c1.2:Int)) ((c2.1:Int),(c2.2:Int))=true then [V.ref t2,.ref t1] else [.ref t1,.ref t2])=[.ref x1,.ref x2]/\(upd H5 l2<|.lst [.ref t1,.ref t2]) x1=some (Tp k1)/\(upd H5 l2<|.lst [.ref t1,.ref t2]) x2=some (Tp k2)/\g8 n k1/\g8 n k2:=by
    cases lexLt ((c1.1:Int),(c1.2:Int)) ((c2.1:Int),(c2.2:Int)) with
    | true=>exact⟨t2,t1,c2,c1,rfl,s6 _ _ e2,s6 _ _ my,mU,gm⟩
    | false=>exact⟨t1,t2,c1,c2,rfl,s6 _ _ my,s6 _ _ e2,gm,mU⟩
   rw [gG];have s7:=aN Je<|.lst [.ref x1,.ref x2];have f1:=s7 _ _ f1;have f2:=s7 _ _ f2;have s6:=s6.trans s7;have fr:=ax (H:=upd H5 l2<|.lst [.ref t1,.ref t2]) (a:=rr) (o:= .lst [.ref x1,.ref x2]);generalize upd (upd H5 l2<|.lst [.ref t1,.ref t2]) rr (.lst [.ref x1,.ref x2])=H6 at f1 f2 s6 fr ⊢;have rj:aj H H6:=sH.trans<|s5.trans s6;have Jf:=ri.same s6;have rk:mP H H6 (R :: as.map (·.2)):=λx o hx _=>rj _ _ hx;refine⟨rr,rfl,⟨_,ak.of fr⟩,mr (xs:=[.ref x1,.ref x2]) (λi σ H7=>∃(m:Net) (u:Option V),ai H7 R as m/\mP H H7 (R :: as.map (·.2))/\H7 rr=some (.lst [.ref x1,.ref x2])/\H7 lf=some (.lst<|je.map V.ref)/\H7 x1=some (Tp k1)/\H7 x2=some (Tp k2) /\
    ((i=0/\m=n)\/(i=1/\m=ins n k1 z)\/(i=2/\m=ins (ins n k1 z) k2 z))/\σ=[some<|.ref R,some<|.int b3,some<|.str z,some<|.str pt,some<|.ref lc,u1,u2,some<|.ref t1,some<|.int<|b2 % 3,some<|.ref lf,some<|.ref t2,u]) ⟨n,_,Jf,rk,fr,s6 _ _ zA,f1,f2,.inl ⟨rfl,rfl⟩,rfl⟩ ?_ ?_ ?_⟩
   ·rintro i σ H7 _ ⟨m,u,_,_,vG,_⟩;exact ak.of vG
   ·rintro i v σ H7 hv ⟨m,u,rm,mV,vG,zD,g1,g2,hm,rfl⟩;have Ue:=(rd n k1 z q1.1).length_eq;rw [Bj] at Ue;obtain⟨y,k,rfl,hy,hk,ga,hml⟩:∃ y k,v = .ref y/\H7 y=some (Tp k)/\g8 m k/\((i+1=0/\ins m k z=n)\/(i+1=1/\ins m k z=ins n k1 z)\/(i+1=2/\ins m k z=ins (ins n k1 z) k2 z))/\(ag m).length<=200:=by
     rcases hm with ⟨rfl,rfl⟩ | ⟨rfl,rfl⟩ | ⟨rfl,rfl⟩
     ·cases hv;exact⟨x1,k1,rfl,g1,q1,.inr<|.inl ⟨rfl,rfl⟩,by omega⟩
     ·cases hv;exact⟨x2,k2,rfl,g2,zv q2 q1.1,.inr<|.inr ⟨rfl,rfl⟩,by omega⟩
     ·simp at hv
    refine bo 11 nd ?_;obtain⟨a',Jg,zE,zF,jP,Ug⟩:=rm.at hk.1;have rl:=iC m k.1;have og:k.2<=(row m k.1).length:=by
     have:=hk.2;omega
    refine fb<|yK FJ PN PX Ir<|aT bU<|aT cr<|ae 0<|aT bU<|ae 11<|aA ⟨y,_,_,.int (k.1:Int),rfl,rfl,aM.of hy,rfl,R,_,_,.ref a'.1,rfl,rfl,ak.of rm.lst,zE,aA ⟨a'.1,_,_,.ref a'.2,rfl,rfl,aM.of zF,rfl,Or.inl ⟨rfl,_,ak.of jP⟩,?_⟩⟩;refine aT bU (ae 11<|aA ⟨y,_,_,.int (k.2:Int),rfl,rfl,aM.of hy,rfl,ae 2 ⟨a'.2,_,_,_,rfl,rfl,jP,by omega,by rw [Ba,Aa];exact og,by rw [Aa];exact cf (by omega),?_⟩⟩);rw [Ba,IT];have am:a'∈as:=Al Jg;refine bg ⟨ins m k z,_,rm.ins Jg hk.1,λx o hx iG=>?_,by rw [au<|rn a' am];exact vG,by rw [au<|Ub a' am];exact zD,by rw [au<|qV g1 jP];exact g1,by rw [au<|qV g2 jP];exact g2,ga,rfl⟩;have x2:x≠a'.2:=λe=>iG (Ak _<|by rw [e];exact Aj.mpr ⟨a',am,rfl⟩);rw [au x2];exact mV x o hx iG
   ·rintro σ H7 ⟨m,u,rm,mV,vG,zD,g1,g2,hm,rfl⟩;have em:m=ins (ins n k1 z) k2 z:=by
     rcases hm with ⟨h,_⟩ | ⟨h,_⟩ | ⟨_,h⟩
     ·exact absurd h<|by show ¬(2=0);decide
     ·exact absurd h<|by show ¬(2=1);decide
     ·exact h
    refine bS<|aQ fO<|ae 1<|cL cZ T.len DQ<|al<|ae 9<|ay ⟨lf,_,rfl,.inl<|ak.of zD,?_⟩;rw [Aa,rg];refine⟨_,_,rfl,rfl,⟨by omega,by omega⟩,?_⟩;have fi:=zu (z:=z) hF q1.1 hF.either;have F2:Full (ins n k1 z):= .inr ⟨fi.2,fi.1⟩;have Jh:=zu (z:=z) F2 (zv (z:=z) q2 q1.1).1 F2.either;subst em;exact q _ as _ H7 rm mV (λx hx=> .inl hx) ((rd _ k2 z (zv (z:=z) q2 q1.1).1).trans<|(rd n k1 z q1.1).cons z) (.inl<|by rw [zq,zq])<|.inr ⟨Jh.2,Jh.1⟩
end
end H3
namespace Nt
open PySem L2
def dbl(zs:List Str):List Str:=zs.flatMap λz=>[z,z]
theorem zG(y:Str):∀ zs:List Str,(dbl zs).count y=2 * zs.count y
 | []=>rfl
 | z :: r=>by
  unfold dbl;rw [By];have ih:=zG y r;unfold dbl at ih;rw [List.count_append,ih,QS,QS,QS,List.count_nil];omega
theorem gd{y:Str}{zs:List Str}:y∈dbl zs↔y∈zs:=by
 rw [<- Ed,zG,<- Ed];omega
theorem zH:∀ zs:List Str,(dbl zs).length=2 * zs.length
 | []=>rfl
 | z :: r=>by
  unfold dbl;rw [By,Af];have ih:=zH r;unfold dbl at ih;rw [ih,Bj];simp;omega
theorem Uh(zs:List Str)(z:Str):dbl (zs++[z])=dbl zs++[z,z]:=by
 unfold dbl;rw [Dv];rfl
theorem Ji{n:Net}{zs:List Str}(hn:zs.Nodup)(p:(ag n).Perm<|dbl zs):aB n:=λz hz=>by
 rw [p.count_eq,zG];have h1:z∈zs:=gd.mp<|p.mem_iff.mp hz;rw [hn.count,BL h1]
def NE(n:Net):Prop:=∀ r∈n,r.2≠[]
theorem vH{n:Net}{i:Nat}(h:i < n.length):row n i=n[i].2:=by unfold row;rw [Ab h];rfl
theorem Ui{n:Net}(h:NE n)(h0:n≠[]):Full n:= .inr ⟨h0,λi hi=>by rw [vH hi];exact h _<|Cu hi⟩
theorem Full.ne{n:Net}(h:Full n):(∃ nm,n=[(nm,[])])\/NE n:=by
 rcases h with h | ⟨_,h⟩
 ·exact .inl h
 ·refine .inr λr hr=>?_;obtain⟨i,hi,rfl⟩:=Fj.mp hr;have:=h i hi;rwa [vH hi] at this
theorem Jj:∀(n:Net) (k:Nat) (h:k < n.length),(ag n).Perm<|n[k].2++ag (n.eraseIdx k)
 | [],k,h=>by simp at h
 | a :: n,0,h=>by unfold ag;simp
 | a :: n,k+1,h=>by
  have ih:=Jj n k (by simpa using h);unfold ag at ih ⊢;simp only [By,List.getElem_cons_succ,List.eraseIdx_cons_succ];refine(ih.append_left a.2).trans ?_;rw [<- Aw,<- Aw];exact List.perm_append_comm.append_right _
theorem Uj(n:Net)(k:Nat)(h:k < n.length):(n.map (·.1)).Perm (n[k].1 :: (n.eraseIdx k).map (·.1)):=by
 have:=(bT.b4 n k h).map (·.1);exact this.symm
theorem Jk(zs:List Str)(i:Nat):(zs.drop i++zs.take i).Perm zs:=by
 refine Dp.trans ?_;rw [Da]
theorem ai.upd{H:Hp}{R x:Addr}{as:List (Addr×Addr)}{n:Net}(h:ai H R as n){xs:List V}{o:HO}(hx:H x=some (.lst xs))(hR:R≠x)(ha:∀ a∈as,a.2≠x):ai (upd H x o) R as n:=by
 refine⟨h.len,by rw [au hR];exact h.lst,λi a r h1 h2=>?_,h.inj⟩;have q:=h.tup i a r h1 h2;exact⟨by rw [au<|bO q.1 hx λe=>nomatch e];exact q.1,by rw [au<|ha a<|Al h1];exact q.2⟩
theorem zI{α:Type}(l:List α)(k i:Nat):(l.eraseIdx k)[i]?=if i < k then l[i]? else l[i+1]?:=by
 rw [List.getElem?_eraseIdx]
theorem ai.erase{H:Hp}{R:Addr}{as:List (Addr×Addr)}{n:Net}(h:ai H R as n){k:Nat}(hk:k < n.length) :
  ai (L2.upd H R<|.lst<|(as.map λa=>V.ref a.1).eraseIdx k) R (as.eraseIdx k) (n.eraseIdx k):=by
 have hl:=h.len;refine⟨by rw [Dt,Dt,hl],?_,λi a r h1 h2=>?_,?_⟩
 ·rw [ax]
  congr 2
  refine Ck λi=>?_;rw [zI,Ad,Ad,Ad,zI]
  split <;> rfl
 ·rw [zI] at h1 h2;have q:H a.1=some (.tup [.str r.1,.ref a.2])/\H a.2=some (Ls r.2):=by
   by_cases c:i < k
   ·rw [BL c] at h1 h2;exact h.tup i a r h1 h2
   ·rw [BP c] at h1 h2;exact h.tup (i+1) a r h1 h2
  have t2:a.2≠R:=by
   intro e;have h3:=h.lst;rw [<- e,q.2] at h3;have h4:=HO.lst.inj<|Option.some.inj h3;cases as with
   | nil=>simp at hl;simp [<- hl] at hk
   | cons b bs=>
    cases hm:r.2 with
    | nil=>rw [hm] at h4;simp at h4
    | cons y r=>rw [hm] at h4;simp at h4
  exact⟨by rw [au<|bO q.1 h.lst λe=>nomatch e];exact q.1,by rw [au t2];exact q.2⟩
 ·have:((as.eraseIdx k).map (·.2)).Sublist (as.map (·.2)):=(List.eraseIdx_sublist as k).map _;exact h.inj.sublist this
theorem vI(zs:List Str)(i:Nat):dh (zs.map V.str) (some (i:Int)) none=(zs.drop i).map V.str:=by
 unfold dh;rw [HT.fP,HT.d6,Aa];rw [Cd (by rw [Bm,Aa];omega),Ey]
 rcases Nat.le_total i zs.length with h | h
 ·rw [Nat.min_eq_left h]
 ·rw [Nat.min_eq_right h,RB (by simp),RB<|by simpa using h]
theorem vJ(zs:List Str)(i:Nat):dh (zs.map V.str) none (some (i:Int))=(zs.take i).map V.str:=by
 unfold dh;rw [HT.fP,HT.d6,Aa,List.drop_zero,Fd,Fg]
 rcases Nat.le_total i zs.length with h | h
 ·rw [Nat.min_eq_left h]
 ·rw [Nat.min_eq_right h,Cd (by simp),Cd<|by simpa using h]
end Nt
namespace H3
open PySem L2 Nt bt
def zJ:Sp:=λvs H Q _=>∃(b m sm:Int),vs=[.int b,.int m,.int sm]/\0<=m/\m<=35 /\
 ∀ L as n H',aj H H'->H L=none->ai H' L as n->aB n->(n.map (·.1)).Nodup->Full n->(ag n).length<=2 * m.toNat->n.length<=m.toNat+1->(∀ a∈as,H a.2=none)->Q (.ref L) H'
section
variable{P:Program}{w:World}{K:PySem.W.Frag}{mg:Str->Option Value}{base:Heap}
abbrev NB:List Str:=["_law_big_here","_law_most","_law_stem","_law_many","_law_ties_here","_law_points","_law_rows","_law_k","_law_told","_law_row","_law_size"]
theorem kY:ao NB ["_law_big_here","_law_most","_law_stem"] (aV mK):=⟨rfl,rfl,rfl,by decide +kernel,rfl,by decide +kernel,by decide +kernel⟩
theorem Jl{H:Hp}{d:Addr}{xs:List V}(h:H d=some (.lst xs)):l4 K "list" (.ref d) H:=Or.inl ⟨rfl,xs,ak.of h⟩
theorem zK{b:Int}{m i:Nat}(h:i < m):dv ((namesOf b m).map V.str) (i:Int)=some (.str<|aI b i):=vb<|Tr h
theorem Uk{f:Addr}{fd:FuncData}(F:bu K "_law_net_by" "_law_net_by" mK f fd)(T:Txt mg)
  (GN:aP P w K mg base 4 "_law_names" ["_law_stem","_law_many"] zg)
  (GP:aP P w K mg base 4 "_law_put" ["_law_rows","_law_big_here","_law_tie","_law_point"] zx) :
  aD P w K mg base bD 5 f fd ["_law_big_here","_law_most","_law_stem"] zJ:=by
 refine F.gb kY (λvs H Q E h=>?_) λb0 H vs Q E hr h=>?_
 ·obtain⟨b,m,sm,rfl,_⟩:=h;rfl
 obtain⟨b,m,sm,rfl,m0,m35,q⟩:=h;have nd:=kY.nd;have hu:=hr.dH;have k0:0<=b % (m+1):=Bn _ (by omega);have k1:b % (m+1) < m+1:=Bu _ (by omega);obtain⟨mn,Ul⟩:∃ k:Nat,b % (m+1)=k:=⟨(b % (m+1)).toNat,by omega⟩;have hmm:mn<=m.toNat:=by omega
 show Run _ _ _ [some<|.int b,some<|.int m,some<|.int sm,none,none,none,none,none,none,none,none] H;refine aO 3 nd<|aQ cI<|ae 0<|aQ d0<|ae 1<|aA ⟨_,_,rfl,rfl,?_⟩;refine⟨_,_,rfl,rfl,(by show 0 < m+1;omega),?_⟩;refine aO 0 nd<|aQ fO<|ae 0<|aQ d0<|ae 1<|aA ⟨_,_,rfl,rfl,?_⟩;refine⟨_,_,rfl,rfl,(by show qb b (m+1);exact⟨by omega,by omega⟩),?_⟩;show Run _ _ _ [some<|.int<|b / (m+1),some<|.int m,some<|.int sm,some<|.int<|b % (m+1),none,none,none,none,none,none,none] H;rw [Ul];generalize b / (m+1)=b1;refine aO 4 nd (bJ GN hr<|al<|ae 2<|al<|ae 3<|ay ⟨sm,(mn:Int),rfl,by omega,by omega,λlt H1 s1 n1 e1=>?_⟩);rw [Ba] at e1;refine aO 5 nd (bJ GN hr<|al<|aT cr<|di<|al<|aQ d0<|aQ fO<|ae 2<|aA ⟨_,_,rfl,rfl,⟨by decide,by decide⟩,aA ⟨_,_,rfl,rfl,al<|ae 2<|ay ⟨Z2,λp hp=>?_⟩⟩⟩);refine uQ Iu T.qX RL (al<|yh lX<|aQ cI<|ae 2<|aA ⟨_,_,rfl,rfl,(by show(0:Int) < 4;decide),aA ⟨rfl,ay ⟨_,rfl,?_⟩⟩⟩);have s2:=aN hp<|.lst [.int<|sm / 3+1,.int sm];obtain⟨g9,ex⟩:∃ g9:Int,dv [V.int<|sm / 3+1,.int sm] (if decide (V.int (sm % 4)=V.int 1)=true then 1 else 0)=some (.int g9):=by
  cases decide (V.int (sm % 4)=V.int 1) with
  | true=>exact⟨sm,rfl⟩
  | false=>exact⟨sm / 3+1,rfl⟩
 refine⟨p,_,_,.int g9,rfl,rfl,ak.of ax,ex,?_⟩;refine al (aQ d0<|ae 3<|aA ⟨_,_,rfl,rfl,ay ⟨g9,(mn:Int)+1,rfl,by omega,by omega,λlp H2 s3 n3 e3=>?_⟩⟩);have em:((mn:Int)+1).toNat=mn+1:=by omega
 rw [em] at e3;have zL:aj H H2:=s1.trans<|s2.trans s3;have e1:H2 lt=some (Ls<|namesOf sm mn):=s3 _ _<|s2 _ _ e1;show Run _ _ _ [some<|.int b1,some<|.int m,some<|.int sm,some<|.int (mn:Int),some<|.ref lt,some<|.ref lp,none,none,none,none,none] H2;refine aO 6 nd<|di<|al<|eX<|al<|aT cr<|ae 5<|aA ⟨lp,_,_,.str<|aI g9 0,rfl,rfl,ak.of e3,zK<|Dr _,al<|di<|ay ⟨Z0,λl1 f7=>?_⟩⟩;refine ay ⟨Z2,λt1 Um=>ay ⟨Z1,λR Jm=>?_⟩⟩;have s4:=aN f7<|Ls [];have s5:=aN Um<|.tup [.str<|aI g9 0,.ref l1];have s6:=aN Jm<|.lst [.ref t1];have Uo:ai (upd (upd (upd H2 l1<|.lst []) t1<|.tup [.str<|aI g9 0,.ref l1]) R<|.lst [.ref t1]) R [(t1,l1)] [(aI g9 0,[])]:=by
  refine⟨rfl,ax,λi a r h1 h2=>?_,by simp⟩;cases i with
  | zero=>
   cases h1;cases h2;exact⟨s6 _ _ ax,s6 _ _<|s5 _ _ ax⟩
  | succ i=>simp at h1
 have fR:H2 R=none:=s4.free<|s5.free Jm;show Run _ _ _ [some<|.int b1,some<|.int m,some<|.int sm,some<|.int (mn:Int),some<|.ref lt,some<|.ref lp,some<|.ref R,none,none,none,none] (upd (upd (upd H2 l1<|.lst []) t1<|.tup [.str<|aI g9 0,.ref l1]) R<|.lst [.ref t1]);refine kH T.range (ae 3 ⟨(mn:Int),rfl,by omega,by omega,?_⟩);rw [Ba];refine kI (λk σ H3=>∃(as:List<|Addr×Addr) (n:Net) (b:Int) (u:Option V),ai H3 R as n/\aj H2 H3/\(∀ a∈as,H2 a.2=none)/\Full n/\(ag n).Perm (dbl<|namesOf sm k)/\n.map (·.1)=namesOf g9 n.length/\n.length<=k+1 /\
  σ=[some<|.int b,some<|.int m,some<|.int sm,some<|.int (mn:Int),some<|.ref lt,some<|.ref lp,some<|.ref R,u,none,none,none]) ⟨_,_,b1,_,Uo,s4.trans<|s5.trans s6,λa ha=>by rw [Ah] at ha;rw [ha];exact f7,.inl ⟨_,rfl⟩,List.Perm.refl _,rfl,Ag _,rfl⟩ ?_ ?_
 ·rintro k σ H3 hk ⟨as,n,b,u,hR,sH,gZ,hF,hp,vK,hlen,rfl⟩;rw [Dd];refine bo 7 nd ?_;have cA:=hR.len;have tl:=hp.length_eq;rw [zH,yS] at tl;have nz:aI sm k∉ag n:=λh=>by
   have h1:=gd.mp<|hp.mem_iff.mp h;have h2:=vh (b:=sm) (m:=k+1) (by omega);rw [vi,Cp] at h2;exact h2.2.2 _ h1 _ (Ah.mpr rfl) rfl
  have n0:0 < n.length:=Dj.mpr hF.some;refine aO 0 nd<|bJ GP hr<|al<|ae 6<|al<|ae 0<|al<|aT cr<|ae 4<|ae 7 ⟨lt,_,_,.str<|aI sm k,rfl,rfl,ak.of<|sH _ _ e1,zK hk,?_⟩;refine al<|aT cr<|ae 5<|cL cZ T.len DQ<|al<|ae 6<|ay ⟨R,_,rfl,.inl<|ak.of hR.lst,?_⟩;rw [Aa,cA];refine⟨lp,_,_,.str<|aI g9 n.length,rfl,rfl,ak.of<|sH _ _ e3,zK (by omega),?_⟩;refine ay ⟨R,as,n,b,aI sm k,aI g9 n.length,rfl,hR,Ji (vh<|by omega) hp,hF,nz,by omega,by omega,λi mQ n' H' Up kp zM dY ro Uq=>?_⟩;have Ur:aj H2 H':=λx o hx=>by
   refine kp x o (sH _ _ hx) λhm=>?_
   rcases Am.mp hm with h | h
   ·rw [h,fR] at hx;cases hx
   ·obtain⟨y,hy,e⟩:=Aj.mp h;rw [<- e,gZ y hy] at hx;cases hx
  refine bg ⟨mQ,n',i,_,Up,Ur,λy hy=>?_,Uq,?_,?_,?_,rfl⟩
  ·rcases zM y hy with h | h
   ·exact gZ y h
   ·exact sH.free h
  ·refine dY.trans ?_;rw [vi,Uh];refine List.Perm.trans ?_ Dp;exact((hp.cons _).cons _)
  ·rcases ro with h | h
   ·have hl:=CG List.length h;rw [Aa,Aa] at hl;rw [h,hl];exact vK
   ·have hl:=CG List.length h;rw [Aa,Af,Aa] at hl;have gH:n'.length=n.length+1:=hl;rw [h,gH,vi,vK]
  ·rcases ro with h | h
   ·have hl:=CG List.length h;rw [Aa,Aa] at hl;omega
   ·have hl:=CG List.length h;rw [Aa,Af,Aa] at hl;have gH:n'.length=n.length+1:=hl;omega
 rintro σ H3 ⟨Us,n0,b,u,hR,sH,gZ,hF,hp,vK,hlen,rfl⟩;have tl:=hp.length_eq;rw [zH,yS] at tl;have Ut:aB n0:=Ji (vh<|by omega) hp;have Uu:(n0.map (·.1)).Nodup:=by rw [vK];exact vh<|by omega
 refine aO 8 nd<|di<|ay ⟨Z0,λL hL=>?_⟩;have s7:=aN hL<|.lst [];have Jn:R≠L:=a9 hR.lst hL;have fL:H2 L=none:=sH.free hL;have mW:ai (upd H3 L<|.lst []) L [] []:=⟨rfl,ax,λi a r h1=>by simp at h1,by simp⟩;refine uW (λk σ H4=>∃(as kZ:List<|Addr×Addr) (n n2:Net) (b:Int) (u9 mX:Option V),k=n.length/\ai H4 R as n/\ai H4 L kZ n2/\aj H2 H4/\(∀ a∈as,a.2≠L)/\(∀ a∈kZ,a.2≠R)/\(∀ a∈kZ,H2 a.2=none)/\n.length+n2.length=n0.length /\
   (ag n++ag n2).Perm (ag n0)/\(n.map (·.1)++n2.map (·.1)).Perm (n0.map (·.1))/\(NE n0->NE n/\NE n2) /\
   σ=[some<|.int b,some<|.int m,some<|.int sm,some<|.int (mn:Int),some<|.ref lt,some<|.ref lp,some<|.ref R,u,some<|.ref L,u9,mX])
  (m0:=n0.length) ⟨Us,[],n0,[],b,_,_,rfl,hR.same s7,mW,sH.trans s7,λa ha=>(hR.fresh hL ha).symm,λa ha=>(nomatch ha),λa ha=>(nomatch ha),rfl,by simp [ag],by simp,λh=>⟨h,λr hr=>(nomatch hr)⟩,rfl⟩ ?_
 rintro k σ H4 ⟨as,kZ,n,n2,b,u9,mX,rfl,hR,gI,sH,aL,aR,Jo,rp,pt,pn,b6,rfl⟩;have cA:=hR.len;have zN:=gI.len;have Uv:(ag n).length<=70:=by
  have:=pt.length_eq;rw [Af] at this;omega
 refine cB (qU hu)<|ae 6<|di<|ay ⟨Z0,λp im=>?_⟩;have s8:=aN im<|.lst []
 by_cases h0:n=[]
 ·subst h0;have ea:as=[]:=Bf.mp (by simpa using cA);subst ea;refine⟨1,_,by decide,Il (k:=0) (xs:=[]) (ys:=[]) (λ_=>true) (ak.of<|s8 _ _ hR.lst) (ak.of ax) rfl (λj x y hx _=>by simp at hx),_,rfl,bH<|bS<|ae 8 ?_⟩;have vL:(ag n2).Perm (ag n0):=pt;have Uw:(n2.map (·.1)).Perm (n0.map (·.1)):=pn;have l2:n2.length=n0.length:=by simpa using rp
  refine q L kZ n2 _ (zL.trans<|sH.trans s8) (zL.free fL) (gI.same s8) (λz hz=>?_) (Uw.nodup_iff.mpr Uu) ?_ (by rw [vL.length_eq];omega) (by omega) λa ha=>zL.free<|Jo a ha
  ·rw [vL.count_eq];exact Ut z<|vL.mem_iff.mp hz
  ·rcases hF.ne with ⟨nm,h⟩ | h
   ·subst h;have t0:ag n2=[]:=List.Perm.eq_nil vL
    match n2,l2,t0 with
    | [(nm2,zs)],_,t0=>
     have:zs=[]:=by simpa [ag] using t0
     subst this;exact .inl ⟨_,rfl⟩
   ·refine Ui (b6 h).2 λe=>?_;rw [e] at l2;exact hF.some<|Bf.mp l2.symm
 ·have np:0 < n.length:=Dj.mpr h0;refine⟨1,_,by decide,Io (k:=1) (ak.of<|s8 _ _ hR.lst) (ak.of (xs:=[]) ax) (by rw [Aa,cA];exact Cq np),_,rfl,bI ?_⟩;have hR:=hR.same s8;have gI:=gI.same s8;have sH:=sH.trans s8;generalize upd H4 p (.lst [])=H5 at hR gI sH ⊢;have r0:0<=b % (n.length:Int):=Bn _ (by omega);have r1:b % (n.length:Int) < n.length:=Bu _ (by omega);obtain⟨j,hj⟩:∃ k:Nat,b % (n.length:Int)=k:=⟨(b % (n.length:Int)).toNat,by omega⟩;have oV:j < n.length:=by omega
  obtain⟨a,ea,dX,et,el,er⟩:=hR.at oV;refine aO 9 nd<|yJ FJ RN RP Gk<|ae 6 ⟨Jl hR.lst,aQ cI<|ae 0<|cL cZ T.len DQ<|al<|ae 6<|ay ⟨R,_,rfl,.inl<|ak.of hR.lst,?_⟩⟩;rw [Aa,cA];refine⟨_,_,rfl,rfl,by omega,R,_,_,j,.ref a.1,rfl,rfl,hR.lst,by rw [hj];omega,by rw [hj];omega,?_,?_,?_⟩
  ·rw [hj,Aa,cA];unfold seqIndex?;have c1:¬((j:Int) < 0):=by omega
   simp only [c1,CN];have c2:(decide (0<=(j:Int)) && decide ((j:Int) < (n.length:Int)))=true:=by
    rw [Br,DN,DN];omega
   rw [BL c2,Ba]
  ·rw [Ad,ea];rfl
  have R6:=hR.erase oV;have am:a∈as:=Al ea;have zO:∀ x∈as,x.2≠R:=λx hx e=>by
   obtain⟨zs,e2⟩:=hR.lists hx;have h3:=hR.lst;rw [<- e,e2] at h3;have h4:=HO.lst.inj<|Option.some.inj h3;cases as with
   | nil=>cases hx
   | cons b' bs=>
    cases zs with
    | nil=>simp at h4
    | cons y r=>simp at h4
  have L6:=gI.upd (o:= .lst<|(as.map λa=>V.ref a.1).eraseIdx j) hR.lst Jn.symm aR;have rq:(upd H5 R<|.lst<|(as.map λa=>V.ref a.1).eraseIdx j) a.1=some (.tup [.str n[j].1,.ref a.2]):=by rw [au<|bO et hR.lst λe=>nomatch e];exact et
  have vM:(upd H5 R<|.lst<|(as.map λa=>V.ref a.1).eraseIdx j) a.2=some (Ls<|row n j):=by rw [au<|zO a am];exact el
  have rj:aj H2 (upd H5 R<|.lst<|(as.map λa=>V.ref a.1).eraseIdx j):=eF sH fR;generalize upd H5 R (.lst<|(as.map λa=>V.ref a.1).eraseIdx j)=H6 at R6 L6 rq vM rj ⊢;have Ux:=R6.len;have mY:(n.eraseIdx j).length=n.length - 1:=by rw [Dt,BL oV]
  refine aO 0 nd<|aQ fO<|ae 0<|aQ d0<|cL cZ T.len DQ<|al<|ae 6<|ay ⟨R,_,rfl,.inl<|ak.of R6.lst,aA ⟨_,_,rfl,rfl,?_⟩⟩;rw [Aa,Ux,mY];refine⟨_,_,rfl,rfl,⟨by omega,by omega⟩,?_⟩;have Uy:=iC n j;refine aO 10 nd<|cL (F5 rfl) T.max RM<|al<|aA<|al<|cL cZ T.len DQ<|al<|aT bU<|ae 9<|aA ⟨a.1,_,_,.ref a.2,rfl,rfl,aM.of rq,rfl,ay ⟨a.2,_,rfl,.inl<|ak.of vM,?_⟩⟩;rw [Aa];refine ay ⟨1,_,rfl,?_⟩;have Uz:(if((row n j).length:Int) > 1 then((row n j).length:Int) else 1)=((max 1 (row n j).length:Nat):Int):=by
   split <;> omega
  rw [Uz];show Run _ _ _ [some<|.int<|b / ((n.length - 1:Nat)+1:Int),some<|.int m,some<|.int sm,some<|.int (mn:Int),some<|.ref lt,some<|.ref lp,some<|.ref R,u,some<|.ref L,some<|.ref a.1,some<|.int ((max 1 (row n j).length:Nat):Int)] H6;generalize b / ((n.length - 1:Nat)+1:Int)=b2;have z0:0<=b2 % ((max 1 (row n j).length:Nat):Int):=Bn _ (by omega);obtain⟨i,hi⟩:∃ k:Nat,b2 % ((max 1 (row n j).length:Nat):Int)=k:=⟨(b2 % ((max 1 (row n j).length:Nat):Int)).toNat,by omega⟩;refine fb<|jL<|ae 8 ⟨L,rfl,⟨_,L6.lst⟩,eX<|al<|aT bU<|ae 9<|aA ⟨a.1,_,_,.str n[j].1,rfl,rfl,aM.of rq,rfl,?_⟩⟩;refine al (aQ uG<|kD kz<|aT bU<|ae 9<|aA ⟨a.1,_,_,.ref a.2,rfl,rfl,aM.of rq,rfl,kF<|aQ cI<|ae 0<|ae 10 ⟨b2,((max 1 (row n j).length:Nat):Int),rfl,rfl,by omega,_,rfl,kE ⟨a.2,_,rfl,ak.of vM,λp1 zP=>?_⟩⟩⟩);rw [hi,vI];have t1:=aN zP<|Ls<|(row n j).drop i;refine kD kz (aT bU<|ae 9<|aA ⟨a.1,_,_,.ref a.2,rfl,rfl,aM.of<|t1 _ _ rq,rfl,kE<|kF<|aQ cI<|ae 0<|ae 10 ⟨b2,((max 1 (row n j).length:Nat):Int),rfl,rfl,by omega,_,rfl,a.2,_,rfl,ak.of<|t1 _ _ vM,λp2 im=>?_⟩⟩);rw [hi,vJ];have t2:=aN im<|Ls<|(row n j).take i;refine⟨p1,p2,_,_,rfl,rfl,t2 _ _ ax,ax,?_,λp3 mZ=>?_⟩
  ·rw [Aa,Aa,Bm,Bi];exact small<|by omega
  rw [<- Ai];have t3:=aN mZ<|Ls<|(row n j).drop i++(row n j).take i;refine ay ⟨Z2,λt4 UA=>?_⟩;have s4:=aN UA<|.tup [.str n[j].1,.ref p3];have m3:=t1.trans<|t2.trans<|t3.trans s4;have L7:=L6.same m3;have R7:=R6.same m3;have UB:p3≠L:=λe=>by rw [e,(t1.trans t2) _ _ L6.lst] at mZ;cases mZ
  have UC:p3≠R:=λe=>by rw [e,(t1.trans t2) _ _ R6.lst] at mZ;cases mZ
  have UD:p3∉kZ.map (·.2):=λhm=>by
   obtain⟨y,hy,e⟩:=Aj.mp hm;exact(L6.same<|t1.trans t2).fresh mZ hy e.symm
  have L8:=L7.more (t:=t4) (l:=p3) (pt:=n[j].1) (zs:=(row n j).drop i++(row n j).take i) ax (s4 _ _ ax) UD UB;refine⟨_,L7.lst,by rw [Aa,zN];exact cf (by omega),?_⟩;have Jp:∀ x∈as.eraseIdx j,x.2≠L:=λx hx=>aL x<|Ez hx;have R8:=R7.upd (o:= .lst<|kZ.map (λa=>V.ref a.1)++[.ref t4]) L7.lst Jn Jp;refine aO 0 nd (aQ fO<|ae 0<|ae 10 ⟨b2,((max 1 (row n j).length:Nat):Int),rfl,rfl,⟨by omega,by omega⟩,?_⟩);have pe:=Jj n j oV;have ne:=Uj n j oV;refine bg ⟨n.length - 1,by omega,as.eraseIdx j,kZ++[(t4,p3)],n.eraseIdx j,n2++[(n[j].1,(row n j).drop i++(row n j).take i)],_,_,_,mY.symm,R8,L8,eF (rj.trans m3) fL,Jp,λx hx=>?_,λx hx=>?_,?_,?_,?_,λh=>⟨λr hr=>?_,λr hr=>?_⟩,rfl⟩
  ·rcases Aq.mp hx with hx | hx
   ·exact aR x hx
   ·rw [Ah] at hx;rw [hx];exact UC
  ·rcases Aq.mp hx with hx | hx
   ·exact Jo x hx
   ·rw [Ah] at hx;rw [hx];exact rj.free<|t1.free<|t2.free mZ
  ·rw [Af,mY];simp;omega
  ·refine List.Perm.trans ?_ pt;unfold ag;rw [Dv];show(ag (n.eraseIdx j)++(ag n2++(((row n j).drop i++(row n j).take i)++[]))).Perm _;rw [Bh,er];have w1:(n[j].2.drop i++n[j].2.take i).Perm n[j].2:=Jk _ _;refine((w1.append_left _).append_left _).trans ?_;have w2:(ag n++ag n2).Perm ((n[j].2++ag (n.eraseIdx j))++ag n2):=pe.append_right _;refine List.Perm.trans ?_ w2.symm;rw [Aw];refine List.Perm.trans ?_<|Dp (l₁:=ag (n.eraseIdx j)++ag n2);rw [Aw]
  ·refine List.Perm.trans ?_ pn;rw [Ai];show((n.eraseIdx j).map (·.1)++(n2.map (·.1)++[n[j].1])).Perm _;refine List.Perm.trans ?_ (ne.append_right _).symm;rw [<- Aw];exact Dp
  ·exact(b6 h).1 r<|Ez hr
  ·rcases Aq.mp hr with hr | hr
   ·exact(b6 h).2 r hr
   ·rw [Ah] at hr;rw [hr];intro e;have w1:=(Jk (row n j) i).length_eq;have e':(row n j).drop i++(row n j).take i=[]:=e;rw [e'] at w1;have:=(b6 h).1 n[j]<|Cu oV;rw [er] at w1;exact this<|Bf.mp w1.symm
end
end H3
namespace L2
open PySem PySem.Spec PyProof.Rows
theorem UE{P:Program}{w:World}{k:Key}{u:Value}(h:(bz P w).is k u=true):RelV (kV k) u:=by
 rcases iZ h with ⟨i,t,rfl,rfl⟩ | ⟨x,t,rfl,rfl⟩ <;> exact⟨t,rfl⟩
section
variable{X:Cx}{pins:List (Addr×Obj)}{σ:St}{H:Hp}{s:Shared}
theorem UG{d:Addr}{kvs:List (Key×V)}(I:Inv X pins σ H s)(e:H d=some (.dK kvs)):∃ o,s.heap.get? d=some o/\Inv X pins σ (upd H d<|.bN o<|.dK kvs) s:=by
 obtain⟨z,hd,vs,rel,dd⟩:=qv I.aC e;obtain⟨o,es,ep,ho,rest⟩:=id dd;refine⟨o,ho,?_⟩;exact i6 (t':=s.toks) I (by rw [e];exact True.intro) ⟨rfl,λ_ _=>rfl⟩ ⟨o,ho⟩ (show az X.prog X.w _ s.heap d (.bN o<|.dK kvs) from⟨ho,z,hd,vs,rel,dd⟩)
def zQ(d:Addr)(o:Obj)(kvs:List<|Key×V):It:=
 ⟨λi H=>H d=some (.bN o<|.dK kvs)/\i < kvs.length,λi H x H'=>H'=H/\∃ p,kvs[i]?=some p/\x=kV p.1,λi H=>H d=some (.bN o<|.dK kvs)/\kvs.length<=i⟩
theorem Jq{P:Program}{w:World}{h:Heap}{d:Addr}{o:Obj}{es:Array DictEntry}{ep:Nat}{kvs:List (Key×V)}(aC:bQ P w H h)(e:H d=some (.bN o<|.dK kvs))(hd:o.data = .dict es ep):∃ vs,KV kvs vs/\h.DictAt (bz P w) d vs ep:=by
 obtain⟨ho,z,_,vs,rel,dd⟩:=(show az P w H h d (.bN o<|.dK kvs) from aC d _ e);obtain⟨ki,o',cH,dR,r1,r2,r3⟩:=dd.dictAt;have:o=o':=Option.some.inj<|ho.symm.trans dR;subst this;rw [hd] at r2
 injection r2 with e1 e2
 subst e1;subst e2;exact⟨vs,rel,o,es,dR,r1,hd,r3⟩
theorem UH{P:Program}{w:World}{K:PySem.W.Frag}{tg:Expr}(d it:Addr)(o:Obj)(es:Array DictEntry)(ep:Nat)(kvs:List<|Key×V)(m4:o.data = .dict es ep):Turn P w K tg (zQ d o kvs) [it] it (λi h=>h.IsKeyIter it d i kvs.length ep) where
 mem:=by simp
 obj:=λi h st b hb=>by
  have e:b=it:=by simpa using hb
  subst e;obtain⟨o,e,c,d⟩:=st;exact⟨o,e,λv z=>by rw [d] at z;cases z⟩
 keep:=λi h h' st k=>let ⟨o,ho,r⟩:=st;⟨o,k it (by simp) o ho,r⟩
 item:=by
  intro X hP hw hK hc i pins s σ H E I hf st hg;subst hP hw hK;obtain⟨f0,f1,f2,f3,f4,f5⟩:=hf it (by simp);obtain⟨hd,hi⟩:=hg;obtain⟨vs,rel,da⟩:=Jq I.aC hd m4;have hl:=rel.length;have k4:i < vs.length:=by omega
  have hx:vs[i]?=some vs[i]:=Ab k4;rw [hl] at st;refine wpAny_pyNext_dict_item (k:=vs[i].1) (v:=vs[i].2) st da hx λkey h' hk cC fc=>?_;have I1:Inv X pins σ H {s with heap:=h'}:=I.turned (t':=s.toks) (λb o hb e=>fc.extBut b o hb e) f0 f1 f3 f4 f5;obtain⟨o2,e2,c2,d2⟩:=id cC;refine⟨_,rfl,oq (s:={s with heap:=h'}) e2 c2 d2 (by decide) ⟨kV vs[i].1,H,I1,UE hk,⟨rfl,kvs[i],Ab hi,?_⟩,by rw [hl];exact cC,λb hb=>(hf b hb).1⟩⟩;have ek:=rel.keys;have e3:(kvs.map (·.1))[i]?=(vs.map (·.1))[i]?:=by rw [ek]
  rw [Ad,Ad,Ab hi,hx] at e3;have e4:kvs[i].1=vs[i].1:=Option.some.inj e3;rw [e4]
 done:=by
  intro X hP hw hK hc i pins s σ H E I hf st hg;subst hP hw hK;obtain⟨f0,f1,f2,f3,f4,f5⟩:=hf it (by simp);obtain⟨hd,hi⟩:=hg;obtain⟨vs,rel,da⟩:=Jq I.aC hd m4;have hl:=rel.length;rw [hl] at st;exact wpAny_pyNext_dict_end (I.ok.hd hc) st da (by rw [Ay];omega) λh' eb=>⟨rfl,I.turned (t':=s.toks) (λb o hb e=>eb b o hb e) f0 f1 f3 f4 f5⟩
 self:=λ_ _ _ _ _ st h=>wpAny_pyIter_keyiter st h
def UI(tl:TE):TI:=λσ H R=>tl σ H λx H1=>∃ d kvs,x = .ref d/\H1 d=some (.dK kvs)/\∀ o,R (zQ d o kvs)<|upd H1 d<|.bN o<|.dK kvs
theorem UJ{tg l:Expr}{tl:TE}(hl:PE X l tl):PI X tg l (UI tl):=by
 intro pins s σ H R I h;refine aE (hl pins s σ H _ I h) λv s1 ⟨x,H1,I1,r1,q1⟩=>?_;obtain⟨d,kvs,e,hH,q⟩:=q1;subst e;cases (show v=Value.ref d from r1);obtain⟨o,ho,I2⟩:=UG I1 hH;obtain⟨z,vN,vs,rel,dd⟩:=qv I1.aC hH;obtain⟨ep,o',es,dR,r1,r2,r3⟩:=dd.dictAt;have:o=o':=Option.some.inj<|ho.symm.trans dR;subst this;refine wpAny_pyIter_dict vN ⟨o,es,dR,r1,r2,r3⟩ ?_;refine⟨s1.heap.objs.size,[s1.heap.objs.size],_,_,_,rfl,I2.kept (t':=s1.toks) λb o e=>Ae _ e,UH d _ o es ep kvs r2,⟨_,An _ rfl,rfl,by rw [rel.length];rfl⟩,λb hb=>?_,q o⟩;have e:b=s1.heap.objs.size:=by simpa using hb
 subst e;exact I2.dF (Ag _)<|I2.aC.fresh<|Ag _
end
section
variable{X:Cx}{elt tg:Expr}{ifs:List Expr}{scope:Scope}{σ:St}{H:Hp}{N':List Str}{A a d:Addr}{xs:List V}{kvs:List (Key×V)}{after:Hp->Prop}
theorem oW(Pv:Nat->St->Hp->Prop)(h0:Pv 0 σ H)(hl:∀ i σ' H',i<=xs.length->Pv i σ' H'->ak X.K H' a xs)
  (hs : ∀ i x σ' H', xs[i]? = some x → Pv i σ' H' → qF X N' scope tg x σ' H' λσ2 H3 => qG X N' scope ifs σ2 H3 λb H4 =>
   if b=true then qD X N' scope elt σ2 H4 λv H5=>∃ ys,H5 A=some (.lst ys)/\ys.length < sizeLine/\Pv (i+1) σ2 (upd H5 A<|.lst<|ys++[v]) else Pv (i+1) σ2 H4)
  (hd:∀ σ' H',Pv xs.length σ' H'->after H'):jD X N' scope tg ifs elt (ot X.K a) A after σ H:=by
 refine⟨λi m σ' H'=>m=xs.length - i/\i<=xs.length/\Pv i σ' H',⟨_,rfl,Be _,h0⟩,?_⟩;rintro i m σ' H' ⟨rfl,hi,p⟩;have q:=hl i σ' H' hi p
 by_cases aK:i < xs.length
 ·refine .inr ⟨⟨xs,xs[i],q,by simp [aK]⟩,Pv<|i+1,λσ' H' p'=>⟨xs.length - (i+1),by omega,rfl,aK,p'⟩,λx H2 y=>?_⟩;obtain⟨e,y⟩:=y;subst e;exact hs i x σ' _ (y xs q) p
 ·have e:i=xs.length:=by omega
  subst e;exact .inl ⟨⟨xs,q,Ag _⟩,hd σ' H' p⟩
theorem UK(z:Str)(zs:List Str):uF (.str z) (zs.map V.str)=zs.contains z:=by
 unfold uF
 induction zs with
 | nil=>rfl
 | cons y r ih=>
  rw [Bb,Eu,ih,List.contains_cons]
  congr 1
  show b8 (.str y) (.str z)=(z == y)
  by_cases h:y=z
  ·subst h;simp [b8]
  ·have h':z≠y:=λq=>h q.symm;show(y == z)=(z == y);rw [beq_eq_false_iff_ne.mpr h,beq_eq_false_iff_ne.mpr h']
theorem UL(zs:List Str):(zs.map V.str).all ii=true:=by
 rw [Dy];intro x hx;obtain⟨z,_,rfl⟩:=Aj.mp hx;rfl
theorem jQ{e1 e2:Expr}{k:Nat}{pos:Pos}{t:Addr}{x y:V}{R:St->Hp->Prop}(hc:X.calm=true)(ht:aM X.K H t [x,y])(h:Eg X e1 x σ H λσ1 H1=>Eg X e2 y σ1 H1 R)
  (hn:(assignEach [e1,e2] X.env).length=2:=by rfl) (cO:(assignEach [e1,e2] X.env).findIdx? (·.1)=none:=by rfl)
  (oI:(assignEach [e1,e2] X.env).map (·.2)=assign e1 X.env :: (assignEach [e2] X.env).map (·.2):=by rfl) (m5:(assignEach [e2] X.env).map (·.2)=assign e2 X.env :: (assignEach [] X.env).map (·.2):=by rfl) :
  Eg X (.Tuple [e1,e2] k pos) (.ref t) σ H R:=
 G' (OQ (t:=xu (λv σ H Q=>Eg X e1 v σ H Q)<|xu (λv σ H Q=>Eg X e2 v σ H Q) p4) hc (FI uN (FI uN OO m5) oI) hn cO) ⟨t,_,rfl,ht,rfl,_,_,rfl,h.mono λσ1 H1 h1=>⟨_,_,rfl,h1.mono λσ2 H2 q=>⟨rfl,q⟩⟩⟩
end
end L2
namespace Nt
open PySem L2
theorem vO{n:Net}(T:aB n){e x:End}{z:Str}(h:bK n e=some z):bK n x=some z↔x=e\/x=other n e:=by
 obtain⟨o1,o2,o3⟩:=dq T h;refine⟨λhx=>?_,λhx=>?_⟩
 ·obtain⟨a,b,hp,g6,he⟩:=u5 T h;have mx:x∈pos n z:=bB.mpr hx;have mo:other n e∈pos n z:=bB.mpr o1;rw [hp] at mx mo;simp only [Am,Ci,HW] at mx mo
  rcases he with he | he
  ·rcases mx with m | m
   ·exact .inl<|m.trans he.symm
   ·rcases mo with m2 | m2
    ·exact absurd (m2.trans he.symm) o3
    ·exact .inr<|m.trans m2.symm
  ·rcases mx with m | m
   ·rcases mo with m2 | m2
    ·exact .inr<|m.trans m2.symm
    ·exact absurd (m2.trans he.symm) o3
   ·exact .inl<|m.trans he.symm
 ·rcases hx with rfl | rfl
  ·exact h
  ·exact o1
end Nt
namespace PySem
theorem getAttr?_miss_list{prog:Program}{w:World}{A:Around}{E:Value->Shared->Prop}{s:Shared}{a:Addr}{o:Obj}{xs:Array Value}{k:Nat}{name:Str}{Q:Option Value->Shared->Prop}
  (hx:s.heap.get? a=some o) (hc:o.cls = .type "list") (gC:o.data = .seq xs k) (hd:o.dict=none) (rz:typeLookup (.type "list") name=pure none) (rA:(["__module__","__name__","__qualname__","__doc__","__annotations__"]:List Str).contains name=false) (hA:A.handled=none)
  (h:∀ h' tk e,Heap.NewExcOf s.heap h' e "AttributeError"->Q none {s with heap:=h',toks:=tk}) (hsz:name.length+100<=sizeLine:=by size_fits) :
  wpAny (model prog w) A (getAttr? (.ref a) name) Q E s:=by
 obtain⟨c,dct,dat,sl⟩:=o;simp only at hc gC hd;subst hc gC hd;obtain⟨hp,g,d,tk,os⟩:=s;have hT:∀ Jr,(⟨hp,g,d,Jr,os⟩:Shared).TypeIs (.ref a) "list":=λ_=>⟨_,hx,rfl⟩;have f1:=sub_AttributeError;have f3:=F.slot_list_getattribute.lookup;have f4:=F.slot_list_getattribute.bind<|.ref a;have f5:=am_list_getattr_none;unfold getAttr? getAttrBy? getAttrBy
 repeat (any_goals (first | assumption | exact hT _ | ((with_reducible show wpAny _ _ (call (Value.builtin "list.__getattribute__") _ _) _ _ _);refine OD F.slot_list_getattribute (hT _) am_entry_list_getattribute (F.args_list_getattribute_2 _ _) (meets_getattribute_miss_list a xs k sl name _ rz rA hsz) ⟨hx,hA,λh' Jr e jF=>?_⟩) | wp_step))
 obtain⟨t',u',he⟩:=jF.there;show wpAny _ _ (getattributeRaised _ _ _ _ _ _ _) _ _ _;unfold getattributeRaised
 repeat (any_goals (first | assumption | wp_step))
 exact h _ _ _ jF.of
namespace F
theorem aY:entryFor table "dict.update.loop" = some Builtin.«dict.update.loop»:=entryFor_of_tree<|by kernel_rfl
theorem aF:plainId "dict.update.loop" = true:=by decide +kernel
theorem dJ:typeLookup (.type "list") "keys" = pure none:=by rw [QM,JV];kernel_rfl
end F
section
variable{prog:Program}{w:World}{K:Type} [DecidableEq K] {knd:KeyKind prog w K} {A:Around} {R:Result->Shared->Prop}
def zR(knd:KeyKind prog w K)(h:Heap)(items:List Value)(eG:List<|K×Value):Prop:=
 items.length=eG.length/\∀(j:Nat) it,items[j]?=some it->∃ T key k v o n,it = .ref T/\eG[j]?=some (k,v)/\knd.is k key=true/\h.get? T=some o/\o.cls = .type "tuple"/\o.data = .seq #[key,v] n
theorem UM(kvs:List<|K×Value)(k:K)(v:Value):(stored kvs k v).length<=kvs.length+1:=by
 unfold stored
 split
 ·rw [Aa];omega
 ·rw [Af];simp
theorem UN{hB:Heap}{d I l:Addr}{items:List Value}{eG:List (K×Value)}(hd:hB.objs.size<=d)(hI:hB.objs.size<=I)(zS:d≠I)(hl:hB.IsList l items.toArray)(hp:zR knd hB items eG)(hn:items.length < sizeLine)(hh:A.handled=none) :
  ∀(k i:Nat) (s:Shared) (acc:List<|K×Value),items.length - i=k->i<=items.length->(∀ b o,hB.get? b=some o->s.heap.get? b=some o)->s.heap.IsListIter I l i->s.heap.DictOf knd d acc->acc.length<=i ->
   (∀ h' tk,(∀ b o,b≠I->b≠d->s.heap.get? b=some o->h'.get? b=some o)->h'.DictOf knd d ((eG.drop i).foldl (λa p=>stored a p.1 p.2) acc)->R (.ok<|.ret .none) {s with heap:=h',toks:=tk}) ->
   codeAny (model prog w) A (.builtin "dict.update.loop" ⟨[.ref d,.ref I,rawInt i,.none],[]⟩) R s:=by
 have nb:∀ b o,hB.get? b=some o->b≠I/\b≠d:=λb o e=>⟨Bp<|Bk (Ar e) hI,Bp<|Bk (Ar e) hd⟩;intro k
 induction k with
 | zero=>
  intro i s acc hk hi eI cO hD cA hR;have qI:i=items.length:=by omega
  refine GZ F.aY ?_;rw [GJ F.aF _];show wpAny _ A.in1 (pyNext (.ref I) >>= _) _ _ s;have gH:s.heap.IsList l items.toArray:=let ⟨o,ho,r⟩:=hl;⟨o,eI _ _ ho,r⟩
  refine BJ (wpAny_pyNext_list_end hh cO gH (by simp;omega) λh' eb=>?_);show wpAny _ A.in1 (Builtin.Dict.addKeywords d [] >>= _) _ _ _;refine BJ<|BK<|BK ?_;refine hR h' s.toks (λb o hb _ e=>eb b o hb e) ?_;rw [List.drop_eq_nil_of_le<|by have:=hp.1;omega];exact hD.extBut eb zS
 | succ k ih=>
  intro i s acc hk hi eI cO hD cA hR;have aK:i < items.length:=by omega
  have hx:items[i]?=some items[i]:=Ab aK;obtain⟨T,key,kk,v,o,n,e1,e2,e3,e4,e5,e6⟩:=hp.2 i _ hx;rw [e1] at hx;refine GZ F.aY ?_;rw [GJ F.aF _];show wpAny _ A.in1 (pyNext (.ref I) >>= _) _ _ s;have gH:s.heap.IsList l items.toArray:=let ⟨o,ho,r⟩:=hl;⟨o,eI _ _ ho,r⟩
  refine BJ (wpAny_pyNext_list_item cO gH (x:= .ref T) (by simpa using hx) λh' cC sb=>?_);have eT:h'.get? T=some o:=(sb.2 T (nb T o e4).1).trans<|eI _ _ e4;refine BJ<|CJ<|BJ<|wpAny_tryCatch ?_;unfold Builtin.Dict.pairItems;refine BJ<|JC (T:= "tuple") ⟨o,eT,e5⟩ ?_;rw [BL<|by decide];refine BJ<|JD (s:={s with heap:=h'}) eT e6<|BK ?_;show wpAny _ _ (holding [key,v]<|dictSet d key v) _ _ _;refine CJ (wpAny_dictSet_pairs (knd:=knd) (s:={s with heap:=h'}) (k:=kk) e3 (hD.extBut sb.extBut zS) (λh2 D2 Js=>?_)<|by omega);refine BK ⟨JR F.aF _,?_⟩;have Jt:∀ b o,b≠I->b≠d->s.heap.get? b=some o->h2.get? b=some o:=λb o h1 h3 e=>(Js.2 b h3).trans<|(sb.2 b h1).trans e;refine ih (i+1) {s with heap:=h2,toks:=s.toks+1} (stored acc kk v) (by omega) aK (λb o e=>Jt b o (nb b o e).1 (nb b o e).2<|eI _ _ e) (cC.extBut Js.extBut<|BX zS) D2 (by have:=UM acc kk v;omega) λh3 tk k3 D3=>?_;refine hR h3 tk (λb o h1 mw e=>k3 b o h1 mw<|Jt b o h1 mw e) ?_;have e7:eG.drop i=(kk,v) :: eG.drop (i+1):=by
   obtain⟨hj,e8⟩:=Ac.mp e2;rw [Er hj,e8]
  rw [e7];exact D3
theorem UO{E:Value->Shared->Prop}{s:Shared}{Q:Value->Shared->Prop}{l:Addr}{ol:Obj}{nl:Nat}{items:List Value}{eG:List (K×Value)}(ho:s.heap.get? l=some ol)(hc:ol.cls = .type "list")(m4:ol.dict=none)(zT:ol.data = .seq items.toArray nl)(hp:zR knd s.heap items eG)(hn:items.length < sizeLine)(hh:A.handled=none)
  (h:∀ h' tk,(∀ b o,s.heap.get? b=some o->h'.get? b=some o)->h'.DictOf knd s.heap.objs.size (eG.foldl (λa p=>stored a p.1 p.2) [])->Q (.ref s.heap.objs.size) {s with heap:=h',toks:=tk}) :
  wpAny (model prog w) A (call (.type "dict") [.ref l]) Q E s:=by
 refine callType_codes (Q₁:=λobj s₁=>obj = .ref s.heap.objs.size/\s₁={s with heap:=s.heap.push {cls:= .type "dict",data:= .dict #[]}}) F.kt_called_dict (F.kt_typeCall_dict_1 _) F.entry_dict_init (kt_code_dict_new _ ⟨rfl,rfl⟩) ?_;rintro obj s₁ ⟨rfl,rfl⟩;have iq:(s.heap.push {cls:= .type "dict",data:= .dict #[]}).DictOf knd s.heap.objs.size []:=Heap.DictOf.new s.heap;have dR:(s.heap.push {cls:= .type "dict",data:= .dict #[]}).get? l=some ol:=Ae _ ho;refine⟨iq.typeIs,F.args_dict_init_2 _ _,?_⟩;unfold Builtin.«dict.__init__»;refine BJ ?_;unfold Builtin.Dict.selfAndRest;refine BJ<|wpAny_notOrdered_dict iq.typeIs ?_;show wpAny _ _ (pure (s.heap.objs.size,[Value.ref l])) _ _ _;refine BK ?_;show wpAny _ _ (Builtin.Dict.updateFrom "dict.__init__" s.heap.objs.size (.ref l) [] .none) _ _ _;unfold Builtin.Dict.updateFrom;refine BJ<|JC (T:= "list") ⟨ol,dR,hc⟩ ?_;rw [BL<|by decide];refine BJ (getAttr?_miss_list dR hc zT m4 F.dJ (by decide) (by exact hh) λh' tk e ne=>?_);rw [BL (show(none:Option Value).isNone=true from rfl)];have kp:∀ b o,s.heap.get? b=some o->h'.get? b=some o:=λb o e=>ne.keeps b o<|Ae _ e;refine BJ<|GD ?_;have hL:h'.IsList l items.toArray:=⟨ol,kp _ _ ho,hc,nl,zT⟩;refine BJ<|wpAny_pyIter_list hL ?_;refine BK ⟨JR F.aF _,?_⟩;have Ju:h'.DictOf knd s.heap.objs.size []:=let ⟨o,es,ep,ho,r⟩:=iq;⟨o,es,ep,ne.keeps _ _ ho,r⟩
 have aK:s.heap.objs.size < h'.objs.size:=let ⟨o,es,ep,ho,r⟩:=Ju;Ar ho
 refine UN (hB:=s.heap) (d:=s.heap.objs.size) (I:=h'.objs.size) (l:=l) (Ag _) (Fn aK) (Bp aK) ⟨ol,ho,hc,nl,zT⟩ hp hn (by exact hh) _ 0 _ [] rfl (Be _) (λb o e=>Ae _<|kp b o e) ⟨_,An _ rfl,rfl,rfl⟩ (Ju.push _) (Be _) λh2 UP k2 D2=>?_;refine⟨rfl,h h2 UP (λb o e=>k2 b o (Bp<|Ar<|kp b o e) (Bp<|Ar e)<|Ae _<|kp b o e) D2⟩
end
end PySem
namespace L2
open PySem PySem.Spec PyProof.Rows
section
variable{X:Cx}{pins:List (Addr×Obj)}{σ:St}{H:Hp}{s:Shared}
theorem UQ{kvs:List (Key×V)}:∀{ps:List (Key×V)} {acc:List (Key×Value)} {rs:List (Key×Value)},KV ps acc->KV kvs rs->KV (kvs.foldl (λa p=>putK a p.1 p.2) ps) (rs.foldl (λa p=>stored a p.1 p.2) acc):=by
 induction kvs with
 | nil=>intro ps acc rs h g;cases g;exact h
 | cons p r ih=>
  intro ps acc rs h g;cases g with
  | @cons _ q _ r' hq hr=>
   obtain⟨e1,e2⟩:=hq;rw [Di,Di];refine ih ?_ hr;rw [<- e1];exact h.put p.1 e2
theorem Jv{P:Program}{w:World}{h:Heap}:∀{kvs:List (Key×V)} {ts:List Addr},ts.length=kvs.length->(∀(j:Nat) t kv,ts[j]?=some t->kvs[j]?=some kv->∃ key v o m,(bz P w).is kv.1 key=true/\RelV kv.2 v/\h.get? t=some o/\o.cls = .type "tuple"/\o.data = .seq #[key,v] m) ->
  ∃ rs:List<|Key×Value,KV kvs rs/\∀(j:Nat) t,ts[j]?=some t->∃ key k v o m,rs[j]?=some (k,v)/\(bz P w).is k key=true/\h.get? t=some o/\o.cls = .type "tuple"/\o.data = .seq #[key,v] m
 | [],ts,hl,_=>by
  have:ts=[]:=Bf.mp hl;subst this;exact⟨[],.nil,λj t h=>by simp at h⟩
 | kv :: r,[],hl,_=>by simp at hl
 | kv :: r,t :: ts,hl,hp=>by
  obtain⟨key,v,o,m,q1,q2,q3,q4,q5⟩:=hp 0 t kv rfl rfl;obtain⟨rs,hk,hr⟩:=Jv (kvs:=r) (ts:=ts) (by simpa using hl) λj t kv h1 h2=>hp (j+1) t kv (by simpa using h1) (by simpa using h2);refine⟨(kv.1,v) :: rs,.cons ⟨rfl,q2⟩ hk,λj t' ht=>?_⟩;cases j with
  | zero=>
   cases ht;exact⟨key,kv.1,v,o,m,rfl,q1,q3,q4,q5⟩
  | succ j=>
   obtain⟨key,k,v,o,m,e,z⟩:=hr j t' (by simpa using ht);exact⟨key,k,v,o,m,by simpa using e,z⟩
theorem UR(hc:X.calm=true):gU X (.type "dict") (λxs H Q=>∃(a:Addr) (ts:List Addr) (kvs:List<|Key×V),xs=[.ref a]/\H a=some (.lst<|ts.map V.ref)/\ts.length=kvs.length/\ts.length < sizeLine/\(∀(j:Nat) t kv,ts[j]?=some t->kvs[j]?=some kv->H t=some (.tup [kV kv.1,kv.2])) /\
  ∀ d,H d=none->Q (.ref d) (upd H d<|.dK<|kvs.foldl (λa p=>putK a p.1 p.2) [])):=by
 intro pins s σ H xs us Q I r h;obtain⟨a,ts,kvs,rfl,hH,hl,hz,ht,q⟩:=h;obtain⟨u,rfl,ru⟩:=vals1 r;cases (show u=Value.ref a from ru);obtain⟨z,its,n,rv,e⟩:=(show az X.prog X.w H s.heap a (.lst<|ts.map V.ref) from I.aC a _ hH);have jJ:=rv.length;rw [Aa] at jJ;have m6:∀(j:Nat) t,ts[j]?=some t->its[j]?=some (.ref t):=λj t hj=>by
  obtain⟨u,hu,ru⟩:=rv.get (i:=j) (x:= .ref t) (by rw [Ad,hj];rfl);cases (show u=Value.ref t from ru);exact hu
 have pair:∀(j:Nat) t kv,ts[j]?=some t->kvs[j]?=some kv->∃ key v o m,(bz X.prog X.w).is kv.1 key=true/\RelV kv.2 v/\s.heap.get? t=some o/\o.cls = .type "tuple"/\o.data = .seq #[key,v] m:=λj t kv h1 h2=>by
  obtain⟨z2,cU,fe,o,eo,co,m,dm⟩:=(show az X.prog X.w H s.heap t (.tup [kV kv.1,kv.2]) from I.aC t _<|ht j t kv h1 h2);obtain⟨key,v,e3,r1,r2⟩:=fe.two;refine⟨key,v,o,m,l9 r1,r2,eo,co,?_⟩;rw [dm,e3]
 obtain⟨rs,hk,hr⟩:=Jv hl pair;have Jw:=hk.length;have hP:zR (bz X.prog X.w) s.heap its rs:=by
  refine⟨by omega,λj it hj=>?_⟩;have vD:j < ts.length:=by have:=(Ac.mp hj).1;omega
  have Jx:ts[j]?=some ts[j]:=Ab vD;have e2:=m6 j _ Jx;rw [hj] at e2;obtain⟨key,k,v,o,m,q1,q2,q3,q4,q5⟩:=hr j _ Jx;exact⟨ts[j],key,k,v,o,m,Option.some.inj e2,q1,q2,q3,q4,q5⟩
 refine UO (knd:=bz X.prog X.w) e rfl rfl rfl hP (by omega) (I.ok.hd hc) λh' tk kp D=>?_;have hlen:∀(l:List<|Key×V) (a:List<|Key×V),(l.foldl (λa p=>putK a p.1 p.2) a).length<=a.length+l.length:=by
  intro l
  induction l with
  | nil=>intro a;exact Ag _
  | cons p r ih=>
   intro a;rw [Di,Bj];have h1:=ih<|putK a p.1 p.2;have h2:=gX a p.1 p.2;omega
 have hb:=I.big;refine⟨.ref s.heap.objs.size,_,I.laid (t':=tk) kp (Ag _) (show az X.prog X.w _ h' _ (.dK<|kvs.foldl (λa p=>putK a p.1 p.2) []) from⟨?_,?_,_,UQ (kvs:=kvs) (ps:=[]) (acc:=[]) .nil hk,D⟩),rfl,q _<|I.aC.fresh<|Ag _⟩
 ·have:=hlen kvs [];rw [Fa] at this;omega
 ·exact beq_eq_false_iff_ne.mpr<|Cq hb
end
section
variable{X:Cx}{pins:List (Addr×Obj)}{σ:St}{H:Hp}{s:Shared}{h':Heap}
theorem Inv.bp{t':Nat}{ch:List Addr}(I:Inv X pins σ H s)(hf:∀ b∈ch,bR X pins H b)(k:∀ b o,b∉ch->s.heap.get? b=some o->h'.get? b=some o):Inv X pins σ H {s with heap:=h',toks:=t'}:=by
 have pX:∀ b u,H b=some u->b∉ch:=λb u e z=>by rw [(hf b z).1] at e;cases e
 refine I.step (g':=s.gens) (d':=s.drawn) (ch:=ch) (λb hb=>?_) (λb o _ _ hc e _=>k b o hc e) (λb o _ _ hc e _=>⟨o.slots,k b o hc e⟩) (λ_ _ _ _ n=>n)
  (λb o hc e=>⟨o,k b o hc e⟩) (λ_ _ e=>e) (λ_ _ _ e=>e) (λb ps e=>⟨#[],by rw [e];simp⟩) (λm hm=>?_) (λb u e=>?_) I.bare
 ·obtain⟨f0,f1,f2,f3,f4,f5⟩:=hf b hb;exact⟨f3,f1,f4,f5⟩
 ·obtain⟨o,es,ep,ho,r⟩:=hm;exact⟨o,es,ep,k _ o (λz=>(hf _ z).2.1 rfl) ho,r⟩
 ·refine(I.aC b u e).fk (λc v hc q=>k c v ?_ q) (λ_ q=>q) λ_ _ q=>q
  rcases hc with z | z
  ·rw [z];exact pX b u e
  ·exact pX c _ z
def vP(K:PySem.W.Frag)(a b:Addr):It:=
  ⟨λi H => ∃ xs ys x y, ak K H a xs ∧ ak K H b ys ∧ xs[i]? = some x ∧ ys[i]? = some y,
   λi H v H'=>∃ T x y,H T=none/\v = .ref T/\H'=upd H T (.tup [x,y])/\(∀ xs,ak K H a xs->xs[i]?=some x)/\∀ ys,ak K H b ys->ys[i]?=some y,
   λi H=>∃ xs ys,ak K H a xs/\ak K H b ys/\(xs.length<=i\/ys.length<=i)⟩
def Jy(m a b:Addr)(i:Nat)(h:Heap):Prop:=
 IsZip h (m+4) (m+2) (m+3) .none/\IsPair h (m+2) (.ref m) (.ref<|m+1)/\(∃ x y,IsPair h (m+3) x y)/\h.IsListIter m a i/\h.IsListIter (m+1) b i
theorem Jz{h:Heap}{m a b:Addr}{i:Nat}{xs ys:Array Value}(z:Jy m a b i h)(ha:h.IsList a xs)(hb:h.IsList b ys):ZipApart (m+4) (m+2) (m+3) m (m+1) a b:=by
  obtain⟨z1,z2,⟨x,y,z3⟩,⟨o4,e4,c4,_⟩,⟨o5,e5,c5,_⟩⟩:=z;have cls:∀{l:Addr} {vs:Array Value} {c:Addr} {o:Obj},h.IsList l vs->h.get? c=some o->o.cls ≠ .type "list"->l≠c:=λhl hc hn e=>by
    obtain⟨ol,m7,UT,_⟩:=hl;rw [e,hc] at m7;cases m7;exact hn UT
  exact { TIz := by simp, TOz := by simp, i1z := by simp, i2z := by simp, TITO := by simp, TIi1 := by simp, TIi2 := by simp, TOi1 := by simp, TOi2 := by simp, i12 := by simp
          l1z:=cls ha z1 (by show Value.type "zip"≠Value.type "list";decide),l1TO:=cls ha z3 (by show Value.type "tuple"≠Value.type "list";decide),l1i1:=cls ha e4 (by rw [c4];decide),l1i2:=cls ha e5<|by rw [c5];decide
          l2z:=cls hb z1 (by show Value.type "zip"≠Value.type "list";decide),l2TO:=cls hb z3 (by show Value.type "tuple"≠Value.type "list";decide),l2i1:=cls hb e4 (by rw [c4];decide),l2i2:=cls hb e5 (by rw [c5];decide)}
theorem UU{P:Program}{w:World}{K:PySem.W.Frag}{elts:List Expr}{k:Nat}{tp:Pos}(m a b:Addr):Turn P w K (.Tuple elts k tp) (vP K a b) [m,m+1,m+2,m+3,m+4] (m+4) (Jy m a b) where
 mem:=by simp
 obj:=λi h st c hc=>by
  obtain⟨z1,z2,⟨x,y,z3⟩,⟨o4,e4,c4,d4⟩,⟨o5,e5,c5,d5⟩⟩:=st;simp only [Am,Ci,HW] at hc
  rcases hc with rfl | rfl | rfl | rfl | rfl
  ·exact⟨_,e4,λv z=>by rw [d4] at z;cases z⟩
  ·exact⟨_,e5,λv z=>by rw [d5] at z;cases z⟩
  ·exact⟨_,z2,λv z=>by cases z⟩
  ·exact⟨_,z3,λv z=>by cases z⟩
  ·exact⟨_,z1,λv z=>by cases z⟩
 keep:=λi h h' st kp=>by
  obtain⟨z1,z2,⟨x,y,z3⟩,⟨o4,e4,r4⟩,⟨o5,e5,r5⟩⟩:=st;exact⟨kp _ (by simp) _ z1,kp _ (by simp) _ z2,⟨x,y,kp _ (by simp) _ z3⟩,⟨o4,kp _ (by simp) _ e4,r4⟩,⟨o5,kp _ (by simp) _ e5,r5⟩⟩
 item:=by
  intro X hP hw hK hc i pins s σ H E I hf st hg;subst hP hw hK;obtain⟨xs,ys,x,y,gG,vQ,hx,hy⟩:=hg;obtain⟨eJ,iI,p1,hG⟩:=I.list gG;obtain⟨cU,fe,p2,vR⟩:=I.list vQ;obtain⟨u1,rc,zU⟩:=iI.get hx;obtain⟨u2,zV,UW⟩:=fe.get hy;have D:=Jz st p1.isList p2.isList;obtain⟨z1,z2,⟨x0,y0,z3⟩,z4,z5⟩:=id st;refine wpAny_pyNext_zip_item D z1 z2 z3 z4 z5 p1.isList p2.isList (x:=u1) (y:=u2) (by simpa using rc) (by simpa using zV) λh' a1 a2 a3 a4 a5 a6 kp=>?_;have hT:H s.heap.objs.size=none:=I.aC.fresh<|Ag _;have nT:∀ c∈[m,m+1,m+2,m+3,m+4],c≠s.heap.objs.size:=λc aW=>by
   have:∃ o,s.heap.get? c=some o:=by
    obtain⟨o4,e4,_⟩:=z4;obtain⟨o5,e5,_⟩:=z5;simp only [Am,Ci,HW] at aW
    rcases aW with rfl | rfl | rfl | rfl | rfl
    ·exact⟨_,e4⟩
    ·exact⟨_,e5⟩
    ·exact⟨_,z2⟩
    ·exact⟨_,z3⟩
    ·exact⟨_,z1⟩
   obtain⟨o,e⟩:=this;exact Bp<|Ar e
  have I1:Inv X pins σ (upd H s.heap.objs.size<|.tup [x,y]) {s with heap:=s.heap.push {cls:= .type "tuple",data:= .seq #[u1,u2]}}:=
   I.laid (t':=s.toks) (λb o e=>Ae _ e) (Ag _) (show az X.prog X.w _ _ _ (.tup [x,y]) from⟨Z2,[u1,u2],.cons zU<|.cons UW .nil,⟨_,An _ rfl,rfl,_,rfl⟩⟩)
  have f1:∀ c∈[m,m+1,m+2,m+3,m+4],bR X pins (upd H s.heap.objs.size<|.tup [x,y]) c:=λc aW=>⟨by rw [au<|nT c aW];exact(hf c aW).1,(hf c aW).2⟩;have mC:∀ c o,c∉[m,m+1,m+2,m+3,m+4]->(s.heap.push {cls:= .type "tuple",data:= .seq #[u1,u2]}).get? c=some o->h'.get? c=some o:=λc o aW e=>by
   rcases Fk e with ⟨ec,eo⟩ | e'
   ·rw [ec,eo];exact a5
   ·simp only [Am,Ci,HW,not_or] at aW;exact kp c o aW.2.2.2.2 aW.2.2.2.1 aW.1 aW.2.1 e'
  have I2:=Inv.bp (h':=h') (t':=s.toks) I1 f1 mC;refine⟨_,rfl,wpAny_letOwnedTupleGo_zip (s:={s with heap:=h'}) a1 λh2 b1 sb=>?_⟩;have UX:IsPair h' (m+2) (.ref m) (.ref<|m+1):=kp _ _ (by simp) (by simp) (by simp) (by simp) z2;have vS:∀ c o,c∉[m+4]->h'.get? c=some o->h2.get? c=some o:=λc o aW e=>(sb.2 c<|by simpa using aW).trans e;have I3:=Inv.bp (h':=h2) (t':=s.toks) I2 (ch:=[m+4]) (λc aW=>f1 c<|by simp at aW;simp [aW]) vS;refine⟨.ref s.heap.objs.size,_,I3,rfl,⟨_,x,y,hT,rfl,rfl,λzs hz=>by rw [I.cj hz gG];exact hx,λzs hz=>by rw [I.cj hz vQ];exact hy⟩,?_,λc aW=>(f1 c aW).1⟩;have sx:∀ c o,c≠m+4->h'.get? c=some o->h2.get? c=some o:=λc o aW e=>(sb.2 c aW).trans e;obtain⟨o3,e3,r3⟩:=a3;obtain⟨o4,e4,r4⟩:=a4;exact⟨b1,sx _ _ (by simp) UX,⟨u1,u2,sx _ _ (by simp) a2⟩,⟨o3,sx _ _ (by simp) e3,r3⟩,⟨o4,sx _ _ (by simp) e4,r4⟩⟩
 done:=by
  intro X hP hw hK hc i pins s σ H E I hf st hg;subst hP hw hK;obtain⟨xs,ys,gG,vQ,rB⟩:=hg;obtain⟨eJ,iI,p1,hG⟩:=I.list gG;obtain⟨cU,fe,p2,vR⟩:=I.list vQ;have l1:=iI.length;have l2:=fe.length;have D:=Jz st p1.isList p2.isList;obtain⟨z1,z2,⟨x0,y0,z3⟩,z4,z5⟩:=id st;refine wpAny_pyNext_zip_end (I.ok.hd hc) D z1 z2 z3 z4 z5 p1.isList p2.isList ?_ λh' kp=>⟨rfl,I.bp (t':=s.toks) (ch:=[m,m+1,m+2,m+3,m+4]) hf λc o aW e=>?_⟩
  ·rcases rB with h | h
   ·exact .inl<|by simp;omega
   ·exact .inr<|by simp;omega
  ·simp only [Am,Ci,HW,not_or] at aW;exact kp c o aW.2.2.2.2 aW.2.2.2.1 aW.1 aW.2.1 e
 self:=λ_ _ _ _ _ st h=>wpAny_pyIter_zip st.1 h
end
section
variable{X:Cx}
def zW(K:PySem.W.Frag)(ta:TA):TI:=λσ H R=>ta σ H λvs H1=>∃ a b,vs=[.ref a,.ref b]/\(∃ xs,ak K H1 a xs)/\(∃ ys,ak K H1 b ys)/\R (vP K a b) H1
theorem JA{elts:List Expr}{k:Nat}{tp:Pos}{a b:Expr}{ta:TA}{p pos:Pos}(hg:Gl X "zip")(hm:X.mg "zip" = none)(ha:PA X [a,b] ta)(hs:starEach [a,b] X.env=[(false,eval a X.env),(false,eval b X.env)]:=by rfl)(m5:starEach [b] X.env=[(false,eval b X.env)]:=by rfl) :
  PI X (.Tuple elts k tp) (.Call (.Name "zip" p) [a,b] [] pos) (zW X.K ta):=by
 intro pins s σ H R I h;refine Call_ (i4 I hg hm boot_zip<|DX (aE (ha pos pins s σ H _ I h) λus s1 ⟨vs,H1,I1,r1,q1⟩=>?_) (by rw [hs,m5])<|by rw [m5];rfl);obtain⟨x,y,e,⟨xs,hx⟩,⟨ys,hy⟩,q⟩:=q1;subst e;obtain⟨u,v,rfl,ru,rv⟩:=r1.two;cases (show u=Value.ref x from ru);cases (show v=Value.ref y from rv);obtain⟨eJ,iI,p1,hG⟩:=I1.list hx;obtain⟨cU,fe,p2,vR⟩:=I1.list hy;refine call_zip_2 p1.isList p2.isList λh' a1 a2 a3 a4 a5 a6 kp=>?_;refine wpAny_pyIter_zip (s:={s1 with heap:=h'}) a1 ?_;refine⟨s1.heap.objs.size+4,[s1.heap.objs.size,s1.heap.objs.size+1,s1.heap.objs.size+2,s1.heap.objs.size+3,s1.heap.objs.size+4],_,_,H1,rfl,I1.kept (t':=s1.toks) kp,UU s1.heap.objs.size x y,⟨a1,a2,⟨_,_,a3⟩,a4,a5⟩,λb hb=>?_,q⟩;have hle:s1.heap.objs.size<=b:=by
  simp only [Am,Ci,HW] at hb
  rcases hb with rfl | rfl | rfl | rfl | rfl <;> omega
 exact I1.dF hle<|I1.aC.fresh hle
end
def oX(elt t1 i1:Expr)(f1:List Expr)(t2 i2:Expr)(f2:List Expr)(scope:Scope)(pos:Pos)(acc:Value)(env:Env):Sem Unit:=do
 let x <- eval i2 env
 standAt i2.pos
 let x <- foldedSetIterable i2 env x
 let _ <- runOwn (.compStart (.ListComp elt [⟨t1,i1,f1,0⟩,⟨t2,i2,f2,0⟩] scope pos) 1 (<- holding [x]<|pyIter x) acc env) env
section
variable{X:Cx}{elt t1 i1 t2 i2:Expr}{f1 f2:List Expr}{scope:Scope}{pos:Pos}{σ:St}{H:Hp}{acc:Value}{env:Env}
theorem UY:Clause (.ListComp elt [⟨t1,i1,f1,0⟩,⟨t2,i2,f2,0⟩] scope pos) 0 t1 i1 f1 acc env (oX elt t1 i1 f1 t2 i2 f2 scope pos acc env):=⟨rfl,λ_=>rfl,λ_ _ _=>rfl,λ_ _=>rfl,λ_ _ _=>rfl,λ_ _=>rfl,λit=>by
 unfold oX;simp only [bind_assoc,pure_bind];rfl⟩
theorem UZ:Clause (.ListComp elt [⟨t1,i1,f1,0⟩,⟨t2,i2,f2,0⟩] scope pos) 1 t2 i2 f2 acc env (emit elt acc env):=⟨rfl,λ_=>rfl,λ_ _ _=>rfl,λ_ _=>rfl,λ_ _ _=>rfl,λ_ _=>rfl,λ_=>rfl⟩
theorem U0{wi:TI}{Q:St->Hp->Prop}(bq:X.xe=λ_ _=>False)(hc:X.calm=true)(hi:PI X t2 i2 wi)(h:wi σ H λJ H1=>dU X t2 f2 (emit elt acc X.env) J Q σ H1)
  (hs:∀ x,foldedSetIterable i2 X.env x=pure x:=by intro _;rfl):gD X (oX elt t1 i1 f1 t2 i2 f2 scope pos acc X.env) σ H Q:=by
 refine⟨λpins s I=>?_⟩;unfold oX;refine BJ<|aE (hi pins s σ H _ I h) λx s1 h1=>?_;refine BJ<|EY<|BJ<|HN (hs x)<|BJ<|CJ<|CP h1 (λgq s2 h2=>?_) λ_ _ e=>e;obtain⟨it,fp,tn,J,H2,e,I2,T,bZ,eM,q⟩:=h2;subst e;refine BJ<|QB (Q:=λ_ s'=>wpAny (model X.prog X.w) X.A (pure ()) (λ_ s'=>∃ σ' H',Inv X pins σ' H' s'/\Q σ' H') X.xe s') ?_;exact qJ bq hc UZ I2 T bZ eM q λσ' H' s' I' q'=>BK ⟨σ',H',I',q'⟩
theorem U1{wi:TI}{Q:VK}(sc:Scope)(N N':List Str)(n:Nat)(hi:PI X t1 i1 wi)
  (h:wi σ H λJ H1=>∀ D,H1 D=none->∀ cl C s₀ H₀ ex,dU (eW X N' scope cl C s₀ H₀ ex) t1 f1 (oX elt t1 i1 f1 t2 i2 f2 scope pos (.ref D)<|compEnvC scope cl C X.env) J (λ_ H'=>Q (.ref D) H') (σ++List.replicate n none)<|upd H1 D<|.lst [])
  (hc:X.calm=true:=by rfl) (gE:X.env.scope=sc:=by rfl) (hN:X.N=N:=by rfl) (hk:jE sc scope N N'=true:=by decide +kernel) (hl:N'.length=N.length+n:=by rfl)
  (hs:∀ x,foldedSetIterable i1 X.env x=pure x:=by intro _;rfl):Ev X (.ListComp elt [⟨t1,i1,f1,0⟩,⟨t2,i2,f2,0⟩] scope pos) σ H Q:=by
 refine⟨λpins s I=>?_⟩;subst gE hN;have ck:=bh.of hk;rw [eval_ListComp];refine DW (use:=none) rfl hs (mh λx hx hf=>I.ok.has x.1<|ck.free x hx hf) ck.kind ck.names (aE (hi pins s σ H _ I h) λv s1 h1=>aE h1 λgq s2 h2=>?_);obtain⟨it,fp,tn,J,H2,e,I2,T,bZ,eM,q⟩:=h2;subst e;refine oF (e:= .ListComp elt [⟨t1,i1,f1,0⟩,⟨t2,i2,f2,0⟩] scope pos) (newAcc:=newList []) (o0:={cls:= .type "list",dict:=none,data:= .seq ([]:List Value).toArray}) (u0:=λ_=> .lst []) (λ_ _ _ h=>CT h<|by show(0:Nat)<=sizeLine;exact Be _) (λ_ _ _=>⟨Be _,[],0,.nil,An _ rfl⟩) (Q:=Q) (RR:=λacc C=>compPost (model X.prog X.w) X.A X.xe none (EP X pins σ Q) acc C) hc ck hl (inner:=oX elt t1 i1 f1 t2 i2 f2 scope pos) (λ_ _=>UY) I2 T bZ eM q ?_;intro D C H' s' m IX hn hC c1 c2 c3 c4 qq;exact⟨m,hn,λh' fc=>⟨.ref D,H',IX.turned (t':=s'.toks) (λb o hb e=>fc.extBut b o hb e) hC (BX<|BX c1) (.inr c2) c3 c4,rfl,qq⟩⟩
end
section
variable{X:Cx}{pins:List (Addr×Obj)}{σ:St}{H:Hp}{s:Shared}{a:Addr}{y v:V}{u r:Value}{A:Around}{E:Value->Shared->Prop}
theorem U2{H':Hp}{Q:Unit->Shared->Prop}(hu:A.units+1 < cLine)(I:Inv X pins σ H s)(g:cu H a y v H')(ry:RelV y u)(rv:RelV v r)(h:∀ s',Inv X pins σ H' s'->Q () s') :
  wpAny (model X.prog X.w) A (dictSet a u r) Q E s:=by
 rcases g with ⟨kvs,k,e,ey,l,eH⟩ | ⟨kvs,k,b,e,ey,eb,l,eH⟩
 ·subst ey eH;obtain⟨z,hd,vs,rel,dd⟩:=qv I.aC e;have hz:vs.length<=sizeLine:=by rw [<- rel.length];exact z
  have hl:(putK kvs k v).length<=sizeLine:=by have:=gX kvs k v;omega
  refine wpAny_dictSet_pairs (hsz:=hz) (l9 ry) dd λh' gY hs=>h _ ?_;have he:∃ q,h'.get? a=some q:=let ⟨q,_,_,hq,_⟩:=gY;⟨q,hq⟩
  exact i6 I (by rw [e];exact True.intro) hs he<|x6 hl hd (rel.put k rv) gY
 ·subst ey eH;cases (show u=Value.ref b from ry);obtain⟨z,hd,xs,rel,dd⟩:=Gw I.aC e;have hz:xs.length<=sizeLine:=by rw [<- Paired.length rel];exact z
  have hl:(putK kvs k v).length<=sizeLine:=by have:=gX kvs k v;omega
  have room:(tupleKind<|bz X.prog X.w).room A:=by first | exact hu | exact Nat.lt_of_succ_lt hu | exact Nat.lt_of_le_of_lt (QZ _) hu
  refine wpAny_dictSet_heap (hsz:=hz) room (jC I.aC eb) dd λh' gY hs=>h _ ?_;obtain⟨q,es,ep,hq,h2,h3,h4,_,h5⟩:=gY;refine i6 I (by rw [e];exact True.intro) hs ⟨q,hq⟩ ⟨hl,hd,_,(rel.put k eb rv).keeps λc ys ec=>?_,q,es,ep,hq,h2,h3,h4,h5⟩;rw [au<|bO ec e λz=>nomatch z];exact ec
end
def jR(k v:Expr)(acc:Value)(env:Env):Sem Unit:=do
 let kv <- eval k env
 let vv <- holding [kv]<|eval v env
 match acc with
 | .ref d=>do
  standAt {k.pos with endLine:=v.pos.endLine,endCol:=v.pos.endCol}
  holding [kv,vv] (dictSet d kv vv)
 | _=>unsupported "internal:dictcomp"
def oY(k v t1 i1:Expr)(f1:List Expr)(t2 i2:Expr)(f2:List Expr)(scope:Scope)(pos:Pos)(acc:Value)(env:Env):Sem Unit:=do
 let x <- eval i2 env
 standAt i2.pos
 let x <- foldedSetIterable i2 env x
 let _ <- runOwn (.compStart (.DictComp k v [⟨t1,i1,f1,0⟩,⟨t2,i2,f2,0⟩] scope pos) 1 (<- holding [x]<|pyIter x) acc env) env
section
variable{X:Cx}{k v t1 i1 t2 i2:Expr}{f1 f2:List Expr}{scope:Scope}{pos:Pos}{σ:St}{H:Hp}{acc:Value}{env:Env}
theorem U3:Clause (.DictComp k v [⟨t1,i1,f1,0⟩] scope pos) 0 t1 i1 f1 acc env (jR k v acc env):=⟨rfl,λ_=>rfl,λ_ _ _=>rfl,λ_ _=>rfl,λ_ _ _=>rfl,λ_ _=>rfl,λit=>by
 unfold jR;cases acc <;> first | rfl | (simp only [bind_assoc,pure_bind];rfl)⟩
theorem U4:Clause (.DictComp k v [⟨t1,i1,f1,0⟩,⟨t2,i2,f2,0⟩] scope pos) 0 t1 i1 f1 acc env (oY k v t1 i1 f1 t2 i2 f2 scope pos acc env):=⟨rfl,λ_=>rfl,λ_ _ _=>rfl,λ_ _=>rfl,λ_ _ _=>rfl,λ_ _=>rfl,λit=>by
 unfold oY;simp only [bind_assoc,pure_bind];rfl⟩
theorem U5:Clause (.DictComp k v [⟨t1,i1,f1,0⟩,⟨t2,i2,f2,0⟩] scope pos) 1 t2 i2 f2 acc env (jR k v acc env):=⟨rfl,λ_=>rfl,λ_ _ _=>rfl,λ_ _=>rfl,λ_ _ _=>rfl,λ_ _=>rfl,λit=>by
 unfold jR;cases acc <;> first | rfl | (simp only [bind_assoc,pure_bind];rfl)⟩
theorem JE{D:Addr}{Q:St->Hp->Prop}(hu:X.A.units+1 < cLine)(h:Ev X k σ H λy H1=>Ev X v σ H1 λx H2=>∃ H3,cu H2 D y x H3/\Q σ H3):gD X (jR k v (.ref D) X.env) σ H Q:=by
 refine⟨λpins s I=>?_⟩;unfold jR;refine BJ<|aE (h.run pins s I) λkv s1 ⟨y,H1,I1,r1,h1⟩=>?_;refine BJ<|CJ<|aE (h1.run pins s1 I1) λvv s2 ⟨x,H2,I2,r2,H3,dp,q⟩=>?_;show wpAny _ _ (standAt _ >>= λ_=>holding [kv,vv]<|dictSet D kv vv) _ _ _;exact BJ<|EY<|CJ<|U2 hu I2 dp r1 r2 λs' I'=>⟨σ,H3,I',q⟩
theorem U6{wi:TI}{Q:St->Hp->Prop}(bq:X.xe=λ_ _=>False)(hc:X.calm=true)(hi:PI X t2 i2 wi)(h:wi σ H λJ H1=>dU X t2 f2 (jR k v acc X.env) J Q σ H1)
  (hs:∀ x,foldedSetIterable i2 X.env x=pure x:=by intro _;rfl):gD X (oY k v t1 i1 f1 t2 i2 f2 scope pos acc X.env) σ H Q:=by
 refine⟨λpins s I=>?_⟩;unfold oY;refine BJ<|aE (hi pins s σ H _ I h) λx s1 h1=>?_;refine BJ<|EY<|BJ<|HN (hs x)<|BJ<|CJ<|CP h1 (λgq s2 h2=>?_) λ_ _ e=>e;obtain⟨it,fp,tn,J,H2,e,I2,T,bZ,eM,q⟩:=h2;subst e;refine BJ<|QB (Q:=λ_ s'=>wpAny (model X.prog X.w) X.A (pure ()) (λ_ s'=>∃ σ' H',Inv X pins σ' H' s'/\Q σ' H') X.xe s') ?_;exact qJ bq hc U5 I2 T bZ eM q λσ' H' s' I' q'=>BK ⟨σ',H',I',q'⟩
theorem JI{wi:TI}{Q:VK}(sc:Scope)(N N':List Str)(n:Nat)(hi:PI X t1 i1 wi)
  (h:wi σ H λJ H1=>∀ D,H1 D=none->∀ cl C s₀ H₀ ex,dU (eW X N' scope cl C s₀ H₀ ex) t1 f1 (jR k v (.ref D)<|compEnvC scope cl C X.env) J (λ_ H'=>Q (.ref D) H') (σ++List.replicate n none)<|upd H1 D<|.dT [])
  (hc:X.calm=true:=by rfl) (gE:X.env.scope=sc:=by rfl) (hN:X.N=N:=by rfl) (hk:jE sc scope N N'=true:=by decide +kernel) (hl:N'.length=N.length+n:=by rfl)
  (hs:∀ x,foldedSetIterable i1 X.env x=pure x:=by intro _;rfl):Ev X (.DictComp k v [⟨t1,i1,f1,0⟩] scope pos) σ H Q:=by
 refine⟨λpins s I=>?_⟩;subst gE hN;have ck:=bh.of hk;show wpAny _ _ (comprehension (.DictComp k v [⟨t1,i1,f1,0⟩] scope pos) scope X.env (firstIterPos [⟨t1,i1,f1,0⟩] pos) newDict (firstAsync [⟨t1,i1,f1,0⟩])<|firstIter [⟨t1,i1,f1,0⟩] X.env) _ _ _;refine DW (use:=none) rfl hs (mh λx hx hf=>I.ok.has x.1<|ck.free x hx hf) ck.kind ck.names (aE (hi pins s σ H _ I h) λxv s1 h1=>aE h1 λgq s2 h2=>?_);obtain⟨it,fp,tn,J,H2,e,I2,T,bZ,eM,q⟩:=h2;subst e;refine oF (e:= .DictComp k v [⟨t1,i1,f1,0⟩] scope pos) (newAcc:=newDict) (o0:={cls:= .type "dict",data:= .dict #[]}) (u0:=λ_=> .dT []) (λ_ _ _ h=>CT h) (λ_ h hb=>x9 h hb) (Q:=Q) (RR:=λacc C=>compPost (model X.prog X.w) X.A X.xe none (EP X pins σ Q) acc C) hc ck hl (inner:=jR k v) (λ_ _=>U3) I2 T bZ eM q ?_;intro D C H' s' m IX hn hC c1 c2 c3 c4 qq;exact⟨m,hn,λh' fc=>⟨.ref D,H',IX.turned (t':=s'.toks) (λb o hb e=>fc.extBut b o hb e) hC (BX<|BX c1) (.inr c2) c3 c4,rfl,qq⟩⟩
theorem U7{wi:TI}{Q:VK}(sc:Scope)(N N':List Str)(n:Nat)(hi:PI X t1 i1 wi)
  (h:wi σ H λJ H1=>∀ D,H1 D=none->∀ cl C s₀ H₀ ex,dU (eW X N' scope cl C s₀ H₀ ex) t1 f1 (oY k v t1 i1 f1 t2 i2 f2 scope pos (.ref D)<|compEnvC scope cl C X.env) J (λ_ H'=>Q (.ref D) H') (σ++List.replicate n none)<|upd H1 D<|.dT [])
  (hc:X.calm=true:=by rfl) (gE:X.env.scope=sc:=by rfl) (hN:X.N=N:=by rfl) (hk:jE sc scope N N'=true:=by decide +kernel) (hl:N'.length=N.length+n:=by rfl)
  (hs:∀ x,foldedSetIterable i1 X.env x=pure x:=by intro _;rfl):Ev X (.DictComp k v [⟨t1,i1,f1,0⟩,⟨t2,i2,f2,0⟩] scope pos) σ H Q:=by
 refine⟨λpins s I=>?_⟩;subst gE hN;have ck:=bh.of hk;show wpAny _ _ (comprehension (.DictComp k v [⟨t1,i1,f1,0⟩,⟨t2,i2,f2,0⟩] scope pos) scope X.env (firstIterPos [⟨t1,i1,f1,0⟩,⟨t2,i2,f2,0⟩] pos) newDict (firstAsync [⟨t1,i1,f1,0⟩,⟨t2,i2,f2,0⟩])<|firstIter [⟨t1,i1,f1,0⟩,⟨t2,i2,f2,0⟩] X.env) _ _ _;refine DW (use:=none) rfl hs (mh λx hx hf=>I.ok.has x.1<|ck.free x hx hf) ck.kind ck.names (aE (hi pins s σ H _ I h) λxv s1 h1=>aE h1 λgq s2 h2=>?_);obtain⟨it,fp,tn,J,H2,e,I2,T,bZ,eM,q⟩:=h2;subst e;refine oF (e:= .DictComp k v [⟨t1,i1,f1,0⟩,⟨t2,i2,f2,0⟩] scope pos) (newAcc:=newDict) (o0:={cls:= .type "dict",data:= .dict #[]}) (u0:=λ_=> .dT []) (λ_ _ _ h=>CT h) (λ_ h hb=>x9 h hb) (Q:=Q) (RR:=λacc C=>compPost (model X.prog X.w) X.A X.xe none (EP X pins σ Q) acc C) hc ck hl (inner:=oY k v t1 i1 f1 t2 i2 f2 scope pos) (λ_ _=>U4) I2 T bZ eM q ?_;intro D C H' s' m IX hn hC c1 c2 c3 c4 qq;exact⟨m,hn,λh' fc=>⟨.ref D,H',IX.turned (t':=s'.toks) (λb o hb e=>fc.extBut b o hb e) hC (BX<|BX c1) (.inr c2) c3 c4,rfl,qq⟩⟩
end
open bT
theorem JO{prog:Program}{w:World}{A:Around}{E:Value->Shared->Prop}{s:Shared}{a:Addr}{zs:List Str}{z:Str}{tk:Tok}{Q:Value->Shared->Prop}(S:a8 prog w s.heap a zs)(hb:zs.length+1 < 1000)
  (h:∀ h',Heap.SameBut a s.heap h'->a8 prog w h' a (added zs z)->Q .none {s with heap:=h',toks:=s.toks+1}) :
  wpAny (model prog w) A (call (.builtin "set.add") [.ref a,.str z tk]) Q E s:=by
 have hT:s.TypeIs (.ref a) "set":=let ⟨o,_,_,_,ho,hx,_⟩:=S;⟨o,ho,hx.1⟩
 refine DG F.slot_set_add hT F.entry_set_add ?_<|F.args_set_add_2 _ _;unfold Builtin.«set.add» Builtin.Frozenset.oneOther;simp only [Em,bind_assoc];unfold Builtin.Frozenset.addrOf setAdd;refine BJ<|BK ?_
 try dsimp only
 refine BJ<|BK ?_
 try dsimp only
 refine BJ ?_;refine CJ ?_;refine BJ ((PySem.strKind prog w).pyHash (k:=z) (v:= .str z tk) (by simp [PySem.strKind,Value.isStrOf]) ?_);refine R5 (s:={s with toks:=s.toks+1}) S hb λb h' sb S'=>?_;show wpAny _ _ (ret Value.none) _ _ _;exact BK ⟨_,rfl,h h' sb S'⟩
theorem U8{prog:Program}{w:World}{A:Around}{E:Value->Shared->Prop}{s:Shared}{Q:Value->Shared->Prop}(k:Q (.ref s.heap.objs.size) {s with heap:=s.heap.push (kP w)}):wpAny (model prog w) A (newSet<|.type "set") Q E s:=by
 unfold newSet;refine BJ<|wp_text ?_
 dsimp only
 simp only [newObj];exact BJ<|wpAny_alloc<|BK k
def rC(elt:Expr)(acc:Value)(env:Env):Sem Unit:=do let v <- eval elt env;standAt elt.pos;let _ <- call (.builtin "set.add") [acc,v]
def oZ(elt t1 i1:Expr)(f1:List Expr)(t2 i2:Expr)(f2:List Expr)(scope:Scope)(pos:Pos)(acc:Value)(env:Env):Sem Unit:=do
 let x <- eval i2 env
 standAt i2.pos
 let x <- foldedSetIterable i2 env x
 let _ <- runOwn (.compStart (.SetComp elt [⟨t1,i1,f1,0⟩,⟨t2,i2,f2,0⟩] scope pos) 1 (<- holding [x]<|pyIter x) acc env) env
section
variable{X:Cx}{elt t1 i1 t2 i2:Expr}{f1 f2:List Expr}{scope:Scope}{pos:Pos}{σ:St}{H:Hp}{acc:Value}{env:Env}
theorem U9:Clause (.SetComp elt [⟨t1,i1,f1,0⟩,⟨t2,i2,f2,0⟩] scope pos) 0 t1 i1 f1 acc env (oZ elt t1 i1 f1 t2 i2 f2 scope pos acc env):=⟨rfl,λ_=>rfl,λ_ _ _=>rfl,λ_ _=>rfl,λ_ _ _=>rfl,λ_ _=>rfl,λit=>by
 unfold oZ;simp only [bind_assoc,pure_bind];rfl⟩
theorem U':Clause (.SetComp elt [⟨t1,i1,f1,0⟩,⟨t2,i2,f2,0⟩] scope pos) 1 t2 i2 f2 acc env (rC elt acc env):=⟨rfl,λ_=>rfl,λ_ _ _=>rfl,λ_ _=>rfl,λ_ _ _=>rfl,λ_ _=>rfl,λit=>by
 unfold rC
 first | rfl | (simp only [bind_assoc,pure_bind];rfl)⟩
theorem Va{D:Addr}{Q:St->Hp->Prop} (h:Ev X elt σ H λv H1=>∃ z zs,v = .str z/\H1 D=some (bj X.prog X.w D zs)/\zs.length+1 < 1000/\Q σ (upd H1 D<|bj X.prog X.w D<|added zs z)):gD X (rC elt (.ref D) X.env) σ H Q:=by
 refine⟨λpins s I=>?_⟩;unfold rC;refine BJ<|aE (h.run pins s I) λv s1 ⟨x,H1,I1,r1,z,zs,e,hD,hl,q⟩=>?_;subst e;obtain⟨tk,rfl⟩:=r1;refine BJ (EY<|BJ<|JO (I1.set hD) hl λh' sb S'=>BK ⟨σ,_,i6 (t':=s1.toks+1) I1 (by rw [hD];exact True.intro) sb ?_<|uV S',q⟩);obtain⟨o,_,_,_,ho,_⟩:=S';exact⟨o,ho⟩
theorem Vb{wi:TI}{Q:St->Hp->Prop}(bq:X.xe=λ_ _=>False)(hc:X.calm=true)(hi:PI X t2 i2 wi)(h:wi σ H λJ H1=>dU X t2 f2 (rC elt acc X.env) J Q σ H1)
  (hs:∀ x,foldedSetIterable i2 X.env x=pure x:=by intro _;rfl):gD X (oZ elt t1 i1 f1 t2 i2 f2 scope pos acc X.env) σ H Q:=by
 refine⟨λpins s I=>?_⟩;unfold oZ;refine BJ<|aE (hi pins s σ H _ I h) λx s1 h1=>?_;refine BJ<|EY<|BJ<|HN (hs x)<|BJ<|CJ<|CP h1 (λgq s2 h2=>?_) λ_ _ e=>e;obtain⟨it,fp,tn,J,H2,e,I2,T,bZ,eM,q⟩:=h2;subst e;refine BJ<|QB (Q:=λ_ s'=>wpAny (model X.prog X.w) X.A (pure ()) (λ_ s'=>∃ σ' H',Inv X pins σ' H' s'/\Q σ' H') X.xe s') ?_;exact qJ bq hc U' I2 T bZ eM q λσ' H' s' I' q'=>BK ⟨σ',H',I',q'⟩
theorem Vc{wi:TI}{Q:VK}(sc:Scope)(N N':List Str)(n:Nat)(hi:PI X t1 i1 wi)
  (h:wi σ H λJ H1=>∀ D,H1 D=none->∀ cl C s₀ H₀ ex,dU (eW X N' scope cl C s₀ H₀ ex) t1 f1 (oZ elt t1 i1 f1 t2 i2 f2 scope pos (.ref D)<|compEnvC scope cl C X.env) J (λ_ H'=>Q (.ref D) H') (σ++List.replicate n none)<|upd H1 D<|bj X.prog X.w D [])
  (hc:X.calm=true:=by rfl) (gE:X.env.scope=sc:=by rfl) (hN:X.N=N:=by rfl) (hk:jE sc scope N N'=true:=by decide +kernel) (hl:N'.length=N.length+n:=by rfl)
  (hs:∀ x,foldedSetIterable i1 X.env x=pure x:=by intro _;rfl):Ev X (.SetComp elt [⟨t1,i1,f1,0⟩,⟨t2,i2,f2,0⟩] scope pos) σ H Q:=by
 refine⟨λpins s I=>?_⟩;subst gE hN;have ck:=bh.of hk;show wpAny _ _ (comprehension (.SetComp elt [⟨t1,i1,f1,0⟩,⟨t2,i2,f2,0⟩] scope pos) scope X.env (firstIterPos [⟨t1,i1,f1,0⟩,⟨t2,i2,f2,0⟩] pos) (newSet<|.type "set") (firstAsync [⟨t1,i1,f1,0⟩,⟨t2,i2,f2,0⟩])<|firstIter [⟨t1,i1,f1,0⟩,⟨t2,i2,f2,0⟩] X.env) _ _ _;refine DW (use:=none) rfl hs (mh λx hx hf=>I.ok.has x.1<|ck.free x hx hf) ck.kind ck.names (aE (hi pins s σ H _ I h) λxv s1 h1=>aE h1 λgq s2 h2=>?_);obtain⟨it,fp,tn,J,H2,e,I2,T,bZ,eM,q⟩:=h2;subst e;refine oF (e:= .SetComp elt [⟨t1,i1,f1,0⟩,⟨t2,i2,f2,0⟩] scope pos) (newAcc:=newSet<|.type "set") (o0:=kP X.w) (u0:=λD=>bj X.prog X.w D []) (λ_ _ _ h=>U8 h) (λ_ h _=>uV<|HK<|An _ rfl) (Q:=Q) (RR:=λacc C=>compPost (model X.prog X.w) X.A X.xe none (EP X pins σ Q) acc C) hc ck hl (inner:=oZ elt t1 i1 f1 t2 i2 f2 scope pos) (λ_ _=>U9) I2 T bZ eM q ?_;intro D C H' s' m IX hn hC c1 c2 c3 c4 qq;exact⟨m,hn,λh' fc=>⟨.ref D,H',IX.turned (t':=s'.toks) (λb o hb e=>fc.extBut b o hb e) hC (BX<|BX c1) (.inr c2) c3 c4,rfl,qq⟩⟩
end
end L2
namespace Vd
open PySem PySem.Builtin PySem.Builtin.Str PySem.StrLaws
end Vd
namespace L2
open PySem PySem.Builtin PySem.Builtin.Str
section
variable{X:Cx}{σ:St}{H:Hp}{Q:VK}
end
end L2
namespace PySem
def Plain(h:Heap)(d:Addr)(es:Array DictEntry)(ep:Nat):Prop:=∃ o,h.get? d=some o/\o.ExactDict/\o.data = .dict es ep
section
variable{P:Program}{w:World}{A:Around}{E:Value->Shared->Prop}{s:Shared}
theorem Ve(d:Addr)(hd:(d == sysModules)=false):MeetsIn P w (Builtin.«dict.items» ⟨[.ref d],[]⟩) (λ_ R u=>u.TypeIs (.ref d) "dict" /\
  R (.ok<|.ret<|.ref u.heap.objs.size) {u with heap:=u.heap.push {cls:= .type "dict_items",data:= .fields #[.ref d]}}):=by
 refine .of_wp λB R u ⟨hT,k⟩=>?_;unfold Builtin.«dict.items» Builtin.Dict.noArgs;refine BJ<|BJ<|wpAny_notOrdered_dict hT ?_;show wpAny _ _ (pure d) _ _ u;refine BK ?_;show wpAny _ _ (Builtin.Dict.showsAll d >>= _) _ _ u;unfold Builtin.Dict.showsAll;rw [BP<|by rw [hd];exact Ao];exact BJ<|BK<|BJ<|CT<|BK ⟨_,rfl,k⟩
theorem Vf{v d:Addr}{es:Array DictEntry}{ep:Nat}{Q:Value->Shared->Prop}(hv:s.heap.IsItemsView v d)(hm:Plain s.heap d es ep)
  (k:Q (.ref s.heap.objs.size) {s with heap:=s.heap.push {cls:= .type "dict_itemiterator",data:= .fields #[.none,.bool false,.ref d,.int 0 0,.int es.size 0,.int ep 0,.none,.none]}}) :
  wpAny (model P w) A (pyIter<|.ref v) Q E s:=by
 obtain⟨vo,e1,e2,e3⟩:=id hv;obtain⟨o,f1,f2,f3⟩:=hm;refine JH hv.typeIs F.slot_dict_items_iter<|DG F.slot_dict_items_iter hv.typeIs F.entry_dict_items_iter ?_<|F.args_dict_items_iter_1 _;unfold Builtin.«dict_items.__iter__» Builtin.Dict_items.dictOf Builtin.Dict_items.newIterator;refine BJ<|BK<|BJ<|BJ<|HX e1 e3 (x:= .ref d) rfl (BK ?_);refine BJ<|BJ<|NQ f1 f3<|BJ<|QT f1 f3 ?_;have ow:Builtin.Dict_items.ownsTuple "dict_itemiterator" = true:=by decide
 simp only [ow,CZ];refine CT (BK ⟨_,rfl,"dict_itemiterator",_,⟨_,An _ rfl,rfl⟩,F.slot_dict_itemiterator_next.lookup,?_⟩) ?_
 ·simpa [rawInt,Builtin.Dict_items.ownedTupleFields] using k
 ·simp only [sizeOk,Builtin.Dict_items.ownedTupleFields,Ap,Af,Bj,Fa,FN];omega
theorem Vg{it d:Addr}{i ep:Nat}{es:Array DictEntry}{en:DictEntry}{y z:Value}{Q:Option Value->Shared->Prop}(hit:IsItemIter s.heap it d i es.size ep y z)(hm:Plain s.heap d es ep)(hx:es[i]?=some en)
  (k : ∀ h', IsItemIterOut h' it d (i + 1) es.size ep en.key en.val s.heap.objs.size → h'.get? s.heap.objs.size = some { cls := .type "tuple", data := .seq #[en.key, en.val] } →
   (∀ b o,b≠it->s.heap.get? b=some o->h'.get? b=some o)->Q (some<|.ref s.heap.objs.size) {s with heap:=h'}):wpAny (model P w) A (pyNext<|.ref it) Q E s:=by
 obtain⟨hp,g,dr,tk,os⟩:=s;obtain⟨o,f1,f2,f3⟩:=hm;have ty:Shared.TypeIs ⟨hp,g,dr,tk,os⟩ (.ref it) "dict_itemiterator":=⟨_,hit,rfl⟩;have lt:i < es.size:=by
  rcases Cc i es.size with h | h
  ·exact h
  ·rw [Cn h] at hx;cases hx
 have ow:Builtin.Dict_items.ownsTuple "dict_itemiterator" = true:=by decide
 unfold pyNext;refine BJ<|JQ<|GX (name:=Str.ofString "__next__") ty FT<|DG FT ty KJ ?_<|JX _;refine BJ<|BK<|BJ<|BJ ?_
 first | refine BJ (FQ ty<|BK ?_) | refine BJ<|GK ty<|BK ?_
 refine BJ<|KR hit rfl ?_;simp only [ow,CZ];show wpAny _ _ (if(Value.ref d == Value.none)=true then _ else _) _ _ _;rw [BP (show ¬((Value.ref d == Value.none)=true) from Ao)];refine BJ<|BK<|BJ<|NQ f1 f3 ?_;rw [BP<|by simp];refine BJ<|BK<|BJ<|QT f1 f3 ?_;rw [BP<|by simp];refine BK ?_;have ee:es[i]=en:=Option.some.inj<|(Bq lt).symm.trans hx;simp only [show ¬((i:Int) < 0) from by omega,CN,Ba,hx];refine BJ ?_
 first | refine BJ (FQ ty<|BK ?_) | refine BJ<|GK ty<|BK ?_
 refine BJ<|JL ty ?_;show wpAny _ _ (setField (.ref it) 3 (rawInt<|(i:Int)+1) >>= _) _ _ ⟨hp,g,dr,tk,os⟩;refine BJ (HD hit (by simp) λha ea sa=>?_);replace sa:Heap.SameBut it hp ha:=sa;replace ea:IsItemIter ha it d (i+1) es.size ep y z:=by
  have e:((i+1:Nat):Int)=(i:Int)+1:=by omega
  unfold IsItemIter;rw [e]
  simpa [rawInt] using ea
 have JP:Shared.TypeIs ⟨ha,g,dr,tk,os⟩ (.ref it) "dict_itemiterator":=⟨_,ea,rfl⟩;refine BJ<|CJ<|BJ<|JL JP<|BJ<|JL JP ?_;show wpAny _ _ (Builtin.Dict_items.pairFromOwner (.ref it) 6 en.key en.val) _ _ ⟨ha,g,dr,tk,os⟩;unfold Builtin.Dict_items.pairFromOwner Builtin.Dict_items.ownedTupleIsFree;refine BJ<|wpAny_newTuple ?_;have eb:IsItemIter (ha.push {cls:= .type "tuple",data:= .seq #[en.key,en.val]}) it d (i+1) es.size ep y z:=Ae _ ea;have za:ha.objs.size=hp.objs.size:=sa.1;have il:it < hp.objs.size:=Ar hit;have tb:(ha.push {cls:= .type "tuple",data:= .seq #[en.key,en.val]}).get? hp.objs.size=some {cls:= .type "tuple",data:= .seq #[en.key,en.val]}:=by rw [<- za];exact An _ rfl
 have kb:∀ b u,b≠it->hp.get? b=some u->(ha.push {cls:= .type "tuple",data:= .seq #[en.key,en.val]}).get? b=some u:=λb u hb e=>Ae _<|sa.extBut b u hb e;rw [za];generalize ha.push {cls:= .type "tuple",data:= .seq #[en.key,en.val]}=hb at eb tb kb;refine BJ<|BJ<|HX (s:=⟨hb,g,dr,tk,os⟩) eb rfl (x:= .none) rfl (BK ?_);simp only [CZ];refine BJ<|HX (s:=⟨hb,g,dr,tk,os⟩) eb rfl (x:=y) rfl (BJ<|HX (s:=⟨hb,g,dr,tk,os⟩) eb rfl (x:=z) rfl ?_);refine BJ (HD eb (by simp) λh3 e3 s3=>?_);replace s3:Heap.SameBut it hb h3:=s3;replace e3:IsItemIter h3 it d (i+1) es.size ep en.key z:=e3;refine BJ (HD e3 (by simp) λh4 e4 s4=>?_);replace s4:Heap.SameBut it h3 h4:=s4;replace e4:IsItemIter h4 it d (i+1) es.size ep en.key en.val:=e4;refine BJ (HD e4 (by simp) λh5 e5 s5=>?_);replace s5:Heap.SameBut it h4 h5:=s5;replace e5:IsItemIterOut h5 it d (i+1) es.size ep en.key en.val hp.objs.size:=e5;refine BJ (HD e5 (by simp) λh6 e6 s6=>?_);replace s6:Heap.SameBut it h5 h6:=s6;replace e6:IsItemIterOut h6 it d (i+1) es.size ep en.key en.val hp.objs.size:=e6;have all:=((s3.trans s4).trans s5).trans s6;exact BJ<|wpAny_letGo<|BK<|BK ⟨_,rfl,BK<|k h6 e6 (all.extBut _ _ (Cq il) tb) λb u o6 e=>all.extBut b u o6<|kb b u o6 e⟩
theorem Vh{it d:Addr}{i ep:Nat}{es:Array DictEntry}{y z:Value}{Q:Option Value->Shared->Prop}(hh:A.handled=none)(hit:IsItemIter s.heap it d i es.size ep y z)(hm:Plain s.heap d es ep)(hx:es.size<=i)
  (k:∀ h',Heap.ExtBut it s.heap h'->Q none {s with heap:=h'}):wpAny (model P w) A (pyNext<|.ref it) Q E s:=by
 obtain⟨o,f1,f2,f3⟩:=hm;have ty:s.TypeIs (.ref it) "dict_itemiterator":=⟨_,hit,rfl⟩;have ow:Builtin.Dict_items.ownsTuple "dict_itemiterator" = true:=by decide
 unfold pyNext;refine BJ<|JQ<|GX (name:=Str.ofString "__next__") ty FT<|DG FT ty KJ ?_<|JX _;refine BJ<|BK<|BJ<|BJ ?_
 first | refine BJ (FQ ty<|BK ?_) | refine BJ<|GK ty<|BK ?_
 refine BJ<|KR hit rfl ?_;simp only [ow,CZ];show wpAny _ _ (if(Value.ref d == Value.none)=true then _ else _) _ _ s;rw [BP (show ¬((Value.ref d == Value.none)=true) from Ao)];refine BJ<|BK<|BJ<|NQ f1 f3 ?_;rw [BP<|by simp];refine BJ<|BK<|BJ<|QT f1 f3 ?_;rw [BP<|by simp];refine BK ?_;simp only [show ¬((i:Int) < 0) from by omega,CN,Ba,Cn hx];refine BJ ?_
 first | refine BJ (FQ ty<|BK ?_) | refine BJ<|GK ty<|BK ?_
 show wpAny _ _ (setField (.ref it) 2 .none >>= _) _ _ s;refine BJ (DP hit rfl (by simp) ?_);show wpAny _ _ (newExc (.type "StopIteration") [] >>= _) _ _ _;refine BJ ?_;simp only [newExc,newTuple];refine BJ (CT ?_<|by size_fits);refine BJ (m:=firstArgMember _ _) (HN (a:=Value.none) (by first | rfl | (simp only [firstArgMember];rfl)) ?_);refine CT ?_ (by size_fits);simp only [raiseNew];refine BJ<|wpAny_handled ?_;rw [show A.in1.handled=none from hh];refine BJ<|BK<|wpAny_throw ?_;exact BJ<|PK (T:= "StopIteration") (b:=true) ⟨_,An _ rfl,rfl⟩ isSubtype_stop<|BK<|k _<|((CW ..).extBut.push _).push _
theorem Vi:entryFor table "dict_itemiterator.__iter__" = some Builtin.«dict_keyiterator.__iter__»:=
 entryFor_alias (id':= "dict_keyiterator.__iter__") (by kernel_rfl) rfl (by decide +kernel) (by kernel_rfl)
theorem Vj{it d:Addr}{i n ep:Nat}{y z:Value}{Q:Value->Shared->Prop}(e:IsItemIter s.heap it d i n ep y z)(h:Q (.ref it) s):wpAny (model P w) A (pyIter<|.ref it) Q E s:=by
 have ty:s.TypeIs (.ref it) "dict_itemiterator":=⟨_,e,rfl⟩;refine JH ty KN<|DG KN ty Vi ?_<|F.args_dict_itemiterator_iter_1 _;show wpAny _ _ (ret<|.ref it) _ _ s;exact BK ⟨_,rfl,"dict_itemiterator",_,ty,F.slot_dict_itemiterator_next.lookup,h⟩
end
end PySem
namespace L2
open PySem PySem.Spec PyProof.Rows
section
variable{X:Cx}{pins:List (Addr×Obj)}{σ:St}{H:Hp}{s:Shared}
theorem Vk{d:Addr}{kvs:List (List Key×V)}(I:Inv X pins σ H s)(e:H d=some (.dT kvs)):∃ o,s.heap.get? d=some o/\Inv X pins σ (upd H d<|.bN o<|.dT kvs) s:=by
 obtain⟨z,hd,xs,r,o,es,ep,ho,h2,h3,h4,h5⟩:=(show az X.prog X.w H s.heap d (.dT kvs) from I.aC d _ e);refine⟨o,ho,?_⟩;have r':KT (upd H d<|.bN o<|.dT kvs) kvs xs:=KT.keeps r λb ys q=>by
  rw [au<|bO q e λz=>nomatch z];exact q
 exact i6 (t':=s.toks) I (by rw [e];exact True.intro) ⟨rfl,λ_ _=>rfl⟩ ⟨o,ho⟩ (show az X.prog X.w _ s.heap d (.bN o<|.dT kvs) from⟨ho,z,hd,xs,r',o,es,ep,ho,h2,h3,h4,h5⟩)
def Itm(d:Addr)(o:Obj)(kvs:List<|List Key×V):It:=
  ⟨λi H => H d = some (.bN o<|.dT kvs) ∧ i < kvs.length,
   λi H v H'=>∃ T b k x,kvs[i]?=some (k,x)/\H b=some (.tup<|k.map kV)/\H T=none/\v = .ref T/\H'=upd H T (.tup [.ref b,x]),
   λi H=>H d=some (.bN o<|.dT kvs)/\kvs.length<=i⟩
theorem JS{P:Program}{w:World}{h:Heap}{d:Addr}{o:Obj}{es:Array DictEntry}{ep:Nat}{kvs:List (List Key×V)}(aC:bQ P w H h)(e:H d=some (.bN o<|.dT kvs))(hd:o.data = .dict es ep) :
  Plain h d es ep/\∃ xs,KT H kvs xs/\es.toList=xs.map (entryOfKey<|tupleKind<|bz P w):=by
 obtain⟨ho,z,_,xs,r,o',cH,ki,dR,h2,h3,h4,h5⟩:=(show az P w H h d (.bN o<|.dT kvs) from aC d _ e);have:o=o':=Option.some.inj<|ho.symm.trans dR;subst this;rw [hd] at h3
 injection h3 with e1 e2
 subst e1;subst e2;exact⟨⟨o,ho,h2,hd⟩,xs,r,h4⟩
theorem kt_len{H:Hp}:∀{kvs:List (List Key×V)} {xs:List (List Key×Addr×Value)},KT H kvs xs->kvs.length=xs.length:=λr=>by
 induction r with
 | nil=>rfl
 | cons _ _ ih=>simp only [Bj,ih]
theorem kt_at{H:Hp}:∀{kvs:List (List Key×V)} {xs:List (List Key×Addr×Value)},KT H kvs xs->∀{i:Nat} {k:List Key} {x:V},kvs[i]?=some (k,x)->∃ b u,xs[i]?=some (k,b,u)/\H b=some (.tup<|k.map kV)/\RelV x u:=λr=>by
 induction r with
 | nil=>intro i k x h;simp at h
 | @cons p q ps qs hq t ih=>
  intro i k x h;cases i with
  | zero=>
   simp only [List.getElem?_cons_zero,Option.some.injEq] at h;subst h;obtain⟨a,b,c⟩:=q;obtain⟨q1,q2,q3⟩:=hq;have q1:k=a:=q1;subst q1;exact⟨b,c,rfl,q2,q3⟩
  | succ i=>exact ih<|by simpa using h
theorem Vl{P:Program}{w:World}{K:PySem.W.Frag}{elts:List Expr}{kk:Nat}{tp:Pos}(d it:Addr)(o:Obj)(es:Array DictEntry)(ep:Nat)(kvs:List<|List Key×V)(m4:o.data = .dict es ep) :
  Turn P w K (.Tuple elts kk tp) (Itm d o kvs) [it] it (λi h=>∃ y z,IsItemIter h it d i es.size ep y z) where
 mem:=by simp
 obj:=λi h st b hb=>by
  have e:b=it:=by simpa using hb
  subst e;obtain⟨y,z,e⟩:=st;exact⟨_,e,λv z=>by cases z⟩
 keep:=λi h h' st k=>let ⟨y,z,e⟩:=st;⟨y,z,k it (by simp) _ e⟩
 item:=by
  intro X hP hw hK hc i pins s σ H E I hf st hg;subst hP hw hK;obtain⟨f0,f1,f2,f3,f4,f5⟩:=hf it (by simp);obtain⟨hd,hi⟩:=hg;obtain⟨pd,xs,r,rD⟩:=JS I.aC hd m4;obtain⟨y,z,st⟩:=st;have hx:kvs[i]?=some (kvs[i].1,kvs[i].2):=Ab hi;obtain⟨b,u,gG,hb,ru⟩:=kt_at r hx;have jh:=entry_at rD i;rw [gG] at jh;refine Vg st pd (en:=entryOfKey (tupleKind<|bz X.prog X.w) (kvs[i].1,b,u)) jh λh' q1 q2 kp=>?_;have hT:H s.heap.objs.size=none:=I.aC.fresh<|Ag _;have nT:it≠s.heap.objs.size:=Bp<|Ar st;have I1:Inv X pins σ (upd H s.heap.objs.size<|.tup [.ref b,kvs[i].2]) {s with heap:=s.heap.push {cls:= .type "tuple",data:= .seq #[Value.ref b,u]}}:=
   I.laid (t':=s.toks) (λb o e=>Ae _ e) (Ag _) (show az X.prog X.w _ _ _ (.tup [.ref b,kvs[i].2]) from⟨Z2,[Value.ref b,u],.cons rfl (.cons ru .nil),⟨_,An _ rfl,rfl,_,rfl⟩⟩)
  have fp:∀ c∈[it],bR X pins (upd H s.heap.objs.size<|.tup [.ref b,kvs[i].2]) c:=λc aW=>by
   have e:c=it:=by simpa using aW
   subst e;exact⟨by rw [au nT];exact f0,f1,f2,f3,f4,f5⟩
  have I2:=Inv.bp (h':=h') (t':=s.toks) I1 fp λc v aW e=>by
   have nc:c≠it:=by simpa using aW
   rcases Fk e with ⟨ec,eo⟩ | e'
   ·rw [ec,eo];exact q2
   ·exact kp c v nc e'
  refine⟨_,rfl,wpAny_letOwnedTupleGo_items (s:={s with heap:=h'}) q1 λh2 b1 sb=>?_⟩;have I3:=Inv.bp (h':=h2) (t':=s.toks) I2 fp λc v aW e=>(sb.2 c<|by simpa using aW).trans e;exact⟨.ref s.heap.objs.size,_,I3,rfl,⟨_,b,kvs[i].1,kvs[i].2,hx,hb,hT,rfl,rfl⟩,⟨_,_,b1⟩,λc aW=>(fp c aW).1⟩
 done:=by
  intro X hP hw hK hc i pins s σ H E I hf st hg;subst hP hw hK;obtain⟨hd,hi⟩:=hg;obtain⟨pd,xs,r,rD⟩:=JS I.aC hd m4;obtain⟨y,z,st⟩:=st;have hl:es.size=kvs.length:=by rw [kt_len r,<- Co,rD,Aa]
  exact Vh (I.ok.hd hc) st pd (by omega) λh' eb=>⟨rfl,I.bp (t':=s.toks) hf λc v aW e=>eb c v (by simpa using aW) e⟩
 self:=λ_ _ _ _ _ st h=>let ⟨y,z,e⟩:=st;Vj e h
end
section
variable{X:Cx}
def Vm(to:TE):TI:=λσ H R=>to σ H λx H1=>∃ d kvs,x = .ref d/\H1 d=some (.dT kvs)/\∀ o,R (Itm d o kvs)<|upd H1 d<|.bN o<|.dT kvs
theorem JU{elts:List Expr}{kk:Nat}{tp ap cp:Pos}{l:Expr}{to:TE}(ho:PE X l to)(bG:attributeBase l "items" X.env (eval l X.env)=eval l X.env:=by rfl)(hline:(ap.endLine == cp.line)=true:=by rfl) :
  PI X (.Tuple elts kk tp) (.Call (.Attribute l "items" ap) [] [] cp) (Vm to):=by
 intro pins s σ H R I h;refine wpAny_Call_method0_late bG hline<|aE (ho pins s σ H _ I h) λv s1 ⟨x,H1,I1,r1,q1⟩=>?_;obtain⟨d,kvs,e,hd,q⟩:=q1;subst e;cases (show v=Value.ref d from r1);obtain⟨_,Vn,_,_,o,es,ep,e1,e2,e3,_⟩:=(show az X.prog X.w H1 s1.heap d (.dT kvs) from I1.aC d _ hd);have ty:s1.TypeIs (.ref d) "dict":=⟨o,e1,e2.1⟩;refine⟨"dict","dict.items",F.plainAttrs_dict,F.slot_dict_items,F.type_dict_items,ty,λa ea=>?_,HJ rfl (PySem.evalArgs_none ?_)⟩
 ·cases ea;exact⟨o,e1,e2.2.1⟩
 refine call_meetsIn F.slot_dict_items ty F.entry_dict_items (F.args_dict_items_1 _) (Ve d Vn) ⟨ty,?_⟩;obtain⟨o',eo,I2⟩:=Vk I1 hd;have:o=o':=Option.some.inj<|e1.symm.trans eo;subst this;have I3:=I2.kept (t':=s1.toks) (h':=s1.heap.push {cls:= .type "dict_items",data:= .fields #[.ref d]}) λb u e=>Ae _ e;refine Vf (s:={s1 with heap:=s1.heap.push {cls:= .type "dict_items",data:= .fields #[.ref d]}}) (d:=d) (es:=es) (ep:=ep) ⟨_,An _ rfl,rfl,rfl⟩ ⟨o,Ae _ e1,e2,e3⟩ ?_;refine⟨_,[(s1.heap.push {cls:= .type "dict_items",data:= .fields #[.ref d]}).objs.size],_,_,_,rfl,I3.kept (t':=s1.toks) λb u e=>Ae _ e,Vl d _ o es ep kvs e3,⟨_,_,An _ rfl⟩,λb hb=>?_,q o⟩;have e:b=(s1.heap.push {cls:= .type "dict_items",data:= .fields #[.ref d]}).objs.size:=by simpa using hb
 subst e;exact I3.dF (Ag _)<|I3.aC.fresh<|Ag _
end
section
variable{X:Cx}{tg:Expr}{ifs:List Expr}{inner:Sem Unit}{σ:St}{H:Hp}{d:Addr}{o:Obj}{kvs:List (List Key×V)}{after:St->Hp->Prop}
theorem Vo(Pv:Nat->St->Hp->Prop)(h0:Pv 0 σ H)(hl:∀ i σ' H',i<=kvs.length->Pv i σ' H'->H' d=some (.bN o<|.dT kvs))
  (hs:∀ i k x b T σ' H',kvs[i]?=some (k,x)->Pv i σ' H'->H' b=some (.tup<|k.map kV)->H' T=none->Eg X tg (.ref T) σ' (upd H' T<|.tup [.ref b,x]) λσ2 H3=>Ei X ifs σ2 H3 λc H4=>if c=true then gD X inner σ2 H4 (Pv<|i+1) else Pv (i+1) σ2 H4)
  (hd:∀ σ' H',Pv kvs.length σ' H'->after σ' H'):dU X tg ifs inner (Itm d o kvs) after σ H:=by
 refine⟨λi m σ' H'=>m=kvs.length - i/\i<=kvs.length/\Pv i σ' H',⟨_,rfl,Be _,h0⟩,?_⟩;rintro i m σ' H' ⟨rfl,hi,p⟩;have q:=hl i σ' H' hi p
 by_cases aK:i < kvs.length
 ·refine .inr ⟨⟨q,aK⟩,Pv<|i+1,λσ' H' p'=>⟨kvs.length - (i+1),by omega,rfl,aK,p'⟩,λv H2 y=>?_⟩;obtain⟨T,b,k,x,hx,hb,hT,rfl,rfl⟩:=y;exact hs i k x b T σ' _ hx p hb hT
 ·have e:i=kvs.length:=by omega
  subst e;exact .inl ⟨⟨q,Ag _⟩,hd σ' H' p⟩
end
end L2
namespace H3
open PySem L2 Nt bt
def zX:Sp:=λvs H Q _=>∃(R:Addr) (as:List<|Addr×Addr) (n:Net),vs=[.ref R]/\ai H R as n/\n.length<=1000/\∀ L mQ H',aj H H'->H L=none->(∀ a∈mQ,H a.1=none/\H a.2=none)->ai H' L mQ n->Q (.ref L) H'
section
variable{P:Program}{w:World}{K:PySem.W.Frag}{mg:Str->Option Value}{base:Heap}
theorem hU{H H':Hp}{l:Addr}(s:aj H H')(h:H' l=none):H l=none:=by
 cases e:H l with
 | none=>rfl
 | some v=>rw [s _ _ e] at h;cases h
abbrev NC:List Str:=["_law_rows"]
abbrev JY:List Str:=["_law_rows","_law_row"]
theorem iJ:ao NC ["_law_rows"] (aV vz):=⟨rfl,rfl,rfl,by decide +kernel,rfl,by decide +kernel,by decide +kernel⟩
theorem zY:JY.Nodup:=by decide +kernel
theorem Vp{f:Addr}{fd:FuncData}(F:bu K "_law_copy" "_law_copy" vz f fd)(T:Txt mg):aD P w K mg base bD 1 f fd ["_law_rows"] zX:=by
 refine F.gb iJ (λvs H Q E h=>?_) λb0 H vs Q E hr h=>?_
 ·obtain⟨R,as,n,rfl,_⟩:=h;rfl
 obtain⟨R,as,n,rfl,hR,hn,q⟩:=h;have nd:=iJ.nd;have cA:=hR.len;show Run _ _ _ [some<|.ref R] H;refine bS<|kL (aV vz) NC JY 1 (gs bw)<|ae 0 ⟨R,rfl,⟨_,ak.of hR.lst⟩,λD hD=>?_⟩;refine oW (xs:=as.map λa=>V.ref a.1) (λi σ' H'=>(∃ v,σ'=[some<|.ref R]++[v])/\∃ bs:List<|Addr×Addr,bs.length=i/\H' D=some (.lst<|bs.map λa=> .ref a.1) /\
  (∀(j:Nat) a r,bs[j]?=some a->n[j]?=some r->H' a.1=some (.tup [.str r.1,.ref a.2])/\H' a.2=some (Ls r.2))/\(bs.map (·.2)).Nodup/\(∀ a∈bs,a.2≠D/\H a.1=none/\H a.2=none/\∃ zs,H' a.2=some (Ls zs))/\aj H H')
  ⟨⟨none,rfl⟩,[],rfl,ax,λj a r h=>by simp at h,Bw,λa h=>by simp at h,aN hD _⟩ ?_ ?_ ?_
 ·rintro i σ' H' _ ⟨_,bs,_,_,_,_,_,sm⟩;exact ak.of<|sm _ _ hR.lst
 ·rintro i x σ' H' hx ⟨⟨v,rfl⟩,bs,oM,k6,zZ,rE,o7,sm⟩;have hi:i < n.length:=by
   have:=(Ac.mp hx).1;rw [Aa] at this;omega
  obtain⟨a,ea,dX,et,el,er⟩:=(hR.same sm).at hi;rw [Ad,ea] at hx;cases hx;intro cl C' s₀ H₀ ex;refine bo 1 zY ?_;intro cl C' s₀ H₀ ex;refine d8 ?_;rw [BL rfl];intro cl C' s₀ H₀ ex;refine eX<|al<|aT bU<|ae 1<|aA ⟨a.1,_,_,.str n[i].1,rfl,rfl,aM.of et,rfl,?_⟩;refine al<|uQ Qb T.qY PyProof.Rows.boot_list<|al<|aT bU<|ae 1<|aA ⟨a.1,_,_,.ref a.2,rfl,rfl,aM.of et,rfl,?_⟩;refine ay ⟨a.2,_,rfl,.inl<|ak.of el,λl hl=>ay ⟨Z2,λt ht=>?_⟩⟩;have jH:=hU sm hl;have z6:t≠l:=λe=>by rw [e,ax] at ht;cases ht
  have cQ:H' t=none:=by rw [au z6] at ht;exact ht
  have J0:=hU sm cQ;have jS:l≠D:=λe=>by rw [e] at hl;rw [hl] at k6;cases k6
  have J1:t≠D:=λe=>by rw [e] at cQ;rw [cQ] at k6;cases k6
  refine⟨bs.map λa=> .ref a.1,?_,?_,⟨_,rfl⟩,bs++[(t,l)],by rw [Af,oM];rfl,?_,?_,?_,?_,?_⟩
  ·rw [au<|BX J1,au<|BX jS];exact k6
  ·rw [Aa];exact cf<|by omega
  ·rw [ax,Ai];rfl
  ·intro j b r hb rF
   by_cases hj:j < bs.length
   ·rw [At hj] at hb;obtain⟨q1,q2⟩:=zZ j b r hb rF;have Vq:=(o7 b<|Al hb).1;have n1:b.1≠D:=bO q1 k6 λz=>nomatch z;refine⟨?_,?_⟩
    ·rw [au n1,au<|a9 q1 cQ,au<|a9 q1 hl];exact q1
    ·rw [au Vq,au<|a9 q2 cQ,au<|a9 q2 hl];exact q2
   ·rw [Au<|by omega] at hb;have f9:j - bs.length=0:=by
     have:=(Ac.mp hb).1;simp at this;omega
    have vT:j=i:=by omega
    rw [f9] at hb;cases hb;rw [vT,Ab hi] at rF;cases rF;refine⟨?_,?_⟩
    ·rw [au J1,ax]
    ·rw [au jS,au<|BX z6,ax,er]
  ·rw [Ai];refine oB rE λhm=>?_;obtain⟨b,hb,e⟩:=Aj.mp hm;obtain⟨_,_,_,zs,q⟩:=o7 b hb;have e':b.2=l:=e;rw [e',hl] at q;cases q
  ·intro b hb
   rcases Aq.mp hb with hb | hb
   ·obtain⟨q1,q2,q3,zs,q4⟩:=o7 b hb;refine⟨q1,q2,q3,zs,?_⟩;rw [au q1,au<|a9 q4 cQ,au<|a9 q4 hl];exact q4
   ·rw [Ah.mp hb];refine⟨jS,J0,jH,row n i,?_⟩;rw [au jS,au<|BX z6,ax]
  ·intro c o hc;rw [au<|a9 hc hD,au<|a9 hc J0,au<|a9 hc jH];exact sm _ _ hc
 ·rintro σ' H' ⟨_,bs,oM,k6,zZ,rE,o7,sm⟩;rw [Aa] at oM;exact q D bs H' sm hD (λa ha=>⟨(o7 a ha).2.1,(o7 a ha).2.2.1⟩) ⟨by omega,k6,zZ,rE⟩
end
abbrev Tn(p:Str)(j:Int):HO:= .tup [.str p,.int j]
def rG:Sp:=λvs H Q _=>∃(t l:Addr) (p:Str) (zs:List Str),vs=[.ref t]/\H t=some (.tup [.str p,.ref l])/\H l=some (Ls zs)/\zs.length<=1000 /\
 ∀(L:Addr) (ts:List Addr) (H':Hp),aj H H'->H L=none->H' L=some (.lst<|ts.map V.ref)->ts.length=zs.length->(∀(j:Nat) t,ts[j]?=some t->H' t=some (Tn p j))->Q (.ref L) H'
section
variable{X:Cx}{elt tg:Expr}{ifs:List Expr}{scope:Scope}{σ:St}{H:Hp}{N':List Str}{A:Addr}{after:Hp->Prop}
theorem J2{lo:Int}{n:Nat}(Pv:Nat->St->Hp->Prop)(h0:Pv 0 σ H)
  (hs : ∀ i σ' H', i < n → Pv i σ' H' → qF X N' scope tg (.int<|lo + i) σ' H' λσ2 H3 => qG X N' scope ifs σ2 H3 λb H4 =>
   if b=true then qD X N' scope elt σ2 H4 λv H5=>∃ ys,H5 A=some (.lst ys)/\ys.length < sizeLine/\Pv (i+1) σ2 (upd H5 A<|.lst<|ys++[v]) else Pv (i+1) σ2 H4)
  (hd:∀ σ' H',Pv n σ' H'->after H'):jD X N' scope tg ifs elt (ou lo n) A after σ H:=by
 refine⟨λi m σ' H'=>m=n - i/\i<=n/\Pv i σ' H',⟨_,rfl,Be _,h0⟩,?_⟩;rintro i m σ' H' ⟨rfl,hi,p⟩
 by_cases aK:i < n
 ·refine .inr ⟨aK,Pv<|i+1,λσ' H' p'=>⟨n - (i+1),by omega,rfl,aK,p'⟩,λx H2 y=>?_⟩;obtain⟨e,y⟩:=y;subst e y;exact hs i σ' _ aK p
 ·have e:i=n:=by omega
  subst e;exact .inl ⟨Ag _,hd σ' H' p⟩
end
section
variable{P:Program}{w:World}{K:PySem.W.Frag}{mg:Str->Option Value}{base:Heap}
abbrev J3:List Str:=["row","point","ties"]
abbrev J5:List Str:=["row","point","ties","place"]
theorem iK:ao J3 ["row"] (aV vk):=⟨rfl,rfl,rfl,by decide +kernel,rfl,by decide +kernel,by decide +kernel⟩
theorem Vr:J5.Nodup:=by decide +kernel
theorem Vs{f:Addr}{fd:FuncData}(F:bu K "ends_round" "ends_round" vk f fd)(T:Txt mg):aD P w K mg base bD 1 f fd ["row"] rG:=by
 refine F.gb iK (λvs H Q E h=>?_) λb0 H vs Q E hr h=>?_
 ·obtain⟨t,l,p,zs,rfl,_⟩:=h;rfl
 obtain⟨t,l,p,zs,rfl,ht,hl,hz,q⟩:=h;have nd:=iK.nd;show Run _ _ _ [some<|.ref t,none,none] H;refine yl<|ae 0<|jQ rfl (aM.of ht) (bo 1 nd<|bo 2 nd ?_);show Run _ _ _ [some<|.ref t,some<|.str p,some<|.ref l] H;refine bS<|kL (aV vk) J3 J5 1 (xB rfl T.range (ta:=qw _ _) dS (mj _ [] _ rfl)) ?_;show Ea _ _ _ _ _;refine al (cL cZ T.len DQ<|al<|ae 2<|ay ⟨l,_,rfl,.inl<|ak.of hl,ay ⟨_,rfl,by omega,by rw [Aa];omega,λD hD=>?_⟩⟩);rw [Aa,Ba];refine J2 (λi σ' H'=>(∃ v,σ'=[some<|.ref t,some<|.str p,some<|.ref l]++[v])/\∃ ts:List Addr,ts.length=i/\H' D=some (.lst<|ts.map V.ref)/\(∀(j:Nat) t,ts[j]?=some t->H' t=some (Tn p j))/\aj H H')
  ⟨⟨none,rfl⟩,[],rfl,ax,λj t h=>by simp at h,aN hD _⟩ ?_ ?_
 ·rintro i σ' H' hi ⟨⟨v,rfl⟩,ts,f7,eD,z7,sm⟩;rw [Dd];intro cl C' s₀ H₀ ex;refine bo 3 Vr ?_;intro cl C' s₀ H₀ ex;refine d8 ?_;rw [BL rfl];intro cl C' s₀ H₀ ex;refine eX<|al<|ae 1<|al<|ae 3<|ay ⟨Z2,λu hu=>?_⟩;have nu:u≠D:=λe=>by rw [e,eD] at hu;cases hu
  have Vt:=hU sm hu;refine⟨ts.map V.ref,by rw [au<|BX nu];exact eD,by rw [Aa];exact cf (by omega),⟨_,rfl⟩,ts++[u],by rw [Af,f7];rfl,by rw [ax,Ai];rfl,?_,?_⟩
  ·intro j t' cQ
   by_cases hj:j < ts.length
   ·rw [At hj] at cQ;have e:=z7 j t' cQ;have n1:t'≠D:=bO e eD λz=>nomatch z;rw [au n1,au<|a9 e hu];exact e
   ·rw [Au<|by omega] at cQ;have f9:j - ts.length=0:=by
     have:=(Ac.mp cQ).1;simp at this;omega
    rw [f9] at cQ;cases cQ;have:j=i:=by omega
    rw [this,au nu,ax]
  ·intro c o hc;rw [au<|a9 hc hD,au<|a9 hc Vt];exact sm _ _ hc
 ·rintro σ' H' ⟨_,ts,f7,eD,z7,sm⟩;exact q D ts H' sm hD eD f7 z7
def fv(g:Int->Int):Sp:=λvs H Q _=>∃(e:Addr) (p:Str) (j m:Int),vs=[.ref e,.int m]/\H e=some (Tn p j)/\0 < m/\∀ t H',aj H H'->H' t=some (Tn p<|g j % m)->Q (.ref t) H'
abbrev J6:List Str:=["end","many","point","place"]
theorem iL:ao J6 ["end","many"] (aV yT):=⟨rfl,rfl,rfl,by decide +kernel,rfl,by decide +kernel,by decide +kernel⟩
theorem eN:ao J6 ["end","many"] (aV yU):=⟨rfl,rfl,rfl,by decide +kernel,rfl,by decide +kernel,by decide +kernel⟩
theorem Vu{f:Addr}{fd:FuncData}(F:bu K "turned_left" "turned_left" yT f fd)(T:Txt mg):aD P w K mg base bD 1 f fd ["end","many"] (fv λj=>j+1):=by
 refine F.gb iL (λvs H Q E h=>?_) λb0 H vs Q E hr h=>?_
 ·obtain⟨e,p,j,m,rfl,_⟩:=h;rfl
 obtain⟨e,p,j,m,rfl,he,hm,q⟩:=h;have nd:=iL.nd;show Run _ _ _ [some<|.ref e,some<|.int m,none,none] H;refine yl<|ae 0<|jQ rfl (aM.of he) (bo 2 nd<|bo 3 nd ?_);refine bS (eX<|al<|ae 2<|al<|aQ cI<|aQ d0<|ae 3<|aA ⟨_,_,rfl,rfl,ae 1 ⟨_,_,rfl,rfl,(by show 0 < m;exact hm),ay ⟨Z2,λt ht=>?_⟩⟩⟩);exact q t _ (aN ht _) ax
theorem Vv{f:Addr}{fd:FuncData}(F:bu K "turned_right" "turned_right" yU f fd)(T:Txt mg):aD P w K mg base bD 1 f fd ["end","many"] (fv λj=>j - 1):=by
 refine F.gb eN (λvs H Q E h=>?_) λb0 H vs Q E hr h=>?_
 ·obtain⟨e,p,j,m,rfl,_⟩:=h;rfl
 obtain⟨e,p,j,m,rfl,he,hm,q⟩:=h;have nd:=eN.nd;show Run _ _ _ [some<|.ref e,some<|.int m,none,none] H;refine yl<|ae 0<|jQ rfl (aM.of he) (bo 2 nd<|bo 3 nd ?_);refine bS (eX<|al<|ae 2<|al<|aQ cI<|aQ O9<|ae 3<|aA ⟨_,_,rfl,rfl,ae 1 ⟨_,_,rfl,rfl,(by show 0 < m;exact hm),ay ⟨Z2,λt ht=>?_⟩⟩⟩);exact q t _ (aN ht _) ax
theorem Vw{kvs:List (Key×V)}:∀{acc:List (Key×V)},((acc++kvs).map (·.1)).Nodup->kvs.foldl (λa p=>putK a p.1 p.2) acc=acc++kvs:=by
 induction kvs with
 | nil=>intro acc _;simp
 | cons p r ih=>
  intro acc h;have hn:aH acc p.1=none:=by
   cases e:aH acc p.1 with
   | none=>rfl
   | some v=>
    have hm:=Gx e;rw [Ai,Bb] at h;exact absurd rfl ((Cp.mp h).2.2 _ hm _ As)
  rw [Di,Gs _ hn,ih (by rw [Aw];exact h),Aw];rfl
theorem J7:∀{kvs:List (Key×V)} {i:Nat} {p:Key×V},(kvs.map (·.1)).Nodup->kvs[i]?=some p->aH kvs p.1=some p.2
 | [],_,_,_,h=>by simp at h
 | q :: r,0,p,_,h=>by
  cases h;exact gy rfl
 | q :: r,i+1,p,hn,h=>by
  rw [Bb,Bs] at hn;have hm:r[i]?=some p:=by simpa using h
  rw [gA λe=>hn.1<|by rw [e];exact Aj.mpr ⟨p,Al hm,rfl⟩];exact J7 hn.2 hm
def fw(n:Net)(as:List<|Addr×Addr):List (Key×V):=List.zipWith (λr a=>(Sum.inr r.1,V.ref a.2)) n as
theorem J8:∀(n:Net) (as:List<|Addr×Addr),as.length=n.length->(fw n as).map (·.1)=(n.map (·.1)).map Sum.inr
 | [],[],_=>rfl
 | [],_ :: _,h=>by simp at h
 | _ :: _,[],h=>by simp at h
 | r :: n,a :: as,h=>by
  have:=J8 n as (by simpa using h);show Sum.inr r.1 :: (fw n as).map (·.1)=_;rw [this];rfl
theorem J9{n:Net}{as:List (Addr×Addr)}{i:Nat}{r:Str×List Str}{a:Addr×Addr}(h1:n[i]?=some r)(h2:as[i]?=some a):(fw n as)[i]?=some (Sum.inr r.1,.ref a.2):=by
 unfold fw;rw [List.getElem?_zipWith,h1,h2]
theorem Vx{l:List Str}(h:l.Nodup):(l.map (Sum.inr:Str->Key)).Nodup:=by
 rw [Bo,De];exact(Bo.mp h).imp λh q=>h<|Sum.inr.inj q
end
def nameAt(n:Net)(r:Nat):Str:=((n[r]?).map (·.1)).getD ⟨#[]⟩
def key(n:Net)(e:Nt.End):List Key:=[Sum.inr<|nameAt n e.1,Sum.inl (e.2:Int)]
abbrev TN(n:Net)(e:Nt.End):HO:=Tn (nameAt n e.1) (e.2:Int)
theorem m8{n:Net}{r:Nat}(h:r < n.length):nameAt n r=n[r].1:=by unfold nameAt;rw [Ab h];rfl
theorem m9{n:Net}(hN:(n.map (·.1)).Nodup){a b:Nt.End}(ha:a.1 < n.length)(hb:b.1 < n.length)(h:key n a=key n b):a=b:=by
 unfold key at h
 injection h with h1 h2
 injection h2 with h2 _
 have e1:=Sum.inr.inj h1;have e2:=Sum.inl.inj h2;rw [m8 ha,m8 hb] at e1;have e3:a.1=b.1:=by
  have la:a.1 < (n.map (·.1)).length:=by rw [Aa];exact ha
  have lb:b.1 < (n.map (·.1)).length:=by rw [Aa];exact hb
  refine(Ff (i:=a.1) (j:=b.1) (h₀:=la) (h₁:=lb) hN).mp ?_;rw [Dn,Dn];exact e1
 exact KY e3<|by omega
theorem z8{n:Net}{r p:Nat}{z:Str}(hr:r < n.length)(hz:(row n r)[p]?=some z):∃ rest,aZ n=(aZ (n.take r)++bx r ((row n r).take p) 0)++(z,(r,p)) :: rest:=by
 have e1:aZ n=aZ (n.take<|r+1)++dW (0+(n.take<|r+1).length) (n.drop<|r+1):=by
  have:=yQ (n.take<|r+1) (n.drop<|r+1) 0;rw [Da] at this;exact this
 have e2:bx r (row n r) 0=bx r ((row n r).take<|p+1) 0++bx r ((row n r).drop<|p+1) (0+((row n r).take<|p+1).length):=by
  unfold bx;rw [<- Ai,<- LQ,Da]
 rw [e1,qW hr,e2,oR hz];refine⟨bx r ((row n r).drop<|p+1) (0+((row n r).take<|p+1).length)++dW (0+(n.take<|r+1).length) (n.drop<|r+1),?_⟩;simp only [Aw,List.cons_append,QV]
theorem J'{κ:Type} [DecidableEq κ] (kvs:List<|κ×V) (k:κ) (v:V):(putK kvs k v).map (·.1)=if k∈kvs.map (·.1) then kvs.map (·.1) else kvs.map (·.1)++[k]:=by
 have e:(kvs.any λkv=>decide (kv.1=k))=decide (k∈kvs.map (·.1)):=by
  rw [Cz,List.any_eq_true,FW,Aj];exact⟨λ⟨p,h1,h2⟩=>⟨p,h1,CQ h2⟩,λ⟨p,h1,h2⟩=>⟨p,h1,BW h2⟩⟩
 unfold putK;rw [e]
 by_cases h:k∈kvs.map (·.1)
 ·rw [BL<|BW h,BL h,Bv];refine Es λp _=>?_;show(if p.1=k then(p.1,v) else p).1=p.1
  split <;> rfl
 ·rw [BP (by simpa using h),BP h,Ai];rfl
theorem eO{κ:Type} [DecidableEq κ] {kvs:List (κ×V)} {k j:κ} {v:V}:j∈(putK kvs k v).map (·.1)↔j∈kvs.map (·.1)\/j=k:=by
 rw [J']
 split
 ·exact⟨.inl,λh=>h.elim id λe=>by rw [e];assumption⟩
 ·rw [Aq,Ah]
theorem Ka{κ:Type} [DecidableEq κ] {kvs:List (κ×V)} {k:κ} {v:V} (h:(kvs.map (·.1)).Nodup):((putK kvs k v).map (·.1)).Nodup:=by
 rw [J']
 split
 ·exact h
 ·rename_i hn;exact oB h hn
structure gJ(n:Net)(done:List<|Str×Nt.End)(H:Hp)(kM:List<|Key×V)(kO:List<|List Key×V):Prop where
 m0:∀ z,cJ done z=[]->aH kM (Sum.inr z)=none
 m1:∀ z a rest,cJ done z=a :: rest->∃ t,aH kM (Sum.inr z)=some (.ref t)/\H t=some (TN n a)
 o:∀ z a b rest,cJ done z=a :: b :: rest->(∃ u,aH kO (key n a)=some (.ref u)/\H u=some (TN n b))/\∃ u,aH kO (key n b)=some (.ref u)/\H u=some (TN n a)
 sub:∀ p∈done,bK n p.2=some p.1
 fA:kM.length<=done.length
 dL:kO.length<=2 * done.length
 ks:∀ k∈kO.map (·.1),∃ p∈done,k=key n p.2
 nd:(kO.map (·.1)).Nodup
theorem gJ.keep{n:Net}{done:List (Str×Nt.End)}{H H':Hp}{kM:List (Key×V)}{kO:List (List Key×V)}(I:gJ n done H kM kO)(k:∀ t p j,H t=some (Tn p j)->H' t=some (Tn p j)):gJ n done H' kM kO where
 m0:=I.m0
 m1:=λz a rest h=>let ⟨t,e1,e2⟩:=I.m1 z a rest h;⟨t,e1,k _ _ _ e2⟩
 o:=λz a b rest h=>let ⟨⟨u,e1,e2⟩,⟨v,e3,e4⟩⟩:=I.o z a b rest h;⟨⟨u,e1,k _ _ _ e2⟩,⟨v,e3,k _ _ _ e4⟩⟩
 sub:=I.sub
 fA:=I.fA
 dL:=I.dL
 ks:=I.ks
 nd:=I.nd
theorem rH{done:List (Str×Nt.End)}{z:Str}{a:Nt.End}(h:a∈cJ done z):(z,a)∈done:=by
 unfold cJ at h;obtain⟨⟨y,b⟩,hm,rfl⟩:=Aj.mp h;obtain⟨h1,h2⟩:=Dh.mp hm;have:y=z:=CQ h2;subst this;exact h1
theorem gJ.new{n:Net}{done:List (Str×Nt.End)}{H:Hp}{kM:List (Key×V)}{kO:List (List Key×V)}(I:gJ n done H kM kO){z:Str}{e:Nt.End}{t:Addr}(ht:H t=some (TN n e))(hz:bK n e=some z)(h0:cJ done z=[]) :
  gJ n (done++[(z,e)]) H (putK kM (Sum.inr z)<|.ref t) kO where
 m0:=λy hy=>by
  rw [fh] at hy;obtain⟨h1,h2⟩:=List.append_eq_nil_iff.mp hy;have b6:¬ z=y:=λq=>by rw [BL q] at h2;cases h2
  rw [ft,BP λq=>b6 (Sum.inr.inj q).symm];exact I.m0 y h1
 m1:=λy a rest hy=>by
  rw [fh] at hy
  by_cases q:z=y
  ·subst q;rw [h0,BL rfl] at hy;cases hy;exact⟨t,by rw [ft,BL rfl],ht⟩
  ·rw [BP q,Bh] at hy;obtain⟨u,e1,e2⟩:=I.m1 y a rest hy;exact⟨u,by rw [ft,BP λp=>q (Sum.inr.inj p).symm];exact e1,e2⟩
 o:=λy a b rest hy=>by
  rw [fh] at hy
  by_cases q:z=y
  ·subst q;rw [h0,BL rfl] at hy;cases hy
  ·rw [BP q,Bh] at hy;exact I.o y a b rest hy
 sub:=λp hp=>by
  rcases Aq.mp hp with h | h
  ·exact I.sub p h
  ·rw [Ah.mp h];exact hz
 fA:=by
  have:=gX kM (Sum.inr z)<|.ref t;have:=I.fA;rw [Af,Do];omega
 dL:=by
  have:=I.dL;rw [Af,Do];omega
 ks:=λk hk=>let ⟨p,hp,e⟩:=I.ks k hk;⟨p,Bl _ hp,e⟩
 nd:=I.nd
theorem gJ.old{n:Net}(hN:(n.map (·.1)).Nodup){done:List (Str×Nt.End)}{H:Hp}{kM:List (Key×V)}{kO:List (List Key×V)}(I:gJ n done H kM kO){z:Str}{e a:Nt.End}{te tm:Addr}(ht:H te=some (TN n e))(hm:H tm=some (TN n a))(hz:bK n e=some z)(h1:cJ done z=[a])(cg:a≠e) :
  gJ n (done++[(z,e)]) H kM (putK (putK kO (key n e)<|.ref tm) (key n a)<|.ref te) where
 m0:=λy hy=>by
  rw [fh] at hy;exact I.m0 y (List.append_eq_nil_iff.mp hy).1
 m1:=λy c rest hy=>by
  rw [fh] at hy
  by_cases q:z=y
  ·subst q;rw [h1,BL rfl] at hy;cases hy;exact I.m1 z a [] h1
  ·rw [BP q,Bh] at hy;exact I.m1 y c rest hy
 o:=λy c b rest hy=>by
  rw [fh] at hy;have ta:bK n a=some z:=I.sub (z,a)<|rH<|by rw [h1];exact Ah.mpr rfl
  by_cases q:z=y
  ·subst q;rw [h1,BL rfl] at hy;cases hy;refine⟨⟨te,by rw [ft,BL rfl],ht⟩,⟨tm,?_,hm⟩⟩;rw [ft,BP λp=>cg (m9 hN (c7 hz) (c7 ta) p).symm,ft,BL rfl]
  ·rw [BP q,Bh] at hy;have tc:bK n c=some y:=I.sub (y,c) (rH<|by rw [hy];exact As);have tb:bK n b=some y:=I.sub (y,b) (rH<|by rw [hy];exact Ak _ As);have ne:∀ x:Nt.End,bK n x=some y->¬ key n x=key n a/\¬ key n x=key n e:=λx hx=>by
    refine⟨λp=>?_,λp=>?_⟩
    ·have:=m9 hN (c7 hx) (c7 ta) p;rw [this,ta] at hx;exact q<|Option.some.inj hx
    ·have:=m9 hN (c7 hx) (c7 hz) p;rw [this,hz] at hx;exact q<|Option.some.inj hx
   obtain⟨⟨u,e1,e2⟩,⟨v,e3,e4⟩⟩:=I.o y c b rest hy;refine⟨⟨u,?_,e2⟩,⟨v,?_,e4⟩⟩
   ·rw [ft,BP (ne c tc).1,ft,BP (ne c tc).2];exact e1
   ·rw [ft,BP (ne b tb).1,ft,BP (ne b tb).2];exact e3
 sub:=λp hp=>by
  rcases Aq.mp hp with h | h
  ·exact I.sub p h
  ·rw [Ah.mp h];exact hz
 fA:=by
  have:=I.fA;rw [Af,Do];omega
 dL:=by
  have h1:=gX (putK kO (key n e)<|.ref tm) (key n a)<|.ref te;have h2:=gX kO (key n e)<|.ref tm;have:=I.dL;rw [Af,Do];omega
 ks:=λk hk=>by
  rcases eO.mp hk with hk | rfl
  ·rcases eO.mp hk with hk | rfl
   ·obtain⟨p,hp,e⟩:=I.ks k hk;exact⟨p,Bl _ hp,e⟩
   ·exact⟨(z,e),Az _<|Ah.mpr rfl,rfl⟩
  ·exact⟨(z,a),Bl _ (rH<|by rw [h1];exact Ah.mpr rfl),rfl⟩
 nd:=Ka<|Ka I.nd
theorem gJ.whole{n:Net}(T:aB n){H:Hp}{kM:List (Key×V)}{kO:List (List Key×V)}(I:gJ n (aZ n) H kM kO){e:Nt.End}(he:e∈ends n):∃ u,aH kO (key n e)=some (.ref u)/\H u=some (TN n<|other n e):=by
 obtain⟨z,hz⟩:=af.mp he;obtain⟨a,b,hp,g6,uU⟩:=u5 T hz;have dY:cJ (aZ n) z=a :: b :: []:=hp;have ta:bK n a=some z:=bB.mp (by rw [hp];simp);have tb:bK n b=some z:=bB.mp (by rw [hp];simp);obtain⟨o1,o2⟩:=I.o z a b [] dY
 rcases uU with rfl | rfl
 ·have:b=other n e:=((vO T hz).mp tb).resolve_left<|BX g6;rw [<- this];exact o1
 ·have:a=other n e:=((vO T hz).mp ta).resolve_left g6;rw [<- this];exact o2
def iM:Sp:=λvs H Q _=>∃(R:Addr) (as:List<|Addr×Addr) (n:Net),vs=[.ref R]/\ai H R as n/\(n.map (·.1)).Nodup/\aB n/\n.length<=1000/\(ag n).length<=1000 /\
 ∀(d:Addr) (kvs:List<|List Key×V) (H':Hp),aj H H'->H d=none->H' d=some (.dT kvs)->(∀ e∈ends n,∃ u,aH kvs (key n e)=some (.ref u)/\H' u=some (TN n<|other n e))->(kvs.map (·.1)).Nodup->(∀ k∈kvs.map (·.1),∃ e∈ends n,k=key n e)->kvs.length<=2000->Q (.ref d) H'
section
variable{X:Cx}{D:Ends}{σ:St}{H:Hp}{body:List Stmt}
theorem Vy{tg:Expr}{a b:Addr}{xs ys:List V}{after:St->Hp->Prop}(hlen:xs.length=ys.length)(Pv:Nat->St->Hp->Prop)(h0:Pv 0 σ H)(hl:∀ i σ H,i<=xs.length->Pv i σ H->ak X.K H a xs/\ak X.K H b ys)
  (hs:∀ i x y T σ H,xs[i]?=some x->ys[i]?=some y->Pv i σ H->H T=none->Eg X tg (.ref T) σ (upd H T<|.tup [x,y]) λσ2 H2=>Run X body {D with nx:=Pv<|i+1,ct:=Pv<|i+1,bk:=after} σ2 H2) (hd:∀ σ H,Pv xs.length σ H->after σ H):Loop X tg body (vP X.K a b) D after σ H:=by
 refine⟨λi m σ H=>m=xs.length - i/\i<=xs.length/\Pv i σ H,⟨xs.length,by simp,Be _,h0⟩,?_⟩;rintro i m σ H ⟨rfl,hi,p⟩;obtain⟨q1,q2⟩:=hl i σ H hi p
 by_cases aK:i < xs.length
 ·refine .inr ⟨⟨xs,ys,xs[i],ys[i],q1,q2,Ab aK,Ab<|by omega⟩,Pv<|i+1,λσ' H' p'=>⟨xs.length - (i+1),by omega,rfl,aK,p'⟩,λv H' y=>?_⟩;obtain⟨T,x,y,hT,rfl,rfl,y1,y2⟩:=y;exact hs i x y T σ _ (y1 xs q1) (y2 ys q2) p hT
 ·have e:i=xs.length:=by omega
  subst e;exact .inl ⟨⟨xs,ys,q1,q2,.inl<|Ag _⟩,hd σ H p⟩
end
section
variable{P:Program}{w:World}{K:PySem.W.Frag}{mg:Str->Option Value}{base:Heap}
abbrev Vz:List Str:=["rows","met","others","row","end","tie"]
theorem rJ:ao Vz ["rows"] (aV yV):=⟨rfl,rfl,rfl,by decide +kernel,rfl,by decide +kernel,by decide +kernel⟩
theorem Kb{H:Hp}{t d:Addr}{xs:List V}{kvs:List (Key×V)}(h:H t=some (.tup xs))(g:H d=some (.dK kvs)):t≠d:=bO h g λz=>nomatch z
theorem ng{H:Hp}{t d:Addr}{xs:List V}{kvs:List (List Key×V)}(h:H t=some (.tup xs))(g:H d=some (.dT kvs)):t≠d:=bO h g λz=>nomatch z
theorem VA{f:Addr}{fd:FuncData}(F:bu K "other_ends" "other_ends" yV f fd)(T:Txt mg)
  (GE:aP P w K mg base 1 "ends_round" ["row"] rG) :
  aD P w K mg base bD 2 f fd ["rows"] iM:=by
 refine F.gb rJ (λvs H Q E h=>?_) λb0 H vs Q E hr h=>?_
 ·obtain⟨R,as,n,rfl,_⟩:=h;rfl
 obtain⟨R,as,n,rfl,hR,hN,hT,hn,ht,q⟩:=h;have nd:=rJ.nd;have cA:=hR.len;have hu:=hr.u1;show Run _ _ _ [some<|.ref R,none,none,none,none,none] H;refine aO 1 nd<|Iv λdm vN=>?_;refine aO 2 nd<|SQ λdO vU=>?_;show Run _ _ _ [some<|.ref R,some<|.ref dm,some<|.ref dO,none,none,none] (upd (upd H dm<|.dK []) dO<|.dT []);have rK:dO≠dm:=λe=>by rw [e,ax] at vU;cases vU
 have nh:H dO=none:=by rw [au rK] at vU;exact vU
 have em:(upd (upd H dm<|.dK []) dO<|.dT []) dm=some (.dK []):=by rw [au<|BX rK,ax]
 have eo:(upd (upd H dm<|.dK []) dO<|.dT []) dO=some (.dT []):=ax;have s0:aj H (upd (upd H dm<|.dK []) dO<|.dT []):=λb o h=>by rw [au<|a9 h nh,au<|a9 h vN];exact h
 generalize upd (upd H dm<|.dK []) dO (.dT [])=H1 at em eo s0 ⊢;refine mq<|ae 0 ⟨R,rfl,⟨_,ak.of<|s0 _ _ hR.lst⟩,mr (xs:=as.map λa=>V.ref a.1) (λr σ H'=>∃ kM kO u1 u2 u3,aj H H'/\H' dm=some (.dK kM)/\H' dO=some (.dT kO)/\gJ n (aZ<|n.take r) H' kM kO/\σ=[some<|.ref R,some<|.ref dm,some<|.ref dO,u1,u2,u3])
  ⟨[],[],_,_,_,s0,em,eo,⟨λ_ _=>rfl,λz a rest h=>(by cases h),λz a b rest h=>(by cases h),λp h=>(by cases h),Be _,Be _,λk h=>(by cases h),Bw⟩,rfl⟩ ?_ ?_ ?_⟩
 ·rintro r σ H' _ ⟨kM,kO,u1,u2,u3,sm,_⟩;exact ak.of<|sm _ _ hR.lst
 ·rintro r x σ H' hx ⟨kM,kO,u1,u2,u3,sm,Kc,z9,I,rfl⟩;have hi:r < n.length:=by
   have:=(Ac.mp hx).1;rw [Aa] at this;omega
  obtain⟨a,ea,dX,et,el,er⟩:=(hR.same sm).at hi;rw [Ad,ea] at hx;cases hx;have jf:(row n r).length<=1000:=Bz (iC n r) ht;have VB:nameAt n r=n[r].1:=m8 hi;refine bo 3 nd ?_;refine qC (JA rfl T.zip (ta:=qw _ _) dS) ?_;show Ea _ _ _ _ _;refine al<|bJ GE hr<|al<|ae 3<|ay ⟨a.1,a.2,n[r].1,row n r,rfl,et,el,jf,λL ts H5 s5 n5 e5 l5 t5=>?_⟩;refine al<|aT bU<|ae 3<|aA ⟨a.1,_,_,.ref a.2,rfl,rfl,aM.of<|s5 _ _ et,rfl,ay ⟨L,a.2,rfl,⟨_,ak.of e5⟩,⟨_,ak.of<|s5 _ _ el⟩,?_⟩⟩;have vV:=s5 _ _ Kc;have vW:=s5 _ _ z9;have o8:=s5 _ _ el;refine Vy (xs:=ts.map V.ref) (ys:=(row n r).map V.str) (by rw [Aa,Aa,l5]) (λp σ' bL=>∃ kM kO u2 u3,(∀ b o,b≠dm->b≠dO->H5 b=some o->bL b=some o)/\bL dm=some (.dK kM)/\bL dO=some (.dT kO)/\gJ n (aZ (n.take r)++bx r ((row n r).take p) 0) bL kM kO/\σ'=[some<|.ref R,some<|.ref dm,some<|.ref dO,some<|.ref a.1,u2,u3])
   ⟨kM,kO,_,_,λb o _ _ h=>h,vV,vW,?_,rfl⟩ ?_ ?_ ?_
  ·have:bx r ((row n r).take 0) 0=[]:=by simp [bx]
   rw [this,Bh];exact I.keep λt p j h=>s5 _ _ h
  ·rintro p σ' bL _ ⟨kM,kO,u2,u3,kb,_,_,_,rfl⟩;exact⟨ak.of (kb _ _ (bO e5 vV λz=>nomatch z) (bO e5 vW λz=>nomatch z) e5),ak.of<|kb _ _ (bO o8 vV λz=>nomatch z) (bO o8 vW λz=>nomatch z) o8⟩
  ·rintro p x y Tt σ' bL hx hy ⟨kM,kO,u2,u3,kb,vX,vY,I6,rfl⟩ gK;rw [Ad,Ax] at hx hy;obtain⟨te,gg,rfl⟩:=hx;obtain⟨z,hz,rfl⟩:=hy;have jT:=t5 p te gg;have rL:bL te=some (Tn n[r].1 p):=kb _ _ (Kb jT vV) (ng jT vW) jT;have jU:bK n (r,p)=some z:=hz;obtain⟨rest,cY⟩:=z8 hi hz;have hlen:(aZ (n.take r)++bx r ((row n r).take p) 0).length < 1000:=by
    have h1:(aZ n).length=(ag n).length:=by
     have:=CG List.length<|jd n 0;rw [Aa] at this;exact this
    have h2:=CG List.length cY;rw [Af,Bj] at h2;omega
   have ga:aZ (n.take r)++bx r ((row n r).take<|p+1) 0=(aZ (n.take r)++bx r ((row n r).take p) 0)++[(z,(r,p))]:=by
    rw [oR hz,Aw]
   have iN:∀ b,b∈cJ (aZ (n.take r)++bx r ((row n r).take p) 0) z->b≠(r,p):=λb hb e=>by
    have hm:=rH hb;have qL:=uY n;unfold ends at qL;rw [cY,Ai,Bb] at qL;exact(Cp.mp qL).2.2 _ (Aj.mpr ⟨_,hm,rfl⟩) _ As e
   have rM:(cJ (aZ (n.take r)++bx r ((row n r).take p) 0) z).length<=1:=by
    have h1:(pos n z).length=2:=by rw [uZ];exact hT z<|jM jU
    have h2:pos n z=cJ (aZ (n.take r)++bx r ((row n r).take p) 0) z++cJ ((z,(r,p)) :: rest) z:=by
     show cJ (aZ n) z=_;rw [cY];unfold cJ;rw [LK,Ai]
    have h3:1<=(cJ ((z,(r,p)) :: rest) z).length:=by
     unfold cJ;rw [QC,BL<|by simp];simp
    rw [h2,Af] at h1;omega
   generalize aZ (n.take r)++bx r ((row n r).take p) 0=done at I6 hlen ga iN rM;rw [ga];have hTm:Tt≠dm:=λe=>by rw [e,vX] at gK;cases gK
   have hTo:Tt≠dO:=λe=>by rw [e,vY] at gK;cases gK
   have s7:=aN gK<|.tup [.ref te,.str z];have AA:∀ b o,b≠dm->b≠dO->H5 b=some o->(upd bL Tt<|.tup [.ref te,.str z]) b=some o:=λb o h1 h2 h=>s7 _ _<|kb b o h1 h2 h;have o9:=s7 _ _ vX;have pc:=s7 _ _ vY;have I7:=I6.keep (H':=upd bL Tt<|.tup [.ref te,.str z]) λt p j h=>s7 _ _ h;have jV:=s7 _ _ rL;refine jQ rfl (aM.of ax) (bo 4 nd<|bo 5 nd ?_);show Run _ _ _ [some<|.ref R,some<|.ref dm,some<|.ref dO,some<|.ref a.1,some<|.ref te,some<|.str z] _;generalize upd bL Tt (.tup [.ref te,.str z])=H7 at AA o9 pc I7 jV;have ni:H7 te=some (TN n (r,p)):=by
    show H7 te=some (Tn (nameAt n r) p);rw [VB];exact jV
   have hM:kM.length < sizeLine:=cf (by have:=I7.fA;omega);have hO:kO.length < sizeLine:=cf (by have:=I7.dL;omega);refine eY<|SR hu<|ae 5<|ae 1 ⟨dm,_,rfl,bb.k (k:=Sum.inr z) o9,?_⟩
   match k8:cJ done z with
   | []=>
    rw [I7.m0 z k8];show if false=true then _ else _;rw [BP Ao];refine yL hu<|ae 4<|ae 1<|ae 5 ⟨dm,_,rfl,cu.k (k:=Sum.inr z) o9 hM,bg<|bg ⟨_,kO,_,_,λb o h1 h2 h=>?_,ax,?_,?_,rfl⟩⟩
    ·rw [au h1];exact AA b o h1 h2 h
    ·rw [au rK];exact pc
    ·exact(I7.new ni jU k8).keep λt p j h=>by rw [au<|Kb h o9];exact h
   | b :: more=>
    have rO:more=[]:=by
     rw [k8,Bj] at rM;exact Bf.mp<|by omega
    subst rO;obtain⟨tm,vm,pg⟩:=I7.m1 z b [] k8;rw [vm];show if true=true then _ else _;rw [BL rfl];have gT:b≠(r,p):=iN b (by rw [k8];exact Ah.mpr rfl);refine yL hu (fU hu<|ae 1<|ae 5 ⟨dm,.ref tm,rfl,by rw [<- vm];exact bb.k (k:=Sum.inr z) o9,ae 2<|ae 4 ⟨dO,_,rfl,cu.t (k:=key n (r,p)) pc ni hO,?_⟩⟩);have hO2:=gX kO (key n (r,p))<|.ref tm;have hO3:=I7.dL;have Kd:(upd H7 dO<|.dT<|putK kO (key n (r,p))<|.ref tm) dm=some (.dK kM):=by rw [au<|BX rK];exact o9
    have AB:(upd H7 dO<|.dT<|putK kO (key n (r,p))<|.ref tm) tm=some (TN n b):=by rw [au<|ng pg pc];exact pg
    refine yL hu<|ae 4<|ae 2<|fU hu<|ae 1<|ae 5 ⟨dm,.ref tm,rfl,by rw [<- vm];exact bb.k (k:=Sum.inr z) Kd,dO,_,rfl,cu.t (k:=key n b) ax AB (cf<|by omega),bg<|bg ⟨kM,_,_,_,λb o h1 h2 h=>?_,?_,ax,?_,rfl⟩⟩
    ·rw [au h2,au h2];exact AA b o h1 h2 h
    ·rw [au<|BX rK];exact Kd
    ·exact(I7.old hN ni pg jU k8 gT).keep λt p j h=>by rw [au<|ng h pc,au<|ng h pc];exact h
  ·rintro σ' bL ⟨kM,kO,u2,u3,kb,vX,vY,I6,rfl⟩;refine bg ⟨kM,kO,_,_,_,λb o h=>?_,vX,vY,?_,rfl⟩
   ·exact kb b o (a9 h vN) (a9 h nh)<|s5 _ _<|sm _ _ h
   ·rw [Aa,l5,Ca] at I6;rw [qW hi];exact I6
 ·rintro σ H' ⟨kM,kO,u1,u2,u3,sm,Kc,z9,I,rfl⟩;rw [Aa,cA,Ca] at I;have lO:=I.dL;have ls:(aZ n).length=(ag n).length:=by rw [<- jd n 0,Aa];rfl
  exact bS<|ae 2<|q dO kO H' sm nh z9 (λe he=>I.whole hT he) I.nd (λk hk=>let ⟨p,hp,e⟩:=I.ks k hk;⟨p.2,Aj.mpr ⟨p,hp,rfl⟩,e⟩)<|by omega
end
def jW(n:Net)(H:Hp)(us:List Addr)(done:List<|Str×Nt.End):Prop:=us.length=done.length/\∀(j:Nat) u p,us[j]?=some u->done[j]?=some p->H u=some (TN n p.2)
theorem jW.keep{n:Net}{H H':Hp}{us:List Addr}{done:List (Str×Nt.End)}(h:jW n H us done)(k:∀ t p j,H t=some (Tn p j)->H' t=some (Tn p j)):jW n H' us done:=⟨h.1,λj u p h1 h2=>k _ _ _<|h.2 j u p h1 h2⟩
theorem jW.snoc{n:Net}{H H':Hp}{us:List Addr}{done:List (Str×Nt.End)}{u:Addr}{p:Str×Nt.End}(h:jW n H us done)(k:∀ t p j,H t=some (Tn p j)->H' t=some (Tn p j))(hu:H' u=some (TN n p.2)):jW n H' (us++[u]) (done++[p]):=by
 obtain⟨hl,ha⟩:=h;refine⟨by rw [Af,Af,hl];rfl,λj v x hv hx=>?_⟩
 by_cases hj:j < us.length
 ·rw [At hj] at hv;rw [At<|by omega] at hx;exact k _ _ _<|ha j v x hv hx
 ·rw [Au<|by omega] at hv hx;have f9:j - us.length=0:=by
   have:=(Ac.mp hv).1;simp at this;omega
  have VC:j - done.length=0:=by omega
  rw [f9] at hv;rw [VC] at hx;cases hv;cases hx;exact hu
section
variable{X:Cx}{tg:Expr}{ifs:List Expr}{inner:Sem Unit}{σ:St}{H:Hp}{a b:Addr}{xs ys:List V}{after:St->Hp->Prop}
theorem ph(Pv:Nat->St->Hp->Prop)(h0:Pv 0 σ H)(hl:∀ i σ' H',i<=xs.length->Pv i σ' H'->ak X.K H' a xs)
  (hs:∀ i x σ' H',xs[i]?=some x->Pv i σ' H'->Eg X tg x σ' H' λσ2 H3=>Ei X ifs σ2 H3 λb H4=>if b=true then gD X inner σ2 H4 (Pv<|i+1) else Pv (i+1) σ2 H4)
  (hd:∀ σ' H',Pv xs.length σ' H'->after σ' H'):dU X tg ifs inner (ot X.K a) after σ H:=by
 refine⟨λi m σ' H'=>m=xs.length - i/\i<=xs.length/\Pv i σ' H',⟨_,rfl,Be _,h0⟩,?_⟩;rintro i m σ' H' ⟨rfl,hi,p⟩;have q:=hl i σ' H' hi p
 by_cases aK:i < xs.length
 ·refine .inr ⟨⟨xs,xs[i],q,by simp [aK]⟩,Pv<|i+1,λσ' H' p'=>⟨xs.length - (i+1),by omega,rfl,aK,p'⟩,λx H2 y=>?_⟩;obtain⟨e,y⟩:=y;subst e;exact hs i x σ' _ (y xs q) p
 ·have e:i=xs.length:=by omega
  subst e;exact .inl ⟨⟨xs,q,Ag _⟩,hd σ' H' p⟩
theorem VD(hlen:xs.length=ys.length)(Pv:Nat->St->Hp->Prop)(h0:Pv 0 σ H)(hl:∀ i σ' H',i<=xs.length->Pv i σ' H'->ak X.K H' a xs/\ak X.K H' b ys)
  (hs:∀ i x y T σ' H',xs[i]?=some x->ys[i]?=some y->Pv i σ' H'->H' T=none->Eg X tg (.ref T) σ' (upd H' T<|.tup [x,y]) λσ2 H3=>Ei X ifs σ2 H3 λb H4=>if b=true then gD X inner σ2 H4 (Pv<|i+1) else Pv (i+1) σ2 H4)
  (hd:∀ σ' H',Pv xs.length σ' H'->after σ' H'):dU X tg ifs inner (vP X.K a b) after σ H:=by
 refine⟨λi m σ' H'=>m=xs.length - i/\i<=xs.length/\Pv i σ' H',⟨_,rfl,Be _,h0⟩,?_⟩;rintro i m σ' H' ⟨rfl,hi,p⟩;obtain⟨q1,q2⟩:=hl i σ' H' hi p
 by_cases aK:i < xs.length
 ·refine .inr ⟨⟨xs,ys,xs[i],ys[i],q1,q2,Ab aK,Ab<|by omega⟩,Pv<|i+1,λσ' H' p'=>⟨xs.length - (i+1),by omega,rfl,aK,p'⟩,λv H2 y=>?_⟩;obtain⟨T,x,y,hT,rfl,rfl,y1,y2⟩:=y;exact hs i x y T σ' _ (y1 xs q1) (y2 ys q2) p hT
 ·have e:i=xs.length:=by omega
  subst e;exact .inl ⟨⟨xs,ys,q1,q2,.inl<|Ag _⟩,hd σ' H' p⟩
end
def vZ:Sp:=λvs H Q _=>∃(R:Addr) (as:List<|Addr×Addr) (n:Net),vs=[.ref R]/\ai H R as n/\n.length<=1000/\(ag n).length<=1000 /\
 ∀(L:Addr) (ts:List Addr) (H':Hp),aj H H'->H L=none->H' L=some (.lst<|ts.map V.ref)->jW n H' ts (aZ n)->Q (.ref L) H'
section
variable{P:Program}{w:World}{K:PySem.W.Frag}{mg:Str->Option Value}{base:Heap}
abbrev Ke:List Str:=["rows"]
abbrev Kf:List Str:=["rows","row","end"]
theorem gj:ao Ke ["rows"] (aV vp):=⟨rfl,rfl,rfl,by decide +kernel,rfl,by decide +kernel,by decide +kernel⟩
theorem Kg:Kf.Nodup:=by decide +kernel
theorem VE{f:Addr}{fd:FuncData}(F:bu K "ends_in_order" "ends_in_order" vp f fd)(T:Txt mg)
  (GE:aP P w K mg base 1 "ends_round" ["row"] rG) :
  aD P w K mg base bD 2 f fd ["rows"] vZ:=by
 refine F.gb gj (λvs H Q E h=>?_) λb0 H vs Q E hr h=>?_
 ·obtain⟨R,as,n,rfl,_⟩:=h;rfl
 obtain⟨R,as,n,rfl,hR,hn,ht,q⟩:=h;have nd:=gj.nd;have cA:=hR.len;show Run _ _ _ [some<|.ref R] H;refine bS<|U1 (aV vp) Ke Kf 2 (gs bw)<|ae 0 ⟨R,rfl,⟨_,ak.of hR.lst⟩,λD hD cl C s₀ H₀ ex=>?_⟩;refine ph (xs:=as.map λa=>V.ref a.1) (λr σ' H'=>(∃ v1 v2,σ'=[some<|.ref R]++[v1,v2])/\∃ ts:List Addr,aj H H'/\H' D=some (.lst<|ts.map V.ref)/\jW n H' ts (aZ<|n.take r)) ⟨⟨none,none,rfl⟩,[],aN hD _,ax,⟨rfl,λj u p h=>(by cases h)⟩⟩ ?_ ?_ ?_
 ·rintro r σ' H' _ ⟨_,ts,sm,_⟩;exact ak.of<|sm _ _ hR.lst
 ·rintro r x σ' H' hx ⟨⟨v1,v2,rfl⟩,ts,sm,eD,AN⟩;have hi:r < n.length:=by
   have:=(Ac.mp hx).1;rw [Aa] at this;omega
  obtain⟨a,ea,dX,et,el,er⟩:=(hR.same sm).at hi;rw [Ad,ea] at hx;cases hx;have jf:(row n r).length<=1000:=Bz (iC n r) ht;refine bo 1 Kg ?_;refine d8 ?_;rw [BL rfl];refine U0 rfl rfl (gs bw) (bJ GE hr<|al<|ae 1<|ay ⟨a.1,a.2,n[r].1,row n r,rfl,et,el,jf,λL us H5 s5 n5 e5 l5 t5=>⟨L,rfl,⟨_,ak.of e5⟩,?_⟩⟩);have VF:L≠D:=λe=>by rw [e,eD] at n5;cases n5
  refine ph (xs:=us.map V.ref) (λp σ' bL=>(∃ v2,σ'=[some<|.ref R]++[some<|.ref a.1,v2])/\∃ ts:List Addr,(∀ b o,b≠D->H5 b=some o->bL b=some o)/\bL D=some (.lst<|ts.map V.ref)/\jW n bL ts (aZ (n.take r)++bx r ((row n r).take p) 0))
   ⟨⟨_,rfl⟩,ts,λb o _ h=>h,s5 _ _ eD,by simpa [bx] using AN.keep (H':=H5) λt p j h=>s5 _ _ h⟩ ?_ ?_ ?_
  ·rintro p σ' bL _ ⟨_,ts,kb,_⟩;exact ak.of<|kb _ _ VF e5
  ·rintro p x σ' bL hx ⟨⟨v2,rfl⟩,ts,kb,fC,rP⟩;rw [Ad,Ax] at hx;obtain⟨te,gg,rfl⟩:=hx;have hp:p < (row n r).length:=by have:=(Ac.mp gg).1;omega
   have hz:(row n r)[p]?=some (row n r)[p]:=Ab hp;generalize (row n r)[p]=z at hz;have jT:=t5 p te gg;have v5:te≠D:=bO jT (s5 _ _ eD) λz=>nomatch z;have rL:=kb _ _ v5 jT;obtain⟨rest,cY⟩:=z8 hi hz;have hlen:ts.length < 1000:=by
    have h1:(aZ n).length=(ag n).length:=by
     have:=CG List.length<|jd n 0;rw [Aa] at this;exact this
    have h2:=CG List.length cY;rw [Af,Bj] at h2;have:=rP.1;omega
   refine bo 2 Kg ?_;refine d8 ?_;rw [BL rfl];refine yz (ae 2 ⟨ts.map V.ref,fC,by rw [Aa];exact cf (by omega),⟨_,rfl⟩,ts++[te],λb o hb h=>by rw [au hb];exact kb b o hb h,by rw [ax,Ai];rfl,?_⟩);rw [oR hz,<- Aw];refine rP.snoc (λt p j h=>by rw [au<|bO h fC λz=>nomatch z];exact h) ?_;rw [au v5];show bL te=some (Tn (nameAt n r) p);rw [m8 hi];exact rL
  ·rintro σ' bL ⟨⟨v2,rfl⟩,ts,kb,fC,rP⟩;refine⟨⟨_,_,rfl⟩,ts,λb o h=>kb b o (a9 h hD)<|s5 _ _<|sm _ _ h,fC,?_⟩;rw [Aa,l5,Ca,<- qW hi] at rP;exact rP
 ·rintro σ' H' ⟨_,ts,sm,eD,AN⟩;rw [Aa,cA,Ca] at AN;exact q D ts H' sm hD eD AN
end
section
variable{X:Cx}{H:Hp}
theorem Kh{p p':Str}{j j':Int}:∀(i:Nat) (u v:V),[V.str p,.int j][i]?=some u->[V.str p',.int j'][i]?=some v->kR X H 0 u v (if i=0 then b8 (.str p) (.str p') else b8 (.int j) (.int j'))
 | 0,u,v,h1,h2=>by
  cases h1;cases h2;exact qS rfl rfl
 | 1,u,v,h1,h2=>by
  cases h1;cases h2;exact qS rfl rfl
 | i+2,u,v,h1,h2=>by simp at h1
theorem Ki(p p':Str)(j j':Int):(b8 (.str p) (.str p') && b8 (.int j) (.int j'))=decide (p=p'/\j=j'):=by
 show((p == p') && (j == j'))=_
 by_cases h:p=p' <;> by_cases h2:j=j' <;> simp [h,h2]
theorem VG{s t:Addr}{p p':Str}{j j':Int}(hs:H s=some (Tn p j))(ht:H t=some (Tn p' j')):mD X H 1 (.ref s) (.ref t) (decide (p=p'/\j=j')):=by
 have:=Ip (X:=X) (k:=0) (λi=>if i=0 then b8 (.str p) (.str p') else b8 (.int j) (.int j')) (aM.of hs) (aM.of ht) rfl Kh;rw [show([V.str p,.int j].length)=2 from rfl,all2] at this;have e:=Ki p p' j j';simp only [CZ] at this;rw [BP (by decide),e] at this;exact this
theorem Kj{s t:Addr}{p p':Str}{j j':Int}(hs:H s=some (Tn p j))(ht:H t=some (Tn p' j')):oP X H 1 (.ref s) (.ref t) (decide (p=p'/\j=j')):=by
 have:=Iq (X:=X) (k:=0) (λi=>if i=0 then b8 (.str p) (.str p') else b8 (.int j) (.int j')) (aM.of hs) (aM.of ht) rfl Kh;rw [show([V.str p,.int j].length)=2 from rfl,all2] at this;have e:=Ki p p' j j';simp only [CZ] at this;rw [BP (by decide),e] at this;exact this
end
def iO:Sp:=λvs H Q _=>∃(R:Addr) (as:List<|Addr×Addr) (n:Net),vs=[.ref R]/\ai H R as n/\(n.map (·.1)).Nodup/\n.length<=1000/\(ag n).length<=1000 /\
 ∀(d:Addr) (kvs:List<|List Key×V) (H':Hp),aj H H'->H d=none->H' d=some (.dT kvs)->(∀ e z,bK n e=some z->aH kvs (key n e)=some (.str z))->Q (.ref d) H'
section
variable{P:Program}{w:World}{K:PySem.W.Frag}{mg:Str->Option Value}{base:Heap}
abbrev Kk:List Str:=["rows"]
abbrev Kl:List Str:=["rows","row","end","tie"]
theorem AF:ao Kk ["rows"] (aV vq):=⟨rfl,rfl,rfl,by decide +kernel,rfl,by decide +kernel,by decide +kernel⟩
theorem AG:Kl.Nodup:=by decide +kernel
theorem VH{f:Addr}{fd:FuncData}(F:bu K "ties_by_end" "ties_by_end" vq f fd)(T:Txt mg)
  (GE:aP P w K mg base 1 "ends_round" ["row"] rG) :
  aD P w K mg base bD 2 f fd ["rows"] iO:=by
 refine F.gb AF (λvs H Q E h=>?_) λb0 H vs Q E hr h=>?_
 ·obtain⟨R,as,n,rfl,_⟩:=h;rfl
 obtain⟨R,as,n,rfl,hR,hN,hn,ht,q⟩:=h;have cA:=hR.len;have hu:=hr.u1;show Run _ _ _ [some<|.ref R] H;refine bS<|U7 (aV vq) Kk Kl 3 (gs bw)<|ae 0 ⟨R,rfl,⟨_,ak.of hR.lst⟩,λD hD cl C s₀ H₀ ex=>?_⟩;refine ph (xs:=as.map λa=>V.ref a.1) (λr σ' H'=>(∃ v1 v2 v3,σ'=[some<|.ref R]++[v1,v2,v3])/\∃ kvs:List<|List Key×V,aj H H'/\H' D=some (.dT kvs)/\kvs.length<=(aZ<|n.take r).length/\∀ p∈aZ (n.take r),bK n p.2=some p.1/\aH kvs (key n p.2)=some (.str p.1)) ⟨⟨none,none,none,rfl⟩,[],aN hD _,ax,Be _,λp h=>(by cases h)⟩ ?_ ?_ ?_
 ·rintro r σ' H' _ ⟨_,kvs,sm,_⟩;exact ak.of<|sm _ _ hR.lst
 ·rintro r x σ' H' hx ⟨⟨v1,v2,v3,rfl⟩,kvs,sm,eD,Km,v6⟩;have hi:r < n.length:=by
   have:=(Ac.mp hx).1;rw [Aa] at this;omega
  obtain⟨a,ea,dX,et,el,er⟩:=(hR.same sm).at hi;rw [Ad,ea] at hx;cases hx;have jf:(row n r).length<=1000:=Bz (iC n r) ht;refine bo 1 AG ?_;refine d8 ?_;rw [BL rfl];refine U6 rfl rfl (JA rfl T.zip (ta:=qw _ _) dS) ?_;show Ea _ _ _ _ _;refine al<|bJ GE hr<|al<|ae 1<|ay ⟨a.1,a.2,n[r].1,row n r,rfl,et,el,jf,λL us H5 s5 n5 e5 l5 t5=>?_⟩;refine al<|aT bU<|ae 1<|aA ⟨a.1,_,_,.ref a.2,rfl,rfl,aM.of<|s5 _ _ et,rfl,ay ⟨L,a.2,rfl,⟨_,ak.of e5⟩,⟨_,ak.of<|s5 _ _ el⟩,?_⟩⟩;have hV:=s5 _ _ eD;have o8:=s5 _ _ el;refine VD (xs:=us.map V.ref) (ys:=(row n r).map V.str) (by rw [Aa,Aa,l5]) (λp σ' bL=>(∃ v2 v3,σ'=[some<|.ref R]++[some<|.ref a.1,v2,v3])/\∃ kvs:List<|List Key×V,(∀ b o,b≠D->H5 b=some o->bL b=some o)/\bL D=some (.dT kvs)/\kvs.length<=(aZ (n.take r)++bx r ((row n r).take p) 0).length/\∀ x∈aZ (n.take r)++bx r ((row n r).take p) 0,bK n x.2=some x.1/\aH kvs (key n x.2)=some (.str x.1))
   ⟨⟨_,_,rfl⟩,kvs,λb o _ h=>h,hV,by simpa [bx] using Km,by simpa [bx] using v6⟩ ?_ ?_ ?_
  ·rintro p σ' bL _ ⟨_,kvs,kb,_⟩;exact⟨ak.of (kb _ _ (bO e5 hV λz=>nomatch z) e5),ak.of<|kb _ _ (bO o8 hV λz=>nomatch z) o8⟩
  ·rintro p x y Tt σ' bL hx hy ⟨⟨v2,v3,rfl⟩,kvs,kb,fC,nj,jX⟩ gK;rw [Ad,Ax] at hx hy;obtain⟨te,gg,rfl⟩:=hx;obtain⟨z,hz,rfl⟩:=hy;have jT:=t5 p te gg;have v5:te≠D:=bO jT hV λz=>nomatch z;have rL:=kb _ _ v5 jT;have jU:bK n (r,p)=some z:=hz;obtain⟨rest,cY⟩:=z8 hi hz;have hlen:(aZ (n.take r)++bx r ((row n r).take p) 0).length < 1000:=by
    have h1:(aZ n).length=(ag n).length:=by
     have:=CG List.length<|jd n 0;rw [Aa] at this;exact this
    have h2:=CG List.length cY;rw [Af,Bj] at h2;omega
   have nTD:Tt≠D:=λe=>by rw [e,fC] at gK;cases gK
   have s7:=aN gK<|.tup [.ref te,.str z];refine jQ rfl (aM.of ax) (bo 2 AG<|bo 3 AG ?_);refine d8 ?_;rw [BL rfl];have jV:(upd bL Tt<|.tup [.ref te,.str z]) te=some (.tup<|(key n (r,p)).map kV):=by
    rw [s7 _ _ rL];show some (Tn n[r].1 (p:Int))=some (Tn (nameAt n r) (p:Int));rw [m8 hi]
   refine JE hu<|ae 2<|ae 3 ⟨_,cu.t (k:=key n (r,p)) (s7 _ _ fC) jV (cf<|by omega),⟨_,_,rfl⟩,_,λb o hb h=>?_,ax,?_,?_⟩
   ·rw [au hb];exact s7 _ _<|kb b o hb h
   ·rw [oR hz,<- Aw,Af];have:=gX kvs (key n (r,p))<|.str z;show _<=_+1;omega
   ·rw [oR hz,<- Aw];intro x hx
    rcases Aq.mp hx with h | h
    ·obtain⟨q1,q2⟩:=jX x h;refine⟨q1,?_⟩;rw [ft]
     by_cases hk:key n x.2=key n (r,p)
     ·rw [BL hk];have:=m9 hN (c7 q1) (c7 jU) hk;rw [this,jU] at q1;rw [Option.some.inj q1]
     ·rw [BP hk];exact q2
    ·rw [Ah.mp h];exact⟨jU,by rw [ft,BL rfl]⟩
  ·rintro σ' bL ⟨⟨v2,v3,rfl⟩,kvs,kb,fC,nj,jX⟩;rw [Aa,l5,Ca,<- qW hi] at nj jX;exact⟨⟨_,_,_,rfl⟩,kvs,λb o h=>kb b o (a9 h hD)<|s5 _ _<|sm _ _ h,fC,nj,jX⟩
 ·rintro σ' H' ⟨_,kvs,sm,eD,Km,v6⟩;rw [Aa,cA,Ca] at v6;exact q D kvs H' sm hD eD λe z he=>(v6 (z,e)<|aJ.mpr he).2
end
end H3
namespace L2
open PySem PySem.Spec PyProof.Rows bT
def ah{α:Type}:List α->List α
 | []=>[]
 | [a]=>[a]
 | a :: _ :: r=>a :: ah r
theorem ji{α:Type}:∀(xs:List α) (k:Nat),(ah xs)[k]?=xs[2 * k]?
 | [],k=>by simp [ah]
 | [a],0=>rfl
 | [a],k+1=>by
  show([]:List α)[k]?=[a][2 * (k+1)]?;rw [Ay<|Be _,Ay<|by show 1<=_;omega]
 | a :: b :: r,0=>rfl
 | a :: b :: r,k+1=>by
  show(ah r)[k]?=(a :: b :: r)[2 * (k+1)]?;rw [ji r k,show 2 * (k+1)=2 * k+1+1 by omega];rfl
theorem pj{α:Type}:∀(xs:List α),(ah xs).length=(xs.length+1) / 2
 | []=>by
  show 0=(0+1) / 2;omega
 | [a]=>by
  show 1=(1+1) / 2;omega
 | a :: b :: r=>by
  show(ah r).length+1=(r.length+1+1+1) / 2;rw [pj r];omega
theorem AH{α:Type}(xs:List α):(ah xs).length<=xs.length:=by
 rw [pj];omega
theorem AI:∀{xs:List V} {us:List Value},aq xs us->aq (ah xs) (ah us)
 | [],us,r=>by
  have:=r.zero;subst this;exact .nil
 | [a],us,r=>by
  obtain⟨u,rfl,ru⟩:=r.one;exact .cons ru .nil
 | a :: b :: r,us,h=>by
  cases h with
  | cons h1 h2=>
   cases h2 with
   | cons h3 h4=>exact .cons h1<|AI h4
theorem AJ{α:Type}(g:Nat->Option α):∀(c:Nat),(∀ k,k < c->∃ v,g k=some v)->((List.range c).filterMap g).length=c/\∀ k,k < c->((List.range c).filterMap g)[k]?=g k
 | 0,_=>⟨rfl,λk h=>absurd h<|Cg _⟩
 | c+1,h=>by
  obtain⟨h1,h2⟩:=AJ g c λk hk=>h k (by omega);obtain⟨v,hv⟩:=h c (by omega);have e:(List.range<|c+1).filterMap g=(List.range c).filterMap g++[v]:=by
   rw [Fb,List.filterMap_append,Cy,hv];rfl
  rw [e];refine⟨by rw [Af,h1];rfl,λk hk=>?_⟩
  by_cases jG:k < c
  ·rw [At<|by omega];exact h2 k jG
  ·have:k=c:=by omega
   subst this;rw [Au (by omega),h1,QD,hv];rfl
theorem VI(its:List Value):slicePick its.toArray none none (some 2)=(ah its).toArray:=by
 unfold slicePick;have hb:sliceBounds none none (some 2) its.toArray.size=(0,(its.length:Int),2):=rfl;rw [hb]
 congr 1
 show((sliceRange 0 (its.length:Int) 2).filterMap (its.toArray[·]?))=ah its;have hr:sliceRange 0 (its.length:Int) 2=(List.range<|(its.length+1) / 2).map λk=>2 * k:=by
  unfold sliceRange;have e1:(if(2:Int) > 0 then(if(0:Int) < (its.length:Int) then((its.length:Int) - 0+2 - 1) / 2 else 0) else(if(0:Int) > (its.length:Int) then(0 - (its.length:Int) - 2 - 1) / (-2) else 0)).toNat=(its.length+1) / 2:=by
   rw [BL<|by decide]
   split <;> omega
  show(List.range _).map _=_;rw [e1];exact Es λk _=>by omega
 rw [hr,List.filterMap_map];obtain⟨h1,h2⟩:=AJ (λk=>its.toArray[2 * k]?) ((its.length+1) / 2) λk hk=>⟨its[2 * k]'(by omega),by rw [<- Bg];exact Ab (l:=its)<|by omega⟩;apply Ck;intro k;show((List.range<|(its.length+1) / 2).filterMap λk=>its.toArray[2 * k]?)[k]?=_
 by_cases hk:k < (its.length+1) / 2
 ·rw [h2 k hk,ji,<- Bg]
 ·rw [Ay (by omega),Ay<|by rw [pj];omega]
section
variable{X:Cx}{σ:St}{H:Hp}{Q:VK}
theorem VJ{e:Expr}{j:Nat}{p1 p2 pos:Pos} (h:Ev X e σ H λx H1=>∃ a xs,x = .ref a/\ak X.K H1 a xs/\∀ p,H1 p=none->Q (.ref p) (upd H1 p<|.lst<|ah xs)) :
  Ev X (.Subscript e (.Slice none none (some<|.Constant (.int 2) j p1) p2) pos) σ H Q:=by
 refine⟨λpins s I=>NZ<|aE (h.run pins s I) λv s1 ⟨x,H1,I1,r1,a,xs,ex,hx,q⟩=>?_⟩;subst ex;cases (show v=Value.ref a from r1);refine wpAny_Slice ?_;rw [evalPart_none];refine BK<|BK ?_;rw [MN];refine aE ((aA (X:=X) (i:=2) (j:=j) (p:=p1) (σ:=σ) (H:=H1) (Q:=λy H2=>y = .int 2/\H2=H1) ⟨rfl,rfl⟩).run pins s1 I1) λv2 s2 ⟨y,H2,I2,r2,ey,eh⟩=>?_;subst ey eh;obtain⟨t,rfl⟩:=r2;obtain⟨its,r,pl,hz⟩:=I2.list hx;have hlen:=r.length;have I3:Inv X pins σ H2 {s2 with heap:=s2.heap.push {cls:= .type "slice",data:= .fields #[.none,.none,.int 2 t]}}:=I2.kept (t':=s2.toks) λb ob q=>Ae _ q;have rQ:=pl.isList.push {cls:= .type "slice",data:= .fields #[.none,.none,.int 2 t]};show wpAny (model X.prog X.w) X.A (subscriptTail e _ (.ref a)<|.ref s2.heap.objs.size) (EP X pins σ Q) X.xe {s2 with heap:=s2.heap.push {cls:= .type "slice",data:= .fields #[.none,.none,.int 2 t]}};refine tail_any (ops:=[.ref a,.ref s2.heap.objs.size]) (T:= "list") (Heap.IsList.typeIs (s:={s2 with heap:=s2.heap.push {cls:= .type "slice",data:= .fields #[.none,.none,.int 2 t]}}) rQ) slot_list_getitem.lookup ?_ (by with_unfolding_all rfl);refine JB (s:={s2 with heap:=s2.heap.push {cls:= .type "slice",data:= .fields #[.none,.none,.int 2 t]}}) rQ (Heap.IsSliceOf.new ..) .none .none (.int 2 t) (by decide) ?_ (by rw [Ap];omega);rw [VI];exact⟨.ref _,_,I3.l7 (t':=s2.toks) (AI r)<|Bz (AH _) hz,rfl,q _ I3.fresh⟩
end
section
variable{prog:Program}{w:World}{A:Around}{E:Value->Shared->Prop}{s:Shared}
theorem VL{Q:Value->Shared->Prop}(k:Q (.ref s.heap.objs.size) {s with heap:=s.heap.push (kP w)}):codeAny (model prog w) A (.call (.builtin "set.__new__") ⟨[.type "set"],[]⟩) (wants Q E) s:=by
 refine QL ?_;show wpAny _ A.in1 (checkBuiltinCall "set.__new__" ⟨[.type "set"],[]⟩ >>= λ_=>again<|.builtin "set.__new__" ⟨[.type "set"],[]⟩) _ _ s;refine BJ<|HN PySem.F.newCall_set_0<|BK ⟨JR RQ _,GZ PySem.F.entry_set_new ?_⟩;rw [GJ RQ _];unfold Builtin.«set.__new__» Builtin.Frozenset.newClass
 dsimp only
 refine BJ<|BJ<|HN (show isType (.type "set")=pure true from rfl)<|BK ?_;simp only [Dm,Av,CN];unfold newSet;refine BJ<|BJ<|wp_text ?_
 dsimp only
 simp only [newObj];exact BJ<|wpAny_alloc<|BK<|BK k
theorem Kn{Q:Value->Shared->Prop}(k:Q (.ref s.heap.objs.size) {s with heap:=s.heap.push (kP w)}):wpAny (model prog w) A (call (.type "set") []) Q E s:=by
 obtain⟨c,tl,VM⟩:=PySem.F.called_set.mro;have Ko:=PySem.F.called_set.made;have VN:=PySem.F.called_set.sub;refine wpAny_call<|QL ?_;show wpAny _ _ (callAny (.type "set") _) _ _ _;refine BK ⟨Code.quiet_builtin _ (by decide +kernel),GZ PySem.F.entry_type_call ?_⟩;rw [Around.under_plain (weight_type_call_type "set" [] []) rfl];have h1:=PySem.F.called_set.notType;have h2:=PySem.F.called_set.canCreate;have h3:=PySem.F.typeCall_set_0
 repeat (any_goals (first | assumption | wp_step))
 refine KC (VL (E:=E) (Q:=λv u=>v = .ref s.heap.objs.size/\u={s with heap:=s.heap.push (kP w)}) ⟨rfl,rfl⟩) λr u hr=>?_;cases r with
 | error e=>exact hr
 | ok fl=>
  cases fl with
  | ret v=>
   obtain⟨rfl,rfl⟩:=hr;have hT:Shared.TypeIs {s with heap:=s.heap.push (kP w)} (.ref s.heap.objs.size) "set":=⟨_,An _ rfl,rfl⟩;have v7:=PySem.F.called_set.init.lookup;have Ih:=PySem.F.called_set.init.bind<|.ref s.heap.objs.size
   repeat (any_goals (first | assumption | wp_step))
   refine KC (codeAny_call_builtin (R:=wants (λr u=>r = .none/\Q (.ref s.heap.objs.size) u) E) PySem.F.called_set.init.plain PySem.F.entry_set_init<|check_set_init hT ?_) λr2 u2 AK=>?_
   ·unfold Builtin.«set.__init__» noKeywords
    wp_walk
    exact⟨rfl,k⟩
   ·cases r2 with
    | error e=>exact AK
    | ok f2=>
     cases f2 with
     | ret r=>
      obtain⟨rfl,hq⟩:=AK
      repeat (any_goals (first | assumption | wp_step))
     | _=>exact AK.elim
  | _=>exact hr.elim
theorem VO{a:Addr}{zs:List Str}{z:Str}{tk:Tok}{Q:Value->Shared->Prop}(S:a8 prog w s.heap a zs) (h:Q (.bool<|decide (z∉zs)) {s with toks:=s.toks+1}):wpAny (model prog w) A (compareOp .NotIn (.str z tk)<|.ref a) Q E s:=by
 have hT:=S.typeIs;show wpAny _ _ (do return .bool (!(<- contains (.ref a)<|.str z tk))) Q E s;refine BJ ?_;unfold contains
 try with_reducible refine CJ ?_
 refine BJ<|IV hT PySem.F.slot_set_contains.lookup ?_;show wpAny _ _ (if(some (Value.builtin "set.__contains__") == some Value.none)=true then _ else _) _ E s;rw [BP<|by rw [beq_builtin_none];exact Ao];refine BJ<|JM (name:=Str.ofString "__contains__") hT GQ<|DG GQ hT entry_set_contains ?_<|LR _ _;unfold Builtin.«frozenset.__contains__» Builtin.Frozenset.oneOther;simp only [Em,bind_assoc];unfold Builtin.Frozenset.addrOf Builtin.Frozenset.withSetAsKey setContains;refine BJ<|BK ?_
 try dsimp only
 refine BJ<|BK ?_
 try dsimp only
 refine BJ<|wpAny_tryCatch<|CJ ?_;refine BJ<|(strKind prog w).pyHash (k:=z) (PB _ _ _ _) ?_;obtain⟨o,es,ep,t,ho,hx,hd,T⟩:=S;refine BJ<|R9 (s:={s with toks:=s.toks+1}) ho hd T (λhz=>?_) λj hj e=>?_
 ·refine BK ?_;show wpAny _ _ (ret<|Value.bool false) _ _ _;rw [BW hz] at h;exact BK ⟨_,rfl,DR<|BK h⟩
 ·refine BK ?_;show wpAny _ _ (ret<|Value.bool true) _ _ _;have hz:z∈zs:=T.keys.mem_iff.mp (by rw [<- e];exact Aj.mpr ⟨_,Cu hj,rfl⟩);rw [BR<|not_not_intro hz] at h;exact BK ⟨_,rfl,DR<|BK h⟩
end
section
variable{X:Cx}{σ:St}{H:Hp}{Q:VK}
theorem VP{p pos:Pos}(hm:X.mg "set" = none)(h:∀ D,H D=none->Q (.ref D) (upd H D<|bj X.prog X.w D []))(hg:Gl X "set":=by rfl):Ev X (.Call (.Name "set" p) [] [] pos) σ H Q:=by
 refine⟨λpins s I=>Call_<|i4 I hg hm RT<|MF<|Kn ?_⟩;exact⟨.ref s.heap.objs.size,_,I.laid (t':=s.toks) (λb o e=>Ae _ e) (Ag _)<|uV<|HK<|An _ rfl,rfl,h _ I.fresh⟩
theorem VQ:cn X (compareOp .NotIn) (λx y H Q=>∃ z a zs,x = .str z/\y = .ref a/\H a=some (bj X.prog X.w a zs)/\Q (.bl<|decide (z∉zs)) H):=by
 intro pins s σ H x y v u Q I rx ry h;obtain⟨z,a,zs,rfl,rfl,hA,q⟩:=h;obtain⟨t,rfl⟩:=rx;cases (show u=Value.ref a from ry);exact VO (I.set hA) ⟨.bl _,H,I.tok _,rfl,q⟩
theorem VR{o e:Expr}{ap cp:Pos} (h:Ev X o σ H λx H1=>∃ a,x = .ref a/\(∃ zs,H1 a=some (bj X.prog X.w a zs))/\Ev X e σ H1 λy H2=>∃ z zs,y = .str z/\H2 a=some (bj X.prog X.w a zs)/\zs.length+1 < 1000/\Q .non (upd H2 a<|bj X.prog X.w a<|added zs z))
  (bG:attributeBase o "add" X.env (eval o X.env)=eval o X.env:=by rfl)
  (bY:((backTo cp<|starEach [e] X.env).all (λx=>!x.1) && (backToKw cp<|keywordEach [] X.env).all (λx=>x.1.isSome) && decide ([e].length+([]:List Keyword).length+(if([]:List Keyword).isEmpty then 0 else 1) < 30))=true:=by rfl)
  (hline:(ap.endLine == cp.line)=true:=by rfl) (hs:starEach [e] X.env=(false,eval e X.env) :: starEach [] X.env:=by rfl) (cO:isStar e=false:=by rfl):Ev X (.Call (.Attribute o "add" ap) [e] [] cp) σ H Q:=by
 refine⟨λpins s I=>JK bG bY hline rfl (aE (h.run pins s I) λv s1 ⟨x,H1,I1,r1,a,ex,⟨zs,hA⟩,h2⟩=>?_)⟩;subst ex;cases (show v=Value.ref a from r1);have S:=I1.set hA;refine⟨"set","set.add",RD,PySem.F.slot_set_add,PySem.F.type_set_add,S.typeIs,λb eb=>?_,?_⟩
 ·cases eb;obtain⟨o,_,_,_,ho,hx,_⟩:=S;exact⟨o,ho,hx.2.1⟩
 have hE:Ea X [e] σ H1 (λys H2=>∃ z zs,ys=[.str z]/\H2 a=some (bj X.prog X.w a zs)/\zs.length+1 < 1000/\Q .non (upd H2 a<|bj X.prog X.w a<|added zs z)):=al (h2.mono λy H2 ⟨z,zs,ey,q⟩=>ay ⟨z,zs,by rw [ey],q⟩) cO;have rR:=hE.run cp pins s1 I1;rw [hs] at rR ⊢;refine HJ rfl (HY ?_);refine aE rR λus s2 ⟨vs,H2,I2,r2,z,ys,ev,Kq,hl,q⟩=>?_;subst ev;obtain⟨u,rfl,ru⟩:=vals1 r2;obtain⟨tk,rfl⟩:=ru;refine JO (I2.set Kq) hl λh' sb S'=>⟨.non,_,i6 (t':=s2.toks+1) I2 (by rw [Kq];exact True.intro) sb ?_<|uV S',rfl,q⟩;obtain⟨o,_,_,_,ho,_⟩:=S';exact⟨o,ho⟩
end
end L2
namespace Nt
open PySem L2
def ci(c:Int)(n:Net)(e:End):End:=(e.1,(((e.2:Int)+c) % ((row n e.1).length:Int)).toNat)
theorem rS{c:Int}{n:Net}{e:End}(h:e∈ends n):(((ci c n e).2:Nat):Int)=((e.2:Int)+c) % ((row n e.1).length:Int):=by
 obtain⟨z,hz⟩:=af.mp h;have:=iA hz;exact Int.toNat_of_nonneg<|Bn _<|by omega
theorem rT{c:Int}{n:Net}{e:End}(h:e∈ends n):ci c n e∈ends n:=by
 obtain⟨z,hz⟩:=af.mp h;have h1:=iA hz;have h2:=rS (c:=c) h;have h3:((e.2:Int)+c) % ((row n e.1).length:Int) < ((row n e.1).length:Int):=Bu _ (by omega);exact af.mpr<|yM (e:=ci c n e)<|by show(ci c n e).2 < (row n e.1).length;omega
theorem jY{c:Int}{n:Net}{e:End}(h:e∈ends n):ci (-c) n (ci c n e)=e:=by
 have h2:=rS (c:=c) h;have h3:=rS (c:=-c)<|rT (c:=c) h;obtain⟨z,hz⟩:=af.mp h;have h1:=iA hz;have hr:(ci c n e).1=e.1:=rfl;rw [hr,h2] at h3;have e1:(((e.2:Int)+c) % ((row n e.1).length:Int)+-c) % ((row n e.1).length:Int)=(e.2:Int):=by
  have:(((e.2:Int)+c) % ((row n e.1).length:Int)+-c) % ((row n e.1).length:Int)=((e.2:Int)+c+-c) % ((row n e.1).length:Int):=by
   rw [Int.add_emod,Int.emod_emod,<- Int.add_emod]
  rw [this,show(e.2:Int)+c+-c=(e.2:Int) by omega];exact Int.emod_eq_of_lt (by omega)<|by omega
 rw [e1] at h3;have h4:(ci (-c) n<|ci c n e).2=e.2:=by omega
 exact KY rfl h4
theorem Kr{c:Int}{n:Net}{a b:End}(ha:a∈ends n)(hb:b∈ends n)(h:ci c n a=ci c n b):a=b:=by
 rw [<- jY (c:=c) ha,<- jY (c:=c) hb,h]
theorem po{n:Net}{e:End}(h:e∈ends n):left n e=ci 1 n e:=by
 have h2:=rS (c:=1) h;refine KY rfl ?_;show(e.2+1) % (row n e.1).length=(ci 1 n e).2;have:(((e.2+1) % (row n e.1).length:Nat):Int)=((e.2:Int)+1) % ((row n e.1).length:Int):=by simp
 omega
def go(c:Int)(n:Net)(e:End):End:=ci c n<|other n e
theorem cR{c:Int}{n:Net}(T:aB n){e:End}(h:e∈ends n):go c n e∈ends n:=rT<|cP T h
theorem go_inj{c:Int}{n:Net}(T:aB n){a b:End}(ha:a∈ends n)(hb:b∈ends n)(h:go c n a=go c n b):a=b:=yN T ha hb<|Kr (cP T ha) (cP T hb) h
theorem VS{n:Net}(T:aB n){e:End}(h:e∈ends n):step n e=go 1 n e:=po<|cP T h
def two(n:Net)(e:End):End:=go (-1) n<|go 1 n e
theorem jj{n:Net}(T:aB n){e:End}(h:e∈ends n):two n e∈ends n:=cR T<|cR T h
theorem pq{n:Net}(T:aB n){a b:End}(ha:a∈ends n)(hb:b∈ends n)(h:two n a=two n b):a=b:=go_inj T ha hb<|go_inj T (cR T ha) (cR T hb) h
def wk(n:Net)(e:End):Nat->List End
 | 0=>[]
 | k+1=>wk n e k++[it (two n) k e,go 1 n<|it (two n) k e]
theorem lg(n:Net)(e:End):∀ k,(wk n e k).length=2 * k
 | 0=>rfl
 | k+1=>by
  show(wk n e k++_).length=_;rw [Af,lg n e k];show 2 * k+2=_;omega
theorem iP(n:Net)(e:End):∀(k i:Nat),i < k->(wk n e k)[2 * i]?=some (it (two n) i e)
 | 0,i,h=>absurd h<|Cg _
 | k+1,i,h=>by
  show(wk n e k++[it (two n) k e,go 1 n<|it (two n) k e])[2 * i]?=_;have l:=lg n e k
  by_cases hk:i < k
  ·rw [At<|by omega];exact iP n e k i hk
  ·have:i=k:=by omega
   subst this;rw [Au (by omega),l,QD];rfl
theorem rV(n:Net)(e:End):∀(k i:Nat),i < k->(wk n e k)[2 * i+1]?=some (go 1 n<|it (two n) i e)
 | 0,i,h=>absurd h<|Cg _
 | k+1,i,h=>by
  show(wk n e k++[it (two n) k e,go 1 n<|it (two n) k e])[2 * i+1]?=_;have l:=lg n e k
  by_cases hk:i < k
  ·rw [At<|by omega];exact rV n e k i hk
  ·have:i=k:=by omega
   subst this;rw [Au (by omega),l,show 2 * i+1 - 2 * i=1 by omega];rfl
theorem VU(n:Net)(e:End)(k:Nat):ah (wk n e k)=(List.range k).map λi=>it (two n) i e:=by
 apply Ck;intro i;rw [ji,Ad]
 by_cases h:i < k
 ·rw [iP n e k i h,Dk h];rfl
 ·rw [Ay (by rw [lg];omega),Ay<|by rw [Cj];omega];rfl
theorem AO{n:Net}(T:aB n){e:End}(h:e∈ends n):∀ k,∀ c∈wk n e k,c∈ends n
 | 0,c,hc=>by cases hc
 | k+1,c,hc=>by
  have hk:it (two n) k e∈ends n:=g7 (λa ha=>jj T ha) h k
  rcases Aq.mp hc with hc | hc
  ·exact AO T h k c hc
  ·rcases Am.mp hc with rfl | hc
   ·exact hk
   ·rw [Ah.mp hc];exact cR T hk
structure bV(n:Net)(e:End)(k:Nat):Prop where
 pos:0 < k
 back:it (two n) k e=e
 first:∀ i,0 < i->i < k->it (two n) i e≠e
theorem bV.unique{n:Net}{e:End}{k l:Nat}(a:bV n e k)(b:bV n e l):k=l:=by
 rcases Dg k l with h | h | h
 ·exact absurd a.back<|b.first k a.pos h
 ·exact h
 ·exact absurd b.back<|a.first l b.pos h
noncomputable def rW(n:Net)(e:End):Nat:=by classical exact if h:∃ k,bV n e k then h.choose else 0
theorem jZ{n:Net}{e:End}{k:Nat}(h:bV n e k):rW n e=k:=by
 have hx:∃ k,bV n e k:=⟨k,h⟩;unfold rW;rw [KZ hx];exact hx.choose_spec.unique h
noncomputable def walker(n:Net)(e:End):List End:=wk n e<|rW n e
structure nn(n:Net)(ws:List End):Prop where
 ends:∀ c∈ws,c∈Nt.ends n
 VV:0 < ws.length
 even:ws.length % 2=0
 few:ws.length<=2 * (Nt.ends n).length
 at':∀ k,k < ws.length->∃ c,ws[k]?=some c/\ws[(k+1) % ws.length]?=some (go (1 - 2 * ((k:Int) % 2)) n c)
theorem VW{n:Net}(T:aB n){e:End}(h:e∈Nt.ends n){k:Nat}(p:bV n e k)(hk:k<=(Nt.ends n).length):nn n (wk n e k):=by
 have l:=lg n e k;have p0:=p.pos;refine⟨AO T h k,by omega,by omega,by omega,λj hj=>?_⟩;rw [l] at hj ⊢
 rcases Cm j with h2 | h2
 ·obtain⟨i,rfl⟩:∃ i,j=2 * i:=⟨j / 2,by omega⟩;refine⟨_,iP n e k i (by omega),?_⟩;rw [Cv (by omega),rV n e k i<|by omega];have:(1:Int) - 2 * (((2 * i:Nat):Int) % 2)=1:=by omega
  rw [this]
 ·obtain⟨i,rfl⟩:∃ i,j=2 * i+1:=⟨j / 2,by omega⟩;refine⟨_,rV n e k i (by omega),?_⟩;have e1:(1:Int) - 2 * (((2 * i+1:Nat):Int) % 2)=-1:=by omega
  rw [e1];show _=some (two n<|it (two n) i e)
  by_cases hl:i+1 < k
  ·rw [Cv (by omega),show 2 * i+1+1=2 * (i+1) by omega];exact iP n e k (i+1) hl
  ·have:i+1=k:=by omega
   rw [show 2 * i+1+1=2 * k by omega,Ec];have e2:two n (it (two n) i e)=it (two n) k e:=by rw [<- this];rfl
   rw [e2,p.back];exact iP n e k 0<|by omega
def aw(n:Net)(e:End):Str:=(bK n e).getD ⟨#[]⟩
theorem du{n:Net}{e:End}{z:Str}(h:bK n e=some z):aw n e=z:=by unfold aw;rw [h];rfl
noncomputable def cW(n:Net):List End->List Str->List (List End)
 | [],_=>[]
 | e :: r,told=>if aw n e∈told then cW n r told else walker n e :: cW n r (told++(ah<|walker n e).map (aw n))
end Nt
namespace H3
open PySem L2 Nt bt
theorem Ks{κ:Type} [DecidableEq κ]:∀{kvs:List (κ×V)} {i:Nat} {p:κ×V},(kvs.map (·.1)).Nodup->kvs[i]?=some p->aH kvs p.1=some p.2
 | [],_,_,_,h=>by simp at h
 | q :: r,0,p,_,h=>by
  cases h;exact gy rfl
 | q :: r,i+1,p,hn,h=>by
  rw [Bb,Bs] at hn;have hm:r[i]?=some p:=by simpa using h
  rw [gA λe=>hn.1<|by rw [e];exact Aj.mpr ⟨p,Al hm,rfl⟩];exact Ks hn.2 hm
theorem VX{κ:Type}{l:List κ}(h:l.Nodup){i j:Nat}{a:κ}(hi:l[i]?=some a)(hj:l[j]?=some a):i=j:=by
 have h1:=(Ac.mp hi).1;have h2:=(Ac.mp hj).1;have e1:=(Ac.mp hi).2;have e2:=(Ac.mp hj).2
 rcases Dg i j with c | c | c
 ·exact absurd (e1.trans e2.symm)<|Bd.mp h i j h1 h2 c
 ·exact c
 ·exact absurd (e2.trans e1.symm)<|Bd.mp h j i h2 h1 c
def eQ(c:Int):Sp:=λvs H Q _=>∃(R:Addr) (as:List<|Addr×Addr) (n:Net),vs=[.ref R]/\ai H R as n/\(n.map (·.1)).Nodup/\aB n/\n.length<=1000/\(ag n).length<=1000 /\
 ∀(d:Addr) (kvs:List<|List Key×V) (H':Hp),aj H H'->H d=none->H' d=some (.dT kvs)->(∀ e∈ends n,∃ u,aH kvs (key n e)=some (.ref u)/\H' u=some (TN n<|go c n e))->Q (.ref d) H'
section
variable{P:Program}{w:World}{K:PySem.W.Frag}{mg:Str->Option Value}{base:Heap}
abbrev j3:List Str:=["rows","lists"]
abbrev nq:List Str:=["rows","lists","end","other"]
theorem Kt:nq.Nodup:=by decide +kernel
theorem Ku{c:Int}{x y:Str}{st:Stmt}{f:Addr}{fd:FuncData}(h:(x = "left_steps"/\y = "turned_left"/\st=vt)\/(x = "right_steps"/\y = "turned_right"/\st=vw))(F:bu K x x st f fd)(T:Txt mg)
  (GO:aP P w K mg base 2 "other_ends" ["rows"] iM) (GT:aP P w K mg base 2 y ["end","many"]<|fv λj=>j+c) :
  aD P w K mg base bD 3 f fd ["rows"] (eQ c):=by
 rcases h with ⟨rfl,rfl,rfl⟩ | ⟨rfl,rfl,rfl⟩
 all_goals
  refine F.gb (N:=j3) ⟨rfl,rfl,rfl,by decide +kernel,rfl,by decide +kernel,by decide +kernel⟩ (λvs H Q E h=>?_) λb0 H vs Q E hr h=>?_
  ·obtain⟨R,as,n,rfl,_⟩:=h;rfl
  obtain⟨R,as,n,rfl,hR,hN,hT,hn,ht,q⟩:=h;have nd:j3.Nodup:=by decide +kernel
  have cA:=hR.len;have hu:=hr.u1;show Run _ _ _ [some<|.ref R,none] H;have keys:=J8 n as cA;have knd:((fw n as).map (·.1)).Nodup:=by rw [keys];exact Vx hN
  have AQ:(fw n as).length=n.length:=by have:=CG List.length keys;simpa using this
  refine aO 1 nd (uQ (UR rfl) T.qZ PyProof.Rows.boot_dict (al (ae 0 (ay ⟨R,as.map (·.1),fw n as,rfl,?_,?_,?_,?_,λdl jN=>?_⟩))))
  ·rw [Bv];exact hR.lst
  ·rw [Aa,AQ,cA]
  ·rw [Aa];exact cf<|by omega
  ·intro j t kv h1 h2;rw [Ad,Ax] at h1;obtain⟨a,ea,rfl⟩:=h1;have hj:j < n.length:=by have:=(Ac.mp ea).1;omega
   have e:=J9 (Ab hj) ea;rw [h2] at e;cases e;exact(hR.tup j a n[j] ea<|Ab hj).1
  have ef:(fw n as).foldl (λa p=>putK a p.1 p.2) []=fw n as:=by
   rw [Vw (acc:=[]) (by rw [QV];exact knd),QV]
  rw [ef];have s1:=aN jN<|.dK<|fw n as;have el:(upd H dl<|.dK<|fw n as) dl=some (.dK<|fw n as):=ax;generalize upd H dl (.dK<|fw n as)=H1 at s1 el;show Run _ _ _ [some<|.ref R,some<|.ref dl] H1
  first | refine bS (JI (aV vt) j3 nq 2 (JU bw) ?_) | refine bS<|JI (aV vw) j3 nq 2 (JU bw) ?_
  refine bJ GO hr<|al<|ae 0<|ay ⟨R,as,n,rfl,hR.same s1,hN,hT,hn,ht,λd kvs H2 s2 Kv ed val rX VY Kw=>?_⟩;refine⟨d,kvs,rfl,ed,λo D hD cl C s₀ H₀ ex=>?_⟩;have VZ:D≠d:=λe=>by rw [e,ax] at hD;cases hD
  have jl:H2 D=none:=by rw [au VZ] at hD;exact hD
  have V0:H d=none:=hU s1 Kv;have sB:aj H (upd H2 d<|.bN o<|.dT kvs):=eF (s1.trans s2) V0;have kB:∀ b o',b≠d->H2 b=some o'->(upd H2 d<|.bN o<|.dT kvs) b=some o':=λb o' hb h=>by rw [au hb];exact h
  have tB:∀ b p j,H2 b=some (Tn p j)->(upd H2 d<|.bN o<|.dT kvs) b=some (Tn p j):=λb p j h=>kB b _ (ng h ed) h;have Kx:(upd H2 d<|.bN o<|.dT kvs) d=some (.bN o<|.dT kvs):=ax;have Ky:(upd H2 d<|.bN o<|.dT kvs) dl=some (.dK<|fw n as):=kB _ _ (λe=>by rw [e,Kv] at el;cases el)<|s2 _ _ el;have V1:=hR.same sB;generalize upd H2 d (.bN o<|.dT kvs)=HB at hD sB tB Kx Ky V1;have iQ:=hU sB hD;refine Vo (λi σ' H'=>(∃ v1 v2,σ'=[some<|.ref R,some<|.ref dl]++[v1,v2])/\∃ nr:List<|List Key×V,H' D=some (.dT nr)/\nr.length<=i/\aj HB H' /\
   (∀ j k x e,j < i->kvs[j]?=some (k,x)->e∈ends n->k=key n e->∃ u,aH nr (key n e)=some (.ref u)/\H' u=some (TN n<|go c n e)))
   ⟨⟨none,none,rfl⟩,[],ax,Ag _,aN hD _,λj k x e h=>absurd h<|Cg _⟩ ?_ ?_ ?_
  ·rintro i σ' H' _ ⟨_,_,_,_,sm,_⟩;exact sm _ _ Kx
  ·rintro i k x b Tt σ' H' hx ⟨⟨v1,v2,rfl⟩,nr,eD,l2,sm,all⟩ hb gK;have hi:i < kvs.length:=(Ac.mp hx).1;obtain⟨e,he,rfl⟩:=VY k<|Aj.mpr ⟨_,Al hx,rfl⟩;obtain⟨u,hv,zV⟩:=val e he;have rY:aH kvs (key n e)=some x:=Ks rX hx;rw [hv] at rY;cases rY;have Kz:=cP hT he;obtain⟨zo,KA⟩:=af.mp Kz;have jf:=c7 KA;have jg:=iA KA;have V2:nameAt n (other n e).1=n[(other n e).1].1:=m8 jf;have sT:=aN gK<|.tup [.ref b,.ref u];have KE:=sT _ _<|sm _ _<|tB _ _ _ zV;refine jQ rfl (aM.of ax) (bo 2 Kt<|bo 3 Kt ?_);refine d8 ?_;rw [BL rfl];have KG:as[(other n e).1]?=some (as[(other n e).1]'(by omega)):=Ab (by omega);have rZ:n[(other n e).1]?=some n[(other n e).1]:=Ab jf;have ev:aH (fw n as) (Sum.inr<|nameAt n (other n e).1)=some (.ref (as[(other n e).1]'(by omega)).2):=by rw [V2];exact J7 knd<|J9 rZ KG
   have AT:=(hR.tup _ _ _ KG rZ).2;have se:row n (other n e).1=n[(other n e).1].2:=vH jf;refine JE hu<|ae 2<|bJ GT hr<|al<|ae 3<|al<|cL cZ T.len DQ<|al<|fU hu<|ae 1<|aT bU<|ae 3<|aA ⟨u,_,_,.str<|nameAt n (other n e).1,rfl,rfl,aM.of KE,rfl,?_⟩;refine⟨dl,.ref (as[(other n e).1]'(by omega)).2,rfl,by rw [<- ev];exact bb.k (k:=Sum.inr<|nameAt n (other n e).1)<|sT _ _<|sm _ _ Ky,ay ⟨_,_,rfl,.inl<|ak.of<|sT _ _<|sm _ _<|sB _ _ AT,ay ⟨u,_,_,_,rfl,KE,?_,λt2 H4 s4 vF=>?_⟩⟩⟩
   ·rw [Aa,<- se];omega
   rw [Aa,<- se] at vF;have KI:H4 t2=some (TN n<|go c n e):=by
    rw [vF];have:=rS (c:=c) Kz;show some (Tn _ _)=some (Tn _ (((go c n e).2:Nat):Int));unfold go;rw [this];rfl
   have rE:=s4 _ _<|sT _ _ hb;refine⟨_,cu.t (k:=key n e) (s4 _ _<|sT _ _ eD) rE (cf<|by omega),⟨_,_,rfl⟩,_,ax,?_,eF ((sm.trans sT).trans s4) hD,λj k' x' e' hj jF KL jG=>?_⟩
   ·have:=gX nr (key n e)<|.ref t2;omega
   ·subst jG
    by_cases vT:j=i
    ·subst vT;rw [hx] at jF;have V3:key n e=key n e':=CG Prod.fst<|Option.some.inj jF;obtain⟨z1,hG⟩:=af.mp he;obtain⟨z2,vR⟩:=af.mp KL;have:=m9 hN (c7 hG) (c7 vR) V3;subst this;exact⟨t2,by rw [ft,BL rfl],by rw [au<|ng KI<|s4 _ _<|sT _ _ eD];exact KI⟩
    ·obtain⟨u3,V4,V5⟩:=all j _ x' e' (by omega) jF KL rfl;refine⟨u3,?_,?_⟩
     ·rw [ft,BP,V4];intro hk;have h1:(kvs.map (·.1))[j]?=some (key n e'):=by rw [Ad,jF];rfl
      have h2:(kvs.map (·.1))[i]?=some (key n e'):=by rw [Ad,hx,hk];rfl
      exact vT<|VX rX h1 h2
     ·have q4:=s4 _ _<|sT _ _ V5;rw [au<|ng q4<|s4 _ _<|sT _ _ eD];exact q4
  ·rintro σ' H' ⟨_,nr,eD,_,sm,all⟩;refine q D nr H' (sB.trans sm) iQ eD λe he=>?_;obtain⟨u,hv,_⟩:=val e he;obtain⟨i,hi⟩:∃ i:Nat,(kvs.map (·.1))[i]?=some (key n e):=Bt<|Gx hv;rw [Ad,Ax] at hi;obtain⟨⟨k,x⟩,hx,hk⟩:=hi;exact all i k x e (Ac.mp hx).1 hx he hk
theorem V6{f:Addr}{fd:FuncData}(F:bu K "left_steps" "left_steps" vt f fd)(T:Txt mg)(GO:aP P w K mg base 2 "other_ends" ["rows"] iM)(GT:aP P w K mg base 2 "turned_left" ["end","many"]<|fv λj=>j+1):aD P w K mg base bD 3 f fd ["rows"] (eQ 1):=Ku (.inl ⟨rfl,rfl,rfl⟩) F T GO GT
theorem V7{f:Addr}{fd:FuncData}(F:bu K "right_steps" "right_steps" vw f fd)(T:Txt mg)(GO:aP P w K mg base 2 "other_ends" ["rows"] iM)(GT:aP P w K mg base 2 "turned_right" ["end","many"]<|fv λj=>j - 1):aD P w K mg base bD 3 f fd ["rows"] (eQ (-1)):=Ku (.inr ⟨rfl,rfl,rfl⟩) F T GO GT
def cK(n:Net)(H:Hp)(ts:List Addr)(es:List Nt.End):Prop:=ts.length=es.length/\∀(j:Nat) t e,ts[j]?=some t->es[j]?=some e->H t=some (TN n e)
theorem cK.keep{n:Net}{H H':Hp}{ts:List Addr}{es:List Nt.End}(h:cK n H ts es)(k:∀ t p j,H t=some (Tn p j)->H' t=some (Tn p j)):cK n H' ts es:=⟨h.1,λj t e h1 h2=>k _ _ _<|h.2 j t e h1 h2⟩
theorem cK.same{n:Net}{H H':Hp}{ts:List Addr}{es:List Nt.End}(h:cK n H ts es)(s:aj H H'):cK n H' ts es:=h.keep λ_ _ _ q=>s _ _ q
theorem cK.append{n:Net}{H:Hp}{ts us:List Addr}{es fs:List Nt.End}(h:cK n H ts es)(g:cK n H us fs):cK n H (ts++us) (es++fs):=by
 refine⟨by rw [Af,Af,h.1,g.1],λj t e h1 h2=>?_⟩;have hl:=h.1
 by_cases hj:j < ts.length
 ·rw [At hj] at h1;rw [At<|by omega] at h2;exact h.2 j t e h1 h2
 ·rw [Au<|by omega] at h1 h2;rw [<- hl] at h2;exact g.2 _ t e h1 h2
theorem cK.two{n:Net}{H:Hp}{t u:Addr}{a b:Nt.End}(h1:H t=some (TN n a))(h2:H u=some (TN n b)):cK n H [t,u] [a,b]:=⟨rfl,λj x e h3 h4=>by
 match j with
 | 0=>cases h3;cases h4;exact h1
 | 1=>cases h3;cases h4;exact h2
 | j+2=>simp at h3⟩
theorem KO{n:Net}(hN:(n.map (·.1)).Nodup){a b:Nt.End}(ha:a∈ends n)(hb:b∈ends n):decide (nameAt n a.1=nameAt n b.1/\(a.2:Int)=(b.2:Int))=decide (a=b):=by
 obtain⟨z1,h1⟩:=af.mp ha;obtain⟨z2,h2⟩:=af.mp hb;refine decide_eq_decide.mpr ⟨λ⟨p,q⟩=>m9 hN (c7 h1) (c7 h2) (by unfold key;rw [p,q]),λe=>by rw [e];exact⟨rfl,rfl⟩⟩
theorem AU{K:PySem.W.Frag}{H:Hp}{d:Addr}{xs:List V}(h:H d=some (.lst xs)):l4 K "list" (.ref d) H:=Or.inl ⟨rfl,xs,ak.of h⟩
def aU(n:Net)(H:Hp)(d:Addr)(c:Int):Prop:=∃ kvs,H d=some (.dT kvs)/\∀ e∈ends n,∃ u,aH kvs (key n e)=some (.ref u)/\H u=some (TN n<|go c n e)
theorem aU.same{n:Net}{H H':Hp}{d:Addr}{c:Int}(h:aU n H d c)(s:aj H H'):aU n H' d c:=let ⟨kvs,h1,h2⟩:=h;⟨kvs,s _ _ h1,λe he=>let ⟨u,a,b⟩:=h2 e he;⟨u,a,s _ _ b⟩⟩
theorem aU.get{n:Net}{H:Hp}{d t:Addr}{c:Int}{e:Nt.End}(h:aU n H d c)(he:e∈ends n)(ht:H t=some (TN n e)):∃ u,bb H d (.ref t) (some<|.ref u)/\H u=some (TN n<|go c n e):=by
 obtain⟨kvs,h1,h2⟩:=h;obtain⟨u,a,b⟩:=h2 e he;exact⟨u,by rw [<- a];exact bb.t (k:=key n e) h1 ht,b⟩
def nw:Sp:=λvs H Q _=>∃(dl dr t:Addr) (n:Net) (e:Nt.End),vs=[.ref dl,.ref dr,.ref t]/\aU n H dl 1/\aU n H dr (-1)/\(n.map (·.1)).Nodup/\aB n/\(ag n).length<=1000/\e∈ends n/\H t=some (TN n e) /\
 ∀(l:Addr) (ts:List Addr) (k:Nat) (H':Hp),aj H H'->H l=none->H' l=some (.lst<|ts.map V.ref)->cK n H' ts (wk n e k)->bV n e k->k<=(ends n).length->Q (.ref l) H'
abbrev V8:List Str:=["lefts","rights","first","walker","end"]
theorem sf:ao V8 ["lefts","rights","first"] (aV mG):=⟨rfl,rfl,rfl,by decide +kernel,rfl,by decide +kernel,by decide +kernel⟩
theorem AV(ts:List Addr)(a b:Addr):ts.map V.ref++[V.ref a,V.ref b]=(ts++[a]).map V.ref++[V.ref b]:=by rw [Ai,Aw];rfl
theorem V9{f:Addr}{fd:FuncData}(F:bu K "walker_from" "walker_from" mG f fd)(T:Txt mg):aD P w K mg base bD 1 f fd ["lefts","rights","first"] nw:=by
 refine F.gb sf (λvs H Q E h=>?_) λb0 H vs Q E hr h=>?_
 ·obtain⟨dl,dr,t,n,e,rfl,_⟩:=h;rfl
 obtain⟨dl,dr,t,n,e,rfl,hL,KP,hN,hT,jm,he,ht,q⟩:=h;have nd:=sf.nd;have jg:=jO n;have hu:=hr.u1;have un:=hr.dH;obtain⟨k,k0,k1,k2⟩:=va (f:=two n) (S:=ends n) (λa ha=>jj hT ha) (λa ha b hb=>pq hT ha hb) he;obtain⟨u1,g1,e1⟩:=hL.get he ht;show Run _ _ _ [some<|.ref dl,some<|.ref dr,some<|.ref t,none,none] H;refine aO 3 nd<|di<|al<|ae 2<|al<|fU hu<|ae 0<|ae 2 ⟨dl,.ref u1,rfl,g1,ay ⟨Z2,λl hl=>?_⟩⟩;have s1:=aN hl<|.lst [.ref t,.ref u1];have el:(upd H l<|.lst [.ref t,.ref u1]) l=some (.lst<|[t,u1].map V.ref):=ax;generalize upd H l (.lst [.ref t,.ref u1])=H1 at s1 el;obtain⟨u2,g2,e2⟩:=(KP.same s1).get (cR hT he)<|s1 _ _ e1;refine aO 4 nd<|fU hu<|ae 1<|aT cr<|ae 3<|Hc FV<|aA ⟨1,rfl,l,_,_,.ref u1,rfl,rfl,ak.of el,rfl,dr,.ref u2,rfl,g2,?_⟩;show Run _ _ _ [some<|.ref dl,some<|.ref dr,some<|.ref t,some<|.ref l,some<|.ref u2] H1;refine uW (λm σ H2=>∃(j:Nat) (ts:List Addr) (u:Addr),m=k - j/\0 < j/\j<=k/\aj H H2/\H2 l=some (.lst<|ts.map V.ref)/\cK n H2 ts (wk n e j)/\H2 u=some (TN n<|it (two n) j e)/\(∀ i,0 < i->i < j->it (two n) i e≠e)/\σ=[some<|.ref dl,some<|.ref dr,some<|.ref t,some<|.ref l,some<|.ref u])
  (m0:=k - 1) ⟨1,[t,u1],u2,rfl,Fh,k0,s1,el,cK.two (s1 _ _ ht)<|s1 _ _ e1,e2,λi h1 h2=>by omega,rfl⟩ ?_
 rintro m σ H2 ⟨j,ts,u,rfl,j0,j1,sH,jn,at2,eu,hf,rfl⟩;have pA:it (two n) j e∈ends n:=g7 (λa ha=>jj hT ha) he j;refine cB (qU un) (ae 4<|ae 2 ⟨1,_,by decide,Kj eu<|sH _ _ ht,_,rfl,?_⟩);rw [KO hN pA he];have tl:=at2.1;rw [lg] at tl
 by_cases c:it (two n) j e=e
 ·rw [BW c];exact bH<|bS<|ae 3<|q l ts j H2 sH hl jn at2 ⟨j0,c,hf⟩<|by omega
 ·rw [BR c];have jk:j < k:=by
   rcases Cc j k with h | h
   ·exact h
   ·have:j=k:=by omega
    subst this;exact absurd k2 c
  obtain⟨v1,g3,e3⟩:=(hL.same sH).get pA eu;refine bI<|fb<|yJ FJ PySem.F.slot_list_extend PySem.F.type_list_extend Qh<|ae 3 (v:= .ref l) ⟨AU jn,di<|al<|ae 4<|al<|fU hu<|ae 0<|ae 4 ⟨dl,.ref v1,rfl,g3,ay ⟨Z2,λp hp=>?_⟩⟩⟩;have s3:=aN hp<|.lst [.ref u,.ref v1];have nlp:l≠p:=a9 jn hp;refine⟨l,p,ts.map V.ref,[.ref u,.ref v1],rfl,rfl,s3 _ _ jn,ax,small (by rw [Aa];show _+2<=100000;omega),?_⟩;have nA:aj H (upd (upd H2 p<|.lst [.ref u,.ref v1]) l<|.lst<|ts.map V.ref++[.ref u,.ref v1]):=eF (sH.trans s3) hl;have pB:(upd (upd H2 p<|.lst [.ref u,.ref v1]) l<|.lst<|ts.map V.ref++[.ref u,.ref v1]) l=some (.lst<|(ts++[u,v1]).map V.ref):=by rw [ax,Ai];rfl
  have kt:∀ b p' j',H2 b=some (Tn p' j')->(upd (upd H2 p<|.lst [.ref u,.ref v1]) l<|.lst<|ts.map V.ref++[.ref u,.ref v1]) b=some (Tn p' j'):=λb p' j' h=>by
   rw [au<|bO h jn λz=>nomatch z];exact s3 _ _ h
  generalize upd (upd H2 p<|.lst [.ref u,.ref v1]) l (.lst<|ts.map V.ref++[.ref u,.ref v1])=H3 at nA pB kt;obtain⟨v2,g4,e4⟩:=(KP.same nA).get (cR hT pA)<|kt _ _ _ e3;refine aO 4 nd<|fU hu<|ae 1<|aT cr<|ae 3<|Hc FV<|aA ⟨1,rfl,l,_,_,.ref v1,rfl,rfl,ak.of pB,?_,dr,.ref v2,rfl,g4,?_⟩
  ·rw [Ai];show dv (ts.map V.ref++[V.ref u,V.ref v1]) (-1)=_;rw [AV];exact P6 _ _
  refine bg ⟨k - (j+1),by omega,j+1,ts++[u,v1],v2,rfl,Dr _,jk,nA,pB,(at2.keep kt).append<|cK.two (kt _ _ _ eu)<|kt _ _ _ e3,e4,λi h1 h2=>?_,rfl⟩
  by_cases iB:i=j
  ·subst iB;exact c
  ·exact hf i h1<|by omega
open bT
theorem AW{α β:Type}(f:α->β):∀ xs:List α,ah (xs.map f)=(ah xs).map f
 | []=>rfl
 | [a]=>rfl
 | a :: b :: r=>by
  show f a :: ah (r.map f)=f a :: (ah r).map f;rw [AW f r]
theorem cK.ah{n:Net}{H:Hp}{ts:List Addr}{es:List Nt.End}(h:cK n H ts es):cK n H (L2.ah ts) (L2.ah es):=by
 refine⟨by rw [pj,pj,h.1],λj t e h1 h2=>?_⟩;rw [ji] at h1 h2;exact h.2 _ t e h1 h2
theorem lh{P:Program}{w:World}{H:Hp}{a d:Addr}{o:HO}{zs:List Str}(h:H a=some o)(g:H d=some (bj P w d zs))(ho:∀ φ,o ≠ .ext φ):a≠d:=λe=>by
 rw [e,g] at h;exact ho _ (Option.some.inj h).symm
structure fD(n:Net)(H:Hp)(L:Addr)(ls:List Addr)(ws:List<|List Nt.End):Prop where
 lst:H L=some (.lst<|ls.map V.ref)
 len:ls.length=ws.length
 nC:ls.Nodup
 out:L∉ls
 at':∀(j:Nat) l w,ls[j]?=some l->ws[j]?=some w->∃ ts,H l=some (.lst<|ts.map V.ref)/\cK n H ts w
theorem fD.same{n:Net}{H H':Hp}{L:Addr}{ls:List Addr}{ws:List (List Nt.End)}(h:fD n H L ls ws)(s:aj H H'):fD n H' L ls ws:=
 ⟨s _ _ h.lst,h.len,h.nC,h.out,λj l w h1 h2=>let ⟨ts,a,b⟩:=h.at' j l w h1 h2;⟨ts,s _ _ a,b.same s⟩⟩
theorem fD.keep{n:Net}{H H':Hp}{L:Addr}{ls:List Addr}{ws:List (List Nt.End)}(h:fD n H L ls ws)(hL:H' L=H L)(kl:∀ l∈ls,∀ o,H l=some o->H' l=some o)(kt:∀ t p j,H t=some (Tn p j)->H' t=some (Tn p j)):fD n H' L ls ws:=
 ⟨by rw [hL];exact h.lst,h.len,h.nC,h.out,λj l w h1 h2=>let ⟨ts,a,b⟩:=h.at' j l w h1 h2;⟨ts,kl l (Al h1) _ a,b.keep kt⟩⟩
theorem fD.snoc{n:Net}{H H':Hp}{L l:Addr}{ls ts:List Addr}{ws:List (List Nt.End)}{v:List Nt.End}(h:fD n H L ls ws)(hL:H' L=some (.lst<|ls.map V.ref++[.ref l]))(kl:∀ l∈ls,∀ o,H l=some o->H' l=some o)(kt:∀ t p j,H t=some (Tn p j)->H' t=some (Tn p j))
  (hl:H' l=some (.lst<|ts.map V.ref)) (hv:cK n H' ts v) (hn:l∉ls) (V':L≠l):fD n H' L (ls++[l]) (ws++[v]):=by
 refine⟨by rw [hL,Ai];rfl,by rw [Af,Af,h.len];rfl,oB h.nC hn,λhm=>?_,λj a x h1 h2=>?_⟩
 ·rcases Aq.mp hm with hm | hm
  ·exact h.out hm
  ·exact V'<|Ah.mp hm
 ·have hlen:=h.len
  by_cases hj:j < ls.length
  ·rw [At hj] at h1;rw [At<|by omega] at h2;obtain⟨us,q1,q2⟩:=h.at' j a x h1 h2;exact⟨us,kl a (Al h1) _ q1,q2.keep kt⟩
  ·rw [Au<|by omega] at h1 h2;have f9:j - ls.length=0:=by
    have:=(Ac.mp h1).1;simp at this;omega
   rw [f9] at h1;rw [<- hlen,f9] at h2;cases h1;cases h2;exact⟨ts,hl,hv⟩
def v8:Sp:=λvs H Q _=>∃(R:Addr) (as:List<|Addr×Addr) (n:Net),vs=[.ref R]/\ai H R as n/\(n.map (·.1)).Nodup/\aB n/\n.length<=1000/\(ag n).length<=400 /\
 ∀(L:Addr) (ls:List Addr) (H':Hp),aj H H'->H L=none->fD n H' L ls (cW n (ends n) [])->(∀ l∈ls,H l=none)->Q (.ref L) H'
theorem KS{n:Net}{i:Nat}{p:Str×Nt.End}(h:(aZ n)[i]?=some p):(ends n)[i]?=some p.2:=by unfold ends;rw [Ad,h];rfl
abbrev Wa:List Str:=["rows","lefts","rights","names","told","walkers","first","walker","end"]
theorem sg:ao Wa ["rows"] (aV mF):=⟨rfl,rfl,rfl,by decide +kernel,rfl,by decide +kernel,by decide +kernel⟩
theorem Wb{f:Addr}{fd:FuncData}(F:bu K "walkers_of" "walkers_of" mF f fd)(T:Txt mg)
  (GL:aP P w K mg base 3 "left_steps" ["rows"]<|eQ 1)
  (GR:aP P w K mg base 3 "right_steps" ["rows"]<|eQ (-1))
  (GN:aP P w K mg base 3 "ties_by_end" ["rows"] iO)
  (GO:aP P w K mg base 3 "ends_in_order" ["rows"] vZ)
  (GW:aP P w K mg base 3 "walker_from" ["lefts","rights","first"] nw) :
  aD P w K mg base bD 4 f fd ["rows"] v8:=by
 refine F.gb sg (λvs H Q E h=>?_) λb0 H vs Q E hr h=>?_
 ·obtain⟨R,as,n,rfl,_⟩:=h;rfl
 obtain⟨R,as,n,rfl,hR,hN,hT,hn,jm,q⟩:=h;have nd:=sg.nd;have jg:=jO n;have hu:=hr.u1;show Run _ _ _ [some<|.ref R,none,none,none,none,none,none,none,none] H;refine aO 1 nd (bJ GL hr<|al<|ae 0<|ay ⟨R,as,n,rfl,hR,hN,hT,hn,by omega,λdl kl H1 s1 n1 e1 v1=>?_⟩);refine aO 2 nd (bJ GR hr<|al<|ae 0<|ay ⟨R,as,n,rfl,hR.same s1,hN,hT,hn,by omega,λdr kr H2 s2 n2 e2 v2=>?_⟩);refine aO 3 nd (bJ GN hr<|al<|ae 0<|ay ⟨R,as,n,rfl,hR.same<|s1.trans s2,hN,hn,by omega,λdn kn H3 s3 n3 e3 v3=>?_⟩);refine aO 4 nd<|VP T.ra λD hD=>?_;refine aO 5 nd<|di<|ay ⟨Z0,λL hL=>?_⟩;have AX:aU n H3 dl 1:=aU.same ⟨kl,e1,v1⟩<|s2.trans s3;have Wc:aU n H3 dr (-1):=aU.same ⟨kr,e2,v2⟩ s3;have nD:=(s1.trans s2).trans s3;have lq:L≠D:=λe=>by rw [e,ax] at hL;cases hL
 have Wd:H3 L=none:=by rw [au lq] at hL;exact hL
 have iQ:=hU nD hD;have mW:=hU nD Wd;have sB:aj H3 (upd (upd H3 D<|bj P w D []) L<|.lst []):=(aN hD _).trans<|aN hL _;have KU:(upd (upd H3 D<|bj P w D []) L<|.lst []) D=some (bj P w D []):=by rw [au<|BX lq,ax]
 have lw:(upd (upd H3 D<|bj P w D []) L<|.lst []) L=some (.lst []):=ax;have AY:=nD.trans sB;have iR:=AX.same sB;have sh:=Wc.same sB;have KW:=sB _ _ e3;show Run _ _ _ [some<|.ref R,some<|.ref dl,some<|.ref dr,some<|.ref dn,some<|.ref D,some<|.ref L,none,none,none] (upd (upd H3 D<|bj P w D []) L<|.lst []);generalize upd (upd H3 D<|bj P w D []) L (.lst [])=HB at sB KU lw AY iR sh KW;refine mq (bJ GO hr<|al<|ae 0<|ay ⟨R,as,n,rfl,hR.same AY,hn,by omega,λU us H5 s5 n5 e5 AZ=>⟨U,rfl,⟨_,ak.of e5⟩,?_⟩⟩);have si:=AY.trans s5;have hV:=s5 _ _ KU;have v9:=s5 _ _ lw;have A0:=iR.same s5;have A1:=sh.same s5;have A2:=s5 _ _ KW;have A3:U≠L:=λe=>by rw [e,lw] at n5;cases n5
 have sj:us.length=(ends n).length:=by rw [AZ.1];unfold ends;rw [Aa]
 refine mr (xs:=us.map V.ref) (λi σ H'=>∃(zs told:List Str) (ls:List Addr) (ws:List<|List Nt.End) (u1 u2 u3:Option V),(∀ b o,b≠D->b≠L->H5 b=some o->H' b=some o)/\H' D=some (bj P w D zs)/\zs.Nodup/\(∀ z∈zs,z∈ag n)/\(∀ z,z∈zs↔z∈told) /\
  fD n H' L ls ws/\(∀ l∈ls,H5 l=none)/\ls.length<=i/\cW n (ends n) []=ws++cW n ((ends n).drop i) told/\σ=[some<|.ref R,some<|.ref dl,some<|.ref dr,some<|.ref dn,some<|.ref D,some<|.ref L,u1,u2,u3])
  ⟨[],[],[],[],_,_,_,λb o _ _ h=>h,hV,Bw,λz h=>by simp at h,λz=>by simp,⟨v9,rfl,Bw,by simp,λj l w h=>by simp at h⟩,λl h=>by simp at h,Ag _,rfl,rfl⟩ ?_ ?_ ?_
 ·rintro i σ H' _ ⟨_,_,_,_,_,_,_,kp,_⟩;exact ak.of<|kp _ _ (lh e5 hV λφ z=>nomatch z) A3 e5
 ·rintro i x σ H' hx ⟨zs,told,ls,ws,u1,u2,u3,kp,eD,zn,zt,zm,hW,hf,v7,iS,rfl⟩;have hi:i < us.length:=by
   have:=(Ac.mp hx).1;rw [Aa] at this;exact this
  rw [Ad,Ab hi] at hx;cases hx;have pC:i < (aZ n).length:=by have:=AZ.1;omega
  have nE:H5 us[i]=some (TN n (aZ n)[i].2):=AZ.2 i us[i] (aZ n)[i] (Ab hi)<|Ab pC;have jo:=KS<|Ab pC;have gL:bK n (aZ n)[i].2=some (aZ n)[i].1:=aJ.mp (by have:=Cu pC;exact this);generalize (aZ n)[i]=pr at nE jo gL;obtain⟨z,e⟩:=pr;have nE:H5 us[i]=some (TN n e):=nE;have gL:bK n e=some z:=gL;have jo:(ends n)[i]?=some e:=jo;have he:e∈ends n:=Al jo;have eR:(ends n).drop i=e :: (ends n).drop (i+1):=by
   have sk:i < (ends n).length:=by omega
   rw [Er sk]
   congr 1
   have:=Ab sk;rw [jo] at this;exact(Option.some.inj this).symm
  have sr:∀{b p j},H5 b=some (Tn p j)->H' b=some (Tn p j):=λ{b p j} h=>kp _ _ (lh h hV λφ z=>nomatch z) (bO h v9 λz=>nomatch z) h;have cQ:=sr nE;have A4:H' dn=some (.dT kn):=kp _ _ (lh A2 hV λφ z=>nomatch z) (bO A2 v9 λz=>nomatch z) A2;have cO:∀{d c},aU n H5 d c->aU n H' d c:=λ{d c} ⟨kvs,a,b⟩=>⟨kvs,kp _ _ (lh a hV λφ z=>nomatch z) (bO a v9 λz=>nomatch z) a,λe he=>let ⟨u,p,r⟩:=b e he;⟨u,p,sr r⟩⟩;have Wg:bb H' dn (.ref us[i]) (some<|.str z):=by rw [<- v3 e z gL];exact bb.t (k:=key n e) A4 cQ
  refine bo 6 nd ?_;refine eY<|cB VQ<|fU hu<|ae 3<|ae 6 ⟨dn,.str z,rfl,Wg,ae 4 ⟨z,D,zs,rfl,rfl,eD,_,rfl,?_⟩⟩;refine gu (λc=>?_) λc=>?_
  ·have hz:z∉zs:=CQ c;have j4:aw n e∉told:=by rw [du gL];exact λh=>hz<|(zm z).mpr h
   refine aO 7 nd (bJ GW hr<|al<|ae 1<|al<|ae 2<|al<|ae 6<|ay ⟨dl,dr,us[i],n,e,rfl,cO A0,cO A1,hN,hT,by omega,he,cQ,λl ts k H6 s6 n6 e6 A5 pr hk=>?_⟩);have Wh:=jZ pr;have jq:walker n e=wk n e k:=by unfold walker;rw [Wh]
   have lz:=s6 _ _ hW.lst;have fC:=s6 _ _ eD;have nF:L≠l:=a9 hW.lst n6;have jS:D≠l:=a9 eD n6;refine fb (jL<|ae 5 ⟨L,rfl,⟨_,lz⟩,ae 7 ⟨_,lz,by rw [Aa];exact cf (by omega),?_⟩⟩);have k7:∀ b o,b≠L->H6 b=some o->(upd H6 L<|.lst<|ls.map V.ref++[.ref l]) b=some o:=λb o hb h=>by rw [au hb];exact h
   have su:(upd H6 L<|.lst<|ls.map V.ref++[.ref l]) L=some (.lst<|ls.map V.ref++[.ref l]):=ax;generalize upd H6 L (.lst<|ls.map V.ref++[.ref l])=H7 at k7 su;have sv:∀ t p j,H6 t=some (Tn p j)->H7 t=some (Tn p j):=λt p j h=>k7 _ _ (bO h lz λz=>nomatch z) h;have e7:=k7 _ _ (BX nF) e6;have Wi:=k7 _ _ (BX lq) fC;have pD:=A5.keep sv;have sw:l∉ls:=λhm=>by
    obtain⟨j,hj⟩:=Bt hm;have hlen:=hW.len;have sy:j < ws.length:=by have:=(Ac.mp hj).1;omega
    obtain⟨_,a,_⟩:=hW.at' j l ws[j] hj<|Ab sy;rw [n6] at a;cases a
   have sE:fD n H7 L (ls++[l]) (ws++[wk n e k]):=hW.snoc su (λa ha o ho=>k7 _ _ (λq=>hW.out<|q ▸ ha)<|s6 _ _ ho) (λt p j h=>sv _ _ _<|s6 _ _ h) e7 pD sw nF;have A6:H5 l=none:=by
    cases q5:H5 l with
    | none=>rfl
    | some o=>rw [kp _ _ (BX jS) (BX nF) q5] at n6;cases n6
   have wa:∀ a∈ls++[l],H5 a=none:=λa ha=>by
    rcases Aq.mp ha with ha | ha
    ·exact hf a ha
    ·rw [Ah.mp ha];exact A6
   have mV:∀ b o,b≠D->b≠L->H5 b=some o->H7 b=some o:=λb o h1 h2 h=>k7 _ _ h2<|s6 _ _<|kp b o h1 h2 h;have A7:(ls++[l]).length<=i+1:=by rw [Af];show ls.length+1<=_;omega
   have nG:cW n (ends n) []=(ws++[wk n e k])++cW n ((ends n).drop<|i+1) (told++(ah<|wk n e k).map (aw n)):=by
    rw [iS,eR];show ws++(if aw n e∈told then _ else _)=_;rw [BP j4,jq,Aw];rfl
   have A8:=AO hT he k;refine mq<|VJ<|ae 7 ⟨l,_,rfl,ak.of e7,λp hp=>⟨p,rfl,⟨_,ak.of ax⟩,?_⟩⟩;rw [AW];have s8:=aN hp<|.lst<|(ah ts).map V.ref;have e8:(upd H7 p<|.lst<|(ah ts).map V.ref) p=some (.lst<|(ah ts).map V.ref):=ax;have lA:=s8 _ _ Wi;have pE:=sE.same s8;have wc:=(pD.same s8).ah;have K0:∀ b o,b≠D->b≠L->H5 b=some o->(upd H7 p<|.lst<|(ah ts).map V.ref) b=some o:=λb o h1 h2 h=>s8 _ _<|mV b o h1 h2 h;have A9:=s8 _ _ (k7 _ _ (bO A4 hW.lst λz=>nomatch z)<|s6 _ _ A4);generalize upd H7 p (.lst<|(ah ts).map V.ref)=H8 at s8 e8 lA pE wc K0 A9;have Wj:p≠D:=lh e8 lA λφ z=>nomatch z;refine mr (xs:=(ah ts).map V.ref) (λm σ H9=>∃(fT:List Str) (u3:Option V),(∀ b o,b≠D->H8 b=some o->H9 b=some o)/\H9 D=some (bj P w D fT)/\fT.Nodup/\(∀ z∈fT,z∈ag n)/\(∀ z,z∈fT↔z∈told++((ah<|wk n e k).take m).map (aw n)) /\
    σ=[some<|.ref R,some<|.ref dl,some<|.ref dr,some<|.ref dn,some<|.ref D,some<|.ref L,some<|.ref us[i],some<|.ref l,u3]) ⟨zs,_,λb o _ h=>h,lA,zn,zt,λz=>by rw [zm z];simp,rfl⟩ ?_ ?_ ?_
   ·rintro m σ H9 _ ⟨_,_,k9,_⟩;exact ak.of<|k9 _ _ Wj e8
   ·rintro m x σ H9 hx ⟨fT,u3,k9,nH,sG,wg,wj,rfl⟩;have hm:m < (ah ts).length:=by
     have:=(Ac.mp hx).1;rw [Aa] at this;exact this
    have l8:=wc.1;rw [Ad,Ab hm] at hx;cases hx;have kX:m < (ah<|wk n e k).length:=by omega
    have BA:=wc.2 m _ _ (Ab hm)<|Ab kX;have nI:(ah<|wk n e k)[m]∈wk n e k:=by
     have h1:(ah<|wk n e k)[m]?=some (ah<|wk n e k)[m]:=Ab kX;rw [ji] at h1;exact Al h1
    have vE:=A8 _ nI;obtain⟨y,hy⟩:=af.mp vE;have iT:(ah<|wk n e k).take (m+1)=(ah<|wk n e k).take m++[(ah<|wk n e k)[m]]:=by rw [Ce,Ab kX];rfl
    generalize (ah<|wk n e k)[m]=c at BA vE hy iT;have Wk:H9 (ah ts)[m]=some (TN n c):=k9 _ _ (lh BA lA λφ z=>nomatch z) BA;have Wl:H9 dn=some (.dT kn):=k9 _ _ (lh A9 lA λφ z=>nomatch z) A9;have Wm:bb H9 dn (.ref (ah ts)[m]) (some<|.str y):=by rw [<- v3 c y hy];exact bb.t (k:=key n c) Wl Wk
    have zl:fT.length<=(ag n).length:=kT sG wg;refine bo 8 nd ?_;refine fb<|VR<|ae 4 ⟨D,rfl,⟨_,nH⟩,fU hu<|ae 3<|ae 8 ⟨dn,.str y,rfl,Wm,y,fT,rfl,nH,by omega,bg ⟨added fT y,_,λb o hb h=>?_,ax,?_,λz hz=>?_,λz=>?_,rfl⟩⟩⟩
    ·rw [au hb];exact k9 b o hb h
    ·unfold added
     split
     ·exact sG
     ·rename_i Wn;exact oB sG Wn
    ·rcases (HI fT y z).mp hz with h | h
     ·exact wg z h
     ·rw [h];exact jM hy
    ·rw [HI,wj z,iT,Ai,<- Aw,Aq (s:=told++_)];show _\/z=y↔_\/z∈[aw n c];rw [du hy,Ah]
   ·rintro σ H9 ⟨fT,u3,k9,nH,sG,wg,wj,rfl⟩;have l8:=wc.1;rw [Aa,l8,Ca] at wj;refine bg<|bg ⟨fT,told++(ah<|wk n e k).map (aw n),ls++[l],ws++[wk n e k],_,_,_,λb o h1 h2 h=>k9 _ _ h1<|K0 b o h1 h2 h,nH,sG,wg,wj,?_,wa,A7,nG,rfl⟩;refine pE.keep ?_ (λa ha o ho=>k9 _ _ ?_ ho) λt p j h=>k9 _ _ (lh h lA λφ z=>nomatch z) h
    ·rw [pE.lst];exact k9 _ _ lq pE.lst
    ·intro q;rw [q,lA] at ho;obtain⟨j,hj⟩:=Bt ha;have hlen:=pE.len;have sy:j < (ws++[wk n e k]).length:=by have:=(Ac.mp hj).1;omega
     obtain⟨_,b,_⟩:=pE.at' j a _ hj<|Ab sy;rw [q,lA] at b;cases b
  ·have hz:z∈zs:=Classical.not_not.mp<|of_decide_eq_false<|Ds.mpr c;refine bg (bg ⟨zs,told,ls,ws,_,_,_,kp,eD,zn,zt,zm,hW,hf,by omega,?_,rfl⟩);rw [iS,eR];show ws++(if aw n e∈told then _ else _)=_;rw [BL<|by rw [du gL];exact(zm z).mp hz]
 ·rintro σ H' ⟨zs,told,ls,ws,u1,u2,u3,kp,eD,zn,zt,zm,hW,hf,v7,iS,rfl⟩;rw [Aa,sj,List.drop_length] at iS;have BD:cW n (ends n) []=ws:=by rw [iS];show ws++[]=ws;rw [Bh]
  refine bS (ae 5<|q L ls H' (λb o h=>?_) mW (by rw [BD];exact hW) λl hl=>hU si<|hf l hl);exact kp _ _ (a9 h iQ) (a9 h mW)<|si _ _ h
end
end H3
namespace Nt
open PySem L2
theorem nJ{n:Net}(T:aB n){e:End}(h:e∈ends n):∃ k,bV n e k/\k<=(ends n).length:=by
 obtain⟨k,k0,k1,k2⟩:=va (f:=two n) (S:=ends n) (λa ha=>jj T ha) (λa ha b hb=>pq T ha hb) h;have aux:∀ m,∀ k,k<=m->0 < k->it (two n) k e=e->∃ j,j<=k/\bV n e j:=by
  intro m
  induction m with
  | zero=>intro k h1 h2;omega
  | succ m ih=>
   intro k h1 h2 h3
   by_cases c:∃ i,0 < i/\i < k/\it (two n) i e=e
   ·obtain⟨i,i1,i2,i3⟩:=c;obtain⟨j,j1,j2⟩:=ih i (by omega) i1 i3;exact⟨j,by omega,j2⟩
   ·exact⟨k,Ag _,h2,h3,λi i1 i2 i3=>c ⟨i,i1,i2,i3⟩⟩
 obtain⟨j,j1,j2⟩:=aux k k (Ag _) k0 k2;exact⟨j,j2,by omega⟩
theorem Wo{n:Net}(T:aB n){e:End}(h:e∈ends n):nn n (walker n e):=by
 obtain⟨k,p,hk⟩:=nJ T h;unfold walker;rw [jZ p];exact VW T h p hk
theorem nK{n:Net}(T:aB n):∀(es:List End) (told:List Str),(∀ e∈es,e∈ends n)->∀ w∈cW n es told,nn n w
 | [],_,_,w,hw=>by cases hw
 | e :: r,told,h,w,hw=>by
  unfold cW at hw
  split at hw
  ·exact nK T r told (λa ha=>h a<|Ak _ ha) w hw
  ·rcases Am.mp hw with rfl | hw
   ·exact Wo T<|h e<|As ..
   ·exact nK T r _ (λa ha=>h a<|Ak _ ha) w hw
theorem sJ(n:Net):∀(es:List End) (told:List Str),(cW n es told).length<=es.length
 | [],_=>Ag _
 | e :: r,told=>by
  unfold cW
  split
  ·have:=sJ n r told;show _<=r.length+1;omega
  ·have:=sJ n r<|told++(ah<|walker n e).map (aw n);show _+1<=r.length+1;omega
structure dM(n:Net)(e:End)(k:Nat):Prop where
 pos:0 < k
 back:it (step n) k e=e
 first:∀ i,0 < i->i < k->it (step n) i e≠e
theorem dM.unique{n:Net}{e:End}{k l:Nat}(a:dM n e k)(b:dM n e l):k=l:=by
 rcases Dg k l with h | h | h
 ·exact absurd a.back<|b.first k a.pos h
 ·exact h
 ·exact absurd b.back<|a.first l b.pos h
noncomputable def gM(n:Net)(e:End):Nat:=by classical exact if h:∃ k,dM n e k then h.choose else 0
theorem K1{n:Net}{e:End}{k:Nat}(h:dM n e k):gM n e=k:=by
 have hx:∃ k,dM n e k:=⟨k,h⟩;unfold gM;rw [KZ hx];exact hx.choose_spec.unique h
theorem K2{n:Net}(T:aB n){e:End}(h:e∈ends n):∃ k,dM n e k/\k<=(ends n).length:=by
 obtain⟨k,k0,k1,k2⟩:=va (f:=step n) (S:=ends n) (λa ha=>oQ T ha) (λa ha b hb=>yO T ha hb) h;have aux:∀ m,∀ k,k<=m->0 < k->it (step n) k e=e->∃ j,j<=k/\dM n e j:=by
  intro m
  induction m with
  | zero=>intro k h1 h2;omega
  | succ m ih=>
   intro k h1 h2 h3
   by_cases c:∃ i,0 < i/\i < k/\it (step n) i e=e
   ·obtain⟨i,i1,i2,i3⟩:=c;obtain⟨j,j1,j2⟩:=ih i (by omega) i1 i3;exact⟨j,by omega,j2⟩
   ·exact⟨k,Ag _,h2,h3,λi i1 i2 i3=>c ⟨i,i1,i2,i3⟩⟩
 obtain⟨j,j1,j2⟩:=aux k k (Ag _) k0 k2;exact⟨j,j2,by omega⟩
def fl(n:Net)(e:End)(k:Nat):List End:=(List.range k).map λi=>it (step n) i e
theorem K3(n:Net)(e:End)(k:Nat):fl n e (k+1)=fl n e k++[it (step n) k e]:=by
 unfold fl;rw [Fb,Ai];rfl
theorem nL(n:Net)(e:End)(k:Nat):(fl n e k).length=k:=by unfold fl;simp
theorem Wp(n:Net)(e:End){k i:Nat}(h:i < k):(fl n e k)[i]?=some (it (step n) i e):=by
 unfold fl;rw [Ad,Dk h];rfl
noncomputable def face(n:Net)(e:End):List End:=fl n e<|gM n e
theorem Wq{n:Net}{e:End}{k:Nat}(p:dM n e k)(hk:k<=(ends n).length):cV n e (fl n e k):=
 ⟨by rw [nL];exact p.pos,by rw [nL];exact hk,λi hi=>Wp n e (by rw [nL] at hi;exact hi),by rw [nL];exact p.back,by rw [nL];exact p.first⟩
theorem j5{n:Net}(T:aB n){e:End}(h:e∈ends n):cV n e (face n e):=by
 obtain⟨k,p,hk⟩:=K2 T h;unfold face;rw [K1 p];exact Wq p hk
theorem wm{n:Net}(T:aB n){e:End}(h:e∈ends n):∀ c∈face n e,c∈ends n:=(j5 T h).ends T h
noncomputable def gk(n:Net):List End->List End->List (List End)
 | [],_=>[]
 | e :: r,told=>if e∈told then gk n r told else face n e :: gk n r (told++face n e)
theorem BE{n:Net}(T:aB n):∀(es:List End) (told:List End),(∀ e∈es,e∈ends n)->∀ w∈gk n es told,∃ e∈es,w=face n e/\e∉told
 | [],_,_,w,hw=>by cases hw
 | e :: r,told,h,w,hw=>by
  unfold gk at hw
  split at hw
  ·obtain⟨e',h1,h2⟩:=BE T r told (λa ha=>h a<|Ak _ ha) w hw;exact⟨e',Ak _ h1,h2⟩
  ·rename_i hn
   rcases Am.mp hw with rfl | hw
   ·exact⟨e,As ..,rfl,hn⟩
   ·obtain⟨e',h1,h2,h3⟩:=BE T r _ (λa ha=>h a<|Ak _ ha) w hw;exact⟨e',Ak _ h1,h2,λq=>h3<|Bl _ q⟩
theorem BF(n:Net):∀(es:List End) (told:List End),(gk n es told).length<=es.length
 | [],_=>Ag _
 | e :: r,told=>by
  unfold gk
  split
  ·have:=BF n r told;show _<=r.length+1;omega
  ·have:=BF n r<|told++face n e;show _+1<=r.length+1;omega
noncomputable def ca(n:Net):List (List End):=if ends n=[] then [[]] else gk n (ends n) []
theorem BG(n:Net):(ca n).length<=(ends n).length+1:=by
 unfold ca
 split
 ·show 1<=_;omega
 ·have:=BF n (ends n) [];omega
theorem K4{n:Net}(T:aB n):∀ w∈ca n,w.length<=(ends n).length/\∀ c∈w,c∈ends n:=λw hw=>by
 unfold ca at hw
 split at hw
 ·rw [Ah.mp hw];exact⟨Be _,λc h=>by cases h⟩
 ·obtain⟨e,he,rfl,_⟩:=BE T (ends n) [] (λe he=>he) w hw;exact⟨(j5 T he).len,wm T he⟩
end Nt
namespace lB
open PySem PySem.W PyProof.Rows
section
variable{lt:Nat->Nat->Bool}{cmp:Nat->Nat->(Bool->Shared->Prop)->Shared->Prop}{J:Shared->Prop}{n:Nat}
end
section
variable{prog:Program}{w:World}{A:Around}{E:Value->Shared->Prop}{s:Shared}
end
end lB
namespace L2
open PySem PySem.Spec PyProof.Rows lB
section
variable{X:Cx}{σ:St}{H:Hp}
end
end L2
namespace L2
open PySem PySem.Spec PyProof.Rows
section
variable{X:Cx}{σ:St}{H:Hp}{Q:VK}
end
open bT
section
variable{prog:Program}{w:World}{A:Around}{E:Value->Shared->Prop}{s:Shared}{T:String}{r d:Addr}{n:Nat}{P:Nat->Value->Prop}{OK:Heap->Prop}
end
section
variable{X:Cx}
end
end L2
namespace L2
open PySem PySem.Spec PyProof.Rows
section
def wn(K:PySem.W.Frag)(l:Addr):It:=
  ⟨λi H => ∃ xs x, ak K H l xs ∧ xs[i]? = some x,
   λi H v H'=>∃ T x,H T=none/\v = .ref T/\H'=upd H T (.tup [.int (i:Int),x])/\∀ xs,ak K H l xs->xs[i]?=some x,
   λi H=>∃ xs,ak K H l xs/\xs.length<=i⟩
def Wr(m l:Addr)(i:Nat)(h:Heap):Prop:=(∃ old,IsEnum h (m+1) m (i:Int) old)/\h.IsListIter m l i
theorem Ws{P:Program}{w:World}{K:PySem.W.Frag}{elts:List Expr}{k:Nat}{tp:Pos}(m l:Addr):Turn P w K (.Tuple elts k tp) (wn K l) [m,m+1] (m+1) (Wr m l) where
 mem:=by simp
 obj:=λi h st c hc=>by
  obtain⟨⟨old,z1⟩,⟨o4,e4,c4,d4⟩⟩:=st;simp only [Am,Ci,HW] at hc
  rcases hc with rfl | rfl
  ·exact⟨_,e4,λv z=>by rw [d4] at z;cases z⟩
  ·exact⟨_,z1,λv z=>by cases z⟩
 keep:=λi h h' st kp=>by
  obtain⟨⟨old,z1⟩,⟨o4,e4,r4⟩⟩:=st;exact⟨⟨old,kp _ (by simp) _ z1⟩,⟨o4,kp _ (by simp) _ e4,r4⟩⟩
 item:=by
  intro X hP hw hK hc i pins s σ H E I hf st hg;subst hP hw hK;obtain⟨xs,x,gG,hx⟩:=hg;obtain⟨eJ,iI,p1,hG⟩:=I.list gG;obtain⟨u1,rc,zU⟩:=iI.get hx;obtain⟨⟨old,z1⟩,z4⟩:=id st;refine wpAny_pyNext_enum_item z1 z4 p1.isList (x:=u1) (by simpa using rc) (by simp) λh' a1 a2 a3 a4 kp=>?_;have hT:H s.heap.objs.size=none:=I.aC.fresh<|Ag _;have nT:∀ c∈[m,m+1],c≠s.heap.objs.size:=λc aW=>by
   have:∃ o,s.heap.get? c=some o:=by
    obtain⟨o4,e4,_⟩:=z4;simp only [Am,Ci,HW] at aW
    rcases aW with rfl | rfl
    ·exact⟨_,e4⟩
    ·exact⟨_,z1⟩
   obtain⟨o,e⟩:=this;exact Bp<|Ar e
  have I1:Inv X pins σ (upd H s.heap.objs.size<|.tup [.int (i:Int),x]) {s with heap:=s.heap.push {cls:= .type "tuple",data:= .seq #[.int i s.toks,u1]},toks:=s.toks+1}:=
   I.laid (t':=s.toks+1) (λb o e=>Ae _ e) (Ag _) (show az X.prog X.w _ _ _ (.tup [.int (i:Int),x]) from⟨Z2,[.int i s.toks,u1],.cons ⟨_,rfl⟩<|.cons zU .nil,⟨_,An _ rfl,rfl,_,rfl⟩⟩)
  have f1:∀ c∈[m,m+1],bR X pins (upd H s.heap.objs.size<|.tup [.int (i:Int),x]) c:=λc aW=>⟨by rw [au<|nT c aW];exact(hf c aW).1,(hf c aW).2⟩;have mC:∀ c o,c∉[m,m+1]->(s.heap.push {cls:= .type "tuple",data:= .seq #[.int i s.toks,u1]}).get? c=some o->h'.get? c=some o:=λc o aW e=>by
   rcases Fk e with ⟨ec,eo⟩ | e'
   ·rw [ec,eo];exact a3
   ·simp only [Am,Ci,HW,not_or] at aW;exact kp c o aW.2 aW.1 e'
  have I2:=Inv.bp (h':=h') (t':=s.toks+1) I1 f1 mC;refine⟨_,rfl,wpAny_letOwnedTupleGo_enum (s:={s with heap:=h',toks:=s.toks+1}) a1 λh2 b1 sb=>?_⟩;have vS:∀ c o,c∉[m+1]->h'.get? c=some o->h2.get? c=some o:=λc o aW e=>(sb.2 c<|by simpa using aW).trans e;have I3:=Inv.bp (h':=h2) (t':=s.toks+1) I2 (ch:=[m+1]) (λc aW=>f1 c<|by simp at aW;simp [aW]) vS;refine⟨.ref s.heap.objs.size,_,I3,rfl,⟨_,x,hT,rfl,rfl,λzs hz=>by rw [I.cj hz gG];exact hx⟩,?_,λc aW=>(f1 c aW).1⟩;obtain⟨o3,e3,r3⟩:=a2;exact⟨⟨u1,b1⟩,⟨o3,vS _ _ (by simp) e3,r3⟩⟩
 done:=by
  intro X hP hw hK hc i pins s σ H E I hf st hg;subst hP hw hK;obtain⟨xs,gG,rB⟩:=hg;obtain⟨eJ,iI,p1,hG⟩:=I.list gG;have l1:=iI.length;obtain⟨⟨old,z1⟩,z4⟩:=id st;refine wpAny_pyNext_enum_end (I.ok.hd hc) z1 z4 p1.isList (by simp;omega) λh' kp=>⟨rfl,I.bp (t':=s.toks) (ch:=[m,m+1]) hf λc o aW e=>?_⟩;simp only [Am,Ci,HW,not_or] at aW;exact kp c o aW.1 e
 self:=λ_ _ _ _ _ st h=>by
  obtain⟨⟨old,z1⟩,_⟩:=st;exact wpAny_pyIter_enum z1 h
end
section
variable{X:Cx}
def Wt(K:PySem.W.Frag)(ta:TA):TI:=λσ H R=>ta σ H λvs H1=>∃ a,vs=[.ref a]/\(∃ xs,ak K H1 a xs)/\R (wn K a) H1
theorem K5{elts:List Expr}{k:Nat}{tp:Pos}{a:Expr}{ta:TA}{p pos:Pos}(hg:Gl X "enumerate")(hm:X.mg "enumerate" = none)(ha:PA X [a] ta)(hs:starEach [a] X.env=[(false,eval a X.env)]:=by rfl) :
  PI X (.Tuple elts k tp) (.Call (.Name "enumerate" p) [a] [] pos) (Wt X.K ta):=by
 intro pins s σ H R I h;refine Call_<|i4 I hg hm boot_enumerate<|DX (aE (ha pos pins s σ H _ I h) λus s1 ⟨vs,H1,I1,r1,q1⟩=>?_) hs rfl;obtain⟨x,e,⟨xs,hx⟩,q⟩:=q1;subst e;obtain⟨u,rfl,ru⟩:=r1.one;cases (show u=Value.ref x from ru);obtain⟨eJ,iI,p1,hG⟩:=I1.list hx;refine call_enumerate_list p1.isList λh' a1 a2 a3 kp=>?_;refine wpAny_pyIter_enum (s:={s1 with heap:=h'}) a1 ?_;refine⟨s1.heap.objs.size+1,[s1.heap.objs.size,s1.heap.objs.size+1],_,_,H1,rfl,I1.kept (t':=s1.toks) kp,Ws s1.heap.objs.size x,⟨⟨_,a1⟩,a2⟩,λb hb=>?_,q⟩;have hle:s1.heap.objs.size<=b:=by
  simp only [Am,Ci,HW] at hb
  rcases hb with rfl | rfl <;> omega
 exact I1.dF hle<|I1.aC.fresh hle
end
section
variable{X:Cx}{σ:St}{H:Hp}{D:Ends}{body:List Stmt}
theorem Wu{tg:Expr}{d:Addr}{o:Obj}{kvs:List (Key×V)}{after:St->Hp->Prop}(Pv:Nat->St->Hp->Prop)(h0:Pv 0 σ H)(hl:∀ i σ H,i<=kvs.length->Pv i σ H->H d=some (.bN o<|.dK kvs))
  (hs:∀ i p σ H,kvs[i]?=some p->Pv i σ H->Eg X tg (kV p.1) σ H λσ2 H2=>Run X body {D with nx:=Pv<|i+1,ct:=Pv<|i+1,bk:=after} σ2 H2) (hd:∀ σ H,Pv kvs.length σ H->after σ H):Loop X tg body (zQ d o kvs) D after σ H:=by
 refine⟨λi m σ H=>m=kvs.length - i/\i<=kvs.length/\Pv i σ H,⟨kvs.length,by simp,Be _,h0⟩,?_⟩;rintro i m σ H ⟨rfl,hi,p⟩;have q:=hl i σ H hi p
 by_cases aK:i < kvs.length
 ·refine .inr ⟨⟨q,aK⟩,Pv<|i+1,λσ' H' p'=>⟨kvs.length - (i+1),by omega,rfl,aK,p'⟩,λx H' y=>?_⟩;obtain⟨e,p',ep,y⟩:=y;subst e y;exact hs i p' σ _ ep p
 ·have e:i=kvs.length:=by omega
  subst e;exact .inl ⟨⟨q,Ag _⟩,hd σ H p⟩
end
section
variable{X:Cx}{σ:St}{H:Hp}{D:Ends}{body rest:List Stmt}{a b:Expr}
end
end L2
namespace bT
open PySem SetTable
def j6(mask:Nat)(p:Probe):Probe:=if p.more > 0 then{p with j:=p.j+1,more:=p.more - 1} else
 {p with j:=(leap mask p.i p.perturb).1,more:=runEnd mask (leap mask p.i p.perturb).1 - (leap mask p.i p.perturb).1,i:=(leap mask p.i p.perturb).1,perturb:=(leap mask p.i p.perturb).2}
def P0(mask i q:Nat):Probe:={j:=i,more:=runEnd mask i - i,i:=i,perturb:=q,dummy:=none}
def dZ(mask:Nat)(p:Probe):Nat->Probe
 | 0=>p
 | n+1=>j6 mask<|dZ mask p n
def pr(mask:Nat)(h:Int)(n:Nat):Probe:=dZ mask (P0 mask (bits h % (mask+1))<|bits h) n
theorem K6(t:SetTable)(h:Int):t.probeStart h=pr t.mask h 0:=rfl
theorem sK(mask:Nat)(p:Probe)(a:Nat):∀ b,dZ mask p (a+b)=dZ mask (dZ mask p a) b
 | 0=>rfl
 | b+1=>by
  show j6 mask (dZ mask p<|a+b)=j6 mask (dZ mask (dZ mask p a) b);rw [sK mask p a b]
theorem pF(mask i q:Nat):∀ k,k<=runEnd mask i - i->dZ mask (P0 mask i q) k={j:=i+k,more:=runEnd mask i - i - k,i:=i,perturb:=q,dummy:=none}
 | 0,_=>rfl
 | k+1,h=>by
  show j6 mask (dZ mask (P0 mask i q) k)=_;rw [pF mask i q k<|by omega];unfold j6;rw [BL<|by show runEnd mask i - i - k > 0;omega];show(⟨i+k+1,runEnd mask i - i - k - 1,i,q,none⟩:Probe)=_
  congr 1
theorem wo(mask i q:Nat):dZ mask (P0 mask i q) (runEnd mask i - i+1)=P0 mask (leap mask i q).1 (leap mask i q).2:=by
 show j6 mask (dZ mask (P0 mask i q)<|runEnd mask i - i)=_;rw [pF mask i q _<|Ag _];unfold j6;rw [BP<|by show ¬ runEnd mask i - i - (runEnd mask i - i) > 0;omega];rfl
theorem Wv(mask i:Nat):runEnd mask i - i<=9:=by unfold runEnd;split <;> omega
theorem Ww{mask i:Nat}(h:i<=mask):runEnd mask i<=mask:=by unfold runEnd;split <;> omega
theorem K7{mask j:Nat}:∀(fuel i q:Nat),j∈mz mask fuel i q->∃ n,n < 10 * fuel/\(dZ mask (P0 mask i q) n).j=j
 | 0,_,_,h=>by cases h
 | fuel+1,i,q,h=>by
  rcases Am.mp h with e | h
  ·exact⟨0,by omega,e.symm⟩
  ·obtain⟨n,hn,e⟩:=K7 fuel _ _ h;refine⟨runEnd mask i - i+1+n,by have:=Wv mask i;omega,?_⟩;rw [sK,wo];exact e
theorem Wx{mask:Nat}(hm:Pow<|mask+1)(h:Int){j:Nat}(hj:j < mask+1):∃ n,n < 10 * turns mask/\(pr mask h n).j=j:=
 K7 _ _ _ (Hu hm (Db _<|Dr _) (Hx h) hj)
theorem Wy{mask:Nat}:∀(n i q:Nat),i<=mask->(dZ mask (P0 mask i q) n).j<=mask:=by
 intro n
 induction n using Nat.strongRecOn with
 | _ n ih=>
  intro i q hi
  by_cases c:n<=runEnd mask i - i
  ·rw [pF mask i q n c];have:=Ww hi;show i+n<=mask;omega
  ·have e:n=runEnd mask i - i+1+(n - (runEnd mask i - i+1)):=by omega
   rw [e,sK,wo];exact ih _ (by omega) _ _<|Nat.le_of_lt_succ Hs
theorem K8(mask:Nat)(h:Int)(n:Nat):(pr mask h n).j<=mask:=Wy n _ _<|Nat.le_of_lt_succ<|Db _<|Dr _
def Reach(mask:Nat)(wq:Nat->Prop)(h:Int)(j:Nat):Prop:=∃ n,(pr mask h n).j=j/\∀ m,m < n->wq (pr mask h m).j
theorem Reach.mono{mask:Nat}{wq sL:Nat->Prop}{h:Int}{j:Nat}(r:Reach mask wq h j)(k:∀ i,i<=mask->wq i->sL i):Reach mask sL h j:=
 let ⟨n,e,f⟩:=r;⟨n,e,λm hm=>k _ (K8 _ _ _)<|f m hm⟩
theorem K9{mask:Nat}{owner:dj}:∀{fuel i q j:Nat},layClean.free mask owner fuel i q=some j->∃ n,(dZ mask (P0 mask i q) n).j=j/\∀ m,m < n->nil? owner (dZ mask (P0 mask i q) m).j=false
 | 0,_,_,_,h=>by cases h
 | fuel+1,i,q,j,h=>by
  unfold layClean.free at h
  split at h
  ·rename_i k hf;cases h;rw [List.find?_range_eq_some] at hf;have hk:k<=runEnd mask i - i:=by have:=Bc.mp hf.2.1;have:=yF mask i;omega
   refine⟨k,by rw [pF mask i q k hk],λm hm=>?_⟩;rw [pF mask i q m<|by omega];have:=hf.2.2 m hm
   simpa [nil?] using this
  ·rename_i hf;obtain⟨n,e,g⟩:=K9 (fuel:=fuel) h;refine⟨runEnd mask i - i+1+n,by rw [sK,wo];exact e,λm hm=>?_⟩
   by_cases c:m<=runEnd mask i - i
   ·rw [pF mask i q m c];have:=List.find?_eq_none.mp hf m (Bc.mpr<|by have:=yF mask i;omega);exact Ds.mpr this
   ·have e2:m=runEnd mask i - i+1+(m - (runEnd mask i - i+1)):=by omega
    rw [e2,sK,wo];exact g _<|by omega
theorem K'{owner:dj}{j k i:Nat}(h:nil? owner i=false):nil? (owner.setIfInBounds j<|some k) i=false:=by
 unfold nil? at h ⊢;rw [Dl] at h ⊢;rw [Ef]
 split
 ·split <;> rfl
 ·exact h
def j7(mask:Nat)(hs:List Int)(owner:dj):Prop:=∀ v j x,owner[j]?=some (some v)->hs[v]?=some x->Reach mask (λi=>nil? owner i=false) x j
theorem La{mask:Nat}(hm:Pow<|mask+1)(all:List Int):∀(hs done:List Int) (owner:dj),all=done++hs->Lies (mask+1) owner done.length->j7 mask all owner->all.length < mask+1+1 ->
  ∃ fE,hs.foldl (uT mask) (some (owner,done.length))=some (fE,all.length)/\Lies (mask+1) fE all.length/\j7 mask all fE
 | [],done,owner,e,L,R,_=>by
  rw [Bh] at e;subst e;exact⟨owner,rfl,L,R⟩
 | h :: r,done,owner,e,L,R,hk=>by
  have el:all.length=done.length+(r.length+1):=by rw [e,Af,Bj]
  obtain⟨j,ej,hj⟩:=L.free hm (by omega) h;have Lp:=L.put hj;have Rp:j7 mask all (owner.setIfInBounds j<|some done.length):=by
   intro v i x hv hx;rw [Ef] at hv
   by_cases c:j=i
   ·subst c;rw [BL rfl] at hv
    split at hv
    ·cases hv;rw [e,Au<|Ag _,QD] at hx;cases hx;obtain⟨n,e1,e2⟩:=K9 ej;exact⟨n,e1,λm Wz=>K'<|e2 m Wz⟩
    ·cases hv
   ·rw [BP c] at hv;exact(R v i x hv hx).mono λ_ _=>K'
  obtain⟨o',e',L',R'⟩:=La hm all r (done++[h]) (owner.setIfInBounds j<|some done.length) (by rw [e,Aw];rfl) (by rw [Af];exact Lp) Rp hk;refine⟨o',?_,L',R'⟩;rw [Di,show uT mask (some (owner,done.length)) h=some (owner.setIfInBounds j<|some done.length,done.length+1) by unfold uT;simp [ej]];rw [Af] at e';exact e'
theorem WB{mask:Nat}(hm:Pow<|mask+1)(hs:Array Int)(hl:hs.size < mask+1+1):∃ owner,layClean mask hs=some owner/\Lies (mask+1) owner hs.size/\j7 mask hs.toList owner:=by
 obtain⟨o',e,L,R⟩:=La hm hs.toList hs.toList [] (Array.replicate (mask+1) none) rfl (Lies.start<|mask+1) (λv j x hv=>by
  rw [Ex] at hv
  split at hv <;> cases hv) (by simpa using hl)
 refine⟨o',?_,by simpa using L,R⟩;have e2:layClean mask hs=(hs.foldl (uT mask)<|some (Array.replicate (mask+1) none,0)).map (·.1):=rfl;rw [e2,<- Array.foldl_toList];have e3:([]:List Int).length=0:=rfl;rw [e3] at e;rw [e];rfl
theorem WC{xs:Array Nat}{j:Nat}(hs:xs.toList.Pairwise (· < ·)):∀(fuel lo hi:Nat),hi<=xs.size->lo<=hi->hi - lo<=fuel->(∀ i v,i < lo->xs[i]?=some v->v < j)->(∀ i v,hi<=i->xs[i]?=some v->j<=v) ->
  (below.go xs j fuel lo hi)<=xs.size/\(∀ i v,i < below.go xs j fuel lo hi->xs[i]?=some v->v < j)/\(∀ i v,below.go xs j fuel lo hi<=i->xs[i]?=some v->j<=v):=by
 have mono:∀{i k:Nat} {u v:Nat},i < k->xs[i]?=some u->xs[k]?=some v->u < v:=λ{i k u v} WD hi hk=>by
  rw [<- Bg] at hi hk;obtain⟨h1,e1⟩:=Ac.mp hi;obtain⟨h2,e2⟩:=Ac.mp hk;rw [<- e1,<- e2];exact Bd.mp hs i k h1 h2 WD
 intro fuel
 induction fuel with
 | zero=>
  intro lo hi h1 h2 h3 h4 h5;have e:lo=hi:=by omega
  subst e;exact⟨h1,h4,h5⟩
 | succ fuel ih=>
  intro lo hi h1 h2 h3 h4 h5;unfold below.go
  by_cases c:lo < hi
  ·rw [BL c];have BH:(lo+hi) / 2 < xs.size:=by omega
   have hm:xs[(lo+hi) / 2]?=some xs[(lo+hi) / 2]:=Bq BH;have WG:xs.getD ((lo+hi) / 2) j=xs[(lo+hi) / 2]:=by rw [Dl,hm];rfl
   simp only;rw [WG]
   by_cases d:xs[(lo+hi) / 2] < j
   ·rw [BL d];refine ih _ _ h1 (by omega) (by omega) (λi v k4 hv=>?_) h5
    by_cases k:i=(lo+hi) / 2
    ·subst k;rw [hm] at hv;cases hv;exact d
    ·exact RX (mono (by omega) hv hm) d
   ·rw [BP d];refine ih _ _ (by omega) (by omega) (by omega) h4 λi v k4 hv=>?_
    by_cases k:i=(lo+hi) / 2
    ·subst k;rw [hm] at hv;cases hv;omega
    ·have:=mono (show(lo+hi) / 2 < i by omega) hm hv;omega
  ·rw [BP c];have e:lo=hi:=by omega
   subst e;exact⟨h1,h4,h5⟩
theorem Lb{xs:Array Nat}(hs:xs.toList.Pairwise (· < ·))(j:Nat):below xs j<=xs.size/\(∀ i v,i < below xs j->xs[i]?=some v->v < j)/\(∀ i v,below xs j<=i->xs[i]?=some v->j<=v):=
 WC hs xs.size 0 xs.size (Ag _) (Be _) (by omega) (λi v h=>absurd h<|Cg _) λi v h hv=>by
  rw [Cn h] at hv;cases hv
theorem WH{p:Nat->Prop}:∀ n,p n->∃ m,m<=n/\p m/\∀ k,k < m->¬ p k:=by
 intro n
 induction n using Nat.strongRecOn with
 | _ n ih=>
  intro h
  by_cases c:∃ k,k < n/\p k
  ·obtain⟨k,hk,pk⟩:=c;obtain⟨m,h1,h2⟩:=ih k hk pk;exact⟨m,by omega,h2⟩
  ·exact⟨n,Ag _,h,λk hk pk=>c ⟨k,hk,pk⟩⟩
abbrev Ze:=Nat×(Int×Value)
structure Wf(t:SetTable)(es:Array<|Int×Value)(Z:List Ze):Prop where
 place:t.place.toList=Z.map (·.1)
 ents:es.toList=Z.map (·.2)
 j8:Z.Pairwise λa b=>a.1 < b.1
 le:∀ z∈Z,z.1<=t.mask
 few:Z.length<=t.mask
 BI:t.dummies=#[]
 pow:Pow<|t.mask+1
 Lc:∀ z∈Z,Reach t.mask (λj=>j∈Z.map (·.1)) z.2.1 z.1
section
variable{t:SetTable}{es:Array (Int×Value)}{Z:List Ze}
theorem Wf.sorted(W:Wf t es Z):t.place.toList.Pairwise (· < ·):=by
 rw [W.place,De];exact W.j8
theorem Wf.len(W:Wf t es Z):es.size=Z.length:=by rw [<- Co,W.ents,Aa]
theorem Wf.sM(W:Wf t es Z):t.place.size=Z.length:=by rw [<- Co,W.place,Aa]
theorem Wf.at(W:Wf t es Z){i:Nat}{z:Ze}(h:Z[i]?=some z):t.place[i]?=some z.1/\es[i]?=some z.2:=by
 rw [<- Bg,<- Bg,W.place,W.ents,Ad,Ad,h];exact⟨rfl,rfl⟩
theorem Wf.of(W:Wf t es Z){i v:Nat}(h:t.place[i]?=some v):∃ z,Z[i]?=some z/\z.1=v:=by
 rw [<- Bg,W.place,Ad,Ax] at h;exact h
theorem Wf.inj(W:Wf t es Z){i k:Nat}{y z:Ze}(hi:Z[i]?=some y)(hk:Z[k]?=some z)(e:y.1=z.1):i=k:=by
 obtain⟨h1,e1⟩:=Ac.mp hi;obtain⟨h2,e2⟩:=Ac.mp hk
 rcases Dg i k with c | c | c
 ·have:=Bd.mp W.j8 i k h1 h2 c;rw [e1,e2] at this;omega
 ·exact c
 ·have:=Bd.mp W.j8 k i h2 h1 c;rw [e1,e2] at this;omega
theorem Wf.fF(W:Wf t es Z){i:Nat}{z:Ze}(h:Z[i]?=some z):below t.place z.1=i:=by
 obtain⟨b1,b2,b3⟩:=Lb W.sorted z.1;have hp:=(W.at h).1;have c1:¬ i < below t.place z.1:=λc=>Ch _<|b2 i _ c hp
 rcases Cc (below t.place z.1) i with c | c
 ·have hi:i < Z.length:=(Ac.mp h).1;have hb:below t.place z.1 < Z.length:=by omega
  have h2:Z[below t.place z.1]?=some Z[below t.place z.1]:=Ab hb;have h3:=b3 _ _ (Ag _) (W.at h2).1;have h4:=Bd.mp W.j8 _ i hb hi c;rw [(Ac.mp h).2] at h4;omega
 ·omega
theorem Wf.dw(W:Wf t es Z){i:Nat}{z:Ze}(h:Z[i]?=some z):t.slot z.1 = .live i:=by
 unfold slot;simp only;rw [W.fF h,(W.at h).1,BL<|IK _]
theorem Wf.fG(W:Wf t es Z){j:Nat}(h:j∉Z.map (·.1)):t.slot j = .empty:=by
 unfold slot;simp only;have h1:(t.place[below t.place j]? == some j)=false:=by
  rw [beq_eq_false_iff_ne];intro e;obtain⟨z,hz,ez⟩:=W.of e;exact h<|Aj.mpr ⟨z,Al hz,ez⟩
 rw [BP (by rw [h1];exact Ao),W.BI];rfl
theorem Wf.fits(W:Wf t es Z):t.fits es.size=true:=by
 unfold SetTable.fits fill;have:=W.few;rw [W.len,W.sM,W.BI];simp only [IK,Bool.true_and,DN];show Z.length+0<=t.mask;omega
structure Stop(mask:Nat)(Z:List Ze)(h:Int)(N:Nat):Prop where
 out:(pr mask h N).j∉Z.map (·.1)
 Ld:∀ m,m < N->(pr mask h m).j∈Z.map (·.1)
 lt:N < 10 * turns mask
theorem Wf.stop(W:Wf t es Z)(h:Int):∃ N,Stop t.mask Z h N:=by
 have:∃ j,j < t.mask+1/\j∉Z.map (·.1):=by
  refine DK λhn=>?_;have all:∀ j∈List.range (t.mask+1),j∈Z.map (·.1):=λj hj=>DK λk=>hn ⟨j,Bc.mp hj,k⟩;have:=(Dz (n:=t.mask+1)).length_le_of_subset all;rw [Cj,Aa] at this;have:=W.few;omega
 obtain⟨j,hj,hz⟩:=this;obtain⟨n,hn,e⟩:=Wx W.pow h hj;obtain⟨N,h1,h2,h3⟩:=WH (p:=λn=>(pr t.mask h n).j∉Z.map (·.1)) n (by rw [e];exact hz);exact⟨N,h2,λm hm=>DK λk=>h3 m hm k,by omega⟩
theorem BM{mask:Nat}{p:Probe}(h:p.dummy=none):∀ n,(dZ mask p n).dummy=none
 | 0=>h
 | n+1=>by
  show(j6 mask<|dZ mask p n).dummy=none;unfold j6
  split
  ·exact BM h n
  ·exact BM h n
theorem WK(mask:Nat)(h:Int)(n:Nat):(pr mask h n).dummy=none:=BM rfl n
theorem Wf.go(W:Wf t es Z){hashAt:Nat->Int}(hh:∀ i e,es[i]?=some e->hashAt i=e.1){h:Int}{N:Nat}(S:Stop t.mask Z h N):∀ fuel m,m<=N->N - m < fuel ->
  (∃ m' i z,m<=m'/\m' < N/\Z[i]?=some z/\z.1=(pr t.mask h m').j/\z.2.1=h/\(∀ k,m<=k->k < m'->∀ z∈Z,z.1=(pr t.mask h k).j->z.2.1≠h)/\probe.go t hashAt h fuel (pr t.mask h m)=some (.candidate (pr t.mask h m').j i<|pr t.mask h<|m'+1)) \/
  ((∀ k,m<=k->k < N->∀ z∈Z,z.1=(pr t.mask h k).j->z.2.1≠h)/\probe.go t hashAt h fuel (pr t.mask h m)=some (.empty (pr t.mask h N).j none))
 | 0,m,_,hf=>absurd hf<|Cg _
 | fuel+1,m,hm,hf=>by
  unfold probe.go
  by_cases c:m=N
  ·subst c;refine .inr ⟨λk h1 h2=>by omega,?_⟩;rw [W.fG S.out];simp only;rw [WK]
  ·obtain⟨z,hz,ez⟩:=Aj.mp (S.Ld m<|by omega);obtain⟨i,hi⟩:=Bt hz;have uniq:∀ y∈Z,y.1=(pr t.mask h m).j->y=z:=λy hy e=>by
    obtain⟨k,hk⟩:=Bt hy;have:=W.inj hk hi (by rw [e,ez]);subst this;rw [hk] at hi;exact Option.some.inj hi
   rw [<- ez,W.dw hi];simp only;rw [hh i _ (W.at hi).2]
   by_cases d:z.2.1=h
   ·rw [BL<|by rw [d];exact IK _];exact .inl ⟨m,i,z,Ag _,by omega,hi,ez,d,λk h1 h2=>by omega,by rw [ez];rfl⟩
   ·rw [BP<|by rw [OJ];exact d]
    rcases W.go hh S fuel (m+1) (by omega) (by omega) with ⟨m',k,y,a1,a2,a3,a4,a5,a6,a7⟩ | ⟨a1,a2⟩
    ·refine .inl ⟨m',k,y,by omega,a2,a3,a4,a5,λl h1 h2 x hx ex=>?_,a7⟩
     by_cases e:l=m
     ·subst e;rw [uniq x hx ex];exact d
     ·exact a6 l (by omega) h2 x hx ex
    ·refine .inr ⟨λl h1 h2 x hx ex=>?_,a2⟩
     by_cases e:l=m
     ·subst e;rw [uniq x hx ex];exact d
     ·exact a1 l (by omega) h2 x hx ex
theorem Wf.put(W:Wf t es Z){h:Int}{x:Value}{N:Nat}(S:Stop t.mask Z h N){t':SetTable}(e1:t'.mask=t.mask)(e2:t'.place=(t.put (pr t.mask h N).j).1.place)(e3:t'.dummies=#[])(hf:Z.length+1<=t.mask) :
  ∃ Z',Wf t' (insertAt es (t.put (pr t.mask h N).j).2 (h,x)) Z'/\Z'.Perm (((pr t.mask h N).j,(h,x)) :: Z):=by
 obtain⟨b1,b2,b3⟩:=Lb W.sorted (pr t.mask h N).j;have ep:(t.put (pr t.mask h N).j).2=below t.place (pr t.mask h N).j:=rfl;have eP:(t.put (pr t.mask h N).j).1.place=insertAt t.place (below t.place (pr t.mask h N).j) (pr t.mask h N).j:=rfl;rw [eP] at e2;rw [ep];generalize hb:below t.place (pr t.mask h N).j=p at b1 b2 b3 e2;have hj:=K8 t.mask h N;have sN:=S.out;have sI:=S.Ld;have rN:Reach t.mask (λj=>j∈Z.map (·.1)) h (pr t.mask h N).j:=⟨N,rfl,sI⟩;clear hb eP ep;generalize (pr t.mask h N).j=j at b2 b3 e2 hj sN rN ⊢;have pm:(Z.take p++(j,(h,x)) :: Z.drop p).Perm ((j,(h,x)) :: Z):=by
  refine List.perm_middle.trans ?_;rw [Da]
 refine⟨Z.take p++(j,(h,x)) :: Z.drop p,⟨?_,?_,?_,λz hz=>?_,?_,e3,by rw [e1];exact W.pow,λz hz=>?_⟩,pm⟩
 ·rw [e2,toList_insertAt,W.place,Ai,Bb,Fg,Ey]
 ·rw [toList_insertAt,W.ents,Ai,Bb,Fg,Ey]
 ·rw [Fl];have tk:∀ a∈Z.take p,a.1 < j:=λa ha=>by
   obtain⟨i,hi⟩:=Bt ha;rw [List.getElem?_take] at hi
   split at hi
   ·exact b2 i _ (by assumption) (W.at hi).1
   ·cases hi
  have dr:∀ a∈Z.drop p,j < a.1:=λa ha=>by
   obtain⟨i,hi⟩:=Bt ha;rw [Cs] at hi;have:=b3 (p+i) _ (by omega) (W.at hi).1;have ne:a.1≠j:=λe=>sN (by rw [<- e];exact Aj.mpr ⟨a,Al hi,rfl⟩);omega
  refine⟨W.j8.sublist<|List.take_sublist _ _,List.pairwise_cons.mpr ⟨dr,W.j8.sublist<|List.drop_sublist _ _⟩,λa ha b hb=>?_⟩
  rcases Am.mp hb with e | hb
  ·rw [e];exact tk a ha
  ·exact RX (tk a ha)<|dr b hb
 ·rw [e1]
  rcases Am.mp (pm.mem_iff.mp hz) with e | hz
  ·rw [e];exact hj
  ·exact W.le z hz
 ·rw [pm.length_eq,e1];exact hf
 ·have up:∀{h':Int} {k:Nat},Reach t.mask (λj=>j∈Z.map (·.1)) h' k->Reach t'.mask (λi=>i∈(Z.take p++(j,(h,x)) :: Z.drop p).map (·.1)) h' k:=λr=>by
   rw [e1];refine r.mono λi _ hi=>?_;rw [(pm.map (·.1)).mem_iff];exact Ak _ hi
  rcases Am.mp (pm.mem_iff.mp hz) with e | hz
  ·rw [e];exact up rN
  ·exact up<|W.Lc z hz
theorem WL(m:Nat)(owner:dj):(live m owner).Pairwise (λa b=>a.1 < b.1):=by
 unfold live;rw [List.pairwise_filterMap];refine List.Pairwise.imp (λ{a b} g6 x hx y hy=>?_) List.pairwise_lt_range;rw [Ax] at hx hy;obtain⟨u,_,rfl⟩:=hx;obtain⟨v,_,rfl⟩:=hy;exact g6
theorem WM{t:SetTable}{es:Array (Int×Value)}{wanted:Nat}(hm:Pow<|sizeAbove wanted)(hl:es.size<=sizeAbove wanted - 1) :
  ∃ t2 order Z,t.relaid (es.map (·.1)) wanted=some (t2,order)/\(order.filterMap (es[·]?)).size=es.size/\Wf t2 (order.filterMap (es[·]?)) Z/\(Z.map (·.2)).Perm es.toList/\t2.mask=sizeAbove wanted - 1:=by
 have hp:8<=sizeAbove wanted:=by rcases hm with h | h | h | h | h | h <;> omega
 have em:sizeAbove wanted - 1+1=sizeAbove wanted:=by omega
 obtain⟨o,e,L,R⟩:=WB (mask:=sizeAbove wanted - 1) (by rw [em];exact hm) (es.map (·.1)) (by rw [Array.size_map];omega);rw [Array.size_map] at L;rw [show t.relaid (es.map (·.1)) wanted=laid (sizeAbove wanted - 1) t.finger (t.movedTo<|sizeAbove wanted - 1) t.led t.plain (es.map (·.1)) from rfl];generalize sizeAbove wanted - 1=mask at e L R em hl ⊢;have he:∀ p∈live (mask+1) o,p.2 < es.size/\p.1 < mask+1/\o[p.1]?=some (some p.2):=λp hp=>by
  have:=cv.mp hp;exact⟨L.lt _ _ this.2,this.1,this.2⟩
 have ef:∀ l:List<|Nat×Nat,(∀ p∈l,p.2 < es.size)->(l.map (·.2)).filterMap (es[·]?)=l.map λp=>(es[p.2]?).getD (0,.none):=λl=>by
  induction l with
  | nil=>intro _;rfl
  | cons p r ih=>
   intro hl;rw [Bb,Bb,Cy,Bq<|hl p As,ih λq hq=>hl q<|Ak _ hq];rfl
 have ee:(((live (mask+1) o).map (·.2)).toArray.filterMap (es[·]?)).toList=(live (mask+1) o).map λp=>(es[p.2]?).getD (0,.none):=by
  rw [Array.toList_filterMap];exact ef _ λp hp=>(he p hp).1
 have WN:(((live (mask+1) o).map (·.2)).toArray.filterMap (es[·]?)).size=es.size:=by
  rw [<- Co,ee,Aa,L.length]
 refine⟨_,_,(live (mask+1) o).map λp=>(p.1,(es[p.2]?).getD (0,.none)),by unfold laid;rw [e];rfl,WN,⟨?_,?_,?_,λz hz=>?_,?_,rfl,by show Pow (mask+1);rw [em];exact hm,λz hz=>?_⟩,?_,rfl⟩
 ·show(live (mask+1) o).map (·.1)=_;rw [Bv];rfl
 ·rw [ee,Bv];rfl
 ·rw [De];exact WL _ _
 ·obtain⟨p,hp,rfl⟩:=Aj.mp hz;show p.1<=mask;have:=(he p hp).2.1;omega
 ·rw [Aa,L.length];exact hl
 ·obtain⟨p,hp,rfl⟩:=Aj.mp hz;obtain⟨h1,h2,h3⟩:=he p hp;have hx:(es.map (·.1)).toList[p.2]?=some (es[p.2]).1:=by rw [Bg,Array.getElem?_map,Bq h1];rfl
  have eg:(es[p.2]?).getD (0,.none)=es[p.2]:=by rw [Bq h1];rfl
  show Reach mask _ ((es[p.2]?).getD (0,.none)).1 p.1;rw [eg];refine(R p.2 p.1 _ h3 hx).mono λi hi hn=>?_;rw [Bv];have WO:i < o.size:=by rw [L.size];omega
  have h4:o[i]?=some o[i]:=Bq WO;cases h5:o[i] with
  | none=>
   rw [h5] at h4;have:=nil?_iff.mpr h4;rw [hn] at this;cases this
  | some v=>
   rw [h5] at h4;exact Aj.mpr ⟨(i,v),cv.mpr ⟨by omega,h4⟩,rfl⟩
 ·rw [Bv];have p1:((live (mask+1) o).map λp=>(es[p.2]?).getD (0,.none))=((live (mask+1) o).map (·.2)).map λv=>(es[v]?).getD (0,.none):=by rw [Bv];rfl
  show((live (mask+1) o).map λp=>(es[p.2]?).getD (0,.none)).Perm _;rw [p1];refine(L.perm.map _).trans<|List.Perm.of_eq ?_;apply Ck;intro i;rw [Ad]
  by_cases c:i < es.size
  ·rw [Dk c];show some ((es[i]?).getD (0,.none))=es.toList[i]?;rw [Bg,Bq c];rfl
  ·rw [Ay (by rw [Cj];omega),Bg,Cn<|by omega];rfl
end
section
variable{prog:Program}{w:World}{K:Type} [DecidableEq K]
def ent(knd:HeapKind prog w K)(y:Nat×K×Addr):Ze:=(y.1,(knd.hash y.2.1,Value.ref y.2.2))
def sO(knd:HeapKind prog w K):Prop:=∀{A:Around} {E:Value->Shared->Prop} {s:Shared} {k:K} {a:Addr} {Q:Bool->Shared->Prop},knd.is s.heap k a->Q false s->wpAny (model prog w) A (ofAClassStatement 8<|.ref a) Q E s
variable{A:Around}{E:Value->Shared->Prop}{s:Shared}{a b:Addr}{knd:HeapKind prog w K}{k:K}{Y:List (Nat×K×Addr)}
theorem WQ{Q:Bool->Shared->Prop}(U:sO knd)(hb:knd.is s.heap k b)(l:List Value)(hl:∀ v∈l,∃ k' c,v=Value.ref c/\knd.is s.heap k' c)(q:Q false s):wpAny (model prog w) A (searchCouldBeSeen (.ref b) l) Q E s:=by
 unfold searchCouldBeSeen;refine BJ<|QF _ (λrest r s'=>r.1=none/\s'=s/\∀ v∈rest,∃ k' c,v=Value.ref c/\knd.is s.heap k' c) _ ?_ ?_ l _ ⟨rfl,rfl,hl⟩
 ·rintro v rest r s' ⟨hr,rfl,hv⟩;obtain⟨k',c,rfl,hc⟩:=hv v As;have lC:∀ v∈rest,∃ k' c,v=Value.ref c/\knd.is s'.heap k' c:=λv h=>hv v<|Ak _ h
  dsimp only
  split
  ·exact BK ⟨rfl,rfl,lC⟩
  ·refine BJ<|knd.quiet hb ?_;simp only [Dm,Av,CN];refine BJ<|knd.quiet hc ?_;simp only [Dm,Av,CN];refine BJ<|U hb ?_;simp only [Av,CN];refine BJ<|U hc ?_;simp only [Av,CN];exact BK ⟨rfl,rfl,lC⟩
 ·rintro ⟨_,_⟩ s' ⟨rfl,rfl,_⟩;exact BK q
theorem WR{m:Nat}(h:Pow<|m+1):(m % 2 == 0)=false:=by
 rw [beq_eq_false_iff_ne]
 rcases h with h | h | h | h | h | h <;> omega
theorem BO{adding:Bool}{o:Obj}{es:Array (Int×Value)}{ep:Nat}{t:SetTable}{N:Nat}{Q:SetFound->Shared->Prop}(U:sO knd)(hA:knd.room A)(ho:s.heap.get? a=some o)(hd:o.data = .set es ep t)(W:Wf t es<|Y.map<|ent knd)
  (hY:∀ y∈Y,knd.is s.heap y.2.1 y.2.2) (hb:knd.is s.heap k b) (S:Stop t.mask (Y.map<|ent knd) (knd.hash k) N)
  (k0:k∉Y.map (·.2.1)->Q (.free (pr t.mask (knd.hash k) N).j false) s) (k1:∀ oi,k∈Y.map (·.2.1)->(adding=false->oi.isSome=true)->Q (.there oi) s) :
  ∀(fuel m:Nat) (stand:Option Probe),stand.getD (t.probeStart<|knd.hash k)=pr t.mask (knd.hash k) m->m<=N->N - m < fuel->(∀ l,l < m->∀ y∈Y,y.1=(pr t.mask (knd.hash k) l).j->y.2.1≠k) ->
   wpAny (model prog w) A (setSearchFrom a (.ref b) (knd.hash k) adding fuel stand) Q E s
 | 0,m,stand,_,_,hf,_=>absurd hf<|Cg _
 | fuel+1,m,stand,hs,hm,hf,hn=>by
  unfold setSearchFrom;refine BJ<|CK ho hd W.fits ?_
  dsimp only
  rw [hs];have gw:t.gaveWay=false:=WR W.pow;rw [gw];simp only [Av,CN];have hl:=S.lt;have G:=W.go (hashAt:=λi=>(es[i]?.map (·.1)).getD 0) (λi e he=>by show(es[i]?.map (·.1)).getD 0=e.1;rw [he];rfl) S (10 * turns t.mask) m hm<|by omega
  split
  ·rename_i met sP
   rcases G with ⟨m',i,z,a1,a2,a3,a4,a5,a6,a7⟩ | ⟨a1,a2⟩
   ·have e2:=Option.some.inj<|sP.symm.trans a7;subst e2;rw [Ad,Ax] at a3;obtain⟨y,hy,rfl⟩:=a3;have BQ:y∈Y:=Al hy;have hZ:(Y.map<|ent knd)[i]?=some (ent knd y):=by rw [Ad,hy];rfl
    have WT:t.slot (pr t.mask (knd.hash k) m').j = .live i:=by rw [<- a4];exact W.dw hZ
    have Le:es[i]?=some (knd.hash y.2.1,Value.ref y.2.2):=(W.at hZ).2;have WU:t.sameMemory t.moves t.mask=some true:=by unfold sameMemory;rw [BL<|IK _]
    have lD:∀(Q':Bool->Shared->Prop),Q' true s->wpAny (model prog w) A (isSame (.ref y.2.2)<|.ref y.2.2) Q' E s:=λQ' q=>by
     unfold isSame;simp only;rw [BL<|IK _];exact BK q
    have again:y.2.1≠k->wpAny (model prog w) A (setSearchFrom a (.ref b) (knd.hash k) adding fuel<|some<|pr t.mask (knd.hash k)<|m'+1) Q E s:=λne=>
     BO U hA ho hd W hY hb S k0 k1 fuel (m'+1) (some<|pr t.mask (knd.hash k)<|m'+1) rfl (by omega) (by omega) λl gH y' pG BU=>by
      by_cases c:l < m
      ·exact hn l c y' pG BU
      ·by_cases d:l=m'
       ·subst d;have:(ent knd y')=ent knd y:=by
         obtain⟨i',k4⟩:=Bt pG;have BV:(Y.map<|ent knd)[i']?=some (ent knd y'):=by rw [Ad,k4];rfl
         have:=W.inj BV hZ (by show y'.1=(ent knd y).1;rw [a4];exact BU);subst this;rw [hZ] at BV;exact(Option.some.inj BV).symm
        have e3:y'.2.2=y.2.2:=by
         have:=CG (λz:Ze=>z.2.2) this;exact Value.ref.inj this
        have h1:=hY y' pG;rw [e3] at h1;rw [knd.inj h1<|hY y BQ];exact ne
       ·intro ek;refine a6 l (by omega) (by omega) (ent knd y') (Aj.mpr ⟨y',pG,rfl⟩) BU ?_;show knd.hash y'.2.1=knd.hash k;rw [ek]
    dsimp only
    split
    all_goals
     try
      refine BJ<|WQ U hb _ ?hm ?_
      case hm=>
       intro v hv;obtain⟨e,he,rfl⟩:=Aj.mp hv;rw [Array.toList_filter,Dh,W.ents] at he;obtain⟨z,hz,rfl⟩:=Aj.mp he.1;obtain⟨y',pG,rfl⟩:=Aj.mp hz;exact⟨y'.2.1,y'.2.2,rfl,hY y' pG⟩
      simp only [Av,CN]
     rw [Le]
     dsimp only
     refine BJ<|CJ<|knd.eqBool hA (hY y BQ) hb ?_;refine BJ<|CK ho hd W.fits ?_
     dsimp only
     rw [WU,WT]
     dsimp only
     rw [BL (rfl:true=true)]
     dsimp only
     rw [Le]
     dsimp only
     by_cases ek:y.2.1=k
     ·have qI:k∈Y.map (·.2.1):=Aj.mpr ⟨y,BQ,ek⟩;rw [BW ek];cases adding with
      | true=>
       simp only [Bool.and_self,CZ];exact BK<|k1 none qI λz=>nomatch z
      | false=>
       simp only [Bool.false_and,Av,CN,CZ];refine BJ<|lD _ ?_;refine BJ<|BK ?_;simp only [CZ];exact BK<|k1 (some i) qI λ_=>rfl
     ·rw [BR ek];simp only [RG,Av,CN,CZ];refine BJ<|lD _ ?_;refine BJ<|BK ?_;simp only [CZ];exact again ek
   ·have e2:=Option.some.inj<|sP.symm.trans a2;subst e2
    dsimp only
    refine BK<|k0 λhk=>?_;obtain⟨y,hy,ey⟩:=Aj.mp hk;have hz:ent knd y∈Y.map (ent knd):=Aj.mpr ⟨y,hy,rfl⟩;obtain⟨n,e1,e2⟩:=W.Lc _ hz;have eh:(ent knd y).2.1=knd.hash k:=by show knd.hash y.2.1=_;rw [ey]
    rw [eh] at e1 e2;have WV:n < N:=by
     refine DK λc=>?_
     rcases Cc N n with d | d
     ·exact S.out<|e2 N d
     ·have:n=N:=by omega
      subst this;exact S.out<|by rw [e1];exact Aj.mpr ⟨_,hz,rfl⟩
    by_cases c:n < m
    ·exact hn n c y hy e1.symm ey
    ·exact a1 n (by omega) WV _ hz e1.symm eh
  ·rename_i j9
   rcases G with ⟨m',i,z,a1,a2,a3,a4,a5,a6,a7⟩ | ⟨a1,a2⟩
   ·exact absurd a7<|j9 _
   ·exact absurd a2<|j9 _
end
section
variable{prog:Program}{w:World}{K:Type} [DecidableEq K]
def dN(m:Nat):Prop:=m=7\/m=31\/m=127\/m=511
def gN(knd:HeapKind prog w K)(h:Heap)(a:Addr)(Y:List<|Nat×K×Addr):Prop:=
 ∃ o es ep t,h.get? a=some o/\o.ExactSet/\o.data = .set es ep t/\Wf t es (Y.map<|ent knd)/\Y.length * 5 < t.mask * 3/\dN t.mask
def Lf(knd:HeapKind prog w K):Prop:=∀{A:Around} {E:Value->Shared->Prop} {s:Shared} {k:K} {a:Addr} {Q:Bool->Shared->Prop},knd.is s.heap k a->(∀ b,Q b s)->wpAny (model prog w) A (hashByValue 8<|.ref a) Q E s
variable{A:Around}{E:Value->Shared->Prop}{s:Shared}{a b:Addr}{knd:HeapKind prog w K}{k:K}{Y:List (Nat×K×Addr)}
theorem Lg{es:Array (Int×Value)}:byScan (.ref b) es=false:=by
 unfold byScan;rfl
theorem WW{Q:Option Nat->Shared->Prop}(U:sO knd)(hA:knd.room A)(S:gN knd s.heap a Y)(hY:∀ y∈Y,knd.is s.heap y.2.1 y.2.2)(hb:knd.is s.heap k b)
  (k0:k∉Y.map (·.2.1)->Q none s) (k1:∀ i,k∈Y.map (·.2.1)->Q (some i) s):wpAny (model prog w) A (setFind a (.ref b)<|knd.hash k) Q E s:=by
 obtain⟨o,es,ep,t,ho,hx,hd,W,_⟩:=S;obtain⟨N,SN⟩:=W.stop<|knd.hash k;have hl:=SN.lt;have hm:=W.pow.pos.2;unfold setFind setFindIn;refine BJ<|CK ho hd W.fits ?_
 dsimp only
 rw [Lg];simp only [Av,CN];refine BJ ?_;refine BO (adding:=false) U hA ho hd W hY hb SN (λhk=>?_) (λoi hk hs=>?_) 100000 0 none (K6 t _) (Be _) (by unfold turns at hl;omega) λl gH=>absurd gH<|Cg _
 ·exact BK<|k0 hk
 ·cases oi with
  | none=>exact absurd (hs rfl) Ao
  | some i=>exact BK<|k1 i hk
theorem WX{m:Nat}(h:dN m):Pow (m+1):=by
 unfold dN at h;unfold Pow
 rcases h with rfl | rfl | rfl | rfl <;> decide
theorem WY{m n:Nat}(hw:dN m)(h1:(n - 1) * 5 < m * 3)(h2:n * 5>=m * 3)(h0:1<=n)(h3:n<=300):dN (sizeAbove (grown n) - 1)/\n<=sizeAbove (grown n) - 1/\n * 5 < (sizeAbove (grown n) - 1) * 3:=by
 rcases hw with h | h | h | h
 ·have:n=5:=by omega
  subst this;unfold dN;decide +kernel
 ·have:n=19:=by omega
  subst this;unfold dN;decide +kernel
 ·have:n=77:=by omega
  subst this;unfold dN;decide +kernel
 ·omega
theorem Lh{o:Obj}{ep:Nat}{es cH:Array (Int×Value)}{t t':SetTable}{h:Heap}{Y':List (Nat×K×Addr)}(ho:h.get? a=some o)(hx:o.ExactSet)(hd:o.data = .set es ep t)(W':Wf t' cH<|Y'.map<|ent knd) :
  (h.update a<|Obj.putSet cH t').get? a=some {o with data:= .set cH (ep+1) t'}:=by
 have q:=Cf (Obj.putSet cH t') ho (by rw [putSet_of cH t' hd];rfl);rw [putSet_of cH t' hd] at q;exact q
theorem Li{α β:Type}{f:α->β}{L M:List β}(h:L.Perm M):∀{Y':List α},Y'.map f=M->∃ Y2:List α,L=Y2.map f/\Y2.Perm Y':=by
 induction h with
 | nil=>
  intro Y' hM;have:Y'=[]:=by simpa using hM
  subst this;exact⟨[],rfl,.refl _⟩
 | cons x p ih=>
  intro Y' hM;cases Y' with
  | nil=>cases hM
  | cons y r=>
   rw [Bb] at hM
   injection hM with e1 e2
   subst e1;obtain⟨Y2,e3,p2⟩:=ih e2;exact⟨y :: Y2,by rw [e3];rfl,p2.cons y⟩
 | swap x y l=>
  intro Y' hM;cases Y' with
  | nil=>cases hM
  | cons u r=>
   cases r with
   | nil=>cases hM
   | cons v r=>
    rw [Bb,Bb] at hM
    injection hM with e1 e2
    injection e2 with e2 e3
    subst e1 e2 e3;exact⟨v :: u :: r,rfl,.swap _ _ _⟩
 | trans p1 p2 WZ W0=>
  intro Y' hM;obtain⟨Y2,e2,q2⟩:=W0 hM;obtain⟨Y3,e3,q3⟩:=WZ e2.symm;exact⟨Y3,e3,q3.trans q2⟩
theorem glue:∀{Z:List Ze} {Y:List (Nat×K×Addr)},Z.map (·.2)=Y.map (λy=>(ent knd y).2)->∃ Y2:List<|Nat×K×Addr,Z=Y2.map (ent knd)/\Y2.map (·.2)=Y.map (·.2)
 | [],[],_=>⟨[],rfl,rfl⟩
 | [],_ :: _,h=>by cases h
 | _ :: _,[],h=>by cases h
 | z :: Z,y :: Y,h=>by
  rw [Bb,Bb] at h
  injection h with h1 h2
  obtain⟨Y2,e1,e2⟩:=glue h2;refine⟨(z.1,y.2) :: Y2,?_,by rw [Bb,Bb,e2]⟩;rw [Bb,<- e1]
  congr 1
  show z=(z.1,(ent knd y).2);rw [<- h1]
theorem W3{Q:Bool->Shared->Prop}(U:sO knd)(HB:Lf knd)(hA:knd.room A)(S:gN knd s.heap a Y)(hY:∀ y∈Y,knd.is s.heap y.2.1 y.2.2)(hb:knd.is s.heap k b)(hl:Y.length+1<=300)
    (q0:k∈Y.map (·.2.1)->Q false s) (q1:∀ h' Y',k∉Y.map (·.2.1)->Heap.SameBut a s.heap h'->gN knd h' a Y'->(Y'.map (·.2)).Perm ((k,b) :: Y.map (·.2))->Q true {s with heap:=h'}) :
    wpAny (model prog w) A (setAddHashed a (.ref b)<|knd.hash k) Q E s:=by
  obtain⟨o,es,ep,t,ho,hx,hd,W,Lj,hw⟩:=S;obtain⟨N,SN⟩:=W.stop<|knd.hash k;have aK:=SN.lt;have hm:=W.pow.pos;have eZ:(Y.map<|ent knd).length=Y.length:=Aa ..;unfold setAddHashed setAddHashedIn;refine CJ<|BJ<|CK ho hd W.fits ?_
  dsimp only
  rw [Lg];simp only [Av,CN];refine BJ ?_;refine BO (adding:=true) U hA ho hd W hY hb SN (λhk=>?_) (λoi hk hs=>?_) 100000 0 none (K6 t _) (Be _) (by unfold turns at aK;omega) λl gH=>absurd gH<|Cg _
  · dsimp only
    refine BJ<|CK ho hd W.fits ?_
    dsimp only
    have put:=λ(t':SetTable) e1 e2 e3=>W.put (x:= .ref b) SN (t':=t') e1 e2 e3 (by rw [eZ];omega);have fin:∀ t':SetTable,t'.mask=t.mask->t'.place=(t.put (pr t.mask (knd.hash k) N).j).1.place->t'.dummies=#[]->wpAny (model prog w) A (do
        storeSet a (insertAt es (t.put (pr t.mask (knd.hash k) N).j).2 (knd.hash k,.ref b)) t'
        if (!false && t'.tooFull) = true then do
            setRelay a (grown<|es.size+1)
            pure true
          else pure true) Q E s:=λt' e1 e2 e3=>by
      obtain⟨Z',W',pZ⟩:=put t' e1 e2 e3;obtain⟨Y2,W4,Lk⟩:=Li pZ (f:=ent knd) (Y':=((pr t.mask (knd.hash k) N).j,k,b) :: Y) rfl;subst W4;have W5:Y2.length=Y.length+1:=Lk.length_eq;have lE:=W'.len;rw [Aa] at lE;have pk:(Y2.map (·.2)).Perm ((k,b) :: Y.map (·.2)):=Lk.map (·.2);generalize insertAt es (t.put (pr t.mask (knd.hash k) N).j).2 (knd.hash k,.ref b)=cw at W' lE ⊢;refine BJ (JG ho hd ?_<|kN<|by omega);have g1:=Lh (knd:=knd) (Y':=Y2) ho hx hd W';have sb:=CW s.heap a<|Obj.putSet cw t';have lF:t'.fill=Y2.length:=by
        unfold fill;rw [W'.sM,e3,Aa];rfl
      by_cases full:t'.tooFull=true
      · rw [full];simp only [Fo,Bool.and_self,CZ];unfold tooFull at full;rw [DN,lF,e1] at full;obtain⟨w1,w2,w3⟩:=WY (n:=es.size+1) hw (by rw [W.len,eZ];omega) (by rw [W.len,eZ];omega) (by omega) (by rw [W.len,eZ];omega);have en:es.size+1=cw.size:=by rw [lE,W5,W.len,eZ]
        rw [en] at w1 w2 w3 ⊢;have W6:sizeAbove (grown cw.size) - 1+1=sizeAbove (grown cw.size):=by unfold dN at w1;omega
        have pw:=WX w1;rw [W6] at pw;obtain⟨t2,order,Z3,r1,r2,r3,r4,r5⟩:=WM (t:=t') (es:=cw) pw w2;refine BJ ?_;unfold setRelay;refine BJ<|CK g1 rfl W'.fits ?_
        dsimp only
        have B0:¬(sizeAbove (grown cw.size) > sizeLine):=by
          have:=pw.pos.2;rw [FN];omega
        rw [BP B0,r1];refine BJ ?_;show wpAny _ _ (if((order.filterMap (cw[·]?)).size != cw.size)=true then _ else _) _ _ _;rw [BP<|by rw [r2];simp];refine BK ?_;refine JG g1 rfl ?_ (by rw [r2];exact kN<|by omega);refine BK ?_;rw [W'.ents,Bv] at r4;obtain⟨Y4,W7,Ln⟩:=Li r4 (f:=λy=>(ent knd y).2) (Y':=Y2) rfl;obtain⟨Y5,W8,Lq⟩:=glue W7;subst W8;have rY:({o with data:= .set cw (ep+1) t'}:Obj).ExactSet:=hx;have g2:=Lh (knd:=knd) (Y':=Y5) g1 rY rfl r3;have W9:Y5.length=Y2.length:=by
          have:=CG List.length Lq;rw [Aa,Aa,Ln.length_eq] at this;exact this
        refine q1 _ Y5 hk (sb.trans<|CW _ a _) ⟨_,_,_,t2,g2,rY,rfl,r3,by rw [r5,W9,<- lE];exact w3,by rw [r5];exact w1⟩ ?_;rw [Lq];exact(Ln.map (·.2)).trans pk
      · rw [Bool.not_eq_true] at full;rw [full];simp only [RG,Av,CN];refine BK (q1 _ Y2 hk sb ⟨_,cw,ep+1,t',g1,hx,rfl,W',?_,by rw [e1];exact hw⟩ pk);unfold tooFull at full;rw [JF,lF] at full;omega
    have dm:(t.put (pr t.mask (knd.hash k) N).j).1.dummies=#[]:=by
      show(if has t.dummies _=true then _ else t.dummies)=#[];rw [W.BI];rfl
    split
    · refine BJ<|HB hb λbv=>?_;cases bv with
      | true=>exact fin (t.put (pr t.mask (knd.hash k) N).j).1 rfl rfl dm
      | false=>exact fin {(t.put (pr t.mask (knd.hash k) N).j).1 with plain:=false} rfl rfl dm
    · exact BJ<|BK<|fin (t.put (pr t.mask (knd.hash k) N).j).1 rfl rfl dm
  · dsimp only
    exact BK<|q0 hk
end
section
variable{prog:Program}{w:World}{K:Type} [DecidableEq K] {knd:KeyKind prog w K}
theorem Xa{v:Value}(h:carriedByValue v=true):ofAClassStatement 7 v=pure false:=by
 cases v <;> first | rfl | exact absurd h (by decide) | (unfold carriedByValue at h;cases h)
theorem Xb{v:Value}(h:carriedByValue v=true):∃ b,hashByValue 7 v=pure b:=by
 cases v <;> first | exact⟨_,rfl⟩ | exact absurd h (by decide) | (unfold carriedByValue at h;cases h)
theorem Lr:sO (tupleKind knd):=by
 intro A E s k a Q hk q;have hT:=IsTupleKey.typeIs hk;obtain⟨o,items,n,ho,hc,hd,hi⟩:=hk;unfold ofAClassStatement;refine BJ<|JC hT ?_
 dsimp only
 refine BJ<|BK ?_;simp only [Dm,Av,CN];refine BJ<|JD ho hd ?_
 dsimp only
 refine BJ ?_;rw [<- Array.forIn_toList];refine QF _ (λrest r s'=>r.1=none/\s'=s/\∀ v∈rest,carriedByValue v=true) _ ?_ ?_ _ _ ⟨rfl,rfl,hi.byValue⟩
 ·rintro v rest r s' ⟨hr,rfl,fq⟩;rw [Xa<|fq v As];refine BJ<|BK ?_;simp only [Av,CN];exact BK ⟨rfl,rfl,λu hu=>fq u<|Ak _ hu⟩
 ·rintro ⟨r1,r2⟩ s' ⟨hr,rfl,_⟩;simp only at hr;subst hr;exact BK q
theorem Xc:Lf (tupleKind knd):=by
 intro A E s k a Q hk q;have hT:=IsTupleKey.typeIs hk;obtain⟨o,items,n,ho,hc,hd,hi⟩:=hk;unfold hashByValue;refine BJ<|IV hT F.slot_tuple_hash.lookup ?_
 dsimp only
 refine BJ<|JD ho hd ?_;refine BJ ?_;show wpAny _ _ (forIn items _ _) _ _ s;rw [<- Array.forIn_toList];refine QF _ (λrest r s'=>s'=s/\∀ v∈rest,carriedByValue v=true) _ ?_ ?_ _ _ ⟨rfl,hi.byValue⟩
 ·rintro v rest r s' ⟨rfl,fq⟩;obtain⟨b,eb⟩:=Xb<|fq v As;rw [eb];refine BJ<|BK ?_;cases b with
  | true=>
   simp only [Dm,Av,CN];exact BK ⟨rfl,λu hu=>fq u<|Ak _ hu⟩
  | false=>
   simp only [Fo,CZ];exact BK<|by first | exact BK (q _) | trace_state
 ·rintro ⟨r1,r2⟩ s' ⟨rfl,_⟩;cases r1 with
  | none=>exact BK<|q _
  | some r=>exact BK<|q _
end
end bT
namespace L2
open PySem PySem.Spec PyProof.Rows bT Classical
abbrev Yt:=Nat×List Key×Addr
def ia(prog:Program)(w:World)(a:Addr)(Y:List Yt):HO:= .ext λh=>gN (tupleKind<|bz prog w) h a Y
section
variable{prog:Program}{w:World}{A:Around}{E:Value->Shared->Prop}{s:Shared}{a b:Addr}{Y:List Yt}{k:List Key}
theorem Xd{h h':Heap}(S:gN (tupleKind<|bz prog w) h a Y)(q:∀ o,h.get? a=some o->h'.get? a=some o):gN (tupleKind<|bz prog w) h' a Y:=let ⟨o,es,ep,t,h1,h2⟩:=S;⟨o,es,ep,t,q o h1,h2⟩
theorem B1(S:gN (tupleKind<|bz prog w) s.heap a Y):s.TypeIs (.ref a) "set":=let ⟨o,_,_,_,h1,h2,_⟩:=S;⟨o,h1,h2.1⟩
theorem Xe{h:Heap}(e:h.get? a=some (kP w)):gN (tupleKind<|bz prog w) h a []:=
 ⟨_,#[],0,_,e,⟨rfl,rfl,rfl⟩,rfl,⟨rfl,rfl,List.Pairwise.nil,λz hz=>(by cases hz),by show 0<=7;decide,rfl,.inl rfl,λz hz=>(by cases hz)⟩,by show 0 * 5 < 7 * 3;decide,.inl rfl⟩
theorem Xf{Q:Value->Shared->Prop}(hu:A.units+1 < cLine)(S:gN (tupleKind<|bz prog w) s.heap a Y)(hY:∀ y∈Y,(tupleKind<|bz prog w).is s.heap y.2.1 y.2.2)(hb:(tupleKind<|bz prog w).is s.heap k b)
  (h:∀ tk,Q (.bool (decide (k∉Y.map (·.2.1)))) {s with toks:=tk}):wpAny (model prog w) A (compareOp .NotIn (.ref b)<|.ref a) Q E s:=by
 have hT:=B1 S;show wpAny _ _ (do return .bool (!(<- contains (.ref a)<|.ref b))) Q E s;refine BJ ?_;unfold contains
 try with_reducible refine CJ ?_
 refine BJ<|IV hT PySem.F.slot_set_contains.lookup ?_;show wpAny _ _ (if(some (Value.builtin "set.__contains__") == some Value.none)=true then _ else _) _ E s;rw [BP<|by rw [beq_builtin_none];exact Ao];refine BJ<|JM (name:=Str.ofString "__contains__") hT GQ<|DG GQ hT entry_set_contains ?_<|LR _ _;unfold Builtin.«frozenset.__contains__» Builtin.Frozenset.oneOther;simp only [Em,bind_assoc];unfold Builtin.Frozenset.addrOf Builtin.Frozenset.withSetAsKey setContains;refine BJ<|BK ?_
 try dsimp only
 refine BJ<|BK ?_
 try dsimp only
 refine BJ<|wpAny_tryCatch<|CJ ?_;refine BJ<|(tupleKind<|bz prog w).pyHash (k:=k) (FP hu) hb ?_;refine BJ<|WW (s:={s with toks:=s.toks+(tupleKind<|bz prog w).draws k}) Lr (FP hu) S hY hb (λhz=>?_) λj hz=>?_
 ·refine BK ?_;show wpAny _ _ (ret<|Value.bool false) _ _ _;have h:=h<|s.toks+(tupleKind<|bz prog w).draws k;rw [BW hz] at h;exact BK ⟨_,rfl,DR<|BK h⟩
 ·refine BK ?_;show wpAny _ _ (ret<|Value.bool true) _ _ _;have h:=h<|s.toks+(tupleKind<|bz prog w).draws k;rw [BR<|not_not_intro hz] at h;exact BK ⟨_,rfl,DR<|BK h⟩
theorem Xg{Q:Value->Shared->Prop}(hu:A.units+1 < cLine)(S:gN (tupleKind<|bz prog w) s.heap a Y)(hY:∀ y∈Y,(tupleKind<|bz prog w).is s.heap y.2.1 y.2.2)(hb:(tupleKind<|bz prog w).is s.heap k b)(hl:Y.length+1<=300)
  (h:∀ h' tk Y',Heap.SameBut a s.heap h'->gN (tupleKind<|bz prog w) h' a Y'->(Y'.map (·.2)).Perm (if k∈Y.map (·.2.1) then Y.map (·.2) else(k,b) :: Y.map (·.2))->Q .none {s with heap:=h',toks:=tk}) :
  wpAny (model prog w) A (call (.builtin "set.add") [.ref a,.ref b]) Q E s:=by
 have hT:=B1 S;refine DG F.slot_set_add hT F.entry_set_add ?_<|F.args_set_add_2 _ _;unfold Builtin.«set.add» Builtin.Frozenset.oneOther;simp only [Em,bind_assoc];unfold Builtin.Frozenset.addrOf setAdd;refine BJ<|BK ?_
 try dsimp only
 refine BJ<|BK ?_
 try dsimp only
 refine BJ ?_;refine CJ ?_;refine BJ<|(tupleKind<|bz prog w).pyHash (k:=k) (FP hu) hb ?_;refine W3 (s:={s with toks:=s.toks+(tupleKind<|bz prog w).draws k}) Lr Xc (FP hu) S hY hb hl (λhk=>?_) λh' Y' hk sb S' p=>?_
 ·show wpAny _ _ (ret Value.none) _ _ _;exact BK ⟨_,rfl,h s.heap _ Y (Heap.SameBut.refl a s.heap) S<|by rw [BL hk]⟩
 ·show wpAny _ _ (ret Value.none) _ _ _;exact BK ⟨_,rfl,h h' _ Y' sb S'<|by rw [BP hk];exact p⟩
end
section
variable{X:Cx}{σ:St}{H:Hp}{Q:VK}{pins:List (Addr×Obj)}{s:Shared}{a b:Addr}{Y:List Yt}
theorem Lv{h:Heap}(S:gN (tupleKind<|bz X.prog X.w) h a Y):az X.prog X.w H h a (ia X.prog X.w a Y):=by
 refine⟨S,?_,λh1 h2 q k=>Xd q k⟩;obtain⟨o,_,_,_,ho,_⟩:=S;exact⟨o,ho⟩
theorem Inv.nM(I:Inv X pins σ H s)(h:H a=some (ia X.prog X.w a Y)):gN (tupleKind<|bz X.prog X.w) s.heap a Y:=(I.aC a _ h).1
structure bE(prog:Program)(w:World)(H:Hp)(a:Addr)(ks:List<|List Key):Prop where
 ex:∃ Y,H a=some (ia prog w a Y)/\(∀ y∈Y,H y.2.2=some (.tup<|y.2.1.map kV))/\(Y.map (·.2.1)).Perm ks
theorem bE.same{prog:Program}{w:World}{H H':Hp}{ks:List (List Key)}(h:bE prog w H a ks)(s:aj H H'):bE prog w H' a ks:=let ⟨Y,h1,h2,h3⟩:=h.ex;⟨Y,s _ _ h1,λy hy=>s _ _<|h2 y hy,h3⟩
theorem bE.keep{prog:Program}{w:World}{H H':Hp}{ks:List (List Key)}(h:bE prog w H a ks)(k1:H' a=H a)(k2:∀ b xs,H b=some (.tup xs)->H' b=some (.tup xs)):bE prog w H' a ks:=let ⟨Y,h1,h2,h3⟩:=h.ex;⟨Y,by rw [k1];exact h1,λy hy=>k2 _ _<|h2 y hy,h3⟩
theorem bE.ne{prog:Program}{w:World}{H:Hp}{ks:List (List Key)}{o:HO}(h:bE prog w H a ks)(e:H b=some o)(ho:∀ φ,o ≠ .ext φ):b≠a:=λq=>by
 obtain⟨Y,h1,_⟩:=h.ex;rw [q,h1] at e;exact ho _ (Option.some.inj e).symm
theorem bE.some{prog:Program}{w:World}{H:Hp}{ks:List (List Key)}(h:bE prog w H a ks):H a≠none:=λq=>by
 obtain⟨Y,h1,_⟩:=h.ex;rw [q] at h1;cases h1
theorem Xh{p pos:Pos}(hm:X.mg "set" = none)(h:∀ D,H D=none->Q (.ref D) (upd H D<|ia X.prog X.w D []))(hg:Gl X "set":=by rfl):Ev X (.Call (.Name "set" p) [] [] pos) σ H Q:=by
 refine⟨λpins s I=>Call_<|i4 I hg hm RT<|MF<|Kn ?_⟩;exact⟨.ref s.heap.objs.size,_,I.laid (t':=s.toks) (λb o e=>Ae _ e) (Ag _)<|Lv<|Xe<|An _ rfl,rfl,h _ I.fresh⟩
theorem nN{prog:Program}{w:World}{D:Addr}:bE prog w (upd H D<|ia prog w D []) D []:=⟨[],ax,λy hy=>(by cases hy),.refl _⟩
theorem Xi(hu:X.A.units+1 < cLine):cn X (compareOp .NotIn) (λx y H Q=>∃ k b a ks,x = .ref b/\y = .ref a/\H b=some (.tup<|k.map kV)/\bE X.prog X.w H a ks/\Q (.bl<|decide (k∉ks)) H):=by
 intro pins s σ H x y v u Q I rx ry h;obtain⟨k,b,a,ks,rfl,rfl,hb,T,q⟩:=h;obtain⟨Y,h1,h2,h3⟩:=T.ex;cases (show v=Value.ref b from rx);cases (show u=Value.ref a from ry);refine Xf hu (Inv.nM I h1) (λy hy=>jC I.aC<|h2 y hy) (jC I.aC hb) λtk=>⟨.bl<|decide (k∉ks),H,I.tok _,?_,q⟩;show Value.bool _=Value.bool _
 congr 1
 exact decide_eq_decide.mpr<|not_congr h3.mem_iff
theorem Xj{o e:Expr}{ap cp:Pos}(hu:X.A.units+1 < cLine) (h:Ev X o σ H λx H1=>∃ a,x = .ref a/\(∃ ks,bE X.prog X.w H1 a ks)/\Ev X e σ H1 λy H2=>∃ k b ks,y = .ref b/\H2 b=some (.tup<|k.map kV)/\bE X.prog X.w H2 a ks/\ks.length+1<=300 /\
   ∀ oo,bE X.prog X.w (upd H2 a oo) a (if k∈ks then ks else k :: ks)->Q .non (upd H2 a oo))
  (bG:attributeBase o "add" X.env (eval o X.env)=eval o X.env:=by rfl)
  (bY:((backTo cp<|starEach [e] X.env).all (λx=>!x.1) && (backToKw cp<|keywordEach [] X.env).all (λx=>x.1.isSome) && decide ([e].length+([]:List Keyword).length+(if([]:List Keyword).isEmpty then 0 else 1) < 30))=true:=by rfl)
  (hline:(ap.endLine == cp.line)=true:=by rfl) (hs:starEach [e] X.env=(false,eval e X.env) :: starEach [] X.env:=by rfl) (cO:isStar e=false:=by rfl):Ev X (.Call (.Attribute o "add" ap) [e] [] cp) σ H Q:=by
 refine⟨λpins s I=>JK bG bY hline rfl (aE (h.run pins s I) λv s1 ⟨x,H1,I1,r1,a,ex,⟨ks,hA⟩,h2⟩=>?_)⟩;subst ex;cases (show v=Value.ref a from r1);obtain⟨Y0,g1,_⟩:=hA.ex;have S:=Inv.nM I1 g1;refine⟨"set","set.add",RD,PySem.F.slot_set_add,PySem.F.type_set_add,B1 S,λb eb=>?_,?_⟩
 ·cases eb;obtain⟨o,_,_,_,ho,hx,_⟩:=S;exact⟨o,ho,hx.2.1⟩
 have hE:Ea X [e] σ H1 (λys H2=>∃ k b ks,ys=[.ref b]/\H2 b=some (.tup<|k.map kV)/\bE X.prog X.w H2 a ks/\ks.length+1<=300/\∀ oo,bE X.prog X.w (upd H2 a oo) a (if k∈ks then ks else k :: ks)->Q .non (upd H2 a oo)):=
  al (h2.mono λy H2 ⟨k,b,ks,ey,q⟩=>ay ⟨k,b,ks,by rw [ey],q⟩) cO
 have rR:=hE.run cp pins s1 I1;rw [hs] at rR ⊢;refine HJ rfl (HY ?_);refine aE rR λus s2 ⟨vs,H2,I2,r2,k,b,ks,ev,hb,T,hl,q⟩=>?_;subst ev;obtain⟨u,rfl,ru⟩:=vals1 r2;cases (show u=Value.ref b from ru);obtain⟨Y,g1,g2,g3⟩:=T.ex;have hlY:Y.length=ks.length:=by
  have:=g3.length_eq;rw [Aa] at this;exact this
 refine Xg hu (Inv.nM I2 g1) (λy hy=>jC I2.aC<|g2 y hy) (jC I2.aC hb) (by omega) λh' tk Y' sb S' p=>?_;refine⟨.non,_,i6 (t':=tk) I2 (by rw [g1];exact True.intro) sb ?_<|Lv S',rfl,q _ ?_⟩
 ·obtain⟨o,_,_,_,ho,_⟩:=S';exact⟨o,ho⟩
 ·have nt:∀{c:Addr} {xs:List V},H2 c=some (.tup xs)->c≠a:=λe z=>by
   rw [z,g1] at e;cases e
  refine⟨Y',ax,λy hy=>?_,?_⟩
  ·have hm:y.2∈(if k∈Y.map (·.2.1) then Y.map (·.2) else(k,b) :: Y.map (·.2)):=p.mem_iff.mp<|Aj.mpr ⟨y,hy,rfl⟩;have old:y.2∈Y.map (·.2)->(upd H2 a<|ia X.prog X.w a Y') y.2.2=some (.tup<|y.2.1.map kV):=λhm=>by
    obtain⟨z,hz,ez⟩:=Aj.mp hm;rw [<- ez,au<|nt<|g2 z hz];exact g2 z hz
   split at hm
   ·exact old hm
   ·rcases Am.mp hm with e | hm
    ·rw [e,au<|nt hb];exact hb
    ·exact old hm
  ·have p2:=p.map (·.1);rw [Bv] at p2;refine p2.trans ?_
   by_cases c:k∈Y.map (·.2.1)
   ·rw [BL c,BL<|g3.mem_iff.mp c,Bv];exact g3
   ·rw [BP c,BP λz=>c<|g3.mem_iff.mpr z,Bb,Bv];exact g3.cons k
end
end L2
namespace H3
open PySem L2 Nt bt bT
def nO:Sp:=λvs H Q _=>∃(dl t:Addr) (n:Net) (e:Nt.End),vs=[.ref dl,.ref t]/\aU n H dl 1/\(n.map (·.1)).Nodup/\aB n/\(ag n).length<=1000/\e∈ends n/\H t=some (TN n e) /\
 ∀(l:Addr) (ts:List Addr) (H':Hp),aj H H'->H l=none->H' l=some (.lst<|ts.map V.ref)->cK n H' ts (face n e)->Q (.ref l) H'
def B2:Sp:=λvs H Q _=>∃(R:Addr) (as:List<|Addr×Addr) (n:Net),vs=[.ref R]/\ai H R as n/\(n.map (·.1)).Nodup/\aB n/\n.length<=1000/\(ag n).length<=200 /\
 ∀(L:Addr) (ls:List Addr) (H':Hp),aj H H'->H L=none->fD n H' L ls (ca n)->(∀ l∈ls,H l=none)->Q (.ref L) H'
section
variable{P:Program}{w:World}{K:PySem.W.Frag}{mg:Str->Option Value}{base:Heap}
abbrev Xk:List Str:=["steps","first","face","end"]
theorem sQ:ao Xk ["steps","first"] (aV yX):=⟨rfl,rfl,rfl,by decide +kernel,rfl,by decide +kernel,by decide +kernel⟩
theorem Xl{f:Addr}{fd:FuncData}(F:bu K "face_from" "face_from" yX f fd)(T:Txt mg):aD P w K mg base bD 1 f fd ["steps","first"] nO:=by
 refine F.gb sQ (λvs H Q E h=>?_) λb0 H vs Q E hr h=>?_
 ·obtain⟨dl,t,n,e,rfl,_⟩:=h;rfl
 obtain⟨dl,t,n,e,rfl,hL,hN,hT,jm,he,ht,q⟩:=h;have nd:=sQ.nd;have jg:=jO n;have hu:=hr.u1;have un:=hr.dH;obtain⟨k,pk,hk⟩:=K2 hT he;have k0:=pk.pos;have Lw:∀{H':Hp} {c:Nt.End} {u:Addr},aj H H'->c∈ends n->H' u=some (TN n c)->∃ v,bb H' dl (.ref u) (some<|.ref v)/\H' v=some (TN n<|step n c):=λ{H' c u} sm hc Xm=>by
  obtain⟨v,g,e⟩:=(hL.same sm).get hc Xm;rw [<- VS hT hc] at e;exact⟨v,g,e⟩
 show Run _ _ _ [some<|.ref dl,some<|.ref t,none,none] H;refine aO 2 nd<|di<|al<|ae 1<|ay ⟨Z1,λl hl=>?_⟩;have s1:=aN hl<|.lst [.ref t];have el:(upd H l<|.lst [.ref t]) l=some (.lst<|[t].map V.ref):=ax;generalize upd H l (.lst [.ref t])=H1 at s1 el;obtain⟨u1,g1,e1⟩:=Lw s1 he<|s1 _ _ ht;refine aO 3 nd<|fU hu<|ae 0<|ae 1 ⟨dl,.ref u1,rfl,g1,?_⟩;show Run _ _ _ [some<|.ref dl,some<|.ref t,some<|.ref l,some<|.ref u1] H1;refine uW (λm σ H2=>∃(j:Nat) (ts:List Addr) (u:Addr),m=k - j/\0 < j/\j<=k/\aj H H2/\H2 l=some (.lst<|ts.map V.ref)/\cK n H2 ts (fl n e j)/\H2 u=some (TN n<|it (step n) j e)/\σ=[some<|.ref dl,some<|.ref t,some<|.ref l,some<|.ref u])
  (m0:=k - 1) ⟨1,[t],u1,rfl,Fh,k0,s1,el,⟨rfl,λj x c h1 h2=>?_⟩,e1,rfl⟩ ?_
 ·match j with
  | 0=>cases h1;cases h2;exact s1 _ _ ht
  | j+1=>simp at h1
 rintro m σ H2 ⟨j,ts,u,rfl,j0,j1,sH,jn,at2,eu,rfl⟩;have pA:it (step n) j e∈ends n:=g7 (λa ha=>oQ hT ha) he j;refine cB (qU un) (ae 3<|ae 1 ⟨1,_,by decide,Kj eu<|sH _ _ ht,_,rfl,?_⟩);rw [KO hN pA he];have tl:=at2.1;rw [nL] at tl
 by_cases c:it (step n) j e=e
 ·rw [BW c];have jk:j=k:=by
   rcases Cc j k with h | h
   ·exact absurd c<|pk.first j j0 h
   ·omega
  subst jk;refine bH<|bS<|ae 2<|q l ts H2 sH hl jn ?_;unfold face;rw [K1 pk];exact at2
 ·rw [BR c];have jk:j < k:=by
   rcases Cc j k with h | h
   ·exact h
   ·have:j=k:=by omega
    subst this;exact absurd pk.back c
  refine bI (fb<|jL<|ae 2 ⟨l,rfl,⟨_,jn⟩,ae 3 ⟨_,jn,by rw [Aa];exact cf (by omega),?_⟩⟩);have nA:aj H (upd H2 l<|.lst<|ts.map V.ref++[.ref u]):=eF sH hl;have pB:(upd H2 l<|.lst<|ts.map V.ref++[.ref u]) l=some (.lst<|(ts++[u]).map V.ref):=by rw [ax,Ai];rfl
  have kt:∀ b p' j',H2 b=some (Tn p' j')->(upd H2 l<|.lst<|ts.map V.ref++[.ref u]) b=some (Tn p' j'):=λb p' j' h=>by
   rw [au<|bO h jn λz=>nomatch z];exact h
  generalize upd H2 l (.lst<|ts.map V.ref++[.ref u])=H3 at nA pB kt;obtain⟨v2,g4,e4⟩:=Lw nA pA<|kt _ _ _ eu;refine aO 3 nd<|fU hu<|ae 0<|ae 3 ⟨dl,.ref v2,rfl,g4,?_⟩;refine bg ⟨k - (j+1),by omega,j+1,ts++[u],v2,rfl,Dr _,jk,nA,pB,?_,e4,rfl⟩;rw [K3];refine(at2.keep kt).append ⟨rfl,λj x c h1 h2=>?_⟩
  match j with
  | 0=>cases h1;cases h2;exact kt _ _ _ eu
  | j+1=>simp at h1
abbrev Xn:List Str:=["rows","ends","steps","told","faces","first","face","end"]
theorem sR:ao Xn ["rows"] (aV yW):=⟨rfl,rfl,rfl,by decide +kernel,rfl,by decide +kernel,by decide +kernel⟩
structure Told(n:Net)(ks:List<|List Key)(tl:List Nt.End):Prop where
 nC:ks.Nodup
 mem:∀ e∈ends n,key n e∈ks↔e∈tl
 of:∀ k∈ks,∃ e∈ends n,k=key n e
theorem Told.len{n:Net}{ks:List (List Key)}{tl:List Nt.End}(h:Told n ks tl):ks.length<=(ends n).length:=by
 have:=h.nC.length_le_of_subset (l₂:=(ends n).map<|key n) λk hk=>by
  obtain⟨e,he,rfl⟩:=h.of k hk;exact Aj.mpr ⟨e,he,rfl⟩
 rw [Aa] at this;exact this
open Classical in
theorem Told.add{n:Net}(hN:(n.map (·.1)).Nodup){ks:List (List Key)}{tl:List Nt.End}(h:Told n ks tl){e:Nt.End}(he:e∈ends n):Told n (if key n e∈ks then ks else key n e :: ks) (tl++[e]):=by
 have inj:∀{a b:Nt.End},a∈ends n->b∈ends n->key n a=key n b->a=b:=λ{a b} ha hb k=>by
  obtain⟨z1,h1⟩:=af.mp ha;obtain⟨z2,h2⟩:=af.mp hb;exact m9 hN (c7 h1) (c7 h2) k
 by_cases c:key n e∈ks
 ·rw [BL c];refine⟨h.nC,λa ha=>?_,h.of⟩;rw [h.mem a ha,Aq,Ah];exact⟨λk=> .inl k,λk=>by
   rcases k with k | k
   ·exact k
   ·rw [k];exact(h.mem e he).mp c⟩
 ·rw [BP c];refine⟨Bs.mpr ⟨c,h.nC⟩,λa ha=>?_,λk hk=>?_⟩
  ·rw [Am,h.mem a ha,Aq,Ah]
   constructor
   ·rintro (k | k)
    ·exact .inr<|inj ha he k
    ·exact .inl k
   ·rintro (k | k)
    ·exact .inr k
    ·exact .inl<|by rw [k]
  ·rcases Am.mp hk with k1 | k1
   ·exact⟨e,he,k1⟩
   ·exact h.of k k1
open Classical in
theorem Xp{f:Addr}{fd:FuncData}(F:bu K "faces_of" "faces_of" yW f fd)(T:Txt mg)
  (GO:aP P w K mg base 3 "ends_in_order" ["rows"] vZ)
  (GL:aP P w K mg base 3 "left_steps" ["rows"]<|eQ 1)
  (GF:aP P w K mg base 3 "face_from" ["steps","first"] nO) :
  aD P w K mg base bD 4 f fd ["rows"] B2:=by
 refine F.gb sR (λvs H Q E h=>?_) λb0 H vs Q E hr h=>?_
 ·obtain⟨R,as,n,rfl,_⟩:=h;rfl
 obtain⟨R,as,n,rfl,hR,hN,hT,hn,jm,q⟩:=h;have nd:=sR.nd;have jg:=jO n;have hu:=hr.u1;show Run _ _ _ [some<|.ref R,none,none,none,none,none,none,none] H;refine aO 1 nd (bJ GO hr<|al<|ae 0<|ay ⟨R,as,n,rfl,hR,hn,by omega,λU us H1 s1 n1 e1 B3=>?_⟩);have sj:us.length=(ends n).length:=by rw [B3.1];unfold ends;rw [Aa]
 refine eY<|Q6<|Q8<|ae 1 (v:= .ref U) ⟨!(us.map V.ref).isEmpty,Or.inl ⟨_,ak.of e1,rfl⟩,?_⟩;rw [Bool.not_not]
 by_cases hb:ends n=[]
 ·have Xq:us=[]:=Bf.mp (by rw [sj,hb];rfl);subst Xq;refine bI<|bS<|di<|al<|di<|ay ⟨Z0,λl hl=>ay ⟨Z1,λL hL=>?_⟩⟩;have s2:=aN hl<|.lst [];have s3:=aN hL<|.lst [.ref l];refine q L [l] _ ((s1.trans s2).trans s3) ((s1.trans s2).free hL) ?_ λl' gH=>by rw [Ah.mp gH];exact s1.free hl
  unfold ca;rw [BL hb];refine⟨ax,rfl,by simp,λhm=>?_,λj l' w h1 h2=>?_⟩
  ·rw [Ah.mp hm,ax] at hL;cases hL
  ·match j with
   | 0=>cases h1;cases h2;exact⟨[],s3 _ _ ax,rfl,λj t e h=>by simp at h⟩
   | j+1=>simp at h1
 have b6:us.map V.ref≠[]:=λh=>hb (Bf.mp<|by have:=CG List.length h;rw [Aa,sj] at this;exact this);have Xr:(us.map V.ref).isEmpty=false:=by
  cases h:us.map V.ref with
  | nil=>exact absurd h b6
  | cons a r=>rfl
 rw [Xr];refine bH<|bg ?_;refine aO 2 nd (bJ GL hr<|al<|ae 0<|ay ⟨R,as,n,rfl,hR.same s1,hN,hT,hn,by omega,λdl kl H2 s2 n2 e2 v2=>?_⟩);refine aO 3 nd<|Xh T.ra λD hD=>?_;refine aO 4 nd<|di<|ay ⟨Z0,λL hL=>?_⟩;have AX:aU n H2 dl 1:=⟨kl,e2,v2⟩;have lG:=s1.trans s2;have lq:L≠D:=λe=>by rw [e,ax] at hL;cases hL
 have gI:H2 L=none:=by rw [au lq] at hL;exact hL
 have iQ:=hU lG hD;have mW:=hU lG gI;have sB:aj H2 (upd (upd H2 D<|ia P w D []) L<|.lst []):=(aN hD _).trans<|aN hL _;have sS:bE P w (upd (upd H2 D<|ia P w D []) L<|.lst []) D []:=nN.same<|aN hL _;have lw:(upd (upd H2 D<|ia P w D []) L<|.lst []) L=some (.lst []):=ax;have iR:=AX.same sB;have B4:=sB _ _<|s2 _ _ e1;have sU:∀(j:Nat) (t:Addr) (p:Str×Nt.End),us[j]?=some t->(aZ n)[j]?=some p->(upd (upd H2 D<|ia P w D []) L<|.lst []) t=some (TN n p.2):=λj t p h1 h2=>sB _ _<|s2 _ _<|B3.2 j t p h1 h2;show Run _ _ _ [some<|.ref R,some<|.ref U,some<|.ref dl,some<|.ref D,some<|.ref L,none,none,none] (upd (upd H2 D<|ia P w D []) L<|.lst []);generalize upd (upd H2 D<|ia P w D []) L (.lst [])=H5 at sB sS lw iR B4 sU;have si:=lG.trans sB;have A3:U≠L:=a9 (s2 _ _ e1) gI;have Xs:U≠D:=a9 (s2 _ _ e1) hD;have Xt:∀{b p j},H5 b=some (Tn p j)->b≠D:=λh=>sS.ne h λφ z=>nomatch z;refine mq<|ae 1 ⟨U,rfl,⟨_,ak.of B4⟩,?_⟩;refine mr (xs:=us.map V.ref) (λi σ H'=>∃(ks:List<|List Key) (tl:List Nt.End) (ls:List Addr) (ws:List<|List Nt.End) (u1 u2 u3:Option V),(∀ b o,b≠D->b≠L->H5 b=some o->H' b=some o)/\bE P w H' D ks/\Told n ks tl /\
  fD n H' L ls ws/\(∀ l∈ls,H5 l=none)/\ls.length<=i/\gk n (ends n) []=ws++gk n ((ends n).drop i) tl/\σ=[some<|.ref R,some<|.ref U,some<|.ref dl,some<|.ref D,some<|.ref L,u1,u2,u3])
  ⟨[],[],[],[],_,_,_,λb o _ _ h=>h,sS,⟨Bw,λe _=>by simp,λk h=>by simp at h⟩,⟨lw,rfl,Bw,by simp,λj l w h=>by simp at h⟩,λl h=>by simp at h,Ag _,rfl,rfl⟩ ?_ ?_ ?_
 ·rintro i σ H' _ ⟨_,_,_,_,_,_,_,kp,_⟩;exact ak.of<|kp _ _ Xs A3 B4
 ·rintro i x σ H' hx ⟨ks,tl,ls,ws,u1,u2,u3,kp,tD,told,hW,hf,v7,iS,rfl⟩;have hi:i < us.length:=by
   have:=(Ac.mp hx).1;rw [Aa] at this;exact this
  rw [Ad,Ab hi] at hx;cases hx;have pC:i < (aZ n).length:=by have:=B3.1;omega
  have nE:H5 us[i]=some (TN n (aZ n)[i].2):=sU i us[i] (aZ n)[i] (Ab hi)<|Ab pC;have jo:=KS<|Ab pC;generalize (aZ n)[i].2=e at nE jo;have he:e∈ends n:=Al jo;have eR:(ends n).drop i=e :: (ends n).drop (i+1):=by
   have sk:i < (ends n).length:=by omega
   rw [Er sk]
   congr 1
   have:=Ab sk;rw [jo] at this;exact(Option.some.inj this).symm
  have sr:∀{b p j},H5 b=some (Tn p j)->H' b=some (Tn p j):=λ{b p j} h=>kp _ _ (Xt h) (bO h lw λz=>nomatch z) h;have cQ:=sr nE;have cO:aU n H' dl 1:=by
   obtain⟨kvs,a,b⟩:=iR;exact⟨kvs,kp _ _ (sS.ne a λφ z=>nomatch z) (bO a lw λz=>nomatch z) a,λe he=>let ⟨u,p,r⟩:=b e he;⟨u,p,sr r⟩⟩
  refine bo 5 nd ?_;refine eY<|cB (Xi hu)<|ae 5<|ae 3 ⟨key n e,us[i],D,ks,rfl,rfl,cQ,tD,_,rfl,?_⟩;refine gu (λc=>?_) λc=>?_
  ·have hz:key n e∉ks:=CQ c;have j4:e∉tl:=λh=>hz<|(told.mem e he).mpr h;refine aO 6 nd (bJ GF hr<|al<|ae 2<|al<|ae 5<|ay ⟨dl,us[i],n,e,rfl,cO,hN,hT,by omega,he,cQ,λl ts H6 s6 n6 e6 A5=>?_⟩);have lz:=s6 _ _ hW.lst;have Xu:=tD.same s6;have nF:L≠l:=a9 hW.lst n6;have jS:D≠l:=λk=>tD.some (by rw [k];exact n6);refine fb (jL<|ae 4 ⟨L,rfl,⟨_,lz⟩,ae 6 ⟨_,lz,by rw [Aa];exact cf (by omega),?_⟩⟩);have k7:∀ b o,b≠L->H6 b=some o->(upd H6 L<|.lst<|ls.map V.ref++[.ref l]) b=some o:=λb o hb h=>by rw [au hb];exact h
   have su:(upd H6 L<|.lst<|ls.map V.ref++[.ref l]) L=some (.lst<|ls.map V.ref++[.ref l]):=ax;have wt:bE P w (upd H6 L<|.lst<|ls.map V.ref++[.ref l]) D ks:=Xu.keep (by rw [au<|BX lq]) λb xs h=>by rw [au<|bO h lz λz=>nomatch z];exact h
   generalize upd H6 L (.lst<|ls.map V.ref++[.ref l])=H7 at k7 su wt;have sv:∀ t p j,H6 t=some (Tn p j)->H7 t=some (Tn p j):=λt p j h=>k7 _ _ (bO h lz λz=>nomatch z) h;have e7:=k7 _ _ (BX nF) e6;have pD:=A5.keep sv;have sw:l∉ls:=λhm=>by
    obtain⟨j,hj⟩:=Bt hm;have hlen:=hW.len;have sy:j < ws.length:=by have:=(Ac.mp hj).1;omega
    obtain⟨_,a,_⟩:=hW.at' j l ws[j] hj<|Ab sy;rw [n6] at a;cases a
   have sE:fD n H7 L (ls++[l]) (ws++[face n e]):=hW.snoc su (λa ha o ho=>k7 _ _ (λq=>hW.out<|q ▸ ha)<|s6 _ _ ho) (λt p j h=>sv _ _ _<|s6 _ _ h) e7 pD sw nF;have A6:H5 l=none:=by
    cases q5:H5 l with
    | none=>rfl
    | some o=>rw [kp _ _ (BX jS) (BX nF) q5] at n6;cases n6
   have wa:∀ a∈ls++[l],H5 a=none:=λa ha=>by
    rcases Aq.mp ha with ha | ha
    ·exact hf a ha
    ·rw [Ah.mp ha];exact A6
   have mV:∀ b o,b≠D->b≠L->H5 b=some o->H7 b=some o:=λb o h1 h2 h=>k7 _ _ h2<|s6 _ _<|kp b o h1 h2 h;have A7:(ls++[l]).length<=i+1:=by rw [Af];show ls.length+1<=_;omega
   have nG:gk n (ends n) []=(ws++[face n e])++gk n ((ends n).drop<|i+1) (tl++face n e):=by
    rw [iS,eR];show ws++(if e∈tl then _ else _)=_;rw [BP j4,Aw];rfl
   have A8:=wm hT he;have jr:=pD.1;refine mq<|ae 6 ⟨l,rfl,⟨_,ak.of e7⟩,?_⟩;refine mr (xs:=ts.map V.ref) (λm σ H9=>∃(pH:List<|List Key) (u3:Option V),(∀ b o,b≠D->H7 b=some o->H9 b=some o)/\bE P w H9 D pH/\Told n pH (tl++(face n e).take m) /\
    σ=[some<|.ref R,some<|.ref U,some<|.ref dl,some<|.ref D,some<|.ref L,some<|.ref us[i],some<|.ref l,u3]) ⟨ks,_,λb o _ h=>h,wt,by rw [List.take_zero,Bh];exact told,rfl⟩ ?_ ?_ ?_
   ·rintro m σ H9 _ ⟨_,_,k9,_⟩;exact ak.of<|k9 _ _ (BX jS) e7
   ·rintro m x σ H9 hx ⟨pH,u3,k9,wu,eS,rfl⟩;rw [Ad,Ax] at hx;obtain⟨t,Lx,rfl⟩:=hx;have Xv:m < (face n e).length:=by have:=(Ac.mp Lx).1;omega
    have wv:(face n e)[m]?=some (face n e)[m]:=Ab Xv;have hc:=A8 _<|Al wv;have iT:(face n e).take (m+1)=(face n e).take m++[(face n e)[m]]:=by rw [Ce,wv];rfl
    have wx:=pD.2 m t _ Lx wv;generalize (face n e)[m]=c9 at wv hc iT wx;have Xw:t≠D:=λk=>by rw [k] at wx;exact(wt.ne wx λφ z=>nomatch z) rfl
    have Xx:=k9 _ _ Xw wx;have hle:=eS.len;refine bo 7 nd ?_;refine fb (Xj hu<|ae 3 ⟨D,rfl,⟨_,wu⟩,ae 7 ⟨key n c9,t,pH,rfl,Xx,wu,by omega,λoo B5=>bg ⟨_,_,λb o hb h=>by rw [au hb];exact k9 b o hb h,B5,?_,rfl⟩⟩⟩);rw [iT,<- Aw];exact eS.add hN hc
   ·rintro σ H9 ⟨pH,u3,k9,wu,eS,rfl⟩;rw [Aa,jr,Ca] at eS;refine bg<|bg ⟨pH,tl++face n e,ls++[l],ws++[face n e],_,_,_,λb o h1 h2 h=>k9 b o h1<|mV b o h1 h2 h,wu,eS,?_,wa,A7,nG,rfl⟩;have Xy:∀{b o},H7 b=some o->(∀ φ,o≠HO.ext φ)->b≠D:=λh ho=>wt.ne h ho;refine sE.keep ?_ (λa ha o ho=>k9 a o ?_ ho) λt p j h=>k9 _ _ (Xy h λφ z=>nomatch z) h
    ·rw [sE.lst];exact k9 _ _ (BX<|BX lq) sE.lst
    ·intro k;have:=wa a ha;rw [k] at this;exact sS.some this
  ·have hz:key n e∈ks:=DK λh=>c<|BW h;have j4:e∈tl:=(told.mem e he).mp hz;refine bg (bg ⟨ks,tl,ls,ws,_,_,_,kp,tD,told,hW,hf,by omega,?_,rfl⟩);rw [iS,eR];show ws++(if e∈tl then _ else _)=_;rw [BL j4]
 ·rintro σ H' ⟨ks,tl,ls,ws,u1,u2,u3,kp,tD,told,hW,hf,v7,iS,rfl⟩;rw [Aa,sj,List.drop_length] at iS;have js:ca n=ws:=by
   unfold ca;rw [BP hb,iS];exact Bh _
  have sF:aj H H':=λb o h=>kp b o (a9 h iQ) (a9 h mW)<|si _ _ h;refine bS (ae 4<|q L ls H' sF mW (by rw [js];exact hW) λl hl=>?_);exact si.free<|hf l hl
end
end H3
namespace Nt
open PySem L2
def fj(k:Nat):Str:=Str.ofString "f"++Str.ofString (toString (k:Int))
def cF(n:Net)(ws:List<|List End):Net:=ws.zipIdx.map λx=>(fj x.2,x.1.map<|aw n)
noncomputable def av(n:Net):Net:=cF n<|ca n
theorem Xz(n:Net)(ws:List<|List End)(w:List End):cF n (ws++[w])=cF n ws++[(fj ws.length,w.map<|aw n)]:=by
 unfold cF;rw [LQ,Ai];simp
theorem B6(n:Net)(ws:List<|List End):(cF n ws).length=ws.length:=by unfold cF;simp
theorem XA{n:Net}{ws:List (List End)}{i:Nat}{w:List End}(h:ws[i]?=some w):(cF n ws)[i]?=some (fj i,w.map<|aw n):=by
 unfold cF;rw [Ad,List.getElem?_zipIdx,h];simp
theorem XB{k:Nat}(h:k<=1000):((k:Int)).natAbs.log2 < 1920:=by
 have e:((k:Int)).natAbs=k:=by omega
 rw [e];have:k.log2<=k:=Nat.log2_le_self k;omega
theorem XD{k:Nat}(h:k<=1000):(fj k).length<=10:=by
 have e:=PySem.int_text_length_le10 (a:=(k:Int)) (k:=4) (by decide) (by omega);unfold fj;rw [Str.length_append,RV,RV];have:("f" : String).length=1:=rfl;omega
end Nt
namespace L2
open PySem PySem.Spec PyProof.Rows
section
variable{X:Cx}{σ:St}{H:Hp}{Q:VK}
theorem XE{e:Expr}{c:Str}{j:Nat}{p1 p2 pos:Pos} (h:Ev X e σ H λx H1=>∃ i:Int,x = .int i/\i.natAbs.log2 < 1920/\(c++Str.ofString (toString i)).length<=sizeLine/\Q (.str<|c++Str.ofString (toString i)) H1) (hc:c.length<=sizeLine:=by decide) :
  Ev X (.JoinedStr [.Constant (.str c) j p2,.FormattedValue e (-1) none p1] pos) σ H Q:=by
 have e0:∀ w:Str,Str.empty++w=w:=λw=>by
  apply Str.ext';show(#[]:Array Nat)++w.cps=w.cps;simp
 refine⟨λpins s I=>PyProof.Rows.JoinedStr_many<|MJ<|aE ((uP (X:=X) (i:=c) (j:=j) (p:=p2) (σ:=σ) (H:=H) (Q:=λy H2=>y = .str c/\H2=H) ⟨rfl,rfl⟩).run pins _ I) λv2 s2 ⟨y,H2,I2,r2,ey,eh⟩=>?_⟩;subst ey eh;obtain⟨t3,rfl⟩:=r2;refine⟨by rw [e0];exact hc,?_⟩;rw [e0];refine MJ<|PyProof.Rows.FormattedValue_plain<|aE (h.run pins s2 I2) λv s1 ⟨x,H1,I1,rx,i,ex,hd,hz,q⟩=>?_;subst ex;obtain⟨t,rfl⟩:=rx;refine formatField_int_small hd ⟨hz,PyProof.Rows.joinParts_nil ?_ hz⟩;exact⟨.str _,H1,I1.tok _,⟨_,rfl⟩,q⟩
end
section
variable{X:Cx}{elt tg:Expr}{ifs:List Expr}{scope:Scope}{σ:St}{H:Hp}{N':List Str}{A a:Addr}{xs:List V}{after:Hp->Prop}
theorem XG(Pv:Nat->St->Hp->Prop)(h0:Pv 0 σ H)(hl:∀ i σ' H',i<=xs.length->Pv i σ' H'->ak X.K H' a xs)
  (hs : ∀ (i : Nat) x T σ' H', xs[i]? = some x → Pv i σ' H' → H' T = none → qF X N' scope tg (.ref T) σ' (upd H' T<|.tup [.int (i : Int), x]) λσ2 H3 => qG X N' scope ifs σ2 H3 λb H4 =>
   if b=true then qD X N' scope elt σ2 H4 λv H5=>∃ ys,H5 A=some (.lst ys)/\ys.length < sizeLine/\Pv (i+1) σ2 (upd H5 A<|.lst<|ys++[v]) else Pv (i+1) σ2 H4)
  (hd:∀ σ' H',Pv xs.length σ' H'->after H'):jD X N' scope tg ifs elt (wn X.K a) A after σ H:=by
 refine⟨λi m σ' H'=>m=xs.length - i/\i<=xs.length/\Pv i σ' H',⟨_,rfl,Be _,h0⟩,?_⟩;rintro i m σ' H' ⟨rfl,hi,p⟩;have q:=hl i σ' H' hi p
 by_cases aK:i < xs.length
 ·refine .inr ⟨⟨xs,xs[i],q,by simp [aK]⟩,Pv<|i+1,λσ' H' p'=>⟨xs.length - (i+1),by omega,rfl,aK,p'⟩,λv H2 y=>?_⟩;obtain⟨T,x,hT,rfl,rfl,hx⟩:=y;exact hs i x T σ' _ (hx xs q) p hT
 ·have e:i=xs.length:=by omega
  subst e;exact .inl ⟨⟨xs,q,Ag _⟩,hd σ' H' p⟩
end
end L2
namespace H3
open PySem L2 Nt bt
def B7:Sp:=λvs H Q _=>∃(R:Addr) (as:List<|Addr×Addr) (n:Net),vs=[.ref R]/\ai H R as n/\(n.map (·.1)).Nodup/\aB n/\n.length<=1000/\(ag n).length<=200 /\
 ∀(L:Addr) (bs:List<|Addr×Addr) (H':Hp),aj H H'->H L=none->(∀ b∈bs,H b.1=none/\H b.2=none)->ai H' L bs (av n)->L∉bs.map (·.2)->Q (.ref L) H'
section
variable{P:Program}{w:World}{K:PySem.W.Frag}{mg:Str->Option Value}{base:Heap}
abbrev Ly:List Str:=["rows","names"]
abbrev nP:List Str:=["rows","names","number","face"]
abbrev sV:List Str:=["rows","names","number","face","end"]
theorem sW:ao Ly ["rows"] (aV mH):=⟨rfl,rfl,rfl,by decide +kernel,rfl,by decide +kernel,by decide +kernel⟩
theorem Lz:nP.Nodup:=by decide +kernel
theorem XH:sV.Nodup:=by decide +kernel
def XI:Scope:=match fS mH with
 | [_,.Return (some<|.ListComp _ _ sc _) _]=>sc
 | _=>aV mH
def XJ:Scope:=relabel XI<|PyProof.Rows.envOfC "other_net" (aV mH) 0 0 .none
theorem XM{f:Addr}{fd:FuncData}(F:bu K "other_net" "other_net" mH f fd)(T:Txt mg)
  (GN:aP P w K mg base 4 "ties_by_end" ["rows"] iO)
  (GF:aP P w K mg base 4 "faces_of" ["rows"] B2) :
  aD P w K mg base bD 5 f fd ["rows"] B7:=by
 refine F.gb sW (λvs H Q E h=>?_) λb0 H vs Q E hr h=>?_
 ·obtain⟨R,as,n,rfl,_⟩:=h;rfl
 obtain⟨R,as,n,rfl,hR,hN,hT,hn,jm,q⟩:=h;have nd:=sW.nd;have hu:=hr.u1;have jg:=jO n;have XN:=BG n;have LA:=K4 hT;show Run _ _ _ [some<|.ref R,none] H;refine aO 1 nd (bJ GN hr<|al<|ae 0<|ay ⟨R,as,n,rfl,hR,hN,hn,by omega,λd kvs H1 s1 n1 e1 v1=>?_⟩);refine bS<|kL (aV mH) Ly nP 2 (K5 rfl T.enum dS)<|al<|bJ GF hr<|al<|ae 0<|ay ⟨R,as,n,rfl,hR.same s1,hN,hT,hn,jm,λL ls H2 s2 n2 hW fL=>ay ⟨L,rfl,⟨_,ak.of hW.lst⟩,λD hD=>?_⟩⟩;have XO:=hW.len;have LD:av n=cF n (ca n):=rfl;generalize hws:ca n=ws at hW XN LA XO LD;have XQ:=s2 _ _ e1;refine XG (xs:=ls.map V.ref) (λi σ' H'=>∃(bs:List<|Addr×Addr) (v1 v2:Option V),σ'=[some<|.ref R,some<|.ref d]++[v1,v2]/\aj H2 H'/\ai H' D bs (cF n<|ws.take i)/\(∀ b∈bs,H2 b.1=none/\H2 b.2=none)/\D∉bs.map (·.2)) ⟨[],_,_,rfl,aN hD _,⟨rfl,ax,λi a r h=>by simp at h,Bw⟩,λb h=>by simp at h,by simp⟩ ?_ ?_ ?_
 ·rintro i σ' H' _ ⟨_,_,_,_,sm,_⟩;exact ak.of<|sm _ _ hW.lst
 ·rintro i x Tt σ' H' hx ⟨bs,XR,XS,rfl,sm,hB,fB,nB⟩ gK;rw [Ad,Ax] at hx;obtain⟨l,hl,rfl⟩:=hx;have jJ:=(Ac.mp hl).1;have sX:i < ws.length:=by omega
  have hw:ws[i]?=some ws[i]:=Ab sX;have iT:ws.take (i+1)=ws.take i++[ws[i]]:=by rw [Ce,hw];rfl
  obtain⟨ts,el,hE⟩:=hW.at' i l _ hl hw;obtain⟨qo,jq⟩:=LA _<|Al hw;generalize ws[i]=es at hw iT hE qo jq;have aK:=hE.1;have LI:(ws.take i).length=i:=by rw [Bi];omega
  have sT:=aN gK<|.tup [.int (i:Int),.ref l];have lH:=sm.trans sT;intro cl C s₀ H₀ ex;refine jQ rfl (aM.of ax) (bo 2 Lz<|bo 3 Lz ?_);have hB:=hB.same sT;generalize upd H' Tt (.tup [.int (i:Int),.ref l])=H3 at lH hB;intro cl C s₀ H₀ ex;refine d8 ?_;rw [BL rfl];intro cl C s₀ H₀ ex;refine eX<|al<|XE<|ae 2 ⟨(i:Int),rfl,XB (by omega),?_,al<|kL XJ nP sV 1 (gs bw)<|ae 3 ⟨l,rfl,⟨_,ak.of<|lH _ _ el⟩,λD2 jl=>?_⟩⟩
  ·have:=XD (k:=i) (by omega);exact small (show(fj i).length<=100000 by omega)
  refine oW (xs:=ts.map V.ref) (λj σ' H4=>(∃ v,σ'=[some<|.ref R,some<|.ref d,some<|.int (i:Int),some<|.ref l]++[v])/\aj H3 H4/\H4 D2=some (Ls<|(es.take j).map<|aw n)) ⟨⟨none,rfl⟩,aN jl _,ax⟩ ?_ ?_ ?_
  ·rintro j σ' H4 _ ⟨_,ka,_⟩;exact ak.of<|ka _ _<|lH _ _ el
  ·rintro j x σ' H4 hx ⟨⟨v,rfl⟩,ka,wy⟩;rw [Ad,Ax] at hx;obtain⟨t,ht,rfl⟩:=hx;have hj:j < es.length:=by have:=(Ac.mp ht).1;omega
   have he:es[j]?=some es[j]:=Ab hj;have mR:es.take (j+1)=es.take j++[es[j]]:=by rw [Ce,he];rfl
   have gg:=(hE.same<|lH.trans ka).2 j t _ ht he;have jh:=jq _<|Al he;generalize es[j]=e at he mR gg jh;obtain⟨z,hz⟩:=af.mp jh;have B8:bb H4 d (.ref t) (some<|.str<|aw n e):=by rw [du hz,<- v1 e z hz];exact bb.t (k:=key n e) ((lH.trans ka) _ _ XQ) gg
   intro cl C s₀ H₀ ex;refine bo 4 XH ?_;intro cl C s₀ H₀ ex;refine d8 ?_;rw [BL rfl];intro cl C s₀ H₀ ex;refine fU hu<|ae 1<|ae 4 ⟨d,.str<|aw n e,rfl,B8,_,wy,?_,⟨_,rfl⟩,eF ka jl,?_⟩
   ·rw [Aa,Aa,Bi];exact cf<|by omega
   ·rw [ax,mR,Ai];show some (HO.lst<|((es.take j).map<|aw n).map V.str++[V.str<|aw n e])=some (HO.lst<|((es.take j).map (aw n)++[aw n e]).map V.str);rw [Ai];rfl
  ·rintro σ' H4 ⟨_,ka,wy⟩;have fH:es.take (ts.map V.ref).length=es:=Cd (by rw [Aa];omega);rw [fH] at wy;refine ay ⟨Z2,λt ht=>?_⟩;have s5:=aN ht<|.tup [.str<|fj i,.ref D2];have B9:=(hB.same ka).same s5;have hV:=s5 _ _ wy;have XT:(upd H4 t<|.tup [.str<|fj i,.ref D2]) t=some (.tup [.str<|fj i,.ref D2]):=ax;have XU:=(lH.trans ka).trans s5;have t4:H2 t=none:=(lH.trans ka).free ht;have d4:H2 D2=none:=lH.free jl;have nin:D2∉bs.map (·.2):=λhm=>by
    obtain⟨b,hb,eb⟩:=Aj.mp hm;obtain⟨zs,LJ⟩:=hB.lists hb;rw [eb,jl] at LJ;cases LJ
   have LL:D2≠D:=λk=>by
    have:=hB.lst;rw [<- k,jl] at this;cases this
   have more:=B9.more XT hV nin LL;have bl:bs.length=i:=by rw [B9.len,B6,LI]
   refine⟨_,B9.lst,by rw [Aa,bl];exact cf (by omega),bs++[(t,D2)],_,_,rfl,?_,?_,λb hb=>?_,λhm=>?_⟩
   ·exact eF XU hD
   ·rw [iT,Xz,LI];exact more
   ·rcases Aq.mp hb with hb | hb
    ·exact fB b hb
    ·rw [Ah.mp hb];exact⟨t4,d4⟩
   ·rw [Ai,Aq] at hm
    rcases hm with hm | hm
    ·exact nB hm
    ·exact LL (Ah.mp hm).symm
 ·rintro σ' H' ⟨bs,XR,XS,rfl,sm,hB,fB,nB⟩;have fH:ws.take (ls.map V.ref).length=ws:=Cd (by rw [Aa];omega);rw [fH,<- LD] at hB;have lG:=s1.trans s2;exact q D bs H' (lG.trans sm) (lG.free hD) (λb hb=>⟨lG.free (fB b hb).1,lG.free (fB b hb).2⟩) hB nB
end
end H3
namespace Nt
open PySem L2
def wz(n:Net)(r:Nat):Str:=((n[r]?).map (·.1)).getD ⟨#[]⟩
theorem B'{n:Net}{r:Nat}(h:r < n.length):wz n r=n[r].1:=by unfold wz;rw [Ab h];rfl
open PyProof.Rows (sortedS)
theorem XW{X:Cx}{H:Hp}{k:Nat}(y z:Str):kR X H k (.str y) (.str z) (decide (y=z)):=by
 have:=qS (X:=X) (H:=H) (k:=k) (x:= .str y) (y:= .str z) rfl rfl;have e:b8 (.str y) (.str z)=decide (y=z):=by
  show(y == z)=_;rw [Cz,FW];simp
 rw [e] at this;exact this
theorem XX(ys zs:List Str)(h:ys.length=zs.length):(List.range ys.length).all (λj=>decide (ys[j]?=zs[j]?))=decide (ys=zs):=by
 rw [Cz,Dy,FW]
 constructor
 ·intro q;refine Ck λj=>?_
  by_cases hj:j < ys.length
  ·exact CQ<|q j<|Bc.mpr hj
  ·rw [Ay (by omega),Ay<|by omega]
 ·rintro rfl j _;exact BW rfl
theorem LN{X:Cx}{H:Hp}{a b:Addr}{ys zs:List Str}(ha:H a=some (Ls ys))(hb:H b=some (Ls zs)):mD X H 1 (.ref a) (.ref b) (decide (ys=zs)):=by
 by_cases hl:ys.length=zs.length
 ·have q:=SE (X:=X) (k:=0) (λj=>decide (ys[j]?=zs[j]?)) (ak.of (K:=X.K) ha) (ak.of (K:=X.K) hb) (by rw [Aa,Aa,hl]) λj x y hx hy=>by
   rw [Ad,Ax] at hx hy;obtain⟨u,hu,rfl⟩:=hx;obtain⟨v,hv,rfl⟩:=hy;have:=XW (X:=X) (H:=H) (k:=0) u v;have e:decide (ys[j]?=zs[j]?)=decide (u=v):=by
    rw [hu,hv,Cz,FW,FW];exact⟨Option.some.inj,λh=>by rw [h]⟩
   rw [e];exact this
  rw [Aa,XX ys zs hl] at q;exact q
 ·have e:decide (ys=zs)=false:=BR λq=>hl (by rw [q]);rw [e];exact Im (ak.of ha) (ak.of hb)<|by rw [Aa,Aa];exact hl
end Nt
namespace L2
open PySem PySem.Spec PyProof.Rows
section
variable{X:Cx}{σ:St}{H:Hp}
end
structure Xo(h:Heap)(e T:Addr)(C fl:Value):Prop where
 ex:∃ oe vs,h.get? e=some oe/\oe.cls=C/\oe.dict=none/\oe.data = .fields vs/\vs[1]?=some (.ref T)/\vs[2]?=some .none
 ne:T≠e
 tr:∃ oT ts,h.get? T=some oT/\oT.data = .fields ts/\ts[3]?=some fl
structure Kp(fs bad:List Addr)(h h':Heap):Prop where
 keep:∀ b o,h.get? b=some o->b∉fs->b∉bad->h'.get? b=some o
 slot:∀ b o,h.get? b=some o->b∈fs->∃ sl,h'.get? b=some {o with slots:=sl}
theorem XY(o:Obj)(f:Array Value->Array Value):(o.mapFields f).dict=o.dict:=by
 obtain⟨c,d,dt,sl⟩:=o;cases dt <;> rfl
section
variable{M:Model}{A:Around}{E:Value->Shared->Prop}{s:Shared}
theorem LO{base:Heap}{env:Env}{outer:List Env}{L e:Addr}{oe:Obj}{vs:Array Value}{head:Value}{nx:Bool}{Q:Unit->Shared->Prop}(gZ:A.frames=some (env :: outer))(hl:s.heap.FunFrames base<|env :: outer)(hf:env.frame=some L)
  (he:s.heap.get? e=some oe) (hd:oe.data = .fields vs) (sY:oe.dict=none) (h1:1 < vs.size) (h2:vs[2]?=some .none)
  (h:∀ h' T,s.heap.get? T=none->Xo h' e T oe.cls .none->Kp (df<|env :: outer) [e] s.heap h'->Q () {s with heap:=h'}) :
  wpAny M A (do let a <- frameOf env;let pl <- entryPlaceOf L nx;let b <- EntryCells.newEntry head a .none (rawInt L) .none pl;setField (.ref e) 1 b) (λ_ s'=>wpAny M A (setFlight (.ref e) none) Q E s') E s:=by
 have LU:e∉df (env :: outer):=λhm=>by
  obtain⟨_,o,ho,hn⟩:=hl.mem hm;rw [he] at ho;cases ho;exact hn vs hd
 refine BJ<|wpAny_frameOf_fun gZ hl hf λha sa=>?_;refine BJ<|wpAny_entryPlaceOf λpl ip=>?_;unfold EntryCells.newEntry newFields;refine BJ<|CT ?_<|ip.sizeOk5 _ _ _ _ _;generalize hT:({cls:= .type "traceback",dict:=none,data:= .fields ([head,.ref L,.none,rawInt L,.none]++(if pl.isEmpty then List.replicate 6 Value.none else pl)).toArray}:Obj)=oT;have ea:ha.get? e=some oe:=(sa.2.1 e LU).trans he;have eb:(ha.push oT).get? e=some oe:=Ae _ ea;have tb:(ha.push oT).get? ha.objs.size=some oT:=An ha (by rw [<- hT];rfl);have CA:ha.objs.size≠e:=Cq<|Ar ea;refine DP eb hd h1 ?_;have dc:=MK hd (·.setIfInBounds 1 (Value.ref ha.objs.size));have ec:=Cf (Obj.mapFields (·.setIfInBounds 1 (Value.ref ha.objs.size))) eb<|JW dc;have tc:((ha.push oT).update e (Obj.mapFields (·.setIfInBounds 1 (Value.ref ha.objs.size)))).get? ha.objs.size=some oT:=(Bx _ _<|BX CA).trans tb;unfold setFlight;refine BJ (HX ec dc (x:= .ref ha.objs.size) (by simp [h1]) ?_);rw [BL (show(Value.ref ha.objs.size != Value.none)=true from by simp)];have dT:oT.data = .fields ([head,.ref L,.none,rawInt L,.none]++(if pl.isEmpty then List.replicate 6 Value.none else pl)).toArray:=by rw [<- hT]
 have sz:3 < ([head,.ref L,.none,rawInt L,.none]++(if pl.isEmpty then List.replicate 6 Value.none else pl)).toArray.size:=by
  simp only [Ap,Af,Bj,Fa];omega
 refine DP tc dT sz<|h _ ha.objs.size (by
  cases hq:s.heap.get? ha.objs.size with
  | none=>rfl
  | some o=>
   obtain⟨sl,z⟩:=sa.2.2 _ o hq;exact absurd (Ar z)<|Ch _) ?_ ?_
 ·have dd:=MK dT (·.setIfInBounds 3 ((none:Option Addr).elim Value.none λf=>rawInt f));refine⟨⟨_,_,(Bx _ _ CA).trans ec,Obj.cls_mapFields _ _,by rw [XY];exact sY,dc,by simp [h1],by rw [Array.getElem?_setIfInBounds_ne<|by decide];exact h2⟩,CA,⟨_,_,Cf _ tc<|JW dd,dd,?_⟩⟩;rw [Array.getElem?_setIfInBounds_self_of_lt sz];rfl
 ·have kp:∀ b o,b≠e->ha.get? b=some o->(((ha.push oT).update e (Obj.mapFields (·.setIfInBounds 1 (Value.ref ha.objs.size)))).update ha.objs.size (Obj.mapFields (·.setIfInBounds 3 ((none:Option Addr).elim Value.none λf=>rawInt f)))).get? b=some o:=λb o hb q=>by
   rw [Bx _ _<|Cq<|Ar q,Bx _ _<|BX hb];exact Ae _ q
  refine⟨λb o q nf nb=>kp b o (λz=>nb<|by simp [z])<|(sa.2.1 b nf).trans q,λb o q hb=>?_⟩;obtain⟨sl,z⟩:=sa.2.2 b o q;exact⟨sl,kp b _ (λy=>LU<|y ▸ hb) z⟩
theorem XZ{base:Heap}{env:Env}{outer:List Env}{L e:Addr}{oe:Obj}{vs:Array Value}{Q:Unit->Shared->Prop}(gZ:A.frames=some (env :: outer))(hl:s.heap.FunFrames base<|env :: outer)(hf:env.frame=some L)
  (he:s.heap.get? e=some oe) (hd:oe.data = .fields vs) (sY:oe.dict=none) (h1:vs[1]?=some .none) (h2:vs[2]?=some .none)
  (h:∀ h' T,s.heap.get? T=none->Xo h' e T oe.cls .none->Kp (df<|env :: outer) [e] s.heap h'->Q () {s with heap:=h'}) :
  wpAny M A (noteFrame (.ref e) env) (λ_ s'=>wpAny M A (setFlight (.ref e) none) Q E s') E s:=by
 unfold noteFrame;simp only [hf];refine BJ<|HX he hd h1 ?_;rw [BP<|by decide];exact LO gZ hl hf he hd sY (Ek.mp h1).1 h2 h
theorem X0{base:Heap}{env:Env}{outer:List Env}{L e T:Addr}{C:Value}{Q:Unit->Shared->Prop}(gZ:A.frames=some (env :: outer))(hl:s.heap.FunFrames base<|env :: outer)(hf:env.frame=some L)(x:Xo s.heap e T C .none)
  (h:∀ h' T',s.heap.get? T'=none->Xo h' e T' C .none->Kp (df<|env :: outer) [e,T] s.heap h'->Q () {s with heap:=h'}) :
  wpAny M A (noteFrame (.ref e) env) (λ_ s'=>wpAny M A (setFlight (.ref e) none) Q E s') E s:=by
 obtain⟨⟨oe,vs,he,hc,sY,hd,h1,h2⟩,b6,⟨oT,ts,hT,dT,h3⟩⟩:=x;subst hc;unfold noteFrame;simp only [hf];refine BJ<|HX he hd h1 ?_;rw [BL (show(Value.ref T != Value.none)=true from by simp)];refine BJ<|HX hT dT h3 ?_;rw [BP (show ¬((Value.none == rawInt L)=true) from by simp [rawInt])];refine BJ<|DP hT dT (Ek.mp h3).1 ?_;have nT:∀ b,b≠T->(s.heap.update T (Obj.mapFields (·.setIfInBounds 3 Value.none))).get? b=s.heap.get? b:=λb hb=>Bx _ _<|BX hb;have LV:∀ b o,s.heap.get? b=some o->(∀ vs,o.data ≠ .fields vs)->b≠T:=λb o q hn z=>by
  rw [z,hT] at q;cases q;exact hn ts dT
 have nf:T∉df (env :: outer):=λhm=>by
  obtain⟨_,o,ho,hn⟩:=hl.mem hm;exact LV T o ho hn rfl
 refine LO gZ (hl.of_keeps λb o q hn=>⟨o,(nT b<|LV b o q hn).trans q,rfl⟩) hf ((nT e<|BX b6).trans he) hd sY (Ek.mp h1).1 h2 λh' T' z x k=>h h' T' ?_ x ⟨λb o q n1 n2=>?_,λb o q hb=>?_⟩
 ·cases hq:s.heap.get? T' with
  | none=>rfl
  | some o=>
   by_cases y:T'=T
   ·have:=Cf (Obj.mapFields (·.setIfInBounds 3 Value.none)) hT<|JW<|MK dT _;rw [y] at z;exact absurd (this.symm.trans z)<|by simp
   ·have:=(nT T' y).trans hq;exact absurd (this.symm.trans z)<|by simp
 ·have n3:b≠T:=λy=>n2 (by simp [y]);exact k.keep b o ((nT b n3).trans q) n1 λy=>n2<|by simp at y;simp [y]
 ·exact k.slot b o ((nT b λy=>nf<|y ▸ hb).trans q) hb
end
theorem CB{fs f2 bad:List Addr}{H H':Hp}{h h1 h2:Heap}(u:Un fs [] H H' h h1)(k:Kp f2 bad h1 h2)(hf:∀ b o,h.get? b=some o->b∈f2->b∈fs)(hb:∀ b∈bad,h.get? b=none):Un fs [] H H' h h2:=by
 have nb:∀ b o,h.get? b=some o->b∉bad:=λb o q z=>by rw [hb b z] at q;cases q
 refine⟨λb o q n nf _=>k.keep b o (u.keep b o q n nf<|by simp) (λz=>nf<|hf b o q z)<|nb b o q,λb o q n hm _=>?_,u.free,λb o q _=>?_,u.dB,u.de,u.dC⟩
 ·obtain⟨sl,z⟩:=u.slot b o q n hm<|by simp
  by_cases y:b∈f2
  ·obtain⟨uo,z'⟩:=k.slot b _ z y;exact⟨uo,z'⟩
  ·exact⟨sl,k.keep b _ z y<|nb b o q⟩
 ·obtain⟨o',z⟩:=u.there b o q<|by simp
  by_cases y:b∈f2
  ·obtain⟨uo,z'⟩:=k.slot b _ z y;exact⟨_,z'⟩
  ·exact⟨o',k.keep b _ z y<|nb b o q⟩
theorem LW{P:Program}{w:World}{f2 bad:List Addr}{H:Hp}{h1 h2:Heap}(x:bQ P w H h1)(k:Kp f2 bad h1 h2)(hf:∀ b∈f2,H b=none)(hb:∀ b∈bad,H b=none):bQ P w H h2:=λa o e=>by
 refine(x a o e).fk (λb u hh q=>k.keep b u q (λz=>?_) λz=>?_) (λ_ q=>q) λ_ _ q=>q
 ·have:=hf b z
  rcases hh with y | y
  ·rw [y,e] at this;cases this
  ·rw [y] at this;cases this
 ·have:=hb b z
  rcases hh with y | y
  ·rw [y,e] at this;cases this
  ·rw [y] at this;cases this
theorem X1{P:Program}{w:World}{H:Hp}{h:Heap}{a:Addr}{o:HO}(x:az P w H h a o):∃ u,h.get? a=some u:=by
 cases o with
 | lst xs=>obtain⟨_,_,_,_,q⟩:=x;exact⟨_,q⟩
 | tup xs=>obtain⟨_,_,_,u,q,_⟩:=x;exact⟨_,q⟩
 | dK kvs=>obtain⟨_,_,_,_,u,_,_,q,_⟩:=x;exact⟨_,q⟩
 | dT kvs=>obtain⟨_,_,_,_,u,_,_,q,_⟩:=x;exact⟨_,q⟩
 | set S n=>obtain⟨u,_,_,_,q,_⟩:=x;exact⟨_,q⟩
 | ins C dx fs=>obtain⟨_,_,_,q,_⟩:=x;exact⟨_,q⟩
 | own y=>exact x
 | xd fs=>obtain⟨_,⟨_,_,_,q,_⟩,_⟩:=x;exact⟨_,q⟩
 | uj lo hi=>obtain⟨_,_,_,q⟩:=x;exact⟨_,q⟩
 | bN ob u=>obtain⟨q,_⟩:=x;exact⟨_,q⟩
 | kg ps=>exact⟨_,x⟩
 | met f y=>exact⟨_,x⟩
 | ext φ=>obtain⟨_,q,_⟩:=x;exact q
def XF(P:Program)(w:World):eU:=λouter H s E e s'=>∃(ea T:Addr) (C:Value) (H':Hp),e = .ref ea/\E C none H'/\s'.os=s.os/\AllBare s'.gens/\Un (df outer) [] H H' s.heap s'.heap/\bQ P w H' s'.heap/\Xo s'.heap ea T C .none /\
 s.heap.get? ea=none/\s.heap.get? T=none/\H' ea=none/\H' T=none
section
variable{P:Program}{w:World}{K:PySem.W.Frag}{mg:Str->Option Value}{base:Heap}{N:List Str}{qual:Str}{scope:Scope}{f:Addr}{cd:Value}{A:Around}{outer:List Env}{s:Shared}{H:Hp}{E:XK}
theorem LX:df (envOfC qual scope s.heap.objs.size f cd :: outer)=s.heap.objs.size :: df outer:=rfl
theorem sZ{b:Addr}{fs ex:List Addr}{Ha Hb:Hp}{h h1:Heap}(u:Un fs ex Ha Hb h h1)(hx:b∉ex)(n:h1.get? b=none):h.get? b=none:=by
 cases q:h.get? b with
 | none=>rfl
 | some o=>obtain⟨o',z⟩:=u.there b o q hx;rw [n] at z;cases z
theorem CD{P:Program}{w:World}{Ha:Hp}{h1:Heap}{b:Addr}(x:bQ P w Ha h1)(n:h1.get? b=none):Ha b=none:=by
 cases q:Ha b with
 | none=>rfl
 | some o=>
  exfalso
  obtain⟨u,z⟩:=X1<|x b o q;rw [n] at z;cases z
theorem X2{pins:List (Addr×Obj)}{σ:St}{H1:Hp}{s1:Shared}{e T:Addr}{C:Value}(I:Inv (cD (XF P w) P w K mg base N qual scope f cd A outer s H E) pins σ H1 s1)(x:Xo s1.heap e T C .none)(hE:E C none H1)
  (n1:s.heap.get? e=none) (n2:s.heap.get? T=none) (n3:H1 e=none) (n4:H1 T=none):(cD (XF P w) P w K mg base N qual scope f cd A outer s H E).xe (.ref e) s1:=by
 show wpAny (model P w) (A.deeper<|envOfC qual scope s.heap.objs.size f cd) (leaving (envOfC qual scope s.heap.objs.size f cd)<|.ref e) _ _ s1;unfold leaving;refine BJ<|X0 (base:=base) (outer:=outer) I.ok.frames I.stack rfl x λh' T' z x' k=>?_;refine⟨e,T',C,H1,rfl,hE,I.os,I.bare,CB (H:=H) (h:=s.heap) I.base k (λb o q hb=>?_) λb hb=>?_,LW I.aC k (λb hb=>I.cN b hb) λb hb=>?_,x',n1,sZ (ex:=[]) (Hb:=H1) I.base (by simp) z,n3,CD I.aC z⟩
 ·rw [LX] at hb
  rcases Am.mp hb with y | y
  ·exact absurd (Ar q)<|by rw [y];exact Ch _
  ·exact y
 ·rcases Am.mp hb with y | y
  ·rw [y];exact n1
  ·rw [Ah.mp y];exact n2
 ·rcases Am.mp hb with y | y
  ·rw [y];exact n3
  ·rw [Ah.mp y];exact n4
theorem X3:jx (XF P w) (cD (XF P w) P w K mg base N qual scope f cd A outer s H E) E:=by
 rintro pins σ H1 s1 e s2 I ⟨ea,T,C,H',rfl,hE,os,bare,un,aC,x,n1,n2,n3,n4⟩;have I2:=I.call' (ch:=[]) os un aC bare (λb z=>absurd z<|by simp);exact X2 I2 x hE (sZ (ex:=[]) (Hb:=H1) I.base (by simp) n1) (sZ (ex:=[]) (Hb:=H1) I.base (by simp) n2) n3 n4
end
abbrev kc:List Value:=[.type "ValueError",.type "Exception",.type "BaseException",.type "object"]
def XC(K:PySem.W.Frag)(C:Addr):Prop:=PySem.W.excIn K C kc "ValueError.__new__" = true
theorem XC.obj{K:PySem.W.Frag}{h:Heap}{C:Addr}(q:XC K C)(X:K.In h):∃ bm N nm qn bs hdct sn sub ab col dd k0 k1 k2 k3 k5 mN,h.get? C=some (excClassObj nm qn C N bs bm hdct sn sub ab col dd k0 k1 k2 k3 k5 "ValueError.__new__")/\h.Ns N mN/\mN "__init__" = none/\OwnTail h kc bm:=by
 unfold XC PySem.W.excIn at q
 split at q
 ·rename_i dd cd sl ho
  split at q
  ·rename_i D bm k0 k1 k2 k3 n k5 hm hs;simp only [Br,OJ,Bool.not_eq_true'] at q;obtain⟨⟨⟨⟨⟨eD,en⟩,tf⟩,ht⟩,aC⟩,rZ⟩:=q;obtain⟨nm,bs,mro,ns,qn,hd,sn,sub,ab,col,del⟩:=cd
   dsimp only at hm tf aC rZ
   subst eD en hm tf;have X4:sl=#[k0,k1,k2,k3,some<|.builtin "ValueError.__new__",k5]:=by
    cases sl;simp only at hs;rw [hs]
   subst X4;exact⟨bm,ns,nm,qn,bs,hd,sn,sub,ab,col,dd,k0,k1,k2,k3,k5,_,X _ _ ho,.of_isNs<|PySem.W.isNs_of_in X aC,PySem.W.nsMap_none_of_in X aC rZ,PySem.W.tail_of_in X ht⟩
  ·cases q
 ·cases q
section
variable{X:Cx}{σ:St}{H:Hp}{D:Ends}{rest:List Stmt}
def Rz(X:Cx)(E:St->XK):Prop:=∀(pins:List<|Addr×Obj) (σ:St) (H:Hp) (s:Shared) (h':Heap) (e C:Addr) (args:List Value),Inv X pins σ H s->Heap.MadeExcOf s.heap h' e (.ref C) args->E σ (.ref C) none H->X.xe (.ref e) {s with heap:=h'}
theorem X5{E:St->XK}(hz:Rz X E){x:Str}{C:Addr}{a:Expr}{np cp pos:Pos}(hm:X.mg x=some (.ref C))(hC:XC X.K C)(hc:X.calm=true)(h:Ea X [a] σ H λvs H1=>vs.length<=sizeLine/\E σ (.ref C) none H1)(hg:Gl X x:=by rfl)(cT:(x == ("__debug__" : Str))=false:=by decide)
  (he:starEach [a] X.env=(false,eval a X.env) :: starEach [] X.env:=by rfl):Run X (.Raise (some<|.Call (.Name x np) [a] [] cp) none pos :: rest) D σ H:=by
 refine i8 (t:=λD σ H=>Ea X [a] σ H λvs H1=>vs.length<=sizeLine/\E σ (.ref C) none H1) ?_ h;intro pins s σ H D I h;obtain⟨bm,N,nm,qn,bs,hdct,sn,sub,ab,col,dd,k0,k1,k2,k3,k5,mN,oC,oN,oi,oT⟩:=hC.obj I.ok.mod.og;refine wpAny_Raise_call_subT (C:=C) (nm:=nm) (q:=qn) (N:=N) (bs:=bs) (bm:=bm) (hdct:=hdct) (sn:=sn) (sub:=sub) (ab:=ab) (col:=col) (dd:=dd) (k0:=k0) (k1:=k1) (k2:=k2) (k3:=k3) (k5:=k5) PySem.F.excBase_ValueError (mN:=mN) (oT.hasType PySem.F.excBase_ValueError.hasBase) (I.ok.hd hc) (by rw [he];rfl) oi<|FG I hg hm ⟨rfl,?_⟩ cT;have q:=h.run cp pins s I;rw [he] at q ⊢;refine HY<|aE q λus s2 ⟨vs,H2,I2,r,z2,q2⟩=>⟨rfl,by rw [<- r.length];exact z2,I2.bk _ _ oC,oN.keeps I2.bk,oT.keeps I2.bk,λh' e hx=>hz pins σ H2 s2 h' e C us I2 hx q2⟩
end
section
variable{P:Program}{w:World}{K:PySem.W.Frag}{mg:Str->Option Value}{base:Heap}{N:List Str}{qual:Str}{scope:Scope}{f:Addr}{cd:Value}{A:Around}{outer:List Env}{s:Shared}{H:Hp}{E:XK}
theorem X6{h h':Heap}(k:∀ b o,h.get? b=some o->h'.get? b=some o):Kp [] [] h h':=⟨λb o q _ _=>k b o q,λb o q z=>absurd z<|by simp⟩
theorem X7:Rz (cD (XF P w) P w K mg base N qual scope f cd A outer s H E) (λ_=>E):=by
 intro pins σ H1 s1 h' e C args I hx hE;obtain⟨t,he,_,_⟩:=hx.there;show wpAny (model P w) (A.deeper<|envOfC qual scope s.heap.objs.size f cd) (leaving (envOfC qual scope s.heap.objs.size f cd)<|.ref e) _ _ _;unfold leaving;have n0:H1 e=none:=CD I.aC hx.new;have k1:=X6 hx.keeps;refine BJ<|XZ (s:={s1 with heap:=h'}) (base:=base) (outer:=outer) I.ok.frames (I.stack.of_keeps λb o q _=>⟨o,hx.keeps b o q,rfl⟩) rfl he rfl rfl rfl rfl λh2 T z x k=>?_;have CF:bQ P w H1 h':=I.aC.kept hx.keeps;have X8:Un (df outer) [] H H1 s.heap h':=CB (H:=H) (h:=s.heap) I.base k1 (λb o q hb=>absurd hb<|by simp) λb hb=>absurd hb (by simp);have nT:s1.heap.get? T=none:=by
  cases q:s1.heap.get? T with
  | none=>rfl
  | some o=>have:=hx.keeps _ _ q;exact absurd (this.symm.trans z)<|by simp
 have ns:s.heap.get? e=none:=sZ (ex:=[]) (Hb:=H1) I.base (by simp) hx.new;refine⟨e,T,.ref C,H1,rfl,hE,I.os,I.bare,CB X8 k (λb o q hb=>?_) λb hb=>?_,LW CF k (λb hb=>I.cN b hb) λb hb=>?_,x,ns,sZ (ex:=[]) (Hb:=H1) I.base (by simp) nT,n0,CD I.aC nT⟩
 ·rw [LX] at hb
  rcases Am.mp hb with y | y
  ·exact absurd (Ar q)<|by rw [y];exact Ch _
  ·exact y
 ·rw [Ah.mp hb];exact ns
 ·rw [Ah.mp hb];exact n0
def CH(N:List Str)(qual:Str)(scope:Scope)(P:Program)(w:World)(K:PySem.W.Frag)(mg:Str->Option Value)(base:Heap)(b:oG):Cx:=cD (XF P w) P w K mg base N qual scope b.f b.bn b.A b.outer b.s b.H b.E
theorem bu.gx{x:Str}{st:Stmt}{fd:FuncData}{ps:List Str}{k:Nat}{sp:Sp}(F:bu K x qual st f fd)(S:ao N ps<|aV st)(len:∀ vs H Q E,sp vs H Q E->vs.length=ps.length)
  (cq:∀(b:oG) (H:Hp) (vs:List V) (Q:VK),bf k (b.A.deeper<|envOfC qual (aV st) b.s.heap.objs.size b.f b.bn)->sp vs H Q b.E->Run (CH N qual (aV st) P w K mg base b) (fS st) (En Q) (start N vs) H):aD P w K mg base (XF P w) (k+1) f fd ps sp:=by
 obtain⟨oc,od,kV,doc,pm,an,bn,ct,i5,rfl,lk,fM⟩:=F.ex;refine Gd lk fM S len λA outer s H vs Q E hr cY=>?_;exact⟨_,ml,cq ⟨f,bn,A,outer,s,H,E⟩ H vs Q hr cY⟩
theorem X9{b:oG}:jx (XF P w) (CH N qual scope P w K mg base b) b.E:=X3
theorem Ya{b:oG}:Rz (CH N qual scope P w K mg base b) (λ_=>b.E):=X7
end
structure dP(P:Program)(w:World)(K:PySem.W.Frag)(mg:Str->Option Value)(base:Heap)(k:Nat)(x:Str)(ps:List Str)(sp:Sp):Prop where
 ex:∃ f fd,aD P w K mg base (XF P w) k f fd ps sp/\Binds K fd ps []/\PySem.W.keepIn K (.ref f)=true/\mg x=some (.ref f)
theorem dP.mono{P:Program}{w:World}{K:PySem.W.Frag}{mg:Str->Option Value}{base:Heap}{j k:Nat}{x:Str}{ps:List Str}{sp:Sp}(h:dP P w K mg base j x ps sp)(le:j<=k):dP P w K mg base k x ps sp:=
 let ⟨f,fd,F,r⟩:=h.ex;⟨f,fd,F.mono le,r⟩
theorem LY{X:Cx}{k:Nat}{ps:List Str}{sp:Sp}{x:Str}{e:Expr}{es:List Expr}{σ:St}{H:Hp}{Q:VK}{E:XK}{p pos:Pos}(G:dP X.prog X.w X.K X.mg X.base k x ps sp)(hr:bf k X.A)(hx:jx (XF X.prog X.w) X E)
  (h:Ea X (e :: es) σ H λvs H1=>sp vs H1 Q E) (hg:Gl X x:=by rfl) (cT:(x == ("__debug__" : Str))=false:=by decide) (hs:noStar (e :: es)=true:=by rfl):Ev X (.Call (.Name x p) (e :: es) [] pos) σ H Q:=
 let ⟨_,_,F,b,kp,m⟩:=G.ex;Hd F hr m kp b hx h hg cT hs
theorem Df.ti{P:Program}{w:World}{K:PySem.W.Frag}{mg:Str->Option Value}{h base:Heap}{k:Nat}{x:Str}{st:Stmt}{ps:List Str}{sp:Sp}(d:Df K x st)(X:K.In h)(G:h.Ns mainGlobals mg)
  (hb:∀(kV doc pm:Value) (an:Option Addr) (bn ct:Value) (us:List Value),us.length=ps.length->bindArgs (PySem.W.fnOf x x (kA st) (fS st) (aV st) .none kV doc pm an bn ct) ⟨us,[]⟩=pure (ps.zip us))
  (ok:∀{f:Addr} {fd:FuncData},bu K x x st f fd->aD P w K mg base (XF P w) k f fd ps sp):dP P w K mg base k x ps sp:=
 let ⟨f,fd,a,F⟩:=d;⟨f,fd,ok F,F.binds hb,F.kp,JN X G a⟩
section
variable{X:Cx}{CX:eU}{k:Nat}{f:Addr}{fd:FuncData}{ps:List Str}{sp:Sp}{E:XK}{x:Str}{p pos:Pos}{e:Expr}{es:List Expr}{σ:St}{H:Hp}{Q:VK}
end
section
variable{X:Cx}{pins:List (Addr×Obj)}{σ:St}{H:Hp}{s:Shared}{b:Addr}
end
def LZ(K:PySem.W.Frag)(C S:Addr):Bool:=match K.lookup C with
 | some ⟨_,_,.cls cd,_⟩=>cd.mro.contains<|.ref S
 | _=>false
section
variable{M:Model}{A:Around}{E:Value->Shared->Prop}{K:PySem.W.Frag}{s:Shared}
end
section
variable{X:Cx}{pins:List (Addr×Obj)}{σ:St}{H:Hp}{s:Shared}
end
open PySem.W
section
variable{prog:Program}{w:World}{A:Around}{E:Value->Shared->Prop}{s:Shared}{K:Frag}{a C:Addr}{o:Obj}
def L0(K:Frag)(C:Addr):Bool:=findIn K (.ref C) "__getattribute__" == some (some<|.builtin "BaseException.__getattribute__") && findIn K (.ref C) "__getattr__" == some none && findIn K (.ref C) "__class__" == some (some<|.builtin "object.__class__") &&
 mroIn K C (.type "object") == some true && mroIn K C (.type "BaseException") == some true && (clsIn K C).isSome
end
end L2
namespace L2
open PySem PySem.Spec PyProof.Rows
section
variable{prog:Program}{w:World}{A:Around}{E:Value->Shared->Prop}{s:Shared}
end
section
variable{X:Cx}{tg:Expr}
end
section
variable{X:Cx}{elt tg iter:Expr}{ifs:List Expr}{scope:Scope}{pos:Pos}{N':List Str}{n:Nat}{wi:TI}{g:TG}{tc:TT}{te:TE}
end
section
variable{X:Cx}{elt tg iter c:Expr}{ifs:List Expr}{scope:Scope}{pos p:Pos}{wi:TI}{σ:St}{H:Hp}{Q:VK}{T:Bool->Hp->Prop}{rest:List Stmt}{D:Ends}
end
section
variable{X:Cx}{k:Nat}{ps:List Str}{sp:Addr->Obj->Sp}{E:XK}{x:Str}{p pos:Pos}{e:Expr}{es:List Expr}{σ:St}{H:Hp}{Q:VK}
end
end L2
namespace H3
open PySem L2 Nt bt bT
open PyProof.Rows (sortedS)
def nQ:Sp:=λvs H Q _=>∃(R:Addr) (as:List<|Addr×Addr) (n:Net),vs=[.ref R]/\ai H R as n/\n.length<=1000/\(ag n).length<=900/\(∀ zs:List Str,zs.Nodup->(∀ z∈zs,z∈ag n)->zs.length < 64) /\
 ∀(L:Addr) (ss:List Str) (H':Hp),aj H H'->H L=none->H' L=some (Ls ss)->ss.Nodup->sortedS ss=true->(∀ z,z∈ss↔z∈ag n)->Q (.ref L) H'
theorem Yb{zs:List Str}{z:Str}(h:zs.Nodup):(added zs z).Nodup:=by
 unfold added
 split
 ·exact h
 ·rename_i hz;exact oB h hz
theorem Yc{zs:List Str}{z y:Str}:y∈added zs z↔y∈zs\/y=z:=by
 unfold added
 split
 ·rename_i hz;refine⟨.inl,λh=>h.elim id λe=>?_⟩;rw [e];exact hz
 ·rw [Aq,Ah]
theorem L3{n:Net}{r:Nat}(h:r < n.length):ag (n.take<|r+1)=ag (n.take r)++row n r:=by
 rw [vH h];unfold ag;rw [Ce,Ab h,Dv];simp
def cG:List Str:=["NoTie"]
structure Cl(K:PySem.W.Frag)(mg:Str->Option Value)(c:Str->Addr):Prop where
 net:mg "NetError" = some (.ref<|c "NetError")
 Yd:XC K<|c "NetError"
 at':∀ x∈cG,mg x=some (.ref<|c x)/\XC K (c x)/\LZ K (c x) (c "NetError")=true/\L0 K (c x)=true/\PySem.W.kitOne K (.ref<|c x) (.type "ValueError")=some true
 kit:∀ x∈cG,∀ y∈cG,PySem.W.kitOne K (.ref<|c x) (.ref<|c y)=some (decide (x=y))
def gO(K:PySem.W.Frag)(x:Str):Addr:=match PySem.W.nsIn K mainGlobals x with
 | some (some<|.ref a)=>a
 | _=>0
def CI(K:PySem.W.Frag):Bool:=(PySem.W.nsIn K mainGlobals "NetError" == some (some<|.ref<|gO K "NetError")) && PySem.W.excIn K (gO K "NetError") kc "ValueError.__new__" &&
 cG.all λx=>(PySem.W.nsIn K mainGlobals x == some (some<|.ref<|gO K x)) && PySem.W.excIn K (gO K x) kc "ValueError.__new__" && LZ K (gO K x) (gO K "NetError") && L0 K (gO K x) && (PySem.W.kitOne K (.ref<|gO K x) (.type "ValueError") == some true) &&
  cG.all λy=>PySem.W.kitOne K (.ref<|gO K x) (.ref<|gO K y) == some (decide (x=y))
theorem Ye{K:PySem.W.Frag}{h:Heap}{mg:Str->Option Value}(X:K.In h)(G:h.Ns mainGlobals mg)(q:CI K=true):Cl K mg (gO K):=by
 unfold CI at q;simp only [Br,Dy,OJ] at q;obtain⟨⟨q1,q2⟩,q3⟩:=q;exact⟨JN X G q1,q2,λx hx=>by obtain⟨⟨⟨⟨⟨a1,a2⟩,a3⟩,a4⟩,a5⟩,_⟩:=q3 x hx;exact⟨JN X G a1,a2,a3,a4,a5⟩,λx hx y hy=>(q3 x hx).2 y hy⟩
def L4(n:Net):Prop:=∀ zs:List Str,zs.Nodup->(∀ z∈zs,z∈ag n)->zs.length < 64
def CL(c:Str->Addr):Sp:=λvs H Q E=>∃(R:Addr) (as:List<|Addr×Addr) (n:Net) (z:Str),vs=[.ref R,.str z]/\ai H R as n/\n.length<=1000/\(ag n).length<=900/\L4 n /\
 (z∉ag n->∀ H',aj H H'->E (.ref<|c "NoTie") none H')/\(z∈ag n->∀ H',aj H H'->Q .non H')
section
variable{P:Program}{w:World}{K:PySem.W.Frag}{mg:Str->Option Value}{base:Heap}
abbrev tj:List Str:=["rows"]
abbrev tq:List Str:=["rows","point","ties","tie"]
theorem iU:ao tj ["rows"] (aV vx):=⟨rfl,rfl,rfl,by decide +kernel,rfl,by decide +kernel,by decide +kernel⟩
theorem CM:tq.Nodup:=by decide +kernel
theorem Yf{f:Addr}{fd:FuncData}(F:bu K "ties_of" "ties_of" vx f fd)(T:Txt mg):aD P w K mg base bD 1 f fd ["rows"] nQ:=by
 refine F.gb iU (λvs H Q E h=>?_) λb0 H vs Q E hr h=>?_
 ·obtain⟨R,as,n,rfl,_⟩:=h;rfl
 obtain⟨R,as,n,rfl,hR,hn,ht,bY,q⟩:=h;have nd:=iU.nd;have cA:=hR.len;have sub:∀(zs:List Str) (r:Nat) (ys:List Str),zs.Nodup->(∀ z,z∈zs->z∈ag n)->zs.length < 64:=λzs r ys h1 h2=>bY zs h1 h2;have CO:∀ r,r < n.length->∀ z,z∈ag (n.take r)\/z∈row n r->z∈ag n:=λr rF z hz=>by
  have e:ag n=ag (n.take<|r+1)++ag (n.drop<|r+1):=by
   unfold ag;rw [<- Dv,Da]
  rw [e,L3 rF]
  rcases hz with h | h <;> simp [h]
 show Run _ _ _ [some<|.ref R] H;refine bS<|cL (SA rfl) T.sorted PL<|al<|Vc (aV vx) tj tq 3 (gs bw)<|ae 0 ⟨R,rfl,⟨_,ak.of hR.lst⟩,λD hD cl C s₀ H₀ ex=>?_⟩;refine ph (xs:=as.map λa=>V.ref a.1) (λr σ' H'=>(∃ v1 v2 v3,σ'=[some<|.ref R]++[v1,v2,v3])/\∃ zs:List Str,aj H H'/\H' D=some (bj P w D zs)/\zs.Nodup/\∀ z,z∈zs↔z∈ag (n.take r)) ⟨⟨none,none,none,rfl⟩,[],aN hD _,ax,Bw,λz=>Iff.rfl⟩ ?_ ?_ ?_
 ·rintro r σ' H' _ ⟨_,zs,sm,_⟩;exact ak.of<|sm _ _ hR.lst
 ·rintro r x σ' H' hx ⟨⟨v1,v2,v3,rfl⟩,zs,sm,eD,zn,zm⟩;have hi:r < n.length:=by
   have:=(Ac.mp hx).1;rw [Aa] at this;omega
  obtain⟨a,ea,dX,et,el,er⟩:=(hR.same sm).at hi;rw [Ad,ea] at hx;cases hx;refine jQ rfl (aM.of et) (bo 1 CM<|bo 2 CM ?_);refine d8 ?_;rw [BL rfl];refine Vb rfl rfl (gs bw) (ae 2 ⟨a.2,rfl,⟨_,ak.of el⟩,?_⟩);have Yg:a.2≠D:=bO el eD λz=>nomatch z;refine ph (xs:=(row n r).map V.str) (λp σ' bL=>(∃ v3,σ'=[some<|.ref R]++[some<|.str n[r].1,some<|.ref a.2,v3])/\∃ zs:List Str,(∀ b o,b≠D->H' b=some o->bL b=some o)/\bL D=some (bj P w D zs)/\zs.Nodup/\∀ z,z∈zs↔z∈ag (n.take r)\/z∈(row n r).take p)
   ⟨⟨_,rfl⟩,zs,λb o _ h=>h,eD,zn,λz=>by rw [zm z];simp⟩ ?_ ?_ ?_
  ·rintro p σ' bL _ ⟨_,zs,kb,_⟩;exact ak.of<|kb _ _ Yg el
  ·rintro p x σ' bL hx ⟨⟨v3,rfl⟩,zs,kb,fC,wA,wB⟩;rw [Ad,Ax] at hx;obtain⟨z,hz,rfl⟩:=hx;refine bo 3 CM ?_;refine d8 ?_;rw [BL rfl];have hl:zs.length < 64:=bY zs wA λy hy=>CO r hi y<|((wB y).mp hy).imp id λh=>List.mem_of_mem_take h;refine Va (ae 3 ⟨z,zs,rfl,fC,by omega,⟨_,rfl⟩,added zs z,λb o hb h=>by rw [au hb];exact kb b o hb h,ax,Yb wA,λy=>?_⟩);rw [Yc,wB y,Ce,hz,or_assoc];simp
  ·rintro σ' bL ⟨⟨v3,rfl⟩,zs,kb,fC,wA,wB⟩;refine⟨⟨_,_,_,rfl⟩,zs,λb o h=>kb b o (a9 h hD)<|sm _ _ h,fC,wA,λz=>?_⟩;rw [wB z,Aa,Ca,L3 hi,Aq]
 ·rintro σ' H' ⟨_,zs,sm,eD,zn,zm⟩;rw [Aa,cA,Ca] at zm;refine ay ⟨D,zs,rfl,eD,bY zs zn λy hy=>(zm y).mp hy,λl ss hl hp hs=>?_⟩;exact q l ss _ (sm.trans<|aN hl _) (hU sm hl) ax (hp.nodup_iff.mpr zn) hs λz=>by rw [hp.mem_iff,zm z]
theorem Yh(zs:List Str)(z:Str):zs.contains z=decide (z∈zs):=by
 rw [Cz,FW,Fe]
abbrev Yi:List Str:=["rows","tie"]
theorem iV:ao Yi ["rows","tie"] (aV yY):=⟨rfl,rfl,rfl,by decide +kernel,rfl,by decide +kernel,by decide +kernel⟩
theorem Yj{f:Addr}{fd:FuncData}{c:Str->Addr}(F:bu K "need_tie" "need_tie" yY f fd)(T:Txt mg)(cl:Cl K mg c)(GT:aP P w K mg base 1 "ties_of" ["rows"] nQ):aD P w K mg base (XF P w) 2 f fd ["rows","tie"] (CL c):=by
 refine F.gx iV (λvs H Q E h=>?_) λb0 H vs Q hr h=>?_
 ·obtain⟨R,as,n,z,rfl,_⟩:=h;rfl
 obtain⟨R,as,n,z,rfl,hR,hn,ht,bY,qE,qQ⟩:=h;have nd:=iV.nd;have mN:("NoTie" : Str)∈cG:=by decide
 show Run _ _ _ [some<|.ref R,some<|.str z] H;refine eY<|cB Qa<|ae 1<|bJ GT hr<|al<|ae 0<|ay ⟨R,as,n,rfl,hR,hn,ht,bY,λL ss H1 s1 n1 e1 snd so mem=>⟨L,_,rfl,.inl<|ak.of e1,rfl,UL _,_,rfl,?_⟩⟩;rw [BL rfl,UK,Yh]
 by_cases hz:z∈ag n
 ·rw [BW<|(mem z).mpr hz];exact bH<|bg<|bg<|qQ hz _ s1
 ·rw [BR λk=>hz<|(mem z).mp k];refine bI<|X5 Ya (cl.at' _ mN).1 (cl.at' _ mN).2.1 rfl (al<|uP<|ay ⟨Z1,qE hz _ s1⟩)
end
end H3
namespace Nt
variable{α β:Type}
def gP(f:α->α):List α->α->α->Prop
 | [],a,b=>a=b
 | x :: l,a,b=>x=a/\gP f l (f x) b
theorem dQ{f:α->α}:∀{l k:List α} {a b:α},gP f (l++k) a b↔∃ c,gP f l a c/\gP f k c b
 | [],k,a,b=>⟨λh=>⟨a,rfl,h⟩,λ⟨c,e,h⟩=>by cases e;exact h⟩
 | x :: l,k,a,b=>by
  show(x=a/\gP f (l++k) (f x) b)↔∃ c,(x=a/\gP f l (f x) c)/\gP f k c b;rw [dQ];exact⟨λ⟨e,c,h1,h2⟩=>⟨c,⟨e,h1⟩,h2⟩,λ⟨c,⟨e,h1⟩,h2⟩=>⟨e,c,h1,h2⟩⟩
theorem L5{f:α->α}:∀{l:List α} {x a b y:α},gP f (x :: l) a b->y∈x :: l->f y∈l\/f y=b
 | [],x,a,b,y,h,hy=>by
  rw [Ah] at hy;subst hy;exact .inr h.2
 | z :: l,x,a,b,y,h,hy=>by
  rcases Am.mp hy with rfl | hy
  ·exact .inl<|by rw [<- h.2.1];exact As
  ·rcases L5 h.2 hy with q | q
   ·exact .inl<|Ak _ q
   ·exact .inr q
theorem Yk{f:α->α}{l:List α}{a y:α}(h:gP f l a a)(ha:a∈l)(hy:y∈l):f y∈l:=by
 cases l with
 | nil=>cases hy
 | cons x l=>
  rcases L5 h hy with q | q
  ·exact Ak _ q
  ·rw [q];exact ha
structure Dec(f:α->α)(D:List α)(Ls:List<|List α):Prop where
 cyc:∀ l∈Ls,∃ a,a∈l/\gP f l a a
 all:Ls.flatten.Perm D
 nd:D.Nodup
open PySem
theorem CU{α:Type} [DecidableEq α]:∀{a b:List α},a.Nodup->(∀ z∈a,z∈b)->b.length<=a.length->a.Perm b
 | [],b,_,_,hl=>by
  have:b=[]:=Bf.mp<|Nat.le_zero.mp hl;rw [this]
 | x :: a,b,nd,sub,hl=>by
  have L9:=Bs.mp nd;have hx:=sub x As;have pb:=List.perm_cons_erase hx;refine List.Perm.trans ((CU L9.2 (λz hz=>?_) ?_).cons x) pb.symm
  ·exact(List.mem_erase_of_ne λe=>L9.1<|by rw [<- e];exact hz).mpr<|sub z<|Ak _ hz
  ·have:=pb.length_eq;rw [Bj] at this hl;omega
section
variable{n:Net}{c:End}{z:Str}
end
section
variable{n m:Net}{g:End->End}{e1 e2:End}{z:Str}
end
theorem Ma{n:Net}{e:End}(h:e∈ends n):e.1 < n.length/\e.2 < (row n e.1).length:=by
 obtain⟨z,hz⟩:=af.mp h;exact⟨c7 hz,iA hz⟩
section
variable{n:Net}{z:Str}
end
theorem CY{α:Type}(f:α->α)(a:α):∀ k,it f k (f a)=it f (k+1) a
 | 0=>rfl
 | k+1=>by show f (it f k<|f a)=f (it f (k+1) a);rw [CY f a k]
theorem Mb(n:Net)(e:End):∀ k,gP (step n) (fl n e k) e<|it (step n) k e
 | 0=>rfl
 | k+1=>by
  rw [K3];exact dQ.mpr ⟨_,Mb n e k,rfl,rfl⟩
theorem wC{n:Net}(T:aB n){e:End}(h:e∈ends n):e∈face n e/\gP (step n) (face n e) e e:=by
 have f:=j5 T h;have h0:=f.at' 0 f.pos;refine⟨Al h0,?_⟩;have:=Mb n e<|gM n e;have e2:face n e=fl n e (gM n e):=rfl;have hl:(face n e).length=gM n e:=by rw [e2,nL]
 rw [<- hl,f.back,hl] at this;exact this
theorem Yl{n:Net}(T:aB n){e:End}(h:e∈ends n):∀ i j,it (step n) i e=it (step n) (i+j) e->it (step n) j e=e:=by
 have hf:∀ a∈ends n,step n a∈ends n:=λa ha=>oQ T ha;intro i
 induction i with
 | zero=>intro j e;rw [Cr] at e;exact e.symm
 | succ i ih=>
  intro j e;refine ih j ?_;rw [show i+1+j=(i+j)+1 by omega] at e;exact yO T (g7 hf h i) (g7 hf h<|i+j) e
theorem Ym{n:Net}(T:aB n){e:End}(h:e∈ends n):(face n e).Nodup:=by
 have f:=j5 T h;unfold List.Nodup;rw [Bd];intro i j hi hj iB q;have a:=f.at' i hi;have b:=f.at' j hj;rw [Ab hi] at a;rw [Ab hj] at b;have a:=Option.some.inj a;have b:=Option.some.inj b;rw [q,b] at a;refine f.first (j - i) (by omega) (by omega) (Yl T h i (j - i) ?_);rw [show i+(j - i)=j by omega];exact a.symm
def lx(a b:End):Prop:=a.1 < b.1\/(a.1=b.1/\a.2 < b.2)
theorem Md(r:Nat):∀(ts:List Str) (p:Nat),((bx r ts p).map (·.2)).Pairwise lx
 | [],p=>List.Pairwise.nil
 | t :: ts,p=>by
  show(((r,p):End) :: (bx r ts<|p+1).map (·.2)).Pairwise lx;refine List.Pairwise.cons (λb hb=>?_)<|Md r ts<|p+1;obtain⟨⟨z,e⟩,hx,rfl⟩:=Aj.mp hb;obtain⟨h1,h2,_⟩:=aX.mp hx;exact .inr ⟨h1.symm,by show p < e.2;omega⟩
theorem Mf:∀(n:Net) (k:Nat),((dW k n).map (·.2)).Pairwise lx
 | [],k=>List.Pairwise.nil
 | a :: n,k=>by
  unfold dW;rw [Ai,Fl];refine⟨Md k a.2 0,Mf n<|k+1,λx hx y hy=>?_⟩;obtain⟨⟨z,e⟩,h1,rfl⟩:=Aj.mp hx;obtain⟨⟨z',e'⟩,h2,rfl⟩:=Aj.mp hy;have q1:=(aX.mp h1).1;have q2:=(bd.mp h2).1;exact .inl<|by show e.1 < e'.1;omega
theorem Yn(n:Net):(ends n).Pairwise lx:=Mf n 0
theorem Mg{a b:End}(h:lx a b):¬ lx b a:=by
 unfold lx at *;omega
def Told(n:Net)(told:List End):Prop:=∀ x∈told,step n x∈told
theorem Yo{n:Net}(T:aB n){told:List End}(hc:Told n told){e:End}(h:e∈ends n)(hn:e∉told):∀ c∈face n e,c∉told:=by
 intro c Yp Yq;obtain⟨he,p⟩:=wC T h;obtain⟨A,B,q⟩:=List.append_of_mem Yp;rw [q] at p;obtain⟨m,p1,p2⟩:=dQ.mp p;have e1:c=m:=p2.1;subst e1;have:∀(l:List End) (a b:End),gP (step n) l a b->a∈told->b∈told:=by
  intro l
  induction l with
  | nil=>intro a b h ha;rw [<- (show a=b from h)];exact ha
  | cons x l ih=>intro a b h ha;exact ih _ _ h.2<|hc _<|h.1 ▸ ha
 exact hn<|this _ _ _ p2 Yq
theorem Yr{n:Net}(T:aB n){told:List End}(hc:Told n told){e:End}(h:e∈ends n):Told n (told++face n e):=by
 intro x hx
 rcases Aq.mp hx with q | q
 ·exact Bl _<|hc x q
 ·obtain⟨he,p⟩:=wC T h;exact Az _<|Yk p he q
structure tu(n:Net)(es told:List End)(Fs:List<|List End):Prop where
 face:∀ w∈Fs,∃ e∈es,w=Nt.face n e/\e∈ends n/\∀ c∈w,¬ lx c e
 cov:∀ e∈es,e∈told\/∃ w∈Fs,e∈w
 nd:Fs.flatten.Nodup
 out:∀ w∈Fs,∀ c∈w,c∉told
 ord:Fs.Pairwise λv w=>∀ a b,v[0]?=some a->w[0]?=some b->lx a b
theorem C0{n:Net}(T:aB n):∀(es told pre:List End),ends n=pre++es->(∀ x∈pre,x∈told)->Told n told->tu n es told (gk n es told)
 | [],told,pre,_,_,_=>by
  unfold gk;exact⟨λw hw=>(nomatch hw),λe he=>(nomatch he),Bw,λw hw=>(nomatch hw),List.Pairwise.nil⟩
 | e :: r,told,pre,hE,hp,hc=>by
  have Mh:ends n=(pre++[e])++r:=by rw [hE,Aw];rfl
  have he:e∈ends n:=by rw [hE];exact Az _ As
  have j8:=Yn n;rw [hE,Fl] at j8;have aK:=(List.pairwise_cons.mp j8.2.1).1;unfold gk
  split
  ·rename_i ht;have I:=C0 T r told (pre++[e]) Mh (λx hx=>by
    rcases Aq.mp hx with q | q
    ·exact hp x q
    ·rw [Ah] at q;rw [q];exact ht) hc
   exact⟨λw hw=>by obtain⟨a,h1,h2⟩:=I.face w hw;exact⟨a,Ak _ h1,h2⟩,λx hx=>by
    rcases Am.mp hx with rfl | hx
    ·exact .inl ht
    ·exact I.cov x hx,I.nd,I.out,I.ord⟩
  ·rename_i ht;have fp:=wC T he;have ap:=Yo T hc he ht;have I:=C0 T r (told++face n e) (pre++[e]) Mh (λx hx=>by
    rcases Aq.mp hx with q | q
    ·exact Bl _<|hp x q
    ·rw [Ah] at q;rw [q];exact Az _ fp.1)<|Yr T hc he
   refine⟨λw hw=>?_,λx hx=>?_,?_,λw hw c nI=>?_,?_⟩
   ·rcases Am.mp hw with rfl | hw
    ·refine⟨e,As,rfl,he,λc nI q=>?_⟩;have h1:=wm T he c nI;rw [hE] at h1
     rcases Aq.mp h1 with h1 | h1
     ·exact ap c nI<|hp c h1
     ·rcases Am.mp h1 with rfl | h1
      ·exact Mg q q
      ·exact Mg q<|aK c h1
    ·obtain⟨a,h1,h2⟩:=I.face w hw;exact⟨a,Ak _ h1,h2⟩
   ·rcases Am.mp hx with rfl | hx
    ·exact .inr ⟨_,As,fp.1⟩
    ·rcases I.cov x hx with q | ⟨w,h1,h2⟩
     ·rcases Aq.mp q with q | q
      ·exact .inl q
      ·exact .inr ⟨_,As,q⟩
     ·exact .inr ⟨w,Ak _ h1,h2⟩
   ·rw [List.flatten_cons,Cp];refine⟨Ym T he,I.nd,λa ha b hb q=>?_⟩;obtain⟨w,hw,Ys⟩:=List.mem_flatten.mp hb;exact I.out w hw b Ys<|Az _<|q ▸ ha
   ·rcases Am.mp hw with rfl | hw
    ·exact ap c nI
    ·exact λq=>I.out w hw c nI<|Bl _ q
   ·refine List.Pairwise.cons (λw hw a b ha hb=>?_) I.ord;obtain⟨e',h1,rfl,h2,_⟩:=I.face w hw;have f1:=(j5 T he).at' 0 (j5 T he).pos;have f2:=(j5 T h2).at' 0 (j5 T h2).pos;rw [ha] at f1;rw [hb] at f2;rw [Option.some.inj f1,Option.some.inj f2];exact aK e' h1
theorem C1{n:Net}(T:aB n)(h0:ends n≠[]):tu n (ends n) [] (ca n):=by
 unfold ca;rw [BP h0];exact C0 T (ends n) [] [] rfl (λx hx=>by cases hx) (λx hx=>by cases hx)
theorem Yu{n:Net}(T:aB n)(h0:ends n≠[]):Dec (step n) (ends n) (ca n):=by
 have g:=C1 T h0;refine⟨λl hl=>?_,?_,uY n⟩
 ·obtain⟨e,_,rfl,he,_⟩:=g.face l hl;exact⟨e,wC T he⟩
 ·refine CU g.nd (λz hz=>?_)<|kT (uY n) λz hz=>?_
  ·obtain⟨w,hw,Yv⟩:=List.mem_flatten.mp hz;obtain⟨e,_,rfl,he,_⟩:=g.face w hw;exact wm T he z Yv
  ·rcases g.cov z hz with q | ⟨w,hw,q⟩
   ·cases q
   ·exact List.mem_flatten.mpr ⟨w,hw,q⟩
end Nt
namespace Nt
open PySem
section
variable{n m:Net}{g:End->End}{e1 e2:End}{z:Str}
end
section
variable{n:Net}{z:Str}
end
open L2
open PyProof.Rows (sortedS)
theorem Mi{n:Net}(hn:(n.map (·.1)).Nodup){i j:Nat}(hi:i < n.length)(hj:j < n.length)(h:wz n i=wz n j):i=j:=by
 rw [B' hi,B' hj] at h;have:=(Bo.mp hn);rw [Bd] at this
 rcases Dg i j with q | q | q
 ·exact absurd (by rw [Dn,Dn];exact h)<|this i j (by simpa using hi) (by simpa using hj) q
 ·exact q
 ·exact absurd (by rw [Dn,Dn];exact h.symm)<|this j i (by simpa using hj) (by simpa using hi) q
open PyProof.Rows (sortedS)
theorem C2{n:Net}(T:aB n){e:End}(h:e∈ends n):two n (other n<|two n e)=other n e:=by
 have g1:=cR (c:=1) T h;have h2:=jj T h;obtain⟨z,hz⟩:=af.mp h2;obtain⟨y,hy⟩:=af.mp g1;have e1:go 1 n (other n<|two n e)=other n (go 1 n e):=by
  show ci 1 n (other n<|other n<|two n e)=_;rw [(dq T hz).2.1];show ci 1 n (ci (-1) n<|other n<|go 1 n e)=_;have:=jY (c:=-1)<|cP T g1;rw [Int.neg_neg] at this;exact this
 show go (-1) n (go 1 n<|other n<|two n e)=_;rw [e1];show ci (-1) n (other n<|other n<|go 1 n e)=_;rw [(dq T hy).2.1];exact jY<|cP T h
theorem bF{n:Net}(T:aB n){e:End}(h:e∈ends n)(k:Nat):it (two n) k e∈ends n:=g7 (λa ha=>jj T ha) h k
theorem Mj{α:Type}(f:α->α)(a:α):∀ k,it f k (f a)=it f (k+1) a
 | 0=>rfl
 | k+1=>by show f (it f k<|f a)=f (it f (k+1) a);rw [Mj f a k]
theorem c8{α:Type}(f:α->α)(a:α)(i:Nat):∀ j,it f (i+j) a=it f j (it f i a)
 | 0=>rfl
 | j+1=>by show f (it f (i+j) a)=f (it f j<|it f i a);rw [c8 f a i j]
theorem Yw{n:Net}(T:aB n){e:End}(h:e∈ends n):two n e≠other n e:=λq=>by
 have g1:=cR (c:=1) T h;obtain⟨y,hy⟩:=af.mp g1;have h1:ci (-1) n (go 1 n e)=other n e:=jY<|cP T h;have h2:ci (-1) n (other n<|go 1 n e)=other n e:=q;exact(dq T hy).2.2<|Kr (c:=-1) (cP T g1) g1<|h2.trans h1.symm
theorem Mk{n:Net}(T:aB n):∀(k:Nat) {e:End},e∈ends n->it (two n) k e≠other n e
 | 0,e,h=>λq=>by
  obtain⟨z,hz⟩:=af.mp h;exact(dq T hz).2.2 q.symm
 | 1,e,h=>Yw T h
 | k+2,e,h=>λq=>by
  have e1:two n (it (two n) (k+1) e)=two n (other n<|two n e):=by rw [C2 T h];exact q
  have e2:=pq T (bF T h<|k+1) (cP T<|jj T h) e1;rw [<- Mj] at e2;exact Mk T k (jj T h) e2
theorem lI{n:Net}(T:aB n){a b:End}(ha:a∈ends n)(hb:b∈ends n)(h:aw n a=aw n b):b=a\/b=other n a:=by
 obtain⟨z,hz⟩:=af.mp ha;obtain⟨y,hy⟩:=af.mp hb;rw [du hz,du hy] at h;subst h;exact(vO T hz).mp hy
theorem Yx{n:Net}(T:aB n){e:End}(h:e∈ends n){k:Nat}(p:bV n e k){i j:Nat}(iB:i < j)(hj:j < k):it (two n) i e≠it (two n) j e:=λq=>by
 have inj:∀(m:Nat) {a b:End},a∈ends n->b∈ends n->it (two n) m a=it (two n) m b->a=b:=λm=>by
  induction m with
  | zero=>intro a b _ _ q;exact q
  | succ m ih=>intro a b ha hb q;exact ih ha hb<|pq T (bF T ha m) (bF T hb m) q
 have e1:it (two n) j e=it (two n) i (it (two n) (j - i) e):=by rw [<- c8,show j - i+i=j by omega]
 rw [e1] at q;have:=inj i h (bF T h _) q;exact p.first (j - i) (by omega) (by omega) this.symm
theorem Yy{n:Net}(T:aB n){e:End}(h:e∈ends n){k:Nat}(p:bV n e k){i j:Nat}(iB:i < j)(hj:j < k):aw n (it (two n) i e)≠aw n (it (two n) j e):=λq=>by
 rcases lI T (bF T h i) (bF T h j) q with c | c
 ·exact Yx T h p iB hj c.symm
 ·rw [show j=i+(j - i) by omega,c8] at c;exact Mk T (j - i) (bF T h i) c
theorem Yz{n:Net}(T:aB n){x y:End}(hx:x∈ends n)(hy:y∈ends n)(q:aw n (go 1 n x)=aw n (go 1 n y)):x=y\/two n y=other n x:=by
 have g1:=cR (c:=1) T hx
 rcases lI T g1 (cR (c:=1) T hy) q with c | c
 ·exact .inl (go_inj T hy hx c).symm
 ·refine .inr ?_;obtain⟨z,hz⟩:=af.mp g1;show go (-1) n (go 1 n y)=_;rw [c];show ci (-1) n (other n<|other n<|go 1 n x)=_;rw [(dq T hz).2.1];exact jY<|cP T hx
noncomputable def dz(n:Net)(e:End):List End:=ah<|walker n e
theorem wD{n:Net}{e:End}{k:Nat}(p:bV n e k):dz n e=(List.range k).map λi=>it (two n) i e:=by
 unfold dz walker;rw [jZ p,VU]
theorem Ml{n:Net}{e:End}{k:Nat}(h:it (two n) k e=e):∀ m,it (two n) (k * m) e=e
 | 0=>rfl
 | m+1=>by rw [Nat.mul_succ,SJ,c8,h,Ml h m]
theorem ib{n:Net}(T:aB n){e:End}(h:e∈ends n){x:End}:x∈dz n e↔∃ i,it (two n) i e=x:=by
 obtain⟨k,p,_⟩:=nJ T h;rw [wD p,Aj]
 constructor
 ·rintro ⟨i,_,q⟩;exact⟨i,q⟩
 ·rintro ⟨i,q⟩;have p0:=p.pos;refine⟨i % k,Bc.mpr<|Db _ p0,?_⟩;rw [<- q];have:=Nat.div_add_mod i k
  conv=>rhs;rw [<- this]
  rw [c8,Ml p.back]
theorem nR{n:Net}(T:aB n){e:End}(h:e∈ends n):∀ x∈dz n e,x∈ends n:=λx hx=>by
 obtain⟨i,q⟩:=(ib T h).mp hx;rw [<- q];exact bF T h i
theorem Mm{n:Net}(T:aB n){e:End}(h:e∈ends n){x:End}(hx:x∈dz n e):∃ y∈dz n e,two n y=x:=by
 obtain⟨i,q⟩:=(ib T h).mp hx;obtain⟨k,p,_⟩:=nJ T h;have p0:=p.pos;refine⟨it (two n) (i+k - 1) e,(ib T h).mpr ⟨_,rfl⟩,?_⟩;show it (two n) (i+k - 1+1) e=x;rw [show i+k - 1+1=k+i by omega,c8,p.back,q]
theorem C3{n:Net}(T:aB n){e:End}(h:e∈ends n){x:End}(hx:x∈dz n e):two n x∈dz n e:=by
 obtain⟨i,q⟩:=(ib T h).mp hx;exact(ib T h).mpr ⟨i+1,by rw [<- q];rfl⟩
theorem Mp{n:Net}(T:aB n){e:End}(h:e∈ends n){x:End}(hx:x∈ends n):aw n x∈(dz n e).map (aw n)↔x∈dz n e\/other n x∈dz n e:=by
 rw [Aj]
 constructor
 ·rintro ⟨y,hy,q⟩
  rcases lI T hx (nR T h y hy) q.symm with c | c
  ·exact .inl<|c ▸ hy
  ·exact .inr<|c ▸ hy
 ·rintro (c | c)
  ·exact⟨x,c,rfl⟩
  ·refine⟨_,c,?_⟩;obtain⟨z,hz⟩:=af.mp hx;rw [du hz,du (dq T hz).1]
theorem Mq{n:Net}(T:aB n){e:End}(h:e∈ends n):other n (other n e)=e:=by
 obtain⟨z,hz⟩:=af.mp h;exact(dq T hz).2.1
def tE(n:Net)(told:List Str):Prop:=∀ x∈ends n,(aw n (two n x)∈told↔aw n x∈told)
theorem Mr{n:Net}(T:aB n){told:List Str}(C:tE n told){e:End}(h:e∈ends n):∀ i,aw n (it (two n) i e)∈told↔aw n e∈told
 | 0=>Iff.rfl
 | i+1=>(C _<|bF T h i).trans<|Mr T C h i
theorem YB{n:Net}(T:aB n){e:End}(h:e∈ends n):tE n ((dz n e).map<|aw n):=λx hx=>by
 rw [Mp T h<|jj T hx,Mp T h hx]
 constructor
 ·rintro (c | c)
  ·obtain⟨y,hy,q⟩:=Mm T h c;exact .inl<|pq T (nR T h y hy) hx q ▸ hy
  ·have:=C3 T h c;rw [C2 T hx] at this;exact .inr this
 ·rintro (c | c)
  ·exact .inl<|C3 T h c
  ·obtain⟨y,hy,q⟩:=Mm T h c;have lJ:=nR T h y hy;have e1:two n x=other n y:=by
    rw [<- Mq T hx,<- q,C2 T lJ]
   exact .inr<|by rw [e1,Mq T lJ];exact hy
structure lK(n:Net)(es:List End)(told:List Str)(ws:List<|List End):Prop where
 nd:((ws.flatMap ah).map<|aw n).Nodup
 new:∀ x∈ws.flatMap ah,x∈ends n/\aw n x∉told
 cov:∀ e∈es,aw n e∈told\/aw n e∈(ws.flatMap ah).map (aw n)
 wk:∀ w∈ws,∃ e,e∈ends n/\w=walker n e
theorem C4{n:Net}(T:aB n):∀(es:List End) (told:List Str),(∀ e∈es,e∈ends n)->tE n told->lK n es told (cW n es told)
 | [],told,_,_=>by
  unfold cW;exact⟨Bw,λx hx=>(nomatch hx),λe he=>(nomatch he),λw hw=>(nomatch hw)⟩
 | e :: r,told,he,C=>by
  have h:=he e<|As ..;unfold cW
  by_cases q:aw n e∈told
  ·rw [BL q];have I:=C4 T r told (λa ha=>he a<|Ak _ ha) C;refine⟨I.nd,I.new,λa ha=>?_,I.wk⟩
   rcases Am.mp ha with rfl | ha
   ·exact .inl q
   ·exact I.cov a ha
  ·rw [BP q];have C':tE n (told++(ah<|walker n e).map (aw n)):=λx hx=>by
    rw [Aq,Aq];exact or_congr (C x hx)<|YB T h x hx
   have I:=C4 T r _ (λa ha=>he a<|Ak _ ha) C';have fresh:∀ x∈dz n e,x∈ends n/\aw n x∉told:=λx hx=>by
    obtain⟨i,k⟩:=(ib T h).mp hx;refine⟨nR T h x hx,λz=>q ?_⟩;rw [<- k] at z;exact(Mr T C h i).mp z
   refine⟨?_,λx hx=>?_,λa ha=>?_,λw hw=>?_⟩
   ·rw [By,Ai,Cp];refine⟨?_,I.nd,λa ha b hb k=>?_⟩
    ·obtain⟨k,p,_⟩:=nJ T h;show((dz n e).map<|aw n).Nodup;rw [wD p,Bv,Bo,De,Bd];intro i j hi hj iB;rw [Eb,Eb];rw [Cj] at hj;exact Yy T h p iB hj
    ·subst k;obtain⟨x,hx,rfl⟩:=Aj.mp hb;exact(I.new x hx).2<|Az _ ha
   ·rw [By] at hx
    rcases Aq.mp hx with k | k
    ·exact fresh x k
    ·exact⟨(I.new x k).1,λz=>(I.new x k).2<|Bl _ z⟩
   ·rw [By,Ai]
    rcases Am.mp ha with rfl | ha
    ·exact .inr<|Bl _<|Aj.mpr ⟨a,(ib T h).mpr ⟨0,rfl⟩,rfl⟩
    ·rcases I.cov a ha with k | k
     ·rcases Aq.mp k with k | k
      ·exact .inl k
      ·exact .inr<|Bl _ k
     ·exact .inr<|Az _ k
   ·rcases Am.mp hw with rfl | hw
    ·exact⟨e,h,rfl⟩
    ·exact I.wk w hw
noncomputable abbrev aG(n:Net):List (List End):=cW n (ends n) []
theorem YC(n:Net):tE n []:=λx _=>by simp
theorem pI{n:Net}(T:aB n):lK n (ends n) [] (aG n):=C4 T (ends n) [] (λ_ h=>h)<|YC n
theorem Ms{n:Net}(T:aB n){z:Str}(hz:z∈ag n):(((aG n).flatMap ah).map<|aw n).count z=1:=by
 have I:=pI T;rw [List.Nodup.count I.nd,BL];have:pos n z≠[]:=λq=>by have:=uZ n z;rw [q,T z hz] at this;cases this
 obtain⟨p,hp⟩:=PJ _ this;have hp:=bB.mp hp;have:=I.cov p<|af.mpr ⟨z,hp⟩;rw [du hp] at this
 rcases this with k | k
 ·cases k
 ·exact k
theorem YD{n:Net}(T:aB n){x:End}(hx:x∈(aG n).flatMap ah):two n x∈(aG n).flatMap ah:=by
 obtain⟨w,hw,hx⟩:=List.mem_flatMap.mp hx;obtain⟨e,he,rfl⟩:=(pI T).wk w hw;exact List.mem_flatMap.mpr ⟨_,hw,C3 T he hx⟩
theorem Mt{α β:Type}{f:α->β}:∀{l:List α},l.Nodup->(∀ a∈l,∀ b∈l,f a=f b->a=b)->(l.map f).Nodup
 | [],_,_=>Bw
 | a :: l,h,inj=>by
  have h:=Bs.mp h;refine Bs.mpr ⟨λhm=>?_,Mt h.2 λx hx y hy=>inj x (Ak _ hx) y<|Ak _ hy⟩;obtain⟨b,hb,q⟩:=Aj.mp hm;have:=inj a (As ..) b (Ak _ hb) q.symm;exact h.1<|this ▸ hb
theorem Mu{α β:Type}{f:α->β}:∀{l:List α},(l.map f).Nodup->∀ a∈l,∀ b∈l,f a=f b->a=b
 | c :: l,h,a,ha,b,hb,q=>by
  rw [Bb,Bs] at h
  rcases Am.mp ha with ea | Mv
  ·rcases Am.mp hb with eb | o6
   ·rw [ea,eb]
   ·exact absurd (Aj.mpr ⟨b,o6,by rw [<- q,ea]⟩) h.1
  ·rcases Am.mp hb with eb | o6
   ·exact absurd (Aj.mpr ⟨a,Mv,by rw [q,eb]⟩) h.1
   ·exact Mu h.2 a Mv b o6 q
theorem Mw{α β:Type}{f:α->β}:∀{l:List α},(l.map f).Nodup->l.Nodup
 | [],_=>Bw
 | a :: l,h=>by
  rw [Bb,Bs] at h;exact Bs.mpr ⟨λk=>h.1<|Aj.mpr ⟨a,k,rfl⟩,Mw h.2⟩
theorem YF{n:Net}(T:aB n):(((aG n).flatMap ah).map λx=>aw n<|go 1 n x).Perm (((aG n).flatMap ah).map<|aw n):=by
 have I:=pI T;refine CU (Mt (Mw I.nd) λx hx y hy q=>?_) (λz hz=>?_)<|by rw [Aa,Aa];exact Ag _
 ·have bq:=(I.new x hx).1;have lJ:=(I.new y hy).1
  rcases Yz T bq lJ q with c | c
  ·exact c
  ·exfalso
   have t:aw n (two n y)=aw n x:=by
    obtain⟨z,hz⟩:=af.mp bq;rw [c,du hz,du (dq T hz).1]
   have:=Mu I.nd _ (YD T hy) x hx t;obtain⟨z,hz⟩:=af.mp bq;exact(dq T hz).2.2<|c.symm.trans this
 ·obtain⟨x,hx,rfl⟩:=Aj.mp hz;obtain⟨y,hy⟩:=af.mp<|cR (c:=1) T (I.new x hx).1;rw [du hy];refine Ed.mp ?_;rw [Ms T<|jM hy];exact Fh
end Nt
namespace L2
open PySem PySem.Spec PyProof.Rows bt
section
variable{X:Cx}{a b e:Expr}{es:List Expr}{σ:St}{H:Hp}{Q:VK}{pos p kp cp:Pos}{j:Nat}
end
end L2
namespace L2
open PySem PySem.Spec PyProof.Rows bT
def lL(e:Expr)(i2:Expr)(d:Nat)(acc:Value)(env:Env):Sem Unit:=do
 let x <- eval i2 env
 standAt i2.pos
 let x <- foldedSetIterable i2 env x
 let _ <- runOwn (.compStart e d (<- holding [x]<|pyIter x) acc env) env
section
variable{X:Cx}{elt t1 i1 t2 i2 t3 i3:Expr}{f1 f2 f3:List Expr}{scope:Scope}{pos:Pos}{σ:St}{H:Hp}{acc:Value}{env:Env}
theorem YG:Clause (.ListComp elt [⟨t1,i1,f1,0⟩,⟨t2,i2,f2,0⟩,⟨t3,i3,f3,0⟩] scope pos) 0 t1 i1 f1 acc env (lL (.ListComp elt [⟨t1,i1,f1,0⟩,⟨t2,i2,f2,0⟩,⟨t3,i3,f3,0⟩] scope pos) i2 1 acc env):=⟨rfl,λ_=>rfl,λ_ _ _=>rfl,λ_ _=>rfl,λ_ _ _=>rfl,λ_ _=>rfl,λit=>by
 unfold lL;simp only [bind_assoc,pure_bind];rfl⟩
theorem YH:Clause (.ListComp elt [⟨t1,i1,f1,0⟩,⟨t2,i2,f2,0⟩,⟨t3,i3,f3,0⟩] scope pos) 1 t2 i2 f2 acc env (lL (.ListComp elt [⟨t1,i1,f1,0⟩,⟨t2,i2,f2,0⟩,⟨t3,i3,f3,0⟩] scope pos) i3 2 acc env):=⟨rfl,λ_=>rfl,λ_ _ _=>rfl,λ_ _=>rfl,λ_ _ _=>rfl,λ_ _=>rfl,λit=>by
 unfold lL;simp only [bind_assoc,pure_bind];rfl⟩
theorem YJ:Clause (.ListComp elt [⟨t1,i1,f1,0⟩,⟨t2,i2,f2,0⟩,⟨t3,i3,f3,0⟩] scope pos) 2 t3 i3 f3 acc env (emit elt acc env):=⟨rfl,λ_=>rfl,λ_ _ _=>rfl,λ_ _=>rfl,λ_ _ _=>rfl,λ_ _=>rfl,λ_=>rfl⟩
theorem Mx{e:Expr}{d:Nat}{inner:Sem Unit}{wi:TI}{Q:St->Hp->Prop}(C:Clause e d t2 i2 f2 acc X.env inner)(bq:X.xe=λ_ _=>False)(hc:X.calm=true)(hi:PI X t2 i2 wi)(h:wi σ H λJ H1=>dU X t2 f2 inner J Q σ H1)
  (hs:∀ x,foldedSetIterable i2 X.env x=pure x:=by intro _;rfl):gD X (lL e i2 d acc X.env) σ H Q:=by
 refine⟨λpins s I=>?_⟩;unfold lL;refine BJ<|aE (hi pins s σ H _ I h) λx s1 h1=>?_;refine BJ<|EY<|BJ<|HN (hs x)<|BJ<|CJ<|CP h1 (λgq s2 h2=>?_) λ_ _ e=>e;obtain⟨it,fp,tn,J,H2,e,I2,T,bZ,eM,q⟩:=h2;subst e;refine BJ<|QB (Q:=λ_ s'=>wpAny (model X.prog X.w) X.A (pure ()) (λ_ s'=>∃ σ' H',Inv X pins σ' H' s'/\Q σ' H') X.xe s') ?_;exact qJ bq hc C I2 T bZ eM q λσ' H' s' I' q'=>BK ⟨σ',H',I',q'⟩
theorem YK{wi:TI}{Q:VK}(sc:Scope)(N N':List Str)(n:Nat)(hi:PI X t1 i1 wi)
  (h:wi σ H λJ H1=>∀ D,H1 D=none->∀ cl C s₀ H₀ ex,dU (eW X N' scope cl C s₀ H₀ ex) t1 f1 (lL (.ListComp elt [⟨t1,i1,f1,0⟩,⟨t2,i2,f2,0⟩,⟨t3,i3,f3,0⟩] scope pos) i2 1 (.ref D)<|compEnvC scope cl C X.env) J (λ_ H'=>Q (.ref D) H') (σ++List.replicate n none)<|upd H1 D<|.lst [])
  (hc:X.calm=true:=by rfl) (gE:X.env.scope=sc:=by rfl) (hN:X.N=N:=by rfl) (hk:jE sc scope N N'=true:=by decide +kernel) (hl:N'.length=N.length+n:=by rfl)
  (hs:∀ x,foldedSetIterable i1 X.env x=pure x:=by intro _;rfl):Ev X (.ListComp elt [⟨t1,i1,f1,0⟩,⟨t2,i2,f2,0⟩,⟨t3,i3,f3,0⟩] scope pos) σ H Q:=by
 refine⟨λpins s I=>?_⟩;subst gE hN;have ck:=bh.of hk;rw [eval_ListComp];refine DW (use:=none) rfl hs (mh λx hx hf=>I.ok.has x.1<|ck.free x hx hf) ck.kind ck.names (aE (hi pins s σ H _ I h) λv s1 h1=>aE h1 λgq s2 h2=>?_);obtain⟨it,fp,tn,J,H2,e,I2,T,bZ,eM,q⟩:=h2;subst e;refine oF (e:= .ListComp elt [⟨t1,i1,f1,0⟩,⟨t2,i2,f2,0⟩,⟨t3,i3,f3,0⟩] scope pos) (newAcc:=newList []) (o0:={cls:= .type "list",dict:=none,data:= .seq ([]:List Value).toArray}) (u0:=λ_=> .lst []) (λ_ _ _ h=>CT h<|by show(0:Nat)<=sizeLine;exact Be _) (λ_ _ _=>⟨Be _,[],0,.nil,An _ rfl⟩) (Q:=Q) (RR:=λacc C=>compPost (model X.prog X.w) X.A X.xe none (EP X pins σ Q) acc C) hc ck hl (inner:=λacc env=>lL (.ListComp elt [⟨t1,i1,f1,0⟩,⟨t2,i2,f2,0⟩,⟨t3,i3,f3,0⟩] scope pos) i2 1 acc env) (λ_ _=>YG) I2 T bZ eM q ?_;intro D C H' s' m IX hn hC c1 c2 c3 c4 qq;exact⟨m,hn,λh' fc=>⟨.ref D,H',IX.turned (t':=s'.toks) (λb o hb e=>fc.extBut b o hb e) hC (BX<|BX c1) (.inr c2) c3 c4,rfl,qq⟩⟩
end
section
variable{X:Cx}{tg:Expr}{ifs:List Expr}{inner:Sem Unit}{σ:St}{H:Hp}{a:Addr}{xs:List V}{after:St->Hp->Prop}
theorem YL(Pv:Nat->St->Hp->Prop)(h0:Pv 0 σ H)(hl:∀ i σ' H',i<=xs.length->Pv i σ' H'->aM X.K H' a xs)
  (hs:∀ i x σ' H',xs[i]?=some x->Pv i σ' H'->Eg X tg x σ' H' λσ2 H3=>Ei X ifs σ2 H3 λb H4=>if b=true then gD X inner σ2 H4 (Pv<|i+1) else Pv (i+1) σ2 H4)
  (hd:∀ σ' H',Pv xs.length σ' H'->after σ' H'):dU X tg ifs inner (uv X.K a) after σ H:=by
 refine⟨λi m σ' H'=>m=xs.length - i/\i<=xs.length/\Pv i σ' H',⟨_,rfl,Be _,h0⟩,?_⟩;rintro i m σ' H' ⟨rfl,hi,p⟩;have q:=hl i σ' H' hi p
 by_cases aK:i < xs.length
 ·refine .inr ⟨⟨xs,xs[i],q,by simp [aK]⟩,Pv<|i+1,λσ' H' p'=>⟨xs.length - (i+1),by omega,rfl,aK,p'⟩,λx H2 y=>?_⟩;obtain⟨e,y⟩:=y;subst e;exact hs i x σ' _ (y xs q) p
 ·have e:i=xs.length:=by omega
  subst e;exact .inl ⟨⟨xs,q,Ag _⟩,hd σ' H' p⟩
theorem YM(Pv:Nat->St->Hp->Prop)(h0:Pv 0 σ H)(hl:∀ i σ' H',i<=xs.length->Pv i σ' H'->ak X.K H' a xs)
  (hs:∀(i:Nat) x T σ' H',xs[i]?=some x->Pv i σ' H'->H' T=none->Eg X tg (.ref T) σ' (upd H' T<|.tup [.int (i:Int),x]) λσ2 H3=>Ei X ifs σ2 H3 λb H4=>if b=true then gD X inner σ2 H4 (Pv<|i+1) else Pv (i+1) σ2 H4)
  (hd:∀ σ' H',Pv xs.length σ' H'->after σ' H'):dU X tg ifs inner (wn X.K a) after σ H:=by
 refine⟨λi m σ' H'=>m=xs.length - i/\i<=xs.length/\Pv i σ' H',⟨_,rfl,Be _,h0⟩,?_⟩;rintro i m σ' H' ⟨rfl,hi,p⟩;have q:=hl i σ' H' hi p
 by_cases aK:i < xs.length
 ·refine .inr ⟨⟨xs,xs[i],q,by simp [aK]⟩,Pv<|i+1,λσ' H' p'=>⟨xs.length - (i+1),by omega,rfl,aK,p'⟩,λv H2 y=>?_⟩;obtain⟨T,x,hT,rfl,rfl,hx⟩:=y;exact hs i x T σ' _ (hx xs q) p hT
 ·have e:i=xs.length:=by omega
  subst e;exact .inl ⟨⟨xs,q,Ag _⟩,hd σ' H' p⟩
end
theorem My:∀{xs:List V} {us:List Value} (k:Nat),aq xs us->aq (xs.drop k) (us.drop k)
 | _,_,0,h=>h
 | _,_,k+1,.nil=> .nil
 | _,_,k+1,.cons _ t=>My k t
theorem pick_from(its:List Value){k:Nat}(hk:k<=1):slicePick its.toArray (some (k:Int)) none (some 2)=(ah<|its.drop k).toArray:=by
 unfold slicePick;have hb:sliceBounds (some (k:Int)) none (some 2) its.toArray.size=(((min k its.length:Nat):Int),(its.length:Int),2):=by
  show(max 0<|min (if(k:Int) < 0 then(k:Int)+_ else(k:Int)) _,_,_)=_;rw [BP (by omega),Ap];refine KY ?_ rfl;show max 0 (min (k:Int) (its.length:Int))=_;omega
 rw [hb]
 congr 1
 show((sliceRange ((min k its.length:Nat):Int) (its.length:Int) 2).filterMap (its.toArray[·]?))=ah (its.drop k);have hr:sliceRange ((min k its.length:Nat):Int) (its.length:Int) 2=(List.range<|(its.length - k+1) / 2).map λi=>k+2 * i:=by
  unfold sliceRange;have e1:(if(2:Int) > 0 then(if((min k its.length:Nat):Int) < (its.length:Int) then((its.length:Int) - ((min k its.length:Nat):Int)+2 - 1) / 2 else 0) else(if((min k its.length:Nat):Int) > (its.length:Int) then(((min k its.length:Nat):Int) - (its.length:Int) - 2 - 1) / (-2) else 0)).toNat=(its.length - k+1) / 2:=by
   rw [BL<|by decide]
   split <;> omega
  show(List.range _).map _=_;rw [e1];refine Es λi hi=>?_;have:=Bc.mp hi;omega
 rw [hr,List.filterMap_map];have hl:(its.drop k).length=its.length - k:=Bm;obtain⟨h1,h2⟩:=AJ (λi=>its.toArray[k+2 * i]?) ((its.length - k+1) / 2) λi hi=>⟨its[k+2 * i]'(by omega),by rw [<- Bg];exact Ab (l:=its)<|by omega⟩;apply Ck;intro i;show((List.range<|(its.length - k+1) / 2).filterMap λi=>its.toArray[k+2 * i]?)[i]?=_
 by_cases hi:i < (its.length - k+1) / 2
 ·rw [h2 i hi,ji,<- Bg,Cs]
 ·rw [Ay (by omega),Ay<|by rw [pj,hl];omega]
section
variable{X:Cx}{σ:St}{H:Hp}{Q:VK}
theorem YN{e lo:Expr}{j:Nat}{p1 p2 pos:Pos} (h:Ev X e σ H λx H1=>∃ a xs,x = .ref a/\ak X.K H1 a xs/\Ev X lo σ H1 λy H2=>∃ k:Nat,y = .int (k:Int)/\k<=1/\ak X.K H2 a xs/\∀ p,H2 p=none->Q (.ref p) (upd H2 p<|.lst<|ah<|xs.drop k)) :
  Ev X (.Subscript e (.Slice (some lo) none (some<|.Constant (.int 2) j p1) p2) pos) σ H Q:=by
 refine⟨λpins s I=>NZ<|aE (h.run pins s I) λv s1 ⟨x,H1,I1,r1,a,xs,ex,hx1,xX⟩=>?_⟩;subst ex;cases (show v=Value.ref a from r1);refine wpAny_Slice ?_;rw [MN];refine aE (xX.run pins s1 I1) λv0 YQ ⟨y0,Mz,YR,r0,k,YS,hk,hx,q⟩=>?_;subst YS;obtain⟨t0,rfl⟩:=r0;refine BK ?_;rw [MN];refine aE ((aA (X:=X) (i:=2) (j:=j) (p:=p1) (σ:=σ) (H:=Mz) (Q:=λy H2=>y = .int 2/\H2=Mz) ⟨rfl,rfl⟩).run pins YQ YR) λv2 s2 ⟨y,H2,I2,r2,ey,eh⟩=>?_;subst ey eh;obtain⟨t,rfl⟩:=r2;obtain⟨its,r,pl,hz⟩:=I2.list hx;have hlen:=r.length;have I3:Inv X pins σ H2 {s2 with heap:=s2.heap.push {cls:= .type "slice",data:= .fields #[.int (k:Int) t0,.none,.int 2 t]}}:=I2.kept (t':=s2.toks) λb ob q=>Ae _ q;have rQ:=pl.isList.push {cls:= .type "slice",data:= .fields #[.int (k:Int) t0,.none,.int 2 t]};show wpAny (model X.prog X.w) X.A (subscriptTail e _ (.ref a)<|.ref s2.heap.objs.size) (EP X pins σ Q) X.xe {s2 with heap:=s2.heap.push {cls:= .type "slice",data:= .fields #[.int (k:Int) t0,.none,.int 2 t]}};refine tail_any (ops:=[.ref a,.ref s2.heap.objs.size]) (T:= "list") (Heap.IsList.typeIs (s:={s2 with heap:=s2.heap.push {cls:= .type "slice",data:= .fields #[.int (k:Int) t0,.none,.int 2 t]}}) rQ) slot_list_getitem.lookup ?_ (by with_unfolding_all rfl);refine JB (s:={s2 with heap:=s2.heap.push {cls:= .type "slice",data:= .fields #[.int (k:Int) t0,.none,.int 2 t]}}) rQ (Heap.IsSliceOf.new ..) (.int (k:Int) t0) .none (.int 2 t) (by decide) ?_ (by rw [Ap];omega);rw [pick_from its hk];exact⟨.ref _,_,I3.l7 (t':=s2.toks) (AI<|My k r) (Bz (AH _)<|by rw [Bm];omega),rfl,q _ I3.fresh⟩
end
end L2
namespace Nt
open PySem L2 Classical
def cX{α:Type}(k:Nat)(w:List α):List α:=ah<|w.drop k
def cb(k:Nat):Nat->List (List End)->List (Nat×End)
 | _,[]=>[]
 | m,w :: ws=>((cX k w).map λe=>(m,e))++cb k (m+1) ws
def bM(k:Nat)(ws:List<|List End):List (Nat×End):=cb k 0 ws
theorem MA(k:Nat):∀(m:Nat) (ws vs:List<|List End),cb k m (ws++vs)=cb k m ws++cb k (m+ws.length) vs
 | m,[],vs=>rfl
 | m,w :: ws,vs=>by
  show _++cb k (m+1) (ws++vs)=(_++cb k (m+1) ws)++_;rw [MA k (m+1) ws vs,Aw,Bj,show m+1+ws.length=m+(ws.length+1) by omega]
theorem YT(k:Nat)(ws:List<|List End)(w:List End):bM k (ws++[w])=bM k ws++(cX k w).map λe=>(ws.length,e):=by
 unfold bM;rw [MA,Cr];show _++(_++[])=_;rw [Bh]
theorem MB(k:Nat):∀(m:Nat) (ws:List<|List End),(cb k m ws).map (·.2)=ws.flatMap (cX k)
 | m,[]=>rfl
 | m,w :: ws=>by
  unfold cb;rw [Ai,MB k (m+1) ws,Bv,By]
  congr 1
  exact List.map_id' _
theorem tF{n:Net}{e:End}:cX 1 (walker n e)=(ah<|walker n e).map (go 1 n):=by
 unfold walker cX;have l:=lg n e<|rW n e;apply Ck;intro i;rw [Ad,ji,ji,Cs]
 by_cases h:i < rW n e
 ·rw [show 1+2 * i=2 * i+1 by omega,rV n e _ i h,iP n e _ i h];rfl
 ·rw [Ay (by omega),Ay<|by omega];rfl
theorem MC{n:Net}:∀{ws:List (List End)},(∀ w∈ws,∃ e,e∈ends n/\w=walker n e)->ws.flatMap (cX 1)=(ws.flatMap ah).map (go 1 n)
 | [],_=>rfl
 | w :: ws,h=>by
  obtain⟨e,_,rfl⟩:=h w<|As ..;rw [By,By,Ai,tF,MC λv hv=>h v<|Ak _ hv]
theorem MD{n:Net}(T:aB n){k:Nat}(hk:k<=1):((bM k<|aG n).map λp=>aw n p.2).Perm (((aG n).flatMap ah).map<|aw n):=by
 have e:((bM k<|aG n).map λp=>aw n p.2)=((aG n).flatMap<|cX k).map (aw n):=by
  unfold bM;rw [<- MB k 0<|aG n,Bv];rfl
 rw [e]
 match k,hk with
 | 0,_=>exact List.Perm.refl _
 | 1,_=>
  rw [MC (pI T).wk,Bv];exact YF T
theorem C5{n:Net}(T:aB n){k:Nat}(hk:k<=1):((bM k<|aG n).map λp=>aw n p.2).Nodup:=(MD T hk).nodup_iff.mpr (pI T).nd
theorem YV{n:Net}(T:aB n){k:Nat}(hk:k<=1){z:Str}:z∈((bM k<|aG n).map λp=>aw n p.2)↔z∈ag n:=by
 rw [(MD T hk).mem_iff];refine⟨λh=>?_,λh=>Ed.mp<|by rw [Ms T h];exact Fh⟩;obtain⟨x,hx,rfl⟩:=Aj.mp h;obtain⟨y,hy⟩:=af.mp ((pI T).new x hx).1;rw [du hy];exact jM hy
noncomputable def fI(n:Net)(k:Nat)(z:Str):List (Nat×End):=(bM k<|aG n).filter λp=>decide (aw n p.2=z)
theorem wF{α:Type}{f:α->Str}:∀{l:List α},(l.map f).Nodup->∀{p:α},p∈l->(l.filter λx=>decide (f x=f p))=[p]
 | a :: l,hn,p,hp=>by
  rw [Bb,Bs] at hn;rw [QC]
  by_cases h:f a=f p
  ·rw [BL<|BW h];have e:a=p:=by
    rcases Am.mp hp with q | q
    ·exact q.symm
    ·exact absurd (by rw [h];exact Aj.mpr ⟨p,q,rfl⟩) hn.1
   subst e
   congr 1
   rw [List.filter_eq_nil_iff];intro x hx q;exact hn.1<|by rw [<- CQ q];exact Aj.mpr ⟨x,hx,rfl⟩
  ·rw [BP λq=>h<|CQ q]
   rcases Am.mp hp with q | q
   ·exact absurd (by rw [q]) h
   ·exact wF hn.2 q
theorem pJ{n:Net}(T:aB n){k:Nat}(hk:k<=1){z:Str}(hz:z∈ag n):∃ p,p∈bM k (aG n)/\aw n p.2=z/\fI n k z=[p]:=by
 obtain⟨p,hp,rfl⟩:=Aj.mp<|(YV T hk).mpr hz;exact⟨p,hp,rfl,wF (C5 T hk) hp⟩
theorem C6{n:Net}(T:aB n):∀(es:List End) (told:List Str),(∀ e∈es,e∈ends n)->∀(i:Nat) w,(cW n es told)[i]?=some w ->
  ∃ e l r,es=l++e :: r/\(∀ x∈l,aw n x∈told++(((cW n es told).take i).flatMap ah).map (aw n))/\aw n e∉told++(((cW n es told).take i).flatMap ah).map (aw n)/\w=walker n e
 | [],told,_,i,w,h=>by simp [cW] at h
 | e :: r,told,hE,i,w,h=>by
  have hr:∀ a∈r,a∈ends n:=λa ha=>hE a<|Ak _ ha;unfold cW at h ⊢
  by_cases c:aw n e∈told
  ·rw [BL c] at h ⊢;obtain⟨x,l,r',h1,h2,h3,h4⟩:=C6 T r told hr i w h;refine⟨x,e :: l,r',by rw [h1];rfl,λy hy=>?_,h3,h4⟩
   rcases Am.mp hy with q | q
   ·rw [q];exact Bl _ c
   ·exact h2 y q
  ·rw [BP c] at h ⊢
   match i with
   | 0=>
    cases h;refine⟨e,[],r,rfl,λy hy=>(nomatch hy),?_,rfl⟩
    simpa using c
   | i+1=>
    obtain⟨x,l,r',h1,h2,h3,h4⟩:=C6 T r (told++(ah<|walker n e).map (aw n)) hr i w h;have eq:(told++(((walker n e :: cW n r (told++(ah<|walker n e).map (aw n))).take<|i+1).flatMap ah).map (aw n))=(told++(ah<|walker n e).map (aw n))++(((cW n r<|told++(ah<|walker n e).map (aw n)).take i).flatMap ah).map (aw n):=by
     rw [List.take_succ_cons,By,Ai,Aw]
    rw [eq];refine⟨x,e :: l,r',by rw [h1];rfl,λy hy=>?_,h3,h4⟩
    rcases Am.mp hy with q | q
    ·rw [q];refine Bl _<|Az _<|Aj.mpr ⟨e,?_,rfl⟩;exact(ib T<|hE e<|As ..).mpr ⟨0,rfl⟩
    ·exact h2 y q
noncomputable def ME(n:Net)(i:Nat):List Str:=(((aG n).take i).flatMap ah).map<|aw n
theorem YW{n:Net}(T:aB n){i:Nat}{w:List End}(h:(aG n)[i]?=some w):∃ e l r,ends n=l++e :: r/\(∀ x∈l,aw n x∈ME n i)/\aw n e∉ME n i/\w=walker n e:=by
 obtain⟨e,l,r,h1,h2,h3,h4⟩:=C6 T (ends n) [] (λ_ h=>h) i w h;exact⟨e,l,r,h1,h2,h3,h4⟩
end Nt
namespace H3
open PySem L2 Nt bt bT
open PyProof.Rows (sortedS)
open Classical
def cM(n:Net)(H:Hp)(L:Addr)(ts:List Addr)(ps:List<|Nat×Nt.End):Prop:=H L=some (.lst<|ts.map V.ref)/\ts.length=ps.length/\∀(i:Nat) t p,ts[i]?=some t->ps[i]?=some p->∃ u,H t=some (.tup [.int (p.1:Int),.ref u])/\H u=some (TN n p.2)
theorem cM.same{n:Net}{H H':Hp}{L:Addr}{ts:List Addr}{ps:List (Nat×Nt.End)}(h:cM n H L ts ps)(s:aj H H'):cM n H' L ts ps:=⟨s _ _ h.1,h.2.1,λi t p a b=>let ⟨u,q1,q2⟩:=h.2.2 i t p a b;⟨u,s _ _ q1,s _ _ q2⟩⟩
theorem cM.snoc{n:Net}{H:Hp}{L t u:Addr}{ts:List Addr}{ps:List (Nat×Nt.End)}{p:Nat×Nt.End}(h:cM n H L ts ps)(ht:H t=some (.tup [.int (p.1:Int),.ref u]))(hu:H u=some (TN n p.2)):cM n (upd H L<|.lst<|ts.map V.ref++[.ref t]) L (ts++[t]) (ps++[p]):=by
 obtain⟨h1,h2,h3⟩:=h;have k:∀ b xs,H b=some (.tup xs)->(upd H L<|.lst<|ts.map V.ref++[.ref t]) b=some (.tup xs):=λb xs q=>by rw [au<|bO q h1 λz=>nomatch z];exact q
 refine⟨by rw [ax,Ai];rfl,by rw [Af,Af,h2];rfl,λi a x ha hx=>?_⟩
 by_cases hi:i < ts.length
 ·rw [At hi] at ha;rw [At<|by omega] at hx;obtain⟨v,q1,q2⟩:=h3 i a x ha hx;exact⟨v,k _ _ q1,k _ _ q2⟩
 ·rw [Au<|by omega] at ha hx;have e:i - ts.length=0:=by
   have:=(Ac.mp ha).1;simp at this;omega
  rw [e] at ha;rw [<- h2,e] at hx;cases ha;cases hx;exact⟨u,k _ _ ht,k _ _ hu⟩
noncomputable def fz(n:Net)(z:Str)(l:List<|Nat×Nt.End):List (Nat×Nt.End):=l.filter λp=>decide (aw n p.2=z)
noncomputable def tG(n:Net)(z:Str):List (Nat×Nt.End):=fz n z (bM 0<|aG n)++fz n z (bM 1<|aG n)
def C7(c:Str->Addr):Sp:=λvs H Q E=>∃(R:Addr) (as:List<|Addr×Addr) (n:Net) (z:Str),vs=[.ref R,.str z]/\ai H R as n/\(n.map (·.1)).Nodup/\aB n/\n.length<=60/\(ag n).length<=60 /\
 (z∉ag n->∀ H',aj H H'->E (.ref<|c "NoTie") none H')/\(z∈ag n->∀ L ts H',aj H H'->H L=none->cM n H' L ts (tG n z)->Q (.ref L) H')
theorem YX(n:Net)(z:Str)(l:List<|Nat×Nt.End)(p:Nat×Nt.End):fz n z (l++[p])=fz n z l++(if aw n p.2=z then [p] else []):=by
 unfold fz;rw [LK,QC]
 by_cases h:aw n p.2=z
 ·rw [BL<|BW h,BL h];rfl
 ·rw [BP λq=>h<|CQ q,BP h];rfl
section
variable{P:Program}{w:World}{K:PySem.W.Frag}{mg:Str->Option Value}{base:Heap}
abbrev MG:List Str:=["rows","tie","names","walkers"]
abbrev tH:List Str:=["rows","tie","names","walkers","turn","number","walker","end"]
theorem tI:ao MG ["rows","tie"] (aV vy):=⟨rfl,rfl,rfl,by decide +kernel,rfl,by decide +kernel,by decide +kernel⟩
theorem wG:tH.Nodup:=by decide +kernel
theorem YY{f:Addr}{fd:FuncData}{c:Str->Addr}(F:bu K "passes_of" "passes_of" vy f fd)(T:Txt mg)(cl:Cl K mg c)(GN:dP P w K mg base 4 "need_tie" ["rows","tie"]<|CL c)(GB:aP P w K mg base 4 "ties_by_end" ["rows"] iO)(GW:aP P w K mg base 4 "walkers_of" ["rows"] v8) :
  aD P w K mg base (XF P w) 5 f fd ["rows","tie"] (C7 c):=by
 refine F.gx tI (λvs H Q E h=>?_) λb0 H vs Q hr h=>?_
 ·obtain⟨R,as,n,z,rfl,_⟩:=h;rfl
 obtain⟨R,as,n,z,rfl,hR,hN,hT,hn,jm,qE,qQ⟩:=h;have nd:=tI.nd;have hu:=hr.u1;have few:L4 n:=λzs h1 h2=>by have:=kT h1 h2;omega
 have jg:=jO n;show Run _ _ _ [some<|.ref R,some<|.str z,none,none] H;refine fb (LY GN hr X9<|al<|ae 0<|al<|ae 1<|ay ⟨R,as,n,z,rfl,hR,by omega,by omega,few,λhz=>qE hz,λhz H1 s1=>?_⟩);refine aO 2 nd (bJ GB hr<|al<|ae 0<|ay ⟨R,as,n,rfl,hR.same s1,hN,by omega,by omega,λd kvs H2 s2 n2 e2 C8=>?_⟩);refine aO 3 nd (bJ GW hr<|al<|ae 0<|ay ⟨R,as,n,rfl,hR.same<|s1.trans s2,hN,hT,by omega,by omega,λW ls H3 s3 n3 hW fW=>?_⟩);have YZ:=s3 _ _ e2;have wH:=s1.trans<|s2.trans s3;have wl:(aG n).length<=(ends n).length:=sJ n (ends n) [];have C9:=nK hT (ends n) [] λe he=>he;have DA:=hW.len;show Run _ _ _ [some<|.ref R,some<|.str z,some<|.ref d,some<|.ref W] H3;refine bS<|YK (aV vy) MG tH 4 (O0 bw)<|eX<|al<|aA<|al<|aA<|ay ⟨Z2,λtp Y1=>⟨tp,rfl,⟨_,aM.of ax⟩,λD hD cl' C' s₀ H₀ ex=>?_⟩⟩;have s4:=aN Y1<|.tup [.int 0,.int 1];have MH:(upd H3 tp<|.tup [.int 0,.int 1]) tp=some (.tup [.int 0,.int 1]):=ax;have wI:=hW.same s4;have DB:=s4 _ _ YZ;have DC:=wH.trans s4;generalize upd H3 tp (.tup [.int 0,.int 1])=H4 at s4 MH wI DB DC hD;have iQ:=hU DC hD;have sD:=aN hD<|.lst [];refine YL (xs:=[.int 0,.int 1]) (λt σ' H'=>(∃ v1 v2 v3 v4,σ'=[some<|.ref R,some<|.str z,some<|.ref d,some<|.ref W]++[v1,v2,v3,v4])/\aj H4 H'/\∃ ts,ts.length<=10000 * t/\cM n H' D ts (if t=0 then [] else if t=1 then fz n z (bM 0<|aG n) else tG n z)) ⟨⟨none,none,none,none,rfl⟩,sD,[],Be _,ax,rfl,λi t p h=>by simp at h⟩ ?_ ?_ ?_
 ·rintro t σ' H' _ ⟨_,sm,_⟩;exact aM.of<|sm _ _ MH
 ·rintro t x σ' H' hx ⟨⟨v1,v2,v3,v4,rfl⟩,sm,ts,jr,hP⟩;have ht:t < 2:=(Ac.mp hx).1;obtain rfl:x = .int (t:Int):=by
   match t,ht with
   | 0,_=>cases hx;rfl
   | 1,_=>cases hx;rfl
  refine bo 4 wG ?_;refine d8<|bI ?_;refine Mx YH rfl rfl (K5 rfl T.enum dS) (al<|ae 3<|ay ⟨W,rfl,⟨_,ak.of<|sm _ _ wI.lst⟩,?_⟩);generalize qO:(if t=0 then [] else if t=1 then fz n z (bM 0<|aG n) else tG n z)=tJ at hP;have DE:(if t+1=0 then [] else if t+1=1 then fz n z (bM 0<|aG n) else tG n z)=tJ++fz n z (bM t<|aG n):=by
   rcases (show t=0\/t=1 by omega) with q | q
   ·rw [<- qO,q];rfl
   ·rw [<- qO,q];rfl
  rw [DE];refine YM (xs:=ls.map V.ref) (λi σ' bL=>(∃ v2 v3 v4,σ'=[some<|.ref R,some<|.str z,some<|.ref d,some<|.ref W]++[some<|.int (t:Int),v2,v3,v4])/\aj H4 bL/\∃ ts,ts.length<=10000 * t+130 * i/\cM n bL D ts (tJ++fz n z (bM t<|(aG n).take i))) ⟨⟨_,_,_,rfl⟩,sm,ts,by omega,by
    rw [List.take_zero];show cM n H' D ts (tJ++[]);rw [Bh];exact hP⟩ ?_ ?_ ?_
  ·rintro i σ' bL _ ⟨_,sm,_⟩;exact ak.of<|sm _ _ wI.lst
  ·rintro i x Tq σ' bL hx ⟨⟨v2,v3,v4,rfl⟩,sm,ts,jr,hP⟩ Y6;rw [Ad,Ax] at hx;obtain⟨l,hl,rfl⟩:=hx;have jJ:i < (aG n).length:=by have:=(Ac.mp hl).1;rw [<- DA];exact this
   have iW:=Ab jJ;have iT:(aG n).take (i+1)=(aG n).take i++[(aG n)[i]]:=by rw [Ce,iW];rfl
   obtain⟨us,Y7,hE⟩:=(wI.same sm).at' i l _ hl iW;have wk:=C9 _<|Al iW;generalize (aG n)[i]=es at iT hE wk;have sq:=aN Y6<|.tup [.int (i:Int),.ref l];have fH:=hE.1;have Y8:=wk.few;have DF:((aG n).take i).length=i:=by rw [Bi];omega
   refine jQ rfl (aM.of ax) (bo 5 wG<|bo 6 wG ?_);refine d8<|bI ?_;have MI:=sq _ _ Y7;refine Mx YJ rfl rfl (gs bw) (YN<|ae 6 ⟨l,_,rfl,ak.of MI,ae 4 ⟨t,rfl,by omega,ak.of MI,λpl gW=>⟨pl,rfl,⟨_,ak.of ax⟩,?_⟩⟩⟩);rw [<- Ey,AW];have Y9:cK n bL (L2.ah<|us.drop t) (cX t es):=cK.ah ⟨by rw [Bm,Bm,fH],λj a b h1 h2=>by rw [Cs] at h1 h2;exact hE.2 _ a b h1 h2⟩;have js:∀ e∈cX t es,e∈ends n:=λe he=>by
    obtain⟨m,hm⟩:=Bt he;unfold cX at hm;rw [ji,Cs] at hm;exact wk.ends e<|Al hm
   have lpr:(cX t es).length<=es.length:=by unfold cX;exact Bz (AH _)<|by rw [Bm];omega
   have sp:=aN gW<|.lst<|(L2.ah<|us.drop t).map V.ref;have wJ:=sq.trans sp;have oS:(upd (upd bL Tq<|.tup [.int (i:Int),.ref l]) pl<|.lst<|(L2.ah<|us.drop t).map V.ref) pl=some (.lst<|(L2.ah<|us.drop t).map V.ref):=ax;have wK:=Y9.same wJ;have wL:=hP.same wJ;have sm3:=sm.trans wJ;generalize upd (upd bL Tq<|.tup [.int (i:Int),.ref l]) pl (.lst<|(L2.ah<|us.drop t).map V.ref)=H5 at wJ oS wK wL sm3;have DH:pl≠D:=λe=>by rw [e] at gW;rw [sq _ _ hP.1] at gW;cases gW
   have bnd:∀(m:Nat) (l:List<|Nat×Nt.End),(fz n z l).length<=l.length:=λm l=>RK ..;refine ph (xs:=(L2.ah<|us.drop t).map V.ref) (λm σ' H6=>(∃ v4,σ'=[some<|.ref R,some<|.str z,some<|.ref d,some<|.ref W]++[some<|.int (t:Int),some<|.int (i:Int),some<|.ref l,v4])/\(∀ b o,b≠D->H5 b=some o->H6 b=some o)/\∃ ts,ts.length<=10000 * t+130 * i+m/\cM n H6 D ts (tJ++fz n z (bM t ((aG n).take i)++((cX t es).take m).map λe=>(i,e)))) ⟨⟨_,rfl⟩,λb o _ h=>h,ts,by omega,by
     show cM n H5 D ts (tJ++fz n z (_++[]));rw [Bh];exact wL⟩ ?_ ?_ ?_
   ·rintro m σ' H6 _ ⟨_,kb,_⟩;exact ak.of<|kb _ _ DH oS
   ·rintro m x σ' H6 hx ⟨⟨v4,rfl⟩,kb,ts,jr,hP⟩;rw [Ad,Ax] at hx;obtain⟨te,gg,rfl⟩:=hx;have l3:=wK.1;have hm:m < (cX t es).length:=by have:=(Ac.mp gg).1;omega
    have oO:=Ab hm;have pg:((cX t es).take<|m+1).map (λe=>(i,e))=((cX t es).take m).map (λe=>(i,e))++[(i,(cX t es)[m])]:=by rw [Ce,oO,Ai];rfl
    have DI:=wK.2 m te _ gg oO;have jh:=js _<|Al oO;generalize (cX t es)[m]=e at pg DI jh;have tK:=kb _ _ (bO DI wL.1 λz=>nomatch z) DI;have Za:H6 d=some (.dT kvs):=kb _ _ (bO (sm3 _ _ DB) wL.1 λz=>nomatch z)<|sm3 _ _ DB;obtain⟨y,hy⟩:=af.mp jh;have B8:bb H6 d (.ref te) (some<|.str y):=by rw [<- C8 e y hy];exact bb.t (k:=key n e) Za tK
    refine bo 7 wG ?_;refine yA<|cB lX<|fU hu<|ae 2<|ae 7 ⟨d,.str y,rfl,B8,ae 1 ⟨rfl,_,rfl,?_⟩⟩;have ek:decide (V.str y=V.str z)=decide (aw n e=z):=by rw [du hy];exact decide_eq_decide.mpr ⟨λk=>V.str.inj k,λk=>by rw [k]⟩
    show if decide (V.str y=V.str z)=true then _ else _;rw [ek,pg,<- Aw,YX]
    by_cases c1:aw n e=z
    ·rw [BW c1,BL c1,<- Aw];refine bI<|yz<|eX<|al<|ae 5<|al<|ae 7<|ay ⟨Z2,λtt Zb=>?_⟩;have st:=aN Zb<|.tup [.int (i:Int),.ref te];have ML:=hP.same st;have nS:ts.length<=100000:=by omega
     refine⟨_,ML.1,by rw [Aa];exact cf nS,⟨_,rfl⟩,λb o hb h=>by rw [au hb];exact st _ _<|kb b o hb h,ts++[tt],by rw [Af];show ts.length+1<=_;omega,ML.snoc (p:=(i,e)) ax<|st _ _ tK⟩
    ·rw [BR c1,BP c1,Bh];exact bH ⟨⟨_,rfl⟩,kb,ts,by omega,hP⟩
   ·rintro σ' H6 ⟨⟨v4,rfl⟩,kb,ts,jr,hP⟩;have l3:=wK.1;rw [Aa,l3,Ca] at hP;rw [Aa,l3] at jr;refine⟨⟨_,_,_,rfl⟩,λb o h=>kb b o (a9 h hD)<|sm3 _ _ h,ts,by omega,?_⟩;rw [iT,YT,DF];exact hP
  ·rintro σ' bL ⟨⟨v2,v3,v4,rfl⟩,sm,ts,jr,hP⟩;rw [Aa,DA] at jr;have jr:ts.length<=10000 * t+130 * (aG n).length:=jr;rw [Aa,show(aG n).take ls.length=aG n from Cd<|by rw [DA];exact Ag _] at hP;exact⟨⟨_,_,_,_,rfl⟩,sm,ts,by omega,hP⟩
 ·rintro σ' H' ⟨_,sm,ts,_,hP⟩;exact qQ hz D ts H' (DC.trans sm) iQ hP
end
end H3
namespace H3
open PySem L2 Nt bt
def DJ:Sp:=λvs H Q _=>∃(R W:Addr) (as:List<|Addr×Addr) (n:Net) (ts:List Addr) (es:List Nt.End),vs=[.ref R,.ref W]/\ai H R as n/\(n.map (·.1)).Nodup/\n.length<=1000/\H W=some (.lst<|ts.map V.ref)/\cK n H ts es/\(∀ e∈es,e∈ends n)/\es.length<=1000 /\
 ∀(l:Addr) (H':Hp),aj H H'->H l=none->H' l=some (Ls<|es.map<|aw n)->Q (.ref l) H'
section
variable{P:Program}{w:World}{K:PySem.W.Frag}{mg:Str->Option Value}{base:Heap}
abbrev MM:List Str:=["_law_rows","_law_walker"]
abbrev nU:List Str:=["_law_rows","_law_walker","_law_end"]
abbrev tL:List Str:=["_law_rows","_law_walker","_law_end","_law_row"]
theorem tM:ao MM ["_law_rows","_law_walker"] (aV mL):=⟨rfl,rfl,rfl,by decide +kernel,rfl,by decide +kernel,by decide +kernel⟩
theorem Zc:nU.Nodup:=by decide +kernel
theorem Zd:tL.Nodup:=by decide +kernel
def Zf:Scope:=match fS mL with
 | .Return (some<|.ListComp _ _ sc _) _ :: _=>sc
 | _=>aV mL
def Zg:Scope:=relabel Zf<|PyProof.Rows.envOfC "_law_ties" (aV mL) 0 0 .none
theorem Zh{f:Addr}{fd:FuncData}(F:bu K "_law_ties" "_law_ties" mL f fd)(T:Txt mg):aD P w K mg base bD 1 f fd ["_law_rows","_law_walker"] DJ:=by
 refine F.go tM (λvs H Q E h=>?_) λbn A outer s H vs Q E hr h=>?_
 ·obtain⟨R,W,as,n,ts,es,rfl,_⟩:=h;rfl
 obtain⟨R,W,as,n,ts,es,rfl,hR,hN,hn,hW,hE,rD,hle,q⟩:=h;have nd:=tM.nd;have cA:=hR.len;have hl:=hE.1;show Run _ _ _ [some<|.ref R,some<|.ref W] H;refine bS<|kL (aV mL) MM nU 1 (gs bw)<|ae 1 ⟨W,rfl,⟨_,ak.of hW⟩,λD hD=>?_⟩;refine oW (xs:=ts.map V.ref) (λi σ' H'=>(∃ v,σ'=[some<|.ref R,some<|.ref W]++[v])/\aj H H'/\H' D=some (Ls<|(es.take i).map<|aw n)) ⟨⟨none,rfl⟩,aN hD _,ax⟩ ?_ ?_ ?_
 ·rintro i σ' H' _ ⟨_,sm,_⟩;exact ak.of<|sm _ _ hW
 ·rintro i x σ' H' hx ⟨⟨v,rfl⟩,sm,eD⟩;rw [Ad,Ax] at hx;obtain⟨t,ht,rfl⟩:=hx;have hi:i < es.length:=by have:=(Ac.mp ht).1;omega
  have he:es[i]?=some es[i]:=Ab hi;have mR:es.take (i+1)=es.take i++[es[i]]:=by rw [Ce,he];rfl
  generalize jo:es[i]=e at he mR;have gg:=hE.2 i t e ht he;have jh:=rD e<|Al he;obtain⟨z,hz⟩:=af.mp jh;have jU:aw n e=z:=du hz;intro cl C s₀ H₀ ex;refine bo 2 Zc ?_;intro cl C s₀ H₀ ex;refine d8 ?_;rw [BL rfl];intro cl C s₀ H₀ ex;refine aT cr<|kL Zg nU tL 1 (gs bw)<|ae 0 ⟨R,rfl,⟨_,ak.of<|sm _ _ hR.lst⟩,λD2 jl=>?_⟩;have nDD:D≠D2:=a9 eD jl;refine oW (xs:=as.map λa=>V.ref a.1) (λj σ' H2=>(∃ v,σ'=[some<|.ref R,some<|.ref W,some<|.ref t]++[v])/\aj H' H2/\H2 D2=some (Ls (if e.1 < j then [z] else []))) ⟨⟨none,rfl⟩,aN jl _,ax⟩ ?_ ?_ ?_
  ·rintro j σ' H2 _ ⟨_,kd,_⟩;exact ak.of<|kd _ _<|sm _ _ hR.lst
  ·rintro j x σ' H2 hx ⟨⟨v,rfl⟩,kd,tN⟩;have hj:j < n.length:=by
    have:=(Ac.mp hx).1;rw [Aa] at this;omega
   obtain⟨b,eb,dX,et,el,er⟩:=(hR.same<|sm.trans kd).at hj;rw [Ad,eb] at hx;cases hx;have tO:=(sm.trans kd) _ _ gg;intro cl C s₀ H₀ ex;refine bo 3 Zd ?_;intro cl C s₀ H₀ ex;refine yA<|cB lX<|aT bU<|ae 3<|aA ⟨b.1,_,_,.str n[j].1,rfl,rfl,aM.of et,rfl,aT bU<|ae 2<|aA ⟨t,_,_,.str<|nameAt n e.1,rfl,rfl,aM.of tO,rfl,rfl,_,rfl,?_⟩⟩;have jg:=c7 hz;have ek:decide (V.str n[j].1=V.str (nameAt n e.1))=decide (e.1=j):=by
    refine decide_eq_decide.mpr ⟨λk=>?_,λk=>?_⟩
    ·have k:=V.str.inj k;exact(Mi hN hj jg<|by rw [B' hj];exact k).symm
    ·rw [<- m8 hj,k]
   show if decide (V.str n[j].1=V.str (nameAt n e.1))=true then _ else _;rw [ek];refine gu (λc=>?_) λc=>?_
   ·have c:=CQ c;subst c;intro cl C s₀ H₀ ex;have iD:(row n e.1)[e.2]?=some z:=hz;refine aT cr<|aT bU<|ae 3<|aA ⟨b.1,_,_,.ref b.2,rfl,rfl,aM.of et,rfl,aT bU<|ae 2<|aA ⟨t,_,_,.int (e.2:Int),rfl,rfl,aM.of tO,rfl,b.2,_,_,.str z,rfl,rfl,ak.of el,vb iD,_,tN,?_,⟨_,rfl⟩,eF kd jl,?_⟩⟩
    ·rw [BP<|Ch _];exact cf<|by decide
    ·rw [ax,BP<|Ch _,BL<|El _];rfl
   ·have c:=of_decide_eq_false<|Ds.mpr c;refine⟨⟨_,rfl⟩,kd,?_⟩;rw [tN]
    by_cases k:e.1 < j
    ·rw [BL k,BL<|by omega]
    ·rw [BP k,BP<|by omega]
  ·rintro σ' H2 ⟨_,kd,tN⟩;rw [Aa,cA,BL<|c7 hz] at tN;refine aA ⟨D2,_,_,.str z,rfl,rfl,ak.of tN,rfl,_,kd _ _ eD,?_,⟨_,rfl⟩,eF (sm.trans kd) hD,?_⟩
   ·rw [Aa,Aa,Bi];exact cf<|by omega
   ·rw [ax,mR,Ai];show some (HO.lst<|((es.take i).map<|aw n).map V.str++[V.str z])=some (HO.lst<|((es.take i).map (aw n)++[aw n e]).map V.str);rw [Ai];show some (HO.lst<|((es.take i).map<|aw n).map V.str++[V.str z])=some (HO.lst<|((es.take i).map<|aw n).map V.str++[V.str<|aw n e]);rw [jU]
 rintro σ' H' ⟨_,sm,eD⟩;have fH:es.take (ts.map V.ref).length=es:=Cd (by rw [Aa];omega);rw [fH] at eD;exact q D H' sm hD eD
end
end H3
namespace L2
open PySem PySem.Spec PyProof.Rows bt
section
variable{X:Cx}
end
end L2
namespace L2
open PySem PySem.Spec PyProof.Rows
def DL(K:PySem.W.Frag)(a:Addr)(xs:List V):It:=⟨λi H=>i < xs.length/\ak K H a xs,λi H x H'=>H'=H/\xs[xs.length - 1 - i]?=some x,λi H=>xs.length<=i/\ak K H a xs⟩
theorem Zi{P:Program}{w:World}{K:PySem.W.Frag}{tg:Expr}(a it:Addr)(xs:List V):Turn P w K tg (DL K a xs) [it] it (λi h=>i<=xs.length/\h.IsRevIter it a ((xs.length:Int) - 1 - (i:Int))) where
 mem:=by simp
 obj:=λi h st b hb=>by
  have e:b=it:=by simpa using hb
  subst e;obtain⟨_,o,e,c,d⟩:=st;exact⟨o,e,λv z=>by rw [d] at z;cases z⟩
 keep:=λi h h' st k=>⟨st.1,st.2.at λo e=>k it (by simp) o e⟩
 item:=by
  intro X hP hw hK hc i pins s σ H E I hf st hg;subst hP hw hK;obtain⟨hi,hq⟩:=hg;obtain⟨its,rv,p,hz⟩:=I.list hq;have hx:xs[xs.length - 1 - i]?=some (xs[xs.length - 1 - i]'(by omega)):=Ab (by omega);obtain⟨u,hu,ru⟩:=rv.get hx;obtain⟨f0,f1,f2,f3,f4,f5⟩:=hf it (by simp);have e1:(xs.length:Int) - 1 - (i:Int)=((xs.length - 1 - i:Nat):Int):=by omega
  have bZ:=st.2;rw [e1] at bZ;refine wpAny_pyNext_rev_item bZ p.isList (x:=u) (by simpa using hu) λh' cC sb=>?_;have I1:Inv X pins σ H {s with heap:=h'}:=I.turned (t':=s.toks) (λb o hb e=>(sb.2 b hb).trans e) f0 f1 f3 f4 f5;obtain⟨o,e,c,d⟩:=id cC;have e2:((xs.length - 1 - i:Nat):Int) - 1=(xs.length:Int) - 1 - ((i+1:Nat):Int):=by omega
  rw [e2] at cC;exact⟨u,rfl,oq (s:={s with heap:=h'}) e c d (by decide) ⟨_,H,I1,ru,⟨rfl,hx⟩,⟨hi,cC⟩,λb hb=>(hf b hb).1⟩⟩
 done:=by
  intro X hP hw hK hc i pins s σ H E I hf st hg;subst hP hw hK;obtain⟨hi,hq⟩:=hg;obtain⟨f0,f1,f2,f3,f4,f5⟩:=hf it (by simp);have bZ:=st.2;rw [show(xs.length:Int) - 1 - (i:Int)=-1 by have:=st.1;omega] at bZ;exact wpAny_pyNext_rev_end (I.ok.hd hc) bZ λh' eb=>⟨rfl,I.turned (t':=s.toks) (λb o hb e=>eb b o hb e) f0 f1 f3 f4 f5⟩
 self:=λ_ _ _ _ _ st h=>wpAny_pyIter_revIter st.2 h
section
variable{X:Cx}
theorem boot_reversed:bootBuiltins "reversed" = some (.type "reversed"):=by decide +kernel
def DM(K:PySem.W.Frag)(ta:TA):TI:=λσ H R=>ta σ H λvs H1=>∃ a xs,vs=[.ref a]/\ak K H1 a xs/\R (DL K a xs) H1
theorem Zj{tg a:Expr}{ta:TA}{p pos:Pos}(hg:Gl X "reversed")(hm:X.mg "reversed" = none)(ha:PA X [a] ta)(hs:starEach [a] X.env=[(false,eval a X.env)]:=by rfl) :
  PI X tg (.Call (.Name "reversed" p) [a] [] pos) (DM X.K ta):=by
 intro pins s σ H R I h;refine Call_<|i4 I hg hm boot_reversed<|DX (aE (ha pos pins s σ H _ I h) λus s1 ⟨vs,H1,I1,r1,q1⟩=>?_) hs rfl;obtain⟨x,xs,e,hx,q⟩:=q1;subst e;obtain⟨u,rfl,ru⟩:=r1.one;cases (show u=Value.ref x from ru);obtain⟨eJ,iI,p1,hG⟩:=I1.list hx;have l1:=iI.length;refine call_reversed_list p1.isList ?_;have hit:(s1.heap.push<|revObj x<|(eJ.toArray.size:Int) - 1).IsRevIter s1.heap.objs.size x ((xs.length:Int) - 1 - ((0:Nat):Int)):=⟨_,An _ rfl,rfl,by
  show Data.fields #[Value.ref x,rawInt<|(eJ.toArray.size:Int) - 1]=_;rw [Ap,<- l1];simp⟩
 refine wpAny_pyIter_revIter (s:={s1 with heap:=_}) hit ?_;refine⟨s1.heap.objs.size,[s1.heap.objs.size],_,_,H1,rfl,I1.kept (t':=s1.toks) λb o e=>Ae _ e,Zi x _ xs,⟨Be _,hit⟩,λb hb=>?_,q⟩;have e:b=s1.heap.objs.size:=by simpa using hb
 subst e;exact I1.dF (Ag _)<|I1.aC.fresh<|Ag _
end
section
variable{X:Cx}{elt tg:Expr}{ifs:List Expr}{scope:Scope}{σ:St}{H:Hp}{N':List Str}{A a:Addr}{xs:List V}{after:Hp->Prop}
theorem Zk(Pv:Nat->St->Hp->Prop)(h0:Pv 0 σ H)(hl:∀ i σ' H',i<=xs.length->Pv i σ' H'->ak X.K H' a xs)
  (hs : ∀ i x σ' H', i < xs.length → xs[xs.length - 1 - i]? = some x → Pv i σ' H' → qF X N' scope tg x σ' H' λσ2 H3 => qG X N' scope ifs σ2 H3 λb H4 =>
   if b=true then qD X N' scope elt σ2 H4 λv H5=>∃ ys,H5 A=some (.lst ys)/\ys.length < sizeLine/\Pv (i+1) σ2 (upd H5 A<|.lst<|ys++[v]) else Pv (i+1) σ2 H4)
  (hd:∀ σ' H',Pv xs.length σ' H'->after H'):jD X N' scope tg ifs elt (DL X.K a xs) A after σ H:=by
 refine⟨λi m σ' H'=>m=xs.length - i/\i<=xs.length/\Pv i σ' H',⟨_,rfl,Be _,h0⟩,?_⟩;rintro i m σ' H' ⟨rfl,hi,p⟩;have q:=hl i σ' H' hi p
 by_cases aK:i < xs.length
 ·refine .inr ⟨⟨aK,q⟩,Pv<|i+1,λσ' H' p'=>⟨xs.length - (i+1),by omega,rfl,aK,p'⟩,λv H2 y=>?_⟩;obtain⟨rfl,hx⟩:=y;exact hs i v σ' _ aK hx p
 ·have e:i=xs.length:=by omega
  subst e;exact .inl ⟨⟨Ag _,q⟩,hd σ' H' p⟩
end
def DS(k:Nat):It:=⟨λi _=>i < k,λi H x H'=>H'=H/\x = .int (2 * (i:Int)),λi _=>k<=i⟩
theorem Zm{P:Program}{w:World}{K:PySem.W.Frag}{tg:Expr}(it:Addr)(n:Nat):Turn P w K tg (DS n) [it] it (λi h=>IsRangeIter h it (0+(i:Nat) * 2) ((n:Int) - (i:Nat)) 2) where
 mem:=by simp
 obj:=λi h st b hb=>by
  have e:b=it:=by simpa using hb
  subst e;exact⟨_,st,λv z=>by
   have z':Data.fields _=Data.cell v:=z;cases z'⟩
 keep:=λi h h' st k=>k it (by simp) _ st
 item:=by
  intro X hP hw hK hc i pins s σ H E I hf st hg;subst hP hw hK;obtain⟨f0,f1,f2,f3,f4,f5⟩:=hf it (by simp);have W:=Walks.range (prog:=X.prog) (w:=X.w) (I.ok.hd hc) it 0 2 n;refine W.item i s _ _ hg st λv h' tk hv cC kk=>?_;obtain⟨t,rfl⟩:=hv;have I1:Inv X pins σ H {s with heap:=h',toks:=tk}:=I.turned (λb o hb e=>kk b o (by simpa using hb) e) f0 f1 f3 f4 f5;refine⟨_,rfl,oq (s:={s with heap:=h',toks:=tk}) (n:= "range_iterator") cC rfl rfl (by decide) ⟨.int<|2 * (i:Int),H,I1,⟨t,?_⟩,⟨rfl,rfl⟩,cC,λb hb=>(hf b hb).1⟩⟩;rw [show(0:Int)+(i:Int) * 2=2 * (i:Int) by omega]
 done:=by
  intro X hP hw hK hc i pins s σ H E I hf st hg;subst hP hw hK;obtain⟨f0,f1,f2,f3,f4,f5⟩:=hf it (by simp);exact wpAny_pyNext_range_end (I.ok.hd hc) st (by have:n<=i:=hg;omega) λh' eb=>⟨rfl,I.turned (t':=s.toks) (λb o hb e=>eb b o hb e) f0 f1 f3 f4 f5⟩
 self:=λ_ _ _ _ _ st h=>wpAny_pyIter_rangeiter st h
section
variable{X:Cx}{tg:Expr}
theorem MO(k:Nat):Builtin.Range.rangeSize 0 (2 * (k:Int)) 2=(k:Int):=by
 unfold Builtin.Range.rangeSize;simp only [show(2:Int) > 0 by decide,CZ]
 split <;> omega
theorem Zn{k:Nat}(h:k<=1000):Builtin.Range.small 0 (2 * (k:Int)) 2=true:=by
 unfold Builtin.Range.small;rw [MO];have h1:∀ x:Int,-4000<=x->x<=4000->Builtin.Range.rangeFitsLong x=true:=λx a b=>by
  unfold Builtin.Range.rangeFitsLong;rw [Br];exact⟨BW (by omega),BW<|by omega⟩
 rw [h1 0 (by omega) (by omega),h1 (2 * (k:Int)) (by omega) (by omega),h1 2 (by omega)<|by omega];simp;exact⟨h1 _ (by omega) (by omega),.inr<|h1 _ (by omega)<|by omega⟩
def Zo(ta:TA):TI:=λσ H R=>ta σ H λvs H1=>∃ k:Nat,vs=[.int 0,.int<|2 * (k:Int),.int 2]/\k<=1000/\R (DS k) H1
theorem Zq{a b c:Expr}{ta:TA}{p pos:Pos}(hg:Gl X "range")(hm:X.mg "range" = none)(ha:PA X [a,b,c] ta)(hs:starEach [a,b,c] X.env=[(false,eval a X.env),(false,eval b X.env),(false,eval c X.env)]:=by rfl)(m5:starEach [b,c] X.env=[(false,eval b X.env),(false,eval c X.env)]:=by rfl)(yx:starEach [c] X.env=[(false,eval c X.env)]:=by rfl) :
  PI X tg (.Call (.Name "range" p) [a,b,c] [] pos) (Zo ta):=by
 intro pins s σ H R I h;refine Call_ (i4 I hg hm boot_range<|DX (aE (ha pos pins s σ H _ I h) λus s1 ⟨vs,H1,I1,r1,q1⟩=>?_) (by rw [hs,m5])<|by rw [m5];rfl);obtain⟨k,e,hk,q⟩:=q1;subst e;cases r1 with
 | cons r rr=>
  cases rr with
  | cons r' rr=>
   cases rr with
   | cons Zr rr=>
    cases rr;obtain⟨t,rfl⟩:=r;obtain⟨t',rfl⟩:=r';obtain⟨wM,rfl⟩:=Zr;refine call_range_3 (by decide) ?_ (Or.inl<|QX<|by omega);refine wpAny_pyIter_range (IsRange.new ..) (Zn hk) ?_;have I2:Inv X pins σ H1 {s1 with heap:=s1.heap.push {cls:= .type "range",data:= .fields #[.int 0 t,.int (2 * (k:Int)) t',.int 2 wM]},toks:=s1.toks}:=I1.kept λb o e=>Ae _ e;refine⟨(s1.heap.push {cls:= .type "range",data:= .fields #[.int 0 t,.int (2 * (k:Int)) t',.int 2 wM]}).objs.size,[(s1.heap.push {cls:= .type "range",data:= .fields #[.int 0 t,.int (2 * (k:Int)) t',.int 2 wM]}).objs.size],_,_,H1,rfl,
     I2.kept (t':=s1.toks) λb o e=>Ae _ e,Zm _ k,?_,λb hb=>?_,q⟩
    ·have e1:(0:Int)+((0:Nat):Int) * 2=0:=by simp
     have e2:((k:Nat):Int) - ((0:Nat):Int)=Builtin.Range.rangeSize 0 (2 * (k:Int)) 2:=by rw [MO];omega
     show IsRangeIter _ _ (0+((0:Nat):Int) * 2) (((k:Nat):Int) - ((0:Nat):Int)) 2;rw [e1,e2];exact An _ rfl
    ·have e:b=(s1.heap.push {cls:= .type "range",data:= .fields #[.int 0 t,.int (2 * (k:Int)) t',.int 2 wM]}).objs.size:=by simpa using hb
     subst e;exact I2.dF (Ag _)<|I2.aC.fresh<|Ag _
theorem Zt{body:List Stmt}{D:Ends}{k:Nat}{σ:St}{H:Hp}{after:St->Hp->Prop}(Pv:Nat->St->Hp->Prop)(h0:Pv 0 σ H)
  (hs:∀ i σ H,i < k->Pv i σ H->Eg X tg (.int<|2 * (i:Int)) σ H λσ2 H2=>Run X body {D with nx:=Pv<|i+1,ct:=Pv<|i+1,bk:=after} σ2 H2) (hd:∀ σ H,Pv k σ H->after σ H):Loop X tg body (DS k) D after σ H:=by
 refine⟨λi m σ H=>m=k - i/\i<=k/\Pv i σ H,⟨k,by simp,Be _,h0⟩,?_⟩;rintro i m σ H ⟨rfl,hi,p⟩
 by_cases aK:i < k
 ·refine .inr ⟨aK,Pv<|i+1,λσ' H' p'=>⟨k - (i+1),by omega,rfl,aK,p'⟩,λv H' y=>?_⟩;obtain⟨rfl,rfl⟩:=y;exact hs i σ _ aK p
 ·have e:i=k:=by omega
  subst e;exact .inl ⟨Ag _,hd σ H p⟩
end
end L2
namespace Nt
open PySem L2 Classical
section
variable{n:Net}{s:Str->Bool}{c:Nat->Bool}{χ:End->Bool}
theorem MQ(k:Nat):∀(m:Nat) (ws:List<|List End) {i:Nat} {e:End},(i,e)∈cb k m ws->∃ j w,ws[j]?=some w/\i=m+j/\e∈cX k w
 | m,[],i,e,h=>by simp [cb] at h
 | m,w :: ws,i,e,h=>by
  unfold cb at h
  rcases Aq.mp h with h | h
  ·obtain⟨x,hx,q⟩:=Aj.mp h;cases q;exact⟨0,w,rfl,rfl,hx⟩
  ·obtain⟨j,v,h1,h2,h3⟩:=MQ k (m+1) ws h;exact⟨j+1,v,h1,by omega,h3⟩
theorem pK{k:Nat}{ws:List (List End)}{i:Nat}{e:End}(h:(i,e)∈bM k ws):∃ w,ws[i]?=some w/\e∈cX k w:=by
 obtain⟨j,w,h1,h2,h3⟩:=MQ k 0 ws h;rw [Cr] at h2;subst h2;exact⟨w,h1,h3⟩
theorem nV(T:aB n){i:Nat}{w:List End}(h:(aG n)[i]?=some w):∃ e,e∈ends n/\w=walker n e:=by
 obtain⟨e,l,r,heq,_,_,hw⟩:=YW T h;exact⟨e,by rw [heq];simp,hw⟩
end
theorem MR(k:Nat):∀(m:Nat) (ws:List<|List End) {j:Nat} {w:List End} {e:End},ws[j]?=some w->e∈cX k w->(m+j,e)∈cb k m ws
 | m,[],j,w,e,h,_=>by simp at h
 | m,v :: ws,0,w,e,h,he=>by
  cases h;unfold cb;exact Bl _<|Aj.mpr ⟨e,he,rfl⟩
 | m,v :: ws,j+1,w,e,h,he=>by
  unfold cb;refine Az _ ?_;have:=MR k (m+1) ws (j:=j) h he;rw [show m+(j+1)=m+1+j by omega];exact this
theorem wN{k:Nat}{ws:List (List End)}{i:Nat}{w:List End}{e:End}(h:ws[i]?=some w)(he:e∈cX k w):(i,e)∈bM k ws:=by
 have:=MR k 0 ws h he;rw [Cr] at this;exact this
theorem pL{n:Net}(T:aB n){k:Nat}(hk:k<=1){p q:Nat×End}(hp:p∈bM k (aG n))(hq:q∈bM k (aG n))(h:aw n p.2=aw n q.2):p=q:=by
 have h1:=wF (C5 T hk) hp;have h2:=wF (C5 T hk) hq;have h3:(λx:Nat×End=>decide (aw n x.2=aw n p.2))=λx=>decide (aw n x.2=aw n q.2):=by rw [h]
 rw [h3] at h1;exact List.cons.inj (h1.symm.trans h2) |>.1
theorem Zu{α:Type}{L:List (List α)}(h:L.flatten.Nodup){i j k l:Nat}{w v:List α}{e:α}(hi:L[i]?=some w)(hk:w[k]?=some e)(hj:L[j]?=some v)(hl:v[l]?=some e):i=j/\k=l:=by
 rw [Bo,List.pairwise_flatten] at h;obtain⟨h1,h2⟩:=h;have li:=(Ac.mp hi);have lj:=(Ac.mp hj);have ij:i=j:=by
  rcases Dg i j with c | c | c
  ·exact absurd rfl ((Bd.mp h2) i j li.1 lj.1 c e (by rw [li.2];exact Al hk) e<|by rw [lj.2];exact Al hl)
  ·exact c
  ·exact absurd rfl ((Bd.mp h2) j i lj.1 li.1 c e (by rw [lj.2];exact Al hl) e<|by rw [li.2];exact Al hk)
 subst ij;rw [hi] at hj;cases hj;refine⟨rfl,?_⟩;have p:=h1 w<|Al hi;have lk:=(Ac.mp hk);have ll:=(Ac.mp hl)
 rcases Dg k l with c | c | c
 ·exact absurd (lk.2.trans ll.2.symm)<|(Bd.mp p) k l lk.1 ll.1 c
 ·exact c
 ·exact absurd (ll.2.trans lk.2.symm)<|(Bd.mp p) l k ll.1 lk.1 c
noncomputable def pf(n:Net)(x:End):End:=(((ca n)[x.1]?.getD [])[x.2]?).getD (0,0)
theorem wO(n:Net)(f:Nat):row (av n) f=((ca n)[f]?.getD []).map (aw n):=by
 unfold row av;cases h:(ca n)[f]? with
 | some w=>rw [XA h];rfl
 | none=>
  have:(cF n<|ca n)[f]?=none:=by rw [List.getElem?_eq_none_iff] at h ⊢;rw [B6];exact h
  rw [this];rfl
theorem pM{n:Net}{x:End}(h:x∈ends (av n)):∃ w,(ca n)[x.1]?=some w/\w[x.2]?=some (pf n x):=by
 obtain⟨z,hz⟩:=af.mp h;unfold bK at hz;rw [wO] at hz;cases hw:(ca n)[x.1]? with
 | none=>rw [hw] at hz;simp at hz
 | some w=>
  rw [hw] at hz;have:x.2 < w.length:=by have:=(Ac.mp hz).1;simpa using this
  refine⟨w,rfl,?_⟩;unfold pf;rw [hw];show w[x.2]?=some ((w[x.2]?).getD (0,0));rw [Ab this];rfl
theorem MS{n:Net}{i k:Nat}{w:List End}{e:End}(hi:(ca n)[i]?=some w)(hk:w[k]?=some e):(i,k)∈ends (av n)/\pf n (i,k)=e:=by
 constructor
 ·refine af.mpr ⟨aw n e,?_⟩;unfold bK;rw [wO];show(((ca n)[i]?.getD []).map<|aw n)[k]?=_;rw [hi,Ep,Ad,hk];rfl
 ·unfold pf;show(((ca n)[i]?.getD [])[k]?).getD (0,0)=e;rw [hi,Ep,hk];rfl
section
variable{n:Net}
theorem gQ(T:aB n){x:End}(h:x∈ends (av n)):pf n x∈ends n:=by
 obtain⟨w,h1,h2⟩:=pM h;exact(K4 T w<|Al h1).2 _<|Al h2
theorem DT(T:aB n){x:End}(h:x∈ends (av n)):bK (av n) x=bK n (pf n x):=by
 obtain⟨w,h1,h2⟩:=pM h;obtain⟨z,hz⟩:=af.mp<|gQ T h;rw [hz];unfold bK;rw [wO,h1,Ep,Ad,h2];show some (aw n<|pf n x)=some z;rw [du hz]
theorem ic(T:aB n){x:End}(h:x∈ends (av n)):aw (av n) x=aw n (pf n x):=by
 unfold aw;rw [DT T h]
theorem MT{x:End}(h:x∈ends (av n)):ends n≠[]:=λk=>by
 obtain⟨w,h1,h2⟩:=pM h;have:ca n=[[]]:=by unfold ca;rw [BL k]
 rw [this] at h1;have:w=[]:=by simpa using Al h1
 subst this;simp at h2
theorem wQ(T:aB n){x y:End}(hx:x∈ends (av n))(hy:y∈ends (av n))(h:pf n x=pf n y):x=y:=by
 obtain⟨w,h1,h2⟩:=pM hx;obtain⟨v,h3,h4⟩:=pM hy;rw [<- h] at h4;obtain⟨a,b⟩:=Zu (C1 T<|MT hx).nd h1 h2 h3 h4;exact KY a b
theorem MU(n:Net):∀(ws:List<|List End) (k:Nat),ag ((ws.zipIdx k).map λx=>(fj x.2,x.1.map<|aw n))=ws.flatten.map (aw n)
 | [],_=>rfl
 | w :: ws,k=>by
  rw [List.zipIdx_cons,Bb];show w.map (aw n)++ag ((ws.zipIdx<|k+1).map λx=>(fj x.2,x.1.map<|aw n))=_;rw [MU n ws<|k+1,List.flatten_cons,Ai]
theorem MV(n:Net):(ends n).map (aw n)=ag n:=by
 unfold ends;rw [Bv,<- jd n 0];refine Es λp hp=>?_;obtain⟨z,e⟩:=p;exact du<|aJ.mp hp
theorem tP(T:aB n):(ag<|av n).Perm (ag n):=by
 have e:ag (av n)=(ca n).flatten.map (aw n):=MU n (ca n) 0;rw [e]
 by_cases h:ends n=[]
 ·have:ca n=[[]]:=by unfold ca;rw [BL h]
  rw [this,<- MV n,h];exact List.Perm.refl _
 ·rw [<- MV n];exact(Yu T h).all.map _
theorem dA(T:aB n):aB (av n):=λz hz=>by
 have p:=tP T;rw [p.count_eq];exact T z<|p.mem_iff.mp hz
theorem Zv(h:(ends n).length<=38):((av n).map (·.1)).Nodup:=by
 have e:(av n).map (·.1)=(List.range (ca n).length).map fj:=by
  unfold av cF;rw [Bv,List.range_eq_range',<- List.zipIdx_map_snd 0,Bv];rfl
 have l:=BG n;have inj:∀ i,i < 40->∀ j,j < 40->fj i=fj j->i=j:=by
  have:∀ i:Fin 40,∀ j:Fin 40,fj i.1=fj j.1->i.1=j.1:=by decide +kernel
  exact λi hi j hj=>this ⟨i,hi⟩ ⟨j,hj⟩
 rw [e,Bo,De];refine(Bo.mp Dz).imp_of_mem λ{a b} ha hb b6 k=>b6<|inj a ?_ b ?_ k
 ·have:=Bc.mp ha;omega
 ·have:=Bc.mp hb;omega
theorem MX(T:aB n){x:End}(h:x∈ends (av n)):pf n (left (av n) x)=step n (pf n x):=by
 obtain⟨w,h1,h2⟩:=pM h;obtain⟨e,_,hw,he,_⟩:=(C1 T<|MT h).face w<|Al h1;have F:=j5 T he;rw [<- hw] at F;have hl:=(Ac.mp h2).1;have hx:pf n x=it (step n) x.2 e:=Option.some.inj<|h2.symm.trans<|F.at' x.2 hl;have er:(row (av n) x.1).length=w.length:=by rw [wO,h1,Ep,Aa]
 unfold left;rw [er]
 by_cases c:x.2+1 < w.length
 ·rw [Cv c,(MS h1<|F.at' _ c).2,hx];rfl
 ·have c:x.2+1=w.length:=by omega
  rw [c,Ec,(MS h1<|F.at' 0 F.pos).2,hx];show e=it (step n) (x.2+1) e;rw [c,F.back]
theorem MY(T:aB n){x:End}(h:x∈ends (av n)):pf n (other (av n) x)=other n (pf n x):=by
 obtain⟨z,hz⟩:=af.mp h;have o:=dq (dA T) hz;have pN:=hz;rw [DT T h] at pN;have h2:=o.1;have ho:=cP (dA T) h;rw [DT T ho] at h2
 rcases (vO T pN).mp h2 with k | k
 ·exact absurd (wQ T ho h k) o.2.2
 ·exact k
theorem DV{m:Net}{x:End}(h:x∈ends m):left m (ci (-1) m x)=x:=by
 rw [po<|rT h];exact jY (c:=-1) h
theorem MZ{m:Net}{x:End}(h:x∈ends m):ci (-1) m (left m x)=x:=by
 rw [po h];exact jY (c:=1) h
theorem tQ(T:aB n){x:End}(h:x∈ends (av n)):pf n (go 1 (av n) x)=left n (pf n x):=by
 have ho:=cP (dA T) h;unfold go;rw [<- po ho,MX T ho,MY T h];unfold step;obtain⟨z,hz⟩:=af.mp<|gQ T h;rw [(dq T hz).2.1]
theorem Zw(T:aB n){y:End}(h:y∈ends (av n)):pf n (go (-1) (av n) y)=other n (ci (-1) n<|other n<|pf n y):=by
 have ho:=cP (dA T) h;have hg:go (-1) (av n) y∈ends (av n):=cR (dA T) h;have e:=MX T hg;rw [show left (av n) (go (-1) (av n) y)=other (av n) y from DV ho,MY T h] at e;unfold step at e;have hp:=gQ T hg;rw [e,MZ<|cP T hp];obtain⟨z,hz⟩:=af.mp hp;exact(dq T hz).2.1.symm
theorem Zx(T:aB n){x:End}(h:x∈ends (av n)):two n (pf n<|two (av n) x)=pf n x:=by
 have hg:=cR (dA T) (c:=1) h;have hp:=gQ T h;have hl:=IC hp;have m7:=cP T hl;obtain⟨z,hz⟩:=af.mp<|rT (c:=-1) m7;obtain⟨t,ht⟩:=af.mp hl;rw [show two (av n) x=go (-1) (av n) (go 1 (av n) x) from rfl,Zw T hg,tQ T h];show ci (-1) n (other n<|ci 1 n<|other n<|other n<|ci (-1) n<|other n<|left n (pf n x))=_;rw [(dq T hz).2.1,<- po<|rT m7,DV m7,(dq T ht).2.1,MZ hp]
theorem DZ(T:aB n){x:End}(h:x∈ends (av n)):∀ i,it (two n) i (pf n<|it (two<|av n) i x)=pf n x
 | 0=>rfl
 | i+1=>by
  have hi:=bF (dA T) h i;rw [show it (two<|av n) (i+1) x=two (av n) (it (two<|av n) i x) from rfl,<- CY,Zx T hi,DZ T h i]
theorem wR(T:aB n){a b:End}(ha:a∈ends n)(hb:b∈ends n):∀ i,it (two n) i a=it (two n) i b->a=b
 | 0,h=>h
 | i+1,h=>wR T ha hb i<|pq T (bF T ha i) (bF T hb i) h
theorem D0(T:aB n){x:End}(h:x∈ends (av n)){k:Nat}(p:bV n (pf n x) k):bV (av n) x k:=by
 have key:∀ i,it (two<|av n) i x=x↔it (two n) i (pf n x)=pf n x:=λi=>by
  have e:=DZ T h i
  constructor
  ·intro c;rw [c] at e;exact e
  ·intro c;have:=wR T (gQ T<|bF (dA T) h i) (gQ T h) i<|e.trans c.symm;exact wQ T (bF (dA T) h i) h this
 exact⟨p.pos,(key k).mpr p.back,λi h1 h2 c=>p.first i h1 h2 ((key i).mp c)⟩
theorem lM(T:aB n){x:End}(h:x∈ends (av n)){k:Nat}(p:bV n (pf n x) k){i:Nat}(hi:i<=k):pf n (it (two<|av n) i x)=it (two n) (k - i) (pf n x):=by
 have e:=DZ T h i;have hx:=gQ T h;refine wR T (gQ T<|bF (dA T) h i) (bF T hx _) i ?_;rw [e,<- c8,show k - i+i=k by omega,p.back]
def hj(n:Net)(v:End)(J:Nat):Str:=if J % 2=0 then aw n (it (two n) (J / 2) v) else aw n (go 1 n<|it (two n) (J / 2) v)
theorem iX(v:End)(i:Nat):hj n v (2 * i)=aw n (it (two n) i v):=by
 unfold hj;rw [BL (by omega),show 2 * i / 2=i by omega]
theorem ke(v:End)(i:Nat):hj n v (2 * i+1)=aw n (go 1 n<|it (two n) i v):=by
 unfold hj;rw [BP (by omega),show(2 * i+1) / 2=i by omega]
theorem pO(v:End)(k j:Nat)(h:j < 2 * k):((wk n v k).map<|aw n)[j]?=some (hj n v j):=by
 rw [Ad]
 rcases Cm j with e | e
 ·obtain⟨i,rfl⟩:∃ i,j=2 * i:=⟨j / 2,by omega⟩;rw [iP n v k i (by omega),iX];rfl
 ·obtain⟨i,rfl⟩:∃ i,j=2 * i+1:=⟨j / 2,by omega⟩;rw [rV n v k i (by omega),ke];rfl
theorem tR{v:End}{k:Nat}(p:bV n v k)(i:Nat):it (two n) (k+i) v=it (two n) i v:=by rw [c8,p.back]
theorem tS{v:End}{k:Nat}(p:bV n v k)(J:Nat):hj n v (J+2 * k)=hj n v J:=by
 rcases Cm J with e | e
 ·obtain⟨i,rfl⟩:∃ i,J=2 * i:=⟨J / 2,by omega⟩;rw [show 2 * i+2 * k=2 * (k+i) by omega,iX,iX,tR p]
 ·obtain⟨i,rfl⟩:∃ i,J=2 * i+1:=⟨J / 2,by omega⟩;rw [show 2 * i+1+2 * k=2 * (k+i)+1 by omega,ke,ke,tR p]
theorem D1{v:End}{k:Nat}(p:bV n v k)(J:Nat):hj n v (J % (2 * k))=hj n v J:=by
 have:∀ q r,hj n v (r+2 * k * q)=hj n v r:=λq=>by
  induction q with
  | zero=>intro r;rfl
  | succ q ih=>intro r;rw [show r+2 * k * (q+1)=(r+2 * k * q)+2 * k by rw [Nat.mul_succ];omega,tS p,ih]
 have h:=this (J / (2 * k))<|J % (2 * k);rw [Nat.mod_add_div] at h;exact h.symm
theorem D4(v:End)(s J:Nat):hj n (it (two n) s v) J=hj n v (J+2 * s):=by
 rcases Cm J with e | e
 ·obtain⟨i,rfl⟩:∃ i,J=2 * i:=⟨J / 2,by omega⟩;rw [show 2 * i+2 * s=2 * (s+i) by omega,iX,iX,c8]
 ·obtain⟨i,rfl⟩:∃ i,J=2 * i+1:=⟨J / 2,by omega⟩;rw [show 2 * i+1+2 * s=2 * (s+i)+1 by omega,ke,ke,c8]
theorem M0{α:Type}(f:α->α)(a:α)(i j:Nat):it f i (it f j a)=it f j (it f i a):=by rw [<- c8,<- c8,SJ]
theorem lN(T:aB n){v:End}(h:v∈ends n){k:Nat}(p:bV n v k)(s:Nat):bV n (it (two n) s v) k:=by
 refine⟨p.pos,by rw [M0,p.back],λi h1 h2 c=>p.first i h1 h2 ?_⟩;rw [M0] at c;exact wR T (bF T h i) h s c
theorem nW(T:aB n){e:End}(h:e∈ends n):aw n (other n e)=aw n e:=by
 obtain⟨z,hz⟩:=af.mp h;rw [du hz,du (dq T hz).1]
theorem tT(T:aB n){w:End}(h:w∈ends n):left n (two n w)=other n (go 1 n w):=DV<|cP T<|cR T h
theorem oo(T:aB n){e:End}(h:e∈ends n):other n (other n e)=e:=by
 obtain⟨z,hz⟩:=af.mp h;exact(dq T hz).2.1
theorem wU(T:aB n){w:End}(h:w∈ends n):go 1 n (other n w)=left n w:=by
 unfold go;rw [oo T h,po h]
theorem Zy(T:aB n){w:End}(h:w∈ends n):two n (other n<|two n w)=other n w:=by
 have h2:=jj T h;have hg:=cR T (c:=1) h;show ci (-1) n (other n<|go 1 n<|other n<|two n w)=_;rw [wU T h2,tT T h,oo T hg];show ci (-1) n (ci 1 n<|other n w)=_;exact jY (c:=1)<|cP T h
theorem M1(T:aB n){w:End}(h:w∈ends n):∀ i,it (two n) i (other n<|it (two n) i w)=other n w
 | 0=>rfl
 | i+1=>by
  rw [show it (two n) (i+1) w=two n (it (two n) i w) from rfl,<- CY,Zy T<|bF T h i,M1 T h i]
theorem lP(T:aB n){v:End}(h:v∈ends n){k:Nat}(p:bV n v k){i:Nat}(hi:i<=k):it (two n) i (other n v)=other n (it (two n) (k - i) v):=by
 have:=M1 T (bF T h<|k - i) i;rw [<- c8,show k - i+i=k by omega,p.back] at this;exact this
theorem tU(T:aB n){v:End}(h:v∈ends n){k:Nat}(p:bV n v k):bV n (other n v) k:=by
 refine⟨p.pos,by rw [lP T h p<|Ag _,QD];rfl,λi h1 h2 c=>?_⟩;rw [lP T h p<|by omega] at c;exact p.first (k - i) (by omega) (by omega) (yN T (bF T h _) h c)
theorem M3(T:aB n){v:End}(h:v∈ends n){k:Nat}(p:bV n v k){J:Nat}(hJ:J<=2 * k):hj n (other n v) J=hj n v (2 * k - J):=by
 rcases Cm J with e | e
 ·obtain⟨i,rfl⟩:∃ i,J=2 * i:=⟨J / 2,by omega⟩;rw [show 2 * k - 2 * i=2 * (k - i) by omega,iX,iX,lP T h p (by omega),nW T<|bF T h _]
 ·obtain⟨i,rfl⟩:∃ i,J=2 * i+1:=⟨J / 2,by omega⟩;have hw:=bF T h<|k - i - 1;rw [show 2 * k - (2 * i+1)=2 * (k - i - 1)+1 by omega,ke,ke,lP T h p (by omega),wU T<|bF T h _,show k - i=(k - i - 1)+1 by omega];show aw n (left n (two n<|it (two n) (k - i - 1+1 - 1) v))=_;rw [show k - i - 1+1 - 1=k - i - 1 by omega,tT T hw,nW T<|cR T hw]
theorem M4(T:aB n){x:End}(h:x∈ends (av n)){k:Nat}(p:bV n (pf n x) k){J:Nat}(hJ:J<=2 * k):hj (av n) x J=hj n (pf n x) (2 * k - J):=by
 have T':=dA T;have hx:=gQ T h
 rcases Cm J with e | e
 ·obtain⟨i,rfl⟩:∃ i,J=2 * i:=⟨J / 2,by omega⟩;rw [show 2 * k - 2 * i=2 * (k - i) by omega,iX,iX,ic T<|bF T' h _,lM T h p<|by omega]
 ·obtain⟨i,rfl⟩:∃ i,J=2 * i+1:=⟨J / 2,by omega⟩;have hw:=bF T hx<|k - i - 1;rw [show 2 * k - (2 * i+1)=2 * (k - i - 1)+1 by omega,ke,ke,ic T<|cR T'<|bF T' h _,tQ T<|bF T' h _,lM T h p (by omega),show k - i=(k - i - 1)+1 by omega];show aw n (left n (two n<|it (two n) (k - i - 1+1 - 1)<|pf n x))=_;rw [show k - i - 1+1 - 1=k - i - 1 by omega,tT T hw,nW T<|cR T hw]
def tV(r o:List Str):Prop:=o.length=r.length/\∃ c,c % 2=0/\((∀ j,j < r.length->o[j]?=r[(j+c) % r.length]?)\/(∀ j,j < r.length->o[j]?=r[(c+(r.length - j)) % r.length]?))
noncomputable def bA(n:Net)(i:Nat):List Str:=((aG n)[i]?.getD []).map<|aw n
def fJ(n:Net)(i j:Nat):Prop:=∃ a x,(i,a)∈bM 0 (aG n)/\(j,x)∈bM 0 (aG<|av n)/\aw n a=aw (av n) x
theorem gR(T:aB n){i:Nat}{a:End}(h:(i,a)∈bM 0 (aG n)):∃ e k s,e∈ends n/\a∈ends n/\bV n e k/\(aG n)[i]?=some (wk n e k)/\s < k/\a=it (two n) s e:=by
 obtain⟨w,hw,hx⟩:=pK h;obtain⟨e,he,rfl⟩:=nV T hw;obtain⟨k,p,_⟩:=nJ T he;have hx:a∈dz n e:=hx;have hm:=nR T he a hx;rw [wD p] at hx;obtain⟨s,hs,rfl⟩:=Aj.mp hx;refine⟨e,k,s,he,hm,p,?_,Bc.mp hs,rfl⟩;rw [hw];unfold walker;rw [jZ p]
theorem D5(T:aB n){e:End}(he:e∈ends n){k:Nat}(p:bV n e k){i:Nat}(hw:(aG n)[i]?=some (wk n e k))(s:Nat):(i,it (two n) s e)∈bM 0 (aG n):=by
 have e1:wk n e k=walker n e:=by unfold walker;rw [jZ p]
 rw [e1] at hw;exact wN hw (show it (two n) s e∈dz n e from(ib T he).mpr ⟨s,rfl⟩)
theorem wV(T:aB n){i:Nat}{a:End}(h:(i,a)∈bM 0 (aG n))(s:Nat):(i,it (two n) s a)∈bM 0 (aG n):=by
 obtain⟨e,k,t,he,_,p,hw,_,rfl⟩:=gR T h;rw [<- c8];exact D5 T he p hw _
theorem wW(T:aB n){i:Nat}{a:End}(h:(i,a)∈bM 0 (aG n))(s:Nat):(i,go 1 n<|it (two n) s a)∈bM 1 (aG n):=by
 obtain⟨e,k,t,he,_,p,hw,_,rfl⟩:=gR T h;have e1:wk n e k=walker n e:=by unfold walker;rw [jZ p]
 rw [e1] at hw;refine wN hw ?_;rw [tF];refine Aj.mpr ⟨_,?_,rfl⟩;show it (two n) s (it (two n) t e)∈dz n e;rw [<- c8];exact(ib T he).mpr ⟨_,rfl⟩
theorem M5(T:aB n){i:Nat}{a b:End}(h:(i,a)∈bM 0 (aG n))(g:(i,b)∈bM 1 (aG n)){k:Nat}(pa:bV n a k):∃ s,s < k/\b=go 1 n (it (two n) s a):=by
 obtain⟨e,k',t,he,_,p,hw,ht,rfl⟩:=gR T h;obtain⟨w,js,hb⟩:=pK g;rw [hw] at js;cases js;have e1:wk n e k'=walker n e:=by unfold walker;rw [jZ p]
 rw [e1,tF] at hb;obtain⟨c,hc,rfl⟩:=Aj.mp hb;have hc:c∈dz n e:=hc;rw [wD p] at hc;obtain⟨u,hu,rfl⟩:=Aj.mp hc;have hu:=Bc.mp hu;obtain rfl:k=k':=pa.unique<|lN T he p t
 by_cases c:t<=u
 ·exact⟨u - t,by omega,by rw [<- c8,show t+(u - t)=u by omega]⟩
 ·exact⟨k+u - t,by omega,by rw [<- c8,show t+(k+u - t)=k+u by omega,tR p]⟩
theorem wX{i:Nat}{e:End}{k:Nat}(hw:(aG n)[i]?=some (wk n e k)):bA n i=(wk n e k).map (aw n):=by
 unfold bA;rw [hw];rfl
theorem pP{e:End}{k:Nat}:((wk n e k).map<|aw n).length=2 * k:=by rw [Aa,lg]
theorem Zz(T:aB n){i j:Nat}(h:fJ n i j):tV (bA n i) (bA (av n) j):=by
 have T':=dA T;obtain⟨a,x,ha,hx,ht⟩:=h;obtain⟨e,k,s,he,cg,p,hw,hs,rfl⟩:=gR T ha;obtain⟨f,k',t,hf,bq,p',lQ,cQ,rfl⟩:=gR T' hx;have pa:=lN T he p s;have px:=lN T' hf p' t;rw [ic T bq] at ht;have hv:=lI T cg (gQ T bq) ht;have pv:bV n (pf n<|it (two<|av n) t f) k:=by
  rcases hv with c | c
  ·rw [c];exact pa
  ·rw [c];exact tU T cg pa
 have ek:k'=k:=px.unique<|D0 T bq pv;subst ek;have ZA:it (two<|av n) (k' - t) (it (two<|av n) t f)=f:=by rw [<- c8,show t+(k' - t)=k' by omega,p'.back]
 have four:∀ J,J<=4 * k'->hj (av n) (it (two<|av n) t f) J=hj n (pf n<|it (two<|av n) t f) (4 * k' - J):=λJ hJ=>by
  by_cases c:J<=2 * k'
  ·rw [M4 T bq pv c,<- tS pv]
   congr 1
   omega
  ·obtain⟨I,rfl⟩:∃ I,J=I+2 * k':=⟨J - 2 * k',by omega⟩;rw [tS px,M4 T bq pv<|by omega]
   congr 1
   omega
 rw [wX hw,wX lQ];have key:∀ j,j < 2 * k'->hj (av n) f j=hj (av n) (it (two<|av n) t f) (j+2 * (k' - t)):=λj _=>by
  rw [<- D4,ZA]
 refine⟨by rw [pP,pP],?_⟩;rw [pP];have k0:=p.pos
 rcases hv with c | c
 ·refine⟨2 * t+2 * s,by omega,.inr λj gS=>?_⟩;rw [pO f k' j gS,pO e k' _ (Db _<|by omega),D1 p,key j gS,four _ (by omega),c,D4]
  congr 2
  omega
 ·refine⟨2 * (k' - t)+2 * s,by omega,.inl λj gS=>?_⟩;rw [pO f k' j gS,pO e k' _ (Db _<|by omega),D1 p,key j gS,four _ (by omega),c];have D6:∀ J,J<=4 * k'->hj n (other n<|it (two n) s e) (4 * k' - J)=hj n (it (two n) s e) J:=λJ hJ=>by
   by_cases c:2 * k'<=J
   ·rw [M3 T cg pa (by omega),show 2 * k' - (4 * k' - J)=J - 2 * k' by omega,<- tS pa]
    congr 1
    omega
   ·rw [show 4 * k' - J=(2 * k' - J)+2 * k' by omega,tS<|tU T cg pa,M3 T cg pa<|by omega]
    congr 1
    omega
  rw [D6 _ (by omega),D4]
  congr 2
  omega
theorem ZC(T:aB n){i j:Nat}(hi:i < (aG n).length)(gS:j < (aG<|av n).length)(h:tV (bA n i)<|bA (av n) j):fJ n i j:=by
 have T':=dA T;obtain⟨e,he,jq⟩:=nV T<|Ab hi;obtain⟨f,hf,ZD⟩:=nV T'<|Ab gS;obtain⟨k,p,_⟩:=nJ T he;obtain⟨k',p',_⟩:=nJ T' hf;have hw:(aG n)[i]?=some (wk n e k):=by rw [Ab hi,jq];unfold walker;rw [jZ p]
 have lQ:(aG<|av n)[j]?=some (wk (av n) f k'):=by rw [Ab gS,ZD];unfold walker;rw [jZ p']
 rw [wX hw,wX lQ] at h;obtain⟨hl,c,hc,h⟩:=h;rw [pP,pP] at hl;have ek:k'=k:=by omega
 subst ek;have k0:=p.pos;rw [pP] at h;have h0:((wk (av n) f k').map<|aw<|av n)[0]?=((wk n e k').map<|aw n)[c % (2 * k')]?:=by
  rcases h with h | h
  ·have:=h 0 (by omega);rw [Cr] at this;exact this
  ·have:=h 0 (by omega);rw [Fd,Nat.add_mod_right] at this;exact this
 rw [pO f k' 0 (by omega),pO e k' _ (Db _<|by omega),D1 p] at h0;have h0:=Option.some.inj h0;obtain⟨u,rfl⟩:∃ u,c=2 * u:=⟨c / 2,by omega⟩;rw [iX,show(0:Nat)=2 * 0 from rfl,iX] at h0;exact⟨_,_,D5 T he p hw u,D5 T' hf p' lQ 0,h0.symm⟩
theorem ZE(T:aB n){i j:Nat}(h:fJ n i j){a':End}(h':(i,a')∈bM 0 (aG n)):∃ x',(j,x')∈bM 0 (aG<|av n)/\aw n a'=aw (av n) x':=by
 have T':=dA T;obtain⟨a,x,ha,hx,ht⟩:=h;obtain⟨e,k,s,he,cg,p,hw,hs,rfl⟩:=gR T ha;obtain⟨e2,k2,s',he2,_,p2,js,fc,rfl⟩:=gR T h';obtain⟨f,k',t,hf,bq,p',lQ,cQ,rfl⟩:=gR T' hx;have pa:=lN T he p s;have ww:wk n e k=wk n e2 k2:=Option.some.inj<|hw.symm.trans js;have D7:e=e2:=by
  have h1:=iP n e k 0 p.pos;have h2:=iP n e2 k2 0 p2.pos;rw [ww,h2] at h1;exact(Option.some.inj h1).symm
 subst D7;obtain rfl:=p.unique p2;have hd:∃ d,d<=k/\it (two n) s' e=it (two n) d (it (two n) s e):=by
  by_cases c:s<=s'
  ·exact⟨s' - s,by omega,by rw [<- c8,show s+(s' - s)=s' by omega]⟩
  ·exact⟨k+s' - s,by omega,by rw [<- c8,show s+(k+s' - s)=k+s' by omega,tR p]⟩
 obtain⟨d,hd,ed⟩:=hd;rw [ic T bq] at ht;have hv:=lI T cg (gQ T bq) ht
 rcases hv with c | c
 ·have pv:bV n (pf n<|it (two<|av n) t f) k:=by rw [c];exact pa
  refine⟨_,wV T' hx<|k - d,?_⟩;rw [ic T<|bF T' bq _,lM T bq pv (by omega),c,ed,show k - (k - d)=d by omega]
 ·have pv:bV n (pf n<|it (two<|av n) t f) k:=by rw [c];exact tU T cg pa
  refine⟨_,wV T' hx d,?_⟩;rw [ic T<|bF T' bq _,lM T bq pv hd,c,lP T cg pa (by omega),ed,show k - (k - d)=d by omega,nW T<|bF T cg _]
theorem ZF(T:aB n){i j:Nat}(h:fJ n i j){x':End}(h':(j,x')∈bM 0 (aG<|av n)):∃ a',(i,a')∈bM 0 (aG n)/\aw n a'=aw (av n) x':=by
 have T':=dA T;obtain⟨a,x,ha,hx,ht⟩:=h;obtain⟨e,k,s,he,cg,p,hw,hs,rfl⟩:=gR T ha;obtain⟨f,k',t,hf,bq,p',lQ,cQ,rfl⟩:=gR T' hx;obtain⟨f2,k2,t',hf2,ZG,p2,js,iz,rfl⟩:=gR T' h';have pa:=lN T he p s;have px:=lN T' hf p' t;have ww:wk (av n) f k'=wk (av n) f2 k2:=Option.some.inj<|lQ.symm.trans js;have D7:f=f2:=by
  have h1:=iP (av n) f k' 0 p'.pos;have h2:=iP (av n) f2 k2 0 p2.pos;rw [ww,h2] at h1;exact(Option.some.inj h1).symm
 subst D7;obtain rfl:=p'.unique p2;have hd:∃ d,d<=k'/\it (two<|av n) t' f=it (two<|av n) d (it (two<|av n) t f):=by
  by_cases c:t<=t'
  ·exact⟨t' - t,by omega,by rw [<- c8,show t+(t' - t)=t' by omega]⟩
  ·exact⟨k'+t' - t,by omega,by rw [<- c8,show t+(k'+t' - t)=k'+t' by omega,tR p']⟩
 obtain⟨d,hd,ed⟩:=hd;rw [ic T bq] at ht;have hv:=lI T cg (gQ T bq) ht;have pv:bV n (pf n<|it (two<|av n) t f) k:=by
  rcases hv with c | c
  ·rw [c];exact pa
  ·rw [c];exact tU T cg pa
 obtain rfl:k'=k:=px.unique<|D0 T bq pv;rw [ed,ic T<|bF T' bq _,lM T bq pv hd]
 rcases hv with c | c
 ·exact⟨_,wV T ha<|k' - d,by rw [c]⟩
 ·refine⟨_,wV T ha d,?_⟩;rw [c,lP T cg pa (by omega),show k' - (k' - d)=d by omega,nW T<|bF T cg _]
theorem ZH(T:aB n){i j j':Nat}(h:fJ n i j)(h':fJ n i j'):j=j':=by
 obtain⟨a',x',ha,hx,ht⟩:=h';obtain⟨x,h1,h2⟩:=ZE T h ha;exact CG Prod.fst<|pL (dA T) (k:=0) (by decide) h1 hx<|h2.symm.trans ht
theorem M6(T:aB n){i i' j:Nat}(h:fJ n i j)(h':fJ n i' j):i=i':=by
 obtain⟨a',x',ha,hx,ht⟩:=h';obtain⟨a,h1,h2⟩:=ZF T h hx;exact CG Prod.fst<|pL T (k:=0) (by decide) h1 ha<|h2.trans ht.symm
theorem M7{m:Net}{k i:Nat}{e:End}(h:(i,e)∈bM k (aG m)):i < (aG m).length:=by
 obtain⟨w,hw,_⟩:=pK h;exact(Ac.mp hw).1
theorem lR(T:aB n){i:Nat}(hi:i < (aG n).length):∃ j,j < (aG<|av n).length/\fJ n i j:=by
 obtain⟨e,he,jq⟩:=nV T<|Ab hi;have hw:=Ab hi;rw [jq] at hw;have hp:=wN (k:=0) hw (show e∈dz n e from(ib T he).mpr ⟨0,rfl⟩);obtain⟨z,hz⟩:=af.mp he;have j4:z∈ag (av n):=(tP T).mem_iff.mpr<|jM hz;obtain⟨q,q1,q2,_⟩:=pJ (dA T) (k:=0) (by decide) j4;exact⟨q.1,M7 q1,e,q.2,hp,q1,by rw [du hz];exact q2.symm⟩
theorem nX(T:aB n){j:Nat}(gS:j < (aG<|av n).length):∃ i,i < (aG n).length/\fJ n i j:=by
 have T':=dA T;obtain⟨e,he,jq⟩:=nV T'<|Ab gS;have hw:=Ab gS;rw [jq] at hw;have hp:=wN (k:=0) hw (show e∈dz (av n) e from(ib T' he).mpr ⟨0,rfl⟩);obtain⟨z,hz⟩:=af.mp he;have j4:z∈ag n:=(tP T).mem_iff.mp<|jM hz;obtain⟨q,q1,q2,_⟩:=pJ T (k:=0) (by decide) j4;exact⟨q.1,M7 q1,q.2,e,q1,hp,by rw [du hz];exact q2⟩
theorem ZI(T:aB n):(aG n).length=(aG<|av n).length:=by
 have h1:(aG n).length<=(aG<|av n).length:=by
  let f:Nat->Nat:=λi=>if h:i < (aG n).length then(lR T h).choose else 0
  have nd:((List.range (aG n).length).map f).Nodup:=by
   rw [Bo,De];refine(Bo.mp Dz).imp_of_mem λ{a b} ha hb b6 k=>b6 ?_;have ha:=Bc.mp ha;have hb:=Bc.mp hb;have s1:=(lR T ha).choose_spec.2;have s2:=(lR T hb).choose_spec.2;have e1:f a=(lR T ha).choose:=KZ ha;have e2:f b=(lR T hb).choose:=KZ hb;rw [<- e1,k,e2] at s1;exact M6 T s1 s2
  have:=kT nd (b:=List.range (aG<|av n).length) λz hz=>by
   obtain⟨i,hi,rfl⟩:=Aj.mp hz;have hi:=Bc.mp hi;rw [show f i=(lR T hi).choose from KZ hi];exact Bc.mpr (lR T hi).choose_spec.1
  rw [Aa,Cj,Cj] at this;exact this
 have h2:(aG<|av n).length<=(aG n).length:=by
  let f:Nat->Nat:=λi=>if h:i < (aG<|av n).length then(nX T h).choose else 0
  have nd:((List.range (aG<|av n).length).map f).Nodup:=by
   rw [Bo,De];refine(Bo.mp Dz).imp_of_mem λ{a b} ha hb b6 k=>b6 ?_;have ha:=Bc.mp ha;have hb:=Bc.mp hb;have s1:=(nX T ha).choose_spec.2;have s2:=(nX T hb).choose_spec.2;have e1:f a=(nX T ha).choose:=KZ ha;have e2:f b=(nX T hb).choose:=KZ hb;rw [<- e1,k,e2] at s1;exact ZH T s1 s2
  have:=kT nd (b:=List.range (aG n).length) λz hz=>by
   obtain⟨i,hi,rfl⟩:=Aj.mp hz;have hi:=Bc.mp hi;rw [show f i=(nX T hi).choose from KZ hi];exact Bc.mpr (nX T hi).choose_spec.1
  rw [Aa,Cj,Cj] at this;exact this
 omega
theorem ZJ(T:aB n){z:Str}{p q p' q':Nat×End}(hp:p∈bM 0 (aG n))(hq:q∈bM 1 (aG n))(dY:p'∈bM 0 (aG<|av n))(pQ:q'∈bM 1 (aG<|av n))(e1:aw n p.2=z)(e2:aw n q.2=z)(e3:aw (av n) p'.2=z)(e4:aw (av n) q'.2=z) :
  (p.1=q.1↔p'.1=q'.1)/\(p.1=q.1->(p.2=q.2↔¬ p'.2=q'.2)):=by
 have T':=dA T;obtain⟨i,a⟩:=p;obtain⟨i',b⟩:=q;obtain⟨j,x⟩:=p';obtain⟨j',y⟩:=q';obtain⟨e,k,s,he,cg,p,hw,hs,ea⟩:=gR T hp;obtain⟨f,k',t,hf,bq,p',lQ,cQ,ex⟩:=gR T' dY;have pa:bV n a k:=by rw [ea];exact lN T he p s
 have px:bV (av n) x k':=by rw [ex];exact lN T' hf p' t
 have gT:b∈ends n:=by
  obtain⟨w,h1,h2⟩:=pK hq;obtain⟨e0,D8,rfl⟩:=nV T h1;rw [tF] at h2;obtain⟨c,hc,rfl⟩:=Aj.mp h2;exact cR T<|nR T D8 c hc
 have lJ:y∈ends (av n):=by
  obtain⟨w,h1,h2⟩:=pK pQ;obtain⟨e0,D8,rfl⟩:=nV T' h1;rw [tF] at h2;obtain⟨c,hc,rfl⟩:=Aj.mp h2;exact cR T'<|nR T' D8 c hc
 have e1:aw n a=z:=e1;have e2:aw n b=z:=e2;have e3:aw (av n) x=z:=e3;have e4:aw (av n) y=z:=e4;have hv:pf n x=a\/pf n x=other n a:=lI T cg (gQ T bq) (by rw [e1,<- ic T bq,e3]);have hb:b=a\/b=other n a:=lI T cg gT (by rw [e1,e2]);have pv:bV n (pf n x) k:=by
  rcases hv with c | c
  ·rw [c];exact pa
  ·rw [c];exact tU T cg pa
 obtain rfl:k'=k:=px.unique<|D0 T bq pv;have M8:other n a≠a:=by
  obtain⟨t,ht⟩:=af.mp cg;exact(dq T ht).2.2
 have fwd:i=i'->j=j'/\(a=b↔¬ x=y):=by
  intro h;subst h;obtain⟨u,hu,eb⟩:=M5 T hp hq pa
  rcases hv with c | c
  ·have m1:=wW T' dY<|k' - (u+1);have ep:pf n (go 1 (av n)<|it (two<|av n) (k' - (u+1)) x)=other n b:=by
    rw [tQ T<|bF T' bq _,lM T bq pv (by omega),c,show k' - (k' - (u+1))=u+1 by omega,eb];exact tT T<|bF T cg u
   have et:aw (av n) (go 1 (av n)<|it (two<|av n) (k' - (u+1)) x)=z:=by
    rw [ic T<|cR T'<|bF T' bq _,ep,nW T gT,e2]
   have hh:=pL T' (k:=1) (by decide) m1 pQ<|et.trans e4.symm;have h1:=CG Prod.fst hh;have h2:go 1 (av n) (it (two<|av n) (k' - (u+1)) x)=y:=CG Prod.snd hh;rw [h2] at ep;refine⟨h1,?_⟩
   constructor
   ·intro ab xy;rw [<- xy,c,<- ab] at ep;exact M8 ep.symm
   ·intro D9
    rcases hb with hb | hb
    ·exact hb.symm
    ·exact absurd (wQ T bq lJ<|by rw [c,ep,hb,oo T cg]) D9
  ·have m1:=wW T' dY u;have ep:pf n (go 1 (av n)<|it (two<|av n) u x)=b:=by
    rw [tQ T<|bF T' bq _,lM T bq pv (by omega),c,lP T cg pa (by omega),show k' - (k' - u)=u by omega,eb,<- wU T<|cP T<|bF T cg u,oo T<|bF T cg u]
   have et:aw (av n) (go 1 (av n)<|it (two<|av n) u x)=z:=by
    rw [ic T<|cR T'<|bF T' bq _,ep,e2]
   have hh:=pL T' (k:=1) (by decide) m1 pQ<|et.trans e4.symm;have h1:=CG Prod.fst hh;have h2:go 1 (av n) (it (two<|av n) u x)=y:=CG Prod.snd hh;rw [h2] at ep;refine⟨h1,?_⟩
   constructor
   ·intro ab xy;rw [<- xy,c,<- ab] at ep;exact M8 ep
   ·intro D9
    rcases hb with hb | hb
    ·exact hb.symm
    ·exact absurd (wQ T bq lJ<|by rw [c,ep,hb]) D9
 refine⟨⟨λh=>(fwd h).1,λh=>?_⟩,λh=>(fwd h).2⟩;have h:j=j':=h;subst h;obtain⟨u,hu,ey⟩:=M5 T' dY pQ px;have M9:pf n y=left n (it (two n) (k' - u)<|pf n x):=by rw [ey,tQ T<|bF T' bq _,lM T bq pv<|by omega]
 have ez:aw n (pf n y)=z:=by rw [<- ic T lJ,e4]
 rcases hv with c | c
 ·have hw:=bF T cg<|k' - u - 1;have e5:pf n y=other n (go 1 n<|it (two n) (k' - u - 1) a):=by
   rw [M9,c,show k' - u=(k' - u - 1)+1 by omega];exact tT T hw
  have m1:=wW T hp<|k' - u - 1;have et:aw n (go 1 n<|it (two n) (k' - u - 1) a)=z:=by rw [<- nW T<|cR T hw,<- e5,ez]
  have hh:=pL T (k:=1) (by decide) m1 hq<|et.trans e2.symm;have h9:i=i':=CG Prod.fst hh;exact h9
 ·have hw:=bF T cg u;have e5:pf n y=go 1 n (it (two n) u a):=by
   rw [M9,c,lP T cg pa (by omega),show k' - (k' - u)=u by omega,<- wU T<|cP T hw,oo T hw]
  have m1:=wW T hp u;have et:aw n (go 1 n<|it (two n) u a)=z:=by rw [<- e5,ez]
  have hh:=pL T (k:=1) (by decide) m1 hq<|et.trans e2.symm;have h9:i=i':=CG Prod.fst hh;exact h9
end
theorem iY{a m:Nat}(h:a < m):a % m=a:=Cv h
theorem tW{a m:Nat}(h1:m<=a)(h2:a < 2 * m):a % m=a - m:=by rw [Nat.mod_eq_sub_mod h1,Cv<|by omega]
theorem tX{α:Type}(l:List α){K j:Nat}(hK:K < l.length)(hj:j < l.length):(l.drop K++l.take K)[j]?=l[(j+K) % l.length]?:=by
 by_cases c:j+K < l.length
 ·rw [iY c,At (by rw [Bm];omega),Cs,SJ]
 ·rw [tW (by omega) (by omega),Au (by rw [Bm];omega),Bm,Dc<|by omega]
  congr 1
  omega
theorem EA{α:Type}(l:List α)(K:Nat):(l.drop K++l.take K).length=l.length:=by
 rw [Af,Bm,Bi];omega
def b5(l:List Str):List Str:=l.take 1++(l.drop 1).reverse
theorem ie(l:List Str):(b5 l).length=l.length:=by
 unfold b5;rw [Af,Dw,Bm,Bi];omega
theorem EB(l:List Str){j:Nat}(hj:j < l.length):(b5 l)[j]?=l[(l.length - j) % l.length]?:=by
 unfold b5;have lt:(l.take 1).length=1:=by rw [Bi];omega
 by_cases c:j=0
 ·subst c;rw [At (by omega),Dc (by omega),Fd,Ec]
 ·rw [Au (by omega),lt,RW (by rw [Bm];omega),Bm,Cs,iY<|by omega]
  congr 1
  omega
theorem Nb{r o:List Str}(h0:0 < r.length)(he:r.length % 2=0)(hl:o.length=r.length) :
  tV r o↔∃ i,2 * i < r.length/\(r.drop (2 * i)++r.take (2 * i)=o\/(b5 r).drop (2 * i)++(b5 r).take (2 * i)=o):=by
 have ext:∀{l:List Str},l.length=r.length->(∀ j,j < r.length->o[j]?=l[j]?)->l=o:=λ{l} h1 h2=>by
  refine Ck λj=>?_
  by_cases c:j < r.length
  ·exact(h2 j c).symm
  ·rw [Ay (by omega),Ay<|by omega]
 constructor
 ·rintro ⟨_,c,hc,h⟩;have c0:=Db c h0;have ce:c % r.length % 2=0:=by
   obtain⟨k,hk⟩:∃ k,r.length=2 * k:=⟨r.length / 2,by omega⟩;have:=Nat.mod_mul_right_mod c 2 k;rw [<- hk] at this;omega
  rcases h with h | h
  ·refine⟨c % r.length / 2,by omega,.inl ?_⟩;rw [show 2 * (c % r.length / 2)=c % r.length by omega];refine ext (EA _ _) λj hj=>?_;rw [h j hj,tX r c0 hj,Nat.add_mod_mod]
  ·by_cases cz:c % r.length=0
   ·refine⟨0,by omega,.inr<|ext (by rw [EA,ie]) λj hj=>?_⟩;rw [h j hj,tX _ (by rw [ie];omega) (by rw [ie];exact hj),ie,show(j+2 * 0) % r.length=j from iY (by omega),EB r hj]
    congr 1
    rw [Nat.add_mod,cz,Cr,Nat.mod_mod]
   ·refine⟨(r.length - c % r.length) / 2,by omega,.inr ?_⟩;rw [show 2 * ((r.length - c % r.length) / 2)=r.length - c % r.length by omega];refine ext (by rw [EA,ie]) λj hj=>?_;rw [h j hj,tX _ (by rw [ie];omega) (by rw [ie];exact hj),ie,EB r<|Db _ h0]
    congr 1
    rw [Nat.add_mod];generalize c % r.length=c' at c0 ce cz
    by_cases k:j=0
    ·subst k;rw [Fd,Ec,RZ,iY c0,Cr,iY (show r.length - c' < r.length by omega),iY (show r.length - (r.length - c') < r.length by omega)];omega
    ·rw [iY (show r.length - j < r.length by omega)]
     by_cases q:j < c'
     ·rw [tW (show r.length<=c'+(r.length - j) by omega) (by omega),iY (show j+(r.length - c') < r.length by omega),iY (show r.length - (j+(r.length - c')) < r.length by omega)];omega
     ·rw [tW (show r.length<=j+(r.length - c') by omega)<|by omega]
      congr 1
      omega
 ·rintro ⟨i,hi,h⟩;refine⟨hl,?_⟩
  rcases h with h | h
  ·refine⟨2 * i,by omega,.inl λj hj=>?_⟩;rw [<- h,tX r hi hj]
  ·refine⟨r.length - 2 * i,by omega,.inr λj hj=>?_⟩;rw [<- h,tX _ (by rw [ie];omega) (by rw [ie];exact hj),ie,EB r<|Db _ h0]
   congr 1
   by_cases q:j+2 * i < r.length
   ·rw [iY q]
    by_cases z:j+2 * i=0
    ·rw [z,Fd,Ec,show r.length - 2 * i+(r.length - j)=r.length+r.length by omega,Nat.add_mod_right,Ec]
    ·rw [iY (show r.length - (j+2 * i) < r.length by omega),tW (show r.length<=r.length - 2 * i+(r.length - j) by omega)<|by omega];omega
   ·rw [tW (show r.length<=j+2 * i by omega)<|by omega]
    congr 1
    omega
theorem Nc{n:Net}(T:aB n){i:Nat}(hi:i < (aG n).length):0 < (bA n i).length/\(bA n i).length % 2=0/\(bA n i).length<=2 * (ends n).length:=by
 have W:=nK T (ends n) [] (λ_ h=>h) _<|Cu hi;unfold bA;rw [Ab hi,Ep,Aa];exact⟨W.VV,W.even,W.few⟩
end Nt
namespace H3
open PySem L2 Nt bt Classical
noncomputable def EC:Sp:=λvs H Q _=>∃(a b:Addr) (r o:List Str),vs=[.ref a,.ref b]/\H a=some (Ls r)/\H b=some (Ls o)/\0 < r.length/\r.length % 2=0/\r.length<=1000/\o.length<=1000/\∀ H',aj H H'->Q (.bl<|decide (tV r o)) H'
noncomputable def ED:Sp:=λvs H Q _=>∃(R:Addr) (as:List<|Addr×Addr) (n:Net) (z:Str) (p q:Nat×Nt.End),vs=[.ref R,.str z]/\ai H R as n/\(n.map (·.1)).Nodup/\aB n/\n.length<=60/\(ag n).length<=60/\z∈ag n/\fI n 0 z=[p]/\fI n 1 z=[q] /\
 ∀ H',aj H H'->Q (if p.1=q.1 then .bl (decide (p.2=q.2)) else .non) H'
theorem ZK{X:Cx}{P:Program}{w:World}:jx (XF P w) X (λ_ _ _=>False):=λ_ _ _ _ _ _ _ h=>by
 obtain⟨_,_,_,_,_,h,_⟩:=h;exact h.elim
section
variable{P:Program}{w:World}{K:PySem.W.Frag}{mg:Str->Option Value}{base:Heap}
abbrev Nf:List Str:=["_law_one","_law_other_here","_law_back","_law_k"]
abbrev tY:List Str:=["_law_one","_law_other_here","_law_back","_law_k","_law_tie"]
theorem tZ:ao Nf ["_law_one","_law_other_here"] (aV vA):=⟨rfl,rfl,rfl,by decide +kernel,rfl,by decide +kernel,by decide +kernel⟩
theorem ZL:tY.Nodup:=by decide +kernel
theorem ZM{f:Addr}{fd:FuncData}(F:bu K "_law_alike" "_law_alike" vA f fd)(T:Txt mg):aD P w K mg base bD 1 f fd ["_law_one","_law_other_here"] EC:=by
 refine F.gb tZ (λvs H Q E h=>?_) λb0 H vs Q E hr h=>?_
 ·obtain⟨a,b,r,o,rfl,_⟩:=h;rfl
 obtain⟨a,b,r,o,rfl,ha,hb,h0,he,hl,xX,q⟩:=h;have nd:=tZ.nd;have un:=hr.dH;have lr:(r.map V.str).length=r.length:=Aa ..;have lo:(o.map V.str).length=o.length:=Aa ..;show Run _ _ _ [some<|.ref a,some<|.ref b,none,none] H;refine eY<|cB uD<|cL cZ T.len DQ<|al<|ae 0<|ay ⟨a,_,rfl,.inl<|ak.of ha,cL cZ T.len DQ<|al<|ae 1<|ay ⟨b,_,rfl,.inl<|ak.of hb,rfl,_,rfl,?_⟩⟩;have ek:(!decide (V.int ((r.map V.str).length:Int)=V.int ((o.map V.str).length:Int))) = !decide (o.length=r.length):=by
  rw [lr,lo]
  congr 1
  exact decide_eq_decide.mpr ⟨λk=>by have:=V.int.inj k;omega,λk=>by rw [k]⟩
 rw [ek]
 by_cases hlen:o.length=r.length
 case neg=>
  rw [BR hlen];refine bI<|bS<|qA ?_;have:=q H<|aj.refl _;rw [BR λk=>hlen k.1] at this;exact this
 rw [BW hlen];refine bH<|bg ?_;obtain⟨k,hk⟩:∃ k,r.length=2 * k:=⟨r.length / 2,by omega⟩;refine aO 2 nd<|aQ uG<|kD kz<|ae 0<|kE<|kF<|aA ⟨1,rfl,a,_,rfl,ak.of ha,λp1 zP=>?_⟩;have ZN:dh (r.map V.str) none (some (1:Int))=(r.take 1).map V.str:=vJ r 1;rw [ZN];have s1:=aN zP<|.lst<|(r.take 1).map V.str;have e1:(upd H p1<|.lst<|(r.take 1).map V.str) p1=some (Ls<|r.take 1):=ax;generalize upd H p1 (.lst<|(r.take 1).map V.str)=H1 at s1 e1;refine kL (aV vA) Nf tY 1 (Zj rfl T.rev dS)<|al<|kD kz<|ae 0<|kF<|aA ⟨1,rfl,kE ⟨a,_,rfl,ak.of<|s1 _ _ ha,λp2 im=>?_⟩⟩;have ZO:dh (r.map V.str) (some (1:Int)) none=(r.drop 1).map V.str:=vI r 1;rw [ZO];have s2:=aN im<|.lst<|(r.drop 1).map V.str;have e2:(upd H1 p2<|.lst<|(r.drop 1).map V.str) p2=some (Ls<|r.drop 1):=ax;generalize upd H1 p2 (.lst<|(r.drop 1).map V.str)=H2 at s2 e2;refine ay ⟨p2,_,rfl,ak.of e2,λD hD=>?_⟩;have ld:((r.drop 1).map V.str).length=(r.drop 1).length:=Aa ..;have ldr:(r.drop 1).length=r.length - 1:=Bm ..;refine Zk (λi σ' H'=>(∃ v,σ'=[some<|.ref a,some<|.ref b,none,none]++[v])/\aj H2 H'/\H' D=some (Ls<|(r.drop 1).reverse.take i)) ⟨⟨none,rfl⟩,aN hD _,ax⟩ ?_ ?_ ?_
 ·rintro i σ' H' _ ⟨_,sm,_⟩;exact ak.of<|sm _ _ e2
 ·rintro i x σ' H' hi hx ⟨⟨v,rfl⟩,sm,eD⟩;rw [ld] at hi hx;have hz:(r.drop 1).reverse[i]?=some ((r.drop 1).reverse[i]'(by rw [Dw];exact hi)):=Ab _;rw [Ad,<- RW hi,hz] at hx;cases hx;generalize (r.drop 1).reverse[i]'(by rw [Dw];exact hi)=z at hz;intro cl C s₀ H₀ ex;refine bo 4 ZL ?_;intro cl C s₀ H₀ ex;refine d8<|bI ?_;intro cl C s₀ H₀ ex;refine ae 4 ⟨_,eD,?_,⟨_,rfl⟩,eF sm hD,?_⟩
  ·rw [Aa,Bi];exact cf<|by omega
  ·rw [Ce,hz,IM];exact ax
 rintro σ' H3 ⟨_,s3,eD⟩;have ZP:(r.drop 1).reverse.take ((r.drop 1).map V.str).length=(r.drop 1).reverse:=Cd (by rw [ld,Dw];exact Ag _);rw [ZP] at eD;have wH:=s2.trans s3;refine⟨p1,D,_,_,rfl,rfl,wH _ _ e1,eD,?_,λB hB=>?_⟩
 ·rw [Aa,Aa,Bi,Dw];exact small<|by omega
 have s4:=aN hB<|.lst<|(r.take 1).map V.str++(r.drop 1).reverse.map V.str;have eB:(upd H3 B<|.lst<|(r.take 1).map V.str++(r.drop 1).reverse.map V.str) B=some (Ls<|b5 r):=by
  rw [ax];unfold b5;show _=some (HO.lst<|(r.take 1++(r.drop 1).reverse).map V.str);rw [Ai]
 have sH:=s1.trans<|wH.trans s4;show Run _ _ _ [some<|.ref a,some<|.ref b,some<|.ref B,none] (upd H3 B<|.lst<|(r.take 1).map V.str++(r.drop 1).reverse.map V.str);generalize upd H3 B (.lst<|(r.take 1).map V.str++(r.drop 1).reverse.map V.str)=H4 at eB sH;have lb:=ie r;refine qC (Zq rfl T.range dS) (al<|aA<|al<|cL cZ T.len DQ<|al<|ae 0<|ay ⟨a,_,rfl,.inl<|ak.of<|sH _ _ ha,al<|aA<|ay ⟨k,by rw [lr,hk];rfl,by omega,?_⟩⟩);refine Zt (λi σ H'=>aj H4 H'/\(∀ i',i' < i->¬(r.drop (2 * i')++r.take (2 * i')=o\/(b5 r).drop (2 * i')++(b5 r).take (2 * i')=o))/\∃ u3:Option V,σ=[some<|.ref a,some<|.ref b,some<|.ref B,u3]) ⟨aj.refl _,λi' h=>absurd h<|Cg _,_,rfl⟩ ?_ ?_
 ·rintro i σ H5 hi ⟨s5,j9,u3,rfl⟩;have ei:(2 * (i:Int))=((2 * i:Nat):Int):=by omega
  rw [ei];have mS:=sH.trans s5;have hK:2 * i < r.length:=by omega
  refine bo 3 nd ?_;show Run _ _ _ [some<|.ref a,some<|.ref b,some<|.ref B,some<|.int ((2 * i:Nat):Int)] H5;have yes:(r.drop (2 * i)++r.take (2 * i)=o\/(b5 r).drop (2 * i)++(b5 r).take (2 * i)=o)->∀ H',aj H H'->Q (.bl true) H':=λhh H' s'=>by
   have:=q H' s';rw [BW<|(Nb h0 he hlen).mpr ⟨i,hK,hh⟩] at this;exact this
  refine eY<|kG<|yi<|cB (qT un)<|aQ uG<|kD kz<|ae 0<|kF<|ae 3 ⟨_,rfl,kE ⟨a,_,rfl,ak.of<|mS _ _ ha,λq1 ZQ=>?_⟩⟩;rw [vI r<|2 * i];have t1:=aN ZQ<|.lst<|(r.drop<|2 * i).map V.str;have f1:(upd H5 q1<|.lst<|(r.drop<|2 * i).map V.str) q1=some (Ls<|r.drop<|2 * i):=ax;generalize upd H5 q1 (.lst<|(r.drop<|2 * i).map V.str)=H6 at t1 f1;refine kD kz<|ae 0<|kE<|kF<|ae 3 ⟨_,rfl,a,_,rfl,ak.of<|t1 _ _<|mS _ _ ha,λq2 ZR=>?_⟩;rw [vJ r<|2 * i];have t2:=aN ZR<|.lst<|(r.take<|2 * i).map V.str;have f2:(upd H6 q2<|.lst<|(r.take<|2 * i).map V.str) q2=some (Ls<|r.take<|2 * i):=ax;generalize upd H6 q2 (.lst<|(r.take<|2 * i).map V.str)=H7 at t2 f2;refine⟨q1,q2,_,_,rfl,rfl,t2 _ _ f1,f2,?_,λq3 ZS=>?_⟩
  ·rw [Aa,Aa,Bi,Bm];exact small<|by omega
  have t3:=aN ZS<|.lst<|(r.drop<|2 * i).map V.str++(r.take<|2 * i).map V.str;have f3:(upd H7 q3<|.lst<|(r.drop<|2 * i).map V.str++(r.take<|2 * i).map V.str) q3=some (Ls<|r.drop (2 * i)++r.take (2 * i)):=by
   rw [ax];show _=some (HO.lst<|(r.drop (2 * i)++r.take (2 * i)).map V.str);rw [Ai]
  have t6:=t1.trans<|t2.trans t3;generalize upd H7 q3 (.lst<|(r.drop<|2 * i).map V.str++(r.take<|2 * i).map V.str)=H8 at f3 t6;have EE:=mS.trans t6;refine ae 1 ⟨1,_,by omega,LN f3<|EE _ _ hb,_,rfl,?_⟩
  by_cases c1:r.drop (2 * i)++r.take (2 * i)=o
  ·rw [BW c1];exact bI<|bI<|bS<|qA<|yes (.inl c1) _ EE
  rw [BR c1];refine bH<|yk<|cB (qT un)<|aQ uG<|kD kz<|ae 2<|kF<|ae 3 ⟨_,rfl,kE ⟨B,_,rfl,ak.of<|t6 _ _<|s5 _ _ eB,λg1 ZT=>?_⟩⟩;rw [vI (b5 r)<|2 * i];have w1:=aN ZT<|.lst<|((b5 r).drop<|2 * i).map V.str;have k1:(upd H8 g1<|.lst<|((b5 r).drop<|2 * i).map V.str) g1=some (Ls<|(b5 r).drop<|2 * i):=ax;generalize upd H8 g1 (.lst<|((b5 r).drop<|2 * i).map V.str)=H9 at w1 k1;refine kD kz<|ae 2<|kE<|kF<|ae 3 ⟨_,rfl,B,_,rfl,ak.of<|w1 _ _<|t6 _ _<|s5 _ _ eB,λg2 ZU=>?_⟩;rw [vJ (b5 r)<|2 * i];have w2:=aN ZU<|.lst<|((b5 r).take<|2 * i).map V.str;have k2:(upd H9 g2<|.lst<|((b5 r).take<|2 * i).map V.str) g2=some (Ls<|(b5 r).take<|2 * i):=ax;generalize upd H9 g2 (.lst<|((b5 r).take<|2 * i).map V.str)=HA at w2 k2;refine⟨g1,g2,_,_,rfl,rfl,w2 _ _ k1,k2,?_,λg3 ZV=>?_⟩
  ·rw [Aa,Aa,Bi,Bm];exact small<|by omega
  have w3:=aN ZV<|.lst<|((b5 r).drop<|2 * i).map V.str++((b5 r).take<|2 * i).map V.str;have k3:(upd HA g3<|.lst<|((b5 r).drop<|2 * i).map V.str++((b5 r).take<|2 * i).map V.str) g3=some (Ls<|(b5 r).drop (2 * i)++(b5 r).take (2 * i)):=by
   rw [ax];show _=some (HO.lst<|((b5 r).drop (2 * i)++(b5 r).take (2 * i)).map V.str);rw [Ai]
  have w13:=w1.trans<|w2.trans w3;generalize upd HA g3 (.lst<|((b5 r).drop<|2 * i).map V.str++((b5 r).take<|2 * i).map V.str)=HB at k3 w13;have Ng:=EE.trans w13;refine ae 1 ⟨1,_,by omega,LN k3<|Ng _ _ hb,_,rfl,?_⟩
  by_cases c2:(b5 r).drop (2 * i)++(b5 r).take (2 * i)=o
  ·rw [BW c2];exact bI<|bS<|qA<|yes (.inr c2) _ Ng
  rw [BR c2];refine bH<|bg<|bg ⟨s5.trans<|t6.trans w13,λi' k4=>?_,_,rfl⟩
  by_cases e:i'=i
  ·subst e;exact λhh=>hh.elim c1 c2
  ·exact j9 i'<|by omega
 ·rintro σ H5 ⟨s5,j9,u3,rfl⟩;refine bS<|qA ?_;have:=q H5<|sH.trans s5;rw [BR λZW=>by
   obtain⟨i,hi,hh⟩:=(Nb h0 he hlen).mp ZW;exact j9 i (by omega) hh] at this
  exact this
abbrev ZX:List Str:=["_law_rows","_law_tie","_law_passes"]
theorem t7:ao ZX ["_law_rows","_law_tie"] (aV zb):=⟨rfl,rfl,rfl,by decide +kernel,rfl,by decide +kernel,by decide +kernel⟩
theorem ZY{f:Addr}{fd:FuncData}{c:Str->Addr}(F:bu K "_law_same_way" "_law_same_way" zb f fd)(T:Txt mg)(cl:Cl K mg c)(GP:dP P w K mg base 5 "passes_of" ["rows","tie"]<|C7 c):aD P w K mg base bD 6 f fd ["_law_rows","_law_tie"] ED:=by
 refine F.gb t7 (λvs H Q E h=>?_) λb0 H vs Q E hr h=>?_
 ·obtain⟨R,as,n,z,p,q,rfl,_⟩:=h;rfl
 obtain⟨R,as,n,z,p,q,rfl,hR,hN,hT,hn,jm,hz,hp,hq,qq⟩:=h;have nd:=t7.nd;have un:=hr.dH;show Run _ _ _ [some<|.ref R,some<|.str z,none] H;refine aO 2 nd<|LY GP hr ZK<|al<|ae 0<|al<|ae 1<|ay ⟨R,as,n,z,rfl,hR,hN,hT,hn,jm,λk=>absurd hz k,λ_ L ts H1 s1 n1 hP=>?_⟩;have ep:tG n z=[p,q]:=by
  show fI n 0 z++fI n 1 z=_;rw [hp,hq];rfl
 rw [ep] at hP;obtain⟨eL,ll,iD⟩:=hP
 match ts,ll,eL,iD with
 | [t0,t1],_,eL,iD=>
  obtain⟨u0,a0,ZZ⟩:=iD 0 t0 p rfl rfl;obtain⟨u1,a1,b1⟩:=iD 1 t1 q rfl rfl;show Run _ _ _ [some<|.ref R,some<|.str z,some<|.ref L] H1;refine eY<|cB uD<|aT bU<|aT cr<|ae 2<|aA ⟨L,_,_,.ref t0,rfl,rfl,ak.of eL,rfl,aA ⟨t0,_,_,.int (p.1:Int),rfl,rfl,aM.of a0,rfl,aT bU<|aT cr<|ae 2<|aA ⟨L,_,_,.ref t1,rfl,rfl,ak.of eL,rfl,aA ⟨t1,_,_,.int (q.1:Int),rfl,rfl,aM.of a1,rfl,rfl,_,rfl,?_⟩⟩⟩⟩;have ek:(!decide (V.int (p.1:Int)=V.int (q.1:Int))) = !decide (p.1=q.1):=by
   congr 1
   exact decide_eq_decide.mpr ⟨λk=>by have:=V.int.inj k;omega,λk=>by rw [k]⟩
  rw [ek];have fin:=qq H1 s1
  by_cases c:p.1=q.1
  ·rw [BW c];rw [BL c] at fin;have mem:∀{k:Nat} {p:Nat×Nt.End},fI n k z=[p]->k<=1->p.2∈ends n:=λ{k p} h hk=>by
    have hm:p∈fI n k z:=by rw [h];exact Ah.mpr rfl
    obtain⟨w',hw,hx⟩:=pK (i:=p.1) (e:=p.2) (Dh.mp hm).1;have W:=nK hT (ends n) [] (λ_ h=>h) _<|Al hw;refine W.ends _ ?_;obtain⟨m,hm⟩:=Bt hx;unfold cX at hm;rw [ji,Cs] at hm;exact Al hm
   have m0:=Ma (mem hp<|by decide);have m1:=Ma (mem hq<|by decide);have eq:decide (nameAt n p.2.1=nameAt n q.2.1/\(p.2.2:Int)=(q.2.2:Int))=decide (p.2=q.2):=by
    refine decide_eq_decide.mpr ⟨λ⟨k1,k2⟩=>KY ?_ (by omega),λk=>by rw [k];exact⟨rfl,rfl⟩⟩;exact Mi hN m0.1 m1.1 k1
   refine bH (bg<|bS<|yh (qT un)<|aT bU<|aT cr<|ae 2<|aA ⟨L,_,_,.ref t0,rfl,rfl,ak.of eL,rfl,aA ⟨t0,_,_,.ref u0,rfl,rfl,aM.of a0,rfl,aT bU<|aT cr<|ae 2<|aA ⟨L,_,_,.ref t1,rfl,rfl,ak.of eL,rfl,aA ⟨t1,_,_,.ref u1,rfl,rfl,aM.of a1,rfl,1,_,by decide,VG ZZ b1,?_⟩⟩⟩⟩);rw [eq];exact fin
  ·rw [BR c];rw [BP c] at fin;exact bI<|bS<|oE fin
def wY(K:PySem.W.Frag):Sp:=λvs H Q _=>∃(a:Addr) (ns:List Int),vs=[.ref a]/\ak K H a (ns.map V.int)/\ns.length<=63/\∀ H',Q (.bl true) H'
abbrev NW:List Str:=["_law_script","_law_big_here","_law_rows","_law_dual","_law_ones","_law_others","_law_one","_law_alike_here","_law_tie","_law_here","_law_there"]
abbrev EF:List Str:=["_law_script","_law_big_here","_law_rows","_law_dual","_law_ones","_law_others","_law_one","_law_alike_here","_law_tie","_law_here","_law_there","_law_walker"]
abbrev Nh:List Str:=["_law_script","_law_big_here","_law_rows","_law_dual","_law_ones","_law_others","_law_one","_law_alike_here","_law_tie","_law_here","_law_there","_law_k"]
theorem lS:ao NW ["_law_script"] (aV gF):=⟨rfl,rfl,rfl,by decide +kernel,rfl,by decide +kernel,by decide +kernel⟩
theorem Ni:EF.Nodup:=by decide +kernel
theorem Z4:Nh.Nodup:=by decide +kernel
theorem Z5{j m:Nat}(h:j < m):seqIndex? (j:Int) m=some j:=by
 unfold seqIndex?;have c1:¬((j:Int) < 0):=by omega
 simp only [c1,CN];have c2:(decide (0<=(j:Int)) && decide ((j:Int) < (m:Int)))=true:=by
  rw [Br,DN,DN];omega
 rw [BL c2,Ba]
theorem Z6{f:Addr}{fd:FuncData}(F:bu K "law" "law" gF f fd)(T:Txt mg)
  (GC:aP P w K mg base 6 "_law_cell_at" ["_law_script","_law_k"]<|vB K) (GB:aP P w K mg base 6 "_law_big" ["_law_script","_law_at"]<|zf K) (GN:aP P w K mg base 6 "_law_net_by" ["_law_big_here","_law_most","_law_stem"] zJ) (GY:aP P w K mg base 6 "_law_copy" ["_law_rows"] zX) (GS:aP P w K mg base 6 "_law_seats" ["_law_rows"] vC)
  (GO:aP P w K mg base 6 "other_net" ["rows"] B7) (GW:aP P w K mg base 6 "walkers_of" ["rows"] v8) (GT:aP P w K mg base 6 "_law_ties" ["_law_rows","_law_walker"] DJ) (GA:aP P w K mg base 6 "_law_alike" ["_law_one","_law_other_here"] EC) (GM:aP P w K mg base 6 "_law_same_way" ["_law_rows","_law_tie"] ED) :
  aD P w K mg base bD 7 f fd ["_law_script"] (wY K):=by
 refine F.gb lS (λvs H Q E h=>?_) λb0 H vs Q E hr h=>?_
 ·obtain⟨a,ns,rfl,_⟩:=h;rfl
 obtain⟨a,ns,rfl,hS,h63,q⟩:=h;have nd:=lS.nd;have un:=hr.dH;show Run _ _ _ [some<|.ref a,none,none,none,none,none,none,none,none,none,none] H;refine aO 1 nd (bJ GB hr<|al<|ae 0<|al<|aA<|ay ⟨a,ns,0,rfl,hS,by decide,λb H1 s1=>?_⟩);refine aO 2 nd (bJ GN hr<|al<|aQ fO<|ae 1<|aA ⟨_,_,rfl,rfl,⟨by decide,by decide⟩,?_⟩);refine al (aA<|al<|aQ d0<|aQ cI<|ae 1<|aA ⟨_,_,rfl,rfl,(by show(0:Int) < 97;decide),bJ GC hr<|al<|ae 0<|al<|aA<|ay ⟨a,ns,9,rfl,s1.seq hS,by decide,λc9=>⟨_,_,rfl,rfl,?_⟩⟩⟩);refine ay ⟨_,16,_,rfl,by decide,by decide,λR as n H2 s2 n2 hR hT hN hF jm sw has=>?_⟩;have Z7:((16:Int)).toNat=16:=rfl;rw [Z7] at jm sw;have jg:=jO n;have T':=dA hT;have EG:((av n).map (·.1)).Nodup:=Zv (by omega);have cQ:=(tP hT).length_eq;have Z8:=jO<|av n;have m7:(av n).length<=33:=by
  have:=BG n;show(cF n<|ca n).length<=33;rw [B6];omega
 refine aO 3 nd (bJ GO hr<|al<|bJ GY hr<|al<|ae 2<|ay ⟨R,as,n,rfl,hR,by omega,λM bs H3 s3 n3 f3 hM=>ay ⟨M,bs,n,rfl,hM,hN,hT,by omega,by omega,λDU ds H4 s4 n4 f4 hD _=>?_⟩⟩);have iH:=hR.same<|s3.trans s4;show Run _ _ _ [some<|.ref a,some<|.int b,some<|.ref R,some<|.ref DU,none,none,none,none,none,none,none] H4;refine Ho 4 (aV gF) NW EF 1 nd (gs bw) (bJ GW hr<|al<|ae 2<|ay ⟨R,as,n,rfl,iH,hN,hT,by omega,by omega,λW1 Nj Z9 Nk nA1 wZ fW1=>⟨W1,rfl,⟨_,ak.of wZ.lst⟩,λL1 Nm=>?_⟩⟩);have wl1:(aG<|n).length<=(ends<|n).length:=sJ (n) (ends<|n) [];have t8:Nj.length=(aG<|n).length:=wZ.len;refine oW (xs:=Nj.map V.ref) (λi σ' H'=>(∃ v,σ'=[some<|.ref a,some<|.int b,some<|.ref R,some<|.ref DU,none,none,none,none,none,none,none]++[v])/\aj Z9 H'/\∃ us:List Addr,H' L1=some (.lst<|us.map V.ref)/\us.length=i/\∀(j:Nat) u,us[j]?=some u->H' u=some (Ls<|bA (n) j)/\u≠L1) ⟨⟨none,rfl⟩,aN Nm _,[],ax,rfl,λj u h=>by simp at h⟩ ?_ ?_ ?_
 ·rintro i σ' H' _ ⟨_,sm,_⟩;exact ak.of<|sm _ _ wZ.lst
 ·rintro i x σ' H' hx ⟨⟨v,rfl⟩,sm,us,eL,lu,iD⟩;rw [Ad,Ax] at hx;obtain⟨l,hl,rfl⟩:=hx;have jJ:i < (aG<|n).length:=by have:=(Ac.mp hl).1;rw [<- t8];exact this
  have iW:=Ab jJ;obtain⟨ts,el,hE⟩:=(wZ.same sm).at' i l _ hl iW;have wk:=nK hT (ends<|n) [] (λe he=>he) _<|Al iW;have few:=wk.few;have ew:bA (n) i=(aG<|n)[i].map (aw<|n):=by unfold bA;rw [iW];rfl
  intro cl C s₀ H₀ ex;refine bo 11 Ni ?_;intro cl C s₀ H₀ ex;refine d8<|bI ?_;intro cl C s₀ H₀ ex;refine bJ GT hr (al<|ae 2<|al<|ae 11<|ay ⟨R,l,as,n,ts,_,rfl,(iH).same<|Nk.trans sm,hN,by omega,el,hE,wk.ends,by omega,λk H2 s2 n2 e2=>?_⟩);rw [<- ew] at e2;have nk:k≠L1:=λe=>by rw [e,eL] at n2;cases n2
  refine⟨_,s2 _ _ eL,by rw [Aa];exact cf (by omega),⟨_,rfl⟩,eF (sm.trans s2) Nm,us++[k],by rw [ax,Ai];rfl,by rw [Af,lu];rfl,λj u h=>?_⟩
  by_cases hj:j < us.length
  ·rw [At hj] at h;obtain⟨q1,q2⟩:=iD j u h;exact⟨by rw [au q2];exact s2 _ _ q1,q2⟩
  ·rw [Au<|by omega] at h;have f9:j - us.length=0:=by have:=(Ac.mp h).1;simp at this;omega
   rw [f9] at h;cases h;obtain rfl:j=i:=by omega
   exact⟨by rw [au nk];exact e2,nk⟩
 rintro σ' H5 ⟨_,sB1,pR,Nn,Np,t9⟩;rw [Aa,t8] at Np;have Nq:=Nk.trans sB1;show Run _ _ _ [some<|.ref a,some<|.int b,some<|.ref R,some<|.ref DU,some<|.ref L1,none,none,none,none,none,none] H5;have ri:=iH.same Nq;have w5:=hD.same Nq;refine aO 5 nd (kL (aV gF) NW EF 1 (gs bw)<|bJ GW hr<|al<|ae 3<|ay ⟨DU,ds,av n,rfl,w5,EG,T',by omega,by omega,λW2 Nr HA2 EH nA2 w6 fW2=>⟨W2,rfl,⟨_,ak.of w6.lst⟩,λL2 gI=>?_⟩⟩);have wl2:(aG<|av n).length<=(ends<|av n).length:=sJ (av n) (ends<|av n) [];have ua:Nr.length=(aG<|av n).length:=w6.len;refine oW (xs:=Nr.map V.ref) (λi σ' H'=>(∃ v,σ'=[some<|.ref a,some<|.int b,some<|.ref R,some<|.ref DU,some<|.ref L1,none,none,none,none,none,none]++[v])/\aj HA2 H'/\∃ us:List Addr,H' L2=some (.lst<|us.map V.ref)/\us.length=i/\∀(j:Nat) u,us[j]?=some u->H' u=some (Ls<|bA (av n) j)/\u≠L2) ⟨⟨none,rfl⟩,aN gI _,[],ax,rfl,λj u h=>by simp at h⟩ ?_ ?_ ?_
 ·rintro i σ' H' _ ⟨_,sm,_⟩;exact ak.of<|sm _ _ w6.lst
 ·rintro i x σ' H' hx ⟨⟨v,rfl⟩,sm,us,eL,lu,iD⟩;rw [Ad,Ax] at hx;obtain⟨l,hl,rfl⟩:=hx;have jJ:i < (aG<|av n).length:=by have:=(Ac.mp hl).1;rw [<- ua];exact this
  have iW:=Ab jJ;obtain⟨ts,el,hE⟩:=(w6.same sm).at' i l _ hl iW;have wk:=nK T' (ends<|av n) [] (λe he=>he) _<|Al iW;have few:=wk.few;have ew:bA (av n) i=(aG<|av n)[i].map (aw<|av n):=by unfold bA;rw [iW];rfl
  intro cl C s₀ H₀ ex;refine bo 11 Ni ?_;intro cl C s₀ H₀ ex;refine d8<|bI ?_;intro cl C s₀ H₀ ex;refine bJ GT hr (al<|ae 3<|al<|ae 11<|ay ⟨DU,l,ds,av n,ts,_,rfl,(w5).same<|EH.trans sm,EG,by omega,el,hE,wk.ends,by omega,λk H2 s2 n2 e2=>?_⟩);rw [<- ew] at e2;have nk:k≠L2:=λe=>by rw [e,eL] at n2;cases n2
  refine⟨_,s2 _ _ eL,by rw [Aa];exact cf (by omega),⟨_,rfl⟩,eF (sm.trans s2) gI,us++[k],by rw [ax,Ai];rfl,by rw [Af,lu];rfl,λj u h=>?_⟩
  by_cases hj:j < us.length
  ·rw [At hj] at h;obtain⟨q1,q2⟩:=iD j u h;exact⟨by rw [au q2];exact s2 _ _ q1,q2⟩
  ·rw [Au<|by omega] at h;have f9:j - us.length=0:=by have:=(Ac.mp h).1;simp at this;omega
   rw [f9] at h;cases h;obtain rfl:j=i:=by omega
   exact⟨by rw [au nk];exact e2,nk⟩
 rintro σ' H6 ⟨_,sB2,nY,Nu,Nv,ub⟩;rw [Aa,ua] at Nv;have uc:=EH.trans sB2;show Run _ _ _ [some<|.ref a,some<|.int b,some<|.ref R,some<|.ref DU,some<|.ref L1,some<|.ref L2,none,none,none,none,none] H6;have Jf:=ri.same uc;have hD6:=w5.same uc;have ud:=uc _ _ Nn;have Nw:∀(j:Nat) u,pR[j]?=some u->H6 u=some (Ls<|bA n j):=λj u h=>uc _ _ (t9 j u h).1;have EI:=ZI hT;have l1:(pR.map V.ref).length=pR.length:=Aa ..;have l2:(nY.map V.ref).length=nY.length:=Aa ..;refine eY<|cB uD<|cL cZ T.len DQ<|al<|ae 4<|ay ⟨L1,_,rfl,.inl<|ak.of ud,cL cZ T.len DQ<|al<|ae 5<|ay ⟨L2,_,rfl,.inl<|ak.of Nu,rfl,_,rfl,?_⟩⟩;rw [BW (show V.int ((pR.map V.ref).length:Int)=V.int ((nY.map V.ref).length:Int) by rw [l1,l2,Np,Nv,EI])];refine bH<|bg ?_;generalize Nx:(λc=>if c=L2 then none else H6 c:Hp)=HZ;have hG:∀ c,c≠L2->HZ c=H6 c:=λc hc=>by rw [<- Nx];exact BP hc
 have hzL:HZ L2=none:=by rw [<- Nx];exact BL rfl
 have Ny:∀{c:Addr} {o:HO},HZ c=some o->c≠L2:=λh k=>by rw [k,hzL] at h;cases h
 have s6Z:aj HZ H6:=λc o h=>by rw [<- hG c<|Ny h];exact h
 have w8:aj H5 HZ:=λc o h=>by
  have hc:c≠L2:=λk=>by
   rw [k] at h;have:=EH _ _ h;rw [gI] at this;cases this
  rw [hG c hc];exact uc _ _ h
 have Nz:=ri.same w8;have hDZ:=w5.same w8;have EJ:=w8 _ _ Nn;have uf:∀(j:Nat) u,pR[j]?=some u->HZ u=some (Ls<|bA n j):=λj u h=>w8 _ _ (t9 j u h).1;have ug:∀(j:Nat) u,nY[j]?=some u->HZ u=some (Ls<|bA (av n) j):=λj u h=>by rw [hG u (ub j u h).2];exact(ub j u h).1
 refine mq<|ae 4 ⟨L1,rfl,⟨_,ak.of ud⟩,?_⟩;refine mr (xs:=pR.map V.ref) (λi σ H'=>∃(vj:List<|Addr×Nat) (u6 u7:Option V),aj HZ H'/\H' L2=some (.lst<|vj.map λp=>V.ref p.1)/\vj.length<=40/\(∀ p∈vj,HZ p.1=some (Ls<|bA (av n) p.2)/\p.2 < (aG<|av n).length)/\(∀ j,j < (aG<|av n).length->(∀ i',i' < i->¬ fJ n i' j)->∃ p∈vj,p.2=j) /\
   σ=[some<|.ref a,some<|.int b,some<|.ref R,some<|.ref DU,some<|.ref L1,some<|.ref L2,u6,u7,none,none,none])
  ⟨nY.zipIdx,_,_,s6Z,?_,by rw [List.length_zipIdx];omega,λp hp=>?_,λj hj _=>?_,rfl⟩ ?_ ?_ ?_
 ·rw [Nu]
  congr 2
  rw [show(λp:Addr×Nat=>V.ref p.1)=V.ref ∘ Prod.fst from rfl,<- Bv,List.zipIdx_map_fst]
 ·obtain⟨u,j⟩:=p;have hm:=List.mk_mem_zipIdx_iff_getElem?.mp hp;exact⟨ug j u hm,by have:=(Ac.mp hm).1;show j < _;omega⟩
 ·have hm:=Ab (show j < nY.length by omega);exact⟨(nY[j]'(by omega),j),List.mk_mem_zipIdx_iff_getElem?.mpr hm,rfl⟩
 ·rintro i σ H' _ ⟨_,_,_,sm,_⟩;exact ak.of<|sm _ _ EJ
 ·rintro i x σ H7 hx ⟨vj,u6,u7,s7,e7,lv,hv,nZ,rfl⟩;rw [Ad,Ax] at hx;obtain⟨u,hu,rfl⟩:=hx;have sX:i < (aG n).length:=by have:=(Ac.mp hu).1;omega
  have hur:=uf i u hu;obtain⟨w0,we,wf⟩:=Nc hT sX;have NA:(vj.map λp=>V.ref p.1).length=vj.length:=Aa ..;refine bo 6 nd ?_;show Run _ _ _ [some<|.ref a,some<|.int b,some<|.ref R,some<|.ref DU,some<|.ref L1,some<|.ref L2,some<|.ref u,u7,none,none,none] H7;refine Ho 7 (aV gF) NW Nh 1 nd (xB rfl T.range dS) (al<|cL cZ T.len DQ<|al<|ae 5<|ay ⟨L2,_,rfl,.inl<|ak.of e7,ay ⟨_,rfl,by omega,by omega,λD iQ=>?_⟩⟩);rw [NA,Ba];have nDL:L2≠D:=a9 e7 iQ;refine J2 (λt σ' H'=>(∃ v,σ'=[some<|.ref a,some<|.int b,some<|.ref R,some<|.ref DU,some<|.ref L1,some<|.ref L2,some<|.ref u,u7,none,none,none]++[v])/\aj H7 H'/\∃ ks:List Nat,H' D=some (.lst<|ks.map λk:Nat=>V.int (k:Int))/\ks.length<=t/\(∀ k∈ks,∃ p,vj[k]?=some p/\fJ n i p.2)/\(∀ k p,k < t->vj[k]?=some p->fJ n i p.2->k∈ks)) ⟨⟨_,rfl⟩,aN iQ _,[],ax,Ag _,λk h=>(by cases h),λk p h=>absurd h<|Cg _⟩ ?_ ?_
  ·rintro t σ' H' ht ⟨⟨v,rfl⟩,sm,ks,eD,lk,h1,h2⟩;rw [Dd];have hp:=Ab ht;obtain⟨q1,q2⟩:=hv _<|Cu ht;generalize vj[t]=p at hp q1 q2;obtain⟨o0,oe,of⟩:=Nc T' q2;have ND:=s7.trans sm;intro cl C s₀ H₀ ex;refine bo 11 Z4 ?_;intro cl C s₀ H₀ ex;refine yA (Q7<|bJ GA hr<|al<|ae 6<|al<|aT cr<|ae 5<|ae 11 ⟨L2,_,_,.ref p.1,rfl,rfl,ak.of<|sm _ _ e7,ku (by rw [Ad,hp];rfl),ay ⟨u,p.1,_,_,rfl,ND _ _ hur,ND _ _ q1,w0,we,by omega,by omega,λH8 s8=>⟨_,rfl,?_⟩⟩⟩);have ek:decide (tV (bA n i)<|bA (av n) p.2)=decide (fJ n i p.2):=decide_eq_decide.mpr ⟨ZC hT sX q2,Zz hT⟩;rw [ek];have NI:=sm.trans s8
   by_cases c:fJ n i p.2
   ·rw [BW c];refine bI ?_;intro cl C s₀ H₀ ex;refine ae 11 ⟨_,s8 _ _ eD,by rw [Aa];exact cf (by omega),⟨_,rfl⟩,eF NI iQ,ks++[t],by rw [ax,Ai];rfl,by rw [Af];show ks.length+1<=_;omega,λk hk=>?_,λk p' hk dY hs=>?_⟩
    ·rcases Aq.mp hk with h | h
     ·exact h1 k h
     ·rw [Ah.mp h];exact⟨p,hp,c⟩
    ·by_cases e:k=t
     ·rw [e];exact Az _<|Ah.mpr rfl
     ·exact Bl _<|h2 k p' (by omega) dY hs
   ·rw [BR c];refine bH ⟨⟨_,rfl⟩,NI,ks,s8 _ _ eD,by omega,h1,λk p' hk dY hs=>?_⟩
    by_cases e:k=t
    ·rw [e,hp] at dY;cases dY;exact absurd hs c
    ·exact h2 k p' (by omega) dY hs
  rintro σ' H8 ⟨_,s8,ks,eD,lk,h1,h2⟩;have s78:=s7.trans s8;show Run _ _ _ [some<|.ref a,some<|.int b,some<|.ref R,some<|.ref DU,some<|.ref L1,some<|.ref L2,some<|.ref u,some<|.ref D,none,none,none] H8;obtain⟨j,hj,uH⟩:=lR hT sX;obtain⟨p,hpv,ep⟩:=nZ j hj λi' k4 hs=>by have:=M6 hT hs uH;omega
  obtain⟨k,hk⟩:=Bt hpv;have Jw:=(Ac.mp hk).1;have hkm:=h2 k p Jw hk (by rw [ep];exact uH);obtain⟨k0,kr,rfl⟩:∃ k0 kr,ks=k0 :: kr:=by
   cases ks with
   | nil=>cases hkm
   | cons a l=>exact⟨a,l,rfl⟩
  obtain⟨p0,EK,sh0⟩:=h1 k0<|As ..;have hk0:=(Ac.mp EK).1;refine eY<|cB (qT un)<|ae 7<|di<|ay ⟨Z0,λpz k8=>?_⟩;have sz:=aN k8<|.lst [];refine⟨1,false,by decide,Im (k:=1) (ak.of<|sz _ _ eD) (ak.of (xs:=[]) ax) (λh=>by cases h),_,rfl,bH<|bg ?_⟩;have e9:=sz _ _<|s8 _ _ e7;have nH:=sz _ _ eD;have NM:=s78.trans sz;generalize upd H8 pz (.lst [])=H9 at e9 nH NM;refine fb (yJ FJ RN RP Gk<|ae 5 (v:= .ref L2) ⟨Jl e9,aT cr<|ae 7<|aA ⟨D,_,_,.int (k0:Int),rfl,rfl,ak.of nH,ku (j:=0) rfl,L2,_,_,k0,.ref p0.1,rfl,rfl,e9,by omega,by omega,by rw [NA];exact Z5 hk0,by rw [Ad,EK];rfl,?_⟩⟩);have eu:(upd H9 L2<|.lst<|(vj.map λp=>V.ref p.1).eraseIdx k0) L2=some (.lst<|(vj.eraseIdx k0).map λp=>V.ref p.1):=by rw [ax,JZ,JZ,Ai,Fg,Ey]
  refine bg ⟨vj.eraseIdx k0,_,_,λc o h=>by rw [au<|Ny h];exact NM _ _ h,eu,?_,λp hp=>hv p<|Ez hp,λj' gS j9=>?_,rfl⟩
  ·have:=List.length_eraseIdx_le vj k0;omega
  ·obtain⟨p',dY,ki⟩:=nZ j' gS λi' k4=>j9 i' (by omega);refine⟨p',?_,ki⟩;have b6:p'≠p0:=λe=>j9 i (El _) (by rw [<- ki,e];exact sh0);obtain⟨k',jG⟩:=Bt dY;refine List.mem_eraseIdx_iff_getElem?.mpr ⟨k',λe=>?_,jG⟩;rw [e,EK] at jG;cases jG;exact b6 rfl
 ·rintro σ H7 ⟨vj,u6,u7,s7,e7,lv,hv,nZ,rfl⟩;refine qC (UJ bw) (bJ GS hr<|al<|ae 2<|ay ⟨R,as,n,rfl,Nz.same s7,by omega,by omega,λsd ks H8 s8 n8 NR=>?_⟩);obtain⟨pS,ed,ek,ev⟩:=NR.dict;refine⟨sd,pS,rfl,ed,λob=>?_⟩;have s9:aj H7 (upd H8 sd<|.bN ob<|.dK pS):=eF s8 n8;have e9:(upd H8 sd<|.bN ob<|.dK pS) sd=some (.bN ob<|.dK pS):=ax;generalize upd H8 sd (.bN ob<|.dK pS)=H9 at s9 e9;refine Wu (λi σ H'=>aj H9 H'/\∃ u8 u9 mX:Option V,σ=[some<|.ref a,some<|.int b,some<|.ref R,some<|.ref DU,some<|.ref L1,some<|.ref L2,u6,u7,u8,u9,mX]) ⟨aj.refl _,_,_,_,rfl⟩ ?_ ?_ ?_
  ·rintro i σ H' _ ⟨sm,_⟩;exact sm _ _ e9
  ·rintro i pr σ HA hpr ⟨sm,u8,u9,mX,rfl⟩;have uh:pr.1∈pS.map (·.1):=Aj.mpr ⟨pr,Al hpr,rfl⟩;rw [ek] at uh;obtain⟨z,hzk,ez⟩:=Aj.mp uh;have hz:z∈ag n:=(NR.mem z).mp hzk;have pN:z∈ag (av n):=(tP hT).mem_iff.mpr hz;rw [<- ez];obtain⟨p,p1,p2,hp⟩:=pJ hT (k:=0) (by decide) hz;obtain⟨q0,q1,q2,hq⟩:=pJ hT (k:=1) (by decide) hz;obtain⟨p',p1',p2',dY⟩:=pJ T' (k:=0) (by decide) pN;obtain⟨q',q1',q2',pQ⟩:=pJ T' (k:=1) (by decide) pN;obtain⟨ui,EL⟩:=ZJ hT p1 q1 p1' q1' p2 q2 p2' q2';have sA:=(s7.trans s9).trans sm;refine bo 8 nd ?_;show Run _ _ _ [some<|.ref a,some<|.int b,some<|.ref R,some<|.ref DU,some<|.ref L1,some<|.ref L2,u6,u7,some<|.str z,u9,mX] HA;refine aO 9 nd (bJ GM hr<|al<|ae 2<|al<|ae 8<|ay ⟨R,as,n,z,p,q0,rfl,Nz.same sA,hN,hT,by omega,by omega,hz,hp,hq,λHB sB=>?_⟩);refine aO 10 nd (bJ GM hr<|al<|ae 3<|al<|ae 8<|ay ⟨DU,ds,av n,z,p',q',rfl,(hDZ.same sA).same sB,EG,T',by omega,by omega,pN,dY,pQ,λHC sC=>?_⟩);have NU:=(sm.trans sB).trans sC
   by_cases c:p.1=q0.1
   ·have c':=ui.mp c;rw [BL c,BL c'];have k2:=EL c;show Run _ _ _ [some<|.ref a,some<|.int b,some<|.ref R,some<|.ref DU,some<|.ref L1,some<|.ref L2,u6,u7,some<|.str z,some<|.bl<|decide (p.2=q0.2),some<|.bl<|decide (p'.2=q'.2)] HC;refine eY<|kG<|yi<|kG<|qB<|cB F3<|ae 9<|oE ⟨rfl,_,rfl,?_⟩;rw [BR λk=>by cases k];refine bH<|bH<|yk<|kG<|qB<|cB xG<|ae 9<|oE ⟨rfl,_,rfl,?_⟩;rw [BR λk=>by cases k];refine bI<|yj<|cB uD<|ae 10<|Q5<|ae 9 ⟨_,rfl,rfl,_,rfl,?_⟩;have e5:decide (V.bl (decide (p'.2=q'.2))=V.bl (!decide (p.2=q0.2)))=true:=by
     by_cases y:p.2=q0.2
     ·have:=k2.mp y;rw [BW y,BR this];rfl
     ·have:p'.2=q'.2:=DK λhn=>y<|k2.mpr hn;rw [BR y,BW this];rfl
    rw [e5];exact bH<|bg<|bg ⟨NU,_,_,_,rfl⟩
   ·have c':¬ p'.1=q'.1:=λk=>c<|ui.mpr k;rw [BP c,BP c'];show Run _ _ _ [some<|.ref a,some<|.int b,some<|.ref R,some<|.ref DU,some<|.ref L1,some<|.ref L2,u6,u7,some<|.str z,some .non,some .non] HC;refine eY<|kG<|yi<|kG<|qB<|cB F3<|ae 9<|oE ⟨rfl,_,rfl,?_⟩;rw [BW rfl];refine bI<|yj<|cB xG<|ae 10<|oE ⟨rfl,_,rfl,?_⟩;rw [BW rfl];refine bH<|yk<|kG<|qB<|cB xG<|ae 9<|oE ⟨rfl,_,rfl,?_⟩;rw [BW rfl];exact bH<|bH<|bg<|bg ⟨NU,_,_,_,rfl⟩
  ·rintro σ HA ⟨sm,u8,u9,mX,rfl⟩;exact bS<|qA<|q _
end
end H3
namespace H3
open PySem L2
theorem all_mk{l:PySem.W.OpenLaw}{w:World}{K:PySem.W.Frag}{h:Heap}{mg:Str->Option Value}{fa:Addr}(X:K.In h)(G:h.Ns mainGlobals mg)(yC:mg "law" = some (.ref fa))
  (h1:Df K "ends_round" vk) (h2:Df K "ends_in_order" vp) (h3:Df K "turned_left" yT) (h4:Df K "turned_right" yU) (h5:Df K "other_ends" yV) (h6:Df K "ties_by_end" vq) (h7:Df K "left_steps" vt) (h8:Df K "right_steps" vw) (h9:Df K "faces_of" yW) (ER:Df K "face_from" yX) (EV:Df K "ties_of" vx) (EW:Df K "need_tie" yY) (EX:Df K "walkers_of" mF) (EZ:Df K "walker_from" mG) (E1:Df K "passes_of" vy) (E2:Df K "other_net" mH) (E3:Df K "_law_cell_at" yZ) (E4:Df K "_law_big" mI) (E5:Df K "_law_names" y3) (E6:Df K "_law_seats" y4) (E7:Df K "_law_other" y7) (E8:Df K "_law_step" y8) (E9:Df K "_law_face" y9) (E':Df K "_law_put" mJ) (Fq:Df K "_law_net_by" mK) (Ft:Df K "_law_copy" vz) (Fu:Df K "_law_ties" mL) (Fv:Df K "_law_alike" vA) (Fw:Df K "_law_same_way" zb) (hl:Df K "law" gF)
  (qc:CI K=true)
  (z:∀ x∈(["isinstance","tuple","str","int","bool","list","dict","set","enumerate","zip","len","range","sorted","max","all","ValueError","reversed"]:List Str),PySem.W.nsIn K mainGlobals x=some none) :
  ∃ fd:FuncData,(∀(s:Shared) (v:Value),BindsTo s fd ⟨[v],[]⟩ [("_law_script",v)])/\∀ base:Heap,K.In base->base.Ns mainGlobals mg->aD l.prog w K mg base bD 7 fa fd ["_law_script"] (wY K):=by
 have T:Txt mg:=⟨BZ X G (z _<|by simp),BZ X G (z _<|by simp),BZ X G (z _<|by simp),BZ X G (z _<|by simp),BZ X G (z _<|by simp),BZ X G (z _<|by simp),BZ X G (z _<|by simp),BZ X G (z _<|by simp),BZ X G (z _<|by simp),BZ X G (z _<|by simp),BZ X G (z _<|by simp),BZ X G (z _<|by simp),BZ X G (z _<|by simp),BZ X G (z _<|by simp),BZ X G (z _<|by simp),BZ X G (z _<|by simp),BZ X G<|z _<|by simp⟩;have cl:=Ye X G qc;refine hl.law X G yC (λ_ _ _ _ _ _ s v=> .of_eq rfl) λbase f fd F=>?_;have G1:aP l.prog w K mg base 1 "ends_round" ["row"] rG:=h1.has X G (λ_ _ _ _ _ _=>g5 λ_=>rfl) λF=>Vs F T;have G2:aP l.prog w K mg base 2 "ends_in_order" ["rows"] vZ:=h2.has X G (λ_ _ _ _ _ _=>g5 λ_=>rfl) λF=>VE F T (G1.mono<|by decide);have G3:aP l.prog w K mg base 1 "turned_left" ["end","many"] (fv λj=>j+1):=h3.has X G (λ_ _ _ _ _ _=>iw λ_ _=>rfl) λF=>Vu F T;have G4:aP l.prog w K mg base 1 "turned_right" ["end","many"] (fv λj=>j - 1):=h4.has X G (λ_ _ _ _ _ _=>iw λ_ _=>rfl) λF=>Vv F T;have G5:aP l.prog w K mg base 2 "other_ends" ["rows"] iM:=h5.has X G (λ_ _ _ _ _ _=>g5 λ_=>rfl) λF=>VA F T (G1.mono<|by decide);have G6:aP l.prog w K mg base 2 "ties_by_end" ["rows"] iO:=h6.has X G (λ_ _ _ _ _ _=>g5 λ_=>rfl) λF=>VH F T (G1.mono<|by decide);have G7:aP l.prog w K mg base 3 "left_steps" ["rows"] (eQ 1):=h7.has X G (λ_ _ _ _ _ _=>g5 λ_=>rfl) λF=>V6 F T (G5.mono<|by decide) (G3.mono<|by decide);have G8:aP l.prog w K mg base 3 "right_steps" ["rows"] (eQ (-1)):=h8.has X G (λ_ _ _ _ _ _=>g5 λ_=>rfl) λF=>V7 F T (G5.mono<|by decide) (G4.mono<|by decide);have G14:aP l.prog w K mg base 1 "walker_from" ["lefts","rights","first"] nw:=EZ.has X G (λ_ _ _ _ _ _=>uR λ_ _ _=>rfl) λF=>V9 F T;have NV:aP l.prog w K mg base 4 "walkers_of" ["rows"] v8:=EX.has X G (λ_ _ _ _ _ _=>g5 λ_=>rfl) λF=>Wb F T (G7.mono<|by decide) (G8.mono<|by decide) (G6.mono<|by decide) (G2.mono<|by decide) (G14.mono<|by decide);have G10:aP l.prog w K mg base 1 "face_from" ["steps","first"] nO:=ER.has X G (λ_ _ _ _ _ _=>iw λ_ _=>rfl) λF=>Xl F T;have G9:aP l.prog w K mg base 4 "faces_of" ["rows"] B2:=h9.has X G (λ_ _ _ _ _ _=>g5 λ_=>rfl) λF=>Xp F T (G2.mono<|by decide) (G7.mono<|by decide) (G10.mono<|by decide);have G16:aP l.prog w K mg base 5 "other_net" ["rows"] B7:=E2.has X G (λ_ _ _ _ _ _=>g5 λ_=>rfl) λF=>XM F T (G6.mono<|by decide) (G9.mono<|by decide);have G11:aP l.prog w K mg base 1 "ties_of" ["rows"] nQ:=EV.has X G (λ_ _ _ _ _ _=>g5 λ_=>rfl) λF=>Yf F T;have G12:dP l.prog w K mg base 2 "need_tie" ["rows","tie"] (CL<|gO K):=EW.ti X G (λ_ _ _ _ _ _=>iw λ_ _=>rfl) λF=>Yj F T cl (G11.mono<|by decide);have G15:dP l.prog w K mg base 5 "passes_of" ["rows","tie"] (C7<|gO K):=E1.ti X G (λ_ _ _ _ _ _=>iw λ_ _=>rfl) λF=>YY F T cl (G12.mono<|by decide) (G6.mono<|by decide) (NV.mono<|by decide);have NX:aP l.prog w K mg base 1 "_law_cell_at" ["_law_script","_law_k"] (vB K):=E3.has X G (λ_ _ _ _ _ _=>iw λ_ _=>rfl) λF=>Tz F T;have G18:aP l.prog w K mg base 2 "_law_big" ["_law_script","_law_at"] (zf K):=E4.has X G (λ_ _ _ _ _ _=>iw λ_ _=>rfl) λF=>TD F T (NX.mono<|by decide);have G19:aP l.prog w K mg base 1 "_law_names" ["_law_stem","_law_many"] zg:=E5.has X G (λ_ _ _ _ _ _=>iw λ_ _=>rfl) λF=>TH F T;have NY:aP l.prog w K mg base 1 "_law_seats" ["_law_rows"] vC:=E6.has X G (λ_ _ _ _ _ _=>g5 λ_=>rfl) λF=>TK F T;have G21:aP l.prog w K mg base 1 "_law_other" ["_law_rows","_law_seats_here","_law_end"] zh:=E7.has X G (λ_ _ _ _ _ _=>uR λ_ _ _=>rfl) λF=>TL F T;have G22:aP l.prog w K mg base 2 "_law_step" ["_law_rows","_law_seats_here","_law_end","_law_turn"] zi:=E8.has X G (λ_ _ _ _ _ _=>Hq λ_ _ _ _=>rfl) λF=>TQ F T (G21.mono<|by decide);have G23:aP l.prog w K mg base 3 "_law_face" ["_law_rows","_law_seats_here","_law_end"] zj:=E9.has X G (λ_ _ _ _ _ _=>uR λ_ _ _=>rfl) λF=>TU F T (G22.mono<|by decide);have G24:aP l.prog w K mg base 4 "_law_put" ["_law_rows","_law_big_here","_law_tie","_law_point"] zx:=E'.has X G (λ_ _ _ _ _ _=>Hq λ_ _ _ _=>rfl) λF=>TY F T (NY.mono<|by decide) (G23.mono<|by decide);have G25:aP l.prog w K mg base 5 "_law_net_by" ["_law_big_here","_law_most","_law_stem"] zJ:=Fq.has X G (λ_ _ _ _ _ _=>uR λ_ _ _=>rfl) λF=>Uk F T (G19.mono<|by decide) (G24.mono<|by decide);have G26:aP l.prog w K mg base 1 "_law_copy" ["_law_rows"] zX:=Ft.has X G (λ_ _ _ _ _ _=>g5 λ_=>rfl) λF=>Vp F T;have G27:aP l.prog w K mg base 1 "_law_ties" ["_law_rows","_law_walker"] DJ:=Fu.has X G (λ_ _ _ _ _ _=>iw λ_ _=>rfl) λF=>Zh F T;have G28:aP l.prog w K mg base 1 "_law_alike" ["_law_one","_law_other_here"] EC:=Fv.has X G (λ_ _ _ _ _ _=>iw λ_ _=>rfl) λF=>ZM F T;have G29:aP l.prog w K mg base 6 "_law_same_way" ["_law_rows","_law_tie"] ED:=Fw.has X G (λ_ _ _ _ _ _=>iw λ_ _=>rfl) λF=>ZY F T cl (G15.mono<|by decide);exact Z6 F T (NX.mono<|by decide) (G18.mono<|by decide) (G25.mono<|by decide) (G26.mono<|by decide) (NY.mono<|by decide) (G16.mono<|by decide) (NV.mono<|by decide) (G27.mono<|by decide) (G28.mono<|by decide)<|G29.mono<|by decide
theorem walk{l:PySem.W.OpenLaw}{q:Program}{loose:List Str}{XP:(Str->Option Value)->Heap->Prop}{YP:World->Heap->Prop}{d:DefRec}{K:Params->PySem.W.Frag}(hn:l.most=some 63)(qp:d.params.defaults=[])
  (hY:∀(w:World) (h:Heap),YP w h->(K w.params).In h)
  (F : ∀ (w : World) (mg : Str → Option Value) (fa : Addr) (h : Heap), (K w.params).In h → h.Ns mainGlobals mg → mg d.name = some (.ref fa) →
   ∃ fd:FuncData,(∀(s:Shared) (u:Value),BindsTo s fd ⟨[u],[]⟩ [("_law_script",u)])/\∀ base:Heap,(K w.params).In base->base.Ns mainGlobals mg->aD l.prog w (K w.params) mg base bD 7 fa fd ["_law_script"] (wY<|K w.params)) :
  PySem.W.WalkO q loose XP YP l.row.toRowW d [] (λf vs=>PySem.call f vs):=
 L2.jB (n:=63) (k:=7) (x:= "_law_script") (CX:=λ_=>bD) (sp:=λw=>wY<|K w.params) hn (by decide) qp ⟨rfl,by decide,by decide⟩ hY F (λ_ _ a ns hl _ hS=>⟨a,ns,rfl,hS,hl,λ_=>rfl⟩) λ_ _ _ _ _ z=>z
end H3
-- see NOTE.md
namespace PySem.W.Fast
def tw14774077829704286452:=()
def tw14442819913142889346:=()
def tw10631581145493718694:=()
def tw2128740853640920069:=()
def tw13060978843630225615:=()
def tw11494180989207120214:=()
def tw16975441905466744552:=()
def tw17770255348816928407:=()
def tw17659029969495301917:=()
def tw17532188930781754269:=()
def tw4525656370623342699:=()
def tw15265345388612765300:=()
def tw4643709211002160742:=()
def tw5785213156301411494:=()
def tw607805850302393410:=()
def tw3691367506522538215:=()
end PySem.W.Fast
open PySem PySem.W PyProof.Rows
set_option maxRecDepth 100000 in
set_option maxHeartbeats 0 in
theorem PySem.Challenge.cw_threewebs_k33_whole_the_other_nets_walke_holds : PySem.Challenge.rw_threewebs_k33_whole_the_other_nets_walke.Holds := by
 w_on;o_law;k_head;(case hw=>w_witness2)
 k_fill
 refine H3.walk (l:=PySem.Challenge.rw_threewebs_k33_whole_the_other_nets_walke) rfl rfl (λw h Y=>PySem.W.kIn_of Y) ?F
 case F=>
  intro w mg fa h KX G qt;refine' H3.all_mk KX G qt ?h1 ?h2 ?h3 ?h4 ?h5 ?h6 ?h7 ?h8 ?h9 ?ER ?EV ?EW ?EX ?EZ ?E1 ?E2 ?E3 ?E4 ?E5 ?E6 ?E7 ?E8 ?E9 ?E' ?Fq ?Ft ?Fu ?Fv ?Fw ?h0 ?qc ?zz
  case h1 | h2 | h3 | h4 | h5 | h6 | h7 | h8 | h9 | ER | EV | EW | EX | EZ | E1 | E2 | E3 | E4 | E5 | E6 | E7 | E8 | E9 | E' | Fq | Ft | Fu | Fv | Fw | h0=>refine' L2.qM ?a ?l ?c ?k;(case a=>k_is);(case l=>k_is);(case c=>k_is);(case k=>k_is)
  case qc=>kernel_rfl
  case zz=>
   refine' List.forall_mem_cons.mpr ⟨?_,?_⟩;k_is
   iterate 16 (refine' List.forall_mem_cons.mpr ⟨?_,?_⟩;k_is)
   exact λx hx=>nomatch hx

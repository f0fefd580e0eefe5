import PyProof.Rows.All
import Wide.All
import OpenK.AllK
import Wide.FinOn
import Lean
import PyProof.EqAt
import PyProof.EqKinds
import PyProof.TupleCall
import KE.KDictLaws
import KE.KDictList
import KE.KDictSum
import KE.KIntText
import KE.KIsAll
import KE.KSortTup
import KE.KUnpack
import KE.KUnpackStar
import PyProof.AttrMissSeq
import PyProof.CallStr
import PyProof.Conv_int_bool
import PyProof.DictItems
import PyProof.DictIter
import PyProof.DictList
import PyProof.EnumFor
import PyProof.EnumMake
import PyProof.EnumStmt
import PyProof.ExcArgsOwn
import PyProof.ExcAttrAll.ValueError
import PyProof.ExcBaseAll.ValueError
import PyProof.FitsInt
import PyProof.NeKinds
import PyProof.NsDelKeeps
import PyProof.Rows.CatchOwn
import PyProof.Rows.CountFlat
import PyProof.Rows.EnumRows
import PyProof.Rows.FStr
import PyProof.Rows.SortRev
import PyProof.Rows.StrSplitJoin
import PyProof.Rows.StrWeight2
import PyProof.Rows.TupDisplay
import PyProof.RulesTry
import PyProof.SetNew
import PyProof.SetRoads
import PyProof.StationsW
import PyProof.TupleKey
import PyProof.WalkInts
import PyProof.ZipIter
import PySem.Challenge.RW_threewebs_k13_whole_the_other_nets_other
abbrev BJ:=@PySem.wpAny_bind
abbrev BK:=@PySem.wpAny_pure
abbrev BL:=@if_neg
abbrev BP:=@if_pos
abbrev BR:=@decide_eq_false
abbrev BW:=@decide_eq_true
abbrev BX:=@congrArg
abbrev BZ:=@of_decide_eq_true
abbrev CG:=@Ne.symm
abbrev CJ:=@PySem.wpAny_holding
abbrev CK:=@Classical.byContradiction
abbrev CN:=@if_false
abbrev CP:=@PySem.boot_len
abbrev CQ:=@PySem.W.mg_none_of
abbrev CT:=@PySem.wpAny_mono
abbrev CV:=@PySem.wpAny_setState_of
abbrev CW:=@PySem.mem_of_lookup
abbrev CZ:=@PySem.Heap.SameBut.update
abbrev DG:=@PySem.wpAny_newObj_type
abbrev DK:=@if_true
abbrev DN:=@PySem.wpAny_call_entry
abbrev DQ:=@PySem.sizeLine_eq
abbrev DR:=@PySem.wpAny_setField
abbrev DW:=@PySem.W.kia_one
abbrev DX:=@PySem.Around.under_plainId
abbrev DY:=@PySem.wpAny_truthy_bool
abbrev EY:=@decide_eq_true_eq
abbrev FJ:=@PySem.codeAny_builtin
abbrev FN:=@PySem.tupleKind_room_in1
abbrev FP:=@PyProof.Rows.wpS_bind
abbrev FQ:=@or_false
abbrev FT:=@decide_eq_true_iff
abbrev FW:=@PySem.wpAny_standAt
abbrev FZ:=@PySem.F.plainAttrs_list
abbrev GD:=@Prod.ext
abbrev GJ:=@PySem.wpAny_typeNameOfWhole_itemiter
abbrev GK:=@PySem.F.slot_dict_itemiterator_next
abbrev GQ:=@PyProof.Rows.callWith_type1
abbrev GR:=@PyProof.Rows.F.plain_set_update_loop
abbrev GX:=@PySem.wpAny_passesOwn
abbrev GZ:=@PySem.wpAny_typeNameOf_itemiter
abbrev HJ:=@PySem.wpAny_of_eq
abbrev HN:=@beq_self_eq_true
abbrev HS:=@PySem.wpAny_getItem_str_slice
abbrev HW:=@decide_eq_false_iff_not
abbrev HX:=@PySem.wpAny_callSpecial?_slot
abbrev HY:=@PySem.W.mg_of
abbrev IK:=@PySem.plainId_quiet
abbrev IV:=@PySem.wpAny_rule
abbrev IW:=@PySem.wpAny_setField_rec
abbrev JB:=@PySem.W.cellsFrom_some
abbrev JC:=@PySem.Calls.callWith_builtin
abbrev JD:=@PyProof.Rows.wpS_pure
abbrev JF:=@PySem.codeAny_mono
abbrev JG:=@PyProof.Rows.boot_int
abbrev JH:=@PySem.wpAny_newList
abbrev JK:=@PySem.PassesOwn.never
abbrev JL:=@PySem.codeAny_of_tree
abbrev JM:=@PySem.W.KasT.kasWp_bind
abbrev JN:=@PySem.wpAny_Call_Name_kw
abbrev JQ:=@PySem.wpAny_comprehension_free
abbrev JR:=@PyProof.Rows.F.entry_set_update_loop
abbrev JT:=@PySem.wpAny_typeOf
abbrev JV:=@PyProof.Rows.boot_sorted
abbrev JW:=@PySem.wpAny_seqItems
abbrev JX:=@PySem.wpAny_pyIter_list
abbrev JZ:=@PySem.wpAny_storeSet_of
abbrev KC:=@PySem.wpAny_pyIter_slot
abbrev KD:=@bne_self_eq_false
abbrev KH:=@List.Pairwise.map
abbrev KJ:=@PySem.wpAny_field
abbrev KN:=@PySem.wpAny_isOneOf_itemiter
abbrev KQ:=@List.eraseIdx_append_of_lt_length
abbrev KR:=@PySem.wpAny_attempt
abbrev KY:=@PyProof.Rows.listUpdate_at
abbrev KZ:=@PySem.wpAny_askSetting
abbrev LC:=@PySem.builtinLookup_eq_fast
abbrev LK:=@PyProof.Rows.boot_all
abbrev LQ:=@List.eraseIdxIfInBounds_toArray
abbrev LR:=@PySem.F.args_dict_itemiterator_next_1
abbrev MF:=@PySem.Calls.evalArgs_plain
abbrev MJ:=@PySem.call_meets
abbrev MK:=@PySem.wpAny_specialOf
abbrev MN:=@PySem.post_val_or_str
abbrev MP:=@PyProof.Rows.listItems_at
abbrev NK:=@PyProof.Rows.wpS_forRange
abbrev NQ:=@PySem.F.entry_dict_itemiterator_next
abbrev NZ:=@List.replicate_succ'
abbrev OD:=@PySem.F.slot_dict_itemiterator_iter
abbrev OJ:=@PySem.wpAny_setEntries_of
abbrev PB:=@PySem.wpAny_fieldsOf
abbrev PJ:=@PySem.wpAny_newTuple
abbrev PK:=@PyProof.Rows.seqEpoch_at
abbrev PL:=@List.lookup_append
abbrev PN:=@List.getElem_range
abbrev PX:=@List.filter_append
abbrev QB:=@List.zipIdx_append
abbrev QC:=@List.count_pos_iff
abbrev QD:=@List.getElem?_drop
abbrev QF:=@PyProof.Rows.joinParts_cons
abbrev QG:=@List.perm_ext_iff_of_nodup
abbrev QJ:=@Option.isSome_map
abbrev QK:=@PySem.wpAny_dictEntries
abbrev QL:=@beq_iff_eq
abbrev QM:=@List.drop_eq_getElem_cons
abbrev QS:=@PySem.F.slot_set_contains
abbrev QT:=@Eq.symm
abbrev QV:=@PySem.wpAny_isInstance
abbrev QW:=@List.ext_getElem
abbrev QX:=@List.filter_cons
abbrev QZ:=@PySem.F.slot_list_insert
abbrev RB:=@PySem.F.type_list_insert
abbrev RD:=@PySem.wpAny_forIn_list
abbrev RG:=@List.eraseIdx_cons_succ
abbrev RJ:=@List.pairwise_singleton
abbrev RK:=@PySem.wpAny_execs_nil
abbrev RL:=@List.of_mem_zip
abbrev RM:=@PySem.typeLookup_type
abbrev RN:=@PySem.wpAny_dictEpoch
abbrev RP:=@List.nil_append
abbrev RQ:=@List.getElem?_set_self
abbrev RT:=@PySem.wpAny_alloc
abbrev RV:=@List.drop_of_length_le
abbrev RW:=@Bool.false_and
abbrev RX:=@List.getElem?_toArray
abbrev RZ:=@List.length_filter_le
abbrev SJ:=@PySem.F.plain_set_new
abbrev SM:=@Bool.false_xor
abbrev SQ:=@PyProof.Rows.boot_max
abbrev SX:=@PySem.F.slot_list_pop
abbrev TF:=@PySem.F.type_list_pop
abbrev TJ:=@PyProof.Rows.boot_set
abbrev TQ:=@PySem.ofString_length
abbrev TV:=@PyProof.Rows.boot_str
abbrev TX:=@Nat.lt_trans
abbrev TY:=@Iff.rfl
theorem Z0:0<=PySem.sizeLine:=by decide
theorem Z2:2<=PySem.sizeLine:=by decide
theorem Z1:1<=PySem.sizeLine:=by decide
set_option Elab.async false
set_option linter.all false
set_option maxRecDepth 100000
set_option maxHeartbeats 4000000
abbrev Aa:=@List.length_map
abbrev Ab:=@List.getElem?_eq_getElem
abbrev Ac:=@List.getElem?_eq_some_iff
abbrev Ad:=@List.getElem?_map
abbrev Ae:=@List.mem_cons_self
abbrev Af:=@PySem.Heap.get?_push_of_some
abbrev Ag:=@List.length_append
abbrev Ah:=@List.mem_cons_of_mem
abbrev Ai:=@List.mem_singleton
abbrev Aj:=@List.mem_cons
abbrev Ak:=@List.map_append
abbrev Al:=@Nat.le_refl
abbrev Am:=@List.mem_map
abbrev An:=@List.mem_of_getElem?
abbrev Ao:=@Option.map_eq_some_iff
abbrev Ap:=@PySem.Heap.get?_push_size
abbrev Aq:=@List.mem_append
abbrev Ar:=@Bool.false_ne_true
abbrev As:=@PySem.Heap.lt_size
abbrev At:=@List.length_cons
abbrev Au:=@List.mem_append_right
abbrev Av:=@List.size_toArray
abbrev Aw:=@List.getElem?_append_left
abbrev Ax:=@Bool.false_eq_true
abbrev Ay:=@List.append_assoc
abbrev Az:=@List.pairwise_iff_getElem
abbrev Ba:=@List.getElem?_append_right
abbrev Bb:=@List.getElem?_of_mem
abbrev Bc:=@List.mem_append_left
abbrev Bd:=@List.map_cons
abbrev Be:=@List.length_eq_zero_iff
abbrev Bf:=@Nat.lt_of_lt_of_le
abbrev Bg:=@List.mem_range
abbrev Bh:=@Array.getElem?_toList
abbrev Bj:=@Nat.mod_eq_of_lt
abbrev Bm:=@Int.toNat_natCast
abbrev Bo:=@List.length_take
abbrev Bp:=@List.map_congr_left
abbrev Bq:=@List.nodup_cons
abbrev Br:=@List.append_nil
abbrev Bs:=@Int.emod_nonneg
abbrev Bt:=@Nat.ne_of_lt
abbrev Bu:=@Nat.zero_le
abbrev Bv:=@List.getElem?_eq_none
abbrev Bw:=@List.getElem_mem
abbrev Bx:=@Int.emod_lt_of_pos
abbrev By:=@List.length_pos_iff
abbrev Bz:=@List.mem_iff_getElem
abbrev Ca:=@List.take_length
abbrev Cb:=@List.not_mem_nil
abbrev Cc:=@List.nodup_iff_pairwise_ne
abbrev Cd:=@Array.length_toList
abbrev Ce:=@Array.getElem?_eq_getElem
abbrev Cf:=@Bool.and_eq_true
abbrev Cg:=@Nat.le_trans
abbrev Ch:=@List.map_map
abbrev Ci:=@List.length_replicate
abbrev Cj:=@List.take_add_one
abbrev Ck:=@List.flatten_cons
abbrev Cm:=@PySem.Heap.get?_update_other
abbrev Cn:=@Nat.lt_succ_of_lt
abbrev Co:=@List.nodup_append
abbrev Cp:=@List.nodup_nil
abbrev Cq:=@List.take_append_drop
abbrev Cr:=@List.perm_append_comm
abbrev Cs:=@Nat.lt_irrefl
abbrev Ct:=@Nat.le_of_lt
abbrev Cu:=@List.pairwise_cons
abbrev Cv:=@Array.getD_eq_getD_getElem?
abbrev Cw:=@List.length_singleton
abbrev Cy:=@Nat.ne_of_gt
abbrev Cz:=@Nat.lt_or_ge
abbrev Da:=@List.mem_filter
abbrev Db:=@List.length_range
abbrev Dc:=@List.take_of_length_le
abbrev Dd:=@PySem.Heap.size_push
abbrev De:=@List.all_eq_true
abbrev Dg:=@List.flatMap_append
abbrev Dh:=@PySem.Heap.get?_update_self
abbrev Di:=@Bool.eq_iff_iff
abbrev Dj:=@List.length_drop
abbrev Dk:=@Array.getElem?_eq_none
abbrev Dl:=@List.mem_flatten
abbrev Dm:=@List.getElem?_range
abbrev Do:=@List.contains_iff_mem
abbrev Dp:=@List.foldl_cons
abbrev Dq:=@List.count_cons
abbrev Dr:=@List.lookup_cons
abbrev Ds:=@List.length_eraseIdx
abbrev Du:=@List.getElem_map
abbrev Dv:=@List.getElem?_cons_succ
abbrev Dw:=@Int.zero_add
abbrev Dx:=@List.range_succ
abbrev Dy:=@List.getElem?_take_of_lt
abbrev Dz:=@Bool.not_true
abbrev Eb:=@Nat.mod_self
abbrev Ec:=@List.getElem?_replicate
abbrev Ed:=@List.ext_getElem?
abbrev Ee:=@Nat.lt_trichotomy
abbrev Ef:=@List.pairwise_map
abbrev Eh:=@Nat.not_lt_zero
abbrev Ej:=@List.filterMap_cons
abbrev Ek:=@Nat.le_of_succ_le
abbrev El:=@List.flatMap_cons
abbrev Em:=@List.mem_erase_of_ne
abbrev Ep:=@Option.isSome_iff_exists
abbrev Er:=@List.length_erase_of_mem
abbrev Es:=@Bool.and_false
abbrev Eu:=@Nat.succ_pos
abbrev Ex:=@List.find?_eq_none
abbrev Ey:=@List.append_of_mem
abbrev Ez:=@List.append_eq_nil_iff
abbrev Fa:=@List.find?_cons
abbrev Fb:=@List.length_nil
abbrev Fc:=@Array.getElem?_setIfInBounds
abbrev Fd:=@Bool.eq_false_iff
abbrev Fe:=@List.mem_zipIdx_iff_le_and_getElem?_sub
abbrev Ff:=@Nat.le_succ
abbrev Fg:=@List.getD_eq_getElem?_getD
abbrev Fh:=@List.getElem?_modify
abbrev Fi:=@List.cons_append
abbrev Fj:=@Nat.lt_succ_self
abbrev Fk:=@List.nodup_range
abbrev Fm:=@Option.getD_some
abbrev Fn:=@List.exists_mem_of_ne_nil
abbrev Fo:=@List.flatten_append
abbrev Fp:=@List.any_cons
abbrev Fq:=@Array.getElem?_replicate
abbrev Fr:=@List.mem_of_mem_eraseIdx
abbrev Ft:=@List.eq_of_mem_replicate
abbrev Fu:=@List.mem_filterMap
abbrev Fv:=@Nat.lt_of_le_of_ne
abbrev Fw:=@Nat.zero_add
abbrev Fx:=@List.length_pos_of_mem
abbrev Fy:=@List.getElem?_eraseIdx
abbrev Fz:=@List.lt_irrefl
abbrev Ga:=@Nat.zero_lt_of_lt
abbrev Gb:=@List.getElem_inj
abbrev Gc:=@Nat.mod_lt
abbrev Gd:=@List.isEmpty_nil
abbrev Ge:=@List.lt_trans
abbrev Gf:=@PySem.Heap.get?_push_cases
abbrev Gg:=@List.pairwise_append
abbrev Gh:=@List.le_iff_lt_or_eq
abbrev Gi:=@Option.map_some
abbrev Gj:=@List.forIn_cons
abbrev Gk:=@List.find?_some
abbrev Gm:=@Nat.add_zero
abbrev Gn:=@Bool.not_false
abbrev Go:=@Bool.xor_false
abbrev Gp:=@Nat.one_pos
abbrev Gq:=@List.all_cons
abbrev Gr:=@List.map_take
abbrev Gs:=@List.map_drop
abbrev Gu:=@List.sum_cons
abbrev Gv:=@Bool.true_and
namespace L2
open PySem PySem.Spec PyProof.Rows
abbrev Key:=Sum Int Str
def pK:Key->Value->Bool
 | .inl k,v=>Value.isInt k v
 | .inr x,v=>Value.isStrOf x v
def yl(w:World):Key->Int
 | .inl k=>hashInt k
 | .inr x=>hashStr w x
theorem j3:∀{k:Key} {v:Value},pK k v=true->(∃ i t,k=Sum.inl i/\v=Value.int i t)\/(∃ x t,k=Sum.inr x/\v=Value.str x t)
 | .inl i,v,h=>by
  obtain⟨t,e⟩:=Value.isInt_shape (k:=i) (v:=v) h;exact .inl ⟨i,t,rfl,e⟩
 | .inr x,v,h=>by
  obtain⟨t,e⟩:=Value.isStrOf_shape (x:=x) (v:=v) h;exact .inr ⟨x,t,rfl,e⟩
theorem Rr(i:Int)(t:Tok):pK (.inl i) (.int i t)=true:=by simp [pK,Value.isInt]
theorem Ru(x:Str)(t:Tok):pK (.inr x) (.str x t)=true:=by simp [pK,Value.isStrOf]
theorem Rv(a b:Int):decide ((Sum.inl a:Key)=Sum.inl b)=(a == b):=by
 by_cases e:a=b
 ·subst e;simp
 ·have h:¬(Sum.inl a:Key)=Sum.inl b:=λq=>e<|Sum.inl.inj q;rw [BR h];exact(beq_eq_false_iff_ne.mpr e).symm
theorem Rw(a b:Str):decide ((Sum.inr a:Key)=Sum.inr b)=decide (a=b):=by
 by_cases e:a=b
 ·subst e;simp
 ·have h:¬(Sum.inr a:Key)=Sum.inr b:=λq=>e<|Sum.inr.inj q;rw [BR h,BR e]
theorem Rx(a:Int)(b:Str):decide ((Sum.inl a:Key)=Sum.inr b)=false:=BR λq=>nomatch q
theorem Ry(a:Str)(b:Int):decide ((Sum.inr a:Key)=Sum.inl b)=false:=BR λq=>nomatch q
def bO(prog:Program)(w:World):PySem.KeyKind prog w Key where
 is:=pK
 hash:=yl w
 inj:=λv a b ha hb=>by
  rcases j3 ha with ⟨i,t,rfl,rfl⟩ | ⟨x,t,rfl,rfl⟩
  ·rcases j3 hb with ⟨j,u,rfl,e⟩ | ⟨y,u,rfl,e⟩
   ·injection e with e1 _;rw [e1]
   ·exact nomatch e
  ·rcases j3 hb with ⟨j,u,rfl,e⟩ | ⟨y,u,rfl,e⟩
   ·exact nomatch e
   ·injection e with e1 _;rw [e1]
 byValue:=λk v h=>by
  rcases j3 h with ⟨i,t,rfl,rfl⟩ | ⟨x,t,rfl,rfl⟩ <;> rfl
 pyHash:=λhv h=>by
  rcases j3 hv with ⟨i,t,rfl,rfl⟩ | ⟨x,t,rfl,rfl⟩
  ·exact wpAny_pyHash_int h
  ·exact wpAny_pyHash_str h
 eqBool:=λhu hv h=>by
  rcases j3 hu with ⟨i,t,rfl,rfl⟩ | ⟨x,t,rfl,rfl⟩
  ·rcases j3 hv with ⟨j,u,rfl,rfl⟩ | ⟨y,u,rfl,rfl⟩
   ·rw [Rv] at h;exact wpAny_eqBool_int h
   ·rw [Rx] at h;exact SeqAt.EqAt.int_str i t y u _ _ _ _ h
  ·rcases j3 hv with ⟨j,u,rfl,rfl⟩ | ⟨y,u,rfl,rfl⟩
   ·rw [Ry] at h;exact SeqAt.EqAt.str_int x t j u _ _ _ _ h
   ·rw [Rw] at h;exact wpAny_eqBool_str h
 «strs»:=λk x t v h=>by
  rcases j3 h with ⟨i,u,rfl,e⟩ | ⟨y,u,rfl,e⟩
  ·exact nomatch e
  ·injection e with e1 _
   subst e1;cases v <;> rfl
theorem RA(prog:Program)(w:World)(i:Int)(t:Tok):(bO prog w).is (.inl i) (.int i t)=true:=Rr i t
theorem RC(prog:Program)(w:World)(x:Str)(t:Tok):(bO prog w).is (.inr x) (.str x t)=true:=Ru x t
inductive V where
 | non | bl (b:Bool) | int (i:Int) | str (x:Str) | hV (b:Array UInt8) | pL (b:UInt64) | ref (a:Addr) | ty (n:String)
 deriving DecidableEq
def RelV:V->Value->Prop
 | .non,u=>u=Value.none
 | .bl b,u=>u=Value.bool b
 | .int i,u=>∃ t,u=Value.int i t
 | .str x,u=>∃ t,u=Value.str x t
 | .hV b,u=>∃ t,u=Value.bytes b t
 | .pL b,u=>∃ t,u=Value.float b t
 | .ref a,u=>u=Value.ref a
 | .ty n,u=>u=Value.type n
abbrev au:List V->List Value->Prop:=Paired RelV
theorem au.length{xs:List V}{us:List Value}(r:au xs us):xs.length=us.length:=Paired.length r
theorem au.get:∀{xs:List V} {us:List Value} {i:Nat} {x:V},au xs us->xs[i]?=some x->∃ u,us[i]?=some u/\RelV x u
 | _,_,_,_,.nil,e=>by simp at e
 | _,_,0,_,.cons r _,e=>by simp at e;subst e;exact⟨_,rfl,r⟩
 | _,_,i+1,x,.cons _ t,e=>by
  obtain⟨u,h1,h2⟩:=au.get (i:=i) (x:=x) t (by simpa using e);exact⟨u,by simpa using h1,h2⟩
theorem au.set{x:V}{u:Value}(r:RelV x u):∀{xs:List V} {us:List Value} (i:Nat),au xs us->au (xs.set i x) (us.set i u)
 | _,_,_,.nil=> .nil
 | _,_,0,.cons _ t=> .cons r t
 | _,_,i+1,.cons q t=> .cons q<|au.set r i t
theorem au.append:∀{xs ys:List V} {us ws:List Value},au xs us->au ys ws->au (xs++ys) (us++ws)
 | _,_,_,_,.nil,s=>s
 | _,_,_,_,.cons r t,s=> .cons r<|au.append t s
theorem au.take:∀{xs:List V} {us:List Value} (n:Nat),au xs us->au (xs.take n) (us.take n)
 | _,_,0,_=> .nil
 | _,_,_+1,.nil=> .nil
 | _,_,n+1,.cons r t=> .cons r<|au.take n t
theorem au.drop:∀{xs:List V} {us:List Value} (n:Nat),au xs us->au (xs.drop n) (us.drop n)
 | _,_,0,r=>r
 | _,_,_+1,.nil=> .nil
 | _,_,n+1,.cons _ t=>au.drop n t
def da:Option V->Option Value->Prop
 | some v,some u=>RelV v u
 | none,none=>True
 | _,_=>False
def KV{κ:Type}:List (κ×V)->List (κ×Value)->Prop:=Paired λ(p:κ×V) (q:κ×Value)=>p.1=q.1/\RelV p.2 q.2
def kV:Key->V
 | .inl i=> .int i
 | .inr x=> .str x
inductive HO where
 | lst (xs:List V)
 | tup (xs:List V)
 | dK (kvs:List<|Key×V) | dT (kvs:List<|List Key×V)
 | set (S:Int->Bool) (n:Nat)
 | ins (C dx:Addr) (fs:List<|Str×V)
 | own (x:Addr)
 | xd (fs:List<|Str×V)
 | met (f x:Addr)
 | vy (lo hi:Int)
 | cq (o:Obj) (u:HO)
 | lG (ps:Array Value)
 | ext (φ:Heap->Prop)
abbrev Hp:=Addr->Option HO
def upd(H:Hp)(a:Addr)(o:HO):Hp:=λb=>if b=a then some o else H b
theorem aw{H:Hp}{a:Addr}{o:HO}:upd H a o a=some o:=by unfold upd;rw [BP rfl]
theorem av{H:Hp}{a b:Addr}{o:HO}(h:b≠a):upd H a o b=H b:=by unfold upd;rw [BL h]
theorem vz{H:Hp}{a:Addr}{o u:HO}:upd (upd H a o) a u=upd H a u:=by
 funext b;unfold upd;split <;> rfl
theorem b7{H:Hp}{a b:Addr}{o u:HO}(h:H a=some o)(h':H b=some u)(d:o≠u):a≠b:=by
 intro e;subst e;rw [h] at h';exact d<|Option.some.inj h'
theorem bF{H:Hp}{a b:Addr}{o:HO}(h:H a=some o)(h':H b=none):a≠b:=by
 intro e;subst e;rw [h] at h';cases h'
section
variable(P:Program)(w:World)
def ax(H:Hp)(h:Heap)(a:Addr):HO->Prop
 | .lst xs=>xs.length<=sizeLine/\∃(its:List Value) (n:Nat),au xs its/\h.get? a=some {cls:= .type "list",data:= .seq its.toArray n}
 | .tup xs=>xs.length<=sizeLine/\∃ its:List Value,au xs its/\IsTup h a its.toArray
 | .dK kvs=>kvs.length<=sizeLine/\(a == sysModules)=false/\∃ vs,KV kvs vs/\h.DictOf (bO P w) a vs
 | .dT kvs=>kvs.length<=sizeLine/\(a == sysModules)=false/\∃ xs:List<|List Key×Addr×Value,
   Paired (λ(p:List Key×V) (q:List Key×Addr×Value)=>p.1=q.1/\H q.2.1=some (.tup<|p.1.map kV)/\RelV p.2 q.2.2) kvs xs /\
   ∃ o es ep,h.get? a=some o/\o.ExactDict/\o.data = .dict es ep/\es.toList=xs.map (entryOfKey<|tupleKind<|bO P w)/\(xs.map (·.1)).Nodup
 | .set S n=>h.SetOf (intKind P w) a S n
 | .ins C dx fs=>H dx=some (.own a)/\fs.length<=1000/\dx≠a/\h.get? a=some (PySem.W.instObj C dx) /\
   ∃ mA,h.Ns1 dx mA/\(∀ f,da (fs.lookup f)<|mA f)/\PySem.Within mA (fs.map (·.1))
 | .own _=>∃ o,h.get? a=some o
 | .xd fs=>∃ mA,h.Ns1 a mA/\∀ f,da (fs.lookup f)<|mA f
 | .vy lo hi=>∃ t u v,h.get? a=some {cls:= .type "range",data:= .fields #[.int lo t,.int hi u,.int 1 v]}
 | .cq o u=>h.get? a=some o/\ax H h a u
 | .lG ps=>h.get? a=some {cls:= .none,data:= .fields ps}
 | .met f x=>h.get? a=some (PySem.W.methodObj (.ref f)<|.ref x)
 | .ext φ=>φ h/\(∃ o,h.get? a=some o)/\∀ h1 h2:Heap,φ h1->(∀ o,h1.get? a=some o->h2.get? a=some o)->φ h2
def b5(H:Hp)(h:Heap):Prop:=∀ a o,H a=some o->ax P w H h a o
end
section
variable{P:Program}{w:World}{H H':Hp}{h h':Heap}{a:Addr}{o:HO}
theorem ax.lt(x:ax P w H h a o):a < h.objs.size:=by
 cases o with
 | lst xs=>obtain⟨_,_,_,_,e⟩:=x;exact As e
 | tup xs=>obtain⟨_,_,_,p⟩:=x;exact p.lt
 | dK kvs=>obtain⟨_,_,_,_,o,_,_,e,_⟩:=x;exact As e
 | dT kvs=>obtain⟨_,_,_,_,o,_,_,e,_⟩:=x;exact As e
 | set S n=>obtain⟨o,_,_,_,e,_⟩:=x;exact As e
 | ins C dx fs=>obtain⟨_,_,_,e,_⟩:=x;exact As e
 | own y=>obtain⟨_,e⟩:=x;exact As e
 | xd fs=>obtain⟨_,⟨_,_,_,e,_⟩,_⟩:=x;exact As e
 | vy lo hi=>obtain⟨_,_,_,e⟩:=x;exact As e
 | cq ob u=>obtain⟨e,_⟩:=x;exact As e
 | lG ps=>exact As (show h.get? a=some _ from x)
 | met f y=>exact As (show h.get? a=some _ from x)
 | ext φ=>obtain⟨_,⟨_,e⟩,_⟩:=x;exact As e
theorem Paired.mX{α β:Type}{F G:α->β->Prop}:∀{l₁:List α} {l₂:List β},Paired F l₁ l₂->(∀ a b,F a b->G a b)->Paired G l₁ l₂
 | _,_,.nil,_=> .nil
 | _,_,.cons r t,f=> .cons (f _ _ r)<|Paired.mX t f
theorem ax.f7(x:ax P w H h a o)(k:∀ b u,(b=a\/H b=some (.own a))->h.get? b=some u->h'.get? b=some u)
  (ho:∀ b,H b=some (.own a)->H' b=some (.own a)) (ht:∀ b xs,H b=some (.tup xs)->H' b=some (.tup xs)):ax P w H' h' a o:=by
 induction o with
 | lst xs=>obtain⟨z,its,n,r,e⟩:=x;exact⟨z,its,n,r,k _ _ (.inl rfl) e⟩
 | tup xs=>obtain⟨z,its,r,ob,e,c⟩:=x;exact⟨z,its,r,ob,k _ _ (.inl rfl) e,c⟩
 | dK kvs=>obtain⟨z,y,vs,r,ob,es,ep,e,c⟩:=x;exact⟨z,y,vs,r,ob,es,ep,k _ _ (.inl rfl) e,c⟩
 | dT kvs=>
  obtain⟨z,y,xs,r,ob,es,ep,e,c⟩:=x;exact⟨z,y,xs,Paired.mX r λp q z=>⟨z.1,ht _ _ z.2.1,z.2.2⟩,ob,es,ep,k _ _ (.inl rfl) e,c⟩
 | set S n=>obtain⟨ob,es,ep,t,e,c⟩:=x;exact⟨ob,es,ep,t,k _ _ (.inl rfl) e,c⟩
 | ins C dx fs=>
  obtain⟨d,z,ne,e,mA,⟨od,es,ep,e2,c⟩,r⟩:=x;exact⟨ho _ d,z,ne,k _ _ (.inl rfl) e,mA,⟨od,es,ep,k _ _ (.inr d) e2,c⟩,r⟩
 | own y=>obtain⟨ob,e⟩:=x;exact⟨ob,k _ _ (.inl rfl) e⟩
 | xd fs=>obtain⟨mA,⟨od,es,ep,e,c⟩,r⟩:=x;exact⟨mA,⟨od,es,ep,k _ _ (.inl rfl) e,c⟩,r⟩
 | vy lo hi=>obtain⟨t,u,v,e⟩:=x;exact⟨t,u,v,k _ _ (.inl rfl) e⟩
 | cq ob u ih=>obtain⟨e,q⟩:=x;exact⟨k _ _ (.inl rfl) e,ih q⟩
 | lG ps=>
  have e:h.get? a=some {cls:= .none,data:= .fields ps}:=x;show h'.get? a=some {cls:= .none,data:= .fields ps};exact k a _ (.inl rfl) e
 | met f y=>
  have e:h.get? a=some (PySem.W.methodObj (.ref f)<|.ref y):=x;show h'.get? a=some (PySem.W.methodObj (.ref f)<|.ref y);exact k a _ (.inl rfl) e
 | ext φ=>obtain⟨p,⟨o,e⟩,st⟩:=x;exact⟨st _ _ p λo q=>k _ _ (.inl rfl) q,⟨o,k _ _ (.inl rfl) e⟩,st⟩
theorem b5.lt(x:b5 P w H h)(e:H a=some o):a < h.objs.size:=(x a o e).lt
theorem b5.fresh(x:b5 P w H h)(e:h.objs.size<=a):H a=none:=by
 cases q:H a with
 | none=>rfl
 | some u=>exact absurd (Bf (x.lt q) e)<|Cs _
theorem b5.kept(x:b5 P w H h)(k:∀ b u,h.get? b=some u->h'.get? b=some u):b5 P w H h':=λa o e=>
 (x a o e).f7 (λb u _ q=>k b u q) (λ_ q=>q) λ_ _ q=>q
theorem b5.laid(x:b5 P w H h)(k:∀ b u,h.get? b=some u->h'.get? b=some u)(hp:h.objs.size<=a)(new:ax P w (upd H a o) h' a o):b5 P w (upd H a o) h':=λb u e=>by
 have hn:=x.fresh hp
 by_cases hb:b=a
 ·subst hb;rw [aw] at e;cases e;exact new
 ·rw [av hb] at e;exact(x b u e).f7 (λc v _ q=>k c v q) (λc q=>by rw [av<|bF q hn];exact q) λc xs q=>by rw [av<|bF q hn];exact q
end
def Rd(H:Hp)(a:Addr)(u:HO):Prop:=H a=some u\/∃ o,H a=some (.cq o u)
theorem Rd.ok{P:Program}{w:World}{H:Hp}{h:Heap}{a:Addr}{u:HO}(r:Rd H a u)(x:b5 P w H h):ax P w H h a u:=by
 rcases r with r | ⟨o,r⟩
 ·exact x a u r
 ·obtain⟨_,q⟩:=x a _ r;exact q
def qZ:Option HO->Prop
 | some (.lst _)=>True
 | some (.dK _)=>True
 | some (.dT _)=>True
 | some (.set _ _)=>True
 | some (.ins _ _ _)=>True
 | some (.ext _)=>True
 | _=>False
section
variable{P:Program}{w:World}{H:Hp}{h h':Heap}{x e:Addr}{o':HO}
theorem b5.write(ok:b5 P w H h)(mu:qZ<|H x)(he:e=x\/H e=some (.own x))(k:∀ b u,b≠e->h.get? b=some u->h'.get? b=some u)(pM:∃ u,h'.get? e=some u)
  (new:ax P w (upd H x o') h' x o'):b5 P w (upd H x o') h':=λb u q=>by
 have ra:∀ c y,H c=some (.own y)->c≠x:=λc y r z=>by subst z;rw [r] at mu;exact mu
 have ym:∀ c xs,H c=some (.tup xs)->c≠x:=λc xs r z=>by subst z;rw [r] at mu;exact mu
 by_cases hb:b=x
 ·subst hb;rw [aw] at q;cases q;exact new
 ·rw [av hb] at q
  by_cases j4:b=e
  ·have q':H b=some (.own x):=by
    rcases he with z | z
    ·exact absurd (j4.trans z) hb
    ·rw [j4];exact z
   rw [q] at q';cases q';obtain⟨v,hv⟩:=pM;exact⟨v,by rw [j4];exact hv⟩
  ·refine(ok b u q).f7 (λc v hc r=>k c v ?_ r) (λc r=>by rw [av<|ra c b r];exact r) λc xs r=>by rw [av<|ym c xs r];exact r
   rcases hc with rfl | hc
   ·exact j4
   ·rintro rfl
    rcases he with z | z
    ·exact ra c b hc z
    ·rw [hc] at z;cases z;exact hb rfl
end
structure Un(fs ex:List Addr)(H H':Hp)(h h':Heap):Prop where
 keep:∀ b o,h.get? b=some o->H b=none->b∉fs->b∉ex->h'.get? b=some o
 slot:∀ b o,h.get? b=some o->H b=none->b∈fs->b∉ex->∃ sl,h'.get? b=some {o with slots:=sl}
 free:∀ b o,h.get? b=some o->H b=none->b∉ex->H' b=none
 there:∀ b o,h.get? b=some o->b∉ex->∃ o',h'.get? b=some o'
 dY:∀ b xs,H b=some (.tup xs)->H' b=some (.tup xs)
 dC:∀ b o u,H b=some (.cq o u)->H' b=some (.cq o u)
 dZ:∀ b ps,H b=some (.lG ps)->∃ more,H' b=some (.lG<|ps++more)
section
variable{fs RE ex II:List Addr}{H H1 H2:Hp}{h h1 h2 h':Heap}{a x e:Addr}{o:HO}
theorem Un.any(u:Un fs ex H H1 h h1){b:Addr}{ob:Obj}(q:h.get? b=some ob)(n:H b=none)(hx:b∉ex):∃ sl,h1.get? b=some {ob with slots:=sl}:=by
 by_cases hb:b∈fs
 ·exact u.slot b ob q n hb hx
 ·exact⟨ob.slots,u.keep b ob q n hb hx⟩
theorem Un.kept(k:∀ b u,h.get? b=some u->h'.get? b=some u):Un fs ex H H h h':=
 ⟨λb ob q _ _ _=>k b ob q,λb ob q _ _ _=>⟨ob.slots,k b ob q⟩,λ_ _ _ n _=>n,λb ob q _=>⟨ob,k b ob q⟩,λ_ _ q=>q,λ_ _ _ q=>q,λ_ ps q=>⟨#[],by rw [q];simp⟩⟩
theorem Un.refl:Un fs ex H H h h:=Un.kept λ_ _ q=>q
theorem Un.laid(k:∀ b u,h.get? b=some u->h'.get? b=some u)(hp:h.objs.size<=a)(hn:H a=none):Un fs ex H (upd H a o) h h' where
 keep:=λb u q _ _ _=>k b u q
 slot:=λb u q _ _ _=>⟨u.slots,k b u q⟩
 free:=λb u q n _=>by rw [av<|Bt<|Bf (As q) hp];exact n
 there:=λb u q _=>⟨u,k b u q⟩
 dY:=λb xs q=>by rw [av<|bF q hn];exact q
 dC:=λb u xs q=>by rw [av<|bF q hn];exact q
 dZ:=λb ps q=>⟨#[],by rw [av<|bF q hn,q];simp⟩
theorem Un.write(mu:qZ<|H x)(he:e=x\/H e=some (.own x))(k:∀ b u,b≠e->h.get? b=some u->h'.get? b=some u)(pM:∃ u,h'.get? e=some u):Un fs ex H (upd H x o) h h':=by
 have hx:∀ b,H b=none->b≠x:=λb n z=>by subst z;rw [n] at mu;exact mu
 have hb:∀ b,H b=none->b≠e:=λb n z=>by
  subst z
  rcases he with r | r
  ·exact hx b n r
  ·rw [n] at r;cases r
 have hm:∀ b u,H b=some u->¬ qZ (some u)->b≠x:=λb u q nm z=>by subst z;rw [q] at mu;exact nm mu
 refine⟨λb u q n _ _=>k b u (hb b n) q,λb u q n _ _=>⟨u.slots,k b u (hb b n) q⟩,λb u q n _=>by rw [av<|hx b n];exact n,λb u q _=>?_,
  λb xs q=>by rw [av<|hm b _ q λz=>z];exact q,λb u xs q=>by rw [av<|hm b _ q λz=>z];exact q,λb ps q=>⟨#[],by rw [av<|hm b _ q λz=>z,q];simp⟩⟩
 by_cases j4:b=e
 ·subst j4;exact pM
 ·exact⟨u,k b u j4 q⟩
end
def vA(h:Heap)(H:Hp):List Addr:=(List.range h.objs.size).filter λa=>(H a).isSome
def d3(h:Heap)(H:Hp):Heap:=PySem.W.hideAll h<|vA h H
theorem RF(h:Heap)(H:Hp):(d3 h H).objs.size=h.objs.size:=PySem.W.hideAll_size _ _
theorem RH{h:Heap}{H:Hp}{b:Addr}{o:Obj}(e:h.get? b=some o)(n:H b=none):(d3 h H).get? b=some o:=
 PySem.W.hideAll_get _ e λhm=>by
  have q:(H b).isSome=true:=(Da.mp hm).2;rw [n] at q;simp at q
theorem RO{h:Heap}{H:Hp}{b:Addr}{o:Obj}(e:(d3 h H).get? b=some o):h.get? b=some o/\H b=none:=by
 have e':h.get? b=some o:=PySem.W.of_hideAll (vA h H) e;refine⟨e',?_⟩;cases q:H b with
 | none=>rfl
 | some x=>
  have hm:b∈vA h H:=Da.mpr ⟨Bg.mpr<|As e',by simp [q]⟩;have z:(d3 h H).get? b=none:=PySem.W.hideAll_none (vA h H) hm;rw [z] at e;cases e
structure Mod(K:PySem.W.Frag)(mg:Str->Option Value)(base:Heap):Prop where
 pN:K.In base
 glob:base.Ns mainGlobals mg
 blt:∃ mb,base.Ns builtinsNs mb/\∀ x:Str,x ≠ "__name__"->mb x=bootBuiltins x
 nolimit:base.NoLimit
structure Cx where
 prog:Program
 w:World
 K:PySem.W.Frag
 mg:Str->Option Value
 base:Heap
 A:Around
 N:List Str
 s₀:Shared
 H₀:Hp
 env:Env
 outer:List Env
 stack:List Env
 ex:List Addr
 fn:Str->Bool
 calm:Bool
 pn:List<|Addr×Obj
 xe:Value->Shared->Prop
def d6(l:List Env):List Addr:=l.filterMap (·.frame)
abbrev Cx.fs(X:Cx):List Addr:=d6 X.outer
def yn(sc:Scope)(x:Str):Prop:=sc.names.lookup x=some .local\/sc.names.lookup x=some .cell\/sc.names.lookup x=some .free
def Loc(sc:Scope)(x:Str):Prop:=sc.names.lookup x=some .local\/sc.names.lookup x=some .cell
def Look(env:Env)(h:Heap)(m:Str->Option Value)(x:Str)(u:Value):Prop:=
 (env.kindOf x=some .local/\m x=some u)\/((env.kindOf x=some .cell\/env.kindOf x=some .free)/\∃ c,env.cells.lookup x=some c/\h.IsCell c (some u))
structure Cx.Ok(X:Cx):Prop where
 mod:Mod X.K X.mg X.base
 kind:X.env.scope.kind = .function
 glob:X.env.globals=mainGlobals
 blt:X.env.builtins=builtinsNs
 above:X.s₀.heap.objs.size<=X.env.locals
 inj:∀ x y c,X.env.cells.lookup x=some c->X.env.cells.lookup y=some c->x=y
 has:∀ x,(X.env.kindOf x=some .cell\/X.env.kindOf x=some .free)->∃ c,X.env.cells.lookup x=some c
 rd:∀ x c,X.fn x=true->X.env.cells.lookup x=some c->X.s₀.heap.objs.size<=c
 hd:X.calm=true->X.A.handled=none
 frames:X.A.frames=some X.stack
 vB:X.stack=X.outer\/(X.stack=X.env :: X.outer/\X.env.frame=some X.env.locals)
 IJ:∀ b∈X.ex,b≠X.env.locals/\∀ x c,X.env.cells.lookup x=some c->c≠b
 bs:∀ b o,X.base.get? b=some o->X.s₀.heap.get? b=some o/\X.H₀ b=none
 lH:X.base.objs.size<=X.s₀.heap.objs.size
 iY:∀ b o,X.base.get? b=some o->b∉X.ex
 j5:∀ b∈X.ex,b∉X.fs
 db:X.s₀.heap.FunFrames X.base X.outer
 pO:∀ b∈X.fs,X.H₀ b=none
structure Inv(X:Cx)(pins:List<|Addr×Obj)(σ:List<|Option V)(H:Hp)(s:Shared):Prop where
 ok:X.Ok
 os:s.os=X.s₀.os
 bare:AllBare s.gens
 base:Un X.fs X.ex X.H₀ H X.s₀.heap s.heap
 loc:∃ m,s.heap.Ns X.env.locals m/\∀(i:Nat) (x:Str) (v:V),X.N[i]?=some x->σ[i]?=some (some v)->yn X.env.scope x->∃ u,RelV v u/\Look X.env s.heap m x u
 cell:∀ x c,X.env.cells.lookup x=some c->∃ v,s.heap.IsCell c v
 free:H X.env.locals=none
 b8:∀ x c,X.env.cells.lookup x=some c->H c=none
 pin:∀ p∈X.pn++pins,s.heap.get? p.1=some p.2/\H p.1=none/\p.1≠X.env.locals/\p.1∉X.fs/\∀ v,p.2.data ≠ .cell v
 aD:b5 X.prog X.w H s.heap
 len:σ.length=X.N.length
section
variable{X:Cx}{pins:List (Addr×Obj)}{σ:List (Option V)}{H H':Hp}{s:Shared}{h':Heap}
theorem Cx.Ok.yo(ok:X.Ok){b:Addr}{o:Obj}(e:X.base.get? b=some o):b∉X.fs:=λhb=>by
 have:=(ok.db.mem hb).1;rw [e] at this;cases this
theorem Inv.bs(I:Inv X pins σ H s):∀ b o,X.base.get? b=some o->s.heap.get? b=some o/\H b=none:=λb o e=>
 ⟨I.base.keep b o (I.ok.bs b o e).1 (I.ok.bs b o e).2 (I.ok.yo e)<|I.ok.iY b o e,I.base.free b o (I.ok.bs b o e).1 (I.ok.bs b o e).2<|I.ok.iY b o e⟩
theorem Inv.bk(I:Inv X pins σ H s):∀ b o,X.base.get? b=some o->s.heap.get? b=some o:=λb o e=>(I.bs b o e).1
theorem Inv.mod(I:Inv X pins σ H s):Mod X.K X.mg X.base:=I.ok.mod
theorem Inv.fv(I:Inv X pins σ H s):X.K.In s.heap:=I.ok.mod.pN.keeps I.bk
theorem Inv.lt(I:Inv X pins σ H s):X.env.locals < s.heap.objs.size:=let ⟨_,hn,_⟩:=I.loc;hn.lt
theorem Inv.sz(I:Inv X pins σ H s):X.s₀.heap.objs.size<=s.heap.objs.size:=Cg I.ok.above<|Ct I.lt
theorem Inv.yp(I:Inv X pins σ H s){a:Addr}(h:s.heap.objs.size<=a):a∉X.fs:=λhb=>by
 obtain⟨_,o,ho,_⟩:=I.ok.db.mem hb;exact absurd (Bf (As ho)<|Cg I.sz h)<|Cs _
theorem Inv.j6(I:Inv X pins σ H s):∀ x c,X.env.cells.lookup x=some c->c≠X.env.locals:=λx c e z=>by
 obtain⟨v,o,ho,hd⟩:=I.cell x c e;obtain⟨m,⟨o',es,ep,iJ,RU,_⟩,_⟩:=I.loc;rw [z,iJ] at ho;cases ho;rw [RU] at hd;cases hd
theorem Inv.db(I:Inv X pins σ H s):s.heap.FunFrames X.base X.outer:=by
 have all:∀(l:List Env),(∀ b∈d6 l,b∈X.fs)->X.s₀.heap.FunFrames X.base l->s.heap.FunFrames X.base l:=by
  intro l
  induction l with
  | nil=>intro _ _;trivial
  | cons env r ih=>
   intro hs hl;obtain⟨hk,⟨L,o,hf,hn,ho,hd⟩,hr⟩:=hl;have hL:L∈X.fs:=hs L (by unfold d6;rw [Ej,hf];exact Ae);obtain⟨sl,e⟩:=I.base.slot L o ho (I.ok.pO L hL) hL λz=>I.ok.j5 L z hL;exact⟨hk,⟨L,_,hf,hn,e,hd⟩,ih (λb hb=>hs b<|by unfold d6;rw [Ej,hf];exact Ah _ hb) hr⟩
 exact all X.outer (λ_ hb=>hb) I.ok.db
theorem Inv.stack(I:Inv X pins σ H s):s.heap.FunFrames X.base X.stack:=by
 rcases I.ok.vB with e | ⟨e,hf⟩
 ·rw [e];exact I.db
 ·rw [e];obtain⟨m,hn,_⟩:=I.loc;refine .cons (by rw [I.ok.kind];decide) hf hn ?_ I.db;exact Heap.get?_none_of_le<|Cg I.ok.lH I.ok.above
theorem Inv.d7(I:Inv X pins σ H s):∀ b∈d6 X.stack,b∈X.env.locals :: X.fs:=λb hb=>by
 rcases I.ok.vB with e | ⟨e,hf⟩
 ·rw [e] at hb;exact Ah _ hb
 ·rw [e] at hb;unfold d6 at hb;rw [Ej,hf] at hb;exact hb
theorem Inv.d8(I:Inv X pins σ H s):∀ b∈d6 X.stack,H b=none:=λb hb=>by
 rcases Aj.mp (I.d7 b hb) with e | hb
 ·rw [e];exact I.free
 ·obtain⟨_,o,ho,_⟩:=I.ok.db.mem hb;exact I.base.free b o ho (I.ok.pO b hb) λz=>I.ok.j5 b z hb
theorem Inv.step{g':Array GenState}{t':Nat}{d':Drawn}{ch:List Addr}(I:Inv X pins σ H s)
  (jJ:∀ b∈ch,(b∈X.ex\/X.s₀.heap.objs.size<=b)/\b≠X.env.locals/\(∀ x c,X.env.cells.lookup x=some c->c≠b)/\∀ p∈X.pn++pins,p.1≠b)
  (keep:∀ b o,b≠X.env.locals->b∉X.fs->b∉ch->s.heap.get? b=some o->H b=none->h'.get? b=some o)
  (slot:∀ b o,b≠X.env.locals->b∈X.fs->b∉ch->s.heap.get? b=some o->H b=none->∃ sl,h'.get? b=some {o with slots:=sl}) (free:∀ b o,b∉ch->s.heap.get? b=some o->H b=none->H' b=none)
  (there:∀ b o,b∉ch->s.heap.get? b=some o->∃ o',h'.get? b=some o')
  (dY:∀ b xs,H b=some (.tup xs)->H' b=some (.tup xs)) (dC:∀ b o u,H b=some (.cq o u)->H' b=some (.cq o u)) (dZ:∀ b ps,H b=some (.lG ps)->∃ more,H' b=some (.lG<|ps++more))
  (ns:∀ m,s.heap.Ns X.env.locals m->h'.Ns X.env.locals m) (aD:b5 X.prog X.w H' h') (hg:AllBare g') :
  Inv X pins σ H' {s with heap:=h',gens:=g',drawn:=d',toks:=t'}:=by
 have IL:∀ b o,X.s₀.heap.get? b=some o->b≠X.env.locals:=λb o e=>Bt<|Bf (As e) I.ok.above;have vC:∀ b o,X.s₀.heap.get? b=some o->b∉X.ex->b∉ch:=λb o e hx hb=>by
  rcases (jJ b hb).1 with z | z
  ·exact hx z
  ·exact absurd (Bf (As e) z)<|Cs _
 have cellK:∀ x c,X.env.cells.lookup x=some c->∀ v,s.heap.IsCell c v->h'.IsCell c v:=λx c e v ⟨o,ho,hd⟩=>by
  have rg:c∉ch:=λz=>(jJ c z).2.2.1 x c e rfl
  by_cases hc:c∈X.fs
  ·obtain⟨sl,q⟩:=slot c o (I.j6 x c e) hc rg ho<|I.b8 x c e;exact⟨_,q,hd⟩
  ·exact⟨o,keep c o (I.j6 x c e) hc rg ho<|I.b8 x c e,hd⟩
 refine⟨I.ok,I.os,hg,⟨λb o e n hb hx=>?_,λb o e n hb hx=>?_,λb o e n hx=>?_,λb o e hx=>?_,λb xs e=>dY b xs<|I.base.dY b xs e,λb o xs e=>dC b o xs<|I.base.dC b o xs e,λb ps e=>?_⟩,?_,λx c e=>?_,?_,λx c e=>?_,λp hp=>?_,aD,I.len⟩
 ·exact keep b o (IL b o e) hb (vC b o e hx) (I.base.keep b o e n hb hx)<|I.base.free b o e n hx
 ·obtain⟨sl,e1⟩:=I.base.slot b o e n hb hx;obtain⟨vD,e2⟩:=slot b _ (IL b o e) hb (vC b o e hx) e1<|I.base.free b o e n hx;exact⟨vD,e2⟩
 ·obtain⟨o',e1⟩:=I.base.there b o e hx;exact free b o' (vC b o e hx) e1<|I.base.free b o e n hx
 ·obtain⟨o',e1⟩:=I.base.there b o e hx;exact there b o' (vC b o e hx) e1
 ·obtain⟨m1,e1⟩:=I.base.dZ b ps e;obtain⟨m2,e2⟩:=dZ b _ e1;exact⟨m1++m2,by rw [e2,Array.append_assoc]⟩
 ·obtain⟨m,hn,hl⟩:=I.loc;refine⟨m,ns m hn,λi x v e1 e2 e3=>?_⟩;obtain⟨u,r,l⟩:=hl i x v e1 e2 e3;refine⟨u,r,?_⟩
  rcases l with l | ⟨k,c,e,z⟩
  ·exact .inl l
  ·exact .inr ⟨k,c,e,cellK x c e _ z⟩
 ·obtain⟨v,z⟩:=I.cell x c e;exact⟨v,cellK x c e v z⟩
 ·obtain⟨m,⟨o,_,_,ho,_⟩,_⟩:=I.loc;exact free _ o (λz=>(jJ _ z).2.1 rfl) ho I.free
 ·obtain⟨v,o,ho,hd⟩:=I.cell x c e;exact free c o (λz=>(jJ c z).2.2.1 x c e rfl) ho<|I.b8 x c e
 ·obtain⟨e,n,ne,nf,d⟩:=I.pin p hp;have rg:p.1∉ch:=λz=>(jJ p.1 z).2.2.2 p hp rfl;exact⟨keep p.1 p.2 ne nf rg e n,free p.1 p.2 rg e n,ne,nf,d⟩
theorem Inv.un{t':Nat}(I:Inv X pins σ H s)(u:Un X.fs [] H H' s.heap h')(aD:b5 X.prog X.w H' h'):Inv X pins σ H' {s with heap:=h',toks:=t'}:=by
 obtain⟨m,⟨o,es,ep,ho,r⟩,_⟩:=id I.loc;obtain⟨sl,hL⟩:=u.any ho I.free (by simp);exact I.step (g':=s.gens) (d':=s.drawn) (ch:=[]) (λ_ z=>nomatch z) (λb o _ hb _ e n=>u.keep b o e n hb<|by simp) (λb o _ hb _ e n=>u.slot b o e n hb<|by simp) (λb o _ e n=>u.free b o e n<|by simp) (λb o _ e=>u.there b o e<|by simp) u.dY u.dC u.dZ (λm' hm=>by
  obtain⟨o',cX,vE,iJ,r'⟩:=hm;rw [ho] at iJ;cases iJ;exact⟨_,cX,vE,hL,r'⟩) aD I.bare
theorem Inv.call{g':Array GenState}{t':Nat}{d':Drawn}{ch:List Addr}(I:Inv X pins σ H s)(u:Un (d6 X.stack) ch H H' s.heap h')(aD:b5 X.prog X.w H' h')(hg:AllBare g')
  (jJ:∀ b∈ch,(b∈X.ex\/X.s₀.heap.objs.size<=b)/\b≠X.env.locals/\(∀ x c,X.env.cells.lookup x=some c->c≠b)/\∀ p∈X.pn++pins,p.1≠b) :
  Inv X pins σ H' {s with heap:=h',gens:=g',drawn:=d',toks:=t'}:=by
 obtain⟨m,⟨o,es,ep,ho,r⟩,_⟩:=id I.loc;obtain⟨sl,hL⟩:=u.any ho I.free λz=>(jJ _ z).2.1 rfl;exact I.step (ch:=ch) jJ (λb o hL hb hc e n=>u.keep b o e n (λz=>(Aj.mp<|I.d7 b z).elim hL hb) hc) (λb o _ _ hc e n=>u.any e n hc) (λb o hc e n=>u.free b o e n hc) (λb o hc e=>u.there b o e hc) u.dY u.dC u.dZ (λm' hm=>by
  obtain⟨o',cX,vE,iJ,r'⟩:=hm;rw [ho] at iJ;cases iJ;exact⟨_,cX,vE,hL,r'⟩) aD hg
theorem Inv.turned{t':Nat}{it:Addr}(I:Inv X pins σ H s)(k:∀ b o,b≠it->s.heap.get? b=some o->h'.get? b=some o)(hn:H it=none)(hL:it≠X.env.locals)
  (h1:it∈X.ex\/X.s₀.heap.objs.size<=it) (h2:∀ x c,X.env.cells.lookup x=some c->c≠it) (h3:∀ p∈X.pn++pins,p.1≠it):Inv X pins σ H {s with heap:=h',toks:=t'}:=by
 have rh:∀ b u,H b=some u->b≠it:=λb u e z=>by rw [z,hn] at e;cases e
 refine I.step (g':=s.gens) (d':=s.drawn) (ch:=[it]) (λb hb=>?_) (λb o _ _ hc e _=>k b o (λz=>hc<|by simp [z]) e) (λb o _ _ hc e _=>⟨o.slots,k b o (λz=>hc<|by simp [z]) e⟩) (λ_ _ _ _ n=>n)
  (λb o hc e=>⟨o,k b o (λz=>hc<|by simp [z]) e⟩) (λ_ _ e=>e) (λ_ _ _ e=>e) (λb ps e=>⟨#[],by rw [e];simp⟩) (λm hm=>?_) (λb u e=>?_) I.bare
 ·have e:b=it:=by simpa using hb
  subst e;exact⟨h1,hL,h2,h3⟩
 ·obtain⟨o,es,ep,ho,r⟩:=hm;exact⟨o,es,ep,k _ o (CG hL) ho,r⟩
 ·refine(I.aD b u e).f7 (λc v hc q=>k c v ?_ q) (λ_ q=>q) λ_ _ q=>q
  rcases hc with z | z
  ·rw [z];exact rh b u e
  ·exact rh c _ z
theorem Inv.tok(I:Inv X pins σ H s)(t:Nat):Inv X pins σ H {s with toks:=t}:=I.un (h':=s.heap) (t':=t) Un.refl I.aD
theorem Inv.kept{t':Nat}(I:Inv X pins σ H s)(k:∀ b u,s.heap.get? b=some u->h'.get? b=some u):Inv X pins σ H {s with heap:=h',toks:=t'}:=I.un (Un.kept k)<|I.aD.kept k
theorem Inv.laid{a:Addr}{o:HO}{t':Nat}(I:Inv X pins σ H s)(k:∀ b u,s.heap.get? b=some u->h'.get? b=some u)(hp:s.heap.objs.size<=a)(new:ax X.prog X.w (upd H a o) h' a o) :
  Inv X pins σ (upd H a o) {s with heap:=h',toks:=t'}:=I.un (Un.laid k hp<|I.aD.fresh hp)<|I.aD.laid k hp new
theorem Inv.write{x e:Addr}{o:HO}{t':Nat}(I:Inv X pins σ H s)(mu:qZ<|H x)(he:e=x\/H e=some (.own x))(k:∀ b u,b≠e->s.heap.get? b=some u->h'.get? b=some u)(pM:∃ u,h'.get? e=some u)
  (new:ax X.prog X.w (upd H x o) h' x o):Inv X pins σ (upd H x o) {s with heap:=h',toks:=t'}:=I.un (Un.write mu he k pM)<|I.aD.write mu he k pM new
theorem Inv.gI{lI:List (Addr×Obj)}(I:Inv X pins σ H s)(h:∀ p∈lI,s.heap.get? p.1=some p.2/\H p.1=none/\p.1≠X.env.locals/\p.1∉X.fs/\∀ v,p.2.data ≠ .cell v):Inv X lI σ H s:=
 ⟨I.ok,I.os,I.bare,I.base,I.loc,I.cell,I.free,I.b8,λp hp=>(Aq.mp hp).elim (λz=>I.pin p<|Bc _ z)<|h p,I.aD,I.len⟩
theorem IM{N:List Str}(hN:N.Nodup){i j:Nat}{x:Str}(a:N[i]?=some x)(b:N[j]?=some x):i=j:=by
 obtain⟨h1,e1⟩:=Ac.mp a;obtain⟨h2,e2⟩:=Ac.mp b;exact(Gb hN).mp<|e1.trans e2.symm
theorem IP{M:Model}{A:Around}{E:Value->Shared->Prop}{i:Nat}{x:Str}{v:V}{u:Value}{Q:Unit->Shared->Prop}(I:Inv X pins σ H s)(hN:X.N.Nodup)(hi:X.N[i]?=some x)(hx:Loc X.env.scope x)(r:RelV v u)
  (h:∀ s',Inv X pins (σ.set i<|some v) H s'->(∃ a,Heap.SameBut a s.heap s'.heap/\(a=X.env.locals\/X.env.cells.lookup x=some a))->Q () s') (hf:X.fn x=true\/X.env.scope.names.lookup x=some .local:=by first | exact .inl rfl | exact .inr rfl | assumption):wpAny M A (storeName X.env x u) Q E s:=by
 obtain⟨m,hn,hl⟩:=id I.loc;have yq:(X.env.scope.kind == .class || (X.env.scope.kind == .module && X.env.locals != X.env.globals))=false:=by rw [I.ok.kind];rfl
 have hiσ:i < σ.length:=by rw [I.len];exact(Ac.mp hi).1
 have j6:=I.j6;have tracked:∀{a:Addr} {h':Heap},(∃ o,s.heap.get? a=some o/\H a=none)->Heap.SameBut a s.heap h'->b5 X.prog X.w H h':=λ{a h'} ha hs b ob e=>by
  obtain⟨_,_,lJ⟩:=ha;refine(I.aD b ob e).f7 (λc w' hc q=>(hs.2 c ?_).trans q) (λ_ q=>q) λ_ _ q=>q;rintro rfl
  rcases hc with rfl | hc
  ·rw [lJ] at e;cases e
  ·rw [lJ] at hc;cases hc
 rcases hx with hk | hk
 ·refine wpAny_storeName_local hk hn (λh' vF hs=>?_) yq;obtain⟨oL,_,_,iZ,_⟩:=id hn;refine h _ ⟨I.ok,I.os,I.bare,⟨λb o e n hb hx=>?_,λb o e n hb hx=>?_,I.base.free,λb o e hx=>?_,I.base.dY,I.base.dC,I.base.dZ⟩,⟨_,vF,λj y v' e1 e2 e3=>?_⟩,λy c e=>?_,I.free,I.b8,λp hp=>?_,tracked ⟨oL,iZ,I.free⟩ hs,by simpa using I.len⟩ ⟨_,hs,.inl rfl⟩
  ·exact(hs.2 b<|Bt<|Bf (As e) I.ok.above).trans<|I.base.keep b o e n hb hx
  ·obtain⟨sl,e1⟩:=I.base.slot b o e n hb hx;exact⟨sl,(hs.2 b<|Bt<|Bf (As e) I.ok.above).trans e1⟩
  ·obtain⟨o',e1⟩:=I.base.there b o e hx;exact⟨o',(hs.2 b<|Bt<|Bf (As e) I.ok.above).trans e1⟩
  ·by_cases hj:j=i
   ·subst hj;rw [hi] at e1;cases e1;rw [RQ hiσ] at e2;cases e2;exact⟨u,r,.inl ⟨hk,by simp⟩⟩
   ·rw [List.getElem?_set_ne<|CG hj] at e2;obtain⟨u',r',q⟩:=hl j y v' e1 e2 e3;refine⟨u',r',?_⟩
    rcases q with ⟨k,e⟩ | ⟨k,c,e,z⟩
    ·refine .inl ⟨k,?_⟩;have:y≠x:=λe=>hj<|IM hN e1<|e ▸ hi;simp [this,e]
    ·exact .inr ⟨k,c,e,z.sameBut hs<|j6 y c e⟩
  ·obtain⟨w',z⟩:=I.cell y c e;exact⟨w',z.sameBut hs<|j6 y c e⟩
  ·obtain⟨e,n,ne,nf,d⟩:=I.pin p hp;exact⟨(hs.2 p.1 ne).trans e,n,ne,nf,d⟩
 ·have yr:X.fn x=true:=by
   rcases hf with z | z
   ·exact z
   ·rw [z] at hk;cases hk
  obtain⟨c,hc⟩:=I.ok.has x<|.inl hk;obtain⟨w',z⟩:=I.cell x c hc;refine wpAny_storeName_cell I.ok.kind hk hc z λh' aZ hs=>?_;obtain⟨oc,IQ,yt⟩:=id z;refine h {s with heap:=h'} ⟨I.ok,I.os,I.bare,⟨λb o e n hb hx=>?_,λb o e n hb hx=>?_,I.base.free,λb o e hx=>?_,I.base.dY,I.base.dC,I.base.dZ⟩,⟨m,hn.sameBut hs<|CG<|j6 x c hc,λj y v' e1 e2 e3=>?_⟩,λy c' e=>?_,I.free,I.b8,λp hp=>?_,tracked ⟨oc,IQ,I.b8 x c hc⟩ hs,by simpa using I.len⟩ ⟨c,hs,.inr hc⟩
  ·exact(hs.2 b<|Bt<|Bf (As e)<|I.ok.rd x c yr hc).trans<|I.base.keep b o e n hb hx
  ·obtain⟨sl,e1⟩:=I.base.slot b o e n hb hx;exact⟨sl,(hs.2 b<|Bt<|Bf (As e)<|I.ok.rd x c yr hc).trans e1⟩
  ·obtain⟨o',e1⟩:=I.base.there b o e hx;exact⟨o',(hs.2 b<|Bt<|Bf (As e)<|I.ok.rd x c yr hc).trans e1⟩
  ·by_cases hj:j=i
   ·subst hj;rw [hi] at e1;cases e1;rw [RQ hiσ] at e2;cases e2;exact⟨u,r,.inr ⟨.inl hk,c,hc,aZ⟩⟩
   ·rw [List.getElem?_set_ne<|CG hj] at e2;obtain⟨u',r',q⟩:=hl j y v' e1 e2 e3;refine⟨u',r',?_⟩
    rcases q with q | ⟨k,c',e,z'⟩
    ·exact .inl q
    ·refine .inr ⟨k,c',e,z'.sameBut hs ?_⟩;rintro rfl;exact hj<|IM hN e1<|I.ok.inj _ _ _ e hc ▸ hi
  ·by_cases gJ:c'=c
   ·subst gJ;exact⟨_,aZ⟩
   ·obtain⟨w2,z2⟩:=I.cell y c' e;exact⟨w2,z2.sameBut hs gJ⟩
  ·obtain⟨e,n,ne,nf,d⟩:=I.pin p hp;refine⟨(hs.2 p.1 ?_).trans e,n,ne,nf,d⟩;intro q;rw [q,IQ] at e;have q':oc=p.2:=Option.some.inj e;exact d w'<|by rw [<- q'];exact yt
theorem IT{M:Model}{A:Around}{E:Value->Shared->Prop}{i:Nat}{x:Str}{v:V}{u:Value}{Q:Unit->Shared->Prop}(I:Inv X pins σ H s)(hN:X.N.Nodup)(hi:X.N[i]?=some x)(hx:Loc X.env.scope x)(r:RelV v u)
  (h:∀ s',Inv X pins (σ.set i<|some v) H s'->Q () s') (hf:X.fn x=true\/X.env.scope.names.lookup x=some .local:=by first | exact .inl rfl | exact .inr rfl | assumption):wpAny M A (storeName X.env x u) Q E s:=
 IP I hN hi hx r (λs' I' _=>h s' I') hf
theorem Inv.call'{s':Shared}{ch:List Addr}(I:Inv X pins σ H s)(ho:s'.os=s.os)(u:Un (d6 X.stack) ch H H' s.heap s'.heap)(aD:b5 X.prog X.w H' s'.heap)(hg:AllBare s'.gens)
  (jJ:∀ b∈ch,(b∈X.ex\/X.s₀.heap.objs.size<=b)/\b≠X.env.locals/\(∀ x c,X.env.cells.lookup x=some c->c≠b)/\∀ p∈X.pn++pins,p.1≠b):Inv X pins σ H' s':=by
 obtain⟨h',g',d',t',o'⟩:=s';have e:o'=s.os:=ho;subst e;exact I.call (g':=g') (t':=t') (d':=d') u aD hg jJ
end
abbrev XK:=Value->Option Addr->Hp->Prop
abbrev St:=List<|Option V
abbrev VK:=V->Hp->Prop
abbrev TE:=St->Hp->VK->Prop
abbrev TT:=St->Hp->(Bool->Hp->Prop)->Prop
abbrev TA:=St->Hp->(List V->Hp->Prop)->Prop
structure Ends where
 nx:St->Hp->Prop
 rt:VK
 bk:St->Hp->Prop:=λ_ _=>False
 ct:St->Hp->Prop:=λ_ _=>False
abbrev TS:=Ends->St->Hp->Prop
def EP(X:Cx)(pins:List<|Addr×Obj)(σ:St)(Q:VK)(u:Value)(s':Shared):Prop:=∃ v H',Inv X pins σ H' s'/\RelV v u/\Q v H'
def TP(X:Cx)(pins:List<|Addr×Obj)(σ:St)(Q:Bool->Hp->Prop)(b:Bool)(s':Shared):Prop:=∃ H',Inv X pins σ H' s'/\Q b H'
def AP(X:Cx)(pins:List<|Addr×Obj)(σ:St)(Q:List V->Hp->Prop)(us:List Value)(s':Shared):Prop:=∃ vs H',Inv X pins σ H' s'/\au vs us/\Q vs H'
def SP(X:Cx)(pins:List<|Addr×Obj)(D:Ends)(f:Flow)(s':Shared):Prop:=
 match f with
 | .next=>∃ σ' H',Inv X pins σ' H' s'/\D.nx σ' H'
 | .brk=>∃ σ' H',Inv X pins σ' H' s'/\D.bk σ' H'
 | .cont=>∃ σ' H',Inv X pins σ' H' s'/\D.ct σ' H'
 | .ret u=>∃ v σ' H',Inv X pins σ' H' s'/\RelV v u/\D.rt v H'
def PE(X:Cx)(e:Expr)(t:TE):Prop:=
 ∀(pins:List<|Addr×Obj) (s:Shared) (σ:St) (H:Hp) (Q:VK),Inv X pins σ H s->t σ H Q->wpAny (model X.prog X.w) X.A (eval e X.env) (EP X pins σ Q) X.xe s
def PT(X:Cx)(e:Expr)(t:TT):Prop:=
 ∀(pins:List<|Addr×Obj) (s:Shared) (σ:St) (H:Hp) (Q:Bool->Hp->Prop),Inv X pins σ H s->t σ H Q->wpAny (model X.prog X.w) X.A (isTrue e X.env<|eval e X.env) (TP X pins σ Q) X.xe s
def PW(X:Cx)(e:Expr)(t:TT):Prop:=
 ∀(whole:Sem Value) (pins:List<|Addr×Obj) (s:Shared) (σ:St) (H:Hp) (Q:Bool->Hp->Prop),Inv X pins σ H s->t σ H Q->wpAny (model X.prog X.w) X.A (isTrue e X.env whole) (TP X pins σ Q) X.xe s
def PA(X:Cx)(es:List Expr)(t:TA):Prop:=
 ∀(pos:Pos) (pins:List<|Addr×Obj) (s:Shared) (σ:St) (H:Hp) (Q:List V->Hp->Prop),Inv X pins σ H s->t σ H Q->wpAny (model X.prog X.w) X.A (spliced<|backTo pos<|starEach es X.env) (AP X pins σ Q) X.xe s
def PS(X:Cx)(st:Stmt)(t:TS):Prop:=
 ∀(pins:List<|Addr×Obj) (s:Shared) (σ:St) (H:Hp) (D:Ends),Inv X pins σ H s->t D σ H->wpAny (model X.prog X.w) X.A (exec st X.env) (SP X pins D) X.xe s
def ia(X:Cx)(st:List Stmt)(t:TS):Prop:=
 ∀(pins:List<|Addr×Obj) (s:Shared) (σ:St) (H:Hp) (D:Ends),Inv X pins σ H s->t D σ H->wpAny (model X.prog X.w) X.A (execs st X.env) (SP X pins D) X.xe s
theorem aI{α:Type}{t:Sem α}{Q Q':α->Shared->Prop}{M:Model}{A:Around}{E:Value->Shared->Prop}{s:Shared}(h:wpAny M A t Q E s)(hQ:∀ a s,Q a s->Q' a s):wpAny M A t Q' E s:=CT h hQ λ_ _ x=>x
section
variable{X:Cx}
theorem bin{a b:Expr}{ta tb:TE}(ha:PE X a ta)(hb:PE X b tb){pins:List (Addr×Obj)}{s:Shared}{σ:St}{H:Hp}{R:V->V->Hp->Prop}(I:Inv X pins σ H s)(h:ta σ H λx H1=>tb σ H1 λy H2=>R x y H2)
  {α:Type} {Q:α->Shared->Prop} {f:Value->Value->Sem α}
  (hf:∀ v u s2 x y H2,Inv X pins σ H2 s2->RelV x v->RelV y u->R x y H2->wpAny (model X.prog X.w) X.A (f v u) Q X.xe s2) :
  wpAny (model X.prog X.w) X.A (eval a X.env) (λv s₁=>wpAny (model X.prog X.w) X.A (eval b X.env) (λu s₂=>wpAny (model X.prog X.w) X.A (f v u) Q X.xe s₂) X.xe s₁) X.xe s:=by
 refine aI (ha pins s σ H _ I h) λv s1 ⟨x,H1,I1,r1,q1⟩=>?_;refine aI (hb pins s1 σ H1 _ I1 q1) λu s2 ⟨y,H2,I2,r2,q2⟩=>?_;exact hf v u s2 x y H2 I2 r1 r2 q2
def yu(i:Nat):TE:=λσ H Q=>∃ v,σ[i]?=some (some v)/\Q v H
def tC(v:V):TE:=λ_ H Q=>Q v H
theorem RY{i:Nat}{x:Str}{pos:Pos}(hN:X.N[i]?=some x)(hv:yn X.env.scope x)(hd:(x == ("__debug__" : Str))=false:=by decide)(gK:(x == ("__classdict__" : Str))=false:=by decide):PE X (.Name x pos) (yu i):=by
 intro pins s σ H Q I h;obtain⟨v,e,h⟩:=h;obtain⟨m,hn,hl⟩:=I.loc;obtain⟨u,r,l⟩:=hl i x v hN e hv;have fin:EP X pins σ Q u s:=⟨v,H,I,r,h⟩
 rcases l with ⟨hk,hm⟩ | ⟨hk,c,hc,gL⟩
 ·exact wpAny_Name (wpAny_loadName_local I.ok.kind hk hn hm fin) hd
 ·rcases hk with hk | hk
  ·exact wpAny_Name (wpAny_loadName_cell I.ok.kind hk hc gL fin) hd
  ·exact wpAny_Name (wpAny_loadName_free I.ok.kind hk hc gL fin gK) hd
theorem R0{i j pos}:PE X (.Constant (.int i) j pos) (tC<|.int i):=λ_ _ _ H _ I h=>wpAny_Constant_int ⟨.int i,H,I.tok _,⟨_,rfl⟩,h⟩
theorem R1{b j pos}:PE X (.Constant (.bool b) j pos) (tC<|.bl b):=λ_ _ _ H _ I h=>Constant_bool ⟨.bl b,H,I,rfl,h⟩
theorem R3{x j pos}:PE X (.Constant (.str x) j pos) (tC<|.str x):=λ_ _ _ H _ I h=>Calls.Constant_str ⟨.str x,H,I.tok _,⟨_,rfl⟩,h⟩
def Gl(X:Cx)(x:Str):Prop:=X.env.kindOf x=some .globalImplicit
theorem yv{E:Value->Shared->Prop}{pins:List (Addr×Obj)}{s:Shared}{σ:St}{H:Hp}{x:Str}{u:Value}{pos:Pos}{Q:Value->Shared->Prop}(I:Inv X pins σ H s)(hg:Gl X x)(hm:X.mg x=some u)(h:Q u s)
  (hd:(x == ("__debug__" : Str))=false:=by decide):wpAny (model X.prog X.w) X.A (eval (.Name x pos) X.env) Q E s:=
 Calls.Name_function_global I.ok.kind hg (Calls.loadGlobal_global (by rw [I.ok.glob];exact I.mod.glob.keeps I.bk) hm h) hd
theorem lK{E:Value->Shared->Prop}{pins:List (Addr×Obj)}{s:Shared}{σ:St}{H:Hp}{x:Str}{u:Value}{pos:Pos}{Q:Value->Shared->Prop}(I:Inv X pins σ H s)(hg:Gl X x)(hm:X.mg x=none)(hv:bootBuiltins x=some u)(h:Q u s)
  (hn:x ≠ "__name__":=by decide) (hd:(x == ("__debug__" : Str))=false:=by decide):wpAny (model X.prog X.w) X.A (eval (.Name x pos) X.env) Q E s:=by
 obtain⟨mb,h1,h2⟩:=I.mod.blt;exact Calls.Name_function_global I.ok.kind hg (Calls.loadGlobal_builtin (by rw [I.ok.glob];exact I.mod.glob.keeps I.bk) hm (by rw [I.ok.blt];exact h1.keeps I.bk) ((h2 x hn).trans hv) h) hd
theorem R5{x:Str}{v:V}{u:Value}{pos:Pos}(hg:Gl X x)(hm:X.mg x=some u)(r:RelV v u)(hd:(x == ("__debug__" : Str))=false:=by decide):PE X (.Name x pos) (tC v):=
 λ_ _ _ H _ I h=>yv I hg hm ⟨v,H,I,r,h⟩ hd
theorem R9{x:Str}{v:V}{u:Value}{pos:Pos}(hg:Gl X x)(hm:X.mg x=none)(hv:bootBuiltins x=some u)(r:RelV v u)(hn:x ≠ "__name__":=by decide)(hd:(x == ("__debug__" : Str))=false:=by decide):PE X (.Name x pos) (tC v):=
 λ_ _ _ H _ I h=>lK I hg hm hv ⟨v,H,I,r,h⟩ hn hd
variable{a b:Expr}{ta tb:TE}{pos:Pos}
def PC(X:Cx)(op:CmpOp)(a b:Expr)(t:TE):Prop:=
 ∀(pins:List<|Addr×Obj) (s:Shared) (σ:St) (H:Hp) (Q:VK),Inv X pins σ H s->t σ H Q ->
  wpAny (model X.prog X.w) X.A (eval a X.env) (λv s₁=>wpAny (model X.prog X.w) X.A (eval b X.env) (λu s₂=>wpAny (model X.prog X.w) X.A (compareOp op v u) (EP X pins σ Q) X.xe s₂) X.xe s₁) X.xe s
def tB(t:TE):TT:=λσ H Q=>t σ H λx H1=>∃ c,x = .bl c/\Q c H1
theorem IU{op:CmpOp}{t:TE}(h:PC X op a b t)(h1:behindInMarks op b=false:=by first | exact ri _ (by decide) (by decide) | rfl):PT X (.Compare a [op] [b] pos) (tB t):=by
 intro pins s σ H Q I hw;refine wpAny_isTrue_Compare1 (aI (h pins s σ H _ I hw) λv s1 h1=>aI h1 λu s2 h2=>aI h2 λc s3 ⟨x,H1,I1,r1,q1⟩=>?_) h1;obtain⟨d,rfl,q⟩:=q1;cases r1;exact DY ⟨H1,I1,q⟩
theorem Sb{e:Expr}{t:TE}(h:PE X e t)(he:∀ whole,isTrue e X.env whole=(do let v <- whole;standAt e.pos;holding [v] (truthy v)):=by intro _;rfl):PT X e (tB t):=by
 intro pins s σ H Q I hw;refine isTrue_plain (aI (h pins s σ H _ I hw) λv s1 ⟨x,H1,I1,r1,q1⟩=>?_)<|he _;obtain⟨d,rfl,q⟩:=q1;cases r1;exact DY ⟨H1,I1,q⟩
variable{tA vG:TT}{rest:List Expr}
def yw(t u:TT):TT:=λσ H Q=>t σ H λc H1=>if c=true then u σ H1 Q else Q false H1
def Sd(t u:TT):TT:=λσ H Q=>t σ H λc H1=>if c=true then Q true H1 else u σ H1 Q
def yx(t:TT):TT:=λσ H Q=>t σ H λc H1=>Q (!c) H1
theorem Se(ha:PT X a tA):PW X (.BoolOp .And [a] pos) tA:=by
 intro wh pins s σ H Q I h;refine isTrue_and<|aI (ha pins s σ H Q I h) λc s1 e=>?_;cases c with
 | true=>exact isTrue_and_nil e
 | false=>exact e
theorem Sf(ha:PT X a tA):PW X (.BoolOp .Or [a] pos) tA:=by
 intro wh pins s σ H Q I h;refine isTrue_or<|aI (ha pins s σ H Q I h) λc s1 e=>?_;cases c with
 | false=>exact isTrue_or_nil e
 | true=>exact e
theorem Sg(ha:PT X a tA)(hb:PW X (.BoolOp .And (b :: rest) pos) vG):PW X (.BoolOp .And (a :: b :: rest) pos) (yw tA vG):=by
 intro wh pins s σ H Q I h;refine isTrue_and<|aI (ha pins s σ H _ I h) λc s1 ⟨H1,I1,q1⟩=>?_;cases c with
 | true=>exact hb wh pins s1 σ H1 Q I1 q1
 | false=>exact⟨H1,I1,q1⟩
theorem Sh(ha:PT X a tA)(hb:PW X (.BoolOp .Or (b :: rest) pos) vG):PW X (.BoolOp .Or (a :: b :: rest) pos) (Sd tA vG):=by
 intro wh pins s σ H Q I h;refine isTrue_or<|aI (ha pins s σ H _ I h) λc s1 ⟨H1,I1,q1⟩=>?_;cases c with
 | true=>exact⟨H1,I1,q1⟩
 | false=>exact hb wh pins s1 σ H1 Q I1 q1
theorem Si(ha:PT X a tA):PT X (.UnaryOp .Not a pos) (yx tA):=by
 intro pins s σ H Q I h;exact isTrue_not<|ha pins s σ H (λc H1=>Q (!c) H1) I h
def Sj(ta tb:TE):TE:=λσ H Q=>ta σ H λx H1=>∃ c,x = .bl c/\if c=true then tb σ H1 Q else Q (.bl false) H1
theorem Sl{op}{t:TE}(h:PE X a t):PE X (.BoolOp op [a] pos) t:=λpins s σ H Q I hw=>BoolOp_one<|h pins s σ H Q I hw
theorem Sn(ha:PE X a ta)(hb:PE X (.BoolOp .And (b :: rest) pos) tb):PE X (.BoolOp .And (a :: b :: rest) pos) (Sj ta tb):=by
 intro pins s σ H Q I h;refine BoolOp_and<|aI (ha pins s σ H _ I h) λv s1 ⟨x,H1,I1,r1,q1⟩=>?_;obtain⟨c,rfl,q1⟩:=q1;cases r1;refine DY ?_;cases c with
 | true=>exact hb pins s1 σ H1 Q I1 q1
 | false=>exact⟨.bl false,H1,I1,rfl,q1⟩
end
def ai(K:PySem.W.Frag)(H:Hp)(a:Addr)(xs:List V):Prop:=
 Rd H a (.lst xs) \/
  ∃(o:Obj) (its:Array Value) (n:Nat),K.lookup a=some o/\o.cls = .type "list"/\o.dict=none/\o.data = .seq its n/\its.size<=sizeLine/\au xs its.toList
def aJ(K:PySem.W.Frag)(H:Hp)(a:Addr)(xs:List V):Prop:=
 Rd H a (.tup xs) \/
  ∃(o:Obj) (its:Array Value) (n:Nat),K.lookup a=some o/\o.cls = .type "tuple"/\o.data = .seq its n/\its.size<=sizeLine/\au xs its.toList
def yy:Value->Option V
 | .none=>some .non
 | .bool b=>some<|.bl b
 | .int i _=>some<|.int i
 | .str x _=>some<|.str x
 | .bytes b _=>some<|.hV b
 | .float b _=>some<|.pL b
 | .ref a=>some<|.ref a
 | .type n=>some<|.ty n
 | _=>none
theorem RelV.abs{x:V}{u:Value}(r:RelV x u):yy u=some x:=by
 cases x with
 | non=>cases r;rfl
 | bl _=>cases r;rfl
 | int _=>obtain⟨t,rfl⟩:=r;rfl
 | str _=>obtain⟨t,rfl⟩:=r;rfl
 | hV _=>obtain⟨t,rfl⟩:=r;rfl
 | pL _=>obtain⟨t,rfl⟩:=r;rfl
 | ref _=>cases r;rfl
 | ty _=>cases r;rfl
theorem RelV.inj{x y:V}{u:Value}(r:RelV x u)(q:RelV y u):x=y:=Option.some.inj<|r.abs.symm.trans q.abs
theorem au.inj:∀{xs ys:List V} {us:List Value},au xs us->au ys us->xs=ys
 | _,_,_,.nil,.nil=>rfl
 | _,_,_,.cons r t,.cons r' t'=>by rw [r.inj r',au.inj t t']
section
variable{X:Cx}{pins:List (Addr×Obj)}{σ:St}{H:Hp}{s:Shared}{a:Addr}{xs ys:List V}
theorem ai.of{K:PySem.W.Frag}(h:H a=some (.lst xs)):ai K H a xs:= .inl<|.inl h
theorem aJ.of{K:PySem.W.Frag}(h:H a=some (.tup xs)):aJ K H a xs:= .inl<|.inl h
theorem Inv.list(I:Inv X pins σ H s)(h:ai X.K H a xs):∃ its:List Value,au xs its/\PlainL s.heap a its.toArray/\xs.length<=sizeLine:=by
 rcases h with h | ⟨o,its,n,hk,hc,hd,hs,hz,r⟩
 ·obtain⟨z,its,n,r,e⟩:=h.ok I.aD;exact⟨its,r,⟨_,n,e,rfl,rfl,rfl⟩,z⟩
 ·refine⟨its.toList,r,⟨o,n,I.fv a o hk,hc,hd,by simpa using hs⟩,?_⟩;have e:=r.length;simp only [Cd] at e;omega
theorem Inv.tuple(I:Inv X pins σ H s)(h:aJ X.K H a xs):∃ its:List Value,au xs its/\IsTup s.heap a its.toArray/\xs.length<=sizeLine:=by
 rcases h with h | ⟨o,its,n,hk,hc,hs,hz,r⟩
 ·obtain⟨z,its,r,p⟩:=h.ok I.aD;exact⟨its,r,p,z⟩
 ·refine⟨its.toList,r,⟨o,I.fv a o hk,hc,n,by simpa using hs⟩,?_⟩;have e:=r.length;simp only [Cd] at e;omega
theorem Inv.cz(I:Inv X pins σ H s)(h:ai X.K H a xs)(h':ai X.K H a ys):xs=ys:=by
 obtain⟨its,r,⟨o,n,e,_,_,d⟩,_⟩:=I.list h;obtain⟨its',r',⟨o',n',e',_,_,d'⟩,_⟩:=I.list h';rw [e] at e';cases e';rw [d] at d'
 injection d' with d1 _
 have:its=its':=by simpa using BX Array.toList d1
 subst this;exact r.inj r'
theorem Inv.ib(I:Inv X pins σ H s)(h:aJ X.K H a xs)(h':aJ X.K H a ys):xs=ys:=by
 obtain⟨its,r,⟨o,e,_,n,d⟩,_⟩:=I.tuple h;obtain⟨its',r',⟨o',e',_,n',d'⟩,_⟩:=I.tuple h';rw [e] at e';cases e';rw [d] at d'
 injection d' with d1 _
 have:its=its':=by simpa using BX Array.toList d1
 subst this;exact r.inj r'
end
abbrev Cx.dD(X:Cx)(E:Value->Shared->Prop):Cx:={X with xe:=E}
abbrev Cx.pP(X:Cx):Cx:=X.dD λ_ _=>False
theorem Cx.Ok.dD{X:Cx}(ok:X.Ok)(E:Value->Shared->Prop):(X.dD E).Ok:=
 ⟨ok.mod,ok.kind,ok.glob,ok.blt,ok.above,ok.inj,ok.has,ok.rd,ok.hd,ok.frames,ok.vB,ok.IJ,ok.bs,ok.lH,ok.iY,ok.j5,ok.db,ok.pO⟩
theorem Cx.Ok.b9{X:Cx}{E:Value->Shared->Prop}(ok:(X.dD E).Ok):X.Ok:=
 ⟨ok.mod,ok.kind,ok.glob,ok.blt,ok.above,ok.inj,ok.has,ok.rd,ok.hd,ok.frames,ok.vB,ok.IJ,ok.bs,ok.lH,ok.iY,ok.j5,ok.db,ok.pO⟩
section
variable{X:Cx}{pins:List (Addr×Obj)}{σ:St}{H:Hp}{s:Shared}{E:Value->Shared->Prop}
theorem Inv.dD(I:Inv X pins σ H s)(E:Value->Shared->Prop):Inv (X.dD E) pins σ H s:=⟨I.ok.dD E,I.os,I.bare,I.base,I.loc,I.cell,I.free,I.b8,I.pin,I.aD,I.len⟩
theorem Inv.b9(I:Inv (X.dD E) pins σ H s):Inv X pins σ H s:=⟨I.ok.b9,I.os,I.bare,I.base,I.loc,I.cell,I.free,I.b8,I.pin,I.aD,I.len⟩
theorem SP.b9{D:Ends}{f:Flow}{s':Shared}(h:SP (X.dD E) pins D f s'):SP X pins D f s':=by
 cases f with
 | next=>obtain⟨σ',H',I,q⟩:=h;exact⟨σ',H',I.b9,q⟩
 | brk=>obtain⟨σ',H',I,q⟩:=h;exact⟨σ',H',I.b9,q⟩
 | cont=>obtain⟨σ',H',I,q⟩:=h;exact⟨σ',H',I.b9,q⟩
 | ret u=>obtain⟨v,σ',H',I,r,q⟩:=h;exact⟨v,σ',H',I.b9,r,q⟩
theorem ia.pP{st:List Stmt}{t:TS}(h:ia X.pP st t):ia X st t:=λpins s σ H D I hw=>
 CT (h pins s σ H D (I.dD _) hw) (λ_ _ q=>q.b9) λ_ _ z=>False.elim z
end
section
variable{X:Cx}{st:Stmt}{rest:List Stmt}{t u:TS}{e:Expr}{te:TE}{pos:Pos}
def Sq:TS:=λD σ H=>D.nx σ H
def yz(t u:TS):TS:=λD σ H=>t {D with nx:=u D} σ H
theorem Sr:ia X [] Sq:=λ_ _ σ H _ I h=>RK ⟨σ,H,I,h⟩
theorem Ss(h1:PS X st t)(h2:ia X rest u):ia X (st :: rest) (yz t u):=by
 intro pins s σ H D I h;refine wpAny_execs_cons<|aI (h1 pins s σ H {D with nx:=u D} I h) λf s1 q=>?_;cases f with
 | next=>
  obtain⟨σ',H',I',q⟩:=q;exact h2 pins s1 σ' H' D I' q
 | ret v=>exact q
 | brk=>exact q
 | cont=>exact q
theorem Inv.quiet{pins:List (Addr×Obj)}{σ:St}{H:Hp}{s:Shared}(I:Inv X pins σ H s):interactive X.env=false:=by simp [interactive,I.ok.kind]
def Sv(te:TE):TS:=λD σ H=>te σ H λ_ H1=>D.nx σ H1
theorem Sw(he:PE X e te)(hs:swapsWith e none pos.line X.env=pure false:=by rfl):PS X (.Expr e pos) (Sv te):=by
 intro pins s σ H D I h;exact wpAny_Expr_any (aI (he pins s σ H _ I h) λv s1 ⟨x,H1,I1,r1,q1⟩=>⟨σ,H1,I1,q1⟩) I.quiet hs
def yA(te:TE):TS:=λD σ H=>te σ H D.rt
theorem Sx(he:PE X e te):PS X (.Return (some e) pos) (yA te):=by
 intro pins s σ H D I h;exact wpAny_Return_some<|aI (he pins s σ H _ I h) λv s1 ⟨x,H1,I1,r1,q1⟩=>⟨x,σ,H1,I1,r1,q1⟩
def yB(c:TT)(t u:TS):TS:=λD σ H=>c σ H λb H1=>if b=true then t D σ H1 else u D σ H1
theorem Sy{c:Expr}{a b:List Stmt}{tc:TT}(hc:PT X c tc)(ha:ia X a t)(hb:ia X b u):PS X (.If c a b pos) (yB tc t u):=by
 intro pins s σ H D I h;refine wpAny_If<|aI (hc pins s σ H _ I h) λd s1 ⟨H1,I1,q1⟩=>?_;cases d with
 | true=>exact ha pins s1 σ H1 D I1 q1
 | false=>exact hb pins s1 σ H1 D I1 q1
end
abbrev TG:=V->St->Hp->(St->Hp->Prop)->Prop
abbrev mY:=List V->St->Hp->(St->Hp->Prop)->Prop
def PG(X:Cx)(target:Expr)(t:TG):Prop:=
 ∀(pins:List<|Addr×Obj) (s:Shared) (σ:St) (H:Hp) (v:V) (u:Value) (Q:St->Hp->Prop),Inv X pins σ H s->RelV v u->t v σ H Q ->
  wpAny (model X.prog X.w) X.A (assign target X.env u) (λ_ s'=>∃ σ' H',Inv X pins σ' H' s'/\Q σ' H') X.xe s
def vH(X:Cx)(ts:List Expr)(t:mY):Prop:=
 ∀(pins:List<|Addr×Obj) (s:Shared) (σ:St) (H:Hp) (vs:List V) (us:List Value) (Q:St->Hp->Prop),Inv X pins σ H s->au vs us->t vs σ H Q ->
  wpAny (model X.prog X.w) X.A (assignInOrder ((assignEach ts X.env).map (·.2)) us) (λ_ s'=>∃ σ' H',Inv X pins σ' H' s'/\Q σ' H') X.xe s
section
variable{X:Cx}{pos:Pos}
def IY(i:Nat):TG:=λv σ H Q=>Q (σ.set i<|some v) H
theorem Sz{i:Nat}{x:Str}(hN:X.N.Nodup)(hi:X.N[i]?=some x)(hx:Loc X.env.scope x)(hf:X.fn x=true\/X.env.scope.names.lookup x=some .local:=by first | exact .inl rfl | exact .inr rfl | assumption):PG X (.Name x pos) (IY i):=by
 intro pins s σ H v u Q I r h;exact wpAny_assign_Name<|IT I hN hi hx r (λs' I'=>⟨_,H,I',h⟩) hf
def mZ:mY:=λvs σ H Q=>vs=[]/\Q σ H
def pQ(t:TG)(u:mY):mY:=λvs σ H Q=>∃ v r,vs=v :: r/\t v σ H λσ' H'=>u r σ' H' Q
theorem IZ:vH X [] mZ:=by
 intro pins s σ H vs us Q I r h;obtain⟨e,h⟩:=h;subst e;cases r;exact assignInOrder_nil ⟨σ,H,I,h⟩
theorem rj{e:Expr}{es:List Expr}{t:TG}{u:mY}(h1:PG X e t)(h2:vH X es u)
  (hs:(assignEach (e :: es) X.env).map (·.2)=assign e X.env :: (assignEach es X.env).map (·.2):=by rfl):vH X (e :: es) (pQ t u):=by
 intro pins s σ H vs us Q I r h;obtain⟨v,vr,e1,h⟩:=h;subst e1;cases r with
 | cons r rr=>
  rw [hs];refine assignInOrder_cons<|aI (h1 pins s σ H _ _ _ I r h) λ_ s1 ⟨σ1,H1,I1,q1⟩=>?_;exact h2 pins s1 σ1 H1 _ _ Q I1 rr q1
def yC(K:PySem.W.Frag)(n:Nat)(t:mY):TG:=λv σ H Q=>∃ a xs,v = .ref a/\aJ K H a xs/\xs.length=n/\t xs σ H Q
theorem Ja{es:List Expr}{k:Nat}{t:mY}{n:Nat}(hc:X.calm=true)(h:vH X es t)
  (hn:(assignEach es X.env).length=n:=by rfl) (cS:(assignEach es X.env).findIdx? (·.1)=none:=by rfl):PG X (.Tuple es k pos) (yC X.K n t):=by
 intro pins s σ H v u Q I r hw;obtain⟨a,xs,e1,hq,hl,hw⟩:=hw;subst e1;cases r;obtain⟨its,rv,ht,hz⟩:=I.tuple hq;refine assign_Tuple_tuple (I.ok.hd hc) ht (by simp [hn,<- hl,rv.length]) cS λh' hx=>?_;have I1:Inv X pins σ H {s with heap:=h'}:=I.kept (t':=s.toks) λb o e=>hx b o (Bt<|As e) e;exact h pins _ σ H xs _ Q I1 (by simpa using rv) hw
def rk(te:TE)(g:TG):TS:=λD σ H=>te σ H λx H1=>g x σ H1 D.nx
theorem SA{tg e:Expr}{te:TE}{g:TG}(he:PE X e te)(hg:PG X tg g)(hs:swapsWithSole [tg] e pos.line X.env=pure false:=by rfl)(hw:swappedStores [tg] e X.env=pure none:=by rfl)
  (h1:(assignEach [tg] X.env).map (·.2)=[assign tg X.env]:=by rfl):PS X (.Assign [tg] e pos) (rk te g):=by
 intro pins s σ H D I h;refine wpAny_Assign_stores (aI (he pins s σ H _ I h) λv s1 ⟨x,H1,I1,r1,q1⟩=>?_) hs hw;rw [h1];exact aI (hg pins s1 σ H1 x v _ I1 r1 q1) λ_ s2 q=>q
theorem SD{i:Nat}{x:Str}{e:Expr}{te:TE}{pos':Pos}(hN:X.N.Nodup)(hi:X.N[i]?=some x)(hx:Loc X.env.scope x)(he:PE X e te)(hs:swapsWith e (some<|.Name x pos') pos.line X.env=pure false:=by rfl)(hf:X.fn x=true\/X.env.scope.names.lookup x=some .local:=by first | exact .inl rfl | exact .inr rfl | assumption) :
  PS X (.Assign [.Name x pos'] e pos) (rk te<|IY i):=by
 intro pins s σ H D I h;refine wpAny_Assign_Name (aI (he pins s σ H _ I h) λv s1 ⟨y,H1,I1,r1,q1⟩=>?_) hs;exact IT I1 hN hi hx r1 (λs2 I2=>⟨_,H1,I2,q1⟩) hf
def SE(c:TT)(tb:TS):TS:=λD σ H=>∃ W:Nat->St->Hp->Prop,(∃ m,W m σ H)/\∀ m σ H,W m σ H ->
 c σ H λb H1=>if b=true then ∃ N:St->Hp->Prop,(∀ σ' H',N σ' H'->∃ m',m' < m/\W m' σ' H')/\tb {D with nx:=N,ct:=N,bk:=D.nx} σ H1 else D.nx σ H1
theorem SF{c:Expr}{body:List Stmt}{tc:TT}{tb:TS}(hp:PassesOwn (model X.prog X.w) X.A X.env X.xe)(hc:PT X c tc)(hb:ia X body tb):PS X (.While c body [] pos) (SE tc tb):=by
 intro pins s σ H D I h;obtain⟨W,⟨m0,w0⟩,turn⟩:=h;refine wpAny_While<|codeAny_whileLoop (λn s'=>∃ σ' H',Inv X pins σ' H' s'/\W n σ' H') ?_ m0 ⟨σ,H,I,w0⟩;rintro n s1 ⟨σ1,H1,I1,w1⟩;refine GX hp<|aI (hc pins s1 σ1 H1 _ I1<|turn n σ1 H1 w1) λb s2 ⟨H2,I2,q2⟩=>?_;cases b with
 | true=>
  obtain⟨N,hN,q2⟩:=q2;rw [BP rfl];refine GX hp<|aI (hb pins s2 σ1 H2 _ I2 q2) λf s3 q3=>?_;cases f with
  | next=>
   obtain⟨σ3,H3,I3,n3⟩:=q3;obtain⟨m',hm,w3⟩:=hN σ3 H3 n3;exact⟨m',hm,σ3,H3,I3,w3⟩
  | cont=>
   obtain⟨σ3,H3,I3,n3⟩:=q3;obtain⟨m',hm,w3⟩:=hN σ3 H3 n3;exact⟨m',hm,σ3,H3,I3,w3⟩
  | brk=>exact q3
  | ret v=>exact q3
 | false=>
  rw [BL Ar];exact RK ⟨σ1,H2,I2,q2⟩
end
structure It where
 go:Nat->Hp->Prop
 pR:Nat->Hp->V->Hp->Prop
 stop:Nat->Hp->Prop
def bV(X:Cx)(pins:List<|Addr×Obj)(H:Hp)(b:Addr):Prop:=
 H b=none/\b≠X.env.locals/\b∉X.fs/\(b∈X.ex\/X.s₀.heap.objs.size<=b)/\(∀ x c,X.env.cells.lookup x=some c->c≠b)/\∀ p∈X.pn++pins,p.1≠b
theorem Inv.ga{X:Cx}{pins:List (Addr×Obj)}{σ:St}{H H':Hp}{s:Shared}{b:Addr}(I:Inv X pins σ H s)(hb:s.heap.objs.size<=b)(hn:H' b=none):bV X pins H' b:=by
 refine⟨hn,Cy<|Bf I.lt hb,I.yp hb,.inr<|Cg I.sz hb,λx c e z=>?_,λp hp z=>?_⟩
 ·obtain⟨v,q⟩:=I.cell x c e;exact absurd (Bf q.lt<|by rw [z];exact hb)<|Cs _
 ·exact absurd (Bf (As (I.pin p hp).1)<|by rw [z];exact hb)<|Cs _
structure Turn(P:Program)(w:World)(K:PySem.W.Frag)(tg:Expr)(J:It)(fp:List Addr)(it:Addr)(tn:Nat->Heap->Prop):Prop where
 mem:it∈fp
 obj:∀ i h,tn i h->∀ b∈fp,∃ o,h.get? b=some o/\∀ v,o.data ≠ .cell v
 keep:∀ i h h',tn i h->(∀ b∈fp,∀ o,h.get? b=some o->h'.get? b=some o)->tn i h'
 item:∀(X:Cx),X.prog=P->X.w=w->X.K=K->X.calm=true->∀(i:Nat) (pins:List<|Addr×Obj) (s:Shared) (σ:St) (H:Hp) (E:Value->Shared->Prop),Inv X pins σ H s->(∀ b∈fp,bV X pins H b)->tn i s.heap->J.go i H ->
  wpAny (model P w) X.A (pyNext<|.ref it) (λr s1=>∃ u,r=some u /\
   wpAny (model P w) X.A (letOwnedTupleGo tg (.ref it) u) (λ_ s2=>∃ x H',Inv X pins σ H' s2/\RelV x u/\J.pR i H x H'/\tn (i+1) s2.heap/\∀ b∈fp,H' b=none) E s1) E s
 done:∀(X:Cx),X.prog=P->X.w=w->X.K=K->X.calm=true->∀(i:Nat) (pins:List<|Addr×Obj) (s:Shared) (σ:St) (H:Hp) (E:Value->Shared->Prop),Inv X pins σ H s->(∀ b∈fp,bV X pins H b)->tn i s.heap->J.stop i H ->
  wpAny (model P w) X.A (pyNext<|.ref it) (λr s1=>r=none/\Inv X pins σ H s1) E s
 self:∀(A:Around) (i:Nat) (s:Shared) (Q:Value->Shared->Prop) (E:Value->Shared->Prop),tn i s.heap->Q (.ref it) s->wpAny (model P w) A (pyIter<|.ref it) Q E s
abbrev TI:=St->Hp->(It->Hp->Prop)->Prop
def Jb(X:Cx)(pins:List<|Addr×Obj)(σ:St)(tg:Expr)(R:It->Hp->Prop)(lN:Value)(s2:Shared):Prop:=
 ∃(it:Addr) (fp:List Addr) (tn:Nat->Heap->Prop) (J:It) (H':Hp),lN = .ref it/\Inv X pins σ H' s2/\Turn X.prog X.w X.K tg J fp it tn/\tn 0 s2.heap/\(∀ b∈fp,bV X pins H' b)/\R J H'
def PI(X:Cx)(tg iter:Expr)(wi:TI):Prop:=
 ∀(pins:List<|Addr×Obj) (s:Shared) (σ:St) (H:Hp) (R:It->Hp->Prop),Inv X pins σ H s->wi σ H R ->
  wpAny (model X.prog X.w) X.A (eval iter X.env) (λv s1=>wpAny (model X.prog X.w) X.A (pyIter v) (Jb X pins σ tg R) X.xe s1) X.xe s
theorem ro{M:Model}{A:Around}{E:Value->Shared->Prop}{s:Shared}{tg:Expr}{it:Addr}{u:Value}{o:Obj}{n:String}{vs:Array Value}{Q:Unit->Shared->Prop}(ho:s.heap.get? it=some o)(hc:o.cls = .type n)(hd:o.data = .fields vs)
    (hn:["enumerate","zip","dict_itemiterator","dict_reverseitemiterator","odict_iterator","itertools.zip_longest","itertools.pairwise"].contains n=false) (hQ:Q () s):wpAny M A (letOwnedTupleGo tg (.ref it) u) Q E s:=by
  unfold letOwnedTupleGo;cases tg <;> first
    | exact BK hQ
    | (cases u <;> first
        | exact BK hQ
        | (refine BJ<|wpAny_load ho ?_
           rw [hc,hd];show wpAny M A (if(["enumerate","zip","dict_itemiterator","dict_reverseitemiterator","odict_iterator","itertools.zip_longest","itertools.pairwise"].contains n && vs[0]? == some (rawInt _))=true then _ else _) Q E s;rw [BL<|by intro h;rw [hn,RW] at h;cases h];exact BK hQ))
def pS(K:PySem.W.Frag)(a:Addr):It:=
 ⟨λi H=>∃ xs x,ai K H a xs/\xs[i]?=some x,λi H x H'=>H'=H/\∀ xs,ai K H a xs->xs[i]?=some x,λi H=>∃ xs,ai K H a xs/\xs.length<=i⟩
def vI(K:PySem.W.Frag)(a:Addr):It:=
 ⟨λi H=>∃ xs x,aJ K H a xs/\xs[i]?=some x,λi H x H'=>H'=H/\∀ xs,aJ K H a xs->xs[i]?=some x,λi H=>∃ xs,aJ K H a xs/\xs.length<=i⟩
def pT(lo:Int)(n:Nat):It:=⟨λi _=>i < n,λi H x H'=>H'=H/\x = .int (lo+i),λi _=>n<=i⟩
theorem SG{P:Program}{w:World}{K:PySem.W.Frag}{tg:Expr}(a it:Addr):Turn P w K tg (pS K a) [it] it (λi h=>h.IsListIter it a i) where
 mem:=by simp
 obj:=λi h st b hb=>by
  have e:b=it:=by simpa using hb
  subst e;obtain⟨o,e,c,d⟩:=st;exact⟨o,e,λv z=>by rw [d] at z;cases z⟩
 keep:=λi h h' st k=>st.at λo e=>k it (by simp) o e
 item:=by
  intro X hP hw hK hc i pins s σ H E I hf st hg;subst hP hw hK;obtain⟨xs,x,hq,hx⟩:=hg;obtain⟨its,rv,p,hz⟩:=I.list hq;obtain⟨u,hu,ru⟩:=rv.get hx;obtain⟨f0,f1,f2,f3,f4,f5⟩:=hf it (by simp);refine wpAny_pyNext_list_item st p.isList (x:=u) (by simpa using hu) λh' cw sb=>?_;have I1:Inv X pins σ H {s with heap:=h'}:=I.turned (t':=s.toks) (λb o hb e=>(sb.2 b hb).trans e) f0 f1 f3 f4 f5;obtain⟨o,e,c,d⟩:=id cw;exact⟨u,rfl,ro (s:={s with heap:=h'}) e c d (by decide) ⟨x,H,I1,ru,⟨rfl,λys hy=>by rw [I.cz hy hq];exact hx⟩,cw,λb hb=>(hf b hb).1⟩⟩
 done:=by
  intro X hP hw hK hc i pins s σ H E I hf st hg;subst hP hw hK;obtain⟨xs,hq,hx⟩:=hg;obtain⟨its,rv,p,hz⟩:=I.list hq;obtain⟨f0,f1,f2,f3,f4,f5⟩:=hf it (by simp);have hl:=rv.length;exact wpAny_pyNext_list_end (I.ok.hd hc) st p.isList (by simp;omega) λh' eb=>⟨rfl,I.turned (t':=s.toks) (λb o hb e=>eb b o hb e) f0 f1 f3 f4 f5⟩
 self:=λ_ _ _ _ _ st h=>wpAny_pyIter_listiter st h
theorem SH{P:Program}{w:World}{K:PySem.W.Frag}{tg:Expr}(a it:Addr):Turn P w K tg (vI K a) [it] it (λi h=>h.IsTupleIter it a i) where
 mem:=by simp
 obj:=λi h st b hb=>by
  have e:b=it:=by simpa using hb
  subst e;obtain⟨o,e,c,d⟩:=st;exact⟨o,e,λv z=>by rw [d] at z;cases z⟩
 keep:=λi h h' st k=>st.at λo e=>k it (by simp) o e
 item:=by
  intro X hP hw hK hc i pins s σ H E I hf st hg;subst hP hw hK;obtain⟨xs,x,hq,hx⟩:=hg;obtain⟨its,rv,p,hz⟩:=I.tuple hq;obtain⟨u,hu,ru⟩:=rv.get hx;obtain⟨f0,f1,f2,f3,f4,f5⟩:=hf it (by simp);refine wpAny_pyNext_tuple_item st (show s.heap.IsTuple a its.toArray from p) (x:=u) (by simpa using hu) λh' cw sb=>?_;have I1:Inv X pins σ H {s with heap:=h'}:=I.turned (t':=s.toks) (λb o hb e=>(sb.2 b hb).trans e) f0 f1 f3 f4 f5;obtain⟨o,e,c,d⟩:=id cw;exact⟨u,rfl,ro (s:={s with heap:=h'}) e c d (by decide) ⟨x,H,I1,ru,⟨rfl,λys hy=>by rw [I.ib hy hq];exact hx⟩,cw,λb hb=>(hf b hb).1⟩⟩
 done:=by
  intro X hP hw hK hc i pins s σ H E I hf st hg;subst hP hw hK;obtain⟨xs,hq,hx⟩:=hg;obtain⟨its,rv,p,hz⟩:=I.tuple hq;obtain⟨f0,f1,f2,f3,f4,f5⟩:=hf it (by simp);have hl:=rv.length;exact wpAny_pyNext_tuple_end (I.ok.hd hc) st (show s.heap.IsTuple a its.toArray from p) (by simp;omega) λh' eb=>⟨rfl,I.turned (t':=s.toks) (λb o hb e=>eb b o hb e) f0 f1 f3 f4 f5⟩
 self:=λ_ _ _ _ _ st h=>wpAny_pyIter_tupleiter st h
theorem SK{P:Program}{w:World}{K:PySem.W.Frag}{tg:Expr}(it:Addr)(lo:Int)(n:Nat):Turn P w K tg (pT lo n) [it] it (λi h=>IsRangeIter h it (lo+(i:Nat) * 1) ((n:Int) - (i:Nat)) 1) where
 mem:=by simp
 obj:=λi h st b hb=>by
  have e:b=it:=by simpa using hb
  subst e;exact⟨_,st,λv z=>by
   have z':Data.fields _=Data.cell v:=z;cases z'⟩
 keep:=λi h h' st k=>k it (by simp) _ st
 item:=by
  intro X hP hw hK hc i pins s σ H E I hf st hg;subst hP hw hK;obtain⟨f0,f1,f2,f3,f4,f5⟩:=hf it (by simp);have W:=Walks.range (prog:=X.prog) (w:=X.w) (I.ok.hd hc) it lo 1 n;refine W.item i s _ _ hg st λv h' tk hv cw kk=>?_;obtain⟨t,rfl⟩:=hv;have I1:Inv X pins σ H {s with heap:=h',toks:=tk}:=I.turned (λb o hb e=>kk b o (by simpa using hb) e) f0 f1 f3 f4 f5;refine⟨_,rfl,ro (s:={s with heap:=h',toks:=tk}) (n:= "range_iterator") cw rfl rfl (by decide) ⟨.int<|lo+i,H,I1,⟨t,?_⟩,⟨rfl,rfl⟩,cw,λb hb=>(hf b hb).1⟩⟩;rw [Int.mul_one]
 done:=by
  intro X hP hw hK hc i pins s σ H E I hf st hg;subst hP hw hK;obtain⟨f0,f1,f2,f3,f4,f5⟩:=hf it (by simp);exact wpAny_pyNext_range_end (I.ok.hd hc) st (by have:n<=i:=hg;omega) λh' eb=>⟨rfl,I.turned (t':=s.toks) (λb o hb e=>eb b o hb e) f0 f1 f3 f4 f5⟩
 self:=λ_ _ _ _ _ st h=>wpAny_pyIter_rangeiter st h
section
variable{X:Cx}{tg:Expr}
def SL(K:PySem.W.Frag)(tl:TE):TI:=λσ H R=>tl σ H λx H1=>∃ a,x = .ref a/\(∃ xs,ai K H1 a xs)/\R (pS K a) H1
def yD(K:PySem.W.Frag)(tl:TE):TI:=λσ H R=>tl σ H λx H1=>∃ a,x = .ref a/\(∃ xs,aJ K H1 a xs)/\R (vI K a) H1
theorem dR{l:Expr}{tl:TE}(hl:PE X l tl):PI X tg l (SL X.K tl):=by
 intro pins s σ H R I h;refine aI (hl pins s σ H _ I h) λv s1 ⟨x,H1,I1,r1,q1⟩=>?_;obtain⟨a,e,⟨xs,hq⟩,q⟩:=q1;subst e;cases r1;obtain⟨its,rv,p,hz⟩:=I1.list hq;refine JX p.isList ?_;refine⟨s1.heap.objs.size,[s1.heap.objs.size],_,_,H1,rfl,I1.kept (t':=s1.toks) λb o e=>Af _ e,SG a _,⟨_,Ap _ rfl,rfl,rfl⟩,λb hb=>?_,q⟩;have e:b=s1.heap.objs.size:=by simpa using hb
 subst e;exact I1.ga (Al _)<|I1.aD.fresh<|Al _
theorem SR{l:Expr}{tl:TE}(hl:PE X l tl):PI X tg l (yD X.K tl):=by
 intro pins s σ H R I h;refine aI (hl pins s σ H _ I h) λv s1 ⟨x,H1,I1,r1,q1⟩=>?_;obtain⟨a,e,⟨xs,hq⟩,q⟩:=q1;subst e;cases r1;obtain⟨its,rv,p,hz⟩:=I1.tuple hq;refine wpAny_pyIter_tuple (show s1.heap.IsTuple a its.toArray from p) ?_;refine⟨s1.heap.objs.size,[s1.heap.objs.size],_,_,H1,rfl,I1.kept (t':=s1.toks) λb o e=>Af _ e,SH a _,⟨_,Ap _ rfl,rfl,rfl⟩,λb hb=>?_,q⟩;have e:b=s1.heap.objs.size:=by simpa using hb
 subst e;exact I1.ga (Al _)<|I1.aD.fresh<|Al _
theorem SU{pins:List (Addr×Obj)}{σ:St}{H:Hp}{s:Shared}{R:It->Hp->Prop}{E:Value->Shared->Prop}{lo hi:Int}{t u v:Tok}{tk:Nat}(I:Inv X pins σ H s)(h1:-(2 ^ 62)<=lo)(h2:lo < 2 ^ 62)(h3:-(2 ^ 62)<=hi)(h4:hi < 2 ^ 62)
  (q:R (pT lo (hi - lo).toNat) H):wpAny (model X.prog X.w) X.A (pyIter<|.ref s.heap.objs.size) (Jb X pins σ tg R) E {s with heap:=s.heap.push {cls:= .type "range",data:= .fields #[.int lo t,.int hi u,.int 1 v]},toks:=tk}:=by
 refine wpAny_pyIter_range (IsRange.new ..) (small_one h1 h2 h3 h4) ?_;have I1:Inv X pins σ H {s with heap:=s.heap.push {cls:= .type "range",data:= .fields #[.int lo t,.int hi u,.int 1 v]},toks:=tk}:=I.kept λb o e=>Af _ e;refine⟨(s.heap.push {cls:= .type "range",data:= .fields #[.int lo t,.int hi u,.int 1 v]}).objs.size,[(s.heap.push {cls:= .type "range",data:= .fields #[.int lo t,.int hi u,.int 1 v]}).objs.size],_,_,H,rfl,
  I1.kept (t':=tk) λb o e=>Af _ e,SK _ lo (hi - lo).toNat,?_,λb hb=>?_,q⟩
 ·have e1:lo+((0:Nat):Int) * 1=lo:=by simp
  have e2:(((hi - lo).toNat:Nat):Int) - ((0:Nat):Int)=Builtin.Range.rangeSize lo hi 1:=by rw [rangeSize_one];split <;> omega
  show IsRangeIter _ _ (lo+((0:Nat):Int) * 1) ((((hi - lo).toNat:Nat):Int) - ((0:Nat):Int)) 1;rw [e1,e2];exact Ap _ rfl
 ·have e:b=(s.heap.push {cls:= .type "range",data:= .fields #[.int lo t,.int hi u,.int 1 v]}).objs.size:=by simpa using hb
  subst e;exact I1.ga (Al _)<|I1.aD.fresh<|Al _
def Jc(ta:TA):TI:=λσ H R=>ta σ H λvs H1=>∃ j:Int,vs=[.int j]/\-(2 ^ 62)<=j/\j < 2 ^ 62/\R (pT 0 j.toNat) H1
theorem Jd{a:Expr}{ta:TA}{p pos:Pos}(hg:Gl X "range")(hm:X.mg "range" = none)(ha:PA X [a] ta)(hs:starEach [a] X.env=[(false,eval a X.env)]:=by rfl):PI X tg (.Call (.Name "range" p) [a] [] pos) (Jc ta):=by
 intro pins s σ H R I h;refine Call_<|lK I hg hm boot_range<|GQ (aI (ha pos pins s σ H _ I h) λus s1 ⟨vs,H1,I1,r1,q1⟩=>?_) hs rfl;obtain⟨j,e,q1,q2,q⟩:=q1;subst e;cases r1 with
 | cons r rr=>
  cases rr;obtain⟨t,rfl⟩:=r;exact call_range_1<|SU I1 (by omega) (by omega) q1 q2<|by simpa using q
def yE(wi:TI)(g:TG)(tb:TS):TS:=λD σ H=>wi σ H λJ H1=>∃ W:Nat->Nat->St->Hp->Prop,(∃ m,W 0 m σ H1)/\∀ i m σ H,W i m σ H ->
 (J.stop i H/\D.nx σ H)\/(J.go i H/\∃ N:St->Hp->Prop,(∀ σ' H',N σ' H'->∃ m',m' < m/\W (i+1) m' σ' H')/\∀ x H',J.pR i H x H'->g x σ H' λσ2 H2=>tb {D with nx:=N,ct:=N,bk:=D.nx} σ2 H2)
def rp(fp:List Addr)(h:Heap):List (Addr×Obj):=fp.filterMap λb=>(h.get? b).map λo=>(b,o)
theorem vJ{fp:List Addr}{h:Heap}{b:Addr}{o:Obj}(hb:b∈fp)(e:h.get? b=some o):(b,o)∈rp fp h:=Fu.mpr ⟨b,hb,by rw [e];rfl⟩
theorem SV{fp:List Addr}{h:Heap}{p:Addr×Obj}(hp:p∈rp fp h):p.1∈fp/\h.get? p.1=some p.2:=by
 obtain⟨b,hb,e⟩:=Fu.mp hp;cases q:h.get? b with
 | none=>rw [q] at e;cases e
 | some o=>
  rw [q] at e;have e':(b,o)=p:=Option.some.inj e;subst e';exact⟨hb,q⟩
theorem Inv.pinned{pins:List (Addr×Obj)}{σ:St}{H:Hp}{s:Shared}{fp:List Addr}(I:Inv X pins σ H s)(hf:∀ b∈fp,bV X pins H b)(ho:∀ b∈fp,∃ o,s.heap.get? b=some o/\∀ v,o.data ≠ .cell v):Inv X (pins++rp fp s.heap) σ H s:=
 I.gI λp hp=>(Aq.mp hp).elim (λz=>I.pin p<|Au _ z) λz=>by
  obtain⟨hb,e⟩:=SV z;obtain⟨f0,f1,f2,_⟩:=hf p.1 hb;obtain⟨o,e',d⟩:=ho p.1 hb;rw [e] at e';cases e';exact⟨e,f0,f1,f2,d⟩
theorem Inv.cA{pins pl:List (Addr×Obj)}{σ:St}{H:Hp}{s:Shared}(I:Inv X (pins++pl) σ H s):Inv X pins σ H s:=I.gI λp hp=>I.pin p<|Au _<|Bc _ hp
theorem SW{iter:Expr}{body:List Stmt}{wi:TI}{g:TG}{tb:TS}{pos:Pos}(hp:PassesOwn (model X.prog X.w) X.A X.env X.xe)(hc:X.calm=true)(hi:PI X tg iter wi)(hg:PG X tg g)(hb:ia X body tb)
  (hs:∀ x,foldedSetIterable iter X.env x=pure x:=by intro _;rfl):PS X (.For tg iter body [] pos) (yE wi g tb):=by
 intro pins s σ H D I h;refine wpAny_For (aI (hi pins s σ H _ I h) λv s1 h1=>aI h1 λlN s2 h2=>?_) hs;obtain⟨it,fp,tn,J,H2,e,I2,T,eY,f2,W,⟨m0,w0⟩,turn⟩:=h2;subst e;have stat:∀{H':Hp},(∀ b∈fp,H' b=none)->∀ b∈fp,bV X pins H' b:=λhn b hb=>⟨hn b hb,(f2 b hb).2⟩;refine codeAny_forLoop_any (λn s'=>∃ i σ' H',Inv X pins σ' H' s'/\tn i s'.heap/\(∀ b∈fp,H' b=none)/\W i n σ' H') ?_ m0 ⟨0,σ,H2,I2,eY,λb hb=>(f2 b hb).1,w0⟩;rintro n s3 ⟨i,σ3,H3,I3,Je,Jf,w3⟩
 rcases turn i n σ3 H3 w3 with ⟨stop,qn⟩ | ⟨go,N,hN,step⟩
 ·refine GX hp<|aI (T.done X rfl rfl rfl hc i pins s3 σ3 H3 X.xe I3 (stat Jf) Je stop) λr s4 ⟨hr,I4⟩=>?_;subst hr;exact RK ⟨σ3,H3,I4,qn⟩
 ·refine GX hp<|aI (T.item X rfl rfl rfl hc i pins s3 σ3 H3 X.xe I3 (stat Jf) Je go) λr s4 ⟨u,hr,h4⟩=>?_;subst hr;refine GX hp<|aI h4 λ_ s5 ⟨x,H5,I5,r5,y5,yF,SY⟩=>?_;have SZ:=I5.pinned (stat SY)<|T.obj _ _ yF;refine GX hp<|aI (hg _ s5 σ3 H5 x u _ SZ r5<|step x H5 y5) λ_ s6 ⟨σ6,H6,I6,q6⟩=>?_;refine GX hp<|aI (hb _ s6 σ6 H6 _ I6 q6) λf s7 q7=>?_;have again:∀{σ7:St} {H7:Hp},Inv X (pins++rp fp s5.heap) σ7 H7 s7->N σ7 H7->∃ m,m < n/\∃ i σ' H',Inv X pins σ' H' s7/\tn i s7.heap/\(∀ b∈fp,H' b=none)/\W i m σ' H':=λ{σ7 H7} I7 n7=>by
   obtain⟨m',hm,w7⟩:=hN σ7 H7 n7;refine⟨m',hm,i+1,σ7,H7,I7.cA,T.keep _ _ _ yF λb hb o e=>(I7.pin (b,o)<|Au _<|Au _<|vJ hb e).1,λb hb=>?_,w7⟩;obtain⟨o,e,d⟩:=T.obj _ _ yF b hb;exact(I7.pin (b,o)<|Au _<|Au _<|vJ hb e).2.1
  cases f with
  | next=>obtain⟨σ7,H7,I7,n7⟩:=q7;exact again I7 n7
  | cont=>obtain⟨σ7,H7,I7,n7⟩:=q7;exact again I7 n7
  | brk=>obtain⟨σ7,H7,I7,q7⟩:=q7;exact⟨σ7,H7,I7.cA,q7⟩
  | ret v=>obtain⟨x7,σ7,H7,I7,r7,q7⟩:=q7;exact⟨x7,σ7,H7,I7.cA,r7,q7⟩
end
abbrev R2:=V->V->Hp->VK->Prop
def cK(X:Cx)(f:Value->Value->Sem Value)(r:R2):Prop:=
 ∀(pins:List<|Addr×Obj) (s:Shared) (σ:St) (H:Hp) (x y:V) (v u:Value) (Q:VK),Inv X pins σ H s->RelV x v->RelV y u->r x y H Q ->
  wpAny (model X.prog X.w) X.A (f v u) (EP X pins σ Q) X.xe s
def dE(X:Cx)(f:Value)(r:List V->Hp->VK->Prop):Prop:=
 ∀(pins:List<|Addr×Obj) (s:Shared) (σ:St) (H:Hp) (xs:List V) (us:List Value) (Q:VK),Inv X pins σ H s->au xs us->r xs H Q ->
  wpAny (model X.prog X.w) X.A (call f us) (EP X pins σ Q) X.xe s
def yG(X:Cx)(r:V->Hp->(Bool->Hp->Prop)->Prop):Prop:=
 ∀(pins:List<|Addr×Obj) (s:Shared) (σ:St) (H:Hp) (x:V) (v:Value) (Q:Bool->Hp->Prop),Inv X pins σ H s->RelV x v->r x H Q ->
  wpAny (model X.prog X.w) X.A (truthy v) (TP X pins σ Q) X.xe s
def vK(r:R2)(ta tb:TE):TE:=λσ H Q=>ta σ H λx H1=>tb σ H1 λy H2=>r x y H2 Q
def rI(C:Int->Int->Prop)(g:Int->Int->V):R2:=λx y H Q=>∃ i j,x = .int i/\y = .int j/\C i j/\Q (g i j) H
def pU(g:Int->Int->V):R2:=λx y H Q=>∃ i j,x = .int i/\y = .int j/\Q (g i j) H
section
variable{X:Cx}{a b c:Expr}{ta tb tc:TE}{pos:Pos}
theorem m4(ha:PE X a ta)(hb:PE X b tb){pins:List (Addr×Obj)}{s:Shared}{σ:St}{H:Hp}{R:V->V->Hp->Prop}(I:Inv X pins σ H s)
  (h:ta σ H λx H1=>tb σ H1 λy H2=>R x y H2) {Q:Value->Shared->Prop} {f:Value->Value->Sem Value}
  (hf:∀ v u s2 x y H2,Inv X pins σ H2 s2->RelV x v->RelV y u->R x y H2->wpAny (model X.prog X.w) X.A (f v u) Q X.xe s2) :
  wpAny (model X.prog X.w) X.A (eval a X.env) (λv s₁=>wpAny (model X.prog X.w) X.A (eval b X.env) (λu s₂=>wpAny (model X.prog X.w) X.A (f v u) Q X.xe s₂) X.xe s₁) X.xe s:=by
 refine aI (ha pins s σ H _ I h) λv s1 ⟨x,H1,I1,r1,q1⟩=>?_;refine aI (hb pins s1 σ H1 _ I1 q1) λu s2 ⟨y,H2,I2,r2,q2⟩=>?_;exact hf v u s2 x y H2 I2 r1 r2 q2
theorem S0{op:Operator}{r:R2}(ho:cK X (binaryOp op) r)(ha:PE X a ta)(hb:PE X b tb):PE X (.BinOp a op b pos) (vK r ta tb):=by
 intro pins s σ H Q I h;exact wpAny_BinOp<|m4 ha hb I h λv u s2 x y H2 I2 rx ry q=>ho pins s2 σ H2 x y v u Q I2 rx ry q
theorem vL{f:Value->Value->Sem Value}{C:Int->Int->Prop}{g:Int->Int->Int}
  (rule:∀(i j:Int) (t u:Tok) (s:Shared) (Q:Value->Shared->Prop) (E:Value->Shared->Prop),C i j->Q (.int (g i j) s.toks) {s with toks:=s.toks+1}->wpAny (model X.prog X.w) X.A (f (.int i t)<|.int j u) Q E s) :
  cK X f (rI C λi j=> .int<|g i j):=by
 intro pins s σ H x y v u Q I rx ry h;obtain⟨i,j,rfl,rfl,hc,q⟩:=h;obtain⟨t,rfl⟩:=rx;obtain⟨t',rfl⟩:=ry;exact rule i j t t' s _ _ hc ⟨.int<|g i j,H,I.tok _,⟨_,rfl⟩,q⟩
theorem rq{f:Value->Value->Sem Value}{g:Int->Int->Int}
  (rule:∀(i j:Int) (t u:Tok) (s:Shared) (Q:Value->Shared->Prop) (E:Value->Shared->Prop),Q (.int (g i j) s.toks) {s with toks:=s.toks+1}->wpAny (model X.prog X.w) X.A (f (.int i t)<|.int j u) Q E s) :
  cK X f (pU λi j=> .int<|g i j):=by
 intro pins s σ H x y v u Q I rx ry h;obtain⟨i,j,rfl,rfl,q⟩:=h;obtain⟨t,rfl⟩:=rx;obtain⟨t',rfl⟩:=ry;exact rule i j t t' s _ _ ⟨.int<|g i j,H,I.tok _,⟨_,rfl⟩,q⟩
theorem rA{f:Value->Value->Sem Value}{g:Int->Int->Bool}
  (rule:∀(i j:Int) (t u:Tok) (s:Shared) (Q:Value->Shared->Prop) (E:Value->Shared->Prop),Q (.bool<|g i j) s->wpAny (model X.prog X.w) X.A (f (.int i t)<|.int j u) Q E s) :
  cK X f (pU λi j=> .bl<|g i j):=by
 intro pins s σ H x y v u Q I rx ry h;obtain⟨i,j,rfl,rfl,q⟩:=h;obtain⟨t,rfl⟩:=rx;obtain⟨t',rfl⟩:=ry;exact rule i j t t' s _ _ ⟨.bl<|g i j,H,I,rfl,q⟩
def rB(i j:Int):Prop:=0 < j/\j < 1073741824
def yH(i j:Int):Prop:=0<=j/\j<=1000000/\i.natAbs < 2 ^ 64
def m5(i j:Int):Prop:=(-(2 ^ 64) < i/\i < 2 ^ 64)\/(-(2 ^ 64) < j/\j < 2 ^ 64)
theorem m5.ok{i j:Int}(h:m5 i j):IntMulOk i j:=by
 rcases h with ⟨h1,h2⟩ | ⟨h1,h2⟩
 ·exact .of_left<|intBits_le_64 h1 h2
 ·exact .of_right<|intBits_le_64 h1 h2
theorem d9:cK X (binaryOp .Add) (pU λi j=> .int<|i+j):=rq λ_ _ _ _ _ _ _ q=>add_int q
theorem S1:cK X (binaryOp .Sub) (pU λi j=> .int<|i - j):=rq λ_ _ _ _ _ _ _ q=>sub_int q
theorem vM:cK X (binaryOp .Mult) (rI m5 λi j=> .int<|i * j):=vL λ_ _ _ _ _ _ _ hc q=>mul_int q hc.ok
theorem gM:cK X (binaryOp .FloorDiv) (rI rB λi j=> .int<|i / j):=vL λi j _ _ _ _ _ hc q=>by
 have h1:(0:Int) < j:=hc.1;have h2:j < 1073741824:=hc.2;exact floordiv_int (by omega) (by rw [Int.fdiv_eq_ediv_of_nonneg i<|by omega];exact q)<|.inl<|PyProof.noPylong_small<|by omega
theorem cT:cK X (binaryOp .Mod) (rI (λ_ j=>0 < j) λi j=> .int<|i % j):=vL λi j _ _ _ _ _ hc q=>by
 have h1:(0:Int) < j:=hc;exact mod_int' (by omega)<|by rw [Int.fmod_eq_emod_of_nonneg i<|by omega];exact q
theorem Jg:cK X (binaryOp .Pow) (rI yH λi j=> .int<|i ^ j.toNat):=vL λ_ _ _ _ _ _ _ hc q=>pow_int_small hc.1 hc.2.1 hc.2.2 q
def rC:V->V->Bool
 | .non,.non=>true | .non,.int _=>true | .int _,.non=>true | .non,.bl _=>true | .bl _,.non=>true | .non,.str _=>true | .str _,.non=>true
 | .int _,.int _=>true | .bl _,.bl _=>true | .str _,.str _=>true | .hV _,.hV _=>true
 | .int _,.str _=>true | .str _,.int _=>true | .bl _,.str _=>true | .str _,.bl _=>true
 | _,_=>false
def S6:R2:=λx y H Q=>rC x y=true/\Q (.bl<|decide (x=y)) H
def S7:R2:=λx y H Q=>rC x y=true/\Q (.bl (!decide (x=y))) H
theorem Jh{i j:Int}:decide (V.int i=V.int j)=(i == j):=by
 rw [Di];simp
theorem yI{i j:Bool}:decide (V.bl i=V.bl j)=(i == j):=by
 rw [Di];simp
theorem Ji{i j:Str}:decide (V.str i=V.str j)=(i == j):=by
 rw [Di];simp
theorem Jj{i j:Array UInt8}:decide (V.hV i=V.hV j)=(i.toList == j.toList):=by
 rw [Di];cases i;cases j;simp
theorem ci{pins:List (Addr×Obj)}{σ:St}{H:Hp}{s:Shared}{Q:VK}{k k':Bool}(I:Inv X pins σ H s)(q:Q (.bl k) H)(e:k=k'):EP X pins σ Q (.bool k') s:=by
 subst e;exact⟨.bl k,H,I,rfl,q⟩
theorem i0:cK X (compareOp .Eq) S6:=by
 intro pins s σ H x y v u Q I rx ry h;obtain⟨hs,q⟩:=h;cases x with
 | non=>
  cases rx;cases y with
  | non=>cases ry;exact PySem.EqNone.eq_none_none<|ci I q<|by simp
  | bl j=>cases ry;exact PySem.EqNone.eq_none_bool<|ci I q<|by simp
  | int j=>obtain⟨t',rfl⟩:=ry;exact PySem.EqNone.eq_none_int<|ci I q<|by simp
  | str j=>obtain⟨t',rfl⟩:=ry;exact PySem.EqNone.eq_none_str<|ci I q<|by simp
  | _=>exact absurd (show false=true from hs) Ar
 | bl i=>
  cases rx;cases y with
  | non=>cases ry;exact PySem.EqNone.eq_bool_none<|ci I q<|by simp
  | bl j=>cases ry;exact eq_bool<|ci I q yI
  | str j=>obtain⟨t',rfl⟩:=ry;exact PySem.EqMixed.eq_bool_str<|ci I q<|by simp
  | _=>exact absurd (show false=true from hs) Ar
 | int i=>
  obtain⟨t,rfl⟩:=rx;cases y with
  | non=>cases ry;exact PySem.EqNone.eq_int_none<|ci I q<|by simp
  | int j=>obtain⟨t',rfl⟩:=ry;exact eq_int<|ci I q Jh
  | str j=>obtain⟨t',rfl⟩:=ry;exact PySem.EqMixed.eq_int_str<|ci I q<|by simp
  | _=>exact absurd (show false=true from hs) Ar
 | str i=>
  obtain⟨t,rfl⟩:=rx;cases y with
  | non=>cases ry;exact PySem.EqNone.eq_str_none<|ci I q<|by simp
  | bl j=>cases ry;exact PySem.EqMixed.eq_str_bool<|ci I q<|by simp
  | int j=>obtain⟨t',rfl⟩:=ry;exact PySem.EqMixed.eq_str_int<|ci I q<|by simp
  | str j=>obtain⟨t',rfl⟩:=ry;exact eq_str<|ci I q Ji
  | _=>exact absurd (show false=true from hs) Ar
 | hV i=>
  obtain⟨t,rfl⟩:=rx;cases y with
  | hV j=>obtain⟨t',rfl⟩:=ry;exact PySem.W.eq_bytes<|ci I q Jj
  | _=>exact absurd (show false=true from hs) Ar
 | _=>cases y <;> exact absurd (show false=true from hs) Ar
theorem pV:cK X (compareOp .NotEq) S7:=by
 intro pins s σ H x y v u Q I rx ry h;obtain⟨hs,q⟩:=h;cases x with
 | non=>
  cases rx;cases y with
  | non=>cases ry;exact PySem.EqNone.ne_none_none<|ci I q<|by simp
  | bl j=>cases ry;exact PySem.EqNone.ne_none_bool<|ci I q<|by simp
  | int j=>obtain⟨t',rfl⟩:=ry;exact PySem.EqNone.ne_none_int<|ci I q<|by simp
  | str j=>obtain⟨t',rfl⟩:=ry;exact PySem.EqNone.ne_none_str<|ci I q<|by simp
  | _=>exact absurd (show false=true from hs) Ar
 | bl i=>
  cases rx;cases y with
  | non=>cases ry;exact PySem.EqNone.ne_bool_none<|ci I q<|by simp
  | bl j=>cases ry;exact ne_bool<|ci I q<|BX not yI
  | str j=>obtain⟨t',rfl⟩:=ry;exact PySem.EqMixed.ne_bool_str<|ci I q<|by simp
  | _=>exact absurd (show false=true from hs) Ar
 | int i=>
  obtain⟨t,rfl⟩:=rx;cases y with
  | non=>cases ry;exact PySem.EqNone.ne_int_none<|ci I q<|by simp
  | int j=>obtain⟨t',rfl⟩:=ry;exact ne_int<|ci I q<|BX not Jh
  | str j=>obtain⟨t',rfl⟩:=ry;exact PySem.EqMixed.ne_int_str<|ci I q<|by simp
  | _=>exact absurd (show false=true from hs) Ar
 | str i=>
  obtain⟨t,rfl⟩:=rx;cases y with
  | non=>cases ry;exact PySem.EqNone.ne_str_none<|ci I q<|by simp
  | bl j=>cases ry;exact PySem.EqMixed.ne_str_bool<|ci I q<|by simp
  | int j=>obtain⟨t',rfl⟩:=ry;exact PySem.EqMixed.ne_str_int<|ci I q<|by simp
  | str j=>obtain⟨t',rfl⟩:=ry;exact ne_str<|ci I q<|BX not Ji
  | _=>exact absurd (show false=true from hs) Ar
 | hV i=>
  obtain⟨t,rfl⟩:=rx;cases y with
  | hV j=>obtain⟨t',rfl⟩:=ry;exact PySem.W.ne_bytes<|ci I q<|BX not Jj
  | _=>exact absurd (show false=true from hs) Ar
 | _=>cases y <;> exact absurd (show false=true from hs) Ar
theorem yJ:cK X (compareOp .Lt) (pU λi j=> .bl<|decide (i < j)):=rA λ_ _ _ _ _ _ _ q=>lt_int q
theorem Jk:cK X (compareOp .Gt) (pU λi j=> .bl<|decide (j < i)):=rA λ_ _ _ _ _ _ _ q=>gt_int q
theorem S8:cK X (compareOp .In) (λx y H Q=>∃ i j,x = .str i/\y = .str j/\Q (.bl (!(Builtin.Str.occurrences j i 0 j.length 1).isEmpty)) H):=by
 intro pins s σ H x y v u Q I rx ry h;obtain⟨i,j,rfl,rfl,q⟩:=h;obtain⟨t,rfl⟩:=rx;obtain⟨t',rfl⟩:=ry;exact in_str<|ci I q rfl
theorem S9{op:CmpOp}{r:R2}(ho:cK X (compareOp op) r)(ha:PE X a ta)(hb:PE X b tb)(hm:behindInMarks op b=false):PE X (.Compare a [op] [b] pos) (vK r ta tb):=by
 intro pins s σ H Q I h;exact wpAny_Compare1 (m4 ha hb I h λv u s2 x y H2 I2 rx ry q=>ho pins s2 σ H2 x y v u Q I2 rx ry q) hm
def Ta(t:TE):TT:=λσ H Q=>t σ H λx H'=>∃ k,x = .bl k/\Q k H'
theorem Tb{op:CmpOp}{r:R2}(ho:cK X (compareOp op) r)(ha:PE X a ta)(hb:PE X b tb)(hm:behindInMarks op b=false):PT X (.Compare a [op] [b] pos) (Ta<|vK r ta tb):=by
 intro pins s σ H Q I h;refine wpAny_isTrue_Compare1 (aI (ha pins s σ H _ I h) λv s1 ⟨x,H1,I1,r1,q1⟩=>aI (hb pins s1 σ H1 _ I1 q1) λu s2 ⟨y,H2,I2,r2,q2⟩=>
  aI (ho pins s2 σ H2 x y v u _ I2 r1 r2 q2) λc s3 ⟨z,H3,I3,r3,k,e,q3⟩=>?_) hm
 subst e;cases r3;exact DY ⟨H3,I3,q3⟩
def m6(K:PySem.W.Frag)(x:V)(H:Hp)(k:Bool):Prop:=
 match x with
 | .non=>k=false
 | .bl b=>k=b
 | .int i=>k=(i != 0)
 | .str y=>y.length<=sizeLine/\k=((y.length:Int) != 0)
 | .hV y=>y.size<=sizeLine/\k=((y.size:Int) != 0)
 | .ref p=>(∃ xs,ai K H p xs/\k = !xs.isEmpty)\/(∃ xs,aJ K H p xs/\k = !xs.isEmpty)\/∃ kvs,H p=some (.dK kvs)/\k = !kvs.isEmpty
 | _=>False
theorem Tc{κ:Type}{kvs:List (κ×V)}{vs:List (κ×Value)}(r:KV kvs vs):(!vs.isEmpty) = !kvs.isEmpty:=by
 cases r <;> rfl
theorem Jl{xs:List V}{its:List Value}(r:au xs its):(!its.toArray.isEmpty) = !xs.isEmpty:=by
 cases r <;> simp
theorem pW:(sizeLine:Nat) < 2 ^ 63:=by rw [DQ];decide
theorem Td:yG X (λx H Q=>∃ k,m6 X.K x H k/\Q k H):=by
 intro pins s σ H x v Q I rx h;obtain⟨k,e,q⟩:=h;have hl:=pW;have hs:sizeLine=16777216:=DQ;cases x with
 | non=>
  cases rx;have e':k=false:=e;subst e';exact truthy_none ⟨H,I,q⟩
 | bl b=>
  cases rx;have e':k=b:=e;subst e';exact DY ⟨H,I,q⟩
 | int i=>
  obtain⟨t,rfl⟩:=rx;have e':k=(i != 0):=e;subst e';exact PySem.P.truthy_int ⟨H,I,q⟩
 | str y=>
  obtain⟨t,rfl⟩:=rx;obtain⟨hy,e'⟩:y.length<=sizeLine/\k=((y.length:Int) != 0):=e;subst e';exact PySem.P.truthy_str (by omega) ⟨H,I.tok _,q⟩
 | hV y=>
  obtain⟨t,rfl⟩:=rx;obtain⟨hy,e'⟩:y.size<=sizeLine/\k=((y.size:Int) != 0):=e;subst e';exact PySem.W.truthy_bytes (by omega) ⟨H,I.tok _,q⟩
 | ref p=>
  cases rx;have e':(∃ xs,ai X.K H p xs/\k = !xs.isEmpty)\/(∃ xs,aJ X.K H p xs/\k = !xs.isEmpty)\/∃ kvs,H p=some (.dK kvs)/\k = !kvs.isEmpty:=e
  rcases e' with ⟨xs,hx,e'⟩ | ⟨xs,hx,e'⟩ | ⟨kvs,hx,e'⟩
  ·subst e';obtain⟨its,r,pl,hz⟩:=I.list hx;have hlen:=r.length;exact wpAny_truthy_list pl.isList (by simp only [Av];omega) ⟨H,I.tok _,by rw [Jl r];exact q⟩
  ·subst e';obtain⟨its,r,pl,hz⟩:=I.tuple hx;have hlen:=r.length;exact truthy_tuple pl (by simp only [Av];omega) ⟨H,I.tok _,by rw [Jl r];exact q⟩
  ·subst e';obtain⟨hz,hS,vs,r,m⟩:kvs.length<=sizeLine/\(p == sysModules)=false/\∃ vs,KV kvs vs/\s.heap.DictOf (bO X.prog X.w) p vs:=I.aD p _ hx;have hlen:kvs.length=vs.length:=Paired.length r;exact wpAny_truthy_dict hS m (by omega) ⟨H,I.tok _,by rw [Tc r];exact q⟩
 | _=>exact(show False from e).elim
theorem Te(ha:PE X a ta)(he:∀ whole,isTrue a X.env whole=(do let v <- whole;standAt a.pos;holding [v] (truthy v))) :
  PT X a (λσ H Q=>ta σ H λx H'=>∃ k,m6 X.K x H' k/\Q k H'):=by
 intro pins s σ H Q I h;exact isTrue_plain (aI (ha pins s σ H _ I h) λv s1 ⟨x,H1,I1,r1,q1⟩=>Td pins s1 σ H1 x v Q I1 r1 q1)<|he _
theorem Jm:cK X (binaryOp .Add) (λx y H Q=>∃ i j,x = .str i/\y = .str j/\i.length+j.length<=sizeLine/\Q (.str<|i++j) H):=by
 intro pins s σ H x y v u Q I rx ry h;obtain⟨i,j,rfl,rfl,hz,q⟩:=h;obtain⟨t,rfl⟩:=rx;obtain⟨t',rfl⟩:=ry;exact add_str (λt' tk=>⟨.str<|i++j,H,I.tok _,⟨_,rfl⟩,q⟩) hz
theorem vals1{x:V}{us:List Value}(r:au [x] us):∃ u,us=[u]/\RelV x u:=by
 cases r with
 | cons r1 r2=>cases r2;exact⟨_,rfl,r1⟩
theorem vals2{x y:V}{us:List Value}(r:au [x,y] us):∃ u w',us=[u,w']/\RelV x u/\RelV y w':=by
 cases r with
 | cons r1 r2=>
  cases r2 with
  | cons r3 r4=>cases r4;exact⟨_,_,rfl,r1,r3⟩
theorem Jn(hc:X.calm=true):dE X (.builtin "max") (λxs H Q=>∃ i j,xs=[.int i,.int j]/\Q (.int (if j > i then j else i)) H):=by
 intro pins s σ H xs us Q I r h;obtain⟨i,j,rfl,q⟩:=h;obtain⟨u,w',rfl,⟨t,rfl⟩,⟨t',rfl⟩⟩:=vals2 r;refine max_two_ints (I.ok.hd hc) λh' tk k=>⟨_,H,I.kept k,?_,q⟩
 by_cases hj:j > i
 ·rw [BP hj,BP hj];exact⟨_,rfl⟩
 ·rw [BL hj,BL hj];exact⟨_,rfl⟩
end
structure m7(h:Heap)(x dx C:Addr)(mA:Str->Option Value):Prop where
 obj:h.get? x=some (PySem.W.instObj C dx)
 ns:h.Ns1 dx mA
 ne:dx≠x
theorem Tf{h:Heap}{dx:Addr}{mA:Str->Option Value}(n:h.Ns1 dx mA):∃ od,h.get? dx=some od/\∀ name,PySem.W.lookIn name od=some (mA name):=by
 obtain⟨o,es,ep,ho,hd,hk,_,hm⟩:=n;refine⟨o,ho,λname=>?_⟩;have e:=hm name;unfold nsFind findBy at e;rw [<- Array.find?_toList] at e;unfold PySem.W.lookIn;rw [hd]
 dsimp only
 split
 ·rename_i y q;rw [q] at e;exact BX some e
 ·rename_i q;rw [q] at e;have a:es.toList.any (·.refKey)=false:=by
   rw [List.any_eq_false];intro y hy;obtain⟨z,t,yK⟩:=hk y<|Array.mem_toList_iff.mp hy;simp [DictEntry.refKey,yK]
  have a':¬ es.toList.any (·.refKey)=true:=by rw [a];exact Ar
  rw [BL a'];exact BX some e
theorem m7.look{h:Heap}{x dx C:Addr}{mA:Str->Option Value}(I:m7 h x dx C mA):∃ od,PySem.W.InstAt h x (PySem.W.instObj C dx) C (some od)/\∀ name,PySem.W.lookIn name od=some (mA name):=
 let ⟨od,ho,hl⟩:=Tf I.ns
 ⟨od,⟨I.obj,rfl,rfl,ho⟩,hl⟩
section
variable{prog:Program}{w:World}{A:Around}{E:Value->Shared->Prop}{s:Shared}{K:PySem.W.Frag}{x dx C f:Addr}{mA:Str->Option Value}{name:Str}{v:Value}
end
theorem da.some_of{v:V}{o:Option Value}(r:da (some v) o):∃ u,o=some u/\RelV v u:=by
 cases o with
 | none=>exact(show False from r).elim
 | some u=>exact⟨u,rfl,r⟩
section
variable{P:Program}{w:World}{H H':Hp}{h h':Heap}{a C dx:Addr}{fs RE:List (Str×V)}
theorem Tg(aD:b5 P w H h)(e:H a=some (.ins C dx fs)):∃ mA,m7 h a dx C mA/\(∀ f,da (fs.lookup f)<|mA f)/\PySem.Within mA (fs.map (·.1))/\fs.length<=1000/\H dx=some (.own a):=by
 obtain⟨d,z,ne,ob,mA,n,r,q⟩:=(show ax P w H h a (.ins C dx fs) from aD a _ e);exact⟨mA,⟨ob,n,ne⟩,r,q,z,d⟩
end
structure yL(K:PySem.W.Frag)(C:Addr):Prop where
 pg:PySem.W.plainGet K C Str.empty=true
 hd:PySem.W.hasDictIn K C=true
 po:PySem.W.plainOver K C=true
 sa:PySem.W.findIn K (.ref C) "__setattr__" = some (some<|.builtin "object.__setattr__")
theorem yL.get{K:PySem.W.Frag}{C:Addr}(c:yL K C)(f:Str):PySem.W.plainGet K C f=true:=c.pg
section
variable{X:Cx}{pins:List (Addr×Obj)}{σ:St}{H:Hp}{s:Shared}{a C dx:Addr}{fs:List (Str×V)}{f:Str}{v:V}{A:Around}{E:Value->Shared->Prop}
end
section
variable{X:Cx}{o e value:Expr}{f:Str}{pos pos' yM:Pos}{ta tv:TE}
end
section
variable{X:Cx}{pins:List (Addr×Obj)}{σ:St}{H:Hp}{s:Shared}{A:Around}{E:Value->Shared->Prop}{Q:Value->Shared->Prop}{c:Value}{b:Bool}
inductive cB (K:PySem.W.Frag) (H:Hp):V->Value->Prop where
 | non:cB K H .non<|.type "NoneType"
 | bl (x:Bool):cB K H (.bl x)<|.type "bool"
 | int (i:Int):cB K H (.int i)<|.type "int"
 | str (x:Str):cB K H (.str x)<|.type "str"
 | pL (x:UInt64):cB K H (.pL x)<|.type "float"
 | lst {a:Addr} {xs:List V} (e:H a=some (.lst xs)):cB K H (.ref a)<|.type "list"
 | cq {a:Addr} {o:Obj} {xs:List V} (e:H a=some (.cq o<|.lst xs)):cB K H (.ref a)<|.type "list"
 | tup {a:Addr} {xs:List V} (e:H a=some (.tup xs)):cB K H (.ref a)<|.type "tuple"
 | dK {a:Addr} {kvs:List (Key×V)} (e:H a=some (.dK kvs)):cB K H (.ref a)<|.type "dict"
 | dT {a:Addr} {kvs:List (List Key×V)} (e:H a=some (.dT kvs)):cB K H (.ref a)<|.type "dict"
 | ins {a C dx:Addr} {fs:List (Str×V)} (e:H a=some (.ins C dx fs)) (cl:yL K C) (ha:PySem.W.findIn K (.ref C) "__class__" = some (some<|.builtin "object.__class__"))
   (hn:PySem.W.specialIn K (.builtin "object.__class__") "__get__" = some (some<|.builtin "getset_descriptor.__get__")) (rD:PySem.W.takesIn K (.builtin "object.__class__")=some true)
   (hm:PySem.W.mroIn K C (.type "object")=some true):cB K H (.ref a)<|.ref C
theorem Ti{x:V}{u t:Value}(I:Inv X pins σ H s)(rx:RelV x u)(ty:cB X.K H x t)(e:PySem.W.kitOne X.K t c=some b)(h:∀ tk,Q (.bool b) {s with toks:=tk}) :
  wpAny (model X.prog X.w) A (call (.builtin "isinstance") [u,c]) Q E s:=by
 cases ty with
 | non=>cases (show u=Value.none from rx);exact DW PySem.W.kitx_none I.fv True.intro e (λz=>nomatch z) h
 | bl y=>cases (show u=Value.bool y from rx);exact DW PySem.W.kitx_bool I.fv True.intro e (λz=>nomatch z) h
 | int i=>obtain⟨t,q⟩:=(show ∃ t,u=Value.int i t from rx);cases q;exact DW PySem.W.kitx_int I.fv True.intro e (λz=>nomatch z) h
 | str y=>obtain⟨t,q⟩:=(show ∃ t,u=Value.str y t from rx);cases q;exact DW PySem.W.kitx_str I.fv True.intro e (λz=>nomatch z) h
 | pL y=>obtain⟨t,q⟩:=(show ∃ t,u=Value.float y t from rx);cases q;exact DW PySem.W.kitx_float I.fv True.intro e (λz=>nomatch z) h
 | @lst a xs ea=>
  cases (show u=Value.ref a from rx);obtain⟨_,_,n,_,h1⟩:=(show ax X.prog X.w H s.heap a (.lst xs) from I.aD a _ ea);exact DW PySem.W.kitx_list I.fv ⟨_,h1,rfl⟩ e (λz=>nomatch z) h
 | @cq a ob xs ea=>
  cases (show u=Value.ref a from rx);obtain⟨_,_,_,n,_,h1⟩:=(show ax X.prog X.w H s.heap a (.cq ob<|.lst xs) from I.aD a _ ea);exact DW PySem.W.kitx_list I.fv ⟨_,h1,rfl⟩ e (λz=>nomatch z) h
 | @tup a xs ea=>
  cases (show u=Value.ref a from rx);obtain⟨_,_,_,p⟩:=(show ax X.prog X.w H s.heap a (.tup xs) from I.aD a _ ea);obtain⟨o,h1,h2,_⟩:=p;exact DW PySem.W.kitx_tuple I.fv ⟨o,h1,h2⟩ e (λz=>nomatch z) h
 | @dK a kvs ea=>
  cases (show u=Value.ref a from rx);obtain⟨_,_,vs,_,p⟩:=(show ax X.prog X.w H s.heap a (.dK kvs) from I.aD a _ ea);obtain⟨o,es,ep,h1,h2,_⟩:=p;exact DW PySem.W.kitx_dict I.fv ⟨o,h1,h2.1⟩ e (λz=>nomatch z) h
 | @dT a kvs ea=>
  cases (show u=Value.ref a from rx);obtain⟨_,_,xs,_,o,es,ep,h1,h2,_⟩:=(show ax X.prog X.w H s.heap a (.dT kvs) from I.aD a _ ea);exact DW PySem.W.kitx_dict I.fv ⟨o,h1,h2.1⟩ e (λz=>nomatch z) h
 | @ins a C dx fs ea cl ha hn rD hm=>
  cases (show u=Value.ref a from rx);obtain⟨mA,O,_⟩:=Tg I.aD ea;obtain⟨od,J,_⟩:=O.look;exact DW (PySem.W.kitx_own (cl.get _) cl.hd ha hn rD hm) I.fv J e (λz=>nomatch z) h
end
structure bw(k:Nat)(A:Around):Prop where
 hd:A.handled=none
 dp:A.depth+3 * k+5 < recursionLimit
 un:A.units+16 * k+200 < cLine
theorem bw.mono{j k:Nat}{A:Around}(r:bw k A)(h:j<=k):bw j A:=⟨r.hd,by have:=r.dp;omega,by have:=r.un;omega⟩
theorem bw.deeper{k:Nat}{A:Around}(r:bw (k+1) A)(env:Env):bw k (A.deeper env):=
 ⟨r.hd,by have:=r.dp;show A.depth+1+3 * k+5 < _;omega,by have:=r.un;show A.units+3+16 * k+200 < _;omega⟩
theorem bw.depth{k:Nat}{A:Around}(r:bw k A):A.depth < recursionLimit:=by have:=r.dp;omega
def yN:TA:=λ_ H Q=>Q [] H
def Jo(ta:TE)(tr:TA):TA:=λσ H Q=>ta σ H λx H1=>tr σ H1 λxs H2=>Q (x :: xs) H2
section
variable{X:Cx}{e:Expr}{es:List Expr}{te:TE}{t:TA}{pos:Pos}
theorem Tj:PA X [] yN:=λ_ _ _ _ H Q I h=>Calls.spliced_nil ⟨[],H,I,.nil,h⟩
theorem Tl(ha:PE X e te)(hr:PA X es t)(hs:starEach (e :: es) X.env=(false,eval e X.env) :: starEach es X.env:=by rfl):PA X (e :: es) (Jo te t):=by
 intro pos pins s σ H Q I h;rw [hs];show wpAny _ _ (spliced<|(false,eval e X.env) :: backTo pos (starEach es X.env)) _ _ s;refine Calls.spliced_cons<|aI (ha pins s σ H _ I h) λu s1 ⟨x,H1,I1,r1,q1⟩=>?_;exact aI (hr pos pins s1 σ H1 _ I1 q1) λus s2 ⟨xs,H2,I2,r2,q2⟩=>⟨x :: xs,H2,I2,.cons r1 r2,q2⟩
def yO(t:TA):TE:=λσ H Q=>t σ H λxs H1=>xs.length<=sizeLine/\∀ p,H1 p=none->Q (.ref p) (upd H1 p<|.tup xs)
def yP(t:TA):TE:=λσ H Q=>t σ H λxs H1=>xs.length<=sizeLine/\∀ p,H1 p=none->Q (.ref p) (upd H1 p<|.lst xs)
theorem To{x1}(h:PA X es t):PE X (.Tuple es x1 pos) (yO t):=by
 intro pins s σ H Q I hq;refine wpAny_Tuple_spliced (aI (h pos pins s σ H _ I hq) λus s1 ⟨xs,H1,I1,r,z,q⟩=>⟨by rw [<- r.length];exact z,?_⟩);have hf:H1 s1.heap.objs.size=none:=I1.aD.fresh<|Al _;refine⟨.ref s1.heap.objs.size,upd H1 s1.heap.objs.size<|.tup xs,I1.laid (t':=s1.toks) (λb u e=>Af _ e) (Al _) ?_,rfl,q _ hf⟩;exact⟨z,us,r,⟨_,Ap _ rfl,rfl,_,rfl⟩⟩
theorem Tq(h:PA X es t):PE X (.List es pos) (yP t):=by
 intro pins s σ H Q I hq;refine wpAny_List_spliced (aI (h pos pins s σ H _ I hq) λus s1 ⟨xs,H1,I1,r,z,q⟩=>⟨by rw [<- r.length];exact z,?_⟩);have hf:H1 s1.heap.objs.size=none:=I1.aD.fresh<|Al _;refine⟨.ref s1.heap.objs.size,upd H1 s1.heap.objs.size<|.lst xs,I1.laid (t':=s1.toks) (λb u e=>Af _ e) (Al _) ?_,rfl,q _ hf⟩;exact⟨z,us,0,r,Ap _ rfl⟩
end
abbrev Sp:=List V->Hp->VK->XK->Prop
abbrev fV:=List Env->Hp->Shared->XK->Value->Shared->Prop
structure j7(P:Program)(w:World)(K:PySem.W.Frag)(mg:Str->Option Value)(base:Heap)(A:Around)(outer:List Env)(s:Shared)(H:Hp):Prop where
 frames:A.frames=some outer
 mod:Mod K mg base
 bs:∀ b o,base.get? b=some o->s.heap.get? b=some o/\H b=none
 lH:base.objs.size<=s.heap.objs.size
 db:s.heap.FunFrames base outer
 pO:∀ b∈d6 outer,H b=none
 aD:b5 P w H s.heap
 bare:AllBare s.gens
def CE(outer:List Env)(P:Program)(w:World)(H:Hp)(s:Shared)(Q:VK)(u:Value)(s':Shared):Prop:=
 ∃ v H',s'.os=s.os/\AllBare s'.gens/\Un (d6 outer) [] H H' s.heap s'.heap/\b5 P w H' s'.heap/\RelV v u/\Q v H'
def CR(CX:fV)(outer:List Env)(P:Program)(w:World)(H:Hp)(s:Shared)(Q:VK)(E:XK)(r:Result)(s':Shared):Prop:=
 match r with
 | .ok (.ret u)=>CE outer P w H s Q u s'
 | .ok _=>False
 | .error e=>CX outer H s E e s'
structure aE(P:Program)(w:World)(K:PySem.W.Frag)(mg:Str->Option Value)(base:Heap)(CX:fV)(k:Nat)(f:Addr)(fd:FuncData)(ps:List Str)(sp:Sp):Prop where
 len:∀ vs H Q E,sp vs H Q E->vs.length=ps.length
 run:∀(A:Around) (outer:List Env) (s:Shared) (H:Hp) (args:Args) (us:List Value) (vs:List V) (Q:VK) (E:XK),bw k A->j7 P w K mg base A outer s H->BindsTo s fd args (ps.zip us)->au vs us->sp vs H Q E ->
  codeAny (model P w) A (.call (.ref f) args) (CR CX outer P w H s Q E) s
theorem aE.mono{P:Program}{w:World}{K:PySem.W.Frag}{mg:Str->Option Value}{base:Heap}{CX:fV}{j k:Nat}{f:Addr}{fd:FuncData}{ps:List Str}{sp:Sp}(F:aE P w K mg base CX j f fd ps sp)(h:j<=k) :
  aE P w K mg base CX k f fd ps sp:=⟨F.len,λA outer s H args us vs Q E hr=>F.run A outer s H args us vs Q E<|hr.mono h⟩
section
variable{X:Cx}{pins:List (Addr×Obj)}{σ:St}{H:Hp}{s s':Shared}
theorem Inv.yQ(I:Inv X pins σ H s):j7 X.prog X.w X.K X.mg X.base X.A X.stack s H:=
 ⟨I.ok.frames,I.ok.mod,I.bs,Cg I.ok.lH I.sz,I.stack,I.d8,I.aD,I.bare⟩
theorem Inv.after{Q:VK}{u:Value}(I:Inv X pins σ H s)(h:CE X.stack X.prog X.w H s Q u s'):EP X pins σ Q u s':=by
 obtain⟨v,H',os,bare,un,aD,r,q⟩:=h;obtain⟨hh,g,d,t,yR⟩:=s';obtain rfl:yR=s.os:=os;exact⟨v,H',I.call (h':=hh) (g':=g) (d':=d) (t':=t) (ch:=[]) un aD bare (λb z=>absurd z<|by simp),r,q⟩
end
def Jp(sp:Sp)(j8:List V)(E:XK)(t:TA):TE:=λσ H Q=>t σ H λvs H1=>sp (vs++j8) H1 Q E
def Binds(K:PySem.W.Frag)(fd:FuncData)(ps:List Str)(ds:List Value):Prop:=
 ∀(s:Shared) (us:List Value),K.In s.heap->(us++ds).length=ps.length->BindsTo s fd ⟨us,[]⟩ (ps.zip<|us++ds)
theorem Binds.all{K:PySem.W.Frag}{fd:FuncData}{ps:List Str}(h:∀ us:List Value,us.length=ps.length->bindArgs fd ⟨us,[]⟩=pure (ps.zip us)):Binds K fd ps []:=λs us _ hl=>by
 rw [Br] at hl ⊢;exact .of_eq<|h us hl
def m8(CX:fV)(X:Cx)(E:XK):Prop:=∀(pins:List<|Addr×Obj) (σ:St) (H:Hp) (s:Shared) (e:Value) (s':Shared),Inv X pins σ H s->CX X.stack H s E e s'->X.xe e s'
section
variable{X:Cx}{CX:fV}{k:Nat}{f C:Addr}{fd:FuncData}{ps:List Str}{sp:Sp}{j8:List V}{ds:List Value}{E:XK}{x m:Str}{p pos apos:Pos}{e o:Expr}{es:List Expr}{ta:TE}{t:TA}
theorem Tr{pins:List (Addr×Obj)}{σ:St}{H:Hp}{s:Shared}{Q:VK}{us:List Value}{vs:List V}(F:aE X.prog X.w X.K X.mg X.base CX k f fd ps sp)(hr:bw k X.A)(hb:Binds X.K fd ps ds)(hd:au j8 ds)(hx:m8 CX X E)
  (I:Inv X pins σ H s) (r:au vs us) (h:sp (vs++j8) H Q E):wpAny (model X.prog X.w) X.A (call (.ref f) us) (EP X pins σ Q) X.xe s:=by
 have r2:au (vs++j8) (us++ds):=r.append hd;have hl:(us++ds).length=ps.length:=by rw [<- r2.length];exact F.len _ _ _ _ h
 refine wpAny_call<|JF (F.run X.A X.stack s H ⟨us,[]⟩ (us++ds) (vs++j8) Q E hr I.yQ (hb s us I.fv hl) r2 h) λr s' hq=>?_;cases r with
 | error e=>exact hx pins σ H s e s' I hq
 | ok fl=>
  cases fl with
  | ret u=>exact I.after hq
  | next=>exact False.elim hq
  | brk=>exact False.elim hq
  | cont=>exact False.elim hq
theorem Ts(F:aE X.prog X.w X.K X.mg X.base CX k f fd ps sp)(hr:bw k X.A)(hg:Gl X x)(hm:X.mg x=some (.ref f))(hk:PySem.W.keepIn X.K (.ref f)=true)(hb:Binds X.K fd ps ds)(hd:au j8 ds)(hx:m8 CX X E)
  (ha:PA X (e :: es) t) (de:(x == ("__debug__" : Str))=false:=by decide) (he:starEach (e :: es) X.env=(false,eval e X.env) :: starEach es X.env:=by rfl) (i4:(backTo pos<|starEach es X.env).any (·.1)=false:=by rfl) :
  PE X (.Call (.Name x p) (e :: es) [] pos) (Jp sp j8 E t):=by
 intro pins s σ H Q I h;refine JN<|yv I hg hm ?_ de;refine PySem.W.callWith_K (h₀:=X.base) I.ok.mod.pN hk (aI (ha pos pins s σ H _ I h) λus s1 ⟨vs,H1,I1,r,q⟩=>⟨I1.fv,?_⟩) he i4;exact Tr F hr hb hd hx I1 r q
end
section
variable{X:Cx}{CX:fV}{k:Nat}{f C:Addr}{fd:FuncData}{ps ks:List Str}{sp:Sp}{E:XK}{x m:Str}{p pos apos Tv:Pos}{e o:Expr}{es:List Expr}{kws:List Keyword}{te ta:TE}{t tk:TA}{nm:Option Str}
variable{g:List Value->List Value->List Value}{gV:List V->List V->List V}
end
structure al(N P:List Str)(sc:Scope):Prop where
 kind:sc.kind = .function
 co:sc.isCoroutine=false
 gen:sc.isGenerator=false
 nd:N.Nodup
 pre:N.take P.length=P
 par:∀ x∈P,sc.names.lookup x=some .local\/sc.names.lookup x=some .cell
 m9:∀ y∈sc.names,y.2 ≠ .free
theorem Jq{kindOf:Str->Option NameKind}{x:Str}:∀{binds:List (Str×Value)} {m:Str->Option Value},(∀ v,(x,v)∉binds)->bindL kindOf binds m x=m x
 | [],_,_=>rfl
 | (n,v) :: r,m,h=>by
  unfold bindL;rw [Jq λw hw=>h w<|Ah _ hw]
  split
  ·have:x≠n:=by rintro rfl;exact h v Ae
   simp [this]
  ·rfl
theorem Jr{kindOf:Str->Option NameKind}{x:Str}:∀{binds:List (Str×Value)} {m:Str->Option Value},(∀ v,(x,v)∉binds)->bindC kindOf binds m x=m x
 | [],_,_=>rfl
 | (n,v) :: r,m,h=>by
  unfold bindC;rw [Jr λw hw=>h w<|Ah _ hw]
  split
  ·rfl
  ·have:x≠n:=by rintro rfl;exact h v Ae
   simp [this]
theorem Js{kindOf:Str->Option NameKind}{x:Str}{v:Value}:∀{P:List Str} {vs:List Value} {i:Nat} {m:Str->Option Value},P.Nodup->P[i]?=some x->vs[i]?=some v->kindOf x=some .local ->
  bindL kindOf (P.zip vs) m x=some v
 | [],_,_,_,_,h,_,_=>by simp at h
 | _ :: _,[],_,_,_,_,h,_=>by simp at h
 | p :: P,w :: vs,0,m,nd,h1,h2,hk=>by
  simp at h1 h2;subst h1;subst h2;show bindL kindOf ((p,w) :: P.zip vs) m p=_;unfold bindL;rw [Jq λv hv=>(Bq.mp nd).1 (RL hv).1,BP hk];simp
 | p :: P,w :: vs,i+1,m,nd,h1,h2,hk=>by
  show bindL kindOf ((p,w) :: P.zip vs) m x=_;unfold bindL;exact Js (i:=i) (Bq.mp nd).2 (by simpa using h1) (by simpa using h2) hk
theorem Jt{kindOf:Str->Option NameKind}{x:Str}{v:Value}:∀{P:List Str} {vs:List Value} {i:Nat} {m:Str->Option Value},P.Nodup->P[i]?=some x->vs[i]?=some v->kindOf x≠some .local ->
  bindC kindOf (P.zip vs) m x=some v
 | [],_,_,_,_,h,_,_=>by simp at h
 | _ :: _,[],_,_,_,_,h,_=>by simp at h
 | p :: P,w :: vs,0,m,nd,h1,h2,hk=>by
  simp at h1 h2;subst h1;subst h2;show bindC kindOf ((p,w) :: P.zip vs) m p=_;unfold bindC;rw [Jr λv hv=>(Bq.mp nd).1 (RL hv).1,BL hk];simp
 | p :: P,w :: vs,i+1,m,nd,h1,h2,hk=>by
  show bindC kindOf ((p,w) :: P.zip vs) m x=_;unfold bindC;exact Jt (i:=i) (Bq.mp nd).2 (by simpa using h1) (by simpa using h2) hk
def start(N:List Str)(vs:List V):St:=vs.map some++List.replicate (N.length - vs.length) none
def dF(CX:fV)(P:Program)(w:World)(K:PySem.W.Frag)(mg:Str->Option Value)(base:Heap)(N:List Str)(qual:Str)(scope:Scope)(f:Addr)(cd:Value)(A:Around)(outer:List Env)(s:Shared)(H:Hp)(E:XK):Cx where
 prog:=P
 w:=w
 K:=K
 mg:=mg
 base:=base
 A:=A.deeper<|envOfC qual scope s.heap.objs.size f cd
 N:=N
 s₀:=s
 H₀:=H
 env:=envOfC qual scope s.heap.objs.size f cd
 outer:=outer
 stack:=envOfC qual scope s.heap.objs.size f cd :: outer
 ex:=[]
 calm:=true
 fn:=λ_=>true
 pn:=[]
 xe:=λe s'=>wpAny (model P w) (A.deeper<|envOfC qual scope s.heap.objs.size f cd) (leaving (envOfC qual scope s.heap.objs.size f cd) e) (λ_ rE=>CX outer H s E e rE) (λe' rE=>CX outer H s E e' rE) s'
theorem Ju{sc:Scope}{n:Nat}{x:Str}(h:sc.names.lookup x=some .cell):∃ c,(cellsFrom n sc.names []).lookup x=some c:=by
 have q:=JB sc.names n []<|.inl h;exact Ep.mp q
theorem Tx{CX:fV}{P:Program}{w:World}{K:PySem.W.Frag}{mg:Str->Option Value}{base:Heap}{N ps:List Str}{qual:Str}{scope:Scope}{f:Addr}{cd:Value}{A:Around}{outer:List Env}{s s1:Shared}{H:Hp}{E:XK}{us:List Value}{vs:List V}
  (S:al N ps scope) (hd:A.handled=none) (e0:j7 P w K mg base A outer s H) (hl:vs.length=ps.length) (r:au vs us)
  (x:InCallC s s.heap.objs.size (bindL (envOfC qual scope s.heap.objs.size f cd).kindOf (ps.zip us) λ_=>none) (cellsFrom (s.heap.objs.size+1) scope.names []) (bindC (envOfC qual scope s.heap.objs.size f cd).kindOf (ps.zip us) λ_=>none) s1) :
  Inv (dF CX P w K mg base N qual scope f cd A outer s H E) [] (start N vs) H s1:=by
 have i4:ps.length<=N.length:=by have:=BX List.length S.pre;rw [Bo] at this;omega
 obtain⟨h1,tk,rfl,hk⟩:=x.done;have rF:∀ b:Addr,b∉(dF CX P w K mg base N qual scope f cd A outer s H E).ex:=λb z=>absurd (show b∈([]:List Addr) from z) (by simp);refine⟨⟨e0.mod,S.kind,rfl,rfl,Al _,λy z c h1 h2=>?_,λy hy=>?_,λy c _ h=>?_,λ_=>hd,Around.frames_deeper e0.frames,.inr ⟨rfl,rfl⟩,λb z=>absurd z<|rF b,e0.bs,e0.lH,λb _ _=>rF b,λb z=>absurd z<|rF b,e0.db,e0.pO⟩,
  rfl,e0.bare,Un.kept hk,⟨_,x.toInCall.ns,λi y v h1 h2 h3=>?_⟩,λy c h=>⟨_,x.cell y c h⟩,e0.aD.fresh<|Al _,λy c h=>?_,λp hp=>absurd (show p∈([]:List<|Addr×Obj) from hp) (by simp),e0.aD.kept hk,?_⟩
 ·exact name_of_addr x.apart (CW h1)<|CW h2
 ·have hy:scope.names.lookup y=some .cell\/scope.names.lookup y=some .free:=hy
  rcases hy with hy | hy
  ·exact Ju hy
  ·exact absurd rfl (S.m9 _<|CW hy)
 ·exact Ct<|x.above y c<|CW h
 ·have hi:i < vs.length:=by
   unfold start at h2
   by_cases hi:i < vs.length
   ·exact hi
   ·rw [Ba<|by simpa using hi] at h2;rw [Ec] at h2
    split at h2 <;> cases h2
  have ha:vs[i]?=some v:=by
   unfold start at h2;rw [Aw (by simpa using hi),Ad] at h2;cases e:vs[i]? with
   | none=>rw [e] at h2;cases h2
   | some a=>rw [e] at h2;cases h2;rfl
  obtain⟨u,hu,rv⟩:=r.get ha;have hp:ps[i]?=some y:=by
   rw [<- S.pre,Dy<|by omega];exact h1
  have Jv:ps.Nodup:=by rw [<- S.pre];exact S.nd.sublist<|List.take_sublist _ _
  refine⟨u,rv,?_⟩
  rcases S.par y (An hp) with k | k
  ·exact .inl ⟨k,Js Jv hp hu k⟩
  ·obtain⟨c,e⟩:=Ju (n:=s.heap.objs.size+1) k;refine .inr ⟨.inl k,c,e,?_⟩;have q:=x.cell y c e;rw [Jt Jv hp hu<|by show scope.names.lookup y≠_;rw [k];decide] at q;exact q
 ·exact e0.aD.fresh<|Ct<|x.above y c<|CW h
 ·unfold start;show _=N.length;rw [Ag,Aa,Ci];omega
theorem Jw{CX:fV}{P:Program}{w:World}{K:PySem.W.Frag}{mg:Str->Option Value}{base:Heap}{k:Nat}{f:Addr}{name qual:Str}{params:Arguments}{body:List Stmt}{scope:Scope}{dV kV doc pm bC ct oc:Value}{an od:Option Addr}
  {jK:Array (Option Value)} {N ps:List Str} {sp:Sp} (lk:K.lookup f=some ⟨oc,od,.func<|PySem.W.fnOf name qual params body scope dV kV doc pm an bC ct,jK⟩) (gK:PySem.W.codeIn K bC qual=true) (S:al N ps scope)
  (len:∀ vs H Q E,sp vs H Q E->vs.length=ps.length)
  (cC : ∀ (A : Around) (outer : List Env) (s : Shared) (H : Hp) (vs : List V) (Q : VK) (E : XK), bw k (A.deeper<|envOfC qual scope s.heap.objs.size f bC) → sp vs H Q E →
   ∃ t,ia (dF CX P w K mg base N qual scope f bC A outer s H E) body t/\t {nx:=λ_ H'=>Q .non H',rt:=Q} (start N vs) H) :
  aE P w K mg base CX (k+1) f (PySem.W.fnOf name qual params body scope dV kV doc pm an bC ct) ps sp:=by
 refine⟨len,λA outer s H args us vs Q E hr e0 hb r dw=>?_⟩;have hl:=len _ _ _ _ dw;have KX:K.In s.heap:=e0.mod.pN.keeps λb o e=>(e0.bs b o e).1;have lim:s.heap.NoLimit:=e0.mod.nolimit.keeps λb o e=>(e0.bs b o e).1;have rG:∀ y∈ps.zip us,scope.names.lookup y.1=some .local\/(scope.names.lookup y.1=some .cell/\((cellsFrom (s.heap.objs.size+1) scope.names []).lookup y.1).isSome=true):=λ⟨n,v⟩ hy=>by
  rcases S.par n (RL hy).1 with q | q
  ·exact .inl q
  ·exact .inr ⟨q,JB _ _ _<|.inl q⟩
 refine codeAny_call_function hr.depth (KX _ _ lk) rfl S.co S.gen rfl (PySem.W.codeRec_of KX gK) (hb _ _ _ _ ?_);refine wpAny_newFunctionEnv_cells S.kind rG λenv he s1 x=>?_;subst he;refine⟨lim.keeps x.toInCall.keep,codeAny_func ?_⟩;obtain⟨t,ht,hq⟩:=cC A outer s H vs Q E (hr.deeper _) dw;have I:Inv (dF CX P w K mg base N qual scope f bC A outer s H E) [] (start N vs) H s1:=Tx S hr.hd e0 hl r x;refine CT (ht [] s1 (start N vs) H _ I hq) (λfl s' hs=>?_) λe s' hs=>hs;have fin:∀{σ':St} {H':Hp} {v:V} {u:Value},Inv (dF CX P w K mg base N qual scope f bC A outer s H E) [] σ' H' s'->RelV v u->Q v H'->CE outer P w H s Q u s':=
  λ{σ' H' v u} J rv q=>⟨v,H',J.os,J.bare,J.base,J.aD,rv,q⟩
 cases fl with
 | ret u=>
  obtain⟨v,σ',H',J,rv,q⟩:=hs;exact fin J rv q
 | next=>
  obtain⟨σ',H',J,q⟩:=hs;exact fin (v:=V.non) (u:=Value.none) J rfl q
 | brk=>
  obtain⟨_,_,_,q⟩:=hs;exact False.elim q
 | cont=>
  obtain⟨_,_,_,q⟩:=hs;exact False.elim q
section
variable{X:Cx}{x:Str}{p pos:Pos}{e:Expr}{es:List Expr}{t:TA}{id T:String}{r:List V->Hp->VK->Prop}
def vN(r:List V->Hp->VK->Prop)(t:TA):TE:=λσ H Q=>t σ H λvs H1=>r vs H1 Q
theorem Tz(hc:dE X (.builtin id) r)(hg:Gl X x)(hm:X.mg x=none)(hv:bootBuiltins x=some (.builtin id))(ha:PA X (e :: es) t)(hn:x ≠ "__name__":=by decide)(de:(x == ("__debug__" : Str))=false:=by decide)
  (he:starEach (e :: es) X.env=(false,eval e X.env) :: starEach es X.env:=by rfl) (i4:(backTo pos<|starEach es X.env).any (·.1)=false:=by rfl):PE X (.Call (.Name x p) (e :: es) [] pos) (vN r t):=by
 intro pins s σ H Q I h;refine JN<|lK I hg hm hv ?_ hn de;exact PyProof.Rows.callWith_builtin1 (aI (ha pos pins s σ H _ I h) λus s1 ⟨vs,H1,I1,r1,q1⟩=>hc pins s1 σ H1 vs us Q I1 r1 q1) he i4
theorem TB(hc:dE X (.type T) r)(hg:Gl X x)(hm:X.mg x=none)(hv:bootBuiltins x=some (.type T))(ha:PA X (e :: es) t)(hn:x ≠ "__name__":=by decide)(de:(x == ("__debug__" : Str))=false:=by decide)
  (he:starEach (e :: es) X.env=(false,eval e X.env) :: starEach es X.env:=by rfl) (i4:(backTo pos<|starEach es X.env).any (·.1)=false:=by rfl):PE X (.Call (.Name x p) (e :: es) [] pos) (vN r t):=by
 intro pins s σ H Q I h;refine JN<|lK I hg hm hv ?_ hn de;exact GQ (aI (ha pos pins s σ H _ I h) λus s1 ⟨vs,H1,I1,r1,q1⟩=>hc pins s1 σ H1 vs us Q I1 r1 q1) he i4
end
end L2
namespace HT
open PySem PyProof.Rows
section
open PySem.SeqAt
open PySem.AutoSeq1 (wpAny_loadPart')
open PySem.MeetsSeq PySem.MeetsSeq2 PySem.MeetsSeq3
end
section
variable{prog:Program}{w:World}{A:Around}{E:Value->Shared->Prop}{s:Shared}
def fw(n d:Nat):Option Int->Nat
 | none=>d
 | some v=>if v < 0 then(v+(n:Int)).toNat else min v.toNat n
theorem fz(n d:Nat):fw n d none=d:=rfl
theorem gN(n d k:Nat):fw n d (some (k:Int))=min k n:=by
 show(if(k:Int) < 0 then((k:Int)+(n:Int)).toNat else min (k:Int).toNat n)=min k n;rw [BL (by omega),Bm]
end
end HT
namespace L2
open PySem PySem.Spec PyProof.Rows
abbrev TO:=St->Hp->(Option Int->Hp->Prop)->Prop
def PO(X:Cx)(e:Option Expr)(t:TO):Prop:=
 ∀(pins:List<|Addr×Obj) (s:Shared) (σ:St) (H:Hp) (Q:Option Int->Hp->Prop),Inv X pins σ H s->t σ H Q ->
  wpAny (model X.prog X.w) X.A (evalPart e X.env) (λu s'=>∃ o H',Inv X pins σ H' s'/\IsPart u o/\Q o H') X.xe s
def TC:TO:=λ_ H Q=>Q none H
def TD(t:TE):TO:=λσ H Q=>t σ H λx H1=>∃ i,x = .int i/\Q (some i) H1
section
variable{X:Cx}{e:Expr}{te:TE}{lo hi:Option Expr}{tl th:TO}{pos p2:Pos}
theorem TH:PO X none TC:=by
 intro pins s σ H Q I h;rw [evalPart_none];exact BK ⟨none,H,I,.none,h⟩
theorem TK(h:PE X e te):PO X (some e) (TD te):=by
 intro pins s σ H Q I hw;rw [evalPart_some];refine aI (h pins s σ H _ I hw) λu s1 ⟨x,H1,I1,r1,q1⟩=>?_;obtain⟨i,rfl,q⟩:=q1;obtain⟨t,rfl⟩:=r1;exact⟨some i,H1,I1,.int i t,q⟩
def vO(X:Cx)(r:V->Option Int->Option Int->Hp->VK->Prop):Prop:=
 ∀(pins:List<|Addr×Obj) (s:Shared) (σ:St) (H:Hp) (x:V) (v vl vu:Value) (lo hi:Option Int) (sl:Addr) (Q:VK),Inv X pins σ H s->RelV x v->s.heap.IsSliceOf sl vl vu .none->IsPart vl lo->IsPart vu hi->r x lo hi H Q ->
  ∃ T id,typeLookup (.type T) "__getitem__" = pure (some<|.builtin id)/\s.TypeIs v T/\wpAny (model X.prog X.w) X.A (getItem v<|.ref sl) (EP X pins σ Q) X.xe s
def TL(r:V->Option Int->Option Int->Hp->VK->Prop)(te:TE)(tl th:TO):TE:=λσ H Q=>te σ H λx H1=>tl σ H1 λl H2=>th σ H2 λu H3=>r x l u H3 Q
theorem TR{r:V->Option Int->Option Int->Hp->VK->Prop}(hr:vO X r)(he:PE X e te)(hl:PO X lo tl)(hu:PO X hi th):PE X (.Subscript e (.Slice lo hi none p2) pos) (TL r te tl th):=by
 intro pins s σ H Q I h;refine Subscript_<|aI (he pins s σ H _ I h) λv s1 ⟨x,H1,I1,r1,q1⟩=>?_;refine wpAny_Slice<|aI (hl pins s1 σ H1 _ I1 q1) λvl s2 ⟨l,H2,I2,pl,q2⟩=>aI (hu pins s2 σ H2 _ I2 q2) λvu s3 ⟨u,H3,I3,pu,q3⟩=>?_;rw [evalPart_none];refine BK ?_;have I4:Inv X pins σ H3 {s3 with heap:=s3.heap.push {cls:= .type "slice",data:= .fields #[vl,vu,.none]}}:=I3.kept (t':=s3.toks) λb ob q=>Af _ q;obtain⟨T,id,hT,ht,hg⟩:=hr pins {s3 with heap:=s3.heap.push {cls:= .type "slice",data:= .fields #[vl,vu,.none]}} σ H3 x v vl vu l u s3.heap.objs.size Q I4 r1 (Heap.IsSliceOf.new ..) pl pu q3;show wpAny (model X.prog X.w) X.A (subscriptTail e (.Slice lo hi none p2) v<|.ref s3.heap.objs.size) (EP X pins σ Q) X.xe {s3 with heap:=s3.heap.push {cls:= .type "slice",data:= .fields #[vl,vu,.none]}};exact tail_any (ops:=[.ref s3.heap.objs.size,v]) ht hT hg<|by with_unfolding_all rfl
def fA(xs:List V)(lo hi:Option Int):List V:=(xs.drop<|HT.fw xs.length 0 lo).take<|HT.fw xs.length xs.length hi - HT.fw xs.length 0 lo
theorem TU(xs:List V)(lo hi:Option Int):(fA xs lo hi).length<=xs.length:=by
 unfold fA;rw [Bo,Dj];omega
end
def pX(n:Nat)(i:Int):Option Nat:=if 0<=i then(if i < n then some i.toNat else none) else if -(n:Int)<=i then some (i+n).toNat else none
def dG{α:Type}(xs:List α)(i:Int):Option α:=(pX xs.length i).bind λj=>xs[j]?
theorem T1{n:Nat}{i:Int}{j:Nat}(h:pX n i=some j):seqIndex? i n=some j/\j < n/\-(n:Int)<=i/\i < n:=by
 unfold pX at h
 by_cases h0:0<=i
 ·rw [BP h0] at h
  by_cases h1:i < n
  ·rw [BP h1] at h;have e:i.toNat=j:=Option.some.inj h;exact⟨by rw [seqIndex_of h0 h1,e],by omega,by omega,h1⟩
  ·rw [BL h1] at h;cases h
 ·rw [BL h0] at h
  by_cases h1:-(n:Int)<=i
  ·rw [BP h1] at h;have e:(i+n).toNat=j:=Option.some.inj h;exact⟨by rw [seqIndex_neg (by omega) h1,e],by omega,h1,by omega⟩
  ·rw [BL h1] at h;cases h
theorem yS{α:Type}{xs:List α}{i:Int}{v:α}(h:dG xs i=some v):∃ j,seqIndex? i xs.length=some j/\xs[j]?=some v/\j < xs.length/\-(xs.length:Int)<=i/\i < xs.length:=by
 unfold dG at h;cases e:pX xs.length i with
 | none=>rw [e] at h;cases h
 | some j=>
  rw [e] at h;obtain⟨h1,h2,h3,h4⟩:=T1 e;exact⟨j,h1,h,h2,h3,h4⟩
theorem i5{α:Type}{xs:List α}{j:Nat}{v:α}(h:xs[j]?=some v):dG xs (j:Int)=some v:=by
 have hj:j < xs.length:=(Ac.mp h).1;have e:pX xs.length (j:Int)=some j:=by
  unfold pX;rw [BP (by omega),BP<|by omega];simp
 unfold dG;rw [e];exact h
def Jx(b:Expr):Prop:=∀ o i,subscripted b false o i=operate [o,i] (getItem o i)
def rH(X:Cx)(r:R2):Prop:=
 ∀(value slice:Expr) (pins:List<|Addr×Obj) (s:Shared) (σ:St) (H:Hp) (x y:V) (v u:Value) (Q:VK),Inv X pins σ H s->RelV x v->RelV y u->r x y H Q ->
  subscripted slice false v u=operate [v,u] (getItem v u)->wpAny (model X.prog X.w) X.A (subscriptTail value slice v u) (EP X pins σ Q) X.xe s
def rJ(X:Cx)(id:String)(r:V->List V->Hp->VK->Prop):Prop:=
 ∀(pins:List<|Addr×Obj) (s:Shared) (σ:St) (H:Hp) (x:V) (xs:List V) (v:Value) (us:List Value) (Q:VK),Inv X pins σ H s->RelV x v->au xs us->r x xs H Q ->
  wpAny (model X.prog X.w) X.A (call (.builtin id)<|v :: us) (EP X pins σ Q) X.xe s
section
variable{X:Cx}{a b:Expr}{ta tb:TE}{pos:Pos}
theorem T2{r:R2}(hr:rH X r)(ha:PE X a ta)(hb:PE X b tb)(hs:Jx b):PE X (.Subscript a b pos) (vK r ta tb):=by
 intro pins s σ H Q I h;exact Subscript_<|m4 ha hb I h λv u s2 x y H2 I2 rx ry q=>hr a b pins s2 σ H2 x y v u Q I2 rx ry q<|hs _ _
def yT(K:PySem.W.Frag):R2:=λx y H Q=>∃ p xs i v,x = .ref p/\y = .int i/\ai K H p xs/\dG xs i=some v/\Q v H
def yU(K:PySem.W.Frag):R2:=λx y H Q=>∃ p xs i v,x = .ref p/\y = .int i/\aJ K H p xs/\dG xs i=some v/\Q v H
def yV:R2:=λx y H Q=>∃ z i c,x = .str z/\y = .int i/\z.length<=sizeLine/\dG z.cps.toList i=some c/\Q (.str ⟨#[c]⟩) H
theorem cf:rH X (yT X.K):=by
 intro value slice pins s σ H x y v u Q I rx ry h hs;obtain⟨p,xs,i,z,rfl,rfl,hq,he,q⟩:=h;cases rx;obtain⟨t,rfl⟩:=ry;obtain⟨its,r,pl,hz⟩:=I.list hq;obtain⟨j,h1,h2,h3,h4,h5⟩:=yS he;obtain⟨w,ew,e9⟩:=r.get h2;have hl:=r.length;have hn:=pW;have fin:EP X pins σ Q w s:=⟨z,H,I,e9,q⟩
 by_cases h0:0<=i
 ·have hj:i.toNat=j:=by
   rw [seqIndex_of h0 h5] at h1;exact Option.some.inj h1
  exact item_listR pl.isList h0 (by omega) (by rw [hj];simpa using ew) fin hs
 ·have hj:(i+(its.toArray.size:Int)).toNat=j:=by
   rw [seqIndex_neg (by omega) h4] at h1;rw [Av,<- hl];exact Option.some.inj h1
  exact subscriptTail_builtinR (x:=w) pl.isList.typeIs slot_list_getitem.lookup
   (wpAny_getItem_list_neg (Q:=λr s'=>r=w/\EP X pins σ Q r s') pl.isList (by omega) (by rw [Av] <;> omega) (by omega) (by rw [hj];simpa using ew) ⟨rfl,fin⟩) hs
theorem bW:rH X (yU X.K):=by
 intro value slice pins s σ H x y v u Q I rx ry h hs;obtain⟨p,xs,i,z,rfl,rfl,hq,he,q⟩:=h;cases rx;obtain⟨t,rfl⟩:=ry;obtain⟨its,r,pl,hz⟩:=I.tuple hq;obtain⟨j,h1,h2,h3,h4,h5⟩:=yS he;obtain⟨w,ew,e9⟩:=r.get h2;have hl:=r.length;have hn:=pW;have fin:EP X pins σ Q w s:=⟨z,H,I,e9,q⟩;exact subscriptTail_builtinR (x:=w) pl.typeIs slot_tuple_getitem.lookup
  (getItem_tuple (j:=j) (Q:=λr s'=>r=w/\EP X pins σ Q r s') pl (by omega) (by omega) (by rw [Av,<- hl];exact h1) (by simpa using ew) ⟨rfl,fin⟩) hs
theorem Jy:rH X yV:=by
 intro value slice pins s σ H x y v u Q I rx ry h hs;obtain⟨z,i,c,rfl,rfl,hz,he,q⟩:=h;obtain⟨t,rfl⟩:=rx;obtain⟨t',rfl⟩:=ry;obtain⟨j,h1,h2,h3,h4,h5⟩:=yS he;have hl:z.cps.toList.length=z.length:=by simp [Str.length]
 rw [hl] at h1 h4 h5;have hn:=pW;exact tail_any (typeIs_str s z t) slot_str_getitem.lookup (getItem_str (c:=c) (by
  have e1:decide (i < -(2 ^ 63:Int))=false:=BR (by omega);have e2:decide (i>=2 ^ 63)=false:=BR (by omega);rw [e1,e2,Bool.or_false]) (by rw [h1];simpa using h2) ⟨.str ⟨#[c]⟩,H,I.tok _,⟨_,rfl⟩,q⟩) hs
theorem T4(lo hi:Option Int)(n:Nat):(sliceBounds lo hi none n).1=((HT.fw n 0 lo:Nat):Int)/\(sliceBounds lo hi none n).2.1=((HT.fw n n hi:Nat):Int)/\(sliceBounds lo hi none n).2.2=1:=by
 refine⟨?_,?_,rfl⟩
 ·cases lo with
  | none=>simp [sliceBounds,HT.fw]
  | some i=>
   simp only [sliceBounds,HT.fw,Option.getD_none,show(1:Int) > 0 by decide,DK]
   by_cases h:i < 0
   ·simp only [h,DK] <;> omega
   ·simp only [h,CN] <;> omega
 ·cases hi with
  | none=>simp [sliceBounds,HT.fw]
  | some i=>
   simp only [sliceBounds,HT.fw,Option.getD_none,show(1:Int) > 0 by decide,DK]
   by_cases h:i < 0
   ·simp only [h,DK] <;> omega
   ·simp only [h,CN] <;> omega
theorem T5(its:List Value)(lo hi:Option Int):slicePick its.toArray lo hi none=((its.drop<|HT.fw its.length 0 lo).take<|HT.fw its.length its.length hi - HT.fw its.length 0 lo).toArray:=by
 obtain⟨h1,h2,h3⟩:=T4 lo hi its.toArray.size;unfold slicePick;rw [h1,h2,h3];simp only [sliceRange_one,pick_run,Av] <;> rfl
def yW(K:PySem.W.Frag):V->Option Int->Option Int->Hp->VK->Prop:=λx lo hi H Q=>∃ a xs,x = .ref a/\ai K H a xs/\∀ p,H p=none->Q (.ref p) (upd H p<|.lst<|fA xs lo hi)
theorem Jz:vO X (yW X.K):=by
 intro pins s σ H x v vl vu lo hi sl Q I rx hs pl pu h;obtain⟨a,xs,rfl,hx,q⟩:=h;cases rx;obtain⟨its,r,ht,hz⟩:=I.list hx;have hlen:=r.length;refine⟨"list",_,slot_list_getitem.lookup,ht.isList.typeIs,?_⟩;refine wpAny_getItem_list_slice ht.isList hs pl pu .none (by simp) ?_ (by rw [Av] <;> omega);rw [T5,<- hlen];refine⟨.ref s.heap.objs.size,_,I.laid (t':=s.toks) (o:= .lst<|fA xs lo hi) (λb ob q=>Af _ q) (Al _) ?_,rfl,q _<|I.aD.fresh<|Al _⟩;exact⟨Cg (TU xs lo hi) hz,_,0,(r.drop<|HT.fw xs.length 0 lo).take<|HT.fw xs.length xs.length hi - HT.fw xs.length 0 lo,Ap _ rfl⟩
def i6:V->Bool
 | .non=>true
 | .bl _=>true
 | .int _=>true
 | .str _=>true
 | _=>false
def cj:V->V->Bool
 | .non,.non=>true
 | .bl a,.bl b=>a == b
 | .bl a,.int b=>(if a then 1 else 0) == b
 | .int a,.bl b=>a == (if b then 1 else 0)
 | .int a,.int b=>a == b
 | .str a,.str b=>a == b
 | _,_=>false
theorem JA{A:Around}{s:Shared}{y x:V}{u v:Value}(ry:RelV y u)(rx:RelV x v)(fy:i6 y=true)(fx:i6 x=true):SeqAt.EqAt A s u v (cj y x):=by
 cases y with
 | non=>
  cases ry;cases x with
  | non=>cases rx;exact SeqAt.EqAt.same _
  | bl b=>cases rx;exact SeqAt.EqAt.none_bool b
  | int b=>obtain⟨t,rfl⟩:=rx;exact SeqAt.EqAt.none_int b t
  | str b=>obtain⟨t,rfl⟩:=rx;exact SeqAt.EqAt.none_str b t
  | _=>exact absurd (show false=true from fx) Ar
 | bl a=>
  cases ry;cases x with
  | non=>cases rx;exact SeqAt.EqAt.bool_none a
  | bl b=>cases rx;exact SeqAt.EqAt.bool_bool a b
  | int b=>obtain⟨t,rfl⟩:=rx;exact SeqAt.EqAt.bool_int a b t
  | str b=>obtain⟨t,rfl⟩:=rx;exact SeqAt.EqAt.bool_str a b t
  | _=>exact absurd (show false=true from fx) Ar
 | int a=>
  obtain⟨t',rfl⟩:=ry;cases x with
  | non=>cases rx;exact SeqAt.EqAt.int_none a t'
  | bl b=>cases rx;exact SeqAt.EqAt.int_bool a t' b
  | int b=>obtain⟨t,rfl⟩:=rx;exact SeqAt.EqAt.int_int a t' b t
  | str b=>obtain⟨t,rfl⟩:=rx;exact SeqAt.EqAt.int_str a t' b t
  | _=>exact absurd (show false=true from fx) Ar
 | str a=>
  obtain⟨t',rfl⟩:=ry;cases x with
  | non=>cases rx;exact SeqAt.EqAt.str_none a t'
  | bl b=>cases rx;exact SeqAt.EqAt.str_bool a t' b
  | int b=>obtain⟨t,rfl⟩:=rx;exact SeqAt.EqAt.str_int a t' b t
  | str b=>obtain⟨t,rfl⟩:=rx;exact SeqAt.EqAt.str_str a t' b t
  | _=>exact absurd (show false=true from fx) Ar
 | _=>exact absurd (show false=true from fy) Ar
def j9(x:V)(u:Value):Bool:=match u with
 | .none=>cj .non x
 | .bool b=>cj (.bl b) x
 | .int i _=>cj (.int i) x
 | .str z _=>cj (.str z) x
 | _=>false
theorem JE{x y:V}{u:Value}(r:RelV y u)(f:i6 y=true):j9 x u=cj y x:=by
 cases y with
 | non=>cases r;rfl
 | bl b=>cases r;rfl
 | int i=>obtain⟨t,rfl⟩:=r;rfl
 | str z=>obtain⟨t,rfl⟩:=r;rfl
 | _=>exact absurd (show false=true from f) Ar
theorem yX{x:V}:∀{xs:List V} {us:List Value},au xs us->xs.all i6=true->us.any (j9 x)=xs.any λy=>cj y x
 | _,_,.nil,_=>rfl
 | y :: xs,u :: us,.cons r t,f=>by
  rw [Gq,Cf] at f;rw [Fp,Fp,JE r f.1,yX t f.2]
theorem yY{A:Around}{s:Shared}{x:V}{v:Value}(rx:RelV x v)(fx:i6 x=true):∀{xs:List V} {us:List Value},au xs us->xs.all i6=true->∀ u∈us,SeqAt.EqAt A s u v<|j9 x u
 | _,_,.nil,_=>λu hu=>by cases hu
 | y :: xs,u :: us,.cons r t,f=>λu' hu=>by
  rw [Gq,Cf] at f
  rcases Aj.mp hu with rfl | hu
  ·rw [JE r f.1];exact JA r rx f.1 fx
  ·exact yY rx fx t f.2 u' hu
def vP(x:V)(xs:List V):Bool:=xs.any λy=>cj y x
def T6(K:PySem.W.Frag)(neg:Bool):R2:=λx y H Q=>∃ p xs,y = .ref p/\(ai K H p xs\/aJ K H p xs)/\i6 x=true/\xs.all i6=true/\Q (.bl (if neg then !vP x xs else vP x xs)) H
theorem T7:cK X (compareOp .In) (T6 X.K false):=by
 intro pins s σ H x y v u Q I rx ry h;obtain⟨p,xs,rfl,hq,fx,fs,q⟩:=h;cases ry
 rcases hq with hq | hq
 ·obtain⟨its,r,pl,hz⟩:=I.list hq;refine SeqAt.in_listAt (j9 x) pl.isList (λw hw=>yY rx fx r fs w<|by simpa using hw) ⟨.bl _,H,I,rfl,?_⟩;rw [show its.toArray.any (j9 x)=its.any (j9 x) by simp,yX r fs];exact q
 ·obtain⟨its,r,pl,hz⟩:=I.tuple hq;refine SeqAt.in_tupleAt (j9 x) pl (λw hw=>yY rx fx r fs w<|by simpa using hw) ⟨.bl _,H,I,rfl,?_⟩;rw [show its.toArray.any (j9 x)=its.any (j9 x) by simp,yX r fs];exact q
theorem cm:dE X (.builtin "len") (λxs H Q=>∃ p ys,xs=[.ref p]/\(ai X.K H p ys\/aJ X.K H p ys)/\Q (.int ys.length) H):=by
 intro pins s σ H xs us Q I r h;obtain⟨p,ys,rfl,hq,q⟩:=h;obtain⟨u,rfl,rx⟩:=vals1 r;cases rx;have hn:=pW
 rcases hq with hq | hq
 ·obtain⟨its,r',pl,hz⟩:=I.list hq;have hlen:=r'.length;exact Calls.call_len_list pl.isList (by simp only [Av] <;> omega) ⟨.int ys.length,H,I.tok _,⟨s.toks+1,by rw [Av,hlen]⟩,q⟩
 ·obtain⟨its,r',pl,hz⟩:=I.tuple hq;have hlen:=r'.length;exact len_tuple pl (by simp only [Av] <;> omega) ⟨.int ys.length,H,I.tok _,⟨s.toks+1,by rw [Av,hlen]⟩,q⟩
theorem JI:dE X (.builtin "len") (λxs H Q=>∃ z,xs=[.str z]/\z.length<=sizeLine/\Q (.int z.length) H):=by
 intro pins s σ H xs us Q I r h;obtain⟨z,rfl,hz,q⟩:=h;obtain⟨u,rfl,t,rfl⟩:=vals1 r;have hn:=pW;exact len_str (by omega) ⟨.int z.length,H,I.tok _,⟨_,rfl⟩,q⟩
theorem T8:dE X (.type "list") (λxs H Q=>∃ p ys,xs=[.ref p]/\(ai X.K H p ys\/aJ X.K H p ys)/\∀ l,H l=none->Q (.ref l) (upd H l<|.lst ys)):=by
 intro pins s σ H xs us Q I r h;obtain⟨p,ys,rfl,hq,q⟩:=h;obtain⟨u,rfl,rx⟩:=vals1 r;cases rx;have fin:∀(its:List Value),au ys its->ys.length<=sizeLine->∀(h':Heap) (c':Nat),(∀ b o',s.heap.get? b=some o'->h'.get? b=some o') ->
   h'.get? s.heap.objs.size=some {cls:= .type "list",dict:=none,data:= .seq its.toArray c',slots:=#[]}->EP X pins σ Q (.ref s.heap.objs.size) {s with heap:=h'}:=λits r' hz h' c' kp e=>
  ⟨.ref s.heap.objs.size,_,I.laid (t':=s.toks) kp (Al _) (show ax X.prog X.w _ h' _ (.lst ys) from⟨hz,its,c',r',e⟩),rfl,q _<|I.aD.fresh<|Al _⟩
 rcases hq with hq | hq
 ·obtain⟨its,r',pl,hz⟩:=I.list hq;have hlen:=r'.length;obtain⟨o,ho,hc,n,hd⟩:=pl.isList;exact call_list_seq p (.inl rfl) ho hc hd (λh' c' kp e=>fin its r' hz h' c' kp e)<|by simp only [Av] <;> omega
 ·obtain⟨its,r',pl,hz⟩:=I.tuple hq;have hlen:=r'.length;obtain⟨o,ho,hc,n,hd⟩:=pl;exact call_list_seq p (.inr rfl) ho hc hd (λh' c' kp e=>fin its r' hz h' c' kp e)<|by simp only [Av] <;> omega
def lP(K:PySem.W.Frag)(T:String)(x:V)(H:Hp):Prop:=match x with
 | .str _=>T = "str"
 | .int _=>T = "int"
 | .ref p=>(T = "list"/\∃ xs,ai K H p xs)\/(T = "tuple"/\∃ o,K.lookup p=some o/\o.cls = .type "tuple"/\o.dict=none) \/
   (T = "dict"/\((∃ kvs,H p=some (.dK kvs))\/∃ kvs,H p=some (.dT kvs)))\/(T = "set"/\∃ S n,H p=some (.set S n))
 | _=>False
theorem JO{pins:List (Addr×Obj)}{σ:St}{H:Hp}{s:Shared}{T:String}{x:V}{v:Value}(I:Inv X pins σ H s)(r:RelV x v)(ty:lP X.K T x H) :
  s.TypeIs v T/\∀ a,v = .ref a->∃ ob,s.heap.get? a=some ob/\ob.dict=none:=by
 cases x with
 | str z=>
  obtain⟨t,rfl⟩:=r;cases (show T = "str" from ty);exact⟨typeIs_str s z t,λ_ e=>nomatch e⟩
 | int i=>
  obtain⟨t,rfl⟩:=r;cases (show T = "int" from ty);exact⟨typeIs_int s i t,λ_ e=>nomatch e⟩
 | ref p=>
  cases r
  rcases ty with ⟨rfl,xs,hq⟩ | ⟨rfl,o,hk,hc,hd⟩ | ⟨rfl,hk⟩ | ⟨rfl,S,n,hk⟩
  ·obtain⟨its,_,pl,_⟩:=I.list hq;refine⟨pl.isList.typeIs,λa e=>?_⟩;cases e;obtain⟨o,n,e,c,hd,_⟩:=pl;exact⟨o,e,hd⟩
  ·refine⟨⟨o,I.fv p o hk,hc⟩,λa e=>?_⟩;cases e;exact⟨o,I.fv _ o hk,hd⟩
  ·have z:∃ o,s.heap.get? p=some o/\o.ExactDict:=by
    rcases hk with ⟨kvs,hk⟩ | ⟨kvs,hk⟩
    ·obtain⟨_,_,_,_,o,_,_,e,ex,_⟩:=I.aD p _ hk;exact⟨o,e,ex⟩
    ·obtain⟨_,_,_,_,o,_,_,e,ex,_⟩:=I.aD p _ hk;exact⟨o,e,ex⟩
   obtain⟨o,e,ex⟩:=z;refine⟨⟨o,e,ex.1⟩,λa e2=>?_⟩;cases e2;exact⟨o,e,ex.2.1⟩
  ·obtain⟨o,_,_,_,e,ex,_⟩:=I.aD p _ hk;refine⟨⟨o,e,ex.1⟩,λa e2=>?_⟩;cases e2;exact⟨o,e,ex.2.1⟩
 | _=>exact False.elim ty
def yZ(K:PySem.W.Frag)(T:String)(r:V->List V->Hp->VK->Prop)(to:TE):TE:=λσ H Q=>to σ H λx H1=>lP K T x H1/\r x [] H1 Q
def T9(K:PySem.W.Frag)(T:String)(r:V->List V->Hp->VK->Prop)(to:TE)(t:TA):TE:=λσ H Q=>to σ H λx H1=>lP K T x H1/\t σ H1 λxs H2=>r x xs H2 Q
variable{o e:Expr}{es:List Expr}{to:TE}{t:TA}{name:Str}{apos df:Pos}{T id:String}{r:V->List V->Hp->VK->Prop}
theorem Ua(pa:PlainAttrs T)(slot:Slot T name id)(ka:typeOf (.builtin id)=pure (.type "method_descriptor"))(hm:rJ X id r)(ho:PE X o to)
  (bG:attributeBase o name X.env (eval o X.env)=eval o X.env:=by rfl) (hline:(apos.endLine == df.line)=true:=by rfl):PE X (.Call (.Attribute o name apos) [] [] df) (yZ X.K T r to):=by
 intro pins s σ H Q I h;refine wpAny_Call_method0_late bG hline<|aI (ho pins s σ H _ I h) λv s1 ⟨x,H1,I1,r1,ty,q1⟩=>?_;obtain⟨h1,h2⟩:=JO I1 r1 ty;exact⟨T,id,pa,slot,ka,h1,h2,JC rfl (PySem.evalArgs_none<|hm pins s1 σ H1 x [] v [] Q I1 r1 .nil q1)⟩
theorem y4(pa:PlainAttrs T)(slot:Slot T name id)(ka:typeOf (.builtin id)=pure (.type "method_descriptor"))(hm:rJ X id r)(ho:PE X o to)(ha:PA X (e :: es) t)
  (bG:attributeBase o name X.env (eval o X.env)=eval o X.env:=by rfl)
  (cO : ((backTo df<|starEach (e :: es) X.env).all (λx => !x.1) && (backToKw df<|keywordEach [] X.env).all (λx => x.1.isSome)
   && decide ((e :: es).length+([]:List Keyword).length+(if([]:List Keyword).isEmpty then 0 else 1) < 30))=true:=by rfl)
  (hline:(apos.endLine == df.line)=true:=by rfl) (hs:starEach (e :: es) X.env=(false,eval e X.env) :: starEach es X.env:=by rfl) (bX:(backTo df<|starEach es X.env).any (·.1)=false:=by rfl) :
  PE X (.Call (.Attribute o name apos) (e :: es) [] df) (T9 X.K T r to t):=by
 intro pins s σ H Q I h;refine wpAny_Call_method_late bG cO hline rfl (aI (ho pins s σ H _ I h) λv s1 ⟨x,H1,I1,r1,ty,q1⟩=>?_);obtain⟨h1,h2⟩:=JO I1 r1 ty;refine⟨T,id,pa,slot,ka,h1,h2,?_⟩;have hA:=ha df pins s1 σ H1 _ I1 q1;rw [hs] at hA ⊢;refine JC (by show(false || (backTo df<|starEach es X.env).any (·.1))=false;rw [bX] <;> rfl)<|MF ?_;exact aI hA λus s2 ⟨vs,H2,I2,r2,q2⟩=>hm pins s2 σ H2 x vs v us Q I2 r1 r2 q2
end
def ng(X:Cx)(id:String)(r:V->List V->Hp->VK->Prop):Prop:=
 ∀(pins:List<|Addr×Obj) (s:Shared) (σ:St) (H:Hp) (x:V) (xs:List V) (v:Value) (us:List Value) (Q:VK),Inv X pins σ H s->RelV x v->au xs us->r x xs H Q ->
  wpAny (model X.prog X.w) X.A (call (.builtin id)<|v :: us) (EP X pins σ Q) X.xe s
theorem au.hd{x:V}{xs:List V}{us:List Value}(h:au (x :: xs) us):∃ u vs,us=u :: vs/\RelV x u/\au xs vs:=by
 cases h with
 | cons r t=>exact⟨_,_,rfl,r,t⟩
theorem au.nl{us:List Value}(h:au [] us):us=[]:=by
 cases h;rfl
theorem au.one{x:V}{us:List Value}(h:au [x] us):∃ u,us=[u]/\RelV x u:=by
 obtain⟨u,vs,rfl,r,t⟩:=h.hd;rw [t.nl];exact⟨u,rfl,r⟩
theorem au.two{x y:V}{us:List Value}(h:au [x,y] us):∃ u v,us=[u,v]/\RelV x u/\RelV y v:=by
 obtain⟨u,vs,rfl,r,t⟩:=h.hd;obtain⟨v,ws,rfl,q,t⟩:=t.hd;rw [t.nl];exact⟨u,v,rfl,r,q⟩
theorem au.zero:∀{us:List Value},au [] us->us=[]
 | _,.nil=>rfl
theorem au.dropLast{xs:List V}{us:List Value}(h:au xs us):au xs.dropLast us.dropLast:=by
 induction h with
 | nil=>exact .nil
 | cons r t ih=>
  cases t with
  | nil=>exact .nil
  | cons q t'=>exact .cons r ih
theorem au.eraseIdx:∀{xs:List V} {us:List Value} (i:Nat),au xs us->au (xs.eraseIdx i) (us.eraseIdx i)
 | _,_,_,.nil=> .nil
 | _,_,0,.cons _ t=>t
 | _,_,i+1,.cons r t=> .cons r<|au.eraseIdx i t
theorem Ub{α:Type}(l:List α):l.eraseIdx (l.length - 1)=l.dropLast:=by
 induction l with
 | nil=>rfl
 | cons a r ih=>
  cases r with
  | nil=>rfl
  | cons b r=>
   have e:(a :: b :: r).length - 1=((b :: r).length - 1)+1:=by
    have h1:(a :: b :: r).length=r.length+2:=rfl;have h2:(b :: r).length=r.length+1:=rfl;omega
   rw [e,RG,ih]
   all_goals rfl
theorem JP{α:Type}:∀(l:List α) (i:Nat),(l.eraseIdx i).length<=l.length
 | [],_=>Al _
 | _ :: _,0=>Ff _
 | _ :: r,i+1=>Nat.succ_le_succ<|JP r i
section
variable{X:Cx}{pins:List (Addr×Obj)}{σ:St}{H:Hp}{s:Shared}{l b:Addr}{xs ys zs:List V}
theorem Inv.i7{its its':List Value}{n:Nat}{f:Array Value->Array Value}{t':Nat}(I:Inv X pins σ H s)(hH:H l=some (.lst xs))
  (e:s.heap.get? l=some {cls:= .type "list",data:= .seq its.toArray n}) (hf:f its.toArray=its'.toArray) (hv:au ys its') (hz:ys.length<=sizeLine) :
  Inv X pins σ (upd H l<|.lst ys) {s with heap:=s.heap.update l<|Obj.mapSeq f,toks:=t'}:=by
 have q:=PySem.IsL.update e f;rw [hf] at q;refine I.write (x:=l) (e:=l) (by rw [hH];exact trivial) (.inl rfl) (λb' u hb hu=>(Cm s.heap (Obj.mapSeq f)<|CG hb).trans hu) ⟨_,q⟩ ?_;exact⟨hz,its',_,hv,q⟩
theorem Inv.y7{its:List Value}{t':Nat}(I:Inv X pins σ H s)(hv:au ys its)(hz:ys.length<=sizeLine) :
  Inv X pins σ (upd H s.heap.objs.size<|.lst ys) {s with heap:=s.heap.push {cls:= .type "list",data:= .seq its.toArray},toks:=t'}:=
 I.laid (λ_ _ q=>Af _ q) (Al _) ⟨hz,its,0,hv,Ap _ rfl⟩
theorem Inv.fresh(I:Inv X pins σ H s):H s.heap.objs.size=none:=I.aD.fresh<|Al _
theorem Inv.fD(I:Inv X pins σ H s)(hH:H l=some (.lst xs)):xs.length<=sizeLine/\∃(its:List Value) (n:Nat),au xs its/\xs.length=its.length/\s.heap.get? l=some {cls:= .type "list",data:= .seq its.toArray n}:=by
 obtain⟨z,its,n,r,e⟩:=I.aD l _ hH;exact⟨z,its,n,r,r.length,e⟩
theorem Uc{n:Nat}(h:n<=sizeLine):Builtin.List.listTooLong n=false:=by
 unfold Builtin.List.listTooLong;exact BR<|by omega
end
section
variable{X:Cx}
def Ud:V->List V->Hp->VK->Prop:=λx vs H Q=>∃ l xs y,x = .ref l/\vs=[y]/\H l=some (.lst xs)/\xs.length < sizeLine/\Q .non (upd H l<|.lst<|xs++[y])
theorem JS:ng X "list.append" Ud:=by
 intro pins s σ H x vs v us Q I rx rv h;obtain⟨l,xs,y,rfl,rfl,hH,hz,q⟩:=h;cases rx;obtain⟨u,rfl,ru⟩:=rv.one;obtain⟨z,its,n,r,hl,e⟩:=I.fD hH;refine MJ F.slot_list_append ⟨_,e,rfl⟩ F.entry_list_append (F.args_list_append_2 _ _) (PySem.list_append l its.toArray n u<|by rw [Av];omega) ⟨e,?_⟩;refine⟨.non,_,I.i7 (its':=its++[u]) hH e (by simp) (r.append<|.cons ru .nil) ?_,rfl,q⟩;rw [Ag,Cw];omega
def Ue:V->List V->Hp->VK->Prop:=λx vs H Q=>∃ l b xs zs,x = .ref l/\vs=[.ref b]/\H l=some (.lst xs)/\H b=some (.lst zs)/\xs.length+zs.length<=sizeLine/\Q .non (upd H l<|.lst<|xs++zs)
theorem q7x:ng X "list.extend" Ue:=by
 intro pins s σ H x vs v us Q I rx rv h;obtain⟨l,b,xs,zs,rfl,rfl,hH,hB,hz,q⟩:=h;cases rx;obtain⟨u,rfl,ru⟩:=rv.one;cases ru;obtain⟨z,its,n,r,hl,e⟩:=I.fD hH;obtain⟨z2,dg,n2,r2,pY,e2⟩:=I.fD hB;have hsz:its.toArray.size+dg.toArray.size<=sizeLine:=by rw [Av,Av];omega
 have rK:¬(!its.toArray.isEmpty && Builtin.List.listTooLong (its.toArray.size+dg.toArray.size))=true:=by
  rw [Uc hsz,Es];exact Ar
 refine MJ F.slot_list_extend ⟨_,e,rfl⟩ F.entry_list_extend (F.args_list_extend_2 _ _)
  (AutoSeq1.list_extend_list_list_0 l its.toArray n b dg.toArray n2 rK (by rw [Av];omega)<|by omega) ⟨e,e2,?_⟩
 refine⟨.non,_,I.i7 (its':=its++dg) hH e (by simp) (r.append r2) ?_,rfl,q⟩;rw [Ag];omega
def y8:V->List V->Hp->VK->Prop:=λx vs H Q=>∃ l xs y,x = .ref l/\vs=[]/\H l=some (.lst xs)/\xs[xs.length - 1]?=some y/\Q y (upd H l<|.lst xs.dropLast)
theorem Ug:ng X "list.pop" y8:=by
 intro pins s σ H x vs v us Q I rx rv h;obtain⟨l,xs,y,rfl,rfl,hH,hy,q⟩:=h;cases rx;have kc:=rv.zero;subst kc;obtain⟨z,its,n,r,hl,e⟩:=I.fD hH;obtain⟨u,hu,ru⟩:=r.get hy;have lQ:its.toArray[its.toArray.size - 1]?=some u:=by
  show its.toArray[its.length - 1]?=some u;rw [<- Bh,<- hl];exact hu
 refine MJ F.slot_list_pop ⟨_,e,rfl⟩ F.entry_list_pop (F.args_list_pop_1 _) (MeetsSeq.list_pop_last l its.toArray n u lQ<|by rw [Av];omega) ⟨e,?_⟩;refine⟨y,_,I.i7 (its':=its.dropLast) hH e ?_ r.dropLast ?_,ru,q⟩
 ·show its.toArray.eraseIdxIfInBounds (its.toArray.size - 1)=its.dropLast.toArray;rw [Av,LQ,Ub]
 ·rw [List.length_dropLast];omega
def Uh:V->List V->Hp->VK->Prop:=λx vs H Q=>∃ l xs i k y,x = .ref l/\vs=[.int i]/\H l=some (.lst xs)/\-(2 ^ 63)<=i/\i < 2 ^ 63/\seqIndex? i xs.length=some k/\xs[k]?=some y/\Q y (upd H l<|.lst<|xs.eraseIdx k)
theorem Ui:ng X "list.pop" Uh:=by
 intro pins s σ H x vs v us Q I rx rv h;obtain⟨l,xs,i,k,y,rfl,rfl,hH,h1,h2,hk,hy,q⟩:=h;cases rx;obtain⟨u,rfl,ru⟩:=rv.one;obtain⟨t,rfl⟩:=ru;obtain⟨z,its,n,r,hl,e⟩:=I.fD hH;obtain⟨w,hw,e9⟩:=r.get hy;refine MJ F.slot_list_pop ⟨_,e,rfl⟩ F.entry_list_pop (F.args_list_pop_2 _ _)
  (MeetsSeq.list_pop_at l its.toArray n i t k w (fitsIndex_both h1 h2) (by rw [Av,<- hl];exact hk) (by rw [<- Bh];exact hw)<|by rw [Av];omega) ⟨e,?_⟩
 refine⟨y,_,I.i7 (its':=its.eraseIdx k) hH e ?_ (r.eraseIdx k) ?_,e9,q⟩
 ·show its.toArray.eraseIdxIfInBounds k=(its.eraseIdx k).toArray;rw [LQ]
 ·have:=JP xs k;omega
def y9:R2:=λx y H Q=>∃ l b xs zs,x = .ref l/\y = .ref b/\H l=some (.lst xs)/\H b=some (.lst zs)/\xs.length+zs.length<=sizeLine/\∀ p,H p=none->Q (.ref p) (upd H p<|.lst<|xs++zs)
theorem Uj:cK X (binaryOp .Add) y9:=by
 intro pins s σ H x y v u Q I rx ry h;obtain⟨l,b,xs,zs,rfl,rfl,hH,hB,hz,q⟩:=h;cases rx;cases ry;obtain⟨z,its,n,r,hl,e⟩:=I.fD hH;obtain⟨z2,dg,n2,r2,pY,e2⟩:=I.fD hB;refine PySem.P.add_list e e2 ?_ (by rw [Av,Av];omega);have ea:its.toArray++dg.toArray=(its++dg).toArray:=by simp
 rw [ea];exact⟨.ref _,_,I.y7 (t':=s.toks) (r.append r2) (by rw [Ag];omega),rfl,q _ I.fresh⟩
end
section
variable{prog:Program}{w:World}{A:Around}{E:Value->Shared->Prop}{s:Shared}
end
section
variable{X:Cx}
end
end L2
namespace JU
open PySem PySem.W PySem.Calls PyProof.Rows
theorem Uk{P:Params}{h:Heap}:∀(ns:List Int) (vs:List Value),WellAll P h vs (ns.map WData.int)->IntsAre vs ns:=by
 intro ns
 induction ns with
 | nil=>
  intro vs w;rw [List.map_nil] at w;cases w;exact .nil
 | cons n ns ih=>
  intro vs w;rw [Bd] at w;cases w with
  | cons a b=>
   cases a;exact .cons _ _<|ih _ b
theorem Ul{l:OpenLaw}{n:Nat}(hn:l.most=some n){P:Params}{h:Heap}{args:List WData}{vals:List Value}
  (kd:l.row.toRowW.claim.pre args=true) (rL:WellAll P h vals args) :
  ∃ a vs ns,vals=[Value.ref a]/\args=[WData.list<|ns.map WData.int]/\h.get? a=some {cls:= .type "list",data:= .seq vs.toArray}/\IntsAre vs ns/\ns.length<=n:=by
 have Um:WShape.hasAll [] args [.list .int]=true:=(pre_splitW kd).1;have hc:l.pre.holds [] {args:=args}=true:=(pre_splitW kd).2;obtain⟨d,r,rfl,h1,h2⟩:=hasAllW_cons Um;obtain rfl:=hasAllW_nil h2;obtain⟨xs,rfl,h3⟩:=hasW_list h1;obtain⟨ns,rfl⟩:=items_int h3;have hlen:ns.length<=n:=by
  unfold OpenLaw.pre at hc;have h4:(WTm.not<|.lt (.lit<|.int (n:Int))<|.len<|.arg 0).holds [] {args:=[.list<|ns.map .int]}=true:=by
   have h4:=(holds_andW hc).1;rw [hn] at h4;exact h4
  have h5:=condW_of h4<|w_not<|w_lt w_lit<|w_len_list<|w_arg rfl;rw [Aa] at h5;refine Nat.le_of_not_lt λq=>?_;have q':(n:Int) < ((ns.length:Nat):Int):=by omega
  first
   | (rw [BW q'] at h5;exact absurd h5<|by decide)
   | (simp at h5;omega)
 cases rL with
 | cons w1 w2=>
  cases w2;cases w1 with
  | list ho eC=>exact⟨_,_,ns,rfl,rfl,ho,Uk ns _ eC,hlen⟩
theorem Uo(l:OpenLaw)(args:List WData):l.row.toRowW.claim.post args (.bool true) args=true:=
 postW_of (r:=l.row.toRowW) (X:=(true == true))
  (show WShape.has [] (.bool true) .bool=true by first | rfl | decide | simp [WShape.has,WShape.arms,WShape.armsAll])
  (show(WTm.eq .res<|.lit<|.bool true).value [] {args:=args,res:=some<|.bool true,after:=args}=some (.bool<|true == true) from w_eq_bool (w_res rfl) w_lit) rfl
theorem fE{l:OpenLaw}{n:Nat}{q:Program}{loose:List Str}{XP:(Str->Option Value)->Heap->Prop}{YP:World->Heap->Prop}{d:DefRec}
  (hn:l.most=some n) (rM:d.params.defaults=[])
  (call : ∀ (w : World) (s₀ s₁ : Shared) (mg mb : Str → Option Value) (fa : Addr) (o : Obj) (pm cd doc : Value) (a : Addr) (vs : List Value) (ns : List Int),
   Ground q loose [] XP w s₀ mg mb s₁.heap->YP w s₁.heap ->
   s₁.heap.get? fa=some o->o.data = .func (docDef d.name d.params d.body d.scope pm cd doc)->s₁.heap.CodeRec cd d.name->mg d.name=some (.ref fa) ->
   s₁.heap.get? a=some {cls:= .type "list",data:= .seq vs.toArray}->IntsAre vs ns->ns.length<=n->s₁.gens=#[] ->
   codeAny (model l.prog w) callerA (.call (.ref fa) ⟨[.ref a],[]⟩) (λr s'=>r = .ok (.ret<|.bool true)/\OldK s₁.heap s'.heap/\s'.os=s₁.os/\AllBare s'.gens) s₁) :
  WalkO q loose XP YP l.row.toRowW d [] (λf vs=>PySem.call f vs):=by
 intro w s₀ s₁ mg mb G Y fa o pm cd doc dV kV ho hd gK hD rO hg args vals as kd hlay hrd rL Uq;obtain rfl:dV = .none:=Dflts.none hD rM;obtain rfl:kV = .none:=Dflts.noKw hD;obtain⟨a,vs,ns,rfl,rfl,gd,hints,hlen⟩:=Ul hn kd rL;refine enter_call<|JF (call w s₀ s₁ mg mb fa o pm cd doc a vs ns G Y ho (fd_plain hd) gK rO gd hints hlen hg) λr s' hq=>?_;obtain⟨rfl,h2,h3,h4⟩:=hq;exact⟨.inl ⟨.bool true,.bool true,[],rfl,λ_=>rfl,.bool true,Uo l _,λ_=>⟨List.Pairwise.nil,λ_ hm=>(nomatch hm)⟩⟩,h2,h3,h4⟩
section
variable{prog:Program}{w:World}{A:Around}{E:Value->Shared->Prop}{s:Shared}{K:Frag}
end
end JU
namespace L2
open PySem PySem.Spec PyProof.Rows
theorem JY:∀{vs:List Value} {ns:List Int},IntsAre vs ns->au (ns.map V.int) vs
 | _,_,.nil=> .nil
 | _,_,.cons n t h=> .cons ⟨t,rfl⟩<|JY h
def Only(H:Hp):Prop:=∀ b,H b=none\/∃ o xs,H b=some (.cq o<|.lst xs)
theorem Ur{P:Program}{w:World}{K:PySem.W.Frag}{mg mb:Str->Option Value}{CX:fV}{k:Nat}{fa a:Addr}{fd:FuncData}{x:Str}{sp:Sp}{s₁:Shared}{vs:List Value}{ns:List Int}
  (KX:K.In s₁.heap) (vQ:s₁.heap.Ns mainGlobals mg) (hb:s₁.heap.Ns builtinsNs mb) (Us:∀ x:Str,x ≠ "__name__"->mb x=bootBuiltins x) (zb:s₁.heap.NoLimit) (hg:s₁.gens=#[])
  (ha:s₁.heap.get? a=some {cls:= .type "list",data:= .seq vs.toArray}) (hi:IntsAre vs ns) (hl:ns.length<=sizeLine) (hr:bw k callerA)
  (F:∀ base:Heap,K.In base->base.Ns mainGlobals mg->aE P w K mg base CX k fa fd [x] sp) (rP:∀(s:Shared) (u:Value),BindsTo s fd ⟨[u],[]⟩ [(x,u)])
  (dw:∀ H:Hp,Only H->ai K H a (ns.map V.int)->sp [.ref a] H (λv _=>v = .bl true) λ_ _ _=>False)
  (zc:∀ H e s',CX [] H s₁ (λ_ _ _=>False) e s'->False) :
  codeAny (model P w) callerA (.call (.ref fa) ⟨[.ref a],[]⟩) (λr s'=>r = .ok (.ret<|.bool true)/\OldK s₁.heap s'.heap/\s'.os=s₁.os/\AllBare s'.gens) s₁:=by
 have rv:=JY hi;have zf:=hi.length;have core:∀ H:Hp,Only H->ai K H a (ns.map V.int)->b5 P w H s₁.heap->(∀ b,H b≠none->b=a)->(H a≠none->K.lookup a=none) ->
   codeAny (model P w) callerA (.call (.ref fa) ⟨[.ref a],[]⟩) (λr s'=>r = .ok (.ret<|.bool true)/\OldK s₁.heap s'.heap/\s'.os=s₁.os/\AllBare s'.gens) s₁:=by
  intro H hO hS aD hA hK;have gO:∀{b:Addr} {o:Obj},s₁.heap.get? b=some o->H b=none->(d3 s₁.heap H).get? b=some o:=λe n=>RH e n;have rF:∀{b:Addr} {o:Obj} {es:Array DictEntry} {ep:Nat},s₁.heap.get? b=some o->o.data = .dict es ep->H b=none:=λ{b o es ep} e d=>by
   cases q:H b with
   | none=>rfl
   | some u=>
    have e':b=a:=hA b (by rw [q];simp);subst e';rw [ha] at e;cases e;have d':Data.seq vs.toArray _=Data.dict es ep:=d;cases d'
  have vR:∀{b:Addr} {m:Str->Option Value},s₁.heap.Ns b m->(d3 s₁.heap H).Ns b m:=λ{b m} ⟨o,es,ep,e,d,r⟩=>⟨o,es,ep,gO e<|rF e d,d,r⟩;have J0:K.In (d3 s₁.heap H):=λb o e=>gO (KX b o e)<|by
   cases q:H b with
   | none=>rfl
   | some u=>
    have e':b=a:=hA b (by rw [q];simp);subst e';rw [hK<|by rw [q];simp] at e;cases e
  have hM:Mod K mg (d3 s₁.heap H):=⟨J0,vR vQ,⟨mb,vR hb,Us⟩,let ⟨mc,h1,h2⟩:=zb;⟨mc,vR h1,h2⟩⟩;have e0:j7 P w K mg (d3 s₁.heap H) callerA [] s₁ H:=⟨rfl,hM,λb o e=>RO e,Nat.le_of_eq<|RF _ _,trivial,λb hb=>absurd (show b∈([]:List Addr) from hb) (by simp),aD,.of_eq hg⟩;refine JF ((F _ J0<|vR vQ).run callerA [] s₁ H ⟨[.ref a],[]⟩ [.ref a] [.ref a] _ _ hr e0 (rP s₁<|.ref a) (.cons rfl .nil)<|dw H hO hS) λr s' h=>?_;cases r with
  | error e=>exact(zc H e s' h).elim
  | ok fl=>
   cases fl with
   | next=>exact False.elim h
   | brk=>exact False.elim h
   | cont=>exact False.elim h
   | ret u=>
    obtain⟨v,H',os,bare,un,zg,r',q⟩:=h;have q':v = .bl true:=q;subst q';obtain rfl:u=Value.bool true:=r';refine⟨rfl,OldK.of_keep λb o e=>?_,os,bare⟩;cases q:H b with
    | none=>exact un.keep b o e q (by intro z;exact absurd (show b∈([]:List Addr) from z)<|by simp)<|by simp
    | some u=>
     rcases hO b with z | ⟨ob,xs,z⟩
     ·rw [q] at z;cases z
     ·have z2:=un.dC b ob _ z;obtain⟨e1,_⟩:=aD b _ z;obtain⟨e2,_⟩:=zg b _ z2;rw [e] at e1;cases e1;exact e2
 cases hk:K.lookup a with
 | some o=>
  have e:=KX a o hk;rw [ha] at e;cases e;refine core (λ_=>none) (λ_=> .inl rfl) (.inr ⟨_,vs.toArray,_,hk,rfl,rfl,rfl,by rw [Av,zf];exact hl,by simpa using rv⟩) (λb u z=>by have z':(none:Option HO)=some u:=z;cases z') (λb z=>absurd rfl z) λz=>absurd rfl z
 | none=>
  refine core (λb=>if b=a then some (.cq {cls:= .type "list",data:= .seq vs.toArray}<|.lst<|ns.map V.int) else none) (λb=>?_) (.inl<|.inr ⟨{cls:= .type "list",data:= .seq vs.toArray},BP rfl⟩) (λb u z=>?_) (λb z=>?_) λ_=>hk
  ·by_cases hb:b=a
   ·exact .inr ⟨_,_,BP hb⟩
   ·exact .inl<|BL hb
  ·by_cases hb:b=a
   ·have z':=(BP hb).symm.trans z;cases z';subst hb;exact⟨ha,by rw [Aa];exact hl,vs,_,rv,ha⟩
   ·have z':=(BL hb).symm.trans z;cases z'
  ·by_cases hb:b=a
   ·exact hb
   ·exact absurd (BL hb) z
theorem ke{l:PySem.W.OpenLaw}{n k:Nat}{q:Program}{loose:List Str}{XP:(Str->Option Value)->Heap->Prop}{YP:World->Heap->Prop}{d:DefRec}{K:Params->PySem.W.Frag}{CX:World->fV}{sp:World->Sp}{x:Str}
  (hn:l.most=some n) (Ut:n<=sizeLine) (rM:d.params.defaults=[]) (hr:bw k callerA)
  (hY:∀(w:World) (h:Heap),YP w h->(K w.params).In h)
  (F : ∀ (w : World) (mg : Str → Option Value) (fa : Addr) (h : Heap), (K w.params).In h → h.Ns mainGlobals mg → mg d.name = some (.ref fa) →
   ∃ fd:FuncData,(∀(s:Shared) (u:Value),BindsTo s fd ⟨[u],[]⟩ [(x,u)]) /\
    ∀ base:Heap,(K w.params).In base->base.Ns mainGlobals mg->aE l.prog w (K w.params) mg base (CX w) k fa fd [x] (sp w))
  (dw:∀(w:World) (H:Hp) (a:Addr) (ns:List Int),ns.length<=n->Only H->ai (K w.params) H a (ns.map V.int)->sp w [.ref a] H (λv _=>v = .bl true) λ_ _ _=>False)
  (zc:∀(w:World) (H:Hp) (s:Shared) (e:Value) (s':Shared),CX w [] H s (λ_ _ _=>False) e s'->False) :
  PySem.W.WalkO q loose XP YP l.row.toRowW d [] (λf vs=>PySem.call f vs):=by
 refine JU.fE hn rM λw s₀ s₁ mg mb fa o pm cd doc a vs ns G Y ho hd gK rO gd hints hlen hg=>?_;have KX:=hY w _ Y;obtain⟨fd,hb,hF⟩:=F w mg fa _ KX G.T.g rO;exact Ur KX G.T.g G.T.b G.T.builtins G.T.nolimit hg gd hints (Cg hlen Ut) hr hF hb (λH hO hS=>dw w H a ns hlen hO hS) λH e s'=>zc w H s₁ e s'
def lR(s:Stmt):Arguments:=match s with
 | .FunctionDef _ a _ _ _ _ _ _ _ _=>a
 | _=>{posonlyargs:=[],args:=[],vararg:=none,kwonlyargs:=[],kw_defaults:=[],kwarg:=none,defaults:=[]}
def ic(s:Stmt):List Stmt:=match s with
 | .FunctionDef _ _ b _ _ _ _ _ _ _=>b
 | _=>[]
def aQ(s:Stmt):Scope:=match s with
 | .FunctionDef _ _ _ _ _ _ sc _ _ _=>sc
 | _=>{kind:= .function,names:=[],isGenerator:=false,isCoroutine:=false}
abbrev bJ:fV:=λ_ _ _ _ _ _=>False
abbrev E0:XK:=λ_ _ _=>False
theorem Uu{X:Cx}:m8 bJ X E0:=λ_ _ _ _ _ _ _ h=>h.elim
structure bH(K:PySem.W.Frag)(x qual:Str)(st:Stmt)(f:Addr)(fd:FuncData):Prop where
 ex:∃(oc:Value) (od:Option Addr) (kV doc pm:Value) (an:Option Addr) (bC ct:Value) (jK:Array<|Option Value),
  fd=PySem.W.fnOf x qual (lR st) (ic st) (aQ st) .none kV doc pm an bC ct/\K.lookup f=some ⟨oc,od,.func fd,jK⟩/\PySem.W.codeIn K bC qual=true
 kp:PySem.W.keepIn K (.ref f)=true
section
variable{P:Program}{w:World}{K:PySem.W.Frag}{mg:Str->Option Value}{base:Heap}
theorem bH.ok{x qual:Str}{st:Stmt}{f:Addr}{fd:FuncData}{N ps:List Str}{k:Nat}{sp:Sp}(F:bH K x qual st f fd)(S:al N ps<|aQ st)(len:∀ vs H Q E,sp vs H Q E->vs.length=ps.length)
  (cC : ∀ (bC : Value) (A : Around) (outer : List Env) (s : Shared) (H : Hp) (vs : List V) (Q : VK) (E : XK), bw k (A.deeper<|envOfC qual (aQ st) s.heap.objs.size f bC) → sp vs H Q E →
   ∃ t,ia (dF bJ P w K mg base N qual (aQ st) f bC A outer s H E).pP (ic st) t/\t {nx:=λ_ H'=>Q .non H',rt:=Q} (start N vs) H):aE P w K mg base bJ (k+1) f fd ps sp:=by
 obtain⟨oc,od,kV,doc,pm,an,bC,ct,jK,rfl,lk,gK⟩:=F.ex;refine Jw lk gK S len λA outer s H vs Q E hr dw=>?_;obtain⟨t,h,q⟩:=cC bC A outer s H vs Q E hr dw;exact⟨t,h.pP,q⟩
theorem bH.binds{x qual:Str}{st:Stmt}{f:Addr}{fd:FuncData}{ps:List Str}(F:bH K x qual st f fd)
  (h:∀(kV doc pm:Value) (an:Option Addr) (bC ct:Value) (us:List Value),us.length=ps.length->bindArgs (PySem.W.fnOf x qual (lR st) (ic st) (aQ st) .none kV doc pm an bC ct) ⟨us,[]⟩=pure (ps.zip us)):Binds K fd ps []:=by
 obtain⟨oc,od,kV,doc,pm,an,bC,ct,jK,rfl,lk,gK⟩:=F.ex;exact .all<|h kV doc pm an bC ct
theorem Uv{x qual:Str}{st:Stmt}{f:Addr}{oc:Value}{od an:Option Addr}{jK:Array (Option Value)}{kV doc pm bC ct:Value}(l:K.lookup f=some ⟨oc,od,.func<|PySem.W.fnOf x qual (lR st) (ic st) (aQ st) .none kV doc pm an bC ct,jK⟩)
  (c:PySem.W.codeIn K bC qual=true) (k:PySem.W.keepIn K (.ref f)=true):bH K x qual st f (PySem.W.fnOf x qual (lR st) (ic st) (aQ st) .none kV doc pm an bC ct):=⟨⟨oc,od,kV,doc,pm,an,bC,ct,jK,rfl,l,c⟩,k⟩
end
section
variable{X:Cx}
end
theorem bp{A B:Prop}(h:B):if false=true then A else B:=by
 rw [BL Ar];exact h
theorem bI{A B:Prop}(h:A):if true=true then A else B:=by
 rw [BP rfl];exact h
theorem ie{c A B:Prop} [Decidable c] (h1:c->A) (h2:¬ c->B):if c then A else B:=by
 by_cases h:c
 ·rw [BP h];exact h1 h
 ·rw [BL h];exact h2 h
def aj(H H':Hp):Prop:=∀ b o,H b=some o->H' b=some o
theorem aj.refl(H:Hp):aj H H:=λ_ _ h=>h
theorem aj.trans{H H1 H2:Hp}(a:aj H H1)(b:aj H1 H2):aj H H2:=λc o h=>b c o<|a c o h
theorem aj.free{H H':Hp}(e:aj H H'){l:Addr}(h:H' l=Option.none):H l=Option.none:=by
 cases q:H l with
 | none=>rfl
 | some o=>
  rw [e l o q] at h;cases h
theorem aj.seq{K:PySem.W.Frag}{H H':Hp}{a:Addr}{xs:List V}(e:aj H H')(h:ai K H a xs):ai K H' a xs:=by
 rcases h with (h | ⟨o,h⟩) | h
 ·exact .inl<|.inl<|e _ _ h
 ·exact .inl<|.inr ⟨o,e _ _ h⟩
 ·exact .inr h
section
variable{κ:Type} [DecidableEq κ]
def aC(kvs:List<|κ×V)(k:κ):Option V:=(kvs.find? λkv=>decide (kv.1=k)).map (·.2)
def putK(kvs:List<|κ×V)(k:κ)(v:V):List (κ×V):=
 if(kvs.any λkv=>decide (kv.1=k))=true then kvs.map (λkv=>if kv.1=k then(kv.1,v) else kv) else kvs++[(k,v)]
theorem gP{p:κ×V}{r:List (κ×V)}{k:κ}(e:p.1=k):aC (p :: r) k=some p.2:=by simp [aC,Fa,e]
theorem gg{p:κ×V}{r:List (κ×V)}{k:κ}(e:¬ p.1=k):aC (p :: r) k=aC r k:=by simp [aC,Fa,e]
theorem p5(k:κ):∀ kvs:List<|κ×V,(kvs.any λkv=>decide (kv.1=k))=(aC kvs k).isSome
 | []=>rfl
 | p :: r=>by
  rw [Fp]
  by_cases e:p.1=k
  ·simp only [gP e,BW e,Bool.true_or,Option.isSome_some]
  ·rw [gg e,BR e,Bool.false_or];exact p5 k r
theorem J1(k j:κ)(y:V):∀ kvs:List<|κ×V,aC (kvs.map λkv=>if kv.1=k then(kv.1,y) else kv) j=(aC kvs j).map λx=>if j=k then y else x
 | []=>rfl
 | p :: r=>by
  have ih:=J1 k j y r;rw [Bd]
  by_cases h:p.1=k
  ·rw [BP h]
   by_cases e:p.1=j
   ·rw [gP (p:=(p.1,y)) e,gP e,Gi,BP<|e.symm.trans h]
   ·rw [gg (p:=(p.1,y)) e,gg e,ih]
  ·rw [BL h]
   by_cases e:p.1=j
   ·rw [gP (p:=p) e,gP e,Gi,BL λz=>h<|e.trans z]
   ·rw [gg (p:=p) e,gg e,ih]
theorem J2(k j:κ)(y:V):∀ kvs:List<|κ×V,aC kvs k=none->aC (kvs++[(k,y)]) j=if j=k then some y else aC kvs j
 | [],_=>by
  by_cases e:k=j
  ·rw [BP e.symm];exact gP (p:=(k,y)) e
  ·rw [BL λz=>e z.symm];exact gg (p:=(k,y)) e
 | p :: r,hn=>by
  rw [Fi];have hk:¬ p.1=k:=λz=>by rw [gP z] at hn;cases hn
  rw [gg hk] at hn;have ih:=J2 k j y r hn
  by_cases e:p.1=j
  ·rw [gP e,gP e,BL λz=>hk<|e.trans z]
  ·rw [gg e,gg e,ih]
theorem c0(kvs:List<|κ×V)(k j:κ)(y:V):aC (putK kvs k y) j=if j=k then some y else aC kvs j:=by
 unfold putK
 by_cases a:(kvs.any λkv=>decide (kv.1=k))=true
 ·rw [BP a,J1];rw [p5] at a
  by_cases e:j=k
  ·obtain⟨x,hx⟩:=Ep.mp a;rw [BP e,e,hx,Gi,BP rfl]
  ·rw [BL e];cases aC kvs j with
   | none=>rfl
   | some x=>rw [Gi,BL e]
 ·rw [BL a];refine J2 k j y kvs ?_;rw [p5] at a;cases q:aC kvs k with
  | none=>rfl
  | some x=>rw [q] at a;exact(a rfl).elim
theorem ig(kvs:List<|κ×V)(k:κ)(v:V):(putK kvs k v).length<=kvs.length+1:=by
 unfold putK
 split
 ·rw [Aa];omega
 ·rw [Ag,At,Fb];omega
theorem J3{kvs:List (κ×V)}{k:κ}(v:V)(h:aC kvs k=none):putK kvs k v=kvs++[(k,v)]:=by
 unfold putK;rw [p5,h];exact BL<|by decide
theorem da.bR{o:Option V}{u:Option Value}(r:da o u):o.isSome=u.isSome:=by
 cases o with
 | none=>cases u with
  | none=>rfl
  | some _=>exact(show False from r).elim
 | some _=>cases u with
  | none=>exact(show False from r).elim
  | some _=>rfl
theorem KV.val{kvs:List (κ×V)}{vs:List (κ×Value)}(r:KV kvs vs)(k:κ):da (aC kvs k) (valueAt vs k):=by
 unfold KV at r
 induction r with
 | nil=>exact True.intro
 | @cons p q ps qs h t ih=>
  obtain⟨h1,h2⟩:=h
  by_cases e:p.1=k
  ·have e':q.1=k:=h1.symm.trans e;have b:valueAt (q :: qs) k=some q.2:=by simp [valueAt,Fa,e']
   rw [gP e,b];exact h2
  ·have e':¬ q.1=k:=λz=>e<|h1.trans z;have b:valueAt (q :: qs) k=valueAt qs k:=by simp [valueAt,Fa,e']
   rw [gg e,b];exact ih
theorem KV.any{kvs:List (κ×V)}{vs:List (κ×Value)}(r:KV kvs vs)(k:κ):(kvs.any λkv=>decide (kv.1=k))=vs.any λkv=>decide (kv.1=k):=by
 unfold KV at r
 induction r with
 | nil=>rfl
 | cons h t ih=>rw [Fp,Fp,ih,h.1]
theorem KV.repl{kvs:List (κ×V)}{vs:List (κ×Value)}(r:KV kvs vs)(k:κ){y:V}{u:Value}(ry:RelV y u) :
  KV (kvs.map λkv=>if kv.1=k then(kv.1,y) else kv) (vs.map λkv=>if kv.1=k then(kv.1,u) else kv):=by
 unfold KV at r ⊢
 induction r with
 | nil=>exact .nil
 | @cons p q ps qs h t ih=>
  rw [Bd,Bd];refine .cons ?_ ih;obtain⟨h1,h2⟩:=h
  by_cases e:p.1=k
  ·rw [BP e,BP<|h1.symm.trans e];exact⟨h1,ry⟩
  ·rw [BL e,BL λz=>e<|h1.trans z];exact⟨h1,h2⟩
theorem KV.put{kvs:List (κ×V)}{vs:List (κ×Value)}(r:KV kvs vs)(k:κ){y:V}{u:Value}(ry:RelV y u):KV (putK kvs k y) (stored vs k u):=by
 unfold putK stored;rw [r.any k]
 by_cases e:(vs.any λkv=>decide (kv.1=k))=true
 ·rw [BP e,BP e];exact r.repl k ry
 ·rw [BL e,BL e];exact Paired.snoc r ⟨rfl,ry⟩
theorem KV.length{kvs:List (κ×V)}{vs:List (κ×Value)}(r:KV kvs vs):kvs.length=vs.length:=Paired.length r
end
theorem lS{P:Program}{w:World}{k:Key}{u:Value}(r:RelV (kV k) u):(bO P w).is k u=true:=by
 cases k with
 | inl i=>obtain⟨t,e⟩:=(show ∃ t,u=Value.int i t from r);subst e;exact RA P w i t
 | inr x=>obtain⟨t,e⟩:=(show ∃ t,u=Value.str x t from r);subst e;exact RC P w x t
theorem J5{P:Program}{w:World}:∀{ks:List Key} {us:List Value},au (ks.map kV) us->ItemsAre (bO P w) ks us
 | [],_,r=>by rw [List.map_nil] at r;cases r;exact .nil
 | k :: ks,_,r=>by
  rw [Bd] at r;cases r with
  | cons h t=>exact .cons (lS h)<|J5 t
abbrev KT(H:Hp):List (List Key×V)->List (List Key×Addr×Value)->Prop:=Paired λp q=>p.1=q.1/\H q.2.1=some (.tup<|p.1.map kV)/\RelV p.2 q.2.2
theorem KT.val{H:Hp}{kvs:List (List Key×V)}{xs:List (List Key×Addr×Value)}(r:KT H kvs xs)(k:List Key):da (aC kvs k) ((atKey xs k).map (·.2)):=by
 induction r with
 | nil=>exact True.intro
 | @cons p q ps qs h t ih=>
  obtain⟨h1,_,h2⟩:=h
  by_cases e:p.1=k
  ·have e':q.1=k:=h1.symm.trans e;have b:atKey (q :: qs) k=some q.2:=by simp [atKey,Fa,e']
   rw [gP e,b];exact h2
  ·have e':¬ q.1=k:=λz=>e<|h1.trans z;have b:atKey (q :: qs) k=atKey qs k:=by simp [atKey,Fa,e']
   rw [gg e,b];exact ih
theorem KT.repl{H:Hp}{kvs:List (List Key×V)}{xs:List (List Key×Addr×Value)}(r:KT H kvs xs)(k:List Key){y:V}{u:Value}(ry:RelV y u) :
  KT H (kvs.map λkv=>if kv.1=k then(kv.1,y) else kv) (xs.map<|putAt k u):=by
 induction r with
 | nil=>exact .nil
 | @cons p q ps qs h t ih=>
  rw [Bd,Bd];refine .cons ?_ ih;obtain⟨h1,h2,h3⟩:=h;unfold putAt
  by_cases e:p.1=k
  ·rw [BP e,BP<|h1.symm.trans e];exact⟨h1,h2,ry⟩
  ·rw [BL e,BL λz=>e<|h1.trans z];exact⟨h1,h2,h3⟩
theorem KT.put{H:Hp}{kvs:List (List Key×V)}{xs:List (List Key×Addr×Value)}(r:KT H kvs xs)(k:List Key){b:Addr}{y:V}{u:Value}(hb:H b=some (.tup<|k.map kV))(ry:RelV y u) :
  KT H (putK kvs k y) (storedH xs k b u):=by
 have e:(kvs.any λkv=>decide (kv.1=k))=(atKey xs k).isSome:=by
  rw [p5,(r.val k).bR,QJ]
 unfold putK storedH;rw [e]
 by_cases q:(atKey xs k).isSome=true
 ·rw [BP q,BP q];exact r.repl k ry
 ·rw [BL q,BL q];exact Paired.snoc r ⟨rfl,hb,ry⟩
theorem KT.keeps{H H':Hp}{kvs:List (List Key×V)}{xs:List (List Key×Addr×Value)}(r:KT H kvs xs)(ht:∀ b ys,H b=some (.tup ys)->H' b=some (.tup ys)):KT H' kvs xs:=
 Paired.mX r λ_ _ z=>⟨z.1,ht _ _ z.2.1,z.2.2⟩
section
variable{P:Program}{w:World}{H:Hp}{h:Heap}{a:Addr}
theorem J6{u:HO}(ok:b5 P w H h)(e:Rd H a u):ax P w H h a u:=e.ok ok
theorem p7{kvs:List (Key×V)}(ok:b5 P w H h)(e:Rd H a<|.dK kvs):kvs.length<=sizeLine/\(a == sysModules)=false/\∃ vs,KV kvs vs/\h.DictOf (bO P w) a vs:=
 show ax P w H h a (.dK kvs) from J6 ok e
theorem zh{kvs:List (Key×V)}(ok:b5 P w H h)(e:H a=some (.dK kvs)):kvs.length<=sizeLine/\(a == sysModules)=false/\∃ vs,KV kvs vs/\h.DictOf (bO P w) a vs:=p7 ok<|.inl e
theorem jL{ks:List Key}(ok:b5 P w H h)(e:H a=some (.tup<|ks.map kV)):(tupleKind<|bO P w).is h ks a:=by
 obtain⟨_,its,r,o,h1,h2,n,h3⟩:=(show ax P w H h a (.tup<|ks.map kV) from ok a _ e);exact⟨o,its.toArray,n,h1,h2,h3,by simpa using J5 r⟩
theorem rQ{kvs:List (List Key×V)}(ok:b5 P w H h)(e:Rd H a<|.dT kvs):kvs.length<=sizeLine/\(a == sysModules)=false /\
  ∃ xs,KT H kvs xs/\h.DictOfH (tupleKind<|bO P w) a xs:=by
 obtain⟨z,y,xs,r,o,es,ep,h1,h2,h3,h4,h5⟩:=(show ax P w H h a (.dT kvs) from J6 ok e);refine⟨z,y,xs,r,o,es,ep,h1,h2,h3,h4,λx hx=>?_,h5⟩;have all:∀{l:List (List Key×V)} {m:List (List Key×Addr×Value)},KT H l m->∀ x∈m,(tupleKind<|bO P w).is h x.1 x.2.1:=by
  intro l m q
  induction q with
  | nil=>intro x hx;exact nomatch hx
  | @cons p q ps qs hq t ih=>
   intro x hx
   rcases Aj.mp hx with e | hx
   ·subst e;exact jL ok<|by rw [<- hq.1];exact hq.2.1
   ·exact ih x hx
 exact all r x hx
theorem J7{kvs:List (List Key×V)}(ok:b5 P w H h)(e:H a=some (.dT kvs)):kvs.length<=sizeLine/\(a == sysModules)=false /\
  ∃ xs,KT H kvs xs/\h.DictOfH (tupleKind<|bO P w) a xs:=rQ ok<|.inl e
end
def bh(H:Hp)(a:Addr)(y:V)(r:Option V):Prop:=
 (∃ kvs k,Rd H a (.dK kvs)/\y=kV k/\r=aC kvs k)\/∃ kvs k b,Rd H a (.dT kvs)/\y = .ref b/\H b=some (.tup<|k.map kV)/\r=aC kvs k
def b6(H:Hp)(a:Addr)(y v:V)(H':Hp):Prop:=
 (∃ kvs k,H a=some (.dK kvs)/\y=kV k/\kvs.length < sizeLine/\H'=upd H a (.dK<|putK kvs k v)) \/
 ∃ kvs k b,H a=some (.dT kvs)/\y = .ref b/\H b=some (.tup<|k.map kV)/\kvs.length < sizeLine/\H'=upd H a (.dT<|putK kvs k v)
theorem bh.k{H:Hp}{a:Addr}{kvs:List (Key×V)}{k:Key}(e:H a=some (.dK kvs)):bh H a (kV k) (aC kvs k):= .inl ⟨kvs,k,.inl e,rfl,rfl⟩
theorem bh.t{H:Hp}{a b:Addr}{kvs:List (List Key×V)}{k:List Key}(e:H a=some (.dT kvs))(eb:H b=some (.tup<|k.map kV)):bh H a (.ref b) (aC kvs k):= .inr ⟨kvs,k,b,.inl e,rfl,eb,rfl⟩
theorem b6.k{H:Hp}{a:Addr}{kvs:List (Key×V)}{k:Key}{v:V}(e:H a=some (.dK kvs))(hl:kvs.length < sizeLine):b6 H a (kV k) v (upd H a<|.dK<|putK kvs k v):= .inl ⟨kvs,k,e,rfl,hl,rfl⟩
theorem b6.t{H:Hp}{a b:Addr}{kvs:List (List Key×V)}{k:List Key}{v:V}(e:H a=some (.dT kvs))(eb:H b=some (.tup<|k.map kV))(hl:kvs.length < sizeLine) :
  b6 H a (.ref b) v (upd H a<|.dT<|putK kvs k v):= .inr ⟨kvs,k,b,e,rfl,eb,hl,rfl⟩
section
variable{X:Cx}{pins:List (Addr×Obj)}{σ:St}{H:Hp}{s:Shared}{a:Addr}{y v:V}{u r:Value}{o:Option V}{A:Around}{E:Value->Shared->Prop}
theorem Inv.big(I:Inv X pins σ H s):sysModules < s.heap.objs.size:=by
 have h:mainGlobals < s.heap.objs.size:=(I.mod.glob.keeps I.bk).lt;exact TX (by decide) h
theorem Uw{Q:Value->Shared->Prop}(hu:A.units+1 < cLine)(I:Inv X pins σ H s)(g:bh H a y<|some v)(ry:RelV y u)(h:∀ w' s',Inv X pins σ H s'->RelV v w'->Q w' s') :
  wpAny (model X.prog X.w) A (getItem (.ref a) u) Q E s:=by
 rcases g with ⟨kvs,k,e,ey,l⟩ | ⟨kvs,k,b,e,ey,eb,l⟩
 ·subst ey;obtain⟨z,hd,vs,rel,dd⟩:=p7 I.aD e;obtain⟨w',hw,e9⟩:=da.some_of (v:=v) (o:=valueAt vs k) (by rw [l];exact rel.val k);exact wpAny_getItem_of (lS ry) dd.mapOf hw<|h w' _ (I.tok _) e9
 ·subst ey;cases (show u=Value.ref b from ry);obtain⟨z,hd,xs,rel,dd⟩:=rQ I.aD e;obtain⟨w',hw,e9⟩:=da.some_of (v:=v) (o:=(atKey xs k).map (·.2)) (by rw [l];exact rel.val k);obtain⟨p,hp,ii⟩:=Ao.mp hw;refine wpAny_getItem_heap (FN hu) (jL I.aD eb) dd hp ?_;rw [ii];exact h w' _ (I.tok _) e9
theorem zi{Q:Value->Shared->Prop}(hu:A.units+1 < cLine)(I:Inv X pins σ H s)(g:bh H a y o)(ry:RelV y u)(h:∀ s',Inv X pins σ H s'->Q (.bool o.isSome) s') :
  wpAny (model X.prog X.w) A (compareOp .In u<|.ref a) Q E s:=by
 rcases g with ⟨kvs,k,e,ey,l⟩ | ⟨kvs,k,b,e,ey,eb,l⟩
 ·subst ey;obtain⟨z,hd,vs,rel,dd⟩:=p7 I.aD e;refine wpAny_in_of (lS ry) hd dd.mapOf ?_;rw [<- (rel.val k).bR,<- l];exact h _<|I.tok _
 ·subst ey;cases (show u=Value.ref b from ry);obtain⟨z,hd,xs,rel,dd⟩:=rQ I.aD e;refine wpAny_in_heap (FN hu) (jL I.aD eb) hd dd ?_;have q:=(rel.val k).bR;rw [QJ] at q;rw [<- q,<- l];exact h _<|I.tok _
theorem Ux{Q:Value->Shared->Prop}(hu:A.units+1 < cLine)(I:Inv X pins σ H s)(g:bh H a y o)(ry:RelV y u)(h:∀ s',Inv X pins σ H s'->Q (.bool (!o.isSome)) s') :
  wpAny (model X.prog X.w) A (compareOp .NotIn u<|.ref a) Q E s:=by
 rcases g with ⟨kvs,k,e,ey,l⟩ | ⟨kvs,k,b,e,ey,eb,l⟩
 ·subst ey;obtain⟨z,hd,vs,rel,dd⟩:=p7 I.aD e;refine wpAny_notIn_of (lS ry) hd dd.mapOf ?_;rw [<- (rel.val k).bR,<- l];exact h _<|I.tok _
 ·subst ey;cases (show u=Value.ref b from ry);obtain⟨z,hd,xs,rel,dd⟩:=rQ I.aD e;refine wpAny_notIn_heap (FN hu) (jL I.aD eb) hd dd ?_;have q:=(rel.val k).bR;rw [QJ] at q;rw [<- q,<- l];exact h _<|I.tok _
theorem lT{h':Heap}{t':Nat}{ob:HO}(I:Inv X pins σ H s)(mu:qZ<|H a)(hs:Heap.SameBut a s.heap h')(he:∃ q,h'.get? a=some q)(new:ax X.prog X.w (upd H a ob) h' a ob) :
  Inv X pins σ (upd H a ob) {s with heap:=h',toks:=t'}:=
 I.write (x:=a) (e:=a) mu (.inl rfl) (λb q hb z=>(hs.2 b hb).trans z) he new
theorem zl{P:Program}{w:World}{H':Hp}{h':Heap}{kvs:List (Key×V)}{vs:List (Key×Value)}(z:kvs.length<=sizeLine)(hd:(a == sysModules)=false)(rel:KV kvs vs)(dd:h'.DictOf (bO P w) a vs) :
  ax P w H' h' a (.dK kvs):=⟨z,hd,vs,rel,dd⟩
theorem Uy{H':Hp}{Q:Unit->Shared->Prop}(hu:A.units+1 < cLine)(I:Inv X pins σ H s)(g:b6 H a y v H')(ry:RelV y u)(rv:RelV v r)(h:∀ s',Inv X pins σ H' s'->Q () s') :
  wpAny (model X.prog X.w) A (setItem (.ref a) u r) Q E s:=by
 rcases g with ⟨kvs,k,e,ey,l,eH⟩ | ⟨kvs,k,b,e,ey,eb,l,eH⟩
 ·subst ey eH;obtain⟨z,hd,vs,rel,dd⟩:=zh I.aD e;have hz:vs.length<=sizeLine:=by rw [<- rel.length];exact z
  have hl:(putK kvs k v).length<=sizeLine:=by have:=ig kvs k v;omega
  refine wpAny_setItem_pairs (hsz:=hz) (lS ry) dd λh' iK hs=>h _ ?_;have he:∃ q,h'.get? a=some q:=let ⟨q,_,_,hq,_⟩:=iK;⟨q,hq⟩
  exact lT I (by rw [e];exact True.intro) hs he<|zl hl hd (rel.put k rv) iK
 ·subst ey eH;cases (show u=Value.ref b from ry);obtain⟨z,hd,xs,rel,dd⟩:=J7 I.aD e;have hz:xs.length<=sizeLine:=by rw [<- Paired.length rel];exact z
  have hl:(putK kvs k v).length<=sizeLine:=by have:=ig kvs k v;omega
  refine wpAny_setItem_heap (hsz:=hz) (FN hu) (jL I.aD eb) dd λh' iK hs=>h _ ?_;obtain⟨q,es,ep,hq,h2,h3,h4,_,h5⟩:=iK;refine lT I (by rw [e];exact True.intro) hs ⟨q,hq⟩ ⟨hl,hd,_,(rel.put k eb rv).keeps λc ys ec=>?_,q,es,ep,hq,h2,h3,h4,h5⟩;rw [av<|b7 ec e λz=>nomatch z];exact ec
end
section
variable{X:Cx}{pins:List (Addr×Obj)}{σ:St}{H:Hp}{s:Shared}{a:Addr}{kvs:List (Key×V)}{k:Key}{u:Value}{A:Around}{E:Value->Shared->Prop}
theorem Uz{Q:Value->Shared->Prop}(I:Inv X pins σ H s)(e:Rd H a<|.dK kvs)(h:∀ t s',Inv X pins σ H s'->Q (.int kvs.length t) s'):wpAny (model X.prog X.w) A (call (.builtin "len") [.ref a]) Q E s:=by
 obtain⟨z,hd,vs,rel,dd⟩:=p7 I.aD e;refine call_len_dict hd dd (by rw [<- rel.length];rw [DQ] at z;omega) ?_;rw [<- rel.length];exact h _ _<|I.tok _
end
def nh(i:Expr):Prop:=∀ ov iv,subscripted i false ov iv=operate [ov,iv] (getItem ov iv)
theorem UA{prog:Program}{w:World}{A:Around}{E:Value->Shared->Prop}{s:Shared}{env:Env}{value slice:Expr}{pos:Pos}{T id:String}{Q:Value->Shared->Prop}
  (hl:typeLookup (.type T) "__getitem__" = pure (some<|.builtin id)) (hs:nh slice)
  (h:wpAny (model prog w) A (eval value env) (λo s₁=>wpAny (model prog w) A (eval slice env) (λi s₂=>s₂.TypeIs o T/\wpAny (model prog w) A (getItem o i) Q E s₂) E s₁) E s) :
  wpAny (model prog w) A (eval (.Subscript value slice pos) env) Q E s:=by
 refine Subscript_<|CT h (λo s₁ h₁=>CT h₁ (λi s₂ h₂=>?_) λ_ _ x=>x) λ_ _ x=>x;obtain⟨hT,h₂⟩:=h₂;unfold subscriptTail;refine BJ ?_;rw [getitemInPython_of_ne hT.not_modules];refine BJ<|MK hT hl ?_;have fin:wpAny (model prog w) A (subscripted slice false o i) (λr s₃=>wpAny (model prog w) A (letTemporaryGo value o r >>= λ_=>pure r) Q E s₃) E s₂:=by
  rw [hs o i];exact wpAny_operating<|CT h₂ (λr s₃ h₃=>BJ<|wpAny_letTemporaryGo<|BK h₃) λ_ _ x=>x
 first
  | exact BK<|BJ fin
  | exact BJ<|BK<|BJ fin
  | exact BJ fin
theorem UB{X:Cx}{pins:List (Addr×Obj)}{σ:St}{H:Hp}{s:Shared}{a:Addr}{y:V}{o:Option V}(I:Inv X pins σ H s)(g:bh H a y o):s.TypeIs (.ref a) "dict":=by
 rcases g with ⟨kvs,k,e,_,_⟩ | ⟨kvs,k,b,e,_,_,_⟩
 ·obtain⟨_,_,vs,_,dd⟩:=p7 I.aD e;exact dd.typeIs
 ·obtain⟨_,_,xs,_,dd⟩:=rQ I.aD e;exact dd.typeIs
def UC(td ty:TE):TE:=λσ H Q=>td σ H λx H1=>ty σ H1 λy H2=>∃ a v,x = .ref a/\bh H2 a y (some v)/\Q v H2
def zp(ty td:TE):TE:=λσ H Q=>ty σ H λy H1=>td σ H1 λx H2=>∃ a o,x = .ref a/\bh H2 a y o/\Q (.bl o.isSome) H2
def UD(ty td:TE):TE:=λσ H Q=>ty σ H λy H1=>td σ H1 λx H2=>∃ a o,x = .ref a/\bh H2 a y o/\Q (.bl (!o.isSome)) H2
def UE(td ty tv:TE):TS:=λD σ H=>tv σ H λv H1=>td σ H1 λx H2=>ty σ H2 λy H3=>∃ a H4,x = .ref a/\b6 H3 a y v H4/\D.nx σ H4
section
variable{X:Cx}{o i e value:Expr}{pos pos' yM:Pos}{td ty tv:TE}
theorem UG(hu:X.A.units+1 < cLine)(ho:PE X o td)(hi:PE X i ty)(hs:nh i):PE X (.Subscript o i pos) (UC td ty):=by
 intro pins s σ H Q I h;refine UA PySem.F.slot_dict_getitem.lookup hs<|aI (ho pins s σ H _ I h) λu s1 ⟨x,H1,I1,rx,q1⟩=>aI (hi pins s1 σ H1 _ I1 q1) λiv s2 ⟨y,H2,I2,ry,a,v,ex,g,q2⟩=>?_;subst ex;obtain rfl:u=Value.ref a:=rx;exact⟨UB I2 g,Uw hu I2 g ry λw' s3 I3 e9=>⟨v,H2,I3,e9,q2⟩⟩
theorem UH(hu:X.A.units+1 < cLine)(hi:PE X i ty)(ho:PE X o td):PC X .In i o (zp ty td):=by
 intro pins s σ H Q I h;refine aI (hi pins s σ H _ I h) λiv s1 ⟨y,H1,I1,ry,q1⟩=>aI (ho pins s1 σ H1 _ I1 q1) λu s2 ⟨x,H2,I2,rx,a,ov,ex,g,q2⟩=>?_;subst ex;obtain rfl:u=Value.ref a:=rx;exact zi hu I2 g ry λs3 I3=>⟨.bl ov.isSome,H2,I3,rfl,q2⟩
theorem UI(hu:X.A.units+1 < cLine)(hi:PE X i ty)(ho:PE X o td):PC X .NotIn i o (UD ty td):=by
 intro pins s σ H Q I h;refine aI (hi pins s σ H _ I h) λiv s1 ⟨y,H1,I1,ry,q1⟩=>aI (ho pins s1 σ H1 _ I1 q1) λu s2 ⟨x,H2,I2,rx,a,ov,ex,g,q2⟩=>?_;subst ex;obtain rfl:u=Value.ref a:=rx;exact Ux hu I2 g ry λs3 I3=>⟨.bl (!ov.isSome),H2,I3,rfl,q2⟩
theorem UJ(hu:X.A.units+1 < cLine)(ho:PE X o td)(hi:PE X i ty)(hv:PE X value tv)(hs:swapsWith value (some<|.Subscript o i pos') pos.line X.env=pure false) :
  PS X (.Assign [.Subscript o i pos'] value pos) (UE td ty tv):=by
 intro pins s σ H D I h;refine wpAny_Assign_Subscript (aI (hv pins s σ H _ I h) λr s1 ⟨v,H1,I1,rv,q1⟩=>aI (ho pins s1 σ H1 _ I1 q1) λu s2 ⟨x,H2,I2,rx,q2⟩=>aI (hi pins s2 σ H2 _ I2 q2) λiv s3 ⟨y,H3,I3,ry,a,H4,ex,g,q3⟩=>?_) hs;subst ex;obtain rfl:u=Value.ref a:=rx;exact Uy hu I3 g ry rv λs4 I4=>⟨σ,H4,I4,q3⟩
end
theorem J8{P:Program}{w:World}{H:Hp}(h:Heap)(hb:sysModules < h.objs.size):ax P w H (h.push {cls:= .type "dict",data:= .dict #[]}) h.objs.size (.dK []):=
 ⟨Bu _,beq_eq_false_iff_ne.mpr<|CG<|Bt hb,[],.nil,Heap.DictOf.new h⟩
theorem zq{P:Program}{w:World}{H:Hp}(h:Heap)(hb:sysModules < h.objs.size):ax P w H (h.push {cls:= .type "dict",data:= .dict #[]}) h.objs.size (.dT []):=
 ⟨Bu _,beq_eq_false_iff_ne.mpr<|CG<|Bt hb,[],.nil,_,#[],0,Ap _ rfl,⟨rfl,rfl,rfl⟩,rfl,rfl,Cp⟩
def UK:TE:=λ_ H Q=>∀ p,H p=none->Q (.ref p) (upd H p<|.dK [])
def UL:TE:=λ_ H Q=>∀ p,H p=none->Q (.ref p) (upd H p<|.dT [])
section
variable{X:Cx}{pos:Pos}
theorem UM:PE X (.Dict [] [] pos) UK:=λpins s σ H Q I h=>
 wpAny_Dict_empty ⟨.ref s.heap.objs.size,_,I.laid (a:=s.heap.objs.size) (o:= .dK []) (t':=s.toks) (λ_ _ q=>Af _ q) (Al _)<|J8 s.heap I.big,rfl,h _<|I.aD.fresh<|Al _⟩
theorem UN:PE X (.Dict [] [] pos) UL:=λpins s σ H Q I h=>
 wpAny_Dict_empty ⟨.ref s.heap.objs.size,_,I.laid (a:=s.heap.objs.size) (o:= .dT []) (t':=s.toks) (λ_ _ q=>Af _ q) (Al _)<|zq s.heap I.big,rfl,h _<|I.aD.fresh<|Al _⟩
end
section
variable{X:Cx}{pins:List (Addr×Obj)}{σ:St}{H:Hp}{s:Shared}{a:Addr}{y d:V}{u r:Value}{o:Option V}{A:Around}{E:Value->Shared->Prop}
end
section
variable{X:Cx}{o e f:Expr}{apos df:Pos}{td ty tx:TE}
end
section
variable{X:Cx}{pins:List (Addr×Obj)}{σ:St}{H:Hp}{s:Shared}{a:Addr}{kvs:List (Key×V)}{A:Around}{E:Value->Shared->Prop}
end
section
variable{X:Cx}{pins:List (Addr×Obj)}{σ:St}{H:Hp}{s:Shared}{a:Addr}{y:V}{u:Value}{A:Around}{E:Value->Shared->Prop}
end
section
variable{X:Cx}
theorem UO:dE X (.builtin "len") (λxs H Q=>∃ a kvs,xs=[V.ref a]/\H a=some (.dK kvs)/\Q (.int kvs.length) H):=by
 intro pins s σ H xs us Q I r h;obtain⟨a,kvs,rfl,ha,q⟩:=h;obtain⟨u,rfl,ru⟩:=vals1 r;cases ru;exact Uz I (.inl ha) λt s' I'=>⟨.int kvs.length,H,I',⟨t,rfl⟩,q⟩
end
section
variable{κ:Type} [DecidableEq κ]
theorem J9{kvs:List (κ×V)}{k:κ}{v:V}(h:aC kvs k=some v):k∈kvs.map (·.1):=by
 have q:(kvs.any λkv=>decide (kv.1=k))=true:=by
  rw [p5,h]
  all_goals rfl
 obtain⟨p,hp,e⟩:=List.any_eq_true.mp q;exact Am.mpr ⟨p,hp,BZ e⟩
theorem ni:∀{l:List κ} {k:κ},l.Nodup->¬ k∈l->(l++[k]).Nodup
 | [],k,_,_=>by simp
 | a :: r,k,h,hk=>by
  obtain⟨h1,h2⟩:=Bq.mp h;show(a :: (r++[k])).Nodup;refine Bq.mpr ⟨λm=>?_,ni h2 λm=>hk<|Aj.mpr<|Or.inr m⟩
  rcases Aq.mp m with q | q
  ·exact h1 q
  ·exact hk<|Aj.mpr<|Or.inl (Ai.mp q).symm
end
def nj(z:Str):It:=⟨λi _=>i < z.cps.size,λi H x H'=>H'=H/\∃ c,z.cps[i]?=some c/\x = .str ⟨#[c]⟩,λi _=>z.cps.size<=i⟩
theorem UP{P:Program}{w:World}{K:PySem.W.Frag}{tg:Expr}(it:Addr)(z:Str)(t:Tok):Turn P w K tg (nj z) [it] it (λi h=>h.IsStrIter it "str_ascii_iterator" z t i) where
 mem:=by simp
 obj:=λi h st b hb=>by
  have e:b=it:=by simpa using hb
  subst e;obtain⟨o,e,c,d⟩:=st;exact⟨o,e,λv z=>by rw [d] at z;cases z⟩
 keep:=λi h h' st k=>let ⟨o,ho,r⟩:=st;⟨o,k it (by simp) o ho,r⟩
 item:=by
  intro X hP hw hK hc i pins s σ H E I hf st hg;subst hP hw hK;obtain⟨f0,f1,f2,f3,f4,f5⟩:=hf it (by simp);have hi:i < z.cps.size:=hg;refine wpAny_pyNext_ascii_item st (c:=z.cps[i]) (by simp [hi]) λh' cw eF=>?_;have I1:Inv X pins σ H {s with heap:=h',toks:=s.toks+1}:=I.turned (λb o hb e=>eF.extBut b o hb e) f0 f1 f3 f4 f5;obtain⟨o,e,c,d⟩:=id cw;exact⟨_,rfl,ro (s:={s with heap:=h',toks:=s.toks+1}) e c d (by decide) ⟨.str ⟨#[z.cps[i]]⟩,H,I1,⟨_,rfl⟩,⟨rfl,z.cps[i],by simp [hi],rfl⟩,cw,λb hb=>(hf b hb).1⟩⟩
 done:=by
  intro X hP hw hK hc i pins s σ H E I hf st hg;subst hP hw hK;obtain⟨f0,f1,f2,f3,f4,f5⟩:=hf it (by simp);have hi:z.cps.size<=i:=hg;exact wpAny_pyNext_ascii_end (I.ok.hd hc) st (by simp;exact hi) λh' eb=>⟨rfl,I.turned (t':=s.toks) (λb o hb e=>eb b o hb e) f0 f1 f3 f4 f5⟩
 self:=λ_ _ _ _ _ st h=>wpAny_pyIter_striter_ascii st h
theorem UQ{P:Program}{w:World}{K:PySem.W.Frag}{tg:Expr}(it:Addr)(z:Str)(t:Tok):Turn P w K tg (nj z) [it] it (λi h=>h.IsStrIter it "str_iterator" z t i) where
 mem:=by simp
 obj:=λi h st b hb=>by
  have e:b=it:=by simpa using hb
  subst e;obtain⟨o,e,c,d⟩:=st;exact⟨o,e,λv z=>by rw [d] at z;cases z⟩
 keep:=λi h h' st k=>let ⟨o,ho,r⟩:=st;⟨o,k it (by simp) o ho,r⟩
 item:=by
  intro X hP hw hK hc i pins s σ H E I hf st hg;subst hP hw hK;obtain⟨f0,f1,f2,f3,f4,f5⟩:=hf it (by simp);have hi:i < z.cps.size:=hg;refine wpAny_pyNext_wide_item st (c:=z.cps[i]) (by simp [hi]) λh' cw eF=>?_;have I1:Inv X pins σ H {s with heap:=h',toks:=s.toks+1}:=I.turned (λb o hb e=>eF.extBut b o hb e) f0 f1 f3 f4 f5;obtain⟨o,e,c,d⟩:=id cw;exact⟨_,rfl,ro (s:={s with heap:=h',toks:=s.toks+1}) e c d (by decide) ⟨.str ⟨#[z.cps[i]]⟩,H,I1,⟨_,rfl⟩,⟨rfl,z.cps[i],by simp [hi],rfl⟩,cw,λb hb=>(hf b hb).1⟩⟩
 done:=by
  intro X hP hw hK hc i pins s σ H E I hf st hg;subst hP hw hK;obtain⟨f0,f1,f2,f3,f4,f5⟩:=hf it (by simp);have hi:z.cps.size<=i:=hg;exact wpAny_pyNext_wide_end (I.ok.hd hc) st (by simp;exact hi) λh' eb=>⟨rfl,I.turned (t':=s.toks) (λb o hb e=>eb b o hb e) f0 f1 f3 f4 f5⟩
 self:=λ_ _ _ _ _ st h=>wpAny_pyIter_striter_wide st h
def zt(tl:TE):TI:=λσ H R=>tl σ H λx H1=>∃ z,x = .str z/\R (nj z) H1
section
variable{X:Cx}{tg:Expr}
theorem UR{l:Expr}{tl:TE}(hl:PE X l tl):PI X tg l (zt tl):=by
 intro pins s σ H R I h;refine aI (hl pins s σ H _ I h) λv s1 ⟨x,H1,I1,r1,q1⟩=>?_;obtain⟨z,e,q⟩:=q1;subst e;obtain⟨t,rfl⟩:=r1;have fp:∀ b∈[s1.heap.objs.size],bV X pins H1 b:=λb hb=>by
  have e:b=s1.heap.objs.size:=by simpa using hb
  subst e;exact I1.ga (Al _)<|I1.aD.fresh<|Al _
 cases ha:z.cps.all (· < 128)
 ·exact wpAny_pyIter_wide ha ⟨s1.heap.objs.size,[s1.heap.objs.size],_,_,H1,rfl,I1.kept (t':=s1.toks) λb o e=>Af _ e,UQ _ z t,⟨_,Ap _ rfl,rfl,rfl⟩,fp,q⟩
 ·exact wpAny_pyIter_ascii ha ⟨s1.heap.objs.size,[s1.heap.objs.size],_,_,H1,rfl,I1.kept (t':=s1.toks) λb o e=>Af _ e,UP _ z t,⟨_,Ap _ rfl,rfl,rfl⟩,fp,q⟩
end
theorem q9k{z:Str}{g:TG}{tb:TS}{D:Ends}{σ:St}{H:Hp}(Pv:Nat->St->Hp->Prop)(h0:Pv 0 σ H)
  (hs:∀ i c σ H,z.cps[i]?=some c->Pv i σ H->g (.str ⟨#[c]⟩) σ H λσ2 H2=>tb {D with nx:=Pv<|i+1,ct:=Pv<|i+1,bk:=D.nx} σ2 H2) (hd:∀ σ H,Pv z.cps.size σ H->D.nx σ H) :
  ∃ W:Nat->Nat->St->Hp->Prop,(∃ m,W 0 m σ H)/\∀ i m σ H,W i m σ H ->
   ((nj z).stop i H/\D.nx σ H)\/((nj z).go i H/\∃ N:St->Hp->Prop,(∀ σ' H',N σ' H'->∃ m',m' < m/\W (i+1) m' σ' H')/\∀ x H',(nj z).pR i H x H'->g x σ H' λσ2 H2=>tb {D with nx:=N,ct:=N,bk:=D.nx} σ2 H2):=by
 refine⟨λi m σ H=>m=z.cps.size - i/\i<=z.cps.size/\Pv i σ H,⟨z.cps.size,by simp,Bu _,h0⟩,?_⟩;rintro i m σ H ⟨rfl,hi,p⟩
 by_cases aM:i < z.cps.size
 ·refine .inr ⟨aM,Pv<|i+1,λσ' H' p'=>⟨z.cps.size - (i+1),by omega,rfl,aM,p'⟩,λx H' y=>?_⟩;obtain⟨e,c,hc,y⟩:=y;subst e y;exact hs i c σ _ hc p
 ·have e:i=z.cps.size:=by omega
  subst e;exact .inl ⟨Al _,hd σ H p⟩
theorem J'{env:Env}:∀{names:List (Str×NameKind)} {x:Str} {k':NameKind},
  (names.map λ(n,k)=>if(k == NameKind.free && env.scope.kind == .function && env.kindOf n == some .cell) then(n,NameKind.cell) else(n,k)).lookup x=some k' ->
  ∃ k,names.lookup x=some k/\(k'=k\/(k = .free/\k' = .cell))
 | [],_,_,h=>by simp at h
 | (n,k) :: r,x,k',h=>by
  have ih:=@J' env r x k'
  change List.lookup x ((if(k == NameKind.free && env.scope.kind == .function && env.kindOf n == some .cell)=true then(n,NameKind.cell) else(n,k)) :: _)=_ at h
  cases hx:x == n with
  | true=>
   by_cases hc:(k == NameKind.free && env.scope.kind == .function && env.kindOf n == some .cell)=true
   ·rw [BP hc] at h;simp only [Dr,hx] at h;cases h;have hk:k = .free:=by
     have:=(Cf _ _ ▸ (Cf _ _ ▸ hc).1).1;cases k <;> first | rfl | (exact absurd this<|by decide)
    exact⟨k,by simp [Dr,hx],.inr ⟨hk,rfl⟩⟩
   ·rw [BL hc] at h;simp only [Dr,hx] at h;cases h;exact⟨k,by simp [Dr,hx],.inl rfl⟩
  | false=>
   have h2:∃ k,r.lookup x=some k/\(k'=k\/(k = .free/\k' = .cell)):=by
    by_cases hc:(k == NameKind.free && env.scope.kind == .function && env.kindOf n == some .cell)=true
    ·rw [BP hc] at h;simp only [Dr,hx] at h;exact ih h
    ·rw [BL hc] at h;simp only [Dr,hx] at h;exact ih h
   obtain⟨k2,e2,r2⟩:=h2;exact⟨k2,by simp [Dr,hx,e2],r2⟩
def cn(names:List<|Str×NameKind)(cells:List<|Str×Addr)(acc:List<|Str×Addr):List (Str×Addr):=
 names.foldl (λa x=>if x.2 == .free then(match cells.lookup x.1 with | some c=>(x.1,c) :: a | none=>a) else a) acc
theorem zu{scope:Scope}{env:Env}(h:∀ x∈scope.names,x.2 = .free->∃ c,env.cells.lookup x.1=some c):closureFor scope env=pure (cn scope.names env.cells []):=by
 have all:∀(l:List<|Str×NameKind) (acc:List<|Str×Addr),(∀ x∈l,x.2 = .free->∃ c,env.cells.lookup x.1=some c) ->
   (forIn l acc λ(x:Str×NameKind) (cs:List<|Str×Addr)=>(if x.2 == .free then(do let c <- cellOf env x.1;pure (ForInStep.yield<|(x.1,c) :: cs)) else pure (ForInStep.yield cs):Sem _))=pure (cn l env.cells acc):=by
  intro l
  induction l with
  | nil=>intro acc _;rfl
  | cons x r ih=>
   intro acc hl;rw [Gj];have hr:∀ y∈r,y.2 = .free->∃ c,env.cells.lookup y.1=some c:=λy hy=>hl y<|Ah _ hy;cases hk:x.2 == .free with
   | true=>
    have UT:x.2 = .free:=by
     revert hk
     cases x.2 <;> intro hk <;> first | rfl | (exact absurd hk<|by decide)
    obtain⟨c,hc⟩:=hl x Ae UT;simp only [DK,cellOf,hc];rw [show cn (x :: r) env.cells acc=cn r env.cells ((x.1,c) :: acc) by unfold cn;rw [Dp];simp [hk,hc]];exact ih _ hr
   | false=>
    simp only [Ax,CN];rw [show cn (x :: r) env.cells acc=cn r env.cells acc by unfold cn;rw [Dp];simp [hk]];exact ih _ hr
 have q:=all scope.names [] h;simp only [closureFor];exact(BX (· >>= λr=>pure r) q).trans rfl
theorem zv:∀(names:List<|Str×NameKind) (cells acc:List<|Str×Addr),(∀ x c,(x,c)∈acc->cells.lookup x=some c)->∀ x c,(x,c)∈cn names cells acc->cells.lookup x=some c
 | [],_,_,h=>h
 | y :: r,cells,acc,h=>by
  have e:cn (y :: r) cells acc=cn r cells (if y.2 == .free then(match cells.lookup y.1 with | some c=>(y.1,c) :: acc | none=>acc) else acc):=rfl;rw [e];refine zv r cells _ ?_;cases hk:y.2 == .free with
  | false=>simpa using h
  | true=>
   cases hc:cells.lookup y.1 with
   | none=>simpa using h
   | some c=>
    intro x d hx;simp only [DK] at hx
    rcases Aj.mp hx with e | hx
    ·cases e;exact hc
    ·exact h x d hx
theorem Ka:∀(names:List<|Str×NameKind) (cells acc:List<|Str×Addr) (x:Str) (c:Addr),(x,c)∈acc->(x,c)∈cn names cells acc
 | [],_,_,_,_,h=>h
 | y :: r,cells,acc,x,c,h=>by
  have e:cn (y :: r) cells acc=cn r cells (if y.2 == .free then(match cells.lookup y.1 with | some c=>(y.1,c) :: acc | none=>acc) else acc):=rfl;rw [e];refine Ka r cells _ x c ?_;cases hk:y.2 == .free with
  | false=>simpa using h
  | true=>
   cases hc:cells.lookup y.1 with
   | none=>simpa using h
   | some d=>simp only [DK];exact Ah _ h
theorem zx:∀(names:List<|Str×NameKind) (cells acc:List<|Str×Addr) (x:Str) (c:Addr),(x,NameKind.free)∈names->cells.lookup x=some c->(x,c)∈cn names cells acc
 | [],_,_,_,_,h,_=>by cases h
 | y :: r,cells,acc,x,c,h,hc=>by
  have e:cn (y :: r) cells acc=cn r cells (if y.2 == .free then(match cells.lookup y.1 with | some c=>(y.1,c) :: acc | none=>acc) else acc):=rfl;rw [e]
  rcases Aj.mp h with e2 | h
  ·subst e2;refine Ka r cells _ x c ?_;have:(NameKind.free == NameKind.free)=true:=rfl;simp only [hc,this,DK];exact Ae
  ·exact zx r cells _ x c h hc
theorem zy{α:Type}:∀{l:List (Str×α)} {x:Str} {c:α},(x,c)∈l->∃ d,l.lookup x=some d
 | [],_,_,h=>by cases h
 | (n,d) :: r,x,c,h=>by
  cases hx:x == n with
  | true=>exact⟨d,by simp [Dr,hx]⟩
  | false=>
   rcases Aj.mp h with e | h
   ·cases e;simp at hx
   ·obtain⟨d',e⟩:=zy h;exact⟨d',by simp [Dr,hx,e]⟩
section
variable{prog:Program}{w:World}{A:Around}{R:Result->Shared->Prop}{s:Shared}
theorem k0g{elt target iter:Expr}{ifs:List Expr}{scope:Scope}{pos:Pos}{it acc:Value}{env:Env}(I:Nat->Shared->Prop)
  (turn : ∀ n s, I n s → wpAny (model prog w) A (pyNext it) (λr s₁ => match r with
   | none=>R (.ok .next) s₁
   | some v=>wpAny (model prog w) A (letOwnedTupleGo target it v) (λ_ s₁'=>wpAny (model prog w) A (assign target env v) (λ_ s₂=>
     wpAny (model prog w) A (forIn ifs true λc r=>if r=true then do let ok <- isTrue c env<|eval c env;pure (ForInStep.yield ok) else pure (ForInStep.yield r)) (λok s₃=>
      if ok=true then wpAny (model prog w) A (eval elt env) (λx s₄=>
       wpAny (model prog w) A (call (.builtin "list.append") [acc,x]) (λ_ s₅=>∃ m,m < n/\I m s₅) (notedBy (model prog w) A env λe s'=>R (.error e) s') s₄) (notedBy (model prog w) A env λe s'=>R (.error e) s') s₃
      else ∃ m,m < n/\I m s₃) (notedBy (model prog w) A env λe s'=>R (.error e) s') s₂) (notedBy (model prog w) A env λe s'=>R (.error e) s') s₁') (notedBy (model prog w) A env λe s'=>R (.error e) s') s₁) (notedBy (model prog w) A env λe s'=>R (.error e) s') s)
  (n:Nat) (h:I n s) :
  codeAny (model prog w) A (.compLoop (.ListComp elt [⟨target,iter,ifs,0⟩] scope pos) 0 it acc env) R s:=by
 refine codeAny_loop rfl I (λn s hI=>?_) n h;show wpAny _ A ((compTurn (.ListComp elt [⟨target,iter,ifs,0⟩] scope pos) 0 it acc env).onRaise λx=>do noteFrame x env;theTreesLotGoes x) _ _ s;refine wpAny_noted ?_;rw [compTurn_list];refine BJ<|FW<|BJ<|CT (turn n s hI) (λr s₁ h₁=>?_) λ_ _ h'=>h';cases r with
 | none=>exact BK h₁
 | some v=>
  refine BJ<|CT h₁ (λ_ s₁' h₁'=>?_) λ_ _ h'=>h';refine BJ<|CT h₁' (λ_ s₂ h₂=>BJ<|CT h₂ (λok s₃ h₃=>?_) λ_ _ h'=>h') λ_ _ h'=>h';cases ok with
  | false=>exact BK ⟨rfl,h₃⟩
  | true=>
   exact BJ<|BJ<|CT h₃ (λx s₄ h₄=>BJ<|CT h₄ (λ_ s₅ h₅=>BK<|BK ⟨rfl,h₅⟩) λ_ _ h'=>h') λ_ _ h'=>h'
end
def Kb(X:Cx)(ifs:List Expr)(t:TT):Prop:=
 ∀(pins:List<|Addr×Obj) (s:Shared) (σ:St) (H:Hp) (Q:Bool->Hp->Prop),Inv X pins σ H s->t σ H Q ->
  wpAny (model X.prog X.w) X.A (forIn ifs true λc r=>if r=true then do let ok <- isTrue c X.env<|eval c X.env;pure (ForInStep.yield ok) else pure (ForInStep.yield r)) (TP X pins σ Q) X.xe s
def zA:TT:=λ_ H Q=>Q true H
theorem UU{X:Cx}:Kb X [] zA:=λ_ _ _ H _ I h=>wpAny_tests_nil ⟨H,I,h⟩
theorem UW{X:Cx}{c:Expr}{t:TT}(h:PT X c t):Kb X [c] t:=λpins s σ H Q I hq=>wpAny_tests_one<|h pins s σ H Q I hq
def fb(X:Cx)(N':List Str)(scope:Scope)(cl:List<|Str×Addr)(C:Addr)(s₀:Shared)(H₀:Hp)(ex:List Addr):Cx:=
 {prog:=X.prog,w:=X.w,K:=X.K,mg:=X.mg,base:=X.base,A:=X.A,N:=N',s₀:=s₀,H₀:=H₀,env:=compEnvC scope cl C X.env,outer:=X.stack,stack:=X.stack,ex:=ex,fn:=λx=>match scope.names.lookup x with | some .cell=>true | _=>false,calm:=X.calm,pn:=[],xe:=λ_ _=>False}
theorem ik{α:Type}{t:Sem α}{Q Q':α->Shared->Prop}{M:Model}{A:Around}{E:Value->Shared->Prop}{s:Shared}(h:wpAny M A t Q (λ_ _=>False) s)(hQ:∀ a s,Q a s->Q' a s):wpAny M A t Q' E s:=CT h hQ λ_ _ z=>z.elim
section
variable{X:Cx}
theorem UX:cK X (compareOp .IsNot) (λx y H Q=>∃ c d,x = .bl c/\y = .bl d/\Q (.bl<|c != d) H):=by
 intro pins s σ H x y v u Q I rx ry h;obtain⟨c,d,rfl,rfl,q⟩:=h;cases rx;cases ry;exact isnot_bool<|ci I q rfl
theorem UY:dE X (.builtin "isinstance") (λxs H Q=>∃ x t T b,xs=[x,.ty T]/\cB X.K H x t/\PySem.W.kitOne X.K t (.type T)=some b/\Q (.bl b) H):=by
 intro pins s σ H xs us Q I r h;obtain⟨x,t,T,b,rfl,ty,e,q⟩:=h;obtain⟨u,w',rfl,ru,e9⟩:=vals2 r;cases (show w'=Value.type T from e9);exact Ti I ru ty e λtk=>⟨.bl b,H,I.tok tk,rfl,q⟩
theorem Kc:∀{bs:List Bool} {its:List Value},au (bs.map V.bl) its->its=bs.map Value.bool
 | [],_,r=>by cases r;rfl
 | b :: bs,_,r=>by
  cases r with
  | cons r1 r2=>
   cases (show _=Value.bool b from r1);rw [Kc r2,Bd]
theorem range_all(bs:List Bool):(List.range bs.length).all (λi=>bs.getD i true)=bs.all id:=by
 rw [Di,De,De]
 constructor
 ·intro h x hx;obtain⟨i,hi,rfl⟩:=Bz.mp hx;have:=h i<|Bg.mpr hi
  simpa [Fg,hi] using this
 ·intro h i hi;have i8:=Bg.mp hi;have:=h bs[i]<|Bw i8
  simpa [Fg,i8] using this
theorem zB(hc:X.calm=true):dE X (.builtin "all") (λxs H Q=>∃(p:Addr) (bs:List Bool),xs=[.ref p]/\ai X.K H p (bs.map V.bl)/\Q (.bl<|bs.all id) H):=by
 intro pins s σ H xs us Q I r h;obtain⟨p,bs,rfl,hp,q⟩:=h;obtain⟨u,rfl,ru⟩:=vals1 r;cases (show u=Value.ref p from ru);obtain⟨its,rv,pl,hz⟩:=I.list hp;have hits:=Kc rv;obtain⟨o,_,ho,_⟩:=id pl;have i4:p < s.heap.objs.size:=As ho;refine call_all_walk<|JX pl.isList ⟨s.heap.objs.size,_,_,_,_,_,λi=>bs.getD i true,rfl,Walks.list (A:=X.A.in1) (show X.A.in1.handled=none from I.ok.hd hc) s.heap.objs.size p (Bt i4) its.toArray,
  ⟨⟨_,Ap _ rfl,rfl,rfl⟩,pl.isList.push _⟩,?_,λh' tk hk=>?_⟩
 ·intro i v s' Q' E' hv hQ;have rR:its[i]?=some v:=by simpa using hv
  rw [hits,Ad] at rR;cases e:bs[i]? with
  | none=>rw [e] at rR;cases rR
  | some b=>
   rw [e] at rR;cases rR;refine DY ?_;have:bs.getD i true=b:=by rw [Fg,e];rfl
   have Kd:Q' (bs.getD i true) s':=hQ;rw [this] at Kd;exact Kd
 ·have e:its.toArray.size=bs.length:=by rw [Av,hits,Aa]
  rw [e,range_all];refine⟨.bl<|bs.all id,H,I.kept (t':=tk) λb o e=>hk b o ?_<|Af _ e,rfl,q⟩;intro hb;have:b=s.heap.objs.size:=by simpa using hb
  exact absurd (As e)<|by rw [this];exact Cs _
def zC:V->Option Int->Option Int->Hp->VK->Prop:=λx lo hi H Q=>∃ z,x = .str z/\z.length<=sizeLine/\Q (.str<|Txt.slice z lo hi) H
theorem Ke:vO X zC:=by
 intro pins s σ H x v vl vu lo hi sl Q I rx hs pl pu h;obtain⟨z,rfl,hz,q⟩:=h;obtain⟨t,rfl⟩:=rx;refine⟨"str",_,F.slot_str_getitem.lookup,typeIs_str _ _ _,?_⟩;have fin:∀ t' k,EP X pins σ Q (.str (Txt.slice z lo hi) t') {s with toks:=k}:=λt' k=>⟨.str _,H,I.tok k,⟨_,rfl⟩,q⟩;cases pl with
 | none=>
  cases pu with
  | none=>exact HS (l:=none) (u:=none) (st:=none) hs rfl (MN ⟨Cg (Txt.slice_le z _ _) hz,fin⟩)
  | int j uj=>exact HS (l:=none) (u:=some (j,uj)) (st:=none) hs rfl (MN ⟨Cg (Txt.slice_le z _ _) hz,fin⟩)
 | int i ui=>
  cases pu with
  | none=>exact HS (l:=some (i,ui)) (u:=none) (st:=none) hs rfl (MN ⟨Cg (Txt.slice_le z _ _) hz,fin⟩)
  | int j uj=>exact HS (l:=some (i,ui)) (u:=some (j,uj)) (st:=none) hs rfl (MN ⟨Cg (Txt.slice_le z _ _) hz,fin⟩)
theorem UZ:cK X (binaryOp .Mult) (λx y H Q=>∃ z i,x = .str z/\y = .int i/\0<=i/\i<=100000/\z.length * i.toNat<=100000/\Q (.str<|Txt.mul z i) H):=by
 intro pins s σ H x y v u Q I rx ry h;obtain⟨z,i,rfl,rfl,h0,h1,h2,q⟩:=h;obtain⟨t,rfl⟩:=rx;obtain⟨t',rfl⟩:=ry;have hsz:sizeLine=16777216:=DQ;refine SB.mul ⟨?_,λh3 h4=>?_,λh3 h4=>?_⟩ λt' k=>⟨.str _,H,I.tok k,⟨_,rfl⟩,q⟩
 ·rw [BR (by omega),BR<|by omega];rfl
 ·have h5:(z.length:Int)<=100000:=by
   have h6:z.length * 1<=z.length * i.toNat:=Nat.mul_le_mul_left _ (by omega);omega
  have h7:(100000:Int)<=(2 ^ 63 - 1) / i:=by
   rw [Int.le_ediv_iff_mul_le<|by omega];have:(100000:Int) * i<=100000 * 100000:=Int.mul_le_mul_of_nonneg_left h1 (by decide);have e:(2:Int) ^ 63 - 1=9223372036854775807:=by decide
   omega
  omega
 ·unfold Builtin.Str.tooLong;rw [hsz];exact BR<|by omega
end
def isStar:Expr->Bool
 | .Starred _ _=>true
 | _=>false
def noStar(es:List Expr):Bool:=es.all λe=>!isStar e
theorem nk(e:Expr)(es:List Expr)(env:Env)(h:isStar e=false):starEach (e :: es) env=(false,eval e env) :: starEach es env:=by
 cases e <;> first | rfl | (exact absurd h<|by simp [isStar])
theorem vS(pos:Pos)(env:Env):∀ es:List Expr,noStar es=true->(backTo pos<|starEach es env).any (·.1)=false
 | [],_=>rfl
 | e :: es,h=>by
  have h':(!isStar e)=true/\noStar es=true:=by
   have:=h;unfold noStar at this ⊢;rw [Gq,Cf] at this;exact this
  have hs:isStar e=false:=by
   have:=h'.1;cases q:isStar e with
   | true=>rw [q] at this;cases this
   | false=>rfl
  rw [nk e es env hs];show(false || (backTo pos<|starEach es env).any (·.1))=false;rw [vS pos env es h'.2];rfl
theorem p8{e:Expr}{es:List Expr}(h:noStar (e :: es)=true):isStar e=false/\noStar es=true:=by
 unfold noStar at h ⊢;rw [Gq,Cf] at h;refine⟨?_,h.2⟩;cases q:isStar e with
 | true=>rw [q] at h;cases h.1
 | false=>rfl
section
variable{X:Cx}{CX:fV}{k:Nat}{f C:Addr}{fd:FuncData}{ps:List Str}{sp:Sp}{j8:List V}{ds:List Value}{E:XK}{x m:Str}{p pos apos:Pos}{e o:Expr}{es:List Expr}{ta te:TE}{t:TA}{id T:String}{r:List V->Hp->VK->Prop}
theorem U0(ha:PE X e te)(hr:PA X es t)(hs:isStar e=false:=by rfl):PA X (e :: es) (Jo te t):=Tl ha hr<|nk _ _ _ hs
theorem U1(F:aE X.prog X.w X.K X.mg X.base CX k f fd ps sp)(hr:bw k X.A)(hm:X.mg x=some (.ref f))(hk:PySem.W.keepIn X.K (.ref f)=true)(hb:Binds X.K fd ps [])(hx:m8 CX X E)
  (ha:PA X (e :: es) t) (hg:Gl X x:=by rfl) (de:(x == ("__debug__" : Str))=false:=by decide) (hs:noStar (e :: es)=true:=by rfl):PE X (.Call (.Name x p) (e :: es) [] pos) (Jp sp [] E t):=
 Ts F hr hg hm hk hb .nil hx ha de (nk _ _ _ (p8 hs).1) (vS _ _ _ (p8 hs).2)
theorem zD(hc:dE X (.builtin id) r)(hm:X.mg x=none)(hv:bootBuiltins x=some (.builtin id))(ha:PA X (e :: es) t)(hg:Gl X x:=by rfl)(hn:x ≠ "__name__":=by decide)(de:(x == ("__debug__" : Str))=false:=by decide)
  (hs:noStar (e :: es)=true:=by rfl):PE X (.Call (.Name x p) (e :: es) [] pos) (vN r t):=
 Tz hc hg hm hv ha hn de (nk _ _ _ (p8 hs).1) (vS _ _ _ (p8 hs).2)
theorem zE(hc:dE X (.type T) r)(hm:X.mg x=none)(hv:bootBuiltins x=some (.type T))(ha:PA X (e :: es) t)(hg:Gl X x:=by rfl)(hn:x ≠ "__name__":=by decide)(de:(x == ("__debug__" : Str))=false:=by decide)
  (hs:noStar (e :: es)=true:=by rfl):PE X (.Call (.Name x p) (e :: es) [] pos) (vN r t):=
 TB hc hg hm hv ha hn de (nk _ _ _ (p8 hs).1) (vS _ _ _ (p8 hs).2)
end
structure Ev(X:Cx)(e:Expr)(σ:St)(H:Hp)(Q:VK):Prop where
 run:∀(pins:List<|Addr×Obj) (s:Shared),Inv X pins σ H s->wpAny (model X.prog X.w) X.A (eval e X.env) (EP X pins σ Q) X.xe s
structure Et(X:Cx)(e:Expr)(σ:St)(H:Hp)(Q:Bool->Hp->Prop):Prop where
 run:∀(pins:List<|Addr×Obj) (s:Shared),Inv X pins σ H s->wpAny (model X.prog X.w) X.A (isTrue e X.env<|eval e X.env) (TP X pins σ Q) X.xe s
structure Ew(X:Cx)(e:Expr)(σ:St)(H:Hp)(Q:Bool->Hp->Prop):Prop where
 run:∀(whole:Sem Value) (pins:List<|Addr×Obj) (s:Shared),Inv X pins σ H s->wpAny (model X.prog X.w) X.A (isTrue e X.env whole) (TP X pins σ Q) X.xe s
structure Ea(X:Cx)(es:List Expr)(σ:St)(H:Hp)(Q:List V->Hp->Prop):Prop where
 run:∀(pos:Pos) (pins:List<|Addr×Obj) (s:Shared),Inv X pins σ H s->wpAny (model X.prog X.w) X.A (spliced<|backTo pos<|starEach es X.env) (AP X pins σ Q) X.xe s
structure Eo(X:Cx)(e:Option Expr)(σ:St)(H:Hp)(Q:Option Int->Hp->Prop):Prop where
 run:∀(pins:List<|Addr×Obj) (s:Shared),Inv X pins σ H s->wpAny (model X.prog X.w) X.A (evalPart e X.env) (λu s'=>∃ o H',Inv X pins σ H' s'/\IsPart u o/\Q o H') X.xe s
structure Eg(X:Cx)(e:Expr)(v:V)(σ:St)(H:Hp)(Q:St->Hp->Prop):Prop where
 run:∀(pins:List<|Addr×Obj) (s:Shared) (u:Value),Inv X pins σ H s->RelV v u->wpAny (model X.prog X.w) X.A (assign e X.env u) (λ_ s'=>∃ σ' H',Inv X pins σ' H' s'/\Q σ' H') X.xe s
structure Run(X:Cx)(l:List Stmt)(D:Ends)(σ:St)(H:Hp):Prop where
 run:∀(pins:List<|Addr×Obj) (s:Shared),Inv X pins σ H s->wpAny (model X.prog X.w) X.A (execs l X.env) (SP X pins D) X.xe s
def U2(X:Cx)(e:Expr):TE:=λσ H Q=>Ev X e σ H Q
def U3(X:Cx)(e:Expr):TT:=λσ H Q=>Et X e σ H Q
def U4(X:Cx)(e:Expr):TT:=λσ H Q=>Ew X e σ H Q
def rS(X:Cx)(es:List Expr):TA:=λσ H Q=>Ea X es σ H Q
def U5(X:Cx)(e:Option Expr):TO:=λσ H Q=>Eo X e σ H Q
def U6(X:Cx)(e:Expr):TG:=λv σ H Q=>Eg X e v σ H Q
def zF(X:Cx)(l:List Stmt):TS:=λD σ H=>Run X l D σ H
section
variable{X:Cx}{e a b c o:Expr}{es:List Expr}{st:Stmt}{rest body jM:List Stmt}{σ:St}{H:Hp}{Q:VK}{T:Bool->Hp->Prop}{L:List V->Hp->Prop}{D:Ends}{pos p p2:Pos}
theorem bn:PE X e (U2 X e):=λpins s _ _ _ I h=>h.run pins s I
theorem lU:PT X e (U3 X e):=λpins s _ _ _ I h=>h.run pins s I
theorem Kf:PW X e (U4 X e):=λwh pins s _ _ _ I h=>h.run wh pins s I
theorem gQ:PA X es (rS X es):=λpos pins s _ _ _ I h=>h.run pos pins s I
theorem Kg{e:Option Expr}:PO X e (U5 X e):=λpins s _ _ _ I h=>h.run pins s I
theorem nn:PG X e (U6 X e):=λpins s _ _ _ u _ I r h=>h.run pins s u I r
theorem nq{l:List Stmt}:ia X l (zF X l):=λpins s _ _ _ I h=>h.run pins s I
theorem c6{t:TE}(h1:PE X e t)(h2:t σ H Q):Ev X e σ H Q:=⟨λpins s I=>h1 pins s σ H Q I h2⟩
theorem p9{t:TT}(h1:PT X e t)(h2:t σ H T):Et X e σ H T:=⟨λpins s I=>h1 pins s σ H T I h2⟩
theorem vT{t:TT}(h1:PW X e t)(h2:t σ H T):Ew X e σ H T:=⟨λwh pins s I=>h1 wh pins s σ H T I h2⟩
theorem Kh{t:TA}(h1:PA X es t)(h2:t σ H L):Ea X es σ H L:=⟨λpos pins s I=>h1 pos pins s σ H L I h2⟩
theorem Ki{e:Option Expr}{t:TO}{R:Option Int->Hp->Prop}(h1:PO X e t)(h2:t σ H R):Eo X e σ H R:=⟨λpins s I=>h1 pins s σ H R I h2⟩
theorem zG{t:TG}{v:V}{R:St->Hp->Prop}(h1:PG X e t)(h2:t v σ H R):Eg X e v σ H R:=⟨λpins s u I r=>h1 pins s σ H v u R I r h2⟩
theorem jN{t:TS}(h1:PS X st t)(h2:t {D with nx:=λσ' H'=>Run X rest D σ' H'} σ H):Run X (st :: rest) D σ H:=⟨λpins s I=>Ss h1 nq pins s σ H D I h2⟩
theorem a8(h:D.nx σ H):Run X [] D σ H:=⟨λpins s I=>Sr pins s σ H D I h⟩
theorem Ev.mono{Q':VK}(h:Ev X e σ H Q)(f:∀ v H',Q v H'->Q' v H'):Ev X e σ H Q':=⟨λpins s I=>aI (h.run pins s I) λ_ _ ⟨v,H',I',r,q⟩=>⟨v,H',I',r,f v H' q⟩⟩
theorem Et.mono{T':Bool->Hp->Prop}(h:Et X e σ H T)(f:∀ v H',T v H'->T' v H'):Et X e σ H T':=⟨λpins s I=>aI (h.run pins s I) λv _ ⟨H',I',q⟩=>⟨H',I',f v H' q⟩⟩
theorem Ea.mono{L':List V->Hp->Prop}(h:Ea X es σ H L)(f:∀ v H',L v H'->L' v H'):Ea X es σ H L':=⟨λpos pins s I=>aI (h.run pos pins s I) λ_ _ ⟨v,H',I',r,q⟩=>⟨v,H',I',r,f v H' q⟩⟩
theorem ae(i:Nat){x:Str}{v:V}(h:Q v H)(hv:σ[i]?=some (some v):=by rfl)(hN:X.N[i]?=some x:=by rfl)(hs:yn X.env.scope x:=by first | exact Or.inl rfl | exact Or.inr (Or.inl rfl) | exact Or.inr<|Or.inr rfl)(hd:(x == ("__debug__" : Str))=false:=by decide)
  (gK:(x == ("__classdict__" : Str))=false:=by decide):Ev X (.Name x p) σ H Q:=c6 (RY (i:=i) hN hs hd gK) ⟨v,hv,h⟩
theorem aB{i:Int}{j:Nat}(h:Q (.int i) H):Ev X (.Constant (.int i) j p) σ H Q:=c6 (R0) h
theorem kg{i:Bool}{j:Nat}(h:Q (.bl i) H):Ev X (.Constant (.bool i) j p) σ H Q:=c6 (R1) h
theorem lV{i:Str}{j:Nat}(h:Q (.str i) H):Ev X (.Constant (.str i) j p) σ H Q:=c6 (R3) h
theorem Kj{x:Str}{v:V}{u:Value}(hm:X.mg x=some u)(r:RelV v u)(h:Q v H)(hg:Gl X x:=by rfl)(hd:(x == ("__debug__" : Str))=false:=by decide):Ev X (.Name x p) σ H Q:=c6 (R5 hg hm r hd) h
theorem U7{x:Str}(v:V){u:Value}(hm:X.mg x=none)(hv:bootBuiltins x=some u)(r:RelV v u)(h:Q v H)(hg:Gl X x:=by rfl)(hn:x ≠ "__name__":=by decide)(hd:(x == ("__debug__" : Str))=false:=by decide):Ev X (.Name x p) σ H Q:=c6 (R9 hg hm hv r hn hd) h
theorem aW{op:Operator}{r:R2}(ho:cK X (binaryOp op) r)(h:Ev X a σ H λx H1=>Ev X b σ H1 λy H2=>r x y H2 Q):Ev X (.BinOp a op b pos) σ H Q:=c6 (S0 ho bn bn) h
theorem ja{op:CmpOp}{r:R2}(ho:cK X (compareOp op) r)(h:Ev X a σ H λx H1=>Ev X b σ H1 λy H2=>r x y H2 Q)(hm:behindInMarks op b=false:=by with_unfolding_all rfl):Ev X (.Compare a [op] [b] pos) σ H Q:=c6 (S9 ho bn bn hm) h
theorem zH(h:Ev X a σ H λx H1=>∃ k,x = .bl k/\if k=true then Ev X (.BoolOp .And (b :: es) pos) σ H1 Q else Q (.bl false) H1):Ev X (.BoolOp .And (a :: b :: es) pos) σ H Q:=c6 (Sn bn bn) h
theorem Kk{op:BoolOp}(h:Ev X a σ H Q):Ev X (.BoolOp op [a] pos) σ H Q:=c6 (Sl bn) h
theorem aS{r:R2}(hr:rH X r)(h:Ev X a σ H λx H1=>Ev X b σ H1 λy H2=>r x y H2 Q)(hs:Jx b:=by intro _ _;rfl):Ev X (.Subscript a b pos) σ H Q:=c6 (T2 hr bn bn hs) h
theorem vU{r:V->Option Int->Option Int->Hp->VK->Prop}{lo hi:Option Expr}(hr:vO X r)(h:Ev X a σ H λx H1=>Eo X lo σ H1 λl H2=>Eo X hi σ H2 λu H3=>r x l u H3 Q):Ev X (.Subscript a (.Slice lo hi none p2) pos) σ H Q:=c6 (TR hr bn Kg Kg) h
theorem vV{R:Option Int->Hp->Prop}(h:R none H):Eo X none σ H R:=Ki (TH) h
theorem vW{R:Option Int->Hp->Prop}(h:Ev X a σ H λx H1=>∃ i,x = .int i/\R (some i) H1):Eo X (some a) σ H R:=Ki (TK bn) h
theorem aq(h:L [] H):Ea X [] σ H L:=Kh (Tj) h
theorem ak(h:Ev X e σ H λx H1=>Ea X es σ H1 λxs H2=>L (x :: xs) H2)(hs:isStar e=false:=by rfl):Ea X (e :: es) σ H L:=Kh (U0 bn gQ hs) h
theorem dH{k:Nat}(h:Ea X es σ H λxs H1=>xs.length<=sizeLine/\∀ p,H1 p=none->Q (.ref p) (upd H1 p<|.tup xs)):Ev X (.Tuple es k pos) σ H Q:=c6 (To gQ) h
theorem cL(h:Ea X es σ H λxs H1=>xs.length<=sizeLine/\∀ p,H1 p=none->Q (.ref p) (upd H1 p<|.lst xs)):Ev X (.List es pos) σ H Q:=c6 (Tq gQ) h
theorem Kl{CX:fV}{k:Nat}{f:Addr}{fd:FuncData}{ps:List Str}{sp:Sp}{E:XK}{x:Str}(F:aE X.prog X.w X.K X.mg X.base CX k f fd ps sp)(hr:bw k X.A)(hm:X.mg x=some (.ref f))(hk:PySem.W.keepIn X.K (.ref f)=true)(hb:Binds X.K fd ps [])(hx:m8 CX X E)
  (h:Ea X (e :: es) σ H λvs H1=>sp vs H1 Q E) (hg:Gl X x:=by rfl) (de:(x == ("__debug__" : Str))=false:=by decide) (hs:noStar (e :: es)=true:=by rfl):Ev X (.Call (.Name x p) (e :: es) [] pos) σ H Q:=
 c6 (U1 F hr hm hk hb hx gQ hg de hs) (show Ea X (e :: es) σ H _ from h.mono λvs H1 q=>by rw [Br];exact q)
theorem bL{id:String}{r:List V->Hp->VK->Prop}{x:Str}(hc:dE X (.builtin id) r)(hm:X.mg x=none)(hv:bootBuiltins x=some (.builtin id))(h:Ea X (e :: es) σ H λvs H1=>r vs H1 Q)(hg:Gl X x:=by rfl)(hn:x ≠ "__name__":=by decide)(de:(x == ("__debug__" : Str))=false:=by decide)
  (hs:noStar (e :: es)=true:=by rfl):Ev X (.Call (.Name x p) (e :: es) [] pos) σ H Q:=c6 (zD hc hm hv gQ hg hn de hs) h
theorem lW{T:String}{r:List V->Hp->VK->Prop}{x:Str}(hc:dE X (.type T) r)(hm:X.mg x=none)(hv:bootBuiltins x=some (.type T))(h:Ea X (e :: es) σ H λvs H1=>r vs H1 Q)(hg:Gl X x:=by rfl)(hn:x ≠ "__name__":=by decide)(de:(x == ("__debug__" : Str))=false:=by decide)
  (hs:noStar (e :: es)=true:=by rfl):Ev X (.Call (.Name x p) (e :: es) [] pos) σ H Q:=c6 (zE hc hm hv gQ hg hn de hs) h
theorem cD{op:CmpOp}{r:R2}(ho:cK X (compareOp op) r)(h:Ev X a σ H λx H1=>Ev X b σ H1 λy H2=>r x y H2 λz H3=>∃ k,z = .bl k/\T k H3)(hm:behindInMarks op b=false:=by with_unfolding_all rfl):Et X (.Compare a [op] [b] pos) σ H T:=p9 (Tb ho bn bn hm) h
theorem kh(h:Et X a σ H λk H1=>T (!k) H1):Et X (.UnaryOp .Not a pos) σ H T:=p9 (Si lU) h
theorem nr(h:Ev X e σ H λx H1=>∃ k,x = .bl k/\T k H1)(he:∀ whole,isTrue e X.env whole=(do let v <- whole;standAt e.pos;holding [v] (truthy v)):=by intro _;rfl):Et X e σ H T:=p9 (Sb bn he) h
theorem zI(h:Ev X e σ H λx H1=>∃ k,m6 X.K x H1 k/\T k H1)(he:∀ whole,isTrue e X.env whole=(do let v <- whole;standAt e.pos;holding [v] (truthy v)):=by intro _;rfl):Et X e σ H T:=p9 (Te bn he) h
theorem lX(h:Ew X e σ H T):Et X e σ H T:=⟨λpins s I=>h.run _ pins s I⟩
theorem Km(h:Et X a σ H λk H1=>if k=true then Ew X (.BoolOp .And (b :: es) pos) σ H1 T else T false H1):Ew X (.BoolOp .And (a :: b :: es) pos) σ H T:=vT (Sg lU Kf) h
theorem lY(h:Et X a σ H λk H1=>if k=true then T true H1 else Ew X (.BoolOp .Or (b :: es) pos) σ H1 T):Ew X (.BoolOp .Or (a :: b :: es) pos) σ H T:=vT (Sh lU Kf) h
theorem Kn(h:Et X a σ H T):Ew X (.BoolOp .And [a] pos) σ H T:=vT (Se lU) h
theorem qb(h:Et X a σ H T):Ew X (.BoolOp .Or [a] pos) σ H T:=vT (Sf lU) h
theorem bb(i:Nat){x:Str}{v:V}{R:St->Hp->Prop}(hN:X.N.Nodup)(h:R (σ.set i<|some v) H)(hi:X.N[i]?=some x:=by rfl)(hx:Loc X.env.scope x:=by first | exact Or.inl rfl | exact Or.inr rfl)(hf:X.fn x=true\/X.env.scope.names.lookup x=some .local:=by first | exact .inl rfl | exact .inr rfl | assumption):Eg X (.Name x p) v σ H R:=zG (Sz hN hi hx hf) h
theorem aX(i:Nat){x:Str}{pos':Pos}(hN:X.N.Nodup)(h:Ev X e σ H λv H1=>Run X rest D (σ.set i<|some v) H1)(hi:X.N[i]?=some x:=by rfl)(hx:Loc X.env.scope x:=by first | exact Or.inl rfl | exact Or.inr rfl)(hs:swapsWith e (some<|.Name x pos') pos.line X.env=pure false:=by rfl)
  (hf:X.fn x=true\/X.env.scope.names.lookup x=some .local:=by first | exact .inl rfl | exact .inr rfl | assumption):Run X (.Assign [.Name x pos'] e pos :: rest) D σ H:=jN (SD hN hi hx bn hs hf) h
theorem cY(h:Et X c σ H λk H1=>if k=true then Run X body {D with nx:=λσ' H'=>Run X rest D σ' H'} σ H1 else Run X jM {D with nx:=λσ' H'=>Run X rest D σ' H'} σ H1):Run X (.If c body jM pos :: rest) D σ H:=jN (Sy lU nq nq) h
theorem Ko(φ ψ:Prop)(hc:∀ T:Bool->Hp->Prop,(∀ k:Bool,(k=true->φ)->(k=false->ψ)->T k H)->Et X c σ H T)(ht:φ->Run X body {D with nx:=λσ' H'=>Run X rest D σ' H'} σ H)(hu:ψ->Run X jM {D with nx:=λσ' H'=>Run X rest D σ' H'} σ H):Run X (.If c body jM pos :: rest) D σ H:=
 cY (hc _ λk p q=>by
  cases k with
  | true=>rw [BP rfl];exact ht<|p rfl
  | false=>rw [BL Ar];exact hu<|q rfl)
theorem bT(h:Ev X e σ H D.rt):Run X (.Return (some e) pos :: rest) D σ H:=jN (Sx bn) h
theorem gR(h:Ev X e σ H λ_ H1=>Run X rest D σ H1)(hs:swapsWith e none pos.line X.env=pure false:=by rfl):Run X (.Expr e pos :: rest) D σ H:=jN (Sw bn hs) h
theorem Kq{tg:Expr}(h:Ev X e σ H λv H1=>Eg X tg v σ H1 λσ' H'=>Run X rest D σ' H')(hs:swapsWithSole [tg] e pos.line X.env=pure false:=by rfl)(hw:swappedStores [tg] e X.env=pure none:=by rfl)
  (h1:(assignEach [tg] X.env).map (·.2)=[assign tg X.env]:=by rfl):Run X (.Assign [tg] e pos :: rest) D σ H:=jN (SA bn nn hs hw h1) h
def Loop(X:Cx)(tg:Expr)(body:List Stmt)(J:It)(D:Ends)(after:St->Hp->Prop)(σ:St)(H:Hp):Prop:=
 ∃ W:Nat->Nat->St->Hp->Prop,(∃ m,W 0 m σ H)/\∀ i m σ H,W i m σ H->(J.stop i H/\after σ H)\/(J.go i H/\∃ N:St->Hp->Prop,(∀ σ' H',N σ' H'->∃ m',m' < m/\W (i+1) m' σ' H') /\
  ∀ x H',J.pR i H x H'->Eg X tg x σ H' λσ2 H2=>Run X body {D with nx:=N,ct:=N,bk:=after} σ2 H2)
theorem vX{tg iter:Expr}{wi:TI}(hi:PI X tg iter wi)(h:wi σ H λJ H1=>Loop X tg body J D (λσ' H'=>Run X rest D σ' H') σ H1)(hp:PassesOwn (model X.prog X.w) X.A X.env X.xe:=by exact JK)(hc:X.calm=true:=by rfl)
  (hs:∀ x,foldedSetIterable iter X.env x=pure x:=by intro _;rfl):Run X (.For tg iter body [] pos :: rest) D σ H:=jN (SW hp hc hi nn nq hs) h
theorem jO{tg:Expr}{q:Pos}(hm:X.mg "range" = none)(h:Ev X a σ H λx H1=>∃ j:Int,x = .int j/\-(2 ^ 62)<=j/\j < 2 ^ 62/\Loop X tg body (pT 0 j.toNat) D (λσ' H'=>Run X rest D σ' H') σ H1)(hg:Gl X "range":=by rfl)(hp:PassesOwn (model X.prog X.w) X.A X.env X.xe:=by exact JK)(hc:X.calm=true:=by rfl)(hs:isStar a=false:=by rfl) :
  Run X (.For tg (.Call (.Name "range" q) [a] [] p) body [] pos :: rest) D σ H:=
 vX (wi:=Jc<|rS X [a]) (Jd hg hm gQ<|nk a [] _ hs) (show Ea X [a] σ H _ from ak (h.mono λx H1 ⟨j,e,h1,h2,h3⟩=>aq ⟨j,by rw [e],h1,h2,h3⟩) hs) hp hc (by intro _;rfl)
theorem U8{tg iter:Expr}(h:Ev X iter σ H λx H1=>∃ a,x = .ref a/\(∃ xs,aJ X.K H1 a xs)/\Loop X tg body (vI X.K a) D (λσ' H'=>Run X rest D σ' H') σ H1)(hp:PassesOwn (model X.prog X.w) X.A X.env X.xe:=by exact JK)(hc:X.calm=true:=by rfl)
  (hs:∀ x,foldedSetIterable iter X.env x=pure x:=by intro _;rfl):Run X (.For tg iter body [] pos :: rest) D σ H:=vX (SR bn) h hp hc hs
theorem lZ{tg iter:Expr}(h:Ev X iter σ H λx H1=>∃ a,x = .ref a/\(∃ xs,ai X.K H1 a xs)/\Loop X tg body (pS X.K a) D (λσ' H'=>Run X rest D σ' H') σ H1)(hp:PassesOwn (model X.prog X.w) X.A X.env X.xe:=by exact JK)(hc:X.calm=true:=by rfl)
  (hs:∀ x,foldedSetIterable iter X.env x=pure x:=by intro _;rfl):Run X (.For tg iter body [] pos :: rest) D σ H:=vX (dR bn) h hp hc hs
theorem jP{tg:Expr}{lo:Int}{n:Nat}{after:St->Hp->Prop}(Pv:Nat->St->Hp->Prop)(h0:Pv 0 σ H)
  (hs:∀ i σ H,i < n->Pv i σ H->Eg X tg (.int<|lo+i) σ H λσ2 H2=>Run X body {D with nx:=Pv<|i+1,ct:=Pv<|i+1,bk:=after} σ2 H2) (hd:∀ σ H,Pv n σ H->after σ H):Loop X tg body (pT lo n) D after σ H:=by
 refine⟨λi m σ H=>m=n - i/\i<=n/\Pv i σ H,⟨n,by simp,Bu _,h0⟩,?_⟩;rintro i m σ H ⟨rfl,hi,p⟩
 by_cases aM:i < n
 ·refine .inr ⟨aM,Pv<|i+1,λσ' H' p'=>⟨n - (i+1),by omega,rfl,aM,p'⟩,λx H' y=>?_⟩;obtain⟨e,y⟩:=y;subst e y;exact hs i σ _ aM p
 ·have e:i=n:=by omega
  subst e;exact .inl ⟨Al _,hd σ H p⟩
theorem U9{tg:Expr}{at_:Addr}{xs:List V}{after:St->Hp->Prop}(Pv:Nat->St->Hp->Prop)(h0:Pv 0 σ H)(hl:∀ i σ H,i<=xs.length->Pv i σ H->aJ X.K H at_ xs)
  (hs:∀ i x σ H,xs[i]?=some x->Pv i σ H->Eg X tg x σ H λσ2 H2=>Run X body {D with nx:=Pv<|i+1,ct:=Pv<|i+1,bk:=after} σ2 H2) (hd:∀ σ H,Pv xs.length σ H->after σ H):Loop X tg body (vI X.K at_) D after σ H:=by
 refine⟨λi m σ H=>m=xs.length - i/\i<=xs.length/\Pv i σ H,⟨xs.length,by simp,Bu _,h0⟩,?_⟩;rintro i m σ H ⟨rfl,hi,p⟩;have q:=hl i σ H hi p
 by_cases aM:i < xs.length
 ·refine .inr ⟨⟨xs,xs[i],q,by simp [aM]⟩,Pv<|i+1,λσ' H' p'=>⟨xs.length - (i+1),by omega,rfl,aM,p'⟩,λx H' y=>?_⟩;obtain⟨e,y⟩:=y;subst e;exact hs i x σ _ (y xs q) p
 ·have e:i=xs.length:=by omega
  subst e;exact .inl ⟨⟨xs,q,Al _⟩,hd σ H p⟩
theorem l3{tg:Expr}{at_:Addr}{xs:List V}{after:St->Hp->Prop}(Pv:Nat->St->Hp->Prop)(h0:Pv 0 σ H)(hl:∀ i σ H,i<=xs.length->Pv i σ H->ai X.K H at_ xs)
  (hs:∀ i x σ H,xs[i]?=some x->Pv i σ H->Eg X tg x σ H λσ2 H2=>Run X body {D with nx:=Pv<|i+1,ct:=Pv<|i+1,bk:=after} σ2 H2) (hd:∀ σ H,Pv xs.length σ H->after σ H):Loop X tg body (pS X.K at_) D after σ H:=by
 refine⟨λi m σ H=>m=xs.length - i/\i<=xs.length/\Pv i σ H,⟨xs.length,by simp,Bu _,h0⟩,?_⟩;rintro i m σ H ⟨rfl,hi,p⟩;have q:=hl i σ H hi p
 by_cases aM:i < xs.length
 ·refine .inr ⟨⟨xs,xs[i],q,by simp [aM]⟩,Pv<|i+1,λσ' H' p'=>⟨xs.length - (i+1),by omega,rfl,aM,p'⟩,λx H' y=>?_⟩;obtain⟨e,y⟩:=y;subst e;exact hs i x σ _ (y xs q) p
 ·have e:i=xs.length:=by omega
  subst e;exact .inl ⟨⟨xs,q,Al _⟩,hd σ H p⟩
theorem bH.go{P:Program}{w:World}{K:PySem.W.Frag}{mg:Str->Option Value}{base:Heap}{x qual:Str}{st:Stmt}{f:Addr}{fd:FuncData}{N ps:List Str}{k:Nat}{sp:Sp}(F:bH K x qual st f fd)(S:al N ps<|aQ st)(len:∀ vs H Q E,sp vs H Q E->vs.length=ps.length)
  (cC : ∀ (bC : Value) (A : Around) (outer : List Env) (s : Shared) (H : Hp) (vs : List V) (Q : VK) (E : XK), bw k (A.deeper<|envOfC qual (aQ st) s.heap.objs.size f bC) → sp vs H Q E →
   Run (dF bJ P w K mg base N qual (aQ st) f bC A outer s H E).pP (ic st) {nx:=λ_ H'=>Q .non H',rt:=Q} (start N vs) H):aE P w K mg base bJ (k+1) f fd ps sp:=
 F.ok S len λbC A outer s H vs Q E hr dw=>⟨_,nq,cC bC A outer s H vs Q E hr dw⟩
end
structure Ei(X:Cx)(ifs:List Expr)(σ:St)(H:Hp)(Q:Bool->Hp->Prop):Prop where
 run:∀(pins:List<|Addr×Obj) (s:Shared),Inv X pins σ H s ->
  wpAny (model X.prog X.w) X.A (forIn ifs true λc r=>if r=true then do let ok <- isTrue c X.env<|eval c X.env;pure (ForInStep.yield ok) else pure (ForInStep.yield r)) (TP X pins σ Q) X.xe s
def vY(X:Cx)(N':List Str)(scope:Scope)(e:Expr)(σ:St)(H:Hp)(Q:VK):Prop:=∀ cl C s₀ H₀ ex,Ev (fb X N' scope cl C s₀ H₀ ex) e σ H Q
def vZ(X:Cx)(N':List Str)(scope:Scope)(e:Expr)(v:V)(σ:St)(H:Hp)(Q:St->Hp->Prop):Prop:=∀ cl C s₀ H₀ ex,Eg (fb X N' scope cl C s₀ H₀ ex) e v σ H Q
def v5(X:Cx)(N':List Str)(scope:Scope)(ifs:List Expr)(σ:St)(H:Hp)(Q:Bool->Hp->Prop):Prop:=∀ cl C s₀ H₀ ex,Ei (fb X N' scope cl C s₀ H₀ ex) ifs σ H Q
def ki(X:Cx)(N':List Str)(scope:Scope)(tg:Expr)(ifs:List Expr)(elt:Expr)(J:It)(D:Addr)(after:Hp->Prop)(σ:St)(H:Hp):Prop:=
 ∃ W:Nat->Nat->St->Hp->Prop,(∃ m,W 0 m σ H)/\∀ i m σ' H',W i m σ' H' ->
  (J.stop i H' ∧ after H') ∨ (J.go i H' ∧ ∃ N : St → Hp → Prop, (∀ σ' H', N σ' H' → ∃ m', m' < m ∧ W (i + 1) m' σ' H') ∧ ∀ x H2, J.pR i H' x H2 → vZ X N' scope tg x σ' H2 λσ2 H3 => v5 X N' scope ifs σ2 H3 λb H4 =>
   if b=true then vY X N' scope elt σ2 H4 λv H5=>∃ ys,H5 D=some (.lst ys)/\ys.length < sizeLine/\N σ2 (upd H5 D<|.lst<|ys++[v]) else N σ2 H4)
theorem nw:∀(names:List<|Str×NameKind) (n:Nat) (acc:List<|Str×Addr),cellsFrom n names acc=cellsFrom n names []++acc
 | [],_,_=>rfl
 | (y,k) :: r,n,acc=>by
  unfold cellsFrom
  split
  ·rw [nw r (n+1)<|(y,n) :: acc,nw r (n+1) [(y,n)],Ay];rfl
  ·exact nw r n acc
theorem rT:∀(names:List<|Str×NameKind) (n:Nat) {x:Str} {c:Addr},(x,c)∈cellsFrom n names []->(x,NameKind.cell)∈names/\n<=c
 | [],_,_,_,h=>by cases h
 | (y,k) :: r,n,x,c,h=>by
  unfold cellsFrom at h
  split at h
  ·rename_i hk;rw [nw,Aq] at h
   rcases h with h | h
   ·obtain⟨a,b⟩:=rT r (n+1) h;exact⟨Ah _ a,by omega⟩
   ·cases Ai.mp h;have:k = .cell:=by cases k <;> first | rfl | exact absurd hk<|by decide
    subst this;exact⟨Ae,Al _⟩
  ·obtain⟨a,b⟩:=rT r n h;exact⟨Ah _ a,b⟩
theorem Kr{names:List (Str×NameKind)}{n:Nat}{cl:List (Str×Addr)}{x:Str}{c:Addr}(h:(cellsFrom n names cl).lookup x=some c):((x,c)∈cellsFrom n names []/\n<=c)\/cl.lookup x=some c:=by
 rw [nw,PL] at h;cases e:(cellsFrom n names []).lookup x with
 | some d=>
  rw [e] at h;cases h;have hm:=CW e;exact .inl ⟨hm,(rT _ _ hm).2⟩
 | none=>
  rw [e] at h;exact .inr h
theorem U'{names:List (Str×NameKind)}{n:Nat}{cl:List (Str×Addr)}{x:Str}(h:(x,NameKind.cell)∉names):(cellsFrom n names cl).lookup x=cl.lookup x:=by
 rw [nw,PL];cases e:(cellsFrom n names []).lookup x with
 | some d=>exact absurd (rT _ _<|CW e).1 h
 | none=>rfl
section
variable{M:Model}{A:Around}{E:Value->Shared->Prop}{s:Shared}
theorem Va{scope:Scope}{globals:Addr}{closure:List (Str×Addr)}{qual:Str}{func:Option Addr}{code:Value}{outer:Env}{builtins:Addr}{Q:Env->Shared->Prop}
  (hQ : ∀ h', h'.Ns s.heap.objs.size (λ_ => none) → (∀ b o, s.heap.get? b = some o → h'.get? b = some o) → CellsOk h' (s.heap.objs.size + 1) (cellsFrom (s.heap.objs.size + 1) scope.names []) →
   Q (newEnv scope s.heap.objs.size globals (cellsFrom (s.heap.objs.size+1) scope.names closure) qual func code (some outer) builtins) {s with heap:=h'}) :
  wpAny M A (newFunctionEnv scope globals closure [] qual func code (some outer) builtins) Q E s:=by
 simp only [newFunctionEnv,Option.isSome_some,DK];refine BJ<|RT ?_;refine BJ (wpAny_layCells _ (λname kind cells=>by cases Vb:kind == NameKind.cell <;> simp [Vb]) _ _ _ _ ?_);have ok:=cellsFrom_ok scope.names (s.heap.push {cls:= .type "dict",data:= .dict #[]}) (s.heap.objs.size+1) [] ⟨λ_ _ hm=>(nomatch hm),List.Pairwise.nil⟩ (by rw [Dd];exact Al _);rw [Dd] at ok;rw [show({s with heap:=s.heap.push {cls:= .type "dict",data:= .dict #[]}}:Shared).heap.objs.size=s.heap.objs.size+1 from Dd ..];rw [List.forIn_nil];exact BJ<|BK<|BK<|hQ _ ((Heap.Ns.new s.heap<|.type "dict").keeps<|pushCells_keeps _ _) (λb o e=>pushCells_keeps _ _ b o<|Af _ e) ok
end
def kj(sc scope:Scope)(N N':List Str):Bool:=
 (match scope.kind with | .function=>true | _=>false) &&
 scope.names.all (λy=>match y.2 with
  | .cell=>(match scope.names.lookup y.1 with | some .cell=>true | _=>false)
  | .local=>(match scope.names.lookup y.1 with | some .local=>true | _=>false)
  | .free=>(match sc.names.lookup y.1 with | some .cell=>true | some .free=>true | _=>false) && (match scope.names.lookup y.1 with | some .free=>true | _=>false)
  | _=>true) &&
 (List.range N'.length).all λi => match N'[i]? with
  | none=>true
  | some x=>match scope.names.lookup x with
   | some .local=>decide (N.length<=i)
   | some .cell=>decide (N.length<=i)
   | some .free=>decide (N[i]?=some x)
   | _=>true
structure cb(sc scope:Scope)(N N':List Str):Prop where
 kind:scope.kind = .function
 cell:∀ y∈scope.names,y.2 = .cell->scope.names.lookup y.1=some .cell
 names:∀ y∈scope.names,y.2 = .local->scope.names.lookup y.1=some .local
 free:∀ y∈scope.names,y.2 = .free->sc.names.lookup y.1=some .cell\/sc.names.lookup y.1=some .free
 Ks:∀ y∈scope.names,y.2 = .free->scope.names.lookup y.1=some .free
 own:∀(i:Nat) x,N'[i]?=some x->scope.names.lookup x=some .local->N.length<=i
 zJ:∀(i:Nat) x,N'[i]?=some x->scope.names.lookup x=some .cell->N.length<=i
 out:∀(i:Nat) x,N'[i]?=some x->scope.names.lookup x=some .free->N[i]?=some x
theorem cb.of{sc scope:Scope}{N N':List Str}(h:kj sc scope N N'=true):cb sc scope N N':=by
 unfold kj at h;rw [Cf,Cf] at h;obtain⟨⟨h1,h2⟩,h3⟩:=h;have nD:=De.mp h2;have zK:=De.mp h3;refine⟨?_,λy hy e=>?_,λy hy e=>?_,λy hy e=>?_,λy hy e=>?_,λi x hi e=>?_,λi x hi e=>?_,λi x hi e=>?_⟩
 ·revert h1;cases scope.kind <;> intro h1 <;> first | rfl | cases h1
 ·have q:=nD y hy;rw [e] at q;simp only at q
  split at q
  ·assumption
  ·cases q
 ·have q:=nD y hy;rw [e] at q;simp only at q
  split at q
  ·assumption
  ·cases q
 ·have q:=nD y hy;rw [e] at q;simp only at q;rw [Cf] at q;have q:=q.1
  split at q
  ·exact .inl<|by assumption
  ·exact .inr<|by assumption
  ·cases q
 ·have q:=nD y hy;rw [e] at q;simp only at q;rw [Cf] at q;have q:=q.2
  split at q
  ·assumption
  ·cases q
 ·have q:=zK i<|Bg.mpr (Ac.mp hi).1;rw [hi] at q;simp only [e] at q;exact BZ q
 ·have q:=zK i<|Bg.mpr (Ac.mp hi).1;rw [hi] at q;simp only [e] at q;exact BZ q
 ·have q:=zK i<|Bg.mpr (Ac.mp hi).1;rw [hi] at q;simp only [e] at q;exact BZ q
section
variable{X:Cx}{pins:List (Addr×Obj)}{σ:St}{H:Hp}{s:Shared}
theorem Vc{N':List Str}{scope:Scope}{n:Nat}{fp:List Addr}{h₁:Heap}{t':Nat}{m:Str->Option Value}(I:Inv X pins σ H s)(ck:cb X.env.scope scope X.N N')(hl:N'.length=X.N.length+n)
  (vQ:h₁.Ns s.heap.objs.size m) (old:∀ b o,s.heap.get? b=some o->h₁.get? b=some o) (Kt:CellsOk h₁ (s.heap.objs.size+1)<|cellsFrom (s.heap.objs.size+1) scope.names [])
  (l4:∀ b∈fp,bV X pins H b/\b < s.heap.objs.size) :
  Inv (fb X N' scope (cellsFrom (s.heap.objs.size+1) scope.names<|cn scope.names X.env.cells []) s.heap.objs.size s H fp) [] (σ++List.replicate n none) H {s with heap:=h₁,toks:=t'}:=by
 have sub:∀ x c,(cn scope.names X.env.cells []).lookup x=some c->X.env.cells.lookup x=some c:=λx c e=>zv _ _ _ (λ_ _ z=>by simp at z) x c<|CW e;have both:∀ x c,(cellsFrom (s.heap.objs.size+1) scope.names<|cn scope.names X.env.cells []).lookup x=some c->((x,c)∈cellsFrom (s.heap.objs.size+1) scope.names []/\s.heap.objs.size+1<=c)\/X.env.cells.lookup x=some c:=λx c e=>by
  rcases Kr e with z | z
  ·exact .inl z
  ·exact .inr<|sub x c z
 have l7:∀ x c,X.env.cells.lookup x=some c->c < s.heap.objs.size:=λx c e=>by
  obtain⟨v,o,ho,_⟩:=I.cell x c e;exact As ho
 have Vd:H s.heap.objs.size=none:=I.aD.fresh<|Al _;have kindOf:∀{x:Str} {k':NameKind},(relabel scope X.env).names.lookup x=some k'->∃ k,scope.names.lookup x=some k/\(k'=k\/(k = .free/\k' = .cell)):=λz=>J' z;have Ku:∀ x,scope.names.lookup x=some .free->(cellsFrom (s.heap.objs.size+1) scope.names<|cn scope.names X.env.cells []).lookup x=(cn scope.names X.env.cells []).lookup x:=λx e=>U' λhm=>by
  have:=ck.cell _ hm rfl;rw [e] at this;cases this
 have zL:∀ x,scope.names.lookup x=some .cell->∃ c,(cellsFrom (s.heap.objs.size+1) scope.names<|cn scope.names X.env.cells []).lookup x=some c:=λx e=>Ep.mp<|JB _ _ _<|.inl e;have Ve:(fb X N' scope (cellsFrom (s.heap.objs.size+1) scope.names<|cn scope.names X.env.cells []) s.heap.objs.size s H fp).Ok:=by
  refine⟨I.ok.mod,ck.kind,I.ok.glob,I.ok.blt,Al _,λx y c e1 e2=>?_,λx hx=>?_,λx c hf e=>?_,I.ok.hd,I.ok.frames,.inl rfl,λb hb=>⟨Bt (l4 b hb).2,λx c e=>?_⟩,
   I.bs,Cg I.ok.lH I.sz,λb o e hb=>?_,λb hb hf=>?_,I.stack,I.d8⟩
  ·rcases both x c e1 with z1 | z1
   ·rcases both y c e2 with z2 | z2
    ·exact name_of_addr Kt.apart z1.1 z2.1
    ·exact absurd (l7 y c z2)<|Nat.not_lt.mpr<|Ek z1.2
   ·rcases both y c e2 with z2 | z2
    ·exact absurd (l7 x c z1)<|Nat.not_lt.mpr<|Ek z2.2
    ·exact I.ok.inj x y c z1 z2
  ·have km:(relabel scope X.env).names.lookup x=some .cell\/(relabel scope X.env).names.lookup x=some .free:=hx;have:∃ k,scope.names.lookup x=some k/\(k = .free\/k = .cell):=by
    rcases km with z | z
    ·obtain⟨k,e,r⟩:=kindOf z
     rcases r with r | ⟨r,_⟩
     ·exact⟨k,e,.inr r.symm⟩
     ·exact⟨k,e,.inl r⟩
    ·obtain⟨k,e,r⟩:=kindOf z
     rcases r with r | ⟨r,_⟩
     ·exact⟨k,e,.inl r.symm⟩
     ·exact⟨k,e,.inl r⟩
   obtain⟨k,e,rfl | rfl⟩:=this
   ·have hm:=CW e;obtain⟨c,hc⟩:=I.ok.has x<|ck.free _ hm rfl;obtain⟨d,hd⟩:=zy<|zx scope.names X.env.cells [] x c hm hc;exact⟨d,(Ku x e).trans hd⟩
   ·exact zL x e
  ·have hx:scope.names.lookup x=some .cell:=by
    have rU:(match scope.names.lookup x with | some .cell=>true | _=>false)=true:=hf
    split at rU
    ·assumption
    ·cases rU
   have e':(cellsFrom (s.heap.objs.size+1) scope.names<|cn scope.names X.env.cells []).lookup x=some c:=e;have q1:=Ep.mp<|JB scope.names (s.heap.objs.size+1) []<|.inl hx;obtain⟨d,hd⟩:=q1;rw [nw,PL,hd] at e';have e2:d=c:=Option.some.inj e';have:=(rT _ _<|CW hd).2;rw [<- e2];exact Ek this
  ·have e':(cellsFrom (s.heap.objs.size+1) scope.names<|cn scope.names X.env.cells []).lookup x=some c:=e
   rcases both x c e' with z | z
   ·have h1:=(l4 b hb).2;have h2:=z.2;exact λk=>absurd h1<|Nat.not_lt.mpr<|by rw [<- k];exact Ek h2
   ·exact(l4 b hb).1.2.2.2.2.1 x c z
  ·have:=(l4 b hb).1.2.2.2.1
   rcases this with z | z
   ·exact I.ok.iY b o e z
   ·exact absurd (Bf (As e)<|Cg I.ok.lH z)<|Cs _
  ·rcases Aj.mp (I.d7 b hf) with z | z
   ·exact(l4 b hb).1.2.1 z
   ·exact(l4 b hb).1.2.2.1 z
 refine⟨Ve,rfl,I.bare,Un.kept old,⟨m,vQ,λi x v e1 e2 e3=>?_⟩,λx c e=>?_,Vd,λx c e=>?_,λp hp=>absurd hp (by simp [fb]),I.aD.kept old,?_⟩
 ·have hi:i < σ.length:=by
   by_cases hi:i < σ.length
   ·exact hi
   ·rw [Ba (by omega),Ec] at e2
    split at e2 <;> cases e2
  rw [Aw hi] at e2;have nE:N'[i]?=some x:=e1;have Vf:∃ k',(relabel scope X.env).names.lookup x=some k'/\(k' = .local\/k' = .cell\/k' = .free):=by
   rcases e3 with z | z | z
   ·exact⟨_,z,.inl rfl⟩
   ·exact⟨_,z,.inr<|.inl rfl⟩
   ·exact⟨_,z,.inr<|.inr rfl⟩
  obtain⟨k',zM,rV⟩:=Vf;obtain⟨k,ek,r⟩:=kindOf zM;have kf:k = .free:=by
   rcases r with r | ⟨r,_⟩
   ·subst r
    rcases rV with z | z | z
    ·subst z;have:=ck.own i x nE ek;rw [I.len] at hi;omega
    ·subst z;have:=ck.zJ i x nE ek;rw [I.len] at hi;omega
    ·exact z
   ·exact r
  subst kf;have hm:=CW ek;have Vg:=ck.out i x nE ek;obtain⟨m0,zN,kn⟩:=I.loc;have kx:=ck.free _ hm rfl;obtain⟨u,ru,lk⟩:=kn i x v Vg e2 (by rcases kx with z | z;exact .inr<|.inl z;exact .inr<|.inr z);refine⟨u,ru,.inr ⟨?_,?_⟩⟩
  ·rcases r with r | ⟨_,r⟩
   ·subst r;exact .inr zM
   ·subst r;exact .inl zM
  ·rcases lk with ⟨k1,_⟩ | ⟨_,c,hc,gL⟩
   ·have Kv:X.env.scope.names.lookup x=some .local:=k1
    rcases kx with z | z
    ·rw [Kv] at z;cases z
    ·rw [Kv] at z;cases z
   ·have rW:=zx scope.names X.env.cells [] x c hm hc;obtain⟨d,hd⟩:=zy rW;have:d=c:=Option.some.inj<|(sub x d hd).symm.trans hc;subst this;obtain⟨o,ho,im⟩:=gL;exact⟨d,(Ku x ek).trans hd,o,old _ _ ho,im⟩
 ·have e':(cellsFrom (s.heap.objs.size+1) scope.names<|cn scope.names X.env.cells []).lookup x=some c:=e
  rcases both x c e' with z | z
  ·exact⟨none,(Kt.empty x c z.1).1⟩
  ·obtain⟨v,o,ho,im⟩:=I.cell x c z;exact⟨v,o,old _ _ ho,im⟩
 ·have e':(cellsFrom (s.heap.objs.size+1) scope.names<|cn scope.names X.env.cells []).lookup x=some c:=e
  rcases both x c e' with z | z
  ·exact I.aD.fresh<|Ek z.2
  ·exact I.b8 x c z
 ·rw [Ag,Ci,I.len];exact hl.symm
end
structure Clause(e:Expr)(d:Nat)(tg iter:Expr)(ifs:List Expr)(acc:Value)(env:Env)(inner:Sem Unit):Prop where
 at':(clausesOf e)[d]?=some ⟨tg,iter,ifs,0⟩
 quiet:∀ it,(Code.compLoop e d it acc env).quiet=true
 den:∀(prog:Program) (w:World) it,(model prog w).den (.compLoop e d it acc env)=(compTurn e d it acc env).onRaise (λx=>do noteFrame x env;theTreesLotGoes x)
 Vh:∀(A:Around) it,A.under (.compLoop e d it acc env)=A
 zO:∀(prog:Program) (w:World) it,(model prog w).den (.compStart e d it acc env)=(compStart e d it acc env).onRaise (λx=>do noteFrame x env;standAt theWindowsPlace)
 zP:∀(A:Around) it,A.under (.compStart e d it acc env)=A
 turn:∀ it,compTurn e d it acc env=(do
   standAt iter.pos
   match <- pyNext it with
   | none=>pure<|.done .next
   | some v=>
    letOwnedTupleGo tg it v
    assign tg env v
    let mut ok:=true
    for c in ifs do
     if ok then ok <- isTrue c env<|eval c env
    if ok then
     inner
    again (.compLoop e d it acc env))
section
variable{prog:Program}{w:World}{A:Around}{R:Result->Shared->Prop}{s:Shared}
theorem Vi{e:Expr}{d:Nat}{tg iter:Expr}{ifs:List Expr}{it acc:Value}{env:Env}{inner:Sem Unit}(C:Clause e d tg iter ifs acc env inner)(I:Nat->Shared->Prop)
  (turn : ∀ n s, I n s → wpAny (model prog w) A (pyNext it) (λr s₁ => match r with
   | none=>R (.ok .next) s₁
   | some v=>wpAny (model prog w) A (letOwnedTupleGo tg it v) (λ_ s₁'=>wpAny (model prog w) A (assign tg env v) (λ_ s₂=>
     wpAny (model prog w) A (forIn ifs true λc r=>if r=true then do let ok <- isTrue c env<|eval c env;pure (ForInStep.yield ok) else pure (ForInStep.yield r)) (λok s₃=>
      if ok=true then wpAny (model prog w) A inner (λ_ s₄=>∃ m,m < n/\I m s₄) (notedBy (model prog w) A env λe s'=>R (.error e) s') s₃
      else ∃ m,m < n/\I m s₃) (notedBy (model prog w) A env λe s'=>R (.error e) s') s₂) (notedBy (model prog w) A env λe s'=>R (.error e) s') s₁') (notedBy (model prog w) A env λe s'=>R (.error e) s') s₁) (notedBy (model prog w) A env λe s'=>R (.error e) s') s)
  (n:Nat) (h:I n s) :
  codeAny (model prog w) A (.compLoop e d it acc env) R s:=by
 refine codeAny_loop (C.quiet it) I (λn s hI=>?_) n h;rw [C.Vh,C.den];refine wpAny_noted ?_;rw [C.turn];refine BJ<|FW<|BJ<|CT (turn n s hI) (λr s₁ h₁=>?_) λ_ _ h'=>h';cases r with
 | none=>exact BK h₁
 | some v=>
  refine BJ<|CT h₁ (λ_ s₁' h₁'=>?_) λ_ _ h'=>h';refine BJ<|CT h₁' (λ_ s₂ h₂=>BJ<|CT h₂ (λok s₃ h₃=>?_) λ_ _ h'=>h') λ_ _ h'=>h';cases ok with
  | false=>exact BK ⟨rfl,h₃⟩
  | true=>exact BJ<|CT h₃ (λ_ s₄ h₄=>BK ⟨rfl,h₄⟩) λ_ _ h'=>h'
theorem Vj{e:Expr}{d:Nat}{tg iter:Expr}{ifs:List Expr}{it acc:Value}{env:Env}{inner:Sem Unit}(C:Clause e d tg iter ifs acc env inner)
  (h0:codeAny (model prog w) A (.compLoop e d it acc env) R s)
  (h:wpAny (model prog w) A (pyIter it) (λzQ s'=>codeAny (model prog w) A (.compLoop e d zQ acc env) R s') (notedBy (model prog w) A env λx s'=>R (.error x) s') s) :
  codeAny (model prog w) A (.compStart e d it acc env) R s:=by
 refine JL ?_;rw [C.zP,C.zO];refine wpAny_notedAt ?_;unfold compStart;rw [C.at'];show wpAny _ _ (ask >>= _) _ _ s;refine BJ<|KZ<|wpAny_ite ?_
 split
 ·first
   | exact BJ<|BK<|BK<|And.intro (C.quiet _) h0
   | exact BK<|And.intro (C.quiet _) h0
 ·first
   | exact BJ<|IV<|BJ<|FW<|BJ<|CT h (λzQ s' h'=>BK<|And.intro (C.quiet _) h') λ_ _ x=>x
   | (refine BJ<|IV ?_;show wpAny _ _ (standAt iter.pos >>= _) _ _ s;exact BJ<|FW<|BJ<|CT h (λzQ s' h'=>BK<|And.intro (C.quiet _) h') λ_ _ x=>x)
end
structure jQ(X:Cx)(m:Sem Unit)(σ:St)(H:Hp)(Q:St->Hp->Prop):Prop where
 run:∀(pins:List<|Addr×Obj) (s:Shared),Inv X pins σ H s->wpAny (model X.prog X.w) X.A m (λ_ s'=>∃ σ' H',Inv X pins σ' H' s'/\Q σ' H') X.xe s
def gj(X:Cx)(tg:Expr)(ifs:List Expr)(inner:Sem Unit)(J:It)(after:St->Hp->Prop)(σ:St)(H:Hp):Prop:=
 ∃ W:Nat->Nat->St->Hp->Prop,(∃ m,W 0 m σ H)/\∀ i m σ' H',W i m σ' H' ->
  (J.stop i H' ∧ after σ' H') ∨ (J.go i H' ∧ ∃ N : St → Hp → Prop, (∀ σ' H', N σ' H' → ∃ m', m' < m ∧ W (i + 1) m' σ' H') ∧ ∀ x H2, J.pR i H' x H2 → Eg X tg x σ' H2 λσ2 H3 => Ei X ifs σ2 H3 λb H4 =>
   if b=true then jQ X inner σ2 H4 N else N σ2 H4)
theorem v6{X:Cx}(dI:X.xe=λ_ _=>False)(hc:X.calm=true){e:Expr}{d:Nat}{tg iter:Expr}{ifs:List Expr}{acc:Value}{inner:Sem Unit}(C:Clause e d tg iter ifs acc X.env inner){pins:List (Addr×Obj)}{σ:St}{H:Hp}{s:Shared}
  {it:Addr} {fp:List Addr} {tn:Nat->Heap->Prop} {J:It} {after:St->Hp->Prop} {R:Result->Shared->Prop} (I:Inv X pins σ H s) (T:Turn X.prog X.w X.K tg J fp it tn) (st:tn 0 s.heap) (hf:∀ b∈fp,bV X pins H b) (h:gj X tg ifs inner J after σ H)
  (hR:∀ σ' H' s',Inv X pins σ' H' s'->after σ' H'->R (.ok .next) s') :
  codeAny (model X.prog X.w) X.A (.compStart e d (.ref it) acc X.env) R s:=by
 obtain⟨W,⟨m0,w0⟩,turn⟩:=h;have stat:∀{H':Hp},(∀ b∈fp,H' b=none)->∀ b∈fp,bV X pins H' b:=λhn b hb=>⟨hn b hb,(hf b hb).2⟩;have loop:codeAny (model X.prog X.w) X.A (.compLoop e d (.ref it) acc X.env) R s:=by
  refine Vi C (λk s'=>∃ i σ' H',Inv X pins σ' H' s'/\tn i s'.heap/\(∀ b∈fp,H' b=none)/\W i k σ' H') ?_ m0 ⟨0,σ,H,I,st,λb hb=>(hf b hb).1,w0⟩;rintro k s4 ⟨i,σ4,H4,J4,Kw,Kx,w4⟩
  rcases turn i k σ4 H4 w4 with ⟨stop,qn⟩ | ⟨go,N,hN,step⟩
  ·have d1:=T.done X rfl rfl rfl hc i pins s4 σ4 H4 (λ_ _=>False) J4 (stat Kx) Kw stop;refine ik d1 λr s5 ⟨hr,I5⟩=>?_;subst hr;exact hR _ _ _ I5 qn
  ·have d1:=T.item X rfl rfl rfl hc i pins s4 σ4 H4 (λ_ _=>False) J4 (stat Kx) Kw go;refine ik d1 λr s5 ⟨u,hr,h5⟩=>?_;subst hr;refine ik h5 λ_ s6 ⟨x,H6,I6,r6,y6,zR,Vk⟩=>?_;have Vl:=I6.pinned (stat Vk)<|T.obj _ _ zR;have again:∀{σ7:St} {H7:Hp} {s7:Shared},Inv X (pins++rp fp s6.heap) σ7 H7 s7->N σ7 H7->∃ m,m < k/\∃ i σ' H',Inv X pins σ' H' s7/\tn i s7.heap/\(∀ b∈fp,H' b=none)/\W i m σ' H':=λ{σ7 H7 s7} I7 n7=>by
    obtain⟨m',hm,w7⟩:=hN σ7 H7 n7;refine⟨m',hm,i+1,σ7,H7,I7.cA,T.keep _ _ _ zR λb hb o e=>(I7.pin (b,o)<|Au _<|Au _<|vJ hb e).1,λb hb=>?_,w7⟩;obtain⟨o,e,d⟩:=T.obj _ _ zR b hb;exact(I7.pin (b,o)<|Au _<|Au _<|vJ hb e).2.1
   have a1:=(step x H6 y6).run _ s6 u Vl r6;rw [dI] at a1;refine ik a1 λ_ s7 ⟨σ7,H7,I7,q7⟩=>?_;have a2:=q7.run _ s7 I7;rw [dI] at a2;refine ik a2 λok s8 ⟨H8,I8,q8⟩=>?_;cases ok with
   | false=>
    rw [BL Ar] at q8 ⊢;exact again I8 q8
   | true=>
    rw [BP rfl] at q8 ⊢;have a3:=q8.run _ s8 I8;rw [dI] at a3;exact ik a3 λ_ s9 ⟨σ9,H9,I9,q9⟩=>again I9 q9
 exact Vj C loop<|T.self _ 0 _ _ _ st loop
theorem Ky{X:Cx}{e:Expr}{tg iter:Expr}{ifs:List Expr}{scope:Scope}{N':List Str}{newAcc:Sem Value}{o0:Obj}{u0:Addr->HO}{n:Nat}{inner:Value->Env->Sem Unit}{pins:List (Addr×Obj)}{σ:St}{H2:Hp}{s2:Shared}{E:Value->Shared->Prop}{RR:Value->Addr->Result->Shared->Prop}{it:Addr}{fp:List Addr}{tn:Nat->Heap->Prop}{J:It}{Q:VK}
  (gk:∀(Q:Value->Shared->Prop) (E:Value->Shared->Prop) (s:Shared),Q (.ref s.heap.objs.size) {s with heap:=s.heap.push o0}->wpAny (model X.prog X.w) X.A newAcc Q E s) (gd:∀(H:Hp) (h:Heap),sysModules < h.objs.size->ax X.prog X.w H (h.push o0) h.objs.size (u0 h.objs.size))
  (hc:X.calm=true) (ck:cb X.env.scope scope X.N N') (hl:N'.length=X.N.length+n) (hC:∀ acc env,Clause e 0 tg iter ifs acc env<|inner acc env)
  (I2:Inv X pins σ H2 s2) (T:Turn X.prog X.w X.K tg J fp it tn) (eY:tn 0 s2.heap) (f2:∀ b∈fp,bV X pins H2 b)
  (q:∀ D,H2 D=none->∀ cl C s₀ H₀ ex,gj (fb X N' scope cl C s₀ H₀ ex) tg ifs (inner (.ref D)<|compEnvC scope cl C X.env) J (λ_ H'=>Q (.ref D) H') (σ++List.replicate n none)<|upd H2 D<|u0 D)
  (zS:∀ D C H' s' m,Inv X pins σ H' s'->s'.heap.Ns C m->H' C=none->C≠X.env.locals->X.s₀.heap.objs.size<=C->(∀ x c,X.env.cells.lookup x=some c->c≠C)->(∀ p∈X.pn++pins,p.1≠C)->Q (.ref D) H'->RR (.ref D) C (.ok .next) s') :
  wpAny (model X.prog X.w) X.A newAcc (λacc s₃=>wpAny (model X.prog X.w) X.A (newFunctionEnv scope X.env.globals (cn scope.names X.env.cells []) [] X.env.qual none .none<|some X.env) (λjb s₄=>
   codeAny (model X.prog X.w) X.A (.compStart e 0 (.ref it) acc {jb with scope:=relabel scope X.env}) (RR acc jb.locals) s₄) E s₃) E s2:=by
 refine gk _ _ _<|Va λh₁ hns₁ old₁ hcs₁=>?_;have hD:H2 s2.heap.objs.size=none:=I2.aD.fresh<|Al _;have q0:=q s2.heap.objs.size hD;have fl:∀ b∈fp,b < s2.heap.objs.size:=λb hb=>by
  obtain⟨o,e,_⟩:=T.obj 0 _ eY b hb;exact As e
 have I3:Inv X pins σ (upd H2 s2.heap.objs.size<|u0 s2.heap.objs.size) {s2 with heap:=s2.heap.push o0}:=
  I2.laid (t':=s2.toks) (λb o e=>Af _ e) (Al _) (gd _ _ I2.big)
 generalize v7:({s2 with heap:=s2.heap.push o0}:Shared)=s3 at I3 hns₁ old₁ hcs₁ ⊢;have Vm:s3.heap.objs.size=s2.heap.objs.size+1:=by rw [<- v7];exact Dd ..
 have zT:∀ b o,s2.heap.get? b=some o->s3.heap.get? b=some o:=λb o e=>by rw [<- v7];exact Af _ e
 have old:∀ b o,s3.heap.get? b=some o->h₁.get? b=some o:=old₁;have f3:∀ b∈fp,bV X pins (upd H2 s2.heap.objs.size<|u0 s2.heap.objs.size) b/\b < s3.heap.objs.size:=λb hb=>by
  refine⟨⟨?_,(f2 b hb).2⟩,by rw [Vm];exact Cn<|fl b hb⟩;rw [av<|Bt<|fl b hb];exact(f2 b hb).1
 have I4:=λ(t':Nat)=>Vc (N':=N') (scope:=scope) (n:=n) (fp:=fp) (h₁:=h₁) (t':=t') I3 ck hl hns₁ old hcs₁ f3;generalize hX:fb X N' scope (cellsFrom (s3.heap.objs.size+1) scope.names<|cn scope.names X.env.cells []) s3.heap.objs.size s3 (upd H2 s2.heap.objs.size<|u0 s2.heap.objs.size) fp=X' at I4;have eP:X'.prog=X.prog:=by rw [<- hX];rfl
 have ew:X'.w=X.w:=by rw [<- hX];rfl
 have eK:X'.K=X.K:=by rw [<- hX];rfl
 have eA:X'.A=X.A:=by rw [<- hX];rfl
 have eE:X'.env=compEnvC scope (cellsFrom (s3.heap.objs.size+1) scope.names<|cn scope.names X.env.cells []) s3.heap.objs.size X.env:=by rw [<- hX];rfl
 have ec:X'.calm=true:=by rw [<- hX];exact hc
 have II:X'.xe=λ_ _=>False:=by rw [<- hX];rfl
 have stat:∀{H':Hp},(∀ b∈fp,H' b=none)->∀ b∈fp,bV X' [] H' b:=λhn b hb=>by
  refine⟨hn b hb,?_,?_,?_,?_,?_⟩
  ·rw [eE];exact Bt (f3 b hb).2
  ·rw [<- hX];intro hf
   rcases Aj.mp (I3.d7 b hf) with z | z
   ·exact(f3 b hb).1.2.1 z
   ·exact(f3 b hb).1.2.2.1 z
  ·rw [<- hX];exact .inl hb
  ·rw [eE];intro x c e
   rcases Kr e with z | z
   ·exact λk=>absurd (f3 b hb).2<|Nat.not_lt.mpr<|by rw [<- k];exact Ek z.2
   ·exact(f3 b hb).1.2.2.2.2.1 x c<|zv _ _ _ (λ_ _ z=>by simp at z) x c<|CW z
  ·rw [<- hX];intro p hp;exact absurd hp<|by simp [fb]
 have fin:∀{σ':St} {H':Hp} {s':Shared},Inv X' [] σ' H' s'->Q (.ref s2.heap.objs.size) H'->RR (.ref s2.heap.objs.size) s3.heap.objs.size (.ok .next) s':=λ{σ' H' s'} I' q'=>by
  obtain⟨m',vF,_⟩:=id I'.loc;rw [eE] at vF;have Vn:s'.os=s3.os:=by have:=I'.os;rw [<- hX] at this;exact this
  have Vo:Un (d6 X.stack) fp (upd H2 s2.heap.objs.size<|u0 s2.heap.objs.size) H' s3.heap s'.heap:=by have:=I'.base;rw [<- hX] at this;exact this
  have aD:b5 X.prog X.w H' s'.heap:=by have:=I'.aD;rw [eP,ew] at this;exact this
  have IX:Inv X pins σ H' s':=I3.call' (ch:=fp) Vn Vo aD I'.bare λb hb=>⟨(f3 b hb).1.2.2.2.1,(f3 b hb).1.2.1,(f3 b hb).1.2.2.2.2.1,(f3 b hb).1.2.2.2.2.2⟩;have jR:=I'.free;rw [eE] at jR;refine zS _ _ H' s' m' IX vF jR (Cy I3.lt) I3.sz (λx c e z=>?_) (λp hp z=>?_) q'
  ·obtain⟨v,o,ho,_⟩:=I3.cell x c e;exact absurd (As ho)<|by rw [z];exact Cs _
  ·exact absurd (As (I3.pin p hp).1)<|by rw [z];exact Cs _
 have Vp:∀ b∈fp,bV X' [] (upd H2 s2.heap.objs.size<|u0 s2.heap.objs.size) b:=stat λb hb=>(f3 b hb).1.1;have q1:gj X' tg ifs (inner (.ref s2.heap.objs.size) X'.env) J (λ_ H'=>Q (.ref s2.heap.objs.size) H') (σ++List.replicate n none) (upd H2 s2.heap.objs.size<|u0 s2.heap.objs.size):=by
  rw [eE,<- hX];exact q0 _ _ _ _ _
 have T':Turn X'.prog X'.w X'.K tg J fp it tn:=by rw [eP,ew,eK];exact T
 have fin2:=v6 (s:={s3 with heap:=h₁,toks:=s3.toks}) II ec (hC (.ref s2.heap.objs.size) X'.env) (I4 s3.toks) T' (T.keep 0 _ _ eY λb _ o e=>old b o<|zT b o e) Vp q1 (R:=RR (.ref s2.heap.objs.size) s3.heap.objs.size) λσ' H' s' I' a'=>fin I' a';rw [eP,ew,eA,eE] at fin2;exact fin2
def emit(elt:Expr)(acc:Value)(env:Env):Sem Unit:=do let _ <- call (.builtin "list.append") [acc,<- eval elt env]
section
variable{X:Cx}{elt tg iter:Expr}{ifs:List Expr}{scope:Scope}{pos:Pos}{σ:St}{H:Hp}{acc:Value}{env:Env}{N':List Str}{J:It}
theorem Vq:Clause (.ListComp elt [⟨tg,iter,ifs,0⟩] scope pos) 0 tg iter ifs acc env (emit elt acc env):=⟨rfl,λ_=>rfl,λ_ _ _=>rfl,λ_ _=>rfl,λ_ _ _=>rfl,λ_ _=>rfl,λ_=>rfl⟩
theorem zU{D:Addr}{Q:St->Hp->Prop} (h:Ev X elt σ H λv H1=>∃ ys,H1 D=some (.lst ys)/\ys.length < sizeLine/\Q σ (upd H1 D<|.lst<|ys++[v])):jQ X (emit elt (.ref D) X.env) σ H Q:=by
 refine⟨λpins s I=>?_⟩;unfold emit;refine BJ<|aI (h.run pins s I) λv s1 ⟨x,H1,I1,r1,ys,hy,hz,q⟩=>?_;refine BJ<|aI (JS (X:=X) _ s1 σ H1 (.ref D) [x] (.ref D) [v] (λ_ H'=>Q σ H') I1 rfl (.cons r1 .nil) ⟨_,ys,x,rfl,rfl,hy,hz,q⟩) λ_ s2 ⟨_,H2,I2,_,q2⟩=>BK ⟨σ,H2,I2,q2⟩
theorem Eg.mono{v:V}{R R':St->Hp->Prop}(h:Eg X elt v σ H R)(f:∀ σ' H',R σ' H'->R' σ' H'):Eg X elt v σ H R':=⟨λpins s u I r=>aI (h.run pins s u I r) λ_ _ ⟨σ',H',I',q⟩=>⟨σ',H',I',f _ _ q⟩⟩
theorem Ei.mono{T T':Bool->Hp->Prop}(h:Ei X ifs σ H T)(f:∀ b H',T b H'->T' b H'):Ei X ifs σ H T':=⟨λpins s I=>aI (h.run pins s I) λ_ _ ⟨H',I',q⟩=>⟨H',I',f _ _ q⟩⟩
theorem Vr{D:Addr}{after:Hp->Prop}(h:ki X N' scope tg ifs elt J D after σ H)(cl:List<|Str×Addr)(C:Addr)(s₀:Shared)(H₀:Hp)(ex:List Addr):gj (fb X N' scope cl C s₀ H₀ ex) tg ifs (emit elt (.ref D)<|compEnvC scope cl C X.env) J (λ_ H'=>after H') σ H:=by
 obtain⟨W,w0,t⟩:=h;refine⟨W,w0,λi m σ' H' w=>(t i m σ' H' w).imp id λ⟨g,N,hN,st⟩=>⟨g,N,hN,λx H2 y=>(st x H2 y cl C s₀ H₀ ex).mono λσ2 H3 h3=>(h3 cl C s₀ H₀ ex).mono λb H4 h4=>?_⟩⟩;cases b with
 | true=>
  rw [BP rfl] at h4 ⊢;exact zU (X:=fb X N' scope cl C s₀ H₀ ex)<|h4 cl C s₀ H₀ ex
 | false=>
  rw [BL Ar] at h4 ⊢;exact h4
theorem Kz{n:Nat}{pins:List (Addr×Obj)}{H2:Hp}{s2:Shared}{E:Value->Shared->Prop}{RR:Value->Addr->Result->Shared->Prop}{it:Addr}{fp:List Addr}{tn:Nat->Heap->Prop}{Q:VK}
  (hc:X.calm=true) (ck:cb X.env.scope scope X.N N') (hl:N'.length=X.N.length+n) (I2:Inv X pins σ H2 s2) (T:Turn X.prog X.w X.K tg J fp it tn) (eY:tn 0 s2.heap) (f2:∀ b∈fp,bV X pins H2 b)
  (q:∀ D,H2 D=none->ki X N' scope tg ifs elt J D (λH'=>Q (.ref D) H') (σ++List.replicate n none) (upd H2 D<|.lst []))
  (zS:∀ D C H' s' m,Inv X pins σ H' s'->s'.heap.Ns C m->H' C=none->C≠X.env.locals->X.s₀.heap.objs.size<=C->(∀ x c,X.env.cells.lookup x=some c->c≠C)->(∀ p∈X.pn++pins,p.1≠C)->Q (.ref D) H'->RR (.ref D) C (.ok .next) s') :
  wpAny (model X.prog X.w) X.A (newList []) (λacc s₃=>wpAny (model X.prog X.w) X.A (newFunctionEnv scope X.env.globals (cn scope.names X.env.cells []) [] X.env.qual none .none<|some X.env) (λjb s₄=>
   codeAny (model X.prog X.w) X.A (.compStart (.ListComp elt [⟨tg,iter,ifs,0⟩] scope pos) 0 (.ref it) acc {jb with scope:=relabel scope X.env}) (RR acc jb.locals) s₄) E s₃) E s2:=
 Ky (newAcc:=newList []) (o0:={cls:= .type "list",dict:=none,data:= .seq ([]:List Value).toArray}) (u0:=λ_=> .lst []) (λ_ _ _ h=>DG h<|by show(0:Nat)<=sizeLine;exact Bu _) (λ_ _ _=>⟨Bu _,[],0,.nil,Ap _ rfl⟩) hc ck hl (λ_ _=>Vq) I2 T eY f2 (λD hD=>Vr<|q D hD) zS
end
section
variable{X:Cx}{elt tg iter c:Expr}{ifs:List Expr}{scope:Scope}{pos p:Pos}{wi:TI}{σ:St}{H:Hp}{Q:VK}{T:Bool->Hp->Prop}{rest:List Stmt}{D:Ends}
theorem dh(h:T true H):Ei X [] σ H T:=⟨λpins s I=>UU pins s σ H T I h⟩
theorem Vs(h:Et X c σ H T):Ei X [c] σ H T:=⟨λpins s I=>UW lU pins s σ H T I h⟩
theorem iL(sc:Scope)(N N':List Str)(n:Nat)(hi:PI X tg iter wi)
  (h:wi σ H λJ H1=>∀ D,H1 D=none->ki X N' scope tg ifs elt J D (λH'=>Q (.ref D) H') (σ++List.replicate n none) (upd H1 D<|.lst []))
  (hc:X.calm=true:=by rfl) (iq:X.env.scope=sc:=by rfl) (hN:X.N=N:=by rfl) (hk:kj sc scope N N'=true:=by decide +kernel) (hl:N'.length=N.length+n:=by rfl)
  (hs:∀ x,foldedSetIterable iter X.env x=pure x:=by intro _;rfl):Ev X (.ListComp elt [⟨tg,iter,ifs,0⟩] scope pos) σ H Q:=by
 refine⟨λpins s I=>?_⟩;subst iq hN;have ck:=cb.of hk;rw [eval_ListComp];refine JQ (use:=none) rfl hs (zu λx hx hf=>I.ok.has x.1<|ck.free x hx hf) ck.kind ck.names (aI (hi pins s σ H _ I h) λv s1 h1=>aI h1 λlN s2 h2=>?_);obtain⟨it,fp,tn,J,H2,e,I2,T,eY,f2,q⟩:=h2;subst e;refine Kz (RR:=λacc C=>compPost (model X.prog X.w) X.A X.xe none (EP X pins σ Q) acc C) hc ck hl I2 T eY f2 q ?_;intro D C H' s' m IX hn hC c1 c2 c3 c4 qq;exact⟨m,hn,λh' eF=>⟨.ref D,H',IX.turned (t':=s'.toks) (λb o hb e=>eF.extBut b o hb e) hC (CG<|CG c1) (.inr c2) c3 c4,rfl,qq⟩⟩
theorem zV(i:Nat){y:Str}{py rX:Pos}(sc:Scope)(N N':List Str)(n:Nat)(ko:X.N.Nodup)(hi:PI X tg iter wi)
  (h:wi σ H λJ H1=>∀ A,H1 A=none->ki X N' scope tg ifs elt J A (λH'=>Run X rest D (σ.set i<|some<|.ref A) H') (σ++List.replicate n none) (upd H1 A<|.lst []))
  (Vt:X.N[i]?=some y:=by rfl) (hy:Loc X.env.scope y:=by first | exact Or.inl rfl | exact Or.inr rfl)
  (Vu:swapsWith (.ListComp elt [⟨tg,iter,ifs,0⟩] scope pos) (some<|.Name y py) rX.line X.env=pure true:=by rfl)
  (hc:X.calm=true:=by rfl) (iq:X.env.scope=sc:=by rfl) (hN:X.N=N:=by rfl) (hk:kj sc scope N N'=true:=by decide +kernel) (hl:N'.length=N.length+n:=by rfl)
  (hs:∀ x,foldedSetIterable iter X.env x=pure x:=by intro _;rfl) (hf:X.fn y=true\/X.env.scope.names.lookup y=some .local:=by first | exact .inl rfl | exact .inr rfl | assumption) :
  Run X (.Assign [.Name y py] (.ListComp elt [⟨tg,iter,ifs,0⟩] scope pos) rX :: rest) D σ H:=by
 refine jN (t:=λD' σ H=>wi σ H λJ H1=>∀ A,H1 A=none->ki X N' scope tg ifs elt J A (λH'=>D'.nx (σ.set i<|some<|.ref A) H') (σ++List.replicate n none) (upd H1 A<|.lst [])) ?_ h;intro pins s σ H D I h;subst iq hN;have ck:=cb.of hk;rw [exec_Assign_Name_used _ _ _ _ Vu];refine BJ<|FW<|BJ ?_;show wpAny _ X.A (do let _ <- comprehension (.ListComp elt [⟨tg,iter,ifs,0⟩] scope pos) scope X.env _ (newList []) false (eval iter X.env)<|some<|assign (.Name y py) X.env) _ _ s;refine BJ<|CT (JQ (use:=some<|assign (.Name y py) X.env) (Q:=λ_ s'=>SP X pins D .next s') rfl hs (zu λx hx hf=>I.ok.has x.1<|ck.free x hx hf) ck.kind ck.names
  (aI (hi pins s σ H _ I h) λv s1 h1=>aI h1 λlN s2 h2=>?_)) (λ_ s' hq=>BK<|BK hq) λ_ _ e=>e
 obtain⟨it,fp,tn,J,H2,e,I2,T,eY,f2,q⟩:=h2;subst e;refine Kz (Q:=λx H1=>D.nx (σ.set i<|some x) H1) (RR:=λacc C=>compPost (model X.prog X.w) X.A X.xe (some<|assign (.Name y py) X.env) (λ_ s'=>SP X pins D .next s') acc C) hc ck hl I2 T eY f2 q ?_;intro D' C H' s' m IX hn hC c1 c2 c3 c4 qq;show wpAny _ X.A (assign (.Name y py) X.env<|.ref D') _ _ _;refine wpAny_assign_Name<|IP IX ko Vt hy (v:= .ref D') rfl (λrE Vv zW=>?_) hf;obtain⟨a,zW,ha⟩:=zW;have Vw:C≠a:=by
  rcases ha with ha | ha
  ·rw [ha];exact c1
  ·exact CG<|c3 _ _ ha
 refine⟨m,hn.sameBut zW Vw,λh' eF=>⟨_,H',Vv.turned (t':=rE.toks) (λb o hb e=>eF.extBut b o hb e) hC c1 (.inr c2) c3 c4,qq⟩⟩
theorem Vx{N':List Str}{x:Str}{z:Str}{A:Addr}{after:Hp->Prop}(f:Nat->V)(hz:z.cps.size < sizeLine)(hg:∀ cl C s₀ H₀ ex v v0 H' R,R (σ++[some v]) H'->Eg (fb X N' scope cl C s₀ H₀ ex) tg v (σ++[v0]) H' R)
  (he:∀ cl C s₀ H₀ ex c H' R,(∃ j:Nat,z.cps[j]?=some c)->R (f c) H'->Ev (fb X N' scope cl C s₀ H₀ ex) elt (σ++[some<|.str ⟨#[c]⟩]) H' R) (q:after<|upd H A<|.lst<|z.cps.toList.map f) :
  ki X N' scope tg [] elt (nj z) A after (σ++List.replicate 1 none) (upd H A<|.lst []):=by
 refine⟨λk m σ' H'=>m=z.cps.size - k/\k<=z.cps.size/\(∃ v,σ'=σ++[v])/\H'=upd H A (.lst<|(z.cps.toList.take k).map f),⟨_,rfl,Bu _,⟨none,rfl⟩,by simp⟩,?_⟩;rintro k m σ' H' ⟨rfl,hk,⟨v,rfl⟩,rfl⟩
 by_cases aM:k < z.cps.size
 ·refine .inr ⟨aM,λσ' H'=>(∃ v,σ'=σ++[v])/\H'=upd H A (.lst<|(z.cps.toList.take<|k+1).map f),λσ' H' hh=>⟨z.cps.size - (k+1),by omega,rfl,aM,hh⟩,?_⟩;rintro x H2 ⟨rfl,c,hc,rfl⟩;intro cl C s₀ H₀ ex;refine hg cl C s₀ H₀ ex _ _ _ _ ?_;intro cl C s₀ H₀ ex;refine dh ?_;rw [BP rfl];intro cl C s₀ H₀ ex;refine he cl C s₀ H₀ ex c _ _ ⟨k,hc⟩ ⟨_,aw,?_,⟨_,rfl⟩,?_⟩
  ·rw [Aa,Bo];have:z.cps.toList.length=z.cps.size:=by simp
   omega
  ·rw [vz]
   congr 2
   have aZ:z.cps.toList[k]?=some c:=by simpa using hc
   rw [Cj,aZ,Ak];rfl
 ·have e:k=z.cps.size:=by omega
  subst e;refine .inl ⟨Al _,?_⟩;have e2:z.cps.toList.take z.cps.size=z.cps.toList:=Dc (by simp);rw [e2];exact q
end
structure aV(P:Program)(w:World)(K:PySem.W.Frag)(mg:Str->Option Value)(base:Heap)(k:Nat)(x:Str)(ps:List Str)(sp:Sp):Prop where
 ex:∃ f fd,aE P w K mg base bJ k f fd ps sp/\Binds K fd ps []/\PySem.W.keepIn K (.ref f)=true/\mg x=some (.ref f)
theorem aV.mono{P:Program}{w:World}{K:PySem.W.Frag}{mg:Str->Option Value}{base:Heap}{j k:Nat}{x:Str}{ps:List Str}{sp:Sp}(h:aV P w K mg base j x ps sp)(le:j<=k):aV P w K mg base k x ps sp:=
 let ⟨f,fd,F,r⟩:=h.ex;⟨f,fd,F.mono le,r⟩
theorem bK{X:Cx}{k:Nat}{ps:List Str}{sp:Sp}{x:Str}{e:Expr}{es:List Expr}{σ:St}{H:Hp}{Q:VK}{p pos:Pos}(G:aV X.prog X.w X.K X.mg X.base k x ps sp)(hr:bw k X.A)
  (h:Ea X (e :: es) σ H λvs H1=>sp vs H1 Q E0) (hg:Gl X x:=by rfl) (de:(x == ("__debug__" : Str))=false:=by decide) (hs:noStar (e :: es)=true:=by rfl):Ev X (.Call (.Name x p) (e :: es) [] pos) σ H Q:=
 let ⟨_,_,F,b,kp,m⟩:=G.ex;Kl F hr m kp b Uu h hg de hs
theorem _root_.L2.bw.gm{k:Nat}{A:Around}(hr:bw k A):A.units+100 < cLine:=by have:=hr.un;omega
theorem _root_.L2.bw.u1{k:Nat}{A:Around}(hr:bw k A):A.units+1 < cLine:=by have:=hr.un;omega
def Df(K:PySem.W.Frag)(x:Str)(st:Stmt):Prop:=∃(f:Addr) (fd:FuncData),PySem.W.nsIn K mainGlobals x=some (some<|.ref f)/\bH K x x st f fd
theorem rY{K:PySem.W.Frag}{x:Str}{st:Stmt}{f:Addr}{oc kV doc pm bC ct:Value}{od an:Option Addr}{sl:Array (Option Value)}(a:PySem.W.nsIn K mainGlobals x=some (some<|.ref f))
  (l:K.lookup f=some ⟨oc,od,.func<|PySem.W.fnOf x x (lR st) (ic st) (aQ st) .none kV doc pm an bC ct,sl⟩) (c:PySem.W.codeIn K bC x=true) (k:PySem.W.keepIn K (.ref f)=true):Df K x st:=⟨f,_,a,Uv l c k⟩
structure rZ where
 f:Addr
 bC:Value
 A:Around
 outer:List Env
 s:Shared
 H:Hp
 E:XK
def nF(N:List Str)(qual:Str)(scope:Scope)(P:Program)(w:World)(K:PySem.W.Frag)(mg:Str->Option Value)(base:Heap)(b:rZ):Cx:=(dF bJ P w K mg base N qual scope b.f b.bC b.A b.outer b.s b.H b.E).pP
def En(Q:VK):Ends:={nx:=λ_ H'=>Q .non H',rt:=Q}
theorem bH.gb{P:Program}{w:World}{K:PySem.W.Frag}{mg:Str->Option Value}{base:Heap}{x qual:Str}{st:Stmt}{f:Addr}{fd:FuncData}{N ps:List Str}{k:Nat}{sp:Sp}(F:bH K x qual st f fd)(S:al N ps<|aQ st)(len:∀ vs H Q E,sp vs H Q E->vs.length=ps.length)
  (cC:∀(b:rZ) (H:Hp) (vs:List V) (Q:VK) (E:XK),bw k (b.A.deeper<|envOfC qual (aQ st) b.s.heap.objs.size b.f b.bC)->sp vs H Q E->Run (nF N qual (aQ st) P w K mg base b) (ic st) (En Q) (start N vs) H):aE P w K mg base bJ (k+1) f fd ps sp:=
 F.go S len λbC A outer s H vs Q E hr dw=>cC ⟨f,bC,A,outer,s,H,E⟩ H vs Q E hr dw
theorem jS{us:List Value}{k:Nat}(h:us.length=k+1):∃ a r,us=a :: r/\r.length=k:=by
 cases us with
 | nil=>cases h
 | cons a r=>exact⟨a,r,rfl,Nat.succ.inj h⟩
theorem fc{fd:FuncData}{ps:List Str}(f:∀ a:Value,bindArgs fd ⟨[a],[]⟩=pure (ps.zip [a])):∀ us:List Value,us.length=1->bindArgs fd ⟨us,[]⟩=pure (ps.zip us):=λus h=>by
 obtain⟨a,r0,e0,h0⟩:=jS h;have z:=Be.mp h0;subst z e0;exact f a
theorem qd{fd:FuncData}{ps:List Str}(f:∀ a b:Value,bindArgs fd ⟨[a,b],[]⟩=pure (ps.zip [a,b])):∀ us:List Value,us.length=2->bindArgs fd ⟨us,[]⟩=pure (ps.zip us):=λus h=>by
 obtain⟨a,r0,e0,h0⟩:=jS h;obtain⟨b,r1,e1,h1⟩:=jS h0;have z:=Be.mp h1;subst z e1 e0;exact f a b
theorem se{fd:FuncData}{ps:List Str}(f:∀ a b c:Value,bindArgs fd ⟨[a,b,c],[]⟩=pure (ps.zip [a,b,c])):∀ us:List Value,us.length=3->bindArgs fd ⟨us,[]⟩=pure (ps.zip us):=λus h=>by
 obtain⟨a,r0,e0,h0⟩:=jS h;obtain⟨b,r1,e1,h1⟩:=jS h0;obtain⟨c,r2,e2,h2⟩:=jS h1;have z:=Be.mp h2;subst z e2 e1 e0;exact f a b c
theorem KA{fd:FuncData}{ps:List Str}(f:∀ a b c d:Value,bindArgs fd ⟨[a,b,c,d],[]⟩=pure (ps.zip [a,b,c,d])):∀ us:List Value,us.length=4->bindArgs fd ⟨us,[]⟩=pure (ps.zip us):=λus h=>by
 obtain⟨a,r0,e0,h0⟩:=jS h;obtain⟨b,r1,e1,h1⟩:=jS h0;obtain⟨c,r2,e2,h2⟩:=jS h1;obtain⟨d,r3,e3,h3⟩:=jS h2;have z:=Be.mp h3;subst z e3 e2 e1 e0;exact f a b c d
theorem Df.has{P:Program}{w:World}{K:PySem.W.Frag}{mg:Str->Option Value}{h base:Heap}{k:Nat}{x:Str}{st:Stmt}{ps:List Str}{sp:Sp}(d:Df K x st)(X:K.In h)(G:h.Ns mainGlobals mg)
  (hb:∀(kV doc pm:Value) (an:Option Addr) (bC ct:Value) (us:List Value),us.length=ps.length->bindArgs (PySem.W.fnOf x x (lR st) (ic st) (aQ st) .none kV doc pm an bC ct) ⟨us,[]⟩=pure (ps.zip us))
  (ok:∀{f:Addr} {fd:FuncData},bH K x x st f fd->aE P w K mg base bJ k f fd ps sp):aV P w K mg base k x ps sp:=
 let ⟨f,fd,a,F⟩:=d;⟨f,fd,ok F,F.binds hb,F.kp,HY X G a⟩
theorem Df.law{P:Program}{w:World}{K:PySem.W.Frag}{mg:Str->Option Value}{h:Heap}{k:Nat}{x y:Str}{st:Stmt}{sp:Sp}{fa:Addr}(d:Df K x st)(X:K.In h)(G:h.Ns mainGlobals mg)(zX:mg x=some (.ref fa))
  (hb:∀(kV doc pm:Value) (an:Option Addr) (bC ct:Value) (s:Shared) (v:Value),BindsTo s (PySem.W.fnOf x x (lR st) (ic st) (aQ st) .none kV doc pm an bC ct) ⟨[v],[]⟩ [(y,v)])
  (ok:∀(base:Heap) {f:Addr} {fd:FuncData},bH K x x st f fd->aE P w K mg base bJ k f fd [y] sp) :
  ∃ fd:FuncData,(∀(s:Shared) (v:Value),BindsTo s fd ⟨[v],[]⟩ [(y,v)])/\∀ base:Heap,K.In base->base.Ns mainGlobals mg->aE P w K mg base bJ k fa fd [y] sp:=by
 obtain⟨f,fd,a,F⟩:=d;have e:=zX.symm.trans<|HY X G a;cases e;obtain⟨oc,od,kV,doc,pm,an,bC,ct,jK,rfl,lk,gK⟩:=id F.ex;exact⟨_,hb kV doc pm an bC ct,λbase _ _=>ok base F⟩
end L2
namespace bD
open PySem
def qe(m i:Nat):Nat:=(i * 5+1) % m
def fG(m:Nat):Nat->Nat->List Nat
 | 0,_=>[]
 | n+1,i=>i :: fG m n (qe m i)
def kq(m:Nat):Nat->Nat->Nat
 | 0,i=>i
 | n+1,i=>kq m n<|qe m i
theorem v8(m:Nat):∀ a b i,kq m (a+b) i=kq m b (kq m a i)
 | 0,b,i=>by rw [Fw];rfl
 | a+1,b,i=>by
  rw [show a+1+b=(a+b)+1 by omega];exact v8 m a b<|qe m i
theorem zY(m:Nat):∀ n t i,t < n->kq m t i∈fG m n i
 | 0,_,_,h=>by omega
 | n+1,0,i,_=>Ae
 | n+1,t+1,i,h=>Ah _<|zY m n t (qe m i)<|by omega
theorem zZ(m:Nat):∀ n i j,j∈fG m n i->∃ t,t < n/\kq m t i=j
 | 0,_,_,h=>by cases h
 | n+1,i,j,h=>by
  rcases Aj.mp h with rfl | h
  ·exact⟨0,Eu _,rfl⟩
  ·obtain⟨t,ht,e⟩:=zZ m n (qe m i) j h;exact⟨t+1,Nat.succ_lt_succ ht,e⟩
def covers(m:Nat):Bool:=kq m m 0 == 0 && (List.range m).all λj=>(fG m m 0).contains j
theorem Vy:covers 8=true:=by decide +kernel
theorem Vz:covers 16=true:=by decide +kernel
theorem VA:covers 32=true:=by decide +kernel
theorem VB:covers 64=true:=by decide +kernel
theorem VC:covers 128=true:=by decide +kernel
theorem VD:covers 512=true:=by decide +kernel
def Pow(m:Nat):Prop:=m=8\/m=16\/m=32\/m=64\/m=128\/m=512
theorem Pow.covers{m:Nat}(h:Pow m):bD.covers m=true:=by
 rcases h with rfl | rfl | rfl | rfl | rfl | rfl
 ·exact Vy
 ·exact Vz
 ·exact VA
 ·exact VB
 ·exact VC
 ·exact VD
theorem Pow.pos{m:Nat}(h:Pow m):8<=m/\m<=512:=by rcases h with rfl | rfl | rfl | rfl | rfl | rfl <;> decide
theorem Pow.mem{m i j:Nat}(h:Pow m)(hi:i < m)(hj:j < m):j∈fG m m i:=by
 have q:=h.covers;unfold bD.covers at q;rw [Cf,De,QL] at q;obtain⟨z,q⟩:=q;obtain⟨a,ha,ea⟩:=zZ m m 0 i<|Do.mp<|q i<|Bg.mpr hi;obtain⟨b,hb,eb⟩:=zZ m m 0 j<|Do.mp<|q j<|Bg.mpr hj
 rcases Cz b a with c | c
 ·have e:kq m (b+m - a) i=j:=by
   rw [<- ea,<- v8,show a+(b+m - a)=m+b by omega,v8,z,eb]
  rw [<- e];exact zY m m _ i<|by omega
 ·have e:kq m (b - a) i=j:=by
   rw [<- ea,<- v8,show a+(b - a)=b by omega,eb]
  rw [<- e];exact zY m m _ i<|by omega
def nG(mask:Nat):Nat->Nat->Nat->List Nat
 | 0,_,_=>[]
 | n+1,i,p=>i :: nG mask n (SetTable.leap mask i p).1 (SetTable.leap mask i p).2
theorem KE(mask:Nat):∀ n i,nG mask n i 0=fG (mask+1) n i
 | 0,_=>rfl
 | n+1,i=>by
  show i :: nG mask n ((i * 5+1+0 / 32) % (mask+1)) (0 / 32)=i :: fG (mask+1) n (qe (mask+1) i);rw [show(0 / 32:Nat)=0 by decide,Gm,KE mask n];rfl
theorem KG{mask i p:Nat}:(SetTable.leap mask i p).1 < mask+1:=Gc _<|Eu _
theorem KI{mask:Nat}:∀(t n i p:Nat),i < mask+1->p < 32 ^ t->∃ i',i' < mask+1/\∀ j∈fG (mask+1) n i',j∈nG mask (t+n) i p
 | 0,n,i,p,hi,hp=>by
  have e:p=0:=by simpa using hp
  subst e;refine⟨i,hi,λj hj=>?_⟩;rw [Fw,KE];exact hj
 | t+1,n,i,p,hi,hp=>by
  have h2:p / 32 < 32 ^ t:=by
   rw [Nat.div_lt_iff_lt_mul<|by decide];rw [Nat.pow_succ] at hp;exact hp
  obtain⟨i',h',q⟩:=KI t n (SetTable.leap mask i p).1 (p / 32) KG h2;refine⟨i',h',λj hj=>?_⟩;rw [show t+1+n=(t+n)+1 by omega];exact Ah _<|q j hj
theorem KL{mask i p j:Nat}(hm:Pow<|mask+1)(hi:i < mask+1)(hp:p < 2 ^ 64)(hj:j < mask+1):j∈nG mask (mask+15) i p:=by
 obtain⟨i',h',q⟩:=KI (mask:=mask) 14 (mask+1) i p hi (Bf hp<|by decide);have:=q j<|hm.mem h' hj;rwa [show 14+(mask+1)=mask+15 by omega] at this
abbrev dJ:=Array<|Option Nat
def nil?(owner:dJ)(j:Nat):Bool:=(owner.getD j<|some 0).isNone
theorem z6(mask i:Nat):i<=SetTable.runEnd mask i:=by unfold SetTable.runEnd;split <;> omega
theorem KO{mask:Nat}{owner:dJ}:∀{fuel i p:Nat},SetTable.layClean.free mask owner fuel i p=none->∀ j∈nG mask fuel i p,nil? owner j=false
 | 0,_,_,_,j,hj=>by cases hj
 | fuel+1,i,p,h,j,hj=>by
  unfold SetTable.layClean.free at h
  split at h
  ·cases h
  ·rename_i hf
   rcases Aj.mp hj with rfl | hj
   ·have:=Ex.mp hf 0 (Bg.mpr<|by have:=z6 mask j;omega);rw [Gm] at this;exact Fd.mpr this
   ·exact KO (fuel:=fuel) h j hj
theorem KP{mask:Nat}{owner:dJ}:∀{fuel i p j:Nat},SetTable.layClean.free mask owner fuel i p=some j->nil? owner j=true
 | 0,_,_,_,h=>by cases h
 | fuel+1,i,p,j,h=>by
  unfold SetTable.layClean.free at h
  split at h
  ·rename_i k hf;cases h;have:=Gk hf;exact this
  ·exact KP (fuel:=fuel) h
theorem nil?_iff{owner:dJ}{j:Nat}:nil? owner j=true↔owner[j]?=some none:=by
 unfold nil?;rw [Cv];cases h:owner[j]? with
 | none=>simp
 | some v=>cases v <;> simp
structure Lies(m:Nat)(owner:dJ)(k:Nat):Prop where
 size:owner.size=m
 lt:∀(j v:Nat),owner[j]?=some (some v)->v < k
 has:∀ v:Nat,v < k->∃ j:Nat,owner[j]?=some (some v)
 inj:∀(i j v:Nat),owner[i]?=some (some v)->owner[j]?=some (some v)->i=j
theorem Lies.start(m:Nat):Lies m (Array.replicate m none) 0 where
 size:=by simp
 lt:=λj v h=>by
  rw [Fq] at h
  split at h <;> cases h
 has:=λv h=>by omega
 inj:=λi j v h=>by
  rw [Fq] at h
  split at h <;> cases h
theorem Lies.put{m k j:Nat}{owner:dJ}(L:Lies m owner k)(hj:owner[j]?=some none):Lies m (owner.setIfInBounds j<|some k) (k+1):=by
 have aM:j < owner.size:=by
  rcases Cz j owner.size with h | h
  ·exact h
  ·rw [Dk h] at hj;cases hj
 have at':∀ i:Nat,(owner.setIfInBounds j<|some k)[i]?=if j=i then some (some k) else owner[i]?:=by
  intro i;rw [Fc]
  split
  ·rename_i e;subst e;first | rfl | rw [BP aM]
  ·rfl
 refine⟨by rw [Array.size_setIfInBounds];exact L.size,λi v h=>?_,λv h=>?_,λa b v ha hb=>?_⟩
 ·rw [at'] at h
  split at h
  ·cases h;exact Fj _
  ·exact Cn<|L.lt i v h
 ·rcases Nat.lt_succ_iff_lt_or_eq.mp h with h | rfl
  ·obtain⟨i,hi⟩:=L.has v h;refine⟨i,?_⟩;rw [at',BL λe=>by subst e;rw [hj] at hi;cases hi];exact hi
  ·exact⟨j,by rw [at',BP rfl]⟩
 ·rw [at'] at ha hb
  split at ha
  ·rename_i e;cases ha
   split at hb
   ·rename_i e2;exact e.symm.trans e2
   ·have:=L.lt b k hb;omega
  ·split at hb
   ·cases hb;have:=L.lt a k ha;omega
   ·exact L.inj a b v ha hb
def live(m:Nat)(owner:dJ):List (Nat×Nat):=(List.range m).filterMap λj=>(owner.getD j none).map (j,·)
theorem getD_some{owner:dJ}{j v:Nat}:owner.getD j none=some v↔owner[j]?=some (some v):=by
 rw [Cv];cases h:owner[j]? with
 | none=>simp
 | some x=>simp
theorem cE{m:Nat}{owner:dJ}{p:Nat×Nat}:p∈live m owner↔p.1 < m/\owner[p.1]?=some (some p.2):=by
 unfold live;rw [Fu]
 constructor
 ·rintro ⟨j,hj,e⟩;cases hv:owner.getD j none with
  | none=>rw [hv] at e;cases e
  | some v=>
   rw [hv] at e;cases e;exact⟨Bg.mp hj,getD_some.mp hv⟩
 ·rintro ⟨h1,h2⟩;exact⟨p.1,Bg.mpr h1,by rw [getD_some.mpr h2];rfl⟩
theorem Lies.nodup{m k:Nat}{owner:dJ}(L:Lies m owner k):((live m owner).map (·.2)).Nodup:=by
 have q:∀ l:List Nat,l.Nodup->((l.filterMap λj=>(owner.getD j none).map (j,·)).map (·.2)).Nodup:=by
  intro l
  induction l with
  | nil=>intro _;exact Cp
  | cons a r ih=>
   intro hn;rw [Bq] at hn;rw [Ej];cases hv:owner.getD a none with
   | none=>exact ih hn.2
   | some v=>
    show(v :: (r.filterMap λj=>(owner.getD j none).map (j,·)).map (·.2)).Nodup;rw [Bq];refine⟨λh=>?_,ih hn.2⟩;obtain⟨p,hp,e⟩:=Am.mp h;obtain⟨j,hj,e2⟩:=Fu.mp hp;cases hw:owner.getD j none with
    | none=>rw [hw] at e2;cases e2
    | some u=>
     rw [hw] at e2;cases e2;have e3:u=v:=e;subst e3;have:=L.inj a j u (getD_some.mp hv)<|getD_some.mp hw;subst this;exact hn.1 hj
 exact q _ Fk
theorem Lies.perm{m k:Nat}{owner:dJ}(L:Lies m owner k):((live m owner).map (·.2)).Perm (List.range k):=by
 rw [QG L.nodup Fk];intro v;rw [Bg,Am]
 constructor
 ·rintro ⟨p,hp,rfl⟩;exact L.lt _ _ (cE.mp hp).2
 ·intro h;obtain⟨j,hj⟩:=L.has v h;have aM:j < m:=by
   rw [<- L.size]
   rcases Cz j owner.size with h | h
   ·exact h
   ·rw [Dk h] at hj;cases hj
  exact⟨(j,v),cE.mpr ⟨aM,hj⟩,rfl⟩
theorem Lies.length{m k:Nat}{owner:dJ}(L:Lies m owner k):(live m owner).length=k:=by
 have:=L.perm.length_eq;rwa [Aa,Db] at this
theorem Lies.room{m k:Nat}{owner:dJ}(L:Lies m owner k)(h:k < m):∃ j,j < m/\nil? owner j=true:=by
 refine CK λhn=>?_;have all:∀ j,j < m->∃ v,owner.getD j none=some v:=by
  intro j hj;have hs:j < owner.size:=by rw [L.size];exact hj
  cases hv:owner[j] with
  | none=>exact absurd ⟨j,hj,nil?_iff.mpr<|by rw [Ce hs,hv]⟩ hn
  | some v=>exact⟨v,getD_some.mpr<|by rw [Ce hs,hv]⟩
 have len:∀ l:List Nat,(∀ j∈l,j < m)->(l.filterMap λj=>(owner.getD j none).map (j,·)).length=l.length:=by
  intro l
  induction l with
  | nil=>intro _;rfl
  | cons a r ih=>
   intro hl;obtain⟨v,hv⟩:=all a<|hl a Ae;rw [Ej,hv];show(_ :: _).length=_;rw [At,At,ih λj hj=>hl j<|Ah _ hj]
 have e:=len (List.range m) λj hj=>Bg.mp hj;have e2:=L.length;unfold live at e2;rw [e,Db] at e2;omega
theorem KS(h:Int):SetTable.bits h < 2 ^ 64:=by
 unfold SetTable.bits;have h1:0<=h % (2 ^ 64:Int):=Bs _ (by decide);have h2:h % (2 ^ 64:Int) < 2 ^ 64:=Bx _ (by decide);omega
theorem Lies.free{mask k:Nat}{owner:dJ}(L:Lies (mask+1) owner k)(hm:Pow<|mask+1)(h:k < mask+1)(x:Int) :
  ∃ j,SetTable.layClean.free mask owner (SetTable.turns mask) (SetTable.bits x % (mask+1)) (SetTable.bits x)=some j/\owner[j]?=some none:=by
 cases e:SetTable.layClean.free mask owner (SetTable.turns mask) (SetTable.bits x % (mask+1)) (SetTable.bits x) with
 | some j=>exact⟨j,rfl,nil?_iff.mp<|KP e⟩
 | none=>
  obtain⟨j,hj,q⟩:=L.room h;have:=KO e j<|KL hm (Gc _<|Eu _) (KS x) hj;rw [q] at this;cases this
def v9(mask:Nat)(acc:Option<|dJ×Nat)(h:Int):Option (dJ×Nat):=do
 let (owner,k) <- acc
 let j <- SetTable.layClean.free mask owner (SetTable.turns mask) (SetTable.bits h % (mask+1))<|SetTable.bits h
 pure (owner.setIfInBounds j<|some k,k+1)
def di(w:World):Bool:=w.params.followText "set-order"
def keyOf(e:Int×Value):Str:=match e.2 with
 | .str x _=>x
 | _=>⟨#[]⟩
section
variable(prog:Program)(w:World)
def z7(e:Int×Value):Prop:=∃ z t,e=((strKind prog w).hash z,Value.str z t)
structure Tab(es:Array<|Int×Value)(t:SetTable)(zs:List Str):Prop where
 elts:∀ e∈es.toList,z7 prog w e
 keys:(es.toList.map keyOf).Perm zs
 nodup:zs.Nodup
 few:zs.length < 1000
 fits:t.fits es.size=true
 led:t.led = !di w
 plain:es=#[]\/t.plain=false
def a9(h:Heap)(a:Addr)(zs:List Str):Prop:=∃ o es ep t,h.get? a=some o/\o.ExactSet/\o.data = .set es ep t/\Tab prog w es t zs
end
section
variable{prog:Program}{w:World}{es:Array (Int×Value)}{t:SetTable}{zs:List Str}{h h':Heap}{a:Addr}
theorem Tab.elems(T:Tab prog w es t zs):ElemsOf (strKind prog w) es.toList:=λe he=>by
 obtain⟨z,u,rfl⟩:=T.elts e he;exact⟨⟨z,strKind_is _ _ _ _,rfl⟩,rfl⟩
theorem Tab.size(T:Tab prog w es t zs):es.size=zs.length:=by
 have:=T.keys.length_eq;rw [Aa,Cd] at this;exact this
theorem Tab.jc(T:Tab prog w es t zs):es.size < 1000:=by rw [T.size];exact T.few
theorem Tab.scan(T:Tab prog w es t zs):es.size < scanBound:=by have:=T.jc;unfold scanBound;omega
theorem Tab.perm{cX:Array (Int×Value)}{t':SetTable}(T:Tab prog w es t zs)(p:cX.toList.Perm es.toList)(hf:t'.fits cX.size=true)(hl:t'.led=t.led)(hp:cX=#[]\/t'.plain=false):Tab prog w cX t' zs:=
 ⟨λe he=>T.elts e<|p.mem_iff.mp he,(p.map keyOf).trans T.keys,T.nodup,T.few,hf,hl.trans T.led,hp⟩
theorem a9.keep(S:a9 prog w h a zs)(k:∀ o,h.get? a=some o->h'.get? a=some o):a9 prog w h' a zs:=let ⟨o,es,ep,t,h1,h2⟩:=S;⟨o,es,ep,t,k o h1,h2⟩
theorem KU{o:Obj}{ep:Nat}{cX:Array (Int×Value)}{t':SetTable}{KW:List Str}(ho:h.get? a=some o)(hx:o.ExactSet)(hd:o.data = .set es ep t)(T':Tab prog w cX t' KW) :
  (h.update a<|Obj.putSet cX t').get? a=some {o with data:= .set cX (ep+1) t'}/\a9 prog w (h.update a<|Obj.putSet cX t') a KW:=by
 have q:=Dh (Obj.putSet cX t') ho (by rw [putSet_of cX t' hd];rfl);rw [putSet_of cX t' hd] at q;exact⟨q,_,cX,ep+1,t',q,hx,rfl,T'⟩
theorem z8{e:Int×Value}(he:z7 prog w e)(z:Str):(strKind prog w).is z e.2=decide (z=keyOf e):=by
 obtain⟨y,u,rfl⟩:=he;exact KeyKind.is_eq_decide (strKind_is prog w y u) z
theorem find_none(T:Tab prog w es t zs){z:Str}(hz:z∉zs):es.toList.findIdx? (λe=>(strKind prog w).is z e.2)=none:=by
 rw [List.findIdx?_eq_none_iff];intro e he;rw [z8<|T.elts e he,HW];rintro rfl;exact hz<|T.keys.mem_iff.mp<|List.mem_map_of_mem he
theorem find_some(T:Tab prog w es t zs){z:Str}(hz:z∈zs):∃ j,∃ hj:j < es.toList.length,es.toList.findIdx? (λe=>(strKind prog w).is z e.2)=some j/\keyOf es.toList[j]=z:=by
 obtain⟨e,he,e2⟩:=Am.mp<|T.keys.mem_iff.mpr hz;cases q:es.toList.findIdx? (λe=>(strKind prog w).is z e.2) with
 | none=>
  have:=List.findIdx?_eq_none_iff.mp q e he;rw [z8<|T.elts e he,HW] at this;exact absurd e2.symm this
 | some j=>
  obtain⟨hj,p,_⟩:=List.findIdx?_eq_some_iff_getElem.mp q;rw [z8<|T.elts _<|Bw hj,EY] at p;exact⟨j,hj,rfl,p.symm⟩
theorem VE(t:SetTable)(n:Nat):(t.orStandIn n).led=t.led/\((t.orStandIn n).plain=true->t.plain=true):=by
 unfold SetTable.orStandIn
 split
 ·exact⟨rfl,id⟩
 ·exact⟨rfl,λh=>by cases h⟩
theorem VF(t:SetTable)(es:Array<|Int×Value)(x:Int)(v:Value):(layNew t es x v).2.1.led=t.led:=by
 unfold layNew
 split
 ·exact(VE _ _).1
 ·rfl
theorem VG{mask f m:Nat}{l p:Bool}{hs:Array Int}{t':SetTable}{o:Array Nat}(e:SetTable.laid mask f m l p hs=some (t',o)):t'.led=l/\t'.plain=p:=by
 unfold SetTable.laid at e;cases c:SetTable.layClean mask hs with
 | none=>rw [c] at e;cases e
 | some ow=>rw [c] at e;cases e;exact⟨rfl,rfl⟩
theorem K0(t:SetTable)(es:Array<|Int×Value)(n:Nat)(hp:t.plain=false):(relayAll t es n).2.1.led=t.led/\(relayAll t es n).2.1.plain=false:=by
 unfold relayAll
 split
 ·rename_i t' o e;have q:=VG e
  dsimp only
  split
  ·exact⟨q.1,q.2.trans hp⟩
  ·exact⟨rfl,rfl⟩
 ·exact⟨rfl,rfl⟩
end
section
variable{prog:Program}{w:World}{A:Around}{E:Value->Shared->Prop}{s:Shared}{a:Addr}{zs:List Str}
theorem l8{n:Nat}(h:n < 1001):n<=sizeLine:=by rw [DQ];omega
theorem K1{g:Bool->Sem Unit}(hg:∀(b:Bool) (s₁:Shared) (Q':Unit->Shared->Prop),Q' () s₁->wpAny (model prog w) A (g b) Q' E s₁)
  {o:Obj} {es:Array (Int×Value)} {ep:Nat} {t:SetTable} (ho:s.heap.get? a=some o) (hx:o.ExactSet) (hd:o.data = .set es ep t)
  {cF:Array (Int×Value)} {t2:SetTable} (T:Tab prog w cF t2 zs) (hp:t2.plain=false) {c:Bool} {R:Option Bool->Shared->Prop}
  (k:∀ h',Heap.SameBut a s.heap h'->a9 prog w h' a zs->R (some true) {s with heap:=h'}) :
  wpAny (model prog w) A (do
   storeSet a cF t2
   if c=true then do
     g (relayAll t2 cF<|SetTable.grown cF.size).2.2
     storeSet a (relayAll t2 cF<|SetTable.grown cF.size).1 (relayAll t2 cF<|SetTable.grown cF.size).2.1
     pure (some true)
    else pure (some true)) R E s:=by
 refine BJ<|JZ ho hd ?_<|l8<|Cn T.jc;obtain⟨q1,q2⟩:=KU ho hx hd T;have sb:=CZ s.heap a<|Obj.putSet cF t2;cases c with
 | false=>exact BK<|k _ sb q2
 | true=>
  have p:=relayAll_perm t2 cF<|SetTable.grown cF.size;have T3:=T.perm p (relayAll_fits t2 cF<|SetTable.grown cF.size) (K0 t2 cF _ hp).1<|.inr (K0 t2 cF _ hp).2;refine BJ<|hg _ _ _ ?_;refine BJ<|JZ q1 rfl ?_ (l8<|Cn T3.jc);exact BK<|k _ (sb.trans<|CZ _ a _) (KU q1 hx rfl T3).2
def added(zs:List Str)(z:Str):List Str:=if z∈zs then zs else zs++[z]
theorem K2{z:Str}{tk:Tok}{Q:Bool->Shared->Prop}(S:a9 prog w s.heap a zs)(hb:zs.length+1 < 1000)
  (k:∀(b:Bool) h',Heap.SameBut a s.heap h'->a9 prog w h' a (added zs z)->Q b {s with heap:=h'}) :
  wpAny (model prog w) A (setAddHashed a (.str z tk)<|(strKind prog w).hash z) Q E s:=by
 obtain⟨o,es,ep,t,ho,hx,hd,T⟩:=S;unfold setAddHashed setAddHashedIn;refine CJ<|BJ<|CV ho hd T.fits ?_
 dsimp only
 rw [byScan_of (knd:=strKind prog w) (x:= .str z tk) rfl T.scan T.elems];simp only [↓reduceIte];unfold setAddByScan;refine BJ<|BJ<|IV<|BJ<|wpAny_setScan_of (knd:=strKind prog w) (k:=z) (strKind_is _ _ _ _) ho hd T.fits T.elems ?_
 by_cases hz:z∈zs
 ·obtain⟨j,hj,e,_⟩:=find_some T hz;rw [e]
  dsimp only
  refine BK<|BK<|k false s.heap (Heap.SameBut.refl a s.heap) ?_;unfold added;rw [BP hz];exact⟨o,es,ep,t,ho,hx,hd,T⟩
 ·rw [find_none T hz]
  dsimp only
  have gw:∀(b:Bool) (s₁:Shared) (Q':Unit->Shared->Prop),Q' () s₁->wpAny (model prog w) A (match b with | true=>rule "set.scan.the-table-gave-way" | false=>pure ()) Q' E s₁:=
   λb s₁ Q' q=>by cases b <;> first | exact BK q | exact IV q
  have p:=layNew_perm t es ((strKind prog w).hash z)<|.str z tk;have f:=layNew_fits t es ((strKind prog w).hash z)<|.str z tk;have l:=VF t es ((strKind prog w).hash z)<|.str z tk;generalize layNew t es ((strKind prog w).hash z) (.str z tk)=L at p f l ⊢;obtain⟨cF,t1,wd,gv⟩:=L
  dsimp only at p f l ⊢
  rw [Array.toList_push] at p;have tab:∀ t2:SetTable,t2.fits cF.size=true->t2.led=t1.led->t2.plain=false->Tab prog w cF t2 (zs++[z]):=λt2 h1 h2 h3=>{
   elts:=λe he=>by
    rcases Aq.mp (p.mem_iff.mp he) with he | he
    ·exact T.elts e he
    ·exact⟨z,tk,Ai.mp he⟩
   keys:=by
    refine(p.map keyOf).trans ?_;rw [Ak];exact T.keys.append<|List.Perm.refl _
   nodup:=by
    rw [Co];refine⟨T.nodup,by simp,λx hx y hy e=>?_⟩;rw [Ai] at hy;subst hy e;exact hz hx
   few:=by rw [Ag];exact hb
   fits:=h1
   led:=h2.trans<|l.trans T.led
   plain:= .inr h3}
  have fin:∀ h',Heap.SameBut a s.heap h'->a9 prog w h' a (zs++[z])->Q true {s with heap:=h'}:=λh' q1 q2=>k true h' q1 (by unfold added;rw [BL hz];exact q2);refine BJ<|gw _ _ _ ?_
  split
  ·rename_i hp;refine BJ ?_;rw [hashByValue_scannable 8 rfl];refine BK ?_;refine K1 gw ho hx hd (tab {t1 with plain:=false} (SetTable.fits_plain_off f) rfl rfl) rfl λh' q1 q2=>?_
   dsimp only
   exact BK<|fin h' q1 q2
  ·rename_i hp;refine BJ<|BK ?_;simp only [↓reduceIte];refine K1 gw ho hx hd (tab t1 f rfl (Fd.mpr hp)) (Fd.mpr hp) λh' q1 q2=>?_
   dsimp only
   exact BK<|fin h' q1 q2
theorem bS{α:Type}:∀(l:List α) (j:Nat) (hj:j < l.length),(l[j] :: l.eraseIdx j).Perm l
 | [],_,h=>by simp at h
 | x :: r,0,_=>List.Perm.refl _
 | x :: r,j+1,h=>(List.Perm.swap x _ _).trans<|(bS r j<|Nat.lt_of_succ_lt_succ h).cons x
theorem K3{α:Type}(next:Nat->Nat):∀(fuel k:Nat) (left:List α) (out:Array α),left.length<=fuel->(pickOrder.go next fuel k left out).toList.Perm (out.toList++left)
 | 0,k,left,out,h=>by
  have:left=[]:=Be.mp (by omega);subst this;unfold pickOrder.go;simp
 | fuel+1,k,left,out,h=>by
  unfold pickOrder.go;cases e:left[next k % left.length]? with
  | none=>
   have:left=[]:=by
    cases left with
    | nil=>rfl
    | cons x r=>
     have hl:next k % (x :: r).length < (x :: r).length:=Gc _ (by simp);rw [Ab hl] at e;cases e
   subst this;simp
  | some x=>
   dsimp only
   obtain⟨hl,e2⟩:=Ac.mp e;refine(K3 next fuel (k+1) _ _ (by rw [Ds,BP hl];omega)).trans ?_;rw [Array.toList_push,Ay];refine List.Perm.append_left _ ?_;have:=bS left _ hl;rw [e2] at this;exact this
theorem VH{α:Type}(next:Nat->Nat)(xs:Array α):(pickOrder next xs).toList.Perm xs.toList:=by
 have:=K3 next xs.size 0 xs.toList #[] (by simp)
 simpa [pickOrder] using this
theorem wp_choose{src:Source}{n:Nat}{Q:Nat->Shared->Prop}(hn:n≠0)(h:∀ i d,i < n->Q i {s with drawn:=d}):wpAny (model prog w) A (choose src n) Q E s:=
 λΓ p _=>⟨hn,h _ _<|Gc _<|Nat.pos_of_ne_zero hn⟩
theorem K4{α:Type}:∀(n:Nat) (xs:List α) (s:Shared) (Q:List α->Shared->Prop),xs.length<=n->(∀ ys d,ys.Perm xs->Q ys {s with drawn:=d})->wpAny (model prog w) A (drawOrder n xs) Q E s
 | 0,xs,s,Q,h,k=>by
  have:xs=[]:=Be.mp (by omega);subst this;unfold drawOrder;exact BK<|k [] s.drawn<|List.Perm.refl _
 | n+1,[],s,Q,h,k=>by
  unfold drawOrder;exact BK<|k [] s.drawn<|List.Perm.refl _
 | n+1,x :: r,s,Q,h,k=>by
  unfold drawOrder;refine BJ (wp_choose (by simp) λi d hi=>?_);rw [Ab hi]
  dsimp only
  refine BJ (K4 n _ _ _ (by rw [Ds,BP hi];omega) λys d2 p=>?_);exact BK<|k _ d2<|(p.cons _).trans<|bS _ i hi
theorem wp_text{Q:Bool->Shared->Prop}(k:Q (di w) s):wpAny (model prog w) A setsByText Q E s:=by
 unfold setsByText;exact BJ<|KZ<|BK k
variable{o:Obj}{es:Array (Int×Value)}{ep:Nat}{t:SetTable}
end
open Builtin.Frozenset
section
variable{prog:Program}{w:World}{A:Around}{E:Value->Shared->Prop}{s:Shared}{a:Addr}{zs:List Str}
structure nH(w:World)(t:SetTable):Prop where
 place:t.place=#[]
 dummies:t.dummies=#[]
 led:t.led = !di w
 plain:t.plain=true
theorem nH.tab{t:SetTable}(B:nH w t):Tab prog w #[] t []:=
 ⟨λe he=>by simp at he,by simp,Cp,by decide,by unfold SetTable.fits SetTable.fill;rw [B.place,B.dummies];simp,B.led,.inl rfl⟩
variable{o:Obj}{ep:Nat}{t:SetTable}
end
section
variable{prog:Program}{w:World}{A:Around}{E:Value->Shared->Prop}{s:Shared}{a r:Addr}{za zr:List Str}
end
def made(zs:List Str):List Str:=zs.foldl added []
theorem VI(zs:List Str)(z y:Str):y∈added zs z↔y∈zs\/y=z:=by
 unfold added
 split
 ·rename_i h;exact⟨.inl,λq=>q.elim id λe=>e ▸ h⟩
 ·rw [Aq,Ai]
theorem VJ(zs:List Str)(z:Str):(added zs z).length<=zs.length+1:=by
 unfold added
 split <;> simp
theorem K5:∀(ps zs:List Str) (y:Str),y∈ps.foldl added zs↔y∈zs\/y∈ps
 | [],zs,y=>by simp
 | p :: r,zs,y=>by
  rw [Dp,K5 r,VI,Aj]
  constructor
  ·rintro ((h | h) | h)
   ·exact .inl h
   ·exact .inr<|.inl h
   ·exact .inr<|.inr h
  ·rintro (h | h | h)
   ·exact .inl<|.inl h
   ·exact .inl<|.inr h
   ·exact .inr h
theorem K6:∀(ps zs:List Str),(ps.foldl added zs).length<=zs.length+ps.length
 | [],zs=>by simp
 | p :: r,zs=>by
  rw [Dp,At];have h1:=K6 r<|added zs p;have h2:=VJ zs p;omega
theorem VL(zs:List Str)(y:Str):y∈made zs↔y∈zs:=by
 unfold made;rw [K5];simp
theorem K7(zs:List Str):(made zs).length<=zs.length:=by
 have:=K6 zs []
 simpa [made] using this
section
variable{prog:Program}{w:World}{A:Around}{E:Value->Shared->Prop}{s:Shared}
def fe(w:World):Obj:={cls:= .type "set",dict:=none,data:= .set #[] 0 (.fresh 0 0 (!di w))}
theorem K8{h:Heap}{a:Addr}(e:h.get? a=some (fe w)):a9 prog w h a []:=⟨_,_,_,_,e,⟨rfl,rfl,rfl⟩,rfl,nH.tab ⟨rfl,rfl,rfl,rfl⟩⟩
theorem VM(v:Value){Q:Value->Shared->Prop}(k:Q (.ref s.heap.objs.size) {s with heap:=s.heap.push (fe w)}) :
  codeAny (model prog w) A (.call (.builtin "set.__new__") ⟨[.type "set",v],[]⟩) (wants Q E) s:=by
 refine JL ?_;show wpAny _ A.in1 (checkBuiltinCall "set.__new__" ⟨[.type "set",v],[]⟩ >>= λ_=>again<|.builtin "set.__new__" ⟨[.type "set",v],[]⟩) _ _ s;refine BJ<|HJ (F.newCall_set_1 v)<|BK ⟨IK F.plain_set_new _,FJ F.entry_set_new ?_⟩;rw [DX F.plain_set_new _];unfold Builtin.«set.__new__» newClass
 dsimp only
 refine BJ<|BJ<|HJ (show isType (.type "set")=pure true from rfl)<|BK ?_;simp only [Dz,Ax,CN];unfold newSet;refine BJ<|BJ<|wp_text ?_
 dsimp only
 simp only [newObj];refine BJ<|RT<|BK ?_;exact BK k
variable{R:Result->Shared->Prop}{I:Addr}{fp wr:List Addr}{G:Array GenState->Array GenState->Prop}{n:Nat}{P:Nat->Value->Prop}{St:Nat->Shared->Prop}
theorem VN(W:WalksS prog w A.in1 I fp wr G n P St)(a:Addr)(ha:a∉fp)(zs:List Str)(hn:zs.length=n)(z9:∀ i v,P i v->∃ z t,zs[i]?=some z/\v=Value.str z t)(hb:n < 900) :
  ∀(k i:Nat) (s:Shared),n - i=k->i<=n->St i s->a9 prog w s.heap a (made<|zs.take i)->(∀ s',Moved (a :: wr) G s s'->a9 prog w s'.heap a (made zs)->R (.ok<|.ret .none) s') ->
   codeAny (model prog w) A (.builtin "set.update.loop" ⟨[.ref a,.ref I],[]⟩) R s:=by
 have K9:a∉wr:=λh=>ha<|W.sub _ h;have kr:∀ b∈wr,b∈a :: wr:=λb hb=>Ah _ hb;intro k
 induction k with
 | zero=>
  intro i s hk hi st S k2;have e:i=n:=by omega
  subst e;refine FJ JR ?_;rw [DX GR _];show wpAny _ A.in1 (pyNext (.ref I) >>= _) _ _ s;refine BJ<|W.done s _ _ st λs' m=>?_;show wpAny _ A.in1 (ret Value.none) _ _ s';rw [Dc<|by omega] at S;exact BK<|k2 s' (m.mono kr)<|S.keep λo e=>m.heap a o K9 e
 | succ k ih=>
  intro i s hk hi st S k2;have aM:i < n:=by omega
  refine FJ JR ?_;rw [DX GR _];show wpAny _ A.in1 (pyNext (.ref I) >>= _) _ _ s;refine BJ<|W.item i s _ _ aM st λv s' hP cw m=>?_;obtain⟨z,t,hz,rfl⟩:=z9 i v hP;have S':a9 prog w s'.heap a (made<|zs.take i):=S.keep λo e=>m.heap a o K9 e;show wpAny _ A.in1 (holding [Value.str z t] (setAdd a<|.str z t) >>= _) _ _ s';refine BJ<|CJ ?_;unfold setAdd;refine CJ<|BJ<|(strKind prog w).pyHash (k:=z) (strKind_is _ _ _ _) ?_;have hl:(made<|zs.take i).length<=i:=Cg (K7 _) (by rw [Bo];omega);refine K2 (s:={s' with toks:=s'.toks+1}) S' (by omega) λb h' sb S2=>?_;have S3:a9 prog w h' a (made<|zs.take<|i+1):=by
   rw [Cj,hz];unfold made;rw [List.foldl_append];exact S2
  refine BK ⟨IK GR _,ih (i+1) _ (by omega) aM (W.frame _ s' _ _ cw (Ff _) λc hc o e=>?_) S3 λs2 m2 S4=>?_⟩
  ·rw [sb.2 c λh=>ha<|h ▸ hc];exact e
  ·refine k2 s2 (Moved.trans W.gtrans ((m.mono kr).then_heap (Ff _) λc o hc e=>?_) m2) S4;rw [sb.2 c λh=>hc<|h ▸ Ae];exact e
theorem VO{Q:Value->Shared->Prop}{l:Addr}{items:Array Value}{zs:List Str}(hh:A.handled=none)(hl:s.heap.IsList l items)(hi:∀(i:Nat) v,items[i]?=some v->∃ z t,zs[i]?=some z/\v=Value.str z t)(hz:zs.length=items.size)(hb:items.size < 900)
  (k:∀ h' tk,(∀ b o,s.heap.get? b=some o->h'.get? b=some o)->a9 prog w h' s.heap.objs.size (made zs)->Q (.ref s.heap.objs.size) {s with heap:=h',toks:=tk}):wpAny (model prog w) A (call (.type "set") [.ref l]) Q E s:=by
 obtain⟨c,tl,AA⟩:=F.called_set.mro;have sf:=F.called_set.made;have kr:=F.called_set.sub;refine wpAny_call<|JL ?_;show wpAny _ _ (callAny (.type "set") _) _ _ _;refine BK ⟨Code.quiet_builtin _ (by decide +kernel),FJ F.entry_type_call ?_⟩;rw [Around.under_plain (weight_type_call_type "set" [.ref l] []) rfl];have h1:=F.called_set.notType;have h2:=F.called_set.canCreate;have h3:=F.typeCall_set_1<|.ref l
 repeat (any_goals (first | assumption | wp_step))
 refine JF (VM (.ref l) (E:=E) (Q:=λv s₁=>v = .ref s.heap.objs.size/\s₁={s with heap:=s.heap.push (fe w)}) ⟨rfl,rfl⟩) λr s₁ hr=>?_;cases r with
 | error e=>exact hr
 | ok fl=>
  cases fl with
  | ret v=>
   obtain⟨rfl,rfl⟩:=hr;have hS:(s.heap.push<|fe w).get? s.heap.objs.size=some (fe w):=Ap _ rfl;have hT:Shared.TypeIs {s with heap:=s.heap.push (fe w)} (.ref s.heap.objs.size) "set":=⟨_,hS,rfl⟩;have AB:=F.called_set.init.lookup;have AF:=F.called_set.init.bind<|.ref s.heap.objs.size
   repeat (any_goals (first | assumption | wp_step))
   refine JF (codeAny_call_builtin (R:=wants (λr s₂=>r = .none/\∃ h' tk,s₂={s with heap:=h',toks:=tk}/\(∀ b o,s.heap.get? b=some o->h'.get? b=some o)/\a9 prog w h' s.heap.objs.size (made zs)) E) F.called_set.init.plain F.entry_set_init<|check_set_init_1 hT ?_) λr2 s2 nI=>?_
   ·obtain⟨ol,sg,jT,nl,gn⟩:=hl;obtain⟨VP,si,K',nJ⟩:=ol;simp only at jT gn;subst jT gn;have AG:(s.heap.push<|fe w).get? l=some {cls:= .type "list",dict:=si,data:= .seq items nl,slots:=nJ}:=Af _ sg;have n1:=F.sub_list_set;have n2:=F.sub_list_frozenset;have n3:(Value.type "list" == Value.type "dict")=false:=by decide
    have fH:(s.heap.push<|fe w).IsList l items:=⟨_,AG,rfl,nl,rfl⟩;have AH:(s.heap.push<|fe w).get? s.heap.objs.size=some {cls:= .type "set",dict:=none,data:= .set #[] 0 (.fresh 0 0 (!di w))}:=hS;unfold Builtin.«set.__init__» noKeywords updateFrom;generalize VQ:pyIter=PI
    wp_walk
    subst VQ;refine JX fH ?_;refine BJ<|wpAny_runValue ?_;have aM:l < s.heap.objs.size:=As sg;have bj:l≠(s.heap.push<|fe w).objs.size:=by
     rw [Dd];exact Bt<|Cn aM
    have VR:s.heap.objs.size∉[(s.heap.push<|fe w).objs.size,l]:=by
     rw [Dd];intro h
     rcases Aj.mp h with h | h
     ·exact absurd h<|Bt<|Fj _
     ·rw [Ai] at h;exact absurd h<|Cy aM
    refine VN ((Walks.list (by simp [hh]) _ l bj items).toS) s.heap.objs.size VR zs hz (λi v hv=>hi i v hv) hb (items.size - 0) 0 _ (by omega) (Bu _)
     ⟨⟨_,Ap _ rfl,rfl,rfl⟩,(fH.push _)⟩ ?_ λs' m S'=>?_
    ·exact K8<|Af _ hS
    ·obtain⟨h',g',d',wa,yR⟩:=s';have eg:g'=s.gens:=m.gens;have ed:d'=s.drawn:=m.drawn;have eo:yR=s.os:=m.os;subst eg ed eo;refine BK ?_;refine BK ⟨rfl,h',wa,rfl,λb o e=>?_,S'⟩;have hb:=As e;refine m.heap b o (λh=>?_)<|Af _<|Af _ e;rw [Dd] at h
     rcases Aj.mp h with h | h
     ·exact absurd h<|Bt hb
     ·rw [Ai] at h;exact absurd h<|Bt<|Cn hb
   ·cases r2 with
    | error e=>exact nI
    | ok VS=>
     cases VS with
     | ret r=>
      obtain⟨rfl,h',tk,rfl,q1,q2⟩:=nI
      repeat (any_goals (first | assumption | wp_step))
      exact k _ _ q1 q2
     | _=>exact nI.elim
  | _=>exact hr.elim
end
theorem slot_next:Slot "set_iterator" "__next__" "set_iterator.__next__":=
 .of (owner:= "set_iterator") (n:= "__next__") (by rw [RM,LC];kernel_rfl) (by decide +kernel) (by decide +kernel) (by decide +kernel)
  (by first | exact .inl (by decide +kernel) | exact .inr<|by decide +kernel) (by rw [isSubtype_type];kernel_rfl)
theorem entry_next:entryFor table "set_iterator.__next__" = some Builtin.«set_iterator.__next__»:=entryFor_of_fast<|by kernel_rfl
theorem args_next(a:Value):argsOk "set_iterator.__next__" ⟨[a],[]⟩:=by unfold argsOk;kernel_rfl
theorem VU:entryFor table "set.__iter__" = some Builtin.«frozenset.__iter__»:=
 entryFor_alias (id':= "frozenset.__iter__") (by kernel_rfl) rfl (by decide +kernel) (by kernel_rfl)
def jU(first:Value)(i:Nat)(a:Addr)(n ep:Nat):Obj:={cls:= .type "set_iterator",data:= .fields #[first,.int i 0,.ref a,.int n 0,.int ep 0]}
def eI(ys:List Nat):Obj:={cls:= .type "tuple",data:= .seq (ys.map λ(i:Nat)=>rawInt i).toArray}
inductive Way (w:World) (h:Heap) (a tp:Addr) (es:Array<|Int×Value) (ep:Nat) (t:SetTable) (ws:List<|Int×Value) (i:Nat):Value->Prop where
 | drawn (ys:List Nat) (ht:h.get? tp=some (eI ys)) (hl:ys.length=es.size) (hw:∀ j:Nat,∀ y,ys[j]?=some y->es[y]?=ws[j]?):Way w h a tp es ep t ws i<|.ref tp
 | text (c:Int) (hb:di w=true) (hw:ws=(pickOrder (w.params.setOrder a ep) es).toList):Way w h a tp es ep t ws i<|.int c 0
 | one (c:Nat) (hb:di w=false) (hs:es.size<=1) (hw:ws=es.toList) (hc:SetTable.below t.place c=i):Way w h a tp es ep t ws i<|.int c 0
section
variable{prog:Program}{w:World}{A:Around}{E:Value->Shared->Prop}{s:Shared}{a tp it:Addr}{zs:List Str}{o:Obj}{es:Array (Int×Value)}{ep:Nat}{t:SetTable}{ws:List (Int×Value)}{i:Nat}{first:Value}
theorem La(j c:Nat):SetTable.below #[j] c=if j < c then 1 else 0:=by
 unfold SetTable.below;show SetTable.below.go #[j] c 1 0 1=_;unfold SetTable.below.go;simp only [Nat.zero_lt_one,DK];show(if(#[j]:Array Nat).getD 0 c < c then SetTable.below.go #[j] c 0 1 1 else SetTable.below.go #[j] c 0 0 0)=_;rw [show(#[j]:Array Nat).getD 0 c=j by rfl]
 split <;> rfl
theorem Way.keep{h h':Heap}(W:Way w h a tp es ep t ws i first)(k:∀ o,h.get? tp=some o->h'.get? tp=some o):Way w h' a tp es ep t ws i first:=by
 cases W with
 | drawn ys ht hl hw=>exact .drawn ys (k _ ht) hl hw
 | text c hb hw=>exact .text c hb hw
 | one c hb hs hw hc=>exact .one c hb hs hw hc
theorem sj{h:Heap}{n:Nat}(x:Value)(e:h.get? it=some (jU first i a n ep)):(h.update it (Obj.mapFields (·.setIfInBounds 0 x))).get? it=some (jU x i a n ep):=Dh _ e rfl
theorem up1{h:Heap}{n:Nat}(e:h.get? it=some (jU first i a n ep)):(h.update it (Obj.mapFields (·.setIfInBounds 1 (rawInt<|(i:Int)+1)))).get? it=some (jU first (i+1) a n ep):=Dh _ e rfl
theorem Lb{p:Array Nat}(h:p.size=1):∃ j,p=#[j]:=by
 obtain⟨l⟩:=p
 match l,h with
 | [j],_=>exact⟨j,rfl⟩
theorem Lc(T:Tab prog w es t zs):t.place.size=es.size:=by
 have:=T.fits;unfold SetTable.fits at this;rw [Cf,QL] at this;exact this.1
theorem VV{Q:Option Value->Shared->Prop}(hi:s.heap.get? it=some (jU first i a es.size ep))(ho:s.heap.get? a=some o)(hd:o.data = .set es ep t)(T:Tab prog w es t zs)(hW:Way w s.heap a tp es ep t ws i first)
  (bj:tp≠it) (hp:ws.Perm es.toList) {e:Int×Value} (he:ws[i]?=some e) (k:∀ h' jd,Heap.SameBut it s.heap h'->h'.get? it=some (jU jd (i+1) a es.size ep)->Way w h' a tp es ep t ws (i+1) jd->Q (some e.2) {s with heap:=h'}) :
  wpAny (model prog w) A (pyNext<|.ref it) Q E s:=by
 have hT:s.TypeIs (.ref it) "set_iterator":=⟨_,hi,rfl⟩;unfold pyNext;refine BJ<|KR<|HX (name:=Str.ofString "__next__") hT slot_next<|DN slot_next hT entry_next ?_<|args_next _;unfold Builtin.«set_iterator.__next__»;refine BJ<|BK ?_;refine BJ<|PB hi rfl ?_
 dsimp only
 refine BJ<|OJ ho hd T.fits ?_;rw [BL<|by simp];have Le:∀ x,Heap.SameBut it s.heap ((s.heap.update it (Obj.mapFields (·.setIfInBounds 0 x))).update it (Obj.mapFields (·.setIfInBounds 1 (rawInt<|(i:Int)+1)))):=λx=>(CZ ..).trans<|CZ ..;have ku:i < es.size:=by
  have h1:ws.length=es.size:=by simpa using hp.length_eq
  rcases Cz i ws.length with h | h
  ·omega
  ·rw [Bv h] at he;cases he
 have Lg:Heap.SameBut it s.heap (s.heap.update it (Obj.mapFields (·.setIfInBounds 1 (rawInt<|(i:Int)+1)))):=CZ ..;cases hW with
 | drawn ys ht hl hw=>
  dsimp only
  have hy:ys[i]?=some (ys[i]'(by omega)):=Ab _;generalize ys[i]'(by omega)=y at hy;refine BJ<|JW ht rfl ?_
  dsimp only
  have e1:(ys.map λ(i:Nat)=>rawInt i).toArray[(i:Int).toNat]?=some (.int y 0):=by
   rw [Bm,RX,Ad,hy];rfl
  rw [e1]
  dsimp only
  unfold setNextDrawn;refine BJ<|BJ<|CV ho hd T.fits ?_
  dsimp only
  rw [BL<|by simp];have e2:es[(y:Int).toNat]?=some e:=by
   rw [Bm,hw i y hy];exact he
  rw [e2]
  dsimp only
  refine BK (BJ<|DR hi rfl (by simp) ?_);refine BK ⟨_,rfl,BK<|k _ _ Lg (up1 hi)<|.drawn ys ?_ hl hw⟩;rw [Lg.2 tp bj];exact ht
 | text c hb hw=>
  dsimp only
  unfold setNext;refine BJ<|BJ<|CV ho hd T.fits ?_
  dsimp only
  refine BJ<|wp_text ?_;rw [hb];simp only [DK];rw [BL<|by simp];unfold setWalk;refine BJ<|BJ<|CV ho hd T.fits ?_
  dsimp only
  refine BJ<|wp_text ?_;rw [hb];simp only [DK];refine BJ<|KZ ?_;refine BK ?_;have e1:(pickOrder ((model prog w).w.params.setOrder a ep) es)[(i:Int).toNat]?=some e:=by
   rw [Bm,<- Bh];show(pickOrder (w.params.setOrder a ep) es).toList[i]?=_;rw [<- hw];exact he
  rw [e1];refine BK ?_
  dsimp only [Option.map]
  refine BJ (DR hi rfl (by simp) ?_);refine BJ (DR (sj _ hi) rfl (by simp) ?_);exact BK ⟨_,rfl,BK<|k _ _ (Le _) (up1<|sj _ hi)<|.text _ hb hw⟩
 | one c hb hs hw hc=>
  have VW:i=0:=by omega
  have iM:es.size=1:=by omega
  subst VW;have Lh:t.place.size=1:=(Lc T).trans iM;obtain⟨j,hj⟩:=Lb Lh
  dsimp only
  unfold setNext;refine BJ<|BJ<|CV ho hd T.fits ?_
  dsimp only
  refine BJ<|wp_text ?_;rw [hb];simp only [Ax,CN];show wpAny _ _ (if(!t.plain && decide (es.size > 1))=true then _ else _) _ _ _;rw [BL<|by rw [iM];simp];refine BJ ?_;show wpAny _ _ (if(!t.led && !es.isEmpty)=true then _ else _) _ _ _;rw [BL<|by rw [T.led,hb];simp];refine BK ?_;rw [Bm,hc];have e1:es[0]?=some e:=by
   rw [<- Bh,<- hw];exact he
  have e2:t.place[0]?=some j:=by rw [hj];rfl
  rw [e1,e2];refine BK ?_
  dsimp only
  refine BJ (DR hi rfl (by simp) ?_);refine BJ (DR (sj _ hi) rfl (by simp) ?_);refine BK ⟨_,rfl,BK<|k _ _ (Le _) (up1<|sj _ hi)<|.one (j+1) hb hs hw ?_⟩;rw [hj,La,BP<|Fj _]
theorem VX{Q:Option Value->Shared->Prop}(hh:A.handled=none)(hi:s.heap.get? it=some (jU first i a es.size ep))(ho:s.heap.get? a=some o)(hd:o.data = .set es ep t)(T:Tab prog w es t zs)(hW:Way w s.heap a tp es ep t ws i first)
  (hp:ws.Perm es.toList) (he:i=es.size) (k:∀ h',Heap.ExtBut it s.heap h'->Q none {s with heap:=h'}) :
  wpAny (model prog w) A (pyNext<|.ref it) Q E s:=by
 have hT:s.TypeIs (.ref it) "set_iterator":=⟨_,hi,rfl⟩;have wl:ws.length=es.size:=by simpa using hp.length_eq
 unfold pyNext;refine BJ<|KR<|HX (name:=Str.ofString "__next__") hT slot_next<|DN slot_next hT entry_next ?_<|args_next _;unfold Builtin.«set_iterator.__next__»;refine BJ<|BK ?_;refine BJ<|PB hi rfl ?_
 dsimp only
 refine BJ<|OJ ho hd T.fits ?_;rw [BL<|by simp];have fin:∀ h2:Heap,Heap.SameBut it s.heap h2->wpAny (model prog w) A.in1 (newExc (Value.type "StopIteration") [] >>= λx=>(raiseNew x:Sem Fin)) (λfin s'=>∃ v,fin=Fin.done (Flow.ret v)/\wpAny (model prog w) A (pure<|some v) Q E s')
   (λe s'=>wpAny (model prog w) A (isInstance e (Value.type "StopIteration") >>= λb=>if b=true then pure none else throw e) Q E s') {s with heap:=h2}:=by
  intro h2 sb;refine BJ ?_;simp only [newExc,newTuple];refine BJ (DG ?_<|by size_fits);refine BJ (m:=firstArgMember _ _) (HJ (a:=Value.none) (by first | rfl | (simp only [firstArgMember];rfl)) ?_);refine DG ?_ (by size_fits);simp only [raiseNew];refine BJ<|wpAny_handled ?_;rw [show A.in1.handled=none from hh];refine BJ<|BK<|wpAny_throw ?_;refine BJ<|QV (T:= "StopIteration") (b:=true) ⟨_,Ap _ rfl,rfl⟩ isSubtype_stop ?_;exact BK<|k _<|(sb.extBut.push _).push _
 cases hW with
 | drawn ys ht hl hw=>
  dsimp only
  refine BJ<|JW ht rfl ?_
  dsimp only
  have e1:(ys.map λ(i:Nat)=>rawInt i).toArray[(i:Int).toNat]?=none:=by
   rw [Bm,RX,Bv];rw [Aa];omega
  rw [e1]
  dsimp only
  refine BJ (DR hi rfl (by simp) ?_);refine BJ (DR (sj _ hi) rfl (by simp) ?_);exact fin _<|(CZ ..).trans<|CZ ..
 | text c hb hw=>
  dsimp only
  unfold setNext;refine BJ<|BJ<|CV ho hd T.fits ?_
  dsimp only
  refine BJ<|wp_text ?_;rw [hb];simp only [DK];rw [BL<|by simp];unfold setWalk;refine BJ<|BJ<|CV ho hd T.fits ?_
  dsimp only
  refine BJ<|wp_text ?_;rw [hb];simp only [DK];refine BJ<|KZ ?_;refine BK ?_;have e1:(pickOrder ((model prog w).w.params.setOrder a ep) es)[(i:Int).toNat]?=none:=by
   rw [Bm,<- Bh];show(pickOrder (w.params.setOrder a ep) es).toList[i]?=_;rw [<- hw,Bv];omega
  rw [e1];refine BK ?_
  dsimp only [Option.map]
  refine BJ (DR hi rfl (by simp) ?_);exact fin _<|CZ ..
 | one c hb hs hw hc=>
  dsimp only
  unfold setNext;refine BJ<|BJ<|CV ho hd T.fits ?_
  dsimp only
  refine BJ<|wp_text ?_;rw [hb];simp only [Ax,CN];show wpAny _ _ (if(!t.plain && decide (es.size > 1))=true then _ else _) _ _ _;rw [BL<|by rw [BR<|by omega];simp];refine BJ ?_;show wpAny _ _ (if(!t.led && !es.isEmpty)=true then _ else _) _ _ _;rw [BL<|by rw [T.led,hb];simp];refine BK ?_;rw [Bm,hc];have e1:es[i]?=none:=Dk (by omega);rw [e1];refine BK ?_
  dsimp only
  refine BJ (DR hi rfl (by simp) ?_);exact fin _<|CZ ..
open PySem.Spec
theorem Lj:Slot "set_iterator" "__iter__" "set_iterator.__iter__":=
 .of (owner:= "set_iterator") (n:= "__iter__") (by rw [RM,LC];kernel_rfl) (by decide +kernel) (by decide +kernel) (by decide +kernel)
  (by first | exact .inl (by decide +kernel) | exact .inr<|by decide +kernel) (by rw [isSubtype_type];kernel_rfl)
theorem VY:entryFor table "set_iterator.__iter__" = some Builtin.«dict_keyiterator.__iter__»:=
 entryFor_alias (id':= "dict_keyiterator.__iter__") (by kernel_rfl) rfl (by decide +kernel) (by kernel_rfl)
theorem VZ(a:Value):argsOk "set_iterator.__iter__" ⟨[a],[]⟩:=by unfold argsOk;kernel_rfl
theorem V0(hh:A.handled=none)(h1:a≠it)(h2:tp≠it)(hd:o.data = .set es ep t)(T:Tab prog w es t zs)(hp:ws.Perm es.toList) :
  Walks prog w A it [it,a,tp] [it] es.size (λi v=>∃ e,ws[i]?=some e/\v=e.2) (λi h=>∃ first,h.get? it=some (jU first i a es.size ep)/\h.get? a=some o/\Way w h a tp es ep t ws i first) where
 sub:=λb hb=>by simp at hb;simp [hb]
 frame:=λi h h' ⟨first,q1,q2,q3⟩ k=>⟨first,k it (by simp) _ q1,k a (by simp) _ q2,q3.keep<|k tp<|by simp⟩
 item:=λi s Q E hi ⟨first,q1,q2,q3⟩ k=>by
  have wl:ws.length=es.size:=by simpa using hp.length_eq
  obtain⟨e,he⟩:∃ e,ws[i]?=some e:=⟨ws[i]'(by omega),Ab _⟩;refine VV q1 q2 hd T q3 h2 hp he λh' f' sb g1 g2=>?_;exact k _ h' s.toks ⟨e,he,rfl⟩ ⟨f',g1,by rw [sb.2 a h1];exact q2,g2⟩ λb o hb e=>by rw [sb.2 b λh=>hb<|by simp [h]];exact e
 done:=λs Q E ⟨first,q1,q2,q3⟩ k=>VX hh q1 q2 hd T q3 hp rfl λh' e=>k h' s.toks λb o hb e2=>e b o (λh=>hb<|by simp [h]) e2
 self:=λi s Q E ⟨first,q1,q2,q3⟩ k=>by
  have hT:s.TypeIs (.ref it) "set_iterator":=⟨_,q1,rfl⟩;refine KC hT Lj<|DN Lj hT VY ?_<|VZ _;show wpAny _ _ (ret<|.ref it) _ _ s;exact BK ⟨_,rfl,"set_iterator",_,hT,slot_next.lookup,k⟩
theorem V1(es:Array<|Int×Value):(List.range es.size).map (λy=>(es[y]?).getD (0,Value.none))=es.toList:=by
 refine QW (by simp) λj h1 h2=>?_;rw [Du,PN];have:j < es.size:=by simpa using h2
 rw [Ce this];simp
theorem V2{Q:Value->Shared->Prop}(ho:s.heap.get? a=some o)(hx:o.ExactSet)(hd:o.data = .set es ep t)(T:Tab prog w es t zs)
  (k:∀ h' d it tp ws first,(∀ b u,s.heap.get? b=some u->h'.get? b=some u)->s.heap.objs.size<=it->it < h'.objs.size->tp < h'.objs.size->(tp=a\/s.heap.objs.size<=tp)->tp≠it->h'.get? it=some (jU first 0 a es.size ep)->Way w h' a tp es ep t ws 0 first->ws.Perm es.toList->Q (.ref it) {s with heap:=h',drawn:=d}) :
  wpAny (model prog w) A (pyIter<|.ref a) Q E s:=by
 have hT:s.TypeIs (.ref a) "set":=⟨o,ho,hx.1⟩;have aM:a < s.heap.objs.size:=As ho;refine KC hT F.slot_set_iter<|DN F.slot_set_iter hT VU ?_<|F.args_set_iter_1 _;unfold Builtin.«frozenset.__iter__» slot0 slotArgs;simp only [Gd,Dz,Ax,↓reduceIte,bind_assoc,Fb,KD];unfold addrOf Builtin.Frozenset.sizeOf;refine BJ<|BK ?_;refine BJ<|BK ?_;refine BJ<|BJ<|OJ ho hd T.fits<|BK ?_;unfold setDrawn;refine BJ<|BJ<|CV ho hd T.fits ?_
 dsimp only
 refine BJ<|wp_text ?_;refine BK ?_
 by_cases c:(!di w && (!t.plain && decide (es.size > 1)))=true
 ·show wpAny _ _ (if(!di w && (!t.plain && decide (es.size > 1)))=true then _ else _) _ _ _;rw [BP c];refine BJ (K4 _ _ _ _ (by simp) λys d p=>?_);have sk:ys.length=es.size:=by simpa using p.length_eq
  refine BJ (PJ ?_<|by rw [Aa,sk];exact l8<|Cn T.jc);have o1:(s.heap.push<|eI ys).get? a=some o:=Af _ ho;refine BJ<|wpAny_setEpoch_of (s:={s with heap:=s.heap.push<|eI ys,drawn:=d}) o1 hd T.fits ?_;refine BJ<|DG<|BK ⟨_,rfl,"set_iterator",_,⟨_,Ap _ rfl,rfl⟩,slot_next.lookup,?_⟩;have iM:(s.heap.push<|eI ys).objs.size=s.heap.objs.size+1:=Dd ..;refine k _ d _ s.heap.objs.size (ys.map λy=>(es[y]?).getD (0,Value.none)) (.ref s.heap.objs.size) (λb u e=>Af _<|Af _ e) (by show s.heap.objs.size<=(s.heap.push<|eI ys).objs.size;omega) ?_ ?_ (.inr<|Al _) ?_ (Ap _ rfl) ?_ ?_
  ·show(s.heap.push<|eI ys).objs.size < ((s.heap.push<|eI ys).push _).objs.size;simp only [Dd];omega
  ·show s.heap.objs.size < ((s.heap.push<|eI ys).push _).objs.size;rw [Dd,iM];omega
  ·show s.heap.objs.size≠(s.heap.push<|eI ys).objs.size;omega
  ·refine .drawn ys (Af _<|Ap _ rfl) sk λj y hy=>?_;have hm:y < es.size:=by
    have:=p.mem_iff.mp<|An hy
    simpa using this
   rw [Ad,hy];show _=some ((es[y]?).getD (0,Value.none));rw [Ce hm];rfl
  ·have:=p.map λy=>(es[y]?).getD (0,Value.none);rwa [V1] at this
 ·show wpAny _ _ (if(!di w && (!t.plain && decide (es.size > 1)))=true then _ else _) _ _ _;rw [BL c];refine BJ<|BK ?_;refine BJ<|wpAny_setEpoch_of ho hd T.fits ?_;refine BJ<|DG<|BK ⟨_,rfl,"set_iterator",_,⟨_,Ap _ rfl,rfl⟩,slot_next.lookup,?_⟩;have kk:=λws hW hp=>k (s.heap.push<|jU (.int 0 0) 0 a es.size ep) s.drawn s.heap.objs.size a ws (.int 0 0) (λb u e=>Af _ e) (Al _) (by rw [Dd];exact Fj _) (by rw [Dd];exact Cn aM) (.inl rfl) (Bt aM) (Ap _ rfl) hW hp;cases hb:di w with
  | true=>exact kk _ (.text 0 hb rfl)<|VH _ _
  | false=>
   have h1:es.size<=1:=by
    rcases T.plain with q | q
    ·rw [q];simp
    ·rw [hb,q] at c;simp at c;exact c
   refine kk es.toList (.one 0 hb h1 rfl ?_)<|List.Perm.refl _;have Lh:=Lc T
   rcases Cz es.size 1 with h | h
   ·have:t.place=#[]:=Array.eq_empty_of_size_eq_zero (by omega);rw [this];rfl
   ·obtain⟨j,hj⟩:=Lb (p:=t.place) (by omega);rw [hj,La,BL<|Eh _]
theorem V3:typeLookup (.type "set") "__len__" = pure (some<|.builtin "set.__len__"):=F.slot_set_len.lookup
theorem V4{Q:Bool->Shared->Prop}(hT:s.TypeIs (.ref a) "set")(k:Q false s):wpAny (model prog w) A (Builtin.List.listLengthHint<|.ref a) Q E s:=by
 unfold Builtin.List.listLengthHint;refine BJ<|MK hT V3 ?_
 dsimp only
 have e1:splitId "set.__len__" = some ("set","__len__"):=by kernel_rfl
 rw [e1]
 dsimp only
 refine BJ<|QV hT sub_set_self ?_;simp only [Dz,Ax,CN];rw [BP]
 ·exact BJ<|JT hT<|BK k
 ·decide +kernel
theorem V5{Q:List Value->Shared->Prop}(hh:A.handled=none)(ho:s.heap.get? a=some o)(hx:o.ExactSet)(hd:o.data = .set es ep t)(T:Tab prog w es t zs)
  (k:∀ s' (acc:List<|Int×Value),(∀ b u,s.heap.get? b=some u->s'.heap.get? b=some u)->s'.gens=s.gens->s'.os=s.os->s.heap.objs.size < s'.heap.objs.size->acc.Perm es.toList->Q (acc.map (·.2)) s'):wpAny (model prog w) A (collect<|.ref a) Q E s:=by
 have aM:a < s.heap.objs.size:=As ho;unfold collect;refine BJ<|wpAny_runValue<|FJ F.entry_proto_collect ?_;rw [DX F.plain_proto_collect _];show wpAny _ A.in1 (newList [] >>= λl=>again<|.builtin "list.__iadd__" ⟨[l,.ref a],[]⟩) _ _ s;refine BJ<|JH ?_;refine BK ⟨IK F.plain_list_iadd _,FJ F.entry_list_iadd ?_⟩;rw [DX F.plain_list_iadd _];generalize hL:s.heap.objs.size=L;have kz:(s.heap.push {cls:= .type "list",data:= .seq ([]:List Value).toArray}).get? a=some o:=Af _ ho;have qf:(s.heap.push {cls:= .type "list",data:= .seq ([]:List Value).toArray}).get? L=some {cls:= .type "list",data:= .seq ([]:List Value).toArray}:=by rw [<- hL];exact Ap _ rfl
 have hT:Shared.TypeIs {s with heap:=s.heap.push {cls:= .type "list",data:= .seq ([]:List Value).toArray}} (.ref a) "set":=⟨o,kz,hx.1⟩;show wpAny _ A.in1 (Builtin.List.listExtendWith (.ref L) (.ref a)<|.ref L) _ _ _;unfold Builtin.List.listExtendWith;refine BJ<|JT hT ?_;have n1:Builtin.List.listSameRef (.ref L) (.ref a)=false:=by
  have:L≠a:=by rw [<- hL];exact Cy aM
  simp [Builtin.List.listSameRef,this]
 have n2:(Value.type "set" == Value.type "list")=false:=by decide
 have n3:(Value.type "set" == Value.type "tuple")=false:=by decide
 simp only [n1,n2,n3,Bool.or_false,Ax,CN];refine BJ<|V2 kz hx hd T λh2 d it tp ws first nK qg hi2 iN wc bj gi W p=>?_;have Ln:=nK a o kz;have AH:=nK L _ qf;have kA:(s.heap.push {cls:= .type "list",data:= .seq ([]:List Value).toArray}).objs.size=L+1:=by rw [Dd,hL]
 refine BJ<|CJ<|V4 (a:=a) (s:={s with heap:=h2,drawn:=d}) ⟨o,Ln,hx.1⟩ ?_;show wpAny _ A.in1 (rule "list.extend.makes-room" >>= λ_=>Builtin.List.listTouch (.ref L) >>= λ_=>again<|.builtin "list.extend.loop" ⟨[.ref L,.ref it,.ref L],[]⟩) _ _ _;refine BJ<|IV ?_;refine BJ ?_;show wpAny _ A.in1 (updateSeq L (·.push .none) >>= λ_=>updateSeq L (·.pop)) _ _ _;refine BJ<|wpAny_updateSeq AH rfl ?_;have Lq:=Dh (Obj.mapSeq (·.push Value.none)) AH rfl;refine wpAny_updateSeq Lq rfl ?_;have V6:=Dh (Obj.mapSeq (·.pop)) Lq rfl;have ao:∀ b u,b≠L->h2.get? b=some u->((h2.update L (Obj.mapSeq (·.push Value.none))).update L (Obj.mapSeq (·.pop))).get? b=some u:=
  λb u hb e=>(Cm _ _<|CG hb).trans<|(Cm _ _<|CG hb).trans e
 have sq:it≠L:=by
  have gq:L+1<=it:=by rw [<- kA];exact qg
  exact Cy gq
 have AI:a≠L:=by rw [<- hL];exact Bt aM
 have V7:a≠it:=by
  have gq:L+1<=it:=by rw [<- kA];exact qg
  intro e;rw [<- hL,<- e] at gq;exact absurd gq<|Nat.not_le.mpr<|Cn aM
 have Lr:tp≠L:=by
  rcases wc with h | h
  ·rw [h];exact AI
  ·have h':L+1<=tp:=by rw [<- kA];exact h
   exact Cy h'
 have l4:L∉[it,a,tp]:=by
  intro h
  rcases Aj.mp h with h | h
  ·exact sq h.symm
  ·rcases Aj.mp h with h | h
   ·exact AI h.symm
   ·exact Lr (Ai.mp h).symm
 refine BK ⟨IK F.plain_extend_loop _,codeAny_extend_loopS ((V0 (by simp [hh]) V7 bj hd T p).toS) (l8<|Cn T.jc) L l4 (.ref L) es.size 0 _ _ _ rfl (Bu _) ⟨first,ao it _ sq gi,ao a _ AI Ln,W.keep λu e=>ao tp u Lr e⟩ V6 (ItemsOf.nil _) λs' acc c m Lv hI=>?_⟩;show wpAny _ A (load L >>= _) _ _ s';refine BJ<|wpAny_load Lv ?_;have wl:ws.length=es.size:=by simpa using p.length_eq
 have el:acc.toList=ws.map (·.2):=by
  refine Ed λj=>?_;rw [Bh,Ad];cases hj:acc[j]? with
  | none=>
   have:ws[j]?=none:=by
    rw [Bv];rw [wl,<- hI.1];exact Array.getElem?_eq_none_iff.mp hj
   rw [this];rfl
  | some v=>
   obtain⟨e,h1,h2⟩:=hI.2 j v hj;rw [h1,h2];rfl
 refine BK ?_;rw [el];refine k s' ws (λb u e=>?_) m.gens m.os (by rw [hL];exact As Lv) p;have hb:b < s.heap.objs.size:=As e;have Lw:b≠L:=by rw [<- hL];exact Bt hb
 have AF:b≠it:=by
  intro q;have gq:L+1<=it:=by rw [<- kA];exact qg
  rw [<- hL,<- q] at gq;exact absurd gq<|Nat.not_le.mpr<|Cn hb
 refine m.heap b u (λh=>?_)<|ao b u Lw<|nK b u<|Af _ e
 rcases Aj.mp h with h | h
 ·exact Lw h
 ·exact AF<|Ai.mp h
end
end bD
namespace bD
open PySem PySem.Spec PyProof.Rows
theorem V8(a b:List Nat):ltCps a b=decide (a < b):=ltCps_eq a b
theorem dj:∀(l:List Str) (p:Str),risingS p l=true->∀ x∈l,p.cps.toList<=x.cps.toList
 | [],_,_,x,hx=>by cases hx
 | y :: r,p,h,x,hx=>by
  unfold risingS at h;rw [Cf,Bool.not_eq_true',V8,HW] at h;have h1:p.cps.toList<=y.cps.toList:=h.1
  rcases Aj.mp hx with rfl | hx
  ·exact h1
  ·exact List.le_trans h1<|dj r y h.2 x hx
theorem dL{p:Str}:∀{l:List Str},risingS p l=true->sortedS l=true
 | [],_=>rfl
 | y :: r,h=>by
  unfold risingS at h;rw [Cf] at h;exact h.2
theorem eJ{a b:Str}(h:a.cps.toList=b.cps.toList):a=b:=by
 cases a;cases b;simp only at h;have:=Array.toList_inj.mp h;rw [this]
theorem Lx{prog:Program}{w:World}:∀(l:List<|Int×Value),(∀ e∈l,z7 prog w e)->StrsAre (l.map (·.2)) (l.map keyOf)
 | [],_=> .nil
 | e :: r,h=>by
  obtain⟨z,t,rfl⟩:=h e Ae;exact .cons z t<|Lx r λx hx=>h x<|Ah _ hx
section
variable{prog:Program}{w:World}{A:Around}{E:Value->Shared->Prop}{s:Shared}{a:Addr}{zs:List Str}
theorem V9{Q:Value->Shared->Prop}(hh:A.handled=none)(S:a9 prog w s.heap a zs)(nL:zs.length < 64)
  (k:∀(s':Shared) (l:Addr) (out:Array Value) (e:Nat) (ss:List Str),(∀ b u,s.heap.get? b=some u->s'.heap.get? b=some u)->s'.gens=s.gens->s'.os=s.os->s.heap.objs.size<=l->s'.heap.get? l=some (seqObj "list" out e)->StrsAre out.toList ss->ss.Perm zs->sortedS ss=true->Q (.ref l) s') :
  wpAny (model prog w) A (call (.builtin "sorted") [.ref a]) Q E s:=by
 obtain⟨o,es,ep,t,ho,hx,hd,T⟩:=S;refine Calls.call_function_entry kind_sorted plain_sorted entry_sorted (args_sorted1 _) ?_;unfold Builtin.«sorted»;refine BJ (m:=checkCount "sorted" 1 1 _)<|BK ?_;refine BJ (V5 (by simp [hh]) ho hx hd T λs1 acc kp g1 o1 z1 p=>?_);have hS:=Lx (prog:=prog) (w:=w) acc λe he=>T.elts e<|p.mem_iff.mp he;have hlen:(acc.map (·.2)).length=zs.length:=by
  rw [Aa,p.length_eq,Cd,T.size]
 refine BJ (JH ?_<|by rw [hlen];exact l8<|by omega);have iZ:(s1.heap.push (seqObj "list" (acc.map (·.2)).toArray 0)).get? s1.heap.objs.size=some (seqObj "list" (acc.map (·.2)).toArray 0):=Ap _ rfl;have hsz:s.heap.objs.size<=s1.heap.objs.size:=Ct z1;refine BJ (CJ<|DN slot_list_sort ⟨_,iZ,rfl⟩ entry_list_sort (list_sort_treeK strKind_oneLt iZ hS.keysOf (λv₁ v₂ rest e=>keyKind_strs<|by rw [<- e];exact hS) (by rw [hlen];exact nL) λcw a1 a2=>⟨_,rfl,?_⟩)<|args_list_sort _);obtain⟨ss,q1,q2,q3⟩:=sorted_out_str hS a1 a2;obtain⟨e,he⟩:=sortedHeap_at (out:=(arrOf cw).map (·.2)) iZ;refine BK ⟨_,rfl,k _ _ _ e ss (λb u hb=>?_) g1 o1 hsz he q1 (q2.trans<|(p.map keyOf).trans T.keys) q3⟩;have qh:=kp b u hb;have aM:=As qh;show(sortedHeap (s1.heap.push _) s1.heap.objs.size _ _).get? b=some u;rw [sortedHeap_old (Bt aM)<|by rw [size_push'];exact Cn aM];exact Af _ qh
end
end bD
namespace L2
open PySem PySem.Spec PyProof.Rows bD
def cP(prog:Program)(w:World)(a:Addr)(zs:List Str):HO:= .ext λh=>a9 prog w h a zs
section
variable{X:Cx}{pins:List (Addr×Obj)}{σ:St}{H:Hp}{s s':Shared}{a:Addr}{zs:List Str}
theorem Inv.like(I:Inv X pins σ H s)(e1:s'.heap=s.heap)(e2:s'.gens=s.gens)(e3:s'.os=s.os):Inv X pins σ H s':=by
 obtain⟨h,g,d,t,o⟩:=s;obtain⟨h',g',d',t',o'⟩:=s';simp only at e1 e2 e3;subst e1 e2 e3;exact⟨I.ok,I.os,I.bare,I.base,I.loc,I.cell,I.free,I.b8,I.pin,I.aD,I.len⟩
theorem Inv.gS{o:HO}(I:Inv X pins σ H s)(k:∀ b u,s.heap.get? b=some u->s'.heap.get? b=some u)(e2:s'.gens=s.gens)(e3:s'.os=s.os)(hp:s.heap.objs.size<=a)(new:ax X.prog X.w (upd H a o) s'.heap a o):Inv X pins σ (upd H a o) s':=
 (I.laid (t':=s.toks) k hp new).like (s':=s') rfl e2 e3
theorem AJ{h:Heap}(S:a9 X.prog X.w h a zs):ax X.prog X.w H h a (cP X.prog X.w a zs):=by
 refine⟨S,?_,λh1 h2 q k=>q.keep k⟩;obtain⟨o,_,_,_,ho,_⟩:=S;exact⟨o,ho⟩
theorem Inv.set(I:Inv X pins σ H s)(h:H a=some (cP X.prog X.w a zs)):a9 X.prog X.w s.heap a zs:=(I.aD a _ h).1
theorem Ly:∀{zs:List Str} {us:List Value},au (zs.map V.str) us->∀(i:Nat) v,us[i]?=some v->∃ z t,zs[i]?=some z/\v=Value.str z t
 | [],_,.nil,i,v,h=>by simp at h
 | z :: r,_,.cons q qs,0,v,h=>by
  obtain⟨t,e⟩:=q;simp at h;exact⟨z,t,rfl,h ▸ e⟩
 | z :: r,_,.cons q qs,i+1,v,h=>by
  simp only [Dv] at h ⊢;exact Ly qs i v h
theorem Lz:∀{zs:List Str} {us:List Value},au (zs.map V.str) us->StrsAre us zs
 | [],_,.nil=> .nil
 | z :: r,_,.cons q qs=>by
  obtain⟨t,rfl⟩:=q;exact .cons z t<|Lz qs
theorem LA:∀{us:List Value} {zs:List Str},StrsAre us zs->au (zs.map V.str) us
 | _,_,.nil=> .nil
 | _,_,.cons z t q=> .cons ⟨t,rfl⟩<|LA q
theorem V'(hc:X.calm=true):dE X (.type "set") (λxs H Q=>∃ p zs,xs=[.ref p]/\ai X.K H p (zs.map V.str)/\zs.length < 900/\∀ a,H a=none->Q (.ref a) (upd H a<|cP X.prog X.w a<|made zs)):=by
 intro pins s σ H xs us Q I r h;obtain⟨p,zs,rfl,hp,hl,q⟩:=h;obtain⟨u,rfl,ru⟩:=vals1 r;cases (show u=Value.ref p from ru);obtain⟨its,rv,pl,hz⟩:=I.list hp;have e1:=rv.length;rw [Aa] at e1;refine VO (I.ok.hd hc) pl.isList (λi v hv=>Ly rv i v<|by simpa using hv) (by simpa using e1) (by simp;omega) λh' tk kp S=>?_;exact⟨.ref _,_,I.gS (s':={s with heap:=h',toks:=tk}) kp rfl rfl (Al _) (AJ S),rfl,q _<|I.aD.fresh<|Al _⟩
theorem Wa(hc:X.calm=true):dE X (.builtin "sorted") (λxs H Q=>∃ p zs,xs=[.ref p]/\H p=some (cP X.prog X.w p zs)/\zs.length < 64/\∀ l ss,H l=none->ss.Perm zs->sortedS ss=true->Q (.ref l) (upd H l<|.lst<|ss.map V.str)):=by
 intro pins s σ H xs us Q I r h;obtain⟨p,zs,rfl,hp,hl,q⟩:=h;obtain⟨u,rfl,ru⟩:=vals1 r;cases (show u=Value.ref p from ru);refine V9 (I.ok.hd hc) (I.set hp) hl λs' l out e ss kp e2 e3 qg he hS we LD=>?_;have hlen:ss.length<=sizeLine:=by rw [we.length_eq];exact l8<|by omega
 refine⟨.ref _,_,I.gS (s':=s') kp e2 e3 qg (show ax X.prog X.w _ s'.heap l (.lst<|ss.map V.str) from⟨by rw [Aa];exact hlen,out.toList,e,LA hS,he⟩),rfl,q _ ss (I.aD.fresh qg) we LD⟩
end
end L2
namespace L2
open PySem PySem.Spec PyProof.Rows
section
variable{X:Cx}{o e:Expr}{σ:St}{H:Hp}{Q:VK}{ap cp:Pos}
theorem je (h:Ev X o σ H λx H1=>∃ l,x = .ref l/\(∃ xs,H1 l=some (.lst xs))/\Ev X e σ H1 λy H2=>∃ xs,H2 l=some (.lst xs)/\xs.length < sizeLine/\Q .non (upd H2 l<|.lst<|xs++[y]))
  (bG:attributeBase o "append" X.env (eval o X.env)=eval o X.env:=by rfl)
  (cO:((backTo cp<|starEach [e] X.env).all (λx=>!x.1) && (backToKw cp<|keywordEach [] X.env).all (λx=>x.1.isSome) && decide ([e].length+([]:List Keyword).length+(if([]:List Keyword).isEmpty then 0 else 1) < 30))=true:=by rfl)
  (hline:(ap.endLine == cp.line)=true:=by rfl) (hs:starEach [e] X.env=(false,eval e X.env) :: starEach [] X.env:=by rfl) (bX:(backTo cp<|starEach [] X.env).any (·.1)=false:=by rfl) (cS:isStar e=false:=by rfl) :
  Ev X (.Call (.Attribute o "append" ap) [e] [] cp) σ H Q:=by
 refine c6 (y4 FZ PySem.F.slot_list_append PySem.F.type_list_append JS bn (gQ (es:=[e])) bG cO hline hs bX)<|h.mono λx H1 ⟨l,ex,⟨xs,hl⟩,h2⟩=>?_;subst ex;refine⟨.inl ⟨rfl,xs,ai.of hl⟩,?_⟩;exact ak (h2.mono λy H2 ⟨ys,hy,hz,q⟩=>aq ⟨l,ys,y,rfl,rfl,hy,hz,q⟩) cS
end
section
variable{X:Cx}{c:Expr}{body jM rest:List Stmt}{D:Ends}{σ:St}{H:Hp}{pos:Pos}
theorem Run.nx{M M':St->Hp->Prop}{l:List Stmt}(h:Run X l {D with nx:=M} σ H)(f:∀ σ' H',M σ' H'->M' σ' H'):Run X l {D with nx:=M'} σ H:=
 ⟨λpins s I => aI (h.run pins s I) λfl s' q => by
  cases fl with
  | next=>
   obtain⟨σ',H',I',m⟩:=q;exact⟨σ',H',I',f σ' H' m⟩
  | _=>exact q⟩
theorem LI(φ ψ:Prop)(M:St->Hp->Prop)(hc:∀ T:Bool->Hp->Prop,(∀ k:Bool,(k=true->φ)->(k=false->ψ)->T k H)->Et X c σ H T)(ht:φ->Run X body {D with nx:=M} σ H)(hu:ψ->Run X jM {D with nx:=M} σ H)
  (hr:∀ σ' H',M σ' H'->Run X rest D σ' H'):Run X (.If c body jM pos :: rest) D σ H:=
 Ko φ ψ hc (λp=>(ht p).nx hr) (λp=>(hu p).nx hr)
end
def gT(X:Cx)(H:Hp)(k:Nat)(x y:V)(b:Bool):Prop:=∀(pins:List<|Addr×Obj) (σ:St) (s:Shared) (A:Around) (u v:Value),Inv X pins σ H s->A.units+k < cLine->RelV x u->RelV y v->SeqAt.EqAt A s u v b
def iO(X:Cx)(H:Hp)(k:Nat)(x y:V)(b:Bool):Prop:=∀(pins:List<|Addr×Obj) (σ:St) (s:Shared) (A:Around) (u v:Value),Inv X pins σ H s->A.units+k < cLine->RelV x u->RelV y v->SeqAt.RcAt A s u v b
def l9(X:Cx)(H:Hp)(k:Nat)(x y:V)(b:Bool):Prop:=∀(pins:List<|Addr×Obj) (σ:St) (s:Shared) (A:Around) (u v:Value),Inv X pins σ H s->A.units+k < cLine->RelV x u->RelV y v->SeqAt.RcNeAt A s u v (!b)
section
variable{X:Cx}{H:Hp}{k:Nat}{a b:Addr}{xs ys:List V}
theorem nM{x y:V}(fx:i6 x=true)(fy:i6 y=true):gT X H k x y (cj x y):=λ_ _ _ _ _ _ _ _ rx ry=>JA rx ry fx fy
theorem LJ:gT X H k (.ref a) (.ref a) true:=λ_ _ _ _ u v _ _ rx ry=>by
 cases rx;cases ry;exact SeqAt.EqAt.same _
theorem LL(bj:a≠b){c:Bool}(h:iO X H k (.ref a) (.ref b) c):gT X H k (.ref a) (.ref b) c:=λpins σ s A u v I hu rx ry=>by
 cases rx;cases ry;exact SeqAt.EqAt.of_refs bj<|h pins σ s A _ _ I hu rfl rfl
theorem me{us:List Value}(r:au xs us){j:Nat}(h:j < us.length):∃ x,xs[j]?=some x/\RelV x us[j]:=by
 have hl:=r.length;have hj:j < xs.length:=by omega
 obtain⟨u,e,q⟩:=r.get<|Ab hj;rw [Ab h] at e;cases e;exact⟨_,Ab hj,q⟩
theorem sr(e:Nat->Bool)(ha:ai X.K H a xs)(hb:ai X.K H b ys)(hl:xs.length=ys.length)(he:∀ j x y,xs[j]?=some x->ys[j]?=some y->gT X H k x y (e j)):iO X H (k+1) (.ref a) (.ref b) ((List.range xs.length).all e):=λpins σ s A u v I hu rx ry=>by
 cases rx;cases ry;obtain⟨i1,r1,p1,_⟩:=I.list ha;obtain⟨i2,r2,p2,_⟩:=I.list hb;have l1:=r1.length;have l2:=r2.length;have q:=SeqAt.RcAt.lists (A:=A) (e:=e) p1.isList p2.isList (by simp;omega) (by omega) λj h1 h2=>by
  obtain⟨x,ex,qx⟩:=me r1 (j:=j) (by simpa using h1);obtain⟨y,ey,qy⟩:=me r2 (j:=j) (by simpa using h2);exact he j x y ex ey pins σ s A.in1 _ _ I (by show A.units+1+k < cLine;omega) (by simpa using qx)<|by simpa using qy
 rw [Av,<- l1] at q;exact q
theorem wg(e:Nat->Bool)(ha:ai X.K H a xs)(hb:ai X.K H b ys)(hl:xs.length=ys.length)(he:∀ j x y,xs[j]?=some x->ys[j]?=some y->gT X H k x y (e j)):l9 X H (k+1) (.ref a) (.ref b) ((List.range xs.length).all e):=λpins σ s A u v I hu rx ry=>by
 cases rx;cases ry;obtain⟨i1,r1,p1,_⟩:=I.list ha;obtain⟨i2,r2,p2,_⟩:=I.list hb;have l1:=r1.length;have l2:=r2.length;have q:=SeqAt.RcNeAt.lists (A:=A) (e:=e) p1.isList p2.isList (by simp;omega) (by omega) λj h1 h2=>by
  obtain⟨x,ex,qx⟩:=me r1 (j:=j) (by simpa using h1);obtain⟨y,ey,qy⟩:=me r2 (j:=j) (by simpa using h2);exact he j x y ex ey pins σ s A.in1 _ _ I (by show A.units+1+k < cLine;omega) (by simpa using qx)<|by simpa using qy
 rw [Av,<- l1] at q;exact q
theorem Wb(ha:ai X.K H a xs)(hb:ai X.K H b ys)(hl:xs.length≠ys.length):iO X H k (.ref a) (.ref b) false:=λpins σ s A u v I hu rx ry=>by
 cases rx;cases ry;obtain⟨i1,r1,p1,_⟩:=I.list ha;obtain⟨i2,r2,p2,_⟩:=I.list hb;have l1:=r1.length;have l2:=r2.length;exact SeqAt.RcAt.lists_lengths p1.isList p2.isList (by simp;omega)<|by omega
theorem LN(ha:ai X.K H a xs)(hb:ai X.K H b ys)(hl:xs.length≠ys.length):l9 X H k (.ref a) (.ref b) false:=λpins σ s A u v I hu rx ry=>by
 cases rx;cases ry;obtain⟨i1,r1,p1,_⟩:=I.list ha;obtain⟨i2,r2,p2,_⟩:=I.list hb;have l1:=r1.length;have l2:=r2.length;exact SeqAt.RcNeAt.lists_lengths p1.isList p2.isList (by simp;omega)<|by omega
theorem AK(e:Nat->Bool)(ha:aJ X.K H a xs)(hb:aJ X.K H b ys)(hl:xs.length=ys.length)(he:∀ j x y,xs[j]?=some x->ys[j]?=some y->gT X H k x y (e j)):iO X H (k+1) (.ref a) (.ref b) ((List.range xs.length).all e):=λpins σ s A u v I hu rx ry=>by
 cases rx;cases ry;obtain⟨i1,r1,p1,_⟩:=I.tuple ha;obtain⟨i2,r2,p2,_⟩:=I.tuple hb;have l1:=r1.length;have l2:=r2.length;have q:=SeqAt.RcAt.tuples (A:=A) (e:=e) p1 p2 (by omega) λj h1 h2=>by
  obtain⟨x,ex,qx⟩:=me r1 (j:=j) (by simpa using h1);obtain⟨y,ey,qy⟩:=me r2 (j:=j) (by simpa using h2);exact he j x y ex ey pins σ s A.in1 _ _ I (by show A.units+1+k < cLine;omega) (by simpa using qx)<|by simpa using qy
 rw [Av,Av,<- l1,<- l2,hl,Nat.min_self,<- hl] at q
 simpa using q
theorem kC(n:Nat):(List.range n).all (λ_=>true)=true:=by simp
theorem qi(hu:X.A.units+100 < cLine):cK X (compareOp .Eq) (λx y H Q=>∃ k c,k<=100/\iO X H k x y c/\Q (.bl c) H):=by
 intro pins s σ H x y v u Q I rx ry h;obtain⟨k,c,hk,hc,q⟩:=h;exact hc pins σ s X.A v u I (by omega) rx ry X.prog X.w X.xe _ ⟨.bl c,H,I,rfl,q⟩
theorem mh(hu:X.A.units+100 < cLine):cK X (compareOp .NotEq) (λx y H Q=>∃ k c,k<=100/\l9 X H k x y c/\Q (.bl (!c)) H):=by
 intro pins s σ H x y v u Q I rx ry h;obtain⟨k,c,hk,hc,q⟩:=h;exact hc pins σ s X.A v u I (by omega) rx ry X.prog X.w X.xe _ ⟨.bl (!c),H,I,rfl,q⟩
theorem AO(e:Nat->Bool)(ha:aJ X.K H a xs)(hb:aJ X.K H b ys)(hl:xs.length=ys.length)(he:∀ j x y,xs[j]?=some x->ys[j]?=some y->gT X H k x y (e j)):l9 X H (k+1) (.ref a) (.ref b) ((List.range xs.length).all e):=λpins σ s A u v I hu rx ry=>by
 cases rx;cases ry;obtain⟨i1,r1,p1,_⟩:=I.tuple ha;obtain⟨i2,r2,p2,_⟩:=I.tuple hb;have l1:=r1.length;have l2:=r2.length;have q:=SeqAt.RcNeAt.tuples (A:=A) (e:=e) p1 p2 (by omega) λj h1 h2=>by
  obtain⟨x,ex,qx⟩:=me r1 (j:=j) (by simpa using h1);obtain⟨y,ey,qy⟩:=me r2 (j:=j) (by simpa using h2);exact he j x y ex ey pins σ s A.in1 _ _ I (by show A.units+1+k < cLine;omega) (by simpa using qx)<|by simpa using qy
 rw [Av,Av,<- l1,<- l2,hl,Nat.min_self,<- hl] at q
 simpa using q
end
section
variable{X:Cx}{o e f c:Expr}{σ:St}{H:Hp}{Q:VK}{T:Bool->Hp->Prop}{ap cp pos:Pos}{body rest:List Stmt}{D:Ends}
theorem Wc{name:Str}{Ty id:String}{r:V->List V->Hp->VK->Prop}(pa:PlainAttrs Ty)(slot:Slot Ty name id)(ka:typeOf (.builtin id)=pure (.type "method_descriptor"))(hm:rJ X id r)
  (h:Ev X o σ H λx H1=>lP X.K Ty x H1/\r x [] H1 Q) (bG:attributeBase o name X.env (eval o X.env)=eval o X.env:=by rfl) (hline:(ap.endLine == cp.line)=true:=by rfl):Ev X (.Call (.Attribute o name ap) [] [] cp) σ H Q:=
 c6 (Ua pa slot ka hm bn bG hline) h
theorem LO{name:Str}{Ty id:String}{r:V->List V->Hp->VK->Prop}(pa:PlainAttrs Ty)(slot:Slot Ty name id)(ka:typeOf (.builtin id)=pure (.type "method_descriptor"))(hm:rJ X id r)
  (h:Ev X o σ H λx H1=>lP X.K Ty x H1/\Ev X e σ H1 λy H2=>r x [y] H2 Q) (bG:attributeBase o name X.env (eval o X.env)=eval o X.env:=by rfl)
  (cO:((backTo cp<|starEach [e] X.env).all (λx=>!x.1) && (backToKw cp<|keywordEach [] X.env).all (λx=>x.1.isSome) && decide ([e].length+([]:List Keyword).length+(if([]:List Keyword).isEmpty then 0 else 1) < 30))=true:=by rfl)
  (hline:(ap.endLine == cp.line)=true:=by rfl) (hs:starEach [e] X.env=(false,eval e X.env) :: starEach [] X.env:=by rfl) (bX:(backTo cp<|starEach [] X.env).any (·.1)=false:=by rfl) (cS:isStar e=false:=by rfl):Ev X (.Call (.Attribute o name ap) [e] [] cp) σ H Q:=
 c6 (y4 pa slot ka hm bn (gQ (es:=[e])) bG cO hline hs bX) (h.mono λx H1 ⟨t,h2⟩=>⟨t,ak (h2.mono λy H2 q=>aq q) cS⟩)
theorem AQ{name:Str}{Ty id:String}{r:V->List V->Hp->VK->Prop}(pa:PlainAttrs Ty)(slot:Slot Ty name id)(ka:typeOf (.builtin id)=pure (.type "method_descriptor"))(hm:rJ X id r)
  (h:Ev X o σ H λx H1=>lP X.K Ty x H1/\Ev X e σ H1 λy H2=>Ev X f σ H2 λz H3=>r x [y,z] H3 Q) (bG:attributeBase o name X.env (eval o X.env)=eval o X.env:=by rfl)
  (cO:((backTo cp<|starEach [e,f] X.env).all (λx=>!x.1) && (backToKw cp<|keywordEach [] X.env).all (λx=>x.1.isSome) && decide ([e,f].length+([]:List Keyword).length+(if([]:List Keyword).isEmpty then 0 else 1) < 30))=true:=by rfl)
  (hline:(ap.endLine == cp.line)=true:=by rfl) (hs:starEach [e,f] X.env=(false,eval e X.env) :: starEach [f] X.env:=by rfl) (bX:(backTo cp<|starEach [f] X.env).any (·.1)=false:=by rfl) (cS:isStar e=false:=by rfl) (Wd:isStar f=false:=by rfl):Ev X (.Call (.Attribute o name ap) [e,f] [] cp) σ H Q:=
 c6 (y4 pa slot ka hm bn (gQ (es:=[e,f])) bG cO hline hs bX) (h.mono λx H1 ⟨t,h2⟩=>⟨t,ak (h2.mono λy H2 h3=>ak (h3.mono λz H3 q=>aq q) Wd) cS⟩)
def insertAt(xs:List V)(i:Nat)(y:V):List V:=xs.take i++y :: xs.drop i
def Wg:V->List V->Hp->VK->Prop:=λx vs H Q=>∃ l xs i y,x = .ref l/\vs=[.int i,y]/\H l=some (.lst xs)/\0<=i/\i.toNat<=xs.length/\xs.length < sizeLine/\Q .non (upd H l<|.lst<|insertAt xs i.toNat y)
theorem Wh{i:Int}(h0:0<=i)(h:i<=16777216):¬(!Builtin.List.listFitsIndex i)=true:=by
 have e:Builtin.List.listFitsIndex i=true:=by
  unfold Builtin.List.listFitsIndex;rw [Cf,EY,EY];omega
 rw [e];exact Ar
theorem LU:ng X "list.insert" Wg:=by
 intro pins s σ H x vs v us Q I rx rv h;obtain⟨l,xs,i,y,rfl,rfl,hH,h0,hi,hz,q⟩:=h;cases rx;obtain⟨u,w',rfl,ru,e9⟩:=rv.two;obtain⟨tk,rfl⟩:=ru;obtain⟨z,its,n,r,hl,e⟩:=I.fD hH;have hs:sizeLine=16777216:=DQ;have z2:its.toArray.size<=sizeLine:=by rw [Av,<- hl];exact z
 have mm:=AutoSeq1.list_insert_list_int_val_1 l its.toArray n i tk w' (Wh h0<|by omega) z2;refine MJ F.slot_list_insert ⟨_,e,rfl⟩ F.entry_list_insert (F.args_list_insert_3 _ _ _) mm ⟨e,?_⟩;have ef:(λxs:Array Value=>have k:=if i < 0 then(i+(xs.size:Int)).toNat else min i.toNat xs.size;(xs.extract 0 k).push w'++xs.extract k) its.toArray=(its.take i.toNat++w' :: its.drop i.toNat).toArray:=by
  have hn:¬ i < 0:=by omega
  have hm:min i.toNat its.length=i.toNat:=by omega
  simp only [hn,CN,Av,hm];apply Array.ext';simp;exact Dc<|by simp
 refine⟨.non,_,I.i7 (its':=its.take i.toNat++w' :: its.drop i.toNat) hH e ef ((r.take i.toNat).append<|.cons e9<|r.drop i.toNat) ?_,rfl,q⟩;rw [Ag,At,Bo,Dj];omega
def Wi:V->List V->Hp->VK->Prop:=λx vs H Q=>∃ a kvs k y,x = .ref a/\vs=[kV k,y]/\H a=some (.dK kvs)/\kvs.length < sizeLine /\
 ((∃ v,aC kvs k=some v/\Q v H)\/(aC kvs k=none/\Q y (upd H a<|.dK<|putK kvs k y)))
theorem Wj:ng X "dict.setdefault" Wi:=by
 intro pins s σ H x vs v us Q I rx rv h;obtain⟨a,kvs,k,y,rfl,rfl,hH,hz,q⟩:=h;cases rx;obtain⟨u,w',rfl,ru,e9⟩:=rv.two;obtain⟨z,hd,rs,rel,dd⟩:=zh I.aD hH;have hl:=rel.length;refine call_meetsIn F.slot_dict_setdefault dd.typeIs F.entry_dict_setdefault (F.args_dict_setdefault_3 _ _ _) (kt_meets_setdefault (bO X.prog X.w) a (lS ru) hd w') ⟨rs,dd,by omega,λv hv=>?_,λhn h' iK hs=>?_⟩
 ·have fX:=rel.val k;rw [hv] at fX
  rcases q with ⟨v',e',q⟩ | ⟨e',_⟩
  ·rw [e'] at fX;exact⟨v',H,I.tok _,fX,q⟩
  ·rw [e'] at fX;exact fX.elim
 ·have fX:=rel.val k;rw [hn] at fX
  rcases q with ⟨v',e',_⟩ | ⟨e',q⟩
  ·rw [e'] at fX;exact fX.elim
  ·have he:∃ q,h'.get? a=some q:=let ⟨q,_,_,hq,_⟩:=iK;⟨q,hq⟩
   have pY:(putK kvs k y).length<=sizeLine:=by have:=ig kvs k y;omega
   exact⟨y,_,lT I (by rw [hH];exact True.intro) hs he<|zl pY hd (rel.put k e9) iK,e9,q⟩
theorem LV:dE X (.type "int") (λxs H Q=>∃ b:Bool,xs=[.bl b]/\Q (.int (if b then 1 else 0)) H):=by
 intro pins s σ H xs us Q I r h;obtain⟨b,rfl,q⟩:=h;obtain⟨u,rfl,ru⟩:=vals1 r;cases (show u=Value.bool b from ru);exact call_int_bool ⟨.int (if b then 1 else 0),H,I.tok _,⟨_,rfl⟩,q⟩
theorem Wk{jM:List Stmt}(Φ:Bool->Hp->Prop)(M:St->Hp->Prop)(hc:Et X c σ H Φ)(ht:∀ H1,Φ true H1->Run X body {D with nx:=M} σ H1)(hu:∀ H1,Φ false H1->Run X jM {D with nx:=M} σ H1)
  (hr:∀ σ' H',M σ' H'->Run X rest D σ' H'):Run X (.If c body jM pos :: rest) D σ H:=
 cY (hc.mono λk H1 p=>by
  cases k with
  | true=>rw [BP rfl];exact(ht H1 p).nx hr
  | false=>rw [BL Ar];exact(hu H1 p).nx hr)
theorem wj(W:Nat->St->Hp->Prop){m0:Nat}(h0:W m0 σ H)
  (turn:∀ m σ H,W m σ H->Et X c σ H λb H1=>if b=true then Run X body {D with nx:=λσ' H'=>∃ m',m' < m/\W m' σ' H',ct:=λσ' H'=>∃ m',m' < m/\W m' σ' H',bk:=λσ' H'=>Run X rest D σ' H'} σ H1 else Run X rest D σ H1)
  (hp:PassesOwn (model X.prog X.w) X.A X.env X.xe:=by exact JK):Run X (.While c body [] pos :: rest) D σ H:=by
 refine jN (SF hp lU nq) ⟨W,⟨m0,h0⟩,λm σ1 H1 w1=>(turn m σ1 H1 w1).mono λb H2 q=>?_⟩;cases b with
 | true=>
  rw [BP rfl] at q;exact⟨λσ' H'=>∃ m',m' < m/\W m' σ' H',λ_ _ h=>h,q⟩
 | false=>
  rw [BL Ar] at q;exact q
theorem AT(h:∀ p,H p=none->Q (.ref p) (upd H p<|.dK [])):Ev X (.Dict [] [] pos) σ H Q:=c6 UM h
theorem Wl(h:∀ p,H p=none->Q (.ref p) (upd H p<|.dT [])):Ev X (.Dict [] [] pos) σ H Q:=c6 UN h
theorem kD(hu:X.A.units+1 < cLine)(h:Ev X o σ H λx H1=>Ev X e σ H1 λy H2=>∃ a v,x = .ref a/\bh H2 a y (some v)/\Q v H2)(hs:nh e:=by intro _ _;rfl):Ev X (.Subscript o e pos) σ H Q:=c6 (UG hu bn bn hs) h
theorem LW(hu:X.A.units+1 < cLine)(h:Ev X e σ H λy H1=>Ev X o σ H1 λx H2=>∃ a r,x = .ref a/\bh H2 a y r/\T r.isSome H2)(hm:behindInMarks .In o=false:=by with_unfolding_all rfl):Et X (.Compare e [.In] [o] pos) σ H T:=
 p9 (IU (UH hu bn bn) hm) (h.mono λy H1 h2=>h2.mono λx H2 ⟨a,r,h3,h4,h5⟩=>⟨a,r,h3,h4,_,rfl,h5⟩)
theorem Wm(hu:X.A.units+1 < cLine)(h:Ev X e σ H λy H1=>Ev X o σ H1 λx H2=>∃ a r,x = .ref a/\bh H2 a y r/\T (!r.isSome) H2)(hm:behindInMarks .NotIn o=false:=by with_unfolding_all rfl):Et X (.Compare e [.NotIn] [o] pos) σ H T:=
 p9 (IU (UI hu bn bn) hm) (h.mono λy H1 h2=>h2.mono λx H2 ⟨a,r,h3,h4,h5⟩=>⟨a,r,h3,h4,_,rfl,h5⟩)
theorem su{p2:Pos}(hu:X.A.units+1 < cLine)(h:Ev X f σ H λv H1=>Ev X o σ H1 λx H2=>Ev X e σ H2 λy H3=>∃ a H4,x = .ref a/\b6 H3 a y v H4/\Run X rest D σ H4)(hs:swapsWith f (some<|.Subscript o e p2) pos.line X.env=pure false:=by rfl) :
  Run X (.Assign [.Subscript o e p2] f pos :: rest) D σ H:=jN (UJ hu bn bn bn hs) h
end
end L2
namespace bM
open PySem PySem.Spec PyProof.Rows
def lexLt(a b:Int×Int):Bool:=if a.1=b.1 then decide (a.2 < b.2) else decide (a.1 < b.1)
theorem Wn(b:Bool)(x y:Value):keyLt' (tuples' b) x y=(do
  let xs <- Builtin.List.listItems x
  let ys <- Builtin.List.listItems y
  for ((p,q),i) in (xs.toList.zip ys.toList).zipIdx do
   if !(<- eqBool p q) then return <- oneLt' (b && i == 0) p q
  return xs.size < ys.size):=rfl
section
variable{prog:Program}{w:World}{A:Around}{E:Value->Shared->Prop}{s:Shared}
def Pr(h:Heap)(a:Addr)(p:Int×Int):Prop:=∃ o n t u,h.get? a=some o/\o.cls = .type "tuple"/\o.data = .seq #[.int p.1 t,.int p.2 u] n
theorem LX{a b:Int}{t u:Tok}{Q:Bool->Shared->Prop}(h:Q (decide (a=b)) s):wpAny (model prog w) A (eqBool (.int a t)<|.int b u) Q E s:=by
 refine SeqAt.EqAt.int_int a t b u prog w E Q ?_;have e:(a == b)=decide (a=b):=rfl;rw [e];exact h
theorem Wo{a b:Int}{t u:Tok}{Q:Bool->Shared->Prop}(h:Q (decide (a < b)) s):wpAny (model prog w) A (oneLt' false (.int a t)<|.int b u) Q E s:=by
 rw [oneLt'_eq];simp only [Ax,CN];refine BJ ?_;show wpAny _ _ (compareOp .Lt (.int a t)<|.int b u) _ _ _;exact lt_int<|DY h
theorem Wp{x y:Addr}{p q:Int×Int}{Q:Bool->Shared->Prop}(hx:Pr s.heap x p)(hy:Pr s.heap y q)(h:Q (lexLt p q) s):wpAny (model prog w) A (keyLt' (tuples' true) (.ref x)<|.ref y) Q E s:=by
 obtain⟨ox,nx,tx,ux,wk,cx,dx⟩:=hx;obtain⟨oy,ny,ty,uy,Wq,cy,dy⟩:=hy;rw [Wn];refine BJ<|MP wk dx ?_;refine BJ<|MP Wq dy ?_;show wpAny _ _ (forIn [((Value.int p.1 tx,Value.int q.1 ty),0),((Value.int p.2 ux,Value.int q.2 uy),1)] _ _ >>= _) _ _ _;rw [Gj];refine BJ<|BJ ?_
 dsimp only
 refine BJ<|LX ?_
 by_cases c:p.1=q.1
 ·rw [BW c];simp only [Dz,Ax,CN];refine BK ?_
  dsimp only
  rw [Gj];refine BJ ?_
  dsimp only
  refine BJ<|LX ?_
  by_cases c2:p.2=q.2
  ·rw [BW c2];simp only [Dz,Ax,CN];refine BK ?_
   dsimp only
   rw [List.forIn_nil];refine BK<|BK ?_;have e:lexLt p q=false:=by unfold lexLt;rw [BP c,c2];simp
   rw [e] at h
   simpa using h
  ·rw [BR c2];simp only [Gn,DK];refine BJ<|Wo<|BK ?_
   dsimp only
   refine BK<|BK ?_;have e:lexLt p q=decide (p.2 < q.2):=by unfold lexLt;rw [BP c]
   rw [e] at h;exact h
 ·rw [BR c];simp only [Gn,DK];refine BJ<|oneLt_int<|BK ?_
  dsimp only
  refine BK<|BK ?_;have e:lexLt p q=decide (p.1 < q.1):=by unfold lexLt;rw [BL c]
  rw [e] at h;exact h
theorem Wr{x y:Value}:(#[x,y]:Array Value).size<=sizeLine+1:=by
 rw [DQ];show 2<=_;decide
theorem Ws(v:Value):firstOfTuple' v=(do
  if(<- typeOf v) != .type "tuple" then return none
  return (<- Builtin.List.listItems v)[0]?):=rfl
theorem LY{x:Addr}{p:Int×Int}{Q:Option Value->Shared->Prop}(hx:Pr s.heap x p)(h:∀ t,Q (some<|.int p.1 t) s):wpAny (model prog w) A (firstOfTuple'<|.ref x) Q E s:=by
 obtain⟨ox,nx,tx,ux,wk,cx,dx⟩:=hx;rw [Ws];refine BJ<|JT (T:= "tuple") ⟨ox,wk,cx⟩ ?_;rw [show(Value.type "tuple" != Value.type "tuple")=false by decide];simp only [Ax,CN];refine BJ<|MP wk dx ?_;exact BK<|h tx
theorem Wt{x y:Addr}{p q:Int×Int}{Q:SortKind->Shared->Prop}(hx:Pr s.heap x p)(hy:Pr s.heap y q)(h:Q (tuples' true) s):wpAny (model prog w) A (keyKind' #[.ref x,.ref y]) Q E s:=by
 rw [keyKind'_eq,show(#[.ref x,.ref y]:Array Value)=[.ref x,.ref y].toArray from rfl,List.mapM_toArray];refine BJ<|wpAny_map ?_;rw [List.mapM_cons];refine BJ<|LY hx λt=>?_;rw [List.mapM_cons];refine BJ<|BJ<|LY hy λu=>?_;rw [List.mapM_nil];refine BJ<|BK<|BK<|BK ?_;rw [BP<|by simp];refine BJ<|IV ?_;rw [oneTypeOnly'_eq];show wpAny _ _ ((Array.mapM typeOf [Value.int p.1 t,Value.int q.1 u].toArray >>= _) >>= _) _ _ _;rw [List.mapM_toArray];have e1:[Value.int p.1 t,Value.int q.1 u].mapM typeOf=(pure [Value.type "int",Value.type "int"]:Sem _):=rfl;rw [e1];refine BK ?_;have e2:(if((#[Value.type "int",Value.type "int"]:Array Value).all λx=>x == (#[Value.type "int",Value.type "int"]:Array Value)[0])=true then some (#[Value.type "int",Value.type "int"]:Array Value)[0] else none)=some (Value.type "int"):=by
  rw [BP]
  ·rfl
  ·simp
 show Q (tuples'<|Option.any (λx=>x != Value.type "tuple") _) s;rw [e2];exact h
theorem wp_at{st:SortSt}{x y:Addr}{p q:Int×Int}{i j:Nat}{Q:Option Bool->SortSt->Prop}(hk:kindOf st=tuples' true)(hi:(arrOf st)[i]?=some (.ref x,.ref x))(hj:(arrOf st)[j]?=some (.ref y,.ref y))(hx:Pr s.heap x p)(hy:Pr s.heap y q)(h:Q (some<|lexLt p q) st) :
  wpS (model prog w) A E s (ltAt' i j) Q st:=by
 rw [ltAt'_eq];refine FP<|wpS_get ?_;show wpS _ _ _ _ (elem' (arrOf st) i >>= λa=>elem' (arrOf st) j >>= λb=>lt' a b) Q st;rw [elem'_eq,elem'_eq,hi,hj];refine FP<|JD<|FP<|JD ?_;rw [lt'_eq];refine FP<|wpS_get ?_;rw [hk];refine FP<|wpS_lift<|KR<|Wp hx hy ⟨rfl,?_⟩;exact JD h
def jV(x y:Addr)(p q:Int×Int):Array Keyed:=if lexLt q p then #[(.ref y,.ref y),(.ref x,.ref x)] else #[(.ref x,.ref x),(.ref y,.ref y)]
theorem Wu{x y:Addr}{p q:Int×Int}{Q:Option Nat->SortSt->Prop}(hx:Pr s.heap x p)(hy:Pr s.heap y q)
  (h:Q (some 2)<|SortSt.mk' (tuples' true) (jV x y p q) #[] 7 none):wpS (model prog w) A E s (countRun' 0 2) Q (SortSt.mk' (tuples' true) #[(.ref x,.ref x),(.ref y,.ref y)] #[] 7 none):=by
 rw [countRun0_eq];refine FP ?_;unfold ascLoop;refine wpS_mono (NK (I:=λi c st=>st=SortSt.mk' (tuples' true) #[(.ref x,.ref x),(.ref y,.ref y)] #[] 7 none/\c=(none,i)/\(i=2->lexLt q p=false))
  (Q:=λc st=>st=SortSt.mk' (tuples' true) #[(.ref x,.ref x),(.ref y,.ref y)] #[] 7 none/\((c=(none,1)/\lexLt q p=true)\/(c=(none,2)/\lexLt q p=false))) ?_ ?_ ⟨rfl,rfl,λh=>by cases h⟩) ?_
 ·rintro i c st h1 h2 ⟨rfl,rfl,hI⟩;have e:i=1:=by omega
  subst e;refine FP<|wp_at rfl rfl rfl hy hx ?_
  dsimp only
  cases hb:lexLt q p with
  | true=>
   rw [BP rfl];exact JD ⟨rfl,.inl ⟨rfl,rfl⟩⟩
  | false=>
   rw [BL Ar];exact JD ⟨rfl,rfl,λ_=>rfl⟩
 ·rintro c st ⟨rfl,rfl,hI⟩;exact⟨rfl,.inr ⟨rfl,hI rfl⟩⟩
 ·rintro c st ⟨rfl,⟨rfl,hb⟩ | ⟨rfl,hb⟩⟩
  ·dsimp only
   rw [BL (by decide),BL<|by decide];unfold descPart;refine FP<|wpS_lift<|IV ⟨rfl,?_⟩;unfold descLoop;refine FP (wpS_mono (NK (I:=λi c st=>c=(none,2,0)/\st=SortSt.mk' (tuples' true) #[(.ref x,.ref x),(.ref y,.ref y)] #[] 7 none) (Q:=λc st=>c=(none,2,0)/\st=SortSt.mk' (tuples' true) #[(.ref x,.ref x),(.ref y,.ref y)] #[] 7 none) (λi c st h1 h2 _=>by omega) (λc st h=>h) ⟨rfl,rfl⟩) ?_);rintro c st ⟨rfl,rfl⟩
   dsimp only
   rw [BL<|by decide];unfold tail3;refine FP<|wpS_reverse ?_;unfold ascLoop;refine FP (wpS_mono (NK (I:=λi c st=>c=(none,2)/\st=SortSt.mk' (tuples' true) #[(.ref y,.ref y),(.ref x,.ref x)] #[] 7 none) (Q:=λc st=>c=(none,2)/\st=SortSt.mk' (tuples' true) #[(.ref y,.ref y),(.ref x,.ref x)] #[] 7 none) (λi c st h1 h2 _=>by omega) (λc st h=>h) ⟨rfl,rfl⟩) ?_);rintro c st ⟨rfl,rfl⟩
   dsimp only
   refine JD ?_;unfold jV at h;rw [BP hb] at h;exact h
  ·dsimp only
   rw [BP<|by decide];refine JD ?_;unfold jV at h;rw [BL<|by rw [hb];exact Ar] at h;exact h
theorem Wv{x y:Addr}{p q:Int×Int}{Q:Unit->SortSt->Prop}(hx:Pr s.heap x p)(hy:Pr s.heap y q)(h:∀ st,arrOf st=jV x y p q->failedOf st=none->Q () st) :
  wpS (model prog w) A E s sortRuns' Q (SortSt.mk' (tuples' true) #[(.ref x,.ref x),(.ref y,.ref y)] #[] 7 none):=by
 rw [sortRuns'_eq];refine FP<|wpS_get ?_
 dsimp only
 have Ww:minRun' 2 2 0=2:=by rw [minRun'_succ,BP<|by decide]
 show wpS _ _ _ _ ((forIn [0:2] _ _) >>= _) _ _;have sz:(#[(Value.ref x,Value.ref x),(Value.ref y,Value.ref y)]:Array Keyed).size=2:=rfl;refine FP<|wpS_mono (NK (I:=λi c st=>(i=0/\c=(none,0)/\st=SortSt.mk' (tuples' true) #[(.ref x,.ref x),(.ref y,.ref y)] #[] 7 none)\/(1<=i/\c=(none,2)/\st=SortSt.mk' (tuples' true) (jV x y p q) #[(0,2,0)] 7 none))
  (Q:=λc st=>c=(none,2)/\st=SortSt.mk' (tuples' true) (jV x y p q) #[(0,2,0)] 7 none) ?_ ?_ (.inl ⟨rfl,rfl,rfl⟩)) ?_
 ·rintro i c st h1 h2 (⟨rfl,rfl,rfl⟩ | ⟨hi,rfl,rfl⟩)
  ·dsimp only
   rw [BL<|by show ¬(0>=2);decide];refine FP ?_;show wpS _ _ _ _ (countRun' 0 2) _ _;refine Wu hx hy ?_
   dsimp only
   rw [BL<|by show ¬(2 < minRun' 2 2 0);rw [Ww];decide];refine FP<|wpS_get ?_;show wpS _ _ _ _ (modify _ >>= _) _ _;exact FP<|wpS_modify<|JD<|.inr ⟨Al _,rfl,rfl⟩
  ·dsimp only
   rw [BP<|by show 2>=2;decide];exact JD ⟨rfl,rfl⟩
 ·rintro c st (⟨h1,_,_⟩ | ⟨_,hc,hs⟩)
  ·exact absurd h1<|by decide
  ·exact⟨hc,hs⟩
 ·rintro c st ⟨rfl,rfl⟩
  dsimp only
  refine FP<|wpS_mono (NK (I:=λ_ c st=>st=SortSt.mk' (tuples' true) (jV x y p q) #[(0,2,0)] 7 none/\c=(none,())) (Q:=λc st=>st=SortSt.mk' (tuples' true) (jV x y p q) #[(0,2,0)] 7 none/\c=(none,())) ?_ (λ_ _ hh=>hh) ⟨rfl,rfl⟩) ?_
  ·rintro i c st _ _ ⟨rfl,rfl⟩;refine FP<|wpS_get ?_;rw [BP<|by show 1<=1;decide];exact JD ⟨rfl,rfl⟩
  ·rintro c st ⟨rfl,rfl⟩;exact JD<|h _ rfl rfl
theorem Wx{a x y:Addr}{p q:Int×Int}{n:Nat}{P:Fin->Shared->Prop}(ho:s.heap.get? a=some (seqObj "list" #[.ref x,.ref y] n))(Wy:a≠x)(Wz:a≠y)(hx:Pr s.heap x p)(hy:Pr s.heap y q)
  (h:P (.done<|.ret .none) {s with heap:=sortedHeap s.heap a [.ref x,.ref y] (if lexLt p q then #[.ref y,.ref x] else #[.ref x,.ref y])}) :
  wpAny (model prog w) A (Builtin.«list.sort» ⟨[.ref a],[(Str.ofString "reverse",.bool true)]⟩) P E s:=by
 rw [list_sort_rev];have ha:a < s.heap.objs.size:=As ho;refine BJ<|MP ho rfl ?_;refine BJ<|KY ho rfl ?_;obtain⟨e1,kz⟩:∃ e1,(s.heap.update a<|Obj.mapSeq λ_=>#[]).get? a=some (seqObj "list" #[] e1):=⟨_,get?_update_seq ho λ_=>#[]⟩;refine BJ<|PK kz rfl ?_;refine BJ<|PJ ?_;refine BJ<|JH ?_;refine CJ ?_;have nN:(((s.heap.update a<|Obj.mapSeq λ_=>#[]).push<|seqObj "tuple" [Value.ref x,Value.ref y].toArray 0).push<|seqObj "list" #[] 0).get? a=some (seqObj "list" #[] e1):=
  Af _ (Af _ kz)
 show wpAny (model prog w) A _ P E {s with heap:=((s.heap.update a<|Obj.mapSeq λ_=>#[]).push<|seqObj "tuple" [Value.ref x,Value.ref y].toArray 0).push (seqObj "list" #[] 0)};have keep:∀ z r,a≠z->Pr s.heap z r->Pr (((s.heap.update a<|Obj.mapSeq λ_=>#[]).push<|seqObj "tuple" [Value.ref x,Value.ref y].toArray 0).push<|seqObj "list" #[] 0) z r:=by
  rintro z r hz ⟨o,m,t,u,q1,q2⟩;exact⟨o,m,t,u,Af _<|Af _<|(Cm _ _ hz).trans q1,q2⟩
 have kx:=keep x p Wy hx;have ky:=keep y q Wz hy
 dsimp only
 rw [BP rfl];refine BJ<|IV ?_;rw [BL<|by show ¬(2 < 2);decide];refine BJ<|Wt kx ky ?_;rw [BL<|by show ¬(2 < 2);decide];have e2:(if true=true then((#[Value.ref x,Value.ref y]:Array Value).zip #[Value.ref x,Value.ref y]).reverse else(#[Value.ref x,Value.ref y]:Array Value).zip #[Value.ref x,Value.ref y])=#[(Value.ref y,Value.ref y),(Value.ref x,Value.ref x)]:=by
  rw [BP rfl];simp
 rw [e2];refine BJ<|CT (Wv (Q:=λ_ st=>arrOf st=jV y x q p/\failedOf st=none) ky kx λst h1 h2=>⟨h1,h2⟩) ?_ λ_ _ e=>e;rintro ⟨⟨⟩,cw⟩ s' ⟨rfl,hs,hf⟩
 dsimp only
 have e3:(if true=true then((arrOf cw).map (·.2)).reverse else(arrOf cw).map (·.2))=(if lexLt p q then #[.ref y,.ref x] else #[.ref x,.ref y]):=by
  rw [BP rfl,hs];unfold jV
  split <;> simp
 refine BJ<|PK nN rfl ?_;refine BJ (KY nN rfl ?_ (hsz2:=by rw [e3];split <;> exact Wr));rw [hf];simp only [KD,Ax,CN];refine BK ?_;have e4:(λ_:Array Value=>if True then((arrOf cw).map (·.2)).reverse else(arrOf cw).map (·.2))=λ_=>(if lexLt p q then #[.ref y,.ref x] else #[.ref x,.ref y]):=by
  funext _
  rw [BP trivial];rw [BP rfl] at e3;exact e3
 rw [e4];exact h
theorem WB{l x y:Addr}{p q:Int×Int}{Q:Value->Shared->Prop}(hl:s.heap.IsList l #[.ref x,.ref y])(hx:Pr s.heap x p)(hy:Pr s.heap y q)
  (h:∀(h':Heap) (e:Nat),(∀ b u,s.heap.get? b=some u->h'.get? b=some u)->h'.get? (s.heap.objs.size+1)=some (seqObj "list" (if lexLt p q then #[.ref y,.ref x] else #[.ref x,.ref y]) e)->Q (.ref<|s.heap.objs.size+1) {s with heap:=h'}) :
  wpAny (model prog w) A (call (.builtin "sorted") [.ref l] [(Str.ofString "reverse",.bool true)]) Q E s:=by
 refine call_function_entry_kw kind_sorted plain_sorted entry_sorted (args_sorted_rev _ _) ?_;unfold Builtin.«sorted»;refine BJ (m:=checkCount "sorted" 1 1 _)<|BK ?_;refine BJ<|collect_list (vs:=[.ref x,.ref y]) hl ?_;refine BJ<|JH ?_;have hsz:((s.heap.push<|seqObj "list" #[] 0).update s.heap.objs.size (Obj.mapSeq (·++[Value.ref x,Value.ref y].toArray))).objs.size=s.heap.objs.size+1:=by
  rw [Heap.size_update,size_push']
 have iZ:(((s.heap.push<|seqObj "list" #[] 0).update s.heap.objs.size (Obj.mapSeq (·++[Value.ref x,Value.ref y].toArray))).push<|seqObj "list" [Value.ref x,Value.ref y].toArray 0).get? (s.heap.objs.size+1)=some (seqObj "list" [Value.ref x,Value.ref y].toArray 0):=by
  rw [<- hsz];exact Ap _ rfl
 have lx:x < s.heap.objs.size:=let ⟨_,_,_,_,e,_⟩:=hx;As e
 have ly:y < s.heap.objs.size:=let ⟨_,_,_,_,e,_⟩:=hy;As e
 have keep:∀ z r,Pr s.heap z r->Pr (((s.heap.push<|seqObj "list" #[] 0).update s.heap.objs.size (Obj.mapSeq (·++[Value.ref x,Value.ref y].toArray))).push<|seqObj "list" [Value.ref x,Value.ref y].toArray 0) z r:=by
  rintro z r ⟨o,m,t,u,q1,q2⟩;have hz:=As q1;exact⟨o,m,t,u,Af _<|(Cm _ _<|Cy hz).trans<|Af _ q1,q2⟩
 show wpAny _ _ _ _ _ {s with heap:=((s.heap.push<|seqObj "list" #[] 0).update s.heap.objs.size (Obj.mapSeq (·++[Value.ref x,Value.ref y].toArray))).push (seqObj "list" [Value.ref x,Value.ref y].toArray 0)};rw [hsz];refine BJ<|CJ<|wpAny_call_entry_kw slot_list_sort ⟨_,iZ,rfl⟩ entry_list_sort (Wx iZ (Cy<|Cn lx) (Cy<|Cn ly) (keep x p hx) (keep y q hy) ⟨_,rfl,?_⟩)<|args_list_sort_rev _ _;obtain⟨e,he⟩:=sortedAll_at s.heap [Value.ref x,Value.ref y] (if lexLt p q then #[.ref y,.ref x] else #[.ref x,.ref y]);exact BK ⟨_,rfl,h _ e (λb u hb=>sortedAll_old hb) he⟩
end
end bM
namespace L2
open PySem PySem.Spec PyProof.Rows bM
section
variable{X:Cx}{e:Expr}{σ:St}{H:Hp}{Q:VK}{pos p kp cp:Pos}{j:Nat}
theorem LZ{pins:List (Addr×Obj)}{s:Shared}{a:Addr}{i j:Int}(I:Inv X pins σ H s)(h:H a=some (.tup [.int i,.int j])):Pr s.heap a (i,j):=by
 obtain⟨its,r,pl,_⟩:=I.tuple<|aJ.of h;obtain⟨u,v,rfl,⟨t,rfl⟩,⟨t',rfl⟩⟩:=vals2 r;obtain⟨o,ho,hc,n,hd⟩:=pl;exact⟨o,n,t,t',ho,hc,hd⟩
theorem WC(hm:X.mg "sorted" = none) (h:Ev X e σ H λv H1=>∃ l x y a b c d,v = .ref l/\H1 l=some (.lst [.ref x,.ref y])/\H1 x=some (.tup [.int a,.int b])/\H1 y=some (.tup [.int c,.int d]) /\
   ∀ r,H1 r=none->Q (.ref r) (upd H1 r<|.lst (if lexLt (a,b) (c,d) then [.ref y,.ref x] else [.ref x,.ref y]))) (hg:Gl X "sorted":=by rfl)
  (he:backTo pos (starEach [e] X.env)=(false,eval e X.env) :: backTo pos (starEach [] X.env):=by rfl) (bX:(backTo pos<|starEach [e] X.env).any (·.1)=false:=by rfl) (cS:isStar e=false:=by rfl) :
  Ev X (.Call (.Name "sorted" p) [e] [⟨some "reverse",.Constant (.bool true) j cp,kp⟩] pos) σ H Q:=by
 refine⟨λpins s I=>?_⟩;refine JN<|lK I hg hm JV ?_;have hE:Ea X [e] σ H λvs H1=>∃ l x y a b c d,vs=[.ref l]/\H1 l=some (.lst [.ref x,.ref y])/\H1 x=some (.tup [.int a,.int b])/\H1 y=some (.tup [.int c,.int d]) /\
   ∀ r,H1 r=none->Q (.ref r) (upd H1 r<|.lst (if lexLt (a,b) (c,d) then [.ref y,.ref x] else [.ref x,.ref y])):=
  ak (h.mono λv H1 ⟨l,x,y,a,b,c,d,e1,r1⟩=>aq ⟨l,x,y,a,b,c,d,by rw [e1],r1⟩) cS
 refine callWith_kw (aI (hE.run pos pins s I) λus s1 ⟨vs,H1,I1,r1,l,x,y,a,b,c,d,ev,hl,hx,hy,q⟩=>?_) he bX;subst ev;obtain⟨u,rfl,ru⟩:=vals1 r1;cases (show u=Value.ref l from ru);refine kws_cons<|BK<|kws_nil ?_;obtain⟨its,r2,pl,_⟩:=I1.list<|ai.of hl;obtain⟨u,v,rfl,ru,rv⟩:=vals2 r2;cases (show u=Value.ref x from ru);cases (show v=Value.ref y from rv);refine WB pl.isList (LZ I1 hx) (LZ I1 hy) λh' e kp he=>?_;refine⟨.ref _,_,I1.gS (s':={s1 with heap:=h'}) kp rfl rfl (Ff _) (show ax X.prog X.w _ h' _ (.lst (if lexLt (a,b) (c,d) then [.ref y,.ref x] else [.ref x,.ref y])) from ?_),rfl,q _<|I1.aD.fresh<|Ff _⟩
 split at he
 ·rename_i hb;rw [BP hb];exact⟨by show 2<=sizeLine;rw [DQ];decide,[.ref y,.ref x],e,.cons rfl (.cons rfl .nil),he⟩
 ·rename_i hb;rw [BL hb];exact⟨by show 2<=sizeLine;rw [DQ];decide,[.ref x,.ref y],e,.cons rfl (.cons rfl .nil),he⟩
end
end L2
namespace Nt
open PySem
abbrev Net:=List<|Str×List Str
abbrev End:=Nat×Nat
def row(n:Net)(r:Nat):List Str:=((n[r]?).map (·.2)).getD []
def aG(n:Net)(e:End):Option Str:=(row n e.1)[e.2]?
def bz(r:Nat)(ts:List Str)(p:Nat):List (Str×End):=(ts.zipIdx p).map λx=>(x.1,(r,x.2))
def fh(r:Nat):Net->List (Str×End)
 | []=>[]
 | a :: n=>bz r a.2 0++fh (r+1) n
def bd(n:Net):List (Str×End):=fh 0 n
def ends(n:Net):List End:=(bd n).map (·.2)
def ag(n:Net):List Str:=n.flatMap (·.2)
def pos(n:Net)(z:Str):List End:=((bd n).filter λx=>decide (x.1=z)).map (·.2)
theorem bf{r:Nat}{ts:List Str}{p:Nat}{z:Str}{e:End}:(z,e)∈bz r ts p↔e.1=r/\p<=e.2/\ts[e.2 - p]?=some z:=by
 unfold bz;rw [Am]
 constructor
 ·rintro ⟨⟨y,k⟩,hm,he⟩;cases he;have:=Fe.mp hm;exact⟨rfl,this.1,this.2⟩
 ·rintro ⟨h1,h2,h3⟩;refine⟨(z,e.2),Fe.mpr ⟨h2,h3⟩,?_⟩;rw [<- h1]
theorem bq:∀{n:Net} {k:Nat} {z:Str} {e:End},(z,e)∈fh k n↔k<=e.1/\(row n<|e.1 - k)[e.2]?=some z
 | [],k,z,e=>by
  constructor
  ·intro h;cases h
  ·rintro ⟨_,h⟩;simp [row] at h
 | a :: n,k,z,e=>by
  unfold fh;rw [Aq,bf,bq]
  constructor
  ·rintro (⟨h1,_,h3⟩ | ⟨h1,h2⟩)
   ·refine⟨by omega,?_⟩;rw [show e.1 - k=0 by omega]
    simpa [row] using h3
   ·refine⟨by omega,?_⟩;rw [show e.1 - k=(e.1 - (k+1))+1 by omega]
    simpa [row] using h2
  ·rintro ⟨h1,h2⟩
   rcases Cz k e.1 with h | h
   ·refine .inr ⟨h,?_⟩;rw [show e.1 - k=(e.1 - (k+1))+1 by omega] at h2
    simpa [row] using h2
   ·refine .inl ⟨by omega,Bu _,?_⟩;rw [show e.1 - k=0 by omega] at h2
    simpa [row] using h2
theorem aO{n:Net}{z:Str}{e:End}:(z,e)∈bd n↔aG n e=some z:=by
 unfold bd aG;rw [bq];simp
theorem af{n:Net}{e:End}:e∈ends n↔∃ z,aG n e=some z:=by
 unfold ends;rw [Am]
 constructor
 ·rintro ⟨⟨z,e'⟩,h,rfl⟩;exact⟨z,aO.mp h⟩
 ·rintro ⟨z,h⟩;exact⟨(z,e),aO.mpr h,rfl⟩
theorem aN{n:Net}{z:Str}{e:End}:e∈pos n z↔aG n e=some z:=by
 unfold pos;rw [Am]
 constructor
 ·rintro ⟨⟨y,e'⟩,h,rfl⟩;rw [Da,EY] at h;obtain⟨h1,h2⟩:=h;subst h2;exact aO.mp h1
 ·intro h;exact⟨(z,e),Da.mpr ⟨aO.mpr h,by simp⟩,rfl⟩
theorem WD(r:Nat):∀(ts:List Str) (p:Nat),(bz r ts p).map (·.1)=ts:=by
 intro ts p;unfold bz;rw [Ch];have:((λx:Str×End=>x.1) ∘ λx:Str×Nat=>(x.1,(r,x.2)))=Prod.fst:=rfl;rw [this,List.zipIdx_map_fst]
theorem jf:∀(n:Net) (k:Nat),(fh k n).map (·.1)=ag n
 | [],_=>rfl
 | a :: n,k=>by
  unfold fh ag;rw [Ak,WD,jf n<|k+1,El];rfl
theorem WG(r:Nat)(ts:List Str)(p:Nat):((bz r ts p).map (·.2)).Nodup:=by
 unfold bz;rw [Ch];have e:((λx:Str×End=>x.2) ∘ λx:Str×Nat=>(x.1,(r,x.2)))=(λk:Nat=>(r,k)) ∘ Prod.snd:=rfl;rw [e,<- Ch,List.zipIdx_map_snd];refine KH _ (R:=(·≠·)) ?_ List.nodup_range';intro a b h fI;exact h (Prod.mk.inj fI).2
theorem L0:∀(n:Net) (k:Nat),((fh k n).map (·.2)).Nodup
 | [],_=>Cp
 | a :: n,k=>by
  unfold fh;rw [Ak,Co];refine⟨WG _ _ _,L0 n<|k+1,?_⟩;intro x hx y hy e;subst e;obtain⟨⟨z,e1⟩,h1,rfl⟩:=Am.mp hx;obtain⟨⟨z2,e2⟩,h2,he⟩:=Am.mp hy;simp only at he;subst he;have q1:=(bf.mp h1).1;have q2:=(bq.mp h2).1;omega
theorem iP(n:Net):(ends n).Nodup:=L0 n 0
theorem L3(n:Net)(z:Str):(pos n z).Nodup:=by
 unfold pos;exact(iP n).sublist<|List.Sublist.map _<|List.filter_sublist
theorem qj(n:Net)(z:Str):(pos n z).length=(ag n).count z:=by
 unfold pos;rw [Aa,<- jf n 0,<- List.countP_eq_length_filter,List.count,List.countP_map];rfl
def ay(n:Net):Prop:=∀ z∈ag n,(ag n).count z=2
theorem fj{n:Net}{e:End}{z:Str}(h:aG n e=some z):z∈ag n:=by
 have:=aO.mpr h;rw [<- jf n 0];exact Am.mpr ⟨_,this,rfl⟩
def other(n:Net)(e:End):End:=match aG n e with
 | some z=>(match pos n z with
  | [a,b]=>if a=e then b else a
  | _=>e)
 | none=>e
theorem qk{n:Net}(T:ay n){e:End}{z:Str}(h:aG n e=some z):∃ a b,pos n z=[a,b]/\a≠b/\(e=a\/e=b):=by
 have hl:=qj n z;rw [T z<|fj h] at hl;have hn:=L3 n z;have hm:=aN.mpr h
 match hp:pos n z,hl with
 | [a,b],_=>
  rw [hp] at hn hm;refine⟨a,b,rfl,?_,?_⟩
  ·intro e;subst e;simp at hn
  ·simpa using hm
theorem fk{n:Net}(T:ay n){e:End}{z:Str}(h:aG n e=some z):aG n (other n e)=some z/\other n (other n e)=e/\other n e≠e:=by
 obtain⟨a,b,hp,fI,he⟩:=qk T h;have ha:aG n a=some z:=aN.mp (by rw [hp];simp);have hb:aG n b=some z:=aN.mp<|by rw [hp];simp
 rcases he with rfl | rfl
 ·have e1:other n e=b:=by unfold other;simp only [h,hp];simp
  have e2:other n b=e:=by unfold other;simp only [hb,hp];simp [fI]
  rw [e1];exact⟨hb,e2,fI.symm⟩
 ·have e1:other n e=a:=by unfold other;simp only [h,hp];simp [fI]
  have e2:other n a=e:=by unfold other;simp only [ha,hp];simp
  rw [e1];exact⟨ha,e2,fI⟩
def left(n:Net)(e:End):End:=(e.1,(e.2+1) % (row n e.1).length)
def step(n:Net)(e:End):End:=left n (other n e)
theorem eN{n:Net}{e:End}{z:Str}(h:aG n e=some z):e.2 < (row n e.1).length:=(Ac.mp h).1
theorem cg{n:Net}{e:End}{z:Str}(h:aG n e=some z):e.1 < n.length:=by
 rcases Cz e.1 n.length with c | c
 ·exact c
 ·have:=eN h;unfold row at this;rw [Bv c] at this;simp at this
theorem sv{n:Net}{e:End}(h:e.2 < (row n e.1).length):∃ z,aG n e=some z:=⟨_,Ab h⟩
theorem AU{n:Net}{e:End}(h:e∈ends n):left n e∈ends n:=by
 obtain⟨z,h⟩:=af.mp h;have:=eN h;exact af.mpr<|sv (show(e.2+1) % (row n e.1).length < (row n e.1).length from Gc _<|by omega)
theorem dM{n:Net}(T:ay n){e:End}(h:e∈ends n):other n e∈ends n:=by
 obtain⟨z,h⟩:=af.mp h;exact af.mpr ⟨z,(fk T h).1⟩
theorem jg{n:Net}(T:ay n){e:End}(h:e∈ends n):step n e∈ends n:=AU<|dM T h
theorem WH{n:Net}{a b:End}(ha:a∈ends n)(hb:b∈ends n)(h:left n a=left n b):a=b:=by
 obtain⟨z,ha⟩:=af.mp ha;obtain⟨y,hb⟩:=af.mp hb;have la:=eN ha;have lb:=eN hb;unfold left at h;obtain⟨h1,h2⟩:=Prod.mk.inj h;rw [h1] at la h2;have:a.2=b.2:=by
  rcases Cz (a.2+1) (row n b.1).length with c | c <;> rcases Cz (b.2+1) (row n b.1).length with d | d
  ·rw [Bj c,Bj d] at h2;omega
  ·have e:b.2+1=(row n b.1).length:=by omega
   rw [Bj c,e,Eb] at h2;omega
  ·have e:a.2+1=(row n b.1).length:=by omega
   rw [Bj d,e,Eb] at h2;omega
  ·omega
 exact GD h1 this
theorem WK{n:Net}(T:ay n){a b:End}(ha:a∈ends n)(hb:b∈ends n)(h:other n a=other n b):a=b:=by
 obtain⟨z,ha⟩:=af.mp ha;obtain⟨y,hb⟩:=af.mp hb;rw [<- (fk T ha).2.1,h,(fk T hb).2.1]
theorem wm{n:Net}(T:ay n){a b:End}(ha:a∈ends n)(hb:b∈ends n)(h:step n a=step n b):a=b:=
 WK T ha hb (WH (dM T ha) (dM T hb) h)
theorem aK{α:Type} [DecidableEq α]:∀{a b:List α},a.Nodup->(∀ z∈a,z∈b)->a.length<=b.length
 | [],b,_,_=>Bu _
 | x :: r,b,hn,hs=>by
  rw [Bq] at hn;have hx:=hs x Ae;have:=aK (a:=r) (b:=b.erase x) hn.2 λz hz=>by
   have bj:z≠x:=λe=>hn.1<|e ▸ hz;exact(Em bj).mpr<|hs z<|Ah _ hz
  rw [Er hx] at this;have hp:0 < b.length:=Fx hx;rw [At];omega
def it{α:Type}(f:α->α):Nat->α->α
 | 0,a=>a
 | k+1,a=>f<|it f k a
theorem jh{α:Type}{f:α->α}{S:List α}(hf:∀ a∈S,f a∈S){a:α}(h:a∈S):∀ k,it f k a∈S
 | 0=>h
 | k+1=>hf _<|jh hf h k
theorem L4{α:Type} [DecidableEq α] {f:α->α} {S:List α} (hf:∀ a∈S,f a∈S) (inj:∀ a∈S,∀ b∈S,f a=f b->a=b) {a:α} (h:a∈S):∃ k,0 < k/\k<=S.length/\it f k a=a:=by
 have cancel:∀ i j,it f i a=it f (i+j) a->it f j a=a:=by
  intro i
  induction i with
  | zero=>intro j e;rw [Fw] at e;exact e.symm
  | succ i ih=>
   intro j e;refine ih j ?_;rw [show i+1+j=(i+j)+1 by omega] at e;exact inj _ (jh hf h i) _ (jh hf h<|i+j) e
 refine CK λhn=>?_;have nd:((List.range<|S.length+1).map λi=>it f i a).Nodup:=by
  refine KH _ (R:=λi j=>i < j/\j < S.length+1) ?_ ?_
  ·rintro i j ⟨h1,h2⟩ e;refine hn ⟨j - i,by omega,by omega,cancel i (j - i) ?_⟩;rw [show i+(j - i)=j by omega];exact e
  ·rw [Az];intro i j hi hj gu;simp only [PN];simp at hj;exact⟨gu,hj⟩
 have:=aK nd λz hz=>by
  obtain⟨i,_,rfl⟩:=Am.mp hz;exact jh hf h i
 simp at this;omega
theorem fY:∀(n:Net) (r:Nat),(row n r).length<=(ag n).length
 | [],r=>by simp [row,ag]
 | a :: n,0=>by simp [row,ag]
 | a :: n,r+1=>by
  have:=fY n r;simp [row,ag] at this ⊢;omega
theorem AV:∀(n:Net) (r:Nat),(ag<|n.take r).length<=(ag n).length
 | [],r=>by simp [ag]
 | a :: n,0=>by simp [ag]
 | a :: n,r+1=>by
  have:=AV n r;simp [ag] at this ⊢;omega
structure cQ(n:Net)(e:Nt.End)(fs:List End):Prop where
 pos:0 < fs.length
 len:fs.length<=(ends n).length
 at':∀ i,i < fs.length->fs[i]?=some (it (step n) i e)
 back:it (step n) fs.length e=e
 first:∀ i,0 < i->i < fs.length->it (step n) i e≠e
open L2
abbrev Ls(zs:List Str):HO:= .lst<|zs.map V.str
abbrev Tp(e:End):HO:= .tup [.int e.1,.int e.2]
structure ah(H:Hp)(R:Addr)(as:List<|Addr×Addr)(n:Net):Prop where
 len:as.length=n.length
 lst:H R=some (.lst<|as.map λa=> .ref a.1)
 tup:∀(i:Nat) a r,as[i]?=some a->n[i]?=some r->H a.1=some (.tup [.str r.1,.ref a.2])/\H a.2=some (Ls r.2)
 inj:(as.map (·.2)).Nodup
theorem ah.same{H H':Hp}{R:Addr}{as:List (Addr×Addr)}{n:Net}(h:ah H R as n)(s:aj H H'):ah H' R as n:=
 ⟨h.len,s _ _ h.lst,λi a r h1 h2=>⟨s _ _ (h.tup i a r h1 h2).1,s _ _ (h.tup i a r h1 h2).2⟩,h.inj⟩
theorem ah.at{H:Hp}{R:Addr}{as:List (Addr×Addr)}{n:Net}(h:ah H R as n){i:Nat}(hi:i < n.length) :
  ∃ a,as[i]?=some a/\dG (as.map λa=>V.ref a.1) (i:Int)=some (.ref a.1)/\H a.1=some (.tup [.str n[i].1,.ref a.2])/\H a.2=some (Ls<|row n i)/\row n i=n[i].2:=by
 have hl:=h.len;have e:as[i]?=some as[i]:=Ab (by omega);have er:row n i=n[i].2:=by unfold row;rw [Ab hi];rfl
 have q:=h.tup i as[i] n[i] e<|Ab hi;refine⟨as[i],e,i5 (by rw [Ad,e];rfl),q.1,?_,er⟩;rw [er];exact q.2
theorem sw{zs:List Str}{j:Nat}{z:Str}(h:zs[j]?=some z):dG (zs.map V.str) (j:Int)=some (.str z):=i5<|by rw [Ad,h];rfl
inductive Pd (H:Hp):List Addr->List End->Prop where
 | nil:Pd H [] []
 | cons {t:Addr} {e:End} {ts:List Addr} {es:List End}:H t=some (Tp e)->Pd H ts es->Pd H (t :: ts) (e :: es)
theorem Pd.append{H:Hp}{ts us:List Addr}{es fs:List End}(h:Pd H ts es)(g:Pd H us fs):Pd H (ts++us) (es++fs):=by
 induction h with
 | nil=>exact g
 | cons h1 _ ih=>exact .cons h1 ih
theorem Pd.keep{H H':Hp}{ts:List Addr}{es:List End}(h:Pd H ts es)(k:∀ t e,H t=some (Tp e)->H' t=some (Tp e)):Pd H' ts es:=by
 induction h with
 | nil=>exact .nil
 | cons h1 _ ih=>exact .cons (k _ _ h1) ih
theorem Pd.length{H:Hp}{ts:List Addr}{es:List End}(h:Pd H ts es):ts.length=es.length:=by
 induction h with
 | nil=>rfl
 | cons _ _ ih=>rw [At,At,ih]
theorem Pd.at{H:Hp}{ts:List Addr}{es:List End}(h:Pd H ts es):∀{i:Nat} {e:End},es[i]?=some e->∃ t,ts[i]?=some t/\H t=some (Tp e):=by
 induction h with
 | nil=>intro i e h;simp at h
 | cons h1 _ ih=>
  intro i e h;cases i with
  | zero=>simp at h;subst h;exact⟨_,rfl,h1⟩
  | succ i=>simp only [Dv] at h ⊢;exact ih h
def bY(done:List<|Str×End)(z:Str):List End:=(done.filter λx=>decide (x.1=z)).map (·.2)
theorem cU(done:List<|Str×End)(y z:Str)(e:End):bY (done++[(y,e)]) z=bY done z++(if y=z then [e] else []):=by
 unfold bY;rw [PX,Ak]
 congr 1
 by_cases h:y=z
 ·rw [BP h];simp [h]
 ·rw [BL h];simp [h]
structure aY(H0 H:Hp)(d:Addr)(done:List<|Str×End)(kvs:List<|Key×V)(ks:List Str)(A:Str->Option (Addr×List Addr)):Prop where
 same:aj H0 H
 free:H0 d=none
 dict:H d=some (.dK kvs)
 keys:kvs.map (·.1)=ks.map Sum.inr
 nodup:ks.Nodup
 mem:∀ z,z∈ks↔(A z).isSome=true
 val:∀ z,aC kvs (Sum.inr z)=(A z).map λa=> .ref a.1
 at':∀ z a ts,A z=some (a,ts)->H0 a=none/\a≠d/\H a=some (.lst<|ts.map V.ref)/\Pd H ts (bY done z)
 inj:∀ z y a ts us,A z=some (a,ts)->A y=some (a,us)->z=y
 fJ:∀ z,A z=none->bY done z=[]
 some':∀ z a ts,A z=some (a,ts)->bY done z≠[]
theorem aY.start{H:Hp}{d:Addr}(h:H d=none):aY H (upd H d<|.dK []) d [] [] [] (λ_=>none) where
 same:=λb u q=>by rw [av<|bF q h];exact q
 free:=h
 dict:=aw
 keys:=rfl
 nodup:=Cp
 mem:=λz=>by simp
 val:=λz=>rfl
 at':=λz a ts h=>by cases h
 inj:=λz y a ts us h=>by cases h
 fJ:=λz _=>rfl
 some':=λz a ts h=>by cases h
theorem sy{H:Hp}{t a:Addr}{e:End}{xs:List V}(h:H t=some (Tp e))(g:H a=some (.lst xs)):t≠a:=b7 h g λz=>nomatch z
theorem aY.old{H0 H:Hp}{d:Addr}{done:List (Str×End)}{kvs:List (Key×V)}{ks:List Str}{A:Str->Option (Addr×List Addr)}(S:aY H0 H d done kvs ks A){z:Str}{e:End}{a l0 t:Addr}{ts:List Addr}
  (hA:A z=some (a,ts)) (hl:H l0=none) (ht:(upd H l0<|.lst []) t=none) :
  aY H0 (upd (upd (upd H l0<|.lst []) t<|Tp e) a<|.lst<|ts.map V.ref++[.ref t]) d (done++[(z,e)]) kvs ks (λy=>if y=z then some (a,ts++[t]) else A y):=by
 obtain⟨q1,q2,q3,q4⟩:=S.at' z a ts hA;have wn:H t=none:=by
  by_cases c:t=l0
  ·rw [c,aw] at ht;cases ht
  ·rwa [av c] at ht
 have wo:l0≠a:=(bF q3 hl).symm;have wq:t≠a:=(bF q3 wn).symm;have c7:a≠t:=wq.symm;have keep:∀ b u,b≠a->H b=some u->(upd (upd (upd H l0<|.lst []) t<|Tp e) a<|.lst<|ts.map V.ref++[.ref t]) b=some u:=λb u h1 h2=>by
  rw [av h1,av<|bF h2 wn,av<|bF h2 hl];exact h2
 have kt:∀ b f,H b=some (Tp f)->(upd (upd (upd H l0<|.lst []) t<|Tp e) a<|.lst<|ts.map V.ref++[.ref t]) b=some (Tp f):=λb f h=>keep b _ (sy h q3) h;have et:(upd (upd (upd H l0<|.lst []) t<|Tp e) a<|.lst<|ts.map V.ref++[.ref t]) t=some (Tp e):=by rw [av wq,aw]
 refine⟨λb u h=>?_,S.free,keep d _ (CG q2) S.dict,S.keys,S.nodup,λy=>?_,λy=>?_,λy a' gU h=>?_,λy y' a' gU us h1 h2=>?_,λy h=>?_,λy a' gU h=>?_⟩
 ·exact keep b u (bF h q1)<|S.same _ _ h
 ·rw [S.mem y]
  by_cases c:y=z
  ·rw [BP c,c,hA];simp
  ·rw [BL c]
 ·rw [S.val y]
  by_cases c:y=z
  ·rw [BP c,c,hA];rfl
  ·rw [BL c]
 ·by_cases c:y=z
  ·rw [BP c] at h;cases h;refine⟨q1,q2,by rw [aw,Ak];rfl,?_⟩;rw [cU,c,BP rfl];exact(q4.keep kt).append<|.cons et .nil
  ·rw [BL c] at h;obtain⟨r1,r2,r3,r4⟩:=S.at' y a' gU h;have bj:a'≠a:=λe2=>c<|S.inj y z a gU ts (e2 ▸ h) hA;refine⟨r1,r2,keep _ _ bj r3,?_⟩;rw [cU,BL λh=>c h.symm,Br];exact r4.keep kt
 ·by_cases c:y=z <;> by_cases c':y'=z
  ·rw [c,c']
  ·rw [BP c] at h1;rw [BL c'] at h2;cases h1;exact absurd (S.inj y' z a us ts h2 hA) c'
  ·rw [BL c] at h1;rw [BP c'] at h2;cases h2;exact absurd (S.inj y z a gU ts h1 hA) c
  ·rw [BL c] at h1;rw [BL c'] at h2;exact S.inj y y' a' gU us h1 h2
 ·by_cases c:y=z
  ·rw [BP c] at h;cases h
  ·rw [BL c] at h;rw [cU,BL λh=>c h.symm,Br];exact S.fJ y h
 ·by_cases c:y=z
  ·rw [cU,BP c.symm];simp
  ·rw [BL c] at h;rw [cU,BL λh=>c h.symm,Br];exact S.some' y a' gU h
theorem aY.new{H0 H:Hp}{d:Addr}{done:List (Str×End)}{kvs:List (Key×V)}{ks:List Str}{A:Str->Option (Addr×List Addr)}(S:aY H0 H d done kvs ks A){z:Str}{e:End}{l0 t:Addr}
  (hA:A z=none) (hl:H l0=none) (ht:(upd (upd H l0<|.lst []) d<|.dK<|putK kvs (Sum.inr z)<|.ref l0) t=none) :
  aY H0 (upd (upd (upd (upd H l0<|.lst []) d<|.dK<|putK kvs (Sum.inr z)<|.ref l0) t<|Tp e) l0<|.lst [.ref t]) d (done++[(z,e)]) (putK kvs (Sum.inr z)<|.ref l0) (ks++[z]) (λy=>if y=z then some (l0,[t]) else A y):=by
 have gn:d≠l0:=bF S.dict hl;have AW:t≠d:=λc=>by rw [c,aw] at ht;cases ht
 have nO:t≠l0:=λc=>by rw [av AW,c,aw] at ht;cases ht
 have wn:H t=none:=by rwa [av AW,av nO] at ht
 have vn:aC kvs (Sum.inr z)=none:=by rw [S.val z,hA];rfl
 have keep:∀ b u,b≠d->H b=some u->(upd (upd (upd (upd H l0<|.lst []) d<|.dK<|putK kvs (Sum.inr z)<|.ref l0) t<|Tp e) l0<|.lst [.ref t]) b=some u:=λb u h1 h2=>by
  rw [av<|bF h2 hl,av<|bF h2 wn,av h1,av<|bF h2 hl];exact h2
 have kt:∀ b f,H b=some (Tp f)->(upd (upd (upd (upd H l0<|.lst []) d<|.dK<|putK kvs (Sum.inr z)<|.ref l0) t<|Tp e) l0<|.lst [.ref t]) b=some (Tp f):=λb f h=>keep b _ (b7 h S.dict λz=>nomatch z) h;have WL:H0 l0=none:=S.same.free hl;have zk:z∉ks:=λh=>by
  have:=(S.mem z).mp h;rw [hA] at this;cases this
 refine⟨λb u h=>?_,S.free,?_,?_,?_,λy=>?_,λy=>?_,λy a' gU h=>?_,λy y' a' gU us h1 h2=>?_,λy h=>?_,λy a' gU h=>?_⟩
 ·exact keep b u (bF h S.free)<|S.same _ _ h
 ·rw [av gn,av AW.symm,aw]
 ·rw [J3 _ vn,Ak,S.keys,Ak];rfl
 ·rw [Co];exact⟨S.nodup,by simp,λx hx y hy e=>by rw [Ai] at hy;subst hy e;exact zk hx⟩
 ·rw [Aq,Ai,S.mem y]
  by_cases c:y=z
  ·rw [BP c];simp [c]
  ·rw [BL c];simp [c]
 ·rw [c0]
  by_cases c:y=z
  ·rw [BP (by rw [c]),BP c];rfl
  ·rw [BL λh=>c<|Sum.inr.inj h,BL c,S.val y]
 ·by_cases c:y=z
  ·rw [BP c] at h;cases h;refine⟨WL,gn.symm,by rw [aw];rfl,?_⟩;rw [cU,c,BP rfl,S.fJ z hA];exact .cons (by rw [av nO,aw]) .nil
  ·rw [BL c] at h;obtain⟨r1,r2,r3,r4⟩:=S.at' y a' gU h;refine⟨r1,r2,keep _ _ r2 r3,?_⟩;rw [cU,BL λh=>c h.symm,Br];exact r4.keep kt
 ·by_cases c:y=z <;> by_cases c':y'=z
  ·rw [c,c']
  ·rw [BP c] at h1;rw [BL c'] at h2;cases h1;exact absurd hl<|by rw [(S.at' y' l0 us h2).2.2.1];exact λh=>nomatch h
  ·rw [BL c] at h1;rw [BP c'] at h2;cases h2;exact absurd hl<|by rw [(S.at' y l0 gU h1).2.2.1];exact λh=>nomatch h
  ·rw [BL c] at h1;rw [BL c'] at h2;exact S.inj y y' a' gU us h1 h2
 ·by_cases c:y=z
  ·rw [BP c] at h;cases h
  ·rw [BL c] at h;rw [cU,BL λh=>c h.symm,Br];exact S.fJ y h
 ·by_cases c:y=z
  ·rw [cU,BP c.symm];simp
  ·rw [BL c] at h;rw [cU,BL λh=>c h.symm,Br];exact S.some' y a' gU h
theorem AX:∀(n m:Net) (k:Nat),fh k (n++m)=fh k n++fh (k+n.length) m
 | [],m,k=>rfl
 | a :: n,m,k=>by
  show bz k a.2 0++fh (k+1) (n++m)=(bz k a.2 0++fh (k+1) n)++fh (k+(n.length+1)) m;rw [AX n m<|k+1,Ay,show k+1+n.length=k+(n.length+1) by omega]
theorem ql{n:Net}{r:Nat}(h:r < n.length):bd (n.take<|r+1)=bd (n.take r)++bz r (row n r) 0:=by
 unfold bd;rw [Cj,Ab h,AX];have e:(n.take r).length=r:=by rw [Bo];omega
 rw [e,Fw];have er:row n r=n[r].2:=by unfold row;rw [Ab h];rfl
 rw [er];show _++(bz r n[r].2 0++[])=_;rw [Br]
theorem nP{r:Nat}{ts:List Str}{p:Nat}{z:Str}(h:ts[p]?=some z):bz r (ts.take<|p+1) 0=bz r (ts.take p) 0++[(z,(r,p))]:=by
 unfold bz;have hp:=(Ac.mp h).1;rw [Cj,h,QB,Ak];have e:(ts.take p).length=p:=by rw [Bo];omega
 rw [e,Fw];rfl
structure bN(H:Hp)(d:Addr)(n:Net)(ks:List Str):Prop where
 dict:∃ kvs,H d=some (.dK kvs)/\kvs.map (·.1)=ks.map Sum.inr/\∀ z∈ag n,∃ a ts,aC kvs (Sum.inr z)=some (.ref a)/\H a=some (.lst<|ts.map V.ref)/\Pd H ts (pos n z)
 nodup:ks.Nodup
 mem:∀ z,z∈ks↔z∈ag n
theorem bN.same{H H':Hp}{d:Addr}{n:Net}{ks:List Str}(S:bN H d n ks)(s:aj H H'):bN H' d n ks:=by
 obtain⟨kvs,h1,h2,h3⟩:=S.dict;refine⟨⟨kvs,s _ _ h1,h2,λz hz=>?_⟩,S.nodup,S.mem⟩;obtain⟨a,ts,q1,q2,q3⟩:=h3 z hz;exact⟨a,ts,q1,s _ _ q2,q3.keep λt e h=>s _ _ h⟩
theorem WM{n:Net}{z:Str}:z∈ag n↔pos n z≠[]:=by
 rw [<- QC,<- qj,By]
theorem aY.whole{H0 H:Hp}{d:Addr}{n:Net}{kvs:List (Key×V)}{ks:List Str}{A:Str->Option (Addr×List Addr)}(S:aY H0 H d (bd n) kvs ks A):bN H d n ks:=by
 have mem:∀ z,z∈ks↔z∈ag n:=λz=>by
  rw [S.mem z,WM];cases h:A z with
  | none=>simp;exact S.fJ z h
  | some p=>
   obtain⟨a,ts⟩:=p;simp;exact S.some' z a ts h
 refine⟨⟨kvs,S.dict,S.keys,λz hz=>?_⟩,S.nodup,mem⟩;have:=(S.mem z).mp<|(mem z).mpr hz;cases h:A z with
 | none=>rw [h] at this;cases this
 | some p=>
  obtain⟨a,ts⟩:=p;obtain⟨q1,q2,q3,q4⟩:=S.at' z a ts h;exact⟨a,ts,by rw [S.val z,h];rfl,q3,q4⟩
theorem all2(e:Nat->Bool):(List.range 2).all e=(e 0 && e 1):=by
 show(([0,1]:List Nat).all e)=_;simp
theorem L5(x y:End):(cj (.int x.1) (.int y.1) && cj (.int x.2) (.int y.2))=decide (x=y):=by
 obtain⟨a,b⟩:=x;obtain⟨c,d⟩:=y
 by_cases h:a=c <;> by_cases h2:b=d
 ·subst h h2;simp [cj]
 ·have:¬(b:Int)=(d:Int):=λe=>h2 (by omega);simp [cj,h2,this]
 ·have:¬(a:Int)=(c:Int):=λe=>h (by omega);simp [cj,h,this]
 ·have:¬(a:Int)=(c:Int):=λe=>h (by omega);simp [cj,h,this]
section
variable{X:Cx}{H:Hp}{s t:Addr}{x y:End}
theorem L9:∀(j:Nat) (u v:V),[V.int x.1,.int x.2][j]?=some u->[V.int y.1,.int y.2][j]?=some v->gT X H 0 u v (if j=0 then cj (.int x.1) (.int y.1) else cj (.int x.2) (.int y.2))
 | 0,u,v,h1,h2=>by
  cases h1;cases h2;exact nM rfl rfl
 | 1,u,v,h1,h2=>by
  cases h1;cases h2;exact nM rfl rfl
 | j+2,u,v,h1,h2=>by simp at h1
theorem WN(hs:H s=some (Tp x))(ht:H t=some (Tp y)):iO X H 1 (.ref s) (.ref t) (decide (x=y)):=by
 have:=AK (X:=X) (k:=0) (λj=>if j=0 then cj (.int x.1) (.int y.1) else cj (.int x.2) (.int y.2)) (aJ.of hs) (aJ.of ht) rfl L9;rw [show([V.int (x.1:Int),.int x.2].length)=2 from rfl,all2] at this;have e:=L5 x y;simp only [DK] at this;rw [BL (by decide),e] at this;exact this
theorem WO(hs:H s=some (Tp x))(ht:H t=some (Tp y)):l9 X H 1 (.ref s) (.ref t) (decide (x=y)):=by
 have:=AO (X:=X) (k:=0) (λj=>if j=0 then cj (.int x.1) (.int y.1) else cj (.int x.2) (.int y.2)) (aJ.of hs) (aJ.of ht) rfl L9;rw [show([V.int (x.1:Int),.int x.2].length)=2 from rfl,all2] at this;have e:=L5 x y;simp only [DK] at this;rw [BL (by decide),e] at this;exact this
end
abbrev lets:Str:= "abcdefghijklmnopqrstuvwxyz0123456789"
theorem AY:lets.cps.toList.length=36:=by decide +kernel
theorem WQ:lets.cps.toList.Nodup:=by decide +kernel
def sgn(i:Int):Nat:=(dG lets.cps.toList<|i % 36).getD 0
theorem wu(i:Int):dG lets.cps.toList (i % 36)=some (sgn i):=by
 have h0:0<=i % 36:=Bs _ (by decide);have h1:i % 36 < 36:=Bx _ (by decide);have hj:(i % 36).toNat < lets.cps.toList.length:=by rw [AY];omega
 have q:=i5 (xs:=lets.cps.toList) (j:=(i % 36).toNat) (v:=lets.cps.toList[(i % 36).toNat]) (by simp [hj]);rw [show(((i % 36).toNat:Nat):Int)=i % 36 by omega] at q;unfold sgn;rw [q];rfl
theorem Ma{i j:Int}(h:sgn i=sgn j):i % 36=j % 36:=by
 have key:∀ k:Int,lets.cps.toList[(k % 36).toNat]?=some (sgn k):=λk=>by
  have h0:0<=k % 36:=Bs _ (by decide);have h1:k % 36 < 36:=Bx _ (by decide);have hj:(k % 36).toNat < lets.cps.toList.length:=by rw [AY];omega
  have q:=i5 (xs:=lets.cps.toList) (j:=(k % 36).toNat) (v:=lets.cps.toList[(k % 36).toNat]) (by simp [hj]);rw [show(((k % 36).toNat:Nat):Int)=k % 36 by omega,wu] at q;rw [Ab hj,Option.some.inj q]
 have hi:=key i;have hj:=key j;rw [h] at hi;obtain⟨l1,e1⟩:=Ac.mp hi;obtain⟨l2,e2⟩:=Ac.mp hj;have:=(Gb (xs:=lets.cps.toList) (h₀:=l1) (h₁:=l2) WQ).mp<|e1.trans e2.symm;have a0:0<=i % 36:=Bs _ (by decide);have b0:0<=j % 36:=Bs _ (by decide);omega
def turn(b:Int)(sp:Int)(v k:Nat):Int:=b / 64+(k:Int) * (b / 7 % 5)+(if(k:Int)=sp then(v:Int) else 0)
def nm(b sp:Int)(v:Nat):Nat->Str
 | 0=>⟨#[]⟩
 | k+1=>nm b sp v k++⟨#[sgn<|turn b sp v k]⟩
theorem app_list(x y:Str):(x++y).cps.toList=x.cps.toList++y.cps.toList:=by
 show(x.cps++y.cps).toList=_;simp
theorem sJ(b sp:Int)(v:Nat):∀ k,(nm b sp v k).cps.toList=(List.range k).map λj=>sgn<|turn b sp v j
 | 0=>rfl
 | k+1=>by
  show(nm b sp v k++⟨#[sgn<|turn b sp v k]⟩).cps.toList=_;rw [app_list,sJ b sp v k,Dx,Ak];rfl
theorem WR{b sp:Int}{u v k:Nat}(hu:u < 36)(hv:v < 36)(h0:0<=sp)(h1:sp < (k:Int))(h:nm b sp u k=nm b sp v k):u=v:=by
 have e:(nm b sp u k).cps.toList=(nm b sp v k).cps.toList:=by rw [h]
 rw [sJ,sJ] at e;have hk:sp.toNat < k:=by omega
 have q:((List.range k).map λj=>sgn<|turn b sp u j)[sp.toNat]?=((List.range k).map λj=>sgn<|turn b sp v j)[sp.toNat]?:=by rw [e]
 rw [Ad,Ad,Dm hk] at q;have q2:sgn (turn b sp u sp.toNat)=sgn (turn b sp v sp.toNat):=Option.some.inj q;have q3:=Ma q2;unfold turn at q3;rw [show((sp.toNat:Nat):Int)=sp by omega,BP rfl,BP rfl] at q3;omega
theorem fold_list(c:Nat):∀(k:Nat) (acc:Array Nat),((List.replicate k (#[c]:Array Nat)).foldl (·++·) acc).toList=acc.toList++List.replicate k c
 | 0,acc=>by simp
 | k+1,acc=>by
  rw [List.replicate_succ,Dp,fold_list c k,List.replicate_succ];simp
theorem mul_list(c:Nat){i:Int}(h:1<=i):(Txt.mul ⟨#[c]⟩ i).cps.toList=List.replicate i.toNat c:=by
 unfold Txt.mul;rw [BL<|by omega]
 by_cases e:i=1
 ·subst e;rfl
 ·have e1:(i == 1 || (⟨#[c]⟩:Str).length == 0)=false:=by
   have:(i == 1)=false:=by simpa using e
   rw [this];rfl
  rw [e1];simp only [Ax,CN];have:=fold_list c i.toNat #[]
  simpa using this
def aA(b:Int)(v:Nat):Str:=if b % 3=2 then Txt.mul ⟨#[sgn<|b / 64+(v:Int) / 8]⟩ (1+(v:Int) % 8) else nm b (b / 8 % (1+b % 8)) v (1+b % 8).toNat
theorem WT{b:Int}{u v:Nat}(hu:u < 36)(hv:v < 36)(h:aA b u=aA b v):u=v:=by
 have s0:0<=b % 8:=Bs _ (by decide);unfold aA at h
 by_cases c:b % 3=2
 ·rw [BP c,BP c] at h;have u0:0<=(u:Int) % 8:=Bs _ (by decide);have v0:0<=(v:Int) % 8:=Bs _ (by decide);have e:(Txt.mul ⟨#[sgn<|b / 64+(u:Int) / 8]⟩<|1+(u:Int) % 8).cps.toList=(Txt.mul ⟨#[sgn<|b / 64+(v:Int) / 8]⟩<|1+(v:Int) % 8).cps.toList:=by rw [h]
  rw [mul_list _ (by omega),mul_list _<|by omega] at e;have l:=BX List.length e;rw [Ci,Ci] at l;have hd:(List.replicate (1+(u:Int) % 8).toNat<|sgn<|b / 64+(u:Int) / 8)[0]?=(List.replicate (1+(v:Int) % 8).toNat<|sgn<|b / 64+(v:Int) / 8)[0]?:=by rw [e]
  rw [Ec,Ec,BP (by omega),BP<|by omega] at hd;have q:=Ma<|Option.some.inj hd;omega
 ·rw [BL c,BL c] at h;refine WR hu hv (Bs _<|by omega) ?_ h;have:=Bx (b / 8) (show 0 < 1+b % 8 by omega);omega
def namesOf(b:Int)(m:Nat):List Str:=(List.range m).map<|aA b
theorem wv{b:Int}{m:Nat}(h:m<=36):(namesOf b m).Nodup:=by
 unfold namesOf;refine KH _ (R:=λi j=>i < j/\j < m) ?_ ?_
 ·rintro i j ⟨h1,h2⟩ e;have:=WT (by omega) (by omega) e;omega
 ·rw [Az];intro i j hi hj gu;simp only [PN];simp at hj;exact⟨gu,hj⟩
theorem wx(b:Int)(m:Nat):namesOf b (m+1)=namesOf b m++[aA b m]:=by
 unfold namesOf;rw [Dx,Ak];rfl
theorem AZ(b:Int)(m:Nat):(namesOf b m).length=m:=by unfold namesOf;simp
theorem WU{b:Int}{m i:Nat}(h:i < m):(namesOf b m)[i]?=some (aA b i):=by
 unfold namesOf;rw [Ad,Dm h];rfl
end Nt
namespace F3
open PySem L2 Nt
def top(i:Nat):Stmt:=PySem.Challenge.pw_threewebs_k13_whole_the_other_nets_other.main.body.getD i<|.Pass ⟨0,0,0,0⟩
abbrev wy:Stmt:=top 1
abbrev wz:Stmt:=top 2
abbrev A0:Stmt:=top 3
abbrev A1:Stmt:=top 4
abbrev wA:Stmt:=top 5
abbrev wB:Stmt:=top 6
abbrev A2:Stmt:=top 8
abbrev A3:Stmt:=top 9
abbrev nQ:Stmt:=top 11
abbrev wC:Stmt:=top 20
abbrev A4:Stmt:=top 22
abbrev mj:Stmt:=top 23
abbrev sK:Stmt:=top 24
abbrev wD:Stmt:=top 25
abbrev A5:Stmt:=top 26
abbrev wF:Stmt:=top 27
abbrev wG:Stmt:=top 28
abbrev A6:Stmt:=top 29
abbrev A7:Stmt:=top 30
abbrev A8:Stmt:=top 32
abbrev nR:Stmt:=top 33
abbrev A9:Stmt:=top 34
abbrev BA:Stmt:=top 35
abbrev BD:Stmt:=top 36
abbrev BE:Stmt:=top 37
abbrev BF:Stmt:=top 38
abbrev nS:Stmt:=top 39
abbrev nU:Stmt:=top 40
abbrev wH:Stmt:=top 41
abbrev wI:Stmt:=top 42
abbrev nV:Stmt:=top 43
abbrev iu:Stmt:=top 44
structure Txt(mg:Str->Option Value):Prop where
 WV:mg "isinstance" = none
 BG:mg "tuple" = none
 sM:mg "str" = none
 kE:mg "int" = none
 Mb:mg "bool" = none
 sO:mg "list" = none
 sP:mg "dict" = none
 sQ:mg "set" = none
 enum:mg "enumerate" = none
 zip:mg "zip" = none
 len:mg "len" = none
 range:mg "range" = none
 sorted:mg "sorted" = none
 max:mg "max" = none
 all:mg "all" = none
 WW:mg "ValueError" = none
 signs:∃ u,mg "SIGNS" = some u/\RelV (.str lets) u
 most:∃ u,mg "LONGEST" = some u/\RelV (.int 8) u
open bM
theorem small{n:Nat}(h:n<=100000):n<=sizeLine:=by rw [DQ];omega
theorem bU{n:Nat}(h:n<=100000):n < sizeLine:=by rw [DQ];omega
theorem aP{H:Hp}{p:Addr}(h:H p=none)(o:HO):aj H (upd H p o):=λb u q=>by rw [av<|bF q h];exact q
theorem c8{H1 H2:Hp}{r:Addr}{o:HO}(s:aj H1 H2)(h:H1 r=none):aj H1 (upd H2 r o):=λb u q=>by
 rw [av<|bF q h];exact s _ _ q
theorem Md{H:Hp}{l:Addr}{zs:List Str}{y:Str}:upd H l (.lst<|zs.map V.str++[V.str y])=upd H l (Ls<|zs++[y]):=by
 show _=upd H l (.lst<|(zs++[y]).map V.str);rw [Ak];rfl
def wJ(K:PySem.W.Frag):Sp:=λvs H Q _=>∃(a:Addr) (ns:List Int) (k:Int),vs=[.ref a,.int k]/\ai K H a (ns.map V.int)/\0<=k/\∀ i,Q (.int i) H
def BH(K:PySem.W.Frag):Sp:=λvs H Q _=>∃(a:Addr) (ns:List Int) (k:Int),vs=[.ref a,.int k]/\ai K H a (ns.map V.int)/\0<=k/\∀ i H',aj H H'->Q (.int i) H'
def BI:Sp:=λvs H Q _=>∃(b m:Int),vs=[.int b,.int m]/\0<=m/\m<=36/\∀ l H',aj H H'->H l=none->H' l=some (Ls<|namesOf b m.toNat)->Q (.ref l) H'
def BM:Sp:=λvs H Q _=>∃(R:Addr) (as:List<|Addr×Addr) (n:Net),vs=[.ref R]/\ah H R as n/\n.length<=1000/\(ag n).length<=1000/\∀ d ks H',aj H H'->H d=none->bN H' d n ks->Q (.ref d) H'
def BO:Sp:=λvs H Q _=>∃(R d t:Addr) (as:List<|Addr×Addr) (n:Net) (ks:List Str) (e:Nt.End),vs=[.ref R,.ref d,.ref t]/\ah H R as n/\bN H d n ks/\ay n/\H t=some (Tp e)/\e∈ends n/\∀ u,H u=some (Tp<|other n e)->Q (.ref u) H
def BQ:Sp:=λvs H Q _=>∃(R d t:Addr) (as:List<|Addr×Addr) (n:Net) (ks:List Str) (e:Nt.End),vs=[.ref R,.ref d,.ref t,.int 1]/\ah H R as n/\bN H d n ks/\ay n/\H t=some (Tp e)/\e∈ends n/\∀ u H',aj H H'->H u=none->H' u=some (Tp<|step n e)->Q (.ref u) H'
def BU:Sp:=λvs H Q _=>∃(R d t:Addr) (as:List<|Addr×Addr) (n:Net) (ks:List Str) (e:Nt.End),vs=[.ref R,.ref d,.ref t]/\ah H R as n/\bN H d n ks/\ay n/\H t=some (Tp e)/\e∈ends n/\(ends n).length<=1000 /\
 ∀ l ts fs H',aj H H'->H l=none->H' l=some (.lst<|ts.map V.ref)->Pd H' ts fs->cQ n e fs->Q (.ref l) H'
section
variable{P:Program}{w:World}{K:PySem.W.Frag}{mg:Str->Option Value}{base:Heap}
theorem WX:al ["_law_script","_law_k"] ["_law_script","_law_k"] (aQ A8):=⟨rfl,rfl,rfl,by decide +kernel,rfl,by decide +kernel,by decide +kernel⟩
theorem WY{ns:List Int}{k:Int}(h0:0<=k)(h1:k < (ns.length:Int)):∃ v:Int,dG (ns.map V.int) k=some (.int v):=by
 have hj:k.toNat < ns.length:=by omega
 have q:=i5 (xs:=ns.map V.int) (j:=k.toNat) (v:= .int ns[k.toNat]) (by simp [hj]);rw [show((k.toNat:Nat):Int)=k by omega] at q;exact⟨_,q⟩
theorem WZ{f:Addr}{fd:FuncData}(F:bH K "_law_cell_at" "_law_cell_at" A8 f fd)(T:Txt mg):aE P w K mg base bJ 1 f fd ["_law_script","_law_k"] (wJ K):=by
 refine F.gb WX (λvs H Q E h=>?_) λb0 H vs Q E hr h=>?_
 ·obtain⟨a,ns,k,rfl,_⟩:=h;rfl
 obtain⟨a,ns,k,rfl,hS,h0,q⟩:=h;show Run _ _ _ [some<|.ref a,some<|.int k] H;refine cY<|cD yJ<|ae 1<|bL cm T.len CP<|ak<|ae 0<|aq ⟨a,_,rfl,.inl hS,_,_,rfl,rfl,_,rfl,?_⟩;refine ie (λc=>?_) λc=>?_
 ·have c':=BZ c;obtain⟨v,hv⟩:=WY (ns:=ns) h0 (by rw [Aa] at c';exact c');exact bT<|aS cf<|ae 0<|ae 1 ⟨a,_,_,.int v,rfl,rfl,hS,hv,q v⟩
 ·exact a8<|bT<|aB<|q 0
abbrev nW:List V:=[.int 48271,.int 69621,.int 16807,.int 39373,.int 21401,.int 60493,.int 87721,.int 31337]
abbrev fK:List V:=[.int 99991,.int 99989,.int 99971,.int 99961,.int 99929,.int 99923,.int 99907,.int 99901]
theorem eight{i:Int}(h0:0<=i)(h1:i < 8):i=0\/i=1\/i=2\/i=3\/i=4\/i=5\/i=6\/i=7:=by
 obtain⟨k,rfl⟩:=Int.eq_ofNat_of_zero_le h0;exact(by decide:∀ k:Fin 8,(k.1:Int)=0\/(k.1:Int)=1\/(k.1:Int)=2\/(k.1:Int)=3\/(k.1:Int)=4\/(k.1:Int)=5\/(k.1:Int)=6\/(k.1:Int)=7) ⟨k,Int.ofNat_lt.mp h1⟩
theorem W0{i:Int}(h0:0<=i)(h1:i < 8):∃ m:Int,dG nW i=some (.int m)/\0 < m/\m < 100000:=by
 rcases eight h0 h1 with rfl | rfl | rfl | rfl | rfl | rfl | rfl | rfl <;> exact⟨_,rfl,by decide,by decide⟩
theorem W1{i:Int}(h0:0<=i)(h1:i < 8):∃ m:Int,dG fK i=some (.int m)/\0 < m/\m < 100000:=by
 rcases eight h0 h1 with rfl | rfl | rfl | rfl | rfl | rfl | rfl | rfl <;> exact⟨_,rfl,by decide,by decide⟩
theorem mq:al ["_law_script","_law_at","_law_by","_law_prime","_law_cell","_law_big_here","_law_k","_law_one"] ["_law_script","_law_at"] (aQ nR):=⟨rfl,rfl,rfl,by decide +kernel,rfl,by decide +kernel,by decide +kernel⟩
theorem W2{f:Addr}{fd:FuncData}(F:bH K "_law_big" "_law_big" nR f fd)(T:Txt mg)(G:aV P w K mg base 1 "_law_cell_at" ["_law_script","_law_k"]<|wJ K) :
  aE P w K mg base bJ 2 f fd ["_law_script","_law_at"] (BH K):=by
 refine F.gb mq (λvs H Q E h=>?_) λb0 H vs Q E hr h=>?_
 ·obtain⟨a,ns,k,rfl,_⟩:=h;rfl
 obtain⟨a,ns,k,rfl,hS,h0,q⟩:=h;have nd:=mq.nd;show Run _ _ _ [some<|.ref a,some<|.int k,none,none,none,none,none,none] H;refine aX 2 nd (dH<|ak<|aB<|ak<|aB<|ak<|aB<|ak<|aB<|ak<|aB<|ak<|aB<|ak<|aB<|ak<|aB<|aq ⟨(by show 8<=sizeLine;decide),λp hp=>?_⟩);refine aX 3 nd (dH<|ak<|aB<|ak<|aB<|ak<|aB<|ak<|aB<|ak<|aB<|ak<|aB<|ak<|aB<|ak<|aB<|aq ⟨(by show 8<=sizeLine;decide),λp2 ii=>?_⟩);have W3:p≠p2:=by
  intro e;rw [<- e,aw] at ii;cases ii
 have s1:aj H (upd H p<|.tup nW):=aP hp _;have s2:aj H (upd (upd H p<|.tup nW) p2<|.tup fK):=s1.trans<|aP ii _;have e1:(upd (upd H p<|.tup nW) p2<|.tup fK) p=some (.tup nW):=by rw [av W3,aw]
 have e2:(upd (upd H p<|.tup nW) p2<|.tup fK) p2=some (.tup fK):=aw;generalize upd (upd H p<|.tup nW) p2 (.tup fK)=H2 at s2 e1 e2 ⊢;refine aX 4 nd<|bK G hr<|ak<|ae 0<|ak<|ae 1<|aq ⟨a,ns,k,rfl,s2.seq hS,h0,λb=>?_⟩;show Run _ _ _ [some<|.ref a,some<|.int k,some<|.ref p,some<|.ref p2,some<|.int b,none,none,none] H2;refine Ko True True (λR qq=>?_) (λ_=>?_) λ_=>a8 ?_
 ·refine lX (Km<|cD i0<|aW cT<|ae 4<|aB ⟨_,_,rfl,rfl,(by show(0:Int) < 2;decide),aB ⟨rfl,_,rfl,?_⟩⟩);refine ie (λc=>?_) (λc=>qq false (λz=>nomatch z) λ_=>trivial);exact Kn<|cD Jk<|ae 4<|aW Jg<|aB<|aB ⟨_,_,rfl,rfl,⟨by decide,by decide,by decide⟩,_,_,rfl,rfl,_,rfl,qq _ (λ_=>trivial) λ_=>trivial⟩
 ·exact bT<|aW gM<|ae 4<|aB ⟨_,_,rfl,rfl,⟨by decide,by decide⟩,q _ _ s2⟩
 refine aX 5 nd<|aB ?_;refine jO T.range<|aB ⟨60,rfl,by decide,by decide,jP (n:=60) (λ_ σ H3=>H3=H2/\∃(x:Int) (u v:Option V),σ=[some<|.ref a,some<|.int k,some<|.ref p,some<|.ref p2,some<|.int b,some<|.int x,u,v]) ⟨rfl,0,_,_,rfl⟩ ?_ ?_⟩
 ·rintro i σ H3 hi ⟨rfl,x,u,v,rfl⟩;have i9:0<=(0+(i:Int)) % 9:=Bs _ (by decide);obtain⟨m1,f1,g1,g2⟩:=W0 (i:=(0+(i:Int)) % 8) (Bs _<|by decide) (Bx _<|by decide);obtain⟨m2,f2,g3,g4⟩:=W1 (i:=(0+(i:Int)) % 8) (Bs _<|by decide) (Bx _<|by decide);refine bb 6 nd ?_;refine aX 7 nd<|aW d9<|aW d9<|aW cT<|bK G hr<|ak<|ae 0<|ak<|aW d9<|ae 1<|aW cT<|ae 6<|aB ?_;refine⟨_,_,rfl,rfl,(by show(0:Int) < 9;decide),_,_,rfl,rfl,aq ⟨a,ns,_,rfl,s2.seq hS,?_,λc=>?_⟩⟩
  ·show 0<=k+(0+(i:Int)) % 9;omega
  refine aW Jg (aB<|aB ⟨_,_,rfl,rfl,⟨by decide,by decide,by decide⟩,_,_,rfl,rfl,(by show(0:Int) < 10 ^ (18:Int).toNat;decide),aB ⟨_,_,rfl,rfl,?_⟩⟩);refine aW vM<|ae 6<|ae 6 ?_;refine⟨_,_,rfl,rfl,.inl ⟨by omega,by omega⟩,_,_,rfl,rfl,?_⟩;refine aX 5 nd (aW d9<|aW vM<|ae 5<|aB ⟨_,_,rfl,rfl,.inr ⟨by decide,by decide⟩,?_⟩);refine aW cT (aW cT<|aW vM<|ae 7<|aS bW<|ae 2<|aW cT<|ae 6<|aB ⟨_,_,rfl,rfl,(by show(0:Int) < 8;decide),p,_,_,_,rfl,rfl,aJ.of e1,f1,_,_,rfl,rfl,.inr ⟨by omega,by omega⟩,?_⟩);refine aS bW (ae 3<|aW cT<|ae 6<|aB ⟨_,_,rfl,rfl,(by show(0:Int) < 8;decide),p2,_,_,_,rfl,rfl,aJ.of e2,f2,_,_,rfl,rfl,g3,aB ⟨_,_,rfl,rfl,(by show(0:Int) < 7919;decide),_,_,rfl,rfl,?_⟩⟩);exact a8 ⟨rfl,_,_,_,rfl⟩
 ·rintro σ H3 ⟨rfl,x,u,v,rfl⟩;exact bT<|ae 5<|q x _ s2
abbrev NN:List Str:=["_law_stem","_law_many","_law_signs","_law_size","_law_spot","_law_names_here","_law_v","_law_name","_law_k","_law_turn"]
theorem gW:al NN ["_law_stem","_law_many"] (aQ A9):=⟨rfl,rfl,rfl,by decide +kernel,rfl,by decide +kernel,by decide +kernel⟩
theorem W4{f:Addr}{fd:FuncData}(F:bH K "_law_names" "_law_names" A9 f fd)(T:Txt mg):aE P w K mg base bJ 1 f fd ["_law_stem","_law_many"] BI:=by
 refine F.gb gW (λvs H Q E h=>?_) λb0 H vs Q E hr h=>?_
 ·obtain⟨b,m,rfl,_⟩:=h;rfl
 obtain⟨b,m,rfl,m0,m1,q⟩:=h;have nd:=gW.nd;have s0:0<=b % 8:=Bs _ (by decide);have s1:b % 8 < 8:=Bx _ (by decide);show Run _ _ _ [some<|.int b,some<|.int m,none,none,none,none,none,none,none,none] H;refine aX 2 nd<|lV ?_;refine aX 3 nd (aW d9<|aB<|aW cT<|ae 0<|aB ⟨_,_,rfl,rfl,(by show(0:Int) < 8;decide),_,_,rfl,rfl,?_⟩);refine aX 4 nd (aW cT<|aW gM<|ae 0<|aB ⟨_,_,rfl,rfl,⟨by decide,by decide⟩,ae 3 ⟨_,_,rfl,rfl,(by show 0 < 1+b % 8;omega),?_⟩⟩);refine aX 5 nd<|cL<|aq ⟨Z0,λl hl=>?_⟩;show Run _ _ _ [some<|.int b,some<|.int m,some<|.str lets,some<|.int<|1+b % 8,some<|.int<|b / 8 % (1+b % 8),some<|.ref l,none,none,none,none] _;have spE:b / 8 % (1+b % 8)=b / 8 % (1+b % 8):=rfl;refine jO T.range<|ae 1 ⟨m,rfl,by omega,by omega,jP (n:=m.toNat) (λi σ H3=>H3=upd H l (Ls<|namesOf b i)/\∃ u1 u2 u3 u4,σ=[some<|.int b,some<|.int m,some<|.str lets,some<|.int<|1+b % 8,some<|.int<|b / 8 % (1+b % 8),some<|.ref l,u1,u2,u3,u4]) ⟨rfl,_,_,_,_,rfl⟩ ?_ ?_⟩
 ·rintro i σ H3 hi ⟨rfl,u1,u2,u3,u4,rfl⟩;refine bb 6 nd ?_;refine aX 7 nd<|lV ?_;refine jO T.range<|ae 3 ⟨_,rfl,by omega,by omega,jP (n:=(1+b % 8).toNat) (λj σ H4=>H4=upd H l (Ls<|namesOf b i)/\∃(u3 u4:Option V),σ=[some<|.int b,some<|.int m,some<|.str lets,some<|.int<|1+b % 8,some<|.int<|b / 8 % (1+b % 8),some<|.ref l,some<|.int<|0+(i:Int),some<|.str<|nm b (b / 8 % (1+b % 8)) i j,u3,u4]) ⟨rfl,_,_,rfl⟩ ?_ ?_⟩
  ·rintro j σ H4 hj ⟨rfl,v3,v4,rfl⟩;have t0:0<=b / 7 % 5:=Bs _ (by decide);have t1:b / 7 % 5 < 5:=Bx _ (by decide);have nl:(nm b (b / 8 % (1+b % 8)) i j).length=j:=by
    have:=BX List.length<|sJ b (b / 8 % (1+b % 8)) i j;show(nm b (b / 8 % (1+b % 8)) i j).cps.size=j
    simpa using this
   refine bb 8 nd ?_;refine aX 9 nd (aW d9<|aW gM<|ae 0<|aB ⟨_,_,rfl,rfl,⟨by decide,by decide⟩,aW vM<|ae 8<|aW cT<|aW gM<|ae 0<|aB ⟨_,_,rfl,rfl,⟨by decide,by decide⟩,aB ⟨_,_,rfl,rfl,(by show(0:Int) < 5;decide),?_⟩⟩⟩);refine⟨_,_,rfl,rfl,.inr ⟨by omega,by omega⟩,_,_,rfl,rfl,?_⟩;refine LI ((0+(j:Int))=b / 8 % (1+b % 8)) (¬(0+(j:Int))=b / 8 % (1+b % 8)) (λσ' H'=>H'=upd H l (Ls<|namesOf b i)/\σ'=[some<|.int b,some<|.int m,some<|.str lets,some<|.int<|1+b % 8,some<|.int<|b / 8 % (1+b % 8),some<|.ref l,some<|.int<|0+(i:Int),some<|.str<|nm b (b / 8 % (1+b % 8)) i j,some<|.int<|0+(j:Int),some<|.int<|turn b (b / 8 % (1+b % 8)) i j]) (λR qq=>?_) (λhc=>?_) (λhc=>a8 ⟨rfl,?_⟩) ?_
   ·refine cD i0<|ae 8<|ae 4 ⟨rfl,_,rfl,?_⟩
    by_cases hc:(0+(j:Int))=b / 8 % (1+b % 8)
    ·rw [BW (show V.int (0+(j:Int))=V.int (b / 8 % (1+b % 8)) by rw [hc])];exact qq true (λ_=>hc) λh=>by cases h
    ·rw [BR λh=>hc<|V.int.inj h];exact qq false (λh=>by cases h) λ_=>hc
   ·refine aX 9 nd<|aW d9<|ae 9<|ae 6 ⟨_,_,rfl,rfl,a8 ⟨rfl,?_⟩⟩;have e:b / 64+(0+(j:Int)) * (b / 7 % 5)+(0+(i:Int))=turn b (b / 8 % (1+b % 8)) i j:=by
     unfold turn;rw [BP (by omega),Dw,Dw]
    rw [<- e];rfl
   ·have e:b / 64+(0+(j:Int)) * (b / 7 % 5)=turn b (b / 8 % (1+b % 8)) i j:=by
     unfold turn;rw [BL (by omega),Dw,Int.add_zero]
    rw [<- e];rfl
   ·rintro σ' H' ⟨rfl,rfl⟩;refine aX 7 nd<|aW Jm<|ae 7<|aS Jy<|ae 2<|aW cT<|ae 9<|aB ⟨_,_,rfl,rfl,(by show(0:Int) < 36;decide),lets,_,sgn<|turn b (b / 8 % (1+b % 8)) i j,rfl,rfl,by decide +kernel,wu _,_,_,rfl,rfl,small (by show(nm b (b / 8 % (1+b % 8)) i j).length+1<=100000;omega),a8 ⟨rfl,_,_,rfl⟩⟩
  ·rintro σ H4 ⟨rfl,v3,v4,rfl⟩;refine LI (b % 3=2) (¬ b % 3=2) (λσ' H'=>H'=upd H l (Ls<|namesOf b i)/\σ'=[some<|.int b,some<|.int m,some<|.str lets,some<|.int<|1+b % 8,some<|.int<|b / 8 % (1+b % 8),some<|.ref l,some<|.int<|0+(i:Int),some<|.str<|aA b i,v3,v4]) (λR qq=>?_) (λhc=>?_) (λhc=>a8 ⟨rfl,?_⟩) ?_
   ·refine cD i0<|aW cT<|ae 0<|aB ⟨_,_,rfl,rfl,(by show(0:Int) < 3;decide),aB ⟨rfl,_,rfl,?_⟩⟩
    by_cases hc:b % 3=2
    ·rw [BW (show V.int (b % 3)=V.int 2 by rw [hc])];exact qq true (λ_=>hc) λh=>by cases h
    ·rw [BR λh=>hc<|V.int.inj h];exact qq false (λh=>by cases h) λ_=>hc
   ·have e0:0<=(0+(i:Int)) % 8:=Bs _ (by decide);have e1:(0+(i:Int)) % 8 < 8:=Bx _ (by decide);refine aX 7 nd (aW UZ<|aS Jy<|ae 2<|aW cT<|aW d9<|aW gM<|ae 0<|aB ⟨_,_,rfl,rfl,⟨by decide,by decide⟩,aW gM<|ae 6<|aB ⟨_,_,rfl,rfl,⟨by decide,by decide⟩,_,_,rfl,rfl,aB ⟨_,_,rfl,rfl,(by show(0:Int) < 36;decide),lets,_,sgn<|b / 64+(0+(i:Int)) / 8,rfl,rfl,by decide +kernel,wu _,?_⟩⟩⟩);refine aW d9 (aB<|aW cT<|ae 6<|aB ⟨_,_,rfl,rfl,(by show(0:Int) < 8;decide),_,_,rfl,rfl,?_⟩);refine⟨_,_,rfl,rfl,by omega,by omega,?_,a8 ⟨rfl,?_⟩⟩
    ·show 1 * _<=_;omega
    ·have e:Txt.mul ⟨#[sgn<|b / 64+(0+(i:Int)) / 8]⟩ (1+(0+(i:Int)) % 8)=aA b i:=by
      unfold aA;rw [BP hc,Dw]
     rw [<- e];rfl
   ·have e:nm b (b / 8 % (1+b % 8)) i (1+b % 8).toNat=aA b i:=by
     unfold aA;rw [BL hc]
    rw [<- e]
   ·rintro σ' H' ⟨rfl,rfl⟩;refine gR<|je<|ae 5 ⟨l,rfl,⟨_,aw⟩,ae 7 ⟨_,aw,?_,?_⟩⟩
    ·rw [Aa,AZ];exact bU<|by omega
    ·rw [vz];refine a8 ⟨?_,_,_,_,_,rfl⟩;rw [wx];exact Md
 ·rintro σ H3 ⟨rfl,u1,u2,u3,u4,rfl⟩;exact bT<|ae 5<|q l _ (aP hl _) hl aw
theorem W5{H:Hp}{d:Addr}{kvs:List (Key×V)}(h:H d=some (.dK kvs)):lP K "dict" (.ref d) H:=Or.inr<|Or.inr<|Or.inl ⟨rfl,Or.inl ⟨kvs,h⟩⟩
abbrev NS:List Str:=["_law_rows","_law_seats_here","_law_r","_law_place"]
theorem gX:al NS ["_law_rows"] (aQ BA):=⟨rfl,rfl,rfl,by decide +kernel,rfl,by decide +kernel,by decide +kernel⟩
theorem W6{f:Addr}{fd:FuncData}(F:bH K "_law_seats" "_law_seats" BA f fd)(T:Txt mg):aE P w K mg base bJ 1 f fd ["_law_rows"] BM:=by
 refine F.gb gX (λvs H Q E h=>?_) λb0 H vs Q E hr h=>?_
 ·obtain⟨R,as,n,rfl,_⟩:=h;rfl
 obtain⟨R,as,n,rfl,hR,hn,ht,q⟩:=h;have nd:=gX.nd;have bQ:=hR.len;show Run _ _ _ [some<|.ref R,none,none,none] H;refine aX 1 nd<|AT λd hd=>?_;refine jO T.range (bL cm T.len CP<|ak<|ae 0<|aq ⟨R,_,rfl,.inl<|ai.of<|aP hd _ _ _ hR.lst,_,rfl,by omega,by rw [Aa];omega,?_⟩);rw [Aa,bQ,Bm];refine jP (λr σ H3=>∃ kvs ks A u1 u2,aY H H3 d (bd<|n.take r) kvs ks A/\σ=[some<|.ref R,some<|.ref d,u1,u2]) ⟨_,_,_,_,_,aY.start hd,rfl⟩ ?_ ?_
 ·rintro r σ H3 hi ⟨kvs,ks,A',u1,u2,S,rfl⟩;rw [Dw];refine bb 2 nd ?_;obtain⟨a,ea,dN,et,el,er⟩:=(hR.same S.same).at hi;refine jO T.range<|bL cm T.len CP<|ak<|aS bW<|aS cf<|ae 0<|ae 2 ⟨R,_,_,.ref a.1,rfl,rfl,ai.of<|S.same _ _ hR.lst,dN,aB ⟨a.1,_,_,.ref a.2,rfl,rfl,aJ.of et,rfl,aq ⟨a.2,_,rfl,.inl<|ai.of el,_,rfl,by omega,?_,?_⟩⟩⟩
  ·have:(row n r).length<=1000:=by
    have h1:(row n r).length<=(ag n).length:=by
     exact fY n r
    omega
   rw [Aa];omega
  rw [Aa,Bm];refine jP (λp σ H4=>∃ kvs ks A u2,aY H H4 d (bd (n.take r)++bz r ((row n r).take p) 0) kvs ks A/\σ=[some<|.ref R,some<|.ref d,some<|.int (r:Int),u2]) ⟨kvs,ks,A',_,by simpa [bz] using S,rfl⟩ ?_ ?_
  ·rintro p σ H4 hp ⟨kvs,ks,A',u2,S,rfl⟩;rw [Dw];refine bb 3 nd ?_;obtain⟨a,ea,dN,et,el,er⟩:=(hR.same S.same).at hi;have hz:(row n r)[p]?=some (row n r)[p]:=Ab hp;generalize (row n r)[p]=z at hz;have next:bd (n.take r)++bz r ((row n r).take<|p+1) 0=(bd (n.take r)++bz r ((row n r).take p) 0)++[(z,(r,p))]:=by
    rw [nP hz,Ay]
   have hlen:kvs.length < sizeLine:=by
    have h1:ks.length<=1000:=by
     refine Cg (aK (b:=ag n) S.nodup λy hy=>?_) ht;have h2:=(S.mem y).mp hy;cases hA:A' y with
     | none=>rw [hA] at h2;cases h2
     | some pr=>
      obtain⟨a2,jW⟩:=pr;have h3:=S.some' y a2 jW hA;unfold bY at h3;obtain⟨x,hx⟩:=Fn _ h3;obtain⟨⟨y2,e2⟩,hm,_⟩:=Am.mp hx;rw [Da,EY] at hm;obtain⟨hm,rfl⟩:=hm;have:(y2,e2)∈bd n:=by
       rcases Aq.mp hm with hm | hm
       ·have q1:=aO.mp hm;refine aO.mpr ?_;have q2:=cg q1;unfold aG row at q1 ⊢;rw [Bo] at q2;rwa [Dy<|by omega] at q1
       ·have q1:=bf.mp hm;refine aO.mpr ?_;unfold aG;rw [q1.1];have q3:=q1.2.2;rw [Nat.sub_zero] at q3;have q4:=(Ac.mp q3).1;rw [Bo] at q4;rwa [Dy<|by omega] at q3
      exact fj<|aO.mp this
    have h2:=BX List.length S.keys;rw [Aa,Aa] at h2;exact bU<|by omega
   refine gR<|je<|AQ PySem.F.plainAttrs_dict PySem.F.slot_dict_setdefault PySem.F.type_dict_setdefault Wj<|ae 1 ⟨W5 S.dict,aS cf<|aS bW<|aS cf<|ae 0<|ae 2 ⟨R,_,_,.ref a.1,rfl,rfl,ai.of<|S.same _ _ hR.lst,dN,aB ⟨a.1,_,_,.ref a.2,rfl,rfl,aJ.of et,rfl,ae 3 ⟨a.2,_,_,.str z,rfl,rfl,ai.of el,sw hz,?_⟩⟩⟩⟩;refine cL<|aq ⟨Z0,λl0 kn=>?_⟩;have gn:d≠l0:=bF S.dict kn;refine⟨d,kvs,Sum.inr z,.ref l0,rfl,rfl,by rw [av gn];exact S.dict,hlen,?_⟩;cases hA:A' z with
   | some pr=>
    obtain⟨a2,jW⟩:=pr;obtain⟨q1,q2,q3,q4⟩:=S.at' z a2 jW hA;have wo:a2≠l0:=bF q3 kn;refine .inl ⟨.ref a2,by rw [S.val z,hA];rfl,a2,rfl,⟨_,by rw [av wo];exact q3⟩,?_⟩;refine dH<|ak<|ae 2<|ak<|ae 3<|aq ⟨Z2,λt iN=>?_⟩;have wq:a2≠t:=λe=>by rw [<- e,av wo,q3] at iN;cases iN
    refine⟨jW.map V.ref,by rw [av wq,av wo];exact q3,?_,?_⟩
    ·rw [Aa,q4.length];have h1:(bY (bd (n.take r)++bz r ((row n r).take p) 0) z).length<=100000:=by
      unfold bY;rw [Aa];refine Cg (RZ _ _) ?_;rw [Ag];have h2:(bd<|n.take r).length<=1000:=by
       have:=BX List.length<|jf (n.take r) 0;rw [Aa] at this;unfold bd;rw [this];exact Cg (AV n r) ht
      have h3:(bz r ((row n r).take p) 0).length<=1000:=by
       unfold bz;rw [Aa,List.length_zipIdx,Bo];have h1:(row n r).length<=(ag n).length:=by
        exact fY n r
       omega
      omega
     exact bU h1
    ·refine a8 ⟨kvs,ks,(λy=>if y=z then some (a2,jW++[t]) else A' y),_,?_,rfl⟩;rw [next];exact S.old (e:=(r,p)) hA kn iN
   | none=>
    refine .inr ⟨by rw [S.val z,hA];rfl,l0,rfl,⟨_,by rw [av gn.symm];exact aw⟩,?_⟩;refine dH<|ak<|ae 2<|ak<|ae 3<|aq ⟨Z2,λt iN=>?_⟩;have nO:l0≠t:=λe=>by rw [<- e,av gn.symm,aw] at iN;cases iN
    refine⟨[],by rw [av nO,av gn.symm,aw],by show 0 < sizeLine;decide,?_⟩;refine a8 ⟨putK kvs (Sum.inr z)<|.ref l0,ks++[z],(λy=>if y=z then some (l0,[t]) else A' y),_,?_,rfl⟩;rw [next];exact S.new (e:=(r,p)) hA kn iN
  ·rintro σ H4 ⟨kvs,ks,A',u2,S,rfl⟩;refine a8 ⟨kvs,ks,A',_,_,?_,rfl⟩;rw [ql hi];rwa [Ca] at S
 ·rintro σ H3 ⟨kvs,ks,A',u1,u2,S,rfl⟩;rw [Ca] at S;exact bT<|ae 1<|q d ks H3 S.same S.free S.whole
abbrev NO:List Str:=["_law_rows","_law_seats_here","_law_end","_law_pair"]
theorem gY:al NO ["_law_rows","_law_seats_here","_law_end"] (aQ BD):=⟨rfl,rfl,rfl,by decide +kernel,rfl,by decide +kernel,by decide +kernel⟩
theorem W7{f:Addr}{fd:FuncData}(F:bH K "_law_other" "_law_other" BD f fd)(T:Txt mg):aE P w K mg base bJ 1 f fd ["_law_rows","_law_seats_here","_law_end"] BO:=by
 refine F.gb gY (λvs H Q E h=>?_) λb0 H vs Q E hr h=>?_
 ·obtain⟨R,d,t,as,n,ks,e,rfl,_⟩:=h;rfl
 obtain⟨R,d,t,as,n,ks,e,rfl,hR,hS,hT,ht,he,q⟩:=h;have nd:=gY.nd;have hu:=hr.gm;obtain⟨z,hz⟩:=af.mp he;have aM:=cg hz;obtain⟨a,ea,dN,et,el,er⟩:=hR.at aM;obtain⟨kvs,h1,h2,h3⟩:=hS.dict;obtain⟨pa,ts,v1,v2,v3⟩:=h3 z<|fj hz;obtain⟨x,y,hp,Mf,wc⟩:=qk hT hz;rw [hp] at v3;cases v3 with
 | cons x1 v3=>
 cases v3 with
 | cons y1 v3=>
 cases v3;rename_i tx ty;show Run _ _ _ [some<|.ref R,some<|.ref d,some<|.ref t,none] H;have ji:=hr.u1;refine aX 3 nd<|kD ji<|ae 1<|aS cf<|aS bW<|aS cf<|ae 0<|aS bW<|ae 2<|aB ⟨t,_,_,.int (e.1:Int),rfl,rfl,aJ.of ht,rfl,R,_,_,.ref a.1,rfl,rfl,ai.of hR.lst,dN,aB ⟨a.1,_,_,.ref a.2,rfl,rfl,aJ.of et,rfl,?_⟩⟩;refine aS bW (ae 2<|aB ⟨t,_,_,.int (e.2:Int),rfl,rfl,aJ.of ht,rfl,a.2,_,_,.str z,rfl,rfl,ai.of el,sw hz,d,.ref pa,rfl,by rw [<- v1];exact bh.k (k:=Sum.inr z) h1,?_⟩);show Run _ _ _ [some<|.ref R,some<|.ref d,some<|.ref t,some<|.ref pa] H;refine bT<|aS cf<|ae 3<|lW LV T.kE JG<|ak<|ja (qi hu)<|aS cf<|ae 3<|aB ⟨pa,_,_,.ref tx,rfl,rfl,ai.of v2,rfl,ae 2 ⟨1,_,by decide,WN x1 ht,?_⟩⟩
 by_cases c:x=e
 ·rw [BW c];refine aq ⟨_,rfl,pa,[.ref tx,.ref ty],1,.ref ty,rfl,rfl,ai.of v2,rfl,q ty ?_⟩;have e1:other n e=y:=by unfold other;simp only [hz,hp];simp [c]
  rw [e1];exact y1
 ·rw [BR c];refine aq ⟨_,rfl,pa,[.ref tx,.ref ty],0,.ref tx,rfl,rfl,ai.of v2,rfl,q tx ?_⟩;have e1:other n e=x:=by unfold other;simp only [hz,hp];simp [c]
  rw [e1];exact x1
abbrev NT:List Str:=["_law_rows","_law_seats_here","_law_end","_law_turn","_law_other_here"]
theorem jj:al NT ["_law_rows","_law_seats_here","_law_end","_law_turn"] (aQ BE):=⟨rfl,rfl,rfl,by decide +kernel,rfl,by decide +kernel,by decide +kernel⟩
theorem W8{f:Addr}{fd:FuncData}(F:bH K "_law_step" "_law_step" BE f fd)(T:Txt mg)(G:aV P w K mg base 1 "_law_other" ["_law_rows","_law_seats_here","_law_end"] BO) :
  aE P w K mg base bJ 2 f fd ["_law_rows","_law_seats_here","_law_end","_law_turn"] BQ:=by
 refine F.gb jj (λvs H Q E h=>?_) λb0 H vs Q E hr h=>?_
 ·obtain⟨R,d,t,as,n,ks,e,rfl,_⟩:=h;rfl
 obtain⟨R,d,t,as,n,ks,e,rfl,hR,hS,hT,ht,he,q⟩:=h;have nd:=jj.nd;have ho:=dM hT he;obtain⟨z,hz⟩:=af.mp ho;have aM:=cg hz;have i4:=eN hz;obtain⟨a,ea,dN,et,el,er⟩:=hR.at aM;show Run _ _ _ [some<|.ref R,some<|.ref d,some<|.ref t,some<|.int 1,none] H;refine aX 4 nd<|bK G hr<|ak<|ae 0<|ak<|ae 1<|ak<|ae 2<|aq ⟨R,d,t,as,n,ks,e,rfl,hR,hS,hT,ht,he,λu hu=>?_⟩;show Run _ _ _ [some<|.ref R,some<|.ref d,some<|.ref t,some<|.int 1,some<|.ref u] H;refine bT<|dH<|ak<|aS bW<|ae 4<|aB ⟨u,_,_,.int ((other n e).1:Int),rfl,rfl,aJ.of hu,rfl,?_⟩;refine ak<|aW cT<|aW d9<|aS bW<|ae 4<|aB ⟨u,_,_,.int ((other n e).2:Int),rfl,rfl,aJ.of hu,rfl,ae 3 ⟨_,_,rfl,rfl,?_⟩⟩;refine bL cm T.len CP<|ak<|aS bW<|aS cf<|ae 0<|aS bW<|ae 4<|aB ⟨u,_,_,.int ((other n e).1:Int),rfl,rfl,aJ.of hu,rfl,R,_,_,.ref a.1,rfl,rfl,ai.of hR.lst,dN,aB ⟨a.1,_,_,.ref a.2,rfl,rfl,aJ.of et,rfl,aq ⟨a.2,_,rfl,.inl<|ai.of el,?_⟩⟩⟩;rw [Aa];refine⟨_,_,rfl,rfl,by omega,aq ⟨Z2,λp hp=>?_⟩⟩;refine q p _ (aP hp _) hp ?_;rw [aw];unfold Nt.step Nt.left;show some (HO.tup [.int ((other n e).1:Int),.int<|(((other n e).2:Int)+1) % ((row n (other n e).1).length:Int)])=some (HO.tup [.int ((other n e).1:Int),.int ((((other n e).2+1) % (row n (other n e).1).length:Nat):Int)]);rw [Int.natCast_emod];rfl
abbrev NF:List Str:=["_law_rows","_law_seats_here","_law_end","_law_face_here","_law_here"]
theorem jl:al NF ["_law_rows","_law_seats_here","_law_end"] (aQ BF):=⟨rfl,rfl,rfl,by decide +kernel,rfl,by decide +kernel,by decide +kernel⟩
def fG(n:Net)(e:Nt.End)(j:Nat):List Nt.End:=(List.range j).map λi=>it (step n) i e
theorem W9(n:Net)(e:Nt.End)(j:Nat):fG n e (j+1)=fG n e j++[it (step n) j e]:=by
 unfold fG;rw [Dx,Ak];rfl
theorem Xa{f:Addr}{fd:FuncData}(F:bH K "_law_face" "_law_face" BF f fd)(T:Txt mg)(G:aV P w K mg base 2 "_law_step" ["_law_rows","_law_seats_here","_law_end","_law_turn"] BQ) :
  aE P w K mg base bJ 3 f fd ["_law_rows","_law_seats_here","_law_end"] BU:=by
 refine F.gb jl (λvs H Q E h=>?_) λb0 H vs Q E hr h=>?_
 ·obtain⟨R,d,t,as,n,ks,e,rfl,_⟩:=h;rfl
 obtain⟨R,d,t,as,n,ks,e,rfl,hR,hS,hT,ht,he,hb,q⟩:=h;have nd:=jl.nd;have hu:=hr.gm;obtain⟨k,k0,k1,k2⟩:=L4 (f:=step n) (S:=ends n) (λa ha=>jg hT ha) (λa ha b hb=>wm hT ha hb) he;show Run _ _ _ [some<|.ref R,some<|.ref d,some<|.ref t,none,none] H;refine aX 3 nd<|cL<|ak<|ae 2<|aq ⟨Z1,λl hl=>?_⟩;have g1:=aP hl<|.lst [.ref t];refine aX 4 nd<|bK G hr<|ak<|ae 0<|ak<|ae 1<|ak<|ae 2<|ak<|aB<|aq ⟨R,d,t,as,n,ks,e,rfl,hR.same g1,hS.same g1,hT,g1 _ _ ht,he,λu H1 s1 nu eu=>?_⟩;show Run _ _ _ [some<|.ref R,some<|.ref d,some<|.ref t,some<|.ref l,some<|.ref u] H1;refine wj (λm σ H2=>∃(j:Nat) (ts:List Addr) (u:Addr),m=k - j/\0 < j/\j<=k/\aj H H2/\H2 l=some (.lst<|ts.map V.ref)/\Pd H2 ts (fG n e j)/\H2 u=some (Tp<|it (step n) j e)/\(∀ i,0 < i->i < j->it (step n) i e≠e)/\σ=[some<|.ref R,some<|.ref d,some<|.ref t,some<|.ref l,some<|.ref u])
  (m0:=k - 1) ⟨1,[t],u,rfl,Gp,k0,g1.trans s1,s1 _ _ aw,.cons (s1 _ _<|g1 _ _ ht) .nil,eu,λi h1 h2=>by omega,rfl⟩ ?_
 rintro m σ H2 ⟨j,ts,u,rfl,j0,j1,sH,el,ep,eu,hf,rfl⟩;refine cD (mh hu) (ae 4<|ae 2 ⟨1,_,by decide,WO eu<|sH _ _ ht,_,rfl,?_⟩);have pl:=ep.length;have ol:(fG n e j).length=j:=by unfold fG;simp
 by_cases c:it (step n) j e=e
 ·rw [BW c];refine bp (bT<|ae 3<|q l ts (fG n e j) H2 sH hl el ep ⟨by omega,by omega,λi hi=>?_,by rw [ol];exact c,λi h1 h2=>hf i h1<|by omega⟩);unfold fG;rw [Ad,Dm<|by omega];rfl
 ·rw [BR c];have jk:j < k:=by
   rcases Cz j k with h | h
   ·exact h
   ·have:j=k:=by omega
    subst this;exact absurd k2 c
  refine bI (gR<|je<|ae 3 ⟨l,rfl,⟨_,el⟩,ae 4 ⟨_,el,by rw [Aa];exact bU (by omega),?_⟩⟩);have s2:aj H (upd H2 l<|.lst<|ts.map V.ref++[.ref u]):=c8 sH hl;have kt:∀ b f,H2 b=some (Tp f)->(upd H2 l<|.lst<|ts.map V.ref++[.ref u]) b=some (Tp f):=λb f h=>by
   rw [av<|sy h el];exact h
  have Mg:=kt u _ eu;refine aX 4 nd<|bK G hr<|ak<|ae 0<|ak<|ae 1<|ak<|ae 4<|ak<|aB<|aq ⟨R,d,u,as,n,ks,it (step n) j e,rfl,hR.same s2,hS.same s2,hT,Mg,jh (λa ha=>jg hT ha) he j,λv H3 s3 nv ev=>?_⟩;refine a8 ⟨k - (j+1),by omega,j+1,ts++[u],v,rfl,Eu _,jk,s2.trans s3,?_,?_,ev,λi h1 h2=>?_,rfl⟩
  ·rw [Ak];exact s3 _ _ aw
  ·rw [W9];exact(ep.keep λb f h=>s3 _ _<|kt b f h).append<|.cons (s3 _ _ Mg) .nil
  ·rcases Nat.lt_succ_iff_lt_or_eq.mp h2 with h | h
   ·exact hf i h1 h
   ·rw [h];exact c
end
end F3
namespace Nt
open PySem L2
def Full(n:Net):Prop:=(∃ nm,n=[(nm,[])])\/(n≠[]/\∀ i,i < n.length->row n i≠[])
def dP(n:Net)(c:End):Prop:=c.1 < n.length/\c.2 < max 1 (row n c.1).length
def ins(n:Net)(c:End)(z:Str):Net:=n.modify c.1 λr=>(r.1,r.2.take c.2++z :: r.2.drop c.2)
theorem fZ(n:Net)(c:End)(z:Str):(ins n c z).length=n.length:=by unfold ins;rw [List.length_modify]
theorem BV(n:Net)(c:End)(z:Str):(ins n c z).map (·.1)=n.map (·.1):=by
 unfold ins;refine Ed λi=>?_;rw [Ad,Ad,Fh];cases n[i]? with
 | none=>rfl
 | some r=>by_cases h:c.1=i <;> simp [h]
theorem qm(n:Net)(c:End)(z:Str)(i:Nat)(hc:c.1 < n.length):row (ins n c z) i=if c.1=i then(row n i).take c.2++z :: (row n i).drop c.2 else row n i:=by
 unfold row ins;rw [Fh]
 by_cases h:c.1=i
 ·subst h;rw [Ab hc];simp
 ·rw [BL h];cases n[i]? with
  | none=>simp [h]
  | some r=>simp [h]
theorem jX:∀(n:Net) (c:End) (z:Str),c.1 < n.length->(ag<|ins n c z).Perm (z :: ag n)
 | [],c,z,h=>by simp at h
 | a :: n,(0,p),z,h=>by
  unfold ins ag;simp only [List.modify_zero_cons,El];have:(a.2.take p++z :: a.2.drop p).Perm (z :: a.2):=by
   refine List.perm_middle.trans ?_;rw [Cq]
  exact this.append_right _
 | a :: n,(i+1,p),z,h=>by
  have ih:=jX n (i,p) z (by simpa using h);unfold ins ag at ih ⊢;simp only [List.modify_succ_cons,El];refine(ih.append_left a.2).trans ?_;exact List.perm_middle
theorem B0{n:Net}{c:End}{z:Str}(F:Full n)(hc:c.1 < n.length):n.length=1\/(∀ i,i < n.length->row n i≠[])->(∀ i,i < (ins n c z).length->row (ins n c z) i≠[])/\ins n c z≠[]:=by
 intro h;have hl:=fZ n c z;refine⟨λi hi=>?_,λe=>?_⟩
 ·rw [qm n c z i hc]
  by_cases q:c.1=i
  ·rw [BP q];simp
  ·rw [BL q]
   rcases h with h | h
   ·rw [hl] at hi;omega
   ·exact h i<|by omega
 ·rw [e] at hl;simp at hl;omega
theorem Full.some{n:Net}(F:Full n):n≠[]:=by
 rcases F with ⟨nm,rfl⟩ | h
 ·simp
 ·exact h.1
theorem Full.either{n:Net}(F:Full n):n.length=1\/(∀ i,i < n.length->row n i≠[]):=by
 rcases F with ⟨nm,rfl⟩ | h
 ·exact .inl rfl
 ·exact .inr h.2
theorem Full.cr{n:Net}(F:Full n)(h0:row n 0≠[]){c:End}(hc:dP n c):c∈ends n:=by
 rcases F with ⟨nm,rfl⟩ | h
 ·exact absurd rfl h0
 ·have:=h.2 c.1 hc.1;have hp:0 < (row n c.1).length:=By.mpr this;have aM:c.2 < (row n c.1).length:=by
   have:=hc.2;omega
  exact af.mpr<|sv aM
theorem Xb{n:Net}{e:End}(h:e∈ends n):dP n e:=by
 obtain⟨z,h⟩:=af.mp h;have:=eN h;exact⟨cg h,by omega⟩
def nX(H H':Hp)(bad:List Addr):Prop:=∀ b o,H b=some o->b∉bad->H' b=some o
theorem Mh(zs:List Str)(i:Nat)(z:Str):insertAt (zs.map V.str) i (.str z)=(zs.take i++z :: zs.drop i).map V.str:=by
 unfold insertAt;rw [Ak,Bd,Gr,Gs]
theorem ah.ins{H:Hp}{R:Addr}{as:List (Addr×Addr)}{n:Net}(h:ah H R as n){c:End}{z:Str}{a:Addr×Addr}(ha:as[c.1]?=some a)(hc:c.1 < n.length) :
  ah (upd H a.2<|Ls<|(row n c.1).take c.2++z :: (row n c.1).drop c.2) R as (Nt.ins n c z):=by
 have q0:=h.tup c.1 a n[c.1] ha<|Ab hc;have Xc:R≠a.2:=by
  intro e;have h1:=h.lst;rw [e,q0.2] at h1;have h2:=HO.lst.inj<|Option.some.inj h1;have h3:=BX List.length h2;cases hm:n[c.1].2 with
  | nil=>
   rw [hm] at h2;have:as.map (λa=>V.ref a.1)=[]:=h2.symm;have hl:=BX List.length this;rw [Aa,h.len] at hl;rw [hl] at hc;exact absurd hc<|Eh _
  | cons y r=>
   rw [hm] at h2;cases as with
   | nil=>simp at h2
   | cons b bs=>
    simp at h2
 have er:row n c.1=n[c.1].2:=by unfold row;rw [Ab hc];rfl
 refine⟨by rw [fZ];exact h.len,by rw [av Xc];exact h.lst,λi b r hb hr=>?_,h.inj⟩;unfold Nt.ins at hr;rw [Fh] at hr;cases hn:n[i]? with
 | none=>rw [hn] at hr;by_cases q:c.1=i <;> simp [q] at hr
 | some r0=>
  rw [hn] at hr;have q1:=h.tup i b r0 hb hn;have t1:b.1≠a.2:=b7 q1.1 q0.2 λe=>nomatch e
  by_cases q:c.1=i
  ·subst q;rw [Ab hc] at hn;cases hn;rw [ha] at hb;cases hb;simp at hr;subst hr;refine⟨by rw [av t1];exact q1.1,?_⟩;rw [aw,er]
  ·simp [q] at hr;subst hr;have t2:b.2≠a.2:=λe=>by
    have l1:i < as.length:=(Ac.mp hb).1;have l2:c.1 < as.length:=(Ac.mp ha).1;have x1:(as.map (·.2))[i]?=some b.2:=by rw [Ad,hb];rfl
    have x2:(as.map (·.2))[c.1]?=some a.2:=by rw [Ad,ha];rfl
    obtain⟨y1,z1⟩:=Ac.mp x1;obtain⟨y2,z2⟩:=Ac.mp x2;exact q<|(Gb (h₀:=y2) (h₁:=y1) h.inj).mp<|z2.trans<|e.symm.trans z1.symm
   exact⟨by rw [av t1];exact q1.1,by rw [av t2];exact q1.2⟩
theorem ah.more{H:Hp}{R t l:Addr}{as:List (Addr×Addr)}{n:Net}{pt:Str}{zs:List Str}(h:ah H R as n)(ht:H t=some (.tup [.str pt,.ref l]))(hl:H l=some (Ls zs))(hn:l∉as.map (·.2))(hR:l≠R) :
  ah (upd H R<|.lst<|as.map (λa=>V.ref a.1)++[.ref t]) R (as++[(t,l)]) (n++[(pt,zs)]):=by
 have bQ:=h.len;refine⟨by rw [Ag,Ag,bQ];rfl,by rw [aw,Ak];rfl,λi b r hb hr=>?_,?_⟩
 ·rcases Cz i as.length with c | c
  ·rw [Aw c] at hb;rw [Aw<|by omega] at hr;have q:=h.tup i b r hb hr;have t1:b.1≠R:=b7 q.1 h.lst λe=>nomatch e;have t2:b.2≠R:=by
    intro e;have h1:=h.lst;rw [<- e,q.2] at h1;have h2:=HO.lst.inj<|Option.some.inj h1;cases as with
    | nil=>simp at c
    | cons b' bs=>
     cases hm:r.2 with
     | nil=>rw [hm] at h2;simp at h2
     | cons y r=>rw [hm] at h2;simp at h2
   exact⟨by rw [av t1];exact q.1,by rw [av t2];exact q.2⟩
  ·have e:i=as.length:=by
    have:=(Ac.mp hb).1;rw [Ag] at this;simp at this;omega
   subst e;rw [Ba<|Al _] at hb;rw [bQ,Ba<|Al _] at hr;simp at hb hr;subst hb hr;have t1:t≠R:=b7 ht h.lst λe=>nomatch e;exact⟨by rw [av t1];exact ht,by rw [av hR];exact hl⟩
 ·rw [Ak,Co];exact⟨h.inj,by simp,λx hx y hy e=>by simp at hy;subst hy e;exact hn hx⟩
theorem ah.lists{H:Hp}{R:Addr}{as:List (Addr×Addr)}{n:Net}(h:ah H R as n){x:Addr×Addr}(hx:x∈as):∃ zs,H x.2=some (Ls zs):=by
 obtain⟨i,hi,e⟩:=Bz.mp hx;have hl:=h.len;exact⟨_,(h.tup i x (n[i]'(by omega)) (by rw [<- e];exact Ab hi)<|Ab<|by omega).2⟩
theorem ah.fresh{H:Hp}{R l:Addr}{as:List (Addr×Addr)}{n:Net}(h:ah H R as n)(hl:H l=none){x:Addr×Addr}(hx:x∈as):l≠x.2:=by
 obtain⟨zs,e⟩:=h.lists hx;exact(bF e hl).symm
theorem fm(n:Net):(ends n).length=(ag n).length:=by
 unfold ends bd;rw [Aa,<- jf n 0,Aa]
theorem cQ.ends{n:Net}(T:ay n){e:End}{fs:List End}(h:cQ n e fs)(he:e∈ends n):∀ c∈fs,c∈Nt.ends n:=by
 intro c hc;obtain⟨i,hi,e2⟩:=Bz.mp hc;have:=h.at' i hi;rw [Ab hi,e2] at this;rw [Option.some.inj this];exact jh (λa ha=>jg T ha) he i
theorem wK{n:Net}{c k:End}{z:Str}(hc:dP n c)(hk:k.1 < n.length):dP (ins n k z) c:=by
 refine⟨by rw [fZ];exact hc.1,?_⟩;rw [qm n k z c.1 hk];have:=hc.2
 split
 ·rw [Ag,At,Bo,Dj];omega
 ·exact this
def dbl(zs:List Str):List Str:=zs.flatMap λz=>[z,z]
theorem B3(y:Str):∀ zs:List Str,(dbl zs).count y=2 * zs.count y
 | []=>rfl
 | z :: r=>by
  unfold dbl;rw [El];have ih:=B3 y r;unfold dbl at ih;rw [List.count_append,ih,Dq,Dq,Dq,List.count_nil];omega
theorem eO{y:Str}{zs:List Str}:y∈dbl zs↔y∈zs:=by
 rw [<- QC,B3,<- QC];omega
theorem B4:∀ zs:List Str,(dbl zs).length=2 * zs.length
 | []=>rfl
 | z :: r=>by
  unfold dbl;rw [El,Ag];have ih:=B4 r;unfold dbl at ih;rw [ih,At];simp;omega
theorem Xd(zs:List Str)(z:Str):dbl (zs++[z])=dbl zs++[z,z]:=by
 unfold dbl;rw [Dg];rfl
theorem Mi{n:Net}{zs:List Str}(hn:zs.Nodup)(p:(ag n).Perm<|dbl zs):ay n:=λz hz=>by
 rw [p.count_eq,B3];have h1:z∈zs:=eO.mp<|p.mem_iff.mp hz;rw [hn.count,BP h1]
def NE(n:Net):Prop:=∀ r∈n,r.2≠[]
theorem kF{n:Net}{i:Nat}(h:i < n.length):row n i=n[i].2:=by unfold row;rw [Ab h];rfl
theorem Xe{n:Net}(h:NE n)(h0:n≠[]):Full n:= .inr ⟨h0,λi hi=>by rw [kF hi];exact h _<|Bw hi⟩
theorem Full.ne{n:Net}(h:Full n):(∃ nm,n=[(nm,[])])\/NE n:=by
 rcases h with h | ⟨_,h⟩
 ·exact .inl h
 ·refine .inr λr hr=>?_;obtain⟨i,hi,rfl⟩:=Bz.mp hr;have:=h i hi;rwa [kF hi] at this
theorem Mj:∀(n:Net) (k:Nat) (h:k < n.length),(ag n).Perm<|n[k].2++ag (n.eraseIdx k)
 | [],k,h=>by simp at h
 | a :: n,0,h=>by unfold ag;simp
 | a :: n,k+1,h=>by
  have ih:=Mj n k (by simpa using h);unfold ag at ih ⊢;simp only [El,List.getElem_cons_succ,RG];refine(ih.append_left a.2).trans ?_;rw [<- Ay,<- Ay];exact List.perm_append_comm.append_right _
theorem Xf(n:Net)(k:Nat)(h:k < n.length):(n.map (·.1)).Perm (n[k].1 :: (n.eraseIdx k).map (·.1)):=by
 have:=(bD.bS n k h).map (·.1);exact this.symm
theorem B5(zs:List Str)(i:Nat):(zs.drop i++zs.take i).Perm zs:=by
 refine Cr.trans ?_;rw [Cq]
theorem ah.upd{H:Hp}{R x:Addr}{as:List (Addr×Addr)}{n:Net}(h:ah H R as n){xs:List V}{o:HO}(hx:H x=some (.lst xs))(hR:R≠x)(ha:∀ a∈as,a.2≠x):ah (upd H x o) R as n:=by
 refine⟨h.len,by rw [av hR];exact h.lst,λi a r h1 h2=>?_,h.inj⟩;have q:=h.tup i a r h1 h2;exact⟨by rw [av<|b7 q.1 hx λe=>nomatch e];exact q.1,by rw [av<|ha a<|An h1];exact q.2⟩
theorem B6{α:Type}(l:List α)(k i:Nat):(l.eraseIdx k)[i]?=if i < k then l[i]? else l[i+1]?:=by
 rw [Fy]
theorem ah.erase{H:Hp}{R:Addr}{as:List (Addr×Addr)}{n:Net}(h:ah H R as n){k:Nat}(hk:k < n.length) :
  ah (L2.upd H R<|.lst<|(as.map λa=>V.ref a.1).eraseIdx k) R (as.eraseIdx k) (n.eraseIdx k):=by
 have hl:=h.len;refine⟨by rw [Ds,Ds,hl],?_,λi a r h1 h2=>?_,?_⟩
 ·rw [aw]
  congr 2
  refine Ed λi=>?_;rw [B6,Ad,Ad,Ad,B6]
  split <;> rfl
 ·rw [B6] at h1 h2;have q:H a.1=some (.tup [.str r.1,.ref a.2])/\H a.2=some (Ls r.2):=by
   by_cases c:i < k
   ·rw [BP c] at h1 h2;exact h.tup i a r h1 h2
   ·rw [BL c] at h1 h2;exact h.tup (i+1) a r h1 h2
  have t2:a.2≠R:=by
   intro e;have h3:=h.lst;rw [<- e,q.2] at h3;have h4:=HO.lst.inj<|Option.some.inj h3;cases as with
   | nil=>simp at hl;simp [<- hl] at hk
   | cons b bs=>
    cases hm:r.2 with
    | nil=>rw [hm] at h4;simp at h4
    | cons y r=>rw [hm] at h4;simp at h4
  exact⟨by rw [av<|b7 q.1 h.lst λe=>nomatch e];exact q.1,by rw [av t2];exact q.2⟩
 ·have:((as.eraseIdx k).map (·.2)).Sublist (as.map (·.2)):=(List.eraseIdx_sublist as k).map _;exact h.inj.sublist this
theorem Xg(zs:List Str)(i:Nat):fA (zs.map V.str) (some (i:Int)) none=(zs.drop i).map V.str:=by
 unfold fA;rw [HT.gN,HT.fz,Aa];rw [Dc (by rw [Dj,Aa];omega),Gs]
 rcases Nat.le_total i zs.length with h | h
 ·rw [Nat.min_eq_left h]
 ·rw [Nat.min_eq_right h,RV (by simp),RV<|by simpa using h]
theorem Xh(zs:List Str)(i:Nat):fA (zs.map V.str) none (some (i:Int))=(zs.take i).map V.str:=by
 unfold fA;rw [HT.gN,HT.fz,Aa,List.drop_zero,Nat.sub_zero,Gr]
 rcases Nat.le_total i zs.length with h | h
 ·rw [Nat.min_eq_left h]
 ·rw [Nat.min_eq_right h,Dc (by simp),Dc<|by simpa using h]
end Nt
namespace L2
open PySem PySem.Spec PyProof.Rows
theorem wL{X:Cx}{e tg iter:Expr}{ifs:List Expr}{scope:Scope}{pz:Pos}{gs:List Comprehension}{newAcc:Sem Value}{o0:Obj}{u0:Addr->HO}{inner:Value->Env->Sem Unit}{wi:TI}{σ:St}{H:Hp}{Q:VK}
  (gk:∀(Q:Value->Shared->Prop) (E:Value->Shared->Prop) (s:Shared),Q (.ref s.heap.objs.size) {s with heap:=s.heap.push o0}->wpAny (model X.prog X.w) X.A newAcc Q E s) (gd:∀(H:Hp) (h:Heap),sysModules < h.objs.size->ax X.prog X.w H (h.push o0) h.objs.size (u0 h.objs.size))
  (hC:∀ acc env,Clause e 0 tg iter ifs acc env<|inner acc env) (he:eval e X.env=comprehension e scope X.env pz newAcc false (eval iter X.env) none) (jT:clausesOf e=⟨tg,iter,ifs,0⟩ :: gs)
  (sc:Scope) (N N':List Str) (n:Nat) (hi:PI X tg iter wi)
  (h:wi σ H λJ H1=>∀ D,H1 D=none->∀ cl C s₀ H₀ ex,gj (fb X N' scope cl C s₀ H₀ ex) tg ifs (inner (.ref D)<|compEnvC scope cl C X.env) J (λ_ H'=>Q (.ref D) H') (σ++List.replicate n none)<|upd H1 D<|u0 D)
  (hc:X.calm=true) (iq:X.env.scope=sc) (hN:X.N=N) (hk:kj sc scope N N'=true) (hl:N'.length=N.length+n) (hs:∀ x,foldedSetIterable iter X.env x=pure x):Ev X e σ H Q:=by
 refine⟨λpins s I=>?_⟩;subst iq hN;have ck:=cb.of hk;rw [he];refine JQ (use:=none) jT hs (zu λx hx hf=>I.ok.has x.1<|ck.free x hx hf) ck.kind ck.names<|aI (hi pins s σ H _ I h) λv s1 h1=>aI h1 λlN s2 h2=>?_;obtain⟨it,fp,tn,J,H2,e,I2,T,eY,f2,q⟩:=h2;subst e;refine Ky gk gd (Q:=Q) (RR:=λacc C=>compPost (model X.prog X.w) X.A X.xe none (EP X pins σ Q) acc C) hc ck hl hC I2 T eY f2 q ?_;intro D C H' s' m IX hn hC c1 c2 c3 c4 qq;exact⟨m,hn,λh' eF=>⟨.ref D,H',IX.turned (t':=s'.toks) (λb o hb e=>eF.extBut b o hb e) hC (CG<|CG c1) (.inr c2) c3 c4,rfl,qq⟩⟩
section
variable{X:Cx}{pins:List (Addr×Obj)}{σ:St}{H:Hp}{s:Shared}
end
section
variable{X:Cx}{elt tg:Expr}{ifs:List Expr}{scope:Scope}{σ:St}{H:Hp}{N':List Str}{A a d:Addr}{xs:List V}{kvs:List (Key×V)}{after:Hp->Prop}
theorem iQ(Pv:Nat->St->Hp->Prop)(h0:Pv 0 σ H)(hl:∀ i σ' H',i<=xs.length->Pv i σ' H'->ai X.K H' a xs)
  (hs : ∀ i x σ' H', xs[i]? = some x → Pv i σ' H' → vZ X N' scope tg x σ' H' λσ2 H3 => v5 X N' scope ifs σ2 H3 λb H4 =>
   if b=true then vY X N' scope elt σ2 H4 λv H5=>∃ ys,H5 A=some (.lst ys)/\ys.length < sizeLine/\Pv (i+1) σ2 (upd H5 A<|.lst<|ys++[v]) else Pv (i+1) σ2 H4)
  (hd:∀ σ' H',Pv xs.length σ' H'->after H'):ki X N' scope tg ifs elt (pS X.K a) A after σ H:=by
 refine⟨λi m σ' H'=>m=xs.length - i/\i<=xs.length/\Pv i σ' H',⟨_,rfl,Bu _,h0⟩,?_⟩;rintro i m σ' H' ⟨rfl,hi,p⟩;have q:=hl i σ' H' hi p
 by_cases aM:i < xs.length
 ·refine .inr ⟨⟨xs,xs[i],q,by simp [aM]⟩,Pv<|i+1,λσ' H' p'=>⟨xs.length - (i+1),by omega,rfl,aM,p'⟩,λx H2 y=>?_⟩;obtain⟨e,y⟩:=y;subst e;exact hs i x σ' _ (y xs q) p
 ·have e:i=xs.length:=by omega
  subst e;exact .inl ⟨⟨xs,q,Al _⟩,hd σ' H' p⟩
theorem Xi(z:Str)(zs:List Str):vP (.str z) (zs.map V.str)=zs.contains z:=by
 unfold vP
 induction zs with
 | nil=>rfl
 | cons y r ih=>
  rw [Bd,Fp,ih,List.contains_cons]
  congr 1
  show cj (.str y) (.str z)=(z == y)
  by_cases h:y=z
  ·subst h;simp [cj]
  ·have h':z≠y:=λq=>h q.symm;show(y == z)=(z == y);rw [beq_eq_false_iff_ne.mpr h,beq_eq_false_iff_ne.mpr h']
theorem Xj(zs:List Str):(zs.map V.str).all i6=true:=by
 rw [De];intro x hx;obtain⟨z,_,rfl⟩:=Am.mp hx;rfl
theorem jm{e1 e2:Expr}{k:Nat}{pos:Pos}{t:Addr}{x y:V}{R:St->Hp->Prop}(hc:X.calm=true)(ht:aJ X.K H t [x,y])(h:Eg X e1 x σ H λσ1 H1=>Eg X e2 y σ1 H1 R)
  (hn:(assignEach [e1,e2] X.env).length=2:=by rfl) (cS:(assignEach [e1,e2] X.env).findIdx? (·.1)=none:=by rfl)
  (iM:(assignEach [e1,e2] X.env).map (·.2)=assign e1 X.env :: (assignEach [e2] X.env).map (·.2):=by rfl) (qo:(assignEach [e2] X.env).map (·.2)=assign e2 X.env :: (assignEach [] X.env).map (·.2):=by rfl) :
  Eg X (.Tuple [e1,e2] k pos) (.ref t) σ H R:=
 zG (Ja (t:=pQ (λv σ H Q=>Eg X e1 v σ H Q)<|pQ (λv σ H Q=>Eg X e2 v σ H Q) mZ) hc (rj nn (rj nn IZ qo) iM) hn cS) ⟨t,_,rfl,ht,rfl,_,_,rfl,h.mono λσ1 H1 h1=>⟨_,_,rfl,h1.mono λσ2 H2 q=>⟨rfl,q⟩⟩⟩
end
end L2
namespace PySem
theorem getAttr?_miss_list{prog:Program}{w:World}{A:Around}{E:Value->Shared->Prop}{s:Shared}{a:Addr}{o:Obj}{xs:Array Value}{k:Nat}{name:Str}{Q:Option Value->Shared->Prop}
  (hx:s.heap.get? a=some o) (hc:o.cls = .type "list") (im:o.data = .seq xs k) (hd:o.dict=none) (sR:typeLookup (.type "list") name=pure none) (sS:(["__module__","__name__","__qualname__","__doc__","__annotations__"]:List Str).contains name=false) (hA:A.handled=none)
  (h:∀ h' tk e,Heap.NewExcOf s.heap h' e "AttributeError"->Q none {s with heap:=h',toks:=tk}) (hsz:name.length+100<=sizeLine:=by size_fits) :
  wpAny (model prog w) A (getAttr? (.ref a) name) Q E s:=by
 obtain⟨c,dct,dat,sl⟩:=o;simp only at hc im hd;subst hc im hd;obtain⟨hp,g,d,tk,os⟩:=s;have hT:∀ wa,(⟨hp,g,d,wa,os⟩:Shared).TypeIs (.ref a) "list":=λ_=>⟨_,hx,rfl⟩;have f1:=sub_AttributeError;have f3:=F.slot_list_getattribute.lookup;have f4:=F.slot_list_getattribute.bind<|.ref a;have f5:=am_list_getattr_none;unfold getAttr? getAttrBy? getAttrBy
 repeat (any_goals (first | assumption | exact hT _ | ((with_reducible show wpAny _ _ (call (Value.builtin "list.__getattribute__") _ _) _ _ _);refine MJ F.slot_list_getattribute (hT _) am_entry_list_getattribute (F.args_list_getattribute_2 _ _) (meets_getattribute_miss_list a xs k sl name _ sR sS hsz) ⟨hx,hA,λh' wa e km=>?_⟩) | wp_step))
 obtain⟨t',u',he⟩:=km.there;show wpAny _ _ (getattributeRaised _ _ _ _ _ _ _) _ _ _;unfold getattributeRaised
 repeat (any_goals (first | assumption | wp_step))
 exact h _ _ _ km.of
namespace F
theorem bg:entryFor table "dict.update.loop" = some Builtin.«dict.update.loop»:=entryFor_of_tree<|by kernel_rfl
theorem aH:plainId "dict.update.loop" = true:=by decide +kernel
theorem eQ:typeLookup (.type "list") "keys" = pure none:=by rw [RM,LC];kernel_rfl
end F
section
variable{prog:Program}{w:World}{K:Type} [DecidableEq K] {knd:KeyKind prog w K} {A:Around} {R:Result->Shared->Prop}
def B7(knd:KeyKind prog w K)(h:Heap)(items:List Value)(fK:List<|K×Value):Prop:=
 items.length=fK.length/\∀(j:Nat) it,items[j]?=some it->∃ T key k v o n,it = .ref T/\fK[j]?=some (k,v)/\knd.is k key=true/\h.get? T=some o/\o.cls = .type "tuple"/\o.data = .seq #[key,v] n
theorem Xk(kvs:List<|K×Value)(k:K)(v:Value):(stored kvs k v).length<=kvs.length+1:=by
 unfold stored
 split
 ·rw [Aa];omega
 ·rw [Ag];simp
theorem Xl{hB:Heap}{d I l:Addr}{items:List Value}{fK:List (K×Value)}(hd:hB.objs.size<=d)(hI:hB.objs.size<=I)(B8:d≠I)(hl:hB.IsList l items.toArray)(hp:B7 knd hB items fK)(hn:items.length < sizeLine)(hh:A.handled=none) :
  ∀(k i:Nat) (s:Shared) (acc:List<|K×Value),items.length - i=k->i<=items.length->(∀ b o,hB.get? b=some o->s.heap.get? b=some o)->s.heap.IsListIter I l i->s.heap.DictOf knd d acc->acc.length<=i ->
   (∀ h' tk,(∀ b o,b≠I->b≠d->s.heap.get? b=some o->h'.get? b=some o)->h'.DictOf knd d ((fK.drop i).foldl (λa p=>stored a p.1 p.2) acc)->R (.ok<|.ret .none) {s with heap:=h',toks:=tk}) ->
   codeAny (model prog w) A (.builtin "dict.update.loop" ⟨[.ref d,.ref I,rawInt i,.none],[]⟩) R s:=by
 have nb:∀ b o,hB.get? b=some o->b≠I/\b≠d:=λb o e=>⟨Bt<|Bf (As e) hI,Bt<|Bf (As e) hd⟩;intro k
 induction k with
 | zero=>
  intro i s acc hk hi fM cS hD bQ hR;have rW:i=items.length:=by omega
  refine FJ F.bg ?_;rw [DX F.aH _];show wpAny _ A.in1 (pyNext (.ref I) >>= _) _ _ s;have iw:s.heap.IsList l items.toArray:=let ⟨o,ho,r⟩:=hl;⟨o,fM _ _ ho,r⟩
  refine BJ (wpAny_pyNext_list_end hh cS iw (by simp;omega) λh' eb=>?_);show wpAny _ A.in1 (Builtin.Dict.addKeywords d [] >>= _) _ _ _;refine BJ<|BK<|BK ?_;refine hR h' s.toks (λb o hb _ e=>eb b o hb e) ?_;rw [List.drop_eq_nil_of_le<|by have:=hp.1;omega];exact hD.extBut eb B8
 | succ k ih=>
  intro i s acc hk hi fM cS hD bQ hR;have aM:i < items.length:=by omega
  have hx:items[i]?=some items[i]:=Ab aM;obtain⟨T,key,kk,v,o,n,e1,e2,e3,e4,e5,e6⟩:=hp.2 i _ hx;rw [e1] at hx;refine FJ F.bg ?_;rw [DX F.aH _];show wpAny _ A.in1 (pyNext (.ref I) >>= _) _ _ s;have iw:s.heap.IsList l items.toArray:=let ⟨o,ho,r⟩:=hl;⟨o,fM _ _ ho,r⟩
  refine BJ (wpAny_pyNext_list_item cS iw (x:= .ref T) (by simpa using hx) λh' cw sb=>?_);have eT:h'.get? T=some o:=(sb.2 T (nb T o e4).1).trans<|fM _ _ e4;refine BJ<|CJ<|BJ<|wpAny_tryCatch ?_;unfold Builtin.Dict.pairItems;refine BJ<|JT (T:= "tuple") ⟨o,eT,e5⟩ ?_;rw [BP<|by decide];refine BJ<|JW (s:={s with heap:=h'}) eT e6<|BK ?_;show wpAny _ _ (holding [key,v]<|dictSet d key v) _ _ _;refine CJ (wpAny_dictSet_pairs (knd:=knd) (s:={s with heap:=h'}) (k:=kk) e3 (hD.extBut sb.extBut B8) (λh2 D2 Mk=>?_)<|by omega);refine BK ⟨IK F.aH _,?_⟩;have Ml:∀ b o,b≠I->b≠d->s.heap.get? b=some o->h2.get? b=some o:=λb o h1 h3 e=>(Mk.2 b h3).trans<|(sb.2 b h1).trans e;refine ih (i+1) {s with heap:=h2,toks:=s.toks+1} (stored acc kk v) (by omega) aM (λb o e=>Ml b o (nb b o e).1 (nb b o e).2<|fM _ _ e) (cw.extBut Mk.extBut<|CG B8) D2 (by have:=Xk acc kk v;omega) λh3 tk k3 D3=>?_;refine hR h3 tk (λb o h1 nD e=>k3 b o h1 nD<|Ml b o h1 nD e) ?_;have e7:fK.drop i=(kk,v) :: fK.drop (i+1):=by
   obtain⟨hj,e8⟩:=Ac.mp e2;rw [QM hj,e8]
  rw [e7];exact D3
theorem Xm{E:Value->Shared->Prop}{s:Shared}{Q:Value->Shared->Prop}{l:Addr}{ol:Obj}{nl:Nat}{items:List Value}{fK:List (K×Value)}(ho:s.heap.get? l=some ol)(hc:ol.cls = .type "list")(wM:ol.dict=none)(B9:ol.data = .seq items.toArray nl)(hp:B7 knd s.heap items fK)(hn:items.length < sizeLine)(hh:A.handled=none)
  (h:∀ h' tk,(∀ b o,s.heap.get? b=some o->h'.get? b=some o)->h'.DictOf knd s.heap.objs.size (fK.foldl (λa p=>stored a p.1 p.2) [])->Q (.ref s.heap.objs.size) {s with heap:=h',toks:=tk}) :
  wpAny (model prog w) A (call (.type "dict") [.ref l]) Q E s:=by
 refine callType_codes (Q₁:=λobj s₁=>obj = .ref s.heap.objs.size/\s₁={s with heap:=s.heap.push {cls:= .type "dict",data:= .dict #[]}}) F.kt_called_dict (F.kt_typeCall_dict_1 _) F.entry_dict_init (kt_code_dict_new _ ⟨rfl,rfl⟩) ?_;rintro obj s₁ ⟨rfl,rfl⟩;have gk:(s.heap.push {cls:= .type "dict",data:= .dict #[]}).DictOf knd s.heap.objs.size []:=Heap.DictOf.new s.heap;have iJ:(s.heap.push {cls:= .type "dict",data:= .dict #[]}).get? l=some ol:=Af _ ho;refine⟨gk.typeIs,F.args_dict_init_2 _ _,?_⟩;unfold Builtin.«dict.__init__»;refine BJ ?_;unfold Builtin.Dict.selfAndRest;refine BJ<|wpAny_notOrdered_dict gk.typeIs ?_;show wpAny _ _ (pure (s.heap.objs.size,[Value.ref l])) _ _ _;refine BK ?_;show wpAny _ _ (Builtin.Dict.updateFrom "dict.__init__" s.heap.objs.size (.ref l) [] .none) _ _ _;unfold Builtin.Dict.updateFrom;refine BJ<|JT (T:= "list") ⟨ol,iJ,hc⟩ ?_;rw [BP<|by decide];refine BJ (getAttr?_miss_list iJ hc B9 wM F.eQ (by decide) (by exact hh) λh' tk e ne=>?_);rw [BP (show(none:Option Value).isNone=true from rfl)];have kp:∀ b o,s.heap.get? b=some o->h'.get? b=some o:=λb o e=>ne.keeps b o<|Af _ e;refine BJ<|IV ?_;have hL:h'.IsList l items.toArray:=⟨ol,kp _ _ ho,hc,nl,B9⟩;refine BJ<|JX hL ?_;refine BK ⟨IK F.aH _,?_⟩;have sU:h'.DictOf knd s.heap.objs.size []:=let ⟨o,es,ep,ho,r⟩:=gk;⟨o,es,ep,ne.keeps _ _ ho,r⟩
 have aM:s.heap.objs.size < h'.objs.size:=let ⟨o,es,ep,ho,r⟩:=sU;As ho
 refine Xl (hB:=s.heap) (d:=s.heap.objs.size) (I:=h'.objs.size) (l:=l) (Al _) (Ct aM) (Bt aM) ⟨ol,ho,hc,nl,B9⟩ hp hn (by exact hh) _ 0 _ [] rfl (Bu _) (λb o e=>Af _<|kp b o e) ⟨_,Ap _ rfl,rfl,rfl⟩ (sU.push _) (Bu _) λh2 B' k2 D2=>?_;refine⟨rfl,h h2 B' (λb o e=>k2 b o (Bt<|As<|kp b o e) (Bt<|As e)<|Af _<|kp b o e) D2⟩
end
end PySem
namespace L2
open PySem PySem.Spec PyProof.Rows
section
variable{X:Cx}{pins:List (Addr×Obj)}{σ:St}{H:Hp}{s:Shared}
theorem Xn{kvs:List (Key×V)}:∀{ps:List (Key×V)} {acc:List (Key×Value)} {rs:List (Key×Value)},KV ps acc->KV kvs rs->KV (kvs.foldl (λa p=>putK a p.1 p.2) ps) (rs.foldl (λa p=>stored a p.1 p.2) acc):=by
 induction kvs with
 | nil=>intro ps acc rs h g;cases g;exact h
 | cons p r ih=>
  intro ps acc rs h g;cases g with
  | @cons _ q _ r' hq hr=>
   obtain⟨e1,e2⟩:=hq;rw [Dp,Dp];refine ih ?_ hr;rw [<- e1];exact h.put p.1 e2
theorem Mm{P:Program}{w:World}{h:Heap}:∀{kvs:List (Key×V)} {ts:List Addr},ts.length=kvs.length->(∀(j:Nat) t kv,ts[j]?=some t->kvs[j]?=some kv->∃ key v o m,(bO P w).is kv.1 key=true/\RelV kv.2 v/\h.get? t=some o/\o.cls = .type "tuple"/\o.data = .seq #[key,v] m) ->
  ∃ rs:List<|Key×Value,KV kvs rs/\∀(j:Nat) t,ts[j]?=some t->∃ key k v o m,rs[j]?=some (k,v)/\(bO P w).is k key=true/\h.get? t=some o/\o.cls = .type "tuple"/\o.data = .seq #[key,v] m
 | [],ts,hl,_=>by
  have:ts=[]:=Be.mp hl;subst this;exact⟨[],.nil,λj t h=>by simp at h⟩
 | kv :: r,[],hl,_=>by simp at hl
 | kv :: r,t :: ts,hl,hp=>by
  obtain⟨key,v,o,m,q1,q2,q3,q4,q5⟩:=hp 0 t kv rfl rfl;obtain⟨rs,hk,hr⟩:=Mm (kvs:=r) (ts:=ts) (by simpa using hl) λj t kv h1 h2=>hp (j+1) t kv (by simpa using h1) (by simpa using h2);refine⟨(kv.1,v) :: rs,.cons ⟨rfl,q2⟩ hk,λj t' ht=>?_⟩;cases j with
  | zero=>
   cases ht;exact⟨key,kv.1,v,o,m,rfl,q1,q3,q4,q5⟩
  | succ j=>
   obtain⟨key,k,v,o,m,e,z⟩:=hr j t' (by simpa using ht);exact⟨key,k,v,o,m,by simpa using e,z⟩
theorem Xp(hc:X.calm=true):dE X (.type "dict") (λxs H Q=>∃(a:Addr) (ts:List Addr) (kvs:List<|Key×V),xs=[.ref a]/\H a=some (.lst<|ts.map V.ref)/\ts.length=kvs.length/\ts.length < sizeLine/\(∀(j:Nat) t kv,ts[j]?=some t->kvs[j]?=some kv->H t=some (.tup [kV kv.1,kv.2])) /\
  ∀ d,H d=none->Q (.ref d) (upd H d<|.dK<|kvs.foldl (λa p=>putK a p.1 p.2) [])):=by
 intro pins s σ H xs us Q I r h;obtain⟨a,ts,kvs,rfl,hH,hl,hz,ht,q⟩:=h;obtain⟨u,rfl,ru⟩:=vals1 r;cases (show u=Value.ref a from ru);obtain⟨z,its,n,rv,e⟩:=(show ax X.prog X.w H s.heap a (.lst<|ts.map V.ref) from I.aD a _ hH);have ku:=rv.length;rw [Aa] at ku;have nY:∀(j:Nat) t,ts[j]?=some t->its[j]?=some (.ref t):=λj t hj=>by
  obtain⟨u,hu,ru⟩:=rv.get (i:=j) (x:= .ref t) (by rw [Ad,hj];rfl);cases (show u=Value.ref t from ru);exact hu
 have pair:∀(j:Nat) t kv,ts[j]?=some t->kvs[j]?=some kv->∃ key v o m,(bO X.prog X.w).is kv.1 key=true/\RelV kv.2 v/\s.heap.get? t=some o/\o.cls = .type "tuple"/\o.data = .seq #[key,v] m:=λj t kv h1 h2=>by
  obtain⟨z2,dg,fX,o,eo,co,m,dm⟩:=(show ax X.prog X.w H s.heap t (.tup [kV kv.1,kv.2]) from I.aD t _<|ht j t kv h1 h2);obtain⟨key,v,e3,r1,r2⟩:=fX.two;refine⟨key,v,o,m,lS r1,r2,eo,co,?_⟩;rw [dm,e3]
 obtain⟨rs,hk,hr⟩:=Mm hl pair;have gy:=hk.length;have hP:B7 (bO X.prog X.w) s.heap its rs:=by
  refine⟨by omega,λj it hj=>?_⟩;have nZ:j < ts.length:=by have:=(Ac.mp hj).1;omega
  have Mp:ts[j]?=some ts[j]:=Ab nZ;have e2:=nY j _ Mp;rw [hj] at e2;obtain⟨key,k,v,o,m,q1,q2,q3,q4,q5⟩:=hr j _ Mp;exact⟨ts[j],key,k,v,o,m,Option.some.inj e2,q1,q2,q3,q4,q5⟩
 refine Xm (knd:=bO X.prog X.w) e rfl rfl rfl hP (by omega) (I.ok.hd hc) λh' tk kp D=>?_;have hlen:∀(l:List<|Key×V) (a:List<|Key×V),(l.foldl (λa p=>putK a p.1 p.2) a).length<=a.length+l.length:=by
  intro l
  induction l with
  | nil=>intro a;exact Al _
  | cons p r ih=>
   intro a;rw [Dp,At];have h1:=ih<|putK a p.1 p.2;have h2:=ig a p.1 p.2;omega
 have hb:=I.big;refine⟨.ref s.heap.objs.size,_,I.laid (t':=tk) kp (Al _) (show ax X.prog X.w _ h' _ (.dK<|kvs.foldl (λa p=>putK a p.1 p.2) []) from⟨?_,?_,_,Xn (kvs:=kvs) (ps:=[]) (acc:=[]) .nil hk,D⟩),rfl,q _<|I.aD.fresh<|Al _⟩
 ·have:=hlen kvs [];rw [Fb] at this;omega
 ·exact beq_eq_false_iff_ne.mpr<|Cy hb
end
section
variable{X:Cx}{pins:List (Addr×Obj)}{σ:St}{H:Hp}{s:Shared}{h':Heap}
theorem Inv.bE{t':Nat}{ch:List Addr}(I:Inv X pins σ H s)(hf:∀ b∈ch,bV X pins H b)(k:∀ b o,b∉ch->s.heap.get? b=some o->h'.get? b=some o):Inv X pins σ H {s with heap:=h',toks:=t'}:=by
 have rh:∀ b u,H b=some u->b∉ch:=λb u e z=>by rw [(hf b z).1] at e;cases e
 refine I.step (g':=s.gens) (d':=s.drawn) (ch:=ch) (λb hb=>?_) (λb o _ _ hc e _=>k b o hc e) (λb o _ _ hc e _=>⟨o.slots,k b o hc e⟩) (λ_ _ _ _ n=>n)
  (λb o hc e=>⟨o,k b o hc e⟩) (λ_ _ e=>e) (λ_ _ _ e=>e) (λb ps e=>⟨#[],by rw [e];simp⟩) (λm hm=>?_) (λb u e=>?_) I.bare
 ·obtain⟨f0,f1,f2,f3,f4,f5⟩:=hf b hb;exact⟨f3,f1,f4,f5⟩
 ·obtain⟨o,es,ep,ho,r⟩:=hm;exact⟨o,es,ep,k _ o (λz=>(hf _ z).2.1 rfl) ho,r⟩
 ·refine(I.aD b u e).f7 (λc v hc q=>k c v ?_ q) (λ_ q=>q) λ_ _ q=>q
  rcases hc with z | z
  ·rw [z];exact rh b u e
  ·exact rh c _ z
def wN(K:PySem.W.Frag)(a b:Addr):It:=
  ⟨λi H => ∃ xs ys x y, ai K H a xs ∧ ai K H b ys ∧ xs[i]? = some x ∧ ys[i]? = some y,
   λi H v H'=>∃ T x y,H T=none/\v = .ref T/\H'=upd H T (.tup [x,y])/\(∀ xs,ai K H a xs->xs[i]?=some x)/\∀ ys,ai K H b ys->ys[i]?=some y,
   λi H=>∃ xs ys,ai K H a xs/\ai K H b ys/\(xs.length<=i\/ys.length<=i)⟩
def Mq(m a b:Addr)(i:Nat)(h:Heap):Prop:=
 IsZip h (m+4) (m+2) (m+3) .none/\IsPair h (m+2) (.ref m) (.ref<|m+1)/\(∃ x y,IsPair h (m+3) x y)/\h.IsListIter m a i/\h.IsListIter (m+1) b i
theorem Mr{h:Heap}{m a b:Addr}{i:Nat}{xs ys:Array Value}(z:Mq m a b i h)(ha:h.IsList a xs)(hb:h.IsList b ys):ZipApart (m+4) (m+2) (m+3) m (m+1) a b:=by
  obtain⟨z1,z2,⟨x,y,z3⟩,⟨o4,e4,c4,_⟩,⟨o5,e5,c5,_⟩⟩:=z;have cls:∀{l:Addr} {vs:Array Value} {c:Addr} {o:Obj},h.IsList l vs->h.get? c=some o->o.cls ≠ .type "list"->l≠c:=λhl hc hn e=>by
    obtain⟨ol,sg,jT,_⟩:=hl;rw [e,hc] at sg;cases sg;exact hn jT
  exact { TIz := by simp, TOz := by simp, i1z := by simp, i2z := by simp, TITO := by simp, TIi1 := by simp, TIi2 := by simp, TOi1 := by simp, TOi2 := by simp, i12 := by simp
          l1z:=cls ha z1 (by show Value.type "zip"≠Value.type "list";decide),l1TO:=cls ha z3 (by show Value.type "tuple"≠Value.type "list";decide),l1i1:=cls ha e4 (by rw [c4];decide),l1i2:=cls ha e5<|by rw [c5];decide
          l2z:=cls hb z1 (by show Value.type "zip"≠Value.type "list";decide),l2TO:=cls hb z3 (by show Value.type "tuple"≠Value.type "list";decide),l2i1:=cls hb e4 (by rw [c4];decide),l2i2:=cls hb e5 (by rw [c5];decide)}
theorem Xq{P:Program}{w:World}{K:PySem.W.Frag}{elts:List Expr}{k:Nat}{tp:Pos}(m a b:Addr):Turn P w K (.Tuple elts k tp) (wN K a b) [m,m+1,m+2,m+3,m+4] (m+4) (Mq m a b) where
 mem:=by simp
 obj:=λi h st c hc=>by
  obtain⟨z1,z2,⟨x,y,z3⟩,⟨o4,e4,c4,d4⟩,⟨o5,e5,c5,d5⟩⟩:=st;simp only [Aj,Cb,FQ] at hc
  rcases hc with rfl | rfl | rfl | rfl | rfl
  ·exact⟨_,e4,λv z=>by rw [d4] at z;cases z⟩
  ·exact⟨_,e5,λv z=>by rw [d5] at z;cases z⟩
  ·exact⟨_,z2,λv z=>by cases z⟩
  ·exact⟨_,z3,λv z=>by cases z⟩
  ·exact⟨_,z1,λv z=>by cases z⟩
 keep:=λi h h' st kp=>by
  obtain⟨z1,z2,⟨x,y,z3⟩,⟨o4,e4,r4⟩,⟨o5,e5,r5⟩⟩:=st;exact⟨kp _ (by simp) _ z1,kp _ (by simp) _ z2,⟨x,y,kp _ (by simp) _ z3⟩,⟨o4,kp _ (by simp) _ e4,r4⟩,⟨o5,kp _ (by simp) _ e5,r5⟩⟩
 item:=by
  intro X hP hw hK hc i pins s σ H E I hf st hg;subst hP hw hK;obtain⟨xs,ys,x,y,dQ,wO,hx,hy⟩:=hg;obtain⟨jn,kG,p1,oa⟩:=I.list dQ;obtain⟨dg,fX,p2,wQ⟩:=I.list wO;obtain⟨u1,ji,CA⟩:=kG.get hx;obtain⟨u2,CB,Xr⟩:=fX.get hy;have D:=Mr st p1.isList p2.isList;obtain⟨z1,z2,⟨x0,y0,z3⟩,z4,z5⟩:=id st;refine wpAny_pyNext_zip_item D z1 z2 z3 z4 z5 p1.isList p2.isList (x:=u1) (y:=u2) (by simpa using ji) (by simpa using CB) λh' a1 a2 a3 a4 a5 a6 kp=>?_;have hT:H s.heap.objs.size=none:=I.aD.fresh<|Al _;have nT:∀ c∈[m,m+1,m+2,m+3,m+4],c≠s.heap.objs.size:=λc aZ=>by
   have:∃ o,s.heap.get? c=some o:=by
    obtain⟨o4,e4,_⟩:=z4;obtain⟨o5,e5,_⟩:=z5;simp only [Aj,Cb,FQ] at aZ
    rcases aZ with rfl | rfl | rfl | rfl | rfl
    ·exact⟨_,e4⟩
    ·exact⟨_,e5⟩
    ·exact⟨_,z2⟩
    ·exact⟨_,z3⟩
    ·exact⟨_,z1⟩
   obtain⟨o,e⟩:=this;exact Bt<|As e
  have I1:Inv X pins σ (upd H s.heap.objs.size<|.tup [x,y]) {s with heap:=s.heap.push {cls:= .type "tuple",data:= .seq #[u1,u2]}}:=
   I.laid (t':=s.toks) (λb o e=>Af _ e) (Al _) (show ax X.prog X.w _ _ _ (.tup [x,y]) from⟨Z2,[u1,u2],.cons CA<|.cons Xr .nil,⟨_,Ap _ rfl,rfl,_,rfl⟩⟩)
  have f1:∀ c∈[m,m+1,m+2,m+3,m+4],bV X pins (upd H s.heap.objs.size<|.tup [x,y]) c:=λc aZ=>⟨by rw [av<|nT c aZ];exact(hf c aZ).1,(hf c aZ).2⟩;have nK:∀ c o,c∉[m,m+1,m+2,m+3,m+4]->(s.heap.push {cls:= .type "tuple",data:= .seq #[u1,u2]}).get? c=some o->h'.get? c=some o:=λc o aZ e=>by
   rcases Gf e with ⟨ec,eo⟩ | e'
   ·rw [ec,eo];exact a5
   ·simp only [Aj,Cb,FQ,not_or] at aZ;exact kp c o aZ.2.2.2.2 aZ.2.2.2.1 aZ.1 aZ.2.1 e'
  have I2:=Inv.bE (h':=h') (t':=s.toks) I1 f1 nK;refine⟨_,rfl,wpAny_letOwnedTupleGo_zip (s:={s with heap:=h'}) a1 λh2 b1 sb=>?_⟩;have Xs:IsPair h' (m+2) (.ref m) (.ref<|m+1):=kp _ _ (by simp) (by simp) (by simp) (by simp) z2;have wR:∀ c o,c∉[m+4]->h'.get? c=some o->h2.get? c=some o:=λc o aZ e=>(sb.2 c<|by simpa using aZ).trans e;have I3:=Inv.bE (h':=h2) (t':=s.toks) I2 (ch:=[m+4]) (λc aZ=>f1 c<|by simp at aZ;simp [aZ]) wR;refine⟨.ref s.heap.objs.size,_,I3,rfl,⟨_,x,y,hT,rfl,rfl,λzs hz=>by rw [I.cz hz dQ];exact hx,λzs hz=>by rw [I.cz hz wO];exact hy⟩,?_,λc aZ=>(f1 c aZ).1⟩;have sx:∀ c o,c≠m+4->h'.get? c=some o->h2.get? c=some o:=λc o aZ e=>(sb.2 c aZ).trans e;obtain⟨o3,e3,r3⟩:=a3;obtain⟨o4,e4,r4⟩:=a4;exact⟨b1,sx _ _ (by simp) Xs,⟨u1,u2,sx _ _ (by simp) a2⟩,⟨o3,sx _ _ (by simp) e3,r3⟩,⟨o4,sx _ _ (by simp) e4,r4⟩⟩
 done:=by
  intro X hP hw hK hc i pins s σ H E I hf st hg;subst hP hw hK;obtain⟨xs,ys,dQ,wO,sV⟩:=hg;obtain⟨jn,kG,p1,oa⟩:=I.list dQ;obtain⟨dg,fX,p2,wQ⟩:=I.list wO;have l1:=kG.length;have l2:=fX.length;have D:=Mr st p1.isList p2.isList;obtain⟨z1,z2,⟨x0,y0,z3⟩,z4,z5⟩:=id st;refine wpAny_pyNext_zip_end (I.ok.hd hc) D z1 z2 z3 z4 z5 p1.isList p2.isList ?_ λh' kp=>⟨rfl,I.bE (t':=s.toks) (ch:=[m,m+1,m+2,m+3,m+4]) hf λc o aZ e=>?_⟩
  ·rcases sV with h | h
   ·exact .inl<|by simp;omega
   ·exact .inr<|by simp;omega
  ·simp only [Aj,Cb,FQ,not_or] at aZ;exact kp c o aZ.2.2.2.2 aZ.2.2.2.1 aZ.1 aZ.2.1 e
 self:=λ_ _ _ _ _ st h=>wpAny_pyIter_zip st.1 h
end
section
variable{X:Cx}
def CD(K:PySem.W.Frag)(ta:TA):TI:=λσ H R=>ta σ H λvs H1=>∃ a b,vs=[.ref a,.ref b]/\(∃ xs,ai K H1 a xs)/\(∃ ys,ai K H1 b ys)/\R (wN K a b) H1
theorem Mt{elts:List Expr}{k:Nat}{tp:Pos}{a b:Expr}{ta:TA}{p pos:Pos}(hg:Gl X "zip")(hm:X.mg "zip" = none)(ha:PA X [a,b] ta)(hs:starEach [a,b] X.env=[(false,eval a X.env),(false,eval b X.env)]:=by rfl)(qo:starEach [b] X.env=[(false,eval b X.env)]:=by rfl) :
  PI X (.Tuple elts k tp) (.Call (.Name "zip" p) [a,b] [] pos) (CD X.K ta):=by
 intro pins s σ H R I h;refine Call_ (lK I hg hm boot_zip<|GQ (aI (ha pos pins s σ H _ I h) λus s1 ⟨vs,H1,I1,r1,q1⟩=>?_) (by rw [hs,qo])<|by rw [qo];rfl);obtain⟨x,y,e,⟨xs,hx⟩,⟨ys,hy⟩,q⟩:=q1;subst e;obtain⟨u,v,rfl,ru,rv⟩:=r1.two;cases (show u=Value.ref x from ru);cases (show v=Value.ref y from rv);obtain⟨jn,kG,p1,oa⟩:=I1.list hx;obtain⟨dg,fX,p2,wQ⟩:=I1.list hy;refine call_zip_2 p1.isList p2.isList λh' a1 a2 a3 a4 a5 a6 kp=>?_;refine wpAny_pyIter_zip (s:={s1 with heap:=h'}) a1 ?_;refine⟨s1.heap.objs.size+4,[s1.heap.objs.size,s1.heap.objs.size+1,s1.heap.objs.size+2,s1.heap.objs.size+3,s1.heap.objs.size+4],_,_,H1,rfl,I1.kept (t':=s1.toks) kp,Xq s1.heap.objs.size x y,⟨a1,a2,⟨_,_,a3⟩,a4,a5⟩,λb hb=>?_,q⟩;have hle:s1.heap.objs.size<=b:=by
  simp only [Aj,Cb,FQ] at hb
  rcases hb with rfl | rfl | rfl | rfl | rfl <;> omega
 exact I1.ga hle<|I1.aD.fresh hle
end
def qp(elt t1 i1:Expr)(f1:List Expr)(t2 i2:Expr)(f2:List Expr)(scope:Scope)(pos:Pos)(acc:Value)(env:Env):Sem Unit:=do
 let x <- eval i2 env
 standAt i2.pos
 let x <- foldedSetIterable i2 env x
 let _ <- runOwn (.compStart (.ListComp elt [⟨t1,i1,f1,0⟩,⟨t2,i2,f2,0⟩] scope pos) 1 (<- holding [x]<|pyIter x) acc env) env
section
variable{X:Cx}{elt t1 i1 t2 i2:Expr}{f1 f2:List Expr}{scope:Scope}{pos:Pos}{σ:St}{H:Hp}{acc:Value}{env:Env}
theorem Xt:Clause (.ListComp elt [⟨t1,i1,f1,0⟩,⟨t2,i2,f2,0⟩] scope pos) 0 t1 i1 f1 acc env (qp elt t1 i1 f1 t2 i2 f2 scope pos acc env):=⟨rfl,λ_=>rfl,λ_ _ _=>rfl,λ_ _=>rfl,λ_ _ _=>rfl,λ_ _=>rfl,λit=>by
 unfold qp;simp only [bind_assoc,pure_bind];rfl⟩
theorem Xu:Clause (.ListComp elt [⟨t1,i1,f1,0⟩,⟨t2,i2,f2,0⟩] scope pos) 1 t2 i2 f2 acc env (emit elt acc env):=⟨rfl,λ_=>rfl,λ_ _ _=>rfl,λ_ _=>rfl,λ_ _ _=>rfl,λ_ _=>rfl,λ_=>rfl⟩
theorem Mu{wi:TI}{Q:St->Hp->Prop}(dI:X.xe=λ_ _=>False)(hc:X.calm=true)(hi:PI X t2 i2 wi)(h:wi σ H λJ H1=>gj X t2 f2 (emit elt acc X.env) J Q σ H1)
  (hs:∀ x,foldedSetIterable i2 X.env x=pure x:=by intro _;rfl):jQ X (qp elt t1 i1 f1 t2 i2 f2 scope pos acc X.env) σ H Q:=by
 refine⟨λpins s I=>?_⟩;unfold qp;refine BJ<|aI (hi pins s σ H _ I h) λx s1 h1=>?_;refine BJ<|FW<|BJ<|HJ (hs x)<|BJ<|CJ<|CT h1 (λlN s2 h2=>?_) λ_ _ e=>e;obtain⟨it,fp,tn,J,H2,e,I2,T,eY,sW,q⟩:=h2;subst e;refine BJ<|wpAny_runOwn (Q:=λ_ s'=>wpAny (model X.prog X.w) X.A (pure ()) (λ_ s'=>∃ σ' H',Inv X pins σ' H' s'/\Q σ' H') X.xe s') ?_;exact v6 dI hc Xu I2 T eY sW q λσ' H' s' I' q'=>BK ⟨σ',H',I',q'⟩
theorem Mv{wi:TI}{Q:VK}(sc:Scope)(N N':List Str)(n:Nat)(hi:PI X t1 i1 wi)
  (h:wi σ H λJ H1=>∀ D,H1 D=none->∀ cl C s₀ H₀ ex,gj (fb X N' scope cl C s₀ H₀ ex) t1 f1 (qp elt t1 i1 f1 t2 i2 f2 scope pos (.ref D)<|compEnvC scope cl C X.env) J (λ_ H'=>Q (.ref D) H') (σ++List.replicate n none)<|upd H1 D<|.lst [])
  (hc:X.calm=true:=by rfl) (iq:X.env.scope=sc:=by rfl) (hN:X.N=N:=by rfl) (hk:kj sc scope N N'=true:=by decide +kernel) (hl:N'.length=N.length+n:=by rfl)
  (hs:∀ x,foldedSetIterable i1 X.env x=pure x:=by intro _;rfl):Ev X (.ListComp elt [⟨t1,i1,f1,0⟩,⟨t2,i2,f2,0⟩] scope pos) σ H Q:=
 wL (e:= .ListComp elt [⟨t1,i1,f1,0⟩,⟨t2,i2,f2,0⟩] scope pos) (newAcc:=newList []) (o0:={cls:= .type "list",dict:=none,data:= .seq ([]:List Value).toArray}) (u0:=λ_=> .lst []) (λ_ _ _ h=>DG h<|by show(0:Nat)<=sizeLine;exact Bu _) (λ_ _ _=>⟨Bu _,[],0,.nil,Ap _ rfl⟩) (inner:=qp elt t1 i1 f1 t2 i2 f2 scope pos) (λ_ _=>Xt) rfl rfl sc N N' n hi h hc iq hN hk hl hs
end
section
variable{X:Cx}{pins:List (Addr×Obj)}{σ:St}{H:Hp}{s:Shared}{a:Addr}{y v:V}{u r:Value}{A:Around}{E:Value->Shared->Prop}
theorem Mw{H':Hp}{Q:Unit->Shared->Prop}(hu:A.units+1 < cLine)(I:Inv X pins σ H s)(g:b6 H a y v H')(ry:RelV y u)(rv:RelV v r)(h:∀ s',Inv X pins σ H' s'->Q () s') :
  wpAny (model X.prog X.w) A (dictSet a u r) Q E s:=by
 rcases g with ⟨kvs,k,e,ey,l,eH⟩ | ⟨kvs,k,b,e,ey,eb,l,eH⟩
 ·subst ey eH;obtain⟨z,hd,vs,rel,dd⟩:=zh I.aD e;have hz:vs.length<=sizeLine:=by rw [<- rel.length];exact z
  have hl:(putK kvs k v).length<=sizeLine:=by have:=ig kvs k v;omega
  refine wpAny_dictSet_pairs (hsz:=hz) (lS ry) dd λh' iK hs=>h _ ?_;have he:∃ q,h'.get? a=some q:=let ⟨q,_,_,hq,_⟩:=iK;⟨q,hq⟩
  exact lT I (by rw [e];exact True.intro) hs he<|zl hl hd (rel.put k rv) iK
 ·subst ey eH;cases (show u=Value.ref b from ry);obtain⟨z,hd,xs,rel,dd⟩:=J7 I.aD e;have hz:xs.length<=sizeLine:=by rw [<- Paired.length rel];exact z
  have hl:(putK kvs k v).length<=sizeLine:=by have:=ig kvs k v;omega
  have room:(tupleKind<|bO X.prog X.w).room A:=by first | exact hu | exact Nat.lt_of_succ_lt hu | exact Nat.lt_of_le_of_lt (Ff _) hu
  refine wpAny_dictSet_heap (hsz:=hz) room (jL I.aD eb) dd λh' iK hs=>h _ ?_;obtain⟨q,es,ep,hq,h2,h3,h4,_,h5⟩:=iK;refine lT I (by rw [e];exact True.intro) hs ⟨q,hq⟩ ⟨hl,hd,_,(rel.put k eb rv).keeps λc ys ec=>?_,q,es,ep,hq,h2,h3,h4,h5⟩;rw [av<|b7 ec e λz=>nomatch z];exact ec
end
def kH(k v:Expr)(acc:Value)(env:Env):Sem Unit:=do
 let kv <- eval k env
 let vv <- holding [kv]<|eval v env
 match acc with
 | .ref d=>do
  standAt {k.pos with endLine:=v.pos.endLine,endCol:=v.pos.endCol}
  holding [kv,vv] (dictSet d kv vv)
 | _=>unsupported "internal:dictcomp"
def qt(k v t1 i1:Expr)(f1:List Expr)(t2 i2:Expr)(f2:List Expr)(scope:Scope)(pos:Pos)(acc:Value)(env:Env):Sem Unit:=do
 let x <- eval i2 env
 standAt i2.pos
 let x <- foldedSetIterable i2 env x
 let _ <- runOwn (.compStart (.DictComp k v [⟨t1,i1,f1,0⟩,⟨t2,i2,f2,0⟩] scope pos) 1 (<- holding [x]<|pyIter x) acc env) env
section
variable{X:Cx}{k v t1 i1 t2 i2:Expr}{f1 f2:List Expr}{scope:Scope}{pos:Pos}{σ:St}{H:Hp}{acc:Value}{env:Env}
theorem Xv:Clause (.DictComp k v [⟨t1,i1,f1,0⟩] scope pos) 0 t1 i1 f1 acc env (kH k v acc env):=⟨rfl,λ_=>rfl,λ_ _ _=>rfl,λ_ _=>rfl,λ_ _ _=>rfl,λ_ _=>rfl,λit=>by
 unfold kH;cases acc <;> first | rfl | (simp only [bind_assoc,pure_bind];rfl)⟩
theorem Xw:Clause (.DictComp k v [⟨t1,i1,f1,0⟩,⟨t2,i2,f2,0⟩] scope pos) 0 t1 i1 f1 acc env (qt k v t1 i1 f1 t2 i2 f2 scope pos acc env):=⟨rfl,λ_=>rfl,λ_ _ _=>rfl,λ_ _=>rfl,λ_ _ _=>rfl,λ_ _=>rfl,λit=>by
 unfold qt;simp only [bind_assoc,pure_bind];rfl⟩
theorem Xx:Clause (.DictComp k v [⟨t1,i1,f1,0⟩,⟨t2,i2,f2,0⟩] scope pos) 1 t2 i2 f2 acc env (kH k v acc env):=⟨rfl,λ_=>rfl,λ_ _ _=>rfl,λ_ _=>rfl,λ_ _ _=>rfl,λ_ _=>rfl,λit=>by
 unfold kH;cases acc <;> first | rfl | (simp only [bind_assoc,pure_bind];rfl)⟩
theorem Mx{D:Addr}{Q:St->Hp->Prop}(hu:X.A.units+1 < cLine)(h:Ev X k σ H λy H1=>Ev X v σ H1 λx H2=>∃ H3,b6 H2 D y x H3/\Q σ H3):jQ X (kH k v (.ref D) X.env) σ H Q:=by
 refine⟨λpins s I=>?_⟩;unfold kH;refine BJ<|aI (h.run pins s I) λkv s1 ⟨y,H1,I1,r1,h1⟩=>?_;refine BJ<|CJ<|aI (h1.run pins s1 I1) λvv s2 ⟨x,H2,I2,r2,H3,dp,q⟩=>?_;show wpAny _ _ (standAt _ >>= λ_=>holding [kv,vv]<|dictSet D kv vv) _ _ _;exact BJ<|FW<|CJ<|Mw hu I2 dp r1 r2 λs' I'=>⟨σ,H3,I',q⟩
theorem Xy{wi:TI}{Q:St->Hp->Prop}(dI:X.xe=λ_ _=>False)(hc:X.calm=true)(hi:PI X t2 i2 wi)(h:wi σ H λJ H1=>gj X t2 f2 (kH k v acc X.env) J Q σ H1)
  (hs:∀ x,foldedSetIterable i2 X.env x=pure x:=by intro _;rfl):jQ X (qt k v t1 i1 f1 t2 i2 f2 scope pos acc X.env) σ H Q:=by
 refine⟨λpins s I=>?_⟩;unfold qt;refine BJ<|aI (hi pins s σ H _ I h) λx s1 h1=>?_;refine BJ<|FW<|BJ<|HJ (hs x)<|BJ<|CJ<|CT h1 (λlN s2 h2=>?_) λ_ _ e=>e;obtain⟨it,fp,tn,J,H2,e,I2,T,eY,sW,q⟩:=h2;subst e;refine BJ<|wpAny_runOwn (Q:=λ_ s'=>wpAny (model X.prog X.w) X.A (pure ()) (λ_ s'=>∃ σ' H',Inv X pins σ' H' s'/\Q σ' H') X.xe s') ?_;exact v6 dI hc Xx I2 T eY sW q λσ' H' s' I' q'=>BK ⟨σ',H',I',q'⟩
theorem Xz{wi:TI}{Q:VK}(sc:Scope)(N N':List Str)(n:Nat)(hi:PI X t1 i1 wi)
  (h:wi σ H λJ H1=>∀ D,H1 D=none->∀ cl C s₀ H₀ ex,gj (fb X N' scope cl C s₀ H₀ ex) t1 f1 (kH k v (.ref D)<|compEnvC scope cl C X.env) J (λ_ H'=>Q (.ref D) H') (σ++List.replicate n none)<|upd H1 D<|.dT [])
  (hc:X.calm=true:=by rfl) (iq:X.env.scope=sc:=by rfl) (hN:X.N=N:=by rfl) (hk:kj sc scope N N'=true:=by decide +kernel) (hl:N'.length=N.length+n:=by rfl)
  (hs:∀ x,foldedSetIterable i1 X.env x=pure x:=by intro _;rfl):Ev X (.DictComp k v [⟨t1,i1,f1,0⟩] scope pos) σ H Q:=
 wL (e:= .DictComp k v [⟨t1,i1,f1,0⟩] scope pos) (newAcc:=newDict) (o0:={cls:= .type "dict",data:= .dict #[]}) (u0:=λ_=> .dT []) (λ_ _ _ h=>DG h) (λ_ h hb=>zq h hb) (inner:=kH k v) (λ_ _=>Xv) rfl rfl sc N N' n hi h hc iq hN hk hl hs
theorem XA{wi:TI}{Q:VK}(sc:Scope)(N N':List Str)(n:Nat)(hi:PI X t1 i1 wi)
  (h:wi σ H λJ H1=>∀ D,H1 D=none->∀ cl C s₀ H₀ ex,gj (fb X N' scope cl C s₀ H₀ ex) t1 f1 (qt k v t1 i1 f1 t2 i2 f2 scope pos (.ref D)<|compEnvC scope cl C X.env) J (λ_ H'=>Q (.ref D) H') (σ++List.replicate n none)<|upd H1 D<|.dT [])
  (hc:X.calm=true:=by rfl) (iq:X.env.scope=sc:=by rfl) (hN:X.N=N:=by rfl) (hk:kj sc scope N N'=true:=by decide +kernel) (hl:N'.length=N.length+n:=by rfl)
  (hs:∀ x,foldedSetIterable i1 X.env x=pure x:=by intro _;rfl):Ev X (.DictComp k v [⟨t1,i1,f1,0⟩,⟨t2,i2,f2,0⟩] scope pos) σ H Q:=
 wL (e:= .DictComp k v [⟨t1,i1,f1,0⟩,⟨t2,i2,f2,0⟩] scope pos) (newAcc:=newDict) (o0:={cls:= .type "dict",data:= .dict #[]}) (u0:=λ_=> .dT []) (λ_ _ _ h=>DG h) (λ_ h hb=>zq h hb) (inner:=qt k v t1 i1 f1 t2 i2 f2 scope pos) (λ_ _=>Xw) rfl rfl sc N N' n hi h hc iq hN hk hl hs
end
open bD
theorem XB{prog:Program}{w:World}{A:Around}{E:Value->Shared->Prop}{s:Shared}{a:Addr}{zs:List Str}{z:Str}{tk:Tok}{Q:Value->Shared->Prop}(S:a9 prog w s.heap a zs)(hb:zs.length+1 < 1000)
  (h:∀ h',Heap.SameBut a s.heap h'->a9 prog w h' a (added zs z)->Q .none {s with heap:=h',toks:=s.toks+1}) :
  wpAny (model prog w) A (call (.builtin "set.add") [.ref a,.str z tk]) Q E s:=by
 have hT:s.TypeIs (.ref a) "set":=let ⟨o,_,_,_,ho,hx,_⟩:=S;⟨o,ho,hx.1⟩
 refine DN F.slot_set_add hT F.entry_set_add ?_<|F.args_set_add_2 _ _;unfold Builtin.«set.add» Builtin.Frozenset.oneOther;simp only [Gd,bind_assoc];unfold Builtin.Frozenset.addrOf setAdd;refine BJ<|BK ?_
 try dsimp only
 refine BJ<|BK ?_
 try dsimp only
 refine BJ ?_;refine CJ ?_;refine BJ ((PySem.strKind prog w).pyHash (k:=z) (v:= .str z tk) (by simp [PySem.strKind,Value.isStrOf]) ?_);refine K2 (s:={s with toks:=s.toks+1}) S hb λb h' sb S'=>?_;show wpAny _ _ (ret Value.none) _ _ _;exact BK ⟨_,rfl,h h' sb S'⟩
theorem XD{prog:Program}{w:World}{A:Around}{E:Value->Shared->Prop}{s:Shared}{Q:Value->Shared->Prop}(k:Q (.ref s.heap.objs.size) {s with heap:=s.heap.push (fe w)}):wpAny (model prog w) A (newSet<|.type "set") Q E s:=by
 unfold newSet;refine BJ<|wp_text ?_
 dsimp only
 simp only [newObj];exact BJ<|RT<|BK k
def sX(elt:Expr)(acc:Value)(env:Env):Sem Unit:=do let v <- eval elt env;standAt elt.pos;let _ <- call (.builtin "set.add") [acc,v]
def qu(elt t1 i1:Expr)(f1:List Expr)(t2 i2:Expr)(f2:List Expr)(scope:Scope)(pos:Pos)(acc:Value)(env:Env):Sem Unit:=do
 let x <- eval i2 env
 standAt i2.pos
 let x <- foldedSetIterable i2 env x
 let _ <- runOwn (.compStart (.SetComp elt [⟨t1,i1,f1,0⟩,⟨t2,i2,f2,0⟩] scope pos) 1 (<- holding [x]<|pyIter x) acc env) env
section
variable{X:Cx}{elt t1 i1 t2 i2:Expr}{f1 f2:List Expr}{scope:Scope}{pos:Pos}{σ:St}{H:Hp}{acc:Value}{env:Env}
theorem XE:Clause (.SetComp elt [⟨t1,i1,f1,0⟩,⟨t2,i2,f2,0⟩] scope pos) 0 t1 i1 f1 acc env (qu elt t1 i1 f1 t2 i2 f2 scope pos acc env):=⟨rfl,λ_=>rfl,λ_ _ _=>rfl,λ_ _=>rfl,λ_ _ _=>rfl,λ_ _=>rfl,λit=>by
 unfold qu;simp only [bind_assoc,pure_bind];rfl⟩
theorem XG:Clause (.SetComp elt [⟨t1,i1,f1,0⟩,⟨t2,i2,f2,0⟩] scope pos) 1 t2 i2 f2 acc env (sX elt acc env):=⟨rfl,λ_=>rfl,λ_ _ _=>rfl,λ_ _=>rfl,λ_ _ _=>rfl,λ_ _=>rfl,λit=>by
 unfold sX
 first | rfl | (simp only [bind_assoc,pure_bind];rfl)⟩
theorem XH{D:Addr}{Q:St->Hp->Prop} (h:Ev X elt σ H λv H1=>∃ z zs,v = .str z/\H1 D=some (cP X.prog X.w D zs)/\zs.length+1 < 1000/\Q σ (upd H1 D<|cP X.prog X.w D<|added zs z)):jQ X (sX elt (.ref D) X.env) σ H Q:=by
 refine⟨λpins s I=>?_⟩;unfold sX;refine BJ<|aI (h.run pins s I) λv s1 ⟨x,H1,I1,r1,z,zs,e,hD,hl,q⟩=>?_;subst e;obtain⟨tk,rfl⟩:=r1;refine BJ (FW<|BJ<|XB (I1.set hD) hl λh' sb S'=>BK ⟨σ,_,lT (t':=s1.toks+1) I1 (by rw [hD];exact True.intro) sb ?_<|AJ S',q⟩);obtain⟨o,_,_,_,ho,_⟩:=S';exact⟨o,ho⟩
theorem XI{wi:TI}{Q:St->Hp->Prop}(dI:X.xe=λ_ _=>False)(hc:X.calm=true)(hi:PI X t2 i2 wi)(h:wi σ H λJ H1=>gj X t2 f2 (sX elt acc X.env) J Q σ H1)
  (hs:∀ x,foldedSetIterable i2 X.env x=pure x:=by intro _;rfl):jQ X (qu elt t1 i1 f1 t2 i2 f2 scope pos acc X.env) σ H Q:=by
 refine⟨λpins s I=>?_⟩;unfold qu;refine BJ<|aI (hi pins s σ H _ I h) λx s1 h1=>?_;refine BJ<|FW<|BJ<|HJ (hs x)<|BJ<|CJ<|CT h1 (λlN s2 h2=>?_) λ_ _ e=>e;obtain⟨it,fp,tn,J,H2,e,I2,T,eY,sW,q⟩:=h2;subst e;refine BJ<|wpAny_runOwn (Q:=λ_ s'=>wpAny (model X.prog X.w) X.A (pure ()) (λ_ s'=>∃ σ' H',Inv X pins σ' H' s'/\Q σ' H') X.xe s') ?_;exact v6 dI hc XG I2 T eY sW q λσ' H' s' I' q'=>BK ⟨σ',H',I',q'⟩
theorem XJ{wi:TI}{Q:VK}(sc:Scope)(N N':List Str)(n:Nat)(hi:PI X t1 i1 wi)
  (h:wi σ H λJ H1=>∀ D,H1 D=none->∀ cl C s₀ H₀ ex,gj (fb X N' scope cl C s₀ H₀ ex) t1 f1 (qu elt t1 i1 f1 t2 i2 f2 scope pos (.ref D)<|compEnvC scope cl C X.env) J (λ_ H'=>Q (.ref D) H') (σ++List.replicate n none)<|upd H1 D<|cP X.prog X.w D [])
  (hc:X.calm=true:=by rfl) (iq:X.env.scope=sc:=by rfl) (hN:X.N=N:=by rfl) (hk:kj sc scope N N'=true:=by decide +kernel) (hl:N'.length=N.length+n:=by rfl)
  (hs:∀ x,foldedSetIterable i1 X.env x=pure x:=by intro _;rfl):Ev X (.SetComp elt [⟨t1,i1,f1,0⟩,⟨t2,i2,f2,0⟩] scope pos) σ H Q:=
 wL (e:= .SetComp elt [⟨t1,i1,f1,0⟩,⟨t2,i2,f2,0⟩] scope pos) (newAcc:=newSet<|.type "set") (o0:=fe X.w) (u0:=λD=>cP X.prog X.w D []) (λ_ _ _ h=>XD h) (λ_ h _=>AJ<|K8<|Ap _ rfl) (inner:=qu elt t1 i1 f1 t2 i2 f2 scope pos) (λ_ _=>XE) rfl rfl sc N N' n hi h hc iq hN hk hl hs
end
end L2
namespace L2
open PySem PySem.Builtin PySem.Builtin.Str
section
variable{X:Cx}{σ:St}{H:Hp}{Q:VK}
end
end L2
namespace PySem
def Plain(h:Heap)(d:Addr)(es:Array DictEntry)(ep:Nat):Prop:=∃ o,h.get? d=some o/\o.ExactDict/\o.data = .dict es ep
section
variable{P:Program}{w:World}{A:Around}{E:Value->Shared->Prop}{s:Shared}
theorem XM(d:Addr)(hd:(d == sysModules)=false):MeetsIn P w (Builtin.«dict.items» ⟨[.ref d],[]⟩) (λ_ R u=>u.TypeIs (.ref d) "dict" /\
  R (.ok<|.ret<|.ref u.heap.objs.size) {u with heap:=u.heap.push {cls:= .type "dict_items",data:= .fields #[.ref d]}}):=by
 refine .of_wp λB R u ⟨hT,k⟩=>?_;unfold Builtin.«dict.items» Builtin.Dict.noArgs;refine BJ<|BJ<|wpAny_notOrdered_dict hT ?_;show wpAny _ _ (pure d) _ _ u;refine BK ?_;show wpAny _ _ (Builtin.Dict.showsAll d >>= _) _ _ u;unfold Builtin.Dict.showsAll;rw [BL<|by rw [hd];exact Ar];exact BJ<|BK<|BJ<|DG<|BK ⟨_,rfl,k⟩
theorem XN{v d:Addr}{es:Array DictEntry}{ep:Nat}{Q:Value->Shared->Prop}(hv:s.heap.IsItemsView v d)(hm:Plain s.heap d es ep)
  (k:Q (.ref s.heap.objs.size) {s with heap:=s.heap.push {cls:= .type "dict_itemiterator",data:= .fields #[.none,.bool false,.ref d,.int 0 0,.int es.size 0,.int ep 0,.none,.none]}}) :
  wpAny (model P w) A (pyIter<|.ref v) Q E s:=by
 obtain⟨vo,e1,e2,e3⟩:=id hv;obtain⟨o,f1,f2,f3⟩:=hm;refine KC hv.typeIs F.slot_dict_items_iter<|DN F.slot_dict_items_iter hv.typeIs F.entry_dict_items_iter ?_<|F.args_dict_items_iter_1 _;unfold Builtin.«dict_items.__iter__» Builtin.Dict_items.dictOf Builtin.Dict_items.newIterator;refine BJ<|BK<|BJ<|BJ<|KJ e1 e3 (x:= .ref d) rfl (BK ?_);refine BJ<|BJ<|QK f1 f3<|BJ<|RN f1 f3 ?_;have ow:Builtin.Dict_items.ownsTuple "dict_itemiterator" = true:=by decide
 simp only [ow,DK];refine DG (BK ⟨_,rfl,"dict_itemiterator",_,⟨_,Ap _ rfl,rfl⟩,F.slot_dict_itemiterator_next.lookup,?_⟩) ?_
 ·simpa [rawInt,Builtin.Dict_items.ownedTupleFields] using k
 ·simp only [sizeOk,Builtin.Dict_items.ownedTupleFields,Av,Ag,At,Fb,DQ];omega
theorem XO{it d:Addr}{i ep:Nat}{es:Array DictEntry}{en:DictEntry}{y z:Value}{Q:Option Value->Shared->Prop}(hit:IsItemIter s.heap it d i es.size ep y z)(hm:Plain s.heap d es ep)(hx:es[i]?=some en)
  (k : ∀ h', IsItemIterOut h' it d (i + 1) es.size ep en.key en.val s.heap.objs.size → h'.get? s.heap.objs.size = some { cls := .type "tuple", data := .seq #[en.key, en.val] } →
   (∀ b o,b≠it->s.heap.get? b=some o->h'.get? b=some o)->Q (some<|.ref s.heap.objs.size) {s with heap:=h'}):wpAny (model P w) A (pyNext<|.ref it) Q E s:=by
 obtain⟨hp,g,dr,tk,os⟩:=s;obtain⟨o,f1,f2,f3⟩:=hm;have ty:Shared.TypeIs ⟨hp,g,dr,tk,os⟩ (.ref it) "dict_itemiterator":=⟨_,hit,rfl⟩;have lt:i < es.size:=by
  rcases Cz i es.size with h | h
  ·exact h
  ·rw [Dk h] at hx;cases hx
 have ow:Builtin.Dict_items.ownsTuple "dict_itemiterator" = true:=by decide
 unfold pyNext;refine BJ<|KR<|HX (name:=Str.ofString "__next__") ty GK<|DN GK ty NQ ?_<|LR _;refine BJ<|BK<|BJ<|BJ ?_
 first | refine BJ (GJ ty<|BK ?_) | refine BJ<|GZ ty<|BK ?_
 refine BJ<|PB hit rfl ?_;simp only [ow,DK];show wpAny _ _ (if(Value.ref d == Value.none)=true then _ else _) _ _ _;rw [BL (show ¬((Value.ref d == Value.none)=true) from Ar)];refine BJ<|BK<|BJ<|QK f1 f3 ?_;rw [BL<|by simp];refine BJ<|BK<|BJ<|RN f1 f3 ?_;rw [BL<|by simp];refine BK ?_;have ee:es[i]=en:=Option.some.inj<|(Ce lt).symm.trans hx;simp only [show ¬((i:Int) < 0) from by omega,CN,Bm,hx];refine BJ ?_
 first | refine BJ (GJ ty<|BK ?_) | refine BJ<|GZ ty<|BK ?_
 refine BJ<|KN ty ?_;show wpAny _ _ (setField (.ref it) 3 (rawInt<|(i:Int)+1) >>= _) _ _ ⟨hp,g,dr,tk,os⟩;refine BJ (IW hit (by simp) λha ea sa=>?_);replace sa:Heap.SameBut it hp ha:=sa;replace ea:IsItemIter ha it d (i+1) es.size ep y z:=by
  have e:((i+1:Nat):Int)=(i:Int)+1:=by omega
  unfold IsItemIter;rw [e]
  simpa [rawInt] using ea
 have My:Shared.TypeIs ⟨ha,g,dr,tk,os⟩ (.ref it) "dict_itemiterator":=⟨_,ea,rfl⟩;refine BJ<|CJ<|BJ<|KN My<|BJ<|KN My ?_;show wpAny _ _ (Builtin.Dict_items.pairFromOwner (.ref it) 6 en.key en.val) _ _ ⟨ha,g,dr,tk,os⟩;unfold Builtin.Dict_items.pairFromOwner Builtin.Dict_items.ownedTupleIsFree;refine BJ<|PJ ?_;have eb:IsItemIter (ha.push {cls:= .type "tuple",data:= .seq #[en.key,en.val]}) it d (i+1) es.size ep y z:=Af _ ea;have za:ha.objs.size=hp.objs.size:=sa.1;have il:it < hp.objs.size:=As hit;have tb:(ha.push {cls:= .type "tuple",data:= .seq #[en.key,en.val]}).get? hp.objs.size=some {cls:= .type "tuple",data:= .seq #[en.key,en.val]}:=by rw [<- za];exact Ap _ rfl
 have kb:∀ b u,b≠it->hp.get? b=some u->(ha.push {cls:= .type "tuple",data:= .seq #[en.key,en.val]}).get? b=some u:=λb u hb e=>Af _<|sa.extBut b u hb e;rw [za];generalize ha.push {cls:= .type "tuple",data:= .seq #[en.key,en.val]}=hb at eb tb kb;refine BJ<|BJ<|KJ (s:=⟨hb,g,dr,tk,os⟩) eb rfl (x:= .none) rfl (BK ?_);simp only [DK];refine BJ<|KJ (s:=⟨hb,g,dr,tk,os⟩) eb rfl (x:=y) rfl (BJ<|KJ (s:=⟨hb,g,dr,tk,os⟩) eb rfl (x:=z) rfl ?_);refine BJ (IW eb (by simp) λh3 e3 s3=>?_);replace s3:Heap.SameBut it hb h3:=s3;replace e3:IsItemIter h3 it d (i+1) es.size ep en.key z:=e3;refine BJ (IW e3 (by simp) λh4 e4 s4=>?_);replace s4:Heap.SameBut it h3 h4:=s4;replace e4:IsItemIter h4 it d (i+1) es.size ep en.key en.val:=e4;refine BJ (IW e4 (by simp) λh5 e5 s5=>?_);replace s5:Heap.SameBut it h4 h5:=s5;replace e5:IsItemIterOut h5 it d (i+1) es.size ep en.key en.val hp.objs.size:=e5;refine BJ (IW e5 (by simp) λh6 e6 s6=>?_);replace s6:Heap.SameBut it h5 h6:=s6;replace e6:IsItemIterOut h6 it d (i+1) es.size ep en.key en.val hp.objs.size:=e6;have all:=((s3.trans s4).trans s5).trans s6;exact BJ<|wpAny_letGo<|BK<|BK ⟨_,rfl,BK<|k h6 e6 (all.extBut _ _ (Cy il) tb) λb u kI e=>all.extBut b u kI<|kb b u kI e⟩
theorem XQ{it d:Addr}{i ep:Nat}{es:Array DictEntry}{y z:Value}{Q:Option Value->Shared->Prop}(hh:A.handled=none)(hit:IsItemIter s.heap it d i es.size ep y z)(hm:Plain s.heap d es ep)(hx:es.size<=i)
  (k:∀ h',Heap.ExtBut it s.heap h'->Q none {s with heap:=h'}):wpAny (model P w) A (pyNext<|.ref it) Q E s:=by
 obtain⟨o,f1,f2,f3⟩:=hm;have ty:s.TypeIs (.ref it) "dict_itemiterator":=⟨_,hit,rfl⟩;have ow:Builtin.Dict_items.ownsTuple "dict_itemiterator" = true:=by decide
 unfold pyNext;refine BJ<|KR<|HX (name:=Str.ofString "__next__") ty GK<|DN GK ty NQ ?_<|LR _;refine BJ<|BK<|BJ<|BJ ?_
 first | refine BJ (GJ ty<|BK ?_) | refine BJ<|GZ ty<|BK ?_
 refine BJ<|PB hit rfl ?_;simp only [ow,DK];show wpAny _ _ (if(Value.ref d == Value.none)=true then _ else _) _ _ s;rw [BL (show ¬((Value.ref d == Value.none)=true) from Ar)];refine BJ<|BK<|BJ<|QK f1 f3 ?_;rw [BL<|by simp];refine BJ<|BK<|BJ<|RN f1 f3 ?_;rw [BL<|by simp];refine BK ?_;simp only [show ¬((i:Int) < 0) from by omega,CN,Bm,Dk hx];refine BJ ?_
 first | refine BJ (GJ ty<|BK ?_) | refine BJ<|GZ ty<|BK ?_
 show wpAny _ _ (setField (.ref it) 2 .none >>= _) _ _ s;refine BJ (DR hit rfl (by simp) ?_);show wpAny _ _ (newExc (.type "StopIteration") [] >>= _) _ _ _;refine BJ ?_;simp only [newExc,newTuple];refine BJ (DG ?_<|by size_fits);refine BJ (m:=firstArgMember _ _) (HJ (a:=Value.none) (by first | rfl | (simp only [firstArgMember];rfl)) ?_);refine DG ?_ (by size_fits);simp only [raiseNew];refine BJ<|wpAny_handled ?_;rw [show A.in1.handled=none from hh];refine BJ<|BK<|wpAny_throw ?_;exact BJ<|QV (T:= "StopIteration") (b:=true) ⟨_,Ap _ rfl,rfl⟩ isSubtype_stop<|BK<|k _<|((CZ ..).extBut.push _).push _
theorem XR:entryFor table "dict_itemiterator.__iter__" = some Builtin.«dict_keyiterator.__iter__»:=
 entryFor_alias (id':= "dict_keyiterator.__iter__") (by kernel_rfl) rfl (by decide +kernel) (by kernel_rfl)
theorem XS{it d:Addr}{i n ep:Nat}{y z:Value}{Q:Value->Shared->Prop}(e:IsItemIter s.heap it d i n ep y z)(h:Q (.ref it) s):wpAny (model P w) A (pyIter<|.ref it) Q E s:=by
 have ty:s.TypeIs (.ref it) "dict_itemiterator":=⟨_,e,rfl⟩;refine KC ty OD<|DN OD ty XR ?_<|F.args_dict_itemiterator_iter_1 _;show wpAny _ _ (ret<|.ref it) _ _ s;exact BK ⟨_,rfl,"dict_itemiterator",_,ty,F.slot_dict_itemiterator_next.lookup,h⟩
end
end PySem
namespace L2
open PySem PySem.Spec PyProof.Rows
section
variable{X:Cx}{pins:List (Addr×Obj)}{σ:St}{H:Hp}{s:Shared}
theorem XT{d:Addr}{kvs:List (List Key×V)}(I:Inv X pins σ H s)(e:H d=some (.dT kvs)):∃ o,s.heap.get? d=some o/\Inv X pins σ (upd H d<|.cq o<|.dT kvs) s:=by
 obtain⟨z,hd,xs,r,o,es,ep,ho,h2,h3,h4,h5⟩:=(show ax X.prog X.w H s.heap d (.dT kvs) from I.aD d _ e);refine⟨o,ho,?_⟩;have r':KT (upd H d<|.cq o<|.dT kvs) kvs xs:=KT.keeps r λb ys q=>by
  rw [av<|b7 q e λz=>nomatch z];exact q
 exact lT (t':=s.toks) I (by rw [e];exact True.intro) ⟨rfl,λ_ _=>rfl⟩ ⟨o,ho⟩ (show ax X.prog X.w _ s.heap d (.cq o<|.dT kvs) from⟨ho,z,hd,xs,r',o,es,ep,ho,h2,h3,h4,h5⟩)
def Itm(d:Addr)(o:Obj)(kvs:List<|List Key×V):It:=
  ⟨λi H => H d = some (.cq o<|.dT kvs) ∧ i < kvs.length,
   λi H v H'=>∃ T b k x,kvs[i]?=some (k,x)/\H b=some (.tup<|k.map kV)/\H T=none/\v = .ref T/\H'=upd H T (.tup [.ref b,x]),
   λi H=>H d=some (.cq o<|.dT kvs)/\kvs.length<=i⟩
theorem Mz{P:Program}{w:World}{h:Heap}{d:Addr}{o:Obj}{es:Array DictEntry}{ep:Nat}{kvs:List (List Key×V)}(aD:b5 P w H h)(e:H d=some (.cq o<|.dT kvs))(hd:o.data = .dict es ep) :
  Plain h d es ep/\∃ xs,KT H kvs xs/\es.toList=xs.map (entryOfKey<|tupleKind<|bO P w):=by
 obtain⟨ho,z,_,xs,r,o',cX,vE,iJ,h2,h3,h4,h5⟩:=(show ax P w H h d (.cq o<|.dT kvs) from aD d _ e);have:o=o':=Option.some.inj<|ho.symm.trans iJ;subst this;rw [hd] at h3
 injection h3 with e1 e2
 subst e1;subst e2;exact⟨⟨o,ho,h2,hd⟩,xs,r,h4⟩
theorem kt_len{H:Hp}:∀{kvs:List (List Key×V)} {xs:List (List Key×Addr×Value)},KT H kvs xs->kvs.length=xs.length:=λr=>by
 induction r with
 | nil=>rfl
 | cons _ _ ih=>simp only [At,ih]
theorem kt_at{H:Hp}:∀{kvs:List (List Key×V)} {xs:List (List Key×Addr×Value)},KT H kvs xs->∀{i:Nat} {k:List Key} {x:V},kvs[i]?=some (k,x)->∃ b u,xs[i]?=some (k,b,u)/\H b=some (.tup<|k.map kV)/\RelV x u:=λr=>by
 induction r with
 | nil=>intro i k x h;simp at h
 | @cons p q ps qs hq t ih=>
  intro i k x h;cases i with
  | zero=>
   simp only [List.getElem?_cons_zero,Option.some.injEq] at h;subst h;obtain⟨a,b,c⟩:=q;obtain⟨q1,q2,q3⟩:=hq;have q1:k=a:=q1;subst q1;exact⟨b,c,rfl,q2,q3⟩
  | succ i=>exact ih<|by simpa using h
theorem XU{P:Program}{w:World}{K:PySem.W.Frag}{elts:List Expr}{kk:Nat}{tp:Pos}(d it:Addr)(o:Obj)(es:Array DictEntry)(ep:Nat)(kvs:List<|List Key×V)(wM:o.data = .dict es ep) :
  Turn P w K (.Tuple elts kk tp) (Itm d o kvs) [it] it (λi h=>∃ y z,IsItemIter h it d i es.size ep y z) where
 mem:=by simp
 obj:=λi h st b hb=>by
  have e:b=it:=by simpa using hb
  subst e;obtain⟨y,z,e⟩:=st;exact⟨_,e,λv z=>by cases z⟩
 keep:=λi h h' st k=>let ⟨y,z,e⟩:=st;⟨y,z,k it (by simp) _ e⟩
 item:=by
  intro X hP hw hK hc i pins s σ H E I hf st hg;subst hP hw hK;obtain⟨f0,f1,f2,f3,f4,f5⟩:=hf it (by simp);obtain⟨hd,hi⟩:=hg;obtain⟨pd,xs,r,CF⟩:=Mz I.aD hd wM;obtain⟨y,z,st⟩:=st;have hx:kvs[i]?=some (kvs[i].1,kvs[i].2):=Ab hi;obtain⟨b,u,dQ,hb,ru⟩:=kt_at r hx;have sY:=entry_at CF i;rw [dQ] at sY;refine XO st pd (en:=entryOfKey (tupleKind<|bO X.prog X.w) (kvs[i].1,b,u)) sY λh' q1 q2 kp=>?_;have hT:H s.heap.objs.size=none:=I.aD.fresh<|Al _;have nT:it≠s.heap.objs.size:=Bt<|As st;have I1:Inv X pins σ (upd H s.heap.objs.size<|.tup [.ref b,kvs[i].2]) {s with heap:=s.heap.push {cls:= .type "tuple",data:= .seq #[Value.ref b,u]}}:=
   I.laid (t':=s.toks) (λb o e=>Af _ e) (Al _) (show ax X.prog X.w _ _ _ (.tup [.ref b,kvs[i].2]) from⟨Z2,[Value.ref b,u],.cons rfl (.cons ru .nil),⟨_,Ap _ rfl,rfl,_,rfl⟩⟩)
  have fp:∀ c∈[it],bV X pins (upd H s.heap.objs.size<|.tup [.ref b,kvs[i].2]) c:=λc aZ=>by
   have e:c=it:=by simpa using aZ
   subst e;exact⟨by rw [av nT];exact f0,f1,f2,f3,f4,f5⟩
  have I2:=Inv.bE (h':=h') (t':=s.toks) I1 fp λc v aZ e=>by
   have nc:c≠it:=by simpa using aZ
   rcases Gf e with ⟨ec,eo⟩ | e'
   ·rw [ec,eo];exact q2
   ·exact kp c v nc e'
  refine⟨_,rfl,wpAny_letOwnedTupleGo_items (s:={s with heap:=h'}) q1 λh2 b1 sb=>?_⟩;have I3:=Inv.bE (h':=h2) (t':=s.toks) I2 fp λc v aZ e=>(sb.2 c<|by simpa using aZ).trans e;exact⟨.ref s.heap.objs.size,_,I3,rfl,⟨_,b,kvs[i].1,kvs[i].2,hx,hb,hT,rfl,rfl⟩,⟨_,_,b1⟩,λc aZ=>(fp c aZ).1⟩
 done:=by
  intro X hP hw hK hc i pins s σ H E I hf st hg;subst hP hw hK;obtain⟨hd,hi⟩:=hg;obtain⟨pd,xs,r,CF⟩:=Mz I.aD hd wM;obtain⟨y,z,st⟩:=st;have hl:es.size=kvs.length:=by rw [kt_len r,<- Cd,CF,Aa]
  exact XQ (I.ok.hd hc) st pd (by omega) λh' eb=>⟨rfl,I.bE (t':=s.toks) hf λc v aZ e=>eb c v (by simpa using aZ) e⟩
 self:=λ_ _ _ _ _ st h=>let ⟨y,z,e⟩:=st;XS e h
end
section
variable{X:Cx}
def XW(to:TE):TI:=λσ H R=>to σ H λx H1=>∃ d kvs,x = .ref d/\H1 d=some (.dT kvs)/\∀ o,R (Itm d o kvs)<|upd H1 d<|.cq o<|.dT kvs
theorem XX{elts:List Expr}{kk:Nat}{tp ap cp:Pos}{l:Expr}{to:TE}(ho:PE X l to)(bG:attributeBase l "items" X.env (eval l X.env)=eval l X.env:=by rfl)(hline:(ap.endLine == cp.line)=true:=by rfl) :
  PI X (.Tuple elts kk tp) (.Call (.Attribute l "items" ap) [] [] cp) (XW to):=by
 intro pins s σ H R I h;refine wpAny_Call_method0_late bG hline<|aI (ho pins s σ H _ I h) λv s1 ⟨x,H1,I1,r1,q1⟩=>?_;obtain⟨d,kvs,e,hd,q⟩:=q1;subst e;cases (show v=Value.ref d from r1);obtain⟨_,XY,_,_,o,es,ep,e1,e2,e3,_⟩:=(show ax X.prog X.w H1 s1.heap d (.dT kvs) from I1.aD d _ hd);have ty:s1.TypeIs (.ref d) "dict":=⟨o,e1,e2.1⟩;refine⟨"dict","dict.items",F.plainAttrs_dict,F.slot_dict_items,F.type_dict_items,ty,λa ea=>?_,JC rfl (PySem.evalArgs_none ?_)⟩
 ·cases ea;exact⟨o,e1,e2.2.1⟩
 refine call_meetsIn F.slot_dict_items ty F.entry_dict_items (F.args_dict_items_1 _) (XM d XY) ⟨ty,?_⟩;obtain⟨o',eo,I2⟩:=XT I1 hd;have:o=o':=Option.some.inj<|e1.symm.trans eo;subst this;have I3:=I2.kept (t':=s1.toks) (h':=s1.heap.push {cls:= .type "dict_items",data:= .fields #[.ref d]}) λb u e=>Af _ e;refine XN (s:={s1 with heap:=s1.heap.push {cls:= .type "dict_items",data:= .fields #[.ref d]}}) (d:=d) (es:=es) (ep:=ep) ⟨_,Ap _ rfl,rfl,rfl⟩ ⟨o,Af _ e1,e2,e3⟩ ?_;refine⟨_,[(s1.heap.push {cls:= .type "dict_items",data:= .fields #[.ref d]}).objs.size],_,_,_,rfl,I3.kept (t':=s1.toks) λb u e=>Af _ e,XU d _ o es ep kvs e3,⟨_,_,Ap _ rfl⟩,λb hb=>?_,q o⟩;have e:b=(s1.heap.push {cls:= .type "dict_items",data:= .fields #[.ref d]}).objs.size:=by simpa using hb
 subst e;exact I3.ga (Al _)<|I3.aD.fresh<|Al _
end
section
variable{X:Cx}{tg:Expr}{ifs:List Expr}{inner:Sem Unit}{σ:St}{H:Hp}{d:Addr}{o:Obj}{kvs:List (List Key×V)}{after:St->Hp->Prop}
theorem XZ(Pv:Nat->St->Hp->Prop)(h0:Pv 0 σ H)(hl:∀ i σ' H',i<=kvs.length->Pv i σ' H'->H' d=some (.cq o<|.dT kvs))
  (hs:∀ i k x b T σ' H',kvs[i]?=some (k,x)->Pv i σ' H'->H' b=some (.tup<|k.map kV)->H' T=none->Eg X tg (.ref T) σ' (upd H' T<|.tup [.ref b,x]) λσ2 H3=>Ei X ifs σ2 H3 λc H4=>if c=true then jQ X inner σ2 H4 (Pv<|i+1) else Pv (i+1) σ2 H4)
  (hd:∀ σ' H',Pv kvs.length σ' H'->after σ' H'):gj X tg ifs inner (Itm d o kvs) after σ H:=by
 refine⟨λi m σ' H'=>m=kvs.length - i/\i<=kvs.length/\Pv i σ' H',⟨_,rfl,Bu _,h0⟩,?_⟩;rintro i m σ' H' ⟨rfl,hi,p⟩;have q:=hl i σ' H' hi p
 by_cases aM:i < kvs.length
 ·refine .inr ⟨⟨q,aM⟩,Pv<|i+1,λσ' H' p'=>⟨kvs.length - (i+1),by omega,rfl,aM,p'⟩,λv H2 y=>?_⟩;obtain⟨T,b,k,x,hx,hb,hT,rfl,rfl⟩:=y;exact hs i k x b T σ' _ hx p hb hT
 ·have e:i=kvs.length:=by omega
  subst e;exact .inl ⟨⟨q,Al _⟩,hd σ' H' p⟩
end
open bD
section
variable{X:Cx}{σ:St}{H:Hp}{Q:VK}
end
section
variable{prog:Program}{w:World}{A:Around}{E:Value->Shared->Prop}{s:Shared}
theorem X0{Q:Value->Shared->Prop}(k:Q (.ref s.heap.objs.size) {s with heap:=s.heap.push (fe w)}):codeAny (model prog w) A (.call (.builtin "set.__new__") ⟨[.type "set"],[]⟩) (wants Q E) s:=by
 refine JL ?_;show wpAny _ A.in1 (checkBuiltinCall "set.__new__" ⟨[.type "set"],[]⟩ >>= λ_=>again<|.builtin "set.__new__" ⟨[.type "set"],[]⟩) _ _ s;refine BJ<|HJ PySem.F.newCall_set_0<|BK ⟨IK SJ _,FJ PySem.F.entry_set_new ?_⟩;rw [DX SJ _];unfold Builtin.«set.__new__» Builtin.Frozenset.newClass
 dsimp only
 refine BJ<|BJ<|HJ (show isType (.type "set")=pure true from rfl)<|BK ?_;simp only [Dz,Ax,CN];unfold newSet;refine BJ<|BJ<|wp_text ?_
 dsimp only
 simp only [newObj];exact BJ<|RT<|BK<|BK k
theorem X1{Q:Value->Shared->Prop}(k:Q (.ref s.heap.objs.size) {s with heap:=s.heap.push (fe w)}):wpAny (model prog w) A (call (.type "set") []) Q E s:=by
 obtain⟨c,tl,AA⟩:=PySem.F.called_set.mro;have sf:=PySem.F.called_set.made;have kr:=PySem.F.called_set.sub;refine wpAny_call<|JL ?_;show wpAny _ _ (callAny (.type "set") _) _ _ _;refine BK ⟨Code.quiet_builtin _ (by decide +kernel),FJ PySem.F.entry_type_call ?_⟩;rw [Around.under_plain (weight_type_call_type "set" [] []) rfl];have h1:=PySem.F.called_set.notType;have h2:=PySem.F.called_set.canCreate;have h3:=PySem.F.typeCall_set_0
 repeat (any_goals (first | assumption | wp_step))
 refine JF (X0 (E:=E) (Q:=λv u=>v = .ref s.heap.objs.size/\u={s with heap:=s.heap.push (fe w)}) ⟨rfl,rfl⟩) λr u hr=>?_;cases r with
 | error e=>exact hr
 | ok fl=>
  cases fl with
  | ret v=>
   obtain⟨rfl,rfl⟩:=hr;have hT:Shared.TypeIs {s with heap:=s.heap.push (fe w)} (.ref s.heap.objs.size) "set":=⟨_,Ap _ rfl,rfl⟩;have AB:=PySem.F.called_set.init.lookup;have AF:=PySem.F.called_set.init.bind<|.ref s.heap.objs.size
   repeat (any_goals (first | assumption | wp_step))
   refine JF (codeAny_call_builtin (R:=wants (λr u=>r = .none/\Q (.ref s.heap.objs.size) u) E) PySem.F.called_set.init.plain PySem.F.entry_set_init<|check_set_init hT ?_) λr2 u2 nI=>?_
   ·unfold Builtin.«set.__init__» noKeywords
    wp_walk
    exact⟨rfl,k⟩
   ·cases r2 with
    | error e=>exact nI
    | ok f2=>
     cases f2 with
     | ret r=>
      obtain⟨rfl,hq⟩:=nI
      repeat (any_goals (first | assumption | wp_step))
     | _=>exact nI.elim
  | _=>exact hr.elim
end
section
variable{X:Cx}{σ:St}{H:Hp}{Q:VK}
end
end L2
namespace Nt
open PySem L2
def og(c:Int)(n:Net)(e:End):End:=(e.1,(((e.2:Int)+c) % ((row n e.1).length:Int)).toNat)
theorem CH{c:Int}{n:Net}{e:End}(h:e∈ends n):(((og c n e).2:Nat):Int)=((e.2:Int)+c) % ((row n e.1).length:Int):=by
 obtain⟨z,hz⟩:=af.mp h;have:=eN hz;exact Int.toNat_of_nonneg<|Bs _<|by omega
theorem X2{c:Int}{n:Net}{e:End}(h:e∈ends n):og c n e∈ends n:=by
 obtain⟨z,hz⟩:=af.mp h;have h1:=eN hz;have h2:=CH (c:=c) h;have h3:((e.2:Int)+c) % ((row n e.1).length:Int) < ((row n e.1).length:Int):=Bx _ (by omega);exact af.mpr<|sv (e:=og c n e)<|by show(og c n e).2 < (row n e.1).length;omega
theorem MA{n:Net}{e:End}(h:e∈ends n):left n e=og 1 n e:=by
 have h2:=CH (c:=1) h;refine GD rfl ?_;show(e.2+1) % (row n e.1).length=(og 1 n e).2;have:(((e.2+1) % (row n e.1).length:Nat):Int)=((e.2:Int)+1) % ((row n e.1).length:Int):=by simp
 omega
def go(c:Int)(n:Net)(e:End):End:=og c n<|other n e
theorem X3{c:Int}{n:Net}(T:ay n){e:End}(h:e∈ends n):go c n e∈ends n:=X2<|dM T h
theorem sZ{n:Net}(T:ay n){e:End}(h:e∈ends n):step n e=go 1 n e:=MA<|dM T h
def cM(n:Net)(e:End):Str:=(aG n e).getD ⟨#[]⟩
theorem wU{n:Net}{e:End}{z:Str}(h:aG n e=some z):cM n e=z:=by unfold cM;rw [h];rfl
structure eR(n:Net)(e:End)(k:Nat):Prop where
 pos:0 < k
 back:it (step n) k e=e
 first:∀ i,0 < i->i < k->it (step n) i e≠e
theorem eR.unique{n:Net}{e:End}{k l:Nat}(a:eR n e k)(b:eR n e l):k=l:=by
 rcases Ee k l with h | h | h
 ·exact absurd a.back<|b.first k a.pos h
 ·exact h
 ·exact absurd b.back<|a.first l b.pos h
noncomputable def ix(n:Net)(e:End):Nat:=by classical exact if h:∃ k,eR n e k then h.choose else 0
theorem MB{n:Net}{e:End}{k:Nat}(h:eR n e k):ix n e=k:=by
 have hx:∃ k,eR n e k:=⟨k,h⟩;unfold ix;rw [dif_pos hx];exact hx.choose_spec.unique h
theorem MC{n:Net}(T:ay n){e:End}(h:e∈ends n):∃ k,eR n e k/\k<=(ends n).length:=by
 obtain⟨k,k0,k1,k2⟩:=L4 (f:=step n) (S:=ends n) (λa ha=>jg T ha) (λa ha b hb=>wm T ha hb) h;have aux:∀ m,∀ k,k<=m->0 < k->it (step n) k e=e->∃ j,j<=k/\eR n e j:=by
  intro m
  induction m with
  | zero=>intro k h1 h2;omega
  | succ m ih=>
   intro k h1 h2 h3
   by_cases c:∃ i,0 < i/\i < k/\it (step n) i e=e
   ·obtain⟨i,i1,i2,i3⟩:=c;obtain⟨j,j1,j2⟩:=ih i (by omega) i1 i3;exact⟨j,by omega,j2⟩
   ·exact⟨k,Al _,h2,h3,λi i1 i2 i3=>c ⟨i,i1,i2,i3⟩⟩
 obtain⟨j,j1,j2⟩:=aux k k (Al _) k0 k2;exact⟨j,j2,by omega⟩
def fl(n:Net)(e:End)(k:Nat):List End:=(List.range k).map λi=>it (step n) i e
theorem MD(n:Net)(e:End)(k:Nat):fl n e (k+1)=fl n e k++[it (step n) k e]:=by
 unfold fl;rw [Dx,Ak];rfl
theorem oh(n:Net)(e:End)(k:Nat):(fl n e k).length=k:=by unfold fl;simp
theorem X4(n:Net)(e:End){k i:Nat}(h:i < k):(fl n e k)[i]?=some (it (step n) i e):=by
 unfold fl;rw [Ad,Dm h];rfl
noncomputable def face(n:Net)(e:End):List End:=fl n e<|ix n e
theorem X5{n:Net}{e:End}{k:Nat}(p:eR n e k)(hk:k<=(ends n).length):cQ n e (fl n e k):=
 ⟨by rw [oh];exact p.pos,by rw [oh];exact hk,λi hi=>X4 n e (by rw [oh] at hi;exact hi),by rw [oh];exact p.back,by rw [oh];exact p.first⟩
theorem jo{n:Net}(T:ay n){e:End}(h:e∈ends n):cQ n e (face n e):=by
 obtain⟨k,p,hk⟩:=MC T h;unfold face;rw [MB p];exact X5 p hk
theorem tf{n:Net}(T:ay n){e:End}(h:e∈ends n):∀ c∈face n e,c∈ends n:=(jo T h).ends T h
noncomputable def gZ(n:Net):List End->List End->List (List End)
 | [],_=>[]
 | e :: r,told=>if e∈told then gZ n r told else face n e :: gZ n r (told++face n e)
theorem wV{n:Net}(T:ay n):∀(es:List End) (told:List End),(∀ e∈es,e∈ends n)->∀ w∈gZ n es told,∃ e∈es,w=face n e/\e∉told
 | [],_,_,w,hw=>by cases hw
 | e :: r,told,h,w,hw=>by
  unfold gZ at hw
  split at hw
  ·obtain⟨e',h1,h2⟩:=wV T r told (λa ha=>h a<|Ah _ ha) w hw;exact⟨e',Ah _ h1,h2⟩
  ·rename_i hn
   rcases Aj.mp hw with rfl | hw
   ·exact⟨e,Ae ..,rfl,hn⟩
   ·obtain⟨e',h1,h2,h3⟩:=wV T r _ (λa ha=>h a<|Ah _ ha) w hw;exact⟨e',Ah _ h1,h2,λq=>h3<|Bc _ q⟩
theorem CI(n:Net):∀(es:List End) (told:List End),(gZ n es told).length<=es.length
 | [],_=>Al _
 | e :: r,told=>by
  unfold gZ
  split
  ·have:=CI n r told;show _<=r.length+1;omega
  ·have:=CI n r<|told++face n e;show _+1<=r.length+1;omega
noncomputable def aU(n:Net):List (List End):=if ends n=[] then [[]] else gZ n (ends n) []
theorem X6(n:Net):(aU n).length<=(ends n).length+1:=by
 unfold aU
 split
 ·show 1<=_;omega
 ·have:=CI n (ends n) [];omega
theorem ME{n:Net}(T:ay n):∀ w∈aU n,w.length<=(ends n).length/\∀ c∈w,c∈ends n:=λw hw=>by
 unfold aU at hw
 split at hw
 ·rw [Ai.mp hw];exact⟨Bu _,λc h=>by cases h⟩
 ·obtain⟨e,he,rfl,_⟩:=wV T (ends n) [] (λe he=>he) w hw;exact⟨(jo T he).len,tf T he⟩
end Nt
namespace Nt
variable{α β:Type}
def dz(f:α->α):List α->α->α->Prop
 | [],a,b=>a=b
 | x :: l,a,b=>x=a/\dz f l (f x) b
theorem bu{f:α->α}:∀{l k:List α} {a b:α},dz f (l++k) a b↔∃ c,dz f l a c/\dz f k c b
 | [],k,a,b=>⟨λh=>⟨a,rfl,h⟩,λ⟨c,e,h⟩=>by cases e;exact h⟩
 | x :: l,k,a,b=>by
  show(x=a/\dz f (l++k) (f x) b)↔∃ c,(x=a/\dz f l (f x) c)/\dz f k c b;rw [bu];exact⟨λ⟨e,c,h1,h2⟩=>⟨c,⟨e,h1⟩,h2⟩,λ⟨c,⟨e,h1⟩,h2⟩=>⟨e,c,h1,h2⟩⟩
theorem CL{f:α->α}{f':β->β}{g:α->β}:∀{l:List α} {a b:α},(∀ x∈l,f' (g x)=g (f x))->dz f l a b->dz f' (l.map g) (g a) (g b)
 | [],_,_,_,h=>BX g h
 | x :: l,a,b,hg,h=>⟨BX g h.1,by rw [hg x Ae];exact CL (λy hy=>hg y<|Ah _ hy) h.2⟩
theorem wW{f:α->α}:∀{l:List α} {x a b y:α},dz f (x :: l) a b->y∈x :: l->f y∈l\/f y=b
 | [],x,a,b,y,h,hy=>by
  rw [Ai] at hy;subst hy;exact .inr h.2
 | z :: l,x,a,b,y,h,hy=>by
  rcases Aj.mp hy with rfl | hy
  ·exact .inl<|by rw [<- h.2.1];exact Ae
  ·rcases wW h.2 hy with q | q
   ·exact .inl<|Ah _ q
   ·exact .inr q
theorem qv{f:α->α}{l:List α}{a y:α}(h:dz f l a a)(ha:a∈l)(hy:y∈l):f y∈l:=by
 cases l with
 | nil=>cases hy
 | cons x l=>
  rcases wW h hy with q | q
  ·exact Ah _ q
  ·rw [q];exact ha
theorem wX{f:α->α}{f':β->β}{g:α->β}{c:α}{h:β}:∀{l:List α} {x:α},(∀ y∈x :: l,f y=c->f' (g y)=h)->(∀ y∈x :: l,f y≠c->f' (g y)=g (f y))->c∉l->dz f (x :: l) x c->dz f' ((x :: l).map g) (g x) h
 | [],x,h1,_,_,p=>⟨rfl,h1 x Ae p.2⟩
 | y :: l,x,h1,h2,hc,p=>by
  have e:y=f x:=p.2.1;have ne:f x≠c:=λq=>hc (by rw [<- q,<- e];exact Ae);refine⟨rfl,?_⟩;rw [h2 x Ae ne,<- e];refine wX (λz hz=>h1 z<|Ah _ hz) (λz hz=>h2 z<|Ah _ hz) (λq=>hc<|Ah _ q) ?_;exact⟨rfl,p.2.2⟩
structure Dec(f:α->α)(D:List α)(Ls:List<|List α):Prop where
 fN:∀ l∈Ls,∃ a,a∈l/\dz f l a a
 all:Ls.flatten.Perm D
 nd:D.Nodup
theorem Dec.sub{f:α->α}{D:List α}{Ls:List (List α)}(d:Dec f D Ls){l:List α}(hl:l∈Ls){x:α}(hx:x∈l):x∈D:=
 d.all.mem_iff.mp (Dl.mpr ⟨l,hl,hx⟩)
theorem Dec.pick{f:α->α}{D:List α}{Ls:List (List α)}(d:Dec f D Ls){c:α}(hc:c∈D):∃ l Ms,Ls.length=Ms.length+1/\Dec f D ((c :: l) :: Ms):=by
 obtain⟨l,hl,jT⟩:=Dl.mp<|d.all.mem_iff.mpr hc;obtain⟨A,B,rfl⟩:=Ey hl;obtain⟨p,q,rfl⟩:=Ey jT;obtain⟨a,ha,h⟩:=d.fN _ hl;obtain⟨m,h1,h2⟩:=bu.mp h;have e:c=m:=h2.1;subst e;refine⟨q++p,A++B,by simp [Nat.add_assoc],λk hk=>?_,?_,d.nd⟩
 ·rcases Aj.mp hk with rfl | hk
  ·exact⟨c,Ae,bu (l:=c :: q).mpr ⟨a,h2,h1⟩⟩
  ·refine d.fN k ?_
   rcases Aq.mp hk with q | q
   ·exact Bc _ q
   ·exact Au _<|Ah _ q
 ·refine List.Perm.trans ?_ d.all;simp only [Ck,Fo,Fi];have e1:(c :: (q++p)).Perm (p++c :: q):=by
   rw [<- Fi];exact Cr
  refine((e1.append_right _).trans ?_);rw [<- Ay,<- Ay];exact(Cr).append_right _
theorem Dec.apart{f:α->α}{D:List α}{l:List α}{Ms:List (List α)}(d:Dec f D<|l :: Ms):l.Nodup/\∀ m∈Ms,∀ x∈l,x∉m:=by
 have h:=d.all.nodup_iff.mpr d.nd;rw [Ck,Co] at h;exact⟨h.1,λm hm x hx X7=>h.2.2 x hx x (Dl.mpr ⟨m,hm,X7⟩) rfl⟩
theorem wY{g:α->β}:∀(Ls:List<|List α),(Ls.map<|List.map g).flatten=Ls.flatten.map g
 | []=>rfl
 | l :: Ls=>by rw [Bd,Ck,wY Ls,Ck,Ak]
theorem Dec.rest{f:α->α}{f':β->β}{g:α->β}{D:List α}{l:List α}{Ms:List (List α)}(d:Dec f D<|l :: Ms)(ho:∀ x∈D,f x∉l->f' (g x)=g (f x)):∀ m∈Ms.map (List.map g),∃ a,a∈m/\dz f' m a a:=by
 intro m hm;obtain⟨k,hk,rfl⟩:=Am.mp hm;obtain⟨a,ha,p⟩:=d.fN k<|Ah _ hk;refine⟨g a,Am.mpr ⟨a,ha,rfl⟩,CL (λx hx=>ho x (d.sub (Ah _ hk) hx) λq=>?_) p⟩;exact d.apart.2 k hk _ q<|qv p ha hx
theorem Dec.grow{f:α->α}{f':β->β}{g:α->β}{D:List α}{c:α}{l:List α}{Ms:List (List α)}(d:Dec f D<|(c :: l) :: Ms){new:List β}{h:β}(hn:dz f' new h<|g c)(hh:∀ x∈D,f x=c->f' (g x)=h)(ho:∀ x∈D,f x≠c->f' (g x)=g (f x))(nd:(D.map g++new).Nodup) :
  Dec f' (D.map g++new) (((c :: l).map g++new) :: Ms.map (List.map g)):=by
 have ap:=d.apart;have jT:c∉l:=(Bq.mp ap.1).1;refine⟨λk hk=>?_,?_,nd⟩
 ·rcases Aj.mp hk with rfl | hk
  ·obtain⟨a,ha,p⟩:=d.fN _ Ae;have e:c=a:=p.1;subst e;exact⟨g c,Bc _ Ae,bu.mpr ⟨h,wX (λy hy=>hh y<|d.sub Ae hy) (λy hy=>ho y<|d.sub Ae hy) jT p,hn⟩⟩
  ·exact d.rest (λx hx q=>ho x hx λe=>q<|by rw [e];exact Ae) k hk
 ·rw [Ck,wY];have:=d.all.map g;rw [Ck,Ak] at this;refine List.Perm.trans ?_<|this.append_right new;rw [Ay,Ay];exact(Cr).append_left _
theorem Dec.split{f:α->α}{f':β->β}{g:α->β}{D:List α}{c d0:α}{l:List α}{Ms:List (List α)}(d:Dec f D<|(c :: l) :: Ms)(hd:d0∈l){e1 e2:β}(h1:f' e1=g d0)(h2:f' e2=g c)(hc:∀ x∈D,f x=c->f' (g x)=e1)(X8:∀ x∈D,f x=d0->f' (g x)=e2)(ho:∀ x∈D,f x≠c->f x≠d0->f' (g x)=g (f x))(nd:(D.map g++[e1,e2]).Nodup) :
  ∃ Ls,Ls.length=Ms.length+2/\Dec f' (D.map g++[e1,e2]) Ls/\∃ l∈Ls,e2∈l/\e1∉l:=by
 have ap:=d.apart;obtain⟨p,q,rfl⟩:=Ey hd;have CM:=Bq.mp ap.1;have MG:=Co.mp CM.2;have X9:=Bq.mp MG.2.1;have Ya:d0∉p:=λx=>MG.2.2 d0 x d0 Ae rfl;have Yb:c∉p:=λx=>CM.1<|Bc _ x;have Yc:c∉q:=λx=>CM.1<|Au _<|Ah _ x;obtain⟨a,ha,pp⟩:=d.fN _ Ae;have e:c=a:=pp.1;subst e;obtain⟨m,p1,p2⟩:=(bu (l:=c :: p)).mp pp;have e:d0=m:=p2.1;subst e;have inD:∀ y∈c :: p,y∈D:=λy hy=>d.sub Ae (by
  rcases Aj.mp hy with rfl | hy
  ·exact Ae
  ·exact Ah _<|Bc _ hy)
 have tj:∀ y∈d0 :: q,y∈D:=λy hy=>d.sub Ae<|Ah _<|Au _ hy;have MH:=Co.mp nd;have Yd:e1≠e2:=λe=>by
  have:=MH.2.1;rw [e] at this;simp at this
 refine⟨((c :: p).map g++[e2]) :: ((d0 :: q).map g++[e1]) :: Ms.map (List.map g),by simp,⟨λk hk=>?_,?_,nd⟩,_,Ae,Au _<|Ai.mpr rfl,λh=>?_⟩
 ·rcases Aj.mp hk with rfl | hk
  ·refine⟨g c,Bc _ Ae,bu.mpr ⟨e2,wX (λy hy=>X8 y<|inD y hy) (λy hy ne=>ho y (inD y hy) (λec=>?_) ne) Ya p1,rfl,h2⟩⟩
   rcases wW p1 hy with z | z
   ·exact Yb<|by rw [<- ec];exact z
   ·exact ne z
  ·rcases Aj.mp hk with rfl | hk
   ·refine⟨g d0,Bc _ Ae,bu.mpr ⟨e1,wX (λy hy=>hc y<|tj y hy) (λy hy ne=>ho y (tj y hy) ne λec=>?_) Yc p2,rfl,h1⟩⟩
    rcases wW p2 hy with z | z
    ·exact X9.1<|by rw [<- ec];exact z
    ·exact ne z
   ·exact d.rest (λx hx q=>ho x hx (λe=>q<|by rw [e];exact Ae) λe=>q<|by rw [e];exact Ah _<|Au _ Ae) k hk
 ·simp only [Ck,wY];have:=d.all.map g;rw [Ck,Ak,<- Fi,Ak] at this;refine List.Perm.trans ?_<|this.append_right [e1,e2];generalize (c :: p).map g=A;generalize (d0 :: q).map g=B;generalize Ms.flatten.map g=C
  letI:DecidableEq β:=λa b=>Classical.propDecidable<|a=b
  rw [List.perm_iff_count];intro z;simp only [List.count_append,Dq,List.count_nil];omega
 ·rcases Aq.mp h with h | h
  ·obtain⟨y,hy,e⟩:=Am.mp h;exact MH.2.2 e1 (Am.mpr ⟨y,inD y hy,e⟩) e1 Ae rfl
  ·exact Yd<|Ai.mp h
theorem Dec.more{f:β->β}{D:List β}{Ls:List (List β)}(d:Dec f D Ls){b:β}(hb:f b=b)(nd:(D++[b]).Nodup):Dec f (D++[b]) (Ls++[[b]]):=by
 refine⟨λl hl=>?_,?_,nd⟩
 ·rcases Aq.mp hl with h | h
  ·exact d.fN l h
  ·rw [Ai] at h;subst h;exact⟨b,Ae,rfl,hb⟩
 ·rw [Fo];exact d.all.append_right _
theorem Dec.carry{f:α->α}{f':β->β}{g:α->β}{D:List α}{D':List β}{Ls:List (List α)}(d:Dec f D Ls)(ho:∀ x∈D,f' (g x)=g (f x))(hD:(D.map g).Perm D')(nd:D'.Nodup):Dec f' D' (Ls.map<|List.map g):=by
 refine⟨λm hm=>?_,?_,nd⟩
 ·obtain⟨k,hk,rfl⟩:=Am.mp hm;obtain⟨a,ha,p⟩:=d.fN k hk;exact⟨g a,Am.mpr ⟨a,ha,rfl⟩,CL (λx hx=>ho x<|d.sub hk hx) p⟩
 ·rw [wY];exact(d.all.map g).trans hD
open PySem
theorem mr{α:Type} [DecidableEq α]:∀{a b:List α},a.Nodup->(∀ z∈a,z∈b)->b.length<=a.length->a.Perm b
 | [],b,_,_,hl=>by
  have:b=[]:=Be.mp<|Nat.le_zero.mp hl;rw [this]
 | x :: a,b,nd,sub,hl=>by
  have MI:=Bq.mp nd;have hx:=sub x Ae;have pb:=List.perm_cons_erase hx;refine List.Perm.trans ((mr MI.2 (λz hz=>?_) ?_).cons x) pb.symm
  ·exact(Em λe=>MI.1<|by rw [<- e];exact hz).mpr<|sub z<|Ah _ hz
  ·have:=pb.length_eq;rw [At] at this hl;omega
theorem jq{n:Net}(T:ay n){a b:End}{z:Str}(ha:aG n a=some z)(hb:aG n b=some z)(ne:a≠b):other n a=b:=by
 obtain⟨h1,_,h3⟩:=fk T ha;obtain⟨p,q,e,_,_⟩:=qk T ha;have m1:=aN.mpr ha;have m2:=aN.mpr hb;have m3:=aN.mpr h1;rw [e] at m1 m2 m3;simp only [Aj,Cb,FQ] at m1 m2 m3
 rcases m1 with rfl | rfl <;> rcases m2 with rfl | rfl <;> rcases m3 with m3 | m3 <;> first | exact m3 | exact absurd rfl ne | exact absurd m3 h3
def sh(c e:End):End:=if e.1=c.1/\c.2<=e.2 then(e.1,e.2+1) else e
theorem kJ(c e:End):(sh c e).1=e.1:=by unfold sh;split <;> rfl
theorem mv{c a b:End}(h:sh c a=sh c b):a=b:=by
 have h1:a.1=b.1:=by rw [<- kJ c a,h,kJ]
 have h2:=BX Prod.snd h;unfold sh at h2;refine GD h1 ?_
 by_cases x:a.1=c.1/\c.2<=a.2
 ·rw [BP x] at h2
  by_cases y:b.1=c.1/\c.2<=b.2
  ·rw [BP y] at h2;exact Nat.succ.inj h2
  ·rw [BL y] at h2;have h2:a.2+1=b.2:=h2;exact absurd ⟨h1 ▸ x.1,by omega⟩ y
 ·rw [BL x] at h2
  by_cases y:b.1=c.1/\c.2<=b.2
  ·rw [BP y] at h2;have h2:a.2=b.2+1:=h2;exact absurd ⟨h1 ▸ y.1,by omega⟩ x
  ·rw [BL y] at h2;exact h2
theorem mw(c e:End):sh c e≠c:=by
 intro h;have h1:e.1=c.1:=by rw [<- kJ c e,h]
 have h2:=BX Prod.snd h;unfold sh at h2
 by_cases x:e.1=c.1/\c.2<=e.2
 ·rw [BP x] at h2;have h2:e.2+1=c.2:=h2;omega
 ·rw [BL x] at h2;exact x ⟨h1,by omega⟩
section
variable{n:Net}{c:End}{z:Str}
theorem qw(hc:c.1 < n.length)(hp:c.2<=(row n c.1).length)(i:Nat):(row (ins n c z) i).length=if c.1=i then(row n i).length+1 else(row n i).length:=by
 rw [qm n c z i hc]
 by_cases h:c.1=i
 ·subst h;rw [BP rfl,BP rfl,Ag,At,Bo,Dj];omega
 ·rw [BL h,BL h]
theorem CO(hc:c.1 < n.length)(hp:c.2<=(row n c.1).length):aG (ins n c z) c=some z:=by
 unfold aG;rw [qm n c z c.1 hc,BP rfl,Ba (by rw [Bo];omega),Bo,show c.2 - min c.2 (row n c.1).length=0 by omega];rfl
theorem qz(hc:c.1 < n.length)(hp:c.2<=(row n c.1).length)(e:End):aG (ins n c z) (sh c e)=aG n e:=by
 unfold aG;rw [kJ,qm n c z e.1 hc];unfold sh
 by_cases h:c.1=e.1
 ·rw [BP h]
  by_cases k:c.2<=e.2
  ·rw [BP ⟨h.symm,k⟩,Ba (by rw [Bo];show _<=e.2+1;omega),Bo];show(z :: (row n e.1).drop c.2)[e.2+1 - min c.2 (row n e.1).length]?=_;rw [<- h,show e.2+1 - min c.2 (row n c.1).length=(e.2 - c.2)+1 by omega,Dv,QD,show c.2+(e.2 - c.2)=e.2 by omega]
  ·rw [BL λq=>k q.2,Aw (by rw [Bo,<- h];omega),Dy<|by omega]
 ·rw [BL h,BL λq=>h q.1.symm]
theorem my(hc:c.1 < n.length)(hp:c.2 < (row n c.1).length):left (ins n c z) c=sh c c:=by
 unfold left sh;rw [qw hc<|Ct hp,BP rfl,BP ⟨rfl,Al _⟩,Bj<|by omega]
theorem g5(hc:c.1 < n.length)(hp:c.2 < (row n c.1).length){e:End}(he:e.2 < (row n e.1).length):left (ins n c z) (sh c e)=if left n e=c then c else sh c (left n e):=by
 by_cases h:c.1=e.1
 ·have e1:(left n e).1=e.1:=rfl;have e2:(left n e).2=(e.2+1) % (row n e.1).length:=rfl;have q:(left n e=c)↔(e.2+1) % (row n e.1).length=c.2:=⟨λx=>by rw [<- e2,x],λx=>GD h.symm x⟩;have L:(left (ins n c z) (sh c e))=(e.1,((sh c e).2+1) % ((row n e.1).length+1)):=by
   unfold left;rw [kJ,qw hc<|Ct hp,BP h]
  rw [L];rw [h] at hp;have S:(sh c e).2=if c.2<=e.2 then e.2+1 else e.2:=by
   unfold sh
   by_cases k:c.2<=e.2
   ·rw [BP ⟨h.symm,k⟩,BP k]
   ·rw [BL λq=>k q.2,BL k]
  have S2:sh c (left n e)=(e.1,if c.2<=(e.2+1) % (row n e.1).length then(e.2+1) % (row n e.1).length+1 else(e.2+1) % (row n e.1).length):=by
   unfold sh
   by_cases k:c.2<=(e.2+1) % (row n e.1).length
   ·rw [BP ⟨h.symm,k⟩,BP k];rfl
   ·rw [BL λq=>k q.2,BL k];rfl
  rw [S,S2];generalize (row n e.1).length=m at *
  by_cases k:e.2+1 < m
  ·rw [Bj k] at q ⊢
   by_cases j:e.2+1=c.2
   ·rw [BP<|q.mpr j,BL (by omega),Bj<|by omega];exact GD h.symm j
   ·rw [BL λx=>j<|q.mp x]
    by_cases i:c.2<=e.2
    ·rw [BP i,BP (by omega),Bj<|by omega]
    ·rw [BL i,BL (by omega),Bj<|by omega]
  ·have em:e.2+1=m:=by omega
   rw [em,Eb] at q ⊢;rw [BP (by omega),Eb]
   by_cases j:0=c.2
   ·rw [BP<|q.mpr j];exact GD h.symm j
   ·rw [BL λx=>j<|q.mp x,BL<|by omega]
 ·have ne:left n e≠c:=λx=>h (by rw [<- x];rfl);rw [BL ne];have s1:sh c e=e:=by unfold sh;rw [BL λq=>h q.1.symm]
  have s2:sh c (left n e)=left n e:=by unfold sh;rw [BL λq=>h q.1.symm]
  rw [s1,s2];unfold left;rw [qw hc<|Ct hp,BL h]
end
def Pl(n:Net):Prop:=(ag n=[]/\n.length=1)\/∃ Ls,Dec (step n) (ends n) Ls/\2 * (n.length+Ls.length)=(ag n).length+4
structure dA(n m:Net)(g:End->End)(e1 e2:End)(z:Str):Prop where
 dB:∀ e∈ends n,aG m (g e)=aG n e
 t1:aG m e1=some z
 t2:aG m e2=some z
 inj:∀ a b,g a=g b->a=b
 n1:∀ a∈ends n,g a≠e1
 n2:∀ a∈ends n,g a≠e2
 ne:e1≠e2
 len:(ag m).length=(ag n).length+2
section
variable{n m:Net}{g:End->End}{e1 e2:End}{z:Str}
theorem dA.nd(p:dA n m g e1 e2 z):((ends n).map g++[e1,e2]).Nodup:=by
 rw [Co];refine⟨?_,?_,?_⟩
 ·exact(Ef.mpr<|(iP n).imp λ{a b} h e=>h<|p.inj a b e)
 ·simp [p.ne]
 ·rintro a ha b hb rfl;obtain⟨x,hx,rfl⟩:=Am.mp ha;simp only [Aj,Cb,FQ] at hb
  rcases hb with h | h
  ·exact p.n1 x hx h
  ·exact p.n2 x hx h
theorem dA.perm(p:dA n m g e1 e2 z):((ends n).map g++[e1,e2]).Perm (ends m):=by
 refine mr p.nd (λa ha=>?_)<|by rw [fm,p.len,Ag,Aa,fm];exact Al _
 rcases Aq.mp ha with h | h
 ·obtain⟨x,hx,rfl⟩:=Am.mp h;obtain⟨y,hy⟩:=af.mp hx;exact af.mpr ⟨y,by rw [p.dB x hx];exact hy⟩
 ·simp only [Aj,Cb,FQ] at h
  rcases h with rfl | rfl
  ·exact af.mpr ⟨z,p.t1⟩
  ·exact af.mpr ⟨z,p.t2⟩
theorem dA.ao(p:dA n m g e1 e2 z)(T:ay n)(T':ay m){e:End}(he:e∈ends n):other m (g e)=g (other n e):=by
 obtain⟨y,hy⟩:=af.mp he;obtain⟨h1,_,h3⟩:=fk T hy;exact jq T' (by rw [p.dB e he];exact hy) (by rw [p.dB _<|af.mpr ⟨y,h1⟩];exact h1) λh=>h3 (p.inj _ _ h).symm
theorem dA.o1(p:dA n m g e1 e2 z)(T':ay m):other m e1=e2:=jq T' p.t1 p.t2 p.ne
theorem dA.o2(p:dA n m g e1 e2 z)(T':ay m):other m e2=e1:=jq T' p.t2 p.t1 p.ne.symm
theorem Dec.perm{α:Type}{f:α->α}{D D':List α}{Ls:List (List α)}(d:Dec f D Ls)(h:D.Perm D'):Dec f D' Ls:=⟨d.fN,d.all.trans h,h.nodup_iff.mp d.nd⟩
theorem wZ{α:Type}{f:α->α}{l:List α}(h:∀ x∈l,f x∈l){a:α}(ha:a∈l):∀ k,it f k a∈l:=λk=>jh h ha k
theorem Dec.one{α:Type}{f:α->α}{D:List α}{a b:α}{l:List α}{Ms:List (List α)}(d:Dec f D<|(a :: l) :: Ms)(hb:b∈D)(h:(∃ k,it f k a=b)\/∃ k,it f k b=a)(ne:b≠a):b∈l:=by
 have cl:∀ k∈(a :: l) :: Ms,∀ x∈k,f x∈k:=λk hk x hx=>by
  obtain⟨c,hc,p⟩:=d.fN k hk;exact qv p hc hx
 have hm:b∈a :: l:=by
  rcases h with ⟨k,rfl⟩ | ⟨k,e⟩
  ·exact wZ (cl _ Ae) Ae k
  ·obtain⟨j,hj,ML⟩:=Dl.mp<|d.all.mem_iff.mpr hb
   rcases Aj.mp hj with rfl | CU
   ·exact ML
   ·have:=wZ (cl j hj) ML k;rw [e] at this;exact absurd this<|d.apart.2 j CU a Ae
 rcases Aj.mp hm with h | h
 ·exact absurd h ne
 ·exact h
theorem Ye(p:dA n m g e1 e2 z)(T:ay n)(T':ay m)(hl:m.length=n.length){k1 k2:End}(h1:k1∈ends n)(h2:k2∈ends n)(ne:k2≠k1)(same:(∃ k,it (step n) k k1=k2)\/∃ k,it (step n) k k2=k1)
  (l1:left m e1=g k1) (l2:left m e2=g k2) (lf:∀ e∈ends n,left m (g e)=if left n e=k1 then e1 else if left n e=k2 then e2 else g (left n e)) (P:Pl n):Pl m:=by
 have st:∀ x∈ends n,step m (g x)=if step n x=k1 then e1 else if step n x=k2 then e2 else g (step n x):=λx hx=>by
  unfold step;rw [p.ao T T' hx];exact lf _<|dM T hx
 rcases P with ⟨e,_⟩ | ⟨Ls,d,eu⟩
 ·obtain⟨y,hy⟩:=af.mp h1;have:=fj hy;rw [e] at this;cases this
 ·obtain⟨l,Ms,hL,d⟩:=d.pick h1;have hk:=d.one h2 same ne;obtain⟨MM,Yf,d',_⟩:=d.split (f':=step m) (g:=g) hk (e1:=e1) (e2:=e2) (by unfold step;rw [p.o1 T'];exact l2) (by unfold step;rw [p.o2 T'];exact l1)
   (λx hx e=>by rw [st x hx,BP e]) (λx hx e=>by rw [st x hx,BL (by rw [e];exact ne),BP e]) (λx hx a b=>by rw [st x hx,BL a,BL b]) p.nd
  refine .inr ⟨MM,d'.perm p.perm,?_⟩;have:=p.len;omega
theorem Yg(p:dA n m g e1 e2 z)(T:ay n)(T':ay m)(hl:m.length=n.length){c:End}(h1:c∈ends n)
  (l1:left m e1=g c) (l2:left m e2=e1) (lf:∀ e∈ends n,left m (g e)=if left n e=c then e2 else g (left n e)) (P:Pl n):Pl m:=by
 have st:∀ x∈ends n,step m (g x)=if step n x=c then e2 else g (step n x):=λx hx=>by
  unfold step;rw [p.ao T T' hx];exact lf _<|dM T hx
 rcases P with ⟨e,_⟩ | ⟨Ls,d,eu⟩
 ·obtain⟨y,hy⟩:=af.mp h1;have:=fj hy;rw [e] at this;cases this
 ·obtain⟨l,Ms,hL,d⟩:=d.pick h1;have nd:=p.nd;have oj:((ends n).map g++[e2]++[e1]).Nodup:=by
   rw [Ay];exact((List.Perm.swap e1 e2 []).append_left _).nodup_iff.mpr nd
  have d1:=d.grow (f':=step m) (g:=g) (new:=[e2]) (h:=e2) ⟨rfl,by unfold step;rw [p.o2 T'];exact l1⟩ (λx hx e=>by rw [st x hx,BP e]) (λx hx e=>by rw [st x hx,BL e]) (Co.mp oj).1;have d2:=d1.more (b:=e1) (by unfold step;rw [p.o1 T'];exact l2) oj;have pm:((ends n).map g++[e2]++[e1]).Perm (ends m):=by
   refine List.Perm.trans ?_ p.perm;rw [Ay];exact(List.Perm.swap e1 e2 []).append_left _
  refine .inr ⟨_,d2.perm pm,?_⟩;have:=p.len;simp only [Ag,At,Aa,Fb];omega
theorem Yh(p:dA n m g e1 e2 z)(T:ay n)(T':ay m)(hl:m.length=n.length+1){c:End}(h1:c∈ends n)
  (l1:left m e1=g c) (l2:left m e2=e2) (lf:∀ e∈ends n,left m (g e)=if left n e=c then e1 else g (left n e)) (P:Pl n):Pl m:=by
 have st:∀ x∈ends n,step m (g x)=if step n x=c then e1 else g (step n x):=λx hx=>by
  unfold step;rw [p.ao T T' hx];exact lf _<|dM T hx
 rcases P with ⟨e,_⟩ | ⟨Ls,d,eu⟩
 ·obtain⟨y,hy⟩:=af.mp h1;have:=fj hy;rw [e] at this;cases this
 ·obtain⟨l,Ms,hL,d⟩:=d.pick h1;have s1:step m e1=e2:=by unfold step;rw [p.o1 T'];exact l2
  have s2:step m e2=g c:=by unfold step;rw [p.o2 T'];exact l1
  have d1:=d.grow (f':=step m) (g:=g) (new:=[e1,e2]) (h:=e1) ⟨rfl,by rw [s1];exact⟨rfl,s2⟩⟩ (λx hx e=>by rw [st x hx,BP e]) (λx hx e=>by rw [st x hx,BL e]) p.nd;refine .inr ⟨_,d1.perm p.perm,?_⟩;have:=p.len;simp only [At,Aa];omega
end
theorem dS{n:Net}{e:End}(h:e∈ends n):e.1 < n.length/\e.2 < (row n e.1).length:=by
 obtain⟨z,hz⟩:=af.mp h;exact⟨cg hz,eN hz⟩
section
variable{n:Net}{z:Str}
theorem MO{k1 k2:End}(h1:k1.1 < n.length/\k1.2<=(row n k1.1).length)(h2:k2.1 < n.length/\k2.2<=(row n k2.1).length):dA n (ins (ins n k1 z) k2 z) (λe=>sh k2<|sh k1 e) (sh k2 k1) k2 z:=by
 have c2:k2.1 < (ins n k1 z).length:=by rw [fZ];exact h2.1
 have p2:k2.2<=(row (ins n k1 z) k2.1).length:=by
  rw [qw h1.1 h1.2]
  split
  ·have:=h2.2;omega
  ·exact h2.2
 refine⟨λe _=>?_,?_,CO c2 p2,λa b h=>mv<|mv h,λa _ h=>mw k1 a<|mv h,λa _=>mw k2 _,mw k2 k1,?_⟩
 ·show aG _ (sh k2<|sh k1 e)=_;rw [qz c2 p2,qz h1.1 h1.2]
 ·rw [qz c2 p2];exact CO h1.1 h1.2
 ·rw [(jX _ k2 z c2).length_eq,At,(jX _ k1 z h1.1).length_eq,At]
theorem Yi{k1 k2:End}(T:ay n)(T':ay<|ins (ins n k1 z) k2 z)(h1:k1∈ends n)(h2:k2∈ends n)(ord:k2=k1\/sh k1 k2=k2)(same:(∃ k,it (step n) k k1=k2)\/∃ k,it (step n) k k2=k1)(P:Pl n):Pl (ins (ins n k1 z) k2 z):=by
 have r1:=dS h1;have r2:=dS h2;have p:=MO (z:=z) (k1:=k1) (k2:=k2) ⟨r1.1,Ct r1.2⟩ ⟨r2.1,Ct r2.2⟩;have c2:k2.1 < (ins n k1 z).length:=by rw [fZ];exact r2.1
 have rl:∀ i,(row n i).length<=(row (ins n k1 z) i).length:=λi=>by
  rw [qw r1.1<|Ct r1.2]
  split <;> omega
 have p2:k2.2 < (row (ins n k1 z) k2.1).length:=Bf r2.2<|rl _;have p1:k1.2 < (row (ins n k1 z) k1.1).length:=Bf r1.2<|rl _;have hl:(ins (ins n k1 z) k2 z).length=n.length:=by rw [fZ,fZ]
 have sl:∀ e∈ends n,(sh k1 e).2 < (row (ins n k1 z) (sh k1 e).1).length:=λe he=>by
  obtain⟨y,hy⟩:=af.mp he;exact eN (z:=y)<|by rw [qz r1.1<|Ct r1.2];exact hy
 have l0:left (ins n k1 z) k1=sh k1 k1:=my r1.1 r1.2
 by_cases e:k2=k1
 ·subst e;refine Yg p T T' hl h1 ?_ (my c2 p2) (λe he=>?_) P
  ·rw [g5 c2 p2 p1,l0,BL<|mw _ _]
  ·show left _ (sh k2<|sh k2 e)=_;rw [g5 c2 p2<|sl e he,g5 r1.1 r1.2 (dS he).2]
   by_cases q:left n e=k2
   ·rw [BP q,BP rfl,BP q]
   ·rw [BL q,BL<|mw _ _,BL q]
 ·have hs:sh k1 k2=k2:=ord.resolve_left e;refine Ye p T T' hl h1 h2 e same ?_ ?_ (λe' he=>?_) P
  ·rw [g5 c2 p2 p1,l0,BL λq=>e<|mv (c:=k1)<|by rw [hs,q]]
  ·show left _ k2=sh k2 (sh k1 k2);rw [hs];exact my c2 p2
  ·show left _ (sh k2<|sh k1 e')=if left n e'=k1 then sh k2 k1 else if left n e'=k2 then k2 else sh k2 (sh k1<|left n e');rw [g5 c2 p2<|sl e' he,g5 r1.1 r1.2 (dS he).2]
   by_cases q:left n e'=k1
   ·rw [BP q,BP q,BL λx=>e x.symm]
   ·rw [BL q,BL q]
    by_cases q2:left n e'=k2
    ·rw [BP q2,q2,hs,BP rfl]
    ·rw [BL q2,BL λx=>q2<|mv (c:=k1)<|by rw [x,hs]]
theorem mz{a b:Net}{i:Nat}(h:i < a.length):row (a++b) i=row a i:=by
 unfold row;rw [Aw h]
theorem w5{a:Net}{x:Str×List Str}:row (a++[x]) a.length=x.2:=by
 unfold row;rw [Ba<|Al _];simp
theorem MQ{c:End}{pt:Str}(h1:c.1 < n.length/\c.2<=(row n c.1).length):dA n (ins n c z++[(pt,[z])]) (sh c) c (n.length,0) z:=by
 have la:∀ e:End,e.1 < n.length->aG (ins n c z++[(pt,[z])]) e=aG (ins n c z) e:=λe he=>by
  unfold aG;rw [mz<|by rw [fZ];exact he]
 refine⟨λe he=>?_,?_,?_,λa b h=>mv h,λa _=>mw c a,λa ha h=>?_,λh=>?_,?_⟩
 ·rw [la _ (by rw [kJ];exact(dS he).1),qz h1.1 h1.2]
 ·rw [la _ h1.1,CO h1.1 h1.2]
 ·unfold aG;have:=w5 (a:=ins n c z) (x:=(pt,[z]));rw [fZ] at this;show(row _ n.length)[0]?=_;rw [this];rfl
 ·have:=(dS ha).1;rw [<- kJ c a,h] at this;exact absurd this<|Cs _
 ·have:=h1.1;rw [h] at this;exact absurd this<|Cs _
 ·unfold ag;rw [Dg,Ag];have:=(jX _ c z h1.1).length_eq;unfold ag at this;rw [this];rfl
theorem Yj{c:End}{pt:Str}(T:ay n)(T':ay<|ins n c z++[(pt,[z])])(h1:c∈ends n)(P:Pl n):Pl (ins n c z++[(pt,[z])]):=by
 have r1:=dS h1;have p:=MQ (z:=z) (c:=c) (pt:=pt) ⟨r1.1,Ct r1.2⟩;have la:∀ e:End,e.1 < n.length->left (ins n c z++[(pt,[z])]) e=left (ins n c z) e:=λe he=>by
  unfold left;rw [mz<|by rw [fZ];exact he]
 refine Yh p T T' (by rw [Ag,fZ];rfl) h1 ?_ ?_ (λe he=>?_) P
 ·rw [la _ r1.1];exact my r1.1 r1.2
 ·unfold left;have:=w5 (a:=ins n c z) (x:=(pt,[z]));rw [fZ] at this;show(n.length,(0+1) % (row _ n.length).length)=_;rw [this];exact BX (Prod.mk _)<|Eb 1
 ·rw [la _<|by rw [kJ];exact(dS he).1];exact g5 r1.1 r1.2 (dS he).2
end
theorem MR{m:Net}{z:Str}{e1 e2:End}(T':ay m)(hE:ends m=[e1,e2])(t1:aG m e1=some z)(t2:aG m e2=some z)(ne:e1≠e2)
  (h:(m.length=2/\left m e1=e1/\left m e2=e2)\/(m.length=1/\left m e1=e2/\left m e2=e1)):Pl m:=by
 have o1:=jq T' t1 t2 ne;have o2:=jq T' t2 t1 ne.symm;have hl:(ag m).length=2:=by rw [<- fm,hE];rfl
 have nd:[e1,e2].Nodup:=by simp [ne]
 rcases h with ⟨hm,l1,l2⟩ | ⟨hm,l1,l2⟩
 ·refine .inr ⟨[[e1,e2]],?_,by rw [hm,hl];rfl⟩;rw [hE];refine⟨λl hl=>?_,List.Perm.refl _,nd⟩;rw [Ai] at hl;subst hl;refine⟨e1,Ae,rfl,?_⟩;unfold step;rw [o1,l2];exact⟨rfl,by show left m (other m e2)=e1;rw [o2,l1]⟩
 ·refine .inr ⟨[[e1],[e2]],?_,by rw [hm,hl];rfl⟩;rw [hE];refine⟨λl hl=>?_,List.Perm.refl _,nd⟩;simp only [Aj,Cb,FQ] at hl
  rcases hl with rfl | rfl
  ·exact⟨e1,Ae,rfl,by show left m (other m e1)=e1;rw [o1,l2]⟩
  ·exact⟨e2,Ae,rfl,by show left m (other m e2)=e2;rw [o2,l1]⟩
theorem Yk{nm pt z:Str}(T':ay [(nm,[z]),(pt,[z])]):Pl [(nm,[z]),(pt,[z])]:=
 MR (e1:=(0,0)) (e2:=(1,0)) (z:=z) T' rfl rfl rfl (by decide) (.inl ⟨rfl,by simp [left,row],by simp [left,row]⟩)
theorem Yl{nm z:Str}(T':ay [(nm,[z,z])]):Pl [(nm,[z,z])]:=
 MR (e1:=(0,0)) (e2:=(0,1)) (z:=z) T' rfl rfl rfl (by decide) (.inr ⟨rfl,by simp [left,row],by simp [left,row]⟩)
theorem Ym{n m:Net}{g:End->End}(T:ay n)(T':ay m)(hl:m.length=n.length)(ht:(ag m).length=(ag n).length)(dB:∀ e∈ends n,aG m (g e)=aG n e)(inj:∀ a∈ends n,∀ b∈ends n,g a=g b->a=b)
  (lf:∀ e∈ends n,left m (g e)=g (left n e)) (P:Pl n):Pl m:=by
 rcases P with ⟨e,h⟩ | ⟨Ls,d,eu⟩
 ·exact .inl ⟨Be.mp (by rw [ht,e];rfl),by rw [hl,h]⟩
 ·have nd:((ends n).map g).Nodup:=by
   have:∀(l:List End),(∀ x∈l,x∈ends n)->l.Nodup->(l.map g).Nodup:=by
    intro l
    induction l with
    | nil=>intro _ _;exact Cp
    | cons x l ih=>
     intro hs h;have h:=Bq.mp h;rw [Bd];refine Bq.mpr ⟨λhx=>?_,ih (λy hy=>hs y<|Ah _ hy) h.2⟩;obtain⟨y,hy,e⟩:=Am.mp hx;have:=inj y (hs y<|Ah _ hy) x (hs x Ae) e;exact h.1<|this ▸ hy
   exact this _ (λx hx=>hx)<|iP n
  have pm:((ends n).map g).Perm (ends m):=by
   refine mr nd (λa ha=>?_) (by rw [Aa,fm,fm,ht];exact Al _);obtain⟨x,hx,rfl⟩:=Am.mp ha;obtain⟨y,hy⟩:=af.mp hx;exact af.mpr ⟨y,by rw [dB x hx];exact hy⟩
  refine .inr ⟨_,d.carry (f':=step m) (g:=g) (λx hx=>?_) pm<|iP m,by rw [Aa,hl,ht];exact eu⟩;obtain⟨y,hy⟩:=af.mp hx;obtain⟨h1,_,h3⟩:=fk T hy;have ho:other n x∈ends n:=af.mpr ⟨y,h1⟩;have:other m (g x)=g (other n x):=jq T' (by rw [dB x hx];exact hy) (by rw [dB _ ho];exact h1) λh=>h3 (inj _ hx _ ho h).symm;unfold step;rw [this];exact lf _ ho
def mC(i len q:Nat):Nat:=if i<=q then q - i else q+len - i
def dk(N j i len:Nat)(e:End):End:=if e.1 < j then e else if e.1=j then(N - 1,mC i len e.2) else(e.1 - 1,e.2)
theorem MS{a:Net}{j:Nat}{x:Str×List Str}(hj:j < a.length)(r:Nat)(hr:r < a.length):row (a.eraseIdx j++[x]) (if r < j then r else if r=j then a.length - 1 else r - 1)=if r=j then x.2 else row a r:=by
 have le:(a.eraseIdx j).length=a.length - 1:=by rw [Ds,BP hj]
 by_cases h1:r < j
 ·rw [BP h1,BL (by omega),mz<|by rw [le];omega];unfold row;rw [Fy,BP h1]
 ·rw [BL h1]
  by_cases h2:r=j
  ·rw [BP h2,BP h2,<- le,w5]
  ·rw [BL h2,BL h2,mz<|by rw [le];omega];unfold row;rw [Fy,BL (by omega),show r - 1+1=r by omega]
theorem Yn{i len q:Nat}(hi:i < len)(hq:q < len):(mC i len q+1) % len=mC i len ((q+1) % len):=by
 unfold mC
 by_cases k:q+1 < len
 ·rw [Bj k]
  by_cases h:i<=q
  ·rw [BP h,BP (by omega),Bj<|by omega];omega
  ·rw [BL h]
   by_cases h2:q+1=i
   ·rw [BP (by omega),show q+len - i+1=len by omega,Eb];omega
   ·rw [BL (by omega),Bj<|by omega];omega
 ·have e:q+1=len:=by omega
  rw [e,Eb,BP<|by omega]
  by_cases h:i=0
  ·rw [BP (by omega),show q - i+1=len by omega,Eb];omega
  ·rw [BL (by omega),Bj<|by omega];omega
theorem Yo{l:List Str}{i q:Nat}(hi:i < l.length)(hq:q < l.length):(l.drop i++l.take i)[mC i l.length q]?=l[q]?:=by
 unfold mC
 by_cases h:i<=q
 ·rw [BP h,Aw (by rw [Dj];omega),QD,show i+(q - i)=q by omega]
 ·rw [BL h,Ba (by rw [Dj];omega),Dj,Dy (by omega),show q+l.length - i - (l.length - i)=q by omega]
theorem MT{a:Net}{j i:Nat}{x:Str}(hj:j < a.length)(hi:i < max 1 (row a j).length):∃ g:End->End,(∀ e∈ends a,aG (a.eraseIdx j++[(x,(row a j).drop i++(row a j).take i)]) (g e)=aG a e)/\(∀ b∈ends a,∀ c∈ends a,g b=g c->b=c) /\
  ∀ e∈ends a,left (a.eraseIdx j++[(x,(row a j).drop i++(row a j).take i)]) (g e)=g (left a e):=by
 have fst:∀ e:End,(dk a.length j i (row a j).length e).1=if e.1 < j then e.1 else if e.1=j then a.length - 1 else e.1 - 1:=λe=>by
  unfold dk
  by_cases h:e.1 < j
  ·rw [BP h,BP h]
  ·rw [BL h,BL h]
   by_cases h2:e.1=j
   ·rw [BP h2,BP h2]
   ·rw [BL h2,BL h2]
 have snd:∀ e:End,(dk a.length j i (row a j).length e).2=if e.1=j then mC i (row a j).length e.2 else e.2:=λe=>by
  unfold dk
  by_cases h:e.1 < j
  ·rw [BP h,BL<|by omega]
  ·rw [BL h]
   by_cases h2:e.1=j
   ·rw [BP h2,BP h2]
   ·rw [BL h2,BL h2]
 have w6:∀ e:End,e.1 < a.length->row (a.eraseIdx j++[(x,(row a j).drop i++(row a j).take i)]) (dk a.length j i (row a j).length e).1=if e.1=j then(row a j).drop i++(row a j).take i else row a e.1:=λe he=>by
  rw [fst,MS hj e.1 he]
 refine⟨dk a.length j i (row a j).length,λe he=>?_,λb hb c hc h=>?_,λe he=>?_⟩
 ·have r:=dS he;unfold aG;rw [w6 e r.1,snd]
  by_cases h:e.1=j
  ·rw [BP h,BP h,<- h,Yo (by have:=hi;rw [<- h] at this;omega) r.2]
  ·rw [BL h,BL h]
 ·have rb:=dS hb;have rc:=dS hc;have h1:=BX Prod.fst h;have h2:=BX Prod.snd h;rw [fst,fst] at h1;rw [snd,snd] at h2
  by_cases p:b.1=j
  ·by_cases q:c.1=j
   ·rw [BP p,BP q] at h2;refine GD (by rw [p,q]) ?_;have rb:=rb.2;have rc:=rc.2;rw [p] at rb;rw [q] at rc;unfold mC at h2
    by_cases u:i<=b.2
    ·rw [BP u] at h2
     by_cases v:i<=c.2
     ·rw [BP v] at h2;omega
     ·rw [BL v] at h2;omega
    ·rw [BL u] at h2
     by_cases v:i<=c.2
     ·rw [BP v] at h2;omega
     ·rw [BL v] at h2;omega
   ·exfalso
    rw [BL (by omega),BP p] at h1;have:=rc.1
    by_cases u:c.1 < j
    ·rw [BP u] at h1;omega
    ·rw [BL u,BL q] at h1;omega
  ·by_cases q:c.1=j
   ·exfalso
    have:=rb.1;rw [BL (show ¬ c.1 < j by omega),BP q] at h1
    by_cases u:b.1 < j
    ·rw [BP u] at h1;omega
    ·rw [BL u,BL p] at h1;omega
   ·rw [BL p,BL q] at h2;refine GD ?_ h2;rw [BL p,BL q] at h1
    by_cases u:b.1 < j
    ·rw [BP u] at h1
     by_cases v:c.1 < j
     ·rw [BP v] at h1;exact h1
     ·rw [BL v] at h1;omega
    ·rw [BL u] at h1
     by_cases v:c.1 < j
     ·rw [BP v] at h1;omega
     ·rw [BL v] at h1;omega
 ·have r:=dS he;have L1:(left a e).1=e.1:=rfl;have L2:(left a e).2=(e.2+1) % (row a e.1).length:=rfl;refine GD ?_ ?_
  ·show(dk a.length j i (row a j).length e).1=(dk a.length j i (row a j).length<|left a e).1;rw [fst,fst,L1]
  ·show((dk a.length j i (row a j).length e).2+1) % (row _ (dk a.length j i (row a j).length e).1).length=(dk a.length j i (row a j).length<|left a e).2;rw [w6 e r.1,snd,snd,L1,L2]
   by_cases h:e.1=j
   ·rw [BP h,BP h,BP h,Ag,Dj,Bo];have r2:=r.2;rw [h] at r2 ⊢;rw [show(row a j).length - i+min i (row a j).length=(row a j).length by omega];exact Yn (by omega) r2
   ·rw [BL h,BL h,BL h]
theorem Yp{a:Net}{j i:Nat}{x:Str}(hj:j < a.length)(hi:i < max 1 (row a j).length)(T:ay a) (T':ay<|a.eraseIdx j++[(x,(row a j).drop i++(row a j).take i)])
  (ht:(ag<|a.eraseIdx j++[(x,(row a j).drop i++(row a j).take i)]).length=(ag a).length) (P:Pl a):Pl (a.eraseIdx j++[(x,(row a j).drop i++(row a j).take i)]):=by
 obtain⟨g,h1,h2,h3⟩:=MT (x:=x) hj hi;exact Ym (g:=g) T T' (by rw [Ag,Ds,BP hj,Cw];omega) ht h1 h2 h3 P
theorem MU{α:Type}(f:α->α)(a:α):∀ k,it f k (f a)=it f (k+1) a
 | 0=>rfl
 | k+1=>by show f (it f k<|f a)=f (it f (k+1) a);rw [MU f a k]
theorem CY{α:Type}{f:α->α}:∀{l:List α} {a b x:α},dz f l a b->x∈l->∃ k,it f k a=x
 | y :: l,a,b,x,h,hx=>by
  rcases Aj.mp hx with rfl | hx
  ·exact⟨0,h.1.symm⟩
  ·obtain⟨k,e⟩:=CY h.2 hx;refine⟨k+1,?_⟩;rw [<- MU,<- h.1];exact e
theorem Dec.unique{α:Type} [DecidableEq α] {f:α->α}:∀{Ls Ms:List (List α)} {D:List α},Dec f D Ls->Dec f D Ms->Ls.length=Ms.length
 | [],Ms,D,d,d'=>by
  have e:D=[]:=List.Perm.eq_nil d.all.symm;subst e;cases Ms with
  | nil=>rfl
  | cons m Ms=>
   obtain⟨a,ha,_⟩:=d'.fN m Ae;have:=d'.sub Ae ha;cases this
 | l :: Ls,Ms,D,d,d'=>by
  obtain⟨c,hc,p⟩:=d.fN l Ae;obtain⟨l',MV,hL,w8⟩:=d'.pick<|d.sub Ae hc;obtain⟨c',aZ,p'⟩:=w8.fN _ Ae;have e:c=c':=p'.1;subst e;have s1:∀ x∈l,x∈c :: l':=λx hx=>by
   obtain⟨k,rfl⟩:=CY p hx;exact wZ (λy hy=>qv p' aZ hy) aZ k
  have s2:∀ x∈c :: l',x∈l:=λx hx=>by
   obtain⟨k,rfl⟩:=CY p' hx;exact wZ (λy hy=>qv p hc hy) hc k
  have pm:l.Perm (c :: l'):=mr d.apart.1 s1<|aK w8.apart.1 s2;have q:Ls.flatten.Perm MV.flatten:=by
   have h1:=d.all.trans w8.all.symm;rw [Ck,Ck] at h1;exact(List.perm_append_left_iff l).mp<|h1.trans<|pm.symm.append_right _
  have nd:=d.all.nodup_iff.mpr d.nd;rw [Ck,Co] at nd;have:=Dec.unique (Ls:=Ls) (Ms:=MV) (D:=Ls.flatten) ⟨λk hk=>d.fN k<|Ah _ hk,List.Perm.refl _,nd.2.1⟩ ⟨λk hk=>w8.fN k<|Ah _ hk,q.symm,nd.2.1⟩;rw [At,this,hL]
theorem MX(n:Net)(e:End):∀ k,dz (step n) (fl n e k) e<|it (step n) k e
 | 0=>rfl
 | k+1=>by
  rw [MD];exact bu.mpr ⟨_,MX n e k,rfl,rfl⟩
theorem tq{n:Net}(T:ay n){e:End}(h:e∈ends n):e∈face n e/\dz (step n) (face n e) e e:=by
 have f:=jo T h;have h0:=f.at' 0 f.pos;refine⟨An h0,?_⟩;have:=MX n e<|ix n e;have e2:face n e=fl n e (ix n e):=rfl;have hl:(face n e).length=ix n e:=by rw [e2,oh]
 rw [<- hl,f.back,hl] at this;exact this
theorem Yq{n:Net}(T:ay n){e:End}(h:e∈ends n):∀ i j,it (step n) i e=it (step n) (i+j) e->it (step n) j e=e:=by
 have hf:∀ a∈ends n,step n a∈ends n:=λa ha=>jg T ha;intro i
 induction i with
 | zero=>intro j e;rw [Fw] at e;exact e.symm
 | succ i ih=>
  intro j e;refine ih j ?_;rw [show i+1+j=(i+j)+1 by omega] at e;exact wm T (jh hf h i) (jh hf h<|i+j) e
theorem Yr{n:Net}(T:ay n){e:End}(h:e∈ends n):(face n e).Nodup:=by
 have f:=jo T h;unfold List.Nodup;rw [Az];intro i j hi hj gu q;have a:=f.at' i hi;have b:=f.at' j hj;rw [Ab hi] at a;rw [Ab hj] at b;have a:=Option.some.inj a;have b:=Option.some.inj b;rw [q,b] at a;refine f.first (j - i) (by omega) (by omega) (Yq T h i (j - i) ?_);rw [show i+(j - i)=j by omega];exact a.symm
def lx(a b:End):Prop:=a.1 < b.1\/(a.1=b.1/\a.2 < b.2)
theorem MY(r:Nat):∀(ts:List Str) (p:Nat),((bz r ts p).map (·.2)).Pairwise lx
 | [],p=>List.Pairwise.nil
 | t :: ts,p=>by
  show(((r,p):End) :: (bz r ts<|p+1).map (·.2)).Pairwise lx;refine List.Pairwise.cons (λb hb=>?_)<|MY r ts<|p+1;obtain⟨⟨z,e⟩,hx,rfl⟩:=Am.mp hb;obtain⟨h1,h2,_⟩:=bf.mp hx;exact .inr ⟨h1.symm,by show p < e.2;omega⟩
theorem MZ:∀(n:Net) (k:Nat),((fh k n).map (·.2)).Pairwise lx
 | [],k=>List.Pairwise.nil
 | a :: n,k=>by
  unfold fh;rw [Ak,Gg];refine⟨MY k a.2 0,MZ n<|k+1,λx hx y hy=>?_⟩;obtain⟨⟨z,e⟩,h1,rfl⟩:=Am.mp hx;obtain⟨⟨z',e'⟩,h2,rfl⟩:=Am.mp hy;have q1:=(bf.mp h1).1;have q2:=(bq.mp h2).1;exact .inl<|by show e.1 < e'.1;omega
theorem Ys(n:Net):(ends n).Pairwise lx:=MZ n 0
theorem M0{a b:End}(h:lx a b):¬ lx b a:=by
 unfold lx at *;omega
def Told(n:Net)(told:List End):Prop:=∀ x∈told,step n x∈told
theorem Yu{n:Net}(T:ay n){told:List End}(hc:Told n told){e:End}(h:e∈ends n)(hn:e∉told):∀ c∈face n e,c∉told:=by
 intro c Yv Yw;obtain⟨he,p⟩:=tq T h;obtain⟨A,B,q⟩:=Ey Yv;rw [q] at p;obtain⟨m,p1,p2⟩:=bu.mp p;have e1:c=m:=p2.1;subst e1;have:∀(l:List End) (a b:End),dz (step n) l a b->a∈told->b∈told:=by
  intro l
  induction l with
  | nil=>intro a b h ha;rw [<- (show a=b from h)];exact ha
  | cons x l ih=>intro a b h ha;exact ih _ _ h.2<|hc _<|h.1 ▸ ha
 exact hn<|this _ _ _ p2 Yw
theorem Yx{n:Net}(T:ay n){told:List End}(hc:Told n told){e:End}(h:e∈ends n):Told n (told++face n e):=by
 intro x hx
 rcases Aq.mp hx with q | q
 ·exact Bc _<|hc x q
 ·obtain⟨he,p⟩:=tq T h;exact Au _<|qv p he q
structure tu(n:Net)(es told:List End)(Fs:List<|List End):Prop where
 face:∀ w∈Fs,∃ e∈es,w=Nt.face n e/\e∈ends n/\∀ c∈w,¬ lx c e
 cov:∀ e∈es,e∈told\/∃ w∈Fs,e∈w
 nd:Fs.flatten.Nodup
 out:∀ w∈Fs,∀ c∈w,c∉told
 ord:Fs.Pairwise λv w=>∀ a b,v[0]?=some a->w[0]?=some b->lx a b
theorem C0{n:Net}(T:ay n):∀(es told pre:List End),ends n=pre++es->(∀ x∈pre,x∈told)->Told n told->tu n es told (gZ n es told)
 | [],told,pre,_,_,_=>by
  unfold gZ;exact⟨λw hw=>(nomatch hw),λe he=>(nomatch he),Cp,λw hw=>(nomatch hw),List.Pairwise.nil⟩
 | e :: r,told,pre,hE,hp,hc=>by
  have M1:ends n=(pre++[e])++r:=by rw [hE,Ay];rfl
  have he:e∈ends n:=by rw [hE];exact Au _ Ae
  have jY:=Ys n;rw [hE,Gg] at jY;have aM:=(Cu.mp jY.2.1).1;unfold gZ
  split
  ·rename_i ht;have I:=C0 T r told (pre++[e]) M1 (λx hx=>by
    rcases Aq.mp hx with q | q
    ·exact hp x q
    ·rw [Ai] at q;rw [q];exact ht) hc
   exact⟨λw hw=>by obtain⟨a,h1,h2⟩:=I.face w hw;exact⟨a,Ah _ h1,h2⟩,λx hx=>by
    rcases Aj.mp hx with rfl | hx
    ·exact .inl ht
    ·exact I.cov x hx,I.nd,I.out,I.ord⟩
  ·rename_i ht;have fp:=tq T he;have ap:=Yu T hc he ht;have I:=C0 T r (told++face n e) (pre++[e]) M1 (λx hx=>by
    rcases Aq.mp hx with q | q
    ·exact Bc _<|hp x q
    ·rw [Ai] at q;rw [q];exact Au _ fp.1)<|Yx T hc he
   refine⟨λw hw=>?_,λx hx=>?_,?_,λw hw c tE=>?_,?_⟩
   ·rcases Aj.mp hw with rfl | hw
    ·refine⟨e,Ae,rfl,he,λc tE q=>?_⟩;have h1:=tf T he c tE;rw [hE] at h1
     rcases Aq.mp h1 with h1 | h1
     ·exact ap c tE<|hp c h1
     ·rcases Aj.mp h1 with rfl | h1
      ·exact M0 q q
      ·exact M0 q<|aM c h1
    ·obtain⟨a,h1,h2⟩:=I.face w hw;exact⟨a,Ah _ h1,h2⟩
   ·rcases Aj.mp hx with rfl | hx
    ·exact .inr ⟨_,Ae,fp.1⟩
    ·rcases I.cov x hx with q | ⟨w,h1,h2⟩
     ·rcases Aq.mp q with q | q
      ·exact .inl q
      ·exact .inr ⟨_,Ae,q⟩
     ·exact .inr ⟨w,Ah _ h1,h2⟩
   ·rw [Ck,Co];refine⟨Yr T he,I.nd,λa ha b hb q=>?_⟩;obtain⟨w,hw,Yy⟩:=Dl.mp hb;exact I.out w hw b Yy<|Au _<|q ▸ ha
   ·rcases Aj.mp hw with rfl | hw
    ·exact ap c tE
    ·exact λq=>I.out w hw c tE<|Bc _ q
   ·refine List.Pairwise.cons (λw hw a b ha hb=>?_) I.ord;obtain⟨e',h1,rfl,h2,_⟩:=I.face w hw;have f1:=(jo T he).at' 0 (jo T he).pos;have f2:=(jo T h2).at' 0 (jo T h2).pos;rw [ha] at f1;rw [hb] at f2;rw [Option.some.inj f1,Option.some.inj f2];exact aM e' h1
theorem qA{n:Net}(T:ay n)(h0:ends n≠[]):tu n (ends n) [] (aU n):=by
 unfold aU;rw [BL h0];exact C0 T (ends n) [] [] rfl (λx hx=>by cases hx) (λx hx=>by cases hx)
theorem C1{n:Net}(T:ay n)(h0:ends n≠[]):Dec (step n) (ends n) (aU n):=by
 have g:=qA T h0;refine⟨λl hl=>?_,?_,iP n⟩
 ·obtain⟨e,_,rfl,he,_⟩:=g.face l hl;exact⟨e,tq T he⟩
 ·refine mr g.nd (λz hz=>?_)<|aK (iP n) λz hz=>?_
  ·obtain⟨w,hw,Yz⟩:=Dl.mp hz;obtain⟨e,_,rfl,he,_⟩:=g.face w hw;exact tf T he z Yz
  ·rcases g.cov z hz with q | ⟨w,hw,q⟩
   ·cases q
   ·exact Dl.mpr ⟨w,hw,q⟩
theorem C2{n:Net}(T:ay n)(F:Full n)(P:Pl n):2 * (n.length+(aU n).length)=(ag n).length+4:=by
 rcases P with ⟨e,h⟩ | ⟨Ls,d,eu⟩
 ·have:ends n=[]:=Be.mp (by rw [fm,e];rfl);unfold aU;rw [BP this,h,e];rfl
 ·by_cases h0:ends n=[]
  ·have t0:(ag n).length=0:=by rw [<- fm,h0];rfl
   have:Ls=[]:=by
    cases Ls with
    | nil=>rfl
    | cons l Ls=>
     obtain⟨a,ha,_⟩:=d.fN l Ae;have:=d.sub Ae ha;rw [h0] at this;cases this
   subst this
   exfalso
   rcases F with ⟨nm,rfl⟩ | ⟨bj,h⟩
   ·rw [t0] at eu;exact absurd (show 2=4 from eu)<|by decide
   ·have hp:=By.mpr bj;have hr:=h 0 hp;have:((0,0):End)∈ends n:=af.mpr (sv<|by show 0 < (row n 0).length;exact By.mpr hr);rw [h0] at this;cases this
  ·rw [<- Dec.unique d<|C1 T h0];exact eu
theorem w9{n m:Net}{z:Str}(hp:(ag m).Perm<|z :: z :: ag n)(T:ay n)(hz:z∉ag n):ay m:=by
 intro y hy;rw [hp.count_eq,Dq,Dq]
 by_cases e:z=y
 ·subst e;rw [List.count_eq_zero.mpr hz];simp
 ·have hy:=hp.mem_iff.mp hy
  rcases Aj.mp hy with h | hy
  ·exact absurd h.symm e
  ·rcases Aj.mp hy with h | hy
   ·exact absurd h.symm e
   ·rw [T y hy];have:(z == y)=false:=by simpa using e
    rw [this];rfl
theorem qC{nm:Str}{c:End}(h:dP [(nm,[])] c):c=(0,0):=by
 obtain⟨h1,h2⟩:=h;have h1:c.1 < 1:=h1;have e:c.1=0:=by omega
 have h2:c.2 < max 1 (row [(nm,[])] c.1).length:=h2;rw [e] at h2;have h2:c.2 < 1:=h2;exact GD e<|by show c.2=0;omega
theorem xa{n:Net}(F:Full n):(∃ nm,n=[(nm,[])])\/row n 0≠[]:=by
 rcases F with h | ⟨h1,h2⟩
 ·exact .inl h
 ·exact .inr<|h2 0<|By.mpr h1
theorem YB{n:Net}{c:End}{z pt:Str}(T:ay n)(F:Full n)(hz:z∉ag n)(hc:dP n c) (hp:(ag<|ins n c z++[(pt,[z])]).Perm<|z :: z :: ag n) (P:Pl n):Pl (ins n c z++[(pt,[z])]):=by
 have T':=w9 hp T hz
 rcases xa F with ⟨nm,rfl⟩ | h0
 ·have:=qC hc;subst this;exact Yk T'
 ·exact Yj T T' (F.cr h0 hc) P
theorem YC{n:Net}{k1 k2:End}{z:Str}(T:ay n)(F:Full n)(hz:z∉ag n)(h1:dP n k1)(h2:dP n k2) (hp:(ag<|ins (ins n k1 z) k2 z).Perm<|z :: z :: ag n) (ord:k2=k1\/sh k1 k2=k2) (same:(∃ k,it (step n) k k1=k2)\/∃ k,it (step n) k k2=k1) (P:Pl n):Pl (ins (ins n k1 z) k2 z):=by
 have T':=w9 hp T hz
 rcases xa F with ⟨nm,rfl⟩ | h0
 ·have:=qC h1;subst this;have:=qC h2;subst this;exact Yl T'
 ·exact Yi T T' (F.cr h0 h1) (F.cr h0 h2) ord same P
theorem YD{a b:End}(h:bM.lexLt ((a.1:Int),(a.2:Int)) ((b.1:Int),(b.2:Int))=true):sh b a=a:=by
 unfold bM.lexLt at h;unfold sh;refine BL λq=>?_;rw [BP<|by rw [q.1]] at h;have:=BZ h;have q2:=q.2;omega
theorem YF{a b:End}(h:bM.lexLt ((a.1:Int),(a.2:Int)) ((b.1:Int),(b.2:Int))=false):b=a\/sh a b=b:=by
 unfold bM.lexLt at h
 by_cases e:(a.1:Int)=(b.1:Int)
 ·rw [BP e] at h;have h:=of_decide_eq_false h
  by_cases e2:a.2=b.2
  ·exact .inl<|GD (by omega) e2.symm
  ·refine .inr<|BL λq=>?_;have q2:=q.2;have h:¬((a.2:Int) < (b.2:Int)):=h;omega
 ·exact .inr<|BL λq=>e<|by rw [q.1]
theorem M3(a b:Net):ag (a++b)=ag a++ag b:=by
 unfold ag;rw [Dg]
theorem YG{n n2 n0:Net}{j i:Nat}{x:Str}(hj:j < n.length)(hi:i < max 1 (row n j).length)(T0:ay n0)(pt:(ag n++ag n2).Perm<|ag n0)
  (fq:(ag (n.eraseIdx j)++ag (n2++[(x,(row n j).drop i++(row n j).take i)])).Perm<|ag n0) (P:Pl<|n++n2):Pl (n.eraseIdx j++(n2++[(x,(row n j).drop i++(row n j).take i)])):=by
 have tw:∀ m:Net,(ag m).Perm (ag n0)->ay m:=λm p y hy=>by rw [p.count_eq];exact T0 y<|p.mem_iff.mp hy
 rw [<- M3] at pt fq;have er:row (n++n2) j=row n j:=mz hj;have ee:n.eraseIdx j++(n2++[(x,(row n j).drop i++(row n j).take i)])=(n++n2).eraseIdx j++[(x,(row (n++n2) j).drop i++(row (n++n2) j).take i)]:=by
  rw [KQ hj,Ay,er]
 rw [ee] at fq ⊢;exact Yp (by rw [Ag];omega) (by rw [er];exact hi) (tw _ pt) (tw _ fq) (by rw [fq.length_eq,pt.length_eq]) P
end Nt
namespace Nt
theorem YH{n:Net}{e c:End}{fs:List End}(f:cQ n e fs)(h:c∈fs):∃ k,it (step n) k e=c:=by
 obtain⟨i,hi,e1⟩:=Bz.mp h;have:=f.at' i hi;rw [Ab hi,e1] at this;exact⟨i,(Option.some.inj this).symm⟩
open PySem
def az:List Bool->Bool
 | []=>false
 | b :: l=>b ^^ az l
theorem qD:∀(a b:List Bool),az (a++b)=(az a ^^ az b)
 | [],b=>by simp [az]
 | x :: a,b=>by
  show(x ^^ az (a++b))=((x ^^ az a) ^^ az b);rw [qD a b,Bool.xor_assoc]
theorem YJ{a b:List Bool}(h:a.Perm b):az a=az b:=by
 induction h with
 | nil=>rfl
 | cons x _ ih=>show(x ^^ _)=(x ^^ _);rw [ih]
 | swap x y l=>show(y ^^ (x ^^ az l))=(x ^^ (y ^^ az l));cases x <;> cases y <;> simp
 | trans _ _ h1 h2=>exact h1.trans h2
theorem iR{α:Type}(f g:α->Bool):∀ l:List α,az (l.map λx=>f x ^^ g x)=(az (l.map f) ^^ az (l.map g))
 | []=>rfl
 | x :: l=>by
  show((f x ^^ g x) ^^ az (l.map λx=>f x ^^ g x))=((f x ^^ az (l.map f)) ^^ (g x ^^ az (l.map g)));rw [iR f g l];cases f x <;> cases g x <;> cases az (l.map f) <;> cases az (l.map g) <;> rfl
def cG(n:Net)(s:Str->Bool):Prop:=∀ r,az ((row n r).map s)=false
structure aT(n:Net)(s:Str->Bool)(χ:End->Bool):Prop where
 go:∀ e∈ends n,χ (step n e)=χ e
 dB:∀ e z,aG n e=some z->s z=(χ e ^^ χ (other n e))
def RS(n:Net):Prop:=∀ s:Str->Bool,cG n s->∃ χ,aT n s χ
theorem M4(n:Net)(r:Nat)(s:Str->Bool)(g:End->Bool)(h:∀ p z,(row n r)[p]?=some z->s z=g (r,p)):(row n r).map s=(List.range (row n r).length).map λp=>g (r,p):=by
 apply Ed;intro p;rw [Ad,Ad]
 by_cases hp:p < (row n r).length
 ·rw [Ab hp,Dm hp];exact BX some<|h p _<|Ab hp
 ·rw [Bv (by omega),Bv<|by simp;omega];rfl
theorem YK(f:Nat->Bool)(m:Nat):az ((List.range m).map λp=>f<|(p+1) % m)=az ((List.range m).map f):=by
 cases m with
 | zero=>rfl
 | succ k=>
  have e:(List.range<|k+1).map (λp=>f<|(p+1) % (k+1))=((List.range k).map λp=>f<|p+1)++[f 0]:=by
   rw [Dx,Ak]
   congr 1
   ·refine Bp λp hp=>?_;have:=Bg.mp hp;show f ((p+1) % (k+1))=f (p+1);rw [Bj<|by omega]
   ·simp
  rw [e,List.range_succ_eq_map,Bd,Ch,qD];show _=(f 0 ^^ az ((List.range k).map<|f ∘ Nat.succ));show(az ((List.range k).map λp=>f<|p+1) ^^ (f 0 ^^ false))=(f 0 ^^ az ((List.range k).map λp=>f<|p+1));cases f 0 <;> cases az ((List.range k).map λp=>f<|p+1) <;> rfl
theorem aT.even{n:Net}(T:ay n){s:Str->Bool}{χ:End->Bool}(h:aT n s χ):cG n s:=by
 intro r;rw [M4 n r s (λe=>χ e ^^ χ (other n e)) λp z hz=>h.dB (r,p) z hz];rw [iR (λp=>χ (r,p)) λp=>χ<|other n (r,p)];have e:((List.range (row n r).length).map λp=>χ<|other n (r,p))=(List.range (row n r).length).map λp=>χ (r,(p+1) % (row n r).length):=by
  refine Bp λp hp=>?_;have hp:=Bg.mp hp;obtain⟨z,hz⟩:=sv (n:=n) (e:=(r,p)) hp;obtain⟨h1,h2,_⟩:=fk T hz;have:=h.go (other n (r,p))<|af.mpr ⟨z,h1⟩;rw [<- this];show χ (left n (other n<|other n (r,p)))=_;rw [h2];rfl
 rw [e,YK λp=>χ (r,p)];cases az ((List.range (row n r).length).map λp=>χ (r,p)) <;> rfl
theorem aT.xor{n:Net}{s t:Str->Bool}{χ ψ:End->Bool}(h:aT n s χ)(g:aT n t ψ):aT n (λz=>s z ^^ t z) (λe=>χ e ^^ ψ e):=by
 refine⟨λe he=>?_,λe z hz=>?_⟩
 ·rw [h.go e he,g.go e he]
 ·show(s z ^^ t z)=((χ e ^^ ψ e) ^^ (χ (other n e) ^^ ψ (other n e)));rw [h.dB e z hz,g.dB e z hz];cases χ e <;> cases ψ e <;> cases χ (other n e) <;> cases ψ (other n e) <;> rfl
theorem cG.xor{n:Net}{s t:Str->Bool}(h:cG n s)(g:cG n t):cG n (λz=>s z ^^ t z):=λr=>by
 rw [iR s t,h r,g r];rfl
section
variable{n m:Net}{g:End->End}{e1 e2:End}{z:Str}
theorem dA.mark(p:dA n m g e1 e2 z)(χ:End->Bool)(a:Bool):∃ χ':End->Bool,(∀ e∈ends n,χ' (g e)=χ e)/\χ' e1=a/\χ' e2=a:=by
 refine⟨λx=>if x=e1 then a else if x=e2 then a else match (ends n).find? (λe=>decide (g e=x)) with | some e=>χ e | none=>false,λe he=>?_,?_,?_⟩
 ·show(if g e=e1 then a else if g e=e2 then a else match (ends n).find? (λe'=>decide (g e'=g e)) with | some e=>χ e | none=>false)=χ e;rw [BL<|p.n1 e he,BL<|p.n2 e he];cases hf:(ends n).find? (λe'=>decide (g e'=g e)) with
  | none=>exact absurd (BW (rfl:g e=g e))<|by simpa using Ex.mp hf e he
  | some e'=>
   have h5:=Gk hf;have h5:g e'=g e:=BZ h5;rw [p.inj _ _ h5]
 ·simp
 ·simp
theorem dA.jr(p:dA n m g e1 e2 z)(T:ay n)(T':ay m){s:Str->Bool}{χ:End->Bool}(h:aT n s χ)(hz:s z=false){a:Bool}
  (st:∀ x∈ends n,step m (g x)=g (step n x)\/((step m (g x)=e1\/step m (g x)=e2)/\χ (step n x)=a))
  (s1:step m e1=e1\/step m e1=e2\/∃ k∈ends n,step m e1=g k/\χ k=a) (s2:step m e2=e1\/step m e2=e2\/∃ k∈ends n,step m e2=g k/\χ k=a):∃ χ',aT m s χ':=by
 obtain⟨χ',h1,h2,h3⟩:=p.mark χ a;have js:∀ x∈ends m,(∃ e∈ends n,x=g e)\/x=e1\/x=e2:=λx hx=>by
  have:=p.perm.mem_iff.mpr hx
  rcases Aq.mp this with q | q
  ·obtain⟨e,he,rfl⟩:=Am.mp q;exact .inl ⟨e,he,rfl⟩
  ·simp only [Aj,Cb,FQ] at q;exact .inr q
 refine⟨χ',λx hx=>?_,λx y hy=>?_⟩
 ·rcases js x hx with ⟨e,he,rfl⟩ | rfl | rfl
  ·rw [h1 e he]
   rcases st e he with q | ⟨q,qa⟩
   ·rw [q,h1 _<|jg T he,h.go e he]
   ·rw [h.go e he] at qa
    rcases q with q | q
    ·rw [q,h2,qa]
    ·rw [q,h3,qa]
  ·rcases s1 with q | q | ⟨k,hk,q,qa⟩
   ·rw [q]
   ·rw [q,h2,h3]
   ·rw [q,h1 k hk,h2,qa]
  ·rcases s2 with q | q | ⟨k,hk,q,qa⟩
   ·rw [q,h2,h3]
   ·rw [q]
   ·rw [q,h1 k hk,h3,qa]
 ·rcases js x (af.mpr ⟨y,hy⟩) with ⟨e,he,rfl⟩ | rfl | rfl
  ·rw [p.dB e he] at hy;obtain⟨o1,_,_⟩:=fk T hy;rw [p.ao T T' he,h1 e he,h1 _<|af.mpr ⟨y,o1⟩];exact h.dB e y hy
  ·rw [p.t1] at hy;cases hy;rw [p.o1 T',h2,h3,hz];cases a <;> rfl
  ·rw [p.t2] at hy;cases hy;rw [p.o2 T',h2,h3,hz];cases a <;> rfl
theorem M5(T':ay m){ψ:End->Bool}(hψ:∀ e∈ends m,ψ (step m e)=ψ e)(t1:aG m e1=some z)(ho:other m e1=e2)(ne:ψ e1≠ψ e2)(h0:∀ s,cG m s->s z=false->∃ χ,aT m s χ):RS m:=by
 intro s hs
 by_cases hz:s z=false
 ·exact h0 s hs hz
 ·have hz:s z=true:=by cases h:s z with | true=>rfl | false=>exact absurd h hz
  let t:Str->Bool:=λy=>match (ends m).find? (λe=>decide (aG m e=some y)) with | some e=>ψ e ^^ ψ (other m e) | none=>false
  have ht:aT m t ψ:=by
   refine⟨hψ,λe y hy=>?_⟩;show(match (ends m).find? (λe=>decide (aG m e=some y)) with | some e=>ψ e ^^ ψ (other m e) | none=>false)=_;cases hf:(ends m).find? (λe=>decide (aG m e=some y)) with
   | none=>exact absurd (BW hy)<|by simpa using Ex.mp hf e (af.mpr ⟨y,hy⟩)
   | some e'=>
    have h5:=Gk hf;have h':aG m e'=some y:=BZ h5
    by_cases q:e'=e
    ·rw [q]
    ·have o1:=jq T' h' hy q;have o2:=jq T' hy h'<|CG q;show(ψ e' ^^ ψ (other m e'))=_;rw [o1,o2];cases ψ e <;> cases ψ e' <;> rfl
  have tz:t z=true:=by
   rw [ht.dB e1 z t1,ho];cases h1:ψ e1 <;> cases h2:ψ e2 <;> simp_all
  obtain⟨χ,hχ⟩:=h0 (λy=>s y ^^ t y) (hs.xor<|ht.even T') (by show(s z ^^ t z)=false;rw [hz,tz];rfl);have:=hχ.xor ht;refine⟨λe=>χ e ^^ ψ e,this.go,λe y hy=>?_⟩;rw [<- this.dB e y hy];show s y=((s y ^^ t y) ^^ t y);cases s y <;> cases t y <;> rfl
theorem C3{n:Net}{c:End}{z:Str}(hc:c.1 < n.length){s:Str->Bool}(hz:s z=false)(r:Nat):az ((row (ins n c z) r).map s)=az ((row n r).map s):=by
 rw [qm n c z r hc]
 by_cases h:c.1=r
 ·rw [BP h,Ak,Bd,qD];show(az (((row n r).take c.2).map s) ^^ (s z ^^ az (((row n r).drop c.2).map s)))=_;rw [hz,SM,<- qD,<- Ak,Cq]
 ·rw [BL h]
theorem Dec.mark{α:Type} [DecidableEq α] {f:α->α} {D:List α} {Ls:List (List α)} (d:Dec f D Ls) {l:List α} (hl:l∈Ls):∀ x∈D,(f x∈l↔x∈l):=by
 intro x hx;obtain⟨A,B,rfl⟩:=Ey hl;have d':Dec f D (l :: (A++B)):=⟨λk hk=>d.fN k (by
  rcases Aj.mp hk with rfl | hk
  ·exact hl
  ·rcases Aq.mp hk with q | q
   ·exact Bc _ q
   ·exact Au _<|Ah _ q),by
  refine List.Perm.trans ?_ d.all;rw [Ck,Fo,Fo,Ck,<- Ay,<- Ay];exact(Cr).append_right _,d.nd⟩
 have cl:∀ k∈l :: (A++B),∀ x∈k,f x∈k:=λk hk x hx=>by
  obtain⟨c,hc,p⟩:=d'.fN k hk;exact qv p hc hx
 by_cases h:x∈l
 ·exact⟨λ_=>h,λ_=>cl l Ae x h⟩
 ·refine⟨λq=>?_,λq=>absurd q h⟩
  exfalso
  obtain⟨k,hk,M6⟩:=Dl.mp<|d'.all.mem_iff.mpr hx
  rcases Aj.mp hk with rfl | rV
  ·exact h M6
  ·exact d'.apart.2 k rV _ q<|cl k hk x M6
theorem C4{s:Str->Bool}{χ:End->Bool}(T:ay n)(h:aT n s χ){a:End}(ha:a∈ends n):∀ k,χ (it (step n) k a)=χ a
 | 0=>rfl
 | k+1=>by
  show χ (step n<|it (step n) k a)=_;rw [h.go _<|jh (λx hx=>jg T hx) ha k,C4 T h ha k]
theorem YL(p:dA n m g e1 e2 z)(T:ay n)(T':ay m){k1 k2:End}(h1:k1∈ends n)(h2:k2∈ends n)(ne:k2≠k1)(same:(∃ k,it (step n) k k1=k2)\/∃ k,it (step n) k k2=k1)
  (l1:left m e1=g k1) (l2:left m e2=g k2) (lf:∀ e∈ends n,left m (g e)=if left n e=k1 then e1 else if left n e=k2 then e2 else g (left n e))
  {Ls:List (List End)} (d:Dec (step n) (ends n) Ls) (ev:∀ s,cG m s->s z=false->cG n s) (R:RS n):RS m:=by
 have st:∀ x∈ends n,step m (g x)=if step n x=k1 then e1 else if step n x=k2 then e2 else g (step n x):=λx hx=>by
  unfold step;rw [p.ao T T' hx];exact lf _<|dM T hx
 have s1:step m e1=g k2:=by unfold step;rw [p.o1 T'];exact l2
 have s2:step m e2=g k1:=by unfold step;rw [p.o2 T'];exact l1
 obtain⟨l,Ms,hL,d⟩:=d.pick h1;have hk:=d.one h2 same ne;obtain⟨MM,Yf,d',w,hw,w2,w1⟩:=d.split (f':=step m) (g:=g) hk (e1:=e1) (e2:=e2) s1 s2
  (λx hx e=>by rw [st x hx,BP e]) (λx hx e=>by rw [st x hx,BL (by rw [e];exact ne),BP e]) (λx hx a b=>by rw [st x hx,BL a,BL b]) p.nd
 have dm:=d'.perm p.perm;refine M5 T' (ψ:=λx=>decide (x∈w)) (λx hx=>decide_eq_decide.mpr<|dm.mark hw x hx) p.t1 (p.o1 T') (by show decide (e1∈w)≠decide (e2∈w);rw [BR w1,BW w2];decide) λs hs hz=>?_;obtain⟨χ,hχ⟩:=R s<|ev s hs hz;have ek:χ k2=χ k1:=by
  rcases same with ⟨k,e⟩ | ⟨k,e⟩
  ·rw [<- e];exact C4 T hχ h1 k
  ·rw [<- e];exact(C4 T hχ h2 k).symm
 refine p.jr T T' hχ hz (a:=χ k1) (λx hx=>?_) (.inr<|.inr ⟨k2,h2,s1,ek⟩)<|.inr<|.inr ⟨k1,h1,s2,rfl⟩;rw [st x hx]
 by_cases c1:step n x=k1
 ·rw [BP c1];exact .inr ⟨.inl rfl,by rw [c1]⟩
 ·rw [BL c1]
  by_cases c2:step n x=k2
  ·rw [BP c2];exact .inr ⟨.inr rfl,by rw [c2,ek]⟩
  ·rw [BL c2];exact .inl rfl
theorem YM(p:dA n m g e1 e2 z)(T:ay n)(T':ay m){c:End}(h1:c∈ends n)(l1:left m e1=g c)(l2:left m e2=e1)(lf:∀ e∈ends n,left m (g e)=if left n e=c then e2 else g (left n e))
  (ev:∀ s,cG m s->s z=false->cG n s) (R:RS n):RS m:=by
 have st:∀ x∈ends n,step m (g x)=if step n x=c then e2 else g (step n x):=λx hx=>by
  unfold step;rw [p.ao T T' hx];exact lf _<|dM T hx
 have s1:step m e1=e1:=by unfold step;rw [p.o1 T'];exact l2
 have s2:step m e2=g c:=by unfold step;rw [p.o2 T'];exact l1
 have xc:e1∈ends m:=af.mpr ⟨z,p.t1⟩;refine M5 T' (ψ:=λx=>decide (x=e1)) (λx hx=>?_) p.t1 (p.o1 T') (by show decide (e1=e1)≠decide (e2=e1);rw [BW rfl,BR p.ne.symm];decide) λs hs hz=>?_
 ·by_cases q:x=e1
  ·rw [q,s1]
  ·show decide (step m x=e1)=decide (x=e1);rw [BR q];exact BR λe=>q<|wm T' hx xc<|by rw [e,s1]
 obtain⟨χ,hχ⟩:=R s<|ev s hs hz;refine p.jr T T' hχ hz (a:=χ c) (λx hx=>?_) (.inl s1)<|.inr<|.inr ⟨c,h1,s2,rfl⟩;rw [st x hx]
 by_cases c1:step n x=c
 ·rw [BP c1];exact .inr ⟨.inr rfl,by rw [c1]⟩
 ·rw [BL c1];exact .inl rfl
theorem YN(p:dA n m g e1 e2 z)(T:ay n)(T':ay m){c:End}(h1:c∈ends n)(l1:left m e1=g c)(l2:left m e2=e2)(lf:∀ e∈ends n,left m (g e)=if left n e=c then e1 else g (left n e))
  (hz:∀ s,cG m s->s z=false) (ev:∀ s,cG m s->s z=false->cG n s) (R:RS n):RS m:=by
 have st:∀ x∈ends n,step m (g x)=if step n x=c then e1 else g (step n x):=λx hx=>by
  unfold step;rw [p.ao T T' hx];exact lf _<|dM T hx
 have s1:step m e1=e2:=by unfold step;rw [p.o1 T'];exact l2
 have s2:step m e2=g c:=by unfold step;rw [p.o2 T'];exact l1
 intro s hs;have hz:=hz s hs;obtain⟨χ,hχ⟩:=R s<|ev s hs hz;refine p.jr T T' hχ hz (a:=χ c) (λx hx=>?_) (.inr<|.inl s1)<|.inr<|.inr ⟨c,h1,s2,rfl⟩;rw [st x hx]
 by_cases c1:step n x=c
 ·rw [BP c1];exact .inr ⟨.inl rfl,by rw [c1]⟩
 ·rw [BL c1];exact .inl rfl
end
section
variable{n:Net}{z:Str}
theorem YQ{k1 k2:End}(T:ay n)(T':ay<|ins (ins n k1 z) k2 z)(h1:k1∈ends n)(h2:k2∈ends n)(ord:k2=k1\/sh k1 k2=k2)(same:(∃ k,it (step n) k k1=k2)\/∃ k,it (step n) k k2=k1)(P:Pl n)(R:RS n):RS (ins (ins n k1 z) k2 z):=by
 have r1:=dS h1;have r2:=dS h2;have p:=MO (z:=z) (k1:=k1) (k2:=k2) ⟨r1.1,Ct r1.2⟩ ⟨r2.1,Ct r2.2⟩;have c2:k2.1 < (ins n k1 z).length:=by rw [fZ];exact r2.1
 have rl:∀ i,(row n i).length<=(row (ins n k1 z) i).length:=λi=>by
  rw [qw r1.1<|Ct r1.2]
  split <;> omega
 have p2:k2.2 < (row (ins n k1 z) k2.1).length:=Bf r2.2<|rl _;have p1:k1.2 < (row (ins n k1 z) k1.1).length:=Bf r1.2<|rl _;have sl:∀ e∈ends n,(sh k1 e).2 < (row (ins n k1 z) (sh k1 e).1).length:=λe he=>by
  obtain⟨y,hy⟩:=af.mp he;exact eN (z:=y)<|by rw [qz r1.1<|Ct r1.2];exact hy
 have l0:left (ins n k1 z) k1=sh k1 k1:=my r1.1 r1.2;have ev:∀ s,cG (ins (ins n k1 z) k2 z) s->s z=false->cG n s:=λs hs hz r=>by
  rw [<- C3 r1.1 hz r,<- C3 c2 hz r];exact hs r
 by_cases e:k2=k1
 ·subst e;refine YM p T T' h1 ?_ (my c2 p2) (λe he=>?_) ev R
  ·rw [g5 c2 p2 p1,l0,BL<|mw _ _]
  ·show left _ (sh k2<|sh k2 e)=_;rw [g5 c2 p2<|sl e he,g5 r1.1 r1.2 (dS he).2]
   by_cases q:left n e=k2
   ·rw [BP q,BP rfl,BP q]
   ·rw [BL q,BL<|mw _ _,BL q]
 ·have hs:sh k1 k2=k2:=ord.resolve_left e
  rcases P with ⟨t0,_⟩ | ⟨Ls,d,_⟩
  ·obtain⟨y,hy⟩:=af.mp h1;have:=fj hy;rw [t0] at this;cases this
  refine YL p T T' h1 h2 e same ?_ ?_ (λe' he=>?_) d ev R
  ·rw [g5 c2 p2 p1,l0,BL λq=>e<|mv (c:=k1)<|by rw [hs,q]]
  ·show left _ k2=sh k2 (sh k1 k2);rw [hs];exact my c2 p2
  ·show left _ (sh k2<|sh k1 e')=if left n e'=k1 then sh k2 k1 else if left n e'=k2 then k2 else sh k2 (sh k1<|left n e');rw [g5 c2 p2<|sl e' he,g5 r1.1 r1.2 (dS he).2]
   by_cases q:left n e'=k1
   ·rw [BP q,BP q,BL λx=>e x.symm]
   ·rw [BL q,BL q]
    by_cases q2:left n e'=k2
    ·rw [BP q2,q2,hs,BP rfl]
    ·rw [BL q2,BL λx=>q2<|mv (c:=k1)<|by rw [x,hs]]
theorem YR{c:End}{pt:Str}(T:ay n)(T':ay<|ins n c z++[(pt,[z])])(h1:c∈ends n)(R:RS n):RS (ins n c z++[(pt,[z])]):=by
 have r1:=dS h1;have p:=MQ (z:=z) (c:=c) (pt:=pt) ⟨r1.1,Ct r1.2⟩;have la:∀ e:End,e.1 < n.length->left (ins n c z++[(pt,[z])]) e=left (ins n c z) e:=λe he=>by
  unfold left;rw [mz<|by rw [fZ];exact he]
 have jt:=w5 (a:=ins n c z) (x:=(pt,[z]));rw [fZ] at jt;refine YN p T T' h1 ?_ ?_ (λe he=>?_) (λs hs=>?_) (λs hs hz r=>?_) R
 ·rw [la _ r1.1];exact my r1.1 r1.2
 ·unfold left;show(n.length,(0+1) % (row _ n.length).length)=_;rw [jt];exact BX (Prod.mk _)<|Eb 1
 ·rw [la _<|by rw [kJ];exact(dS he).1];exact g5 r1.1 r1.2 (dS he).2
 ·have:=hs n.length;rw [jt] at this;have:(s z ^^ false)=false:=this
  simpa using this
 ·by_cases h:r < n.length
  ·have:=hs r;rw [mz (by rw [fZ];exact h),C3 r1.1 hz r] at this;exact this
  ·have:row n r=[]:=by
    unfold row;rw [Bv<|by omega];rfl
   rw [this];rfl
end
theorem YS{nm:Str}:RS [(nm,[])]:=λs _=>⟨λ_=>false,λe he=>rfl,λe y hy=>by
 have:=fj hy;cases this⟩
theorem YT{nm pt z:Str}(T':ay [(nm,[z]),(pt,[z])]):RS [(nm,[z]),(pt,[z])]:=λs hs=>⟨λ_=>false,λe he=>rfl,λe y hy=>by
 have h:=fj hy;have:y=z:=by simpa [ag] using h
 rw [this];have:=hs 0;have:(s z ^^ false)=false:=this
 simpa using this⟩
theorem YV{nm z:Str}(T':ay [(nm,[z,z])]):RS [(nm,[z,z])]:=λs _=>by
 have t1:aG [(nm,[z,z])] (0,0)=some z:=rfl;have t2:aG [(nm,[z,z])] (0,1)=some z:=rfl;have o1:=jq T' t1 t2 (by decide);have o2:=jq T' t2 t1 (by decide);have hE:ends [(nm,[z,z])]=[(0,0),(0,1)]:=rfl;refine⟨λe=>decide (e=(0,0)) && s z,λe he=>?_,λe y hy=>?_⟩
 ·rw [hE] at he;simp only [Aj,Cb,FQ] at he
  rcases he with rfl | rfl
  ·show(decide (left [(nm,[z,z])] (other [(nm,[z,z])] (0,0))=(0,0)) && s z)=_;rw [o1];simp [left,row]
  ·show(decide (left [(nm,[z,z])] (other [(nm,[z,z])] (0,1))=(0,0)) && s z)=_;rw [o2];simp [left,row]
 ·have h:=fj hy;have e1:y=z:=by simpa [ag] using h
  have he:=af.mpr ⟨y,hy⟩;rw [hE] at he;simp only [Aj,Cb,FQ] at he;rw [e1]
  rcases he with rfl | rfl
  ·rw [o1];simp
  ·rw [o2];simp
def Fl(n:Net):Prop:=Pl n/\RS n
theorem YW{nm:Str}:Fl [(nm,[])]:=⟨.inl ⟨rfl,rfl⟩,YS⟩
theorem YX{n:Net}{c:End}{z pt:Str}(T:ay n)(F:Full n)(hz:z∉ag n)(hc:dP n c) (hp:(ag<|ins n c z++[(pt,[z])]).Perm<|z :: z :: ag n) (P:Fl n):Fl (ins n c z++[(pt,[z])]):=by
 refine⟨YB T F hz hc hp P.1,?_⟩;have T':=w9 hp T hz
 rcases xa F with ⟨nm,rfl⟩ | h0
 ·have:=qC hc;subst this;exact YT T'
 ·exact YR T T' (F.cr h0 hc) P.2
theorem YY{n:Net}{k1 k2:End}{z:Str}(T:ay n)(F:Full n)(hz:z∉ag n)(h1:dP n k1)(h2:dP n k2) (hp:(ag<|ins (ins n k1 z) k2 z).Perm<|z :: z :: ag n) (ord:k2=k1\/sh k1 k2=k2) (same:(∃ k,it (step n) k k1=k2)\/∃ k,it (step n) k k2=k1) (P:Fl n):Fl (ins (ins n k1 z) k2 z):=by
 refine⟨YC T F hz h1 h2 hp ord same P.1,?_⟩;have T':=w9 hp T hz
 rcases xa F with ⟨nm,rfl⟩ | h0
 ·have:=qC h1;subst this;have:=qC h2;subst this;exact YV T'
 ·exact YQ T T' (F.cr h0 h1) (F.cr h0 h2) ord same P.1 P.2
theorem YZ{n m:Net}{g:End->End}(T:ay n)(T':ay m)(ht:(ag m).length=(ag n).length)(dB:∀ e∈ends n,aG m (g e)=aG n e)(inj:∀ a∈ends n,∀ b∈ends n,g a=g b->a=b)
  (lf:∀ e∈ends n,left m (g e)=g (left n e)) (ev:∀ s,cG m s->cG n s) (R:RS n):RS m:=by
 have tF:∀ x∈ends m,∃ e∈ends n,x=g e:=by
  have nd:((ends n).map g).Nodup:=by
   have:∀(l:List End),(∀ x∈l,x∈ends n)->l.Nodup->(l.map g).Nodup:=by
    intro l
    induction l with
    | nil=>intro _ _;exact Cp
    | cons x l ih=>
     intro hs h;have h:=Bq.mp h;rw [Bd];refine Bq.mpr ⟨λhx=>?_,ih (λy hy=>hs y<|Ah _ hy) h.2⟩;obtain⟨y,hy,e⟩:=Am.mp hx;have:=inj y (hs y<|Ah _ hy) x (hs x Ae) e;exact h.1<|this ▸ hy
   exact this _ (λx hx=>hx)<|iP n
  have pm:((ends n).map g).Perm (ends m):=by
   refine mr nd (λa ha=>?_) (by rw [Aa,fm,fm,ht];exact Al _);obtain⟨x,hx,rfl⟩:=Am.mp ha;obtain⟨y,hy⟩:=af.mp hx;exact af.mpr ⟨y,by rw [dB x hx];exact hy⟩
  intro x hx;obtain⟨e,he,q⟩:=Am.mp<|pm.mem_iff.mpr hx;exact⟨e,he,q.symm⟩
 intro s hs;obtain⟨χ,hχ⟩:=R s<|ev s hs
 let χ':End->Bool:=λx=>match (ends n).find? (λe=>decide (g e=x)) with | some e=>χ e | none=>false
 have h1:∀ e∈ends n,χ' (g e)=χ e:=λe he=>by
  show(match (ends n).find? (λe'=>decide (g e'=g e)) with | some e=>χ e | none=>false)=χ e;cases hf:(ends n).find? (λe'=>decide (g e'=g e)) with
  | none=>exact absurd (BW (rfl:g e=g e))<|by simpa using Ex.mp hf e he
  | some e'=>
   have h5:=Gk hf;have h5:g e'=g e:=BZ h5;rw [inj _ (List.mem_of_find?_eq_some hf) _ he h5]
 have ao:∀ e∈ends n,other m (g e)=g (other n e):=λe he=>by
  obtain⟨y,hy⟩:=af.mp he;obtain⟨h1,_,h3⟩:=fk T hy;have ho:other n e∈ends n:=af.mpr ⟨y,h1⟩;exact jq T' (by rw [dB e he];exact hy) (by rw [dB _ ho];exact h1) λh=>h3 (inj _ he _ ho h).symm
 refine⟨χ',λx hx=>?_,λx y hy=>?_⟩
 ·obtain⟨e,he,rfl⟩:=tF x hx;have:step m (g e)=g (step n e):=by
   unfold step;rw [ao e he];exact lf _<|dM T he
  rw [this,h1 _<|jg T he,h1 e he,hχ.go e he]
 ·obtain⟨e,he,rfl⟩:=tF x<|af.mpr ⟨y,hy⟩;rw [dB e he] at hy;rw [ao e he,h1 e he,h1 _<|dM T he];exact hχ.dB e y hy
theorem Y1{a:Net}{j i:Nat}{x:Str}(hj:j < a.length)(hi:i < max 1 (row a j).length)(T:ay a) (T':ay<|a.eraseIdx j++[(x,(row a j).drop i++(row a j).take i)])
  (ht:(ag<|a.eraseIdx j++[(x,(row a j).drop i++(row a j).take i)]).length=(ag a).length) (R:RS a):RS (a.eraseIdx j++[(x,(row a j).drop i++(row a j).take i)]):=by
 obtain⟨g,h1,h2,h3⟩:=MT (x:=x) hj hi;refine YZ T T' ht h1 h2 h3 (λs hs r=>?_) R
 by_cases hr:r < a.length
 ·have:=hs (if r < j then r else if r=j then a.length - 1 else r - 1);rw [MS hj r hr] at this
  by_cases e:r=j
  ·rw [BP e] at this;rw [<- this,e];refine YJ<|List.Perm.map s ?_;show(row a j).Perm ((row a j).drop i++(row a j).take i);refine List.Perm.trans ?_ Cr;rw [Cq]
  ·rw [BL e] at this;exact this
 ·have:row a r=[]:=by
   unfold row;rw [Bv<|by omega];rfl
  rw [this];rfl
theorem Y6{n n2 n0:Net}{j i:Nat}{x:Str}(hj:j < n.length)(hi:i < max 1 (row n j).length)(T0:ay n0)(pt:(ag n++ag n2).Perm<|ag n0)
  (fq:(ag (n.eraseIdx j)++ag (n2++[(x,(row n j).drop i++(row n j).take i)])).Perm<|ag n0) (P:Fl<|n++n2):Fl (n.eraseIdx j++(n2++[(x,(row n j).drop i++(row n j).take i)])):=by
 refine⟨YG hj hi T0 pt fq P.1,?_⟩;have tw:∀ m:Net,(ag m).Perm (ag n0)->ay m:=λm p y hy=>by rw [p.count_eq];exact T0 y<|p.mem_iff.mp hy
 rw [<- M3] at pt fq;have er:row (n++n2) j=row n j:=mz hj;have ee:n.eraseIdx j++(n2++[(x,(row n j).drop i++(row n j).take i)])=(n++n2).eraseIdx j++[(x,(row (n++n2) j).drop i++(row (n++n2) j).take i)]:=by
  rw [KQ hj,Ay,er]
 rw [ee] at fq ⊢;exact Y1 (by rw [Ag];omega) (by rw [er];exact hi) (tw _ pt) (tw _ fq) (by rw [fq.length_eq,pt.length_eq]) P.2
open L2
def aF(n:Net)(r:Nat):Str:=((n[r]?).map (·.1)).getD ⟨#[]⟩
theorem eS{n:Net}{r:Nat}(h:r < n.length):aF n r=n[r].1:=by unfold aF;rw [Ab h];rfl
abbrev Lk:=Str×Str×Str
def om(n:Net)(x:Lk):Prop:=∃ a b,pos n x.1=[a,b]/\x.2.1=aF n a.1/\x.2.2=aF n b.1
structure g6(n:Net)(done:List<|Str×End)(kM:List<|Key×V)(ls:List Lk):Prop where
 m0:∀ z,bY done z=[]->aC kM (Sum.inr z)=none
 m1:∀ z a rest,bY done z=a :: rest->aC kM (Sum.inr z)=some (.str<|aF n a.1)
 mem:∀ x:Lk,x∈ls↔∃ a b rest,bY done x.1=a :: b :: rest/\x.2.1=aF n a.1/\x.2.2=aF n b.1
 fO:(ls.map (·.1)).Nodup
 dn:kM.length<=done.length
 kK:ls.length<=done.length
theorem g6.start(n:Net):g6 n [] [] []:=⟨λ_ _=>rfl,λz a rest h=>(by cases h),λx=>⟨λh=>(by cases h),λ⟨a,b,rest,h,_⟩=>(by cases h)⟩,Cp,Al _,Al _⟩
theorem g6.new{n:Net}{done:List (Str×End)}{kM:List (Key×V)}{ls:List Lk}(I:g6 n done kM ls){z:Str}{e:End}(h0:bY done z=[]):g6 n (done++[(z,e)]) (putK kM (Sum.inr z)<|.str<|aF n e.1) ls:=by
 refine⟨λy hy=>?_,λy a rest hy=>?_,λx=>?_,I.fO,?_,?_⟩
 ·rw [cU] at hy;obtain⟨h1,h2⟩:=Ez.mp hy;have bj:¬ z=y:=λq=>by rw [BP q] at h2;cases h2
  rw [c0,BL λq=>bj (Sum.inr.inj q).symm];exact I.m0 y h1
 ·rw [cU] at hy
  by_cases q:z=y
  ·subst q;rw [h0,BP rfl] at hy;cases hy;rw [c0,BP rfl]
  ·rw [BL q,Br] at hy;rw [c0,BL λp=>q (Sum.inr.inj p).symm];exact I.m1 y a rest hy
 ·rw [I.mem x]
  by_cases q:z=x.1
  ·constructor
   ·rintro ⟨a,b,rest,h,_⟩;rw [<- q,h0] at h;cases h
   ·rintro ⟨a,b,rest,h,_⟩;rw [cU,<- q,h0,BP rfl] at h;cases h
  ·constructor
   ·rintro ⟨a,b,rest,h,r⟩;exact⟨a,b,rest,by rw [cU,BL q,Br];exact h,r⟩
   ·rintro ⟨a,b,rest,h,r⟩;rw [cU,BL q,Br] at h;exact⟨a,b,rest,h,r⟩
 ·have:=ig kM (Sum.inr z)<|.str<|aF n e.1;have:=I.dn;rw [Ag,Cw];omega
 ·have:=I.kK;rw [Ag,Cw];omega
theorem g6.old{n:Net}{done:List (Str×End)}{kM:List (Key×V)}{ls:List Lk}(I:g6 n done kM ls){z:Str}{a e:End}(h1:bY done z=[a]):g6 n (done++[(z,e)]) kM (ls++[(z,aF n a.1,aF n e.1)]):=by
 have hz:bY (done++[(z,e)]) z=[a,e]:=by rw [cU,h1,BP rfl];rfl
 have Y7:z∉ls.map (·.1):=λh=>by
  obtain⟨x,hx,ex⟩:=Am.mp h;obtain⟨b,c,rest,hp,_⟩:=(I.mem x).mp hx;have ex:x.1=z:=ex;rw [ex,h1] at hp;cases hp
 refine⟨λy hy=>?_,λy b rest hy=>?_,λx=>?_,?_,?_,?_⟩
 ·rw [cU] at hy;exact I.m0 y (Ez.mp hy).1
 ·by_cases q:z=y
  ·subst q;rw [hz] at hy;cases hy;exact I.m1 z a [] h1
  ·rw [cU,BL q,Br] at hy;exact I.m1 y b rest hy
 ·rw [Aq,Ai,I.mem x]
  by_cases q:z=x.1
  ·constructor
   ·rintro (⟨b,c,rest,h,_⟩ | h)
    ·rw [<- q,h1] at h;cases h
    ·subst h;exact⟨a,e,[],hz,rfl,rfl⟩
   ·rintro ⟨b,c,rest,h,r1,r2⟩;rw [<- q,hz] at h;cases h;obtain⟨x1,x2,x3⟩:=x;have q:z=x1:=q;have r1:x2=aF n a.1:=r1;have r2:x3=aF n e.1:=r2;subst q r1 r2;exact .inr rfl
  ·constructor
   ·rintro (⟨b,c,rest,h,r⟩ | h)
    ·exact⟨b,c,rest,by rw [cU,BL q,Br];exact h,r⟩
    ·subst h;exact absurd rfl q
   ·rintro ⟨b,c,rest,h,r⟩;rw [cU,BL q,Br] at h;exact .inl ⟨b,c,rest,h,r⟩
 ·rw [Ak];exact ni I.fO Y7
 ·have:=I.dn;rw [Ag,Cw];omega
 ·have:=I.kK;rw [Ag,Ag];show _+1<=_+1;omega
theorem g6.whole{n:Net}(T:ay n){kM:List (Key×V)}{ls:List Lk}(I:g6 n (bd n) kM ls)(x:Lk):x∈ls↔om n x:=by
 rw [I.mem x]
 constructor
 ·rintro ⟨a,b,rest,h,r⟩;have hp:pos n x.1=a :: b :: rest:=h;have ha:aG n a=some x.1:=aN.mp (by rw [hp];exact Ae ..);have hl:=qj n x.1;rw [hp,T x.1<|fj ha] at hl;have:rest=[]:=by
   have:rest.length+1+1=2:=hl;exact Be.mp<|by omega
  rw [this] at hp;exact⟨a,b,hp,r⟩
 ·rintro ⟨a,b,h,r⟩;exact⟨a,b,[],h,r⟩
inductive Way (ls:List<|Str×Str×Bool) (f:Str):Str->Bool->Prop where
 | here:Way ls f f false
 | there {x y:Str} {b o:Bool}:Way ls f x b->(x,y,o)∈ls->Way ls f y (b != o)
 | back {x y:Str} {b o:Bool}:Way ls f x b->(y,x,o)∈ls->Way ls f y (b != o)
theorem ju{n:Net}(T:ay n){e x:End}{z:Str}(h:aG n e=some z):aG n x=some z↔x=e\/x=other n e:=by
 obtain⟨o1,o2,o3⟩:=fk T h;refine⟨λhx=>?_,λhx=>?_⟩
 ·obtain⟨a,b,hp,fI,he⟩:=qk T h;have mx:x∈pos n z:=aN.mpr hx;have mo:other n e∈pos n z:=aN.mpr o1;rw [hp] at mx mo;simp only [Aj,Cb,FQ] at mx mo
  rcases he with he | he
  ·rcases mx with m | m
   ·exact .inl<|m.trans he.symm
   ·rcases mo with m2 | m2
    ·exact absurd (m2.trans he.symm) o3
    ·exact .inr<|m.trans m2.symm
  ·rcases mx with m | m
   ·rcases mo with m2 | m2
    ·exact .inr<|m.trans m2.symm
    ·exact absurd (m2.trans he.symm) o3
   ·exact .inl<|m.trans he.symm
 ·rcases hx with rfl | rfl
  ·exact h
  ·exact o1
abbrev Bl:=Str×Str×Bool
def has(kvs:List<|Key×V)(x:Str):Prop:=∃ v,aC kvs (Sum.inr x)=some v
def oq(ls:List Bl)(x y:Str)(o:Bool):Prop:=(x,y,o)∈ls\/(y,x,o)∈ls
def tG(ls:List Bl):List Str:=ls.flatMap λl=>[l.1,l.2.1]
theorem M7:∀ ls:List Bl,(tG ls).length=2 * ls.length
 | []=>rfl
 | l :: r=>by
  show(tG r).length+1+1=2 * (r.length+1);rw [M7 r];omega
theorem Y8{ls:List Bl}{x y:Str}{o:Bool}(h:oq ls x y o):y∈tG ls:=by
 rcases h with h | h
 ·exact List.mem_flatMap.mpr ⟨_,h,by simp⟩
 ·exact List.mem_flatMap.mpr ⟨_,h,by simp⟩
theorem C5{κ:Type} [DecidableEq κ] (kvs:List<|κ×V) (k:κ) (v:V):(putK kvs k v).map (·.1)=if k∈kvs.map (·.1) then kvs.map (·.1) else kvs.map (·.1)++[k]:=by
 have e:(kvs.any λkv=>decide (kv.1=k))=decide (k∈kvs.map (·.1)):=by
  rw [Di,List.any_eq_true,FT,Am];exact⟨λ⟨p,h1,h2⟩=>⟨p,h1,BZ h2⟩,λ⟨p,h1,h2⟩=>⟨p,h1,BW h2⟩⟩
 unfold putK;rw [e]
 by_cases h:k∈kvs.map (·.1)
 ·rw [BP<|BW h,BP h,Ch];refine Bp λp _=>?_;show(if p.1=k then(p.1,v) else p).1=p.1
  split <;> rfl
 ·rw [BL (by simpa using h),BL h,Ak];rfl
structure cV(ls:List Bl)(f:Str)(hr:Option Str)(kvs:List<|Key×V)(wt:List Str):Prop where
 fO:(kvs.map (·.1)).Nodup
 txt:∀ k∈kvs.map (·.1),∃ x,k=Sum.inr x/\x∈f :: tG ls
 val:∀ x v,aC kvs (Sum.inr x)=some v->∃ b,v = .bl b/\Way ls f x b
 fst:has kvs f
 xf:∀ x∈wt,has kvs x
 M8:∀ x,some x=hr->has kvs x
 cls:∀ x,has kvs x->x∈wt\/some x=hr\/∀ y o,oq ls x y o->has kvs y
theorem cV.len{ls:List Bl}{f:Str}{hr:Option Str}{kvs:List (Key×V)}{wt:List Str}(I:cV ls f hr kvs wt):kvs.length<=1+2 * ls.length:=by
 have:=aK I.fO (b:=(f :: tG ls).map Sum.inr) λk hk=>by
  obtain⟨x,e,hx⟩:=I.txt k hk;rw [e];exact Am.mpr ⟨x,hx,rfl⟩
 rw [Aa,Aa,At,M7] at this;omega
theorem tH{kvs:List (Key×V)}{k:Key}{v:V}{x:Str}(h:has kvs x):has (putK kvs k v) x:=by
 obtain⟨u,hu⟩:=h;unfold has;rw [c0]
 split
 ·exact⟨_,rfl⟩
 ·exact⟨u,hu⟩
theorem cV.start(ls:List Bl)(f:Str):cV ls f none (putK [] (Sum.inr f)<|.bl false) [f]:=by
 have e:putK ([]:List<|Key×V) (Sum.inr f) (.bl false)=[(Sum.inr f,.bl false)]:=rfl;have hv:∀ x,aC ([(Sum.inr f,.bl false)]:List<|Key×V) (Sum.inr x)=if x=f then some (.bl false) else none:=λx=>by
  rw [<- e,c0]
  by_cases h:x=f
  ·rw [BP h,BP<|by rw [h]]
  ·rw [BL h,BL λq=>h<|Sum.inr.inj q];rfl
 rw [e];refine⟨by simp,λk hk=>⟨f,by simpa using hk,Ae ..⟩,λx v h=>?_,⟨.bl false,by rw [hv f,BP rfl]⟩,λx hx=>?_,λx hx=>by(cases hx),λx hx=>?_⟩
 ·rw [hv x] at h
  by_cases c:x=f
  ·rw [BP c] at h;cases h;subst c;exact⟨false,rfl,.here⟩
  ·rw [BL c] at h;cases h
 ·rw [Ai.mp hx];exact⟨.bl false,by rw [hv f,BP rfl]⟩
 ·obtain⟨v,h⟩:=hx;rw [hv x] at h
  by_cases c:x=f
  ·exact .inl<|Ai.mpr c
  ·rw [BL c] at h;cases h
theorem cV.pop{ls:List Bl}{f h:Str}{kvs:List (Key×V)}{wt:List Str}(I:cV ls f none kvs<|wt++[h]):cV ls f (some h) kvs wt:=by
 refine⟨I.fO,I.txt,I.val,I.fst,λx hx=>I.xf x<|Bc _ hx,λx hx=>(by cases hx;exact I.xf h<|Au _<|Ai.mpr rfl),λx hx=>?_⟩
 rcases I.cls x hx with c | c | c
 ·rcases Aq.mp c with c | c
  ·exact .inl c
  ·exact .inr<|.inl<|by rw [Ai.mp c]
 ·cases c
 ·exact .inr<|.inr c
theorem cV.close{ls:List Bl}{f h:Str}{kvs:List (Key×V)}{wt:List Str}(I:cV ls f (some h) kvs wt)(c:∀ y o,oq ls h y o->has kvs y):cV ls f none kvs wt:=by
 refine⟨I.fO,I.txt,I.val,I.fst,I.xf,λx hx=>(by cases hx),λx hx=>?_⟩
 rcases I.cls x hx with d | d | d
 ·exact .inl d
 ·cases d;exact .inr<|.inr c
 ·exact .inr<|.inr d
theorem cV.jv{ls:List Bl}{f:Str}{hr:Option Str}{kvs:List (Key×V)}{wt:List Str}(I:cV ls f hr kvs wt){g:Str}(hg:aC kvs (Sum.inr g)=none):Sum.inr g∉kvs.map (·.1):=by
 intro hm;obtain⟨p,hp,e⟩:=Am.mp hm;have:∃ i:Nat,kvs[i]?=some p:=Bb hp;obtain⟨i,hi⟩:=this;have:∀{l:List (Key×V)},(∃ q∈l,q.1=Sum.inr g)->aC l (Sum.inr g)≠none:=λ{l}=>by
  induction l with
  | nil=>rintro ⟨q,hq,_⟩;cases hq
  | cons c r ih=>
   rintro ⟨q,hq,e⟩ hn
   by_cases hc:c.1=Sum.inr g
   ·rw [gP hc] at hn;cases hn
   ·rw [gg hc] at hn
    rcases Aj.mp hq with rfl | hq
    ·exact hc e
    ·exact ih ⟨q,hq,e⟩ hn
 exact this ⟨p,hp,e⟩ hg
theorem cV.Y9{ls:List Bl}{f h:Str}{kvs:List (Key×V)}{wt:List Str}(I:cV ls f (some h) kvs wt):has kvs h:=I.M8 h rfl
theorem cV.add{ls:List Bl}{f h g:Str}{kvs:List (Key×V)}{wt:List Str}{b o:Bool}(I:cV ls f (some h) kvs wt)(hg:aC kvs (Sum.inr g)=none)(hh:aC kvs (Sum.inr h)=some (.bl b))(t:oq ls h g o) :
  cV ls f (some h) (putK kvs (Sum.inr g)<|.bl<|b != o) (wt++[g]):=by
 have tI:=I.jv hg;have hw:Way ls f g (b != o):=by
  obtain⟨b',e,hw⟩:=I.val h _ hh;cases e
  rcases t with t | t
  ·exact .there hw t
  ·exact .back hw t
 refine⟨?_,λk hk=>?_,λx v hv=>?_,tH I.fst,λx hx=>?_,λx hx=>tH<|I.M8 x hx,λx hx=>?_⟩
 ·rw [C5,BL tI];exact ni I.fO tI
 ·rw [C5,BL tI] at hk
  rcases Aq.mp hk with hk | hk
  ·exact I.txt k hk
  ·exact⟨g,Ai.mp hk,Ah _<|Y8 t⟩
 ·rw [c0] at hv
  by_cases c:Sum.inr x=(Sum.inr g:Key)
  ·rw [BP c] at hv;cases hv;rw [Sum.inr.inj c];exact⟨_,rfl,hw⟩
  ·rw [BL c] at hv;exact I.val x v hv
 ·rcases Aq.mp hx with hx | hx
  ·exact tH<|I.xf x hx
  ·rw [Ai.mp hx];exact⟨_,by rw [c0,BP rfl]⟩
 ·obtain⟨v,hv⟩:=hx;rw [c0] at hv
  by_cases c:Sum.inr x=(Sum.inr g:Key)
  ·exact .inl<|Au _<|Ai.mpr<|Sum.inr.inj c
  ·rw [BL c] at hv
   rcases I.cls x ⟨v,hv⟩ with d | d | d
   ·exact .inl<|Bc _ d
   ·exact .inr<|.inl d
   ·exact .inr<|.inr λy o' ht=>tH<|d y o' ht
theorem cV.whole{ls:List Bl}{f:Str}{kvs:List (Key×V)}(I:cV ls f none kvs []):∀ x b,Way ls f x b->∃ b',aC kvs (Sum.inr x)=some (.bl b'):=by
 have eC:∀ x b,Way ls f x b->has kvs x:=λx b w=>by
  induction w with
  | here=>exact I.fst
  | there w hm ih=>
   rcases I.cls _ ih with d | d | d
   ·cases d
   ·cases d
   ·exact d _ _<|.inl hm
  | back w hm ih=>
   rcases I.cls _ ih with d | d | d
   ·cases d
   ·cases d
   ·exact d _ _<|.inr hm
 intro x b w;obtain⟨v,hv⟩:=eC x b w;obtain⟨b',e,_⟩:=I.val x v hv;exact⟨b',by rw [hv,e]⟩
open PyProof.Rows (sortedS)
def cH(n:Net):Prop:=∀ P:Str->Prop,(∃ r∈n,P r.1)->(∀ r∈n,∀ s∈n,∀ t,t∈r.2->t∈s.2->P r.1->P s.1)->∀ r∈n,P r.1
theorem M9{n m:Net}(h1:∀ r∈n,∃ s∈m,s.1=r.1/\∀ t∈r.2,t∈s.2)(h2:∀ s∈m,∃ r∈n,r.1=s.1)(h:cH n):cH m:=by
 rintro P ⟨s,hs,ps⟩ cl s' eF;obtain⟨r,hr,er⟩:=h2 s hs;obtain⟨r',iy,Za⟩:=h2 s' eF;rw [<- Za];refine h P ⟨r,hr,by rw [er];exact ps⟩ (λa ha b hb t ta tb pa=>?_) r' iy;obtain⟨a',xg,ea,sa⟩:=h1 a ha;obtain⟨b',kI,eb,sb⟩:=h1 b hb;rw [<- eb];exact cl a' xg b' kI t (sa t ta) (sb t tb)<|by rw [ea];exact pa
theorem Nb(r:Str×List Str):cH [r]:=by
 rintro P ⟨s,hs,ps⟩ _ x hx;rw [Ai] at hs hx;rw [hx,<- hs];exact ps
theorem C6(n:Net)(c:End)(z:Str)(i:Nat):(ins n c z)[i]?=(n[i]?).map λr=>if c.1=i then(r.1,r.2.take c.2++z :: r.2.drop c.2) else r:=by
 unfold ins;rw [Fh]
 by_cases h:c.1=i
 ·simp [h]
 ·simp [h]
theorem C7{n:Net}{c:End}{z:Str}(h:cH n):cH (ins n c z):=by
 refine M9 (λr hr=>?_) (λs hs=>?_) h
 ·obtain⟨i,hi⟩:=Bb hr;have e:=C6 n c z i;rw [hi] at e;refine⟨_,An e,?_,λt ht=>?_⟩
  ·split <;> rfl
  ·split
   ·show t∈r.2.take c.2++z :: r.2.drop c.2;rw [<- Cq c.2 r.2] at ht
    rcases Aq.mp ht with q | q
    ·exact Bc _ q
    ·exact Au _<|Ah _ q
   ·exact ht
 ·obtain⟨i,hi⟩:=Bb hs;rw [C6,Ao] at hi;obtain⟨r,hr,e⟩:=hi;refine⟨r,An hr,?_⟩;rw [<- e]
  split <;> rfl
theorem Zb{n:Net}{c:End}{z:Str}(hc:c.1 < n.length):∃ r∈ins n c z,z∈r.2:=by
 have e:=C6 n c z c.1;rw [Ab hc] at e;refine⟨_,An e,?_⟩;show z∈(if c.1=c.1 then((n[c.1].1,n[c.1].2.take c.2++z :: n[c.1].2.drop c.2):Str×List Str) else n[c.1]).2;rw [BP rfl];exact Au _<|Ae ..
theorem Zc{n:Net}{z pt:Str}(h:cH n)(hz:∃ r∈n,z∈r.2):cH (n++[(pt,[z])]):=by
 obtain⟨r,hr,zr⟩:=hz;rintro P ⟨s,hs,ps⟩ cl x hx;have mn:((pt,[z]):Str×List Str)∈n++[(pt,[z])]:=Au _<|Ai.mpr rfl;have ml:∀{y},y∈n->y∈n++[(pt,[z])]:=λhy=>Bc _ hy;have all:∀ y∈n,P y.1:=by
  refine h P ?_ λa ha b hb t ta tb pa=>cl a (ml ha) b (ml hb) t ta tb pa
  rcases Aq.mp hs with q | q
  ·exact⟨s,q,ps⟩
  ·rw [Ai] at q;subst q;exact⟨r,hr,cl _ mn r (ml hr) z (Ai.mpr rfl) zr ps⟩
 rcases Aq.mp hx with q | q
 ·exact all x q
 ·rw [Ai] at q;subst q;exact cl r (ml hr) _ mn z zr (Ai.mpr rfl)<|all r hr
def iS(zs:List Str):Prop:=zs.Pairwise λa b=>a.cps.toList < b.cps.toList
theorem C8:∀{zs:List Str},sortedS zs=true->zs.Nodup->iS zs
 | [],_,_=>List.Pairwise.nil
 | z :: r,h,hn=>by
  rw [Bq] at hn;refine List.Pairwise.cons (λx hx=>?_)<|C8 (bD.dL h) hn.2;have h1:=bD.dj r z h x hx
  rcases Gh.mp h1 with q | q
  ·exact q
  ·exact absurd hx<|by rw [<- bD.eJ q];exact hn.1
theorem Zd{zs:List Str}(h:iS zs):zs.Nodup:=h.imp λq e=>by rw [e] at q;exact Fz _ q
theorem Nc:∀{a b:List Str},iS a->iS b->(∀ x,x∈a↔x∈b)->a=b
 | [],[],_,_,_=>rfl
 | [],y :: b,_,_,h=>by have:=(h y).mpr<|Ae ..;cases this
 | x :: a,[],_,_,h=>by have:=(h x).mp<|Ae ..;cases this
 | x :: a,y :: b,ha,hb,h=>by
  unfold iS at ha hb;rw [Cu] at ha hb;have Zf:x=y:=by
   rcases Aj.mp ((h x).mp<|Ae ..) with e | e
   ·exact e
   ·rcases Aj.mp ((h y).mpr<|Ae ..) with e2 | e2
    ·exact e2.symm
    ·exact absurd (Ge (ha.1 y e2)<|hb.1 x e)<|Fz _
  subst Zf;have nx:∀(l:List Str),(∀ z∈l,x.cps.toList < z.cps.toList)->x∉l:=λl hl hm=>Fz _<|hl x hm;have:a=b:=Nc ha.2 hb.2 λz=>by
   constructor
   ·intro hz
    rcases Aj.mp ((h z).mp<|Ah _ hz) with e | e
    ·exact absurd (e ▸ hz)<|nx a ha.1
    ·exact e
   ·intro hz
    rcases Aj.mp ((h z).mpr<|Ah _ hz) with e | e
    ·exact absurd (e ▸ hz)<|nx b hb.1
    ·exact e
  rw [this]
def C9(n:Net)(ps:List Str)(z:Str):Prop:=∃ e,aG n e=some z/\aF n e.1∈ps/\aF n (other n e).1∉ps
theorem Zg{n:Net}{ps:List Str}{z:Str}(h:C9 n ps z):z∈ag n:=by
 obtain⟨e,he,_⟩:=h;exact fj he
theorem Nf{n:Net}(T:ay n){ps:List Str}{z:Str}{e:End}(he:aG n e=some z):C9 n ps z↔(decide (aF n e.1∈ps) != decide (aF n (other n e).1∈ps))=true:=by
 have o:=fk T he
 constructor
 ·rintro ⟨x,hx,h1,h2⟩
  rcases (ju T he).mp hx with q | q
  ·subst q;simp [h1,h2]
  ·subst q;rw [o.2.1] at h2;simp [h1,h2]
 ·intro h
  by_cases h1:aF n e.1∈ps
  ·by_cases h2:aF n (other n e).1∈ps
   ·simp [h1,h2] at h
   ·exact⟨e,he,h1,h2⟩
  ·by_cases h2:aF n (other n e).1∈ps
   ·exact⟨other n e,o.1,h2,by rw [o.2.1];exact h1⟩
   ·simp [h1,h2] at h
theorem Zh{n:Net}(T:ay n){x:Lk}(h:om n x):∃ e,aG n e=some x.1/\x.2.1=aF n e.1/\x.2.2=aF n (other n e).1:=by
 obtain⟨a,b,hp,h1,h2⟩:=h;have ha:aG n a=some x.1:=aN.mp (by rw [hp];exact Ae ..);have hb:aG n b=some x.1:=aN.mp (by rw [hp];simp);have ko:=L3 n x.1;rw [hp] at ko;have fI:b≠a:=λq=>by rw [q] at ko;simp at ko
 rcases (ju T ha).mp hb with q | q
 ·exact absurd q fI
 ·exact⟨a,ha,h1,by rw [h2,q]⟩
theorem Zi{n:Net}(T:ay n){e:End}{z:Str}(h:aG n e=some z):om n (z,aF n e.1,aF n (other n e).1)\/om n (z,aF n (other n e).1,aF n e.1):=by
 obtain⟨a,b,hp,fI,hh⟩:=qk T h;have ha:aG n a=some z:=aN.mp (by rw [hp];exact Ae ..);have hb:aG n b=some z:=aN.mp<|by rw [hp];simp
 rcases hh with q | q
 ·subst q;refine .inl ⟨e,b,hp,rfl,?_⟩
  rcases (ju T h).mp hb with q | q
  ·exact absurd q.symm fI
  ·show aF n (other n e).1=aF n b.1;rw [q]
 ·subst q;refine .inr ⟨a,e,hp,?_,rfl⟩
  rcases (ju T h).mp ha with q | q
  ·exact absurd q fI
  ·show aF n (other n e).1=aF n a.1;rw [q]
def bA(n:Net):Str:=aF n 0
structure jw(n:Net)(ss sd:List Str):Prop where
 jY:iS sd
 mem:∀ x∈sd,x∈n.map (·.1)
 fst:bA n∉sd
 cut:∀ z,z∈ss↔C9 n sd z
structure Tells(n:Net)(ss:List Str)(ls:List Bl):Prop where
 to:∀ e z,aG n e=some z->oq ls (aF n e.1) (aF n (other n e).1) (decide (z∈ss))
 Zj:∀ l∈ls,∃ e z,aG n e=some z/\l=(aF n e.1,aF n (other n e).1,decide (z∈ss))
theorem Zk{n:Net}{x:Str}(h:x∈n.map (·.1)):∃ i,i < n.length/\x=aF n i:=by
 obtain⟨r,hr,e⟩:=Am.mp h;obtain⟨i,hi,q⟩:=Bz.mp hr;exact⟨i,hi,by rw [eS hi,q];exact e.symm⟩
theorem ou{n:Net}{i:Nat}(h:i < n.length):aF n i∈n.map (·.1):=by
 rw [eS h];exact Am.mpr ⟨_,Bw h,rfl⟩
noncomputable def dq(n:Net)(ss:List Str):List Bl:=(ends n).map λe=>(aF n e.1,aF n (other n e).1,decide ((aG n e).getD ⟨#[]⟩∈ss))
theorem Ng{n:Net}{ss:List Str}:Tells n ss (dq n ss):=by
 refine⟨λe z h=> .inl (Am.mpr ⟨e,af.mpr ⟨z,h⟩,by rw [h];rfl⟩),λl hl=>?_⟩;obtain⟨e,he,q⟩:=Am.mp hl;obtain⟨z,hz⟩:=af.mp he;exact⟨e,z,hz,by rw [<- q,hz];rfl⟩
theorem DA{n:Net}(T:ay n){e:End}{z:Str}(h:aG n e=some z):(other n e).1 < n.length:=cg (fk T h).1
theorem oz{X:Cx}{H:Hp}{k:Nat}(z:Str):gT X H k (.str z) (.str z) true:=by
 have:=nM (X:=X) (H:=H) (k:=k) (x:= .str z) (y:= .str z) rfl rfl;have e:cj (.str z) (.str z)=true:=by show(z == z)=true;simp
 rw [e] at this;exact this
theorem tJ{X:Cx}{H:Hp}{a b:Addr}{zs:List Str}(ha:H a=some (Ls zs))(hb:H b=some (Ls zs)):iO X H 1 (.ref a) (.ref b) true:=by
 have q:=sr (X:=X) (k:=0) (λ_=>true) (ai.of (K:=X.K) ha) (ai.of (K:=X.K) hb) rfl λj x y hx hy=>by
  rw [hx] at hy;cases hy;rw [Ad,Ao] at hx;obtain⟨z,_,rfl⟩:=hx;exact oz z
 rw [kC] at q;exact q
theorem oA{X:Cx}{H:Hp}{k:Nat}{a b:Addr}(h:iO X H k (.ref a) (.ref b) true):gT X H k (.ref a) (.ref b) true:=by
 by_cases e:a=b
 ·subst e;exact LJ
 ·exact LL e h
theorem Zm{X:Cx}{H:Hp}{R R':Addr}{as bs:List (Addr×Addr)}{n:Net}(h:ah H R as n)(g:ah H R' bs n):l9 X H 3 (.ref R) (.ref R') true:=by
 have q:=wg (X:=X) (k:=2) (λ_=>true) (ai.of (K:=X.K) h.lst) (ai.of (K:=X.K) g.lst) (by rw [Aa,Aa,h.len,g.len]) λj x y hx hy=>by
  rw [Ad,Ao] at hx hy;obtain⟨a,ea,rfl⟩:=hx;obtain⟨b,eb,rfl⟩:=hy;have hj:j < n.length:=by
   have:=(Ac.mp ea).1;have:=h.len;omega
  obtain⟨q1,q2⟩:=h.tup j a n[j] ea<|Ab hj;obtain⟨q3,q4⟩:=g.tup j b n[j] eb<|Ab hj;have t:=AK (X:=X) (k:=1) (λ_=>true) (aJ.of (K:=X.K) q1) (aJ.of (K:=X.K) q3) rfl λi x y hx hy=>by
   match i with
   | 0=>cases hx;cases hy;exact oz _
   | 1=>cases hx;cases hy;exact oA<|tJ q2 q4
   | i+2=>simp at hx
  rw [kC] at t;exact oA t
 rw [kC] at q;exact q
theorem Zn{X:Cx}{H:Hp}{k:Nat}(y z:Str):gT X H k (.str y) (.str z) (decide (y=z)):=by
 have:=nM (X:=X) (H:=H) (k:=k) (x:= .str y) (y:= .str z) rfl rfl;have e:cj (.str y) (.str z)=decide (y=z):=by
  show(y == z)=_;rw [Di,FT];simp
 rw [e] at this;exact this
theorem Zo(ys zs:List Str)(h:ys.length=zs.length):(List.range ys.length).all (λj=>decide (ys[j]?=zs[j]?))=decide (ys=zs):=by
 rw [Di,De,FT]
 constructor
 ·intro q;refine Ed λj=>?_
  by_cases hj:j < ys.length
  ·exact BZ<|q j<|Bg.mpr hj
  ·rw [Bv (by omega),Bv<|by omega]
 ·rintro rfl j _;exact BW rfl
theorem Nh{X:Cx}{H:Hp}{a b:Addr}{ys zs:List Str}(ha:H a=some (Ls ys))(hb:H b=some (Ls zs)):iO X H 1 (.ref a) (.ref b) (decide (ys=zs)):=by
 by_cases hl:ys.length=zs.length
 ·have q:=sr (X:=X) (k:=0) (λj=>decide (ys[j]?=zs[j]?)) (ai.of (K:=X.K) ha) (ai.of (K:=X.K) hb) (by rw [Aa,Aa,hl]) λj x y hx hy=>by
   rw [Ad,Ao] at hx hy;obtain⟨u,hu,rfl⟩:=hx;obtain⟨v,hv,rfl⟩:=hy;have:=Zn (X:=X) (H:=H) (k:=0) u v;have e:decide (ys[j]?=zs[j]?)=decide (u=v):=by
    rw [hu,hv,Di,FT,FT];exact⟨Option.some.inj,λh=>by rw [h]⟩
   rw [e];exact this
  rw [Aa,Zo ys zs hl] at q;exact q
 ·have e:decide (ys=zs)=false:=BR λq=>hl (by rw [q]);rw [e];exact Wb (ai.of ha) (ai.of hb)<|by rw [Aa,Aa];exact hl
open PyProof.Rows (sortedS)
theorem Zq{kvs:List (Key×V)}{k:Key}{v:V}(hg:aC kvs k=some v):k∈kvs.map (·.1):=by
 refine CK λhn=>?_
 induction kvs with
 | nil=>cases hg
 | cons c r ih=>
  rw [Bd,Aj] at hn;rw [gg λq=>hn<|.inl q.symm] at hg;exact ih hg λq=>hn<|.inr q
theorem xh{n:Net}(hn:(n.map (·.1)).Nodup){i j:Nat}(hi:i < n.length)(hj:j < n.length)(h:aF n i=aF n j):i=j:=by
 rw [eS hi,eS hj] at h;have:=(Cc.mp hn);rw [Az] at this
 rcases Ee i j with q | q | q
 ·exact absurd (by rw [Du,Du];exact h)<|this i j (by simpa using hi) (by simpa using hj) q
 ·exact q
 ·exact absurd (by rw [Du,Du];exact h.symm)<|this j i (by simpa using hj) (by simpa using hi) q
open PyProof.Rows (sortedS)
theorem Zr(a b c:List Str)(h:∀ z,z∈c↔(if z∈a then z∉b else z∈b)):∀ zs:List Str,(zs.filter λz=>c.contains z).length % 2=((zs.filter λz=>a.contains z).length+(zs.filter λz=>b.contains z).length) % 2
 | []=>rfl
 | z :: r=>by
  have ih:=Zr a b c h r;have hz:=h z;have ca:=λ(l:List Str)=>(Do (as:=l) (a:=z));simp only [QX]
  by_cases ha:z∈a <;> by_cases hb:z∈b
  ·have hc:z∉c:=λq=>by have:=hz.mp q;rw [BP ha] at this;exact this hb
   rw [BP<|(ca a).mpr ha,BP<|(ca b).mpr hb,BL λq=>hc<|(ca c).mp q,At,At];omega
  ·have hc:z∈c:=hz.mpr (by rw [BP ha];exact hb);rw [BP<|(ca a).mpr ha,BL λq=>hb<|(ca b).mp q,BP<|(ca c).mpr hc,At,At];omega
  ·have hc:z∈c:=hz.mpr (by rw [BL ha];exact hb);rw [BL λq=>ha<|(ca a).mp q,BP<|(ca b).mpr hb,BP<|(ca c).mpr hc,At,At];omega
  ·have hc:z∉c:=λq=>by have:=hz.mp q;rw [BL ha] at this;exact hb this
   rw [BL λq=>ha<|(ca a).mp q,BL λq=>hb<|(ca b).mp q,BL λq=>hc<|(ca c).mp q];exact ih
theorem DB{a:List Str}(hn:a.Nodup):∀ l:List Str,(l.filter λz=>a.contains z).length=(a.map λz=>l.count z).sum
 | []=>by
  have:∀ a:List Str,(a.map λz=>([]:List Str).count z).sum=0:=λa=>by
   induction a with
   | nil=>rfl
   | cons x r ih=>rw [Bd,Gu,ih];rfl
  rw [this];rfl
 | y :: l=>by
  have ih:=DB hn l;have key:∀ a:List Str,(a.map λz=>(y :: l).count z).sum=(a.map λz=>l.count z).sum+a.count y:=λa=>by
   induction a with
   | nil=>rfl
   | cons x r ih=>
    rw [Bd,Gu,ih,Bd,Gu,Dq,Dq]
    by_cases h:y=x
    ·rw [BP (by simp [h]),BP<|by simp [h]];omega
    ·rw [BL (by simpa using h),BL<|by simpa using λq=>h<|QT q];omega
  rw [key,QX,<- ih,hn.count]
  by_cases h:y∈a
  ·rw [BP<|Do.mpr h,BP h,At]
  ·rw [BL λq=>h<|Do.mp q,BL h];rfl
theorem Zt{n:Net}(T:ay n){ss:List Str}(hn:ss.Nodup)(hm:∀ z∈ss,z∈ag n):2 * ss.length<=(ag n).length:=by
 have h:=DB hn<|ag n;have e:∀ l:List Str,(∀ z∈l,z∈ag n)->(l.map λz=>(ag n).count z).sum=2 * l.length:=λl=>by
  induction l with
  | nil=>intro _;rfl
  | cons x r ih=>
   intro hl;rw [Bd,Gu,ih λz hz=>hl z<|Ah _ hz,T x<|hl x<|Ae ..,At];omega
 rw [e ss hm] at h;rw [<- h];exact RZ _ _
theorem Zu{x y:Str}(h:x≠y):x.cps.toList < y.cps.toList\/y.cps.toList < x.cps.toList:=by
 by_cases q:x.cps.toList < y.cps.toList
 ·exact .inl q
 ·rcases Gh.mp (List.not_lt.mp q) with q | q
  ·exact .inr q
  ·exact absurd (bD.eJ q).symm h
theorem Ni(x:Str):∀ sd:List Str,iS sd->∃ iz,iS iz/\∀ y,y∈iz↔y=x\/y∈sd
 | [],_=>⟨[x],RJ _ _,λy=>by simp⟩
 | z :: r,h=>by
  have h:=Cu.mp h
  by_cases e:x=z
  ·subst e;exact⟨x :: r,Cu.mpr h,λy=>by simp⟩
  ·rcases Zu e with q | q
   ·refine⟨x :: z :: r,Cu.mpr ⟨λy hy=>?_,Cu.mpr h⟩,λy=>Aj⟩
    rcases Aj.mp hy with rfl | hy
    ·exact q
    ·exact Ge q<|h.1 y hy
   ·obtain⟨iz,hs,hm⟩:=Ni x r h.2;refine⟨z :: iz,Cu.mpr ⟨λy hy=>?_,hs⟩,λy=>?_⟩
    ·rcases (hm y).mp hy with rfl | hy
     ·exact q
     ·exact h.1 y hy
    ·rw [Aj,hm y,Aj];exact⟨λk=>by rcases k with k | k | k <;> simp [k],λk=>by rcases k with k | k | k <;> simp [k]⟩
theorem DC:∀ l:List Str,∃ sd,iS sd/\∀ x,x∈sd↔x∈l
 | []=>⟨[],List.Pairwise.nil,λ_=>TY⟩
 | x :: r=>by
  obtain⟨sd,hs,hm⟩:=DC r;obtain⟨iz,eF,mD⟩:=Ni x sd hs;exact⟨iz,eF,λy=>by rw [mD y,hm y,Aj]⟩
def HF(n:Net):Prop:=cH n/\Fl n
theorem Zv{nm:Str}:HF [(nm,[])]:=⟨Nb _,YW⟩
theorem Zw{n:Net}{c:End}{z pt:Str}(T:ay n)(F:Full n)(hz:z∉ag n)(hc:dP n c) (hp:(ag<|ins n c z++[(pt,[z])]).Perm<|z :: z :: ag n) (P:HF n):HF (ins n c z++[(pt,[z])]):=
 ⟨Zc (C7 P.1)<|Zb hc.1,YX T F hz hc hp P.2⟩
theorem Zx{n:Net}{k1 k2:End}{z:Str}(T:ay n)(F:Full n)(hz:z∉ag n)(h1:dP n k1)(h2:dP n k2) (hp:(ag<|ins (ins n k1 z) k2 z).Perm<|z :: z :: ag n) (ord:k2=k1\/sh k1 k2=k2) (same:(∃ k,it (step n) k k1=k2)\/∃ k,it (step n) k k2=k1) (P:HF n):HF (ins (ins n k1 z) k2 z):=
 ⟨C7<|C7 P.1,YY T F hz h1 h2 hp ord same P.2⟩
theorem Zy{n n2 n0:Net}{j i:Nat}(hj:j < n.length)(hi:i < max 1 (row n j).length)(T0:ay n0)(pt:(ag n++ag n2).Perm<|ag n0)
  (fq:(ag (n.eraseIdx j)++ag (n2++[(n[j].1,(row n j).drop i++(row n j).take i)])).Perm<|ag n0) (P:HF<|n++n2):HF (n.eraseIdx j++(n2++[(n[j].1,(row n j).drop i++(row n j).take i)])):=by
 refine⟨M9 (λr hr=>?_) (λx hx=>?_) P.1,Y6 hj hi T0 pt fq P.2⟩
 ·rcases Aq.mp hr with hx | hx
  ·rcases (bD.bS n j hj).symm.mem_iff.mp hx |> Aj.mp with q | q
   ·refine⟨(n[j].1,(row n j).drop i++(row n j).take i),Au _<|Au _<|Ai.mpr rfl,by rw [q],λt ht=>?_⟩;refine(B5 (row n j) i).mem_iff.mpr ?_;rw [kF hj,<- q];exact ht
   ·exact⟨r,Bc _ q,rfl,λt h=>h⟩
  ·exact⟨r,Au _<|Bc _ hx,rfl,λt h=>h⟩
 ·rcases Aq.mp hx with hx | hx
  ·exact⟨x,Bc _<|Fr hx,rfl⟩
  ·rcases Aq.mp hx with hx | hx
   ·exact⟨x,Au _ hx,rfl⟩
   ·rw [Ai] at hx;exact⟨n[j],Bc _<|Bw hj,by rw [hx]⟩
theorem jx{α:Type}:∀ l:List α,az (l.map λ_=>false)=false
 | []=>rfl
 | _ :: l=>by show(false ^^ az _)=false;rw [jx l];rfl
theorem DE(x:Nat)(e:End):∀ m,az ((List.range m).map λp=>decide ((x,p)=e))=decide (x=e.1/\e.2 < m)
 | 0=>by simp [az]
 | m+1=>by
  rw [Dx,Ak,qD,DE x e m];show(decide (x=e.1/\e.2 < m) ^^ (decide ((x,m)=e) ^^ false))=_;rw [Go];obtain⟨a,b⟩:=e
  by_cases h:x=a
  ·by_cases h2:b=m
   ·subst h;subst h2;simp
   ·have e1:((x,m)=(a,b))=False:=by simp [h];omega
    rw [BR (p:=(x,m)=(a,b)) (by rw [e1];exact id),Go];exact decide_eq_decide.mpr ⟨λq=>⟨q.1,by have:=q.2;omega⟩,λq=>⟨q.1,by have:=q.2;show b < m;omega⟩⟩
  ·rw [BR λq=>h q.1,BR λq=>h<|BX Prod.fst q,BR λq=>h q.1];rfl
theorem Nj{n:Net}(T:ay n){e:End}{t:Str}(h:aG n e=some t)(x:Nat):az ((row n x).map λy=>decide (y=t))=(decide (x=e.1) ^^ decide (x=(other n e).1)):=by
 have o:=fk T h;rw [M4 n x (λy=>decide (y=t)) (λa=>decide (a=e) ^^ decide (a=other n e)) λp z hz=>?_]
 ·rw [iR (λp=>decide ((x,p)=e)) λp=>decide ((x,p)=other n e),DE,DE];have l1:=eN h;have l2:=eN o.1
  congr 1
  ·exact decide_eq_decide.mpr ⟨λq=>q.1,λq=>⟨q,by rw [q];exact l1⟩⟩
  ·exact decide_eq_decide.mpr ⟨λq=>q.1,λq=>⟨q,by rw [q];exact l2⟩⟩
 ·have hz:aG n (x,p)=some z:=hz
  by_cases q:z=t
  ·subst q
   rcases (ju T h).mp hz with k | k
   ·rw [k,BW rfl,BW rfl,BR<|CG o.2.2];rfl
   ·rw [k,BW rfl,BW rfl,BR o.2.2];rfl
  ·have h1:((x,p):End)≠e:=λk=>by rw [k,h] at hz;exact q (Option.some.inj hz).symm
   have h2:((x,p):End)≠other n e:=λk=>by rw [k,o.1] at hz;exact q (Option.some.inj hz).symm
   rw [BR q,BR h1,BR h2];rfl
end Nt
namespace F3
open PySem L2 Nt bM
def DF:Sp:=λvs H Q _=>∃(R:Addr) (as:List<|Addr×Addr) (n:Net) (b:Int) (z pt:Str),vs=[.ref R,.int b,.str z,.str pt]/\ah H R as n/\ay n/\Full n/\z∉ag n/\n.length<=100/\(ag n).length<=100 /\
 ∀ i oB n' H',ah H' R oB n'->nX H H' (R :: as.map (·.2))->(∀ a∈oB,a∈as\/H a.2=none)->(ag n').Perm (z :: z :: ag n)->(n'.map (·.1)=n.map (·.1)\/n'.map (·.1)=n.map (·.1)++[pt])->Full n'->(HF n->HF n')->Q (.int i) H'
section
variable{P:Program}{w:World}{K:PySem.W.Frag}{mg:Str->Option Value}{base:Heap}
abbrev NP:List Str:=["_law_rows","_law_big_here","_law_tie","_law_point","_law_corners","_law_r","_law_place","_law_one","_law_kind","_law_face_here","_law_other_here","_law_spot"]
theorem mE:al NP ["_law_rows","_law_big_here","_law_tie","_law_point"] (aQ nS):=⟨rfl,rfl,rfl,by decide +kernel,rfl,by decide +kernel,by decide +kernel⟩
theorem Nk{ts:List Addr}{j:Nat}{t:Addr}(h:ts[j]?=some t):dG (ts.map V.ref) (j:Int)=some (.ref t):=i5<|by rw [Ad,h];rfl
theorem Zz{f:Addr}{fd:FuncData}(F:bH K "_law_put" "_law_put" nS f fd)(T:Txt mg)
  (GS:aV P w K mg base 3 "_law_seats" ["_law_rows"] BM)
  (GF:aV P w K mg base 3 "_law_face" ["_law_rows","_law_seats_here","_law_end"] BU) :
  aE P w K mg base bJ 4 f fd ["_law_rows","_law_big_here","_law_tie","_law_point"] DF:=by
 refine F.gb mE (λvs H Q E h=>?_) λb0 H vs Q E hr h=>?_
 ·obtain⟨R,as,n,b,z,pt,rfl,_⟩:=h;rfl
 obtain⟨R,as,n,b,z,pt,rfl,hR,hT,hF,hz,hn,htn,q⟩:=h;have nd:=mE.nd;have hu:=hr.gm;have bQ:=hR.len;show Run _ _ _ [some<|.ref R,some<|.int b,some<|.str z,some<|.str pt,none,none,none,none,none,none,none,none] H;refine aX 4 nd<|cL<|aq ⟨Z0,λlc Nm=>?_⟩;have g0:=aP Nm<|.lst [];refine jO T.range (bL cm T.len CP<|ak<|ae 0<|aq ⟨R,_,rfl,.inl<|ai.of<|g0 _ _ hR.lst,_,rfl,by omega,by rw [Aa];omega,?_⟩);rw [Aa,bQ,Bm];refine jP (λr σ H3=>∃(ts:List Addr) (cs:List Nt.End) (u1 u2:Option V),aj H H3/\H3 lc=some (.lst<|ts.map V.ref)/\Pd H3 ts cs/\(∀ c∈cs,dP n c)/\(0 < r->cs≠[])/\cs.length<=101 * r/\σ=[some<|.ref R,some<|.int b,some<|.str z,some<|.str pt,some<|.ref lc,u1,u2,none,none,none,none,none]) ⟨[],[],_,_,g0,aw,.nil,λc hc=>(nomatch hc),λh=>absurd h (by decide),Al _,rfl⟩ ?_ ?_
 ·rintro r σ H3 hi ⟨ts,cs,u1,u2,sH,el,ep,hc,bj,hlen,rfl⟩;rw [Dw];refine bb 5 nd ?_;obtain⟨a,ea,dN,et,ZA,er⟩:=(hR.same sH).at hi;have iT:=fY n r;refine jO T.range<|bL (Jn rfl) T.max SQ<|ak<|aB<|ak<|bL cm T.len CP<|ak<|aS bW<|aS cf<|ae 0<|ae 5 ⟨R,_,_,.ref a.1,rfl,rfl,ai.of<|sH _ _ hR.lst,dN,aB ⟨a.1,_,_,.ref a.2,rfl,rfl,aJ.of et,rfl,aq ⟨a.2,_,rfl,.inl<|ai.of ZA,?_⟩⟩⟩;rw [Aa];have em:(if((row n r).length:Int) > 1 then((row n r).length:Int) else 1)=((max 1 (row n r).length:Nat):Int):=by
   split <;> omega
  refine aq ⟨1,_,rfl,((max 1 (row n r).length:Nat):Int),by rw [em],by omega,by omega,?_⟩;rw [Bm];refine jP (λp σ H4=>∃(ts:List Addr) (cs:List Nt.End) (u2:Option V),aj H H4/\H4 lc=some (.lst<|ts.map V.ref)/\Pd H4 ts cs/\(∀ c∈cs,dP n c)/\(0 < r+p->cs≠[])/\cs.length<=101 * r+p/\σ=[some<|.ref R,some<|.int b,some<|.str z,some<|.str pt,some<|.ref lc,some<|.int (r:Int),u2,none,none,none,none,none]) ⟨ts,cs,_,sH,el,ep,hc,bj,hlen,rfl⟩ ?_ ?_
  ·rintro p σ H4 hp ⟨ts,cs,u2,sH,el,ep,hc,bj,hlen,rfl⟩;rw [Dw];refine bb 6 nd ?_;refine gR<|je<|ae 4 ⟨lc,rfl,⟨_,el⟩,dH<|ak<|ae 5<|ak<|ae 6<|aq ⟨Z2,λt ht=>?_⟩⟩;have nO:lc≠t:=bF el ht;have s2:=aP ht<|Tp (r,p);have DH:=ep.length;refine⟨ts.map V.ref,by rw [av nO];exact el,by rw [Aa];exact bU (by omega),?_⟩;refine a8 ⟨ts++[t],cs++[(r,p)],_,c8 (sH.trans s2) Nm,by rw [aw,Ak];rfl,?_,λc h=>?_,λ_=>by simp,by rw [Ag];simp;omega,rfl⟩
   ·refine Pd.append (ep.keep λx e h=>?_)<|.cons ?_ .nil
    ·rw [av<|sy h el];exact s2 _ _ h
    ·rw [av nO.symm,aw]
   ·rcases Aq.mp h with h | h
    ·exact hc c h
    ·rw [Ai] at h;subst h;exact⟨hi,hp⟩
  ·rintro σ H4 ⟨ts,cs,u2,sH,el,ep,hc,bj,hlen,rfl⟩;refine a8 ⟨ts,cs,_,_,sH,el,ep,hc,λ_=>bj (by omega),by omega,rfl⟩
 rintro σ H3 ⟨ts,cs,u1,u2,sH,el,ep,hc,bj,hlen,rfl⟩;have zN:0 < n.length:=By.mpr hF.some;have j6:=bj zN;have df:0 < cs.length:=By.mpr j6;have DH:=ep.length;have m0:0<=b % (cs.length:Int):=Bs _ (by omega);have m1:b % (cs.length:Int) < cs.length:=Bx _ (by omega);obtain⟨j,hj⟩:∃ j:Nat,b % (cs.length:Int)=j:=⟨(b % (cs.length:Int)).toNat,by omega⟩;have nZ:j < cs.length:=by omega
 have ZC:cs[j]?=some cs[j]:=Ab nZ;obtain⟨t1,xk,e1⟩:=ep.at ZC;have gJ:dP n cs[j]:=hc _<|Bw nZ;generalize cs[j]=c1 at e1 gJ;refine aX 7 nd<|aS cf<|ae 4<|aW cT<|ae 1<|bL cm T.len CP<|ak<|ae 4<|aq ⟨lc,_,rfl,.inl<|ai.of el,?_⟩;rw [Aa,DH];refine⟨_,_,rfl,rfl,by omega,lc,_,_,.ref t1,rfl,rfl,ai.of el,by rw [hj];exact Nk xk,?_⟩;refine aX 1 nd<|aW gM<|ae 1<|bL cm T.len CP<|ak<|ae 4<|aq ⟨lc,_,rfl,.inl<|ai.of el,?_⟩;rw [Aa,DH];refine⟨_,_,rfl,rfl,⟨by omega,by omega⟩,?_⟩;show Run _ _ _ [some<|.ref R,some<|.int<|b / (cs.length:Int),some<|.str z,some<|.str pt,some<|.ref lc,u1,u2,some<|.ref t1,none,none,none,none] H3;generalize b / (cs.length:Int)=b2;refine aX 8 nd (aW cT<|ae 1<|aB ⟨_,_,rfl,rfl,(by show(0:Int) < 3;decide),?_⟩);refine aX 1 nd (aW gM<|ae 1<|aB ⟨_,_,rfl,rfl,⟨by decide,by decide⟩,?_⟩);show Run _ _ _ [some<|.ref R,some<|.int<|b2 / 3,some<|.str z,some<|.str pt,some<|.ref lc,u1,u2,some<|.ref t1,some<|.int<|b2 % 3,none,none,none] H3;generalize b2 / 3=b3;have qE:=hR.same sH;obtain⟨a,ea,dN,eta,Nn,era⟩:=qE.at gJ.1;have Np:∀(m:Net),(ag m).length<=200->∀ i,(row m i).length<=200:=λm h i=>Cg (fY m i) h;have cin:c1.2<=(row n c1.1).length:=by
  have:=gJ.2;omega
 refine cY<|cD i0<|ae 8<|aB ⟨rfl,_,rfl,?_⟩;refine ie (λ_=>?_) λ_=>a8 ?_
 ·
  have rl:=fY n c1.1;refine gR<|AQ FZ QZ RB LU<|aS bW<|aS cf<|ae 0<|aS bW<|ae 7<|aB ⟨t1,_,_,.int (c1.1:Int),rfl,rfl,aJ.of e1,rfl,R,_,_,.ref a.1,rfl,rfl,ai.of qE.lst,dN,aB ⟨a.1,_,_,.ref a.2,rfl,rfl,aJ.of eta,rfl,Or.inl ⟨rfl,_,ai.of Nn⟩,?_⟩⟩;refine aS bW (ae 7<|aB ⟨t1,_,_,.int (c1.2:Int),rfl,rfl,aJ.of e1,rfl,ae 2 ⟨a.2,_,_,_,rfl,rfl,Nn,by omega,by rw [Bm,Aa];exact cin,by rw [Aa];exact bU (by omega),?_⟩⟩);rw [Bm,Mh];have R4:=qE.ins (z:=z) ea gJ.1;refine gR<|je<|ae 0 ⟨R,rfl,⟨_,R4.lst⟩,dH<|ak<|ae 3<|ak<|cL<|ak<|ae 2<|aq ⟨Z1,λl1 fH=>?_⟩⟩;refine aq ⟨Z2,λt2 iN=>?_⟩;have s5:=aP fH<|Ls [z];have s6:=aP iN<|.tup [.str pt,.ref l1];have R6:=(R4.same s5).same s6;refine⟨_,R6.lst,by rw [Aa];exact bU (by omega),?_⟩;have ZD:H3 l1=none:=by
   by_cases q1:l1=a.2
   ·rw [q1,aw] at fH;cases fH
   ·rwa [av q1] at fH
  have ZE:l1∉as.map (·.2):=λhm=>by
   obtain⟨x,hx,e⟩:=Am.mp hm;exact R4.fresh fH hx e.symm
  have ZF:l1≠R:=λe=>by rw [e,R4.lst] at fH;cases fH
  have R7:=R6.more (t:=t2) (l:=l1) (pt:=pt) (zs:=[z]) aw (s6 _ _ aw) ZE ZF;have tp:(ag<|ins n c1 z++[(pt,[z])]).Perm (z :: z :: ag n):=by
   unfold ag;rw [Dg];show(ag (ins n c1 z)++[z]).Perm _;exact(Cr).trans<|(jX n c1 z gJ.1).cons z
  refine bT<|ae 1<|q _ _ _ _ R7 (λx o hx jy=>?_) (λx hx=>?_) tp (.inr ?_) ?_ λhP=>Zw hT hF hz gJ tp hP
  ·have x1:x≠R:=λe=>jy (by rw [e];exact Ae);have x2:x≠a.2:=λe=>jy (Ah _<|by rw [e];exact Am.mpr ⟨a,An ea,rfl⟩);rw [av x1];refine s6 _ _<|s5 _ _ ?_;rw [av x2];exact sH _ _ hx
  ·rcases Aq.mp hx with hx | hx
   ·exact .inl hx
   ·rw [Ai] at hx;subst hx;exact .inr<|sH.free ZD
  ·rw [Ak,BV];rfl
  ·refine .inr ⟨by simp,λi hi=>?_⟩;have ZG:=(B0 (z:=z) hF gJ.1 hF.either).1;rw [Ag] at hi;simp at hi
   rcases Cz i (ins n c1 z).length with h | h
   ·have:=ZG i h;unfold row at this ⊢;rw [Aw h];exact this
   ·unfold row;rw [Ba h,show i - (ins n c1 z).length=0 by omega];simp
 ·
  refine aX 9 nd<|cL<|ak<|ae 7<|aq ⟨Z1,λlf Nq=>?_⟩;have s4:=aP Nq<|.lst [.ref t1];have sH4:=sH.trans s4;have kL:=qE.same s4;obtain⟨a0,ZH,jz,qF,tK,Nr⟩:=kL.at zN;have ZI:∀ x∈as,lf≠x.2:=λx hx=>qE.fresh Nq hx;show Run _ _ _ [some<|.ref R,some<|.int b3,some<|.str z,some<|.str pt,some<|.ref lc,u1,u2,some<|.ref t1,some<|.int<|b2 % 3,some<|.ref lf,none,none] (upd H3 lf<|.lst [.ref t1]);refine Wk (λk H'=>aj (upd H3 lf<|.lst [.ref t1]) H'/\(k=true->row n 0≠[])) (λσ' H'=>∃(lf:Addr) (jW:List Addr) (fs:List Nt.End),aj H3 H'/\(∀ x∈as,lf≠x.2)/\H' lf=some (.lst<|jW.map V.ref)/\Pd H' jW fs/\0 < fs.length/\fs.length<=1000/\(∀ c∈fs,dP n c/\∃ k,it (step n) k c1=c) /\
   σ'=[some<|.ref R,some<|.int b3,some<|.str z,some<|.str pt,some<|.ref lc,u1,u2,some<|.ref t1,some<|.int<|b2 % 3,some<|.ref lf,none,none]) ?_ ?_ (λH5 ⟨s5,_⟩=>a8 ⟨lf,[t1],[c1],s4.trans s5,ZI,s5 _ _ aw,.cons (s5 _ _<|s4 _ _ e1) .nil,Gp,by show 1<=1000;decide,λc tL=>by rw [Ai] at tL;rw [tL];exact⟨gJ,0,rfl⟩,rfl⟩) ?_
  ·refine cD (mh hu)<|aS bW<|aS cf<|ae 0<|aB ⟨R,_,_,.ref a0.1,rfl,rfl,ai.of kL.lst,jz,aB ⟨a0.1,_,_,.ref a0.2,rfl,rfl,aJ.of qF,rfl,cL<|aq ⟨Z0,λp hp=>?_⟩⟩⟩;have s5:=aP hp<|.lst []
   by_cases h0:row n 0=[]
   ·refine⟨1,_,by decide,wg (k:=0) (xs:=[]) (ys:=[]) (λ_=>true) (ai.of<|by rw [s5 _ _ tK,h0];rfl) (ai.of aw) rfl (λj x y hx _=>by simp at hx),_,rfl,s5,λh=>by cases h⟩
   ·refine⟨1,_,by decide,LN (k:=1) (ai.of<|s5 _ _ tK) (ai.of (xs:=[]) aw) (by rw [Aa];intro h;exact h0<|Be.mp h),_,rfl,s5,λ_=>h0⟩
  ·rintro H4 ⟨DI,h0⟩;have h0:=h0 rfl;have kL:=kL.same DI;have xc:=hF.cr h0 gJ;have xl:=fm n;refine aX 9 nd (bK GF hr<|ak<|ae 0<|ak<|bK GS hr<|ak<|ae 0<|aq ⟨R,as,n,rfl,kL,by omega,by omega,λd ks H5 s5 n5 S5=>?_⟩);refine ak (ae 7<|aq ⟨R,d,t1,as,n,ks,c1,rfl,kL.same s5,S5,hT,s5 _ _<|DI _ _<|s4 _ _ e1,xc,by omega,λl6 ZJ ZK H6 s6 n6 e6 p6 f6=>?_⟩);exact a8 ⟨l6,ZJ,ZK,s4.trans<|DI.trans<|s5.trans s6,λx hx=>(kL.same s5).fresh n6 hx,e6,p6,f6.pos,by have:=f6.len;omega,λc tL=>⟨Xb<|f6.ends hT xc c tL,YH f6 tL⟩,rfl⟩
  ·rintro σ' H5 ⟨lf,jW,fs,s5,ZL,DJ,Nu,ZM,ZN,DL,rfl⟩;have tM:=Nu.length;have n0:0<=b3 % (fs.length:Int):=Bs _ (by omega);have n1:b3 % (fs.length:Int) < fs.length:=Bx _ (by omega);obtain⟨j2,dU⟩:∃ j:Nat,b3 % (fs.length:Int)=j:=⟨(b3 % (fs.length:Int)).toNat,by omega⟩;have tN:j2 < fs.length:=by omega
   have DM:fs[j2]?=some fs[j2]:=Ab tN;obtain⟨t2,xm,e2⟩:=Nu.at DM;obtain⟨oD,tO⟩:=DL _<|Bw tN;generalize fs[j2]=c2 at e2 oD tO;have nE:=s5 _ _ e1;refine aX 10 nd<|aS cf<|ae 9<|aW cT<|ae 1<|bL cm T.len CP<|ak<|ae 9<|aq ⟨lf,_,rfl,.inl<|ai.of DJ,?_⟩;rw [Aa,tM];refine⟨_,_,rfl,rfl,by omega,lf,_,_,.ref t2,rfl,rfl,ai.of DJ,by rw [dU];exact Nk xm,?_⟩;have Nv:=qE.same s5;show Run _ _ _ [some<|.ref R,some<|.int b3,some<|.str z,some<|.str pt,some<|.ref lc,u1,u2,some<|.ref t1,some<|.int<|b2 % 3,some<|.ref lf,some<|.ref t2,none] H5;refine lZ<|WC T.sorted<|cL<|ak<|ae 7<|ak<|ae 10<|aq ⟨Z2,λl2 pY=>?_⟩;have s6:=aP pY<|.lst [.ref t1,.ref t2];refine⟨l2,t1,t2,(c1.1:Int),(c1.2:Int),(c2.1:Int),(c2.2:Int),rfl,aw,s6 _ _ nE,s6 _ _ e2,λrr Nw=>?_⟩;have rn:∀ x∈as,rr≠x.2:=λx hx=>(Nv.same s6).fresh Nw hx;obtain⟨x1,x2,k1,k2,dQ,f1,f2,q1,q2,DS,g7⟩:∃ x1 x2 k1 k2,(if lexLt ((c1.1:Int),(c1.2:Int)) ((c2.1:Int),(c2.2:Int))=true then [V.ref t2,.ref t1] else [.ref t1,.ref t2])=[.ref x1,.ref x2]/\(upd H5 l2<|.lst [.ref t1,.ref t2]) x1=some (Tp k1)/\(upd H5 l2<|.lst [.ref t1,.ref t2]) x2=some (Tp k2)/\dP n k1/\dP n k2/\(k2=k1\/sh k1 k2=k2)/\((∃ k,it (step n) k k1=k2)\/∃ k,it (step n) k k2=k1):=by
    cases Nx:lexLt ((c1.1:Int),(c1.2:Int)) ((c2.1:Int),(c2.2:Int)) with
    | true=>exact⟨t2,t1,c2,c1,rfl,s6 _ _ e2,s6 _ _ nE,oD,gJ,.inr<|YD Nx,.inr tO⟩
    | false=>exact⟨t1,t2,c1,c2,rfl,s6 _ _ nE,s6 _ _ e2,gJ,oD,YF Nx,.inl tO⟩
   rw [dQ];have s7:=aP Nw<|.lst [.ref x1,.ref x2];have f1:=s7 _ _ f1;have f2:=s7 _ _ f2;have s6:=s6.trans s7;have fr:=aw (H:=upd H5 l2<|.lst [.ref t1,.ref t2]) (a:=rr) (o:= .lst [.ref x1,.ref x2]);generalize upd (upd H5 l2<|.lst [.ref t1,.ref t2]) rr (.lst [.ref x1,.ref x2])=H6 at f1 f2 s6 fr ⊢;have tP:aj H H6:=sH.trans<|s5.trans s6;have ZO:=Nv.same s6;have tQ:nX H H6 (R :: as.map (·.2)):=λx o hx _=>tP _ _ hx;refine⟨rr,rfl,⟨_,ai.of fr⟩,l3 (xs:=[.ref x1,.ref x2]) (λi σ H7=>∃(m:Net) (u:Option V),ah H7 R as m/\nX H H7 (R :: as.map (·.2))/\H7 rr=some (.lst [.ref x1,.ref x2])/\H7 lf=some (.lst<|jW.map V.ref)/\H7 x1=some (Tp k1)/\H7 x2=some (Tp k2) /\
    ((i=0/\m=n)\/(i=1/\m=ins n k1 z)\/(i=2/\m=ins (ins n k1 z) k2 z))/\σ=[some<|.ref R,some<|.int b3,some<|.str z,some<|.str pt,some<|.ref lc,u1,u2,some<|.ref t1,some<|.int<|b2 % 3,some<|.ref lf,some<|.ref t2,u]) ⟨n,_,ZO,tQ,fr,s6 _ _ DJ,f1,f2,.inl ⟨rfl,rfl⟩,rfl⟩ ?_ ?_ ?_⟩
   ·rintro i σ H7 _ ⟨m,u,_,_,xn,_⟩;exact ai.of xn
   ·rintro i v σ H7 hv ⟨m,u,oE,tR,xn,DT,g1,g2,hm,rfl⟩;have ZP:=(jX n k1 z q1.1).length_eq;rw [At] at ZP;obtain⟨y,k,rfl,hy,hk,cW,Ny⟩:∃ y k,v = .ref y/\H7 y=some (Tp k)/\dP m k/\((i+1=0/\ins m k z=n)\/(i+1=1/\ins m k z=ins n k1 z)\/(i+1=2/\ins m k z=ins (ins n k1 z) k2 z))/\(ag m).length<=200:=by
     rcases hm with ⟨rfl,rfl⟩ | ⟨rfl,rfl⟩ | ⟨rfl,rfl⟩
     ·cases hv;exact⟨x1,k1,rfl,g1,q1,.inr<|.inl ⟨rfl,rfl⟩,by omega⟩
     ·cases hv;exact⟨x2,k2,rfl,g2,wK q2 q1.1,.inr<|.inr ⟨rfl,rfl⟩,by omega⟩
     ·simp at hv
    refine bb 11 nd ?_;obtain⟨a',Nz,DU,DV,kN,ZQ⟩:=oE.at hk.1;have rl:=fY m k.1;have pN:k.2<=(row m k.1).length:=by
     have:=hk.2;omega
    refine gR<|AQ FZ QZ RB LU<|aS bW<|aS cf<|ae 0<|aS bW<|ae 11<|aB ⟨y,_,_,.int (k.1:Int),rfl,rfl,aJ.of hy,rfl,R,_,_,.ref a'.1,rfl,rfl,ai.of oE.lst,DU,aB ⟨a'.1,_,_,.ref a'.2,rfl,rfl,aJ.of DV,rfl,Or.inl ⟨rfl,_,ai.of kN⟩,?_⟩⟩;refine aS bW (ae 11<|aB ⟨y,_,_,.int (k.2:Int),rfl,rfl,aJ.of hy,rfl,ae 2 ⟨a'.2,_,_,_,rfl,rfl,kN,by omega,by rw [Bm,Aa];exact pN,by rw [Aa];exact bU (by omega),?_⟩⟩);rw [Bm,Mh];have am:a'∈as:=An Nz;refine a8 ⟨ins m k z,_,oE.ins Nz hk.1,λx o hx jy=>?_,by rw [av<|rn a' am];exact xn,by rw [av<|ZL a' am];exact DT,by rw [av<|sy g1 kN];exact g1,by rw [av<|sy g2 kN];exact g2,cW,rfl⟩;have x2:x≠a'.2:=λe=>jy (Ah _<|by rw [e];exact Am.mpr ⟨a',am,rfl⟩);rw [av x2];exact tR x o hx jy
   ·rintro σ H7 ⟨m,u,oE,tR,xn,DT,g1,g2,hm,rfl⟩;have em:m=ins (ins n k1 z) k2 z:=by
     rcases hm with ⟨h,_⟩ | ⟨h,_⟩ | ⟨_,h⟩
     ·exact absurd h<|by show ¬(2=0);decide
     ·exact absurd h<|by show ¬(2=1);decide
     ·exact h
    refine bT<|aW gM<|ae 1<|bL cm T.len CP<|ak<|ae 9<|aq ⟨lf,_,rfl,.inl<|ai.of DT,?_⟩;rw [Aa,tM];refine⟨_,_,rfl,rfl,⟨by omega,by omega⟩,?_⟩;have fi:=B0 (z:=z) hF q1.1 hF.either;have F2:Full (ins n k1 z):= .inr ⟨fi.2,fi.1⟩;have NA:=B0 (z:=z) F2 (wK (z:=z) q2 q1.1).1 F2.either;subst em;exact q _ as _ H7 oE tR (λx hx=> .inl hx) ((jX _ k2 z (wK (z:=z) q2 q1.1).1).trans<|(jX n k1 z q1.1).cons z) (.inl<|by rw [BV,BV]) (.inr ⟨NA.2,NA.1⟩) λhP=>Zx hT hF hz q1 q2 ((jX _ k2 z (wK (z:=z) q2 q1.1).1).trans<|(jX n k1 z q1.1).cons z) DS g7 hP
theorem ZR{b:Int}{m:Nat}{z:Str}(h:z∈namesOf b m):∃ b v,z=aA b v:=by
 unfold namesOf at h;obtain⟨v,_,rfl⟩:=Am.mp h;exact⟨b,v,rfl⟩
def DZ:Sp:=λvs H Q _=>∃(b m sm:Int),vs=[.int b,.int m,.int sm]/\0<=m/\m<=35 /\
 ∀ L as n H',aj H H'->H L=none->ah H' L as n->ay n->(n.map (·.1)).Nodup->Full n->HF n->(ag n).length<=2 * m.toNat->n.length<=m.toNat+1->(∀ a∈as,H a.2=none)->(∀ z∈ag n,∃ b v,z=aA b v)->Q (.ref L) H'
abbrev NB:List Str:=["_law_big_here","_law_most","_law_stem","_law_many","_law_ties","_law_points_here","_law_rows","_law_k","_law_told","_law_row","_law_size"]
theorem mF:al NB ["_law_big_here","_law_most","_law_stem"] (aQ nU):=⟨rfl,rfl,rfl,by decide +kernel,rfl,by decide +kernel,by decide +kernel⟩
theorem ZS{H:Hp}{d:Addr}{xs:List V}(h:H d=some (.lst xs)):lP K "list" (.ref d) H:=Or.inl ⟨rfl,xs,ai.of h⟩
theorem ou{b:Int}{m i:Nat}(h:i < m):dG ((namesOf b m).map V.str) (i:Int)=some (.str<|aA b i):=sw<|WU h
theorem ZT{f:Addr}{fd:FuncData}(F:bH K "_law_net_by" "_law_net_by" nU f fd)(T:Txt mg)
  (GN:aV P w K mg base 4 "_law_names" ["_law_stem","_law_many"] BI)
  (GP:aV P w K mg base 4 "_law_put" ["_law_rows","_law_big_here","_law_tie","_law_point"] DF) :
  aE P w K mg base bJ 5 f fd ["_law_big_here","_law_most","_law_stem"] DZ:=by
 refine F.gb mF (λvs H Q E h=>?_) λb0 H vs Q E hr h=>?_
 ·obtain⟨b,m,sm,rfl,_⟩:=h;rfl
 obtain⟨b,m,sm,rfl,m0,m35,q⟩:=h;have nd:=mF.nd;have hu:=hr.gm;have k0:0<=b % (m+1):=Bs _ (by omega);have k1:b % (m+1) < m+1:=Bx _ (by omega);obtain⟨mn,ZU⟩:∃ k:Nat,b % (m+1)=k:=⟨(b % (m+1)).toNat,by omega⟩;have hmm:mn<=m.toNat:=by omega
 show Run _ _ _ [some<|.int b,some<|.int m,some<|.int sm,none,none,none,none,none,none,none,none] H;refine aX 3 nd<|aW cT<|ae 0<|aW d9<|ae 1<|aB ⟨_,_,rfl,rfl,?_⟩;refine⟨_,_,rfl,rfl,(by show 0 < m+1;omega),?_⟩;refine aX 0 nd<|aW gM<|ae 0<|aW d9<|ae 1<|aB ⟨_,_,rfl,rfl,?_⟩;refine⟨_,_,rfl,rfl,(by show rB b (m+1);exact⟨by omega,by omega⟩),?_⟩;show Run _ _ _ [some<|.int<|b / (m+1),some<|.int m,some<|.int sm,some<|.int<|b % (m+1),none,none,none,none,none,none,none] H;rw [ZU];generalize b / (m+1)=b1;refine aX 4 nd (bK GN hr<|ak<|ae 2<|ak<|ae 3<|aq ⟨sm,(mn:Int),rfl,by omega,by omega,λlt H1 s1 n1 e1=>?_⟩);rw [Bm] at e1;refine aX 5 nd (bK GN hr<|ak<|aS cf<|cL<|ak<|aW d9<|aW gM<|ae 2<|aB ⟨_,_,rfl,rfl,⟨by decide,by decide⟩,aB ⟨_,_,rfl,rfl,ak<|ae 2<|aq ⟨Z2,λp hp=>?_⟩⟩⟩);refine lW LV T.kE JG (ak<|ja i0<|aW cT<|ae 2<|aB ⟨_,_,rfl,rfl,(by show(0:Int) < 4;decide),aB ⟨rfl,aq ⟨_,rfl,?_⟩⟩⟩);have s2:=aP hp<|.lst [.int<|sm / 3+1,.int sm];obtain⟨iU,ex⟩:∃ iU:Int,dG [V.int<|sm / 3+1,.int sm] (if decide (V.int (sm % 4)=V.int 1)=true then 1 else 0)=some (.int iU):=by
  cases decide (V.int (sm % 4)=V.int 1) with
  | true=>exact⟨sm,rfl⟩
  | false=>exact⟨sm / 3+1,rfl⟩
 refine⟨p,_,_,.int iU,rfl,rfl,ai.of aw,ex,?_⟩;refine ak (aW d9<|ae 3<|aB ⟨_,_,rfl,rfl,aq ⟨iU,(mn:Int)+1,rfl,by omega,by omega,λlp H2 s3 n3 e3=>?_⟩⟩);have em:((mn:Int)+1).toNat=mn+1:=by omega
 rw [em] at e3;have qG:aj H H2:=s1.trans<|s2.trans s3;have e1:H2 lt=some (Ls<|namesOf sm mn):=s3 _ _<|s2 _ _ e1;show Run _ _ _ [some<|.int b1,some<|.int m,some<|.int sm,some<|.int (mn:Int),some<|.ref lt,some<|.ref lp,none,none,none,none,none] H2;refine aX 6 nd<|cL<|ak<|dH<|ak<|aS cf<|ae 5<|aB ⟨lp,_,_,.str<|aA iU 0,rfl,rfl,ai.of e3,ou<|Eu _,ak<|cL<|aq ⟨Z0,λl1 fH=>?_⟩⟩;refine aq ⟨Z2,λt1 D0=>aq ⟨Z1,λR ND=>?_⟩⟩;have s4:=aP fH<|Ls [];have s5:=aP D0<|.tup [.str<|aA iU 0,.ref l1];have s6:=aP ND<|.lst [.ref t1];have ZV:ah (upd (upd (upd H2 l1<|.lst []) t1<|.tup [.str<|aA iU 0,.ref l1]) R<|.lst [.ref t1]) R [(t1,l1)] [(aA iU 0,[])]:=by
  refine⟨rfl,aw,λi a r h1 h2=>?_,by simp⟩;cases i with
  | zero=>
   cases h1;cases h2;exact⟨s6 _ _ aw,s6 _ _<|s5 _ _ aw⟩
  | succ i=>simp at h1
 have fR:H2 R=none:=s4.free<|s5.free ND;show Run _ _ _ [some<|.int b1,some<|.int m,some<|.int sm,some<|.int (mn:Int),some<|.ref lt,some<|.ref lp,some<|.ref R,none,none,none,none] (upd (upd (upd H2 l1<|.lst []) t1<|.tup [.str<|aA iU 0,.ref l1]) R<|.lst [.ref t1]);refine jO T.range (ae 3 ⟨(mn:Int),rfl,by omega,by omega,?_⟩);rw [Bm];refine jP (λk σ H3=>∃(as:List<|Addr×Addr) (n:Net) (b:Int) (u:Option V),ah H3 R as n/\aj H2 H3/\(∀ a∈as,H2 a.2=none)/\Full n/\HF n/\(ag n).Perm (dbl<|namesOf sm k)/\n.map (·.1)=namesOf iU n.length/\n.length<=k+1 /\
  σ=[some<|.int b,some<|.int m,some<|.int sm,some<|.int (mn:Int),some<|.ref lt,some<|.ref lp,some<|.ref R,u,none,none,none]) ⟨_,_,b1,_,ZV,s4.trans<|s5.trans s6,λa ha=>by rw [Ai] at ha;rw [ha];exact fH,.inl ⟨_,rfl⟩,Zv,List.Perm.refl _,rfl,Al _,rfl⟩ ?_ ?_
 ·rintro k σ H3 hk ⟨as,n,b,u,hR,sH,jR,hF,xo,hp,mG,hlen,rfl⟩;rw [Dw];refine bb 7 nd ?_;have bQ:=hR.len;have tl:=hp.length_eq;rw [B4,AZ] at tl;have nz:aA sm k∉ag n:=λh=>by
   have h1:=eO.mp<|hp.mem_iff.mp h;have h2:=wv (b:=sm) (m:=k+1) (by omega);rw [wx,Co] at h2;exact h2.2.2 _ h1 _ (Ai.mpr rfl) rfl
  have n0:0 < n.length:=By.mpr hF.some;refine aX 0 nd<|bK GP hr<|ak<|ae 6<|ak<|ae 0<|ak<|aS cf<|ae 4<|ae 7 ⟨lt,_,_,.str<|aA sm k,rfl,rfl,ai.of<|sH _ _ e1,ou hk,?_⟩;refine ak<|aS cf<|ae 5<|bL cm T.len CP<|ak<|ae 6<|aq ⟨R,_,rfl,.inl<|ai.of hR.lst,?_⟩;rw [Aa,bQ];refine⟨lp,_,_,.str<|aA iU n.length,rfl,rfl,ai.of<|sH _ _ e3,ou (by omega),?_⟩;refine aq ⟨R,as,n,b,aA sm k,aA iU n.length,rfl,hR,Mi (wv<|by omega) hp,hF,nz,by omega,by omega,λi oB n' H' ZW kp D1 tS tT ZX D4=>?_⟩;have ZY:aj H2 H':=λx o hx=>by
   refine kp x o (sH _ _ hx) λhm=>?_
   rcases Aj.mp hm with h | h
   ·rw [h,fR] at hx;cases hx
   ·obtain⟨y,hy,e⟩:=Am.mp h;rw [<- e,jR y hy] at hx;cases hx
  refine a8 ⟨oB,n',i,_,ZW,ZY,λy hy=>?_,ZX,D4 xo,?_,?_,?_,rfl⟩
  ·rcases D1 y hy with h | h
   ·exact jR y h
   ·exact sH.free h
  ·refine tS.trans ?_;rw [wx,Xd];refine List.Perm.trans ?_ Cr;exact((hp.cons _).cons _)
  ·rcases tT with h | h
   ·have hl:=BX List.length h;rw [Aa,Aa] at hl;rw [h,hl];exact mG
   ·have hl:=BX List.length h;rw [Aa,Ag,Aa] at hl;have iw:n'.length=n.length+1:=hl;rw [h,iw,wx,mG]
  ·rcases tT with h | h
   ·have hl:=BX List.length h;rw [Aa,Aa] at hl;omega
   ·have hl:=BX List.length h;rw [Aa,Ag,Aa] at hl;have iw:n'.length=n.length+1:=hl;omega
 rintro σ H3 ⟨ZZ,n0,b,u,hR,sH,jR,hF,D5,hp,mG,hlen,rfl⟩;have tl:=hp.length_eq;rw [B4,AZ] at tl;have NI:ay n0:=Mi (wv<|by omega) hp;have Z4:(n0.map (·.1)).Nodup:=by rw [mG];exact wv<|by omega
 refine aX 8 nd<|cL<|aq ⟨Z0,λL hL=>?_⟩;have s7:=aP hL<|.lst [];have NM:R≠L:=bF hR.lst hL;have fL:H2 L=none:=sH.free hL;have xq:ah (upd H3 L<|.lst []) L [] []:=⟨rfl,aw,λi a r h1=>by simp at h1,by simp⟩;refine wj (λk σ H4=>∃(as mH:List<|Addr×Addr) (n n2:Net) (b:Int) (u9 NR:Option V),k=n.length/\ah H4 R as n/\ah H4 L mH n2/\aj H2 H4/\(∀ a∈as,a.2≠L)/\(∀ a∈mH,a.2≠R)/\(∀ a∈mH,H2 a.2=none)/\n.length+n2.length=n0.length /\
   (ag n++ag n2).Perm (ag n0)/\(n.map (·.1)++n2.map (·.1)).Perm (n0.map (·.1))/\(NE n0->NE n/\NE n2)/\HF (n++n2) /\
   σ=[some<|.int b,some<|.int m,some<|.int sm,some<|.int (mn:Int),some<|.ref lt,some<|.ref lp,some<|.ref R,u,some<|.ref L,u9,NR])
  (m0:=n0.length) ⟨ZZ,[],n0,[],b,_,_,rfl,hR.same s7,xq,sH.trans s7,λa ha=>(hR.fresh hL ha).symm,λa ha=>(nomatch ha),λa ha=>(nomatch ha),rfl,by simp [ag],by simp,λh=>⟨h,λr hr=>(nomatch hr)⟩,by rw [Br];exact D5,rfl⟩ ?_
 rintro k σ H4 ⟨as,mH,n,n2,b,u9,NR,rfl,hR,kP,sH,aL,aR,NU,tU,pt,pn,bj,xo,rfl⟩;have bQ:=hR.len;have D6:=kP.len;have Z5:(ag n).length<=70:=by
  have:=pt.length_eq;rw [Ag] at this;omega
 refine cD (mh hu)<|ae 6<|cL<|aq ⟨Z0,λp ii=>?_⟩;have s8:=aP ii<|.lst []
 by_cases h0:n=[]
 ·subst h0;have ea:as=[]:=Be.mp (by simpa using bQ);subst ea;refine⟨1,_,by decide,wg (k:=0) (xs:=[]) (ys:=[]) (λ_=>true) (ai.of<|s8 _ _ hR.lst) (ai.of aw) rfl (λj x y hx _=>by simp at hx),_,rfl,bp<|bT<|ae 8 ?_⟩;have fq:(ag n2).Perm (ag n0):=pt;have Z6:(n2.map (·.1)).Perm (n0.map (·.1)):=pn;have l2:n2.length=n0.length:=by simpa using tU
  refine q L mH n2 _ (qG.trans<|sH.trans s8) (qG.free fL) (kP.same s8) (λz hz=>?_) (Z6.nodup_iff.mpr Z4) ?_ xo (by rw [fq.length_eq];omega) (by omega) (λa ha=>qG.free<|NU a ha) λz hz=>ZR<|eO.mp<|hp.mem_iff.mp<|fq.mem_iff.mp hz
  ·rw [fq.count_eq];exact NI z<|fq.mem_iff.mp hz
  ·rcases hF.ne with ⟨nm,h⟩ | h
   ·subst h;have t0:ag n2=[]:=List.Perm.eq_nil fq
    match n2,l2,t0 with
    | [(nm2,zs)],_,t0=>
     have:zs=[]:=by simpa [ag] using t0
     subst this;exact .inl ⟨_,rfl⟩
   ·refine Xe (bj h).2 λe=>?_;rw [e] at l2;exact hF.some<|Be.mp l2.symm
 ·have np:0 < n.length:=By.mpr h0;refine⟨1,_,by decide,LN (k:=1) (ai.of<|s8 _ _ hR.lst) (ai.of (xs:=[]) aw) (by rw [Aa,bQ];exact Cy np),_,rfl,bI ?_⟩;have hR:=hR.same s8;have kP:=kP.same s8;have sH:=sH.trans s8;generalize upd H4 p (.lst [])=H5 at hR kP sH ⊢;have r0:0<=b % (n.length:Int):=Bs _ (by omega);have r1:b % (n.length:Int) < n.length:=Bx _ (by omega);obtain⟨j,hj⟩:∃ k:Nat,b % (n.length:Int)=k:=⟨(b % (n.length:Int)).toNat,by omega⟩;have oF:j < n.length:=by omega
  obtain⟨a,ea,dN,et,el,er⟩:=hR.at oF;refine aX 9 nd<|LO FZ SX TF Ui<|ae 6 ⟨ZS hR.lst,aW cT<|ae 0<|bL cm T.len CP<|ak<|ae 6<|aq ⟨R,_,rfl,.inl<|ai.of hR.lst,?_⟩⟩;rw [Aa,bQ];refine⟨_,_,rfl,rfl,by omega,R,_,_,j,.ref a.1,rfl,rfl,hR.lst,by rw [hj];omega,by rw [hj];omega,?_,?_,?_⟩
  ·rw [hj,Aa,bQ];unfold seqIndex?;have c1:¬((j:Int) < 0):=by omega
   simp only [c1,CN];have c2:(decide (0<=(j:Int)) && decide ((j:Int) < (n.length:Int)))=true:=by
    rw [Cf,EY,EY];omega
   rw [BP c2,Bm]
  ·rw [Ad,ea];rfl
  have R6:=hR.erase oF;have am:a∈as:=An ea;have D7:∀ x∈as,x.2≠R:=λx hx e=>by
   obtain⟨zs,e2⟩:=hR.lists hx;have h3:=hR.lst;rw [<- e,e2] at h3;have h4:=HO.lst.inj<|Option.some.inj h3;cases as with
   | nil=>cases hx
   | cons b' bs=>
    cases zs with
    | nil=>simp at h4
    | cons y r=>simp at h4
  have L6:=kP.upd (o:= .lst<|(as.map λa=>V.ref a.1).eraseIdx j) hR.lst NM.symm aR;have tV:(upd H5 R<|.lst<|(as.map λa=>V.ref a.1).eraseIdx j) a.1=some (.tup [.str n[j].1,.ref a.2]):=by rw [av<|b7 et hR.lst λe=>nomatch e];exact et
  have xt:(upd H5 R<|.lst<|(as.map λa=>V.ref a.1).eraseIdx j) a.2=some (Ls<|row n j):=by rw [av<|D7 a am];exact el
  have tP:aj H2 (upd H5 R<|.lst<|(as.map λa=>V.ref a.1).eraseIdx j):=c8 sH fR;generalize upd H5 R (.lst<|(as.map λa=>V.ref a.1).eraseIdx j)=H6 at R6 L6 tV xt tP ⊢;have Z7:=R6.len;have oG:(n.eraseIdx j).length=n.length - 1:=by rw [Ds,BP oF]
  refine aX 0 nd<|aW gM<|ae 0<|aW d9<|bL cm T.len CP<|ak<|ae 6<|aq ⟨R,_,rfl,.inl<|ai.of R6.lst,aB ⟨_,_,rfl,rfl,?_⟩⟩;rw [Aa,Z7,oG];refine⟨_,_,rfl,rfl,⟨by omega,by omega⟩,?_⟩;have Z8:=fY n j;refine aX 10 nd<|bL (Jn rfl) T.max SQ<|ak<|aB<|ak<|bL cm T.len CP<|ak<|aS bW<|ae 9<|aB ⟨a.1,_,_,.ref a.2,rfl,rfl,aJ.of tV,rfl,aq ⟨a.2,_,rfl,.inl<|ai.of xt,?_⟩⟩;rw [Aa];refine aq ⟨1,_,rfl,?_⟩;have Z9:(if((row n j).length:Int) > 1 then((row n j).length:Int) else 1)=((max 1 (row n j).length:Nat):Int):=by
   split <;> omega
  rw [Z9];show Run _ _ _ [some<|.int<|b / ((n.length - 1:Nat)+1:Int),some<|.int m,some<|.int sm,some<|.int (mn:Int),some<|.ref lt,some<|.ref lp,some<|.ref R,u,some<|.ref L,some<|.ref a.1,some<|.int ((max 1 (row n j).length:Nat):Int)] H6;generalize b / ((n.length - 1:Nat)+1:Int)=b2;have z0:0<=b2 % ((max 1 (row n j).length:Nat):Int):=Bs _ (by omega);obtain⟨i,hi⟩:∃ k:Nat,b2 % ((max 1 (row n j).length:Nat):Int)=k:=⟨(b2 % ((max 1 (row n j).length:Nat):Int)).toNat,by omega⟩;refine gR<|je<|ae 8 ⟨L,rfl,⟨_,L6.lst⟩,dH<|ak<|aS bW<|ae 9<|aB ⟨a.1,_,_,.str n[j].1,rfl,rfl,aJ.of tV,rfl,?_⟩⟩;refine ak (aW Uj<|vU Jz<|aS bW<|ae 9<|aB ⟨a.1,_,_,.ref a.2,rfl,rfl,aJ.of tV,rfl,vW<|aW cT<|ae 0<|ae 10 ⟨b2,((max 1 (row n j).length:Nat):Int),rfl,rfl,by omega,_,rfl,vV ⟨a.2,_,rfl,ai.of xt,λp1 kQ=>?_⟩⟩⟩);rw [hi,Xg];have t1:=aP kQ<|Ls<|(row n j).drop i;refine vU Jz (aS bW<|ae 9<|aB ⟨a.1,_,_,.ref a.2,rfl,rfl,aJ.of<|t1 _ _ tV,rfl,vV<|vW<|aW cT<|ae 0<|ae 10 ⟨b2,((max 1 (row n j).length:Nat):Int),rfl,rfl,by omega,_,rfl,a.2,_,rfl,ai.of<|t1 _ _ xt,λp2 ii=>?_⟩⟩);rw [hi,Xh];have t2:=aP ii<|Ls<|(row n j).take i;refine⟨p1,p2,_,_,rfl,rfl,t2 _ _ aw,aw,?_,λp3 oH=>?_⟩
  ·rw [Aa,Aa,Dj,Bo];exact small<|by omega
  rw [<- Ak];have t3:=aP oH<|Ls<|(row n j).drop i++(row n j).take i;refine aq ⟨Z2,λt4 ht4=>?_⟩;have s4:=aP ht4<|.tup [.str n[j].1,.ref p3];have oI:=t1.trans<|t2.trans<|t3.trans s4;have L7:=L6.same oI;have R7:=R6.same oI;have p3L:p3≠L:=λe=>by rw [e,(t1.trans t2) _ _ L6.lst] at oH;cases oH
  have p3R:p3≠R:=λe=>by rw [e,(t1.trans t2) _ _ R6.lst] at oH;cases oH
  have p3n:p3∉mH.map (·.2):=λhm=>by
   obtain⟨y,hy,e⟩:=Am.mp hm;exact(L6.same<|t1.trans t2).fresh oH hy e.symm
  have L8:=L7.more (t:=t4) (l:=p3) (pt:=n[j].1) (zs:=(row n j).drop i++(row n j).take i) aw (s4 _ _ aw) p3n p3L;refine⟨_,L7.lst,by rw [Aa,D6];exact bU (by omega),?_⟩;have NV:∀ x∈as.eraseIdx j,x.2≠L:=λx hx=>aL x<|Fr hx;have R8:=R7.upd (o:= .lst<|mH.map (λa=>V.ref a.1)++[.ref t4]) L7.lst NM NV;refine aX 0 nd (aW gM<|ae 0<|ae 10 ⟨b2,((max 1 (row n j).length:Nat):Int),rfl,rfl,⟨by omega,by omega⟩,?_⟩);have pe:=Mj n j oF;have ne:=Xf n j oF;have NX:(ag (n.eraseIdx j)++ag (n2++[(n[j].1,(row n j).drop i++(row n j).take i)])).Perm (ag n0):=by
   refine List.Perm.trans ?_ pt;unfold ag;rw [Dg];show(ag (n.eraseIdx j)++(ag n2++(((row n j).drop i++(row n j).take i)++[]))).Perm _;rw [Br,er];have w1:(n[j].2.drop i++n[j].2.take i).Perm n[j].2:=B5 _ _;refine((w1.append_left _).append_left _).trans ?_;have w2:(ag n++ag n2).Perm ((n[j].2++ag (n.eraseIdx j))++ag n2):=pe.append_right _;refine List.Perm.trans ?_ w2.symm;rw [Ay];refine List.Perm.trans ?_<|Cr (l₁:=ag (n.eraseIdx j)++ag n2);rw [Ay]
  refine a8 ⟨n.length - 1,by omega,as.eraseIdx j,mH++[(t4,p3)],n.eraseIdx j,n2++[(n[j].1,(row n j).drop i++(row n j).take i)],_,_,_,oG.symm,R8,L8,c8 (tP.trans oI) fL,NV,λx hx=>?_,λx hx=>?_,?_,NX,?_,λh=>⟨λr hr=>?_,λr hr=>?_⟩,Zy oF (by have:=Bx b2 (show(0:Int) < ((max 1 (row n j).length:Nat):Int) by omega);rw [hi] at this;exact Int.ofNat_lt.mp this) NI pt NX xo,rfl⟩
  ·rcases Aq.mp hx with hx | hx
   ·exact aR x hx
   ·rw [Ai] at hx;rw [hx];exact p3R
  ·rcases Aq.mp hx with hx | hx
   ·exact NU x hx
   ·rw [Ai] at hx;rw [hx];exact tP.free<|t1.free<|t2.free oH
  ·rw [Ag,oG];simp;omega
  ·refine List.Perm.trans ?_ pn;rw [Ak];show((n.eraseIdx j).map (·.1)++(n2.map (·.1)++[n[j].1])).Perm _;refine List.Perm.trans ?_ (ne.append_right _).symm;rw [<- Ay];exact Cr
  ·exact(bj h).1 r<|Fr hr
  ·rcases Aq.mp hr with hr | hr
   ·exact(bj h).2 r hr
   ·rw [Ai] at hr;rw [hr];intro e;have w1:=(B5 (row n j) i).length_eq;have e':(row n j).drop i++(row n j).take i=[]:=e;rw [e'] at w1;have:=(bj h).1 n[j]<|Bw oF;rw [er] at w1;exact this<|Be.mp w1.symm
def D8:Sp:=λvs H Q _=>∃(R:Addr) (as:List<|Addr×Addr) (n:Net),vs=[.ref R]/\ah H R as n/\n.length<=1000/\∀ L oB H',aj H H'->H L=none->(∀ a∈oB,H a.1=none/\H a.2=none)->ah H' L oB n->Q (.ref L) H'
theorem kR{H H':Hp}{l:Addr}(s:aj H H')(h:H' l=none):H l=none:=by
 cases e:H l with
 | none=>rfl
 | some v=>rw [s _ _ e] at h;cases h
abbrev NC:List Str:=["_law_rows"]
abbrev NY:List Str:=["_law_rows","_law_row"]
theorem jA:al NC ["_law_rows"] (aQ wH):=⟨rfl,rfl,rfl,by decide +kernel,rfl,by decide +kernel,by decide +kernel⟩
theorem D9:NY.Nodup:=by decide +kernel
theorem q4p{f:Addr}{fd:FuncData}(F:bH K "_law_copy" "_law_copy" wH f fd)(T:Txt mg):aE P w K mg base bJ 1 f fd ["_law_rows"] D8:=by
 refine F.gb jA (λvs H Q E h=>?_) λb0 H vs Q E hr h=>?_
 ·obtain⟨R,as,n,rfl,_⟩:=h;rfl
 obtain⟨R,as,n,rfl,hR,hn,q⟩:=h;have nd:=jA.nd;have bQ:=hR.len;show Run _ _ _ [some<|.ref R] H;refine bT<|iL (aQ wH) NC NY 1 (dR bn)<|ae 0 ⟨R,rfl,⟨_,ai.of hR.lst⟩,λD hD=>?_⟩;refine iQ (xs:=as.map λa=>V.ref a.1) (λi σ' H'=>(∃ v,σ'=[some<|.ref R]++[v])/\∃ bs:List<|Addr×Addr,bs.length=i/\H' D=some (.lst<|bs.map λa=> .ref a.1) /\
  (∀(j:Nat) a r,bs[j]?=some a->n[j]?=some r->H' a.1=some (.tup [.str r.1,.ref a.2])/\H' a.2=some (Ls r.2))/\(bs.map (·.2)).Nodup/\(∀ a∈bs,a.2≠D/\H a.1=none/\H a.2=none/\∃ zs,H' a.2=some (Ls zs))/\aj H H')
  ⟨⟨none,rfl⟩,[],rfl,aw,λj a r h=>by simp at h,Cp,λa h=>by simp at h,aP hD _⟩ ?_ ?_ ?_
 ·rintro i σ' H' _ ⟨_,bs,_,_,_,_,_,sm⟩;exact ai.of<|sm _ _ hR.lst
 ·rintro i x σ' H' hx ⟨⟨v,rfl⟩,bs,qh,mI,EA,tW,qH,sm⟩;have hi:i < n.length:=by
   have:=(Ac.mp hx).1;rw [Aa] at this;omega
  obtain⟨a,ea,dN,et,el,er⟩:=(hR.same sm).at hi;rw [Ad,ea] at hx;cases hx;intro cl C' s₀ H₀ ex;refine bb 1 D9 ?_;intro cl C' s₀ H₀ ex;refine dh ?_;rw [BP rfl];intro cl C' s₀ H₀ ex;refine dH<|ak<|aS bW<|ae 1<|aB ⟨a.1,_,_,.str n[i].1,rfl,rfl,aJ.of et,rfl,?_⟩;refine ak<|lW T8 T.sO PyProof.Rows.boot_list<|ak<|aS bW<|ae 1<|aB ⟨a.1,_,_,.ref a.2,rfl,rfl,aJ.of et,rfl,?_⟩;refine aq ⟨a.2,_,rfl,.inl<|ai.of el,λl hl=>aq ⟨Z2,λt ht=>?_⟩⟩;have kn:=kR sm hl;have EB:t≠l:=λe=>by rw [e,aw] at ht;cases ht
  have dW:H' t=none:=by rw [av EB] at ht;exact ht
  have N0:=kR sm dW;have oJ:l≠D:=λe=>by rw [e] at hl;rw [hl] at mI;cases mI
  have xu:t≠D:=λe=>by rw [e] at dW;rw [dW] at mI;cases mI
  refine⟨bs.map λa=> .ref a.1,?_,?_,⟨_,rfl⟩,bs++[(t,l)],by rw [Ag,qh];rfl,?_,?_,?_,?_,?_⟩
  ·rw [av<|CG xu,av<|CG oJ];exact mI
  ·rw [Aa];exact bU<|by omega
  ·rw [aw,Ak];rfl
  ·intro j b r hb iy
   by_cases hj:j < bs.length
   ·rw [Aw hj] at hb;obtain⟨q1,q2⟩:=EA j b r hb iy;have hbD:=(qH b<|An hb).1;have n1:b.1≠D:=b7 q1 mI λz=>nomatch z;refine⟨?_,?_⟩
    ·rw [av n1,av<|bF q1 dW,av<|bF q1 hl];exact q1
    ·rw [av hbD,av<|bF q2 dW,av<|bF q2 hl];exact q2
   ·rw [Ba<|by omega] at hb;have dU:j - bs.length=0:=by
     have:=(Ac.mp hb).1;simp at this;omega
    have xv:j=i:=by omega
    rw [dU] at hb;cases hb;rw [xv,Ab hi] at iy;cases iy;refine⟨?_,?_⟩
    ·rw [av xu,aw]
    ·rw [av oJ,av<|CG EB,aw,er]
  ·rw [Ak];refine ni tW λhm=>?_;obtain⟨b,hb,e⟩:=Am.mp hm;obtain⟨_,_,_,zs,q⟩:=qH b hb;have e':b.2=l:=e;rw [e',hl] at q;cases q
  ·intro b hb
   rcases Aq.mp hb with hb | hb
   ·obtain⟨q1,q2,q3,zs,q4⟩:=qH b hb;refine⟨q1,q2,q3,zs,?_⟩;rw [av q1,av<|bF q4 dW,av<|bF q4 hl];exact q4
   ·rw [Ai.mp hb];refine⟨oJ,N0,kn,row n i,?_⟩;rw [av oJ,av<|CG EB,aw]
  ·intro c o hc;rw [av<|bF hc hD,av<|bF hc N0,av<|bF hc kn];exact sm _ _ hc
 ·rintro σ' H' ⟨_,bs,qh,mI,EA,tW,qH,sm⟩;rw [Aa] at qh;exact q D bs H' sm hD (λa ha=>⟨(qH a ha).2.1,(qH a ha).2.2.1⟩) ⟨by omega,mI,EA,tW⟩
end
abbrev Tn(p:Str)(j:Int):HO:= .tup [.str p,.int j]
def tX:Sp:=λvs H Q _=>∃(t l:Addr) (p:Str) (zs:List Str),vs=[.ref t]/\H t=some (.tup [.str p,.ref l])/\H l=some (Ls zs)/\zs.length<=1000 /\
 ∀(L:Addr) (ts:List Addr) (H':Hp),aj H H'->H L=none->H' L=some (.lst<|ts.map V.ref)->ts.length=zs.length->(∀(j:Nat) t,ts[j]?=some t->H' t=some (Tn p j))->Q (.ref L) H'
section
variable{X:Cx}{elt tg:Expr}{ifs:List Expr}{scope:Scope}{σ:St}{H:Hp}{N':List Str}{A:Addr}{after:Hp->Prop}
theorem k05{lo:Int}{n:Nat}(Pv:Nat->St->Hp->Prop)(h0:Pv 0 σ H)
  (hs : ∀ i σ' H', i < n → Pv i σ' H' → vZ X N' scope tg (.int<|lo + i) σ' H' λσ2 H3 => v5 X N' scope ifs σ2 H3 λb H4 =>
   if b=true then vY X N' scope elt σ2 H4 λv H5=>∃ ys,H5 A=some (.lst ys)/\ys.length < sizeLine/\Pv (i+1) σ2 (upd H5 A<|.lst<|ys++[v]) else Pv (i+1) σ2 H4)
  (hd:∀ σ' H',Pv n σ' H'->after H'):ki X N' scope tg ifs elt (pT lo n) A after σ H:=by
 refine⟨λi m σ' H'=>m=n - i/\i<=n/\Pv i σ' H',⟨_,rfl,Bu _,h0⟩,?_⟩;rintro i m σ' H' ⟨rfl,hi,p⟩
 by_cases aM:i < n
 ·refine .inr ⟨aM,Pv<|i+1,λσ' H' p'=>⟨n - (i+1),by omega,rfl,aM,p'⟩,λx H2 y=>?_⟩;obtain⟨e,y⟩:=y;subst e y;exact hs i σ' _ aM p
 ·have e:i=n:=by omega
  subst e;exact .inl ⟨Al _,hd σ' H' p⟩
end
section
variable{P:Program}{w:World}{K:PySem.W.Frag}{mg:Str->Option Value}{base:Heap}
abbrev N2:List Str:=["row","point","ties"]
abbrev N3:List Str:=["row","point","ties","place"]
theorem jB:al N2 ["row"] (aQ wy):=⟨rfl,rfl,rfl,by decide +kernel,rfl,by decide +kernel,by decide +kernel⟩
theorem q80:N3.Nodup:=by decide +kernel
theorem q2b{f:Addr}{fd:FuncData}(F:bH K "ends_round" "ends_round" wy f fd)(T:Txt mg):aE P w K mg base bJ 1 f fd ["row"] tX:=by
 refine F.gb jB (λvs H Q E h=>?_) λb0 H vs Q E hr h=>?_
 ·obtain⟨t,l,p,zs,rfl,_⟩:=h;rfl
 obtain⟨t,l,p,zs,rfl,ht,hl,hz,q⟩:=h;have nd:=jB.nd;show Run _ _ _ [some<|.ref t,none,none] H;refine Kq<|ae 0<|jm rfl (aJ.of ht) (bb 1 nd<|bb 2 nd ?_);show Run _ _ _ [some<|.ref t,some<|.str p,some<|.ref l] H;refine bT<|iL (aQ wy) N2 N3 1 (Jd rfl T.range (ta:=rS _ _) gQ (nk _ [] _ rfl)) ?_;show Ea _ _ _ _ _;refine ak (bL cm T.len CP<|ak<|ae 2<|aq ⟨l,_,rfl,.inl<|ai.of hl,aq ⟨_,rfl,by omega,by rw [Aa];omega,λD hD=>?_⟩⟩);rw [Aa,Bm];refine k05 (λi σ' H'=>(∃ v,σ'=[some<|.ref t,some<|.str p,some<|.ref l]++[v])/\∃ ts:List Addr,ts.length=i/\H' D=some (.lst<|ts.map V.ref)/\(∀(j:Nat) t,ts[j]?=some t->H' t=some (Tn p j))/\aj H H')
  ⟨⟨none,rfl⟩,[],rfl,aw,λj t h=>by simp at h,aP hD _⟩ ?_ ?_
 ·rintro i σ' H' hi ⟨⟨v,rfl⟩,ts,fH,eD,EC,sm⟩;rw [Dw];intro cl C' s₀ H₀ ex;refine bb 3 q80 ?_;intro cl C' s₀ H₀ ex;refine dh ?_;rw [BP rfl];intro cl C' s₀ H₀ ex;refine dH<|ak<|ae 1<|ak<|ae 3<|aq ⟨Z2,λu hu=>?_⟩;have nu:u≠D:=λe=>by rw [e,eD] at hu;cases hu
  have hu0:=kR sm hu;refine⟨ts.map V.ref,by rw [av<|CG nu];exact eD,by rw [Aa];exact bU (by omega),⟨_,rfl⟩,ts++[u],by rw [Ag,fH];rfl,by rw [aw,Ak];rfl,?_,?_⟩
  ·intro j t' dW
   by_cases hj:j < ts.length
   ·rw [Aw hj] at dW;have e:=EC j t' dW;have n1:t'≠D:=b7 e eD λz=>nomatch z;rw [av n1,av<|bF e hu];exact e
   ·rw [Ba<|by omega] at dW;have dU:j - ts.length=0:=by
     have:=(Ac.mp dW).1;simp at this;omega
    rw [dU] at dW;cases dW;have:j=i:=by omega
    rw [this,av nu,aw]
  ·intro c o hc;rw [av<|bF hc hD,av<|bF hc hu0];exact sm _ _ hc
 ·rintro σ' H' ⟨_,ts,fH,eD,EC,sm⟩;exact q D ts H' sm hD eD fH EC
def oK(g:Int->Int):Sp:=λvs H Q _=>∃(e:Addr) (p:Str) (j m:Int),vs=[.ref e,.int m]/\H e=some (Tn p j)/\0 < m/\∀ t H',aj H H'->H' t=some (Tn p<|g j % m)->Q (.ref t) H'
abbrev NT1:List Str:=["end","many","point","place"]
theorem jC:al NT1 ["end","many"] (aQ A0):=⟨rfl,rfl,rfl,by decide +kernel,rfl,by decide +kernel,by decide +kernel⟩
theorem q2j{f:Addr}{fd:FuncData}(F:bH K "turned_left" "turned_left" A0 f fd)(T:Txt mg):aE P w K mg base bJ 1 f fd ["end","many"] (oK λj=>j+1):=by
 refine F.gb jC (λvs H Q E h=>?_) λb0 H vs Q E hr h=>?_
 ·obtain⟨e,p,j,m,rfl,_⟩:=h;rfl
 obtain⟨e,p,j,m,rfl,he,hm,q⟩:=h;have nd:=jC.nd;show Run _ _ _ [some<|.ref e,some<|.int m,none,none] H;refine Kq<|ae 0<|jm rfl (aJ.of he) (bb 2 nd<|bb 3 nd ?_);refine bT (dH<|ak<|ae 2<|ak<|aW cT<|aW d9<|ae 3<|aB ⟨_,_,rfl,rfl,ae 1 ⟨_,_,rfl,rfl,(by show 0 < m;exact hm),aq ⟨Z2,λt ht=>?_⟩⟩⟩);exact q t _ (aP ht _) aw
theorem k8s{kvs:List (Key×V)}:∀{acc:List (Key×V)},((acc++kvs).map (·.1)).Nodup->kvs.foldl (λa p=>putK a p.1 p.2) acc=acc++kvs:=by
 induction kvs with
 | nil=>intro acc _;simp
 | cons p r ih=>
  intro acc h;have hn:aC acc p.1=none:=by
   cases e:aC acc p.1 with
   | none=>rfl
   | some v=>
    have hm:=J9 e;rw [Ak,Bd] at h;exact absurd rfl ((Co.mp h).2.2 _ hm _ Ae)
  rw [Dp,J3 _ hn,ih (by rw [Ay];exact h),Ay];rfl
theorem N4:∀{kvs:List (Key×V)} {i:Nat} {p:Key×V},(kvs.map (·.1)).Nodup->kvs[i]?=some p->aC kvs p.1=some p.2
 | [],_,_,_,h=>by simp at h
 | q :: r,0,p,_,h=>by
  cases h;exact gP rfl
 | q :: r,i+1,p,hn,h=>by
  rw [Bd,Bq] at hn;have hm:r[i]?=some p:=by simpa using h
  rw [gg λe=>hn.1<|by rw [e];exact Am.mpr ⟨p,An hm,rfl⟩];exact N4 hn.2 hm
def gA(n:Net)(as:List<|Addr×Addr):List (Key×V):=List.zipWith (λr a=>(Sum.inr r.1,V.ref a.2)) n as
theorem N5:∀(n:Net) (as:List<|Addr×Addr),as.length=n.length->(gA n as).map (·.1)=(n.map (·.1)).map Sum.inr
 | [],[],_=>rfl
 | [],_ :: _,h=>by simp at h
 | _ :: _,[],h=>by simp at h
 | r :: n,a :: as,h=>by
  have:=N5 n as (by simpa using h);show Sum.inr r.1 :: (gA n as).map (·.1)=_;rw [this];rfl
theorem N6{n:Net}{as:List (Addr×Addr)}{i:Nat}{r:Str×List Str}{a:Addr×Addr}(h1:n[i]?=some r)(h2:as[i]?=some a):(gA n as)[i]?=some (Sum.inr r.1,.ref a.2):=by
 unfold gA;rw [List.getElem?_zipWith,h1,h2]
theorem k71{l:List Str}(h:l.Nodup):(l.map (Sum.inr:Str->Key)).Nodup:=by
 rw [Cc,Ef];exact(Cc.mp h).imp λh q=>h<|Sum.inr.inj q
end
def nameAt(n:Net)(r:Nat):Str:=((n[r]?).map (·.1)).getD ⟨#[]⟩
def key(n:Net)(e:Nt.End):List Key:=[Sum.inr<|nameAt n e.1,Sum.inl (e.2:Int)]
abbrev TN(n:Net)(e:Nt.End):HO:=Tn (nameAt n e.1) (e.2:Int)
theorem mJ{n:Net}{r:Nat}(h:r < n.length):nameAt n r=n[r].1:=by unfold nameAt;rw [Ab h];rfl
theorem oM{n:Net}(hN:(n.map (·.1)).Nodup){a b:Nt.End}(ha:a.1 < n.length)(hb:b.1 < n.length)(h:key n a=key n b):a=b:=by
 unfold key at h
 injection h with h1 h2
 injection h2 with h2 _
 have e1:=Sum.inr.inj h1;have e2:=Sum.inl.inj h2;rw [mJ ha,mJ hb] at e1;have e3:a.1=b.1:=by
  have la:a.1 < (n.map (·.1)).length:=by rw [Aa];exact ha
  have lb:b.1 < (n.map (·.1)).length:=by rw [Aa];exact hb
  refine(Gb (i:=a.1) (j:=b.1) (h₀:=la) (h₁:=lb) hN).mp ?_;rw [Du,Du];exact e1
 exact GD e3<|by omega
theorem tY{n:Net}{r p:Nat}{z:Str}(hr:r < n.length)(hz:(row n r)[p]?=some z):∃ rest,bd n=(bd (n.take r)++bz r ((row n r).take p) 0)++(z,(r,p)) :: rest:=by
 have e1:bd n=bd (n.take<|r+1)++fh (0+(n.take<|r+1).length) (n.drop<|r+1):=by
  have:=AX (n.take<|r+1) (n.drop<|r+1) 0;rw [Cq] at this;exact this
 have e2:bz r (row n r) 0=bz r ((row n r).take<|p+1) 0++bz r ((row n r).drop<|p+1) (0+((row n r).take<|p+1).length):=by
  unfold bz;rw [<- Ak,<- QB,Cq]
 rw [e1,ql hr,e2,nP hz];refine⟨bz r ((row n r).drop<|p+1) (0+((row n r).take<|p+1).length)++fh (0+(n.take<|r+1).length) (n.drop<|r+1),?_⟩;simp only [Ay,Fi,RP]
theorem N7{κ:Type} [DecidableEq κ] (kvs:List<|κ×V) (k:κ) (v:V):(putK kvs k v).map (·.1)=if k∈kvs.map (·.1) then kvs.map (·.1) else kvs.map (·.1)++[k]:=by
 have e:(kvs.any λkv=>decide (kv.1=k))=decide (k∈kvs.map (·.1)):=by
  rw [Di,List.any_eq_true,FT,Am];exact⟨λ⟨p,h1,h2⟩=>⟨p,h1,BZ h2⟩,λ⟨p,h1,h2⟩=>⟨p,h1,BW h2⟩⟩
 unfold putK;rw [e]
 by_cases h:k∈kvs.map (·.1)
 ·rw [BP<|BW h,BP h,Ch];refine Bp λp _=>?_;show(if p.1=k then(p.1,v) else p).1=p.1
  split <;> rfl
 ·rw [BL (by simpa using h),BL h,Ak];rfl
theorem fP{κ:Type} [DecidableEq κ] {kvs:List (κ×V)} {k j:κ} {v:V}:j∈(putK kvs k v).map (·.1)↔j∈kvs.map (·.1)\/j=k:=by
 rw [N7]
 split
 ·exact⟨.inl,λh=>h.elim id λe=>by rw [e];assumption⟩
 ·rw [Aq,Ai]
theorem N8{κ:Type} [DecidableEq κ] {kvs:List (κ×V)} {k:κ} {v:V} (h:(kvs.map (·.1)).Nodup):((putK kvs k v).map (·.1)).Nodup:=by
 rw [N7]
 split
 ·exact h
 ·rename_i hn;exact ni h hn
structure iA(n:Net)(done:List<|Str×Nt.End)(H:Hp)(kM:List<|Key×V)(kO:List<|List Key×V):Prop where
 m0:∀ z,bY done z=[]->aC kM (Sum.inr z)=none
 m1:∀ z a rest,bY done z=a :: rest->∃ t,aC kM (Sum.inr z)=some (.ref t)/\H t=some (TN n a)
 o:∀ z a b rest,bY done z=a :: b :: rest->(∃ u,aC kO (key n a)=some (.ref u)/\H u=some (TN n b))/\∃ u,aC kO (key n b)=some (.ref u)/\H u=some (TN n a)
 sub:∀ p∈done,aG n p.2=some p.1
 dn:kM.length<=done.length
 eU:kO.length<=2 * done.length
 ks:∀ k∈kO.map (·.1),∃ p∈done,k=key n p.2
 nd:(kO.map (·.1)).Nodup
theorem iA.keep{n:Net}{done:List (Str×Nt.End)}{H H':Hp}{kM:List (Key×V)}{kO:List (List Key×V)}(I:iA n done H kM kO)(k:∀ t p j,H t=some (Tn p j)->H' t=some (Tn p j)):iA n done H' kM kO where
 m0:=I.m0
 m1:=λz a rest h=>let ⟨t,e1,e2⟩:=I.m1 z a rest h;⟨t,e1,k _ _ _ e2⟩
 o:=λz a b rest h=>let ⟨⟨u,e1,e2⟩,⟨v,e3,e4⟩⟩:=I.o z a b rest h;⟨⟨u,e1,k _ _ _ e2⟩,⟨v,e3,k _ _ _ e4⟩⟩
 sub:=I.sub
 dn:=I.dn
 eU:=I.eU
 ks:=I.ks
 nd:=I.nd
theorem tZ{done:List (Str×Nt.End)}{z:Str}{a:Nt.End}(h:a∈bY done z):(z,a)∈done:=by
 unfold bY at h;obtain⟨⟨y,b⟩,hm,rfl⟩:=Am.mp h;obtain⟨h1,h2⟩:=Da.mp hm;have:y=z:=BZ h2;subst this;exact h1
theorem iA.new{n:Net}{done:List (Str×Nt.End)}{H:Hp}{kM:List (Key×V)}{kO:List (List Key×V)}(I:iA n done H kM kO){z:Str}{e:Nt.End}{t:Addr}(ht:H t=some (TN n e))(hz:aG n e=some z)(h0:bY done z=[]) :
  iA n (done++[(z,e)]) H (putK kM (Sum.inr z)<|.ref t) kO where
 m0:=λy hy=>by
  rw [cU] at hy;obtain⟨h1,h2⟩:=Ez.mp hy;have bj:¬ z=y:=λq=>by rw [BP q] at h2;cases h2
  rw [c0,BL λq=>bj (Sum.inr.inj q).symm];exact I.m0 y h1
 m1:=λy a rest hy=>by
  rw [cU] at hy
  by_cases q:z=y
  ·subst q;rw [h0,BP rfl] at hy;cases hy;exact⟨t,by rw [c0,BP rfl],ht⟩
  ·rw [BL q,Br] at hy;obtain⟨u,e1,e2⟩:=I.m1 y a rest hy;exact⟨u,by rw [c0,BL λp=>q (Sum.inr.inj p).symm];exact e1,e2⟩
 o:=λy a b rest hy=>by
  rw [cU] at hy
  by_cases q:z=y
  ·subst q;rw [h0,BP rfl] at hy;cases hy
  ·rw [BL q,Br] at hy;exact I.o y a b rest hy
 sub:=λp hp=>by
  rcases Aq.mp hp with h | h
  ·exact I.sub p h
  ·rw [Ai.mp h];exact hz
 dn:=by
  have:=ig kM (Sum.inr z)<|.ref t;have:=I.dn;rw [Ag,Cw];omega
 eU:=by
  have:=I.eU;rw [Ag,Cw];omega
 ks:=λk hk=>let ⟨p,hp,e⟩:=I.ks k hk;⟨p,Bc _ hp,e⟩
 nd:=I.nd
theorem iA.old{n:Net}(hN:(n.map (·.1)).Nodup){done:List (Str×Nt.End)}{H:Hp}{kM:List (Key×V)}{kO:List (List Key×V)}(I:iA n done H kM kO){z:Str}{e a:Nt.End}{te tm:Addr}(ht:H te=some (TN n e))(hm:H tm=some (TN n a))(hz:aG n e=some z)(h1:bY done z=[a])(hae:a≠e) :
  iA n (done++[(z,e)]) H kM (putK (putK kO (key n e)<|.ref tm) (key n a)<|.ref te) where
 m0:=λy hy=>by
  rw [cU] at hy;exact I.m0 y (Ez.mp hy).1
 m1:=λy c rest hy=>by
  rw [cU] at hy
  by_cases q:z=y
  ·subst q;rw [h1,BP rfl] at hy;cases hy;exact I.m1 z a [] h1
  ·rw [BL q,Br] at hy;exact I.m1 y c rest hy
 o:=λy c b rest hy=>by
  rw [cU] at hy;have ta:aG n a=some z:=I.sub (z,a)<|tZ<|by rw [h1];exact Ai.mpr rfl
  by_cases q:z=y
  ·subst q;rw [h1,BP rfl] at hy;cases hy;refine⟨⟨te,by rw [c0,BP rfl],ht⟩,⟨tm,?_,hm⟩⟩;rw [c0,BL λp=>hae (oM hN (cg hz) (cg ta) p).symm,c0,BP rfl]
  ·rw [BL q,Br] at hy;have tc:aG n c=some y:=I.sub (y,c) (tZ<|by rw [hy];exact Ae);have tb:aG n b=some y:=I.sub (y,b) (tZ<|by rw [hy];exact Ah _ Ae);have ne:∀ x:Nt.End,aG n x=some y->¬ key n x=key n a/\¬ key n x=key n e:=λx hx=>by
    refine⟨λp=>?_,λp=>?_⟩
    ·have:=oM hN (cg hx) (cg ta) p;rw [this,ta] at hx;exact q<|Option.some.inj hx
    ·have:=oM hN (cg hx) (cg hz) p;rw [this,hz] at hx;exact q<|Option.some.inj hx
   obtain⟨⟨u,e1,e2⟩,⟨v,e3,e4⟩⟩:=I.o y c b rest hy;refine⟨⟨u,?_,e2⟩,⟨v,?_,e4⟩⟩
   ·rw [c0,BL (ne c tc).1,c0,BL (ne c tc).2];exact e1
   ·rw [c0,BL (ne b tb).1,c0,BL (ne b tb).2];exact e3
 sub:=λp hp=>by
  rcases Aq.mp hp with h | h
  ·exact I.sub p h
  ·rw [Ai.mp h];exact hz
 dn:=by
  have:=I.dn;rw [Ag,Cw];omega
 eU:=by
  have h1:=ig (putK kO (key n e)<|.ref tm) (key n a)<|.ref te;have h2:=ig kO (key n e)<|.ref tm;have:=I.eU;rw [Ag,Cw];omega
 ks:=λk hk=>by
  rcases fP.mp hk with hk | rfl
  ·rcases fP.mp hk with hk | rfl
   ·obtain⟨p,hp,e⟩:=I.ks k hk;exact⟨p,Bc _ hp,e⟩
   ·exact⟨(z,e),Au _<|Ai.mpr rfl,rfl⟩
  ·exact⟨(z,a),Bc _ (tZ<|by rw [h1];exact Ai.mpr rfl),rfl⟩
 nd:=N8<|N8 I.nd
theorem iA.whole{n:Net}(T:ay n){H:Hp}{kM:List (Key×V)}{kO:List (List Key×V)}(I:iA n (bd n) H kM kO){e:Nt.End}(he:e∈ends n):∃ u,aC kO (key n e)=some (.ref u)/\H u=some (TN n<|other n e):=by
 obtain⟨z,hz⟩:=af.mp he;obtain⟨a,b,hp,fI,wc⟩:=qk T hz;have tS:bY (bd n) z=a :: b :: []:=hp;have ta:aG n a=some z:=aN.mp (by rw [hp];simp);have tb:aG n b=some z:=aN.mp (by rw [hp];simp);obtain⟨o1,o2⟩:=I.o z a b [] tS
 rcases wc with rfl | rfl
 ·have:b=other n e:=((ju T hz).mp tb).resolve_left<|CG fI;rw [<- this];exact o1
 ·have:a=other n e:=((ju T hz).mp ta).resolve_left fI;rw [<- this];exact o2
def oO:Sp:=λvs H Q _=>∃(R:Addr) (as:List<|Addr×Addr) (n:Net),vs=[.ref R]/\ah H R as n/\(n.map (·.1)).Nodup/\ay n/\n.length<=1000/\(ag n).length<=1000 /\
 ∀(d:Addr) (kvs:List<|List Key×V) (H':Hp),aj H H'->H d=none->H' d=some (.dT kvs)->(∀ e∈ends n,∃ u,aC kvs (key n e)=some (.ref u)/\H' u=some (TN n<|other n e))->(kvs.map (·.1)).Nodup->(∀ k∈kvs.map (·.1),∃ e∈ends n,k=key n e)->kvs.length<=2000->Q (.ref d) H'
section
variable{X:Cx}{D:Ends}{σ:St}{H:Hp}{body:List Stmt}
theorem k9b{tg:Expr}{a b:Addr}{xs ys:List V}{after:St->Hp->Prop}(hlen:xs.length=ys.length)(Pv:Nat->St->Hp->Prop)(h0:Pv 0 σ H)(hl:∀ i σ H,i<=xs.length->Pv i σ H->ai X.K H a xs/\ai X.K H b ys)
  (hs:∀ i x y T σ H,xs[i]?=some x->ys[i]?=some y->Pv i σ H->H T=none->Eg X tg (.ref T) σ (upd H T<|.tup [x,y]) λσ2 H2=>Run X body {D with nx:=Pv<|i+1,ct:=Pv<|i+1,bk:=after} σ2 H2) (hd:∀ σ H,Pv xs.length σ H->after σ H):Loop X tg body (wN X.K a b) D after σ H:=by
 refine⟨λi m σ H=>m=xs.length - i/\i<=xs.length/\Pv i σ H,⟨xs.length,by simp,Bu _,h0⟩,?_⟩;rintro i m σ H ⟨rfl,hi,p⟩;obtain⟨q1,q2⟩:=hl i σ H hi p
 by_cases aM:i < xs.length
 ·refine .inr ⟨⟨xs,ys,xs[i],ys[i],q1,q2,Ab aM,Ab<|by omega⟩,Pv<|i+1,λσ' H' p'=>⟨xs.length - (i+1),by omega,rfl,aM,p'⟩,λv H' y=>?_⟩;obtain⟨T,x,y,hT,rfl,rfl,y1,y2⟩:=y;exact hs i x y T σ _ (y1 xs q1) (y2 ys q2) p hT
 ·have e:i=xs.length:=by omega
  subst e;exact .inl ⟨⟨xs,ys,q1,q2,.inl<|Al _⟩,hd σ H p⟩
end
section
variable{P:Program}{w:World}{K:PySem.W.Frag}{mg:Str->Option Value}{base:Heap}
abbrev NOE:List Str:=["rows","met","others","row","end","tie"]
theorem t6:al NOE ["rows"] (aQ A1):=⟨rfl,rfl,rfl,by decide +kernel,rfl,by decide +kernel,by decide +kernel⟩
theorem N9{H:Hp}{t d:Addr}{xs:List V}{kvs:List (Key×V)}(h:H t=some (.tup xs))(g:H d=some (.dK kvs)):t≠d:=b7 h g λz=>nomatch z
theorem oP{H:Hp}{t d:Addr}{xs:List V}{kvs:List (List Key×V)}(h:H t=some (.tup xs))(g:H d=some (.dT kvs)):t≠d:=b7 h g λz=>nomatch z
theorem q9g{f:Addr}{fd:FuncData}(F:bH K "other_ends" "other_ends" A1 f fd)(T:Txt mg)
  (GE:aV P w K mg base 1 "ends_round" ["row"] tX) :
  aE P w K mg base bJ 2 f fd ["rows"] oO:=by
 refine F.gb t6 (λvs H Q E h=>?_) λb0 H vs Q E hr h=>?_
 ·obtain⟨R,as,n,rfl,_⟩:=h;rfl
 obtain⟨R,as,n,rfl,hR,hN,hT,hn,ht,q⟩:=h;have nd:=t6.nd;have bQ:=hR.len;have hu:=hr.u1;show Run _ _ _ [some<|.ref R,none,none,none,none,none] H;refine aX 1 nd<|AT λdm t7=>?_;refine aX 2 nd<|Wl λdO xA=>?_;show Run _ _ _ [some<|.ref R,some<|.ref dm,some<|.ref dO,none,none,none] (upd (upd H dm<|.dK []) dO<|.dT []);have t8:dO≠dm:=λe=>by rw [e,aw] at xA;cases xA
 have oQ:H dO=none:=by rw [av t8] at xA;exact xA
 have em:(upd (upd H dm<|.dK []) dO<|.dT []) dm=some (.dK []):=by rw [av<|CG t8,aw]
 have eo:(upd (upd H dm<|.dK []) dO<|.dT []) dO=some (.dT []):=aw;have s0:aj H (upd (upd H dm<|.dK []) dO<|.dT []):=λb o h=>by rw [av<|bF h oQ,av<|bF h t7];exact h
 generalize upd (upd H dm<|.dK []) dO (.dT [])=H1 at em eo s0 ⊢;refine lZ<|ae 0 ⟨R,rfl,⟨_,ai.of<|s0 _ _ hR.lst⟩,l3 (xs:=as.map λa=>V.ref a.1) (λr σ H'=>∃ kM kO u1 u2 u3,aj H H'/\H' dm=some (.dK kM)/\H' dO=some (.dT kO)/\iA n (bd<|n.take r) H' kM kO/\σ=[some<|.ref R,some<|.ref dm,some<|.ref dO,u1,u2,u3])
  ⟨[],[],_,_,_,s0,em,eo,⟨λ_ _=>rfl,λz a rest h=>(by cases h),λz a b rest h=>(by cases h),λp h=>(by cases h),Bu _,Bu _,λk h=>(by cases h),Cp⟩,rfl⟩ ?_ ?_ ?_⟩
 ·rintro r σ H' _ ⟨kM,kO,u1,u2,u3,sm,_⟩;exact ai.of<|sm _ _ hR.lst
 ·rintro r x σ H' hx ⟨kM,kO,u1,u2,u3,sm,Oa,ED,I,rfl⟩;have hi:r < n.length:=by
   have:=(Ac.mp hx).1;rw [Aa] at this;omega
  obtain⟨a,ea,dN,et,el,er⟩:=(hR.same sm).at hi;rw [Ad,ea] at hx;cases hx;have iT:(row n r).length<=1000:=Cg (fY n r) ht;have enm:nameAt n r=n[r].1:=mJ hi;refine bb 3 nd ?_;refine vX (Mt rfl T.zip (ta:=rS _ _) gQ) ?_;show Ea _ _ _ _ _;refine ak<|bK GE hr<|ak<|ae 3<|aq ⟨a.1,a.2,n[r].1,row n r,rfl,et,el,iT,λL ts H5 s5 n5 e5 l5 t5=>?_⟩;refine ak<|aS bW<|ae 3<|aB ⟨a.1,_,_,.ref a.2,rfl,rfl,aJ.of<|s5 _ _ et,rfl,aq ⟨L,a.2,rfl,⟨_,ai.of e5⟩,⟨_,ai.of<|s5 _ _ el⟩,?_⟩⟩;have xB:=s5 _ _ Oa;have xC:=s5 _ _ ED;have qI:=s5 _ _ el;refine k9b (xs:=ts.map V.ref) (ys:=(row n r).map V.str) (by rw [Aa,Aa,l5]) (λp σ' bB=>∃ kM kO u2 u3,(∀ b o,b≠dm->b≠dO->H5 b=some o->bB b=some o)/\bB dm=some (.dK kM)/\bB dO=some (.dT kO)/\iA n (bd (n.take r)++bz r ((row n r).take p) 0) bB kM kO/\σ'=[some<|.ref R,some<|.ref dm,some<|.ref dO,some<|.ref a.1,u2,u3])
   ⟨kM,kO,_,_,λb o _ _ h=>h,xB,xC,?_,rfl⟩ ?_ ?_ ?_
  ·have:bz r ((row n r).take 0) 0=[]:=by simp [bz]
   rw [this,Br];exact I.keep λt p j h=>s5 _ _ h
  ·rintro p σ' bB _ ⟨kM,kO,u2,u3,kb,_,_,_,rfl⟩;exact⟨ai.of (kb _ _ (b7 e5 xB λz=>nomatch z) (b7 e5 xC λz=>nomatch z) e5),ai.of<|kb _ _ (b7 qI xB λz=>nomatch z) (b7 qI xC λz=>nomatch z) qI⟩
  ·rintro p x y Tt σ' bB hx hy ⟨kM,kO,u2,u3,kb,xD,xE,I6,rfl⟩ iB;rw [Ad,Ao] at hx hy;obtain⟨te,gB,rfl⟩:=hx;obtain⟨z,hz,rfl⟩:=hy;have kS:=t5 p te gB;have t9:bB te=some (Tn n[r].1 p):=kb _ _ (N9 kS xB) (oP kS xC) kS;have oR:aG n (r,p)=some z:=hz;obtain⟨rest,dw⟩:=tY hi hz;have hlen:(bd (n.take r)++bz r ((row n r).take p) 0).length < 1000:=by
    have h1:(bd n).length=(ag n).length:=by
     have:=BX List.length<|jf n 0;rw [Aa] at this;exact this
    have h2:=BX List.length dw;rw [Ag,At] at h2;omega
   have cW:bd (n.take r)++bz r ((row n r).take<|p+1) 0=(bd (n.take r)++bz r ((row n r).take p) 0)++[(z,(r,p))]:=by
    rw [nP hz,Ay]
   have jD:∀ b,b∈bY (bd (n.take r)++bz r ((row n r).take p) 0) z->b≠(r,p):=λb hb e=>by
    have hm:=tZ hb;have ko:=iP n;unfold ends at ko;rw [dw,Ak,Bd] at ko;exact(Co.mp ko).2.2 _ (Am.mpr ⟨_,hm,rfl⟩) _ Ae e
   have ua:(bY (bd (n.take r)++bz r ((row n r).take p) 0) z).length<=1:=by
    have h1:(pos n z).length=2:=by rw [qj];exact hT z<|fj oR
    have h2:pos n z=bY (bd (n.take r)++bz r ((row n r).take p) 0) z++bY ((z,(r,p)) :: rest) z:=by
     show bY (bd n) z=_;rw [dw];unfold bY;rw [PX,Ak]
    have h3:1<=(bY ((z,(r,p)) :: rest) z).length:=by
     unfold bY;rw [QX,BP<|by simp];simp
    rw [h2,Ag] at h1;omega
   generalize bd (n.take r)++bz r ((row n r).take p) 0=done at I6 hlen cW jD ua;rw [cW];have hTm:Tt≠dm:=λe=>by rw [e,xD] at iB;cases iB
   have hTo:Tt≠dO:=λe=>by rw [e,xE] at iB;cases iB
   have s7:=aP iB<|.tup [.ref te,.str z];have EE:∀ b o,b≠dm->b≠dO->H5 b=some o->(upd bB Tt<|.tup [.ref te,.str z]) b=some o:=λb o h1 h2 h=>s7 _ _<|kb b o h1 h2 h;have qJ:=s7 _ _ xD;have qK:=s7 _ _ xE;have I7:=I6.keep (H':=upd bB Tt<|.tup [.ref te,.str z]) λt p j h=>s7 _ _ h;have kU:=s7 _ _ t9;refine jm rfl (aJ.of aw) (bb 4 nd<|bb 5 nd ?_);show Run _ _ _ [some<|.ref R,some<|.ref dm,some<|.ref dO,some<|.ref a.1,some<|.ref te,some<|.str z] _;generalize upd bB Tt (.tup [.ref te,.str z])=H7 at EE qJ qK I7 kU;have oS:H7 te=some (TN n (r,p)):=by
    show H7 te=some (Tn (nameAt n r) p);rw [enm];exact kU
   have hM:kM.length < sizeLine:=bU (by have:=I7.dn;omega);have hO:kO.length < sizeLine:=bU (by have:=I7.eU;omega);refine cY<|LW hu<|ae 5<|ae 1 ⟨dm,_,rfl,bh.k (k:=Sum.inr z) qJ,?_⟩
   match iV:bY done z with
   | []=>
    rw [I7.m0 z iV];show if false=true then _ else _;rw [BL Ar];refine su hu<|ae 4<|ae 1<|ae 5 ⟨dm,_,rfl,b6.k (k:=Sum.inr z) qJ hM,a8<|a8 ⟨_,kO,_,_,λb o h1 h2 h=>?_,aw,?_,?_,rfl⟩⟩
    ·rw [av h1];exact EE b o h1 h2 h
    ·rw [av t8];exact qK
    ·exact(I7.new oS oR iV).keep λt p j h=>by rw [av<|N9 h qJ];exact h
   | b :: more=>
    have ub:more=[]:=by
     rw [iV,At] at ua;exact Be.mp<|by omega
    subst ub;obtain⟨tm,vm,EF⟩:=I7.m1 z b [] iV;rw [vm];show if true=true then _ else _;rw [BP rfl];have j4:b≠(r,p):=jD b (by rw [iV];exact Ai.mpr rfl);refine su hu (kD hu<|ae 1<|ae 5 ⟨dm,.ref tm,rfl,by rw [<- vm];exact bh.k (k:=Sum.inr z) qJ,ae 2<|ae 4 ⟨dO,_,rfl,b6.t (k:=key n (r,p)) qK oS hO,?_⟩⟩);have hO2:=ig kO (key n (r,p))<|.ref tm;have hO3:=I7.eU;have Ob:(upd H7 dO<|.dT<|putK kO (key n (r,p))<|.ref tm) dm=some (.dK kM):=by rw [av<|CG t8];exact qJ
    have EG:(upd H7 dO<|.dT<|putK kO (key n (r,p))<|.ref tm) tm=some (TN n b):=by rw [av<|oP EF qK];exact EF
    refine su hu<|ae 4<|ae 2<|kD hu<|ae 1<|ae 5 ⟨dm,.ref tm,rfl,by rw [<- vm];exact bh.k (k:=Sum.inr z) Ob,dO,_,rfl,b6.t (k:=key n b) aw EG (bU<|by omega),a8<|a8 ⟨kM,_,_,_,λb o h1 h2 h=>?_,?_,aw,?_,rfl⟩⟩
    ·rw [av h2,av h2];exact EE b o h1 h2 h
    ·rw [av<|CG t8];exact Ob
    ·exact(I7.old hN oS EF oR iV j4).keep λt p j h=>by rw [av<|oP h qK,av<|oP h qK];exact h
  ·rintro σ' bB ⟨kM,kO,u2,u3,kb,xD,xE,I6,rfl⟩;refine a8 ⟨kM,kO,_,_,_,λb o h=>?_,xD,xE,?_,rfl⟩
   ·exact kb b o (bF h t7) (bF h oQ)<|s5 _ _<|sm _ _ h
   ·rw [Aa,l5,Ca] at I6;rw [ql hi];exact I6
 ·rintro σ H' ⟨kM,kO,u1,u2,u3,sm,Oa,ED,I,rfl⟩;rw [Aa,bQ,Ca] at I;have lO:=I.eU;have ls:(bd n).length=(ag n).length:=by rw [<- jf n 0,Aa];rfl
  exact bT<|ae 2<|q dO kO H' sm oQ ED (λe he=>I.whole hT he) I.nd (λk hk=>let ⟨p,hp,e⟩:=I.ks k hk;⟨p.2,Am.mpr ⟨p,hp,rfl⟩,e⟩)<|by omega
end
def kW(n:Net)(H:Hp)(us:List Addr)(done:List<|Str×Nt.End):Prop:=us.length=done.length/\∀(j:Nat) u p,us[j]?=some u->done[j]?=some p->H u=some (TN n p.2)
theorem kW.keep{n:Net}{H H':Hp}{us:List Addr}{done:List (Str×Nt.End)}(h:kW n H us done)(k:∀ t p j,H t=some (Tn p j)->H' t=some (Tn p j)):kW n H' us done:=⟨h.1,λj u p h1 h2=>k _ _ _<|h.2 j u p h1 h2⟩
theorem kW.snoc{n:Net}{H H':Hp}{us:List Addr}{done:List (Str×Nt.End)}{u:Addr}{p:Str×Nt.End}(h:kW n H us done)(k:∀ t p j,H t=some (Tn p j)->H' t=some (Tn p j))(hu:H' u=some (TN n p.2)):kW n H' (us++[u]) (done++[p]):=by
 obtain⟨hl,ha⟩:=h;refine⟨by rw [Ag,Ag,hl];rfl,λj v x hv hx=>?_⟩
 by_cases hj:j < us.length
 ·rw [Aw hj] at hv;rw [Aw<|by omega] at hx;exact k _ _ _<|ha j v x hv hx
 ·rw [Ba<|by omega] at hv hx;have dU:j - us.length=0:=by
   have:=(Ac.mp hv).1;simp at this;omega
  have hj3:j - done.length=0:=by omega
  rw [dU] at hv;rw [hj3] at hx;cases hv;cases hx;exact hu
section
variable{X:Cx}{tg:Expr}{ifs:List Expr}{inner:Sem Unit}{σ:St}{H:Hp}{a b:Addr}{xs ys:List V}{after:St->Hp->Prop}
theorem oU(Pv:Nat->St->Hp->Prop)(h0:Pv 0 σ H)(hl:∀ i σ' H',i<=xs.length->Pv i σ' H'->ai X.K H' a xs)
  (hs:∀ i x σ' H',xs[i]?=some x->Pv i σ' H'->Eg X tg x σ' H' λσ2 H3=>Ei X ifs σ2 H3 λb H4=>if b=true then jQ X inner σ2 H4 (Pv<|i+1) else Pv (i+1) σ2 H4)
  (hd:∀ σ' H',Pv xs.length σ' H'->after σ' H'):gj X tg ifs inner (pS X.K a) after σ H:=by
 refine⟨λi m σ' H'=>m=xs.length - i/\i<=xs.length/\Pv i σ' H',⟨_,rfl,Bu _,h0⟩,?_⟩;rintro i m σ' H' ⟨rfl,hi,p⟩;have q:=hl i σ' H' hi p
 by_cases aM:i < xs.length
 ·refine .inr ⟨⟨xs,xs[i],q,by simp [aM]⟩,Pv<|i+1,λσ' H' p'=>⟨xs.length - (i+1),by omega,rfl,aM,p'⟩,λx H2 y=>?_⟩;obtain⟨e,y⟩:=y;subst e;exact hs i x σ' _ (y xs q) p
 ·have e:i=xs.length:=by omega
  subst e;exact .inl ⟨⟨xs,q,Al _⟩,hd σ' H' p⟩
theorem k0s(hlen:xs.length=ys.length)(Pv:Nat->St->Hp->Prop)(h0:Pv 0 σ H)(hl:∀ i σ' H',i<=xs.length->Pv i σ' H'->ai X.K H' a xs/\ai X.K H' b ys)
  (hs:∀ i x y T σ' H',xs[i]?=some x->ys[i]?=some y->Pv i σ' H'->H' T=none->Eg X tg (.ref T) σ' (upd H' T<|.tup [x,y]) λσ2 H3=>Ei X ifs σ2 H3 λb H4=>if b=true then jQ X inner σ2 H4 (Pv<|i+1) else Pv (i+1) σ2 H4)
  (hd:∀ σ' H',Pv xs.length σ' H'->after σ' H'):gj X tg ifs inner (wN X.K a b) after σ H:=by
 refine⟨λi m σ' H'=>m=xs.length - i/\i<=xs.length/\Pv i σ' H',⟨_,rfl,Bu _,h0⟩,?_⟩;rintro i m σ' H' ⟨rfl,hi,p⟩;obtain⟨q1,q2⟩:=hl i σ' H' hi p
 by_cases aM:i < xs.length
 ·refine .inr ⟨⟨xs,ys,xs[i],ys[i],q1,q2,Ab aM,Ab<|by omega⟩,Pv<|i+1,λσ' H' p'=>⟨xs.length - (i+1),by omega,rfl,aM,p'⟩,λv H2 y=>?_⟩;obtain⟨T,x,y,hT,rfl,rfl,y1,y2⟩:=y;exact hs i x y T σ' _ (y1 xs q1) (y2 ys q2) p hT
 ·have e:i=xs.length:=by omega
  subst e;exact .inl ⟨⟨xs,ys,q1,q2,.inl<|Al _⟩,hd σ' H' p⟩
end
def EH:Sp:=λvs H Q _=>∃(R:Addr) (as:List<|Addr×Addr) (n:Net),vs=[.ref R]/\ah H R as n/\n.length<=1000/\(ag n).length<=1000 /\
 ∀(L:Addr) (ts:List Addr) (H':Hp),aj H H'->H L=none->H' L=some (.lst<|ts.map V.ref)->kW n H' ts (bd n)->Q (.ref L) H'
section
variable{P:Program}{w:World}{K:PySem.W.Frag}{mg:Str->Option Value}{base:Heap}
abbrev Oc:List Str:=["rows"]
abbrev Od:List Str:=["rows","row","end"]
theorem g8:al Oc ["rows"] (aQ wz):=⟨rfl,rfl,rfl,by decide +kernel,rfl,by decide +kernel,by decide +kernel⟩
theorem Oe:Od.Nodup:=by decide +kernel
theorem k88{f:Addr}{fd:FuncData}(F:bH K "ends_in_order" "ends_in_order" wz f fd)(T:Txt mg)
  (GE:aV P w K mg base 1 "ends_round" ["row"] tX) :
  aE P w K mg base bJ 2 f fd ["rows"] EH:=by
 refine F.gb g8 (λvs H Q E h=>?_) λb0 H vs Q E hr h=>?_
 ·obtain⟨R,as,n,rfl,_⟩:=h;rfl
 obtain⟨R,as,n,rfl,hR,hn,ht,q⟩:=h;have nd:=g8.nd;have bQ:=hR.len;show Run _ _ _ [some<|.ref R] H;refine bT<|Mv (aQ wz) Oc Od 2 (dR bn)<|ae 0 ⟨R,rfl,⟨_,ai.of hR.lst⟩,λD hD cl C s₀ H₀ ex=>?_⟩;refine oU (xs:=as.map λa=>V.ref a.1) (λr σ' H'=>(∃ v1 v2,σ'=[some<|.ref R]++[v1,v2])/\∃ ts:List Addr,aj H H'/\H' D=some (.lst<|ts.map V.ref)/\kW n H' ts (bd<|n.take r)) ⟨⟨none,none,rfl⟩,[],aP hD _,aw,⟨rfl,λj u p h=>(by cases h)⟩⟩ ?_ ?_ ?_
 ·rintro r σ' H' _ ⟨_,ts,sm,_⟩;exact ai.of<|sm _ _ hR.lst
 ·rintro r x σ' H' hx ⟨⟨v1,v2,rfl⟩,ts,sm,eD,AN⟩;have hi:r < n.length:=by
   have:=(Ac.mp hx).1;rw [Aa] at this;omega
  obtain⟨a,ea,dN,et,el,er⟩:=(hR.same sm).at hi;rw [Ad,ea] at hx;cases hx;have iT:(row n r).length<=1000:=Cg (fY n r) ht;refine bb 1 Oe ?_;refine dh ?_;rw [BP rfl];refine Mu rfl rfl (dR bn) (bK GE hr<|ak<|ae 1<|aq ⟨a.1,a.2,n[r].1,row n r,rfl,et,el,iT,λL us H5 s5 n5 e5 l5 t5=>⟨L,rfl,⟨_,ai.of e5⟩,?_⟩⟩);have nLD:L≠D:=λe=>by rw [e,eD] at n5;cases n5
  refine oU (xs:=us.map V.ref) (λp σ' bB=>(∃ v2,σ'=[some<|.ref R]++[some<|.ref a.1,v2])/\∃ ts:List Addr,(∀ b o,b≠D->H5 b=some o->bB b=some o)/\bB D=some (.lst<|ts.map V.ref)/\kW n bB ts (bd (n.take r)++bz r ((row n r).take p) 0))
   ⟨⟨_,rfl⟩,ts,λb o _ h=>h,s5 _ _ eD,by simpa [bz] using AN.keep (H':=H5) λt p j h=>s5 _ _ h⟩ ?_ ?_ ?_
  ·rintro p σ' bB _ ⟨_,ts,kb,_⟩;exact ai.of<|kb _ _ nLD e5
  ·rintro p x σ' bB hx ⟨⟨v2,rfl⟩,ts,kb,fQ,uc⟩;rw [Ad,Ao] at hx;obtain⟨te,gB,rfl⟩:=hx;have hp:p < (row n r).length:=by have:=(Ac.mp gB).1;omega
   have hz:(row n r)[p]?=some (row n r)[p]:=Ab hp;generalize (row n r)[p]=z at hz;have kS:=t5 p te gB;have xF:te≠D:=b7 kS (s5 _ _ eD) λz=>nomatch z;have t9:=kb _ _ xF kS;obtain⟨rest,dw⟩:=tY hi hz;have hlen:ts.length < 1000:=by
    have h1:(bd n).length=(ag n).length:=by
     have:=BX List.length<|jf n 0;rw [Aa] at this;exact this
    have h2:=BX List.length dw;rw [Ag,At] at h2;have:=uc.1;omega
   refine bb 2 Oe ?_;refine dh ?_;rw [BP rfl];refine zU (ae 2 ⟨ts.map V.ref,fQ,by rw [Aa];exact bU (by omega),⟨_,rfl⟩,ts++[te],λb o hb h=>by rw [av hb];exact kb b o hb h,by rw [aw,Ak];rfl,?_⟩);rw [nP hz,<- Ay];refine uc.snoc (λt p j h=>by rw [av<|b7 h fQ λz=>nomatch z];exact h) ?_;rw [av xF];show bB te=some (Tn (nameAt n r) p);rw [mJ hi];exact t9
  ·rintro σ' bB ⟨⟨v2,rfl⟩,ts,kb,fQ,uc⟩;refine⟨⟨_,_,rfl⟩,ts,λb o h=>kb b o (bF h hD)<|s5 _ _<|sm _ _ h,fQ,?_⟩;rw [Aa,l5,Ca,<- ql hi] at uc;exact uc
 ·rintro σ' H' ⟨_,ts,sm,eD,AN⟩;rw [Aa,bQ,Ca] at AN;exact q D ts H' sm hD eD AN
end
section
variable{X:Cx}{H:Hp}
theorem oz{k:Nat}(z:Str):gT X H k (.str z) (.str z) true:=by
 have:=nM (X:=X) (H:=H) (k:=k) (x:= .str z) (y:= .str z) rfl rfl;have e:cj (.str z) (.str z)=true:=by show(z == z)=true;simp
 rw [e] at this;exact this
theorem q8h{p p':Str}{j j':Int}:∀(i:Nat) (u v:V),[V.str p,.int j][i]?=some u->[V.str p',.int j'][i]?=some v->gT X H 0 u v (if i=0 then cj (.str p) (.str p') else cj (.int j) (.int j'))
 | 0,u,v,h1,h2=>by
  cases h1;cases h2;exact nM rfl rfl
 | 1,u,v,h1,h2=>by
  cases h1;cases h2;exact nM rfl rfl
 | i+2,u,v,h1,h2=>by simp at h1
theorem q76(p p':Str)(j j':Int):(cj (.str p) (.str p') && cj (.int j) (.int j'))=decide (p=p'/\j=j'):=by
 show((p == p') && (j == j'))=_
 by_cases h:p=p' <;> by_cases h2:j=j' <;> simp [h,h2]
theorem q58{s t:Addr}{p p':Str}{j j':Int}(hs:H s=some (Tn p j))(ht:H t=some (Tn p' j')):l9 X H 1 (.ref s) (.ref t) (decide (p=p'/\j=j')):=by
 have:=AO (X:=X) (k:=0) (λi=>if i=0 then cj (.str p) (.str p') else cj (.int j) (.int j')) (aJ.of hs) (aJ.of ht) rfl q8h;rw [show([V.str p,.int j].length)=2 from rfl,all2] at this;have e:=q76 p p' j j';simp only [DK] at this;rw [BL (by decide),e] at this;exact this
theorem tJ{a b:Addr}{zs:List Str}(ha:H a=some (Ls zs))(hb:H b=some (Ls zs)):iO X H 1 (.ref a) (.ref b) true:=by
 have q:=sr (X:=X) (k:=0) (λ_=>true) (ai.of (K:=X.K) ha) (ai.of (K:=X.K) hb) rfl λj x y hx hy=>by
  rw [hx] at hy;cases hy;rw [Ad,Ao] at hx;obtain⟨z,_,rfl⟩:=hx;exact oz z
 rw [kC] at q;exact q
theorem oA{k:Nat}{a b:Addr}(h:iO X H k (.ref a) (.ref b) true):gT X H k (.ref a) (.ref b) true:=by
 by_cases e:a=b
 ·subst e;exact LJ
 ·exact LL e h
theorem Og{R R':Addr}{as bs:List (Addr×Addr)}{n:Net}(h:ah H R as n)(g:ah H R' bs n):iO X H 3 (.ref R) (.ref R') true:=by
 have q:=sr (X:=X) (k:=2) (λ_=>true) (ai.of (K:=X.K) h.lst) (ai.of (K:=X.K) g.lst) (by rw [Aa,Aa,h.len,g.len]) λj x y hx hy=>by
  rw [Ad,Ao] at hx hy;obtain⟨a,ea,rfl⟩:=hx;obtain⟨b,eb,rfl⟩:=hy;have hj:j < n.length:=by
   have:=(Ac.mp ea).1;have:=h.len;omega
  obtain⟨q1,q2⟩:=h.tup j a n[j] ea<|Ab hj;obtain⟨q3,q4⟩:=g.tup j b n[j] eb<|Ab hj;have t:=AK (X:=X) (k:=1) (λ_=>true) (aJ.of (K:=X.K) q1) (aJ.of (K:=X.K) q3) rfl λi x y hx hy=>by
   match i with
   | 0=>cases hx;cases hy;exact oz _
   | 1=>cases hx;cases hy;exact oA<|tJ q2 q4
   | i+2=>simp at hx
  rw [kC] at t;exact oA t
 rw [kC] at q;exact q
end
theorem Oh{X:Cx}{H:Hp}{a b:Addr}{zs:List Str}(ha:H a=some (Ls zs))(hb:H b=some (Ls zs)):l9 X H 1 (.ref a) (.ref b) true:=by
 have q:=wg (X:=X) (k:=0) (λ_=>true) (ai.of (K:=X.K) ha) (ai.of (K:=X.K) hb) rfl λj x y hx hy=>by
  rw [hx] at hy;cases hy;rw [Ad,Ao] at hx;obtain⟨z,_,rfl⟩:=hx;exact oz z
 rw [kC] at q;exact q
def oV:Sp:=λvs H Q _=>∃(R:Addr) (as:List<|Addr×Addr) (n:Net),vs=[.ref R]/\ah H R as n/\(n.map (·.1)).Nodup/\n.length<=1000/\(ag n).length<=1000 /\
 ∀(d:Addr) (kvs:List<|List Key×V) (H':Hp),aj H H'->H d=none->H' d=some (.dT kvs)->(∀ e z,aG n e=some z->aC kvs (key n e)=some (.str z))->Q (.ref d) H'
section
variable{P:Program}{w:World}{K:PySem.W.Frag}{mg:Str->Option Value}{base:Heap}
abbrev Oi:List Str:=["rows"]
abbrev Oj:List Str:=["rows","row","end","tie"]
theorem EI:al Oi ["rows"] (aQ wA):=⟨rfl,rfl,rfl,by decide +kernel,rfl,by decide +kernel,by decide +kernel⟩
theorem EJ:Oj.Nodup:=by decide +kernel
theorem q9a{f:Addr}{fd:FuncData}(F:bH K "ties_by_end" "ties_by_end" wA f fd)(T:Txt mg)
  (GE:aV P w K mg base 1 "ends_round" ["row"] tX) :
  aE P w K mg base bJ 2 f fd ["rows"] oV:=by
 refine F.gb EI (λvs H Q E h=>?_) λb0 H vs Q E hr h=>?_
 ·obtain⟨R,as,n,rfl,_⟩:=h;rfl
 obtain⟨R,as,n,rfl,hR,hN,hn,ht,q⟩:=h;have bQ:=hR.len;have hu:=hr.u1;show Run _ _ _ [some<|.ref R] H;refine bT<|XA (aQ wA) Oi Oj 3 (dR bn)<|ae 0 ⟨R,rfl,⟨_,ai.of hR.lst⟩,λD hD cl C s₀ H₀ ex=>?_⟩;refine oU (xs:=as.map λa=>V.ref a.1) (λr σ' H'=>(∃ v1 v2 v3,σ'=[some<|.ref R]++[v1,v2,v3])/\∃ kvs:List<|List Key×V,aj H H'/\H' D=some (.dT kvs)/\kvs.length<=(bd<|n.take r).length/\∀ p∈bd (n.take r),aG n p.2=some p.1/\aC kvs (key n p.2)=some (.str p.1)) ⟨⟨none,none,none,rfl⟩,[],aP hD _,aw,Bu _,λp h=>(by cases h)⟩ ?_ ?_ ?_
 ·rintro r σ' H' _ ⟨_,kvs,sm,_⟩;exact ai.of<|sm _ _ hR.lst
 ·rintro r x σ' H' hx ⟨⟨v1,v2,v3,rfl⟩,kvs,sm,eD,Ol,xG⟩;have hi:r < n.length:=by
   have:=(Ac.mp hx).1;rw [Aa] at this;omega
  obtain⟨a,ea,dN,et,el,er⟩:=(hR.same sm).at hi;rw [Ad,ea] at hx;cases hx;have iT:(row n r).length<=1000:=Cg (fY n r) ht;refine bb 1 EJ ?_;refine dh ?_;rw [BP rfl];refine Xy rfl rfl (Mt rfl T.zip (ta:=rS _ _) gQ) ?_;show Ea _ _ _ _ _;refine ak<|bK GE hr<|ak<|ae 1<|aq ⟨a.1,a.2,n[r].1,row n r,rfl,et,el,iT,λL us H5 s5 n5 e5 l5 t5=>?_⟩;refine ak<|aS bW<|ae 1<|aB ⟨a.1,_,_,.ref a.2,rfl,rfl,aJ.of<|s5 _ _ et,rfl,aq ⟨L,a.2,rfl,⟨_,ai.of e5⟩,⟨_,ai.of<|s5 _ _ el⟩,?_⟩⟩;have kX:=s5 _ _ eD;have qI:=s5 _ _ el;refine k0s (xs:=us.map V.ref) (ys:=(row n r).map V.str) (by rw [Aa,Aa,l5]) (λp σ' bB=>(∃ v2 v3,σ'=[some<|.ref R]++[some<|.ref a.1,v2,v3])/\∃ kvs:List<|List Key×V,(∀ b o,b≠D->H5 b=some o->bB b=some o)/\bB D=some (.dT kvs)/\kvs.length<=(bd (n.take r)++bz r ((row n r).take p) 0).length/\∀ x∈bd (n.take r)++bz r ((row n r).take p) 0,aG n x.2=some x.1/\aC kvs (key n x.2)=some (.str x.1))
   ⟨⟨_,_,rfl⟩,kvs,λb o _ h=>h,kX,by simpa [bz] using Ol,by simpa [bz] using xG⟩ ?_ ?_ ?_
  ·rintro p σ' bB _ ⟨_,kvs,kb,_⟩;exact⟨ai.of (kb _ _ (b7 e5 kX λz=>nomatch z) e5),ai.of<|kb _ _ (b7 qI kX λz=>nomatch z) qI⟩
  ·rintro p x y Tt σ' bB hx hy ⟨⟨v2,v3,rfl⟩,kvs,kb,fQ,oW,kY⟩ iB;rw [Ad,Ao] at hx hy;obtain⟨te,gB,rfl⟩:=hx;obtain⟨z,hz,rfl⟩:=hy;have kS:=t5 p te gB;have xF:te≠D:=b7 kS kX λz=>nomatch z;have t9:=kb _ _ xF kS;have oR:aG n (r,p)=some z:=hz;obtain⟨rest,dw⟩:=tY hi hz;have hlen:(bd (n.take r)++bz r ((row n r).take p) 0).length < 1000:=by
    have h1:(bd n).length=(ag n).length:=by
     have:=BX List.length<|jf n 0;rw [Aa] at this;exact this
    have h2:=BX List.length dw;rw [Ag,At] at h2;omega
   have nTD:Tt≠D:=λe=>by rw [e,fQ] at iB;cases iB
   have s7:=aP iB<|.tup [.ref te,.str z];refine jm rfl (aJ.of aw) (bb 2 EJ<|bb 3 EJ ?_);refine dh ?_;rw [BP rfl];have kU:(upd bB Tt<|.tup [.ref te,.str z]) te=some (.tup<|(key n (r,p)).map kV):=by
    rw [s7 _ _ t9];show some (Tn n[r].1 (p:Int))=some (Tn (nameAt n r) (p:Int));rw [mJ hi]
   refine Mx hu<|ae 2<|ae 3 ⟨_,b6.t (k:=key n (r,p)) (s7 _ _ fQ) kU (bU<|by omega),⟨_,_,rfl⟩,_,λb o hb h=>?_,aw,?_,?_⟩
   ·rw [av hb];exact s7 _ _<|kb b o hb h
   ·rw [nP hz,<- Ay,Ag];have:=ig kvs (key n (r,p))<|.str z;show _<=_+1;omega
   ·rw [nP hz,<- Ay];intro x hx
    rcases Aq.mp hx with h | h
    ·obtain⟨q1,q2⟩:=kY x h;refine⟨q1,?_⟩;rw [c0]
     by_cases hk:key n x.2=key n (r,p)
     ·rw [BP hk];have:=oM hN (cg q1) (cg oR) hk;rw [this,oR] at q1;rw [Option.some.inj q1]
     ·rw [BL hk];exact q2
    ·rw [Ai.mp h];exact⟨oR,by rw [c0,BP rfl]⟩
  ·rintro σ' bB ⟨⟨v2,v3,rfl⟩,kvs,kb,fQ,oW,kY⟩;rw [Aa,l5,Ca,<- ql hi] at oW kY;exact⟨⟨_,_,_,rfl⟩,kvs,λb o h=>kb b o (bF h hD)<|s5 _ _<|sm _ _ h,fQ,oW,kY⟩
 ·rintro σ' H' ⟨_,kvs,sm,eD,Ol,xG⟩;rw [Aa,bQ,Ca] at xG;exact q D kvs H' sm hD eD λe z he=>(xG (z,e)<|aO.mpr he).2
theorem Om{κ:Type} [DecidableEq κ]:∀{kvs:List (κ×V)} {i:Nat} {p:κ×V},(kvs.map (·.1)).Nodup->kvs[i]?=some p->aC kvs p.1=some p.2
 | [],_,_,_,h=>by simp at h
 | q :: r,0,p,_,h=>by
  cases h;exact gP rfl
 | q :: r,i+1,p,hn,h=>by
  rw [Bd,Bq] at hn;have hm:r[i]?=some p:=by simpa using h
  rw [gg λe=>hn.1<|by rw [e];exact Am.mpr ⟨p,An hm,rfl⟩];exact Om hn.2 hm
theorem q7r{κ:Type}{l:List κ}(h:l.Nodup){i j:Nat}{a:κ}(hi:l[i]?=some a)(hj:l[j]?=some a):i=j:=by
 have h1:=(Ac.mp hi).1;have h2:=(Ac.mp hj).1;have e1:=(Ac.mp hi).2;have e2:=(Ac.mp hj).2
 rcases Ee i j with c | c | c
 ·exact absurd (e1.trans e2.symm)<|Az.mp h i j h1 h2 c
 ·exact c
 ·exact absurd (e2.trans e1.symm)<|Az.mp h j i h2 h1 c
def oX(c:Int):Sp:=λvs H Q _=>∃(R:Addr) (as:List<|Addr×Addr) (n:Net),vs=[.ref R]/\ah H R as n/\(n.map (·.1)).Nodup/\ay n/\n.length<=1000/\(ag n).length<=1000 /\
 ∀(d:Addr) (kvs:List<|List Key×V) (H':Hp),aj H H'->H d=none->H' d=some (.dT kvs)->(∀ e∈ends n,∃ u,aC kvs (key n e)=some (.ref u)/\H' u=some (TN n<|go c n e))->Q (.ref d) H'
abbrev ud:List Str:=["rows","lists"]
abbrev uf:List Str:=["rows","lists","end","other"]
theorem Oo:uf.Nodup:=by decide +kernel
theorem ug:al ud ["rows"] (aQ wB):=⟨rfl,rfl,rfl,by decide +kernel,rfl,by decide +kernel,by decide +kernel⟩
theorem q88{f:Addr}{fd:FuncData}(F:bH K "left_steps" "left_steps" wB f fd)(T:Txt mg)
  (GO:aV P w K mg base 2 "other_ends" ["rows"] oO)
  (GT:aV P w K mg base 2 "turned_left" ["end","many"]<|oK λj=>j+1) :
  aE P w K mg base bJ 3 f fd ["rows"] (oX<|1):=by
 refine F.gb ug (λvs H Q E h=>?_) λb0 H vs Q E hr h=>?_
 ·obtain⟨R,as,n,rfl,_⟩:=h;rfl
 obtain⟨R,as,n,rfl,hR,hN,hT,hn,ht,q⟩:=h;have nd:=ug.nd;have bQ:=hR.len;have hu:=hr.u1;show Run _ _ _ [some<|.ref R,none] H;have keys:=N5 n as bQ;have knd:((gA n as).map (·.1)).Nodup:=by rw [keys];exact k71 hN
 have EK:(gA n as).length=n.length:=by have:=BX List.length keys;simpa using this
 refine aX 1 nd (lW (Xp rfl) T.sP PyProof.Rows.boot_dict (ak (ae 0 (aq ⟨R,as.map (·.1),gA n as,rfl,?_,?_,?_,?_,λdl gn=>?_⟩))))
 ·rw [Ch];exact hR.lst
 ·rw [Aa,EK,bQ]
 ·rw [Aa];exact bU<|by omega
 ·intro j t kv h1 h2;rw [Ad,Ao] at h1;obtain⟨a,ea,rfl⟩:=h1;have hj:j < n.length:=by have:=(Ac.mp ea).1;omega
  have e:=N6 (Ab hj) ea;rw [h2] at e;cases e;exact(hR.tup j a n[j] ea<|Ab hj).1
 have ef:(gA n as).foldl (λa p=>putK a p.1 p.2) []=gA n as:=by
  rw [k8s (acc:=[]) (by rw [RP];exact knd),RP]
 rw [ef];have s1:=aP gn<|.dK<|gA n as;have el:(upd H dl<|.dK<|gA n as) dl=some (.dK<|gA n as):=aw;generalize upd H dl (.dK<|gA n as)=H1 at s1 el;show Run _ _ _ [some<|.ref R,some<|.ref dl] H1;refine bT<|Xz (aQ wB) ud uf 2 (XX bn) ?_;refine bK GO hr<|ak<|ae 0<|aq ⟨R,as,n,rfl,hR.same s1,hN,hT,hn,ht,λd kvs H2 s2 oj ed val uh kks Oq=>?_⟩;refine⟨d,kvs,rfl,ed,λo D hD cl C s₀ H₀ ex=>?_⟩;have nDd:D≠d:=λe=>by rw [e,aw] at hD;cases hD
 have jE:H2 D=none:=by rw [av nDd] at hD;exact hD
 have hd0:H d=none:=kR s1 oj;have sB:aj H (upd H2 d<|.cq o<|.dT kvs):=c8 (s1.trans s2) hd0;have kB:∀ b o',b≠d->H2 b=some o'->(upd H2 d<|.cq o<|.dT kvs) b=some o':=λb o' hb h=>by rw [av hb];exact h
 have tB:∀ b p j,H2 b=some (Tn p j)->(upd H2 d<|.cq o<|.dT kvs) b=some (Tn p j):=λb p j h=>kB b _ (oP h ed) h;have Ot:(upd H2 d<|.cq o<|.dT kvs) d=some (.cq o<|.dT kvs):=aw;have Ou:(upd H2 d<|.cq o<|.dT kvs) dl=some (.dK<|gA n as):=kB _ _ (λe=>by rw [e,oj] at el;cases el)<|s2 _ _ el;have hRB:=hR.same sB;generalize upd H2 d (.cq o<|.dT kvs)=HB at hD sB tB Ot Ou hRB;have EL:=kR sB hD;refine XZ (λi σ' H'=>(∃ v1 v2,σ'=[some<|.ref R,some<|.ref dl]++[v1,v2])/\∃ oY:List<|List Key×V,H' D=some (.dT oY)/\oY.length<=i/\aj HB H' /\
  (∀ j k x e,j < i->kvs[j]?=some (k,x)->e∈ends n->k=key n e->∃ u,aC oY (key n e)=some (.ref u)/\H' u=some (TN n<|go (1) n e)))
  ⟨⟨none,none,rfl⟩,[],aw,Al _,aP hD _,λj k x e h=>absurd h<|Eh _⟩ ?_ ?_ ?_
 ·rintro i σ' H' _ ⟨_,_,_,_,sm,_⟩;exact sm _ _ Ot
 ·rintro i k x b Tt σ' H' hx ⟨⟨v1,v2,rfl⟩,oY,eD,l2,sm,all⟩ hb iB;have hi:i < kvs.length:=(Ac.mp hx).1;obtain⟨e,he,rfl⟩:=kks k<|Am.mpr ⟨_,An hx,rfl⟩;obtain⟨u,hv,CB⟩:=val e he;have uk:aC kvs (key n e)=some x:=Om uh hx;rw [hv] at uk;cases uk;have Ov:=dM hT he;obtain⟨zo,Ow⟩:=af.mp Ov;have iT:=cg Ow;have xl:=eN Ow;have nmE:nameAt n (other n e).1=n[(other n e).1].1:=mJ iT;have sT:=aP iB<|.tup [.ref b,.ref u];have Ox:=sT _ _<|sm _ _<|tB _ _ _ CB;refine jm rfl (aJ.of aw) (bb 2 Oo<|bb 3 Oo ?_);refine dh ?_;rw [BP rfl];have Oy:as[(other n e).1]?=some (as[(other n e).1]'(by omega)):=Ab (by omega);have ul:n[(other n e).1]?=some n[(other n e).1]:=Ab iT;have ev:aC (gA n as) (Sum.inr<|nameAt n (other n e).1)=some (.ref (as[(other n e).1]'(by omega)).2):=by rw [nmE];exact N4 knd<|N6 ul Oy
  have kZ:=(hR.tup _ _ _ Oy ul).2;have uo:row n (other n e).1=n[(other n e).1].2:=kF iT;refine Mx hu<|ae 2<|bK GT hr<|ak<|ae 3<|ak<|bL cm T.len CP<|ak<|kD hu<|ae 1<|aS bW<|ae 3<|aB ⟨u,_,_,.str<|nameAt n (other n e).1,rfl,rfl,aJ.of Ox,rfl,?_⟩;refine⟨dl,.ref (as[(other n e).1]'(by omega)).2,rfl,by rw [<- ev];exact bh.k (k:=Sum.inr<|nameAt n (other n e).1)<|sT _ _<|sm _ _ Ou,aq ⟨_,_,rfl,.inl<|ai.of<|sT _ _<|sm _ _<|sB _ _ kZ,aq ⟨u,_,_,_,rfl,Ox,?_,λt2 H4 s4 xm=>?_⟩⟩⟩
  ·rw [Aa,<- uo];omega
  rw [Aa,<- uo] at xm;have xH:H4 t2=some (TN n<|go (1) n e):=by
   rw [xm];have:=CH (c:=1) Ov;show some (Tn _ _)=some (Tn _ (((go (1) n e).2:Nat):Int));unfold go;rw [this];rfl
  have tW:=s4 _ _<|sT _ _ hb;refine⟨_,b6.t (k:=key n e) (s4 _ _<|sT _ _ eD) tW (bU<|by omega),⟨_,_,rfl⟩,_,aw,?_,c8 ((sm.trans sT).trans s4) hD,λj k' x' e' hj km Oz rV=>?_⟩
  ·have:=ig oY (key n e)<|.ref t2;omega
  ·subst rV
   by_cases xv:j=i
   ·subst xv;rw [hx] at km;have hke:key n e=key n e':=BX Prod.fst<|Option.some.inj km;obtain⟨z1,oa⟩:=af.mp he;obtain⟨z2,wQ⟩:=af.mp Oz;have:=oM hN (cg oa) (cg wQ) hke;subst this;exact⟨t2,by rw [c0,BP rfl],by rw [av<|oP xH<|s4 _ _<|sT _ _ eD];exact xH⟩
   ·obtain⟨u3,hu3,hu4⟩:=all j _ x' e' (by omega) km Oz rfl;refine⟨u3,?_,?_⟩
    ·rw [c0,BL,hu3];intro hk;have h1:(kvs.map (·.1))[j]?=some (key n e'):=by rw [Ad,km];rfl
     have h2:(kvs.map (·.1))[i]?=some (key n e'):=by rw [Ad,hx,hk];rfl
     exact xv<|q7r uh h1 h2
    ·have q4:=s4 _ _<|sT _ _ hu4;rw [av<|oP q4<|s4 _ _<|sT _ _ eD];exact q4
 ·rintro σ' H' ⟨_,oY,eD,_,sm,all⟩;refine q D oY H' (sB.trans sm) EL eD λe he=>?_;obtain⟨u,hv,_⟩:=val e he;obtain⟨i,hi⟩:∃ i:Nat,(kvs.map (·.1))[i]?=some (key n e):=Bb<|J9 hv;rw [Ad,Ao] at hi;obtain⟨⟨k,x⟩,hx,hk⟩:=hi;exact all i k x e (Ac.mp hx).1 hx he hk
end
end F3
namespace mK
open PySem PySem.W PyProof.Rows
section
variable{lt:Nat->Nat->Bool}{cmp:Nat->Nat->(Bool->Shared->Prop)->Shared->Prop}{J:Shared->Prop}{n:Nat}
structure du(lt:Nat->Nat->Bool)(cmp:Nat->Nat->(Bool->Shared->Prop)->Shared->Prop)(J:Shared->Prop)(n:Nat):Prop where
 ask:∀(i j:Nat) (C:Bool->Shared->Prop) (s:Shared),i < n->j < n->i≠j->J s->(∀ s',J s'->C (lt i j) s')->cmp i j C s
 tot:∀ i j,i < n->j < n->i≠j->lt i j=true\/lt j i=true
 asy:∀ i j,lt i j=true->lt j i=false
 xI:∀ i j k,lt i j=true->lt j k=true->lt i k=true
def g(p:Array Nat)(i:Nat):Nat:=p.getD i 0
structure Pm(p:Array Nat)(n:Nat):Prop where
 size:p.size=n
 lt:∀ i,i < n->g p i < n
 inj:∀ i j,i < n->j < n->g p i=g p j->i=j
theorem iC{p:Array Nat}{i:Nat}{v:Nat}(h:p[i]?=some v):g p i=v:=by
 unfold g;rw [Cv,h];rfl
theorem jF{p q:Array Nat}{i j:Nat}(h:p[i]?=q[j]?):g p i=g q j:=by
 unfold g;rw [Cv,Cv,h]
theorem OA(n:Nat):Pm (List.toArray<|List.range n) n:=by
 have e:∀ i,i < n->g (List.toArray<|List.range n) i=i:=λi hi=>iC (by simp [hi]);exact⟨by simp,λi hi=>by rw [e i hi];exact hi,λi j hi hj h=>by rw [e i hi,e j hj] at h;exact h⟩
def Up(lt:Nat->Nat->Bool)(p:Array Nat)(m:Nat):Prop:=∀ i j,i < j->j < m->lt (g p i) (g p j)=true
def Dn(lt:Nat->Nat->Bool)(p:Array Nat)(m:Nat):Prop:=∀ i j,i < j->j < m->lt (g p j) (g p i)=true
theorem q5r(p:Array Nat):Up lt p 1:=λi j h1 h2=>by omega
theorem q4g(A:du lt cmp J n){p:Array Nat}{m:Nat}(h1:1<=m)(h:Up lt p m)(hm:lt (g p<|m - 1) (g p m)=true):Up lt p (m+1):=λi j hi hj=>by
 by_cases c:j < m
 ·exact h i j hi c
 ·have:j=m:=by omega
  subst this
  by_cases d:i=j - 1
  ·rw [d];exact hm
  ·exact A.xI _ _ _ (h i (j - 1) (by omega)<|by omega) hm
theorem q16(A:du lt cmp J n){p:Array Nat}{m:Nat}(h1:1<=m)(h:Dn lt p m)(hm:lt (g p m) (g p<|m - 1)=true):Dn lt p (m+1):=λi j hi hj=>by
 by_cases c:j < m
 ·exact h i j hi c
 ·have:j=m:=by omega
  subst this
  by_cases d:i=j - 1
  ·rw [d];exact hm
  ·exact A.xI _ _ _ hm<|h i (j - 1) (by omega)<|by omega
theorem ER(A:du lt cmp J n){i j:Nat}(hi:i < n)(hj:j < n)(bj:i≠j)(h:lt i j=false):lt j i=true:=by
 rcases A.tot i j hi hj bj with q | q
 ·rw [h] at q;cases q
 ·exact q
theorem EV(A:du lt cmp J n){p:Array Nat}(P:Pm p n):∀(f m:Nat) (Q:Nat->Shared->Prop) (s:Shared),1<=m->m+f<=n->Up lt p m->J s ->
  (∀ k s',J s'->m<=k->k<=m+f->Up lt p k->(k < m+f->lt (g p k) (g p<|k - 1)=true)->Q k s')->(kas_asc p f m).kasWp cmp Q s
 | 0,m,Q,s,h1,h2,hu,hJ,k=>k m s hJ (Al _) (Al _) hu λh=>by omega
 | f+1,m,Q,s,h1,h2,hu,hJ,k=>by
  have bj:g p m≠g p (m - 1):=λh=>by have:=P.inj m (m - 1) (by omega) (by omega) h;omega
  refine A.ask _ _ _ _ (P.lt m<|by omega) (P.lt (m - 1)<|by omega) bj hJ λs' fS=>?_;cases e:lt (p.getD m 0) (p.getD (m - 1) 0) with
  | true=>exact k m s' fS (Al _) (by omega) hu λ_=>e
  | false=>
   have oZ:Up lt p (m+1):=q4g A h1 hu (ER A (P.lt m<|by omega) (P.lt (m - 1)<|by omega) bj e);exact EV A P f (m+1) Q s' (by omega) (by omega) oZ fS λk' s2 j2 a b c d=>k k' s2 j2 (by omega) (by omega) c λh=>d<|by omega
theorem OB(A:du lt cmp J n){p:Array Nat}(P:Pm p n):∀(f m:Nat) (Q:Array Nat×Nat×Nat->Shared->Prop) (s:Shared),1<=m->m+f<=n->Dn lt p m->J s ->
  (∀ k s',J s'->m<=k->k<=m+f->Dn lt p k->Q (p,k,0) s')->(kas_desc f p m 0).kasWp cmp Q s
 | 0,m,Q,s,h1,h2,hd,hJ,k=>k m s hJ (Al _) (Al _) hd
 | f+1,m,Q,s,h1,h2,hd,hJ,k=>by
  have bj:g p m≠g p (m - 1):=λh=>by have:=P.inj m (m - 1) (by omega) (by omega) h;omega
  refine A.ask _ _ _ _ (P.lt m<|by omega) (P.lt (m - 1)<|by omega) bj hJ λs' fS=>?_;cases e:lt (p.getD m 0) (p.getD (m - 1) 0) with
  | true=>
   show(if true=true then(if 0 > 0 then _ else kas_desc f p (m+1) 0) else _:KasT _).kasWp cmp Q s';rw [BP rfl,BL<|by omega];exact OB A P f (m+1) Q s' (by omega) (by omega) (q16 A h1 hd e) fS λk' s2 j2 a b c=>k k' s2 j2 (by omega) (by omega) c
  | false=>
   refine A.ask _ _ _ _ (P.lt (m - 1)<|by omega) (P.lt m<|by omega) (CG bj) fS λs2 uq=>?_;have e2:lt (p.getD (m - 1) 0) (p.getD m 0)=true:=ER A (P.lt m<|by omega) (P.lt (m - 1)<|by omega) bj e;rw [e2];exact k m s2 uq (Al _) (by omega) hd
theorem ur{p:Array Nat}{m k:Nat}(h:m<=p.size):g (kas_rev p 0 m) k=if k < m then g p (m - 1 - k) else g p k:=by
 have e:=getElem?_mirror_all (xs:=p) (i:=0) (j:=m) h k
 by_cases c:k < m
 ·rw [BP c];rw [BP ⟨Bu _,c⟩] at e;refine jF<|e.trans ?_
  congr 1
  omega
 ·rw [BL c];rw [BL λq=>c q.2] at e;exact jF e
theorem OC{p:Array Nat}{m:Nat}(P:Pm p n)(h:m<=n):Pm (kas_rev p 0 m) n:=by
 have hs:m<=p.size:=by rw [P.size];exact h
 refine⟨by rw [kas_rev_size];exact P.size,λi hi=>?_,λi j hi hj q=>?_⟩
 ·rw [ur hs]
  split
  ·exact P.lt _<|by omega
  ·exact P.lt _ hi
 ·rw [ur hs,ur hs] at q
  by_cases c:i < m <;> by_cases d:j < m
  ·rw [BP c,BP d] at q;have:=P.inj _ _ (by omega) (by omega) q;omega
  ·rw [BP c,BL d] at q;have:=P.inj _ _ (by omega) hj q;omega
  ·rw [BL c,BP d] at q;have:=P.inj _ _ hi (by omega) q;omega
  ·rw [BL c,BL d] at q;exact P.inj _ _ hi hj q
theorem q5p{p:Array Nat}{m:Nat}(P:Pm p n)(h:m<=n)(hd:Dn lt p m):Up lt (kas_rev p 0 m) m:=λi j hi hj=>by
 have hs:m<=p.size:=by rw [P.size];exact h
 rw [ur hs,ur hs,BP (by omega),BP hj];exact hd (m - 1 - j) (m - 1 - i) (by omega)<|by omega
theorem k9f(A:du lt cmp J n){p:Array Nat}(P:Pm p n){m:Nat}{Q:Nat×Array Nat->Shared->Prop}{s:Shared}(h1:1<=m)(h2:m<=n)(hd:Dn lt p m)(hJ:J s)
  (k:∀ r q s',J s'->1<=r->r<=n->Pm q n->Up lt q r->Q (r,q) s'):(kas_tail3 m n p).kasWp cmp Q s:=by
 unfold kas_tail3;rw [JM];exact EV A (OC P h2) (n - m) m _ s h1 (by omega) (q5p P h2 hd) hJ λr s' j a b c _=>k r _ s' j (by omega) (by omega) (OC P h2) c
theorem k9g(A:du lt cmp J n){p:Array Nat}(P:Pm p n){Q:Nat×Array Nat->Shared->Prop}{s:Shared}(h2:2<=n)(hJ:J s)
  (k:∀ r q s',J s'->1<=r->r<=n->Pm q n->Up lt q r->Q (r,q) s'):(kas_count n p).kasWp cmp Q s:=by
 unfold kas_count;rw [JM];refine EV A P (n - 1) 1 _ s (Al _) (by omega) (q5r p) hJ λm s' fS m1 m2 hu ut=>?_
 by_cases c:m=n
 ·subst c;rw [BP<|by simp];exact k m p s' fS m1 (Al _) P hu
 ·rw [BL<|by simpa using c]
  by_cases d:m > 1
  ·rw [BP d];have bj:g p 0≠g p (m - 1):=λh=>by have:=P.inj 0 (m - 1) (by omega) (by omega) h;omega
   refine A.ask _ _ _ _ (P.lt 0<|by omega) (P.lt (m - 1)<|by omega) bj fS λs2 uq=>?_;have e:lt (p.getD 0 0) (p.getD (m - 1) 0)=true:=hu 0 (m - 1) (by omega) (by omega);rw [e];exact k m p s2 uq m1 (by omega) P hu
  ·rw [BL d];have em:m=1:=by omega
   subst em;unfold kas_descPart;rw [JM];have hl:=ut (by omega);have hd2:Dn lt p 2:=λi j hi hj=>by
    have:i=0/\j=1:=by omega
    rw [this.1,this.2];exact hl
   refine OB A P (n - (1+1)) (1+1) _ s' (by omega) (by omega) hd2 fS λr s2 uq r1 r2 hd=>?_;show(if(0:Nat) > 0 then _ else kas_tail3 r n p:KasT _).kasWp cmp Q s2;rw [BL<|by omega];exact k9f A P (by omega) (by omega) hd uq k
theorem EW(A:du lt cmp J n){p:Array Nat}(P:Pm p n){k:Nat}(hk:k < n)(hu:Up lt p k):∀(f l r:Nat) (Q:Nat->Shared->Prop) (s:Shared),r<=k->l<=r->r - l<=f->J s->(∀ i,i < l->lt (g p i) (g p k)=true)->(∀ i,r<=i->i < k->lt (g p k) (g p i)=true) ->
  (∀ m s',J s'->m<=k->(∀ i,i < m->lt (g p i) (g p k)=true)->(∀ i,m<=i->i < k->lt (g p k) (g p i)=true)->Q m s')->(kas_place p k f l r).kasWp cmp Q s
 | 0,l,r,Q,s,h1,h2,h3,hJ,ha,hb,q=>q l s hJ (by omega) ha λi hi=>hb i<|by omega
 | f+1,l,r,Q,s,h1,h2,h3,hJ,ha,hb,q=>by
  unfold kas_place
  by_cases c:l>=r
  ·rw [BP c];exact q l s hJ (by omega) ha λi hi=>hb i<|by omega
  ·rw [BL c];have hmk:(l+r) / 2 < k:=by omega
   have bj:g p k≠g p ((l+r) / 2):=λh=>by have:=P.inj k _ hk (by omega) h;omega
   refine A.ask _ _ _ _ (P.lt k hk) (P.lt _<|by omega) bj hJ λs' fS=>?_;cases e:lt (p.getD k 0) (p.getD ((l+r) / 2) 0) with
   | true=>
    show(kas_place p k f l<|(l+r) / 2).kasWp cmp Q s';refine EW A P hk hu f l ((l+r) / 2) Q s' (by omega) (by omega) (by omega) fS ha (λi hi xJ=>?_) q
    by_cases d:i=(l+r) / 2
    ·rw [d];exact e
    ·exact A.xI _ _ _ e<|hu _ _ (by omega) xJ
   | false=>
    show(kas_place p k f ((l+r) / 2+1) r).kasWp cmp Q s';have e2:=ER A (P.lt k hk) (P.lt _<|by omega) bj e;refine EW A P hk hu f ((l+r) / 2+1) r Q s' h1 (by omega) (by omega) fS (λi hi=>?_) hb q
    by_cases d:i=(l+r) / 2
    ·rw [d];exact e2
    ·exact A.xI _ _ _ (hu _ _ (by omega) hmk) e2
theorem uv{p:Array Nat}{k m i:Nat}(hk:k < p.size)(hm:m<=k):g (bubble p k<|k - m) i=if i=m then g p k else if m < i/\i<=k then g p (i - 1) else g p i:=by
 have e:=getElem?_bubble (xs:=p) hk (k - m) (by omega) i;rw [show k - (k - m)=m by omega] at e
 by_cases c:i=m
 ·rw [BP c];rw [BP c] at e;exact jF e
 ·rw [BL c];rw [BL c] at e
  by_cases d:m < i/\i<=k
  ·rw [BP d];rw [BP d] at e;exact jF e
  ·rw [BL d];rw [BL d] at e;exact jF e
theorem q7o{p:Array Nat}{k m:Nat}(P:Pm p n)(hk:k < n)(hm:m<=k):Pm (bubble p k<|k - m) n:=by
 have hs:k < p.size:=by rw [P.size];exact hk
 refine⟨by rw [bubble_size];exact P.size,λi hi=>?_,λi j hi hj q=>?_⟩
 ·rw [uv hs hm]
  split
  ·exact P.lt k hk
  ·split
   ·exact P.lt _<|by omega
   ·exact P.lt _ hi
 ·rw [uv hs hm,uv hs hm] at q;have src:∀ a,a < n->∃ b,b < n/\(if a=m then g p k else if m < a/\a<=k then g p (a - 1) else g p a)=g p b/\((a=m/\b=k)\/(a≠m/\(m < a/\a<=k)/\b=a - 1)\/(a≠m/\¬(m < a/\a<=k)/\b=a)):=λa ha=>by
   by_cases c:a=m
   ·exact⟨k,hk,by rw [BP c],.inl ⟨c,rfl⟩⟩
   ·by_cases d:m < a/\a<=k
    ·exact⟨a - 1,by omega,by rw [BL c,BP d],.inr<|.inl ⟨c,d,rfl⟩⟩
    ·exact⟨a,ha,by rw [BL c,BL d],.inr<|.inr ⟨c,d,rfl⟩⟩
  obtain⟨x,x1,x2,x3⟩:=src i hi;obtain⟨y,y1,y2,y3⟩:=src j hj;rw [x2,y2] at q;have e:=P.inj x y x1 y1 q;subst e
  rcases x3 with ⟨a1,a2⟩ | ⟨a1,a2,a3⟩ | ⟨a1,a2,a3⟩
  ·rcases y3 with ⟨b1,b2⟩ | ⟨b1,b2,b3⟩ | ⟨b1,b2,b3⟩
   ·exact a1.trans b1.symm
   ·exact absurd (a2.symm.trans b3)<|Cy<|Bf (Nat.sub_lt (Ga b2.1) Gp) b2.2
   ·exact absurd ⟨Fv (by rw [<- b3,a2];exact hm)<|CG b1,by rw [<- b3,a2];exact Al _⟩ b2
  ·rcases y3 with ⟨b1,b2⟩ | ⟨b1,b2,b3⟩ | ⟨b1,b2,b3⟩
   ·exact absurd (b2.symm.trans a3)<|Cy<|Bf (Nat.sub_lt (Ga a2.1) Gp) a2.2
   ·exact Nat.sub_one_cancel (Ga a2.1) (Ga b2.1)<|a3.symm.trans b3
   ·exact absurd ⟨Fv (by rw [<- b3,a3];exact Nat.le_sub_one_of_lt a2.1)<|CG b1,by rw [<- b3,a3];exact Cg (Nat.sub_le _ _) a2.2⟩ b2
  ·rcases y3 with ⟨b1,b2⟩ | ⟨b1,b2,b3⟩ | ⟨b1,b2,b3⟩
   ·exact absurd ⟨Fv (by rw [<- a3,b2];exact hm)<|CG a1,by rw [<- a3,b2];exact Al _⟩ a2
   ·exact absurd ⟨Fv (by rw [<- a3,b3];exact Nat.le_sub_one_of_lt b2.1)<|CG a1,by rw [<- a3,b3];exact Cg (Nat.sub_le _ _) b2.2⟩ a2
   ·exact a3.symm.trans b3
theorem q63{p:Array Nat}{k m:Nat}(P:Pm p n)(hk:k < n)(hm:m<=k)(hu:Up lt p k)(ha:∀ i,i < m->lt (g p i) (g p k)=true)(hb:∀ i,m<=i->i < k->lt (g p k) (g p i)=true):Up lt (bubble p k<|k - m) (k+1):=λi j hi hj=>by
 have hs:k < p.size:=by rw [P.size];exact hk
 rw [uv hs hm,uv hs hm]
 by_cases c:i=m
 ·rw [BP c,BL (by omega),BP<|by omega];exact hb _ (by omega)<|by omega
 ·rw [BL c]
  by_cases d:j=m
  ·rw [BP d,BL<|by omega];exact ha i<|by omega
  ·rw [BL d]
   by_cases e:m < i/\i<=k
   ·rw [BP e,BP<|by omega];exact hu _ _ (by omega)<|by omega
   ·rw [BL e]
    by_cases f:m < j/\j<=k
    ·rw [BP f];exact hu _ _ (by omega)<|by omega
    ·rw [BL f];exact hu _ _ hi<|by omega
theorem OG(A:du lt cmp J n):∀(f:Nat) (p:Array Nat) (k:Nat) (Q:Array Nat->Shared->Prop) (s:Shared),Pm p n->1<=k->k+f=n->Up lt p k->J s->(∀ q s',J s'->Pm q n->Up lt q n->Q q s')->(kas_bin f p k).kasWp cmp Q s
 | 0,p,k,Q,s,P,h1,h2,hu,hJ,q=>by
  have:k=n:=by omega
  subst this;exact q p s hJ P hu
 | f+1,p,k,Q,s,P,h1,h2,hu,hJ,q=>by
  unfold kas_bin;rw [JM];refine EW A P (by omega) hu k 0 k _ s (Al _) (Bu _) (by omega) hJ (λi hi=>by omega) (λi hi xJ=>by omega) λm s' fS hm ha hb=>?_;exact OG A f _ (k+1) Q s' (q7o P (by omega) hm) (by omega) (by omega) (q63 P (by omega) hm hu ha hb) fS q
theorem q4d(A:du lt cmp J n){Q:Array Nat->Shared->Prop}{s:Shared}(h2:2<=n)(hJ:J s)(q:∀ p s',J s'->Pm p n->Up lt p n->Q p s'):(kas_sort n).kasWp cmp Q s:=by
 unfold kas_sort;rw [JM];refine k9g A (OA n) h2 hJ λr p s' fS r1 r2 P hu=>?_;show(if r < n then kas_bin (n - max r 1) p (max r 1) else .ret p:KasT _).kasWp cmp Q s';have em:max r 1=r:=by omega
 rw [em]
 by_cases c:r < n
 ·rw [BP c];exact OG A (n - r) p r Q s' P r1 (by omega) hu fS q
 ·rw [BL c];have:r=n:=by omega
  subst this;exact q p s' fS P hu
end
theorem OH{p:Array Nat}{n:Nat}(P:Pm p n):p.toList.Nodup:=by
 rw [Cc,Az];intro i j hi hj gu e;have i8:i < n:=by rw [Cd,P.size] at hi;exact hi
 have CU:j < n:=by rw [Cd,P.size] at hj;exact hj
 have e1:g p i=p.toList[i]:=iC (by rw [<- Bh];exact Ab hi);have e2:g p j=p.toList[j]:=iC (by rw [<- Bh];exact Ab hj);have:=P.inj i j i8 CU (by rw [e1,e2,e]);omega
theorem EX{p:Array Nat}{n v:Nat}(P:Pm p n)(h:v∈p.toList):v < n:=by
 obtain⟨i,hi⟩:=Bb h;have hl:i < n:=by have:=(Ac.mp hi).1;rw [Cd,P.size] at this;exact this
 have e1:g p i=v:=iC (by rw [<- Bh];exact hi);rw [<- e1];exact P.lt i hl
theorem q46{p:Array Nat}{n:Nat}(P:Pm p n):p.toList.Perm (List.range n):=by
 rw [QG (OH P) Fk];intro v;rw [Bg];refine⟨λh=>EX P h,λh=>CK λhn=>?_⟩;have l1:p.toList.length<=((List.range n).erase v).length:=Nt.aK (OH P) λz hz=>by
  have bj:z≠v:=λe=>hn<|e ▸ hz;exact(Em bj).mpr<|Bg.mpr<|EX P hz
 rw [Er<|Bg.mpr h,Cd,P.size,Db] at l1;omega
def Hd(h:Heap)(v:Value)(z:Str):Prop:=∃ a o xs n t,v = .ref a/\h.get? a=some o/\o.cls = .type "tuple"/\o.data = .seq xs n/\xs[0]?=some (.str z t)
theorem Hd.keep{h h':Heap}{v:Value}{z:Str}(x:Hd h v z)(k:∀ a o,v = .ref a->h.get? a=some o->h'.get? a=some o):Hd h' v z:=by
 obtain⟨a,o,xs,n,t,e,h1,h2⟩:=x;exact⟨a,o,xs,n,t,e,k a o e h1,h2⟩
def o6(h:Heap)(vs:List Value)(zs:List Str):Prop:=vs.length=zs.length/\∀(i:Nat) v z,vs[i]?=some v->zs[i]?=some z->Hd h v z
def ltZ(zs:List Str)(i j:Nat):Bool:=decide ((zs.getD i ⟨#[]⟩).cps.toList < (zs.getD j ⟨#[]⟩).cps.toList)
section
variable{prog:Program}{w:World}{A:Around}{E:Value->Shared->Prop}{s:Shared}
theorem OI:∀{h:Heap} {vs:List Value} {zs:List Str},o6 h vs zs->∃ fs,KatTups h vs fs/\fs.length=vs.length/\∀ f∈fs,∃ z t,f=Value.str z t
 | h,[],_,_=>⟨[],KatTups.nil,rfl,λf hf=>by cases hf⟩
 | h,v :: vs,[],hh=>by have:=hh.1;simp at this
 | h,v :: vs,z :: zs,hh=>by
  obtain⟨fs,k1,k2,k3⟩:=OI (h:=h) (vs:=vs) (zs:=zs) ⟨by have:=hh.1;simpa using this,λi a b h1 h2=>hh.2 (i+1) a b (by simpa using h1)<|by simpa using h2⟩;obtain⟨a,o,xs,n,t,rfl,h1,h2,h3,h4⟩:=hh.2 0 v z rfl rfl;refine⟨.str z t :: fs,KatTups.cons h1 h2 h3 h4 k1,by rw [At,At,k2],λf hf=>?_⟩
  rcases Aj.mp hf with rfl | hf
  ·exact⟨z,t,rfl⟩
  ·exact k3 f hf
theorem q6d{x y:Value}{z u:Str}{Q:Bool->Shared->Prop}(hx:Hd s.heap x z)(hy:Hd s.heap y u)(bj:z≠u)(h:Q (decide (z.cps.toList < u.cps.toList)) s):wpAny (model prog w) A (keyLt' (tuples' true) x y) Q E s:=by
 obtain⟨a,o,xs,n,t,rfl,h1,h2,h3,h4⟩:=hx;obtain⟨b,o',ys,n',t',rfl,g1,g2,g3,g4⟩:=hy;refine kat_lt h1 h3 g1 g3 ?_;have ex:∃ r,xs.toList = .str z t :: r:=by
  have:xs.toList[0]?=some (.str z t):=by rw [Bh];exact h4
  cases e:xs.toList with
  | nil=>rw [e] at this;cases this
  | cons c r=>rw [e] at this;cases this;exact⟨r,rfl⟩
 have ey:∃ r,ys.toList = .str u t' :: r:=by
  have:ys.toList[0]?=some (.str u t'):=by rw [Bh];exact g4
  cases e:ys.toList with
  | nil=>rw [e] at this;cases this
  | cons c r=>rw [e] at this;cases this;exact⟨r,rfl⟩
 obtain⟨rx,ex⟩:=ex;obtain⟨ry,ey⟩:=ey;rw [ex,ey];show KatLex prog w A true _ Q ((.str z t,.str u t') :: rx.zip ry) 0 s;refine kat_cons<|eqBool_str ?_;have:(z == u)=false:=beq_eq_false_iff_ne.mpr bj;rw [this];exact kat_no<|oneLt_str h
theorem q4l{a b:Str}(h:a.cps.toList=b.cps.toList):a=b:=by
 apply Str.ext';exact Array.toList_inj.mp h
theorem k9d{vs:List Value}{zs:List Str}(hh:o6 s.heap vs zs)(hn:zs.Nodup):du (ltZ zs) (kas_ask prog w A (tuples' true) vs) (λs'=>s'=s) vs.length:=by
 have hl:=hh.1;have gz:∀ i,(hi:i < zs.length)->zs.getD i ⟨#[]⟩=zs[i]:=λi hi=>by simp [hi]
 have gv:∀ i,(hi:i < vs.length)->vs.getD i Value.none=vs[i]:=λi hi=>by simp [hi]
 have ne:∀ i j,(hi:i < zs.length)->(hj:j < zs.length)->i≠j->zs[i]≠zs[j]:=λi j hi hj gu e=>by
  rcases Nat.lt_or_gt_of_ne gu with c | c
  ·exact Az.mp (Cc.mp hn) i j hi hj c e
  ·exact Az.mp (Cc.mp hn) j i hj hi c e.symm
 refine⟨λi j C s' hi hj gu hs hC=>?_,λi j hi hj gu=>?_,λi j h=>?_,λi j k h1 h2=>?_⟩
 ·subst hs;unfold kas_ask;rw [gv i hi,gv j hj];have e:ltZ zs i j=decide (zs[i].cps.toList < zs[j].cps.toList):=by unfold ltZ;rw [gz i (by omega),gz j<|by omega]
  refine q6d (hh.2 i _ zs[i] (Ab hi)<|Ab<|by omega) (hh.2 j _ zs[j] (Ab hj)<|Ab<|by omega) (ne i j (by omega) (by omega) gu) ?_;rw [<- e];exact hC s' rfl
 ·unfold ltZ;rw [gz i (by omega),gz j (by omega),FT,FT]
  by_cases c:zs[i].cps.toList < zs[j].cps.toList
  ·exact .inl c
  ·by_cases d:zs[j].cps.toList < zs[i].cps.toList
   ·exact .inr d
   ·have:zs[i].cps.toList=zs[j].cps.toList:=List.le_antisymm (List.not_lt.mp d)<|List.not_lt.mp c;exact absurd (q4l this)<|ne i j (by omega) (by omega) gu
 ·unfold ltZ at h ⊢;have:=BZ h;exact BR λq=>Fz _<|Ge this q
 ·unfold ltZ at h1 h2 ⊢;exact BW<|Ge (BZ h1)<|BZ h2
theorem map_range(vs:List Value):(List.range vs.length).map (λi=>vs.getD i Value.none)=vs:=by
 apply QW
 ·simp
 ·intro i h1 h2;simp [h2]
theorem q01{a:Addr}{vs:List Value}{zs:List Str}{n:Nat}{P:Fin->Shared->Prop}(ho:s.heap.get? a=some (seqObj "list" vs.toArray n))(bQ:∀ v∈vs,v ≠ .ref a)(hh:o6 s.heap vs zs)(hn:zs.Nodup)(nL:vs.length < 64)
  (h:∀ p:Array Nat,Pm p vs.length->Up (ltZ zs) p vs.length->P (.done<|.ret .none) {s with heap:=sortedHeap s.heap a vs (List.toArray<|p.toList.map λi=>vs.getD i Value.none)}) :
  wpAny (model prog w) A (Builtin.«list.sort» ⟨[.ref a],[]⟩) P E s:=by
 rw [list_sort_plain];have ha:a < s.heap.objs.size:=As ho;have EZ:vs.length<=sizeLine:=by rw [DQ];omega
 refine BJ<|MP ho rfl ?_;refine BJ<|KY ho rfl ?_;obtain⟨e1,kz⟩:∃ e1,(s.heap.update a<|Obj.mapSeq λ_=>#[]).get? a=some (seqObj "list" #[] e1):=⟨_,get?_update_seq ho λ_=>#[]⟩;refine BJ<|PK kz rfl ?_;refine BJ<|PJ ?_;refine BJ<|JH ?_;refine CJ ?_;have nN:(((s.heap.update a<|Obj.mapSeq λ_=>#[]).push<|seqObj "tuple" vs.toArray 0).push<|seqObj "list" #[] 0).get? a=some (seqObj "list" #[] e1):=Af _<|Af _ kz;show wpAny (model prog w) A _ P E {s with heap:=((s.heap.update a<|Obj.mapSeq λ_=>#[]).push<|seqObj "tuple" vs.toArray 0).push (seqObj "list" #[] 0)};have OL:o6 (((s.heap.update a<|Obj.mapSeq λ_=>#[]).push<|seqObj "tuple" vs.toArray 0).push<|seqObj "list" #[] 0) vs zs:=⟨hh.1,λi v z h1 h2=>(hh.2 i v z h1 h2).keep λb o e q=>by
  have hb:a≠b:=λe2=>bQ v (An h1) (by rw [e,e2]);exact Af _<|Af _<|(Cm _ _ hb).trans q⟩
 dsimp only
 have hsz:vs.toArray.size=vs.length:=by simp
 by_cases h2:vs.toArray.size < 2
 ·rw [BP h2,BP h2];refine BJ<|BK ?_;rw [StateT.run_pure];refine BJ<|BK ?_
  dsimp only
  have e5:(arrOf<|SortSt.mk' general' (vs.toArray.zip vs.toArray) #[] 7 none).map (·.2)=vs.toArray:=by
   show(vs.toArray.zip vs.toArray).map (·.2)=_;apply Array.toList_inj.mp;simp [List.map_snd_zip]
  refine BJ<|PK nN rfl ?_;refine BJ (KY nN rfl ?_ (hsz2:=by rw [e5,hsz];omega));simp only [KD,Ax,CN];refine BK ?_;rw [e5];have fin:=h (List.toArray<|List.range vs.length) (OA _) λi j hi hj=>by rw [hsz] at h2;omega
  have e6:(List.toArray<|List.range vs.length).toList.map (λi=>vs.getD i Value.none)=vs:=map_range vs;rw [e6] at fin;exact fin
 ·rw [BL h2,BL h2];obtain⟨fs,k1,k2,k3⟩:=OI OL;rw [hsz] at h2;refine BJ<|kat_kind (T:= .type "str") k1 (by omega) (λf hf=>?_) (by decide) ?_
  ·obtain⟨z,t,rfl⟩:=k3 f hf;exact Looks.of_pure rfl
  refine BJ<|CT (kat_run (prog:=prog) (w:=w) (A:=A) (E:=E) (κ:=tuples' true) (ks:=vs) (vs:=vs) (Q:=λcw s'=>s'={s with heap:=((s.heap.update a<|Obj.mapSeq λ_=>#[]).push<|seqObj "tuple" vs.toArray 0).push (seqObj "list" #[] 0)}/\∃ p:Array Nat,Pm p vs.length/\Up (ltZ zs) p vs.length/\arrOf cw=p.map (kas_item<|vs.toArray.zip vs.toArray)/\failedOf cw=none)
   (G:=λp s'=>s'={s with heap:=((s.heap.update a<|Obj.mapSeq λ_=>#[]).push<|seqObj "tuple" vs.toArray 0).push (seqObj "list" #[] 0)}/\Pm p vs.length/\Up (ltZ zs) p vs.length) rfl (by omega) nL (λp cw s' _ a2 a3 a4=>⟨a4.1,p,a4.2.1,a4.2.2,a2,a3⟩)
   (q4d (k9d (s:={s with heap:=((s.heap.update a<|Obj.mapSeq λ_=>#[]).push<|seqObj "tuple" vs.toArray 0).push (seqObj "list" #[] 0)}) OL hn) (by omega) rfl λp s' e P U=>⟨e,P,U⟩)) ?_ λ_ _ e=>e
  rintro ⟨⟨⟩,cw⟩ s' ⟨rfl,p,P,U,har,hf⟩
  dsimp only
  have e3:=kat_snds (ks:=vs) (vs:=vs) rfl har;refine BJ<|PK nN rfl ?_;refine BJ (KY nN rfl ?_ (hsz2:=by rw [e3,Av,Aa,Cd,P.size];omega));rw [hf];simp only [KD,Ax,CN];refine BK ?_;rw [e3];exact h p P U
theorem q3b{l:Addr}{vs:List Value}{zs:List Str}{Q:Value->Shared->Prop}(hl:s.heap.IsList l vs.toArray)(hh:o6 s.heap vs zs)(hn:zs.Nodup)(nL:vs.length < 64)
  (h:∀(h':Heap) (e:Nat) (p:Array Nat),Pm p vs.length->Up (ltZ zs) p vs.length->(∀ b u,s.heap.get? b=some u->h'.get? b=some u)->h'.get? (s.heap.objs.size+1)=some (seqObj "list" (List.toArray<|p.toList.map λi=>vs.getD i Value.none) e)->Q (.ref<|s.heap.objs.size+1) {s with heap:=h'}) :
  wpAny (model prog w) A (call (.builtin "sorted") [.ref l]) Q E s:=by
 have EZ:vs.length<=sizeLine:=by rw [DQ];omega
 refine Calls.call_function_entry kind_sorted plain_sorted entry_sorted (args_sorted1 _) ?_;unfold Builtin.«sorted»;refine BJ (m:=checkCount "sorted" 1 1 _)<|BK ?_;refine BJ<|collect_list (vs:=vs) hl ?_;refine BJ<|JH ?_;have hsz:((s.heap.push<|seqObj "list" #[] 0).update s.heap.objs.size (Obj.mapSeq (·++vs.toArray))).objs.size=s.heap.objs.size+1:=by
  rw [Heap.size_update,size_push']
 have iZ:(((s.heap.push<|seqObj "list" #[] 0).update s.heap.objs.size (Obj.mapSeq (·++vs.toArray))).push<|seqObj "list" vs.toArray 0).get? (s.heap.objs.size+1)=some (seqObj "list" vs.toArray 0):=by
  rw [<- hsz];exact Ap _ rfl
 have hhL:o6 (((s.heap.push<|seqObj "list" #[] 0).update s.heap.objs.size (Obj.mapSeq (·++vs.toArray))).push<|seqObj "list" vs.toArray 0) vs zs:=⟨hh.1,λi v z h1 h2=>(hh.2 i v z h1 h2).keep λb o e q=>
  Af _ ((Cm _ _<|Cy<|As q).trans<|Af _ q)⟩
 have bj:∀ v∈vs,v ≠ .ref (s.heap.objs.size+1):=λv hv e=>by
  obtain⟨i,hi⟩:=Bb hv;have hl:=hh.1;have hiz:i < zs.length:=by have:=(Ac.mp hi).1;omega
  obtain⟨b,o,xs,n,t,e2,h1,_⟩:=hh.2 i v zs[i] hi<|Ab hiz;rw [e2] at e;cases e;exact absurd (Nat.lt_of_succ_lt<|As h1)<|Cs _
 show wpAny _ _ _ _ _ {s with heap:=((s.heap.push<|seqObj "list" #[] 0).update s.heap.objs.size (Obj.mapSeq (·++vs.toArray))).push (seqObj "list" vs.toArray 0)};rw [hsz];refine BJ<|CJ<|DN slot_list_sort ⟨_,iZ,rfl⟩ entry_list_sort (q01 iZ bj hhL hn nL λp P U=>⟨_,rfl,?_⟩)<|args_list_sort _;obtain⟨e,he⟩:=sortedAll_at s.heap vs<|List.toArray<|p.toList.map λi=>vs.getD i Value.none;exact BK ⟨_,rfl,h _ e p P U (λb u hb=>sortedAll_old hb) he⟩
end
end mK
namespace L2
open PySem PySem.Spec PyProof.Rows mK
theorem OM:∀{ts:List Addr} {its:List Value},au (ts.map V.ref) its->its=ts.map Value.ref
 | [],its,r=>r.zero
 | t :: ts,its,r=>by
  cases r with
  | cons h1 h2=>
   rw [OM h2];have:_=Value.ref t:=h1;rw [this];rfl
theorem OO:∀(ts:List Addr),au (ts.map V.ref)<|ts.map Value.ref
 | []=> .nil
 | t :: ts=> .cons rfl (OO ts)
theorem k52{α β:Type}(xs:List α)(ys:List β)(h:xs.length=ys.length)(a:α)(b:β):(List.range xs.length).map (λi=>(xs.getD i a,ys.getD i b))=xs.zip ys:=by
 apply QW
 ·simp [h]
 ·intro i h1 h2;have hx:i < xs.length:=by simp at h1;exact h1
  have hy:i < ys.length:=by omega
  simp [hx,hy]
section
variable{X:Cx}{σ:St}{H:Hp}
theorem j8y:dE X (.builtin "sorted") (λxs H Q=>∃(l:Addr) (ts:List Addr) (zs:List Str),xs=[.ref l]/\ai X.K H l (ts.map V.ref)/\ts.length=zs.length/\zs.Nodup/\ts.length < 64/\(∀(i:Nat) t z,ts[i]?=some t->zs[i]?=some z->∃ r,H t=some (.tup<|.str z :: r)) /\
  ∀(r:Addr) (ps:List<|Addr×Str),H r=none->ps.Perm (ts.zip zs)->ps.Pairwise (λa b=>a.2.cps.toList < b.2.cps.toList)->Q (.ref r) (upd H r<|.lst<|ps.map λp=> .ref p.1)):=by
 intro pins s σ H xs us Q I r h;obtain⟨l,ts,zs,rfl,hl,hlen,hn,nL,hd,q⟩:=h;obtain⟨u,rfl,ru⟩:=vals1 r;cases (show u=Value.ref l from ru);obtain⟨its,rv,pl,_⟩:=I.list hl;have ei:=OM rv;subst ei;have hh:o6 s.heap (ts.map Value.ref) zs:=by
  refine⟨by rw [Aa];exact hlen,λi v z h1 h2=>?_⟩;rw [Ad,Ao] at h1;obtain⟨t,ht,rfl⟩:=h1;obtain⟨rr,hr⟩:=hd i t z ht h2;obtain⟨its,r3,tp,_⟩:=I.tuple<|aJ.of hr;cases r3 with
  | cons a1 a2=>
   obtain⟨tk,rfl⟩:=a1;obtain⟨o,ho,hc,n,hd2⟩:=tp;exact⟨t,o,_,n,tk,rfl,ho,hc,hd2,rfl⟩
 refine q3b pl.isList hh hn (by rw [Aa];exact nL) λh' e p P U kp he=>?_;rw [Aa] at P U;have gp:∀ i,i < ts.length->g p i < ts.length:=P.lt;have pl2:p.toList.length=ts.length:=by rw [Cd];exact P.size
 have e1:(p.toList.map λi=>(ts.map Value.ref).getD i Value.none)=((p.toList.map λi=>(ts.getD i 0,zs.getD i ⟨#[]⟩)).map λx=>x.1).map Value.ref:=by
  rw [Ch,Ch];refine Bp λi hi=>?_;have aM:=EX P hi;show(ts.map Value.ref).getD i Value.none=Value.ref (ts.getD i 0);simp [aM]
 refine⟨.ref _,_,I.gS (s':={s with heap:=h'}) kp rfl rfl (Ff _) (show ax X.prog X.w _ h' _ (.lst<|(p.toList.map λi=>(ts.getD i 0,zs.getD i ⟨#[]⟩)).map λx=>V.ref x.1) from ?_),rfl,q _ (p.toList.map λi=>(ts.getD i 0,zs.getD i ⟨#[]⟩)) (I.aD.fresh<|Ff _) ?_ ?_⟩
 ·refine⟨by rw [Aa,Aa,pl2,DQ];omega,_,e,?_,he⟩;rw [e1];have:=OO<|(p.toList.map λi=>(ts.getD i 0,zs.getD i (⟨#[]⟩:Str))).map λx=>x.1;rw [Ch] at this;exact this
 ·rw [<- k52 ts zs hlen 0 ⟨#[]⟩];exact(q46 P).map _
 ·rw [Az];intro i j hi hj gu;rw [Aa] at hi hj;have:=U i j gu (by omega);have q1:g p i=p.toList[i]:=iC (by rw [<- Bh];exact Ab hi);have q2:g p j=p.toList[j]:=iC (by rw [<- Bh];exact Ab hj);rw [q1,q2] at this;rw [Du,Du];exact BZ this
theorem OQ{e1 e2 e3:Expr}{k:Nat}{pos:Pos}{t:Addr}{x y z:V}{R:St->Hp->Prop}(hc:X.calm=true)(ht:aJ X.K H t [x,y,z])(h:Eg X e1 x σ H λσ1 H1=>Eg X e2 y σ1 H1 λσ2 H2=>Eg X e3 z σ2 H2 R)
  (hn:(assignEach [e1,e2,e3] X.env).length=3:=by rfl) (cS:(assignEach [e1,e2,e3] X.env).findIdx? (·.1)=none:=by rfl)
  (iM:(assignEach [e1,e2,e3] X.env).map (·.2)=assign e1 X.env :: (assignEach [e2,e3] X.env).map (·.2):=by rfl) (qo:(assignEach [e2,e3] X.env).map (·.2)=assign e2 X.env :: (assignEach [e3] X.env).map (·.2):=by rfl) (v7:(assignEach [e3] X.env).map (·.2)=assign e3 X.env :: (assignEach [] X.env).map (·.2):=by rfl) :
  Eg X (.Tuple [e1,e2,e3] k pos) (.ref t) σ H R:=
 zG (Ja (t:=pQ (λv σ H Q=>Eg X e1 v σ H Q)<|pQ (λv σ H Q=>Eg X e2 v σ H Q)<|pQ (λv σ H Q=>Eg X e3 v σ H Q) mZ) hc (rj nn (rj nn (rj nn IZ v7) qo) iM) hn cS)
  ⟨t,_,rfl,ht,rfl,_,_,rfl,h.mono λσ1 H1 h1=>⟨_,_,rfl,h1.mono λσ2 H2 h2=>⟨_,_,rfl,h2.mono λσ3 H3 q=>⟨rfl,q⟩⟩⟩⟩
end
end L2
namespace L2
open PySem PySem.Spec PyProof.Rows
section
variable{X:Cx}{σ:St}{H:Hp}{Q:VK}
theorem k90{k v:Expr}{pos:Pos}(hu:X.A.units+1 < cLine)(h:∀ d,H d=none->Ev X k σ (upd H d<|.dK []) λy H1=>Ev X v σ H1 λx H2=>∃ H3,b6 H2 d y x H3/\Q (.ref d) H3):Ev X (.Dict [some k] [v] pos) σ H Q:=by
 refine⟨λpins s I=>wpAny_Dict_any rfl rfl (by simp) (by show 1<=15;decide) ?_⟩;have I0:Inv X pins σ (upd H s.heap.objs.size<|.dK []) {s with heap:=s.heap.push {cls:= .type "dict",data:= .dict #[]}}:=I.laid (a:=s.heap.objs.size) (o:= .dK []) (t':=s.toks) (λ_ _ q=>Af _ q) (Al _)<|J8 s.heap I.big;show wpAny _ _ (evalPairs [(eval k X.env,do let x <- eval v X.env;standAt pos;pure x)]) _ _ _;unfold evalPairs;refine BJ<|aI ((h _ I.fresh).run pins _ I0) λkv s1 ⟨y,H1,I1,r1,h1⟩=>?_;refine BJ<|CJ<|BJ<|aI (h1.run pins s1 I1) λvv s2 ⟨x,H2,I2,r2,H3,dp,q⟩=>?_;refine BJ<|FW<|BK ?_;unfold evalPairs;refine BJ<|CJ<|BK<|BK ?_;unfold storeAll;rw [Gj];refine BJ<|BJ<|Mw hu I2 dp r1 r2 λs' I'=>BK ?_;exact BK ⟨.ref _,H3,I',rfl,q⟩
end
open bD
section
variable{prog:Program}{w:World}{A:Around}{E:Value->Shared->Prop}{s:Shared}{T:String}{r d:Addr}{n:Nat}{P:Nat->Value->Prop}{OK:Heap->Prop}
end
section
variable{X:Cx}
end
end L2
namespace L2
open PySem PySem.Spec PyProof.Rows
section
def E1(K:PySem.W.Frag)(l:Addr):It:=
  ⟨λi H => ∃ xs x, ai K H l xs ∧ xs[i]? = some x,
   λi H v H'=>∃ T x,H T=none/\v = .ref T/\H'=upd H T (.tup [.int (i:Int),x])/\∀ xs,ai K H l xs->xs[i]?=some x,
   λi H=>∃ xs,ai K H l xs/\xs.length<=i⟩
def q6w(m l:Addr)(i:Nat)(h:Heap):Prop:=(∃ old,IsEnum h (m+1) m (i:Int) old)/\h.IsListIter m l i
theorem k56{P:Program}{w:World}{K:PySem.W.Frag}{elts:List Expr}{k:Nat}{tp:Pos}(m l:Addr):Turn P w K (.Tuple elts k tp) (E1 K l) [m,m+1] (m+1) (q6w m l) where
 mem:=by simp
 obj:=λi h st c hc=>by
  obtain⟨⟨old,z1⟩,⟨o4,e4,c4,d4⟩⟩:=st;simp only [Aj,Cb,FQ] at hc
  rcases hc with rfl | rfl
  ·exact⟨_,e4,λv z=>by rw [d4] at z;cases z⟩
  ·exact⟨_,z1,λv z=>by cases z⟩
 keep:=λi h h' st kp=>by
  obtain⟨⟨old,z1⟩,⟨o4,e4,r4⟩⟩:=st;exact⟨⟨old,kp _ (by simp) _ z1⟩,⟨o4,kp _ (by simp) _ e4,r4⟩⟩
 item:=by
  intro X hP hw hK hc i pins s σ H E I hf st hg;subst hP hw hK;obtain⟨xs,x,dQ,hx⟩:=hg;obtain⟨jn,kG,p1,oa⟩:=I.list dQ;obtain⟨u1,ji,CA⟩:=kG.get hx;obtain⟨⟨old,z1⟩,z4⟩:=id st;refine wpAny_pyNext_enum_item z1 z4 p1.isList (x:=u1) (by simpa using ji) (by simp) λh' a1 a2 a3 a4 kp=>?_;have hT:H s.heap.objs.size=none:=I.aD.fresh<|Al _;have nT:∀ c∈[m,m+1],c≠s.heap.objs.size:=λc aZ=>by
   have:∃ o,s.heap.get? c=some o:=by
    obtain⟨o4,e4,_⟩:=z4;simp only [Aj,Cb,FQ] at aZ
    rcases aZ with rfl | rfl
    ·exact⟨_,e4⟩
    ·exact⟨_,z1⟩
   obtain⟨o,e⟩:=this;exact Bt<|As e
  have I1:Inv X pins σ (upd H s.heap.objs.size<|.tup [.int (i:Int),x]) {s with heap:=s.heap.push {cls:= .type "tuple",data:= .seq #[.int i s.toks,u1]},toks:=s.toks+1}:=
   I.laid (t':=s.toks+1) (λb o e=>Af _ e) (Al _) (show ax X.prog X.w _ _ _ (.tup [.int (i:Int),x]) from⟨Z2,[.int i s.toks,u1],.cons ⟨_,rfl⟩<|.cons CA .nil,⟨_,Ap _ rfl,rfl,_,rfl⟩⟩)
  have f1:∀ c∈[m,m+1],bV X pins (upd H s.heap.objs.size<|.tup [.int (i:Int),x]) c:=λc aZ=>⟨by rw [av<|nT c aZ];exact(hf c aZ).1,(hf c aZ).2⟩;have nK:∀ c o,c∉[m,m+1]->(s.heap.push {cls:= .type "tuple",data:= .seq #[.int i s.toks,u1]}).get? c=some o->h'.get? c=some o:=λc o aZ e=>by
   rcases Gf e with ⟨ec,eo⟩ | e'
   ·rw [ec,eo];exact a3
   ·simp only [Aj,Cb,FQ,not_or] at aZ;exact kp c o aZ.2 aZ.1 e'
  have I2:=Inv.bE (h':=h') (t':=s.toks+1) I1 f1 nK;refine⟨_,rfl,wpAny_letOwnedTupleGo_enum (s:={s with heap:=h',toks:=s.toks+1}) a1 λh2 b1 sb=>?_⟩;have wR:∀ c o,c∉[m+1]->h'.get? c=some o->h2.get? c=some o:=λc o aZ e=>(sb.2 c<|by simpa using aZ).trans e;have I3:=Inv.bE (h':=h2) (t':=s.toks+1) I2 (ch:=[m+1]) (λc aZ=>f1 c<|by simp at aZ;simp [aZ]) wR;refine⟨.ref s.heap.objs.size,_,I3,rfl,⟨_,x,hT,rfl,rfl,λzs hz=>by rw [I.cz hz dQ];exact hx⟩,?_,λc aZ=>(f1 c aZ).1⟩;obtain⟨o3,e3,r3⟩:=a2;exact⟨⟨u1,b1⟩,⟨o3,wR _ _ (by simp) e3,r3⟩⟩
 done:=by
  intro X hP hw hK hc i pins s σ H E I hf st hg;subst hP hw hK;obtain⟨xs,dQ,sV⟩:=hg;obtain⟨jn,kG,p1,oa⟩:=I.list dQ;have l1:=kG.length;obtain⟨⟨old,z1⟩,z4⟩:=id st;refine wpAny_pyNext_enum_end (I.ok.hd hc) z1 z4 p1.isList (by simp;omega) λh' kp=>⟨rfl,I.bE (t':=s.toks) (ch:=[m,m+1]) hf λc o aZ e=>?_⟩;simp only [Aj,Cb,FQ,not_or] at aZ;exact kp c o aZ.1 e
 self:=λ_ _ _ _ _ st h=>by
  obtain⟨⟨old,z1⟩,_⟩:=st;exact wpAny_pyIter_enum z1 h
end
section
variable{X:Cx}
def q9c(K:PySem.W.Frag)(ta:TA):TI:=λσ H R=>ta σ H λvs H1=>∃ a,vs=[.ref a]/\(∃ xs,ai K H1 a xs)/\R (E1 K a) H1
theorem q3g{elts:List Expr}{k:Nat}{tp:Pos}{a:Expr}{ta:TA}{p pos:Pos}(hg:Gl X "enumerate")(hm:X.mg "enumerate" = none)(ha:PA X [a] ta)(hs:starEach [a] X.env=[(false,eval a X.env)]:=by rfl) :
  PI X (.Tuple elts k tp) (.Call (.Name "enumerate" p) [a] [] pos) (q9c X.K ta):=by
 intro pins s σ H R I h;refine Call_<|lK I hg hm boot_enumerate<|GQ (aI (ha pos pins s σ H _ I h) λus s1 ⟨vs,H1,I1,r1,q1⟩=>?_) hs rfl;obtain⟨x,e,⟨xs,hx⟩,q⟩:=q1;subst e;obtain⟨u,rfl,ru⟩:=r1.one;cases (show u=Value.ref x from ru);obtain⟨jn,kG,p1,oa⟩:=I1.list hx;refine call_enumerate_list p1.isList λh' a1 a2 a3 kp=>?_;refine wpAny_pyIter_enum (s:={s1 with heap:=h'}) a1 ?_;refine⟨s1.heap.objs.size+1,[s1.heap.objs.size,s1.heap.objs.size+1],_,_,H1,rfl,I1.kept (t':=s1.toks) kp,k56 s1.heap.objs.size x,⟨⟨_,a1⟩,a2⟩,λb hb=>?_,q⟩;have hle:s1.heap.objs.size<=b:=by
  simp only [Aj,Cb,FQ] at hb
  rcases hb with rfl | rfl <;> omega
 exact I1.ga hle<|I1.aD.fresh hle
theorem OS(z:Str):∀ zs:List Str,countIn (.str z) (zs.map PyData.str)=(zs.count z:Int)
 | []=>rfl
 | y :: r=>by
  rw [Bd,countIn,OS z r,Dq];simp only [same]
  rcases Bool.eq_false_or_eq_true (y == z) with hb | hb <;> simp only [hb,Ax,DK,CN] <;> push_cast <;> omega
def q6s(K:PySem.W.Frag):V->List V->Hp->VK->Prop:=λx vs H Q=>∃(l:Addr) (zs:List Str) (z:Str),x = .ref l/\vs=[.str z]/\ai K H l (zs.map V.str)/\Q (.int (zs.count z:Int)) H
theorem q0p:ng X "list.count" (q6s X.K):=by
 intro pins s σ H x vs v us Q I rx rv h;obtain⟨l,zs,z,rfl,rfl,hH,q⟩:=h;cases rx;obtain⟨u,rfl,ru⟩:=rv.one;obtain⟨tk,rfl⟩:=ru;obtain⟨its,r,pl,hz⟩:=I.list hH;refine count_list_strs pl.isList (Lz r) ?_;rw [OS];exact⟨.int (zs.count z:Int),H,I.tok _,⟨_,rfl⟩,q⟩
end
section
variable{X:Cx}{σ:St}{H:Hp}{D:Ends}{body:List Stmt}
end
section
variable{X:Cx}{σ:St}{H:Hp}{D:Ends}{body rest:List Stmt}{a b:Expr}
end
end L2
namespace bD
open PySem SetTable
def k4(mask:Nat)(p:Probe):Probe:=if p.more > 0 then{p with j:=p.j+1,more:=p.more - 1} else
 {p with j:=(leap mask p.i p.perturb).1,more:=runEnd mask (leap mask p.i p.perturb).1 - (leap mask p.i p.perturb).1,i:=(leap mask p.i p.perturb).1,perturb:=(leap mask p.i p.perturb).2}
def P0(mask i q:Nat):Probe:={j:=i,more:=runEnd mask i - i,i:=i,perturb:=q,dummy:=none}
def fu(mask:Nat)(p:Probe):Nat->Probe
 | 0=>p
 | n+1=>k4 mask<|fu mask p n
def pr(mask:Nat)(h:Int)(n:Nat):Probe:=fu mask (P0 mask (bits h % (mask+1))<|bits h) n
theorem OT(t:SetTable)(h:Int):t.probeStart h=pr t.mask h 0:=rfl
theorem uw(mask:Nat)(p:Probe)(a:Nat):∀ b,fu mask p (a+b)=fu mask (fu mask p a) b
 | 0=>rfl
 | b+1=>by
  show k4 mask (fu mask p<|a+b)=k4 mask (fu mask (fu mask p a) b);rw [uw mask p a b]
theorem qL(mask i q:Nat):∀ k,k<=runEnd mask i - i->fu mask (P0 mask i q) k={j:=i+k,more:=runEnd mask i - i - k,i:=i,perturb:=q,dummy:=none}
 | 0,_=>rfl
 | k+1,h=>by
  show k4 mask (fu mask (P0 mask i q) k)=_;rw [qL mask i q k<|by omega];unfold k4;rw [BP<|by show runEnd mask i - i - k > 0;omega];show(⟨i+k+1,runEnd mask i - i - k - 1,i,q,none⟩:Probe)=_
  congr 1
theorem xK(mask i q:Nat):fu mask (P0 mask i q) (runEnd mask i - i+1)=P0 mask (leap mask i q).1 (leap mask i q).2:=by
 show k4 mask (fu mask (P0 mask i q)<|runEnd mask i - i)=_;rw [qL mask i q _<|Al _];unfold k4;rw [BL<|by show ¬ runEnd mask i - i - (runEnd mask i - i) > 0;omega];rfl
theorem q5j(mask i:Nat):runEnd mask i - i<=9:=by unfold runEnd;split <;> omega
theorem q36{mask i:Nat}(h:i<=mask):runEnd mask i<=mask:=by unfold runEnd;split <;> omega
theorem OU{mask j:Nat}:∀(fuel i q:Nat),j∈nG mask fuel i q->∃ n,n < 10 * fuel/\(fu mask (P0 mask i q) n).j=j
 | 0,_,_,h=>by cases h
 | fuel+1,i,q,h=>by
  rcases Aj.mp h with e | h
  ·exact⟨0,by omega,e.symm⟩
  ·obtain⟨n,hn,e⟩:=OU fuel _ _ h;refine⟨runEnd mask i - i+1+n,by have:=q5j mask i;omega,?_⟩;rw [uw,xK];exact e
theorem k94{mask:Nat}(hm:Pow<|mask+1)(h:Int){j:Nat}(hj:j < mask+1):∃ n,n < 10 * turns mask/\(pr mask h n).j=j:=
 OU _ _ _ (KL hm (Gc _<|Eu _) (KS h) hj)
theorem q7t{mask:Nat}:∀(n i q:Nat),i<=mask->(fu mask (P0 mask i q) n).j<=mask:=by
 intro n
 induction n using Nat.strongRecOn with
 | _ n ih=>
  intro i q hi
  by_cases c:n<=runEnd mask i - i
  ·rw [qL mask i q n c];have:=q36 hi;show i+n<=mask;omega
  ·have e:n=runEnd mask i - i+1+(n - (runEnd mask i - i+1)):=by omega
   rw [e,uw,xK];exact ih _ (by omega) _ _<|Nat.le_of_lt_succ KG
theorem OV(mask:Nat)(h:Int)(n:Nat):(pr mask h n).j<=mask:=q7t n _ _<|Nat.le_of_lt_succ<|Gc _<|Eu _
def Reach(mask:Nat)(xL:Nat->Prop)(h:Int)(j:Nat):Prop:=∃ n,(pr mask h n).j=j/\∀ m,m < n->xL (pr mask h m).j
theorem Reach.mono{mask:Nat}{xL uz:Nat->Prop}{h:Int}{j:Nat}(r:Reach mask xL h j)(k:∀ i,i<=mask->xL i->uz i):Reach mask uz h j:=
 let ⟨n,e,f⟩:=r;⟨n,e,λm hm=>k _ (OV _ _ _)<|f m hm⟩
theorem OW{mask:Nat}{owner:dJ}:∀{fuel i q j:Nat},layClean.free mask owner fuel i q=some j->∃ n,(fu mask (P0 mask i q) n).j=j/\∀ m,m < n->nil? owner (fu mask (P0 mask i q) m).j=false
 | 0,_,_,_,h=>by cases h
 | fuel+1,i,q,j,h=>by
  unfold layClean.free at h
  split at h
  ·rename_i k hf;cases h;rw [List.find?_range_eq_some] at hf;have hk:k<=runEnd mask i - i:=by have:=Bg.mp hf.2.1;have:=z6 mask i;omega
   refine⟨k,by rw [qL mask i q k hk],λm hm=>?_⟩;rw [qL mask i q m<|by omega];have:=hf.2.2 m hm
   simpa [nil?] using this
  ·rename_i hf;obtain⟨n,e,g⟩:=OW (fuel:=fuel) h;refine⟨runEnd mask i - i+1+n,by rw [uw,xK];exact e,λm hm=>?_⟩
   by_cases c:m<=runEnd mask i - i
   ·rw [qL mask i q m c];have:=Ex.mp hf m (Bg.mpr<|by have:=z6 mask i;omega);exact Fd.mpr this
   ·have e2:m=runEnd mask i - i+1+(m - (runEnd mask i - i+1)):=by omega
    rw [e2,uw,xK];exact g _<|by omega
theorem OX{owner:dJ}{j k i:Nat}(h:nil? owner i=false):nil? (owner.setIfInBounds j<|some k) i=false:=by
 unfold nil? at h ⊢;rw [Cv] at h ⊢;rw [Fc]
 split
 ·split <;> rfl
 ·exact h
def k6(mask:Nat)(hs:List Int)(owner:dJ):Prop:=∀ v j x,owner[j]?=some (some v)->hs[v]?=some x->Reach mask (λi=>nil? owner i=false) x j
theorem OY{mask:Nat}(hm:Pow<|mask+1)(all:List Int):∀(hs done:List Int) (owner:dJ),all=done++hs->Lies (mask+1) owner done.length->k6 mask all owner->all.length < mask+1+1 ->
  ∃ gC,hs.foldl (v9 mask) (some (owner,done.length))=some (gC,all.length)/\Lies (mask+1) gC all.length/\k6 mask all gC
 | [],done,owner,e,L,R,_=>by
  rw [Br] at e;subst e;exact⟨owner,rfl,L,R⟩
 | h :: r,done,owner,e,L,R,hk=>by
  have el:all.length=done.length+(r.length+1):=by rw [e,Ag,At]
  obtain⟨j,ej,hj⟩:=L.free hm (by omega) h;have Lp:=L.put hj;have Rp:k6 mask all (owner.setIfInBounds j<|some done.length):=by
   intro v i x hv hx;rw [Fc] at hv
   by_cases c:j=i
   ·subst c;rw [BP rfl] at hv
    split at hv
    ·cases hv;rw [e,Ba<|Al _,Nat.sub_self] at hx;cases hx;obtain⟨n,e1,e2⟩:=OW ej;exact⟨n,e1,λm mD=>OX<|e2 m mD⟩
    ·cases hv
   ·rw [BL c] at hv;exact(R v i x hv hx).mono λ_ _=>OX
  obtain⟨o',e',L',R'⟩:=OY hm all r (done++[h]) (owner.setIfInBounds j<|some done.length) (by rw [e,Ay];rfl) (by rw [Ag];exact Lp) Rp hk;refine⟨o',?_,L',R'⟩;rw [Dp,show v9 mask (some (owner,done.length)) h=some (owner.setIfInBounds j<|some done.length,done.length+1) by unfold v9;simp [ej]];rw [Ag] at e';exact e'
theorem q3l{mask:Nat}(hm:Pow<|mask+1)(hs:Array Int)(hl:hs.size < mask+1+1):∃ owner,layClean mask hs=some owner/\Lies (mask+1) owner hs.size/\k6 mask hs.toList owner:=by
 obtain⟨o',e,L,R⟩:=OY hm hs.toList hs.toList [] (Array.replicate (mask+1) none) rfl (Lies.start<|mask+1) (λv j x hv=>by
  rw [Fq] at hv
  split at hv <;> cases hv) (by simpa using hl)
 refine⟨o',?_,by simpa using L,R⟩;have e2:layClean mask hs=(hs.foldl (v9 mask)<|some (Array.replicate (mask+1) none,0)).map (·.1):=rfl;rw [e2,<- Array.foldl_toList];have e3:([]:List Int).length=0:=rfl;rw [e3] at e;rw [e];rfl
theorem q0x{xs:Array Nat}{j:Nat}(hs:xs.toList.Pairwise (· < ·)):∀(fuel lo hi:Nat),hi<=xs.size->lo<=hi->hi - lo<=fuel->(∀ i v,i < lo->xs[i]?=some v->v < j)->(∀ i v,hi<=i->xs[i]?=some v->j<=v) ->
  (below.go xs j fuel lo hi)<=xs.size/\(∀ i v,i < below.go xs j fuel lo hi->xs[i]?=some v->v < j)/\(∀ i v,below.go xs j fuel lo hi<=i->xs[i]?=some v->j<=v):=by
 have mono:∀{i k:Nat} {u v:Nat},i < k->xs[i]?=some u->xs[k]?=some v->u < v:=λ{i k u v} xJ hi hk=>by
  rw [<- Bh] at hi hk;obtain⟨h1,e1⟩:=Ac.mp hi;obtain⟨h2,e2⟩:=Ac.mp hk;rw [<- e1,<- e2];exact Az.mp hs i k h1 h2 xJ
 intro fuel
 induction fuel with
 | zero=>
  intro lo hi h1 h2 h3 h4 h5;have e:lo=hi:=by omega
  subst e;exact⟨h1,h4,h5⟩
 | succ fuel ih=>
  intro lo hi h1 h2 h3 h4 h5;unfold below.go
  by_cases c:lo < hi
  ·rw [BP c];have E2:(lo+hi) / 2 < xs.size:=by omega
   have hm:xs[(lo+hi) / 2]?=some xs[(lo+hi) / 2]:=Ce E2;have hgd:xs.getD ((lo+hi) / 2) j=xs[(lo+hi) / 2]:=by rw [Cv,hm];rfl
   simp only;rw [hgd]
   by_cases d:xs[(lo+hi) / 2] < j
   ·rw [BP d];refine ih _ _ h1 (by omega) (by omega) (λi v i8 hv=>?_) h5
    by_cases k:i=(lo+hi) / 2
    ·subst k;rw [hm] at hv;cases hv;exact d
    ·exact TX (mono (by omega) hv hm) d
   ·rw [BL d];refine ih _ _ (by omega) (by omega) (by omega) h4 λi v i8 hv=>?_
    by_cases k:i=(lo+hi) / 2
    ·subst k;rw [hm] at hv;cases hv;omega
    ·have:=mono (show(lo+hi) / 2 < i by omega) hm hv;omega
  ·rw [BL c];have e:lo=hi:=by omega
   subst e;exact⟨h1,h4,h5⟩
theorem OZ{xs:Array Nat}(hs:xs.toList.Pairwise (· < ·))(j:Nat):below xs j<=xs.size/\(∀ i v,i < below xs j->xs[i]?=some v->v < j)/\(∀ i v,below xs j<=i->xs[i]?=some v->j<=v):=
 q0x hs xs.size 0 xs.size (Al _) (Bu _) (by omega) (λi v h=>absurd h<|Eh _) λi v h hv=>by
  rw [Dk h] at hv;cases hv
theorem q2g{p:Nat->Prop}:∀ n,p n->∃ m,m<=n/\p m/\∀ k,k < m->¬ p k:=by
 intro n
 induction n using Nat.strongRecOn with
 | _ n ih=>
  intro h
  by_cases c:∃ k,k < n/\p k
  ·obtain⟨k,hk,pk⟩:=c;obtain⟨m,h1,h2⟩:=ih k hk pk;exact⟨m,by omega,h2⟩
  ·exact⟨n,Al _,h,λk hk pk=>c ⟨k,hk,pk⟩⟩
abbrev Ze:=Nat×(Int×Value)
structure Wf(t:SetTable)(es:Array<|Int×Value)(Z:List Ze):Prop where
 place:t.place.toList=Z.map (·.1)
 ents:es.toList=Z.map (·.2)
 jY:Z.Pairwise λa b=>a.1 < b.1
 le:∀ z∈Z,z.1<=t.mask
 few:Z.length<=t.mask
 E3:t.dummies=#[]
 pow:Pow<|t.mask+1
 O0:∀ z∈Z,Reach t.mask (λj=>j∈Z.map (·.1)) z.2.1 z.1
section
variable{t:SetTable}{es:Array (Int×Value)}{Z:List Ze}
theorem Wf.sorted(W:Wf t es Z):t.place.toList.Pairwise (· < ·):=by
 rw [W.place,Ef];exact W.jY
theorem Wf.len(W:Wf t es Z):es.size=Z.length:=by rw [<- Cd,W.ents,Aa]
theorem Wf.uA(W:Wf t es Z):t.place.size=Z.length:=by rw [<- Cd,W.place,Aa]
theorem Wf.at(W:Wf t es Z){i:Nat}{z:Ze}(h:Z[i]?=some z):t.place[i]?=some z.1/\es[i]?=some z.2:=by
 rw [<- Bh,<- Bh,W.place,W.ents,Ad,Ad,h];exact⟨rfl,rfl⟩
theorem Wf.of(W:Wf t es Z){i v:Nat}(h:t.place[i]?=some v):∃ z,Z[i]?=some z/\z.1=v:=by
 rw [<- Bh,W.place,Ad,Ao] at h;exact h
theorem Wf.inj(W:Wf t es Z){i k:Nat}{y z:Ze}(hi:Z[i]?=some y)(hk:Z[k]?=some z)(e:y.1=z.1):i=k:=by
 obtain⟨h1,e1⟩:=Ac.mp hi;obtain⟨h2,e2⟩:=Ac.mp hk
 rcases Ee i k with c | c | c
 ·have:=Az.mp W.jY i k h1 h2 c;rw [e1,e2] at this;omega
 ·exact c
 ·have:=Az.mp W.jY k i h2 h1 c;rw [e1,e2] at this;omega
theorem Wf.gD(W:Wf t es Z){i:Nat}{z:Ze}(h:Z[i]?=some z):below t.place z.1=i:=by
 obtain⟨b1,b2,b3⟩:=OZ W.sorted z.1;have hp:=(W.at h).1;have c1:¬ i < below t.place z.1:=λc=>Cs _<|b2 i _ c hp
 rcases Cz (below t.place z.1) i with c | c
 ·have hi:i < Z.length:=(Ac.mp h).1;have hb:below t.place z.1 < Z.length:=by omega
  have h2:Z[below t.place z.1]?=some Z[below t.place z.1]:=Ab hb;have h3:=b3 _ _ (Al _) (W.at h2).1;have h4:=Az.mp W.jY _ i hb hi c;rw [(Ac.mp h).2] at h4;omega
 ·omega
theorem Wf.dX(W:Wf t es Z){i:Nat}{z:Ze}(h:Z[i]?=some z):t.slot z.1 = .live i:=by
 unfold slot;simp only;rw [W.gD h,(W.at h).1,BP<|HN _]
theorem Wf.gE(W:Wf t es Z){j:Nat}(h:j∉Z.map (·.1)):t.slot j = .empty:=by
 unfold slot;simp only;have h1:(t.place[below t.place j]? == some j)=false:=by
  rw [beq_eq_false_iff_ne];intro e;obtain⟨z,hz,ez⟩:=W.of e;exact h<|Am.mpr ⟨z,An hz,ez⟩
 rw [BL (by rw [h1];exact Ar),W.E3];rfl
theorem Wf.fits(W:Wf t es Z):t.fits es.size=true:=by
 unfold SetTable.fits fill;have:=W.few;rw [W.len,W.uA,W.E3];simp only [HN,Gv,EY];show Z.length+0<=t.mask;omega
structure Stop(mask:Nat)(Z:List Ze)(h:Int)(N:Nat):Prop where
 out:(pr mask h N).j∉Z.map (·.1)
 O1:∀ m,m < N->(pr mask h m).j∈Z.map (·.1)
 lt:N < 10 * turns mask
theorem Wf.stop(W:Wf t es Z)(h:Int):∃ N,Stop t.mask Z h N:=by
 have:∃ j,j < t.mask+1/\j∉Z.map (·.1):=by
  refine CK λhn=>?_;have all:∀ j∈List.range (t.mask+1),j∈Z.map (·.1):=λj hj=>CK λk=>hn ⟨j,Bg.mp hj,k⟩;have:=(Fk (n:=t.mask+1)).length_le_of_subset all;rw [Db,Aa] at this;have:=W.few;omega
 obtain⟨j,hj,hz⟩:=this;obtain⟨n,hn,e⟩:=k94 W.pow h hj;obtain⟨N,h1,h2,h3⟩:=q2g (p:=λn=>(pr t.mask h n).j∉Z.map (·.1)) n (by rw [e];exact hz);exact⟨N,h2,λm hm=>CK λk=>h3 m hm k,by omega⟩
theorem E4{mask:Nat}{p:Probe}(h:p.dummy=none):∀ n,(fu mask p n).dummy=none
 | 0=>h
 | n+1=>by
  show(k4 mask<|fu mask p n).dummy=none;unfold k4
  split
  ·exact E4 h n
  ·exact E4 h n
theorem k99(mask:Nat)(h:Int)(n:Nat):(pr mask h n).dummy=none:=E4 rfl n
theorem Wf.go(W:Wf t es Z){hashAt:Nat->Int}(hh:∀ i e,es[i]?=some e->hashAt i=e.1){h:Int}{N:Nat}(S:Stop t.mask Z h N):∀ fuel m,m<=N->N - m < fuel ->
  (∃ m' i z,m<=m'/\m' < N/\Z[i]?=some z/\z.1=(pr t.mask h m').j/\z.2.1=h/\(∀ k,m<=k->k < m'->∀ z∈Z,z.1=(pr t.mask h k).j->z.2.1≠h)/\probe.go t hashAt h fuel (pr t.mask h m)=some (.candidate (pr t.mask h m').j i<|pr t.mask h<|m'+1)) \/
  ((∀ k,m<=k->k < N->∀ z∈Z,z.1=(pr t.mask h k).j->z.2.1≠h)/\probe.go t hashAt h fuel (pr t.mask h m)=some (.empty (pr t.mask h N).j none))
 | 0,m,_,hf=>absurd hf<|Eh _
 | fuel+1,m,hm,hf=>by
  unfold probe.go
  by_cases c:m=N
  ·subst c;refine .inr ⟨λk h1 h2=>by omega,?_⟩;rw [W.gE S.out];simp only;rw [k99]
  ·obtain⟨z,hz,ez⟩:=Am.mp (S.O1 m<|by omega);obtain⟨i,hi⟩:=Bb hz;have uniq:∀ y∈Z,y.1=(pr t.mask h m).j->y=z:=λy hy e=>by
    obtain⟨k,hk⟩:=Bb hy;have:=W.inj hk hi (by rw [e,ez]);subst this;rw [hk] at hi;exact Option.some.inj hi
   rw [<- ez,W.dX hi];simp only;rw [hh i _ (W.at hi).2]
   by_cases d:z.2.1=h
   ·rw [BP<|by rw [d];exact HN _];exact .inl ⟨m,i,z,Al _,by omega,hi,ez,d,λk h1 h2=>by omega,by rw [ez];rfl⟩
   ·rw [BL<|by rw [QL];exact d]
    rcases W.go hh S fuel (m+1) (by omega) (by omega) with ⟨m',k,y,a1,a2,a3,a4,a5,a6,a7⟩ | ⟨a1,a2⟩
    ·refine .inl ⟨m',k,y,by omega,a2,a3,a4,a5,λl h1 h2 x hx ex=>?_,a7⟩
     by_cases e:l=m
     ·subst e;rw [uniq x hx ex];exact d
     ·exact a6 l (by omega) h2 x hx ex
    ·refine .inr ⟨λl h1 h2 x hx ex=>?_,a2⟩
     by_cases e:l=m
     ·subst e;rw [uniq x hx ex];exact d
     ·exact a1 l (by omega) h2 x hx ex
theorem Wf.put(W:Wf t es Z){h:Int}{x:Value}{N:Nat}(S:Stop t.mask Z h N){t':SetTable}(e1:t'.mask=t.mask)(e2:t'.place=(t.put (pr t.mask h N).j).1.place)(e3:t'.dummies=#[])(hf:Z.length+1<=t.mask) :
  ∃ Z',Wf t' (insertAt es (t.put (pr t.mask h N).j).2 (h,x)) Z'/\Z'.Perm (((pr t.mask h N).j,(h,x)) :: Z):=by
 obtain⟨b1,b2,b3⟩:=OZ W.sorted (pr t.mask h N).j;have ep:(t.put (pr t.mask h N).j).2=below t.place (pr t.mask h N).j:=rfl;have eP:(t.put (pr t.mask h N).j).1.place=insertAt t.place (below t.place (pr t.mask h N).j) (pr t.mask h N).j:=rfl;rw [eP] at e2;rw [ep];generalize hb:below t.place (pr t.mask h N).j=p at b1 b2 b3 e2;have hj:=OV t.mask h N;have sN:=S.out;have sI:=S.O1;have rN:Reach t.mask (λj=>j∈Z.map (·.1)) h (pr t.mask h N).j:=⟨N,rfl,sI⟩;clear hb eP ep;generalize (pr t.mask h N).j=j at b2 b3 e2 hj sN rN ⊢;have pm:(Z.take p++(j,(h,x)) :: Z.drop p).Perm ((j,(h,x)) :: Z):=by
  refine List.perm_middle.trans ?_;rw [Cq]
 refine⟨Z.take p++(j,(h,x)) :: Z.drop p,⟨?_,?_,?_,λz hz=>?_,?_,e3,by rw [e1];exact W.pow,λz hz=>?_⟩,pm⟩
 ·rw [e2,toList_insertAt,W.place,Ak,Bd,Gr,Gs]
 ·rw [toList_insertAt,W.ents,Ak,Bd,Gr,Gs]
 ·rw [Gg];have tk:∀ a∈Z.take p,a.1 < j:=λa ha=>by
   obtain⟨i,hi⟩:=Bb ha;rw [List.getElem?_take] at hi
   split at hi
   ·exact b2 i _ (by assumption) (W.at hi).1
   ·cases hi
  have dr:∀ a∈Z.drop p,j < a.1:=λa ha=>by
   obtain⟨i,hi⟩:=Bb ha;rw [QD] at hi;have:=b3 (p+i) _ (by omega) (W.at hi).1;have ne:a.1≠j:=λe=>sN (by rw [<- e];exact Am.mpr ⟨a,An hi,rfl⟩);omega
  refine⟨W.jY.sublist<|List.take_sublist _ _,Cu.mpr ⟨dr,W.jY.sublist<|List.drop_sublist _ _⟩,λa ha b hb=>?_⟩
  rcases Aj.mp hb with e | hb
  ·rw [e];exact tk a ha
  ·exact TX (tk a ha)<|dr b hb
 ·rw [e1]
  rcases Aj.mp (pm.mem_iff.mp hz) with e | hz
  ·rw [e];exact hj
  ·exact W.le z hz
 ·rw [pm.length_eq,e1];exact hf
 ·have up:∀{h':Int} {k:Nat},Reach t.mask (λj=>j∈Z.map (·.1)) h' k->Reach t'.mask (λi=>i∈(Z.take p++(j,(h,x)) :: Z.drop p).map (·.1)) h' k:=λr=>by
   rw [e1];refine r.mono λi _ hi=>?_;rw [(pm.map (·.1)).mem_iff];exact Ah _ hi
  rcases Aj.mp (pm.mem_iff.mp hz) with e | hz
  ·rw [e];exact up rN
  ·exact up<|W.O0 z hz
theorem q3j(m:Nat)(owner:dJ):(live m owner).Pairwise (λa b=>a.1 < b.1):=by
 unfold live;rw [List.pairwise_filterMap];refine List.Pairwise.imp (λ{a b} fI x hx y hy=>?_) List.pairwise_lt_range;rw [Ao] at hx hy;obtain⟨u,_,rfl⟩:=hx;obtain⟨v,_,rfl⟩:=hy;exact fI
theorem k8x{t:SetTable}{es:Array (Int×Value)}{wanted:Nat}(hm:Pow<|sizeAbove wanted)(hl:es.size<=sizeAbove wanted - 1) :
  ∃ t2 order Z,t.relaid (es.map (·.1)) wanted=some (t2,order)/\(order.filterMap (es[·]?)).size=es.size/\Wf t2 (order.filterMap (es[·]?)) Z/\(Z.map (·.2)).Perm es.toList/\t2.mask=sizeAbove wanted - 1:=by
 have hp:8<=sizeAbove wanted:=by rcases hm with h | h | h | h | h | h <;> omega
 have em:sizeAbove wanted - 1+1=sizeAbove wanted:=by omega
 obtain⟨o,e,L,R⟩:=q3l (mask:=sizeAbove wanted - 1) (by rw [em];exact hm) (es.map (·.1)) (by rw [Array.size_map];omega);rw [Array.size_map] at L;rw [show t.relaid (es.map (·.1)) wanted=laid (sizeAbove wanted - 1) t.finger (t.movedTo<|sizeAbove wanted - 1) t.led t.plain (es.map (·.1)) from rfl];generalize sizeAbove wanted - 1=mask at e L R em hl ⊢;have he:∀ p∈live (mask+1) o,p.2 < es.size/\p.1 < mask+1/\o[p.1]?=some (some p.2):=λp hp=>by
  have:=cE.mp hp;exact⟨L.lt _ _ this.2,this.1,this.2⟩
 have ef:∀ l:List<|Nat×Nat,(∀ p∈l,p.2 < es.size)->(l.map (·.2)).filterMap (es[·]?)=l.map λp=>(es[p.2]?).getD (0,.none):=λl=>by
  induction l with
  | nil=>intro _;rfl
  | cons p r ih=>
   intro hl;rw [Bd,Bd,Ej,Ce<|hl p Ae,ih λq hq=>hl q<|Ah _ hq];rfl
 have ee:(((live (mask+1) o).map (·.2)).toArray.filterMap (es[·]?)).toList=(live (mask+1) o).map λp=>(es[p.2]?).getD (0,.none):=by
  rw [Array.toList_filterMap];exact ef _ λp hp=>(he p hp).1
 have es2:(((live (mask+1) o).map (·.2)).toArray.filterMap (es[·]?)).size=es.size:=by
  rw [<- Cd,ee,Aa,L.length]
 refine⟨_,_,(live (mask+1) o).map λp=>(p.1,(es[p.2]?).getD (0,.none)),by unfold laid;rw [e];rfl,es2,⟨?_,?_,?_,λz hz=>?_,?_,rfl,by show Pow (mask+1);rw [em];exact hm,λz hz=>?_⟩,?_,rfl⟩
 ·show(live (mask+1) o).map (·.1)=_;rw [Ch];rfl
 ·rw [ee,Ch];rfl
 ·rw [Ef];exact q3j _ _
 ·obtain⟨p,hp,rfl⟩:=Am.mp hz;show p.1<=mask;have:=(he p hp).2.1;omega
 ·rw [Aa,L.length];exact hl
 ·obtain⟨p,hp,rfl⟩:=Am.mp hz;obtain⟨h1,h2,h3⟩:=he p hp;have hx:(es.map (·.1)).toList[p.2]?=some (es[p.2]).1:=by rw [Bh,Array.getElem?_map,Ce h1];rfl
  have eg:(es[p.2]?).getD (0,.none)=es[p.2]:=by rw [Ce h1];rfl
  show Reach mask _ ((es[p.2]?).getD (0,.none)).1 p.1;rw [eg];refine(R p.2 p.1 _ h3 hx).mono λi hi hn=>?_;rw [Ch];have his:i < o.size:=by rw [L.size];omega
  have h4:o[i]?=some o[i]:=Ce his;cases h5:o[i] with
  | none=>
   rw [h5] at h4;have:=nil?_iff.mpr h4;rw [hn] at this;cases this
  | some v=>
   rw [h5] at h4;exact Am.mpr ⟨(i,v),cE.mpr ⟨by omega,h4⟩,rfl⟩
 ·rw [Ch];have p1:((live (mask+1) o).map λp=>(es[p.2]?).getD (0,.none))=((live (mask+1) o).map (·.2)).map λv=>(es[v]?).getD (0,.none):=by rw [Ch];rfl
  show((live (mask+1) o).map λp=>(es[p.2]?).getD (0,.none)).Perm _;rw [p1];refine(L.perm.map _).trans<|List.Perm.of_eq ?_;apply Ed;intro i;rw [Ad]
  by_cases c:i < es.size
  ·rw [Dm c];show some ((es[i]?).getD (0,.none))=es.toList[i]?;rw [Bh,Ce c];rfl
  ·rw [Bv (by rw [Db];omega),Bh,Dk<|by omega];rfl
end
section
variable{prog:Program}{w:World}{K:Type} [DecidableEq K]
def ent(knd:HeapKind prog w K)(y:Nat×K×Addr):Ze:=(y.1,(knd.hash y.2.1,Value.ref y.2.2))
def uB(knd:HeapKind prog w K):Prop:=∀{A:Around} {E:Value->Shared->Prop} {s:Shared} {k:K} {a:Addr} {Q:Bool->Shared->Prop},knd.is s.heap k a->Q false s->wpAny (model prog w) A (ofAClassStatement 8<|.ref a) Q E s
variable{A:Around}{E:Value->Shared->Prop}{s:Shared}{a b:Addr}{knd:HeapKind prog w K}{k:K}{Y:List (Nat×K×Addr)}
theorem q49{Q:Bool->Shared->Prop}(U:uB knd)(hb:knd.is s.heap k b)(l:List Value)(hl:∀ v∈l,∃ k' c,v=Value.ref c/\knd.is s.heap k' c)(q:Q false s):wpAny (model prog w) A (searchCouldBeSeen (.ref b) l) Q E s:=by
 unfold searchCouldBeSeen;refine BJ<|RD _ (λrest r s'=>r.1=none/\s'=s/\∀ v∈rest,∃ k' c,v=Value.ref c/\knd.is s.heap k' c) _ ?_ ?_ l _ ⟨rfl,rfl,hl⟩
 ·rintro v rest r s' ⟨hr,rfl,hv⟩;obtain⟨k',c,rfl,hc⟩:=hv v Ae;have g9:∀ v∈rest,∃ k' c,v=Value.ref c/\knd.is s'.heap k' c:=λv h=>hv v<|Ah _ h
  dsimp only
  split
  ·exact BK ⟨rfl,rfl,g9⟩
  ·refine BJ<|knd.quiet hb ?_;simp only [Dz,Ax,CN];refine BJ<|knd.quiet hc ?_;simp only [Dz,Ax,CN];refine BJ<|U hb ?_;simp only [Ax,CN];refine BJ<|U hc ?_;simp only [Ax,CN];exact BK ⟨rfl,rfl,g9⟩
 ·rintro ⟨_,_⟩ s' ⟨rfl,rfl,_⟩;exact BK q
theorem q02{m:Nat}(h:Pow<|m+1):(m % 2 == 0)=false:=by
 rw [beq_eq_false_iff_ne]
 rcases h with h | h | h | h | h | h <;> omega
theorem E5{adding:Bool}{o:Obj}{es:Array (Int×Value)}{ep:Nat}{t:SetTable}{N:Nat}{Q:SetFound->Shared->Prop}(U:uB knd)(hA:knd.room A)(ho:s.heap.get? a=some o)(hd:o.data = .set es ep t)(W:Wf t es<|Y.map<|ent knd)
  (hY:∀ y∈Y,knd.is s.heap y.2.1 y.2.2) (hb:knd.is s.heap k b) (S:Stop t.mask (Y.map<|ent knd) (knd.hash k) N)
  (k0:k∉Y.map (·.2.1)->Q (.free (pr t.mask (knd.hash k) N).j false) s) (k1:∀ oi,k∈Y.map (·.2.1)->(adding=false->oi.isSome=true)->Q (.there oi) s) :
  ∀(fuel m:Nat) (stand:Option Probe),stand.getD (t.probeStart<|knd.hash k)=pr t.mask (knd.hash k) m->m<=N->N - m < fuel->(∀ l,l < m->∀ y∈Y,y.1=(pr t.mask (knd.hash k) l).j->y.2.1≠k) ->
   wpAny (model prog w) A (setSearchFrom a (.ref b) (knd.hash k) adding fuel stand) Q E s
 | 0,m,stand,_,_,hf,_=>absurd hf<|Eh _
 | fuel+1,m,stand,hs,hm,hf,hn=>by
  unfold setSearchFrom;refine BJ<|CV ho hd W.fits ?_
  dsimp only
  rw [hs];have gw:t.gaveWay=false:=q02 W.pow;rw [gw];simp only [Ax,CN];have hl:=S.lt;have G:=W.go (hashAt:=λi=>(es[i]?.map (·.1)).getD 0) (λi e he=>by show(es[i]?.map (·.1)).getD 0=e.1;rw [he];rfl) S (10 * turns t.mask) m hm<|by omega
  split
  ·rename_i met uC
   rcases G with ⟨m',i,z,a1,a2,a3,a4,a5,a6,a7⟩ | ⟨a1,a2⟩
   ·have e2:=Option.some.inj<|uC.symm.trans a7;subst e2;rw [Ad,Ao] at a3;obtain⟨y,hy,rfl⟩:=a3;have E6:y∈Y:=An hy;have hZ:(Y.map<|ent knd)[i]?=some (ent knd y):=by rw [Ad,hy];rfl
    have EZ:t.slot (pr t.mask (knd.hash k) m').j = .live i:=by rw [<- a4];exact W.dX hZ
    have O2:es[i]?=some (knd.hash y.2.1,Value.ref y.2.2):=(W.at hZ).2;have tO:t.sameMemory t.moves t.mask=some true:=by unfold sameMemory;rw [BP<|HN _]
    have g7:∀(Q':Bool->Shared->Prop),Q' true s->wpAny (model prog w) A (isSame (.ref y.2.2)<|.ref y.2.2) Q' E s:=λQ' q=>by
     unfold isSame;simp only;rw [BP<|HN _];exact BK q
    have again:y.2.1≠k->wpAny (model prog w) A (setSearchFrom a (.ref b) (knd.hash k) adding fuel<|some<|pr t.mask (knd.hash k)<|m'+1) Q E s:=λne=>
     E5 U hA ho hd W hY hb S k0 k1 fuel (m'+1) (some<|pr t.mask (knd.hash k)<|m'+1) rfl (by omega) (by omega) λl iw y' lQ E7=>by
      by_cases c:l < m
      ·exact hn l c y' lQ E7
      ·by_cases d:l=m'
       ·subst d;have:(ent knd y')=ent knd y:=by
         obtain⟨i',i8⟩:=Bb lQ;have E8:(Y.map<|ent knd)[i']?=some (ent knd y'):=by rw [Ad,i8];rfl
         have:=W.inj E8 hZ (by show y'.1=(ent knd y).1;rw [a4];exact E7);subst this;rw [hZ] at E8;exact(Option.some.inj E8).symm
        have e3:y'.2.2=y.2.2:=by
         have:=BX (λz:Ze=>z.2.2) this;exact Value.ref.inj this
        have h1:=hY y' lQ;rw [e3] at h1;rw [knd.inj h1<|hY y E6];exact ne
       ·intro ek;refine a6 l (by omega) (by omega) (ent knd y') (Am.mpr ⟨y',lQ,rfl⟩) E7 ?_;show knd.hash y'.2.1=knd.hash k;rw [ek]
    dsimp only
    split
    all_goals
     try
      refine BJ<|q49 U hb _ ?hm ?_
      case hm=>
       intro v hv;obtain⟨e,he,rfl⟩:=Am.mp hv;rw [Array.toList_filter,Da,W.ents] at he;obtain⟨z,hz,rfl⟩:=Am.mp he.1;obtain⟨y',lQ,rfl⟩:=Am.mp hz;exact⟨y'.2.1,y'.2.2,rfl,hY y' lQ⟩
      simp only [Ax,CN]
     rw [O2]
     dsimp only
     refine BJ<|CJ<|knd.eqBool hA (hY y E6) hb ?_;refine BJ<|CV ho hd W.fits ?_
     dsimp only
     rw [tO,EZ]
     dsimp only
     rw [BP (rfl:true=true)]
     dsimp only
     rw [O2]
     dsimp only
     by_cases ek:y.2.1=k
     ·have rW:k∈Y.map (·.2.1):=Am.mpr ⟨y,E6,ek⟩;rw [BW ek];cases adding with
      | true=>
       simp only [Bool.and_self,DK];exact BK<|k1 none rW λz=>nomatch z
      | false=>
       simp only [RW,Ax,CN,DK];refine BJ<|g7 _ ?_;refine BJ<|BK ?_;simp only [DK];exact BK<|k1 (some i) rW λ_=>rfl
     ·rw [BR ek];simp only [Es,Ax,CN,DK];refine BJ<|g7 _ ?_;refine BJ<|BK ?_;simp only [DK];exact again ek
   ·have e2:=Option.some.inj<|uC.symm.trans a2;subst e2
    dsimp only
    refine BK<|k0 λhk=>?_;obtain⟨y,hy,ey⟩:=Am.mp hk;have hz:ent knd y∈Y.map (ent knd):=Am.mpr ⟨y,hy,rfl⟩;obtain⟨n,e1,e2⟩:=W.O0 _ hz;have eh:(ent knd y).2.1=knd.hash k:=by show knd.hash y.2.1=_;rw [ey]
    rw [eh] at e1 e2;have hnN:n < N:=by
     refine CK λc=>?_
     rcases Cz N n with d | d
     ·exact S.out<|e2 N d
     ·have:n=N:=by omega
      subst this;exact S.out<|by rw [e1];exact Am.mpr ⟨_,hz,rfl⟩
    by_cases c:n < m
    ·exact hn n c y hy e1.symm ey
    ·exact a1 n (by omega) hnN _ hz e1.symm eh
  ·rename_i O3
   rcases G with ⟨m',i,z,a1,a2,a3,a4,a5,a6,a7⟩ | ⟨a1,a2⟩
   ·exact absurd a7<|O3 _
   ·exact absurd a2<|O3 _
end
section
variable{prog:Program}{w:World}{K:Type} [DecidableEq K]
def eV(m:Nat):Prop:=m=7\/m=31\/m=127\/m=511
def iD(knd:HeapKind prog w K)(h:Heap)(a:Addr)(Y:List<|Nat×K×Addr):Prop:=
 ∃ o es ep t,h.get? a=some o/\o.ExactSet/\o.data = .set es ep t/\Wf t es (Y.map<|ent knd)/\Y.length * 5 < t.mask * 3/\eV t.mask
def O4(knd:HeapKind prog w K):Prop:=∀{A:Around} {E:Value->Shared->Prop} {s:Shared} {k:K} {a:Addr} {Q:Bool->Shared->Prop},knd.is s.heap k a->(∀ b,Q b s)->wpAny (model prog w) A (hashByValue 8<|.ref a) Q E s
variable{A:Around}{E:Value->Shared->Prop}{s:Shared}{a b:Addr}{knd:HeapKind prog w K}{k:K}{Y:List (Nat×K×Addr)}
theorem O5{es:Array (Int×Value)}:byScan (.ref b) es=false:=by
 unfold byScan;rfl
theorem q0v{Q:Option Nat->Shared->Prop}(U:uB knd)(hA:knd.room A)(S:iD knd s.heap a Y)(hY:∀ y∈Y,knd.is s.heap y.2.1 y.2.2)(hb:knd.is s.heap k b)
  (k0:k∉Y.map (·.2.1)->Q none s) (k1:∀ i,k∈Y.map (·.2.1)->Q (some i) s):wpAny (model prog w) A (setFind a (.ref b)<|knd.hash k) Q E s:=by
 obtain⟨o,es,ep,t,ho,hx,hd,W,_⟩:=S;obtain⟨N,SN⟩:=W.stop<|knd.hash k;have hl:=SN.lt;have hm:=W.pow.pos.2;unfold setFind setFindIn;refine BJ<|CV ho hd W.fits ?_
 dsimp only
 rw [O5];simp only [Ax,CN];refine BJ ?_;refine E5 (adding:=false) U hA ho hd W hY hb SN (λhk=>?_) (λoi hk hs=>?_) 100000 0 none (OT t _) (Bu _) (by unfold turns at hl;omega) λl iw=>absurd iw<|Eh _
 ·exact BK<|k0 hk
 ·cases oi with
  | none=>exact absurd (hs rfl) Ar
  | some i=>exact BK<|k1 i hk
theorem q32{m:Nat}(h:eV m):Pow (m+1):=by
 unfold eV at h;unfold Pow
 rcases h with rfl | rfl | rfl | rfl <;> decide
theorem q22{m n:Nat}(hw:eV m)(h1:(n - 1) * 5 < m * 3)(h2:n * 5>=m * 3)(h0:1<=n)(h3:n<=300):eV (sizeAbove (grown n) - 1)/\n<=sizeAbove (grown n) - 1/\n * 5 < (sizeAbove (grown n) - 1) * 3:=by
 rcases hw with h | h | h | h
 ·have:n=5:=by omega
  subst this;unfold eV;decide +kernel
 ·have:n=19:=by omega
  subst this;unfold eV;decide +kernel
 ·have:n=77:=by omega
  subst this;unfold eV;decide +kernel
 ·omega
theorem O6{o:Obj}{ep:Nat}{es cX:Array (Int×Value)}{t t':SetTable}{h:Heap}{Y':List (Nat×K×Addr)}(ho:h.get? a=some o)(hx:o.ExactSet)(hd:o.data = .set es ep t)(W':Wf t' cX<|Y'.map<|ent knd) :
  (h.update a<|Obj.putSet cX t').get? a=some {o with data:= .set cX (ep+1) t'}:=by
 have q:=Dh (Obj.putSet cX t') ho (by rw [putSet_of cX t' hd];rfl);rw [putSet_of cX t' hd] at q;exact q
theorem O7{α β:Type}{f:α->β}{L M:List β}(h:L.Perm M):∀{Y':List α},Y'.map f=M->∃ Y2:List α,L=Y2.map f/\Y2.Perm Y':=by
 induction h with
 | nil=>
  intro Y' hM;have:Y'=[]:=by simpa using hM
  subst this;exact⟨[],rfl,.refl _⟩
 | cons x p ih=>
  intro Y' hM;cases Y' with
  | nil=>cases hM
  | cons y r=>
   rw [Bd] at hM
   injection hM with e1 e2
   subst e1;obtain⟨Y2,e3,p2⟩:=ih e2;exact⟨y :: Y2,by rw [e3];rfl,p2.cons y⟩
 | swap x y l=>
  intro Y' hM;cases Y' with
  | nil=>cases hM
  | cons u r=>
   cases r with
   | nil=>cases hM
   | cons v r=>
    rw [Bd,Bd] at hM
    injection hM with e1 e2
    injection e2 with e2 e3
    subst e1 e2 e3;exact⟨v :: u :: r,rfl,.swap _ _ _⟩
 | trans p1 p2 ih1 ih2=>
  intro Y' hM;obtain⟨Y2,e2,q2⟩:=ih2 hM;obtain⟨Y3,e3,q3⟩:=ih1 e2.symm;exact⟨Y3,e3,q3.trans q2⟩
theorem glue:∀{Z:List Ze} {Y:List (Nat×K×Addr)},Z.map (·.2)=Y.map (λy=>(ent knd y).2)->∃ Y2:List<|Nat×K×Addr,Z=Y2.map (ent knd)/\Y2.map (·.2)=Y.map (·.2)
 | [],[],_=>⟨[],rfl,rfl⟩
 | [],_ :: _,h=>by cases h
 | _ :: _,[],h=>by cases h
 | z :: Z,y :: Y,h=>by
  rw [Bd,Bd] at h
  injection h with h1 h2
  obtain⟨Y2,e1,e2⟩:=glue h2;refine⟨(z.1,y.2) :: Y2,?_,by rw [Bd,Bd,e2]⟩;rw [Bd,<- e1]
  congr 1
  show z=(z.1,(ent knd y).2);rw [<- h1]
theorem q2d{Q:Bool->Shared->Prop}(U:uB knd)(HB:O4 knd)(hA:knd.room A)(S:iD knd s.heap a Y)(hY:∀ y∈Y,knd.is s.heap y.2.1 y.2.2)(hb:knd.is s.heap k b)(hl:Y.length+1<=300)
    (q0:k∈Y.map (·.2.1)->Q false s) (q1:∀ h' Y',k∉Y.map (·.2.1)->Heap.SameBut a s.heap h'->iD knd h' a Y'->(Y'.map (·.2)).Perm ((k,b) :: Y.map (·.2))->Q true {s with heap:=h'}) :
    wpAny (model prog w) A (setAddHashed a (.ref b)<|knd.hash k) Q E s:=by
  obtain⟨o,es,ep,t,ho,hx,hd,W,O8,hw⟩:=S;obtain⟨N,SN⟩:=W.stop<|knd.hash k;have aM:=SN.lt;have hm:=W.pow.pos;have eZ:(Y.map<|ent knd).length=Y.length:=Aa ..;unfold setAddHashed setAddHashedIn;refine CJ<|BJ<|CV ho hd W.fits ?_
  dsimp only
  rw [O5];simp only [Ax,CN];refine BJ ?_;refine E5 (adding:=true) U hA ho hd W hY hb SN (λhk=>?_) (λoi hk hs=>?_) 100000 0 none (OT t _) (Bu _) (by unfold turns at aM;omega) λl iw=>absurd iw<|Eh _
  · dsimp only
    refine BJ<|CV ho hd W.fits ?_
    dsimp only
    have put:=λ(t':SetTable) e1 e2 e3=>W.put (x:= .ref b) SN (t':=t') e1 e2 e3 (by rw [eZ];omega);have fin:∀ t':SetTable,t'.mask=t.mask->t'.place=(t.put (pr t.mask (knd.hash k) N).j).1.place->t'.dummies=#[]->wpAny (model prog w) A (do
        storeSet a (insertAt es (t.put (pr t.mask (knd.hash k) N).j).2 (knd.hash k,.ref b)) t'
        if (!false && t'.tooFull) = true then do
            setRelay a (grown<|es.size+1)
            pure true
          else pure true) Q E s:=λt' e1 e2 e3=>by
      obtain⟨Z',W',pZ⟩:=put t' e1 e2 e3;obtain⟨Y2,eY2,O9⟩:=O7 pZ (f:=ent knd) (Y':=((pr t.mask (knd.hash k) N).j,k,b) :: Y) rfl;subst eY2;have lY2:Y2.length=Y.length+1:=O9.length_eq;have lE:=W'.len;rw [Aa] at lE;have pk:(Y2.map (·.2)).Perm ((k,b) :: Y.map (·.2)):=O9.map (·.2);generalize insertAt es (t.put (pr t.mask (knd.hash k) N).j).2 (knd.hash k,.ref b)=cF at W' lE ⊢;refine BJ (JZ ho hd ?_<|l8<|by omega);have g1:=O6 (knd:=knd) (Y':=Y2) ho hx hd W';have sb:=CZ s.heap a<|Obj.putSet cF t';have mL:t'.fill=Y2.length:=by
        unfold fill;rw [W'.uA,e3,Aa];rfl
      by_cases full:t'.tooFull=true
      · rw [full];simp only [Gn,Bool.and_self,DK];unfold tooFull at full;rw [EY,mL,e1] at full;obtain⟨w1,w2,w3⟩:=q22 (n:=es.size+1) hw (by rw [W.len,eZ];omega) (by rw [W.len,eZ];omega) (by omega) (by rw [W.len,eZ];omega);have en:es.size+1=cF.size:=by rw [lE,lY2,W.len,eZ]
        rw [en] at w1 w2 w3 ⊢;have hp8:sizeAbove (grown cF.size) - 1+1=sizeAbove (grown cF.size):=by unfold eV at w1;omega
        have pw:=q32 w1;rw [hp8] at pw;obtain⟨t2,order,Z3,r1,r2,r3,r4,r5⟩:=k8x (t:=t') (es:=cF) pw w2;refine BJ ?_;unfold setRelay;refine BJ<|CV g1 rfl W'.fits ?_
        dsimp only
        have E9:¬(sizeAbove (grown cF.size) > sizeLine):=by
          have:=pw.pos.2;rw [DQ];omega
        rw [BL E9,r1];refine BJ ?_;show wpAny _ _ (if((order.filterMap (cF[·]?)).size != cF.size)=true then _ else _) _ _ _;rw [BL<|by rw [r2];simp];refine BK ?_;refine JZ g1 rfl ?_ (by rw [r2];exact l8<|by omega);refine BK ?_;rw [W'.ents,Ch] at r4;obtain⟨Y4,eY4,O'⟩:=O7 r4 (f:=λy=>(ent knd y).2) (Y':=Y2) rfl;obtain⟨Y5,eY5,Pa⟩:=glue eY4;subst eY5;have uk:({o with data:= .set cF (ep+1) t'}:Obj).ExactSet:=hx;have g2:=O6 (knd:=knd) (Y':=Y5) g1 uk rfl r3;have lY5:Y5.length=Y2.length:=by
          have:=BX List.length Pa;rw [Aa,Aa,O'.length_eq] at this;exact this
        refine q1 _ Y5 hk (sb.trans<|CZ _ a _) ⟨_,_,_,t2,g2,uk,rfl,r3,by rw [r5,lY5,<- lE];exact w3,by rw [r5];exact w1⟩ ?_;rw [Pa];exact(O'.map (·.2)).trans pk
      · rw [Bool.not_eq_true] at full;rw [full];simp only [Es,Ax,CN];refine BK (q1 _ Y2 hk sb ⟨_,cF,ep+1,t',g1,hx,rfl,W',?_,by rw [e1];exact hw⟩ pk);unfold tooFull at full;rw [HW,mL] at full;omega
    have dm:(t.put (pr t.mask (knd.hash k) N).j).1.dummies=#[]:=by
      show(if has t.dummies _=true then _ else t.dummies)=#[];rw [W.E3];rfl
    split
    · refine BJ<|HB hb λbv=>?_;cases bv with
      | true=>exact fin (t.put (pr t.mask (knd.hash k) N).j).1 rfl rfl dm
      | false=>exact fin {(t.put (pr t.mask (knd.hash k) N).j).1 with plain:=false} rfl rfl dm
    · exact BJ<|BK<|fin (t.put (pr t.mask (knd.hash k) N).j).1 rfl rfl dm
  · dsimp only
    exact BK<|q0 hk
end
section
variable{prog:Program}{w:World}{K:Type} [DecidableEq K] {knd:KeyKind prog w K}
theorem q0i{v:Value}(h:carriedByValue v=true):ofAClassStatement 7 v=pure false:=by
 cases v <;> first | rfl | exact absurd h (by decide) | (unfold carriedByValue at h;cases h)
theorem q0u{v:Value}(h:carriedByValue v=true):∃ b,hashByValue 7 v=pure b:=by
 cases v <;> first | exact⟨_,rfl⟩ | exact absurd h (by decide) | (unfold carriedByValue at h;cases h)
theorem Pb:uB (tupleKind knd):=by
 intro A E s k a Q hk q;have hT:=IsTupleKey.typeIs hk;obtain⟨o,items,n,ho,hc,hd,hi⟩:=hk;unfold ofAClassStatement;refine BJ<|JT hT ?_
 dsimp only
 refine BJ<|BK ?_;simp only [Dz,Ax,CN];refine BJ<|JW ho hd ?_
 dsimp only
 refine BJ ?_;rw [<- Array.forIn_toList];refine RD _ (λrest r s'=>r.1=none/\s'=s/\∀ v∈rest,carriedByValue v=true) _ ?_ ?_ _ _ ⟨rfl,rfl,hi.byValue⟩
 ·rintro v rest r s' ⟨hr,rfl,eC⟩;rw [q0i<|eC v Ae];refine BJ<|BK ?_;simp only [Ax,CN];exact BK ⟨rfl,rfl,λu hu=>eC u<|Ah _ hu⟩
 ·rintro ⟨r1,r2⟩ s' ⟨hr,rfl,_⟩;simp only at hr;subst hr;exact BK q
theorem j89:O4 (tupleKind knd):=by
 intro A E s k a Q hk q;have hT:=IsTupleKey.typeIs hk;obtain⟨o,items,n,ho,hc,hd,hi⟩:=hk;unfold hashByValue;refine BJ<|MK hT F.slot_tuple_hash.lookup ?_
 dsimp only
 refine BJ<|JW ho hd ?_;refine BJ ?_;show wpAny _ _ (forIn items _ _) _ _ s;rw [<- Array.forIn_toList];refine RD _ (λrest r s'=>s'=s/\∀ v∈rest,carriedByValue v=true) _ ?_ ?_ _ _ ⟨rfl,hi.byValue⟩
 ·rintro v rest r s' ⟨rfl,eC⟩;obtain⟨b,eb⟩:=q0u<|eC v Ae;rw [eb];refine BJ<|BK ?_;cases b with
  | true=>
   simp only [Dz,Ax,CN];exact BK ⟨rfl,λu hu=>eC u<|Ah _ hu⟩
  | false=>
   simp only [Gn,DK];exact BK<|by first | exact BK (q _) | trace_state
 ·rintro ⟨r1,r2⟩ s' ⟨rfl,_⟩;cases r1 with
  | none=>exact BK<|q _
  | some r=>exact BK<|q _
end
end bD
namespace L2
open PySem PySem.Spec PyProof.Rows bD Classical
abbrev Yt:=Nat×List Key×Addr
def iW(prog:Program)(w:World)(a:Addr)(Y:List Yt):HO:= .ext λh=>iD (tupleKind<|bO prog w) h a Y
section
variable{prog:Program}{w:World}{A:Around}{E:Value->Shared->Prop}{s:Shared}{a b:Addr}{Y:List Yt}{k:List Key}
theorem q39{h h':Heap}(S:iD (tupleKind<|bO prog w) h a Y)(q:∀ o,h.get? a=some o->h'.get? a=some o):iD (tupleKind<|bO prog w) h' a Y:=let ⟨o,es,ep,t,h1,h2⟩:=S;⟨o,es,ep,t,q o h1,h2⟩
theorem FA(S:iD (tupleKind<|bO prog w) s.heap a Y):s.TypeIs (.ref a) "set":=let ⟨o,_,_,_,h1,h2,_⟩:=S;⟨o,h1,h2.1⟩
theorem q65{h:Heap}(e:h.get? a=some (fe w)):iD (tupleKind<|bO prog w) h a []:=
 ⟨_,#[],0,_,e,⟨rfl,rfl,rfl⟩,rfl,⟨rfl,rfl,List.Pairwise.nil,λz hz=>(by cases hz),by show 0<=7;decide,rfl,.inl rfl,λz hz=>(by cases hz)⟩,by show 0 * 5 < 7 * 3;decide,.inl rfl⟩
theorem k3o{Q:Value->Shared->Prop}(hu:A.units+1 < cLine)(S:iD (tupleKind<|bO prog w) s.heap a Y)(hY:∀ y∈Y,(tupleKind<|bO prog w).is s.heap y.2.1 y.2.2)(hb:(tupleKind<|bO prog w).is s.heap k b)
  (h:∀ tk,Q (.bool (decide (k∉Y.map (·.2.1)))) {s with toks:=tk}):wpAny (model prog w) A (compareOp .NotIn (.ref b)<|.ref a) Q E s:=by
 have hT:=FA S;show wpAny _ _ (do return .bool (!(<- contains (.ref a)<|.ref b))) Q E s;refine BJ ?_;unfold contains
 try with_reducible refine CJ ?_
 refine BJ<|MK hT PySem.F.slot_set_contains.lookup ?_;show wpAny _ _ (if(some (Value.builtin "set.__contains__") == some Value.none)=true then _ else _) _ E s;rw [BL<|by rw [beq_builtin_none];exact Ar];refine BJ<|wpAny_callSpecialUnlessNone?_slot (name:=Str.ofString "__contains__") hT QS<|DN QS hT entry_set_contains ?_<|PySem.F.args_set_contains_2 _ _;unfold Builtin.«frozenset.__contains__» Builtin.Frozenset.oneOther;simp only [Gd,bind_assoc];unfold Builtin.Frozenset.addrOf Builtin.Frozenset.withSetAsKey setContains;refine BJ<|BK ?_
 try dsimp only
 refine BJ<|BK ?_
 try dsimp only
 refine BJ<|wpAny_tryCatch<|CJ ?_;refine BJ<|(tupleKind<|bO prog w).pyHash (k:=k) (FN hu) hb ?_;refine BJ<|q0v (s:={s with toks:=s.toks+(tupleKind<|bO prog w).draws k}) Pb (FN hu) S hY hb (λhz=>?_) λj hz=>?_
 ·refine BK ?_;show wpAny _ _ (ret<|Value.bool false) _ _ _;have h:=h<|s.toks+(tupleKind<|bO prog w).draws k;rw [BW hz] at h;exact BK ⟨_,rfl,DY<|BK h⟩
 ·refine BK ?_;show wpAny _ _ (ret<|Value.bool true) _ _ _;have h:=h<|s.toks+(tupleKind<|bO prog w).draws k;rw [BR<|not_not_intro hz] at h;exact BK ⟨_,rfl,DY<|BK h⟩
theorem k44{Q:Value->Shared->Prop}(hu:A.units+1 < cLine)(S:iD (tupleKind<|bO prog w) s.heap a Y)(hY:∀ y∈Y,(tupleKind<|bO prog w).is s.heap y.2.1 y.2.2)(hb:(tupleKind<|bO prog w).is s.heap k b)(hl:Y.length+1<=300)
  (h:∀ h' tk Y',Heap.SameBut a s.heap h'->iD (tupleKind<|bO prog w) h' a Y'->(Y'.map (·.2)).Perm (if k∈Y.map (·.2.1) then Y.map (·.2) else(k,b) :: Y.map (·.2))->Q .none {s with heap:=h',toks:=tk}) :
  wpAny (model prog w) A (call (.builtin "set.add") [.ref a,.ref b]) Q E s:=by
 have hT:=FA S;refine DN F.slot_set_add hT F.entry_set_add ?_<|F.args_set_add_2 _ _;unfold Builtin.«set.add» Builtin.Frozenset.oneOther;simp only [Gd,bind_assoc];unfold Builtin.Frozenset.addrOf setAdd;refine BJ<|BK ?_
 try dsimp only
 refine BJ<|BK ?_
 try dsimp only
 refine BJ ?_;refine CJ ?_;refine BJ<|(tupleKind<|bO prog w).pyHash (k:=k) (FN hu) hb ?_;refine q2d (s:={s with toks:=s.toks+(tupleKind<|bO prog w).draws k}) Pb j89 (FN hu) S hY hb hl (λhk=>?_) λh' Y' hk sb S' p=>?_
 ·show wpAny _ _ (ret Value.none) _ _ _;exact BK ⟨_,rfl,h s.heap _ Y (Heap.SameBut.refl a s.heap) S<|by rw [BP hk]⟩
 ·show wpAny _ _ (ret Value.none) _ _ _;exact BK ⟨_,rfl,h h' _ Y' sb S'<|by rw [BL hk];exact p⟩
end
section
variable{X:Cx}{σ:St}{H:Hp}{Q:VK}{pins:List (Addr×Obj)}{s:Shared}{a b:Addr}{Y:List Yt}
theorem Pg{h:Heap}(S:iD (tupleKind<|bO X.prog X.w) h a Y):ax X.prog X.w H h a (iW X.prog X.w a Y):=by
 refine⟨S,?_,λh1 h2 q k=>q39 q k⟩;obtain⟨o,_,_,_,ho,_⟩:=S;exact⟨o,ho⟩
theorem Inv.o7(I:Inv X pins σ H s)(h:H a=some (iW X.prog X.w a Y)):iD (tupleKind<|bO X.prog X.w) s.heap a Y:=(I.aD a _ h).1
structure bP(prog:Program)(w:World)(H:Hp)(a:Addr)(ks:List<|List Key):Prop where
 ex:∃ Y,H a=some (iW prog w a Y)/\(∀ y∈Y,H y.2.2=some (.tup<|y.2.1.map kV))/\(Y.map (·.2.1)).Perm ks
theorem bP.same{prog:Program}{w:World}{H H':Hp}{ks:List (List Key)}(h:bP prog w H a ks)(s:aj H H'):bP prog w H' a ks:=let ⟨Y,h1,h2,h3⟩:=h.ex;⟨Y,s _ _ h1,λy hy=>s _ _<|h2 y hy,h3⟩
theorem bP.keep{prog:Program}{w:World}{H H':Hp}{ks:List (List Key)}(h:bP prog w H a ks)(k1:H' a=H a)(k2:∀ b xs,H b=some (.tup xs)->H' b=some (.tup xs)):bP prog w H' a ks:=let ⟨Y,h1,h2,h3⟩:=h.ex;⟨Y,by rw [k1];exact h1,λy hy=>k2 _ _<|h2 y hy,h3⟩
theorem bP.ne{prog:Program}{w:World}{H:Hp}{ks:List (List Key)}{o:HO}(h:bP prog w H a ks)(e:H b=some o)(ho:∀ φ,o ≠ .ext φ):b≠a:=λq=>by
 obtain⟨Y,h1,_⟩:=h.ex;rw [q,h1] at e;exact ho _ (Option.some.inj e).symm
theorem bP.some{prog:Program}{w:World}{H:Hp}{ks:List (List Key)}(h:bP prog w H a ks):H a≠none:=λq=>by
 obtain⟨Y,h1,_⟩:=h.ex;rw [q] at h1;cases h1
theorem k85{p pos:Pos}(hm:X.mg "set" = none)(h:∀ D,H D=none->Q (.ref D) (upd H D<|iW X.prog X.w D []))(hg:Gl X "set":=by rfl):Ev X (.Call (.Name "set" p) [] [] pos) σ H Q:=by
 refine⟨λpins s I=>Call_<|lK I hg hm TJ<|PyProof.Rows.callWith_type0<|X1 ?_⟩;exact⟨.ref s.heap.objs.size,_,I.laid (t':=s.toks) (λb o e=>Af _ e) (Al _)<|Pg<|q65<|Ap _ rfl,rfl,h _ I.fresh⟩
theorem o8{prog:Program}{w:World}{D:Addr}:bP prog w (upd H D<|iW prog w D []) D []:=⟨[],aw,λy hy=>(by cases hy),.refl _⟩
theorem j74(hu:X.A.units+1 < cLine):cK X (compareOp .NotIn) (λx y H Q=>∃ k b a ks,x = .ref b/\y = .ref a/\H b=some (.tup<|k.map kV)/\bP X.prog X.w H a ks/\Q (.bl<|decide (k∉ks)) H):=by
 intro pins s σ H x y v u Q I rx ry h;obtain⟨k,b,a,ks,rfl,rfl,hb,T,q⟩:=h;obtain⟨Y,h1,h2,h3⟩:=T.ex;cases (show v=Value.ref b from rx);cases (show u=Value.ref a from ry);refine k3o hu (Inv.o7 I h1) (λy hy=>jL I.aD<|h2 y hy) (jL I.aD hb) λtk=>⟨.bl<|decide (k∉ks),H,I.tok _,?_,q⟩;show Value.bool _=Value.bool _
 congr 1
 exact decide_eq_decide.mpr<|not_congr h3.mem_iff
theorem q47{o e:Expr}{ap cp:Pos}(hu:X.A.units+1 < cLine) (h:Ev X o σ H λx H1=>∃ a,x = .ref a/\(∃ ks,bP X.prog X.w H1 a ks)/\Ev X e σ H1 λy H2=>∃ k b ks,y = .ref b/\H2 b=some (.tup<|k.map kV)/\bP X.prog X.w H2 a ks/\ks.length+1<=300 /\
   ∀ oo,bP X.prog X.w (upd H2 a oo) a (if k∈ks then ks else k :: ks)->Q .non (upd H2 a oo))
  (bG:attributeBase o "add" X.env (eval o X.env)=eval o X.env:=by rfl)
  (cO:((backTo cp<|starEach [e] X.env).all (λx=>!x.1) && (backToKw cp<|keywordEach [] X.env).all (λx=>x.1.isSome) && decide ([e].length+([]:List Keyword).length+(if([]:List Keyword).isEmpty then 0 else 1) < 30))=true:=by rfl)
  (hline:(ap.endLine == cp.line)=true:=by rfl) (hs:starEach [e] X.env=(false,eval e X.env) :: starEach [] X.env:=by rfl) (cS:isStar e=false:=by rfl):Ev X (.Call (.Attribute o "add" ap) [e] [] cp) σ H Q:=by
 refine⟨λpins s I=>wpAny_Call_method_late bG cO hline rfl (aI (h.run pins s I) λv s1 ⟨x,H1,I1,r1,a,ex,⟨ks,hA⟩,h2⟩=>?_)⟩;subst ex;cases (show v=Value.ref a from r1);obtain⟨Y0,g1,_⟩:=hA.ex;have S:=Inv.o7 I1 g1;refine⟨"set","set.add",PySem.F.plainAttrs_set,PySem.F.slot_set_add,PySem.F.type_set_add,FA S,λb eb=>?_,?_⟩
 ·cases eb;obtain⟨o,_,_,_,ho,hx,_⟩:=S;exact⟨o,ho,hx.2.1⟩
 have hE:Ea X [e] σ H1 (λys H2=>∃ k b ks,ys=[.ref b]/\H2 b=some (.tup<|k.map kV)/\bP X.prog X.w H2 a ks/\ks.length+1<=300/\∀ oo,bP X.prog X.w (upd H2 a oo) a (if k∈ks then ks else k :: ks)->Q .non (upd H2 a oo)):=
  ak (h2.mono λy H2 ⟨k,b,ks,ey,q⟩=>aq ⟨k,b,ks,by rw [ey],q⟩) cS
 have Ph:=hE.run cp pins s1 I1;rw [hs] at Ph ⊢;refine JC rfl (MF ?_);refine aI Ph λus s2 ⟨vs,H2,I2,r2,k,b,ks,ev,hb,T,hl,q⟩=>?_;subst ev;obtain⟨u,rfl,ru⟩:=vals1 r2;cases (show u=Value.ref b from ru);obtain⟨Y,g1,g2,g3⟩:=T.ex;have hlY:Y.length=ks.length:=by
  have:=g3.length_eq;rw [Aa] at this;exact this
 refine k44 hu (Inv.o7 I2 g1) (λy hy=>jL I2.aD<|g2 y hy) (jL I2.aD hb) (by omega) λh' tk Y' sb S' p=>?_;refine⟨.non,_,lT (t':=tk) I2 (by rw [g1];exact True.intro) sb ?_<|Pg S',rfl,q _ ?_⟩
 ·obtain⟨o,_,_,_,ho,_⟩:=S';exact⟨o,ho⟩
 ·have nt:∀{c:Addr} {xs:List V},H2 c=some (.tup xs)->c≠a:=λe z=>by
   rw [z,g1] at e;cases e
  refine⟨Y',aw,λy hy=>?_,?_⟩
  ·have hm:y.2∈(if k∈Y.map (·.2.1) then Y.map (·.2) else(k,b) :: Y.map (·.2)):=p.mem_iff.mp<|Am.mpr ⟨y,hy,rfl⟩;have old:y.2∈Y.map (·.2)->(upd H2 a<|iW X.prog X.w a Y') y.2.2=some (.tup<|y.2.1.map kV):=λhm=>by
    obtain⟨z,hz,ez⟩:=Am.mp hm;rw [<- ez,av<|nt<|g2 z hz];exact g2 z hz
   split at hm
   ·exact old hm
   ·rcases Aj.mp hm with e | hm
    ·rw [e,av<|nt hb];exact hb
    ·exact old hm
  ·have p2:=p.map (·.1);rw [Ch] at p2;refine p2.trans ?_
   by_cases c:k∈Y.map (·.2.1)
   ·rw [BP c,BP<|g3.mem_iff.mp c,Ch];exact g3
   ·rw [BL c,BL λz=>c<|g3.mem_iff.mpr z,Bd,Ch];exact g3.cons k
end
end L2
namespace F3
open PySem L2 Nt bM bD
def hU(n:Net)(H:Hp)(ts:List Addr)(es:List Nt.End):Prop:=ts.length=es.length/\∀(j:Nat) t e,ts[j]?=some t->es[j]?=some e->H t=some (TN n e)
theorem hU.keep{n:Net}{H H':Hp}{ts:List Addr}{es:List Nt.End}(h:hU n H ts es)(k:∀ t p j,H t=some (Tn p j)->H' t=some (Tn p j)):hU n H' ts es:=⟨h.1,λj t e h1 h2=>k _ _ _<|h.2 j t e h1 h2⟩
theorem hU.same{n:Net}{H H':Hp}{ts:List Addr}{es:List Nt.End}(h:hU n H ts es)(s:aj H H'):hU n H' ts es:=h.keep λ_ _ _ q=>s _ _ q
theorem hU.append{n:Net}{H:Hp}{ts us:List Addr}{es fs:List Nt.End}(h:hU n H ts es)(g:hU n H us fs):hU n H (ts++us) (es++fs):=by
 refine⟨by rw [Ag,Ag,h.1,g.1],λj t e h1 h2=>?_⟩;have hl:=h.1
 by_cases hj:j < ts.length
 ·rw [Aw hj] at h1;rw [Aw<|by omega] at h2;exact h.2 j t e h1 h2
 ·rw [Ba<|by omega] at h1 h2;rw [<- hl] at h2;exact g.2 _ t e h1 h2
theorem q9j{n:Net}(hN:(n.map (·.1)).Nodup){a b:Nt.End}(ha:a∈ends n)(hb:b∈ends n):decide (nameAt n a.1=nameAt n b.1/\(a.2:Int)=(b.2:Int))=decide (a=b):=by
 obtain⟨z1,h1⟩:=af.mp ha;obtain⟨z2,h2⟩:=af.mp hb;refine decide_eq_decide.mpr ⟨λ⟨p,q⟩=>oM hN (cg h1) (cg h2) (by unfold key;rw [p,q]),λe=>by rw [e];exact⟨rfl,rfl⟩⟩
def ce(n:Net)(H:Hp)(d:Addr)(c:Int):Prop:=∃ kvs,H d=some (.dT kvs)/\∀ e∈ends n,∃ u,aC kvs (key n e)=some (.ref u)/\H u=some (TN n<|go c n e)
theorem ce.same{n:Net}{H H':Hp}{d:Addr}{c:Int}(h:ce n H d c)(s:aj H H'):ce n H' d c:=let ⟨kvs,h1,h2⟩:=h;⟨kvs,s _ _ h1,λe he=>let ⟨u,a,b⟩:=h2 e he;⟨u,a,s _ _ b⟩⟩
theorem ce.get{n:Net}{H:Hp}{d t:Addr}{c:Int}{e:Nt.End}(h:ce n H d c)(he:e∈ends n)(ht:H t=some (TN n e)):∃ u,bh H d (.ref t) (some<|.ref u)/\H u=some (TN n<|go c n e):=by
 obtain⟨kvs,h1,h2⟩:=h;obtain⟨u,a,b⟩:=h2 e he;exact⟨u,by rw [<- a];exact bh.t (k:=key n e) h1 ht,b⟩
structure gF(n:Net)(H:Hp)(L:Addr)(ls:List Addr)(ws:List<|List Nt.End):Prop where
 lst:H L=some (.lst<|ls.map V.ref)
 len:ls.length=ws.length
 fO:ls.Nodup
 out:L∉ls
 at':∀(j:Nat) l w,ls[j]?=some l->ws[j]?=some w->∃ ts,H l=some (.lst<|ts.map V.ref)/\hU n H ts w
theorem gF.same{n:Net}{H H':Hp}{L:Addr}{ls:List Addr}{ws:List (List Nt.End)}(h:gF n H L ls ws)(s:aj H H'):gF n H' L ls ws:=
 ⟨s _ _ h.lst,h.len,h.fO,h.out,λj l w h1 h2=>let ⟨ts,a,b⟩:=h.at' j l w h1 h2;⟨ts,s _ _ a,b.same s⟩⟩
theorem gF.keep{n:Net}{H H':Hp}{L:Addr}{ls:List Addr}{ws:List (List Nt.End)}(h:gF n H L ls ws)(hL:H' L=H L)(kl:∀ l∈ls,∀ o,H l=some o->H' l=some o)(kt:∀ t p j,H t=some (Tn p j)->H' t=some (Tn p j)):gF n H' L ls ws:=
 ⟨by rw [hL];exact h.lst,h.len,h.fO,h.out,λj l w h1 h2=>let ⟨ts,a,b⟩:=h.at' j l w h1 h2;⟨ts,kl l (An h1) _ a,b.keep kt⟩⟩
theorem gF.snoc{n:Net}{H H':Hp}{L l:Addr}{ls ts:List Addr}{ws:List (List Nt.End)}{v:List Nt.End}(h:gF n H L ls ws)(hL:H' L=some (.lst<|ls.map V.ref++[.ref l]))(kl:∀ l∈ls,∀ o,H l=some o->H' l=some o)(kt:∀ t p j,H t=some (Tn p j)->H' t=some (Tn p j))
  (hl:H' l=some (.lst<|ts.map V.ref)) (hv:hU n H' ts v) (hn:l∉ls) (hLl:L≠l):gF n H' L (ls++[l]) (ws++[v]):=by
 refine⟨by rw [hL,Ak];rfl,by rw [Ag,Ag,h.len];rfl,ni h.fO hn,λhm=>?_,λj a x h1 h2=>?_⟩
 ·rcases Aq.mp hm with hm | hm
  ·exact h.out hm
  ·exact hLl<|Ai.mp hm
 ·have hlen:=h.len
  by_cases hj:j < ls.length
  ·rw [Aw hj] at h1;rw [Aw<|by omega] at h2;obtain⟨us,q1,q2⟩:=h.at' j a x h1 h2;exact⟨us,kl a (An h1) _ q1,q2.keep kt⟩
  ·rw [Ba<|by omega] at h1 h2;have dU:j - ls.length=0:=by
    have:=(Ac.mp h1).1;simp at this;omega
   rw [dU] at h1;rw [<- hlen,dU] at h2;cases h1;cases h2;exact⟨ts,hl,hv⟩
theorem q3c{n:Net}{i:Nat}{p:Str×Nt.End}(h:(bd n)[i]?=some p):(ends n)[i]?=some p.2:=by unfold ends;rw [Ad,h];rfl
def o9:Sp:=λvs H Q _=>∃(dl t:Addr) (n:Net) (e:Nt.End),vs=[.ref dl,.ref t]/\ce n H dl 1/\(n.map (·.1)).Nodup/\ay n/\(ag n).length<=1000/\e∈ends n/\H t=some (TN n e) /\
 ∀(l:Addr) (ts:List Addr) (H':Hp),aj H H'->H l=none->H' l=some (.lst<|ts.map V.ref)->hU n H' ts (face n e)->Q (.ref l) H'
def uD:Sp:=λvs H Q _=>∃(R:Addr) (as:List<|Addr×Addr) (n:Net),vs=[.ref R]/\ah H R as n/\(n.map (·.1)).Nodup/\ay n/\n.length<=1000/\(ag n).length<=200 /\
 ∀(L:Addr) (ls:List Addr) (H':Hp),aj H H'->H L=none->gF n H' L ls (aU n)->(∀ l∈ls,H l=none)->Q (.ref L) H'
section
variable{P:Program}{w:World}{K:PySem.W.Frag}{mg:Str->Option Value}{base:Heap}
abbrev NFf:List Str:=["steps","first","face","end"]
theorem uE:al NFf ["steps","first"] (aQ A3):=⟨rfl,rfl,rfl,by decide +kernel,rfl,by decide +kernel,by decide +kernel⟩
theorem q8n{f:Addr}{fd:FuncData}(F:bH K "face_from" "face_from" A3 f fd)(T:Txt mg):aE P w K mg base bJ 1 f fd ["steps","first"] o9:=by
 refine F.gb uE (λvs H Q E h=>?_) λb0 H vs Q E hr h=>?_
 ·obtain⟨dl,t,n,e,rfl,_⟩:=h;rfl
 obtain⟨dl,t,n,e,rfl,hL,hN,hT,iE,he,ht,q⟩:=h;have nd:=uE.nd;have xl:=fm n;have hu:=hr.u1;have un:=hr.gm;obtain⟨k,pk,hk⟩:=MC hT he;have k0:=pk.pos;have Pj:∀{H':Hp} {c:Nt.End} {u:Addr},aj H H'->c∈ends n->H' u=some (TN n c)->∃ v,bh H' dl (.ref u) (some<|.ref v)/\H' v=some (TN n<|step n c):=λ{H' c u} sm hc pc=>by
  obtain⟨v,g,e⟩:=(hL.same sm).get hc pc;rw [<- sZ hT hc] at e;exact⟨v,g,e⟩
 show Run _ _ _ [some<|.ref dl,some<|.ref t,none,none] H;refine aX 2 nd<|cL<|ak<|ae 1<|aq ⟨Z1,λl hl=>?_⟩;have s1:=aP hl<|.lst [.ref t];have el:(upd H l<|.lst [.ref t]) l=some (.lst<|[t].map V.ref):=aw;generalize upd H l (.lst [.ref t])=H1 at s1 el;obtain⟨u1,g1,e1⟩:=Pj s1 he<|s1 _ _ ht;refine aX 3 nd<|kD hu<|ae 0<|ae 1 ⟨dl,.ref u1,rfl,g1,?_⟩;show Run _ _ _ [some<|.ref dl,some<|.ref t,some<|.ref l,some<|.ref u1] H1;refine wj (λm σ H2=>∃(j:Nat) (ts:List Addr) (u:Addr),m=k - j/\0 < j/\j<=k/\aj H H2/\H2 l=some (.lst<|ts.map V.ref)/\hU n H2 ts (fl n e j)/\H2 u=some (TN n<|it (step n) j e)/\σ=[some<|.ref dl,some<|.ref t,some<|.ref l,some<|.ref u])
  (m0:=k - 1) ⟨1,[t],u1,rfl,Gp,k0,s1,el,⟨rfl,λj x c h1 h2=>?_⟩,e1,rfl⟩ ?_
 ·match j with
  | 0=>cases h1;cases h2;exact s1 _ _ ht
  | j+1=>simp at h1
 rintro m σ H2 ⟨j,ts,u,rfl,j0,j1,sH,xM,at2,eu,rfl⟩;have Pk:it (step n) j e∈ends n:=jh (λa ha=>jg hT ha) he j;refine cD (mh un) (ae 3<|ae 1 ⟨1,_,by decide,q58 eu<|sH _ _ ht,_,rfl,?_⟩);rw [q9j hN Pk he];have tl:=at2.1;rw [oh] at tl
 by_cases c:it (step n) j e=e
 ·rw [BW c];have jk:j=k:=by
   rcases Cz j k with h | h
   ·exact absurd c<|pk.first j j0 h
   ·omega
  subst jk;refine bp<|bT<|ae 2<|q l ts H2 sH hl xM ?_;unfold face;rw [MB pk];exact at2
 ·rw [BR c];have jk:j < k:=by
   rcases Cz j k with h | h
   ·exact h
   ·have:j=k:=by omega
    subst this;exact absurd pk.back c
  refine bI (gR<|je<|ae 2 ⟨l,rfl,⟨_,xM⟩,ae 3 ⟨_,xM,by rw [Aa];exact bU (by omega),?_⟩⟩);have FC:aj H (upd H2 l<|.lst<|ts.map V.ref++[.ref u]):=c8 sH hl;have Pn:(upd H2 l<|.lst<|ts.map V.ref++[.ref u]) l=some (.lst<|(ts++[u]).map V.ref):=by rw [aw,Ak];rfl
  have kt:∀ b p' j',H2 b=some (Tn p' j')->(upd H2 l<|.lst<|ts.map V.ref++[.ref u]) b=some (Tn p' j'):=λb p' j' h=>by
   rw [av<|b7 h xM λz=>nomatch z];exact h
  generalize upd H2 l (.lst<|ts.map V.ref++[.ref u])=H3 at FC Pn kt;obtain⟨v2,g4,e4⟩:=Pj FC Pk<|kt _ _ _ eu;refine aX 3 nd<|kD hu<|ae 0<|ae 3 ⟨dl,.ref v2,rfl,g4,?_⟩;refine a8 ⟨k - (j+1),by omega,j+1,ts++[u],v2,rfl,Eu _,jk,FC,Pn,?_,e4,rfl⟩;rw [MD];refine(at2.keep kt).append ⟨rfl,λj x c h1 h2=>?_⟩
  match j with
  | 0=>cases h1;cases h2;exact kt _ _ _ eu
  | j+1=>simp at h1
abbrev NFs:List Str:=["rows","ends","steps","told","faces","first","face","end"]
theorem uF:al NFs ["rows"] (aQ A2):=⟨rfl,rfl,rfl,by decide +kernel,rfl,by decide +kernel,by decide +kernel⟩
structure Told(n:Net)(ks:List<|List Key)(tl:List Nt.End):Prop where
 fO:ks.Nodup
 mem:∀ e∈ends n,key n e∈ks↔e∈tl
 of:∀ k∈ks,∃ e∈ends n,k=key n e
theorem Told.len{n:Net}{ks:List (List Key)}{tl:List Nt.End}(h:Told n ks tl):ks.length<=(ends n).length:=by
 have:=h.fO.length_le_of_subset (l₂:=(ends n).map<|key n) λk hk=>by
  obtain⟨e,he,rfl⟩:=h.of k hk;exact Am.mpr ⟨e,he,rfl⟩
 rw [Aa] at this;exact this
open Classical in
theorem Told.add{n:Net}(hN:(n.map (·.1)).Nodup){ks:List (List Key)}{tl:List Nt.End}(h:Told n ks tl){e:Nt.End}(he:e∈ends n):Told n (if key n e∈ks then ks else key n e :: ks) (tl++[e]):=by
 have inj:∀{a b:Nt.End},a∈ends n->b∈ends n->key n a=key n b->a=b:=λ{a b} ha hb k=>by
  obtain⟨z1,h1⟩:=af.mp ha;obtain⟨z2,h2⟩:=af.mp hb;exact oM hN (cg h1) (cg h2) k
 by_cases c:key n e∈ks
 ·rw [BP c];refine⟨h.fO,λa ha=>?_,h.of⟩;rw [h.mem a ha,Aq,Ai];exact⟨λk=> .inl k,λk=>by
   rcases k with k | k
   ·exact k
   ·rw [k];exact(h.mem e he).mp c⟩
 ·rw [BL c];refine⟨Bq.mpr ⟨c,h.fO⟩,λa ha=>?_,λk hk=>?_⟩
  ·rw [Aj,h.mem a ha,Aq,Ai]
   constructor
   ·rintro (k | k)
    ·exact .inr<|inj ha he k
    ·exact .inl k
   ·rintro (k | k)
    ·exact .inr k
    ·exact .inl<|by rw [k]
  ·rcases Aj.mp hk with k1 | k1
   ·exact⟨e,he,k1⟩
   ·exact h.of k k1
open Classical in
theorem q0j{f:Addr}{fd:FuncData}(F:bH K "faces_of" "faces_of" A2 f fd)(T:Txt mg)
  (GO:aV P w K mg base 3 "ends_in_order" ["rows"] EH)
  (GL:aV P w K mg base 3 "left_steps" ["rows"]<|oX 1)
  (GF:aV P w K mg base 3 "face_from" ["steps","first"] o9) :
  aE P w K mg base bJ 4 f fd ["rows"] uD:=by
 refine F.gb uF (λvs H Q E h=>?_) λb0 H vs Q E hr h=>?_
 ·obtain⟨R,as,n,rfl,_⟩:=h;rfl
 obtain⟨R,as,n,rfl,hR,hN,hT,hn,iE,q⟩:=h;have nd:=uF.nd;have xl:=fm n;have hu:=hr.u1;show Run _ _ _ [some<|.ref R,none,none,none,none,none,none,none] H;refine aX 1 nd (bK GO hr<|ak<|ae 0<|aq ⟨R,as,n,rfl,hR,hn,by omega,λU us H1 s1 n1 e1 FD=>?_⟩);have ph:us.length=(ends n).length:=by rw [FD.1];unfold ends;rw [Aa]
 refine cY<|kh<|zI<|ae 1 (v:= .ref U) ⟨!(us.map V.ref).isEmpty,Or.inl ⟨_,ai.of e1,rfl⟩,?_⟩;rw [Bool.not_not]
 by_cases hb:ends n=[]
 ·have kc:us=[]:=Be.mp (by rw [ph,hb];rfl);subst kc;refine bI<|bT<|cL<|ak<|cL<|aq ⟨Z0,λl hl=>aq ⟨Z1,λL hL=>?_⟩⟩;have s2:=aP hl<|.lst [];have s3:=aP hL<|.lst [.ref l];refine q L [l] _ ((s1.trans s2).trans s3) ((s1.trans s2).free hL) ?_ λl' iw=>by rw [Ai.mp iw];exact s1.free hl
  unfold aU;rw [BP hb];refine⟨aw,rfl,by simp,λhm=>?_,λj l' w h1 h2=>?_⟩
  ·rw [Ai.mp hm,aw] at hL;cases hL
  ·match j with
   | 0=>cases h1;cases h2;exact⟨[],s3 _ _ aw,rfl,λj t e h=>by simp at h⟩
   | j+1=>simp at h1
 have bj:us.map V.ref≠[]:=λh=>hb (Be.mp<|by have:=BX List.length h;rw [Aa,ph] at this;exact this);have hem:(us.map V.ref).isEmpty=false:=by
  cases h:us.map V.ref with
  | nil=>exact absurd h bj
  | cons a r=>rfl
 rw [hem];refine bp<|a8 ?_;refine aX 2 nd (bK GL hr<|ak<|ae 0<|aq ⟨R,as,n,rfl,hR.same s1,hN,hT,hn,by omega,λdl kl H2 s2 n2 e2 v2=>?_⟩);refine aX 3 nd<|k85 T.sQ λD hD=>?_;refine aX 4 nd<|cL<|aq ⟨Z0,λL hL=>?_⟩;have hSL:ce n H2 dl 1:=⟨kl,e2,v2⟩;have jG:=s1.trans s2;have FE:L≠D:=λe=>by rw [e,aw] at hL;cases hL
 have kP:H2 L=none:=by rw [av FE] at hL;exact hL
 have EL:=kR jG hD;have xq:=kR jG kP;have sB:aj H2 (upd (upd H2 D<|iW P w D []) L<|.lst []):=(aP hD _).trans<|aP hL _;have uG:bP P w (upd (upd H2 D<|iW P w D []) L<|.lst []) D []:=o8.same<|aP hL _;have xN:(upd (upd H2 D<|iW P w D []) L<|.lst []) L=some (.lst []):=aw;have uH:=hSL.same sB;have FG:=sB _ _<|s2 _ _ e1;have uI:∀(j:Nat) (t:Addr) (p:Str×Nt.End),us[j]?=some t->(bd n)[j]?=some p->(upd (upd H2 D<|iW P w D []) L<|.lst []) t=some (TN n p.2):=λj t p h1 h2=>sB _ _<|s2 _ _<|FD.2 j t p h1 h2;show Run _ _ _ [some<|.ref R,some<|.ref U,some<|.ref dl,some<|.ref D,some<|.ref L,none,none,none] (upd (upd H2 D<|iW P w D []) L<|.lst []);generalize upd (upd H2 D<|iW P w D []) L (.lst [])=H5 at sB uG xN uH FG uI;have Pp:=jG.trans sB;have nUL:U≠L:=bF (s2 _ _ e1) kP;have nUD:U≠D:=bF (s2 _ _ e1) hD;have tnD:∀{b p j},H5 b=some (Tn p j)->b≠D:=λh=>uG.ne h λφ z=>nomatch z;refine lZ<|ae 1 ⟨U,rfl,⟨_,ai.of FG⟩,?_⟩;refine l3 (xs:=us.map V.ref) (λi σ H'=>∃(ks:List<|List Key) (tl:List Nt.End) (ls:List Addr) (ws:List<|List Nt.End) (u1 u2 u3:Option V),(∀ b o,b≠D->b≠L->H5 b=some o->H' b=some o)/\bP P w H' D ks/\Told n ks tl /\
  gF n H' L ls ws/\(∀ l∈ls,H5 l=none)/\ls.length<=i/\gZ n (ends n) []=ws++gZ n ((ends n).drop i) tl/\σ=[some<|.ref R,some<|.ref U,some<|.ref dl,some<|.ref D,some<|.ref L,u1,u2,u3])
  ⟨[],[],[],[],_,_,_,λb o _ _ h=>h,uG,⟨Cp,λe _=>by simp,λk h=>by simp at h⟩,⟨xN,rfl,Cp,by simp,λj l w h=>by simp at h⟩,λl h=>by simp at h,Al _,rfl,rfl⟩ ?_ ?_ ?_
 ·rintro i σ H' _ ⟨_,_,_,_,_,_,_,kp,_⟩;exact ai.of<|kp _ _ nUD nUL FG
 ·rintro i x σ H' hx ⟨ks,tl,ls,ws,u1,u2,u3,kp,tD,told,hW,hf,AB,uJ,rfl⟩;have hi:i < us.length:=by
   have:=(Ac.mp hx).1;rw [Aa] at this;exact this
  rw [Ad,Ab hi] at hx;cases hx;have Pq:i < (bd n).length:=by have:=FD.1;omega
  have Pt:H5 us[i]=some (TN n (bd n)[i].2):=uI i us[i] (bd n)[i] (Ab hi)<|Ab Pq;have FH:=q3c<|Ab Pq;generalize (bd n)[i].2=e at Pt FH;have he:e∈ends n:=An FH;have mM:(ends n).drop i=e :: (ends n).drop (i+1):=by
   have Pu:i < (ends n).length:=by omega
   rw [QM Pu]
   congr 1
   have:=Ab Pu;rw [FH] at this;exact(Option.some.inj this).symm
  have Pw:∀{b p j},H5 b=some (Tn p j)->H' b=some (Tn p j):=λ{b p j} h=>kp _ _ (tnD h) (b7 h xN λz=>nomatch z) h;have dW:=Pw Pt;have cS:ce n H' dl 1:=by
   obtain⟨kvs,a,b⟩:=uH;exact⟨kvs,kp _ _ (uG.ne a λφ z=>nomatch z) (b7 a xN λz=>nomatch z) a,λe he=>let ⟨u,p,r⟩:=b e he;⟨u,p,Pw r⟩⟩
  refine bb 5 nd ?_;refine cY<|cD (j74 hu)<|ae 5<|ae 3 ⟨key n e,us[i],D,ks,rfl,rfl,dW,tD,_,rfl,?_⟩;refine ie (λc=>?_) λc=>?_
  ·have hz:key n e∉ks:=BZ c;have eW:e∉tl:=λh=>hz<|(told.mem e he).mpr h;refine aX 6 nd (bK GF hr<|ak<|ae 2<|ak<|ae 5<|aq ⟨dl,us[i],n,e,rfl,cS,hN,hT,by omega,he,dW,λl ts H6 s6 n6 e6 at6=>?_⟩);have xO:=s6 _ _ hW.lst;have tD6:=tD.same s6;have FI:L≠l:=bF hW.lst n6;have oJ:D≠l:=λk=>tD.some (by rw [k];exact n6);refine gR (je<|ae 4 ⟨L,rfl,⟨_,xO⟩,ae 6 ⟨_,xO,by rw [Aa];exact bU (by omega),?_⟩⟩);have k7:∀ b o,b≠L->H6 b=some o->(upd H6 L<|.lst<|ls.map V.ref++[.ref l]) b=some o:=λb o hb h=>by rw [av hb];exact h
   have Px:(upd H6 L<|.lst<|ls.map V.ref++[.ref l]) L=some (.lst<|ls.map V.ref++[.ref l]):=aw;have xP:bP P w (upd H6 L<|.lst<|ls.map V.ref++[.ref l]) D ks:=tD6.keep (by rw [av<|CG FE]) λb xs h=>by rw [av<|b7 h xO λz=>nomatch z];exact h
   generalize upd H6 L (.lst<|ls.map V.ref++[.ref l])=H7 at k7 Px xP;have Py:∀ t p j,H6 t=some (Tn p j)->H7 t=some (Tn p j):=λt p j h=>k7 _ _ (b7 h xO λz=>nomatch z) h;have e7:=k7 _ _ (CG FI) e6;have FK:=at6.keep Py;have FL:l∉ls:=λhm=>by
    obtain⟨j,hj⟩:=Bb hm;have hlen:=hW.len;have hjw:j < ws.length:=by have:=(Ac.mp hj).1;omega
    obtain⟨_,a,_⟩:=hW.at' j l ws[j] hj<|Ab hjw;rw [n6] at a;cases a
   have FO:gF n H7 L (ls++[l]) (ws++[face n e]):=hW.snoc Px (λa ha o ho=>k7 _ _ (λq=>hW.out<|q ▸ ha)<|s6 _ _ ho) (λt p j h=>Py _ _ _<|s6 _ _ h) e7 FK FL FI;have l57:H5 l=none:=by
    cases q5:H5 l with
    | none=>rfl
    | some o=>rw [kp _ _ (CG oJ) (CG FI) q5] at n6;cases n6
   have Pz:∀ a∈ls++[l],H5 a=none:=λa ha=>by
    rcases Aq.mp ha with ha | ha
    ·exact hf a ha
    ·rw [Ai.mp ha];exact l57
   have tR:∀ b o,b≠D->b≠L->H5 b=some o->H7 b=some o:=λb o h1 h2 h=>k7 _ _ h2<|s6 _ _<|kp b o h1 h2 h;have hll:(ls++[l]).length<=i+1:=by rw [Ag];show ls.length+1<=_;omega
   have FR:gZ n (ends n) []=(ws++[face n e])++gZ n ((ends n).drop<|i+1) (tl++face n e):=by
    rw [uJ,mM];show ws++(if e∈tl then _ else _)=_;rw [BL eW,Ay];rfl
   have hev:=tf hT he;have uK:=FK.1;refine lZ<|ae 6 ⟨l,rfl,⟨_,ai.of e7⟩,?_⟩;refine l3 (xs:=ts.map V.ref) (λm σ H9=>∃(qM:List<|List Key) (u3:Option V),(∀ b o,b≠D->H7 b=some o->H9 b=some o)/\bP P w H9 D qM/\Told n qM (tl++(face n e).take m) /\
    σ=[some<|.ref R,some<|.ref U,some<|.ref dl,some<|.ref D,some<|.ref L,some<|.ref us[i],some<|.ref l,u3]) ⟨ks,_,λb o _ h=>h,xP,by rw [List.take_zero,Br];exact told,rfl⟩ ?_ ?_ ?_
   ·rintro m σ H9 _ ⟨_,_,k9,_⟩;exact ai.of<|k9 _ _ (CG oJ) e7
   ·rintro m x σ H9 hx ⟨qM,u3,k9,xQ,fT,rfl⟩;rw [Ad,Ao] at hx;obtain⟨t,PD,rfl⟩:=hx;have hmf:m < (face n e).length:=by have:=(Ac.mp PD).1;omega
    have qN:(face n e)[m]?=some (face n e)[m]:=Ab hmf;have hc:=hev _<|An qN;have pj:(face n e).take (m+1)=(face n e).take m++[(face n e)[m]]:=by rw [Cj,qN];rfl
    have xR:=FK.2 m t _ PD qN;generalize (face n e)[m]=c9 at qN hc pj xR;have nD9:t≠D:=λk=>by rw [k] at xR;exact(xP.ne xR λφ z=>nomatch z) rfl
    have ht9:=k9 _ _ nD9 xR;have hle:=fT.len;refine bb 7 nd ?_;refine gR (q47 hu<|ae 3 ⟨D,rfl,⟨_,xQ⟩,ae 7 ⟨key n c9,t,qM,rfl,ht9,xQ,by omega,λoo FU=>a8 ⟨_,_,λb o hb h=>by rw [av hb];exact k9 b o hb h,FU,?_,rfl⟩⟩⟩);rw [pj,<- Ay];exact fT.add hN hc
   ·rintro σ H9 ⟨qM,u3,k9,xQ,fT,rfl⟩;rw [Aa,uK,Ca] at fT;refine a8<|a8 ⟨qM,tl++face n e,ls++[l],ws++[face n e],_,_,_,λb o h1 h2 h=>k9 b o h1<|tR b o h1 h2 h,xQ,fT,?_,Pz,hll,FR,rfl⟩;have nd9:∀{b o},H7 b=some o->(∀ φ,o≠HO.ext φ)->b≠D:=λh ho=>xP.ne h ho;refine FO.keep ?_ (λa ha o ho=>k9 a o ?_ ho) λt p j h=>k9 _ _ (nd9 h λφ z=>nomatch z) h
    ·rw [FO.lst];exact k9 _ _ (CG<|CG FE) FO.lst
    ·intro k;have:=Pz a ha;rw [k] at this;exact uG.some this
  ·have hz:key n e∈ks:=CK λh=>c<|BW h;have eW:e∈tl:=(told.mem e he).mp hz;refine a8 (a8 ⟨ks,tl,ls,ws,_,_,_,kp,tD,told,hW,hf,by omega,?_,rfl⟩);rw [uJ,mM];show ws++(if e∈tl then _ else _)=_;rw [BP eW]
 ·rintro σ H' ⟨ks,tl,ls,ws,u1,u2,u3,kp,tD,told,hW,hf,AB,uJ,rfl⟩;rw [Aa,ph,List.drop_length] at uJ;have hw2:aU n=ws:=by
   unfold aU;rw [BL hb,uJ];exact Br _
  have sF:aj H H':=λb o h=>kp b o (bF h EL) (bF h xq)<|Pp _ _ h;refine bT (ae 4<|q L ls H' sF xq (by rw [hw2];exact hW) λl hl=>?_);exact Pp.free<|hf l hl
end
end F3
namespace Nt
open PySem L2
def cu(k:Nat):Str:=Str.ofString "f"++Str.ofString (toString (k:Int))
def cI(n:Net)(ws:List<|List End):Net:=ws.zipIdx.map λx=>(cu x.2,x.1.map<|cM n)
noncomputable def ao(n:Net):Net:=cI n<|aU n
theorem k7m(n:Net)(ws:List<|List End)(w:List End):cI n (ws++[w])=cI n ws++[(cu ws.length,w.map<|cM n)]:=by
 unfold cI;rw [QB,Ak];simp
theorem mO(n:Net)(ws:List<|List End):(cI n ws).length=ws.length:=by unfold cI;simp
theorem PF{n:Net}{ws:List (List End)}{i:Nat}{w:List End}(h:ws[i]?=some w):(cI n ws)[i]?=some (cu i,w.map<|cM n):=by
 unfold cI;rw [Ad,List.getElem?_zipIdx,h];simp
theorem PH{k:Nat}(h:k<=1000):((k:Int)).natAbs.log2 < 1920:=by
 have e:((k:Int)).natAbs=k:=by omega
 rw [e];have:k.log2<=k:=Nat.log2_le_self k;omega
theorem q2z{k:Nat}(h:k<=1000):(cu k).length<=10:=by
 have e:=PySem.int_text_length_le10 (a:=(k:Int)) (k:=4) (by decide) (by omega);unfold cu;rw [Str.length_append,TQ,TQ];have:("f" : String).length=1:=rfl;omega
end Nt
namespace L2
open PySem PySem.Spec PyProof.Rows
section
variable{X:Cx}{σ:St}{H:Hp}{Q:VK}
theorem q5d{e:Expr}{c:Str}{j:Nat}{p1 p2 pos:Pos} (h:Ev X e σ H λx H1=>∃ i:Int,x = .int i/\i.natAbs.log2 < 1920/\(c++Str.ofString (toString i)).length<=sizeLine/\Q (.str<|c++Str.ofString (toString i)) H1) (hc:c.length<=sizeLine:=by decide) :
  Ev X (.JoinedStr [.Constant (.str c) j p2,.FormattedValue e (-1) none p1] pos) σ H Q:=by
 have e0:∀ w:Str,Str.empty++w=w:=λw=>by
  apply Str.ext';show(#[]:Array Nat)++w.cps=w.cps;simp
 refine⟨λpins s I=>PyProof.Rows.JoinedStr_many<|QF<|aI ((lV (X:=X) (i:=c) (j:=j) (p:=p2) (σ:=σ) (H:=H) (Q:=λy H2=>y = .str c/\H2=H) ⟨rfl,rfl⟩).run pins _ I) λv2 s2 ⟨y,H2,I2,r2,ey,eh⟩=>?_⟩;subst ey eh;obtain⟨t3,rfl⟩:=r2;refine⟨by rw [e0];exact hc,?_⟩;rw [e0];refine QF<|PyProof.Rows.FormattedValue_plain<|aI (h.run pins s2 I2) λv s1 ⟨x,H1,I1,rx,i,ex,hd,hz,q⟩=>?_;subst ex;obtain⟨t,rfl⟩:=rx;refine formatField_int_small hd ⟨hz,PyProof.Rows.joinParts_nil ?_ hz⟩;exact⟨.str _,H1,I1.tok _,⟨_,rfl⟩,q⟩
theorem k4z:dE X (.type "str") (λxs H Q=>∃ i:Int,xs=[.int i]/\i.natAbs.log2 < 1920/\Q (.str<|Str.ofString<|toString i) H):=by
 intro pins s σ H xs us Q I r h;obtain⟨i,rfl,hd,q⟩:=h;obtain⟨u,rfl,ru⟩:=vals1 r;obtain⟨t,rfl⟩:=ru;exact PySem.P.str_of_int hd ⟨.str _,H,I.tok _,⟨_,rfl⟩,q⟩
end
section
variable{X:Cx}{elt tg:Expr}{ifs:List Expr}{scope:Scope}{σ:St}{H:Hp}{N':List Str}{A a:Addr}{xs:List V}{after:Hp->Prop}
theorem k38(Pv:Nat->St->Hp->Prop)(h0:Pv 0 σ H)(hl:∀ i σ' H',i<=xs.length->Pv i σ' H'->ai X.K H' a xs)
  (hs : ∀ (i : Nat) x T σ' H', xs[i]? = some x → Pv i σ' H' → H' T = none → vZ X N' scope tg (.ref T) σ' (upd H' T<|.tup [.int (i : Int), x]) λσ2 H3 => v5 X N' scope ifs σ2 H3 λb H4 =>
   if b=true then vY X N' scope elt σ2 H4 λv H5=>∃ ys,H5 A=some (.lst ys)/\ys.length < sizeLine/\Pv (i+1) σ2 (upd H5 A<|.lst<|ys++[v]) else Pv (i+1) σ2 H4)
  (hd:∀ σ' H',Pv xs.length σ' H'->after H'):ki X N' scope tg ifs elt (E1 X.K a) A after σ H:=by
 refine⟨λi m σ' H'=>m=xs.length - i/\i<=xs.length/\Pv i σ' H',⟨_,rfl,Bu _,h0⟩,?_⟩;rintro i m σ' H' ⟨rfl,hi,p⟩;have q:=hl i σ' H' hi p
 by_cases aM:i < xs.length
 ·refine .inr ⟨⟨xs,xs[i],q,by simp [aM]⟩,Pv<|i+1,λσ' H' p'=>⟨xs.length - (i+1),by omega,rfl,aM,p'⟩,λv H2 y=>?_⟩;obtain⟨T,x,hT,rfl,rfl,hx⟩:=y;exact hs i x T σ' _ (hx xs q) p hT
 ·have e:i=xs.length:=by omega
  subst e;exact .inl ⟨⟨xs,q,Al _⟩,hd σ' H' p⟩
end
end L2
namespace F3
open PySem L2 Nt bM
def FV:Sp:=λvs H Q _=>∃(R:Addr) (as:List<|Addr×Addr) (n:Net),vs=[.ref R]/\ah H R as n/\(n.map (·.1)).Nodup/\ay n/\n.length<=1000/\(ag n).length<=200 /\
 ∀(L:Addr) (bs:List<|Addr×Addr) (H':Hp),aj H H'->H L=none->(∀ b∈bs,H b.1=none/\H b.2=none)->ah H' L bs (ao n)->L∉bs.map (·.2)->Q (.ref L) H'
section
variable{P:Program}{w:World}{K:PySem.W.Frag}{mg:Str->Option Value}{base:Heap}
abbrev PQ:List Str:=["rows","names"]
abbrev pq:List Str:=["rows","names","number","face"]
abbrev uL:List Str:=["rows","names","number","face","end"]
theorem uM:al PQ ["rows"] (aQ nQ):=⟨rfl,rfl,rfl,by decide +kernel,rfl,by decide +kernel,by decide +kernel⟩
theorem PR:pq.Nodup:=by decide +kernel
theorem q6r:uL.Nodup:=by decide +kernel
def q8r:Scope:=match ic nQ with
 | [_,.Return (some<|.ListComp _ _ sc _) _]=>sc
 | _=>aQ nQ
def q82:Scope:=relabel q8r<|PyProof.Rows.envOfC "other_net" (aQ nQ) 0 0 .none
theorem q35{f:Addr}{fd:FuncData}(F:bH K "other_net" "other_net" nQ f fd)(T:Txt mg)
  (GN:aV P w K mg base 4 "ties_by_end" ["rows"] oV)
  (GF:aV P w K mg base 4 "faces_of" ["rows"] uD) :
  aE P w K mg base bJ 5 f fd ["rows"] FV:=by
 refine F.gb uM (λvs H Q E h=>?_) λb0 H vs Q E hr h=>?_
 ·obtain⟨R,as,n,rfl,_⟩:=h;rfl
 obtain⟨R,as,n,rfl,hR,hN,hT,hn,iE,q⟩:=h;have nd:=uM.nd;have hu:=hr.u1;have xl:=fm n;have FX:=X6 n;have PU:=ME hT;show Run _ _ _ [some<|.ref R,none] H;refine aX 1 nd (bK GN hr<|ak<|ae 0<|aq ⟨R,as,n,rfl,hR,hN,hn,by omega,λd kvs H1 s1 n1 e1 v1=>?_⟩);refine bT<|iL (aQ nQ) PQ pq 2 (q3g rfl T.enum gQ)<|ak<|bK GF hr<|ak<|ae 0<|aq ⟨R,as,n,rfl,hR.same s1,hN,hT,hn,iE,λL ls H2 s2 n2 hW fL=>aq ⟨L,rfl,⟨_,ai.of hW.lst⟩,λD hD=>?_⟩⟩;have hlW:=hW.len;have PV:ao n=cI n (aU n):=rfl;generalize hws:aU n=ws at hW FX PU hlW PV;have xS:=s2 _ _ e1;refine k38 (xs:=ls.map V.ref) (λi σ' H'=>∃(bs:List<|Addr×Addr) (v1 v2:Option V),σ'=[some<|.ref R,some<|.ref d]++[v1,v2]/\aj H2 H'/\ah H' D bs (cI n<|ws.take i)/\(∀ b∈bs,H2 b.1=none/\H2 b.2=none)/\D∉bs.map (·.2)) ⟨[],_,_,rfl,aP hD _,⟨rfl,aw,λi a r h=>by simp at h,Cp⟩,λb h=>by simp at h,by simp⟩ ?_ ?_ ?_
 ·rintro i σ' H' _ ⟨_,_,_,_,sm,_⟩;exact ai.of<|sm _ _ hW.lst
 ·rintro i x Tt σ' H' hx ⟨bs,v1',v2',rfl,sm,hB,fB,nB⟩ iB;rw [Ad,Ao] at hx;obtain⟨l,hl,rfl⟩:=hx;have ku:=(Ac.mp hl).1;have hiw:i < ws.length:=by omega
  have hw:ws[i]?=some ws[i]:=Ab hiw;have pj:ws.take (i+1)=ws.take i++[ws[i]]:=by rw [Cj,hw];rfl
  obtain⟨ts,el,hE⟩:=hW.at' i l _ hl hw;obtain⟨rL,PY⟩:=PU _<|An hw;generalize ws[i]=es at hw pj hE rL PY;have aM:=hE.1;have PZ:(ws.take i).length=i:=by rw [Bo];omega
  have sT:=aP iB<|.tup [.int (i:Int),.ref l];have mQ:=sm.trans sT;intro cl C s₀ H₀ ex;refine jm rfl (aJ.of aw) (bb 2 PR<|bb 3 PR ?_);have hB:=hB.same sT;generalize upd H' Tt (.tup [.int (i:Int),.ref l])=H3 at mQ hB;intro cl C s₀ H₀ ex;refine dh ?_;rw [BP rfl];intro cl C s₀ H₀ ex;refine dH<|ak<|q5d<|ae 2 ⟨(i:Int),rfl,PH (by omega),?_,ak<|iL q82 pq uL 1 (dR bn)<|ae 3 ⟨l,rfl,⟨_,ai.of<|mQ _ _ el⟩,λD2 jE=>?_⟩⟩
  ·have:=q2z (k:=i) (by omega);exact small (show(cu i).length<=100000 by omega)
  refine iQ (xs:=ts.map V.ref) (λj σ' H4=>(∃ v,σ'=[some<|.ref R,some<|.ref d,some<|.int (i:Int),some<|.ref l]++[v])/\aj H3 H4/\H4 D2=some (Ls<|(es.take j).map<|cM n)) ⟨⟨none,rfl⟩,aP jE _,aw⟩ ?_ ?_ ?_
  ·rintro j σ' H4 _ ⟨_,k8,_⟩;exact ai.of<|k8 _ _<|mQ _ _ el
  ·rintro j x σ' H4 hx ⟨⟨v,rfl⟩,k8,xT⟩;rw [Ad,Ao] at hx;obtain⟨t,ht,rfl⟩:=hx;have hj:j < es.length:=by have:=(Ac.mp ht).1;omega
   have he:es[j]?=some es[j]:=Ab hj;have xk:es.take (j+1)=es.take j++[es[j]]:=by rw [Cj,he];rfl
   have gB:=(hE.same<|mQ.trans k8).2 j t _ ht he;have sY:=PY _<|An he;generalize es[j]=e at he xk gB sY;obtain⟨z,hz⟩:=af.mp sY;have hdg:bh H4 d (.ref t) (some<|.str<|cM n e):=by rw [wU hz,<- v1 e z hz];exact bh.t (k:=key n e) ((mQ.trans k8) _ _ xS) gB
   intro cl C s₀ H₀ ex;refine bb 4 q6r ?_;intro cl C s₀ H₀ ex;refine dh ?_;rw [BP rfl];intro cl C s₀ H₀ ex;refine kD hu<|ae 1<|ae 4 ⟨d,.str<|cM n e,rfl,hdg,_,xT,?_,⟨_,rfl⟩,c8 k8 jE,?_⟩
   ·rw [Aa,Aa,Bo];exact bU<|by omega
   ·rw [aw,xk,Ak];show some (HO.lst<|((es.take j).map<|cM n).map V.str++[V.str<|cM n e])=some (HO.lst<|((es.take j).map (cM n)++[cM n e]).map V.str);rw [Ak];rfl
  ·rintro σ' H4 ⟨_,k8,xT⟩;have pv:es.take (ts.map V.ref).length=es:=Dc (by rw [Aa];omega);rw [pv] at xT;refine aq ⟨Z2,λt ht=>?_⟩;have s5:=aP ht<|.tup [.str<|cu i,.ref D2];have FY:=(hB.same k8).same s5;have kX:=s5 _ _ xT;have et5:(upd H4 t<|.tup [.str<|cu i,.ref D2]) t=some (.tup [.str<|cu i,.ref D2]):=aw;have P1:=(mQ.trans k8).trans s5;have t4:H2 t=none:=(mQ.trans k8).free ht;have d4:H2 D2=none:=mQ.free jE;have nin:D2∉bs.map (·.2):=λhm=>by
    obtain⟨b,hb,eb⟩:=Am.mp hm;obtain⟨zs,P2⟩:=hB.lists hb;rw [eb,jE] at P2;cases P2
   have P4:D2≠D:=λk=>by
    have:=hB.lst;rw [<- k,jE] at this;cases this
   have more:=FY.more et5 kX nin P4;have bl:bs.length=i:=by rw [FY.len,mO,PZ]
   refine⟨_,FY.lst,by rw [Aa,bl];exact bU (by omega),bs++[(t,D2)],_,_,rfl,?_,?_,λb hb=>?_,λhm=>?_⟩
   ·exact c8 P1 hD
   ·rw [pj,k7m,PZ];exact more
   ·rcases Aq.mp hb with hb | hb
    ·exact fB b hb
    ·rw [Ai.mp hb];exact⟨t4,d4⟩
   ·rw [Ak,Aq] at hm
    rcases hm with hm | hm
    ·exact nB hm
    ·exact P4 (Ai.mp hm).symm
 ·rintro σ' H' ⟨bs,v1',v2',rfl,sm,hB,fB,nB⟩;have pv:ws.take (ls.map V.ref).length=ws:=Dc (by rw [Aa];omega);rw [pv,<- PV] at hB;have jG:=s1.trans s2;exact q D bs H' (jG.trans sm) (jG.free hD) (λb hb=>⟨jG.free (fB b hb).1,jG.free (fB b hb).2⟩) hB nB
abbrev T3(x:Lk):HO:= .tup [.str x.1,.str x.2.1,.str x.2.2]
def lg(H:Hp)(us:List Addr)(ls:List Lk):Prop:=us.length=ls.length/\∀(j:Nat) u x,us[j]?=some u->ls[j]?=some x->H u=some (T3 x)
theorem lg.keep{H H':Hp}{us:List Addr}{ls:List Lk}(h:lg H us ls)(k:∀ t xs,H t=some (.tup xs)->H' t=some (.tup xs)):lg H' us ls:=⟨h.1,λj u x h1 h2=>k _ _<|h.2 j u x h1 h2⟩
theorem lg.snoc{H:Hp}{us:List Addr}{ls:List Lk}{u:Addr}{x:Lk}(h:lg H us ls)(hu:H u=some (T3 x)):lg H (us++[u]) (ls++[x]):=by
 refine⟨by rw [Ag,Ag,h.1];rfl,λj v y h1 h2=>?_⟩;have hl:=h.1
 by_cases hj:j < us.length
 ·rw [Aw hj] at h1;rw [Aw<|by omega] at h2;exact h.2 j v y h1 h2
 ·rw [Ba<|by omega] at h1 h2;have dU:j - us.length=0:=by
   have:=(Ac.mp h1).1;simp at this;omega
  rw [dU] at h1;rw [<- hl,dU] at h2;cases h1;cases h2;exact hu
def F0(ls:List Lk):Prop:=ls.Pairwise λx y=>x.1.cps.toList < y.1.cps.toList
def F1:Sp:=λvs H Q _=>∃(R:Addr) (as:List<|Addr×Addr) (n:Net),vs=[.ref R]/\ah H R as n/\ay n/\n.length<=1000/\(ag n).length<=60 /\
 ∀(L:Addr) (us:List Addr) (ls:List Lk) (H':Hp),aj H H'->H L=none->H' L=some (.lst<|us.map V.ref)->lg H' us ls->F0 ls->(∀ x,x∈ls↔om n x)->ls.length<=60->Q (.ref L) H'
theorem k9n{n:Net}(T:ay n){r p:Nat}{z:Str}(hr:r < n.length)(hz:(row n r)[p]?=some z):(bY (bd (n.take r)++bz r ((row n r).take p) 0) z).length<=1:=by
 obtain⟨rest,h⟩:=tY hr hz;have h1:bY (bd n) z=bY (bd (n.take r)++bz r ((row n r).take p) 0) z++(r,p) :: bY rest z:=by
  rw [h];unfold bY;rw [PX,Ak,List.filter_cons_of_pos<|by simp];rfl
 have h2:(bY (bd n) z).length=2:=by
  have:=qj n z;rw [T z<|fj (e:=(r,p)) hz] at this;exact this
 rw [h1,Ag,At] at h2;omega
abbrev NLk:List Str:=["rows","met","links","point","ties","tie"]
theorem uN:al NLk ["rows"] (aQ A6):=⟨rfl,rfl,rfl,by decide +kernel,rfl,by decide +kernel,by decide +kernel⟩
theorem k8l{f:Addr}{fd:FuncData}(F:bH K "links_of" "links_of" A6 f fd)(T:Txt mg):aE P w K mg base bJ 1 f fd ["rows"] F1:=by
 refine F.gb uN (λvs H Q E h=>?_) λb0 H vs Q E hr h=>?_
 ·obtain⟨R,as,n,rfl,_⟩:=h;rfl
 obtain⟨R,as,n,rfl,hR,hT,hn,iE,q⟩:=h;have nd:=uN.nd;have bQ:=hR.len;have hu:=hr.u1;show Run _ _ _ [some<|.ref R,none,none,none,none,none] H;refine aX 1 nd<|AT λdm t7=>?_;refine aX 2 nd<|cL<|aq ⟨Z0,λM hM=>?_⟩;have jZ:M≠dm:=λe=>by rw [e,aw] at hM;cases hM
 have uO:H M=none:=by rw [av jZ] at hM;exact hM
 have s0:aj H (upd (upd H dm<|.dK []) M<|.lst []):=(aP t7 _).trans<|aP hM _;have uP:(upd (upd H dm<|.dK []) M<|.lst []) dm=some (.dK []):=by rw [av<|CG jZ,aw]
 have mR:(upd (upd H dm<|.dK []) M<|.lst []) M=some (.lst []):=aw;show Run _ _ _ [some<|.ref R,some<|.ref dm,some<|.ref M,none,none,none] (upd (upd H dm<|.dK []) M<|.lst []);generalize upd (upd H dm<|.dK []) M (.lst [])=H0 at s0 uP mR;have F4:(bd n).length=(ag n).length:=by rw [<- jf n 0,Aa];rfl
 refine lZ<|ae 0 ⟨R,rfl,⟨_,ai.of<|s0 _ _ hR.lst⟩,l3 (xs:=as.map λa=>V.ref a.1) (λr σ H'=>∃(kM:List<|Key×V) (us:List Addr) (ls:List Lk) (u1 u2 u3:Option V),aj H H'/\H' dm=some (.dK kM)/\H' M=some (.lst<|us.map V.ref)/\lg H' us ls/\g6 n (bd<|n.take r) kM ls/\σ=[some<|.ref R,some<|.ref dm,some<|.ref M,u1,u2,u3])
  ⟨[],[],[],_,_,_,s0,uP,mR,⟨rfl,λj u x h=>by simp at h⟩,g6.start n,rfl⟩ ?_ ?_ ?_⟩
 ·rintro r σ H' _ ⟨_,_,_,_,_,_,sm,_⟩;exact ai.of<|sm _ _ hR.lst
 ·rintro r x σ H' hx ⟨kM,us,ls,u1,u2,u3,sm,ed,eM,c7,I,rfl⟩;have hi:r < n.length:=by
   have:=(Ac.mp hx).1;rw [Aa] at this;omega
  obtain⟨a,ea,dN,et,el,er⟩:=(hR.same sm).at hi;rw [Ad,ea] at hx;cases hx;refine jm rfl (aJ.of et) (bb 3 nd<|bb 4 nd ?_);refine lZ<|ae 4 ⟨a.2,rfl,⟨_,ai.of el⟩,l3 (xs:=(row n r).map V.str) (λp σ bB=>∃(kM:List<|Key×V) (us:List Addr) (ls:List Lk) (u3:Option V),aj H bB/\bB a.2=some (Ls<|row n r)/\bB dm=some (.dK kM)/\bB M=some (.lst<|us.map V.ref)/\lg bB us ls/\g6 n (bd (n.take r)++bz r ((row n r).take p) 0) kM ls/\σ=[some<|.ref R,some<|.ref dm,some<|.ref M,some<|.str n[r].1,some<|.ref a.2,u3])
   ⟨kM,us,ls,_,sm,el,ed,eM,c7,by simpa [bz] using I,rfl⟩ ?_ ?_ ?_⟩
  ·rintro p σ bB _ ⟨_,_,_,_,_,e,_⟩;exact ai.of e
  ·rintro p x σ bB hx ⟨kM,us,ls,u3,sm,el,ed,eM,c7,I,rfl⟩;have hp:p < (row n r).length:=by
    have:=(Ac.mp hx).1;rw [Aa] at this;exact this
   have hz:(row n r)[p]?=some (row n r)[p]:=Ab hp;rw [Ad,hz] at hx;cases hx;have iM:=nP (r:=r) hz;have hle:=k9n hT hi hz;have b4:(bd (n.take r)++bz r ((row n r).take p) 0).length<=60:=by
    obtain⟨rest,g9⟩:=tY hi hz;have h1:=BX List.length g9;simp only [Ag] at h1 ⊢;omega
   have lM:=I.dn;have lL:=I.kK;have lA:=c7.1;have P5:aF n r=n[r].1:=eS hi;have naM:a.2≠M:=λe=>by
    have:=(hR.tup r a n[r] ea<|Ab hi).2;rw [e,uO] at this;cases this
   generalize (row n r)[p]=z at hz iM hle;refine bb 5 nd ?_;refine cY<|LW hu<|ae 5<|ae 1 ⟨dm,_,rfl,bh.k (k:=Sum.inr z) ed,?_⟩;cases iV:bY (bd (n.take r)++bz r ((row n r).take p) 0) z with
   | nil=>
    rw [I.m0 z iV];show if false=true then _ else _;rw [BL<|by decide];refine su hu<|ae 3<|ae 1<|ae 5 ⟨dm,_,rfl,b6.k (k:=Sum.inr z) ed (bU<|by omega),a8<|a8 ⟨_,us,ls,_,c8 sm t7,?_,aw,?_,c7.keep λt xs h=>?_,?_,rfl⟩⟩
    ·rw [av<|b7 el ed λz=>nomatch z];exact el
    ·rw [av jZ];exact eM
    ·rw [av<|b7 h ed λz=>nomatch z];exact h
    ·rw [iM,<- Ay];have:=I.new (e:=(r,p)) iV;show g6 n _ (putK kM (Sum.inr z)<|.str n[r].1) ls;rw [<- P5];exact this
   | cons b rest=>
    have hr0:rest=[]:=by
     rw [iV] at hle;exact Be.mp<|by have:rest.length+1<=1:=hle;omega
    subst hr0;have vm:=I.m1 z b [] iV;rw [vm];show if true=true then _ else _;rw [BP rfl];refine gR (je<|ae 2 ⟨M,rfl,⟨_,eM⟩,dH<|ak<|ae 5<|ak<|kD hu<|ae 1<|ae 5 ⟨dm,.str<|aF n b.1,rfl,by rw [<- vm];exact bh.k (k:=Sum.inr z) ed,ak<|ae 3<|aq ⟨(by show 3<=sizeLine;decide),λt ht=>?_⟩⟩⟩);have sT:=aP ht<|.tup [.str z,.str<|aF n b.1,.str n[r].1];have ntM:t≠M:=λe=>by rw [e,eM] at ht;cases ht
    have xH:(upd bB t<|.tup [.str z,.str<|aF n b.1,.str n[r].1]) t=some (T3 (z,aF n b.1,aF n (r,p).1)):=by
     rw [aw];show _=some (HO.tup [.str z,.str<|aF n b.1,.str<|aF n r]);rw [P5]
    have kT:∀ c xs,(upd bB t<|.tup [.str z,.str<|aF n b.1,.str n[r].1]) c=some (.tup xs)->(upd (upd bB t<|.tup [.str z,.str<|aF n b.1,.str n[r].1]) M<|.lst<|us.map V.ref++[.ref t]) c=some (.tup xs):=λc xs h=>by
     rw [av<|b7 h (sT _ _ eM) λz=>nomatch z];exact h
    refine⟨_,sT _ _ eM,by rw [Aa];exact bU (by omega),a8<|a8 ⟨kM,us++[t],ls++[(z,aF n b.1,aF n (r,p).1)],_,c8 (sm.trans sT) uO,?_,?_,?_,?_,?_,rfl⟩⟩
    ·rw [av naM];exact sT _ _ el
    ·rw [av<|CG jZ];exact sT _ _ ed
    ·rw [aw,Ak];rfl
    ·exact((c7.keep λc xs h=>sT _ _ h).snoc xH).keep kT
    ·rw [iM,<- Ay];exact I.old (e:=(r,p)) iV
  ·rintro σ bB ⟨kM,us,ls,u3,sm,_,ed,eM,c7,I,rfl⟩;rw [Aa,Ca] at I;refine a8 ⟨kM,us,ls,_,_,_,sm,ed,eM,c7,?_,rfl⟩;rw [ql hi];exact I
 ·rintro σ H' ⟨kM,us,ls,u1,u2,u3,sm,ed,eM,c7,I,rfl⟩;rw [Aa,bQ,Ca] at I;have lL:=I.kK;have lA:=c7.1;have aM:us.length < 64:=by omega
  refine bT (bL j8y T.sorted JV (ak (ae 2 (aq ⟨M,us,ls.map (·.1),rfl,ai.of eM,by rw [Aa];exact lA,I.fO,aM,λi t z h1 h2=>?_,λL ps hL hp hs=>?_⟩))))
  ·rw [Ad,Ao] at h2;obtain⟨x,hx,rfl⟩:=h2;exact⟨_,c7.2 i t x h1 hx⟩
  have pick:∀ p∈ps,∃ x,x∈ls/\x.1=p.2/\H' p.1=some (T3 x):=λp we=>by
   have hz:=hp.mem_iff.mp we;obtain⟨i,hi⟩:=Bb hz;rw [List.getElem?_zip_eq_some] at hi;obtain⟨h1,h2⟩:=hi;rw [Ad,Ao] at h2;obtain⟨x,hx,e⟩:=h2;exact⟨x,An hx,e,c7.2 i _ x h1 hx⟩
  obtain⟨xs,dQ⟩:∃ xs:List Lk,xs.length=ps.length/\∀(j:Nat) p x,ps[j]?=some p->xs[j]?=some x->x∈ls/\x.1=p.2/\H' p.1=some (T3 x):=by
   clear hs hp
   induction ps with
   | nil=>exact⟨[],rfl,λj p x h=>by simp at h⟩
   | cons p r ih=>
    obtain⟨x,q1,q2,q3⟩:=pick p<|Ae ..;obtain⟨xs,l1,l2⟩:=ih λc hc=>pick c<|Ah _ hc;refine⟨x :: xs,by rw [At,At,l1],λj c y h1 h2=>?_⟩;cases j with
    | zero=>
     cases h1;cases h2;exact⟨q1,q2,q3⟩
    | succ j=>exact l2 j c y (by simpa using h1)<|by simpa using h2
  obtain⟨lx,dQ⟩:=dQ;have lp:ps.length=ls.length:=by rw [hp.length_eq,List.length_zip,Aa];omega
  have sL:=aP hL<|.lst<|ps.map λp=> .ref p.1;have P6:F0 xs:=by
   unfold F0;rw [Az];intro i j hi hj gu;have a1:=(dQ i ps[i] xs[i] (Ab<|by omega)<|Ab hi).2.1;have a2:=(dQ j ps[j] xs[j] (Ab<|by omega)<|Ab hj).2.1;rw [a1,a2];exact Az.mp hs i j (by omega) (by omega) gu
  have px:(xs.map (·.1)).Nodup:=by
   rw [Cc,Ef];exact P6.imp λh e=>by rw [e] at h;exact Fz _ h
  have gG:∀ x,x∈xs↔x∈ls:=λx=>by
   constructor
   ·intro h;obtain⟨j,hj⟩:=Bb h;have nZ:=(Ac.mp hj).1;exact(dQ j ps[j] x (Ab<|by omega) hj).1
   ·intro h;refine CK λhn=>?_;have F5:xs.Nodup:=by
     rw [Cc] at px ⊢;rw [Ef] at px;exact px.imp λh e=>h<|by rw [e]
    have:=aK F5 (b:=ls.erase x) λz hz=>by
     have hzl:z∈ls:=by
      obtain⟨j,hj⟩:=Bb hz;have nZ:=(Ac.mp hj).1;exact(dQ j ps[j] z (Ab<|by omega) hj).1
     exact(Em λe:z=x=>hn<|e ▸ hz).mpr hzl
    rw [Er h] at this;have:0 < ls.length:=Fx h;omega
  refine q L (ps.map (·.1)) xs _ (sm.trans sL) (kR sm hL) (by rw [aw,Ch];rfl) ⟨by rw [Aa];omega,λj u x h1 h2=>?_⟩ P6 (λx=>by rw [gG x];exact I.whole hT x) (by omega);rw [Ad,Ao] at h1;obtain⟨p,kQ,rfl⟩:=h1;exact sL _ _ (dQ j p x kQ h2).2.2
abbrev P7(x:Bl):HO:= .tup [.str x.1,.str x.2.1,.bl x.2.2]
def lh(H:Hp)(us:List Addr)(ls:List Bl):Prop:=us.length=ls.length/\∀(j:Nat) u x,us[j]?=some u->ls[j]?=some x->H u=some (P7 x)
theorem lh.same{H H':Hp}{us:List Addr}{ls:List Bl}(h:lh H us ls)(s:aj H H'):lh H' us ls:=⟨h.1,λj u x h1 h2=>s _ _<|h.2 j u x h1 h2⟩
def F6:Sp:=λvs H Q _=>∃(f:Str) (L:Addr) (us:List Addr) (ls:List Bl),vs=[.str f,.ref L]/\H L=some (.lst<|us.map V.ref)/\lh H us ls/\ls.length<=60 /\
 ∀(d:Addr) (kvs:List<|Key×V) (H':Hp),aj H H'->H d=none->H' d=some (.dK kvs)->cV ls f none kvs []->Q (.ref d) H'
abbrev NSp:List Str:=["first","links","odds","waiting","here","one","other","odd","start","goal"]
theorem uQ:al NSp ["first","links"] (aQ A7):=⟨rfl,rfl,rfl,by decide +kernel,rfl,by decide +kernel,by decide +kernel⟩
theorem k73(wt:List Str)(h:Str):(((wt++[h]).map V.str)[((wt++[h]).map V.str).length - 1]?=some (.str h))/\((wt++[h]).map V.str).dropLast=wt.map V.str:=by
 rw [Ak]
 constructor
 ·simp
 ·exact List.dropLast_concat
theorem k6u{f:Addr}{fd:FuncData}(F:bH K "spread" "spread" A7 f fd)(T:Txt mg):aE P w K mg base bJ 1 f fd ["first","links"] F6:=by
 refine F.gb uQ (λvs H Q E h=>?_) λb0 H vs Q E hr h=>?_
 ·obtain⟨f,L,us,ls,rfl,_⟩:=h;rfl
 obtain⟨ft,L,us,ls,rfl,hL,c7,h60,q⟩:=h;have nd:=uQ.nd;have hu:=hr.u1;have ph:=c7.1;show Run _ _ _ [some<|.str ft,some<|.ref L,none,none,none,none,none,none,none,none] H;refine aX 2 nd<|k90 hu λd hd=>ae 0<|kg ⟨_,b6.k (k:=Sum.inr ft) aw<|bU<|Bu _,?_⟩;rw [vz];refine aX 3 nd<|cL<|ak<|ae 0<|aq ⟨Z1,λM hM=>?_⟩;have jZ:M≠d:=λe=>by rw [e,aw] at hM;cases hM
 have uO:H M=none:=by rw [av jZ] at hM;exact hM
 have s0:aj H (upd (upd H d<|.dK<|putK [] (Sum.inr ft)<|.bl false) M<|.lst [.str ft]):=(aP hd _).trans<|aP hM _;have uP:(upd (upd H d<|.dK<|putK [] (Sum.inr ft)<|.bl false) M<|.lst [.str ft]) d=some (.dK<|putK [] (Sum.inr ft)<|.bl false):=by rw [av<|CG jZ,aw]
 have mR:(upd (upd H d<|.dK<|putK [] (Sum.inr ft)<|.bl false) M<|.lst [.str ft]) M=some (Ls [ft]):=aw;show Run _ _ _ [some<|.str ft,some<|.ref L,some<|.ref d,some<|.ref M,none,none,none,none,none,none] (upd (upd H d<|.dK<|putK [] (Sum.inr ft)<|.bl false) M<|.lst [.str ft]);generalize upd (upd H d<|.dK<|putK [] (Sum.inr ft)<|.bl false) M (.lst [.str ft])=H0 at s0 uP mR;refine wj (λm σ H'=>m<=1000/\∃(kvs:List<|Key×V) (wt:List Str) (u4 u5 u6 u7 u8 u9:Option V),aj H H'/\H' d=some (.dK kvs)/\H' M=some (Ls wt)/\cV ls ft none kvs wt/\m=2 * (1+2 * ls.length - kvs.length)+wt.length /\
   σ=[some<|.str ft,some<|.ref L,some<|.ref d,some<|.ref M,u4,u5,u6,u7,u8,u9]) (m0:=2 * (1+2 * ls.length - 1)+1)
  ⟨by omega,_,[ft],_,_,_,_,_,_,s0,uP,mR,cV.start ls ft,rfl,rfl⟩ ?_
 rintro m σ H1 ⟨hm,kvs,wt,u4,u5,u6,u7,u8,u9,s1,P8,F7,I,em,rfl⟩;refine zI<|ae 3 (v:= .ref M) ⟨!wt.isEmpty,Or.inl ⟨wt.map V.str,ai.of F7,by cases wt <;> rfl⟩,?_⟩
 rcases List.eq_nil_or_concat wt with e | ⟨jH,hh,e⟩
 ·subst e;rw [BL<|by decide];exact bT<|ae 2<|q d kvs H1 s1 hd P8 I
 rw [List.concat_eq_append] at e;subst e;rw [BP<|by cases jH <;> rfl];obtain⟨hy,gn⟩:=k73 jH hh;refine aX 4 nd<|Wc FZ SX TF Ug<|ae 3 (v:= .ref M) ⟨Or.inl ⟨rfl,_,ai.of F7⟩,M,_,.str hh,rfl,rfl,F7,hy,?_⟩;rw [gn];have I1:=I.pop;have lw:(jH++[hh]).length=jH.length+1:=by rw [Ag];rfl
 rw [lw] at em;have P9:∀{H':Hp},aj H H'->H' L=some (.lst<|us.map V.ref):=λs=>s _ _ hL;show Run _ _ _ [some<|.str ft,some<|.ref L,some<|.ref d,some<|.ref M,some<|.str hh,u5,u6,u7,u8,u9] (upd H1 M<|Ls jH);have s2:aj H (upd H1 M<|Ls jH):=c8 s1 uO;have xS:(upd H1 M<|Ls jH) d=some (.dK kvs):=by rw [av<|CG jZ];exact P8
 have xU:(upd H1 M<|Ls jH) M=some (Ls jH):=aw;generalize upd H1 M (Ls jH)=H2 at s2 xS xU;refine lZ<|ae 1 ⟨L,rfl,⟨_,ai.of<|P9 s2⟩,l3 (xs:=us.map V.ref) (λj σ H'=>∃(kvs:List<|Key×V) (wt:List Str) (u5 u6 u7 u8 u9:Option V),aj H H'/\H' d=some (.dK kvs)/\H' M=some (Ls wt)/\cV ls ft (some hh) kvs wt/\2 * (1+2 * ls.length - kvs.length)+wt.length < m /\
   (∀ l∈ls.take j,(l.1=hh->has kvs l.2.1)/\(l.2.1=hh->has kvs l.1))/\σ=[some<|.str ft,some<|.ref L,some<|.ref d,some<|.ref M,some<|.str hh,u5,u6,u7,u8,u9])
  ⟨kvs,jH,_,_,_,_,_,s2,xS,xU,I1,by omega,λl hl=>by simp at hl,rfl⟩ ?_ ?_ ?_⟩
 ·rintro j σ H' _ ⟨_,_,_,_,_,_,_,sm,_⟩;exact ai.of<|P9 sm
 ·rintro j x σ H3 hx ⟨kvs,wt,u5,u6,u7,u8,u9,s3,ed,eM,I,aM,b4,rfl⟩;rw [Ad,Ao] at hx;obtain⟨u,ji,rfl⟩:=hx;have hj:j < ls.length:=by
   have:=(Ac.mp ji).1;omega
  have P':ls[j]?=some ls[j]:=Ab hj;have oZ:=(c7.same s3).2 j u _ ji P';have gG:ls[j]∈ls:=Bw hj;have rD:∀ l∈ls.take (j+1),l∈ls.take j\/l=ls[j]:=λl hl=>by
   rw [Cj,P'] at hl
   rcases Aq.mp hl with q | q
   ·exact .inl q
   ·exact .inr<|by simpa using q
  generalize ls[j]=lx at oZ gG rD;obtain⟨on,ot,od⟩:=lx;refine OQ rfl (aJ.of oZ) (bb 5 nd<|bb 6 nd<|bb 7 nd ?_);show Run _ _ _ [some<|.str ft,some<|.ref L,some<|.ref d,some<|.ref M,some<|.str hh,some<|.str on,some<|.str ot,some<|.bl od,u8,u9] H3;refine U8<|dH<|ak<|dH<|ak<|ae 5<|ak<|ae 6<|aq ⟨Z2,λt1 D0=>?_⟩;refine ak<|dH<|ak<|ae 6<|ak<|ae 5<|aq ⟨Z2,λt2 iN=>aq ⟨Z2,λtt htt=>?_⟩⟩;have n1:=aP D0<|.tup [.str on,.str ot];have n2:=aP iN<|.tup [.str ot,.str on];have n3:=aP htt<|.tup [.ref t1,.ref t2];have e1:=n3 _ _<|n2 _ _<|aw (H:=H3) (a:=t1) (o:= .tup [.str on,.str ot]);have e2:=n3 _ _<|aw (H:=upd H3 t1<|.tup [.str on,.str ot]) (a:=t2) (o:= .tup [.str ot,.str on]);have e3:=aw (H:=upd (upd H3 t1<|.tup [.str on,.str ot]) t2<|.tup [.str ot,.str on]) (a:=tt) (o:= .tup [.ref t1,.ref t2]);have n:=n1.trans<|n2.trans n3;refine⟨tt,rfl,⟨_,aJ.of e3⟩,?_⟩;generalize upd (upd (upd H3 t1<|.tup [.str on,.str ot]) t2<|.tup [.str ot,.str on]) tt (.tup [.ref t1,.ref t2])=H4 at e1 e2 e3 n;refine U9 (xs:=[.ref t1,.ref t2]) (λi σ H'=>∃(kvs:List<|Key×V) (wt:List Str) (u8 u9:Option V),aj H H'/\H' d=some (.dK kvs)/\H' M=some (Ls wt)/\H' t1=some (.tup [.str on,.str ot])/\H' t2=some (.tup [.str ot,.str on])/\H' tt=some (.tup [.ref t1,.ref t2])/\cV ls ft (some hh) kvs wt/\2 * (1+2 * ls.length - kvs.length)+wt.length < m /\
   (∀ l∈ls.take j,(l.1=hh->has kvs l.2.1)/\(l.2.1=hh->has kvs l.1))/\(0 < i->on=hh->has kvs ot)/\(1 < i->ot=hh->has kvs on)/\σ=[some<|.str ft,some<|.ref L,some<|.ref d,some<|.ref M,some<|.str hh,some<|.str on,some<|.str ot,some<|.bl od,u8,u9])
   ⟨kvs,wt,_,_,s3.trans n,n _ _ ed,n _ _ eM,e1,e2,e3,I,aM,b4,λh=>absurd h (by decide),λh=>absurd h (by decide),rfl⟩ ?_ ?_ ?_
  ·rintro i σ H' _ ⟨_,_,_,_,_,_,_,_,_,e,_⟩;exact aJ.of e
  ·rintro i x σ H5 hx ⟨kvs,wt,u8,u9,s5,ed,eM,e1,e2,e3,I,aM,b4,d1,d2,rfl⟩;obtain⟨st,gl,t,rfl,et,F8,cW⟩:∃ st gl t,x = .ref t/\H5 t=some (.tup [.str st,.str gl])/\oq ls st gl od/\∀ iF,(∀ y,has kvs y->has iF y)->(st=hh->has iF gl)->(0 < i+1->on=hh->has iF ot)/\(1 < i+1->ot=hh->has iF on):=by
    match i with
    | 0=>
     cases hx;exact⟨on,ot,t1,rfl,e1,.inl gG,λiF mo h=>⟨λ_=>h,λh=>absurd h<|by decide⟩⟩
    | 1=>
     cases hx;exact⟨ot,on,t2,rfl,e2,.inr gG,λiF mo h=>⟨λ_ e=>mo _ (d1 (by decide) e),λ_=>h⟩⟩
    | i+2=>simp at hx
   refine jm rfl (aJ.of et) (bb 8 nd<|bb 9 nd ?_);show Run _ _ _ [some<|.str ft,some<|.ref L,some<|.ref d,some<|.ref M,some<|.str hh,some<|.str on,some<|.str ot,some<|.bl od,some<|.str st,some<|.str gl] H5;have skip:(st=hh->has kvs gl)->∃(kvs:List<|Key×V) (wt:List Str) (u8 u9:Option V),aj H H5/\H5 d=some (.dK kvs)/\H5 M=some (Ls wt)/\H5 t1=some (.tup [.str on,.str ot])/\H5 t2=some (.tup [.str ot,.str on])/\H5 tt=some (.tup [.ref t1,.ref t2])/\cV ls ft (some hh) kvs wt/\2 * (1+2 * ls.length - kvs.length)+wt.length < m /\
     (∀ l∈ls.take j,(l.1=hh->has kvs l.2.1)/\(l.2.1=hh->has kvs l.1))/\(0 < i+1->on=hh->has kvs ot)/\(1 < i+1->ot=hh->has kvs on)/\[some<|V.str ft,some<|.ref L,some<|.ref d,some<|.ref M,some<|.str hh,some<|.str on,some<|.str ot,some<|.bl od,some<|.str st,some<|.str gl]=[some<|.str ft,some<|.ref L,some<|.ref d,some<|.ref M,some<|.str hh,some<|.str on,some<|.str ot,some<|.bl od,u8,u9]:=λh=>
    ⟨kvs,wt,_,_,s5,ed,eM,e1,e2,e3,I,aM,b4,(cW kvs (λ_ h=>h) h).1,(cW kvs (λ_ h=>h) h).2,rfl⟩
   refine cY<|lX<|Km<|cD i0<|ae 8<|ae 4 ⟨rfl,_,rfl,?_⟩
   by_cases cS:st=hh
   ·rw [BP<|BW<|by rw [cS]];refine Kn<|Wm hu<|ae 9<|ae 2 ⟨d,_,rfl,bh.k (k:=Sum.inr gl) ed,?_⟩;cases hg:aC kvs (Sum.inr gl) with
    | some v=>
     show if false=true then _ else _;rw [BL<|by decide];exact a8<|a8<|skip λ_=>⟨v,hg⟩
    | none=>
     show if true=true then _ else _;rw [BP rfl];have hhh:has kvs hh:=by
      rcases I.Y9 with q
      exact q
     obtain⟨v,hv⟩:=hhh;obtain⟨b,rfl,_⟩:=I.val hh v hv;subst cS;have I':=I.add (o:=od) hg hv F8;have lk:=I.len;have lk':=I'.len;have gy:(putK kvs (Sum.inr gl)<|.bl<|b != od).length=kvs.length+1:=by
      have tI:=I.jv hg;have:=BX List.length<|C5 kvs (Sum.inr gl)<|.bl<|b != od;rw [BL tI,Ag,Aa,Aa] at this;exact this
     refine su hu (ja pV<|kD hu<|ae 2<|ae 4 ⟨d,.bl b,rfl,by rw [<- hv];exact bh.k (k:=Sum.inr st) ed,ae 7 ⟨rfl,?_⟩⟩);rw [yI];refine ae 2 (ae 9 ⟨d,_,rfl,b6.k (k:=Sum.inr gl) ed (bU<|by omega),?_⟩);have Qa:(upd H5 d<|.dK<|putK kvs (Sum.inr gl)<|.bl<|b != od) M=some (Ls wt):=by rw [av jZ];exact eM
     refine gR (je<|ae 3 ⟨M,rfl,⟨_,Qa⟩,ae 9 ⟨_,Qa,by rw [Aa];exact bU (by omega),?_⟩⟩);have kT:∀ c xs,H5 c=some (.tup xs)->(upd (upd H5 d<|.dK<|putK kvs (Sum.inr gl)<|.bl<|b != od) M<|.lst<|wt.map V.str++[.str gl]) c=some (.tup xs):=λc xs h=>by
      rw [av (b7 h eM λz=>nomatch z),av<|b7 h ed λz=>nomatch z];exact h
     have mo:∀ y,has kvs y->has (putK kvs (Sum.inr gl)<|.bl<|b != od) y:=λy h=>tH h;have hn:=cW _ mo (λ_=>⟨.bl<|b != od,by rw [c0,BP rfl]⟩);refine a8<|a8 ⟨_,wt++[gl],_,_,c8 (c8 s5 hd) uO,?_,?_,kT _ _ e1,kT _ _ e2,kT _ _ e3,I',?_,λl hl=>⟨λe=>mo _<|(b4 l hl).1 e,λe=>mo _<|(b4 l hl).2 e⟩,hn.1,hn.2,rfl⟩
     ·rw [av<|CG jZ];exact aw
     ·rw [aw];show some (HO.lst<|wt.map V.str++[.str gl])=some (HO.lst<|(wt++[gl]).map V.str);rw [Ak];rfl
     ·rw [gy,Ag];rw [gy] at lk';show _+(wt.length+1) < m;omega
   ·rw [BL λh=>cS<|V.str.inj<|BZ h];show if false=true then _ else _;rw [BL<|by decide];exact a8<|a8<|skip λh=>absurd h cS
  ·rintro σ H5 ⟨kvs,wt,u8,u9,s5,ed,eM,_,_,_,I,aM,b4,d1,d2,rfl⟩;refine a8 ⟨kvs,wt,_,_,_,_,_,s5,ed,eM,I,aM,λl hl=>?_,rfl⟩
   rcases rD l hl with q | q
   ·exact b4 l q
   ·subst q;exact⟨d1 (by show 0 < 2;decide),d2<|by show 1 < 2;decide⟩
 ·rintro σ H3 ⟨kvs,wt,u5,u6,u7,u8,u9,s3,ed,eM,I,aM,b4,rfl⟩;rw [Aa,ph,Ca] at b4;refine a8 ⟨_,aM,by omega,kvs,wt,_,_,_,_,_,_,s3,ed,eM,I.close λy o ht=>?_,rfl,rfl⟩
  rcases ht with h | h
  ·exact(b4 _ h).1 rfl
  ·exact(b4 _ h).2 rfl
end
end F3
namespace L2
open PySem PySem.Spec PyProof.Rows
structure Xo(h:Heap)(e T:Addr)(C fl:Value):Prop where
 ex:∃ oe vs,h.get? e=some oe/\oe.cls=C/\oe.dict=none/\oe.data = .fields vs/\vs[1]?=some (.ref T)/\vs[2]?=some .none
 ne:T≠e
 tr:∃ oT ts,h.get? T=some oT/\oT.data = .fields ts/\ts[3]?=some fl
structure Kp(fs bad:List Addr)(h h':Heap):Prop where
 keep:∀ b o,h.get? b=some o->b∉fs->b∉bad->h'.get? b=some o
 slot:∀ b o,h.get? b=some o->b∈fs->∃ sl,h'.get? b=some {o with slots:=sl}
theorem j6s(o:Obj)(f:Array Value->Array Value):(o.mapFields f).dict=o.dict:=by
 obtain⟨c,d,dt,sl⟩:=o;cases dt <;> rfl
section
variable{M:Model}{A:Around}{E:Value->Shared->Prop}{s:Shared}
theorem k5c{base:Heap}{env:Env}{outer:List Env}{L e:Addr}{oe:Obj}{vs:Array Value}{head:Value}{nx:Bool}{Q:Unit->Shared->Prop}(jR:A.frames=some (env :: outer))(hl:s.heap.FunFrames base<|env :: outer)(hf:env.frame=some L)
  (he:s.heap.get? e=some oe) (hd:oe.data = .fields vs) (F9:oe.dict=none) (h1:1 < vs.size) (h2:vs[2]?=some .none)
  (h:∀ h' T,s.heap.get? T=none->Xo h' e T oe.cls .none->Kp (d6<|env :: outer) [e] s.heap h'->Q () {s with heap:=h'}) :
  wpAny M A (do let a <- frameOf env;let pl <- entryPlaceOf L nx;let b <- EntryCells.newEntry head a .none (rawInt L) .none pl;setField (.ref e) 1 b) (λ_ s'=>wpAny M A (setFlight (.ref e) none) Q E s') E s:=by
 have Qb:e∉d6 (env :: outer):=λhm=>by
  obtain⟨_,o,ho,hn⟩:=hl.mem hm;rw [he] at ho;cases ho;exact hn vs hd
 refine BJ<|wpAny_frameOf_fun jR hl hf λha sa=>?_;refine BJ<|wpAny_entryPlaceOf λpl ip=>?_;unfold EntryCells.newEntry newFields;refine BJ<|DG ?_<|ip.sizeOk5 _ _ _ _ _;generalize hT:({cls:= .type "traceback",dict:=none,data:= .fields ([head,.ref L,.none,rawInt L,.none]++(if pl.isEmpty then List.replicate 6 Value.none else pl)).toArray}:Obj)=oT;have ea:ha.get? e=some oe:=(sa.2.1 e Qb).trans he;have eb:(ha.push oT).get? e=some oe:=Af _ ea;have tb:(ha.push oT).get? ha.objs.size=some oT:=Ap ha (by rw [<- hT];rfl);have Gw:ha.objs.size≠e:=Cy<|As ea;refine DR eb hd h1 ?_;have dc:=Obj.data_mapFields hd (·.setIfInBounds 1 (Value.ref ha.objs.size));have ec:=Dh (Obj.mapFields (·.setIfInBounds 1 (Value.ref ha.objs.size))) eb<|Obj.isFreed_of_fields dc;have tc:((ha.push oT).update e (Obj.mapFields (·.setIfInBounds 1 (Value.ref ha.objs.size)))).get? ha.objs.size=some oT:=(Cm _ _<|CG Gw).trans tb;unfold setFlight;refine BJ (KJ ec dc (x:= .ref ha.objs.size) (by simp [h1]) ?_);rw [BP (show(Value.ref ha.objs.size != Value.none)=true from by simp)];have dT:oT.data = .fields ([head,.ref L,.none,rawInt L,.none]++(if pl.isEmpty then List.replicate 6 Value.none else pl)).toArray:=by rw [<- hT]
 have sz:3 < ([head,.ref L,.none,rawInt L,.none]++(if pl.isEmpty then List.replicate 6 Value.none else pl)).toArray.size:=by
  simp only [Av,Ag,At,Fb];omega
 refine DR tc dT sz<|h _ ha.objs.size (by
  cases hq:s.heap.get? ha.objs.size with
  | none=>rfl
  | some o=>
   obtain⟨sl,z⟩:=sa.2.2 _ o hq;exact absurd (As z)<|Cs _) ?_ ?_
 ·have dd:=Obj.data_mapFields dT (·.setIfInBounds 3 ((none:Option Addr).elim Value.none λf=>rawInt f));refine⟨⟨_,_,(Cm _ _ Gw).trans ec,Obj.cls_mapFields _ _,by rw [j6s];exact F9,dc,by simp [h1],by rw [Array.getElem?_setIfInBounds_ne<|by decide];exact h2⟩,Gw,⟨_,_,Dh _ tc<|Obj.isFreed_of_fields dd,dd,?_⟩⟩;rw [Array.getElem?_setIfInBounds_self_of_lt sz];rfl
 ·have kp:∀ b o,b≠e->ha.get? b=some o->(((ha.push oT).update e (Obj.mapFields (·.setIfInBounds 1 (Value.ref ha.objs.size)))).update ha.objs.size (Obj.mapFields (·.setIfInBounds 3 ((none:Option Addr).elim Value.none λf=>rawInt f)))).get? b=some o:=λb o hb q=>by
   rw [Cm _ _<|Cy<|As q,Cm _ _<|CG hb];exact Af _ q
  refine⟨λb o q nf nb=>kp b o (λz=>nb<|by simp [z])<|(sa.2.1 b nf).trans q,λb o q hb=>?_⟩;obtain⟨sl,z⟩:=sa.2.2 b o q;exact⟨sl,kp b _ (λy=>Qb<|y ▸ hb) z⟩
theorem k82{base:Heap}{env:Env}{outer:List Env}{L e:Addr}{oe:Obj}{vs:Array Value}{Q:Unit->Shared->Prop}(jR:A.frames=some (env :: outer))(hl:s.heap.FunFrames base<|env :: outer)(hf:env.frame=some L)
  (he:s.heap.get? e=some oe) (hd:oe.data = .fields vs) (F9:oe.dict=none) (h1:vs[1]?=some .none) (h2:vs[2]?=some .none)
  (h:∀ h' T,s.heap.get? T=none->Xo h' e T oe.cls .none->Kp (d6<|env :: outer) [e] s.heap h'->Q () {s with heap:=h'}) :
  wpAny M A (noteFrame (.ref e) env) (λ_ s'=>wpAny M A (setFlight (.ref e) none) Q E s') E s:=by
 unfold noteFrame;simp only [hf];refine BJ<|KJ he hd h1 ?_;rw [BL<|by decide];exact k5c jR hl hf he hd F9 (Array.getElem?_eq_some_iff.mp h1).1 h2 h
end
theorem Qc{fs f2 bad:List Addr}{H H':Hp}{h h1 h2:Heap}(u:Un fs [] H H' h h1)(k:Kp f2 bad h1 h2)(hf:∀ b o,h.get? b=some o->b∈f2->b∈fs)(hb:∀ b∈bad,h.get? b=none):Un fs [] H H' h h2:=by
 have nb:∀ b o,h.get? b=some o->b∉bad:=λb o q z=>by rw [hb b z] at q;cases q
 refine⟨λb o q n nf _=>k.keep b o (u.keep b o q n nf<|by simp) (λz=>nf<|hf b o q z)<|nb b o q,λb o q n hm _=>?_,u.free,λb o q _=>?_,u.dY,u.dC,u.dZ⟩
 ·obtain⟨sl,z⟩:=u.slot b o q n hm<|by simp
  by_cases y:b∈f2
  ·obtain⟨vD,z'⟩:=k.slot b _ z y;exact⟨vD,z'⟩
  ·exact⟨sl,k.keep b _ z y<|nb b o q⟩
 ·obtain⟨o',z⟩:=u.there b o q<|by simp
  by_cases y:b∈f2
  ·obtain⟨vD,z'⟩:=k.slot b _ z y;exact⟨_,z'⟩
  ·exact⟨o',k.keep b _ z y<|nb b o q⟩
theorem q75{P:Program}{w:World}{f2 bad:List Addr}{H:Hp}{h1 h2:Heap}(x:b5 P w H h1)(k:Kp f2 bad h1 h2)(hf:∀ b∈f2,H b=none)(hb:∀ b∈bad,H b=none):b5 P w H h2:=λa o e=>by
 refine(x a o e).f7 (λb u hh q=>k.keep b u q (λz=>?_) λz=>?_) (λ_ q=>q) λ_ _ q=>q
 ·have:=hf b z
  rcases hh with y | y
  ·rw [y,e] at this;cases this
  ·rw [y] at this;cases this
 ·have:=hb b z
  rcases hh with y | y
  ·rw [y,e] at this;cases this
  ·rw [y] at this;cases this
theorem q7b{P:Program}{w:World}{H:Hp}{h:Heap}{a:Addr}{o:HO}(x:ax P w H h a o):∃ u,h.get? a=some u:=by
 cases o with
 | lst xs=>obtain⟨_,_,_,_,q⟩:=x;exact⟨_,q⟩
 | tup xs=>obtain⟨_,_,_,u,q,_⟩:=x;exact⟨_,q⟩
 | dK kvs=>obtain⟨_,_,_,_,u,_,_,q,_⟩:=x;exact⟨_,q⟩
 | dT kvs=>obtain⟨_,_,_,_,u,_,_,q,_⟩:=x;exact⟨_,q⟩
 | set S n=>obtain⟨u,_,_,_,q,_⟩:=x;exact⟨_,q⟩
 | ins C dx fs=>obtain⟨_,_,_,q,_⟩:=x;exact⟨_,q⟩
 | own y=>exact x
 | xd fs=>obtain⟨_,⟨_,_,_,q,_⟩,_⟩:=x;exact⟨_,q⟩
 | vy lo hi=>obtain⟨_,_,_,q⟩:=x;exact⟨_,q⟩
 | cq ob u=>obtain⟨q,_⟩:=x;exact⟨_,q⟩
 | lG ps=>exact⟨_,x⟩
 | met f y=>exact⟨_,x⟩
 | ext φ=>obtain⟨_,q,_⟩:=x;exact q
def XF(P:Program)(w:World):fV:=λouter H s E e s'=>∃(ea T:Addr) (C:Value) (H':Hp),e = .ref ea/\E C none H'/\s'.os=s.os/\AllBare s'.gens/\Un (d6 outer) [] H H' s.heap s'.heap/\b5 P w H' s'.heap/\Xo s'.heap ea T C .none /\
 s.heap.get? ea=none/\s.heap.get? T=none/\H' ea=none/\H' T=none
section
variable{P:Program}{w:World}{K:PySem.W.Frag}{mg:Str->Option Value}{base:Heap}{N:List Str}{qual:Str}{scope:Scope}{f:Addr}{cd:Value}{A:Around}{outer:List Env}{s:Shared}{H:Hp}{E:XK}
theorem q41:d6 (envOfC qual scope s.heap.objs.size f cd :: outer)=s.heap.objs.size :: d6 outer:=rfl
theorem Qd{b:Addr}{fs ex:List Addr}{Ha Hb:Hp}{h h1:Heap}(u:Un fs ex Ha Hb h h1)(hx:b∉ex)(n:h1.get? b=none):h.get? b=none:=by
 cases q:h.get? b with
 | none=>rfl
 | some o=>obtain⟨o',z⟩:=u.there b o q hx;rw [n] at z;cases z
theorem Qe{P:Program}{w:World}{Ha:Hp}{h1:Heap}{b:Addr}(x:b5 P w Ha h1)(n:h1.get? b=none):Ha b=none:=by
 cases q:Ha b with
 | none=>rfl
 | some o=>
  exfalso
  obtain⟨u,z⟩:=q7b<|x b o q;rw [n] at z;cases z
end
abbrev lq:List Value:=[.type "ValueError",.type "Exception",.type "BaseException",.type "object"]
def XC(K:PySem.W.Frag)(C:Addr):Prop:=PySem.W.excIn K C lq "ValueError.__new__" = true
theorem XC.obj{K:PySem.W.Frag}{h:Heap}{C:Addr}(q:XC K C)(X:K.In h):∃ bm N nm qn bs hdct sn sub ab col dd k0 k1 k2 k3 k5 mN,h.get? C=some (excClassObj nm qn C N bs bm hdct sn sub ab col dd k0 k1 k2 k3 k5 "ValueError.__new__")/\h.Ns N mN/\mN "__init__" = none/\OwnTail h lq bm:=by
 unfold XC PySem.W.excIn at q
 split at q
 ·rename_i dd cd sl ho
  split at q
  ·rename_i D bm k0 k1 k2 k3 n k5 hm hs;simp only [Cf,QL,Bool.not_eq_true'] at q;obtain⟨⟨⟨⟨⟨eD,en⟩,uR⟩,ht⟩,aD⟩,ul⟩:=q;obtain⟨nm,bs,mro,ns,qn,hd,sn,sub,ab,col,del⟩:=cd
   dsimp only at hm uR aD ul
   subst eD en hm uR;have esl:sl=#[k0,k1,k2,k3,some<|.builtin "ValueError.__new__",k5]:=by
    cases sl;simp only at hs;rw [hs]
   subst esl;exact⟨bm,ns,nm,qn,bs,hd,sn,sub,ab,col,dd,k0,k1,k2,k3,k5,_,X _ _ ho,.of_isNs<|PySem.W.isNs_of_in X aD,PySem.W.nsMap_none_of_in X aD ul,PySem.W.tail_of_in X ht⟩
  ·cases q
 ·cases q
section
variable{X:Cx}{σ:St}{H:Hp}{D:Ends}{rest:List Stmt}
def Rz(X:Cx)(E:St->XK):Prop:=∀(pins:List<|Addr×Obj) (σ:St) (H:Hp) (s:Shared) (h':Heap) (e C:Addr) (args:List Value),Inv X pins σ H s->Heap.MadeExcOf s.heap h' e (.ref C) args->E σ (.ref C) none H->X.xe (.ref e) {s with heap:=h'}
theorem Qf{E:St->XK}(hz:Rz X E){x:Str}{C:Addr}{a:Expr}{np cp pos:Pos}(hm:X.mg x=some (.ref C))(hC:XC X.K C)(hc:X.calm=true)(h:Ea X [a] σ H λvs H1=>vs.length<=sizeLine/\E σ (.ref C) none H1)(hg:Gl X x:=by rfl)(de:(x == ("__debug__" : Str))=false:=by decide)
  (he:starEach [a] X.env=(false,eval a X.env) :: starEach [] X.env:=by rfl):Run X (.Raise (some<|.Call (.Name x np) [a] [] cp) none pos :: rest) D σ H:=by
 refine jN (t:=λD σ H=>Ea X [a] σ H λvs H1=>vs.length<=sizeLine/\E σ (.ref C) none H1) ?_ h;intro pins s σ H D I h;obtain⟨bm,N,nm,qn,bs,hdct,sn,sub,ab,col,dd,k0,k1,k2,k3,k5,mN,oC,oN,oi,oT⟩:=hC.obj I.ok.mod.pN;refine wpAny_Raise_call_subT (C:=C) (nm:=nm) (q:=qn) (N:=N) (bs:=bs) (bm:=bm) (hdct:=hdct) (sn:=sn) (sub:=sub) (ab:=ab) (col:=col) (dd:=dd) (k0:=k0) (k1:=k1) (k2:=k2) (k3:=k3) (k5:=k5) PySem.F.excBase_ValueError (mN:=mN) (oT.hasType PySem.F.excBase_ValueError.hasBase) (I.ok.hd hc) (by rw [he];rfl) oi<|yv I hg hm ⟨rfl,?_⟩ de;have q:=h.run cp pins s I;rw [he] at q ⊢;refine MF<|aI q λus s2 ⟨vs,H2,I2,r,z2,q2⟩=>⟨rfl,by rw [<- r.length];exact z2,I2.bk _ _ oC,oN.keeps I2.bk,oT.keeps I2.bk,λh' e hx=>hz pins σ H2 s2 h' e C us I2 hx q2⟩
end
section
variable{P:Program}{w:World}{K:PySem.W.Frag}{mg:Str->Option Value}{base:Heap}{N:List Str}{qual:Str}{scope:Scope}{f:Addr}{cd:Value}{A:Around}{outer:List Env}{s:Shared}{H:Hp}{E:XK}
theorem q7p{h h':Heap}(k:∀ b o,h.get? b=some o->h'.get? b=some o):Kp [] [] h h':=⟨λb o q _ _=>k b o q,λb o q z=>absurd z<|by simp⟩
theorem q8y:Rz (dF (XF P w) P w K mg base N qual scope f cd A outer s H E) (λ_=>E):=by
 intro pins σ H1 s1 h' e C args I hx hE;obtain⟨t,he,_,_⟩:=hx.there;show wpAny (model P w) (A.deeper<|envOfC qual scope s.heap.objs.size f cd) (leaving (envOfC qual scope s.heap.objs.size f cd)<|.ref e) _ _ _;unfold leaving;have n0:H1 e=none:=Qe I.aD hx.new;have k1:=q7p hx.keeps;refine BJ<|k82 (s:={s1 with heap:=h'}) (base:=base) (outer:=outer) I.ok.frames (I.stack.of_keeps λb o q _=>⟨o,hx.keeps b o q,rfl⟩) rfl he rfl rfl rfl rfl λh2 T z x k=>?_;have Gx:b5 P w H1 h':=I.aD.kept hx.keeps;have un1:Un (d6 outer) [] H H1 s.heap h':=Qc (H:=H) (h:=s.heap) I.base k1 (λb o q hb=>absurd hb<|by simp) λb hb=>absurd hb (by simp);have nT:s1.heap.get? T=none:=by
  cases q:s1.heap.get? T with
  | none=>rfl
  | some o=>have:=hx.keeps _ _ q;exact absurd (this.symm.trans z)<|by simp
 have ns:s.heap.get? e=none:=Qd (ex:=[]) (Hb:=H1) I.base (by simp) hx.new;refine⟨e,T,.ref C,H1,rfl,hE,I.os,I.bare,Qc un1 k (λb o q hb=>?_) λb hb=>?_,q75 Gx k (λb hb=>I.d8 b hb) λb hb=>?_,x,ns,Qd (ex:=[]) (Hb:=H1) I.base (by simp) nT,n0,Qe I.aD nT⟩
 ·rw [q41] at hb
  rcases Aj.mp hb with y | y
  ·exact absurd (As q)<|by rw [y];exact Cs _
  ·exact y
 ·rw [Ai.mp hb];exact ns
 ·rw [Ai.mp hb];exact n0
def Qg(N:List Str)(qual:Str)(scope:Scope)(P:Program)(w:World)(K:PySem.W.Frag)(mg:Str->Option Value)(base:Heap)(b:rZ):Cx:=dF (XF P w) P w K mg base N qual scope b.f b.bC b.A b.outer b.s b.H b.E
theorem bH.gx{x:Str}{st:Stmt}{fd:FuncData}{ps:List Str}{k:Nat}{sp:Sp}(F:bH K x qual st f fd)(S:al N ps<|aQ st)(len:∀ vs H Q E,sp vs H Q E->vs.length=ps.length)
  (cC:∀(b:rZ) (H:Hp) (vs:List V) (Q:VK),bw k (b.A.deeper<|envOfC qual (aQ st) b.s.heap.objs.size b.f b.bC)->sp vs H Q b.E->Run (Qg N qual (aQ st) P w K mg base b) (ic st) (En Q) (start N vs) H):aE P w K mg base (XF P w) (k+1) f fd ps sp:=by
 obtain⟨oc,od,kV,doc,pm,an,bC,ct,jK,rfl,lk,gK⟩:=F.ex;refine Jw lk gK S len λA outer s H vs Q E hr dw=>?_;exact⟨_,nq,cC ⟨f,bC,A,outer,s,H,E⟩ H vs Q hr dw⟩
theorem Qh{b:rZ}:Rz (Qg N qual scope P w K mg base b) (λ_=>b.E):=q8y
end
structure gH(P:Program)(w:World)(K:PySem.W.Frag)(mg:Str->Option Value)(base:Heap)(k:Nat)(x:Str)(ps:List Str)(sp:Sp):Prop where
 ex:∃ f fd,aE P w K mg base (XF P w) k f fd ps sp/\Binds K fd ps []/\PySem.W.keepIn K (.ref f)=true/\mg x=some (.ref f)
theorem gH.mono{P:Program}{w:World}{K:PySem.W.Frag}{mg:Str->Option Value}{base:Heap}{j k:Nat}{x:Str}{ps:List Str}{sp:Sp}(h:gH P w K mg base j x ps sp)(le:j<=k):gH P w K mg base k x ps sp:=
 let ⟨f,fd,F,r⟩:=h.ex;⟨f,fd,F.mono le,r⟩
theorem q40{X:Cx}{k:Nat}{ps:List Str}{sp:Sp}{x:Str}{e:Expr}{es:List Expr}{σ:St}{H:Hp}{Q:VK}{E:XK}{p pos:Pos}(G:gH X.prog X.w X.K X.mg X.base k x ps sp)(hr:bw k X.A)(hx:m8 (XF X.prog X.w) X E)
  (h:Ea X (e :: es) σ H λvs H1=>sp vs H1 Q E) (hg:Gl X x:=by rfl) (de:(x == ("__debug__" : Str))=false:=by decide) (hs:noStar (e :: es)=true:=by rfl):Ev X (.Call (.Name x p) (e :: es) [] pos) σ H Q:=
 let ⟨_,_,F,b,kp,m⟩:=G.ex;Kl F hr m kp b hx h hg de hs
theorem Df.Gy{P:Program}{w:World}{K:PySem.W.Frag}{mg:Str->Option Value}{h base:Heap}{k:Nat}{x:Str}{st:Stmt}{ps:List Str}{sp:Sp}(d:Df K x st)(X:K.In h)(G:h.Ns mainGlobals mg)
  (hb:∀(kV doc pm:Value) (an:Option Addr) (bC ct:Value) (us:List Value),us.length=ps.length->bindArgs (PySem.W.fnOf x x (lR st) (ic st) (aQ st) .none kV doc pm an bC ct) ⟨us,[]⟩=pure (ps.zip us))
  (ok:∀{f:Addr} {fd:FuncData},bH K x x st f fd->aE P w K mg base (XF P w) k f fd ps sp):gH P w K mg base k x ps sp:=
 let ⟨f,fd,a,F⟩:=d;⟨f,fd,ok F,F.binds hb,F.kp,HY X G a⟩
section
variable{X:Cx}{CX:fV}{k:Nat}{f:Addr}{fd:FuncData}{ps:List Str}{sp:Sp}{E:XK}{x:Str}{p pos:Pos}{e:Expr}{es:List Expr}{σ:St}{H:Hp}{Q:VK}
end
section
variable{X:Cx}{pins:List (Addr×Obj)}{σ:St}{H:Hp}{s:Shared}{b:Addr}
end
def Qi(K:PySem.W.Frag)(C S:Addr):Bool:=match K.lookup C with
 | some ⟨_,_,.cls cd,_⟩=>cd.mro.contains<|.ref S
 | _=>false
section
variable{M:Model}{A:Around}{E:Value->Shared->Prop}{K:PySem.W.Frag}{s:Shared}
end
section
variable{X:Cx}{pins:List (Addr×Obj)}{σ:St}{H:Hp}{s:Shared}
end
open PySem.W
section
variable{prog:Program}{w:World}{A:Around}{E:Value->Shared->Prop}{s:Shared}{K:Frag}{a C:Addr}{o:Obj}
def Qj(K:Frag)(C:Addr):Bool:=findIn K (.ref C) "__getattribute__" == some (some<|.builtin "BaseException.__getattribute__") && findIn K (.ref C) "__getattr__" == some none && findIn K (.ref C) "__class__" == some (some<|.builtin "object.__class__") &&
 mroIn K C (.type "object") == some true && mroIn K C (.type "BaseException") == some true && (clsIn K C).isSome
end
end L2
namespace L2
open PySem PySem.Spec PyProof.Rows
section
variable{prog:Program}{w:World}{A:Around}{E:Value->Shared->Prop}{s:Shared}
end
section
variable{X:Cx}{tg:Expr}
end
section
variable{X:Cx}{elt tg iter:Expr}{ifs:List Expr}{scope:Scope}{pos:Pos}{N':List Str}{n:Nat}{wi:TI}{g:TG}{tc:TT}{te:TE}
end
section
variable{X:Cx}{elt tg iter c:Expr}{ifs:List Expr}{scope:Scope}{pos p:Pos}{wi:TI}{σ:St}{H:Hp}{Q:VK}{T:Bool->Hp->Prop}{rest:List Stmt}{D:Ends}
end
section
variable{X:Cx}{k:Nat}{ps:List Str}{sp:Addr->Obj->Sp}{E:XK}{x:Str}{p pos:Pos}{e:Expr}{es:List Expr}{σ:St}{H:Hp}{Q:VK}
end
end L2
namespace Nt
open PySem L2
section
variable{n:Net}{z:Str}{r k:Nat}
theorem qO(h:r < n.length):row n r=n[r].2:=by unfold row;rw [Ab h];rfl
theorem Qk(h:r < n.length):ag (n.take<|r+1)=ag (n.take r)++row n r:=by
 rw [qO h];unfold ag;rw [Cj,Ab h,Dg];simp
theorem k3i:ag n=ag (n.take k)++ag (n.drop k):=by
 unfold ag;rw [<- Dg,Cq]
theorem q56(h:r < n.length)(q:z∈row n r):z∈ag n:=by
 rw [k3i (k:=r+1),Qk h];simp [q]
theorem q6k(q:z∈ag n):∃ r,r < n.length/\z∈row n r:=by
 unfold ag at q;obtain⟨x,hx,hz⟩:=List.mem_flatMap.mp q;obtain⟨r,hr,e⟩:=Bz.mp hx;exact⟨r,hr,by rw [qO hr,e];exact hz⟩
end
end Nt
namespace L2
open PySem PySem.Spec PyProof.Rows
section
variable{X:Cx}{σ:St}{H:Hp}
end
end L2
namespace L2
open PySem Nt
section
variable{X:Cx}{elt tg:Expr}{ifs:List Expr}{scope:Scope}{σ:St}{H:Hp}{N':List Str}{A:Addr}{after:Hp->Prop}
end
section
variable{X:Cx}{σ:St}{H:Hp}{Q:VK}{o e e1:Expr}{pos p1 p2 p3 p4:Pos}{j1:Nat}
end
end L2
namespace Nt
open PySem L2 Classical
theorem k6b{ls:List Bl}{f x y:Str}{b c:Bool}(h:Way ls f x b)(g:Way ls x y c):∃ d,Way ls f y d:=by
 induction g with
 | here=>exact⟨b,h⟩
 | there _ m ih=>obtain⟨d,hd⟩:=ih;exact⟨_,.there hd m⟩
 | back _ m ih=>obtain⟨d,hd⟩:=ih;exact⟨_,.back hd m⟩
theorem Ql{l1 l2:List Bl}(hm:∀ x y o,(x,y,o)∈l1->∃ o',oq l2 x y o'){f x:Str}{b:Bool}(h:Way l1 f x b):∃ d,Way l2 f x d:=by
 induction h with
 | here=>exact⟨_,.here⟩
 | there _ m ih=>
  obtain⟨d,hd⟩:=ih;obtain⟨o',t | t⟩:=hm _ _ _ m
  ·exact⟨_,.there hd t⟩
  ·exact⟨_,.back hd t⟩
 | back _ m ih=>
  obtain⟨d,hd⟩:=ih;obtain⟨o',t | t⟩:=hm _ _ _ m
  ·exact⟨_,.back hd t⟩
  ·exact⟨_,.there hd t⟩
noncomputable def Gz(n:Net)(T:List Str):List Bl:=((ends n).filter λe=>decide (∃ z,aG n e=some z/\z∈T)).map λe=>(aF n e.1,aF n (other n e).1,false)
theorem cJ{n:Net}{T:List Str}{x y:Str}{o:Bool}:(x,y,o)∈Gz n T↔∃ e z,aG n e=some z/\z∈T/\x=aF n e.1/\y=aF n (other n e).1/\o=false:=by
 unfold Gz;rw [Am]
 constructor
 ·rintro ⟨e,he,q⟩;obtain⟨z,hz,ht⟩:=BZ (Da.mp he).2;exact⟨e,z,hz,ht,(BX (·.1) q).symm,(BX (·.2.1) q).symm,(BX (·.2.2) q).symm⟩
 ·rintro ⟨e,z,hz,ht,rfl,rfl,rfl⟩;exact⟨e,Da.mpr ⟨af.mpr ⟨z,hz⟩,BW ⟨z,hz,ht⟩⟩,rfl⟩
def Rt(n:Net)(T:List Str)(x y:Str):Prop:=∃ b,Way (Gz n T) x y b
theorem Rt.refl(n:Net)(T:List Str)(x:Str):Rt n T x x:=⟨_,.here⟩
theorem Rt.trans{n:Net}{T:List Str}{x y z:Str}(h:Rt n T x y)(g:Rt n T y z):Rt n T x z:=by
 obtain⟨_,h⟩:=h;obtain⟨_,g⟩:=g;exact k6b h g
theorem Rt.step{n:Net}{T:List Str}{e:End}{z:Str}(h:aG n e=some z)(hz:z∈T):Rt n T (aF n e.1) (aF n (other n e).1):=⟨_,.there .here<|cJ.mpr ⟨e,z,h,hz,rfl,rfl,rfl⟩⟩
theorem Rt.ind{n:Net}(Tw:ay n){T:List Str}{P:Str->Prop}{x y:Str}(h:Rt n T x y)(hx:P x)(hs:∀ e z,aG n e=some z->z∈T->P (aF n e.1)->P (aF n (other n e).1)):P y:=by
 obtain⟨b,h⟩:=h
 induction h with
 | here=>exact hx
 | there _ m ih=>
  obtain⟨e,z,he,hz,rfl,rfl,rfl⟩:=cJ.mp m;exact hs e z he hz ih
 | back _ m ih=>
  obtain⟨e,z,he,hz,rfl,rfl,rfl⟩:=cJ.mp m;have o:=fk Tw he;have:=hs (other n e) z o.1 hz ih;rw [o.2.1] at this;exact this
theorem q14{n:Net}(Tw:ay n)(hg:cH n)(h0:0 < n.length){T:List Str}(h:∀ e z,aG n e=some z->Rt n T (aF n e.1) (aF n (other n e).1)):∀ x∈n.map (·.1),Rt n T (bA n) x:=by
 intro x hx;obtain⟨r,hr,rfl⟩:=Am.mp hx;refine hg (λx=>Rt n T (bA n) x) ⟨n[0],Bw h0,?_⟩ (λr hr s hs z zr zs w=>?_) r hr
 ·have:bA n=n[0].1:=eS h0;rw [<- this];exact Rt.refl ..
 ·obtain⟨i,hi,rfl⟩:=Bz.mp hr;obtain⟨j,hj,rfl⟩:=Bz.mp hs;obtain⟨p,hp⟩:=Bb zr;obtain⟨q,hq⟩:=Bb zs;have h1:aG n (i,p)=some z:=by show(row n i)[p]?=_;rw [kF hi];exact hp
  have h2:aG n (j,q)=some z:=by show(row n j)[q]?=_;rw [kF hj];exact hq
  rcases (ju Tw h1).mp h2 with e | e
  ·have:j=i:=BX (·.1) e;subst this;exact w
  ·have:=h (i,p) z h1;rw [<- e] at this;rw [show aF n ((i,p):End).1=n[i].1 from eS hi,show aF n ((j,q):End).1=n[j].1 from eS hj] at this;exact w.trans this
theorem q07{α:Type} [DecidableEq α] {a b:List α} (ha:a.Nodup) (hb:b.Nodup) (hs:∀ x∈a,x∈b):a.length=b.length↔∀ x∈b,x∈a:=by
 constructor
 ·intro h x hx;refine CK λhn=>?_;have:=aK (b:=b.erase x) ha λz hz=>(Em λe:z=x=>hn<|e ▸ hz).mpr<|hs z hz;rw [Er hx] at this;have:0 < b.length:=Fx hx;omega
 ·intro h;have h1:=aK ha hs;have h2:=aK hb h;omega
section
variable{n:Net}{z:Str}
def mS(n:Net):Prop:=∀ x∈n.map (·.1),Rt n (ag n) (bA n) x
end
def dv(ls:List Lk):List Bl:=ls.map λx=>(x.2.1,x.2.2,false)
theorem q3r{n:Net}(T:ay n){ls:List Lk}(h:∀ x,x∈ls↔om n x){f x:Str}:(∃ b,Way (dv ls) f x b)↔Rt n (ag n) f x:=by
 have mem:∀{x y:Str} {o:Bool},(x,y,o)∈dv ls↔∃ l∈ls,x=l.2.1/\y=l.2.2/\o=false:=λ{x y o}=>by
  unfold dv;rw [Am]
  constructor
  ·rintro ⟨l,hl,q⟩;exact⟨l,hl,(BX (·.1) q).symm,(BX (·.2.1) q).symm,(BX (·.2.2) q).symm⟩
  ·rintro ⟨l,hl,rfl,rfl,rfl⟩;exact⟨l,hl,rfl⟩
 constructor
 ·rintro ⟨b,w⟩;refine Ql (λx y o hm=>?_) w;obtain⟨l,hl,rfl,rfl,rfl⟩:=mem.mp hm;obtain⟨e,he,h1,h2⟩:=Zh T<|(h l).mp hl;exact⟨false,.inl<|cJ.mpr ⟨e,l.1,he,fj he,h1,h2,rfl⟩⟩
 ·rintro ⟨b,w⟩;refine Ql (λx y o hm=>?_) w;obtain⟨e,z,he,hz,rfl,rfl,rfl⟩:=cJ.mp hm
  rcases Zi T he with q | q
  ·exact⟨false,.inl<|mem.mpr ⟨_,(h _).mpr q,rfl,rfl,rfl⟩⟩
  ·exact⟨false,.inr<|mem.mpr ⟨_,(h _).mpr q,rfl,rfl,rfl⟩⟩
theorem k3j{n:Net}(T:ay n)(hN:(n.map (·.1)).Nodup)(h0:0 < n.length){ls:List Lk}(h:∀ x,x∈ls↔om n x){kvs:List (Key×V)}(I:cV (dv ls) (bA n) none kvs []):kvs.length=n.length↔mS n:=by
 have key:∀ x,Sum.inr x∈kvs.map (·.1)↔Rt n (ag n) (bA n) x:=λx=>by
  rw [<- q3r T h]
  constructor
  ·intro hx;cases hv:aC kvs (Sum.inr x) with
   | none=>exact absurd hx<|I.jv hv
   | some v=>
    obtain⟨b,_,w⟩:=I.val x v hv;exact⟨b,w⟩
  ·rintro ⟨b,w⟩;obtain⟨b',kI⟩:=I.whole x b w;exact Zq kI
 have names:∀ x,Rt n (ag n) (bA n) x->x∈n.map (·.1):=λx hx=>hx.ind T (P:=λx=>x∈n.map (·.1)) (ou h0) λe z he _ _=>ou<|DA T he;have oj:((n.map (·.1)).map (Sum.inr:Str->Key)).Nodup:=KH _ (λa b h e=>h<|Sum.inr.inj e) hN;have k:=q07 I.fO oj λk hk=>by
  obtain⟨x,rfl,_⟩:=I.txt k hk;exact Am.mpr ⟨x,names x<|(key x).mp hk,rfl⟩
 rw [Aa,Aa,Aa] at k;rw [k]
 constructor
 ·exact λq x hx=>(key x).mp<|q _<|Am.mpr ⟨x,hx,rfl⟩
 ·intro q y hy;obtain⟨x,hx,rfl⟩:=Am.mp hy;exact(key x).mpr<|q x hx
section
variable{H0 H:Hp}{d l0 a:Addr}{done:List (Str×End)}{kvs:List (Key×V)}{ks:List Str}{z:Str}{e:End}
end
end Nt
namespace L2
open PySem PySem.Spec PyProof.Rows
theorem k4n{X:Cx}:dE X (.builtin "len") (λxs H Q=>∃ a zs,xs=[V.ref a]/\H a=some (cP X.prog X.w a zs)/\Q (.int zs.length) H):=by
 intro pins s σ H xs us Q I r h;obtain⟨a,zs,rfl,ha,q⟩:=h;obtain⟨u,rfl,ru⟩:=vals1 r;cases ru;obtain⟨o,es,ep,t,ho,hx,hd,T⟩:=(I.aD a _ ha).1;have hl:es.size=zs.length:=by have:=T.keys.length_eq;simpa using this
 refine call_len_set ho hx hd T.fits (by have:=T.few;omega) ?_;rw [hl];exact⟨.int zs.length,H,I.tok _,⟨_,rfl⟩,q⟩
end L2
namespace F3
open PySem L2 Nt bM bD
open PyProof.Rows (sortedS)
open Classical
def mU(c:Nat):Bool:=decide (c∈lets.cps.toList)
def cR(z:Str):Bool:=decide (1<=z.length/\z.length<=8) && z.cps.toList.all mU
def lu(K:PySem.W.Frag):Sp:=λvs H Q _=>∃ v,vs=[v] /\
 ((∃ z,v = .str z/\z.length<=100000/\∀ H',aj H H'->Q (.bl<|cR z) H')\/∃ t,cB K H v t/\PySem.W.kitOne K t (.type "str")=some false/\Q (.bl false) H)
theorem q3v(K:PySem.W.Frag):PySem.W.kitOne K (.type "str") (.type "str")=some true:=by rfl
def lz:Sp:=λvs H Q _=>∃(R:Addr) (as:List<|Addr×Addr) (n:Net),vs=[.ref R]/\ah H R as n/\n.length<=1000/\(ag n).length<=900/\(∀ zs:List Str,zs.Nodup->(∀ z∈zs,z∈ag n)->zs.length < 64) /\
 ∀(L:Addr) (ss:List Str) (H':Hp),aj H H'->H L=none->H' L=some (Ls ss)->ss.Nodup->sortedS ss=true->(∀ z,z∈ss↔z∈ag n)->Q (.ref L) H'
theorem k1d{zs:List Str}{z:Str}(h:zs.Nodup):(added zs z).Nodup:=by
 unfold added
 split
 ·exact h
 ·rename_i hz;exact ni h hz
theorem k8a{zs:List Str}{z y:Str}:y∈added zs z↔y∈zs\/y=z:=by
 unfold added
 split
 ·rename_i hz;refine⟨.inl,λh=>h.elim id λe=>?_⟩;rw [e];exact hz
 ·rw [Aq,Ai]
theorem Qm{n:Net}{r:Nat}(h:r < n.length):ag (n.take<|r+1)=ag (n.take r)++row n r:=by
 rw [kF h];unfold ag;rw [Cj,Ab h,Dg];simp
def GA:Sp:=λvs H Q _=>∃(R:Addr) (as:List<|Addr×Addr) (n:Net),vs=[.ref R]/\ah H R as n/\n.length<=1000/\∀(L:Addr) (H':Hp),aj H H'->H L=none->H' L=some (Ls (n.map (·.1)))->Q (.ref L) H'
theorem lh.snoc{H:Hp}{us:List Addr}{ls:List Bl}{u:Addr}{x:Bl}(h:lh H us ls)(hu:H u=some (P7 x)):lh H (us++[u]) (ls++[x]):=by
 refine⟨by rw [Ag,Ag,h.1];rfl,λj v y h1 h2=>?_⟩;have hl:=h.1
 by_cases hj:j < us.length
 ·rw [Aw hj] at h1;rw [Aw<|by omega] at h2;exact h.2 j v y h1 h2
 ·rw [Ba<|by omega] at h1 h2;have dU:j - us.length=0:=by
   have:=(Ac.mp h1).1;simp at this;omega
  rw [dU] at h1;rw [<- hl,dU] at h2;cases h1;cases h2;exact hu
noncomputable def pA:Sp:=λvs H Q _=>∃(R:Addr) (as:List<|Addr×Addr) (n:Net),vs=[.ref R]/\ah H R as n/\ay n/\(n.map (·.1)).Nodup/\0 < n.length/\n.length<=60/\(ag n).length<=60/\∀ H',aj H H'->Q (.bl<|decide (mS n)) H'
theorem k8b{ls:List Lk}{i:Nat}(h:i < ls.length):dv (ls.take<|i+1)=dv (ls.take i)++[((ls[i]).2.1,(ls[i]).2.2,false)]:=by
 unfold dv;rw [Cj,Ab h,Ak];rfl
def cv:List Str:=["NoNet","Broken","NoPlane"]
structure Cl(K:PySem.W.Frag)(mg:Str->Option Value)(c:Str->Addr):Prop where
 net:mg "NetError" = some (.ref<|c "NetError")
 x0a:XC K<|c "NetError"
 at':∀ x∈cv,mg x=some (.ref<|c x)/\XC K (c x)/\Qi K (c x) (c "NetError")=true/\Qj K (c x)=true/\PySem.W.kitOne K (.ref<|c x) (.type "ValueError")=some true
 kit:∀ x∈cv,∀ y∈cv,PySem.W.kitOne K (.ref<|c x) (.ref<|c y)=some (decide (x=y))
def iX(K:PySem.W.Frag)(x:Str):Addr:=match PySem.W.nsIn K mainGlobals x with
 | some (some<|.ref a)=>a
 | _=>0
def GU(K:PySem.W.Frag):Bool:=(PySem.W.nsIn K mainGlobals "NetError" == some (some<|.ref<|iX K "NetError")) && PySem.W.excIn K (iX K "NetError") lq "ValueError.__new__" &&
 cv.all λx=>(PySem.W.nsIn K mainGlobals x == some (some<|.ref<|iX K x)) && PySem.W.excIn K (iX K x) lq "ValueError.__new__" && Qi K (iX K x) (iX K "NetError") && Qj K (iX K x) && (PySem.W.kitOne K (.ref<|iX K x) (.type "ValueError") == some true) &&
  cv.all λy=>PySem.W.kitOne K (.ref<|iX K x) (.ref<|iX K y) == some (decide (x=y))
theorem q9l{K:PySem.W.Frag}{h:Heap}{mg:Str->Option Value}(X:K.In h)(G:h.Ns mainGlobals mg)(q:GU K=true):Cl K mg (iX K):=by
 unfold GU at q;simp only [Cf,De,QL] at q;obtain⟨⟨q1,q2⟩,q3⟩:=q;exact⟨HY X G q1,q2,λx hx=>by obtain⟨⟨⟨⟨⟨a1,a2⟩,a3⟩,a4⟩,a5⟩,_⟩:=q3 x hx;exact⟨HY X G a1,a2,a3,a4,a5⟩,λx hx y hy=>(q3 x hx).2 y hy⟩
structure Good(n:Net):Prop where
 twice:ay n
 names:(n.map (·.1)).Nodup
 pos:0 < n.length
 few:n.length<=60
 less:(ag n).length<=60
 pnm:∀ x∈n.map (·.1),cR x=true/\x.length<=8
 cM:∀ z∈ag n,cR z=true/\z.length<=8
noncomputable def Flt(n:Net)(ss:List Str):Prop:=(n.length:Int) - (ss.length:Int)+((aU n).length:Int)=2
def qP:Sp:=λvs H Q _=>∃(R:Addr) (as:List<|Addr×Addr) (n:Net),vs=[.ref R]/\ah H R as n/\Good n/\∀ H',aj H H'->Q (.bl true) H'
noncomputable def GW:Sp:=λvs H Q _=>∃(R:Addr) (as:List<|Addr×Addr) (n:Net),vs=[.ref R]/\ah H R as n/\Good n/\∀ ss H',aj H H'->ss.Nodup->(∀ z,z∈ss↔z∈ag n)->Q (.bl<|decide (Flt n ss)) H'
def G0(c:Str->Addr):Sp:=λvs H Q E=>∃(R:Addr) (as:List<|Addr×Addr) (n:Net),vs=[.ref R]/\ah H R as n/\Good n/\(¬ mS n->∀ H',aj H H'->E (.ref<|c "Broken") none H') /\
 ∀ ss:List Str,ss.Nodup->(∀ z,z∈ss↔z∈ag n)->(mS n->¬ Flt n ss->∀ H',aj H H'->E (.ref<|c "NoPlane") none H')/\(mS n->Flt n ss->∀ H',aj H H'->Q (.bl true) H')
theorem q4e{zs:List Str}(h:zs.Nodup):(made zs).length=zs.length:=by
 have h2:=K7 zs;have h3:=aK h λz hz=>(VL zs z).mpr hz;omega
section
variable{P:Program}{w:World}{K:PySem.W.Frag}{mg:Str->Option Value}{base:Heap}
theorem G':al ["thing"] ["thing"] (aQ wC):=⟨rfl,rfl,rfl,by decide +kernel,rfl,by decide +kernel,by decide +kernel⟩
theorem q8m{f:Addr}{fd:FuncData}(F:bH K "is_name" "is_name" wC f fd)(T:Txt mg):aE P w K mg base bJ 1 f fd ["thing"] (lu K):=by
 refine F.gb G' (λvs H Q E h=>?_) λb0 H vs Q E hr h=>?_
 ·obtain⟨v,rfl,_⟩:=h;rfl
 obtain⟨us,hs,rs⟩:=T.signs;obtain⟨um,hm,rm⟩:=T.most;obtain⟨v,rfl,h⟩:=h;show Run _ _ _ [some v] H;refine cY<|kh<|nr<|bL UY T.WV PyProof.Rows.boot_isinstance<|ak<|ae 0<|ak<|U7 (.ty "str") T.sM TV rfl (aq ?_)
 rcases h with ⟨z,rfl,hz,q⟩ | ⟨t,ty,e,q⟩
 ·refine⟨_,_,_,true,rfl,.str z,q3v K,true,rfl,bp<|a8 ?_⟩;refine cY<|lX<|lY<|cD yJ<|bL JI T.len CP<|ak<|ae 0<|aq ⟨z,rfl,small hz,aB ⟨_,_,rfl,rfl,_,rfl,?_⟩⟩;refine ie (λc=>?_) λc=>?_
  ·have c':=BZ c;have e:cR z=false:=by
    unfold cR;rw [BR<|by omega];rfl
   refine bI<|bT<|kg ?_;have:=q H<|aj.refl H;rw [e] at this;exact this
  ·have c':¬((z.length:Int) < 1):=λh=>c<|BW h;refine qb<|cD Jk<|bL JI T.len CP<|ak<|ae 0<|aq ⟨z,rfl,small hz,Kj hm rm ⟨_,_,rfl,rfl,_,rfl,?_⟩⟩;refine ie (λd=>?_) λd=>?_
   ·have d':=BZ d;have e:cR z=false:=by
     unfold cR;rw [BR<|by omega];rfl
    refine bT<|kg ?_;have:=q H<|aj.refl H;rw [e] at this;exact this
   ·have d':¬((8:Int) < (z.length:Int)):=λh=>d<|BW h;refine a8<|bT<|bL (zB rfl) T.all LK<|ak<|iL (aQ wC) ["thing"] ["thing","sign"] 1 (UR bn) ?_;refine ae 0 ⟨z,rfl,λD hD=>?_⟩;refine Vx (x:= "sign") (σ:=[some<|.str z]) (λc=> .bl<|mU c) (bU (n:=z.cps.size)<|by have:z.cps.size=z.length:=rfl;omega) (λ_ _ _ _ _ v v0 H' R hR=>bb 1 (show(["thing","sign"]:List Str).Nodup by decide +kernel) hR) (λ_ _ _ _ _ c H' R _ hR=>?_) ?_
    ·refine ja S8<|ae 1<|Kj hs rs ⟨_,_,rfl,rfl,?_⟩;rw [StrLaws.found_one];exact hR
    ·refine aq ⟨D,z.cps.toList.map mU,rfl,ai.of (by rw [aw,Ch];rfl),?_⟩;have e:cR z=(z.cps.toList.map mU).all id:=by
      unfold cR;rw [BW (by omega),Gv,List.all_map];rfl
     have:=q _<|aP hD<|.lst<|z.cps.toList.map λc=>V.bl<|mU c;rw [e] at this;exact this
 ·exact⟨_,t,_,false,rfl,ty,e,false,rfl,bI<|bT<|kg q⟩
abbrev uS:List Str:=["rows"]
abbrev uT:List Str:=["rows","point","ties","tie"]
theorem jI:al uS ["rows"] (aQ wG):=⟨rfl,rfl,rfl,by decide +kernel,rfl,by decide +kernel,by decide +kernel⟩
theorem Hc:uT.Nodup:=by decide +kernel
theorem q4m{f:Addr}{fd:FuncData}(F:bH K "ties_of" "ties_of" wG f fd)(T:Txt mg):aE P w K mg base bJ 1 f fd ["rows"] lz:=by
 refine F.gb jI (λvs H Q E h=>?_) λb0 H vs Q E hr h=>?_
 ·obtain⟨R,as,n,rfl,_⟩:=h;rfl
 obtain⟨R,as,n,rfl,hR,hn,ht,cO,q⟩:=h;have nd:=jI.nd;have bQ:=hR.len;have sub:∀(zs:List Str) (r:Nat) (ys:List Str),zs.Nodup->(∀ z,z∈zs->z∈ag n)->zs.length < 64:=λzs r ys h1 h2=>cO zs h1 h2;have He:∀ r,r < n.length->∀ z,z∈ag (n.take r)\/z∈row n r->z∈ag n:=λr iy z hz=>by
  have e:ag n=ag (n.take<|r+1)++ag (n.drop<|r+1):=by
   unfold ag;rw [<- Dg,Cq]
  rw [e,Qm iy]
  rcases hz with h | h <;> simp [h]
 show Run _ _ _ [some<|.ref R] H;refine bT<|bL (Wa rfl) T.sorted JV<|ak<|XJ (aQ wG) uS uT 3 (dR bn)<|ae 0 ⟨R,rfl,⟨_,ai.of hR.lst⟩,λD hD cl C s₀ H₀ ex=>?_⟩;refine oU (xs:=as.map λa=>V.ref a.1) (λr σ' H'=>(∃ v1 v2 v3,σ'=[some<|.ref R]++[v1,v2,v3])/\∃ zs:List Str,aj H H'/\H' D=some (cP P w D zs)/\zs.Nodup/\∀ z,z∈zs↔z∈ag (n.take r)) ⟨⟨none,none,none,rfl⟩,[],aP hD _,aw,Cp,λz=>TY⟩ ?_ ?_ ?_
 ·rintro r σ' H' _ ⟨_,zs,sm,_⟩;exact ai.of<|sm _ _ hR.lst
 ·rintro r x σ' H' hx ⟨⟨v1,v2,v3,rfl⟩,zs,sm,eD,zn,zm⟩;have hi:r < n.length:=by
   have:=(Ac.mp hx).1;rw [Aa] at this;omega
  obtain⟨a,ea,dN,et,el,er⟩:=(hR.same sm).at hi;rw [Ad,ea] at hx;cases hx;refine jm rfl (aJ.of et) (bb 1 Hc<|bb 2 Hc ?_);refine dh ?_;rw [BP rfl];refine XI rfl rfl (dR bn) (ae 2 ⟨a.2,rfl,⟨_,ai.of el⟩,?_⟩);have Hf:a.2≠D:=b7 el eD λz=>nomatch z;refine oU (xs:=(row n r).map V.str) (λp σ' bB=>(∃ v3,σ'=[some<|.ref R]++[some<|.str n[r].1,some<|.ref a.2,v3])/\∃ zs:List Str,(∀ b o,b≠D->H' b=some o->bB b=some o)/\bB D=some (cP P w D zs)/\zs.Nodup/\∀ z,z∈zs↔z∈ag (n.take r)\/z∈(row n r).take p)
   ⟨⟨_,rfl⟩,zs,λb o _ h=>h,eD,zn,λz=>by rw [zm z];simp⟩ ?_ ?_ ?_
  ·rintro p σ' bB _ ⟨_,zs,kb,_⟩;exact ai.of<|kb _ _ Hf el
  ·rintro p x σ' bB hx ⟨⟨v3,rfl⟩,zs,kb,fQ,xV,xW⟩;rw [Ad,Ao] at hx;obtain⟨z,hz,rfl⟩:=hx;refine bb 3 Hc ?_;refine dh ?_;rw [BP rfl];have hl:zs.length < 64:=cO zs xV λy hy=>He r hi y<|((xW y).mp hy).imp id λh=>List.mem_of_mem_take h;refine XH (ae 3 ⟨z,zs,rfl,fQ,by omega,⟨_,rfl⟩,added zs z,λb o hb h=>by rw [av hb];exact kb b o hb h,aw,k1d xV,λy=>?_⟩);rw [k8a,xW y,Cj,hz,or_assoc];simp
  ·rintro σ' bB ⟨⟨v3,rfl⟩,zs,kb,fQ,xV,xW⟩;refine⟨⟨_,_,_,rfl⟩,zs,λb o h=>kb b o (bF h hD)<|sm _ _ h,fQ,xV,λz=>?_⟩;rw [xW z,Aa,Ca,Qm hi,Aq]
 ·rintro σ' H' ⟨_,zs,sm,eD,zn,zm⟩;rw [Aa,bQ,Ca] at zm;refine aq ⟨D,zs,rfl,eD,cO zs zn λy hy=>(zm y).mp hy,λl ss hl hp hs=>?_⟩;exact q l ss _ (sm.trans<|aP hl _) (kR sm hl) aw (hp.nodup_iff.mpr zn) hs λz=>by rw [hp.mem_iff,zm z]
abbrev uU:List Str:=["rows"]
abbrev uV:List Str:=["rows","point","ties"]
theorem q8j:al uU ["rows"] (aQ wF):=⟨rfl,rfl,rfl,by decide +kernel,rfl,by decide +kernel,by decide +kernel⟩
theorem Qn:uV.Nodup:=by decide +kernel
theorem k76{f:Addr}{fd:FuncData}(F:bH K "points_of" "points_of" wF f fd)(T:Txt mg):aE P w K mg base bJ 1 f fd ["rows"] GA:=by
 refine F.gb q8j (λvs H Q E h=>?_) λb0 H vs Q E hr h=>?_
 ·obtain⟨R,as,n,rfl,_⟩:=h;rfl
 obtain⟨R,as,n,rfl,hR,hn,q⟩:=h;have bQ:=hR.len;show Run _ _ _ [some<|.ref R] H;refine bT<|iL (aQ wF) uU uV 2 (dR bn)<|ae 0 ⟨R,rfl,⟨_,ai.of hR.lst⟩,λD hD=>?_⟩;refine iQ (xs:=as.map λa=>V.ref a.1) (λi σ' H'=>(∃ v1 v2,σ'=[some<|.ref R]++[v1,v2])/\H'=upd H D (Ls ((n.take i).map (·.1)))) ⟨⟨none,none,rfl⟩,rfl⟩ ?_ ?_ ?_
 ·rintro i σ' H' _ ⟨_,rfl⟩;exact ai.of<|aP hD _ _ _ hR.lst
 ·rintro i x σ' H' hx ⟨⟨v1,v2,rfl⟩,rfl⟩;have hi:i < n.length:=by
   have:=(Ac.mp hx).1;rw [Aa] at this;omega
  obtain⟨a,ea,dN,et,el,er⟩:=(hR.same (aP hD (Ls ((n.take i).map (·.1))))).at hi;rw [Ad,ea] at hx;cases hx;intro cl C' s₀ H₀ ex;refine jm rfl (aJ.of et) (bb 1 Qn<|bb 2 Qn ?_);intro cl C' s₀ H₀ ex;refine dh ?_;rw [BP rfl];intro cl C' s₀ H₀ ex;refine ae 1 ⟨_,aw,?_,⟨_,_,rfl⟩,?_⟩
  ·rw [Aa,Aa,Bo];exact bU<|by omega
  ·rw [vz,Cj,Ab hi,Ak];exact Md
 ·rintro σ' H' ⟨_,rfl⟩;rw [Aa,bQ,Ca];exact q D _ (aP hD _) hD aw
abbrev Qo:List Str:=["rows","links"]
abbrev uW:List Str:=["rows","links","tie","one","other"]
theorem uX:al Qo ["rows"] (aQ wD):=⟨rfl,rfl,rfl,by decide +kernel,rfl,by decide +kernel,by decide +kernel⟩
theorem Hg:uW.Nodup:=by decide +kernel
theorem q8w{f:Addr}{fd:FuncData}(F:bH K "hangs_together" "hangs_together" wD f fd)(T:Txt mg)(GL:aV P w K mg base 1 "links_of" ["rows"] F1)(GS:aV P w K mg base 1 "spread" ["first","links"] F6) :
  aE P w K mg base bJ 2 f fd ["rows"] pA:=by
 refine F.gb uX (λvs H Q E h=>?_) λb0 H vs Q E hr h=>?_
 ·obtain⟨R,as,n,rfl,_⟩:=h;rfl
 obtain⟨R,as,n,rfl,hR,hT,hN,h0,hn,iE,q⟩:=h;have nd:=uX.nd;have bQ:=hR.len;show Run _ _ _ [some<|.ref R,none] H;refine zV 1 (aQ wD) Qo uW 3 nd (dR bn) (bK GL hr<|ak<|ae 0<|aq ⟨R,as,n,rfl,hR,hT,by omega,iE,λL us ls H1 s1 n1 eL c7 LD gG hlen=>?_⟩);refine⟨L,rfl,⟨_,ai.of eL⟩,λD hD=>?_⟩;have ph:=c7.1;refine iQ (xs:=us.map V.ref) (λi σ' H'=>(∃ v1 v2 v3,σ'=[some<|.ref R,none]++[v1,v2,v3])/\∃ ws:List Addr,aj H1 H'/\H' D=some (.lst<|ws.map V.ref)/\lh H' ws (dv<|ls.take i)) ⟨⟨_,_,_,rfl⟩,[],aP hD _,aw,rfl,λj u x h=>by simp at h⟩ ?_ ?_ ?_
 ·rintro i σ' H' _ ⟨_,ws,sm,_⟩;exact ai.of<|sm _ _ eL
 ·rintro i x σ' H' hx ⟨⟨v1,v2,v3,rfl⟩,ws,sm,eD,iG⟩;rw [Ad,Ao] at hx;obtain⟨u,ji,rfl⟩:=hx;have hi:i < ls.length:=by
   have:=(Ac.mp ji).1;omega
  have oZ:=sm _ _<|c7.2 i u _ ji<|Ab hi;rw [k8b hi];have lw:ws.length<=i:=by
   have:=iG.1;unfold dv at this;rw [Aa,Bo] at this;omega
  generalize ls[i]=lx at oZ;obtain⟨ti,on,ot⟩:=lx;intro cl C' s₀ H₀ ex;refine OQ rfl (aJ.of oZ) (bb 2 Hg<|bb 3 Hg<|bb 4 Hg ?_);intro cl C' s₀ H₀ ex;refine dh<|bI ?_;intro cl C' s₀ H₀ ex;refine dH (ak<|ae 3<|ak<|ae 4<|ak<|kg<|aq ⟨(by show 3<=sizeLine;decide),λt dW=>?_⟩);have xu:t≠D:=λe=>by rw [e,eD] at dW;cases dW
  have sT:=aP dW<|.tup [.str on,.str ot,.bl false];refine⟨_,sT _ _ eD,by rw [Aa];exact bU (by omega),⟨_,_,_,rfl⟩,ws++[t],c8 (sm.trans sT) hD,?_,?_⟩
  ·rw [aw,Ak];rfl
  ·refine lh.snoc ⟨iG.1,λj v y h1 h2=>?_⟩ ?_
   ·have e:=sT _ _<|iG.2 j v y h1 h2;rw [av<|b7 e (sT _ _ eD) λz=>nomatch z];exact e
   ·rw [av xu];exact aw
 ·rintro σ' H2 ⟨_,ws,s2,eD,iG⟩;rw [Aa,ph,Ca] at iG;have qG:aj H H2:=s1.trans s2;have Hh:=hR.same qG;obtain⟨a0,ZH,jz,qF,tK,Nr⟩:=Hh.at h0;rw [<- eS h0] at qF;show Run _ _ _ [some<|.ref R,some<|.ref D] H2;refine bT<|ja i0<|bL UO T.len CP<|ak<|bK GS hr<|ak<|aS bW<|aS cf<|ae 0<|aB ⟨R,_,_,.ref a0.1,rfl,rfl,ai.of Hh.lst,jz,aB ⟨a0.1,_,_,.str<|aF n 0,rfl,rfl,aJ.of qF,rfl,?_⟩⟩;refine ak (ae 1<|aq ⟨bA n,D,ws,dv ls,rfl,eD,iG,by unfold dv;rw [Aa];omega,λd kvs H3 s3 nd3 ed3 I=>aq ⟨d,kvs,rfl,ed3,?_⟩⟩);refine bL cm T.len CP<|ak<|ae 0<|aq ⟨R,_,rfl,.inl<|ai.of<|s3 _ _ Hh.lst,rfl,?_⟩;rw [Aa,bQ];have k:=k3j hT hN h0 gG I;have e:decide (V.int (kvs.length:Int)=V.int (n.length:Int))=decide (mS n):=by
   rw [decide_eq_decide,<- k]
   constructor
   ·intro h;have:=V.int.inj h;omega
   ·intro h;rw [h]
  rw [e];exact q H3<|qG.trans s3
abbrev qR:List Str:=["rows","points"]
abbrev Qp:List Str:=["rows","points","point"]
theorem uY:al qR ["rows"] (aQ mj):=⟨rfl,rfl,rfl,by decide +kernel,rfl,by decide +kernel,by decide +kernel⟩
theorem q85:Qp.Nodup:=by decide +kernel
theorem q8z{f:Addr}{fd:FuncData}(F:bH K "has_good_points" "has_good_points" mj f fd)(T:Txt mg)(GP:aV P w K mg base 1 "points_of" ["rows"] GA)(GI:aV P w K mg base 1 "is_name" ["thing"]<|lu K) :
  aE P w K mg base bJ 2 f fd ["rows"] qP:=by
 refine F.gb uY (λvs H Q E h=>?_) λb0 H vs Q E hr h=>?_
 ·obtain⟨R,as,n,rfl,_⟩:=h;rfl
 obtain⟨R,as,n,rfl,hR,g,q⟩:=h;have nd:=uY.nd;have hn:=g.few;have h0:=g.pos;show Run _ _ _ [some<|.ref R,none] H;refine aX 1 nd (bK GP hr<|ak<|ae 0<|aq ⟨R,as,n,rfl,hR,by omega,λL H1 s1 n1 e1=>?_⟩);show Run _ _ _ [some<|.ref R,some<|.ref L] H1;have bj:((n.map (·.1)).map V.str).isEmpty=false:=by
  cases n with
  | nil=>exact absurd h0<|Cs _
  | cons a r=>rfl
 refine cY (lX (lY (kh (zI (ae 1 (v:= .ref L) ⟨!((n.map (·.1)).map V.str).isEmpty,Or.inl ⟨_,ai.of e1,rfl⟩,?_⟩)))));rw [bj];refine bp (qb<|cD yJ<|bL k4n T.len CP<|ak<|lW (V' rfl) T.sQ TJ<|ak<|ae 1<|aq ⟨L,_,rfl,ai.of e1,by rw [Aa];omega,λa ha=>aq ⟨a,_,rfl,aw,?_⟩⟩);have s2:=aP ha (cP (nF qR "has_good_points" (aQ mj) P w K mg base b0).prog (nF qR "has_good_points" (aQ mj) P w K mg base b0).w a (made (n.map (·.1))));have e2:=s2 _ _ e1;generalize upd H1 a (cP (nF qR "has_good_points" (aQ mj) P w K mg base b0).prog (nF qR "has_good_points" (aQ mj) P w K mg base b0).w a (made (n.map (·.1))))=H2 at s2 e2 ⊢;refine bL cm T.len CP<|ak<|ae 1<|aq ⟨L,_,rfl,.inl<|ai.of e2,_,_,rfl,rfl,_,rfl,?_⟩;rw [q4e g.names,Aa,Aa,Aa,BR<|Int.lt_irrefl _];refine bp<|a8<|bT<|bL (zB rfl) T.all LK<|ak<|iL (aQ mj) qR Qp 1 (dR bn)<|ae 1 ⟨L,rfl,⟨_,ai.of e2⟩,λD hD=>?_⟩;refine iQ (xs:=(n.map (·.1)).map V.str) (λi σ' H'=>(∃ v,σ'=[some<|.ref R,some<|.ref L]++[v])/\aj H2 H'/\H' D=some (.lst<|(List.replicate i true).map V.bl)) ⟨⟨none,rfl⟩,aP hD _,aw⟩ ?_ ?_ ?_
 ·rintro i σ' H' _ ⟨_,sm,_⟩;exact ai.of<|sm _ _ e2
 ·rintro i x σ' H' hx ⟨⟨v,rfl⟩,sm,eD⟩;have hi:=(Ac.mp hx).1;rw [Aa,Aa] at hi;rw [Ad,Ao] at hx;obtain⟨z,hz,rfl⟩:=hx;have gz:=g.pnm z<|An hz;intro uZ C' s₀ H₀ ex;refine bb 2 q85 ?_;intro uZ C' s₀ H₀ ex;refine dh<|bI ?_;intro uZ C' s₀ H₀ ex;refine bK GI hr<|ak<|ae 2<|aq ⟨_,rfl,.inl ⟨z,rfl,by omega,λH3 s3=>⟨_,s3 _ _ eD,?_,⟨_,rfl⟩,c8 (sm.trans s3) hD,?_⟩⟩⟩
  ·rw [Aa,Ci];exact bU<|by omega
  ·rw [aw,gz.1,NZ,Ak];rfl
 rintro σ' H3 ⟨_,s3,eD⟩;refine aq ⟨D,_,rfl,ai.of eD,?_⟩;rw [show(List.replicate ((n.map (·.1)).map V.str).length true).all id=true by rw [De];intro b hb;rw [Ft hb];rfl];exact q H3<|s1.trans<|s2.trans s3
abbrev pB:List Str:=["rows","names"]
abbrev va:List Str:=["rows","names","point","ties","tie"]
abbrev vb:List Str:=["rows","names","tie"]
theorem vd:al pB ["rows"] (aQ sK):=⟨rfl,rfl,rfl,by decide +kernel,rfl,by decide +kernel,by decide +kernel⟩
theorem Hi:va.Nodup:=by decide +kernel
theorem q59:vb.Nodup:=by decide +kernel
theorem q9d{f:Addr}{fd:FuncData}(F:bH K "has_good_ties" "has_good_ties" sK f fd)(T:Txt mg)(GI:aV P w K mg base 1 "is_name" ["thing"]<|lu K) :
  aE P w K mg base bJ 2 f fd ["rows"] qP:=by
 refine F.gb vd (λvs H Q E h=>?_) λb0 H vs Q E hr h=>?_
 ·obtain⟨R,as,n,rfl,_⟩:=h;rfl
 obtain⟨R,as,n,rfl,hR,g,q⟩:=h;have nd:=vd.nd;have bQ:=hR.len;have hn:=g.few;have iE:=g.less;show Run _ _ _ [some<|.ref R,none] H;refine aX 1 nd<|Mv (aQ sK) pB va 3 (dR bn)<|ae 0 ⟨R,rfl,⟨_,ai.of hR.lst⟩,λD hD cl C s₀ H₀ ex=>?_⟩;refine oU (xs:=as.map λa=>V.ref a.1) (λr σ' H'=>(∃ v1 v2 v3,σ'=[some<|.ref R,none]++[v1,v2,v3])/\aj H H'/\H' D=some (Ls<|ag<|n.take r)) ⟨⟨none,none,none,rfl⟩,aP hD _,aw⟩ ?_ ?_ ?_
 ·rintro r σ' H' _ ⟨_,sm,_⟩;exact ai.of<|sm _ _ hR.lst
 ·rintro r x σ' H' hx ⟨⟨v1,v2,v3,rfl⟩,sm,eD⟩;have hi:r < n.length:=by
   have:=(Ac.mp hx).1;rw [Aa] at this;omega
  obtain⟨a,ea,dN,et,el,er⟩:=(hR.same sm).at hi;rw [Ad,ea] at hx;cases hx;have Hf:a.2≠D:=λe=>by
   have:=(hR.tup r a n[r] ea<|Ab hi).2;rw [e,hD] at this;cases this
  refine jm rfl (aJ.of et) (bb 2 Hi<|bb 3 Hi<|dh<|bI ?_);refine Mu rfl rfl (dR bn) (ae 3 ⟨a.2,rfl,⟨_,ai.of el⟩,?_⟩);refine oU (xs:=(row n r).map V.str) (λp σ' bB=>(∃ v3,σ'=[some<|.ref R,none]++[some<|.str n[r].1,some<|.ref a.2,v3])/\(∀ b o,b≠D->H' b=some o->bB b=some o)/\bB D=some (Ls<|ag (n.take r)++(row n r).take p)) ⟨⟨_,rfl⟩,λb o _ h=>h,by rw [eD];simp⟩ ?_ ?_ ?_
  ·rintro p σ' bB _ ⟨_,kb,_⟩;exact ai.of<|kb _ _ Hf el
  ·rintro p x σ' bB hx ⟨⟨v3,rfl⟩,kb,fQ⟩;rw [Ad,Ao] at hx;obtain⟨z,hz,rfl⟩:=hx;refine bb 4 Hi<|dh<|bI ?_;refine zU<|ae 4 ⟨_,fQ,?_,⟨_,rfl⟩,λb o hb h=>by rw [av hb];exact kb b o hb h,?_⟩
   ·have h1:=AV n r;have h2:=fY n r;rw [Aa,Ag,Bo];exact bU<|by omega
   ·rw [aw,Cj,hz];show _=some (HO.lst<|List.map V.str<|_++(_++[z]));rw [<- Ay,Ak (l₂:=[z])];rfl
  ·rintro σ' bB ⟨⟨v3,rfl⟩,kb,fQ⟩;refine⟨⟨_,_,_,rfl⟩,λb o h=>kb b o (bF h hD)<|sm _ _ h,?_⟩;rw [fQ,Aa,Ca,Qk hi]
 rintro σ' H2 ⟨_,s2,eD⟩;rw [Aa,bQ,Ca] at eD;show Run _ _ _ [some<|.ref R,some<|.ref D] H2;refine bT<|bL (zB rfl) T.all LK<|ak<|iL (aQ sK) pB vb 1 (dR bn)<|ae 1 ⟨D,rfl,⟨_,ai.of eD⟩,λD2 jE=>?_⟩;refine iQ (xs:=(ag n).map V.str) (λi σ' H'=>(∃ v,σ'=[some<|.ref R,some<|.ref D]++[v])/\aj H2 H'/\H' D2=some (.lst<|(List.replicate i true).map V.bl)) ⟨⟨none,rfl⟩,aP jE _,aw⟩ ?_ ?_ ?_
 ·rintro i σ' H' _ ⟨_,sm,_⟩;exact ai.of<|sm _ _ eD
 ·rintro i x σ' H' hx ⟨⟨v,rfl⟩,sm,Hj⟩;have hi:=(Ac.mp hx).1;rw [Aa] at hi;rw [Ad,Ao] at hx;obtain⟨z,hz,rfl⟩:=hx;have eW:=An hz;have gz:=g.cM z eW;intro uZ C' s₀ H₀ ex;refine bb 2 q59 ?_;intro uZ C' s₀ H₀ ex;refine dh<|bI ?_;intro uZ C' s₀ H₀ ex;refine zH (bK GI hr<|ak<|ae 2<|aq ⟨_,rfl,.inl ⟨z,rfl,by omega,λH3 s3=>⟨_,rfl,?_⟩⟩⟩);rw [gz.1];refine bI<|Kk<|ja i0<|LO FZ PySem.F.slot_list_count PySem.F.type_list_count q0p<|ae 1 (v:= .ref D) ⟨Or.inl ⟨rfl,_,ai.of<|s3 _ _<|sm _ _ eD⟩,ae 2 ⟨D,ag n,z,rfl,rfl,ai.of<|s3 _ _<|sm _ _ eD,aB ⟨rfl,?_⟩⟩⟩;rw [g.twice z eW];refine⟨_,s3 _ _ Hj,?_,⟨_,rfl⟩,c8 (sm.trans s3) jE,?_⟩
  ·rw [Aa,Ci];exact bU<|by omega
  ·rw [aw,NZ,Ak];rfl
 rintro σ' H3 ⟨_,s3,Hj⟩;refine aq ⟨D2,_,rfl,ai.of Hj,?_⟩;rw [show(List.replicate ((ag n).map V.str).length true).all id=true by rw [De];intro b hb;rw [Ft hb];rfl];exact q H3<|s2.trans s3
abbrev NPl:List Str:=["rows"]
theorem ve:al NPl ["rows"] (aQ A5):=⟨rfl,rfl,rfl,by decide +kernel,rfl,by decide +kernel,by decide +kernel⟩
theorem k9e{f:Addr}{fd:FuncData}(F:bH K "is_plane" "is_plane" A5 f fd)(T:Txt mg)(GT:aV P w K mg base 4 "ties_of" ["rows"] lz)(GF:aV P w K mg base 4 "faces_of" ["rows"] uD) :
  aE P w K mg base bJ 5 f fd ["rows"] GW:=by
 refine F.gb ve (λvs H Q E h=>?_) λb0 H vs Q E hr h=>?_
 ·obtain⟨R,as,n,rfl,_⟩:=h;rfl
 obtain⟨R,as,n,rfl,hR,g,q⟩:=h;have nd:=ve.nd;have bQ:=hR.len;have hn:=g.few;have iE:=g.less;show Run _ _ _ [some<|.ref R] H;refine bT<|ja i0<|aW d9<|aW S1<|bL cm T.len CP<|ak<|ae 0<|aq ⟨R,_,rfl,.inl<|ai.of hR.lst,?_⟩;refine bL cm T.len CP (ak<|bK GT hr<|ak<|ae 0<|aq ⟨R,as,n,rfl,hR,by omega,by omega,λzs h1 h2=>by have:=aK h1 h2;omega,λL ss H1 s1 n1 e1 snd so mem=>aq ⟨L,_,rfl,.inl<|ai.of e1,?_⟩⟩);refine⟨_,_,rfl,rfl,bL cm T.len CP<|ak<|bK GF hr<|ak<|ae 0<|aq ⟨R,as,n,rfl,hR.same s1,g.names,g.twice,by omega,by omega,λM ls H2 s2 n2 hW fW=>aq ⟨M,_,rfl,.inl<|ai.of hW.lst,?_⟩⟩⟩;refine⟨_,_,rfl,rfl,aB ⟨rfl,?_⟩⟩;rw [Aa,Aa,Aa,bQ,hW.len];have e:decide (V.int ((n.length:Int) - (ss.length:Int)+((aU n).length:Int))=V.int 2)=decide (Flt n ss):=decide_eq_decide.mpr ⟨λh=>V.int.inj h,λh=>BX V.int h⟩;rw [e];exact q ss H2 (s1.trans s2) snd mem
abbrev NVt:List Str:=["rows"]
theorem vf:al NVt ["rows"] (aQ A4):=⟨rfl,rfl,rfl,by decide +kernel,rfl,by decide +kernel,by decide +kernel⟩
theorem q5m{f:Addr}{fd:FuncData}{c:Str->Addr}(F:bH K "vet" "vet" A4 f fd)(T:Txt mg)(cl:Cl K mg c)(GP:aV P w K mg base 5 "has_good_points" ["rows"] qP)(GT:aV P w K mg base 5 "has_good_ties" ["rows"] qP)(GH:aV P w K mg base 5 "hangs_together" ["rows"] pA)(GF:aV P w K mg base 5 "is_plane" ["rows"] GW) :
  aE P w K mg base (XF P w) 6 f fd ["rows"] (G0 c):=by
 refine F.gx vf (λvs H Q E h=>?_) λb0 H vs Q hr h=>?_
 ·obtain⟨R,as,n,rfl,_⟩:=h;rfl
 obtain⟨R,as,n,rfl,hR,g,qB,qQ⟩:=h;have nd:=vf.nd;have mB:("Broken" : Str)∈cv:=by decide
 have mP:("NoPlane" : Str)∈cv:=by decide
 show Run _ _ _ [some<|.ref R] H;refine cY<|kh<|nr<|bK GP hr<|ak<|ae 0<|aq ⟨R,as,n,rfl,hR,g,λH1 s1=>⟨_,rfl,bp<|a8 ?_⟩⟩;refine cY<|kh<|nr<|bK GT hr<|ak<|ae 0<|aq ⟨R,as,n,rfl,hR.same s1,g,λH2 s2=>⟨_,rfl,bp<|a8 ?_⟩⟩;have jG:=s1.trans s2;refine cY<|kh<|nr<|bK GH hr<|ak<|ae 0<|aq ⟨R,as,n,rfl,hR.same jG,g.twice,g.names,g.pos,g.few,g.less,λH3 s3=>⟨_,rfl,?_⟩⟩;have vg:=jG.trans s3
 by_cases hw:mS n
 ·rw [BW hw];refine bp<|a8<|cY<|kh<|nr<|bK GF hr<|ak<|ae 0<|aq ⟨R,as,n,rfl,hR.same vg,g,λss H4 s4 snd mem=>⟨_,rfl,?_⟩⟩;have Qq:=vg.trans s4
  by_cases hf:Flt n ss
  ·rw [BW hf];exact bp<|a8<|bT<|kg<|(qQ ss snd mem).2 hw hf _ Qq
  ·rw [BR hf];exact bI<|Qf Qh (cl.at' _ mP).1 (cl.at' _ mP).2.1 rfl (ak<|lV<|aq ⟨Z1,(qQ ss snd mem).1 hw hf _ Qq⟩)
 ·rw [BR hw];exact bI<|Qf Qh (cl.at' _ mB).1 (cl.at' _ mB).2.1 rfl (ak<|lV<|aq ⟨Z1,qB hw _ vg⟩)
end
end F3
namespace Nt
open PySem L2
theorem Qr(x:Str):∀{sd:List Str},iS sd->∃ iz,iS iz/\∀ y,y∈iz↔y=x\/y∈sd
 | [],_=>⟨[x],RJ _ _,λy=>by simp⟩
 | a :: r,h=>by
  have h':=Cu.mp h
  by_cases q:x.cps.toList < a.cps.toList
  ·refine⟨x :: a :: r,Cu.mpr ⟨λy hy=>?_,h⟩,λy=>by simp⟩
   rcases Aj.mp hy with e | e
   ·rw [e];exact q
   ·exact Ge q<|h'.1 y e
  ·rcases Gh.mp (List.not_lt.mp q) with q2 | q2
   ·obtain⟨iz,s1,s2⟩:=Qr x h'.2;refine⟨a :: iz,Cu.mpr ⟨λy hy=>?_,s1⟩,λy=>?_⟩
    ·rcases (s2 y).mp hy with e | e
     ·rw [e];exact q2
     ·exact h'.1 y e
    ·rw [Aj,s2,Aj]
     constructor
     ·rintro (e | e | e)
      ·exact .inr<|.inl e
      ·exact .inl e
      ·exact .inr<|.inr e
     ·rintro (e | e | e)
      ·exact .inr<|.inl e
      ·exact .inl e
      ·exact .inr<|.inr e
   ·refine⟨a :: r,h,λy=>?_⟩;have:a=x:=bD.eJ q2;subst this;simp
theorem Qs:∀ L:List Str,∃ sd,iS sd/\∀ y,y∈sd↔y∈L
 | []=>⟨[],List.Pairwise.nil,λ_=>TY⟩
 | x :: L=>by
  obtain⟨sd,h1,h2⟩:=Qs L;obtain⟨iz,h3,h4⟩:=Qr x h1;exact⟨iz,h3,λy=>by rw [h4,h2,Aj]⟩
theorem Hk(z:Str):∀ L:List Str,decide (L.count z % 2=1)=az (L.map λy=>decide (z=y))
 | []=>rfl
 | y :: L=>by
  show _=(decide (z=y) ^^ az (L.map λy=>decide (z=y)));rw [<- Hk z L,Dq]
  by_cases h:z=y
  ·subst h;rw [BW rfl,HN,BP rfl,Bool.true_xor,<- decide_not];exact decide_eq_decide.mpr<|by omega
  ·rw [BR h,BL λq=>h (eq_of_beq q).symm,SM];rfl
theorem xX{α β:Type}(f:α->β->Bool)(M:List β):∀ L:List α,az (L.map λa=>az<|M.map λb=>f a b)=az (M.map λb=>az<|L.map λa=>f a b)
 | []=>(jx M).symm
 | a :: L=>by
  show(az (M.map λb=>f a b) ^^ az (L.map λa=>az<|M.map λb=>f a b))=az (M.map λb=>f a b ^^ az (L.map λa=>f a b));rw [xX f M L,iR (λb=>f a b) λb=>az<|L.map λa=>f a b]
theorem map_range{α β:Type}(l:List α)(f:α->β)(g:Nat->β)(h:∀ k x,l[k]?=some x->g k=f x):l.map f=(List.range l.length).map g:=by
 apply Ed;intro k;rw [Ad,Ad]
 by_cases hk:k < l.length
 ·rw [Ab hk,Dm hk];exact BX some (h k _<|Ab hk).symm
 ·rw [Bv (by omega),Bv<|by simp;omega];rfl
def bZ(zs:List Str)(t s:Str->Bool):Bool:=az<|zs.map λz=>t z && s z
theorem Qt(zs:List Str)(t u s:Str->Bool):bZ zs (λz=>t z ^^ u z) s=(bZ zs t s ^^ bZ zs u s):=by
 unfold bZ;rw [<- iR (λz=>t z && s z) λz=>u z && s z]
 congr 1
 refine Bp λz _=>?_;show((t z ^^ u z) && s z)=_;cases t z <;> cases u z <;> cases s z <;> rfl
theorem Hl{s:Str->Bool}{y:Str}:∀{zs:List Str},zs.Nodup->y∈zs->bZ zs (λz=>decide (z=y)) s=s y
 | z :: zs,hn,hy=>by
  have hn:=Bq.mp hn;show((decide (z=y) && s z) ^^ bZ zs (λz=>decide (z=y)) s)=s y
  by_cases h:z=y
  ·subst h;have:bZ zs (λx=>decide (x=z)) s=false:=by
    unfold bZ;have e:(zs.map λx=>decide (x=z) && s x)=zs.map λ_=>false:=Bp λx hx=>by
     have ne:¬ x=z:=λq=>hn.1<|q ▸ hx;rw [BR ne];rfl
    rw [e,jx]
   rw [this,BW rfl];cases s z <;> rfl
  ·rw [BR h,Hl hn.2<|(Aj.mp hy).resolve_left<|CG h];cases s y <;> rfl
theorem k6x{n:Net}{zs:List Str}(hz:zs.Nodup){t:Str->Bool}:∀{L:List Str},(∀ y∈L,y∈zs)->bZ zs t (λz=>decide (L.count z % 2=1))=az (L.map t)
 | L,hL=>by
  unfold bZ;have e:(zs.map λz=>t z && decide (L.count z % 2=1))=zs.map λz=>az (L.map λy=>t z && decide (z=y)):=Bp λz _=>by
   rw [Hk];cases t z
   ·show false=az (L.map λ_=>false);rw [jx]
   ·rfl
  rw [e,xX λz y=>t z && decide (z=y)]
  congr 1
  refine Bp λy hy=>?_;have:=Hl (s:=t) hz<|hL y hy;rw [<- this];unfold bZ
  congr 1
  refine Bp λz _=>?_;rw [Bool.and_comm]
theorem Qu{n:Net}(T:ay n)(hN:(n.map (·.1)).Nodup){ss zs:List Str}(hz:zs.Nodup)(hm:∀ z,z∈zs↔z∈ag n){x:Str}{b:Bool}(h:Way (dq n ss) (bA n) x b) :
  ∃ t:Str->Bool,(∀ r,r < n.length->az ((row n r).map t)=(decide (aF n r=bA n) ^^ decide (aF n r=x)))/\bZ zs t (λz=>decide (z∈ss))=b:=by
 have add:∀{x y:Str} {o b:Bool},(∃ e z,aG n e=some z/\((x=aF n e.1/\y=aF n (other n e).1)\/(y=aF n e.1/\x=aF n (other n e).1))/\o=decide (z∈ss))->(∃ t:Str->Bool,(∀ r,r < n.length->az ((row n r).map t)=(decide (aF n r=bA n) ^^ decide (aF n r=x)))/\bZ zs t (λz=>decide (z∈ss))=b) ->
   ∃ t:Str->Bool,(∀ r,r < n.length->az ((row n r).map t)=(decide (aF n r=bA n) ^^ decide (aF n r=y)))/\bZ zs t (λz=>decide (z∈ss))=(b != o):=by
  rintro x y o b ⟨e,z,eW,Mf,rfl⟩ ⟨t,h1,h2⟩;refine⟨λu=>t u ^^ decide (u=z),λr hr=>?_,?_⟩
  ·rw [iR t λu=>decide (u=z),h1 r hr,Nj T eW r];have e1:∀ i,i < n.length->decide (r=i)=decide (aF n r=aF n i):=λi hi=>decide_eq_decide.mpr ⟨λq=>by rw [q],λq=>xh hN hr hi q⟩;rw [e1 _<|cg eW,e1 _<|DA T eW]
   rcases Mf with ⟨a1,a2⟩ | ⟨a1,a2⟩
   ·rw [<- a1,<- a2];cases decide (aF n r=bA n) <;> cases decide (aF n r=x) <;> cases decide (aF n r=y) <;> rfl
   ·rw [<- a1,<- a2];cases decide (aF n r=bA n) <;> cases decide (aF n r=x) <;> cases decide (aF n r=y) <;> rfl
  ·rw [Qt,h2,Hl hz<|(hm z).mpr<|fj eW]
 have lk:∀{x y:Str} {o:Bool},(x,y,o)∈dq n ss->∃ e z,aG n e=some z/\((x=aF n e.1/\y=aF n (other n e).1))/\o=decide (z∈ss):=λ{x y o} hm=>by
  obtain⟨e,z,h1,h2⟩:=(Ng (n:=n) (ss:=ss)).Zj _ hm;exact⟨e,z,h1,⟨BX (·.1) h2,BX (·.2.1) h2⟩,BX (·.2.2) h2⟩
 induction h with
 | here=>exact⟨λ_=>false,λr _=>by rw [jx];cases decide (aF n r=bA n) <;> rfl,by unfold bZ;exact jx zs⟩
 | there _ ht ih=>
  obtain⟨e,z,h1,h2,h3⟩:=lk ht;exact add ⟨e,z,h1,.inl h2,h3⟩ ih
 | back _ ht ih=>
  obtain⟨e,z,h1,h2,h3⟩:=lk ht;exact add ⟨e,z,h1,.inr ⟨h2.1,h2.2⟩,h3⟩ ih
theorem k0l{n:Net}(T:ay n)(hg:cH n)(hN:(n.map (·.1)).Nodup)(h0:0 < n.length){ss zs:List Str}(hz:zs.Nodup)(hm:∀ z,z∈zs↔z∈ag n)(hs:∀ z∈ss,z∈ag n)(Hm:∀ t,cG n t->bZ zs t (λz=>decide (z∈ss))=false):∃ sd,jw n ss sd:=by
 classical
 have uniq:∀{x b c},Way (dq n ss) (bA n) x b->Way (dq n ss) (bA n) x c->b=c:=λ{x b c} h1 h2=>by
  obtain⟨t,t1,t2⟩:=Qu T hN hz hm h1;obtain⟨u,u1,u2⟩:=Qu T hN hz hm h2;have:=Hm (λz=>t z ^^ u z) λr=>by
   by_cases hr:r < n.length
   ·rw [iR t u,t1 r hr,u1 r hr];cases decide (aF n r=bA n) <;> cases decide (aF n r=x) <;> rfl
   ·have:row n r=[]:=by
     unfold row;rw [Bv<|by omega];rfl
    rw [this];rfl
  rw [Qt,t2,u2] at this;cases b <;> cases c <;> first | rfl | cases this
 have next:∀{e:End} {z:Str} {b:Bool},aG n e=some z->Way (dq n ss) (bA n) (aF n e.1) b->Way (dq n ss) (bA n) (aF n (other n e).1) (b != decide (z∈ss)):=λ{e z b} he h=>by
  rcases (Ng (n:=n) (ss:=ss)).to e z he with t | t
  ·exact .there h t
  ·exact .back h t
 have all:∀ r,r < n.length->∃ b,Way (dq n ss) (bA n) (aF n r) b:=λr hr=>by
  have:=hg (λx=>∃ b,Way (dq n ss) (bA n) x b) ⟨n[0],Bw h0,false,by rw [<- eS h0];exact .here⟩ (λr hr s eF t tr ts ⟨b,hb⟩=>?_) n[r]<|Bw hr
  ·rw [<- eS hr] at this;exact this
  ·obtain⟨i,hi,rfl⟩:=Bz.mp hr;obtain⟨j,hj,rfl⟩:=Bz.mp eF;obtain⟨p,hp⟩:=Bb tr;obtain⟨q,hq⟩:=Bb ts;have h1:aG n (i,p)=some t:=by show(row n i)[p]?=_;rw [kF hi];exact hp
   have h2:aG n (j,q)=some t:=by show(row n j)[q]?=_;rw [kF hj];exact hq
   rcases (ju T h1).mp h2 with e | e
   ·have:j=i:=BX (·.1) e;subst this;exact⟨b,hb⟩
   ·rw [<- eS hi] at hb;have:=next h1 hb;rw [<- e] at this;exact⟨_,by rw [<- eS hj];exact this⟩
 obtain⟨sd,h1,h2⟩:=Qs<|((List.range n.length).filter λ(r:Nat)=>decide (Way (dq n ss) (bA n) (aF n r) true)).map<|aF n;have mem:∀ r,r < n.length->∀ b,Way (dq n ss) (bA n) (aF n r) b->decide (aF n r∈sd)=b:=λr hr b hb=>by
  have:aF n r∈sd↔b=true:=by
   rw [h2,Am]
   constructor
   ·rintro ⟨i,hi,e⟩;rw [Da,Bg] at hi;have:=xh hN hi.1 hr e;subst this;exact uniq hb<|BZ hi.2
   ·intro e;subst e;exact⟨r,Da.mpr ⟨Bg.mpr hr,BW hb⟩,rfl⟩
  by_cases q:b=true
  ·rw [q];exact BW<|this.mpr q
  ·rw [Bool.not_eq_true] at q;rw [q];exact BR λk=>by rw [this.mp k] at q;cases q
 refine⟨sd,h1,λx hx=>?_,λhx=>?_,λz=>?_⟩
 ·obtain⟨i,hi,rfl⟩:=Am.mp<|(h2 x).mp hx;exact ou<|Bg.mp (Da.mp hi).1
 ·have:=mem 0 h0 false .here;exact absurd hx<|of_decide_eq_false this
 ·by_cases eW:z∈ag n
  ·obtain⟨p,hp⟩:∃ p,p∈pos n z:=by
    have:pos n z≠[]:=λq=>by have:=qj n z;rw [q,T z eW] at this;cases this
    exact Fn _ this
   have he:=aN.mp hp;obtain⟨b,hb⟩:=all p.1<|cg he;have hc:=next he hb;rw [Nf T he,mem _ (cg he) b hb,mem _ (DA T he) _ hc]
   constructor
   ·intro h;rw [BW h];cases b <;> rfl
   ·intro h;refine CK λk=>?_;rw [BR k] at h;cases b <;> cases h
  ·exact⟨λh=>absurd (hs z h) eW,λh=>absurd (Zg h) eW⟩
theorem k1b{n:Net}(T:ay n){e:End}(h:e∈ends n):other n (other n e)=e:=by
 obtain⟨z,hz⟩:=af.mp h;exact(fk T hz).2.1
theorem Qv{α β:Type}{f:α->β}:∀{l:List α},l.Nodup->(∀ a∈l,∀ b∈l,f a=f b->a=b)->(l.map f).Nodup
 | [],_,_=>Cp
 | a :: l,h,inj=>by
  have h:=Bq.mp h;refine Bq.mpr ⟨λhm=>?_,Qv h.2 λx hx y hy=>inj x (Ah _ hx) y<|Ah _ hy⟩;obtain⟨b,hb,q⟩:=Am.mp hm;have:=inj a (Ae ..) b (Ah _ hb) q.symm;exact h.1<|this ▸ hb
end Nt
namespace L2
open PySem PySem.Spec PyProof.Rows bM
section
variable{X:Cx}{a b e:Expr}{es:List Expr}{σ:St}{H:Hp}{Q:VK}{pos p kp cp:Pos}{j:Nat}
end
end L2
namespace L2
open PySem PySem.Spec PyProof.Rows bD
section
variable{X:Cx}{elt t1 i1 t2 i2 t3 i3:Expr}{f1 f2 f3:List Expr}{scope:Scope}{pos:Pos}{σ:St}{H:Hp}{acc:Value}{env:Env}
end
section
variable{X:Cx}{tg:Expr}{ifs:List Expr}{inner:Sem Unit}{σ:St}{H:Hp}{a:Addr}{xs:List V}{after:St->Hp->Prop}
end
section
variable{X:Cx}{σ:St}{H:Hp}{Q:VK}
end
end L2
namespace Nt
open PySem L2 Classical
section
variable{n:Net}{s:Str->Bool}{c:Nat->Bool}{χ:End->Bool}
end
theorem Qw{m a:Nat}(h:a < m)(f:Nat->Bool):az ((List.range m).map λi=>f i && decide (a=i))=f a:=by
 induction m with
 | zero=>omega
 | succ m ih=>
  rw [Dx,Ak,qD];show(_ ^^ ((f m && decide (a=m)) ^^ false))=_;rw [Go]
  by_cases c:a=m
  ·subst c;have:az ((List.range a).map λi=>f i && decide (a=i))=false:=by
    have e:((List.range a).map λi=>f i && decide (a=i))=(List.range a).map λ_=>false:=Bp λi hi=>by
     rw [BR (λq=>by have:=Bg.mp hi;omega),Es]
    rw [e,jx]
   rw [this,BW rfl,Bool.and_true,SM]
  ·rw [ih (by omega),BR c,Es,Go]
section
variable{n:Net}{cs:List (List Str)}{ss zs:List Str}{c:Nat->Bool}{χ:End->Bool}
end
section
variable{n:Net}
end
abbrev xY(n:Net):List Str:=n.map (·.1)
theorem k3q{Z:List Str}{s s' t t':Str->Bool}(h:∀ z∈Z,s z=s' z)(k:∀ z∈Z,t z=t' z):bZ Z s t=bZ Z s' t':=by
 unfold bZ
 congr 1
 exact Bp λz hz=>by rw [h z hz,k z hz]
end Nt
namespace Dt
variable{κ:Type}
section
variable(l:κ->κ->Int)
variable{l}
end
variable{κ:Type}
section
variable [DecidableEq κ] {a b:κ}
end
section
variable [DecidableEq κ]
end
variable{κ:Type} [DecidableEq κ]
section
variable{κ:Type}
end
variable{κ:Type} [DecidableEq κ]
end Dt
namespace Nt
open PySem L2
theorem Qx{α:Type}:∀{l:List α},l.Nodup->∀{i j:Nat} {x:α},l[i]?=some x->l[j]?=some x->i=j
 | [],_,i,j,x,h,_=>by simp at h
 | a :: l,hn,i,j,x,h1,h2=>by
  obtain⟨na,hl⟩:=Bq.mp hn;cases i with
  | zero=>
   cases j with
   | zero=>rfl
   | succ j=>
    cases h1;rw [Dv] at h2;exact absurd (An h2) na
  | succ i=>
   cases j with
   | zero=>
    cases h2;rw [Dv] at h1;exact absurd (An h1) na
   | succ j=>
    rw [Dv] at h1 h2;rw [Qx hl h1 h2]
def rn(n:Net)(p:Str):Nat:=(n.map (·.1)).idxOf p
theorem q84{n:Net}{p:Str}(h:p∈n.map (·.1)):rn n p < n.length/\(n.map (·.1))[rn n p]?=some p:=by
 have hl:rn n p < (n.map (·.1)).length:=List.idxOf_lt_length_iff.mpr h;refine⟨by rw [Aa] at hl;exact hl,?_⟩;rw [Ab hl]
 congr 1
 exact List.getElem_idxOf hl
theorem q68{n:Net}(hN:(n.map (·.1)).Nodup){r:Nat}(h:r < n.length):rn n (aF n r)=r:=by
 have e:(n.map (·.1))[r]?=some (aF n r):=by rw [Ad,Ab h,eS h];rfl
 exact Qx hN (q84<|An e).2 e
end Nt
namespace Dt
variable{κ μ:Type}
variable [DecidableEq κ] [DecidableEq μ]
end Dt
namespace Nt
open PySem L2
section
variable{n:Net}{z:Str}{r0 r1:Nat}
theorem q04{n:Net}{i:Nat}(h:n.length<=i):row n i=[]:=by
 unfold row;rw [Bv h];rfl
end
end Nt
namespace Dt
variable{κ ι:Type}
variable [DecidableEq ι]
end Dt
namespace Nt
open PySem L2 Dt
section
variable{n:Net}
end
end Nt
namespace Dt
open Nt (az iR)
open Classical
variable{τ:Type}
def dot(ss:List τ)(r s:τ->Bool):Bool:=az<|ss.map λz=>r z && s z
theorem q0y(ss:List τ)(r s:τ->Bool):dot ss r s=dot ss s r:=by
 unfold dot
 congr 1
 exact Bp λz _=>Bool.and_comm ..
structure DP(ss:List τ)(R S:(τ->Bool)->Prop):Prop where
 x0b:∀ r r',(∀ y∈ss,r y=r' y)->R r->R r'
 x0c:∀ r r',(∀ y∈ss,r y=r' y)->S r->S r'
 xr:∀ r r',R r->R r'->R (λy=>r y ^^ r' y)
 xs:∀ r r',S r->S r'->S (λy=>r y ^^ r' y)
 ort:∀ r s,R r->S s->dot ss r s=false
 Qy:∀ v,(∀ s,S s->dot ss v s=false)->R v
 Qz:∀ v,(∀ r,R r->dot ss r v=false)->S v
open Nt (az iR xX jx)
open Classical
variable{τ κ:Type} [DecidableEq κ]
end Dt
namespace Nt
open PySem L2 Classical
theorem QA{α:Type}{L:List (List α)}(h:L.flatten.Nodup){i j k l:Nat}{w v:List α}{e:α}(hi:L[i]?=some w)(hk:w[k]?=some e)(hj:L[j]?=some v)(hl:v[l]?=some e):i=j/\k=l:=by
 rw [Cc,List.pairwise_flatten] at h;obtain⟨h1,h2⟩:=h;have li:=(Ac.mp hi);have lj:=(Ac.mp hj);have ij:i=j:=by
  rcases Ee i j with c | c | c
  ·exact absurd rfl ((Az.mp h2) i j li.1 lj.1 c e (by rw [li.2];exact An hk) e<|by rw [lj.2];exact An hl)
  ·exact c
  ·exact absurd rfl ((Az.mp h2) j i lj.1 li.1 c e (by rw [lj.2];exact An hl) e<|by rw [li.2];exact An hk)
 subst ij;rw [hi] at hj;cases hj;refine⟨rfl,?_⟩;have p:=h1 w<|An hi;have lk:=(Ac.mp hk);have ll:=(Ac.mp hl)
 rcases Ee k l with c | c | c
 ·exact absurd (lk.2.trans ll.2.symm)<|(Az.mp p) k l lk.1 ll.1 c
 ·exact c
 ·exact absurd (ll.2.trans lk.2.symm)<|(Az.mp p) l k ll.1 lk.1 c
noncomputable def pf(n:Net)(x:End):End:=(((aU n)[x.1]?.getD [])[x.2]?).getD (0,0)
theorem qS(n:Net)(f:Nat):row (ao n) f=((aU n)[f]?.getD []).map (cM n):=by
 unfold row ao;cases h:(aU n)[f]? with
 | some w=>rw [PF h];rfl
 | none=>
  have:(cI n<|aU n)[f]?=none:=by rw [List.getElem?_eq_none_iff] at h ⊢;rw [mO];exact h
  rw [this];rfl
theorem pC{n:Net}{x:End}(h:x∈ends (ao n)):∃ w,(aU n)[x.1]?=some w/\w[x.2]?=some (pf n x):=by
 obtain⟨z,hz⟩:=af.mp h;unfold aG at hz;rw [qS] at hz;cases hw:(aU n)[x.1]? with
 | none=>rw [hw] at hz;simp at hz
 | some w=>
  rw [hw] at hz;have:x.2 < w.length:=by have:=(Ac.mp hz).1;simpa using this
  refine⟨w,rfl,?_⟩;unfold pf;rw [hw];show w[x.2]?=some ((w[x.2]?).getD (0,0));rw [Ab this];rfl
theorem xZ{n:Net}{i k:Nat}{w:List End}{e:End}(hi:(aU n)[i]?=some w)(hk:w[k]?=some e):(i,k)∈ends (ao n)/\pf n (i,k)=e:=by
 constructor
 ·refine af.mpr ⟨cM n e,?_⟩;unfold aG;rw [qS];show(((aU n)[i]?.getD []).map<|cM n)[k]?=_;rw [hi,Fm,Ad,hk];rfl
 ·unfold pf;show(((aU n)[i]?.getD [])[k]?).getD (0,0)=e;rw [hi,Fm,hk];rfl
section
variable{n:Net}
theorem qT(T:ay n){x:End}(h:x∈ends (ao n)):pf n x∈ends n:=by
 obtain⟨w,h1,h2⟩:=pC h;exact(ME T w<|An h1).2 _<|An h2
theorem qU(T:ay n){x:End}(h:x∈ends (ao n)):aG (ao n) x=aG n (pf n x):=by
 obtain⟨w,h1,h2⟩:=pC h;obtain⟨z,hz⟩:=af.mp<|qT T h;rw [hz];unfold aG;rw [qS,h1,Fm,Ad,h2];show some (cM n<|pf n x)=some z;rw [wU hz]
theorem QE{x:End}(h:x∈ends (ao n)):ends n≠[]:=λk=>by
 obtain⟨w,h1,h2⟩:=pC h;have:aU n=[[]]:=by unfold aU;rw [BP k]
 rw [this] at h1;have:w=[]:=by simpa using An h1
 subst this;simp at h2
theorem qV(T:ay n){x y:End}(hx:x∈ends (ao n))(hy:y∈ends (ao n))(h:pf n x=pf n y):x=y:=by
 obtain⟨w,h1,h2⟩:=pC hx;obtain⟨v,h3,h4⟩:=pC hy;rw [<- h] at h4;obtain⟨a,b⟩:=QA (qA T<|QE hx).nd h1 h2 h3 h4;exact GD a b
theorem vh(T:ay n){e:End}(h:e∈ends n):∃ x∈ends (ao n),pf n x=e:=by
 have h0:ends n≠[]:=λk=>by rw [k] at h;cases h
 have hm:=(C1 T h0).all.mem_iff.mpr h;obtain⟨w,hw,he⟩:=Dl.mp hm;obtain⟨i,hi⟩:=Bb hw;obtain⟨k,hk⟩:=Bb he;exact⟨(i,k),xZ hi hk⟩
theorem QH(n:Net):∀(ws:List<|List End) (k:Nat),ag ((ws.zipIdx k).map λx=>(cu x.2,x.1.map<|cM n))=ws.flatten.map (cM n)
 | [],_=>rfl
 | w :: ws,k=>by
  rw [List.zipIdx_cons,Bd];show w.map (cM n)++ag ((ws.zipIdx<|k+1).map λx=>(cu x.2,x.1.map<|cM n))=_;rw [QH n ws<|k+1,Ck,Ak]
theorem QI(n:Net):(ends n).map (cM n)=ag n:=by
 unfold ends;rw [Ch,<- jf n 0];refine Bp λp hp=>?_;obtain⟨z,e⟩:=p;exact wU<|aO.mp hp
theorem lB(T:ay n):(ag<|ao n).Perm (ag n):=by
 have e:ag (ao n)=(aU n).flatten.map (cM n):=QH n (aU n) 0;rw [e]
 by_cases h:ends n=[]
 ·have:aU n=[[]]:=by unfold aU;rw [BP h]
  rw [this,<- QI n,h];exact List.Perm.refl _
 ·rw [<- QI n];exact(C1 T h).all.map _
theorem eX(T:ay n):ay (ao n):=λz hz=>by
 have p:=lB T;rw [p.count_eq];exact T z<|p.mem_iff.mp hz
theorem Hn(T:ay n){x:End}(h:x∈ends (ao n)):pf n (left (ao n) x)=step n (pf n x):=by
 obtain⟨w,h1,h2⟩:=pC h;obtain⟨e,_,hw,he,_⟩:=(qA T<|QE h).face w<|An h1;have F:=jo T he;rw [<- hw] at F;have hl:=(Ac.mp h2).1;have hx:pf n x=it (step n) x.2 e:=Option.some.inj<|h2.symm.trans<|F.at' x.2 hl;have er:(row (ao n) x.1).length=w.length:=by rw [qS,h1,Fm,Aa]
 unfold left;rw [er]
 by_cases c:x.2+1 < w.length
 ·rw [Bj c,(xZ h1<|F.at' _ c).2,hx];rfl
 ·have c:x.2+1=w.length:=by omega
  rw [c,Eb,(xZ h1<|F.at' 0 F.pos).2,hx];show e=it (step n) (x.2+1) e;rw [c,F.back]
theorem qW(T:ay n){x:End}(h:x∈ends (ao n)):pf n (other (ao n) x)=other n (pf n x):=by
 obtain⟨z,hz⟩:=af.mp h;have o:=fk (eX T) hz;have Ho:=hz;rw [qU T h] at Ho;have h2:=o.1;have ho:=dM (eX T) h;rw [qU T ho] at h2
 rcases (ju T Ho).mp h2 with k | k
 ·exact absurd (qV T ho h k) o.2.2
 ·exact k
theorem vi(T:ay n){x:End}(h:x∈ends (ao n)):pf n (go 1 (ao n) x)=left n (pf n x):=by
 have ho:=dM (eX T) h;unfold go;rw [<- MA ho,Hn T ho,qW T h];unfold step;obtain⟨z,hz⟩:=af.mp<|qT T h;rw [(fk T hz).2.1]
end
end Nt
namespace Nt
open PySem L2 Dt
section
variable{n:Net}
noncomputable def star(m:Net)(r:Nat)(z:Str):Bool:=decide ((row m r).count z % 2=1)
theorem Hq{m:Net}(T:ay m){e:End}{z:Str}(h:aG m e=some z)(r:Nat):star m r z=(decide (r=e.1) ^^ decide (r=(other m e).1)):=by
 rw [<- Nj T h r,<- cZ]
where
 cZ {m:Net} {r:Nat} {z:Str}:star m r z=az ((row m r).map λy=>decide (y=z)):=by
  unfold star;rw [Hk]
  congr 1
  exact Bp λy _=>decide_eq_decide.mpr ⟨QT,QT⟩
theorem Hr{m:Net}{ss:List Str}(hs:ss.Nodup)(v:Str->Bool){r:Nat}(h:∀ y∈row m r,y∈ss):dot ss v (star m r)=az ((row m r).map v):=k6x (n:=m) hs h
theorem q0o(T:ay n)(r:Nat):cG (ao n) (star n r):=by
 refine aT.even (eX T) (χ:=λx=>decide (r=(pf n x).1)) ⟨λx hx=>?_,λx z hz=>?_⟩
 ·rw [sZ (eX T) hx,vi T hx];rfl
 ·have hx:=af.mpr ⟨z,hz⟩;rw [qU T hx] at hz;rw [Hq T hz r,qW T hx]
theorem k8r(T:ay n)(f:Nat):cG n (star (ao n) f):=by
 have inv:∀{x:End},x∈ends (ao n)->(decide (∃ y∈ends (ao n),pf n y=pf n x/\f=y.1))=decide (f=x.1):=λ{x} hx=>decide_eq_decide.mpr ⟨λ⟨y,hy,e,k⟩=>by rw [<- qV T hy hx e];exact k,λk=>⟨x,hx,rfl,k⟩⟩;refine aT.even T (χ:=λe=>decide (∃ y∈ends (ao n),pf n y=e/\f=y.1)) ⟨λe he=>?_,λe z hz=>?_⟩
 ·obtain⟨x,hx,rfl⟩:=vh T he;have hl:left (ao n) x∈ends (ao n):=AU hx;show decide _=decide _;rw [<- Hn T hx,inv hl,inv hx];rfl
 ·obtain⟨x,hx,rfl⟩:=vh T<|af.mpr ⟨z,hz⟩;show _=(decide _ ^^ decide _);rw [<- qU T hx] at hz;have ho:=dM (eX T) hx;rw [<- qW T hx,inv hx,inv ho,Hq (eX T) hz f]
theorem k7u(T:ay n)(hf:HF n){ss:List Str}(hs:ss.Nodup)(hm:∀ z,z∈ss↔z∈ag n):DP ss (cG n) (cG<|ao n):=by
 have T':=eX T;have mD:∀ z,z∈ss↔z∈ag (ao n):=λz=>(hm z).trans (lB T).mem_iff.symm;have x4:∀{m:Net},(∀ z,z∈ss↔z∈ag m)->∀ r,∀ y∈row m r,y∈ss:=λ{m} h r y hy=>by
  by_cases hr:r < m.length
  ·exact(h y).mpr<|q56 hr hy
  ·rw [q04<|by omega] at hy;cases hy
 have loc:∀{m:Net},(∀ z,z∈ss↔z∈ag m)->∀ r r':Str->Bool,(∀ y∈ss,r y=r' y)->cG m r->cG m r':=λ{m} h r r' q k x=>by
  rw [<- k x]
  congr 1
  exact Bp λy hy=>(q y<|x4 h x y hy).symm
 have xx:∀{m:Net} (r r':Str->Bool),cG m r->cG m r'->cG m (λy=>r y ^^ r' y):=λ{m} r r' k k' x=>by
  rw [iR r r',k x,k' x];rfl
 refine⟨loc hm,loc mD,xx,xx,λr s hr eF=>?_,λv hv x=>?_,λv hv x=>?_⟩
 ·obtain⟨χ,hχ⟩:=hf.2.2 r hr;have cst:∀(p f:Nat),(f,p)∈ends (ao n)->χ (pf n (f,p))=χ (pf n (f,0)):=λp=>by
   induction p with
   | zero=>exact λf _=>rfl
   | succ p ih=>
    intro f h;obtain⟨z,hz⟩:=af.mp h;have hl:=eN hz;have hl:p+1 < (row (ao n) f).length:=hl;have hp:(f,p)∈ends (ao n):=af.mpr ⟨_,Ab (show p < (row (ao n) f).length by omega)⟩;have e:left (ao n) (f,p)=(f,p+1):=GD rfl (Bj hl);rw [<- ih f hp,<- e,Hn T hp,hχ.go _<|qT T hp]
  have rz:∀ z∈ss,r z=az ((List.range (ao n).length).map λf=>χ (pf n (f,0)) && star (ao n) f z):=λz hz=>by
   obtain⟨x,hx⟩:∃ x,aG (ao n) x=some z:=by
    obtain⟨f,FX,qN⟩:=q6k<|(mD z).mp hz;obtain⟨p,hp⟩:=Bb qN;exact⟨(f,p),hp⟩
   have dI:=af.mpr ⟨z,hx⟩;have QN:=dM T' dI;obtain⟨y,hy⟩:=af.mp QN;have l1:=cg hx;have l2:=cg hy;have e1:(λf=>χ (pf n (f,0)) && star (ao n) f z)=λf=>(χ (pf n (f,0)) && decide (x.1=f)) ^^ (χ (pf n (f,0)) && decide ((other (ao n) x).1=f)):=by
    funext f
    rw [Hq T' hx f,show decide (f=x.1)=decide (x.1=f) from decide_eq_decide.mpr ⟨QT,QT⟩,show decide (f=(other (ao n) x).1)=decide ((other (ao n) x).1=f) from decide_eq_decide.mpr ⟨QT,QT⟩];cases χ (pf n (f,0)) <;> cases decide (x.1=f) <;> cases decide ((other (ao n) x).1=f) <;> rfl
   rw [e1,iR (λf=>χ (pf n (f,0)) && decide (x.1=f)) λf=>χ (pf n (f,0)) && decide ((other (ao n) x).1=f),Qw l1,Qw l2];have t1:=qU T dI;rw [hx] at t1;rw [hχ.dB _ _ t1.symm,<- qW T dI];have c1:=cst x.2 x.1 dI;have c2:=cst (other (ao n) x).2 (other (ao n) x).1 QN;rw [<- c1,<- c2]
  unfold dot;rw [show ss.map (λz=>r z && s z)=ss.map λz=>az ((List.range (ao n).length).map λf=>χ (pf n (f,0)) && (s z && star (ao n) f z)) from Bp λz hz=>by
   rw [rz z hz];cases s z with
   | false=>
    rw [Es];have:(λf=>χ (pf n (f,0)) && (false && star (ao n) f z))=λ_:Nat=>false:=by funext f;rw [RW,Es]
    rw [this,jx]
   | true=>
    rw [Bool.and_true]
    congr 1,xX]
  have:(List.range (ao n).length).map (λf=>az<|ss.map λz=>χ (pf n (f,0)) && (s z && star (ao n) f z))=(List.range (ao n).length).map λ_=>false:=Bp λf _=>by
   cases χ (pf n (f,0)) with
   | false=>
    have:(λz=>false && (s z && star (ao n) f z))=λ_:Str=>false:=by funext z;rfl
    rw [this,jx]
   | true=>
    have:(λz=>true && (s z && star (ao n) f z))=λz=>s z && star (ao n) f z:=by funext z;rw [Gv]
    rw [this];have d:=Hr hs s<|x4 mD f;unfold dot at d;rw [d];exact eF f
  rw [this];exact jx _
 ·have:=hv _<|q0o T x;rw [Hr hs v<|x4 hm x] at this;exact this
 ·have:=hv _<|k8r T x;rw [q0y,Hr hs v<|x4 mD x] at this;exact this
theorem k9u(T:ay n)(hN:(n.map (·.1)).Nodup)(hg:cH n)(h1:ends n≠[]):cH (ao n):=λP ⟨a,ha,pa⟩ hc b hb=>by
 have T':=eX T
 let B:End->Prop:=λx=>P<|aF (ao n) x.1
 have bo:∀ x∈ends (ao n),(B x↔B (other (ao n) x)):=λx hx=>by
  have QO:∀ x∈ends (ao n),B x->B (other (ao n) x):=λx hx k=>by
   obtain⟨z,hz⟩:=af.mp hx;have ho:=(fk T' hz).1;have l1:=cg hz;have l2:=cg ho;show P (aF (ao n) (other (ao n) x).1);have k:P (aF (ao n) x.1):=k;rw [eS l1] at k;rw [eS l2];exact hc _ (Bw l1) _ (Bw l2) z (by rw [<- qO l1];exact An hz) (by rw [<- qO l2];exact An ho) k
  refine⟨QO x hx,λk=>?_⟩;have:=QO _ (dM T' hx) k;rw [k1b T' hx] at this;exact this
 let Bn:End->Prop:=λe=>∃ x∈ends (ao n),pf n x=e/\B x
 have bx:∀{x:End},x∈ends (ao n)->(Bn (pf n x)↔B x):=λ{x} hx=>⟨λ⟨y,hy,e,k⟩=>by rw [<- qV T hy hx e];exact k,λk=>⟨x,hx,rfl,k⟩⟩;have bl:∀ e∈ends n,(Bn e↔Bn (left n e)):=λe he=>by
  obtain⟨x,hx,rfl⟩:=vh T he;rw [<- vi T hx,bx hx,bx<|X3 T' hx,bo x hx];exact TY
 have bt:∀ e∈ends n,(Bn e↔Bn (other n e)):=λe he=>by
  obtain⟨x,hx,rfl⟩:=vh T he;rw [<- qW T hx,bx hx,bx<|dM T' hx];exact bo x hx
 have br:∀(p r:Nat),(r,p)∈ends n->(Bn (r,p)↔Bn (r,0)):=λp=>by
  induction p with
  | zero=>exact λr _=>TY
  | succ p ih=>
   intro r h;obtain⟨z,hz⟩:=af.mp h;have hl:=eN hz;have hl:p+1 < (row n r).length:=hl;have hp:(r,p)∈ends n:=af.mpr ⟨_,Ab (show p < (row n r).length by omega)⟩;have e:left n (r,p)=(r,p+1):=GD rfl (Bj hl);rw [<- e,<- bl _ hp];exact ih r hp
 have ne:∀ w∈aU n,∃ e∈ends n,w[0]?=some e:=λw hw=>by
  obtain⟨e,he,rfl,_⟩:=(by
   have:=wV T (ends n) [] (λ_ h=>h) w (by unfold aU at hw;rw [BL h1] at hw;exact hw);exact this:∃ e∈ends n,w=face n e/\e∉([]:List End))
  obtain⟨hm,_⟩:=tq T he;cases hf:face n e with
  | nil=>rw [hf] at hm;cases hm
  | cons c l=>exact⟨c,tf T he c (by rw [hf];exact Ae ..),rfl⟩
 have first:∀ i,i < (ao n).length->((i,0):End)∈ends (ao n):=λi hi=>by
  have i8:i < (aU n).length:=by
   have:(ao n).length=(aU n).length:=mO n<|aU n;omega
  obtain⟨e,he,h0⟩:=ne _<|Bw i8;exact(xZ (Ab i8) h0).1
 obtain⟨i,hi,rfl⟩:=Bz.mp ha;obtain⟨j,hj,rfl⟩:=Bz.mp hb;have xi:=first i hi
 have xj:=first j hj
 have Bi:B (i,0):=by
  show P (aF (ao n) i);rw [eS hi];exact pa
 have ei:=qT T xi;have ej:=qT T xj;have Bi:=(bx xi).mpr Bi;generalize pf n (i,0)=e at ei Bi;obtain⟨z,hz⟩:=af.mp ei;have lr:=cg hz;have x5:∀ k (hk:k < n.length),rn n n[k].1=k:=λk hk=>by
  have:=q68 hN hk;rw [eS hk] at this;exact this
 have same:∀ x∈ends n,∀ y∈ends n,x.1=y.1->Bn x->Bn y:=λx hx y hy e k=>by
  have a:=(br x.2 x.1 hx).mp k;rw [e] at a;exact(br y.2 y.1 hy).mpr a
 have all:=hg (λp=>∀ y∈ends n,y.1=rn n p->Bn y) ⟨n[e.1],Bw lr,λy hy k=>by
  have k:y.1=rn n n[e.1].1:=k;rw [x5 _ lr] at k;exact same e ei y hy k.symm Bi⟩ (λr hr s eF t t1 t2 pr y hy k=>by
  obtain⟨a,xg,rfl⟩:=Bz.mp hr;obtain⟨b,kI,rfl⟩:=Bz.mp eF;have k:y.1=rn n n[b].1:=k;have pr:∀ y∈ends n,y.1=rn n n[a].1->Bn y:=pr;rw [x5 b kI] at k;rw [x5 a xg] at pr;rw [<- qO xg] at t1;rw [<- qO kI] at t2;obtain⟨p,hp⟩:=Bb t1;obtain⟨p',tS⟩:=Bb t2;have f1:aG n (a,p)=some t:=hp;have f2:aG n (b,p')=some t:=tS;have m1:=af.mpr ⟨t,f1⟩;have m2:=af.mpr ⟨t,f2⟩;have B1:=pr _ m1 rfl;have B2:Bn (b,p'):=by
   rcases (ju T f1).mp f2 with q | q
   ·rw [q];exact B1
   ·rw [q];exact(bt _ m1).mp B1
  exact same _ m2 y hy k.symm B2)
 obtain⟨zj,hzj⟩:=af.mp ej;have lj:=cg hzj;have fin:=all n[(pf n (j,0)).1] (Bw lj) (pf n (j,0)) ej (x5 _ lj).symm;have:=(bx xj).mp fin;have this:P (aF (ao n) j):=this;rw [eS hj] at this;exact this
end
end Nt
namespace Nt
open PySem L2 Classical
theorem QP{f:End->End}{g:Nat->End}:∀ k,(∀ i,i < k->f (g i)=g (i+1))->dz f ((List.range k).map g) (g 0) (g k)
 | 0,_=>rfl
 | k+1,h=>by
  rw [Dx,Ak];exact bu.mpr ⟨g k,QP k (λi hi=>h i<|by omega),rfl,h k<|by omega⟩
def qX(n:Net):List (List End):=(List.range n.length).map λr=>(List.range (row n r).length).map λi=>(r,i % (row n r).length)
theorem sum_rows(n:Net):(qX n).flatten.length=(ag n).length:=by
 rw [List.length_flatten];unfold qX ag;rw [Ch,List.length_flatMap]
 congr 1
 rw [map_range n (λr:Str×List Str=>r.2.length) (λr=>(row n r).length) λk x hk=>by
  show(row n k).length=x.2.length;unfold row;rw [hk];rfl]
 refine Bp λr _=>?_;show((List.range (row n r).length).map _).length=_;rw [Aa,Db]
theorem k89{n:Net}(h:∀ r,r < n.length->row n r≠[]):Dec (left n) (ends n) (qX n):=by
 refine⟨λl hl=>?_,?_,iP n⟩
 ·obtain⟨r,hr,rfl⟩:=Am.mp hl;have hr:=Bg.mp hr;have h0:0 < (row n r).length:=By.mpr<|h r hr;have p:=QP (f:=left n) (g:=λi=>(r,i % (row n r).length)) (row n r).length λi hi=>by
   show((r,(i % (row n r).length+1) % (row n r).length):End)=_;rw [Nat.mod_add_mod]
  have e:((r,0 % (row n r).length):End)=(r,(row n r).length % (row n r).length):=by rw [Eb,Nat.zero_mod]
  refine⟨(r,0 % (row n r).length),Am.mpr ⟨0,Bg.mpr h0,rfl⟩,?_⟩;have p:dz (left n) _ ((r,0 % (row n r).length):End) ((r,(row n r).length % (row n r).length):End):=p;rw [<- e] at p;exact p
 ·refine(mr (iP n) (λe he=>?_) ?_).symm
  ·obtain⟨z,hz⟩:=af.mp he;have h1:=cg hz;have h2:=eN hz;exact Dl.mpr ⟨_,Am.mpr ⟨e.1,Bg.mpr h1,rfl⟩,Am.mpr ⟨e.2,Bg.mpr h2,GD rfl (Bj h2)⟩⟩
  ·rw [sum_rows,fm];exact Al _
noncomputable def pin(n:Net)(e:End):End:=if h:∃ x∈ends (ao n),pf n x=e then h.choose else(0,0)
section
variable{n:Net}
theorem vj(T:ay n){e:End}(h:e∈ends n):pin n e∈ends (ao n)/\pf n (pin n e)=e:=by
 have q:∃ x∈ends (ao n),pf n x=e:=vh T h;unfold pin;rw [dif_pos q];exact q.choose_spec
theorem q6e(T:ay n)(F:Full n)(P:Pl n)(hE:ends n≠[])(hr:∀ r,r < n.length->row n r≠[]):Pl (ao n):=by
 have T':=eX T;have hl:(ag<|ao n).length=(ag n).length:=(lB T).length_eq;have ln:(ao n).length=(aU n).length:=by unfold ao;rw [mO]
 have lr:(qX n).length=n.length:=by unfold qX;rw [Aa,Db]
 have eu:=C2 T F P;refine .inr ⟨(qX n).map<|List.map<|pin n,(k89 hr).carry (f':=step<|ao n) (λx hx=>?_) ?_<|iP _,?_⟩
 ·obtain⟨p1,p2⟩:=vj T hx;obtain⟨q1,q2⟩:=vj T<|AU hx;refine qV T (jg T' p1) q1 ?_;rw [sZ T' p1,vi T p1,p2,q2]
 ·refine mr (Qv (iP n) λa ha b hb e=>?_) (λx hx=>?_) ?_
  ·rw [<- (vj T ha).2,<- (vj T hb).2,e]
  ·obtain⟨e,he,rfl⟩:=Am.mp hx;exact(vj T he).1
  ·rw [Aa,fm,fm,hl];exact Al _
 ·rw [Aa,lr,ln,hl];omega
theorem k5m(T:ay n)(hf:HF n)(hN:(xY n).Nodup)(h0:0 < n.length){s:Str->Bool}(h:cG (ao n) s){ss:List Str}(hs:∀ z,z∈ss↔z∈ag n/\s z=true):∃ sd,jw n ss sd:=by
 obtain⟨Z,hz,hm⟩:=DC<|ag n;have nz:=Zd hz;refine k0l T hf.1 hN h0 nz hm (λz hz=>((hs z).mp hz).1) λt ht=>?_;rw [<- (k7u T hf nz hm).ort t s ht h];refine k3q (λ_ _=>rfl) λz hz=>?_;have eW:=(hm z).mp hz;cases k:s z
 ·exact BR λq=>by rw [((hs z).mp q).2] at k;cases k
 ·exact BW<|(hs z).mpr ⟨eW,k⟩
theorem q5z(T:ay n)(hf:HF n)(hN:(xY n).Nodup)(h0:0 < n.length):RS (ao n):=λs h=>by
 have T':=eX T;obtain⟨ss,h1,h2⟩:=DC<|(ag n).filter s;have hs:∀ z,z∈ss↔z∈ag n/\s z=true:=λz=>by rw [h2,Da]
 obtain⟨sd,hsd⟩:=k5m T hf hN h0 h hs;refine⟨λx=>decide (aF n (pf n x).1∈sd),λx hx=>?_,λx z hz=>?_⟩
 ·rw [sZ T' hx,vi T hx];rfl
 ·have hx:=af.mpr ⟨z,hz⟩;have Ho:=hz;rw [qU T hx] at hz;rw [qW T hx];have c:=Nf T (ps:=sd) hz;rw [<- hsd.cut z,hs z] at c;have eW:=fj hz;have c2:s z=true↔(decide (aF n (pf n x).1∈sd) != decide (aF n (other n<|pf n x).1∈sd))=true:=⟨λq=>c.mp ⟨eW,q⟩,λq=>(c.mpr q).2⟩;exact Di.mpr c2
theorem q72(T:ay n)(F:Full n)(hf:HF n)(hN:(xY n).Nodup)(h0:0 < n.length)(hE:ends n≠[])(hr:∀ r,r < n.length->row n r≠[]):HF (ao n):=⟨k9u T hN hf.1 hE,q6e T F hf.2.1 hE hr,q5z T hf hN h0⟩
end
end Nt
namespace Nt
open PySem L2 Dt
section
variable{n m:Net}
end
section
variable{n:Net}
theorem k83{f:Nat->Str}(inj:∀ i:Fin 60,∀ j:Fin 60,f i.1=f j.1->i.1=j.1){k:Nat}(h:k<=60):((List.range k).map f).Nodup:=by
 rw [Cc,Ef];refine(Cc.mp Fk).imp_of_mem λ{a b} ha hb bj k=>bj ?_;exact inj ⟨a,by have:=Bg.mp ha;omega⟩ ⟨b,by have:=Bg.mp hb;omega⟩ k
theorem k7t(h:(aU n).length<=60):((ao n).map (·.1)).Nodup:=by
 have e:(ao n).map (·.1)=(List.range (aU n).length).map cu:=by
  unfold ao cI;rw [Ch,List.range_eq_range',<- List.zipIdx_map_snd 0,Ch];rfl
 rw [e];exact k83 (by decide +kernel) h
end
end Nt
namespace Nt
open PySem L2 Classical
section
variable{n:Net}
theorem x6(T:ay n){e:End}(h:e∈ends (ao n)):∀ k,it (step<|ao n) k e∈ends (ao n)/\pf n (it (step<|ao n) k e)=it (left n) k (pf n e)
 | 0=>⟨h,rfl⟩
 | k+1=>by
  obtain⟨a,b⟩:=x6 T h k;refine⟨jg (eX T) a,?_⟩;show pf n (step (ao n)<|it (step<|ao n) k e)=left n (it (left n) k<|pf n e);rw [sZ (eX T) a,vi T a,b]
theorem QQ{c:End}(h:c∈ends n):∀ k,it (left n) k c=(c.1,(c.2+k) % (row n c.1).length)
 | 0=>by
  obtain⟨z,hz⟩:=af.mp h;show c=_;rw [Gm,Bj<|eN hz]
 | k+1=>by
  show left n (it (left n) k c)=_;rw [QQ h k];show((c.1,((c.2+k) % (row n c.1).length+1) % (row n c.1).length):End)=_;rw [Nat.mod_add_mod];rfl
structure fU(n:Net)(w:List End)(r p:Nat):Prop where
 lt:r < n.length
 pl:p < (row n r).length
 len:w.length=(row n r).length
 at':∀ k x,w[k]?=some x->x∈ends (ao n)/\pf n x=(r,(p+k) % (row n r).length)
theorem QR(T:ay n)(hE:ends (ao n)≠[]){w:List End}(hw:w∈aU (ao n)):∃ r p,fU n w r p:=by
 have T':=eX T;obtain⟨e,_,rfl,he,_⟩:=(qA T' hE).face w hw;have f:=jo T' he;have hc:=qT T he;obtain⟨z,hz⟩:=af.mp hc;have hL:=eN hz;have Hs:∀ k,pf n (it (step<|ao n) k e)=((pf n e).1,((pf n e).2+k) % (row n (pf n e).1).length):=λk=>by rw [(x6 T he k).2,QQ hc k]
 have back:∀ k,((pf n e).2+k) % (row n (pf n e).1).length=(pf n e).2->it (step<|ao n) k e=e:=λk hk=>qV T (x6 T he k).1 he (by rw [Hs k,hk]);have len:(face (ao n) e).length=(row n (pf n e).1).length:=by
  have h1:=Hs (face (ao n) e).length;rw [f.back] at h1;have h1:(pf n e).2=((pf n e).2+(face (ao n) e).length) % (row n (pf n e).1).length:=BX (·.2) h1;have p0:=f.pos;generalize hm:(face (ao n) e).length=m at h1 p0 ⊢;generalize (row n (pf n e).1).length=L at h1 hL back ⊢;generalize (pf n e).2=p at h1 hL back
  rcases Ee m L with q | q | q
  ·exfalso
   by_cases s:p+m < L
   ·rw [Bj s] at h1;omega
   ·have:(p+m) % L=p+m - L:=by
     rw [Nat.mod_eq_sub_mod (by omega),Bj<|by omega]
    omega
  ·exact q
  ·exfalso
   exact f.first L (by omega) (by rw [hm];exact q) (back L<|by rw [Nat.add_mod_right,Bj hL])
 refine⟨(pf n e).1,(pf n e).2,cg hz,hL,len,λk x hk=>?_⟩;have gy:=(Ac.mp hk).1;rw [f.at' k gy] at hk;cases hk;exact⟨(x6 T he k).1,Hs k⟩
theorem fU.all{w:List End}{r p:Nat}(h:fU n w r p){q:Nat}(hq:q < (row n r).length):∃ k,k < w.length/\(p+k) % (row n r).length=q:=by
 have hp:=h.pl;rw [h.len]
 by_cases c:p<=q
 ·exact⟨q - p,by omega,by rw [Bj<|by omega];omega⟩
 ·refine⟨q+(row n r).length - p,by omega,?_⟩;have:p+(q+(row n r).length - p)=q+(row n r).length:=by omega
  rw [this,Nat.add_mod_right,Bj hq]
theorem k3r(T:ay n)(hE:ends (ao n)≠[]){i j:Nat}{v w:List End}{r p q:Nat}(hi:(aU<|ao n)[i]?=some v)(hj:(aU<|ao n)[j]?=some w)(hv:fU n v r p)(hw:fU n w r q):i=j:=by
 have g:=qA (eX T) hE;have lw:=hw.len;have hq:=hw.pl;obtain⟨k,hk,ek⟩:=hv.all (q:=q) hw.pl;have h0:0 < w.length:=by omega
 have e1:=Ab hk;have e2:=Ab h0;have a1:=hv.at' k _ e1;have a2:=hw.at' 0 _ e2;rw [ek] at a1;rw [Gm,Bj hw.pl] at a2;have:=qV T a1.1 a2.1<|a1.2.trans a2.2.symm;rw [this] at e1;exact(QA g.nd hi e1 hj e2).1
end
end Nt
namespace PySem
section
variable{prog:Program}{w:World}{K:Type} [DecidableEq K] {knd:HeapKind prog w K} {A:Around} {E:Value->Shared->Prop} {s:Shared}
end
end PySem
namespace L2
open PySem PySem.Spec PyProof.Rows
section
variable{X:Cx}{σ:St}{H:Hp}{Q:VK}{o e:Expr}{pos:Pos}
end
theorem QU{X:Cx}:dE X (.type "int") (λxs H Q=>∃(x:Str) (n:Int),xs=[.str x]/\PySem.intText? x=some n/\x.length<=640/\Q (.int n) H):=by
 intro pins s σ H xs us Q I r h;obtain⟨x,n,rfl,hn,hl,q⟩:=h;obtain⟨u,rfl,ru⟩:=vals1 r;obtain⟨t,rfl⟩:=ru;exact PySem.W.KIN.call_text hn hl ⟨.int n,H,I.tok _,⟨_,rfl⟩,q⟩
end L2
namespace F3
open PySem L2 Nt bM bD
open PyProof.Rows (sortedS)
open Classical
theorem QY(i:Int):mU (sgn i)=true:=by
 unfold mU;refine BW ?_;have h:=wu i;have z0:0<=i % 36:=Bs _ (by decide);have z1:i % 36 < 36:=Bx _ (by decide);obtain⟨k,hk⟩:∃ k:Nat,i % 36=k:=⟨(i % 36).toNat,by omega⟩;have hl:=AY;rw [hk,i5<|Ab (show k < lets.cps.toList.length by omega)] at h;rw [<- Option.some.inj h];exact Bw _
theorem q5c(b:Int)(v:Nat):cR (aA b v)=true/\(aA b v).length<=8:=by
 have s0:0<=b % 8:=Bs _ (by decide);have s1:b % 8 < 8:=Bx _ (by decide);have v0:0<=(v:Int) % 8:=Bs _ (by decide);have v1:(v:Int) % 8 < 8:=Bx _ (by decide);have key:∀ l:List Nat,(aA b v).cps.toList=l->1<=l.length->l.length<=8->(∀ c∈l,mU c=true)->cR (aA b v)=true/\(aA b v).length<=8:=λl e h1 h2 h3=>by
  have hl:(aA b v).length=l.length:=by rw [<- e];exact(Cd ..).symm
  refine⟨?_,by omega⟩;unfold cR;rw [BW (by omega),Gv,e,De];exact h3
 unfold aA at key ⊢
 by_cases c:b % 3=2
 ·rw [BP c] at key ⊢;refine key _ (mul_list _<|by omega) ?_ ?_ λx hx=>?_
  ·rw [Ci];omega
  ·rw [Ci];omega
  ·rw [Ft hx];exact QY _
 ·rw [BL c] at key ⊢;refine key _ (sJ _ _ _ _) ?_ ?_ λx hx=>?_
  ·rw [Aa,Db];omega
  ·rw [Aa,Db];omega
  ·obtain⟨j,_,rfl⟩:=Am.mp hx;exact QY _
theorem Q0:∀ k,k < 40->PySem.intText? (Txt.slice (cu k) (some 1) none)=some (k:Int):=by decide +kernel
theorem Q1:∀ k,k < 40->(Txt.slice (cu k) (some 1) none).length<=640:=by decide +kernel
theorem x8:∀ k,k < 40->cR (cu k)=true/\(cu k).length<=8:=by decide +kernel
theorem x9{n:Net}{i:Nat}(h:i < (ao n).length):nameAt (ao n) i=cu i:=by
 have hl:(ao n).length=(aU n).length:=by unfold ao;rw [mO]
 have:=PF (n:=n) (Ab (show i < (aU n).length by omega));unfold nameAt;show(((cI n<|aU n)[i]?).map (·.1)).getD _=_;rw [this];rfl
abbrev Li(zs:List Nat):HO:= .lst<|zs.map λ(z:Nat)=>V.int (z:Int)
def Ht:Sp:=λvs H Q _=>∃(R S:Addr) (as:List<|Addr×Addr) (n:Net) (r p:Nat),vs=[.ref R,.str<|nameAt n r,.ref S]/\ah H R as n/\(n.map (·.1)).Nodup/\n.length<=1000/\r < n.length/\p < (row n r).length/\(row n r).length<=1000/\H S=some (Li<|(List.range (row n r).length).map λk=>(p+k) % (row n r).length)/\∀ H',aj H H'->Q (.bl true) H'
noncomputable def Hu:Sp:=λvs H Q _=>∃(R Lf Ld:Addr) (as:List<|Addr×Addr) (n:Net) (lf ld:List Addr),vs=[.ref R,.ref Lf,.ref Ld]/\ah H R as n/\(n.map (·.1)).Nodup/\ay n/\ends (ao n)≠[]/\n.length<=60/\(ag n).length<=60/\(aU n).length < 40/\(aU<|ao n).length=n.length/\gF n H Lf lf (aU n)/\gF (ao n) H Ld ld (aU<|ao n)/\∀ H',aj H H'->Q (.bl true) H'
section
variable{P:Program}{w:World}{K:PySem.W.Frag}{mg:Str->Option Value}{base:Heap}
abbrev Q2:List Str:=["_law_rows","_law_point","_law_places","_law_size","_law_k"]
abbrev vk:List Str:=["_law_rows","_law_point","_law_places","_law_size","_law_k","_law_row"]
theorem vp:al Q2 ["_law_rows","_law_point","_law_places"] (aQ wI):=⟨rfl,rfl,rfl,by decide +kernel,rfl,by decide +kernel,by decide +kernel⟩
theorem q51:vk.Nodup:=by decide +kernel
theorem q3d{f:Addr}{fd:FuncData}(F:bH K "_law_turned" "_law_turned" wI f fd)(T:Txt mg):aE P w K mg base bJ 1 f fd ["_law_rows","_law_point","_law_places"] Ht:=by
 refine F.gb vp (λvs H Q E h=>?_) λb0 H vs Q E hr h=>?_
 ·obtain⟨R,S,as,n,r,p,rfl,_⟩:=h;rfl
 obtain⟨R,S,as,n,r,p,rfl,hR,hN,hn,iy,hp,hL,hS,q⟩:=h;have nd:=vp.nd;have bQ:=hR.len;obtain⟨a,ea,dN,et,el,er⟩:=hR.at iy;show Run _ _ _ [some<|.ref R,some<|.str<|nameAt n r,some<|.ref S,none,none] H;refine aX 3 nd<|bL cm T.len CP<|ak<|aS bW<|aS cf<|iL (aQ wI) Q2 vk 1 (dR bn)<|ae 0 ⟨R,rfl,⟨_,ai.of hR.lst⟩,λD hD=>?_⟩;refine iQ (xs:=as.map λa=>V.ref a.1) (λi σ' H'=>(∃ v,σ'=[some<|.ref R,some<|.str<|nameAt n r,some<|.ref S,none,none]++[v])/\aj H H'/\H' D=some (.lst (if r < i then [V.ref a.1] else []))) ⟨⟨none,rfl⟩,aP hD _,aw⟩ ?_ ?_ ?_
 ·rintro i σ' H' _ ⟨_,sm,_⟩;exact ai.of<|sm _ _ hR.lst
 ·rintro i x σ' H' hx ⟨⟨v,rfl⟩,sm,eD⟩;have hi:i < n.length:=by
   have:=(Ac.mp hx).1;rw [Aa] at this;omega
  obtain⟨b,eb,x0e,ebt,ebl,ebr⟩:=(hR.same sm).at hi;rw [Ad,eb] at hx;cases hx;intro cl C' s₀ H₀ ex;refine bb 5 q51 ?_;intro cl C' s₀ H₀ ex;refine Vs<|cD i0<|aS bW<|ae 5<|aB ⟨b.1,_,_,.str n[i].1,rfl,rfl,aJ.of ebt,rfl,ae 1 ⟨rfl,_,rfl,?_⟩⟩;rw [mJ iy]
  by_cases c:i=r
  ·subst c;rw [BW rfl];rw [ea] at eb;cases eb;refine bI ?_;intro cl C' s₀ H₀ ex;rw [BL<|Cs _] at eD;refine ae 5 ⟨_,eD,bU (by show 0<=_;omega),⟨_,rfl⟩,c8 sm hD,?_⟩;rw [BP<|Fj _];exact aw
  ·have bj:¬(V.str n[i].1=V.str n[r].1):=λk=>c<|xh hN hi iy<|by
    have k:=V.str.inj k;unfold aF;rw [Ab hi,Ab iy];exact k
   rw [BR bj];refine bp ⟨⟨_,rfl⟩,sm,?_⟩;rw [eD]
   by_cases d:r < i
   ·rw [BP d,BP<|by omega]
   ·rw [BL d,BL<|by omega]
 rintro σ' H1 ⟨_,s1,eD⟩;rw [Aa,bQ,BP iy] at eD;refine aB ⟨D,_,_,.ref a.1,rfl,rfl,ai.of eD,rfl,aB ⟨a.1,_,_,.ref a.2,rfl,rfl,aJ.of<|s1 _ _ et,rfl,aq ⟨a.2,_,rfl,.inl<|ai.of<|s1 _ _ el,?_⟩⟩⟩;rw [Aa];have qf:=s1 _ _ hS;generalize hLL:(row n r).length=L at hp hL qf;show Run _ _ _ [some<|.ref R,some<|.str<|nameAt n r,some<|.ref S,some<|.int (L:Int),none] H1;have ll:(((List.range L).map λk=>(p+k) % L).map λ(z:Nat)=>V.int (z:Int)).length=L:=by rw [Aa,Aa,Db]
 have Q3:∀ k,k < L->dG (((List.range L).map λk=>(p+k) % L).map λ(z:Nat)=>V.int (z:Int)) (k:Int)=some (.int (((p+k) % L:Nat):Int)):=λk hk=>i5 (by rw [Ad,Ad,Dm hk];rfl);refine cY<|cD pV<|bL cm T.len CP<|ak<|ae 2<|aq ⟨S,_,rfl,.inl<|ai.of qf,ae 3 ⟨rfl,_,rfl,?_⟩⟩;rw [ll,BW rfl];refine bp (a8<|jO T.range<|ae 3 ⟨(L:Int),rfl,by omega,by omega,?_⟩);rw [Bm];refine jP (λi σ H'=>H'=H1/\∃ u:Option V,σ=[some<|.ref R,some<|.str<|nameAt n r,some<|.ref S,some<|.int (L:Int),u]) ⟨rfl,_,rfl⟩ ?_ ?_
 ·rintro i σ H' hi ⟨rfl,u,rfl⟩;rw [Dw];refine bb 4 nd ?_;show Run _ _ _ [some<|.ref R,some<|.str<|nameAt n r,some<|.ref S,some<|.int (L:Int),some<|.int (i:Int)] H';have pD:(0:Int) < (L:Int):=by omega
  refine cY (cD pV<|aS cf<|ae 2<|ae 4 ⟨S,_,_,_,rfl,rfl,ai.of qf,Q3 i hi,aW cT<|aW d9<|aS cf<|ae 2<|aB ⟨S,_,_,_,rfl,rfl,ai.of qf,Q3 0 (by omega),ae 4 ⟨_,_,rfl,rfl,ae 3 ⟨_,_,rfl,rfl,pD,rfl,_,rfl,?_⟩⟩⟩⟩);have e:V.int (((p+i) % L:Nat):Int)=V.int (((((p+0) % L:Nat):Int)+(i:Int)) % (L:Int)):=by
   rw [Gm,Bj hp]
   congr 1
  rw [BW e];exact bp<|a8<|a8 ⟨rfl,_,rfl⟩
 ·rintro σ H' ⟨rfl,u,rfl⟩;exact bT<|kg<|q _ s1
open PyProof.Rows (sortedS)
open Classical
def iH(n:Net)(i:Nat)(ms:List Str):Prop:=ms.length=i/\∀(j:Nat) y,ms[j]?=some y->∃ v r p,(aU<|ao n)[j]?=some v/\fU n v r p/\y=nameAt n r
theorem iH.step{n:Net}{i:Nat}{ms:List Str}(h:iH n i ms){v:List Nt.End}{r p:Nat}(hv:(aU<|ao n)[i]?=some v)(f:fU n v r p):iH n (i+1) (ms++[nameAt n r]):=by
 have hl:=h.1;refine⟨by rw [Ag,hl];rfl,λj y hj=>?_⟩
 by_cases c:j < ms.length
 ·rw [Aw c] at hj;exact h.2 j y hj
 ·rw [Ba<|by omega] at hj;have dU:j - ms.length=0:=by
   have:=(Ac.mp hj).1;simp at this;omega
  rw [dU] at hj;cases hj;exact⟨v,r,p,by rw [show j=i by omega];exact hv,f,rfl⟩
theorem iH.new{n:Net}(T:ay n)(hN:(n.map (·.1)).Nodup)(hE:ends (ao n)≠[]){i:Nat}{ms:List Str}(h:iH n i ms){v:List Nt.End}{r p:Nat}(hv:(aU<|ao n)[i]?=some v)(f:fU n v r p):nameAt n r∉ms:=λk=>by
 obtain⟨j,hj⟩:=Bb k;obtain⟨w,s,q,hw,g,e⟩:=h.2 j _ hj;have nZ:=(Ac.mp hj).1;have:=xh hN f.lt g.lt e;subst this;have:=k3r T hE hv hw f g;have:=h.1;omega
theorem stand{n:Net}{H:Hp}{Lf:Addr}{lf:List Addr}{x:Nt.End}(hx:x∈ends (ao n))(hF:gF n H Lf lf<|aU n):∃(lx:Addr) (qY:List Addr) (u:Addr),dG (lf.map V.ref) (x.1:Int)=some (.ref lx)/\H lx=some (.lst<|qY.map V.ref)/\dG (qY.map V.ref) (x.2:Int)=some (.ref u)/\H u=some (TN n<|pf n x):=by
 obtain⟨v,h1,h2⟩:=pC hx;have hl:=hF.len;have b1:=(Ac.mp h1).1;have e1:=Ab (show x.1 < lf.length by omega);obtain⟨qY,q1,q2⟩:=hF.at' x.1 _ v e1 h1;have b2:=(Ac.mp h2).1;have pY:=q2.1;have e2:=Ab (show x.2 < qY.length by omega);exact⟨_,qY,_,i5 (by rw [Ad,e1];rfl),q1,i5 (by rw [Ad,e2];rfl),q2.2 x.2 _ _ e2 h2⟩
abbrev vq:List Str:=["_law_rows","_law_faces","_law_duals","_law_met","_law_dual","_law_ends","_law_points_here"]
abbrev lC:List Str:=["_law_rows","_law_faces","_law_duals","_law_met","_law_dual","_law_ends","_law_points_here","_law_end"]
abbrev vt:List Str:=["_law_rows","_law_faces","_law_duals","_law_met","_law_dual","_law_ends","_law_points_here","_law_one"]
theorem vw:al vq ["_law_rows","_law_faces","_law_duals"] (aQ nV):=⟨rfl,rfl,rfl,by decide +kernel,rfl,by decide +kernel,by decide +kernel⟩
theorem Hv:lC.Nodup:=by decide +kernel
theorem q7q:vt.Nodup:=by decide +kernel
theorem Q4(i:Nat)(y:Str):List.replicate (i+1) y=List.replicate i y++[y]:=NZ
theorem q4x{f:Addr}{fd:FuncData}(F:bH K "_law_points" "_law_points" nV f fd)(T:Txt mg)(GT:aV P w K mg base 1 "_law_turned" ["_law_rows","_law_point","_law_places"] Ht):aE P w K mg base bJ 2 f fd ["_law_rows","_law_faces","_law_duals"] Hu:=by
 refine F.gb vw (λvs H Q E h=>?_) λb0 H vs Q E hr h=>?_
 ·obtain⟨R,Lf,Ld,as,n,lf,ld,rfl,_⟩:=h;rfl
 obtain⟨R,Lf,Ld,as,n,lf,ld,rfl,hR,hN,hT,hE,hn,iE,h40,FX,hF,hD,q⟩:=h;have nd:=vw.nd;have un:=hr.gm;have gn:=hD.len;have bQ:=hR.len;show Run _ _ _ [some<|.ref R,some<|.ref Lf,some<|.ref Ld,none,none,none,none] H;refine aX 3 nd<|cL<|aq ⟨Z0,λM hM=>?_⟩;have s0:=aP hM<|.lst [];have mR:(upd H M<|.lst []) M=some (Ls []):=aw;show Run _ _ _ [some<|.ref R,some<|.ref Lf,some<|.ref Ld,some<|.ref M,none,none,none] (upd H M<|.lst []);generalize upd H M (.lst [])=H0 at s0 mR;refine lZ<|ae 2 ⟨Ld,rfl,⟨_,ai.of<|s0 _ _ hD.lst⟩,?_⟩;refine l3 (xs:=ld.map V.ref) (λi σ H'=>∃(ms:List Str) (u4 u5 u6:Option V),aj H H'/\H' M=some (Ls ms)/\iH n i ms/\σ=[some<|.ref R,some<|.ref Lf,some<|.ref Ld,some<|.ref M,u4,u5,u6]) ⟨[],_,_,_,s0,mR,⟨rfl,λj y h=>by simp at h⟩,rfl⟩ ?_ ?_ ?_
 ·rintro i σ H' _ ⟨_,_,_,_,sm,_⟩;exact ai.of<|sm _ _ hD.lst
 ·rintro i x σ H1 hx ⟨ms,u4,u5,u6,sm,eM,iI,rfl⟩;rw [Ad,Ao] at hx;obtain⟨l,hl,rfl⟩:=hx;have ku:i < (aU<|ao n).length:=by have:=(Ac.mp hl).1;omega
  have hv:=Ab ku;have Hw:(aU<|ao n)[i]∈aU (ao n):=Bw ku;obtain⟨r,p,fr⟩:=QR hT hE Hw;have Q5:=hF.same sm;obtain⟨ts,el,pE⟩:=(hD.same sm).at' i l _ hl hv;generalize (aU<|ao n)[i]=v at hv pE fr;have lv:=fr.len;have i4:=fr.pl;have uK:=pE.1;have iT:(row n r).length<=60:=Cg (fY n r) iE;have Ny:=iI.1;refine bb 4 nd ?_;show Run _ _ _ [some<|.ref R,some<|.ref Lf,some<|.ref Ld,some<|.ref M,some<|.ref l,u5,u6] H1;refine zV 5 (aQ nV) vq lC 1 nd (dR bn)<|ae 4 ⟨l,rfl,⟨_,ai.of el⟩,λD sU=>?_⟩;refine iQ (xs:=ts.map V.ref) (λk σ' H'=>(∃ z,σ'=[some<|.ref R,some<|.ref Lf,some<|.ref Ld,some<|.ref M,some<|.ref l,u5,u6]++[z])/\aj H1 H'/\∃ us:List Addr,us.length=k/\H' D=some (.lst<|us.map V.ref)/\∀(j:Nat) u x,us[j]?=some u->v[j]?=some x->H1 u=some (TN n<|pf n x)) ⟨⟨none,rfl⟩,aP sU _,[],rfl,aw,λj u x h=>by simp at h⟩ ?_ ?_ ?_
  ·rintro k σ' H' _ ⟨_,cN,_⟩;exact ai.of<|cN _ _ el
  ·rintro k x σ' H' hx ⟨⟨z,rfl⟩,cN,us,kc,eD,c7⟩;rw [Ad,Ao] at hx;obtain⟨t,ht,rfl⟩:=hx;have gy:k < v.length:=by have:=(Ac.mp ht).1;omega
   have lD:=Ab gy;have gB:=pE.2 k t _ ht lD;have dI:=(fr.at' k _ lD).1;generalize v[k]=x at lD gB dI;obtain⟨y,hy⟩:=af.mp dI;have Uq:(ao n).length=(aU n).length:=by unfold ao;rw [mO]
   have ya:=cg hy;have et:=cN _ _ gB;unfold TN at et;rw [x9 ya] at et;obtain⟨lx,qY,u,a1,a2,a3,a4⟩:=stand dI Q5;intro cl C' s₀ H₀ ex;refine bb 7 Hv ?_;intro cl C' s₀ H₀ ex;refine dh<|bI ?_;intro cl C' s₀ H₀ ex;refine aS cf (aS cf<|ae 1<|lW QU T.kE JG<|ak<|vU Ke<|aS bW<|ae 7<|aB ⟨t,_,_,.str<|cu x.1,rfl,rfl,aJ.of et,rfl,vW<|aB ⟨1,rfl,vV ⟨cu x.1,rfl,small (by have:=(x8 x.1<|by omega).2;omega),aq ⟨_,(x.1:Int),rfl,Q0 x.1 (by omega),Q1 x.1 (by omega),Lf,_,_,.ref lx,rfl,rfl,ai.of<|cN _ _ Q5.lst,a1,?_⟩⟩⟩⟩);refine aS bW<|ae 7<|aB ⟨t,_,_,.int (x.2:Int),rfl,rfl,aJ.of et,rfl,lx,_,_,.ref u,rfl,rfl,ai.of<|cN _ _ a2,a3,_,eD,by rw [Aa];exact bU (by omega),⟨_,rfl⟩,c8 cN sU,us++[u],by rw [Ag,kc];rfl,by rw [aw,Ak];rfl,λj u' x' h1 h2=>?_⟩
   by_cases c:j < us.length
   ·rw [Aw c] at h1;exact c7 j u' x' h1 h2
   ·rw [Ba<|by omega] at h1;have dU:j - us.length=0:=by
     have:=(Ac.mp h1).1;simp at this;omega
    rw [dU] at h1;cases h1;rw [show j=k by omega,lD] at h2;cases h2;exact a4
  rintro σ' H2 ⟨_,s2,us,kc,eD,c7⟩;rw [Aa,uK] at kc;have Q6:∀ k,k < (row n r).length->∃ u,us[k]?=some u/\H2 u=some (Tn (nameAt n r) (((p+k) % (row n r).length:Nat):Int)):=λk hk=>by
   have h1:=Ab (show k < us.length by omega);have h2:=Ab (show k < v.length by omega);have h3:=c7 k _ _ h1 h2;rw [(fr.at' k _ h2).2] at h3;exact⟨_,h1,s2 _ _ h3⟩
  have xU:=s2 _ _ eM;show Run _ _ _ [some<|.ref R,some<|.ref Lf,some<|.ref Ld,some<|.ref M,some<|.ref l,some<|.ref D,u6] H2;refine aX 6 nd<|iL (aQ nV) vq lC 1 (dR bn)<|ae 5 ⟨D,rfl,⟨_,ai.of eD⟩,λG hG=>?_⟩;refine iQ (xs:=us.map V.ref) (λk σ' H'=>(∃ z,σ'=[some<|.ref R,some<|.ref Lf,some<|.ref Ld,some<|.ref M,some<|.ref l,some<|.ref D,u6]++[z])/\aj H2 H'/\H' G=some (Ls<|List.replicate k<|nameAt n r)) ⟨⟨none,rfl⟩,aP hG _,aw⟩ ?_ ?_ ?_
  ·rintro k σ' H' _ ⟨_,cN,_⟩;exact ai.of<|cN _ _ eD
  ·rintro k x σ' H' hx ⟨⟨z,rfl⟩,cN,eG⟩;have gy:=(Ac.mp hx).1;rw [Aa] at gy;rw [Ad,Ao] at hx;obtain⟨u,hu,rfl⟩:=hx;obtain⟨u',pc,eu⟩:=Q6 k (by omega);rw [hu] at pc;cases pc;intro cl C' s₀ H₀ ex;refine bb 7 Hv ?_;intro cl C' s₀ H₀ ex;refine dh<|bI ?_;intro cl C' s₀ H₀ ex;refine aS bW (ae 7<|aB ⟨u,_,_,.str<|nameAt n r,rfl,rfl,aJ.of<|cN _ _ eu,rfl,_,eG,by rw [Aa,Ci];exact bU (by omega),⟨_,rfl⟩,c8 cN hG,?_⟩);rw [aw,Q4];show _=some (HO.lst<|(List.replicate k (nameAt n r)++[nameAt n r]).map V.str);rw [Ak];rfl
  rintro σ' H3 ⟨_,s3,eG⟩;rw [Aa,kc,lv] at eG;have vg:=s2.trans s3;have eM3:=s3 _ _ xU;have eD3:=s3 _ _ eD;have lp:0 < (row n r).length:=by omega
  have hd:dG ((List.replicate (row n r).length<|nameAt n r).map V.str) ((0:Nat):Int)=some (.str<|nameAt n r):=sw (by rw [Ec,BP lp]);show Run _ _ _ [some<|.ref R,some<|.ref Lf,some<|.ref Ld,some<|.ref M,some<|.ref l,some<|.ref D,some<|.ref G] H3;refine cY (lX<|lY<|cD (qi un)<|ae 6<|cL<|aq ⟨Z0,λe0 vx=>⟨1,_,by decide,Nh (zs:=[]) ((aP vx<|.lst []) _ _ eG) aw,_,rfl,?_⟩⟩);rw [BR λh=>by have:=BX List.length h;rw [Ci] at this;exact absurd this<|by show(row n r).length≠0;omega];have s4:=aP vx<|.lst [];generalize upd H3 e0 (.lst [])=H4 at s4;have yb:=s4 _ _ eG;refine bp<|lY<|cD (mh un)<|ae 6<|iL (aQ nV) vq vt 1 (dR bn)<|ae 6 ⟨G,rfl,⟨_,ai.of yb⟩,λB hB=>?_⟩;refine iQ (xs:=(List.replicate (row n r).length<|nameAt n r).map V.str) (λk σ' H'=>(∃ z,σ'=[some<|.ref R,some<|.ref Lf,some<|.ref Ld,some<|.ref M,some<|.ref l,some<|.ref D,some<|.ref G]++[z])/\aj H4 H'/\H' B=some (Ls<|List.replicate k<|nameAt n r)) ⟨⟨none,rfl⟩,aP hB _,aw⟩ ?_ ?_ ?_
  ·rintro k σ' H' _ ⟨_,cN,_⟩;exact ai.of<|cN _ _ yb
  ·rintro k x σ' H' hx ⟨⟨z,rfl⟩,cN,eB⟩;have gy:=(Ac.mp hx).1;rw [Aa,Ci] at gy;intro cl C' s₀ H₀ ex;refine bb 7 q7q ?_;intro cl C' s₀ H₀ ex;refine dh<|bI ?_;intro cl C' s₀ H₀ ex;refine aS cf (ae 6<|aB ⟨G,_,_,.str<|nameAt n r,rfl,rfl,ai.of<|cN _ _ yb,hd,_,eB,by rw [Aa,Ci];exact bU (by omega),⟨_,rfl⟩,c8 cN hB,?_⟩);rw [aw,Q4];show _=some (HO.lst<|(List.replicate k (nameAt n r)++[nameAt n r]).map V.str);rw [Ak];rfl
  rintro σ' H5 ⟨_,s5,eB⟩;rw [Aa,Ci] at eB;have yc:=s4.trans s5;have yd:=s5 _ _ yb;have eM5:=yc _ _ eM3;refine⟨1,true,by decide,Oh yd eB,_,rfl,bp<|qb<|cD T7<|aS cf<|ae 6<|aB ⟨G,_,_,.str<|nameAt n r,rfl,rfl,ai.of yd,hd,ae 3 ⟨M,_,rfl,.inl<|ai.of eM5,rfl,Xj _,_,rfl,?_⟩⟩⟩;have fF:∀(x y:Bool),(if false=true then x else y)=y:=λ_ _=>rfl;have cd:∀(zs:List Str) (z:Str),z∉zs->zs.contains z=false:=λzs z h=>Fd.mpr λq=>h<|Do.mp q;rw [fF,Xi,cd _ _<|iI.new hT hN hE hv fr];refine bp<|a8 ?_;have Q7:=vg.trans yc;have kX:=yc _ _ eD3;have P1:=sm.trans Q7;refine cY<|kh<|nr<|bK GT hr<|ak<|ae 0<|ak<|aS cf<|ae 6<|aB ⟨G,_,_,.str<|nameAt n r,rfl,rfl,ai.of yd,hd,ak<|iL (aQ nV) vq lC 1 (dR bn)<|ae 5 ⟨D,rfl,⟨_,ai.of kX⟩,λB2 Q8=>?_⟩⟩;refine iQ (xs:=us.map V.ref) (λk σ' H'=>(∃ z,σ'=[some<|.ref R,some<|.ref Lf,some<|.ref Ld,some<|.ref M,some<|.ref l,some<|.ref D,some<|.ref G]++[z])/\aj H5 H'/\H' B2=some (Li<|(List.range k).map λj=>(p+j) % (row n r).length)) ⟨⟨none,rfl⟩,aP Q8 _,aw⟩ ?_ ?_ ?_
  ·rintro k σ' H' _ ⟨_,cN,_⟩;exact ai.of<|cN _ _ kX
  ·rintro k x σ' H' hx ⟨⟨z,rfl⟩,cN,ye⟩;have gy:=(Ac.mp hx).1;rw [Aa] at gy;rw [Ad,Ao] at hx;obtain⟨u,hu,rfl⟩:=hx;obtain⟨u',pc,eu⟩:=Q6 k (by omega);rw [hu] at pc;cases pc;intro cl C' s₀ H₀ ex;refine bb 7 Hv ?_;intro cl C' s₀ H₀ ex;refine dh<|bI ?_;intro cl C' s₀ H₀ ex;refine aS bW (ae 7<|aB ⟨u,_,_,_,rfl,rfl,aJ.of<|cN _ _<|(s3.trans yc) _ _ eu,rfl,_,ye,by rw [Aa,Aa,Db];exact bU (by omega),⟨_,rfl⟩,c8 cN Q8,?_⟩);rw [aw,Dx,Ak];show _=some (HO.lst<|(List.map _ (List.range k)++[(p+k) % (row n r).length]).map λ(z:Nat)=>V.int (z:Int));rw [Ak];rfl
  rintro σ' H6 ⟨_,s6,ye⟩;rw [Aa,kc,lv] at ye;have Q9:=Q7.trans s6;refine aq ⟨R,B2,as,n,r,p,rfl,hR.same<|sm.trans Q9,hN,by omega,fr.lt,i4,by omega,ye,λH7 s7=>⟨true,rfl,bp<|a8 ?_⟩⟩;have Ra:=Q9.trans s7;have Rb:=Ra _ _ eM;have eG7:=(s6.trans s7) _ _ yd;refine gR (je<|ae 3 ⟨M,rfl,⟨_,Rb⟩,aS cf<|ae 6<|aB ⟨G,_,_,.str<|nameAt n r,rfl,rfl,ai.of eG7,hd,_,Rb,by rw [Aa];exact bU (by omega),?_⟩⟩);refine a8 ⟨ms++[nameAt n r],_,_,_,c8 (sm.trans Ra) hM,?_,iI.step hv fr,rfl⟩;rw [aw];show _=some (HO.lst<|(ms++[nameAt n r]).map V.str);rw [Ak];rfl
 ·rintro σ H1 ⟨ms,u4,u5,u6,sm,eM,iI,rfl⟩;rw [Aa] at iI;have Ny:=iI.1;refine bT<|ja i0<|bL cm T.len CP<|ak<|ae 3<|aq ⟨M,_,rfl,.inl<|ai.of eM,bL cm T.len CP<|ak<|ae 0<|aq ⟨R,_,rfl,.inl<|ai.of<|sm _ _ hR.lst,rfl,?_⟩⟩;rw [Aa,Aa,BW<|BX V.int<|by omega];exact q _ sm
end
end F3
namespace Nt
open PySem L2 Classical
theorem Hx(nm:Str):aU [(nm,[])]=[[]]:=by
 unfold aU;rw [BP (show ends [(nm,[])]=[] from rfl)]
theorem Hy(nm:Str):ao [(nm,[])]=[(cu 0,[])]:=by
 unfold ao;rw [Hx];rfl
structure pF(n:Net):Prop where
 Hz:cH<|ao n
 pos:0 < (ao n).length
 len:(ao n).length=(aU n).length
 fl:(aU<|ao n).length=n.length
 eu:2 * ((ao n).length+n.length)=(ag n).length+4
theorem k5i{n:Net}(T:ay n)(F:Full n)(hf:HF n)(hN:(xY n).Nodup):pF n:=by
 have ln:(ao n).length=(aU n).length:=by unfold ao;rw [mO]
 have eu:=C2 T F hf.2.1
 rcases id F with ⟨nm,rfl⟩ | ⟨h0,hr⟩
 ·have e:=Hy nm;refine⟨by rw [e];exact Nb _,by rw [e];decide,ln,?_,by rw [ln];omega⟩;rw [e,Hx];rfl
 ·have h0:0 < n.length:=By.mpr h0;have hE:ends n≠[]:=λk=>by
   have h1:=fm n;have h2:=fY n 0;have h3:=By.mpr<|hr 0 h0;rw [k] at h1;simp at h1;omega
  have T':=eX T;have rU:=q72 T F hf hN h0 hE hr;have g:=qA T hE;have fp:∀ w∈aU n,w≠[]:=λw hw k=>by
   obtain⟨e,_,h2,he,_⟩:=g.face w hw;have:=(jo T he).pos;rw [<- h2,k] at this;cases this
  have pos:0 < (ao n).length:=by
   rw [ln];refine By.mpr λk=>?_;obtain⟨e,he⟩:=Fn _ hE
   rcases g.cov e he with q | ⟨w,hw,_⟩
   ·cases q
   ·rw [k] at hw;cases hw
  have F':Full (ao n):= .inr ⟨By.mp pos,λi hi k=>by
   rw [qS,Ab (by omega),Fm,List.map_eq_nil_iff] at k;exact fp _ (Bw _) k⟩
  have eu':=C2 T' F' rU.2.1;have tl:=(lB T).length_eq;exact⟨rU.1,pos,ln,by omega,by omega⟩
end Nt
namespace F3
open PySem L2 Nt bM bD
open PyProof.Rows (sortedS)
open Classical
theorem q8v{X:Cx}{P:Program}{w:World}:m8 (XF P w) X (λ_ _ _=>False):=λ_ _ _ _ _ _ _ h=>by
 obtain⟨_,_,_,_,_,h,_⟩:=h;exact h.elim
def yf(K:PySem.W.Frag):Sp:=λvs H Q _=>∃(a:Addr) (ns:List Int),vs=[.ref a]/\ai K H a (ns.map V.int)/\ns.length<=63/\∀ H',Q (.bl true) H'
theorem q0q{n:Net}(T:ay n)(o:pF n)(h40:(aU n).length < 40)(iE:(ag n).length<=60)(mG:∀ z∈ag n,∃ b v,z=aA b v):Good (ao n):=by
 have tl:=(lB T).length_eq;have ol:=o.len;refine⟨eX T,k7t (by omega),o.pos,by omega,by omega,λx hx=>?_,λz hz=>?_⟩
 ·obtain⟨i,hi,rfl⟩:=Zk hx;have:=x9 hi;rw [show aF (ao n) i=nameAt (ao n) i from rfl,this];exact x8 i<|by omega
 ·obtain⟨b,v,rfl⟩:=mG z<|(lB T).mem_iff.mp hz;exact q5c b v
theorem q8c{n:Net}(T:ay n)(hg:cH n)(h0:0 < n.length):mS n:=q14 T hg h0 λe z h=>Rt.step h<|fj h
theorem q3q{n:Net}(T:ay n)(o:pF n){ss:List Str}(nd:ss.Nodup)(hm:∀ z,z∈ss↔z∈ag (ao n)):Flt (ao n) ss:=by
 have T':=eX T;have h1:=Zt T' nd λz hz=>(hm z).mp hz;have tl:=(lB T).length_eq;have eu:=o.eu;have fl:=o.fl;have h2:(ag<|ao n).length<=2 * ss.length:=by
  have:=DB (a:=ss) nd<|ag<|ao n;have e:(ag<|ao n).filter (λz=>ss.contains z)=ag (ao n):=List.filter_eq_self.mpr λz hz=>Do.mpr<|(hm z).mpr hz;rw [e] at this;have e2:ss.map (λz=>(ag<|ao n).count z)=ss.map λ_=>2:=Bp λz hz=>T' z<|(hm z).mp hz;rw [e2,List.map_const',List.sum_replicate_nat] at this;omega
 unfold Flt;rw [fl];omega
section
variable{P:Program}{w:World}{K:PySem.W.Frag}{mg:Str->Option Value}{base:Heap}
theorem k5y{H:Hp}{a b c:Addr}{nm:Str}(h1:H a=some (.lst [.ref b]))(h2:H b=some (.tup [.str nm,.ref c]))(h3:H c=some (.lst [])):ah H a [(b,c)] [(nm,[])]:=by
 refine⟨rfl,h1,λi x r hx hr=>?_,Bq.mpr ⟨Cb,Cp⟩⟩
 match i with
 | 0=>cases hx;cases hr;exact⟨h2,h3⟩
 | i+1=>simp at hx
abbrev NW:List Str:=["_law_script","_law_big_here","_law_rows","_law_handed","_law_dual","_law_faces","_law_duals","_law_back","_law_k","_law_names_here"]
abbrev Rc:List Str:=["_law_script","_law_big_here","_law_rows","_law_handed","_law_dual","_law_faces","_law_duals","_law_back","_law_k","_law_names_here","_law_end"]
theorem mV:al NW ["_law_script"] (aQ iu):=⟨rfl,rfl,rfl,by decide +kernel,rfl,by decide +kernel,by decide +kernel⟩
theorem q9i:Rc.Nodup:=by decide +kernel
theorem q8g{f:Addr}{fd:FuncData}{c:Str->Addr}(F:bH K "law" "law" iu f fd)(T:Txt mg)(cl:Cl K mg c)(GC:aV P w K mg base 7 "_law_cell_at" ["_law_script","_law_k"]<|wJ K)(GB:aV P w K mg base 7 "_law_big" ["_law_script","_law_at"]<|BH K)(GN:aV P w K mg base 7 "_law_net_by" ["_law_big_here","_law_most","_law_stem"] DZ)(GY:aV P w K mg base 7 "_law_copy" ["_law_rows"] D8)(GO:aV P w K mg base 7 "other_net" ["rows"] FV)(GV:gH P w K mg base 7 "vet" ["rows"]<|G0 c)(GT:aV P w K mg base 7 "ties_of" ["rows"] lz)(GF:aV P w K mg base 7 "faces_of" ["rows"] uD)(GP:aV P w K mg base 7 "_law_points" ["_law_rows","_law_faces","_law_duals"] Hu):aE P w K mg base bJ 8 f fd ["_law_script"] (yf K):=by
 refine F.gb mV (λvs H Q E h=>?_) λb0 H vs Q E hr h=>?_
 ·obtain⟨a,ns,rfl,_⟩:=h;rfl
 obtain⟨a,ns,rfl,hS,h63,q⟩:=h;have nd:=mV.nd;have un:=hr.gm;show Run _ _ _ [some<|.ref a,none,none,none,none,none,none,none,none,none] H;refine aX 1 nd (bK GB hr<|ak<|ae 0<|ak<|aB<|aq ⟨a,ns,0,rfl,hS,by decide,λb H1 s1=>?_⟩);refine aX 2 nd (bK GN hr<|ak<|aW gM<|ae 1<|aB ⟨_,_,rfl,rfl,⟨by decide,by decide⟩,?_⟩);refine ak (aB<|ak<|aW d9<|aW cT<|ae 1<|aB ⟨_,_,rfl,rfl,(by show(0:Int) < 97;decide),bK GC hr<|ak<|ae 0<|ak<|aB<|aq ⟨a,ns,9,rfl,s1.seq hS,by decide,λc9=>⟨_,_,rfl,rfl,?_⟩⟩⟩);refine aq ⟨_,16,_,rfl,by decide,by decide,λR as n H2 s2 n2 hR hT hN hF hHF iE FL has mG=>?_⟩;have e16:((16:Int)).toNat=16:=rfl;rw [e16] at iE FL;have of:=k5i hT hF hHF hN;have oeu:=of.eu;have ol:=of.len;have ofl:=of.fl;have h0:0 < n.length:=By.mpr hF.some;have tl:=(lB hT).length_eq;have T':=eX hT;have g:=q0q hT of (by omega) (by omega) mG;have few:∀{m:Net},(ag m).length<=60->∀ zs:List Str,zs.Nodup->(∀ z∈zs,z∈ag m)->zs.length < 64:=λ{m} h zs h1 h2=>by have:=aK h1 h2;omega
 show Run _ _ _ [some<|.ref a,some<|.int b,some<|.ref R,none,none,none,none,none,none,none] H2;refine aX 3 nd (bK GY hr<|ak<|ae 2<|aq ⟨R,as,n,rfl,hR,by omega,λM bs H3 s3 n3 f3 hM=>?_⟩);refine aX 4 nd (bK GO hr<|ak<|ae 3<|aq ⟨M,bs,n,rfl,hM,hN,hT,by omega,by omega,λD cs H4 s4 n4 f4 hD _=>?_⟩);have kL:=hR.same<|s3.trans s4;have Rf:=hM.same s4;show Run _ _ _ [some<|.ref a,some<|.int b,some<|.ref R,some<|.ref M,some<|.ref D,none,none,none,none,none] H4;refine cY<|lX<|lY<|cD UX<|q40 GV hr q8v<|ak<|ae 4<|aq ⟨D,cs,ao n,rfl,hD,g,λk=>absurd (q8c T' of.Hz of.pos) k,λss snd mem=>⟨λ_ k=>absurd (q3q hT of snd mem) k,λ_ _ H5 s5=>kg ⟨true,true,rfl,rfl,_,rfl,bp ?_⟩⟩⟩;refine qb (cD (mh un)<|bK GT hr<|ak<|ae 4<|aq ⟨D,cs,ao n,rfl,hD.same s5,by omega,by omega,few (by omega),λt1 zs H6 s6 n6 e6 znd zso HH=>bK GT hr<|ak<|ae 3<|aq ⟨M,bs,n,rfl,(Rf.same s5).same s6,by omega,by omega,few (by omega),λt2 ys H7 s7 n7 e7 ynd yso HI=>?_⟩⟩);have ezy:zs=ys:=Nc (C8 zso znd) (C8 yso ynd) λz=>by rw [HH,HI,(lB hT).mem_iff]
 subst ezy;refine⟨1,true,by decide,Oh (s7 _ _ e6) e7,_,rfl,bp<|a8 ?_⟩;have HK:=s5.trans<|s6.trans s7;have Rg:=hD.same HK;have Rh:=Rf.same HK;have oE:=kL.same HK;refine aX 5 nd (bK GF hr<|ak<|ae 3<|aq ⟨M,bs,n,rfl,Rh,hN,hT,by omega,by omega,λLf lf H8 s8 n8 hLf fLf=>?_⟩);refine aX 6 nd (bK GF hr<|ak<|bK GY hr<|ak<|ae 4<|aq ⟨D,cs,ao n,rfl,Rg.same s8,by omega,λD2 cs2 H9 s9 n9 f9 jE=>aq ⟨D2,cs2,ao n,rfl,jE,g.names,T',by omega,by omega,λLd ld HA sA nA HL fLd=>?_⟩⟩);have HM:=s8.trans<|s9.trans sA;have yg:=Rg.same HM;have hMA:=Rh.same HM;have yh:=oE.same HM;have pG:=hLf.same<|s9.trans sA;have lRA:=yh.len;have lDA:=yg.len;have lLf:=pG.len;have lLd:=HL.len;show Run _ _ _ [some<|.ref a,some<|.int b,some<|.ref R,some<|.ref M,some<|.ref D,some<|.ref Lf,some<|.ref Ld,none,none,none] HA;refine cY<|lX<|lY<|cD pV<|bL cm T.len CP<|ak<|ae 4<|aq ⟨D,_,rfl,.inl<|ai.of yg.lst,bL cm T.len CP<|ak<|ae 5<|aq ⟨Lf,_,rfl,.inl<|ai.of pG.lst,rfl,_,rfl,?_⟩⟩;rw [Aa,Aa,BW<|BX V.int<|by omega];refine bp<|lY<|cD pV<|bL cm T.len CP<|ak<|ae 6<|aq ⟨Ld,_,rfl,.inl<|ai.of HL.lst,bL cm T.len CP<|ak<|ae 2<|aq ⟨R,_,rfl,.inl<|ai.of yh.lst,rfl,_,rfl,?_⟩⟩;rw [Aa,Aa,BW<|BX V.int<|by omega];refine bp (qb<|cD (mh un)<|ae 3<|ae 2 ⟨3,true,by decide,Zm hMA yh,_,rfl,bp<|a8 ?_⟩);refine aX 7 nd (bK GO hr<|ak<|bK GY hr<|ak<|ae 4<|aq ⟨D,cs,ao n,rfl,yg,by omega,λD3 cs3 HB sB nB fB hD3=>aq ⟨D3,cs3,ao n,rfl,hD3,g.names,T',by omega,by omega,λBk es HC sC nC fC Ri _=>?_⟩⟩);have yi:=sB.trans sC;have hDC:=yg.same yi;have HP:=yh.same yi;have HQ:=pG.same yi;have HR:=HL.same yi;have lBk:=Ri.len;have lob:(ao<|ao n).length=(aU<|ao n).length:=by show(cI _ _).length=_;rw [mO]
 show Run _ _ _ [some<|.ref a,some<|.int b,some<|.ref R,some<|.ref M,some<|.ref D,some<|.ref Lf,some<|.ref Ld,some<|.ref Bk,none,none] HC;obtain⟨r0,Nr,jz,qF,tK,x0g⟩:=HP.at h0;refine cY (cD (qi un)<|aS bW<|aS cf<|ae 2<|aB ⟨R,_,_,.ref r0.1,rfl,rfl,ai.of HP.lst,jz,aB ⟨r0.1,_,_,.ref r0.2,rfl,rfl,aJ.of qF,rfl,cL<|aq ⟨Z0,λe0 vx=>⟨1,_,by decide,Nh (zs:=[]) ((aP vx<|.lst []) _ _ tK) aw,_,rfl,?_⟩⟩⟩⟩);have sD:=aP vx<|.lst [];generalize upd HC e0 (.lst [])=HD at sD;have HU:=hDC.same sD;have lF:=HR.same sD;have HV:=HQ.same sD;have HZ:=Ri.same sD;have hRD:=HP.same sD
 rcases id hF with ⟨nm,mW⟩ | ⟨_,kZ⟩
 ·have er:row n 0=[]:=by rw [mW];rfl
  have eo:ao n=[(cu 0,[])]:=by rw [mW];exact Hy nm
  have eoo:ao (ao n)=[(cu 0,[])]:=by rw [eo];exact Hy _
  have ef:aU (ao n)=[[]]:=by rw [eo];exact Hx _
  have f0:cu 0=("f0" : Str):=by decide +kernel
  rw [eo,f0] at HU;rw [eoo,f0] at HZ;rw [ef] at lF;rw [BW er];have Rj:∀{H0:Hp} {p0 p1 p2:Addr},H0 p0=none->(upd H0 p0<|.lst []) p1=none->(upd (upd H0 p0<|.lst []) p1<|.tup [.str "f0",.ref p0]) p2=none->ah (upd (upd (upd H0 p0<|.lst []) p1<|.tup [.str "f0",.ref p0]) p2<|.lst [.ref p1]) p2 [(p1,p0)] [("f0",[])]/\aj H0 (upd (upd (upd H0 p0<|.lst []) p1<|.tup [.str "f0",.ref p0]) p2<|.lst [.ref p1]):=λ{H0 p0 p1 p2} h1 h2 h3=>by
   have a1:=aP h1<|.lst [];have a2:=aP h2<|.tup [.str "f0",.ref p0];have a3:=aP h3<|.lst [.ref p1];exact⟨k5y aw (a3 _ _ aw)<|a3 _ _<|a2 _ _ aw,(a1.trans a2).trans a3⟩
  refine bI<|bT<|zH<|ja (qi un)<|ae 4<|cL<|ak<|dH<|ak<|lV<|ak<|cL<|aq ⟨Z0,λp0 pD=>aq ⟨Z2,λp1 kQ=>aq ⟨Z1,λp2 ii=>?_⟩⟩⟩;obtain⟨r1,sE⟩:=Rj pD kQ ii;generalize upd (upd (upd HD p0<|.lst []) p1<|.tup [.str "f0",.ref p0]) p2 (.lst [.ref p1])=HE at r1 sE;refine⟨3,true,by decide,Og (HU.same sE) r1,true,rfl,bI ?_⟩;refine zH<|ja (qi un)<|ae 7<|cL<|ak<|dH<|ak<|lV<|ak<|cL<|aq ⟨Z0,λp0 pD=>aq ⟨Z2,λp1 kQ=>aq ⟨Z1,λp2 ii=>?_⟩⟩⟩;obtain⟨r2,sF⟩:=Rj pD kQ ii;generalize upd (upd (upd HE p0<|.lst []) p1<|.tup [.str "f0",.ref p0]) p2 (.lst [.ref p1])=HF at r2 sF;refine⟨3,true,by decide,Og ((HZ.same sE).same sF) r2,true,rfl,bI ?_⟩;have pH:=(lF.same sE).same sF;obtain⟨l,rfl⟩:∃ l,ld=[l]:=by
   have:=pH.len
   match ld,this with
   | [l],_=>exact⟨l,rfl⟩
  obtain⟨ts,el,c7⟩:=pH.at' 0 l [] rfl rfl;have:ts=[]:=Be.mp c7.1;subst this;refine Kk<|ja (qi un)<|ae 6<|cL<|ak<|cL<|aq ⟨Z0,λp0 pD=>aq ⟨Z1,λp1 kQ=>?_⟩⟩;have a1:=aP pD<|.lst [];have a2:=aP kQ<|.lst [.ref p0];have x1:(upd (upd HF p0<|.lst []) p1<|.lst [.ref p0]) p1=some (.lst [.ref p0]):=aw;have x0:(upd (upd HF p0<|.lst []) p1<|.lst [.ref p0]) p0=some (Ls []):=a2 _ _ aw;have sG:=a1.trans a2;generalize upd (upd HF p0<|.lst []) p1 (.lst [.ref p0])=HG at x1 x0 sG;have rc:=sr (X:=nF NW "law" (aQ iu) P w K mg base b0) (H:=HG) (k:=1) (λ_=>true) (ai.of<|sG _ _ pH.lst) (ai.of x1) rfl λj x y hx hy=>by
   match j with
   | 0=>cases hx;cases hy;exact oA<|tJ (zs:=[]) (sG _ _ el) x0
   | j+1=>simp at hx
  rw [kC] at rc;exact⟨2,true,by decide,rc,q _⟩
 ·rw [BR<|kZ 0 h0];have hE:ends (ao n)≠[]:=λk=>by
   have h1:=fm<|ao n;have h2:=fY n 0;have h3:=By.mpr<|kZ 0 h0;rw [k] at h1;simp at h1;rw [tl] at h1;omega
  refine bp (a8<|cY<|lX<|lY<|kh<|nr<|bK GP hr<|ak<|ae 2<|ak<|ae 5<|ak<|ae 6<|aq ⟨R,Lf,Ld,as,n,lf,ld,rfl,hRD,hN,hT,hE,by omega,by omega,by omega,ofl,HV,lF,λHE sE=>⟨true,rfl,bp ?_⟩⟩);have hDE:=HU.same sE;have pI:=lF.same sE;have Ia:=HZ.same sE;refine qb<|cD pV<|bL cm T.len CP<|ak<|ae 7<|aq ⟨Bk,_,rfl,.inl<|ai.of Ia.lst,bL cm T.len CP<|ak<|ae 6<|aq ⟨Ld,_,rfl,.inl<|ai.of pI.lst,rfl,_,rfl,?_⟩⟩;rw [Aa,Aa,BW<|BX V.int<|by omega];refine bp (a8<|jO T.range<|bL cm T.len CP<|ak<|ae 7<|aq ⟨Bk,_,rfl,.inl<|ai.of Ia.lst,(es.length:Int),by rw [Aa],by omega,by omega,?_⟩);rw [Bm];refine jP (λi σ H'=>aj HE H'/\∃ u8 u9:Option V,σ=[some<|.ref a,some<|.int b,some<|.ref R,some<|.ref M,some<|.ref D,some<|.ref Lf,some<|.ref Ld,some<|.ref Bk,u8,u9]) ⟨aj.refl _,_,_,rfl⟩ ?_ ?_
  ·rintro i σ HF hi ⟨sm,u8,u9,rfl⟩;rw [Dw];have ku:i < (aU<|ao n).length:=by omega
   have hv:=Ab ku;have Hw:(aU<|ao n)[i]∈aU (ao n):=Bw ku;obtain⟨r,p,fr⟩:=QR hT hE Hw;have Ib:=Ab (show i < ld.length by omega);generalize ld[i]'(by omega)=l at Ib;obtain⟨ts,el,pE⟩:=(pI.same sm).at' i l _ Ib hv;generalize (aU<|ao n)[i]=v at hv pE fr;have uK:=pE.1;have lv:=fr.len;have iT:(row n r).length<=60:=Cg (fY n r) (by omega);have Rk:=hDE.same sm;refine bb 8 nd ?_;show Run _ _ _ [some<|.ref a,some<|.int b,some<|.ref R,some<|.ref M,some<|.ref D,some<|.ref Lf,some<|.ref Ld,some<|.ref Bk,some<|.int (i:Int),u9] HF;refine zV 9 (aQ iu) NW Rc 1 nd (dR bn) (aS cf<|ae 6<|ae 8 ⟨Ld,_,_,.ref l,rfl,rfl,ai.of<|(pI.same sm).lst,i5 (by rw [Ad,Ib];rfl),l,rfl,⟨_,ai.of el⟩,λA hA=>?_⟩);refine iQ (xs:=ts.map V.ref) (λk σ' H'=>(∃ z,σ'=[some<|.ref a,some<|.int b,some<|.ref R,some<|.ref M,some<|.ref D,some<|.ref Lf,some<|.ref Ld,some<|.ref Bk,some<|.int (i:Int),u9]++[z])/\aj HF H'/\H' A=some (Ls<|(v.take k).map<|cM<|ao n)) ⟨⟨none,rfl⟩,aP hA _,aw⟩ ?_ ?_ ?_
   ·rintro k σ' H' _ ⟨_,cN,_⟩;exact ai.of<|cN _ _ el
   ·rintro k x σ' H' hx ⟨⟨z,rfl⟩,cN,eA⟩;rw [Ad,Ao] at hx;obtain⟨t,ht,rfl⟩:=hx;have gy:k < v.length:=by have:=(Ac.mp ht).1;omega
    have lD:=Ab gy;have gB:=pE.2 k t _ ht lD;have dI:=(fr.at' k _ lD).1;have pj:v.take (k+1)=v.take k++[v[k]]:=by rw [Cj,lD];rfl
    rw [pj];generalize v[k]=x at lD gB dI;obtain⟨y,hy⟩:=af.mp dI;have ya:=cg hy;have et:=cN _ _ gB;unfold TN at et;rw [x9 ya] at et;obtain⟨rb,erb,pJ,yj,yk,Ic⟩:=(Rk.same cN).at ya;intro cl C' s₀ H₀ ex;refine bb 10 q9i ?_;intro cl C' s₀ H₀ ex;refine dh<|bI ?_;intro cl C' s₀ H₀ ex;refine aS cf (aS bW<|aS cf<|ae 4<|lW QU T.kE JG<|ak<|vU Ke<|aS bW<|ae 10<|aB ⟨t,_,_,.str<|cu x.1,rfl,rfl,aJ.of et,rfl,vW<|aB ⟨1,rfl,vV ⟨cu x.1,rfl,small (by have:=(x8 x.1<|by omega).2;omega),aq ⟨_,(x.1:Int),rfl,Q0 x.1 (by omega),Q1 x.1 (by omega),D,_,_,.ref rb.1,rfl,rfl,ai.of (Rk.same cN).lst,pJ,aB ⟨rb.1,_,_,.ref rb.2,rfl,rfl,aJ.of yj,rfl,?_⟩⟩⟩⟩⟩);refine aS bW<|ae 10<|aB ⟨t,_,_,.int (x.2:Int),rfl,rfl,aJ.of et,rfl,rb.2,_,_,.str y,rfl,rfl,ai.of yk,sw hy,_,eA,?_,⟨_,rfl⟩,c8 cN hA,?_⟩
    ·rw [Aa,Aa,Bo];exact bU<|by omega
    ·rw [aw,Ak];show _=some (HO.lst<|(List.map (cM<|ao n) (v.take k)++[cM (ao n) x]).map V.str);rw [Ak,wU hy];rfl
   rintro σ' HG ⟨_,sG,eA⟩;rw [Aa,uK,Ca] at eA;have Rl:=sm.trans sG;have Rm:=Ia.same Rl;have Ie:i < (ao<|ao n).length:=by omega
   obtain⟨rb,erb,pJ,yj,yk,Ic⟩:=Rm.at Ie;have nm1:(ao<|ao n)[i].1=cu i:=by rw [<- mJ Ie];exact x9 Ie
   rw [nm1] at yj;have w6:row (ao<|ao n) i=v.map (cM<|ao n):=by rw [qS,hv];rfl
   rw [w6] at yk;show Run _ _ _ [some<|.ref a,some<|.int b,some<|.ref R,some<|.ref M,some<|.ref D,some<|.ref Lf,some<|.ref Ld,some<|.ref Bk,some<|.int (i:Int),some<|.ref A] HG;have li:=(x8 i<|by omega).2;refine cY<|cD (mh un)<|aS cf<|ae 7<|ae 8 ⟨Bk,_,_,.ref rb.1,rfl,rfl,ai.of Rm.lst,pJ,dH<|ak<|aW Jm<|lV<|lW k4z T.sM TV<|ak<|ae 8<|aq ⟨(i:Int),rfl,PH (by omega),⟨_,_,rfl,rfl,?_,ak<|ae 9<|aq ⟨Z2,λtp htp=>?_⟩⟩⟩⟩
   ·unfold cu at li;rw [Str.length_append] at li;exact small<|by show(Str.ofString "f").length+_<=_;omega
   have s8:=aP htp<|.tup [.str<|cu i,.ref A];have etp:(upd HG tp<|.tup [.str<|cu i,.ref A]) tp=some (.tup [.str<|cu i,.ref A]):=aw;have rn:=AO (X:=nF NW "law" (aQ iu) P w K mg base b0) (H:=upd HG tp<|.tup [.str<|cu i,.ref A]) (k:=1) (λ_=>true) (aJ.of<|s8 _ _ yj) (aJ.of etp) rfl λj x y hx hy=>by
    match j with
    | 0=>cases hx;cases hy;exact oz _
    | 1=>cases hx;cases hy;exact oA<|tJ (s8 _ _ yk)<|s8 _ _ eA
    | j+2=>simp at hx
   rw [kC] at rn;exact⟨2,true,by decide,rn,_,rfl,bp<|a8<|a8 ⟨Rl.trans s8,_,_,rfl⟩⟩
  ·rintro σ HF ⟨sm,u8,u9,rfl⟩;exact bT<|kg<|q _
end
end F3
namespace F3
open PySem L2 Nt
theorem all_mk{l:PySem.W.OpenLaw}{w:World}{K:PySem.W.Frag}{h:Heap}{mg:Str->Option Value}{fa:Addr}(X:K.In h)(G:h.Ns mainGlobals mg)(zX:mg "law" = some (.ref fa))
  (h1:Df K "ends_round" wy) (h2:Df K "ends_in_order" wz) (h3:Df K "turned_left" A0) (h4:Df K "other_ends" A1) (h5:Df K "ties_by_end" wA) (h6:Df K "left_steps" wB) (h7:Df K "faces_of" A2) (h8:Df K "face_from" A3) (h9:Df K "other_net" nQ) (Ig:Df K "is_name" wC) (Ih:Df K "vet" A4) (Ii:Df K "has_good_points" mj) (Ij:Df K "has_good_ties" sK) (Ik:Df K "hangs_together" wD) (Il:Df K "is_plane" A5) (Im:Df K "points_of" wF) (Io:Df K "ties_of" wG) (Ip:Df K "links_of" A6) (Iq:Df K "spread" A7) (Ir:Df K "_law_cell_at" A8) (Iu:Df K "_law_big" nR) (Iv:Df K "_law_names" A9) (Iw:Df K "_law_seats" BA) (Iy:Df K "_law_other" BD) (Iz:Df K "_law_step" BE) (IA:Df K "_law_face" BF) (IB:Df K "_law_put" nS) (IC:Df K "_law_net_by" nU) (IE:Df K "_law_copy" wH) (IG:Df K "_law_turned" wI) (IH:Df K "_law_points" nV) (hl:Df K "law" iu)
  {tk1 B':Tok} (s1:PySem.W.nsIn K mainGlobals "SIGNS" = some (some<|.str lets tk1)) (s2:PySem.W.nsIn K mainGlobals "LONGEST" = some (some<|.int 8 B'))
  (qc:GU K=true)
  (z:∀ x∈(["isinstance","tuple","str","int","bool","list","dict","set","enumerate","zip","len","range","sorted","max","all","ValueError"]:List Str),PySem.W.nsIn K mainGlobals x=some none) :
  ∃ fd:FuncData,(∀(s:Shared) (v:Value),BindsTo s fd ⟨[v],[]⟩ [("_law_script",v)])/\∀ base:Heap,K.In base->base.Ns mainGlobals mg->aE l.prog w K mg base bJ 8 fa fd ["_law_script"] (yf K):=by
 have T:Txt mg:=⟨CQ X G (z _<|by simp),CQ X G (z _<|by simp),CQ X G (z _<|by simp),CQ X G (z _<|by simp),CQ X G (z _<|by simp),CQ X G (z _<|by simp),CQ X G (z _<|by simp),CQ X G (z _<|by simp),CQ X G (z _<|by simp),CQ X G (z _<|by simp),CQ X G (z _<|by simp),CQ X G (z _<|by simp),CQ X G (z _<|by simp),CQ X G (z _<|by simp),CQ X G (z _<|by simp),CQ X G (z _<|by simp),⟨_,HY X G s1,_,rfl⟩,⟨_,HY X G s2,_,rfl⟩⟩;have cl:=q9l X G qc;refine hl.law X G zX (λ_ _ _ _ _ _ s v=> .of_eq rfl) λbase f fd F=>?_;have G1:aV l.prog w K mg base 1 "ends_round" ["row"] tX:=h1.has X G (λ_ _ _ _ _ _=>fc λ_=>rfl) λF=>q2b F T;have G2:aV l.prog w K mg base 2 "ends_in_order" ["rows"] EH:=h2.has X G (λ_ _ _ _ _ _=>fc λ_=>rfl) λF=>k88 F T (G1.mono<|by decide);have G3:aV l.prog w K mg base 1 "turned_left" ["end","many"] (oK λj=>j+1):=h3.has X G (λ_ _ _ _ _ _=>qd λ_ _=>rfl) λF=>q2j F T;have G4:aV l.prog w K mg base 2 "other_ends" ["rows"] oO:=h4.has X G (λ_ _ _ _ _ _=>fc λ_=>rfl) λF=>q9g F T (G1.mono<|by decide);have G5:aV l.prog w K mg base 2 "ties_by_end" ["rows"] oV:=h5.has X G (λ_ _ _ _ _ _=>fc λ_=>rfl) λF=>q9a F T (G1.mono<|by decide);have G6:aV l.prog w K mg base 3 "left_steps" ["rows"] (oX 1):=h6.has X G (λ_ _ _ _ _ _=>fc λ_=>rfl) λF=>q88 F T (G4.mono<|by decide) (G3.mono<|by decide);have G8:aV l.prog w K mg base 1 "face_from" ["steps","first"] o9:=h8.has X G (λ_ _ _ _ _ _=>qd λ_ _=>rfl) λF=>q8n F T;have G7:aV l.prog w K mg base 4 "faces_of" ["rows"] uD:=h7.has X G (λ_ _ _ _ _ _=>fc λ_=>rfl) λF=>q0j F T (G2.mono<|by decide) (G6.mono<|by decide) (G8.mono<|by decide);have G9:aV l.prog w K mg base 5 "other_net" ["rows"] FV:=h9.has X G (λ_ _ _ _ _ _=>fc λ_=>rfl) λF=>q35 F T (G5.mono<|by decide) (G7.mono<|by decide);have Rn:aV l.prog w K mg base 1 "is_name" ["thing"] (lu K):=Ig.has X G (λ_ _ _ _ _ _=>fc λ_=>rfl) λF=>q8m F T;have G16:aV l.prog w K mg base 1 "points_of" ["rows"] GA:=Im.has X G (λ_ _ _ _ _ _=>fc λ_=>rfl) λF=>k76 F T;have Ro:aV l.prog w K mg base 1 "ties_of" ["rows"] lz:=Io.has X G (λ_ _ _ _ _ _=>fc λ_=>rfl) λF=>q4m F T;have G18:aV l.prog w K mg base 1 "links_of" ["rows"] F1:=Ip.has X G (λ_ _ _ _ _ _=>fc λ_=>rfl) λF=>k8l F T;have G19:aV l.prog w K mg base 1 "spread" ["first","links"] F6:=Iq.has X G (λ_ _ _ _ _ _=>qd λ_ _=>rfl) λF=>k6u F T;have G14:aV l.prog w K mg base 2 "hangs_together" ["rows"] pA:=Ik.has X G (λ_ _ _ _ _ _=>fc λ_=>rfl) λF=>q8w F T (G18.mono<|by decide) (G19.mono<|by decide);have G12:aV l.prog w K mg base 2 "has_good_points" ["rows"] qP:=Ii.has X G (λ_ _ _ _ _ _=>fc λ_=>rfl) λF=>q8z F T (G16.mono<|by decide) (Rn.mono<|by decide);have G13:aV l.prog w K mg base 2 "has_good_ties" ["rows"] qP:=Ij.has X G (λ_ _ _ _ _ _=>fc λ_=>rfl) λF=>q9d F T (Rn.mono<|by decide);have G15:aV l.prog w K mg base 5 "is_plane" ["rows"] GW:=Il.has X G (λ_ _ _ _ _ _=>fc λ_=>rfl) λF=>k9e F T (Ro.mono<|by decide) (G7.mono<|by decide);have G11:gH l.prog w K mg base 6 "vet" ["rows"] (G0<|iX K):=Ih.Gy X G (λ_ _ _ _ _ _=>fc λ_=>rfl) λF=>q5m F T cl (G12.mono<|by decide) (G13.mono<|by decide) (G14.mono<|by decide) (G15.mono<|by decide);have Rq:aV l.prog w K mg base 1 "_law_cell_at" ["_law_script","_law_k"] (wJ K):=Ir.has X G (λ_ _ _ _ _ _=>qd λ_ _=>rfl) λF=>WZ F T;have G21:aV l.prog w K mg base 2 "_law_big" ["_law_script","_law_at"] (BH K):=Iu.has X G (λ_ _ _ _ _ _=>qd λ_ _=>rfl) λF=>W2 F T (Rq.mono<|by decide);have G22:aV l.prog w K mg base 1 "_law_names" ["_law_stem","_law_many"] BI:=Iv.has X G (λ_ _ _ _ _ _=>qd λ_ _=>rfl) λF=>W4 F T;have G23:aV l.prog w K mg base 1 "_law_seats" ["_law_rows"] BM:=Iw.has X G (λ_ _ _ _ _ _=>fc λ_=>rfl) λF=>W6 F T;have G24:aV l.prog w K mg base 1 "_law_other" ["_law_rows","_law_seats_here","_law_end"] BO:=Iy.has X G (λ_ _ _ _ _ _=>se λ_ _ _=>rfl) λF=>W7 F T;have G25:aV l.prog w K mg base 2 "_law_step" ["_law_rows","_law_seats_here","_law_end","_law_turn"] BQ:=Iz.has X G (λ_ _ _ _ _ _=>KA λ_ _ _ _=>rfl) λF=>W8 F T (G24.mono<|by decide);have G26:aV l.prog w K mg base 3 "_law_face" ["_law_rows","_law_seats_here","_law_end"] BU:=IA.has X G (λ_ _ _ _ _ _=>se λ_ _ _=>rfl) λF=>Xa F T (G25.mono<|by decide);have G27:aV l.prog w K mg base 4 "_law_put" ["_law_rows","_law_big_here","_law_tie","_law_point"] DF:=IB.has X G (λ_ _ _ _ _ _=>KA λ_ _ _ _=>rfl) λF=>Zz F T (G23.mono<|by decide) (G26.mono<|by decide);have G28:aV l.prog w K mg base 5 "_law_net_by" ["_law_big_here","_law_most","_law_stem"] DZ:=IC.has X G (λ_ _ _ _ _ _=>se λ_ _ _=>rfl) λF=>ZT F T (G22.mono<|by decide) (G27.mono<|by decide);have G29:aV l.prog w K mg base 1 "_law_copy" ["_law_rows"] D8:=IE.has X G (λ_ _ _ _ _ _=>fc λ_=>rfl) λF=>q4p F T;have G30:aV l.prog w K mg base 1 "_law_turned" ["_law_rows","_law_point","_law_places"] Ht:=IG.has X G (λ_ _ _ _ _ _=>se λ_ _ _=>rfl) λF=>q3d F T;have G31:aV l.prog w K mg base 2 "_law_points" ["_law_rows","_law_faces","_law_duals"] Hu:=IH.has X G (λ_ _ _ _ _ _=>se λ_ _ _=>rfl) λF=>q4x F T (G30.mono<|by decide);exact q8g F T cl (Rq.mono<|by decide) (G21.mono<|by decide) (G28.mono<|by decide) (G29.mono<|by decide) (G9.mono<|by decide) (G11.mono<|by decide) (Ro.mono<|by decide) (G7.mono<|by decide)<|G31.mono<|by decide
theorem walk{l:PySem.W.OpenLaw}{q:Program}{loose:List Str}{XP:(Str->Option Value)->Heap->Prop}{YP:World->Heap->Prop}{d:DefRec}{K:Params->PySem.W.Frag}(hn:l.most=some 63)(rM:d.params.defaults=[])
  (hY:∀(w:World) (h:Heap),YP w h->(K w.params).In h)
  (F : ∀ (w : World) (mg : Str → Option Value) (fa : Addr) (h : Heap), (K w.params).In h → h.Ns mainGlobals mg → mg d.name = some (.ref fa) →
   ∃ fd:FuncData,(∀(s:Shared) (u:Value),BindsTo s fd ⟨[u],[]⟩ [("_law_script",u)])/\∀ base:Heap,(K w.params).In base->base.Ns mainGlobals mg->aE l.prog w (K w.params) mg base bJ 8 fa fd ["_law_script"] (yf<|K w.params)) :
  PySem.W.WalkO q loose XP YP l.row.toRowW d [] (λf vs=>PySem.call f vs):=
 L2.ke (n:=63) (k:=8) (x:= "_law_script") (CX:=λ_=>bJ) (sp:=λw=>yf<|K w.params) hn (by decide) rM ⟨rfl,by decide,by decide⟩ hY F (λ_ _ a ns hl _ hS=>⟨a,ns,rfl,hS,hl,λ_=>rfl⟩) λ_ _ _ _ _ z=>z
end F3
-- see NOTE.md
namespace PySem.W.Fast
def tw1015703362712842817:=()
def tw10611296196061215389:=()
def tw10681606926134719866:=()
def tw11302190265378890656:=()
def tw11346831660889693985:=()
def tw11708611150439360024:=()
def tw11892907978411313275:=()
def tw12060575964070466566:=()
def tw12144315833467329325:=()
def tw12366241473957520566:=()
def tw12606636421132244861:=()
def tw12747682519520794563:=()
def tw12861073028184017099:=()
def tw12869565872634249520:=()
def tw13467079896010108861:=()
def tw13638258100495925862:=()
def tw13799433901285334339:=()
def tw14455753519629141067:=()
def tw14455896148856604720:=()
def tw14596121458217959944:=()
def tw14634777302653445177:=()
def tw1518616436772362527:=()
def tw15235864890539568508:=()
def tw1553000250186670209:=()
def tw15568534042683762829:=()
def tw15639186275587568362:=()
def tw15929188231211701941:=()
def tw16131942926042773399:=()
def tw16150183987269659812:=()
def tw16227424501707373373:=()
def tw16244518348416948718:=()
def tw16264774505751414995:=()
def tw163581170972469185:=()
def tw16516190726579534350:=()
def tw16537656591807157897:=()
def tw16564812211315393508:=()
def tw16729219736075080409:=()
def tw16962979166604876934:=()
def tw17016037727949307753:=()
def tw17043272732109810031:=()
def tw17122047135912602083:=()
def tw17174723426629660805:=()
def tw17318659434428002783:=()
def tw17332515618771727380:=()
def tw17336687947968653695:=()
def tw17354315329541838573:=()
def tw17425987264401948726:=()
def tw17484818410163435881:=()
def tw17773986746319027166:=()
def tw17954132158235635057:=()
def tw18038550617352909093:=()
def tw18065488446141991099:=()
def tw2161311120517964837:=()
def tw2281092010438922250:=()
def tw2386906673106433029:=()
def tw2556543692494697020:=()
def tw2589921454111379949:=()
def tw2616127723202495849:=()
def tw2868127913339823998:=()
def tw3472791146229851301:=()
def tw3702549180864299863:=()
def tw4148679352664574530:=()
def tw4291578052412797207:=()
def tw4394142780948548627:=()
def tw451813767800833981:=()
def tw4708270606788065505:=()
def tw4720278047974199892:=()
def tw4745049304505530524:=()
def tw4836683440002001051:=()
def tw4896649152436144959:=()
def tw4908339252142244519:=()
def tw4985999842681932527:=()
def tw5055101215937679218:=()
def tw5203463678296188356:=()
def tw5258524082601426253:=()
def tw5759452912141290628:=()
def tw5902233677475236986:=()
def tw6000371398005061945:=()
def tw619990128985061385:=()
def tw6265919465075143671:=()
def tw6463990165682801845:=()
def tw6608314224527963498:=()
def tw6739421829284254309:=()
def tw6790921833405135803:=()
def tw6994294568707306358:=()
def tw7030375435461435485:=()
def tw7408113659546667850:=()
def tw7444537548053483588:=()
def tw7637885697694637370:=()
def tw8067451789873511094:=()
def tw8232437925295721930:=()
def tw8449415773714602480:=()
def tw8808610875323994202:=()
def tw9003586471716106518:=()
def tw9233069443237431075:=()
def tw9535321476936068895:=()
def tw9566719354195066825:=()
def tw9834101467480730713:=()
end PySem.W.Fast
open PySem PySem.W PyProof.Rows
set_option maxRecDepth 100000 in
set_option maxHeartbeats 0 in
theorem PySem.Challenge.cw_threewebs_k13_whole_the_other_nets_other_holds : PySem.Challenge.rw_threewebs_k13_whole_the_other_nets_other.Holds := by
 w_on;o_law;k_head;(case hw=>w_witness2)
 k_fill
 refine F3.walk (l:=PySem.Challenge.rw_threewebs_k13_whole_the_other_nets_other) rfl rfl (λw h Y=>PySem.W.kIn_of Y) ?F
 case F=>
  intro w mg fa h KX G rO;refine' F3.all_mk KX G rO ?h1 ?h2 ?h3 ?h4 ?h5 ?h6 ?h7 ?h8 ?h9 ?Ig ?Ih ?Ii ?Ij ?Ik ?Il ?Im ?Io ?Ip ?Iq ?Ir ?Iu ?Iv ?Iw ?Iy ?Iz ?IA ?IB ?IC ?IE ?IG ?IH ?h0 ?s1 ?s2 ?qc ?zz
  case h1 | h2 | h3 | h4 | h5 | h6 | h7 | h8 | h9 | Ig | Ih | Ii | Ij | Ik | Il | Im | Io | Ip | Iq | Ir | Iu | Iv | Iw | Iy | Iz | IA | IB | IC | IE | IG | IH | h0=>refine' L2.rY ?a ?l ?c ?k;(case a=>k_is);(case l=>k_is);(case c=>k_is);(case k=>k_is)
  case s1=>k_is
  case s2=>k_is
  case qc=>kernel_rfl
  case zz=>
   refine' List.forall_mem_cons.mpr ⟨?_,?_⟩;k_is
   iterate 15 (refine' List.forall_mem_cons.mpr ⟨?_,?_⟩;k_is)
   exact λx hx=>nomatch hx

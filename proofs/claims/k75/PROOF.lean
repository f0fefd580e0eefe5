import PyProof.Rows.All
import Wide.All
import OpenK.AllK
import Wide.FinOn
import Lean
import PyProof.EqAt
import PyProof.EqKinds
import PyProof.TupleCall
import KE.KDictLaws
import KE.KDictList
import KE.KDictSum
import KE.KIsAll
import KE.KSortTup
import KE.KUnpack
import KE.KUnpackStar
import PyProof.AttrMissSeq
import PyProof.CallStr
import PyProof.ConsumeS
import PyProof.Conv_int_bool
import PyProof.DictItems
import PyProof.DictIter
import PyProof.DictList
import PyProof.EnumFor
import PyProof.EnumMake
import PyProof.EnumStmt
import PyProof.ExcArgsOwn
import PyProof.ExcAttrAll.ValueError
import PyProof.ExcBaseAll.ValueError
import PyProof.FitsInt
import PyProof.NeKinds
import PyProof.NsDelKeeps
import PyProof.Rows.CatchOwn
import PyProof.Rows.CountFlat
import PyProof.Rows.EnumRows
import PyProof.Rows.FStr
import PyProof.Rows.SeqMore
import PyProof.Rows.SortRev
import PyProof.Rows.StrSplitJoin
import PyProof.Rows.StrWeight2
import PyProof.Rows.TupDisplay
import PyProof.RulesTry
import PyProof.SetNew
import PyProof.SetRoads
import PyProof.StationsW
import PyProof.StrOps
import PyProof.TupleKey
import PyProof.WalkInts
import PyProof.WalksS
import PyProof.ZipIter
import PySem.Challenge.RW_threewebs_k75_whole_out_here_is_shrunk_t
abbrev BJ:=@PySem.wpAny_bind
abbrev BK:=@if_neg
abbrev BL:=@if_pos
abbrev BP:=@PySem.wpAny_pure
abbrev BR:=@decide_eq_true
abbrev BW:=@decide_eq_false
abbrev BX:=@Classical.byContradiction
abbrev BZ:=@congrArg
abbrev CG:=@of_decide_eq_true
abbrev CJ:=@PySem.W.mg_none_of
abbrev CK:=@PySem.wpAny_mono
abbrev CN:=@decide_eq_true_eq
abbrev CP:=@PySem.wpAny_holding
abbrev CQ:=@PySem.mem_of_lookup
abbrev CT:=@PySem.boot_len
abbrev CV:=@PySem.sizeLine_eq
abbrev CW:=@if_false
abbrev CZ:=@PySem.F.plainAttrs_list
abbrev DG:=@PySem.wpAny_setField
abbrev DK:=@PySem.Around.under_plainId
abbrev DN:=@PySem.wpAny_loadPart'
abbrev DQ:=@PySem.Heap.SameBut.update
abbrev DR:=@decide_eq_true_iff
abbrev DW:=@if_true
abbrev DX:=@PySem.wpAny_setState_of
abbrev DY:=@PyProof.Rows.wpS_bind
abbrev EY:=@Prod.ext
abbrev FJ:=@PySem.wpAny_truthy_bool
abbrev FN:=@PySem.codeAny_builtin
abbrev FP:=@PySem.plainId_quiet
abbrev FQ:=@PySem.wpAny_call_entry
abbrev FT:=@PyProof.Rows.boot_sorted
abbrev FW:=@PySem.wpAny_newObj_type
abbrev FZ:=@PySem.wpAny_standAt
abbrev GD:=@PySem.F.plain_min_loop
abbrev GX:=@PySem.wpAny_passesOwn
abbrev GZ:=@PySem.wpAny_newList
abbrev HJ:=@PyProof.Rows.listUpdate_at
abbrev HN:=@bne_self_eq_false
abbrev HS:=@PySem.wpAny_Call_Name_kw
abbrev HW:=@PySem.wpAny_rule
abbrev HX:=@of_decide_eq_false
abbrev HY:=@PySem.wpAny_pyNext_list_item
abbrev IK:=@PySem.W.cellsFrom_some
abbrev IV:=@PyProof.Rows.wpS_pure
abbrev IW:=@PyProof.Rows.seqEpoch_at
abbrev JB:=@PySem.wpAny_seqItems
abbrev JC:=@PySem.Obj.isFreed_of_fields
abbrev JD:=@PySem.call_meets
abbrev JF:=@PySem.PassesOwn.never
abbrev JG:=@PySem.wpAny_updateSeq
abbrev JH:=@PySem.Calls.call_function_entry
abbrev JK:=@PySem.W.KasT.kasWp_bind
abbrev JL:=@PySem.tupleKind_room_in1
abbrev JM:=@PySem.wpAny_comprehension_free
abbrev JN:=@PyProof.Rows.listItems_at
abbrev JQ:=@PySem.Obj.data_mapFields
abbrev JR:=@PySem.wpAny_tryCatch
abbrev JT:=@List.eraseIdx_append_of_lt_length
abbrev JV:=@PyProof.Rows.boot_list
abbrev JW:=@PySem.W.mg_of
abbrev JX:=@PySem.wpAny_askSetting
abbrev JZ:=@or_false
abbrev KC:=@PySem.wpAny_pyNext_list_end
abbrev KD:=@PySem.builtinLookup_eq_fast
abbrev KH:=@PySem.F.slot_list_pop
abbrev KJ:=@PySem.F.type_list_pop
abbrev KN:=@List.eraseIdxIfInBounds_toArray
abbrev KQ:=@PyProof.Rows.assignInOrder_cons
abbrev KR:=@PySem.wpAny_typeOf
abbrev KY:=@PyProof.Rows.wpS_forRange
abbrev KZ:=@PySem.F.slot_list_lt
abbrev LC:=@PySem.wpAny_setEntries_of
abbrev LK:=@PySem.wpAny_newTuple
abbrev LQ:=@List.countP_eq_length_filter
abbrev LR:=@PySem.F.slot_dict_setdefault
abbrev MF:=@PySem.F.type_dict_setdefault
abbrev MJ:=@PySem.wpAny_field
abbrev MK:=@PyProof.Rows.callWith_type1
abbrev MN:=@List.lookup_append
abbrev MP:=@List.zipIdx_append
abbrev NK:=@List.sublist_flatten_of_mem
abbrev NQ:=@PyProof.Rows.sortedAll_old
abbrev NZ:=@PySem.wpAny_pyIter_list
abbrev OD:=@Option.isSome_map
abbrev OJ:=@Nat.lt_of_succ_lt
abbrev PB:=@PySem.Str.length_append
abbrev PJ:=@Array.getElem?_eq_getElem
abbrev PK:=@PyProof.Rows.size_push'
abbrev PL:=@List.perm_append_left_iff
abbrev PN:=@List.getElem?_zip_eq_some
abbrev PX:=@List.getElem?_eq_none_iff
abbrev QB:=@List.count_replicate_self
abbrev QC:=@Iff.rfl
abbrev QD:=@PySem.codeAny_mono
abbrev QF:=@Nat.le_of_not_lt
abbrev QG:=@PySem.Heap.size_update
abbrev QJ:=@Nat.le_total
abbrev QK:=@List.Perm.eq_nil
abbrev QL:=@Bool.not_eq_true
abbrev QM:=@PySem.F.slot_list_insert
abbrev QS:=@PySem.F.type_list_insert
abbrev QT:=@List.map_snd_zip
abbrev QV:=@PySem.F.entry_min_loop
abbrev QW:=@List.eraseIdx_cons_succ
abbrev QX:=@decide_eq_false_iff_not
abbrev QZ:=@PySem.F.plainAttrs_dict
abbrev RB:=@List.pairwise_singleton
abbrev RG:=@List.filter_cons_of_pos
abbrev RJ:=@PySem.F.slot_list_index
abbrev RK:=@PySem.wpAny_execs_nil
abbrev RL:=@List.of_mem_zip
abbrev RM:=@PySem.typeLookup_type
abbrev RN:=@List.nil_append
abbrev RP:=@List.getElem?_set_self
abbrev RQ:=@List.range_succ_eq_map
abbrev RT:=@PySem.F.args_list_lt_2
abbrev RV:=@PySem.wpAny_letGo
abbrev RW:=@List.getElem?_toArray
abbrev RX:=@PyProof.Rows.boot_int
abbrev RZ:=@PyProof.Rows.boot_max
abbrev SJ:=@List.eq_nil_or_concat
abbrev SM:=@List.concat_eq_append
abbrev SN:=@PySem.ofString_length
abbrev SQ:=@PySem.F.entry_list_lt
abbrev TF:=@Classical.choose_spec
abbrev TJ:=@List.map_take
abbrev TV:=@List.map_drop
abbrev TX:=@List.map_nil
abbrev TY:=@Nat.sub_zero
theorem Z0:0<=PySem.sizeLine:=by decide
theorem Z2:2<=PySem.sizeLine:=by decide
theorem Z1:1<=PySem.sizeLine:=by decide
set_option Elab.async false
set_option linter.all false
set_option maxRecDepth 100000
set_option maxHeartbeats 4000000
abbrev Aa:=@List.length_map
abbrev Ab:=@List.getElem?_eq_getElem
abbrev Ac:=@List.mem_cons_self
abbrev Ad:=@List.getElem?_eq_some_iff
abbrev Ae:=@List.mem_singleton
abbrev Af:=@List.mem_cons_of_mem
abbrev Ag:=@List.getElem?_map
abbrev Ah:=@List.length_append
abbrev Ai:=@PySem.Heap.get?_push_of_some
abbrev Aj:=@List.mem_map
abbrev Ak:=@List.mem_of_getElem?
abbrev Al:=@List.map_append
abbrev Am:=@List.mem_cons
abbrev An:=@List.getElem?_of_mem
abbrev Ao:=@Nat.le_refl
abbrev Ap:=@List.mem_append
abbrev Aq:=@Bool.false_ne_true
abbrev Ar:=@List.mem_append_right
abbrev As:=@List.mem_append_left
abbrev At:=@List.append_assoc
abbrev Au:=@List.mem_filter
abbrev Av:=@PySem.Heap.lt_size
abbrev Aw:=@List.size_toArray
abbrev Ax:=@List.length_cons
abbrev Ay:=@List.getElem_mem
abbrev Az:=@Option.map_eq_some_iff
abbrev Ba:=@List.mem_iff_getElem
abbrev Bb:=@List.map_map
abbrev Bc:=@List.append_nil
abbrev Bd:=@List.map_cons
abbrev Be:=@PySem.Heap.get?_push_size
abbrev Bf:=@List.map_congr_left
abbrev Bg:=@PySem.Heap.get?_update_other
abbrev Bh:=@List.pairwise_iff_getElem
abbrev Bj:=@Nat.lt_of_lt_of_le
abbrev Bk:=@List.length_eq_zero_iff
abbrev Bm:=@List.mem_range
abbrev Bo:=@List.length_take
abbrev Bp:=@List.getElem?_append_left
abbrev Bq:=@List.flatten_cons
abbrev Br:=@List.getElem?_eq_none
abbrev Bs:=@List.getElem?_append_right
abbrev Bt:=@List.count_pos_iff
abbrev Bu:=@List.nodup_cons
abbrev Bv:=@List.nodup_iff_pairwise_ne
abbrev Bw:=@Nat.mod_eq_of_lt
abbrev Bx:=@Int.toNat_natCast
abbrev By:=@List.getElem_map
abbrev Bz:=@Array.getElem?_toList
abbrev Cb:=@List.take_length
abbrev Cc:=@Bool.false_eq_true
abbrev Cd:=@Int.emod_nonneg
abbrev Ce:=@List.nodup_append
abbrev Cf:=@Bool.and_eq_true
abbrev Cg:=@Nat.ne_of_lt
abbrev Ch:=@Int.emod_lt_of_pos
abbrev Ci:=@Nat.zero_le
abbrev Cj:=@List.length_pos_iff
abbrev Ck:=@List.mem_flatten
abbrev Cm:=@List.perm_append_comm
abbrev Cn:=@List.length_drop
abbrev Co:=@Array.length_toList
abbrev Cp:=@Nat.le_trans
abbrev Cq:=@Nat.lt_succ_of_lt
abbrev Cr:=@List.take_add_one
abbrev Cs:=@PySem.Heap.get?_update_self
abbrev Ct:=@List.take_append_drop
abbrev Cu:=@Nat.lt_irrefl
abbrev Cv:=@List.length_range
abbrev Cw:=@List.filter_append
abbrev Cy:=@List.append_of_mem
abbrev Cz:=@Nat.le_of_lt
abbrev Da:=@List.contains_iff_mem
abbrev Db:=@List.nodup_nil
abbrev Dc:=@Nat.ne_of_gt
abbrev Dd:=@List.take_of_length_le
abbrev De:=@List.pairwise_cons
abbrev Dg:=@List.range_succ
abbrev Dh:=@List.count_cons
abbrev Di:=@List.filter_cons
abbrev Dj:=@List.getElem?_range
abbrev Dk:=@List.flatMap_append
abbrev Dl:=@List.exists_mem_of_ne_nil
abbrev Dm:=@Nat.mod_self
abbrev Do:=@Int.zero_add
abbrev Dq:=@List.lookup_cons
abbrev Dr:=@List.length_eraseIdx
abbrev Ds:=@List.not_mem_nil
abbrev Du:=@PySem.Heap.size_push
abbrev Dv:=@List.getElem_of_mem
abbrev Dw:=@List.length_filter_le
abbrev Dx:=@List.getElem?_take_of_lt
abbrev Dy:=@List.length_erase_of_mem
abbrev Dz:=@List.ext_getElem?
abbrev Eb:=@List.getElem?_cons_succ
abbrev Ec:=@List.count_append
abbrev Ed:=@List.length_pos_of_mem
abbrev Ee:=@List.drop_of_length_le
abbrev Ef:=@List.append_eq_nil_iff
abbrev Eh:=@Nat.le_succ
abbrev Ej:=@List.getElem_inj
abbrev Ek:=@List.cons_append
abbrev El:=@List.ext_getElem
abbrev Em:=@List.getElem_range
abbrev Ep:=@Array.getElem?_eq_some_iff
abbrev Er:=@List.length_singleton
abbrev Es:=@List.drop_eq_getElem_cons
abbrev Eu:=@Bool.eq_iff_iff
abbrev Ex:=@List.foldl_cons
abbrev Ey:=@Nat.le_of_succ_le
abbrev Ez:=@Bool.eq_false_iff
abbrev Fa:=@Nat.lt_or_ge
abbrev Fb:=@List.flatMap_cons
abbrev Fc:=@List.mem_erase_of_ne
abbrev Fd:=@List.pairwise_map
abbrev Fe:=@Option.isSome_iff_exists
abbrev Ff:=@Nat.lt_succ_iff_lt_or_eq
abbrev Fg:=@List.flatten_append
abbrev Fh:=@List.filter_eq_self
abbrev Fi:=@List.getElem?_replicate
abbrev Fj:=@List.nodup_range
abbrev Fk:=@List.getElem?_eraseIdx
abbrev Fm:=@List.filter_eq_nil_iff
abbrev Fn:=@List.find?_cons
abbrev Fo:=@List.sum_cons
abbrev Fp:=@List.length_replicate
abbrev Fq:=@Array.getD_eq_getD_getElem?
abbrev Fr:=@List.mem_zipIdx_iff_le_and_getElem?_sub
abbrev Ft:=@Array.getElem?_setIfInBounds_self_of_lt
abbrev Fu:=@List.getElem?_modify
abbrev Fv:=@List.perm_ext_iff_of_nodup
abbrev Fw:=@List.all_eq_true
abbrev Fx:=@List.mem_flatMap
abbrev Fy:=@List.any_cons
abbrev Fz:=@List.lt_trans
abbrev Ga:=@List.mem_of_mem_eraseIdx
abbrev Gb:=@List.length_nil
abbrev Gc:=@Nat.not_lt_zero
abbrev Gd:=@Nat.lt_of_le_of_lt
abbrev Ge:=@List.find?_eq_none
abbrev Gf:=@Nat.lt_of_le_of_ne
abbrev Gg:=@List.filter_cons_of_neg
abbrev Gh:=@Bool.and_false
abbrev Gi:=@Nat.lt_of_succ_lt_succ
abbrev Gj:=@Nat.zero_add
abbrev Gk:=@Nat.lt_trichotomy
abbrev Gm:=@List.lt_irrefl
abbrev Gn:=@List.filter_congr
abbrev Go:=@Nat.zero_lt_of_lt
abbrev Gp:=@Nat.lt_succ_self
abbrev Gq:=@Array.toList_inj
abbrev Gr:=@Nat.min_eq_right
abbrev Gs:=@Option.getD_some
abbrev Gu:=@PySem.Heap.get?_none_of_le
abbrev Gv:=@List.not_lt
abbrev Gw:=@Option.map_some
abbrev Gx:=@List.forIn_cons
abbrev Gy:=@Nat.min_eq_left
abbrev Gz:=@List.find?_some
abbrev Hc:=@List.filterMap_cons
abbrev He:=@List.zipIdx_map_snd
abbrev Hf:=@Bool.false_xor
abbrev Hg:=@Bool.xor_false
abbrev Hh:=@List.map_id
abbrev Hi:=@List.all_cons
abbrev Hj:=@Bool.not_true
namespace L2
open PySem PySem.Spec PyProof.Rows
abbrev Key:=Sum Int Str
def qo:Key->Value->Bool
 | .inl k,v=>Value.isInt k v
 | .inr x,v=>Value.isStrOf x v
def yE(w:World):Key->Int
 | .inl k=>hashInt k
 | .inr x=>hashStr w x
theorem kn:∀{k:Key} {v:Value},qo k v=true->(∃ i t,k=Sum.inl i/\v=Value.int i t)\/(∃ x t,k=Sum.inr x/\v=Value.str x t)
 | .inl i,v,h=>by
  obtain⟨t,e⟩:=Value.isInt_shape (k:=i) (v:=v) h;exact .inl ⟨i,t,rfl,e⟩
 | .inr x,v,h=>by
  obtain⟨t,e⟩:=Value.isStrOf_shape (x:=x) (v:=v) h;exact .inr ⟨x,t,rfl,e⟩
theorem R9(i:Int)(t:Tok):qo (.inl i) (.int i t)=true:=by simp [qo,Value.isInt]
theorem Sb(x:Str)(t:Tok):qo (.inr x) (.str x t)=true:=by simp [qo,Value.isStrOf]
theorem Sd(a b:Int):decide ((Sum.inl a:Key)=Sum.inl b)=(a == b):=by
 by_cases e:a=b
 ·subst e;simp
 ·have h:¬(Sum.inl a:Key)=Sum.inl b:=λq=>e<|Sum.inl.inj q;rw [BW h];exact(beq_eq_false_iff_ne.mpr e).symm
theorem Se(a b:Str):decide ((Sum.inr a:Key)=Sum.inr b)=decide (a=b):=by
 by_cases e:a=b
 ·subst e;simp
 ·have h:¬(Sum.inr a:Key)=Sum.inr b:=λq=>e<|Sum.inr.inj q;rw [BW h,BW e]
theorem Sf(a:Int)(b:Str):decide ((Sum.inl a:Key)=Sum.inr b)=false:=BW λq=>nomatch q
theorem Sg(a:Str)(b:Int):decide ((Sum.inr a:Key)=Sum.inl b)=false:=BW λq=>nomatch q
def dN(prog:Program)(w:World):PySem.KeyKind prog w Key where
 is:=qo
 hash:=yE w
 inj:=λv a b ha hb=>by
  rcases kn ha with ⟨i,t,rfl,rfl⟩ | ⟨x,t,rfl,rfl⟩
  ·rcases kn hb with ⟨j,u,rfl,e⟩ | ⟨y,u,rfl,e⟩
   ·injection e with e1 _;rw [e1]
   ·exact nomatch e
  ·rcases kn hb with ⟨j,u,rfl,e⟩ | ⟨y,u,rfl,e⟩
   ·exact nomatch e
   ·injection e with e1 _;rw [e1]
 byValue:=λk v h=>by
  rcases kn h with ⟨i,t,rfl,rfl⟩ | ⟨x,t,rfl,rfl⟩ <;> rfl
 pyHash:=λhv h=>by
  rcases kn hv with ⟨i,t,rfl,rfl⟩ | ⟨x,t,rfl,rfl⟩
  ·exact wpAny_pyHash_int h
  ·exact wpAny_pyHash_str h
 eqBool:=λhu hv h=>by
  rcases kn hu with ⟨i,t,rfl,rfl⟩ | ⟨x,t,rfl,rfl⟩
  ·rcases kn hv with ⟨j,u,rfl,rfl⟩ | ⟨y,u,rfl,rfl⟩
   ·rw [Sd] at h;exact wpAny_eqBool_int h
   ·rw [Sf] at h;exact SeqAt.EqAt.int_str i t y u _ _ _ _ h
  ·rcases kn hv with ⟨j,u,rfl,rfl⟩ | ⟨y,u,rfl,rfl⟩
   ·rw [Sg] at h;exact SeqAt.EqAt.str_int x t j u _ _ _ _ h
   ·rw [Se] at h;exact wpAny_eqBool_str h
 «strs»:=λk x t v h=>by
  rcases kn h with ⟨i,u,rfl,e⟩ | ⟨y,u,rfl,e⟩
  ·exact nomatch e
  ·injection e with e1 _
   subst e1;cases v <;> rfl
theorem Sh(prog:Program)(w:World)(i:Int)(t:Tok):(dN prog w).is (.inl i) (.int i t)=true:=R9 i t
theorem Si(prog:Program)(w:World)(x:Str)(t:Tok):(dN prog w).is (.inr x) (.str x t)=true:=Sb x t
inductive V where
 | non | bl (b:Bool) | int (i:Int) | str (x:Str) | iU (b:Array UInt8) | yF (b:UInt64) | ref (a:Addr) | ty (n:String)
 deriving DecidableEq
def RelV:V->Value->Prop
 | .non,u=>u=Value.none
 | .bl b,u=>u=Value.bool b
 | .int i,u=>∃ t,u=Value.int i t
 | .str x,u=>∃ t,u=Value.str x t
 | .iU b,u=>∃ t,u=Value.bytes b t
 | .yF b,u=>∃ t,u=Value.float b t
 | .ref a,u=>u=Value.ref a
 | .ty n,u=>u=Value.type n
abbrev av:List V->List Value->Prop:=Paired RelV
theorem av.length{xs:List V}{us:List Value}(r:av xs us):xs.length=us.length:=Paired.length r
theorem av.get:∀{xs:List V} {us:List Value} {i:Nat} {x:V},av xs us->xs[i]?=some x->∃ u,us[i]?=some u/\RelV x u
 | _,_,_,_,.nil,e=>by simp at e
 | _,_,0,_,.cons r _,e=>by simp at e;subst e;exact⟨_,rfl,r⟩
 | _,_,i+1,x,.cons _ t,e=>by
  obtain⟨u,h1,h2⟩:=av.get (i:=i) (x:=x) t (by simpa using e);exact⟨u,by simpa using h1,h2⟩
theorem av.set{x:V}{u:Value}(r:RelV x u):∀{xs:List V} {us:List Value} (i:Nat),av xs us->av (xs.set i x) (us.set i u)
 | _,_,_,.nil=> .nil
 | _,_,0,.cons _ t=> .cons r t
 | _,_,i+1,.cons q t=> .cons q<|av.set r i t
theorem av.append:∀{xs ys:List V} {us ws:List Value},av xs us->av ys ws->av (xs++ys) (us++ws)
 | _,_,_,_,.nil,s=>s
 | _,_,_,_,.cons r t,s=> .cons r<|av.append t s
theorem av.take:∀{xs:List V} {us:List Value} (n:Nat),av xs us->av (xs.take n) (us.take n)
 | _,_,0,_=> .nil
 | _,_,_+1,.nil=> .nil
 | _,_,n+1,.cons r t=> .cons r<|av.take n t
theorem av.drop:∀{xs:List V} {us:List Value} (n:Nat),av xs us->av (xs.drop n) (us.drop n)
 | _,_,0,r=>r
 | _,_,_+1,.nil=> .nil
 | _,_,n+1,.cons _ t=>av.drop n t
def eC:Option V->Option Value->Prop
 | some v,some u=>RelV v u
 | none,none=>True
 | _,_=>False
def KV{κ:Type}:List (κ×V)->List (κ×Value)->Prop:=Paired λ(p:κ×V) (q:κ×Value)=>p.1=q.1/\RelV p.2 q.2
def kV:Key->V
 | .inl i=> .int i
 | .inr x=> .str x
inductive HO where
 | lst (xs:List V)
 | tup (xs:List V)
 | dK (kvs:List<|Key×V) | dT (kvs:List<|List Key×V)
 | set (S:Int->Bool) (n:Nat)
 | ins (C dx:Addr) (fs:List<|Str×V)
 | own (x:Addr)
 | xd (fs:List<|Str×V)
 | met (f x:Addr)
 | vS (lo hi:Int)
 | ji (o:Obj) (u:HO)
 | mr (ps:Array Value)
 | ext (φ:Heap->Prop)
abbrev Hp:=Addr->Option HO
def upd(H:Hp)(a:Addr)(o:HO):Hp:=λb=>if b=a then some o else H b
theorem az{H:Hp}{a:Addr}{o:HO}:upd H a o a=some o:=by unfold upd;rw [BL rfl]
theorem aw{H:Hp}{a b:Addr}{o:HO}(h:b≠a):upd H a o b=H b:=by unfold upd;rw [BK h]
theorem vT{H:Hp}{a:Addr}{o u:HO}:upd (upd H a o) a u=upd H a u:=by
 funext b;unfold upd;split <;> rfl
theorem eF{H:Hp}{a b:Addr}{o u:HO}(h:H a=some o)(h':H b=some u)(d:o≠u):a≠b:=by
 intro e;subst e;rw [h] at h';exact d<|Option.some.inj h'
theorem bP{H:Hp}{a b:Addr}{o:HO}(h:H a=some o)(h':H b=none):a≠b:=by
 intro e;subst e;rw [h] at h';cases h'
section
variable(P:Program)(w:World)
def aH(H:Hp)(h:Heap)(a:Addr):HO->Prop
 | .lst xs=>xs.length<=sizeLine/\∃(its:List Value) (n:Nat),av xs its/\h.get? a=some {cls:= .type "list",data:= .seq its.toArray n}
 | .tup xs=>xs.length<=sizeLine/\∃ its:List Value,av xs its/\IsTup h a its.toArray
 | .dK kvs=>kvs.length<=sizeLine/\(a == sysModules)=false/\∃ vs,KV kvs vs/\h.DictOf (dN P w) a vs
 | .dT kvs=>kvs.length<=sizeLine/\(a == sysModules)=false/\∃ xs:List<|List Key×Addr×Value,
   Paired (λ(p:List Key×V) (q:List Key×Addr×Value)=>p.1=q.1/\H q.2.1=some (.tup<|p.1.map kV)/\RelV p.2 q.2.2) kvs xs /\
   ∃ o es ep,h.get? a=some o/\o.ExactDict/\o.data = .dict es ep/\es.toList=xs.map (entryOfKey<|tupleKind<|dN P w)/\(xs.map (·.1)).Nodup
 | .set S n=>h.SetOf (intKind P w) a S n
 | .ins C dx fs=>H dx=some (.own a)/\fs.length<=1000/\dx≠a/\h.get? a=some (PySem.W.instObj C dx) /\
   ∃ mA,h.Ns1 dx mA/\(∀ f,eC (fs.lookup f)<|mA f)/\PySem.Within mA (fs.map (·.1))
 | .own _=>∃ o,h.get? a=some o
 | .xd fs=>∃ mA,h.Ns1 a mA/\∀ f,eC (fs.lookup f)<|mA f
 | .vS lo hi=>∃ t u v,h.get? a=some {cls:= .type "range",data:= .fields #[.int lo t,.int hi u,.int 1 v]}
 | .ji o u=>h.get? a=some o/\aH H h a u
 | .mr ps=>h.get? a=some {cls:= .none,data:= .fields ps}
 | .met f x=>h.get? a=some (PySem.W.methodObj (.ref f)<|.ref x)
 | .ext φ=>φ h/\(∃ o,h.get? a=some o)/\∀ h1 h2:Heap,φ h1->(∀ o,h1.get? a=some o->h2.get? a=some o)->φ h2
def cg(H:Hp)(h:Heap):Prop:=∀ a o,H a=some o->aH P w H h a o
end
section
variable{P:Program}{w:World}{H H':Hp}{h h':Heap}{a:Addr}{o:HO}
theorem aH.lt(x:aH P w H h a o):a < h.objs.size:=by
 cases o with
 | lst xs=>obtain⟨_,_,_,_,e⟩:=x;exact Av e
 | tup xs=>obtain⟨_,_,_,p⟩:=x;exact p.lt
 | dK kvs=>obtain⟨_,_,_,_,o,_,_,e,_⟩:=x;exact Av e
 | dT kvs=>obtain⟨_,_,_,_,o,_,_,e,_⟩:=x;exact Av e
 | set S n=>obtain⟨o,_,_,_,e,_⟩:=x;exact Av e
 | ins C dx fs=>obtain⟨_,_,_,e,_⟩:=x;exact Av e
 | own y=>obtain⟨_,e⟩:=x;exact Av e
 | xd fs=>obtain⟨_,⟨_,_,_,e,_⟩,_⟩:=x;exact Av e
 | vS lo hi=>obtain⟨_,_,_,e⟩:=x;exact Av e
 | ji ob u=>obtain⟨e,_⟩:=x;exact Av e
 | mr ps=>exact Av (show h.get? a=some _ from x)
 | met f y=>exact Av (show h.get? a=some _ from x)
 | ext φ=>obtain⟨_,⟨_,e⟩,_⟩:=x;exact Av e
theorem Paired.oh{α β:Type}{F G:α->β->Prop}:∀{l₁:List α} {l₂:List β},Paired F l₁ l₂->(∀ a b,F a b->G a b)->Paired G l₁ l₂
 | _,_,.nil,_=> .nil
 | _,_,.cons r t,f=> .cons (f _ _ r)<|Paired.oh t f
theorem aH.g8(x:aH P w H h a o)(k:∀ b u,(b=a\/H b=some (.own a))->h.get? b=some u->h'.get? b=some u)
  (ho:∀ b,H b=some (.own a)->H' b=some (.own a)) (ht:∀ b xs,H b=some (.tup xs)->H' b=some (.tup xs)):aH P w H' h' a o:=by
 induction o with
 | lst xs=>obtain⟨z,its,n,r,e⟩:=x;exact⟨z,its,n,r,k _ _ (.inl rfl) e⟩
 | tup xs=>obtain⟨z,its,r,ob,e,c⟩:=x;exact⟨z,its,r,ob,k _ _ (.inl rfl) e,c⟩
 | dK kvs=>obtain⟨z,y,vs,r,ob,es,ep,e,c⟩:=x;exact⟨z,y,vs,r,ob,es,ep,k _ _ (.inl rfl) e,c⟩
 | dT kvs=>
  obtain⟨z,y,xs,r,ob,es,ep,e,c⟩:=x;exact⟨z,y,xs,Paired.oh r λp q z=>⟨z.1,ht _ _ z.2.1,z.2.2⟩,ob,es,ep,k _ _ (.inl rfl) e,c⟩
 | set S n=>obtain⟨ob,es,ep,t,e,c⟩:=x;exact⟨ob,es,ep,t,k _ _ (.inl rfl) e,c⟩
 | ins C dx fs=>
  obtain⟨d,z,ne,e,mA,⟨od,es,ep,e2,c⟩,r⟩:=x;exact⟨ho _ d,z,ne,k _ _ (.inl rfl) e,mA,⟨od,es,ep,k _ _ (.inr d) e2,c⟩,r⟩
 | own y=>obtain⟨ob,e⟩:=x;exact⟨ob,k _ _ (.inl rfl) e⟩
 | xd fs=>obtain⟨mA,⟨od,es,ep,e,c⟩,r⟩:=x;exact⟨mA,⟨od,es,ep,k _ _ (.inl rfl) e,c⟩,r⟩
 | vS lo hi=>obtain⟨t,u,v,e⟩:=x;exact⟨t,u,v,k _ _ (.inl rfl) e⟩
 | ji ob u ih=>obtain⟨e,q⟩:=x;exact⟨k _ _ (.inl rfl) e,ih q⟩
 | mr ps=>
  have e:h.get? a=some {cls:= .none,data:= .fields ps}:=x;show h'.get? a=some {cls:= .none,data:= .fields ps};exact k a _ (.inl rfl) e
 | met f y=>
  have e:h.get? a=some (PySem.W.methodObj (.ref f)<|.ref y):=x;show h'.get? a=some (PySem.W.methodObj (.ref f)<|.ref y);exact k a _ (.inl rfl) e
 | ext φ=>obtain⟨p,⟨o,e⟩,st⟩:=x;exact⟨st _ _ p λo q=>k _ _ (.inl rfl) q,⟨o,k _ _ (.inl rfl) e⟩,st⟩
theorem cg.lt(x:cg P w H h)(e:H a=some o):a < h.objs.size:=(x a o e).lt
theorem cg.fresh(x:cg P w H h)(e:h.objs.size<=a):H a=none:=by
 cases q:H a with
 | none=>rfl
 | some u=>exact absurd (Bj (x.lt q) e)<|Cu _
theorem cg.kept(x:cg P w H h)(k:∀ b u,h.get? b=some u->h'.get? b=some u):cg P w H h':=λa o e=>
 (x a o e).g8 (λb u _ q=>k b u q) (λ_ q=>q) λ_ _ q=>q
theorem cg.laid(x:cg P w H h)(k:∀ b u,h.get? b=some u->h'.get? b=some u)(hp:h.objs.size<=a)(new:aH P w (upd H a o) h' a o):cg P w (upd H a o) h':=λb u e=>by
 have hn:=x.fresh hp
 by_cases hb:b=a
 ·subst hb;rw [az] at e;cases e;exact new
 ·rw [aw hb] at e;exact(x b u e).g8 (λc v _ q=>k c v q) (λc q=>by rw [aw<|bP q hn];exact q) λc xs q=>by rw [aw<|bP q hn];exact q
end
def Rd(H:Hp)(a:Addr)(u:HO):Prop:=H a=some u\/∃ o,H a=some (.ji o u)
theorem Rd.ok{P:Program}{w:World}{H:Hp}{h:Heap}{a:Addr}{u:HO}(r:Rd H a u)(x:cg P w H h):aH P w H h a u:=by
 rcases r with r | ⟨o,r⟩
 ·exact x a u r
 ·obtain⟨_,q⟩:=x a _ r;exact q
def rV:Option HO->Prop
 | some (.lst _)=>True
 | some (.dK _)=>True
 | some (.dT _)=>True
 | some (.set _ _)=>True
 | some (.ins _ _ _)=>True
 | some (.ext _)=>True
 | _=>False
section
variable{P:Program}{w:World}{H:Hp}{h h':Heap}{x e:Addr}{o':HO}
theorem cg.write(ok:cg P w H h)(mu:rV<|H x)(he:e=x\/H e=some (.own x))(k:∀ b u,b≠e->h.get? b=some u->h'.get? b=some u)(qp:∃ u,h'.get? e=some u)
  (new:aH P w (upd H x o') h' x o'):cg P w (upd H x o') h':=λb u q=>by
 have rW:∀ c y,H c=some (.own y)->c≠x:=λc y r z=>by subst z;rw [r] at mu;exact mu
 have yG:∀ c xs,H c=some (.tup xs)->c≠x:=λc xs r z=>by subst z;rw [r] at mu;exact mu
 by_cases hb:b=x
 ·subst hb;rw [az] at q;cases q;exact new
 ·rw [aw hb] at q
  by_cases om:b=e
  ·have q':H b=some (.own x):=by
    rcases he with z | z
    ·exact absurd (om.trans z) hb
    ·rw [om];exact z
   rw [q] at q';cases q';obtain⟨v,hv⟩:=qp;exact⟨v,by rw [om];exact hv⟩
  ·refine(ok b u q).g8 (λc v hc r=>k c v ?_ r) (λc r=>by rw [aw<|rW c b r];exact r) λc xs r=>by rw [aw<|yG c xs r];exact r
   rcases hc with rfl | hc
   ·exact om
   ·rintro rfl
    rcases he with z | z
    ·exact rW c b hc z
    ·rw [hc] at z;cases z;exact hb rfl
end
structure Un(fs ex:List Addr)(H H':Hp)(h h':Heap):Prop where
 keep:∀ b o,h.get? b=some o->H b=none->b∉fs->b∉ex->h'.get? b=some o
 slot:∀ b o,h.get? b=some o->H b=none->b∈fs->b∉ex->∃ sl,h'.get? b=some {o with slots:=sl}
 free:∀ b o,h.get? b=some o->H b=none->b∉ex->H' b=none
 there:∀ b o,h.get? b=some o->b∉ex->∃ o',h'.get? b=some o'
 eG:∀ b xs,H b=some (.tup xs)->H' b=some (.tup xs)
 dO:∀ b o u,H b=some (.ji o u)->H' b=some (.ji o u)
 eI:∀ b ps,H b=some (.mr ps)->∃ more,H' b=some (.mr<|ps++more)
section
variable{fs Sj ex JI:List Addr}{H H1 H2:Hp}{h h1 h2 h':Heap}{a x e:Addr}{o:HO}
theorem Un.any(u:Un fs ex H H1 h h1){b:Addr}{ob:Obj}(q:h.get? b=some ob)(n:H b=none)(hx:b∉ex):∃ sl,h1.get? b=some {ob with slots:=sl}:=by
 by_cases hb:b∈fs
 ·exact u.slot b ob q n hb hx
 ·exact⟨ob.slots,u.keep b ob q n hb hx⟩
theorem Un.kept(k:∀ b u,h.get? b=some u->h'.get? b=some u):Un fs ex H H h h':=
 ⟨λb ob q _ _ _=>k b ob q,λb ob q _ _ _=>⟨ob.slots,k b ob q⟩,λ_ _ _ n _=>n,λb ob q _=>⟨ob,k b ob q⟩,λ_ _ q=>q,λ_ _ _ q=>q,λ_ ps q=>⟨#[],by rw [q];simp⟩⟩
theorem Un.refl:Un fs ex H H h h:=Un.kept λ_ _ q=>q
theorem Un.laid(k:∀ b u,h.get? b=some u->h'.get? b=some u)(hp:h.objs.size<=a)(hn:H a=none):Un fs ex H (upd H a o) h h' where
 keep:=λb u q _ _ _=>k b u q
 slot:=λb u q _ _ _=>⟨u.slots,k b u q⟩
 free:=λb u q n _=>by rw [aw<|Cg<|Bj (Av q) hp];exact n
 there:=λb u q _=>⟨u,k b u q⟩
 eG:=λb xs q=>by rw [aw<|bP q hn];exact q
 dO:=λb u xs q=>by rw [aw<|bP q hn];exact q
 eI:=λb ps q=>⟨#[],by rw [aw<|bP q hn,q];simp⟩
theorem Un.write(mu:rV<|H x)(he:e=x\/H e=some (.own x))(k:∀ b u,b≠e->h.get? b=some u->h'.get? b=some u)(qp:∃ u,h'.get? e=some u):Un fs ex H (upd H x o) h h':=by
 have hx:∀ b,H b=none->b≠x:=λb n z=>by subst z;rw [n] at mu;exact mu
 have hb:∀ b,H b=none->b≠e:=λb n z=>by
  subst z
  rcases he with r | r
  ·exact hx b n r
  ·rw [n] at r;cases r
 have hm:∀ b u,H b=some u->¬ rV (some u)->b≠x:=λb u q nm z=>by subst z;rw [q] at mu;exact nm mu
 refine⟨λb u q n _ _=>k b u (hb b n) q,λb u q n _ _=>⟨u.slots,k b u (hb b n) q⟩,λb u q n _=>by rw [aw<|hx b n];exact n,λb u q _=>?_,
  λb xs q=>by rw [aw<|hm b _ q λz=>z];exact q,λb u xs q=>by rw [aw<|hm b _ q λz=>z];exact q,λb ps q=>⟨#[],by rw [aw<|hm b _ q λz=>z,q];simp⟩⟩
 by_cases om:b=e
 ·subst om;exact qp
 ·exact⟨u,k b u om q⟩
end
def vU(h:Heap)(H:Hp):List Addr:=(List.range h.objs.size).filter λa=>(H a).isSome
def fc(h:Heap)(H:Hp):Heap:=PySem.W.hideAll h<|vU h H
theorem Sl(h:Heap)(H:Hp):(fc h H).objs.size=h.objs.size:=PySem.W.hideAll_size _ _
theorem Sn{h:Heap}{H:Hp}{b:Addr}{o:Obj}(e:h.get? b=some o)(n:H b=none):(fc h H).get? b=some o:=
 PySem.W.hideAll_get _ e λhm=>by
  have q:(H b).isSome=true:=(Au.mp hm).2;rw [n] at q;simp at q
theorem Sq{h:Heap}{H:Hp}{b:Addr}{o:Obj}(e:(fc h H).get? b=some o):h.get? b=some o/\H b=none:=by
 have e':h.get? b=some o:=PySem.W.of_hideAll (vU h H) e;refine⟨e',?_⟩;cases q:H b with
 | none=>rfl
 | some x=>
  have hm:b∈vU h H:=Au.mpr ⟨Bm.mpr<|Av e',by simp [q]⟩;have z:(fc h H).get? b=none:=PySem.W.hideAll_none (vU h H) hm;rw [z] at e;cases e
structure Mod(K:PySem.W.Frag)(mg:Str->Option Value)(base:Heap):Prop where
 ou:K.In base
 glob:base.Ns mainGlobals mg
 blt:∃ mb,base.Ns builtinsNs mb/\∀ x:Str,x ≠ "__name__"->mb x=bootBuiltins x
 nolimit:base.NoLimit
structure Cx where
 prog:Program
 w:World
 K:PySem.W.Frag
 mg:Str->Option Value
 base:Heap
 A:Around
 N:List Str
 s₀:Shared
 H₀:Hp
 env:Env
 outer:List Env
 stack:List Env
 ex:List Addr
 fn:Str->Bool
 calm:Bool
 pn:List<|Addr×Obj
 xe:Value->Shared->Prop
def dj(l:List Env):List Addr:=l.filterMap (·.frame)
abbrev Cx.fs(X:Cx):List Addr:=dj X.outer
def yH(sc:Scope)(x:Str):Prop:=sc.names.lookup x=some .local\/sc.names.lookup x=some .cell\/sc.names.lookup x=some .free
def Loc(sc:Scope)(x:Str):Prop:=sc.names.lookup x=some .local\/sc.names.lookup x=some .cell
def Look(env:Env)(h:Heap)(m:Str->Option Value)(x:Str)(u:Value):Prop:=
 (env.kindOf x=some .local/\m x=some u)\/((env.kindOf x=some .cell\/env.kindOf x=some .free)/\∃ c,env.cells.lookup x=some c/\h.IsCell c (some u))
structure Cx.Ok(X:Cx):Prop where
 mod:Mod X.K X.mg X.base
 kind:X.env.scope.kind = .function
 glob:X.env.globals=mainGlobals
 blt:X.env.builtins=builtinsNs
 above:X.s₀.heap.objs.size<=X.env.locals
 inj:∀ x y c,X.env.cells.lookup x=some c->X.env.cells.lookup y=some c->x=y
 has:∀ x,(X.env.kindOf x=some .cell\/X.env.kindOf x=some .free)->∃ c,X.env.cells.lookup x=some c
 k7:∀ x c,X.fn x=true->X.env.cells.lookup x=some c->X.s₀.heap.objs.size<=c
 hd:X.calm=true->X.A.handled=none
 frames:X.A.frames=some X.stack
 kr:X.stack=X.outer\/(X.stack=X.env :: X.outer/\X.env.frame=some X.env.locals)
 qt:∀ b∈X.ex,b≠X.env.locals/\∀ x c,X.env.cells.lookup x=some c->c≠b
 bs:∀ b o,X.base.get? b=some o->X.s₀.heap.get? b=some o/\X.H₀ b=none
 jl:X.base.objs.size<=X.s₀.heap.objs.size
 fe:∀ b o,X.base.get? b=some o->b∉X.ex
 fY:∀ b∈X.ex,b∉X.fs
 cA:X.s₀.heap.FunFrames X.base X.outer
 ku:∀ b∈X.fs,X.H₀ b=none
structure Inv(X:Cx)(pins:List<|Addr×Obj)(σ:List<|Option V)(H:Hp)(s:Shared):Prop where
 ok:X.Ok
 os:s.os=X.s₀.os
 bare:AllBare s.gens
 base:Un X.fs X.ex X.H₀ H X.s₀.heap s.heap
 loc:∃ m,s.heap.Ns X.env.locals m/\∀(i:Nat) (x:Str) (v:V),X.N[i]?=some x->σ[i]?=some (some v)->yH X.env.scope x->∃ u,RelV v u/\Look X.env s.heap m x u
 cell:∀ x c,X.env.cells.lookup x=some c->∃ v,s.heap.IsCell c v
 free:H X.env.locals=none
 bz:∀ x c,X.env.cells.lookup x=some c->H c=none
 pin:∀ p∈X.pn++pins,s.heap.get? p.1=some p.2/\H p.1=none/\p.1≠X.env.locals/\p.1∉X.fs/\∀ v,p.2.data ≠ .cell v
 aJ:cg X.prog X.w H s.heap
 len:σ.length=X.N.length
section
variable{X:Cx}{pins:List (Addr×Obj)}{σ:List (Option V)}{H H':Hp}{s:Shared}{h':Heap}
theorem Cx.Ok.yI(ok:X.Ok){b:Addr}{o:Obj}(e:X.base.get? b=some o):b∉X.fs:=λhb=>by
 have:=(ok.cA.mem hb).1;rw [e] at this;cases this
theorem Inv.bs(I:Inv X pins σ H s):∀ b o,X.base.get? b=some o->s.heap.get? b=some o/\H b=none:=λb o e=>
 ⟨I.base.keep b o (I.ok.bs b o e).1 (I.ok.bs b o e).2 (I.ok.yI e)<|I.ok.fe b o e,I.base.free b o (I.ok.bs b o e).1 (I.ok.bs b o e).2<|I.ok.fe b o e⟩
theorem Inv.bk(I:Inv X pins σ H s):∀ b o,X.base.get? b=some o->s.heap.get? b=some o:=λb o e=>(I.bs b o e).1
theorem Inv.mod(I:Inv X pins σ H s):Mod X.K X.mg X.base:=I.ok.mod
theorem Inv.kz(I:Inv X pins σ H s):X.K.In s.heap:=I.ok.mod.ou.keeps I.bk
theorem Inv.lt(I:Inv X pins σ H s):X.env.locals < s.heap.objs.size:=let ⟨_,hn,_⟩:=I.loc;hn.lt
theorem Inv.sz(I:Inv X pins σ H s):X.s₀.heap.objs.size<=s.heap.objs.size:=Cp I.ok.above<|Cz I.lt
theorem Inv.yJ(I:Inv X pins σ H s){a:Addr}(h:s.heap.objs.size<=a):a∉X.fs:=λhb=>by
 obtain⟨_,o,ho,_⟩:=I.ok.cA.mem hb;exact absurd (Bj (Av ho)<|Cp I.sz h)<|Cu _
theorem Inv.k8(I:Inv X pins σ H s):∀ x c,X.env.cells.lookup x=some c->c≠X.env.locals:=λx c e z=>by
 obtain⟨v,o,ho,hd⟩:=I.cell x c e;obtain⟨m,⟨o',es,ep,gO,Sr,_⟩,_⟩:=I.loc;rw [z,gO] at ho;cases ho;rw [Sr] at hd;cases hd
theorem Inv.cA(I:Inv X pins σ H s):s.heap.FunFrames X.base X.outer:=by
 have all:∀(l:List Env),(∀ b∈dj l,b∈X.fs)->X.s₀.heap.FunFrames X.base l->s.heap.FunFrames X.base l:=by
  intro l
  induction l with
  | nil=>intro _ _;trivial
  | cons env r ih=>
   intro hs hl;obtain⟨hk,⟨L,o,hf,hn,ho,hd⟩,hr⟩:=hl;have hL:L∈X.fs:=hs L (by unfold dj;rw [Hc,hf];exact Ac);obtain⟨sl,e⟩:=I.base.slot L o ho (I.ok.ku L hL) hL λz=>I.ok.fY L z hL;exact⟨hk,⟨L,_,hf,hn,e,hd⟩,ih (λb hb=>hs b<|by unfold dj;rw [Hc,hf];exact Af _ hb) hr⟩
 exact all X.outer (λ_ hb=>hb) I.ok.cA
theorem Inv.stack(I:Inv X pins σ H s):s.heap.FunFrames X.base X.stack:=by
 rcases I.ok.kr with e | ⟨e,hf⟩
 ·rw [e];exact I.cA
 ·rw [e];obtain⟨m,hn,_⟩:=I.loc;refine .cons (by rw [I.ok.kind];decide) hf hn ?_ I.cA;exact Gu<|Cp I.ok.jl I.ok.above
theorem Inv.df(I:Inv X pins σ H s):∀ b∈dj X.stack,b∈X.env.locals :: X.fs:=λb hb=>by
 rcases I.ok.kr with e | ⟨e,hf⟩
 ·rw [e] at hb;exact Af _ hb
 ·rw [e] at hb;unfold dj at hb;rw [Hc,hf] at hb;exact hb
theorem Inv.cW(I:Inv X pins σ H s):∀ b∈dj X.stack,H b=none:=λb hb=>by
 rcases Am.mp (I.df b hb) with e | hb
 ·rw [e];exact I.free
 ·obtain⟨_,o,ho,_⟩:=I.ok.cA.mem hb;exact I.base.free b o ho (I.ok.ku b hb) λz=>I.ok.fY b z hb
theorem Inv.step{g':Array GenState}{t':Nat}{d':Drawn}{ch:List Addr}(I:Inv X pins σ H s)
  (kA:∀ b∈ch,(b∈X.ex\/X.s₀.heap.objs.size<=b)/\b≠X.env.locals/\(∀ x c,X.env.cells.lookup x=some c->c≠b)/\∀ p∈X.pn++pins,p.1≠b)
  (keep:∀ b o,b≠X.env.locals->b∉X.fs->b∉ch->s.heap.get? b=some o->H b=none->h'.get? b=some o)
  (slot:∀ b o,b≠X.env.locals->b∈X.fs->b∉ch->s.heap.get? b=some o->H b=none->∃ sl,h'.get? b=some {o with slots:=sl}) (free:∀ b o,b∉ch->s.heap.get? b=some o->H b=none->H' b=none)
  (there:∀ b o,b∉ch->s.heap.get? b=some o->∃ o',h'.get? b=some o')
  (eG:∀ b xs,H b=some (.tup xs)->H' b=some (.tup xs)) (dO:∀ b o u,H b=some (.ji o u)->H' b=some (.ji o u)) (eI:∀ b ps,H b=some (.mr ps)->∃ more,H' b=some (.mr<|ps++more))
  (ns:∀ m,s.heap.Ns X.env.locals m->h'.Ns X.env.locals m) (aJ:cg X.prog X.w H' h') (hg:AllBare g') :
  Inv X pins σ H' {s with heap:=h',gens:=g',drawn:=d',toks:=t'}:=by
 have JO:∀ b o,X.s₀.heap.get? b=some o->b≠X.env.locals:=λb o e=>Cg<|Bj (Av e) I.ok.above;have vV:∀ b o,X.s₀.heap.get? b=some o->b∉X.ex->b∉ch:=λb o e hx hb=>by
  rcases (kA b hb).1 with z | z
  ·exact hx z
  ·exact absurd (Bj (Av e) z)<|Cu _
 have cellK:∀ x c,X.env.cells.lookup x=some c->∀ v,s.heap.IsCell c v->h'.IsCell c v:=λx c e v ⟨o,ho,hd⟩=>by
  have rX:c∉ch:=λz=>(kA c z).2.2.1 x c e rfl
  by_cases hc:c∈X.fs
  ·obtain⟨sl,q⟩:=slot c o (I.k8 x c e) hc rX ho<|I.bz x c e;exact⟨_,q,hd⟩
  ·exact⟨o,keep c o (I.k8 x c e) hc rX ho<|I.bz x c e,hd⟩
 refine⟨I.ok,I.os,hg,⟨λb o e n hb hx=>?_,λb o e n hb hx=>?_,λb o e n hx=>?_,λb o e hx=>?_,λb xs e=>eG b xs<|I.base.eG b xs e,λb o xs e=>dO b o xs<|I.base.dO b o xs e,λb ps e=>?_⟩,?_,λx c e=>?_,?_,λx c e=>?_,λp hp=>?_,aJ,I.len⟩
 ·exact keep b o (JO b o e) hb (vV b o e hx) (I.base.keep b o e n hb hx)<|I.base.free b o e n hx
 ·obtain⟨sl,e1⟩:=I.base.slot b o e n hb hx;obtain⟨vW,e2⟩:=slot b _ (JO b o e) hb (vV b o e hx) e1<|I.base.free b o e n hx;exact⟨vW,e2⟩
 ·obtain⟨o',e1⟩:=I.base.there b o e hx;exact free b o' (vV b o e hx) e1<|I.base.free b o e n hx
 ·obtain⟨o',e1⟩:=I.base.there b o e hx;exact there b o' (vV b o e hx) e1
 ·obtain⟨m1,e1⟩:=I.base.eI b ps e;obtain⟨m2,e2⟩:=eI b _ e1;exact⟨m1++m2,by rw [e2,Array.append_assoc]⟩
 ·obtain⟨m,hn,hl⟩:=I.loc;refine⟨m,ns m hn,λi x v e1 e2 e3=>?_⟩;obtain⟨u,r,l⟩:=hl i x v e1 e2 e3;refine⟨u,r,?_⟩
  rcases l with l | ⟨k,c,e,z⟩
  ·exact .inl l
  ·exact .inr ⟨k,c,e,cellK x c e _ z⟩
 ·obtain⟨v,z⟩:=I.cell x c e;exact⟨v,cellK x c e v z⟩
 ·obtain⟨m,⟨o,_,_,ho,_⟩,_⟩:=I.loc;exact free _ o (λz=>(kA _ z).2.1 rfl) ho I.free
 ·obtain⟨v,o,ho,hd⟩:=I.cell x c e;exact free c o (λz=>(kA c z).2.2.1 x c e rfl) ho<|I.bz x c e
 ·obtain⟨e,n,ne,nf,d⟩:=I.pin p hp;have rX:p.1∉ch:=λz=>(kA p.1 z).2.2.2 p hp rfl;exact⟨keep p.1 p.2 ne nf rX e n,free p.1 p.2 rX e n,ne,nf,d⟩
theorem Inv.un{t':Nat}(I:Inv X pins σ H s)(u:Un X.fs [] H H' s.heap h')(aJ:cg X.prog X.w H' h'):Inv X pins σ H' {s with heap:=h',toks:=t'}:=by
 obtain⟨m,⟨o,es,ep,ho,r⟩,_⟩:=id I.loc;obtain⟨sl,hL⟩:=u.any ho I.free (by simp);exact I.step (g':=s.gens) (d':=s.drawn) (ch:=[]) (λ_ z=>nomatch z) (λb o _ hb _ e n=>u.keep b o e n hb<|by simp) (λb o _ hb _ e n=>u.slot b o e n hb<|by simp) (λb o _ e n=>u.free b o e n<|by simp) (λb o _ e=>u.there b o e<|by simp) u.eG u.dO u.eI (λm' hm=>by
  obtain⟨o',fZ,yK,gO,r'⟩:=hm;rw [ho] at gO;cases gO;exact⟨_,fZ,yK,hL,r'⟩) aJ I.bare
theorem Inv.call{g':Array GenState}{t':Nat}{d':Drawn}{ch:List Addr}(I:Inv X pins σ H s)(u:Un (dj X.stack) ch H H' s.heap h')(aJ:cg X.prog X.w H' h')(hg:AllBare g')
  (kA:∀ b∈ch,(b∈X.ex\/X.s₀.heap.objs.size<=b)/\b≠X.env.locals/\(∀ x c,X.env.cells.lookup x=some c->c≠b)/\∀ p∈X.pn++pins,p.1≠b) :
  Inv X pins σ H' {s with heap:=h',gens:=g',drawn:=d',toks:=t'}:=by
 obtain⟨m,⟨o,es,ep,ho,r⟩,_⟩:=id I.loc;obtain⟨sl,hL⟩:=u.any ho I.free λz=>(kA _ z).2.1 rfl;exact I.step (ch:=ch) kA (λb o hL hb hc e n=>u.keep b o e n (λz=>(Am.mp<|I.df b z).elim hL hb) hc) (λb o _ _ hc e n=>u.any e n hc) (λb o hc e n=>u.free b o e n hc) (λb o hc e=>u.there b o e hc) u.eG u.dO u.eI (λm' hm=>by
  obtain⟨o',fZ,yK,gO,r'⟩:=hm;rw [ho] at gO;cases gO;exact⟨_,fZ,yK,hL,r'⟩) aJ hg
theorem Inv.turned{t':Nat}{it:Addr}(I:Inv X pins σ H s)(k:∀ b o,b≠it->s.heap.get? b=some o->h'.get? b=some o)(hn:H it=none)(hL:it≠X.env.locals)
  (h1:it∈X.ex\/X.s₀.heap.objs.size<=it) (h2:∀ x c,X.env.cells.lookup x=some c->c≠it) (h3:∀ p∈X.pn++pins,p.1≠it):Inv X pins σ H {s with heap:=h',toks:=t'}:=by
 have JP:∀ b u,H b=some u->b≠it:=λb u e z=>by rw [z,hn] at e;cases e
 refine I.step (g':=s.gens) (d':=s.drawn) (ch:=[it]) (λb hb=>?_) (λb o _ _ hc e _=>k b o (λz=>hc<|by simp [z]) e) (λb o _ _ hc e _=>⟨o.slots,k b o (λz=>hc<|by simp [z]) e⟩) (λ_ _ _ _ n=>n)
  (λb o hc e=>⟨o,k b o (λz=>hc<|by simp [z]) e⟩) (λ_ _ e=>e) (λ_ _ _ e=>e) (λb ps e=>⟨#[],by rw [e];simp⟩) (λm hm=>?_) (λb u e=>?_) I.bare
 ·have e:b=it:=by simpa using hb
  subst e;exact⟨h1,hL,h2,h3⟩
 ·obtain⟨o,es,ep,ho,r⟩:=hm;exact⟨o,es,ep,k _ o (Ne.symm hL) ho,r⟩
 ·refine(I.aJ b u e).g8 (λc v hc q=>k c v ?_ q) (λ_ q=>q) λ_ _ q=>q
  rcases hc with z | z
  ·rw [z];exact JP b u e
  ·exact JP c _ z
theorem Inv.tok(I:Inv X pins σ H s)(t:Nat):Inv X pins σ H {s with toks:=t}:=I.un (h':=s.heap) (t':=t) Un.refl I.aJ
theorem Inv.kept{t':Nat}(I:Inv X pins σ H s)(k:∀ b u,s.heap.get? b=some u->h'.get? b=some u):Inv X pins σ H {s with heap:=h',toks:=t'}:=I.un (Un.kept k)<|I.aJ.kept k
theorem Inv.laid{a:Addr}{o:HO}{t':Nat}(I:Inv X pins σ H s)(k:∀ b u,s.heap.get? b=some u->h'.get? b=some u)(hp:s.heap.objs.size<=a)(new:aH X.prog X.w (upd H a o) h' a o) :
  Inv X pins σ (upd H a o) {s with heap:=h',toks:=t'}:=I.un (Un.laid k hp<|I.aJ.fresh hp)<|I.aJ.laid k hp new
theorem Inv.write{x e:Addr}{o:HO}{t':Nat}(I:Inv X pins σ H s)(mu:rV<|H x)(he:e=x\/H e=some (.own x))(k:∀ b u,b≠e->s.heap.get? b=some u->h'.get? b=some u)(qp:∃ u,h'.get? e=some u)
  (new:aH X.prog X.w (upd H x o) h' x o):Inv X pins σ (upd H x o) {s with heap:=h',toks:=t'}:=I.un (Un.write mu he k qp)<|I.aJ.write mu he k qp new
theorem Inv.iw{mv:List (Addr×Obj)}(I:Inv X pins σ H s)(h:∀ p∈mv,s.heap.get? p.1=some p.2/\H p.1=none/\p.1≠X.env.locals/\p.1∉X.fs/\∀ v,p.2.data ≠ .cell v):Inv X mv σ H s:=
 ⟨I.ok,I.os,I.bare,I.base,I.loc,I.cell,I.free,I.bz,λp hp=>(Ap.mp hp).elim (λz=>I.pin p<|As _ z)<|h p,I.aJ,I.len⟩
theorem JS{N:List Str}(hN:N.Nodup){i j:Nat}{x:Str}(a:N[i]?=some x)(b:N[j]?=some x):i=j:=by
 obtain⟨h1,e1⟩:=Ad.mp a;obtain⟨h2,e2⟩:=Ad.mp b;exact(Ej hN).mp<|e1.trans e2.symm
theorem JU{M:Model}{A:Around}{E:Value->Shared->Prop}{i:Nat}{x:Str}{v:V}{u:Value}{Q:Unit->Shared->Prop}(I:Inv X pins σ H s)(hN:X.N.Nodup)(hi:X.N[i]?=some x)(hx:Loc X.env.scope x)(r:RelV v u)
  (h:∀ s',Inv X pins (σ.set i<|some v) H s'->(∃ a,Heap.SameBut a s.heap s'.heap/\(a=X.env.locals\/X.env.cells.lookup x=some a))->Q () s') (hf:X.fn x=true\/X.env.scope.names.lookup x=some .local:=by first | exact .inl rfl | exact .inr rfl | assumption):wpAny M A (storeName X.env x u) Q E s:=by
 obtain⟨m,hn,hl⟩:=id I.loc;have yL:(X.env.scope.kind == .class || (X.env.scope.kind == .module && X.env.locals != X.env.globals))=false:=by rw [I.ok.kind];rfl
 have hiσ:i < σ.length:=by rw [I.len];exact(Ad.mp hi).1
 have k8:=I.k8;have tracked:∀{a:Addr} {h':Heap},(∃ o,s.heap.get? a=some o/\H a=none)->Heap.SameBut a s.heap h'->cg X.prog X.w H h':=λ{a h'} ha hs b ob e=>by
  obtain⟨_,_,mw⟩:=ha;refine(I.aJ b ob e).g8 (λc w' hc q=>(hs.2 c ?_).trans q) (λ_ q=>q) λ_ _ q=>q;rintro rfl
  rcases hc with rfl | hc
  ·rw [mw] at e;cases e
  ·rw [mw] at hc;cases hc
 rcases hx with hk | hk
 ·refine wpAny_storeName_local hk hn (λh' mz hs=>?_) yL;obtain⟨oL,_,_,iy,_⟩:=id hn;refine h _ ⟨I.ok,I.os,I.bare,⟨λb o e n hb hx=>?_,λb o e n hb hx=>?_,I.base.free,λb o e hx=>?_,I.base.eG,I.base.dO,I.base.eI⟩,⟨_,mz,λj y v' e1 e2 e3=>?_⟩,λy c e=>?_,I.free,I.bz,λp hp=>?_,tracked ⟨oL,iy,I.free⟩ hs,by simpa using I.len⟩ ⟨_,hs,.inl rfl⟩
  ·exact(hs.2 b<|Cg<|Bj (Av e) I.ok.above).trans<|I.base.keep b o e n hb hx
  ·obtain⟨sl,e1⟩:=I.base.slot b o e n hb hx;exact⟨sl,(hs.2 b<|Cg<|Bj (Av e) I.ok.above).trans e1⟩
  ·obtain⟨o',e1⟩:=I.base.there b o e hx;exact⟨o',(hs.2 b<|Cg<|Bj (Av e) I.ok.above).trans e1⟩
  ·by_cases hj:j=i
   ·subst hj;rw [hi] at e1;cases e1;rw [RP hiσ] at e2;cases e2;exact⟨u,r,.inl ⟨hk,by simp⟩⟩
   ·rw [List.getElem?_set_ne<|Ne.symm hj] at e2;obtain⟨u',r',q⟩:=hl j y v' e1 e2 e3;refine⟨u',r',?_⟩
    rcases q with ⟨k,e⟩ | ⟨k,c,e,z⟩
    ·refine .inl ⟨k,?_⟩;have:y≠x:=λe=>hj<|JS hN e1<|e ▸ hi;simp [this,e]
    ·exact .inr ⟨k,c,e,z.sameBut hs<|k8 y c e⟩
  ·obtain⟨w',z⟩:=I.cell y c e;exact⟨w',z.sameBut hs<|k8 y c e⟩
  ·obtain⟨e,n,ne,nf,d⟩:=I.pin p hp;exact⟨(hs.2 p.1 ne).trans e,n,ne,nf,d⟩
 ·have yM:X.fn x=true:=by
   rcases hf with z | z
   ·exact z
   ·rw [z] at hk;cases hk
  obtain⟨c,hc⟩:=I.ok.has x<|.inl hk;obtain⟨w',z⟩:=I.cell x c hc;refine wpAny_storeName_cell I.ok.kind hk hc z λh' mC hs=>?_;obtain⟨oc,JY,yN⟩:=id z;refine h {s with heap:=h'} ⟨I.ok,I.os,I.bare,⟨λb o e n hb hx=>?_,λb o e n hb hx=>?_,I.base.free,λb o e hx=>?_,I.base.eG,I.base.dO,I.base.eI⟩,⟨m,hn.sameBut hs<|Ne.symm<|k8 x c hc,λj y v' e1 e2 e3=>?_⟩,λy c' e=>?_,I.free,I.bz,λp hp=>?_,tracked ⟨oc,JY,I.bz x c hc⟩ hs,by simpa using I.len⟩ ⟨c,hs,.inr hc⟩
  ·exact(hs.2 b<|Cg<|Bj (Av e)<|I.ok.k7 x c yM hc).trans<|I.base.keep b o e n hb hx
  ·obtain⟨sl,e1⟩:=I.base.slot b o e n hb hx;exact⟨sl,(hs.2 b<|Cg<|Bj (Av e)<|I.ok.k7 x c yM hc).trans e1⟩
  ·obtain⟨o',e1⟩:=I.base.there b o e hx;exact⟨o',(hs.2 b<|Cg<|Bj (Av e)<|I.ok.k7 x c yM hc).trans e1⟩
  ·by_cases hj:j=i
   ·subst hj;rw [hi] at e1;cases e1;rw [RP hiσ] at e2;cases e2;exact⟨u,r,.inr ⟨.inl hk,c,hc,mC⟩⟩
   ·rw [List.getElem?_set_ne<|Ne.symm hj] at e2;obtain⟨u',r',q⟩:=hl j y v' e1 e2 e3;refine⟨u',r',?_⟩
    rcases q with q | ⟨k,c',e,z'⟩
    ·exact .inl q
    ·refine .inr ⟨k,c',e,z'.sameBut hs ?_⟩;rintro rfl;exact hj<|JS hN e1<|I.ok.inj _ _ _ e hc ▸ hi
  ·by_cases iz:c'=c
   ·subst iz;exact⟨_,mC⟩
   ·obtain⟨w2,z2⟩:=I.cell y c' e;exact⟨w2,z2.sameBut hs iz⟩
  ·obtain⟨e,n,ne,nf,d⟩:=I.pin p hp;refine⟨(hs.2 p.1 ?_).trans e,n,ne,nf,d⟩;intro q;rw [q,JY] at e;have q':oc=p.2:=Option.some.inj e;exact d w'<|by rw [<- q'];exact yN
theorem J0{M:Model}{A:Around}{E:Value->Shared->Prop}{i:Nat}{x:Str}{v:V}{u:Value}{Q:Unit->Shared->Prop}(I:Inv X pins σ H s)(hN:X.N.Nodup)(hi:X.N[i]?=some x)(hx:Loc X.env.scope x)(r:RelV v u)
  (h:∀ s',Inv X pins (σ.set i<|some v) H s'->Q () s') (hf:X.fn x=true\/X.env.scope.names.lookup x=some .local:=by first | exact .inl rfl | exact .inr rfl | assumption):wpAny M A (storeName X.env x u) Q E s:=
 JU I hN hi hx r (λs' I' _=>h s' I') hf
theorem Inv.call'{s':Shared}{ch:List Addr}(I:Inv X pins σ H s)(ho:s'.os=s.os)(u:Un (dj X.stack) ch H H' s.heap s'.heap)(aJ:cg X.prog X.w H' s'.heap)(hg:AllBare s'.gens)
  (kA:∀ b∈ch,(b∈X.ex\/X.s₀.heap.objs.size<=b)/\b≠X.env.locals/\(∀ x c,X.env.cells.lookup x=some c->c≠b)/\∀ p∈X.pn++pins,p.1≠b):Inv X pins σ H' s':=by
 obtain⟨h',g',d',t',o'⟩:=s';have e:o'=s.os:=ho;subst e;exact I.call (g':=g') (t':=t') (d':=d') u aJ hg kA
end
abbrev XK:=Value->Option Addr->Hp->Prop
abbrev St:=List<|Option V
abbrev VK:=V->Hp->Prop
abbrev TE:=St->Hp->VK->Prop
abbrev TT:=St->Hp->(Bool->Hp->Prop)->Prop
abbrev TA:=St->Hp->(List V->Hp->Prop)->Prop
structure Ends where
 nx:St->Hp->Prop
 rt:VK
 bk:St->Hp->Prop:=λ_ _=>False
 ct:St->Hp->Prop:=λ_ _=>False
abbrev TS:=Ends->St->Hp->Prop
def EP(X:Cx)(pins:List<|Addr×Obj)(σ:St)(Q:VK)(u:Value)(s':Shared):Prop:=∃ v H',Inv X pins σ H' s'/\RelV v u/\Q v H'
def TP(X:Cx)(pins:List<|Addr×Obj)(σ:St)(Q:Bool->Hp->Prop)(b:Bool)(s':Shared):Prop:=∃ H',Inv X pins σ H' s'/\Q b H'
def AP(X:Cx)(pins:List<|Addr×Obj)(σ:St)(Q:List V->Hp->Prop)(us:List Value)(s':Shared):Prop:=∃ vs H',Inv X pins σ H' s'/\av vs us/\Q vs H'
def SP(X:Cx)(pins:List<|Addr×Obj)(D:Ends)(f:Flow)(s':Shared):Prop:=
 match f with
 | .next=>∃ σ' H',Inv X pins σ' H' s'/\D.nx σ' H'
 | .brk=>∃ σ' H',Inv X pins σ' H' s'/\D.bk σ' H'
 | .cont=>∃ σ' H',Inv X pins σ' H' s'/\D.ct σ' H'
 | .ret u=>∃ v σ' H',Inv X pins σ' H' s'/\RelV v u/\D.rt v H'
def PE(X:Cx)(e:Expr)(t:TE):Prop:=
 ∀(pins:List<|Addr×Obj) (s:Shared) (σ:St) (H:Hp) (Q:VK),Inv X pins σ H s->t σ H Q->wpAny (model X.prog X.w) X.A (eval e X.env) (EP X pins σ Q) X.xe s
def PT(X:Cx)(e:Expr)(t:TT):Prop:=
 ∀(pins:List<|Addr×Obj) (s:Shared) (σ:St) (H:Hp) (Q:Bool->Hp->Prop),Inv X pins σ H s->t σ H Q->wpAny (model X.prog X.w) X.A (isTrue e X.env<|eval e X.env) (TP X pins σ Q) X.xe s
def PW(X:Cx)(e:Expr)(t:TT):Prop:=
 ∀(whole:Sem Value) (pins:List<|Addr×Obj) (s:Shared) (σ:St) (H:Hp) (Q:Bool->Hp->Prop),Inv X pins σ H s->t σ H Q->wpAny (model X.prog X.w) X.A (isTrue e X.env whole) (TP X pins σ Q) X.xe s
def PA(X:Cx)(es:List Expr)(t:TA):Prop:=
 ∀(pos:Pos) (pins:List<|Addr×Obj) (s:Shared) (σ:St) (H:Hp) (Q:List V->Hp->Prop),Inv X pins σ H s->t σ H Q->wpAny (model X.prog X.w) X.A (spliced<|backTo pos<|starEach es X.env) (AP X pins σ Q) X.xe s
def PS(X:Cx)(st:Stmt)(t:TS):Prop:=
 ∀(pins:List<|Addr×Obj) (s:Shared) (σ:St) (H:Hp) (D:Ends),Inv X pins σ H s->t D σ H->wpAny (model X.prog X.w) X.A (exec st X.env) (SP X pins D) X.xe s
def iV(X:Cx)(st:List Stmt)(t:TS):Prop:=
 ∀(pins:List<|Addr×Obj) (s:Shared) (σ:St) (H:Hp) (D:Ends),Inv X pins σ H s->t D σ H->wpAny (model X.prog X.w) X.A (execs st X.env) (SP X pins D) X.xe s
theorem aS{α:Type}{t:Sem α}{Q Q':α->Shared->Prop}{M:Model}{A:Around}{E:Value->Shared->Prop}{s:Shared}(h:wpAny M A t Q E s)(hQ:∀ a s,Q a s->Q' a s):wpAny M A t Q' E s:=CK h hQ λ_ _ x=>x
section
variable{X:Cx}
theorem bin{a b:Expr}{ta tb:TE}(ha:PE X a ta)(hb:PE X b tb){pins:List (Addr×Obj)}{s:Shared}{σ:St}{H:Hp}{R:V->V->Hp->Prop}(I:Inv X pins σ H s)(h:ta σ H λx H1=>tb σ H1 λy H2=>R x y H2)
  {α:Type} {Q:α->Shared->Prop} {f:Value->Value->Sem α}
  (hf:∀ v u s2 x y H2,Inv X pins σ H2 s2->RelV x v->RelV y u->R x y H2->wpAny (model X.prog X.w) X.A (f v u) Q X.xe s2) :
  wpAny (model X.prog X.w) X.A (eval a X.env) (λv s₁=>wpAny (model X.prog X.w) X.A (eval b X.env) (λu s₂=>wpAny (model X.prog X.w) X.A (f v u) Q X.xe s₂) X.xe s₁) X.xe s:=by
 refine aS (ha pins s σ H _ I h) λv s1 ⟨x,H1,I1,r1,q1⟩=>?_;refine aS (hb pins s1 σ H1 _ I1 q1) λu s2 ⟨y,H2,I2,r2,q2⟩=>?_;exact hf v u s2 x y H2 I2 r1 r2 q2
def yO(i:Nat):TE:=λσ H Q=>∃ v,σ[i]?=some (some v)/\Q v H
def tC(v:V):TE:=λ_ H Q=>Q v H
theorem Ss{i:Nat}{x:Str}{pos:Pos}(hN:X.N[i]?=some x)(hv:yH X.env.scope x)(hd:(x == ("__debug__" : Str))=false:=by decide)(iA:(x == ("__classdict__" : Str))=false:=by decide):PE X (.Name x pos) (yO i):=by
 intro pins s σ H Q I h;obtain⟨v,e,h⟩:=h;obtain⟨m,hn,hl⟩:=I.loc;obtain⟨u,r,l⟩:=hl i x v hN e hv;have fin:EP X pins σ Q u s:=⟨v,H,I,r,h⟩
 rcases l with ⟨hk,hm⟩ | ⟨hk,c,hc,iB⟩
 ·exact wpAny_Name (wpAny_loadName_local I.ok.kind hk hn hm fin) hd
 ·rcases hk with hk | hk
  ·exact wpAny_Name (wpAny_loadName_cell I.ok.kind hk hc iB fin) hd
  ·exact wpAny_Name (wpAny_loadName_free I.ok.kind hk hc iB fin iA) hd
theorem Sv{i j pos}:PE X (.Constant (.int i) j pos) (tC<|.int i):=λ_ _ _ H _ I h=>wpAny_Constant_int ⟨.int i,H,I.tok _,⟨_,rfl⟩,h⟩
theorem Sw{b j pos}:PE X (.Constant (.bool b) j pos) (tC<|.bl b):=λ_ _ _ H _ I h=>Constant_bool ⟨.bl b,H,I,rfl,h⟩
theorem Sx{x j pos}:PE X (.Constant (.str x) j pos) (tC<|.str x):=λ_ _ _ H _ I h=>Calls.Constant_str ⟨.str x,H,I.tok _,⟨_,rfl⟩,h⟩
def Gl(X:Cx)(x:Str):Prop:=X.env.kindOf x=some .globalImplicit
theorem rY{E:Value->Shared->Prop}{pins:List (Addr×Obj)}{s:Shared}{σ:St}{H:Hp}{x:Str}{u:Value}{pos:Pos}{Q:Value->Shared->Prop}(I:Inv X pins σ H s)(hg:Gl X x)(hm:X.mg x=some u)(h:Q u s)
  (hd:(x == ("__debug__" : Str))=false:=by decide):wpAny (model X.prog X.w) X.A (eval (.Name x pos) X.env) Q E s:=
 Calls.Name_function_global I.ok.kind hg (Calls.loadGlobal_global (by rw [I.ok.glob];exact I.mod.glob.keeps I.bk) hm h) hd
theorem vX{E:Value->Shared->Prop}{pins:List (Addr×Obj)}{s:Shared}{σ:St}{H:Hp}{x:Str}{u:Value}{pos:Pos}{Q:Value->Shared->Prop}(I:Inv X pins σ H s)(hg:Gl X x)(hm:X.mg x=none)(hv:bootBuiltins x=some u)(h:Q u s)
  (hn:x ≠ "__name__":=by decide) (hd:(x == ("__debug__" : Str))=false:=by decide):wpAny (model X.prog X.w) X.A (eval (.Name x pos) X.env) Q E s:=by
 obtain⟨mb,h1,h2⟩:=I.mod.blt;exact Calls.Name_function_global I.ok.kind hg (Calls.loadGlobal_builtin (by rw [I.ok.glob];exact I.mod.glob.keeps I.bk) hm (by rw [I.ok.blt];exact h1.keeps I.bk) ((h2 x hn).trans hv) h) hd
variable{a b:Expr}{ta tb:TE}{pos:Pos}
def PC(X:Cx)(op:CmpOp)(a b:Expr)(t:TE):Prop:=
 ∀(pins:List<|Addr×Obj) (s:Shared) (σ:St) (H:Hp) (Q:VK),Inv X pins σ H s->t σ H Q ->
  wpAny (model X.prog X.w) X.A (eval a X.env) (λv s₁=>wpAny (model X.prog X.w) X.A (eval b X.env) (λu s₂=>wpAny (model X.prog X.w) X.A (compareOp op v u) (EP X pins σ Q) X.xe s₂) X.xe s₁) X.xe s
def tB(t:TE):TT:=λσ H Q=>t σ H λx H1=>∃ c,x = .bl c/\Q c H1
theorem J1{op:CmpOp}{t:TE}(h:PC X op a b t)(h1:behindInMarks op b=false:=by first | exact rZ _ (by decide) (by decide) | rfl):PT X (.Compare a [op] [b] pos) (tB t):=by
 intro pins s σ H Q I hw;refine wpAny_isTrue_Compare1 (aS (h pins s σ H _ I hw) λv s1 h1=>aS h1 λu s2 h2=>aS h2 λc s3 ⟨x,H1,I1,r1,q1⟩=>?_) h1;obtain⟨d,rfl,q⟩:=q1;cases r1;exact FJ ⟨H1,I1,q⟩
theorem Sy{e:Expr}{t:TE}(h:PE X e t)(he:∀ whole,isTrue e X.env whole=(do let v <- whole;standAt e.pos;holding [v] (truthy v)):=by intro _;rfl):PT X e (tB t):=by
 intro pins s σ H Q I hw;refine isTrue_plain (aS (h pins s σ H _ I hw) λv s1 ⟨x,H1,I1,r1,q1⟩=>?_)<|he _;obtain⟨d,rfl,q⟩:=q1;cases r1;exact FJ ⟨H1,I1,q⟩
variable{tA vY:TT}{rest:List Expr}
def yP(t u:TT):TT:=λσ H Q=>t σ H λc H1=>if c=true then u σ H1 Q else Q false H1
def Sz(t u:TT):TT:=λσ H Q=>t σ H λc H1=>if c=true then Q true H1 else u σ H1 Q
def yQ(t:TT):TT:=λσ H Q=>t σ H λc H1=>Q (!c) H1
theorem SA(ha:PT X a tA):PW X (.BoolOp .And [a] pos) tA:=by
 intro wh pins s σ H Q I h;refine isTrue_and<|aS (ha pins s σ H Q I h) λc s1 e=>?_;cases c with
 | true=>exact isTrue_and_nil e
 | false=>exact e
theorem SD(ha:PT X a tA):PW X (.BoolOp .Or [a] pos) tA:=by
 intro wh pins s σ H Q I h;refine isTrue_or<|aS (ha pins s σ H Q I h) λc s1 e=>?_;cases c with
 | false=>exact isTrue_or_nil e
 | true=>exact e
theorem SE(ha:PT X a tA)(hb:PW X (.BoolOp .And (b :: rest) pos) vY):PW X (.BoolOp .And (a :: b :: rest) pos) (yP tA vY):=by
 intro wh pins s σ H Q I h;refine isTrue_and<|aS (ha pins s σ H _ I h) λc s1 ⟨H1,I1,q1⟩=>?_;cases c with
 | true=>exact hb wh pins s1 σ H1 Q I1 q1
 | false=>exact⟨H1,I1,q1⟩
theorem SF(ha:PT X a tA)(hb:PW X (.BoolOp .Or (b :: rest) pos) vY):PW X (.BoolOp .Or (a :: b :: rest) pos) (Sz tA vY):=by
 intro wh pins s σ H Q I h;refine isTrue_or<|aS (ha pins s σ H _ I h) λc s1 ⟨H1,I1,q1⟩=>?_;cases c with
 | true=>exact⟨H1,I1,q1⟩
 | false=>exact hb wh pins s1 σ H1 Q I1 q1
theorem SG(ha:PT X a tA):PT X (.UnaryOp .Not a pos) (yQ tA):=by
 intro pins s σ H Q I h;exact isTrue_not<|ha pins s σ H (λc H1=>Q (!c) H1) I h
def SH(ta tb:TE):TE:=λσ H Q=>ta σ H λx H1=>∃ c,x = .bl c/\if c=true then tb σ H1 Q else Q (.bl false) H1
theorem SK{op}{t:TE}(h:PE X a t):PE X (.BoolOp op [a] pos) t:=λpins s σ H Q I hw=>BoolOp_one<|h pins s σ H Q I hw
theorem SL(ha:PE X a ta)(hb:PE X (.BoolOp .And (b :: rest) pos) tb):PE X (.BoolOp .And (a :: b :: rest) pos) (SH ta tb):=by
 intro pins s σ H Q I h;refine BoolOp_and<|aS (ha pins s σ H _ I h) λv s1 ⟨x,H1,I1,r1,q1⟩=>?_;obtain⟨c,rfl,q1⟩:=q1;cases r1;refine FJ ?_;cases c with
 | true=>exact hb pins s1 σ H1 Q I1 q1
 | false=>exact⟨.bl false,H1,I1,rfl,q1⟩
def SR(t:TT)(ta tb:TE):TE:=λσ H Q=>t σ H λc H1=>if c=true then ta σ H1 Q else tb σ H1 Q
theorem SU{c:Expr}(hc:PT X c tA)(ha:PE X a ta)(hb:PE X b tb):PE X (.IfExp c a b pos) (SR tA ta tb):=by
 intro pins s σ H Q I h;refine wpAny_IfExp<|aS (hc pins s σ H _ I h) λd s1 ⟨H1,I1,q1⟩=>?_;cases d with
 | true=>exact ha pins s1 σ H1 Q I1 q1
 | false=>exact hb pins s1 σ H1 Q I1 q1
end
def al(K:PySem.W.Frag)(H:Hp)(a:Addr)(xs:List V):Prop:=
 Rd H a (.lst xs) \/
  ∃(o:Obj) (its:Array Value) (n:Nat),K.lookup a=some o/\o.cls = .type "list"/\o.dict=none/\o.data = .seq its n/\its.size<=sizeLine/\av xs its.toList
def aW(K:PySem.W.Frag)(H:Hp)(a:Addr)(xs:List V):Prop:=
 Rd H a (.tup xs) \/
  ∃(o:Obj) (its:Array Value) (n:Nat),K.lookup a=some o/\o.cls = .type "tuple"/\o.data = .seq its n/\its.size<=sizeLine/\av xs its.toList
def yR:Value->Option V
 | .none=>some .non
 | .bool b=>some<|.bl b
 | .int i _=>some<|.int i
 | .str x _=>some<|.str x
 | .bytes b _=>some<|.iU b
 | .float b _=>some<|.yF b
 | .ref a=>some<|.ref a
 | .type n=>some<|.ty n
 | _=>none
theorem RelV.abs{x:V}{u:Value}(r:RelV x u):yR u=some x:=by
 cases x with
 | non=>cases r;rfl
 | bl _=>cases r;rfl
 | int _=>obtain⟨t,rfl⟩:=r;rfl
 | str _=>obtain⟨t,rfl⟩:=r;rfl
 | iU _=>obtain⟨t,rfl⟩:=r;rfl
 | yF _=>obtain⟨t,rfl⟩:=r;rfl
 | ref _=>cases r;rfl
 | ty _=>cases r;rfl
theorem RelV.inj{x y:V}{u:Value}(r:RelV x u)(q:RelV y u):x=y:=Option.some.inj<|r.abs.symm.trans q.abs
theorem av.inj:∀{xs ys:List V} {us:List Value},av xs us->av ys us->xs=ys
 | _,_,_,.nil,.nil=>rfl
 | _,_,_,.cons r t,.cons r' t'=>by rw [r.inj r',av.inj t t']
section
variable{X:Cx}{pins:List (Addr×Obj)}{σ:St}{H:Hp}{s:Shared}{a:Addr}{xs ys:List V}
theorem al.of{K:PySem.W.Frag}(h:H a=some (.lst xs)):al K H a xs:= .inl<|.inl h
theorem aW.of{K:PySem.W.Frag}(h:H a=some (.tup xs)):aW K H a xs:= .inl<|.inl h
theorem Inv.list(I:Inv X pins σ H s)(h:al X.K H a xs):∃ its:List Value,av xs its/\PlainL s.heap a its.toArray/\xs.length<=sizeLine:=by
 rcases h with h | ⟨o,its,n,hk,hc,hd,hs,hz,r⟩
 ·obtain⟨z,its,n,r,e⟩:=h.ok I.aJ;exact⟨its,r,⟨_,n,e,rfl,rfl,rfl⟩,z⟩
 ·refine⟨its.toList,r,⟨o,n,I.kz a o hk,hc,hd,by simpa using hs⟩,?_⟩;have e:=r.length;simp only [Co] at e;omega
theorem Inv.tuple(I:Inv X pins σ H s)(h:aW X.K H a xs):∃ its:List Value,av xs its/\IsTup s.heap a its.toArray/\xs.length<=sizeLine:=by
 rcases h with h | ⟨o,its,n,hk,hc,hs,hz,r⟩
 ·obtain⟨z,its,r,p⟩:=h.ok I.aJ;exact⟨its,r,p,z⟩
 ·refine⟨its.toList,r,⟨o,I.kz a o hk,hc,n,by simpa using hs⟩,?_⟩;have e:=r.length;simp only [Co] at e;omega
theorem Inv.jC(I:Inv X pins σ H s)(h:al X.K H a xs)(h':al X.K H a ys):xs=ys:=by
 obtain⟨its,r,⟨o,n,e,_,_,d⟩,_⟩:=I.list h;obtain⟨its',r',⟨o',n',e',_,_,d'⟩,_⟩:=I.list h';rw [e] at e';cases e';rw [d] at d'
 injection d' with d1 _
 have:its=its':=by simpa using BZ Array.toList d1
 subst this;exact r.inj r'
theorem Inv.iW(I:Inv X pins σ H s)(h:aW X.K H a xs)(h':aW X.K H a ys):xs=ys:=by
 obtain⟨its,r,⟨o,e,_,n,d⟩,_⟩:=I.tuple h;obtain⟨its',r',⟨o',e',_,n',d'⟩,_⟩:=I.tuple h';rw [e] at e';cases e';rw [d] at d'
 injection d' with d1 _
 have:its=its':=by simpa using BZ Array.toList d1
 subst this;exact r.inj r'
end
abbrev Cx.dz(X:Cx)(E:Value->Shared->Prop):Cx:={X with xe:=E}
abbrev Cx.qu(X:Cx):Cx:=X.dz λ_ _=>False
theorem Cx.Ok.dz{X:Cx}(ok:X.Ok)(E:Value->Shared->Prop):(X.dz E).Ok:=
 ⟨ok.mod,ok.kind,ok.glob,ok.blt,ok.above,ok.inj,ok.has,ok.k7,ok.hd,ok.frames,ok.kr,ok.qt,ok.bs,ok.jl,ok.fe,ok.fY,ok.cA,ok.ku⟩
theorem Cx.Ok.bJ{X:Cx}{E:Value->Shared->Prop}(ok:(X.dz E).Ok):X.Ok:=
 ⟨ok.mod,ok.kind,ok.glob,ok.blt,ok.above,ok.inj,ok.has,ok.k7,ok.hd,ok.frames,ok.kr,ok.qt,ok.bs,ok.jl,ok.fe,ok.fY,ok.cA,ok.ku⟩
section
variable{X:Cx}{pins:List (Addr×Obj)}{σ:St}{H:Hp}{s:Shared}{E:Value->Shared->Prop}
theorem Inv.dz(I:Inv X pins σ H s)(E:Value->Shared->Prop):Inv (X.dz E) pins σ H s:=⟨I.ok.dz E,I.os,I.bare,I.base,I.loc,I.cell,I.free,I.bz,I.pin,I.aJ,I.len⟩
theorem Inv.bJ(I:Inv (X.dz E) pins σ H s):Inv X pins σ H s:=⟨I.ok.bJ,I.os,I.bare,I.base,I.loc,I.cell,I.free,I.bz,I.pin,I.aJ,I.len⟩
theorem SP.bJ{D:Ends}{f:Flow}{s':Shared}(h:SP (X.dz E) pins D f s'):SP X pins D f s':=by
 cases f with
 | next=>obtain⟨σ',H',I,q⟩:=h;exact⟨σ',H',I.bJ,q⟩
 | brk=>obtain⟨σ',H',I,q⟩:=h;exact⟨σ',H',I.bJ,q⟩
 | cont=>obtain⟨σ',H',I,q⟩:=h;exact⟨σ',H',I.bJ,q⟩
 | ret u=>obtain⟨v,σ',H',I,r,q⟩:=h;exact⟨v,σ',H',I.bJ,r,q⟩
theorem iV.qu{st:List Stmt}{t:TS}(h:iV X.qu st t):iV X st t:=λpins s σ H D I hw=>
 CK (h pins s σ H D (I.dz _) hw) (λ_ _ q=>q.bJ) λ_ _ z=>False.elim z
end
section
variable{X:Cx}{st:Stmt}{rest:List Stmt}{t u:TS}{e:Expr}{te:TE}{pos:Pos}
def SV:TS:=λD σ H=>D.nx σ H
def yS(t u:TS):TS:=λD σ H=>t {D with nx:=u D} σ H
theorem J6:iV X [] SV:=λ_ _ σ H _ I h=>RK ⟨σ,H,I,h⟩
theorem SW(h1:PS X st t)(h2:iV X rest u):iV X (st :: rest) (yS t u):=by
 intro pins s σ H D I h;refine wpAny_execs_cons<|aS (h1 pins s σ H {D with nx:=u D} I h) λf s1 q=>?_;cases f with
 | next=>
  obtain⟨σ',H',I',q⟩:=q;exact h2 pins s1 σ' H' D I' q
 | ret v=>exact q
 | brk=>exact q
 | cont=>exact q
theorem Inv.quiet{pins:List (Addr×Obj)}{σ:St}{H:Hp}{s:Shared}(I:Inv X pins σ H s):interactive X.env=false:=by simp [interactive,I.ok.kind]
def SY(te:TE):TS:=λD σ H=>te σ H λ_ H1=>D.nx σ H1
theorem SZ(he:PE X e te)(hs:swapsWith e none pos.line X.env=pure false:=by rfl):PS X (.Expr e pos) (SY te):=by
 intro pins s σ H D I h;exact wpAny_Expr_any (aS (he pins s σ H _ I h) λv s1 ⟨x,H1,I1,r1,q1⟩=>⟨σ,H1,I1,q1⟩) I.quiet hs
def yT(te:TE):TS:=λD σ H=>te σ H D.rt
theorem S0(he:PE X e te):PS X (.Return (some e) pos) (yT te):=by
 intro pins s σ H D I h;exact wpAny_Return_some<|aS (he pins s σ H _ I h) λv s1 ⟨x,H1,I1,r1,q1⟩=>⟨x,σ,H1,I1,r1,q1⟩
def yU(c:TT)(t u:TS):TS:=λD σ H=>c σ H λb H1=>if b=true then t D σ H1 else u D σ H1
theorem S1{c:Expr}{a b:List Stmt}{tc:TT}(hc:PT X c tc)(ha:iV X a t)(hb:iV X b u):PS X (.If c a b pos) (yU tc t u):=by
 intro pins s σ H D I h;refine wpAny_If<|aS (hc pins s σ H _ I h) λd s1 ⟨H1,I1,q1⟩=>?_;cases d with
 | true=>exact ha pins s1 σ H1 D I1 q1
 | false=>exact hb pins s1 σ H1 D I1 q1
end
abbrev TG:=V->St->Hp->(St->Hp->Prop)->Prop
abbrev oz:=List V->St->Hp->(St->Hp->Prop)->Prop
def PG(X:Cx)(target:Expr)(t:TG):Prop:=
 ∀(pins:List<|Addr×Obj) (s:Shared) (σ:St) (H:Hp) (v:V) (u:Value) (Q:St->Hp->Prop),Inv X pins σ H s->RelV v u->t v σ H Q ->
  wpAny (model X.prog X.w) X.A (assign target X.env u) (λ_ s'=>∃ σ' H',Inv X pins σ' H' s'/\Q σ' H') X.xe s
def vZ(X:Cx)(ts:List Expr)(t:oz):Prop:=
 ∀(pins:List<|Addr×Obj) (s:Shared) (σ:St) (H:Hp) (vs:List V) (us:List Value) (Q:St->Hp->Prop),Inv X pins σ H s->av vs us->t vs σ H Q ->
  wpAny (model X.prog X.w) X.A (assignInOrder ((assignEach ts X.env).map (·.2)) us) (λ_ s'=>∃ σ' H',Inv X pins σ' H' s'/\Q σ' H') X.xe s
section
variable{X:Cx}{pos:Pos}
def J8(i:Nat):TG:=λv σ H Q=>Q (σ.set i<|some v) H
theorem S3{i:Nat}{x:Str}(hN:X.N.Nodup)(hi:X.N[i]?=some x)(hx:Loc X.env.scope x)(hf:X.fn x=true\/X.env.scope.names.lookup x=some .local:=by first | exact .inl rfl | exact .inr rfl | assumption):PG X (.Name x pos) (J8 i):=by
 intro pins s σ H v u Q I r h;exact wpAny_assign_Name<|J0 I hN hi hx r (λs' I'=>⟨_,H,I',h⟩) hf
def oA:oz:=λvs σ H Q=>vs=[]/\Q σ H
def qv(t:TG)(u:oz):oz:=λvs σ H Q=>∃ v r,vs=v :: r/\t v σ H λσ' H'=>u r σ' H' Q
theorem J9:vZ X [] oA:=by
 intro pins s σ H vs us Q I r h;obtain⟨e,h⟩:=h;subst e;cases r;exact assignInOrder_nil ⟨σ,H,I,h⟩
theorem sf{e:Expr}{es:List Expr}{t:TG}{u:oz}(h1:PG X e t)(h2:vZ X es u)
  (hs:(assignEach (e :: es) X.env).map (·.2)=assign e X.env :: (assignEach es X.env).map (·.2):=by rfl):vZ X (e :: es) (qv t u):=by
 intro pins s σ H vs us Q I r h;obtain⟨v,vr,e1,h⟩:=h;subst e1;cases r with
 | cons r rr=>
  rw [hs];refine assignInOrder_cons<|aS (h1 pins s σ H _ _ _ I r h) λ_ s1 ⟨σ1,H1,I1,q1⟩=>?_;exact h2 pins s1 σ1 H1 _ _ Q I1 rr q1
def yV(K:PySem.W.Frag)(n:Nat)(t:oz):TG:=λv σ H Q=>∃ a xs,v = .ref a/\aW K H a xs/\xs.length=n/\t xs σ H Q
theorem Ka{es:List Expr}{k:Nat}{t:oz}{n:Nat}(hc:X.calm=true)(h:vZ X es t)
  (hn:(assignEach es X.env).length=n:=by rfl) (cR:(assignEach es X.env).findIdx? (·.1)=none:=by rfl):PG X (.Tuple es k pos) (yV X.K n t):=by
 intro pins s σ H v u Q I r hw;obtain⟨a,xs,e1,hq,hl,hw⟩:=hw;subst e1;cases r;obtain⟨its,rv,ht,hz⟩:=I.tuple hq;refine assign_Tuple_tuple (I.ok.hd hc) ht (by simp [hn,<- hl,rv.length]) cR λh' hx=>?_;have I1:Inv X pins σ H {s with heap:=h'}:=I.kept (t':=s.toks) λb o e=>hx b o (Cg<|Av e) e;exact h pins _ σ H xs _ Q I1 (by simpa using rv) hw
def sg(te:TE)(g:TG):TS:=λD σ H=>te σ H λx H1=>g x σ H1 D.nx
theorem S4{tg e:Expr}{te:TE}{g:TG}(he:PE X e te)(hg:PG X tg g)(hs:swapsWithSole [tg] e pos.line X.env=pure false:=by rfl)(hw:swappedStores [tg] e X.env=pure none:=by rfl)
  (h1:(assignEach [tg] X.env).map (·.2)=[assign tg X.env]:=by rfl):PS X (.Assign [tg] e pos) (sg te g):=by
 intro pins s σ H D I h;refine wpAny_Assign_stores (aS (he pins s σ H _ I h) λv s1 ⟨x,H1,I1,r1,q1⟩=>?_) hs hw;rw [h1];exact aS (hg pins s1 σ H1 x v _ I1 r1 q1) λ_ s2 q=>q
theorem S6{i:Nat}{x:Str}{e:Expr}{te:TE}{pos':Pos}(hN:X.N.Nodup)(hi:X.N[i]?=some x)(hx:Loc X.env.scope x)(he:PE X e te)(hs:swapsWith e (some<|.Name x pos') pos.line X.env=pure false:=by rfl)(hf:X.fn x=true\/X.env.scope.names.lookup x=some .local:=by first | exact .inl rfl | exact .inr rfl | assumption) :
  PS X (.Assign [.Name x pos'] e pos) (sg te<|J8 i):=by
 intro pins s σ H D I h;refine wpAny_Assign_Name (aS (he pins s σ H _ I h) λv s1 ⟨y,H1,I1,r1,q1⟩=>?_) hs;exact J0 I1 hN hi hx r1 (λs2 I2=>⟨_,H1,I2,q1⟩) hf
def S7(c:TT)(tb:TS):TS:=λD σ H=>∃ W:Nat->St->Hp->Prop,(∃ m,W m σ H)/\∀ m σ H,W m σ H ->
 c σ H λb H1=>if b=true then ∃ N:St->Hp->Prop,(∀ σ' H',N σ' H'->∃ m',m' < m/\W m' σ' H')/\tb {D with nx:=N,ct:=N,bk:=D.nx} σ H1 else D.nx σ H1
theorem S8{c:Expr}{body:List Stmt}{tc:TT}{tb:TS}(hp:PassesOwn (model X.prog X.w) X.A X.env X.xe)(hc:PT X c tc)(hb:iV X body tb):PS X (.While c body [] pos) (S7 tc tb):=by
 intro pins s σ H D I h;obtain⟨W,⟨m0,w0⟩,turn⟩:=h;refine wpAny_While<|codeAny_whileLoop (λn s'=>∃ σ' H',Inv X pins σ' H' s'/\W n σ' H') ?_ m0 ⟨σ,H,I,w0⟩;rintro n s1 ⟨σ1,H1,I1,w1⟩;refine GX hp<|aS (hc pins s1 σ1 H1 _ I1<|turn n σ1 H1 w1) λb s2 ⟨H2,I2,q2⟩=>?_;cases b with
 | true=>
  obtain⟨N,hN,q2⟩:=q2;rw [BL rfl];refine GX hp<|aS (hb pins s2 σ1 H2 _ I2 q2) λf s3 q3=>?_;cases f with
  | next=>
   obtain⟨σ3,H3,I3,n3⟩:=q3;obtain⟨m',hm,w3⟩:=hN σ3 H3 n3;exact⟨m',hm,σ3,H3,I3,w3⟩
  | cont=>
   obtain⟨σ3,H3,I3,n3⟩:=q3;obtain⟨m',hm,w3⟩:=hN σ3 H3 n3;exact⟨m',hm,σ3,H3,I3,w3⟩
  | brk=>exact q3
  | ret v=>exact q3
 | false=>
  rw [BK Aq];exact RK ⟨σ1,H2,I2,q2⟩
end
structure It where
 go:Nat->Hp->Prop
 si:Nat->Hp->V->Hp->Prop
 stop:Nat->Hp->Prop
def cX(X:Cx)(pins:List<|Addr×Obj)(H:Hp)(b:Addr):Prop:=
 H b=none/\b≠X.env.locals/\b∉X.fs/\(b∈X.ex\/X.s₀.heap.objs.size<=b)/\(∀ x c,X.env.cells.lookup x=some c->c≠b)/\∀ p∈X.pn++pins,p.1≠b
theorem Inv.oB{X:Cx}{pins:List (Addr×Obj)}{σ:St}{H H':Hp}{s:Shared}{b:Addr}(I:Inv X pins σ H s)(hb:s.heap.objs.size<=b)(hn:H' b=none):cX X pins H' b:=by
 refine⟨hn,Dc<|Bj I.lt hb,I.yJ hb,.inr<|Cp I.sz hb,λx c e z=>?_,λp hp z=>?_⟩
 ·obtain⟨v,q⟩:=I.cell x c e;exact absurd (Bj q.lt<|by rw [z];exact hb)<|Cu _
 ·exact absurd (Bj (Av (I.pin p hp).1)<|by rw [z];exact hb)<|Cu _
structure Turn(P:Program)(w:World)(K:PySem.W.Frag)(tg:Expr)(J:It)(fp:List Addr)(it:Addr)(tn:Nat->Heap->Prop):Prop where
 mem:it∈fp
 obj:∀ i h,tn i h->∀ b∈fp,∃ o,h.get? b=some o/\∀ v,o.data ≠ .cell v
 keep:∀ i h h',tn i h->(∀ b∈fp,∀ o,h.get? b=some o->h'.get? b=some o)->tn i h'
 item:∀(X:Cx),X.prog=P->X.w=w->X.K=K->X.calm=true->∀(i:Nat) (pins:List<|Addr×Obj) (s:Shared) (σ:St) (H:Hp) (E:Value->Shared->Prop),Inv X pins σ H s->(∀ b∈fp,cX X pins H b)->tn i s.heap->J.go i H ->
  wpAny (model P w) X.A (pyNext<|.ref it) (λr s1=>∃ u,r=some u /\
   wpAny (model P w) X.A (letOwnedTupleGo tg (.ref it) u) (λ_ s2=>∃ x H',Inv X pins σ H' s2/\RelV x u/\J.si i H x H'/\tn (i+1) s2.heap/\∀ b∈fp,H' b=none) E s1) E s
 done:∀(X:Cx),X.prog=P->X.w=w->X.K=K->X.calm=true->∀(i:Nat) (pins:List<|Addr×Obj) (s:Shared) (σ:St) (H:Hp) (E:Value->Shared->Prop),Inv X pins σ H s->(∀ b∈fp,cX X pins H b)->tn i s.heap->J.stop i H ->
  wpAny (model P w) X.A (pyNext<|.ref it) (λr s1=>r=none/\Inv X pins σ H s1) E s
 self:∀(A:Around) (i:Nat) (s:Shared) (Q:Value->Shared->Prop) (E:Value->Shared->Prop),tn i s.heap->Q (.ref it) s->wpAny (model P w) A (pyIter<|.ref it) Q E s
abbrev TI:=St->Hp->(It->Hp->Prop)->Prop
def Kb(X:Cx)(pins:List<|Addr×Obj)(σ:St)(tg:Expr)(R:It->Hp->Prop)(qw:Value)(s2:Shared):Prop:=
 ∃(it:Addr) (fp:List Addr) (tn:Nat->Heap->Prop) (J:It) (H':Hp),qw = .ref it/\Inv X pins σ H' s2/\Turn X.prog X.w X.K tg J fp it tn/\tn 0 s2.heap/\(∀ b∈fp,cX X pins H' b)/\R J H'
def PI(X:Cx)(tg iter:Expr)(wi:TI):Prop:=
 ∀(pins:List<|Addr×Obj) (s:Shared) (σ:St) (H:Hp) (R:It->Hp->Prop),Inv X pins σ H s->wi σ H R ->
  wpAny (model X.prog X.w) X.A (eval iter X.env) (λv s1=>wpAny (model X.prog X.w) X.A (pyIter v) (Kb X pins σ tg R) X.xe s1) X.xe s
theorem yW{M:Model}{A:Around}{E:Value->Shared->Prop}{s:Shared}{tg:Expr}{it:Addr}{u:Value}{o:Obj}{n:String}{vs:Array Value}{Q:Unit->Shared->Prop}(ho:s.heap.get? it=some o)(hc:o.cls = .type n)(hd:o.data = .fields vs)
    (hn:["enumerate","zip","dict_itemiterator","dict_reverseitemiterator","odict_iterator","itertools.zip_longest","itertools.pairwise"].contains n=false) (hQ:Q () s):wpAny M A (letOwnedTupleGo tg (.ref it) u) Q E s:=by
  unfold letOwnedTupleGo;cases tg <;> first
    | exact BP hQ
    | (cases u <;> first
        | exact BP hQ
        | (refine BJ<|wpAny_load ho ?_
           rw [hc,hd];show wpAny M A (if(["enumerate","zip","dict_itemiterator","dict_reverseitemiterator","odict_iterator","itertools.zip_longest","itertools.pairwise"].contains n && vs[0]? == some (rawInt _))=true then _ else _) Q E s;rw [BK<|by intro h;rw [hn,Bool.false_and] at h;cases h];exact BP hQ))
def oD(K:PySem.W.Frag)(a:Addr):It:=
 ⟨λi H=>∃ xs x,al K H a xs/\xs[i]?=some x,λi H x H'=>H'=H/\∀ xs,al K H a xs->xs[i]?=some x,λi H=>∃ xs,al K H a xs/\xs.length<=i⟩
def v5(K:PySem.W.Frag)(a:Addr):It:=
 ⟨λi H=>∃ xs x,aW K H a xs/\xs[i]?=some x,λi H x H'=>H'=H/\∀ xs,aW K H a xs->xs[i]?=some x,λi H=>∃ xs,aW K H a xs/\xs.length<=i⟩
def qz(lo:Int)(n:Nat):It:=⟨λi _=>i < n,λi H x H'=>H'=H/\x = .int (lo+i),λi _=>n<=i⟩
theorem S9{P:Program}{w:World}{K:PySem.W.Frag}{tg:Expr}(a it:Addr):Turn P w K tg (oD K a) [it] it (λi h=>h.IsListIter it a i) where
 mem:=by simp
 obj:=λi h st b hb=>by
  have e:b=it:=by simpa using hb
  subst e;obtain⟨o,e,c,d⟩:=st;exact⟨o,e,λv z=>by rw [d] at z;cases z⟩
 keep:=λi h h' st k=>st.at λo e=>k it (by simp) o e
 item:=by
  intro X hP hw hK hc i pins s σ H E I hf st hg;subst hP hw hK;obtain⟨xs,x,hq,hx⟩:=hg;obtain⟨its,rv,p,hz⟩:=I.list hq;obtain⟨u,hu,ru⟩:=rv.get hx;obtain⟨f0,f1,f2,f3,f4,f5⟩:=hf it (by simp);refine HY st p.isList (x:=u) (by simpa using hu) λh' cS sb=>?_;have I1:Inv X pins σ H {s with heap:=h'}:=I.turned (t':=s.toks) (λb o hb e=>(sb.2 b hb).trans e) f0 f1 f3 f4 f5;obtain⟨o,e,c,d⟩:=id cS;exact⟨u,rfl,yW (s:={s with heap:=h'}) e c d (by decide) ⟨x,H,I1,ru,⟨rfl,λys hy=>by rw [I.jC hy hq];exact hx⟩,cS,λb hb=>(hf b hb).1⟩⟩
 done:=by
  intro X hP hw hK hc i pins s σ H E I hf st hg;subst hP hw hK;obtain⟨xs,hq,hx⟩:=hg;obtain⟨its,rv,p,hz⟩:=I.list hq;obtain⟨f0,f1,f2,f3,f4,f5⟩:=hf it (by simp);have hl:=rv.length;exact KC (I.ok.hd hc) st p.isList (by simp;omega) λh' eb=>⟨rfl,I.turned (t':=s.toks) (λb o hb e=>eb b o hb e) f0 f1 f3 f4 f5⟩
 self:=λ_ _ _ _ _ st h=>wpAny_pyIter_listiter st h
theorem Ta{P:Program}{w:World}{K:PySem.W.Frag}{tg:Expr}(a it:Addr):Turn P w K tg (v5 K a) [it] it (λi h=>h.IsTupleIter it a i) where
 mem:=by simp
 obj:=λi h st b hb=>by
  have e:b=it:=by simpa using hb
  subst e;obtain⟨o,e,c,d⟩:=st;exact⟨o,e,λv z=>by rw [d] at z;cases z⟩
 keep:=λi h h' st k=>st.at λo e=>k it (by simp) o e
 item:=by
  intro X hP hw hK hc i pins s σ H E I hf st hg;subst hP hw hK;obtain⟨xs,x,hq,hx⟩:=hg;obtain⟨its,rv,p,hz⟩:=I.tuple hq;obtain⟨u,hu,ru⟩:=rv.get hx;obtain⟨f0,f1,f2,f3,f4,f5⟩:=hf it (by simp);refine wpAny_pyNext_tuple_item st (show s.heap.IsTuple a its.toArray from p) (x:=u) (by simpa using hu) λh' cS sb=>?_;have I1:Inv X pins σ H {s with heap:=h'}:=I.turned (t':=s.toks) (λb o hb e=>(sb.2 b hb).trans e) f0 f1 f3 f4 f5;obtain⟨o,e,c,d⟩:=id cS;exact⟨u,rfl,yW (s:={s with heap:=h'}) e c d (by decide) ⟨x,H,I1,ru,⟨rfl,λys hy=>by rw [I.iW hy hq];exact hx⟩,cS,λb hb=>(hf b hb).1⟩⟩
 done:=by
  intro X hP hw hK hc i pins s σ H E I hf st hg;subst hP hw hK;obtain⟨xs,hq,hx⟩:=hg;obtain⟨its,rv,p,hz⟩:=I.tuple hq;obtain⟨f0,f1,f2,f3,f4,f5⟩:=hf it (by simp);have hl:=rv.length;exact wpAny_pyNext_tuple_end (I.ok.hd hc) st (show s.heap.IsTuple a its.toArray from p) (by simp;omega) λh' eb=>⟨rfl,I.turned (t':=s.toks) (λb o hb e=>eb b o hb e) f0 f1 f3 f4 f5⟩
 self:=λ_ _ _ _ _ st h=>wpAny_pyIter_tupleiter st h
theorem Tb{P:Program}{w:World}{K:PySem.W.Frag}{tg:Expr}(it:Addr)(lo:Int)(n:Nat):Turn P w K tg (qz lo n) [it] it (λi h=>IsRangeIter h it (lo+(i:Nat) * 1) ((n:Int) - (i:Nat)) 1) where
 mem:=by simp
 obj:=λi h st b hb=>by
  have e:b=it:=by simpa using hb
  subst e;exact⟨_,st,λv z=>by
   have z':Data.fields _=Data.cell v:=z;cases z'⟩
 keep:=λi h h' st k=>k it (by simp) _ st
 item:=by
  intro X hP hw hK hc i pins s σ H E I hf st hg;subst hP hw hK;obtain⟨f0,f1,f2,f3,f4,f5⟩:=hf it (by simp);have W:=Walks.range (prog:=X.prog) (w:=X.w) (I.ok.hd hc) it lo 1 n;refine W.item i s _ _ hg st λv h' tk hv cS kk=>?_;obtain⟨t,rfl⟩:=hv;have I1:Inv X pins σ H {s with heap:=h',toks:=tk}:=I.turned (λb o hb e=>kk b o (by simpa using hb) e) f0 f1 f3 f4 f5;refine⟨_,rfl,yW (s:={s with heap:=h',toks:=tk}) (n:= "range_iterator") cS rfl rfl (by decide) ⟨.int<|lo+i,H,I1,⟨t,?_⟩,⟨rfl,rfl⟩,cS,λb hb=>(hf b hb).1⟩⟩;rw [Int.mul_one]
 done:=by
  intro X hP hw hK hc i pins s σ H E I hf st hg;subst hP hw hK;obtain⟨f0,f1,f2,f3,f4,f5⟩:=hf it (by simp);exact wpAny_pyNext_range_end (I.ok.hd hc) st (by have:n<=i:=hg;omega) λh' eb=>⟨rfl,I.turned (t':=s.toks) (λb o hb e=>eb b o hb e) f0 f1 f3 f4 f5⟩
 self:=λ_ _ _ _ _ st h=>wpAny_pyIter_rangeiter st h
section
variable{X:Cx}{tg:Expr}
def Tc(K:PySem.W.Frag)(tl:TE):TI:=λσ H R=>tl σ H λx H1=>∃ a,x = .ref a/\(∃ xs,al K H1 a xs)/\R (oD K a) H1
def yX(K:PySem.W.Frag)(tl:TE):TI:=λσ H R=>tl σ H λx H1=>∃ a,x = .ref a/\(∃ xs,aW K H1 a xs)/\R (v5 K a) H1
theorem jm{l:Expr}{tl:TE}(hl:PE X l tl):PI X tg l (Tc X.K tl):=by
 intro pins s σ H R I h;refine aS (hl pins s σ H _ I h) λv s1 ⟨x,H1,I1,r1,q1⟩=>?_;obtain⟨a,e,⟨xs,hq⟩,q⟩:=q1;subst e;cases r1;obtain⟨its,rv,p,hz⟩:=I1.list hq;refine NZ p.isList ?_;refine⟨s1.heap.objs.size,[s1.heap.objs.size],_,_,H1,rfl,I1.kept (t':=s1.toks) λb o e=>Ai _ e,S9 a _,⟨_,Be _ rfl,rfl,rfl⟩,λb hb=>?_,q⟩;have e:b=s1.heap.objs.size:=by simpa using hb
 subst e;exact I1.oB (Ao _)<|I1.aJ.fresh<|Ao _
theorem Td{l:Expr}{tl:TE}(hl:PE X l tl):PI X tg l (yX X.K tl):=by
 intro pins s σ H R I h;refine aS (hl pins s σ H _ I h) λv s1 ⟨x,H1,I1,r1,q1⟩=>?_;obtain⟨a,e,⟨xs,hq⟩,q⟩:=q1;subst e;cases r1;obtain⟨its,rv,p,hz⟩:=I1.tuple hq;refine wpAny_pyIter_tuple (show s1.heap.IsTuple a its.toArray from p) ?_;refine⟨s1.heap.objs.size,[s1.heap.objs.size],_,_,H1,rfl,I1.kept (t':=s1.toks) λb o e=>Ai _ e,Ta a _,⟨_,Be _ rfl,rfl,rfl⟩,λb hb=>?_,q⟩;have e:b=s1.heap.objs.size:=by simpa using hb
 subst e;exact I1.oB (Ao _)<|I1.aJ.fresh<|Ao _
theorem Te{pins:List (Addr×Obj)}{σ:St}{H:Hp}{s:Shared}{R:It->Hp->Prop}{E:Value->Shared->Prop}{lo hi:Int}{t u v:Tok}{tk:Nat}(I:Inv X pins σ H s)(h1:-(2 ^ 62)<=lo)(h2:lo < 2 ^ 62)(h3:-(2 ^ 62)<=hi)(h4:hi < 2 ^ 62)
  (q:R (qz lo (hi - lo).toNat) H):wpAny (model X.prog X.w) X.A (pyIter<|.ref s.heap.objs.size) (Kb X pins σ tg R) E {s with heap:=s.heap.push {cls:= .type "range",data:= .fields #[.int lo t,.int hi u,.int 1 v]},toks:=tk}:=by
 refine wpAny_pyIter_range (IsRange.new ..) (small_one h1 h2 h3 h4) ?_;have I1:Inv X pins σ H {s with heap:=s.heap.push {cls:= .type "range",data:= .fields #[.int lo t,.int hi u,.int 1 v]},toks:=tk}:=I.kept λb o e=>Ai _ e;refine⟨(s.heap.push {cls:= .type "range",data:= .fields #[.int lo t,.int hi u,.int 1 v]}).objs.size,[(s.heap.push {cls:= .type "range",data:= .fields #[.int lo t,.int hi u,.int 1 v]}).objs.size],_,_,H,rfl,
  I1.kept (t':=tk) λb o e=>Ai _ e,Tb _ lo (hi - lo).toNat,?_,λb hb=>?_,q⟩
 ·have e1:lo+((0:Nat):Int) * 1=lo:=by simp
  have e2:(((hi - lo).toNat:Nat):Int) - ((0:Nat):Int)=Builtin.Range.rangeSize lo hi 1:=by rw [rangeSize_one];split <;> omega
  show IsRangeIter _ _ (lo+((0:Nat):Int) * 1) ((((hi - lo).toNat:Nat):Int) - ((0:Nat):Int)) 1;rw [e1,e2];exact Be _ rfl
 ·have e:b=(s.heap.push {cls:= .type "range",data:= .fields #[.int lo t,.int hi u,.int 1 v]}).objs.size:=by simpa using hb
  subst e;exact I1.oB (Ao _)<|I1.aJ.fresh<|Ao _
def Kc(ta:TA):TI:=λσ H R=>ta σ H λvs H1=>∃ j:Int,vs=[.int j]/\-(2 ^ 62)<=j/\j < 2 ^ 62/\R (qz 0 j.toNat) H1
theorem Kd{a:Expr}{ta:TA}{p pos:Pos}(hg:Gl X "range")(hm:X.mg "range" = none)(ha:PA X [a] ta)(hs:starEach [a] X.env=[(false,eval a X.env)]:=by rfl):PI X tg (.Call (.Name "range" p) [a] [] pos) (Kc ta):=by
 intro pins s σ H R I h;refine Call_<|vX I hg hm boot_range<|MK (aS (ha pos pins s σ H _ I h) λus s1 ⟨vs,H1,I1,r1,q1⟩=>?_) hs rfl;obtain⟨j,e,q1,q2,q⟩:=q1;subst e;cases r1 with
 | cons r rr=>
  cases rr;obtain⟨t,rfl⟩:=r;exact call_range_1<|Te I1 (by omega) (by omega) q1 q2<|by simpa using q
def yY(wi:TI)(g:TG)(tb:TS):TS:=λD σ H=>wi σ H λJ H1=>∃ W:Nat->Nat->St->Hp->Prop,(∃ m,W 0 m σ H1)/\∀ i m σ H,W i m σ H ->
 (J.stop i H/\D.nx σ H)\/(J.go i H/\∃ N:St->Hp->Prop,(∀ σ' H',N σ' H'->∃ m',m' < m/\W (i+1) m' σ' H')/\∀ x H',J.si i H x H'->g x σ H' λσ2 H2=>tb {D with nx:=N,ct:=N,bk:=D.nx} σ2 H2)
def sj(fp:List Addr)(h:Heap):List (Addr×Obj):=fp.filterMap λb=>(h.get? b).map λo=>(b,o)
theorem v6{fp:List Addr}{h:Heap}{b:Addr}{o:Obj}(hb:b∈fp)(e:h.get? b=some o):(b,o)∈sj fp h:=List.mem_filterMap.mpr ⟨b,hb,by rw [e];rfl⟩
theorem Tf{fp:List Addr}{h:Heap}{p:Addr×Obj}(hp:p∈sj fp h):p.1∈fp/\h.get? p.1=some p.2:=by
 obtain⟨b,hb,e⟩:=List.mem_filterMap.mp hp;cases q:h.get? b with
 | none=>rw [q] at e;cases e
 | some o=>
  rw [q] at e;have e':(b,o)=p:=Option.some.inj e;subst e';exact⟨hb,q⟩
theorem Inv.pinned{pins:List (Addr×Obj)}{σ:St}{H:Hp}{s:Shared}{fp:List Addr}(I:Inv X pins σ H s)(hf:∀ b∈fp,cX X pins H b)(ho:∀ b∈fp,∃ o,s.heap.get? b=some o/\∀ v,o.data ≠ .cell v):Inv X (pins++sj fp s.heap) σ H s:=
 I.iw λp hp=>(Ap.mp hp).elim (λz=>I.pin p<|Ar _ z) λz=>by
  obtain⟨hb,e⟩:=Tf z;obtain⟨f0,f1,f2,_⟩:=hf p.1 hb;obtain⟨o,e',d⟩:=ho p.1 hb;rw [e] at e';cases e';exact⟨e,f0,f1,f2,d⟩
theorem Inv.cY{pins pl:List (Addr×Obj)}{σ:St}{H:Hp}{s:Shared}(I:Inv X (pins++pl) σ H s):Inv X pins σ H s:=I.iw λp hp=>I.pin p<|Ar _<|As _ hp
theorem Tg{iter:Expr}{body:List Stmt}{wi:TI}{g:TG}{tb:TS}{pos:Pos}(hp:PassesOwn (model X.prog X.w) X.A X.env X.xe)(hc:X.calm=true)(hi:PI X tg iter wi)(hg:PG X tg g)(hb:iV X body tb)
  (hs:∀ x,foldedSetIterable iter X.env x=pure x:=by intro _;rfl):PS X (.For tg iter body [] pos) (yY wi g tb):=by
 intro pins s σ H D I h;refine wpAny_For (aS (hi pins s σ H _ I h) λv s1 h1=>aS h1 λqw s2 h2=>?_) hs;obtain⟨it,fp,tn,J,H2,e,I2,T,iC,f2,W,⟨m0,w0⟩,turn⟩:=h2;subst e;have stat:∀{H':Hp},(∀ b∈fp,H' b=none)->∀ b∈fp,cX X pins H' b:=λhn b hb=>⟨hn b hb,(f2 b hb).2⟩;refine codeAny_forLoop_any (λn s'=>∃ i σ' H',Inv X pins σ' H' s'/\tn i s'.heap/\(∀ b∈fp,H' b=none)/\W i n σ' H') ?_ m0 ⟨0,σ,H2,I2,iC,λb hb=>(f2 b hb).1,w0⟩;rintro n s3 ⟨i,σ3,H3,I3,Ke,Kf,w3⟩
 rcases turn i n σ3 H3 w3 with ⟨stop,qn⟩ | ⟨go,N,hN,step⟩
 ·refine GX hp<|aS (T.done X rfl rfl rfl hc i pins s3 σ3 H3 X.xe I3 (stat Kf) Ke stop) λr s4 ⟨hr,I4⟩=>?_;subst hr;exact RK ⟨σ3,H3,I4,qn⟩
 ·refine GX hp<|aS (T.item X rfl rfl rfl hc i pins s3 σ3 H3 X.xe I3 (stat Kf) Ke go) λr s4 ⟨u,hr,h4⟩=>?_;subst hr;refine GX hp<|aS h4 λ_ s5 ⟨x,H5,I5,r5,y5,yZ,Ti⟩=>?_;have Tj:=I5.pinned (stat Ti)<|T.obj _ _ yZ;refine GX hp<|aS (hg _ s5 σ3 H5 x u _ Tj r5<|step x H5 y5) λ_ s6 ⟨σ6,H6,I6,q6⟩=>?_;refine GX hp<|aS (hb _ s6 σ6 H6 _ I6 q6) λf s7 q7=>?_;have again:∀{σ7:St} {H7:Hp},Inv X (pins++sj fp s5.heap) σ7 H7 s7->N σ7 H7->∃ m,m < n/\∃ i σ' H',Inv X pins σ' H' s7/\tn i s7.heap/\(∀ b∈fp,H' b=none)/\W i m σ' H':=λ{σ7 H7} I7 n7=>by
   obtain⟨m',hm,w7⟩:=hN σ7 H7 n7;refine⟨m',hm,i+1,σ7,H7,I7.cY,T.keep _ _ _ yZ λb hb o e=>(I7.pin (b,o)<|Ar _<|Ar _<|v6 hb e).1,λb hb=>?_,w7⟩;obtain⟨o,e,d⟩:=T.obj _ _ yZ b hb;exact(I7.pin (b,o)<|Ar _<|Ar _<|v6 hb e).2.1
  cases f with
  | next=>obtain⟨σ7,H7,I7,n7⟩:=q7;exact again I7 n7
  | cont=>obtain⟨σ7,H7,I7,n7⟩:=q7;exact again I7 n7
  | brk=>obtain⟨σ7,H7,I7,q7⟩:=q7;exact⟨σ7,H7,I7.cY,q7⟩
  | ret v=>obtain⟨x7,σ7,H7,I7,r7,q7⟩:=q7;exact⟨x7,σ7,H7,I7.cY,r7,q7⟩
end
abbrev R2:=V->V->Hp->VK->Prop
def dB(X:Cx)(f:Value->Value->Sem Value)(r:R2):Prop:=
 ∀(pins:List<|Addr×Obj) (s:Shared) (σ:St) (H:Hp) (x y:V) (v u:Value) (Q:VK),Inv X pins σ H s->RelV x v->RelV y u->r x y H Q ->
  wpAny (model X.prog X.w) X.A (f v u) (EP X pins σ Q) X.xe s
def fh(X:Cx)(f:Value)(r:List V->Hp->VK->Prop):Prop:=
 ∀(pins:List<|Addr×Obj) (s:Shared) (σ:St) (H:Hp) (xs:List V) (us:List Value) (Q:VK),Inv X pins σ H s->av xs us->r xs H Q ->
  wpAny (model X.prog X.w) X.A (call f us) (EP X pins σ Q) X.xe s
def y0(X:Cx)(r:V->Hp->(Bool->Hp->Prop)->Prop):Prop:=
 ∀(pins:List<|Addr×Obj) (s:Shared) (σ:St) (H:Hp) (x:V) (v:Value) (Q:Bool->Hp->Prop),Inv X pins σ H s->RelV x v->r x H Q ->
  wpAny (model X.prog X.w) X.A (truthy v) (TP X pins σ Q) X.xe s
def v7(r:R2)(ta tb:TE):TE:=λσ H Q=>ta σ H λx H1=>tb σ H1 λy H2=>r x y H2 Q
def rI(C:Int->Int->Prop)(g:Int->Int->V):R2:=λx y H Q=>∃ i j,x = .int i/\y = .int j/\C i j/\Q (g i j) H
def sq(g:Int->Int->V):R2:=λx y H Q=>∃ i j,x = .int i/\y = .int j/\Q (g i j) H
section
variable{X:Cx}{a b c:Expr}{ta tb tc:TE}{pos:Pos}
theorem oE(ha:PE X a ta)(hb:PE X b tb){pins:List (Addr×Obj)}{s:Shared}{σ:St}{H:Hp}{R:V->V->Hp->Prop}(I:Inv X pins σ H s)
  (h:ta σ H λx H1=>tb σ H1 λy H2=>R x y H2) {Q:Value->Shared->Prop} {f:Value->Value->Sem Value}
  (hf:∀ v u s2 x y H2,Inv X pins σ H2 s2->RelV x v->RelV y u->R x y H2->wpAny (model X.prog X.w) X.A (f v u) Q X.xe s2) :
  wpAny (model X.prog X.w) X.A (eval a X.env) (λv s₁=>wpAny (model X.prog X.w) X.A (eval b X.env) (λu s₂=>wpAny (model X.prog X.w) X.A (f v u) Q X.xe s₂) X.xe s₁) X.xe s:=by
 refine aS (ha pins s σ H _ I h) λv s1 ⟨x,H1,I1,r1,q1⟩=>?_;refine aS (hb pins s1 σ H1 _ I1 q1) λu s2 ⟨y,H2,I2,r2,q2⟩=>?_;exact hf v u s2 x y H2 I2 r1 r2 q2
theorem Tl{op:Operator}{r:R2}(ho:dB X (binaryOp op) r)(ha:PE X a ta)(hb:PE X b tb):PE X (.BinOp a op b pos) (v7 r ta tb):=by
 intro pins s σ H Q I h;exact wpAny_BinOp<|oE ha hb I h λv u s2 x y H2 I2 rx ry q=>ho pins s2 σ H2 x y v u Q I2 rx ry q
theorem v8{f:Value->Value->Sem Value}{C:Int->Int->Prop}{g:Int->Int->Int}
  (rule:∀(i j:Int) (t u:Tok) (s:Shared) (Q:Value->Shared->Prop) (E:Value->Shared->Prop),C i j->Q (.int (g i j) s.toks) {s with toks:=s.toks+1}->wpAny (model X.prog X.w) X.A (f (.int i t)<|.int j u) Q E s) :
  dB X f (rI C λi j=> .int<|g i j):=by
 intro pins s σ H x y v u Q I rx ry h;obtain⟨i,j,rfl,rfl,hc,q⟩:=h;obtain⟨t,rfl⟩:=rx;obtain⟨t',rfl⟩:=ry;exact rule i j t t' s _ _ hc ⟨.int<|g i j,H,I.tok _,⟨_,rfl⟩,q⟩
theorem y4{f:Value->Value->Sem Value}{g:Int->Int->Int}
  (rule:∀(i j:Int) (t u:Tok) (s:Shared) (Q:Value->Shared->Prop) (E:Value->Shared->Prop),Q (.int (g i j) s.toks) {s with toks:=s.toks+1}->wpAny (model X.prog X.w) X.A (f (.int i t)<|.int j u) Q E s) :
  dB X f (sq λi j=> .int<|g i j):=by
 intro pins s σ H x y v u Q I rx ry h;obtain⟨i,j,rfl,rfl,q⟩:=h;obtain⟨t,rfl⟩:=rx;obtain⟨t',rfl⟩:=ry;exact rule i j t t' s _ _ ⟨.int<|g i j,H,I.tok _,⟨_,rfl⟩,q⟩
theorem su{f:Value->Value->Sem Value}{g:Int->Int->Bool}
  (rule:∀(i j:Int) (t u:Tok) (s:Shared) (Q:Value->Shared->Prop) (E:Value->Shared->Prop),Q (.bool<|g i j) s->wpAny (model X.prog X.w) X.A (f (.int i t)<|.int j u) Q E s) :
  dB X f (sq λi j=> .bl<|g i j):=by
 intro pins s σ H x y v u Q I rx ry h;obtain⟨i,j,rfl,rfl,q⟩:=h;obtain⟨t,rfl⟩:=rx;obtain⟨t',rfl⟩:=ry;exact rule i j t t' s _ _ ⟨.bl<|g i j,H,I,rfl,q⟩
def sv(i j:Int):Prop:=0 < j/\j < 1073741824
def y7(i j:Int):Prop:=0<=j/\j<=1000000/\i.natAbs < 2 ^ 64
def oF(i j:Int):Prop:=(-(2 ^ 64) < i/\i < 2 ^ 64)\/(-(2 ^ 64) < j/\j < 2 ^ 64)
theorem oF.ok{i j:Int}(h:oF i j):IntMulOk i j:=by
 rcases h with ⟨h1,h2⟩ | ⟨h1,h2⟩
 ·exact .of_left<|intBits_le_64 h1 h2
 ·exact .of_right<|intBits_le_64 h1 h2
theorem fK:dB X (binaryOp .Add) (sq λi j=> .int<|i+j):=y4 λ_ _ _ _ _ _ _ q=>add_int q
theorem sw:dB X (binaryOp .Mult) (rI oF λi j=> .int<|i * j):=v8 λ_ _ _ _ _ _ _ hc q=>mul_int q hc.ok
theorem iD:dB X (binaryOp .FloorDiv) (rI sv λi j=> .int<|i / j):=v8 λi j _ _ _ _ _ hc q=>by
 have h1:(0:Int) < j:=hc.1;have h2:j < 1073741824:=hc.2;exact floordiv_int (by omega) (by rw [Int.fdiv_eq_ediv_of_nonneg i<|by omega];exact q)<|.inl<|PyProof.noPylong_small<|by omega
theorem dk:dB X (binaryOp .Mod) (rI (λ_ j=>0 < j) λi j=> .int<|i % j):=v8 λi j _ _ _ _ _ hc q=>by
 have h1:(0:Int) < j:=hc;exact mod_int' (by omega)<|by rw [Int.fmod_eq_emod_of_nonneg i<|by omega];exact q
theorem y8:dB X (binaryOp .Pow) (rI y7 λi j=> .int<|i ^ j.toNat):=v8 λ_ _ _ _ _ _ _ hc q=>pow_int_small hc.1 hc.2.1 hc.2.2 q
def sx:V->V->Bool
 | .non,.non=>true | .non,.int _=>true | .int _,.non=>true | .non,.bl _=>true | .bl _,.non=>true | .non,.str _=>true | .str _,.non=>true
 | .int _,.int _=>true | .bl _,.bl _=>true | .str _,.str _=>true | .iU _,.iU _=>true
 | .int _,.str _=>true | .str _,.int _=>true | .bl _,.str _=>true | .str _,.bl _=>true
 | _,_=>false
def Tn:R2:=λx y H Q=>sx x y=true/\Q (.bl<|decide (x=y)) H
def Tq:R2:=λx y H Q=>sx x y=true/\Q (.bl (!decide (x=y))) H
theorem Kg{i j:Int}:decide (V.int i=V.int j)=(i == j):=by
 rw [Eu];simp
theorem y9{i j:Bool}:decide (V.bl i=V.bl j)=(i == j):=by
 rw [Eu];simp
theorem Kh{i j:Str}:decide (V.str i=V.str j)=(i == j):=by
 rw [Eu];simp
theorem Ki{i j:Array UInt8}:decide (V.iU i=V.iU j)=(i.toList == j.toList):=by
 rw [Eu];cases i;cases j;simp
theorem cT{pins:List (Addr×Obj)}{σ:St}{H:Hp}{s:Shared}{Q:VK}{k k':Bool}(I:Inv X pins σ H s)(q:Q (.bl k) H)(e:k=k'):EP X pins σ Q (.bool k') s:=by
 subst e;exact⟨.bl k,H,I,rfl,q⟩
theorem g9:dB X (compareOp .Eq) Tn:=by
 intro pins s σ H x y v u Q I rx ry h;obtain⟨hs,q⟩:=h;cases x with
 | non=>
  cases rx;cases y with
  | non=>cases ry;exact PySem.EqNone.eq_none_none<|cT I q<|by simp
  | bl j=>cases ry;exact PySem.EqNone.eq_none_bool<|cT I q<|by simp
  | int j=>obtain⟨t',rfl⟩:=ry;exact PySem.EqNone.eq_none_int<|cT I q<|by simp
  | str j=>obtain⟨t',rfl⟩:=ry;exact PySem.EqNone.eq_none_str<|cT I q<|by simp
  | _=>exact absurd (show false=true from hs) Aq
 | bl i=>
  cases rx;cases y with
  | non=>cases ry;exact PySem.EqNone.eq_bool_none<|cT I q<|by simp
  | bl j=>cases ry;exact eq_bool<|cT I q y9
  | str j=>obtain⟨t',rfl⟩:=ry;exact PySem.EqMixed.eq_bool_str<|cT I q<|by simp
  | _=>exact absurd (show false=true from hs) Aq
 | int i=>
  obtain⟨t,rfl⟩:=rx;cases y with
  | non=>cases ry;exact PySem.EqNone.eq_int_none<|cT I q<|by simp
  | int j=>obtain⟨t',rfl⟩:=ry;exact eq_int<|cT I q Kg
  | str j=>obtain⟨t',rfl⟩:=ry;exact PySem.EqMixed.eq_int_str<|cT I q<|by simp
  | _=>exact absurd (show false=true from hs) Aq
 | str i=>
  obtain⟨t,rfl⟩:=rx;cases y with
  | non=>cases ry;exact PySem.EqNone.eq_str_none<|cT I q<|by simp
  | bl j=>cases ry;exact PySem.EqMixed.eq_str_bool<|cT I q<|by simp
  | int j=>obtain⟨t',rfl⟩:=ry;exact PySem.EqMixed.eq_str_int<|cT I q<|by simp
  | str j=>obtain⟨t',rfl⟩:=ry;exact eq_str<|cT I q Kh
  | _=>exact absurd (show false=true from hs) Aq
 | iU i=>
  obtain⟨t,rfl⟩:=rx;cases y with
  | iU j=>obtain⟨t',rfl⟩:=ry;exact PySem.W.eq_bytes<|cT I q Ki
  | _=>exact absurd (show false=true from hs) Aq
 | _=>cases y <;> exact absurd (show false=true from hs) Aq
theorem qA:dB X (compareOp .NotEq) Tq:=by
 intro pins s σ H x y v u Q I rx ry h;obtain⟨hs,q⟩:=h;cases x with
 | non=>
  cases rx;cases y with
  | non=>cases ry;exact PySem.EqNone.ne_none_none<|cT I q<|by simp
  | bl j=>cases ry;exact PySem.EqNone.ne_none_bool<|cT I q<|by simp
  | int j=>obtain⟨t',rfl⟩:=ry;exact PySem.EqNone.ne_none_int<|cT I q<|by simp
  | str j=>obtain⟨t',rfl⟩:=ry;exact PySem.EqNone.ne_none_str<|cT I q<|by simp
  | _=>exact absurd (show false=true from hs) Aq
 | bl i=>
  cases rx;cases y with
  | non=>cases ry;exact PySem.EqNone.ne_bool_none<|cT I q<|by simp
  | bl j=>cases ry;exact ne_bool<|cT I q<|BZ not y9
  | str j=>obtain⟨t',rfl⟩:=ry;exact PySem.EqMixed.ne_bool_str<|cT I q<|by simp
  | _=>exact absurd (show false=true from hs) Aq
 | int i=>
  obtain⟨t,rfl⟩:=rx;cases y with
  | non=>cases ry;exact PySem.EqNone.ne_int_none<|cT I q<|by simp
  | int j=>obtain⟨t',rfl⟩:=ry;exact ne_int<|cT I q<|BZ not Kg
  | str j=>obtain⟨t',rfl⟩:=ry;exact PySem.EqMixed.ne_int_str<|cT I q<|by simp
  | _=>exact absurd (show false=true from hs) Aq
 | str i=>
  obtain⟨t,rfl⟩:=rx;cases y with
  | non=>cases ry;exact PySem.EqNone.ne_str_none<|cT I q<|by simp
  | bl j=>cases ry;exact PySem.EqMixed.ne_str_bool<|cT I q<|by simp
  | int j=>obtain⟨t',rfl⟩:=ry;exact PySem.EqMixed.ne_str_int<|cT I q<|by simp
  | str j=>obtain⟨t',rfl⟩:=ry;exact ne_str<|cT I q<|BZ not Kh
  | _=>exact absurd (show false=true from hs) Aq
 | iU i=>
  obtain⟨t,rfl⟩:=rx;cases y with
  | iU j=>obtain⟨t',rfl⟩:=ry;exact PySem.W.ne_bytes<|cT I q<|BZ not Ki
  | _=>exact absurd (show false=true from hs) Aq
 | _=>cases y <;> exact absurd (show false=true from hs) Aq
theorem Tr:dB X (compareOp .Lt) (sq λi j=> .bl<|decide (i < j)):=su λ_ _ _ _ _ _ _ q=>lt_int q
theorem Ts:dB X (compareOp .Gt) (sq λi j=> .bl<|decide (j < i)):=su λ_ _ _ _ _ _ _ q=>gt_int q
theorem Tt{op:CmpOp}{r:R2}(ho:dB X (compareOp op) r)(ha:PE X a ta)(hb:PE X b tb)(hm:behindInMarks op b=false):PE X (.Compare a [op] [b] pos) (v7 r ta tb):=by
 intro pins s σ H Q I h;exact wpAny_Compare1 (oE ha hb I h λv u s2 x y H2 I2 rx ry q=>ho pins s2 σ H2 x y v u Q I2 rx ry q) hm
def Tv(t:TE):TT:=λσ H Q=>t σ H λx H'=>∃ k,x = .bl k/\Q k H'
theorem Tx{op:CmpOp}{r:R2}(ho:dB X (compareOp op) r)(ha:PE X a ta)(hb:PE X b tb)(hm:behindInMarks op b=false):PT X (.Compare a [op] [b] pos) (Tv<|v7 r ta tb):=by
 intro pins s σ H Q I h;refine wpAny_isTrue_Compare1 (aS (ha pins s σ H _ I h) λv s1 ⟨x,H1,I1,r1,q1⟩=>aS (hb pins s1 σ H1 _ I1 q1) λu s2 ⟨y,H2,I2,r2,q2⟩=>
  aS (ho pins s2 σ H2 x y v u _ I2 r1 r2 q2) λc s3 ⟨z,H3,I3,r3,k,e,q3⟩=>?_) hm
 subst e;cases r3;exact FJ ⟨H3,I3,q3⟩
def oG(K:PySem.W.Frag)(x:V)(H:Hp)(k:Bool):Prop:=
 match x with
 | .non=>k=false
 | .bl b=>k=b
 | .int i=>k=(i != 0)
 | .str y=>y.length<=sizeLine/\k=((y.length:Int) != 0)
 | .iU y=>y.size<=sizeLine/\k=((y.size:Int) != 0)
 | .ref p=>(∃ xs,al K H p xs/\k = !xs.isEmpty)\/(∃ xs,aW K H p xs/\k = !xs.isEmpty)\/∃ kvs,H p=some (.dK kvs)/\k = !kvs.isEmpty
 | _=>False
theorem Tz{κ:Type}{kvs:List (κ×V)}{vs:List (κ×Value)}(r:KV kvs vs):(!vs.isEmpty) = !kvs.isEmpty:=by
 cases r <;> rfl
theorem Kj{xs:List V}{its:List Value}(r:av xs its):(!its.toArray.isEmpty) = !xs.isEmpty:=by
 cases r <;> simp
theorem sy:(sizeLine:Nat) < 2 ^ 63:=by rw [CV];decide
theorem TB:y0 X (λx H Q=>∃ k,oG X.K x H k/\Q k H):=by
 intro pins s σ H x v Q I rx h;obtain⟨k,e,q⟩:=h;have hl:=sy;have hs:sizeLine=16777216:=CV;cases x with
 | non=>
  cases rx;have e':k=false:=e;subst e';exact truthy_none ⟨H,I,q⟩
 | bl b=>
  cases rx;have e':k=b:=e;subst e';exact FJ ⟨H,I,q⟩
 | int i=>
  obtain⟨t,rfl⟩:=rx;have e':k=(i != 0):=e;subst e';exact PySem.P.truthy_int ⟨H,I,q⟩
 | str y=>
  obtain⟨t,rfl⟩:=rx;obtain⟨hy,e'⟩:y.length<=sizeLine/\k=((y.length:Int) != 0):=e;subst e';exact PySem.P.truthy_str (by omega) ⟨H,I.tok _,q⟩
 | iU y=>
  obtain⟨t,rfl⟩:=rx;obtain⟨hy,e'⟩:y.size<=sizeLine/\k=((y.size:Int) != 0):=e;subst e';exact PySem.W.truthy_bytes (by omega) ⟨H,I.tok _,q⟩
 | ref p=>
  cases rx;have e':(∃ xs,al X.K H p xs/\k = !xs.isEmpty)\/(∃ xs,aW X.K H p xs/\k = !xs.isEmpty)\/∃ kvs,H p=some (.dK kvs)/\k = !kvs.isEmpty:=e
  rcases e' with ⟨xs,hx,e'⟩ | ⟨xs,hx,e'⟩ | ⟨kvs,hx,e'⟩
  ·subst e';obtain⟨its,r,pl,hz⟩:=I.list hx;have hlen:=r.length;exact wpAny_truthy_list pl.isList (by simp only [Aw];omega) ⟨H,I.tok _,by rw [Kj r];exact q⟩
  ·subst e';obtain⟨its,r,pl,hz⟩:=I.tuple hx;have hlen:=r.length;exact truthy_tuple pl (by simp only [Aw];omega) ⟨H,I.tok _,by rw [Kj r];exact q⟩
  ·subst e';obtain⟨hz,hS,vs,r,m⟩:kvs.length<=sizeLine/\(p == sysModules)=false/\∃ vs,KV kvs vs/\s.heap.DictOf (dN X.prog X.w) p vs:=I.aJ p _ hx;have hlen:kvs.length=vs.length:=Paired.length r;exact wpAny_truthy_dict hS m (by omega) ⟨H,I.tok _,by rw [Tz r];exact q⟩
 | _=>exact(show False from e).elim
theorem TC(ha:PE X a ta)(he:∀ whole,isTrue a X.env whole=(do let v <- whole;standAt a.pos;holding [v] (truthy v))) :
  PT X a (λσ H Q=>ta σ H λx H'=>∃ k,oG X.K x H' k/\Q k H'):=by
 intro pins s σ H Q I h;exact isTrue_plain (aS (ha pins s σ H _ I h) λv s1 ⟨x,H1,I1,r1,q1⟩=>TB pins s1 σ H1 x v Q I1 r1 q1)<|he _
theorem Kk:dB X (binaryOp .Add) (λx y H Q=>∃ i j,x = .str i/\y = .str j/\i.length+j.length<=sizeLine/\Q (.str<|i++j) H):=by
 intro pins s σ H x y v u Q I rx ry h;obtain⟨i,j,rfl,rfl,hz,q⟩:=h;obtain⟨t,rfl⟩:=rx;obtain⟨t',rfl⟩:=ry;exact add_str (λt' tk=>⟨.str<|i++j,H,I.tok _,⟨_,rfl⟩,q⟩) hz
theorem vals1{x:V}{us:List Value}(r:av [x] us):∃ u,us=[u]/\RelV x u:=by
 cases r with
 | cons r1 r2=>cases r2;exact⟨_,rfl,r1⟩
theorem vals2{x y:V}{us:List Value}(r:av [x,y] us):∃ u w',us=[u,w']/\RelV x u/\RelV y w':=by
 cases r with
 | cons r1 r2=>
  cases r2 with
  | cons r3 r4=>cases r4;exact⟨_,_,rfl,r1,r3⟩
theorem Kl(hc:X.calm=true):fh X (.builtin "max") (λxs H Q=>∃ i j,xs=[.int i,.int j]/\Q (.int (if j > i then j else i)) H):=by
 intro pins s σ H xs us Q I r h;obtain⟨i,j,rfl,q⟩:=h;obtain⟨u,w',rfl,⟨t,rfl⟩,⟨t',rfl⟩⟩:=vals2 r;refine max_two_ints (I.ok.hd hc) λh' tk k=>⟨_,H,I.kept k,?_,q⟩
 by_cases hj:j > i
 ·rw [BL hj,BL hj];exact⟨_,rfl⟩
 ·rw [BK hj,BK hj];exact⟨_,rfl⟩
end
section
variable{prog:Program}{w:World}{A:Around}{E:Value->Shared->Prop}{s:Shared}{K:PySem.W.Frag}{x dx C f:Addr}{mA:Str->Option Value}{name:Str}{v:Value}
end
theorem eC.some_of{v:V}{o:Option Value}(r:eC (some v) o):∃ u,o=some u/\RelV v u:=by
 cases o with
 | none=>exact(show False from r).elim
 | some u=>exact⟨u,rfl,r⟩
section
variable{P:Program}{w:World}{H H':Hp}{h h':Heap}{a C dx:Addr}{fs Sj:List (Str×V)}
end
section
variable{X:Cx}{pins:List (Addr×Obj)}{σ:St}{H:Hp}{s:Shared}{a C dx:Addr}{fs:List (Str×V)}{f:Str}{v:V}{A:Around}{E:Value->Shared->Prop}
end
section
variable{X:Cx}{o e value:Expr}{f:Str}{pos pos' zb:Pos}{ta tv:TE}
end
section
variable{X:Cx}{pins:List (Addr×Obj)}{σ:St}{H:Hp}{s:Shared}{A:Around}{E:Value->Shared->Prop}{Q:Value->Shared->Prop}{c:Value}{b:Bool}
end
structure bq(k:Nat)(A:Around):Prop where
 hd:A.handled=none
 dp:A.depth+3 * k+5 < recursionLimit
 un:A.units+16 * k+200 < cLine
theorem bq.mono{j k:Nat}{A:Around}(r:bq k A)(h:j<=k):bq j A:=⟨r.hd,by have:=r.dp;omega,by have:=r.un;omega⟩
theorem bq.deeper{k:Nat}{A:Around}(r:bq (k+1) A)(env:Env):bq k (A.deeper env):=
 ⟨r.hd,by have:=r.dp;show A.depth+1+3 * k+5 < _;omega,by have:=r.un;show A.units+3+16 * k+200 < _;omega⟩
theorem bq.depth{k:Nat}{A:Around}(r:bq k A):A.depth < recursionLimit:=by have:=r.dp;omega
def zc:TA:=λ_ H Q=>Q [] H
def Km(ta:TE)(tr:TA):TA:=λσ H Q=>ta σ H λx H1=>tr σ H1 λxs H2=>Q (x :: xs) H2
section
variable{X:Cx}{e:Expr}{es:List Expr}{te:TE}{t:TA}{pos:Pos}
theorem TD:PA X [] zc:=λ_ _ _ _ H Q I h=>Calls.spliced_nil ⟨[],H,I,.nil,h⟩
theorem TH(ha:PE X e te)(hr:PA X es t)(hs:starEach (e :: es) X.env=(false,eval e X.env) :: starEach es X.env:=by rfl):PA X (e :: es) (Km te t):=by
 intro pos pins s σ H Q I h;rw [hs];show wpAny _ _ (spliced<|(false,eval e X.env) :: backTo pos (starEach es X.env)) _ _ s;refine Calls.spliced_cons<|aS (ha pins s σ H _ I h) λu s1 ⟨x,H1,I1,r1,q1⟩=>?_;exact aS (hr pos pins s1 σ H1 _ I1 q1) λus s2 ⟨xs,H2,I2,r2,q2⟩=>⟨x :: xs,H2,I2,.cons r1 r2,q2⟩
def zf(t:TA):TE:=λσ H Q=>t σ H λxs H1=>xs.length<=sizeLine/\∀ p,H1 p=none->Q (.ref p) (upd H1 p<|.tup xs)
def zg(t:TA):TE:=λσ H Q=>t σ H λxs H1=>xs.length<=sizeLine/\∀ p,H1 p=none->Q (.ref p) (upd H1 p<|.lst xs)
theorem TK{x1}(h:PA X es t):PE X (.Tuple es x1 pos) (zf t):=by
 intro pins s σ H Q I hq;refine wpAny_Tuple_spliced (aS (h pos pins s σ H _ I hq) λus s1 ⟨xs,H1,I1,r,z,q⟩=>⟨by rw [<- r.length];exact z,?_⟩);have hf:H1 s1.heap.objs.size=none:=I1.aJ.fresh<|Ao _;refine⟨.ref s1.heap.objs.size,upd H1 s1.heap.objs.size<|.tup xs,I1.laid (t':=s1.toks) (λb u e=>Ai _ e) (Ao _) ?_,rfl,q _ hf⟩;exact⟨z,us,r,⟨_,Be _ rfl,rfl,_,rfl⟩⟩
theorem TL(h:PA X es t):PE X (.List es pos) (zg t):=by
 intro pins s σ H Q I hq;refine wpAny_List_spliced (aS (h pos pins s σ H _ I hq) λus s1 ⟨xs,H1,I1,r,z,q⟩=>⟨by rw [<- r.length];exact z,?_⟩);have hf:H1 s1.heap.objs.size=none:=I1.aJ.fresh<|Ao _;refine⟨.ref s1.heap.objs.size,upd H1 s1.heap.objs.size<|.lst xs,I1.laid (t':=s1.toks) (λb u e=>Ai _ e) (Ao _) ?_,rfl,q _ hf⟩;exact⟨z,us,0,r,Be _ rfl⟩
end
abbrev Sp:=List V->Hp->VK->XK->Prop
abbrev ga:=List Env->Hp->Shared->XK->Value->Shared->Prop
structure k9(P:Program)(w:World)(K:PySem.W.Frag)(mg:Str->Option Value)(base:Heap)(A:Around)(outer:List Env)(s:Shared)(H:Hp):Prop where
 frames:A.frames=some outer
 mod:Mod K mg base
 bs:∀ b o,base.get? b=some o->s.heap.get? b=some o/\H b=none
 jl:base.objs.size<=s.heap.objs.size
 cA:s.heap.FunFrames base outer
 ku:∀ b∈dj outer,H b=none
 aJ:cg P w H s.heap
 bare:AllBare s.gens
def CE(outer:List Env)(P:Program)(w:World)(H:Hp)(s:Shared)(Q:VK)(u:Value)(s':Shared):Prop:=
 ∃ v H',s'.os=s.os/\AllBare s'.gens/\Un (dj outer) [] H H' s.heap s'.heap/\cg P w H' s'.heap/\RelV v u/\Q v H'
def CR(CX:ga)(outer:List Env)(P:Program)(w:World)(H:Hp)(s:Shared)(Q:VK)(E:XK)(r:Result)(s':Shared):Prop:=
 match r with
 | .ok (.ret u)=>CE outer P w H s Q u s'
 | .ok _=>False
 | .error e=>CX outer H s E e s'
structure aM(P:Program)(w:World)(K:PySem.W.Frag)(mg:Str->Option Value)(base:Heap)(CX:ga)(k:Nat)(f:Addr)(fd:FuncData)(ps:List Str)(sp:Sp):Prop where
 len:∀ vs H Q E,sp vs H Q E->vs.length=ps.length
 run:∀(A:Around) (outer:List Env) (s:Shared) (H:Hp) (args:Args) (us:List Value) (vs:List V) (Q:VK) (E:XK),bq k A->k9 P w K mg base A outer s H->BindsTo s fd args (ps.zip us)->av vs us->sp vs H Q E ->
  codeAny (model P w) A (.call (.ref f) args) (CR CX outer P w H s Q E) s
theorem aM.mono{P:Program}{w:World}{K:PySem.W.Frag}{mg:Str->Option Value}{base:Heap}{CX:ga}{j k:Nat}{f:Addr}{fd:FuncData}{ps:List Str}{sp:Sp}(F:aM P w K mg base CX j f fd ps sp)(h:j<=k) :
  aM P w K mg base CX k f fd ps sp:=⟨F.len,λA outer s H args us vs Q E hr=>F.run A outer s H args us vs Q E<|hr.mono h⟩
section
variable{X:Cx}{pins:List (Addr×Obj)}{σ:St}{H:Hp}{s s':Shared}
theorem Inv.sE(I:Inv X pins σ H s):k9 X.prog X.w X.K X.mg X.base X.A X.stack s H:=
 ⟨I.ok.frames,I.ok.mod,I.bs,Cp I.ok.jl I.sz,I.stack,I.cW,I.aJ,I.bare⟩
theorem Inv.after{Q:VK}{u:Value}(I:Inv X pins σ H s)(h:CE X.stack X.prog X.w H s Q u s'):EP X pins σ Q u s':=by
 obtain⟨v,H',os,bare,un,aJ,r,q⟩:=h;obtain⟨hh,g,d,t,TN⟩:=s';obtain rfl:TN=s.os:=os;exact⟨v,H',I.call (h':=hh) (g':=g) (d':=d) (t':=t) (ch:=[]) un aJ bare (λb z=>absurd z<|by simp),r,q⟩
end
def Kn(sp:Sp)(lg:List V)(E:XK)(t:TA):TE:=λσ H Q=>t σ H λvs H1=>sp (vs++lg) H1 Q E
def Binds(K:PySem.W.Frag)(fd:FuncData)(ps:List Str)(ds:List Value):Prop:=
 ∀(s:Shared) (us:List Value),K.In s.heap->(us++ds).length=ps.length->BindsTo s fd ⟨us,[]⟩ (ps.zip<|us++ds)
theorem Binds.all{K:PySem.W.Frag}{fd:FuncData}{ps:List Str}(h:∀ us:List Value,us.length=ps.length->bindArgs fd ⟨us,[]⟩=pure (ps.zip us)):Binds K fd ps []:=λs us _ hl=>by
 rw [Bc] at hl ⊢;exact .of_eq<|h us hl
def lh(CX:ga)(X:Cx)(E:XK):Prop:=∀(pins:List<|Addr×Obj) (σ:St) (H:Hp) (s:Shared) (e:Value) (s':Shared),Inv X pins σ H s->CX X.stack H s E e s'->X.xe e s'
section
variable{X:Cx}{CX:ga}{k:Nat}{f C:Addr}{fd:FuncData}{ps:List Str}{sp:Sp}{lg:List V}{ds:List Value}{E:XK}{x m:Str}{p pos apos:Pos}{e o:Expr}{es:List Expr}{ta:TE}{t:TA}
theorem TR{pins:List (Addr×Obj)}{σ:St}{H:Hp}{s:Shared}{Q:VK}{us:List Value}{vs:List V}(F:aM X.prog X.w X.K X.mg X.base CX k f fd ps sp)(hr:bq k X.A)(hb:Binds X.K fd ps ds)(hd:av lg ds)(hx:lh CX X E)
  (I:Inv X pins σ H s) (r:av vs us) (h:sp (vs++lg) H Q E):wpAny (model X.prog X.w) X.A (call (.ref f) us) (EP X pins σ Q) X.xe s:=by
 have r2:av (vs++lg) (us++ds):=r.append hd;have hl:(us++ds).length=ps.length:=by rw [<- r2.length];exact F.len _ _ _ _ h
 refine wpAny_call<|QD (F.run X.A X.stack s H ⟨us,[]⟩ (us++ds) (vs++lg) Q E hr I.sE (hb s us I.kz hl) r2 h) λr s' hq=>?_;cases r with
 | error e=>exact hx pins σ H s e s' I hq
 | ok fl=>
  cases fl with
  | ret u=>exact I.after hq
  | next=>exact False.elim hq
  | brk=>exact False.elim hq
  | cont=>exact False.elim hq
theorem TU(F:aM X.prog X.w X.K X.mg X.base CX k f fd ps sp)(hr:bq k X.A)(hg:Gl X x)(hm:X.mg x=some (.ref f))(hk:PySem.W.keepIn X.K (.ref f)=true)(hb:Binds X.K fd ps ds)(hd:av lg ds)(hx:lh CX X E)
  (ha:PA X (e :: es) t) (cZ:(x == ("__debug__" : Str))=false:=by decide) (he:starEach (e :: es) X.env=(false,eval e X.env) :: starEach es X.env:=by rfl) (jD:(backTo pos<|starEach es X.env).any (·.1)=false:=by rfl) :
  PE X (.Call (.Name x p) (e :: es) [] pos) (Kn sp lg E t):=by
 intro pins s σ H Q I h;refine HS<|rY I hg hm ?_ cZ;refine PySem.W.callWith_K (h₀:=X.base) I.ok.mod.ou hk (aS (ha pos pins s σ H _ I h) λus s1 ⟨vs,H1,I1,r,q⟩=>⟨I1.kz,?_⟩) he jD;exact TR F hr hb hd hx I1 r q
end
section
variable{X:Cx}{CX:ga}{k:Nat}{f C:Addr}{fd:FuncData}{ps ks:List Str}{sp:Sp}{E:XK}{x m:Str}{p pos apos T1:Pos}{e o:Expr}{es:List Expr}{kws:List Keyword}{te ta:TE}{t tk:TA}{nm:Option Str}
variable{g:List Value->List Value->List Value}{gV:List V->List V->List V}
end
structure au(N P:List Str)(sc:Scope):Prop where
 kind:sc.kind = .function
 co:sc.isCoroutine=false
 gen:sc.isGenerator=false
 nd:N.Nodup
 pre:N.take P.length=P
 par:∀ x∈P,sc.names.lookup x=some .local\/sc.names.lookup x=some .cell
 oH:∀ y∈sc.names,y.2 ≠ .free
theorem Ko{kindOf:Str->Option NameKind}{x:Str}:∀{binds:List (Str×Value)} {m:Str->Option Value},(∀ v,(x,v)∉binds)->bindL kindOf binds m x=m x
 | [],_,_=>rfl
 | (n,v) :: r,m,h=>by
  unfold bindL;rw [Ko λw hw=>h w<|Af _ hw]
  split
  ·have:x≠n:=by rintro rfl;exact h v Ac
   simp [this]
  ·rfl
theorem Kq{kindOf:Str->Option NameKind}{x:Str}:∀{binds:List (Str×Value)} {m:Str->Option Value},(∀ v,(x,v)∉binds)->bindC kindOf binds m x=m x
 | [],_,_=>rfl
 | (n,v) :: r,m,h=>by
  unfold bindC;rw [Kq λw hw=>h w<|Af _ hw]
  split
  ·rfl
  ·have:x≠n:=by rintro rfl;exact h v Ac
   simp [this]
theorem Kr{kindOf:Str->Option NameKind}{x:Str}{v:Value}:∀{P:List Str} {vs:List Value} {i:Nat} {m:Str->Option Value},P.Nodup->P[i]?=some x->vs[i]?=some v->kindOf x=some .local ->
  bindL kindOf (P.zip vs) m x=some v
 | [],_,_,_,_,h,_,_=>by simp at h
 | _ :: _,[],_,_,_,_,h,_=>by simp at h
 | p :: P,w :: vs,0,m,nd,h1,h2,hk=>by
  simp at h1 h2;subst h1;subst h2;show bindL kindOf ((p,w) :: P.zip vs) m p=_;unfold bindL;rw [Ko λv hv=>(Bu.mp nd).1 (RL hv).1,BL hk];simp
 | p :: P,w :: vs,i+1,m,nd,h1,h2,hk=>by
  show bindL kindOf ((p,w) :: P.zip vs) m x=_;unfold bindL;exact Kr (i:=i) (Bu.mp nd).2 (by simpa using h1) (by simpa using h2) hk
theorem Ks{kindOf:Str->Option NameKind}{x:Str}{v:Value}:∀{P:List Str} {vs:List Value} {i:Nat} {m:Str->Option Value},P.Nodup->P[i]?=some x->vs[i]?=some v->kindOf x≠some .local ->
  bindC kindOf (P.zip vs) m x=some v
 | [],_,_,_,_,h,_,_=>by simp at h
 | _ :: _,[],_,_,_,_,h,_=>by simp at h
 | p :: P,w :: vs,0,m,nd,h1,h2,hk=>by
  simp at h1 h2;subst h1;subst h2;show bindC kindOf ((p,w) :: P.zip vs) m p=_;unfold bindC;rw [Kq λv hv=>(Bu.mp nd).1 (RL hv).1,BK hk];simp
 | p :: P,w :: vs,i+1,m,nd,h1,h2,hk=>by
  show bindC kindOf ((p,w) :: P.zip vs) m x=_;unfold bindC;exact Ks (i:=i) (Bu.mp nd).2 (by simpa using h1) (by simpa using h2) hk
def start(N:List Str)(vs:List V):St:=vs.map some++List.replicate (N.length - vs.length) none
def dh(CX:ga)(P:Program)(w:World)(K:PySem.W.Frag)(mg:Str->Option Value)(base:Heap)(N:List Str)(qual:Str)(scope:Scope)(f:Addr)(cd:Value)(A:Around)(outer:List Env)(s:Shared)(H:Hp)(E:XK):Cx where
 prog:=P
 w:=w
 K:=K
 mg:=mg
 base:=base
 A:=A.deeper<|envOfC qual scope s.heap.objs.size f cd
 N:=N
 s₀:=s
 H₀:=H
 env:=envOfC qual scope s.heap.objs.size f cd
 outer:=outer
 stack:=envOfC qual scope s.heap.objs.size f cd :: outer
 ex:=[]
 calm:=true
 fn:=λ_=>true
 pn:=[]
 xe:=λe s'=>wpAny (model P w) (A.deeper<|envOfC qual scope s.heap.objs.size f cd) (leaving (envOfC qual scope s.heap.objs.size f cd) e) (λ_ sF=>CX outer H s E e sF) (λe' sF=>CX outer H s E e' sF) s'
theorem Kt{sc:Scope}{n:Nat}{x:Str}(h:sc.names.lookup x=some .cell):∃ c,(cellsFrom n sc.names []).lookup x=some c:=by
 have q:=IK sc.names n []<|.inl h;exact Fe.mp q
theorem T2{CX:ga}{P:Program}{w:World}{K:PySem.W.Frag}{mg:Str->Option Value}{base:Heap}{N ps:List Str}{qual:Str}{scope:Scope}{f:Addr}{cd:Value}{A:Around}{outer:List Env}{s s1:Shared}{H:Hp}{E:XK}{us:List Value}{vs:List V}
  (S:au N ps scope) (hd:A.handled=none) (e0:k9 P w K mg base A outer s H) (hl:vs.length=ps.length) (r:av vs us)
  (x:InCallC s s.heap.objs.size (bindL (envOfC qual scope s.heap.objs.size f cd).kindOf (ps.zip us) λ_=>none) (cellsFrom (s.heap.objs.size+1) scope.names []) (bindC (envOfC qual scope s.heap.objs.size f cd).kindOf (ps.zip us) λ_=>none) s1) :
  Inv (dh CX P w K mg base N qual scope f cd A outer s H E) [] (start N vs) H s1:=by
 have jD:ps.length<=N.length:=by have:=BZ List.length S.pre;rw [Bo] at this;omega
 obtain⟨h1,tk,rfl,hk⟩:=x.done;have sG:∀ b:Addr,b∉(dh CX P w K mg base N qual scope f cd A outer s H E).ex:=λb z=>absurd (show b∈([]:List Addr) from z) (by simp);refine⟨⟨e0.mod,S.kind,rfl,rfl,Ao _,λy z c h1 h2=>?_,λy hy=>?_,λy c _ h=>?_,λ_=>hd,Around.frames_deeper e0.frames,.inr ⟨rfl,rfl⟩,λb z=>absurd z<|sG b,e0.bs,e0.jl,λb _ _=>sG b,λb z=>absurd z<|sG b,e0.cA,e0.ku⟩,
  rfl,e0.bare,Un.kept hk,⟨_,x.toInCall.ns,λi y v h1 h2 h3=>?_⟩,λy c h=>⟨_,x.cell y c h⟩,e0.aJ.fresh<|Ao _,λy c h=>?_,λp hp=>absurd (show p∈([]:List<|Addr×Obj) from hp) (by simp),e0.aJ.kept hk,?_⟩
 ·exact name_of_addr x.apart (CQ h1)<|CQ h2
 ·have hy:scope.names.lookup y=some .cell\/scope.names.lookup y=some .free:=hy
  rcases hy with hy | hy
  ·exact Kt hy
  ·exact absurd rfl (S.oH _<|CQ hy)
 ·exact Cz<|x.above y c<|CQ h
 ·have hi:i < vs.length:=by
   unfold start at h2
   by_cases hi:i < vs.length
   ·exact hi
   ·rw [Bs<|by simpa using hi] at h2;rw [Fi] at h2
    split at h2 <;> cases h2
  have ha:vs[i]?=some v:=by
   unfold start at h2;rw [Bp (by simpa using hi),Ag] at h2;cases e:vs[i]? with
   | none=>rw [e] at h2;cases h2
   | some a=>rw [e] at h2;cases h2;rfl
  obtain⟨u,hu,rv⟩:=r.get ha;have hp:ps[i]?=some y:=by
   rw [<- S.pre,Dx<|by omega];exact h1
  have Ku:ps.Nodup:=by rw [<- S.pre];exact S.nd.sublist<|List.take_sublist _ _
  refine⟨u,rv,?_⟩
  rcases S.par y (Ak hp) with k | k
  ·exact .inl ⟨k,Kr Ku hp hu k⟩
  ·obtain⟨c,e⟩:=Kt (n:=s.heap.objs.size+1) k;refine .inr ⟨.inl k,c,e,?_⟩;have q:=x.cell y c e;rw [Ks Ku hp hu<|by show scope.names.lookup y≠_;rw [k];decide] at q;exact q
 ·exact e0.aJ.fresh<|Cz<|x.above y c<|CQ h
 ·unfold start;show _=N.length;rw [Ah,Aa,Fp];omega
theorem Kv{CX:ga}{P:Program}{w:World}{K:PySem.W.Frag}{mg:Str->Option Value}{base:Heap}{k:Nat}{f:Addr}{name qual:Str}{params:Arguments}{body:List Stmt}{scope:Scope}{dV kV doc pm bG ct oc:Value}{an od:Option Addr}
  {kB:Array (Option Value)} {N ps:List Str} {sp:Sp} (lk:K.lookup f=some ⟨oc,od,.func<|PySem.W.fnOf name qual params body scope dV kV doc pm an bG ct,kB⟩) (iA:PySem.W.codeIn K bG qual=true) (S:au N ps scope)
  (len:∀ vs H Q E,sp vs H Q E->vs.length=ps.length)
  (c5 : ∀ (A : Around) (outer : List Env) (s : Shared) (H : Hp) (vs : List V) (Q : VK) (E : XK), bq k (A.deeper<|envOfC qual scope s.heap.objs.size f bG) → sp vs H Q E →
   ∃ t,iV (dh CX P w K mg base N qual scope f bG A outer s H E) body t/\t {nx:=λ_ H'=>Q .non H',rt:=Q} (start N vs) H) :
  aM P w K mg base CX (k+1) f (PySem.W.fnOf name qual params body scope dV kV doc pm an bG ct) ps sp:=by
 refine⟨len,λA outer s H args us vs Q E hr e0 hb r fN=>?_⟩;have hl:=len _ _ _ _ fN;have KX:K.In s.heap:=e0.mod.ou.keeps λb o e=>(e0.bs b o e).1;have lim:s.heap.NoLimit:=e0.mod.nolimit.keeps λb o e=>(e0.bs b o e).1;have sI:∀ y∈ps.zip us,scope.names.lookup y.1=some .local\/(scope.names.lookup y.1=some .cell/\((cellsFrom (s.heap.objs.size+1) scope.names []).lookup y.1).isSome=true):=λ⟨n,v⟩ hy=>by
  rcases S.par n (RL hy).1 with q | q
  ·exact .inl q
  ·exact .inr ⟨q,IK _ _ _<|.inl q⟩
 refine codeAny_call_function hr.depth (KX _ _ lk) rfl S.co S.gen rfl (PySem.W.codeRec_of KX iA) (hb _ _ _ _ ?_);refine wpAny_newFunctionEnv_cells S.kind sI λenv he s1 x=>?_;subst he;refine⟨lim.keeps x.toInCall.keep,codeAny_func ?_⟩;obtain⟨t,ht,hq⟩:=c5 A outer s H vs Q E (hr.deeper _) fN;have I:Inv (dh CX P w K mg base N qual scope f bG A outer s H E) [] (start N vs) H s1:=T2 S hr.hd e0 hl r x;refine CK (ht [] s1 (start N vs) H _ I hq) (λfl s' hs=>?_) λe s' hs=>hs;have fin:∀{σ':St} {H':Hp} {v:V} {u:Value},Inv (dh CX P w K mg base N qual scope f bG A outer s H E) [] σ' H' s'->RelV v u->Q v H'->CE outer P w H s Q u s':=
  λ{σ' H' v u} J rv q=>⟨v,H',J.os,J.bare,J.base,J.aJ,rv,q⟩
 cases fl with
 | ret u=>
  obtain⟨v,σ',H',J,rv,q⟩:=hs;exact fin J rv q
 | next=>
  obtain⟨σ',H',J,q⟩:=hs;exact fin (v:=V.non) (u:=Value.none) J rfl q
 | brk=>
  obtain⟨_,_,_,q⟩:=hs;exact False.elim q
 | cont=>
  obtain⟨_,_,_,q⟩:=hs;exact False.elim q
section
variable{X:Cx}{x:Str}{p pos:Pos}{e:Expr}{es:List Expr}{t:TA}{id T:String}{r:List V->Hp->VK->Prop}
def v9(r:List V->Hp->VK->Prop)(t:TA):TE:=λσ H Q=>t σ H λvs H1=>r vs H1 Q
theorem T4(hc:fh X (.builtin id) r)(hg:Gl X x)(hm:X.mg x=none)(hv:bootBuiltins x=some (.builtin id))(ha:PA X (e :: es) t)(hn:x ≠ "__name__":=by decide)(cZ:(x == ("__debug__" : Str))=false:=by decide)
  (he:starEach (e :: es) X.env=(false,eval e X.env) :: starEach es X.env:=by rfl) (jD:(backTo pos<|starEach es X.env).any (·.1)=false:=by rfl):PE X (.Call (.Name x p) (e :: es) [] pos) (v9 r t):=by
 intro pins s σ H Q I h;refine HS<|vX I hg hm hv ?_ hn cZ;exact PyProof.Rows.callWith_builtin1 (aS (ha pos pins s σ H _ I h) λus s1 ⟨vs,H1,I1,r1,q1⟩=>hc pins s1 σ H1 vs us Q I1 r1 q1) he jD
theorem T5(hc:fh X (.type T) r)(hg:Gl X x)(hm:X.mg x=none)(hv:bootBuiltins x=some (.type T))(ha:PA X (e :: es) t)(hn:x ≠ "__name__":=by decide)(cZ:(x == ("__debug__" : Str))=false:=by decide)
  (he:starEach (e :: es) X.env=(false,eval e X.env) :: starEach es X.env:=by rfl) (jD:(backTo pos<|starEach es X.env).any (·.1)=false:=by rfl):PE X (.Call (.Name x p) (e :: es) [] pos) (v9 r t):=by
 intro pins s σ H Q I h;refine HS<|vX I hg hm hv ?_ hn cZ;exact MK (aS (ha pos pins s σ H _ I h) λus s1 ⟨vs,H1,I1,r1,q1⟩=>hc pins s1 σ H1 vs us Q I1 r1 q1) he jD
end
end L2
namespace HT
open PySem PyProof.Rows
section
open PySem.SeqAt
open PySem.AutoSeq1 (wpAny_loadPart')
open PySem.MeetsSeq PySem.MeetsSeq2 PySem.MeetsSeq3
end
section
variable{prog:Program}{w:World}{A:Around}{E:Value->Shared->Prop}{s:Shared}
def gg(n d:Nat):Option Int->Nat
 | none=>d
 | some v=>if v < 0 then(v+(n:Int)).toNat else min v.toNat n
theorem c6(n d:Nat):gg n d none=d:=rfl
theorem dH(n d k:Nat):gg n d (some (k:Int))=min k n:=by
 show(if(k:Int) < 0 then((k:Int)+(n:Int)).toNat else min (k:Int).toNat n)=min k n;rw [BK (by omega),Bx]
end
end HT
namespace L2
open PySem PySem.Spec PyProof.Rows
abbrev TO:=St->Hp->(Option Int->Hp->Prop)->Prop
def PO(X:Cx)(e:Option Expr)(t:TO):Prop:=
 ∀(pins:List<|Addr×Obj) (s:Shared) (σ:St) (H:Hp) (Q:Option Int->Hp->Prop),Inv X pins σ H s->t σ H Q ->
  wpAny (model X.prog X.w) X.A (evalPart e X.env) (λu s'=>∃ o H',Inv X pins σ H' s'/\IsPart u o/\Q o H') X.xe s
def T6:TO:=λ_ H Q=>Q none H
def T7(t:TE):TO:=λσ H Q=>t σ H λx H1=>∃ i,x = .int i/\Q (some i) H1
section
variable{X:Cx}{e:Expr}{te:TE}{lo hi:Option Expr}{tl th:TO}{pos p2:Pos}
theorem T8:PO X none T6:=by
 intro pins s σ H Q I h;rw [evalPart_none];exact BP ⟨none,H,I,.none,h⟩
theorem T9(h:PE X e te):PO X (some e) (T7 te):=by
 intro pins s σ H Q I hw;rw [evalPart_some];refine aS (h pins s σ H _ I hw) λu s1 ⟨x,H1,I1,r1,q1⟩=>?_;obtain⟨i,rfl,q⟩:=q1;obtain⟨t,rfl⟩:=r1;exact⟨some i,H1,I1,.int i t,q⟩
def zh(X:Cx)(r:V->Option Int->Option Int->Hp->VK->Prop):Prop:=
 ∀(pins:List<|Addr×Obj) (s:Shared) (σ:St) (H:Hp) (x:V) (v vl vu:Value) (lo hi:Option Int) (sl:Addr) (Q:VK),Inv X pins σ H s->RelV x v->s.heap.IsSliceOf sl vl vu .none->IsPart vl lo->IsPart vu hi->r x lo hi H Q ->
  ∃ T id,typeLookup (.type T) "__getitem__" = pure (some<|.builtin id)/\s.TypeIs v T/\wpAny (model X.prog X.w) X.A (getItem v<|.ref sl) (EP X pins σ Q) X.xe s
def Ua(r:V->Option Int->Option Int->Hp->VK->Prop)(te:TE)(tl th:TO):TE:=λσ H Q=>te σ H λx H1=>tl σ H1 λl H2=>th σ H2 λu H3=>r x l u H3 Q
theorem Ub{r:V->Option Int->Option Int->Hp->VK->Prop}(hr:zh X r)(he:PE X e te)(hl:PO X lo tl)(hu:PO X hi th):PE X (.Subscript e (.Slice lo hi none p2) pos) (Ua r te tl th):=by
 intro pins s σ H Q I h;refine Subscript_<|aS (he pins s σ H _ I h) λv s1 ⟨x,H1,I1,r1,q1⟩=>?_;refine wpAny_Slice<|aS (hl pins s1 σ H1 _ I1 q1) λvl s2 ⟨l,H2,I2,pl,q2⟩=>aS (hu pins s2 σ H2 _ I2 q2) λvu s3 ⟨u,H3,I3,pu,q3⟩=>?_;rw [evalPart_none];refine BP ?_;have I4:Inv X pins σ H3 {s3 with heap:=s3.heap.push {cls:= .type "slice",data:= .fields #[vl,vu,.none]}}:=I3.kept (t':=s3.toks) λb ob q=>Ai _ q;obtain⟨T,id,hT,ht,hg⟩:=hr pins {s3 with heap:=s3.heap.push {cls:= .type "slice",data:= .fields #[vl,vu,.none]}} σ H3 x v vl vu l u s3.heap.objs.size Q I4 r1 (Heap.IsSliceOf.new ..) pl pu q3;show wpAny (model X.prog X.w) X.A (subscriptTail e (.Slice lo hi none p2) v<|.ref s3.heap.objs.size) (EP X pins σ Q) X.xe {s3 with heap:=s3.heap.push {cls:= .type "slice",data:= .fields #[vl,vu,.none]}};exact tail_any (ops:=[.ref s3.heap.objs.size,v]) ht hT hg<|by with_unfolding_all rfl
def dC(xs:List V)(lo hi:Option Int):List V:=(xs.drop<|HT.gg xs.length 0 lo).take<|HT.gg xs.length xs.length hi - HT.gg xs.length 0 lo
theorem Uc(xs:List V)(lo hi:Option Int):(dC xs lo hi).length<=xs.length:=by
 unfold dC;rw [Bo,Cn];omega
end
def qB(n:Nat)(i:Int):Option Nat:=if 0<=i then(if i < n then some i.toNat else none) else if -(n:Int)<=i then some (i+n).toNat else none
def gj{α:Type}(xs:List α)(i:Int):Option α:=(qB xs.length i).bind λj=>xs[j]?
theorem Ud{n:Nat}{i:Int}{j:Nat}(h:qB n i=some j):seqIndex? i n=some j/\j < n/\-(n:Int)<=i/\i < n:=by
 unfold qB at h
 by_cases h0:0<=i
 ·rw [BL h0] at h
  by_cases h1:i < n
  ·rw [BL h1] at h;have e:i.toNat=j:=Option.some.inj h;exact⟨by rw [seqIndex_of h0 h1,e],by omega,by omega,h1⟩
  ·rw [BK h1] at h;cases h
 ·rw [BK h0] at h
  by_cases h1:-(n:Int)<=i
  ·rw [BL h1] at h;have e:(i+n).toNat=j:=Option.some.inj h;exact⟨by rw [seqIndex_neg (by omega) h1,e],by omega,h1,by omega⟩
  ·rw [BK h1] at h;cases h
theorem zi{α:Type}{xs:List α}{i:Int}{v:α}(h:gj xs i=some v):∃ j,seqIndex? i xs.length=some j/\xs[j]?=some v/\j < xs.length/\-(xs.length:Int)<=i/\i < xs.length:=by
 unfold gj at h;cases e:qB xs.length i with
 | none=>rw [e] at h;cases h
 | some j=>
  rw [e] at h;obtain⟨h1,h2,h3,h4⟩:=Ud e;exact⟨j,h1,h,h2,h3,h4⟩
theorem qC{α:Type}{xs:List α}{j:Nat}{v:α}(h:xs[j]?=some v):gj xs (j:Int)=some v:=by
 have hj:j < xs.length:=(Ad.mp h).1;have e:qB xs.length (j:Int)=some j:=by
  unfold qB;rw [BL (by omega),BL<|by omega];simp
 unfold gj;rw [e];exact h
def Kw(b:Expr):Prop:=∀ o i,subscripted b false o i=operate [o,i] (getItem o i)
def sJ(X:Cx)(r:R2):Prop:=
 ∀(value slice:Expr) (pins:List<|Addr×Obj) (s:Shared) (σ:St) (H:Hp) (x y:V) (v u:Value) (Q:VK),Inv X pins σ H s->RelV x v->RelV y u->r x y H Q ->
  subscripted slice false v u=operate [v,u] (getItem v u)->wpAny (model X.prog X.w) X.A (subscriptTail value slice v u) (EP X pins σ Q) X.xe s
def sK(X:Cx)(id:String)(r:V->List V->Hp->VK->Prop):Prop:=
 ∀(pins:List<|Addr×Obj) (s:Shared) (σ:St) (H:Hp) (x:V) (xs:List V) (v:Value) (us:List Value) (Q:VK),Inv X pins σ H s->RelV x v->av xs us->r x xs H Q ->
  wpAny (model X.prog X.w) X.A (call (.builtin id)<|v :: us) (EP X pins σ Q) X.xe s
section
variable{X:Cx}{a b:Expr}{ta tb:TE}{pos:Pos}
theorem Ue{r:R2}(hr:sJ X r)(ha:PE X a ta)(hb:PE X b tb)(hs:Kw b):PE X (.Subscript a b pos) (v7 r ta tb):=by
 intro pins s σ H Q I h;exact Subscript_<|oE ha hb I h λv u s2 x y H2 I2 rx ry q=>hr a b pins s2 σ H2 x y v u Q I2 rx ry q<|hs _ _
def sM(K:PySem.W.Frag):R2:=λx y H Q=>∃ p xs i v,x = .ref p/\y = .int i/\al K H p xs/\gj xs i=some v/\Q v H
def zl(K:PySem.W.Frag):R2:=λx y H Q=>∃ p xs i v,x = .ref p/\y = .int i/\aW K H p xs/\gj xs i=some v/\Q v H
def zo:R2:=λx y H Q=>∃ z i c,x = .str z/\y = .int i/\z.length<=sizeLine/\gj z.cps.toList i=some c/\Q (.str ⟨#[c]⟩) H
theorem dq:sJ X (sM X.K):=by
 intro value slice pins s σ H x y v u Q I rx ry h hs;obtain⟨p,xs,i,z,rfl,rfl,hq,he,q⟩:=h;cases rx;obtain⟨t,rfl⟩:=ry;obtain⟨its,r,pl,hz⟩:=I.list hq;obtain⟨j,h1,h2,h3,h4,h5⟩:=zi he;obtain⟨w,ew,bT⟩:=r.get h2;have hl:=r.length;have hn:=sy;have fin:EP X pins σ Q w s:=⟨z,H,I,bT,q⟩
 by_cases h0:0<=i
 ·have hj:i.toNat=j:=by
   rw [seqIndex_of h0 h5] at h1;exact Option.some.inj h1
  exact item_listR pl.isList h0 (by omega) (by rw [hj];simpa using ew) fin hs
 ·have hj:(i+(its.toArray.size:Int)).toNat=j:=by
   rw [seqIndex_neg (by omega) h4] at h1;rw [Aw,<- hl];exact Option.some.inj h1
  exact subscriptTail_builtinR (x:=w) pl.isList.typeIs slot_list_getitem.lookup
   (wpAny_getItem_list_neg (Q:=λr s'=>r=w/\EP X pins σ Q r s') pl.isList (by omega) (by rw [Aw] <;> omega) (by omega) (by rw [hj];simpa using ew) ⟨rfl,fin⟩) hs
theorem cI:sJ X (zl X.K):=by
 intro value slice pins s σ H x y v u Q I rx ry h hs;obtain⟨p,xs,i,z,rfl,rfl,hq,he,q⟩:=h;cases rx;obtain⟨t,rfl⟩:=ry;obtain⟨its,r,pl,hz⟩:=I.tuple hq;obtain⟨j,h1,h2,h3,h4,h5⟩:=zi he;obtain⟨w,ew,bT⟩:=r.get h2;have hl:=r.length;have hn:=sy;have fin:EP X pins σ Q w s:=⟨z,H,I,bT,q⟩;exact subscriptTail_builtinR (x:=w) pl.typeIs slot_tuple_getitem.lookup
  (getItem_tuple (j:=j) (Q:=λr s'=>r=w/\EP X pins σ Q r s') pl (by omega) (by omega) (by rw [Aw,<- hl];exact h1) (by simpa using ew) ⟨rfl,fin⟩) hs
theorem Kx:sJ X zo:=by
 intro value slice pins s σ H x y v u Q I rx ry h hs;obtain⟨z,i,c,rfl,rfl,hz,he,q⟩:=h;obtain⟨t,rfl⟩:=rx;obtain⟨t',rfl⟩:=ry;obtain⟨j,h1,h2,h3,h4,h5⟩:=zi he;have hl:z.cps.toList.length=z.length:=by simp [Str.length]
 rw [hl] at h1 h4 h5;have hn:=sy;exact tail_any (typeIs_str s z t) slot_str_getitem.lookup (getItem_str (c:=c) (by
  have e1:decide (i < -(2 ^ 63:Int))=false:=BW (by omega);have e2:decide (i>=2 ^ 63)=false:=BW (by omega);rw [e1,e2,Bool.or_false]) (by rw [h1];simpa using h2) ⟨.str ⟨#[c]⟩,H,I.tok _,⟨_,rfl⟩,q⟩) hs
theorem Ug(lo hi:Option Int)(n:Nat):(sliceBounds lo hi none n).1=((HT.gg n 0 lo:Nat):Int)/\(sliceBounds lo hi none n).2.1=((HT.gg n n hi:Nat):Int)/\(sliceBounds lo hi none n).2.2=1:=by
 refine⟨?_,?_,rfl⟩
 ·cases lo with
  | none=>simp [sliceBounds,HT.gg]
  | some i=>
   simp only [sliceBounds,HT.gg,Option.getD_none,show(1:Int) > 0 by decide,DW]
   by_cases h:i < 0
   ·simp only [h,DW] <;> omega
   ·simp only [h,CW] <;> omega
 ·cases hi with
  | none=>simp [sliceBounds,HT.gg]
  | some i=>
   simp only [sliceBounds,HT.gg,Option.getD_none,show(1:Int) > 0 by decide,DW]
   by_cases h:i < 0
   ·simp only [h,DW] <;> omega
   ·simp only [h,CW] <;> omega
theorem Uh(its:List Value)(lo hi:Option Int):slicePick its.toArray lo hi none=((its.drop<|HT.gg its.length 0 lo).take<|HT.gg its.length its.length hi - HT.gg its.length 0 lo).toArray:=by
 obtain⟨h1,h2,h3⟩:=Ug lo hi its.toArray.size;unfold slicePick;rw [h1,h2,h3];simp only [sliceRange_one,pick_run,Aw] <;> rfl
def zp(K:PySem.W.Frag):V->Option Int->Option Int->Hp->VK->Prop:=λx lo hi H Q=>∃ a xs,x = .ref a/\al K H a xs/\∀ p,H p=none->Q (.ref p) (upd H p<|.lst<|dC xs lo hi)
theorem qD:zh X (zp X.K):=by
 intro pins s σ H x v vl vu lo hi sl Q I rx hs pl pu h;obtain⟨a,xs,rfl,hx,q⟩:=h;cases rx;obtain⟨its,r,ht,hz⟩:=I.list hx;have hlen:=r.length;refine⟨"list",_,slot_list_getitem.lookup,ht.isList.typeIs,?_⟩;refine wpAny_getItem_list_slice ht.isList hs pl pu .none (by simp) ?_ (by rw [Aw] <;> omega);rw [Uh,<- hlen];refine⟨.ref s.heap.objs.size,_,I.laid (t':=s.toks) (o:= .lst<|dC xs lo hi) (λb ob q=>Ai _ q) (Ao _) ?_,rfl,q _<|I.aJ.fresh<|Ao _⟩;exact⟨Cp (Uc xs lo hi) hz,_,0,(r.drop<|HT.gg xs.length 0 lo).take<|HT.gg xs.length xs.length hi - HT.gg xs.length 0 lo,Be _ rfl⟩
def jE:V->Bool
 | .non=>true
 | .bl _=>true
 | .int _=>true
 | .str _=>true
 | _=>false
def dI:V->V->Bool
 | .non,.non=>true
 | .bl a,.bl b=>a == b
 | .bl a,.int b=>(if a then 1 else 0) == b
 | .int a,.bl b=>a == (if b then 1 else 0)
 | .int a,.int b=>a == b
 | .str a,.str b=>a == b
 | _,_=>false
theorem Ky{A:Around}{s:Shared}{y x:V}{u v:Value}(ry:RelV y u)(rx:RelV x v)(fy:jE y=true)(fx:jE x=true):SeqAt.EqAt A s u v (dI y x):=by
 cases y with
 | non=>
  cases ry;cases x with
  | non=>cases rx;exact SeqAt.EqAt.same _
  | bl b=>cases rx;exact SeqAt.EqAt.none_bool b
  | int b=>obtain⟨t,rfl⟩:=rx;exact SeqAt.EqAt.none_int b t
  | str b=>obtain⟨t,rfl⟩:=rx;exact SeqAt.EqAt.none_str b t
  | _=>exact absurd (show false=true from fx) Aq
 | bl a=>
  cases ry;cases x with
  | non=>cases rx;exact SeqAt.EqAt.bool_none a
  | bl b=>cases rx;exact SeqAt.EqAt.bool_bool a b
  | int b=>obtain⟨t,rfl⟩:=rx;exact SeqAt.EqAt.bool_int a b t
  | str b=>obtain⟨t,rfl⟩:=rx;exact SeqAt.EqAt.bool_str a b t
  | _=>exact absurd (show false=true from fx) Aq
 | int a=>
  obtain⟨t',rfl⟩:=ry;cases x with
  | non=>cases rx;exact SeqAt.EqAt.int_none a t'
  | bl b=>cases rx;exact SeqAt.EqAt.int_bool a t' b
  | int b=>obtain⟨t,rfl⟩:=rx;exact SeqAt.EqAt.int_int a t' b t
  | str b=>obtain⟨t,rfl⟩:=rx;exact SeqAt.EqAt.int_str a t' b t
  | _=>exact absurd (show false=true from fx) Aq
 | str a=>
  obtain⟨t',rfl⟩:=ry;cases x with
  | non=>cases rx;exact SeqAt.EqAt.str_none a t'
  | bl b=>cases rx;exact SeqAt.EqAt.str_bool a t' b
  | int b=>obtain⟨t,rfl⟩:=rx;exact SeqAt.EqAt.str_int a t' b t
  | str b=>obtain⟨t,rfl⟩:=rx;exact SeqAt.EqAt.str_str a t' b t
  | _=>exact absurd (show false=true from fx) Aq
 | _=>exact absurd (show false=true from fy) Aq
def fO(x:V)(u:Value):Bool:=match u with
 | .none=>dI .non x
 | .bool b=>dI (.bl b) x
 | .int i _=>dI (.int i) x
 | .str z _=>dI (.str z) x
 | _=>false
theorem Kz{x y:V}{u:Value}(r:RelV y u)(f:jE y=true):fO x u=dI y x:=by
 cases y with
 | non=>cases r;rfl
 | bl b=>cases r;rfl
 | int i=>obtain⟨t,rfl⟩:=r;rfl
 | str z=>obtain⟨t,rfl⟩:=r;rfl
 | _=>exact absurd (show false=true from f) Aq
theorem sN{x:V}:∀{xs:List V} {us:List Value},av xs us->xs.all jE=true->us.any (fO x)=xs.any λy=>dI y x
 | _,_,.nil,_=>rfl
 | y :: xs,u :: us,.cons r t,f=>by
  rw [Hi,Cf] at f;rw [Fy,Fy,Kz r f.1,sN t f.2]
theorem qF{A:Around}{s:Shared}{x:V}{v:Value}(rx:RelV x v)(fx:jE x=true):∀{xs:List V} {us:List Value},av xs us->xs.all jE=true->∀ u∈us,SeqAt.EqAt A s u v<|fO x u
 | _,_,.nil,_=>λu hu=>by cases hu
 | y :: xs,u :: us,.cons r t,f=>λu' hu=>by
  rw [Hi,Cf] at f
  rcases Am.mp hu with rfl | hu
  ·rw [Kz r f.1];exact Ky r rx f.1 fx
  ·exact qF rx fx t f.2 u' hu
def wa(x:V)(xs:List V):Bool:=xs.any λy=>dI y x
def KA(K:PySem.W.Frag)(neg:Bool):R2:=λx y H Q=>∃ p xs,y = .ref p/\(al K H p xs\/aW K H p xs)/\jE x=true/\xs.all jE=true/\Q (.bl (if neg then !wa x xs else wa x xs)) H
theorem Ui:dB X (compareOp .In) (KA X.K false):=by
 intro pins s σ H x y v u Q I rx ry h;obtain⟨p,xs,rfl,hq,fx,fs,q⟩:=h;cases ry
 rcases hq with hq | hq
 ·obtain⟨its,r,pl,hz⟩:=I.list hq;refine SeqAt.in_listAt (fO x) pl.isList (λw hw=>qF rx fx r fs w<|by simpa using hw) ⟨.bl _,H,I,rfl,?_⟩;rw [show its.toArray.any (fO x)=its.any (fO x) by simp,sN r fs];exact q
 ·obtain⟨its,r,pl,hz⟩:=I.tuple hq;refine SeqAt.in_tupleAt (fO x) pl (λw hw=>qF rx fx r fs w<|by simpa using hw) ⟨.bl _,H,I,rfl,?_⟩;rw [show its.toArray.any (fO x)=its.any (fO x) by simp,sN r fs];exact q
theorem Uj:dB X (compareOp .NotIn) (KA X.K true):=by
 intro pins s σ H x y v u Q I rx ry h;obtain⟨p,xs,rfl,hq,fx,fs,q⟩:=h;cases ry
 rcases hq with hq | hq
 ·obtain⟨its,r,pl,hz⟩:=I.list hq;refine SeqAt.notIn_listAt (fO x) pl.isList (λw hw=>qF rx fx r fs w<|by simpa using hw) ⟨.bl _,H,I,rfl,?_⟩;rw [show its.toArray.any (fO x)=its.any (fO x) by simp,sN r fs];exact q
 ·obtain⟨its,r,pl,hz⟩:=I.tuple hq;refine SeqAt.notIn_tupleAt (fO x) pl (λw hw=>qF rx fx r fs w<|by simpa using hw) ⟨.bl _,H,I,rfl,?_⟩;rw [show its.toArray.any (fO x)=its.any (fO x) by simp,sN r fs];exact q
theorem dP:fh X (.builtin "len") (λxs H Q=>∃ p ys,xs=[.ref p]/\(al X.K H p ys\/aW X.K H p ys)/\Q (.int ys.length) H):=by
 intro pins s σ H xs us Q I r h;obtain⟨p,ys,rfl,hq,q⟩:=h;obtain⟨u,rfl,rx⟩:=vals1 r;cases rx;have hn:=sy
 rcases hq with hq | hq
 ·obtain⟨its,r',pl,hz⟩:=I.list hq;have hlen:=r'.length;exact Calls.call_len_list pl.isList (by simp only [Aw] <;> omega) ⟨.int ys.length,H,I.tok _,⟨s.toks+1,by rw [Aw,hlen]⟩,q⟩
 ·obtain⟨its,r',pl,hz⟩:=I.tuple hq;have hlen:=r'.length;exact len_tuple pl (by simp only [Aw] <;> omega) ⟨.int ys.length,H,I.tok _,⟨s.toks+1,by rw [Aw,hlen]⟩,q⟩
theorem KE:fh X (.type "list") (λxs H Q=>∃ p ys,xs=[.ref p]/\(al X.K H p ys\/aW X.K H p ys)/\∀ l,H l=none->Q (.ref l) (upd H l<|.lst ys)):=by
 intro pins s σ H xs us Q I r h;obtain⟨p,ys,rfl,hq,q⟩:=h;obtain⟨u,rfl,rx⟩:=vals1 r;cases rx;have fin:∀(its:List Value),av ys its->ys.length<=sizeLine->∀(h':Heap) (c':Nat),(∀ b o',s.heap.get? b=some o'->h'.get? b=some o') ->
   h'.get? s.heap.objs.size=some {cls:= .type "list",dict:=none,data:= .seq its.toArray c',slots:=#[]}->EP X pins σ Q (.ref s.heap.objs.size) {s with heap:=h'}:=λits r' hz h' c' kp e=>
  ⟨.ref s.heap.objs.size,_,I.laid (t':=s.toks) kp (Ao _) (show aH X.prog X.w _ h' _ (.lst ys) from⟨hz,its,c',r',e⟩),rfl,q _<|I.aJ.fresh<|Ao _⟩
 rcases hq with hq | hq
 ·obtain⟨its,r',pl,hz⟩:=I.list hq;have hlen:=r'.length;obtain⟨o,ho,hc,n,hd⟩:=pl.isList;exact call_list_seq p (.inl rfl) ho hc hd (λh' c' kp e=>fin its r' hz h' c' kp e)<|by simp only [Aw] <;> omega
 ·obtain⟨its,r',pl,hz⟩:=I.tuple hq;have hlen:=r'.length;obtain⟨o,ho,hc,n,hd⟩:=pl;exact call_list_seq p (.inr rfl) ho hc hd (λh' c' kp e=>fin its r' hz h' c' kp e)<|by simp only [Aw] <;> omega
def mD(K:PySem.W.Frag)(T:String)(x:V)(H:Hp):Prop:=match x with
 | .str _=>T = "str"
 | .int _=>T = "int"
 | .ref p=>(T = "list"/\∃ xs,al K H p xs)\/(T = "tuple"/\∃ o,K.lookup p=some o/\o.cls = .type "tuple"/\o.dict=none) \/
   (T = "dict"/\((∃ kvs,H p=some (.dK kvs))\/∃ kvs,H p=some (.dT kvs)))\/(T = "set"/\∃ S n,H p=some (.set S n))
 | _=>False
theorem KG{pins:List (Addr×Obj)}{σ:St}{H:Hp}{s:Shared}{T:String}{x:V}{v:Value}(I:Inv X pins σ H s)(r:RelV x v)(ty:mD X.K T x H) :
  s.TypeIs v T/\∀ a,v = .ref a->∃ ob,s.heap.get? a=some ob/\ob.dict=none:=by
 cases x with
 | str z=>
  obtain⟨t,rfl⟩:=r;cases (show T = "str" from ty);exact⟨typeIs_str s z t,λ_ e=>nomatch e⟩
 | int i=>
  obtain⟨t,rfl⟩:=r;cases (show T = "int" from ty);exact⟨typeIs_int s i t,λ_ e=>nomatch e⟩
 | ref p=>
  cases r
  rcases ty with ⟨rfl,xs,hq⟩ | ⟨rfl,o,hk,hc,hd⟩ | ⟨rfl,hk⟩ | ⟨rfl,S,n,hk⟩
  ·obtain⟨its,_,pl,_⟩:=I.list hq;refine⟨pl.isList.typeIs,λa e=>?_⟩;cases e;obtain⟨o,n,e,c,hd,_⟩:=pl;exact⟨o,e,hd⟩
  ·refine⟨⟨o,I.kz p o hk,hc⟩,λa e=>?_⟩;cases e;exact⟨o,I.kz _ o hk,hd⟩
  ·have z:∃ o,s.heap.get? p=some o/\o.ExactDict:=by
    rcases hk with ⟨kvs,hk⟩ | ⟨kvs,hk⟩
    ·obtain⟨_,_,_,_,o,_,_,e,ex,_⟩:=I.aJ p _ hk;exact⟨o,e,ex⟩
    ·obtain⟨_,_,_,_,o,_,_,e,ex,_⟩:=I.aJ p _ hk;exact⟨o,e,ex⟩
   obtain⟨o,e,ex⟩:=z;refine⟨⟨o,e,ex.1⟩,λa e2=>?_⟩;cases e2;exact⟨o,e,ex.2.1⟩
  ·obtain⟨o,_,_,_,e,ex,_⟩:=I.aJ p _ hk;refine⟨⟨o,e,ex.1⟩,λa e2=>?_⟩;cases e2;exact⟨o,e,ex.2.1⟩
 | _=>exact False.elim ty
def zu(K:PySem.W.Frag)(T:String)(r:V->List V->Hp->VK->Prop)(to:TE):TE:=λσ H Q=>to σ H λx H1=>mD K T x H1/\r x [] H1 Q
def Uk(K:PySem.W.Frag)(T:String)(r:V->List V->Hp->VK->Prop)(to:TE)(t:TA):TE:=λσ H Q=>to σ H λx H1=>mD K T x H1/\t σ H1 λxs H2=>r x xs H2 Q
variable{o e:Expr}{es:List Expr}{to:TE}{t:TA}{name:Str}{apos dQ:Pos}{T id:String}{r:V->List V->Hp->VK->Prop}
theorem Ul(pa:PlainAttrs T)(slot:Slot T name id)(lu:typeOf (.builtin id)=pure (.type "method_descriptor"))(hm:sK X id r)(ho:PE X o to)
  (bV:attributeBase o name X.env (eval o X.env)=eval o X.env:=by rfl) (hline:(apos.endLine == dQ.line)=true:=by rfl):PE X (.Call (.Attribute o name apos) [] [] dQ) (zu X.K T r to):=by
 intro pins s σ H Q I h;refine wpAny_Call_method0_late bV hline<|aS (ho pins s σ H _ I h) λv s1 ⟨x,H1,I1,r1,ty,q1⟩=>?_;obtain⟨h1,h2⟩:=KG I1 r1 ty;exact⟨T,id,pa,slot,lu,h1,h2,Calls.callWith_builtin rfl (PySem.evalArgs_none<|hm pins s1 σ H1 x [] v [] Q I1 r1 .nil q1)⟩
theorem zv(pa:PlainAttrs T)(slot:Slot T name id)(lu:typeOf (.builtin id)=pure (.type "method_descriptor"))(hm:sK X id r)(ho:PE X o to)(ha:PA X (e :: es) t)
  (bV:attributeBase o name X.env (eval o X.env)=eval o X.env:=by rfl)
  (bC : ((backTo dQ<|starEach (e :: es) X.env).all (λx => !x.1) && (backToKw dQ<|keywordEach [] X.env).all (λx => x.1.isSome)
   && decide ((e :: es).length+([]:List Keyword).length+(if([]:List Keyword).isEmpty then 0 else 1) < 30))=true:=by rfl)
  (hline:(apos.endLine == dQ.line)=true:=by rfl) (hs:starEach (e :: es) X.env=(false,eval e X.env) :: starEach es X.env:=by rfl) (bK:(backTo dQ<|starEach es X.env).any (·.1)=false:=by rfl) :
  PE X (.Call (.Attribute o name apos) (e :: es) [] dQ) (Uk X.K T r to t):=by
 intro pins s σ H Q I h;refine wpAny_Call_method_late bV bC hline rfl (aS (ho pins s σ H _ I h) λv s1 ⟨x,H1,I1,r1,ty,q1⟩=>?_);obtain⟨h1,h2⟩:=KG I1 r1 ty;refine⟨T,id,pa,slot,lu,h1,h2,?_⟩;have hA:=ha dQ pins s1 σ H1 _ I1 q1;rw [hs] at hA ⊢;refine Calls.callWith_builtin (by show(false || (backTo dQ<|starEach es X.env).any (·.1))=false;rw [bK] <;> rfl)<|Calls.evalArgs_plain ?_;exact aS hA λus s2 ⟨vs,H2,I2,r2,q2⟩=>hm pins s2 σ H2 x vs v us Q I2 r1 r2 q2
end
def mE(X:Cx)(id:String)(r:V->List V->Hp->VK->Prop):Prop:=
 ∀(pins:List<|Addr×Obj) (s:Shared) (σ:St) (H:Hp) (x:V) (xs:List V) (v:Value) (us:List Value) (Q:VK),Inv X pins σ H s->RelV x v->av xs us->r x xs H Q ->
  wpAny (model X.prog X.w) X.A (call (.builtin id)<|v :: us) (EP X pins σ Q) X.xe s
theorem av.hd{x:V}{xs:List V}{us:List Value}(h:av (x :: xs) us):∃ u vs,us=u :: vs/\RelV x u/\av xs vs:=by
 cases h with
 | cons r t=>exact⟨_,_,rfl,r,t⟩
theorem av.nl{us:List Value}(h:av [] us):us=[]:=by
 cases h;rfl
theorem av.one{x:V}{us:List Value}(h:av [x] us):∃ u,us=[u]/\RelV x u:=by
 obtain⟨u,vs,rfl,r,t⟩:=h.hd;rw [t.nl];exact⟨u,rfl,r⟩
theorem av.two{x y:V}{us:List Value}(h:av [x,y] us):∃ u v,us=[u,v]/\RelV x u/\RelV y v:=by
 obtain⟨u,vs,rfl,r,t⟩:=h.hd;obtain⟨v,ws,rfl,q,t⟩:=t.hd;rw [t.nl];exact⟨u,v,rfl,r,q⟩
theorem av.zero:∀{us:List Value},av [] us->us=[]
 | _,.nil=>rfl
theorem av.dropLast{xs:List V}{us:List Value}(h:av xs us):av xs.dropLast us.dropLast:=by
 induction h with
 | nil=>exact .nil
 | cons r t ih=>
  cases t with
  | nil=>exact .nil
  | cons q t'=>exact .cons r ih
theorem av.eraseIdx:∀{xs:List V} {us:List Value} (i:Nat),av xs us->av (xs.eraseIdx i) (us.eraseIdx i)
 | _,_,_,.nil=> .nil
 | _,_,0,.cons _ t=>t
 | _,_,i+1,.cons r t=> .cons r<|av.eraseIdx i t
theorem Um{α:Type}(l:List α):l.eraseIdx (l.length - 1)=l.dropLast:=by
 induction l with
 | nil=>rfl
 | cons a r ih=>
  cases r with
  | nil=>rfl
  | cons b r=>
   have e:(a :: b :: r).length - 1=((b :: r).length - 1)+1:=by
    have h1:(a :: b :: r).length=r.length+2:=rfl;have h2:(b :: r).length=r.length+1:=rfl;omega
   rw [e,QW,ih]
   all_goals rfl
theorem KI{α:Type}:∀(l:List α) (i:Nat),(l.eraseIdx i).length<=l.length
 | [],_=>Ao _
 | _ :: _,0=>Eh _
 | _ :: r,i+1=>Nat.succ_le_succ<|KI r i
section
variable{X:Cx}{pins:List (Addr×Obj)}{σ:St}{H:Hp}{s:Shared}{l b:Addr}{xs ys zs:List V}
theorem Inv.jF{its its':List Value}{n:Nat}{f:Array Value->Array Value}{t':Nat}(I:Inv X pins σ H s)(hH:H l=some (.lst xs))
  (e:s.heap.get? l=some {cls:= .type "list",data:= .seq its.toArray n}) (hf:f its.toArray=its'.toArray) (hv:av ys its') (hz:ys.length<=sizeLine) :
  Inv X pins σ (upd H l<|.lst ys) {s with heap:=s.heap.update l<|Obj.mapSeq f,toks:=t'}:=by
 have q:=PySem.IsL.update e f;rw [hf] at q;refine I.write (x:=l) (e:=l) (by rw [hH];exact trivial) (.inl rfl) (λb' u hb hu=>(Bg s.heap (Obj.mapSeq f)<|Ne.symm hb).trans hu) ⟨_,q⟩ ?_;exact⟨hz,its',_,hv,q⟩
theorem Inv.zx{its:List Value}{t':Nat}(I:Inv X pins σ H s)(hv:av ys its)(hz:ys.length<=sizeLine) :
  Inv X pins σ (upd H s.heap.objs.size<|.lst ys) {s with heap:=s.heap.push {cls:= .type "list",data:= .seq its.toArray},toks:=t'}:=
 I.laid (λ_ _ q=>Ai _ q) (Ao _) ⟨hz,its,0,hv,Be _ rfl⟩
theorem Inv.fresh(I:Inv X pins σ H s):H s.heap.objs.size=none:=I.aJ.fresh<|Ao _
theorem Inv.gk(I:Inv X pins σ H s)(hH:H l=some (.lst xs)):xs.length<=sizeLine/\∃(its:List Value) (n:Nat),av xs its/\xs.length=its.length/\s.heap.get? l=some {cls:= .type "list",data:= .seq its.toArray n}:=by
 obtain⟨z,its,n,r,e⟩:=I.aJ l _ hH;exact⟨z,its,n,r,r.length,e⟩
theorem Uo{n:Nat}(h:n<=sizeLine):Builtin.List.listTooLong n=false:=by
 unfold Builtin.List.listTooLong;exact BW<|by omega
end
section
variable{X:Cx}
def Uq:V->List V->Hp->VK->Prop:=λx vs H Q=>∃ l xs y,x = .ref l/\vs=[y]/\H l=some (.lst xs)/\xs.length < sizeLine/\Q .non (upd H l<|.lst<|xs++[y])
theorem KL:mE X "list.append" Uq:=by
 intro pins s σ H x vs v us Q I rx rv h;obtain⟨l,xs,y,rfl,rfl,hH,hz,q⟩:=h;cases rx;obtain⟨u,rfl,ru⟩:=rv.one;obtain⟨z,its,n,r,hl,e⟩:=I.gk hH;refine JD F.slot_list_append ⟨_,e,rfl⟩ F.entry_list_append (F.args_list_append_2 _ _) (PySem.list_append l its.toArray n u<|by rw [Aw];omega) ⟨e,?_⟩;refine⟨.non,_,I.jF (its':=its++[u]) hH e (by simp) (r.append<|.cons ru .nil) ?_,rfl,q⟩;rw [Ah,Er];omega
def Ur:V->List V->Hp->VK->Prop:=λx vs H Q=>∃ l b xs zs,x = .ref l/\vs=[.ref b]/\H l=some (.lst xs)/\H b=some (.lst zs)/\xs.length+zs.length<=sizeLine/\Q .non (upd H l<|.lst<|xs++zs)
theorem q6v:mE X "list.extend" Ur:=by
 intro pins s σ H x vs v us Q I rx rv h;obtain⟨l,b,xs,zs,rfl,rfl,hH,hB,hz,q⟩:=h;cases rx;obtain⟨u,rfl,ru⟩:=rv.one;cases ru;obtain⟨z,its,n,r,hl,e⟩:=I.gk hH;obtain⟨z2,gm,n2,r2,fk,e2⟩:=I.gk hB;have hsz:its.toArray.size+gm.toArray.size<=sizeLine:=by rw [Aw,Aw];omega
 have sO:¬(!its.toArray.isEmpty && Builtin.List.listTooLong (its.toArray.size+gm.toArray.size))=true:=by
  rw [Uo hsz,Gh];exact Aq
 refine JD F.slot_list_extend ⟨_,e,rfl⟩ F.entry_list_extend (F.args_list_extend_2 _ _)
  (AutoSeq1.list_extend_list_list_0 l its.toArray n b gm.toArray n2 sO (by rw [Aw];omega)<|by omega) ⟨e,e2,?_⟩
 refine⟨.non,_,I.jF (its':=its++gm) hH e (by simp) (r.append r2) ?_,rfl,q⟩;rw [Ah];omega
def zy:V->List V->Hp->VK->Prop:=λx vs H Q=>∃ l xs y,x = .ref l/\vs=[]/\H l=some (.lst xs)/\xs[xs.length - 1]?=some y/\Q y (upd H l<|.lst xs.dropLast)
theorem KO:mE X "list.pop" zy:=by
 intro pins s σ H x vs v us Q I rx rv h;obtain⟨l,xs,y,rfl,rfl,hH,hy,q⟩:=h;cases rx;have Us:=rv.zero;subst Us;obtain⟨z,its,n,r,hl,e⟩:=I.gk hH;obtain⟨u,hu,ru⟩:=r.get hy;have zC:its.toArray[its.toArray.size - 1]?=some u:=by
  show its.toArray[its.length - 1]?=some u;rw [<- Bz,<- hl];exact hu
 refine JD F.slot_list_pop ⟨_,e,rfl⟩ F.entry_list_pop (F.args_list_pop_1 _) (MeetsSeq.list_pop_last l its.toArray n u zC<|by rw [Aw];omega) ⟨e,?_⟩;refine⟨y,_,I.jF (its':=its.dropLast) hH e ?_ r.dropLast ?_,ru,q⟩
 ·show its.toArray.eraseIdxIfInBounds (its.toArray.size - 1)=its.dropLast.toArray;rw [Aw,KN,Um]
 ·rw [List.length_dropLast];omega
def Ut:V->List V->Hp->VK->Prop:=λx vs H Q=>∃ l xs i k y,x = .ref l/\vs=[.int i]/\H l=some (.lst xs)/\-(2 ^ 63)<=i/\i < 2 ^ 63/\seqIndex? i xs.length=some k/\xs[k]?=some y/\Q y (upd H l<|.lst<|xs.eraseIdx k)
theorem Uu:mE X "list.pop" Ut:=by
 intro pins s σ H x vs v us Q I rx rv h;obtain⟨l,xs,i,k,y,rfl,rfl,hH,h1,h2,hk,hy,q⟩:=h;cases rx;obtain⟨u,rfl,ru⟩:=rv.one;obtain⟨t,rfl⟩:=ru;obtain⟨z,its,n,r,hl,e⟩:=I.gk hH;obtain⟨w,hw,bT⟩:=r.get hy;refine JD F.slot_list_pop ⟨_,e,rfl⟩ F.entry_list_pop (F.args_list_pop_2 _ _)
  (MeetsSeq.list_pop_at l its.toArray n i t k w (fitsIndex_both h1 h2) (by rw [Aw,<- hl];exact hk) (by rw [<- Bz];exact hw)<|by rw [Aw];omega) ⟨e,?_⟩
 refine⟨y,_,I.jF (its':=its.eraseIdx k) hH e ?_ (r.eraseIdx k) ?_,bT,q⟩
 ·show its.toArray.eraseIdxIfInBounds k=(its.eraseIdx k).toArray;rw [KN]
 ·have:=KI xs k;omega
def sQ:R2:=λx y H Q=>∃ l b xs zs,x = .ref l/\y = .ref b/\H l=some (.lst xs)/\H b=some (.lst zs)/\xs.length+zs.length<=sizeLine/\∀ p,H p=none->Q (.ref p) (upd H p<|.lst<|xs++zs)
theorem sR:dB X (binaryOp .Add) sQ:=by
 intro pins s σ H x y v u Q I rx ry h;obtain⟨l,b,xs,zs,rfl,rfl,hH,hB,hz,q⟩:=h;cases rx;cases ry;obtain⟨z,its,n,r,hl,e⟩:=I.gk hH;obtain⟨z2,gm,n2,r2,fk,e2⟩:=I.gk hB;refine PySem.P.add_list e e2 ?_ (by rw [Aw,Aw];omega);have ea:its.toArray++gm.toArray=(its++gm).toArray:=by simp
 rw [ea];exact⟨.ref _,_,I.zx (t':=s.toks) (r.append r2) (by rw [Ah];omega),rfl,q _ I.fresh⟩
end
section
variable{prog:Program}{w:World}{A:Around}{E:Value->Shared->Prop}{s:Shared}
end
section
variable{X:Cx}
end
end L2
namespace KP
open PySem PySem.W PySem.Calls PyProof.Rows
theorem Uv{P:Params}{h:Heap}:∀(ns:List Int) (vs:List Value),WellAll P h vs (ns.map WData.int)->IntsAre vs ns:=by
 intro ns
 induction ns with
 | nil=>
  intro vs w;rw [TX] at w;cases w;exact .nil
 | cons n ns ih=>
  intro vs w;rw [Bd] at w;cases w with
  | cons a b=>
   cases a;exact .cons _ _<|ih _ b
theorem Uw{l:OpenLaw}{n:Nat}(hn:l.most=some n){P:Params}{h:Heap}{args:List WData}{vals:List Value}
  (lv:l.row.toRowW.claim.pre args=true) (sS:WellAll P h vals args) :
  ∃ a vs ns,vals=[Value.ref a]/\args=[WData.list<|ns.map WData.int]/\h.get? a=some {cls:= .type "list",data:= .seq vs.toArray}/\IntsAre vs ns/\ns.length<=n:=by
 have Ux:WShape.hasAll [] args [.list .int]=true:=(pre_splitW lv).1;have hc:l.pre.holds [] {args:=args}=true:=(pre_splitW lv).2;obtain⟨d,r,rfl,h1,h2⟩:=hasAllW_cons Ux;obtain rfl:=hasAllW_nil h2;obtain⟨xs,rfl,h3⟩:=hasW_list h1;obtain⟨ns,rfl⟩:=items_int h3;have hlen:ns.length<=n:=by
  unfold OpenLaw.pre at hc;have h4:(WTm.not<|.lt (.lit<|.int (n:Int))<|.len<|.arg 0).holds [] {args:=[.list<|ns.map .int]}=true:=by
   have h4:=(holds_andW hc).1;rw [hn] at h4;exact h4
  have h5:=condW_of h4<|w_not<|w_lt w_lit<|w_len_list<|w_arg rfl;rw [Aa] at h5;refine QF λq=>?_;have q':(n:Int) < ((ns.length:Nat):Int):=by omega
  first
   | (rw [BR q'] at h5;exact absurd h5<|by decide)
   | (simp at h5;omega)
 cases sS with
 | cons w1 w2=>
  cases w2;cases w1 with
  | list ho oI=>exact⟨_,_,ns,rfl,rfl,ho,Uv ns _ oI,hlen⟩
theorem Uy(l:OpenLaw)(args:List WData):l.row.toRowW.claim.post args (.bool true) args=true:=
 postW_of (r:=l.row.toRowW) (X:=(true == true))
  (show WShape.has [] (.bool true) .bool=true by first | rfl | decide | simp [WShape.has,WShape.arms,WShape.armsAll])
  (show(WTm.eq .res<|.lit<|.bool true).value [] {args:=args,res:=some<|.bool true,after:=args}=some (.bool<|true == true) from w_eq_bool (w_res rfl) w_lit) rfl
theorem gn{l:OpenLaw}{n:Nat}{q:Program}{loose:List Str}{XP:(Str->Option Value)->Heap->Prop}{YP:World->Heap->Prop}{d:DefRec}
  (hn:l.most=some n) (sU:d.params.defaults=[])
  (call : ∀ (w : World) (s₀ s₁ : Shared) (mg mb : Str → Option Value) (fa : Addr) (o : Obj) (pm cd doc : Value) (a : Addr) (vs : List Value) (ns : List Int),
   Ground q loose [] XP w s₀ mg mb s₁.heap->YP w s₁.heap ->
   s₁.heap.get? fa=some o->o.data = .func (docDef d.name d.params d.body d.scope pm cd doc)->s₁.heap.CodeRec cd d.name->mg d.name=some (.ref fa) ->
   s₁.heap.get? a=some {cls:= .type "list",data:= .seq vs.toArray}->IntsAre vs ns->ns.length<=n->s₁.gens=#[] ->
   codeAny (model l.prog w) callerA (.call (.ref fa) ⟨[.ref a],[]⟩) (λr s'=>r = .ok (.ret<|.bool true)/\OldK s₁.heap s'.heap/\s'.os=s₁.os/\AllBare s'.gens) s₁) :
  WalkO q loose XP YP l.row.toRowW d [] (λf vs=>PySem.call f vs):=by
 intro w s₀ s₁ mg mb G Y fa o pm cd doc dV kV ho hd iA hD sV hg args vals as lv hlay hrd sS wc;obtain rfl:dV = .none:=Dflts.none hD sU;obtain rfl:kV = .none:=Dflts.noKw hD;obtain⟨a,vs,ns,rfl,rfl,jG,hints,hlen⟩:=Uw hn lv sS;refine enter_call<|QD (call w s₀ s₁ mg mb fa o pm cd doc a vs ns G Y ho (fd_plain hd) iA sV jG hints hlen hg) λr s' hq=>?_;obtain⟨rfl,h2,h3,h4⟩:=hq;exact⟨.inl ⟨.bool true,.bool true,[],rfl,λ_=>rfl,.bool true,Uy l _,λ_=>⟨List.Pairwise.nil,λ_ hm=>(nomatch hm)⟩⟩,h2,h3,h4⟩
section
variable{prog:Program}{w:World}{A:Around}{E:Value->Shared->Prop}{s:Shared}{K:Frag}
end
end KP
namespace L2
open PySem PySem.Spec PyProof.Rows
theorem KS:∀{vs:List Value} {ns:List Int},IntsAre vs ns->av (ns.map V.int) vs
 | _,_,.nil=> .nil
 | _,_,.cons n t h=> .cons ⟨t,rfl⟩<|KS h
def Only(H:Hp):Prop:=∀ b,H b=none\/∃ o xs,H b=some (.ji o<|.lst xs)
theorem Uz{P:Program}{w:World}{K:PySem.W.Frag}{mg mb:Str->Option Value}{CX:ga}{k:Nat}{fa a:Addr}{fd:FuncData}{x:Str}{sp:Sp}{s₁:Shared}{vs:List Value}{ns:List Int}
  (KX:K.In s₁.heap) (we:s₁.heap.Ns mainGlobals mg) (hb:s₁.heap.Ns builtinsNs mb) (UA:∀ x:Str,x ≠ "__name__"->mb x=bootBuiltins x) (zD:s₁.heap.NoLimit) (hg:s₁.gens=#[])
  (ha:s₁.heap.get? a=some {cls:= .type "list",data:= .seq vs.toArray}) (hi:IntsAre vs ns) (hl:ns.length<=sizeLine) (hr:bq k callerA)
  (F:∀ base:Heap,K.In base->base.Ns mainGlobals mg->aM P w K mg base CX k fa fd [x] sp) (sW:∀(s:Shared) (u:Value),BindsTo s fd ⟨[u],[]⟩ [(x,u)])
  (fN:∀ H:Hp,Only H->al K H a (ns.map V.int)->sp [.ref a] H (λv _=>v = .bl true) λ_ _ _=>False)
  (zE:∀ H e s',CX [] H s₁ (λ_ _ _=>False) e s'->False) :
  codeAny (model P w) callerA (.call (.ref fa) ⟨[.ref a],[]⟩) (λr s'=>r = .ok (.ret<|.bool true)/\OldK s₁.heap s'.heap/\s'.os=s₁.os/\AllBare s'.gens) s₁:=by
 have rv:=KS hi;have zF:=hi.length;have core:∀ H:Hp,Only H->al K H a (ns.map V.int)->cg P w H s₁.heap->(∀ b,H b≠none->b=a)->(H a≠none->K.lookup a=none) ->
   codeAny (model P w) callerA (.call (.ref fa) ⟨[.ref a],[]⟩) (λr s'=>r = .ok (.ret<|.bool true)/\OldK s₁.heap s'.heap/\s'.os=s₁.os/\AllBare s'.gens) s₁:=by
  intro H hO hS aJ hA hK;have iE:∀{b:Addr} {o:Obj},s₁.heap.get? b=some o->H b=none->(fc s₁.heap H).get? b=some o:=λe n=>Sn e n;have sG:∀{b:Addr} {o:Obj} {es:Array DictEntry} {ep:Nat},s₁.heap.get? b=some o->o.data = .dict es ep->H b=none:=λ{b o es ep} e d=>by
   cases q:H b with
   | none=>rfl
   | some u=>
    have e':b=a:=hA b (by rw [q];simp);subst e';rw [ha] at e;cases e;have d':Data.seq vs.toArray _=Data.dict es ep:=d;cases d'
  have wg:∀{b:Addr} {m:Str->Option Value},s₁.heap.Ns b m->(fc s₁.heap H).Ns b m:=λ{b m} ⟨o,es,ep,e,d,r⟩=>⟨o,es,ep,iE e<|sG e d,d,r⟩;have KU:K.In (fc s₁.heap H):=λb o e=>iE (KX b o e)<|by
   cases q:H b with
   | none=>rfl
   | some u=>
    have e':b=a:=hA b (by rw [q];simp);subst e';rw [hK<|by rw [q];simp] at e;cases e
  have hM:Mod K mg (fc s₁.heap H):=⟨KU,wg we,⟨mb,wg hb,UA⟩,let ⟨mc,h1,h2⟩:=zD;⟨mc,wg h1,h2⟩⟩;have e0:k9 P w K mg (fc s₁.heap H) callerA [] s₁ H:=⟨rfl,hM,λb o e=>Sq e,Nat.le_of_eq<|Sl _ _,trivial,λb hb=>absurd (show b∈([]:List Addr) from hb) (by simp),aJ,.of_eq hg⟩;refine QD ((F _ KU<|wg we).run callerA [] s₁ H ⟨[.ref a],[]⟩ [.ref a] [.ref a] _ _ hr e0 (sW s₁<|.ref a) (.cons rfl .nil)<|fN H hO hS) λr s' h=>?_;cases r with
  | error e=>exact(zE H e s' h).elim
  | ok fl=>
   cases fl with
   | next=>exact False.elim h
   | brk=>exact False.elim h
   | cont=>exact False.elim h
   | ret u=>
    obtain⟨v,H',os,bare,un,zG,r',q⟩:=h;have q':v = .bl true:=q;subst q';obtain rfl:u=Value.bool true:=r';refine⟨rfl,OldK.of_keep λb o e=>?_,os,bare⟩;cases q:H b with
    | none=>exact un.keep b o e q (by intro z;exact absurd (show b∈([]:List Addr) from z)<|by simp)<|by simp
    | some u=>
     rcases hO b with z | ⟨ob,xs,z⟩
     ·rw [q] at z;cases z
     ·have z2:=un.dO b ob _ z;obtain⟨e1,_⟩:=aJ b _ z;obtain⟨e2,_⟩:=zG b _ z2;rw [e] at e1;cases e1;exact e2
 cases hk:K.lookup a with
 | some o=>
  have e:=KX a o hk;rw [ha] at e;cases e;refine core (λ_=>none) (λ_=> .inl rfl) (.inr ⟨_,vs.toArray,_,hk,rfl,rfl,rfl,by rw [Aw,zF];exact hl,by simpa using rv⟩) (λb u z=>by have z':(none:Option HO)=some u:=z;cases z') (λb z=>absurd rfl z) λz=>absurd rfl z
 | none=>
  refine core (λb=>if b=a then some (.ji {cls:= .type "list",data:= .seq vs.toArray}<|.lst<|ns.map V.int) else none) (λb=>?_) (.inl<|.inr ⟨{cls:= .type "list",data:= .seq vs.toArray},BL rfl⟩) (λb u z=>?_) (λb z=>?_) λ_=>hk
  ·by_cases hb:b=a
   ·exact .inr ⟨_,_,BL hb⟩
   ·exact .inl<|BK hb
  ·by_cases hb:b=a
   ·have z':=(BL hb).symm.trans z;cases z';subst hb;exact⟨ha,by rw [Aa];exact hl,vs,_,rv,ha⟩
   ·have z':=(BK hb).symm.trans z;cases z'
  ·by_cases hb:b=a
   ·exact hb
   ·exact absurd (BK hb) z
theorem lB{l:PySem.W.OpenLaw}{n k:Nat}{q:Program}{loose:List Str}{XP:(Str->Option Value)->Heap->Prop}{YP:World->Heap->Prop}{d:DefRec}{K:Params->PySem.W.Frag}{CX:World->ga}{sp:World->Sp}{x:Str}
  (hn:l.most=some n) (UB:n<=sizeLine) (sU:d.params.defaults=[]) (hr:bq k callerA)
  (hY:∀(w:World) (h:Heap),YP w h->(K w.params).In h)
  (F : ∀ (w : World) (mg : Str → Option Value) (fa : Addr) (h : Heap), (K w.params).In h → h.Ns mainGlobals mg → mg d.name = some (.ref fa) →
   ∃ fd:FuncData,(∀(s:Shared) (u:Value),BindsTo s fd ⟨[u],[]⟩ [(x,u)]) /\
    ∀ base:Heap,(K w.params).In base->base.Ns mainGlobals mg->aM l.prog w (K w.params) mg base (CX w) k fa fd [x] (sp w))
  (fN:∀(w:World) (H:Hp) (a:Addr) (ns:List Int),ns.length<=n->Only H->al (K w.params) H a (ns.map V.int)->sp w [.ref a] H (λv _=>v = .bl true) λ_ _ _=>False)
  (zE:∀(w:World) (H:Hp) (s:Shared) (e:Value) (s':Shared),CX w [] H s (λ_ _ _=>False) e s'->False) :
  PySem.W.WalkO q loose XP YP l.row.toRowW d [] (λf vs=>PySem.call f vs):=by
 refine KP.gn hn sU λw s₀ s₁ mg mb fa o pm cd doc a vs ns G Y ho hd iA sV jG hints hlen hg=>?_;have KX:=hY w _ Y;obtain⟨fd,hb,hF⟩:=F w mg fa _ KX G.T.g sV;exact Uz KX G.T.g G.T.b G.T.builtins G.T.nolimit hg jG hints (Cp hlen UB) hr hF hb (λH hO hS=>fN w H a ns hlen hO hS) λH e s'=>zE w H s₁ e s'
def mF(s:Stmt):Arguments:=match s with
 | .FunctionDef _ a _ _ _ _ _ _ _ _=>a
 | _=>{posonlyargs:=[],args:=[],vararg:=none,kwonlyargs:=[],kw_defaults:=[],kwarg:=none,defaults:=[]}
def iF(s:Stmt):List Stmt:=match s with
 | .FunctionDef _ _ b _ _ _ _ _ _ _=>b
 | _=>[]
def bj(s:Stmt):Scope:=match s with
 | .FunctionDef _ _ _ _ _ _ sc _ _ _=>sc
 | _=>{kind:= .function,names:=[],isGenerator:=false,isCoroutine:=false}
abbrev cf:ga:=λ_ _ _ _ _ _=>False
abbrev E0:XK:=λ_ _ _=>False
theorem UC{X:Cx}:lh cf X E0:=λ_ _ _ _ _ _ _ h=>h.elim
structure bW(K:PySem.W.Frag)(x qual:Str)(st:Stmt)(f:Addr)(fd:FuncData):Prop where
 ex:∃(oc:Value) (od:Option Addr) (kV doc pm:Value) (an:Option Addr) (bG ct:Value) (kB:Array<|Option Value),
  fd=PySem.W.fnOf x qual (mF st) (iF st) (bj st) .none kV doc pm an bG ct/\K.lookup f=some ⟨oc,od,.func fd,kB⟩/\PySem.W.codeIn K bG qual=true
 kp:PySem.W.keepIn K (.ref f)=true
section
variable{P:Program}{w:World}{K:PySem.W.Frag}{mg:Str->Option Value}{base:Heap}
theorem bW.ok{x qual:Str}{st:Stmt}{f:Addr}{fd:FuncData}{N ps:List Str}{k:Nat}{sp:Sp}(F:bW K x qual st f fd)(S:au N ps<|bj st)(len:∀ vs H Q E,sp vs H Q E->vs.length=ps.length)
  (c5 : ∀ (bG : Value) (A : Around) (outer : List Env) (s : Shared) (H : Hp) (vs : List V) (Q : VK) (E : XK), bq k (A.deeper<|envOfC qual (bj st) s.heap.objs.size f bG) → sp vs H Q E →
   ∃ t,iV (dh cf P w K mg base N qual (bj st) f bG A outer s H E).qu (iF st) t/\t {nx:=λ_ H'=>Q .non H',rt:=Q} (start N vs) H):aM P w K mg base cf (k+1) f fd ps sp:=by
 obtain⟨oc,od,kV,doc,pm,an,bG,ct,kB,rfl,lk,iA⟩:=F.ex;refine Kv lk iA S len λA outer s H vs Q E hr fN=>?_;obtain⟨t,h,q⟩:=c5 bG A outer s H vs Q E hr fN;exact⟨t,h.qu,q⟩
theorem bW.binds{x qual:Str}{st:Stmt}{f:Addr}{fd:FuncData}{ps:List Str}(F:bW K x qual st f fd)
  (h:∀(kV doc pm:Value) (an:Option Addr) (bG ct:Value) (us:List Value),us.length=ps.length->bindArgs (PySem.W.fnOf x qual (mF st) (iF st) (bj st) .none kV doc pm an bG ct) ⟨us,[]⟩=pure (ps.zip us)):Binds K fd ps []:=by
 obtain⟨oc,od,kV,doc,pm,an,bG,ct,kB,rfl,lk,iA⟩:=F.ex;exact .all<|h kV doc pm an bG ct
theorem UD{x qual:Str}{st:Stmt}{f:Addr}{oc:Value}{od an:Option Addr}{kB:Array (Option Value)}{kV doc pm bG ct:Value}(l:K.lookup f=some ⟨oc,od,.func<|PySem.W.fnOf x qual (mF st) (iF st) (bj st) .none kV doc pm an bG ct,kB⟩)
  (c:PySem.W.codeIn K bG qual=true) (k:PySem.W.keepIn K (.ref f)=true):bW K x qual st f (PySem.W.fnOf x qual (mF st) (iF st) (bj st) .none kV doc pm an bG ct):=⟨⟨oc,od,kV,doc,pm,an,bG,ct,kB,rfl,l,c⟩,k⟩
end
section
variable{X:Cx}
end
theorem cM{A B:Prop}(h:B):if false=true then A else B:=by
 rw [BK Aq];exact h
theorem cB{A B:Prop}(h:A):if true=true then A else B:=by
 rw [BL rfl];exact h
theorem iX{c A B:Prop} [Decidable c] (h1:c->A) (h2:¬ c->B):if c then A else B:=by
 by_cases h:c
 ·rw [BL h];exact h1 h
 ·rw [BK h];exact h2 h
def ak(H H':Hp):Prop:=∀ b o,H b=some o->H' b=some o
theorem ak.refl(H:Hp):ak H H:=λ_ _ h=>h
theorem ak.trans{H H1 H2:Hp}(a:ak H H1)(b:ak H1 H2):ak H H2:=λc o h=>b c o<|a c o h
theorem ak.free{H H':Hp}(e:ak H H'){l:Addr}(h:H' l=Option.none):H l=Option.none:=by
 cases q:H l with
 | none=>rfl
 | some o=>
  rw [e l o q] at h;cases h
theorem ak.seq{K:PySem.W.Frag}{H H':Hp}{a:Addr}{xs:List V}(e:ak H H')(h:al K H a xs):al K H' a xs:=by
 rcases h with (h | ⟨o,h⟩) | h
 ·exact .inl<|.inl<|e _ _ h
 ·exact .inl<|.inr ⟨o,e _ _ h⟩
 ·exact .inr h
section
variable{κ:Type} [DecidableEq κ]
def aA(kvs:List<|κ×V)(k:κ):Option V:=(kvs.find? λkv=>decide (kv.1=k)).map (·.2)
def putK(kvs:List<|κ×V)(k:κ)(v:V):List (κ×V):=
 if(kvs.any λkv=>decide (kv.1=k))=true then kvs.map (λkv=>if kv.1=k then(kv.1,v) else kv) else kvs++[(k,v)]
theorem iG{p:κ×V}{r:List (κ×V)}{k:κ}(e:p.1=k):aA (p :: r) k=some p.2:=by simp [aA,Fn,e]
theorem hG{p:κ×V}{r:List (κ×V)}{k:κ}(e:¬ p.1=k):aA (p :: r) k=aA r k:=by simp [aA,Fn,e]
theorem sX(k:κ):∀ kvs:List<|κ×V,(kvs.any λkv=>decide (kv.1=k))=(aA kvs k).isSome
 | []=>rfl
 | p :: r=>by
  rw [Fy]
  by_cases e:p.1=k
  ·simp only [iG e,BR e,Bool.true_or,Option.isSome_some]
  ·rw [hG e,BW e,Bool.false_or];exact sX k r
theorem KW(k j:κ)(y:V):∀ kvs:List<|κ×V,aA (kvs.map λkv=>if kv.1=k then(kv.1,y) else kv) j=(aA kvs j).map λx=>if j=k then y else x
 | []=>rfl
 | p :: r=>by
  have ih:=KW k j y r;rw [Bd]
  by_cases h:p.1=k
  ·rw [BL h]
   by_cases e:p.1=j
   ·rw [iG (p:=(p.1,y)) e,iG e,Gw,BL<|e.symm.trans h]
   ·rw [hG (p:=(p.1,y)) e,hG e,ih]
  ·rw [BK h]
   by_cases e:p.1=j
   ·rw [iG (p:=p) e,iG e,Gw,BK λz=>h<|e.trans z]
   ·rw [hG (p:=p) e,hG e,ih]
theorem K0(k j:κ)(y:V):∀ kvs:List<|κ×V,aA kvs k=none->aA (kvs++[(k,y)]) j=if j=k then some y else aA kvs j
 | [],_=>by
  by_cases e:k=j
  ·rw [BL e.symm];exact iG (p:=(k,y)) e
  ·rw [BK λz=>e z.symm];exact hG (p:=(k,y)) e
 | p :: r,hn=>by
  rw [Ek];have hk:¬ p.1=k:=λz=>by rw [iG z] at hn;cases hn
  rw [hG hk] at hn;have ih:=K0 k j y r hn
  by_cases e:p.1=j
  ·rw [iG e,iG e,BK λz=>hk<|e.trans z]
  ·rw [hG e,hG e,ih]
theorem fm(kvs:List<|κ×V)(k j:κ)(y:V):aA (putK kvs k y) j=if j=k then some y else aA kvs j:=by
 unfold putK
 by_cases a:(kvs.any λkv=>decide (kv.1=k))=true
 ·rw [BL a,KW];rw [sX] at a
  by_cases e:j=k
  ·obtain⟨x,hx⟩:=Fe.mp a;rw [BL e,e,hx,Gw,BL rfl]
  ·rw [BK e];cases aA kvs j with
   | none=>rfl
   | some x=>rw [Gw,BK e]
 ·rw [BK a];refine K0 k j y kvs ?_;rw [sX] at a;cases q:aA kvs k with
  | none=>rfl
  | some x=>rw [q] at a;exact(a rfl).elim
theorem mG(kvs:List<|κ×V)(k:κ)(v:V):(putK kvs k v).length<=kvs.length+1:=by
 unfold putK
 split
 ·rw [Aa];omega
 ·rw [Ah,Ax,Gb];omega
theorem UE{kvs:List (κ×V)}{k:κ}(v:V)(h:aA kvs k=none):putK kvs k v=kvs++[(k,v)]:=by
 unfold putK;rw [sX,h];exact BK<|by decide
theorem eC.bX{o:Option V}{u:Option Value}(r:eC o u):o.isSome=u.isSome:=by
 cases o with
 | none=>cases u with
  | none=>rfl
  | some _=>exact(show False from r).elim
 | some _=>cases u with
  | none=>exact(show False from r).elim
  | some _=>rfl
theorem KV.val{kvs:List (κ×V)}{vs:List (κ×Value)}(r:KV kvs vs)(k:κ):eC (aA kvs k) (valueAt vs k):=by
 unfold KV at r
 induction r with
 | nil=>exact True.intro
 | @cons p q ps qs h t ih=>
  obtain⟨h1,h2⟩:=h
  by_cases e:p.1=k
  ·have e':q.1=k:=h1.symm.trans e;have b:valueAt (q :: qs) k=some q.2:=by simp [valueAt,Fn,e']
   rw [iG e,b];exact h2
  ·have e':¬ q.1=k:=λz=>e<|h1.trans z;have b:valueAt (q :: qs) k=valueAt qs k:=by simp [valueAt,Fn,e']
   rw [hG e,b];exact ih
theorem KV.any{kvs:List (κ×V)}{vs:List (κ×Value)}(r:KV kvs vs)(k:κ):(kvs.any λkv=>decide (kv.1=k))=vs.any λkv=>decide (kv.1=k):=by
 unfold KV at r
 induction r with
 | nil=>rfl
 | cons h t ih=>rw [Fy,Fy,ih,h.1]
theorem KV.repl{kvs:List (κ×V)}{vs:List (κ×Value)}(r:KV kvs vs)(k:κ){y:V}{u:Value}(ry:RelV y u) :
  KV (kvs.map λkv=>if kv.1=k then(kv.1,y) else kv) (vs.map λkv=>if kv.1=k then(kv.1,u) else kv):=by
 unfold KV at r ⊢
 induction r with
 | nil=>exact .nil
 | @cons p q ps qs h t ih=>
  rw [Bd,Bd];refine .cons ?_ ih;obtain⟨h1,h2⟩:=h
  by_cases e:p.1=k
  ·rw [BL e,BL<|h1.symm.trans e];exact⟨h1,ry⟩
  ·rw [BK e,BK λz=>e<|h1.trans z];exact⟨h1,h2⟩
theorem KV.put{kvs:List (κ×V)}{vs:List (κ×Value)}(r:KV kvs vs)(k:κ){y:V}{u:Value}(ry:RelV y u):KV (putK kvs k y) (stored vs k u):=by
 unfold putK stored;rw [r.any k]
 by_cases e:(vs.any λkv=>decide (kv.1=k))=true
 ·rw [BL e,BL e];exact r.repl k ry
 ·rw [BK e,BK e];exact Paired.snoc r ⟨rfl,ry⟩
theorem KV.keys{kvs:List (κ×V)}{vs:List (κ×Value)}(r:KV kvs vs):kvs.map (·.1)=vs.map (·.1):=by
 unfold KV at r
 induction r with
 | nil=>rfl
 | cons h t ih=>rw [Bd,Bd,ih,h.1]
theorem KV.length{kvs:List (κ×V)}{vs:List (κ×Value)}(r:KV kvs vs):kvs.length=vs.length:=Paired.length r
end
theorem mH{P:Program}{w:World}{k:Key}{u:Value}(r:RelV (kV k) u):(dN P w).is k u=true:=by
 cases k with
 | inl i=>obtain⟨t,e⟩:=(show ∃ t,u=Value.int i t from r);subst e;exact Sh P w i t
 | inr x=>obtain⟨t,e⟩:=(show ∃ t,u=Value.str x t from r);subst e;exact Si P w x t
theorem K1{P:Program}{w:World}:∀{ks:List Key} {us:List Value},av (ks.map kV) us->ItemsAre (dN P w) ks us
 | [],_,r=>by rw [TX] at r;cases r;exact .nil
 | k :: ks,_,r=>by
  rw [Bd] at r;cases r with
  | cons h t=>exact .cons (mH h)<|K1 t
abbrev KT(H:Hp):List (List Key×V)->List (List Key×Addr×Value)->Prop:=Paired λp q=>p.1=q.1/\H q.2.1=some (.tup<|p.1.map kV)/\RelV p.2 q.2.2
theorem KT.val{H:Hp}{kvs:List (List Key×V)}{xs:List (List Key×Addr×Value)}(r:KT H kvs xs)(k:List Key):eC (aA kvs k) ((atKey xs k).map (·.2)):=by
 induction r with
 | nil=>exact True.intro
 | @cons p q ps qs h t ih=>
  obtain⟨h1,_,h2⟩:=h
  by_cases e:p.1=k
  ·have e':q.1=k:=h1.symm.trans e;have b:atKey (q :: qs) k=some q.2:=by simp [atKey,Fn,e']
   rw [iG e,b];exact h2
  ·have e':¬ q.1=k:=λz=>e<|h1.trans z;have b:atKey (q :: qs) k=atKey qs k:=by simp [atKey,Fn,e']
   rw [hG e,b];exact ih
theorem KT.repl{H:Hp}{kvs:List (List Key×V)}{xs:List (List Key×Addr×Value)}(r:KT H kvs xs)(k:List Key){y:V}{u:Value}(ry:RelV y u) :
  KT H (kvs.map λkv=>if kv.1=k then(kv.1,y) else kv) (xs.map<|putAt k u):=by
 induction r with
 | nil=>exact .nil
 | @cons p q ps qs h t ih=>
  rw [Bd,Bd];refine .cons ?_ ih;obtain⟨h1,h2,h3⟩:=h;unfold putAt
  by_cases e:p.1=k
  ·rw [BL e,BL<|h1.symm.trans e];exact⟨h1,h2,ry⟩
  ·rw [BK e,BK λz=>e<|h1.trans z];exact⟨h1,h2,h3⟩
theorem KT.put{H:Hp}{kvs:List (List Key×V)}{xs:List (List Key×Addr×Value)}(r:KT H kvs xs)(k:List Key){b:Addr}{y:V}{u:Value}(hb:H b=some (.tup<|k.map kV))(ry:RelV y u) :
  KT H (putK kvs k y) (storedH xs k b u):=by
 have e:(kvs.any λkv=>decide (kv.1=k))=(atKey xs k).isSome:=by
  rw [sX,(r.val k).bX,OD]
 unfold putK storedH;rw [e]
 by_cases q:(atKey xs k).isSome=true
 ·rw [BL q,BL q];exact r.repl k ry
 ·rw [BK q,BK q];exact Paired.snoc r ⟨rfl,hb,ry⟩
theorem KT.keeps{H H':Hp}{kvs:List (List Key×V)}{xs:List (List Key×Addr×Value)}(r:KT H kvs xs)(ht:∀ b ys,H b=some (.tup ys)->H' b=some (.tup ys)):KT H' kvs xs:=
 Paired.oh r λ_ _ z=>⟨z.1,ht _ _ z.2.1,z.2.2⟩
section
variable{P:Program}{w:World}{H:Hp}{h:Heap}{a:Addr}
theorem K2{u:HO}(ok:cg P w H h)(e:Rd H a u):aH P w H h a u:=e.ok ok
theorem oJ{kvs:List (Key×V)}(ok:cg P w H h)(e:Rd H a<|.dK kvs):kvs.length<=sizeLine/\(a == sysModules)=false/\∃ vs,KV kvs vs/\h.DictOf (dN P w) a vs:=
 show aH P w H h a (.dK kvs) from K2 ok e
theorem zH{kvs:List (Key×V)}(ok:cg P w H h)(e:H a=some (.dK kvs)):kvs.length<=sizeLine/\(a == sysModules)=false/\∃ vs,KV kvs vs/\h.DictOf (dN P w) a vs:=oJ ok<|.inl e
theorem qG{ks:List Key}(ok:cg P w H h)(e:H a=some (.tup<|ks.map kV)):(tupleKind<|dN P w).is h ks a:=by
 obtain⟨_,its,r,o,h1,h2,n,h3⟩:=(show aH P w H h a (.tup<|ks.map kV) from ok a _ e);exact⟨o,its.toArray,n,h1,h2,h3,by simpa using K1 r⟩
theorem sY{kvs:List (List Key×V)}(ok:cg P w H h)(e:Rd H a<|.dT kvs):kvs.length<=sizeLine/\(a == sysModules)=false /\
  ∃ xs,KT H kvs xs/\h.DictOfH (tupleKind<|dN P w) a xs:=by
 obtain⟨z,y,xs,r,o,es,ep,h1,h2,h3,h4,h5⟩:=(show aH P w H h a (.dT kvs) from K2 ok e);refine⟨z,y,xs,r,o,es,ep,h1,h2,h3,h4,λx hx=>?_,h5⟩;have all:∀{l:List (List Key×V)} {m:List (List Key×Addr×Value)},KT H l m->∀ x∈m,(tupleKind<|dN P w).is h x.1 x.2.1:=by
  intro l m q
  induction q with
  | nil=>intro x hx;exact nomatch hx
  | @cons p q ps qs hq t ih=>
   intro x hx
   rcases Am.mp hx with e | hx
   ·subst e;exact qG ok<|by rw [<- hq.1];exact hq.2.1
   ·exact ih x hx
 exact all r x hx
theorem K3{kvs:List (List Key×V)}(ok:cg P w H h)(e:H a=some (.dT kvs)):kvs.length<=sizeLine/\(a == sysModules)=false /\
  ∃ xs,KT H kvs xs/\h.DictOfH (tupleKind<|dN P w) a xs:=sY ok<|.inl e
end
def bH(H:Hp)(a:Addr)(y:V)(r:Option V):Prop:=
 (∃ kvs k,Rd H a (.dK kvs)/\y=kV k/\r=aA kvs k)\/∃ kvs k b,Rd H a (.dT kvs)/\y = .ref b/\H b=some (.tup<|k.map kV)/\r=aA kvs k
def cC(H:Hp)(a:Addr)(y v:V)(H':Hp):Prop:=
 (∃ kvs k,H a=some (.dK kvs)/\y=kV k/\kvs.length < sizeLine/\H'=upd H a (.dK<|putK kvs k v)) \/
 ∃ kvs k b,H a=some (.dT kvs)/\y = .ref b/\H b=some (.tup<|k.map kV)/\kvs.length < sizeLine/\H'=upd H a (.dT<|putK kvs k v)
theorem bH.k{H:Hp}{a:Addr}{kvs:List (Key×V)}{k:Key}(e:H a=some (.dK kvs)):bH H a (kV k) (aA kvs k):= .inl ⟨kvs,k,.inl e,rfl,rfl⟩
theorem bH.t{H:Hp}{a b:Addr}{kvs:List (List Key×V)}{k:List Key}(e:H a=some (.dT kvs))(eb:H b=some (.tup<|k.map kV)):bH H a (.ref b) (aA kvs k):= .inr ⟨kvs,k,b,.inl e,rfl,eb,rfl⟩
theorem cC.k{H:Hp}{a:Addr}{kvs:List (Key×V)}{k:Key}{v:V}(e:H a=some (.dK kvs))(hl:kvs.length < sizeLine):cC H a (kV k) v (upd H a<|.dK<|putK kvs k v):= .inl ⟨kvs,k,e,rfl,hl,rfl⟩
theorem cC.t{H:Hp}{a b:Addr}{kvs:List (List Key×V)}{k:List Key}{v:V}(e:H a=some (.dT kvs))(eb:H b=some (.tup<|k.map kV))(hl:kvs.length < sizeLine) :
  cC H a (.ref b) v (upd H a<|.dT<|putK kvs k v):= .inr ⟨kvs,k,b,e,rfl,eb,hl,rfl⟩
section
variable{X:Cx}{pins:List (Addr×Obj)}{σ:St}{H:Hp}{s:Shared}{a:Addr}{y v:V}{u r:Value}{o:Option V}{A:Around}{E:Value->Shared->Prop}
theorem Inv.big(I:Inv X pins σ H s):sysModules < s.heap.objs.size:=by
 have h:mainGlobals < s.heap.objs.size:=(I.mod.glob.keeps I.bk).lt;exact Nat.lt_trans (by decide) h
theorem UG{Q:Value->Shared->Prop}(hu:A.units+1 < cLine)(I:Inv X pins σ H s)(g:bH H a y<|some v)(ry:RelV y u)(h:∀ w' s',Inv X pins σ H s'->RelV v w'->Q w' s') :
  wpAny (model X.prog X.w) A (getItem (.ref a) u) Q E s:=by
 rcases g with ⟨kvs,k,e,ey,l⟩ | ⟨kvs,k,b,e,ey,eb,l⟩
 ·subst ey;obtain⟨z,hd,vs,rel,dd⟩:=oJ I.aJ e;obtain⟨w',hw,bT⟩:=eC.some_of (v:=v) (o:=valueAt vs k) (by rw [l];exact rel.val k);exact wpAny_getItem_of (mH ry) dd.mapOf hw<|h w' _ (I.tok _) bT
 ·subst ey;cases (show u=Value.ref b from ry);obtain⟨z,hd,xs,rel,dd⟩:=sY I.aJ e;obtain⟨w',hw,bT⟩:=eC.some_of (v:=v) (o:=(atKey xs k).map (·.2)) (by rw [l];exact rel.val k);obtain⟨p,hp,gP⟩:=Az.mp hw;refine wpAny_getItem_heap (JL hu) (qG I.aJ eb) dd hp ?_;rw [gP];exact h w' _ (I.tok _) bT
theorem zI{Q:Value->Shared->Prop}(hu:A.units+1 < cLine)(I:Inv X pins σ H s)(g:bH H a y o)(ry:RelV y u)(h:∀ s',Inv X pins σ H s'->Q (.bool o.isSome) s') :
  wpAny (model X.prog X.w) A (compareOp .In u<|.ref a) Q E s:=by
 rcases g with ⟨kvs,k,e,ey,l⟩ | ⟨kvs,k,b,e,ey,eb,l⟩
 ·subst ey;obtain⟨z,hd,vs,rel,dd⟩:=oJ I.aJ e;refine wpAny_in_of (mH ry) hd dd.mapOf ?_;rw [<- (rel.val k).bX,<- l];exact h _<|I.tok _
 ·subst ey;cases (show u=Value.ref b from ry);obtain⟨z,hd,xs,rel,dd⟩:=sY I.aJ e;refine wpAny_in_heap (JL hu) (qG I.aJ eb) hd dd ?_;have q:=(rel.val k).bX;rw [OD] at q;rw [<- q,<- l];exact h _<|I.tok _
theorem UH{Q:Value->Shared->Prop}(hu:A.units+1 < cLine)(I:Inv X pins σ H s)(g:bH H a y o)(ry:RelV y u)(h:∀ s',Inv X pins σ H s'->Q (.bool (!o.isSome)) s') :
  wpAny (model X.prog X.w) A (compareOp .NotIn u<|.ref a) Q E s:=by
 rcases g with ⟨kvs,k,e,ey,l⟩ | ⟨kvs,k,b,e,ey,eb,l⟩
 ·subst ey;obtain⟨z,hd,vs,rel,dd⟩:=oJ I.aJ e;refine wpAny_notIn_of (mH ry) hd dd.mapOf ?_;rw [<- (rel.val k).bX,<- l];exact h _<|I.tok _
 ·subst ey;cases (show u=Value.ref b from ry);obtain⟨z,hd,xs,rel,dd⟩:=sY I.aJ e;refine wpAny_notIn_heap (JL hu) (qG I.aJ eb) hd dd ?_;have q:=(rel.val k).bX;rw [OD] at q;rw [<- q,<- l];exact h _<|I.tok _
theorem qH{h':Heap}{t':Nat}{ob:HO}(I:Inv X pins σ H s)(mu:rV<|H a)(hs:Heap.SameBut a s.heap h')(he:∃ q,h'.get? a=some q)(new:aH X.prog X.w (upd H a ob) h' a ob) :
  Inv X pins σ (upd H a ob) {s with heap:=h',toks:=t'}:=
 I.write (x:=a) (e:=a) mu (.inl rfl) (λb q hb z=>(hs.2 b hb).trans z) he new
theorem zJ{P:Program}{w:World}{H':Hp}{h':Heap}{kvs:List (Key×V)}{vs:List (Key×Value)}(z:kvs.length<=sizeLine)(hd:(a == sysModules)=false)(rel:KV kvs vs)(dd:h'.DictOf (dN P w) a vs) :
  aH P w H' h' a (.dK kvs):=⟨z,hd,vs,rel,dd⟩
theorem UI{H':Hp}{Q:Unit->Shared->Prop}(hu:A.units+1 < cLine)(I:Inv X pins σ H s)(g:cC H a y v H')(ry:RelV y u)(rv:RelV v r)(h:∀ s',Inv X pins σ H' s'->Q () s') :
  wpAny (model X.prog X.w) A (setItem (.ref a) u r) Q E s:=by
 rcases g with ⟨kvs,k,e,ey,l,eH⟩ | ⟨kvs,k,b,e,ey,eb,l,eH⟩
 ·subst ey eH;obtain⟨z,hd,vs,rel,dd⟩:=zH I.aJ e;have hz:vs.length<=sizeLine:=by rw [<- rel.length];exact z
  have hl:(putK kvs k v).length<=sizeLine:=by have:=mG kvs k v;omega
  refine wpAny_setItem_pairs (hsz:=hz) (mH ry) dd λh' iY hs=>h _ ?_;have he:∃ q,h'.get? a=some q:=let ⟨q,_,_,hq,_⟩:=iY;⟨q,hq⟩
  exact qH I (by rw [e];exact True.intro) hs he<|zJ hl hd (rel.put k rv) iY
 ·subst ey eH;cases (show u=Value.ref b from ry);obtain⟨z,hd,xs,rel,dd⟩:=K3 I.aJ e;have hz:xs.length<=sizeLine:=by rw [<- Paired.length rel];exact z
  have hl:(putK kvs k v).length<=sizeLine:=by have:=mG kvs k v;omega
  refine wpAny_setItem_heap (hsz:=hz) (JL hu) (qG I.aJ eb) dd λh' iY hs=>h _ ?_;obtain⟨q,es,ep,hq,h2,h3,h4,_,h5⟩:=iY;refine qH I (by rw [e];exact True.intro) hs ⟨q,hq⟩ ⟨hl,hd,_,(rel.put k eb rv).keeps λc ys ec=>?_,q,es,ep,hq,h2,h3,h4,h5⟩;rw [aw<|eF ec e λz=>nomatch z];exact ec
end
section
variable{X:Cx}{pins:List (Addr×Obj)}{σ:St}{H:Hp}{s:Shared}{a:Addr}{kvs:List (Key×V)}{k:Key}{u:Value}{A:Around}{E:Value->Shared->Prop}
theorem UJ{Q:Value->Shared->Prop}(I:Inv X pins σ H s)(e:Rd H a<|.dK kvs)(h:∀ t s',Inv X pins σ H s'->Q (.int kvs.length t) s'):wpAny (model X.prog X.w) A (call (.builtin "len") [.ref a]) Q E s:=by
 obtain⟨z,hd,vs,rel,dd⟩:=oJ I.aJ e;refine call_len_dict hd dd (by rw [<- rel.length];rw [CV] at z;omega) ?_;rw [<- rel.length];exact h _ _<|I.tok _
end
def oK(i:Expr):Prop:=∀ ov iv,subscripted i false ov iv=operate [ov,iv] (getItem ov iv)
theorem UK{prog:Program}{w:World}{A:Around}{E:Value->Shared->Prop}{s:Shared}{env:Env}{value slice:Expr}{pos:Pos}{T id:String}{Q:Value->Shared->Prop}
  (hl:typeLookup (.type T) "__getitem__" = pure (some<|.builtin id)) (hs:oK slice)
  (h:wpAny (model prog w) A (eval value env) (λo s₁=>wpAny (model prog w) A (eval slice env) (λi s₂=>s₂.TypeIs o T/\wpAny (model prog w) A (getItem o i) Q E s₂) E s₁) E s) :
  wpAny (model prog w) A (eval (.Subscript value slice pos) env) Q E s:=by
 refine Subscript_<|CK h (λo s₁ h₁=>CK h₁ (λi s₂ h₂=>?_) λ_ _ x=>x) λ_ _ x=>x;obtain⟨hT,h₂⟩:=h₂;unfold subscriptTail;refine BJ ?_;rw [getitemInPython_of_ne hT.not_modules];refine BJ<|wpAny_specialOf hT hl ?_;have fin:wpAny (model prog w) A (subscripted slice false o i) (λr s₃=>wpAny (model prog w) A (letTemporaryGo value o r >>= λ_=>pure r) Q E s₃) E s₂:=by
  rw [hs o i];exact wpAny_operating<|CK h₂ (λr s₃ h₃=>BJ<|wpAny_letTemporaryGo<|BP h₃) λ_ _ x=>x
 first
  | exact BP<|BJ fin
  | exact BJ<|BP<|BJ fin
  | exact BJ fin
theorem UL{X:Cx}{pins:List (Addr×Obj)}{σ:St}{H:Hp}{s:Shared}{a:Addr}{y:V}{o:Option V}(I:Inv X pins σ H s)(g:bH H a y o):s.TypeIs (.ref a) "dict":=by
 rcases g with ⟨kvs,k,e,_,_⟩ | ⟨kvs,k,b,e,_,_,_⟩
 ·obtain⟨_,_,vs,_,dd⟩:=oJ I.aJ e;exact dd.typeIs
 ·obtain⟨_,_,xs,_,dd⟩:=sY I.aJ e;exact dd.typeIs
def UM(td ty:TE):TE:=λσ H Q=>td σ H λx H1=>ty σ H1 λy H2=>∃ a v,x = .ref a/\bH H2 a y (some v)/\Q v H2
def zK(ty td:TE):TE:=λσ H Q=>ty σ H λy H1=>td σ H1 λx H2=>∃ a o,x = .ref a/\bH H2 a y o/\Q (.bl o.isSome) H2
def UN(ty td:TE):TE:=λσ H Q=>ty σ H λy H1=>td σ H1 λx H2=>∃ a o,x = .ref a/\bH H2 a y o/\Q (.bl (!o.isSome)) H2
def UO(td ty tv:TE):TS:=λD σ H=>tv σ H λv H1=>td σ H1 λx H2=>ty σ H2 λy H3=>∃ a H4,x = .ref a/\cC H3 a y v H4/\D.nx σ H4
section
variable{X:Cx}{o i e value:Expr}{pos pos' zb:Pos}{td ty tv:TE}
theorem UP(hu:X.A.units+1 < cLine)(ho:PE X o td)(hi:PE X i ty)(hs:oK i):PE X (.Subscript o i pos) (UM td ty):=by
 intro pins s σ H Q I h;refine UK PySem.F.slot_dict_getitem.lookup hs<|aS (ho pins s σ H _ I h) λu s1 ⟨x,H1,I1,rx,q1⟩=>aS (hi pins s1 σ H1 _ I1 q1) λiv s2 ⟨y,H2,I2,ry,a,v,ex,g,q2⟩=>?_;subst ex;obtain rfl:u=Value.ref a:=rx;exact⟨UL I2 g,UG hu I2 g ry λw' s3 I3 bT=>⟨v,H2,I3,bT,q2⟩⟩
theorem UQ(hu:X.A.units+1 < cLine)(hi:PE X i ty)(ho:PE X o td):PC X .In i o (zK ty td):=by
 intro pins s σ H Q I h;refine aS (hi pins s σ H _ I h) λiv s1 ⟨y,H1,I1,ry,q1⟩=>aS (ho pins s1 σ H1 _ I1 q1) λu s2 ⟨x,H2,I2,rx,a,ov,ex,g,q2⟩=>?_;subst ex;obtain rfl:u=Value.ref a:=rx;exact zI hu I2 g ry λs3 I3=>⟨.bl ov.isSome,H2,I3,rfl,q2⟩
theorem UR(hu:X.A.units+1 < cLine)(hi:PE X i ty)(ho:PE X o td):PC X .NotIn i o (UN ty td):=by
 intro pins s σ H Q I h;refine aS (hi pins s σ H _ I h) λiv s1 ⟨y,H1,I1,ry,q1⟩=>aS (ho pins s1 σ H1 _ I1 q1) λu s2 ⟨x,H2,I2,rx,a,ov,ex,g,q2⟩=>?_;subst ex;obtain rfl:u=Value.ref a:=rx;exact UH hu I2 g ry λs3 I3=>⟨.bl (!ov.isSome),H2,I3,rfl,q2⟩
theorem UT(hu:X.A.units+1 < cLine)(ho:PE X o td)(hi:PE X i ty)(hv:PE X value tv)(hs:swapsWith value (some<|.Subscript o i pos') pos.line X.env=pure false) :
  PS X (.Assign [.Subscript o i pos'] value pos) (UO td ty tv):=by
 intro pins s σ H D I h;refine wpAny_Assign_Subscript (aS (hv pins s σ H _ I h) λr s1 ⟨v,H1,I1,rv,q1⟩=>aS (ho pins s1 σ H1 _ I1 q1) λu s2 ⟨x,H2,I2,rx,q2⟩=>aS (hi pins s2 σ H2 _ I2 q2) λiv s3 ⟨y,H3,I3,ry,a,H4,ex,g,q3⟩=>?_) hs;subst ex;obtain rfl:u=Value.ref a:=rx;exact UI hu I3 g ry rv λs4 I4=>⟨σ,H4,I4,q3⟩
end
theorem K4{P:Program}{w:World}{H:Hp}(h:Heap)(hb:sysModules < h.objs.size):aH P w H (h.push {cls:= .type "dict",data:= .dict #[]}) h.objs.size (.dK []):=
 ⟨Ci _,beq_eq_false_iff_ne.mpr<|Ne.symm<|Cg hb,[],.nil,Heap.DictOf.new h⟩
theorem UU{P:Program}{w:World}{H:Hp}(h:Heap)(hb:sysModules < h.objs.size):aH P w H (h.push {cls:= .type "dict",data:= .dict #[]}) h.objs.size (.dT []):=
 ⟨Ci _,beq_eq_false_iff_ne.mpr<|Ne.symm<|Cg hb,[],.nil,_,#[],0,Be _ rfl,⟨rfl,rfl,rfl⟩,rfl,rfl,Db⟩
def UW:TE:=λ_ H Q=>∀ p,H p=none->Q (.ref p) (upd H p<|.dK [])
def UX:TE:=λ_ H Q=>∀ p,H p=none->Q (.ref p) (upd H p<|.dT [])
section
variable{X:Cx}{pos:Pos}
theorem UY:PE X (.Dict [] [] pos) UW:=λpins s σ H Q I h=>
 wpAny_Dict_empty ⟨.ref s.heap.objs.size,_,I.laid (a:=s.heap.objs.size) (o:= .dK []) (t':=s.toks) (λ_ _ q=>Ai _ q) (Ao _)<|K4 s.heap I.big,rfl,h _<|I.aJ.fresh<|Ao _⟩
theorem UZ:PE X (.Dict [] [] pos) UX:=λpins s σ H Q I h=>
 wpAny_Dict_empty ⟨.ref s.heap.objs.size,_,I.laid (a:=s.heap.objs.size) (o:= .dT []) (t':=s.toks) (λ_ _ q=>Ai _ q) (Ao _)<|UU s.heap I.big,rfl,h _<|I.aJ.fresh<|Ao _⟩
end
section
variable{X:Cx}{pins:List (Addr×Obj)}{σ:St}{H:Hp}{s:Shared}{a:Addr}{y d:V}{u r:Value}{o:Option V}{A:Around}{E:Value->Shared->Prop}
end
section
variable{X:Cx}{o e f:Expr}{apos dQ:Pos}{td ty tx:TE}
end
section
variable{X:Cx}{pins:List (Addr×Obj)}{σ:St}{H:Hp}{s:Shared}{a:Addr}{kvs:List (Key×V)}{A:Around}{E:Value->Shared->Prop}
end
section
variable{X:Cx}{pins:List (Addr×Obj)}{σ:St}{H:Hp}{s:Shared}{a:Addr}{y:V}{u:Value}{A:Around}{E:Value->Shared->Prop}
end
section
variable{X:Cx}
theorem K5:fh X (.builtin "len") (λxs H Q=>∃ a kvs,xs=[V.ref a]/\H a=some (.dK kvs)/\Q (.int kvs.length) H):=by
 intro pins s σ H xs us Q I r h;obtain⟨a,kvs,rfl,ha,q⟩:=h;obtain⟨u,rfl,ru⟩:=vals1 r;cases ru;exact UJ I (.inl ha) λt s' I'=>⟨.int kvs.length,H,I',⟨t,rfl⟩,q⟩
end
section
variable{κ:Type} [DecidableEq κ]
theorem oM:∀{l:List κ} {k:κ},l.Nodup->¬ k∈l->(l++[k]).Nodup
 | [],k,_,_=>by simp
 | a :: r,k,h,hk=>by
  obtain⟨h1,h2⟩:=Bu.mp h;show(a :: (r++[k])).Nodup;refine Bu.mpr ⟨λm=>?_,oM h2 λm=>hk<|Am.mpr<|Or.inr m⟩
  rcases Ap.mp m with q | q
  ·exact h1 q
  ·exact hk<|Am.mpr<|Or.inl (Ae.mp q).symm
end
section
variable{X:Cx}{tg:Expr}
end
theorem K6{env:Env}:∀{names:List (Str×NameKind)} {x:Str} {k':NameKind},
  (names.map λ(n,k)=>if(k == NameKind.free && env.scope.kind == .function && env.kindOf n == some .cell) then(n,NameKind.cell) else(n,k)).lookup x=some k' ->
  ∃ k,names.lookup x=some k/\(k'=k\/(k = .free/\k' = .cell))
 | [],_,_,h=>by simp at h
 | (n,k) :: r,x,k',h=>by
  have ih:=@K6 env r x k'
  change List.lookup x ((if(k == NameKind.free && env.scope.kind == .function && env.kindOf n == some .cell)=true then(n,NameKind.cell) else(n,k)) :: _)=_ at h
  cases hx:x == n with
  | true=>
   by_cases hc:(k == NameKind.free && env.scope.kind == .function && env.kindOf n == some .cell)=true
   ·rw [BL hc] at h;simp only [Dq,hx] at h;cases h;have hk:k = .free:=by
     have:=(Cf _ _ ▸ (Cf _ _ ▸ hc).1).1;cases k <;> first | rfl | (exact absurd this<|by decide)
    exact⟨k,by simp [Dq,hx],.inr ⟨hk,rfl⟩⟩
   ·rw [BK hc] at h;simp only [Dq,hx] at h;cases h;exact⟨k,by simp [Dq,hx],.inl rfl⟩
  | false=>
   have h2:∃ k,r.lookup x=some k/\(k'=k\/(k = .free/\k' = .cell)):=by
    by_cases hc:(k == NameKind.free && env.scope.kind == .function && env.kindOf n == some .cell)=true
    ·rw [BL hc] at h;simp only [Dq,hx] at h;exact ih h
    ·rw [BK hc] at h;simp only [Dq,hx] at h;exact ih h
   obtain⟨k2,e2,r2⟩:=h2;exact⟨k2,by simp [Dq,hx,e2],r2⟩
def cJ(names:List<|Str×NameKind)(cells:List<|Str×Addr)(acc:List<|Str×Addr):List (Str×Addr):=
 names.foldl (λa x=>if x.2 == .free then(match cells.lookup x.1 with | some c=>(x.1,c) :: a | none=>a) else a) acc
theorem zL{scope:Scope}{env:Env}(h:∀ x∈scope.names,x.2 = .free->∃ c,env.cells.lookup x.1=some c):closureFor scope env=pure (cJ scope.names env.cells []):=by
 have all:∀(l:List<|Str×NameKind) (acc:List<|Str×Addr),(∀ x∈l,x.2 = .free->∃ c,env.cells.lookup x.1=some c) ->
   (forIn l acc λ(x:Str×NameKind) (cs:List<|Str×Addr)=>(if x.2 == .free then(do let c <- cellOf env x.1;pure (ForInStep.yield<|(x.1,c) :: cs)) else pure (ForInStep.yield cs):Sem _))=pure (cJ l env.cells acc):=by
  intro l
  induction l with
  | nil=>intro acc _;rfl
  | cons x r ih=>
   intro acc hl;rw [Gx];have hr:∀ y∈r,y.2 = .free->∃ c,env.cells.lookup y.1=some c:=λy hy=>hl y<|Af _ hy;cases hk:x.2 == .free with
   | true=>
    have U0:x.2 = .free:=by
     revert hk
     cases x.2 <;> intro hk <;> first | rfl | (exact absurd hk<|by decide)
    obtain⟨c,hc⟩:=hl x Ac U0;simp only [DW,cellOf,hc];rw [show cJ (x :: r) env.cells acc=cJ r env.cells ((x.1,c) :: acc) by unfold cJ;rw [Ex];simp [hk,hc]];exact ih _ hr
   | false=>
    simp only [Cc,CW];rw [show cJ (x :: r) env.cells acc=cJ r env.cells acc by unfold cJ;rw [Ex];simp [hk]];exact ih _ hr
 have q:=all scope.names [] h;simp only [closureFor];exact(BZ (· >>= λr=>pure r) q).trans rfl
theorem zM:∀(names:List<|Str×NameKind) (cells acc:List<|Str×Addr),(∀ x c,(x,c)∈acc->cells.lookup x=some c)->∀ x c,(x,c)∈cJ names cells acc->cells.lookup x=some c
 | [],_,_,h=>h
 | y :: r,cells,acc,h=>by
  have e:cJ (y :: r) cells acc=cJ r cells (if y.2 == .free then(match cells.lookup y.1 with | some c=>(y.1,c) :: acc | none=>acc) else acc):=rfl;rw [e];refine zM r cells _ ?_;cases hk:y.2 == .free with
  | false=>simpa using h
  | true=>
   cases hc:cells.lookup y.1 with
   | none=>simpa using h
   | some c=>
    intro x d hx;simp only [DW] at hx
    rcases Am.mp hx with e | hx
    ·cases e;exact hc
    ·exact h x d hx
theorem K7:∀(names:List<|Str×NameKind) (cells acc:List<|Str×Addr) (x:Str) (c:Addr),(x,c)∈acc->(x,c)∈cJ names cells acc
 | [],_,_,_,_,h=>h
 | y :: r,cells,acc,x,c,h=>by
  have e:cJ (y :: r) cells acc=cJ r cells (if y.2 == .free then(match cells.lookup y.1 with | some c=>(y.1,c) :: acc | none=>acc) else acc):=rfl;rw [e];refine K7 r cells _ x c ?_;cases hk:y.2 == .free with
  | false=>simpa using h
  | true=>
   cases hc:cells.lookup y.1 with
   | none=>simpa using h
   | some d=>simp only [DW];exact Af _ h
theorem zN:∀(names:List<|Str×NameKind) (cells acc:List<|Str×Addr) (x:Str) (c:Addr),(x,NameKind.free)∈names->cells.lookup x=some c->(x,c)∈cJ names cells acc
 | [],_,_,_,_,h,_=>by cases h
 | y :: r,cells,acc,x,c,h,hc=>by
  have e:cJ (y :: r) cells acc=cJ r cells (if y.2 == .free then(match cells.lookup y.1 with | some c=>(y.1,c) :: acc | none=>acc) else acc):=rfl;rw [e]
  rcases Am.mp h with e2 | h
  ·subst e2;refine K7 r cells _ x c ?_;have:(NameKind.free == NameKind.free)=true:=rfl;simp only [hc,this,DW];exact Ac
  ·exact zN r cells _ x c h hc
theorem zO{α:Type}:∀{l:List (Str×α)} {x:Str} {c:α},(x,c)∈l->∃ d,l.lookup x=some d
 | [],_,_,h=>by cases h
 | (n,d) :: r,x,c,h=>by
  cases hx:x == n with
  | true=>exact⟨d,by simp [Dq,hx]⟩
  | false=>
   rcases Am.mp h with e | h
   ·cases e;simp at hx
   ·obtain⟨d',e⟩:=zO h;exact⟨d',by simp [Dq,hx,e]⟩
section
variable{prog:Program}{w:World}{A:Around}{R:Result->Shared->Prop}{s:Shared}
theorem k1b{elt target iter:Expr}{ifs:List Expr}{scope:Scope}{pos:Pos}{it acc:Value}{env:Env}(I:Nat->Shared->Prop)
  (turn : ∀ n s, I n s → wpAny (model prog w) A (pyNext it) (λr s₁ => match r with
   | none=>R (.ok .next) s₁
   | some v=>wpAny (model prog w) A (letOwnedTupleGo target it v) (λ_ s₁'=>wpAny (model prog w) A (assign target env v) (λ_ s₂=>
     wpAny (model prog w) A (forIn ifs true λc r=>if r=true then do let ok <- isTrue c env<|eval c env;pure (ForInStep.yield ok) else pure (ForInStep.yield r)) (λok s₃=>
      if ok=true then wpAny (model prog w) A (eval elt env) (λx s₄=>
       wpAny (model prog w) A (call (.builtin "list.append") [acc,x]) (λ_ s₅=>∃ m,m < n/\I m s₅) (notedBy (model prog w) A env λe s'=>R (.error e) s') s₄) (notedBy (model prog w) A env λe s'=>R (.error e) s') s₃
      else ∃ m,m < n/\I m s₃) (notedBy (model prog w) A env λe s'=>R (.error e) s') s₂) (notedBy (model prog w) A env λe s'=>R (.error e) s') s₁') (notedBy (model prog w) A env λe s'=>R (.error e) s') s₁) (notedBy (model prog w) A env λe s'=>R (.error e) s') s)
  (n:Nat) (h:I n s) :
  codeAny (model prog w) A (.compLoop (.ListComp elt [⟨target,iter,ifs,0⟩] scope pos) 0 it acc env) R s:=by
 refine codeAny_loop rfl I (λn s hI=>?_) n h;show wpAny _ A ((compTurn (.ListComp elt [⟨target,iter,ifs,0⟩] scope pos) 0 it acc env).onRaise λx=>do noteFrame x env;theTreesLotGoes x) _ _ s;refine wpAny_noted ?_;rw [compTurn_list];refine BJ<|FZ<|BJ<|CK (turn n s hI) (λr s₁ h₁=>?_) λ_ _ h'=>h';cases r with
 | none=>exact BP h₁
 | some v=>
  refine BJ<|CK h₁ (λ_ s₁' h₁'=>?_) λ_ _ h'=>h';refine BJ<|CK h₁' (λ_ s₂ h₂=>BJ<|CK h₂ (λok s₃ h₃=>?_) λ_ _ h'=>h') λ_ _ h'=>h';cases ok with
  | false=>exact BP ⟨rfl,h₃⟩
  | true=>
   exact BJ<|BJ<|CK h₃ (λx s₄ h₄=>BJ<|CK h₄ (λ_ s₅ h₅=>BP<|BP ⟨rfl,h₅⟩) λ_ _ h'=>h') λ_ _ h'=>h'
end
def K8(X:Cx)(ifs:List Expr)(t:TT):Prop:=
 ∀(pins:List<|Addr×Obj) (s:Shared) (σ:St) (H:Hp) (Q:Bool->Hp->Prop),Inv X pins σ H s->t σ H Q ->
  wpAny (model X.prog X.w) X.A (forIn ifs true λc r=>if r=true then do let ok <- isTrue c X.env<|eval c X.env;pure (ForInStep.yield ok) else pure (ForInStep.yield r)) (TP X pins σ Q) X.xe s
def zR:TT:=λ_ H Q=>Q true H
theorem U1{X:Cx}:K8 X [] zR:=λ_ _ _ H _ I h=>wpAny_tests_nil ⟨H,I,h⟩
theorem U2{X:Cx}{c:Expr}{t:TT}(h:PT X c t):K8 X [c] t:=λpins s σ H Q I hq=>wpAny_tests_one<|h pins s σ H Q I hq
def hU(X:Cx)(N':List Str)(scope:Scope)(cl:List<|Str×Addr)(C:Addr)(s₀:Shared)(H₀:Hp)(ex:List Addr):Cx:=
 {prog:=X.prog,w:=X.w,K:=X.K,mg:=X.mg,base:=X.base,A:=X.A,N:=N',s₀:=s₀,H₀:=H₀,env:=compEnvC scope cl C X.env,outer:=X.stack,stack:=X.stack,ex:=ex,fn:=λx=>match scope.names.lookup x with | some .cell=>true | _=>false,calm:=X.calm,pn:=[],xe:=λ_ _=>False}
theorem iZ{α:Type}{t:Sem α}{Q Q':α->Shared->Prop}{M:Model}{A:Around}{E:Value->Shared->Prop}{s:Shared}(h:wpAny M A t Q (λ_ _=>False) s)(hQ:∀ a s,Q a s->Q' a s):wpAny M A t Q' E s:=CK h hQ λ_ _ z=>z.elim
section
variable{X:Cx}
theorem U3:dB X (binaryOp .Mult) (λx y H Q=>∃ z i,x = .str z/\y = .int i/\0<=i/\i<=100000/\z.length * i.toNat<=100000/\Q (.str<|Txt.mul z i) H):=by
 intro pins s σ H x y v u Q I rx ry h;obtain⟨z,i,rfl,rfl,h0,h1,h2,q⟩:=h;obtain⟨t,rfl⟩:=rx;obtain⟨t',rfl⟩:=ry;have hsz:sizeLine=16777216:=CV;refine SB.mul ⟨?_,λh3 h4=>?_,λh3 h4=>?_⟩ λt' k=>⟨.str _,H,I.tok k,⟨_,rfl⟩,q⟩
 ·rw [BW (by omega),BW<|by omega];rfl
 ·have h5:(z.length:Int)<=100000:=by
   have h6:z.length * 1<=z.length * i.toNat:=Nat.mul_le_mul_left _ (by omega);omega
  have h7:(100000:Int)<=(2 ^ 63 - 1) / i:=by
   rw [Int.le_ediv_iff_mul_le<|by omega];have:(100000:Int) * i<=100000 * 100000:=Int.mul_le_mul_of_nonneg_left h1 (by decide);have e:(2:Int) ^ 63 - 1=9223372036854775807:=by decide
   omega
  omega
 ·unfold Builtin.Str.tooLong;rw [hsz];exact BW<|by omega
end
def isStar:Expr->Bool
 | .Starred _ _=>true
 | _=>false
def noStar(es:List Expr):Bool:=es.all λe=>!isStar e
theorem qI(e:Expr)(es:List Expr)(env:Env)(h:isStar e=false):starEach (e :: es) env=(false,eval e env) :: starEach es env:=by
 cases e <;> first | rfl | (exact absurd h<|by simp [isStar])
theorem wj(pos:Pos)(env:Env):∀ es:List Expr,noStar es=true->(backTo pos<|starEach es env).any (·.1)=false
 | [],_=>rfl
 | e :: es,h=>by
  have h':(!isStar e)=true/\noStar es=true:=by
   have:=h;unfold noStar at this ⊢;rw [Hi,Cf] at this;exact this
  have hs:isStar e=false:=by
   have:=h'.1;cases q:isStar e with
   | true=>rw [q] at this;cases this
   | false=>rfl
  rw [qI e es env hs];show(false || (backTo pos<|starEach es env).any (·.1))=false;rw [wj pos env es h'.2];rfl
theorem qJ{e:Expr}{es:List Expr}(h:noStar (e :: es)=true):isStar e=false/\noStar es=true:=by
 unfold noStar at h ⊢;rw [Hi,Cf] at h;refine⟨?_,h.2⟩;cases q:isStar e with
 | true=>rw [q] at h;cases h.1
 | false=>rfl
section
variable{X:Cx}{CX:ga}{k:Nat}{f C:Addr}{fd:FuncData}{ps:List Str}{sp:Sp}{lg:List V}{ds:List Value}{E:XK}{x m:Str}{p pos apos:Pos}{e o:Expr}{es:List Expr}{ta te:TE}{t:TA}{id T:String}{r:List V->Hp->VK->Prop}
theorem U4(ha:PE X e te)(hr:PA X es t)(hs:isStar e=false:=by rfl):PA X (e :: es) (Km te t):=TH ha hr<|qI _ _ _ hs
theorem U5(F:aM X.prog X.w X.K X.mg X.base CX k f fd ps sp)(hr:bq k X.A)(hm:X.mg x=some (.ref f))(hk:PySem.W.keepIn X.K (.ref f)=true)(hb:Binds X.K fd ps [])(hx:lh CX X E)
  (ha:PA X (e :: es) t) (hg:Gl X x:=by rfl) (cZ:(x == ("__debug__" : Str))=false:=by decide) (hs:noStar (e :: es)=true:=by rfl):PE X (.Call (.Name x p) (e :: es) [] pos) (Kn sp [] E t):=
 TU F hr hg hm hk hb .nil hx ha cZ (qI _ _ _ (qJ hs).1) (wj _ _ _ (qJ hs).2)
theorem zS(hc:fh X (.builtin id) r)(hm:X.mg x=none)(hv:bootBuiltins x=some (.builtin id))(ha:PA X (e :: es) t)(hg:Gl X x:=by rfl)(hn:x ≠ "__name__":=by decide)(cZ:(x == ("__debug__" : Str))=false:=by decide)
  (hs:noStar (e :: es)=true:=by rfl):PE X (.Call (.Name x p) (e :: es) [] pos) (v9 r t):=
 T4 hc hg hm hv ha hn cZ (qI _ _ _ (qJ hs).1) (wj _ _ _ (qJ hs).2)
theorem zT(hc:fh X (.type T) r)(hm:X.mg x=none)(hv:bootBuiltins x=some (.type T))(ha:PA X (e :: es) t)(hg:Gl X x:=by rfl)(hn:x ≠ "__name__":=by decide)(cZ:(x == ("__debug__" : Str))=false:=by decide)
  (hs:noStar (e :: es)=true:=by rfl):PE X (.Call (.Name x p) (e :: es) [] pos) (v9 r t):=
 T5 hc hg hm hv ha hn cZ (qI _ _ _ (qJ hs).1) (wj _ _ _ (qJ hs).2)
end
structure Ev(X:Cx)(e:Expr)(σ:St)(H:Hp)(Q:VK):Prop where
 run:∀(pins:List<|Addr×Obj) (s:Shared),Inv X pins σ H s->wpAny (model X.prog X.w) X.A (eval e X.env) (EP X pins σ Q) X.xe s
structure Et(X:Cx)(e:Expr)(σ:St)(H:Hp)(Q:Bool->Hp->Prop):Prop where
 run:∀(pins:List<|Addr×Obj) (s:Shared),Inv X pins σ H s->wpAny (model X.prog X.w) X.A (isTrue e X.env<|eval e X.env) (TP X pins σ Q) X.xe s
structure Ew(X:Cx)(e:Expr)(σ:St)(H:Hp)(Q:Bool->Hp->Prop):Prop where
 run:∀(whole:Sem Value) (pins:List<|Addr×Obj) (s:Shared),Inv X pins σ H s->wpAny (model X.prog X.w) X.A (isTrue e X.env whole) (TP X pins σ Q) X.xe s
structure Ea(X:Cx)(es:List Expr)(σ:St)(H:Hp)(Q:List V->Hp->Prop):Prop where
 run:∀(pos:Pos) (pins:List<|Addr×Obj) (s:Shared),Inv X pins σ H s->wpAny (model X.prog X.w) X.A (spliced<|backTo pos<|starEach es X.env) (AP X pins σ Q) X.xe s
structure Eo(X:Cx)(e:Option Expr)(σ:St)(H:Hp)(Q:Option Int->Hp->Prop):Prop where
 run:∀(pins:List<|Addr×Obj) (s:Shared),Inv X pins σ H s->wpAny (model X.prog X.w) X.A (evalPart e X.env) (λu s'=>∃ o H',Inv X pins σ H' s'/\IsPart u o/\Q o H') X.xe s
structure Eg(X:Cx)(e:Expr)(v:V)(σ:St)(H:Hp)(Q:St->Hp->Prop):Prop where
 run:∀(pins:List<|Addr×Obj) (s:Shared) (u:Value),Inv X pins σ H s->RelV v u->wpAny (model X.prog X.w) X.A (assign e X.env u) (λ_ s'=>∃ σ' H',Inv X pins σ' H' s'/\Q σ' H') X.xe s
structure Run(X:Cx)(l:List Stmt)(D:Ends)(σ:St)(H:Hp):Prop where
 run:∀(pins:List<|Addr×Obj) (s:Shared),Inv X pins σ H s->wpAny (model X.prog X.w) X.A (execs l X.env) (SP X pins D) X.xe s
def U6(X:Cx)(e:Expr):TE:=λσ H Q=>Ev X e σ H Q
def U7(X:Cx)(e:Expr):TT:=λσ H Q=>Et X e σ H Q
def U8(X:Cx)(e:Expr):TT:=λσ H Q=>Ew X e σ H Q
def K9(X:Cx)(es:List Expr):TA:=λσ H Q=>Ea X es σ H Q
def U9(X:Cx)(e:Option Expr):TO:=λσ H Q=>Eo X e σ H Q
def U'(X:Cx)(e:Expr):TG:=λv σ H Q=>Eg X e v σ H Q
def zU(X:Cx)(l:List Stmt):TS:=λD σ H=>Run X l D σ H
section
variable{X:Cx}{e a b c o:Expr}{es:List Expr}{st:Stmt}{rest body kC:List Stmt}{σ:St}{H:Hp}{Q:VK}{T:Bool->Hp->Prop}{L:List V->Hp->Prop}{D:Ends}{pos p p2:Pos}
theorem bI:PE X e (U6 X e):=λpins s _ _ _ I h=>h.run pins s I
theorem lC:PT X e (U7 X e):=λpins s _ _ _ I h=>h.run pins s I
theorem K':PW X e (U8 X e):=λwh pins s _ _ _ I h=>h.run wh pins s I
theorem jH:PA X es (K9 X es):=λpos pins s _ _ _ I h=>h.run pos pins s I
theorem La{e:Option Expr}:PO X e (U9 X e):=λpins s _ _ _ I h=>h.run pins s I
theorem oO:PG X e (U' X e):=λpins s _ _ _ u _ I r h=>h.run pins s u I r
theorem oP{l:List Stmt}:iV X l (zU X l):=λpins s _ _ _ I h=>h.run pins s I
theorem dR{t:TE}(h1:PE X e t)(h2:t σ H Q):Ev X e σ H Q:=⟨λpins s I=>h1 pins s σ H Q I h2⟩
theorem qK{t:TT}(h1:PT X e t)(h2:t σ H T):Et X e σ H T:=⟨λpins s I=>h1 pins s σ H T I h2⟩
theorem wk{t:TT}(h1:PW X e t)(h2:t σ H T):Ew X e σ H T:=⟨λwh pins s I=>h1 wh pins s σ H T I h2⟩
theorem Lb{t:TA}(h1:PA X es t)(h2:t σ H L):Ea X es σ H L:=⟨λpos pins s I=>h1 pos pins s σ H L I h2⟩
theorem Lc{e:Option Expr}{t:TO}{R:Option Int->Hp->Prop}(h1:PO X e t)(h2:t σ H R):Eo X e σ H R:=⟨λpins s I=>h1 pins s σ H R I h2⟩
theorem zV{t:TG}{v:V}{R:St->Hp->Prop}(h1:PG X e t)(h2:t v σ H R):Eg X e v σ H R:=⟨λpins s u I r=>h1 pins s σ H v u R I r h2⟩
theorem jI{t:TS}(h1:PS X st t)(h2:t {D with nx:=λσ' H'=>Run X rest D σ' H'} σ H):Run X (st :: rest) D σ H:=⟨λpins s I=>SW h1 oP pins s σ H D I h2⟩
theorem a8(h:D.nx σ H):Run X [] D σ H:=⟨λpins s I=>J6 pins s σ H D I h⟩
theorem Ev.mono{Q':VK}(h:Ev X e σ H Q)(f:∀ v H',Q v H'->Q' v H'):Ev X e σ H Q':=⟨λpins s I=>aS (h.run pins s I) λ_ _ ⟨v,H',I',r,q⟩=>⟨v,H',I',r,f v H' q⟩⟩
theorem Et.mono{T':Bool->Hp->Prop}(h:Et X e σ H T)(f:∀ v H',T v H'->T' v H'):Et X e σ H T':=⟨λpins s I=>aS (h.run pins s I) λv _ ⟨H',I',q⟩=>⟨H',I',f v H' q⟩⟩
theorem Ea.mono{L':List V->Hp->Prop}(h:Ea X es σ H L)(f:∀ v H',L v H'->L' v H'):Ea X es σ H L':=⟨λpos pins s I=>aS (h.run pos pins s I) λ_ _ ⟨v,H',I',r,q⟩=>⟨v,H',I',r,f v H' q⟩⟩
theorem ae(i:Nat){x:Str}{v:V}(h:Q v H)(hv:σ[i]?=some (some v):=by rfl)(hN:X.N[i]?=some x:=by rfl)(hs:yH X.env.scope x:=by first | exact Or.inl rfl | exact Or.inr (Or.inl rfl) | exact Or.inr<|Or.inr rfl)(hd:(x == ("__debug__" : Str))=false:=by decide)
  (iA:(x == ("__classdict__" : Str))=false:=by decide):Ev X (.Name x p) σ H Q:=dR (Ss (i:=i) hN hs hd iA) ⟨v,hv,h⟩
theorem aF{i:Int}{j:Nat}(h:Q (.int i) H):Ev X (.Constant (.int i) j p) σ H Q:=dR (Sv) h
theorem kD{i:Bool}{j:Nat}(h:Q (.bl i) H):Ev X (.Constant (.bool i) j p) σ H Q:=dR (Sw) h
theorem fP{i:Str}{j:Nat}(h:Q (.str i) H):Ev X (.Constant (.str i) j p) σ H Q:=dR (Sx) h
theorem aX{op:Operator}{r:R2}(ho:dB X (binaryOp op) r)(h:Ev X a σ H λx H1=>Ev X b σ H1 λy H2=>r x y H2 Q):Ev X (.BinOp a op b pos) σ H Q:=dR (Tl ho bI bI) h
theorem mI{op:CmpOp}{r:R2}(ho:dB X (compareOp op) r)(h:Ev X a σ H λx H1=>Ev X b σ H1 λy H2=>r x y H2 Q)(hm:behindInMarks op b=false:=by with_unfolding_all rfl):Ev X (.Compare a [op] [b] pos) σ H Q:=dR (Tt ho bI bI hm) h
theorem Va(h:Ev X a σ H λx H1=>∃ k,x = .bl k/\if k=true then Ev X (.BoolOp .And (b :: es) pos) σ H1 Q else Q (.bl false) H1):Ev X (.BoolOp .And (a :: b :: es) pos) σ H Q:=dR (SL bI bI) h
theorem Vb{op:BoolOp}(h:Ev X a σ H Q):Ev X (.BoolOp op [a] pos) σ H Q:=dR (SK bI) h
theorem Vc(h:Et X c σ H λk H1=>if k=true then Ev X a σ H1 Q else Ev X b σ H1 Q):Ev X (.IfExp c a b pos) σ H Q:=dR (SU lC bI bI) h
theorem bh{r:R2}(hr:sJ X r)(h:Ev X a σ H λx H1=>Ev X b σ H1 λy H2=>r x y H2 Q)(hs:Kw b:=by intro _ _;rfl):Ev X (.Subscript a b pos) σ H Q:=dR (Ue hr bI bI hs) h
theorem qL{r:V->Option Int->Option Int->Hp->VK->Prop}{lo hi:Option Expr}(hr:zh X r)(h:Ev X a σ H λx H1=>Eo X lo σ H1 λl H2=>Eo X hi σ H2 λu H3=>r x l u H3 Q):Ev X (.Subscript a (.Slice lo hi none p2) pos) σ H Q:=dR (Ub hr bI La La) h
theorem qM{R:Option Int->Hp->Prop}(h:R none H):Eo X none σ H R:=Lc (T8) h
theorem qO{R:Option Int->Hp->Prop}(h:Ev X a σ H λx H1=>∃ i,x = .int i/\R (some i) H1):Eo X (some a) σ H R:=Lc (T9 bI) h
theorem ay(h:L [] H):Ea X [] σ H L:=Lb (TD) h
theorem ah(h:Ev X e σ H λx H1=>Ea X es σ H1 λxs H2=>L (x :: xs) H2)(hs:isStar e=false:=by rfl):Ea X (e :: es) σ H L:=Lb (U4 bI jH hs) h
theorem d7{k:Nat}(h:Ea X es σ H λxs H1=>xs.length<=sizeLine/\∀ p,H1 p=none->Q (.ref p) (upd H1 p<|.tup xs)):Ev X (.Tuple es k pos) σ H Q:=dR (TK jH) h
theorem du(h:Ea X es σ H λxs H1=>xs.length<=sizeLine/\∀ p,H1 p=none->Q (.ref p) (upd H1 p<|.lst xs)):Ev X (.List es pos) σ H Q:=dR (TL jH) h
theorem Ld{CX:ga}{k:Nat}{f:Addr}{fd:FuncData}{ps:List Str}{sp:Sp}{E:XK}{x:Str}(F:aM X.prog X.w X.K X.mg X.base CX k f fd ps sp)(hr:bq k X.A)(hm:X.mg x=some (.ref f))(hk:PySem.W.keepIn X.K (.ref f)=true)(hb:Binds X.K fd ps [])(hx:lh CX X E)
  (h:Ea X (e :: es) σ H λvs H1=>sp vs H1 Q E) (hg:Gl X x:=by rfl) (cZ:(x == ("__debug__" : Str))=false:=by decide) (hs:noStar (e :: es)=true:=by rfl):Ev X (.Call (.Name x p) (e :: es) [] pos) σ H Q:=
 dR (U5 F hr hm hk hb hx jH hg cZ hs) (show Ea X (e :: es) σ H _ from h.mono λvs H1 q=>by rw [Bc];exact q)
theorem cK{id:String}{r:List V->Hp->VK->Prop}{x:Str}(hc:fh X (.builtin id) r)(hm:X.mg x=none)(hv:bootBuiltins x=some (.builtin id))(h:Ea X (e :: es) σ H λvs H1=>r vs H1 Q)(hg:Gl X x:=by rfl)(hn:x ≠ "__name__":=by decide)(cZ:(x == ("__debug__" : Str))=false:=by decide)
  (hs:noStar (e :: es)=true:=by rfl):Ev X (.Call (.Name x p) (e :: es) [] pos) σ H Q:=dR (zS hc hm hv jH hg hn cZ hs) h
theorem oQ{T:String}{r:List V->Hp->VK->Prop}{x:Str}(hc:fh X (.type T) r)(hm:X.mg x=none)(hv:bootBuiltins x=some (.type T))(h:Ea X (e :: es) σ H λvs H1=>r vs H1 Q)(hg:Gl X x:=by rfl)(hn:x ≠ "__name__":=by decide)(cZ:(x == ("__debug__" : Str))=false:=by decide)
  (hs:noStar (e :: es)=true:=by rfl):Ev X (.Call (.Name x p) (e :: es) [] pos) σ H Q:=dR (zT hc hm hv jH hg hn cZ hs) h
theorem dv{op:CmpOp}{r:R2}(ho:dB X (compareOp op) r)(h:Ev X a σ H λx H1=>Ev X b σ H1 λy H2=>r x y H2 λz H3=>∃ k,z = .bl k/\T k H3)(hm:behindInMarks op b=false:=by with_unfolding_all rfl):Et X (.Compare a [op] [b] pos) σ H T:=qK (Tx ho bI bI hm) h
theorem Vd(h:Et X a σ H λk H1=>T (!k) H1):Et X (.UnaryOp .Not a pos) σ H T:=qK (SG lC) h
theorem zW(h:Ev X e σ H λx H1=>∃ k,x = .bl k/\T k H1)(he:∀ whole,isTrue e X.env whole=(do let v <- whole;standAt e.pos;holding [v] (truthy v)):=by intro _;rfl):Et X e σ H T:=qK (Sy bI he) h
theorem Ve(h:Ev X e σ H λx H1=>∃ k,oG X.K x H1 k/\T k H1)(he:∀ whole,isTrue e X.env whole=(do let v <- whole;standAt e.pos;holding [v] (truthy v)):=by intro _;rfl):Et X e σ H T:=qK (TC bI he) h
theorem zX(h:Ew X e σ H T):Et X e σ H T:=⟨λpins s I=>h.run _ pins s I⟩
theorem Le(h:Et X a σ H λk H1=>if k=true then Ew X (.BoolOp .And (b :: es) pos) σ H1 T else T false H1):Ew X (.BoolOp .And (a :: b :: es) pos) σ H T:=wk (SE lC K') h
theorem Vf(h:Et X a σ H λk H1=>if k=true then T true H1 else Ew X (.BoolOp .Or (b :: es) pos) σ H1 T):Ew X (.BoolOp .Or (a :: b :: es) pos) σ H T:=wk (SF lC K') h
theorem Lf(h:Et X a σ H T):Ew X (.BoolOp .And [a] pos) σ H T:=wk (SA lC) h
theorem Vg(h:Et X a σ H T):Ew X (.BoolOp .Or [a] pos) σ H T:=wk (SD lC) h
theorem bA(i:Nat){x:Str}{v:V}{R:St->Hp->Prop}(hN:X.N.Nodup)(h:R (σ.set i<|some v) H)(hi:X.N[i]?=some x:=by rfl)(hx:Loc X.env.scope x:=by first | exact Or.inl rfl | exact Or.inr rfl)(hf:X.fn x=true\/X.env.scope.names.lookup x=some .local:=by first | exact .inl rfl | exact .inr rfl | assumption):Eg X (.Name x p) v σ H R:=zV (S3 hN hi hx hf) h
theorem a9(i:Nat){x:Str}{pos':Pos}(hN:X.N.Nodup)(h:Ev X e σ H λv H1=>Run X rest D (σ.set i<|some v) H1)(hi:X.N[i]?=some x:=by rfl)(hx:Loc X.env.scope x:=by first | exact Or.inl rfl | exact Or.inr rfl)(hs:swapsWith e (some<|.Name x pos') pos.line X.env=pure false:=by rfl)
  (hf:X.fn x=true\/X.env.scope.names.lookup x=some .local:=by first | exact .inl rfl | exact .inr rfl | assumption):Run X (.Assign [.Name x pos'] e pos :: rest) D σ H:=jI (S6 hN hi hx bI hs hf) h
theorem gq(h:Et X c σ H λk H1=>if k=true then Run X body {D with nx:=λσ' H'=>Run X rest D σ' H'} σ H1 else Run X kC {D with nx:=λσ' H'=>Run X rest D σ' H'} σ H1):Run X (.If c body kC pos :: rest) D σ H:=jI (S1 lC oP oP) h
theorem zY(φ ψ:Prop)(hc:∀ T:Bool->Hp->Prop,(∀ k:Bool,(k=true->φ)->(k=false->ψ)->T k H)->Et X c σ H T)(ht:φ->Run X body {D with nx:=λσ' H'=>Run X rest D σ' H'} σ H)(hu:ψ->Run X kC {D with nx:=λσ' H'=>Run X rest D σ' H'} σ H):Run X (.If c body kC pos :: rest) D σ H:=
 gq (hc _ λk p q=>by
  cases k with
  | true=>rw [BL rfl];exact ht<|p rfl
  | false=>rw [BK Aq];exact hu<|q rfl)
theorem cD(h:Ev X e σ H D.rt):Run X (.Return (some e) pos :: rest) D σ H:=jI (S0 bI) h
theorem fQ(h:Ev X e σ H λ_ H1=>Run X rest D σ H1)(hs:swapsWith e none pos.line X.env=pure false:=by rfl):Run X (.Expr e pos :: rest) D σ H:=jI (SZ bI hs) h
theorem Vh{tg:Expr}(h:Ev X e σ H λv H1=>Eg X tg v σ H1 λσ' H'=>Run X rest D σ' H')(hs:swapsWithSole [tg] e pos.line X.env=pure false:=by rfl)(hw:swappedStores [tg] e X.env=pure none:=by rfl)
  (h1:(assignEach [tg] X.env).map (·.2)=[assign tg X.env]:=by rfl):Run X (.Assign [tg] e pos :: rest) D σ H:=jI (S4 bI oO hs hw h1) h
def Loop(X:Cx)(tg:Expr)(body:List Stmt)(J:It)(D:Ends)(after:St->Hp->Prop)(σ:St)(H:Hp):Prop:=
 ∃ W:Nat->Nat->St->Hp->Prop,(∃ m,W 0 m σ H)/\∀ i m σ H,W i m σ H->(J.stop i H/\after σ H)\/(J.go i H/\∃ N:St->Hp->Prop,(∀ σ' H',N σ' H'->∃ m',m' < m/\W (i+1) m' σ' H') /\
  ∀ x H',J.si i H x H'->Eg X tg x σ H' λσ2 H2=>Run X body {D with nx:=N,ct:=N,bk:=after} σ2 H2)
theorem zZ{tg iter:Expr}{wi:TI}(hi:PI X tg iter wi)(h:wi σ H λJ H1=>Loop X tg body J D (λσ' H'=>Run X rest D σ' H') σ H1)(hp:PassesOwn (model X.prog X.w) X.A X.env X.xe:=by exact JF)(hc:X.calm=true:=by rfl)
  (hs:∀ x,foldedSetIterable iter X.env x=pure x:=by intro _;rfl):Run X (.For tg iter body [] pos :: rest) D σ H:=jI (Tg hp hc hi oO oP hs) h
theorem jJ{tg:Expr}{q:Pos}(hm:X.mg "range" = none)(h:Ev X a σ H λx H1=>∃ j:Int,x = .int j/\-(2 ^ 62)<=j/\j < 2 ^ 62/\Loop X tg body (qz 0 j.toNat) D (λσ' H'=>Run X rest D σ' H') σ H1)(hg:Gl X "range":=by rfl)(hp:PassesOwn (model X.prog X.w) X.A X.env X.xe:=by exact JF)(hc:X.calm=true:=by rfl)(hs:isStar a=false:=by rfl) :
  Run X (.For tg (.Call (.Name "range" q) [a] [] p) body [] pos :: rest) D σ H:=
 zZ (wi:=Kc<|K9 X [a]) (Kd hg hm jH<|qI a [] _ hs) (show Ea X [a] σ H _ from ah (h.mono λx H1 ⟨j,e,h1,h2,h3⟩=>ay ⟨j,by rw [e],h1,h2,h3⟩) hs) hp hc (by intro _;rfl)
theorem Vi{tg iter:Expr}(h:Ev X iter σ H λx H1=>∃ a,x = .ref a/\(∃ xs,aW X.K H1 a xs)/\Loop X tg body (v5 X.K a) D (λσ' H'=>Run X rest D σ' H') σ H1)(hp:PassesOwn (model X.prog X.w) X.A X.env X.xe:=by exact JF)(hc:X.calm=true:=by rfl)
  (hs:∀ x,foldedSetIterable iter X.env x=pure x:=by intro _;rfl):Run X (.For tg iter body [] pos :: rest) D σ H:=zZ (Td bI) h hp hc hs
theorem jn{tg iter:Expr}(h:Ev X iter σ H λx H1=>∃ a,x = .ref a/\(∃ xs,al X.K H1 a xs)/\Loop X tg body (oD X.K a) D (λσ' H'=>Run X rest D σ' H') σ H1)(hp:PassesOwn (model X.prog X.w) X.A X.env X.xe:=by exact JF)(hc:X.calm=true:=by rfl)
  (hs:∀ x,foldedSetIterable iter X.env x=pure x:=by intro _;rfl):Run X (.For tg iter body [] pos :: rest) D σ H:=zZ (jm bI) h hp hc hs
theorem jK{tg:Expr}{lo:Int}{n:Nat}{after:St->Hp->Prop}(Pv:Nat->St->Hp->Prop)(h0:Pv 0 σ H)
  (hs:∀ i σ H,i < n->Pv i σ H->Eg X tg (.int<|lo+i) σ H λσ2 H2=>Run X body {D with nx:=Pv<|i+1,ct:=Pv<|i+1,bk:=after} σ2 H2) (hd:∀ σ H,Pv n σ H->after σ H):Loop X tg body (qz lo n) D after σ H:=by
 refine⟨λi m σ H=>m=n - i/\i<=n/\Pv i σ H,⟨n,by simp,Ci _,h0⟩,?_⟩;rintro i m σ H ⟨rfl,hi,p⟩
 by_cases aT:i < n
 ·refine .inr ⟨aT,Pv<|i+1,λσ' H' p'=>⟨n - (i+1),by omega,rfl,aT,p'⟩,λx H' y=>?_⟩;obtain⟨e,y⟩:=y;subst e y;exact hs i σ _ aT p
 ·have e:i=n:=by omega
  subst e;exact .inl ⟨Ao _,hd σ H p⟩
theorem Vj{tg:Expr}{at_:Addr}{xs:List V}{after:St->Hp->Prop}(Pv:Nat->St->Hp->Prop)(h0:Pv 0 σ H)(hl:∀ i σ H,i<=xs.length->Pv i σ H->aW X.K H at_ xs)
  (hs:∀ i x σ H,xs[i]?=some x->Pv i σ H->Eg X tg x σ H λσ2 H2=>Run X body {D with nx:=Pv<|i+1,ct:=Pv<|i+1,bk:=after} σ2 H2) (hd:∀ σ H,Pv xs.length σ H->after σ H):Loop X tg body (v5 X.K at_) D after σ H:=by
 refine⟨λi m σ H=>m=xs.length - i/\i<=xs.length/\Pv i σ H,⟨xs.length,by simp,Ci _,h0⟩,?_⟩;rintro i m σ H ⟨rfl,hi,p⟩;have q:=hl i σ H hi p
 by_cases aT:i < xs.length
 ·refine .inr ⟨⟨xs,xs[i],q,by simp [aT]⟩,Pv<|i+1,λσ' H' p'=>⟨xs.length - (i+1),by omega,rfl,aT,p'⟩,λx H' y=>?_⟩;obtain⟨e,y⟩:=y;subst e;exact hs i x σ _ (y xs q) p
 ·have e:i=xs.length:=by omega
  subst e;exact .inl ⟨⟨xs,q,Ao _⟩,hd σ H p⟩
theorem jo{tg:Expr}{at_:Addr}{xs:List V}{after:St->Hp->Prop}(Pv:Nat->St->Hp->Prop)(h0:Pv 0 σ H)(hl:∀ i σ H,i<=xs.length->Pv i σ H->al X.K H at_ xs)
  (hs:∀ i x σ H,xs[i]?=some x->Pv i σ H->Eg X tg x σ H λσ2 H2=>Run X body {D with nx:=Pv<|i+1,ct:=Pv<|i+1,bk:=after} σ2 H2) (hd:∀ σ H,Pv xs.length σ H->after σ H):Loop X tg body (oD X.K at_) D after σ H:=by
 refine⟨λi m σ H=>m=xs.length - i/\i<=xs.length/\Pv i σ H,⟨xs.length,by simp,Ci _,h0⟩,?_⟩;rintro i m σ H ⟨rfl,hi,p⟩;have q:=hl i σ H hi p
 by_cases aT:i < xs.length
 ·refine .inr ⟨⟨xs,xs[i],q,by simp [aT]⟩,Pv<|i+1,λσ' H' p'=>⟨xs.length - (i+1),by omega,rfl,aT,p'⟩,λx H' y=>?_⟩;obtain⟨e,y⟩:=y;subst e;exact hs i x σ _ (y xs q) p
 ·have e:i=xs.length:=by omega
  subst e;exact .inl ⟨⟨xs,q,Ao _⟩,hd σ H p⟩
theorem bW.go{P:Program}{w:World}{K:PySem.W.Frag}{mg:Str->Option Value}{base:Heap}{x qual:Str}{st:Stmt}{f:Addr}{fd:FuncData}{N ps:List Str}{k:Nat}{sp:Sp}(F:bW K x qual st f fd)(S:au N ps<|bj st)(len:∀ vs H Q E,sp vs H Q E->vs.length=ps.length)
  (c5 : ∀ (bG : Value) (A : Around) (outer : List Env) (s : Shared) (H : Hp) (vs : List V) (Q : VK) (E : XK), bq k (A.deeper<|envOfC qual (bj st) s.heap.objs.size f bG) → sp vs H Q E →
   Run (dh cf P w K mg base N qual (bj st) f bG A outer s H E).qu (iF st) {nx:=λ_ H'=>Q .non H',rt:=Q} (start N vs) H):aM P w K mg base cf (k+1) f fd ps sp:=
 F.ok S len λbG A outer s H vs Q E hr fN=>⟨_,oP,c5 bG A outer s H vs Q E hr fN⟩
end
structure Ei(X:Cx)(ifs:List Expr)(σ:St)(H:Hp)(Q:Bool->Hp->Prop):Prop where
 run:∀(pins:List<|Addr×Obj) (s:Shared),Inv X pins σ H s ->
  wpAny (model X.prog X.w) X.A (forIn ifs true λc r=>if r=true then do let ok <- isTrue c X.env<|eval c X.env;pure (ForInStep.yield ok) else pure (ForInStep.yield r)) (TP X pins σ Q) X.xe s
def z3(X:Cx)(N':List Str)(scope:Scope)(e:Expr)(σ:St)(H:Hp)(Q:VK):Prop:=∀ cl C s₀ H₀ ex,Ev (hU X N' scope cl C s₀ H₀ ex) e σ H Q
def z4(X:Cx)(N':List Str)(scope:Scope)(e:Expr)(v:V)(σ:St)(H:Hp)(Q:St->Hp->Prop):Prop:=∀ cl C s₀ H₀ ex,Eg (hU X N' scope cl C s₀ H₀ ex) e v σ H Q
def z5(X:Cx)(N':List Str)(scope:Scope)(ifs:List Expr)(σ:St)(H:Hp)(Q:Bool->Hp->Prop):Prop:=∀ cl C s₀ H₀ ex,Ei (hU X N' scope cl C s₀ H₀ ex) ifs σ H Q
def mJ(X:Cx)(N':List Str)(scope:Scope)(tg:Expr)(ifs:List Expr)(elt:Expr)(J:It)(D:Addr)(after:Hp->Prop)(σ:St)(H:Hp):Prop:=
 ∃ W:Nat->Nat->St->Hp->Prop,(∃ m,W 0 m σ H)/\∀ i m σ' H',W i m σ' H' ->
  (J.stop i H' ∧ after H') ∨ (J.go i H' ∧ ∃ N : St → Hp → Prop, (∀ σ' H', N σ' H' → ∃ m', m' < m ∧ W (i + 1) m' σ' H') ∧ ∀ x H2, J.si i H' x H2 → z4 X N' scope tg x σ' H2 λσ2 H3 => z5 X N' scope ifs σ2 H3 λb H4 =>
   if b=true then z3 X N' scope elt σ2 H4 λv H5=>∃ ys,H5 D=some (.lst ys)/\ys.length < sizeLine/\N σ2 (upd H5 D<|.lst<|ys++[v]) else N σ2 H4)
theorem oR:∀(names:List<|Str×NameKind) (n:Nat) (acc:List<|Str×Addr),cellsFrom n names acc=cellsFrom n names []++acc
 | [],_,_=>rfl
 | (y,k) :: r,n,acc=>by
  unfold cellsFrom
  split
  ·rw [oR r (n+1)<|(y,n) :: acc,oR r (n+1) [(y,n)],At];rfl
  ·exact oR r n acc
theorem sZ:∀(names:List<|Str×NameKind) (n:Nat) {x:Str} {c:Addr},(x,c)∈cellsFrom n names []->(x,NameKind.cell)∈names/\n<=c
 | [],_,_,_,h=>by cases h
 | (y,k) :: r,n,x,c,h=>by
  unfold cellsFrom at h
  split at h
  ·rename_i hk;rw [oR,Ap] at h
   rcases h with h | h
   ·obtain⟨a,b⟩:=sZ r (n+1) h;exact⟨Af _ a,by omega⟩
   ·cases Ae.mp h;have:k = .cell:=by cases k <;> first | rfl | exact absurd hk<|by decide
    subst this;exact⟨Ac,Ao _⟩
  ·obtain⟨a,b⟩:=sZ r n h;exact⟨Af _ a,b⟩
theorem Lg{names:List (Str×NameKind)}{n:Nat}{cl:List (Str×Addr)}{x:Str}{c:Addr}(h:(cellsFrom n names cl).lookup x=some c):((x,c)∈cellsFrom n names []/\n<=c)\/cl.lookup x=some c:=by
 rw [oR,MN] at h;cases e:(cellsFrom n names []).lookup x with
 | some d=>
  rw [e] at h;cases h;have hm:=CQ e;exact .inl ⟨hm,(sZ _ _ hm).2⟩
 | none=>
  rw [e] at h;exact .inr h
theorem Vk{names:List (Str×NameKind)}{n:Nat}{cl:List (Str×Addr)}{x:Str}(h:(x,NameKind.cell)∉names):(cellsFrom n names cl).lookup x=cl.lookup x:=by
 rw [oR,MN];cases e:(cellsFrom n names []).lookup x with
 | some d=>exact absurd (sZ _ _<|CQ e).1 h
 | none=>rfl
section
variable{M:Model}{A:Around}{E:Value->Shared->Prop}{s:Shared}
theorem Vl{scope:Scope}{globals:Addr}{closure:List (Str×Addr)}{qual:Str}{func:Option Addr}{code:Value}{outer:Env}{builtins:Addr}{Q:Env->Shared->Prop}
  (hQ : ∀ h', h'.Ns s.heap.objs.size (λ_ => none) → (∀ b o, s.heap.get? b = some o → h'.get? b = some o) → CellsOk h' (s.heap.objs.size + 1) (cellsFrom (s.heap.objs.size + 1) scope.names []) →
   Q (newEnv scope s.heap.objs.size globals (cellsFrom (s.heap.objs.size+1) scope.names closure) qual func code (some outer) builtins) {s with heap:=h'}) :
  wpAny M A (newFunctionEnv scope globals closure [] qual func code (some outer) builtins) Q E s:=by
 simp only [newFunctionEnv,Option.isSome_some,DW];refine BJ<|wpAny_alloc ?_;refine BJ (wpAny_layCells _ (λname kind cells=>by cases Vm:kind == NameKind.cell <;> simp [Vm]) _ _ _ _ ?_);have ok:=cellsFrom_ok scope.names (s.heap.push {cls:= .type "dict",data:= .dict #[]}) (s.heap.objs.size+1) [] ⟨λ_ _ hm=>(nomatch hm),List.Pairwise.nil⟩ (by rw [Du];exact Ao _);rw [Du] at ok;rw [show({s with heap:=s.heap.push {cls:= .type "dict",data:= .dict #[]}}:Shared).heap.objs.size=s.heap.objs.size+1 from Du ..];rw [List.forIn_nil];exact BJ<|BP<|BP<|hQ _ ((Heap.Ns.new s.heap<|.type "dict").keeps<|pushCells_keeps _ _) (λb o e=>pushCells_keeps _ _ b o<|Ai _ e) ok
end
def tf(sc scope:Scope)(N N':List Str):Bool:=
 (match scope.kind with | .function=>true | _=>false) &&
 scope.names.all (λy=>match y.2 with
  | .cell=>(match scope.names.lookup y.1 with | some .cell=>true | _=>false)
  | .local=>(match scope.names.lookup y.1 with | some .local=>true | _=>false)
  | .free=>(match sc.names.lookup y.1 with | some .cell=>true | some .free=>true | _=>false) && (match scope.names.lookup y.1 with | some .free=>true | _=>false)
  | _=>true) &&
 (List.range N'.length).all λi => match N'[i]? with
  | none=>true
  | some x=>match scope.names.lookup x with
   | some .local=>decide (N.length<=i)
   | some .cell=>decide (N.length<=i)
   | some .free=>decide (N[i]?=some x)
   | _=>true
structure ci(sc scope:Scope)(N N':List Str):Prop where
 kind:scope.kind = .function
 cell:∀ y∈scope.names,y.2 = .cell->scope.names.lookup y.1=some .cell
 names:∀ y∈scope.names,y.2 = .local->scope.names.lookup y.1=some .local
 free:∀ y∈scope.names,y.2 = .free->sc.names.lookup y.1=some .cell\/sc.names.lookup y.1=some .free
 Lh:∀ y∈scope.names,y.2 = .free->scope.names.lookup y.1=some .free
 own:∀(i:Nat) x,N'[i]?=some x->scope.names.lookup x=some .local->N.length<=i
 z6:∀(i:Nat) x,N'[i]?=some x->scope.names.lookup x=some .cell->N.length<=i
 out:∀(i:Nat) x,N'[i]?=some x->scope.names.lookup x=some .free->N[i]?=some x
theorem ci.of{sc scope:Scope}{N N':List Str}(h:tf sc scope N N'=true):ci sc scope N N':=by
 unfold tf at h;rw [Cf,Cf] at h;obtain⟨⟨h1,h2⟩,h3⟩:=h;have mK:=Fw.mp h2;have z7:=Fw.mp h3;refine⟨?_,λy hy e=>?_,λy hy e=>?_,λy hy e=>?_,λy hy e=>?_,λi x hi e=>?_,λi x hi e=>?_,λi x hi e=>?_⟩
 ·revert h1;cases scope.kind <;> intro h1 <;> first | rfl | cases h1
 ·have q:=mK y hy;rw [e] at q;simp only at q
  split at q
  ·assumption
  ·cases q
 ·have q:=mK y hy;rw [e] at q;simp only at q
  split at q
  ·assumption
  ·cases q
 ·have q:=mK y hy;rw [e] at q;simp only at q;rw [Cf] at q;have q:=q.1
  split at q
  ·exact .inl<|by assumption
  ·exact .inr<|by assumption
  ·cases q
 ·have q:=mK y hy;rw [e] at q;simp only at q;rw [Cf] at q;have q:=q.2
  split at q
  ·assumption
  ·cases q
 ·have q:=z7 i<|Bm.mpr (Ad.mp hi).1;rw [hi] at q;simp only [e] at q;exact CG q
 ·have q:=z7 i<|Bm.mpr (Ad.mp hi).1;rw [hi] at q;simp only [e] at q;exact CG q
 ·have q:=z7 i<|Bm.mpr (Ad.mp hi).1;rw [hi] at q;simp only [e] at q;exact CG q
section
variable{X:Cx}{pins:List (Addr×Obj)}{σ:St}{H:Hp}{s:Shared}
theorem Vn{N':List Str}{scope:Scope}{n:Nat}{fp:List Addr}{h₁:Heap}{t':Nat}{m:Str->Option Value}(I:Inv X pins σ H s)(ck:ci X.env.scope scope X.N N')(hl:N'.length=X.N.length+n)
  (we:h₁.Ns s.heap.objs.size m) (old:∀ b o,s.heap.get? b=some o->h₁.get? b=some o) (Li:CellsOk h₁ (s.heap.objs.size+1)<|cellsFrom (s.heap.objs.size+1) scope.names [])
  (mM:∀ b∈fp,cX X pins H b/\b < s.heap.objs.size) :
  Inv (hU X N' scope (cellsFrom (s.heap.objs.size+1) scope.names<|cJ scope.names X.env.cells []) s.heap.objs.size s H fp) [] (σ++List.replicate n none) H {s with heap:=h₁,toks:=t'}:=by
 have sub:∀ x c,(cJ scope.names X.env.cells []).lookup x=some c->X.env.cells.lookup x=some c:=λx c e=>zM _ _ _ (λ_ _ z=>by simp at z) x c<|CQ e;have both:∀ x c,(cellsFrom (s.heap.objs.size+1) scope.names<|cJ scope.names X.env.cells []).lookup x=some c->((x,c)∈cellsFrom (s.heap.objs.size+1) scope.names []/\s.heap.objs.size+1<=c)\/X.env.cells.lookup x=some c:=λx c e=>by
  rcases Lg e with z | z
  ·exact .inl z
  ·exact .inr<|sub x c z
 have mO:∀ x c,X.env.cells.lookup x=some c->c < s.heap.objs.size:=λx c e=>by
  obtain⟨v,o,ho,_⟩:=I.cell x c e;exact Av ho
 have Vo:H s.heap.objs.size=none:=I.aJ.fresh<|Ao _;have kindOf:∀{x:Str} {k':NameKind},(relabel scope X.env).names.lookup x=some k'->∃ k,scope.names.lookup x=some k/\(k'=k\/(k = .free/\k' = .cell)):=λz=>K6 z;have Lj:∀ x,scope.names.lookup x=some .free->(cellsFrom (s.heap.objs.size+1) scope.names<|cJ scope.names X.env.cells []).lookup x=(cJ scope.names X.env.cells []).lookup x:=λx e=>Vk λhm=>by
  have:=ck.cell _ hm rfl;rw [e] at this;cases this
 have z8:∀ x,scope.names.lookup x=some .cell->∃ c,(cellsFrom (s.heap.objs.size+1) scope.names<|cJ scope.names X.env.cells []).lookup x=some c:=λx e=>Fe.mp<|IK _ _ _<|.inl e;have Vp:(hU X N' scope (cellsFrom (s.heap.objs.size+1) scope.names<|cJ scope.names X.env.cells []) s.heap.objs.size s H fp).Ok:=by
  refine⟨I.ok.mod,ck.kind,I.ok.glob,I.ok.blt,Ao _,λx y c e1 e2=>?_,λx hx=>?_,λx c hf e=>?_,I.ok.hd,I.ok.frames,.inl rfl,λb hb=>⟨Cg (mM b hb).2,λx c e=>?_⟩,
   I.bs,Cp I.ok.jl I.sz,λb o e hb=>?_,λb hb hf=>?_,I.stack,I.cW⟩
  ·rcases both x c e1 with z1 | z1
   ·rcases both y c e2 with z2 | z2
    ·exact name_of_addr Li.apart z1.1 z2.1
    ·exact absurd (mO y c z2)<|Nat.not_lt.mpr<|Ey z1.2
   ·rcases both y c e2 with z2 | z2
    ·exact absurd (mO x c z1)<|Nat.not_lt.mpr<|Ey z2.2
    ·exact I.ok.inj x y c z1 z2
  ·have qP:(relabel scope X.env).names.lookup x=some .cell\/(relabel scope X.env).names.lookup x=some .free:=hx;have:∃ k,scope.names.lookup x=some k/\(k = .free\/k = .cell):=by
    rcases qP with z | z
    ·obtain⟨k,e,r⟩:=kindOf z
     rcases r with r | ⟨r,_⟩
     ·exact⟨k,e,.inr r.symm⟩
     ·exact⟨k,e,.inl r⟩
    ·obtain⟨k,e,r⟩:=kindOf z
     rcases r with r | ⟨r,_⟩
     ·exact⟨k,e,.inl r.symm⟩
     ·exact⟨k,e,.inl r⟩
   obtain⟨k,e,rfl | rfl⟩:=this
   ·have hm:=CQ e;obtain⟨c,hc⟩:=I.ok.has x<|ck.free _ hm rfl;obtain⟨d,hd⟩:=zO<|zN scope.names X.env.cells [] x c hm hc;exact⟨d,(Lj x e).trans hd⟩
   ·exact z8 x e
  ·have hx:scope.names.lookup x=some .cell:=by
    have Ln:(match scope.names.lookup x with | some .cell=>true | _=>false)=true:=hf
    split at Ln
    ·assumption
    ·cases Ln
   have e':(cellsFrom (s.heap.objs.size+1) scope.names<|cJ scope.names X.env.cells []).lookup x=some c:=e;have q1:=Fe.mp<|IK scope.names (s.heap.objs.size+1) []<|.inl hx;obtain⟨d,hd⟩:=q1;rw [oR,MN,hd] at e';have e2:d=c:=Option.some.inj e';have:=(sZ _ _<|CQ hd).2;rw [<- e2];exact Ey this
  ·have e':(cellsFrom (s.heap.objs.size+1) scope.names<|cJ scope.names X.env.cells []).lookup x=some c:=e
   rcases both x c e' with z | z
   ·have h1:=(mM b hb).2;have h2:=z.2;exact λk=>absurd h1<|Nat.not_lt.mpr<|by rw [<- k];exact Ey h2
   ·exact(mM b hb).1.2.2.2.2.1 x c z
  ·have:=(mM b hb).1.2.2.2.1
   rcases this with z | z
   ·exact I.ok.fe b o e z
   ·exact absurd (Bj (Av e)<|Cp I.ok.jl z)<|Cu _
  ·rcases Am.mp (I.df b hf) with z | z
   ·exact(mM b hb).1.2.1 z
   ·exact(mM b hb).1.2.2.1 z
 refine⟨Vp,rfl,I.bare,Un.kept old,⟨m,we,λi x v e1 e2 e3=>?_⟩,λx c e=>?_,Vo,λx c e=>?_,λp hp=>absurd hp (by simp [hU]),I.aJ.kept old,?_⟩
 ·have hi:i < σ.length:=by
   by_cases hi:i < σ.length
   ·exact hi
   ·rw [Bs (by omega),Fi] at e2
    split at e2 <;> cases e2
  rw [Bp hi] at e2;have oU:N'[i]?=some x:=e1;have Vq:∃ k',(relabel scope X.env).names.lookup x=some k'/\(k' = .local\/k' = .cell\/k' = .free):=by
   rcases e3 with z | z | z
   ·exact⟨_,z,.inl rfl⟩
   ·exact⟨_,z,.inr<|.inl rfl⟩
   ·exact⟨_,z,.inr<|.inr rfl⟩
  obtain⟨k',z9,AA⟩:=Vq;obtain⟨k,ek,r⟩:=kindOf z9;have kf:k = .free:=by
   rcases r with r | ⟨r,_⟩
   ·subst r
    rcases AA with z | z | z
    ·subst z;have:=ck.own i x oU ek;rw [I.len] at hi;omega
    ·subst z;have:=ck.z6 i x oU ek;rw [I.len] at hi;omega
    ·exact z
   ·exact r
  subst kf;have hm:=CQ ek;have Vr:=ck.out i x oU ek;obtain⟨m0,tu,fu⟩:=I.loc;have kx:=ck.free _ hm rfl;obtain⟨u,ru,lk⟩:=fu i x v Vr e2 (by rcases kx with z | z;exact .inr<|.inl z;exact .inr<|.inr z);refine⟨u,ru,.inr ⟨?_,?_⟩⟩
  ·rcases r with r | ⟨_,r⟩
   ·subst r;exact .inr z9
   ·subst r;exact .inl z9
  ·rcases lk with ⟨k1,_⟩ | ⟨_,c,hc,iB⟩
   ·have AB:X.env.scope.names.lookup x=some .local:=k1
    rcases kx with z | z
    ·rw [AB] at z;cases z
    ·rw [AB] at z;cases z
   ·have wm:=zN scope.names X.env.cells [] x c hm hc;obtain⟨d,hd⟩:=zO wm;have:d=c:=Option.some.inj<|(sub x d hd).symm.trans hc;subst this;obtain⟨o,ho,i0⟩:=iB;exact⟨d,(Lj x ek).trans hd,o,old _ _ ho,i0⟩
 ·have e':(cellsFrom (s.heap.objs.size+1) scope.names<|cJ scope.names X.env.cells []).lookup x=some c:=e
  rcases both x c e' with z | z
  ·exact⟨none,(Li.empty x c z.1).1⟩
  ·obtain⟨v,o,ho,i0⟩:=I.cell x c z;exact⟨v,o,old _ _ ho,i0⟩
 ·have e':(cellsFrom (s.heap.objs.size+1) scope.names<|cJ scope.names X.env.cells []).lookup x=some c:=e
  rcases both x c e' with z | z
  ·exact I.aJ.fresh<|Ey z.2
  ·exact I.bz x c z
 ·rw [Ah,Fp,I.len];exact hl.symm
end
structure Clause(e:Expr)(d:Nat)(tg iter:Expr)(ifs:List Expr)(acc:Value)(env:Env)(inner:Sem Unit):Prop where
 at':(clausesOf e)[d]?=some ⟨tg,iter,ifs,0⟩
 quiet:∀ it,(Code.compLoop e d it acc env).quiet=true
 den:∀(prog:Program) (w:World) it,(model prog w).den (.compLoop e d it acc env)=(compTurn e d it acc env).onRaise (λx=>do noteFrame x env;theTreesLotGoes x)
 Vs:∀(A:Around) it,A.under (.compLoop e d it acc env)=A
 AF:∀(prog:Program) (w:World) it,(model prog w).den (.compStart e d it acc env)=(compStart e d it acc env).onRaise (λx=>do noteFrame x env;standAt theWindowsPlace)
 AG:∀(A:Around) it,A.under (.compStart e d it acc env)=A
 turn:∀ it,compTurn e d it acc env=(do
   standAt iter.pos
   match <- pyNext it with
   | none=>pure<|.done .next
   | some v=>
    letOwnedTupleGo tg it v
    assign tg env v
    let mut ok:=true
    for c in ifs do
     if ok then ok <- isTrue c env<|eval c env
    if ok then
     inner
    again (.compLoop e d it acc env))
section
variable{prog:Program}{w:World}{A:Around}{R:Result->Shared->Prop}{s:Shared}
theorem Vt{e:Expr}{d:Nat}{tg iter:Expr}{ifs:List Expr}{it acc:Value}{env:Env}{inner:Sem Unit}(C:Clause e d tg iter ifs acc env inner)(I:Nat->Shared->Prop)
  (turn : ∀ n s, I n s → wpAny (model prog w) A (pyNext it) (λr s₁ => match r with
   | none=>R (.ok .next) s₁
   | some v=>wpAny (model prog w) A (letOwnedTupleGo tg it v) (λ_ s₁'=>wpAny (model prog w) A (assign tg env v) (λ_ s₂=>
     wpAny (model prog w) A (forIn ifs true λc r=>if r=true then do let ok <- isTrue c env<|eval c env;pure (ForInStep.yield ok) else pure (ForInStep.yield r)) (λok s₃=>
      if ok=true then wpAny (model prog w) A inner (λ_ s₄=>∃ m,m < n/\I m s₄) (notedBy (model prog w) A env λe s'=>R (.error e) s') s₃
      else ∃ m,m < n/\I m s₃) (notedBy (model prog w) A env λe s'=>R (.error e) s') s₂) (notedBy (model prog w) A env λe s'=>R (.error e) s') s₁') (notedBy (model prog w) A env λe s'=>R (.error e) s') s₁) (notedBy (model prog w) A env λe s'=>R (.error e) s') s)
  (n:Nat) (h:I n s) :
  codeAny (model prog w) A (.compLoop e d it acc env) R s:=by
 refine codeAny_loop (C.quiet it) I (λn s hI=>?_) n h;rw [C.Vs,C.den];refine wpAny_noted ?_;rw [C.turn];refine BJ<|FZ<|BJ<|CK (turn n s hI) (λr s₁ h₁=>?_) λ_ _ h'=>h';cases r with
 | none=>exact BP h₁
 | some v=>
  refine BJ<|CK h₁ (λ_ s₁' h₁'=>?_) λ_ _ h'=>h';refine BJ<|CK h₁' (λ_ s₂ h₂=>BJ<|CK h₂ (λok s₃ h₃=>?_) λ_ _ h'=>h') λ_ _ h'=>h';cases ok with
  | false=>exact BP ⟨rfl,h₃⟩
  | true=>exact BJ<|CK h₃ (λ_ s₄ h₄=>BP ⟨rfl,h₄⟩) λ_ _ h'=>h'
theorem Vu{e:Expr}{d:Nat}{tg iter:Expr}{ifs:List Expr}{it acc:Value}{env:Env}{inner:Sem Unit}(C:Clause e d tg iter ifs acc env inner)
  (h0:codeAny (model prog w) A (.compLoop e d it acc env) R s)
  (h:wpAny (model prog w) A (pyIter it) (λAH s'=>codeAny (model prog w) A (.compLoop e d AH acc env) R s') (notedBy (model prog w) A env λx s'=>R (.error x) s') s) :
  codeAny (model prog w) A (.compStart e d it acc env) R s:=by
 refine codeAny_of_tree ?_;rw [C.AG,C.AF];refine wpAny_notedAt ?_;unfold compStart;rw [C.at'];show wpAny _ _ (ask >>= _) _ _ s;refine BJ<|JX<|wpAny_ite ?_
 split
 ·first
   | exact BJ<|BP<|BP<|And.intro (C.quiet _) h0
   | exact BP<|And.intro (C.quiet _) h0
 ·first
   | exact BJ<|HW<|BJ<|FZ<|BJ<|CK h (λAH s' h'=>BP<|And.intro (C.quiet _) h') λ_ _ x=>x
   | (refine BJ<|HW ?_;show wpAny _ _ (standAt iter.pos >>= _) _ _ s;exact BJ<|FZ<|BJ<|CK h (λAH s' h'=>BP<|And.intro (C.quiet _) h') λ_ _ x=>x)
end
structure tD(X:Cx)(m:Sem Unit)(σ:St)(H:Hp)(Q:St->Hp->Prop):Prop where
 run:∀(pins:List<|Addr×Obj) (s:Shared),Inv X pins σ H s->wpAny (model X.prog X.w) X.A m (λ_ s'=>∃ σ' H',Inv X pins σ' H' s'/\Q σ' H') X.xe s
def oV(X:Cx)(tg:Expr)(ifs:List Expr)(inner:Sem Unit)(J:It)(after:St->Hp->Prop)(σ:St)(H:Hp):Prop:=
 ∃ W:Nat->Nat->St->Hp->Prop,(∃ m,W 0 m σ H)/\∀ i m σ' H',W i m σ' H' ->
  (J.stop i H' ∧ after σ' H') ∨ (J.go i H' ∧ ∃ N : St → Hp → Prop, (∀ σ' H', N σ' H' → ∃ m', m' < m ∧ W (i + 1) m' σ' H') ∧ ∀ x H2, J.si i H' x H2 → Eg X tg x σ' H2 λσ2 H3 => Ei X ifs σ2 H3 λb H4 =>
   if b=true then tD X inner σ2 H4 N else N σ2 H4)
theorem Lp{X:Cx}(gQ:X.xe=λ_ _=>False)(hc:X.calm=true){e:Expr}{d:Nat}{tg iter:Expr}{ifs:List Expr}{acc:Value}{inner:Sem Unit}(C:Clause e d tg iter ifs acc X.env inner){pins:List (Addr×Obj)}{σ:St}{H:Hp}{s:Shared}
  {it:Addr} {fp:List Addr} {tn:Nat->Heap->Prop} {J:It} {after:St->Hp->Prop} {R:Result->Shared->Prop} (I:Inv X pins σ H s) (T:Turn X.prog X.w X.K tg J fp it tn) (st:tn 0 s.heap) (hf:∀ b∈fp,cX X pins H b) (h:oV X tg ifs inner J after σ H)
  (hR:∀ σ' H' s',Inv X pins σ' H' s'->after σ' H'->R (.ok .next) s') :
  codeAny (model X.prog X.w) X.A (.compStart e d (.ref it) acc X.env) R s:=by
 obtain⟨W,⟨m0,w0⟩,turn⟩:=h;have stat:∀{H':Hp},(∀ b∈fp,H' b=none)->∀ b∈fp,cX X pins H' b:=λhn b hb=>⟨hn b hb,(hf b hb).2⟩;have loop:codeAny (model X.prog X.w) X.A (.compLoop e d (.ref it) acc X.env) R s:=by
  refine Vt C (λk s'=>∃ i σ' H',Inv X pins σ' H' s'/\tn i s'.heap/\(∀ b∈fp,H' b=none)/\W i k σ' H') ?_ m0 ⟨0,σ,H,I,st,λb hb=>(hf b hb).1,w0⟩;rintro k s4 ⟨i,σ4,H4,J4,Lq,Lv,w4⟩
  rcases turn i k σ4 H4 w4 with ⟨stop,qn⟩ | ⟨go,N,hN,step⟩
  ·have d1:=T.done X rfl rfl rfl hc i pins s4 σ4 H4 (λ_ _=>False) J4 (stat Lv) Lq stop;refine iZ d1 λr s5 ⟨hr,I5⟩=>?_;subst hr;exact hR _ _ _ I5 qn
  ·have d1:=T.item X rfl rfl rfl hc i pins s4 σ4 H4 (λ_ _=>False) J4 (stat Lv) Lq go;refine iZ d1 λr s5 ⟨u,hr,h5⟩=>?_;subst hr;refine iZ h5 λ_ s6 ⟨x,H6,I6,r6,y6,AI,Vv⟩=>?_;have Vw:=I6.pinned (stat Vv)<|T.obj _ _ AI;have again:∀{σ7:St} {H7:Hp} {s7:Shared},Inv X (pins++sj fp s6.heap) σ7 H7 s7->N σ7 H7->∃ m,m < k/\∃ i σ' H',Inv X pins σ' H' s7/\tn i s7.heap/\(∀ b∈fp,H' b=none)/\W i m σ' H':=λ{σ7 H7 s7} I7 n7=>by
    obtain⟨m',hm,w7⟩:=hN σ7 H7 n7;refine⟨m',hm,i+1,σ7,H7,I7.cY,T.keep _ _ _ AI λb hb o e=>(I7.pin (b,o)<|Ar _<|Ar _<|v6 hb e).1,λb hb=>?_,w7⟩;obtain⟨o,e,d⟩:=T.obj _ _ AI b hb;exact(I7.pin (b,o)<|Ar _<|Ar _<|v6 hb e).2.1
   have a1:=(step x H6 y6).run _ s6 u Vw r6;rw [gQ] at a1;refine iZ a1 λ_ s7 ⟨σ7,H7,I7,q7⟩=>?_;have a2:=q7.run _ s7 I7;rw [gQ] at a2;refine iZ a2 λok s8 ⟨H8,I8,q8⟩=>?_;cases ok with
   | false=>
    rw [BK Aq] at q8 ⊢;exact again I8 q8
   | true=>
    rw [BL rfl] at q8 ⊢;have a3:=q8.run _ s8 I8;rw [gQ] at a3;exact iZ a3 λ_ s9 ⟨σ9,H9,I9,q9⟩=>again I9 q9
 exact Vu C loop<|T.self _ 0 _ _ _ st loop
theorem Lw{X:Cx}{e:Expr}{tg iter:Expr}{ifs:List Expr}{scope:Scope}{N':List Str}{newAcc:Sem Value}{o0:Obj}{u0:Addr->HO}{n:Nat}{inner:Value->Env->Sem Unit}{pins:List (Addr×Obj)}{σ:St}{H2:Hp}{s2:Shared}{E:Value->Shared->Prop}{RR:Value->Addr->Result->Shared->Prop}{it:Addr}{fp:List Addr}{tn:Nat->Heap->Prop}{J:It}{Q:VK}
  (gs:∀(Q:Value->Shared->Prop) (E:Value->Shared->Prop) (s:Shared),Q (.ref s.heap.objs.size) {s with heap:=s.heap.push o0}->wpAny (model X.prog X.w) X.A newAcc Q E s) (jG:∀(H:Hp) (h:Heap),sysModules < h.objs.size->aH X.prog X.w H (h.push o0) h.objs.size (u0 h.objs.size))
  (hc:X.calm=true) (ck:ci X.env.scope scope X.N N') (hl:N'.length=X.N.length+n) (hC:∀ acc env,Clause e 0 tg iter ifs acc env<|inner acc env)
  (I2:Inv X pins σ H2 s2) (T:Turn X.prog X.w X.K tg J fp it tn) (iC:tn 0 s2.heap) (f2:∀ b∈fp,cX X pins H2 b)
  (q:∀ D,H2 D=none->∀ cl C s₀ H₀ ex,oV (hU X N' scope cl C s₀ H₀ ex) tg ifs (inner (.ref D)<|compEnvC scope cl C X.env) J (λ_ H'=>Q (.ref D) H') (σ++List.replicate n none)<|upd H2 D<|u0 D)
  (AJ:∀ D C H' s' m,Inv X pins σ H' s'->s'.heap.Ns C m->H' C=none->C≠X.env.locals->X.s₀.heap.objs.size<=C->(∀ x c,X.env.cells.lookup x=some c->c≠C)->(∀ p∈X.pn++pins,p.1≠C)->Q (.ref D) H'->RR (.ref D) C (.ok .next) s') :
  wpAny (model X.prog X.w) X.A newAcc (λacc s₃=>wpAny (model X.prog X.w) X.A (newFunctionEnv scope X.env.globals (cJ scope.names X.env.cells []) [] X.env.qual none .none<|some X.env) (λjL s₄=>
   codeAny (model X.prog X.w) X.A (.compStart e 0 (.ref it) acc {jL with scope:=relabel scope X.env}) (RR acc jL.locals) s₄) E s₃) E s2:=by
 refine gs _ _ _<|Vl λh₁ hns₁ old₁ hcs₁=>?_;have hD:H2 s2.heap.objs.size=none:=I2.aJ.fresh<|Ao _;have q0:=q s2.heap.objs.size hD;have fl:∀ b∈fp,b < s2.heap.objs.size:=λb hb=>by
  obtain⟨o,e,_⟩:=T.obj 0 _ iC b hb;exact Av e
 have I3:Inv X pins σ (upd H2 s2.heap.objs.size<|u0 s2.heap.objs.size) {s2 with heap:=s2.heap.push o0}:=
  I2.laid (t':=s2.toks) (λb o e=>Ai _ e) (Ao _) (jG _ _ I2.big)
 generalize wn:({s2 with heap:=s2.heap.push o0}:Shared)=s3 at I3 hns₁ old₁ hcs₁ ⊢;have Vx:s3.heap.objs.size=s2.heap.objs.size+1:=by rw [<- wn];exact Du ..
 have AK:∀ b o,s2.heap.get? b=some o->s3.heap.get? b=some o:=λb o e=>by rw [<- wn];exact Ai _ e
 have old:∀ b o,s3.heap.get? b=some o->h₁.get? b=some o:=old₁;have f3:∀ b∈fp,cX X pins (upd H2 s2.heap.objs.size<|u0 s2.heap.objs.size) b/\b < s3.heap.objs.size:=λb hb=>by
  refine⟨⟨?_,(f2 b hb).2⟩,by rw [Vx];exact Cq<|fl b hb⟩;rw [aw<|Cg<|fl b hb];exact(f2 b hb).1
 have I4:=λ(t':Nat)=>Vn (N':=N') (scope:=scope) (n:=n) (fp:=fp) (h₁:=h₁) (t':=t') I3 ck hl hns₁ old hcs₁ f3;generalize hX:hU X N' scope (cellsFrom (s3.heap.objs.size+1) scope.names<|cJ scope.names X.env.cells []) s3.heap.objs.size s3 (upd H2 s2.heap.objs.size<|u0 s2.heap.objs.size) fp=X' at I4;have eP:X'.prog=X.prog:=by rw [<- hX];rfl
 have ew:X'.w=X.w:=by rw [<- hX];rfl
 have eK:X'.K=X.K:=by rw [<- hX];rfl
 have eA:X'.A=X.A:=by rw [<- hX];rfl
 have eE:X'.env=compEnvC scope (cellsFrom (s3.heap.objs.size+1) scope.names<|cJ scope.names X.env.cells []) s3.heap.objs.size X.env:=by rw [<- hX];rfl
 have ec:X'.calm=true:=by rw [<- hX];exact hc
 have JI:X'.xe=λ_ _=>False:=by rw [<- hX];rfl
 have stat:∀{H':Hp},(∀ b∈fp,H' b=none)->∀ b∈fp,cX X' [] H' b:=λhn b hb=>by
  refine⟨hn b hb,?_,?_,?_,?_,?_⟩
  ·rw [eE];exact Cg (f3 b hb).2
  ·rw [<- hX];intro hf
   rcases Am.mp (I3.df b hf) with z | z
   ·exact(f3 b hb).1.2.1 z
   ·exact(f3 b hb).1.2.2.1 z
  ·rw [<- hX];exact .inl hb
  ·rw [eE];intro x c e
   rcases Lg e with z | z
   ·exact λk=>absurd (f3 b hb).2<|Nat.not_lt.mpr<|by rw [<- k];exact Ey z.2
   ·exact(f3 b hb).1.2.2.2.2.1 x c<|zM _ _ _ (λ_ _ z=>by simp at z) x c<|CQ z
  ·rw [<- hX];intro p hp;exact absurd hp<|by simp [hU]
 have fin:∀{σ':St} {H':Hp} {s':Shared},Inv X' [] σ' H' s'->Q (.ref s2.heap.objs.size) H'->RR (.ref s2.heap.objs.size) s3.heap.objs.size (.ok .next) s':=λ{σ' H' s'} I' q'=>by
  obtain⟨m',mz,_⟩:=id I'.loc;rw [eE] at mz;have Vy:s'.os=s3.os:=by have:=I'.os;rw [<- hX] at this;exact this
  have Vz:Un (dj X.stack) fp (upd H2 s2.heap.objs.size<|u0 s2.heap.objs.size) H' s3.heap s'.heap:=by have:=I'.base;rw [<- hX] at this;exact this
  have aJ:cg X.prog X.w H' s'.heap:=by have:=I'.aJ;rw [eP,ew] at this;exact this
  have IX:Inv X pins σ H' s':=I3.call' (ch:=fp) Vy Vz aJ I'.bare λb hb=>⟨(f3 b hb).1.2.2.2.1,(f3 b hb).1.2.1,(f3 b hb).1.2.2.2.2.1,(f3 b hb).1.2.2.2.2.2⟩;have iH:=I'.free;rw [eE] at iH;refine AJ _ _ H' s' m' IX mz iH (Dc I3.lt) I3.sz (λx c e z=>?_) (λp hp z=>?_) q'
  ·obtain⟨v,o,ho,_⟩:=I3.cell x c e;exact absurd (Av ho)<|by rw [z];exact Cu _
  ·exact absurd (Av (I3.pin p hp).1)<|by rw [z];exact Cu _
 have VA:∀ b∈fp,cX X' [] (upd H2 s2.heap.objs.size<|u0 s2.heap.objs.size) b:=stat λb hb=>(f3 b hb).1.1;have q1:oV X' tg ifs (inner (.ref s2.heap.objs.size) X'.env) J (λ_ H'=>Q (.ref s2.heap.objs.size) H') (σ++List.replicate n none) (upd H2 s2.heap.objs.size<|u0 s2.heap.objs.size):=by
  rw [eE,<- hX];exact q0 _ _ _ _ _
 have T':Turn X'.prog X'.w X'.K tg J fp it tn:=by rw [eP,ew,eK];exact T
 have fin2:=Lp (s:={s3 with heap:=h₁,toks:=s3.toks}) JI ec (hC (.ref s2.heap.objs.size) X'.env) (I4 s3.toks) T' (T.keep 0 _ _ iC λb _ o e=>old b o<|AK b o e) VA q1 (R:=RR (.ref s2.heap.objs.size) s3.heap.objs.size) λσ' H' s' I' a'=>fin I' a';rw [eP,ew,eA,eE] at fin2;exact fin2
def emit(elt:Expr)(acc:Value)(env:Env):Sem Unit:=do let _ <- call (.builtin "list.append") [acc,<- eval elt env]
section
variable{X:Cx}{elt tg iter:Expr}{ifs:List Expr}{scope:Scope}{pos:Pos}{σ:St}{H:Hp}{acc:Value}{env:Env}{N':List Str}{J:It}
theorem VB:Clause (.ListComp elt [⟨tg,iter,ifs,0⟩] scope pos) 0 tg iter ifs acc env (emit elt acc env):=⟨rfl,λ_=>rfl,λ_ _ _=>rfl,λ_ _=>rfl,λ_ _ _=>rfl,λ_ _=>rfl,λ_=>rfl⟩
theorem VC{D:Addr}{Q:St->Hp->Prop} (h:Ev X elt σ H λv H1=>∃ ys,H1 D=some (.lst ys)/\ys.length < sizeLine/\Q σ (upd H1 D<|.lst<|ys++[v])):tD X (emit elt (.ref D) X.env) σ H Q:=by
 refine⟨λpins s I=>?_⟩;unfold emit;refine BJ<|aS (h.run pins s I) λv s1 ⟨x,H1,I1,r1,ys,hy,hz,q⟩=>?_;refine BJ<|aS (KL (X:=X) _ s1 σ H1 (.ref D) [x] (.ref D) [v] (λ_ H'=>Q σ H') I1 rfl (.cons r1 .nil) ⟨_,ys,x,rfl,rfl,hy,hz,q⟩) λ_ s2 ⟨_,H2,I2,_,q2⟩=>BP ⟨σ,H2,I2,q2⟩
theorem Eg.mono{v:V}{R R':St->Hp->Prop}(h:Eg X elt v σ H R)(f:∀ σ' H',R σ' H'->R' σ' H'):Eg X elt v σ H R':=⟨λpins s u I r=>aS (h.run pins s u I r) λ_ _ ⟨σ',H',I',q⟩=>⟨σ',H',I',f _ _ q⟩⟩
theorem Ei.mono{T T':Bool->Hp->Prop}(h:Ei X ifs σ H T)(f:∀ b H',T b H'->T' b H'):Ei X ifs σ H T':=⟨λpins s I=>aS (h.run pins s I) λ_ _ ⟨H',I',q⟩=>⟨H',I',f _ _ q⟩⟩
theorem VD{D:Addr}{after:Hp->Prop}(h:mJ X N' scope tg ifs elt J D after σ H)(cl:List<|Str×Addr)(C:Addr)(s₀:Shared)(H₀:Hp)(ex:List Addr):oV (hU X N' scope cl C s₀ H₀ ex) tg ifs (emit elt (.ref D)<|compEnvC scope cl C X.env) J (λ_ H'=>after H') σ H:=by
 obtain⟨W,w0,t⟩:=h;refine⟨W,w0,λi m σ' H' w=>(t i m σ' H' w).imp id λ⟨g,N,hN,st⟩=>⟨g,N,hN,λx H2 y=>(st x H2 y cl C s₀ H₀ ex).mono λσ2 H3 h3=>(h3 cl C s₀ H₀ ex).mono λb H4 h4=>?_⟩⟩;cases b with
 | true=>
  rw [BL rfl] at h4 ⊢;exact VC (X:=hU X N' scope cl C s₀ H₀ ex)<|h4 cl C s₀ H₀ ex
 | false=>
  rw [BK Aq] at h4 ⊢;exact h4
theorem Lx{n:Nat}{pins:List (Addr×Obj)}{H2:Hp}{s2:Shared}{E:Value->Shared->Prop}{RR:Value->Addr->Result->Shared->Prop}{it:Addr}{fp:List Addr}{tn:Nat->Heap->Prop}{Q:VK}
  (hc:X.calm=true) (ck:ci X.env.scope scope X.N N') (hl:N'.length=X.N.length+n) (I2:Inv X pins σ H2 s2) (T:Turn X.prog X.w X.K tg J fp it tn) (iC:tn 0 s2.heap) (f2:∀ b∈fp,cX X pins H2 b)
  (q:∀ D,H2 D=none->mJ X N' scope tg ifs elt J D (λH'=>Q (.ref D) H') (σ++List.replicate n none) (upd H2 D<|.lst []))
  (AJ:∀ D C H' s' m,Inv X pins σ H' s'->s'.heap.Ns C m->H' C=none->C≠X.env.locals->X.s₀.heap.objs.size<=C->(∀ x c,X.env.cells.lookup x=some c->c≠C)->(∀ p∈X.pn++pins,p.1≠C)->Q (.ref D) H'->RR (.ref D) C (.ok .next) s') :
  wpAny (model X.prog X.w) X.A (newList []) (λacc s₃=>wpAny (model X.prog X.w) X.A (newFunctionEnv scope X.env.globals (cJ scope.names X.env.cells []) [] X.env.qual none .none<|some X.env) (λjL s₄=>
   codeAny (model X.prog X.w) X.A (.compStart (.ListComp elt [⟨tg,iter,ifs,0⟩] scope pos) 0 (.ref it) acc {jL with scope:=relabel scope X.env}) (RR acc jL.locals) s₄) E s₃) E s2:=
 Lw (newAcc:=newList []) (o0:={cls:= .type "list",dict:=none,data:= .seq ([]:List Value).toArray}) (u0:=λ_=> .lst []) (λ_ _ _ h=>FW h<|by show(0:Nat)<=sizeLine;exact Ci _) (λ_ _ _=>⟨Ci _,[],0,.nil,Be _ rfl⟩) hc ck hl (λ_ _=>VB) I2 T iC f2 (λD hD=>VD<|q D hD) AJ
end
section
variable{X:Cx}{elt tg iter c:Expr}{ifs:List Expr}{scope:Scope}{pos p:Pos}{wi:TI}{σ:St}{H:Hp}{Q:VK}{T:Bool->Hp->Prop}{rest:List Stmt}{D:Ends}
theorem mP(h:T true H):Ei X [] σ H T:=⟨λpins s I=>U1 pins s σ H T I h⟩
theorem wo(h:Et X c σ H T):Ei X [c] σ H T:=⟨λpins s I=>U2 lC pins s σ H T I h⟩
theorem qR(sc:Scope)(N N':List Str)(n:Nat)(hi:PI X tg iter wi)
  (h:wi σ H λJ H1=>∀ D,H1 D=none->mJ X N' scope tg ifs elt J D (λH'=>Q (.ref D) H') (σ++List.replicate n none) (upd H1 D<|.lst []))
  (hc:X.calm=true:=by rfl) (tE:X.env.scope=sc:=by rfl) (hN:X.N=N:=by rfl) (hk:tf sc scope N N'=true:=by decide +kernel) (hl:N'.length=N.length+n:=by rfl)
  (hs:∀ x,foldedSetIterable iter X.env x=pure x:=by intro _;rfl):Ev X (.ListComp elt [⟨tg,iter,ifs,0⟩] scope pos) σ H Q:=by
 refine⟨λpins s I=>?_⟩;subst tE hN;have ck:=ci.of hk;rw [eval_ListComp];refine JM (use:=none) rfl hs (zL λx hx hf=>I.ok.has x.1<|ck.free x hx hf) ck.kind ck.names (aS (hi pins s σ H _ I h) λv s1 h1=>aS h1 λqw s2 h2=>?_);obtain⟨it,fp,tn,J,H2,e,I2,T,iC,f2,q⟩:=h2;subst e;refine Lx (RR:=λacc C=>compPost (model X.prog X.w) X.A X.xe none (EP X pins σ Q) acc C) hc ck hl I2 T iC f2 q ?_;intro D C H' s' m IX hn hC c1 c2 c3 c4 qq;exact⟨m,hn,λh' hV=>⟨.ref D,H',IX.turned (t':=s'.toks) (λb o hb e=>hV.extBut b o hb e) hC (Ne.symm<|Ne.symm c1) (.inr c2) c3 c4,rfl,qq⟩⟩
theorem wq(i:Nat){y:Str}{py tF:Pos}(sc:Scope)(N N':List Str)(n:Nat)(lD:X.N.Nodup)(hi:PI X tg iter wi)
  (h:wi σ H λJ H1=>∀ A,H1 A=none->mJ X N' scope tg ifs elt J A (λH'=>Run X rest D (σ.set i<|some<|.ref A) H') (σ++List.replicate n none) (upd H1 A<|.lst []))
  (VE:X.N[i]?=some y:=by rfl) (hy:Loc X.env.scope y:=by first | exact Or.inl rfl | exact Or.inr rfl)
  (VF:swapsWith (.ListComp elt [⟨tg,iter,ifs,0⟩] scope pos) (some<|.Name y py) tF.line X.env=pure true:=by rfl)
  (hc:X.calm=true:=by rfl) (tE:X.env.scope=sc:=by rfl) (hN:X.N=N:=by rfl) (hk:tf sc scope N N'=true:=by decide +kernel) (hl:N'.length=N.length+n:=by rfl)
  (hs:∀ x,foldedSetIterable iter X.env x=pure x:=by intro _;rfl) (hf:X.fn y=true\/X.env.scope.names.lookup y=some .local:=by first | exact .inl rfl | exact .inr rfl | assumption) :
  Run X (.Assign [.Name y py] (.ListComp elt [⟨tg,iter,ifs,0⟩] scope pos) tF :: rest) D σ H:=by
 refine jI (t:=λD' σ H=>wi σ H λJ H1=>∀ A,H1 A=none->mJ X N' scope tg ifs elt J A (λH'=>D'.nx (σ.set i<|some<|.ref A) H') (σ++List.replicate n none) (upd H1 A<|.lst [])) ?_ h;intro pins s σ H D I h;subst tE hN;have ck:=ci.of hk;rw [exec_Assign_Name_used _ _ _ _ VF];refine BJ<|FZ<|BJ ?_;show wpAny _ X.A (do let _ <- comprehension (.ListComp elt [⟨tg,iter,ifs,0⟩] scope pos) scope X.env _ (newList []) false (eval iter X.env)<|some<|assign (.Name y py) X.env) _ _ s;refine BJ<|CK (JM (use:=some<|assign (.Name y py) X.env) (Q:=λ_ s'=>SP X pins D .next s') rfl hs (zL λx hx hf=>I.ok.has x.1<|ck.free x hx hf) ck.kind ck.names
  (aS (hi pins s σ H _ I h) λv s1 h1=>aS h1 λqw s2 h2=>?_)) (λ_ s' hq=>BP<|BP hq) λ_ _ e=>e
 obtain⟨it,fp,tn,J,H2,e,I2,T,iC,f2,q⟩:=h2;subst e;refine Lx (Q:=λx H1=>D.nx (σ.set i<|some x) H1) (RR:=λacc C=>compPost (model X.prog X.w) X.A X.xe (some<|assign (.Name y py) X.env) (λ_ s'=>SP X pins D .next s') acc C) hc ck hl I2 T iC f2 q ?_;intro D' C H' s' m IX hn hC c1 c2 c3 c4 qq;show wpAny _ X.A (assign (.Name y py) X.env<|.ref D') _ _ _;refine wpAny_assign_Name<|JU IX lD VE hy (v:= .ref D') rfl (λsF VG AO=>?_) hf;obtain⟨a,AO,ha⟩:=AO;have VH:C≠a:=by
  rcases ha with ha | ha
  ·rw [ha];exact c1
  ·exact Ne.symm<|c3 _ _ ha
 refine⟨m,hn.sameBut AO VH,λh' hV=>⟨_,H',VG.turned (t':=sF.toks) (λb o hb e=>hV.extBut b o hb e) hC c1 (.inr c2) c3 c4,qq⟩⟩
end
structure bB(P:Program)(w:World)(K:PySem.W.Frag)(mg:Str->Option Value)(base:Heap)(k:Nat)(x:Str)(ps:List Str)(sp:Sp):Prop where
 ex:∃ f fd,aM P w K mg base cf k f fd ps sp/\Binds K fd ps []/\PySem.W.keepIn K (.ref f)=true/\mg x=some (.ref f)
theorem bB.mono{P:Program}{w:World}{K:PySem.W.Frag}{mg:Str->Option Value}{base:Heap}{j k:Nat}{x:Str}{ps:List Str}{sp:Sp}(h:bB P w K mg base j x ps sp)(le:j<=k):bB P w K mg base k x ps sp:=
 let ⟨f,fd,F,r⟩:=h.ex;⟨f,fd,F.mono le,r⟩
theorem bY{X:Cx}{k:Nat}{ps:List Str}{sp:Sp}{x:Str}{e:Expr}{es:List Expr}{σ:St}{H:Hp}{Q:VK}{p pos:Pos}(G:bB X.prog X.w X.K X.mg X.base k x ps sp)(hr:bq k X.A)
  (h:Ea X (e :: es) σ H λvs H1=>sp vs H1 Q E0) (hg:Gl X x:=by rfl) (cZ:(x == ("__debug__" : Str))=false:=by decide) (hs:noStar (e :: es)=true:=by rfl):Ev X (.Call (.Name x p) (e :: es) [] pos) σ H Q:=
 let ⟨_,_,F,b,kp,m⟩:=G.ex;Ld F hr m kp b UC h hg cZ hs
theorem _root_.L2.bq.eN{k:Nat}{A:Around}(hr:bq k A):A.units+100 < cLine:=by have:=hr.un;omega
theorem _root_.L2.bq.u1{k:Nat}{A:Around}(hr:bq k A):A.units+1 < cLine:=by have:=hr.un;omega
def Df(K:PySem.W.Frag)(x:Str)(st:Stmt):Prop:=∃(f:Addr) (fd:FuncData),PySem.W.nsIn K mainGlobals x=some (some<|.ref f)/\bW K x x st f fd
theorem tG{K:PySem.W.Frag}{x:Str}{st:Stmt}{f:Addr}{oc kV doc pm bG ct:Value}{od an:Option Addr}{sl:Array (Option Value)}(a:PySem.W.nsIn K mainGlobals x=some (some<|.ref f))
  (l:K.lookup f=some ⟨oc,od,.func<|PySem.W.fnOf x x (mF st) (iF st) (bj st) .none kV doc pm an bG ct,sl⟩) (c:PySem.W.codeIn K bG x=true) (k:PySem.W.keepIn K (.ref f)=true):Df K x st:=⟨f,_,a,UD l c k⟩
structure qS where
 f:Addr
 bG:Value
 A:Around
 outer:List Env
 s:Shared
 H:Hp
 E:XK
def VI(N:List Str)(qual:Str)(scope:Scope)(P:Program)(w:World)(K:PySem.W.Frag)(mg:Str->Option Value)(base:Heap)(b:qS):Cx:=(dh cf P w K mg base N qual scope b.f b.bG b.A b.outer b.s b.H b.E).qu
def En(Q:VK):Ends:={nx:=λ_ H'=>Q .non H',rt:=Q}
theorem bW.gb{P:Program}{w:World}{K:PySem.W.Frag}{mg:Str->Option Value}{base:Heap}{x qual:Str}{st:Stmt}{f:Addr}{fd:FuncData}{N ps:List Str}{k:Nat}{sp:Sp}(F:bW K x qual st f fd)(S:au N ps<|bj st)(len:∀ vs H Q E,sp vs H Q E->vs.length=ps.length)
  (c5:∀(b:qS) (H:Hp) (vs:List V) (Q:VK) (E:XK),bq k (b.A.deeper<|envOfC qual (bj st) b.s.heap.objs.size b.f b.bG)->sp vs H Q E->Run (VI N qual (bj st) P w K mg base b) (iF st) (En Q) (start N vs) H):aM P w K mg base cf (k+1) f fd ps sp:=
 F.go S len λbG A outer s H vs Q E hr fN=>c5 ⟨f,bG,A,outer,s,H,E⟩ H vs Q E hr fN
theorem kE{us:List Value}{k:Nat}(h:us.length=k+1):∃ a r,us=a :: r/\r.length=k:=by
 cases us with
 | nil=>cases h
 | cons a r=>exact⟨a,r,rfl,Nat.succ.inj h⟩
theorem lE{fd:FuncData}{ps:List Str}(f:∀ a:Value,bindArgs fd ⟨[a],[]⟩=pure (ps.zip [a])):∀ us:List Value,us.length=1->bindArgs fd ⟨us,[]⟩=pure (ps.zip us):=λus h=>by
 obtain⟨a,r0,e0,h0⟩:=kE h;have z:=Bk.mp h0;subst z e0;exact f a
theorem lF{fd:FuncData}{ps:List Str}(f:∀ a b:Value,bindArgs fd ⟨[a,b],[]⟩=pure (ps.zip [a,b])):∀ us:List Value,us.length=2->bindArgs fd ⟨us,[]⟩=pure (ps.zip us):=λus h=>by
 obtain⟨a,r0,e0,h0⟩:=kE h;obtain⟨b,r1,e1,h1⟩:=kE h0;have z:=Bk.mp h1;subst z e1 e0;exact f a b
theorem tH{fd:FuncData}{ps:List Str}(f:∀ a b c:Value,bindArgs fd ⟨[a,b,c],[]⟩=pure (ps.zip [a,b,c])):∀ us:List Value,us.length=3->bindArgs fd ⟨us,[]⟩=pure (ps.zip us):=λus h=>by
 obtain⟨a,r0,e0,h0⟩:=kE h;obtain⟨b,r1,e1,h1⟩:=kE h0;obtain⟨c,r2,e2,h2⟩:=kE h1;have z:=Bk.mp h2;subst z e2 e1 e0;exact f a b c
theorem Ly{fd:FuncData}{ps:List Str}(f:∀ a b c d:Value,bindArgs fd ⟨[a,b,c,d],[]⟩=pure (ps.zip [a,b,c,d])):∀ us:List Value,us.length=4->bindArgs fd ⟨us,[]⟩=pure (ps.zip us):=λus h=>by
 obtain⟨a,r0,e0,h0⟩:=kE h;obtain⟨b,r1,e1,h1⟩:=kE h0;obtain⟨c,r2,e2,h2⟩:=kE h1;obtain⟨d,r3,e3,h3⟩:=kE h2;have z:=Bk.mp h3;subst z e3 e2 e1 e0;exact f a b c d
theorem Df.has{P:Program}{w:World}{K:PySem.W.Frag}{mg:Str->Option Value}{h base:Heap}{k:Nat}{x:Str}{st:Stmt}{ps:List Str}{sp:Sp}(d:Df K x st)(X:K.In h)(G:h.Ns mainGlobals mg)
  (hb:∀(kV doc pm:Value) (an:Option Addr) (bG ct:Value) (us:List Value),us.length=ps.length->bindArgs (PySem.W.fnOf x x (mF st) (iF st) (bj st) .none kV doc pm an bG ct) ⟨us,[]⟩=pure (ps.zip us))
  (ok:∀{f:Addr} {fd:FuncData},bW K x x st f fd->aM P w K mg base cf k f fd ps sp):bB P w K mg base k x ps sp:=
 let ⟨f,fd,a,F⟩:=d;⟨f,fd,ok F,F.binds hb,F.kp,JW X G a⟩
theorem Df.law{P:Program}{w:World}{K:PySem.W.Frag}{mg:Str->Option Value}{h:Heap}{k:Nat}{x y:Str}{st:Stmt}{sp:Sp}{fa:Addr}(d:Df K x st)(X:K.In h)(G:h.Ns mainGlobals mg)(AQ:mg x=some (.ref fa))
  (hb:∀(kV doc pm:Value) (an:Option Addr) (bG ct:Value) (s:Shared) (v:Value),BindsTo s (PySem.W.fnOf x x (mF st) (iF st) (bj st) .none kV doc pm an bG ct) ⟨[v],[]⟩ [(y,v)])
  (ok:∀(base:Heap) {f:Addr} {fd:FuncData},bW K x x st f fd->aM P w K mg base cf k f fd [y] sp) :
  ∃ fd:FuncData,(∀(s:Shared) (v:Value),BindsTo s fd ⟨[v],[]⟩ [(y,v)])/\∀ base:Heap,K.In base->base.Ns mainGlobals mg->aM P w K mg base cf k fa fd [y] sp:=by
 obtain⟨f,fd,a,F⟩:=d;have e:=AQ.symm.trans<|JW X G a;cases e;obtain⟨oc,od,kV,doc,pm,an,bG,ct,kB,rfl,lk,iA⟩:=id F.ex;exact⟨_,hb kV doc pm an bG ct,λbase _ _=>ok base F⟩
end L2
namespace b6
open PySem
def eO(w:World):Bool:=w.params.followText "set-order"
def keyOf(e:Int×Value):Str:=match e.2 with
 | .str x _=>x
 | _=>⟨#[]⟩
section
variable(prog:Program)(w:World)
def AT(e:Int×Value):Prop:=∃ z t,e=((strKind prog w).hash z,Value.str z t)
structure Tab(es:Array<|Int×Value)(t:SetTable)(zs:List Str):Prop where
 elts:∀ e∈es.toList,AT prog w e
 keys:(es.toList.map keyOf).Perm zs
 nodup:zs.Nodup
 few:zs.length < 1000
 fits:t.fits es.size=true
 led:t.led = !eO w
 plain:es=#[]\/t.plain=false
def bL(h:Heap)(a:Addr)(zs:List Str):Prop:=∃ o es ep t,h.get? a=some o/\o.ExactSet/\o.data = .set es ep t/\Tab prog w es t zs
end
section
variable{prog:Program}{w:World}{es:Array (Int×Value)}{t:SetTable}{zs:List Str}{h h':Heap}{a:Addr}
theorem Tab.elems(T:Tab prog w es t zs):ElemsOf (strKind prog w) es.toList:=λe he=>by
 obtain⟨z,u,rfl⟩:=T.elts e he;exact⟨⟨z,strKind_is _ _ _ _,rfl⟩,rfl⟩
theorem Tab.size(T:Tab prog w es t zs):es.size=zs.length:=by
 have:=T.keys.length_eq;rw [Aa,Co] at this;exact this
theorem Tab.jM(T:Tab prog w es t zs):es.size < 1000:=by rw [T.size];exact T.few
theorem Tab.scan(T:Tab prog w es t zs):es.size < scanBound:=by have:=T.jM;unfold scanBound;omega
theorem Tab.perm{fZ:Array (Int×Value)}{t':SetTable}(T:Tab prog w es t zs)(p:fZ.toList.Perm es.toList)(hf:t'.fits fZ.size=true)(hl:t'.led=t.led)(hp:fZ=#[]\/t'.plain=false):Tab prog w fZ t' zs:=
 ⟨λe he=>T.elts e<|p.mem_iff.mp he,(p.map keyOf).trans T.keys,T.nodup,T.few,hf,hl.trans T.led,hp⟩
theorem bL.keep(S:bL prog w h a zs)(k:∀ o,h.get? a=some o->h'.get? a=some o):bL prog w h' a zs:=let ⟨o,es,ep,t,h1,h2⟩:=S;⟨o,es,ep,t,k o h1,h2⟩
theorem Lz{o:Obj}{ep:Nat}{fZ:Array (Int×Value)}{t':SetTable}{LD:List Str}(ho:h.get? a=some o)(hx:o.ExactSet)(hd:o.data = .set es ep t)(T':Tab prog w fZ t' LD) :
  (h.update a<|Obj.putSet fZ t').get? a=some {o with data:= .set fZ (ep+1) t'}/\bL prog w (h.update a<|Obj.putSet fZ t') a LD:=by
 have q:=Cs (Obj.putSet fZ t') ho (by rw [putSet_of fZ t' hd];rfl);rw [putSet_of fZ t' hd] at q;exact⟨q,_,fZ,ep+1,t',q,hx,rfl,T'⟩
theorem AU{e:Int×Value}(he:AT prog w e)(z:Str):(strKind prog w).is z e.2=decide (z=keyOf e):=by
 obtain⟨y,u,rfl⟩:=he;exact KeyKind.is_eq_decide (strKind_is prog w y u) z
theorem find_none(T:Tab prog w es t zs){z:Str}(hz:z∉zs):es.toList.findIdx? (λe=>(strKind prog w).is z e.2)=none:=by
 rw [List.findIdx?_eq_none_iff];intro e he;rw [AU<|T.elts e he,QX];rintro rfl;exact hz<|T.keys.mem_iff.mp<|List.mem_map_of_mem he
theorem find_some(T:Tab prog w es t zs){z:Str}(hz:z∈zs):∃ j,∃ hj:j < es.toList.length,es.toList.findIdx? (λe=>(strKind prog w).is z e.2)=some j/\keyOf es.toList[j]=z:=by
 obtain⟨e,he,e2⟩:=Aj.mp<|T.keys.mem_iff.mpr hz;cases q:es.toList.findIdx? (λe=>(strKind prog w).is z e.2) with
 | none=>
  have:=List.findIdx?_eq_none_iff.mp q e he;rw [AU<|T.elts e he,QX] at this;exact absurd e2.symm this
 | some j=>
  obtain⟨hj,p,_⟩:=List.findIdx?_eq_some_iff_getElem.mp q;rw [AU<|T.elts _<|Ay hj,CN] at p;exact⟨j,hj,rfl,p.symm⟩
theorem VJ(t:SetTable)(n:Nat):(t.orStandIn n).led=t.led/\((t.orStandIn n).plain=true->t.plain=true):=by
 unfold SetTable.orStandIn
 split
 ·exact⟨rfl,id⟩
 ·exact⟨rfl,λh=>by cases h⟩
theorem VL(t:SetTable)(es:Array<|Int×Value)(x:Int)(v:Value):(layNew t es x v).2.1.led=t.led:=by
 unfold layNew
 split
 ·exact(VJ _ _).1
 ·rfl
theorem VM{mask f m:Nat}{l p:Bool}{hs:Array Int}{t':SetTable}{o:Array Nat}(e:SetTable.laid mask f m l p hs=some (t',o)):t'.led=l/\t'.plain=p:=by
 unfold SetTable.laid at e;cases c:SetTable.layClean mask hs with
 | none=>rw [c] at e;cases e
 | some ow=>rw [c] at e;cases e;exact⟨rfl,rfl⟩
theorem LI(t:SetTable)(es:Array<|Int×Value)(n:Nat)(hp:t.plain=false):(relayAll t es n).2.1.led=t.led/\(relayAll t es n).2.1.plain=false:=by
 unfold relayAll
 split
 ·rename_i t' o e;have q:=VM e
  dsimp only
  split
  ·exact⟨q.1,q.2.trans hp⟩
  ·exact⟨rfl,rfl⟩
 ·exact⟨rfl,rfl⟩
end
section
variable{prog:Program}{w:World}{A:Around}{E:Value->Shared->Prop}{s:Shared}{a:Addr}{zs:List Str}
theorem oW{n:Nat}(h:n < 1001):n<=sizeLine:=by rw [CV];omega
theorem LJ{g:Bool->Sem Unit}(hg:∀(b:Bool) (s₁:Shared) (Q':Unit->Shared->Prop),Q' () s₁->wpAny (model prog w) A (g b) Q' E s₁)
  {o:Obj} {es:Array (Int×Value)} {ep:Nat} {t:SetTable} (ho:s.heap.get? a=some o) (hx:o.ExactSet) (hd:o.data = .set es ep t)
  {fT:Array (Int×Value)} {t2:SetTable} (T:Tab prog w fT t2 zs) (hp:t2.plain=false) {c:Bool} {R:Option Bool->Shared->Prop}
  (k:∀ h',Heap.SameBut a s.heap h'->bL prog w h' a zs->R (some true) {s with heap:=h'}) :
  wpAny (model prog w) A (do
   storeSet a fT t2
   if c=true then do
     g (relayAll t2 fT<|SetTable.grown fT.size).2.2
     storeSet a (relayAll t2 fT<|SetTable.grown fT.size).1 (relayAll t2 fT<|SetTable.grown fT.size).2.1
     pure (some true)
    else pure (some true)) R E s:=by
 refine BJ<|wpAny_storeSet_of ho hd ?_<|oW<|Cq T.jM;obtain⟨q1,q2⟩:=Lz ho hx hd T;have sb:=DQ s.heap a<|Obj.putSet fT t2;cases c with
 | false=>exact BP<|k _ sb q2
 | true=>
  have p:=relayAll_perm t2 fT<|SetTable.grown fT.size;have T3:=T.perm p (relayAll_fits t2 fT<|SetTable.grown fT.size) (LI t2 fT _ hp).1<|.inr (LI t2 fT _ hp).2;refine BJ<|hg _ _ _ ?_;refine BJ<|wpAny_storeSet_of q1 rfl ?_ (oW<|Cq T3.jM);exact BP<|k _ (sb.trans<|DQ _ a _) (Lz q1 hx rfl T3).2
def added(zs:List Str)(z:Str):List Str:=if z∈zs then zs else zs++[z]
theorem VN{z:Str}{tk:Tok}{Q:Bool->Shared->Prop}(S:bL prog w s.heap a zs)(hb:zs.length+1 < 1000)
  (k:∀(b:Bool) h',Heap.SameBut a s.heap h'->bL prog w h' a (added zs z)->Q b {s with heap:=h'}) :
  wpAny (model prog w) A (setAddHashed a (.str z tk)<|(strKind prog w).hash z) Q E s:=by
 obtain⟨o,es,ep,t,ho,hx,hd,T⟩:=S;unfold setAddHashed setAddHashedIn;refine CP<|BJ<|DX ho hd T.fits ?_
 dsimp only
 rw [byScan_of (knd:=strKind prog w) (x:= .str z tk) rfl T.scan T.elems];simp only [↓reduceIte];unfold setAddByScan;refine BJ<|BJ<|HW<|BJ<|wpAny_setScan_of (knd:=strKind prog w) (k:=z) (strKind_is _ _ _ _) ho hd T.fits T.elems ?_
 by_cases hz:z∈zs
 ·obtain⟨j,hj,e,_⟩:=find_some T hz;rw [e]
  dsimp only
  refine BP<|BP<|k false s.heap (Heap.SameBut.refl a s.heap) ?_;unfold added;rw [BL hz];exact⟨o,es,ep,t,ho,hx,hd,T⟩
 ·rw [find_none T hz]
  dsimp only
  have gw:∀(b:Bool) (s₁:Shared) (Q':Unit->Shared->Prop),Q' () s₁->wpAny (model prog w) A (match b with | true=>rule "set.scan.the-table-gave-way" | false=>pure ()) Q' E s₁:=
   λb s₁ Q' q=>by cases b <;> first | exact BP q | exact HW q
  have p:=layNew_perm t es ((strKind prog w).hash z)<|.str z tk;have f:=layNew_fits t es ((strKind prog w).hash z)<|.str z tk;have l:=VL t es ((strKind prog w).hash z)<|.str z tk;generalize layNew t es ((strKind prog w).hash z) (.str z tk)=L at p f l ⊢;obtain⟨fT,t1,wd,gv⟩:=L
  dsimp only at p f l ⊢
  rw [Array.toList_push] at p;have tab:∀ t2:SetTable,t2.fits fT.size=true->t2.led=t1.led->t2.plain=false->Tab prog w fT t2 (zs++[z]):=λt2 h1 h2 h3=>{
   elts:=λe he=>by
    rcases Ap.mp (p.mem_iff.mp he) with he | he
    ·exact T.elts e he
    ·exact⟨z,tk,Ae.mp he⟩
   keys:=by
    refine(p.map keyOf).trans ?_;rw [Al];exact T.keys.append<|List.Perm.refl _
   nodup:=by
    rw [Ce];refine⟨T.nodup,by simp,λx hx y hy e=>?_⟩;rw [Ae] at hy;subst hy e;exact hz hx
   few:=by rw [Ah];exact hb
   fits:=h1
   led:=h2.trans<|l.trans T.led
   plain:= .inr h3}
  have fin:∀ h',Heap.SameBut a s.heap h'->bL prog w h' a (zs++[z])->Q true {s with heap:=h'}:=λh' q1 q2=>k true h' q1 (by unfold added;rw [BK hz];exact q2);refine BJ<|gw _ _ _ ?_
  split
  ·rename_i hp;refine BJ ?_;rw [hashByValue_scannable 8 rfl];refine BP ?_;refine LJ gw ho hx hd (tab {t1 with plain:=false} (SetTable.fits_plain_off f) rfl rfl) rfl λh' q1 q2=>?_
   dsimp only
   exact BP<|fin h' q1 q2
  ·rename_i hp;refine BJ<|BP ?_;simp only [↓reduceIte];refine LJ gw ho hx hd (tab t1 f rfl (Ez.mpr hp)) (Ez.mpr hp) λh' q1 q2=>?_
   dsimp only
   exact BP<|fin h' q1 q2
theorem bZ{α:Type}:∀(l:List α) (j:Nat) (hj:j < l.length),(l[j] :: l.eraseIdx j).Perm l
 | [],_,h=>by simp at h
 | x :: r,0,_=>List.Perm.refl _
 | x :: r,j+1,h=>(List.Perm.swap x _ _).trans<|(bZ r j<|Gi h).cons x
theorem LN{α:Type}(next:Nat->Nat):∀(fuel k:Nat) (left:List α) (out:Array α),left.length<=fuel->(pickOrder.go next fuel k left out).toList.Perm (out.toList++left)
 | 0,k,left,out,h=>by
  have:left=[]:=Bk.mp (by omega);subst this;unfold pickOrder.go;simp
 | fuel+1,k,left,out,h=>by
  unfold pickOrder.go;cases e:left[next k % left.length]? with
  | none=>
   have:left=[]:=by
    cases left with
    | nil=>rfl
    | cons x r=>
     have hl:next k % (x :: r).length < (x :: r).length:=Nat.mod_lt _ (by simp);rw [Ab hl] at e;cases e
   subst this;simp
  | some x=>
   dsimp only
   obtain⟨hl,e2⟩:=Ad.mp e;refine(LN next fuel (k+1) _ _ (by rw [Dr,BL hl];omega)).trans ?_;rw [Array.toList_push,At];refine List.Perm.append_left _ ?_;have:=bZ left _ hl;rw [e2] at this;exact this
theorem VO{α:Type}(next:Nat->Nat)(xs:Array α):(pickOrder next xs).toList.Perm xs.toList:=by
 have:=LN next xs.size 0 xs.toList #[] (by simp)
 simpa [pickOrder] using this
theorem wp_choose{src:Source}{n:Nat}{Q:Nat->Shared->Prop}(hn:n≠0)(h:∀ i d,i < n->Q i {s with drawn:=d}):wpAny (model prog w) A (choose src n) Q E s:=
 λΓ p _=>⟨hn,h _ _<|Nat.mod_lt _<|Nat.pos_of_ne_zero hn⟩
theorem LO{α:Type}:∀(n:Nat) (xs:List α) (s:Shared) (Q:List α->Shared->Prop),xs.length<=n->(∀ ys d,ys.Perm xs->Q ys {s with drawn:=d})->wpAny (model prog w) A (drawOrder n xs) Q E s
 | 0,xs,s,Q,h,k=>by
  have:xs=[]:=Bk.mp (by omega);subst this;unfold drawOrder;exact BP<|k [] s.drawn<|List.Perm.refl _
 | n+1,[],s,Q,h,k=>by
  unfold drawOrder;exact BP<|k [] s.drawn<|List.Perm.refl _
 | n+1,x :: r,s,Q,h,k=>by
  unfold drawOrder;refine BJ (wp_choose (by simp) λi d hi=>?_);rw [Ab hi]
  dsimp only
  refine BJ (LO n _ _ _ (by rw [Dr,BL hi];omega) λys d2 p=>?_);exact BP<|k _ d2<|(p.cons _).trans<|bZ _ i hi
theorem wp_text{Q:Bool->Shared->Prop}(k:Q (eO w) s):wpAny (model prog w) A setsByText Q E s:=by
 unfold setsByText;exact BJ<|JX<|BP k
variable{o:Obj}{es:Array (Int×Value)}{ep:Nat}{t:SetTable}
end
open Builtin.Frozenset
section
variable{prog:Program}{w:World}{A:Around}{E:Value->Shared->Prop}{s:Shared}{a:Addr}{zs:List Str}
structure oX(w:World)(t:SetTable):Prop where
 place:t.place=#[]
 dummies:t.dummies=#[]
 led:t.led = !eO w
 plain:t.plain=true
theorem oX.tab{t:SetTable}(B:oX w t):Tab prog w #[] t []:=
 ⟨λe he=>by simp at he,by simp,Db,by decide,by unfold SetTable.fits SetTable.fill;rw [B.place,B.dummies];simp,B.led,.inl rfl⟩
variable{o:Obj}{ep:Nat}{t:SetTable}
end
section
variable{prog:Program}{w:World}{A:Around}{E:Value->Shared->Prop}{s:Shared}{a r:Addr}{za zr:List Str}
end
section
variable{prog:Program}{w:World}{A:Around}{E:Value->Shared->Prop}{s:Shared}
def AV(w:World):Obj:={cls:= .type "set",dict:=none,data:= .set #[] 0 (.fresh 0 0 (!eO w))}
theorem VP{h:Heap}{a:Addr}(e:h.get? a=some (AV w)):bL prog w h a []:=⟨_,_,_,_,e,⟨rfl,rfl,rfl⟩,rfl,oX.tab ⟨rfl,rfl,rfl,rfl⟩⟩
variable{R:Result->Shared->Prop}{I:Addr}{fp wr:List Addr}{G:Array GenState->Array GenState->Prop}{n:Nat}{P:Nat->Value->Prop}{St:Nat->Shared->Prop}
end
theorem slot_next:Slot "set_iterator" "__next__" "set_iterator.__next__":=
 .of (owner:= "set_iterator") (n:= "__next__") (by rw [RM,KD];kernel_rfl) (by decide +kernel) (by decide +kernel) (by decide +kernel)
  (by first | exact .inl (by decide +kernel) | exact .inr<|by decide +kernel) (by rw [isSubtype_type];kernel_rfl)
theorem entry_next:entryFor table "set_iterator.__next__" = some Builtin.«set_iterator.__next__»:=entryFor_of_fast<|by kernel_rfl
theorem args_next(a:Value):argsOk "set_iterator.__next__" ⟨[a],[]⟩:=by unfold argsOk;kernel_rfl
theorem VQ:entryFor table "set.__iter__" = some Builtin.«frozenset.__iter__»:=
 entryFor_alias (id':= "frozenset.__iter__") (by kernel_rfl) rfl (by decide +kernel) (by kernel_rfl)
def kF(first:Value)(i:Nat)(a:Addr)(n ep:Nat):Obj:={cls:= .type "set_iterator",data:= .fields #[first,.int i 0,.ref a,.int n 0,.int ep 0]}
def fv(ys:List Nat):Obj:={cls:= .type "tuple",data:= .seq (ys.map λ(i:Nat)=>rawInt i).toArray}
inductive Way (w:World) (h:Heap) (a tp:Addr) (es:Array<|Int×Value) (ep:Nat) (t:SetTable) (ws:List<|Int×Value) (i:Nat):Value->Prop where
 | drawn (ys:List Nat) (ht:h.get? tp=some (fv ys)) (hl:ys.length=es.size) (hw:∀ j:Nat,∀ y,ys[j]?=some y->es[y]?=ws[j]?):Way w h a tp es ep t ws i<|.ref tp
 | text (c:Int) (hb:eO w=true) (hw:ws=(pickOrder (w.params.setOrder a ep) es).toList):Way w h a tp es ep t ws i<|.int c 0
 | one (c:Nat) (hb:eO w=false) (hs:es.size<=1) (hw:ws=es.toList) (hc:SetTable.below t.place c=i):Way w h a tp es ep t ws i<|.int c 0
section
variable{prog:Program}{w:World}{A:Around}{E:Value->Shared->Prop}{s:Shared}{a tp it:Addr}{zs:List Str}{o:Obj}{es:Array (Int×Value)}{ep:Nat}{t:SetTable}{ws:List (Int×Value)}{i:Nat}{first:Value}
theorem LU(j c:Nat):SetTable.below #[j] c=if j < c then 1 else 0:=by
 unfold SetTable.below;show SetTable.below.go #[j] c 1 0 1=_;unfold SetTable.below.go;simp only [Nat.zero_lt_one,DW];show(if(#[j]:Array Nat).getD 0 c < c then SetTable.below.go #[j] c 0 1 1 else SetTable.below.go #[j] c 0 0 0)=_;rw [show(#[j]:Array Nat).getD 0 c=j by rfl]
 split <;> rfl
theorem Way.keep{h h':Heap}(W:Way w h a tp es ep t ws i first)(k:∀ o,h.get? tp=some o->h'.get? tp=some o):Way w h' a tp es ep t ws i first:=by
 cases W with
 | drawn ys ht hl hw=>exact .drawn ys (k _ ht) hl hw
 | text c hb hw=>exact .text c hb hw
 | one c hb hs hw hc=>exact .one c hb hs hw hc
theorem tI{h:Heap}{n:Nat}(x:Value)(e:h.get? it=some (kF first i a n ep)):(h.update it (Obj.mapFields (·.setIfInBounds 0 x))).get? it=some (kF x i a n ep):=Cs _ e rfl
theorem up1{h:Heap}{n:Nat}(e:h.get? it=some (kF first i a n ep)):(h.update it (Obj.mapFields (·.setIfInBounds 1 (rawInt<|(i:Int)+1)))).get? it=some (kF first (i+1) a n ep):=Cs _ e rfl
theorem LV{p:Array Nat}(h:p.size=1):∃ j,p=#[j]:=by
 obtain⟨l⟩:=p
 match l,h with
 | [j],_=>exact⟨j,rfl⟩
theorem LW(T:Tab prog w es t zs):t.place.size=es.size:=by
 have:=T.fits;unfold SetTable.fits at this;rw [Cf,beq_iff_eq] at this;exact this.1
theorem VR{Q:Option Value->Shared->Prop}(hi:s.heap.get? it=some (kF first i a es.size ep))(ho:s.heap.get? a=some o)(hd:o.data = .set es ep t)(T:Tab prog w es t zs)(hW:Way w s.heap a tp es ep t ws i first)
  (a7:tp≠it) (hp:ws.Perm es.toList) {e:Int×Value} (he:ws[i]?=some e) (k:∀ h' jN,Heap.SameBut it s.heap h'->h'.get? it=some (kF jN (i+1) a es.size ep)->Way w h' a tp es ep t ws (i+1) jN->Q (some e.2) {s with heap:=h'}) :
  wpAny (model prog w) A (pyNext<|.ref it) Q E s:=by
 have hT:s.TypeIs (.ref it) "set_iterator":=⟨_,hi,rfl⟩;unfold pyNext;refine BJ<|wpAny_attempt<|wpAny_callSpecial?_slot (name:=Str.ofString "__next__") hT slot_next<|FQ slot_next hT entry_next ?_<|args_next _;unfold Builtin.«set_iterator.__next__»;refine BJ<|BP ?_;refine BJ<|wpAny_fieldsOf hi rfl ?_
 dsimp only
 refine BJ<|LC ho hd T.fits ?_;rw [BK<|by simp];have LX:∀ x,Heap.SameBut it s.heap ((s.heap.update it (Obj.mapFields (·.setIfInBounds 0 x))).update it (Obj.mapFields (·.setIfInBounds 1 (rawInt<|(i:Int)+1)))):=λx=>(DQ ..).trans<|DQ ..;have wu:i < es.size:=by
  have h1:ws.length=es.size:=by simpa using hp.length_eq
  rcases Fa i ws.length with h | h
  ·omega
  ·rw [Br h] at he;cases he
 have LY:Heap.SameBut it s.heap (s.heap.update it (Obj.mapFields (·.setIfInBounds 1 (rawInt<|(i:Int)+1)))):=DQ ..;cases hW with
 | drawn ys ht hl hw=>
  dsimp only
  have hy:ys[i]?=some (ys[i]'(by omega)):=Ab _;generalize ys[i]'(by omega)=y at hy;refine BJ<|JB ht rfl ?_
  dsimp only
  have e1:(ys.map λ(i:Nat)=>rawInt i).toArray[(i:Int).toNat]?=some (.int y 0):=by
   rw [Bx,RW,Ag,hy];rfl
  rw [e1]
  dsimp only
  unfold setNextDrawn;refine BJ<|BJ<|DX ho hd T.fits ?_
  dsimp only
  rw [BK<|by simp];have e2:es[(y:Int).toNat]?=some e:=by
   rw [Bx,hw i y hy];exact he
  rw [e2]
  dsimp only
  refine BP (BJ<|DG hi rfl (by simp) ?_);refine BP ⟨_,rfl,BP<|k _ _ LY (up1 hi)<|.drawn ys ?_ hl hw⟩;rw [LY.2 tp a7];exact ht
 | text c hb hw=>
  dsimp only
  unfold setNext;refine BJ<|BJ<|DX ho hd T.fits ?_
  dsimp only
  refine BJ<|wp_text ?_;rw [hb];simp only [DW];rw [BK<|by simp];unfold setWalk;refine BJ<|BJ<|DX ho hd T.fits ?_
  dsimp only
  refine BJ<|wp_text ?_;rw [hb];simp only [DW];refine BJ<|JX ?_;refine BP ?_;have e1:(pickOrder ((model prog w).w.params.setOrder a ep) es)[(i:Int).toNat]?=some e:=by
   rw [Bx,<- Bz];show(pickOrder (w.params.setOrder a ep) es).toList[i]?=_;rw [<- hw];exact he
  rw [e1];refine BP ?_
  dsimp only [Option.map]
  refine BJ (DG hi rfl (by simp) ?_);refine BJ (DG (tI _ hi) rfl (by simp) ?_);exact BP ⟨_,rfl,BP<|k _ _ (LX _) (up1<|tI _ hi)<|.text _ hb hw⟩
 | one c hb hs hw hc=>
  have VS:i=0:=by omega
  have gR:es.size=1:=by omega
  subst VS;have LZ:t.place.size=1:=(LW T).trans gR;obtain⟨j,hj⟩:=LV LZ
  dsimp only
  unfold setNext;refine BJ<|BJ<|DX ho hd T.fits ?_
  dsimp only
  refine BJ<|wp_text ?_;rw [hb];simp only [Cc,CW];show wpAny _ _ (if(!t.plain && decide (es.size > 1))=true then _ else _) _ _ _;rw [BK<|by rw [gR];simp];refine BJ ?_;show wpAny _ _ (if(!t.led && !es.isEmpty)=true then _ else _) _ _ _;rw [BK<|by rw [T.led,hb];simp];refine BP ?_;rw [Bx,hc];have e1:es[0]?=some e:=by
   rw [<- Bz,<- hw];exact he
  have e2:t.place[0]?=some j:=by rw [hj];rfl
  rw [e1,e2];refine BP ?_
  dsimp only
  refine BJ (DG hi rfl (by simp) ?_);refine BJ (DG (tI _ hi) rfl (by simp) ?_);refine BP ⟨_,rfl,BP<|k _ _ (LX _) (up1<|tI _ hi)<|.one (j+1) hb hs hw ?_⟩;rw [hj,LU,BL<|Gp _]
theorem VU{Q:Option Value->Shared->Prop}(hh:A.handled=none)(hi:s.heap.get? it=some (kF first i a es.size ep))(ho:s.heap.get? a=some o)(hd:o.data = .set es ep t)(T:Tab prog w es t zs)(hW:Way w s.heap a tp es ep t ws i first)
  (hp:ws.Perm es.toList) (he:i=es.size) (k:∀ h',Heap.ExtBut it s.heap h'->Q none {s with heap:=h'}) :
  wpAny (model prog w) A (pyNext<|.ref it) Q E s:=by
 have hT:s.TypeIs (.ref it) "set_iterator":=⟨_,hi,rfl⟩;have wl:ws.length=es.size:=by simpa using hp.length_eq
 unfold pyNext;refine BJ<|wpAny_attempt<|wpAny_callSpecial?_slot (name:=Str.ofString "__next__") hT slot_next<|FQ slot_next hT entry_next ?_<|args_next _;unfold Builtin.«set_iterator.__next__»;refine BJ<|BP ?_;refine BJ<|wpAny_fieldsOf hi rfl ?_
 dsimp only
 refine BJ<|LC ho hd T.fits ?_;rw [BK<|by simp];have fin:∀ h2:Heap,Heap.SameBut it s.heap h2->wpAny (model prog w) A.in1 (newExc (Value.type "StopIteration") [] >>= λx=>(raiseNew x:Sem Fin)) (λfin s'=>∃ v,fin=Fin.done (Flow.ret v)/\wpAny (model prog w) A (pure<|some v) Q E s')
   (λe s'=>wpAny (model prog w) A (isInstance e (Value.type "StopIteration") >>= λb=>if b=true then pure none else throw e) Q E s') {s with heap:=h2}:=by
  intro h2 sb;refine BJ ?_;simp only [newExc,newTuple];refine BJ (FW ?_<|by size_fits);refine BJ (m:=firstArgMember _ _) (wpAny_of_eq (a:=Value.none) (by first | rfl | (simp only [firstArgMember];rfl)) ?_);refine FW ?_ (by size_fits);simp only [raiseNew];refine BJ<|wpAny_handled ?_;rw [show A.in1.handled=none from hh];refine BJ<|BP<|wpAny_throw ?_;refine BJ<|wpAny_isInstance (T:= "StopIteration") (b:=true) ⟨_,Be _ rfl,rfl⟩ isSubtype_stop ?_;exact BP<|k _<|(sb.extBut.push _).push _
 cases hW with
 | drawn ys ht hl hw=>
  dsimp only
  refine BJ<|JB ht rfl ?_
  dsimp only
  have e1:(ys.map λ(i:Nat)=>rawInt i).toArray[(i:Int).toNat]?=none:=by
   rw [Bx,RW,Br];rw [Aa];omega
  rw [e1]
  dsimp only
  refine BJ (DG hi rfl (by simp) ?_);refine BJ (DG (tI _ hi) rfl (by simp) ?_);exact fin _<|(DQ ..).trans<|DQ ..
 | text c hb hw=>
  dsimp only
  unfold setNext;refine BJ<|BJ<|DX ho hd T.fits ?_
  dsimp only
  refine BJ<|wp_text ?_;rw [hb];simp only [DW];rw [BK<|by simp];unfold setWalk;refine BJ<|BJ<|DX ho hd T.fits ?_
  dsimp only
  refine BJ<|wp_text ?_;rw [hb];simp only [DW];refine BJ<|JX ?_;refine BP ?_;have e1:(pickOrder ((model prog w).w.params.setOrder a ep) es)[(i:Int).toNat]?=none:=by
   rw [Bx,<- Bz];show(pickOrder (w.params.setOrder a ep) es).toList[i]?=_;rw [<- hw,Br];omega
  rw [e1];refine BP ?_
  dsimp only [Option.map]
  refine BJ (DG hi rfl (by simp) ?_);exact fin _<|DQ ..
 | one c hb hs hw hc=>
  dsimp only
  unfold setNext;refine BJ<|BJ<|DX ho hd T.fits ?_
  dsimp only
  refine BJ<|wp_text ?_;rw [hb];simp only [Cc,CW];show wpAny _ _ (if(!t.plain && decide (es.size > 1))=true then _ else _) _ _ _;rw [BK<|by rw [BW<|by omega];simp];refine BJ ?_;show wpAny _ _ (if(!t.led && !es.isEmpty)=true then _ else _) _ _ _;rw [BK<|by rw [T.led,hb];simp];refine BP ?_;rw [Bx,hc];have e1:es[i]?=none:=Array.getElem?_eq_none (by omega);rw [e1];refine BP ?_
  dsimp only
  refine BJ (DG hi rfl (by simp) ?_);exact fin _<|DQ ..
open PySem.Spec
theorem L0:Slot "set_iterator" "__iter__" "set_iterator.__iter__":=
 .of (owner:= "set_iterator") (n:= "__iter__") (by rw [RM,KD];kernel_rfl) (by decide +kernel) (by decide +kernel) (by decide +kernel)
  (by first | exact .inl (by decide +kernel) | exact .inr<|by decide +kernel) (by rw [isSubtype_type];kernel_rfl)
theorem VV:entryFor table "set_iterator.__iter__" = some Builtin.«dict_keyiterator.__iter__»:=
 entryFor_alias (id':= "dict_keyiterator.__iter__") (by kernel_rfl) rfl (by decide +kernel) (by kernel_rfl)
theorem VW(a:Value):argsOk "set_iterator.__iter__" ⟨[a],[]⟩:=by unfold argsOk;kernel_rfl
theorem VX(hh:A.handled=none)(h1:a≠it)(h2:tp≠it)(hd:o.data = .set es ep t)(T:Tab prog w es t zs)(hp:ws.Perm es.toList) :
  Walks prog w A it [it,a,tp] [it] es.size (λi v=>∃ e,ws[i]?=some e/\v=e.2) (λi h=>∃ first,h.get? it=some (kF first i a es.size ep)/\h.get? a=some o/\Way w h a tp es ep t ws i first) where
 sub:=λb hb=>by simp at hb;simp [hb]
 frame:=λi h h' ⟨first,q1,q2,q3⟩ k=>⟨first,k it (by simp) _ q1,k a (by simp) _ q2,q3.keep<|k tp<|by simp⟩
 item:=λi s Q E hi ⟨first,q1,q2,q3⟩ k=>by
  have wl:ws.length=es.size:=by simpa using hp.length_eq
  obtain⟨e,he⟩:∃ e,ws[i]?=some e:=⟨ws[i]'(by omega),Ab _⟩;refine VR q1 q2 hd T q3 h2 hp he λh' f' sb g1 g2=>?_;exact k _ h' s.toks ⟨e,he,rfl⟩ ⟨f',g1,by rw [sb.2 a h1];exact q2,g2⟩ λb o hb e=>by rw [sb.2 b λh=>hb<|by simp [h]];exact e
 done:=λs Q E ⟨first,q1,q2,q3⟩ k=>VU hh q1 q2 hd T q3 hp rfl λh' e=>k h' s.toks λb o hb e2=>e b o (λh=>hb<|by simp [h]) e2
 self:=λi s Q E ⟨first,q1,q2,q3⟩ k=>by
  have hT:s.TypeIs (.ref it) "set_iterator":=⟨_,q1,rfl⟩;refine wpAny_pyIter_slot hT L0<|FQ L0 hT VV ?_<|VW _;show wpAny _ _ (ret<|.ref it) _ _ s;exact BP ⟨_,rfl,"set_iterator",_,hT,slot_next.lookup,k⟩
theorem VY(es:Array<|Int×Value):(List.range es.size).map (λy=>(es[y]?).getD (0,Value.none))=es.toList:=by
 refine El (by simp) λj h1 h2=>?_;rw [By,Em];have:j < es.size:=by simpa using h2
 rw [PJ this];simp
theorem VZ{Q:Value->Shared->Prop}(ho:s.heap.get? a=some o)(hx:o.ExactSet)(hd:o.data = .set es ep t)(T:Tab prog w es t zs)
  (k:∀ h' d it tp ws first,(∀ b u,s.heap.get? b=some u->h'.get? b=some u)->s.heap.objs.size<=it->it < h'.objs.size->tp < h'.objs.size->(tp=a\/s.heap.objs.size<=tp)->tp≠it->h'.get? it=some (kF first 0 a es.size ep)->Way w h' a tp es ep t ws 0 first->ws.Perm es.toList->Q (.ref it) {s with heap:=h',drawn:=d}) :
  wpAny (model prog w) A (pyIter<|.ref a) Q E s:=by
 have hT:s.TypeIs (.ref a) "set":=⟨o,ho,hx.1⟩;have aT:a < s.heap.objs.size:=Av ho;refine wpAny_pyIter_slot hT F.slot_set_iter<|FQ F.slot_set_iter hT VQ ?_<|F.args_set_iter_1 _;unfold Builtin.«frozenset.__iter__» slot0 slotArgs;simp only [List.isEmpty_nil,Hj,Cc,↓reduceIte,bind_assoc,Gb,HN];unfold addrOf Builtin.Frozenset.sizeOf;refine BJ<|BP ?_;refine BJ<|BP ?_;refine BJ<|BJ<|LC ho hd T.fits<|BP ?_;unfold setDrawn;refine BJ<|BJ<|DX ho hd T.fits ?_
 dsimp only
 refine BJ<|wp_text ?_;refine BP ?_
 by_cases c:(!eO w && (!t.plain && decide (es.size > 1)))=true
 ·show wpAny _ _ (if(!eO w && (!t.plain && decide (es.size > 1)))=true then _ else _) _ _ _;rw [BL c];refine BJ (LO _ _ _ _ (by simp) λys d p=>?_);have tJ:ys.length=es.size:=by simpa using p.length_eq
  refine BJ (LK ?_<|by rw [Aa,tJ];exact oW<|Cq T.jM);have o1:(s.heap.push<|fv ys).get? a=some o:=Ai _ ho;refine BJ<|wpAny_setEpoch_of (s:={s with heap:=s.heap.push<|fv ys,drawn:=d}) o1 hd T.fits ?_;refine BJ<|FW<|BP ⟨_,rfl,"set_iterator",_,⟨_,Be _ rfl,rfl⟩,slot_next.lookup,?_⟩;have gR:(s.heap.push<|fv ys).objs.size=s.heap.objs.size+1:=Du ..;refine k _ d _ s.heap.objs.size (ys.map λy=>(es[y]?).getD (0,Value.none)) (.ref s.heap.objs.size) (λb u e=>Ai _<|Ai _ e) (by show s.heap.objs.size<=(s.heap.push<|fv ys).objs.size;omega) ?_ ?_ (.inr<|Ao _) ?_ (Be _ rfl) ?_ ?_
  ·show(s.heap.push<|fv ys).objs.size < ((s.heap.push<|fv ys).push _).objs.size;simp only [Du];omega
  ·show s.heap.objs.size < ((s.heap.push<|fv ys).push _).objs.size;rw [Du,gR];omega
  ·show s.heap.objs.size≠(s.heap.push<|fv ys).objs.size;omega
  ·refine .drawn ys (Ai _<|Be _ rfl) tJ λj y hy=>?_;have hm:y < es.size:=by
    have:=p.mem_iff.mp<|Ak hy
    simpa using this
   rw [Ag,hy];show _=some ((es[y]?).getD (0,Value.none));rw [PJ hm];rfl
  ·have:=p.map λy=>(es[y]?).getD (0,Value.none);rwa [VY] at this
 ·show wpAny _ _ (if(!eO w && (!t.plain && decide (es.size > 1)))=true then _ else _) _ _ _;rw [BK c];refine BJ<|BP ?_;refine BJ<|wpAny_setEpoch_of ho hd T.fits ?_;refine BJ<|FW<|BP ⟨_,rfl,"set_iterator",_,⟨_,Be _ rfl,rfl⟩,slot_next.lookup,?_⟩;have kk:=λws hW hp=>k (s.heap.push<|kF (.int 0 0) 0 a es.size ep) s.drawn s.heap.objs.size a ws (.int 0 0) (λb u e=>Ai _ e) (Ao _) (by rw [Du];exact Gp _) (by rw [Du];exact Cq aT) (.inl rfl) (Cg aT) (Be _ rfl) hW hp;cases hb:eO w with
  | true=>exact kk _ (.text 0 hb rfl)<|VO _ _
  | false=>
   have h1:es.size<=1:=by
    rcases T.plain with q | q
    ·rw [q];simp
    ·rw [hb,q] at c;simp at c;exact c
   refine kk es.toList (.one 0 hb h1 rfl ?_)<|List.Perm.refl _;have LZ:=LW T
   rcases Fa es.size 1 with h | h
   ·have:t.place=#[]:=Array.eq_empty_of_size_eq_zero (by omega);rw [this];rfl
   ·obtain⟨j,hj⟩:=LV (p:=t.place) (by omega);rw [hj,LU,BK<|Gc _]
theorem V0:typeLookup (.type "set") "__len__" = pure (some<|.builtin "set.__len__"):=F.slot_set_len.lookup
theorem V1{Q:Bool->Shared->Prop}(hT:s.TypeIs (.ref a) "set")(k:Q false s):wpAny (model prog w) A (Builtin.List.listLengthHint<|.ref a) Q E s:=by
 unfold Builtin.List.listLengthHint;refine BJ<|wpAny_specialOf hT V0 ?_
 dsimp only
 have e1:splitId "set.__len__" = some ("set","__len__"):=by kernel_rfl
 rw [e1]
 dsimp only
 refine BJ<|wpAny_isInstance hT sub_set_self ?_;simp only [Hj,Cc,CW];rw [BL]
 ·exact BJ<|KR hT<|BP k
 ·decide +kernel
theorem V2{Q:List Value->Shared->Prop}(hh:A.handled=none)(ho:s.heap.get? a=some o)(hx:o.ExactSet)(hd:o.data = .set es ep t)(T:Tab prog w es t zs)
  (k:∀ s' (acc:List<|Int×Value),(∀ b u,s.heap.get? b=some u->s'.heap.get? b=some u)->s'.gens=s.gens->s'.os=s.os->s.heap.objs.size < s'.heap.objs.size->acc.Perm es.toList->Q (acc.map (·.2)) s'):wpAny (model prog w) A (collect<|.ref a) Q E s:=by
 have aT:a < s.heap.objs.size:=Av ho;unfold collect;refine BJ<|wpAny_runValue<|FN F.entry_proto_collect ?_;rw [DK F.plain_proto_collect _];show wpAny _ A.in1 (newList [] >>= λl=>again<|.builtin "list.__iadd__" ⟨[l,.ref a],[]⟩) _ _ s;refine BJ<|GZ ?_;refine BP ⟨FP F.plain_list_iadd _,FN F.entry_list_iadd ?_⟩;rw [DK F.plain_list_iadd _];generalize hL:s.heap.objs.size=L;have jq:(s.heap.push {cls:= .type "list",data:= .seq ([]:List Value).toArray}).get? a=some o:=Ai _ ho;have V3:(s.heap.push {cls:= .type "list",data:= .seq ([]:List Value).toArray}).get? L=some {cls:= .type "list",data:= .seq ([]:List Value).toArray}:=by rw [<- hL];exact Be _ rfl
 have hT:Shared.TypeIs {s with heap:=s.heap.push {cls:= .type "list",data:= .seq ([]:List Value).toArray}} (.ref a) "set":=⟨o,jq,hx.1⟩;show wpAny _ A.in1 (Builtin.List.listExtendWith (.ref L) (.ref a)<|.ref L) _ _ _;unfold Builtin.List.listExtendWith;refine BJ<|KR hT ?_;have n1:Builtin.List.listSameRef (.ref L) (.ref a)=false:=by
  have:L≠a:=by rw [<- hL];exact Dc aT
  simp [Builtin.List.listSameRef,this]
 have n2:(Value.type "set" == Value.type "list")=false:=by decide
 have n3:(Value.type "set" == Value.type "tuple")=false:=by decide
 simp only [n1,n2,n3,Bool.or_false,Cc,CW];refine BJ<|VZ jq hx hd T λh2 d it tp ws first mQ qT mR cU wv a7 gi W p=>?_;have L3:=mQ a o jq;have wx:=mQ L _ V3;have lG:(s.heap.push {cls:= .type "list",data:= .seq ([]:List Value).toArray}).objs.size=L+1:=by rw [Du,hL]
 refine BJ<|CP<|V1 (a:=a) (s:={s with heap:=h2,drawn:=d}) ⟨o,L3,hx.1⟩ ?_;show wpAny _ A.in1 (rule "list.extend.makes-room" >>= λ_=>Builtin.List.listTouch (.ref L) >>= λ_=>again<|.builtin "list.extend.loop" ⟨[.ref L,.ref it,.ref L],[]⟩) _ _ _;refine BJ<|HW ?_;refine BJ ?_;show wpAny _ A.in1 (updateSeq L (·.push .none) >>= λ_=>updateSeq L (·.pop)) _ _ _;refine BJ<|JG wx rfl ?_;have L4:=Cs (Obj.mapSeq (·.push Value.none)) wx rfl;refine JG L4 rfl ?_;have V4:=Cs (Obj.mapSeq (·.pop)) L4 rfl;have aD:∀ b u,b≠L->h2.get? b=some u->((h2.update L (Obj.mapSeq (·.push Value.none))).update L (Obj.mapSeq (·.pop))).get? b=some u:=
  λb u hb e=>(Bg _ _<|Ne.symm hb).trans<|(Bg _ _<|Ne.symm hb).trans e
 have tK:it≠L:=by
  have ic:L+1<=it:=by rw [<- lG];exact qT
  exact Dc ic
 have AW:a≠L:=by rw [<- hL];exact Cg aT
 have V5:a≠it:=by
  have ic:L+1<=it:=by rw [<- lG];exact qT
  intro e;rw [<- hL,<- e] at ic;exact absurd ic<|Nat.not_le.mpr<|Cq aT
 have L5:tp≠L:=by
  rcases wv with h | h
  ·rw [h];exact AW
  ·have h':L+1<=tp:=by rw [<- lG];exact h
   exact Dc h'
 have mM:L∉[it,a,tp]:=by
  intro h
  rcases Am.mp h with h | h
  ·exact tK h.symm
  ·rcases Am.mp h with h | h
   ·exact AW h.symm
   ·exact L5 (Ae.mp h).symm
 refine BP ⟨FP F.plain_extend_loop _,codeAny_extend_loopS ((VX (by simp [hh]) V5 a7 hd T p).toS) (oW<|Cq T.jM) L mM (.ref L) es.size 0 _ _ _ rfl (Ci _) ⟨first,aD it _ tK gi,aD a _ AW L3,W.keep λu e=>aD tp u L5 e⟩ V4 (ItemsOf.nil _) λs' acc c m jO hI=>?_⟩;show wpAny _ A (load L >>= _) _ _ s';refine BJ<|wpAny_load jO ?_;have wl:ws.length=es.size:=by simpa using p.length_eq
 have el:acc.toList=ws.map (·.2):=by
  refine Dz λj=>?_;rw [Bz,Ag];cases hj:acc[j]? with
  | none=>
   have:ws[j]?=none:=by
    rw [Br];rw [wl,<- hI.1];exact Array.getElem?_eq_none_iff.mp hj
   rw [this];rfl
  | some v=>
   obtain⟨e,h1,h2⟩:=hI.2 j v hj;rw [h1,h2];rfl
 refine BP ?_;rw [el];refine k s' ws (λb u e=>?_) m.gens m.os (by rw [hL];exact Av jO) p;have hb:b < s.heap.objs.size:=Av e;have L9:b≠L:=by rw [<- hL];exact Cg hb
 have V6:b≠it:=by
  intro q;have ic:L+1<=it:=by rw [<- lG];exact qT
  rw [<- hL,<- q] at ic;exact absurd ic<|Nat.not_le.mpr<|Cq hb
 refine m.heap b u (λh=>?_)<|aD b u L9<|mQ b u<|Ai _ e
 rcases Am.mp h with h | h
 ·exact L9 h
 ·exact V6<|Ae.mp h
end
end b6
namespace b6
open PySem PySem.Spec PyProof.Rows
theorem iI{a b:Str}(h:a.cps.toList=b.cps.toList):a=b:=by
 cases a;cases b;simp only at h;have:=Gq.mp h;rw [this]
theorem Ma{prog:Program}{w:World}:∀(l:List<|Int×Value),(∀ e∈l,AT prog w e)->StrsAre (l.map (·.2)) (l.map keyOf)
 | [],_=> .nil
 | e :: r,h=>by
  obtain⟨z,t,rfl⟩:=h e Ac;exact .cons z t<|Ma r λx hx=>h x<|Af _ hx
section
variable{prog:Program}{w:World}{A:Around}{E:Value->Shared->Prop}{s:Shared}{a:Addr}{zs:List Str}
theorem V7{Q:Value->Shared->Prop}(hh:A.handled=none)(S:bL prog w s.heap a zs)(i4:zs.length < 64)
  (k:∀(s':Shared) (l:Addr) (out:Array Value) (e:Nat) (ss:List Str),(∀ b u,s.heap.get? b=some u->s'.heap.get? b=some u)->s'.gens=s.gens->s'.os=s.os->s.heap.objs.size<=l->s'.heap.get? l=some (seqObj "list" out e)->StrsAre out.toList ss->ss.Perm zs->sortedS ss=true->Q (.ref l) s') :
  wpAny (model prog w) A (call (.builtin "sorted") [.ref a]) Q E s:=by
 obtain⟨o,es,ep,t,ho,hx,hd,T⟩:=S;refine JH kind_sorted plain_sorted entry_sorted (args_sorted1 _) ?_;unfold Builtin.«sorted»;refine BJ (m:=checkCount "sorted" 1 1 _)<|BP ?_;refine BJ (V2 (by simp [hh]) ho hx hd T λs1 acc kp g1 o1 z1 p=>?_);have hS:=Ma (prog:=prog) (w:=w) acc λe he=>T.elts e<|p.mem_iff.mp he;have hlen:(acc.map (·.2)).length=zs.length:=by
  rw [Aa,p.length_eq,Co,T.size]
 refine BJ (GZ ?_<|by rw [hlen];exact oW<|by omega);have iy:(s1.heap.push (seqObj "list" (acc.map (·.2)).toArray 0)).get? s1.heap.objs.size=some (seqObj "list" (acc.map (·.2)).toArray 0):=Be _ rfl;have hsz:s.heap.objs.size<=s1.heap.objs.size:=Cz z1;refine BJ (CP<|FQ slot_list_sort ⟨_,iy,rfl⟩ entry_list_sort (list_sort_treeK strKind_oneLt iy hS.keysOf (λv₁ v₂ rest e=>keyKind_strs<|by rw [<- e];exact hS) (by rw [hlen];exact i4) λcS a1 a2=>⟨_,rfl,?_⟩)<|args_list_sort _);obtain⟨ss,q1,q2,q3⟩:=sorted_out_str hS a1 a2;obtain⟨e,he⟩:=sortedHeap_at (out:=(arrOf cS).map (·.2)) iy;refine BP ⟨_,rfl,k _ _ _ e ss (λb u hb=>?_) g1 o1 hsz he q1 (q2.trans<|(p.map keyOf).trans T.keys) q3⟩;have qU:=kp b u hb;have aT:=Av qU;show(sortedHeap (s1.heap.push _) s1.heap.objs.size _ _).get? b=some u;rw [sortedHeap_old (Cg aT)<|by rw [PK];exact Cq aT];exact Ai _ qU
end
end b6
namespace L2
open PySem PySem.Spec PyProof.Rows b6
def fw(prog:Program)(w:World)(a:Addr)(zs:List Str):HO:= .ext λh=>bL prog w h a zs
section
variable{X:Cx}{pins:List (Addr×Obj)}{σ:St}{H:Hp}{s s':Shared}{a:Addr}{zs:List Str}
theorem Inv.like(I:Inv X pins σ H s)(e1:s'.heap=s.heap)(e2:s'.gens=s.gens)(e3:s'.os=s.os):Inv X pins σ H s':=by
 obtain⟨h,g,d,t,o⟩:=s;obtain⟨h',g',d',t',o'⟩:=s';simp only at e1 e2 e3;subst e1 e2 e3;exact⟨I.ok,I.os,I.bare,I.base,I.loc,I.cell,I.free,I.bz,I.pin,I.aJ,I.len⟩
theorem Inv.gu{o:HO}(I:Inv X pins σ H s)(k:∀ b u,s.heap.get? b=some u->s'.heap.get? b=some u)(e2:s'.gens=s.gens)(e3:s'.os=s.os)(hp:s.heap.objs.size<=a)(new:aH X.prog X.w (upd H a o) s'.heap a o):Inv X pins σ (upd H a o) s':=
 (I.laid (t':=s.toks) k hp new).like (s':=s') rfl e2 e3
theorem Mb{h:Heap}(S:bL X.prog X.w h a zs):aH X.prog X.w H h a (fw X.prog X.w a zs):=by
 refine⟨S,?_,λh1 h2 q k=>q.keep k⟩;obtain⟨o,_,_,_,ho,_⟩:=S;exact⟨o,ho⟩
theorem Inv.set(I:Inv X pins σ H s)(h:H a=some (fw X.prog X.w a zs)):bL X.prog X.w s.heap a zs:=(I.aJ a _ h).1
theorem AX:∀{zs:List Str} {us:List Value},av (zs.map V.str) us->StrsAre us zs
 | [],_,.nil=> .nil
 | z :: r,_,.cons q qs=>by
  obtain⟨t,rfl⟩:=q;exact .cons z t<|AX qs
theorem AY:∀{us:List Value} {zs:List Str},StrsAre us zs->av (zs.map V.str) us
 | _,_,.nil=> .nil
 | _,_,.cons z t q=> .cons ⟨t,rfl⟩<|AY q
theorem V8(hc:X.calm=true):fh X (.builtin "sorted") (λxs H Q=>∃ p zs,xs=[.ref p]/\H p=some (fw X.prog X.w p zs)/\zs.length < 64/\∀ l ss,H l=none->ss.Perm zs->sortedS ss=true->Q (.ref l) (upd H l<|.lst<|ss.map V.str)):=by
 intro pins s σ H xs us Q I r h;obtain⟨p,zs,rfl,hp,hl,q⟩:=h;obtain⟨u,rfl,ru⟩:=vals1 r;cases (show u=Value.ref p from ru);refine V7 (I.ok.hd hc) (I.set hp) hl λs' l out e ss kp e2 e3 qT he hS oY qV=>?_;have hlen:ss.length<=sizeLine:=by rw [oY.length_eq];exact oW<|by omega
 refine⟨.ref _,_,I.gu (s':=s') kp e2 e3 qT (show aH X.prog X.w _ s'.heap l (.lst<|ss.map V.str) from⟨by rw [Aa];exact hlen,out.toList,e,AY hS,he⟩),rfl,q _ ss (I.aJ.fresh qT) oY qV⟩
theorem V9:fh X (.builtin "sorted") (λxs H Q=>∃ p zs,xs=[.ref p]/\al X.K H p (zs.map V.str)/\zs.length < 64/\∀ l ss,H l=none->ss.Perm zs->sortedS ss=true->Q (.ref l) (upd H l<|.lst<|ss.map V.str)):=by
 intro pins s σ H xs us Q I r h;obtain⟨p,zs,rfl,hp,hl,q⟩:=h;obtain⟨u,rfl,ru⟩:=vals1 r;cases (show u=Value.ref p from ru);obtain⟨its,rv,pl,hz⟩:=I.list hp;have e1:=rv.length;rw [Aa] at e1;refine PyProof.Rows.sorted_strs pl.isList (AX rv) (by omega) λout ss hS oY qV=>?_;obtain⟨e,he⟩:=sortedAll_at s.heap its out;have hlen:ss.length<=sizeLine:=by rw [oY.length_eq];exact oW<|by omega
 refine⟨.ref _,_,I.gu (s':={s with heap:=sortedAll s.heap its out}) (λb u hb=>NQ hb) rfl rfl (Eh _) (show aH X.prog X.w _ _ _ (.lst<|ss.map V.str) from⟨by rw [Aa];exact hlen,out.toList,e,AY hS,he⟩),rfl,q _ ss (I.aJ.fresh<|Eh _) oY qV⟩
end
end L2
namespace L2
open PySem PySem.Spec PyProof.Rows
section
variable{X:Cx}{o e:Expr}{σ:St}{H:Hp}{Q:VK}{ap cp:Pos}
theorem jr (h:Ev X o σ H λx H1=>∃ l,x = .ref l/\(∃ xs,H1 l=some (.lst xs))/\Ev X e σ H1 λy H2=>∃ xs,H2 l=some (.lst xs)/\xs.length < sizeLine/\Q .non (upd H2 l<|.lst<|xs++[y]))
  (bV:attributeBase o "append" X.env (eval o X.env)=eval o X.env:=by rfl)
  (bC:((backTo cp<|starEach [e] X.env).all (λx=>!x.1) && (backToKw cp<|keywordEach [] X.env).all (λx=>x.1.isSome) && decide ([e].length+([]:List Keyword).length+(if([]:List Keyword).isEmpty then 0 else 1) < 30))=true:=by rfl)
  (hline:(ap.endLine == cp.line)=true:=by rfl) (hs:starEach [e] X.env=(false,eval e X.env) :: starEach [] X.env:=by rfl) (bK:(backTo cp<|starEach [] X.env).any (·.1)=false:=by rfl) (cR:isStar e=false:=by rfl) :
  Ev X (.Call (.Attribute o "append" ap) [e] [] cp) σ H Q:=by
 refine dR (zv CZ PySem.F.slot_list_append PySem.F.type_list_append KL bI (jH (es:=[e])) bV bC hline hs bK)<|h.mono λx H1 ⟨l,ex,⟨xs,hl⟩,h2⟩=>?_;subst ex;refine⟨.inl ⟨rfl,xs,al.of hl⟩,?_⟩;exact ah (h2.mono λy H2 ⟨ys,hy,hz,q⟩=>ay ⟨l,ys,y,rfl,rfl,hy,hz,q⟩) cR
end
section
variable{X:Cx}{c:Expr}{body kC rest:List Stmt}{D:Ends}{σ:St}{H:Hp}{pos:Pos}
theorem Run.nx{M M':St->Hp->Prop}{l:List Stmt}(h:Run X l {D with nx:=M} σ H)(f:∀ σ' H',M σ' H'->M' σ' H'):Run X l {D with nx:=M'} σ H:=
 ⟨λpins s I => aS (h.run pins s I) λfl s' q => by
  cases fl with
  | next=>
   obtain⟨σ',H',I',m⟩:=q;exact⟨σ',H',I',f σ' H' m⟩
  | _=>exact q⟩
theorem AZ(φ ψ:Prop)(M:St->Hp->Prop)(hc:∀ T:Bool->Hp->Prop,(∀ k:Bool,(k=true->φ)->(k=false->ψ)->T k H)->Et X c σ H T)(ht:φ->Run X body {D with nx:=M} σ H)(hu:ψ->Run X kC {D with nx:=M} σ H)
  (hr:∀ σ' H',M σ' H'->Run X rest D σ' H'):Run X (.If c body kC pos :: rest) D σ H:=
 zY φ ψ hc (λp=>(ht p).nx hr) (λp=>(hu p).nx hr)
end
def kG(X:Cx)(H:Hp)(k:Nat)(x y:V)(b:Bool):Prop:=∀(pins:List<|Addr×Obj) (σ:St) (s:Shared) (A:Around) (u v:Value),Inv X pins σ H s->A.units+k < cLine->RelV x u->RelV y v->SeqAt.EqAt A s u v b
def lH(X:Cx)(H:Hp)(k:Nat)(x y:V)(b:Bool):Prop:=∀(pins:List<|Addr×Obj) (σ:St) (s:Shared) (A:Around) (u v:Value),Inv X pins σ H s->A.units+k < cLine->RelV x u->RelV y v->SeqAt.RcAt A s u v b
def qW(X:Cx)(H:Hp)(k:Nat)(x y:V)(b:Bool):Prop:=∀(pins:List<|Addr×Obj) (σ:St) (s:Shared) (A:Around) (u v:Value),Inv X pins σ H s->A.units+k < cLine->RelV x u->RelV y v->SeqAt.RcNeAt A s u v (!b)
section
variable{X:Cx}{H:Hp}{k:Nat}{a b:Addr}{xs ys:List V}
theorem A2{x y:V}(fx:jE x=true)(fy:jE y=true):kG X H k x y (dI x y):=λ_ _ _ _ _ _ _ _ rx ry=>Ky rx ry fx fy
theorem V':kG X H k (.ref a) (.ref a) true:=λ_ _ _ _ u v _ _ rx ry=>by
 cases rx;cases ry;exact SeqAt.EqAt.same _
theorem Wa(a7:a≠b){c:Bool}(h:lH X H k (.ref a) (.ref b) c):kG X H k (.ref a) (.ref b) c:=λpins σ s A u v I hu rx ry=>by
 cases rx;cases ry;exact SeqAt.EqAt.of_refs a7<|h pins σ s A _ _ I hu rfl rfl
theorem mS{us:List Value}(r:av xs us){j:Nat}(h:j < us.length):∃ x,xs[j]?=some x/\RelV x us[j]:=by
 have hl:=r.length;have hj:j < xs.length:=by omega
 obtain⟨u,e,q⟩:=r.get<|Ab hj;rw [Ab h] at e;cases e;exact⟨_,Ab hj,q⟩
theorem Md(e:Nat->Bool)(ha:al X.K H a xs)(hb:al X.K H b ys)(hl:xs.length=ys.length)(he:∀ j x y,xs[j]?=some x->ys[j]?=some y->kG X H k x y (e j)):lH X H (k+1) (.ref a) (.ref b) ((List.range xs.length).all e):=λpins σ s A u v I hu rx ry=>by
 cases rx;cases ry;obtain⟨i1,r1,p1,_⟩:=I.list ha;obtain⟨i2,r2,p2,_⟩:=I.list hb;have l1:=r1.length;have l2:=r2.length;have q:=SeqAt.RcAt.lists (A:=A) (e:=e) p1.isList p2.isList (by simp;omega) (by omega) λj h1 h2=>by
  obtain⟨x,ex,qx⟩:=mS r1 (j:=j) (by simpa using h1);obtain⟨y,ey,qy⟩:=mS r2 (j:=j) (by simpa using h2);exact he j x y ex ey pins σ s A.in1 _ _ I (by show A.units+1+k < cLine;omega) (by simpa using qx)<|by simpa using qy
 rw [Aw,<- l1] at q;exact q
theorem wy(e:Nat->Bool)(ha:al X.K H a xs)(hb:al X.K H b ys)(hl:xs.length=ys.length)(he:∀ j x y,xs[j]?=some x->ys[j]?=some y->kG X H k x y (e j)):qW X H (k+1) (.ref a) (.ref b) ((List.range xs.length).all e):=λpins σ s A u v I hu rx ry=>by
 cases rx;cases ry;obtain⟨i1,r1,p1,_⟩:=I.list ha;obtain⟨i2,r2,p2,_⟩:=I.list hb;have l1:=r1.length;have l2:=r2.length;have q:=SeqAt.RcNeAt.lists (A:=A) (e:=e) p1.isList p2.isList (by simp;omega) (by omega) λj h1 h2=>by
  obtain⟨x,ex,qx⟩:=mS r1 (j:=j) (by simpa using h1);obtain⟨y,ey,qy⟩:=mS r2 (j:=j) (by simpa using h2);exact he j x y ex ey pins σ s A.in1 _ _ I (by show A.units+1+k < cLine;omega) (by simpa using qx)<|by simpa using qy
 rw [Aw,<- l1] at q;exact q
theorem Mf(ha:al X.K H a xs)(hb:al X.K H b ys)(hl:xs.length≠ys.length):lH X H k (.ref a) (.ref b) false:=λpins σ s A u v I hu rx ry=>by
 cases rx;cases ry;obtain⟨i1,r1,p1,_⟩:=I.list ha;obtain⟨i2,r2,p2,_⟩:=I.list hb;have l1:=r1.length;have l2:=r2.length;exact SeqAt.RcAt.lists_lengths p1.isList p2.isList (by simp;omega)<|by omega
theorem A4(ha:al X.K H a xs)(hb:al X.K H b ys)(hl:xs.length≠ys.length):qW X H k (.ref a) (.ref b) false:=λpins σ s A u v I hu rx ry=>by
 cases rx;cases ry;obtain⟨i1,r1,p1,_⟩:=I.list ha;obtain⟨i2,r2,p2,_⟩:=I.list hb;have l1:=r1.length;have l2:=r2.length;exact SeqAt.RcNeAt.lists_lengths p1.isList p2.isList (by simp;omega)<|by omega
theorem Wb(e:Nat->Bool)(ha:aW X.K H a xs)(hb:aW X.K H b ys)(hl:xs.length=ys.length)(he:∀ j x y,xs[j]?=some x->ys[j]?=some y->kG X H k x y (e j)):lH X H (k+1) (.ref a) (.ref b) ((List.range xs.length).all e):=λpins σ s A u v I hu rx ry=>by
 cases rx;cases ry;obtain⟨i1,r1,p1,_⟩:=I.tuple ha;obtain⟨i2,r2,p2,_⟩:=I.tuple hb;have l1:=r1.length;have l2:=r2.length;have q:=SeqAt.RcAt.tuples (A:=A) (e:=e) p1 p2 (by omega) λj h1 h2=>by
  obtain⟨x,ex,qx⟩:=mS r1 (j:=j) (by simpa using h1);obtain⟨y,ey,qy⟩:=mS r2 (j:=j) (by simpa using h2);exact he j x y ex ey pins σ s A.in1 _ _ I (by show A.units+1+k < cLine;omega) (by simpa using qx)<|by simpa using qy
 rw [Aw,Aw,<- l1,<- l2,hl,Nat.min_self,<- hl] at q
 simpa using q
theorem A6(n:Nat):(List.range n).all (λ_=>true)=true:=by simp
theorem wz(hu:X.A.units+100 < cLine):dB X (compareOp .Eq) (λx y H Q=>∃ k c,k<=100/\lH X H k x y c/\Q (.bl c) H):=by
 intro pins s σ H x y v u Q I rx ry h;obtain⟨k,c,hk,hc,q⟩:=h;exact hc pins σ s X.A v u I (by omega) rx ry X.prog X.w X.xe _ ⟨.bl c,H,I,rfl,q⟩
theorem tL(hu:X.A.units+100 < cLine):dB X (compareOp .NotEq) (λx y H Q=>∃ k c,k<=100/\qW X H k x y c/\Q (.bl (!c)) H):=by
 intro pins s σ H x y v u Q I rx ry h;obtain⟨k,c,hk,hc,q⟩:=h;exact hc pins σ s X.A v u I (by omega) rx ry X.prog X.w X.xe _ ⟨.bl (!c),H,I,rfl,q⟩
theorem Wc(e:Nat->Bool)(ha:aW X.K H a xs)(hb:aW X.K H b ys)(hl:xs.length=ys.length)(he:∀ j x y,xs[j]?=some x->ys[j]?=some y->kG X H k x y (e j)):qW X H (k+1) (.ref a) (.ref b) ((List.range xs.length).all e):=λpins σ s A u v I hu rx ry=>by
 cases rx;cases ry;obtain⟨i1,r1,p1,_⟩:=I.tuple ha;obtain⟨i2,r2,p2,_⟩:=I.tuple hb;have l1:=r1.length;have l2:=r2.length;have q:=SeqAt.RcNeAt.tuples (A:=A) (e:=e) p1 p2 (by omega) λj h1 h2=>by
  obtain⟨x,ex,qx⟩:=mS r1 (j:=j) (by simpa using h1);obtain⟨y,ey,qy⟩:=mS r2 (j:=j) (by simpa using h2);exact he j x y ex ey pins σ s A.in1 _ _ I (by show A.units+1+k < cLine;omega) (by simpa using qx)<|by simpa using qy
 rw [Aw,Aw,<- l1,<- l2,hl,Nat.min_self,<- hl] at q
 simpa using q
end
section
variable{X:Cx}{o e f c:Expr}{σ:St}{H:Hp}{Q:VK}{T:Bool->Hp->Prop}{ap cp pos:Pos}{body rest:List Stmt}{D:Ends}
theorem Mg{name:Str}{Ty id:String}{r:V->List V->Hp->VK->Prop}(pa:PlainAttrs Ty)(slot:Slot Ty name id)(lu:typeOf (.builtin id)=pure (.type "method_descriptor"))(hm:sK X id r)
  (h:Ev X o σ H λx H1=>mD X.K Ty x H1/\r x [] H1 Q) (bV:attributeBase o name X.env (eval o X.env)=eval o X.env:=by rfl) (hline:(ap.endLine == cp.line)=true:=by rfl):Ev X (.Call (.Attribute o name ap) [] [] cp) σ H Q:=
 dR (Ul pa slot lu hm bI bV hline) h
theorem A7{name:Str}{Ty id:String}{r:V->List V->Hp->VK->Prop}(pa:PlainAttrs Ty)(slot:Slot Ty name id)(lu:typeOf (.builtin id)=pure (.type "method_descriptor"))(hm:sK X id r)
  (h:Ev X o σ H λx H1=>mD X.K Ty x H1/\Ev X e σ H1 λy H2=>r x [y] H2 Q) (bV:attributeBase o name X.env (eval o X.env)=eval o X.env:=by rfl)
  (bC:((backTo cp<|starEach [e] X.env).all (λx=>!x.1) && (backToKw cp<|keywordEach [] X.env).all (λx=>x.1.isSome) && decide ([e].length+([]:List Keyword).length+(if([]:List Keyword).isEmpty then 0 else 1) < 30))=true:=by rfl)
  (hline:(ap.endLine == cp.line)=true:=by rfl) (hs:starEach [e] X.env=(false,eval e X.env) :: starEach [] X.env:=by rfl) (bK:(backTo cp<|starEach [] X.env).any (·.1)=false:=by rfl) (cR:isStar e=false:=by rfl):Ev X (.Call (.Attribute o name ap) [e] [] cp) σ H Q:=
 dR (zv pa slot lu hm bI (jH (es:=[e])) bV bC hline hs bK) (h.mono λx H1 ⟨t,h2⟩=>⟨t,ah (h2.mono λy H2 q=>ay q) cR⟩)
theorem wA{name:Str}{Ty id:String}{r:V->List V->Hp->VK->Prop}(pa:PlainAttrs Ty)(slot:Slot Ty name id)(lu:typeOf (.builtin id)=pure (.type "method_descriptor"))(hm:sK X id r)
  (h:Ev X o σ H λx H1=>mD X.K Ty x H1/\Ev X e σ H1 λy H2=>Ev X f σ H2 λz H3=>r x [y,z] H3 Q) (bV:attributeBase o name X.env (eval o X.env)=eval o X.env:=by rfl)
  (bC:((backTo cp<|starEach [e,f] X.env).all (λx=>!x.1) && (backToKw cp<|keywordEach [] X.env).all (λx=>x.1.isSome) && decide ([e,f].length+([]:List Keyword).length+(if([]:List Keyword).isEmpty then 0 else 1) < 30))=true:=by rfl)
  (hline:(ap.endLine == cp.line)=true:=by rfl) (hs:starEach [e,f] X.env=(false,eval e X.env) :: starEach [f] X.env:=by rfl) (bK:(backTo cp<|starEach [f] X.env).any (·.1)=false:=by rfl) (cR:isStar e=false:=by rfl) (Wd:isStar f=false:=by rfl):Ev X (.Call (.Attribute o name ap) [e,f] [] cp) σ H Q:=
 dR (zv pa slot lu hm bI (jH (es:=[e,f])) bV bC hline hs bK) (h.mono λx H1 ⟨t,h2⟩=>⟨t,ah (h2.mono λy H2 h3=>ah (h3.mono λz H3 q=>ay q) Wd) cR⟩)
def insertAt(xs:List V)(i:Nat)(y:V):List V:=xs.take i++y :: xs.drop i
def Wf:V->List V->Hp->VK->Prop:=λx vs H Q=>∃ l xs i y,x = .ref l/\vs=[.int i,y]/\H l=some (.lst xs)/\0<=i/\i.toNat<=xs.length/\xs.length < sizeLine/\Q .non (upd H l<|.lst<|insertAt xs i.toNat y)
theorem Wg{i:Int}(h0:0<=i)(h:i<=16777216):¬(!Builtin.List.listFitsIndex i)=true:=by
 have e:Builtin.List.listFitsIndex i=true:=by
  unfold Builtin.List.listFitsIndex;rw [Cf,CN,CN];omega
 rw [e];exact Aq
theorem Mh:mE X "list.insert" Wf:=by
 intro pins s σ H x vs v us Q I rx rv h;obtain⟨l,xs,i,y,rfl,rfl,hH,h0,hi,hz,q⟩:=h;cases rx;obtain⟨u,w',rfl,ru,bT⟩:=rv.two;obtain⟨tk,rfl⟩:=ru;obtain⟨z,its,n,r,hl,e⟩:=I.gk hH;have hs:sizeLine=16777216:=CV;have z2:its.toArray.size<=sizeLine:=by rw [Aw,<- hl];exact z
 have mm:=AutoSeq1.list_insert_list_int_val_1 l its.toArray n i tk w' (Wg h0<|by omega) z2;refine JD F.slot_list_insert ⟨_,e,rfl⟩ F.entry_list_insert (F.args_list_insert_3 _ _ _) mm ⟨e,?_⟩;have ef:(λxs:Array Value=>have k:=if i < 0 then(i+(xs.size:Int)).toNat else min i.toNat xs.size;(xs.extract 0 k).push w'++xs.extract k) its.toArray=(its.take i.toNat++w' :: its.drop i.toNat).toArray:=by
  have hn:¬ i < 0:=by omega
  have hm:min i.toNat its.length=i.toNat:=by omega
  simp only [hn,CW,Aw,hm];apply Array.ext';simp;exact Dd<|by simp
 refine⟨.non,_,I.jF (its':=its.take i.toNat++w' :: its.drop i.toNat) hH e ef ((r.take i.toNat).append<|.cons bT<|r.drop i.toNat) ?_,rfl,q⟩;rw [Ah,Ax,Bo,Cn];omega
def Wh:V->List V->Hp->VK->Prop:=λx vs H Q=>∃ a kvs k y,x = .ref a/\vs=[kV k,y]/\H a=some (.dK kvs)/\kvs.length < sizeLine /\
 ((∃ v,aA kvs k=some v/\Q v H)\/(aA kvs k=none/\Q y (upd H a<|.dK<|putK kvs k y)))
theorem Mi:mE X "dict.setdefault" Wh:=by
 intro pins s σ H x vs v us Q I rx rv h;obtain⟨a,kvs,k,y,rfl,rfl,hH,hz,q⟩:=h;cases rx;obtain⟨u,w',rfl,ru,bT⟩:=rv.two;obtain⟨z,hd,rs,rel,dd⟩:=zH I.aJ hH;have hl:=rel.length;refine call_meetsIn F.slot_dict_setdefault dd.typeIs F.entry_dict_setdefault (F.args_dict_setdefault_3 _ _ _) (kt_meets_setdefault (dN X.prog X.w) a (mH ru) hd w') ⟨rs,dd,by omega,λv hv=>?_,λhn h' iY hs=>?_⟩
 ·have jP:=rel.val k;rw [hv] at jP
  rcases q with ⟨v',e',q⟩ | ⟨e',_⟩
  ·rw [e'] at jP;exact⟨v',H,I.tok _,jP,q⟩
  ·rw [e'] at jP;exact jP.elim
 ·have jP:=rel.val k;rw [hn] at jP
  rcases q with ⟨v',e',_⟩ | ⟨e',q⟩
  ·rw [e'] at jP;exact jP.elim
  ·have he:∃ q,h'.get? a=some q:=let ⟨q,_,_,hq,_⟩:=iY;⟨q,hq⟩
   have fk:(putK kvs k y).length<=sizeLine:=by have:=mG kvs k y;omega
   exact⟨y,_,qH I (by rw [hH];exact True.intro) hs he<|zJ fk hd (rel.put k bT) iY,bT,q⟩
theorem Mj:fh X (.type "int") (λxs H Q=>∃ b:Bool,xs=[.bl b]/\Q (.int (if b then 1 else 0)) H):=by
 intro pins s σ H xs us Q I r h;obtain⟨b,rfl,q⟩:=h;obtain⟨u,rfl,ru⟩:=vals1 r;cases (show u=Value.bool b from ru);exact call_int_bool ⟨.int (if b then 1 else 0),H,I.tok _,⟨_,rfl⟩,q⟩
theorem Mk{kC:List Stmt}(Φ:Bool->Hp->Prop)(M:St->Hp->Prop)(hc:Et X c σ H Φ)(ht:∀ H1,Φ true H1->Run X body {D with nx:=M} σ H1)(hu:∀ H1,Φ false H1->Run X kC {D with nx:=M} σ H1)
  (hr:∀ σ' H',M σ' H'->Run X rest D σ' H'):Run X (.If c body kC pos :: rest) D σ H:=
 gq (hc.mono λk H1 p=>by
  cases k with
  | true=>rw [BL rfl];exact(ht H1 p).nx hr
  | false=>rw [BK Aq];exact(hu H1 p).nx hr)
theorem wB(W:Nat->St->Hp->Prop){m0:Nat}(h0:W m0 σ H)
  (turn:∀ m σ H,W m σ H->Et X c σ H λb H1=>if b=true then Run X body {D with nx:=λσ' H'=>∃ m',m' < m/\W m' σ' H',ct:=λσ' H'=>∃ m',m' < m/\W m' σ' H',bk:=λσ' H'=>Run X rest D σ' H'} σ H1 else Run X rest D σ H1)
  (hp:PassesOwn (model X.prog X.w) X.A X.env X.xe:=by exact JF):Run X (.While c body [] pos :: rest) D σ H:=by
 refine jI (S8 hp lC oP) ⟨W,⟨m0,h0⟩,λm σ1 H1 w1=>(turn m σ1 H1 w1).mono λb H2 q=>?_⟩;cases b with
 | true=>
  rw [BL rfl] at q;exact⟨λσ' H'=>∃ m',m' < m/\W m' σ' H',λ_ _ h=>h,q⟩
 | false=>
  rw [BK Aq] at q;exact q
theorem wC(h:∀ p,H p=none->Q (.ref p) (upd H p<|.dK [])):Ev X (.Dict [] [] pos) σ H Q:=dR UY h
theorem Wi(h:∀ p,H p=none->Q (.ref p) (upd H p<|.dT [])):Ev X (.Dict [] [] pos) σ H Q:=dR UZ h
theorem qX(hu:X.A.units+1 < cLine)(h:Ev X o σ H λx H1=>Ev X e σ H1 λy H2=>∃ a v,x = .ref a/\bH H2 a y (some v)/\Q v H2)(hs:oK e:=by intro _ _;rfl):Ev X (.Subscript o e pos) σ H Q:=dR (UP hu bI bI hs) h
theorem Wj(hu:X.A.units+1 < cLine)(h:Ev X e σ H λy H1=>Ev X o σ H1 λx H2=>∃ a r,x = .ref a/\bH H2 a y r/\T r.isSome H2)(hm:behindInMarks .In o=false:=by with_unfolding_all rfl):Et X (.Compare e [.In] [o] pos) σ H T:=
 qK (J1 (UQ hu bI bI) hm) (h.mono λy H1 h2=>h2.mono λx H2 ⟨a,r,h3,h4,h5⟩=>⟨a,r,h3,h4,_,rfl,h5⟩)
theorem A8(hu:X.A.units+1 < cLine)(h:Ev X e σ H λy H1=>Ev X o σ H1 λx H2=>∃ a r,x = .ref a/\bH H2 a y r/\T (!r.isSome) H2)(hm:behindInMarks .NotIn o=false:=by with_unfolding_all rfl):Et X (.Compare e [.NotIn] [o] pos) σ H T:=
 qK (J1 (UR hu bI bI) hm) (h.mono λy H1 h2=>h2.mono λx H2 ⟨a,r,h3,h4,h5⟩=>⟨a,r,h3,h4,_,rfl,h5⟩)
theorem tM{p2:Pos}(hu:X.A.units+1 < cLine)(h:Ev X f σ H λv H1=>Ev X o σ H1 λx H2=>Ev X e σ H2 λy H3=>∃ a H4,x = .ref a/\cC H3 a y v H4/\Run X rest D σ H4)(hs:swapsWith f (some<|.Subscript o e p2) pos.line X.env=pure false:=by rfl) :
  Run X (.Assign [.Subscript o e p2] f pos :: rest) D σ H:=jI (UT hu bI bI bI hs) h
end
end L2
namespace bn
open PySem PySem.Spec PyProof.Rows
def lexLt(a b:Int×Int):Bool:=if a.1=b.1 then decide (a.2 < b.2) else decide (a.1 < b.1)
theorem Wk(b:Bool)(x y:Value):keyLt' (tuples' b) x y=(do
  let xs <- Builtin.List.listItems x
  let ys <- Builtin.List.listItems y
  for ((p,q),i) in (xs.toList.zip ys.toList).zipIdx do
   if !(<- eqBool p q) then return <- oneLt' (b && i == 0) p q
  return xs.size < ys.size):=rfl
section
variable{prog:Program}{w:World}{A:Around}{E:Value->Shared->Prop}{s:Shared}
def Pr(h:Heap)(a:Addr)(p:Int×Int):Prop:=∃ o n t u,h.get? a=some o/\o.cls = .type "tuple"/\o.data = .seq #[.int p.1 t,.int p.2 u] n
theorem Ml{a b:Int}{t u:Tok}{Q:Bool->Shared->Prop}(h:Q (decide (a=b)) s):wpAny (model prog w) A (eqBool (.int a t)<|.int b u) Q E s:=by
 refine SeqAt.EqAt.int_int a t b u prog w E Q ?_;have e:(a == b)=decide (a=b):=rfl;rw [e];exact h
theorem Wl{a b:Int}{t u:Tok}{Q:Bool->Shared->Prop}(h:Q (decide (a < b)) s):wpAny (model prog w) A (oneLt' false (.int a t)<|.int b u) Q E s:=by
 rw [oneLt'_eq];simp only [Cc,CW];refine BJ ?_;show wpAny _ _ (compareOp .Lt (.int a t)<|.int b u) _ _ _;exact lt_int<|FJ h
theorem Wm{x y:Addr}{p q:Int×Int}{Q:Bool->Shared->Prop}(hx:Pr s.heap x p)(hy:Pr s.heap y q)(h:Q (lexLt p q) s):wpAny (model prog w) A (keyLt' (tuples' true) (.ref x)<|.ref y) Q E s:=by
 obtain⟨ox,nx,tx,ux,wD,cx,dx⟩:=hx;obtain⟨oy,ny,ty,uy,Wn,cy,dy⟩:=hy;rw [Wk];refine BJ<|JN wD dx ?_;refine BJ<|JN Wn dy ?_;show wpAny _ _ (forIn [((Value.int p.1 tx,Value.int q.1 ty),0),((Value.int p.2 ux,Value.int q.2 uy),1)] _ _ >>= _) _ _ _;rw [Gx];refine BJ<|BJ ?_
 dsimp only
 refine BJ<|Ml ?_
 by_cases c:p.1=q.1
 ·rw [BR c];simp only [Hj,Cc,CW];refine BP ?_
  dsimp only
  rw [Gx];refine BJ ?_
  dsimp only
  refine BJ<|Ml ?_
  by_cases c2:p.2=q.2
  ·rw [BR c2];simp only [Hj,Cc,CW];refine BP ?_
   dsimp only
   rw [List.forIn_nil];refine BP<|BP ?_;have e:lexLt p q=false:=by unfold lexLt;rw [BL c,c2];simp
   rw [e] at h
   simpa using h
  ·rw [BW c2];simp only [Bool.not_false,DW];refine BJ<|Wl<|BP ?_
   dsimp only
   refine BP<|BP ?_;have e:lexLt p q=decide (p.2 < q.2):=by unfold lexLt;rw [BL c]
   rw [e] at h;exact h
 ·rw [BW c];simp only [Bool.not_false,DW];refine BJ<|oneLt_int<|BP ?_
  dsimp only
  refine BP<|BP ?_;have e:lexLt p q=decide (p.1 < q.1):=by unfold lexLt;rw [BK c]
  rw [e] at h;exact h
theorem Wo{x y:Value}:(#[x,y]:Array Value).size<=sizeLine+1:=by
 rw [CV];show 2<=_;decide
theorem Wp(v:Value):firstOfTuple' v=(do
  if(<- typeOf v) != .type "tuple" then return none
  return (<- Builtin.List.listItems v)[0]?):=rfl
theorem Mm{x:Addr}{p:Int×Int}{Q:Option Value->Shared->Prop}(hx:Pr s.heap x p)(h:∀ t,Q (some<|.int p.1 t) s):wpAny (model prog w) A (firstOfTuple'<|.ref x) Q E s:=by
 obtain⟨ox,nx,tx,ux,wD,cx,dx⟩:=hx;rw [Wp];refine BJ<|KR (T:= "tuple") ⟨ox,wD,cx⟩ ?_;rw [show(Value.type "tuple" != Value.type "tuple")=false by decide];simp only [Cc,CW];refine BJ<|JN wD dx ?_;exact BP<|h tx
theorem Wq{x y:Addr}{p q:Int×Int}{Q:SortKind->Shared->Prop}(hx:Pr s.heap x p)(hy:Pr s.heap y q)(h:Q (tuples' true) s):wpAny (model prog w) A (keyKind' #[.ref x,.ref y]) Q E s:=by
 rw [keyKind'_eq,show(#[.ref x,.ref y]:Array Value)=[.ref x,.ref y].toArray from rfl,List.mapM_toArray];refine BJ<|wpAny_map ?_;rw [List.mapM_cons];refine BJ<|Mm hx λt=>?_;rw [List.mapM_cons];refine BJ<|BJ<|Mm hy λu=>?_;rw [List.mapM_nil];refine BJ<|BP<|BP<|BP ?_;rw [BL<|by simp];refine BJ<|HW ?_;rw [oneTypeOnly'_eq];show wpAny _ _ ((Array.mapM typeOf [Value.int p.1 t,Value.int q.1 u].toArray >>= _) >>= _) _ _ _;rw [List.mapM_toArray];have e1:[Value.int p.1 t,Value.int q.1 u].mapM typeOf=(pure [Value.type "int",Value.type "int"]:Sem _):=rfl;rw [e1];refine BP ?_;have e2:(if((#[Value.type "int",Value.type "int"]:Array Value).all λx=>x == (#[Value.type "int",Value.type "int"]:Array Value)[0])=true then some (#[Value.type "int",Value.type "int"]:Array Value)[0] else none)=some (Value.type "int"):=by
  rw [BL]
  ·rfl
  ·simp
 show Q (tuples'<|Option.any (λx=>x != Value.type "tuple") _) s;rw [e2];exact h
theorem wp_at{st:SortSt}{x y:Addr}{p q:Int×Int}{i j:Nat}{Q:Option Bool->SortSt->Prop}(hk:kindOf st=tuples' true)(hi:(arrOf st)[i]?=some (.ref x,.ref x))(hj:(arrOf st)[j]?=some (.ref y,.ref y))(hx:Pr s.heap x p)(hy:Pr s.heap y q)(h:Q (some<|lexLt p q) st) :
  wpS (model prog w) A E s (ltAt' i j) Q st:=by
 rw [ltAt'_eq];refine DY<|wpS_get ?_;show wpS _ _ _ _ (elem' (arrOf st) i >>= λa=>elem' (arrOf st) j >>= λb=>lt' a b) Q st;rw [elem'_eq,elem'_eq,hi,hj];refine DY<|IV<|DY<|IV ?_;rw [lt'_eq];refine DY<|wpS_get ?_;rw [hk];refine DY<|wpS_lift<|wpAny_attempt<|Wm hx hy ⟨rfl,?_⟩;exact IV h
def kH(x y:Addr)(p q:Int×Int):Array Keyed:=if lexLt q p then #[(.ref y,.ref y),(.ref x,.ref x)] else #[(.ref x,.ref x),(.ref y,.ref y)]
theorem Wr{x y:Addr}{p q:Int×Int}{Q:Option Nat->SortSt->Prop}(hx:Pr s.heap x p)(hy:Pr s.heap y q)
  (h:Q (some 2)<|SortSt.mk' (tuples' true) (kH x y p q) #[] 7 none):wpS (model prog w) A E s (countRun' 0 2) Q (SortSt.mk' (tuples' true) #[(.ref x,.ref x),(.ref y,.ref y)] #[] 7 none):=by
 rw [countRun0_eq];refine DY ?_;unfold ascLoop;refine wpS_mono (KY (I:=λi c st=>st=SortSt.mk' (tuples' true) #[(.ref x,.ref x),(.ref y,.ref y)] #[] 7 none/\c=(none,i)/\(i=2->lexLt q p=false))
  (Q:=λc st=>st=SortSt.mk' (tuples' true) #[(.ref x,.ref x),(.ref y,.ref y)] #[] 7 none/\((c=(none,1)/\lexLt q p=true)\/(c=(none,2)/\lexLt q p=false))) ?_ ?_ ⟨rfl,rfl,λh=>by cases h⟩) ?_
 ·rintro i c st h1 h2 ⟨rfl,rfl,hI⟩;have e:i=1:=by omega
  subst e;refine DY<|wp_at rfl rfl rfl hy hx ?_
  dsimp only
  cases hb:lexLt q p with
  | true=>
   rw [BL rfl];exact IV ⟨rfl,.inl ⟨rfl,rfl⟩⟩
  | false=>
   rw [BK Aq];exact IV ⟨rfl,rfl,λ_=>rfl⟩
 ·rintro c st ⟨rfl,rfl,hI⟩;exact⟨rfl,.inr ⟨rfl,hI rfl⟩⟩
 ·rintro c st ⟨rfl,⟨rfl,hb⟩ | ⟨rfl,hb⟩⟩
  ·dsimp only
   rw [BK (by decide),BK<|by decide];unfold descPart;refine DY<|wpS_lift<|HW ⟨rfl,?_⟩;unfold descLoop;refine DY (wpS_mono (KY (I:=λi c st=>c=(none,2,0)/\st=SortSt.mk' (tuples' true) #[(.ref x,.ref x),(.ref y,.ref y)] #[] 7 none) (Q:=λc st=>c=(none,2,0)/\st=SortSt.mk' (tuples' true) #[(.ref x,.ref x),(.ref y,.ref y)] #[] 7 none) (λi c st h1 h2 _=>by omega) (λc st h=>h) ⟨rfl,rfl⟩) ?_);rintro c st ⟨rfl,rfl⟩
   dsimp only
   rw [BK<|by decide];unfold tail3;refine DY<|wpS_reverse ?_;unfold ascLoop;refine DY (wpS_mono (KY (I:=λi c st=>c=(none,2)/\st=SortSt.mk' (tuples' true) #[(.ref y,.ref y),(.ref x,.ref x)] #[] 7 none) (Q:=λc st=>c=(none,2)/\st=SortSt.mk' (tuples' true) #[(.ref y,.ref y),(.ref x,.ref x)] #[] 7 none) (λi c st h1 h2 _=>by omega) (λc st h=>h) ⟨rfl,rfl⟩) ?_);rintro c st ⟨rfl,rfl⟩
   dsimp only
   refine IV ?_;unfold kH at h;rw [BL hb] at h;exact h
  ·dsimp only
   rw [BL<|by decide];refine IV ?_;unfold kH at h;rw [BK<|by rw [hb];exact Aq] at h;exact h
theorem Ws{x y:Addr}{p q:Int×Int}{Q:Unit->SortSt->Prop}(hx:Pr s.heap x p)(hy:Pr s.heap y q)(h:∀ st,arrOf st=kH x y p q->failedOf st=none->Q () st) :
  wpS (model prog w) A E s sortRuns' Q (SortSt.mk' (tuples' true) #[(.ref x,.ref x),(.ref y,.ref y)] #[] 7 none):=by
 rw [sortRuns'_eq];refine DY<|wpS_get ?_
 dsimp only
 have Wt:minRun' 2 2 0=2:=by rw [minRun'_succ,BL<|by decide]
 show wpS _ _ _ _ ((forIn [0:2] _ _) >>= _) _ _;have sz:(#[(Value.ref x,Value.ref x),(Value.ref y,Value.ref y)]:Array Keyed).size=2:=rfl;refine DY<|wpS_mono (KY (I:=λi c st=>(i=0/\c=(none,0)/\st=SortSt.mk' (tuples' true) #[(.ref x,.ref x),(.ref y,.ref y)] #[] 7 none)\/(1<=i/\c=(none,2)/\st=SortSt.mk' (tuples' true) (kH x y p q) #[(0,2,0)] 7 none))
  (Q:=λc st=>c=(none,2)/\st=SortSt.mk' (tuples' true) (kH x y p q) #[(0,2,0)] 7 none) ?_ ?_ (.inl ⟨rfl,rfl,rfl⟩)) ?_
 ·rintro i c st h1 h2 (⟨rfl,rfl,rfl⟩ | ⟨hi,rfl,rfl⟩)
  ·dsimp only
   rw [BK<|by show ¬(0>=2);decide];refine DY ?_;show wpS _ _ _ _ (countRun' 0 2) _ _;refine Wr hx hy ?_
   dsimp only
   rw [BK<|by show ¬(2 < minRun' 2 2 0);rw [Wt];decide];refine DY<|wpS_get ?_;show wpS _ _ _ _ (modify _ >>= _) _ _;exact DY<|wpS_modify<|IV<|.inr ⟨Ao _,rfl,rfl⟩
  ·dsimp only
   rw [BL<|by show 2>=2;decide];exact IV ⟨rfl,rfl⟩
 ·rintro c st (⟨h1,_,_⟩ | ⟨_,hc,hs⟩)
  ·exact absurd h1<|by decide
  ·exact⟨hc,hs⟩
 ·rintro c st ⟨rfl,rfl⟩
  dsimp only
  refine DY<|wpS_mono (KY (I:=λ_ c st=>st=SortSt.mk' (tuples' true) (kH x y p q) #[(0,2,0)] 7 none/\c=(none,())) (Q:=λc st=>st=SortSt.mk' (tuples' true) (kH x y p q) #[(0,2,0)] 7 none/\c=(none,())) ?_ (λ_ _ hh=>hh) ⟨rfl,rfl⟩) ?_
  ·rintro i c st _ _ ⟨rfl,rfl⟩;refine DY<|wpS_get ?_;rw [BL<|by show 1<=1;decide];exact IV ⟨rfl,rfl⟩
  ·rintro c st ⟨rfl,rfl⟩;exact IV<|h _ rfl rfl
theorem Wu{a x y:Addr}{p q:Int×Int}{n:Nat}{P:Fin->Shared->Prop}(ho:s.heap.get? a=some (seqObj "list" #[.ref x,.ref y] n))(Wv:a≠x)(Ww:a≠y)(hx:Pr s.heap x p)(hy:Pr s.heap y q)
  (h:P (.done<|.ret .none) {s with heap:=sortedHeap s.heap a [.ref x,.ref y] (if lexLt p q then #[.ref y,.ref x] else #[.ref x,.ref y])}) :
  wpAny (model prog w) A (Builtin.«list.sort» ⟨[.ref a],[(Str.ofString "reverse",.bool true)]⟩) P E s:=by
 rw [list_sort_rev];have ha:a < s.heap.objs.size:=Av ho;refine BJ<|JN ho rfl ?_;refine BJ<|HJ ho rfl ?_;obtain⟨e1,jq⟩:∃ e1,(s.heap.update a<|Obj.mapSeq λ_=>#[]).get? a=some (seqObj "list" #[] e1):=⟨_,get?_update_seq ho λ_=>#[]⟩;refine BJ<|IW jq rfl ?_;refine BJ<|LK ?_;refine BJ<|GZ ?_;refine CP ?_;have js:(((s.heap.update a<|Obj.mapSeq λ_=>#[]).push<|seqObj "tuple" [Value.ref x,Value.ref y].toArray 0).push<|seqObj "list" #[] 0).get? a=some (seqObj "list" #[] e1):=
  Ai _ (Ai _ jq)
 show wpAny (model prog w) A _ P E {s with heap:=((s.heap.update a<|Obj.mapSeq λ_=>#[]).push<|seqObj "tuple" [Value.ref x,Value.ref y].toArray 0).push (seqObj "list" #[] 0)};have keep:∀ z r,a≠z->Pr s.heap z r->Pr (((s.heap.update a<|Obj.mapSeq λ_=>#[]).push<|seqObj "tuple" [Value.ref x,Value.ref y].toArray 0).push<|seqObj "list" #[] 0) z r:=by
  rintro z r hz ⟨o,m,t,u,q1,q2⟩;exact⟨o,m,t,u,Ai _<|Ai _<|(Bg _ _ hz).trans q1,q2⟩
 have kx:=keep x p Wv hx;have ky:=keep y q Ww hy
 dsimp only
 rw [BL rfl];refine BJ<|HW ?_;rw [BK<|by show ¬(2 < 2);decide];refine BJ<|Wq kx ky ?_;rw [BK<|by show ¬(2 < 2);decide];have e2:(if true=true then((#[Value.ref x,Value.ref y]:Array Value).zip #[Value.ref x,Value.ref y]).reverse else(#[Value.ref x,Value.ref y]:Array Value).zip #[Value.ref x,Value.ref y])=#[(Value.ref y,Value.ref y),(Value.ref x,Value.ref x)]:=by
  rw [BL rfl];simp
 rw [e2];refine BJ<|CK (Ws (Q:=λ_ st=>arrOf st=kH y x q p/\failedOf st=none) ky kx λst h1 h2=>⟨h1,h2⟩) ?_ λ_ _ e=>e;rintro ⟨⟨⟩,cS⟩ s' ⟨rfl,hs,hf⟩
 dsimp only
 have e3:(if true=true then((arrOf cS).map (·.2)).reverse else(arrOf cS).map (·.2))=(if lexLt p q then #[.ref y,.ref x] else #[.ref x,.ref y]):=by
  rw [BL rfl,hs];unfold kH
  split <;> simp
 refine BJ<|IW js rfl ?_;refine BJ (HJ js rfl ?_ (hsz2:=by rw [e3];split <;> exact Wo));rw [hf];simp only [HN,Cc,CW];refine BP ?_;have e4:(λ_:Array Value=>if True then((arrOf cS).map (·.2)).reverse else(arrOf cS).map (·.2))=λ_=>(if lexLt p q then #[.ref y,.ref x] else #[.ref x,.ref y]):=by
  funext _
  rw [BL trivial];rw [BL rfl] at e3;exact e3
 rw [e4];exact h
theorem Wx{l x y:Addr}{p q:Int×Int}{Q:Value->Shared->Prop}(hl:s.heap.IsList l #[.ref x,.ref y])(hx:Pr s.heap x p)(hy:Pr s.heap y q)
  (h:∀(h':Heap) (e:Nat),(∀ b u,s.heap.get? b=some u->h'.get? b=some u)->h'.get? (s.heap.objs.size+1)=some (seqObj "list" (if lexLt p q then #[.ref y,.ref x] else #[.ref x,.ref y]) e)->Q (.ref<|s.heap.objs.size+1) {s with heap:=h'}) :
  wpAny (model prog w) A (call (.builtin "sorted") [.ref l] [(Str.ofString "reverse",.bool true)]) Q E s:=by
 refine call_function_entry_kw kind_sorted plain_sorted entry_sorted (args_sorted_rev _ _) ?_;unfold Builtin.«sorted»;refine BJ (m:=checkCount "sorted" 1 1 _)<|BP ?_;refine BJ<|collect_list (vs:=[.ref x,.ref y]) hl ?_;refine BJ<|GZ ?_;have hsz:((s.heap.push<|seqObj "list" #[] 0).update s.heap.objs.size (Obj.mapSeq (·++[Value.ref x,Value.ref y].toArray))).objs.size=s.heap.objs.size+1:=by
  rw [QG,PK]
 have iy:(((s.heap.push<|seqObj "list" #[] 0).update s.heap.objs.size (Obj.mapSeq (·++[Value.ref x,Value.ref y].toArray))).push<|seqObj "list" [Value.ref x,Value.ref y].toArray 0).get? (s.heap.objs.size+1)=some (seqObj "list" [Value.ref x,Value.ref y].toArray 0):=by
  rw [<- hsz];exact Be _ rfl
 have lx:x < s.heap.objs.size:=let ⟨_,_,_,_,e,_⟩:=hx;Av e
 have ly:y < s.heap.objs.size:=let ⟨_,_,_,_,e,_⟩:=hy;Av e
 have keep:∀ z r,Pr s.heap z r->Pr (((s.heap.push<|seqObj "list" #[] 0).update s.heap.objs.size (Obj.mapSeq (·++[Value.ref x,Value.ref y].toArray))).push<|seqObj "list" [Value.ref x,Value.ref y].toArray 0) z r:=by
  rintro z r ⟨o,m,t,u,q1,q2⟩;have hz:=Av q1;exact⟨o,m,t,u,Ai _<|(Bg _ _<|Dc hz).trans<|Ai _ q1,q2⟩
 show wpAny _ _ _ _ _ {s with heap:=((s.heap.push<|seqObj "list" #[] 0).update s.heap.objs.size (Obj.mapSeq (·++[Value.ref x,Value.ref y].toArray))).push (seqObj "list" [Value.ref x,Value.ref y].toArray 0)};rw [hsz];refine BJ<|CP<|wpAny_call_entry_kw slot_list_sort ⟨_,iy,rfl⟩ entry_list_sort (Wu iy (Dc<|Cq lx) (Dc<|Cq ly) (keep x p hx) (keep y q hy) ⟨_,rfl,?_⟩)<|args_list_sort_rev _ _;obtain⟨e,he⟩:=sortedAll_at s.heap [Value.ref x,Value.ref y] (if lexLt p q then #[.ref y,.ref x] else #[.ref x,.ref y]);exact BP ⟨_,rfl,h _ e (λb u hb=>NQ hb) he⟩
end
end bn
namespace L2
open PySem PySem.Spec PyProof.Rows bn
section
variable{X:Cx}{e:Expr}{σ:St}{H:Hp}{Q:VK}{pos p kp cp:Pos}{j:Nat}
theorem Mp{pins:List (Addr×Obj)}{s:Shared}{a:Addr}{i j:Int}(I:Inv X pins σ H s)(h:H a=some (.tup [.int i,.int j])):Pr s.heap a (i,j):=by
 obtain⟨its,r,pl,_⟩:=I.tuple<|aW.of h;obtain⟨u,v,rfl,⟨t,rfl⟩,⟨t',rfl⟩⟩:=vals2 r;obtain⟨o,ho,hc,n,hd⟩:=pl;exact⟨o,n,t,t',ho,hc,hd⟩
theorem Wy(hm:X.mg "sorted" = none) (h:Ev X e σ H λv H1=>∃ l x y a b c d,v = .ref l/\H1 l=some (.lst [.ref x,.ref y])/\H1 x=some (.tup [.int a,.int b])/\H1 y=some (.tup [.int c,.int d]) /\
   ∀ r,H1 r=none->Q (.ref r) (upd H1 r<|.lst (if lexLt (a,b) (c,d) then [.ref y,.ref x] else [.ref x,.ref y]))) (hg:Gl X "sorted":=by rfl)
  (he:backTo pos (starEach [e] X.env)=(false,eval e X.env) :: backTo pos (starEach [] X.env):=by rfl) (bK:(backTo pos<|starEach [e] X.env).any (·.1)=false:=by rfl) (cR:isStar e=false:=by rfl) :
  Ev X (.Call (.Name "sorted" p) [e] [⟨some "reverse",.Constant (.bool true) j cp,kp⟩] pos) σ H Q:=by
 refine⟨λpins s I=>?_⟩;refine HS<|vX I hg hm FT ?_;have hE:Ea X [e] σ H λvs H1=>∃ l x y a b c d,vs=[.ref l]/\H1 l=some (.lst [.ref x,.ref y])/\H1 x=some (.tup [.int a,.int b])/\H1 y=some (.tup [.int c,.int d]) /\
   ∀ r,H1 r=none->Q (.ref r) (upd H1 r<|.lst (if lexLt (a,b) (c,d) then [.ref y,.ref x] else [.ref x,.ref y])):=
  ah (h.mono λv H1 ⟨l,x,y,a,b,c,d,e1,r1⟩=>ay ⟨l,x,y,a,b,c,d,by rw [e1],r1⟩) cR
 refine callWith_kw (aS (hE.run pos pins s I) λus s1 ⟨vs,H1,I1,r1,l,x,y,a,b,c,d,ev,hl,hx,hy,q⟩=>?_) he bK;subst ev;obtain⟨u,rfl,ru⟩:=vals1 r1;cases (show u=Value.ref l from ru);refine kws_cons<|BP<|kws_nil ?_;obtain⟨its,r2,pl,_⟩:=I1.list<|al.of hl;obtain⟨u,v,rfl,ru,rv⟩:=vals2 r2;cases (show u=Value.ref x from ru);cases (show v=Value.ref y from rv);refine Wx pl.isList (Mp I1 hx) (Mp I1 hy) λh' e kp he=>?_;refine⟨.ref _,_,I1.gu (s':={s1 with heap:=h'}) kp rfl rfl (Eh _) (show aH X.prog X.w _ h' _ (.lst (if lexLt (a,b) (c,d) then [.ref y,.ref x] else [.ref x,.ref y])) from ?_),rfl,q _<|I1.aJ.fresh<|Eh _⟩
 split at he
 ·rename_i hb;rw [BL hb];exact⟨by show 2<=sizeLine;rw [CV];decide,[.ref y,.ref x],e,.cons rfl (.cons rfl .nil),he⟩
 ·rename_i hb;rw [BK hb];exact⟨by show 2<=sizeLine;rw [CV];decide,[.ref x,.ref y],e,.cons rfl (.cons rfl .nil),he⟩
end
end L2
namespace Nt
open PySem
abbrev Net:=List<|Str×List Str
abbrev End:=Nat×Nat
def row(n:Net)(r:Nat):List Str:=((n[r]?).map (·.2)).getD []
def ax(n:Net)(e:End):Option Str:=(row n e.1)[e.2]?
def bb(r:Nat)(ts:List Str)(p:Nat):List (Str×End):=(ts.zipIdx p).map λx=>(x.1,(r,x.2))
def c8(r:Nat):Net->List (Str×End)
 | []=>[]
 | a :: n=>bb r a.2 0++c8 (r+1) n
def bE(n:Net):List (Str×End):=c8 0 n
def ends(n:Net):List End:=(bE n).map (·.2)
def ag(n:Net):List Str:=n.flatMap (·.2)
def pos(n:Net)(z:Str):List End:=((bE n).filter λx=>decide (x.1=z)).map (·.2)
theorem aY{r:Nat}{ts:List Str}{p:Nat}{z:Str}{e:End}:(z,e)∈bb r ts p↔e.1=r/\p<=e.2/\ts[e.2 - p]?=some z:=by
 unfold bb;rw [Aj]
 constructor
 ·rintro ⟨⟨y,k⟩,hm,he⟩;cases he;have:=Fr.mp hm;exact⟨rfl,this.1,this.2⟩
 ·rintro ⟨h1,h2,h3⟩;refine⟨(z,e.2),Fr.mpr ⟨h2,h3⟩,?_⟩;rw [<- h1]
theorem bw:∀{n:Net} {k:Nat} {z:Str} {e:End},(z,e)∈c8 k n↔k<=e.1/\(row n<|e.1 - k)[e.2]?=some z
 | [],k,z,e=>by
  constructor
  ·intro h;cases h
  ·rintro ⟨_,h⟩;simp [row] at h
 | a :: n,k,z,e=>by
  unfold c8;rw [Ap,aY,bw]
  constructor
  ·rintro (⟨h1,_,h3⟩ | ⟨h1,h2⟩)
   ·refine⟨by omega,?_⟩;rw [show e.1 - k=0 by omega]
    simpa [row] using h3
   ·refine⟨by omega,?_⟩;rw [show e.1 - k=(e.1 - (k+1))+1 by omega]
    simpa [row] using h2
  ·rintro ⟨h1,h2⟩
   rcases Fa k e.1 with h | h
   ·refine .inr ⟨h,?_⟩;rw [show e.1 - k=(e.1 - (k+1))+1 by omega] at h2
    simpa [row] using h2
   ·refine .inl ⟨by omega,Ci _,?_⟩;rw [show e.1 - k=0 by omega] at h2
    simpa [row] using h2
theorem aV{n:Net}{z:Str}{e:End}:(z,e)∈bE n↔ax n e=some z:=by
 unfold bE ax;rw [bw];simp
theorem af{n:Net}{e:End}:e∈ends n↔∃ z,ax n e=some z:=by
 unfold ends;rw [Aj]
 constructor
 ·rintro ⟨⟨z,e'⟩,h,rfl⟩;exact⟨z,aV.mp h⟩
 ·rintro ⟨z,h⟩;exact⟨(z,e),aV.mpr h,rfl⟩
theorem aO{n:Net}{z:Str}{e:End}:e∈pos n z↔ax n e=some z:=by
 unfold pos;rw [Aj]
 constructor
 ·rintro ⟨⟨y,e'⟩,h,rfl⟩;rw [Au,CN] at h;obtain⟨h1,h2⟩:=h;subst h2;exact aV.mp h1
 ·intro h;exact⟨(z,e),Au.mpr ⟨aV.mpr h,by simp⟩,rfl⟩
theorem Wz(r:Nat):∀(ts:List Str) (p:Nat),(bb r ts p).map (·.1)=ts:=by
 intro ts p;unfold bb;rw [Bb];have:((λx:Str×End=>x.1) ∘ λx:Str×Nat=>(x.1,(r,x.2)))=Prod.fst:=rfl;rw [this,List.zipIdx_map_fst]
theorem mU:∀(n:Net) (k:Nat),(c8 k n).map (·.1)=ag n
 | [],_=>rfl
 | a :: n,k=>by
  unfold c8 ag;rw [Al,Wz,mU n<|k+1,Fb];rfl
theorem WB(r:Nat)(ts:List Str)(p:Nat):((bb r ts p).map (·.2)).Nodup:=by
 unfold bb;rw [Bb];have e:((λx:Str×End=>x.2) ∘ λx:Str×Nat=>(x.1,(r,x.2)))=(λk:Nat=>(r,k)) ∘ Prod.snd:=rfl;rw [e,<- Bb,He];refine List.Pairwise.map _ (R:=(·≠·)) ?_ List.nodup_range';intro a b h ie;exact h (Prod.mk.inj ie).2
theorem Mq:∀(n:Net) (k:Nat),((c8 k n).map (·.2)).Nodup
 | [],_=>Db
 | a :: n,k=>by
  unfold c8;rw [Al,Ce];refine⟨WB _ _ _,Mq n<|k+1,?_⟩;intro x hx y hy e;subst e;obtain⟨⟨z,e1⟩,h1,rfl⟩:=Aj.mp hx;obtain⟨⟨z2,e2⟩,h2,he⟩:=Aj.mp hy;simp only at he;subst he;have q1:=(aY.mp h1).1;have q2:=(bw.mp h2).1;omega
theorem jt(n:Net):(ends n).Nodup:=Mq n 0
theorem Mr(n:Net)(z:Str):(pos n z).Nodup:=by
 unfold pos;exact(jt n).sublist<|List.Sublist.map _<|List.filter_sublist
theorem oZ(n:Net)(z:Str):(pos n z).length=(ag n).count z:=by
 unfold pos;rw [Aa,<- mU n 0,<- LQ,List.count,List.countP_map];rfl
def aj(n:Net):Prop:=∀ z∈ag n,(ag n).count z=2
theorem eX{n:Net}{e:End}{z:Str}(h:ax n e=some z):z∈ag n:=by
 have:=aV.mpr h;rw [<- mU n 0];exact Aj.mpr ⟨_,this,rfl⟩
def other(n:Net)(e:End):End:=match ax n e with
 | some z=>(match pos n z with
  | [a,b]=>if a=e then b else a
  | _=>e)
 | none=>e
theorem o4{n:Net}(T:aj n){e:End}{z:Str}(h:ax n e=some z):∃ a b,pos n z=[a,b]/\a≠b/\(e=a\/e=b):=by
 have hl:=oZ n z;rw [T z<|eX h] at hl;have hn:=Mr n z;have hm:=aO.mpr h
 match hp:pos n z,hl with
 | [a,b],_=>
  rw [hp] at hn hm;refine⟨a,b,rfl,?_,?_⟩
  ·intro e;subst e;simp at hn
  ·simpa using hm
theorem cL{n:Net}(T:aj n){e:End}{z:Str}(h:ax n e=some z):ax n (other n e)=some z/\other n (other n e)=e/\other n e≠e:=by
 obtain⟨a,b,hp,ie,he⟩:=o4 T h;have ha:ax n a=some z:=aO.mp (by rw [hp];simp);have hb:ax n b=some z:=aO.mp<|by rw [hp];simp
 rcases he with rfl | rfl
 ·have e1:other n e=b:=by unfold other;simp only [h,hp];simp
  have e2:other n b=e:=by unfold other;simp only [hb,hp];simp [ie]
  rw [e1];exact⟨hb,e2,ie.symm⟩
 ·have e1:other n e=a:=by unfold other;simp only [h,hp];simp [ie]
  have e2:other n a=e:=by unfold other;simp only [ha,hp];simp
  rw [e1];exact⟨ha,e2,ie⟩
def left(n:Net)(e:End):End:=(e.1,(e.2+1) % (row n e.1).length)
def step(n:Net)(e:End):End:=left n (other n e)
theorem eQ{n:Net}{e:End}{z:Str}(h:ax n e=some z):e.2 < (row n e.1).length:=(Ad.mp h).1
theorem cE{n:Net}{e:End}{z:Str}(h:ax n e=some z):e.1 < n.length:=by
 rcases Fa e.1 n.length with c | c
 ·exact c
 ·have:=eQ h;unfold row at this;rw [Br c] at this;simp at this
theorem tN{n:Net}{e:End}(h:e.2 < (row n e.1).length):∃ z,ax n e=some z:=⟨_,Ab h⟩
theorem A9{n:Net}{e:End}(h:e∈ends n):left n e∈ends n:=by
 obtain⟨z,h⟩:=af.mp h;have:=eQ h;exact af.mpr<|tN (show(e.2+1) % (row n e.1).length < (row n e.1).length from Nat.mod_lt _<|by omega)
theorem c9{n:Net}(T:aj n){e:End}(h:e∈ends n):other n e∈ends n:=by
 obtain⟨z,h⟩:=af.mp h;exact af.mpr ⟨z,(cL T h).1⟩
theorem kI{n:Net}(T:aj n){e:End}(h:e∈ends n):step n e∈ends n:=A9<|c9 T h
theorem Mt{n:Net}{a b:End}(ha:a∈ends n)(hb:b∈ends n)(h:left n a=left n b):a=b:=by
 obtain⟨z,ha⟩:=af.mp ha;obtain⟨y,hb⟩:=af.mp hb;have la:=eQ ha;have lb:=eQ hb;unfold left at h;obtain⟨h1,h2⟩:=Prod.mk.inj h;rw [h1] at la h2;have:a.2=b.2:=by
  rcases Fa (a.2+1) (row n b.1).length with c | c <;> rcases Fa (b.2+1) (row n b.1).length with d | d
  ·rw [Bw c,Bw d] at h2;omega
  ·have e:b.2+1=(row n b.1).length:=by omega
   rw [Bw c,e,Dm] at h2;omega
  ·have e:a.2+1=(row n b.1).length:=by omega
   rw [Bw d,e,Dm] at h2;omega
  ·omega
 exact EY h1 this
theorem WC{n:Net}(T:aj n){a b:End}(ha:a∈ends n)(hb:b∈ends n)(h:other n a=other n b):a=b:=by
 obtain⟨z,ha⟩:=af.mp ha;obtain⟨y,hb⟩:=af.mp hb;rw [<- (cL T ha).2.1,h,(cL T hb).2.1]
theorem tO{n:Net}(T:aj n){a b:End}(ha:a∈ends n)(hb:b∈ends n)(h:step n a=step n b):a=b:=
 WC T ha hb (Mt (c9 T ha) (c9 T hb) h)
theorem aI{α:Type} [DecidableEq α]:∀{a b:List α},a.Nodup->(∀ z∈a,z∈b)->a.length<=b.length
 | [],b,_,_=>Ci _
 | x :: r,b,hn,hs=>by
  rw [Bu] at hn;have hx:=hs x Ac;have:=aI (a:=r) (b:=b.erase x) hn.2 λz hz=>by
   have a7:z≠x:=λe=>hn.1<|e ▸ hz;exact(Fc a7).mpr<|hs z<|Af _ hz
  rw [Dy hx] at this;have hp:0 < b.length:=Ed hx;rw [Ax];omega
def it{α:Type}(f:α->α):Nat->α->α
 | 0,a=>a
 | k+1,a=>f<|it f k a
theorem ig{α:Type}{f:α->α}{S:List α}(hf:∀ a∈S,f a∈S){a:α}(h:a∈S):∀ k,it f k a∈S
 | 0=>h
 | k+1=>hf _<|ig hf h k
theorem BA{α:Type} [DecidableEq α] {f:α->α} {S:List α} (hf:∀ a∈S,f a∈S) (inj:∀ a∈S,∀ b∈S,f a=f b->a=b) {a:α} (h:a∈S):∃ k,0 < k/\k<=S.length/\it f k a=a:=by
 have cancel:∀ i j,it f i a=it f (i+j) a->it f j a=a:=by
  intro i
  induction i with
  | zero=>intro j e;rw [Gj] at e;exact e.symm
  | succ i ih=>
   intro j e;refine ih j ?_;rw [show i+1+j=(i+j)+1 by omega] at e;exact inj _ (ig hf h i) _ (ig hf h<|i+j) e
 refine BX λhn=>?_;have nd:((List.range<|S.length+1).map λi=>it f i a).Nodup:=by
  refine List.Pairwise.map _ (R:=λi j=>i < j/\j < S.length+1) ?_ ?_
  ·rintro i j ⟨h1,h2⟩ e;refine hn ⟨j - i,by omega,by omega,cancel i (j - i) ?_⟩;rw [show i+(j - i)=j by omega];exact e
  ·rw [Bh];intro i j hi hj dD;simp only [Em];simp at hj;exact⟨dD,hj⟩
 have:=aI nd λz hz=>by
  obtain⟨i,_,rfl⟩:=Aj.mp hz;exact ig hf h i
 simp at this;omega
theorem lI:∀(n:Net) (r:Nat),(row n r).length<=(ag n).length
 | [],r=>by simp [row,ag]
 | a :: n,0=>by simp [row,ag]
 | a :: n,r+1=>by
  have:=lI n r;simp [row,ag] at this ⊢;omega
theorem Mu:∀(n:Net) (r:Nat),(ag<|n.take r).length<=(ag n).length
 | [],r=>by simp [ag]
 | a :: n,0=>by simp [ag]
 | a :: n,r+1=>by
  have:=Mu n r;simp [ag] at this ⊢;omega
structure cj(n:Net)(e:Nt.End)(fs:List End):Prop where
 pos:0 < fs.length
 len:fs.length<=(ends n).length
 at':∀ i,i < fs.length->fs[i]?=some (it (step n) i e)
 back:it (step n) fs.length e=e
 first:∀ i,0 < i->i < fs.length->it (step n) i e≠e
open L2
abbrev Ls(zs:List Str):HO:= .lst<|zs.map V.str
abbrev Tp(e:End):HO:= .tup [.int e.1,.int e.2]
structure ai(H:Hp)(R:Addr)(as:List<|Addr×Addr)(n:Net):Prop where
 len:as.length=n.length
 lst:H R=some (.lst<|as.map λa=> .ref a.1)
 tup:∀(i:Nat) a r,as[i]?=some a->n[i]?=some r->H a.1=some (.tup [.str r.1,.ref a.2])/\H a.2=some (Ls r.2)
 inj:(as.map (·.2)).Nodup
theorem ai.same{H H':Hp}{R:Addr}{as:List (Addr×Addr)}{n:Net}(h:ai H R as n)(s:ak H H'):ai H' R as n:=
 ⟨h.len,s _ _ h.lst,λi a r h1 h2=>⟨s _ _ (h.tup i a r h1 h2).1,s _ _ (h.tup i a r h1 h2).2⟩,h.inj⟩
theorem ai.at{H:Hp}{R:Addr}{as:List (Addr×Addr)}{n:Net}(h:ai H R as n){i:Nat}(hi:i < n.length) :
  ∃ a,as[i]?=some a/\gj (as.map λa=>V.ref a.1) (i:Int)=some (.ref a.1)/\H a.1=some (.tup [.str n[i].1,.ref a.2])/\H a.2=some (Ls<|row n i)/\row n i=n[i].2:=by
 have hl:=h.len;have e:as[i]?=some as[i]:=Ab (by omega);have er:row n i=n[i].2:=by unfold row;rw [Ab hi];rfl
 have q:=h.tup i as[i] n[i] e<|Ab hi;refine⟨as[i],e,qC (by rw [Ag,e];rfl),q.1,?_,er⟩;rw [er];exact q.2
theorem tP{zs:List Str}{j:Nat}{z:Str}(h:zs[j]?=some z):gj (zs.map V.str) (j:Int)=some (.str z):=qC<|by rw [Ag,h];rfl
inductive Pd (H:Hp):List Addr->List End->Prop where
 | nil:Pd H [] []
 | cons {t:Addr} {e:End} {ts:List Addr} {es:List End}:H t=some (Tp e)->Pd H ts es->Pd H (t :: ts) (e :: es)
theorem Pd.append{H:Hp}{ts us:List Addr}{es fs:List End}(h:Pd H ts es)(g:Pd H us fs):Pd H (ts++us) (es++fs):=by
 induction h with
 | nil=>exact g
 | cons h1 _ ih=>exact .cons h1 ih
theorem Pd.keep{H H':Hp}{ts:List Addr}{es:List End}(h:Pd H ts es)(k:∀ t e,H t=some (Tp e)->H' t=some (Tp e)):Pd H' ts es:=by
 induction h with
 | nil=>exact .nil
 | cons h1 _ ih=>exact .cons (k _ _ h1) ih
theorem Pd.length{H:Hp}{ts:List Addr}{es:List End}(h:Pd H ts es):ts.length=es.length:=by
 induction h with
 | nil=>rfl
 | cons _ _ ih=>rw [Ax,Ax,ih]
theorem Pd.at{H:Hp}{ts:List Addr}{es:List End}(h:Pd H ts es):∀{i:Nat} {e:End},es[i]?=some e->∃ t,ts[i]?=some t/\H t=some (Tp e):=by
 induction h with
 | nil=>intro i e h;simp at h
 | cons h1 _ ih=>
  intro i e h;cases i with
  | zero=>simp at h;subst h;exact⟨_,rfl,h1⟩
  | succ i=>simp only [Eb] at h ⊢;exact ih h
def bF(done:List<|Str×End)(z:Str):List End:=(done.filter λx=>decide (x.1=z)).map (·.2)
theorem d8(done:List<|Str×End)(y z:Str)(e:End):bF (done++[(y,e)]) z=bF done z++(if y=z then [e] else []):=by
 unfold bF;rw [Cw,Al]
 congr 1
 by_cases h:y=z
 ·rw [BL h];simp [h]
 ·rw [BK h];simp [h]
structure aZ(H0 H:Hp)(d:Addr)(done:List<|Str×End)(kvs:List<|Key×V)(ks:List Str)(A:Str->Option (Addr×List Addr)):Prop where
 same:ak H0 H
 free:H0 d=none
 dict:H d=some (.dK kvs)
 keys:kvs.map (·.1)=ks.map Sum.inr
 nodup:ks.Nodup
 mem:∀ z,z∈ks↔(A z).isSome=true
 val:∀ z,aA kvs (Sum.inr z)=(A z).map λa=> .ref a.1
 at':∀ z a ts,A z=some (a,ts)->H0 a=none/\a≠d/\H a=some (.lst<|ts.map V.ref)/\Pd H ts (bF done z)
 inj:∀ z y a ts us,A z=some (a,ts)->A y=some (a,us)->z=y
 gy:∀ z,A z=none->bF done z=[]
 some':∀ z a ts,A z=some (a,ts)->bF done z≠[]
theorem aZ.start{H:Hp}{d:Addr}(h:H d=none):aZ H (upd H d<|.dK []) d [] [] [] (λ_=>none) where
 same:=λb u q=>by rw [aw<|bP q h];exact q
 free:=h
 dict:=az
 keys:=rfl
 nodup:=Db
 mem:=λz=>by simp
 val:=λz=>rfl
 at':=λz a ts h=>by cases h
 inj:=λz y a ts us h=>by cases h
 gy:=λz _=>rfl
 some':=λz a ts h=>by cases h
theorem tQ{H:Hp}{t a:Addr}{e:End}{xs:List V}(h:H t=some (Tp e))(g:H a=some (.lst xs)):t≠a:=eF h g λz=>nomatch z
theorem aZ.old{H0 H:Hp}{d:Addr}{done:List (Str×End)}{kvs:List (Key×V)}{ks:List Str}{A:Str->Option (Addr×List Addr)}(S:aZ H0 H d done kvs ks A){z:Str}{e:End}{a l0 t:Addr}{ts:List Addr}
  (hA:A z=some (a,ts)) (hl:H l0=none) (ht:(upd H l0<|.lst []) t=none) :
  aZ H0 (upd (upd (upd H l0<|.lst []) t<|Tp e) a<|.lst<|ts.map V.ref++[.ref t]) d (done++[(z,e)]) kvs ks (λy=>if y=z then some (a,ts++[t]) else A y):=by
 obtain⟨q1,q2,q3,q4⟩:=S.at' z a ts hA;have wF:H t=none:=by
  by_cases c:t=l0
  ·rw [c,az] at ht;cases ht
  ·rwa [aw c] at ht
 have o5:l0≠a:=(bP q3 hl).symm;have wG:t≠a:=(bP q3 wF).symm;have eY:a≠t:=wG.symm;have keep:∀ b u,b≠a->H b=some u->(upd (upd (upd H l0<|.lst []) t<|Tp e) a<|.lst<|ts.map V.ref++[.ref t]) b=some u:=λb u h1 h2=>by
  rw [aw h1,aw<|bP h2 wF,aw<|bP h2 hl];exact h2
 have kt:∀ b f,H b=some (Tp f)->(upd (upd (upd H l0<|.lst []) t<|Tp e) a<|.lst<|ts.map V.ref++[.ref t]) b=some (Tp f):=λb f h=>keep b _ (tQ h q3) h;have et:(upd (upd (upd H l0<|.lst []) t<|Tp e) a<|.lst<|ts.map V.ref++[.ref t]) t=some (Tp e):=by rw [aw wG,az]
 refine⟨λb u h=>?_,S.free,keep d _ (Ne.symm q2) S.dict,S.keys,S.nodup,λy=>?_,λy=>?_,λy a' fz h=>?_,λy y' a' fz us h1 h2=>?_,λy h=>?_,λy a' fz h=>?_⟩
 ·exact keep b u (bP h q1)<|S.same _ _ h
 ·rw [S.mem y]
  by_cases c:y=z
  ·rw [BL c,c,hA];simp
  ·rw [BK c]
 ·rw [S.val y]
  by_cases c:y=z
  ·rw [BL c,c,hA];rfl
  ·rw [BK c]
 ·by_cases c:y=z
  ·rw [BL c] at h;cases h;refine⟨q1,q2,by rw [az,Al];rfl,?_⟩;rw [d8,c,BL rfl];exact(q4.keep kt).append<|.cons et .nil
  ·rw [BK c] at h;obtain⟨r1,r2,r3,r4⟩:=S.at' y a' fz h;have a7:a'≠a:=λe2=>c<|S.inj y z a fz ts (e2 ▸ h) hA;refine⟨r1,r2,keep _ _ a7 r3,?_⟩;rw [d8,BK λh=>c h.symm,Bc];exact r4.keep kt
 ·by_cases c:y=z <;> by_cases c':y'=z
  ·rw [c,c']
  ·rw [BL c] at h1;rw [BK c'] at h2;cases h1;exact absurd (S.inj y' z a us ts h2 hA) c'
  ·rw [BK c] at h1;rw [BL c'] at h2;cases h2;exact absurd (S.inj y z a fz ts h1 hA) c
  ·rw [BK c] at h1;rw [BK c'] at h2;exact S.inj y y' a' fz us h1 h2
 ·by_cases c:y=z
  ·rw [BL c] at h;cases h
  ·rw [BK c] at h;rw [d8,BK λh=>c h.symm,Bc];exact S.gy y h
 ·by_cases c:y=z
  ·rw [d8,BL c.symm];simp
  ·rw [BK c] at h;rw [d8,BK λh=>c h.symm,Bc];exact S.some' y a' fz h
theorem aZ.new{H0 H:Hp}{d:Addr}{done:List (Str×End)}{kvs:List (Key×V)}{ks:List Str}{A:Str->Option (Addr×List Addr)}(S:aZ H0 H d done kvs ks A){z:Str}{e:End}{l0 t:Addr}
  (hA:A z=none) (hl:H l0=none) (ht:(upd (upd H l0<|.lst []) d<|.dK<|putK kvs (Sum.inr z)<|.ref l0) t=none) :
  aZ H0 (upd (upd (upd (upd H l0<|.lst []) d<|.dK<|putK kvs (Sum.inr z)<|.ref l0) t<|Tp e) l0<|.lst [.ref t]) d (done++[(z,e)]) (putK kvs (Sum.inr z)<|.ref l0) (ks++[z]) (λy=>if y=z then some (l0,[t]) else A y):=by
 have gA:d≠l0:=bP S.dict hl;have BD:t≠d:=λc=>by rw [c,az] at ht;cases ht
 have o6:t≠l0:=λc=>by rw [aw BD,c,az] at ht;cases ht
 have wF:H t=none:=by rwa [aw BD,aw o6] at ht
 have vn:aA kvs (Sum.inr z)=none:=by rw [S.val z,hA];rfl
 have keep:∀ b u,b≠d->H b=some u->(upd (upd (upd (upd H l0<|.lst []) d<|.dK<|putK kvs (Sum.inr z)<|.ref l0) t<|Tp e) l0<|.lst [.ref t]) b=some u:=λb u h1 h2=>by
  rw [aw<|bP h2 hl,aw<|bP h2 wF,aw h1,aw<|bP h2 hl];exact h2
 have kt:∀ b f,H b=some (Tp f)->(upd (upd (upd (upd H l0<|.lst []) d<|.dK<|putK kvs (Sum.inr z)<|.ref l0) t<|Tp e) l0<|.lst [.ref t]) b=some (Tp f):=λb f h=>keep b _ (eF h S.dict λz=>nomatch z) h;have WD:H0 l0=none:=S.same.free hl;have zk:z∉ks:=λh=>by
  have:=(S.mem z).mp h;rw [hA] at this;cases this
 refine⟨λb u h=>?_,S.free,?_,?_,?_,λy=>?_,λy=>?_,λy a' fz h=>?_,λy y' a' fz us h1 h2=>?_,λy h=>?_,λy a' fz h=>?_⟩
 ·exact keep b u (bP h S.free)<|S.same _ _ h
 ·rw [aw gA,aw BD.symm,az]
 ·rw [UE _ vn,Al,S.keys,Al];rfl
 ·rw [Ce];exact⟨S.nodup,by simp,λx hx y hy e=>by rw [Ae] at hy;subst hy e;exact zk hx⟩
 ·rw [Ap,Ae,S.mem y]
  by_cases c:y=z
  ·rw [BL c];simp [c]
  ·rw [BK c];simp [c]
 ·rw [fm]
  by_cases c:y=z
  ·rw [BL (by rw [c]),BL c];rfl
  ·rw [BK λh=>c<|Sum.inr.inj h,BK c,S.val y]
 ·by_cases c:y=z
  ·rw [BL c] at h;cases h;refine⟨WD,gA.symm,by rw [az];rfl,?_⟩;rw [d8,c,BL rfl,S.gy z hA];exact .cons (by rw [aw o6,az]) .nil
  ·rw [BK c] at h;obtain⟨r1,r2,r3,r4⟩:=S.at' y a' fz h;refine⟨r1,r2,keep _ _ r2 r3,?_⟩;rw [d8,BK λh=>c h.symm,Bc];exact r4.keep kt
 ·by_cases c:y=z <;> by_cases c':y'=z
  ·rw [c,c']
  ·rw [BL c] at h1;rw [BK c'] at h2;cases h1;exact absurd hl<|by rw [(S.at' y' l0 us h2).2.2.1];exact λh=>nomatch h
  ·rw [BK c] at h1;rw [BL c'] at h2;cases h2;exact absurd hl<|by rw [(S.at' y l0 fz h1).2.2.1];exact λh=>nomatch h
  ·rw [BK c] at h1;rw [BK c'] at h2;exact S.inj y y' a' fz us h1 h2
 ·by_cases c:y=z
  ·rw [BL c] at h;cases h
  ·rw [BK c] at h;rw [d8,BK λh=>c h.symm,Bc];exact S.gy y h
 ·by_cases c:y=z
  ·rw [d8,BL c.symm];simp
  ·rw [BK c] at h;rw [d8,BK λh=>c h.symm,Bc];exact S.some' y a' fz h
theorem BE:∀(n m:Net) (k:Nat),c8 k (n++m)=c8 k n++c8 (k+n.length) m
 | [],m,k=>rfl
 | a :: n,m,k=>by
  show bb k a.2 0++c8 (k+1) (n++m)=(bb k a.2 0++c8 (k+1) n)++c8 (k+(n.length+1)) m;rw [BE n m<|k+1,At,show k+1+n.length=k+(n.length+1) by omega]
theorem tR{n:Net}{r:Nat}(h:r < n.length):bE (n.take<|r+1)=bE (n.take r)++bb r (row n r) 0:=by
 unfold bE;rw [Cr,Ab h,BE];have e:(n.take r).length=r:=by rw [Bo];omega
 rw [e,Gj];have er:row n r=n[r].2:=by unfold row;rw [Ab h];rfl
 rw [er];show _++(bb r n[r].2 0++[])=_;rw [Bc]
theorem tS{r:Nat}{ts:List Str}{p:Nat}{z:Str}(h:ts[p]?=some z):bb r (ts.take<|p+1) 0=bb r (ts.take p) 0++[(z,(r,p))]:=by
 unfold bb;have hp:=(Ad.mp h).1;rw [Cr,h,MP,Al];have e:(ts.take p).length=p:=by rw [Bo];omega
 rw [e,Gj];rfl
structure bQ(H:Hp)(d:Addr)(n:Net)(ks:List Str):Prop where
 dict:∃ kvs,H d=some (.dK kvs)/\kvs.map (·.1)=ks.map Sum.inr/\∀ z∈ag n,∃ a ts,aA kvs (Sum.inr z)=some (.ref a)/\H a=some (.lst<|ts.map V.ref)/\Pd H ts (pos n z)
 nodup:ks.Nodup
 mem:∀ z,z∈ks↔z∈ag n
theorem bQ.same{H H':Hp}{d:Addr}{n:Net}{ks:List Str}(S:bQ H d n ks)(s:ak H H'):bQ H' d n ks:=by
 obtain⟨kvs,h1,h2,h3⟩:=S.dict;refine⟨⟨kvs,s _ _ h1,h2,λz hz=>?_⟩,S.nodup,S.mem⟩;obtain⟨a,ts,q1,q2,q3⟩:=h3 z hz;exact⟨a,ts,q1,s _ _ q2,q3.keep λt e h=>s _ _ h⟩
theorem dS{n:Net}{z:Str}:z∈ag n↔pos n z≠[]:=by
 rw [<- Bt,<- oZ,Cj]
theorem aZ.whole{H0 H:Hp}{d:Addr}{n:Net}{kvs:List (Key×V)}{ks:List Str}{A:Str->Option (Addr×List Addr)}(S:aZ H0 H d (bE n) kvs ks A):bQ H d n ks:=by
 have mem:∀ z,z∈ks↔z∈ag n:=λz=>by
  rw [S.mem z,dS];cases h:A z with
  | none=>simp;exact S.gy z h
  | some p=>
   obtain⟨a,ts⟩:=p;simp;exact S.some' z a ts h
 refine⟨⟨kvs,S.dict,S.keys,λz hz=>?_⟩,S.nodup,mem⟩;have:=(S.mem z).mp<|(mem z).mpr hz;cases h:A z with
 | none=>rw [h] at this;cases this
 | some p=>
  obtain⟨a,ts⟩:=p;obtain⟨q1,q2,q3,q4⟩:=S.at' z a ts h;exact⟨a,ts,by rw [S.val z,h];rfl,q3,q4⟩
theorem all2(e:Nat->Bool):(List.range 2).all e=(e 0 && e 1):=by
 show(([0,1]:List Nat).all e)=_;simp
theorem Mv(x y:End):(dI (.int x.1) (.int y.1) && dI (.int x.2) (.int y.2))=decide (x=y):=by
 obtain⟨a,b⟩:=x;obtain⟨c,d⟩:=y
 by_cases h:a=c <;> by_cases h2:b=d
 ·subst h h2;simp [dI]
 ·have:¬(b:Int)=(d:Int):=λe=>h2 (by omega);simp [dI,h2,this]
 ·have:¬(a:Int)=(c:Int):=λe=>h (by omega);simp [dI,h,this]
 ·have:¬(a:Int)=(c:Int):=λe=>h (by omega);simp [dI,h,this]
section
variable{X:Cx}{H:Hp}{s t:Addr}{x y:End}
theorem Mw:∀(j:Nat) (u v:V),[V.int x.1,.int x.2][j]?=some u->[V.int y.1,.int y.2][j]?=some v->kG X H 0 u v (if j=0 then dI (.int x.1) (.int y.1) else dI (.int x.2) (.int y.2))
 | 0,u,v,h1,h2=>by
  cases h1;cases h2;exact A2 rfl rfl
 | 1,u,v,h1,h2=>by
  cases h1;cases h2;exact A2 rfl rfl
 | j+2,u,v,h1,h2=>by simp at h1
theorem WG(hs:H s=some (Tp x))(ht:H t=some (Tp y)):lH X H 1 (.ref s) (.ref t) (decide (x=y)):=by
 have:=Wb (X:=X) (k:=0) (λj=>if j=0 then dI (.int x.1) (.int y.1) else dI (.int x.2) (.int y.2)) (aW.of hs) (aW.of ht) rfl Mw;rw [show([V.int (x.1:Int),.int x.2].length)=2 from rfl,all2] at this;have e:=Mv x y;simp only [DW] at this;rw [BK (by decide),e] at this;exact this
theorem WH(hs:H s=some (Tp x))(ht:H t=some (Tp y)):qW X H 1 (.ref s) (.ref t) (decide (x=y)):=by
 have:=Wc (X:=X) (k:=0) (λj=>if j=0 then dI (.int x.1) (.int y.1) else dI (.int x.2) (.int y.2)) (aW.of hs) (aW.of ht) rfl Mw;rw [show([V.int (x.1:Int),.int x.2].length)=2 from rfl,all2] at this;have e:=Mv x y;simp only [DW] at this;rw [BK (by decide),e] at this;exact this
end
abbrev lets:Str:= "abcdefghijklmnopqrstuvwxyz0123456789"
theorem Mx:lets.cps.toList.length=36:=by decide +kernel
theorem WK:lets.cps.toList.Nodup:=by decide +kernel
def sgn(i:Int):Nat:=(gj lets.cps.toList<|i % 36).getD 0
theorem BF(i:Int):gj lets.cps.toList (i % 36)=some (sgn i):=by
 have h0:0<=i % 36:=Cd _ (by decide);have h1:i % 36 < 36:=Ch _ (by decide);have hj:(i % 36).toNat < lets.cps.toList.length:=by rw [Mx];omega
 have q:=qC (xs:=lets.cps.toList) (j:=(i % 36).toNat) (v:=lets.cps.toList[(i % 36).toNat]) (by simp [hj]);rw [show(((i % 36).toNat:Nat):Int)=i % 36 by omega] at q;unfold sgn;rw [q];rfl
theorem My{i j:Int}(h:sgn i=sgn j):i % 36=j % 36:=by
 have key:∀ k:Int,lets.cps.toList[(k % 36).toNat]?=some (sgn k):=λk=>by
  have h0:0<=k % 36:=Cd _ (by decide);have h1:k % 36 < 36:=Ch _ (by decide);have hj:(k % 36).toNat < lets.cps.toList.length:=by rw [Mx];omega
  have q:=qC (xs:=lets.cps.toList) (j:=(k % 36).toNat) (v:=lets.cps.toList[(k % 36).toNat]) (by simp [hj]);rw [show(((k % 36).toNat:Nat):Int)=k % 36 by omega,BF] at q;rw [Ab hj,Option.some.inj q]
 have hi:=key i;have hj:=key j;rw [h] at hi;obtain⟨l1,e1⟩:=Ad.mp hi;obtain⟨l2,e2⟩:=Ad.mp hj;have:=(Ej (xs:=lets.cps.toList) (h₀:=l1) (h₁:=l2) WK).mp<|e1.trans e2.symm;have a0:0<=i % 36:=Cd _ (by decide);have b0:0<=j % 36:=Cd _ (by decide);omega
def turn(b:Int)(sp:Int)(v k:Nat):Int:=b / 64+(k:Int) * (b / 7 % 5)+(if(k:Int)=sp then(v:Int) else 0)
def nm(b sp:Int)(v:Nat):Nat->Str
 | 0=>⟨#[]⟩
 | k+1=>nm b sp v k++⟨#[sgn<|turn b sp v k]⟩
theorem app_list(x y:Str):(x++y).cps.toList=x.cps.toList++y.cps.toList:=by
 show(x.cps++y.cps).toList=_;simp
theorem wH(b sp:Int)(v:Nat):∀ k,(nm b sp v k).cps.toList=(List.range k).map λj=>sgn<|turn b sp v j
 | 0=>rfl
 | k+1=>by
  show(nm b sp v k++⟨#[sgn<|turn b sp v k]⟩).cps.toList=_;rw [app_list,wH b sp v k,Dg,Al];rfl
theorem WL{b sp:Int}{u v k:Nat}(hu:u < 36)(hv:v < 36)(h0:0<=sp)(h1:sp < (k:Int))(h:nm b sp u k=nm b sp v k):u=v:=by
 have e:(nm b sp u k).cps.toList=(nm b sp v k).cps.toList:=by rw [h]
 rw [wH,wH] at e;have hk:sp.toNat < k:=by omega
 have q:((List.range k).map λj=>sgn<|turn b sp u j)[sp.toNat]?=((List.range k).map λj=>sgn<|turn b sp v j)[sp.toNat]?:=by rw [e]
 rw [Ag,Ag,Dj hk] at q;have q2:sgn (turn b sp u sp.toNat)=sgn (turn b sp v sp.toNat):=Option.some.inj q;have q3:=My q2;unfold turn at q3;rw [show((sp.toNat:Nat):Int)=sp by omega,BL rfl,BL rfl] at q3;omega
theorem fold_list(c:Nat):∀(k:Nat) (acc:Array Nat),((List.replicate k (#[c]:Array Nat)).foldl (·++·) acc).toList=acc.toList++List.replicate k c
 | 0,acc=>by simp
 | k+1,acc=>by
  rw [List.replicate_succ,Ex,fold_list c k,List.replicate_succ];simp
theorem mul_list(c:Nat){i:Int}(h:1<=i):(Txt.mul ⟨#[c]⟩ i).cps.toList=List.replicate i.toNat c:=by
 unfold Txt.mul;rw [BK<|by omega]
 by_cases e:i=1
 ·subst e;rfl
 ·have e1:(i == 1 || (⟨#[c]⟩:Str).length == 0)=false:=by
   have:(i == 1)=false:=by simpa using e
   rw [this];rfl
  rw [e1];simp only [Cc,CW];have:=fold_list c i.toNat #[]
  simpa using this
def aP(b:Int)(v:Nat):Str:=if b % 3=2 then Txt.mul ⟨#[sgn<|b / 64+(v:Int) / 8]⟩ (1+(v:Int) % 8) else nm b (b / 8 % (1+b % 8)) v (1+b % 8).toNat
theorem WM{b:Int}{u v:Nat}(hu:u < 36)(hv:v < 36)(h:aP b u=aP b v):u=v:=by
 have s0:0<=b % 8:=Cd _ (by decide);unfold aP at h
 by_cases c:b % 3=2
 ·rw [BL c,BL c] at h;have u0:0<=(u:Int) % 8:=Cd _ (by decide);have v0:0<=(v:Int) % 8:=Cd _ (by decide);have e:(Txt.mul ⟨#[sgn<|b / 64+(u:Int) / 8]⟩<|1+(u:Int) % 8).cps.toList=(Txt.mul ⟨#[sgn<|b / 64+(v:Int) / 8]⟩<|1+(v:Int) % 8).cps.toList:=by rw [h]
  rw [mul_list _ (by omega),mul_list _<|by omega] at e;have l:=BZ List.length e;rw [Fp,Fp] at l;have hd:(List.replicate (1+(u:Int) % 8).toNat<|sgn<|b / 64+(u:Int) / 8)[0]?=(List.replicate (1+(v:Int) % 8).toNat<|sgn<|b / 64+(v:Int) / 8)[0]?:=by rw [e]
  rw [Fi,Fi,BL (by omega),BL<|by omega] at hd;have q:=My<|Option.some.inj hd;omega
 ·rw [BK c,BK c] at h;refine WL hu hv (Cd _<|by omega) ?_ h;have:=Ch (b / 8) (show 0 < 1+b % 8 by omega);omega
def namesOf(b:Int)(m:Nat):List Str:=(List.range m).map<|aP b
theorem wI{b:Int}{m:Nat}(h:m<=36):(namesOf b m).Nodup:=by
 unfold namesOf;refine List.Pairwise.map _ (R:=λi j=>i < j/\j < m) ?_ ?_
 ·rintro i j ⟨h1,h2⟩ e;have:=WM (by omega) (by omega) e;omega
 ·rw [Bh];intro i j hi hj dD;simp only [Em];simp at hj;exact⟨dD,hj⟩
theorem wJ(b:Int)(m:Nat):namesOf b (m+1)=namesOf b m++[aP b m]:=by
 unfold namesOf;rw [Dg,Al];rfl
theorem BG(b:Int)(m:Nat):(namesOf b m).length=m:=by unfold namesOf;simp
theorem WN{b:Int}{m i:Nat}(h:i < m):(namesOf b m)[i]?=some (aP b i):=by
 unfold namesOf;rw [Ag,Dj h];rfl
end Nt
namespace A5
open PySem L2
def top(i:Nat):Stmt:=PySem.Challenge.pw_threewebs_k75_whole_out_here_is_shrunk_t.main.body.getD i<|.Pass ⟨0,0,0,0⟩
abbrev wK:Stmt:=top 6
abbrev wL:Stmt:=top 7
abbrev BH:Stmt:=top 8
abbrev BI:Stmt:=top 9
abbrev BM:Stmt:=top 10
abbrev o7:Stmt:=top 12
abbrev tT:Stmt:=top 13
abbrev BO:Stmt:=top 14
abbrev BQ:Stmt:=top 16
abbrev o8:Stmt:=top 17
abbrev BU:Stmt:=top 18
abbrev BV:Stmt:=top 19
abbrev B3:Stmt:=top 20
abbrev B4:Stmt:=top 21
abbrev B5:Stmt:=top 22
abbrev o9:Stmt:=top 23
abbrev pd:Stmt:=top 24
abbrev wM:Stmt:=top 25
abbrev B6:Stmt:=top 26
abbrev B7:Stmt:=top 27
abbrev pg:Stmt:=top 28
abbrev B8:Stmt:=top 29
abbrev wN:Stmt:=top 30
abbrev wO:Stmt:=top 31
abbrev B9:Stmt:=top 32
abbrev ph:Stmt:=top 33
structure Txt(mg:Str->Option Value):Prop where
 isi:mg "isinstance" = none
 B':mg "tuple" = none
 CA:mg "str" = none
 tU:mg "int" = none
 Mz:mg "bool" = none
 jQ:mg "list" = none
 tV:mg "dict" = none
 WO:mg "set" = none
 enum:mg "enumerate" = none
 zip:mg "zip" = none
 len:mg "len" = none
 range:mg "range" = none
 sorted:mg "sorted" = none
 max:mg "max" = none
 all:mg "all" = none
 WQ:mg "ValueError" = none
 min:mg "min" = none
open Nt bn
theorem small{n:Nat}(h:n<=100000):n<=sizeLine:=by rw [CV];omega
theorem cn{n:Nat}(h:n<=100000):n < sizeLine:=by rw [CV];omega
theorem aQ{H:Hp}{p:Addr}(h:H p=none)(o:HO):ak H (upd H p o):=λb u q=>by rw [aw<|bP q h];exact q
theorem d9{H1 H2:Hp}{r:Addr}{o:HO}(s:ak H1 H2)(h:H1 r=none):ak H1 (upd H2 r o):=λb u q=>by
 rw [aw<|bP q h];exact s _ _ q
theorem WR{H:Hp}{l:Addr}{zs:List Str}{y:Str}:upd H l (.lst<|zs.map V.str++[V.str y])=upd H l (Ls<|zs++[y]):=by
 show _=upd H l (.lst<|(zs++[y]).map V.str);rw [Al];rfl
def wQ(K:PySem.W.Frag):Sp:=λvs H Q _=>∃(a:Addr) (ns:List Int) (k:Int),vs=[.ref a,.int k]/\al K H a (ns.map V.int)/\0<=k/\∀ i,Q (.int i) H
def CB(K:PySem.W.Frag):Sp:=λvs H Q _=>∃(a:Addr) (ns:List Int) (k:Int),vs=[.ref a,.int k]/\al K H a (ns.map V.int)/\0<=k/\∀ i H',ak H H'->Q (.int i) H'
def CD:Sp:=λvs H Q _=>∃(b m:Int),vs=[.int b,.int m]/\0<=m/\m<=36/\∀ l H',ak H H'->H l=none->H' l=some (Ls<|namesOf b m.toNat)->Q (.ref l) H'
def wR:Sp:=λvs H Q _=>∃(R:Addr) (as:List<|Addr×Addr) (n:Net),vs=[.ref R]/\ai H R as n/\n.length<=1000/\(ag n).length<=1000/\∀ d ks H',ak H H'->H d=none->bQ H' d n ks->Q (.ref d) H'
def CF:Sp:=λvs H Q _=>∃(R d t:Addr) (as:List<|Addr×Addr) (n:Net) (ks:List Str) (e:Nt.End),vs=[.ref R,.ref d,.ref t]/\ai H R as n/\bQ H d n ks/\aj n/\H t=some (Tp e)/\e∈ends n/\∀ u,H u=some (Tp<|other n e)->Q (.ref u) H
def CH:Sp:=λvs H Q _=>∃(R d t:Addr) (as:List<|Addr×Addr) (n:Net) (ks:List Str) (e:Nt.End),vs=[.ref R,.ref d,.ref t,.int 1]/\ai H R as n/\bQ H d n ks/\aj n/\H t=some (Tp e)/\e∈ends n/\∀ u H',ak H H'->H u=none->H' u=some (Tp<|step n e)->Q (.ref u) H'
def wU:Sp:=λvs H Q _=>∃(R d t:Addr) (as:List<|Addr×Addr) (n:Net) (ks:List Str) (e:Nt.End),vs=[.ref R,.ref d,.ref t]/\ai H R as n/\bQ H d n ks/\aj n/\H t=some (Tp e)/\e∈ends n/\(ends n).length<=1000 /\
 ∀ l ts fs H',ak H H'->H l=none->H' l=some (.lst<|ts.map V.ref)->Pd H' ts fs->cj n e fs->Q (.ref l) H'
section
variable{P:Program}{w:World}{K:PySem.W.Frag}{mg:Str->Option Value}{base:Heap}
theorem WT:au ["_law_script","_law_k"] ["_law_script","_law_k"] (bj BQ):=⟨rfl,rfl,rfl,by decide +kernel,rfl,by decide +kernel,by decide +kernel⟩
theorem WU{ns:List Int}{k:Int}(h0:0<=k)(h1:k < (ns.length:Int)):∃ v:Int,gj (ns.map V.int) k=some (.int v):=by
 have hj:k.toNat < ns.length:=by omega
 have q:=qC (xs:=ns.map V.int) (j:=k.toNat) (v:= .int ns[k.toNat]) (by simp [hj]);rw [show((k.toNat:Nat):Int)=k by omega] at q;exact⟨_,q⟩
theorem WV{f:Addr}{fd:FuncData}(F:bW K "_law_cell_at" "_law_cell_at" BQ f fd)(T:Txt mg):aM P w K mg base cf 1 f fd ["_law_script","_law_k"] (wQ K):=by
 refine F.gb WT (λvs H Q E h=>?_) λb0 H vs Q E hr h=>?_
 ·obtain⟨a,ns,k,rfl,_⟩:=h;rfl
 obtain⟨a,ns,k,rfl,hS,h0,q⟩:=h;show Run _ _ _ [some<|.ref a,some<|.int k] H;refine gq<|dv Tr<|ae 1<|cK dP T.len CT<|ah<|ae 0<|ay ⟨a,_,rfl,.inl hS,_,_,rfl,rfl,_,rfl,?_⟩;refine iX (λc=>?_) λc=>?_
 ·have c':=CG c;obtain⟨v,hv⟩:=WU (ns:=ns) h0 (by rw [Aa] at c';exact c');exact cD<|bh dq<|ae 0<|ae 1 ⟨a,_,_,.int v,rfl,rfl,hS,hv,q v⟩
 ·exact a8<|cD<|aF<|q 0
abbrev pj:List V:=[.int 48271,.int 69621,.int 16807,.int 39373,.int 21401,.int 60493,.int 87721,.int 31337]
abbrev gB:List V:=[.int 99991,.int 99989,.int 99971,.int 99961,.int 99929,.int 99923,.int 99907,.int 99901]
theorem eight{i:Int}(h0:0<=i)(h1:i < 8):i=0\/i=1\/i=2\/i=3\/i=4\/i=5\/i=6\/i=7:=by
 obtain⟨k,rfl⟩:=Int.eq_ofNat_of_zero_le h0;exact(by decide:∀ k:Fin 8,(k.1:Int)=0\/(k.1:Int)=1\/(k.1:Int)=2\/(k.1:Int)=3\/(k.1:Int)=4\/(k.1:Int)=5\/(k.1:Int)=6\/(k.1:Int)=7) ⟨k,Int.ofNat_lt.mp h1⟩
theorem WW{i:Int}(h0:0<=i)(h1:i < 8):∃ m:Int,gj pj i=some (.int m)/\0 < m/\m < 100000:=by
 rcases eight h0 h1 with rfl | rfl | rfl | rfl | rfl | rfl | rfl | rfl <;> exact⟨_,rfl,by decide,by decide⟩
theorem WX{i:Int}(h0:0<=i)(h1:i < 8):∃ m:Int,gj gB i=some (.int m)/\0 < m/\m < 100000:=by
 rcases eight h0 h1 with rfl | rfl | rfl | rfl | rfl | rfl | rfl | rfl <;> exact⟨_,rfl,by decide,by decide⟩
theorem mV:au ["_law_script","_law_at","_law_by","_law_prime","_law_cell","_law_big_here","_law_k","_law_one"] ["_law_script","_law_at"] (bj o8):=⟨rfl,rfl,rfl,by decide +kernel,rfl,by decide +kernel,by decide +kernel⟩
theorem WY{f:Addr}{fd:FuncData}(F:bW K "_law_big" "_law_big" o8 f fd)(T:Txt mg)(G:bB P w K mg base 1 "_law_cell_at" ["_law_script","_law_k"]<|wQ K) :
  aM P w K mg base cf 2 f fd ["_law_script","_law_at"] (CB K):=by
 refine F.gb mV (λvs H Q E h=>?_) λb0 H vs Q E hr h=>?_
 ·obtain⟨a,ns,k,rfl,_⟩:=h;rfl
 obtain⟨a,ns,k,rfl,hS,h0,q⟩:=h;have nd:=mV.nd;show Run _ _ _ [some<|.ref a,some<|.int k,none,none,none,none,none,none] H;refine a9 2 nd (d7<|ah<|aF<|ah<|aF<|ah<|aF<|ah<|aF<|ah<|aF<|ah<|aF<|ah<|aF<|ah<|aF<|ay ⟨(by show 8<=sizeLine;decide),λp hp=>?_⟩);refine a9 3 nd (d7<|ah<|aF<|ah<|aF<|ah<|aF<|ah<|aF<|ah<|aF<|ah<|aF<|ah<|aF<|ah<|aF<|ay ⟨(by show 8<=sizeLine;decide),λp2 gP=>?_⟩);have WZ:p≠p2:=by
  intro e;rw [<- e,az] at gP;cases gP
 have s1:ak H (upd H p<|.tup pj):=aQ hp _;have s2:ak H (upd (upd H p<|.tup pj) p2<|.tup gB):=s1.trans<|aQ gP _;have e1:(upd (upd H p<|.tup pj) p2<|.tup gB) p=some (.tup pj):=by rw [aw WZ,az]
 have e2:(upd (upd H p<|.tup pj) p2<|.tup gB) p2=some (.tup gB):=az;generalize upd (upd H p<|.tup pj) p2 (.tup gB)=H2 at s2 e1 e2 ⊢;refine a9 4 nd<|bY G hr<|ah<|ae 0<|ah<|ae 1<|ay ⟨a,ns,k,rfl,s2.seq hS,h0,λb=>?_⟩;show Run _ _ _ [some<|.ref a,some<|.int k,some<|.ref p,some<|.ref p2,some<|.int b,none,none,none] H2;refine zY True True (λR qq=>?_) (λ_=>?_) λ_=>a8 ?_
 ·refine zX (Le<|dv g9<|aX dk<|ae 4<|aF ⟨_,_,rfl,rfl,(by show(0:Int) < 2;decide),aF ⟨rfl,_,rfl,?_⟩⟩);refine iX (λc=>?_) (λc=>qq false (λz=>nomatch z) λ_=>trivial);exact Lf<|dv Ts<|ae 4<|aX y8<|aF<|aF ⟨_,_,rfl,rfl,⟨by decide,by decide,by decide⟩,_,_,rfl,rfl,_,rfl,qq _ (λ_=>trivial) λ_=>trivial⟩
 ·exact cD<|aX iD<|ae 4<|aF ⟨_,_,rfl,rfl,⟨by decide,by decide⟩,q _ _ s2⟩
 refine a9 5 nd<|aF ?_;refine jJ T.range<|aF ⟨60,rfl,by decide,by decide,jK (n:=60) (λ_ σ H3=>H3=H2/\∃(x:Int) (u v:Option V),σ=[some<|.ref a,some<|.int k,some<|.ref p,some<|.ref p2,some<|.int b,some<|.int x,u,v]) ⟨rfl,0,_,_,rfl⟩ ?_ ?_⟩
 ·rintro i σ H3 hi ⟨rfl,x,u,v,rfl⟩;have i9:0<=(0+(i:Int)) % 9:=Cd _ (by decide);obtain⟨m1,f1,g1,g2⟩:=WW (i:=(0+(i:Int)) % 8) (Cd _<|by decide) (Ch _<|by decide);obtain⟨m2,f2,g3,g4⟩:=WX (i:=(0+(i:Int)) % 8) (Cd _<|by decide) (Ch _<|by decide);refine bA 6 nd ?_;refine a9 7 nd<|aX fK<|aX fK<|aX dk<|bY G hr<|ah<|ae 0<|ah<|aX fK<|ae 1<|aX dk<|ae 6<|aF ?_;refine⟨_,_,rfl,rfl,(by show(0:Int) < 9;decide),_,_,rfl,rfl,ay ⟨a,ns,_,rfl,s2.seq hS,?_,λc=>?_⟩⟩
  ·show 0<=k+(0+(i:Int)) % 9;omega
  refine aX y8 (aF<|aF ⟨_,_,rfl,rfl,⟨by decide,by decide,by decide⟩,_,_,rfl,rfl,(by show(0:Int) < 10 ^ (18:Int).toNat;decide),aF ⟨_,_,rfl,rfl,?_⟩⟩);refine aX sw<|ae 6<|ae 6 ?_;refine⟨_,_,rfl,rfl,.inl ⟨by omega,by omega⟩,_,_,rfl,rfl,?_⟩;refine a9 5 nd (aX fK<|aX sw<|ae 5<|aF ⟨_,_,rfl,rfl,.inr ⟨by decide,by decide⟩,?_⟩);refine aX dk (aX dk<|aX sw<|ae 7<|bh cI<|ae 2<|aX dk<|ae 6<|aF ⟨_,_,rfl,rfl,(by show(0:Int) < 8;decide),p,_,_,_,rfl,rfl,aW.of e1,f1,_,_,rfl,rfl,.inr ⟨by omega,by omega⟩,?_⟩);refine bh cI (ae 3<|aX dk<|ae 6<|aF ⟨_,_,rfl,rfl,(by show(0:Int) < 8;decide),p2,_,_,_,rfl,rfl,aW.of e2,f2,_,_,rfl,rfl,g3,aF ⟨_,_,rfl,rfl,(by show(0:Int) < 7919;decide),_,_,rfl,rfl,?_⟩⟩);exact a8 ⟨rfl,_,_,_,rfl⟩
 ·rintro σ H3 ⟨rfl,x,u,v,rfl⟩;exact cD<|ae 5<|q x _ s2
abbrev NN:List Str:=["_law_stem","_law_many","_law_signs","_law_size","_law_spot","_law_names_here","_law_v","_law_name","_law_k","_law_turn"]
theorem iJ:au NN ["_law_stem","_law_many"] (bj BU):=⟨rfl,rfl,rfl,by decide +kernel,rfl,by decide +kernel,by decide +kernel⟩
theorem W0{f:Addr}{fd:FuncData}(F:bW K "_law_names" "_law_names" BU f fd)(T:Txt mg):aM P w K mg base cf 1 f fd ["_law_stem","_law_many"] CD:=by
 refine F.gb iJ (λvs H Q E h=>?_) λb0 H vs Q E hr h=>?_
 ·obtain⟨b,m,rfl,_⟩:=h;rfl
 obtain⟨b,m,rfl,m0,m1,q⟩:=h;have nd:=iJ.nd;have s0:0<=b % 8:=Cd _ (by decide);have s1:b % 8 < 8:=Ch _ (by decide);show Run _ _ _ [some<|.int b,some<|.int m,none,none,none,none,none,none,none,none] H;refine a9 2 nd<|fP ?_;refine a9 3 nd (aX fK<|aF<|aX dk<|ae 0<|aF ⟨_,_,rfl,rfl,(by show(0:Int) < 8;decide),_,_,rfl,rfl,?_⟩);refine a9 4 nd (aX dk<|aX iD<|ae 0<|aF ⟨_,_,rfl,rfl,⟨by decide,by decide⟩,ae 3 ⟨_,_,rfl,rfl,(by show 0 < 1+b % 8;omega),?_⟩⟩);refine a9 5 nd<|du<|ay ⟨Z0,λl hl=>?_⟩;show Run _ _ _ [some<|.int b,some<|.int m,some<|.str lets,some<|.int<|1+b % 8,some<|.int<|b / 8 % (1+b % 8),some<|.ref l,none,none,none,none] _;have spE:b / 8 % (1+b % 8)=b / 8 % (1+b % 8):=rfl;refine jJ T.range<|ae 1 ⟨m,rfl,by omega,by omega,jK (n:=m.toNat) (λi σ H3=>H3=upd H l (Ls<|namesOf b i)/\∃ u1 u2 u3 u4,σ=[some<|.int b,some<|.int m,some<|.str lets,some<|.int<|1+b % 8,some<|.int<|b / 8 % (1+b % 8),some<|.ref l,u1,u2,u3,u4]) ⟨rfl,_,_,_,_,rfl⟩ ?_ ?_⟩
 ·rintro i σ H3 hi ⟨rfl,u1,u2,u3,u4,rfl⟩;refine bA 6 nd ?_;refine a9 7 nd<|fP ?_;refine jJ T.range<|ae 3 ⟨_,rfl,by omega,by omega,jK (n:=(1+b % 8).toNat) (λj σ H4=>H4=upd H l (Ls<|namesOf b i)/\∃(u3 u4:Option V),σ=[some<|.int b,some<|.int m,some<|.str lets,some<|.int<|1+b % 8,some<|.int<|b / 8 % (1+b % 8),some<|.ref l,some<|.int<|0+(i:Int),some<|.str<|nm b (b / 8 % (1+b % 8)) i j,u3,u4]) ⟨rfl,_,_,rfl⟩ ?_ ?_⟩
  ·rintro j σ H4 hj ⟨rfl,v3,v4,rfl⟩;have t0:0<=b / 7 % 5:=Cd _ (by decide);have t1:b / 7 % 5 < 5:=Ch _ (by decide);have nl:(nm b (b / 8 % (1+b % 8)) i j).length=j:=by
    have:=BZ List.length<|wH b (b / 8 % (1+b % 8)) i j;show(nm b (b / 8 % (1+b % 8)) i j).cps.size=j
    simpa using this
   refine bA 8 nd ?_;refine a9 9 nd (aX fK<|aX iD<|ae 0<|aF ⟨_,_,rfl,rfl,⟨by decide,by decide⟩,aX sw<|ae 8<|aX dk<|aX iD<|ae 0<|aF ⟨_,_,rfl,rfl,⟨by decide,by decide⟩,aF ⟨_,_,rfl,rfl,(by show(0:Int) < 5;decide),?_⟩⟩⟩);refine⟨_,_,rfl,rfl,.inr ⟨by omega,by omega⟩,_,_,rfl,rfl,?_⟩;refine AZ ((0+(j:Int))=b / 8 % (1+b % 8)) (¬(0+(j:Int))=b / 8 % (1+b % 8)) (λσ' H'=>H'=upd H l (Ls<|namesOf b i)/\σ'=[some<|.int b,some<|.int m,some<|.str lets,some<|.int<|1+b % 8,some<|.int<|b / 8 % (1+b % 8),some<|.ref l,some<|.int<|0+(i:Int),some<|.str<|nm b (b / 8 % (1+b % 8)) i j,some<|.int<|0+(j:Int),some<|.int<|turn b (b / 8 % (1+b % 8)) i j]) (λR qq=>?_) (λhc=>?_) (λhc=>a8 ⟨rfl,?_⟩) ?_
   ·refine dv g9<|ae 8<|ae 4 ⟨rfl,_,rfl,?_⟩
    by_cases hc:(0+(j:Int))=b / 8 % (1+b % 8)
    ·rw [BR (show V.int (0+(j:Int))=V.int (b / 8 % (1+b % 8)) by rw [hc])];exact qq true (λ_=>hc) λh=>by cases h
    ·rw [BW λh=>hc<|V.int.inj h];exact qq false (λh=>by cases h) λ_=>hc
   ·refine a9 9 nd<|aX fK<|ae 9<|ae 6 ⟨_,_,rfl,rfl,a8 ⟨rfl,?_⟩⟩;have e:b / 64+(0+(j:Int)) * (b / 7 % 5)+(0+(i:Int))=turn b (b / 8 % (1+b % 8)) i j:=by
     unfold turn;rw [BL (by omega),Do,Do]
    rw [<- e];rfl
   ·have e:b / 64+(0+(j:Int)) * (b / 7 % 5)=turn b (b / 8 % (1+b % 8)) i j:=by
     unfold turn;rw [BK (by omega),Do,Int.add_zero]
    rw [<- e];rfl
   ·rintro σ' H' ⟨rfl,rfl⟩;refine a9 7 nd<|aX Kk<|ae 7<|bh Kx<|ae 2<|aX dk<|ae 9<|aF ⟨_,_,rfl,rfl,(by show(0:Int) < 36;decide),lets,_,sgn<|turn b (b / 8 % (1+b % 8)) i j,rfl,rfl,by decide +kernel,BF _,_,_,rfl,rfl,small (by show(nm b (b / 8 % (1+b % 8)) i j).length+1<=100000;omega),a8 ⟨rfl,_,_,rfl⟩⟩
  ·rintro σ H4 ⟨rfl,v3,v4,rfl⟩;refine AZ (b % 3=2) (¬ b % 3=2) (λσ' H'=>H'=upd H l (Ls<|namesOf b i)/\σ'=[some<|.int b,some<|.int m,some<|.str lets,some<|.int<|1+b % 8,some<|.int<|b / 8 % (1+b % 8),some<|.ref l,some<|.int<|0+(i:Int),some<|.str<|aP b i,v3,v4]) (λR qq=>?_) (λhc=>?_) (λhc=>a8 ⟨rfl,?_⟩) ?_
   ·refine dv g9<|aX dk<|ae 0<|aF ⟨_,_,rfl,rfl,(by show(0:Int) < 3;decide),aF ⟨rfl,_,rfl,?_⟩⟩
    by_cases hc:b % 3=2
    ·rw [BR (show V.int (b % 3)=V.int 2 by rw [hc])];exact qq true (λ_=>hc) λh=>by cases h
    ·rw [BW λh=>hc<|V.int.inj h];exact qq false (λh=>by cases h) λ_=>hc
   ·have e0:0<=(0+(i:Int)) % 8:=Cd _ (by decide);have e1:(0+(i:Int)) % 8 < 8:=Ch _ (by decide);refine a9 7 nd (aX U3<|bh Kx<|ae 2<|aX dk<|aX fK<|aX iD<|ae 0<|aF ⟨_,_,rfl,rfl,⟨by decide,by decide⟩,aX iD<|ae 6<|aF ⟨_,_,rfl,rfl,⟨by decide,by decide⟩,_,_,rfl,rfl,aF ⟨_,_,rfl,rfl,(by show(0:Int) < 36;decide),lets,_,sgn<|b / 64+(0+(i:Int)) / 8,rfl,rfl,by decide +kernel,BF _,?_⟩⟩⟩);refine aX fK (aF<|aX dk<|ae 6<|aF ⟨_,_,rfl,rfl,(by show(0:Int) < 8;decide),_,_,rfl,rfl,?_⟩);refine⟨_,_,rfl,rfl,by omega,by omega,?_,a8 ⟨rfl,?_⟩⟩
    ·show 1 * _<=_;omega
    ·have e:Txt.mul ⟨#[sgn<|b / 64+(0+(i:Int)) / 8]⟩ (1+(0+(i:Int)) % 8)=aP b i:=by
      unfold aP;rw [BL hc,Do]
     rw [<- e];rfl
   ·have e:nm b (b / 8 % (1+b % 8)) i (1+b % 8).toNat=aP b i:=by
     unfold aP;rw [BK hc]
    rw [<- e]
   ·rintro σ' H' ⟨rfl,rfl⟩;refine fQ<|jr<|ae 5 ⟨l,rfl,⟨_,az⟩,ae 7 ⟨_,az,?_,?_⟩⟩
    ·rw [Aa,BG];exact cn<|by omega
    ·rw [vT];refine a8 ⟨?_,_,_,_,_,rfl⟩;rw [wJ];exact WR
 ·rintro σ H3 ⟨rfl,u1,u2,u3,u4,rfl⟩;exact cD<|ae 5<|q l _ (aQ hl _) hl az
theorem MA{H:Hp}{d:Addr}{kvs:List (Key×V)}(h:H d=some (.dK kvs)):mD K "dict" (.ref d) H:=Or.inr<|Or.inr<|Or.inl ⟨rfl,Or.inl ⟨kvs,h⟩⟩
abbrev NS:List Str:=["_law_rows","_law_seats_here","_law_r","_law_place"]
theorem iK:au NS ["_law_rows"] (bj BV):=⟨rfl,rfl,rfl,by decide +kernel,rfl,by decide +kernel,by decide +kernel⟩
theorem W1{f:Addr}{fd:FuncData}(F:bW K "_law_seats" "_law_seats" BV f fd)(T:Txt mg):aM P w K mg base cf 1 f fd ["_law_rows"] wR:=by
 refine F.gb iK (λvs H Q E h=>?_) λb0 H vs Q E hr h=>?_
 ·obtain⟨R,as,n,rfl,_⟩:=h;rfl
 obtain⟨R,as,n,rfl,hR,hn,ht,q⟩:=h;have nd:=iK.nd;have bM:=hR.len;show Run _ _ _ [some<|.ref R,none,none,none] H;refine a9 1 nd<|wC λd hd=>?_;refine jJ T.range (cK dP T.len CT<|ah<|ae 0<|ay ⟨R,_,rfl,.inl<|al.of<|aQ hd _ _ _ hR.lst,_,rfl,by omega,by rw [Aa];omega,?_⟩);rw [Aa,bM,Bx];refine jK (λr σ H3=>∃ kvs ks A u1 u2,aZ H H3 d (bE<|n.take r) kvs ks A/\σ=[some<|.ref R,some<|.ref d,u1,u2]) ⟨_,_,_,_,_,aZ.start hd,rfl⟩ ?_ ?_
 ·rintro r σ H3 hi ⟨kvs,ks,A',u1,u2,S,rfl⟩;rw [Do];refine bA 2 nd ?_;obtain⟨a,ea,db,et,el,er⟩:=(hR.same S.same).at hi;refine jJ T.range<|cK dP T.len CT<|ah<|bh cI<|bh dq<|ae 0<|ae 2 ⟨R,_,_,.ref a.1,rfl,rfl,al.of<|S.same _ _ hR.lst,db,aF ⟨a.1,_,_,.ref a.2,rfl,rfl,aW.of et,rfl,ay ⟨a.2,_,rfl,.inl<|al.of el,_,rfl,by omega,?_,?_⟩⟩⟩
  ·have:(row n r).length<=1000:=by
    have h1:(row n r).length<=(ag n).length:=by
     exact lI n r
    omega
   rw [Aa];omega
  rw [Aa,Bx];refine jK (λp σ H4=>∃ kvs ks A u2,aZ H H4 d (bE (n.take r)++bb r ((row n r).take p) 0) kvs ks A/\σ=[some<|.ref R,some<|.ref d,some<|.int (r:Int),u2]) ⟨kvs,ks,A',_,by simpa [bb] using S,rfl⟩ ?_ ?_
  ·rintro p σ H4 hp ⟨kvs,ks,A',u2,S,rfl⟩;rw [Do];refine bA 3 nd ?_;obtain⟨a,ea,db,et,el,er⟩:=(hR.same S.same).at hi;have hz:(row n r)[p]?=some (row n r)[p]:=Ab hp;generalize (row n r)[p]=z at hz;have next:bE (n.take r)++bb r ((row n r).take<|p+1) 0=(bE (n.take r)++bb r ((row n r).take p) 0)++[(z,(r,p))]:=by
    rw [tS hz,At]
   have hlen:kvs.length < sizeLine:=by
    have h1:ks.length<=1000:=by
     refine Cp (aI (b:=ag n) S.nodup λy hy=>?_) ht;have h2:=(S.mem y).mp hy;cases hA:A' y with
     | none=>rw [hA] at h2;cases h2
     | some pr=>
      obtain⟨a2,kJ⟩:=pr;have h3:=S.some' y a2 kJ hA;unfold bF at h3;obtain⟨x,hx⟩:=Dl _ h3;obtain⟨⟨y2,e2⟩,hm,_⟩:=Aj.mp hx;rw [Au,CN] at hm;obtain⟨hm,rfl⟩:=hm;have:(y2,e2)∈bE n:=by
       rcases Ap.mp hm with hm | hm
       ·have q1:=aV.mp hm;refine aV.mpr ?_;have q2:=cE q1;unfold ax row at q1 ⊢;rw [Bo] at q2;rwa [Dx<|by omega] at q1
       ·have q1:=aY.mp hm;refine aV.mpr ?_;unfold ax;rw [q1.1];have q3:=q1.2.2;rw [TY] at q3;have q4:=(Ad.mp q3).1;rw [Bo] at q4;rwa [Dx<|by omega] at q3
      exact eX<|aV.mp this
    have h2:=BZ List.length S.keys;rw [Aa,Aa] at h2;exact cn<|by omega
   refine fQ<|jr<|wA QZ LR MF Mi<|ae 1 ⟨MA S.dict,bh dq<|bh cI<|bh dq<|ae 0<|ae 2 ⟨R,_,_,.ref a.1,rfl,rfl,al.of<|S.same _ _ hR.lst,db,aF ⟨a.1,_,_,.ref a.2,rfl,rfl,aW.of et,rfl,ae 3 ⟨a.2,_,_,.str z,rfl,rfl,al.of el,tP hz,?_⟩⟩⟩⟩;refine du<|ay ⟨Z0,λl0 fu=>?_⟩;have gA:d≠l0:=bP S.dict fu;refine⟨d,kvs,Sum.inr z,.ref l0,rfl,rfl,by rw [aw gA];exact S.dict,hlen,?_⟩;cases hA:A' z with
   | some pr=>
    obtain⟨a2,kJ⟩:=pr;obtain⟨q1,q2,q3,q4⟩:=S.at' z a2 kJ hA;have o5:a2≠l0:=bP q3 fu;refine .inl ⟨.ref a2,by rw [S.val z,hA];rfl,a2,rfl,⟨_,by rw [aw o5];exact q3⟩,?_⟩;refine d7<|ah<|ae 2<|ah<|ae 3<|ay ⟨Z2,λt cU=>?_⟩;have wG:a2≠t:=λe=>by rw [<- e,aw o5,q3] at cU;cases cU
    refine⟨kJ.map V.ref,by rw [aw wG,aw o5];exact q3,?_,?_⟩
    ·rw [Aa,q4.length];have h1:(bF (bE (n.take r)++bb r ((row n r).take p) 0) z).length<=100000:=by
      unfold bF;rw [Aa];refine Cp (Dw _ _) ?_;rw [Ah];have h2:(bE<|n.take r).length<=1000:=by
       have:=BZ List.length<|mU (n.take r) 0;rw [Aa] at this;unfold bE;rw [this];exact Cp (Mu n r) ht
      have h3:(bb r ((row n r).take p) 0).length<=1000:=by
       unfold bb;rw [Aa,List.length_zipIdx,Bo];have h1:(row n r).length<=(ag n).length:=by
        exact lI n r
       omega
      omega
     exact cn h1
    ·refine a8 ⟨kvs,ks,(λy=>if y=z then some (a2,kJ++[t]) else A' y),_,?_,rfl⟩;rw [next];exact S.old (e:=(r,p)) hA fu cU
   | none=>
    refine .inr ⟨by rw [S.val z,hA];rfl,l0,rfl,⟨_,by rw [aw gA.symm];exact az⟩,?_⟩;refine d7<|ah<|ae 2<|ah<|ae 3<|ay ⟨Z2,λt cU=>?_⟩;have o6:l0≠t:=λe=>by rw [<- e,aw gA.symm,az] at cU;cases cU
    refine⟨[],by rw [aw o6,aw gA.symm,az],by show 0 < sizeLine;decide,?_⟩;refine a8 ⟨putK kvs (Sum.inr z)<|.ref l0,ks++[z],(λy=>if y=z then some (l0,[t]) else A' y),_,?_,rfl⟩;rw [next];exact S.new (e:=(r,p)) hA fu cU
  ·rintro σ H4 ⟨kvs,ks,A',u2,S,rfl⟩;refine a8 ⟨kvs,ks,A',_,_,?_,rfl⟩;rw [tR hi];rwa [Cb] at S
 ·rintro σ H3 ⟨kvs,ks,A',u1,u2,S,rfl⟩;rw [Cb] at S;exact cD<|ae 1<|q d ks H3 S.same S.free S.whole
abbrev NO:List Str:=["_law_rows","_law_seats_here","_law_end","_law_pair"]
theorem iL:au NO ["_law_rows","_law_seats_here","_law_end"] (bj B3):=⟨rfl,rfl,rfl,by decide +kernel,rfl,by decide +kernel,by decide +kernel⟩
theorem W2{f:Addr}{fd:FuncData}(F:bW K "_law_other" "_law_other" B3 f fd)(T:Txt mg):aM P w K mg base cf 1 f fd ["_law_rows","_law_seats_here","_law_end"] CF:=by
 refine F.gb iL (λvs H Q E h=>?_) λb0 H vs Q E hr h=>?_
 ·obtain⟨R,d,t,as,n,ks,e,rfl,_⟩:=h;rfl
 obtain⟨R,d,t,as,n,ks,e,rfl,hR,hS,hT,ht,he,q⟩:=h;have nd:=iL.nd;have hu:=hr.eN;obtain⟨z,hz⟩:=af.mp he;have aT:=cE hz;obtain⟨a,ea,db,et,el,er⟩:=hR.at aT;obtain⟨kvs,h1,h2,h3⟩:=hS.dict;obtain⟨pa,ts,v1,v2,v3⟩:=h3 z<|eX hz;obtain⟨x,y,hp,CI,wv⟩:=o4 hT hz;rw [hp] at v3;cases v3 with
 | cons x1 v3=>
 cases v3 with
 | cons y1 v3=>
 cases v3;rename_i tx ty;show Run _ _ _ [some<|.ref R,some<|.ref d,some<|.ref t,none] H;have ju:=hr.u1;refine a9 3 nd<|qX ju<|ae 1<|bh dq<|bh cI<|bh dq<|ae 0<|bh cI<|ae 2<|aF ⟨t,_,_,.int (e.1:Int),rfl,rfl,aW.of ht,rfl,R,_,_,.ref a.1,rfl,rfl,al.of hR.lst,db,aF ⟨a.1,_,_,.ref a.2,rfl,rfl,aW.of et,rfl,?_⟩⟩;refine bh cI (ae 2<|aF ⟨t,_,_,.int (e.2:Int),rfl,rfl,aW.of ht,rfl,a.2,_,_,.str z,rfl,rfl,al.of el,tP hz,d,.ref pa,rfl,by rw [<- v1];exact bH.k (k:=Sum.inr z) h1,?_⟩);show Run _ _ _ [some<|.ref R,some<|.ref d,some<|.ref t,some<|.ref pa] H;refine cD<|bh dq<|ae 3<|oQ Mj T.tU RX<|ah<|mI (wz hu)<|bh dq<|ae 3<|aF ⟨pa,_,_,.ref tx,rfl,rfl,al.of v2,rfl,ae 2 ⟨1,_,by decide,WG x1 ht,?_⟩⟩
 by_cases c:x=e
 ·rw [BR c];refine ay ⟨_,rfl,pa,[.ref tx,.ref ty],1,.ref ty,rfl,rfl,al.of v2,rfl,q ty ?_⟩;have e1:other n e=y:=by unfold other;simp only [hz,hp];simp [c]
  rw [e1];exact y1
 ·rw [BW c];refine ay ⟨_,rfl,pa,[.ref tx,.ref ty],0,.ref tx,rfl,rfl,al.of v2,rfl,q tx ?_⟩;have e1:other n e=x:=by unfold other;simp only [hz,hp];simp [c]
  rw [e1];exact x1
abbrev NT:List Str:=["_law_rows","_law_seats_here","_law_end","_law_turn","_law_other_here"]
theorem jR:au NT ["_law_rows","_law_seats_here","_law_end","_law_turn"] (bj B4):=⟨rfl,rfl,rfl,by decide +kernel,rfl,by decide +kernel,by decide +kernel⟩
theorem W3{f:Addr}{fd:FuncData}(F:bW K "_law_step" "_law_step" B4 f fd)(T:Txt mg)(G:bB P w K mg base 1 "_law_other" ["_law_rows","_law_seats_here","_law_end"] CF) :
  aM P w K mg base cf 2 f fd ["_law_rows","_law_seats_here","_law_end","_law_turn"] CH:=by
 refine F.gb jR (λvs H Q E h=>?_) λb0 H vs Q E hr h=>?_
 ·obtain⟨R,d,t,as,n,ks,e,rfl,_⟩:=h;rfl
 obtain⟨R,d,t,as,n,ks,e,rfl,hR,hS,hT,ht,he,q⟩:=h;have nd:=jR.nd;have ho:=c9 hT he;obtain⟨z,hz⟩:=af.mp ho;have aT:=cE hz;have jD:=eQ hz;obtain⟨a,ea,db,et,el,er⟩:=hR.at aT;show Run _ _ _ [some<|.ref R,some<|.ref d,some<|.ref t,some<|.int 1,none] H;refine a9 4 nd<|bY G hr<|ah<|ae 0<|ah<|ae 1<|ah<|ae 2<|ay ⟨R,d,t,as,n,ks,e,rfl,hR,hS,hT,ht,he,λu hu=>?_⟩;show Run _ _ _ [some<|.ref R,some<|.ref d,some<|.ref t,some<|.int 1,some<|.ref u] H;refine cD<|d7<|ah<|bh cI<|ae 4<|aF ⟨u,_,_,.int ((other n e).1:Int),rfl,rfl,aW.of hu,rfl,?_⟩;refine ah<|aX dk<|aX fK<|bh cI<|ae 4<|aF ⟨u,_,_,.int ((other n e).2:Int),rfl,rfl,aW.of hu,rfl,ae 3 ⟨_,_,rfl,rfl,?_⟩⟩;refine cK dP T.len CT<|ah<|bh cI<|bh dq<|ae 0<|bh cI<|ae 4<|aF ⟨u,_,_,.int ((other n e).1:Int),rfl,rfl,aW.of hu,rfl,R,_,_,.ref a.1,rfl,rfl,al.of hR.lst,db,aF ⟨a.1,_,_,.ref a.2,rfl,rfl,aW.of et,rfl,ay ⟨a.2,_,rfl,.inl<|al.of el,?_⟩⟩⟩;rw [Aa];refine⟨_,_,rfl,rfl,by omega,ay ⟨Z2,λp hp=>?_⟩⟩;refine q p _ (aQ hp _) hp ?_;rw [az];unfold Nt.step Nt.left;show some (HO.tup [.int ((other n e).1:Int),.int<|(((other n e).2:Int)+1) % ((row n (other n e).1).length:Int)])=some (HO.tup [.int ((other n e).1:Int),.int ((((other n e).2+1) % (row n (other n e).1).length:Nat):Int)]);rw [Int.natCast_emod];rfl
abbrev NF:List Str:=["_law_rows","_law_seats_here","_law_end","_law_face_here","_law_here"]
theorem jS:au NF ["_law_rows","_law_seats_here","_law_end"] (bj B5):=⟨rfl,rfl,rfl,by decide +kernel,rfl,by decide +kernel,by decide +kernel⟩
def mW(n:Net)(e:Nt.End)(j:Nat):List Nt.End:=(List.range j).map λi=>it (step n) i e
theorem W4(n:Net)(e:Nt.End)(j:Nat):mW n e (j+1)=mW n e j++[it (step n) j e]:=by
 unfold mW;rw [Dg,Al];rfl
theorem W5{f:Addr}{fd:FuncData}(F:bW K "_law_face" "_law_face" B5 f fd)(T:Txt mg)(G:bB P w K mg base 2 "_law_step" ["_law_rows","_law_seats_here","_law_end","_law_turn"] CH) :
  aM P w K mg base cf 3 f fd ["_law_rows","_law_seats_here","_law_end"] wU:=by
 refine F.gb jS (λvs H Q E h=>?_) λb0 H vs Q E hr h=>?_
 ·obtain⟨R,d,t,as,n,ks,e,rfl,_⟩:=h;rfl
 obtain⟨R,d,t,as,n,ks,e,rfl,hR,hS,hT,ht,he,hb,q⟩:=h;have nd:=jS.nd;have hu:=hr.eN;obtain⟨k,k0,k1,k2⟩:=BA (f:=step n) (S:=ends n) (λa ha=>kI hT ha) (λa ha b hb=>tO hT ha hb) he;show Run _ _ _ [some<|.ref R,some<|.ref d,some<|.ref t,none,none] H;refine a9 3 nd<|du<|ah<|ae 2<|ay ⟨Z1,λl hl=>?_⟩;have g1:=aQ hl<|.lst [.ref t];refine a9 4 nd<|bY G hr<|ah<|ae 0<|ah<|ae 1<|ah<|ae 2<|ah<|aF<|ay ⟨R,d,t,as,n,ks,e,rfl,hR.same g1,hS.same g1,hT,g1 _ _ ht,he,λu H1 s1 nu eu=>?_⟩;show Run _ _ _ [some<|.ref R,some<|.ref d,some<|.ref t,some<|.ref l,some<|.ref u] H1;refine wB (λm σ H2=>∃(j:Nat) (ts:List Addr) (u:Addr),m=k - j/\0 < j/\j<=k/\ak H H2/\H2 l=some (.lst<|ts.map V.ref)/\Pd H2 ts (mW n e j)/\H2 u=some (Tp<|it (step n) j e)/\(∀ i,0 < i->i < j->it (step n) i e≠e)/\σ=[some<|.ref R,some<|.ref d,some<|.ref t,some<|.ref l,some<|.ref u])
  (m0:=k - 1) ⟨1,[t],u,rfl,Nat.one_pos,k0,g1.trans s1,s1 _ _ az,.cons (s1 _ _<|g1 _ _ ht) .nil,eu,λi h1 h2=>by omega,rfl⟩ ?_
 rintro m σ H2 ⟨j,ts,u,rfl,j0,j1,sH,el,ep,eu,hf,rfl⟩;refine dv (tL hu) (ae 4<|ae 2 ⟨1,_,by decide,WH eu<|sH _ _ ht,_,rfl,?_⟩);have pl:=ep.length;have ol:(mW n e j).length=j:=by unfold mW;simp
 by_cases c:it (step n) j e=e
 ·rw [BR c];refine cM (cD<|ae 3<|q l ts (mW n e j) H2 sH hl el ep ⟨by omega,by omega,λi hi=>?_,by rw [ol];exact c,λi h1 h2=>hf i h1<|by omega⟩);unfold mW;rw [Ag,Dj<|by omega];rfl
 ·rw [BW c];have jk:j < k:=by
   rcases Fa j k with h | h
   ·exact h
   ·have:j=k:=by omega
    subst this;exact absurd k2 c
  refine cB (fQ<|jr<|ae 3 ⟨l,rfl,⟨_,el⟩,ae 4 ⟨_,el,by rw [Aa];exact cn (by omega),?_⟩⟩);have s2:ak H (upd H2 l<|.lst<|ts.map V.ref++[.ref u]):=d9 sH hl;have kt:∀ b f,H2 b=some (Tp f)->(upd H2 l<|.lst<|ts.map V.ref++[.ref u]) b=some (Tp f):=λb f h=>by
   rw [aw<|tQ h el];exact h
  have MB:=kt u _ eu;refine a9 4 nd<|bY G hr<|ah<|ae 0<|ah<|ae 1<|ah<|ae 4<|ah<|aF<|ay ⟨R,d,u,as,n,ks,it (step n) j e,rfl,hR.same s2,hS.same s2,hT,MB,ig (λa ha=>kI hT ha) he j,λv H3 s3 nv ev=>?_⟩;refine a8 ⟨k - (j+1),by omega,j+1,ts++[u],v,rfl,Nat.succ_pos _,jk,s2.trans s3,?_,?_,ev,λi h1 h2=>?_,rfl⟩
  ·rw [Al];exact s3 _ _ az
  ·rw [W4];exact(ep.keep λb f h=>s3 _ _<|kt b f h).append<|.cons (s3 _ _ MB) .nil
  ·rcases Ff.mp h2 with h | h
   ·exact hf i h1 h
   ·rw [h];exact c
end
end A5
namespace Nt
open PySem L2
def Full(n:Net):Prop:=(∃ nm,n=[(nm,[])])\/(n≠[]/\∀ i,i < n.length->row n i≠[])
def eR(n:Net)(c:End):Prop:=c.1 < n.length/\c.2 < max 1 (row n c.1).length
def ins(n:Net)(c:End)(z:Str):Net:=n.modify c.1 λr=>(r.1,r.2.take c.2++z :: r.2.drop c.2)
theorem gS(n:Net)(c:End)(z:Str):(ins n c z).length=n.length:=by unfold ins;rw [List.length_modify]
theorem CL(n:Net)(c:End)(z:Str):(ins n c z).map (·.1)=n.map (·.1):=by
 unfold ins;refine Dz λi=>?_;rw [Ag,Ag,Fu];cases n[i]? with
 | none=>rfl
 | some r=>by_cases h:c.1=i <;> simp [h]
theorem qY(n:Net)(c:End)(z:Str)(i:Nat)(hc:c.1 < n.length):row (ins n c z) i=if c.1=i then(row n i).take c.2++z :: (row n i).drop c.2 else row n i:=by
 unfold row ins;rw [Fu]
 by_cases h:c.1=i
 ·subst h;rw [Ab hc];simp
 ·rw [BK h];cases n[i]? with
  | none=>simp [h]
  | some r=>simp [h]
theorem kK:∀(n:Net) (c:End) (z:Str),c.1 < n.length->(ag<|ins n c z).Perm (z :: ag n)
 | [],c,z,h=>by simp at h
 | a :: n,(0,p),z,h=>by
  unfold ins ag;simp only [List.modify_zero_cons,Fb];have:(a.2.take p++z :: a.2.drop p).Perm (z :: a.2):=by
   refine List.perm_middle.trans ?_;rw [Ct]
  exact this.append_right _
 | a :: n,(i+1,p),z,h=>by
  have ih:=kK n (i,p) z (by simpa using h);unfold ins ag at ih ⊢;simp only [List.modify_succ_cons,Fb];refine(ih.append_left a.2).trans ?_;exact List.perm_middle
theorem CM{n:Net}{c:End}{z:Str}(F:Full n)(hc:c.1 < n.length):n.length=1\/(∀ i,i < n.length->row n i≠[])->(∀ i,i < (ins n c z).length->row (ins n c z) i≠[])/\ins n c z≠[]:=by
 intro h;have hl:=gS n c z;refine⟨λi hi=>?_,λe=>?_⟩
 ·rw [qY n c z i hc]
  by_cases q:c.1=i
  ·rw [BL q];simp
  ·rw [BK q]
   rcases h with h | h
   ·rw [hl] at hi;omega
   ·exact h i<|by omega
 ·rw [e] at hl;simp at hl;omega
theorem Full.some{n:Net}(F:Full n):n≠[]:=by
 rcases F with ⟨nm,rfl⟩ | h
 ·simp
 ·exact h.1
theorem Full.either{n:Net}(F:Full n):n.length=1\/(∀ i,i < n.length->row n i≠[]):=by
 rcases F with ⟨nm,rfl⟩ | h
 ·exact .inl rfl
 ·exact .inr h.2
theorem Full.cN{n:Net}(F:Full n)(h0:row n 0≠[]){c:End}(hc:eR n c):c∈ends n:=by
 rcases F with ⟨nm,rfl⟩ | h
 ·exact absurd rfl h0
 ·have:=h.2 c.1 hc.1;have hp:0 < (row n c.1).length:=Cj.mpr this;have aT:c.2 < (row n c.1).length:=by
   have:=hc.2;omega
  exact af.mpr<|tN aT
theorem W6{n:Net}{e:End}(h:e∈ends n):eR n e:=by
 obtain⟨z,h⟩:=af.mp h;have:=eQ h;exact⟨cE h,by omega⟩
def pk(H H':Hp)(bad:List Addr):Prop:=∀ b o,H b=some o->b∉bad->H' b=some o
theorem MC(zs:List Str)(i:Nat)(z:Str):insertAt (zs.map V.str) i (.str z)=(zs.take i++z :: zs.drop i).map V.str:=by
 unfold insertAt;rw [Al,Bd,TJ,TV]
theorem ai.ins{H:Hp}{R:Addr}{as:List (Addr×Addr)}{n:Net}(h:ai H R as n){c:End}{z:Str}{a:Addr×Addr}(ha:as[c.1]?=some a)(hc:c.1 < n.length) :
  ai (upd H a.2<|Ls<|(row n c.1).take c.2++z :: (row n c.1).drop c.2) R as (Nt.ins n c z):=by
 have q0:=h.tup c.1 a n[c.1] ha<|Ab hc;have W7:R≠a.2:=by
  intro e;have h1:=h.lst;rw [e,q0.2] at h1;have h2:=HO.lst.inj<|Option.some.inj h1;have h3:=BZ List.length h2;cases hm:n[c.1].2 with
  | nil=>
   rw [hm] at h2;have:as.map (λa=>V.ref a.1)=[]:=h2.symm;have hl:=BZ List.length this;rw [Aa,h.len] at hl;rw [hl] at hc;exact absurd hc<|Gc _
  | cons y r=>
   rw [hm] at h2;cases as with
   | nil=>simp at h2
   | cons b bs=>
    simp at h2
 have er:row n c.1=n[c.1].2:=by unfold row;rw [Ab hc];rfl
 refine⟨by rw [gS];exact h.len,by rw [aw W7];exact h.lst,λi b r hb hr=>?_,h.inj⟩;unfold Nt.ins at hr;rw [Fu] at hr;cases hn:n[i]? with
 | none=>rw [hn] at hr;by_cases q:c.1=i <;> simp [q] at hr
 | some r0=>
  rw [hn] at hr;have q1:=h.tup i b r0 hb hn;have t1:b.1≠a.2:=eF q1.1 q0.2 λe=>nomatch e
  by_cases q:c.1=i
  ·subst q;rw [Ab hc] at hn;cases hn;rw [ha] at hb;cases hb;simp at hr;subst hr;refine⟨by rw [aw t1];exact q1.1,?_⟩;rw [az,er]
  ·simp [q] at hr;subst hr;have t2:b.2≠a.2:=λe=>by
    have l1:i < as.length:=(Ad.mp hb).1;have l2:c.1 < as.length:=(Ad.mp ha).1;have x1:(as.map (·.2))[i]?=some b.2:=by rw [Ag,hb];rfl
    have x2:(as.map (·.2))[c.1]?=some a.2:=by rw [Ag,ha];rfl
    obtain⟨y1,z1⟩:=Ad.mp x1;obtain⟨y2,z2⟩:=Ad.mp x2;exact q<|(Ej (h₀:=y2) (h₁:=y1) h.inj).mp<|z2.trans<|e.symm.trans z1.symm
   exact⟨by rw [aw t1];exact q1.1,by rw [aw t2];exact q1.2⟩
theorem ai.more{H:Hp}{R t l:Addr}{as:List (Addr×Addr)}{n:Net}{pt:Str}{zs:List Str}(h:ai H R as n)(ht:H t=some (.tup [.str pt,.ref l]))(hl:H l=some (Ls zs))(hn:l∉as.map (·.2))(hR:l≠R) :
  ai (upd H R<|.lst<|as.map (λa=>V.ref a.1)++[.ref t]) R (as++[(t,l)]) (n++[(pt,zs)]):=by
 have bM:=h.len;refine⟨by rw [Ah,Ah,bM];rfl,by rw [az,Al];rfl,λi b r hb hr=>?_,?_⟩
 ·rcases Fa i as.length with c | c
  ·rw [Bp c] at hb;rw [Bp<|by omega] at hr;have q:=h.tup i b r hb hr;have t1:b.1≠R:=eF q.1 h.lst λe=>nomatch e;have t2:b.2≠R:=by
    intro e;have h1:=h.lst;rw [<- e,q.2] at h1;have h2:=HO.lst.inj<|Option.some.inj h1;cases as with
    | nil=>simp at c
    | cons b' bs=>
     cases hm:r.2 with
     | nil=>rw [hm] at h2;simp at h2
     | cons y r=>rw [hm] at h2;simp at h2
   exact⟨by rw [aw t1];exact q.1,by rw [aw t2];exact q.2⟩
  ·have e:i=as.length:=by
    have:=(Ad.mp hb).1;rw [Ah] at this;simp at this;omega
   subst e;rw [Bs<|Ao _] at hb;rw [bM,Bs<|Ao _] at hr;simp at hb hr;subst hb hr;have t1:t≠R:=eF ht h.lst λe=>nomatch e;exact⟨by rw [aw t1];exact ht,by rw [aw hR];exact hl⟩
 ·rw [Al,Ce];exact⟨h.inj,by simp,λx hx y hy e=>by simp at hy;subst hy e;exact hn hx⟩
theorem ai.lists{H:Hp}{R:Addr}{as:List (Addr×Addr)}{n:Net}(h:ai H R as n){x:Addr×Addr}(hx:x∈as):∃ zs,H x.2=some (Ls zs):=by
 obtain⟨i,hi,e⟩:=Ba.mp hx;have hl:=h.len;exact⟨_,(h.tup i x (n[i]'(by omega)) (by rw [<- e];exact Ab hi)<|Ab<|by omega).2⟩
theorem ai.fresh{H:Hp}{R l:Addr}{as:List (Addr×Addr)}{n:Net}(h:ai H R as n)(hl:H l=none){x:Addr×Addr}(hx:x∈as):l≠x.2:=by
 obtain⟨zs,e⟩:=h.lists hx;exact(bP e hl).symm
theorem ik(n:Net):(ends n).length=(ag n).length:=by
 unfold ends bE;rw [Aa,<- mU n 0,Aa]
theorem cj.ends{n:Net}(T:aj n){e:End}{fs:List End}(h:cj n e fs)(he:e∈ends n):∀ c∈fs,c∈Nt.ends n:=by
 intro c hc;obtain⟨i,hi,e2⟩:=Ba.mp hc;have:=h.at' i hi;rw [Ab hi,e2] at this;rw [Option.some.inj this];exact ig (λa ha=>kI T ha) he i
theorem wV{n:Net}{c k:End}{z:Str}(hc:eR n c)(hk:k.1 < n.length):eR (ins n k z) c:=by
 refine⟨by rw [gS];exact hc.1,?_⟩;rw [qY n k z c.1 hk];have:=hc.2
 split
 ·rw [Ah,Ax,Bo,Cn];omega
 ·exact this
def dbl(zs:List Str):List Str:=zs.flatMap λz=>[z,z]
theorem CO(y:Str):∀ zs:List Str,(dbl zs).count y=2 * zs.count y
 | []=>rfl
 | z :: r=>by
  unfold dbl;rw [Fb];have ih:=CO y r;unfold dbl at ih;rw [Ec,ih,Dh,Dh,Dh,List.count_nil];omega
theorem iM{y:Str}{zs:List Str}:y∈dbl zs↔y∈zs:=by
 rw [<- Bt,CO,<- Bt];omega
theorem CU:∀ zs:List Str,(dbl zs).length=2 * zs.length
 | []=>rfl
 | z :: r=>by
  unfold dbl;rw [Fb,Ah];have ih:=CU r;unfold dbl at ih;rw [ih,Ax];simp;omega
theorem W8(zs:List Str)(z:Str):dbl (zs++[z])=dbl zs++[z,z]:=by
 unfold dbl;rw [Dk];rfl
theorem MD{n:Net}{zs:List Str}(hn:zs.Nodup)(p:(ag n).Perm<|dbl zs):aj n:=λz hz=>by
 rw [p.count_eq,CO];have h1:z∈zs:=iM.mp<|p.mem_iff.mp hz;rw [hn.count,BL h1]
def NE(n:Net):Prop:=∀ r∈n,r.2≠[]
theorem jT{n:Net}{i:Nat}(h:i < n.length):row n i=n[i].2:=by unfold row;rw [Ab h];rfl
theorem W9{n:Net}(h:NE n)(h0:n≠[]):Full n:= .inr ⟨h0,λi hi=>by rw [jT hi];exact h _<|Ay hi⟩
theorem Full.ne{n:Net}(h:Full n):(∃ nm,n=[(nm,[])])\/NE n:=by
 rcases h with h | ⟨_,h⟩
 ·exact .inl h
 ·refine .inr λr hr=>?_;obtain⟨i,hi,rfl⟩:=Ba.mp hr;have:=h i hi;rwa [jT hi] at this
theorem ME:∀(n:Net) (k:Nat) (h:k < n.length),(ag n).Perm<|n[k].2++ag (n.eraseIdx k)
 | [],k,h=>by simp at h
 | a :: n,0,h=>by unfold ag;simp
 | a :: n,k+1,h=>by
  have ih:=ME n k (by simpa using h);unfold ag at ih ⊢;simp only [Fb,List.getElem_cons_succ,QW];refine(ih.append_left a.2).trans ?_;rw [<- At,<- At];exact List.perm_append_comm.append_right _
theorem W'(n:Net)(k:Nat)(h:k < n.length):(n.map (·.1)).Perm (n[k].1 :: (n.eraseIdx k).map (·.1)):=by
 have:=(b6.bZ n k h).map (·.1);exact this.symm
theorem CY(zs:List Str)(i:Nat):(zs.drop i++zs.take i).Perm zs:=by
 refine Cm.trans ?_;rw [Ct]
theorem ai.upd{H:Hp}{R x:Addr}{as:List (Addr×Addr)}{n:Net}(h:ai H R as n){xs:List V}{o:HO}(hx:H x=some (.lst xs))(hR:R≠x)(ha:∀ a∈as,a.2≠x):ai (upd H x o) R as n:=by
 refine⟨h.len,by rw [aw hR];exact h.lst,λi a r h1 h2=>?_,h.inj⟩;have q:=h.tup i a r h1 h2;exact⟨by rw [aw<|eF q.1 hx λe=>nomatch e];exact q.1,by rw [aw<|ha a<|Ak h1];exact q.2⟩
theorem C0{α:Type}(l:List α)(k i:Nat):(l.eraseIdx k)[i]?=if i < k then l[i]? else l[i+1]?:=by
 rw [Fk]
theorem ai.erase{H:Hp}{R:Addr}{as:List (Addr×Addr)}{n:Net}(h:ai H R as n){k:Nat}(hk:k < n.length) :
  ai (L2.upd H R<|.lst<|(as.map λa=>V.ref a.1).eraseIdx k) R (as.eraseIdx k) (n.eraseIdx k):=by
 have hl:=h.len;refine⟨by rw [Dr,Dr,hl],?_,λi a r h1 h2=>?_,?_⟩
 ·rw [az]
  congr 2
  refine Dz λi=>?_;rw [C0,Ag,Ag,Ag,C0]
  split <;> rfl
 ·rw [C0] at h1 h2;have q:H a.1=some (.tup [.str r.1,.ref a.2])/\H a.2=some (Ls r.2):=by
   by_cases c:i < k
   ·rw [BL c] at h1 h2;exact h.tup i a r h1 h2
   ·rw [BK c] at h1 h2;exact h.tup (i+1) a r h1 h2
  have t2:a.2≠R:=by
   intro e;have h3:=h.lst;rw [<- e,q.2] at h3;have h4:=HO.lst.inj<|Option.some.inj h3;cases as with
   | nil=>simp at hl;simp [<- hl] at hk
   | cons b bs=>
    cases hm:r.2 with
    | nil=>rw [hm] at h4;simp at h4
    | cons y r=>rw [hm] at h4;simp at h4
  exact⟨by rw [aw<|eF q.1 h.lst λe=>nomatch e];exact q.1,by rw [aw t2];exact q.2⟩
 ·have:((as.eraseIdx k).map (·.2)).Sublist (as.map (·.2)):=(List.eraseIdx_sublist as k).map _;exact h.inj.sublist this
theorem MG(zs:List Str)(i:Nat):dC (zs.map V.str) (some (i:Int)) none=(zs.drop i).map V.str:=by
 unfold dC;rw [HT.dH,HT.c6,Aa];rw [Dd (by rw [Cn,Aa];omega),TV]
 rcases QJ i zs.length with h | h
 ·rw [Gy h]
 ·rw [Gr h,Ee (by simp),Ee<|by simpa using h]
theorem MH(zs:List Str)(i:Nat):dC (zs.map V.str) none (some (i:Int))=(zs.take i).map V.str:=by
 unfold dC;rw [HT.dH,HT.c6,Aa,List.drop_zero,TY,TJ]
 rcases QJ i zs.length with h | h
 ·rw [Gy h]
 ·rw [Gr h,Dd (by simp),Dd<|by simpa using h]
end Nt
namespace L2
open PySem PySem.Spec PyProof.Rows
theorem Xa{P:Program}{w:World}{k:Key}{u:Value}(h:(dN P w).is k u=true):RelV (kV k) u:=by
 rcases kn h with ⟨i,t,rfl,rfl⟩ | ⟨x,t,rfl,rfl⟩ <;> exact⟨t,rfl⟩
section
variable{X:Cx}{pins:List (Addr×Obj)}{σ:St}{H:Hp}{s:Shared}
theorem Xb{xs:List V}:∀{vs:List Value},vs.length=xs.length->(∀(j:Nat) u,vs[j]?=some u->∃ x,xs[j]?=some x/\RelV x u)->av xs vs:=by
 induction xs with
 | nil=>
  intro vs h _;cases vs with
  | nil=>exact .nil
  | cons a b=>simp at h
 | cons x r ih=>
  intro vs h g;cases vs with
  | nil=>simp at h
  | cons u q=>
   obtain⟨x',e,ru⟩:=g 0 u rfl;simp only [List.getElem?_cons_zero,Option.some.injEq] at e;subst e;exact .cons ru<|ih (by simpa using h) λj u hu=>by simpa using g (j+1) u (by simpa using hu)
theorem Xc(hc:X.calm=true):fh X (.type "list") (λxs H Q=>∃ a kvs,xs=[.ref a]/\Rd H a (.dK kvs)/\∀ l,H l=none->Q (.ref l) (upd H l<|.lst<|kvs.map λp=>kV p.1)):=by
 intro pins s σ H xs us Q I r h;obtain⟨a,kvs,rfl,hH,q⟩:=h;obtain⟨u,rfl,ru⟩:=vals1 r;cases (show u=Value.ref a from ru);obtain⟨z,hd,vs,rel,dd⟩:=oJ I.aJ hH;obtain⟨ep,da⟩:=dd.dictAt;have hl:=rel.length;refine PySem.W.kdl_call (PySem.W.kdl_dict (knd:=dN X.prog X.w) (kvs:=vs) (ep:=ep) hd) (I.ok.hd hc) da (by omega) λh' tk acc c' hk hS tW=>?_;have rv:av (kvs.map λp=>kV p.1) acc.toList:=by
  refine Xb (by rw [Co,tW.1,Aa];omega) λj u hu=>?_;obtain⟨k,x,e,g⟩:=tW.2 j u (by rw [<- Bz];exact hu);refine⟨kV k,?_,Xa g⟩;have e2:(kvs.map (·.1))[j]?=some k:=by rw [rel.keys,Ag,e];rfl
  rw [Ag,Az] at e2;obtain⟨p,e3,e4⟩:=e2;rw [Ag,e3,<- e4];rfl
 exact⟨.ref s.heap.objs.size,_,I.laid (t':=tk) hk (Ao _) (show aH X.prog X.w _ h' _ (.lst<|kvs.map λp=>kV p.1) from⟨by rw [Aa];exact z,acc.toList,c',rv,by rw [Array.toArray_toList];exact hS⟩),rfl,q _<|I.aJ.fresh<|Ao _⟩
end
section
variable{X:Cx}{elt tg:Expr}{ifs:List Expr}{scope:Scope}{σ:St}{H:Hp}{N':List Str}{A a d:Addr}{xs:List V}{kvs:List (Key×V)}{after:Hp->Prop}
theorem mX(Pv:Nat->St->Hp->Prop)(h0:Pv 0 σ H)(hl:∀ i σ' H',i<=xs.length->Pv i σ' H'->al X.K H' a xs)
  (hs : ∀ i x σ' H', xs[i]? = some x → Pv i σ' H' → z4 X N' scope tg x σ' H' λσ2 H3 => z5 X N' scope ifs σ2 H3 λb H4 =>
   if b=true then z3 X N' scope elt σ2 H4 λv H5=>∃ ys,H5 A=some (.lst ys)/\ys.length < sizeLine/\Pv (i+1) σ2 (upd H5 A<|.lst<|ys++[v]) else Pv (i+1) σ2 H4)
  (hd:∀ σ' H',Pv xs.length σ' H'->after H'):mJ X N' scope tg ifs elt (oD X.K a) A after σ H:=by
 refine⟨λi m σ' H'=>m=xs.length - i/\i<=xs.length/\Pv i σ' H',⟨_,rfl,Ci _,h0⟩,?_⟩;rintro i m σ' H' ⟨rfl,hi,p⟩;have q:=hl i σ' H' hi p
 by_cases aT:i < xs.length
 ·refine .inr ⟨⟨xs,xs[i],q,by simp [aT]⟩,Pv<|i+1,λσ' H' p'=>⟨xs.length - (i+1),by omega,rfl,aT,p'⟩,λx H2 y=>?_⟩;obtain⟨e,y⟩:=y;subst e;exact hs i x σ' _ (y xs q) p
 ·have e:i=xs.length:=by omega
  subst e;exact .inl ⟨⟨xs,q,Ao _⟩,hd σ' H' p⟩
theorem MI{zs:List Str}(f:Str->Bool)(hz:zs.length < sizeLine)(ha:H a=some (.lst<|zs.map V.str))(hA:H A=none)
  (hg:∀ cl C s₀ H₀ ex v v0 H' R,R (σ++[some v]) H'->Eg (hU X N' scope cl C s₀ H₀ ex) tg v (σ++[v0]) H' R)
  (hi:∀ cl C s₀ H₀ ex z ys T,T (f z) (upd H A<|.lst ys)->Ei (hU X N' scope cl C s₀ H₀ ex) ifs (σ++[some<|.str z]) (upd H A<|.lst ys) T)
  (he:∀ cl C s₀ H₀ ex z H' R,R (V.str z) H'->Ev (hU X N' scope cl C s₀ H₀ ex) elt (σ++[some<|.str z]) H' R) (q:after<|upd H A<|.lst<|(zs.filter f).map V.str) :
  mJ X N' scope tg ifs elt (oD X.K a) A after (σ++List.replicate 1 none) (upd H A<|.lst []):=by
 have ne:a≠A:=bP ha hA;refine mX (xs:=zs.map V.str) (λk σ' H'=>(∃ v,σ'=σ++[v])/\H'=upd H A (.lst<|((zs.take k).filter f).map V.str)) ⟨⟨none,rfl⟩,by simp⟩ ?_ ?_ ?_
 ·rintro i σ' H' _ ⟨_,rfl⟩;exact al.of<|by rw [aw ne];exact ha
 ·rintro i x σ' H' hx ⟨⟨v,rfl⟩,rfl⟩;rw [Ag,Az] at hx;obtain⟨z,tX,rfl⟩:=hx;intro cl C s₀ H₀ ex;refine hg cl C s₀ H₀ ex _ _ _ _ ?_;intro cl C s₀ H₀ ex;refine hi cl C s₀ H₀ ex z _ _ ?_;have e:(zs.take<|i+1).filter f=(zs.take i).filter f++(if f z=true then [z] else []):=by
   rw [Cr,tX,Cw]
   congr 1
   cases hf:f z <;> simp [hf]
  have hlen:((zs.take i).filter f).length<=zs.length:=Cp (Dw _ _)<|by rw [Bo];omega
  by_cases hf:f z=true
  ·rw [BL hf];intro cl C s₀ H₀ ex;refine he cl C s₀ H₀ ex z _ _ ⟨_,az,by rw [Aa];omega,⟨_,rfl⟩,?_⟩;rw [vT,e,BL hf,Al];rfl
  ·rw [BK hf];refine⟨⟨_,rfl⟩,?_⟩;rw [e,BK hf,Bc]
 ·rintro σ' H' ⟨_,rfl⟩;have e2:zs.take (zs.map V.str).length=zs:=Dd (by simp);rw [e2];exact q
theorem ML(z:Str)(zs:List Str):wa (.str z) (zs.map V.str)=zs.contains z:=by
 unfold wa
 induction zs with
 | nil=>rfl
 | cons y r ih=>
  rw [Bd,Fy,ih,List.contains_cons]
  congr 1
  show dI (.str y) (.str z)=(z == y)
  by_cases h:y=z
  ·subst h;simp [dI]
  ·have h':z≠y:=λq=>h q.symm;show(y == z)=(z == y);rw [beq_eq_false_iff_ne.mpr h,beq_eq_false_iff_ne.mpr h']
theorem C1(zs:List Str):(zs.map V.str).all jE=true:=by
 rw [Fw];intro x hx;obtain⟨z,_,rfl⟩:=Aj.mp hx;rfl
theorem kL{e1 e2:Expr}{k:Nat}{pos:Pos}{t:Addr}{x y:V}{R:St->Hp->Prop}(hc:X.calm=true)(ht:aW X.K H t [x,y])(h:Eg X e1 x σ H λσ1 H1=>Eg X e2 y σ1 H1 R)
  (hn:(assignEach [e1,e2] X.env).length=2:=by rfl) (cR:(assignEach [e1,e2] X.env).findIdx? (·.1)=none:=by rfl)
  (gR:(assignEach [e1,e2] X.env).map (·.2)=assign e1 X.env :: (assignEach [e2] X.env).map (·.2):=by rfl) (C2:(assignEach [e2] X.env).map (·.2)=assign e2 X.env :: (assignEach [] X.env).map (·.2):=by rfl) :
  Eg X (.Tuple [e1,e2] k pos) (.ref t) σ H R:=
 zV (Ka (t:=qv (λv σ H Q=>Eg X e1 v σ H Q)<|qv (λv σ H Q=>Eg X e2 v σ H Q) oA) hc (sf oO (sf oO J9 C2) gR) hn cR) ⟨t,_,rfl,ht,rfl,_,_,rfl,h.mono λσ1 H1 h1=>⟨_,_,rfl,h1.mono λσ2 H2 q=>⟨rfl,q⟩⟩⟩
end
end L2
namespace PySem
theorem getAttr?_miss_list{prog:Program}{w:World}{A:Around}{E:Value->Shared->Prop}{s:Shared}{a:Addr}{o:Obj}{xs:Array Value}{k:Nat}{name:Str}{Q:Option Value->Shared->Prop}
  (hx:s.heap.get? a=some o) (hc:o.cls = .type "list") (i0:o.data = .seq xs k) (hd:o.dict=none) (tY:typeLookup (.type "list") name=pure none) (dU:(["__module__","__name__","__qualname__","__doc__","__annotations__"]:List Str).contains name=false) (hA:A.handled=none)
  (h:∀ h' tk e,Heap.NewExcOf s.heap h' e "AttributeError"->Q none {s with heap:=h',toks:=tk}) (hsz:name.length+100<=sizeLine:=by size_fits) :
  wpAny (model prog w) A (getAttr? (.ref a) name) Q E s:=by
 obtain⟨c,dct,dat,sl⟩:=o;simp only at hc i0 hd;subst hc i0 hd;obtain⟨hp,g,d,tk,os⟩:=s;have hT:∀ MM,(⟨hp,g,d,MM,os⟩:Shared).TypeIs (.ref a) "list":=λ_=>⟨_,hx,rfl⟩;have f1:=sub_AttributeError;have f3:=F.slot_list_getattribute.lookup;have f4:=F.slot_list_getattribute.bind<|.ref a;have f5:=am_list_getattr_none;unfold getAttr? getAttrBy? getAttrBy
 repeat (any_goals (first | assumption | exact hT _ | ((with_reducible show wpAny _ _ (call (Value.builtin "list.__getattribute__") _ _) _ _ _);refine JD F.slot_list_getattribute (hT _) am_entry_list_getattribute (F.args_list_getattribute_2 _ _) (meets_getattribute_miss_list a xs k sl name _ tY dU hsz) ⟨hx,hA,λh' MM e qP=>?_⟩) | wp_step))
 obtain⟨t',u',he⟩:=qP.there;show wpAny _ _ (getattributeRaised _ _ _ _ _ _ _) _ _ _;unfold getattributeRaised
 repeat (any_goals (first | assumption | wp_step))
 exact h _ _ _ qP.of
namespace F
theorem bp:entryFor table "dict.update.loop" = some Builtin.«dict.update.loop»:=entryFor_of_tree<|by kernel_rfl
theorem aN:plainId "dict.update.loop" = true:=by decide +kernel
theorem fD:typeLookup (.type "list") "keys" = pure none:=by rw [RM,KD];kernel_rfl
end F
section
variable{prog:Program}{w:World}{K:Type} [DecidableEq K] {knd:KeyKind prog w K} {A:Around} {R:Result->Shared->Prop}
def C3(knd:KeyKind prog w K)(h:Heap)(items:List Value)(gB:List<|K×Value):Prop:=
 items.length=gB.length/\∀(j:Nat) it,items[j]?=some it->∃ T key k v o n,it = .ref T/\gB[j]?=some (k,v)/\knd.is k key=true/\h.get? T=some o/\o.cls = .type "tuple"/\o.data = .seq #[key,v] n
theorem Xd(kvs:List<|K×Value)(k:K)(v:Value):(stored kvs k v).length<=kvs.length+1:=by
 unfold stored
 split
 ·rw [Aa];omega
 ·rw [Ah];simp
theorem Xe{hB:Heap}{d I l:Addr}{items:List Value}{gB:List (K×Value)}(hd:hB.objs.size<=d)(hI:hB.objs.size<=I)(C4:d≠I)(hl:hB.IsList l items.toArray)(hp:C3 knd hB items gB)(hn:items.length < sizeLine)(hh:A.handled=none) :
  ∀(k i:Nat) (s:Shared) (acc:List<|K×Value),items.length - i=k->i<=items.length->(∀ b o,hB.get? b=some o->s.heap.get? b=some o)->s.heap.IsListIter I l i->s.heap.DictOf knd d acc->acc.length<=i ->
   (∀ h' tk,(∀ b o,b≠I->b≠d->s.heap.get? b=some o->h'.get? b=some o)->h'.DictOf knd d ((gB.drop i).foldl (λa p=>stored a p.1 p.2) acc)->R (.ok<|.ret .none) {s with heap:=h',toks:=tk}) ->
   codeAny (model prog w) A (.builtin "dict.update.loop" ⟨[.ref d,.ref I,rawInt i,.none],[]⟩) R s:=by
 have nb:∀ b o,hB.get? b=some o->b≠I/\b≠d:=λb o e=>⟨Cg<|Bj (Av e) hI,Cg<|Bj (Av e) hd⟩;intro k
 induction k with
 | zero=>
  intro i s acc hk hi gC cR hD bM hR;have wm:i=items.length:=by omega
  refine FN F.bp ?_;rw [DK F.aN _];show wpAny _ A.in1 (pyNext (.ref I) >>= _) _ _ s;have qZ:s.heap.IsList l items.toArray:=let ⟨o,ho,r⟩:=hl;⟨o,gC _ _ ho,r⟩
  refine BJ (KC hh cR qZ (by simp;omega) λh' eb=>?_);show wpAny _ A.in1 (Builtin.Dict.addKeywords d [] >>= _) _ _ _;refine BJ<|BP<|BP ?_;refine hR h' s.toks (λb o hb _ e=>eb b o hb e) ?_;rw [List.drop_eq_nil_of_le<|by have:=hp.1;omega];exact hD.extBut eb C4
 | succ k ih=>
  intro i s acc hk hi gC cR hD bM hR;have aT:i < items.length:=by omega
  have hx:items[i]?=some items[i]:=Ab aT;obtain⟨T,key,kk,v,o,n,e1,e2,e3,e4,e5,e6⟩:=hp.2 i _ hx;rw [e1] at hx;refine FN F.bp ?_;rw [DK F.aN _];show wpAny _ A.in1 (pyNext (.ref I) >>= _) _ _ s;have qZ:s.heap.IsList l items.toArray:=let ⟨o,ho,r⟩:=hl;⟨o,gC _ _ ho,r⟩
  refine BJ (HY cR qZ (x:= .ref T) (by simpa using hx) λh' cS sb=>?_);have eT:h'.get? T=some o:=(sb.2 T (nb T o e4).1).trans<|gC _ _ e4;refine BJ<|CP<|BJ<|JR ?_;unfold Builtin.Dict.pairItems;refine BJ<|KR (T:= "tuple") ⟨o,eT,e5⟩ ?_;rw [BL<|by decide];refine BJ<|JB (s:={s with heap:=h'}) eT e6<|BP ?_;show wpAny _ _ (holding [key,v]<|dictSet d key v) _ _ _;refine CP (wpAny_dictSet_pairs (knd:=knd) (s:={s with heap:=h'}) (k:=kk) e3 (hD.extBut sb.extBut C4) (λh2 D2 MO=>?_)<|by omega);refine BP ⟨FP F.aN _,?_⟩;have MQ:∀ b o,b≠I->b≠d->s.heap.get? b=some o->h2.get? b=some o:=λb o h1 h3 e=>(MO.2 b h3).trans<|(sb.2 b h1).trans e;refine ih (i+1) {s with heap:=h2,toks:=s.toks+1} (stored acc kk v) (by omega) aT (λb o e=>MQ b o (nb b o e).1 (nb b o e).2<|gC _ _ e) (cS.extBut MO.extBut<|Ne.symm C4) D2 (by have:=Xd acc kk v;omega) λh3 tk k3 D3=>?_;refine hR h3 tk (λb o h1 mK e=>k3 b o h1 mK<|MQ b o h1 mK e) ?_;have e7:gB.drop i=(kk,v) :: gB.drop (i+1):=by
   obtain⟨hj,e8⟩:=Ad.mp e2;rw [Es hj,e8]
  rw [e7];exact D3
theorem Xf{E:Value->Shared->Prop}{s:Shared}{Q:Value->Shared->Prop}{l:Addr}{ol:Obj}{nl:Nat}{items:List Value}{gB:List (K×Value)}(ho:s.heap.get? l=some ol)(hc:ol.cls = .type "list")(Xg:ol.dict=none)(C5:ol.data = .seq items.toArray nl)(hp:C3 knd s.heap items gB)(hn:items.length < sizeLine)(hh:A.handled=none)
  (h:∀ h' tk,(∀ b o,s.heap.get? b=some o->h'.get? b=some o)->h'.DictOf knd s.heap.objs.size (gB.foldl (λa p=>stored a p.1 p.2) [])->Q (.ref s.heap.objs.size) {s with heap:=h',toks:=tk}) :
  wpAny (model prog w) A (call (.type "dict") [.ref l]) Q E s:=by
 refine callType_codes (Q₁:=λobj s₁=>obj = .ref s.heap.objs.size/\s₁={s with heap:=s.heap.push {cls:= .type "dict",data:= .dict #[]}}) F.kt_called_dict (F.kt_typeCall_dict_1 _) F.entry_dict_init (kt_code_dict_new _ ⟨rfl,rfl⟩) ?_;rintro obj s₁ ⟨rfl,rfl⟩;have gs:(s.heap.push {cls:= .type "dict",data:= .dict #[]}).DictOf knd s.heap.objs.size []:=Heap.DictOf.new s.heap;have gO:(s.heap.push {cls:= .type "dict",data:= .dict #[]}).get? l=some ol:=Ai _ ho;refine⟨gs.typeIs,F.args_dict_init_2 _ _,?_⟩;unfold Builtin.«dict.__init__»;refine BJ ?_;unfold Builtin.Dict.selfAndRest;refine BJ<|wpAny_notOrdered_dict gs.typeIs ?_;show wpAny _ _ (pure (s.heap.objs.size,[Value.ref l])) _ _ _;refine BP ?_;show wpAny _ _ (Builtin.Dict.updateFrom "dict.__init__" s.heap.objs.size (.ref l) [] .none) _ _ _;unfold Builtin.Dict.updateFrom;refine BJ<|KR (T:= "list") ⟨ol,gO,hc⟩ ?_;rw [BL<|by decide];refine BJ (getAttr?_miss_list gO hc C5 Xg F.fD (by decide) (by exact hh) λh' tk e ne=>?_);rw [BL (show(none:Option Value).isNone=true from rfl)];have kp:∀ b o,s.heap.get? b=some o->h'.get? b=some o:=λb o e=>ne.keeps b o<|Ai _ e;refine BJ<|HW ?_;have hL:h'.IsList l items.toArray:=⟨ol,kp _ _ ho,hc,nl,C5⟩;refine BJ<|NZ hL ?_;refine BP ⟨FP F.aN _,?_⟩;have rd:h'.DictOf knd s.heap.objs.size []:=let ⟨o,es,ep,ho,r⟩:=gs;⟨o,es,ep,ne.keeps _ _ ho,r⟩
 have aT:s.heap.objs.size < h'.objs.size:=let ⟨o,es,ep,ho,r⟩:=rd;Av ho
 refine Xe (hB:=s.heap) (d:=s.heap.objs.size) (I:=h'.objs.size) (l:=l) (Ao _) (Cz aT) (Cg aT) ⟨ol,ho,hc,nl,C5⟩ hp hn (by exact hh) _ 0 _ [] rfl (Ci _) (λb o e=>Ai _<|kp b o e) ⟨_,Be _ rfl,rfl,rfl⟩ (rd.push _) (Ci _) λh2 Xh k2 D2=>?_;refine⟨rfl,h h2 Xh (λb o e=>k2 b o (Cg<|Av<|kp b o e) (Cg<|Av e)<|Ai _<|kp b o e) D2⟩
end
end PySem
namespace L2
open PySem PySem.Spec PyProof.Rows
section
variable{X:Cx}{pins:List (Addr×Obj)}{σ:St}{H:Hp}{s:Shared}
theorem Xi{kvs:List (Key×V)}:∀{ps:List (Key×V)} {acc:List (Key×Value)} {rs:List (Key×Value)},KV ps acc->KV kvs rs->KV (kvs.foldl (λa p=>putK a p.1 p.2) ps) (rs.foldl (λa p=>stored a p.1 p.2) acc):=by
 induction kvs with
 | nil=>intro ps acc rs h g;cases g;exact h
 | cons p r ih=>
  intro ps acc rs h g;cases g with
  | @cons _ q _ r' hq hr=>
   obtain⟨e1,e2⟩:=hq;rw [Ex,Ex];refine ih ?_ hr;rw [<- e1];exact h.put p.1 e2
theorem MR{P:Program}{w:World}{h:Heap}:∀{kvs:List (Key×V)} {ts:List Addr},ts.length=kvs.length->(∀(j:Nat) t kv,ts[j]?=some t->kvs[j]?=some kv->∃ key v o m,(dN P w).is kv.1 key=true/\RelV kv.2 v/\h.get? t=some o/\o.cls = .type "tuple"/\o.data = .seq #[key,v] m) ->
  ∃ rs:List<|Key×Value,KV kvs rs/\∀(j:Nat) t,ts[j]?=some t->∃ key k v o m,rs[j]?=some (k,v)/\(dN P w).is k key=true/\h.get? t=some o/\o.cls = .type "tuple"/\o.data = .seq #[key,v] m
 | [],ts,hl,_=>by
  have:ts=[]:=Bk.mp hl;subst this;exact⟨[],.nil,λj t h=>by simp at h⟩
 | kv :: r,[],hl,_=>by simp at hl
 | kv :: r,t :: ts,hl,hp=>by
  obtain⟨key,v,o,m,q1,q2,q3,q4,q5⟩:=hp 0 t kv rfl rfl;obtain⟨rs,hk,hr⟩:=MR (kvs:=r) (ts:=ts) (by simpa using hl) λj t kv h1 h2=>hp (j+1) t kv (by simpa using h1) (by simpa using h2);refine⟨(kv.1,v) :: rs,.cons ⟨rfl,q2⟩ hk,λj t' ht=>?_⟩;cases j with
  | zero=>
   cases ht;exact⟨key,kv.1,v,o,m,rfl,q1,q3,q4,q5⟩
  | succ j=>
   obtain⟨key,k,v,o,m,e,z⟩:=hr j t' (by simpa using ht);exact⟨key,k,v,o,m,by simpa using e,z⟩
theorem Xj(hc:X.calm=true):fh X (.type "dict") (λxs H Q=>∃(a:Addr) (ts:List Addr) (kvs:List<|Key×V),xs=[.ref a]/\H a=some (.lst<|ts.map V.ref)/\ts.length=kvs.length/\ts.length < sizeLine/\(∀(j:Nat) t kv,ts[j]?=some t->kvs[j]?=some kv->H t=some (.tup [kV kv.1,kv.2])) /\
  ∀ d,H d=none->Q (.ref d) (upd H d<|.dK<|kvs.foldl (λa p=>putK a p.1 p.2) [])):=by
 intro pins s σ H xs us Q I r h;obtain⟨a,ts,kvs,rfl,hH,hl,hz,ht,q⟩:=h;obtain⟨u,rfl,ru⟩:=vals1 r;cases (show u=Value.ref a from ru);obtain⟨z,its,n,rv,e⟩:=(show aH X.prog X.w H s.heap a (.lst<|ts.map V.ref) from I.aJ a _ hH);have wu:=rv.length;rw [Aa] at wu;have po:∀(j:Nat) t,ts[j]?=some t->its[j]?=some (.ref t):=λj t hj=>by
  obtain⟨u,hu,ru⟩:=rv.get (i:=j) (x:= .ref t) (by rw [Ag,hj];rfl);cases (show u=Value.ref t from ru);exact hu
 have pair:∀(j:Nat) t kv,ts[j]?=some t->kvs[j]?=some kv->∃ key v o m,(dN X.prog X.w).is kv.1 key=true/\RelV kv.2 v/\s.heap.get? t=some o/\o.cls = .type "tuple"/\o.data = .seq #[key,v] m:=λj t kv h1 h2=>by
  obtain⟨z2,gm,jP,o,eo,co,m,dm⟩:=(show aH X.prog X.w H s.heap t (.tup [kV kv.1,kv.2]) from I.aJ t _<|ht j t kv h1 h2);obtain⟨key,v,e3,r1,r2⟩:=jP.two;refine⟨key,v,o,m,mH r1,r2,eo,co,?_⟩;rw [dm,e3]
 obtain⟨rs,hk,hr⟩:=MR hl pair;have kN:=hk.length;have hP:C3 (dN X.prog X.w) s.heap its rs:=by
  refine⟨by omega,λj it hj=>?_⟩;have pq:j < ts.length:=by have:=(Ad.mp hj).1;omega
  have MS:ts[j]?=some ts[j]:=Ab pq;have e2:=po j _ MS;rw [hj] at e2;obtain⟨key,k,v,o,m,q1,q2,q3,q4,q5⟩:=hr j _ MS;exact⟨ts[j],key,k,v,o,m,Option.some.inj e2,q1,q2,q3,q4,q5⟩
 refine Xf (knd:=dN X.prog X.w) e rfl rfl rfl hP (by omega) (I.ok.hd hc) λh' tk kp D=>?_;have hlen:∀(l:List<|Key×V) (a:List<|Key×V),(l.foldl (λa p=>putK a p.1 p.2) a).length<=a.length+l.length:=by
  intro l
  induction l with
  | nil=>intro a;exact Ao _
  | cons p r ih=>
   intro a;rw [Ex,Ax];have h1:=ih<|putK a p.1 p.2;have h2:=mG a p.1 p.2;omega
 have hb:=I.big;refine⟨.ref s.heap.objs.size,_,I.laid (t':=tk) kp (Ao _) (show aH X.prog X.w _ h' _ (.dK<|kvs.foldl (λa p=>putK a p.1 p.2) []) from⟨?_,?_,_,Xi (kvs:=kvs) (ps:=[]) (acc:=[]) .nil hk,D⟩),rfl,q _<|I.aJ.fresh<|Ao _⟩
 ·have:=hlen kvs [];rw [Gb] at this;omega
 ·exact beq_eq_false_iff_ne.mpr<|Dc hb
end
section
variable{X:Cx}{pins:List (Addr×Obj)}{σ:St}{H:Hp}{s:Shared}{h':Heap}
end
section
variable{X:Cx}
end
section
variable{X:Cx}{elt t1 i1 t2 i2:Expr}{f1 f2:List Expr}{scope:Scope}{pos:Pos}{σ:St}{H:Hp}{acc:Value}{env:Env}
end
section
variable{X:Cx}{pins:List (Addr×Obj)}{σ:St}{H:Hp}{s:Shared}{a:Addr}{y v:V}{u r:Value}{A:Around}{E:Value->Shared->Prop}
theorem Xk{H':Hp}{Q:Unit->Shared->Prop}(hu:A.units+1 < cLine)(I:Inv X pins σ H s)(g:cC H a y v H')(ry:RelV y u)(rv:RelV v r)(h:∀ s',Inv X pins σ H' s'->Q () s') :
  wpAny (model X.prog X.w) A (dictSet a u r) Q E s:=by
 rcases g with ⟨kvs,k,e,ey,l,eH⟩ | ⟨kvs,k,b,e,ey,eb,l,eH⟩
 ·subst ey eH;obtain⟨z,hd,vs,rel,dd⟩:=zH I.aJ e;have hz:vs.length<=sizeLine:=by rw [<- rel.length];exact z
  have hl:(putK kvs k v).length<=sizeLine:=by have:=mG kvs k v;omega
  refine wpAny_dictSet_pairs (hsz:=hz) (mH ry) dd λh' iY hs=>h _ ?_;have he:∃ q,h'.get? a=some q:=let ⟨q,_,_,hq,_⟩:=iY;⟨q,hq⟩
  exact qH I (by rw [e];exact True.intro) hs he<|zJ hl hd (rel.put k rv) iY
 ·subst ey eH;cases (show u=Value.ref b from ry);obtain⟨z,hd,xs,rel,dd⟩:=K3 I.aJ e;have hz:xs.length<=sizeLine:=by rw [<- Paired.length rel];exact z
  have hl:(putK kvs k v).length<=sizeLine:=by have:=mG kvs k v;omega
  have room:(tupleKind<|dN X.prog X.w).room A:=by first | exact hu | exact OJ hu | exact Gd (Eh _) hu
  refine wpAny_dictSet_heap (hsz:=hz) room (qG I.aJ eb) dd λh' iY hs=>h _ ?_;obtain⟨q,es,ep,hq,h2,h3,h4,_,h5⟩:=iY;refine qH I (by rw [e];exact True.intro) hs ⟨q,hq⟩ ⟨hl,hd,_,(rel.put k eb rv).keeps λc ys ec=>?_,q,es,ep,hq,h2,h3,h4,h5⟩;rw [aw<|eF ec e λz=>nomatch z];exact ec
end
section
variable{X:Cx}{k v t1 i1 t2 i2:Expr}{f1 f2:List Expr}{scope:Scope}{pos:Pos}{σ:St}{H:Hp}{acc:Value}{env:Env}
end
open b6
theorem Xl{prog:Program}{w:World}{A:Around}{E:Value->Shared->Prop}{s:Shared}{a:Addr}{zs:List Str}{z:Str}{tk:Tok}{Q:Value->Shared->Prop}(S:bL prog w s.heap a zs)(hb:zs.length+1 < 1000)
  (h:∀ h',Heap.SameBut a s.heap h'->bL prog w h' a (added zs z)->Q .none {s with heap:=h',toks:=s.toks+1}) :
  wpAny (model prog w) A (call (.builtin "set.add") [.ref a,.str z tk]) Q E s:=by
 have hT:s.TypeIs (.ref a) "set":=let ⟨o,_,_,_,ho,hx,_⟩:=S;⟨o,ho,hx.1⟩
 refine FQ F.slot_set_add hT F.entry_set_add ?_<|F.args_set_add_2 _ _;unfold Builtin.«set.add» Builtin.Frozenset.oneOther;simp only [List.isEmpty_nil,bind_assoc];unfold Builtin.Frozenset.addrOf setAdd;refine BJ<|BP ?_
 try dsimp only
 refine BJ<|BP ?_
 try dsimp only
 refine BJ ?_;refine CP ?_;refine BJ ((PySem.strKind prog w).pyHash (k:=z) (v:= .str z tk) (by simp [PySem.strKind,Value.isStrOf]) ?_);refine VN (s:={s with toks:=s.toks+1}) S hb λb h' sb S'=>?_;show wpAny _ _ (ret Value.none) _ _ _;exact BP ⟨_,rfl,h h' sb S'⟩
theorem Xm{prog:Program}{w:World}{A:Around}{E:Value->Shared->Prop}{s:Shared}{Q:Value->Shared->Prop}(k:Q (.ref s.heap.objs.size) {s with heap:=s.heap.push (AV w)}):wpAny (model prog w) A (newSet<|.type "set") Q E s:=by
 unfold newSet;refine BJ<|wp_text ?_
 dsimp only
 simp only [newObj];exact BJ<|wpAny_alloc<|BP k
def tZ(elt:Expr)(acc:Value)(env:Env):Sem Unit:=do let v <- eval elt env;standAt elt.pos;let _ <- call (.builtin "set.add") [acc,v]
def rg(elt t1 i1:Expr)(f1:List Expr)(t2 i2:Expr)(f2:List Expr)(scope:Scope)(pos:Pos)(acc:Value)(env:Env):Sem Unit:=do
 let x <- eval i2 env
 standAt i2.pos
 let x <- foldedSetIterable i2 env x
 let _ <- runOwn (.compStart (.SetComp elt [⟨t1,i1,f1,0⟩,⟨t2,i2,f2,0⟩] scope pos) 1 (<- holding [x]<|pyIter x) acc env) env
section
variable{X:Cx}{elt t1 i1 t2 i2:Expr}{f1 f2:List Expr}{scope:Scope}{pos:Pos}{σ:St}{H:Hp}{acc:Value}{env:Env}
theorem Xn:Clause (.SetComp elt [⟨t1,i1,f1,0⟩,⟨t2,i2,f2,0⟩] scope pos) 0 t1 i1 f1 acc env (rg elt t1 i1 f1 t2 i2 f2 scope pos acc env):=⟨rfl,λ_=>rfl,λ_ _ _=>rfl,λ_ _=>rfl,λ_ _ _=>rfl,λ_ _=>rfl,λit=>by
 unfold rg;simp only [bind_assoc,pure_bind];rfl⟩
theorem Xp:Clause (.SetComp elt [⟨t1,i1,f1,0⟩,⟨t2,i2,f2,0⟩] scope pos) 1 t2 i2 f2 acc env (tZ elt acc env):=⟨rfl,λ_=>rfl,λ_ _ _=>rfl,λ_ _=>rfl,λ_ _ _=>rfl,λ_ _=>rfl,λit=>by
 unfold tZ
 first | rfl | (simp only [bind_assoc,pure_bind];rfl)⟩
theorem Xq{D:Addr}{Q:St->Hp->Prop} (h:Ev X elt σ H λv H1=>∃ z zs,v = .str z/\H1 D=some (fw X.prog X.w D zs)/\zs.length+1 < 1000/\Q σ (upd H1 D<|fw X.prog X.w D<|added zs z)):tD X (tZ elt (.ref D) X.env) σ H Q:=by
 refine⟨λpins s I=>?_⟩;unfold tZ;refine BJ<|aS (h.run pins s I) λv s1 ⟨x,H1,I1,r1,z,zs,e,hD,hl,q⟩=>?_;subst e;obtain⟨tk,rfl⟩:=r1;refine BJ (FZ<|BJ<|Xl (I1.set hD) hl λh' sb S'=>BP ⟨σ,_,qH (t':=s1.toks+1) I1 (by rw [hD];exact True.intro) sb ?_<|Mb S',q⟩);obtain⟨o,_,_,_,ho,_⟩:=S';exact⟨o,ho⟩
theorem Xr{wi:TI}{Q:St->Hp->Prop}(gQ:X.xe=λ_ _=>False)(hc:X.calm=true)(hi:PI X t2 i2 wi)(h:wi σ H λJ H1=>oV X t2 f2 (tZ elt acc X.env) J Q σ H1)
  (hs:∀ x,foldedSetIterable i2 X.env x=pure x:=by intro _;rfl):tD X (rg elt t1 i1 f1 t2 i2 f2 scope pos acc X.env) σ H Q:=by
 refine⟨λpins s I=>?_⟩;unfold rg;refine BJ<|aS (hi pins s σ H _ I h) λx s1 h1=>?_;refine BJ<|FZ<|BJ<|wpAny_of_eq (hs x)<|BJ<|CP<|CK h1 (λqw s2 h2=>?_) λ_ _ e=>e;obtain⟨it,fp,tn,J,H2,e,I2,T,iC,C6,q⟩:=h2;subst e;refine BJ<|wpAny_runOwn (Q:=λ_ s'=>wpAny (model X.prog X.w) X.A (pure ()) (λ_ s'=>∃ σ' H',Inv X pins σ' H' s'/\Q σ' H') X.xe s') ?_;exact Lp gQ hc Xp I2 T iC C6 q λσ' H' s' I' q'=>BP ⟨σ',H',I',q'⟩
theorem Xs{wi:TI}{Q:VK}(sc:Scope)(N N':List Str)(n:Nat)(hi:PI X t1 i1 wi)
  (h:wi σ H λJ H1=>∀ D,H1 D=none->∀ cl C s₀ H₀ ex,oV (hU X N' scope cl C s₀ H₀ ex) t1 f1 (rg elt t1 i1 f1 t2 i2 f2 scope pos (.ref D)<|compEnvC scope cl C X.env) J (λ_ H'=>Q (.ref D) H') (σ++List.replicate n none)<|upd H1 D<|fw X.prog X.w D [])
  (hc:X.calm=true:=by rfl) (tE:X.env.scope=sc:=by rfl) (hN:X.N=N:=by rfl) (hk:tf sc scope N N'=true:=by decide +kernel) (hl:N'.length=N.length+n:=by rfl)
  (hs:∀ x,foldedSetIterable i1 X.env x=pure x:=by intro _;rfl):Ev X (.SetComp elt [⟨t1,i1,f1,0⟩,⟨t2,i2,f2,0⟩] scope pos) σ H Q:=by
 refine⟨λpins s I=>?_⟩;subst tE hN;have ck:=ci.of hk;show wpAny _ _ (comprehension (.SetComp elt [⟨t1,i1,f1,0⟩,⟨t2,i2,f2,0⟩] scope pos) scope X.env (firstIterPos [⟨t1,i1,f1,0⟩,⟨t2,i2,f2,0⟩] pos) (newSet<|.type "set") (firstAsync [⟨t1,i1,f1,0⟩,⟨t2,i2,f2,0⟩])<|firstIter [⟨t1,i1,f1,0⟩,⟨t2,i2,f2,0⟩] X.env) _ _ _;refine JM (use:=none) rfl hs (zL λx hx hf=>I.ok.has x.1<|ck.free x hx hf) ck.kind ck.names (aS (hi pins s σ H _ I h) λxv s1 h1=>aS h1 λqw s2 h2=>?_);obtain⟨it,fp,tn,J,H2,e,I2,T,iC,C6,q⟩:=h2;subst e;refine Lw (e:= .SetComp elt [⟨t1,i1,f1,0⟩,⟨t2,i2,f2,0⟩] scope pos) (newAcc:=newSet<|.type "set") (o0:=AV X.w) (u0:=λD=>fw X.prog X.w D []) (λ_ _ _ h=>Xm h) (λ_ h _=>Mb<|VP<|Be _ rfl) (Q:=Q) (RR:=λacc C=>compPost (model X.prog X.w) X.A X.xe none (EP X pins σ Q) acc C) hc ck hl (inner:=rg elt t1 i1 f1 t2 i2 f2 scope pos) (λ_ _=>Xn) I2 T iC C6 q ?_;intro D C H' s' m IX hn hC c1 c2 c3 c4 qq;exact⟨m,hn,λh' hV=>⟨.ref D,H',IX.turned (t':=s'.toks) (λb o hb e=>hV.extBut b o hb e) hC (Ne.symm<|Ne.symm c1) (.inr c2) c3 c4,rfl,qq⟩⟩
end
end L2
namespace L2
open PySem PySem.Builtin PySem.Builtin.Str
section
variable{X:Cx}{σ:St}{H:Hp}{Q:VK}
end
end L2
namespace PySem
section
variable{P:Program}{w:World}{A:Around}{E:Value->Shared->Prop}{s:Shared}
end
end PySem
namespace L2
open PySem PySem.Spec PyProof.Rows
section
variable{X:Cx}{pins:List (Addr×Obj)}{σ:St}{H:Hp}{s:Shared}
end
section
variable{X:Cx}
end
section
variable{X:Cx}{tg:Expr}{ifs:List Expr}{inner:Sem Unit}{σ:St}{H:Hp}{d:Addr}{o:Obj}{kvs:List (List Key×V)}{after:St->Hp->Prop}
end
open b6
section
variable{X:Cx}{σ:St}{H:Hp}{Q:VK}
end
section
variable{prog:Program}{w:World}{A:Around}{E:Value->Shared->Prop}{s:Shared}
end
section
variable{X:Cx}{σ:St}{H:Hp}{Q:VK}
end
end L2
namespace Nt
open PySem L2
def pv(c:Int)(n:Net)(e:End):End:=(e.1,(((e.2:Int)+c) % ((row n e.1).length:Int)).toNat)
theorem MT{c:Int}{n:Net}{e:End}(h:e∈ends n):(((pv c n e).2:Nat):Int)=((e.2:Int)+c) % ((row n e.1).length:Int):=by
 obtain⟨z,hz⟩:=af.mp h;have:=eQ hz;exact Int.toNat_of_nonneg<|Cd _<|by omega
theorem Xt{c:Int}{n:Net}{e:End}(h:e∈ends n):pv c n e∈ends n:=by
 obtain⟨z,hz⟩:=af.mp h;have h1:=eQ hz;have h2:=MT (c:=c) h;have h3:((e.2:Int)+c) % ((row n e.1).length:Int) < ((row n e.1).length:Int):=Ch _ (by omega);exact af.mpr<|tN (e:=pv c n e)<|by show(pv c n e).2 < (row n e.1).length;omega
theorem MU{n:Net}{e:End}(h:e∈ends n):left n e=pv 1 n e:=by
 have h2:=MT (c:=1) h;refine EY rfl ?_;show(e.2+1) % (row n e.1).length=(pv 1 n e).2;have:(((e.2+1) % (row n e.1).length:Nat):Int)=((e.2:Int)+1) % ((row n e.1).length:Int):=by simp
 omega
def go(c:Int)(n:Net)(e:End):End:=pv c n<|other n e
theorem Xu{c:Int}{n:Net}(T:aj n){e:End}(h:e∈ends n):go c n e∈ends n:=Xt<|c9 T h
theorem wW{n:Net}(T:aj n){e:End}(h:e∈ends n):step n e=go 1 n e:=MU<|c9 T h
def bg(n:Net)(e:End):Str:=(ax n e).getD ⟨#[]⟩
theorem gT{n:Net}{e:End}{z:Str}(h:ax n e=some z):bg n e=z:=by unfold bg;rw [h];rfl
structure eS(n:Net)(e:End)(k:Nat):Prop where
 pos:0 < k
 back:it (step n) k e=e
 first:∀ i,0 < i->i < k->it (step n) i e≠e
theorem eS.unique{n:Net}{e:End}{k l:Nat}(a:eS n e k)(b:eS n e l):k=l:=by
 rcases Gk k l with h | h | h
 ·exact absurd a.back<|b.first k a.pos h
 ·exact h
 ·exact absurd b.back<|a.first l b.pos h
noncomputable def i5(n:Net)(e:End):Nat:=by classical exact if h:∃ k,eS n e k then h.choose else 0
theorem MV{n:Net}{e:End}{k:Nat}(h:eS n e k):i5 n e=k:=by
 have hx:∃ k,eS n e k:=⟨k,h⟩;unfold i5;rw [dif_pos hx];exact hx.choose_spec.unique h
theorem Xv{n:Net}(T:aj n){e:End}(h:e∈ends n):∃ k,eS n e k/\k<=(ends n).length:=by
 obtain⟨k,k0,k1,k2⟩:=BA (f:=step n) (S:=ends n) (λa ha=>kI T ha) (λa ha b hb=>tO T ha hb) h;have aux:∀ m,∀ k,k<=m->0 < k->it (step n) k e=e->∃ j,j<=k/\eS n e j:=by
  intro m
  induction m with
  | zero=>intro k h1 h2;omega
  | succ m ih=>
   intro k h1 h2 h3
   by_cases c:∃ i,0 < i/\i < k/\it (step n) i e=e
   ·obtain⟨i,i1,i2,i3⟩:=c;obtain⟨j,j1,j2⟩:=ih i (by omega) i1 i3;exact⟨j,by omega,j2⟩
   ·exact⟨k,Ao _,h2,h3,λi i1 i2 i3=>c ⟨i,i1,i2,i3⟩⟩
 obtain⟨j,j1,j2⟩:=aux k k (Ao _) k0 k2;exact⟨j,j2,by omega⟩
def fl(n:Net)(e:End)(k:Nat):List End:=(List.range k).map λi=>it (step n) i e
theorem Xw(n:Net)(e:End)(k:Nat):fl n e (k+1)=fl n e k++[it (step n) k e]:=by
 unfold fl;rw [Dg,Al];rfl
theorem pw(n:Net)(e:End)(k:Nat):(fl n e k).length=k:=by unfold fl;simp
theorem MX(n:Net)(e:End){k i:Nat}(h:i < k):(fl n e k)[i]?=some (it (step n) i e):=by
 unfold fl;rw [Ag,Dj h];rfl
noncomputable def face(n:Net)(e:End):List End:=fl n e<|i5 n e
theorem Xx{n:Net}{e:End}{k:Nat}(p:eS n e k)(hk:k<=(ends n).length):cj n e (fl n e k):=
 ⟨by rw [pw];exact p.pos,by rw [pw];exact hk,λi hi=>MX n e (by rw [pw] at hi;exact hi),by rw [pw];exact p.back,by rw [pw];exact p.first⟩
theorem kO{n:Net}(T:aj n){e:End}(h:e∈ends n):cj n e (face n e):=by
 obtain⟨k,p,hk⟩:=Xv T h;unfold face;rw [MV p];exact Xx p hk
theorem cj.eq{n:Net}{e:End}{fs:List End}(f:cj n e fs):fs=face n e:=by
 have p:eS n e fs.length:=⟨f.pos,f.back,f.first⟩;unfold face;rw [MV p];apply Dz;intro i
 by_cases h:i < fs.length
 ·rw [f.at' i h,MX n e h]
 ·rw [Br (by omega),Br<|by rw [pw];omega]
theorem wX{n:Net}(T:aj n){e:End}(h:e∈ends n):∀ c∈face n e,c∈ends n:=(kO T h).ends T h
noncomputable def iN(n:Net):List End->List End->List (List End)
 | [],_=>[]
 | e :: r,told=>if e∈told then iN n r told else face n e :: iN n r (told++face n e)
theorem wY{n:Net}(T:aj n):∀(es:List End) (told:List End),(∀ e∈es,e∈ends n)->∀ w∈iN n es told,∃ e∈es,w=face n e/\e∉told
 | [],_,_,w,hw=>by cases hw
 | e :: r,told,h,w,hw=>by
  unfold iN at hw
  split at hw
  ·obtain⟨e',h1,h2⟩:=wY T r told (λa ha=>h a<|Af _ ha) w hw;exact⟨e',Af _ h1,h2⟩
  ·rename_i hn
   rcases Am.mp hw with rfl | hw
   ·exact⟨e,Ac ..,rfl,hn⟩
   ·obtain⟨e',h1,h2,h3⟩:=wY T r _ (λa ha=>h a<|Af _ ha) w hw;exact⟨e',Af _ h1,h2,λq=>h3<|As _ q⟩
theorem C7(n:Net):∀(es:List End) (told:List End),(iN n es told).length<=es.length
 | [],_=>Ao _
 | e :: r,told=>by
  unfold iN
  split
  ·have:=C7 n r told;show _<=r.length+1;omega
  ·have:=C7 n r<|told++face n e;show _+1<=r.length+1;omega
noncomputable def bd(n:Net):List (List End):=if ends n=[] then [[]] else iN n (ends n) []
theorem Xy(n:Net):(bd n).length<=(ends n).length+1:=by
 unfold bd
 split
 ·show 1<=_;omega
 ·have:=C7 n (ends n) [];omega
theorem MY{n:Net}(T:aj n):∀ w∈bd n,w.length<=(ends n).length/\∀ c∈w,c∈ends n:=λw hw=>by
 unfold bd at hw
 split at hw
 ·rw [Ae.mp hw];exact⟨Ci _,λc h=>by cases h⟩
 ·obtain⟨e,he,rfl,_⟩:=wY T (ends n) [] (λe he=>he) w hw;exact⟨(kO T he).len,wX T he⟩
end Nt
namespace Nt
variable{α β:Type}
def cw(f:α->α):List α->α->α->Prop
 | [],a,b=>a=b
 | x :: l,a,b=>x=a/\cw f l (f x) b
theorem aG{f:α->α}:∀{l k:List α} {a b:α},cw f (l++k) a b↔∃ c,cw f l a c/\cw f k c b
 | [],k,a,b=>⟨λh=>⟨a,rfl,h⟩,λ⟨c,e,h⟩=>by cases e;exact h⟩
 | x :: l,k,a,b=>by
  show(x=a/\cw f (l++k) (f x) b)↔∃ c,(x=a/\cw f l (f x) c)/\cw f k c b;rw [aG];exact⟨λ⟨e,c,h1,h2⟩=>⟨c,⟨e,h1⟩,h2⟩,λ⟨c,⟨e,h1⟩,h2⟩=>⟨e,c,h1,h2⟩⟩
theorem wZ{f:α->α}{f':β->β}{g:α->β}:∀{l:List α} {a b:α},(∀ x∈l,f' (g x)=g (f x))->cw f l a b->cw f' (l.map g) (g a) (g b)
 | [],_,_,_,h=>BZ g h
 | x :: l,a,b,hg,h=>⟨BZ g h.1,by rw [hg x Ac];exact wZ (λy hy=>hg y<|Af _ hy) h.2⟩
theorem w5{f:α->α}:∀{l:List α} {x a b y:α},cw f (x :: l) a b->y∈x :: l->f y∈l\/f y=b
 | [],x,a,b,y,h,hy=>by
  rw [Ae] at hy;subst hy;exact .inr h.2
 | z :: l,x,a,b,y,h,hy=>by
  rcases Am.mp hy with rfl | hy
  ·exact .inl<|by rw [<- h.2.1];exact Ac
  ·rcases w5 h.2 hy with q | q
   ·exact .inl<|Af _ q
   ·exact .inr q
theorem eg{f:α->α}{l:List α}{a y:α}(h:cw f l a a)(ha:a∈l)(hy:y∈l):f y∈l:=by
 cases l with
 | nil=>cases hy
 | cons x l=>
  rcases w5 h hy with q | q
  ·exact Af _ q
  ·rw [q];exact ha
theorem t5{f:α->α}{f':β->β}{g:α->β}{c:α}{h:β}:∀{l:List α} {x:α},(∀ y∈x :: l,f y=c->f' (g y)=h)->(∀ y∈x :: l,f y≠c->f' (g y)=g (f y))->c∉l->cw f (x :: l) x c->cw f' ((x :: l).map g) (g x) h
 | [],x,h1,_,_,p=>⟨rfl,h1 x Ac p.2⟩
 | y :: l,x,h1,h2,hc,p=>by
  have e:y=f x:=p.2.1;have ne:f x≠c:=λq=>hc (by rw [<- q,<- e];exact Ac);refine⟨rfl,?_⟩;rw [h2 x Ac ne,<- e];refine t5 (λz hz=>h1 z<|Af _ hz) (λz hz=>h2 z<|Af _ hz) (λq=>hc<|Af _ q) ?_;exact⟨rfl,p.2.2⟩
structure Dec(f:α->α)(D:List α)(Ls:List<|List α):Prop where
 b5:∀ l∈Ls,∃ a,a∈l/\cw f l a a
 all:Ls.flatten.Perm D
 nd:D.Nodup
theorem Dec.sub{f:α->α}{D:List α}{Ls:List (List α)}(d:Dec f D Ls){l:List α}(hl:l∈Ls){x:α}(hx:x∈l):x∈D:=
 d.all.mem_iff.mp (Ck.mpr ⟨l,hl,hx⟩)
theorem Dec.pick{f:α->α}{D:List α}{Ls:List (List α)}(d:Dec f D Ls){c:α}(hc:c∈D):∃ l Ms,Ls.length=Ms.length+1/\Dec f D ((c :: l) :: Ms):=by
 obtain⟨l,hl,t6⟩:=Ck.mp<|d.all.mem_iff.mpr hc;obtain⟨A,B,rfl⟩:=Cy hl;obtain⟨p,q,rfl⟩:=Cy t6;obtain⟨a,ha,h⟩:=d.b5 _ hl;obtain⟨m,h1,h2⟩:=aG.mp h;have e:c=m:=h2.1;subst e;refine⟨q++p,A++B,by simp [Nat.add_assoc],λk hk=>?_,?_,d.nd⟩
 ·rcases Am.mp hk with rfl | hk
  ·exact⟨c,Ac,aG (l:=c :: q).mpr ⟨a,h2,h1⟩⟩
  ·refine d.b5 k ?_
   rcases Ap.mp hk with q | q
   ·exact As _ q
   ·exact Ar _<|Af _ q
 ·refine List.Perm.trans ?_ d.all;simp only [Bq,Fg,Ek];have e1:(c :: (q++p)).Perm (p++c :: q):=by
   rw [<- Ek];exact Cm
  refine((e1.append_right _).trans ?_);rw [<- At,<- At];exact(Cm).append_right _
theorem Dec.apart{f:α->α}{D:List α}{l:List α}{Ms:List (List α)}(d:Dec f D<|l :: Ms):l.Nodup/\∀ m∈Ms,∀ x∈l,x∉m:=by
 have h:=d.all.nodup_iff.mpr d.nd;rw [Bq,Ce] at h;exact⟨h.1,λm hm x hx mY=>h.2.2 x hx x (Ck.mpr ⟨m,hm,mY⟩) rfl⟩
theorem w6{g:α->β}:∀(Ls:List<|List α),(Ls.map<|List.map g).flatten=Ls.flatten.map g
 | []=>rfl
 | l :: Ls=>by rw [Bd,Bq,w6 Ls,Bq,Al]
theorem Dec.rest{f:α->α}{f':β->β}{g:α->β}{D:List α}{l:List α}{Ms:List (List α)}(d:Dec f D<|l :: Ms)(ho:∀ x∈D,f x∉l->f' (g x)=g (f x)):∀ m∈Ms.map (List.map g),∃ a,a∈m/\cw f' m a a:=by
 intro m hm;obtain⟨k,hk,rfl⟩:=Aj.mp hm;obtain⟨a,ha,p⟩:=d.b5 k<|Af _ hk;refine⟨g a,Aj.mpr ⟨a,ha,rfl⟩,wZ (λx hx=>ho x (d.sub (Af _ hk) hx) λq=>?_) p⟩;exact d.apart.2 k hk _ q<|eg p ha hx
theorem Dec.grow{f:α->α}{f':β->β}{g:α->β}{D:List α}{c:α}{l:List α}{Ms:List (List α)}(d:Dec f D<|(c :: l) :: Ms){new:List β}{h:β}(hn:cw f' new h<|g c)(hh:∀ x∈D,f x=c->f' (g x)=h)(ho:∀ x∈D,f x≠c->f' (g x)=g (f x))(nd:(D.map g++new).Nodup) :
  Dec f' (D.map g++new) (((c :: l).map g++new) :: Ms.map (List.map g)):=by
 have ap:=d.apart;have t6:c∉l:=(Bu.mp ap.1).1;refine⟨λk hk=>?_,?_,nd⟩
 ·rcases Am.mp hk with rfl | hk
  ·obtain⟨a,ha,p⟩:=d.b5 _ Ac;have e:c=a:=p.1;subst e;exact⟨g c,As _ Ac,aG.mpr ⟨h,t5 (λy hy=>hh y<|d.sub Ac hy) (λy hy=>ho y<|d.sub Ac hy) t6 p,hn⟩⟩
  ·exact d.rest (λx hx q=>ho x hx λe=>q<|by rw [e];exact Ac) k hk
 ·rw [Bq,w6];have:=d.all.map g;rw [Bq,Al] at this;refine List.Perm.trans ?_<|this.append_right new;rw [At,At];exact(Cm).append_left _
theorem Dec.split{f:α->α}{f':β->β}{g:α->β}{D:List α}{c d0:α}{l:List α}{Ms:List (List α)}(d:Dec f D<|(c :: l) :: Ms)(hd:d0∈l){e1 e2:β}(h1:f' e1=g d0)(h2:f' e2=g c)(hc:∀ x∈D,f x=c->f' (g x)=e1)(Xz:∀ x∈D,f x=d0->f' (g x)=e2)(ho:∀ x∈D,f x≠c->f x≠d0->f' (g x)=g (f x))(nd:(D.map g++[e1,e2]).Nodup) :
  ∃ Ls,Ls.length=Ms.length+2/\Dec f' (D.map g++[e1,e2]) Ls/\∃ l∈Ls,e2∈l/\e1∉l:=by
 have ap:=d.apart;obtain⟨p,q,rfl⟩:=Cy hd;have C8:=Bu.mp ap.1;have MZ:=Ce.mp C8.2;have XA:=Bu.mp MZ.2.1;have XB:d0∉p:=λx=>MZ.2.2 d0 x d0 Ac rfl;have XD:c∉p:=λx=>C8.1<|As _ x;have XE:c∉q:=λx=>C8.1<|Ar _<|Af _ x;obtain⟨a,ha,pp⟩:=d.b5 _ Ac;have e:c=a:=pp.1;subst e;obtain⟨m,p1,p2⟩:=(aG (l:=c :: p)).mp pp;have e:d0=m:=p2.1;subst e;have inD:∀ y∈c :: p,y∈D:=λy hy=>d.sub Ac (by
  rcases Am.mp hy with rfl | hy
  ·exact Ac
  ·exact Af _<|As _ hy)
 have t7:∀ y∈d0 :: q,y∈D:=λy hy=>d.sub Ac<|Af _<|Ar _ hy;have M0:=Ce.mp nd;have XG:e1≠e2:=λe=>by
  have:=M0.2.1;rw [e] at this;simp at this
 refine⟨((c :: p).map g++[e2]) :: ((d0 :: q).map g++[e1]) :: Ms.map (List.map g),by simp,⟨λk hk=>?_,?_,nd⟩,_,Ac,Ar _<|Ae.mpr rfl,λh=>?_⟩
 ·rcases Am.mp hk with rfl | hk
  ·refine⟨g c,As _ Ac,aG.mpr ⟨e2,t5 (λy hy=>Xz y<|inD y hy) (λy hy ne=>ho y (inD y hy) (λec=>?_) ne) XB p1,rfl,h2⟩⟩
   rcases w5 p1 hy with z | z
   ·exact XD<|by rw [<- ec];exact z
   ·exact ne z
  ·rcases Am.mp hk with rfl | hk
   ·refine⟨g d0,As _ Ac,aG.mpr ⟨e1,t5 (λy hy=>hc y<|t7 y hy) (λy hy ne=>ho y (t7 y hy) ne λec=>?_) XE p2,rfl,h1⟩⟩
    rcases w5 p2 hy with z | z
    ·exact XA.1<|by rw [<- ec];exact z
    ·exact ne z
   ·exact d.rest (λx hx q=>ho x hx (λe=>q<|by rw [e];exact Ac) λe=>q<|by rw [e];exact Af _<|Ar _ Ac) k hk
 ·simp only [Bq,w6];have:=d.all.map g;rw [Bq,Al,<- Ek,Al] at this;refine List.Perm.trans ?_<|this.append_right [e1,e2];generalize (c :: p).map g=A;generalize (d0 :: q).map g=B;generalize Ms.flatten.map g=C
  letI:DecidableEq β:=λa b=>Classical.propDecidable<|a=b
  rw [List.perm_iff_count];intro z;simp only [Ec,Dh,List.count_nil];omega
 ·rcases Ap.mp h with h | h
  ·obtain⟨y,hy,e⟩:=Aj.mp h;exact M0.2.2 e1 (Aj.mpr ⟨y,inD y hy,e⟩) e1 Ac rfl
  ·exact XG<|Ae.mp h
theorem Dec.more{f:β->β}{D:List β}{Ls:List (List β)}(d:Dec f D Ls){b:β}(hb:f b=b)(nd:(D++[b]).Nodup):Dec f (D++[b]) (Ls++[[b]]):=by
 refine⟨λl hl=>?_,?_,nd⟩
 ·rcases Ap.mp hl with h | h
  ·exact d.b5 l h
  ·rw [Ae] at h;subst h;exact⟨b,Ac,rfl,hb⟩
 ·rw [Fg];exact d.all.append_right _
theorem Dec.carry{f:α->α}{f':β->β}{g:α->β}{D:List α}{D':List β}{Ls:List (List α)}(d:Dec f D Ls)(ho:∀ x∈D,f' (g x)=g (f x))(hD:(D.map g).Perm D')(nd:D'.Nodup):Dec f' D' (Ls.map<|List.map g):=by
 refine⟨λm hm=>?_,?_,nd⟩
 ·obtain⟨k,hk,rfl⟩:=Aj.mp hm;obtain⟨a,ha,p⟩:=d.b5 k hk;exact⟨g a,Aj.mpr ⟨a,ha,rfl⟩,wZ (λx hx=>ho x<|d.sub hk hx) p⟩
 ·rw [w6];exact(d.all.map g).trans hD
open PySem
theorem kP{α:Type} [DecidableEq α]:∀{a b:List α},a.Nodup->(∀ z∈a,z∈b)->b.length<=a.length->a.Perm b
 | [],b,_,_,hl=>by
  have:b=[]:=Bk.mp<|Nat.le_zero.mp hl;rw [this]
 | x :: a,b,nd,sub,hl=>by
  have M1:=Bu.mp nd;have hx:=sub x Ac;have pb:=List.perm_cons_erase hx;refine List.Perm.trans ((kP M1.2 (λz hz=>?_) ?_).cons x) pb.symm
  ·exact(Fc λe=>M1.1<|by rw [<- e];exact hz).mpr<|sub z<|Af _ hz
  ·have:=pb.length_eq;rw [Ax] at this hl;omega
theorem i6{n:Net}(T:aj n){a b:End}{z:Str}(ha:ax n a=some z)(hb:ax n b=some z)(ne:a≠b):other n a=b:=by
 obtain⟨h1,_,h3⟩:=cL T ha;obtain⟨p,q,e,_,_⟩:=o4 T ha;have m1:=aO.mpr ha;have m2:=aO.mpr hb;have m3:=aO.mpr h1;rw [e] at m1 m2 m3;simp only [Am,Ds,JZ] at m1 m2 m3
 rcases m1 with rfl | rfl <;> rcases m2 with rfl | rfl <;> rcases m3 with m3 | m3 <;> first | exact m3 | exact absurd rfl ne | exact absurd m3 h3
def sh(c e:End):End:=if e.1=c.1/\c.2<=e.2 then(e.1,e.2+1) else e
theorem lJ(c e:End):(sh c e).1=e.1:=by unfold sh;split <;> rfl
theorem mZ{c a b:End}(h:sh c a=sh c b):a=b:=by
 have h1:a.1=b.1:=by rw [<- lJ c a,h,lJ]
 have h2:=BZ Prod.snd h;unfold sh at h2;refine EY h1 ?_
 by_cases x:a.1=c.1/\c.2<=a.2
 ·rw [BL x] at h2
  by_cases y:b.1=c.1/\c.2<=b.2
  ·rw [BL y] at h2;exact Nat.succ.inj h2
  ·rw [BK y] at h2;have h2:a.2+1=b.2:=h2;exact absurd ⟨h1 ▸ x.1,by omega⟩ y
 ·rw [BK x] at h2
  by_cases y:b.1=c.1/\c.2<=b.2
  ·rw [BL y] at h2;have h2:a.2=b.2+1:=h2;exact absurd ⟨h1 ▸ y.1,by omega⟩ x
  ·rw [BK y] at h2;exact h2
theorem m4(c e:End):sh c e≠c:=by
 intro h;have h1:e.1=c.1:=by rw [<- lJ c e,h]
 have h2:=BZ Prod.snd h;unfold sh at h2
 by_cases x:e.1=c.1/\c.2<=e.2
 ·rw [BL x] at h2;have h2:e.2+1=c.2:=h2;omega
 ·rw [BK x] at h2;exact x ⟨h1,by omega⟩
section
variable{n:Net}{c:End}{z:Str}
theorem rh(hc:c.1 < n.length)(hp:c.2<=(row n c.1).length)(i:Nat):(row (ins n c z) i).length=if c.1=i then(row n i).length+1 else(row n i).length:=by
 rw [qY n c z i hc]
 by_cases h:c.1=i
 ·subst h;rw [BL rfl,BL rfl,Ah,Ax,Bo,Cn];omega
 ·rw [BK h,BK h]
theorem C9(hc:c.1 < n.length)(hp:c.2<=(row n c.1).length):ax (ins n c z) c=some z:=by
 unfold ax;rw [qY n c z c.1 hc,BL rfl,Bs (by rw [Bo];omega),Bo,show c.2 - min c.2 (row n c.1).length=0 by omega];rfl
theorem ri(hc:c.1 < n.length)(hp:c.2<=(row n c.1).length)(e:End):ax (ins n c z) (sh c e)=ax n e:=by
 unfold ax;rw [lJ,qY n c z e.1 hc];unfold sh
 by_cases h:c.1=e.1
 ·rw [BL h]
  by_cases k:c.2<=e.2
  ·rw [BL ⟨h.symm,k⟩,Bs (by rw [Bo];show _<=e.2+1;omega),Bo];show(z :: (row n e.1).drop c.2)[e.2+1 - min c.2 (row n e.1).length]?=_;rw [<- h,show e.2+1 - min c.2 (row n c.1).length=(e.2 - c.2)+1 by omega,Eb,List.getElem?_drop,show c.2+(e.2 - c.2)=e.2 by omega]
  ·rw [BK λq=>k q.2,Bp (by rw [Bo,<- h];omega),Dx<|by omega]
 ·rw [BK h,BK λq=>h q.1.symm]
theorem m5(hc:c.1 < n.length)(hp:c.2 < (row n c.1).length):left (ins n c z) c=sh c c:=by
 unfold left sh;rw [rh hc<|Cz hp,BL rfl,BL ⟨rfl,Ao _⟩,Bw<|by omega]
theorem iO(hc:c.1 < n.length)(hp:c.2 < (row n c.1).length){e:End}(he:e.2 < (row n e.1).length):left (ins n c z) (sh c e)=if left n e=c then c else sh c (left n e):=by
 by_cases h:c.1=e.1
 ·have e1:(left n e).1=e.1:=rfl;have e2:(left n e).2=(e.2+1) % (row n e.1).length:=rfl;have q:(left n e=c)↔(e.2+1) % (row n e.1).length=c.2:=⟨λx=>by rw [<- e2,x],λx=>EY h.symm x⟩;have L:(left (ins n c z) (sh c e))=(e.1,((sh c e).2+1) % ((row n e.1).length+1)):=by
   unfold left;rw [lJ,rh hc<|Cz hp,BL h]
  rw [L];rw [h] at hp;have S:(sh c e).2=if c.2<=e.2 then e.2+1 else e.2:=by
   unfold sh
   by_cases k:c.2<=e.2
   ·rw [BL ⟨h.symm,k⟩,BL k]
   ·rw [BK λq=>k q.2,BK k]
  have S2:sh c (left n e)=(e.1,if c.2<=(e.2+1) % (row n e.1).length then(e.2+1) % (row n e.1).length+1 else(e.2+1) % (row n e.1).length):=by
   unfold sh
   by_cases k:c.2<=(e.2+1) % (row n e.1).length
   ·rw [BL ⟨h.symm,k⟩,BL k];rfl
   ·rw [BK λq=>k q.2,BK k];rfl
  rw [S,S2];generalize (row n e.1).length=m at *
  by_cases k:e.2+1 < m
  ·rw [Bw k] at q ⊢
   by_cases j:e.2+1=c.2
   ·rw [BL<|q.mpr j,BK (by omega),Bw<|by omega];exact EY h.symm j
   ·rw [BK λx=>j<|q.mp x]
    by_cases i:c.2<=e.2
    ·rw [BL i,BL (by omega),Bw<|by omega]
    ·rw [BK i,BK (by omega),Bw<|by omega]
  ·have em:e.2+1=m:=by omega
   rw [em,Dm] at q ⊢;rw [BL (by omega),Dm]
   by_cases j:0=c.2
   ·rw [BL<|q.mpr j];exact EY h.symm j
   ·rw [BK λx=>j<|q.mp x,BK<|by omega]
 ·have ne:left n e≠c:=λx=>h (by rw [<- x];rfl);rw [BK ne];have s1:sh c e=e:=by unfold sh;rw [BK λq=>h q.1.symm]
  have s2:sh c (left n e)=left n e:=by unfold sh;rw [BK λq=>h q.1.symm]
  rw [s1,s2];unfold left;rw [rh hc<|Cz hp,BK h]
end
def Pl(n:Net):Prop:=(ag n=[]/\n.length=1)\/∃ Ls,Dec (step n) (ends n) Ls/\2 * (n.length+Ls.length)=(ag n).length+4
structure eh(n m:Net)(g:End->End)(e1 e2:End)(z:Str):Prop where
 cF:∀ e∈ends n,ax m (g e)=ax n e
 t1:ax m e1=some z
 t2:ax m e2=some z
 inj:∀ a b,g a=g b->a=b
 n1:∀ a∈ends n,g a≠e1
 n2:∀ a∈ends n,g a≠e2
 ne:e1≠e2
 len:(ag m).length=(ag n).length+2
section
variable{n m:Net}{g:End->End}{e1 e2:End}{z:Str}
theorem eh.nd(p:eh n m g e1 e2 z):((ends n).map g++[e1,e2]).Nodup:=by
 rw [Ce];refine⟨?_,?_,?_⟩
 ·exact(Fd.mpr<|(jt n).imp λ{a b} h e=>h<|p.inj a b e)
 ·simp [p.ne]
 ·rintro a ha b hb rfl;obtain⟨x,hx,rfl⟩:=Aj.mp ha;simp only [Am,Ds,JZ] at hb
  rcases hb with h | h
  ·exact p.n1 x hx h
  ·exact p.n2 x hx h
theorem eh.perm(p:eh n m g e1 e2 z):((ends n).map g++[e1,e2]).Perm (ends m):=by
 refine kP p.nd (λa ha=>?_)<|by rw [ik,p.len,Ah,Aa,ik];exact Ao _
 rcases Ap.mp ha with h | h
 ·obtain⟨x,hx,rfl⟩:=Aj.mp h;obtain⟨y,hy⟩:=af.mp hx;exact af.mpr ⟨y,by rw [p.cF x hx];exact hy⟩
 ·simp only [Am,Ds,JZ] at h
  rcases h with rfl | rfl
  ·exact af.mpr ⟨z,p.t1⟩
  ·exact af.mpr ⟨z,p.t2⟩
theorem eh.aD(p:eh n m g e1 e2 z)(T:aj n)(T':aj m){e:End}(he:e∈ends n):other m (g e)=g (other n e):=by
 obtain⟨y,hy⟩:=af.mp he;obtain⟨h1,_,h3⟩:=cL T hy;exact i6 T' (by rw [p.cF e he];exact hy) (by rw [p.cF _<|af.mpr ⟨y,h1⟩];exact h1) λh=>h3 (p.inj _ _ h).symm
theorem eh.o1(p:eh n m g e1 e2 z)(T':aj m):other m e1=e2:=i6 T' p.t1 p.t2 p.ne
theorem eh.o2(p:eh n m g e1 e2 z)(T':aj m):other m e2=e1:=i6 T' p.t2 p.t1 p.ne.symm
theorem Dec.perm{α:Type}{f:α->α}{D D':List α}{Ls:List (List α)}(d:Dec f D Ls)(h:D.Perm D'):Dec f D' Ls:=⟨d.b5,d.all.trans h,h.nodup_iff.mp d.nd⟩
theorem rj{α:Type}{f:α->α}{l:List α}(h:∀ x∈l,f x∈l){a:α}(ha:a∈l):∀ k,it f k a∈l:=λk=>ig h ha k
theorem Dec.one{α:Type}{f:α->α}{D:List α}{a b:α}{l:List α}{Ms:List (List α)}(d:Dec f D<|(a :: l) :: Ms)(hb:b∈D)(h:(∃ k,it f k a=b)\/∃ k,it f k b=a)(ne:b≠a):b∈l:=by
 have cl:∀ k∈(a :: l) :: Ms,∀ x∈k,f x∈k:=λk hk x hx=>by
  obtain⟨c,hc,p⟩:=d.b5 k hk;exact eg p hc hx
 have hm:b∈a :: l:=by
  rcases h with ⟨k,rfl⟩ | ⟨k,e⟩
  ·exact rj (cl _ Ac) Ac k
  ·obtain⟨j,hj,M3⟩:=Ck.mp<|d.all.mem_iff.mpr hb
   rcases Am.mp hj with rfl | DA
   ·exact M3
   ·have:=rj (cl j hj) M3 k;rw [e] at this;exact absurd this<|d.apart.2 j DA a Ac
 rcases Am.mp hm with h | h
 ·exact absurd h ne
 ·exact h
theorem XH(p:eh n m g e1 e2 z)(T:aj n)(T':aj m)(hl:m.length=n.length){k1 k2:End}(h1:k1∈ends n)(h2:k2∈ends n)(ne:k2≠k1)(same:(∃ k,it (step n) k k1=k2)\/∃ k,it (step n) k k2=k1)
  (l1:left m e1=g k1) (l2:left m e2=g k2) (lf:∀ e∈ends n,left m (g e)=if left n e=k1 then e1 else if left n e=k2 then e2 else g (left n e)) (P:Pl n):Pl m:=by
 have st:∀ x∈ends n,step m (g x)=if step n x=k1 then e1 else if step n x=k2 then e2 else g (step n x):=λx hx=>by
  unfold step;rw [p.aD T T' hx];exact lf _<|c9 T hx
 rcases P with ⟨e,_⟩ | ⟨Ls,d,eu⟩
 ·obtain⟨y,hy⟩:=af.mp h1;have:=eX hy;rw [e] at this;cases this
 ·obtain⟨l,Ms,hL,d⟩:=d.pick h1;have hk:=d.one h2 same ne;obtain⟨M4,XI,d',_⟩:=d.split (f':=step m) (g:=g) hk (e1:=e1) (e2:=e2) (by unfold step;rw [p.o1 T'];exact l2) (by unfold step;rw [p.o2 T'];exact l1)
   (λx hx e=>by rw [st x hx,BL e]) (λx hx e=>by rw [st x hx,BK (by rw [e];exact ne),BL e]) (λx hx a b=>by rw [st x hx,BK a,BK b]) p.nd
  refine .inr ⟨M4,d'.perm p.perm,?_⟩;have:=p.len;omega
theorem XJ(p:eh n m g e1 e2 z)(T:aj n)(T':aj m)(hl:m.length=n.length){c:End}(h1:c∈ends n)
  (l1:left m e1=g c) (l2:left m e2=e1) (lf:∀ e∈ends n,left m (g e)=if left n e=c then e2 else g (left n e)) (P:Pl n):Pl m:=by
 have st:∀ x∈ends n,step m (g x)=if step n x=c then e2 else g (step n x):=λx hx=>by
  unfold step;rw [p.aD T T' hx];exact lf _<|c9 T hx
 rcases P with ⟨e,_⟩ | ⟨Ls,d,eu⟩
 ·obtain⟨y,hy⟩:=af.mp h1;have:=eX hy;rw [e] at this;cases this
 ·obtain⟨l,Ms,hL,d⟩:=d.pick h1;have nd:=p.nd;have w8:((ends n).map g++[e2]++[e1]).Nodup:=by
   rw [At];exact((List.Perm.swap e1 e2 []).append_left _).nodup_iff.mpr nd
  have d1:=d.grow (f':=step m) (g:=g) (new:=[e2]) (h:=e2) ⟨rfl,by unfold step;rw [p.o2 T'];exact l1⟩ (λx hx e=>by rw [st x hx,BL e]) (λx hx e=>by rw [st x hx,BK e]) (Ce.mp w8).1;have d2:=d1.more (b:=e1) (by unfold step;rw [p.o1 T'];exact l2) w8;have pm:((ends n).map g++[e2]++[e1]).Perm (ends m):=by
   refine List.Perm.trans ?_ p.perm;rw [At];exact(List.Perm.swap e1 e2 []).append_left _
  refine .inr ⟨_,d2.perm pm,?_⟩;have:=p.len;simp only [Ah,Ax,Aa,Gb];omega
theorem XM(p:eh n m g e1 e2 z)(T:aj n)(T':aj m)(hl:m.length=n.length+1){c:End}(h1:c∈ends n)
  (l1:left m e1=g c) (l2:left m e2=e2) (lf:∀ e∈ends n,left m (g e)=if left n e=c then e1 else g (left n e)) (P:Pl n):Pl m:=by
 have st:∀ x∈ends n,step m (g x)=if step n x=c then e1 else g (step n x):=λx hx=>by
  unfold step;rw [p.aD T T' hx];exact lf _<|c9 T hx
 rcases P with ⟨e,_⟩ | ⟨Ls,d,eu⟩
 ·obtain⟨y,hy⟩:=af.mp h1;have:=eX hy;rw [e] at this;cases this
 ·obtain⟨l,Ms,hL,d⟩:=d.pick h1;have s1:step m e1=e2:=by unfold step;rw [p.o1 T'];exact l2
  have s2:step m e2=g c:=by unfold step;rw [p.o2 T'];exact l1
  have d1:=d.grow (f':=step m) (g:=g) (new:=[e1,e2]) (h:=e1) ⟨rfl,by rw [s1];exact⟨rfl,s2⟩⟩ (λx hx e=>by rw [st x hx,BL e]) (λx hx e=>by rw [st x hx,BK e]) p.nd;refine .inr ⟨_,d1.perm p.perm,?_⟩;have:=p.len;simp only [Ax,Aa];omega
end
theorem eZ{n:Net}{e:End}(h:e∈ends n):e.1 < n.length/\e.2 < (row n e.1).length:=by
 obtain⟨z,hz⟩:=af.mp h;exact⟨cE hz,eQ hz⟩
section
variable{n:Net}{z:Str}
theorem M5{k1 k2:End}(h1:k1.1 < n.length/\k1.2<=(row n k1.1).length)(h2:k2.1 < n.length/\k2.2<=(row n k2.1).length):eh n (ins (ins n k1 z) k2 z) (λe=>sh k2<|sh k1 e) (sh k2 k1) k2 z:=by
 have c2:k2.1 < (ins n k1 z).length:=by rw [gS];exact h2.1
 have p2:k2.2<=(row (ins n k1 z) k2.1).length:=by
  rw [rh h1.1 h1.2]
  split
  ·have:=h2.2;omega
  ·exact h2.2
 refine⟨λe _=>?_,?_,C9 c2 p2,λa b h=>mZ<|mZ h,λa _ h=>m4 k1 a<|mZ h,λa _=>m4 k2 _,m4 k2 k1,?_⟩
 ·show ax _ (sh k2<|sh k1 e)=_;rw [ri c2 p2,ri h1.1 h1.2]
 ·rw [ri c2 p2];exact C9 h1.1 h1.2
 ·rw [(kK _ k2 z c2).length_eq,Ax,(kK _ k1 z h1.1).length_eq,Ax]
theorem XN{k1 k2:End}(T:aj n)(T':aj<|ins (ins n k1 z) k2 z)(h1:k1∈ends n)(h2:k2∈ends n)(ord:k2=k1\/sh k1 k2=k2)(same:(∃ k,it (step n) k k1=k2)\/∃ k,it (step n) k k2=k1)(P:Pl n):Pl (ins (ins n k1 z) k2 z):=by
 have r1:=eZ h1;have r2:=eZ h2;have p:=M5 (z:=z) (k1:=k1) (k2:=k2) ⟨r1.1,Cz r1.2⟩ ⟨r2.1,Cz r2.2⟩;have c2:k2.1 < (ins n k1 z).length:=by rw [gS];exact r2.1
 have rl:∀ i,(row n i).length<=(row (ins n k1 z) i).length:=λi=>by
  rw [rh r1.1<|Cz r1.2]
  split <;> omega
 have p2:k2.2 < (row (ins n k1 z) k2.1).length:=Bj r2.2<|rl _;have p1:k1.2 < (row (ins n k1 z) k1.1).length:=Bj r1.2<|rl _;have hl:(ins (ins n k1 z) k2 z).length=n.length:=by rw [gS,gS]
 have sl:∀ e∈ends n,(sh k1 e).2 < (row (ins n k1 z) (sh k1 e).1).length:=λe he=>by
  obtain⟨y,hy⟩:=af.mp he;exact eQ (z:=y)<|by rw [ri r1.1<|Cz r1.2];exact hy
 have l0:left (ins n k1 z) k1=sh k1 k1:=m5 r1.1 r1.2
 by_cases e:k2=k1
 ·subst e;refine XJ p T T' hl h1 ?_ (m5 c2 p2) (λe he=>?_) P
  ·rw [iO c2 p2 p1,l0,BK<|m4 _ _]
  ·show left _ (sh k2<|sh k2 e)=_;rw [iO c2 p2<|sl e he,iO r1.1 r1.2 (eZ he).2]
   by_cases q:left n e=k2
   ·rw [BL q,BL rfl,BL q]
   ·rw [BK q,BK<|m4 _ _,BK q]
 ·have hs:sh k1 k2=k2:=ord.resolve_left e;refine XH p T T' hl h1 h2 e same ?_ ?_ (λe' he=>?_) P
  ·rw [iO c2 p2 p1,l0,BK λq=>e<|mZ (c:=k1)<|by rw [hs,q]]
  ·show left _ k2=sh k2 (sh k1 k2);rw [hs];exact m5 c2 p2
  ·show left _ (sh k2<|sh k1 e')=if left n e'=k1 then sh k2 k1 else if left n e'=k2 then k2 else sh k2 (sh k1<|left n e');rw [iO c2 p2<|sl e' he,iO r1.1 r1.2 (eZ he).2]
   by_cases q:left n e'=k1
   ·rw [BL q,BL q,BK λx=>e x.symm]
   ·rw [BK q,BK q]
    by_cases q2:left n e'=k2
    ·rw [BL q2,q2,hs,BL rfl]
    ·rw [BK q2,BK λx=>q2<|mZ (c:=k1)<|by rw [x,hs]]
theorem m6{a b:Net}{i:Nat}(h:i < a.length):row (a++b) i=row a i:=by
 unfold row;rw [Bp h]
theorem w9{a:Net}{x:Str×List Str}:row (a++[x]) a.length=x.2:=by
 unfold row;rw [Bs<|Ao _];simp
theorem M6{c:End}{pt:Str}(h1:c.1 < n.length/\c.2<=(row n c.1).length):eh n (ins n c z++[(pt,[z])]) (sh c) c (n.length,0) z:=by
 have la:∀ e:End,e.1 < n.length->ax (ins n c z++[(pt,[z])]) e=ax (ins n c z) e:=λe he=>by
  unfold ax;rw [m6<|by rw [gS];exact he]
 refine⟨λe he=>?_,?_,?_,λa b h=>mZ h,λa _=>m4 c a,λa ha h=>?_,λh=>?_,?_⟩
 ·rw [la _ (by rw [lJ];exact(eZ he).1),ri h1.1 h1.2]
 ·rw [la _ h1.1,C9 h1.1 h1.2]
 ·unfold ax;have:=w9 (a:=ins n c z) (x:=(pt,[z]));rw [gS] at this;show(row _ n.length)[0]?=_;rw [this];rfl
 ·have:=(eZ ha).1;rw [<- lJ c a,h] at this;exact absurd this<|Cu _
 ·have:=h1.1;rw [h] at this;exact absurd this<|Cu _
 ·unfold ag;rw [Dk,Ah];have:=(kK _ c z h1.1).length_eq;unfold ag at this;rw [this];rfl
theorem XQ{c:End}{pt:Str}(T:aj n)(T':aj<|ins n c z++[(pt,[z])])(h1:c∈ends n)(P:Pl n):Pl (ins n c z++[(pt,[z])]):=by
 have r1:=eZ h1;have p:=M6 (z:=z) (c:=c) (pt:=pt) ⟨r1.1,Cz r1.2⟩;have la:∀ e:End,e.1 < n.length->left (ins n c z++[(pt,[z])]) e=left (ins n c z) e:=λe he=>by
  unfold left;rw [m6<|by rw [gS];exact he]
 refine XM p T T' (by rw [Ah,gS];rfl) h1 ?_ ?_ (λe he=>?_) P
 ·rw [la _ r1.1];exact m5 r1.1 r1.2
 ·unfold left;have:=w9 (a:=ins n c z) (x:=(pt,[z]));rw [gS] at this;show(n.length,(0+1) % (row _ n.length).length)=_;rw [this];exact BZ (Prod.mk _)<|Dm 1
 ·rw [la _<|by rw [lJ];exact(eZ he).1];exact iO r1.1 r1.2 (eZ he).2
end
theorem M7{m:Net}{z:Str}{e1 e2:End}(T':aj m)(hE:ends m=[e1,e2])(t1:ax m e1=some z)(t2:ax m e2=some z)(ne:e1≠e2)
  (h:(m.length=2/\left m e1=e1/\left m e2=e2)\/(m.length=1/\left m e1=e2/\left m e2=e1)):Pl m:=by
 have o1:=i6 T' t1 t2 ne;have o2:=i6 T' t2 t1 ne.symm;have hl:(ag m).length=2:=by rw [<- ik,hE];rfl
 have nd:[e1,e2].Nodup:=by simp [ne]
 rcases h with ⟨hm,l1,l2⟩ | ⟨hm,l1,l2⟩
 ·refine .inr ⟨[[e1,e2]],?_,by rw [hm,hl];rfl⟩;rw [hE];refine⟨λl hl=>?_,List.Perm.refl _,nd⟩;rw [Ae] at hl;subst hl;refine⟨e1,Ac,rfl,?_⟩;unfold step;rw [o1,l2];exact⟨rfl,by show left m (other m e2)=e1;rw [o2,l1]⟩
 ·refine .inr ⟨[[e1],[e2]],?_,by rw [hm,hl];rfl⟩;rw [hE];refine⟨λl hl=>?_,List.Perm.refl _,nd⟩;simp only [Am,Ds,JZ] at hl
  rcases hl with rfl | rfl
  ·exact⟨e1,Ac,rfl,by show left m (other m e1)=e1;rw [o1,l2]⟩
  ·exact⟨e2,Ac,rfl,by show left m (other m e2)=e2;rw [o2,l1]⟩
theorem XR{nm pt z:Str}(T':aj [(nm,[z]),(pt,[z])]):Pl [(nm,[z]),(pt,[z])]:=
 M7 (e1:=(0,0)) (e2:=(1,0)) (z:=z) T' rfl rfl rfl (by decide) (.inl ⟨rfl,by simp [left,row],by simp [left,row]⟩)
theorem XS{nm z:Str}(T':aj [(nm,[z,z])]):Pl [(nm,[z,z])]:=
 M7 (e1:=(0,0)) (e2:=(0,1)) (z:=z) T' rfl rfl rfl (by decide) (.inr ⟨rfl,by simp [left,row],by simp [left,row]⟩)
theorem XT{n m:Net}{g:End->End}(T:aj n)(T':aj m)(hl:m.length=n.length)(ht:(ag m).length=(ag n).length)(cF:∀ e∈ends n,ax m (g e)=ax n e)(inj:∀ a∈ends n,∀ b∈ends n,g a=g b->a=b)
  (lf:∀ e∈ends n,left m (g e)=g (left n e)) (P:Pl n):Pl m:=by
 rcases P with ⟨e,h⟩ | ⟨Ls,d,eu⟩
 ·exact .inl ⟨Bk.mp (by rw [ht,e];rfl),by rw [hl,h]⟩
 ·have nd:((ends n).map g).Nodup:=by
   have:∀(l:List End),(∀ x∈l,x∈ends n)->l.Nodup->(l.map g).Nodup:=by
    intro l
    induction l with
    | nil=>intro _ _;exact Db
    | cons x l ih=>
     intro hs h;have h:=Bu.mp h;rw [Bd];refine Bu.mpr ⟨λhx=>?_,ih (λy hy=>hs y<|Af _ hy) h.2⟩;obtain⟨y,hy,e⟩:=Aj.mp hx;have:=inj y (hs y<|Af _ hy) x (hs x Ac) e;exact h.1<|this ▸ hy
   exact this _ (λx hx=>hx)<|jt n
  have pm:((ends n).map g).Perm (ends m):=by
   refine kP nd (λa ha=>?_) (by rw [Aa,ik,ik,ht];exact Ao _);obtain⟨x,hx,rfl⟩:=Aj.mp ha;obtain⟨y,hy⟩:=af.mp hx;exact af.mpr ⟨y,by rw [cF x hx];exact hy⟩
  refine .inr ⟨_,d.carry (f':=step m) (g:=g) (λx hx=>?_) pm<|jt m,by rw [Aa,hl,ht];exact eu⟩;obtain⟨y,hy⟩:=af.mp hx;obtain⟨h1,_,h3⟩:=cL T hy;have ho:other n x∈ends n:=af.mpr ⟨y,h1⟩;have:other m (g x)=g (other n x):=i6 T' (by rw [cF x hx];exact hy) (by rw [cF _ ho];exact h1) λh=>h3 (inj _ hx _ ho h).symm;unfold step;rw [this];exact lf _ ho
def m7(i len q:Nat):Nat:=if i<=q then q - i else q+len - i
def dW(N j i len:Nat)(e:End):End:=if e.1 < j then e else if e.1=j then(N - 1,m7 i len e.2) else(e.1 - 1,e.2)
theorem M8{a:Net}{j:Nat}{x:Str×List Str}(hj:j < a.length)(r:Nat)(hr:r < a.length):row (a.eraseIdx j++[x]) (if r < j then r else if r=j then a.length - 1 else r - 1)=if r=j then x.2 else row a r:=by
 have le:(a.eraseIdx j).length=a.length - 1:=by rw [Dr,BL hj]
 by_cases h1:r < j
 ·rw [BL h1,BK (by omega),m6<|by rw [le];omega];unfold row;rw [Fk,BL h1]
 ·rw [BK h1]
  by_cases h2:r=j
  ·rw [BL h2,BL h2,<- le,w9]
  ·rw [BK h2,BK h2,m6<|by rw [le];omega];unfold row;rw [Fk,BK (by omega),show r - 1+1=r by omega]
theorem XU{i len q:Nat}(hi:i < len)(hq:q < len):(m7 i len q+1) % len=m7 i len ((q+1) % len):=by
 unfold m7
 by_cases k:q+1 < len
 ·rw [Bw k]
  by_cases h:i<=q
  ·rw [BL h,BL (by omega),Bw<|by omega];omega
  ·rw [BK h]
   by_cases h2:q+1=i
   ·rw [BL (by omega),show q+len - i+1=len by omega,Dm];omega
   ·rw [BK (by omega),Bw<|by omega];omega
 ·have e:q+1=len:=by omega
  rw [e,Dm,BL<|by omega]
  by_cases h:i=0
  ·rw [BL (by omega),show q - i+1=len by omega,Dm];omega
  ·rw [BK (by omega),Bw<|by omega];omega
theorem XW{l:List Str}{i q:Nat}(hi:i < l.length)(hq:q < l.length):(l.drop i++l.take i)[m7 i l.length q]?=l[q]?:=by
 unfold m7
 by_cases h:i<=q
 ·rw [BL h,Bp (by rw [Cn];omega),List.getElem?_drop,show i+(q - i)=q by omega]
 ·rw [BK h,Bs (by rw [Cn];omega),Cn,Dx (by omega),show q+l.length - i - (l.length - i)=q by omega]
theorem M9{a:Net}{j i:Nat}{x:Str}(hj:j < a.length)(hi:i < max 1 (row a j).length):∃ g:End->End,(∀ e∈ends a,ax (a.eraseIdx j++[(x,(row a j).drop i++(row a j).take i)]) (g e)=ax a e)/\(∀ b∈ends a,∀ c∈ends a,g b=g c->b=c) /\
  ∀ e∈ends a,left (a.eraseIdx j++[(x,(row a j).drop i++(row a j).take i)]) (g e)=g (left a e):=by
 have fst:∀ e:End,(dW a.length j i (row a j).length e).1=if e.1 < j then e.1 else if e.1=j then a.length - 1 else e.1 - 1:=λe=>by
  unfold dW
  by_cases h:e.1 < j
  ·rw [BL h,BL h]
  ·rw [BK h,BK h]
   by_cases h2:e.1=j
   ·rw [BL h2,BL h2]
   ·rw [BK h2,BK h2]
 have snd:∀ e:End,(dW a.length j i (row a j).length e).2=if e.1=j then m7 i (row a j).length e.2 else e.2:=λe=>by
  unfold dW
  by_cases h:e.1 < j
  ·rw [BL h,BK<|by omega]
  ·rw [BK h]
   by_cases h2:e.1=j
   ·rw [BL h2,BL h2]
   ·rw [BK h2,BK h2]
 have Nb:∀ e:End,e.1 < a.length->row (a.eraseIdx j++[(x,(row a j).drop i++(row a j).take i)]) (dW a.length j i (row a j).length e).1=if e.1=j then(row a j).drop i++(row a j).take i else row a e.1:=λe he=>by
  rw [fst,M8 hj e.1 he]
 refine⟨dW a.length j i (row a j).length,λe he=>?_,λb hb c hc h=>?_,λe he=>?_⟩
 ·have r:=eZ he;unfold ax;rw [Nb e r.1,snd]
  by_cases h:e.1=j
  ·rw [BL h,BL h,<- h,XW (by have:=hi;rw [<- h] at this;omega) r.2]
  ·rw [BK h,BK h]
 ·have rb:=eZ hb;have rc:=eZ hc;have h1:=BZ Prod.fst h;have h2:=BZ Prod.snd h;rw [fst,fst] at h1;rw [snd,snd] at h2
  by_cases p:b.1=j
  ·by_cases q:c.1=j
   ·rw [BL p,BL q] at h2;refine EY (by rw [p,q]) ?_;have rb:=rb.2;have rc:=rc.2;rw [p] at rb;rw [q] at rc;unfold m7 at h2
    by_cases u:i<=b.2
    ·rw [BL u] at h2
     by_cases v:i<=c.2
     ·rw [BL v] at h2;omega
     ·rw [BK v] at h2;omega
    ·rw [BK u] at h2
     by_cases v:i<=c.2
     ·rw [BL v] at h2;omega
     ·rw [BK v] at h2;omega
   ·exfalso
    rw [BK (by omega),BL p] at h1;have:=rc.1
    by_cases u:c.1 < j
    ·rw [BL u] at h1;omega
    ·rw [BK u,BK q] at h1;omega
  ·by_cases q:c.1=j
   ·exfalso
    have:=rb.1;rw [BK (show ¬ c.1 < j by omega),BL q] at h1
    by_cases u:b.1 < j
    ·rw [BL u] at h1;omega
    ·rw [BK u,BK p] at h1;omega
   ·rw [BK p,BK q] at h2;refine EY ?_ h2;rw [BK p,BK q] at h1
    by_cases u:b.1 < j
    ·rw [BL u] at h1
     by_cases v:c.1 < j
     ·rw [BL v] at h1;exact h1
     ·rw [BK v] at h1;omega
    ·rw [BK u] at h1
     by_cases v:c.1 < j
     ·rw [BL v] at h1;omega
     ·rw [BK v] at h1;omega
 ·have r:=eZ he;have L1:(left a e).1=e.1:=rfl;have L2:(left a e).2=(e.2+1) % (row a e.1).length:=rfl;refine EY ?_ ?_
  ·show(dW a.length j i (row a j).length e).1=(dW a.length j i (row a j).length<|left a e).1;rw [fst,fst,L1]
  ·show((dW a.length j i (row a j).length e).2+1) % (row _ (dW a.length j i (row a j).length e).1).length=(dW a.length j i (row a j).length<|left a e).2;rw [Nb e r.1,snd,snd,L1,L2]
   by_cases h:e.1=j
   ·rw [BL h,BL h,BL h,Ah,Cn,Bo];have r2:=r.2;rw [h] at r2 ⊢;rw [show(row a j).length - i+min i (row a j).length=(row a j).length by omega];exact XU (by omega) r2
   ·rw [BK h,BK h,BK h]
theorem XX{a:Net}{j i:Nat}{x:Str}(hj:j < a.length)(hi:i < max 1 (row a j).length)(T:aj a) (T':aj<|a.eraseIdx j++[(x,(row a j).drop i++(row a j).take i)])
  (ht:(ag<|a.eraseIdx j++[(x,(row a j).drop i++(row a j).take i)]).length=(ag a).length) (P:Pl a):Pl (a.eraseIdx j++[(x,(row a j).drop i++(row a j).take i)]):=by
 obtain⟨g,h1,h2,h3⟩:=M9 (x:=x) hj hi;exact XT (g:=g) T T' (by rw [Ah,Dr,BL hj,Er];omega) ht h1 h2 h3 P
theorem Nc{α:Type}(f:α->α)(a:α):∀ k,it f k (f a)=it f (k+1) a
 | 0=>rfl
 | k+1=>by show f (it f k<|f a)=f (it f (k+1) a);rw [Nc f a k]
theorem kQ{α:Type}{f:α->α}:∀{l:List α} {a b x:α},cw f l a b->x∈l->∃ k,it f k a=x
 | y :: l,a,b,x,h,hx=>by
  rcases Am.mp hx with rfl | hx
  ·exact⟨0,h.1.symm⟩
  ·obtain⟨k,e⟩:=kQ h.2 hx;refine⟨k+1,?_⟩;rw [<- Nc,<- h.1];exact e
theorem Dec.unique{α:Type} [DecidableEq α] {f:α->α}:∀{Ls Ms:List (List α)} {D:List α},Dec f D Ls->Dec f D Ms->Ls.length=Ms.length
 | [],Ms,D,d,d'=>by
  have e:D=[]:=QK d.all.symm;subst e;cases Ms with
  | nil=>rfl
  | cons m Ms=>
   obtain⟨a,ha,_⟩:=d'.b5 m Ac;have:=d'.sub Ac ha;cases this
 | l :: Ls,Ms,D,d,d'=>by
  obtain⟨c,hc,p⟩:=d.b5 l Ac;obtain⟨l',t8,hL,lK⟩:=d'.pick<|d.sub Ac hc;obtain⟨c',mC,p'⟩:=lK.b5 _ Ac;have e:c=c':=p'.1;subst e;have s1:∀ x∈l,x∈c :: l':=λx hx=>by
   obtain⟨k,rfl⟩:=kQ p hx;exact rj (λy hy=>eg p' mC hy) mC k
  have s2:∀ x∈c :: l',x∈l:=λx hx=>by
   obtain⟨k,rfl⟩:=kQ p' hx;exact rj (λy hy=>eg p hc hy) hc k
  have pm:l.Perm (c :: l'):=kP d.apart.1 s1<|aI lK.apart.1 s2;have q:Ls.flatten.Perm t8.flatten:=by
   have h1:=d.all.trans lK.all.symm;rw [Bq,Bq] at h1;exact(PL l).mp<|h1.trans<|pm.symm.append_right _
  have nd:=d.all.nodup_iff.mpr d.nd;rw [Bq,Ce] at nd;have:=Dec.unique (Ls:=Ls) (Ms:=t8) (D:=Ls.flatten) ⟨λk hk=>d.b5 k<|Af _ hk,List.Perm.refl _,nd.2.1⟩ ⟨λk hk=>lK.b5 k<|Af _ hk,q.symm,nd.2.1⟩;rw [Ax,this,hL]
theorem Nf(n:Net)(e:End):∀ k,cw (step n) (fl n e k) e<|it (step n) k e
 | 0=>rfl
 | k+1=>by
  rw [Xw];exact aG.mpr ⟨_,Nf n e k,rfl,rfl⟩
theorem jv{n:Net}(T:aj n){e:End}(h:e∈ends n):e∈face n e/\cw (step n) (face n e) e e:=by
 have f:=kO T h;have h0:=f.at' 0 f.pos;refine⟨Ak h0,?_⟩;have:=Nf n e<|i5 n e;have e2:face n e=fl n e (i5 n e):=rfl;have hl:(face n e).length=i5 n e:=by rw [e2,pw]
 rw [<- hl,f.back,hl] at this;exact this
theorem XY{n:Net}(T:aj n){e:End}(h:e∈ends n):∀ i j,it (step n) i e=it (step n) (i+j) e->it (step n) j e=e:=by
 have hf:∀ a∈ends n,step n a∈ends n:=λa ha=>kI T ha;intro i
 induction i with
 | zero=>intro j e;rw [Gj] at e;exact e.symm
 | succ i ih=>
  intro j e;refine ih j ?_;rw [show i+1+j=(i+j)+1 by omega] at e;exact tO T (ig hf h i) (ig hf h<|i+j) e
theorem XZ{n:Net}(T:aj n){e:End}(h:e∈ends n):(face n e).Nodup:=by
 have f:=kO T h;unfold List.Nodup;rw [Bh];intro i j hi hj dD q;have a:=f.at' i hi;have b:=f.at' j hj;rw [Ab hi] at a;rw [Ab hj] at b;have a:=Option.some.inj a;have b:=Option.some.inj b;rw [q,b] at a;refine f.first (j - i) (by omega) (by omega) (XY T h i (j - i) ?_);rw [show i+(j - i)=j by omega];exact a.symm
def lx(a b:End):Prop:=a.1 < b.1\/(a.1=b.1/\a.2 < b.2)
theorem Ng(r:Nat):∀(ts:List Str) (p:Nat),((bb r ts p).map (·.2)).Pairwise lx
 | [],p=>List.Pairwise.nil
 | t :: ts,p=>by
  show(((r,p):End) :: (bb r ts<|p+1).map (·.2)).Pairwise lx;refine List.Pairwise.cons (λb hb=>?_)<|Ng r ts<|p+1;obtain⟨⟨z,e⟩,hx,rfl⟩:=Aj.mp hb;obtain⟨h1,h2,_⟩:=aY.mp hx;exact .inr ⟨h1.symm,by show p < e.2;omega⟩
theorem Nh:∀(n:Net) (k:Nat),((c8 k n).map (·.2)).Pairwise lx
 | [],k=>List.Pairwise.nil
 | a :: n,k=>by
  unfold c8;rw [Al,List.pairwise_append];refine⟨Ng k a.2 0,Nh n<|k+1,λx hx y hy=>?_⟩;obtain⟨⟨z,e⟩,h1,rfl⟩:=Aj.mp hx;obtain⟨⟨z',e'⟩,h2,rfl⟩:=Aj.mp hy;have q1:=(aY.mp h1).1;have q2:=(bw.mp h2).1;exact .inl<|by show e.1 < e'.1;omega
theorem X0(n:Net):(ends n).Pairwise lx:=Nh n 0
theorem Ni{a b:End}(h:lx a b):¬ lx b a:=by
 unfold lx at *;omega
def Told(n:Net)(told:List End):Prop:=∀ x∈told,step n x∈told
theorem Nj{n:Net}(T:aj n){told:List End}(hc:Told n told){e:End}(h:e∈ends n)(hn:e∉told):∀ c∈face n e,c∉told:=by
 intro c X1 X2;obtain⟨he,p⟩:=jv T h;obtain⟨A,B,q⟩:=Cy X1;rw [q] at p;obtain⟨m,p1,p2⟩:=aG.mp p;have e1:c=m:=p2.1;subst e1;have:∀(l:List End) (a b:End),cw (step n) l a b->a∈told->b∈told:=by
  intro l
  induction l with
  | nil=>intro a b h ha;rw [<- (show a=b from h)];exact ha
  | cons x l ih=>intro a b h ha;exact ih _ _ h.2<|hc _<|h.1 ▸ ha
 exact hn<|this _ _ _ p2 X2
theorem X3{n:Net}(T:aj n){told:List End}(hc:Told n told){e:End}(h:e∈ends n):Told n (told++face n e):=by
 intro x hx
 rcases Ap.mp hx with q | q
 ·exact As _<|hc x q
 ·obtain⟨he,p⟩:=jv T h;exact Ar _<|eg p he q
structure t9(n:Net)(es told:List End)(Fs:List<|List End):Prop where
 face:∀ w∈Fs,∃ e∈es,w=Nt.face n e/\e∈ends n/\∀ c∈w,¬ lx c e
 cov:∀ e∈es,e∈told\/∃ w∈Fs,e∈w
 nd:Fs.flatten.Nodup
 out:∀ w∈Fs,∀ c∈w,c∉told
 ord:Fs.Pairwise λv w=>∀ a b,v[0]?=some a->w[0]?=some b->lx a b
theorem DB{n:Net}(T:aj n):∀(es told pre:List End),ends n=pre++es->(∀ x∈pre,x∈told)->Told n told->t9 n es told (iN n es told)
 | [],told,pre,_,_,_=>by
  unfold iN;exact⟨λw hw=>(nomatch hw),λe he=>(nomatch he),Db,λw hw=>(nomatch hw),List.Pairwise.nil⟩
 | e :: r,told,pre,hE,hp,hc=>by
  have fU:ends n=(pre++[e])++r:=by rw [hE,At];rfl
  have he:e∈ends n:=by rw [hE];exact Ar _ Ac
  have DC:=X0 n;rw [hE,List.pairwise_append] at DC;have aT:=(De.mp DC.2.1).1;unfold iN
  split
  ·rename_i ht;have I:=DB T r told (pre++[e]) fU (λx hx=>by
    rcases Ap.mp hx with q | q
    ·exact hp x q
    ·rw [Ae] at q;rw [q];exact ht) hc
   exact⟨λw hw=>by obtain⟨a,h1,h2⟩:=I.face w hw;exact⟨a,Af _ h1,h2⟩,λx hx=>by
    rcases Am.mp hx with rfl | hx
    ·exact .inl ht
    ·exact I.cov x hx,I.nd,I.out,I.ord⟩
  ·rename_i ht;have fp:=jv T he;have ap:=Nj T hc he ht;have I:=DB T r (told++face n e) (pre++[e]) fU (λx hx=>by
    rcases Ap.mp hx with q | q
    ·exact As _<|hp x q
    ·rw [Ae] at q;rw [q];exact Ar _ fp.1)<|X3 T hc he
   refine⟨λw hw=>?_,λx hx=>?_,?_,λw hw c ua=>?_,?_⟩
   ·rcases Am.mp hw with rfl | hw
    ·refine⟨e,Ac,rfl,he,λc ua q=>?_⟩;have h1:=wX T he c ua;rw [hE] at h1
     rcases Ap.mp h1 with h1 | h1
     ·exact ap c ua<|hp c h1
     ·rcases Am.mp h1 with rfl | h1
      ·exact Ni q q
      ·exact Ni q<|aT c h1
    ·obtain⟨a,h1,h2⟩:=I.face w hw;exact⟨a,Af _ h1,h2⟩
   ·rcases Am.mp hx with rfl | hx
    ·exact .inr ⟨_,Ac,fp.1⟩
    ·rcases I.cov x hx with q | ⟨w,h1,h2⟩
     ·rcases Ap.mp q with q | q
      ·exact .inl q
      ·exact .inr ⟨_,Ac,q⟩
     ·exact .inr ⟨w,Af _ h1,h2⟩
   ·rw [Bq,Ce];refine⟨XZ T he,I.nd,λa ha b hb q=>?_⟩;obtain⟨w,hw,X4⟩:=Ck.mp hb;exact I.out w hw b X4<|Ar _<|q ▸ ha
   ·rcases Am.mp hw with rfl | hw
    ·exact ap c ua
    ·exact λq=>I.out w hw c ua<|As _ q
   ·refine List.Pairwise.cons (λw hw a b ha hb=>?_) I.ord;obtain⟨e',h1,rfl,h2,_⟩:=I.face w hw;have f1:=(kO T he).at' 0 (kO T he).pos;have f2:=(kO T h2).at' 0 (kO T h2).pos;rw [ha] at f1;rw [hb] at f2;rw [Option.some.inj f1,Option.some.inj f2];exact aT e' h1
theorem DE{n:Net}(T:aj n)(h0:ends n≠[]):t9 n (ends n) [] (bd n):=by
 unfold bd;rw [BK h0];exact DB T (ends n) [] [] rfl (λx hx=>by cases hx) (λx hx=>by cases hx)
theorem rk{n:Net}(T:aj n)(h0:ends n≠[]):Dec (step n) (ends n) (bd n):=by
 have g:=DE T h0;refine⟨λl hl=>?_,?_,jt n⟩
 ·obtain⟨e,_,rfl,he,_⟩:=g.face l hl;exact⟨e,jv T he⟩
 ·refine kP g.nd (λz hz=>?_)<|aI (jt n) λz hz=>?_
  ·obtain⟨w,hw,X5⟩:=Ck.mp hz;obtain⟨e,_,rfl,he,_⟩:=g.face w hw;exact wX T he z X5
  ·rcases g.cov z hz with q | ⟨w,hw,q⟩
   ·cases q
   ·exact Ck.mpr ⟨w,hw,q⟩
theorem DF{n:Net}(T:aj n)(F:Full n)(P:Pl n):2 * (n.length+(bd n).length)=(ag n).length+4:=by
 rcases P with ⟨e,h⟩ | ⟨Ls,d,eu⟩
 ·have:ends n=[]:=Bk.mp (by rw [ik,e];rfl);unfold bd;rw [BL this,h,e];rfl
 ·by_cases h0:ends n=[]
  ·have t0:(ag n).length=0:=by rw [<- ik,h0];rfl
   have:Ls=[]:=by
    cases Ls with
    | nil=>rfl
    | cons l Ls=>
     obtain⟨a,ha,_⟩:=d.b5 l Ac;have:=d.sub Ac ha;rw [h0] at this;cases this
   subst this
   exfalso
   rcases F with ⟨nm,rfl⟩ | ⟨a7,h⟩
   ·rw [t0] at eu;exact absurd (show 2=4 from eu)<|by decide
   ·have hp:=Cj.mpr a7;have hr:=h 0 hp;have:((0,0):End)∈ends n:=af.mpr (tN<|by show 0 < (row n 0).length;exact Cj.mpr hr);rw [h0] at this;cases this
  ·rw [<- Dec.unique d<|rk T h0];exact eu
theorem xa{n m:Net}{z:Str}(hp:(ag m).Perm<|z :: z :: ag n)(T:aj n)(hz:z∉ag n):aj m:=by
 intro y hy;rw [hp.count_eq,Dh,Dh]
 by_cases e:z=y
 ·subst e;rw [List.count_eq_zero.mpr hz];simp
 ·have hy:=hp.mem_iff.mp hy
  rcases Am.mp hy with h | hy
  ·exact absurd h.symm e
  ·rcases Am.mp hy with h | hy
   ·exact absurd h.symm e
   ·rw [T y hy];have:(z == y)=false:=by simpa using e
    rw [this];rfl
theorem rm{nm:Str}{c:End}(h:eR [(nm,[])] c):c=(0,0):=by
 obtain⟨h1,h2⟩:=h;have h1:c.1 < 1:=h1;have e:c.1=0:=by omega
 have h2:c.2 < max 1 (row [(nm,[])] c.1).length:=h2;rw [e] at h2;have h2:c.2 < 1:=h2;exact EY e<|by show c.2=0;omega
theorem xc{n:Net}(F:Full n):(∃ nm,n=[(nm,[])])\/row n 0≠[]:=by
 rcases F with h | ⟨h1,h2⟩
 ·exact .inl h
 ·exact .inr<|h2 0<|Cj.mpr h1
theorem X6{n:Net}{c:End}{z pt:Str}(T:aj n)(F:Full n)(hz:z∉ag n)(hc:eR n c) (hp:(ag<|ins n c z++[(pt,[z])]).Perm<|z :: z :: ag n) (P:Pl n):Pl (ins n c z++[(pt,[z])]):=by
 have T':=xa hp T hz
 rcases xc F with ⟨nm,rfl⟩ | h0
 ·have:=rm hc;subst this;exact XR T'
 ·exact XQ T T' (F.cN h0 hc) P
theorem X7{n:Net}{k1 k2:End}{z:Str}(T:aj n)(F:Full n)(hz:z∉ag n)(h1:eR n k1)(h2:eR n k2) (hp:(ag<|ins (ins n k1 z) k2 z).Perm<|z :: z :: ag n) (ord:k2=k1\/sh k1 k2=k2) (same:(∃ k,it (step n) k k1=k2)\/∃ k,it (step n) k k2=k1) (P:Pl n):Pl (ins (ins n k1 z) k2 z):=by
 have T':=xa hp T hz
 rcases xc F with ⟨nm,rfl⟩ | h0
 ·have:=rm h1;subst this;have:=rm h2;subst this;exact XS T'
 ·exact XN T T' (F.cN h0 h1) (F.cN h0 h2) ord same P
theorem X8{a b:End}(h:bn.lexLt ((a.1:Int),(a.2:Int)) ((b.1:Int),(b.2:Int))=true):sh b a=a:=by
 unfold bn.lexLt at h;unfold sh;refine BK λq=>?_;rw [BL<|by rw [q.1]] at h;have:=CG h;have q2:=q.2;omega
theorem X9{a b:End}(h:bn.lexLt ((a.1:Int),(a.2:Int)) ((b.1:Int),(b.2:Int))=false):b=a\/sh a b=b:=by
 unfold bn.lexLt at h
 by_cases e:(a.1:Int)=(b.1:Int)
 ·rw [BL e] at h;have h:=HX h
  by_cases e2:a.2=b.2
  ·exact .inl<|EY (by omega) e2.symm
  ·refine .inr<|BK λq=>?_;have q2:=q.2;have h:¬((a.2:Int) < (b.2:Int)):=h;omega
 ·exact .inr<|BK λq=>e<|by rw [q.1]
theorem Nk(a b:Net):ag (a++b)=ag a++ag b:=by
 unfold ag;rw [Dk]
theorem Ya{n n2 n0:Net}{j i:Nat}{x:Str}(hj:j < n.length)(hi:i < max 1 (row n j).length)(T0:aj n0)(pt:(ag n++ag n2).Perm<|ag n0)
  (fV:(ag (n.eraseIdx j)++ag (n2++[(x,(row n j).drop i++(row n j).take i)])).Perm<|ag n0) (P:Pl<|n++n2):Pl (n.eraseIdx j++(n2++[(x,(row n j).drop i++(row n j).take i)])):=by
 have tw:∀ m:Net,(ag m).Perm (ag n0)->aj m:=λm p y hy=>by rw [p.count_eq];exact T0 y<|p.mem_iff.mp hy
 rw [<- Nk] at pt fV;have er:row (n++n2) j=row n j:=m6 hj;have ee:n.eraseIdx j++(n2++[(x,(row n j).drop i++(row n j).take i)])=(n++n2).eraseIdx j++[(x,(row (n++n2) j).drop i++(row (n++n2) j).take i)]:=by
  rw [JT hj,At,er]
 rw [ee] at fV ⊢;exact XX (by rw [Ah];omega) (by rw [er];exact hi) (tw _ pt) (tw _ fV) (by rw [fV.length_eq,pt.length_eq]) P
end Nt
namespace Nt
theorem Nm{n:Net}{e c:End}{fs:List End}(f:cj n e fs)(h:c∈fs):∃ k,it (step n) k e=c:=by
 obtain⟨i,hi,e1⟩:=Ba.mp h;have:=f.at' i hi;rw [Ab hi,e1] at this;exact⟨i,(Option.some.inj this).symm⟩
open PySem
def aB:List Bool->Bool
 | []=>false
 | b :: l=>b ^^ aB l
theorem ro:∀(a b:List Bool),aB (a++b)=(aB a ^^ aB b)
 | [],b=>by simp [aB]
 | x :: a,b=>by
  show(x ^^ aB (a++b))=((x ^^ aB a) ^^ aB b);rw [ro a b,Bool.xor_assoc]
theorem Yb{a b:List Bool}(h:a.Perm b):aB a=aB b:=by
 induction h with
 | nil=>rfl
 | cons x _ ih=>show(x ^^ _)=(x ^^ _);rw [ih]
 | swap x y l=>show(y ^^ (x ^^ aB l))=(x ^^ (y ^^ aB l));cases x <;> cases y <;> simp
 | trans _ _ h1 h2=>exact h1.trans h2
theorem il{α:Type}(f g:α->Bool):∀ l:List α,aB (l.map λx=>f x ^^ g x)=(aB (l.map f) ^^ aB (l.map g))
 | []=>rfl
 | x :: l=>by
  show((f x ^^ g x) ^^ aB (l.map λx=>f x ^^ g x))=((f x ^^ aB (l.map f)) ^^ (g x ^^ aB (l.map g)));rw [il f g l];cases f x <;> cases g x <;> cases aB (l.map f) <;> cases aB (l.map g) <;> rfl
def cG(n:Net)(s:Str->Bool):Prop:=∀ r,aB ((row n r).map s)=false
structure aU(n:Net)(s:Str->Bool)(χ:End->Bool):Prop where
 go:∀ e∈ends n,χ (step n e)=χ e
 cF:∀ e z,ax n e=some z->s z=(χ e ^^ χ (other n e))
def RS(n:Net):Prop:=∀ s:Str->Bool,cG n s->∃ χ,aU n s χ
theorem Nn(n:Net)(r:Nat)(s:Str->Bool)(g:End->Bool)(h:∀ p z,(row n r)[p]?=some z->s z=g (r,p)):(row n r).map s=(List.range (row n r).length).map λp=>g (r,p):=by
 apply Dz;intro p;rw [Ag,Ag]
 by_cases hp:p < (row n r).length
 ·rw [Ab hp,Dj hp];exact BZ some<|h p _<|Ab hp
 ·rw [Br (by omega),Br<|by simp;omega];rfl
theorem Yc(f:Nat->Bool)(m:Nat):aB ((List.range m).map λp=>f<|(p+1) % m)=aB ((List.range m).map f):=by
 cases m with
 | zero=>rfl
 | succ k=>
  have e:(List.range<|k+1).map (λp=>f<|(p+1) % (k+1))=((List.range k).map λp=>f<|p+1)++[f 0]:=by
   rw [Dg,Al]
   congr 1
   ·refine Bf λp hp=>?_;have:=Bm.mp hp;show f ((p+1) % (k+1))=f (p+1);rw [Bw<|by omega]
   ·simp
  rw [e,RQ,Bd,Bb,ro];show _=(f 0 ^^ aB ((List.range k).map<|f ∘ Nat.succ));show(aB ((List.range k).map λp=>f<|p+1) ^^ (f 0 ^^ false))=(f 0 ^^ aB ((List.range k).map λp=>f<|p+1));cases f 0 <;> cases aB ((List.range k).map λp=>f<|p+1) <;> rfl
theorem aU.even{n:Net}(T:aj n){s:Str->Bool}{χ:End->Bool}(h:aU n s χ):cG n s:=by
 intro r;rw [Nn n r s (λe=>χ e ^^ χ (other n e)) λp z hz=>h.cF (r,p) z hz];rw [il (λp=>χ (r,p)) λp=>χ<|other n (r,p)];have e:((List.range (row n r).length).map λp=>χ<|other n (r,p))=(List.range (row n r).length).map λp=>χ (r,(p+1) % (row n r).length):=by
  refine Bf λp hp=>?_;have hp:=Bm.mp hp;obtain⟨z,hz⟩:=tN (n:=n) (e:=(r,p)) hp;obtain⟨h1,h2,_⟩:=cL T hz;have:=h.go (other n (r,p))<|af.mpr ⟨z,h1⟩;rw [<- this];show χ (left n (other n<|other n (r,p)))=_;rw [h2];rfl
 rw [e,Yc λp=>χ (r,p)];cases aB ((List.range (row n r).length).map λp=>χ (r,p)) <;> rfl
theorem aU.xor{n:Net}{s t:Str->Bool}{χ ψ:End->Bool}(h:aU n s χ)(g:aU n t ψ):aU n (λz=>s z ^^ t z) (λe=>χ e ^^ ψ e):=by
 refine⟨λe he=>?_,λe z hz=>?_⟩
 ·rw [h.go e he,g.go e he]
 ·show(s z ^^ t z)=((χ e ^^ ψ e) ^^ (χ (other n e) ^^ ψ (other n e)));rw [h.cF e z hz,g.cF e z hz];cases χ e <;> cases ψ e <;> cases χ (other n e) <;> cases ψ (other n e) <;> rfl
theorem cG.xor{n:Net}{s t:Str->Bool}(h:cG n s)(g:cG n t):cG n (λz=>s z ^^ t z):=λr=>by
 rw [il s t,h r,g r];rfl
section
variable{n m:Net}{g:End->End}{e1 e2:End}{z:Str}
theorem eh.mark(p:eh n m g e1 e2 z)(χ:End->Bool)(a:Bool):∃ χ':End->Bool,(∀ e∈ends n,χ' (g e)=χ e)/\χ' e1=a/\χ' e2=a:=by
 refine⟨λx=>if x=e1 then a else if x=e2 then a else match (ends n).find? (λe=>decide (g e=x)) with | some e=>χ e | none=>false,λe he=>?_,?_,?_⟩
 ·show(if g e=e1 then a else if g e=e2 then a else match (ends n).find? (λe'=>decide (g e'=g e)) with | some e=>χ e | none=>false)=χ e;rw [BK<|p.n1 e he,BK<|p.n2 e he];cases hf:(ends n).find? (λe'=>decide (g e'=g e)) with
  | none=>exact absurd (BR (rfl:g e=g e))<|by simpa using Ge.mp hf e he
  | some e'=>
   have h5:=Gz hf;have h5:g e'=g e:=CG h5;rw [p.inj _ _ h5]
 ·simp
 ·simp
theorem eh.jU(p:eh n m g e1 e2 z)(T:aj n)(T':aj m){s:Str->Bool}{χ:End->Bool}(h:aU n s χ)(hz:s z=false){a:Bool}
  (st:∀ x∈ends n,step m (g x)=g (step n x)\/((step m (g x)=e1\/step m (g x)=e2)/\χ (step n x)=a))
  (s1:step m e1=e1\/step m e1=e2\/∃ k∈ends n,step m e1=g k/\χ k=a) (s2:step m e2=e1\/step m e2=e2\/∃ k∈ends n,step m e2=g k/\χ k=a):∃ χ',aU m s χ':=by
 obtain⟨χ',h1,h2,h3⟩:=p.mark χ a;have jV:∀ x∈ends m,(∃ e∈ends n,x=g e)\/x=e1\/x=e2:=λx hx=>by
  have:=p.perm.mem_iff.mpr hx
  rcases Ap.mp this with q | q
  ·obtain⟨e,he,rfl⟩:=Aj.mp q;exact .inl ⟨e,he,rfl⟩
  ·simp only [Am,Ds,JZ] at q;exact .inr q
 refine⟨χ',λx hx=>?_,λx y hy=>?_⟩
 ·rcases jV x hx with ⟨e,he,rfl⟩ | rfl | rfl
  ·rw [h1 e he]
   rcases st e he with q | ⟨q,qa⟩
   ·rw [q,h1 _<|kI T he,h.go e he]
   ·rw [h.go e he] at qa
    rcases q with q | q
    ·rw [q,h2,qa]
    ·rw [q,h3,qa]
  ·rcases s1 with q | q | ⟨k,hk,q,qa⟩
   ·rw [q]
   ·rw [q,h2,h3]
   ·rw [q,h1 k hk,h2,qa]
  ·rcases s2 with q | q | ⟨k,hk,q,qa⟩
   ·rw [q,h2,h3]
   ·rw [q]
   ·rw [q,h1 k hk,h3,qa]
 ·rcases jV x (af.mpr ⟨y,hy⟩) with ⟨e,he,rfl⟩ | rfl | rfl
  ·rw [p.cF e he] at hy;obtain⟨o1,_,_⟩:=cL T hy;rw [p.aD T T' he,h1 e he,h1 _<|af.mpr ⟨y,o1⟩];exact h.cF e y hy
  ·rw [p.t1] at hy;cases hy;rw [p.o1 T',h2,h3,hz];cases a <;> rfl
  ·rw [p.t2] at hy;cases hy;rw [p.o2 T',h2,h3,hz];cases a <;> rfl
theorem Np(T':aj m){ψ:End->Bool}(hψ:∀ e∈ends m,ψ (step m e)=ψ e)(t1:ax m e1=some z)(ho:other m e1=e2)(ne:ψ e1≠ψ e2)(h0:∀ s,cG m s->s z=false->∃ χ,aU m s χ):RS m:=by
 intro s hs
 by_cases hz:s z=false
 ·exact h0 s hs hz
 ·have hz:s z=true:=by cases h:s z with | true=>rfl | false=>exact absurd h hz
  let t:Str->Bool:=λy=>match (ends m).find? (λe=>decide (ax m e=some y)) with | some e=>ψ e ^^ ψ (other m e) | none=>false
  have ht:aU m t ψ:=by
   refine⟨hψ,λe y hy=>?_⟩;show(match (ends m).find? (λe=>decide (ax m e=some y)) with | some e=>ψ e ^^ ψ (other m e) | none=>false)=_;cases hf:(ends m).find? (λe=>decide (ax m e=some y)) with
   | none=>exact absurd (BR hy)<|by simpa using Ge.mp hf e (af.mpr ⟨y,hy⟩)
   | some e'=>
    have h5:=Gz hf;have h':ax m e'=some y:=CG h5
    by_cases q:e'=e
    ·rw [q]
    ·have o1:=i6 T' h' hy q;have o2:=i6 T' hy h'<|Ne.symm q;show(ψ e' ^^ ψ (other m e'))=_;rw [o1,o2];cases ψ e <;> cases ψ e' <;> rfl
  have tz:t z=true:=by
   rw [ht.cF e1 z t1,ho];cases h1:ψ e1 <;> cases h2:ψ e2 <;> simp_all
  obtain⟨χ,hχ⟩:=h0 (λy=>s y ^^ t y) (hs.xor<|ht.even T') (by show(s z ^^ t z)=false;rw [hz,tz];rfl);have:=hχ.xor ht;refine⟨λe=>χ e ^^ ψ e,this.go,λe y hy=>?_⟩;rw [<- this.cF e y hy];show s y=((s y ^^ t y) ^^ t y);cases s y <;> cases t y <;> rfl
theorem DH{n:Net}{c:End}{z:Str}(hc:c.1 < n.length){s:Str->Bool}(hz:s z=false)(r:Nat):aB ((row (ins n c z) r).map s)=aB ((row n r).map s):=by
 rw [qY n c z r hc]
 by_cases h:c.1=r
 ·rw [BL h,Al,Bd,ro];show(aB (((row n r).take c.2).map s) ^^ (s z ^^ aB (((row n r).drop c.2).map s)))=_;rw [hz,Hf,<- ro,<- Al,Ct]
 ·rw [BK h]
theorem Dec.mark{α:Type} [DecidableEq α] {f:α->α} {D:List α} {Ls:List (List α)} (d:Dec f D Ls) {l:List α} (hl:l∈Ls):∀ x∈D,(f x∈l↔x∈l):=by
 intro x hx;obtain⟨A,B,rfl⟩:=Cy hl;have d':Dec f D (l :: (A++B)):=⟨λk hk=>d.b5 k (by
  rcases Am.mp hk with rfl | hk
  ·exact hl
  ·rcases Ap.mp hk with q | q
   ·exact As _ q
   ·exact Ar _<|Af _ q),by
  refine List.Perm.trans ?_ d.all;rw [Bq,Fg,Fg,Bq,<- At,<- At];exact(Cm).append_right _,d.nd⟩
 have cl:∀ k∈l :: (A++B),∀ x∈k,f x∈k:=λk hk x hx=>by
  obtain⟨c,hc,p⟩:=d'.b5 k hk;exact eg p hc hx
 by_cases h:x∈l
 ·exact⟨λ_=>h,λ_=>cl l Ac x h⟩
 ·refine⟨λq=>?_,λq=>absurd q h⟩
  exfalso
  obtain⟨k,hk,Nq⟩:=Ck.mp<|d'.all.mem_iff.mpr hx
  rcases Am.mp hk with rfl | AA
  ·exact h Nq
  ·exact d'.apart.2 k AA _ q<|cl k hk x Nq
theorem xf{s:Str->Bool}{χ:End->Bool}(T:aj n)(h:aU n s χ){a:End}(ha:a∈ends n):∀ k,χ (it (step n) k a)=χ a
 | 0=>rfl
 | k+1=>by
  show χ (step n<|it (step n) k a)=_;rw [h.go _<|ig (λx hx=>kI T hx) ha k,xf T h ha k]
theorem Yd(p:eh n m g e1 e2 z)(T:aj n)(T':aj m){k1 k2:End}(h1:k1∈ends n)(h2:k2∈ends n)(ne:k2≠k1)(same:(∃ k,it (step n) k k1=k2)\/∃ k,it (step n) k k2=k1)
  (l1:left m e1=g k1) (l2:left m e2=g k2) (lf:∀ e∈ends n,left m (g e)=if left n e=k1 then e1 else if left n e=k2 then e2 else g (left n e))
  {Ls:List (List End)} (d:Dec (step n) (ends n) Ls) (ev:∀ s,cG m s->s z=false->cG n s) (R:RS n):RS m:=by
 have st:∀ x∈ends n,step m (g x)=if step n x=k1 then e1 else if step n x=k2 then e2 else g (step n x):=λx hx=>by
  unfold step;rw [p.aD T T' hx];exact lf _<|c9 T hx
 have s1:step m e1=g k2:=by unfold step;rw [p.o1 T'];exact l2
 have s2:step m e2=g k1:=by unfold step;rw [p.o2 T'];exact l1
 obtain⟨l,Ms,hL,d⟩:=d.pick h1;have hk:=d.one h2 same ne;obtain⟨M4,XI,d',w,hw,w2,w1⟩:=d.split (f':=step m) (g:=g) hk (e1:=e1) (e2:=e2) s1 s2
  (λx hx e=>by rw [st x hx,BL e]) (λx hx e=>by rw [st x hx,BK (by rw [e];exact ne),BL e]) (λx hx a b=>by rw [st x hx,BK a,BK b]) p.nd
 have dm:=d'.perm p.perm;refine Np T' (ψ:=λx=>decide (x∈w)) (λx hx=>decide_eq_decide.mpr<|dm.mark hw x hx) p.t1 (p.o1 T') (by show decide (e1∈w)≠decide (e2∈w);rw [BW w1,BR w2];decide) λs hs hz=>?_;obtain⟨χ,hχ⟩:=R s<|ev s hs hz;have ek:χ k2=χ k1:=by
  rcases same with ⟨k,e⟩ | ⟨k,e⟩
  ·rw [<- e];exact xf T hχ h1 k
  ·rw [<- e];exact(xf T hχ h2 k).symm
 refine p.jU T T' hχ hz (a:=χ k1) (λx hx=>?_) (.inr<|.inr ⟨k2,h2,s1,ek⟩)<|.inr<|.inr ⟨k1,h1,s2,rfl⟩;rw [st x hx]
 by_cases c1:step n x=k1
 ·rw [BL c1];exact .inr ⟨.inl rfl,by rw [c1]⟩
 ·rw [BK c1]
  by_cases c2:step n x=k2
  ·rw [BL c2];exact .inr ⟨.inr rfl,by rw [c2,ek]⟩
  ·rw [BK c2];exact .inl rfl
theorem Ye(p:eh n m g e1 e2 z)(T:aj n)(T':aj m){c:End}(h1:c∈ends n)(l1:left m e1=g c)(l2:left m e2=e1)(lf:∀ e∈ends n,left m (g e)=if left n e=c then e2 else g (left n e))
  (ev:∀ s,cG m s->s z=false->cG n s) (R:RS n):RS m:=by
 have st:∀ x∈ends n,step m (g x)=if step n x=c then e2 else g (step n x):=λx hx=>by
  unfold step;rw [p.aD T T' hx];exact lf _<|c9 T hx
 have s1:step m e1=e1:=by unfold step;rw [p.o1 T'];exact l2
 have s2:step m e2=g c:=by unfold step;rw [p.o2 T'];exact l1
 have xg:e1∈ends m:=af.mpr ⟨z,p.t1⟩;refine Np T' (ψ:=λx=>decide (x=e1)) (λx hx=>?_) p.t1 (p.o1 T') (by show decide (e1=e1)≠decide (e2=e1);rw [BR rfl,BW p.ne.symm];decide) λs hs hz=>?_
 ·by_cases q:x=e1
  ·rw [q,s1]
  ·show decide (step m x=e1)=decide (x=e1);rw [BW q];exact BW λe=>q<|tO T' hx xg<|by rw [e,s1]
 obtain⟨χ,hχ⟩:=R s<|ev s hs hz;refine p.jU T T' hχ hz (a:=χ c) (λx hx=>?_) (.inl s1)<|.inr<|.inr ⟨c,h1,s2,rfl⟩;rw [st x hx]
 by_cases c1:step n x=c
 ·rw [BL c1];exact .inr ⟨.inr rfl,by rw [c1]⟩
 ·rw [BK c1];exact .inl rfl
theorem Yf(p:eh n m g e1 e2 z)(T:aj n)(T':aj m){c:End}(h1:c∈ends n)(l1:left m e1=g c)(l2:left m e2=e2)(lf:∀ e∈ends n,left m (g e)=if left n e=c then e1 else g (left n e))
  (hz:∀ s,cG m s->s z=false) (ev:∀ s,cG m s->s z=false->cG n s) (R:RS n):RS m:=by
 have st:∀ x∈ends n,step m (g x)=if step n x=c then e1 else g (step n x):=λx hx=>by
  unfold step;rw [p.aD T T' hx];exact lf _<|c9 T hx
 have s1:step m e1=e2:=by unfold step;rw [p.o1 T'];exact l2
 have s2:step m e2=g c:=by unfold step;rw [p.o2 T'];exact l1
 intro s hs;have hz:=hz s hs;obtain⟨χ,hχ⟩:=R s<|ev s hs hz;refine p.jU T T' hχ hz (a:=χ c) (λx hx=>?_) (.inr<|.inl s1)<|.inr<|.inr ⟨c,h1,s2,rfl⟩;rw [st x hx]
 by_cases c1:step n x=c
 ·rw [BL c1];exact .inr ⟨.inl rfl,by rw [c1]⟩
 ·rw [BK c1];exact .inl rfl
end
section
variable{n:Net}{z:Str}
theorem Yg{k1 k2:End}(T:aj n)(T':aj<|ins (ins n k1 z) k2 z)(h1:k1∈ends n)(h2:k2∈ends n)(ord:k2=k1\/sh k1 k2=k2)(same:(∃ k,it (step n) k k1=k2)\/∃ k,it (step n) k k2=k1)(P:Pl n)(R:RS n):RS (ins (ins n k1 z) k2 z):=by
 have r1:=eZ h1;have r2:=eZ h2;have p:=M5 (z:=z) (k1:=k1) (k2:=k2) ⟨r1.1,Cz r1.2⟩ ⟨r2.1,Cz r2.2⟩;have c2:k2.1 < (ins n k1 z).length:=by rw [gS];exact r2.1
 have rl:∀ i,(row n i).length<=(row (ins n k1 z) i).length:=λi=>by
  rw [rh r1.1<|Cz r1.2]
  split <;> omega
 have p2:k2.2 < (row (ins n k1 z) k2.1).length:=Bj r2.2<|rl _;have p1:k1.2 < (row (ins n k1 z) k1.1).length:=Bj r1.2<|rl _;have sl:∀ e∈ends n,(sh k1 e).2 < (row (ins n k1 z) (sh k1 e).1).length:=λe he=>by
  obtain⟨y,hy⟩:=af.mp he;exact eQ (z:=y)<|by rw [ri r1.1<|Cz r1.2];exact hy
 have l0:left (ins n k1 z) k1=sh k1 k1:=m5 r1.1 r1.2;have ev:∀ s,cG (ins (ins n k1 z) k2 z) s->s z=false->cG n s:=λs hs hz r=>by
  rw [<- DH r1.1 hz r,<- DH c2 hz r];exact hs r
 by_cases e:k2=k1
 ·subst e;refine Ye p T T' h1 ?_ (m5 c2 p2) (λe he=>?_) ev R
  ·rw [iO c2 p2 p1,l0,BK<|m4 _ _]
  ·show left _ (sh k2<|sh k2 e)=_;rw [iO c2 p2<|sl e he,iO r1.1 r1.2 (eZ he).2]
   by_cases q:left n e=k2
   ·rw [BL q,BL rfl,BL q]
   ·rw [BK q,BK<|m4 _ _,BK q]
 ·have hs:sh k1 k2=k2:=ord.resolve_left e
  rcases P with ⟨t0,_⟩ | ⟨Ls,d,_⟩
  ·obtain⟨y,hy⟩:=af.mp h1;have:=eX hy;rw [t0] at this;cases this
  refine Yd p T T' h1 h2 e same ?_ ?_ (λe' he=>?_) d ev R
  ·rw [iO c2 p2 p1,l0,BK λq=>e<|mZ (c:=k1)<|by rw [hs,q]]
  ·show left _ k2=sh k2 (sh k1 k2);rw [hs];exact m5 c2 p2
  ·show left _ (sh k2<|sh k1 e')=if left n e'=k1 then sh k2 k1 else if left n e'=k2 then k2 else sh k2 (sh k1<|left n e');rw [iO c2 p2<|sl e' he,iO r1.1 r1.2 (eZ he).2]
   by_cases q:left n e'=k1
   ·rw [BL q,BL q,BK λx=>e x.symm]
   ·rw [BK q,BK q]
    by_cases q2:left n e'=k2
    ·rw [BL q2,q2,hs,BL rfl]
    ·rw [BK q2,BK λx=>q2<|mZ (c:=k1)<|by rw [x,hs]]
theorem Yh{c:End}{pt:Str}(T:aj n)(T':aj<|ins n c z++[(pt,[z])])(h1:c∈ends n)(R:RS n):RS (ins n c z++[(pt,[z])]):=by
 have r1:=eZ h1;have p:=M6 (z:=z) (c:=c) (pt:=pt) ⟨r1.1,Cz r1.2⟩;have la:∀ e:End,e.1 < n.length->left (ins n c z++[(pt,[z])]) e=left (ins n c z) e:=λe he=>by
  unfold left;rw [m6<|by rw [gS];exact he]
 have jW:=w9 (a:=ins n c z) (x:=(pt,[z]));rw [gS] at jW;refine Yf p T T' h1 ?_ ?_ (λe he=>?_) (λs hs=>?_) (λs hs hz r=>?_) R
 ·rw [la _ r1.1];exact m5 r1.1 r1.2
 ·unfold left;show(n.length,(0+1) % (row _ n.length).length)=_;rw [jW];exact BZ (Prod.mk _)<|Dm 1
 ·rw [la _<|by rw [lJ];exact(eZ he).1];exact iO r1.1 r1.2 (eZ he).2
 ·have:=hs n.length;rw [jW] at this;have:(s z ^^ false)=false:=this
  simpa using this
 ·by_cases h:r < n.length
  ·have:=hs r;rw [m6 (by rw [gS];exact h),DH r1.1 hz r] at this;exact this
  ·have:row n r=[]:=by
    unfold row;rw [Br<|by omega];rfl
   rw [this];rfl
end
theorem Yi{nm:Str}:RS [(nm,[])]:=λs _=>⟨λ_=>false,λe he=>rfl,λe y hy=>by
 have:=eX hy;cases this⟩
theorem Yj{nm pt z:Str}(T':aj [(nm,[z]),(pt,[z])]):RS [(nm,[z]),(pt,[z])]:=λs hs=>⟨λ_=>false,λe he=>rfl,λe y hy=>by
 have h:=eX hy;have:y=z:=by simpa [ag] using h
 rw [this];have:=hs 0;have:(s z ^^ false)=false:=this
 simpa using this⟩
theorem Yk{nm z:Str}(T':aj [(nm,[z,z])]):RS [(nm,[z,z])]:=λs _=>by
 have t1:ax [(nm,[z,z])] (0,0)=some z:=rfl;have t2:ax [(nm,[z,z])] (0,1)=some z:=rfl;have o1:=i6 T' t1 t2 (by decide);have o2:=i6 T' t2 t1 (by decide);have hE:ends [(nm,[z,z])]=[(0,0),(0,1)]:=rfl;refine⟨λe=>decide (e=(0,0)) && s z,λe he=>?_,λe y hy=>?_⟩
 ·rw [hE] at he;simp only [Am,Ds,JZ] at he
  rcases he with rfl | rfl
  ·show(decide (left [(nm,[z,z])] (other [(nm,[z,z])] (0,0))=(0,0)) && s z)=_;rw [o1];simp [left,row]
  ·show(decide (left [(nm,[z,z])] (other [(nm,[z,z])] (0,1))=(0,0)) && s z)=_;rw [o2];simp [left,row]
 ·have h:=eX hy;have e1:y=z:=by simpa [ag] using h
  have he:=af.mpr ⟨y,hy⟩;rw [hE] at he;simp only [Am,Ds,JZ] at he;rw [e1]
  rcases he with rfl | rfl
  ·rw [o1];simp
  ·rw [o2];simp
def Fl(n:Net):Prop:=Pl n/\RS n
theorem Yl{nm:Str}:Fl [(nm,[])]:=⟨.inl ⟨rfl,rfl⟩,Yi⟩
theorem Ym{n:Net}{c:End}{z pt:Str}(T:aj n)(F:Full n)(hz:z∉ag n)(hc:eR n c) (hp:(ag<|ins n c z++[(pt,[z])]).Perm<|z :: z :: ag n) (P:Fl n):Fl (ins n c z++[(pt,[z])]):=by
 refine⟨X6 T F hz hc hp P.1,?_⟩;have T':=xa hp T hz
 rcases xc F with ⟨nm,rfl⟩ | h0
 ·have:=rm hc;subst this;exact Yj T'
 ·exact Yh T T' (F.cN h0 hc) P.2
theorem Yn{n:Net}{k1 k2:End}{z:Str}(T:aj n)(F:Full n)(hz:z∉ag n)(h1:eR n k1)(h2:eR n k2) (hp:(ag<|ins (ins n k1 z) k2 z).Perm<|z :: z :: ag n) (ord:k2=k1\/sh k1 k2=k2) (same:(∃ k,it (step n) k k1=k2)\/∃ k,it (step n) k k2=k1) (P:Fl n):Fl (ins (ins n k1 z) k2 z):=by
 refine⟨X7 T F hz h1 h2 hp ord same P.1,?_⟩;have T':=xa hp T hz
 rcases xc F with ⟨nm,rfl⟩ | h0
 ·have:=rm h1;subst this;have:=rm h2;subst this;exact Yk T'
 ·exact Yg T T' (F.cN h0 h1) (F.cN h0 h2) ord same P.1 P.2
theorem Yo{n m:Net}{g:End->End}(T:aj n)(T':aj m)(ht:(ag m).length=(ag n).length)(cF:∀ e∈ends n,ax m (g e)=ax n e)(inj:∀ a∈ends n,∀ b∈ends n,g a=g b->a=b)
  (lf:∀ e∈ends n,left m (g e)=g (left n e)) (ev:∀ s,cG m s->cG n s) (R:RS n):RS m:=by
 have lN:∀ x∈ends m,∃ e∈ends n,x=g e:=by
  have nd:((ends n).map g).Nodup:=by
   have:∀(l:List End),(∀ x∈l,x∈ends n)->l.Nodup->(l.map g).Nodup:=by
    intro l
    induction l with
    | nil=>intro _ _;exact Db
    | cons x l ih=>
     intro hs h;have h:=Bu.mp h;rw [Bd];refine Bu.mpr ⟨λhx=>?_,ih (λy hy=>hs y<|Af _ hy) h.2⟩;obtain⟨y,hy,e⟩:=Aj.mp hx;have:=inj y (hs y<|Af _ hy) x (hs x Ac) e;exact h.1<|this ▸ hy
   exact this _ (λx hx=>hx)<|jt n
  have pm:((ends n).map g).Perm (ends m):=by
   refine kP nd (λa ha=>?_) (by rw [Aa,ik,ik,ht];exact Ao _);obtain⟨x,hx,rfl⟩:=Aj.mp ha;obtain⟨y,hy⟩:=af.mp hx;exact af.mpr ⟨y,by rw [cF x hx];exact hy⟩
  intro x hx;obtain⟨e,he,q⟩:=Aj.mp<|pm.mem_iff.mpr hx;exact⟨e,he,q.symm⟩
 intro s hs;obtain⟨χ,hχ⟩:=R s<|ev s hs
 let χ':End->Bool:=λx=>match (ends n).find? (λe=>decide (g e=x)) with | some e=>χ e | none=>false
 have h1:∀ e∈ends n,χ' (g e)=χ e:=λe he=>by
  show(match (ends n).find? (λe'=>decide (g e'=g e)) with | some e=>χ e | none=>false)=χ e;cases hf:(ends n).find? (λe'=>decide (g e'=g e)) with
  | none=>exact absurd (BR (rfl:g e=g e))<|by simpa using Ge.mp hf e he
  | some e'=>
   have h5:=Gz hf;have h5:g e'=g e:=CG h5;rw [inj _ (List.mem_of_find?_eq_some hf) _ he h5]
 have aD:∀ e∈ends n,other m (g e)=g (other n e):=λe he=>by
  obtain⟨y,hy⟩:=af.mp he;obtain⟨h1,_,h3⟩:=cL T hy;have ho:other n e∈ends n:=af.mpr ⟨y,h1⟩;exact i6 T' (by rw [cF e he];exact hy) (by rw [cF _ ho];exact h1) λh=>h3 (inj _ he _ ho h).symm
 refine⟨χ',λx hx=>?_,λx y hy=>?_⟩
 ·obtain⟨e,he,rfl⟩:=lN x hx;have:step m (g e)=g (step n e):=by
   unfold step;rw [aD e he];exact lf _<|c9 T he
  rw [this,h1 _<|kI T he,h1 e he,hχ.go e he]
 ·obtain⟨e,he,rfl⟩:=lN x<|af.mpr ⟨y,hy⟩;rw [cF e he] at hy;rw [aD e he,h1 e he,h1 _<|c9 T he];exact hχ.cF e y hy
theorem Yp{a:Net}{j i:Nat}{x:Str}(hj:j < a.length)(hi:i < max 1 (row a j).length)(T:aj a) (T':aj<|a.eraseIdx j++[(x,(row a j).drop i++(row a j).take i)])
  (ht:(ag<|a.eraseIdx j++[(x,(row a j).drop i++(row a j).take i)]).length=(ag a).length) (R:RS a):RS (a.eraseIdx j++[(x,(row a j).drop i++(row a j).take i)]):=by
 obtain⟨g,h1,h2,h3⟩:=M9 (x:=x) hj hi;refine Yo T T' ht h1 h2 h3 (λs hs r=>?_) R
 by_cases hr:r < a.length
 ·have:=hs (if r < j then r else if r=j then a.length - 1 else r - 1);rw [M8 hj r hr] at this
  by_cases e:r=j
  ·rw [BL e] at this;rw [<- this,e];refine Yb<|List.Perm.map s ?_;show(row a j).Perm ((row a j).drop i++(row a j).take i);refine List.Perm.trans ?_ Cm;rw [Ct]
  ·rw [BK e] at this;exact this
 ·have:row a r=[]:=by
   unfold row;rw [Br<|by omega];rfl
  rw [this];rfl
theorem Yq{n n2 n0:Net}{j i:Nat}{x:Str}(hj:j < n.length)(hi:i < max 1 (row n j).length)(T0:aj n0)(pt:(ag n++ag n2).Perm<|ag n0)
  (fV:(ag (n.eraseIdx j)++ag (n2++[(x,(row n j).drop i++(row n j).take i)])).Perm<|ag n0) (P:Fl<|n++n2):Fl (n.eraseIdx j++(n2++[(x,(row n j).drop i++(row n j).take i)])):=by
 refine⟨Ya hj hi T0 pt fV P.1,?_⟩;have tw:∀ m:Net,(ag m).Perm (ag n0)->aj m:=λm p y hy=>by rw [p.count_eq];exact T0 y<|p.mem_iff.mp hy
 rw [<- Nk] at pt fV;have er:row (n++n2) j=row n j:=m6 hj;have ee:n.eraseIdx j++(n2++[(x,(row n j).drop i++(row n j).take i)])=(n++n2).eraseIdx j++[(x,(row (n++n2) j).drop i++(row (n++n2) j).take i)]:=by
  rw [JT hj,At,er]
 rw [ee] at fV ⊢;exact Yp (by rw [Ah];omega) (by rw [er];exact hi) (tw _ pt) (tw _ fV) (by rw [fV.length_eq,pt.length_eq]) P.2
theorem Yr{m:Net}(T:aj m){ψ:End->Bool}(hψ:∀ e∈ends m,ψ (step m e)=ψ e):∃ t,aU m t ψ:=by
 refine⟨λy=>match (ends m).find? (λe=>decide (ax m e=some y)) with | some e=>ψ e ^^ ψ (other m e) | none=>false,hψ,λe y hy=>?_⟩;show(match (ends m).find? (λe=>decide (ax m e=some y)) with | some e=>ψ e ^^ ψ (other m e) | none=>false)=_;cases hf:(ends m).find? (λe=>decide (ax m e=some y)) with
 | none=>exact absurd (BR hy)<|by simpa using Ge.mp hf e (af.mpr ⟨y,hy⟩)
 | some e'=>
  have h5:=Gz hf;have h':ax m e'=some y:=CG h5
  by_cases q:e'=e
  ·rw [q]
  ·have o1:=i6 T h' hy q;have o2:=i6 T hy h'<|Ne.symm q;show(ψ e' ^^ ψ (other m e'))=_;rw [o1,o2];cases ψ e <;> cases ψ e' <;> rfl
theorem Ys{n:Net}(T:aj n)(R:RS n){e:End}{z:Str}(hz:ax n e=some z)(h:other n e∈face n e){s:Str->Bool}(hs:cG n s):s z=false:=by
 obtain⟨χ,hχ⟩:=R s hs;have he:=af.mpr ⟨z,hz⟩;obtain⟨k,hk⟩:=Nm (kO T he) h;have:=xf T hχ he k;rw [hk] at this;rw [hχ.cF e z hz,this];cases χ e <;> rfl
theorem Yu{n:Net}(T:aj n){e:End}{z:Str}(hz:ax n e=some z)(h:other n e∉face n e):∃ s,cG n s/\s z=true/\∃ ψ,aU n s ψ:=by
 have he:=af.mpr ⟨z,hz⟩;obtain⟨h1,p⟩:=jv T he;have inv:∀ x∈ends n,decide (step n x∈face n e)=decide (x∈face n e):=λx hx=>by
  refine decide_eq_decide.mpr ⟨λq=>?_,λq=>eg p h1 q⟩;have st:Told n (face n e):=λy hy=>eg p h1 hy;refine BX λnx=>?_;exact Nj T st hx nx _ (eg (jv T hx).2 (jv T hx).1 (jv T hx).1) q
 obtain⟨t,ht⟩:=Yr T (ψ:=λx=>decide (x∈face n e)) inv;refine⟨t,ht.even T,?_,_,ht⟩;rw [ht.cF e z hz];show(decide (e∈face n e) ^^ decide (other n e∈face n e))=true;rw [BR h1,BW h];rfl
open L2
def ao(n:Net)(r:Nat):Str:=((n[r]?).map (·.1)).getD ⟨#[]⟩
theorem b8{n:Net}{r:Nat}(h:r < n.length):ao n r=n[r].1:=by unfold ao;rw [Ab h];rfl
abbrev Lk:=Str×Str×Str
def lO(n:Net)(x:Lk):Prop:=∃ a b,pos n x.1=[a,b]/\x.2.1=ao n a.1/\x.2.2=ao n b.1
structure iP(n:Net)(done:List<|Str×End)(kM:List<|Key×V)(ls:List Lk):Prop where
 m0:∀ z,bF done z=[]->aA kM (Sum.inr z)=none
 m1:∀ z a rest,bF done z=a :: rest->aA kM (Sum.inr z)=some (.str<|ao n a.1)
 mem:∀ x:Lk,x∈ls↔∃ a b rest,bF done x.1=a :: b :: rest/\x.2.1=ao n a.1/\x.2.2=ao n b.1
 eU:(ls.map (·.1)).Nodup
 pz:kM.length<=done.length
 lP:ls.length<=done.length
theorem iP.start(n:Net):iP n [] [] []:=⟨λ_ _=>rfl,λz a rest h=>(by cases h),λx=>⟨λh=>(by cases h),λ⟨a,b,rest,h,_⟩=>(by cases h)⟩,Db,Ao _,Ao _⟩
theorem iP.new{n:Net}{done:List (Str×End)}{kM:List (Key×V)}{ls:List Lk}(I:iP n done kM ls){z:Str}{e:End}(h0:bF done z=[]):iP n (done++[(z,e)]) (putK kM (Sum.inr z)<|.str<|ao n e.1) ls:=by
 refine⟨λy hy=>?_,λy a rest hy=>?_,λx=>?_,I.eU,?_,?_⟩
 ·rw [d8] at hy;obtain⟨h1,h2⟩:=Ef.mp hy;have a7:¬ z=y:=λq=>by rw [BL q] at h2;cases h2
  rw [fm,BK λq=>a7 (Sum.inr.inj q).symm];exact I.m0 y h1
 ·rw [d8] at hy
  by_cases q:z=y
  ·subst q;rw [h0,BL rfl] at hy;cases hy;rw [fm,BL rfl]
  ·rw [BK q,Bc] at hy;rw [fm,BK λp=>q (Sum.inr.inj p).symm];exact I.m1 y a rest hy
 ·rw [I.mem x]
  by_cases q:z=x.1
  ·constructor
   ·rintro ⟨a,b,rest,h,_⟩;rw [<- q,h0] at h;cases h
   ·rintro ⟨a,b,rest,h,_⟩;rw [d8,<- q,h0,BL rfl] at h;cases h
  ·constructor
   ·rintro ⟨a,b,rest,h,r⟩;exact⟨a,b,rest,by rw [d8,BK q,Bc];exact h,r⟩
   ·rintro ⟨a,b,rest,h,r⟩;rw [d8,BK q,Bc] at h;exact⟨a,b,rest,h,r⟩
 ·have:=mG kM (Sum.inr z)<|.str<|ao n e.1;have:=I.pz;rw [Ah,Er];omega
 ·have:=I.lP;rw [Ah,Er];omega
theorem iP.old{n:Net}{done:List (Str×End)}{kM:List (Key×V)}{ls:List Lk}(I:iP n done kM ls){z:Str}{a e:End}(h1:bF done z=[a]):iP n (done++[(z,e)]) kM (ls++[(z,ao n a.1,ao n e.1)]):=by
 have hz:bF (done++[(z,e)]) z=[a,e]:=by rw [d8,h1,BL rfl];rfl
 have Yv:z∉ls.map (·.1):=λh=>by
  obtain⟨x,hx,ex⟩:=Aj.mp h;obtain⟨b,c,rest,hp,_⟩:=(I.mem x).mp hx;have ex:x.1=z:=ex;rw [ex,h1] at hp;cases hp
 refine⟨λy hy=>?_,λy b rest hy=>?_,λx=>?_,?_,?_,?_⟩
 ·rw [d8] at hy;exact I.m0 y (Ef.mp hy).1
 ·by_cases q:z=y
  ·subst q;rw [hz] at hy;cases hy;exact I.m1 z a [] h1
  ·rw [d8,BK q,Bc] at hy;exact I.m1 y b rest hy
 ·rw [Ap,Ae,I.mem x]
  by_cases q:z=x.1
  ·constructor
   ·rintro (⟨b,c,rest,h,_⟩ | h)
    ·rw [<- q,h1] at h;cases h
    ·subst h;exact⟨a,e,[],hz,rfl,rfl⟩
   ·rintro ⟨b,c,rest,h,r1,r2⟩;rw [<- q,hz] at h;cases h;obtain⟨x1,x2,x3⟩:=x;have q:z=x1:=q;have r1:x2=ao n a.1:=r1;have r2:x3=ao n e.1:=r2;subst q r1 r2;exact .inr rfl
  ·constructor
   ·rintro (⟨b,c,rest,h,r⟩ | h)
    ·exact⟨b,c,rest,by rw [d8,BK q,Bc];exact h,r⟩
    ·subst h;exact absurd rfl q
   ·rintro ⟨b,c,rest,h,r⟩;rw [d8,BK q,Bc] at h;exact .inl ⟨b,c,rest,h,r⟩
 ·rw [Al];exact oM I.eU Yv
 ·have:=I.pz;rw [Ah,Er];omega
 ·have:=I.lP;rw [Ah,Ah];show _+1<=_+1;omega
theorem iP.whole{n:Net}(T:aj n){kM:List (Key×V)}{ls:List Lk}(I:iP n (bE n) kM ls)(x:Lk):x∈ls↔lO n x:=by
 rw [I.mem x]
 constructor
 ·rintro ⟨a,b,rest,h,r⟩;have hp:pos n x.1=a :: b :: rest:=h;have ha:ax n a=some x.1:=aO.mp (by rw [hp];exact Ac ..);have hl:=oZ n x.1;rw [hp,T x.1<|eX ha] at hl;have:rest=[]:=by
   have:rest.length+1+1=2:=hl;exact Bk.mp<|by omega
  rw [this] at hp;exact⟨a,b,hp,r⟩
 ·rintro ⟨a,b,h,r⟩;exact⟨a,b,[],h,r⟩
inductive Way (ls:List<|Str×Str×Bool) (f:Str):Str->Bool->Prop where
 | here:Way ls f f false
 | there {x y:Str} {b o:Bool}:Way ls f x b->(x,y,o)∈ls->Way ls f y (b != o)
 | back {x y:Str} {b o:Bool}:Way ls f x b->(y,x,o)∈ls->Way ls f y (b != o)
def ub(n:Net)(ss:List Str):Bool:=n.all λr=>(r.2.filter λz=>ss.contains z).length % 2 == 0
theorem dJ{n:Net}(T:aj n){e x:End}{z:Str}(h:ax n e=some z):ax n x=some z↔x=e\/x=other n e:=by
 obtain⟨o1,o2,o3⟩:=cL T h;refine⟨λhx=>?_,λhx=>?_⟩
 ·obtain⟨a,b,hp,ie,he⟩:=o4 T h;have mx:x∈pos n z:=aO.mpr hx;have mo:other n e∈pos n z:=aO.mpr o1;rw [hp] at mx mo;simp only [Am,Ds,JZ] at mx mo
  rcases he with he | he
  ·rcases mx with m | m
   ·exact .inl<|m.trans he.symm
   ·rcases mo with m2 | m2
    ·exact absurd (m2.trans he.symm) o3
    ·exact .inr<|m.trans m2.symm
  ·rcases mx with m | m
   ·rcases mo with m2 | m2
    ·exact .inr<|m.trans m2.symm
    ·exact absurd (m2.trans he.symm) o3
   ·exact .inl<|m.trans he.symm
 ·rcases hx with rfl | rfl
  ·exact h
  ·exact o1
abbrev Bl:=Str×Str×Bool
def has(kvs:List<|Key×V)(x:Str):Prop:=∃ v,aA kvs (Sum.inr x)=some v
def pA(ls:List Bl)(x y:Str)(o:Bool):Prop:=(x,y,o)∈ls\/(y,x,o)∈ls
def uc(ls:List Bl):List Str:=ls.flatMap λl=>[l.1,l.2.1]
theorem Nr:∀ ls:List Bl,(uc ls).length=2 * ls.length
 | []=>rfl
 | l :: r=>by
  show(uc r).length+1+1=2 * (r.length+1);rw [Nr r];omega
theorem Yw{ls:List Bl}{x y:Str}{o:Bool}(h:pA ls x y o):y∈uc ls:=by
 rcases h with h | h
 ·exact Fx.mpr ⟨_,h,by simp⟩
 ·exact Fx.mpr ⟨_,h,by simp⟩
theorem m8{κ:Type} [DecidableEq κ] (kvs:List<|κ×V) (k:κ) (v:V):(putK kvs k v).map (·.1)=if k∈kvs.map (·.1) then kvs.map (·.1) else kvs.map (·.1)++[k]:=by
 have e:(kvs.any λkv=>decide (kv.1=k))=decide (k∈kvs.map (·.1)):=by
  rw [Eu,List.any_eq_true,DR,Aj];exact⟨λ⟨p,h1,h2⟩=>⟨p,h1,CG h2⟩,λ⟨p,h1,h2⟩=>⟨p,h1,BR h2⟩⟩
 unfold putK;rw [e]
 by_cases h:k∈kvs.map (·.1)
 ·rw [BL<|BR h,BL h,Bb];refine Bf λp _=>?_;show(if p.1=k then(p.1,v) else p).1=p.1
  split <;> rfl
 ·rw [BK (by simpa using h),BK h,Al];rfl
structure dw(ls:List Bl)(f:Str)(hr:Option Str)(kvs:List<|Key×V)(wt:List Str):Prop where
 eU:(kvs.map (·.1)).Nodup
 txt:∀ k∈kvs.map (·.1),∃ x,k=Sum.inr x/\x∈f :: uc ls
 val:∀ x v,aA kvs (Sum.inr x)=some v->∃ b,v = .bl b/\Way ls f x b
 fst:has kvs f
 xh:∀ x∈wt,has kvs x
 lQ:∀ x,some x=hr->has kvs x
 cls:∀ x,has kvs x->x∈wt\/some x=hr\/∀ y o,pA ls x y o->has kvs y
theorem dw.len{ls:List Bl}{f:Str}{hr:Option Str}{kvs:List (Key×V)}{wt:List Str}(I:dw ls f hr kvs wt):kvs.length<=1+2 * ls.length:=by
 have:=aI I.eU (b:=(f :: uc ls).map Sum.inr) λk hk=>by
  obtain⟨x,e,hx⟩:=I.txt k hk;rw [e];exact Aj.mpr ⟨x,hx,rfl⟩
 rw [Aa,Aa,Ax,Nr] at this;omega
theorem ud{kvs:List (Key×V)}{k:Key}{v:V}{x:Str}(h:has kvs x):has (putK kvs k v) x:=by
 obtain⟨u,hu⟩:=h;unfold has;rw [fm]
 split
 ·exact⟨_,rfl⟩
 ·exact⟨u,hu⟩
theorem dw.start(ls:List Bl)(f:Str):dw ls f none (putK [] (Sum.inr f)<|.bl false) [f]:=by
 have e:putK ([]:List<|Key×V) (Sum.inr f) (.bl false)=[(Sum.inr f,.bl false)]:=rfl;have hv:∀ x,aA ([(Sum.inr f,.bl false)]:List<|Key×V) (Sum.inr x)=if x=f then some (.bl false) else none:=λx=>by
  rw [<- e,fm]
  by_cases h:x=f
  ·rw [BL h,BL<|by rw [h]]
  ·rw [BK h,BK λq=>h<|Sum.inr.inj q];rfl
 rw [e];refine⟨by simp,λk hk=>⟨f,by simpa using hk,Ac ..⟩,λx v h=>?_,⟨.bl false,by rw [hv f,BL rfl]⟩,λx hx=>?_,λx hx=>by(cases hx),λx hx=>?_⟩
 ·rw [hv x] at h
  by_cases c:x=f
  ·rw [BL c] at h;cases h;subst c;exact⟨false,rfl,.here⟩
  ·rw [BK c] at h;cases h
 ·rw [Ae.mp hx];exact⟨.bl false,by rw [hv f,BL rfl]⟩
 ·obtain⟨v,h⟩:=hx;rw [hv x] at h
  by_cases c:x=f
  ·exact .inl<|Ae.mpr c
  ·rw [BK c] at h;cases h
theorem dw.pop{ls:List Bl}{f h:Str}{kvs:List (Key×V)}{wt:List Str}(I:dw ls f none kvs<|wt++[h]):dw ls f (some h) kvs wt:=by
 refine⟨I.eU,I.txt,I.val,I.fst,λx hx=>I.xh x<|As _ hx,λx hx=>(by cases hx;exact I.xh h<|Ar _<|Ae.mpr rfl),λx hx=>?_⟩
 rcases I.cls x hx with c | c | c
 ·rcases Ap.mp c with c | c
  ·exact .inl c
  ·exact .inr<|.inl<|by rw [Ae.mp c]
 ·cases c
 ·exact .inr<|.inr c
theorem dw.close{ls:List Bl}{f h:Str}{kvs:List (Key×V)}{wt:List Str}(I:dw ls f (some h) kvs wt)(c:∀ y o,pA ls h y o->has kvs y):dw ls f none kvs wt:=by
 refine⟨I.eU,I.txt,I.val,I.fst,I.xh,λx hx=>(by cases hx),λx hx=>?_⟩
 rcases I.cls x hx with d | d | d
 ·exact .inl d
 ·cases d;exact .inr<|.inr c
 ·exact .inr<|.inr d
theorem dw.jX{ls:List Bl}{f:Str}{hr:Option Str}{kvs:List (Key×V)}{wt:List Str}(I:dw ls f hr kvs wt){g:Str}(hg:aA kvs (Sum.inr g)=none):Sum.inr g∉kvs.map (·.1):=by
 intro hm;obtain⟨p,hp,e⟩:=Aj.mp hm;have:∃ i:Nat,kvs[i]?=some p:=An hp;obtain⟨i,hi⟩:=this;have:∀{l:List (Key×V)},(∃ q∈l,q.1=Sum.inr g)->aA l (Sum.inr g)≠none:=λ{l}=>by
  induction l with
  | nil=>rintro ⟨q,hq,_⟩;cases hq
  | cons c r ih=>
   rintro ⟨q,hq,e⟩ hn
   by_cases hc:c.1=Sum.inr g
   ·rw [iG hc] at hn;cases hn
   ·rw [hG hc] at hn
    rcases Am.mp hq with rfl | hq
    ·exact hc e
    ·exact ih ⟨q,hq,e⟩ hn
 exact this ⟨p,hp,e⟩ hg
theorem dw.Yx{ls:List Bl}{f h:Str}{kvs:List (Key×V)}{wt:List Str}(I:dw ls f (some h) kvs wt):has kvs h:=I.lQ h rfl
theorem dw.add{ls:List Bl}{f h g:Str}{kvs:List (Key×V)}{wt:List Str}{b o:Bool}(I:dw ls f (some h) kvs wt)(hg:aA kvs (Sum.inr g)=none)(hh:aA kvs (Sum.inr h)=some (.bl b))(t:pA ls h g o) :
  dw ls f (some h) (putK kvs (Sum.inr g)<|.bl<|b != o) (wt++[g]):=by
 have uf:=I.jX hg;have hw:Way ls f g (b != o):=by
  obtain⟨b',e,hw⟩:=I.val h _ hh;cases e
  rcases t with t | t
  ·exact .there hw t
  ·exact .back hw t
 refine⟨?_,λk hk=>?_,λx v hv=>?_,ud I.fst,λx hx=>?_,λx hx=>ud<|I.lQ x hx,λx hx=>?_⟩
 ·rw [m8,BK uf];exact oM I.eU uf
 ·rw [m8,BK uf] at hk
  rcases Ap.mp hk with hk | hk
  ·exact I.txt k hk
  ·exact⟨g,Ae.mp hk,Af _<|Yw t⟩
 ·rw [fm] at hv
  by_cases c:Sum.inr x=(Sum.inr g:Key)
  ·rw [BL c] at hv;cases hv;rw [Sum.inr.inj c];exact⟨_,rfl,hw⟩
  ·rw [BK c] at hv;exact I.val x v hv
 ·rcases Ap.mp hx with hx | hx
  ·exact ud<|I.xh x hx
  ·rw [Ae.mp hx];exact⟨_,by rw [fm,BL rfl]⟩
 ·obtain⟨v,hv⟩:=hx;rw [fm] at hv
  by_cases c:Sum.inr x=(Sum.inr g:Key)
  ·exact .inl<|Ar _<|Ae.mpr<|Sum.inr.inj c
  ·rw [BK c] at hv
   rcases I.cls x ⟨v,hv⟩ with d | d | d
   ·exact .inl<|As _ d
   ·exact .inr<|.inl d
   ·exact .inr<|.inr λy o' ht=>ud<|d y o' ht
theorem dw.whole{ls:List Bl}{f:Str}{kvs:List (Key×V)}(I:dw ls f none kvs []):∀ x b,Way ls f x b->∃ b',aA kvs (Sum.inr x)=some (.bl b'):=by
 have oI:∀ x b,Way ls f x b->has kvs x:=λx b w=>by
  induction w with
  | here=>exact I.fst
  | there w hm ih=>
   rcases I.cls _ ih with d | d | d
   ·cases d
   ·cases d
   ·exact d _ _<|.inl hm
  | back w hm ih=>
   rcases I.cls _ ih with d | d | d
   ·cases d
   ·cases d
   ·exact d _ _<|.inr hm
 intro x b w;obtain⟨v,hv⟩:=oI x b w;obtain⟨b',e,_⟩:=I.val x v hv;exact⟨b',by rw [hv,e]⟩
open PyProof.Rows (sortedS)
def bu(n:Net):Prop:=∀ P:Str->Prop,(∃ r∈n,P r.1)->(∀ r∈n,∀ s∈n,∀ t,t∈r.2->t∈s.2->P r.1->P s.1)->∀ r∈n,P r.1
theorem Nu{n m:Net}(h1:∀ r∈n,∃ s∈m,s.1=r.1/\∀ t∈r.2,t∈s.2)(h2:∀ s∈m,∃ r∈n,r.1=s.1)(h:bu n):bu m:=by
 rintro P ⟨s,hs,ps⟩ cl s' hV;obtain⟨r,hr,er⟩:=h2 s hs;obtain⟨r',jY,Yy⟩:=h2 s' hV;rw [<- Yy];refine h P ⟨r,hr,by rw [er];exact ps⟩ (λa ha b hb t ta tb pa=>?_) r' jY;obtain⟨a',gU,ea,sa⟩:=h1 a ha;obtain⟨b',i7,eb,sb⟩:=h1 b hb;rw [<- eb];exact cl a' gU b' i7 t (sa t ta) (sb t tb)<|by rw [ea];exact pa
theorem Yz(r:Str×List Str):bu [r]:=by
 rintro P ⟨s,hs,ps⟩ _ x hx;rw [Ae] at hs hx;rw [hx,<- hs];exact ps
theorem DI(n:Net)(c:End)(z:Str)(i:Nat):(ins n c z)[i]?=(n[i]?).map λr=>if c.1=i then(r.1,r.2.take c.2++z :: r.2.drop c.2) else r:=by
 unfold ins;rw [Fu]
 by_cases h:c.1=i
 ·simp [h]
 ·simp [h]
theorem DJ{n:Net}{c:End}{z:Str}(h:bu n):bu (ins n c z):=by
 refine Nu (λr hr=>?_) (λs hs=>?_) h
 ·obtain⟨i,hi⟩:=An hr;have e:=DI n c z i;rw [hi] at e;refine⟨_,Ak e,?_,λt ht=>?_⟩
  ·split <;> rfl
  ·split
   ·show t∈r.2.take c.2++z :: r.2.drop c.2;rw [<- Ct c.2 r.2] at ht
    rcases Ap.mp ht with q | q
    ·exact As _ q
    ·exact Ar _<|Af _ q
   ·exact ht
 ·obtain⟨i,hi⟩:=An hs;rw [DI,Az] at hi;obtain⟨r,hr,e⟩:=hi;refine⟨r,Ak hr,?_⟩;rw [<- e]
  split <;> rfl
theorem YB{n:Net}{c:End}{z:Str}(hc:c.1 < n.length):∃ r∈ins n c z,z∈r.2:=by
 have e:=DI n c z c.1;rw [Ab hc] at e;refine⟨_,Ak e,?_⟩;show z∈(if c.1=c.1 then((n[c.1].1,n[c.1].2.take c.2++z :: n[c.1].2.drop c.2):Str×List Str) else n[c.1]).2;rw [BL rfl];exact Ar _<|Ac ..
theorem YC{n:Net}{z pt:Str}(h:bu n)(hz:∃ r∈n,z∈r.2):bu (n++[(pt,[z])]):=by
 obtain⟨r,hr,zr⟩:=hz;rintro P ⟨s,hs,ps⟩ cl x hx;have mn:((pt,[z]):Str×List Str)∈n++[(pt,[z])]:=Ar _<|Ae.mpr rfl;have ml:∀{y},y∈n->y∈n++[(pt,[z])]:=λhy=>As _ hy;have all:∀ y∈n,P y.1:=by
  refine h P ?_ λa ha b hb t ta tb pa=>cl a (ml ha) b (ml hb) t ta tb pa
  rcases Ap.mp hs with q | q
  ·exact⟨s,q,ps⟩
  ·rw [Ae] at q;subst q;exact⟨r,hr,cl _ mn r (ml hr) z (Ae.mpr rfl) zr ps⟩
 rcases Ap.mp hx with q | q
 ·exact all x q
 ·rw [Ae] at q;subst q;exact cl r (ml hr) _ mn z zr (Ae.mpr rfl)<|all r hr
def m9(zs:List Str):Prop:=zs.Pairwise λa b=>a.cps.toList < b.cps.toList
theorem DL{zs:List Str}(h:m9 zs):zs.Nodup:=h.imp λq e=>by rw [e] at q;exact Gm _ q
def lR(n:Net)(ps:List Str)(z:Str):Prop:=∃ e,ax n e=some z/\ao n e.1∈ps/\ao n (other n e).1∉ps
theorem Nv{n:Net}{ps:List Str}{z:Str}(h:lR n ps z):z∈ag n:=by
 obtain⟨e,he,_⟩:=h;exact eX he
theorem DM{n:Net}(T:aj n){ps:List Str}{z:Str}{e:End}(he:ax n e=some z):lR n ps z↔(decide (ao n e.1∈ps) != decide (ao n (other n e).1∈ps))=true:=by
 have o:=cL T he
 constructor
 ·rintro ⟨x,hx,h1,h2⟩
  rcases (dJ T he).mp hx with q | q
  ·subst q;simp [h1,h2]
  ·subst q;rw [o.2.1] at h2;simp [h1,h2]
 ·intro h
  by_cases h1:ao n e.1∈ps
  ·by_cases h2:ao n (other n e).1∈ps
   ·simp [h1,h2] at h
   ·exact⟨e,he,h1,h2⟩
  ·by_cases h2:ao n (other n e).1∈ps
   ·exact⟨other n e,o.1,h2,by rw [o.2.1];exact h1⟩
   ·simp [h1,h2] at h
theorem Nw{n:Net}(T:aj n){x:Lk}(h:lO n x):∃ e,ax n e=some x.1/\x.2.1=ao n e.1/\x.2.2=ao n (other n e).1:=by
 obtain⟨a,b,hp,h1,h2⟩:=h;have ha:ax n a=some x.1:=aO.mp (by rw [hp];exact Ac ..);have hb:ax n b=some x.1:=aO.mp (by rw [hp];simp);have lD:=Mr n x.1;rw [hp] at lD;have ie:b≠a:=λq=>by rw [q] at lD;simp at lD
 rcases (dJ T ha).mp hb with q | q
 ·exact absurd q ie
 ·exact⟨a,ha,h1,by rw [h2,q]⟩
theorem YD{n:Net}(T:aj n){e:End}{z:Str}(h:ax n e=some z):lO n (z,ao n e.1,ao n (other n e).1)\/lO n (z,ao n (other n e).1,ao n e.1):=by
 obtain⟨a,b,hp,ie,hh⟩:=o4 T h;have ha:ax n a=some z:=aO.mp (by rw [hp];exact Ac ..);have hb:ax n b=some z:=aO.mp<|by rw [hp];simp
 rcases hh with q | q
 ·subst q;refine .inl ⟨e,b,hp,rfl,?_⟩
  rcases (dJ T h).mp hb with q | q
  ·exact absurd q.symm ie
  ·show ao n (other n e).1=ao n b.1;rw [q]
 ·subst q;refine .inr ⟨a,e,hp,?_,rfl⟩
  rcases (dJ T h).mp ha with q | q
  ·exact absurd q ie
  ·show ao n (other n e).1=ao n a.1;rw [q]
theorem YF{n:Net}(T:aj n){ps:List Str}{x:Lk}(h:lO n x):lR n ps x.1↔(decide (x.2.1∈ps) != decide (x.2.2∈ps))=true:=by
 obtain⟨e,he,h1,h2⟩:=Nw T h;rw [h1,h2];exact DM T he
def bf(n:Net):Str:=ao n 0
structure jZ(n:Net)(ss sd:List Str):Prop where
 DC:m9 sd
 mem:∀ x∈sd,x∈n.map (·.1)
 fst:bf n∉sd
 cut:∀ z,z∈ss↔lR n sd z
structure Tells(n:Net)(ss:List Str)(ls:List Bl):Prop where
 to:∀ e z,ax n e=some z->pA ls (ao n e.1) (ao n (other n e).1) (decide (z∈ss))
 YG:∀ l∈ls,∃ e z,ax n e=some z/\l=(ao n e.1,ao n (other n e).1,decide (z∈ss))
theorem YH{n:Net}{x:Str}(h:x∈n.map (·.1)):∃ i,i < n.length/\x=ao n i:=by
 obtain⟨r,hr,e⟩:=Aj.mp h;obtain⟨i,hi,q⟩:=Ba.mp hr;exact⟨i,hi,by rw [b8 hi,q];exact e.symm⟩
theorem ng{n:Net}{i:Nat}(h:i < n.length):ao n i∈n.map (·.1):=by
 rw [b8 h];exact Aj.mpr ⟨_,Ay h,rfl⟩
noncomputable def dX(n:Net)(ss:List Str):List Bl:=(ends n).map λe=>(ao n e.1,ao n (other n e).1,decide ((ax n e).getD ⟨#[]⟩∈ss))
theorem Nx{n:Net}{ss:List Str}:Tells n ss (dX n ss):=by
 refine⟨λe z h=> .inl (Aj.mpr ⟨e,af.mpr ⟨z,h⟩,by rw [h];rfl⟩),λl hl=>?_⟩;obtain⟨e,he,q⟩:=Aj.mp hl;obtain⟨z,hz⟩:=af.mp he;exact⟨e,z,hz,by rw [<- q,hz];rfl⟩
theorem xk{n:Net}(T:aj n){e:End}{z:Str}(h:ax n e=some z):(other n e).1 < n.length:=cE (cL T h).1
theorem YJ{X:Cx}{H:Hp}{k:Nat}(z:Str):kG X H k (.str z) (.str z) true:=by
 have:=A2 (X:=X) (H:=H) (k:=k) (x:= .str z) (y:= .str z) rfl rfl;have e:dI (.str z) (.str z)=true:=by show(z == z)=true;simp
 rw [e] at this;exact this
theorem xl{X:Cx}{H:Hp}{a b:Addr}{zs:List Str}(ha:H a=some (Ls zs))(hb:H b=some (Ls zs)):lH X H 1 (.ref a) (.ref b) true:=by
 have q:=Md (X:=X) (k:=0) (λ_=>true) (al.of (K:=X.K) ha) (al.of (K:=X.K) hb) rfl λj x y hx hy=>by
  rw [hx] at hy;cases hy;rw [Ag,Az] at hx;obtain⟨z,_,rfl⟩:=hx;exact YJ z
 rw [A6] at q;exact q
theorem Ny{X:Cx}{H:Hp}{k:Nat}{a b:Addr}(h:lH X H k (.ref a) (.ref b) true):kG X H k (.ref a) (.ref b) true:=by
 by_cases e:a=b
 ·subst e;exact V'
 ·exact Wa e h
open PyProof.Rows (sortedS)
theorem DS{kvs:List (Key×V)}{k:Key}(hg:aA kvs k=none):k∉kvs.map (·.1):=by
 induction kvs with
 | nil=>intro h;cases h
 | cons c r ih=>
  intro h
  by_cases hc:c.1=k
  ·rw [iG hc] at hg;cases hg
  ·rw [hG hc] at hg
   rcases Am.mp h with q | q
   ·exact hc q.symm
   ·exact ih hg q
theorem DT{kvs:List (Key×V)}{k:Key}{v:V}(hg:aA kvs k=some v):k∈kvs.map (·.1):=by
 refine BX λhn=>?_
 induction kvs with
 | nil=>cases hg
 | cons c r ih=>
  rw [Bd,Am] at hn;rw [hG λq=>hn<|.inl q.symm] at hg;exact ih hg λq=>hn<|.inr q
theorem Nz{a b:Nat}(h:a≠b):¬(Sum.inl (a:Int):Key)=Sum.inl (b:Int):=λq=>h<|by have:=Sum.inl.inj q;omega
theorem lS{n:Net}(hn:(n.map (·.1)).Nodup){i j:Nat}(hi:i < n.length)(hj:j < n.length)(h:ao n i=ao n j):i=j:=by
 rw [b8 hi,b8 hj] at h;have:=(Bv.mp hn);rw [Bh] at this
 rcases Gk i j with q | q | q
 ·exact absurd (by rw [By,By];exact h)<|this i j (by simpa using hi) (by simpa using hj) q
 ·exact q
 ·exact absurd (by rw [By,By];exact h.symm)<|this j i (by simpa using hj) (by simpa using hi) q
open PyProof.Rows (sortedS)
theorem YK(a b c:List Str)(h:∀ z,z∈c↔(if z∈a then z∉b else z∈b)):∀ zs:List Str,(zs.filter λz=>c.contains z).length % 2=((zs.filter λz=>a.contains z).length+(zs.filter λz=>b.contains z).length) % 2
 | []=>rfl
 | z :: r=>by
  have ih:=YK a b c h r;have hz:=h z;have ca:=λ(l:List Str)=>(Da (as:=l) (a:=z));simp only [Di]
  by_cases ha:z∈a <;> by_cases hb:z∈b
  ·have hc:z∉c:=λq=>by have:=hz.mp q;rw [BL ha] at this;exact this hb
   rw [BL<|(ca a).mpr ha,BL<|(ca b).mpr hb,BK λq=>hc<|(ca c).mp q,Ax,Ax];omega
  ·have hc:z∈c:=hz.mpr (by rw [BL ha];exact hb);rw [BL<|(ca a).mpr ha,BK λq=>hb<|(ca b).mp q,BL<|(ca c).mpr hc,Ax,Ax];omega
  ·have hc:z∈c:=hz.mpr (by rw [BK ha];exact hb);rw [BK λq=>ha<|(ca a).mp q,BL<|(ca b).mpr hb,BL<|(ca c).mpr hc,Ax,Ax];omega
  ·have hc:z∉c:=λq=>by have:=hz.mp q;rw [BK ha] at this;exact hb this
   rw [BK λq=>ha<|(ca a).mp q,BK λq=>hb<|(ca b).mp q,BK λq=>hc<|(ca c).mp q];exact ih
theorem gE{n:Net}{ss:List Str}:ub n ss=true↔∀ r∈n,(r.2.filter λz=>ss.contains z).length % 2=0:=by
 unfold ub;rw [Fw];exact⟨λh r hr=>by simpa using h r hr,λh r hr=>by simpa using h r hr⟩
theorem DU(k:Nat)(z:Str):∀(ts:List Str) (p:Nat),(bF (bb k ts p) z).length=ts.count z
 | [],p=>rfl
 | t :: r,p=>by
  have ih:=DU k z r<|p+1;have e:bb k (t :: r) p=(t,(k,p)) :: bb k r (p+1):=by unfold bb;rfl
  rw [e];unfold bF at ih ⊢;rw [Di,Dh]
  by_cases h:t=z
  ·rw [BL<|BR h,Bd,Ax,ih,BL<|by simpa using h]
  ·rw [BK λq=>h<|CG q,ih,BK<|by simpa using h];rfl
theorem DV(a b:List<|Str×End)(z:Str):bF (a++b) z=bF a z++bF b z:=by
 unfold bF;rw [Cw,Al]
theorem ug{k:Nat}{ts:List Str}{p:Nat}{z:Str}{e:End}(h:e∈bF (bb k ts p) z):e.1=k:=by
 unfold bF at h;obtain⟨x,hx,rfl⟩:=Aj.mp h;obtain⟨y,e⟩:=x;exact(aY.mp (Au.mp hx).1).1
theorem NA(ps:List Str)(f:Nat->Str)(z:Str):∀(m:Net) (k:Nat),(∀(i:Nat) r,m[i]?=some r->f (k+i)=r.1)->((bF (c8 k m) z).filter λe=>decide (f e.1∈ps)).length=(ag<|m.filter λr=>decide (r.1∈ps)).count z
 | [],k,_=>rfl
 | r :: m,k,h=>by
  have ih:=NA ps f z m (k+1) λi s hs=>by
   have:=h (i+1) s (by simpa using hs);rw [<- this]
   congr 1
   omega
  have e:c8 k (r :: m)=bb k r.2 0++c8 (k+1) m:=rfl;have hk:f k=r.1:=h 0 r rfl;rw [e,DV,Cw,Ah,ih,Di]
  by_cases hr:r.1∈ps
  ·rw [BL<|BR hr];have:ag (r :: m.filter λr=>decide (r.1∈ps))=r.2++ag (m.filter λr=>decide (r.1∈ps)):=by unfold ag;rfl
   rw [this,Ec,Fh.mpr (λe he=>by rw [ug he,hk];exact BR hr),DU]
  ·rw [BK λq=>hr<|CG q];have:(bF (bb k r.2 0) z).filter (λe=>decide (f e.1∈ps))=[]:=Fm.mpr λe he q=>by
    rw [ug he,hk] at q;exact hr<|CG q
   rw [this];simp
theorem YL{n:Net}(T:aj n)(ps:List Str)(z:Str):lR n ps z↔(ag<|n.filter λr=>decide (r.1∈ps)).count z % 2=1:=by
 have e:=NA ps (ao n) z n 0 λi r h=>by
  rw [Gj];unfold ao;rw [h];rfl
 rw [<- e];show lR n ps z↔((pos n z).filter λe=>decide (ao n e.1∈ps)).length % 2=1
 by_cases hz:z∈ag n
 ·obtain⟨a,ha⟩:∃ a,a∈pos n z:=by
   cases hp:pos n z with
   | nil=>exact absurd hp<|dS.mp hz
   | cons a r=>exact⟨a,Ac ..⟩
  obtain⟨x,y,hp,CI,hh⟩:=o4 T<|aO.mp ha;have hl:lO n (z,ao n x.1,ao n y.1):=⟨x,y,hp,rfl,rfl⟩;rw [show lR n ps z↔_ from YF (ps:=ps) T hl,hp]
  by_cases h1:ao n x.1∈ps <;> by_cases h2:ao n y.1∈ps <;> simp [h1,h2]
 ·have hp:pos n z=[]:=BX λh=>hz<|dS.mpr h;rw [hp];exact⟨λh=>absurd (Nv h) hz,λh=>by cases h⟩
theorem ND{a:List Str}(hn:a.Nodup):∀ l:List Str,(l.filter λz=>a.contains z).length=(a.map λz=>l.count z).sum
 | []=>by
  have:∀ a:List Str,(a.map λz=>([]:List Str).count z).sum=0:=λa=>by
   induction a with
   | nil=>rfl
   | cons x r ih=>rw [Bd,Fo,ih];rfl
  rw [this];rfl
 | y :: l=>by
  have ih:=ND hn l;have key:∀ a:List Str,(a.map λz=>(y :: l).count z).sum=(a.map λz=>l.count z).sum+a.count y:=λa=>by
   induction a with
   | nil=>rfl
   | cons x r ih=>
    rw [Bd,Fo,ih,Bd,Fo,Dh,Dh]
    by_cases h:y=x
    ·rw [BL (by simp [h]),BL<|by simp [h]];omega
    ·rw [BK (by simpa using h),BK<|by simpa using λq=>h<|Eq.symm q];omega
  rw [key,Di,<- ih,hn.count]
  by_cases h:y∈a
  ·rw [BL<|Da.mpr h,BL h,Ax]
  ·rw [BK λq=>h<|Da.mp q,BK h];rfl
theorem NI{a:List Str}:∀ m:Net,(∀ r∈m,(r.2.filter λz=>a.contains z).length % 2=0)->((ag m).filter λz=>a.contains z).length % 2=0
 | [],_=>rfl
 | r :: m,h=>by
  have ih:=NI m λs hs=>h s<|Af _ hs;have h1:=h r<|Ac ..;have:ag (r :: m)=r.2++ag m:=by unfold ag;rfl
  rw [this,Cw,Ah];omega
theorem NM(cs:List Str)(g:Str->Nat)(h:∀ z,z∈cs↔g z % 2=1):∀ a:List Str,(a.filter λz=>cs.contains z).length % 2=(a.map g).sum % 2
 | []=>rfl
 | z :: r=>by
  have ih:=NM cs g h r;rw [Di,Bd,Fo]
  by_cases hz:z∈cs
  ·rw [BL<|Da.mpr hz,Ax];have:=(h z).mp hz;omega
  ·rw [BK λq=>hz<|Da.mp q];have:¬ g z % 2=1:=λq=>hz<|(h z).mpr q;omega
theorem YM{n:Net}(T:aj n){a cs ps:List Str}(ha:ub n a=true)(hn:a.Nodup)(hc:∀ z,z∈cs↔lR n ps z):(a.filter λz=>cs.contains z).length % 2=0:=by
 rw [NM cs (λz=>(ag<|n.filter λr=>decide (r.1∈ps)).count z) (λz=>(hc z).trans<|YL T ps z) a,<- ND hn];exact NI _ λr hr=>gE.mp ha r (Au.mp hr).1
theorem YN{x y:Str}(h:x≠y):x.cps.toList < y.cps.toList\/y.cps.toList < x.cps.toList:=by
 by_cases q:x.cps.toList < y.cps.toList
 ·exact .inl q
 ·rcases List.le_iff_lt_or_eq.mp (Gv.mp q) with q | q
  ·exact .inr q
  ·exact absurd (b6.iI q).symm h
theorem NR(x:Str):∀ sd:List Str,m9 sd->∃ i8,m9 i8/\∀ y,y∈i8↔y=x\/y∈sd
 | [],_=>⟨[x],RB _ _,λy=>by simp⟩
 | z :: r,h=>by
  have h:=De.mp h
  by_cases e:x=z
  ·subst e;exact⟨x :: r,De.mpr h,λy=>by simp⟩
  ·rcases YN e with q | q
   ·refine⟨x :: z :: r,De.mpr ⟨λy hy=>?_,De.mpr h⟩,λy=>Am⟩
    rcases Am.mp hy with rfl | hy
    ·exact q
    ·exact Fz q<|h.1 y hy
   ·obtain⟨i8,hs,hm⟩:=NR x r h.2;refine⟨z :: i8,De.mpr ⟨λy hy=>?_,hs⟩,λy=>?_⟩
    ·rcases (hm y).mp hy with rfl | hy
     ·exact q
     ·exact h.1 y hy
    ·rw [Am,hm y,Am];exact⟨λk=>by rcases k with k | k | k <;> simp [k],λk=>by rcases k with k | k | k <;> simp [k]⟩
theorem xn:∀ l:List Str,∃ sd,m9 sd/\∀ x,x∈sd↔x∈l
 | []=>⟨[],List.Pairwise.nil,λ_=>QC⟩
 | x :: r=>by
  obtain⟨sd,hs,hm⟩:=xn r;obtain⟨i8,hV,rp⟩:=NR x sd hs;exact⟨i8,hV,λy=>by rw [rp y,hm y,Am]⟩
def HF(n:Net):Prop:=bu n/\Fl n
theorem YQ{nm:Str}:HF [(nm,[])]:=⟨Yz _,Yl⟩
theorem YR{n:Net}{c:End}{z pt:Str}(T:aj n)(F:Full n)(hz:z∉ag n)(hc:eR n c) (hp:(ag<|ins n c z++[(pt,[z])]).Perm<|z :: z :: ag n) (P:HF n):HF (ins n c z++[(pt,[z])]):=
 ⟨YC (DJ P.1)<|YB hc.1,Ym T F hz hc hp P.2⟩
theorem YS{n:Net}{k1 k2:End}{z:Str}(T:aj n)(F:Full n)(hz:z∉ag n)(h1:eR n k1)(h2:eR n k2) (hp:(ag<|ins (ins n k1 z) k2 z).Perm<|z :: z :: ag n) (ord:k2=k1\/sh k1 k2=k2) (same:(∃ k,it (step n) k k1=k2)\/∃ k,it (step n) k k2=k1) (P:HF n):HF (ins (ins n k1 z) k2 z):=
 ⟨DJ<|DJ P.1,Yn T F hz h1 h2 hp ord same P.2⟩
theorem YT{n n2 n0:Net}{j i:Nat}(hj:j < n.length)(hi:i < max 1 (row n j).length)(T0:aj n0)(pt:(ag n++ag n2).Perm<|ag n0)
  (fV:(ag (n.eraseIdx j)++ag (n2++[(n[j].1,(row n j).drop i++(row n j).take i)])).Perm<|ag n0) (P:HF<|n++n2):HF (n.eraseIdx j++(n2++[(n[j].1,(row n j).drop i++(row n j).take i)])):=by
 refine⟨Nu (λr hr=>?_) (λx hx=>?_) P.1,Yq hj hi T0 pt fV P.2⟩
 ·rcases Ap.mp hr with hx | hx
  ·rcases (b6.bZ n j hj).symm.mem_iff.mp hx |> Am.mp with q | q
   ·refine⟨(n[j].1,(row n j).drop i++(row n j).take i),Ar _<|Ar _<|Ae.mpr rfl,by rw [q],λt ht=>?_⟩;refine(CY (row n j) i).mem_iff.mpr ?_;rw [jT hj,<- q];exact ht
   ·exact⟨r,As _ q,rfl,λt h=>h⟩
  ·exact⟨r,Ar _<|As _ hx,rfl,λt h=>h⟩
 ·rcases Ap.mp hx with hx | hx
  ·exact⟨x,As _<|Ga hx,rfl⟩
  ·rcases Ap.mp hx with hx | hx
   ·exact⟨x,Ar _ hx,rfl⟩
   ·rw [Ae] at hx;exact⟨n[j],As _<|Ay hj,by rw [hx]⟩
theorem NU(s:Str->Bool):∀ l:List Str,aB (l.map s)=decide ((l.filter s).length % 2=1)
 | []=>rfl
 | x :: l=>by
  show(s x ^^ aB (l.map s))=_;rw [NU s l,Di];cases h:s x
  ·rw [BK (by decide),Hf]
  ·rw [BL rfl,Ax,Bool.true_xor,<- decide_not];exact decide_eq_decide.mpr<|by omega
theorem YV{n:Net}{s:Str->Bool}{ss:List Str}(h:cG n s)(hs:∀ z∈ag n,ss.contains z=s z):ub n ss=true:=gE.mpr λr hr=>by
 obtain⟨i,hi,rfl⟩:=Ba.mp hr;have:=h i;rw [NU,jT hi] at this;have e:(n[i].2.filter λz=>ss.contains z)=n[i].2.filter s:=Gn λz hz=>hs z<|Fx.mpr ⟨n[i],hr,hz⟩;rw [e];have:=HX this;omega
theorem jw{α:Type}:∀ l:List α,aB (l.map λ_=>false)=false
 | []=>rfl
 | _ :: l=>by show(false ^^ aB _)=false;rw [jw l];rfl
theorem DZ(x:Nat)(e:End):∀ m,aB ((List.range m).map λp=>decide ((x,p)=e))=decide (x=e.1/\e.2 < m)
 | 0=>by simp [aB]
 | m+1=>by
  rw [Dg,Al,ro,DZ x e m];show(decide (x=e.1/\e.2 < m) ^^ (decide ((x,m)=e) ^^ false))=_;rw [Hg];obtain⟨a,b⟩:=e
  by_cases h:x=a
  ·by_cases h2:b=m
   ·subst h;subst h2;simp
   ·have e1:((x,m)=(a,b))=False:=by simp [h];omega
    rw [BW (p:=(x,m)=(a,b)) (by rw [e1];exact id),Hg];exact decide_eq_decide.mpr ⟨λq=>⟨q.1,by have:=q.2;omega⟩,λq=>⟨q.1,by have:=q.2;show b < m;omega⟩⟩
  ·rw [BW λq=>h q.1,BW λq=>h<|BZ Prod.fst q,BW λq=>h q.1];rfl
theorem xo{n:Net}(T:aj n){e:End}{t:Str}(h:ax n e=some t)(x:Nat):aB ((row n x).map λy=>decide (y=t))=(decide (x=e.1) ^^ decide (x=(other n e).1)):=by
 have o:=cL T h;rw [Nn n x (λy=>decide (y=t)) (λa=>decide (a=e) ^^ decide (a=other n e)) λp z hz=>?_]
 ·rw [il (λp=>decide ((x,p)=e)) λp=>decide ((x,p)=other n e),DZ,DZ];have l1:=eQ h;have l2:=eQ o.1
  congr 1
  ·exact decide_eq_decide.mpr ⟨λq=>q.1,λq=>⟨q,by rw [q];exact l1⟩⟩
  ·exact decide_eq_decide.mpr ⟨λq=>q.1,λq=>⟨q,by rw [q];exact l2⟩⟩
 ·have hz:ax n (x,p)=some z:=hz
  by_cases q:z=t
  ·subst q
   rcases (dJ T h).mp hz with k | k
   ·rw [k,BR rfl,BR rfl,BW<|Ne.symm o.2.2];rfl
   ·rw [k,BR rfl,BR rfl,BW o.2.2];rfl
  ·have h1:((x,p):End)≠e:=λk=>by rw [k,h] at hz;exact q (Option.some.inj hz).symm
   have h2:((x,p):End)≠other n e:=λk=>by rw [k,o.1] at hz;exact q (Option.some.inj hz).symm
   rw [BW q,BW h1,BW h2];rfl
inductive Rw (n:Net) (z:Str):Nat->Prop
 | here:Rw n z 0
 | go {e:End} {t:Str}:Rw n z e.1->ax n e=some t->t≠z->Rw n z (other n e).1
theorem NV{n:Net}(T:aj n){z:Str}{r:Nat}(h:Rw n z r):∃ s:Str->Bool,s z=false/\∀ x,aB ((row n x).map s)=(decide (x=0) ^^ decide (x=r)):=by
 induction h with
 | here=>exact⟨λ_=>false,rfl,λx=>by rw [jw];cases decide (x=0) <;> rfl⟩
 | @go e t _ ht hz ih=>
  obtain⟨s,h1,h2⟩:=ih;refine⟨λy=>s y ^^ decide (y=t),?_,λx=>?_⟩
  ·show(s z ^^ decide (z=t))=false;rw [h1,BW<|Ne.symm hz];rfl
  ·rw [il s λy=>decide (y=t),h2 x,xo T ht x];cases decide (x=0) <;> cases decide (x=e.1) <;> cases decide (x=(other n e).1) <;> rfl
theorem YW{n:Net}(T:aj n)(R:RS n){e:End}{z:Str}(hz:ax n e=some z)(h:other n e∈face n e):¬(Rw n z e.1/\Rw n z (other n e).1):=by
 rintro ⟨r1,r2⟩;obtain⟨s1,a1,b1⟩:=NV T r1;obtain⟨s2,a2,b2⟩:=NV T r2;have ev:cG n (λy=>(s1 y ^^ s2 y) ^^ decide (y=z)):=λx=>by
  rw [il (λy=>s1 y ^^ s2 y) λy=>decide (y=z),il s1 s2,b1,b2,xo T hz];cases decide (x=0) <;> cases decide (x=e.1) <;> cases decide (x=(other n e).1) <;> rfl
 have:=Ys T R hz h ev;rw [a1,a2,BR rfl] at this;cases this
theorem NX{n:Net}(T:aj n)(hg:bu n)(hN:(n.map (·.1)).Nodup)(h0:0 < n.length){e:End}{z:Str}(hz:ax n e=some z)(h:other n e∉face n e){S:Nat->Prop}(s0:S 0)
  (cl:∀ x t,ax n x=some t->t≠z->S x.1->S (other n x).1):∀ r,r < n.length->S r:=by
 classical
 obtain⟨s,ev,sz,_⟩:=Yu T hz h;obtain⟨a,sa,ma⟩:=xn<|(ag n).filter s;have ea:ub n a=true:=YV ev λy hy=>by
  by_cases q:s y=true
  ·rw [q];exact Da.mpr<|(ma y).mpr<|Au.mpr ⟨hy,q⟩
  ·rw [QL] at q;rw [q];refine Ez.mpr λk=>?_;have:=Au.mp<|(ma y).mp<|Da.mp k;rw [q] at this;cases this.2
 have za:z∈a:=(ma z).mpr<|Au.mpr ⟨eX hz,sz⟩
 let ps:=((List.range n.length).filter λr=>decide (S r)).map<|ao n
 have kR:∀ r,r < n.length->(ao n r∈ps↔S r):=λr hr=>by
  show ao n r∈((List.range n.length).filter λr=>decide (S r)).map (ao n)↔_;rw [Aj]
  constructor
  ·rintro ⟨i,hi,q⟩;rw [Au,Bm] at hi;rw [<- lS hN hi.1 hr q];exact CG hi.2
  ·exact λk=>⟨r,Au.mpr ⟨Bm.mpr hr,BR k⟩,rfl⟩
 have o:=cL T hz;have nc:S e.1↔S (other n e).1:=by
  refine BX λk=>?_;have D0:∀ y,y∈[z]↔lR n ps y:=λy=>by
   rw [Ae]
   constructor
   ·rintro rfl
    by_cases q:S e.1
    ·exact⟨e,hz,(kR _<|cE hz).mpr q,λq2=>k ⟨λ_=>(kR _<|cE o.1).mp q2,λ_=>q⟩⟩
    ·by_cases q2:S (other n e).1
     ·exact⟨other n e,o.1,(kR _<|cE o.1).mpr q2,by rw [o.2.1];exact λq3=>q<|(kR _<|cE hz).mp q3⟩
     ·exact absurd ⟨λw=>absurd w q,λw=>absurd w q2⟩ k
   ·rintro ⟨x,hx,h1,h2⟩;refine BX λne=>?_;have ox:=cL T hx;exact h2<|(kR _<|cE ox.1).mpr<|cl x y hx ne<|(kR _<|cE hx).mp h1
  have:=YM T ea (DL sa) D0;have e1:(a.filter λy=>[z].contains y)=[z]:=by
   have lD:=DL sa;have h1:(a.filter λy=>[z].contains y).length=a.count z:=by
    rw [List.count,LQ]
    congr 1
    refine Gn λy _=>?_
    by_cases q:y=z
    ·subst q;simp
    ·simp [q]
   rw [List.Nodup.count lD,BL za] at h1
   match hf:a.filter λy=>[z].contains y,h1 with
   | [y],_=>
    have:y∈a.filter (λy=>[z].contains y):=by rw [hf];exact Ae.mpr rfl
    have:=(Au.mp this).2;rw [Da,Ae] at this;rw [this]
  rw [e1] at this;cases this
 intro r hr;have:=hg (λx=>x∈ps) ⟨n[0],Ay h0,by rw [<- b8 h0];exact(kR 0 h0).mpr s0⟩ (λr hr s hs t tr ts k=>?_) n[r]<|Ay hr
 ·rw [<- b8 hr] at this;exact(kR r hr).mp this
 ·obtain⟨i,hi,rfl⟩:=Ba.mp hr;obtain⟨j,hj,rfl⟩:=Ba.mp hs;rw [<- b8 hi] at k;have k:=(kR i hi).mp k;rw [<- b8 hj];refine(kR j hj).mpr ?_;obtain⟨p,hp⟩:=An tr;obtain⟨q,hq⟩:=An ts;have h1:ax n (i,p)=some t:=by show(row n i)[p]?=_;rw [jT hi];exact hp
  have h2:ax n (j,q)=some t:=by show(row n j)[q]?=_;rw [jT hj];exact hq
  rcases (dJ T h1).mp h2 with w | w
  ·have:j=i:=BZ (·.1) w;rw [this];exact k
  ·have e3:j=(other n (i,p)).1:=BZ (·.1) w;rw [e3]
   by_cases fW:t=z
   ·subst fW
    rcases (dJ T hz).mp h1 with u | u
    ·rw [u];exact nc.mp (by have:i=e.1:=BZ (·.1) u;rw [<- this];exact k)
    ·rw [u,o.2.1];exact nc.mpr (by have:i=(other n e).1:=BZ (·.1) u;rw [<- this];exact k)
   ·exact cl (i,p) t h1 fW k
end Nt
namespace A5
open PySem L2 Nt bn
def D1:Sp:=λvs H Q _=>∃(R:Addr) (as:List<|Addr×Addr) (n:Net) (b:Int) (z pt:Str),vs=[.ref R,.int b,.str z,.str pt]/\ai H R as n/\aj n/\Full n/\z∉ag n/\n.length<=100/\(ag n).length<=100 /\
 ∀ i pB n' H',ai H' R pB n'->pk H H' (R :: as.map (·.2))->(∀ a∈pB,a∈as\/H a.2=none)->(ag n').Perm (z :: z :: ag n)->(n'.map (·.1)=n.map (·.1)\/n'.map (·.1)=n.map (·.1)++[pt])->Full n'->(HF n->HF n')->Q (.int i) H'
section
variable{P:Program}{w:World}{K:PySem.W.Frag}{mg:Str->Option Value}{base:Heap}
abbrev NP:List Str:=["_law_rows","_law_big_here","_law_tie","_law_point","_law_corners","_law_r","_law_place","_law_one","_law_kind","_law_face_here","_law_other_here","_law_spot"]
theorem nh:au NP ["_law_rows","_law_big_here","_law_tie","_law_point"] (bj o9):=⟨rfl,rfl,rfl,by decide +kernel,rfl,by decide +kernel,by decide +kernel⟩
theorem NY{ts:List Addr}{j:Nat}{t:Addr}(h:ts[j]?=some t):gj (ts.map V.ref) (j:Int)=some (.ref t):=qC<|by rw [Ag,h];rfl
theorem YX{f:Addr}{fd:FuncData}(F:bW K "_law_put" "_law_put" o9 f fd)(T:Txt mg)
  (GS:bB P w K mg base 3 "_law_seats" ["_law_rows"] wR)
  (GF:bB P w K mg base 3 "_law_face" ["_law_rows","_law_seats_here","_law_end"] wU) :
  aM P w K mg base cf 4 f fd ["_law_rows","_law_big_here","_law_tie","_law_point"] D1:=by
 refine F.gb nh (λvs H Q E h=>?_) λb0 H vs Q E hr h=>?_
 ·obtain⟨R,as,n,b,z,pt,rfl,_⟩:=h;rfl
 obtain⟨R,as,n,b,z,pt,rfl,hR,hT,hF,hz,hn,htn,q⟩:=h;have nd:=nh.nd;have hu:=hr.eN;have bM:=hR.len;show Run _ _ _ [some<|.ref R,some<|.int b,some<|.str z,some<|.str pt,none,none,none,none,none,none,none,none] H;refine a9 4 nd<|du<|ay ⟨Z0,λlc N0=>?_⟩;have g0:=aQ N0<|.lst [];refine jJ T.range (cK dP T.len CT<|ah<|ae 0<|ay ⟨R,_,rfl,.inl<|al.of<|g0 _ _ hR.lst,_,rfl,by omega,by rw [Aa];omega,?_⟩);rw [Aa,bM,Bx];refine jK (λr σ H3=>∃(ts:List Addr) (cs:List Nt.End) (u1 u2:Option V),ak H H3/\H3 lc=some (.lst<|ts.map V.ref)/\Pd H3 ts cs/\(∀ c∈cs,eR n c)/\(0 < r->cs≠[])/\cs.length<=101 * r/\σ=[some<|.ref R,some<|.int b,some<|.str z,some<|.str pt,some<|.ref lc,u1,u2,none,none,none,none,none]) ⟨[],[],_,_,g0,az,.nil,λc hc=>(nomatch hc),λh=>absurd h (by decide),Ao _,rfl⟩ ?_ ?_
 ·rintro r σ H3 hi ⟨ts,cs,u1,u2,sH,el,ep,hc,a7,hlen,rfl⟩;rw [Do];refine bA 5 nd ?_;obtain⟨a,ea,db,et,YY,er⟩:=(hR.same sH).at hi;have D4:=lI n r;refine jJ T.range<|cK (Kl rfl) T.max RZ<|ah<|aF<|ah<|cK dP T.len CT<|ah<|bh cI<|bh dq<|ae 0<|ae 5 ⟨R,_,_,.ref a.1,rfl,rfl,al.of<|sH _ _ hR.lst,db,aF ⟨a.1,_,_,.ref a.2,rfl,rfl,aW.of et,rfl,ay ⟨a.2,_,rfl,.inl<|al.of YY,?_⟩⟩⟩;rw [Aa];have em:(if((row n r).length:Int) > 1 then((row n r).length:Int) else 1)=((max 1 (row n r).length:Nat):Int):=by
   split <;> omega
  refine ay ⟨1,_,rfl,((max 1 (row n r).length:Nat):Int),by rw [em],by omega,by omega,?_⟩;rw [Bx];refine jK (λp σ H4=>∃(ts:List Addr) (cs:List Nt.End) (u2:Option V),ak H H4/\H4 lc=some (.lst<|ts.map V.ref)/\Pd H4 ts cs/\(∀ c∈cs,eR n c)/\(0 < r+p->cs≠[])/\cs.length<=101 * r+p/\σ=[some<|.ref R,some<|.int b,some<|.str z,some<|.str pt,some<|.ref lc,some<|.int (r:Int),u2,none,none,none,none,none]) ⟨ts,cs,_,sH,el,ep,hc,a7,hlen,rfl⟩ ?_ ?_
  ·rintro p σ H4 hp ⟨ts,cs,u2,sH,el,ep,hc,a7,hlen,rfl⟩;rw [Do];refine bA 6 nd ?_;refine fQ<|jr<|ae 4 ⟨lc,rfl,⟨_,el⟩,d7<|ah<|ae 5<|ah<|ae 6<|ay ⟨Z2,λt ht=>?_⟩⟩;have o6:lc≠t:=bP el ht;have s2:=aQ ht<|Tp (r,p);have D5:=ep.length;refine⟨ts.map V.ref,by rw [aw o6];exact el,by rw [Aa];exact cn (by omega),?_⟩;refine a8 ⟨ts++[t],cs++[(r,p)],_,d9 (sH.trans s2) N0,by rw [az,Al];rfl,?_,λc h=>?_,λ_=>by simp,by rw [Ah];simp;omega,rfl⟩
   ·refine Pd.append (ep.keep λx e h=>?_)<|.cons ?_ .nil
    ·rw [aw<|tQ h el];exact s2 _ _ h
    ·rw [aw o6.symm,az]
   ·rcases Ap.mp h with h | h
    ·exact hc c h
    ·rw [Ae] at h;subst h;exact⟨hi,hp⟩
  ·rintro σ H4 ⟨ts,cs,u2,sH,el,ep,hc,a7,hlen,rfl⟩;refine a8 ⟨ts,cs,_,_,sH,el,ep,hc,λ_=>a7 (by omega),by omega,rfl⟩
 rintro σ H3 ⟨ts,cs,u1,u2,sH,el,ep,hc,a7,hlen,rfl⟩;have tu:0 < n.length:=Cj.mpr hF.some;have k8:=a7 tu;have dQ:0 < cs.length:=Cj.mpr k8;have D5:=ep.length;have m0:0<=b % (cs.length:Int):=Cd _ (by omega);have m1:b % (cs.length:Int) < cs.length:=Ch _ (by omega);obtain⟨j,hj⟩:∃ j:Nat,b % (cs.length:Int)=j:=⟨(b % (cs.length:Int)).toNat,by omega⟩;have pq:j < cs.length:=by omega
 have YZ:cs[j]?=some cs[j]:=Ab pq;obtain⟨t1,xq,e1⟩:=ep.at YZ;have iz:eR n cs[j]:=hc _<|Ay pq;generalize cs[j]=c1 at e1 iz;refine a9 7 nd<|bh dq<|ae 4<|aX dk<|ae 1<|cK dP T.len CT<|ah<|ae 4<|ay ⟨lc,_,rfl,.inl<|al.of el,?_⟩;rw [Aa,D5];refine⟨_,_,rfl,rfl,by omega,lc,_,_,.ref t1,rfl,rfl,al.of el,by rw [hj];exact NY xq,?_⟩;refine a9 1 nd<|aX iD<|ae 1<|cK dP T.len CT<|ah<|ae 4<|ay ⟨lc,_,rfl,.inl<|al.of el,?_⟩;rw [Aa,D5];refine⟨_,_,rfl,rfl,⟨by omega,by omega⟩,?_⟩;show Run _ _ _ [some<|.ref R,some<|.int<|b / (cs.length:Int),some<|.str z,some<|.str pt,some<|.ref lc,u1,u2,some<|.ref t1,none,none,none,none] H3;generalize b / (cs.length:Int)=b2;refine a9 8 nd (aX dk<|ae 1<|aF ⟨_,_,rfl,rfl,(by show(0:Int) < 3;decide),?_⟩);refine a9 1 nd (aX iD<|ae 1<|aF ⟨_,_,rfl,rfl,⟨by decide,by decide⟩,?_⟩);show Run _ _ _ [some<|.ref R,some<|.int<|b2 / 3,some<|.str z,some<|.str pt,some<|.ref lc,u1,u2,some<|.ref t1,some<|.int<|b2 % 3,none,none,none] H3;generalize b2 / 3=b3;have jx:=hR.same sH;obtain⟨a,ea,db,eta,N2,era⟩:=jx.at iz.1;have N3:∀(m:Net),(ag m).length<=200->∀ i,(row m i).length<=200:=λm h i=>Cp (lI m i) h;have cin:c1.2<=(row n c1.1).length:=by
  have:=iz.2;omega
 refine gq<|dv g9<|ae 8<|aF ⟨rfl,_,rfl,?_⟩;refine iX (λ_=>?_) λ_=>a8 ?_
 ·
  have rl:=lI n c1.1;refine fQ<|wA CZ QM QS Mh<|bh cI<|bh dq<|ae 0<|bh cI<|ae 7<|aF ⟨t1,_,_,.int (c1.1:Int),rfl,rfl,aW.of e1,rfl,R,_,_,.ref a.1,rfl,rfl,al.of jx.lst,db,aF ⟨a.1,_,_,.ref a.2,rfl,rfl,aW.of eta,rfl,Or.inl ⟨rfl,_,al.of N2⟩,?_⟩⟩;refine bh cI (ae 7<|aF ⟨t1,_,_,.int (c1.2:Int),rfl,rfl,aW.of e1,rfl,ae 2 ⟨a.2,_,_,_,rfl,rfl,N2,by omega,by rw [Bx,Aa];exact cin,by rw [Aa];exact cn (by omega),?_⟩⟩);rw [Bx,MC];have R4:=jx.ins (z:=z) ea iz.1;refine fQ<|jr<|ae 0 ⟨R,rfl,⟨_,R4.lst⟩,d7<|ah<|ae 3<|ah<|du<|ah<|ae 2<|ay ⟨Z1,λl1 kS=>?_⟩⟩;refine ay ⟨Z2,λt2 cU=>?_⟩;have s5:=aQ kS<|Ls [z];have s6:=aQ cU<|.tup [.str pt,.ref l1];have R6:=(R4.same s5).same s6;refine⟨_,R6.lst,by rw [Aa];exact cn (by omega),?_⟩;have Y0:H3 l1=none:=by
   by_cases q1:l1=a.2
   ·rw [q1,az] at kS;cases kS
   ·rwa [aw q1] at kS
  have Y1:l1∉as.map (·.2):=λhm=>by
   obtain⟨x,hx,e⟩:=Aj.mp hm;exact R4.fresh kS hx e.symm
  have Y2:l1≠R:=λe=>by rw [e,R4.lst] at kS;cases kS
  have R7:=R6.more (t:=t2) (l:=l1) (pt:=pt) (zs:=[z]) az (s6 _ _ az) Y1 Y2;have tp:(ag<|ins n c1 z++[(pt,[z])]).Perm (z :: z :: ag n):=by
   unfold ag;rw [Dk];show(ag (ins n c1 z)++[z]).Perm _;exact(Cm).trans<|(kK n c1 z iz.1).cons z
  refine cD<|ae 1<|q _ _ _ _ R7 (λx o hx j3=>?_) (λx hx=>?_) tp (.inr ?_) ?_ λhP=>YR hT hF hz iz tp hP
  ·have x1:x≠R:=λe=>j3 (by rw [e];exact Ac);have x2:x≠a.2:=λe=>j3 (Af _<|by rw [e];exact Aj.mpr ⟨a,Ak ea,rfl⟩);rw [aw x1];refine s6 _ _<|s5 _ _ ?_;rw [aw x2];exact sH _ _ hx
  ·rcases Ap.mp hx with hx | hx
   ·exact .inl hx
   ·rw [Ae] at hx;subst hx;exact .inr<|sH.free Y0
  ·rw [Al,CL];rfl
  ·refine .inr ⟨by simp,λi hi=>?_⟩;have Y3:=(CM (z:=z) hF iz.1 hF.either).1;rw [Ah] at hi;simp at hi
   rcases Fa i (ins n c1 z).length with h | h
   ·have:=Y3 i h;unfold row at this ⊢;rw [Bp h];exact this
   ·unfold row;rw [Bs h,show i - (ins n c1 z).length=0 by omega];simp
 ·
  refine a9 9 nd<|du<|ah<|ae 7<|ay ⟨Z1,λlf N4=>?_⟩;have s4:=aQ N4<|.lst [.ref t1];have sH4:=sH.trans s4;have gW:=jx.same s4;obtain⟨a0,D6,pC,uh,nr,N5⟩:=gW.at tu;have Y4:∀ x∈as,lf≠x.2:=λx hx=>jx.fresh N4 hx;show Run _ _ _ [some<|.ref R,some<|.int b3,some<|.str z,some<|.str pt,some<|.ref lc,u1,u2,some<|.ref t1,some<|.int<|b2 % 3,some<|.ref lf,none,none] (upd H3 lf<|.lst [.ref t1]);refine Mk (λk H'=>ak (upd H3 lf<|.lst [.ref t1]) H'/\(k=true->row n 0≠[])) (λσ' H'=>∃(lf:Addr) (kJ:List Addr) (fs:List Nt.End),ak H3 H'/\(∀ x∈as,lf≠x.2)/\H' lf=some (.lst<|kJ.map V.ref)/\Pd H' kJ fs/\0 < fs.length/\fs.length<=1000/\(∀ c∈fs,eR n c/\∃ k,it (step n) k c1=c) /\
   σ'=[some<|.ref R,some<|.int b3,some<|.str z,some<|.str pt,some<|.ref lc,u1,u2,some<|.ref t1,some<|.int<|b2 % 3,some<|.ref lf,none,none]) ?_ ?_ (λH5 ⟨s5,_⟩=>a8 ⟨lf,[t1],[c1],s4.trans s5,Y4,s5 _ _ az,.cons (s5 _ _<|s4 _ _ e1) .nil,Nat.one_pos,by show 1<=1000;decide,λc ui=>by rw [Ae] at ui;rw [ui];exact⟨iz,0,rfl⟩,rfl⟩) ?_
  ·refine dv (tL hu)<|bh cI<|bh dq<|ae 0<|aF ⟨R,_,_,.ref a0.1,rfl,rfl,al.of gW.lst,pC,aF ⟨a0.1,_,_,.ref a0.2,rfl,rfl,aW.of uh,rfl,du<|ay ⟨Z0,λp hp=>?_⟩⟩⟩;have s5:=aQ hp<|.lst []
   by_cases h0:row n 0=[]
   ·refine⟨1,_,by decide,wy (k:=0) (xs:=[]) (ys:=[]) (λ_=>true) (al.of<|by rw [s5 _ _ nr,h0];rfl) (al.of az) rfl (λj x y hx _=>by simp at hx),_,rfl,s5,λh=>by cases h⟩
   ·refine⟨1,_,by decide,A4 (k:=1) (al.of<|s5 _ _ nr) (al.of (xs:=[]) az) (by rw [Aa];intro h;exact h0<|Bk.mp h),_,rfl,s5,λ_=>h0⟩
  ·rintro H4 ⟨D7,h0⟩;have h0:=h0 rfl;have gW:=gW.same D7;have xg:=hF.cN h0 iz;have pD:=ik n;refine a9 9 nd (bY GF hr<|ah<|ae 0<|ah<|bY GS hr<|ah<|ae 0<|ay ⟨R,as,n,rfl,gW,by omega,by omega,λd ks H5 s5 n5 S5=>?_⟩);refine ah (ae 7<|ay ⟨R,d,t1,as,n,ks,c1,rfl,gW.same s5,S5,hT,s5 _ _<|D7 _ _<|s4 _ _ e1,xg,by omega,λl6 Y5 Y6 H6 s6 n6 e6 p6 f6=>?_⟩);exact a8 ⟨l6,Y5,Y6,s4.trans<|D7.trans<|s5.trans s6,λx hx=>(gW.same s5).fresh n6 hx,e6,p6,f6.pos,by have:=f6.len;omega,λc ui=>⟨W6<|f6.ends hT xg c ui,Nm f6 ui⟩,rfl⟩
  ·rintro σ' H5 ⟨lf,kJ,fs,s5,Y7,D8,N6,Y8,Y9,D9,rfl⟩;have uj:=N6.length;have n0:0<=b3 % (fs.length:Int):=Cd _ (by omega);have n1:b3 % (fs.length:Int) < fs.length:=Ch _ (by omega);obtain⟨j2,lT⟩:∃ j:Nat,b3 % (fs.length:Int)=j:=⟨(b3 % (fs.length:Int)).toNat,by omega⟩;have uk:j2 < fs.length:=by omega
   have EA:fs[j2]?=some fs[j2]:=Ab uk;obtain⟨t2,Y',e2⟩:=N6.at EA;obtain⟨pE,xt⟩:=D9 _<|Ay uk;generalize fs[j2]=c2 at e2 pE xt;have oU:=s5 _ _ e1;refine a9 10 nd<|bh dq<|ae 9<|aX dk<|ae 1<|cK dP T.len CT<|ah<|ae 9<|ay ⟨lf,_,rfl,.inl<|al.of D8,?_⟩;rw [Aa,uj];refine⟨_,_,rfl,rfl,by omega,lf,_,_,.ref t2,rfl,rfl,al.of D8,by rw [lT];exact NY Y',?_⟩;have lU:=jx.same s5;show Run _ _ _ [some<|.ref R,some<|.int b3,some<|.str z,some<|.str pt,some<|.ref lc,u1,u2,some<|.ref t1,some<|.int<|b2 % 3,some<|.ref lf,some<|.ref t2,none] H5;refine jn<|Wy T.sorted<|du<|ah<|ae 7<|ah<|ae 10<|ay ⟨Z2,λl2 fk=>?_⟩;have s6:=aQ fk<|.lst [.ref t1,.ref t2];refine⟨l2,t1,t2,(c1.1:Int),(c1.2:Int),(c2.1:Int),(c2.2:Int),rfl,az,s6 _ _ oU,s6 _ _ e2,λrr N7=>?_⟩;have rn:∀ x∈as,rr≠x.2:=λx hx=>(lU.same s6).fresh N7 hx;obtain⟨x1,x2,k1,k2,lV,f1,f2,q1,q2,EB,um⟩:∃ x1 x2 k1 k2,(if lexLt ((c1.1:Int),(c1.2:Int)) ((c2.1:Int),(c2.2:Int))=true then [V.ref t2,.ref t1] else [.ref t1,.ref t2])=[.ref x1,.ref x2]/\(upd H5 l2<|.lst [.ref t1,.ref t2]) x1=some (Tp k1)/\(upd H5 l2<|.lst [.ref t1,.ref t2]) x2=some (Tp k2)/\eR n k1/\eR n k2/\(k2=k1\/sh k1 k2=k2)/\((∃ k,it (step n) k k1=k2)\/∃ k,it (step n) k k2=k1):=by
    cases N8:lexLt ((c1.1:Int),(c1.2:Int)) ((c2.1:Int),(c2.2:Int)) with
    | true=>exact⟨t2,t1,c2,c1,rfl,s6 _ _ e2,s6 _ _ oU,pE,iz,.inr<|X8 N8,.inr xt⟩
    | false=>exact⟨t1,t2,c1,c2,rfl,s6 _ _ oU,s6 _ _ e2,iz,pE,X9 N8,.inl xt⟩
   rw [lV];have s7:=aQ N7<|.lst [.ref x1,.ref x2];have f1:=s7 _ _ f1;have f2:=s7 _ _ f2;have s6:=s6.trans s7;have fr:=az (H:=upd H5 l2<|.lst [.ref t1,.ref t2]) (a:=rr) (o:= .lst [.ref x1,.ref x2]);generalize upd (upd H5 l2<|.lst [.ref t1,.ref t2]) rr (.lst [.ref x1,.ref x2])=H6 at f1 f2 s6 fr ⊢;have uo:ak H H6:=sH.trans<|s5.trans s6;have xu:=lU.same s6;have uq:pk H H6 (R :: as.map (·.2)):=λx o hx _=>uo _ _ hx;refine⟨rr,rfl,⟨_,al.of fr⟩,jo (xs:=[.ref x1,.ref x2]) (λi σ H7=>∃(m:Net) (u:Option V),ai H7 R as m/\pk H H7 (R :: as.map (·.2))/\H7 rr=some (.lst [.ref x1,.ref x2])/\H7 lf=some (.lst<|kJ.map V.ref)/\H7 x1=some (Tp k1)/\H7 x2=some (Tp k2) /\
    ((i=0/\m=n)\/(i=1/\m=ins n k1 z)\/(i=2/\m=ins (ins n k1 z) k2 z))/\σ=[some<|.ref R,some<|.int b3,some<|.str z,some<|.str pt,some<|.ref lc,u1,u2,some<|.ref t1,some<|.int<|b2 % 3,some<|.ref lf,some<|.ref t2,u]) ⟨n,_,xu,uq,fr,s6 _ _ D8,f1,f2,.inl ⟨rfl,rfl⟩,rfl⟩ ?_ ?_ ?_⟩
   ·rintro i σ H7 _ ⟨m,u,_,_,xA,_⟩;exact al.of xA
   ·rintro i v σ H7 hv ⟨m,u,ur,EC,xA,ED,g1,g2,hm,rfl⟩;have Za:=(kK n k1 z q1.1).length_eq;rw [Ax] at Za;obtain⟨y,k,rfl,hy,hk,gF,Zb⟩:∃ y k,v = .ref y/\H7 y=some (Tp k)/\eR m k/\((i+1=0/\ins m k z=n)\/(i+1=1/\ins m k z=ins n k1 z)\/(i+1=2/\ins m k z=ins (ins n k1 z) k2 z))/\(ag m).length<=200:=by
     rcases hm with ⟨rfl,rfl⟩ | ⟨rfl,rfl⟩ | ⟨rfl,rfl⟩
     ·cases hv;exact⟨x1,k1,rfl,g1,q1,.inr<|.inl ⟨rfl,rfl⟩,by omega⟩
     ·cases hv;exact⟨x2,k2,rfl,g2,wV q2 q1.1,.inr<|.inr ⟨rfl,rfl⟩,by omega⟩
     ·simp at hv
    refine bA 11 nd ?_;obtain⟨a',N9,EE,EF,lW,Zc⟩:=ur.at hk.1;have rl:=lI m k.1;have ou:k.2<=(row m k.1).length:=by
     have:=hk.2;omega
    refine fQ<|wA CZ QM QS Mh<|bh cI<|bh dq<|ae 0<|bh cI<|ae 11<|aF ⟨y,_,_,.int (k.1:Int),rfl,rfl,aW.of hy,rfl,R,_,_,.ref a'.1,rfl,rfl,al.of ur.lst,EE,aF ⟨a'.1,_,_,.ref a'.2,rfl,rfl,aW.of EF,rfl,Or.inl ⟨rfl,_,al.of lW⟩,?_⟩⟩;refine bh cI (ae 11<|aF ⟨y,_,_,.int (k.2:Int),rfl,rfl,aW.of hy,rfl,ae 2 ⟨a'.2,_,_,_,rfl,rfl,lW,by omega,by rw [Bx,Aa];exact ou,by rw [Aa];exact cn (by omega),?_⟩⟩);rw [Bx,MC];have am:a'∈as:=Ak N9;refine a8 ⟨ins m k z,_,ur.ins N9 hk.1,λx o hx j3=>?_,by rw [aw<|rn a' am];exact xA,by rw [aw<|Y7 a' am];exact ED,by rw [aw<|tQ g1 lW];exact g1,by rw [aw<|tQ g2 lW];exact g2,gF,rfl⟩;have x2:x≠a'.2:=λe=>j3 (Af _<|by rw [e];exact Aj.mpr ⟨a',am,rfl⟩);rw [aw x2];exact EC x o hx j3
   ·rintro σ H7 ⟨m,u,ur,EC,xA,ED,g1,g2,hm,rfl⟩;have em:m=ins (ins n k1 z) k2 z:=by
     rcases hm with ⟨h,_⟩ | ⟨h,_⟩ | ⟨_,h⟩
     ·exact absurd h<|by show ¬(2=0);decide
     ·exact absurd h<|by show ¬(2=1);decide
     ·exact h
    refine cD<|aX iD<|ae 1<|cK dP T.len CT<|ah<|ae 9<|ay ⟨lf,_,rfl,.inl<|al.of ED,?_⟩;rw [Aa,uj];refine⟨_,_,rfl,rfl,⟨by omega,by omega⟩,?_⟩;have fi:=CM (z:=z) hF q1.1 hF.either;have F2:Full (ins n k1 z):= .inr ⟨fi.2,fi.1⟩;have Oa:=CM (z:=z) F2 (wV (z:=z) q2 q1.1).1 F2.either;subst em;exact q _ as _ H7 ur EC (λx hx=> .inl hx) ((kK _ k2 z (wV (z:=z) q2 q1.1).1).trans<|(kK n k1 z q1.1).cons z) (.inl<|by rw [CL,CL]) (.inr ⟨Oa.2,Oa.1⟩) λhP=>YS hT hF hz q1 q2 ((kK _ k2 z (wV (z:=z) q2 q1.1).1).trans<|(kK n k1 z q1.1).cons z) EB um hP
def EG:Sp:=λvs H Q _=>∃(b m sm:Int),vs=[.int b,.int m,.int sm]/\0<=m/\m<=35 /\
 ∀ L as n H',ak H H'->H L=none->ai H' L as n->aj n->(n.map (·.1)).Nodup->Full n->HF n->(ag n).length<=2 * m.toNat->2 * (b % (m+1)).toNat=(ag n).length->n.length<=m.toNat+1->(∀ a∈as,H a.2=none)->Q (.ref L) H'
abbrev NB:List Str:=["_law_big_here","_law_most","_law_stem","_law_many","_law_ties_here","_law_points","_law_rows","_law_k","_law_told","_law_row","_law_size"]
theorem nE:au NB ["_law_big_here","_law_most","_law_stem"] (bj pd):=⟨rfl,rfl,rfl,by decide +kernel,rfl,by decide +kernel,by decide +kernel⟩
theorem Zd{H:Hp}{d:Addr}{xs:List V}(h:H d=some (.lst xs)):mD K "list" (.ref d) H:=Or.inl ⟨rfl,xs,al.of h⟩
theorem ng{b:Int}{m i:Nat}(h:i < m):gj ((namesOf b m).map V.str) (i:Int)=some (.str<|aP b i):=tP<|WN h
theorem Zf{f:Addr}{fd:FuncData}(F:bW K "_law_net_by" "_law_net_by" pd f fd)(T:Txt mg)
  (GN:bB P w K mg base 4 "_law_names" ["_law_stem","_law_many"] CD)
  (GP:bB P w K mg base 4 "_law_put" ["_law_rows","_law_big_here","_law_tie","_law_point"] D1) :
  aM P w K mg base cf 5 f fd ["_law_big_here","_law_most","_law_stem"] EG:=by
 refine F.gb nE (λvs H Q E h=>?_) λb0 H vs Q E hr h=>?_
 ·obtain⟨b,m,sm,rfl,_⟩:=h;rfl
 obtain⟨b,m,sm,rfl,m0,m35,q⟩:=h;have nd:=nE.nd;have hu:=hr.eN;have k0:0<=b % (m+1):=Cd _ (by omega);have k1:b % (m+1) < m+1:=Ch _ (by omega);obtain⟨mn,Ob⟩:∃ k:Nat,b % (m+1)=k:=⟨(b % (m+1)).toNat,by omega⟩;have hmm:mn<=m.toNat:=by omega
 show Run _ _ _ [some<|.int b,some<|.int m,some<|.int sm,none,none,none,none,none,none,none,none] H;refine a9 3 nd<|aX dk<|ae 0<|aX fK<|ae 1<|aF ⟨_,_,rfl,rfl,?_⟩;refine⟨_,_,rfl,rfl,(by show 0 < m+1;omega),?_⟩;refine a9 0 nd<|aX iD<|ae 0<|aX fK<|ae 1<|aF ⟨_,_,rfl,rfl,?_⟩;refine⟨_,_,rfl,rfl,(by show sv b (m+1);exact⟨by omega,by omega⟩),?_⟩;show Run _ _ _ [some<|.int<|b / (m+1),some<|.int m,some<|.int sm,some<|.int<|b % (m+1),none,none,none,none,none,none,none] H;rw [Ob];generalize b / (m+1)=b1;refine a9 4 nd (bY GN hr<|ah<|ae 2<|ah<|ae 3<|ay ⟨sm,(mn:Int),rfl,by omega,by omega,λlt H1 s1 n1 e1=>?_⟩);rw [Bx] at e1;refine a9 5 nd (bY GN hr<|ah<|bh dq<|du<|ah<|aX fK<|aX iD<|ae 2<|aF ⟨_,_,rfl,rfl,⟨by decide,by decide⟩,aF ⟨_,_,rfl,rfl,ah<|ae 2<|ay ⟨Z2,λp hp=>?_⟩⟩⟩);refine oQ Mj T.tU RX (ah<|mI g9<|aX dk<|ae 2<|aF ⟨_,_,rfl,rfl,(by show(0:Int) < 4;decide),aF ⟨rfl,ay ⟨_,rfl,?_⟩⟩⟩);have s2:=aQ hp<|.lst [.int<|sm / 3+1,.int sm];obtain⟨jy,ex⟩:∃ jy:Int,gj [V.int<|sm / 3+1,.int sm] (if decide (V.int (sm % 4)=V.int 1)=true then 1 else 0)=some (.int jy):=by
  cases decide (V.int (sm % 4)=V.int 1) with
  | true=>exact⟨sm,rfl⟩
  | false=>exact⟨sm / 3+1,rfl⟩
 refine⟨p,_,_,.int jy,rfl,rfl,al.of az,ex,?_⟩;refine ah (aX fK<|ae 3<|aF ⟨_,_,rfl,rfl,ay ⟨jy,(mn:Int)+1,rfl,by omega,by omega,λlp H2 s3 n3 e3=>?_⟩⟩);have em:((mn:Int)+1).toNat=mn+1:=by omega
 rw [em] at e3;have rq:ak H H2:=s1.trans<|s2.trans s3;have e1:H2 lt=some (Ls<|namesOf sm mn):=s3 _ _<|s2 _ _ e1;show Run _ _ _ [some<|.int b1,some<|.int m,some<|.int sm,some<|.int (mn:Int),some<|.ref lt,some<|.ref lp,none,none,none,none,none] H2;refine a9 6 nd<|du<|ah<|d7<|ah<|bh dq<|ae 5<|aF ⟨lp,_,_,.str<|aP jy 0,rfl,rfl,al.of e3,ng<|Nat.succ_pos _,ah<|du<|ay ⟨Z0,λl1 kS=>?_⟩⟩;refine ay ⟨Z2,λt1 rC=>ay ⟨Z1,λR xB=>?_⟩⟩;have s4:=aQ kS<|Ls [];have s5:=aQ rC<|.tup [.str<|aP jy 0,.ref l1];have s6:=aQ xB<|.lst [.ref t1];have Zg:ai (upd (upd (upd H2 l1<|.lst []) t1<|.tup [.str<|aP jy 0,.ref l1]) R<|.lst [.ref t1]) R [(t1,l1)] [(aP jy 0,[])]:=by
  refine⟨rfl,az,λi a r h1 h2=>?_,by simp⟩;cases i with
  | zero=>
   cases h1;cases h2;exact⟨s6 _ _ az,s6 _ _<|s5 _ _ az⟩
  | succ i=>simp at h1
 have fR:H2 R=none:=s4.free<|s5.free xB;show Run _ _ _ [some<|.int b1,some<|.int m,some<|.int sm,some<|.int (mn:Int),some<|.ref lt,some<|.ref lp,some<|.ref R,none,none,none,none] (upd (upd (upd H2 l1<|.lst []) t1<|.tup [.str<|aP jy 0,.ref l1]) R<|.lst [.ref t1]);refine jJ T.range (ae 3 ⟨(mn:Int),rfl,by omega,by omega,?_⟩);rw [Bx];refine jK (λk σ H3=>∃(as:List<|Addr×Addr) (n:Net) (b:Int) (u:Option V),ai H3 R as n/\ak H2 H3/\(∀ a∈as,H2 a.2=none)/\Full n/\HF n/\(ag n).Perm (dbl<|namesOf sm k)/\n.map (·.1)=namesOf jy n.length/\n.length<=k+1 /\
  σ=[some<|.int b,some<|.int m,some<|.int sm,some<|.int (mn:Int),some<|.ref lt,some<|.ref lp,some<|.ref R,u,none,none,none]) ⟨_,_,b1,_,Zg,s4.trans<|s5.trans s6,λa ha=>by rw [Ae] at ha;rw [ha];exact kS,.inl ⟨_,rfl⟩,YQ,List.Perm.refl _,rfl,Ao _,rfl⟩ ?_ ?_
 ·rintro k σ H3 hk ⟨as,n,b,u,hR,sH,iH,hF,xC,hp,xD,hlen,rfl⟩;rw [Do];refine bA 7 nd ?_;have bM:=hR.len;have tl:=hp.length_eq;rw [CU,BG] at tl;have nz:aP sm k∉ag n:=λh=>by
   have h1:=iM.mp<|hp.mem_iff.mp h;have h2:=wI (b:=sm) (m:=k+1) (by omega);rw [wJ,Ce] at h2;exact h2.2.2 _ h1 _ (Ae.mpr rfl) rfl
  have n0:0 < n.length:=Cj.mpr hF.some;refine a9 0 nd<|bY GP hr<|ah<|ae 6<|ah<|ae 0<|ah<|bh dq<|ae 4<|ae 7 ⟨lt,_,_,.str<|aP sm k,rfl,rfl,al.of<|sH _ _ e1,ng hk,?_⟩;refine ah<|bh dq<|ae 5<|cK dP T.len CT<|ah<|ae 6<|ay ⟨R,_,rfl,.inl<|al.of hR.lst,?_⟩;rw [Aa,bM];refine⟨lp,_,_,.str<|aP jy n.length,rfl,rfl,al.of<|sH _ _ e3,ng (by omega),?_⟩;refine ay ⟨R,as,n,b,aP sm k,aP jy n.length,rfl,hR,MD (wI<|by omega) hp,hF,nz,by omega,by omega,λi pB n' H' xE kp EH kU ut Zh EI=>?_⟩;have Zi:ak H2 H':=λx o hx=>by
   refine kp x o (sH _ _ hx) λhm=>?_
   rcases Am.mp hm with h | h
   ·rw [h,fR] at hx;cases hx
   ·obtain⟨y,hy,e⟩:=Aj.mp h;rw [<- e,iH y hy] at hx;cases hx
  refine a8 ⟨pB,n',i,_,xE,Zi,λy hy=>?_,Zh,EI xC,?_,?_,?_,rfl⟩
  ·rcases EH y hy with h | h
   ·exact iH y h
   ·exact sH.free h
  ·refine kU.trans ?_;rw [wJ,W8];refine List.Perm.trans ?_ Cm;exact((hp.cons _).cons _)
  ·rcases ut with h | h
   ·have hl:=BZ List.length h;rw [Aa,Aa] at hl;rw [h,hl];exact xD
   ·have hl:=BZ List.length h;rw [Aa,Ah,Aa] at hl;have qZ:n'.length=n.length+1:=hl;rw [h,qZ,wJ,xD]
  ·rcases ut with h | h
   ·have hl:=BZ List.length h;rw [Aa,Aa] at hl;omega
   ·have hl:=BZ List.length h;rw [Aa,Ah,Aa] at hl;have qZ:n'.length=n.length+1:=hl;omega
 rintro σ H3 ⟨Zj,n0,b,u,hR,sH,iH,hF,EJ,hp,xD,hlen,rfl⟩;have tl:=hp.length_eq;rw [CU,BG] at tl;have Oc:aj n0:=MD (wI<|by omega) hp;have Zk:(n0.map (·.1)).Nodup:=by rw [xD];exact wI<|by omega
 refine a9 8 nd<|du<|ay ⟨Z0,λL hL=>?_⟩;have s7:=aQ hL<|.lst [];have Od:R≠L:=bP hR.lst hL;have fL:H2 L=none:=sH.free hL;have Zm:ai (upd H3 L<|.lst []) L [] []:=⟨rfl,az,λi a r h1=>by simp at h1,by simp⟩;refine wB (λk σ H4=>∃(as jz:List<|Addr×Addr) (n n2:Net) (b:Int) (u9 Oe:Option V),k=n.length/\ai H4 R as n/\ai H4 L jz n2/\ak H2 H4/\(∀ a∈as,a.2≠L)/\(∀ a∈jz,a.2≠R)/\(∀ a∈jz,H2 a.2=none)/\n.length+n2.length=n0.length /\
   (ag n++ag n2).Perm (ag n0)/\(n.map (·.1)++n2.map (·.1)).Perm (n0.map (·.1))/\(NE n0->NE n/\NE n2)/\HF (n++n2) /\
   σ=[some<|.int b,some<|.int m,some<|.int sm,some<|.int (mn:Int),some<|.ref lt,some<|.ref lp,some<|.ref R,u,some<|.ref L,u9,Oe])
  (m0:=n0.length) ⟨Zj,[],n0,[],b,_,_,rfl,hR.same s7,Zm,sH.trans s7,λa ha=>(hR.fresh hL ha).symm,λa ha=>(nomatch ha),λa ha=>(nomatch ha),rfl,by simp [ag],by simp,λh=>⟨h,λr hr=>(nomatch hr)⟩,by rw [Bc];exact EJ,rfl⟩ ?_
 rintro k σ H4 ⟨as,jz,n,n2,b,u9,Oe,rfl,hR,kW,sH,aL,aR,Og,uv,pt,pn,a7,xC,rfl⟩;have bM:=hR.len;have EK:=kW.len;have Zn:(ag n).length<=70:=by
  have:=pt.length_eq;rw [Ah] at this;omega
 refine dv (tL hu)<|ae 6<|du<|ay ⟨Z0,λp gP=>?_⟩;have s8:=aQ gP<|.lst []
 by_cases h0:n=[]
 ·subst h0;have ea:as=[]:=Bk.mp (by simpa using bM);subst ea;refine⟨1,_,by decide,wy (k:=0) (xs:=[]) (ys:=[]) (λ_=>true) (al.of<|s8 _ _ hR.lst) (al.of az) rfl (λj x y hx _=>by simp at hx),_,rfl,cM<|cD<|ae 8 ?_⟩;have fV:(ag n2).Perm (ag n0):=pt;have Zo:(n2.map (·.1)).Perm (n0.map (·.1)):=pn;have l2:n2.length=n0.length:=by simpa using uv
  refine q L jz n2 _ (rq.trans<|sH.trans s8) (rq.free fL) (kW.same s8) (λz hz=>?_) (Zo.nodup_iff.mpr Zk) ?_ xC (by rw [fV.length_eq];omega) (by rw [fV.length_eq,Ob];omega) (by omega) λa ha=>rq.free<|Og a ha
  ·rw [fV.count_eq];exact Oc z<|fV.mem_iff.mp hz
  ·rcases hF.ne with ⟨nm,h⟩ | h
   ·subst h;have t0:ag n2=[]:=QK fV
    match n2,l2,t0 with
    | [(nm2,zs)],_,t0=>
     have:zs=[]:=by simpa [ag] using t0
     subst this;exact .inl ⟨_,rfl⟩
   ·refine W9 (a7 h).2 λe=>?_;rw [e] at l2;exact hF.some<|Bk.mp l2.symm
 ·have np:0 < n.length:=Cj.mpr h0;refine⟨1,_,by decide,A4 (k:=1) (al.of<|s8 _ _ hR.lst) (al.of (xs:=[]) az) (by rw [Aa,bM];exact Dc np),_,rfl,cB ?_⟩;have hR:=hR.same s8;have kW:=kW.same s8;have sH:=sH.trans s8;generalize upd H4 p (.lst [])=H5 at hR kW sH ⊢;have r0:0<=b % (n.length:Int):=Cd _ (by omega);have r1:b % (n.length:Int) < n.length:=Ch _ (by omega);obtain⟨j,hj⟩:∃ k:Nat,b % (n.length:Int)=k:=⟨(b % (n.length:Int)).toNat,by omega⟩;have pF:j < n.length:=by omega
  obtain⟨a,ea,db,et,el,er⟩:=hR.at pF;refine a9 9 nd<|A7 CZ KH KJ Uu<|ae 6 ⟨Zd hR.lst,aX dk<|ae 0<|cK dP T.len CT<|ah<|ae 6<|ay ⟨R,_,rfl,.inl<|al.of hR.lst,?_⟩⟩;rw [Aa,bM];refine⟨_,_,rfl,rfl,by omega,R,_,_,j,.ref a.1,rfl,rfl,hR.lst,by rw [hj];omega,by rw [hj];omega,?_,?_,?_⟩
  ·rw [hj,Aa,bM];unfold seqIndex?;have c1:¬((j:Int) < 0):=by omega
   simp only [c1,CW];have c2:(decide (0<=(j:Int)) && decide ((j:Int) < (n.length:Int)))=true:=by
    rw [Cf,CN,CN];omega
   rw [BL c2,Bx]
  ·rw [Ag,ea];rfl
  have R6:=hR.erase pF;have am:a∈as:=Ak ea;have EL:∀ x∈as,x.2≠R:=λx hx e=>by
   obtain⟨zs,e2⟩:=hR.lists hx;have h3:=hR.lst;rw [<- e,e2] at h3;have h4:=HO.lst.inj<|Option.some.inj h3;cases as with
   | nil=>cases hx
   | cons b' bs=>
    cases zs with
    | nil=>simp at h4
    | cons y r=>simp at h4
  have L6:=kW.upd (o:= .lst<|(as.map λa=>V.ref a.1).eraseIdx j) hR.lst Od.symm aR;have uw:(upd H5 R<|.lst<|(as.map λa=>V.ref a.1).eraseIdx j) a.1=some (.tup [.str n[j].1,.ref a.2]):=by rw [aw<|eF et hR.lst λe=>nomatch e];exact et
  have xF:(upd H5 R<|.lst<|(as.map λa=>V.ref a.1).eraseIdx j) a.2=some (Ls<|row n j):=by rw [aw<|EL a am];exact el
  have uo:ak H2 (upd H5 R<|.lst<|(as.map λa=>V.ref a.1).eraseIdx j):=d9 sH fR;generalize upd H5 R (.lst<|(as.map λa=>V.ref a.1).eraseIdx j)=H6 at R6 L6 uw xF uo ⊢;have Zq:=R6.len;have pG:(n.eraseIdx j).length=n.length - 1:=by rw [Dr,BL pF]
  refine a9 0 nd<|aX iD<|ae 0<|aX fK<|cK dP T.len CT<|ah<|ae 6<|ay ⟨R,_,rfl,.inl<|al.of R6.lst,aF ⟨_,_,rfl,rfl,?_⟩⟩;rw [Aa,Zq,pG];refine⟨_,_,rfl,rfl,⟨by omega,by omega⟩,?_⟩;have Zr:=lI n j;refine a9 10 nd<|cK (Kl rfl) T.max RZ<|ah<|aF<|ah<|cK dP T.len CT<|ah<|bh cI<|ae 9<|aF ⟨a.1,_,_,.ref a.2,rfl,rfl,aW.of uw,rfl,ay ⟨a.2,_,rfl,.inl<|al.of xF,?_⟩⟩;rw [Aa];refine ay ⟨1,_,rfl,?_⟩;have Zt:(if((row n j).length:Int) > 1 then((row n j).length:Int) else 1)=((max 1 (row n j).length:Nat):Int):=by
   split <;> omega
  rw [Zt];show Run _ _ _ [some<|.int<|b / ((n.length - 1:Nat)+1:Int),some<|.int m,some<|.int sm,some<|.int (mn:Int),some<|.ref lt,some<|.ref lp,some<|.ref R,u,some<|.ref L,some<|.ref a.1,some<|.int ((max 1 (row n j).length:Nat):Int)] H6;generalize b / ((n.length - 1:Nat)+1:Int)=b2;have z0:0<=b2 % ((max 1 (row n j).length:Nat):Int):=Cd _ (by omega);obtain⟨i,hi⟩:∃ k:Nat,b2 % ((max 1 (row n j).length:Nat):Int)=k:=⟨(b2 % ((max 1 (row n j).length:Nat):Int)).toNat,by omega⟩;refine fQ<|jr<|ae 8 ⟨L,rfl,⟨_,L6.lst⟩,d7<|ah<|bh cI<|ae 9<|aF ⟨a.1,_,_,.str n[j].1,rfl,rfl,aW.of uw,rfl,?_⟩⟩;refine ah (aX sR<|qL qD<|bh cI<|ae 9<|aF ⟨a.1,_,_,.ref a.2,rfl,rfl,aW.of uw,rfl,qO<|aX dk<|ae 0<|ae 10 ⟨b2,((max 1 (row n j).length:Nat):Int),rfl,rfl,by omega,_,rfl,qM ⟨a.2,_,rfl,al.of xF,λp1 j4=>?_⟩⟩⟩);rw [hi,MG];have t1:=aQ j4<|Ls<|(row n j).drop i;refine qL qD (bh cI<|ae 9<|aF ⟨a.1,_,_,.ref a.2,rfl,rfl,aW.of<|t1 _ _ uw,rfl,qM<|qO<|aX dk<|ae 0<|ae 10 ⟨b2,((max 1 (row n j).length:Nat):Int),rfl,rfl,by omega,_,rfl,a.2,_,rfl,al.of<|t1 _ _ xF,λp2 gP=>?_⟩⟩);rw [hi,MH];have t2:=aQ gP<|Ls<|(row n j).take i;refine⟨p1,p2,_,_,rfl,rfl,t2 _ _ az,az,?_,λp3 pH=>?_⟩
  ·rw [Aa,Aa,Cn,Bo];exact small<|by omega
  rw [<- Al];have t3:=aQ pH<|Ls<|(row n j).drop i++(row n j).take i;refine ay ⟨Z2,λt4 Zu=>?_⟩;have s4:=aQ Zu<|.tup [.str n[j].1,.ref p3];have pI:=t1.trans<|t2.trans<|t3.trans s4;have L7:=L6.same pI;have R7:=R6.same pI;have Zv:p3≠L:=λe=>by rw [e,(t1.trans t2) _ _ L6.lst] at pH;cases pH
  have Zw:p3≠R:=λe=>by rw [e,(t1.trans t2) _ _ R6.lst] at pH;cases pH
  have Zx:p3∉jz.map (·.2):=λhm=>by
   obtain⟨y,hy,e⟩:=Aj.mp hm;exact(L6.same<|t1.trans t2).fresh pH hy e.symm
  have L8:=L7.more (t:=t4) (l:=p3) (pt:=n[j].1) (zs:=(row n j).drop i++(row n j).take i) az (s4 _ _ az) Zx Zv;refine⟨_,L7.lst,by rw [Aa,EK];exact cn (by omega),?_⟩;have Oh:∀ x∈as.eraseIdx j,x.2≠L:=λx hx=>aL x<|Ga hx;have R8:=R7.upd (o:= .lst<|jz.map (λa=>V.ref a.1)++[.ref t4]) L7.lst Od Oh;refine a9 0 nd (aX iD<|ae 0<|ae 10 ⟨b2,((max 1 (row n j).length:Nat):Int),rfl,rfl,⟨by omega,by omega⟩,?_⟩);have pe:=ME n j pF;have ne:=W' n j pF;have Oi:(ag (n.eraseIdx j)++ag (n2++[(n[j].1,(row n j).drop i++(row n j).take i)])).Perm (ag n0):=by
   refine List.Perm.trans ?_ pt;unfold ag;rw [Dk];show(ag (n.eraseIdx j)++(ag n2++(((row n j).drop i++(row n j).take i)++[]))).Perm _;rw [Bc,er];have w1:(n[j].2.drop i++n[j].2.take i).Perm n[j].2:=CY _ _;refine((w1.append_left _).append_left _).trans ?_;have w2:(ag n++ag n2).Perm ((n[j].2++ag (n.eraseIdx j))++ag n2):=pe.append_right _;refine List.Perm.trans ?_ w2.symm;rw [At];refine List.Perm.trans ?_<|Cm (l₁:=ag (n.eraseIdx j)++ag n2);rw [At]
  refine a8 ⟨n.length - 1,by omega,as.eraseIdx j,jz++[(t4,p3)],n.eraseIdx j,n2++[(n[j].1,(row n j).drop i++(row n j).take i)],_,_,_,pG.symm,R8,L8,d9 (uo.trans pI) fL,Oh,λx hx=>?_,λx hx=>?_,?_,Oi,?_,λh=>⟨λr hr=>?_,λr hr=>?_⟩,YT pF (by have:=Ch b2 (show(0:Int) < ((max 1 (row n j).length:Nat):Int) by omega);rw [hi] at this;exact Int.ofNat_lt.mp this) Oc pt Oi xC,rfl⟩
  ·rcases Ap.mp hx with hx | hx
   ·exact aR x hx
   ·rw [Ae] at hx;rw [hx];exact Zw
  ·rcases Ap.mp hx with hx | hx
   ·exact Og x hx
   ·rw [Ae] at hx;rw [hx];exact uo.free<|t1.free<|t2.free pH
  ·rw [Ah,pG];simp;omega
  ·refine List.Perm.trans ?_ pn;rw [Al];show((n.eraseIdx j).map (·.1)++(n2.map (·.1)++[n[j].1])).Perm _;refine List.Perm.trans ?_ (ne.append_right _).symm;rw [<- At];exact Cm
  ·exact(a7 h).1 r<|Ga hr
  ·rcases Ap.mp hr with hr | hr
   ·exact(a7 h).2 r hr
   ·rw [Ae] at hr;rw [hr];intro e;have w1:=(CY (row n j) i).length_eq;have e':(row n j).drop i++(row n j).take i=[]:=e;rw [e'] at w1;have:=(a7 h).1 n[j]<|Ay pF;rw [er] at w1;exact this<|Bk.mp w1.symm
end
end A5
namespace b4
open PySem PySem.W PyProof.Rows
section
variable{lt:Nat->Nat->Bool}{cmp:Nat->Nat->(Bool->Shared->Prop)->Shared->Prop}{J:Shared->Prop}{n:Nat}
structure dE(lt:Nat->Nat->Bool)(cmp:Nat->Nat->(Bool->Shared->Prop)->Shared->Prop)(J:Shared->Prop)(n:Nat):Prop where
 ask:∀(i j:Nat) (C:Bool->Shared->Prop) (s:Shared),i < n->j < n->i≠j->J s->(∀ s',J s'->C (lt i j) s')->cmp i j C s
 Zy:∀ i j,i < n->j < n->i≠j->lt i j=true\/lt j i=true
 asy:∀ i j,lt i j=true->lt j i=false
 xG:∀ i j k,lt i j=true->lt j k=true->lt i k=true
def g(p:Array Nat)(i:Nat):Nat:=p.getD i 0
structure Pm(p:Array Nat)(n:Nat):Prop where
 size:p.size=n
 lt:∀ i,i < n->g p i < n
 inj:∀ i j,i < n->j < n->g p i=g p j->i=j
theorem gG{p:Array Nat}{i:Nat}{v:Nat}(h:p[i]?=some v):g p i=v:=by
 unfold g;rw [Fq,h];rfl
theorem j5{p q:Array Nat}{i j:Nat}(h:p[i]?=q[j]?):g p i=g q j:=by
 unfold g;rw [Fq,Fq,h]
theorem xH(n:Nat):Pm (List.toArray<|List.range n) n:=by
 have e:∀ i,i < n->g (List.toArray<|List.range n) i=i:=λi hi=>gG (by simp [hi]);exact⟨by simp,λi hi=>by rw [e i hi];exact hi,λi j hi hj h=>by rw [e i hi,e j hj] at h;exact h⟩
def Up(lt:Nat->Nat->Bool)(p:Array Nat)(m:Nat):Prop:=∀ i j,i < j->j < m->lt (g p i) (g p j)=true
def Dn(lt:Nat->Nat->Bool)(p:Array Nat)(m:Nat):Prop:=∀ i j,i < j->j < m->lt (g p j) (g p i)=true
theorem Zz(p:Array Nat):Up lt p 1:=λi j h1 h2=>by omega
theorem ZA(A:dE lt cmp J n){p:Array Nat}{m:Nat}(h1:1<=m)(h:Up lt p m)(hm:lt (g p<|m - 1) (g p m)=true):Up lt p (m+1):=λi j hi hj=>by
 by_cases c:j < m
 ·exact h i j hi c
 ·have:j=m:=by omega
  subst this
  by_cases d:i=j - 1
  ·rw [d];exact hm
  ·exact A.xG _ _ _ (h i (j - 1) (by omega)<|by omega) hm
theorem ZC(A:dE lt cmp J n){p:Array Nat}{m:Nat}(h1:1<=m)(h:Dn lt p m)(hm:lt (g p m) (g p<|m - 1)=true):Dn lt p (m+1):=λi j hi hj=>by
 by_cases c:j < m
 ·exact h i j hi c
 ·have:j=m:=by omega
  subst this
  by_cases d:i=j - 1
  ·rw [d];exact hm
  ·exact A.xG _ _ _ hm<|h i (j - 1) (by omega)<|by omega
theorem ER(A:dE lt cmp J n){i j:Nat}(hi:i < n)(hj:j < n)(a7:i≠j)(h:lt i j=false):lt j i=true:=by
 rcases A.Zy i j hi hj a7 with q | q
 ·rw [h] at q;cases q
 ·exact q
theorem EV(A:dE lt cmp J n){p:Array Nat}(P:Pm p n):∀(f m:Nat) (Q:Nat->Shared->Prop) (s:Shared),1<=m->m+f<=n->Up lt p m->J s ->
  (∀ k s',J s'->m<=k->k<=m+f->Up lt p k->(k < m+f->lt (g p k) (g p<|k - 1)=true)->Q k s')->(kas_asc p f m).kasWp cmp Q s
 | 0,m,Q,s,h1,h2,hu,hJ,k=>k m s hJ (Ao _) (Ao _) hu λh=>by omega
 | f+1,m,Q,s,h1,h2,hu,hJ,k=>by
  have a7:g p m≠g p (m - 1):=λh=>by have:=P.inj m (m - 1) (by omega) (by omega) h;omega
  refine A.ask _ _ _ _ (P.lt m<|by omega) (P.lt (m - 1)<|by omega) a7 hJ λs' gH=>?_;cases e:lt (p.getD m 0) (p.getD (m - 1) 0) with
  | true=>exact k m s' gH (Ao _) (by omega) hu λ_=>e
  | false=>
   have pJ:Up lt p (m+1):=ZA A h1 hu (ER A (P.lt m<|by omega) (P.lt (m - 1)<|by omega) a7 e);exact EV A P f (m+1) Q s' (by omega) (by omega) pJ gH λk' s2 j2 a b c d=>k k' s2 j2 (by omega) (by omega) c λh=>d<|by omega
theorem Oj(A:dE lt cmp J n){p:Array Nat}(P:Pm p n):∀(f m:Nat) (Q:Array Nat×Nat×Nat->Shared->Prop) (s:Shared),1<=m->m+f<=n->Dn lt p m->J s ->
  (∀ k s',J s'->m<=k->k<=m+f->Dn lt p k->Q (p,k,0) s')->(kas_desc f p m 0).kasWp cmp Q s
 | 0,m,Q,s,h1,h2,hd,hJ,k=>k m s hJ (Ao _) (Ao _) hd
 | f+1,m,Q,s,h1,h2,hd,hJ,k=>by
  have a7:g p m≠g p (m - 1):=λh=>by have:=P.inj m (m - 1) (by omega) (by omega) h;omega
  refine A.ask _ _ _ _ (P.lt m<|by omega) (P.lt (m - 1)<|by omega) a7 hJ λs' gH=>?_;cases e:lt (p.getD m 0) (p.getD (m - 1) 0) with
  | true=>
   show(if true=true then(if 0 > 0 then _ else kas_desc f p (m+1) 0) else _:KasT _).kasWp cmp Q s';rw [BL rfl,BK<|by omega];exact Oj A P f (m+1) Q s' (by omega) (by omega) (ZC A h1 hd e) gH λk' s2 j2 a b c=>k k' s2 j2 (by omega) (by omega) c
  | false=>
   refine A.ask _ _ _ _ (P.lt (m - 1)<|by omega) (P.lt m<|by omega) (Ne.symm a7) gH λs2 uz=>?_;have e2:lt (p.getD (m - 1) 0) (p.getD m 0)=true:=ER A (P.lt m<|by omega) (P.lt (m - 1)<|by omega) a7 e;rw [e2];exact k m s2 uz (Ao _) (by omega) hd
theorem uA{p:Array Nat}{m k:Nat}(h:m<=p.size):g (kas_rev p 0 m) k=if k < m then g p (m - 1 - k) else g p k:=by
 have e:=getElem?_mirror_all (xs:=p) (i:=0) (j:=m) h k
 by_cases c:k < m
 ·rw [BL c];rw [BL ⟨Ci _,c⟩] at e;refine j5<|e.trans ?_
  congr 1
  omega
 ·rw [BK c];rw [BK λq=>c q.2] at e;exact j5 e
theorem Ol{p:Array Nat}{m:Nat}(P:Pm p n)(h:m<=n):Pm (kas_rev p 0 m) n:=by
 have hs:m<=p.size:=by rw [P.size];exact h
 refine⟨by rw [kas_rev_size];exact P.size,λi hi=>?_,λi j hi hj q=>?_⟩
 ·rw [uA hs]
  split
  ·exact P.lt _<|by omega
  ·exact P.lt _ hi
 ·rw [uA hs,uA hs] at q
  by_cases c:i < m <;> by_cases d:j < m
  ·rw [BL c,BL d] at q;have:=P.inj _ _ (by omega) (by omega) q;omega
  ·rw [BL c,BK d] at q;have:=P.inj _ _ (by omega) hj q;omega
  ·rw [BK c,BL d] at q;have:=P.inj _ _ hi (by omega) q;omega
  ·rw [BK c,BK d] at q;exact P.inj _ _ hi hj q
theorem ZD{p:Array Nat}{m:Nat}(P:Pm p n)(h:m<=n)(hd:Dn lt p m):Up lt (kas_rev p 0 m) m:=λi j hi hj=>by
 have hs:m<=p.size:=by rw [P.size];exact h
 rw [uA hs,uA hs,BL (by omega),BL hj];exact hd (m - 1 - j) (m - 1 - i) (by omega)<|by omega
theorem ZE(A:dE lt cmp J n){p:Array Nat}(P:Pm p n){m:Nat}{Q:Nat×Array Nat->Shared->Prop}{s:Shared}(h1:1<=m)(h2:m<=n)(hd:Dn lt p m)(hJ:J s)
  (k:∀ r q s',J s'->1<=r->r<=n->Pm q n->Up lt q r->Q (r,q) s'):(kas_tail3 m n p).kasWp cmp Q s:=by
 unfold kas_tail3;rw [JK];exact EV A (Ol P h2) (n - m) m _ s h1 (by omega) (ZD P h2 hd) hJ λr s' j a b c _=>k r _ s' j (by omega) (by omega) (Ol P h2) c
theorem ZF(A:dE lt cmp J n){p:Array Nat}(P:Pm p n){Q:Nat×Array Nat->Shared->Prop}{s:Shared}(h2:2<=n)(hJ:J s)
  (k:∀ r q s',J s'->1<=r->r<=n->Pm q n->Up lt q r->Q (r,q) s'):(kas_count n p).kasWp cmp Q s:=by
 unfold kas_count;rw [JK];refine EV A P (n - 1) 1 _ s (Ao _) (by omega) (Zz p) hJ λm s' gH m1 m2 hu uB=>?_
 by_cases c:m=n
 ·subst c;rw [BL<|by simp];exact k m p s' gH m1 (Ao _) P hu
 ·rw [BK<|by simpa using c]
  by_cases d:m > 1
  ·rw [BL d];have a7:g p 0≠g p (m - 1):=λh=>by have:=P.inj 0 (m - 1) (by omega) (by omega) h;omega
   refine A.ask _ _ _ _ (P.lt 0<|by omega) (P.lt (m - 1)<|by omega) a7 gH λs2 uz=>?_;have e:lt (p.getD 0 0) (p.getD (m - 1) 0)=true:=hu 0 (m - 1) (by omega) (by omega);rw [e];exact k m p s2 uz m1 (by omega) P hu
  ·rw [BK d];have em:m=1:=by omega
   subst em;unfold kas_descPart;rw [JK];have hl:=uB (by omega);have hd2:Dn lt p 2:=λi j hi hj=>by
    have:i=0/\j=1:=by omega
    rw [this.1,this.2];exact hl
   refine Oj A P (n - (1+1)) (1+1) _ s' (by omega) (by omega) hd2 gH λr s2 uz r1 r2 hd=>?_;show(if(0:Nat) > 0 then _ else kas_tail3 r n p:KasT _).kasWp cmp Q s2;rw [BK<|by omega];exact ZE A P (by omega) (by omega) hd uz k
theorem EW(A:dE lt cmp J n){p:Array Nat}(P:Pm p n){k:Nat}(hk:k < n)(hu:Up lt p k):∀(f l r:Nat) (Q:Nat->Shared->Prop) (s:Shared),r<=k->l<=r->r - l<=f->J s->(∀ i,i < l->lt (g p i) (g p k)=true)->(∀ i,r<=i->i < k->lt (g p k) (g p i)=true) ->
  (∀ m s',J s'->m<=k->(∀ i,i < m->lt (g p i) (g p k)=true)->(∀ i,m<=i->i < k->lt (g p k) (g p i)=true)->Q m s')->(kas_place p k f l r).kasWp cmp Q s
 | 0,l,r,Q,s,h1,h2,h3,hJ,ha,hb,q=>q l s hJ (by omega) ha λi hi=>hb i<|by omega
 | f+1,l,r,Q,s,h1,h2,h3,hJ,ha,hb,q=>by
  unfold kas_place
  by_cases c:l>=r
  ·rw [BL c];exact q l s hJ (by omega) ha λi hi=>hb i<|by omega
  ·rw [BK c];have ZG:(l+r) / 2 < k:=by omega
   have a7:g p k≠g p ((l+r) / 2):=λh=>by have:=P.inj k _ hk (by omega) h;omega
   refine A.ask _ _ _ _ (P.lt k hk) (P.lt _<|by omega) a7 hJ λs' gH=>?_;cases e:lt (p.getD k 0) (p.getD ((l+r) / 2) 0) with
   | true=>
    show(kas_place p k f l<|(l+r) / 2).kasWp cmp Q s';refine EW A P hk hu f l ((l+r) / 2) Q s' (by omega) (by omega) (by omega) gH ha (λi hi Om=>?_) q
    by_cases d:i=(l+r) / 2
    ·rw [d];exact e
    ·exact A.xG _ _ _ e<|hu _ _ (by omega) Om
   | false=>
    show(kas_place p k f ((l+r) / 2+1) r).kasWp cmp Q s';have e2:=ER A (P.lt k hk) (P.lt _<|by omega) a7 e;refine EW A P hk hu f ((l+r) / 2+1) r Q s' h1 (by omega) (by omega) gH (λi hi=>?_) hb q
    by_cases d:i=(l+r) / 2
    ·rw [d];exact e2
    ·exact A.xG _ _ _ (hu _ _ (by omega) ZG) e2
theorem uC{p:Array Nat}{k m i:Nat}(hk:k < p.size)(hm:m<=k):g (bubble p k<|k - m) i=if i=m then g p k else if m < i/\i<=k then g p (i - 1) else g p i:=by
 have e:=getElem?_bubble (xs:=p) hk (k - m) (by omega) i;rw [show k - (k - m)=m by omega] at e
 by_cases c:i=m
 ·rw [BL c];rw [BL c] at e;exact j5 e
 ·rw [BK c];rw [BK c] at e
  by_cases d:m < i/\i<=k
  ·rw [BL d];rw [BL d] at e;exact j5 e
  ·rw [BK d];rw [BK d] at e;exact j5 e
theorem ZH{p:Array Nat}{k m:Nat}(P:Pm p n)(hk:k < n)(hm:m<=k):Pm (bubble p k<|k - m) n:=by
 have hs:k < p.size:=by rw [P.size];exact hk
 refine⟨by rw [bubble_size];exact P.size,λi hi=>?_,λi j hi hj q=>?_⟩
 ·rw [uC hs hm]
  split
  ·exact P.lt k hk
  ·split
   ·exact P.lt _<|by omega
   ·exact P.lt _ hi
 ·rw [uC hs hm,uC hs hm] at q;have src:∀ a,a < n->∃ b,b < n/\(if a=m then g p k else if m < a/\a<=k then g p (a - 1) else g p a)=g p b/\((a=m/\b=k)\/(a≠m/\(m < a/\a<=k)/\b=a - 1)\/(a≠m/\¬(m < a/\a<=k)/\b=a)):=λa ha=>by
   by_cases c:a=m
   ·exact⟨k,hk,by rw [BL c],.inl ⟨c,rfl⟩⟩
   ·by_cases d:m < a/\a<=k
    ·exact⟨a - 1,by omega,by rw [BK c,BL d],.inr<|.inl ⟨c,d,rfl⟩⟩
    ·exact⟨a,ha,by rw [BK c,BK d],.inr<|.inr ⟨c,d,rfl⟩⟩
  obtain⟨x,x1,x2,x3⟩:=src i hi;obtain⟨y,y1,y2,y3⟩:=src j hj;rw [x2,y2] at q;have e:=P.inj x y x1 y1 q;subst e
  rcases x3 with ⟨a1,a2⟩ | ⟨a1,a2,a3⟩ | ⟨a1,a2,a3⟩
  ·rcases y3 with ⟨b1,b2⟩ | ⟨b1,b2,b3⟩ | ⟨b1,b2,b3⟩
   ·exact a1.trans b1.symm
   ·exact absurd (a2.symm.trans b3)<|Dc<|Bj (Nat.sub_lt (Go b2.1) Nat.one_pos) b2.2
   ·exact absurd ⟨Gf (by rw [<- b3,a2];exact hm)<|Ne.symm b1,by rw [<- b3,a2];exact Ao _⟩ b2
  ·rcases y3 with ⟨b1,b2⟩ | ⟨b1,b2,b3⟩ | ⟨b1,b2,b3⟩
   ·exact absurd (b2.symm.trans a3)<|Dc<|Bj (Nat.sub_lt (Go a2.1) Nat.one_pos) a2.2
   ·exact Nat.sub_one_cancel (Go a2.1) (Go b2.1)<|a3.symm.trans b3
   ·exact absurd ⟨Gf (by rw [<- b3,a3];exact Nat.le_sub_one_of_lt a2.1)<|Ne.symm b1,by rw [<- b3,a3];exact Cp (Nat.sub_le _ _) a2.2⟩ b2
  ·rcases y3 with ⟨b1,b2⟩ | ⟨b1,b2,b3⟩ | ⟨b1,b2,b3⟩
   ·exact absurd ⟨Gf (by rw [<- a3,b2];exact hm)<|Ne.symm a1,by rw [<- a3,b2];exact Ao _⟩ a2
   ·exact absurd ⟨Gf (by rw [<- a3,b3];exact Nat.le_sub_one_of_lt b2.1)<|Ne.symm a1,by rw [<- a3,b3];exact Cp (Nat.sub_le _ _) b2.2⟩ a2
   ·exact a3.symm.trans b3
theorem ZI{p:Array Nat}{k m:Nat}(P:Pm p n)(hk:k < n)(hm:m<=k)(hu:Up lt p k)(ha:∀ i,i < m->lt (g p i) (g p k)=true)(hb:∀ i,m<=i->i < k->lt (g p k) (g p i)=true):Up lt (bubble p k<|k - m) (k+1):=λi j hi hj=>by
 have hs:k < p.size:=by rw [P.size];exact hk
 rw [uC hs hm,uC hs hm]
 by_cases c:i=m
 ·rw [BL c,BK (by omega),BL<|by omega];exact hb _ (by omega)<|by omega
 ·rw [BK c]
  by_cases d:j=m
  ·rw [BL d,BK<|by omega];exact ha i<|by omega
  ·rw [BK d]
   by_cases e:m < i/\i<=k
   ·rw [BL e,BL<|by omega];exact hu _ _ (by omega)<|by omega
   ·rw [BK e]
    by_cases f:m < j/\j<=k
    ·rw [BL f];exact hu _ _ (by omega)<|by omega
    ·rw [BK f];exact hu _ _ hi<|by omega
theorem Oo(A:dE lt cmp J n):∀(f:Nat) (p:Array Nat) (k:Nat) (Q:Array Nat->Shared->Prop) (s:Shared),Pm p n->1<=k->k+f=n->Up lt p k->J s->(∀ q s',J s'->Pm q n->Up lt q n->Q q s')->(kas_bin f p k).kasWp cmp Q s
 | 0,p,k,Q,s,P,h1,h2,hu,hJ,q=>by
  have:k=n:=by omega
  subst this;exact q p s hJ P hu
 | f+1,p,k,Q,s,P,h1,h2,hu,hJ,q=>by
  unfold kas_bin;rw [JK];refine EW A P (by omega) hu k 0 k _ s (Ao _) (Ci _) (by omega) hJ (λi hi=>by omega) (λi hi Om=>by omega) λm s' gH hm ha hb=>?_;exact Oo A f _ (k+1) Q s' (ZH P (by omega) hm) (by omega) (by omega) (ZI P (by omega) hm hu ha hb) gH q
theorem Oq(A:dE lt cmp J n){Q:Array Nat->Shared->Prop}{s:Shared}(h2:2<=n)(hJ:J s)(q:∀ p s',J s'->Pm p n->Up lt p n->Q p s'):(kas_sort n).kasWp cmp Q s:=by
 unfold kas_sort;rw [JK];refine ZF A (xH n) h2 hJ λr p s' gH r1 r2 P hu=>?_;show(if r < n then kas_bin (n - max r 1) p (max r 1) else .ret p:KasT _).kasWp cmp Q s';have em:max r 1=r:=by omega
 rw [em]
 by_cases c:r < n
 ·rw [BL c];exact Oo A (n - r) p r Q s' P r1 (by omega) hu gH q
 ·rw [BK c];have:r=n:=by omega
  subst this;exact q p s' gH P hu
end
theorem Ot{p:Array Nat}{n:Nat}(P:Pm p n):p.toList.Nodup:=by
 rw [Bv,Bh];intro i j hi hj dD e;have xI:i < n:=by rw [Co,P.size] at hi;exact hi
 have DA:j < n:=by rw [Co,P.size] at hj;exact hj
 have e1:g p i=p.toList[i]:=gG (by rw [<- Bz];exact Ab hi);have e2:g p j=p.toList[j]:=gG (by rw [<- Bz];exact Ab hj);have:=P.inj i j xI DA (by rw [e1,e2,e]);omega
theorem xJ{p:Array Nat}{n v:Nat}(P:Pm p n)(h:v∈p.toList):v < n:=by
 obtain⟨i,hi⟩:=An h;have hl:i < n:=by have:=(Ad.mp hi).1;rw [Co,P.size] at this;exact this
 have e1:g p i=v:=gG (by rw [<- Bz];exact hi);rw [<- e1];exact P.lt i hl
theorem Ou{p:Array Nat}{n:Nat}(P:Pm p n):p.toList.Perm (List.range n):=by
 rw [Fv (Ot P) Fj];intro v;rw [Bm];refine⟨λh=>xJ P h,λh=>BX λhn=>?_⟩;have l1:p.toList.length<=((List.range n).erase v).length:=Nt.aI (Ot P) λz hz=>by
  have a7:z≠v:=λe=>hn<|e ▸ hz;exact(Fc a7).mpr<|Bm.mpr<|xJ P hz
 rw [Dy<|Bm.mpr h,Co,P.size,Cv] at l1;omega
def Hd(h:Heap)(v:Value)(z:Str):Prop:=∃ a o xs n t,v = .ref a/\h.get? a=some o/\o.cls = .type "tuple"/\o.data = .seq xs n/\xs[0]?=some (.str z t)
theorem Hd.keep{h h':Heap}{v:Value}{z:Str}(x:Hd h v z)(k:∀ a o,v = .ref a->h.get? a=some o->h'.get? a=some o):Hd h' v z:=by
 obtain⟨a,o,xs,n,t,e,h1,h2⟩:=x;exact⟨a,o,xs,n,t,e,k a o e h1,h2⟩
def pK(h:Heap)(vs:List Value)(zs:List Str):Prop:=vs.length=zs.length/\∀(i:Nat) v z,vs[i]?=some v->zs[i]?=some z->Hd h v z
def ltZ(zs:List Str)(i j:Nat):Bool:=decide ((zs.getD i ⟨#[]⟩).cps.toList < (zs.getD j ⟨#[]⟩).cps.toList)
section
variable{prog:Program}{w:World}{A:Around}{E:Value->Shared->Prop}{s:Shared}
theorem Ov:∀{h:Heap} {vs:List Value} {zs:List Str},pK h vs zs->∃ fs,KatTups h vs fs/\fs.length=vs.length/\∀ f∈fs,∃ z t,f=Value.str z t
 | h,[],_,_=>⟨[],KatTups.nil,rfl,λf hf=>by cases hf⟩
 | h,v :: vs,[],hh=>by have:=hh.1;simp at this
 | h,v :: vs,z :: zs,hh=>by
  obtain⟨fs,k1,k2,k3⟩:=Ov (h:=h) (vs:=vs) (zs:=zs) ⟨by have:=hh.1;simpa using this,λi a b h1 h2=>hh.2 (i+1) a b (by simpa using h1)<|by simpa using h2⟩;obtain⟨a,o,xs,n,t,rfl,h1,h2,h3,h4⟩:=hh.2 0 v z rfl rfl;refine⟨.str z t :: fs,KatTups.cons h1 h2 h3 h4 k1,by rw [Ax,Ax,k2],λf hf=>?_⟩
  rcases Am.mp hf with rfl | hf
  ·exact⟨z,t,rfl⟩
  ·exact k3 f hf
theorem ZJ{x y:Value}{z u:Str}{Q:Bool->Shared->Prop}(hx:Hd s.heap x z)(hy:Hd s.heap y u)(a7:z≠u)(h:Q (decide (z.cps.toList < u.cps.toList)) s):wpAny (model prog w) A (keyLt' (tuples' true) x y) Q E s:=by
 obtain⟨a,o,xs,n,t,rfl,h1,h2,h3,h4⟩:=hx;obtain⟨b,o',ys,n',t',rfl,g1,g2,g3,g4⟩:=hy;refine kat_lt h1 h3 g1 g3 ?_;have ex:∃ r,xs.toList = .str z t :: r:=by
  have:xs.toList[0]?=some (.str z t):=by rw [Bz];exact h4
  cases e:xs.toList with
  | nil=>rw [e] at this;cases this
  | cons c r=>rw [e] at this;cases this;exact⟨r,rfl⟩
 have ey:∃ r,ys.toList = .str u t' :: r:=by
  have:ys.toList[0]?=some (.str u t'):=by rw [Bz];exact g4
  cases e:ys.toList with
  | nil=>rw [e] at this;cases this
  | cons c r=>rw [e] at this;cases this;exact⟨r,rfl⟩
 obtain⟨rx,ex⟩:=ex;obtain⟨ry,ey⟩:=ey;rw [ex,ey];show KatLex prog w A true _ Q ((.str z t,.str u t') :: rx.zip ry) 0 s;refine kat_cons<|eqBool_str ?_;have:(z == u)=false:=beq_eq_false_iff_ne.mpr a7;rw [this];exact kat_no<|oneLt_str h
theorem Ow{a b:Str}(h:a.cps.toList=b.cps.toList):a=b:=by
 apply Str.ext';exact Gq.mp h
theorem ZK{vs:List Value}{zs:List Str}(hh:pK s.heap vs zs)(hn:zs.Nodup):dE (ltZ zs) (kas_ask prog w A (tuples' true) vs) (λs'=>s'=s) vs.length:=by
 have hl:=hh.1;have gz:∀ i,(hi:i < zs.length)->zs.getD i ⟨#[]⟩=zs[i]:=λi hi=>by simp [hi]
 have gv:∀ i,(hi:i < vs.length)->vs.getD i Value.none=vs[i]:=λi hi=>by simp [hi]
 have ne:∀ i j,(hi:i < zs.length)->(hj:j < zs.length)->i≠j->zs[i]≠zs[j]:=λi j hi hj dD e=>by
  rcases Nat.lt_or_gt_of_ne dD with c | c
  ·exact Bh.mp (Bv.mp hn) i j hi hj c e
  ·exact Bh.mp (Bv.mp hn) j i hj hi c e.symm
 refine⟨λi j C s' hi hj dD hs hC=>?_,λi j hi hj dD=>?_,λi j h=>?_,λi j k h1 h2=>?_⟩
 ·subst hs;unfold kas_ask;rw [gv i hi,gv j hj];have e:ltZ zs i j=decide (zs[i].cps.toList < zs[j].cps.toList):=by unfold ltZ;rw [gz i (by omega),gz j<|by omega]
  refine ZJ (hh.2 i _ zs[i] (Ab hi)<|Ab<|by omega) (hh.2 j _ zs[j] (Ab hj)<|Ab<|by omega) (ne i j (by omega) (by omega) dD) ?_;rw [<- e];exact hC s' rfl
 ·unfold ltZ;rw [gz i (by omega),gz j (by omega),DR,DR]
  by_cases c:zs[i].cps.toList < zs[j].cps.toList
  ·exact .inl c
  ·by_cases d:zs[j].cps.toList < zs[i].cps.toList
   ·exact .inr d
   ·have:zs[i].cps.toList=zs[j].cps.toList:=List.le_antisymm (Gv.mp d)<|Gv.mp c;exact absurd (Ow this)<|ne i j (by omega) (by omega) dD
 ·unfold ltZ at h ⊢;have:=CG h;exact BW λq=>Gm _<|Fz this q
 ·unfold ltZ at h1 h2 ⊢;exact BR<|Fz (CG h1)<|CG h2
theorem map_range(vs:List Value):(List.range vs.length).map (λi=>vs.getD i Value.none)=vs:=by
 apply El
 ·simp
 ·intro i h1 h2;simp [h2]
theorem ZL{a:Addr}{vs:List Value}{zs:List Str}{n:Nat}{P:Fin->Shared->Prop}(ho:s.heap.get? a=some (seqObj "list" vs.toArray n))(bM:∀ v∈vs,v ≠ .ref a)(hh:pK s.heap vs zs)(hn:zs.Nodup)(i4:vs.length < 64)
  (h:∀ p:Array Nat,Pm p vs.length->Up (ltZ zs) p vs.length->P (.done<|.ret .none) {s with heap:=sortedHeap s.heap a vs (List.toArray<|p.toList.map λi=>vs.getD i Value.none)}) :
  wpAny (model prog w) A (Builtin.«list.sort» ⟨[.ref a],[]⟩) P E s:=by
 rw [list_sort_plain];have ha:a < s.heap.objs.size:=Av ho;have xK:vs.length<=sizeLine:=by rw [CV];omega
 refine BJ<|JN ho rfl ?_;refine BJ<|HJ ho rfl ?_;obtain⟨e1,jq⟩:∃ e1,(s.heap.update a<|Obj.mapSeq λ_=>#[]).get? a=some (seqObj "list" #[] e1):=⟨_,get?_update_seq ho λ_=>#[]⟩;refine BJ<|IW jq rfl ?_;refine BJ<|LK ?_;refine BJ<|GZ ?_;refine CP ?_;have js:(((s.heap.update a<|Obj.mapSeq λ_=>#[]).push<|seqObj "tuple" vs.toArray 0).push<|seqObj "list" #[] 0).get? a=some (seqObj "list" #[] e1):=Ai _<|Ai _ jq;show wpAny (model prog w) A _ P E {s with heap:=((s.heap.update a<|Obj.mapSeq λ_=>#[]).push<|seqObj "tuple" vs.toArray 0).push (seqObj "list" #[] 0)};have uD:pK (((s.heap.update a<|Obj.mapSeq λ_=>#[]).push<|seqObj "tuple" vs.toArray 0).push<|seqObj "list" #[] 0) vs zs:=⟨hh.1,λi v z h1 h2=>(hh.2 i v z h1 h2).keep λb o e q=>by
  have hb:a≠b:=λe2=>bM v (Ak h1) (by rw [e,e2]);exact Ai _<|Ai _<|(Bg _ _ hb).trans q⟩
 dsimp only
 have hsz:vs.toArray.size=vs.length:=by simp
 by_cases h2:vs.toArray.size < 2
 ·rw [BL h2,BL h2];refine BJ<|BP ?_;rw [StateT.run_pure];refine BJ<|BP ?_
  dsimp only
  have e5:(arrOf<|SortSt.mk' general' (vs.toArray.zip vs.toArray) #[] 7 none).map (·.2)=vs.toArray:=by
   show(vs.toArray.zip vs.toArray).map (·.2)=_;apply Gq.mp;simp [QT]
  refine BJ<|IW js rfl ?_;refine BJ (HJ js rfl ?_ (hsz2:=by rw [e5,hsz];omega));simp only [HN,Cc,CW];refine BP ?_;rw [e5];have fin:=h (List.toArray<|List.range vs.length) (xH _) λi j hi hj=>by rw [hsz] at h2;omega
  have e6:(List.toArray<|List.range vs.length).toList.map (λi=>vs.getD i Value.none)=vs:=map_range vs;rw [e6] at fin;exact fin
 ·rw [BK h2,BK h2];obtain⟨fs,k1,k2,k3⟩:=Ov uD;rw [hsz] at h2;refine BJ<|kat_kind (T:= .type "str") k1 (by omega) (λf hf=>?_) (by decide) ?_
  ·obtain⟨z,t,rfl⟩:=k3 f hf;exact Looks.of_pure rfl
  refine BJ<|CK (kat_run (prog:=prog) (w:=w) (A:=A) (E:=E) (κ:=tuples' true) (ks:=vs) (vs:=vs) (Q:=λcS s'=>s'={s with heap:=((s.heap.update a<|Obj.mapSeq λ_=>#[]).push<|seqObj "tuple" vs.toArray 0).push (seqObj "list" #[] 0)}/\∃ p:Array Nat,Pm p vs.length/\Up (ltZ zs) p vs.length/\arrOf cS=p.map (kas_item<|vs.toArray.zip vs.toArray)/\failedOf cS=none)
   (G:=λp s'=>s'={s with heap:=((s.heap.update a<|Obj.mapSeq λ_=>#[]).push<|seqObj "tuple" vs.toArray 0).push (seqObj "list" #[] 0)}/\Pm p vs.length/\Up (ltZ zs) p vs.length) rfl (by omega) i4 (λp cS s' _ a2 a3 a4=>⟨a4.1,p,a4.2.1,a4.2.2,a2,a3⟩)
   (Oq (ZK (s:={s with heap:=((s.heap.update a<|Obj.mapSeq λ_=>#[]).push<|seqObj "tuple" vs.toArray 0).push (seqObj "list" #[] 0)}) uD hn) (by omega) rfl λp s' e P U=>⟨e,P,U⟩)) ?_ λ_ _ e=>e
  rintro ⟨⟨⟩,cS⟩ s' ⟨rfl,p,P,U,EX,hf⟩
  dsimp only
  have e3:=kat_snds (ks:=vs) (vs:=vs) rfl EX;refine BJ<|IW js rfl ?_;refine BJ (HJ js rfl ?_ (hsz2:=by rw [e3,Aw,Aa,Co,P.size];omega));rw [hf];simp only [HN,Cc,CW];refine BP ?_;rw [e3];exact h p P U
theorem ZM{l:Addr}{vs:List Value}{zs:List Str}{Q:Value->Shared->Prop}(hl:s.heap.IsList l vs.toArray)(hh:pK s.heap vs zs)(hn:zs.Nodup)(i4:vs.length < 64)
  (h:∀(h':Heap) (e:Nat) (p:Array Nat),Pm p vs.length->Up (ltZ zs) p vs.length->(∀ b u,s.heap.get? b=some u->h'.get? b=some u)->h'.get? (s.heap.objs.size+1)=some (seqObj "list" (List.toArray<|p.toList.map λi=>vs.getD i Value.none) e)->Q (.ref<|s.heap.objs.size+1) {s with heap:=h'}) :
  wpAny (model prog w) A (call (.builtin "sorted") [.ref l]) Q E s:=by
 have xK:vs.length<=sizeLine:=by rw [CV];omega
 refine JH kind_sorted plain_sorted entry_sorted (args_sorted1 _) ?_;unfold Builtin.«sorted»;refine BJ (m:=checkCount "sorted" 1 1 _)<|BP ?_;refine BJ<|collect_list (vs:=vs) hl ?_;refine BJ<|GZ ?_;have hsz:((s.heap.push<|seqObj "list" #[] 0).update s.heap.objs.size (Obj.mapSeq (·++vs.toArray))).objs.size=s.heap.objs.size+1:=by
  rw [QG,PK]
 have iy:(((s.heap.push<|seqObj "list" #[] 0).update s.heap.objs.size (Obj.mapSeq (·++vs.toArray))).push<|seqObj "list" vs.toArray 0).get? (s.heap.objs.size+1)=some (seqObj "list" vs.toArray 0):=by
  rw [<- hsz];exact Be _ rfl
 have EZ:pK (((s.heap.push<|seqObj "list" #[] 0).update s.heap.objs.size (Obj.mapSeq (·++vs.toArray))).push<|seqObj "list" vs.toArray 0) vs zs:=⟨hh.1,λi v z h1 h2=>(hh.2 i v z h1 h2).keep λb o e q=>
  Ai _ ((Bg _ _<|Dc<|Av q).trans<|Ai _ q)⟩
 have a7:∀ v∈vs,v ≠ .ref (s.heap.objs.size+1):=λv hv e=>by
  obtain⟨i,hi⟩:=An hv;have hl:=hh.1;have uE:i < zs.length:=by have:=(Ad.mp hi).1;omega
  obtain⟨b,o,xs,n,t,e2,h1,_⟩:=hh.2 i v zs[i] hi<|Ab uE;rw [e2] at e;cases e;exact absurd (OJ<|Av h1)<|Cu _
 show wpAny _ _ _ _ _ {s with heap:=((s.heap.push<|seqObj "list" #[] 0).update s.heap.objs.size (Obj.mapSeq (·++vs.toArray))).push (seqObj "list" vs.toArray 0)};rw [hsz];refine BJ<|CP<|FQ slot_list_sort ⟨_,iy,rfl⟩ entry_list_sort (ZL iy a7 EZ hn i4 λp P U=>⟨_,rfl,?_⟩)<|args_list_sort _;obtain⟨e,he⟩:=sortedAll_at s.heap vs<|List.toArray<|p.toList.map λi=>vs.getD i Value.none;exact BP ⟨_,rfl,h _ e p P U (λb u hb=>NQ hb) he⟩
end
end b4
namespace L2
open PySem PySem.Spec PyProof.Rows b4
theorem xL:∀{ts:List Addr} {its:List Value},av (ts.map V.ref) its->its=ts.map Value.ref
 | [],its,r=>r.zero
 | t :: ts,its,r=>by
  cases r with
  | cons h1 h2=>
   rw [xL h2];have:_=Value.ref t:=h1;rw [this];rfl
theorem E1:∀(ts:List Addr),av (ts.map V.ref)<|ts.map Value.ref
 | []=> .nil
 | t :: ts=> .cons rfl (E1 ts)
theorem Ox{α β:Type}(xs:List α)(ys:List β)(h:xs.length=ys.length)(a:α)(b:β):(List.range xs.length).map (λi=>(xs.getD i a,ys.getD i b))=xs.zip ys:=by
 apply El
 ·simp [h]
 ·intro i h1 h2;have hx:i < xs.length:=by simp at h1;exact h1
  have hy:i < ys.length:=by omega
  simp [hx,hy]
section
variable{X:Cx}{σ:St}{H:Hp}
theorem ZN:fh X (.builtin "sorted") (λxs H Q=>∃(l:Addr) (ts:List Addr) (zs:List Str),xs=[.ref l]/\al X.K H l (ts.map V.ref)/\ts.length=zs.length/\zs.Nodup/\ts.length < 64/\(∀(i:Nat) t z,ts[i]?=some t->zs[i]?=some z->∃ r,H t=some (.tup<|.str z :: r)) /\
  ∀(r:Addr) (ps:List<|Addr×Str),H r=none->ps.Perm (ts.zip zs)->ps.Pairwise (λa b=>a.2.cps.toList < b.2.cps.toList)->Q (.ref r) (upd H r<|.lst<|ps.map λp=> .ref p.1)):=by
 intro pins s σ H xs us Q I r h;obtain⟨l,ts,zs,rfl,hl,hlen,hn,i4,hd,q⟩:=h;obtain⟨u,rfl,ru⟩:=vals1 r;cases (show u=Value.ref l from ru);obtain⟨its,rv,pl,_⟩:=I.list hl;have ei:=xL rv;subst ei;have hh:pK s.heap (ts.map Value.ref) zs:=by
  refine⟨by rw [Aa];exact hlen,λi v z h1 h2=>?_⟩;rw [Ag,Az] at h1;obtain⟨t,ht,rfl⟩:=h1;obtain⟨rr,hr⟩:=hd i t z ht h2;obtain⟨its,r3,tp,_⟩:=I.tuple<|aW.of hr;cases r3 with
  | cons a1 a2=>
   obtain⟨tk,rfl⟩:=a1;obtain⟨o,ho,hc,n,hd2⟩:=tp;exact⟨t,o,_,n,tk,rfl,ho,hc,hd2,rfl⟩
 refine ZM pl.isList hh hn (by rw [Aa];exact i4) λh' e p P U kp he=>?_;rw [Aa] at P U;have gp:∀ i,i < ts.length->g p i < ts.length:=P.lt;have E2:p.toList.length=ts.length:=by rw [Co];exact P.size
 have e1:(p.toList.map λi=>(ts.map Value.ref).getD i Value.none)=((p.toList.map λi=>(ts.getD i 0,zs.getD i ⟨#[]⟩)).map λx=>x.1).map Value.ref:=by
  rw [Bb,Bb];refine Bf λi hi=>?_;have aT:=xJ P hi;show(ts.map Value.ref).getD i Value.none=Value.ref (ts.getD i 0);simp [aT]
 refine⟨.ref _,_,I.gu (s':={s with heap:=h'}) kp rfl rfl (Eh _) (show aH X.prog X.w _ h' _ (.lst<|(p.toList.map λi=>(ts.getD i 0,zs.getD i ⟨#[]⟩)).map λx=>V.ref x.1) from ?_),rfl,q _ (p.toList.map λi=>(ts.getD i 0,zs.getD i ⟨#[]⟩)) (I.aJ.fresh<|Eh _) ?_ ?_⟩
 ·refine⟨by rw [Aa,Aa,E2,CV];omega,_,e,?_,he⟩;rw [e1];have:=E1<|(p.toList.map λi=>(ts.getD i 0,zs.getD i (⟨#[]⟩:Str))).map λx=>x.1;rw [Bb] at this;exact this
 ·rw [<- Ox ts zs hlen 0 ⟨#[]⟩];exact(Ou P).map _
 ·rw [Bh];intro i j hi hj dD;rw [Aa] at hi hj;have:=U i j dD (by omega);have q1:g p i=p.toList[i]:=gG (by rw [<- Bz];exact Ab hi);have q2:g p j=p.toList[j]:=gG (by rw [<- Bz];exact Ab hj);rw [q1,q2] at this;rw [By,By];exact CG this
theorem Oy{e1 e2 e3:Expr}{k:Nat}{pos:Pos}{t:Addr}{x y z:V}{R:St->Hp->Prop}(hc:X.calm=true)(ht:aW X.K H t [x,y,z])(h:Eg X e1 x σ H λσ1 H1=>Eg X e2 y σ1 H1 λσ2 H2=>Eg X e3 z σ2 H2 R)
  (hn:(assignEach [e1,e2,e3] X.env).length=3:=by rfl) (cR:(assignEach [e1,e2,e3] X.env).findIdx? (·.1)=none:=by rfl)
  (gR:(assignEach [e1,e2,e3] X.env).map (·.2)=assign e1 X.env :: (assignEach [e2,e3] X.env).map (·.2):=by rfl) (C2:(assignEach [e2,e3] X.env).map (·.2)=assign e2 X.env :: (assignEach [e3] X.env).map (·.2):=by rfl) (wn:(assignEach [e3] X.env).map (·.2)=assign e3 X.env :: (assignEach [] X.env).map (·.2):=by rfl) :
  Eg X (.Tuple [e1,e2,e3] k pos) (.ref t) σ H R:=
 zV (Ka (t:=qv (λv σ H Q=>Eg X e1 v σ H Q)<|qv (λv σ H Q=>Eg X e2 v σ H Q)<|qv (λv σ H Q=>Eg X e3 v σ H Q) oA) hc (sf oO (sf oO (sf oO J9 wn) C2) gR) hn cR)
  ⟨t,_,rfl,ht,rfl,_,_,rfl,h.mono λσ1 H1 h1=>⟨_,_,rfl,h1.mono λσ2 H2 h2=>⟨_,_,rfl,h2.mono λσ3 H3 q=>⟨rfl,q⟩⟩⟩⟩
end
end L2
namespace A5
open PySem L2 Nt bn
def E3:Sp:=λvs H Q _=>∃(R:Addr) (as:List<|Addr×Addr) (n:Net),vs=[.ref R]/\ai H R as n/\n.length<=1000/\∀ L pB H',ak H H'->H L=none->(∀ a∈pB,H a.1=none/\H a.2=none)->ai H' L pB n->Q (.ref L) H'
section
variable{P:Program}{w:World}{K:PySem.W.Frag}{mg:Str->Option Value}{base:Heap}
theorem gX{H H':Hp}{l:Addr}(s:ak H H')(h:H' l=none):H l=none:=by
 cases e:H l with
 | none=>rfl
 | some v=>rw [s _ _ e] at h;cases h
abbrev NC:List Str:=["_law_rows"]
abbrev Oz:List Str:=["_law_rows","_law_row"]
theorem j6:au NC ["_law_rows"] (bj wM):=⟨rfl,rfl,rfl,by decide +kernel,rfl,by decide +kernel,by decide +kernel⟩
theorem E4:Oz.Nodup:=by decide +kernel
theorem ZO{f:Addr}{fd:FuncData}(F:bW K "_law_copy" "_law_copy" wM f fd)(T:Txt mg):aM P w K mg base cf 1 f fd ["_law_rows"] E3:=by
 refine F.gb j6 (λvs H Q E h=>?_) λb0 H vs Q E hr h=>?_
 ·obtain⟨R,as,n,rfl,_⟩:=h;rfl
 obtain⟨R,as,n,rfl,hR,hn,q⟩:=h;have nd:=j6.nd;have bM:=hR.len;show Run _ _ _ [some<|.ref R] H;refine cD<|qR (bj wM) NC Oz 1 (jm bI)<|ae 0 ⟨R,rfl,⟨_,al.of hR.lst⟩,λD hD=>?_⟩;refine mX (xs:=as.map λa=>V.ref a.1) (λi σ' H'=>(∃ v,σ'=[some<|.ref R]++[v])/\∃ bs:List<|Addr×Addr,bs.length=i/\H' D=some (.lst<|bs.map λa=> .ref a.1) /\
  (∀(j:Nat) a r,bs[j]?=some a->n[j]?=some r->H' a.1=some (.tup [.str r.1,.ref a.2])/\H' a.2=some (Ls r.2))/\(bs.map (·.2)).Nodup/\(∀ a∈bs,a.2≠D/\H a.1=none/\H a.2=none/\∃ zs,H' a.2=some (Ls zs))/\ak H H')
  ⟨⟨none,rfl⟩,[],rfl,az,λj a r h=>by simp at h,Db,λa h=>by simp at h,aQ hD _⟩ ?_ ?_ ?_
 ·rintro i σ' H' _ ⟨_,bs,_,_,_,_,_,sm⟩;exact al.of<|sm _ _ hR.lst
 ·rintro i x σ' H' hx ⟨⟨v,rfl⟩,bs,qU,j7,E5,E6,rD,sm⟩;have hi:i < n.length:=by
   have:=(Ad.mp hx).1;rw [Aa] at this;omega
  obtain⟨a,ea,db,et,el,er⟩:=(hR.same sm).at hi;rw [Ag,ea] at hx;cases hx;intro cl C' s₀ H₀ ex;refine bA 1 E4 ?_;intro cl C' s₀ H₀ ex;refine mP ?_;rw [BL rfl];intro cl C' s₀ H₀ ex;refine d7<|ah<|bh cI<|ae 1<|aF ⟨a.1,_,_,.str n[i].1,rfl,rfl,aW.of et,rfl,?_⟩;refine ah<|oQ KE T.jQ JV<|ah<|bh cI<|ae 1<|aF ⟨a.1,_,_,.ref a.2,rfl,rfl,aW.of et,rfl,?_⟩;refine ay ⟨a.2,_,rfl,.inl<|al.of el,λl hl=>ay ⟨Z2,λt ht=>?_⟩⟩;have fu:=gX sm hl;have xM:t≠l:=λe=>by rw [e,az] at ht;cases ht
  have gI:H' t=none:=by rw [aw xM] at ht;exact ht
  have xN:=gX sm gI;have xO:l≠D:=λe=>by rw [e] at hl;rw [hl] at j7;cases j7
  have pL:t≠D:=λe=>by rw [e] at gI;rw [gI] at j7;cases j7
  refine⟨bs.map λa=> .ref a.1,?_,?_,⟨_,rfl⟩,bs++[(t,l)],by rw [Ah,qU];rfl,?_,?_,?_,?_,?_⟩
  ·rw [aw<|Ne.symm pL,aw<|Ne.symm xO];exact j7
  ·rw [Aa];exact cn<|by omega
  ·rw [az,Al];rfl
  ·intro j b r hb jY
   by_cases hj:j < bs.length
   ·rw [Bp hj] at hb;obtain⟨q1,q2⟩:=E5 j b r hb jY;have ZP:=(rD b<|Ak hb).1;have n1:b.1≠D:=eF q1 j7 λz=>nomatch z;refine⟨?_,?_⟩
    ·rw [aw n1,aw<|bP q1 gI,aw<|bP q1 hl];exact q1
    ·rw [aw ZP,aw<|bP q2 gI,aw<|bP q2 hl];exact q2
   ·rw [Bs<|by omega] at hb;have lT:j - bs.length=0:=by
     have:=(Ad.mp hb).1;simp at this;omega
    have ZQ:j=i:=by omega
    rw [lT] at hb;cases hb;rw [ZQ,Ab hi] at jY;cases jY;refine⟨?_,?_⟩
    ·rw [aw pL,az]
    ·rw [aw xO,aw<|Ne.symm xM,az,er]
  ·rw [Al];refine oM E6 λhm=>?_;obtain⟨b,hb,e⟩:=Aj.mp hm;obtain⟨_,_,_,zs,q⟩:=rD b hb;have e':b.2=l:=e;rw [e',hl] at q;cases q
  ·intro b hb
   rcases Ap.mp hb with hb | hb
   ·obtain⟨q1,q2,q3,zs,q4⟩:=rD b hb;refine⟨q1,q2,q3,zs,?_⟩;rw [aw q1,aw<|bP q4 gI,aw<|bP q4 hl];exact q4
   ·rw [Ae.mp hb];refine⟨xO,xN,fu,row n i,?_⟩;rw [aw xO,aw<|Ne.symm xM,az]
  ·intro c o hc;rw [aw<|bP hc hD,aw<|bP hc xN,aw<|bP hc fu];exact sm _ _ hc
 ·rintro σ' H' ⟨_,bs,qU,j7,E5,E6,rD,sm⟩;rw [Aa] at qU;exact q D bs H' sm hD (λa ha=>⟨(rD a ha).2.1,(rD a ha).2.2.1⟩) ⟨by omega,j7,E5,E6⟩
theorem xP{n:Net}{r p:Nat}{z:Str}(hr:r < n.length)(hz:(row n r)[p]?=some z):∃ rest,bE n=(bE (n.take r)++bb r ((row n r).take p) 0)++(z,(r,p)) :: rest:=by
 have e1:bE n=bE (n.take<|r+1)++c8 (0+(n.take<|r+1).length) (n.drop<|r+1):=by
  have:=BE (n.take<|r+1) (n.drop<|r+1) 0;rw [Ct] at this;exact this
 have e2:bb r (row n r) 0=bb r ((row n r).take<|p+1) 0++bb r ((row n r).drop<|p+1) (0+((row n r).take<|p+1).length):=by
  unfold bb;rw [<- Al,<- MP,Ct]
 rw [e1,tR hr,e2,tS hz];refine⟨bb r ((row n r).drop<|p+1) (0+((row n r).take<|p+1).length)++c8 (0+(n.take<|r+1).length) (n.drop<|r+1),?_⟩;simp only [At,Ek,RN]
abbrev T3(x:Lk):HO:= .tup [.str x.1,.str x.2.1,.str x.2.2]
def lX(H:Hp)(us:List Addr)(ls:List Lk):Prop:=us.length=ls.length/\∀(j:Nat) u x,us[j]?=some u->ls[j]?=some x->H u=some (T3 x)
theorem lX.keep{H H':Hp}{us:List Addr}{ls:List Lk}(h:lX H us ls)(k:∀ t xs,H t=some (.tup xs)->H' t=some (.tup xs)):lX H' us ls:=⟨h.1,λj u x h1 h2=>k _ _<|h.2 j u x h1 h2⟩
theorem lX.snoc{H:Hp}{us:List Addr}{ls:List Lk}{u:Addr}{x:Lk}(h:lX H us ls)(hu:H u=some (T3 x)):lX H (us++[u]) (ls++[x]):=by
 refine⟨by rw [Ah,Ah,h.1];rfl,λj v y h1 h2=>?_⟩;have hl:=h.1
 by_cases hj:j < us.length
 ·rw [Bp hj] at h1;rw [Bp<|by omega] at h2;exact h.2 j v y h1 h2
 ·rw [Bs<|by omega] at h1 h2;have lT:j - us.length=0:=by
   have:=(Ad.mp h1).1;simp at this;omega
  rw [lT] at h1;rw [<- hl,lT] at h2;cases h1;cases h2;exact hu
def E7(ls:List Lk):Prop:=ls.Pairwise λx y=>x.1.cps.toList < y.1.cps.toList
def E8:Sp:=λvs H Q _=>∃(R:Addr) (as:List<|Addr×Addr) (n:Net),vs=[.ref R]/\ai H R as n/\aj n/\n.length<=1000/\(ag n).length<=60 /\
 ∀(L:Addr) (us:List Addr) (ls:List Lk) (H':Hp),ak H H'->H L=none->H' L=some (.lst<|us.map V.ref)->lX H' us ls->E7 ls->(∀ x,x∈ls↔lO n x)->ls.length<=60->Q (.ref L) H'
theorem OA{n:Net}(T:aj n){r p:Nat}{z:Str}(hr:r < n.length)(hz:(row n r)[p]?=some z):(bF (bE (n.take r)++bb r ((row n r).take p) 0) z).length<=1:=by
 obtain⟨rest,h⟩:=xP hr hz;have h1:bF (bE n) z=bF (bE (n.take r)++bb r ((row n r).take p) 0) z++(r,p) :: bF rest z:=by
  rw [h];unfold bF;rw [Cw,Al,RG<|by simp];rfl
 have h2:(bF (bE n) z).length=2:=by
  have:=oZ n z;rw [T z<|eX (e:=(r,p)) hz] at this;exact this
 rw [h1,Ah,Ax] at h2;omega
abbrev ZR:List Str:=["rows","met","links","point","ties","tie"]
theorem uF:au ZR ["rows"] (bj BI):=⟨rfl,rfl,rfl,by decide +kernel,rfl,by decide +kernel,by decide +kernel⟩
theorem ZS{f:Addr}{fd:FuncData}(F:bW K "links_of" "links_of" BI f fd)(T:Txt mg):aM P w K mg base cf 1 f fd ["rows"] E8:=by
 refine F.gb uF (λvs H Q E h=>?_) λb0 H vs Q E hr h=>?_
 ·obtain⟨R,as,n,rfl,_⟩:=h;rfl
 obtain⟨R,as,n,rfl,hR,hT,hn,jA,q⟩:=h;have nd:=uF.nd;have bM:=hR.len;have hu:=hr.u1;show Run _ _ _ [some<|.ref R,none,none,none,none,none] H;refine a9 1 nd<|wC λdm OB=>?_;refine a9 2 nd<|du<|ay ⟨Z0,λM hM=>?_⟩;have gY:M≠dm:=λe=>by rw [e,az] at hM;cases hM
 have uG:H M=none:=by rw [aw gY] at hM;exact hM
 have s0:ak H (upd (upd H dm<|.dK []) M<|.lst []):=(aQ OB _).trans<|aQ hM _;have nF:(upd (upd H dm<|.dK []) M<|.lst []) dm=some (.dK []):=by rw [aw<|Ne.symm gY,az]
 have nG:(upd (upd H dm<|.dK []) M<|.lst []) M=some (.lst []):=az;show Run _ _ _ [some<|.ref R,some<|.ref dm,some<|.ref M,none,none,none] (upd (upd H dm<|.dK []) M<|.lst []);generalize upd (upd H dm<|.dK []) M (.lst [])=H0 at s0 nF nG;have E9:(bE n).length=(ag n).length:=by rw [<- mU n 0,Aa];rfl
 refine jn<|ae 0 ⟨R,rfl,⟨_,al.of<|s0 _ _ hR.lst⟩,jo (xs:=as.map λa=>V.ref a.1) (λr σ H'=>∃(kM:List<|Key×V) (us:List Addr) (ls:List Lk) (u1 u2 u3:Option V),ak H H'/\H' dm=some (.dK kM)/\H' M=some (.lst<|us.map V.ref)/\lX H' us ls/\iP n (bE<|n.take r) kM ls/\σ=[some<|.ref R,some<|.ref dm,some<|.ref M,u1,u2,u3])
  ⟨[],[],[],_,_,_,s0,nF,nG,⟨rfl,λj u x h=>by simp at h⟩,iP.start n,rfl⟩ ?_ ?_ ?_⟩
 ·rintro r σ H' _ ⟨_,_,_,_,_,_,sm,_⟩;exact al.of<|sm _ _ hR.lst
 ·rintro r x σ H' hx ⟨kM,us,ls,u1,u2,u3,sm,ed,eM,eY,I,rfl⟩;have hi:r < n.length:=by
   have:=(Ad.mp hx).1;rw [Aa] at this;omega
  obtain⟨a,ea,db,et,el,er⟩:=(hR.same sm).at hi;rw [Ag,ea] at hx;cases hx;refine kL rfl (aW.of et) (bA 3 nd<|bA 4 nd ?_);refine jn<|ae 4 ⟨a.2,rfl,⟨_,al.of el⟩,jo (xs:=(row n r).map V.str) (λp σ dY=>∃(kM:List<|Key×V) (us:List Addr) (ls:List Lk) (u3:Option V),ak H dY/\dY a.2=some (Ls<|row n r)/\dY dm=some (.dK kM)/\dY M=some (.lst<|us.map V.ref)/\lX dY us ls/\iP n (bE (n.take r)++bb r ((row n r).take p) 0) kM ls/\σ=[some<|.ref R,some<|.ref dm,some<|.ref M,some<|.str n[r].1,some<|.ref a.2,u3])
   ⟨kM,us,ls,_,sm,el,ed,eM,eY,by simpa [bb] using I,rfl⟩ ?_ ?_ ?_⟩
  ·rintro p σ dY _ ⟨_,_,_,_,_,e,_⟩;exact al.of e
  ·rintro p x σ dY hx ⟨kM,us,ls,u3,sm,el,ed,eM,eY,I,rfl⟩;have hp:p < (row n r).length:=by
    have:=(Ad.mp hx).1;rw [Aa] at this;exact this
   have hz:(row n r)[p]?=some (row n r)[p]:=Ab hp;rw [Ag,hz] at hx;cases hx;have gR:=tS (r:=r) hz;have hle:=OA hT hi hz;have b9:(bE (n.take r)++bb r ((row n r).take p) 0).length<=60:=by
    obtain⟨rest,iQ⟩:=xP hi hz;have h1:=BZ List.length iQ;simp only [Ah] at h1 ⊢;omega
   have lM:=I.pz;have lL:=I.lP;have lA:=eY.1;have OC:ao n r=n[r].1:=b8 hi;have ZT:a.2≠M:=λe=>by
    have:=(hR.tup r a n[r] ea<|Ab hi).2;rw [e,uG] at this;cases this
   generalize (row n r)[p]=z at hz gR hle;refine bA 5 nd ?_;refine gq<|Wj hu<|ae 5<|ae 1 ⟨dm,_,rfl,bH.k (k:=Sum.inr z) ed,?_⟩;cases uH:bF (bE (n.take r)++bb r ((row n r).take p) 0) z with
   | nil=>
    rw [I.m0 z uH];show if false=true then _ else _;rw [BK<|by decide];refine tM hu<|ae 3<|ae 1<|ae 5 ⟨dm,_,rfl,cC.k (k:=Sum.inr z) ed (cn<|by omega),a8<|a8 ⟨_,us,ls,_,d9 sm OB,?_,az,?_,eY.keep λt xs h=>?_,?_,rfl⟩⟩
    ·rw [aw<|eF el ed λz=>nomatch z];exact el
    ·rw [aw gY];exact eM
    ·rw [aw<|eF h ed λz=>nomatch z];exact h
    ·rw [gR,<- At];have:=I.new (e:=(r,p)) uH;show iP n _ (putK kM (Sum.inr z)<|.str n[r].1) ls;rw [<- OC];exact this
   | cons b rest=>
    have ZU:rest=[]:=by
     rw [uH] at hle;exact Bk.mp<|by have:rest.length+1<=1:=hle;omega
    subst ZU;have vm:=I.m1 z b [] uH;rw [vm];show if true=true then _ else _;rw [BL rfl];refine fQ (jr<|ae 2 ⟨M,rfl,⟨_,eM⟩,d7<|ah<|ae 5<|ah<|qX hu<|ae 1<|ae 5 ⟨dm,.str<|ao n b.1,rfl,by rw [<- vm];exact bH.k (k:=Sum.inr z) ed,ah<|ae 3<|ay ⟨(by show 3<=sizeLine;decide),λt ht=>?_⟩⟩⟩);have sT:=aQ ht<|.tup [.str z,.str<|ao n b.1,.str n[r].1];have ntM:t≠M:=λe=>by rw [e,eM] at ht;cases ht
    have ZV:(upd dY t<|.tup [.str z,.str<|ao n b.1,.str n[r].1]) t=some (T3 (z,ao n b.1,ao n (r,p).1)):=by
     rw [az];show _=some (HO.tup [.str z,.str<|ao n b.1,.str<|ao n r]);rw [OC]
    have kT:∀ c xs,(upd dY t<|.tup [.str z,.str<|ao n b.1,.str n[r].1]) c=some (.tup xs)->(upd (upd dY t<|.tup [.str z,.str<|ao n b.1,.str n[r].1]) M<|.lst<|us.map V.ref++[.ref t]) c=some (.tup xs):=λc xs h=>by
     rw [aw<|eF h (sT _ _ eM) λz=>nomatch z];exact h
    refine⟨_,sT _ _ eM,by rw [Aa];exact cn (by omega),a8<|a8 ⟨kM,us++[t],ls++[(z,ao n b.1,ao n (r,p).1)],_,d9 (sm.trans sT) uG,?_,?_,?_,?_,?_,rfl⟩⟩
    ·rw [aw ZT];exact sT _ _ el
    ·rw [aw<|Ne.symm gY];exact sT _ _ ed
    ·rw [az,Al];rfl
    ·exact((eY.keep λc xs h=>sT _ _ h).snoc ZV).keep kT
    ·rw [gR,<- At];exact I.old (e:=(r,p)) uH
  ·rintro σ dY ⟨kM,us,ls,u3,sm,_,ed,eM,eY,I,rfl⟩;rw [Aa,Cb] at I;refine a8 ⟨kM,us,ls,_,_,_,sm,ed,eM,eY,?_,rfl⟩;rw [tR hi];exact I
 ·rintro σ H' ⟨kM,us,ls,u1,u2,u3,sm,ed,eM,eY,I,rfl⟩;rw [Aa,bM,Cb] at I;have lL:=I.lP;have lA:=eY.1;have aT:us.length < 64:=by omega
  refine cD (cK ZN T.sorted FT (ah (ae 2 (ay ⟨M,us,ls.map (·.1),rfl,al.of eM,by rw [Aa];exact lA,I.eU,aT,λi t z h1 h2=>?_,λL ps hL hp hs=>?_⟩))))
  ·rw [Ag,Az] at h2;obtain⟨x,hx,rfl⟩:=h2;exact⟨_,eY.2 i t x h1 hx⟩
  have pick:∀ p∈ps,∃ x,x∈ls/\x.1=p.2/\H' p.1=some (T3 x):=λp oY=>by
   have hz:=hp.mem_iff.mp oY;obtain⟨i,hi⟩:=An hz;rw [PN] at hi;obtain⟨h1,h2⟩:=hi;rw [Ag,Az] at h2;obtain⟨x,hx,e⟩:=h2;exact⟨x,Ak hx,e,eY.2 i _ x h1 hx⟩
  obtain⟨xs,lV⟩:∃ xs:List Lk,xs.length=ps.length/\∀(j:Nat) p x,ps[j]?=some p->xs[j]?=some x->x∈ls/\x.1=p.2/\H' p.1=some (T3 x):=by
   clear hs hp
   induction ps with
   | nil=>exact⟨[],rfl,λj p x h=>by simp at h⟩
   | cons p r ih=>
    obtain⟨x,q1,q2,q3⟩:=pick p<|Ac ..;obtain⟨xs,l1,l2⟩:=ih λc hc=>pick c<|Af _ hc;refine⟨x :: xs,by rw [Ax,Ax,l1],λj c y h1 h2=>?_⟩;cases j with
    | zero=>
     cases h1;cases h2;exact⟨q1,q2,q3⟩
    | succ j=>exact l2 j c y (by simpa using h1)<|by simpa using h2
  obtain⟨lx,lV⟩:=lV;have lp:ps.length=ls.length:=by rw [hp.length_eq,List.length_zip,Aa];omega
  have sL:=aQ hL<|.lst<|ps.map λp=> .ref p.1;have OG:E7 xs:=by
   unfold E7;rw [Bh];intro i j hi hj dD;have a1:=(lV i ps[i] xs[i] (Ab<|by omega)<|Ab hi).2.1;have a2:=(lV j ps[j] xs[j] (Ab<|by omega)<|Ab hj).2.1;rw [a1,a2];exact Bh.mp hs i j (by omega) (by omega) dD
  have pM:(xs.map (·.1)).Nodup:=by
   rw [Bv,Fd];exact OG.imp λh e=>by rw [e] at h;exact Gm _ h
  have iq:∀ x,x∈xs↔x∈ls:=λx=>by
   constructor
   ·intro h;obtain⟨j,hj⟩:=An h;have pq:=(Ad.mp hj).1;exact(lV j ps[j] x (Ab<|by omega) hj).1
   ·intro h;refine BX λhn=>?_;have E':xs.Nodup:=by
     rw [Bv] at pM ⊢;rw [Fd] at pM;exact pM.imp λh e=>h<|by rw [e]
    have:=aI E' (b:=ls.erase x) λz hz=>by
     have ZW:z∈ls:=by
      obtain⟨j,hj⟩:=An hz;have pq:=(Ad.mp hj).1;exact(lV j ps[j] z (Ab<|by omega) hj).1
     exact(Fc λe:z=x=>hn<|e ▸ hz).mpr ZW
    rw [Dy h] at this;have:0 < ls.length:=Ed h;omega
  refine q L (ps.map (·.1)) xs _ (sm.trans sL) (gX sm hL) (by rw [az,Bb];rfl) ⟨by rw [Aa];omega,λj u x h1 h2=>?_⟩ OG (λx=>by rw [iq x];exact I.whole hT x) (by omega);rw [Ag,Az] at h1;obtain⟨p,j4,rfl⟩:=h1;exact sL _ _ (lV j p x j4 h2).2.2
end
end A5
namespace L2
open PySem PySem.Spec PyProof.Rows
section
variable{X:Cx}{σ:St}{H:Hp}{Q:VK}
theorem OH{k v:Expr}{pos:Pos}(hu:X.A.units+1 < cLine)(h:∀ d,H d=none->Ev X k σ (upd H d<|.dK []) λy H1=>Ev X v σ H1 λx H2=>∃ H3,cC H2 d y x H3/\Q (.ref d) H3):Ev X (.Dict [some k] [v] pos) σ H Q:=by
 refine⟨λpins s I=>wpAny_Dict_any rfl rfl (by simp) (by show 1<=15;decide) ?_⟩;have I0:Inv X pins σ (upd H s.heap.objs.size<|.dK []) {s with heap:=s.heap.push {cls:= .type "dict",data:= .dict #[]}}:=I.laid (a:=s.heap.objs.size) (o:= .dK []) (t':=s.toks) (λ_ _ q=>Ai _ q) (Ao _)<|K4 s.heap I.big;show wpAny _ _ (evalPairs [(eval k X.env,do let x <- eval v X.env;standAt pos;pure x)]) _ _ _;unfold evalPairs;refine BJ<|aS ((h _ I.fresh).run pins _ I0) λkv s1 ⟨y,H1,I1,r1,h1⟩=>?_;refine BJ<|CP<|BJ<|aS (h1.run pins s1 I1) λvv s2 ⟨x,H2,I2,r2,H3,dp,q⟩=>?_;refine BJ<|FZ<|BP ?_;unfold evalPairs;refine BJ<|CP<|BP<|BP ?_;unfold storeAll;rw [Gx];refine BJ<|BJ<|Xk hu I2 dp r1 r2 λs' I'=>BP ?_;exact BP ⟨.ref _,H3,I',rfl,q⟩
end
end L2
namespace A5
open PySem L2 Nt bn
abbrev OI(x:Bl):HO:= .tup [.str x.1,.str x.2.1,.bl x.2.2]
def lY(H:Hp)(us:List Addr)(ls:List Bl):Prop:=us.length=ls.length/\∀(j:Nat) u x,us[j]?=some u->ls[j]?=some x->H u=some (OI x)
theorem lY.same{H H':Hp}{us:List Addr}{ls:List Bl}(h:lY H us ls)(s:ak H H'):lY H' us ls:=⟨h.1,λj u x h1 h2=>s _ _<|h.2 j u x h1 h2⟩
def FA:Sp:=λvs H Q _=>∃(f:Str) (L:Addr) (us:List Addr) (ls:List Bl),vs=[.str f,.ref L]/\H L=some (.lst<|us.map V.ref)/\lY H us ls/\ls.length<=60 /\
 ∀(d:Addr) (kvs:List<|Key×V) (H':Hp),ak H H'->H d=none->H' d=some (.dK kvs)->dw ls f none kvs []->Q (.ref d) H'
section
variable{P:Program}{w:World}{K:PySem.W.Frag}{mg:Str->Option Value}{base:Heap}
abbrev ZX:List Str:=["first","links","odds","waiting","here","one","other","odd","start","goal"]
theorem uI:au ZX ["first","links"] (bj BM):=⟨rfl,rfl,rfl,by decide +kernel,rfl,by decide +kernel,by decide +kernel⟩
theorem ZY(wt:List Str)(h:Str):(((wt++[h]).map V.str)[((wt++[h]).map V.str).length - 1]?=some (.str h))/\((wt++[h]).map V.str).dropLast=wt.map V.str:=by
 rw [Al]
 constructor
 ·simp
 ·exact List.dropLast_concat
theorem ZZ{f:Addr}{fd:FuncData}(F:bW K "spread" "spread" BM f fd)(T:Txt mg):aM P w K mg base cf 1 f fd ["first","links"] FA:=by
 refine F.gb uI (λvs H Q E h=>?_) λb0 H vs Q E hr h=>?_
 ·obtain⟨f,L,us,ls,rfl,_⟩:=h;rfl
 obtain⟨ft,L,us,ls,rfl,hL,eY,h60,q⟩:=h;have nd:=uI.nd;have hu:=hr.u1;have FC:=eY.1;show Run _ _ _ [some<|.str ft,some<|.ref L,none,none,none,none,none,none,none,none] H;refine a9 2 nd<|OH hu λd hd=>ae 0<|kD ⟨_,cC.k (k:=Sum.inr ft) az<|cn<|Ci _,?_⟩;rw [vT];refine a9 3 nd<|du<|ah<|ae 0<|ay ⟨Z1,λM hM=>?_⟩;have gY:M≠d:=λe=>by rw [e,az] at hM;cases hM
 have uG:H M=none:=by rw [aw gY] at hM;exact hM
 have s0:ak H (upd (upd H d<|.dK<|putK [] (Sum.inr ft)<|.bl false) M<|.lst [.str ft]):=(aQ hd _).trans<|aQ hM _;have nF:(upd (upd H d<|.dK<|putK [] (Sum.inr ft)<|.bl false) M<|.lst [.str ft]) d=some (.dK<|putK [] (Sum.inr ft)<|.bl false):=by rw [aw<|Ne.symm gY,az]
 have nG:(upd (upd H d<|.dK<|putK [] (Sum.inr ft)<|.bl false) M<|.lst [.str ft]) M=some (Ls [ft]):=az;show Run _ _ _ [some<|.str ft,some<|.ref L,some<|.ref d,some<|.ref M,none,none,none,none,none,none] (upd (upd H d<|.dK<|putK [] (Sum.inr ft)<|.bl false) M<|.lst [.str ft]);generalize upd (upd H d<|.dK<|putK [] (Sum.inr ft)<|.bl false) M (.lst [.str ft])=H0 at s0 nF nG;refine wB (λm σ H'=>m<=1000/\∃(kvs:List<|Key×V) (wt:List Str) (u4 u5 u6 u7 u8 u9:Option V),ak H H'/\H' d=some (.dK kvs)/\H' M=some (Ls wt)/\dw ls ft none kvs wt/\m=2 * (1+2 * ls.length - kvs.length)+wt.length /\
   σ=[some<|.str ft,some<|.ref L,some<|.ref d,some<|.ref M,u4,u5,u6,u7,u8,u9]) (m0:=2 * (1+2 * ls.length - 1)+1)
  ⟨by omega,_,[ft],_,_,_,_,_,_,s0,nF,nG,dw.start ls ft,rfl,rfl⟩ ?_
 rintro m σ H1 ⟨hm,kvs,wt,u4,u5,u6,u7,u8,u9,s1,OL,FD,I,em,rfl⟩;refine Ve<|ae 3 (v:= .ref M) ⟨!wt.isEmpty,Or.inl ⟨wt.map V.str,al.of FD,by cases wt <;> rfl⟩,?_⟩
 rcases SJ wt with e | ⟨j8,hh,e⟩
 ·subst e;rw [BK<|by decide];exact cD<|ae 2<|q d kvs H1 s1 hd OL I
 rw [SM] at e;subst e;rw [BL<|by cases j8 <;> rfl];obtain⟨hy,gA⟩:=ZY j8 hh;refine a9 4 nd<|Mg CZ KH KJ KO<|ae 3 (v:= .ref M) ⟨Or.inl ⟨rfl,_,al.of FD⟩,M,_,.str hh,rfl,rfl,FD,hy,?_⟩;rw [gA];have I1:=I.pop;have lw:(j8++[hh]).length=j8.length+1:=by rw [Ah];rfl
 rw [lw] at em;have lZ:∀{H':Hp},ak H H'->H' L=some (.lst<|us.map V.ref):=λs=>s _ _ hL;show Run _ _ _ [some<|.str ft,some<|.ref L,some<|.ref d,some<|.ref M,some<|.str hh,u5,u6,u7,u8,u9] (upd H1 M<|Ls j8);have s2:ak H (upd H1 M<|Ls j8):=d9 s1 uG;have j9:(upd H1 M<|Ls j8) d=some (.dK kvs):=by rw [aw<|Ne.symm gY];exact OL
 have kX:(upd H1 M<|Ls j8) M=some (Ls j8):=az;generalize upd H1 M (Ls j8)=H2 at s2 j9 kX;refine jn<|ae 1 ⟨L,rfl,⟨_,al.of<|lZ s2⟩,jo (xs:=us.map V.ref) (λj σ H'=>∃(kvs:List<|Key×V) (wt:List Str) (u5 u6 u7 u8 u9:Option V),ak H H'/\H' d=some (.dK kvs)/\H' M=some (Ls wt)/\dw ls ft (some hh) kvs wt/\2 * (1+2 * ls.length - kvs.length)+wt.length < m /\
   (∀ l∈ls.take j,(l.1=hh->has kvs l.2.1)/\(l.2.1=hh->has kvs l.1))/\σ=[some<|.str ft,some<|.ref L,some<|.ref d,some<|.ref M,some<|.str hh,u5,u6,u7,u8,u9])
  ⟨kvs,j8,_,_,_,_,_,s2,j9,kX,I1,by omega,λl hl=>by simp at hl,rfl⟩ ?_ ?_ ?_⟩
 ·rintro j σ H' _ ⟨_,_,_,_,_,_,_,sm,_⟩;exact al.of<|lZ sm
 ·rintro j x σ H3 hx ⟨kvs,wt,u5,u6,u7,u8,u9,s3,ed,eM,I,aT,b9,rfl⟩;rw [Ag,Az] at hx;obtain⟨u,ju,rfl⟩:=hx;have hj:j < ls.length:=by
   have:=(Ad.mp ju).1;omega
  have OM:ls[j]?=some ls[j]:=Ab hj;have pJ:=(eY.same s3).2 j u _ ju OM;have iq:ls[j]∈ls:=Ay hj;have xQ:∀ l∈ls.take (j+1),l∈ls.take j\/l=ls[j]:=λl hl=>by
   rw [Cr,OM] at hl
   rcases Ap.mp hl with q | q
   ·exact .inl q
   ·exact .inr<|by simpa using q
  generalize ls[j]=lx at pJ iq xQ;obtain⟨on,ot,od⟩:=lx;refine Oy rfl (aW.of pJ) (bA 5 nd<|bA 6 nd<|bA 7 nd ?_);show Run _ _ _ [some<|.str ft,some<|.ref L,some<|.ref d,some<|.ref M,some<|.str hh,some<|.str on,some<|.str ot,some<|.bl od,u8,u9] H3;refine Vi<|d7<|ah<|d7<|ah<|ae 5<|ah<|ae 6<|ay ⟨Z2,λt1 rC=>?_⟩;refine ah<|d7<|ah<|ae 6<|ah<|ae 5<|ay ⟨Z2,λt2 cU=>ay ⟨Z2,λtt Z3=>?_⟩⟩;have n1:=aQ rC<|.tup [.str on,.str ot];have n2:=aQ cU<|.tup [.str ot,.str on];have n3:=aQ Z3<|.tup [.ref t1,.ref t2];have e1:=n3 _ _<|n2 _ _<|az (H:=H3) (a:=t1) (o:= .tup [.str on,.str ot]);have e2:=n3 _ _<|az (H:=upd H3 t1<|.tup [.str on,.str ot]) (a:=t2) (o:= .tup [.str ot,.str on]);have e3:=az (H:=upd (upd H3 t1<|.tup [.str on,.str ot]) t2<|.tup [.str ot,.str on]) (a:=tt) (o:= .tup [.ref t1,.ref t2]);have n:=n1.trans<|n2.trans n3;refine⟨tt,rfl,⟨_,aW.of e3⟩,?_⟩;generalize upd (upd (upd H3 t1<|.tup [.str on,.str ot]) t2<|.tup [.str ot,.str on]) tt (.tup [.ref t1,.ref t2])=H4 at e1 e2 e3 n;refine Vj (xs:=[.ref t1,.ref t2]) (λi σ H'=>∃(kvs:List<|Key×V) (wt:List Str) (u8 u9:Option V),ak H H'/\H' d=some (.dK kvs)/\H' M=some (Ls wt)/\H' t1=some (.tup [.str on,.str ot])/\H' t2=some (.tup [.str ot,.str on])/\H' tt=some (.tup [.ref t1,.ref t2])/\dw ls ft (some hh) kvs wt/\2 * (1+2 * ls.length - kvs.length)+wt.length < m /\
   (∀ l∈ls.take j,(l.1=hh->has kvs l.2.1)/\(l.2.1=hh->has kvs l.1))/\(0 < i->on=hh->has kvs ot)/\(1 < i->ot=hh->has kvs on)/\σ=[some<|.str ft,some<|.ref L,some<|.ref d,some<|.ref M,some<|.str hh,some<|.str on,some<|.str ot,some<|.bl od,u8,u9])
   ⟨kvs,wt,_,_,s3.trans n,n _ _ ed,n _ _ eM,e1,e2,e3,I,aT,b9,λh=>absurd h (by decide),λh=>absurd h (by decide),rfl⟩ ?_ ?_ ?_
  ·rintro i σ H' _ ⟨_,_,_,_,_,_,_,_,_,e,_⟩;exact aW.of e
  ·rintro i x σ H5 hx ⟨kvs,wt,u8,u9,s5,ed,eM,e1,e2,e3,I,aT,b9,d1,d2,rfl⟩;obtain⟨st,gl,t,rfl,et,FE,gF⟩:∃ st gl t,x = .ref t/\H5 t=some (.tup [.str st,.str gl])/\pA ls st gl od/\∀ i',(∀ y,has kvs y->has i' y)->(st=hh->has i' gl)->(0 < i+1->on=hh->has i' ot)/\(1 < i+1->ot=hh->has i' on):=by
    match i with
    | 0=>
     cases hx;exact⟨on,ot,t1,rfl,e1,.inl iq,λi' mo h=>⟨λ_=>h,λh=>absurd h<|by decide⟩⟩
    | 1=>
     cases hx;exact⟨ot,on,t2,rfl,e2,.inr iq,λi' mo h=>⟨λ_ e=>mo _ (d1 (by decide) e),λ_=>h⟩⟩
    | i+2=>simp at hx
   refine kL rfl (aW.of et) (bA 8 nd<|bA 9 nd ?_);show Run _ _ _ [some<|.str ft,some<|.ref L,some<|.ref d,some<|.ref M,some<|.str hh,some<|.str on,some<|.str ot,some<|.bl od,some<|.str st,some<|.str gl] H5;have skip:(st=hh->has kvs gl)->∃(kvs:List<|Key×V) (wt:List Str) (u8 u9:Option V),ak H H5/\H5 d=some (.dK kvs)/\H5 M=some (Ls wt)/\H5 t1=some (.tup [.str on,.str ot])/\H5 t2=some (.tup [.str ot,.str on])/\H5 tt=some (.tup [.ref t1,.ref t2])/\dw ls ft (some hh) kvs wt/\2 * (1+2 * ls.length - kvs.length)+wt.length < m /\
     (∀ l∈ls.take j,(l.1=hh->has kvs l.2.1)/\(l.2.1=hh->has kvs l.1))/\(0 < i+1->on=hh->has kvs ot)/\(1 < i+1->ot=hh->has kvs on)/\[some<|V.str ft,some<|.ref L,some<|.ref d,some<|.ref M,some<|.str hh,some<|.str on,some<|.str ot,some<|.bl od,some<|.str st,some<|.str gl]=[some<|.str ft,some<|.ref L,some<|.ref d,some<|.ref M,some<|.str hh,some<|.str on,some<|.str ot,some<|.bl od,u8,u9]:=λh=>
    ⟨kvs,wt,_,_,s5,ed,eM,e1,e2,e3,I,aT,b9,(gF kvs (λ_ h=>h) h).1,(gF kvs (λ_ h=>h) h).2,rfl⟩
   refine gq<|zX<|Le<|dv g9<|ae 8<|ae 4 ⟨rfl,_,rfl,?_⟩
   by_cases cR:st=hh
   ·rw [BL<|BR<|by rw [cR]];refine Lf<|A8 hu<|ae 9<|ae 2 ⟨d,_,rfl,bH.k (k:=Sum.inr gl) ed,?_⟩;cases hg:aA kvs (Sum.inr gl) with
    | some v=>
     show if false=true then _ else _;rw [BK<|by decide];exact a8<|a8<|skip λ_=>⟨v,hg⟩
    | none=>
     show if true=true then _ else _;rw [BL rfl];have Z4:has kvs hh:=by
      rcases I.Yx with q
      exact q
     obtain⟨v,hv⟩:=Z4;obtain⟨b,rfl,_⟩:=I.val hh v hv;subst cR;have I':=I.add (o:=od) hg hv FE;have lk:=I.len;have FG:=I'.len;have kN:(putK kvs (Sum.inr gl)<|.bl<|b != od).length=kvs.length+1:=by
      have uf:=I.jX hg;have:=BZ List.length<|m8 kvs (Sum.inr gl)<|.bl<|b != od;rw [BK uf,Ah,Aa,Aa] at this;exact this
     refine tM hu (mI qA<|qX hu<|ae 2<|ae 4 ⟨d,.bl b,rfl,by rw [<- hv];exact bH.k (k:=Sum.inr st) ed,ae 7 ⟨rfl,?_⟩⟩);rw [y9];refine ae 2 (ae 9 ⟨d,_,rfl,cC.k (k:=Sum.inr gl) ed (cn<|by omega),?_⟩);have uJ:(upd H5 d<|.dK<|putK kvs (Sum.inr gl)<|.bl<|b != od) M=some (Ls wt):=by rw [aw gY];exact eM
     refine fQ (jr<|ae 3 ⟨M,rfl,⟨_,uJ⟩,ae 9 ⟨_,uJ,by rw [Aa];exact cn (by omega),?_⟩⟩);have kT:∀ c xs,H5 c=some (.tup xs)->(upd (upd H5 d<|.dK<|putK kvs (Sum.inr gl)<|.bl<|b != od) M<|.lst<|wt.map V.str++[.str gl]) c=some (.tup xs):=λc xs h=>by
      rw [aw (eF h eM λz=>nomatch z),aw<|eF h ed λz=>nomatch z];exact h
     have mo:∀ y,has kvs y->has (putK kvs (Sum.inr gl)<|.bl<|b != od) y:=λy h=>ud h;have hn:=gF _ mo (λ_=>⟨.bl<|b != od,by rw [fm,BL rfl]⟩);refine a8<|a8 ⟨_,wt++[gl],_,_,d9 (d9 s5 hd) uG,?_,?_,kT _ _ e1,kT _ _ e2,kT _ _ e3,I',?_,λl hl=>⟨λe=>mo _<|(b9 l hl).1 e,λe=>mo _<|(b9 l hl).2 e⟩,hn.1,hn.2,rfl⟩
     ·rw [aw<|Ne.symm gY];exact az
     ·rw [az];show some (HO.lst<|wt.map V.str++[.str gl])=some (HO.lst<|(wt++[gl]).map V.str);rw [Al];rfl
     ·rw [kN,Ah];rw [kN] at FG;show _+(wt.length+1) < m;omega
   ·rw [BK λh=>cR<|V.str.inj<|CG h];show if false=true then _ else _;rw [BK<|by decide];exact a8<|a8<|skip λh=>absurd h cR
  ·rintro σ H5 ⟨kvs,wt,u8,u9,s5,ed,eM,_,_,_,I,aT,b9,d1,d2,rfl⟩;refine a8 ⟨kvs,wt,_,_,_,_,_,s5,ed,eM,I,aT,λl hl=>?_,rfl⟩
   rcases xQ l hl with q | q
   ·exact b9 l q
   ·subst q;exact⟨d1 (by show 0 < 2;decide),d2<|by show 1 < 2;decide⟩
 ·rintro σ H3 ⟨kvs,wt,u5,u6,u7,u8,u9,s3,ed,eM,I,aT,b9,rfl⟩;rw [Aa,FC,Cb] at b9;refine a8 ⟨_,aT,by omega,kvs,wt,_,_,_,_,_,_,s3,ed,eM,I.close λy o ht=>?_,rfl,rfl⟩
  rcases ht with h | h
  ·exact(b9 _ h).1 rfl
  ·exact(b9 _ h).2 rfl
end
end A5
namespace L2
open PySem PySem.Spec PyProof.Rows b6
section
variable{prog:Program}{w:World}{A:Around}{E:Value->Shared->Prop}{s:Shared}{T:String}{r d:Addr}{n:Nat}{P:Nat->Value->Prop}{OK:Heap->Prop}
end
section
variable{X:Cx}
end
end L2
namespace L2
open PySem PySem.Spec PyProof.Rows
section
end
section
variable{X:Cx}
theorem OO(z:Str):∀ zs:List Str,countIn (.str z) (zs.map PyData.str)=(zs.count z:Int)
 | []=>rfl
 | y :: r=>by
  rw [Bd,countIn,OO z r,Dh];simp only [same]
  rcases Bool.eq_false_or_eq_true (y == z) with hb | hb <;> simp only [hb,Cc,DW,CW] <;> push_cast <;> omega
def Z5(K:PySem.W.Frag):V->List V->Hp->VK->Prop:=λx vs H Q=>∃(l:Addr) (zs:List Str) (z:Str),x = .ref l/\vs=[.str z]/\al K H l (zs.map V.str)/\Q (.int (zs.count z:Int)) H
theorem Z6:mE X "list.count" (Z5 X.K):=by
 intro pins s σ H x vs v us Q I rx rv h;obtain⟨l,zs,z,rfl,rfl,hH,q⟩:=h;cases rx;obtain⟨u,rfl,ru⟩:=rv.one;obtain⟨tk,rfl⟩:=ru;obtain⟨its,r,pl,hz⟩:=I.list hH;refine count_list_strs pl.isList (AX r) ?_;rw [OO];exact⟨.int (zs.count z:Int),H,I.tok _,⟨_,rfl⟩,q⟩
end
section
variable{X:Cx}{σ:St}{H:Hp}{D:Ends}{body:List Stmt}
end
section
variable{X:Cx}{σ:St}{H:Hp}
def Z7(K:PySem.W.Frag):V->List V->Hp->VK->Prop:=λx vs H Q=>∃(l:Addr) (zs:List Str) (z:Str) (j:Nat),x = .ref l/\vs=[.str z]/\al K H l (zs.map V.str)/\zs[j]?=some z/\z∉zs.take j/\j < 100000/\Q (.int (j:Int)) H
theorem Z8:mE X "list.index" (Z7 X.K):=by
 intro pins s σ H x vs v us Q I rx rv h;obtain⟨l,zs,z,j,rfl,rfl,hH,hj,uK,xt,q⟩:=h;cases rx;obtain⟨u,rfl,ru⟩:=rv.one;obtain⟨tk,rfl⟩:=ru;obtain⟨its,r,pl,hz⟩:=I.list hH;have hlen:=r.length;rw [Aa] at hlen;have pq:=(Ad.mp hj).1;have val:∀(m:Nat) (hm:m < its.length),∃ y t,zs[m]?=some y/\its[m]=Value.str y t:=λm hm=>by
  obtain⟨w,hw,bT⟩:=r.get (i:=m) (x:= .str<|zs[m]'(by omega)) (by rw [Ag,Ab<|by omega];rfl);rw [Ab hm] at hw;obtain⟨t,rfl⟩:=bT;exact⟨_,t,Ab (by omega),Option.some.inj hw⟩
 obtain⟨⟨cls,dd,data,sl⟩,ho,hc,n,hd⟩:=id pl.isList;simp only at hc hd;subst hc hd;refine JD RJ ⟨_,ho,rfl⟩ PySem.F.entry_list_index (PySem.F.args_list_index_2 _ _) (SeqAt.list_indexAt l its.toArray n dd sl (.str z tk) (fO<|.str z) j (by simp;omega) (by omega) ?_ λm hm aT=>?_) ⟨ho,λy hy=>qF (show RelV (.str z) (.str z tk) from⟨tk,rfl⟩) rfl r (C1 zs) y (by simpa using hy),?_⟩
 ·obtain⟨y,t,e1,e2⟩:=val j (by omega);rw [hj] at e1;cases e1;show fO (.str z) its[j]=true;rw [e2];show(z == z)=true;simp
 ·obtain⟨y,t,e1,e2⟩:=val m (by simpa using hm);show fO (.str z) (its[m]'(by simpa using hm))=false;rw [e2];show(y == z)=false;refine beq_eq_false_iff_ne.mpr λk=>uK ?_;rw [<- k];exact Ak (i:=m)<|by rw [List.getElem?_take,BL aT];exact e1
 ·exact⟨.int (j:Int),H,I.tok _,⟨_,rfl⟩,q⟩
theorem Z9{e1 e2:Expr}{k:Nat}{pos:Pos}{l:Addr}{x y:V}{R:St->Hp->Prop}(hc:X.calm=true)(hl:al X.K H l [x,y])(h:Eg X e1 x σ H λσ1 H1=>Eg X e2 y σ1 H1 R)
  (hn:(assignEach [e1,e2] X.env).length=2:=by rfl) (cR:(assignEach [e1,e2] X.env).findIdx? (·.1)=none:=by rfl)
  (hs:(assignEach [e1,e2] X.env).map (·.2)=[assign e1 X.env,assign e2 X.env]:=by rfl):Eg X (.Tuple [e1,e2] k pos) (.ref l) σ H R:=by
 refine⟨λpins s u I r=>?_⟩;cases r;obtain⟨its,rv,pl,_⟩:=I.list hl;cases rv with
 | cons r0 rv=>
 cases rv with
 | cons r1 rv=>
 cases rv;rename_i u0 u1;rw [assign_Tuple];refine BJ<|FZ ?_;unfold unpack;rw [hn,cR,hs];refine BJ<|CP<|PySem.W.kun_itemsOf (items:=#[u0,u1]) (I.ok.hd hc) pl.isList λh' eb=>?_;have I1:Inv X pins σ H {s with heap:=h'}:=I.kept (t':=s.toks) λb o e=>eb b o (Cg<|Av e) e;refine KQ<|aS (h.run pins _ _ I1 r0) λ_ s3 ⟨σ3,H3,I3,q3⟩=>?_;refine KQ<|aS (q3.run pins _ _ I3 r1) λ_ s4 ⟨σ4,H4,I4,q4⟩=>?_;exact BP ⟨σ4,H4,I4,q4⟩
end
structure Xo(h:Heap)(e T:Addr)(C fl:Value):Prop where
 ex:∃ oe vs,h.get? e=some oe/\oe.cls=C/\oe.dict=none/\oe.data = .fields vs/\vs[1]?=some (.ref T)/\vs[2]?=some .none
 ne:T≠e
 tr:∃ oT ts,h.get? T=some oT/\oT.data = .fields ts/\ts[3]?=some fl
structure Kp(fs bad:List Addr)(h h':Heap):Prop where
 keep:∀ b o,h.get? b=some o->b∉fs->b∉bad->h'.get? b=some o
 slot:∀ b o,h.get? b=some o->b∈fs->∃ sl,h'.get? b=some {o with slots:=sl}
theorem Z'(o:Obj)(f:Array Value->Array Value):(o.mapFields f).dict=o.dict:=by
 obtain⟨c,d,dt,sl⟩:=o;cases dt <;> rfl
section
variable{M:Model}{A:Around}{E:Value->Shared->Prop}{s:Shared}
theorem OQ{base:Heap}{env:Env}{outer:List Env}{L e:Addr}{oe:Obj}{vs:Array Value}{head:Value}{nx:Bool}{Q:Unit->Shared->Prop}(iH:A.frames=some (env :: outer))(hl:s.heap.FunFrames base<|env :: outer)(hf:env.frame=some L)
  (he:s.heap.get? e=some oe) (hd:oe.data = .fields vs) (nH:oe.dict=none) (h1:1 < vs.size) (h2:vs[2]?=some .none)
  (h:∀ h' T,s.heap.get? T=none->Xo h' e T oe.cls .none->Kp (dj<|env :: outer) [e] s.heap h'->Q () {s with heap:=h'}) :
  wpAny M A (do let a <- frameOf env;let pl <- entryPlaceOf L nx;let b <- EntryCells.newEntry head a .none (rawInt L) .none pl;setField (.ref e) 1 b) (λ_ s'=>wpAny M A (setFlight (.ref e) none) Q E s') E s:=by
 have OS:e∉dj (env :: outer):=λhm=>by
  obtain⟨_,o,ho,hn⟩:=hl.mem hm;rw [he] at ho;cases ho;exact hn vs hd
 refine BJ<|wpAny_frameOf_fun iH hl hf λha sa=>?_;refine BJ<|wpAny_entryPlaceOf λpl ip=>?_;unfold EntryCells.newEntry newFields;refine BJ<|FW ?_<|ip.sizeOk5 _ _ _ _ _;generalize hT:({cls:= .type "traceback",dict:=none,data:= .fields ([head,.ref L,.none,rawInt L,.none]++(if pl.isEmpty then List.replicate 6 Value.none else pl)).toArray}:Obj)=oT;have ea:ha.get? e=some oe:=(sa.2.1 e OS).trans he;have eb:(ha.push oT).get? e=some oe:=Ai _ ea;have tb:(ha.push oT).get? ha.objs.size=some oT:=Be ha (by rw [<- hT];rfl);have FH:ha.objs.size≠e:=Dc<|Av ea;refine DG eb hd h1 ?_;have dc:=JQ hd (·.setIfInBounds 1 (Value.ref ha.objs.size));have ec:=Cs (Obj.mapFields (·.setIfInBounds 1 (Value.ref ha.objs.size))) eb<|JC dc;have tc:((ha.push oT).update e (Obj.mapFields (·.setIfInBounds 1 (Value.ref ha.objs.size)))).get? ha.objs.size=some oT:=(Bg _ _<|Ne.symm FH).trans tb;unfold setFlight;refine BJ (MJ ec dc (x:= .ref ha.objs.size) (by simp [h1]) ?_);rw [BL (show(Value.ref ha.objs.size != Value.none)=true from by simp)];have dT:oT.data = .fields ([head,.ref L,.none,rawInt L,.none]++(if pl.isEmpty then List.replicate 6 Value.none else pl)).toArray:=by rw [<- hT]
 have sz:3 < ([head,.ref L,.none,rawInt L,.none]++(if pl.isEmpty then List.replicate 6 Value.none else pl)).toArray.size:=by
  simp only [Aw,Ah,Ax,Gb];omega
 refine DG tc dT sz<|h _ ha.objs.size (by
  cases hq:s.heap.get? ha.objs.size with
  | none=>rfl
  | some o=>
   obtain⟨sl,z⟩:=sa.2.2 _ o hq;exact absurd (Av z)<|Cu _) ?_ ?_
 ·have dd:=JQ dT (·.setIfInBounds 3 ((none:Option Addr).elim Value.none λf=>rawInt f));refine⟨⟨_,_,(Bg _ _ FH).trans ec,Obj.cls_mapFields _ _,by rw [Z'];exact nH,dc,by simp [h1],by rw [Array.getElem?_setIfInBounds_ne<|by decide];exact h2⟩,FH,⟨_,_,Cs _ tc<|JC dd,dd,?_⟩⟩;rw [Ft sz];rfl
 ·have kp:∀ b o,b≠e->ha.get? b=some o->(((ha.push oT).update e (Obj.mapFields (·.setIfInBounds 1 (Value.ref ha.objs.size)))).update ha.objs.size (Obj.mapFields (·.setIfInBounds 3 ((none:Option Addr).elim Value.none λf=>rawInt f)))).get? b=some o:=λb o hb q=>by
   rw [Bg _ _<|Dc<|Av q,Bg _ _<|Ne.symm hb];exact Ai _ q
  refine⟨λb o q nf nb=>kp b o (λz=>nb<|by simp [z])<|(sa.2.1 b nf).trans q,λb o q hb=>?_⟩;obtain⟨sl,z⟩:=sa.2.2 b o q;exact⟨sl,kp b _ (λy=>OS<|y ▸ hb) z⟩
theorem q0i{base:Heap}{env:Env}{outer:List Env}{L e:Addr}{oe:Obj}{vs:Array Value}{Q:Unit->Shared->Prop}(iH:A.frames=some (env :: outer))(hl:s.heap.FunFrames base<|env :: outer)(hf:env.frame=some L)
  (he:s.heap.get? e=some oe) (hd:oe.data = .fields vs) (nH:oe.dict=none) (h1:vs[1]?=some .none) (h2:vs[2]?=some .none)
  (h:∀ h' T,s.heap.get? T=none->Xo h' e T oe.cls .none->Kp (dj<|env :: outer) [e] s.heap h'->Q () {s with heap:=h'}) :
  wpAny M A (noteFrame (.ref e) env) (λ_ s'=>wpAny M A (setFlight (.ref e) none) Q E s') E s:=by
 unfold noteFrame;simp only [hf];refine BJ<|MJ he hd h1 ?_;rw [BK<|by decide];exact OQ iH hl hf he hd nH (Ep.mp h1).1 h2 h
theorem OT{base:Heap}{env:Env}{outer:List Env}{L e T:Addr}{C:Value}{Q:Unit->Shared->Prop}(iH:A.frames=some (env :: outer))(hl:s.heap.FunFrames base<|env :: outer)(hf:env.frame=some L)(x:Xo s.heap e T C .none)
  (h:∀ h' T',s.heap.get? T'=none->Xo h' e T' C .none->Kp (dj<|env :: outer) [e,T] s.heap h'->Q () {s with heap:=h'}) :
  wpAny M A (noteFrame (.ref e) env) (λ_ s'=>wpAny M A (setFlight (.ref e) none) Q E s') E s:=by
 obtain⟨⟨oe,vs,he,hc,nH,hd,h1,h2⟩,a7,⟨oT,ts,hT,dT,h3⟩⟩:=x;subst hc;unfold noteFrame;simp only [hf];refine BJ<|MJ he hd h1 ?_;rw [BL (show(Value.ref T != Value.none)=true from by simp)];refine BJ<|MJ hT dT h3 ?_;rw [BK (show ¬((Value.none == rawInt L)=true) from by simp [rawInt])];refine BJ<|DG hT dT (Ep.mp h3).1 ?_;have nT:∀ b,b≠T->(s.heap.update T (Obj.mapFields (·.setIfInBounds 3 Value.none))).get? b=s.heap.get? b:=λb hb=>Bg _ _<|Ne.symm hb;have OU:∀ b o,s.heap.get? b=some o->(∀ vs,o.data ≠ .fields vs)->b≠T:=λb o q hn z=>by
  rw [z,hT] at q;cases q;exact hn ts dT
 have nf:T∉dj (env :: outer):=λhm=>by
  obtain⟨_,o,ho,hn⟩:=hl.mem hm;exact OU T o ho hn rfl
 refine OQ iH (hl.of_keeps λb o q hn=>⟨o,(nT b<|OU b o q hn).trans q,rfl⟩) hf ((nT e<|Ne.symm a7).trans he) hd nH (Ep.mp h1).1 h2 λh' T' z x k=>h h' T' ?_ x ⟨λb o q n1 n2=>?_,λb o q hb=>?_⟩
 ·cases hq:s.heap.get? T' with
  | none=>rfl
  | some o=>
   by_cases y:T'=T
   ·have:=Cs (Obj.mapFields (·.setIfInBounds 3 Value.none)) hT<|JC<|JQ dT _;rw [y] at z;exact absurd (this.symm.trans z)<|by simp
   ·have:=(nT T' y).trans hq;exact absurd (this.symm.trans z)<|by simp
 ·have n3:b≠T:=λy=>n2 (by simp [y]);exact k.keep b o ((nT b n3).trans q) n1 λy=>n2<|by simp at y;simp [y]
 ·exact k.slot b o ((nT b λy=>nf<|y ▸ hb).trans q) hb
theorem OV{e T:Addr}{C:Value}{Q:Unit->Shared->Prop}(x:Xo s.heap e T C .none)(h:∀ h',Xo h' e T C .none->(∀ b o,b≠T->s.heap.get? b=some o->h'.get? b=some o)->Q () {s with heap:=h'}):wpAny M A (setFlight (.ref e) none) Q E s:=by
 obtain⟨⟨oe,vs,he,hc,nH,hd,h1,h2⟩,a7,⟨oT,ts,hT,dT,h3⟩⟩:=x;unfold setFlight;refine BJ<|MJ he hd h1 ?_;rw [BL (show(Value.ref T != Value.none)=true from by simp)];have sz:=(Ep.mp h3).1;have dd:=JQ dT (·.setIfInBounds 3 ((none:Option Addr).elim Value.none λf=>rawInt f));refine DG hT dT sz<|h _ ⟨⟨oe,vs,(Bg _ _ a7).trans he,hc,nH,hd,h1,h2⟩,a7,⟨_,_,Cs _ hT<|JC dd,dd,?_⟩⟩ λb o hb q=>(Bg _ _<|Ne.symm hb).trans q;rw [Ft sz];rfl
end
theorem xR{fs f2 bad:List Addr}{H H':Hp}{h h1 h2:Heap}(u:Un fs [] H H' h h1)(k:Kp f2 bad h1 h2)(hf:∀ b o,h.get? b=some o->b∈f2->b∈fs)(hb:∀ b∈bad,h.get? b=none):Un fs [] H H' h h2:=by
 have nb:∀ b o,h.get? b=some o->b∉bad:=λb o q z=>by rw [hb b z] at q;cases q
 refine⟨λb o q n nf _=>k.keep b o (u.keep b o q n nf<|by simp) (λz=>nf<|hf b o q z)<|nb b o q,λb o q n hm _=>?_,u.free,λb o q _=>?_,u.eG,u.dO,u.eI⟩
 ·obtain⟨sl,z⟩:=u.slot b o q n hm<|by simp
  by_cases y:b∈f2
  ·obtain⟨vW,z'⟩:=k.slot b _ z y;exact⟨vW,z'⟩
  ·exact⟨sl,k.keep b _ z y<|nb b o q⟩
 ·obtain⟨o',z⟩:=u.there b o q<|by simp
  by_cases y:b∈f2
  ·obtain⟨vW,z'⟩:=k.slot b _ z y;exact⟨_,z'⟩
  ·exact⟨o',k.keep b _ z y<|nb b o q⟩
theorem FI{P:Program}{w:World}{f2 bad:List Addr}{H:Hp}{h1 h2:Heap}(x:cg P w H h1)(k:Kp f2 bad h1 h2)(hf:∀ b∈f2,H b=none)(hb:∀ b∈bad,H b=none):cg P w H h2:=λa o e=>by
 refine(x a o e).g8 (λb u hh q=>k.keep b u q (λz=>?_) λz=>?_) (λ_ q=>q) λ_ _ q=>q
 ·have:=hf b z
  rcases hh with y | y
  ·rw [y,e] at this;cases this
  ·rw [y] at this;cases this
 ·have:=hb b z
  rcases hh with y | y
  ·rw [y,e] at this;cases this
  ·rw [y] at this;cases this
theorem q5o{P:Program}{w:World}{H:Hp}{h:Heap}{a:Addr}{o:HO}(x:aH P w H h a o):∃ u,h.get? a=some u:=by
 cases o with
 | lst xs=>obtain⟨_,_,_,_,q⟩:=x;exact⟨_,q⟩
 | tup xs=>obtain⟨_,_,_,u,q,_⟩:=x;exact⟨_,q⟩
 | dK kvs=>obtain⟨_,_,_,_,u,_,_,q,_⟩:=x;exact⟨_,q⟩
 | dT kvs=>obtain⟨_,_,_,_,u,_,_,q,_⟩:=x;exact⟨_,q⟩
 | set S n=>obtain⟨u,_,_,_,q,_⟩:=x;exact⟨_,q⟩
 | ins C dx fs=>obtain⟨_,_,_,q,_⟩:=x;exact⟨_,q⟩
 | own y=>exact x
 | xd fs=>obtain⟨_,⟨_,_,_,q,_⟩,_⟩:=x;exact⟨_,q⟩
 | vS lo hi=>obtain⟨_,_,_,q⟩:=x;exact⟨_,q⟩
 | ji ob u=>obtain⟨q,_⟩:=x;exact⟨_,q⟩
 | mr ps=>exact⟨_,x⟩
 | met f y=>exact⟨_,x⟩
 | ext φ=>obtain⟨_,q,_⟩:=x;exact q
def XF(P:Program)(w:World):ga:=λouter H s E e s'=>∃(ea T:Addr) (C:Value) (H':Hp),e = .ref ea/\E C none H'/\s'.os=s.os/\AllBare s'.gens/\Un (dj outer) [] H H' s.heap s'.heap/\cg P w H' s'.heap/\Xo s'.heap ea T C .none /\
 s.heap.get? ea=none/\s.heap.get? T=none/\H' ea=none/\H' T=none
section
variable{P:Program}{w:World}{K:PySem.W.Frag}{mg:Str->Option Value}{base:Heap}{N:List Str}{qual:Str}{scope:Scope}{f:Addr}{cd:Value}{A:Around}{outer:List Env}{s:Shared}{H:Hp}{E:XK}
theorem OW:dj (envOfC qual scope s.heap.objs.size f cd :: outer)=s.heap.objs.size :: dj outer:=rfl
theorem rE{b:Addr}{fs ex:List Addr}{Ha Hb:Hp}{h h1:Heap}(u:Un fs ex Ha Hb h h1)(hx:b∉ex)(n:h1.get? b=none):h.get? b=none:=by
 cases q:h.get? b with
 | none=>rfl
 | some o=>obtain⟨o',z⟩:=u.there b o q hx;rw [n] at z;cases z
theorem xS{P:Program}{w:World}{Ha:Hp}{h1:Heap}{b:Addr}(x:cg P w Ha h1)(n:h1.get? b=none):Ha b=none:=by
 cases q:Ha b with
 | none=>rfl
 | some o=>
  exfalso
  obtain⟨u,z⟩:=q5o<|x b o q;rw [n] at z;cases z
theorem q4f{pins:List (Addr×Obj)}{σ:St}{H1:Hp}{s1:Shared}{e T:Addr}{C:Value}(I:Inv (dh (XF P w) P w K mg base N qual scope f cd A outer s H E) pins σ H1 s1)(x:Xo s1.heap e T C .none)(hE:E C none H1)
  (n1:s.heap.get? e=none) (n2:s.heap.get? T=none) (n3:H1 e=none) (n4:H1 T=none):(dh (XF P w) P w K mg base N qual scope f cd A outer s H E).xe (.ref e) s1:=by
 show wpAny (model P w) (A.deeper<|envOfC qual scope s.heap.objs.size f cd) (leaving (envOfC qual scope s.heap.objs.size f cd)<|.ref e) _ _ s1;unfold leaving;refine BJ<|OT (base:=base) (outer:=outer) I.ok.frames I.stack rfl x λh' T' z x' k=>?_;refine⟨e,T',C,H1,rfl,hE,I.os,I.bare,xR (H:=H) (h:=s.heap) I.base k (λb o q hb=>?_) λb hb=>?_,FI I.aJ k (λb hb=>I.cW b hb) λb hb=>?_,x',n1,rE (ex:=[]) (Hb:=H1) I.base (by simp) z,n3,xS I.aJ z⟩
 ·rw [OW] at hb
  rcases Am.mp hb with y | y
  ·exact absurd (Av q)<|by rw [y];exact Cu _
  ·exact y
 ·rcases Am.mp hb with y | y
  ·rw [y];exact n1
  ·rw [Ae.mp y];exact n2
 ·rcases Am.mp hb with y | y
  ·rw [y];exact n3
  ·rw [Ae.mp y];exact n4
theorem q81:lh (XF P w) (dh (XF P w) P w K mg base N qual scope f cd A outer s H E) E:=by
 rintro pins σ H1 s1 e s2 I ⟨ea,T,C,H',rfl,hE,os,bare,un,aJ,x,n1,n2,n3,n4⟩;have I2:=I.call' (ch:=[]) os un aJ bare (λb z=>absurd z<|by simp);exact q4f I2 x hE (rE (ex:=[]) (Hb:=H1) I.base (by simp) n1) (rE (ex:=[]) (Hb:=H1) I.base (by simp) n2) n3 n4
end
abbrev l3:List Value:=[.type "ValueError",.type "Exception",.type "BaseException",.type "object"]
def XC(K:PySem.W.Frag)(C:Addr):Prop:=PySem.W.excIn K C l3 "ValueError.__new__" = true
theorem XC.obj{K:PySem.W.Frag}{h:Heap}{C:Addr}(q:XC K C)(X:K.In h):∃ bm N nm qn bs hdct sn sub ab col dd k0 k1 k2 k3 k5 mN,h.get? C=some (excClassObj nm qn C N bs bm hdct sn sub ab col dd k0 k1 k2 k3 k5 "ValueError.__new__")/\h.Ns N mN/\mN "__init__" = none/\OwnTail h l3 bm:=by
 unfold XC PySem.W.excIn at q
 split at q
 ·rename_i dd cd sl ho
  split at q
  ·rename_i D bm k0 k1 k2 k3 n k5 hm hs;simp only [Cf,beq_iff_eq,Bool.not_eq_true'] at q;obtain⟨⟨⟨⟨⟨eD,en⟩,uL⟩,ht⟩,aJ⟩,OX⟩:=q;obtain⟨nm,bs,mro,ns,qn,hd,sn,sub,ab,col,del⟩:=cd
   dsimp only at hm uL aJ OX
   subst eD en hm uL;have esl:sl=#[k0,k1,k2,k3,some<|.builtin "ValueError.__new__",k5]:=by
    cases sl;simp only at hs;rw [hs]
   subst esl;exact⟨bm,ns,nm,qn,bs,hd,sn,sub,ab,col,dd,k0,k1,k2,k3,k5,_,X _ _ ho,.of_isNs<|PySem.W.isNs_of_in X aJ,PySem.W.nsMap_none_of_in X aJ OX,PySem.W.tail_of_in X ht⟩
  ·cases q
 ·cases q
section
variable{X:Cx}{σ:St}{H:Hp}{D:Ends}{rest:List Stmt}
def Rz(X:Cx)(E:St->XK):Prop:=∀(pins:List<|Addr×Obj) (σ:St) (H:Hp) (s:Shared) (h':Heap) (e C:Addr) (args:List Value),Inv X pins σ H s->Heap.MadeExcOf s.heap h' e (.ref C) args->E σ (.ref C) none H->X.xe (.ref e) {s with heap:=h'}
theorem FK{E:St->XK}(hz:Rz X E){x:Str}{C:Addr}{a:Expr}{np cp pos:Pos}(hm:X.mg x=some (.ref C))(hC:XC X.K C)(hc:X.calm=true)(h:Ea X [a] σ H λvs H1=>vs.length<=sizeLine/\E σ (.ref C) none H1)(hg:Gl X x:=by rfl)(cZ:(x == ("__debug__" : Str))=false:=by decide)
  (he:starEach [a] X.env=(false,eval a X.env) :: starEach [] X.env:=by rfl):Run X (.Raise (some<|.Call (.Name x np) [a] [] cp) none pos :: rest) D σ H:=by
 refine jI (t:=λD σ H=>Ea X [a] σ H λvs H1=>vs.length<=sizeLine/\E σ (.ref C) none H1) ?_ h;intro pins s σ H D I h;obtain⟨bm,N,nm,qn,bs,hdct,sn,sub,ab,col,dd,k0,k1,k2,k3,k5,mN,oC,oN,oi,oT⟩:=hC.obj I.ok.mod.ou;refine wpAny_Raise_call_subT (C:=C) (nm:=nm) (q:=qn) (N:=N) (bs:=bs) (bm:=bm) (hdct:=hdct) (sn:=sn) (sub:=sub) (ab:=ab) (col:=col) (dd:=dd) (k0:=k0) (k1:=k1) (k2:=k2) (k3:=k3) (k5:=k5) PySem.F.excBase_ValueError (mN:=mN) (oT.hasType PySem.F.excBase_ValueError.hasBase) (I.ok.hd hc) (by rw [he];rfl) oi<|rY I hg hm ⟨rfl,?_⟩ cZ;have q:=h.run cp pins s I;rw [he] at q ⊢;refine Calls.evalArgs_plain<|aS q λus s2 ⟨vs,H2,I2,r,z2,q2⟩=>⟨rfl,by rw [<- r.length];exact z2,I2.bk _ _ oC,oN.keeps I2.bk,oT.keeps I2.bk,λh' e hx=>hz pins σ H2 s2 h' e C us I2 hx q2⟩
end
section
variable{P:Program}{w:World}{K:PySem.W.Frag}{mg:Str->Option Value}{base:Heap}{N:List Str}{qual:Str}{scope:Scope}{f:Addr}{cd:Value}{A:Around}{outer:List Env}{s:Shared}{H:Hp}{E:XK}
theorem q5p{h h':Heap}(k:∀ b o,h.get? b=some o->h'.get? b=some o):Kp [] [] h h':=⟨λb o q _ _=>k b o q,λb o q z=>absurd z<|by simp⟩
theorem q8w:Rz (dh (XF P w) P w K mg base N qual scope f cd A outer s H E) (λ_=>E):=by
 intro pins σ H1 s1 h' e C args I hx hE;obtain⟨t,he,_,_⟩:=hx.there;show wpAny (model P w) (A.deeper<|envOfC qual scope s.heap.objs.size f cd) (leaving (envOfC qual scope s.heap.objs.size f cd)<|.ref e) _ _ _;unfold leaving;have n0:H1 e=none:=xS I.aJ hx.new;have k1:=q5p hx.keeps;refine BJ<|q0i (s:={s1 with heap:=h'}) (base:=base) (outer:=outer) I.ok.frames (I.stack.of_keeps λb o q _=>⟨o,hx.keeps b o q,rfl⟩) rfl he rfl rfl rfl rfl λh2 T z x k=>?_;have FL:cg P w H1 h':=I.aJ.kept hx.keeps;have un1:Un (dj outer) [] H H1 s.heap h':=xR (H:=H) (h:=s.heap) I.base k1 (λb o q hb=>absurd hb<|by simp) λb hb=>absurd hb (by simp);have nT:s1.heap.get? T=none:=by
  cases q:s1.heap.get? T with
  | none=>rfl
  | some o=>have:=hx.keeps _ _ q;exact absurd (this.symm.trans z)<|by simp
 have ns:s.heap.get? e=none:=rE (ex:=[]) (Hb:=H1) I.base (by simp) hx.new;refine⟨e,T,.ref C,H1,rfl,hE,I.os,I.bare,xR un1 k (λb o q hb=>?_) λb hb=>?_,FI FL k (λb hb=>I.cW b hb) λb hb=>?_,x,ns,rE (ex:=[]) (Hb:=H1) I.base (by simp) nT,n0,xS I.aJ nT⟩
 ·rw [OW] at hb
  rcases Am.mp hb with y | y
  ·exact absurd (Av q)<|by rw [y];exact Cu _
  ·exact y
 ·rw [Ae.mp hb];exact ns
 ·rw [Ae.mp hb];exact n0
def FO(N:List Str)(qual:Str)(scope:Scope)(P:Program)(w:World)(K:PySem.W.Frag)(mg:Str->Option Value)(base:Heap)(b:qS):Cx:=dh (XF P w) P w K mg base N qual scope b.f b.bG b.A b.outer b.s b.H b.E
theorem bW.gx{x:Str}{st:Stmt}{fd:FuncData}{ps:List Str}{k:Nat}{sp:Sp}(F:bW K x qual st f fd)(S:au N ps<|bj st)(len:∀ vs H Q E,sp vs H Q E->vs.length=ps.length)
  (c5:∀(b:qS) (H:Hp) (vs:List V) (Q:VK),bq k (b.A.deeper<|envOfC qual (bj st) b.s.heap.objs.size b.f b.bG)->sp vs H Q b.E->Run (FO N qual (bj st) P w K mg base b) (iF st) (En Q) (start N vs) H):aM P w K mg base (XF P w) (k+1) f fd ps sp:=by
 obtain⟨oc,od,kV,doc,pm,an,bG,ct,kB,rfl,lk,iA⟩:=F.ex;refine Kv lk iA S len λA outer s H vs Q E hr fN=>?_;exact⟨_,oP,c5 ⟨f,bG,A,outer,s,H,E⟩ H vs Q hr fN⟩
theorem OY{b:qS}:lh (XF P w) (FO N qual scope P w K mg base b) b.E:=q81
theorem FR{b:qS}:Rz (FO N qual scope P w K mg base b) (λ_=>b.E):=q8w
end
structure cO(P:Program)(w:World)(K:PySem.W.Frag)(mg:Str->Option Value)(base:Heap)(k:Nat)(x:Str)(ps:List Str)(sp:Sp):Prop where
 ex:∃ f fd,aM P w K mg base (XF P w) k f fd ps sp/\Binds K fd ps []/\PySem.W.keepIn K (.ref f)=true/\mg x=some (.ref f)
theorem cO.mono{P:Program}{w:World}{K:PySem.W.Frag}{mg:Str->Option Value}{base:Heap}{j k:Nat}{x:Str}{ps:List Str}{sp:Sp}(h:cO P w K mg base j x ps sp)(le:j<=k):cO P w K mg base k x ps sp:=
 let ⟨f,fd,F,r⟩:=h.ex;⟨f,fd,F.mono le,r⟩
theorem rF{X:Cx}{k:Nat}{ps:List Str}{sp:Sp}{x:Str}{e:Expr}{es:List Expr}{σ:St}{H:Hp}{Q:VK}{E:XK}{p pos:Pos}(G:cO X.prog X.w X.K X.mg X.base k x ps sp)(hr:bq k X.A)(hx:lh (XF X.prog X.w) X E)
  (h:Ea X (e :: es) σ H λvs H1=>sp vs H1 Q E) (hg:Gl X x:=by rfl) (cZ:(x == ("__debug__" : Str))=false:=by decide) (hs:noStar (e :: es)=true:=by rfl):Ev X (.Call (.Name x p) (e :: es) [] pos) σ H Q:=
 let ⟨_,_,F,b,kp,m⟩:=G.ex;Ld F hr m kp b hx h hg cZ hs
theorem Df.pN{P:Program}{w:World}{K:PySem.W.Frag}{mg:Str->Option Value}{h base:Heap}{k:Nat}{x:Str}{st:Stmt}{ps:List Str}{sp:Sp}(d:Df K x st)(X:K.In h)(G:h.Ns mainGlobals mg)
  (hb:∀(kV doc pm:Value) (an:Option Addr) (bG ct:Value) (us:List Value),us.length=ps.length->bindArgs (PySem.W.fnOf x x (mF st) (iF st) (bj st) .none kV doc pm an bG ct) ⟨us,[]⟩=pure (ps.zip us))
  (ok:∀{f:Addr} {fd:FuncData},bW K x x st f fd->aM P w K mg base (XF P w) k f fd ps sp):cO P w K mg base k x ps sp:=
 let ⟨f,fd,a,F⟩:=d;⟨f,fd,ok F,F.binds hb,F.kp,JW X G a⟩
def FU(CX:ga)(X:Cx)(σ:St)(E:XK):Prop:=∀(pins:List<|Addr×Obj) (H:Hp) (s:Shared) (e:Value) (s':Shared),Inv X pins σ H s->CX X.stack H s E e s'->X.xe e s'
section
variable{X:Cx}{CX:ga}{k:Nat}{f:Addr}{fd:FuncData}{ps:List Str}{sp:Sp}{E:XK}{x:Str}{p pos:Pos}{e:Expr}{es:List Expr}{σ:St}{H:Hp}{Q:VK}
theorem k83(F:aM X.prog X.w X.K X.mg X.base CX k f fd ps sp)(hr:bq k X.A)(hm:X.mg x=some (.ref f))(hk:PySem.W.keepIn X.K (.ref f)=true)(hb:Binds X.K fd ps [])(hx:FU CX X σ E)(h:Ea X (e :: es) σ H λvs H1=>sp vs H1 Q E)
  (hg:Gl X x:=by rfl) (cZ:(x == ("__debug__" : Str))=false:=by decide) (he:starEach (e :: es) X.env=(false,eval e X.env) :: starEach es X.env:=by rfl) (jD:(backTo pos<|starEach es X.env).any (·.1)=false:=by rfl):Ev X (.Call (.Name x p) (e :: es) [] pos) σ H Q:=by
 refine⟨λpins s I=>HS<|rY I hg hm ?_ cZ⟩;refine PySem.W.callWith_K (h₀:=X.base) I.ok.mod.ou hk (aS (h.run pos pins s I) λus s1 ⟨vs,H1,I1,r,q⟩=>⟨I1.kz,?_⟩) he jD;have hl:us.length=ps.length:=by rw [<- r.length];exact F.len _ _ _ _ q
 have fk:(us++[]).length=ps.length:=by rw [Bc];exact hl
 have j7:=hb s1 us I1.kz fk;rw [Bc] at j7;refine wpAny_call<|QD (F.run X.A X.stack s1 H1 ⟨us,[]⟩ us vs Q E hr I1.sE j7 r q) λr s' hq=>?_;cases r with
 | error y=>exact hx pins H1 s1 y s' I1 hq
 | ok fl=>
  cases fl with
  | ret u=>exact I1.after hq
  | next=>exact False.elim hq
  | brk=>exact False.elim hq
  | cont=>exact False.elim hq
theorem OZ(G:cO X.prog X.w X.K X.mg X.base k x ps sp)(hr:bq k X.A)(hx:FU (XF X.prog X.w) X σ E)(h:Ea X (e :: es) σ H λvs H1=>sp vs H1 Q E)
  (hg:Gl X x:=by rfl) (cZ:(x == ("__debug__" : Str))=false:=by decide) (he:starEach (e :: es) X.env=(false,eval e X.env) :: starEach es X.env:=by rfl) (jD:(backTo pos<|starEach es X.env).any (·.1)=false:=by rfl):Ev X (.Call (.Name x p) (e :: es) [] pos) σ H Q:=
 let ⟨_,_,F,b,kp,m⟩:=G.ex;k83 F hr m kp b hx h hg cZ he jD
end
abbrev XO(oe:Obj):HO:= .ji oe<|.own 0
structure O0(oe:Obj)(C:Value):Prop where
 cls:oe.cls=C
 dict:oe.dict=none
 data:∃ vs,oe.data = .fields vs/\vs[2]?=some .none
abbrev Cx.bU(X:Cx)(p:List<|Addr×Obj):Cx:={X with pn:=X.pn++p}
structure uM(X:Cx)(pins:List<|Addr×Obj)(b:Addr):Prop where
 l:b≠X.env.locals
 c:∀ x c,X.env.cells.lookup x=some c->c≠b
 p:∀ q∈X.pn++pins,q.1≠b
 f:b∉X.fs
 s:X.s₀.heap.get? b=none
section
variable{X:Cx}{pins:List (Addr×Obj)}{σ:St}{H:Hp}{s:Shared}{b:Addr}
theorem FV(I:Inv X pins σ H s)(hex:X.ex=[])(n:s.heap.get? b=none):uM X pins b:=by
 refine⟨λz=>?_,λx c e z=>?_,λq hq z=>?_,λz=>?_,rE I.base (by rw [hex];simp) n⟩
 ·obtain⟨m,⟨o,_,_,ho,_⟩,_⟩:=I.loc;rw [<- z,n] at ho;cases ho
 ·obtain⟨v,o,ho,_⟩:=I.cell x c e;rw [z,n] at ho;cases ho
 ·have:=(I.pin q hq).1;rw [z,n] at this;cases this
 ·obtain⟨_,o,ho,_⟩:=I.cA.mem z;rw [n] at ho;cases ho
theorem Inv.kp{bad:List Addr}{h':Heap}{t':Nat}(I:Inv X pins σ H s)(hex:X.ex=[])(k:Kp (dj X.stack) bad s.heap h')(ha:∀ b∈bad,uM X pins b)(hn:∀ b∈bad,H b=none):Inv X pins σ H {s with heap:=h',toks:=t'}:=by
 have kc:∀ x c,X.env.cells.lookup x=some c->∀ v,s.heap.IsCell c v->h'.IsCell c v:=λx c e v ⟨o,ho,hd⟩=>by
  by_cases y:c∈dj X.stack
  ·obtain⟨sl,z⟩:=k.slot c o ho y;exact⟨_,z,hd⟩
  ·exact⟨o,k.keep c o ho y λw=>(ha c w).c x c e rfl,hd⟩
 have kl:∀ m,s.heap.Ns X.env.locals m->h'.Ns X.env.locals m:=λm hm=>by
  obtain⟨o,es,ep,ho,r⟩:=hm
  by_cases y:X.env.locals∈dj X.stack
  ·obtain⟨sl,z⟩:=k.slot _ o ho y;exact⟨_,es,ep,z,r⟩
  ·exact⟨o,es,ep,k.keep _ o ho y λw=>(ha _ w).l rfl,r⟩
 refine⟨I.ok,I.os,I.bare,?_,?_,λx c e=>?_,I.free,I.bz,λp hp=>?_,FI I.aJ k (λb hb=>I.cW b hb) hn,I.len⟩
 ·have u:=I.base;rw [hex] at u ⊢;refine xR u k (λb o q hb=>?_) λb hb=>(ha b hb).s
  rcases Am.mp (I.df b hb) with y | y
  ·exact absurd (Bj (Av q) I.ok.above)<|by rw [y];exact Cu _
  ·exact y
 ·obtain⟨m,hm,hl⟩:=I.loc;refine⟨m,kl m hm,λi x v e1 e2 e3=>?_⟩;obtain⟨u,r,q⟩:=hl i x v e1 e2 e3;refine⟨u,r,?_⟩
  rcases q with q | ⟨y,c,e,z⟩
  ·exact .inl q
  ·exact .inr ⟨y,c,e,kc x c e _ z⟩
 ·obtain⟨v,z⟩:=I.cell x c e;exact⟨v,kc x c e v z⟩
 ·obtain⟨e,n,ne,nf,d⟩:=I.pin p hp;refine⟨k.keep _ _ e (λy=>?_) λw=>(ha _ w).p p hp rfl,n,ne,nf,d⟩
  rcases Am.mp (I.df _ y) with z | z
  ·exact ne z
  ·exact nf z
theorem Inv.nI{o:HO}(I:Inv X pins σ H s)(hex:X.ex=[])(a:uM X pins b)(n:H b=none)(ho:aH X.prog X.w (upd H b o) s.heap b o):Inv X pins σ (upd H b o) s:=by
 have u:=I.base;have ne:∀ c o',H c=some o'->c≠b:=λc o' q z=>by rw [z,n] at q;cases q
 refine⟨I.ok,I.os,I.bare,⟨u.keep,u.slot,λc o' q n' hx=>?_,u.there,λc xs q=>?_,λc o' v q=>?_,λc ps q=>?_⟩,I.loc,I.cell,by rw [aw<|Ne.symm a.l];exact I.free,λx c e=>by rw [aw<|a.c x c e];exact I.bz x c e,λp hp=>?_,λc o' q=>?_,I.len⟩
 ·have:c≠b:=λz=>by rw [z,a.s] at q;cases q
  rw [aw this];exact u.free c o' q n' hx
 ·have q':=u.eG c xs q;rw [aw<|ne _ _ q'];exact q'
 ·have q':=u.dO c o' v q;rw [aw<|ne _ _ q'];exact q'
 ·obtain⟨m,q'⟩:=u.eI c ps q;exact⟨m,by rw [aw<|ne _ _ q'];exact q'⟩
 ·obtain⟨e,n',r⟩:=I.pin p hp;exact⟨e,by rw [aw<|a.p p hp];exact n',r⟩
 ·by_cases y:c=b
  ·subst y;rw [az] at q;cases q;exact ho
  ·rw [aw y] at q;exact(I.aJ c o' q).g8 (λ_ _ _ z=>z) (λd z=>by rw [aw<|ne _ _ z];exact z) λd xs z=>by rw [aw<|ne _ _ z];exact z
end
def Cgt(X:Cx)(Φ:Value->St->Hp->Prop)(e:Value)(s':Shared):Prop:=∃(pins:List<|Addr×Obj) (σ:St) (H:Hp) (ea T:Addr) (C:Value),e = .ref ea/\Inv X pins σ H s'/\Xo s'.heap ea T C .none/\uM X pins ea/\uM X pins T/\H ea=none/\H T=none/\Φ C σ H
abbrev xT(X:Cx)(p:List<|Addr×Obj)(Φ:Value->St->Hp->Prop):Cx:=(X.bU p).dz<|Cgt (X.bU p) Φ
theorem O1{X:Cx}{p:List (Addr×Obj)}{Φ:Value->St->Hp->Prop}{σ:St}(hex:X.ex=[]):FU (XF X.prog X.w) (xT X p Φ) σ (λC _ H'=>Φ C σ H'):=by
 rintro pins H s e s' I ⟨ea,T,C,H',rfl,hE,os,bare,un,aJ,x,n1,n2,n3,n4⟩;have I2:=I.call' (ch:=[]) os un aJ bare (λb z=>absurd z<|by simp);have J:Inv (X.bU p) pins σ H s:=I.bJ;exact⟨pins,σ,H',ea,T,C,rfl,I2.bJ,x,FV J hex n1,FV J hex n2,n3,n4,hE⟩
abbrev dZ(X:Cx)(p:List<|Addr×Obj)(ea:Addr):Cx:={X with A:=X.A.mark<|some<|.ref ea,calm:=false,pn:=X.pn++p,xe:=λ_ _=>False}
theorem Inv.hd{X:Cx}{p pins:List (Addr×Obj)}{σ:St}{H:Hp}{s:Shared}{ea:Addr}(I:Inv (X.bU p) pins σ H s):Inv (dZ X p ea) pins σ H s:=
 ⟨⟨I.ok.mod,I.ok.kind,I.ok.glob,I.ok.blt,I.ok.above,I.ok.inj,I.ok.has,I.ok.k7,(λz=>(nomatch z)),I.ok.frames,I.ok.kr,I.ok.qt,I.ok.bs,I.ok.jl,I.ok.fe,I.ok.fY,I.ok.cA,I.ok.ku⟩,I.os,I.bare,I.base,I.loc,I.cell,I.free,I.bz,I.pin,I.aJ,I.len⟩
theorem Inv.uN{X:Cx}{p pins nJ:List (Addr×Obj)}{σ:St}{H:Hp}{s:Shared}{ea:Addr}(I:Inv (dZ X p ea) pins σ H s)(hc:X.calm=true->X.A.handled=none):Inv (X.bU p) pins σ H s:=
 ⟨⟨I.ok.mod,I.ok.kind,I.ok.glob,I.ok.blt,I.ok.above,I.ok.inj,I.ok.has,I.ok.k7,hc,I.ok.frames,I.ok.kr,I.ok.qt,I.ok.bs,I.ok.jl,I.ok.fe,I.ok.fY,I.ok.cA,I.ok.ku⟩,I.os,I.bare,I.base,I.loc,I.cell,I.free,I.bz,I.pin,I.aJ,I.len⟩
theorem Inv.pO{X:Cx}{p pins:List (Addr×Obj)}{σ:St}{H:Hp}{s:Shared}(I:Inv X p σ H s):Inv (X.bU p) [] σ H s:=
 ⟨⟨I.ok.mod,I.ok.kind,I.ok.glob,I.ok.blt,I.ok.above,I.ok.inj,I.ok.has,I.ok.k7,I.ok.hd,I.ok.frames,I.ok.kr,I.ok.qt,I.ok.bs,I.ok.jl,I.ok.fe,I.ok.fY,I.ok.cA,I.ok.ku⟩,I.os,I.bare,I.base,I.loc,I.cell,I.free,I.bz,λq hq=>I.pin q (by simpa using hq),I.aJ,I.len⟩
theorem Inv.fE{X:Cx}{p pins:List (Addr×Obj)}{σ:St}{H:Hp}{s:Shared}(I:Inv (X.bU p) pins σ H s):Inv X p σ H s:=
 ⟨⟨I.ok.mod,I.ok.kind,I.ok.glob,I.ok.blt,I.ok.above,I.ok.inj,I.ok.has,I.ok.k7,I.ok.hd,I.ok.frames,I.ok.kr,I.ok.qt,I.ok.bs,I.ok.jl,I.ok.fe,I.ok.fY,I.ok.cA,I.ok.ku⟩,I.os,I.bare,I.base,I.loc,I.cell,I.free,I.bz,λq hq=>I.pin q<|As _ hq,I.aJ,I.len⟩
def kY(K:PySem.W.Frag)(C S:Addr):Bool:=match K.lookup C with
 | some ⟨_,_,.cls cd,_⟩=>cd.mro.contains<|.ref S
 | _=>false
section
variable{M:Model}{A:Around}{E:Value->Shared->Prop}{K:PySem.W.Frag}{s:Shared}
end
section
variable{X:Cx}{pins:List (Addr×Obj)}{σ:St}{H:Hp}{s:Shared}
end
open PySem.W
section
variable{prog:Program}{w:World}{A:Around}{E:Value->Shared->Prop}{s:Shared}{K:Frag}{a C:Addr}{o:Obj}
def O2(K:Frag)(C:Addr):Bool:=findIn K (.ref C) "__getattribute__" == some (some<|.builtin "BaseException.__getattribute__") && findIn K (.ref C) "__getattr__" == some none && findIn K (.ref C) "__class__" == some (some<|.builtin "object.__class__") &&
 mroIn K C (.type "object") == some true && mroIn K C (.type "BaseException") == some true && (clsIn K C).isSome
end
end L2
namespace L2
open PySem PySem.Spec PyProof.Rows
section
variable{prog:Program}{w:World}{A:Around}{E:Value->Shared->Prop}{s:Shared}
end
section
variable{X:Cx}{tg:Expr}
end
section
variable{X:Cx}{elt tg iter:Expr}{ifs:List Expr}{scope:Scope}{pos:Pos}{N':List Str}{n:Nat}{wi:TI}{g:TG}{tc:TT}{te:TE}
end
section
variable{X:Cx}{elt tg iter c:Expr}{ifs:List Expr}{scope:Scope}{pos p:Pos}{wi:TI}{σ:St}{H:Hp}{Q:VK}{T:Bool->Hp->Prop}{rest:List Stmt}{D:Ends}
end
section
variable{X:Cx}{k:Nat}{ps:List Str}{sp:Addr->Obj->Sp}{E:XK}{x:Str}{p pos:Pos}{e:Expr}{es:List Expr}{σ:St}{H:Hp}{Q:VK}
end
end L2
namespace A5
open PySem L2 Nt bn b6
open PyProof.Rows (sortedS)
def ja:Sp:=λvs H Q _=>∃(R:Addr) (as:List<|Addr×Addr) (n:Net),vs=[.ref R]/\ai H R as n/\n.length<=1000/\(ag n).length<=900/\(∀ zs:List Str,zs.Nodup->(∀ z∈zs,z∈ag n)->zs.length < 64) /\
 ∀(L:Addr) (ss:List Str) (H':Hp),ak H H'->H L=none->H' L=some (Ls ss)->ss.Nodup->sortedS ss=true->(∀ z,z∈ss↔z∈ag n)->Q (.ref L) H'
section
variable{X:Cx}{tg:Expr}{ifs:List Expr}{inner:Sem Unit}{σ:St}{H:Hp}{a b:Addr}{xs ys:List V}{after:St->Hp->Prop}
theorem O3(Pv:Nat->St->Hp->Prop)(h0:Pv 0 σ H)(hl:∀ i σ' H',i<=xs.length->Pv i σ' H'->al X.K H' a xs)
  (hs:∀ i x σ' H',xs[i]?=some x->Pv i σ' H'->Eg X tg x σ' H' λσ2 H3=>Ei X ifs σ2 H3 λb H4=>if b=true then tD X inner σ2 H4 (Pv<|i+1) else Pv (i+1) σ2 H4)
  (hd:∀ σ' H',Pv xs.length σ' H'->after σ' H'):oV X tg ifs inner (oD X.K a) after σ H:=by
 refine⟨λi m σ' H'=>m=xs.length - i/\i<=xs.length/\Pv i σ' H',⟨_,rfl,Ci _,h0⟩,?_⟩;rintro i m σ' H' ⟨rfl,hi,p⟩;have q:=hl i σ' H' hi p
 by_cases aT:i < xs.length
 ·refine .inr ⟨⟨xs,xs[i],q,by simp [aT]⟩,Pv<|i+1,λσ' H' p'=>⟨xs.length - (i+1),by omega,rfl,aT,p'⟩,λx H2 y=>?_⟩;obtain⟨e,y⟩:=y;subst e;exact hs i x σ' _ (y xs q) p
 ·have e:i=xs.length:=by omega
  subst e;exact .inl ⟨⟨xs,q,Ao _⟩,hd σ' H' p⟩
end
theorem O4{zs:List Str}{z:Str}(h:zs.Nodup):(added zs z).Nodup:=by
 unfold added
 split
 ·exact h
 ·rename_i hz;exact oM h hz
theorem O5{zs:List Str}{z y:Str}:y∈added zs z↔y∈zs\/y=z:=by
 unfold added
 split
 ·rename_i hz;refine⟨.inl,λh=>h.elim id λe=>?_⟩;rw [e];exact hz
 ·rw [Ap,Ae]
theorem O6{n:Net}{r:Nat}(h:r < n.length):ag (n.take<|r+1)=ag (n.take r)++row n r:=by
 rw [jT h];unfold ag;rw [Cr,Ab h,Dk];simp
def bD:List Str:=["NoTie","Bridge","Loop"]
structure Cl(K:PySem.W.Frag)(mg:Str->Option Value)(c:Str->Addr):Prop where
 net:mg "NetError" = some (.ref<|c "NetError")
 x0a:XC K<|c "NetError"
 at':∀ x∈bD,mg x=some (.ref<|c x)/\XC K (c x)/\kY K (c x) (c "NetError")=true/\O2 K (c x)=true/\PySem.W.kitOne K (.ref<|c x) (.type "ValueError")=some true
 kit:∀ x∈bD,∀ y∈bD,PySem.W.kitOne K (.ref<|c x) (.ref<|c y)=some (decide (x=y))
 own:∀ x∈bD,∀ y∈bD,kY K (c x) (c y)=decide (x=y)
def gZ(K:PySem.W.Frag)(x:Str):Addr:=match PySem.W.nsIn K mainGlobals x with
 | some (some<|.ref a)=>a
 | _=>0
def FX(K:PySem.W.Frag):Bool:=(PySem.W.nsIn K mainGlobals "NetError" == some (some<|.ref<|gZ K "NetError")) && PySem.W.excIn K (gZ K "NetError") l3 "ValueError.__new__" &&
 bD.all λx=>(PySem.W.nsIn K mainGlobals x == some (some<|.ref<|gZ K x)) && PySem.W.excIn K (gZ K x) l3 "ValueError.__new__" && kY K (gZ K x) (gZ K "NetError") && O2 K (gZ K x) && (PySem.W.kitOne K (.ref<|gZ K x) (.type "ValueError") == some true) &&
  bD.all λy=>(PySem.W.kitOne K (.ref<|gZ K x) (.ref<|gZ K y) == some (decide (x=y))) && (kY K (gZ K x) (gZ K y) == decide (x=y))
theorem q8f{K:PySem.W.Frag}{h:Heap}{mg:Str->Option Value}(X:K.In h)(G:h.Ns mainGlobals mg)(q:FX K=true):Cl K mg (gZ K):=by
 unfold FX at q;simp only [Cf,Fw,beq_iff_eq] at q;obtain⟨⟨q1,q2⟩,q3⟩:=q;exact⟨JW X G q1,q2,λx hx=>by obtain⟨⟨⟨⟨⟨a1,a2⟩,a3⟩,a4⟩,a5⟩,_⟩:=q3 x hx;exact⟨JW X G a1,a2,a3,a4,a5⟩,λx hx y hy=>((q3 x hx).2 y hy).1,λx hx y hy=>((q3 x hx).2 y hy).2⟩
def uO(n:Net):Prop:=∀ zs:List Str,zs.Nodup->(∀ z∈zs,z∈ag n)->zs.length < 64
def xU(c:Str->Addr):Sp:=λvs H Q E=>∃(R:Addr) (as:List<|Addr×Addr) (n:Net) (z:Str),vs=[.ref R,.str z]/\ai H R as n/\n.length<=1000/\(ag n).length<=900/\uO n /\
 (z∉ag n->∀ H',ak H H'->E (.ref<|c "NoTie") none H')/\(z∈ag n->∀ H',ak H H'->Q .non H')
section
variable{P:Program}{w:World}{K:PySem.W.Frag}{mg:Str->Option Value}{base:Heap}
abbrev uP:List Str:=["rows"]
abbrev uQ:List Str:=["rows","point","ties","tie"]
theorem j':au uP ["rows"] (bj wL):=⟨rfl,rfl,rfl,by decide +kernel,rfl,by decide +kernel,by decide +kernel⟩
theorem FY:uQ.Nodup:=by decide +kernel
theorem q2s{f:Addr}{fd:FuncData}(F:bW K "ties_of" "ties_of" wL f fd)(T:Txt mg):aM P w K mg base cf 1 f fd ["rows"] ja:=by
 refine F.gb j' (λvs H Q E h=>?_) λb0 H vs Q E hr h=>?_
 ·obtain⟨R,as,n,rfl,_⟩:=h;rfl
 obtain⟨R,as,n,rfl,hR,hn,ht,bC,q⟩:=h;have nd:=j'.nd;have bM:=hR.len;have sub:∀(zs:List Str) (r:Nat) (ys:List Str),zs.Nodup->(∀ z,z∈zs->z∈ag n)->zs.length < 64:=λzs r ys h1 h2=>bC zs h1 h2;have pP:∀ r,r < n.length->∀ z,z∈ag (n.take r)\/z∈row n r->z∈ag n:=λr jY z hz=>by
  have e:ag n=ag (n.take<|r+1)++ag (n.drop<|r+1):=by
   unfold ag;rw [<- Dk,Ct]
  rw [e,O6 jY]
  rcases hz with h | h <;> simp [h]
 show Run _ _ _ [some<|.ref R] H;refine cD<|cK (V8 rfl) T.sorted FT<|ah<|Xs (bj wL) uP uQ 3 (jm bI)<|ae 0 ⟨R,rfl,⟨_,al.of hR.lst⟩,λD hD cl C s₀ H₀ ex=>?_⟩;refine O3 (xs:=as.map λa=>V.ref a.1) (λr σ' H'=>(∃ v1 v2 v3,σ'=[some<|.ref R]++[v1,v2,v3])/\∃ zs:List Str,ak H H'/\H' D=some (fw P w D zs)/\zs.Nodup/\∀ z,z∈zs↔z∈ag (n.take r)) ⟨⟨none,none,none,rfl⟩,[],aQ hD _,az,Db,λz=>QC⟩ ?_ ?_ ?_
 ·rintro r σ' H' _ ⟨_,zs,sm,_⟩;exact al.of<|sm _ _ hR.lst
 ·rintro r x σ' H' hx ⟨⟨v1,v2,v3,rfl⟩,zs,sm,eD,zn,zm⟩;have hi:r < n.length:=by
   have:=(Ad.mp hx).1;rw [Aa] at this;omega
  obtain⟨a,ea,db,et,el,er⟩:=(hR.same sm).at hi;rw [Ag,ea] at hx;cases hx;refine kL rfl (aW.of et) (bA 1 FY<|bA 2 FY ?_);refine mP ?_;rw [BL rfl];refine Xr rfl rfl (jm bI) (ae 2 ⟨a.2,rfl,⟨_,al.of el⟩,?_⟩);have F0:a.2≠D:=eF el eD λz=>nomatch z;refine O3 (xs:=(row n r).map V.str) (λp σ' dY=>(∃ v3,σ'=[some<|.ref R]++[some<|.str n[r].1,some<|.ref a.2,v3])/\∃ zs:List Str,(∀ b o,b≠D->H' b=some o->dY b=some o)/\dY D=some (fw P w D zs)/\zs.Nodup/\∀ z,z∈zs↔z∈ag (n.take r)\/z∈(row n r).take p)
   ⟨⟨_,rfl⟩,zs,λb o _ h=>h,eD,zn,λz=>by rw [zm z];simp⟩ ?_ ?_ ?_
  ·rintro p σ' dY _ ⟨_,zs,kb,_⟩;exact al.of<|kb _ _ F0 el
  ·rintro p x σ' dY hx ⟨⟨v3,rfl⟩,zs,kb,pQ,l4,l5⟩;rw [Ag,Az] at hx;obtain⟨z,hz,rfl⟩:=hx;refine bA 3 FY ?_;refine mP ?_;rw [BL rfl];have hl:zs.length < 64:=bC zs l4 λy hy=>pP r hi y<|((l5 y).mp hy).imp id λh=>List.mem_of_mem_take h;refine Xq (ae 3 ⟨z,zs,rfl,pQ,by omega,⟨_,rfl⟩,added zs z,λb o hb h=>by rw [aw hb];exact kb b o hb h,az,O4 l4,λy=>?_⟩);rw [O5,l5 y,Cr,hz,or_assoc];simp
  ·rintro σ' dY ⟨⟨v3,rfl⟩,zs,kb,pQ,l4,l5⟩;refine⟨⟨_,_,_,rfl⟩,zs,λb o h=>kb b o (bP h hD)<|sm _ _ h,pQ,l4,λz=>?_⟩;rw [l5 z,Aa,Cb,O6 hi,Ap]
 ·rintro σ' H' ⟨_,zs,sm,eD,zn,zm⟩;rw [Aa,bM,Cb] at zm;refine ay ⟨D,zs,rfl,eD,bC zs zn λy hy=>(zm y).mp hy,λl ss hl hp hs=>?_⟩;exact q l ss _ (sm.trans<|aQ hl _) (gX sm hl) az (hp.nodup_iff.mpr zn) hs λz=>by rw [hp.mem_iff,zm z]
theorem O7(zs:List Str)(z:Str):zs.contains z=decide (z∈zs):=by
 rw [Eu,DR,Da]
abbrev NNd:List Str:=["rows","tie"]
theorem kd:au NNd ["rows","tie"] (bj BH):=⟨rfl,rfl,rfl,by decide +kernel,rfl,by decide +kernel,by decide +kernel⟩
theorem q3y{f:Addr}{fd:FuncData}{c:Str->Addr}(F:bW K "need_tie" "need_tie" BH f fd)(T:Txt mg)(cl:Cl K mg c)(GT:bB P w K mg base 1 "ties_of" ["rows"] ja):aM P w K mg base (XF P w) 2 f fd ["rows","tie"] (xU c):=by
 refine F.gx kd (λvs H Q E h=>?_) λb0 H vs Q hr h=>?_
 ·obtain⟨R,as,n,z,rfl,_⟩:=h;rfl
 obtain⟨R,as,n,z,rfl,hR,hn,ht,bC,qE,qQ⟩:=h;have nd:=kd.nd;have mN:("NoTie" : Str)∈bD:=by decide
 show Run _ _ _ [some<|.ref R,some<|.str z] H;refine gq<|dv Uj<|ae 1<|bY GT hr<|ah<|ae 0<|ay ⟨R,as,n,rfl,hR,hn,ht,bC,λL ss H1 s1 n1 e1 snd so mem=>⟨L,_,rfl,.inl<|al.of e1,rfl,C1 _,_,rfl,?_⟩⟩;rw [BL rfl,ML,O7]
 by_cases hz:z∈ag n
 ·rw [BR<|(mem z).mpr hz];exact cM<|a8<|a8<|qQ hz _ s1
 ·rw [BW λk=>hz<|(mem z).mp k];refine cB<|FK FR (cl.at' _ mN).1 (cl.at' _ mN).2.1 rfl (ah<|fP<|ay ⟨Z1,qE hz _ s1⟩)
end
end A5
namespace Nt
open PySem L2
section
variable{n:Net}{z:Str}{r k:Nat}
def cH(n:Net)(z:Str)(k:Nat):List Nat:=(List.range k).filter λr=>decide (z∈row n r)
abbrev bR(n:Net)(z:Str):List Nat:=cH n z n.length
theorem F1:cH n z (k+1)=cH n z k++(if z∈row n k then [k] else []):=by
 unfold cH;rw [Dg,Cw]
 congr 1
 by_cases h:z∈row n k
 ·rw [BL h,Di,BL<|BR h];rfl
 ·rw [BK h,Di,BK<|by simpa using h];rfl
theorem a6:r∈cH n z k↔r < k/\z∈row n r:=by
 unfold cH;rw [Au,Bm,DR]
theorem O8:(cH n z k).Nodup:=List.Pairwise.filter _ Fj
theorem cV(h:r < n.length):row n r=n[r].2:=by unfold row;rw [Ab h];rfl
theorem uR(h:r < n.length):ag (n.take<|r+1)=ag (n.take r)++row n r:=by
 rw [cV h];unfold ag;rw [Cr,Ab h,Dk];simp
theorem F3:ag n=ag (n.take k)++ag (n.drop k):=by
 unfold ag;rw [<- Dk,Ct]
theorem rG(h:r < n.length)(q:z∈row n r):z∈ag n:=by
 rw [F3 (k:=r+1),uR h];simp [q]
theorem l7(h:r < n.length):(row n r).length<=(ag n).length:=by
 rw [F3 (k:=r+1),uR h];simp only [Ah];omega
theorem nK(q:z∈ag n):∃ r,r < n.length/\z∈row n r:=by
 unfold ag at q;obtain⟨x,hx,hz⟩:=Fx.mp q;obtain⟨r,hr,e⟩:=Ba.mp hx;exact⟨r,hr,by rw [cV hr,e];exact hz⟩
theorem O9:∀{k:Nat},k<=n.length->(cH n z k).length<=(ag<|n.take k).count z
 | 0,_=>Ci _
 | k+1,h=>by
  have ih:=O9 (k:=k) (by omega);rw [F1,uR (by omega),Ah,Ec]
  by_cases c:z∈row n k
  ·rw [BL c];have:=Bt.mpr c;show _+1<=_;omega
  ·rw [BK c];show _+0<=_;omega
theorem xV(T:aj n)(hz:z∈ag n):(∃ r,bR n z=[r])\/∃ r0 r1,bR n z=[r0,r1]:=by
 have h1:(cH n z n.length).length<=_:=O9<|Ao n.length;rw [Cb,T z hz] at h1;obtain⟨r,hr,q⟩:=nK hz;have h2:r∈bR n z:=a6.mpr ⟨hr,q⟩
 match h:bR n z,h1,h2 with
 | [],_,h2=>exact nomatch h2
 | [a],_,_=>exact .inl ⟨a,rfl⟩
 | [a,b],_,_=>exact .inr ⟨a,b,rfl⟩
 | a :: b :: c :: l,h1,_=>rw [show cH n z n.length=_ from h] at h1;simp only [Ax] at h1;omega
structure jB(n:Net)(z:Str)(r0 r1:Nat):Prop where
 ne:r0≠r1
 l0:r0 < n.length
 l1:r1 < n.length
 m0:z∈row n r0
 m1:z∈row n r1
 only:∀ r,r < n.length->z∈row n r->r=r0\/r=r1
theorem pR{r0 r1:Nat}(h:bR n z=[r0,r1]):jB n z r0 r1:=by
 have nd:(bR n z).Nodup:=O8;have m0:r0∈bR n z:=by rw [h];simp
 have m1:r1∈bR n z:=by rw [h];simp
 have a0:=a6.mp m0;have a1:=a6.mp m1;refine⟨λe=>?_,a0.1,a1.1,a0.2,a1.2,λr hr q=>?_⟩
 ·rw [h,e] at nd;simp at nd
 ·have:r∈bR n z:=a6.mpr ⟨hr,q⟩;rw [h] at this
  simpa using this
def aE:List Str->Str->Nat
 | [],_=>0
 | y :: ys,z=>if y=z then 0 else aE ys z+1
theorem F4:∀{zs:List Str},z∈zs->zs[aE zs z]?=some z/\z∉zs.take (aE zs z)
 | [],h=>nomatch h
 | y :: ys,h=>by
  unfold aE
  by_cases e:y=z
  ·rw [BL e];exact⟨by rw [e];rfl,by simp⟩
  ·rw [BK e];obtain⟨h1,h2⟩:=F4 (zs:=ys) (by
    rcases Am.mp h with q | q
    ·exact absurd q.symm e
    ·exact q)
   refine⟨h1,λq=>?_⟩;rw [List.take_succ_cons] at q
   rcases Am.mp q with q | q
   ·exact e q.symm
   ·exact h2 q
def eV(a b:List Str)(z:Str):List Str:=a.take (aE a z)++(b.drop (aE b z+1)++b.take (aE b z))++a.drop (aE a z+1)
def gJ(n:Net)(z:Str)(r0 r1 r:Nat):Str×List Str:=(ao n r,if r=r0 then eV (row n r0) (row n r1) z else row n r)
def fF(n:Net)(z:Str)(r0 r1 k:Nat):Net:=((List.range k).filter λr=>decide (r≠r1)).map<|gJ n z r0 r1
abbrev shr(n:Net)(z:Str)(r0 r1:Nat):Net:=fF n z r0 r1 n.length
theorem O'{r0 r1:Nat}:fF n z r0 r1 (k+1)=fF n z r0 r1 k++(if k=r1 then [] else [gJ n z r0 r1 k]):=by
 unfold fF;rw [Dg,Cw,Al]
 congr 1
 by_cases h:k=r1
 ·rw [BL h,Di,BK<|by simpa using h];rfl
 ·rw [BK h,Di,BL<|BR h];rfl
theorem F5{r0 r1:Nat}:(fF n z r0 r1 k).length<=k:=by
 unfold fF;rw [Aa];exact Cp (Dw ..)<|by rw [Cv];exact Ao _
end
abbrev Out:=Str ⊕ Net
def cP(n:Net)(z:Str):Out:=match bR n z with
 | []=> .inl "NoTie"
 | [_]=> .inl "Loop"
 | r0 :: r1 :: _=> .inr<|shr n z r0 r1
theorem q60{n:Net}{z:Str}(h:z∉ag n):cP n z = .inl "NoTie":=by
 have:bR n z=[]:=List.eq_nil_iff_forall_not_mem.mpr λr q=>h<|rG (a6.mp q).1 (a6.mp q).2;unfold cP;rw [this]
theorem F6{n:Net}{z:Str}{r:Nat}(h:bR n z=[r]):cP n z = .inl "Loop":=by
 unfold cP;rw [h]
theorem F7{n:Net}{z:Str}{r0 r1:Nat}(h:bR n z=[r0,r1]):cP n z = .inr (shr n z r0 r1):=by
 unfold cP;rw [h]
structure e9(H0 H:Hp)(D:Addr)(bs:List<|Addr×Addr)(m:Net):Prop where
 rows:ai H D bs m
 new:∀ a∈bs,H0 a.1=none/\H0 a.2=none
 nD:∀ a∈bs,a.1≠D/\a.2≠D
theorem e9.same{H0 H H':Hp}{D:Addr}{bs:List (Addr×Addr)}{m:Net}(b:e9 H0 H D bs m)(s:ak H H'):e9 H0 H' D bs m:=⟨b.rows.same s,b.new,b.nD⟩
theorem e9.nil{H0 H:Hp}{D:Addr}(h:H D=some (.lst [])):e9 H0 H D [] []:=⟨⟨rfl,h,λi a r h=>(by simp at h),Db⟩,λa h=>(by simp at h),λa h=>(by simp at h)⟩
theorem e9.dM{H0 H:Hp}{D:Addr}{bs:List (Addr×Addr)}{m:Net}(b:e9 H0 H D bs m){a:Addr×Addr}(h:a∈bs):H a.1≠none/\H a.2≠none:=by
 obtain⟨i,hi⟩:=An h;have hl:=(Ad.mp hi).1;have:=b.rows.len;obtain⟨q1,q2⟩:=b.rows.tup i a _ hi (Ab<|by omega);exact⟨by rw [q1];simp,by rw [q2];simp⟩
theorem e9.add{H0 H:Hp}{D t l:Addr}{bs:List (Addr×Addr)}{m:Net}{p:Str}{zs:List Str}(b:e9 H0 H D bs m)(hl:H l=some (Ls zs))(l0:H0 l=none)(ln:l∉bs.map (·.2))(nl:l≠D)(ht:H t=none)(t0:H0 t=none) :
  e9 H0 (upd (upd H t<|.tup [.str p,.ref l]) D<|.lst<|(bs.map λa=>V.ref a.1)++[.ref t]) D (bs++[(t,l)]) (m++[(p,zs)]):=by
 have pL:t≠D:=λe=>by rw [e,b.rows.lst] at ht;cases ht
 have xM:t≠l:=λe=>by rw [e,hl] at ht;cases ht
 have len:=b.rows.len;have keep:∀ x o,x≠D->H x=some o->(upd (upd H t<|.tup [.str p,.ref l]) D<|.lst<|(bs.map λa=>V.ref a.1)++[.ref t]) x=some o:=λx o h1 h2=>by
  rw [aw h1,aw<|bP h2 ht];exact h2
 refine⟨⟨by rw [Ah,Ah,len];rfl,by rw [az,Al];rfl,λi a r h1 h2=>?_,?_⟩,λa ha=>?_,λa ha=>?_⟩
 ·by_cases hi:i < bs.length
  ·rw [Bp hi] at h1;rw [Bp<|by omega] at h2;have nn:=b.nD a<|Ak h1;obtain⟨q1,q2⟩:=b.rows.tup i a r h1 h2;exact⟨keep _ _ nn.1 q1,keep _ _ nn.2 q2⟩
  ·rw [Bs<|by omega] at h1;rw [Bs<|by omega] at h2;have e:i - bs.length=0:=by
    have:=(Ad.mp h1).1;simp at this;omega
   rw [e] at h1;rw [<- len,e] at h2;cases h1;cases h2;exact⟨by rw [aw pL,az],keep _ _ nl hl⟩
 ·rw [Al];refine Ce.mpr ⟨b.rows.inj,by simp,λx hx y hy e=>?_⟩;have hy:=Ae.mp hy;exact ln<|by rw [<- show y=l from hy,<- e];exact hx
 ·rcases Ap.mp ha with h | h
  ·exact b.new a h
  ·rw [Ae.mp h];exact⟨t0,l0⟩
 ·rcases Ap.mp ha with h | h
  ·exact b.nD a h
  ·rw [Ae.mp h];exact⟨pL,nl⟩
def di(n:Net)(as:List<|Addr×Addr):List (Key×V):=List.zipWith (λr a=>(Sum.inr r.1,V.ref a.2)) n as
theorem F8:∀(n:Net) (as:List<|Addr×Addr),as.length=n.length->(di n as).map (·.1)=(n.map (·.1)).map Sum.inr
 | [],_,_=>by simp [di]
 | r :: n,[],h=>by simp at h
 | r :: n,a :: as,h=>by
  have:=F8 n as (by simpa using h);show Sum.inr r.1 :: (di n as).map (·.1)=_;rw [this];rfl
theorem Pa{n:Net}{as:List (Addr×Addr)}{i:Nat}{r:Str×List Str}{a:Addr×Addr}(h1:n[i]?=some r)(h2:as[i]?=some a):(di n as)[i]?=some (Sum.inr r.1,.ref a.2):=by
 unfold di;rw [List.getElem?_zipWith,h1,h2]
theorem Pb{κ:Type} [DecidableEq κ]:∀{kvs:List (κ×V)} {i:Nat} {p:κ×V},(kvs.map (·.1)).Nodup->kvs[i]?=some p->aA kvs p.1=some p.2
 | [],_,_,_,h=>by simp at h
 | q :: r,0,p,_,h=>by
  cases h;exact iG rfl
 | q :: r,i+1,p,hn,h=>by
  rw [Bd,Bu] at hn;have hm:r[i]?=some p:=by simpa using h
  rw [hG λe=>hn.1<|by rw [e];exact Aj.mpr ⟨p,Ak hm,rfl⟩];exact Pb hn.2 hm
theorem q23{kvs:List (Key×V)}{k:Key}{v:V}(h:k∉kvs.map (·.1)):putK kvs k v=kvs++[(k,v)]:=by
 unfold putK;rw [BK];intro q;rw [List.any_eq_true] at q;obtain⟨x,hx,e⟩:=q;exact h<|Aj.mpr ⟨x,hx,CG e⟩
theorem Pg:∀{kvs acc:List (Key×V)},((acc++kvs).map (·.1)).Nodup->kvs.foldl (λa p=>putK a p.1 p.2) acc=acc++kvs
 | [],acc,_=>by simp
 | p :: kvs,acc,h=>by
  rw [Ex,q23 (v:=p.2) (k:=p.1) (by
   rw [Al,Bd] at h;exact λq=>(Ce.mp h).2.2 _ q _ (Ac ..) rfl),Pg (by rw [At];exact h),At]
  rfl
theorem k36{n:Net}{as:List (Addr×Addr)}(hl:as.length=n.length)(hN:(n.map (·.1)).Nodup):((di n as).map (·.1)).Nodup:=by
 rw [F8 n as hl];exact List.Pairwise.map _ (λa b h e=>h<|Sum.inr.inj e) hN
end Nt
namespace L2
open PySem Nt
section
variable{X:Cx}{elt tg:Expr}{ifs:List Expr}{scope:Scope}{σ:St}{H:Hp}{N':List Str}{A:Addr}{after:Hp->Prop}
theorem k86{lo:Int}{n:Nat}(Pv:Nat->St->Hp->Prop)(h0:Pv 0 σ H)
  (hs : ∀ i σ' H', i < n → Pv i σ' H' → z4 X N' scope tg (.int<|lo + i) σ' H' λσ2 H3 => z5 X N' scope ifs σ2 H3 λb H4 =>
   if b=true then z3 X N' scope elt σ2 H4 λv H5=>∃ ys,H5 A=some (.lst ys)/\ys.length < sizeLine/\Pv (i+1) σ2 (upd H5 A<|.lst<|ys++[v]) else Pv (i+1) σ2 H4)
  (hd:∀ σ' H',Pv n σ' H'->after H'):mJ X N' scope tg ifs elt (qz lo n) A after σ H:=by
 refine⟨λi m σ' H'=>m=n - i/\i<=n/\Pv i σ' H',⟨_,rfl,Ci _,h0⟩,?_⟩;rintro i m σ' H' ⟨rfl,hi,p⟩
 by_cases aT:i < n
 ·refine .inr ⟨aT,Pv<|i+1,λσ' H' p'=>⟨n - (i+1),by omega,rfl,aT,p'⟩,λx H2 y=>?_⟩;obtain⟨e,y⟩:=y;subst e y;exact hs i σ' _ aT p
 ·have e:i=n:=by omega
  subst e;exact .inl ⟨Ao _,hd σ' H' p⟩
end
section
variable{X:Cx}{σ:St}{H:Hp}{Q:VK}{o e e1:Expr}{pos p1 p2 p3 p4:Pos}{j1:Nat}
theorem Ph{a:Addr}{zs:List Str}{i:Nat}(ha:H a=some (Ls zs))(ho:∀ R:VK,R (.ref a) H->Ev X o σ H R)(he:∀ R:VK,R (.int (i:Int)) H->Ev X e σ H R) (h:∀ p,H p=none->Q (.ref p) (upd H p<|Ls<|zs.take i)):Ev X (.Subscript o (.Slice none (some e) none p2) pos) σ H Q:=by
 refine qL qD<|ho _<|qM<|qO<|he _ ⟨_,rfl,a,_,rfl,al.of ha,λp hp=>?_⟩;rw [MH];exact h p hp
theorem Pj{a:Addr}{zs:List Str}{i:Nat}(ha:H a=some (Ls zs))(ho:∀ R:VK,R (.ref a) H->Ev X o σ H R)(he:∀ R:VK,R (.int (i:Int)) H->Ev X e σ H R) (h:∀ p,H p=none->Q (.ref p) (upd H p<|Ls<|zs.drop<|i+1)):Ev X (.Subscript o (.Slice (some<|.BinOp e .Add (.Constant (.int 1) j1 p3) p4) none none p2) pos) σ H Q:=by
 refine qL qD<|ho _<|qO<|aX fK<|he _<|aF ⟨_,_,rfl,rfl,_,rfl,qM ⟨a,_,rfl,al.of ha,λp hp=>?_⟩⟩;rw [show((i:Int)+1)=((i+1:Nat):Int) by omega,MG];exact h p hp
theorem xW{p q:Addr}{ys zs:List Str}(hp:H p=some (Ls ys))(hq:H q=some (Ls zs))(hl:ys.length+zs.length<=100000) (h:∀ r,H r=none->Q (.ref r) (upd H r<|Ls<|ys++zs)):sQ (.ref p) (.ref q) H Q:=by
 refine⟨p,q,_,_,rfl,rfl,hp,hq,?_,λr hr=>?_⟩
 ·rw [Aa,Aa,CV];omega
 ·rw [<- Al];exact h r hr
theorem Pk{a:Addr}{zs:List Str}{z:Str}{ap:Pos}(ha:H a=some (Ls zs))(hz:z∈zs)(hl:zs.length<=1000)(ho:∀ R:VK,R (.ref a) H->Ev X o σ H R)(he:∀ R:VK,R (.str z) H->Ev X e σ H R)(h:Q (.int (aE zs z:Int)) H)
  (bV:attributeBase o "index" X.env (eval o X.env)=eval o X.env:=by rfl)
  (bC:((backTo pos<|starEach [e] X.env).all (λx=>!x.1) && (backToKw pos<|keywordEach [] X.env).all (λx=>x.1.isSome) && decide ([e].length+([]:List Keyword).length+(if([]:List Keyword).isEmpty then 0 else 1) < 30))=true:=by rfl)
  (hline:(ap.endLine == pos.line)=true:=by rfl) (hs:starEach [e] X.env=(false,eval e X.env) :: starEach [] X.env:=by rfl) (bK:(backTo pos<|starEach [] X.env).any (·.1)=false:=by rfl) (cR:isStar e=false:=by rfl):Ev X (.Call (.Attribute o "index" ap) [e] [] pos) σ H Q:=by
 obtain⟨h1,h2⟩:=F4 hz;have h3:=(Ad.mp h1).1;exact A7 CZ RJ PySem.F.type_list_index Z8 (ho _ ⟨Or.inl ⟨rfl,_,al.of ha⟩,he _ ⟨a,zs,z,aE zs z,rfl,rfl,al.of ha,h1,h2,by omega,h⟩⟩) bV bC hline hs bK cR
end
end L2
namespace Nt
open PySem L2 Classical
theorem k80{ls:List Bl}{f x y:Str}{b c:Bool}(h:Way ls f x b)(g:Way ls x y c):∃ d,Way ls f y d:=by
 induction g with
 | here=>exact⟨b,h⟩
 | there _ m ih=>obtain⟨d,hd⟩:=ih;exact⟨_,.there hd m⟩
 | back _ m ih=>obtain⟨d,hd⟩:=ih;exact⟨_,.back hd m⟩
theorem Pn{l1 l2:List Bl}(hm:∀ x y o,(x,y,o)∈l1->∃ o',pA l2 x y o'){f x:Str}{b:Bool}(h:Way l1 f x b):∃ d,Way l2 f x d:=by
 induction h with
 | here=>exact⟨_,.here⟩
 | there _ m ih=>
  obtain⟨d,hd⟩:=ih;obtain⟨o',t | t⟩:=hm _ _ _ m
  ·exact⟨_,.there hd t⟩
  ·exact⟨_,.back hd t⟩
 | back _ m ih=>
  obtain⟨d,hd⟩:=ih;obtain⟨o',t | t⟩:=hm _ _ _ m
  ·exact⟨_,.back hd t⟩
  ·exact⟨_,.there hd t⟩
noncomputable def F9(n:Net)(T:List Str):List Bl:=((ends n).filter λe=>decide (∃ z,ax n e=some z/\z∈T)).map λe=>(ao n e.1,ao n (other n e).1,false)
theorem c7{n:Net}{T:List Str}{x y:Str}{o:Bool}:(x,y,o)∈F9 n T↔∃ e z,ax n e=some z/\z∈T/\x=ao n e.1/\y=ao n (other n e).1/\o=false:=by
 unfold F9;rw [Aj]
 constructor
 ·rintro ⟨e,he,q⟩;obtain⟨z,hz,ht⟩:=CG (Au.mp he).2;exact⟨e,z,hz,ht,(BZ (·.1) q).symm,(BZ (·.2.1) q).symm,(BZ (·.2.2) q).symm⟩
 ·rintro ⟨e,z,hz,ht,rfl,rfl,rfl⟩;exact⟨e,Au.mpr ⟨af.mpr ⟨z,hz⟩,BR ⟨z,hz,ht⟩⟩,rfl⟩
def Rt(n:Net)(T:List Str)(x y:Str):Prop:=∃ b,Way (F9 n T) x y b
theorem Rt.refl(n:Net)(T:List Str)(x:Str):Rt n T x x:=⟨_,.here⟩
theorem Rt.trans{n:Net}{T:List Str}{x y z:Str}(h:Rt n T x y)(g:Rt n T y z):Rt n T x z:=by
 obtain⟨_,h⟩:=h;obtain⟨_,g⟩:=g;exact k80 h g
theorem Rt.step{n:Net}{T:List Str}{e:End}{z:Str}(h:ax n e=some z)(hz:z∈T):Rt n T (ao n e.1) (ao n (other n e).1):=⟨_,.there .here<|c7.mpr ⟨e,z,h,hz,rfl,rfl,rfl⟩⟩
theorem Rt.ind{n:Net}(Tw:aj n){T:List Str}{P:Str->Prop}{x y:Str}(h:Rt n T x y)(hx:P x)(hs:∀ e z,ax n e=some z->z∈T->P (ao n e.1)->P (ao n (other n e).1)):P y:=by
 obtain⟨b,h⟩:=h
 induction h with
 | here=>exact hx
 | there _ m ih=>
  obtain⟨e,z,he,hz,rfl,rfl,rfl⟩:=c7.mp m;exact hs e z he hz ih
 | back _ m ih=>
  obtain⟨e,z,he,hz,rfl,rfl,rfl⟩:=c7.mp m;have o:=cL Tw he;have:=hs (other n e) z o.1 hz ih;rw [o.2.1] at this;exact this
theorem q3h{n:Net}(Tw:aj n)(hg:bu n)(h0:0 < n.length){T:List Str}(h:∀ e z,ax n e=some z->Rt n T (ao n e.1) (ao n (other n e).1)):∀ x∈n.map (·.1),Rt n T (bf n) x:=by
 intro x hx;obtain⟨r,hr,rfl⟩:=Aj.mp hx;refine hg (λx=>Rt n T (bf n) x) ⟨n[0],Ay h0,?_⟩ (λr hr s hs z zr zs w=>?_) r hr
 ·have:bf n=n[0].1:=b8 h0;rw [<- this];exact Rt.refl ..
 ·obtain⟨i,hi,rfl⟩:=Ba.mp hr;obtain⟨j,hj,rfl⟩:=Ba.mp hs;obtain⟨p,hp⟩:=An zr;obtain⟨q,hq⟩:=An zs;have h1:ax n (i,p)=some z:=by show(row n i)[p]?=_;rw [jT hi];exact hp
  have h2:ax n (j,q)=some z:=by show(row n j)[q]?=_;rw [jT hj];exact hq
  rcases (dJ Tw h1).mp h2 with e | e
  ·have:j=i:=BZ (·.1) e;subst this;exact w
  ·have:=h (i,p) z h1;rw [<- e] at this;rw [show ao n ((i,p):End).1=n[i].1 from b8 hi,show ao n ((j,q):End).1=n[j].1 from b8 hj] at this;exact w.trans this
theorem Pp{α:Type} [DecidableEq α] {a b:List α} (ha:a.Nodup) (hb:b.Nodup) (hs:∀ x∈a,x∈b):a.length=b.length↔∀ x∈b,x∈a:=by
 constructor
 ·intro h x hx;refine BX λhn=>?_;have:=aI (b:=b.erase x) ha λz hz=>(Fc λe:z=x=>hn<|e ▸ hz).mpr<|hs z hz;rw [Dy hx] at this;have:0 < b.length:=Ed hx;omega
 ·intro h;have h1:=aI ha hs;have h2:=aI hb h;omega
abbrev cq(kvs:List<|Key×V)(r:Nat):Prop:=aA kvs (Sum.inl (r:Int))=some (.bl true)
structure de(n:Net)(ss:List Str)(hr:Option<|Nat×Nat)(kvs:List<|Key×V)(lf:List Nat):Prop where
 eU:(kvs.map (·.1)).Nodup
 num:∀ k∈kvs.map (·.1),∃ r:Nat,k=Sum.inl (r:Int)/\r < n.length
 val:∀(r:Nat) v,aA kvs (Sum.inl (r:Int))=some v->v = .bl true/\Rt n ss (bf n) (ao n r)
 fst:cq kvs 0
 rH:∀ r∈lf,cq kvs r
 lQ:∀ x p,hr=some (x,p)->cq kvs x
 cls:∀ r,cq kvs r->r∈lf\/(∃ p,hr=some (r,p))\/∀ p z,ax n (r,p)=some z->z∈ss->cq kvs (other n (r,p)).1
 xX:∀ x p,hr=some (x,p)->∀ p',p' < p->∀ z,ax n (x,p')=some z->z∈ss->cq kvs (other n (x,p')).1
theorem de.lt{n:Net}{ss:List Str}{hr:Option (Nat×Nat)}{kvs:List (Key×V)}{lf:List Nat}(I:de n ss hr kvs lf){r:Nat}(h:cq kvs r):r < n.length:=by
 obtain⟨r',e,h'⟩:=I.num _<|DT h;have:=Sum.inl.inj e;omega
theorem de.len{n:Net}{ss:List Str}{hr:Option (Nat×Nat)}{kvs:List (Key×V)}{lf:List Nat}(I:de n ss hr kvs lf):kvs.length<=n.length:=by
 have:=aI I.eU (b:=(List.range n.length).map λr=>Sum.inl ((r:Nat):Int)) λk hk=>by
  obtain⟨r,e,h⟩:=I.num k hk;exact Aj.mpr ⟨r,Bm.mpr h,e.symm⟩
 rw [Aa,Aa,Cv] at this;exact this
theorem de.start{n:Net}{ss:List Str}(h0:0 < n.length):de n ss none (putK [] (Sum.inl 0)<|.bl true) [0]:=by
 have hv:∀ r:Nat,aA (putK ([]:List<|Key×V) (Sum.inl 0)<|.bl true) (Sum.inl (r:Int))=if r=0 then some (.bl true) else none:=λr=>by
  rw [fm]
  by_cases h:r=0
  ·subst h;rfl
  ·rw [BK h,BK λq=>h<|by have:=Sum.inl.inj q;omega];rfl
 have Pq:cq (putK ([]:List<|Key×V) (Sum.inl 0)<|.bl true) 0:=by
  show aA _ _=_;rw [hv,BL rfl]
 refine⟨by show([Sum.inl 0]:List Key).Nodup;simp,λk hk=>⟨0,by simpa [putK] using hk,h0⟩,λr v h=>?_,Pq,λr hr=>by rw [Ae.mp hr];exact Pq,λx p h=>(by cases h),λr h=>?_,λx p h=>(by cases h)⟩
 ·rw [hv] at h
  by_cases c:r=0
  ·rw [BL c] at h;cases h;subst c;exact⟨rfl,Rt.refl ..⟩
  ·rw [BK c] at h;cases h
 ·have h:aA _ _=_:=h;rw [hv] at h
  by_cases c:r=0
  ·exact .inl<|Ae.mpr c
  ·rw [BK c] at h;cases h
theorem de.pop{n:Net}{ss:List Str}{kvs:List (Key×V)}{lf:List Nat}{h:Nat}(I:de n ss none kvs<|lf++[h]):de n ss (some (h,0)) kvs lf:=by
 refine⟨I.eU,I.num,I.val,I.fst,λr hr=>I.rH r<|As _ hr,λx p e=>?_,λr hb=>?_,λx p e p' kU=>?_⟩
 ·cases e;exact I.rH h<|Ar _<|Ae.mpr rfl
 ·rcases I.cls r hb with c | c | c
  ·rcases Ap.mp c with c | c
   ·exact .inl c
   ·exact .inr<|.inl ⟨0,by rw [Ae.mp c]⟩
  ·obtain⟨p,e⟩:=c;cases e
  ·exact .inr<|.inr c
 ·cases e;exact absurd kU<|Gc _
theorem de.close{n:Net}{ss:List Str}{kvs:List (Key×V)}{lf:List Nat}{h p:Nat}(I:de n ss (some (h,p)) kvs lf)(hp:(row n h).length<=p):de n ss none kvs lf:=by
 refine⟨I.eU,I.num,I.val,I.fst,I.rH,λx p e=>(by cases e),λr hb=>?_,λx p e=>(by cases e)⟩
 rcases I.cls r hb with c | c | c
 ·exact .inl c
 ·obtain⟨p',e⟩:=c;cases e;exact .inr<|.inr λp' z hz=>I.xX h p rfl p' (Bj (eQ hz) hp) z hz
 ·exact .inr<|.inr c
theorem de.step{n:Net}{ss:List Str}{kvs:List (Key×V)}{lf:List Nat}{h p:Nat}(I:de n ss (some (h,p)) kvs lf){z:Str}(hz:ax n (h,p)=some z)(ht:z∈ss->cq kvs (other n (h,p)).1):de n ss (some (h,p+1)) kvs lf:=by
 refine⟨I.eU,I.num,I.val,I.fst,I.rH,λx q e=>?_,λr hc=>?_,λx q e p' kU y hy rJ=>?_⟩
 ·cases e;exact I.lQ h p rfl
 ·rcases I.cls r hc with k | k | k
  ·exact .inl k
  ·obtain⟨q,e⟩:=k;cases e;exact .inr<|.inl ⟨_,rfl⟩
  ·exact .inr<|.inr k
 ·cases e
  by_cases k:p' < p
  ·exact I.xX h p rfl p' k y hy rJ
  ·have:p'=p:=by omega
   subst this;rw [hz] at hy;cases hy;exact ht rJ
theorem de.new{n:Net}(T:aj n){ss:List Str}{kvs:List (Key×V)}{lf:List Nat}{h p:Nat}(I:de n ss (some (h,p)) kvs lf){z:Str}(hz:ax n (h,p)=some z)(hzs:z∈ss) (hn:aA kvs (Sum.inl ((other n (h,p)).1:Int))=none) :
  de n ss (some (h,p+1)) (putK kvs (Sum.inl ((other n (h,p)).1:Int))<|.bl true) (lf++[(other n (h,p)).1]):=by
 have aT:=xk T hz;have F':=DS hn;have w:Rt n ss (bf n) (ao n (other n (h,p)).1):=(I.val h _<|I.lQ h p rfl).2.trans<|Rt.step hz hzs;have gs:cq (putK kvs (Sum.inl ((other n (h,p)).1:Int))<|.bl true) (other n (h,p)).1:=by
  show aA _ _=_;rw [fm,BL rfl]
 have up:∀{r:Nat},cq kvs r->cq (putK kvs (Sum.inl ((other n (h,p)).1:Int))<|.bl true) r:=λ{r} hc=>by
  show aA _ _=_;rw [fm]
  split
  ·rfl
  ·exact hc
 have dn:∀{r:Nat},cq (putK kvs (Sum.inl ((other n (h,p)).1:Int))<|.bl true) r->r=(other n (h,p)).1\/cq kvs r:=λ{r} hc=>by
  have hc:aA _ _=_:=hc;rw [fm] at hc
  by_cases q:r=(other n (h,p)).1
  ·exact .inl q
  ·rw [BK<|Nz q] at hc;exact .inr hc
 have I':de n ss (some (h,p)) (putK kvs (Sum.inl ((other n (h,p)).1:Int))<|.bl true) (lf++[(other n (h,p)).1]):=by
  refine⟨?_,λk hk=>?_,λr v hv=>?_,up I.fst,λr hr=>?_,λx q e=>up<|I.lQ x q e,λr hc=>?_,λx q e p' kU y hy rJ=>up<|I.xX x q e p' kU y hy rJ⟩
  ·rw [m8,BK F'];exact oM I.eU F'
  ·rw [m8,BK F'] at hk
   rcases Ap.mp hk with hk | hk
   ·exact I.num k hk
   ·exact⟨_,Ae.mp hk,aT⟩
  ·rw [fm] at hv
   by_cases q:r=(other n (h,p)).1
   ·rw [BL<|by rw [q]] at hv;cases hv;exact⟨rfl,by rw [q];exact w⟩
   ·rw [BK<|Nz q] at hv;exact I.val r v hv
  ·rcases Ap.mp hr with hr | hr
   ·exact up<|I.rH r hr
   ·rw [Ae.mp hr];exact gs
  ·rcases dn hc with q | hc
   ·exact .inl<|Ar _<|by rw [q];exact Ae.mpr rfl
   ·rcases I.cls r hc with k | k | k
    ·exact .inl<|As _ k
    ·exact .inr<|.inl k
    ·exact .inr<|.inr λp' y hy rJ=>up<|k p' y hy rJ
 exact I'.step hz λ_=>gs
theorem de.whole{n:Net}(T:aj n)(h0:0 < n.length)(hn:(n.map (·.1)).Nodup){ss:List Str}{kvs:List (Key×V)}(I:de n ss none kvs []):kvs.length=n.length↔∀ x∈n.map (·.1),Rt n ss (bf n) x:=by
 have pS:∀ r,r < n.length->Rt n ss (bf n) (ao n r)->cq kvs r:=λr hr h=>by
  obtain⟨r',h1,h2⟩:=h.ind T (P:=λx=>∃ r,cq kvs r/\ao n r=x) ⟨0,I.fst,rfl⟩ λe z he hz ⟨r,hr,q⟩=>by
   have:=lS hn (I.lt hr) (cE he) q;subst this
   rcases I.cls _ hr with c | c | c
   ·cases c
   ·obtain⟨p,e'⟩:=c;cases e'
   ·exact⟨_,c e.2 z he hz,rfl⟩
  rw [<- lS hn (I.lt h1) hr h2];exact h1
 have k:=Pp I.eU (b:=(List.range n.length).map λr=>(Sum.inl ((r:Nat):Int):Key)) (by
  rw [Bv,Fd];exact(Bv.mp Fj).imp λh e=>h<|by have:=Sum.inl.inj e;omega) λk hk=>by
  obtain⟨r,e,h⟩:=I.num k hk;exact Aj.mpr ⟨r,Bm.mpr h,e.symm⟩
 rw [Aa,Aa,Cv] at k;rw [k]
 constructor
 ·intro h x hx;obtain⟨i,hi,rfl⟩:=YH hx;have hm:=h (Sum.inl (i:Int))<|Aj.mpr ⟨i,Bm.mpr hi,rfl⟩;cases hv:aA kvs (Sum.inl (i:Int)) with
  | none=>exact absurd hm<|DS hv
  | some v=>exact(I.val i v hv).2
 ·intro h y hy;obtain⟨r,hr,rfl⟩:=Aj.mp hy;have hr:=Bm.mp hr;exact DT<|pS r hr<|h _<|ng hr
section
variable{n:Net}{z:Str}
def aq(n:Net)(z:Str):Net:=n.map λr=>(r.1,r.2.filter λy=>decide (y≠z))
theorem g5:(aq n z).length=n.length:=Aa ..
theorem rK:(aq n z).map (·.1)=n.map (·.1):=by
 unfold aq;rw [Bb];rfl
theorem GA:ag (aq n z)=(ag n).filter λy=>decide (y≠z):=by
 unfold ag aq;rw [List.flatMap_map,List.filter_flatMap]
theorem xY:(ag<|aq n z).length<=(ag n).length:=by
 rw [GA];exact Dw ..
theorem kZ(T:aj n):aj (aq n z):=λy hy=>by
 rw [GA] at hy ⊢;obtain⟨h1,h2⟩:=Au.mp hy;rw [List.count_filter (p:=λy=>decide (y≠z)) (a:=y) h2];exact T y h1
theorem k7w(h:(ag n).length<=900):∀ r∈aq n z,r.2.length<=5000:=λr hr=>by
 obtain⟨s,hs,rfl⟩:=Aj.mp hr;have h1:(s.2.filter λy=>decide (y≠z)).length<=s.2.length:=Dw ..;obtain⟨i,hi,e⟩:=Ba.mp hs;have h2:=l7 hi;rw [cV hi,e] at h2;show(s.2.filter λy=>decide (y≠z)).length<=5000;omega
theorem Pt{i:Nat}(h:i < n.length):aq (n.take<|i+1) z=aq (n.take i) z++[(ao n i,(row n i).filter λy=>decide (y≠z))]:=by
 unfold aq;rw [Cr,Ab h,Al,b8 h,cV h];rfl
def eW(n:Net):Prop:=∀ x∈n.map (·.1),Rt n (ag n) (bf n) x
noncomputable def cQ(n:Net)(z:Str):Out:=if z∈ag n then(if eW (aq n z) then .inr (aq n z) else .inl "Bridge") else .inl "NoTie"
theorem q2b(h:z∉ag n):cQ n z = .inl "NoTie":=by unfold cQ;rw [BK h]
theorem GI(h:z∈ag n)(k:¬ eW (aq n z)):cQ n z = .inl "Bridge":=by unfold cQ;rw [BL h,BK k]
theorem GU(h:z∈ag n)(k:eW<|aq n z):cQ n z = .inr (aq n z):=by unfold cQ;rw [BL h,BL k]
end
def d5(ls:List Lk):List Bl:=ls.map λx=>(x.2.1,x.2.2,false)
theorem q2x{n:Net}(T:aj n){ls:List Lk}(h:∀ x,x∈ls↔lO n x){f x:Str}:(∃ b,Way (d5 ls) f x b)↔Rt n (ag n) f x:=by
 have mem:∀{x y:Str} {o:Bool},(x,y,o)∈d5 ls↔∃ l∈ls,x=l.2.1/\y=l.2.2/\o=false:=λ{x y o}=>by
  unfold d5;rw [Aj]
  constructor
  ·rintro ⟨l,hl,q⟩;exact⟨l,hl,(BZ (·.1) q).symm,(BZ (·.2.1) q).symm,(BZ (·.2.2) q).symm⟩
  ·rintro ⟨l,hl,rfl,rfl,rfl⟩;exact⟨l,hl,rfl⟩
 constructor
 ·rintro ⟨b,w⟩;refine Pn (λx y o hm=>?_) w;obtain⟨l,hl,rfl,rfl,rfl⟩:=mem.mp hm;obtain⟨e,he,h1,h2⟩:=Nw T<|(h l).mp hl;exact⟨false,.inl<|c7.mpr ⟨e,l.1,he,eX he,h1,h2,rfl⟩⟩
 ·rintro ⟨b,w⟩;refine Pn (λx y o hm=>?_) w;obtain⟨e,z,he,hz,rfl,rfl,rfl⟩:=c7.mp hm
  rcases YD T he with q | q
  ·exact⟨false,.inl<|mem.mpr ⟨_,(h _).mpr q,rfl,rfl,rfl⟩⟩
  ·exact⟨false,.inr<|mem.mpr ⟨_,(h _).mpr q,rfl,rfl,rfl⟩⟩
theorem k37{n:Net}(T:aj n)(hN:(n.map (·.1)).Nodup)(h0:0 < n.length){ls:List Lk}(h:∀ x,x∈ls↔lO n x){kvs:List (Key×V)}(I:dw (d5 ls) (bf n) none kvs []):kvs.length=n.length↔eW n:=by
 have key:∀ x,Sum.inr x∈kvs.map (·.1)↔Rt n (ag n) (bf n) x:=λx=>by
  rw [<- q2x T h]
  constructor
  ·intro hx;cases hv:aA kvs (Sum.inr x) with
   | none=>exact absurd hx<|I.jX hv
   | some v=>
    obtain⟨b,_,w⟩:=I.val x v hv;exact⟨b,w⟩
  ·rintro ⟨b,w⟩;obtain⟨b',i7⟩:=I.whole x b w;exact DT i7
 have names:∀ x,Rt n (ag n) (bf n) x->x∈n.map (·.1):=λx hx=>hx.ind T (P:=λx=>x∈n.map (·.1)) (ng h0) λe z he _ _=>ng<|xk T he;have w8:((n.map (·.1)).map (Sum.inr:Str->Key)).Nodup:=List.Pairwise.map _ (λa b h e=>h<|Sum.inr.inj e) hN;have k:=Pp I.eU w8 λk hk=>by
  obtain⟨x,rfl,_⟩:=I.txt k hk;exact Aj.mpr ⟨x,names x<|(key x).mp hk,rfl⟩
 rw [Aa,Aa,Aa] at k;rw [k]
 constructor
 ·exact λq x hx=>(key x).mp<|q _<|Aj.mpr ⟨x,hx,rfl⟩
 ·intro q y hy;obtain⟨x,hx,rfl⟩:=Aj.mp hy;exact(key x).mpr<|q x hx
theorem de.back{n:Net}{ss:List Str}{kvs:List (Key×V)}{lf:List Nat}{h p:Nat}(I:de n ss (some (h,p+1)) kvs lf):de n ss (some (h,p)) kvs lf:=by
 refine⟨I.eU,I.num,I.val,I.fst,I.rH,λx q e=>?_,λr hc=>?_,λx q e p' kU=>?_⟩
 ·cases e;exact I.lQ h _ rfl
 ·rcases I.cls r hc with k | k | k
  ·exact .inl k
  ·obtain⟨q,e⟩:=k;cases e;exact .inr<|.inl ⟨_,rfl⟩
  ·exact .inr<|.inr k
 ·cases e;exact I.xX h _ rfl p' (Cq kU)
abbrev Lr(lf:List Nat):HO:= .lst<|lf.map λ(r:Nat)=>V.int (r:Int)
theorem GV{H:Hp}{p:Addr}(h:H p=none)(o:HO):ak H (upd H p o):=λb u q=>by rw [aw<|bP q h];exact q
theorem GW{H1 H2:Hp}{r:Addr}{o:HO}(s:ak H1 H2)(h:H1 r=none):ak H1 (upd H2 r o):=λb u q=>by
 rw [aw<|bP q h];exact s _ _ q
structure ke(H0 H:Hp)(d:Addr)(done:List<|Str×End)(kvs:List<|Key×V)(ks:List Str):Prop where
 dict:H d=some (.dK kvs)
 free:H0 d=none
 same:ak H0 H
 keys:kvs.map (·.1)=ks.map Sum.inr
 eU:ks.Nodup
 mem:∀ z,z∈ks↔bF done z≠[]
 kg:∀ z,bF done z=[]->aA kvs (Sum.inr z)=none
 jc:∀ z,bF done z≠[]->∃ a,aA kvs (Sum.inr z)=some (.ref a)/\H a=some (Lr ((bF done z).map (·.1)))/\H0 a=none/\a≠d
 inj:∀ z y a,aA kvs (Sum.inr z)=some (.ref a)->aA kvs (Sum.inr y)=some (.ref a)->z=y
theorem ke.start{H:Hp}{d:Addr}(h:H d=none):ke H (upd H d<|.dK []) d [] [] []:=
 ⟨az,h,GV h _,rfl,Db,λz=>⟨λq=>(nomatch q),λq=>absurd rfl q⟩,λz _=>rfl,λz q=>absurd rfl q,λz y a q=>(nomatch q)⟩
section
variable{H0 H:Hp}{d l0 a:Addr}{done:List (Str×End)}{kvs:List (Key×V)}{ks:List Str}{z:Str}{e:End}
theorem ke.old(I:ke H0 H d done kvs ks)(hz:bF done z≠[])(ha:aA kvs (Sum.inr z)=some (.ref a))(hl:H l0=none) :
  ke H0 (upd (upd H l0<|.lst []) a (Lr ((bF done z).map (·.1)++[e.1]))) d (done++[(z,e)]) kvs ks:=by
 obtain⟨a',v1,v2,v3,v4⟩:=I.jc z hz;rw [ha] at v1;cases v1;have rL:l0≠d:=λq=>by rw [q,I.dict] at hl;cases hl
 have snoc:=λy=>d8 done z y e;refine⟨by rw [aw<|Ne.symm v4,aw<|Ne.symm rL];exact I.dict,I.free,GW (I.same.trans<|GV hl _) v3,I.keys,I.eU,λy=>?_,λy hy=>?_,λy hy=>?_,I.inj⟩
 ·rw [snoc]
  by_cases c:z=y
  ·subst c;rw [BL rfl];exact⟨λ_ q=>(by simp at q),λ_=>(I.mem z).mpr hz⟩
  ·rw [BK c,Bc];exact I.mem y
 ·rw [snoc] at hy;exact I.kg y (Ef.mp hy).1
 ·rw [snoc] at hy ⊢
  by_cases c:z=y
  ·subst c;refine⟨a,ha,?_,v3,v4⟩;rw [BL rfl,az,Al];rfl
  ·rw [BK c,Bc] at hy ⊢;obtain⟨b,w1,w2,w3,w4⟩:=I.jc y hy;refine⟨b,w1,?_,w3,w4⟩;rw [aw (λq=>c<|I.inj z y a ha<|by rw [<- q];exact w1),aw<|bP w2 hl];exact w2
theorem ke.new(I:ke H0 H d done kvs ks)(hz:bF done z=[])(hl:H l0=none) :
  ke H0 (upd (upd (upd H l0<|.lst []) d<|.dK<|putK kvs (Sum.inr z)<|.ref l0) l0<|Lr [e.1]) d (done++[(z,e)]) (putK kvs (Sum.inr z)<|.ref l0) (ks++[z]):=by
 have rL:l0≠d:=λq=>by rw [q,I.dict] at hl;cases hl
 have Pu:H0 l0=none:=by
  cases q:H0 l0 with
  | none=>rfl
  | some v=>rw [I.same _ _ q] at hl;cases hl
 have snoc:=λy=>d8 done z y e;have Pw:z∉ks:=λq=>(I.mem z).mp q hz;have vz:=I.kg z hz;have old:∀{y:Str},y≠z->aA (putK kvs (Sum.inr z)<|.ref l0) (Sum.inr y)=aA kvs (Sum.inr y):=λ{y} c=>by
  rw [fm,BK λq=>c<|Sum.inr.inj q]
 have new:aA (putK kvs (Sum.inr z)<|.ref l0) (Sum.inr z)=some (.ref l0):=by rw [fm,BL rfl]
 have heap:∀ y b,aA kvs (Sum.inr y)=some (.ref b)->H b≠none:=λy b hb=>by
  have:bF done y≠[]:=λq=>by rw [I.kg y q] at hb;cases hb
  obtain⟨b',w1,w2,_⟩:=I.jc y this;rw [hb] at w1;cases w1;rw [w2];simp
 refine⟨by rw [aw<|Ne.symm rL];exact az,I.free,GW (GW (I.same.trans<|GV hl _) I.free) Pu,?_,oM I.eU Pw,λy=>?_,λy hy=>?_,λy hy=>?_,λy x b hy hx=>?_⟩
 ·rw [m8,I.keys,BK,Al]
  ·rfl
  ·intro q;obtain⟨y,hy,e⟩:=Aj.mp q;cases e;exact Pw hy
 ·rw [snoc,Ap,Ae]
  by_cases c:z=y
  ·subst c;rw [BL rfl];exact⟨λ_ q=>(by simp at q),λ_=> .inr rfl⟩
  ·rw [BK c,Bc,I.mem y];exact⟨λq=>q.elim id λk=>absurd k.symm c,.inl⟩
 ·rw [snoc] at hy
  by_cases c:z=y
  ·subst c;rw [BL rfl] at hy;simp at hy
  ·rw [BK c,Bc] at hy;rw [old<|Ne.symm c];exact I.kg y hy
 ·rw [snoc] at hy ⊢
  by_cases c:z=y
  ·subst c;refine⟨l0,new,?_,Pu,rL⟩;rw [BL rfl,az,hz];rfl
  ·rw [BK c,Bc] at hy ⊢;obtain⟨b,w1,w2,w3,w4⟩:=I.jc y hy;refine⟨b,by rw [old<|Ne.symm c];exact w1,?_,w3,w4⟩;have nb:b≠l0:=bP w2 hl;rw [aw nb,aw w4,aw nb];exact w2
 ·by_cases c1:y=z
  ·by_cases c2:x=z
   ·rw [c1,c2]
   ·rw [c1,new] at hy;cases hy;rw [old c2] at hx;exact absurd hl<|heap x _ hx
  ·rw [old c1] at hy
   by_cases c2:x=z
   ·rw [c2,new] at hx;cases hx;exact absurd hl<|heap y _ hy
   ·rw [old c2] at hx;exact I.inj y x b hy hx
end
end Nt
namespace L2
open PySem PySem.Spec PyProof.Rows bn
section
variable{X:Cx}{a b e:Expr}{es:List Expr}{σ:St}{H:Hp}{Q:VK}{pos p kp cp:Pos}{j:Nat}
end
end L2
namespace A5
open PySem L2 Nt bn b6
open PyProof.Rows (sortedS)
open Classical
def Sm(m:Net):Prop:=m.length<=1000/\∀ r∈m,r.2.length<=5000
def nL(c:Str->Addr)(out:Net->Str->Out):Sp:=λvs H Q E=>∃(R:Addr) (as:List<|Addr×Addr) (n:Net) (z:Str),vs=[.ref R,.str z]/\ai H R as n/\aj n/\(n.map (·.1)).Nodup/\n.length<=60/\(ag n).length<=60/\uO n /\
 (∀ x,out n z = .inl x->∀ H',ak H H'->E (.ref<|c x) none H') /\
 ∀ m,out n z = .inr m->∀ L bs H',ak H H'->H L=none->(∀ a∈bs,H a.1=none/\H a.2=none)->ai H' L bs m->Sm m->Q (.ref L) H'
theorem lY.snoc{H:Hp}{us:List Addr}{ls:List Bl}{u:Addr}{x:Bl}(h:lY H us ls)(hu:H u=some (OI x)):lY H (us++[u]) (ls++[x]):=by
 refine⟨by rw [Ah,Ah,h.1];rfl,λj v y h1 h2=>?_⟩;have hl:=h.1
 by_cases hj:j < us.length
 ·rw [Bp hj] at h1;rw [Bp<|by omega] at h2;exact h.2 j v y h1 h2
 ·rw [Bs<|by omega] at h1 h2;have lT:j - us.length=0:=by
   have:=(Ad.mp h1).1;simp at this;omega
  rw [lT] at h1;rw [<- hl,lT] at h2;cases h1;cases h2;exact hu
noncomputable def jd:Sp:=λvs H Q _=>∃(R:Addr) (as:List<|Addr×Addr) (n:Net),vs=[.ref R]/\ai H R as n/\aj n/\(n.map (·.1)).Nodup/\0 < n.length/\n.length<=60/\(ag n).length<=60/\∀ H',ak H H'->Q (.bl<|decide (eW n)) H'
def G0:Sp:=λvs H Q _=>∃(R:Addr) (as:List<|Addr×Addr) (n:Net) (z:Str),vs=[.ref R,.str z]/\ai H R as n/\n.length<=1000/\(ag n).length<=900/\∀ L bs H',ak H H'->H L=none->(∀ a∈bs,H a.1=none/\H a.2=none)->ai H' L bs (aq n z)->Q (.ref L) H'
theorem k76{ls:List Lk}{i:Nat}(h:i < ls.length):d5 (ls.take<|i+1)=d5 (ls.take i)++[((ls[i]).2.1,(ls[i]).2.2,false)]:=by
 unfold d5;rw [Cr,Ab h,Al];rfl
theorem ne_str(y z:Str):(!decide (V.str y=V.str z))=decide (y≠z):=by
 by_cases c:y=z
 ·rw [c,BR rfl,BW λk=>k rfl];rfl
 ·rw [BW λk=>c<|V.str.inj k,BR c];rfl
theorem q44{n:Net}{z:Str}(hn:n.length<=1000)(ht:(ag n).length<=900):Sm (aq n z):=⟨by rw [g5];exact hn,k7w ht⟩
section
variable{P:Program}{w:World}{K:PySem.W.Frag}{mg:Str->Option Value}{base:Heap}
abbrev Px:List Str:=["rows","links"]
abbrev uS:List Str:=["rows","links","tie","one","other"]
theorem uT:au Px ["rows"] (bj wK):=⟨rfl,rfl,rfl,by decide +kernel,rfl,by decide +kernel,by decide +kernel⟩
theorem G':uS.Nodup:=by decide +kernel
theorem q84{f:Addr}{fd:FuncData}(F:bW K "hangs_together" "hangs_together" wK f fd)(T:Txt mg)(GL:bB P w K mg base 1 "links_of" ["rows"] E8)(GS:bB P w K mg base 1 "spread" ["first","links"] FA) :
  aM P w K mg base cf 2 f fd ["rows"] jd:=by
 refine F.gb uT (λvs H Q E h=>?_) λb0 H vs Q E hr h=>?_
 ·obtain⟨R,as,n,rfl,_⟩:=h;rfl
 obtain⟨R,as,n,rfl,hR,hT,hN,h0,hn,jA,q⟩:=h;have nd:=uT.nd;have bM:=hR.len;show Run _ _ _ [some<|.ref R,none] H;refine wq 1 (bj wK) Px uS 3 nd (jm bI) (bY GL hr<|ah<|ae 0<|ay ⟨R,as,n,rfl,hR,hT,by omega,jA,λL us ls H1 s1 n1 eL eY qV iq hlen=>?_⟩);refine⟨L,rfl,⟨_,al.of eL⟩,λD hD=>?_⟩;have FC:=eY.1;refine mX (xs:=us.map V.ref) (λi σ' H'=>(∃ v1 v2 v3,σ'=[some<|.ref R,none]++[v1,v2,v3])/\∃ ws:List Addr,ak H1 H'/\H' D=some (.lst<|ws.map V.ref)/\lY H' ws (d5<|ls.take i)) ⟨⟨_,_,_,rfl⟩,[],aQ hD _,az,rfl,λj u x h=>by simp at h⟩ ?_ ?_ ?_
 ·rintro i σ' H' _ ⟨_,ws,sm,_⟩;exact al.of<|sm _ _ eL
 ·rintro i x σ' H' hx ⟨⟨v1,v2,v3,rfl⟩,ws,sm,eD,je⟩;rw [Ag,Az] at hx;obtain⟨u,ju,rfl⟩:=hx;have hi:i < ls.length:=by
   have:=(Ad.mp ju).1;omega
  have pJ:=sm _ _<|eY.2 i u _ ju<|Ab hi;rw [k76 hi];have lw:ws.length<=i:=by
   have:=je.1;unfold d5 at this;rw [Aa,Bo] at this;omega
  generalize ls[i]=lx at pJ;obtain⟨ti,on,ot⟩:=lx;intro cl C' s₀ H₀ ex;refine Oy rfl (aW.of pJ) (bA 2 G'<|bA 3 G'<|bA 4 G' ?_);intro cl C' s₀ H₀ ex;refine mP<|cB ?_;intro cl C' s₀ H₀ ex;refine d7 (ah<|ae 3<|ah<|ae 4<|ah<|kD<|ay ⟨(by show 3<=sizeLine;decide),λt gI=>?_⟩);have pL:t≠D:=λe=>by rw [e,eD] at gI;cases gI
  have sT:=aQ gI<|.tup [.str on,.str ot,.bl false];refine⟨_,sT _ _ eD,by rw [Aa];exact cn (by omega),⟨_,_,_,rfl⟩,ws++[t],d9 (sm.trans sT) hD,?_,?_⟩
  ·rw [az,Al];rfl
  ·refine lY.snoc ⟨je.1,λj v y h1 h2=>?_⟩ ?_
   ·have e:=sT _ _<|je.2 j v y h1 h2;rw [aw<|eF e (sT _ _ eD) λz=>nomatch z];exact e
   ·rw [aw pL];exact az
 ·rintro σ' H2 ⟨_,ws,s2,eD,je⟩;rw [Aa,FC,Cb] at je;have rq:ak H H2:=s1.trans s2;have pT:=hR.same rq;obtain⟨a0,D6,pC,uh,nr,N5⟩:=pT.at h0;rw [<- b8 h0] at uh;show Run _ _ _ [some<|.ref R,some<|.ref D] H2;refine cD<|mI g9<|cK K5 T.len CT<|ah<|bY GS hr<|ah<|bh cI<|bh dq<|ae 0<|aF ⟨R,_,_,.ref a0.1,rfl,rfl,al.of pT.lst,pC,aF ⟨a0.1,_,_,.str<|ao n 0,rfl,rfl,aW.of uh,rfl,?_⟩⟩;refine ah (ae 1<|ay ⟨bf n,D,ws,d5 ls,rfl,eD,je,by unfold d5;rw [Aa];omega,λd kvs H3 s3 nd3 xZ I=>ay ⟨d,kvs,rfl,xZ,?_⟩⟩);refine cK dP T.len CT<|ah<|ae 0<|ay ⟨R,_,rfl,.inl<|al.of<|s3 _ _ pT.lst,rfl,?_⟩;rw [Aa,bM];have k:=k37 hT hN h0 iq I;have e:decide (V.int (kvs.length:Int)=V.int (n.length:Int))=decide (eW n):=by
   rw [decide_eq_decide,<- k]
   constructor
   ·intro h;have:=V.int.inj h;omega
   ·intro h;rw [h]
  rw [e];exact q H3<|rq.trans s3
abbrev Py:List Str:=["rows","tie","rest"]
abbrev Hk:List Str:=["rows","tie","rest","point","ties"]
abbrev Pz:List Str:=["rows","tie","rest","point","ties","each"]
theorem uU:au Py ["rows","tie"] (bj o7):=⟨rfl,rfl,rfl,by decide +kernel,rfl,by decide +kernel,by decide +kernel⟩
theorem PD:Hk.Nodup:=by decide +kernel
theorem q87:Pz.Nodup:=by decide +kernel
def q7x:Scope:=match iF o7 with
 | _ :: .Assign _ (.ListComp _ _ sc _) _ :: _=>sc
 | _=>bj o7
def q88:Scope:=relabel q7x<|PyProof.Rows.envOfC "taken_out" (bj o7) 0 0 .none
theorem q82{f:Addr}{fd:FuncData}{c:Str->Addr}(F:bW K "taken_out" "taken_out" o7 f fd)(T:Txt mg)(cl:Cl K mg c)(GN:cO P w K mg base 2 "need_tie" ["rows","tie"]<|xU c)(GH:bB P w K mg base 2 "hangs_together" ["rows"] jd) :
  aM P w K mg base (XF P w) 3 f fd ["rows","tie"] (nL c cQ):=by
 refine F.gx uU (λvs H Q E h=>?_) λb0 H vs Q hr h=>?_
 ·obtain⟨R,as,n,z,rfl,_⟩:=h;rfl
 obtain⟨R,as,n,z,rfl,hR,hT,hN,tu,xN,bC,qE,qQ⟩:=h;have hn:n.length<=1000:=by omega
 have ht:(ag n).length<=900:=by omega
 have nd:=uU.nd;have bM:=hR.len;have mB:("Bridge" : Str)∈bD:=by decide
 show Run _ _ _ [some<|.ref R,some<|.str z,none] H;refine fQ<|rF GN hr OY<|ah<|ae 0<|ah<|ae 1<|ay ⟨R,as,n,z,rfl,hR,hn,ht,bC,λhz=>qE _<|q2b hz,λhz H1 s1=>?_⟩;have kh:=hR.same s1;refine wq 2 (bj o7) Py Hk 2 nd (jm bI)<|ae 0 ⟨R,rfl,⟨_,al.of kh.lst⟩,λD hD=>?_⟩;have nD0:=gX s1 hD;refine mX (xs:=as.map λa=>V.ref a.1) (λi σ' H'=>(∃ v1 v2,σ'=[some<|.ref R,some<|.str z,none]++[v1,v2])/\ak H1 H'/\∃ bs,e9 H H' D bs<|aq (n.take i) z) ⟨⟨none,none,rfl⟩,aQ hD _,[],e9.nil az⟩ ?_ ?_ ?_
 ·rintro i σ' H' _ ⟨_,sm,_⟩;exact al.of<|sm _ _ kh.lst
 ·rintro i x σ' H' hx ⟨⟨v1,v2,rfl⟩,sm,bs,hB⟩;have hi:i < n.length:=by
   have:=(Ad.mp hx).1;rw [Aa] at this;omega
  obtain⟨a,ea,db,et,el,er⟩:=(kh.same sm).at hi;rw [Ag,ea] at hx;cases hx;rw [<- b8 hi] at et;have bl:=hB.rows.len;rw [g5,Bo] at bl;have D4:=l7 hi;rw [Pt hi];intro iR C' s₀ H₀ ex;refine kL rfl (aW.of et) (bA 3 PD<|bA 4 PD ?_);intro iR C' s₀ H₀ ex;refine mP<|cB ?_;intro iR C' s₀ H₀ ex;refine d7<|ah<|ae 3<|ah<|qR q88 Hk Pz 1 (jm bI)<|ae 4 ⟨a.2,rfl,⟨_,al.of el⟩,λD2 jg=>?_⟩;refine MI (σ:=[some<|.ref R,some<|.str z,none,some<|.str<|ao n i,some<|.ref a.2]) (λy=>decide (y≠z)) (cn<|by omega) el jg (λcl C s₀ H₀ ex v v0 H' R' h=>bA 5 q87 h) (λcl C s₀ H₀ ex y ys T' h=>?_) (λcl C s₀ H₀ ex y H' R' h=>ae 5 h) ?_
  ·refine wo<|dv qA<|ae 5<|ae 1 ⟨rfl,_,rfl,?_⟩;rw [ne_str];exact h
  ·have s2:=aQ jg<|Ls<|(row n i).filter λy=>decide (y≠z);have pU:=hB.same s2;have e2:(upd H' D2<|Ls<|(row n i).filter λy=>decide (y≠z)) D2=some (Ls<|(row n i).filter λy=>decide (y≠z)):=az;refine ay ⟨Z2,λt cU=>⟨bs.map λa=>V.ref a.1,?_,?_,⟨_,_,rfl⟩,?_,bs++[(t,D2)],?_⟩⟩
   ·rw [aw λe=>by rw [<- e] at cU;exact absurd (pU.rows.lst.symm.trans cU)<|by simp];exact pU.rows.lst
   ·rw [Aa];exact cn<|by omega
   ·exact d9 (sm.trans<|s2.trans<|aQ cU _) hD
   ·exact pU.add (p:=ao n i) e2 (gX (s1.trans sm) jg) (λk=>by
     obtain⟨a',gU,e'⟩:=Aj.mp k;have:=(hB.dM gU).2;rw [e',jg] at this;exact this rfl) (λe=>by rw [e,hB.rows.lst] at jg;cases jg) cU<|gX (s1.trans<|sm.trans s2) cU
 rintro σ' H2 ⟨_,s2,bs,hB⟩;rw [Aa,bM,Cb] at hB;have pV:=s1.trans s2;show Run _ _ _ [some<|.ref R,some<|.str z,some<|.ref D] H2;have h0:0 < n.length:=by
  obtain⟨r,jY,_⟩:=nK hz;omega
 have lo:=xY (n:=n) (z:=z);refine gq (Vd<|zW<|bY GH hr<|ah<|ae 2<|ay ⟨D,bs,_,rfl,hB.rows,kZ hT,by rw [rK];exact hN,by rw [g5];exact h0,by rw [g5];omega,by omega,λH3 s3=>⟨_,rfl,?_⟩⟩);have rM:=pV.trans s3
 by_cases hw:eW<|aq n z
 ·rw [BR hw];exact cM<|a8<|cD<|ae 2<|qQ _ (GU hz hw) D bs H3 rM nD0 hB.new (hB.rows.same s3)<|q44 hn ht
 ·rw [BW hw];exact cB<|FK FR (cl.at' _ mB).1 (cl.at' _ mB).2.1 rfl (ah<|fP<|ay ⟨Z1,qE _ (GI hz hw) _ rM⟩)
abbrev PF:List Str:=["_law_rows","_law_tie"]
abbrev Hl:List Str:=["_law_rows","_law_tie","_law_point","_law_row"]
abbrev PH:List Str:=["_law_rows","_law_tie","_law_point","_law_row","_law_name"]
theorem uV:au PF ["_law_rows","_law_tie"] (bj pg):=⟨rfl,rfl,rfl,by decide +kernel,rfl,by decide +kernel,by decide +kernel⟩
theorem PQ:Hl.Nodup:=by decide +kernel
theorem q8q:PH.Nodup:=by decide +kernel
def q5n:Scope:=match iF pg with
 | [.Return (some<|.ListComp _ _ sc _) _]=>sc
 | _=>bj pg
def q8l:Scope:=relabel q5n<|PyProof.Rows.envOfC "_law_out" (bj pg) 0 0 .none
theorem q4s{f:Addr}{fd:FuncData}(F:bW K "_law_out" "_law_out" pg f fd)(T:Txt mg):aM P w K mg base cf 1 f fd ["_law_rows","_law_tie"] G0:=by
 refine F.gb uV (λvs H Q E h=>?_) λb0 H vs Q E hr h=>?_
 ·obtain⟨R,as,n,z,rfl,_⟩:=h;rfl
 obtain⟨R,as,n,z,rfl,hR,hn,ht,q⟩:=h;have nd:=uV.nd;have bM:=hR.len;show Run _ _ _ [some<|.ref R,some<|.str z] H;refine cD<|qR (bj pg) PF Hl 2 (jm bI)<|ae 0 ⟨R,rfl,⟨_,al.of hR.lst⟩,λD hD=>?_⟩;refine mX (xs:=as.map λa=>V.ref a.1) (λi σ' H'=>(∃ v1 v2,σ'=[some<|.ref R,some<|.str z]++[v1,v2])/\ak H H'/\∃ bs,e9 H H' D bs<|aq (n.take i) z) ⟨⟨none,none,rfl⟩,aQ hD _,[],e9.nil az⟩ ?_ ?_ ?_
 ·rintro i σ' H' _ ⟨_,sm,_⟩;exact al.of<|sm _ _ hR.lst
 ·rintro i x σ' H' hx ⟨⟨v1,v2,rfl⟩,sm,bs,hB⟩;have hi:i < n.length:=by
   have:=(Ad.mp hx).1;rw [Aa] at this;omega
  obtain⟨a,ea,db,et,el,er⟩:=(hR.same sm).at hi;rw [Ag,ea] at hx;cases hx;rw [<- b8 hi] at et;have bl:=hB.rows.len;rw [g5,Bo] at bl;have D4:=l7 hi;rw [Pt hi];intro iR C' s₀ H₀ ex;refine kL rfl (aW.of et) (bA 2 PQ<|bA 3 PQ ?_);intro iR C' s₀ H₀ ex;refine mP<|cB ?_;intro iR C' s₀ H₀ ex;refine d7<|ah<|ae 2<|ah<|qR q8l Hl PH 1 (jm bI)<|ae 3 ⟨a.2,rfl,⟨_,al.of el⟩,λD2 jg=>?_⟩;refine MI (σ:=[some<|.ref R,some<|.str z,some<|.str<|ao n i,some<|.ref a.2]) (λy=>decide (y≠z)) (cn<|by omega) el jg (λcl C s₀ H₀ ex v v0 H' R' h=>bA 4 q8q h) (λcl C s₀ H₀ ex y ys T' h=>?_) (λcl C s₀ H₀ ex y H' R' h=>ae 4 h) ?_
  ·refine wo<|dv qA<|ae 4<|ae 1 ⟨rfl,_,rfl,?_⟩;rw [ne_str];exact h
  ·have s2:=aQ jg<|Ls<|(row n i).filter λy=>decide (y≠z);have pU:=hB.same s2;have e2:(upd H' D2<|Ls<|(row n i).filter λy=>decide (y≠z)) D2=some (Ls<|(row n i).filter λy=>decide (y≠z)):=az;refine ay ⟨Z2,λt cU=>⟨bs.map λa=>V.ref a.1,?_,?_,⟨_,_,rfl⟩,?_,bs++[(t,D2)],?_⟩⟩
   ·rw [aw λe=>by rw [<- e] at cU;exact absurd (pU.rows.lst.symm.trans cU)<|by simp];exact pU.rows.lst
   ·rw [Aa];exact cn<|by omega
   ·exact d9 (sm.trans<|s2.trans<|aQ cU _) hD
   ·exact pU.add (p:=ao n i) e2 (gX sm jg) (λk=>by
     obtain⟨a',gU,e'⟩:=Aj.mp k;have:=(hB.dM gU).2;rw [e',jg] at this;exact this rfl) (λe=>by rw [e,hB.rows.lst] at jg;cases jg) cU<|gX (sm.trans s2) cU
 rintro σ' H2 ⟨_,s2,bs,hB⟩;rw [Aa,bM,Cb] at hB;exact q D bs H2 s2 hD hB.new hB.rows
open PyProof.Rows (sortedS)
open Classical
def Hm:Sp:=λvs H Q _=>∃(a b:Addr) (xs ys:List Str) (z:Str),vs=[.ref a,.ref b,.str z]/\H a=some (Ls xs)/\H b=some (Ls ys)/\z∈xs/\z∈ys/\xs.length<=1000/\ys.length<=1000/\∀ l H',ak H H'->H l=none->H' l=some (Ls<|eV xs ys z)->Q (.ref l) H'
abbrev NJ:List Str:=["ties","others","tie","place","turn"]
theorem PR:au NJ ["ties","others","tie"] (bj BO):=⟨rfl,rfl,rfl,by decide +kernel,rfl,by decide +kernel,by decide +kernel⟩
theorem q2k{f:Addr}{fd:FuncData}(F:bW K "joined" "joined" BO f fd)(T:Txt mg):aM P w K mg base cf 1 f fd ["ties","others","tie"] Hm:=by
 refine F.gb PR (λvs H Q E h=>?_) λb0 H vs Q E hr h=>?_
 ·obtain⟨a,b,xs,ys,z,rfl,_⟩:=h;rfl
 obtain⟨a,b,xs,ys,z,rfl,ha,hb,hx,hy,lx,ly,q⟩:=h;have nd:=PR.nd;show Run _ _ _ [some<|.ref a,some<|.ref b,some<|.str z,none,none] H;refine a9 3 nd<|Pk ha hx lx (λR h=>ae 0 h) (λR h=>ae 2 h) ?_;show Run _ _ _ [some<|.ref a,some<|.ref b,some<|.str z,some<|.int (aE xs z:Int),none] H;refine a9 4 nd<|Pk hb hy ly (λR h=>ae 1 h) (λR h=>ae 2 h) ?_;show Run _ _ _ [some<|.ref a,some<|.ref b,some<|.str z,some<|.int (aE xs z:Int),some<|.int (aE ys z:Int)] H;refine cD<|aX sR<|aX sR<|aX sR<|Ph ha (λR h=>ae 0 h) (λR h=>ae 3 h) λp1 h1=>?_;have s1:=aQ h1<|Ls<|xs.take<|aE xs z;have e1:(upd H p1<|Ls<|xs.take<|aE xs z) p1=some (Ls<|xs.take<|aE xs z):=az;generalize upd H p1 (Ls<|xs.take<|aE xs z)=H1 at s1 e1;refine Pj (s1 _ _ hb) (λR h=>ae 1 h) (λR h=>ae 4 h) λp2 h2=>?_;have s2:=aQ h2<|Ls<|ys.drop<|aE ys z+1;refine xW (s2 _ _ e1) az (by simp only [Bo,Cn];omega) λp3 h3=>?_;have s3:=aQ h3<|Ls<|xs.take (aE xs z)++ys.drop (aE ys z+1);have e3:(upd (upd H1 p2<|Ls<|ys.drop<|aE ys z+1) p3<|Ls<|xs.take (aE xs z)++ys.drop (aE ys z+1)) p3=some (Ls<|xs.take (aE xs z)++ys.drop (aE ys z+1)):=az;have rM:=s1.trans<|s2.trans s3;generalize upd (upd H1 p2<|Ls<|ys.drop<|aE ys z+1) p3 (Ls<|xs.take (aE xs z)++ys.drop (aE ys z+1))=H3 at rM e3;refine Ph (rM _ _ hb) (λR h=>ae 1 h) (λR h=>ae 4 h) λp4 h4=>?_;have s4:=aQ h4<|Ls<|ys.take<|aE ys z;refine xW (s4 _ _ e3) az (by simp only [Ah,Bo,Cn];omega) λp5 h5=>?_;have s5:=aQ h5<|Ls<|xs.take (aE xs z)++ys.drop (aE ys z+1)++ys.take (aE ys z);have e5:(upd (upd H3 p4<|Ls<|ys.take<|aE ys z) p5<|Ls<|xs.take (aE xs z)++ys.drop (aE ys z+1)++ys.take (aE ys z)) p5=some (Ls<|xs.take (aE xs z)++ys.drop (aE ys z+1)++ys.take (aE ys z)):=az;have x0:=rM.trans<|s4.trans s5;generalize upd (upd H3 p4<|Ls<|ys.take<|aE ys z) p5 (Ls<|xs.take (aE xs z)++ys.drop (aE ys z+1)++ys.take (aE ys z))=H5 at x0 e5;refine Pj (x0 _ _ ha) (λR h=>ae 0 h) (λR h=>ae 3 h) λp6 h6=>?_;have s6:=aQ h6<|Ls<|xs.drop<|aE xs z+1;refine xW (s6 _ _ e5) az (by simp only [Ah,Bo,Cn];omega) λp7 h7=>?_;have s7:=aQ h7<|Ls<|xs.take (aE xs z)++ys.drop (aE ys z+1)++ys.take (aE ys z)++xs.drop (aE xs z+1);refine q p7 _ (x0.trans<|s6.trans s7) (gX (x0.trans s6) h7) ?_;rw [az];unfold eV;rw [At<|xs.take<|aE xs z]
abbrev Hn:List Str:=["rows","tie","holders","stays","goes","lists","both"]
abbrev pW:List Str:=["rows","tie","holders","stays","goes","lists","both","point","ties"]
theorem nM:au Hn ["rows","tie"] (bj tT):=⟨rfl,rfl,rfl,by decide +kernel,rfl,by decide +kernel,by decide +kernel⟩
theorem x4:pW.Nodup:=by decide +kernel
theorem k84{a b:List Str}{z:Str}(la:a.length<=900)(lb:b.length<=900):(eV a b z).length<=5000:=by
 unfold eV;simp only [Ah,Bo,Cn];omega
theorem q6z{n:Net}{z:Str}{r0 r1:Nat}(tw:jB n z r0 r1)(hn:n.length<=1000)(ht:(ag n).length<=900):Sm (shr n z r0 r1):=by
 refine⟨Cp F5 hn,λr hr=>?_⟩;unfold shr fF at hr;obtain⟨i,hi,rfl⟩:=Aj.mp hr;have wu:=Bm.mp (Au.mp hi).1;show(if i=r0 then eV (row n r0) (row n r1) z else row n i).length<=5000;have l0:=l7 tw.l0;have l1:=l7 tw.l1;have li:=l7 wu
 split
 ·exact k84 (by omega)<|by omega
 ·omega
theorem q7p{n:Net}{z:Str}{i:Nat}:((cH n z i).map<|ao n).length<=i:=by
 rw [Aa];unfold cH;exact Cp (Dw ..)<|by rw [Cv];exact Ao _
theorem q58{f:Addr}{fd:FuncData}{c:Str->Addr}(F:bW K "shrunk" "shrunk" tT f fd)(T:Txt mg)(cl:Cl K mg c)(GN:cO P w K mg base 2 "need_tie" ["rows","tie"]<|xU c)(GJ:bB P w K mg base 2 "joined" ["ties","others","tie"] Hm) :
  aM P w K mg base (XF P w) 3 f fd ["rows","tie"] (nL c cP):=by
 refine F.gx nM (λvs H Q E h=>?_) λb0 H vs Q hr h=>?_
 ·obtain⟨R,as,n,z,rfl,_⟩:=h;rfl
 obtain⟨R,as,n,z,rfl,hR,hT,hN,tu,xN,bC,qE,qQ⟩:=h;have hn:n.length<=1000:=by omega
 have ht:(ag n).length<=900:=by omega
 have nd:=nM.nd;have bM:=hR.len;have hu:=hr.u1;have mL:("Loop" : Str)∈bD:=by decide
 show Run _ _ _ [some<|.ref R,some<|.str z,none,none,none,none,none] H;refine fQ<|rF GN hr OY<|ah<|ae 0<|ah<|ae 1<|ay ⟨R,as,n,z,rfl,hR,hn,ht,bC,λhz=>qE _<|q60 hz,λhz H1 s1=>?_⟩;have kh:=hR.same s1;refine wq 2 (bj tT) Hn pW 2 nd (jm bI)<|ae 0 ⟨R,rfl,⟨_,al.of kh.lst⟩,λD hD=>?_⟩;refine mX (xs:=as.map λa=>V.ref a.1) (λi σ' H'=>(∃ v1 v2,σ'=[some<|.ref R,some<|.str z,none,none,none,none,none]++[v1,v2])/\ak H1 H'/\H' D=some (Ls<|(cH n z i).map<|ao n)) ⟨⟨none,none,rfl⟩,aQ hD _,az⟩ ?_ ?_ ?_
 ·rintro i σ' H' _ ⟨_,sm,_⟩;exact al.of<|sm _ _ kh.lst
 ·rintro i x σ' H' hx ⟨⟨v1,v2,rfl⟩,sm,eD⟩;have hi:i < n.length:=by
   have:=(Ad.mp hx).1;rw [Aa] at this;omega
  obtain⟨a,ea,db,et,el,er⟩:=(kh.same sm).at hi;rw [Ag,ea] at hx;cases hx;rw [<- b8 hi] at et;intro iR C' s₀ H₀ ex;refine kL rfl (aW.of et) (bA 7 x4<|bA 8 x4 ?_);intro iR C' s₀ H₀ ex;refine wo<|dv Ui<|ae 1<|ae 8 ⟨a.2,_,rfl,.inl<|al.of el,rfl,C1 _,_,rfl,?_⟩;rw [BK Aq,ML,O7];refine iX (λk=>?_) λk=>⟨⟨_,_,rfl⟩,sm,?_⟩
  ·intro iR C' s₀ H₀ ex;have:=q7p (n:=n) (z:=z) (i:=i);refine ae 7 ⟨_,eD,cn (by rw [Aa];omega),⟨_,_,rfl⟩,d9 sm hD,?_⟩;rw [F1,BL<|CG k,az,Al];show _=some (HO.lst<|List.map V.str<|_++_);rw [Al];rfl
  ·rw [F1,BK λy=>k<|BR y,Bc];exact eD
 rintro σ' H2 ⟨_,s2,eD⟩;rw [Aa,bM] at eD;have pT:=kh.same s2;have pV:=s1.trans s2;show Run _ _ _ [some<|.ref R,some<|.str z,some<|.ref D,none,none,none,none] H2;refine gq<|dv g9<|cK dP T.len CT<|ah<|ae 2<|ay ⟨D,_,rfl,.inl<|al.of eD,aF ⟨rfl,_,rfl,?_⟩⟩;rw [Aa,Aa]
 rcases xV hT hz with ⟨r,h1⟩ | ⟨r0,r1,h2⟩
 ·rw [show cH n z n.length=[r] from h1];exact cB<|FK FR (cl.at' _ mL).1 (cl.at' _ mL).2.1 rfl (ah<|fP<|ay ⟨Z1,qE _ (F6 h1) _ pV⟩)
 rw [show cH n z n.length=[r0,r1] from h2];rw [show cH n z n.length=[r0,r1] from h2] at eD;have tw:=pR h2;refine cM<|a8<|Vh<|ae 2<|Z9 rfl (al.of (xs:=[.str<|ao n r0,.str<|ao n r1]) eD) (bA 3 nd<|bA 4 nd ?_);show Run _ _ _ [some<|.ref R,some<|.str z,some<|.ref D,some<|.str<|ao n r0,some<|.str<|ao n r1,none,none] H2;have knd:=k36 bM hN;have Ho:(di n as).length=n.length:=by have:=BZ List.length<|F8 n as bM;simpa using this
 refine a9 5 nd (oQ (Xj rfl) T.tV PyProof.Rows.boot_dict (ah (ae 0 (ay ⟨R,as.map (·.1),di n as,rfl,?_,?_,?_,?_,λdl gA=>?_⟩))))
 ·rw [Bb];exact pT.lst
 ·rw [Aa,Ho,bM]
 ·rw [Aa];exact cn<|by omega
 ·intro j t kv h1 h2;rw [Ag,Az] at h1;obtain⟨a,ea,rfl⟩:=h1;have hj:j < n.length:=by have:=(Ad.mp ea).1;omega
  have e:=Pa (Ab hj) ea;rw [h2] at e;cases e;exact(pT.tup j a n[j] ea<|Ab hj).1
 rw [Pg (acc:=[]) (by rw [RN];exact knd),RN];have s3:=aQ gA<|.dK<|di n as;have el:(upd H2 dl<|.dK<|di n as) dl=some (.dK<|di n as):=az;generalize upd H2 dl (.dK<|di n as)=H3 at s3 el;have jx:=pT.same s3;show Run _ _ _ [some<|.ref R,some<|.str z,some<|.ref D,some<|.str<|ao n r0,some<|.str<|ao n r1,some<|.ref dl,none] H3;obtain⟨a0,D6,_,uh,nr,N5⟩:=jx.at tw.l0;obtain⟨a1,ea1,_,xq,pX,er1⟩:=jx.at tw.l1;have val:∀{r:Nat} {a:Addr×Addr} (hr:r < n.length),as[r]?=some a->aA (di n as) (Sum.inr<|ao n r)=some (.ref a.2):=λ{r a} hr ha=>by
  have:=Pb knd<|Pa (Ab hr) ha;rw [b8 hr];exact this
 have l0:=l7 tw.l0;have l1:=l7 tw.l1;refine a9 6 nd (bY GJ hr<|ah<|qX hu<|ae 5<|ae 3 ⟨dl,.ref a0.2,rfl,by rw [<- val tw.l0 D6];exact bH.k (k:=Sum.inr<|ao n r0) el,?_⟩);refine ah (qX hu<|ae 5<|ae 4 ⟨dl,.ref a1.2,rfl,by rw [<- val tw.l1 ea1];exact bH.k (k:=Sum.inr<|ao n r1) el,?_⟩);refine ah (ae 1<|ay ⟨a0.2,a1.2,_,_,z,rfl,nr,pX,tw.m0,tw.m1,by omega,by omega,λlb H4 s4 nb eb=>?_⟩);show Run _ _ _ [some<|.ref R,some<|.str z,some<|.ref D,some<|.str<|ao n r0,some<|.str<|ao n r1,some<|.ref dl,some<|.ref lb] H4;have rN:=pV.trans<|s3.trans s4;have gW:=hR.same rN;have nb0:H lb=none:=gX (pV.trans s3) nb;refine cD<|qR (bj tT) Hn pW 2 (jm bI)<|ae 0 ⟨R,rfl,⟨_,al.of gW.lst⟩,λM hM=>?_⟩;have nM0:=gX rN hM;have nbM:lb≠M:=bP eb hM;refine mX (xs:=as.map λa=>V.ref a.1) (λi σ' H'=>(∃ v1 v2,σ'=[some<|.ref R,some<|.str z,some<|.ref D,some<|.str<|ao n r0,some<|.str<|ao n r1,some<|.ref dl,some<|.ref lb]++[v1,v2])/\ak H4 H'/\∃ bs,e9 H H' M bs (fF n z r0 r1 i)/\∀ a∈bs,a.2=lb->r0 < i)
  ⟨⟨none,none,rfl⟩,aQ hM _,[],e9.nil az,λa h=>(by simp at h)⟩ ?_ ?_ ?_
 ·rintro i σ' H' _ ⟨_,sm,_⟩;exact al.of<|sm _ _ gW.lst
 ·rintro i x σ' H' hx ⟨⟨v1,v2,rfl⟩,sm,bs,hB,Hq⟩;have hi:i < n.length:=by
   have:=(Ad.mp hx).1;rw [Aa] at this;omega
  obtain⟨a,ea,db,et,el,er⟩:=(gW.same sm).at hi;rw [Ag,ea] at hx;cases hx;rw [<- b8 hi] at et;have bl:=hB.rows.len;have kl:=F5 (n:=n) (z:=z) (r0:=r0) (r1:=r1) (k:=i);have PU:=sm _ _ eb;intro iR C' s₀ H₀ ex;refine kL rfl (aW.of et) (bA 7 x4<|bA 8 x4 ?_);intro iR C' s₀ H₀ ex;refine wo<|dv qA<|ae 7<|ae 4 ⟨rfl,_,rfl,?_⟩
  by_cases c1:i=r1
  ·subst c1;rw [BR (rfl:V.str (ao n i)=V.str (ao n i))];refine cM ⟨⟨_,_,rfl⟩,sm,bs,?_,λa ha e=>Cq<|Hq a ha e⟩;rw [O',BL rfl,Bc];exact hB
  rw [BW λk:V.str (ao n i)=V.str (ao n r1)=>c1<|lS hN hi tw.l1<|V.str.inj k];rw [O',BK c1];refine cB ?_;intro iR C' s₀ H₀ ex;refine d7<|ah<|ae 7<|ah<|Vc<|dv g9<|ae 7<|ae 3 ⟨rfl,_,rfl,?_⟩
  by_cases c0:i=r0
  ·subst c0;rw [BR (rfl:V.str (ao n i)=V.str (ao n i))];refine cB<|ae 6<|ay ⟨Z2,λt ht=>⟨bs.map λa=>V.ref a.1,?_,?_,⟨_,_,rfl⟩,?_,bs++[(t,lb)],?_,λa ha e=>Gp _⟩⟩
   ·rw [aw λe=>by rw [<- e,hB.rows.lst] at ht;cases ht];exact hB.rows.lst
   ·rw [Aa];exact cn<|by omega
   ·exact d9 (sm.trans<|aQ ht _) hM
   ·have:=hB.add (p:=ao n i) (l:=lb) (t:=t) (zs:=eV (row n i) (row n r1) z) PU nb0 (λk=>by
     obtain⟨a',gU,e'⟩:=Aj.mp k;exact absurd (Hq a' gU e')<|Cu _) nbM ht<|gX (rN.trans sm) ht
    unfold gJ;rw [BL rfl];exact this
  ·rw [BW λk:V.str (ao n i)=V.str (ao n r0)=>c0<|lS hN hi tw.l0<|V.str.inj k];refine cM<|oQ KE T.jQ JV<|ah<|ae 8<|ay ⟨a.2,_,rfl,.inl<|al.of el,λl hl=>ay ⟨Z2,λt ht=>?_⟩⟩;have s5:=aQ hl<|Ls<|row n i;have k4:=hB.same s5;have fu:=gX (rN.trans sm) hl;refine⟨bs.map λa=>V.ref a.1,?_,?_,⟨_,_,rfl⟩,?_,bs++[(t,l)],?_,λa ha e=>?_⟩
   ·rw [aw λe=>by rw [<- e,k4.rows.lst] at ht;cases ht];exact k4.rows.lst
   ·rw [Aa];exact cn<|by omega
   ·exact d9 (sm.trans<|s5.trans<|aQ ht _) hM
   ·have:=k4.add (p:=ao n i) (l:=l) (t:=t) (zs:=row n i) az fu (λk=>by
     obtain⟨a',gU,e'⟩:=Aj.mp k;have:=(hB.dM gU).2;rw [e',hl] at this;exact this rfl) (λe=>by rw [e,hB.rows.lst] at hl;cases hl) ht<|gX (rN.trans<|sm.trans s5) ht
    unfold gJ;rw [BK c0];exact this
   ·rcases Ap.mp ha with k | k
    ·exact Cq<|Hq a k e
    ·rw [Ae.mp k] at e;have e:l=lb:=e;rw [e,PU] at hl;cases hl
 ·rintro σ' H' ⟨_,sm,bs,hB,_⟩;rw [Aa,bM] at hB;have:=F5 (n:=n) (z:=z) (r0:=r0) (r1:=r1) (k:=n.length);exact qQ _ (F7 h2) M bs H' (rN.trans sm) nM0 hB.new hB.rows<|q6z tw hn ht
end
end A5
namespace L2
open PySem PySem.Spec PyProof.Rows bn
section
variable{X:Cx}
end
end L2
namespace A5
open PySem L2 Nt bn b6
open PyProof.Rows (sortedS)
open Classical
theorem q0h(lf:List Nat)(h:Nat):(((lf++[h]).map λ(r:Nat)=>V.int (r:Int))[((lf++[h]).map λ(r:Nat)=>V.int (r:Int)).length - 1]?=some (.int (h:Int)))/\((lf++[h]).map λ(r:Nat)=>V.int (r:Int)).dropLast=lf.map λ(r:Nat)=>V.int (r:Int):=by
 rw [Al]
 constructor
 ·simp
 ·exact List.dropLast_concat
theorem k8r{n:Net}{r p:Nat}{z y:Str}(hr:r < n.length)(hz:(row n r)[p]?=some z) (h:bF (bE (n.take r)++bb r ((row n r).take p) 0) y≠[]):y∈ag n:=by
 obtain⟨rest,e⟩:=xP hr hz;unfold bF at h;obtain⟨x,hx⟩:=Dl _ h;obtain⟨⟨y2,e2⟩,hm,_⟩:=Aj.mp hx;rw [Au,CN] at hm;obtain⟨hm,rfl⟩:=hm;have:(y2,e2)∈bE n:=by rw [e];exact As _ hm
 exact eX<|aV.mp this
section
variable{P:Program}{w:World}{K:PySem.W.Frag}{mg:Str->Option Value}{base:Heap}
abbrev NLt:List Str:=["_law_rows","_law_found","_law_point","_law_row","_law_tie"]
theorem uW:au NLt ["_law_rows"] (bj B6):=⟨rfl,rfl,rfl,by decide +kernel,rfl,by decide +kernel,by decide +kernel⟩
theorem k7p{kvs:List (Key×V)}{zs:List Str}(h:kvs.map (·.1)=zs.map Sum.inr)(z:Str)(v:V):(putK kvs (Sum.inr z) v).map (·.1)=(added zs z).map Sum.inr:=by
 rw [m8,h];unfold added
 by_cases q:z∈zs
 ·rw [BL<|Aj.mpr ⟨z,q,rfl⟩,BL q]
 ·rw [BK,BK q,Al]
  ·rfl
  ·intro k;obtain⟨y,hy,e⟩:=Aj.mp k;cases e;exact q hy
theorem q0g{f:Addr}{fd:FuncData}(F:bW K "_law_ties" "_law_ties" B6 f fd)(T:Txt mg):aM P w K mg base cf 1 f fd ["_law_rows"] ja:=by
 refine F.gb uW (λvs H Q E h=>?_) λb0 H vs Q E hr h=>?_
 ·obtain⟨R,as,n,rfl,_⟩:=h;rfl
 obtain⟨R,as,n,rfl,hR,hn,ht,bC,q⟩:=h;have nd:=uW.nd;have bM:=hR.len;have hu:=hr.u1;show Run _ _ _ [some<|.ref R,none,none,none,none] H;refine a9 1 nd<|wC λd hd=>?_;have s0:=aQ hd<|.dK [];have pP:∀ r,r < n.length->∀ z,z∈ag (n.take r)\/z∈row n r->z∈ag n:=λr jY z hz=>by
  rw [F3 (k:=r+1),uR jY]
  rcases hz with h | h <;> simp [h]
 refine jn (ae 0 ⟨R,rfl,⟨_,al.of<|s0 _ _ hR.lst⟩,jo (xs:=as.map λa=>V.ref a.1) (λr σ' H'=>(∃ v2 v3 v4,σ'=[some<|.ref R,some<|.ref d,v2,v3,v4])/\∃(kvs:List<|Key×V) (zs:List Str),ak H H'/\H' d=some (.dK kvs)/\kvs.map (·.1)=zs.map Sum.inr/\zs.Nodup/\∀ z,z∈zs↔z∈ag (n.take r)) ⟨⟨none,none,none,rfl⟩,[],[],s0,az,rfl,Db,λz=>QC⟩ ?_ ?_ ?_⟩)
 ·rintro r σ' H' _ ⟨_,_,_,sm,_⟩;exact al.of<|sm _ _ hR.lst
 ·rintro r x σ' H' hx ⟨⟨v2,v3,v4,rfl⟩,kvs,zs,sm,eD,ek,zn,zm⟩;have hi:r < n.length:=by
   have:=(Ad.mp hx).1;rw [Aa] at this;omega
  obtain⟨a,ea,db,et,el,er⟩:=(hR.same sm).at hi;rw [Ag,ea] at hx;cases hx;refine kL rfl (aW.of et) (bA 2 nd<|bA 3 nd ?_);have F0:a.2≠d:=eF el eD λz=>nomatch z;show Run _ _ _ [some<|.ref R,some<|.ref d,some<|.str n[r].1,some<|.ref a.2,v4] H';refine jn (ae 3 ⟨a.2,rfl,⟨_,al.of el⟩,jo (xs:=(row n r).map V.str) (λp σ' dY=>(∃ v4,σ'=[some<|.ref R,some<|.ref d,some<|.str n[r].1,some<|.ref a.2,v4])/\∃(kvs:List<|Key×V) (zs:List Str),(∀ b o,b≠d->H' b=some o->dY b=some o)/\dY d=some (.dK kvs)/\kvs.map (·.1)=zs.map Sum.inr/\zs.Nodup/\∀ z,z∈zs↔z∈ag (n.take r)\/z∈(row n r).take p) ⟨⟨_,rfl⟩,kvs,zs,λb o _ h=>h,eD,ek,zn,λz=>by rw [zm z];simp⟩ ?_ ?_ ?_⟩)
  ·rintro p σ' dY _ ⟨_,_,_,kb,_⟩;exact al.of<|kb _ _ F0 el
  ·rintro p x σ' dY hx ⟨⟨v4,rfl⟩,kvs,zs,kb,pQ,x5,l4,l5⟩;rw [Ag,Az] at hx;obtain⟨z,hz,rfl⟩:=hx;have hl:zs.length < 64:=bC zs l4 λy hy=>pP r hi y<|((l5 y).mp hy).imp id λh=>List.mem_of_mem_take h;have lk:kvs.length=zs.length:=by have:=BZ List.length x5;simpa using this
   refine bA 4 nd ?_;refine tM hu (kD<|ae 1<|ae 4 ⟨d,_,rfl,cC.k (k:=Sum.inr z) pQ (cn<|by omega),a8 ⟨⟨_,rfl⟩,_,added zs z,λb o hb h=>by rw [aw hb];exact kb b o hb h,az,k7p x5 z _,O4 l4,λy=>?_⟩⟩);rw [O5,l5 y,Cr,hz,or_assoc];simp
  ·rintro σ' dY ⟨⟨v4,rfl⟩,kvs,zs,kb,pQ,x5,l4,l5⟩;refine a8 ⟨⟨_,_,_,rfl⟩,kvs,zs,λb o h=>kb b o (bP h hd)<|sm _ _ h,pQ,x5,l4,λz=>?_⟩;rw [l5 z,Aa,Cb,uR hi,Ap]
 ·rintro σ' H' ⟨⟨v2,v3,v4,rfl⟩,kvs,zs,sm,eD,ek,zn,zm⟩;rw [Aa,bM,Cb] at zm;refine cD<|cK V9 T.sorted FT<|ah<|oQ (Xc rfl) T.jQ JV<|ah<|ae 1<|ay ⟨d,kvs,rfl,.inl eD,λl hl=>?_⟩;have ekv:(kvs.map λp=>kV p.1)=zs.map V.str:=by
   rw [show(kvs.map λp=>kV p.1)=(kvs.map (·.1)).map kV by rw [Bb];rfl,ek,Bb];rfl
  rw [ekv];have s2:=aQ hl<|.lst<|zs.map V.str;refine ay ⟨l,zs,rfl,al.of az,bC zs zn λy hy=>(zm y).mp hy,λl2 ss fk hp hs=>?_⟩;have s3:=aQ fk<|.lst<|ss.map V.str;exact q l2 ss _ (sm.trans<|s2.trans s3) (gX (sm.trans s2) fk) az (hp.nodup_iff.mpr zn) hs λz=>by rw [hp.mem_iff,zm z]
abbrev NLh:List Str:=["_law_rows","_law_at","_law_r","_law_tie","_law_met","_law_left","_law_there"]
theorem uX:au NLh ["_law_rows"] (bj B7):=⟨rfl,rfl,rfl,by decide +kernel,rfl,by decide +kernel,by decide +kernel⟩
theorem k41{f:Addr}{fd:FuncData}(F:bW K "_law_hangs" "_law_hangs" B7 f fd)(T:Txt mg):aM P w K mg base cf 1 f fd ["_law_rows"] jd:=by
 refine F.gb uX (λvs H Q E h=>?_) λb0 H vs Q E hr h=>?_
 ·obtain⟨R,as,n,rfl,_⟩:=h;rfl
 obtain⟨R,as,n,rfl,hR,hT,hN,h0,hn,jA,q⟩:=h;have nd:=uX.nd;have bM:=hR.len;have hu:=hr.eN;have ju:=hr.u1;show Run _ _ _ [some<|.ref R,none,none,none,none,none,none] H;refine a9 1 nd<|wC λdA rO=>?_;refine jJ T.range (cK dP T.len CT<|ah<|ae 0<|ay ⟨R,_,rfl,.inl<|al.of<|aQ rO _ _ _ hR.lst,_,rfl,by omega,by rw [Aa];omega,?_⟩);rw [Aa,bM,Bx];refine jK (λr σ H3=>∃ kvs ks u2 u3,ke H H3 dA (bE<|n.take r) kvs ks/\σ=[some<|.ref R,some<|.ref dA,u2,u3,none,none,none]) ⟨_,_,_,_,ke.start rO,rfl⟩ ?_ ?_
 ·rintro r σ H3 hi ⟨kvs,ks,u2,u3,S,rfl⟩;rw [Do];refine bA 2 nd ?_;obtain⟨a,ea,db,et,el,er⟩:=(hR.same S.same).at hi;have nr:=(hR.tup r a n[r] ea<|Ab hi).2;rw [<- er] at nr;refine jn<|bh cI<|bh dq<|ae 0<|ae 2 ⟨R,_,_,.ref a.1,rfl,rfl,al.of<|S.same _ _ hR.lst,db,aF ⟨a.1,_,_,.ref a.2,rfl,rfl,aW.of et,rfl,a.2,rfl,⟨_,al.of el⟩,?_⟩⟩;refine jo (xs:=(row n r).map V.str) (λp σ H4=>∃ kvs ks u3,ke H H4 dA (bE (n.take r)++bb r ((row n r).take p) 0) kvs ks/\σ=[some<|.ref R,some<|.ref dA,some<|.int (r:Int),u3,none,none,none]) ⟨kvs,ks,_,by simpa [bb] using S,rfl⟩ ?_ ?_ ?_
  ·rintro p σ H4 _ ⟨kvs,ks,u3,S,rfl⟩;exact al.of<|S.same _ _ nr
  ·rintro p x σ H4 hx ⟨kvs,ks,u3,S,rfl⟩;rw [Ag,Az] at hx;obtain⟨z,hz,rfl⟩:=hx;have next:bE (n.take r)++bb r ((row n r).take<|p+1) 0=(bE (n.take r)++bb r ((row n r).take p) 0)++[(z,(r,p))]:=by
    rw [tS hz,At]
   have hk:kvs.length < sizeLine:=by
    have h1:ks.length<=60:=Cp (aI (b:=ag n) S.eU λy hy=>k8r hi hz<|(S.mem y).mp hy) jA;have h2:=BZ List.length S.keys;rw [Aa,Aa] at h2;exact cn<|by omega
   have j4:=OA hT hi hz;refine bA 3 nd ?_;refine fQ<|jr<|wA QZ LR MF Mi<|ae 1 ⟨MA S.dict,ae 3<|du<|ay ⟨Z0,λl0 fu=>?_⟩⟩;have gA:dA≠l0:=bP S.dict fu;refine⟨dA,kvs,Sum.inr z,.ref l0,rfl,rfl,by rw [aw gA];exact S.dict,hk,?_⟩
   by_cases x6:bF (bE (n.take r)++bb r ((row n r).take p) 0) z=[]
   ·refine .inr ⟨S.kg z x6,l0,rfl,⟨_,by rw [aw gA.symm];exact az⟩,?_⟩;refine ae 2 ⟨[],by rw [aw gA.symm,az],by show 0 < sizeLine;decide,?_⟩;refine a8 ⟨putK kvs (Sum.inr z)<|.ref l0,ks++[z],_,?_,rfl⟩;rw [next];exact S.new (e:=(r,p)) x6 fu
   ·obtain⟨a2,w1,w2,w3,w4⟩:=S.jc z x6;have o5:a2≠l0:=bP w2 fu;refine .inl ⟨.ref a2,w1,a2,rfl,⟨_,by rw [aw o5];exact w2⟩,?_⟩;refine ae 2 ⟨_,by rw [aw o5];exact w2,?_,?_⟩
    ·rw [Aa,Aa];exact cn<|by omega
    ·refine a8 ⟨kvs,ks,_,?_,rfl⟩;rw [next];have:=S.old (e:=(r,p)) x6 w1 fu;unfold Lr at this;rw [Al] at this;exact this
  ·rintro σ H4 ⟨kvs,ks,u3,S,rfl⟩;refine a8 ⟨kvs,ks,_,_,?_,rfl⟩;rw [tR hi];rwa [Aa,Cb] at S
 ·rintro σ H1 ⟨kvA,ksA,u2,u3,S,rfl⟩;rw [Cb] at S;have s1:=S.same;have atz:∀ z∈ag n,∃ la,aA kvA (Sum.inr z)=some (.ref la)/\H1 la=some (Lr ((pos n z).map (·.1))):=λz hz=>by
   obtain⟨la,w1,w2,_⟩:=S.jc z λk=>by
    have:=oZ n z;rw [hT z hz] at this;rw [show pos n z=bF (bE n) z from rfl,k] at this;cases this
   exact⟨la,w1,w2⟩
  refine a9 4 nd<|OH ju λd hd=>aF<|kD ⟨_,cC.k (k:=Sum.inl 0) az<|cn<|Ci _,?_⟩;rw [vT];refine a9 5 nd<|du<|ah<|aF<|ay ⟨Z1,λM hM=>?_⟩;have gY:M≠d:=λe=>by rw [e,az] at hM;cases hM
  have PV:H1 M=none:=by rw [aw gY] at hM;exact hM
  have s0:ak H1 (upd (upd H1 d<|.dK<|putK [] (Sum.inl 0)<|.bl true) M<|.lst [.int 0]):=(aQ hd _).trans<|aQ hM _;have nF:(upd (upd H1 d<|.dK<|putK [] (Sum.inl 0)<|.bl true) M<|.lst [.int 0]) d=some (.dK<|putK [] (Sum.inl 0)<|.bl true):=by rw [aw<|Ne.symm gY,az]
  have nG:(upd (upd H1 d<|.dK<|putK [] (Sum.inl 0)<|.bl true) M<|.lst [.int 0]) M=some (Lr [0]):=az;show Run _ _ _ [some<|.ref R,some<|.ref dA,u2,u3,some<|.ref d,some<|.ref M,none] (upd (upd H1 d<|.dK<|putK [] (Sum.inl 0)<|.bl true) M<|.lst [.int 0]);generalize upd (upd H1 d<|.dK<|putK [] (Sum.inl 0)<|.bl true) M (.lst [.int 0])=H0 at s0 nF nG;refine wB (λm σ H'=>m<=1000/\∃(kvs:List<|Key×V) (lf:List Nat) (u3 u6:Option V),ak H1 H'/\H' d=some (.dK kvs)/\H' M=some (Lr lf)/\de n (ag n) none kvs lf/\m=2 * (n.length - kvs.length)+lf.length/\σ=[some<|.ref R,some<|.ref dA,u2,u3,some<|.ref d,some<|.ref M,u6]) (m0:=2 * (n.length - 1)+1) ⟨by omega,_,[0],_,_,s0,nF,nG,de.start h0,rfl,rfl⟩ ?_;rintro m σ H2 ⟨hm,kvs,lf,u3,u6,s2,j9,kX,I,em,rfl⟩;refine dv (tL hu)<|ae 5<|du<|ay ⟨Z0,λpe hpe=>?_⟩;have se:=aQ hpe<|.lst [];have s2:=s2.trans se;have j9:=se _ _ j9;have kX:=se _ _ kX;have Hr:(upd H2 pe<|.lst []) pe=some (.lst []):=az;generalize upd H2 pe (.lst [])=H3 at s2 j9 kX Hr ⊢
  rcases SJ lf with e | ⟨l8,hh,e⟩
  ·subst e;refine⟨1,_,by decide,wy (k:=0) (xs:=[]) (ys:=[]) (λ_=>true) (al.of kX) (al.of Hr) rfl (λj x y hx _=>by simp at hx),_,rfl,cM ?_⟩;refine cD<|mI g9<|cK K5 T.len CT<|ah<|ae 4<|ay ⟨d,kvs,rfl,j9,cK dP T.len CT<|ah<|ae 0<|ay ⟨R,_,rfl,.inl<|al.of<|(s1.trans s2) _ _ hR.lst,rfl,?_⟩⟩;rw [Aa,bM];have e:decide (V.int (kvs.length:Int)=V.int (n.length:Int))=decide (eW n):=by
    rw [decide_eq_decide];refine Iff.trans ?_<|I.whole hT h0 hN
    constructor
    ·intro h;have h:=V.int.inj h;omega
    ·intro h;rw [h]
   rw [e];exact q H3<|s1.trans s2
  rw [SM] at e;subst e;have lw:(l8++[hh]).length=l8.length+1:=by rw [Ah];rfl
  refine⟨1,_,by decide,A4 (k:=1) (al.of kX) (al.of (xs:=[]) Hr) (by rw [Aa,lw];exact Nat.succ_ne_zero _),_,rfl,cB ?_⟩;obtain⟨hy,gA⟩:=q0h l8 hh;have I1:=I.pop;rw [lw] at em;have hhl:=I1.lt<|I1.lQ hh 0 rfl;have kh:=hR.same s1;obtain⟨a,ea,db,xq,pX,er⟩:=kh.at hhl;have sA:ak H1 (upd H3 M<|Lr l8):=d9 s2 PV;have PY:(upd H3 M<|Lr l8) d=some (.dK kvs):=by rw [aw<|Ne.symm gY];exact j9
  have PZ:(upd H3 M<|Lr l8) M=some (Lr l8):=az;refine jn<|bh cI<|bh dq<|ae 0<|Mg CZ KH KJ KO<|ae 5 (v:= .ref M) ⟨Or.inl ⟨rfl,_,al.of kX⟩,M,_,.int (hh:Int),rfl,rfl,kX,hy,?_⟩;rw [gA];generalize upd H3 M (Lr l8)=HA at sA PY PZ;refine⟨R,_,_,.ref a.1,rfl,rfl,al.of<|sA _ _ kh.lst,db,aF ⟨a.1,_,_,.ref a.2,rfl,rfl,aW.of<|sA _ _ xq,rfl,a.2,rfl,⟨_,al.of<|sA _ _ pX⟩,?_⟩⟩;refine jo (xs:=(row n hh).map V.str) (λi σ H'=>∃(kvs:List<|Key×V) (lf:List Nat) (u3 u6:Option V),ak H1 H'/\H' d=some (.dK kvs)/\H' M=some (Lr lf)/\de n (ag n) (some (hh,i)) kvs lf/\2 * (n.length - kvs.length)+lf.length < m/\σ=[some<|.ref R,some<|.ref dA,u2,u3,some<|.ref d,some<|.ref M,u6]) ⟨kvs,l8,_,_,sA,PY,PZ,I1,by omega,rfl⟩ ?_ ?_ ?_
  ·rintro i σ H' _ ⟨_,_,_,_,sm,_⟩;exact al.of<|sm _ _ pX
  ·rintro i x σ HB hx ⟨kvs,lf,u3,u6,sB,ed,eM,I,aT,rfl⟩;rw [Ag,Az] at hx;obtain⟨z,hz,rfl⟩:=hx;have hz:ax n (hh,i)=some z:=hz;have fW:=eX hz;obtain⟨la,w1,w2⟩:=atz z fW;obtain⟨pa,pb,hp,ie,wv⟩:=o4 hT hz;have pY:(pos n z).map (·.1)=[hh,(other n (hh,i)).1]\/(pos n z).map (·.1)=[(other n (hh,i)).1,hh]:=by
    rcases wv with k | k
    ·left
     rw [hp,show other n (hh,i)=pb from ?_,<- k]
     ·rfl
     ·unfold other;rw [hz];simp only [hp];rw [k];simp
    ·right
     rw [hp,show other n (hh,i)=pa from ?_,<- k]
     ·rfl
     ·unfold other;rw [hz];simp only [hp];rw [k];simp [Ne.symm ie,ie]
   generalize hl:(pos n z).map (·.1)=l at w2 pY;have ml:∀ x∈l,x=hh\/x=(other n (hh,i)).1:=λx hx=>by
    rcases pY with k | k <;> (rw [k] at hx;simp at hx;omega)
   have mo:(other n (hh,i)).1∈l:=by rcases pY with k | k <;> (rw [k];simp)
   refine bA 3 nd ?_;refine jn (qX ju<|ae 1<|ae 3 ⟨dA,.ref la,rfl,by rw [<- w1];exact bH.k (k:=Sum.inr z)<|sB _ _ S.dict,la,rfl,⟨_,al.of<|sB _ _ w2⟩,?_⟩);refine jo (xs:=l.map λ(r:Nat)=>V.int (r:Int)) (λj σ H'=>∃(kvs:List<|Key×V) (lf:List Nat) (u6:Option V),ak H1 H'/\H' d=some (.dK kvs)/\H' M=some (Lr lf)/\de n (ag n) (some (hh,i)) kvs lf/\((other n (hh,i)).1∈l.take j->cq kvs (other n (hh,i)).1)/\2 * (n.length - kvs.length)+lf.length < m/\σ=[some<|.ref R,some<|.ref dA,u2,some<|.str z,some<|.ref d,some<|.ref M,u6]) ⟨kvs,lf,_,sB,ed,eM,I,λh=>(by simp at h),aT,rfl⟩ ?_ ?_ ?_
   ·rintro j σ H' _ ⟨_,_,_,sm,_⟩;exact al.of<|sm _ _ w2
   ·rintro j x σ HC hx ⟨kvs,lf,u6,sC,ed,eM,I,ho,aT,rfl⟩;rw [Ag,Az] at hx;obtain⟨x,hx,rfl⟩:=hx;have tk:l.take (j+1)=l.take j++[x]:=by rw [Cr,hx];rfl
    refine bA 6 nd ?_;refine gq<|A8 ju<|ae 6<|ae 4 ⟨d,_,rfl,bH.k (k:=Sum.inl (x:Int)) ed,?_⟩;cases hg:aA kvs (Sum.inl (x:Int)) with
    | some v=>
     refine cM<|a8<|a8 ⟨kvs,lf,_,sC,ed,eM,I,λh=>?_,aT,rfl⟩;rw [tk] at h
     rcases Ap.mp h with k | k
     ·exact ho k
     ·have e:=(I.val x v hg).1;rw [Ae.mp k];rw [e] at hg;exact hg
    | none=>
     have hxo:x=(other n (hh,i)).1:=by
      rcases ml x (Ak hx) with k | k
      ·have:=I.lQ hh i rfl;rw [k] at hg;exact absurd (hg.symm.trans this)<|by simp
      ·exact k
     subst hxo;refine cB ?_;have I':=I.new hT hz fW hg;have lk:=I.len;have FG:=I'.len;have kN:(putK kvs (Sum.inl ((other n (hh,i)).1:Int))<|.bl true).length=kvs.length+1:=by
      have:=BZ List.length<|m8 kvs (Sum.inl ((other n (hh,i)).1:Int))<|.bl true;rw [BK<|DS hg,Ah,Aa,Aa] at this;exact this
     refine tM ju (kD<|ae 4<|ae 6 ⟨d,_,rfl,cC.k (k:=Sum.inl ((other n (hh,i)).1:Int)) ed (cn<|by omega),?_⟩);have uJ:(upd HC d<|.dK<|putK kvs (Sum.inl ((other n (hh,i)).1:Int))<|.bl true) M=some (Lr lf):=by rw [aw gY];exact eM
     refine fQ (jr<|ae 5 ⟨M,rfl,⟨_,uJ⟩,ae 6 ⟨_,uJ,by rw [Aa];exact cn (by omega),?_⟩⟩);refine a8<|a8 ⟨_,lf++[(other n (hh,i)).1],_,d9 (d9 sC hd) PV,?_,?_,I'.back,λ_=>?_,?_,rfl⟩
     ·rw [aw<|Ne.symm gY];exact az
     ·rw [az];show some (HO.lst<|(lf.map λ(r:Nat)=>V.int (r:Int))++[.int ((other n (hh,i)).1:Int)])=some (HO.lst<|(lf++[(other n (hh,i)).1]).map λ(r:Nat)=>V.int (r:Int));rw [Al];rfl
     ·show aA _ _=_;rw [fm,BL rfl]
     ·rw [kN,Ah];rw [kN] at FG;show _+(lf.length+1) < m;omega
   ·rintro σ HC ⟨kvs,lf,u6,sC,ed,eM,I,ho,aT,rfl⟩;rw [Aa,Cb] at ho;exact a8 ⟨kvs,lf,_,_,sC,ed,eM,I.step hz λ_=>ho mo,aT,rfl⟩
  ·rintro σ HB ⟨kvs,lf,u3,u6,sB,ed,eM,I,aT,rfl⟩;rw [Aa] at I;exact a8 ⟨_,aT,by omega,kvs,lf,_,_,sB,ed,eM,I.close<|Ao _,rfl,rfl⟩
end
end A5
namespace Dt
variable{κ:Type}
section
variable(l:κ->κ->Int)
variable{l}
end
variable{κ:Type}
section
variable [DecidableEq κ] {a b:κ}
end
section
variable [DecidableEq κ]
end
variable{κ:Type} [DecidableEq κ]
section
variable{κ:Type}
end
variable{κ:Type} [DecidableEq κ]
end Dt
namespace Nt
open PySem L2
theorem P0{α:Type}:∀{l:List α},l.Nodup->∀{i j:Nat} {x:α},l[i]?=some x->l[j]?=some x->i=j
 | [],_,i,j,x,h,_=>by simp at h
 | a :: l,hn,i,j,x,h1,h2=>by
  obtain⟨na,hl⟩:=Bu.mp hn;cases i with
  | zero=>
   cases j with
   | zero=>rfl
   | succ j=>
    cases h1;rw [Eb] at h2;exact absurd (Ak h2) na
  | succ i=>
   cases j with
   | zero=>
    cases h2;rw [Eb] at h1;exact absurd (Ak h1) na
   | succ j=>
    rw [Eb] at h1 h2;rw [P0 hl h1 h2]
def rn(n:Net)(p:Str):Nat:=(n.map (·.1)).idxOf p
theorem q8t{n:Net}{p:Str}(h:p∈n.map (·.1)):rn n p < n.length/\(n.map (·.1))[rn n p]?=some p:=by
 have hl:rn n p < (n.map (·.1)).length:=List.idxOf_lt_length_iff.mpr h;refine⟨by rw [Aa] at hl;exact hl,?_⟩;rw [Ab hl]
 congr 1
 exact List.getElem_idxOf hl
theorem Hs{n:Net}(hN:(n.map (·.1)).Nodup){r:Nat}(h:r < n.length):rn n (ao n r)=r:=by
 have e:(n.map (·.1))[r]?=some (ao n r):=by rw [Ag,Ab h,b8 h];rfl
 exact P0 hN (q8t<|Ak e).2 e
theorem x8{n:Net}{z:Str}{e:End}(h:e∈pos n z):e.1 < n.length/\z∈row n e.1:=by
 have h:=aO.mp h;unfold ax at h;have hz:=Ak h;refine⟨?_,hz⟩
 by_cases hl:e.1 < n.length
 ·exact hl
 ·unfold row at hz;rw [Br<|by omega] at hz;cases hz
def gK(n:Net)(z:Str):Nat×Nat:=match pos n z with
 | [a,b]=>(a.1,b.1)
 | _=>(0,0)
theorem P4{n:Net}{z:Str}{a b:End}(h:pos n z=[a,b]):gK n z=(a.1,b.1):=by
 unfold gK;rw [h]
theorem P5{n:Net}(T:aj n){z:Str}(h:z∈ag n):∃ a b,pos n z=[a,b]:=by
 have:=oZ n z;rw [T z h] at this
 match hp:pos n z,this with
 | [a,b],_=>exact⟨a,b,rfl⟩
theorem Ht{n:Net}(T:aj n){z:Str}(h:z∈ag n):(gK n z).1 < n.length/\(gK n z).2 < n.length:=by
 obtain⟨a,b,hp⟩:=P5 T h;rw [P4 hp];exact⟨(x8 (n:=n) (z:=z) (e:=a)<|by rw [hp];simp).1,(x8 (n:=n) (z:=z) (e:=b)<|by rw [hp];simp).1⟩
end Nt
namespace Dt
variable{κ μ:Type}
variable [DecidableEq κ] [DecidableEq μ]
end Dt
namespace Nt
open PySem L2
theorem P6(z:Str)(k:Nat):∀(m:Net) (j:Nat),k < j->(bF (c8 j m) z).filter (λe=>decide (e.1=k+0))=[]
 | [],j,_=>rfl
 | y :: m,j,hj=>by
  have e:c8 j (y :: m)=bb j y.2 0++c8 (j+1) m:=rfl;rw [e,DV,Cw,P6 z k m (j+1) (by omega),Bc];exact Fm.mpr λe he q=>by
   have:=ug he;have:=CG q;omega
theorem P7(z:Str):∀(m:Net) (k r:Nat),((bF (c8 k m) z).filter λe=>decide (e.1=k+r)).length=(row m r).count z
 | [],k,r=>by
  unfold row;rfl
 | x :: m,k,r=>by
  have e:c8 k (x :: m)=bb k x.2 0++c8 (k+1) m:=rfl;rw [e,DV,Cw,Ah];cases r with
  | zero=>
   have h1:(bF (bb k x.2 0) z).filter (λe=>decide (e.1=k+0))=bF (bb k x.2 0) z:=Fh.mpr λe he=>BR<|ug he;rw [h1,P6 z k m (k+1) (by omega),DU];rfl
  | succ r=>
   have h1:(bF (bb k x.2 0) z).filter (λe=>decide (e.1=k+(r+1)))=[]:=Fm.mpr λe he q=>by
    have:=ug he;have:=CG q;omega
   have ih:=P7 z m (k+1) r;rw [show k+1+r=k+(r+1) by omega] at ih;rw [h1,ih];show 0+_=(row m r).count z;omega
def Hu(n:Net)(z:Str)(p:Nat×Nat):Prop:=∀ r,(row n r).count z=(if r=p.1 then 1 else 0)+(if r=p.2 then 1 else 0)
theorem x9{n:Net}(T:aj n){z:Str}(hz:z∈ag n):Hu n z (gK n z):=λr=>by
 obtain⟨a,b,hp⟩:=P5 T hz;have:=P7 z n 0 r;rw [show bF (c8 0 n) z=pos n z from rfl,hp] at this;rw [<- this,P4 hp];simp only [Di,List.filter_nil,Gj]
 by_cases h1:a.1=r <;> by_cases h2:b.1=r <;> simp [h1,h2,@eq_comm Nat r]
theorem gL{n:Net}{z w:Str}:w∈ag (aq n z)↔w∈ag n/\w≠z:=by
 rw [GA,Au,CN]
theorem uY{n:Net}{z:Str}{r0 r1:Nat}(h:bR n z=[r0,r1]):r0 < r1:=by
 have p:(bR n z).Pairwise (· < ·):=List.Pairwise.filter _ List.pairwise_lt_range;rw [h] at p;exact(De.mp p).1 r1<|Ae.mpr rfl
theorem uZ{a b:List Str}{z w:Str}(ha:z∈a)(hb:z∈b):(eV a b z).count w+(if w=z then 2 else 0)=a.count w+b.count w:=by
 have q:∀{l:List Str},z∈l->(l.take<|aE l z).count w+(l.drop<|aE l z+1).count w+(if w=z then 1 else 0)=l.count w:=λ{l} hl=>by
  obtain⟨h1,_⟩:=F4 hl;obtain⟨hi,e⟩:=Ad.mp h1;have s:l=l.take (aE l z)++l[aE l z] :: l.drop (aE l z+1):=by rw [<- Es hi,Ct]
  rw [e] at s;have c:=BZ (List.count w) s;rw [Ec,Dh] at c
  by_cases k:w=z
  ·rw [BL k];rw [BL<|by simpa using k.symm] at c;omega
  ·rw [BK k];rw [BK<|by simpa using λx=>k<|Eq.symm x] at c;omega
 have q1:=q ha;have q2:=q hb;unfold eV;simp only [Ec]
 by_cases k:w=z
 ·rw [BL k] at q1 q2 ⊢;omega
 ·rw [BK k] at q1 q2 ⊢;omega
section
variable{n:Net}{z:Str}{r0 r1:Nat}
theorem Hv(tw:jB n z r0 r1)(i:Nat):(shr n z r0 r1)[i]?=if i < n.length - 1 then some (gJ n z r0 r1 (if i < r1 then i else i+1)) else none:=by
 have l1:=tw.l1;have e:(List.range n.length).filter (λr=>decide (r≠r1))=(List.range n.length).eraseIdx r1:=by
  have h:=(Fj (n:=n.length)).erase_eq_filter r1;rw [show(List.range n.length).filter (λr=>decide (r≠r1))=(List.range n.length).filter (λx=>x != r1) by
   refine Gn λx _=>?_
   by_cases k:x=r1 <;> simp [k],<- h,List.erase_eq_eraseIdx]
  have:List.idxOf? r1 (List.range n.length)=some r1:=by
   rw [List.idxOf?_eq_some_iff];refine⟨by rw [Cv];exact l1,by simp,λj hj=>by simp;omega⟩
  rw [this]
 show(((List.range n.length).filter λr=>decide (r≠r1)).map<|gJ n z r0 r1)[i]?=_;rw [e,Ag,Fk]
 by_cases h1:i < r1
 ·rw [BL h1,BL (by omega),BL h1,Dj<|by omega];rfl
 ·rw [BK h1,BK h1]
  by_cases h2:i < n.length - 1
  ·rw [BL h2,Dj<|by omega];rfl
  ·rw [BK h2,Br<|by rw [Cv];omega];rfl
theorem nN(tw:jB n z r0 r1):(shr n z r0 r1).length=n.length - 1:=by
 have h:=Hv tw;refine Nat.le_antisymm ?_ ?_
 ·refine QF λk=>?_;have:=h<|n.length - 1;rw [BK (by omega),PX] at this;omega
 ·refine QF λk=>?_;have:=h (shr n z r0 r1).length;rw [BL k,Br<|Ao _] at this;cases this
theorem Hw(tw:jB n z r0 r1)(i:Nat):row (shr n z r0 r1) i=if i < n.length - 1 then(if(if i < r1 then i else i+1)=r0 then eV (row n r0) (row n r1) z else row n (if i < r1 then i else i+1)) else []:=by
 unfold row;rw [Hv tw]
 by_cases h:i < n.length - 1
 ·rw [BL h,BL h];rfl
 ·rw [BK h,BK h];rfl
theorem P8{n:Net}{i:Nat}(h:n.length<=i):row n i=[]:=by
 unfold row;rw [Br h];rfl
def dn(r0 r1 r:Nat):Nat:=if r=r1 then r0 else if r1 < r then r - 1 else r
theorem P9(tw:jB n z r0 r1)(lt:r0 < r1){w:Str}(hw:w≠z){p:Nat×Nat}(hp:Hu n w p):Hu (shr n z r0 r1) w (dn r0 r1 p.1,dn r0 r1 p.2):=λi=>by
 have l1:=tw.l1;have big:∀ r,n.length<=r->(row n r).count w=0:=λr hr=>by rw [P8 hr];rfl
 have j:=uZ (w:=w) tw.m0 tw.m1;rw [BK hw] at j;rw [Hw tw];have p1:p.1 < n.length:=Nat.lt_of_not_le λk=>by
  have:=hp p.1;rw [big _ k,BL rfl] at this;omega
 have p2:p.2 < n.length:=Nat.lt_of_not_le λk=>by
  have:=hp p.2;rw [big _ k,BL rfl] at this;omega
 have h0:=hp r0;have h1:=hp r1;show _=(if i=dn r0 r1 p.1 then 1 else 0)+(if i=dn r0 r1 p.2 then 1 else 0);have d:∀ x,(if i=dn r0 r1 x then(1:Nat) else 0)=if i < r1 then(if i=r0 then(if r0=x then 1 else 0)+(if r1=x then 1 else 0) else if i=x then 1 else 0) else if i+1=x then 1 else 0:=λx=>by
  unfold dn
  by_cases c1:i < r1 <;> by_cases c2:i=r0 <;> by_cases c3:x=r1 <;> by_cases c4:r1 < x <;> simp only [c1,c2,c3,c4,DW,CW] <;> (repeat' split) <;> omega
 rw [d,d]
 by_cases h:i < n.length - 1
 ·rw [BL h]
  by_cases c1:i < r1
  ·simp only [c1,DW]
   by_cases c2:i=r0
   ·rw [BL c2,BL c2,BL c2];omega
   ·rw [BK c2,BK c2,BK c2];exact hp i
  ·simp only [c1,CW];rw [BK (show ¬ i+1=r0 by omega)];exact hp<|i+1
 ·rw [BK h];have c1:¬ i < r1:=by omega
  simp only [c1,CW];have:=hp<|i+1;rw [big _<|by omega] at this;exact this
theorem q2m(m:Net)(w:Str):(ag m).count w=((List.range m.length).map λr=>(row m r).count w).sum:=by
 induction m with
 | nil=>rfl
 | cons x m ih=>
  have e:ag (x :: m)=x.2++ag m:=rfl;rw [e,Ec,ih,Ax,RQ,Bd,Fo,Bb];rfl
theorem q34{m p q:Nat}(hp:p < m)(hq:q < m):((List.range m).map λr=>(if r=p then 1 else 0)+(if r=q then 1 else 0)).sum=2:=by
 have one:∀(m p:Nat),((List.range m).map λr=>if r=p then 1 else 0).sum=if p < m then 1 else 0:=λm p=>by
  induction m with
  | zero=>rfl
  | succ m ih=>
   rw [Dg,Al,List.sum_append,ih];simp only [Bd,TX,Fo,List.sum_nil]
   by_cases h:m=p
   ·rw [BL h,BK (by omega),BL<|by omega];rfl
   ·rw [BK h]
    by_cases k:p < m
    ·rw [BL k,BL<|by omega];rfl
    ·rw [BK k,BK<|by omega];rfl
 have add:∀(l:List Nat) (f g:Nat->Nat),(l.map λr=>f r+g r).sum=(l.map f).sum+(l.map g).sum:=λl f g=>by
  induction l with
  | nil=>rfl
  | cons a l ih=>simp only [Bd,Fo,ih];omega
 rw [add,one,one,BL hp,BL hq]
theorem q3i(T:aj n)(hz:z∈ag n)(tw:jB n z r0 r1)(lt:r0 < r1):z∉ag (shr n z r0 r1):=λh=>by
 obtain⟨i,hi,hm⟩:=nK h;have l1:=tw.l1;rw [nN tw] at hi;rw [Hw tw,BL hi] at hm;have hp:=x9 T hz;have a0:=hp r0;have a1:=hp r1;have c0:=Bt.mpr tw.m0;have c1:=Bt.mpr tw.m1;have j:=uZ (w:=z) tw.m0 tw.m1;rw [BL rfl] at j;have ne:=tw.ne
 by_cases c:(if i < r1 then i else i+1)=r0
 ·rw [BL c] at hm;have:=Bt.mpr hm;have e1:(if r0=(gK n z).1 then(1:Nat) else 0)+(if r1=(gK n z).1 then 1 else 0)<=1:=by split <;> split <;> omega
  have e2:(if r0=(gK n z).2 then(1:Nat) else 0)+(if r1=(gK n z).2 then 1 else 0)<=1:=by split <;> split <;> omega
  omega
 ·rw [BK c] at hm
  rcases tw.only _ (by split <;> omega) hm with e | e
  ·exact c e
  ·split at e <;> omega
theorem ya(T:aj n)(hz:z∈ag n)(tw:jB n z r0 r1)(lt:r0 < r1){w:Str}:w∈ag (shr n z r0 r1)↔w∈ag n/\w≠z:=by
 have l1:=tw.l1
 constructor
 ·intro h;have nz:w≠z:=λe=>q3i T hz tw lt<|e ▸ h;refine⟨?_,nz⟩;obtain⟨i,hi,hm⟩:=nK h;rw [nN tw] at hi;rw [Hw tw,BL hi] at hm;have j:=uZ (w:=w) tw.m0 tw.m1;rw [BK nz] at j
  by_cases c:(if i < r1 then i else i+1)=r0
  ·rw [BL c] at hm;have:=Bt.mpr hm
   by_cases k:0 < (row n r0).count w
   ·exact rG tw.l0<|Bt.mp k
   ·exact rG tw.l1<|Bt.mp<|by omega
  ·rw [BK c] at hm;exact rG (by split <;> omega) hm
 ·rintro ⟨h,nz⟩;obtain⟨r,hr,hm⟩:=nK h;have hp:=x9 T h;have:=P9 tw lt nz hp<|dn r0 r1 (gK n w).1;have pl:=(Ht T h).1;have:0 < (row (shr n z r0 r1)<|dn r0 r1 (gK n w).1).count w:=by
   rw [this,BL rfl];omega
  refine rG ?_<|Bt.mp this;rw [nN tw];unfold dn
  split
  ·omega
  ·split <;> omega
theorem yb(T:aj n)(hz:z∈ag n)(tw:jB n z r0 r1)(lt:r0 < r1):aj (shr n z r0 r1):=λw hw=>by
 obtain⟨h,nz⟩:=(ya T hz tw lt).mp hw;have l1:=tw.l1;have hp:=P9 tw lt nz<|x9 T h;obtain⟨p1,p2⟩:=Ht T h;rw [q2m,show(λr=>(row (shr n z r0 r1) r).count w)=λr=>(if r=dn r0 r1 (gK n w).1 then 1 else 0)+(if r=dn r0 r1 (gK n w).2 then 1 else 0) from funext hp];have d:∀ x,x < n.length->dn r0 r1 x < (shr n z r0 r1).length:=λx hx=>by
  rw [nN tw];unfold dn
  split
  ·omega
  ·split <;> omega
 exact q34 (d _ p1)<|d _ p2
theorem P'(tw:jB n z r0 r1)(hN:(n.map (·.1)).Nodup):((shr n z r0 r1).map (·.1)).Nodup:=by
 have e:n.map (·.1)=(List.range n.length).map (ao n):=by
  refine Dz λi=>?_;rw [Ag,Ag]
  by_cases h:i < n.length
  ·rw [Dj h,Ab h];show some _=some (ao n i);rw [b8 h]
  ·rw [Br (by omega),Br<|by rw [Cv];omega];rfl
 show((((List.range n.length).filter λr=>decide (r≠r1)).map<|gJ n z r0 r1).map (·.1)).Nodup;rw [Bb];rw [e] at hN;exact hN.sublist<|List.filter_sublist.map _
theorem cr(T:aj n)(h:eW n):bu n:=λP ⟨r,hr,pr⟩ hc x hx=>by
 have one:∀ y∈n,P (bf n)↔P y.1:=λy hy=>by
  refine(h y.1<|Aj.mpr ⟨y,hy,rfl⟩).ind T (P:=λq=>P (bf n)↔P q) QC λe w he hw ih=>ih.trans ?_;have l1:=(x8<|aO.mpr he).1;have ho:=(cL T he).1;have l2:=(x8<|aO.mpr ho).1;have m1:w∈(n[e.1]'l1).2:=by rw [<- cV l1];exact Ak he
  have m2:w∈(n[(other n e).1]'l2).2:=by rw [<- cV l2];exact Ak ho
  rw [b8 l1,b8 l2];exact⟨hc _ (Ay l1) _ (Ay l2) w m1 m2,hc _ (Ay l2) _ (Ay l1) w m2 m1⟩
 exact(one x hx).mp<|(one r hr).mpr pr
theorem k68{r:Nat}(h:bR n z=[r])(hg:bu n):bu (aq n z):=λP ⟨x,hx,px⟩ hc y hy=>by
 have mp:∀ s∈n,∃ t∈aq n z,t.1=s.1/\∀ u∈s.2,u≠z->u∈t.2:=λs hs=>⟨_,Aj.mpr ⟨s,hs,rfl⟩,rfl,λu hu nz=>Au.mpr ⟨hu,BR nz⟩⟩;have bk:∀ t∈aq n z,∃ s∈n,s.1=t.1:=λt ht=>by
  obtain⟨s,hs,rfl⟩:=Aj.mp ht;exact⟨s,hs,rfl⟩
 obtain⟨x',qP,ex⟩:=bk x hx;obtain⟨y',zC,ey⟩:=bk y hy;rw [<- ey];refine hg P ⟨x',qP,by rw [ex];exact px⟩ (λa ha b hb t h1 h2 pa=>?_) y' zC
 by_cases e:t=z
 ·subst e;obtain⟨i,hi,rfl⟩:=Ba.mp ha;obtain⟨j,hj,rfl⟩:=Ba.mp hb;have ii:i∈bR n t:=a6.mpr ⟨hi,by rw [cV hi];exact h1⟩;have jj:j∈bR n t:=a6.mpr ⟨hj,by rw [cV hj];exact h2⟩;rw [h] at ii jj;have:i=j:=(Ae.mp ii).trans (Ae.mp jj).symm;subst this;exact pa
 ·obtain⟨a',gU,ea,ia⟩:=mp a ha;obtain⟨b',i7,eb,ib⟩:=mp b hb;rw [<- eb];exact hc a' gU b' i7 t (ia t h1 e) (ib t h2 e)<|by rw [ea];exact pa
theorem Qa(T:aj n)(tw:jB n z r0 r1)(lt:r0 < r1)(hN:(n.map (·.1)).Nodup)(hg:bu n):bu (shr n z r0 r1):=λP ⟨x,hx,px⟩ hc y hy=>by
 have l0:=tw.l0;have l1:=tw.l1;have im:∀ i,i < n.length->∃ t∈shr n z r0 r1,t.1=ao n (if i=r1 then r0 else i)/\∀ u∈row n i,u≠z->u∈t.2:=λi hi=>by
  have hj:dn r0 r1 i < n.length - 1:=by
   unfold dn
   split
   ·omega
   ·split <;> omega
  have hk:(if dn r0 r1 i < r1 then dn r0 r1 i else dn r0 r1 i+1)=if i=r1 then r0 else i:=by
   unfold dn
   by_cases c:i=r1
   ·rw [BL c,BL c,BL lt]
   ·rw [BK c,BK c]
    by_cases d:r1 < i
    ·rw [BL d,BK<|by omega];omega
    ·rw [BK d,BL<|by omega]
  have at':=Hv tw<|dn r0 r1 i;rw [BL hj,hk] at at';refine⟨_,Ak at',rfl,λu hu nz=>?_⟩;show u∈if(if i=r1 then r0 else i)=r0 then eV (row n r0) (row n r1) z else row n (if i=r1 then r0 else i);have j:=uZ (w:=u) tw.m0 tw.m1;rw [BK nz] at j
  by_cases c:i=r1
  ·rw [BL c,BL rfl];rw [c] at hu;have:=Bt.mpr hu;exact Bt.mp<|by omega
  ·rw [BK c]
   by_cases d:i=r0
   ·rw [BL d];rw [d] at hu;have:=Bt.mpr hu;exact Bt.mp<|by omega
   ·rw [BK d];exact hu
 have bk:∀ t∈shr n z r0 r1,∃ i,i < n.length/\i≠r1/\t.1=ao n i:=λt ht=>by
  obtain⟨i,hi,rfl⟩:=Aj.mp ht;rw [Au,CN,Bm] at hi;exact⟨i,hi.1,hi.2,rfl⟩
 have key:=hg λp=>P<|ao n (if rn n p=r1 then r0 else rn n p);obtain⟨i,hi,ni,ei⟩:=bk x hx;obtain⟨j,hj,nj,ej⟩:=bk y hy;have iS:∀ k (hk:k < n.length),rn n n[k].1=k:=λk hk=>by
  have:=Hs hN hk;rw [b8 hk] at this;exact this
 have:=key ⟨n[i],Ay hi,by
  show P (ao n (if rn n n[i].1=r1 then r0 else rn n n[i].1));rw [iS i hi,BK ni,<- ei];exact px⟩ (λa ha b hb t h1 h2 pa=>by
   obtain⟨k,hk,rfl⟩:=Ba.mp ha;obtain⟨m,hm,rfl⟩:=Ba.mp hb;have pa:P (ao n (if rn n n[k].1=r1 then r0 else rn n n[k].1)):=pa;show P (ao n (if rn n n[m].1=r1 then r0 else rn n n[m].1));rw [iS k hk] at pa;rw [iS m hm]
   by_cases e:t=z
   ·subst e;have ek:=tw.only k hk (by rw [cV hk];exact h1);have em:=tw.only m hm (by rw [cV hm];exact h2);have a1:(if k=r1 then r0 else k)=r0:=by split <;> omega
    have a2:(if m=r1 then r0 else m)=r0:=by split <;> omega
    rw [a2];rw [a1] at pa;exact pa
   ·obtain⟨a',gU,ea,ia⟩:=im k hk;obtain⟨b',i7,eb,ib⟩:=im m hm;rw [<- eb];exact hc a' gU b' i7 t (ia t (by rw [cV hk];exact h1) e) (ib t (by rw [cV hm];exact h2) e)<|by rw [ea];exact pa) n[j]<|Ay hj
 have this:P (ao n (if rn n n[j].1=r1 then r0 else rn n n[j].1)):=this;rw [iS j hj,BK nj,<- ej] at this;exact this
end
end Nt
namespace A5
open PySem L2 Nt bn b6
open PyProof.Rows (sortedS)
open Classical
noncomputable def knd(n:Net)(z:Str):Str:=if(bR n z).length=1 then "loop" else if eW (aq n z) then "free" else "bridge"
noncomputable def Hx:Sp:=λvs H Q _=>∃(R:Addr) (as:List<|Addr×Addr) (n:Net) (z:Str),vs=[.ref R,.str z]/\ai H R as n/\aj n/\(n.map (·.1)).Nodup/\0 < n.length/\n.length<=60/\(ag n).length<=58/\z∈ag n/\∀ H',ak H H'->Q (.str<|knd n z) H'
theorem Qb:∀(a b:List Str),(∀ y,a.count y<=b.count y)->a.length<=b.length
 | [],b,_=>Ci _
 | x :: a,b,h=>by
  have hx:x∈b:=Bt.mp (by have:=h x;rw [List.count_cons_self] at this;omega);have ih:=Qb a (b.erase x) λy=>by
   have:=h y
   by_cases e:y=x
   ·subst e;rw [List.count_cons_self] at this;rw [List.count_erase_self];omega
   ·rw [List.count_erase_of_ne e];rw [List.count_cons_of_ne<|Ne.symm e] at this;exact this
  rw [Dy hx] at ih;have:=Ed hx;rw [Ax];omega
theorem q0p{n:Net}{z:Str}(T:aj n)(hz:z∈ag n):(bR n z).length=1↔∃ r,r < n.length/\(row n r).count z=2:=by
 have hp:=x9 T hz;obtain⟨p1,p2⟩:=Ht T hz
 constructor
 ·intro h
  match hh:bR n z,h with
  | [r],_=>
   have q:∀ x,x < n.length->0 < (row n x).count z->x=r:=λx hx hc=>by
    have:x∈bR n z:=a6.mpr ⟨hx,Bt.mp hc⟩;rw [hh] at this;exact Ae.mp this
   have e1:(gK n z).1=r:=q _ p1 (by rw [hp,BL rfl];omega);have e2:(gK n z).2=r:=q _ p2 (by rw [hp,BL rfl];omega);exact⟨r,by rw [<- e1];exact p1,by rw [hp r,BL e1.symm,BL e2.symm]⟩
 ·rintro ⟨r,hr,hc⟩;rw [hp r] at hc;have e1:r=(gK n z).1:=BX λk=>by rw [BK k] at hc;split at hc <;> omega
  have e2:r=(gK n z).2:=BX λk=>by rw [BK k] at hc;split at hc <;> omega
  rcases xV T hz with ⟨x,h⟩ | ⟨r0,r1,h⟩
  ·rw [h];rfl
  ·exfalso
   have tw:=pR h;have c0:=Bt.mpr tw.m0;have c1:=Bt.mpr tw.m1;rw [hp r0,<- e1,<- e2] at c0;rw [hp r1,<- e1,<- e2] at c1;have k0:r0=r:=BX λk=>by rw [BK k] at c0;omega
   have k1:r1=r:=BX λk=>by rw [BK k] at c1;omega
   exact tw.ne<|k0.trans k1.symm
section
variable{P:Program}{w:World}{K:PySem.W.Frag}{mg:Str->Option Value}{base:Heap}
abbrev NSo:List Str:=["_law_rows","_law_tie","_law_point","_law_row"]
theorem va:au NSo ["_law_rows","_law_tie"] (bj B8):=⟨rfl,rfl,rfl,by decide +kernel,rfl,by decide +kernel,by decide +kernel⟩
theorem q4o{f:Addr}{fd:FuncData}(F:bW K "_law_sort" "_law_sort" B8 f fd)(T:Txt mg)(GH:bB P w K mg base 2 "_law_hangs" ["_law_rows"] jd)(GO:bB P w K mg base 2 "_law_out" ["_law_rows","_law_tie"] G0):aM P w K mg base cf 3 f fd ["_law_rows","_law_tie"] Hx:=by
 refine F.gb va (λvs H Q E h=>?_) λb0 H vs Q E hr h=>?_
 ·obtain⟨R,as,n,z,rfl,_⟩:=h;rfl
 obtain⟨R,as,n,z,rfl,hR,hT,hN,h0,hn,ht,hz,q⟩:=h;have nd:=va.nd;have bM:=hR.len;have li:=q0p hT hz;show Run _ _ _ [some<|.ref R,some<|.str z,none,none] H;refine jn<|ae 0 ⟨R,rfl,⟨_,al.of hR.lst⟩,jo (xs:=as.map λa=>V.ref a.1) (λr σ' H'=>(∃ v2 v3,σ'=[some<|.ref R,some<|.str z,v2,v3])/\H'=H/\∀ k,k < r->(row n k).count z≠2) ⟨⟨none,none,rfl⟩,rfl,λk hk=>absurd hk<|Gc _⟩ ?_ ?_ ?_⟩
 ·rintro r σ' H' _ ⟨_,rfl,_⟩;exact al.of hR.lst
 ·rintro r x σ' H' hx ⟨⟨v2,v3,rfl⟩,rfl,no⟩;have hi:r < n.length:=by
   have:=(Ad.mp hx).1;rw [Aa] at this;omega
  obtain⟨a,ea,db,et,el,er⟩:=hR.at hi;rw [Ag,ea] at hx;cases hx;refine kL rfl (aW.of et) (bA 2 nd<|bA 3 nd ?_);show Run _ _ _ [some<|.ref R,some<|.str z,some<|.str n[r].1,some<|.ref a.2] H';refine gq<|dv g9<|A7 CZ PySem.F.slot_list_count PySem.F.type_list_count Z6<|ae 3 (v:= .ref a.2) ⟨Or.inl ⟨rfl,_,al.of el⟩,ae 1 ⟨a.2,row n r,z,rfl,rfl,al.of el,aF ⟨rfl,_,rfl,?_⟩⟩⟩;refine iX (λc=>?_) λc=>a8<|a8 ⟨⟨_,_,rfl⟩,rfl,λk hk=>?_⟩
  ·refine cD<|fP ?_;have c:=V.int.inj<|CG c;have:=q H'<|ak.refl _;unfold knd at this;rw [BL<|li.mpr ⟨r,hi,by omega⟩] at this;exact this
  ·rcases Ff.mp hk with hk | hk
   ·exact no k hk
   ·intro e;rw [hk] at e;exact c<|BR<|by rw [e];rfl
 ·rintro σ' H' ⟨⟨v2,v3,rfl⟩,rfl,no⟩;rw [Aa,bM] at no;have nl:¬(bR n z).length=1:=λk=>by
   obtain⟨r,hr,hc⟩:=li.mp k;exact no r hr hc
  refine gq (zW<|bY GH hr<|ah<|bY GO hr<|ah<|ae 0<|ah<|ae 1<|ay ⟨R,as,n,z,rfl,hR,by omega,by omega,λL bs H1 s1 n1 f1 hL=>ay ⟨L,bs,aq n z,rfl,hL,kZ hT,by rw [rK];exact hN,by rw [g5];exact h0,by rw [g5];exact hn,Cp xY (by omega),λH2 s2=>⟨_,rfl,?_⟩⟩⟩);have qq:=q H2<|s1.trans s2;unfold knd at qq;rw [BK nl] at qq;refine iX (λc=>cD<|fP ?_) λc=>a8<|cD<|fP ?_
  ·rw [BL<|CG c] at qq;exact qq
  ·rw [BK λk=>c<|BR k] at qq;exact qq
end
end A5
namespace Nt
open PySem L2
theorem Qc(x:Str):∀{sd:List Str},m9 sd->∃ i8,m9 i8/\∀ y,y∈i8↔y=x\/y∈sd
 | [],_=>⟨[x],RB _ _,λy=>by simp⟩
 | a :: r,h=>by
  have h':=De.mp h
  by_cases q:x.cps.toList < a.cps.toList
  ·refine⟨x :: a :: r,De.mpr ⟨λy hy=>?_,h⟩,λy=>by simp⟩
   rcases Am.mp hy with e | e
   ·rw [e];exact q
   ·exact Fz q<|h'.1 y e
  ·rcases List.le_iff_lt_or_eq.mp (Gv.mp q) with q2 | q2
   ·obtain⟨i8,s1,s2⟩:=Qc x h'.2;refine⟨a :: i8,De.mpr ⟨λy hy=>?_,s1⟩,λy=>?_⟩
    ·rcases (s2 y).mp hy with e | e
     ·rw [e];exact q2
     ·exact h'.1 y e
    ·rw [Am,s2,Am]
     constructor
     ·rintro (e | e | e)
      ·exact .inr<|.inl e
      ·exact .inl e
      ·exact .inr<|.inr e
     ·rintro (e | e | e)
      ·exact .inr<|.inl e
      ·exact .inl e
      ·exact .inr<|.inr e
   ·refine⟨a :: r,h,λy=>?_⟩;have:a=x:=b6.iI q2;subst this;simp
theorem Qd:∀ L:List Str,∃ sd,m9 sd/\∀ y,y∈sd↔y∈L
 | []=>⟨[],List.Pairwise.nil,λ_=>QC⟩
 | x :: L=>by
  obtain⟨sd,h1,h2⟩:=Qd L;obtain⟨i8,h3,h4⟩:=Qc x h1;exact⟨i8,h3,λy=>by rw [h4,h2,Am]⟩
theorem Hy(z:Str):∀ L:List Str,decide (L.count z % 2=1)=aB (L.map λy=>decide (z=y))
 | []=>rfl
 | y :: L=>by
  show _=(decide (z=y) ^^ aB (L.map λy=>decide (z=y)));rw [<- Hy z L,Dh]
  by_cases h:z=y
  ·subst h;rw [BR rfl,beq_self_eq_true,BL rfl,Bool.true_xor,<- decide_not];exact decide_eq_decide.mpr<|by omega
  ·rw [BW h,BK λq=>h (eq_of_beq q).symm,Hf];rfl
theorem yc{α β:Type}(f:α->β->Bool)(M:List β):∀ L:List α,aB (L.map λa=>aB<|M.map λb=>f a b)=aB (M.map λb=>aB<|L.map λa=>f a b)
 | []=>(jw M).symm
 | a :: L=>by
  show(aB (M.map λb=>f a b) ^^ aB (L.map λa=>aB<|M.map λb=>f a b))=aB (M.map λb=>f a b ^^ aB (L.map λa=>f a b));rw [yc f M L,il (λb=>f a b) λb=>aB<|L.map λa=>f a b]
theorem map_range{α β:Type}(l:List α)(f:α->β)(g:Nat->β)(h:∀ k x,l[k]?=some x->g k=f x):l.map f=(List.range l.length).map g:=by
 apply Dz;intro k;rw [Ag,Ag]
 by_cases hk:k < l.length
 ·rw [Ab hk,Dj hk];exact BZ some (h k _<|Ab hk).symm
 ·rw [Br (by omega),Br<|by simp;omega];rfl
def b7(zs:List Str)(t s:Str->Bool):Bool:=aB<|zs.map λz=>t z && s z
theorem Qe(zs:List Str)(t u s:Str->Bool):b7 zs (λz=>t z ^^ u z) s=(b7 zs t s ^^ b7 zs u s):=by
 unfold b7;rw [<- il (λz=>t z && s z) λz=>u z && s z]
 congr 1
 refine Bf λz _=>?_;show((t z ^^ u z) && s z)=_;cases t z <;> cases u z <;> cases s z <;> rfl
theorem Hz{s:Str->Bool}{y:Str}:∀{zs:List Str},zs.Nodup->y∈zs->b7 zs (λz=>decide (z=y)) s=s y
 | z :: zs,hn,hy=>by
  have hn:=Bu.mp hn;show((decide (z=y) && s z) ^^ b7 zs (λz=>decide (z=y)) s)=s y
  by_cases h:z=y
  ·subst h;have:b7 zs (λx=>decide (x=z)) s=false:=by
    unfold b7;have e:(zs.map λx=>decide (x=z) && s x)=zs.map λ_=>false:=Bf λx hx=>by
     have ne:¬ x=z:=λq=>hn.1<|q ▸ hx;rw [BW ne];rfl
    rw [e,jw]
   rw [this,BR rfl];cases s z <;> rfl
  ·rw [BW h,Hz hn.2<|(Am.mp hy).resolve_left<|Ne.symm h];cases s y <;> rfl
theorem k6c{n:Net}{zs:List Str}(hz:zs.Nodup){t:Str->Bool}:∀{L:List Str},(∀ y∈L,y∈zs)->b7 zs t (λz=>decide (L.count z % 2=1))=aB (L.map t)
 | L,hL=>by
  unfold b7;have e:(zs.map λz=>t z && decide (L.count z % 2=1))=zs.map λz=>aB (L.map λy=>t z && decide (z=y)):=Bf λz _=>by
   rw [Hy];cases t z
   ·show false=aB (L.map λ_=>false);rw [jw]
   ·rfl
  rw [e,yc λz y=>t z && decide (z=y)]
  congr 1
  refine Bf λy hy=>?_;have:=Hz (s:=t) hz<|hL y hy;rw [<- this];unfold b7
  congr 1
  refine Bf λz _=>?_;rw [Bool.and_comm]
theorem Qf{n:Net}(T:aj n)(hN:(n.map (·.1)).Nodup){ss zs:List Str}(hz:zs.Nodup)(hm:∀ z,z∈zs↔z∈ag n){x:Str}{b:Bool}(h:Way (dX n ss) (bf n) x b) :
  ∃ t:Str->Bool,(∀ r,r < n.length->aB ((row n r).map t)=(decide (ao n r=bf n) ^^ decide (ao n r=x)))/\b7 zs t (λz=>decide (z∈ss))=b:=by
 have add:∀{x y:Str} {o b:Bool},(∃ e z,ax n e=some z/\((x=ao n e.1/\y=ao n (other n e).1)\/(y=ao n e.1/\x=ao n (other n e).1))/\o=decide (z∈ss))->(∃ t:Str->Bool,(∀ r,r < n.length->aB ((row n r).map t)=(decide (ao n r=bf n) ^^ decide (ao n r=x)))/\b7 zs t (λz=>decide (z∈ss))=b) ->
   ∃ t:Str->Bool,(∀ r,r < n.length->aB ((row n r).map t)=(decide (ao n r=bf n) ^^ decide (ao n r=y)))/\b7 zs t (λz=>decide (z∈ss))=(b != o):=by
  rintro x y o b ⟨e,z,fW,CI,rfl⟩ ⟨t,h1,h2⟩;refine⟨λu=>t u ^^ decide (u=z),λr hr=>?_,?_⟩
  ·rw [il t λu=>decide (u=z),h1 r hr,xo T fW r];have e1:∀ i,i < n.length->decide (r=i)=decide (ao n r=ao n i):=λi hi=>decide_eq_decide.mpr ⟨λq=>by rw [q],λq=>lS hN hr hi q⟩;rw [e1 _<|cE fW,e1 _<|xk T fW]
   rcases CI with ⟨a1,a2⟩ | ⟨a1,a2⟩
   ·rw [<- a1,<- a2];cases decide (ao n r=bf n) <;> cases decide (ao n r=x) <;> cases decide (ao n r=y) <;> rfl
   ·rw [<- a1,<- a2];cases decide (ao n r=bf n) <;> cases decide (ao n r=x) <;> cases decide (ao n r=y) <;> rfl
  ·rw [Qe,h2,Hz hz<|(hm z).mpr<|eX fW]
 have lk:∀{x y:Str} {o:Bool},(x,y,o)∈dX n ss->∃ e z,ax n e=some z/\((x=ao n e.1/\y=ao n (other n e).1))/\o=decide (z∈ss):=λ{x y o} hm=>by
  obtain⟨e,z,h1,h2⟩:=(Nx (n:=n) (ss:=ss)).YG _ hm;exact⟨e,z,h1,⟨BZ (·.1) h2,BZ (·.2.1) h2⟩,BZ (·.2.2) h2⟩
 induction h with
 | here=>exact⟨λ_=>false,λr _=>by rw [jw];cases decide (ao n r=bf n) <;> rfl,by unfold b7;exact jw zs⟩
 | there _ ht ih=>
  obtain⟨e,z,h1,h2,h3⟩:=lk ht;exact add ⟨e,z,h1,.inl h2,h3⟩ ih
 | back _ ht ih=>
  obtain⟨e,z,h1,h2,h3⟩:=lk ht;exact add ⟨e,z,h1,.inr ⟨h2.1,h2.2⟩,h3⟩ ih
theorem k1o{n:Net}(T:aj n)(hg:bu n)(hN:(n.map (·.1)).Nodup)(h0:0 < n.length){ss zs:List Str}(hz:zs.Nodup)(hm:∀ z,z∈zs↔z∈ag n)(hs:∀ z∈ss,z∈ag n)(HE:∀ t,cG n t->b7 zs t (λz=>decide (z∈ss))=false):∃ sd,jZ n ss sd:=by
 classical
 have uniq:∀{x b c},Way (dX n ss) (bf n) x b->Way (dX n ss) (bf n) x c->b=c:=λ{x b c} h1 h2=>by
  obtain⟨t,t1,t2⟩:=Qf T hN hz hm h1;obtain⟨u,u1,u2⟩:=Qf T hN hz hm h2;have:=HE (λz=>t z ^^ u z) λr=>by
   by_cases hr:r < n.length
   ·rw [il t u,t1 r hr,u1 r hr];cases decide (ao n r=bf n) <;> cases decide (ao n r=x) <;> rfl
   ·have:row n r=[]:=by
     unfold row;rw [Br<|by omega];rfl
    rw [this];rfl
  rw [Qe,t2,u2] at this;cases b <;> cases c <;> first | rfl | cases this
 have next:∀{e:End} {z:Str} {b:Bool},ax n e=some z->Way (dX n ss) (bf n) (ao n e.1) b->Way (dX n ss) (bf n) (ao n (other n e).1) (b != decide (z∈ss)):=λ{e z b} he h=>by
  rcases (Nx (n:=n) (ss:=ss)).to e z he with t | t
  ·exact .there h t
  ·exact .back h t
 have all:∀ r,r < n.length->∃ b,Way (dX n ss) (bf n) (ao n r) b:=λr hr=>by
  have:=hg (λx=>∃ b,Way (dX n ss) (bf n) x b) ⟨n[0],Ay h0,false,by rw [<- b8 h0];exact .here⟩ (λr hr s hV t tr ts ⟨b,hb⟩=>?_) n[r]<|Ay hr
  ·rw [<- b8 hr] at this;exact this
  ·obtain⟨i,hi,rfl⟩:=Ba.mp hr;obtain⟨j,hj,rfl⟩:=Ba.mp hV;obtain⟨p,hp⟩:=An tr;obtain⟨q,hq⟩:=An ts;have h1:ax n (i,p)=some t:=by show(row n i)[p]?=_;rw [jT hi];exact hp
   have h2:ax n (j,q)=some t:=by show(row n j)[q]?=_;rw [jT hj];exact hq
   rcases (dJ T h1).mp h2 with e | e
   ·have:j=i:=BZ (·.1) e;subst this;exact⟨b,hb⟩
   ·rw [<- b8 hi] at hb;have:=next h1 hb;rw [<- e] at this;exact⟨_,by rw [<- b8 hj];exact this⟩
 obtain⟨sd,h1,h2⟩:=Qd<|((List.range n.length).filter λ(r:Nat)=>decide (Way (dX n ss) (bf n) (ao n r) true)).map<|ao n;have mem:∀ r,r < n.length->∀ b,Way (dX n ss) (bf n) (ao n r) b->decide (ao n r∈sd)=b:=λr hr b hb=>by
  have:ao n r∈sd↔b=true:=by
   rw [h2,Aj]
   constructor
   ·rintro ⟨i,hi,e⟩;rw [Au,Bm] at hi;have:=lS hN hi.1 hr e;subst this;exact uniq hb<|CG hi.2
   ·intro e;subst e;exact⟨r,Au.mpr ⟨Bm.mpr hr,BR hb⟩,rfl⟩
  by_cases q:b=true
  ·rw [q];exact BR<|this.mpr q
  ·rw [QL] at q;rw [q];exact BW λk=>by rw [this.mp k] at q;cases q
 refine⟨sd,h1,λx hx=>?_,λhx=>?_,λz=>?_⟩
 ·obtain⟨i,hi,rfl⟩:=Aj.mp<|(h2 x).mp hx;exact ng<|Bm.mp (Au.mp hi).1
 ·have:=mem 0 h0 false .here;exact absurd hx<|HX this
 ·by_cases fW:z∈ag n
  ·obtain⟨p,hp⟩:∃ p,p∈pos n z:=by
    have:pos n z≠[]:=λq=>by have:=oZ n z;rw [q,T z fW] at this;cases this
    exact Dl _ this
   have he:=aO.mp hp;obtain⟨b,hb⟩:=all p.1<|cE he;have hc:=next he hb;rw [DM T he,mem _ (cE he) b hb,mem _ (xk T he) _ hc]
   constructor
   ·intro h;rw [BR h];cases b <;> rfl
   ·intro h;refine BX λk=>?_;rw [BW k] at h;cases b <;> cases h
  ·exact⟨λh=>absurd (hs z h) fW,λh=>absurd (Nv h) fW⟩
theorem k2m{n:Net}(T:aj n){e:End}(h:e∈ends n):other n (other n e)=e:=by
 obtain⟨z,hz⟩:=af.mp h;exact(cL T hz).2.1
theorem HG{α β:Type}{f:α->β}:∀{l:List α},l.Nodup->(∀ a∈l,∀ b∈l,f a=f b->a=b)->(l.map f).Nodup
 | [],_,_=>Db
 | a :: l,h,inj=>by
  have h:=Bu.mp h;refine Bu.mpr ⟨λhm=>?_,HG h.2 λx hx y hy=>inj x (Af _ hx) y<|Af _ hy⟩;obtain⟨b,hb,q⟩:=Aj.mp hm;have:=inj a (Ac ..) b (Af _ hb) q.symm;exact h.1<|this ▸ hb
end Nt
namespace L2
open PySem PySem.Spec PyProof.Rows b6
section
variable{X:Cx}{elt t1 i1 t2 i2 t3 i3:Expr}{f1 f2 f3:List Expr}{scope:Scope}{pos:Pos}{σ:St}{H:Hp}{acc:Value}{env:Env}
end
section
variable{X:Cx}{tg:Expr}{ifs:List Expr}{inner:Sem Unit}{σ:St}{H:Hp}{a:Addr}{xs:List V}{after:St->Hp->Prop}
end
section
variable{X:Cx}{σ:St}{H:Hp}{Q:VK}
end
end L2
namespace Nt
open PySem L2 Classical
section
variable{n:Net}{s:Str->Bool}{c:Nat->Bool}{χ:End->Bool}
end
theorem Qg{m a:Nat}(h:a < m)(f:Nat->Bool):aB ((List.range m).map λi=>f i && decide (a=i))=f a:=by
 induction m with
 | zero=>omega
 | succ m ih=>
  rw [Dg,Al,ro];show(_ ^^ ((f m && decide (a=m)) ^^ false))=_;rw [Hg]
  by_cases c:a=m
  ·subst c;have:aB ((List.range a).map λi=>f i && decide (a=i))=false:=by
    have e:((List.range a).map λi=>f i && decide (a=i))=(List.range a).map λ_=>false:=Bf λi hi=>by
     rw [BW (λq=>by have:=Bm.mp hi;omega),Gh]
    rw [e,jw]
   rw [this,BR rfl,Bool.and_true,Hf]
  ·rw [ih (by omega),BW c,Gh,Hg]
section
variable{n:Net}{cs:List (List Str)}{ss zs:List Str}{c:Nat->Bool}{χ:End->Bool}
end
section
variable{n:Net}
end
abbrev HH(n:Net):List Str:=n.map (·.1)
theorem k4d{Z:List Str}{s s' t t':Str->Bool}(h:∀ z∈Z,s z=s' z)(k:∀ z∈Z,t z=t' z):b7 Z s t=b7 Z s' t':=by
 unfold b7
 congr 1
 exact Bf λz hz=>by rw [h z hz,k z hz]
end Nt
namespace Dt
variable{κ ι:Type}
variable [DecidableEq ι]
end Dt
namespace Nt
open PySem L2 Dt
section
variable{n:Net}
end
end Nt
namespace Dt
open Nt (aB il)
open Classical
variable{τ:Type}
def dot(ss:List τ)(r s:τ->Bool):Bool:=aB<|ss.map λz=>r z && s z
theorem k9d(ss:List τ)(r s:τ->Bool):dot ss r s=dot ss s r:=by
 unfold dot
 congr 1
 exact Bf λz _=>Bool.and_comm ..
structure DP(ss:List τ)(R S:(τ->Bool)->Prop):Prop where
 x0b:∀ r r',(∀ y∈ss,r y=r' y)->R r->R r'
 x0c:∀ r r',(∀ y∈ss,r y=r' y)->S r->S r'
 xr:∀ r r',R r->R r'->R (λy=>r y ^^ r' y)
 xs:∀ r r',S r->S r'->S (λy=>r y ^^ r' y)
 ort:∀ r s,R r->S s->dot ss r s=false
 Qh:∀ v,(∀ s,S s->dot ss v s=false)->R v
 Qi:∀ v,(∀ r,R r->dot ss r v=false)->S v
open Nt (aB il yc jw)
open Classical
variable{τ κ:Type} [DecidableEq κ]
end Dt
namespace Nt
open PySem L2
def nO(k:Nat):Str:=Str.ofString "f"++Str.ofString (toString (k:Int))
def gM(n:Net)(ws:List<|List End):Net:=ws.zipIdx.map λx=>(nO x.2,x.1.map<|bg n)
noncomputable def aD(n:Net):Net:=gM n<|bd n
theorem HI(n:Net)(ws:List<|List End):(gM n ws).length=ws.length:=by unfold gM;simp
theorem q2d{n:Net}{ws:List (List End)}{i:Nat}{w:List End}(h:ws[i]?=some w):(gM n ws)[i]?=some (nO i,w.map<|bg n):=by
 unfold gM;rw [Ag,List.getElem?_zipIdx,h];simp
theorem k5a{k:Nat}(h:k<=1000):((k:Int)).natAbs.log2 < 1920:=by
 have e:((k:Int)).natAbs=k:=by omega
 rw [e];have:k.log2<=k:=Nat.log2_le_self k;omega
theorem q2y{k:Nat}(h:k<=1000):(nO k).length<=10:=by
 have e:=PySem.int_text_length_le10 (a:=(k:Int)) (k:=4) (by decide) (by omega);unfold nO;rw [PB,SN,SN];have:("f" : String).length=1:=rfl;omega
open Classical
theorem vd{α:Type}{L:List (List α)}(h:L.flatten.Nodup){i j k l:Nat}{w v:List α}{e:α}(hi:L[i]?=some w)(hk:w[k]?=some e)(hj:L[j]?=some v)(hl:v[l]?=some e):i=j/\k=l:=by
 rw [Bv,List.pairwise_flatten] at h;obtain⟨h1,h2⟩:=h;have li:=(Ad.mp hi);have lj:=(Ad.mp hj);have ij:i=j:=by
  rcases Gk i j with c | c | c
  ·exact absurd rfl ((Bh.mp h2) i j li.1 lj.1 c e (by rw [li.2];exact Ak hk) e<|by rw [lj.2];exact Ak hl)
  ·exact c
  ·exact absurd rfl ((Bh.mp h2) j i lj.1 li.1 c e (by rw [lj.2];exact Ak hl) e<|by rw [li.2];exact Ak hk)
 subst ij;rw [hi] at hj;cases hj;refine⟨rfl,?_⟩;have p:=h1 w<|Ak hi;have lk:=(Ad.mp hk);have ll:=(Ad.mp hl)
 rcases Gk k l with c | c | c
 ·exact absurd (lk.2.trans ll.2.symm)<|(Bh.mp p) k l lk.1 ll.1 c
 ·exact c
 ·exact absurd (ll.2.trans lk.2.symm)<|(Bh.mp p) l k ll.1 lk.1 c
noncomputable def pf(n:Net)(x:End):End:=(((bd n)[x.1]?.getD [])[x.2]?).getD (0,0)
theorem yd(n:Net)(f:Nat):row (aD n) f=((bd n)[f]?.getD []).map (bg n):=by
 unfold row aD;cases h:(bd n)[f]? with
 | some w=>rw [q2d h];rfl
 | none=>
  have:(gM n<|bd n)[f]?=none:=by rw [PX] at h ⊢;rw [HI];exact h
  rw [this];rfl
theorem rP{n:Net}{x:End}(h:x∈ends (aD n)):∃ w,(bd n)[x.1]?=some w/\w[x.2]?=some (pf n x):=by
 obtain⟨z,hz⟩:=af.mp h;unfold ax at hz;rw [yd] at hz;cases hw:(bd n)[x.1]? with
 | none=>rw [hw] at hz;simp at hz
 | some w=>
  rw [hw] at hz;have:x.2 < w.length:=by have:=(Ad.mp hz).1;simpa using this
  refine⟨w,rfl,?_⟩;unfold pf;rw [hw];show w[x.2]?=some ((w[x.2]?).getD (0,0));rw [Ab this];rfl
theorem ye{n:Net}{i k:Nat}{w:List End}{e:End}(hi:(bd n)[i]?=some w)(hk:w[k]?=some e):(i,k)∈ends (aD n)/\pf n (i,k)=e:=by
 constructor
 ·refine af.mpr ⟨bg n e,?_⟩;unfold ax;rw [yd];show(((bd n)[i]?.getD []).map<|bg n)[k]?=_;rw [hi,Gs,Ag,hk];rfl
 ·unfold pf;show(((bd n)[i]?.getD [])[k]?).getD (0,0)=e;rw [hi,Gs,hk];rfl
section
variable{n:Net}
theorem ve(T:aj n){x:End}(h:x∈ends (aD n)):pf n x∈ends n:=by
 obtain⟨w,h1,h2⟩:=rP h;exact(MY T w<|Ak h1).2 _<|Ak h2
theorem pZ(T:aj n){x:End}(h:x∈ends (aD n)):ax (aD n) x=ax n (pf n x):=by
 obtain⟨w,h1,h2⟩:=rP h;obtain⟨z,hz⟩:=af.mp<|ve T h;rw [hz];unfold ax;rw [yd,h1,Gs,Ag,h2];show some (bg n<|pf n x)=some z;rw [gT hz]
theorem Qj{x:End}(h:x∈ends (aD n)):ends n≠[]:=λk=>by
 obtain⟨w,h1,h2⟩:=rP h;have:bd n=[[]]:=by unfold bd;rw [BL k]
 rw [this] at h1;have:w=[]:=by simpa using Ak h1
 subst this;simp at h2
theorem vf(T:aj n){x y:End}(hx:x∈ends (aD n))(hy:y∈ends (aD n))(h:pf n x=pf n y):x=y:=by
 obtain⟨w,h1,h2⟩:=rP hx;obtain⟨v,h3,h4⟩:=rP hy;rw [<- h] at h4;obtain⟨a,b⟩:=vd (DE T<|Qj hx).nd h1 h2 h3 h4;exact EY a b
theorem vg(T:aj n){e:End}(h:e∈ends n):∃ x∈ends (aD n),pf n x=e:=by
 have h0:ends n≠[]:=λk=>by rw [k] at h;cases h
 have hm:=(rk T h0).all.mem_iff.mpr h;obtain⟨w,hw,he⟩:=Ck.mp hm;obtain⟨i,hi⟩:=An hw;obtain⟨k,hk⟩:=An he;exact⟨(i,k),ye hi hk⟩
theorem Qk(n:Net):∀(ws:List<|List End) (k:Nat),ag ((ws.zipIdx k).map λx=>(nO x.2,x.1.map<|bg n))=ws.flatten.map (bg n)
 | [],_=>rfl
 | w :: ws,k=>by
  rw [List.zipIdx_cons,Bd];show w.map (bg n)++ag ((ws.zipIdx<|k+1).map λx=>(nO x.2,x.1.map<|bg n))=_;rw [Qk n ws<|k+1,Bq,Al]
theorem Ql(n:Net):(ends n).map (bg n)=ag n:=by
 unfold ends;rw [Bb,<- mU n 0];refine Bf λp hp=>?_;obtain⟨z,e⟩:=p;exact gT<|aV.mp hp
theorem rQ(T:aj n):(ag<|aD n).Perm (ag n):=by
 have e:ag (aD n)=(bd n).flatten.map (bg n):=Qk n (bd n) 0;rw [e]
 by_cases h:ends n=[]
 ·have:bd n=[[]]:=by unfold bd;rw [BL h]
  rw [this,<- Ql n,h];exact List.Perm.refl _
 ·rw [<- Ql n];exact(rk T h).all.map _
theorem g6(T:aj n):aj (aD n):=λz hz=>by
 have p:=rQ T;rw [p.count_eq];exact T z<|p.mem_iff.mp hz
theorem HK(T:aj n){x:End}(h:x∈ends (aD n)):pf n (left (aD n) x)=step n (pf n x):=by
 obtain⟨w,h1,h2⟩:=rP h;obtain⟨e,_,hw,he,_⟩:=(DE T<|Qj h).face w<|Ak h1;have F:=kO T he;rw [<- hw] at F;have hl:=(Ad.mp h2).1;have hx:pf n x=it (step n) x.2 e:=Option.some.inj<|h2.symm.trans<|F.at' x.2 hl;have er:(row (aD n) x.1).length=w.length:=by rw [yd,h1,Gs,Aa]
 unfold left;rw [er]
 by_cases c:x.2+1 < w.length
 ·rw [Bw c,(ye h1<|F.at' _ c).2,hx];rfl
 ·have c:x.2+1=w.length:=by omega
  rw [c,Dm,(ye h1<|F.at' 0 F.pos).2,hx];show e=it (step n) (x.2+1) e;rw [c,F.back]
theorem p8(T:aj n){x:End}(h:x∈ends (aD n)):pf n (other (aD n) x)=other n (pf n x):=by
 obtain⟨z,hz⟩:=af.mp h;have o:=cL (g6 T) hz;have tX:=hz;rw [pZ T h] at tX;have h2:=o.1;have ho:=c9 (g6 T) h;rw [pZ T ho] at h2
 rcases (dJ T tX).mp h2 with k | k
 ·exact absurd (vf T ho h k) o.2.2
 ·exact k
theorem vh(T:aj n){x:End}(h:x∈ends (aD n)):pf n (go 1 (aD n) x)=left n (pf n x):=by
 have ho:=c9 (g6 T) h;unfold go;rw [<- MU ho,HK T ho,p8 T h];unfold step;obtain⟨z,hz⟩:=af.mp<|ve T h;rw [(cL T hz).2.1]
end
end Nt
namespace Nt
open PySem L2 Dt
section
variable{n:Net}
noncomputable def star(m:Net)(r:Nat)(z:Str):Bool:=decide ((row m r).count z % 2=1)
theorem HL{m:Net}(T:aj m){e:End}{z:Str}(h:ax m e=some z)(r:Nat):star m r z=(decide (r=e.1) ^^ decide (r=(other m e).1)):=by
 rw [<- xo T h r,<- dF]
where
 dF {m:Net} {r:Nat} {z:Str}:star m r z=aB ((row m r).map λy=>decide (y=z)):=by
  unfold star;rw [Hy]
  congr 1
  exact Bf λy _=>decide_eq_decide.mpr ⟨Eq.symm,Eq.symm⟩
theorem HM{m:Net}{ss:List Str}(hs:ss.Nodup)(v:Str->Bool){r:Nat}(h:∀ y∈row m r,y∈ss):dot ss v (star m r)=aB ((row m r).map v):=k6c (n:=m) hs h
theorem q1e(T:aj n)(r:Nat):cG (aD n) (star n r):=by
 refine aU.even (g6 T) (χ:=λx=>decide (r=(pf n x).1)) ⟨λx hx=>?_,λx z hz=>?_⟩
 ·rw [wW (g6 T) hx,vh T hx];rfl
 ·have hx:=af.mpr ⟨z,hz⟩;rw [pZ T hx] at hz;rw [HL T hz r,p8 T hx]
theorem k92(T:aj n)(f:Nat):cG n (star (aD n) f):=by
 have inv:∀{x:End},x∈ends (aD n)->(decide (∃ y∈ends (aD n),pf n y=pf n x/\f=y.1))=decide (f=x.1):=λ{x} hx=>decide_eq_decide.mpr ⟨λ⟨y,hy,e,k⟩=>by rw [<- vf T hy hx e];exact k,λk=>⟨x,hx,rfl,k⟩⟩;refine aU.even T (χ:=λe=>decide (∃ y∈ends (aD n),pf n y=e/\f=y.1)) ⟨λe he=>?_,λe z hz=>?_⟩
 ·obtain⟨x,hx,rfl⟩:=vg T he;have hl:left (aD n) x∈ends (aD n):=A9 hx;show decide _=decide _;rw [<- HK T hx,inv hl,inv hx];rfl
 ·obtain⟨x,hx,rfl⟩:=vg T<|af.mpr ⟨z,hz⟩;show _=(decide _ ^^ decide _);rw [<- pZ T hx] at hz;have ho:=c9 (g6 T) hx;rw [<- p8 T hx,inv hx,inv ho,HL (g6 T) hz f]
theorem k6x(T:aj n)(hf:HF n){ss:List Str}(hs:ss.Nodup)(hm:∀ z,z∈ss↔z∈ag n):DP ss (cG n) (cG<|aD n):=by
 have T':=g6 T;have rp:∀ z,z∈ss↔z∈ag (aD n):=λz=>(hm z).trans (rQ T).mem_iff.symm;have yf:∀{m:Net},(∀ z,z∈ss↔z∈ag m)->∀ r,∀ y∈row m r,y∈ss:=λ{m} h r y hy=>by
  by_cases hr:r < m.length
  ·exact(h y).mpr<|rG hr hy
  ·rw [P8<|by omega] at hy;cases hy
 have loc:∀{m:Net},(∀ z,z∈ss↔z∈ag m)->∀ r r':Str->Bool,(∀ y∈ss,r y=r' y)->cG m r->cG m r':=λ{m} h r r' q k x=>by
  rw [<- k x]
  congr 1
  exact Bf λy hy=>(q y<|yf h x y hy).symm
 have xx:∀{m:Net} (r r':Str->Bool),cG m r->cG m r'->cG m (λy=>r y ^^ r' y):=λ{m} r r' k k' x=>by
  rw [il r r',k x,k' x];rfl
 refine⟨loc hm,loc rp,xx,xx,λr s hr hV=>?_,λv hv x=>?_,λv hv x=>?_⟩
 ·obtain⟨χ,hχ⟩:=hf.2.2 r hr;have cst:∀(p f:Nat),(f,p)∈ends (aD n)->χ (pf n (f,p))=χ (pf n (f,0)):=λp=>by
   induction p with
   | zero=>exact λf _=>rfl
   | succ p ih=>
    intro f h;obtain⟨z,hz⟩:=af.mp h;have hl:=eQ hz;have hl:p+1 < (row (aD n) f).length:=hl;have hp:(f,p)∈ends (aD n):=af.mpr ⟨_,Ab (show p < (row (aD n) f).length by omega)⟩;have e:left (aD n) (f,p)=(f,p+1):=EY rfl (Bw hl);rw [<- ih f hp,<- e,HK T hp,hχ.go _<|ve T hp]
  have rz:∀ z∈ss,r z=aB ((List.range (aD n).length).map λf=>χ (pf n (f,0)) && star (aD n) f z):=λz hz=>by
   obtain⟨x,hx⟩:∃ x,ax (aD n) x=some z:=by
    obtain⟨f,hfl,hfm⟩:=nK<|(rp z).mp hz;obtain⟨p,hp⟩:=An hfm;exact⟨(f,p),hp⟩
   have gQ:=af.mpr ⟨z,hx⟩;have yg:=c9 T' gQ;obtain⟨y,hy⟩:=af.mp yg;have l1:=cE hx;have l2:=cE hy;have e1:(λf=>χ (pf n (f,0)) && star (aD n) f z)=λf=>(χ (pf n (f,0)) && decide (x.1=f)) ^^ (χ (pf n (f,0)) && decide ((other (aD n) x).1=f)):=by
    funext f
    rw [HL T' hx f,show decide (f=x.1)=decide (x.1=f) from decide_eq_decide.mpr ⟨Eq.symm,Eq.symm⟩,show decide (f=(other (aD n) x).1)=decide ((other (aD n) x).1=f) from decide_eq_decide.mpr ⟨Eq.symm,Eq.symm⟩];cases χ (pf n (f,0)) <;> cases decide (x.1=f) <;> cases decide ((other (aD n) x).1=f) <;> rfl
   rw [e1,il (λf=>χ (pf n (f,0)) && decide (x.1=f)) λf=>χ (pf n (f,0)) && decide ((other (aD n) x).1=f),Qg l1,Qg l2];have t1:=pZ T gQ;rw [hx] at t1;rw [hχ.cF _ _ t1.symm,<- p8 T gQ];have c1:=cst x.2 x.1 gQ;have c2:=cst (other (aD n) x).2 (other (aD n) x).1 yg;rw [<- c1,<- c2]
  unfold dot;rw [show ss.map (λz=>r z && s z)=ss.map λz=>aB ((List.range (aD n).length).map λf=>χ (pf n (f,0)) && (s z && star (aD n) f z)) from Bf λz hz=>by
   rw [rz z hz];cases s z with
   | false=>
    rw [Gh];have:(λf=>χ (pf n (f,0)) && (false && star (aD n) f z))=λ_:Nat=>false:=by funext f;rw [Bool.false_and,Gh]
    rw [this,jw]
   | true=>
    rw [Bool.and_true]
    congr 1,yc]
  have:(List.range (aD n).length).map (λf=>aB<|ss.map λz=>χ (pf n (f,0)) && (s z && star (aD n) f z))=(List.range (aD n).length).map λ_=>false:=Bf λf _=>by
   cases χ (pf n (f,0)) with
   | false=>
    have:(λz=>false && (s z && star (aD n) f z))=λ_:Str=>false:=by funext z;rfl
    rw [this,jw]
   | true=>
    have:(λz=>true && (s z && star (aD n) f z))=λz=>s z && star (aD n) f z:=by funext z;rw [Bool.true_and]
    rw [this];have d:=HM hs s<|yf rp f;unfold dot at d;rw [d];exact hV f
  rw [this];exact jw _
 ·have:=hv _<|q1e T x;rw [HM hs v<|yf hm x] at this;exact this
 ·have:=hv _<|k92 T x;rw [k9d,HM hs v<|yf rp x] at this;exact this
theorem Qm(T:aj n)(hN:(n.map (·.1)).Nodup)(hg:bu n)(h1:ends n≠[]):bu (aD n):=λP ⟨a,ha,pa⟩ hc b hb=>by
 have T':=g6 T
 let B:End->Prop:=λx=>P<|ao (aD n) x.1
 have bo:∀ x∈ends (aD n),(B x↔B (other (aD n) x)):=λx hx=>by
  have Qn:∀ x∈ends (aD n),B x->B (other (aD n) x):=λx hx k=>by
   obtain⟨z,hz⟩:=af.mp hx;have ho:=(cL T' hz).1;have l1:=cE hz;have l2:=cE ho;show P (ao (aD n) (other (aD n) x).1);have k:P (ao (aD n) x.1):=k;rw [b8 l1] at k;rw [b8 l2];exact hc _ (Ay l1) _ (Ay l2) z (by rw [<- cV l1];exact Ak hz) (by rw [<- cV l2];exact Ak ho) k
  refine⟨Qn x hx,λk=>?_⟩;have:=Qn _ (c9 T' hx) k;rw [k2m T' hx] at this;exact this
 let Bn:End->Prop:=λe=>∃ x∈ends (aD n),pf n x=e/\B x
 have bx:∀{x:End},x∈ends (aD n)->(Bn (pf n x)↔B x):=λ{x} hx=>⟨λ⟨y,hy,e,k⟩=>by rw [<- vf T hy hx e];exact k,λk=>⟨x,hx,rfl,k⟩⟩;have bl:∀ e∈ends n,(Bn e↔Bn (left n e)):=λe he=>by
  obtain⟨x,hx,rfl⟩:=vg T he;rw [<- vh T hx,bx hx,bx<|Xu T' hx,bo x hx];exact QC
 have bt:∀ e∈ends n,(Bn e↔Bn (other n e)):=λe he=>by
  obtain⟨x,hx,rfl⟩:=vg T he;rw [<- p8 T hx,bx hx,bx<|c9 T' hx];exact bo x hx
 have br:∀(p r:Nat),(r,p)∈ends n->(Bn (r,p)↔Bn (r,0)):=λp=>by
  induction p with
  | zero=>exact λr _=>QC
  | succ p ih=>
   intro r h;obtain⟨z,hz⟩:=af.mp h;have hl:=eQ hz;have hl:p+1 < (row n r).length:=hl;have hp:(r,p)∈ends n:=af.mpr ⟨_,Ab (show p < (row n r).length by omega)⟩;have e:left n (r,p)=(r,p+1):=EY rfl (Bw hl);rw [<- e,<- bl _ hp];exact ih r hp
 have ne:∀ w∈bd n,∃ e∈ends n,w[0]?=some e:=λw hw=>by
  obtain⟨e,he,rfl,_⟩:=(by
   have:=wY T (ends n) [] (λ_ h=>h) w (by unfold bd at hw;rw [BK h1] at hw;exact hw);exact this:∃ e∈ends n,w=face n e/\e∉([]:List End))
  obtain⟨hm,_⟩:=jv T he;cases hf:face n e with
  | nil=>rw [hf] at hm;cases hm
  | cons c l=>exact⟨c,wX T he c (by rw [hf];exact Ac ..),rfl⟩
 have first:∀ i,i < (aD n).length->((i,0):End)∈ends (aD n):=λi hi=>by
  have xI:i < (bd n).length:=by
   have:(aD n).length=(bd n).length:=HI n<|bd n;omega
  obtain⟨e,he,h0⟩:=ne _<|Ay xI;exact(ye (Ab xI) h0).1
 obtain⟨i,hi,rfl⟩:=Ba.mp ha;obtain⟨j,hj,rfl⟩:=Ba.mp hb;have xi:=first i hi
 have xj:=first j hj
 have Bi:B (i,0):=by
  show P (ao (aD n) i);rw [b8 hi];exact pa
 have ei:=ve T xi;have ej:=ve T xj;have Bi:=(bx xi).mpr Bi;generalize pf n (i,0)=e at ei Bi;obtain⟨z,hz⟩:=af.mp ei;have lr:=cE hz;have iS:∀ k (hk:k < n.length),rn n n[k].1=k:=λk hk=>by
  have:=Hs hN hk;rw [b8 hk] at this;exact this
 have same:∀ x∈ends n,∀ y∈ends n,x.1=y.1->Bn x->Bn y:=λx hx y hy e k=>by
  have a:=(br x.2 x.1 hx).mp k;rw [e] at a;exact(br y.2 y.1 hy).mpr a
 have all:=hg (λp=>∀ y∈ends n,y.1=rn n p->Bn y) ⟨n[e.1],Ay lr,λy hy k=>by
  have k:y.1=rn n n[e.1].1:=k;rw [iS _ lr] at k;exact same e ei y hy k.symm Bi⟩ (λr hr s hV t t1 t2 pr y hy k=>by
  obtain⟨a,gU,rfl⟩:=Ba.mp hr;obtain⟨b,i7,rfl⟩:=Ba.mp hV;have k:y.1=rn n n[b].1:=k;have pr:∀ y∈ends n,y.1=rn n n[a].1->Bn y:=pr;rw [iS b i7] at k;rw [iS a gU] at pr;rw [<- cV gU] at t1;rw [<- cV i7] at t2;obtain⟨p,hp⟩:=An t1;obtain⟨p',kU⟩:=An t2;have f1:ax n (a,p)=some t:=hp;have f2:ax n (b,p')=some t:=kU;have m1:=af.mpr ⟨t,f1⟩;have m2:=af.mpr ⟨t,f2⟩;have B1:=pr _ m1 rfl;have B2:Bn (b,p'):=by
   rcases (dJ T f1).mp f2 with q | q
   ·rw [q];exact B1
   ·rw [q];exact(bt _ m1).mp B1
  exact same _ m2 y hy k.symm B2)
 obtain⟨zj,hzj⟩:=af.mp ej;have lj:=cE hzj;have fin:=all n[(pf n (j,0)).1] (Ay lj) (pf n (j,0)) ej (iS _ lj).symm;have:=(bx xj).mp fin;have this:P (ao (aD n) j):=this;rw [b8 hj] at this;exact this
end
end Nt
namespace Nt
open PySem L2 Classical
theorem Qo{f:End->End}{g:Nat->End}:∀ k,(∀ i,i < k->f (g i)=g (i+1))->cw f ((List.range k).map g) (g 0) (g k)
 | 0,_=>rfl
 | k+1,h=>by
  rw [Dg,Al];exact aG.mpr ⟨g k,Qo k (λi hi=>h i<|by omega),rfl,h k<|by omega⟩
def nP(n:Net):List (List End):=(List.range n.length).map λr=>(List.range (row n r).length).map λi=>(r,i % (row n r).length)
theorem sum_rows(n:Net):(nP n).flatten.length=(ag n).length:=by
 rw [List.length_flatten];unfold nP ag;rw [Bb,List.length_flatMap]
 congr 1
 rw [map_range n (λr:Str×List Str=>r.2.length) (λr=>(row n r).length) λk x hk=>by
  show(row n k).length=x.2.length;unfold row;rw [hk];rfl]
 refine Bf λr _=>?_;show((List.range (row n r).length).map _).length=_;rw [Aa,Cv]
theorem vi{n:Net}(h:∀ r,r < n.length->row n r≠[]):Dec (left n) (ends n) (nP n):=by
 refine⟨λl hl=>?_,?_,jt n⟩
 ·obtain⟨r,hr,rfl⟩:=Aj.mp hl;have hr:=Bm.mp hr;have h0:0 < (row n r).length:=Cj.mpr<|h r hr;have p:=Qo (f:=left n) (g:=λi=>(r,i % (row n r).length)) (row n r).length λi hi=>by
   show((r,(i % (row n r).length+1) % (row n r).length):End)=_;rw [Nat.mod_add_mod]
  have e:((r,0 % (row n r).length):End)=(r,(row n r).length % (row n r).length):=by rw [Dm,Nat.zero_mod]
  refine⟨(r,0 % (row n r).length),Aj.mpr ⟨0,Bm.mpr h0,rfl⟩,?_⟩;have p:cw (left n) _ ((r,0 % (row n r).length):End) ((r,(row n r).length % (row n r).length):End):=p;rw [<- e] at p;exact p
 ·refine(kP (jt n) (λe he=>?_) ?_).symm
  ·obtain⟨z,hz⟩:=af.mp he;have h1:=cE hz;have h2:=eQ hz;exact Ck.mpr ⟨_,Aj.mpr ⟨e.1,Bm.mpr h1,rfl⟩,Aj.mpr ⟨e.2,Bm.mpr h2,EY rfl (Bw h2)⟩⟩
  ·rw [sum_rows,ik];exact Ao _
noncomputable def pin(n:Net)(e:End):End:=if h:∃ x∈ends (aD n),pf n x=e then h.choose else(0,0)
section
variable{n:Net}
theorem rR(T:aj n){e:End}(h:e∈ends n):pin n e∈ends (aD n)/\pf n (pin n e)=e:=by
 have q:∃ x∈ends (aD n),pf n x=e:=vg T h;unfold pin;rw [dif_pos q];exact q.choose_spec
theorem q5i(T:aj n)(F:Full n)(P:Pl n)(hE:ends n≠[])(hr:∀ r,r < n.length->row n r≠[]):Pl (aD n):=by
 have T':=g6 T;have hl:(ag<|aD n).length=(ag n).length:=(rQ T).length_eq;have ln:(aD n).length=(bd n).length:=by unfold aD;rw [HI]
 have lr:(nP n).length=n.length:=by unfold nP;rw [Aa,Cv]
 have eu:=DF T F P;refine .inr ⟨(nP n).map<|List.map<|pin n,(vi hr).carry (f':=step<|aD n) (λx hx=>?_) ?_<|jt _,?_⟩
 ·obtain⟨p1,p2⟩:=rR T hx;obtain⟨q1,q2⟩:=rR T<|A9 hx;refine vf T (kI T' p1) q1 ?_;rw [wW T' p1,vh T p1,p2,q2]
 ·refine kP (HG (jt n) λa ha b hb e=>?_) (λx hx=>?_) ?_
  ·rw [<- (rR T ha).2,<- (rR T hb).2,e]
  ·obtain⟨e,he,rfl⟩:=Aj.mp hx;exact(rR T he).1
  ·rw [Aa,ik,ik,hl];exact Ao _
 ·rw [Aa,lr,ln,hl];omega
theorem k7e(T:aj n)(hf:HF n)(hN:(HH n).Nodup)(h0:0 < n.length){s:Str->Bool}(h:cG (aD n) s){ss:List Str}(hs:∀ z,z∈ss↔z∈ag n/\s z=true):∃ sd,jZ n ss sd:=by
 obtain⟨Z,hz,hm⟩:=xn<|ag n;have nz:=DL hz;refine k1o T hf.1 hN h0 nz hm (λz hz=>((hs z).mp hz).1) λt ht=>?_;rw [<- (k6x T hf nz hm).ort t s ht h];refine k4d (λ_ _=>rfl) λz hz=>?_;have fW:=(hm z).mp hz;cases k:s z
 ·exact BW λq=>by rw [((hs z).mp q).2] at k;cases k
 ·exact BR<|(hs z).mpr ⟨fW,k⟩
theorem q5u(T:aj n)(hf:HF n)(hN:(HH n).Nodup)(h0:0 < n.length):RS (aD n):=λs h=>by
 have T':=g6 T;obtain⟨ss,h1,h2⟩:=xn<|(ag n).filter s;have hs:∀ z,z∈ss↔z∈ag n/\s z=true:=λz=>by rw [h2,Au]
 obtain⟨sd,hsd⟩:=k7e T hf hN h0 h hs;refine⟨λx=>decide (ao n (pf n x).1∈sd),λx hx=>?_,λx z hz=>?_⟩
 ·rw [wW T' hx,vh T hx];rfl
 ·have hx:=af.mpr ⟨z,hz⟩;have tX:=hz;rw [pZ T hx] at hz;rw [p8 T hx];have c:=DM T (ps:=sd) hz;rw [<- hsd.cut z,hs z] at c;have fW:=eX hz;have c2:s z=true↔(decide (ao n (pf n x).1∈sd) != decide (ao n (other n<|pf n x).1∈sd))=true:=⟨λq=>c.mp ⟨fW,q⟩,λq=>(c.mpr q).2⟩;exact Eu.mpr c2
theorem q6w(T:aj n)(F:Full n)(hf:HF n)(hN:(HH n).Nodup)(h0:0 < n.length)(hE:ends n≠[])(hr:∀ r,r < n.length->row n r≠[]):HF (aD n):=⟨Qm T hN hf.1 hE,q5i T F hf.2.1 hE hr,q5u T hf hN h0⟩
end
end Nt
namespace Nt
open PySem L2 Dt
def bS(n m:Net):Prop:=m.map (·.2)=n.map (·.2)
section
variable{n m:Net}
theorem bS.len(h:bS n m):m.length=n.length:=by
 have:=BZ List.length h;rw [Aa,Aa] at this;exact this
theorem bS.row(h:bS n m)(r:Nat):row m r=row n r:=by
 have:=BZ (λl:List (List Str)=>l[r]?) h;have this:(m.map (·.2))[r]?=(n.map (·.2))[r]?:=this;rw [Ag,Ag] at this;unfold Nt.row;rw [this]
theorem Qp(n:Net):ag n=(n.map (·.2)).flatten:=by
 unfold ag;rw [List.flatMap_def]
theorem bS.ag(h:bS n m):ag m=ag n:=by
 rw [Qp,Qp,h]
theorem bS.twice(h:bS n m)(T:aj n):aj m:=λz hz=>by
 rw [h.ag] at hz ⊢;exact T z hz
theorem bS.p9(h:bS n m)(hN:(n.map (·.1)).Nodup)(hg:bu n):bu m:=λP ⟨a,ha,pa⟩ hc b hb=>by
 have hl:=h.len;have iS:∀ k (hk:k < n.length),rn n n[k].1=k:=λk hk=>by
  have:=Hs hN hk;rw [b8 hk] at this;exact this
 obtain⟨i,hi,rfl⟩:=Ba.mp ha;obtain⟨j,hj,rfl⟩:=Ba.mp hb;have all:=hg (λp=>P<|ao m<|rn n p) ⟨n[i],Ay (by omega),by
  show P (ao m<|rn n n[i].1);rw [iS i (by omega),b8 hi];exact pa⟩ (λr hr s hs t t1 t2 pr=>by
  obtain⟨x,hx,rfl⟩:=Ba.mp hr;obtain⟨y,hy,rfl⟩:=Ba.mp hs;have pr:P (ao m<|rn n n[x].1):=pr;show P (ao m<|rn n n[y].1);rw [iS x hx,b8<|by omega] at pr;rw [iS y hy,b8<|by omega];rw [<- cV hx,<- h.row] at t1;rw [<- cV hy,<- h.row] at t2;rw [cV<|by omega] at t1 t2;exact hc _ (Ay _) _ (Ay _) t t1 t2 pr) n[j]<|Ay<|by omega
 have all:P (ao m<|rn n n[j].1):=all;rw [iS j (by omega),b8 hj] at all;exact all
end
section
variable{n:Net}
def iu(k:Nat):Str:=Str.ofString "q"++Str.ofString (toString (k:Int))
noncomputable def aC(n:Net):Net:=(bd n).zipIdx.map λx=>(iu x.2,x.1.map<|bg n)
theorem l9(n:Net):bS (aD n) (aC n):=by
 unfold bS aC aD gM;rw [Bb,Bb];rfl
theorem Qq{f:Nat->Str}(inj:∀ i:Fin 60,∀ j:Fin 60,f i.1=f j.1->i.1=j.1){k:Nat}(h:k<=60):((List.range k).map f).Nodup:=by
 rw [Bv,Fd];refine(Bv.mp Fj).imp_of_mem λ{a b} ha hb a7 k=>a7 ?_;exact inj ⟨a,by have:=Bm.mp ha;omega⟩ ⟨b,by have:=Bm.mp hb;omega⟩ k
theorem Qr(h:(bd n).length<=60):((aC n).map (·.1)).Nodup:=by
 have e:(aC n).map (·.1)=(List.range (bd n).length).map iu:=by
  unfold aC;rw [Bb,List.range_eq_range',<- He 0,Bb];rfl
 rw [e];exact Qq (by decide +kernel) h
theorem Qs(h:(bd n).length<=60):((aD n).map (·.1)).Nodup:=by
 have e:(aD n).map (·.1)=(List.range (bd n).length).map nO:=by
  unfold aD gM;rw [Bb,List.range_eq_range',<- He 0,Bb];rfl
 rw [e];exact Qq (by decide +kernel) h
end
end Nt
namespace Nt
open PySem L2 Classical
section
variable{n:Net}
theorem HP(T:aj n){e:End}(h:e∈ends (aD n)):∀ k,it (step<|aD n) k e∈ends (aD n)/\pf n (it (step<|aD n) k e)=it (left n) k (pf n e)
 | 0=>⟨h,rfl⟩
 | k+1=>by
  obtain⟨a,b⟩:=HP T h k;refine⟨kI (g6 T) a,?_⟩;show pf n (step (aD n)<|it (step<|aD n) k e)=left n (it (left n) k<|pf n e);rw [wW (g6 T) a,vh T a,b]
theorem Qt{c:End}(h:c∈ends n):∀ k,it (left n) k c=(c.1,(c.2+k) % (row n c.1).length)
 | 0=>by
  obtain⟨z,hz⟩:=af.mp h;show c=_;rw [Nat.add_zero,Bw<|eQ hz]
 | k+1=>by
  show left n (it (left n) k c)=_;rw [Qt h k];show((c.1,((c.2+k) % (row n c.1).length+1) % (row n c.1).length):End)=_;rw [Nat.mod_add_mod];rfl
end
end Nt
namespace Nt
open PySem L2
section
variable{α:Type}
def CE{α:Type}(Ls Ms:List<|List α):Prop:=∀(β:Type) (c:List α->β),(∀ p q,c (p++q)=c (q++p))->(Ls.map c).Perm (Ms.map c)
theorem CE.refl(Ls:List<|List α):CE Ls Ls:=λ_ _ _=>List.Perm.refl _
theorem CE.trans{a b c:List (List α)}(h:CE a b)(g:CE b c):CE a c:=λβ k hk=>(h β k hk).trans<|g β k hk
theorem CE.symm{a b:List (List α)}(h:CE a b):CE b a:=λβ k hk=>(h β k hk).symm
theorem CE.perm{a b:List (List α)}(h:a.Perm b):CE a b:=λ_ c _=>h.map c
theorem CE.vj(p q:List α)(Ms:List<|List α):CE ((p++q) :: Ms) ((q++p) :: Ms):=λ_ c hc=>by
 rw [Bd,Bd,hc p q]
theorem CE.cons{a b:List (List α)}(l:List α)(h:CE a b):CE (l :: a) (l :: b):=λβ c hc=>by
 rw [Bd,Bd];exact(h β c hc).cons _
theorem CE.map{γ:Type}{a b:List (List α)}(h:CE a b)(g:α->γ):CE (a.map<|List.map g) (b.map<|List.map g):=λβ c hc=>by
 have:=h β (λl=>c<|l.map g) λp q=>by rw [Al,Al];exact hc _ _
 rw [Bb,Bb];exact this
theorem Qu{f:α->α}:∀{l m:List α} {a b c:α},cw f l a b->cw f m a c->l.length=m.length->l=m
 | [],[],_,_,_,_,_,_=>rfl
 | [],_ :: _,_,_,_,_,_,h=>by cases h
 | _ :: _,[],_,_,_,_,_,h=>by cases h
 | x :: l,y :: m,a,b,c,h,g,e=>by
  obtain⟨rfl,h⟩:=h;obtain⟨rfl,g⟩:=g;rw [Qu h g<|Nat.succ.inj e]
theorem Dec.vk{f:α->α}{D:List α}{Ls:List (List α)}(d:Dec f D Ls){c:α}(hc:c∈D):∃ l Ms,CE Ls ((c :: l) :: Ms)/\Dec f D ((c :: l) :: Ms):=by
 obtain⟨l,hl,t6⟩:=Ck.mp<|d.all.mem_iff.mpr hc;obtain⟨A,B,rfl⟩:=Cy hl;obtain⟨p,q,rfl⟩:=Cy t6;obtain⟨a,ha,h⟩:=d.b5 _ hl;obtain⟨m,h1,h2⟩:=aG.mp h;have e:c=m:=h2.1;subst e;refine⟨q++p,A++B,(CE.perm List.perm_middle).trans<|CE.vj p (c :: q) _,λk hk=>?_,?_,d.nd⟩
 ·rcases Am.mp hk with rfl | hk
  ·exact⟨c,Ac,aG (l:=c :: q).mpr ⟨a,h2,h1⟩⟩
  ·refine d.b5 k ?_
   rcases Ap.mp hk with q | q
   ·exact As _ q
   ·exact Ar _<|Af _ q
 ·refine List.Perm.trans ?_ d.all;simp only [Bq,Fg,Ek];have e1:(c :: (q++p)).Perm (p++c :: q):=by
   rw [<- Ek];exact Cm
  refine((e1.append_right _).trans ?_);rw [<- At,<- At];exact(Cm).append_right _
theorem Dec.ce [DecidableEq α] {f:α->α}:∀{Ls Ms:List (List α)} {D:List α},Dec f D Ls->Dec f D Ms->CE Ls Ms
 | [],Ms,D,d,d'=>by
  have e:D=[]:=QK d.all.symm;subst e;cases Ms with
  | nil=>exact CE.refl _
  | cons m Ms=>
   obtain⟨a,ha,_⟩:=d'.b5 m Ac;have:=d'.sub Ac ha;cases this
 | l :: Ls,Ms,D,d,d'=>by
  obtain⟨c,hc,p⟩:=d.b5 l Ac;obtain⟨l',t8,hL,lK⟩:=d'.vk<|d.sub Ac hc;obtain⟨c',mC,p'⟩:=lK.b5 _ Ac;have e:c=c':=p'.1;subst e;have s1:∀ x∈l,x∈c :: l':=λx hx=>by
   obtain⟨k,rfl⟩:=kQ p hx;exact rj (λy hy=>eg p' mC hy) mC k
  have s2:∀ x∈c :: l',x∈l:=λx hx=>by
   obtain⟨k,rfl⟩:=kQ p' hx;exact rj (λy hy=>eg p hc hy) hc k
  have pm:l.Perm (c :: l'):=kP d.apart.1 s1<|aI lK.apart.1 s2;have el:l=c :: l':=Qu p p' pm.length_eq;have q:Ls.flatten.Perm t8.flatten:=by
   have h1:=d.all.trans lK.all.symm;rw [Bq,Bq] at h1;exact(PL l).mp<|h1.trans<|pm.symm.append_right _
  have nd:=d.all.nodup_iff.mpr d.nd;rw [Bq,Ce] at nd;have:=Dec.ce (Ls:=Ls) (Ms:=t8) (D:=Ls.flatten) ⟨λk hk=>d.b5 k<|Af _ hk,List.Perm.refl _,nd.2.1⟩ ⟨λk hk=>lK.b5 k<|Af _ hk,q.symm,nd.2.1⟩;rw [el];exact(this.cons _).trans hL.symm
theorem Dec.ls{f:α->α}{D:List α}{Ls Ms:List (List α)}(d:Dec f D Ls)(h:Ls.Perm Ms):Dec f D Ms:=⟨λl hl=>d.b5 l<|h.mem_iff.mpr hl,(h.flatten).symm.trans d.all,d.nd⟩
theorem Dec.vj{f:α->α}{D:List α}{p q:List α}{Ms:List (List α)}(d:Dec f D<|(p++q) :: Ms):Dec f D ((q++p) :: Ms):=by
 refine⟨λl hl=>?_,?_,d.nd⟩
 ·rcases Am.mp hl with rfl | hl
  ·obtain⟨a,ha,h⟩:=d.b5 _ Ac;obtain⟨m,h1,h2⟩:=aG.mp h;refine⟨m,?_,aG.mpr ⟨a,h2,h1⟩⟩;cases q with
   | nil=>have:m=a:=h2;rw [this];exact Ar _<|by rw [Bc] at ha;exact ha
   | cons x q=>rw [<- h2.1];exact As _ Ac
  ·exact d.b5 l<|Af _ hl
 ·refine List.Perm.trans ?_ d.all;rw [Bq,Bq];exact List.perm_append_comm.append_right _
theorem Dec.congr{f g:α->α}{D:List α}{Ls:List (List α)}(d:Dec f D Ls)(h:∀ x∈D,g x=f x):Dec g D Ls:=by
 have:=d.carry (f':=g) (g:=id) (D':=D) (λx hx=>h x hx) (by rw [Hh]) d.nd;rw [Bf (g:=id) λl _=>Hh l,Hh] at this;exact this
section
variable [DecidableEq α] {e e':α}
def gd(e e' x:α):Bool:=decide (x≠e) && decide (x≠e')
theorem bN{x:α}:gd e e' x=true↔x≠e/\x≠e':=by unfold gd;rw [Cf,DR,DR]
theorem bO{x:α}:gd e e' x=false↔x=e\/x=e':=by
 rw [<- QL,bN];exact⟨λh=>BX λk=>h ⟨λq=>k<|.inl q,λq=>k<|.inr q⟩,λh k=>h.elim k.1 k.2⟩
def nx(e e':α)(f:α->α)(y:α):α:=if gd e e' y then y else if gd e e' (f y) then f y else f (f y)
def sk(e e':α)(f:α->α)(x:α):α:=nx e e' f<|f x
theorem Qv{f:α->α}:∀{l:List α} {a b:α},(∀ x∈l,gd e e' x=false->nx e e' f x=nx e e' f (f x))->cw f l a b->cw (sk e e' f) (l.filter<|gd e e') (nx e e' f a) (nx e e' f b)
 | [],_,_,_,h=>BZ _ h
 | x :: l,a,b,hb,h=>by
  obtain⟨rfl,h⟩:=h;have ih:=Qv (λy hy=>hb y<|Af _ hy) h;cases g:gd e e' x with
  | true=>
   rw [RG g];refine⟨by unfold nx;rw [BL g],?_⟩;have:sk e e' f x=nx e e' f (f x):=rfl;rw [this];exact ih
  | false=>
   rw [Gg (by rw [g];exact Aq),hb x Ac g];exact ih
theorem Dec.HQ{f:α->α}{D:List α}{Ls:List (List α)}(d:Dec f D Ls)(ne:∀ l∈Ls,l.filter (gd e e')≠[]):Dec (sk e e' f) (D.filter<|gd e e') (Ls.map<|List.filter<|gd e e'):=by
 refine⟨λl hl=>?_,?_,d.nd.filter _⟩
 ·obtain⟨l,fk,rfl⟩:=Aj.mp hl;clear hl;obtain⟨a,ha,p⟩:=d.b5 l fk;have pf:cw (sk e e' f) (l.filter<|gd e e') (nx e e' f a) (nx e e' f a):=by
   refine Qv (λx hx hg=>?_) p;have cl:∀ y∈l,f y∈l:=λy hy=>eg p ha hy;show(if gd e e' x then x else if gd e e' (f x) then f x else f (f x))=(if gd e e' (f x) then f x else if gd e e' (f<|f x) then f (f x) else f (f<|f x));rw [hg,BK Aq];cases h1:gd e e' (f x) with
   | true=>rfl
   | false=>
    rw [BK Aq,BK Aq];cases h2:gd e e' (f<|f x) with
    | true=>rfl
    | false=>
     exfalso
     obtain⟨y,hy⟩:=Dl _<|ne l fk;have vo:=Au.mp hy;have two:∀ k,it f k x=x\/it f k x=f x:=by
      intro k
      induction k with
      | zero=>exact .inl rfl
      | succ k ih=>
       show f (it f k x)=x\/f (it f k x)=f x
       rcases ih with q | q
       ·rw [q];exact .inr rfl
       ·rw [q]
        by_cases c:f x=x
        ·rw [c,c];exact .inl rfl
        ·rcases bO.mp hg with a1 | a1 <;> rcases bO.mp h1 with a2 | a2 <;> rcases bO.mp h2 with a3 | a3
         ·exact absurd (a2.trans a1.symm) c
         ·exact absurd (a2.trans a1.symm) c
         ·exact .inl<|a3.trans a1.symm
         ·exact .inr<|a3.trans a2.symm
         ·exact .inr<|a3.trans a2.symm
         ·exact .inl<|a3.trans a1.symm
         ·exact absurd (a2.trans a1.symm) c
         ·exact absurd (a2.trans a1.symm) c
     have tox:∃ k,it f k x=y:=by
      obtain⟨p0,q0,e0⟩:=Cy hx;have p2:=p;have my:=vo.1;rw [e0] at p2 my;obtain⟨m,r1,r2⟩:=aG.mp p2;have em:x=m:=r2.1;subst em;refine kQ (aG (l:=x :: q0).mpr ⟨a,r2,r1⟩) ?_
      rcases Ap.mp my with q | q
      ·exact Ar _ q
      ·exact As _ q
     obtain⟨k,rfl⟩:=tox
     rcases two k with q | q
     ·rw [q,hg] at vo;cases vo.2
     ·rw [q,h1] at vo;cases vo.2
  refine⟨nx e e' f a,?_,pf⟩;cases h:l.filter (gd e e') with
  | nil=>exact absurd h<|ne l fk
  | cons x r=>rw [h] at pf;rw [<- pf.1];exact Ac
 ·have:(Ls.map<|List.filter<|gd e e').flatten=Ls.flatten.filter (gd e e'):=by
   rw [List.filter_flatten]
  rw [this];exact d.all.filter _
end
end
section
variable{α:Type} [DecidableEq α] {e e':α}
def jf(e e':α)(f:α->α)(x:α):α:=if f x=e then(if f e'=e' then f e else f e') else if f x=e' then(if f e=e then f e' else f e) else f x
theorem q7i{f g:α->α}{l:List α}{a b:α}(h:∀ x∈l,g x=f x)(p:cw f l a b):cw g l a b:=by
 have:=wZ (f':=g) (g:=id) (λx hx=>h x hx) p;rw [Hh] at this;exact this
theorem yh{f g:α->α}{c h:α}:∀{l:List α} {a:α},l≠[]->(∀ y∈l,f y=c->g y=h)->(∀ y∈l,f y≠c->g y=f y)->c∉l->cw f l a c->cw g l a h
 | [],_,ne,_,_,_,_=>absurd rfl ne
 | x :: l,a,_,h1,h2,hc,p=>by
  obtain⟨rfl,p'⟩:=p;have:=t5 (f:=f) (f':=g) (g:=id) (c:=c) (h:=h) (l:=l) (x:=x) h1 h2 (λq=>hc<|Af _ q) ⟨rfl,p'⟩;rw [Hh] at this;exact this
theorem Dec.join{f:α->α}{D A B:List α}{Ms:List (List α)}(d:Dec f D<|(e :: A) :: (e' :: B) :: Ms)(a7:A++B≠[]):Dec (jf e e' f) (D.filter<|gd e e') ((A++B) :: Ms):=by
 have nd:=d.all.nodup_iff.mpr d.nd;rw [Bq,Bq,Ce] at nd;obtain⟨n1,n2,n3⟩:=nd;rw [Ce] at n2;obtain⟨n2,n4,n5⟩:=n2;have eA:e∉A:=(Bu.mp n1).1;have eB:e'∉B:=(Bu.mp n2).1;have x1:∀ x∈e :: A,∀ y∈e' :: B,x≠y:=λx hx y hy=>n3 x hx y<|As _ hy;have x2:∀ x∈e :: A,∀ y∈Ms.flatten,x≠y:=λx hx y hy=>n3 x hx y<|Ar _ hy;obtain⟨a,ha,pa⟩:=d.b5 _ Ac;obtain rfl:e=a:=pa.1;obtain⟨b,hb,pb⟩:=d.b5 _<|Af _ Ac;obtain rfl:e'=b:=pb.1;have ca:∀ x∈e :: A,f x∈e :: A:=λx hx=>eg pa ha hx;have cb:∀ x∈e' :: B,f x∈e' :: B:=λx hx=>eg pb hb hx;have qa:cw f A (f e) e:=pa.2;have qb:cw f B (f e') e':=pb.2;have rO:A≠[]->f e∈A:=λh=>by
  cases A with
  | nil=>exact absurd rfl h
  | cons x r=>rw [<- qa.1];exact Ac
 have Qw:B≠[]->f e'∈B:=λh=>by
  cases B with
  | nil=>exact absurd rfl h
  | cons x r=>rw [<- qb.1];exact Ac
 have Qx:∀ x∈A,f x=e->jf e e' f x=if f e'=e' then f e else f e':=λx _ q=>by unfold jf;rw [BL q]
 have Qy:∀ x∈A,f x≠e->jf e e' f x=f x:=λx hx q=>by
  unfold jf;rw [BK q,BK<|x1 _ (ca x<|Af _ hx) _ Ac]
 have Qz:∀ x∈B,f x=e'->jf e e' f x=if f e=e then f e' else f e:=λx hx q=>by
  unfold jf;rw [BK λk=>x1 e Ac (f x) (cb x<|Af _ hx) k.symm,BL q]
 have QA:∀ x∈B,f x≠e'->jf e e' f x=f x:=λx hx q=>by
  unfold jf;rw [BK λk=>x1 e Ac (f x) (cb x<|Af _ hx) k.symm,BK q]
 have A0:A=[]->f e=e:=λh=>by subst h;exact qa
 have B0:B=[]->f e'=e':=λh=>by subst h;exact qb
 have A1:A≠[]->f e≠e:=λh k=>eA (by have:=rO h;rw [k] at this;exact this);have B1:B≠[]->f e'≠e':=λh k=>eB (by have:=Qw h;rw [k] at this;exact this);refine⟨λl hl=>?_,?_,d.nd.filter _⟩
 ·rcases Am.mp hl with rfl | hl
  ·by_cases hA:A=[]
   ·subst hA;have hB:B≠[]:=a7;exact⟨f e',Qw hB,yh (h:=f e') hB (λy hy q=>by rw [Qz y hy q,BL<|A0 rfl]) QA eB qb⟩
   ·by_cases hB:B=[]
    ·subst hB;rw [Bc];exact⟨f e,rO hA,yh (h:=f e) hA (λy hy q=>by rw [Qx y hy q,BL<|B0 rfl]) Qy eA qa⟩
    ·refine⟨f e,As _<|rO hA,aG.mpr ⟨f e',yh hA (λy hy q=>by rw [Qx y hy q,BK<|B1 hB]) Qy eA qa,yh hB (λy hy q=>by rw [Qz y hy q,BK<|A1 hA]) QA eB qb⟩⟩
  ·obtain⟨c,hc,pc⟩:=d.b5 l<|Af _<|Af _ hl;refine⟨c,hc,q7i (λx hx=>?_) pc⟩;have m:=Ck.mpr ⟨l,hl,eg pc hc hx⟩;unfold jf;rw [BK λk=>x2 e Ac _ m k.symm,BK λk=>n5 e' Ac _ m k.symm]
 ·have h:=d.all.filter<|gd e e';rw [Bq,Bq,Cw,Cw,Gg (by rw [bO.mpr<|.inl rfl];exact Aq),Gg<|by rw [bO.mpr<|.inr rfl];exact Aq] at h;rw [Bq,At];refine List.Perm.trans ?_ h;have fA:A.filter (gd e e')=A:=Fh.mpr λx hx=>bN.mpr ⟨λk=>eA (by rw [<- k];exact hx),x1 x (Af _ hx) e' Ac⟩;have fB:B.filter (gd e e')=B:=Fh.mpr λx hx=>bN.mpr ⟨λk=>x1 e Ac x (Af _ hx) k.symm,λk=>eB<|by rw [<- k];exact hx⟩;have fM:Ms.flatten.filter (gd e e')=Ms.flatten:=Fh.mpr λx hx=>bN.mpr ⟨λk=>x2 e Ac x hx k.symm,λk=>n5 e' Ac x hx k.symm⟩;rw [fA,fB,fM]
end
structure Dp(n m:Net)(s:End->End)(D:List End)(RD:List<|List End):Prop where
 rows:m.map (·.2)=RD.map (List.map<|bg n)
 dec:Dec s D RD
 sub:∀ x∈D,x∈ends n
 aD:∀ x∈D,other n x∈D
def gD(RD:List<|List End)(x:End):End:=((RD[x.1]?.getD [])[x.2]?).getD (0,0)
section
variable{n m:Net}{s:End->End}{D:List End}{RD:List (List End)}
theorem Dp.row(d:Dp n m s D RD)(r:Nat):row m r=(RD[r]?.getD []).map (bg n):=by
 have h:=BZ (λl=>(l[r]?).getD []) d.rows;simp only [Ag] at h;unfold Nt.row;rw [h];cases RD[r]? <;> rfl
theorem Dp.at(d:Dp n m s D RD){x:End}(h:x∈ends m):∃ l,RD[x.1]?=some l/\l[x.2]?=some (gD RD x):=by
 obtain⟨z,hz⟩:=af.mp h;unfold ax at hz;rw [d.row,Ag,Az] at hz;obtain⟨e,he,_⟩:=hz;cases hl:RD[x.1]? with
 | none=>rw [hl] at he;cases he
 | some l=>
  rw [hl] at he;refine⟨l,rfl,?_⟩;unfold gD;rw [hl];have he':l[x.2]?=some e:=he;show l[x.2]?=some ((l[x.2]?).getD (0,0));rw [he'];rfl
theorem Dp.of(d:Dp n m s D RD){i k:Nat}{l:List End}{e:End}(hi:RD[i]?=some l)(hk:l[k]?=some e):(i,k)∈ends m/\gD RD (i,k)=e:=by
 refine⟨af.mpr ⟨bg n e,?_⟩,?_⟩
 ·unfold ax;show(Nt.row m i)[k]?=_;rw [d.row,hi];show(l.map<|bg n)[k]?=_;rw [Ag,hk];rfl
 ·unfold gD;show(((RD[i]?).getD [])[k]?).getD (0,0)=e;rw [hi];show(l[k]?).getD (0,0)=e;rw [hk];rfl
theorem Dp.mem(d:Dp n m s D RD){x:End}(h:x∈ends m):gD RD x∈D:=by
 obtain⟨l,h1,h2⟩:=d.at h;exact d.dec.sub (Ak h1)<|Ak h2
theorem Dp.lN(d:Dp n m s D RD){e:End}(h:e∈D):∃ x∈ends m,gD RD x=e:=by
 obtain⟨l,hl,he⟩:=Ck.mp<|d.dec.all.mem_iff.mpr h;obtain⟨i,hi⟩:=An hl;obtain⟨k,hk⟩:=An he;exact⟨(i,k),(d.of hi hk).1,(d.of hi hk).2⟩
theorem Dp.inj(d:Dp n m s D RD){x y:End}(hx:x∈ends m)(hy:y∈ends m)(h:gD RD x=gD RD y):x=y:=by
 obtain⟨l,a1,a2⟩:=d.at hx;obtain⟨k,b1,b2⟩:=d.at hy;rw [<- h] at b2;have:=vd (d.dec.all.nodup_iff.mpr d.dec.nd) a1 a2 b1 b2;exact EY this.1 this.2
theorem Dp.cF(d:Dp n m s D RD){x:End}(h:x∈ends m):ax m x=ax n (gD RD x):=by
 obtain⟨l,a1,a2⟩:=d.at h;obtain⟨z,hz⟩:=af.mp<|d.sub _<|d.mem h;unfold ax;rw [d.row,a1];show(l.map<|bg n)[x.2]?=_;rw [Ag,a2];have:(Nt.row n (gD RD x).1)[(gD RD x).2]?=some z:=hz;rw [this,<- gT hz];rfl
theorem Dp.bg(d:Dp n m s D RD){x:End}(h:x∈ends m):Nt.bg m x=Nt.bg n (gD RD x):=by
 unfold Nt.bg;rw [d.cF h]
theorem Dp.other(T:aj n)(T':aj m)(d:Dp n m s D RD){x:End}(h:x∈ends m):gD RD (other m x)=Nt.other n (gD RD x):=by
 obtain⟨z,hz⟩:=af.mp h;have o:=cL T' hz;have hg:ax n (gD RD x)=some z:=by rw [<- d.cF h];exact hz
 have ho:ax n (gD RD<|Nt.other m x)=some z:=by rw [<- d.cF<|af.mpr ⟨z,o.1⟩];exact o.1
 rcases (dJ T hg).mp ho with q | q
 ·exact absurd (d.inj (af.mpr ⟨z,o.1⟩) h q) o.2.2
 ·exact q
theorem QE{α:Type}{f:α->α}:∀{l:List α} {a b x:α} {i:Nat},cw f l a b->l[i]?=some x->(∀ y,l[i+1]?=some y->f x=y)/\(i+1=l.length->f x=b)
 | y :: l,a,b,x,0,h,hx=>by
  cases hx;refine⟨λz hz=>?_,λhl=>?_⟩
  ·cases l with
   | nil=>cases hz
   | cons w l=>cases hz;exact h.2.1.symm
  ·cases l with
   | nil=>exact h.2
   | cons w l=>simp at hl
 | y :: l,a,b,x,i+1,h,hx=>by
  have:=QE (i:=i) h.2 (by simpa using hx);exact⟨λz hz=>this.1 z (by simpa using hz),λhl=>this.2<|by simpa using hl⟩
 | [],_,_,_,_,_,hx=>by cases hx
theorem Dp.left(d:Dp n m s D RD){x:End}(h:x∈ends m):gD RD (left m x)=s (gD RD x):=by
 obtain⟨l,a1,a2⟩:=d.at h;obtain⟨a,ha,p⟩:=d.dec.b5 l<|Ak a1;have hl:=(Ad.mp a2).1;have rl:(Nt.row m x.1).length=l.length:=by rw [d.row,a1];exact Aa _
 have nx:=QE p a2;unfold Nt.left;rw [rl]
 by_cases c:x.2+1 < l.length
 ·rw [Bw c,(d.of a1<|Ab c).2];exact(nx.1 _<|Ab c).symm
 ·have e:x.2+1=l.length:=by omega
  rw [e,Dm];rw [nx.2 e];cases l with
  | nil=>cases ha
  | cons y l=>
   rw [(d.of (k:=0) a1 rfl).2];exact p.1
theorem Dp.vp(T:aj n)(T':aj m)(d:Dp n m s D RD)(h0:ends m≠[]):Dec (λx=>s<|Nt.other n x) D ((bd m).map<|List.map<|gD RD):=by
 have nd:((ends m).map<|gD RD).Nodup:=HG (jt m) λa ha b hb q=>d.inj ha hb q;refine(rk T' h0).carry (λx hx=>?_) (kP nd (λz hz=>?_)<|aI d.dec.nd λz hz=>?_) d.dec.nd
 ·show s (Nt.other n<|gD RD x)=gD RD (step m x);unfold step;rw [d.left (c9 T' hx),d.other T T' hx]
 ·obtain⟨x,hx,rfl⟩:=Aj.mp hz;exact d.mem hx
 ·obtain⟨x,hx,rfl⟩:=d.lN hz;exact Aj.mpr ⟨x,hx,rfl⟩
theorem Dp.ce(T:aj n)(T':aj m)(d:Dp n m s D RD)(h0:ends m≠[]){LL:List (List End)}(dL:Dec (λx=>s<|Nt.other n x) D LL):CE ((bd m).map<|List.map<|Nt.bg m) (LL.map<|List.map<|Nt.bg n):=by
 have h:=((d.vp T T' h0).ce dL).map<|Nt.bg n;have e:((bd m).map<|List.map<|gD RD).map (List.map<|Nt.bg n)=(bd m).map (List.map<|Nt.bg m):=by
  rw [Bb];refine Bf λw hw=>?_;show(w.map<|gD RD).map (Nt.bg n)=_;rw [Bb];refine Bf λx hx=>?_;exact(d.bg<|(MY T' w hw).2 x hx).symm
 rw [e] at h;exact h
end
section
variable{n m0:Net}{f:End->End}{RD:List (List End)}{z:Str}{e:End}
theorem HR(T:aj n)(he:ax n e=some z){x:End}(hx:x∈ends n):gd e (other n e) x=decide (bg n x≠z):=by
 obtain⟨y,hy⟩:=af.mp hx;rw [gT hy]
 by_cases c:y=z
 ·subst c;rw [BW λk=>k rfl];exact bO.mpr<|(dJ T he).mp hy
 ·rw [BR c];refine bN.mpr ⟨λk=>c ?_,λk=>c ?_⟩
  ·subst k;rw [he] at hy;exact(Option.some.inj hy).symm
  ·subst k;rw [(cL T he).1] at hy;exact(Option.some.inj hy).symm
theorem QH(T:aj n)(he:ax n e=some z):∀ x∈(ends n).filter (gd e<|other n e),other n x∈(ends n).filter (gd e<|other n e):=λx hx=>by
 obtain⟨h1,h2⟩:=Au.mp hx;refine Au.mpr ⟨c9 T h1,?_⟩;obtain⟨y,hy⟩:=af.mp h1;rw [HR T he<|c9 T h1,gT (cL T hy).1,<- gT hy,<- HR T he h1];exact h2
theorem k08(T:aj n)(he:ax n e=some z):∀ l:List End,(∀ x∈l,x∈ends n)->(l.map<|bg n).filter (λy=>decide (y≠z))=(l.filter<|gd e<|other n e).map (bg n):=λl hl=>by
 rw [List.filter_map]
 congr 1
 refine Gn λx hx=>?_;show decide (bg n x≠z)=_;rw [HR T he<|hl x hx]
theorem HU(T:aj n)(d:Dp n m0 f (ends n) RD)(he:ax n e=some z):(aq m0 z).map (·.2)=(RD.map<|List.filter<|gd e<|other n e).map (List.map<|bg n):=by
 have e1:(aq m0 z).map (·.2)=(m0.map (·.2)).map (List.filter λy=>decide (y≠z)):=by
  unfold aq;rw [Bb,Bb];rfl
 rw [e1,d.rows,Bb,Bb];refine Bf λl hl=>?_;exact k08 T he l λx hx=>d.sub x<|d.dec.sub hl hx
theorem QI(T:aj n)(d:Dp n m0 f (ends n) RD)(he:ax n e=some z)(a7:∀ r∈aq m0 z,r.2≠[]):Dp n (aq m0 z) (sk e (other n e) f) ((ends n).filter<|gd e<|other n e) (RD.map<|List.filter<|gd e<|other n e):=by
 refine⟨HU T d he,d.dec.HQ λl hl k=>?_,λx hx=>(Au.mp hx).1,QH T he⟩;have:l.filter (gd e<|other n e)∈RD.map (List.filter<|gd e<|other n e):=Aj.mpr ⟨l,hl,rfl⟩;have h2:(l.filter<|gd e<|other n e).map (bg n)∈(RD.map<|List.filter<|gd e<|other n e).map (List.map<|bg n):=Aj.mpr ⟨_,this,rfl⟩;rw [<- HU T d he] at h2;obtain⟨r,hr,er⟩:=Aj.mp h2;rw [k] at er;exact a7 r hr er
theorem QN{a b:List Str}(h:z∉a):aE (a++z :: b) z=a.length:=by
 induction a with
 | nil=>show(if z=z then 0 else _)=0;rw [BL rfl]
 | cons x a ih=>
  show(if x=z then 0 else aE (a++z :: b) z+1)=a.length+1;rw [BK λk=>h (by rw [k];exact Ac),ih λk=>h<|Af _ k]
theorem QO{a b:List Str}:(a++z :: b).drop (a.length+1)=b:=by
 rw [show a++z :: b=(a++[z])++b by simp,List.drop_left'<|by simp]
theorem QP{a b:List Str}:(a++z :: b).take a.length=a:=List.take_left' rfl
theorem k4m{N r0 r1:Nat}(h0:r0 < N)(h1:r1 < N)(ne:r0≠r1):(List.range N).Perm (r0 :: r1 :: (List.range N).filter λr=>decide (r≠r0) && decide (r≠r1)):=by
 refine(Fv Fj ?_).mpr λr=>?_
 ·refine Bu.mpr ⟨λk=>?_,Bu.mpr ⟨λk=>?_,List.nodup_range.filter _⟩⟩
  ·rcases Am.mp k with k | k
   ·exact ne k
   ·have:=(Au.mp k).2;simp at this
  ·have:=(Au.mp k).2;simp at this
 ·simp only [Am,Au,Bm,Cf,CN]
  constructor
  ·intro h
   by_cases a:r=r0
   ·exact .inl a
   ·by_cases b:r=r1
    ·exact .inr<|.inl b
    ·exact .inr<|.inr ⟨h,a,b⟩
  ·rintro (rfl | rfl | h)
   ·exact h0
   ·exact h1
   ·exact h.1
theorem k1k{N r0 r1:Nat}(h0:r0 < N)(ne:r0≠r1):((List.range N).filter λr=>decide (r≠r1)).Perm (r0 :: (List.range N).filter λr=>decide (r≠r0) && decide (r≠r1)):=by
 refine(Fv (List.nodup_range.filter _) ?_).mpr λr=>?_
 ·refine Bu.mpr ⟨λk=>?_,List.nodup_range.filter _⟩;have:=(Au.mp k).2;simp at this
 ·simp only [Am,Au,Bm,Cf,CN]
  constructor
  ·rintro ⟨h,b⟩
   by_cases a:r=r0
   ·exact .inl a
   ·exact .inr ⟨h,a,b⟩
  ·rintro (rfl | h)
   ·exact⟨h0,ne⟩
   ·exact⟨h.1,h.2.2⟩
theorem HV(d:Dp n m0 f (ends n) RD):RD.length=m0.length:=by
 have:=BZ List.length d.rows;rw [Aa,Aa] at this;exact this.symm
theorem QQ(T:aj n)(d:Dp n m0 f (ends n) RD){r0 r1:Nat}(h:bR m0 z=[r0,r1])(a7:eV (row m0 r0) (row m0 r1) z≠[]) :
  ∃ e HZ,ax n e=some z/\(∃ l∈RD,e∈l/\other n e∉l)/\Dp n (shr m0 z r0 r1) (jf e (other n e) f) ((ends n).filter<|gd e<|other n e) HZ:=by
 have tw:=pR h;have qd:r0≠r1:=Cg<|uY h;have len:=HV d;have l0:r0 < RD.length:=by have:=tw.l0;omega
 have l1:r1 < RD.length:=by have:=tw.l1;omega
 have g0:=Ab l0;have g1:=Ab l1;generalize RD[r0]=LA at g0;generalize RD[r1]=LB at g1;have mA:=Ak g0;have mB:=Ak g1;have rA:row m0 r0=LA.map (bg n):=by rw [d.row,g0];rfl
 have rB:row m0 r1=LB.map (bg n):=by rw [d.row,g1];rfl
 have zA:z∈LA.map (bg n):=by rw [<- rA];exact tw.m0
 have zB:z∈LB.map (bg n):=by rw [<- rB];exact tw.m1
 obtain⟨e,vq,Ia⟩:=Aj.mp zA;obtain⟨e',vt,qe⟩:=Aj.mp zB;have hE:=d.dec.sub mA vq;have fU:=d.dec.sub mB vt;have tz:ax n e=some z:=by obtain⟨y,hy⟩:=af.mp hE;rw [gT hy] at Ia;rw [hy,Ia]
 have tz':ax n e'=some z:=by obtain⟨y,hy⟩:=af.mp fU;rw [gT hy] at qe;rw [hy,qe]
 have vw:=d.dec.all.nodup_iff.mpr d.dec.nd;have apart:∀ x∈LA,x∉LB:=λx hx hy=>by
  obtain⟨i,hi⟩:=An hx;obtain⟨j,hj⟩:=An hy;exact qd (vd vw g0 hi g1 hj).1
 have eo:e'=other n e:=by
  rcases (dJ T tz).mp tz' with q | q
  ·subst q;exact absurd vt<|apart _ vq
  ·exact q
 subst eo;obtain⟨P1,P2,rfl⟩:=Cy vq;obtain⟨Q1,Q2,rfl⟩:=Cy vt;have nA:(P1++e :: P2).Nodup:=vw.sublist<|NK mA;have nB:(Q1++other n e :: Q2).Nodup:=vw.sublist<|NK mB;have zP:z∉P1.map (bg n):=λk=>by
  obtain⟨x,hx,ex⟩:=Aj.mp k;have gQ:=d.dec.sub mA<|As _ hx;have tx:ax n x=some z:=by obtain⟨y,hy⟩:=af.mp gQ;rw [gT hy] at ex;rw [hy,ex]
  rcases (dJ T tz).mp tx with q | q
  ·subst q;exact(Ce.mp nA).2.2 x hx x Ac rfl
  ·subst q;exact apart _ (As _ hx) vt
 have zQ:z∉Q1.map (bg n):=λk=>by
  obtain⟨x,hx,ex⟩:=Aj.mp k;have gQ:=d.dec.sub mB<|As _ hx;have tx:ax n x=some z:=by obtain⟨y,hy⟩:=af.mp gQ;rw [gT hy] at ex;rw [hy,ex]
  rcases (dJ T tz).mp tx with q | q
  ·subst q;exact apart _ vq<|As _ hx
  ·subst q;exact(Ce.mp nB).2.2 _ hx _ Ac rfl
 have eJ:eV (row m0 r0) (row m0 r1) z=(P1++(Q2++Q1)++P2).map (bg n):=by
  rw [rA,rB,Al,Al,Bd,Bd,Ia,qe];unfold eV;rw [QN zP,QN zQ,QP,QP,QO,QO,Al,Al,Al]
 have hJ:P1++(Q2++Q1)++P2≠[]:=λk=>a7 (by rw [eJ,k];rfl);have eRD:RD=(List.range m0.length).map λr=>RD[r]?.getD []:=by
  refine El (by rw [Aa,Cv];exact len) λi h1 h2=>?_;rw [By,Em,Ab h1];rfl
 let Ms:=((List.range m0.length).filter λr=>decide (r≠r0) && decide (r≠r1)).map λr=>RD[r]?.getD []
 have p1:RD.Perm ((P1++e :: P2) :: (Q1++other n e :: Q2) :: Ms):=by
  have:=(k4m (N:=m0.length) tw.l0 tw.l1 qd).map λr=>RD[r]?.getD [];rw [<- eRD,Bd,Bd,g0,g1] at this;exact this
 have d1:=(d.dec.ls p1).vj;have d2:=((d1.ls<|List.Perm.swap _ _ _).vj).ls<|List.Perm.swap _ _ _;have d3:Dec (jf e (other n e) f) ((ends n).filter<|gd e<|other n e) (((P2++P1)++(Q2++Q1)) :: Ms):=Dec.join (A:=P2++P1) (B:=Q2++Q1) d2 λk=>hJ<|by
  simp only [Ef] at k ⊢;exact⟨⟨k.1.2,k.2⟩,k.1.1⟩
 rw [At] at d3;have d4:=d3.vj;refine⟨e,((List.range m0.length).filter λr=>decide (r≠r1)).map λr=>if r=r0 then P1++(Q2++Q1)++P2 else RD[r]?.getD [],tz,⟨_,mA,vq,λk=>apart _ k vt⟩,?_,?_,λx hx=>(Au.mp hx).1,QH T tz⟩
 ·unfold shr fF;rw [Bb,Bb];refine Bf λr _=>?_;show(if r=r0 then eV (row m0 r0) (row m0 r1) z else row m0 r)=(if r=r0 then P1++(Q2++Q1)++P2 else RD[r]?.getD []).map (bg n)
  by_cases c:r=r0
  ·rw [BL c,BL c,eJ]
  ·rw [BK c,BK c,d.row]
 ·refine d4.ls ?_;have:=(k1k (N:=m0.length) tw.l0 qd).map λr=>if r=r0 then P1++(Q2++Q1)++P2 else RD[r]?.getD [];rw [Bd,BL rfl] at this;refine List.Perm.trans ?_ this.symm;refine List.Perm.cons _<|List.Perm.of_eq<|Bf λr hr=>?_;have:=(Au.mp hr).2;rw [Cf,CN,CN] at this;rw [BK this.1]
theorem Ib(T:aj n)(h:∀ r,r < n.length->row n r≠[]):Dp n n (left n) (ends n) (nP n):=by
 refine⟨?_,vi h,λx hx=>hx,λx hx=>c9 T hx⟩;unfold nP;refine El (by simp) λi h1 h2=>?_;have hi:i < n.length:=by simpa using h1
 simp only [By,Em,Bb];have er:row n i=n[i].2:=cV hi;show n[i].2=((List.range (row n i).length).map λj=>((i,j % (row n i).length):End)).map (bg n);rw [Bb,er];refine El (by simp) λj k1 k2=>?_;simp only [By,Em,Function.comp];have hj:j < (row n i).length:=by rw [er];exact k1
 have t:ax n (i,j % n[i].2.length)=some n[i].2[j]:=by
  unfold ax;show(row n i)[j % n[i].2.length]?=_;rw [er,Bw k1];exact Ab k1
 exact(gT t).symm
theorem unlike{g:End->End}{Ls:List (List End)}(dg:Dec g (ends n) Ls)(inj:∀ a∈ends n,∀ b∈ends n,g a=g b->a=b){e':End}(fU:e'∈ends n){l:List End}(hl:l∈Ls)(he:e∈l)(ho:e'∉l):g e≠e'/\g e'≠e:=by
 obtain⟨a,ha,p⟩:=dg.b5 l hl;have cl:∀ x∈l,g x∈l:=λx hx=>eg p ha hx;refine⟨λk=>ho (by rw [<- k];exact cl e he),λk=>?_⟩;have i2:∀ x∈l,∀ y∈l,g x=g y->x=y:=λx hx y hy=>inj x (dg.sub hl hx) y<|dg.sub hl hy;obtain⟨j,j0,_,jb⟩:=BA cl i2 he;obtain⟨i,rfl⟩:∃ i,j=i+1:=⟨j - 1,by omega⟩;have m:=ig cl he i;have:g (it g i e)=e:=jb;exact ho<|by rw [inj e' fU _ (dg.sub hl m)<|k.trans this.symm];exact m
theorem k4e(T:aj n)(he:ax n e=some z)(h1:step n e≠other n e)(h2:step n (other n e)≠e){x:End}(hx:x∈ends n):jf e (other n e) (step n) x=sk e (other n e) (left n) (other n x):=by
 have oe:step n (other n e)=left n e:=by unfold step;rw [(cL T he).2.1]
 have so:step n e=left n (other n e):=rfl;have ge:gd e (other n e) e=false:=bO.mpr<|.inl rfl;have go:gd e (other n e) (other n e)=false:=bO.mpr<|.inr rfl;show _=nx e (other n e) (left n) (step n x);unfold jf nx;rw [oe] at h2 ⊢;rw [so] at h1 ⊢
 by_cases a:step n x=e
 ·rw [BL a,a,ge,BK Aq]
  by_cases b:left n e=other n e
  ·rw [BL b,b,go,BK Aq]
  ·rw [BK b,bN.mpr ⟨h2,b⟩,BL rfl]
 ·rw [BK a]
  by_cases c:step n x=other n e
  ·rw [BL c,c,go,BK Aq]
   by_cases b:left n (other n e)=e
   ·rw [BL b,b,ge,BK Aq]
   ·rw [BK b,bN.mpr ⟨b,h1⟩,BL rfl]
  ·rw [BK c,bN.mpr ⟨a,c⟩,BL rfl]
theorem k4s(T:aj n)(he:ax n e=some z)(h1:left n e≠other n e)(h2:left n (other n e)≠e){x:End}(hx:x∈ends n):sk e (other n e) (step n) x=jf e (other n e) (left n) (other n x):=by
 have oe:step n (other n e)=left n e:=by unfold step;rw [(cL T he).2.1]
 have so:step n e=left n (other n e):=rfl;have ge:gd e (other n e) e=false:=bO.mpr<|.inl rfl;have go:gd e (other n e) (other n e)=false:=bO.mpr<|.inr rfl;show nx e (other n e) (step n) (step n x)=_;have lx:left n (other n x)=step n x:=rfl;unfold jf nx;rw [lx]
 by_cases a:step n x=e
 ·rw [BL a,a,ge,BK Aq,so]
  by_cases b:left n (other n e)=other n e
  ·rw [BL b,b,go,BK Aq,oe]
  ·rw [BK b,bN.mpr ⟨h2,b⟩,BL rfl]
 ·rw [BK a]
  by_cases c:step n x=other n e
  ·rw [BL c,c,go,BK Aq,oe]
   by_cases b:left n e=e
   ·rw [BL b,b,ge,BK Aq,so]
   ·rw [BK b,bN.mpr ⟨b,h1⟩,BL rfl]
  ·rw [BK c,bN.mpr ⟨a,c⟩,BL rfl]
theorem k4z(T:aj n)(hr:∀ r,r < n.length->row n r≠[])(fG:Dp n m0 (step n) (ends n)<|bd n){f0 f1:Nat}(h:bR m0 z=[f0,f1])(a7:eV (row m0 f0) (row m0 f1) z≠[])(ho:∀ r∈aq n z,r.2≠[])(h0:ends (aq n z)≠[]) :
  CE ((bd<|aq n z).map<|List.map<|bg<|aq n z) ((shr m0 z f0 f1).map (·.2)):=by
 obtain⟨e,HZ,he,⟨l,hl,h1,h2⟩,ds⟩:=QQ T fG h a7;have g7:=af.mpr ⟨z,he⟩;have u:=unlike fG.dec (λa ha b hb q=>tO T ha hb q) (c9 T g7) hl h1 h2;have dm:=QI T (Ib T hr) he ho;rw [ds.rows];refine dm.ce T (kZ T) h0<|ds.dec.congr λx hx=>?_;exact(k4e T he u.1 u.2 (Au.mp hx).1).symm
theorem k4b(T:aj n)(hr:∀ r,r < n.length->row n r≠[])(fG:Dp n m0 (step n) (ends n)<|bd n){r0 r1:Nat}(h:bR n z=[r0,r1])(a7:eV (row n r0) (row n r1) z≠[])(ho:∀ r∈aq m0 z,r.2≠[])(T':aj<|shr n z r0 r1)(h0:ends (shr n z r0 r1)≠[]) :
  CE ((bd<|shr n z r0 r1).map<|List.map<|bg<|shr n z r0 r1) ((aq m0 z).map (·.2)):=by
 have dr:=Ib T hr;obtain⟨e,HZ,he,⟨l,hl,h1,h2⟩,ds⟩:=QQ T dr h a7;have g7:=af.mpr ⟨z,he⟩;have u:=unlike dr.dec (λa ha b hb q=>Mt ha hb q) (c9 T g7) hl h1 h2;have dm:=QI T fG he ho;rw [dm.rows];refine ds.ce T T' h0<|dm.dec.congr λx hx=>?_;exact(k4s T he u.1 u.2 (Au.mp hx).1).symm
end
section
variable{n:Net}{z:Str}{e:End}
theorem yi{n:Net}(T:aj n)(hg:bu n)(h0:0 < n.length):eW n:=q3h T hg h0 λe z h=>Rt.step h<|eX h
theorem Ic(n:Net):(aC n).map (·.2)=(bd n).map (List.map<|bg n):=by
 unfold aC;rw [Bb];refine El (by simp) λi h1 h2=>?_;simp
theorem Ie(T:aj n)(hE:ends n≠[]):Dp n (aC n) (step n) (ends n) (bd n):=⟨Ic n,rk T hE,λx hx=>hx,λx hx=>c9 T hx⟩
theorem Ig{m:Net}(hg:bu m)(hN:(m.map (·.1)).Nodup)(hE:ends m≠[]):∀ r∈m,r.2≠[]:=λr hr k=>by
 have all:=hg (λx=>x=r.1) ⟨r,hr,rfl⟩ λa ha b hb t h1 h2 q=>by
  have:a=r:=by
   obtain⟨i,hi,rfl⟩:=Dv ha;obtain⟨j,hj,rfl⟩:=Dv hr;have:i=j:=(Ej (h₀:=by rw [Aa];exact hi) (h₁:=by rw [Aa];exact hj) hN).mp (by rw [By,By];exact q);subst this;rfl
  rw [this,k] at h1;cases h1
 obtain⟨x,hx⟩:=Dl _ hE;obtain⟨y,hy⟩:=af.mp hx;have aT:=cE hy;have hm:m[x.1]∈m:=Ay aT;have:m[x.1]=r:=by
  obtain⟨j,hj,rfl⟩:=Dv hr;have:x.1=j:=(Ej (h₀:=by rw [Aa];exact aT) (h₁:=by rw [Aa];exact hj) hN).mp (by rw [By,By];exact all _ hm);subst this;rfl
 have e2:=eQ hy;rw [cV aT,this,k] at e2;cases e2
theorem k1e(T:aj n)(hg:bu n)(hN:(n.map (·.1)).Nodup)(h0:0 < n.length)(he:ax n e=some z)(h:other n e∉face n e):bu (aq n z):=λP ⟨a,ha,pa⟩ hc b hb=>by
 have nm:∀ r∈aq n z,∃ i,i < n.length/\r=(ao n i,(row n i).filter λy=>decide (y≠z)):=λr hr=>by
  unfold aq at hr;obtain⟨q,hq,rfl⟩:=Aj.mp hr;obtain⟨i,hi,rfl⟩:=Dv hq;refine⟨i,hi,?_⟩;rw [cV hi];unfold ao;rw [Ab hi];rfl
 have im:∀ i,i < n.length->(ao n i,(row n i).filter λy=>decide (y≠z))∈aq n z:=λi hi=>by
  refine Aj.mpr ⟨n[i],Ay hi,?_⟩;rw [cV hi];unfold ao;rw [Ab hi];rfl
 have cl:∀ x t,ax n x=some t->t≠z->(P (ao n x.1)↔P (ao n (other n x).1)):=λx t hx ht=>by
  have o:=cL T hx;have m1:t∈(row n x.1).filter λy=>decide (y≠z):=Au.mpr ⟨Ak hx,BR ht⟩;have m2:t∈(row n (other n x).1).filter λy=>decide (y≠z):=Au.mpr ⟨Ak o.1,BR ht⟩;exact⟨λk=>hc _ (im _<|cE hx) _ (im _<|cE o.1) t m1 m2 k,λk=>hc _ (im _<|cE o.1) _ (im _<|cE hx) t m2 m1 k⟩
 obtain⟨i,hi,rfl⟩:=nm a ha;obtain⟨j,hj,rfl⟩:=nm b hb
 by_cases c:P<|ao n 0
 ·exact NX T hg hN h0 he h (S:=λr=>P<|ao n r) c (λx t hx ht k=>(cl x t hx ht).mp k) j hj
 ·exact absurd pa<|NX T hg hN h0 he h (S:=λr=>¬ P (ao n r)) c (λx t hx ht k q=>k<|(cl x t hx ht).mpr q) i hi
theorem q6f(T:aj n)(hg:bu<|aq n z)(hN:(n.map (·.1)).Nodup)(h0:0 < n.length):∀ r,r < n.length->Rw n z r:=λr hr=>by
 have im:∀ i,i < n.length->(ao n i,(row n i).filter λy=>decide (y≠z))∈aq n z:=λi hi=>by
  refine Aj.mpr ⟨n[i],Ay hi,?_⟩;rw [cV hi];unfold ao;rw [Ab hi];rfl
 have nm:∀ r∈aq n z,∃ i,i < n.length/\r=(ao n i,(row n i).filter λy=>decide (y≠z)):=λr hr=>by
  unfold aq at hr;obtain⟨q,hq,rfl⟩:=Aj.mp hr;obtain⟨i,hi,rfl⟩:=Dv hq;refine⟨i,hi,?_⟩;rw [cV hi];unfold ao;rw [Ab hi];rfl
 obtain⟨i,hi,e1,e2⟩:=hg (λx=>∃ i,i < n.length/\ao n i=x/\Rw n z i) ⟨_,im 0 h0,0,h0,rfl,.here⟩ (λa ha b hb t h1 h2 ⟨i,hi,q1,q2⟩=>by
  obtain⟨j,hj,rfl⟩:=nm a ha;obtain⟨k,hk,rfl⟩:=nm b hb;have:i=j:=lS hN hi hj q1;subst this;obtain⟨m1,tz⟩:=Au.mp h1;obtain⟨m2,_⟩:=Au.mp h2;rw [CN] at tz;obtain⟨p,hp⟩:=An m1;obtain⟨s,hs⟩:=An m2;have t1:ax n (i,p)=some t:=hp;have t2:ax n (k,s)=some t:=hs
  rcases (dJ T t1).mp t2 with q | q
  ·have:k=i:=BZ Prod.fst q;subst this;exact⟨k,hk,rfl,q2⟩
  ·have:=Rw.go (n:=n) (z:=z) (e:=(i,p)) q2 t1 tz;rw [<- q] at this;exact⟨k,hk,rfl,this⟩) _<|im r hr
 have:i=r:=lS hN hi hr e1;subst this;exact e2
theorem QR(T:aj n)(hf:HF n)(hN:(n.map (·.1)).Nodup)(h0:0 < n.length)(he:ax n e=some z):eW (aq n z)↔other n e∉face n e:=by
 have T':aj (aq n z):=kZ T
 constructor
 ·intro h k;have r:=q6f T (Nt.cr T' h) hN h0;exact YW T hf.2.2 he k ⟨r _<|cE he,r _<|cE (cL T he).1⟩
 ·intro h;exact yi T' (k1e T hf.1 hN h0 he h)<|by rw [g5];exact h0
theorem q1b(T:aj n)(hE:ends n≠[])(he:ax n e=some z):other n e∈face n e↔∃ l∈bd n,e∈l/\other n e∈l:=by
 have g7:=af.mpr ⟨z,he⟩;have d:=rk T hE;obtain⟨m1,p1⟩:=jv T g7
 constructor
 ·intro h;obtain⟨l,hl,pD⟩:=Ck.mp<|d.all.mem_iff.mpr g7;obtain⟨a,ha,p⟩:=d.b5 l hl;obtain⟨k,hk⟩:=kQ p1 h;exact⟨l,hl,pD,by rw [<- hk];exact ig (λx hx=>eg p ha hx) pD k⟩
 ·rintro ⟨l,hl,h1,h2⟩;obtain⟨a,ha,p⟩:=d.b5 l hl;obtain⟨p0,q0,rfl⟩:=Cy h1;obtain⟨m,r1,r2⟩:=aG.mp p;have em:e=m:=r2.1;subst em;have:∃ k,it (step n) k e=other n e:=by
   refine kQ (aG (l:=e :: q0).mpr ⟨a,r2,r1⟩) ?_
   rcases Ap.mp h2 with q | q
   ·exact Ar _ q
   ·exact As _ q
  obtain⟨k,hk⟩:=this;rw [<- hk];exact ig (λx hx=>eg p1 m1 hx) m1 k
section
variable{m0:Net}{f:End->End}{RD:List (List End)}
theorem QU(T:aj n)(d:Dp n m0 f (ends n) RD)(he:ax n e=some z):(∃ l∈RD,e∈l/\other n e∈l)↔∃ r,bR m0 z=[r]:=by
 have g7:=af.mpr ⟨z,he⟩;have o:=cL T he;have yg:=af.mpr ⟨z,o.1⟩;have vw:=d.dec.all.nodup_iff.mpr d.dec.nd;have len:=HV d;have inr:∀{i:Nat} {l:List End} {x:End},RD[i]?=some l->x∈l->ax n x=some z->i < m0.length/\z∈row m0 i:=λ{i l x} hi hx tx=>by
  refine⟨by rw [<- len];exact(Ad.mp hi).1,?_⟩;rw [d.row,hi];exact Aj.mpr ⟨x,hx,gT tx⟩
 have Ih:∀ r,r < m0.length->z∈row m0 r->∃ l,RD[r]?=some l/\(e∈l\/other n e∈l):=λr hr hz=>by
  have nQ:r < RD.length:=by omega
  have g:=Ab nQ;refine⟨_,g,?_⟩;rw [d.row,g] at hz;obtain⟨x,hx,ex⟩:=Aj.mp hz;have gQ:=d.dec.sub (Ak g) hx;have tx:ax n x=some z:=by obtain⟨y,hy⟩:=af.mp gQ;rw [gT hy] at ex;rw [hy,ex]
  rcases (dJ T he).mp tx with q | q
  ·subst q;exact .inl hx
  ·subst q;exact .inr hx
 have same:∀{i j:Nat} {l k:List End} {x:End},RD[i]?=some l->RD[j]?=some k->x∈l->x∈k->i=j:=λ{i j l k x} hi hj hx hy=>by
  obtain⟨a,ha⟩:=An hx;obtain⟨b,hb⟩:=An hy;exact(vd vw hi ha hj hb).1
 constructor
 ·rintro ⟨l,hl,h1,h2⟩;obtain⟨i,hi⟩:=An hl;have only:∀ r,r∈bR m0 z->r=i:=λr hr=>by
   obtain⟨q1,q2⟩:=a6.mp hr;obtain⟨k,hk,q⟩:=Ih r q1 q2
   rcases q with q | q
   ·exact same hk hi q h1
   ·exact same hk hi q h2
  have mR:i∈bR m0 z:=a6.mpr<|inr hi h1 he;have nd:(bR m0 z).Nodup:=O8;refine⟨i,?_⟩;cases hh:bR m0 z with
  | nil=>rw [hh] at mR;cases mR
  | cons a t=>
   rw [hh] at only nd;have ea:=only a Ac;cases t with
   | nil=>rw [ea]
   | cons b t=>
    have eb:=only b (Af _ Ac);rw [ea,eb] at nd;exact absurd Ac (Bu.mp nd).1
 ·rintro ⟨r,hr⟩;obtain⟨l,hl,h1⟩:=Ck.mp<|d.dec.all.mem_iff.mpr g7;obtain⟨k,hk,h2⟩:=Ck.mp<|d.dec.all.mem_iff.mpr yg;obtain⟨i,hi⟩:=An hl;obtain⟨j,hj⟩:=An hk;have a:i∈bR m0 z:=a6.mpr<|inr hi h1 he;have b:j∈bR m0 z:=a6.mpr<|inr hj h2 o.1;rw [hr,Ae] at a b;subst a b;rw [hi] at hj;cases hj;exact⟨l,hl,h1,h2⟩
end
theorem nR(hz:z∈ag n):∃ e,ax n e=some z:=by
 obtain⟨r,hr,h⟩:=nK hz;obtain⟨p,hp⟩:=An h;exact⟨(r,p),hp⟩
theorem k2g(T:aj n)(hf:HF n)(hN:(n.map (·.1)).Nodup)(h0:0 < n.length)(hz:z∈ag n):(¬ eW (aq n z))↔∃ f,bR (aC n) z=[f]:=by
 obtain⟨e,he⟩:=nR hz;have hE:ends n≠[]:=λk=>by have:=af.mpr ⟨z,he⟩;rw [k] at this;cases this
 rw [QR T hf hN h0 he,Classical.not_not,q1b T hE he];exact QU T (Ie T hE) he
theorem k1s(T:aj n)(hf:HF n)(F:Full n)(hN:(n.map (·.1)).Nodup)(h0:0 < n.length)(hr:∀ r,r < n.length->row n r≠[])(hl:(bd n).length<=60)(hz:z∈ag n):(¬ eW (aq (aC n) z))↔∃ r,bR n z=[r]:=by
 obtain⟨e,he⟩:=nR hz;have g7:=af.mpr ⟨z,he⟩;have hE:ends n≠[]:=λk=>by rw [k] at g7;cases g7
 have To:=g6 T;have hfo:=q6w T F hf hN h0 hE hr;have QY:((aD n).map (·.1)).Nodup:=Qs hl;have px:=rR T g7;have tx:ax (aD n) (pin n e)=some z:=by rw [pZ T px.1,px.2];exact he
 have wc:0 < (aD n).length:=Gd (Ci _)<|cE tx;have sr:bS (aq (aD n) z) (aq (aC n) z):=by
  have:=l9 n;show(aq (aC n) z).map (·.2)=(aq (aD n) z).map (·.2);unfold aq;rw [Bb,Bb];have h:(aC n).map (·.2)=(aD n).map (·.2):=this;have g:=BZ (List.map<|List.filter λy=>decide (y≠z)) h;rw [Bb,Bb] at g;exact g
 have sr':bS (aq (aC n) z) (aq (aD n) z):=sr.symm;have n1:((aq (aD n) z).map (·.1)).Nodup:=by rw [rK];exact QY
 have n2:((aq (aC n) z).map (·.1)).Nodup:=by rw [rK];exact Qr hl
 have TQ:aj (aq (aC n) z):=kZ<|(l9 n).twice To;have TO:aj (aq (aD n) z):=kZ To;have l1:0 < (aq (aD n) z).length:=by rw [g5];exact wc
 have l2:0 < (aq (aC n) z).length:=by rw [g5,(l9 n).len];exact wc
 have wh:eW (aq (aC n) z)↔eW (aq (aD n) z):=⟨λh=>yi TO (sr'.p9 n2<|Nt.cr TQ h) l1,λh=>yi TQ (sr.p9 n1<|Nt.cr TO h) l2⟩;rw [wh,QR To hfo QY wc tx,Classical.not_not,<- QU T (Ib T hr) he];have Q0:pf n (other (aD n)<|pin n e)=other n e:=by rw [p8 T px.1,px.2]
 constructor
 ·intro h;obtain⟨m1,p1⟩:=jv To px.1;obtain⟨k,hk⟩:=kQ p1 h;have:=(HP T px.1 k).2;rw [hk,Q0,px.2] at this;obtain⟨l,fk,pD⟩:=Ck.mp<|(vi hr).all.mem_iff.mpr g7;obtain⟨a,ha,p⟩:=(vi hr).b5 l fk;exact⟨l,fk,pD,by rw [this];exact ig (λx hx=>eg p ha hx) pD k⟩
 ·rintro ⟨l,fk,h1,h2⟩;obtain⟨a,ha,p⟩:=(vi hr).b5 l fk;obtain⟨p0,q0,rfl⟩:=Cy h1;obtain⟨m,r1,r2⟩:=aG.mp p;have em:e=m:=r2.1;subst em;have:∃ k,it (left n) k e=other n e:=by
   refine kQ (aG (l:=e :: q0).mpr ⟨a,r2,r1⟩) ?_
   rcases Ap.mp h2 with q | q
   ·exact Ar _ q
   ·exact As _ q
  obtain⟨k,hk⟩:=this;have q:=HP T px.1 k;rw [px.2,hk,<- Q0] at q;obtain⟨m1,p1⟩:=jv To px.1;rw [<- vf T q.1 (c9 To px.1) q.2];exact ig (λx hx=>eg p1 m1 hx) m1 k
theorem Ii{m:Net}(hg:bu m)(hN:(m.map (·.1)).Nodup)(h0:0 < m.length)(hE:ends m=[]):m.length=1:=by
 have no:∀ r∈m,r.2=[]:=λr hr=>by
  cases h:r.2 with
  | nil=>rfl
  | cons t ts=>
   exfalso
   have ht:t∈ag m:=Fx.mpr ⟨r,hr,by rw [h];exact Ac⟩;obtain⟨x,hx⟩:=nR ht;have:=af.mpr ⟨t,hx⟩;rw [hE] at this;cases this
 have all:=hg (λx=>x=m[0].1) ⟨m[0],Ay h0,rfl⟩ λa ha b hb t h1=>by
  rw [no a ha] at h1;cases h1
 refine BX λk=>?_;have h1:1 < m.length:=by omega
 have:(1:Nat)=0:=(Ej (h₀:=by rw [Aa];exact h1) (h₁:=by rw [Aa];exact h0) hN).mp (by rw [By,By];exact all _<|Ay h1);omega
theorem Q3{m:Net}(h:m.length=1)(ht:ag m=[]):m.map (·.2)=[[]]:=by
 match m,h with
 | [r],_=>
  have:r.2++[]=[]:=ht;rw [Bc] at this;rw [Bd,this];rfl
theorem Q4(T:aj n)(hz:z∈ag n)(h:∀ w∈ag n,w=z):(ag n).length=2:=by
 have h1:=T z hz;have:ag n=List.replicate (ag n).length z:=List.eq_replicate_iff.mpr ⟨rfl,h⟩;rw [this,QB] at h1;exact h1
theorem join_nil{a b:List Str}(ha:z∈a)(hb:z∈b)(h:eV a b z=[]):a=[z]/\b=[z]:=by
 have c:=λw=>uZ (w:=w) ha hb;have cz:=c z;rw [h,BL rfl] at cz;have c1:0 < a.count z:=Bt.mpr ha;have c2:0 < b.count z:=Bt.mpr hb;have z0:([]:List Str).count z=0:=rfl;have all:∀ w,w≠z->a.count w=0/\b.count w=0:=λw hw=>by
  have:=c w;rw [h,BK hw] at this;have w0:([]:List Str).count w=0:=rfl;omega
 have one:∀{l:List Str},l.count z=1->(∀ w,w≠z->l.count w=0)->l=[z]:=λ{l} h1 h2=>by
  have:l=List.replicate l.length z:=List.eq_replicate_iff.mpr ⟨rfl,λw hw=>BX λk=>by
   have:=Bt.mpr hw;rw [h2 w k] at this;exact absurd this<|Cu _⟩
  rw [this,QB] at h1;rw [this,h1];rfl
 exact⟨one (by omega) λw hw=>(all w hw).1,one (by omega) λw hw=>(all w hw).2⟩
theorem q3p{x:End}{p:Nat}(hx:x∈ends n)(hp:p < (row n x.1).length):∃ k,it (left n) k x=(x.1,p):=by
 obtain⟨y,hy⟩:=af.mp hx;have h2:=eQ hy;refine⟨p+((row n x.1).length - x.2),?_⟩;rw [Qt hx];refine EY rfl ?_;show(x.2+(p+((row n x.1).length - x.2))) % (row n x.1).length=p;rw [show x.2+(p+((row n x.1).length - x.2))=p+(row n x.1).length by omega,Nat.add_mod_right,Bw hp]
theorem yj(T:aj n){w:Str}:w∈ag (aC n)↔w∈ag n:=by
 rw [(l9 n).ag];exact(rQ T).mem_iff
theorem Ij(n:Net):(aC n).length=(bd n).length:=by unfold aC;simp
theorem q6i(T:aj n)(hf:HF n)(F:Full n)(hN:(n.map (·.1)).Nodup)(h0:0 < n.length)(hr:∀ r,r < n.length->row n r≠[])(hz:z∈ag n)(hw:eW<|aq n z){f0 f1:Nat}(h:bR (aC n) z=[f0,f1]) :
  CE ((aC<|aq n z).map (·.2)) ((shr (aC n) z f0 f1).map (·.2)):=by
 obtain⟨e0,he0⟩:=nR hz;have hE:ends n≠[]:=λk=>by have:=af.mpr ⟨z,he0⟩;rw [k] at this;cases this
 have T':aj (aq n z):=kZ T;have vx:=Nt.cr T' hw;have vy:((aq n z).map (·.1)).Nodup:=by rw [rK];exact hN
 have TQ:aj (aC n):=(l9 n).twice<|g6 T;have tw:=pR h;have lt:=uY h;have zq:z∈ag (aC n):=(yj T).mpr hz;rw [Ic]
 by_cases fU:ends (aq n z)=[]
 ·have v1:=Ii vx vy (by rw [g5];exact h0) fU;rw [g5] at v1;have all:∀ w∈ag n,w=z:=λw hw=>BX λk=>by
   obtain⟨x,hx⟩:=nR<|gL.mpr ⟨hw,k⟩;have:=af.mpr ⟨w,hx⟩;rw [fU] at this;cases this
  have t2:=Q4 T hz all;have eu:=DF T F hf.2.1;have sl:=nN tw;rw [Ij] at sl;have e1:(bd<|aq n z).map (List.map<|bg<|aq n z)=[[]]:=by unfold bd;rw [BL fU];rfl
  have e2:(shr (aC n) z f0 f1).map (·.2)=[[]]:=Q3 (by omega)<|by
   cases ht:ag (shr (aC n) z f0 f1) with
   | nil=>rfl
   | cons w ws=>
    exfalso
    have:=(ya TQ zq tw lt (w:=w)).mp (by rw [ht];exact Ac);exact this.2<|all w<|(yj T).mp this.1
  rw [e1,e2];exact CE.refl _
 ·have ho:=Ig vx vy fU;have fG:=Ie T hE;refine k4z T hr fG h (λk=>?_) ho fU;obtain⟨ka,kb⟩:=join_nil tw.m0 tw.m1 k;have len:=HV fG;obtain⟨LA,g0⟩:∃ LA,(bd n)[f0]?=some LA:=⟨_,Ab (show f0 < (bd n).length by have:=tw.l0;omega)⟩;obtain⟨LB,g1⟩:∃ LB,(bd n)[f1]?=some LB:=⟨_,Ab (show f1 < (bd n).length by have:=tw.l1;omega)⟩;rw [fG.row,g0] at ka;rw [fG.row,g1] at kb;have ka:LA.map (bg n)=[z]:=ka;have kb:LB.map (bg n)=[z]:=kb;obtain⟨x,rfl⟩:∃ x,LA=[x]:=by
   match LA,ka with
   | [x],_=>exact⟨x,rfl⟩
  obtain⟨y,rfl⟩:∃ y,LB=[y]:=by
   match LB,kb with
   | [y],_=>exact⟨y,rfl⟩
  have mx:=fG.dec.sub (Ak g0) Ac;have my:=fG.dec.sub (Ak g1) Ac;have nx:bg n x=z:=by cases ka;rfl
  have ny:bg n y=z:=by injection kb
  have tx:ax n x=some z:=by obtain⟨w,hw⟩:=af.mp mx;rw [gT hw] at nx;rw [hw,nx]
  have ty:ax n y=some z:=by obtain⟨w,hw⟩:=af.mp my;rw [gT hw] at ny;rw [hw,ny]
  have yx:y=other n x:=by
   rcases (dJ T tx).mp ty with q | q
   ·exfalso
    subst q;exact tw.ne (vd (fG.dec.all.nodup_iff.mpr fG.dec.nd) g0 (k:=0) rfl g1 (l:=0) rfl).1
   ·exact q
  obtain⟨a,ha,pa⟩:=fG.dec.b5 _<|Ak g0;obtain⟨b,hb,pb⟩:=fG.dec.b5 _<|Ak g1;obtain rfl:=Ae.mp ha;obtain rfl:=Ae.mp hb;have sa:step n a=a:=pa.2;have sb:step n b=b:=pb.2;have la:left n b=a:=by rw [yx];exact sa
  have lb:left n a=b:=by
   have:left n (other n b)=b:=sb;rw [yx,(cL T tx).2.1] at this;rw [this,yx]
  have two:∀ k,it (left n) k a=a\/it (left n) k a=b:=by
   intro k
   induction k with
   | zero=>exact .inl rfl
   | succ k ih=>
    show left n (it (left n) k a)=a\/left n (it (left n) k a)=b
    rcases ih with q | q
    ·rw [q];exact .inr lb
    ·rw [q];exact .inl la
  have aT:=cE tx;have mem:(n[a.1].1,n[a.1].2.filter λy=>decide (y≠z))∈aq n z:=Aj.mpr ⟨n[a.1],Ay aT,rfl⟩;obtain⟨t,ht⟩:=Dl _<|ho _ mem;obtain⟨rC,cU⟩:=Au.mp ht;rw [CN] at cU;rw [<- cV aT] at rC;obtain⟨p,hp⟩:=An rC;obtain⟨k,hk⟩:=q3p mx (Ad.mp hp).1;have tp:ax n (it (left n) k a)=some t:=by rw [hk];exact hp
  rcases two k with q | q
  ·rw [q,tx] at tp;exact cU (Option.some.inj tp).symm
  ·rw [q,ty] at tp;exact cU (Option.some.inj tp).symm
theorem q61(T:aj n)(hf:HF n)(F:Full n)(hN:(n.map (·.1)).Nodup)(h0:0 < n.length)(hr:∀ r,r < n.length->row n r≠[])(hz:z∈ag n){r0 r1:Nat}(h:bR n z=[r0,r1]) :
  CE ((aC<|shr n z r0 r1).map (·.2)) ((aq (aC n) z).map (·.2)):=by
 have tw:=pR h;have lt:=uY h;have T':=yb T hz tw lt;have vx:=Qa T tw lt hN hf.1;have vy:=P' tw hN;have sl:=nN tw;obtain⟨e,he⟩:=nR hz;have g7:=af.mpr ⟨z,he⟩;have hE:ends n≠[]:=λk=>by rw [k] at g7;cases g7
 have l2:1 < n.length:=by have:=tw.l1;omega
 rw [Ic]
 by_cases fU:ends (shr n z r0 r1)=[]
 ·have v1:=Ii vx vy (by rw [sl];omega) fU;have all:∀ w∈ag n,w=z:=λw hw=>BX λk=>by
   obtain⟨x,hx⟩:=nR<|(ya T hz tw lt).mpr ⟨hw,k⟩;have:=af.mpr ⟨w,hx⟩;rw [fU] at this;cases this
  have t2:=Q4 T hz all;have eu:=DF T F hf.2.1;have e1:(bd<|shr n z r0 r1).map (List.map<|bg<|shr n z r0 r1)=[[]]:=by unfold bd;rw [BL fU];rfl
  have e2:(aq (aC n) z).map (·.2)=[[]]:=Q3 (by rw [g5,Ij];omega)<|by
   cases ht:ag (aq (aC n) z) with
   | nil=>rfl
   | cons w ws=>
    exfalso
    have:=gL.mp (show w∈ag (aq (aC n) z) by rw [ht];exact Ac);exact this.2<|all w<|(yj T).mp this.1
  rw [e1,e2];exact CE.refl _
 ·have full:=Ig vx vy fU;have a7:eV (row n r0) (row n r1) z≠[]:=λk=>by
   refine full (gJ n z r0 r1 r0) (Aj.mpr ⟨r0,Au.mpr ⟨Bm.mpr tw.l0,BR tw.ne⟩,rfl⟩) ?_;show(if r0=r0 then eV (row n r0) (row n r1) z else row n r0)=[];rw [BL rfl,k]
  have fG:=Ie T hE;refine k4b T hr fG h a7 (λr hrm k=>?_) T' fU;have m2:r.2∈(aq (aC n) z).map (·.2):=Aj.mpr ⟨r,hrm,rfl⟩;rw [HU T fG he,k] at m2;obtain⟨l2',ml2,el2⟩:=Aj.mp m2;obtain⟨l,ml,rfl⟩:=Aj.mp ml2;have fl:l.filter (gd e<|other n e)=[]:=List.map_eq_nil_iff.mp el2;have oo:=cL T he;have bad:∀ x∈l,x=e\/x=other n e:=λx hx=>by
   have:=Fm.mp fl x hx;exact bO.mp<|Ez.mpr this
  have nl:e.1≠(other n e).1:=λq=>by
   have a0:z∈row n e.1:=Ak he;obtain⟨p0,Ik⟩:=An tw.m0;obtain⟨p1,j4⟩:=An tw.m1;have t0:ax n (r0,p0)=some z:=Ik;have t1:ax n (r1,p1)=some z:=j4;have q0:r0=e.1:=by
    rcases (dJ T he).mp t0 with w | w
    ·exact BZ Prod.fst w
    ·rw [q];exact BZ Prod.fst w
   have q1:r1=e.1:=by
    rcases (dJ T he).mp t1 with w | w
    ·exact BZ Prod.fst w
    ·rw [q];exact BZ Prod.fst w
   exact tw.ne<|q0.trans q1.symm
  obtain⟨a,ha,p⟩:=fG.dec.b5 l ml;have cF:∀ x∈l,ax n x=some z:=λx hx=>by
   rcases bad x hx with q | q
   ·rw [q];exact he
   ·rw [q];exact oo.1
  have un:∀ x∈l,x.1≠(other n x).1:=λx hx=>by
   rcases bad x hx with q | q
   ·rw [q];exact nl
   ·rw [q,oo.2.1];exact nl.symm
  have so:∀ x∈l,step n x=other n x:=λx hx=>by
   have hs:=bad _<|eg p ha hx;have ne:step n x≠x:=λq=>un x hx<|by have:=BZ Prod.fst q;exact this.symm
   rcases bad x hx with q | q
   ·rcases hs with w | w
    ·exact absurd (w.trans q.symm) ne
    ·rw [w,q]
   ·rcases hs with w | w
    ·rw [w,q,oo.2.1]
    ·exact absurd (w.trans q.symm) ne
  have ma:=so a ha;have Q5:other n a∈l:=by rw [<- ma];exact eg p ha ha
  have la:left n (other n a)=other n a:=ma;have lb:left n a=a:=by
   have:=so _ Q5;have oa:=(cL T<|cF a ha).2.1;rw [oa] at this;have e2:step n (other n a)=left n a:=by unfold step;rw [oa]
   rw [e2] at this;exact this
  have vA:∀ x:End,ax n x=some z->left n x=x->row n x.1=[z]:=λx tx lx=>by
   have h1:=eQ tx;have h2:(x.2+1) % (row n x.1).length=x.2:=BZ Prod.snd lx;have h3:(row n x.1).length=1:=by
    by_cases c:x.2+1 < (row n x.1).length
    ·rw [Bw c] at h2;omega
    ·have:x.2+1=(row n x.1).length:=by omega
     rw [this,Dm] at h2;omega
   have h4:(row n x.1)[x.2]?=some z:=tx
   match Il:row n x.1,h3 with
   | [w],_=>
    rw [Il] at h4;have h5:x.2=0:=by rw [Il] at h1;simpa using h1
    rw [h5] at h4;cases h4;rfl
  have ra:=vA a (cF a ha) lb;have rb:=vA _ (cF _ Q5) la;have on:∀ r,r < n.length->z∈row n r->row n r=[z]:=λr _ hzr=>by
   obtain⟨p0,Ik⟩:=An hzr;have t0:ax n (r,p0)=some z:=Ik
   rcases (dJ T<|cF a ha).mp t0 with w | w
   ·have:r=a.1:=BZ Prod.fst w;rw [this];exact ra
   ·have:r=(other n a).1:=BZ Prod.fst w;rw [this];exact rb
  apply a7;rw [on r0 tw.l0 tw.m0,on r1 tw.l1 tw.m1];unfold eV;have:aE [z] z=0:=by show(if z=z then 0 else _)=0;rw [BL rfl]
  rw [this];rfl
end
end Nt
namespace PySem
section
variable{prog:Program}{w:World}{K:Type} [DecidableEq K] {knd:HeapKind prog w K} {A:Around} {E:Value->Shared->Prop} {s:Shared}
end
end PySem
namespace L2
open PySem PySem.Spec PyProof.Rows
section
variable{X:Cx}{σ:St}{H:Hp}{Q:VK}{o e:Expr}{pos:Pos}
end
section
variable{X:Cx}{σ:St}{H:Hp}{D:Ends}{body rest:List Stmt}{a b:Expr}
end
end L2
namespace b6
open PySem SetTable
section
variable{t:SetTable}{es:Array (Int×Value)}{Z:List Ze}
end
section
variable{prog:Program}{w:World}{K:Type} [DecidableEq K]
variable{A:Around}{E:Value->Shared->Prop}{s:Shared}{a b:Addr}{knd:HeapKind prog w K}{k:K}{Y:List (Nat×K×Addr)}
end
section
variable{prog:Program}{w:World}{K:Type} [DecidableEq K] {knd:KeyKind prog w K}
end
end b6
namespace L2
open PySem PySem.Spec PyProof.Rows b6 Classical
section
variable{prog:Program}{w:World}{A:Around}{E:Value->Shared->Prop}{s:Shared}{a b:Addr}{Y:List Yt}{k:List Key}
end
section
variable{X:Cx}{σ:St}{H:Hp}{Q:VK}{pins:List (Addr×Obj)}{s:Shared}{a b:Addr}{Y:List Yt}
end
end L2
namespace L2
open PySem PySem.Spec PyProof.Rows
section
variable{X:Cx}{σ:St}{H:Hp}{Q:VK}
theorem k6d:fh X (.type "str") (λxs H Q=>∃ i:Int,xs=[.int i]/\i.natAbs.log2 < 1920/\Q (.str<|Str.ofString<|toString i) H):=by
 intro pins s σ H xs us Q I r h;obtain⟨i,rfl,hd,q⟩:=h;obtain⟨u,rfl,ru⟩:=vals1 r;obtain⟨t,rfl⟩:=ru;exact PySem.P.str_of_int hd ⟨.str _,H,I.tok _,⟨_,rfl⟩,q⟩
end
section
variable{X:Cx}{elt tg:Expr}{ifs:List Expr}{scope:Scope}{σ:St}{H:Hp}{N':List Str}{A a:Addr}{xs:List V}{after:Hp->Prop}
end
end L2
namespace A5
open PySem L2 Nt bn
abbrev dG(e:Nt.End):List Key:=[Sum.inl (e.1:Int),Sum.inl (e.2:Int)]
theorem q0a{a b:Nt.End}(h:dG a=dG b):a=b:=by
 have h1:=List.cons.inj h;have h2:=(List.cons.inj h1.2).1;have e1:=Sum.inl.inj h1.1;have e2:=Sum.inl.inj h2;exact EY (by omega)<|by omega
theorem Q6{H:Hp}{ts:List Addr}{es:List Nt.End}(h:Pd H ts es){j:Nat}{t:Addr}(ht:ts[j]?=some t):∃ e,es[j]?=some e/\H t=some (Tp e):=by
 have hl:=h.length;have hj:j < es.length:=by have:=(Ad.mp ht).1;omega
 obtain⟨t',h1,h2⟩:=h.at (Ab hj);rw [ht] at h1;cases h1;exact⟨_,Ab hj,h2⟩
structure Seen(kvs:List<|List Key×V)(tl:List Nt.End):Prop where
 mem:∀ e,(aA kvs<|dG e).isSome=true↔e∈tl
theorem Seen.put{kvs:List (List Key×V)}{tl:List Nt.End}(h:Seen kvs tl)(e:Nt.End)(v:V):Seen (putK kvs (dG e) v) (tl++[e]):=⟨λa=>by
 rw [fm,Ap,Ae]
 by_cases c:dG a=dG e
 ·rw [BL c];exact⟨λ_=> .inr<|q0a c,λ_=>rfl⟩
 ·rw [BK c,h.mem a];exact⟨λk=> .inl k,λk=>by
   rcases k with k | k
   ·exact k
   ·exact absurd (by rw [k]) c⟩⟩
def qN(n:Net)(ws:List<|List Nt.End):Net:=ws.zipIdx.map λx=>(iu x.2,x.1.map<|bg n)
theorem q4l(n:Net)(ws:List<|List Nt.End)(w:List Nt.End):qN n (ws++[w])=qN n ws++[(iu ws.length,w.map<|bg n)]:=by
 unfold qN;rw [MP,Al];simp
theorem Q7(n:Net)(ws:List<|List Nt.End):(qN n ws).length=ws.length:=by unfold qN;simp
theorem q2u{k:Nat}(h:k<=1000):(iu k).length<=10:=by
 have:=q2y h;unfold nO at this;unfold iu;rw [PB] at this ⊢;exact this
def qf:Sp:=λvs H Q _=>∃(R:Addr) (as:List<|Addr×Addr) (n:Net),vs=[.ref R]/\ai H R as n/\aj n/\n.length<=60/\(ag n).length<=60 /\
 ∀(L:Addr) (bs:List<|Addr×Addr) (H':Hp),ak H H'->H L=none->ai H' L bs (aC n)->(∀ a∈bs,H a.1=none/\H a.2=none)->Q (.ref L) H'
theorem k8k(n:Net):(bE n).length=(ag n).length:=by
 have:=BZ List.length<|mU n 0;rw [Aa] at this;exact this
section
variable{P:Program}{w:World}{K:PySem.W.Frag}{mg:Str->Option Value}{base:Heap}
abbrev Q8:List Str:=["_law_rows","_law_seats_here","_law_met","_law_made","_law_r","_law_place","_law_face_here","_law_end"]
abbrev vB:List Str:=["_law_rows","_law_seats_here","_law_met","_law_made","_law_r","_law_place","_law_face_here","?","_law_end"]
theorem vC:au Q8 ["_law_rows"] (bj wO):=⟨rfl,rfl,rfl,by decide +kernel,rfl,by decide +kernel,by decide +kernel⟩
theorem q8p:vB.Nodup:=by decide +kernel
theorem q6c{f:Addr}{fd:FuncData}(F:bW K "_law_other_net" "_law_other_net" wO f fd)(T:Txt mg)
  (GS:bB P w K mg base 3 "_law_seats" ["_law_rows"] wR)
  (GF:bB P w K mg base 3 "_law_face" ["_law_rows","_law_seats_here","_law_end"] wU) :
  aM P w K mg base cf 4 f fd ["_law_rows"] qf:=by
 refine F.gb vC (λvs H Q E h=>?_) λb0 H vs Q E hr h=>?_
 ·obtain⟨R,as,n,rfl,_⟩:=h;rfl
 obtain⟨R,as,n,rfl,hR,hT,hn,jA,q⟩:=h;have nd:=vC.nd;have hu:=hr.u1;have un:=hr.eN;have pD:=ik n;have bM:=hR.len;have xK:=k8k n;show Run _ _ _ [some<|.ref R,none,none,none,none,none,none,none] H;refine a9 1 nd (bY GS hr<|ah<|ae 0<|ay ⟨R,as,n,rfl,hR,by omega,by omega,λds ks H1 s1 n1 hSe=>?_⟩);refine a9 2 nd<|Wi λd hd=>?_;refine a9 3 nd<|du<|ay ⟨Z0,λL hL=>?_⟩;have yk:L≠d:=λe=>by rw [e,az] at hL;cases hL
 have lZ:H1 L=none:=by rw [aw yk] at hL;exact hL
 have s2:ak H1 (upd (upd H1 d<|.dT []) L<|.lst []):=(aQ hd _).trans<|aQ hL _;have j9:(upd (upd H1 d<|.dT []) L<|.lst []) d=some (.dT []):=by rw [aw<|Ne.symm yk,az]
 have Q9:e9 H1 (upd (upd H1 d<|.dT []) L<|.lst []) L [] (qN n []):=e9.nil az;show Run _ _ _ [some<|.ref R,some<|.ref ds,some<|.ref d,some<|.ref L,none,none,none,none] (upd (upd H1 d<|.dT []) L<|.lst []);generalize upd (upd H1 d<|.dT []) L (.lst [])=H2 at s2 j9 Q9
 let St:List (Str×Nt.End)->Hp->Prop:=λdone H'=>∃(kvs:List<|List Key×V) (tl:List Nt.End) (ws:List<|List Nt.End) (ls:List<|Addr×Addr),ak H1 H'/\H' d=some (.dT kvs)/\Seen kvs tl/\kvs.length<=100 * ws.length/\e9 H1 H' L ls (qN n ws)/\ws.length<=done.length/\(∀ b∈ls,b.1≠d/\b.2≠d) /\
  ∀ rest,ends n=done.map (·.2)++rest->iN n (ends n) []=ws++iN n rest tl
 have xB:(as.map λa=>V.ref a.1).length=n.length:=by rw [Aa,bM]
 refine jJ T.range<|cK dP T.len CT<|ah<|ae 0<|ay ⟨R,_,rfl,.inl<|al.of<|s2 _ _<|s1 _ _ hR.lst,?_⟩;rw [xB];refine⟨(n.length:Int),rfl,by omega,by omega,jK (n:=n.length) (λr σ H'=>∃(u4 u5 u6 u7:Option V),St (bE<|n.take r) H'/\σ=[some<|.ref R,some<|.ref ds,some<|.ref d,some<|.ref L,u4,u5,u6,u7])
  ⟨_,_,_,_,⟨[],[],[],[],s2,j9,⟨λe=>by simp [aA]⟩,Ao _,Q9,Ci _,λb h=>by simp at h,λrest h=>by rw [h];rfl⟩,rfl⟩ ?_ ?_⟩
 ·rintro r σ H' hi ⟨u4,u5,u6,u7,st,rfl⟩;refine bA 4 nd ?_;rw [Do];have sm:ak H1 H':=by obtain⟨_,_,_,_,sm,_⟩:=st;exact sm
  have xE:=(hR.same s1).same sm;obtain⟨a,ea,db,et,el,er⟩:=xE.at hi;have D4:(row n r).length<=60:=Cp (lI n r) jA;have st0:St (bE (n.take r)++bb r ((row n r).take 0) 0) H':=by
   have:bb r ((row n r).take 0) 0=[]:=by simp [bb]
   rw [this,Bc];exact st
  refine jJ T.range<|cK dP T.len CT<|ah<|bh cI<|bh dq<|ae 0<|ae 4 ⟨R,_,_,.ref a.1,rfl,rfl,al.of xE.lst,db,aF ⟨a.1,_,_,.ref a.2,rfl,rfl,aW.of et,rfl,ay ⟨a.2,_,rfl,.inl<|al.of el,?_⟩⟩⟩;rw [Aa];refine⟨((row n r).length:Int),rfl,by omega,by omega,jK (n:=(row n r).length) (λp σ H'=>∃(u5 u6 u7:Option V),St (bE (n.take r)++bb r ((row n r).take p) 0) H'/\σ=[some<|.ref R,some<|.ref ds,some<|.ref d,some<|.ref L,some<|.int (r:Int),u5,u6,u7])
   ⟨_,_,_,st0,rfl⟩ ?_ ?_⟩
  ·rintro p σ H3 hp ⟨u5,u6,u7,⟨kvs,tl,ws,ls,sm3,xZ,sn,kN,hB,sS,fB,Im⟩,rfl⟩;rw [Do];have hz:(row n r)[p]?=some (row n r)[p]:=Ab hp;have gR:=tS (r:=r) hz;obtain⟨rest,fN⟩:=xP hi hz;have Ra:ax n (r,p)=some (row n r)[p]:=hz;generalize (row n r)[p]=z at hz gR fN Ra;have he:((r,p):Nt.End)∈ends n:=af.mpr ⟨z,Ra⟩;have nS:ends n=(bE (n.take r)++bb r ((row n r).take p) 0).map (·.2)++(r,p) :: rest.map (·.2):=by
    unfold ends;rw [fN,Al];rfl
   have dl:(bE (n.take r)++bb r ((row n r).take p) 0).length < 60:=by
    have:=BZ List.length fN;rw [Ah,Ax] at this;omega
   have iQ:∀ d6,ends n=(bE (n.take r)++bb r ((row n r).take<|p+1) 0).map (·.2)++d6->d6=rest.map (·.2):=λd6 h=>by
    rw [gR,<- At,Al,At,nS] at h;exact((List.cons.inj<|List.append_cancel_left h).2).symm
   have ln1:(bE (n.take r)++bb r ((row n r).take<|p+1) 0).length=(bE (n.take r)++bb r ((row n r).take p) 0).length+1:=by rw [gR,<- At,Ah];rfl
   have jh:=Im _ nS;refine bA 5 nd ?_;refine gq<|A8 hu<|d7<|ah<|ae 4<|ah<|ae 5<|ay ⟨Z2,λt ht=>ae 2 ⟨d,_,rfl,bH.t (k:=dG (r,p)) ((aQ ht _) _ _ xZ) az,?_⟩⟩;have sT:=aQ ht<|Tp (r,p);have yl:=sT _ _ xZ;have vD:=sm3.trans sT;have ym:=hB.same sT;generalize vE:upd H3 t (Tp (r,p))=H4 at sT yl vD ym;have eH4:(upd H3 t<|HO.tup<|(dG (r,p)).map kV)=H4:=vE
   by_cases c:(r,p)∈tl
   ·rw [(sn.mem (r,p)).mpr c];refine cM<|a8<|a8 ⟨_,_,_,⟨kvs,tl,ws,ls,?_,?_,sn,kN,?_,by omega,fB,λd6 h=>?_⟩,rfl⟩
    ·exact vE ▸ vD
    ·exact vE ▸ yl
    ·exact vE ▸ ym
    ·rw [jh,iQ d6 h];show ws++(if(r,p)∈tl then _ else _)=_;rw [BL c]
   ·have uK:(aA kvs<|dG (r,p)).isSome=false:=by
     cases hv:(aA kvs<|dG (r,p)).isSome with
     | false=>rfl
     | true=>exact absurd ((sn.mem (r,p)).mp hv) c
    rw [uK];refine cB ?_;show Run _ _ _ [some<|.ref R,some<|.ref ds,some<|.ref d,some<|.ref L,some<|.int (r:Int),some<|.int (p:Int),u6,u7] (upd H3 t<|Tp (r,p));rw [vE];have gW:=(hR.same s1).same vD;have Io:=hSe.same vD;refine a9 6 nd<|bY GF hr<|ah<|ae 0<|ah<|ae 1<|ah<|d7<|ah<|ae 4<|ah<|ae 5<|ay ⟨Z2,λt2 cU=>?_⟩;have qg:=aQ cU<|Tp (r,p);refine ay ⟨R,ds,t2,as,n,ks,(r,p),rfl,gW.same qg,Io.same qg,hT,az,he,by omega,λl ts fs H5 s5 n5 e5 Ip hF=>?_⟩;have hfs:fs=face n (r,p):=hF.eq;have Iq:=(vD.trans qg).trans s5;have Ir:=s5 _ _<|qg _ _ yl;have k4:=(ym.same qg).same s5;have hfl:=hF.len;have pl:=Ip.length;have rL:l≠d:=λk=>by rw [k,qg _ _ yl] at n5;cases n5
    have nlL:l≠L:=λk=>by
     have:=qg _ _ ym.rows.lst;rw [<- k,n5] at this;cases this
    have hfe:∀ c∈fs,c∈ends n:=hF.ends hT he;have bl:ls.length=ws.length:=by have:=k4.rows.len;rw [Q7] at this;exact this
    have lU:=(hR.same s1).same Iq;show Run _ _ _ [some<|.ref R,some<|.ref ds,some<|.ref d,some<|.ref L,some<|.int (r:Int),some<|.int (p:Int),some<|.ref l,u7] H5;refine fQ<|jr<|ae 3 ⟨L,rfl,⟨_,k4.rows.lst⟩,d7<|ah<|aX Kk<|fP<|oQ k6d T.CA PyProof.Rows.boot_str<|ah<|cK dP T.len CT<|ah<|ae 3<|ay ⟨L,_,rfl,.inl<|al.of k4.rows.lst,ay ⟨((ws.length:Nat):Int),by rw [Aa,bl],k5a (by omega),_,_,rfl,rfl,?_,?_⟩⟩⟩
    ·rw [<- PB];have:=q2u (k:=ws.length) (by omega);exact small (show(iu ws.length).length<=100000 by omega)
    refine ah<|qR (bj wO) Q8 vB 1 (jm bI)<|ae 6 ⟨l,rfl,⟨_,al.of e5⟩,λD hD=>?_⟩;refine mX (xs:=ts.map V.ref) (λj σ' H7=>(∃ v,σ'=[some<|.ref R,some<|.ref ds,some<|.ref d,some<|.ref L,some<|.int (r:Int),some<|.int (p:Int),some<|.ref l,u7]++[v])/\ak H5 H7/\H7 D=some (Ls<|(fs.take j).map<|bg n)) ⟨⟨none,rfl⟩,aQ hD _,az⟩ ?_ ?_ ?_
    ·rintro j σ' H7 _ ⟨_,iT,_⟩;exact al.of<|iT _ _ e5
    ·rintro j x σ' H7 hx ⟨⟨v,rfl⟩,iT,yn⟩;rw [Ag,Az] at hx;obtain⟨tm,Iu,rfl⟩:=hx;obtain⟨e,rS,yo⟩:=Q6 Ip Iu;have rT:fs.take (j+1)=fs.take j++[e]:=by rw [Cr,rS];rfl
     have vF:=iT _ _ yo;obtain⟨ze,Iv⟩:=af.mp<|hfe e<|Ak rS;obtain⟨b,eb,ebt,ebp,ebl,ebr⟩:=(lU.same iT).at (cE Iv);have eY:(row n e.1)[e.2]?=some ze:=Iv;intro cl C s₀ H₀ ex;refine bA 8 q8p ?_;intro cl C s₀ H₀ ex;refine mP ?_;rw [BL rfl];intro cl C s₀ H₀ ex;have hj:j < fs.length:=(Ad.mp rS).1;refine bh dq<|bh cI<|bh dq<|ae 0<|bh cI<|ae 8<|aF ⟨tm,_,_,.int (e.1:Int),rfl,rfl,aW.of vF,rfl,R,_,_,.ref b.1,rfl,rfl,al.of<|iT _ _ lU.lst,ebt,aF ⟨b.1,_,_,.ref b.2,rfl,rfl,aW.of ebp,rfl,?_⟩⟩;refine bh cI<|ae 8<|aF ⟨tm,_,_,.int (e.2:Int),rfl,rfl,aW.of vF,rfl,b.2,_,_,.str ze,rfl,rfl,al.of ebl,tP eY,_,yn,?_,⟨_,rfl⟩,d9 iT hD,?_⟩
     ·rw [Aa,Aa,Bo];exact cn<|by omega
     ·rw [az,rT,Al];show some (HO.lst<|((fs.take j).map<|bg n).map V.str++[V.str ze])=some (HO.lst<|((fs.take j).map (bg n)++[bg n e]).map V.str);rw [Al,gT Iv];rfl
    rintro σ' H7 ⟨_,iT,yn⟩;rw [Aa,pl,Cb] at yn;have yp:=k4.same iT;have nin:D∉ls.map (·.2):=λhm=>by
     obtain⟨x,hx,ex⟩:=Aj.mp hm;have:=(k4.dM hx).2;rw [ex,hD] at this;exact this rfl
    have nDL:D≠L:=λk=>by
     have:=k4.rows.lst;rw [<- k,hD] at this;cases this
    have nDd:D≠d:=λk=>by rw [k,Ir] at hD;cases hD
    refine ay ⟨Z2,λt' gI=>?_⟩;have vG:=Iq.trans iT;have nt0:H1 t'=none:=vG.free gI;have ntd:t'≠d:=λk=>by rw [k,iT _ _ Ir] at gI;cases gI
    have Rb:t'≠L:=λk=>by
     have:=yp.rows.lst;rw [<- k,gI] at this;cases this
    have me:=yp.add (p:=iu ws.length) yn (Iq.free hD) nin nDL gI nt0;rw [<- q4l] at me;have vH:=aQ gI<|.tup [.str<|iu ws.length,.ref D];have Rc:ak H1 (upd (upd H7 t'<|.tup [.str<|iu ws.length,.ref D]) L<|.lst<|(ls.map λa=>V.ref a.1)++[.ref t']):=d9 (vG.trans vH) lZ;have Iw:(upd (upd H7 t'<|.tup [.str<|iu ws.length,.ref D]) L<|.lst<|(ls.map λa=>V.ref a.1)++[.ref t']) d=some (.dT kvs):=by rw [aw<|Ne.symm yk];exact vH _ _<|iT _ _ Ir
    have Rf:∀{b e},H5 b=some (Tp e)->(upd (upd H7 t'<|.tup [.str<|iu ws.length,.ref D]) L<|.lst<|(ls.map λa=>V.ref a.1)++[.ref t']) b=some (Tp e):=λ{b e} h=>by
     rw [aw<|eF (iT _ _ h) yp.rows.lst λz=>nomatch z];exact vH _ _<|iT _ _ h
    have e8:(upd (upd H7 t'<|.tup [.str<|iu ws.length,.ref D]) L<|.lst<|(ls.map λa=>V.ref a.1)++[.ref t']) l=some (.lst<|ts.map V.ref):=by rw [aw nlL];exact vH _ _<|iT _ _ e5
    refine⟨_,vH _ _ yp.rows.lst,by rw [Aa,bl];exact cn (by omega),?_⟩;show Run _ _ _ [some<|.ref R,some<|.ref ds,some<|.ref d,some<|.ref L,some<|.int (r:Int),some<|.int (p:Int),some<|.ref l,u7] (upd (upd H7 t'<|.tup [.str<|iu ws.length,.ref D]) L<|.lst<|(ls.map λa=>V.ref a.1)++[.ref t']);generalize upd (upd H7 t'<|.tup [.str<|iu ws.length,.ref D]) L (.lst<|(ls.map λa=>V.ref a.1)++[.ref t'])=H8 at me Rc Iw Rf e8;have pd8:Pd H8 ts fs:=Ip.keep λb e h=>Rf h;refine jn<|ae 6 ⟨l,rfl,⟨_,al.of e8⟩,?_⟩;refine jo (xs:=ts.map V.ref) (λm σ H6=>∃(nU:List<|List Key×V) (u7:Option V),(∀ b o,b≠d->H8 b=some o->H6 b=some o)/\H6 d=some (.dT nU)/\Seen nU (tl++fs.take m)/\nU.length<=kvs.length+m /\
     σ=[some<|.ref R,some<|.ref ds,some<|.ref d,some<|.ref L,some<|.int (r:Int),some<|.int (p:Int),some<|.ref l,u7]) ⟨kvs,_,λb o _ h=>h,Iw,by rw [List.take_zero,Bc];exact sn,Ao _,rfl⟩ ?_ ?_ ?_
    ·rintro m σ H6 _ ⟨_,_,k6,_⟩;exact al.of<|k6 _ _ rL e8
    ·rintro m x σ H6 hx ⟨nU,Rg,k6,Iy,yq,Rh,rfl⟩;rw [Ag,Az] at hx;obtain⟨tm,Iu,rfl⟩:=hx;obtain⟨e,rS,yo⟩:=Q6 pd8 Iu;have hmf:m < fs.length:=(Ad.mp rS).1;have rT:fs.take (m+1)=fs.take m++[e]:=by rw [Cr,rS];rfl
     have Iz:=k6 _ _ (eF yo Iw λz=>nomatch z) yo;refine bA 7 nd ?_;refine tM hu<|kD<|ae 2<|ae 7 ⟨d,_,rfl,cC.t (k:=dG e) Iy Iz (cn<|by omega),a8 ⟨_,_,λb o hb h=>by rw [aw hb];exact k6 b o hb h,az,?_,?_,rfl⟩⟩
     ·rw [rT,<- At];exact yq.put e _
     ·have:=mG nU (dG e)<|.bl true;omega
    ·rintro σ H6 ⟨nU,Rg,k6,Iy,yq,Rh,rfl⟩;rw [Aa,pl,Cb] at yq;rw [Aa,pl] at Rh;have sm6:ak H1 H6:=λb o h=>k6 b o (bP h hd)<|Rc _ _ h;have IA:∀ b∈ls++[(t',D)],b.1≠d/\b.2≠d:=λb hb=>by
      rcases Ap.mp hb with hb | hb
      ·exact fB b hb
      ·rw [Ae.mp hb];exact⟨ntd,nDd⟩
     have hB6:e9 H1 H6 L (ls++[(t',D)]) (qN n<|ws++[fs]):=⟨⟨me.rows.len,k6 _ _ yk me.rows.lst,λi a r h1 h2=>⟨k6 _ _ (IA a<|Ak h1).1 (me.rows.tup i a r h1 h2).1,k6 _ _ (IA a<|Ak h1).2 (me.rows.tup i a r h1 h2).2⟩,me.rows.inj⟩,me.new,me.nD⟩;refine a8<|a8 ⟨_,_,_,⟨nU,tl++fs,ws++[fs],ls++[(t',D)],sm6,Iy,yq,?_,hB6,?_,IA,λd6 h=>?_⟩,rfl⟩
     ·rw [Ah];show nU.length<=100 * (ws.length+1);omega
     ·rw [Ah];show ws.length+1<=_;omega
     ·rw [jh,iQ d6 h];show ws++(if(r,p)∈tl then _ else _)=_;rw [BK c,<- hfs,At];rfl
  ·rintro σ H' ⟨u5',u6',Rg,cS,rfl⟩;have e0:bE (n.take<|r+1)=bE (n.take r)++bb r ((row n r).take (row n r).length) 0:=by
    rw [tR hi,Cb]
   rw [<- e0] at cS;exact a8 ⟨_,_,_,_,cS,rfl⟩
 ·rintro σ H' ⟨u4,u5,u6,u7,⟨kvs,tl,ws,ls,sm,ed,sn,kN,hB,sS,fB,Im⟩,rfl⟩;have jh:iN n (ends n) []=ws:=by
   have:=Im [] (by rw [Cb,Bc];rfl);rw [this];exact Bc _
  have bl:ls.length=ws.length:=by have:=hB.rows.len;rw [Q7] at this;exact this
  have oq:aC n=qN n (bd n):=rfl;refine gq<|dv (wz un)<|ae 3<|du<|ay ⟨Z0,λp hp=>?_⟩;have sP:=aQ hp<|.lst []
  by_cases c:ends n=[]
  ·have IB:ws=[]:=by rw [<- jh,c];rfl
   subst IB;have hb0:ls=[]:=Bk.mp bl;subst hb0;refine⟨1,true,by decide,xl (zs:=[]) (sP _ _ hB.rows.lst) az,_,rfl,cB<|cD<|du<|ah<|d7<|ah<|fP<|ah<|du<|ay ⟨Z0,λl hl=>ay ⟨Z2,λt ht=>ay ⟨Z1,λZ hZ=>?_⟩⟩⟩⟩;have Ri:=aQ hl<|.lst [];have Rj:=aQ ht<|.tup [.str "q0",.ref l];have IC:=aQ hZ<|.lst [.ref t];have sA:=(s1.trans sm).trans sP;have sB:=(sA.trans Ri).trans Rj;have ef:bd n=[[]]:=by unfold bd;rw [BL c]
   refine q Z [(t,l)] _ (sB.trans IC) (sB.free hZ) ?_ λb hb=>by rw [Ae.mp hb];exact⟨(sA.trans Ri).free ht,sA.free hl⟩
   rw [oq,ef];refine⟨rfl,az,λj a r h1 h2=>?_,by simp⟩;cases j with
   | zero=>
    cases h1;cases h2;exact⟨IC _ _ az,IC _ _<|Rj _ _ az⟩
   | succ j=>simp at h1
  ·have ef:bd n=ws:=by unfold bd;rw [BK c];exact jh
   have IB:ws.length≠0:=by
    rw [<- jh];cases hx:ends n with
    | nil=>exact absurd hx c
    | cons x xs=>
     unfold iN;rw [BK Ds];exact Nat.succ_ne_zero _
   refine⟨1,false,by decide,?_,_,rfl,cM<|a8<|cD<|ae 3 ?_⟩
   ·exact Mf (k:=1) (al.of<|sP _ _ hB.rows.lst) (al.of (xs:=[]) az)<|by rw [Aa,bl];exact IB
   ·refine q L ls _ ((s1.trans sm).trans sP) (s1.free lZ) ?_ λb hb=>⟨s1.free (hB.new b hb).1,s1.free (hB.new b hb).2⟩;rw [oq,ef];exact hB.rows.same sP
end
end A5
namespace b4
open PySem PySem.W PyProof.Rows PySem.SeqAt
open PySem.AutoSeq1 (wpAny_loadPart')
open PySem.MeetsSeq PySem.MeetsSeq2 PySem.MeetsSeq3
def aK:List Str->List Str->Bool
 | [],[]=>false
 | [],_ :: _=>true
 | _ :: _,[]=>false
 | x :: xs,y :: ys=>if x=y then aK xs ys else decide (x.cps.toList < y.cps.toList)
theorem yr:∀{a b:List Str},a≠b->aK a b=true\/aK b a=true
 | [],[],h=>absurd rfl h
 | [],_ :: _,_=> .inl rfl
 | _ :: _,[],_=> .inr rfl
 | x :: xs,y :: ys,h=>by
  show(if x=y then aK xs ys else decide (x.cps.toList < y.cps.toList))=true\/(if y=x then aK ys xs else decide (y.cps.toList < x.cps.toList))=true
  by_cases e:x=y
  ·rw [BL e,BL e.symm];exact yr λq=>h<|by rw [e,q]
  ·rw [BK e,BK λq=>e q.symm,DR,DR]
   by_cases c:x.cps.toList < y.cps.toList
   ·exact .inl c
   ·refine .inr<|BX λd=>e<|Ow<|List.le_antisymm (Gv.mp d)<|Gv.mp c
theorem mh:∀{a b:List Str},aK a b=true->aK b a=false
 | [],[],_=>rfl
 | [],_ :: _,_=>rfl
 | _ :: _,[],h=>by cases h
 | x :: xs,y :: ys,h=>by
  show(if y=x then aK ys xs else decide (y.cps.toList < x.cps.toList))=false;have h2:(if x=y then aK xs ys else decide (x.cps.toList < y.cps.toList))=true:=h
  by_cases e:x=y
  ·rw [BL e] at h2;rw [BL e.symm];exact mh h2
  ·rw [BK e] at h2;rw [BK λq=>e q.symm];exact BW λq=>Gm _<|Fz (CG h2) q
theorem yt:∀{a b c:List Str},aK a b=true->aK b c=true->aK a c=true
 | [],[],_,h,_=>by cases h
 | [],_ :: _,[],_,h=>by cases h
 | [],_ :: _,_ :: _,_,_=>rfl
 | _ :: _,[],_,h,_=>by cases h
 | _ :: _,_ :: _,[],_,h=>by cases h
 | x :: xs,y :: ys,z :: zs,h,k=>by
  have h2:(if x=y then aK xs ys else decide (x.cps.toList < y.cps.toList))=true:=h;have k2:(if y=z then aK ys zs else decide (y.cps.toList < z.cps.toList))=true:=k;show(if x=z then aK xs zs else decide (x.cps.toList < z.cps.toList))=true
  by_cases e:x=y
  ·rw [BL e] at h2
   by_cases d:y=z
   ·rw [BL d] at k2;rw [BL<|e.trans d];exact yt h2 k2
   ·rw [BK d] at k2;rw [e,BK d];exact k2
  ·rw [BK e] at h2;have l1:=CG h2
   by_cases d:y=z
   ·rw [<- d,BK e];exact h2
   ·rw [BK d] at k2;have l2:=Fz l1<|CG k2;rw [BK λq=>Gm _<|by rw [q] at l2;exact l2];exact BR l2
def SX(xs:Array Value)(zs:List Str):Prop:=xs.size=zs.length/\∀(i:Nat) (h:i < xs.size) (k:i < zs.length),∃ t,xs[i]=Value.str zs[i] t
theorem k8o(l b:Addr)(items bv:Array Value)(n n2:Nat)(dd nV:Option Addr)(sl nW:Array<|Option Value)(zs us:List Str)(hz:SX items zs)(hu:SX bv us)(k:Nat) :
  ∀ i:Nat,items.size - i=k->i<=items.size->i<=bv.size->Meets (Builtin.«list.__eq__.loop» ⟨[.ref l,.ref b,rawInt i,rawInt 0],[]⟩)
   (λ_ R s => s.heap.get? l = some { cls := .type "list", dict := dd, data := .seq items n, slots := sl } ∧ s.heap.get? b = some { cls := .type "list", dict := nV, data := .seq bv n2, slots := nW } ∧
    R (.ok<|.ret<|.bool<|aK (zs.drop i)<|us.drop i) s):=by
 have z1:=hz.1;have z2:=hu.1
 induction k with
 | zero=>
  intro i hk g1 g2 prog w A R s h;obtain⟨hp,g,d,tk,os⟩:=s;obtain⟨hl,hb,h⟩:=h
  wp_walk using DN hl,DN hb
  have yu:items[((i:Nat):Int).toNat]?=none:=by simp;omega
  have hd:zs.drop i=[]:=by simp;omega
  rw [hd] at h;rw [yu];have e:aK [] (us.drop i)=decide (items.size < bv.size):=by
   cases q:us.drop i with
   | nil=>
    have:us.length<=i:=by simpa using q
    exact(BW<|by omega).symm
   | cons x y=>
    have:i < us.length:=by
     refine BX λc=>?_;rw [Ee<|by omega] at q;cases q
    exact(BR<|by omega).symm
  rw [e] at h
  wp_walk using DN hl,DN hb
  exact h
 | succ k ih=>
  intro i hk g1 g2 prog w A R s h;obtain⟨hp,g,d,tk,os⟩:=s;obtain⟨hl,hb,h⟩:=h
  wp_walk using DN hl,DN hb
  have aT:i < items.size:=by omega
  have yu:items[((i:Nat):Int).toNat]?=some items[i]:=by simp [aT]
  have Rk:i < zs.length:=by omega
  obtain⟨t,ht⟩:=hz.2 i aT Rk;rw [Es Rk] at h;rw [yu]
  by_cases c:i < bv.size
  ·have mR:bv[((i:Nat):Int).toNat]?=some bv[i]:=by simp [c]
   have Rl:i < us.length:=by omega
   obtain⟨u,Rm⟩:=hu.2 i c Rl;have hc:((i:Int)+1)=((i+1:Nat):Int):=by push_cast;rfl
   rw [Es Rl] at h;rw [mR,ht,Rm];have h2:R (.ok<|.ret<|.bool (if zs[i]=us[i] then aK (zs.drop<|i+1) (us.drop<|i+1) else decide (zs[i].cps.toList < us[i].cps.toList))) ⟨hp,g,d,tk,os⟩:=h;refine BJ<|EqAt.str_str (A:=A.in1) zs[i] t us[i] u prog w _ _ ?_;cases i7:(zs[i] == us[i]) with
   | true=>
    rw [BL<|beq_iff_eq.mp i7] at h2
    wp_walk
    rw [hc];exact⟨FP plain_eq_loop _,FN entry_eq_loop<|by
     rw [DK plain_eq_loop _];exact ih (i+1) (by omega) (by omega) (by omega) prog w A R _ ⟨hl,hb,h2⟩⟩
   | false=>
    rw [BK<|beq_eq_false_iff_ne.mp i7] at h2
    wp_walk using DN hl,DN hb
    rw [yu,mR,ht,Rm];refine BJ (show wpAny (model prog w) A.in1 (compareOp .Lt (.str zs[i] t)<|.str us[i] u) _ _ _ from lt_str ?_)
    wp_walk
    exact h2
  ·have mR:bv[((i:Nat):Int).toNat]?=none:=by simp;omega
   have hd:us.drop i=[]:=by simp;omega
   rw [hd] at h;rw [mR];have e:aK (zs[i] :: zs.drop (i+1)) []=decide (items.size < bv.size):=(BW<|by omega).symm;rw [e] at h
   wp_walk using DN hl,DN hb
   exact h
theorem Rn(l b:Addr)(items bv:Array Value)(n n2:Nat)(dd nV:Option Addr)(sl nW:Array<|Option Value)(zs us:List Str)(hz:SX items zs)(hu:SX bv us) :
  Meets (Builtin.«list.__lt__» ⟨[.ref l,.ref b],[]⟩)
   (λ_ R s => s.heap.get? l = some { cls := .type "list", dict := dd, data := .seq items n, slots := sl } ∧ s.heap.get? b = some { cls := .type "list", dict := nV, data := .seq bv n2, slots := nW } ∧
    R (.ok<|.ret<|.bool<|aK zs us) s):=by
 intro prog w A R s h;obtain⟨hp,g,d,tk,os⟩:=s;obtain⟨hl,hb,h⟩:=h;have f3:=AutoSeq1.sub_list_list
 wp_walk using DN hl,DN hb
 exact⟨FP plain_eq_loop _,FN entry_eq_loop<|by
  rw [DK plain_eq_loop _];exact k8o l b items bv n n2 dd nV sl nW zs us hz hu _ 0 rfl (Ci _) (Ci _) prog w A R _ ⟨hl,hb,h⟩⟩
def ki(h:Heap)(v:Value)(z:List Str):Prop:=∃ a o xs n,v = .ref a/\h.get? a=some o/\o.cls = .type "list"/\o.data = .seq xs n/\SX xs z
theorem ki.keep{h h':Heap}{v:Value}{z:List Str}(x:ki h v z)(k:∀ a o,v = .ref a->h.get? a=some o->h'.get? a=some o):ki h' v z:=by
 obtain⟨a,o,xs,n,e,h1,h2⟩:=x;exact⟨a,o,xs,n,e,k a o e h1,h2⟩
def fH(h:Heap)(vs:List Value)(zs:List<|List Str):Prop:=vs.length=zs.length/\∀(i:Nat) v z,vs[i]?=some v->zs[i]?=some z->ki h v z
def mj(zs:List<|List Str)(i j:Nat):Bool:=aK (zs.getD i [])<|zs.getD j []
section
variable{prog:Program}{w:World}{A:Around}{E:Value->Shared->Prop}{s:Shared}
theorem Ro{x y:Value}{z u:List Str}{Q:Bool->Shared->Prop}(hA:A.units < cLine)(hx:ki s.heap x z)(hy:ki s.heap y u)(h:Q (aK z u) s):wpAny (model prog w) A (keyLt' oneType' x y) Q E s:=by
 obtain⟨a,⟨cls,dd,data,sl⟩,xs,n,rfl,h1,h2,h3,h4⟩:=hx;obtain⟨b,⟨IE,nV,data2,nW⟩,ys,n',rfl,g1,g2,g3,g4⟩:=hy;simp only at h2 h3 g2 g3;subst h2 h3 g2 g3;rw [keyLt'_oneType,oneLt'_eq];simp only [DW];refine BJ<|wpAny_cRoomFor hA ?_;refine BJ<|wpAny_callSpecialIfBound?_slot ⟨_,h1,rfl⟩ KZ<|JD KZ ⟨_,h1,rfl⟩ SQ (RT _ _) (Rn a b xs ys n n' dd nV sl nW z u h4 g4) ⟨h1,g1,?_⟩;exact FJ h
theorem q0y{vs:List Value}{zs:List (List Str)}(hA:A.units < cLine)(hh:fH s.heap vs zs)(hn:zs.Nodup):dE (mj zs) (kas_ask prog w A oneType' vs) (λs'=>s'=s) vs.length:=by
 have hl:=hh.1;have gz:∀ i,(hi:i < zs.length)->zs.getD i []=zs[i]:=λi hi=>by simp [hi]
 have gv:∀ i,(hi:i < vs.length)->vs.getD i Value.none=vs[i]:=λi hi=>by simp [hi]
 have ne:∀ i j,(hi:i < zs.length)->(hj:j < zs.length)->i≠j->zs[i]≠zs[j]:=λi j hi hj dD e=>by
  rcases Nat.lt_or_gt_of_ne dD with c | c
  ·exact Bh.mp (Bv.mp hn) i j hi hj c e
  ·exact Bh.mp (Bv.mp hn) j i hj hi c e.symm
 refine⟨λi j C s' hi hj dD hs hC=>?_,λi j hi hj dD=>?_,λi j h=>mh h,λi j k h1 h2=>yt h1 h2⟩
 ·subst hs;unfold kas_ask;rw [gv i hi,gv j hj];have e:mj zs i j=aK zs[i] zs[j]:=by unfold mj;rw [gz i (by omega),gz j<|by omega]
  refine Ro hA (hh.2 i _ zs[i] (Ab hi)<|Ab<|by omega) (hh.2 j _ zs[j] (Ab hj)<|Ab<|by omega) ?_;rw [<- e];exact hC s' rfl
 ·unfold mj;rw [gz i (by omega),gz j<|by omega];exact yr<|ne i j (by omega) (by omega) dD
end
end b4
namespace L2
open PySem PySem.Spec PyProof.Rows b4
theorem q3r:∀{zs:List Str} {its:List Value},av (zs.map V.str) its->SX its.toArray zs:=λ{zs its} r=>by
 have hl:its.length=zs.length:=by have:=r.length;rw [Aa] at this;exact this.symm
 refine⟨by rw [Aw];exact hl,λi h k=>?_⟩;have:∀{zs:List Str} {its:List Value},av (zs.map V.str) its->∀(i:Nat) (h:i < its.length) (k:i < zs.length),∃ t,its[i]=Value.str zs[i] t:=by
  intro zs
  induction zs with
  | nil=>intro its r i h k;exact absurd k<|Gc _
  | cons z zs ih=>
   intro its r i h k;cases r with
   | cons a b=>
    obtain⟨t,rfl⟩:=a;cases i with
    | zero=>exact⟨t,rfl⟩
    | succ i=>exact ih b i (Gi h)<|Gi k
 simpa using this r i (by simpa using h) k
section
variable{X:Cx}{σ:St}{H:Hp}
end
end L2
namespace b4
open PySem PySem.W PyProof.Rows PySem.SeqAt PySem.MeetsSeq PySem.MeetsSeq2 PySem.MeetsSeq3
section
variable{prog:Program}{w:World}{A:Around}{E:Value->Shared->Prop}{s:Shared}
theorem q5e{x y:Value}{z u:List Str}{Q:Value->Shared->Prop}(hA:A.units < cLine)(hx:ki s.heap x z)(hy:ki s.heap y u)(h:Q (.bool<|aK z u) s):wpAny (model prog w) A (richCompare .Lt x y) Q E s:=by
 obtain⟨a,⟨cls,dd,data,sl⟩,xs,n,rfl,h1,h2,h3,h4⟩:=hx;obtain⟨b,⟨IE,nV,data2,nW⟩,ys,n',rfl,g1,g2,g3,g4⟩:=hy;simp only at h2 h3 g2 g3;subst h2 h3 g2 g3;exact richCompare_meets_room (op:= .Lt) ⟨_,h1,rfl⟩ ⟨_,g1,rfl⟩ KZ SQ (RT _ _) (Rn a b xs ys n n' dd nV sl nW z u h4 g4)
  ⟨h1,g1,show Value.bool (aK z u)≠Value.notImplemented/\Q (.bool<|aK z u) s from⟨(λx=>nomatch x),h⟩⟩ hA
def cu(zs:List<|List Str)(k m:Nat):Prop:=∀(i:Nat) z zm,i < k->zs[i]?=some z->zs[m]?=some zm->aK z zm=false
theorem cu.keep{zs:List (List Str)}{k m:Nat}{z zm:List Str}(h:cu zs k m)(hz:zs[k]?=some z)(hm:zs[m]?=some zm)(hb:aK z zm=false):cu zs (k+1) m:=λi x xm hi hx mY=>by
 rcases Ff.mp hi with c | rfl
 ·exact h i x xm c hx mY
 ·rw [hz] at hx;cases hx;rw [hm] at mY;cases mY;exact hb
theorem cu.new{zs:List (List Str)}{k m:Nat}{z zm:List Str}(h:cu zs k m)(hz:zs[k]?=some z)(hm:zs[m]?=some zm)(hb:aK z zm=true):cu zs (k+1) k:=λi x xm hi hx mY=>by
 rw [hz] at mY;cases mY
 rcases Ff.mp hi with c | rfl
 ·refine Ez.mpr λq=>?_;have:=h i x zm c hx hm;rw [yt q hb] at this;cases this
 ·rw [hz] at hx;cases hx;cases hq:aK z z with
  | false=>rfl
  | true=>have:=mh hq;rw [hq] at this;cases this
theorem ki.up{h h':Heap}{v:Value}{z:List Str}(x:ki h v z)(k:∀ b o,h.get? b=some o->h'.get? b=some o):ki h' v z:=x.keep λa o _ q=>k a o q
theorem IG{h h':Heap}{l:Addr}{xs:Array Value}(x:h.IsList l xs)(k:∀ b o,h.get? b=some o->h'.get? b=some o):h'.IsList l xs:=by
 obtain⟨o,h1,h2⟩:=x;exact⟨o,k _ _ h1,h2⟩
variable{R:Result->Shared->Prop}{l I S:Addr}{vs:List Value}{zs:List (List Str)}
theorem q0o(hh:A.handled=none)(hA:A.units+8 < cLine)(hl:s.heap.IsList l vs.toArray)(hd:fH s.heap vs zs)(qh:I≠S)(fI:s.heap.get? I=none)(fS:s.heap.get? S=none)
  (hR:∀(h':Heap) (m:Nat) (v:Value),vs[m]?=some v->cu zs vs.length m->(∀ b o,s.heap.get? b=some o->h'.get? b=some o)->R (.ok<|.ret v) {s with heap:=h'}) :
  ∀(k j:Nat) (h:Heap) (vb:Value) (c m:Nat),vs.length - (j+1)=k->j+1<=vs.length->(∀ b o,s.heap.get? b=some o->h.get? b=some o)->h.IsListIter I l (j+1) ->
  h.get? S=some {cls:= .type "list",dict:=none,data:= .seq #[vb,vb] c,slots:=#[]}->vs[m]?=some vb->cu zs (j+1) m->codeAny (model prog w) A (.builtin "min.loop" ⟨[.ref I,.none,.ref S],[]⟩) R {s with heap:=h}:=by
 have dU:(toString "min"++toString ".loop" : String) = "min.loop":=by decide
 have Rp:∀{b o},s.heap.get? b=some o->b≠I:=λq e=>by rw [e,fI] at q;cases q
 have yv:∀{b o},s.heap.get? b=some o->S≠b:=λq e=>by rw [<- e,fS] at q;cases q
 have lz:=hd.1;intro k
 induction k with
 | zero=>
  intro j h vb c m hk hj kp hit hS vI hm;have wm:j+1=vs.length:=by omega
  refine FN QV ?_;rw [DK GD _];show wpAny _ A.in1 (seqItems? (.ref S) >>= _) _ _ {s with heap:=h};refine BJ<|JB (s:={s with heap:=h}) hS rfl ?_;show wpAny _ A.in1 (tryCatch (pyNext<|.ref I) _ >>= _) _ _ {s with heap:=h};refine BJ (JR<|KC (s:={s with heap:=h}) hh hit (IG hl kp) (by simp;omega) λh1 eb=>?_);have nX:∀ b o,b≠I->h.get? b=some o->h1.get? b=some o:=λb o hb q=>eb b o hb q;have jO:=nX S _ (Ne.symm qh) hS;show wpAny _ A.in1 (updateSeq S (λ_=>#[]) >>= _) _ _ _;refine BJ ?_;refine JG jO rfl (BJ<|RV<|BP ?_);refine hR _ m vb vI (by rw [<- wm];exact hm) λb o q=>?_;exact(Bg _ _<|yv q).trans<|nX b o (Rp q)<|kp b o q
 | succ k ih=>
  intro j h vb c m hk hj kp hit hS vI hm;have aT:j+1 < vs.length:=by omega
  have hv:=Ab aT;obtain⟨v,hv⟩:∃ v,vs[j+1]?=some v:=⟨_,hv⟩;obtain⟨z,hz⟩:∃ z,zs[j+1]?=some z:=⟨_,Ab<|by omega⟩;have Zb:=(Ad.mp vI).1;obtain⟨zm,rU⟩:∃ zm,zs[m]?=some zm:=⟨_,Ab<|by omega⟩;refine FN QV ?_;rw [DK GD _];show wpAny _ A.in1 (seqItems? (.ref S) >>= _) _ _ {s with heap:=h};refine BJ<|JB (s:={s with heap:=h}) hS rfl ?_;show wpAny _ A.in1 (tryCatch (pyNext<|.ref I) _ >>= _) _ _ {s with heap:=h};refine BJ (JR<|HY (s:={s with heap:=h}) hit (IG hl kp) (x:=v) (by simpa using hv) λh1 mq sb=>?_);have nX:∀ b o,b≠I->h.get? b=some o->h1.get? b=some o:=λb o hb q=>(sb.2 b hb).trans q;have mQ:∀ b o,s.heap.get? b=some o->h1.get? b=some o:=λb o q=>nX b o (Rp q)<|kp b o q;have jO:=nX S _ (Ne.symm qh) hS;show wpAny _ A.in1 (tryCatch (holding [v,v]<|richCompare .Lt v vb >>= _) _ >>= _) _ _ _;refine BJ (JR<|CP<|BJ<|q5e (s:={s with heap:=h1}) (by show A.units+1 < cLine;omega) ((hd.2 _ v z hv hz).up mQ) ((hd.2 _ vb zm vI rU).up mQ) ?_);refine BJ<|CP<|FJ ?_;refine BJ<|RV<|BP ?_;cases hb:aK z zm with
  | true=>
   simp only [DW];refine BJ ?_;refine JG jO rfl (BJ<|RV ?_);rw [dU];refine BP ⟨FP GD _,ih (j+1) _ v _ (j+1) (by omega) aT (λb o q=>(Bg _ _<|yv q).trans<|mQ b o q) ?_ (Cs _ jO rfl) hv<|hm.new hz rU hb⟩;obtain⟨o,ho,hc⟩:=mq;exact⟨o,(Bg _ _<|Ne.symm qh).trans ho,hc⟩
  | false=>
   simp only [Cc,CW];refine BJ<|RV ?_;rw [dU];exact BP ⟨FP GD _,ih (j+1) h1 vb c m (by omega) aT mQ mq jO vI<|hm.keep hz rU hb⟩
theorem k5x{Q:Value->Shared->Prop}(hh:A.handled=none)(hA:A.units+16 < cLine)(hl:s.heap.IsList l vs.toArray)(hd:fH s.heap vs zs)(h0:0 < vs.length)
  (hQ:∀(h':Heap) (m:Nat) (v:Value),vs[m]?=some v->cu zs vs.length m->(∀ b o,s.heap.get? b=some o->h'.get? b=some o)->Q v {s with heap:=h'}) :
  wpAny (model prog w) A (call (.builtin "min") [.ref l]) Q E s:=by
 have dU:(toString "min"++toString ".loop" : String) = "min.loop":=by decide
 refine call_function_tree F.kind_min F.plain_min F.entry_min (F.args_min1 _) ?_;show wpAny _ A.in1 (Builtin.Builtins.bindParams "min" ["key","default"] 0 ⟨[],[]⟩ >>= _) _ _ s;refine BJ<|wpAny_of_eq (show Builtin.Builtins.bindParams "min" ["key","default"] 0 ⟨[],[]⟩=pure [none,none] from rfl) ?_;refine BJ<|BP ?_;refine BJ<|NZ hl ?_;refine BJ<|FW ?_;rw [dU];have hsz:(s.heap.push {cls:= .type "list_iterator",data:= .fields #[.ref l,.int 0 0]}).objs.size=s.heap.objs.size+1:=PK ..;have fI:s.heap.get? s.heap.objs.size=none:=Gu<|Ao _;have fS:s.heap.get? (s.heap.objs.size+1)=none:=Gu<|Eh _;have qh:s.heap.objs.size≠s.heap.objs.size+1:=Cg<|Gp _;refine BP ⟨FP GD _,?_⟩;refine FN QV ?_;rw [DK GD _];show wpAny _ A.in1 (seqItems? (.ref (s.heap.push {cls:= .type "list_iterator",data:= .fields #[.ref l,.int 0 0]}).objs.size) >>= _) _ _ _;have kp:∀ b o,s.heap.get? b=some o->((s.heap.push {cls:= .type "list_iterator",data:= .fields #[.ref l,.int 0 0]}).push {cls:= .type "list",dict:=none,data:= .seq #[] 0,slots:=#[]}).get? b=some o:=λb o q=>Ai _<|Ai _ q;have hS:((s.heap.push {cls:= .type "list_iterator",data:= .fields #[.ref l,.int 0 0]}).push {cls:= .type "list",dict:=none,data:= .seq #[] 0,slots:=#[]}).get? (s.heap.objs.size+1)=some {cls:= .type "list",dict:=none,data:= .seq #[] 0,slots:=#[]}:=by
  rw [<- hsz];exact Be _ rfl
 have hI:((s.heap.push {cls:= .type "list_iterator",data:= .fields #[.ref l,.int 0 0]}).push {cls:= .type "list",dict:=none,data:= .seq #[] 0,slots:=#[]}).IsListIter s.heap.objs.size l 0:=⟨_,Ai _<|Be _ rfl,rfl,rfl⟩;rw [hsz];refine BJ<|JB (s:={s with heap:=_}) hS rfl ?_;show wpAny _ A.in1 (tryCatch (pyNext<|.ref s.heap.objs.size) _ >>= _) _ _ _;obtain⟨v,hv⟩:∃ v,vs[0]?=some v:=⟨_,Ab h0⟩;refine BJ (JR<|HY (s:={s with heap:=_}) hI (IG hl kp) (x:=v) (by simpa using hv) λh1 mq sb=>?_);have nX:∀ b o,b≠s.heap.objs.size->_->h1.get? b=some o:=λb o hb q=>(sb.2 b hb).trans q;have jO:=nX _ _ (Ne.symm qh) hS;show wpAny _ A.in1 (updateSeq (s.heap.objs.size+1) (λ_=>#[v,v]) >>= _) _ _ _;refine BJ ?_;refine JG jO rfl ?_;rw [dU];have yv:∀{b o},s.heap.get? b=some o->s.heap.objs.size+1≠b:=λq e=>by rw [<- e,fS] at q;cases q
 refine BP ⟨FP GD _,q0o hh (by omega) hl hd qh fI fS (λh' m v' q1 q2 q3=>hQ h' m v' q1 q2 q3) _ 0 _ v _ 0 rfl h0 (λb o q=>?_) ?_ (Cs _ jO rfl) hv λi z zm hi hz rU=>?_⟩
 ·exact(Bg _ _<|yv q).trans<|nX b o (λe=>by rw [e,fI] at q;cases q)<|kp b o q
 ·obtain⟨o,ho,hc⟩:=mq;exact⟨o,(Bg _ _<|Ne.symm qh).trans ho,hc⟩
 ·obtain rfl:i=0:=by omega
  rw [hz] at rU;cases rU;cases hq:aK z z with
  | false=>rfl
  | true=>have:=mh hq;rw [hq] at this;cases this
end
end b4
namespace b4
open PySem PySem.W PyProof.Rows
def vJ(lt:Nat->Nat->Bool)(p:Array Nat)(m:Nat):Prop:=∀ i j,i < j->j < m->lt (g p j) (g p i)=false
theorem k91{cmp:Nat->Nat->(Bool->Shared->Prop)->Shared->Prop}{Q:Array Nat->Shared->Prop}{s:Shared}{b:Bool}(hc:∀ C:Bool->Shared->Prop,C b s->cmp 1 0 C s)(hq:Q (if b=true then #[1,0] else #[0,1]) s):(kas_sort 2).kasWp cmp Q s:=by
 refine hc _ ?_;cases b with
 | true=>exact hq
 | false=>exact hq
theorem q3x:Pm #[1,0] 2:=by
 refine⟨rfl,λi hi=>?_,λi j hi hj e=>?_⟩
 ·match i,hi with
  | 0,_=>decide
  | 1,_=>decide
 ·match i,j,hi,hj with
  | 0,0,_,_=>rfl
  | 1,1,_,_=>rfl
  | 0,1,_,_=>cases e
  | 1,0,_,_=>cases e
section
variable{prog:Program}{w:World}{A:Around}{E:Value->Shared->Prop}{s:Shared}
theorem k9t{vs:List Value}{zs:List (List Str)}(hA:A.units < cLine)(hh:fH s.heap vs zs)(hn:zs.Nodup\/zs.length=2)(h2:2<=vs.length):(kas_sort vs.length).kasWp (kas_ask prog w A oneType' vs) (λp s'=>s'=s/\Pm p vs.length/\vJ (mj zs) p vs.length) s:=by
 rcases hn with hn | hn
 ·exact Oq (q0y hA hh hn) h2 rfl λp s' e P U=>⟨e,P,λi j hi hj=>mh<|U i j hi hj⟩
 ·have hl:=hh.1;obtain⟨a,b,rfl⟩:∃ a b,zs=[a,b]:=by
   match zs,hn with
   | [a,b],_=>exact⟨a,b,rfl⟩
  have hv:vs.length=2:=hl;obtain⟨x,y,rfl⟩:∃ x y,vs=[x,y]:=by
   match vs,hv with
   | [x,y],_=>exact⟨x,y,rfl⟩
  ·refine k91 (b:=aK b a) (λC hC=>?_) ?_
   ·unfold kas_ask;exact Ro hA (hh.2 1 _ _ rfl rfl) (hh.2 0 _ _ rfl rfl) hC
   ·have irr:∀ c:List Str,aK c c=false:=λc=>by
     cases q:aK c c with
     | false=>rfl
     | true=>have:=mh q;rw [q] at this;cases this
    cases hb:aK b a with
    | true=>
     refine⟨rfl,q3x,λi j hi hj=>?_⟩;obtain⟨rfl,rfl⟩:i=0/\j=1:=by
      have:j < 2:=hj;omega
     show aK a b=false;exact mh hb
    | false=>
     refine⟨rfl,xH 2,λi j hi hj=>?_⟩;obtain⟨rfl,rfl⟩:i=0/\j=1:=by
      have:j < 2:=hj;omega
     exact hb
theorem k9f{a:Addr}{vs:List Value}{zs:List (List Str)}{n:Nat}{P:PySem.Fin->Shared->Prop}(hA:A.units < cLine)(ho:s.heap.get? a=some (seqObj "list" vs.toArray n))(bM:∀ v∈vs,v ≠ .ref a)(hh:fH s.heap vs zs)(hn:zs.Nodup\/zs.length=2)(i4:vs.length < 64)
  (h:∀ p:Array Nat,Pm p vs.length->vJ (mj zs) p vs.length->P (.done<|.ret .none) {s with heap:=sortedHeap s.heap a vs (List.toArray<|p.toList.map λi=>vs.getD i Value.none)}) :
  wpAny (model prog w) A (Builtin.«list.sort» ⟨[.ref a],[]⟩) P E s:=by
 rw [list_sort_plain];have ha:a < s.heap.objs.size:=Av ho;have xK:vs.length<=sizeLine:=by rw [CV];omega
 refine BJ<|JN ho rfl ?_;refine BJ<|HJ ho rfl ?_;obtain⟨e1,jq⟩:∃ e1,(s.heap.update a<|Obj.mapSeq λ_=>#[]).get? a=some (seqObj "list" #[] e1):=⟨_,get?_update_seq ho λ_=>#[]⟩;refine BJ<|IW jq rfl ?_;refine BJ<|LK ?_;refine BJ<|GZ ?_;refine CP ?_;have js:(((s.heap.update a<|Obj.mapSeq λ_=>#[]).push<|seqObj "tuple" vs.toArray 0).push<|seqObj "list" #[] 0).get? a=some (seqObj "list" #[] e1):=Ai _<|Ai _ jq;show wpAny (model prog w) A _ P E {s with heap:=((s.heap.update a<|Obj.mapSeq λ_=>#[]).push<|seqObj "tuple" vs.toArray 0).push (seqObj "list" #[] 0)};have uD:fH (((s.heap.update a<|Obj.mapSeq λ_=>#[]).push<|seqObj "tuple" vs.toArray 0).push<|seqObj "list" #[] 0) vs zs:=⟨hh.1,λi v z h1 h2=>(hh.2 i v z h1 h2).keep λb o e q=>by
  have hb:a≠b:=λe2=>bM v (Ak h1) (by rw [e,e2]);exact Ai _<|Ai _<|(Bg _ _ hb).trans q⟩
 dsimp only
 have hsz:vs.toArray.size=vs.length:=by simp
 by_cases h2:vs.toArray.size < 2
 ·rw [BL h2,BL h2];refine BJ<|BP ?_;rw [StateT.run_pure];refine BJ<|BP ?_
  dsimp only
  have e5:(arrOf<|SortSt.mk' general' (vs.toArray.zip vs.toArray) #[] 7 none).map (·.2)=vs.toArray:=by
   show(vs.toArray.zip vs.toArray).map (·.2)=_;apply Gq.mp;simp [QT]
  refine BJ<|IW js rfl ?_;refine BJ (HJ js rfl ?_ (hsz2:=by rw [e5,hsz];omega));simp only [HN,Cc,CW];refine BP ?_;rw [e5];have fin:=h (List.toArray<|List.range vs.length) (xH _) λi j hi hj=>by rw [hsz] at h2;omega
  have e6:(List.toArray<|List.range vs.length).toList.map (λi=>vs.getD i Value.none)=vs:=map_range vs;rw [e6] at fin;exact fin
 ·rw [BK h2,BK h2];rw [hsz] at h2;refine BJ<|kas_kind (T:= .type "list") (by omega) (λv hv=>?_) (by decide) (by decide) ?_
  ·obtain⟨i,hi⟩:=An hv;have uE:i < zs.length:=by have:=(Ad.mp hi).1;have:=hh.1;omega
   obtain⟨b,o,xs,n,rfl,q1,q2,_⟩:=uD.2 i v zs[i] hi<|Ab uE;have lk:Looks (model prog w) (((s.heap.update a<|Obj.mapSeq λ_=>#[]).push<|seqObj "tuple" vs.toArray 0).push<|seqObj "list" #[] 0) (typeOf<|.ref b) o.cls:=(Looks.ld q1).andThen .now;rw [q2] at lk;exact lk
  refine BJ<|CK (kat_run (prog:=prog) (w:=w) (A:=A) (E:=E) (κ:=oneType') (ks:=vs) (vs:=vs) (Q:=λcS s'=>s'={s with heap:=((s.heap.update a<|Obj.mapSeq λ_=>#[]).push<|seqObj "tuple" vs.toArray 0).push (seqObj "list" #[] 0)}/\∃ p:Array Nat,Pm p vs.length/\vJ (mj zs) p vs.length/\arrOf cS=p.map (kas_item<|vs.toArray.zip vs.toArray)/\failedOf cS=none)
   (G:=λp s'=>s'={s with heap:=((s.heap.update a<|Obj.mapSeq λ_=>#[]).push<|seqObj "tuple" vs.toArray 0).push (seqObj "list" #[] 0)}/\Pm p vs.length/\vJ (mj zs) p vs.length) rfl (by omega) i4 (λp cS s' _ a2 a3 a4=>⟨a4.1,p,a4.2.1,a4.2.2,a2,a3⟩)
   (k9t (s:={s with heap:=((s.heap.update a<|Obj.mapSeq λ_=>#[]).push<|seqObj "tuple" vs.toArray 0).push (seqObj "list" #[] 0)}) hA uD hn<|by omega)) ?_ λ_ _ e=>e
  rintro ⟨⟨⟩,cS⟩ s' ⟨rfl,p,P,U,EX,hf⟩
  dsimp only
  have e3:=kat_snds (ks:=vs) (vs:=vs) rfl EX;refine BJ<|IW js rfl ?_;refine BJ (HJ js rfl ?_ (hsz2:=by rw [e3,Aw,Aa,Co,P.size];omega));rw [hf];simp only [HN,Cc,CW];refine BP ?_;rw [e3];exact h p P U
theorem q3n{l:Addr}{vs:List Value}{zs:List (List Str)}{Q:Value->Shared->Prop}(hA:A.units+8 < cLine)(hl:s.heap.IsList l vs.toArray)(hh:fH s.heap vs zs)(hn:zs.Nodup\/zs.length=2)(i4:vs.length < 64)
  (h:∀(h':Heap) (e:Nat) (p:Array Nat),Pm p vs.length->vJ (mj zs) p vs.length->(∀ b u,s.heap.get? b=some u->h'.get? b=some u)->h'.get? (s.heap.objs.size+1)=some (seqObj "list" (List.toArray<|p.toList.map λi=>vs.getD i Value.none) e)->Q (.ref<|s.heap.objs.size+1) {s with heap:=h'}) :
  wpAny (model prog w) A (call (.builtin "sorted") [.ref l]) Q E s:=by
 have xK:vs.length<=sizeLine:=by rw [CV];omega
 refine JH kind_sorted plain_sorted entry_sorted (args_sorted1 _) ?_;unfold Builtin.«sorted»;refine BJ (m:=checkCount "sorted" 1 1 _)<|BP ?_;refine BJ<|collect_list (vs:=vs) hl ?_;refine BJ<|GZ ?_;have hsz:((s.heap.push<|seqObj "list" #[] 0).update s.heap.objs.size (Obj.mapSeq (·++vs.toArray))).objs.size=s.heap.objs.size+1:=by
  rw [QG,PK]
 have iy:(((s.heap.push<|seqObj "list" #[] 0).update s.heap.objs.size (Obj.mapSeq (·++vs.toArray))).push<|seqObj "list" vs.toArray 0).get? (s.heap.objs.size+1)=some (seqObj "list" vs.toArray 0):=by
  rw [<- hsz];exact Be _ rfl
 have EZ:fH (((s.heap.push<|seqObj "list" #[] 0).update s.heap.objs.size (Obj.mapSeq (·++vs.toArray))).push<|seqObj "list" vs.toArray 0) vs zs:=⟨hh.1,λi v z h1 h2=>(hh.2 i v z h1 h2).keep λb o e q=>
  Ai _ ((Bg _ _<|Dc<|Av q).trans<|Ai _ q)⟩
 have a7:∀ v∈vs,v ≠ .ref (s.heap.objs.size+1):=λv hv e=>by
  obtain⟨i,hi⟩:=An hv;have hl:=hh.1;have uE:i < zs.length:=by have:=(Ad.mp hi).1;omega
  obtain⟨b,o,xs,n,e2,h1,_⟩:=hh.2 i v zs[i] hi<|Ab uE;rw [e2] at e;cases e;exact absurd (OJ<|Av h1)<|Cu _
 show wpAny _ _ _ _ _ {s with heap:=((s.heap.push<|seqObj "list" #[] 0).update s.heap.objs.size (Obj.mapSeq (·++vs.toArray))).push (seqObj "list" vs.toArray 0)};rw [hsz];refine BJ (CP<|FQ slot_list_sort ⟨_,iy,rfl⟩ entry_list_sort (k9f (by show A.units+1+1 < cLine;omega) iy a7 EZ hn i4 λp P U=>⟨_,rfl,?_⟩)<|args_list_sort _);obtain⟨e,he⟩:=sortedAll_at s.heap vs<|List.toArray<|p.toList.map λi=>vs.getD i Value.none;exact BP ⟨_,rfl,h _ e p P U (λb u hb=>NQ hb) he⟩
end
end b4
namespace L2
open PySem PySem.Spec PyProof.Rows b4
theorem Rq{a b:List (List Str)}(ha:a.Pairwise λx y=>aK y x=false)(hb:b.Pairwise λx y=>aK y x=false)(h:a.Perm b):a=b:=
 List.Perm.eq_of_pairwise (le:=λx y=>aK y x=false) (λx y _ _ h1 h2=>BX λk=>by
  rcases yr k with q | q
  ·rw [h2] at q;cases q
  ·rw [h1] at q;cases q) ha hb h
section
variable{X:Cx}{σ:St}{H:Hp}
theorem Rr{pins:List (Addr×Obj)}{s:Shared}{ts:List Addr}{zs:List (List Str)}(I:Inv X pins σ H s)(hlen:ts.length=zs.length)(hd:∀(i:Nat) t z,ts[i]?=some t->zs[i]?=some z->H t=some (.lst<|z.map V.str)):fH s.heap (ts.map Value.ref) zs:=by
 refine⟨by rw [Aa];exact hlen,λi v z h1 h2=>?_⟩;rw [Ag,Az] at h1;obtain⟨t,ht,rfl⟩:=h1;obtain⟨its,r3,tp,_⟩:=I.list<|al.of<|hd i t z ht h2;obtain⟨o,ho,hc,n,hd2⟩:=tp.isList;exact⟨t,o,_,n,rfl,ho,hc,hd2,q3r r3⟩
theorem k50(hc:X.calm=true)(hu:X.A.units+16 < cLine):fh X (.builtin "min") (λxs H Q=>∃(l:Addr) (ts:List Addr) (zs:List<|List Str),xs=[.ref l]/\al X.K H l (ts.map V.ref)/\ts.length=zs.length/\0 < ts.length/\(∀(i:Nat) t z,ts[i]?=some t->zs[i]?=some z->H t=some (.lst<|z.map V.str)) /\
  ∀(m:Nat) t,ts[m]?=some t->cu zs zs.length m->Q (.ref t) H):=by
 intro pins s σ H xs us Q I r h;obtain⟨l,ts,zs,rfl,hl,hlen,h0,hd,q⟩:=h;obtain⟨u,rfl,ru⟩:=vals1 r;cases (show u=Value.ref l from ru);obtain⟨its,rv,pl,_⟩:=I.list hl;have ei:=xL rv;subst ei;refine k5x (I.ok.hd hc) hu pl.isList (Rr I hlen hd) (by rw [Aa];exact h0) λh' m v hm cv kp=>?_;rw [Ag,Az] at hm;obtain⟨t,ht,rfl⟩:=hm;rw [Aa,hlen] at cv;exact⟨.ref t,H,I.kept (t':=s.toks) kp,rfl,q m t ht cv⟩
theorem j9w(hu:X.A.units+8 < cLine):fh X (.builtin "sorted") (λxs H Q=>∃(l:Addr) (ts:List Addr) (zs:List<|List Str),xs=[.ref l]/\al X.K H l (ts.map V.ref)/\ts.length=zs.length/\(zs.Nodup\/zs.length=2)/\ts.length < 64/\(∀(i:Nat) t z,ts[i]?=some t->zs[i]?=some z->H t=some (.lst<|z.map V.str)) /\
  ∀(r:Addr) (ps:List<|Addr×List Str),H r=none->ps.Perm (ts.zip zs)->ps.Pairwise (λa b=>aK b.2 a.2=false)->Q (.ref r) (upd H r<|.lst<|ps.map λp=> .ref p.1)):=by
 intro pins s σ H xs us Q I r h;obtain⟨l,ts,zs,rfl,hl,hlen,hn,i4,hd,q⟩:=h;obtain⟨u,rfl,ru⟩:=vals1 r;cases (show u=Value.ref l from ru);obtain⟨its,rv,pl,_⟩:=I.list hl;have ei:=xL rv;subst ei;refine q3n hu pl.isList (Rr I hlen hd) hn (by rw [Aa];exact i4) λh' e p P U kp he=>?_;rw [Aa] at P U;have E2:p.toList.length=ts.length:=by rw [Co];exact P.size
 have e1:(p.toList.map λi=>(ts.map Value.ref).getD i Value.none)=((p.toList.map λi=>(ts.getD i 0,zs.getD i [])).map λx=>x.1).map Value.ref:=by
  rw [Bb,Bb];refine Bf λi hi=>?_;have aT:=xJ P hi;show(ts.map Value.ref).getD i Value.none=Value.ref (ts.getD i 0);simp [aT]
 refine⟨.ref _,_,I.gu (s':={s with heap:=h'}) kp rfl rfl (Eh _) (show aH X.prog X.w _ h' _ (.lst<|(p.toList.map λi=>(ts.getD i 0,zs.getD i [])).map λx=>V.ref x.1) from ?_),rfl,q _ (p.toList.map λi=>(ts.getD i 0,zs.getD i [])) (I.aJ.fresh<|Eh _) ?_ ?_⟩
 ·refine⟨by rw [Aa,Aa,E2,CV];omega,_,e,?_,he⟩;rw [e1];have:=E1<|(p.toList.map λi=>(ts.getD i 0,zs.getD i ([]:List Str))).map λx=>x.1;rw [Bb] at this;exact this
 ·rw [<- Ox ts zs hlen 0 []];exact(Ou P).map _
 ·rw [Bh];intro i j hi hj dD;rw [Aa] at hi hj;have:=U i j dD (by omega);have q1:g p i=p.toList[i]:=gG (by rw [<- Bz];exact Ab hi);have q2:g p j=p.toList[j]:=gG (by rw [<- Bz];exact Ab hj);rw [q1,q2] at this;rw [By,By];exact this
end
def fb(l:List Str):List (List Str):=if l=[] then [[]] else(List.range l.length).map λk=>l.drop k++l.take k
theorem fJ{l x:List Str}:x∈fb l↔∃ p q,l=p++q/\x=q++p:=by
 unfold fb
 by_cases h:l=[]
 ·rw [BL h,Ae];subst h
  constructor
  ·rintro rfl;exact⟨[],[],rfl,rfl⟩
  ·rintro ⟨p,q,h1,rfl⟩;have:=Ef.mp h1.symm;rw [this.1,this.2];rfl
 ·rw [BK h,Aj]
  constructor
  ·rintro ⟨k,_,rfl⟩;exact⟨l.take k,l.drop k,(Ct k l).symm,rfl⟩
  ·rintro ⟨p,q,rfl,rfl⟩
   by_cases hq:q=[]
   ·subst hq;refine⟨0,Bm.mpr<|Cj.mpr h,?_⟩;simp
   ·refine⟨p.length,Bm.mpr ?_,?_⟩
    ·rw [Ah];have:=Cj.mpr hq;omega
    ·rw [List.drop_left,List.take_left]
theorem yw:∀(zs:List<|List Str),zs≠[]->∃ x∈zs,∀ y∈zs,aK y x=false
 | [x],_=>⟨x,Ac,λy hy=>by
  rw [Ae.mp hy];cases q:aK x x with
  | false=>rfl
  | true=>have:=mh q;rw [q] at this;cases this⟩
 | x :: z :: zs,_=>by
  obtain⟨m,hm,h⟩:=yw (z :: zs) (by simp);cases q:aK x m with
  | true=>
   refine⟨x,Ac,λy hy=>?_⟩
   rcases Am.mp hy with rfl | hy
   ·cases q2:aK y y with
    | false=>rfl
    | true=>have:=mh q2;rw [q2] at this;cases this
   ·refine Ez.mpr λk=>?_;have:=h y hy;rw [yt k q] at this;cases this
  | false=>exact⟨m,Af _ hm,λy hy=>by
    rcases Am.mp hy with rfl | hy
    ·exact q
    ·exact h y hy⟩
theorem yy(l:List Str):fb l≠[]:=λh=>by
 have:=fJ.mpr (⟨[],l,rfl,rfl⟩:∃ p q,l=p++q/\l++[]=q++p);rw [h] at this;cases this
noncomputable def cv(l:List Str):List Str:=Classical.choose<|yw (fb l)<|yy l
theorem IH(l:List Str):cv l∈fb l:=(TF<|yw (fb l)<|yy l).1
theorem Ru(l:List Str):∀ y∈fb l,aK y (cv l)=false:=(TF<|yw (fb l)<|yy l).2
theorem Rv{l x:List Str}(h1:x∈fb l)(h2:∀ y∈fb l,aK y x=false):x=cv l:=BX λk=>by
 rcases yr k with q | q
 ·rw [Ru l x h1] at q;cases q
 ·rw [h2 _<|IH l] at q;cases q
theorem Rx{p q x:List Str}(h:x∈fb (p++q)):x∈fb (q++p):=by
 rw [fJ] at h ⊢;obtain⟨a,b,e,rfl⟩:=h
 rcases List.append_eq_append_iff.mp e with ⟨c,h1,h2⟩ | ⟨c,h1,h2⟩
 ·exact⟨c,b++p,by rw [h2,At],by rw [h1,At]⟩
 ·exact⟨q++a,c,by rw [h1,At],by rw [h2,At]⟩
theorem q2g(p q:List Str):cv (p++q)=cv (q++p):=Rv (Rx<|IH _) λy hy=>Ru _ y<|Rx hy
theorem Ry{l:List Str}{x:Str}:x∈cv l↔x∈l:=by
 obtain⟨p,q,e,h⟩:=fJ.mp<|IH l;rw [h,e,Ap,Ap];exact Or.comm
end L2
namespace Nt
open PySem L2
theorem RA{m:Net}(T:aj m)(hg:bu m)(hN:(m.map (·.1)).Nodup):(m.map λr=>cv r.2).Nodup\/(m.map λr=>cv r.2).length=2:=by
 by_cases nd:(m.map λr=>cv r.2).Nodup
 ·exact .inl nd
 ·right
  rw [Aa];rw [Bv,Bh] at nd;have:∃ i j,∃(hi:i < m.length) (hj:j < m.length),i < j/\cv m[i].2=cv m[j].2:=by
   refine BX λk=>nd λi j hi hj dD e=>k ?_;rw [Aa] at hi hj;rw [By,By] at e;exact⟨i,j,hi,hj,dD,e⟩
  obtain⟨i,j,hi,hj,dD,e⟩:=this;have hE:ends m≠[]:=λk=>by
   have:=Ii hg hN (by omega) k;omega
  have full:=Ig hg hN hE;have both:∀ t,t∈m[i].2↔t∈m[j].2:=λt=>by rw [<- Ry (l:=m[i].2),e,Ry]
  have two:∀ r,(hr:r < m.length)->∀ t,t∈m[i].2->t∈m[r].2->r=i\/r=j:=λr hr t h1 h2=>by
   have h3:=(both t).mp h1;obtain⟨p,hp⟩:=An h1;obtain⟨q,hq⟩:=An h3;obtain⟨s,hs⟩:=An h2;have ti:ax m (i,p)=some t:=by unfold ax;rw [cV hi];exact hp
   have tj:ax m (j,q)=some t:=by unfold ax;rw [cV hj];exact hq
   have tr:ax m (r,s)=some t:=by unfold ax;rw [cV hr];exact hs
   have oj:((j,q):End)=other m (i,p):=by
    rcases (dJ T ti).mp tj with k | k
    ·have:j=i:=BZ Prod.fst k;omega
    ·exact k
   rcases (dJ T ti).mp tr with k | k
   ·exact .inl<|BZ Prod.fst k
   ·rw [<- oj] at k;exact .inr<|BZ Prod.fst k
  have name:∀{a b:Nat} (ha:a < m.length) (hb:b < m.length),m[a].1=m[b].1->a=b:=λ{a b} ha hb q=>(Ej (h₀:=by rw [Aa];exact ha) (h₁:=by rw [Aa];exact hb) hN).mp (by rw [By,By];exact q);have all:=hg (λx=>x=m[i].1\/x=m[j].1) ⟨m[i],Ay hi,.inl rfl⟩ λa ha b hb t h1 h2 q=>by
   obtain⟨x,hx,rfl⟩:=Dv ha;obtain⟨y,hy,rfl⟩:=Dv hb;have ti:t∈m[i].2:=by
    rcases q with q | q
    ·have:=name hx hi q;subst this;exact h1
    ·have:=name hx hj q;subst this;exact(both t).mpr h1
   rcases two y hy t ti h2 with k | k
   ·subst k;exact .inl rfl
   ·subst k;exact .inr rfl
  have idx:∀ r,r < m.length->r=i\/r=j:=λr hr=>by
   rcases all _ (Ay hr) with q | q
   ·exact .inl<|name hr hi q
   ·exact .inr<|name hr hj q
  have h0:=idx 0 (by omega);refine BX λk=>?_;have h1:=idx 1 (by omega);have h2:=idx 2 (by omega);omega
theorem II{a b:Net}(h:CE (a.map (·.2)) (b.map (·.2))):(a.map λr=>cv r.2).Perm (b.map λr=>cv r.2):=by
 have:=h _ cv q2g;rw [Bb,Bb] at this;exact this
end Nt
namespace A5
open PySem L2 Nt bn
open b4 (aK cu)
structure fX(H:Hp)(L:Addr)(us:List Addr)(cs:List<|List Str):Prop where
 lst:H L=some (.lst<|us.map V.ref)
 len:us.length=cs.length
 at':∀(i:Nat) u c,us[i]?=some u->cs[i]?=some c->H u=some (Ls c)/\u≠L
theorem fX.same{H H':Hp}{L:Addr}{us:List Addr}{cs:List (List Str)}(h:fX H L us cs)(s:ak H H'):fX H' L us cs:=⟨s _ _ h.lst,h.len,λi u c a b=>⟨s _ _ (h.at' i u c a b).1,(h.at' i u c a b).2⟩⟩
theorem fX.nil{H:Hp}{L:Addr}(h:H L=some (.lst [])):fX H L [] []:=⟨h,rfl,λi u c h=>by simp at h⟩
theorem fX.snoc{H:Hp}{L k:Addr}{us:List Addr}{cs:List (List Str)}{ks:List Str}(I:fX H L us cs)(hk:H k=some (Ls ks))(nk:k≠L):fX (upd H L<|.lst<|us.map V.ref++[.ref k]) L (us++[k]) (cs++[ks]):=by
 have len:=I.len;refine⟨by rw [az,Al];rfl,by rw [Ah,Ah,len];rfl,λi u c h1 h2=>?_⟩
 by_cases hi:i < us.length
 ·rw [Bp hi] at h1;rw [Bp<|by omega] at h2;obtain⟨q1,q2⟩:=I.at' i u c h1 h2;exact⟨by rw [aw q2];exact q1,q2⟩
 ·rw [Bs<|by omega] at h1 h2;have e:i - us.length=0:=by
   have:=(Ad.mp h1).1;simp at this;omega
  rw [e] at h1;rw [<- len,e] at h2;cases h1;cases h2;exact⟨by rw [aw nk];exact hk,nk⟩
theorem k5i(zs:List Str)(i:Nat):dC (zs.map V.str) (some (i:Int)) none=(zs.drop i).map V.str:=by
 unfold dC;rw [HT.dH,HT.c6,Aa];rw [Dd (by rw [Cn,Aa];omega),TV]
 rcases QJ i zs.length with h | h
 ·rw [Gy h]
 ·rw [Gr h,Ee (by simp),Ee<|by simpa using h]
theorem q48(zs:List Str)(i:Nat):dC (zs.map V.str) none (some (i:Int))=(zs.take i).map V.str:=by
 unfold dC;rw [HT.dH,HT.c6,Aa,List.drop_zero,TY,TJ]
 rcases QJ i zs.length with h | h
 ·rw [Gy h]
 ·rw [Gr h,Dd (by simp),Dd<|by simpa using h]
def IJ:Sp:=λvs H Q _=>∃(R:Addr) (as:List<|Addr×Addr) (m:Net),vs=[.ref R]/\ai H R as m/\m.length<=60/\(ag m).length<=60/\((m.map λr=>cv r.2).Nodup\/(m.map λr=>cv r.2).length=2) /\
 ∀(L:Addr) (us:List Addr) (cs:List<|List Str) (H':Hp),ak H H'->fX H' L us cs->cs.Perm (m.map λr=>cv r.2)->cs.Pairwise (λx y=>aK y x=false)->Q (.ref L) H'
section
variable{P:Program}{w:World}{K:PySem.W.Frag}{mg:Str->Option Value}{base:Heap}
abbrev RC:List Str:=["_law_rows","_law_found","_law_point","_law_row","_law_rounds"]
abbrev vK:List Str:=["_law_rows","_law_found","_law_point","_law_row","_law_rounds","_law_k"]
theorem vL:au RC ["_law_rows"] (bj wN):=⟨rfl,rfl,rfl,by decide +kernel,rfl,by decide +kernel,by decide +kernel⟩
theorem q8r:vK.Nodup:=by decide +kernel
theorem q03{f:Addr}{fd:FuncData}(F:bW K "_law_canon" "_law_canon" wN f fd)(T:Txt mg):aM P w K mg base cf 1 f fd ["_law_rows"] IJ:=by
 refine F.gb vL (λvs H Q E h=>?_) λb0 H vs Q E hr h=>?_
 ·obtain⟨R,as,m,rfl,_⟩:=h;rfl
 obtain⟨R,as,m,rfl,hR,hm,jA,lD,q⟩:=h;have nd:=vL.nd;have un:=hr.eN;have hu8:=Gd (Nat.add_le_add_left (by decide:8<=100) _) hr.eN;have IL:=Gd (Nat.add_le_add_left (by decide:16<=100) _) hr.eN;have bM:=hR.len;show Run _ _ _ [some<|.ref R,none,none,none,none] H;refine a9 1 nd<|du<|ay ⟨Z0,λL hL=>?_⟩;have s0:=aQ hL<|.lst [];have e0:(upd H L<|.lst []) L=some (.lst []):=az;show Run _ _ _ [some<|.ref R,some<|.ref L,none,none,none] (upd H L<|.lst []);generalize upd H L (.lst [])=H0 at s0 e0;refine jn<|ae 0 ⟨R,rfl,⟨_,al.of<|s0 _ _ hR.lst⟩,?_⟩;refine jo (xs:=as.map λa=>V.ref a.1) (λi σ H'=>∃(us:List Addr) (u2 u3 u4:Option V),ak H H'/\fX H' L us ((m.take i).map λr=>cv r.2)/\σ=[some<|.ref R,some<|.ref L,u2,u3,u4]) ⟨[],_,_,_,s0,fX.nil e0,rfl⟩ ?_ ?_ ?_
 ·rintro i σ H' _ ⟨_,_,_,_,sm,_⟩;exact al.of<|sm _ _ hR.lst
 ·rintro i x σ H1 hx ⟨us,u2,u3,u4,s1,I,rfl⟩;have hi:i < m.length:=by
   have:=(Ad.mp hx).1;rw [Aa] at this;omega
  obtain⟨a,ea,db,et,el,er⟩:=(hR.same s1).at hi;rw [Ag,ea] at hx;cases hx;have ul:=I.len;rw [Aa,Bo] at ul;have rT:(m.take<|i+1).map (λr=>cv r.2)=(m.take i).map (λr=>cv r.2)++[cv<|row m i]:=by
   rw [Cr,Ab hi,Al,cV hi];rfl
  have rl:=l7 hi;generalize Il:row m i=bT at el rl rT;refine kL rfl (aW.of et) (bA 2 nd<|bA 3 nd ?_);show Run _ _ _ [some<|.ref R,some<|.ref L,some<|.str m[i].1,some<|.ref a.2,u4] H1;generalize m[i].1=pn;refine wq 4 (bj wN) RC vK 1 nd (Kd rfl T.range jH)<|ah<|cK dP T.len CT<|ah<|ae 3<|ay ⟨a.2,_,rfl,.inl<|al.of el,ay ⟨_,rfl,?_,?_,λD hD=>?_⟩⟩
  ·rw [Aa];omega
  ·rw [Aa];omega
  rw [Aa,Bx];refine k86 (λk σ' H'=>(∃ v,σ'=[some<|.ref R,some<|.ref L,some<|.str pn,some<|.ref a.2,u4]++[v])/\ak H1 H'/\∃ ts,fX H' D ts ((List.range k).map λk=>bT.drop k++bT.take k)/\∀ u∈ts,H1 u=none) ⟨⟨_,rfl⟩,aQ hD _,[],fX.nil az,λu h=>by cases h⟩ ?_ ?_
  ·rintro k σ' H' hk ⟨⟨v,rfl⟩,sm,ts,J,fj⟩;have tl:=J.len;rw [Aa,Cv] at tl;rw [Do];have pX:=sm _ _ el;intro iR C' s₀ H₀ ex;refine bA 5 q8r ?_;intro iR C' s₀ H₀ ex;refine mP<|cB ?_;intro iR C' s₀ H₀ ex;refine aX sR<|qL qD<|ae 3<|qO<|ae 5 ⟨(k:Int),rfl,qM ⟨a.2,_,rfl,al.of pX,λp1 j4=>?_⟩⟩;rw [k5i];have yz:=aQ j4<|Ls<|bT.drop k;refine qL qD<|ae 3<|qM<|qO<|ae 5 ⟨(k:Int),rfl,a.2,_,rfl,al.of<|yz _ _ pX,λp2 gP=>?_⟩;rw [q48];have yA:=aQ gP<|Ls<|bT.take k;refine xW (ys:=bT.drop k) (zs:=bT.take k) (yA _ _ az) az (by rw [Cn,Bo];omega) λr nQ=>?_;have sr:=aQ nQ<|Ls<|bT.drop k++bT.take k;have sA:=(yz.trans yA).trans sr;have J2:=J.same sA;have er2:(upd (upd (upd H' p1<|Ls<|bT.drop k) p2<|Ls<|bT.take k) r<|Ls<|bT.drop k++bT.take k) r=some (Ls<|bT.drop k++bT.take k):=az;have nrD:r≠D:=λe=>by
    have:=(yz.trans yA) _ _ J.lst;rw [<- e,nQ] at this;cases this
   refine⟨_,J2.lst,by rw [Aa];exact cn (by omega),⟨_,rfl⟩,d9 (sm.trans sA) hD,ts++[r],?_,λu hu=>?_⟩
   ·rw [Dg,Al];exact J2.snoc er2 nrD
   ·rcases Ap.mp hu with hu | hu
    ·exact fj u hu
    ·rw [Ae.mp hu];exact sm.free<|(yz.trans yA).free nQ
  rintro σ' H2 ⟨_,s2,ts,J,fj⟩;show Run _ _ _ [some<|.ref R,some<|.ref L,some<|.str pn,some<|.ref a.2,some<|.ref D] H2;have I2:=I.same s2;have pV:=s1.trans s2;refine Mk (λb H'=>ak H2 H'/\b=decide (bT=[])) (λσ H'=>∃(D':Addr) (fz:List Addr),ak H2 H'/\fX H' D' fz (fb bT)/\(∀ u∈fz,H1 u=none)/\σ=[some<|.ref R,some<|.ref L,some<|.str pn,some<|.ref a.2,some<|.ref D']) ?_ (λH3 h3=>?_) (λH3 h3=>?_) ?_
  ·refine dv (wz un)<|ae 4<|du<|ay ⟨Z0,λp hp=>?_⟩;have sP:=aQ hp<|.lst [];have tl:=J.len;rw [Aa,Cv] at tl
   by_cases c:bT=[]
   ·have t0:ts=[]:=Bk.mp (by rw [tl,c];rfl);refine⟨1,true,by decide,xl (zs:=[]) (sP _ _<|by rw [J.lst,t0];rfl) az,_,rfl,sP,(BR c).symm⟩
   ·refine⟨1,false,by decide,Mf (k:=1) (al.of<|sP _ _ J.lst) (al.of (xs:=[]) az) ?_,_,rfl,sP,(BW c).symm⟩;rw [Aa,tl];exact λk=>c<|Bk.mp k
  ·have c:=CG h3.2.symm;refine a9 4 nd<|du<|ah<|du<|ay ⟨Z0,λz hz=>ay ⟨Z1,λD' rd=>a8 ?_⟩⟩;have sz:=aQ hz<|.lst [];have sD:=aQ rd<|.lst [.ref z];have nz:z≠D':=λe=>by rw [<- e,az] at rd;cases rd
   refine⟨D',[z],h3.1.trans<|sz.trans sD,⟨az,by unfold fb;rw [BL c];rfl,λj u c' h1 h2=>?_⟩,λu hu=>by rw [Ae.mp hu];exact(s2.trans h3.1).free hz,rfl⟩;unfold fb at h2;rw [BL c] at h2;cases j with
   | zero=>cases h1;cases h2;exact⟨by rw [aw nz,az];rfl,nz⟩
   | succ j=>simp at h1
  ·have c:bT≠[]:=λk=>by
    have:=h3.2;rw [BR k] at this;cases this
   refine a8 ⟨D,ts,h3.1,?_,fj,rfl⟩;unfold fb;rw [BK c];exact J.same h3.1
  rintro σ H3 ⟨D',fz,s3,J',fj',rfl⟩;have I3:=I2.same s3;have tl:=J'.len;have tp:0 < (fb bT).length:=Cj.mpr<|yy bT;refine fQ (jr<|ae 1 ⟨L,rfl,⟨_,I3.lst⟩,cK (k50 rfl IL) T.min PyProof.Rows.boot_min<|ah<|ae 4<|ay ⟨D',fz,fb bT,rfl,al.of J'.lst,tl,by omega,λi t z h1 h2=>(J'.at' i t z h1 h2).1,λk t ht IM=>⟨_,I3.lst,by rw [Aa];exact cn (by omega),?_⟩⟩⟩);have kN:=(Ad.mp ht).1;have hz:=Ab (show k < (fb bT).length by omega);have ez:(fb bT)[k]'(by omega)=cv bT:=Rv (Ay _) λy hy=>by
   obtain⟨j,hj⟩:=An hy;exact IM j y _ (Ad.mp hj).1 hj hz
  rw [ez] at hz;have xQ:=(J'.at' k t _ ht hz).1;have Rb:t≠L:=λe=>by
   have:=fj' t<|Ak ht;rw [e,I.lst] at this;cases this
  refine a8 ⟨us++[t],_,_,_,d9 (pV.trans s3) hL,?_,rfl⟩;rw [rT];exact I3.snoc xQ Rb
 ·rintro σ H1 ⟨us,u2,u3,u4,s1,I,rfl⟩;have em:m.take (as.map λa=>V.ref a.1).length=m:=by rw [Aa,bM,Cb]
  rw [em] at I;have ul:=I.len;rw [Aa] at ul;refine cD (cK (j9w hu8) T.sorted FT<|ah<|ae 1<|ay ⟨L,us,_,rfl,al.of I.lst,I.len,lD,by omega,λi t z h1 h2=>(I.at' i t z h1 h2).1,λr ps nQ hp qV=>?_⟩);have mem:∀ p∈ps,∃ i:Nat,us[i]?=some p.1/\(m.map λr=>cv r.2)[i]?=some p.2:=λp q=>by
   obtain⟨i,hi⟩:=An<|hp.mem_iff.mp q;have hi:(us.zip<|m.map λr=>cv r.2)[i]?=some (p.1,p.2):=hi;rw [PN] at hi;exact⟨i,hi⟩
  refine q r (ps.map (·.1)) (ps.map (·.2)) _ (s1.trans<|aQ nQ _) ⟨by rw [az,Bb];rfl,by rw [Aa,Aa],λi u c h1 h2=>?_⟩ ?_ ?_
  ·rw [Ag,Az] at h1 h2;obtain⟨p,j4,rfl⟩:=h1;obtain⟨p',gP,rfl⟩:=h2;rw [j4] at gP;cases gP;obtain⟨j,j1,j2⟩:=mem p<|Ak j4;have:=(I.at' j _ _ j1 j2).1;have ne:=bP this nQ;exact⟨by rw [aw ne];exact this,ne⟩
  ·have:=hp.map (·.2);rw [QT<|by rw [Aa];omega] at this;exact this
  ·rw [Fd];exact qV
end
end A5
namespace L2
open PySem PySem.Spec PyProof.Rows
section
variable{M:Model}{A:Around}{E:Value->Shared->Prop}{K:PySem.W.Frag}{s:Shared}
theorem RE{e C S:Addr}{oe:Obj}{Q:Bool->Shared->Prop}(X:K.In s.heap)(hC:XC K C)(hS:XC K S)(he:s.heap.get? e=some oe)(hc:oe.cls = .ref C)(h:Q (kY K C S) s):wpAny M A (excMatches (.ref e)<|.ref S) Q E s:=by
 obtain⟨bm,N,nm,qn,bs,hdct,sn,sub,ab,col,dd,k0,k1,k2,k3,k5,mN,oC,oN,oi,oT⟩:=hC.obj X;obtain⟨bm',N',nm',qn',bs',RF,sn',x0e,ab',x0g,iY,k0',AB,k2',k3',k5',mN',oS,oN',oi',oT'⟩:=hS.obj X;have lk:∃ o,K.lookup C=some o:=by
  cases hk:K.lookup C with
  | some o=>exact⟨o,rfl⟩
  | none=>
   unfold XC PySem.W.excIn at hC;rw [hk] at hC;cases hC
 obtain⟨o,hk⟩:=lk;have eo:=(X _ _ hk).symm.trans oC;cases eo;have c1:(Value.ref C :: bm).contains (.ref S)=kY K C S:=by unfold kY;rw [hk]
 have c2:(Value.ref S :: bm').contains (.type "BaseException")=true:=by rw [List.contains_cons,oT'.hasType PySem.F.excBase_ValueError.hasBase,Bool.or_true]
 have f:=tc_notTuple;rw [<- c1] at h;obtain⟨hh,g,d,tk,os⟩:=s;unfold excMatches;cases hb:(Value.ref C :: bm).contains<|.ref S
 all_goals
  rw [hb] at h
  repeat (first | (with_reducible refine wpAny_loadPart_at he ?_;rw [hc]) | with_reducible refine wpAny_loadPart_at oS ?_ | (with_reducible refine wpAny_isSubtype_exc oS ?_;rw [c2]) | (with_reducible refine wpAny_isSubtype_exc oC ?_;rw [hb]) | wp_step)
  exact h
end
theorem k77{X:Cx}{σ:St}{H:Hp}{D:Ends}{rest body nY kj:List Stmt}{b₀ b₂:Stmt}{x y:Str}{S S2:Addr}{np np2 hp gP pos:Pos}(Φ:Value->St->Hp->Prop)(hm:X.mg x=some (.ref S))(hS:XC X.K S)(qi:X.mg y=some (.ref S2))(wx:XC X.K S2)
  (hb:∀ p,Run (xT X p Φ) body {D with nx:=λσ' H'=>Run X rest D σ' H'} σ H)
  (hh:∀ C σ' H',Φ C σ' H'->∃ Ca,C = .ref Ca/\XC X.K Ca/\((kY X.K Ca S=true/\∀ p ea oe,O0 oe C->H' ea=none->Run (dZ X p ea) (b₀ :: nY) {D with nx:=λσ' H'=>Run X rest D σ' H'} σ' (upd H' ea<|XO oe))\/(kY X.K Ca S=false/\kY X.K Ca S2=true/\∀ p ea oe,O0 oe C->H' ea=none->Run (dZ X p ea) (b₂ :: kj) {D with nx:=λσ' H'=>Run X rest D σ' H'} σ' (upd H' ea<|XO oe))))
  (hex:X.ex=[]:=by rfl) (cR:X.stack=X.env :: X.outer:=by rfl) (iH:X.env.frame=some X.env.locals:=by rfl)
  (hg:Gl X x:=by rfl) (cZ:(x == ("__debug__" : Str))=false:=by decide) (hg2:Gl X y:=by rfl) (IP:(y == ("__debug__" : Str))=false:=by decide) :
  Run X (.Try body [.ExceptHandler (some<|.Name x np) none (b₀ :: nY) hp,.ExceptHandler (some<|.Name y np2) none (b₂ :: kj) gP] [] [] pos :: rest) D σ H:=by
 refine jI (t:=λD' σ H=>∀ p,Run (xT X p Φ) body {D with nx:=λσ' H'=>Run X rest D σ' H'} σ H/\D'={D with nx:=λσ' H'=>Run X rest D σ' H'}) ?_ λp=>⟨hb p,rfl⟩;intro p0 s σ H D' I h;obtain⟨hb,rfl⟩:=h p0;refine wpAny_Try_except<|CK (hb.run [] s<|(I.pO (pins:=[])).dz _) (λf s1 q=>?_) λe s1 q=>?_
 ·have out:∀{pp:List (Addr×Obj)} {σ':St} {H':Hp},Inv (xT X p0 Φ) pp σ' H' s1->Inv X p0 σ' H' s1:=λJ=>(J.bJ).fE;cases f with
  | next=>
   obtain⟨σ',H',J,q⟩:=q;exact J6 p0 s1 σ' H' _ (out J) q
  | brk=>obtain⟨σ',H',J,q⟩:=q;exact⟨σ',H',out J,q⟩
  | cont=>obtain⟨σ',H',J,q⟩:=q;exact⟨σ',H',out J,q⟩
  | ret u=>obtain⟨v,σ',H',J,r,q⟩:=q;exact⟨v,σ',H',out J,r,q⟩
 ·obtain⟨pp,σ',H',ea,T,C,rfl,J,x1,a1,a2,n1,n2,hΦ⟩:=q;obtain⟨Ca,rfl,hC,IQ⟩:=hh C σ' H' hΦ;have fr:(X.bU p0).A.frames=some (X.env :: X.outer):=by rw [<- cR];exact J.ok.frames
  have kr:s1.heap.FunFrames X.base (X.env :: X.outer):=by rw [<- cR];exact J.stack
  refine OT fr kr iH x1 λh2 T' z x2 k=>?_;have k':Kp (dj (X.bU p0).stack) [ea,T] s1.heap h2:=by
   show Kp (dj X.stack) [ea,T] s1.heap h2;rw [cR];exact k
  have J2:Inv (X.bU p0) pp σ' H' {s1 with heap:=h2}:=J.kp (t':=s1.toks) hex k' (λb hb=>by
   rcases Am.mp hb with y | y
   ·rw [y];exact a1
   ·rw [Ae.mp y];exact a2) (λb hb=>by
   rcases Am.mp hb with y | y
   ·rw [y];exact n1
   ·rw [Ae.mp y];exact n2)
  have a3:=FV J hex z;have n3:H' T'=none:=xS J.aJ z;have J3:Inv (dZ X p0 ea) pp σ' H' {s1 with heap:=h2}:=J2.hd;obtain⟨⟨oe,vs,he,hc,nH,hd,h1,mK⟩,a7,RH⟩:=id x2;refine wpAny_handleBy_cons (codeAny_handlers_test<|rY J3 hg hm ?_ cZ) (by intro q;cases q);refine RE J3.kz hC hS he hc ?_
  rcases IQ with ⟨qj,qk⟩ | ⟨uK,qj,qk⟩
  ·rw [qj];refine codeAny_handlers_suite<|OV x2 λh3 x3 k3=>?_;have J4:Inv (dZ X p0 ea) pp σ' H' {s1 with heap:=h3}:=J3.kp (s:={s1 with heap:=h2}) (t':=s1.toks) (bad:=[T']) hex ⟨λb o q _ nb=>k3 b o (λy=>nb<|by simp [y]) q,λb o q hb=>⟨o.slots,k3 b o (λy=>by
    obtain⟨_,o',gO,mz⟩:=J3.stack.mem hb;obtain⟨oT,ts,hT,dT,_⟩:=RH;rw [y] at gO;have:=gO.symm.trans hT;cases this;exact mz _ dT) q⟩⟩ (λb hb=>by rw [Ae.mp hb];exact⟨a3.l,a3.c,a3.p,a3.f,a3.s⟩) λb hb=>by rw [Ae.mp hb];exact n3
   obtain⟨⟨vM,IT,vN,IU,ql,IY,vO,qm⟩,_,_⟩:=x3;have J5:Inv (dZ X p0 ea) pp σ' (upd H' ea<|XO vM) {s1 with heap:=h3}:=J4.nI hex ⟨a1.l,a1.c,a1.p,a1.f,a1.s⟩ n1 ⟨vN,⟨_,vN⟩⟩;refine CK ((qk p0 ea vM ⟨IU,ql,IT,IY,qm⟩ n1).run pp _ J5) (λf s5 q=>?_) λ_ _ z=>z.elim;have out:∀{σ2:St} {H2:Hp} {s6:Shared},Inv (dZ X p0 ea) pp σ2 H2 s6->Inv X p0 σ2 H2 s6:=λJ=>((J.uN (nJ:=[]) J2.ok.hd).fE);cases f with
   | next=>
    obtain⟨σ2,H2,J7,q⟩:=q;exact⟨σ2,H2,out J7,q⟩
   | brk=>
    obtain⟨σ2,H2,J7,q⟩:=q;exact⟨σ2,H2,out J7,q⟩
   | cont=>
    obtain⟨σ2,H2,J7,q⟩:=q;exact⟨σ2,H2,out J7,q⟩
   | ret u=>
    obtain⟨v,σ2,H2,J7,r,q⟩:=q;exact⟨v,σ2,H2,out J7,r,q⟩
  ·rw [uK];refine wpAny_handleBy_cons (codeAny_handlers_test<|rY J3 hg2 qi ?_ IP) (by intro q;cases q);refine RE J3.kz hC wx he hc ?_;rw [qj];refine codeAny_handlers_suite<|OV x2 λh3 x3 k3=>?_;have J4:Inv (dZ X p0 ea) pp σ' H' {s1 with heap:=h3}:=J3.kp (s:={s1 with heap:=h2}) (t':=s1.toks) (bad:=[T']) hex ⟨λb o q _ nb=>k3 b o (λy=>nb<|by simp [y]) q,λb o q hb=>⟨o.slots,k3 b o (λy=>by
    obtain⟨_,o',gO,mz⟩:=J3.stack.mem hb;obtain⟨oT,ts,hT,dT,_⟩:=RH;rw [y] at gO;have:=gO.symm.trans hT;cases this;exact mz _ dT) q⟩⟩ (λb hb=>by rw [Ae.mp hb];exact⟨a3.l,a3.c,a3.p,a3.f,a3.s⟩) λb hb=>by rw [Ae.mp hb];exact n3
   obtain⟨⟨vM,IT,vN,IU,ql,IY,vO,qm⟩,_,_⟩:=x3;have J5:Inv (dZ X p0 ea) pp σ' (upd H' ea<|XO vM) {s1 with heap:=h3}:=J4.nI hex ⟨a1.l,a1.c,a1.p,a1.f,a1.s⟩ n1 ⟨vN,⟨_,vN⟩⟩;refine CK ((qk p0 ea vM ⟨IU,ql,IT,IY,qm⟩ n1).run pp _ J5) (λf s5 q=>?_) λ_ _ z=>z.elim;have out:∀{σ2:St} {H2:Hp} {s6:Shared},Inv (dZ X p0 ea) pp σ2 H2 s6->Inv X p0 σ2 H2 s6:=λJ=>((J.uN (nJ:=[]) J2.ok.hd).fE);cases f with
   | next=>
    obtain⟨σ2,H2,J7,q⟩:=q;exact⟨σ2,H2,out J7,q⟩
   | brk=>
    obtain⟨σ2,H2,J7,q⟩:=q;exact⟨σ2,H2,out J7,q⟩
   | cont=>
    obtain⟨σ2,H2,J7,q⟩:=q;exact⟨σ2,H2,out J7,q⟩
   | ret u=>
    obtain⟨v,σ2,H2,J7,r,q⟩:=q;exact⟨v,σ2,H2,out J7,r,q⟩
end L2
namespace A5
open PySem L2 Nt bn
open b4 (aK)
def yB(K:PySem.W.Frag):Sp:=λvs H Q _=>∃(a:Addr) (ns:List Int),vs=[.ref a]/\al K H a (ns.map V.int)/\ns.length<=63/\∀ H',Q (.bl true) H'
def IZ:Sp:=λvs H Q _=>∃(R:Addr) (as:List<|Addr×Addr) (n:Net) (z:Str) (b:Bool),vs=[.ref R,.str z,.bl b]/\ai H R as n/\aj n/\(n.map (·.1)).Nodup/\n.length<=60/\(ag n).length<=60/\uO n /\
 ((b=true/\cQ n z = .inl "Bridge"/\∀ H',ak H H'->Q (.str "bridge") H')\/(b=false/\cP n z = .inl "Loop"/\∀ H',ak H H'->Q (.str "loop") H'))
theorem yC{X:Cx}{P:Program}{w:World}:lh (XF P w) X (λ_ _ _=>False):=λ_ _ _ _ _ _ _ h=>by
 obtain⟨_,_,_,_,_,h,_⟩:=h;exact h.elim
theorem q8b{X:Cx}{H:Hp}{L M:Addr}{us vs:List Addr}{cs:List (List Str)}(h:fX H L us cs)(g:fX H M vs cs):qW X H 2 (.ref L) (.ref M) true:=by
 have hl:=h.len;have gl:=g.len;have q:=wy (X:=X) (k:=1) (λ_=>true) (al.of (K:=X.K) h.lst) (al.of (K:=X.K) g.lst) (by rw [Aa,Aa];omega) λj x y hx hy=>by
  rw [Ag,Az] at hx hy;obtain⟨a,ea,rfl⟩:=hx;obtain⟨b,eb,rfl⟩:=hy;have hj:=(Ad.mp ea).1;obtain⟨c,hc⟩:∃ c,cs[j]?=some c:=⟨_,Ab<|by omega⟩;exact Ny<|xl (h.at' j a c ea hc).1 (g.at' j b c eb hc).1
 rw [A6] at q;exact q
theorem q5g{X:Cx}{H:Hp}{L M:Addr}{us vs:List Addr}{cs:List (List Str)}(h:fX H L us cs)(g:fX H M vs cs):lH X H 2 (.ref L) (.ref M) true:=by
 have hl:=h.len;have gl:=g.len;have q:=Md (X:=X) (k:=1) (λ_=>true) (al.of (K:=X.K) h.lst) (al.of (K:=X.K) g.lst) (by rw [Aa,Aa];omega) λj x y hx hy=>by
  rw [Ag,Az] at hx hy;obtain⟨a,ea,rfl⟩:=hx;obtain⟨b,eb,rfl⟩:=hy;have hj:=(Ad.mp ea).1;obtain⟨c,hc⟩:∃ c,cs[j]?=some c:=⟨_,Ab<|by omega⟩;exact Ny<|xl (h.at' j a c ea hc).1 (g.at' j b c eb hc).1
 rw [A6] at q;exact q
section
variable{P:Program}{w:World}{K:PySem.W.Frag}{mg:Str->Option Value}{base:Heap}
abbrev NRf:List Str:=["_law_rows","_law_tie","_law_out_here"]
theorem vP:au NRf ["_law_rows","_law_tie","_law_out_here"] (bj B9):=⟨rfl,rfl,rfl,by decide +kernel,rfl,by decide +kernel,by decide +kernel⟩
theorem k4n{f:Addr}{fd:FuncData}{c:Str->Addr}(F:bW K "_law_refused" "_law_refused" B9 f fd)(T:Txt mg)(cl:Cl K mg c)(GO:cO P w K mg base 3 "taken_out" ["rows","tie"]<|nL c cQ)(GS:cO P w K mg base 3 "shrunk" ["rows","tie"]<|nL c cP) :
  aM P w K mg base cf 4 f fd ["_law_rows","_law_tie","_law_out_here"] IZ:=by
 refine F.gb vP (λvs H Q E h=>?_) λb0 H vs Q E hr h=>?_
 ·obtain⟨R,as,n,z,b,rfl,_⟩:=h;rfl
 obtain⟨R,as,n,z,b,rfl,hR,hT,hN,hn,ht,bC,hq⟩:=h;have nd:=vP.nd;have mB:("Bridge" : Str)∈bD:=by decide
 have mL:("Loop" : Str)∈bD:=by decide
 show Run _ _ _ [some<|.ref R,some<|.str z,some<|.bl b] H;refine k77 (λC σ' H'=>σ'=[some<|.ref R,some<|.str z,some<|.bl b]/\ak H H'/\((b=true/\C = .ref (c "Bridge"))\/(b=false/\C = .ref (c "Loop")))) (cl.at' _ mB).1 (cl.at' _ mB).2.1 (cl.at' _ mL).1 (cl.at' _ mL).2.1 (λp=>?_) ?_
 ·refine gq<|zW<|ae 2 ⟨b,rfl,?_⟩
  rcases hq with ⟨rfl,ho,_⟩ | ⟨rfl,ho,_⟩
  ·refine cB<|fQ<|OZ GO hr (O1 rfl)<|ah<|ae 0<|ah<|ae 1<|ay ⟨R,as,n,z,rfl,hR,hT,hN,hn,ht,bC,λx hx H' s'=>?_,λm hm=>?_⟩
   ·rw [ho] at hx;cases hx;exact⟨rfl,s',.inl ⟨rfl,rfl⟩⟩
   ·rw [ho] at hm;cases hm
  ·refine cM<|fQ<|OZ GS hr (O1 rfl)<|ah<|ae 0<|ah<|ae 1<|ay ⟨R,as,n,z,rfl,hR,hT,hN,hn,ht,bC,λx hx H' s'=>?_,λm hm=>?_⟩
   ·rw [ho] at hx;cases hx;exact⟨rfl,s',.inr ⟨rfl,rfl⟩⟩
   ·rw [ho] at hm;cases hm
 ·rintro C σ' H' ⟨rfl,s',hC⟩
  rcases hq with ⟨eb,ho,q⟩ | ⟨eb,ho,q⟩
  ·rcases hC with ⟨_,rfl⟩ | ⟨e2,_⟩
   ·exact⟨c "Bridge",rfl,(cl.at' _ mB).2.1,.inl ⟨(cl.own _ mB _ mB).trans<|BR rfl,λp ea oe ix Ja=>cD<|fP<|q _<|s'.trans<|aQ Ja _⟩⟩
   ·rw [eb] at e2;cases e2
  ·rcases hC with ⟨e2,_⟩ | ⟨_,rfl⟩
   ·rw [eb] at e2;cases e2
   ·exact⟨c "Loop",rfl,(cl.at' _ mL).2.1,.inr ⟨(cl.own _ mL _ mB).trans (BW<|by decide),(cl.own _ mL _ mL).trans<|BR rfl,λp ea oe ix Ja=>cD<|fP<|q _<|s'.trans<|aQ Ja _⟩⟩
open b4 (aK)
theorem RO{m m':Net}(h:CE (m.map (·.2)) (m'.map (·.2)))(c:(m'.map λr=>cv r.2).Nodup\/(m'.map λr=>cv r.2).length=2):(m.map λr=>cv r.2).Nodup\/(m.map λr=>cv r.2).length=2:=by
 have p:=II h
 rcases c with c | c
 ·exact .inl<|p.nodup_iff.mpr c
 ·exact .inr<|p.length_eq.trans c
structure vQ(n:Net)(z:Str):Prop where
 tq:aj<|aC n
 nq:((aC n).map (·.1)).Nodup
 lq:(aC n).length<=60
 kq:(ag<|aC n).length<=60
 fq:uO<|aC n
 br:knd n z = "bridge"->cQ n z = .inl "Bridge"/\cP (aC n) z = .inl "Loop"
 nb:knd n z ≠ "bridge"->∃ m m',cQ n z = .inr m/\cP (aC n) z = .inr m'/\aj m/\m.length<=60/\(ag m).length<=60/\(aC m).length<=60/\(ag<|aC m).length<=60/\m'.length<=60/\(ag m').length<=60/\((m'.map λr=>cv r.2).Nodup\/(m'.map λr=>cv r.2).length=2)/\CE ((aC m).map (·.2)) (m'.map (·.2))
 lp:knd n z = "loop"->cP n z = .inl "Loop"/\cQ (aC n) z = .inl "Bridge"
 nl:knd n z ≠ "loop"->∃ m m',cP n z = .inr m/\cQ (aC n) z = .inr m'/\aj m/\m.length<=60/\(ag m).length<=60/\(aC m).length<=60/\(ag<|aC m).length<=60/\m'.length<=60/\(ag m').length<=60/\((m'.map λr=>cv r.2).Nodup\/(m'.map λr=>cv r.2).length=2)/\CE ((aC m).map (·.2)) (m'.map (·.2))
theorem RU{n:Net}{z:Str}{r0 r1:Nat}(T:aj n)(hz:z∈ag n)(tw:jB n z r0 r1)(lt:r0 < r1):(ag<|shr n z r0 r1).length<=(ag n).length:=by
 refine Qb _ _ λy=>?_
 by_cases c:y∈ag (shr n z r0 r1)
 ·rw [yb T hz tw lt y c,T y ((ya T hz tw lt).mp c).1];exact Ao _
 ·rw [List.count_eq_zero.mpr c];exact Ci _
theorem Jb{m:Net}(T:aj m)(h:(ag m).length<=48):(aC m).length<=60/\(ag<|aC m).length<=60/\(bd m).length<=60:=by
 have a:=Xy m;have b:=ik m;have c:=(rQ T).length_eq;refine⟨by rw [Ij];omega,by rw [(l9 m).ag];omega,by omega⟩
theorem q8k{n:Net}{z:Str}(T:aj n)(hN:(n.map (·.1)).Nodup)(F:Full n)(hf:HF n)(h0:0 < n.length)(hn:n.length<=26)(jA:(ag n).length<=48)(hz:z∈ag n):vQ n z:=by
 have hE:ends n≠[]:=λk=>by
  obtain⟨e,he⟩:=nR hz;have:=af.mpr ⟨z,he⟩;rw [k] at this;cases this
 have hr:∀ r,r < n.length->row n r≠[]:=by
  rcases F with ⟨nm,rfl⟩ | h
  ·cases hz
  ·exact h.2
 obtain⟨lq,kq,fl⟩:=Jb T jA;have To:=g6 T;have tq:=(l9 n).twice To;have nq:=Qr fl;have hg:bu (aC n):=(l9 n).p9 (Qs fl)<|Qm T hN hf.1 hE;have zq:z∈ag (aC n):=(yj T).mpr hz;have bl:=k2g T hf hN h0 hz;have lb:=k1s T hf F hN h0 hr fl hz;have kq2:(ag<|aC n).length<=48:=by rw [(l9 n).ag,(rQ T).length_eq];exact jA
 have oT:aj (aq n z):=kZ T;have aD:=xY (n:=n) (z:=z);have whl:knd n z ≠ "bridge"->eW (aq n z):=λk=>by
  unfold knd at k
  by_cases c:(bR n z).length=1
  ·match hh:bR n z,c with
   | [r],_=>exact yi oT (k68 hh hf.1)<|by rw [g5];exact h0
  ·rw [BK c] at k;refine BX λy=>?_;rw [BK y] at k;exact k rfl
 have q0:0 < (aC n).length:=by
  obtain⟨r,jY,_⟩:=nK zq;omega
 refine⟨tq,nq,lq,kq,λzs h1 h2=>by have:=aI h1 h2;omega,λk=>?_,λk=>?_,λk=>?_,λk=>?_⟩
 ·have nw:¬ eW (aq n z):=λy=>by
   unfold knd at k
   by_cases c:(bR n z).length=1
   ·rw [BL c] at k;cases k
   ·rw [BK c,BL y] at k;cases k
  obtain⟨f,hh⟩:=bl.mp nw;exact⟨GI hz nw,F6 hh⟩
 ·have hw:=whl k
  rcases xV tq zq with ⟨f,hh⟩ | ⟨f0,f1,hh⟩
  ·exact absurd hw<|bl.mpr ⟨f,hh⟩
  ·have tw:=pR hh;have lt:=uY hh;obtain⟨a1,a2,_⟩:=Jb oT (by omega);have sl:=RU tq zq tw lt;have sn:=nN tw;exact⟨_,_,GU hz hw,F7 hh,oT,by rw [g5];omega,by omega,a1,a2,by omega,by omega,RA (yb tq zq tw lt) (Qa tq tw lt nq hg)<|P' tw nq,q6i T hf F hN h0 hr hz hw hh⟩
 ·have hl:∃ r,bR n z=[r]:=by
   unfold knd at k
   by_cases c:(bR n z).length=1
   ·match hh:bR n z,c with
    | [r],_=>exact⟨r,rfl⟩
   ·rw [BK c] at k
    by_cases y:eW<|aq n z
    ·rw [BL y] at k;cases k
    ·rw [BK y] at k;cases k
  obtain⟨r,hh⟩:=hl;exact⟨F6 hh,GI zq<|lb.mpr ⟨r,hh⟩⟩
 ·have nl:¬ ∃ r,bR n z=[r]:=λ⟨r,y⟩=>by
   unfold knd at k;rw [y,BL (show [r].length=1 from rfl)] at k;exact k rfl
  rcases xV T hz with ⟨r,hh⟩ | ⟨r0,r1,hh⟩
  ·exact absurd ⟨r,hh⟩ nl
  ·have tw:=pR hh;have lt:=uY hh;have hw:eW (aq (aC n) z):=BX λy=>nl<|lb.mp y;have sT:=yb T hz tw lt;have sl:=RU T hz tw lt;have sn:=nN tw;obtain⟨a1,a2,_⟩:=Jb sT (by omega);have ol:=xY (n:=aC n) (z:=z);exact⟨_,_,F7 hh,GU zq hw,sT,by omega,by omega,a1,a2,by rw [g5];exact lq,by omega,RA (kZ tq) (Nt.cr (kZ tq) hw) (by rw [rK];exact nq),q61 T hf F hN h0 hr hz hh⟩
abbrev NW:List Str:=["_law_script","_law_stem","_law_rows","_law_names_here","_law_tie","_law_other_here","_law_kind","_law_here"]
theorem nZ:au NW ["_law_script"] (bj ph):=⟨rfl,rfl,rfl,by decide +kernel,rfl,by decide +kernel,by decide +kernel⟩
theorem q5l{f:Addr}{fd:FuncData}{c:Str->Addr}(F:bW K "law" "law" ph f fd)(T:Txt mg)(GC:bB P w K mg base 5 "_law_cell_at" ["_law_script","_law_k"]<|wQ K)(GB:bB P w K mg base 5 "_law_big" ["_law_script","_law_at"]<|CB K)
  (GN:bB P w K mg base 5 "_law_net_by" ["_law_big_here","_law_most","_law_stem"] EG) (GT:bB P w K mg base 5 "_law_ties" ["_law_rows"] ja) (GQ:bB P w K mg base 5 "_law_other_net" ["_law_rows"] qf) (GS:bB P w K mg base 5 "_law_sort" ["_law_rows","_law_tie"] Hx) (GR:bB P w K mg base 5 "_law_refused" ["_law_rows","_law_tie","_law_out_here"] IZ) (GY:bB P w K mg base 5 "_law_copy" ["_law_rows"] E3) (GK:bB P w K mg base 5 "_law_canon" ["_law_rows"] IJ)
  (GO:cO P w K mg base 5 "taken_out" ["rows","tie"]<|nL c cQ) (GH:cO P w K mg base 5 "shrunk" ["rows","tie"]<|nL c cP):aM P w K mg base cf 6 f fd ["_law_script"] (yB K):=by
 refine F.gb nZ (λvs H Q E h=>?_) λb0 H vs Q E hr h=>?_
 ·obtain⟨a,ns,rfl,_⟩:=h;rfl
 obtain⟨a,ns,rfl,hS,h63,q⟩:=h;have nd:=nZ.nd;have un:=hr.eN;show Run _ _ _ [some<|.ref a,none,none,none,none,none,none,none] H;refine a9 1 nd (aX dk<|bY GC hr<|ah<|ae 0<|ah<|aF<|ay ⟨a,ns,0,rfl,hS,by decide,λc0=>?_⟩);refine aX y8 (aF<|aF ⟨_,_,rfl,rfl,⟨by decide,by decide,by decide⟩,_,_,rfl,rfl,(by show(0:Int) < 10 ^ (18:Int).toNat;decide),?_⟩);show Run _ _ _ [some<|.ref a,some<|.int<|c0 % 10 ^ (18:Int).toNat,none,none,none,none,none,none] H;generalize c0 % 10 ^ (18:Int).toNat=gN;refine a9 2 nd (bY GN hr<|ah<|aX fK<|aX fK<|aX sw<|bY GB hr<|ah<|ae 0<|ah<|aF<|ay ⟨a,ns,1,rfl,hS,by decide,λb H1 s1=>aF ⟨_,_,rfl,rfl,.inr ⟨by decide,by decide⟩,aF ⟨_,_,rfl,rfl,?_⟩⟩⟩);refine aX dk (bY GC hr<|ah<|ae 0<|ah<|aF<|ay ⟨a,ns,2,rfl,s1.seq hS,by decide,λc2=>aF ⟨_,_,rfl,rfl,(by show(0:Int) < 24;decide),_,_,rfl,rfl,?_⟩⟩);refine ah (aF<|ah<|ae 1<|ay ⟨_,24,_,rfl,by decide,by decide,λR as n H2 s2 n2 hR hT hN hF hf jA og hnl has=>?_⟩);have e24:((24:Int)).toNat=24:=rfl;rw [e24] at jA hnl;have x0h:2<=(ag n).length:=by
  have h1:0<=c2 % 24:=Cd _ (by decide);have h2:c2 % 24 < 24:=Ch _ (by decide);have:(b * 25+1+c2 % 24) % (24+1)=1+c2 % 24:=by omega
  rw [this] at og;omega
 clear og;have h0:n≠[]:=hF.some;have fu:0 < n.length:=Cj.mpr h0;have few:uO n:=λzs hz hm=>by
  have:=aI hz hm;omega
 show Run _ _ _ [some<|.ref a,some<|.int gN,some<|.ref R,none,none,none,none,none] H2;refine a9 3 nd (bY GT hr<|ah<|ae 2<|ay ⟨R,as,n,rfl,hR,by omega,by omega,few,λL ss H3 s3 n3 eL ssn sso mem=>?_⟩);have sl:0 < ss.length:=by
  obtain⟨z,hz⟩:=List.exists_mem_of_length_pos (by omega:0 < (ag n).length);exact Ed<|(mem z).mpr hz
 have jx:=hR.same s3;show Run _ _ _ [some<|.ref a,some<|.int gN,some<|.ref R,some<|.ref L,none,none,none,none] H3;refine a9 4 nd (bh dq<|ae 3<|aX dk<|aX iD<|bY GC hr<|ah<|ae 0<|ah<|aF<|ay ⟨a,ns,2,rfl,(s1.trans<|s2.trans s3).seq hS,by decide,λc3=>aF ⟨_,_,rfl,rfl,⟨by decide,by decide⟩,?_⟩⟩);refine cK dP T.len CT<|ah<|ae 3<|ay ⟨L,_,rfl,.inl<|al.of eL,_,_,rfl,rfl,?_,?_⟩
 ·rw [Aa];show(0:Int) < (ss.length:Int);omega
 rw [Aa];obtain⟨i,hi,ei⟩:∃ i:Nat,i < ss.length/\c3 / 24 % (ss.length:Int)=i:=by
  have h1:=Cd (c3 / 24) (show(ss.length:Int)≠0 by omega);have h2:=Ch (c3 / 24) (show(0:Int) < ss.length by omega);exact⟨(c3 / 24 % (ss.length:Int)).toNat,by omega,by omega⟩
 show sM _ (.ref L) (.int<|c3 / 24 % (ss.length:Int)) H3 _;rw [ei];obtain⟨z,hz⟩:∃ z,ss[i]?=some z:=⟨_,Ab hi⟩;refine⟨L,_,_,.str z,rfl,rfl,al.of eL,tP hz,?_⟩;have zt:=(mem z).mp<|Ak hz;have W:=q8k (z:=z) hT hN hF hf fu (by omega) (by omega) zt;show Run _ _ _ [some<|.ref a,some<|.int gN,some<|.ref R,some<|.ref L,some<|.str z,none,none,none] H3;refine a9 5 nd (bY GQ hr<|ah<|ae 2<|ay ⟨R,as,n,rfl,jx,hT,by omega,by omega,λO os H4 s4 n4 hO f4=>?_⟩);have gW:=jx.same s4;show Run _ _ _ [some<|.ref a,some<|.int gN,some<|.ref R,some<|.ref L,some<|.str z,some<|.ref O,none,none] H4;refine a9 6 nd (bY GS hr<|ah<|ae 2<|ah<|ae 4<|ay ⟨R,as,n,z,rfl,gW,hT,hN,fu,by omega,by omega,zt,λH5 s5=>?_⟩);have lU:=gW.same s5;have Jc:=hO.same s5;show Run _ _ _ [some<|.ref a,some<|.int gN,some<|.ref R,some<|.ref L,some<|.str z,some<|.ref O,some<|.str<|knd n z,none] H5;have yD:∀ x y:Str,decide (V.str x=V.str y)=decide (x=y):=λx y=>decide_eq_decide.mpr ⟨λk=>V.str.inj k,λk=>by rw [k]⟩;refine AZ (knd n z = "bridge") (knd n z ≠ "bridge") (λσ' H'=>∃ u7,ak H5 H'/\σ'=[some<|.ref a,some<|.int gN,some<|.ref R,some<|.ref L,some<|.str z,some<|.ref O,some<|.str<|knd n z,u7]) (λT' qq=>dv g9<|ae 6<|fP ⟨rfl,_,rfl,qq _ (λk=>?_) λk=>?_⟩) (λk=>?_) (λk=>?_) ?_
 ·rw [yD] at k;exact CG k
 ·rw [yD] at k;exact HX k
 ·obtain⟨w1,w2⟩:=W.br k;refine gq (zX<|Vf<|dv qA<|bY GR hr<|ah<|ae 2<|ah<|ae 4<|ah<|kD<|ay ⟨R,as,n,z,true,rfl,lU,hT,hN,by omega,by omega,few,.inl ⟨rfl,w1,λH6 s6=>fP ⟨rfl,_,rfl,?_⟩⟩⟩);rw [BR rfl];refine cM<|Vg<|dv qA<|bY GR hr<|ah<|ae 5<|ah<|ae 4<|ah<|kD<|ay ⟨O,os,aC n,z,false,rfl,Jc.same s6,W.tq,W.nq,W.lq,W.kq,W.fq,.inr ⟨rfl,w2,λH7 s7=>fP ⟨rfl,_,rfl,?_⟩⟩⟩;rw [BR rfl];exact cM<|a8<|a8 ⟨_,s6.trans s7,rfl⟩
 ·obtain⟨m,m',o1,o2,tm,lm,km,lo,ko,Jd,Je,cm,ce⟩:=W.nb k;refine a9 7 nd (bY GQ hr<|ah<|rF GO hr yC<|ah<|bY GY hr<|ah<|ae 2<|ay ⟨R,as,n,rfl,lU,by omega,λM bs H6 s6 n6 f6 hM=>?_⟩);refine ah (ae 4<|ay ⟨M,bs,n,z,rfl,hM,hT,hN,by omega,by omega,few,λx hx=>(by rw [o1] at hx;cases hx),λm2 qi A jz H7 s7 n7 f7 hA sm=>?_⟩);rw [o1] at qi;cases qi;refine ay ⟨A,jz,m,rfl,hA,tm,lm,km,λB Jf H8 s8 n8 hB f8=>?_⟩;have RY:=(s6.trans s7).trans s8;show Run _ _ _ [some<|.ref a,some<|.int gN,some<|.ref R,some<|.ref L,some<|.str z,some<|.ref O,some<|.str<|knd n z,some<|.ref B] H8;refine gq<|dv (tL un)<|bY GK hr<|ah<|ae 7<|ay ⟨B,Jf,aC m,rfl,hB,lo,ko,RO ce cm,λL1 us1 Jg H9 s9 lZ p1 Jh=>?_⟩;refine bY GK hr (ah<|rF GH hr yC<|ah<|bY GY hr<|ah<|ae 5<|ay ⟨O,os,aC n,rfl,(Jc.same RY).same s9,by have:=W.lq;omega,λM2 Ji HA sA nA fA Jj=>?_⟩);refine ah (ae 4<|ay ⟨M2,Ji,aC n,z,rfl,Jj,W.tq,W.nq,W.lq,W.kq,W.fq,λx hx=>(by rw [o2] at hx;cases hx),λm3 vR A3 Jk HB sB nB fB Jl sm3=>?_⟩);rw [o2] at vR;cases vR;refine ay ⟨A3,Jk,m',rfl,Jl,Jd,Je,cm,λL2 us2 Jm HC sC kW p2 Jn=>?_⟩;have e:Jm=Jg:=Rq Jn Jh<|p2.trans<|(II ce).symm.trans p1.symm;subst e;have R0:=(sA.trans sB).trans sC;exact⟨2,true,by decide,q8b (lZ.same R0) kW,_,rfl,cM<|a8<|a8 ⟨_,(RY.trans s9).trans R0,rfl⟩⟩
 rintro σ' H6 ⟨u7,s6,rfl⟩;have xu:=lU.same s6;have R1:=Jc.same s6;refine zY (knd n z = "loop") (knd n z ≠ "loop") (λT' qq=>dv g9<|ae 6<|fP ⟨rfl,_,rfl,qq _ (λk=>?_) λk=>?_⟩) (λk=>?_) λk=>a8 ?_
 ·rw [yD] at k;exact CG k
 ·rw [yD] at k;exact HX k
 ·obtain⟨w1,w2⟩:=W.lp k;refine cD (Va<|mI g9<|bY GR hr<|ah<|ae 2<|ah<|ae 4<|ah<|kD<|ay ⟨R,as,n,z,false,rfl,xu,hT,hN,by omega,by omega,few,.inr ⟨rfl,w1,λH7 s7=>fP ⟨rfl,_,rfl,?_⟩⟩⟩);rw [BR rfl,BL rfl];refine Vb<|mI g9<|bY GR hr<|ah<|ae 5<|ah<|ae 4<|ah<|kD<|ay ⟨O,os,aC n,z,true,rfl,R1.same s7,W.tq,W.nq,W.lq,W.kq,W.fq,.inl ⟨rfl,w2,λH8 s8=>fP ⟨rfl,?_⟩⟩⟩;rw [BR rfl];exact q _
 ·obtain⟨m,m',o1,o2,tm,lm,km,lo,ko,Jd,Je,cm,ce⟩:=W.nl k;refine a9 7 nd (bY GQ hr<|ah<|rF GH hr yC<|ah<|bY GY hr<|ah<|ae 2<|ay ⟨R,as,n,rfl,xu,by omega,λM bs H7 s7 n7 f7 hM=>?_⟩);refine ah (ae 4<|ay ⟨M,bs,n,z,rfl,hM,hT,hN,by omega,by omega,few,λx hx=>(by rw [o1] at hx;cases hx),λm2 qi A jz H8 s8 n8 f8 hA sm=>?_⟩);rw [o1] at qi;cases qi;refine ay ⟨A,jz,m,rfl,hA,tm,lm,km,λB Jf H9 s9 n9 hB f9=>?_⟩;have s69:=(s7.trans s8).trans s9;show Run _ _ _ [some<|.ref a,some<|.int gN,some<|.ref R,some<|.ref L,some<|.str z,some<|.ref O,some<|.str<|knd n z,some<|.ref B] H9;refine cD<|mI (wz un)<|bY GK hr<|ah<|ae 7<|ay ⟨B,Jf,aC m,rfl,hB,lo,ko,RO ce cm,λL1 us1 Jg HA sA lZ p1 Jh=>?_⟩;refine bY GK hr (ah<|rF GO hr yC<|ah<|bY GY hr<|ah<|ae 5<|ay ⟨O,os,aC n,rfl,(R1.same s69).same sA,by have:=W.lq;omega,λM2 Ji HB sB nB fB Jj=>?_⟩);refine ah (ae 4<|ay ⟨M2,Ji,aC n,z,rfl,Jj,W.tq,W.nq,W.lq,W.kq,W.fq,λx hx=>(by rw [o2] at hx;cases hx),λm3 vR A3 Jk HC sC nC fC Jl sm3=>?_⟩);rw [o2] at vR;cases vR;refine ay ⟨A3,Jk,m',rfl,Jl,Jd,Je,cm,λL2 us2 Jm HD sD kW p2 Jn=>?_⟩;have e:Jm=Jg:=Rq Jn Jh<|p2.trans<|(II ce).symm.trans p1.symm;subst e;exact⟨2,true,by decide,q5g (lZ.same<|(sB.trans sC).trans sD) kW,q _⟩
end
end A5
namespace A5
open PySem L2
theorem all_mk{l:PySem.W.OpenLaw}{w:World}{K:PySem.W.Frag}{h:Heap}{mg:Str->Option Value}{fa:Addr}(X:K.In h)(G:h.Ns mainGlobals mg)(AQ:mg "law" = some (.ref fa))
  (h1:Df K "ties_of" wL) (h2:Df K "need_tie" BH) (h3:Df K "hangs_together" wK) (h4:Df K "links_of" BI) (h5:Df K "spread" BM) (h6:Df K "taken_out" o7) (h7:Df K "shrunk" tT) (h8:Df K "joined" BO) (h9:Df K "_law_cell_at" BQ) (Jo:Df K "_law_big" o8) (Jp:Df K "_law_names" BU) (Jq:Df K "_law_seats" BV) (vO:Df K "_law_other" B3) (Jr:Df K "_law_step" B4) (Js:Df K "_law_face" B5) (Jt:Df K "_law_put" o9) (Ju:Df K "_law_net_by" pd) (Jv:Df K "_law_copy" wM) (Jw:Df K "_law_ties" B6) (Jx:Df K "_law_hangs" B7) (Jy:Df K "_law_out" pg) (Jz:Df K "_law_sort" B8) (qm:Df K "_law_canon" wN) (JA:Df K "_law_other_net" wO) (JE:Df K "_law_refused" B9) (hl:Df K "law" ph)
  (qc:FX K=true)
  (z:∀ x∈(["isinstance","tuple","str","int","bool","list","dict","set","enumerate","zip","len","range","sorted","max","all","ValueError","min"]:List Str),PySem.W.nsIn K mainGlobals x=some none) :
  ∃ fd:FuncData,(∀(s:Shared) (v:Value),BindsTo s fd ⟨[v],[]⟩ [("_law_script",v)])/\∀ base:Heap,K.In base->base.Ns mainGlobals mg->aM l.prog w K mg base cf 6 fa fd ["_law_script"] (yB K):=by
 have T:Txt mg:=⟨CJ X G (z _<|by simp),CJ X G (z _<|by simp),CJ X G (z _<|by simp),CJ X G (z _<|by simp),CJ X G (z _<|by simp),CJ X G (z _<|by simp),CJ X G (z _<|by simp),CJ X G (z _<|by simp),CJ X G (z _<|by simp),CJ X G (z _<|by simp),CJ X G (z _<|by simp),CJ X G (z _<|by simp),CJ X G (z _<|by simp),CJ X G (z _<|by simp),CJ X G (z _<|by simp),CJ X G (z _<|by simp),CJ X G<|z _<|by simp⟩;have cl:=q8f X G qc;refine hl.law X G AQ (λ_ _ _ _ _ _ s v=> .of_eq rfl) λbase f fd F=>?_;have G1:bB l.prog w K mg base 1 "ties_of" ["rows"] ja:=h1.has X G (λ_ _ _ _ _ _=>lE λ_=>rfl) λF=>q2s F T;have G2:cO l.prog w K mg base 2 "need_tie" ["rows","tie"] (xU<|gZ K):=h2.pN X G (λ_ _ _ _ _ _=>lF λ_ _=>rfl) λF=>q3y F T cl (G1.mono<|by decide);have G4:bB l.prog w K mg base 1 "links_of" ["rows"] E8:=h4.has X G (λ_ _ _ _ _ _=>lE λ_=>rfl) λF=>ZS F T;have G5:bB l.prog w K mg base 1 "spread" ["first","links"] FA:=h5.has X G (λ_ _ _ _ _ _=>lF λ_ _=>rfl) λF=>ZZ F T;have G3:bB l.prog w K mg base 2 "hangs_together" ["rows"] jd:=h3.has X G (λ_ _ _ _ _ _=>lE λ_=>rfl) λF=>q84 F T (G4.mono<|by decide) (G5.mono<|by decide);have G6:cO l.prog w K mg base 3 "taken_out" ["rows","tie"] (nL (gZ K) Nt.cQ):=h6.pN X G (λ_ _ _ _ _ _=>lF λ_ _=>rfl) λF=>q82 F T cl (G2.mono<|by decide) (G3.mono<|by decide);have G8:bB l.prog w K mg base 1 "joined" ["ties","others","tie"] Hm:=h8.has X G (λ_ _ _ _ _ _=>tH λ_ _ _=>rfl) λF=>q2k F T;have G7:cO l.prog w K mg base 3 "shrunk" ["rows","tie"] (nL (gZ K) Nt.cP):=h7.pN X G (λ_ _ _ _ _ _=>lF λ_ _=>rfl) λF=>q58 F T cl (G2.mono<|by decide) (G8.mono<|by decide);have G9:bB l.prog w K mg base 1 "_law_cell_at" ["_law_script","_law_k"] (wQ K):=h9.has X G (λ_ _ _ _ _ _=>lF λ_ _=>rfl) λF=>WV F T;have G10:bB l.prog w K mg base 2 "_law_big" ["_law_script","_law_at"] (CB K):=Jo.has X G (λ_ _ _ _ _ _=>lF λ_ _=>rfl) λF=>WY F T (G9.mono<|by decide);have G11:bB l.prog w K mg base 1 "_law_names" ["_law_stem","_law_many"] CD:=Jp.has X G (λ_ _ _ _ _ _=>lF λ_ _=>rfl) λF=>W0 F T;have R3:bB l.prog w K mg base 1 "_law_seats" ["_law_rows"] wR:=Jq.has X G (λ_ _ _ _ _ _=>lE λ_=>rfl) λF=>W1 F T;have G13:bB l.prog w K mg base 1 "_law_other" ["_law_rows","_law_seats_here","_law_end"] CF:=vO.has X G (λ_ _ _ _ _ _=>tH λ_ _ _=>rfl) λF=>W2 F T;have G14:bB l.prog w K mg base 2 "_law_step" ["_law_rows","_law_seats_here","_law_end","_law_turn"] CH:=Jr.has X G (λ_ _ _ _ _ _=>Ly λ_ _ _ _=>rfl) λF=>W3 F T (G13.mono<|by decide);have R5:bB l.prog w K mg base 3 "_law_face" ["_law_rows","_law_seats_here","_law_end"] wU:=Js.has X G (λ_ _ _ _ _ _=>tH λ_ _ _=>rfl) λF=>W5 F T (G14.mono<|by decide);have G16:bB l.prog w K mg base 4 "_law_put" ["_law_rows","_law_big_here","_law_tie","_law_point"] D1:=Jt.has X G (λ_ _ _ _ _ _=>Ly λ_ _ _ _=>rfl) λF=>YX F T (R3.mono<|by decide) (R5.mono<|by decide);have G17:bB l.prog w K mg base 5 "_law_net_by" ["_law_big_here","_law_most","_law_stem"] EG:=Ju.has X G (λ_ _ _ _ _ _=>tH λ_ _ _=>rfl) λF=>Zf F T (G11.mono<|by decide) (G16.mono<|by decide);have G18:bB l.prog w K mg base 1 "_law_copy" ["_law_rows"] E3:=Jv.has X G (λ_ _ _ _ _ _=>lE λ_=>rfl) λF=>ZO F T;have G19:bB l.prog w K mg base 1 "_law_ties" ["_law_rows"] ja:=Jw.has X G (λ_ _ _ _ _ _=>lE λ_=>rfl) λF=>q0g F T;have G20:bB l.prog w K mg base 1 "_law_hangs" ["_law_rows"] jd:=Jx.has X G (λ_ _ _ _ _ _=>lE λ_=>rfl) λF=>k41 F T;have G21:bB l.prog w K mg base 1 "_law_out" ["_law_rows","_law_tie"] G0:=Jy.has X G (λ_ _ _ _ _ _=>lF λ_ _=>rfl) λF=>q4s F T;have G22:bB l.prog w K mg base 3 "_law_sort" ["_law_rows","_law_tie"] Hx:=Jz.has X G (λ_ _ _ _ _ _=>lF λ_ _=>rfl) λF=>q4o F T (G20.mono<|by decide) (G21.mono<|by decide);have G23:bB l.prog w K mg base 1 "_law_canon" ["_law_rows"] IJ:=qm.has X G (λ_ _ _ _ _ _=>lE λ_=>rfl) λF=>q03 F T;have G24:bB l.prog w K mg base 4 "_law_other_net" ["_law_rows"] qf:=JA.has X G (λ_ _ _ _ _ _=>lE λ_=>rfl) λF=>q6c F T (R3.mono<|by decide) (R5.mono<|by decide);have G25:bB l.prog w K mg base 4 "_law_refused" ["_law_rows","_law_tie","_law_out_here"] IZ:=JE.has X G (λ_ _ _ _ _ _=>tH λ_ _ _=>rfl) λF=>k4n F T cl (G6.mono<|by decide) (G7.mono<|by decide);exact q5l F T (G9.mono<|by decide) (G10.mono<|by decide) (G17.mono<|by decide) (G19.mono<|by decide) (G24.mono<|by decide) (G22.mono<|by decide) (G25.mono<|by decide) (G18.mono<|by decide) (G23.mono<|by decide) (G6.mono<|by decide)<|G7.mono<|by decide
theorem walk{l:PySem.W.OpenLaw}{q:Program}{loose:List Str}{XP:(Str->Option Value)->Heap->Prop}{YP:World->Heap->Prop}{d:DefRec}{K:Params->PySem.W.Frag}(hn:l.most=some 63)(sU:d.params.defaults=[])
  (hY:∀(w:World) (h:Heap),YP w h->(K w.params).In h)
  (F : ∀ (w : World) (mg : Str → Option Value) (fa : Addr) (h : Heap), (K w.params).In h → h.Ns mainGlobals mg → mg d.name = some (.ref fa) →
   ∃ fd:FuncData,(∀(s:Shared) (u:Value),BindsTo s fd ⟨[u],[]⟩ [("_law_script",u)])/\∀ base:Heap,(K w.params).In base->base.Ns mainGlobals mg->aM l.prog w (K w.params) mg base cf 6 fa fd ["_law_script"] (yB<|K w.params)) :
  PySem.W.WalkO q loose XP YP l.row.toRowW d [] (λf vs=>PySem.call f vs):=
 L2.lB (n:=63) (k:=6) (x:= "_law_script") (CX:=λ_=>cf) (sp:=λw=>yB<|K w.params) hn (by decide) sU ⟨rfl,by decide,by decide⟩ hY F (λ_ _ a ns hl _ hS=>⟨a,ns,rfl,hS,hl,λ_=>rfl⟩) λ_ _ _ _ _ z=>z
end A5
-- see NOTE.md
namespace PySem.W.Fast
def tw5487809041289578667:=()
def tw5850804060659195952:=()
def tw12452729661109522654:=()
def tw6735717107766346442:=()
def tw11778355159909134064:=()
def tw9360371100795651650:=()
def tw6666315017221022640:=()
def tw10918785447043763466:=()
def tw859998670227103760:=()
def tw5522340622572316345:=()
def tw11041774498617966974:=()
def tw8798074825461898440:=()
def tw7039651008370881851:=()
def tw3601631339821270644:=()
def tw9752213547601086691:=()
def tw9193957362655766542:=()
def tw13799033693965171049:=()
def tw4947886029463330291:=()
end PySem.W.Fast
open PySem PySem.W PyProof.Rows
set_option maxRecDepth 100000 in
set_option maxHeartbeats 0 in
theorem PySem.Challenge.cw_threewebs_k75_whole_out_here_is_shrunk_t_holds : PySem.Challenge.rw_threewebs_k75_whole_out_here_is_shrunk_t.Holds := by
 w_on;o_law;k_head;(case hw=>w_witness2)
 k_fill
 refine A5.walk (l:=PySem.Challenge.rw_threewebs_k75_whole_out_here_is_shrunk_t) rfl rfl (λw h Y=>PySem.W.kIn_of Y) ?F
 case F=>
  intro w mg fa h KX G sV;refine' A5.all_mk KX G sV ?h1 ?h2 ?h3 ?h4 ?h5 ?h6 ?h7 ?h8 ?h9 ?Jo ?Jp ?Jq ?vO ?Jr ?Js ?Jt ?Ju ?Jv ?Jw ?Jx ?Jy ?Jz ?qm ?JA ?JE ?h0 ?qc ?zz
  case h1 | h2 | h3 | h4 | h5 | h6 | h7 | h8 | h9 | Jo | Jp | Jq | vO | Jr | Js | Jt | Ju | Jv | Jw | Jx | Jy | Jz | qm | JA | JE | h0=>refine' L2.tG ?a ?l ?c ?k;(case a=>k_is);(case l=>k_is);(case c=>k_is);(case k=>k_is)
  case qc=>kernel_rfl
  case zz=>
   refine' List.forall_mem_cons.mpr ⟨?_,?_⟩;k_is
   iterate 16 (refine' List.forall_mem_cons.mpr ⟨?_,?_⟩;k_is)
   exact λx hx=>nomatch hx

import PyProof.Rows.All
import Wide.All
import OpenK.AllK
import Wide.FinOn
import Lean
import PyProof.EqAt
import PyProof.EqKinds
import PyProof.TupleCall
import KE.KDictLaws
import KE.KDictList
import KE.KDictSum
import KE.KIsAll
import KE.KRevIter
import KE.KSortTup
import KE.KUnpack
import KE.KUnpackStar
import PyProof.AttrMissSeq
import PyProof.CallStr
import PyProof.Conv_int_bool
import PyProof.DictItems
import PyProof.DictIter
import PyProof.DictList
import PyProof.EnumFor
import PyProof.EnumMake
import PyProof.EnumStmt
import PyProof.ExcArgsOwn
import PyProof.ExcAttrAll.ValueError
import PyProof.ExcBaseAll.ValueError
import PyProof.FitsInt
import PyProof.NeKinds
import PyProof.NsDelKeeps
import PyProof.Rows.CatchOwn
import PyProof.Rows.CountFlat
import PyProof.Rows.EnumRows
import PyProof.Rows.FStr
import PyProof.Rows.SeqMore
import PyProof.Rows.SortRev
import PyProof.Rows.StrSplitJoin
import PyProof.Rows.StrWeight2
import PyProof.Rows.TupDisplay
import PyProof.RulesTry
import PyProof.SetNew
import PyProof.SetRoads
import PyProof.StationsW
import PyProof.TupleKey
import PyProof.WalkInts
import PyProof.ZipIter
import PySem.Challenge.RW_threewebs_k64_the_other_net_has_as_many
abbrev BJ:=@PySem.wpAny_bind
abbrev BK:=@if_neg
abbrev BL:=@if_pos
abbrev BP:=@PySem.wpAny_pure
abbrev BR:=@decide_eq_false
abbrev BW:=@decide_eq_true
abbrev BX:=@Classical.byContradiction
abbrev BZ:=@congrArg
abbrev CG:=@of_decide_eq_true
abbrev CJ:=@if_false
abbrev CK:=@PySem.W.mg_none_of
abbrev CN:=@PySem.wpAny_mono
abbrev CP:=@PySem.mem_of_lookup
abbrev CQ:=@if_true
abbrev CT:=@PySem.wpAny_holding
abbrev CV:=@PyProof.Rows.callWith_type1
abbrev CW:=@PySem.sizeLine_eq
abbrev CZ:=@PySem.W.kia_one
abbrev DG:=@PySem.boot_len
abbrev DK:=@PySem.wpAny_truthy_bool
abbrev DN:=@PySem.wpAny_newObj_type
abbrev DQ:=@decide_eq_true_eq
abbrev DR:=@or_false
abbrev DW:=@PySem.tupleKind_room_in1
abbrev DX:=@PyProof.Rows.wpS_bind
abbrev DY:=@Prod.ext
abbrev EY:=@PySem.wpAny_typeNameOfWhole_itemiter
abbrev FJ:=@PySem.F.slot_dict_itemiterator_next
abbrev FN:=@PySem.wpAny_call_entry
abbrev FP:=@PySem.wpAny_passesOwn
abbrev FQ:=@PySem.wpAny_standAt
abbrev FT:=@List.Pairwise.map
abbrev FW:=@PySem.wpAny_setState_of
abbrev FZ:=@PySem.wpAny_typeNameOf_itemiter
abbrev GJ:=@beq_self_eq_true
abbrev GQ:=@PySem.F.plainAttrs_list
abbrev GR:=@forall_congr'
abbrev GX:=@PySem.wpAny_setField_rec
abbrev GZ:=@PySem.wpAny_ite_split
abbrev HD:=@PySem.W.cellsFrom_some
abbrev HJ:=@PyProof.Rows.wpS_pure
abbrev HN:=@PySem.wpAny_specialOf
abbrev HS:=@PySem.PassesOwn.never
abbrev HW:=@PySem.W.KasT.kasWp_bind
abbrev HX:=@PySem.wpAny_Call_Name_kw
abbrev HY:=@PySem.wpAny_comprehension_free
abbrev IK:=@decide_eq_true_iff
abbrev IV:=@PySem.wpAny_rule
abbrev IW:=@PySem.Calls.callWith_builtin
abbrev JB:=@PySem.wpAny_isOneOf_itemiter
abbrev JC:=@List.eraseIdx_append_of_lt_length
abbrev JD:=@PyProof.Rows.listUpdate_at
abbrev JF:=@PySem.plainId_quiet
abbrev JG:=@PyProof.Rows.boot_int
abbrev JH:=@PySem.builtinLookup_eq_fast
abbrev JK:=@PySem.F.args_dict_itemiterator_next_1
abbrev JL:=@PySem.codeAny_mono
abbrev JM:=@PyProof.Rows.listItems_at
abbrev JN:=@PySem.wpAny_typeOf
abbrev JQ:=@PyProof.Rows.wpS_forRange
abbrev JR:=@PySem.codeAny_builtin
abbrev JT:=@PySem.Around.under_plainId
abbrev JV:=@PySem.F.entry_dict_itemiterator_next
abbrev JW:=@PySem.wpAny_pyIter_revIter
abbrev JX:=@PySem.F.slot_dict_itemiterator_iter
abbrev JZ:=@PySem.Heap.SameBut.update
abbrev KC:=@PySem.wpAny_seqItems
abbrev KD:=@PyProof.Rows.boot_isinstance
abbrev KH:=@PyProof.Rows.seqEpoch_at
abbrev KJ:=@PySem.wpAny_of_eq
abbrev KN:=@List.lookup_append
abbrev KQ:=@List.zipIdx_append
abbrev KR:=@PyProof.Rows.joinParts_cons
abbrev KY:=@List.perm_ext_iff_of_nodup
abbrev KZ:=@PySem.wpAny_newList
abbrev LC:=@Option.isSome_map
abbrev LK:=@bne_self_eq_false
abbrev LQ:=@List.count_append
abbrev LR:=@PySem.wpAny_dictEntries
abbrev MF:=@PySem.Str.length_append
abbrev MJ:=@PySem.call_meets
abbrev MK:=@Nat.mod_lt
abbrev MN:=@List.exists_mem_of_ne_nil
abbrev MP:=@List.drop_eq_getElem_cons
abbrev NK:=@PySem.F.slot_set_contains
abbrev NZ:=@Int.eq_of_mul_eq_mul_left
abbrev OD:=@PySem.F.plain_extend_loop
abbrev OJ:=@PySem.seqIndex_neg
abbrev PB:=@PyProof.Rows.boot_sorted
abbrev PJ:=@Nat.min_eq_right
abbrev PK:=@PySem.F.slot_list_insert
abbrev PL:=@PySem.F.type_list_insert
abbrev PN:=@PySem.wpAny_forIn_list
abbrev PX:=@List.getElem?_cons_zero
abbrev QB:=@PySem.wpAny_execs_nil
abbrev QC:=@List.of_mem_zip
abbrev QD:=@List.forIn_cons
abbrev QF:=@PySem.codeAny_of_tree
abbrev QG:=@Nat.min_eq_left
abbrev QJ:=@PySem.typeLookup_type
abbrev QK:=@PySem.wpAny_dictEpoch
abbrev QL:=@List.nil_append
abbrev QM:=@Int.mul_ne_zero
abbrev QS:=@PySem.wpAny_updateSeq
abbrev QT:=@PySem.seqIndex_of
abbrev QV:=@List.length_pos_of_mem
abbrev QW:=@PySem.wpAny_field
abbrev QX:=@List.length_filter_le
abbrev QZ:=@PySem.F.plain_set_new
abbrev RB:=@PyProof.Rows.boot_max
abbrev RD:=@PySem.ofString_length
abbrev RG:=@Int.mul_le_mul
abbrev RJ:=@List.any_cons
abbrev RK:=@Bool.true_xor
abbrev RL:=@Nat.lt_trans
abbrev RM:=@Nat.le_total
abbrev RN:=@Int.le_trans
abbrev RP:=@Int.add_comm
theorem Z0:0<=PySem.sizeLine:=by decide
theorem Z2:2<=PySem.sizeLine:=by decide
theorem Z1:1<=PySem.sizeLine:=by decide
set_option Elab.async false
set_option linter.all false
set_option maxRecDepth 100000
set_option maxHeartbeats 4000000
abbrev Aa:=@List.length_map
abbrev Ab:=@List.getElem?_eq_getElem
abbrev Ac:=@List.getElem?_eq_some_iff
abbrev Ad:=@List.mem_cons_self
abbrev Ae:=@List.getElem?_map
abbrev Af:=@List.mem_cons_of_mem
abbrev Ag:=@List.length_append
abbrev Ah:=@List.mem_cons
abbrev Ai:=@PySem.Heap.get?_push_of_some
abbrev Aj:=@List.mem_singleton
abbrev Ak:=@List.map_append
abbrev Al:=@List.mem_of_getElem?
abbrev Am:=@Nat.le_refl
abbrev An:=@List.mem_map
abbrev Ao:=@List.length_cons
abbrev Ap:=@List.map_cons
abbrev Aq:=@List.mem_append
abbrev Ar:=@List.mem_append_right
abbrev As:=@Bool.false_ne_true
abbrev At:=@List.map_congr_left
abbrev Au:=@List.size_toArray
abbrev Av:=@List.getElem?_of_mem
abbrev Aw:=@List.append_assoc
abbrev Ax:=@PySem.Heap.lt_size
abbrev Ay:=@List.getElem?_append_left
abbrev Az:=@Option.map_eq_some_iff
abbrev Ba:=@PySem.Heap.get?_push_size
abbrev Bb:=@List.length_eq_zero_iff
abbrev Bc:=@List.getElem?_append_right
abbrev Bd:=@List.pairwise_iff_getElem
abbrev Be:=@List.mem_append_left
abbrev Bf:=@List.nodup_cons
abbrev Bg:=@Bool.false_eq_true
abbrev Bh:=@List.append_nil
abbrev Bj:=@List.map_map
abbrev Bk:=@Nat.lt_of_lt_of_le
abbrev Bl:=@List.length_take
abbrev Bm:=@List.not_mem_nil
abbrev Bo:=@Nat.zero_le
abbrev Bp:=@List.mem_iff_getElem
abbrev Bq:=@Array.getElem?_toList
abbrev Br:=@List.mem_range
abbrev Bs:=@List.take_length
abbrev Bt:=@List.getElem_mem
abbrev Bu:=@List.forall_mem_cons
abbrev Bv:=@Int.emod_nonneg
abbrev Bw:=@List.take_add_one
abbrev Bx:=@Nat.ne_of_lt
abbrev By:=@List.getElem?_eq_none
abbrev Bz:=@List.sum_cons
abbrev Ca:=@Int.toNat_natCast
abbrev Cb:=@Int.emod_lt_of_pos
abbrev Cc:=@List.nodup_append
abbrev Cd:=@List.nodup_iff_pairwise_ne
abbrev Ce:=@Array.length_toList
abbrev Cf:=@Nat.mod_eq_of_lt
abbrev Cg:=@Bool.false_xor
abbrev Ch:=@PySem.Heap.get?_update_other
abbrev Ci:=@List.length_range
abbrev Cj:=@Array.getElem?_eq_getElem
abbrev Ck:=@List.nodup_nil
abbrev Cl:=@Nat.le_trans
abbrev Cn:=@List.perm_append_comm
abbrev Co:=@List.getElem?_cons_succ
abbrev Cp:=@List.length_pos_iff
abbrev Cq:=@Bool.and_false
abbrev Cr:=@List.flatten_cons
abbrev Cs:=@Array.getD_eq_getD_getElem?
abbrev Ct:=@List.length_singleton
abbrev Cu:=@List.take_append_drop
abbrev Cv:=@List.mem_of_mem_erase
abbrev Cw:=@Nat.le_of_lt
abbrev Cy:=@List.getElem?_range
abbrev Cz:=@List.length_drop
abbrev Da:=@List.getElem?_take_of_lt
abbrev Db:=@Bool.and_eq_true
abbrev Dc:=@Nat.lt_or_ge
abbrev Dd:=@Nat.lt_irrefl
abbrev Dg:=@List.count_cons
abbrev Dh:=@List.take_of_length_le
abbrev Di:=@Nat.ne_of_gt
abbrev Dj:=@Int.zero_add
abbrev Dk:=@List.pairwise_cons
abbrev Dl:=@List.lookup_cons
abbrev Dm:=@List.mem_flatten
abbrev Do:=@Bool.false_and
abbrev Dp:=@Array.getElem?_eq_none
abbrev Dq:=@List.ext_getElem?
abbrev Dr:=@List.flatMap_append
abbrev Ds:=@List.mem_filter
abbrev Du:=@List.length_replicate
abbrev Dv:=@List.mem_erase_of_ne
abbrev Dw:=@Bool.xor_false
abbrev Dx:=@List.getElem?_replicate
abbrev Dy:=@List.pairwise_map
abbrev Dz:=@List.foldl_cons
abbrev Eb:=@Nat.not_lt_zero
abbrev Ec:=@List.filterMap_cons
abbrev Ed:=@List.getElem?_set_self
abbrev Ee:=@Nat.succ_pos
abbrev Ef:=@Nat.mod_self
abbrev Eh:=@Bool.and_true
abbrev Ej:=@List.filter_cons
abbrev Ek:=@List.filter_append
abbrev El:=@List.count_pos_iff
abbrev Em:=@PySem.Heap.get?_update_self
abbrev Ep:=@List.contains_iff_mem
abbrev Er:=@List.range_succ
abbrev Es:=@List.getElem?_set_ne
abbrev Eu:=@Nat.le_of_succ_le
abbrev Ex:=@List.flatMap_cons
abbrev Ey:=@List.length_eraseIdx
abbrev Ez:=@List.perm_cons_erase
abbrev Fa:=@List.reverse_perm
abbrev Fb:=@Option.isSome_iff_exists
abbrev Fc:=@Bool.not_true
abbrev Fd:=@List.length_erase_of_mem
abbrev Fe:=@List.nodup_range
abbrev Ff:=@List.mem_reverse
abbrev Fg:=@Nat.zero_add
abbrev Fh:=@List.find?_eq_none
abbrev Fi:=@List.drop_of_length_le
abbrev Fj:=@List.append_of_mem
abbrev Fk:=@List.append_eq_nil_iff
abbrev Fm:=@Nat.lt_of_le_of_ne
abbrev Fn:=@Bool.eq_iff_iff
abbrev Fo:=@List.find?_cons
abbrev Fp:=@Array.getElem?_setIfInBounds
abbrev Fq:=@Nat.lt_trichotomy
abbrev Fr:=@List.mem_zipIdx_iff_le_and_getElem?_sub
abbrev Ft:=@Nat.le_succ
abbrev Fu:=@List.getElem?_modify
abbrev Fv:=@List.lt_irrefl
abbrev Fw:=@List.cons_append
abbrev Fx:=@List.flatten_append
abbrev Fy:=@Array.getElem?_replicate
abbrev Fz:=@List.mem_of_mem_eraseIdx
abbrev Ga:=@Bool.true_and
abbrev Gb:=@Bool.xor_self
abbrev Gc:=@List.mem_filterMap
abbrev Gd:=@List.getElem?_drop
abbrev Ge:=@Nat.lt_succ_of_lt
abbrev Gf:=@Bool.not_false
abbrev Gg:=@List.getElem?_eraseIdx
abbrev Gh:=@List.range_succ_eq_map
abbrev Gi:=@Nat.zero_lt_of_lt
abbrev Gj:=@List.getElem?_reverse
abbrev Gk:=@List.getElem_inj
abbrev Gm:=@List.getElem_map
abbrev Gn:=@Option.getD_some
abbrev Go:=@List.map_drop
abbrev Gp:=@Nat.one_pos
abbrev Gq:=@PySem.Heap.get?_push_cases
abbrev Gr:=@List.pairwise_append
abbrev Gs:=@Option.map_some
abbrev Gu:=@List.length_nil
abbrev Gv:=@List.find?_some
abbrev Gw:=@List.zipIdx_map_snd
abbrev Gx:=@List.reverse_append
abbrev Gy:=@List.length_reverse
abbrev Gz:=@PySem.Heap.size_push
abbrev Ha:=@List.map_take
abbrev Hb:=@List.lt_trans
namespace L2
open PySem PySem.Spec PyProof.Rows
abbrev Key:=Sum Int Str
def oW:Key->Value->Bool
 | .inl k,v=>Value.isInt k v
 | .inr x,v=>Value.isStrOf x v
def ya(w:World):Key->Int
 | .inl k=>hashInt k
 | .inr x=>hashStr w x
theorem jy:∀{k:Key} {v:Value},oW k v=true->(∃ i t,k=Sum.inl i/\v=Value.int i t)\/(∃ x t,k=Sum.inr x/\v=Value.str x t)
 | .inl i,v,h=>by
  obtain⟨t,e⟩:=Value.isInt_shape (k:=i) (v:=v) h;exact .inl ⟨i,t,rfl,e⟩
 | .inr x,v,h=>by
  obtain⟨t,e⟩:=Value.isStrOf_shape (x:=x) (v:=v) h;exact .inr ⟨x,t,rfl,e⟩
theorem Qv(i:Int)(t:Tok):oW (.inl i) (.int i t)=true:=by simp [oW,Value.isInt]
theorem Qw(x:Str)(t:Tok):oW (.inr x) (.str x t)=true:=by simp [oW,Value.isStrOf]
theorem Qx(a b:Int):decide ((Sum.inl a:Key)=Sum.inl b)=(a == b):=by
 by_cases e:a=b
 ·subst e;simp
 ·have h:¬(Sum.inl a:Key)=Sum.inl b:=λq=>e<|Sum.inl.inj q;rw [BR h];exact(beq_eq_false_iff_ne.mpr e).symm
theorem Qy(a b:Str):decide ((Sum.inr a:Key)=Sum.inr b)=decide (a=b):=by
 by_cases e:a=b
 ·subst e;simp
 ·have h:¬(Sum.inr a:Key)=Sum.inr b:=λq=>e<|Sum.inr.inj q;rw [BR h,BR e]
theorem Qz(a:Int)(b:Str):decide ((Sum.inl a:Key)=Sum.inr b)=false:=BR λq=>nomatch q
theorem QA(a:Str)(b:Int):decide ((Sum.inr a:Key)=Sum.inl b)=false:=BR λq=>nomatch q
def bI(prog:Program)(w:World):PySem.KeyKind prog w Key where
 is:=oW
 hash:=ya w
 inj:=λv a b ha hb=>by
  rcases jy ha with ⟨i,t,rfl,rfl⟩ | ⟨x,t,rfl,rfl⟩
  ·rcases jy hb with ⟨j,u,rfl,e⟩ | ⟨y,u,rfl,e⟩
   ·injection e with e1 _;rw [e1]
   ·exact nomatch e
  ·rcases jy hb with ⟨j,u,rfl,e⟩ | ⟨y,u,rfl,e⟩
   ·exact nomatch e
   ·injection e with e1 _;rw [e1]
 byValue:=λk v h=>by
  rcases jy h with ⟨i,t,rfl,rfl⟩ | ⟨x,t,rfl,rfl⟩ <;> rfl
 pyHash:=λhv h=>by
  rcases jy hv with ⟨i,t,rfl,rfl⟩ | ⟨x,t,rfl,rfl⟩
  ·exact wpAny_pyHash_int h
  ·exact wpAny_pyHash_str h
 eqBool:=λhu hv h=>by
  rcases jy hu with ⟨i,t,rfl,rfl⟩ | ⟨x,t,rfl,rfl⟩
  ·rcases jy hv with ⟨j,u,rfl,rfl⟩ | ⟨y,u,rfl,rfl⟩
   ·rw [Qx] at h;exact wpAny_eqBool_int h
   ·rw [Qz] at h;exact SeqAt.EqAt.int_str i t y u _ _ _ _ h
  ·rcases jy hv with ⟨j,u,rfl,rfl⟩ | ⟨y,u,rfl,rfl⟩
   ·rw [QA] at h;exact SeqAt.EqAt.str_int x t j u _ _ _ _ h
   ·rw [Qy] at h;exact wpAny_eqBool_str h
 «strs»:=λk x t v h=>by
  rcases jy h with ⟨i,u,rfl,e⟩ | ⟨y,u,rfl,e⟩
  ·exact nomatch e
  ·injection e with e1 _
   subst e1;cases v <;> rfl
theorem QE(prog:Program)(w:World)(i:Int)(t:Tok):(bI prog w).is (.inl i) (.int i t)=true:=Qv i t
theorem QH(prog:Program)(w:World)(x:Str)(t:Tok):(bI prog w).is (.inr x) (.str x t)=true:=Qw x t
inductive V where
 | non | bl (b:Bool) | int (i:Int) | str (x:Str) | gX (b:Array UInt8) | oX (b:UInt64) | ref (a:Addr) | ty (n:String)
 deriving DecidableEq
def RelV:V->Value->Prop
 | .non,u=>u=Value.none
 | .bl b,u=>u=Value.bool b
 | .int i,u=>∃ t,u=Value.int i t
 | .str x,u=>∃ t,u=Value.str x t
 | .gX b,u=>∃ t,u=Value.bytes b t
 | .oX b,u=>∃ t,u=Value.float b t
 | .ref a,u=>u=Value.ref a
 | .ty n,u=>u=Value.type n
abbrev aw:List V->List Value->Prop:=Paired RelV
theorem aw.length{xs:List V}{us:List Value}(r:aw xs us):xs.length=us.length:=Paired.length r
theorem aw.get:∀{xs:List V} {us:List Value} {i:Nat} {x:V},aw xs us->xs[i]?=some x->∃ u,us[i]?=some u/\RelV x u
 | _,_,_,_,.nil,e=>by simp at e
 | _,_,0,_,.cons r _,e=>by simp at e;subst e;exact⟨_,rfl,r⟩
 | _,_,i+1,x,.cons _ t,e=>by
  obtain⟨u,h1,h2⟩:=aw.get (i:=i) (x:=x) t (by simpa using e);exact⟨u,by simpa using h1,h2⟩
theorem aw.set{x:V}{u:Value}(r:RelV x u):∀{xs:List V} {us:List Value} (i:Nat),aw xs us->aw (xs.set i x) (us.set i u)
 | _,_,_,.nil=> .nil
 | _,_,0,.cons _ t=> .cons r t
 | _,_,i+1,.cons q t=> .cons q<|aw.set r i t
theorem aw.append:∀{xs ys:List V} {us ws:List Value},aw xs us->aw ys ws->aw (xs++ys) (us++ws)
 | _,_,_,_,.nil,s=>s
 | _,_,_,_,.cons r t,s=> .cons r<|aw.append t s
theorem aw.take:∀{xs:List V} {us:List Value} (n:Nat),aw xs us->aw (xs.take n) (us.take n)
 | _,_,0,_=> .nil
 | _,_,_+1,.nil=> .nil
 | _,_,n+1,.cons r t=> .cons r<|aw.take n t
theorem aw.drop:∀{xs:List V} {us:List Value} (n:Nat),aw xs us->aw (xs.drop n) (us.drop n)
 | _,_,0,r=>r
 | _,_,_+1,.nil=> .nil
 | _,_,n+1,.cons _ t=>aw.drop n t
def dg:Option V->Option Value->Prop
 | some v,some u=>RelV v u
 | none,none=>True
 | _,_=>False
def KV{κ:Type}:List (κ×V)->List (κ×Value)->Prop:=Paired λ(p:κ×V) (q:κ×Value)=>p.1=q.1/\RelV p.2 q.2
def kV:Key->V
 | .inl i=> .int i
 | .inr x=> .str x
inductive HO where
 | lst (xs:List V)
 | tup (xs:List V)
 | dK (kvs:List<|Key×V) | dT (kvs:List<|List Key×V)
 | set (S:Int->Bool) (n:Nat)
 | ins (C dx:Addr) (fs:List<|Str×V)
 | own (x:Addr)
 | xd (fs:List<|Str×V)
 | met (f x:Addr)
 | yb (lo hi:Int)
 | bK (o:Obj) (u:HO)
 | mD (ps:Array Value)
 | ext (φ:Heap->Prop)
abbrev Hp:=Addr->Option HO
def upd(H:Hp)(a:Addr)(o:HO):Hp:=λb=>if b=a then some o else H b
theorem aA{H:Hp}{a:Addr}{o:HO}:upd H a o a=some o:=by unfold upd;rw [BL rfl]
theorem ax{H:Hp}{a b:Addr}{o:HO}(h:b≠a):upd H a o b=H b:=by unfold upd;rw [BK h]
theorem QI{H:Hp}{a:Addr}{o u:HO}:upd (upd H a o) a u=upd H a u:=by
 funext b;unfold upd;split <;> rfl
theorem cr{H:Hp}{a b:Addr}{o u:HO}(h:H a=some o)(h':H b=some u)(d:o≠u):a≠b:=by
 intro e;subst e;rw [h] at h';exact d<|Option.some.inj h'
theorem bU{H:Hp}{a b:Addr}{o:HO}(h:H a=some o)(h':H b=none):a≠b:=by
 intro e;subst e;rw [h] at h';cases h'
section
variable(P:Program)(w:World)
def ay(H:Hp)(h:Heap)(a:Addr):HO->Prop
 | .lst xs=>xs.length<=sizeLine/\∃(its:List Value) (n:Nat),aw xs its/\h.get? a=some {cls:= .type "list",data:= .seq its.toArray n}
 | .tup xs=>xs.length<=sizeLine/\∃ its:List Value,aw xs its/\IsTup h a its.toArray
 | .dK kvs=>kvs.length<=sizeLine/\(a == sysModules)=false/\∃ vs,KV kvs vs/\h.DictOf (bI P w) a vs
 | .dT kvs=>kvs.length<=sizeLine/\(a == sysModules)=false/\∃ xs:List<|List Key×Addr×Value,
   Paired (λ(p:List Key×V) (q:List Key×Addr×Value)=>p.1=q.1/\H q.2.1=some (.tup<|p.1.map kV)/\RelV p.2 q.2.2) kvs xs /\
   ∃ o es ep,h.get? a=some o/\o.ExactDict/\o.data = .dict es ep/\es.toList=xs.map (entryOfKey<|tupleKind<|bI P w)/\(xs.map (·.1)).Nodup
 | .set S n=>h.SetOf (intKind P w) a S n
 | .ins C dx fs=>H dx=some (.own a)/\fs.length<=1000/\dx≠a/\h.get? a=some (PySem.W.instObj C dx) /\
   ∃ mA,h.Ns1 dx mA/\(∀ f,dg (fs.lookup f)<|mA f)/\PySem.Within mA (fs.map (·.1))
 | .own _=>∃ o,h.get? a=some o
 | .xd fs=>∃ mA,h.Ns1 a mA/\∀ f,dg (fs.lookup f)<|mA f
 | .yb lo hi=>∃ t u v,h.get? a=some {cls:= .type "range",data:= .fields #[.int lo t,.int hi u,.int 1 v]}
 | .bK o u=>h.get? a=some o/\ay H h a u
 | .mD ps=>h.get? a=some {cls:= .none,data:= .fields ps}
 | .met f x=>h.get? a=some (PySem.W.methodObj (.ref f)<|.ref x)
 | .ext φ=>φ h/\(∃ o,h.get? a=some o)/\∀ h1 h2:Heap,φ h1->(∀ o,h1.get? a=some o->h2.get? a=some o)->φ h2
def cu(H:Hp)(h:Heap):Prop:=∀ a o,H a=some o->ay P w H h a o
end
section
variable{P:Program}{w:World}{H H':Hp}{h h':Heap}{a:Addr}{o:HO}
theorem ay.lt(x:ay P w H h a o):a < h.objs.size:=by
 cases o with
 | lst xs=>obtain⟨_,_,_,_,e⟩:=x;exact Ax e
 | tup xs=>obtain⟨_,_,_,p⟩:=x;exact p.lt
 | dK kvs=>obtain⟨_,_,_,_,o,_,_,e,_⟩:=x;exact Ax e
 | dT kvs=>obtain⟨_,_,_,_,o,_,_,e,_⟩:=x;exact Ax e
 | set S n=>obtain⟨o,_,_,_,e,_⟩:=x;exact Ax e
 | ins C dx fs=>obtain⟨_,_,_,e,_⟩:=x;exact Ax e
 | own y=>obtain⟨_,e⟩:=x;exact Ax e
 | xd fs=>obtain⟨_,⟨_,_,_,e,_⟩,_⟩:=x;exact Ax e
 | yb lo hi=>obtain⟨_,_,_,e⟩:=x;exact Ax e
 | bK ob u=>obtain⟨e,_⟩:=x;exact Ax e
 | mD ps=>exact Ax (show h.get? a=some _ from x)
 | met f y=>exact Ax (show h.get? a=some _ from x)
 | ext φ=>obtain⟨_,⟨_,e⟩,_⟩:=x;exact Ax e
theorem Paired.mE{α β:Type}{F G:α->β->Prop}:∀{l₁:List α} {l₂:List β},Paired F l₁ l₂->(∀ a b,F a b->G a b)->Paired G l₁ l₂
 | _,_,.nil,_=> .nil
 | _,_,.cons r t,f=> .cons (f _ _ r)<|Paired.mE t f
theorem ay.e9(x:ay P w H h a o)(k:∀ b u,(b=a\/H b=some (.own a))->h.get? b=some u->h'.get? b=some u)
  (ho:∀ b,H b=some (.own a)->H' b=some (.own a)) (ht:∀ b xs,H b=some (.tup xs)->H' b=some (.tup xs)):ay P w H' h' a o:=by
 induction o with
 | lst xs=>obtain⟨z,its,n,r,e⟩:=x;exact⟨z,its,n,r,k _ _ (.inl rfl) e⟩
 | tup xs=>obtain⟨z,its,r,ob,e,c⟩:=x;exact⟨z,its,r,ob,k _ _ (.inl rfl) e,c⟩
 | dK kvs=>obtain⟨z,y,vs,r,ob,es,ep,e,c⟩:=x;exact⟨z,y,vs,r,ob,es,ep,k _ _ (.inl rfl) e,c⟩
 | dT kvs=>
  obtain⟨z,y,xs,r,ob,es,ep,e,c⟩:=x;exact⟨z,y,xs,Paired.mE r λp q z=>⟨z.1,ht _ _ z.2.1,z.2.2⟩,ob,es,ep,k _ _ (.inl rfl) e,c⟩
 | set S n=>obtain⟨ob,es,ep,t,e,c⟩:=x;exact⟨ob,es,ep,t,k _ _ (.inl rfl) e,c⟩
 | ins C dx fs=>
  obtain⟨d,z,ne,e,mA,⟨od,es,ep,e2,c⟩,r⟩:=x;exact⟨ho _ d,z,ne,k _ _ (.inl rfl) e,mA,⟨od,es,ep,k _ _ (.inr d) e2,c⟩,r⟩
 | own y=>obtain⟨ob,e⟩:=x;exact⟨ob,k _ _ (.inl rfl) e⟩
 | xd fs=>obtain⟨mA,⟨od,es,ep,e,c⟩,r⟩:=x;exact⟨mA,⟨od,es,ep,k _ _ (.inl rfl) e,c⟩,r⟩
 | yb lo hi=>obtain⟨t,u,v,e⟩:=x;exact⟨t,u,v,k _ _ (.inl rfl) e⟩
 | bK ob u ih=>obtain⟨e,q⟩:=x;exact⟨k _ _ (.inl rfl) e,ih q⟩
 | mD ps=>
  have e:h.get? a=some {cls:= .none,data:= .fields ps}:=x;show h'.get? a=some {cls:= .none,data:= .fields ps};exact k a _ (.inl rfl) e
 | met f y=>
  have e:h.get? a=some (PySem.W.methodObj (.ref f)<|.ref y):=x;show h'.get? a=some (PySem.W.methodObj (.ref f)<|.ref y);exact k a _ (.inl rfl) e
 | ext φ=>obtain⟨p,⟨o,e⟩,st⟩:=x;exact⟨st _ _ p λo q=>k _ _ (.inl rfl) q,⟨o,k _ _ (.inl rfl) e⟩,st⟩
theorem cu.lt(x:cu P w H h)(e:H a=some o):a < h.objs.size:=(x a o e).lt
theorem cu.fresh(x:cu P w H h)(e:h.objs.size<=a):H a=none:=by
 cases q:H a with
 | none=>rfl
 | some u=>exact absurd (Bk (x.lt q) e)<|Dd _
theorem cu.kept(x:cu P w H h)(k:∀ b u,h.get? b=some u->h'.get? b=some u):cu P w H h':=λa o e=>
 (x a o e).e9 (λb u _ q=>k b u q) (λ_ q=>q) λ_ _ q=>q
theorem cu.laid(x:cu P w H h)(k:∀ b u,h.get? b=some u->h'.get? b=some u)(hp:h.objs.size<=a)(new:ay P w (upd H a o) h' a o):cu P w (upd H a o) h':=λb u e=>by
 have hn:=x.fresh hp
 by_cases hb:b=a
 ·subst hb;rw [aA] at e;cases e;exact new
 ·rw [ax hb] at e;exact(x b u e).e9 (λc v _ q=>k c v q) (λc q=>by rw [ax<|bU q hn];exact q) λc xs q=>by rw [ax<|bU q hn];exact q
end
def Rd(H:Hp)(a:Addr)(u:HO):Prop:=H a=some u\/∃ o,H a=some (.bK o u)
theorem Rd.ok{P:Program}{w:World}{H:Hp}{h:Heap}{a:Addr}{u:HO}(r:Rd H a u)(x:cu P w H h):ay P w H h a u:=by
 rcases r with r | ⟨o,r⟩
 ·exact x a u r
 ·obtain⟨_,q⟩:=x a _ r;exact q
def qp:Option HO->Prop
 | some (.lst _)=>True
 | some (.dK _)=>True
 | some (.dT _)=>True
 | some (.set _ _)=>True
 | some (.ins _ _ _)=>True
 | some (.ext _)=>True
 | _=>False
section
variable{P:Program}{w:World}{H:Hp}{h h':Heap}{x e:Addr}{o':HO}
theorem cu.write(ok:cu P w H h)(mu:qp<|H x)(he:e=x\/H e=some (.own x))(k:∀ b u,b≠e->h.get? b=some u->h'.get? b=some u)(oY:∃ u,h'.get? e=some u)
  (new:ay P w (upd H x o') h' x o'):cu P w (upd H x o') h':=λb u q=>by
 have qt:∀ c y,H c=some (.own y)->c≠x:=λc y r z=>by subst z;rw [r] at mu;exact mu
 have yc:∀ c xs,H c=some (.tup xs)->c≠x:=λc xs r z=>by subst z;rw [r] at mu;exact mu
 by_cases hb:b=x
 ·subst hb;rw [aA] at q;cases q;exact new
 ·rw [ax hb] at q
  by_cases jU:b=e
  ·have q':H b=some (.own x):=by
    rcases he with z | z
    ·exact absurd (jU.trans z) hb
    ·rw [jU];exact z
   rw [q] at q';cases q';obtain⟨v,hv⟩:=oY;exact⟨v,by rw [jU];exact hv⟩
  ·refine(ok b u q).e9 (λc v hc r=>k c v ?_ r) (λc r=>by rw [ax<|qt c b r];exact r) λc xs r=>by rw [ax<|yc c xs r];exact r
   rcases hc with rfl | hc
   ·exact jU
   ·rintro rfl
    rcases he with z | z
    ·exact qt c b hc z
    ·rw [hc] at z;cases z;exact hb rfl
end
structure Un(fs ex:List Addr)(H H':Hp)(h h':Heap):Prop where
 keep:∀ b o,h.get? b=some o->H b=none->b∉fs->b∉ex->h'.get? b=some o
 slot:∀ b o,h.get? b=some o->H b=none->b∈fs->b∉ex->∃ sl,h'.get? b=some {o with slots:=sl}
 free:∀ b o,h.get? b=some o->H b=none->b∉ex->H' b=none
 there:∀ b o,h.get? b=some o->b∉ex->∃ o',h'.get? b=some o'
 fb:∀ b xs,H b=some (.tup xs)->H' b=some (.tup xs)
 d3:∀ b o u,H b=some (.bK o u)->H' b=some (.bK o u)
 fc:∀ b ps,H b=some (.mD ps)->∃ more,H' b=some (.mD<|ps++more)
section
variable{fs QN ex HP:List Addr}{H H1 H2:Hp}{h h1 h2 h':Heap}{a x e:Addr}{o:HO}
theorem Un.any(u:Un fs ex H H1 h h1){b:Addr}{ob:Obj}(q:h.get? b=some ob)(n:H b=none)(hx:b∉ex):∃ sl,h1.get? b=some {ob with slots:=sl}:=by
 by_cases hb:b∈fs
 ·exact u.slot b ob q n hb hx
 ·exact⟨ob.slots,u.keep b ob q n hb hx⟩
theorem Un.kept(k:∀ b u,h.get? b=some u->h'.get? b=some u):Un fs ex H H h h':=
 ⟨λb ob q _ _ _=>k b ob q,λb ob q _ _ _=>⟨ob.slots,k b ob q⟩,λ_ _ _ n _=>n,λb ob q _=>⟨ob,k b ob q⟩,λ_ _ q=>q,λ_ _ _ q=>q,λ_ ps q=>⟨#[],by rw [q];simp⟩⟩
theorem Un.refl:Un fs ex H H h h:=Un.kept λ_ _ q=>q
theorem Un.laid(k:∀ b u,h.get? b=some u->h'.get? b=some u)(hp:h.objs.size<=a)(hn:H a=none):Un fs ex H (upd H a o) h h' where
 keep:=λb u q _ _ _=>k b u q
 slot:=λb u q _ _ _=>⟨u.slots,k b u q⟩
 free:=λb u q n _=>by rw [ax<|Bx<|Bk (Ax q) hp];exact n
 there:=λb u q _=>⟨u,k b u q⟩
 fb:=λb xs q=>by rw [ax<|bU q hn];exact q
 d3:=λb u xs q=>by rw [ax<|bU q hn];exact q
 fc:=λb ps q=>⟨#[],by rw [ax<|bU q hn,q];simp⟩
theorem Un.write(mu:qp<|H x)(he:e=x\/H e=some (.own x))(k:∀ b u,b≠e->h.get? b=some u->h'.get? b=some u)(oY:∃ u,h'.get? e=some u):Un fs ex H (upd H x o) h h':=by
 have hx:∀ b,H b=none->b≠x:=λb n z=>by subst z;rw [n] at mu;exact mu
 have hb:∀ b,H b=none->b≠e:=λb n z=>by
  subst z
  rcases he with r | r
  ·exact hx b n r
  ·rw [n] at r;cases r
 have hm:∀ b u,H b=some u->¬ qp (some u)->b≠x:=λb u q nm z=>by subst z;rw [q] at mu;exact nm mu
 refine⟨λb u q n _ _=>k b u (hb b n) q,λb u q n _ _=>⟨u.slots,k b u (hb b n) q⟩,λb u q n _=>by rw [ax<|hx b n];exact n,λb u q _=>?_,
  λb xs q=>by rw [ax<|hm b _ q λz=>z];exact q,λb u xs q=>by rw [ax<|hm b _ q λz=>z];exact q,λb ps q=>⟨#[],by rw [ax<|hm b _ q λz=>z,q];simp⟩⟩
 by_cases jU:b=e
 ·subst jU;exact oY
 ·exact⟨u,k b u jU q⟩
end
def uT(h:Heap)(H:Hp):List Addr:=(List.range h.objs.size).filter λa=>(H a).isSome
def d6(h:Heap)(H:Hp):Heap:=PySem.W.hideAll h<|uT h H
theorem QO(h:Heap)(H:Hp):(d6 h H).objs.size=h.objs.size:=PySem.W.hideAll_size _ _
theorem QP{h:Heap}{H:Hp}{b:Addr}{o:Obj}(e:h.get? b=some o)(n:H b=none):(d6 h H).get? b=some o:=
 PySem.W.hideAll_get _ e λhm=>by
  have q:(H b).isSome=true:=(Ds.mp hm).2;rw [n] at q;simp at q
theorem QQ{h:Heap}{H:Hp}{b:Addr}{o:Obj}(e:(d6 h H).get? b=some o):h.get? b=some o/\H b=none:=by
 have e':h.get? b=some o:=PySem.W.of_hideAll (uT h H) e;refine⟨e',?_⟩;cases q:H b with
 | none=>rfl
 | some x=>
  have hm:b∈uT h H:=Ds.mpr ⟨Br.mpr<|Ax e',by simp [q]⟩;have z:(d6 h H).get? b=none:=PySem.W.hideAll_none (uT h H) hm;rw [z] at e;cases e
structure Mod(K:PySem.W.Frag)(mg:Str->Option Value)(base:Heap):Prop where
 qu:K.In base
 glob:base.Ns mainGlobals mg
 blt:∃ mb,base.Ns builtinsNs mb/\∀ x:Str,x ≠ "__name__"->mb x=bootBuiltins x
 nolimit:base.NoLimit
structure Cx where
 prog:Program
 w:World
 K:PySem.W.Frag
 mg:Str->Option Value
 base:Heap
 A:Around
 N:List Str
 s₀:Shared
 H₀:Hp
 env:Env
 outer:List Env
 stack:List Env
 ex:List Addr
 fn:Str->Bool
 calm:Bool
 pn:List<|Addr×Obj
 xe:Value->Shared->Prop
def iD(l:List Env):List Addr:=l.filterMap (·.frame)
abbrev Cx.fs(X:Cx):List Addr:=iD X.outer
def yd(sc:Scope)(x:Str):Prop:=sc.names.lookup x=some .local\/sc.names.lookup x=some .cell\/sc.names.lookup x=some .free
def Loc(sc:Scope)(x:Str):Prop:=sc.names.lookup x=some .local\/sc.names.lookup x=some .cell
def Look(env:Env)(h:Heap)(m:Str->Option Value)(x:Str)(u:Value):Prop:=
 (env.kindOf x=some .local/\m x=some u)\/((env.kindOf x=some .cell\/env.kindOf x=some .free)/\∃ c,env.cells.lookup x=some c/\h.IsCell c (some u))
structure Cx.Ok(X:Cx):Prop where
 mod:Mod X.K X.mg X.base
 kind:X.env.scope.kind = .function
 glob:X.env.globals=mainGlobals
 blt:X.env.builtins=builtinsNs
 above:X.s₀.heap.objs.size<=X.env.locals
 inj:∀ x y c,X.env.cells.lookup x=some c->X.env.cells.lookup y=some c->x=y
 has:∀ x,(X.env.kindOf x=some .cell\/X.env.kindOf x=some .free)->∃ c,X.env.cells.lookup x=some c
 qv:∀ x c,X.fn x=true->X.env.cells.lookup x=some c->X.s₀.heap.objs.size<=c
 hd:X.calm=true->X.A.handled=none
 frames:X.A.frames=some X.stack
 uU:X.stack=X.outer\/(X.stack=X.env :: X.outer/\X.env.frame=some X.env.locals)
 HQ:∀ b∈X.ex,b≠X.env.locals/\∀ x c,X.env.cells.lookup x=some c->c≠b
 bs:∀ b o,X.base.get? b=some o->X.s₀.heap.get? b=some o/\X.H₀ b=none
 k4:X.base.objs.size<=X.s₀.heap.objs.size
 iW:∀ b o,X.base.get? b=some o->b∉X.ex
 jV:∀ b∈X.ex,b∉X.fs
 dh:X.s₀.heap.FunFrames X.base X.outer
 oZ:∀ b∈X.fs,X.H₀ b=none
structure Inv(X:Cx)(pins:List<|Addr×Obj)(σ:List<|Option V)(H:Hp)(s:Shared):Prop where
 ok:X.Ok
 os:s.os=X.s₀.os
 bare:AllBare s.gens
 base:Un X.fs X.ex X.H₀ H X.s₀.heap s.heap
 loc:∃ m,s.heap.Ns X.env.locals m/\∀(i:Nat) (x:Str) (v:V),X.N[i]?=some x->σ[i]?=some (some v)->yd X.env.scope x->∃ u,RelV v u/\Look X.env s.heap m x u
 cell:∀ x c,X.env.cells.lookup x=some c->∃ v,s.heap.IsCell c v
 free:H X.env.locals=none
 b6:∀ x c,X.env.cells.lookup x=some c->H c=none
 pin:∀ p∈X.pn++pins,s.heap.get? p.1=some p.2/\H p.1=none/\p.1≠X.env.locals/\p.1∉X.fs/\∀ v,p.2.data ≠ .cell v
 aD:cu X.prog X.w H s.heap
 len:σ.length=X.N.length
section
variable{X:Cx}{pins:List (Addr×Obj)}{σ:List (Option V)}{H H':Hp}{s:Shared}{h':Heap}
theorem Cx.Ok.ye(ok:X.Ok){b:Addr}{o:Obj}(e:X.base.get? b=some o):b∉X.fs:=λhb=>by
 have:=(ok.dh.mem hb).1;rw [e] at this;cases this
theorem Inv.bs(I:Inv X pins σ H s):∀ b o,X.base.get? b=some o->s.heap.get? b=some o/\H b=none:=λb o e=>
 ⟨I.base.keep b o (I.ok.bs b o e).1 (I.ok.bs b o e).2 (I.ok.ye e)<|I.ok.iW b o e,I.base.free b o (I.ok.bs b o e).1 (I.ok.bs b o e).2<|I.ok.iW b o e⟩
theorem Inv.bk(I:Inv X pins σ H s):∀ b o,X.base.get? b=some o->s.heap.get? b=some o:=λb o e=>(I.bs b o e).1
theorem Inv.mod(I:Inv X pins σ H s):Mod X.K X.mg X.base:=I.ok.mod
theorem Inv.fe(I:Inv X pins σ H s):X.K.In s.heap:=I.ok.mod.qu.keeps I.bk
theorem Inv.lt(I:Inv X pins σ H s):X.env.locals < s.heap.objs.size:=let ⟨_,hn,_⟩:=I.loc;hn.lt
theorem Inv.sz(I:Inv X pins σ H s):X.s₀.heap.objs.size<=s.heap.objs.size:=Cl I.ok.above<|Cw I.lt
theorem Inv.yf(I:Inv X pins σ H s){a:Addr}(h:s.heap.objs.size<=a):a∉X.fs:=λhb=>by
 obtain⟨_,o,ho,_⟩:=I.ok.dh.mem hb;exact absurd (Bk (Ax ho)<|Cl I.sz h)<|Dd _
theorem Inv.jW(I:Inv X pins σ H s):∀ x c,X.env.cells.lookup x=some c->c≠X.env.locals:=λx c e z=>by
 obtain⟨v,o,ho,hd⟩:=I.cell x c e;obtain⟨m,⟨o',es,ep,dH,QR,_⟩,_⟩:=I.loc;rw [z,dH] at ho;cases ho;rw [QR] at hd;cases hd
theorem Inv.dh(I:Inv X pins σ H s):s.heap.FunFrames X.base X.outer:=by
 have all:∀(l:List Env),(∀ b∈iD l,b∈X.fs)->X.s₀.heap.FunFrames X.base l->s.heap.FunFrames X.base l:=by
  intro l
  induction l with
  | nil=>intro _ _;trivial
  | cons env r ih=>
   intro hs hl;obtain⟨hk,⟨L,o,hf,hn,ho,hd⟩,hr⟩:=hl;have hL:L∈X.fs:=hs L (by unfold iD;rw [Ec,hf];exact Ad);obtain⟨sl,e⟩:=I.base.slot L o ho (I.ok.oZ L hL) hL λz=>I.ok.jV L z hL;exact⟨hk,⟨L,_,hf,hn,e,hd⟩,ih (λb hb=>hs b<|by unfold iD;rw [Ec,hf];exact Af _ hb) hr⟩
 exact all X.outer (λ_ hb=>hb) I.ok.dh
theorem Inv.stack(I:Inv X pins σ H s):s.heap.FunFrames X.base X.stack:=by
 rcases I.ok.uU with e | ⟨e,hf⟩
 ·rw [e];exact I.dh
 ·rw [e];obtain⟨m,hn,_⟩:=I.loc;refine .cons (by rw [I.ok.kind];decide) hf hn ?_ I.dh;exact Heap.get?_none_of_le<|Cl I.ok.k4 I.ok.above
theorem Inv.d7(I:Inv X pins σ H s):∀ b∈iD X.stack,b∈X.env.locals :: X.fs:=λb hb=>by
 rcases I.ok.uU with e | ⟨e,hf⟩
 ·rw [e] at hb;exact Af _ hb
 ·rw [e] at hb;unfold iD at hb;rw [Ec,hf] at hb;exact hb
theorem Inv.gu(I:Inv X pins σ H s):∀ b∈iD X.stack,H b=none:=λb hb=>by
 rcases Ah.mp (I.d7 b hb) with e | hb
 ·rw [e];exact I.free
 ·obtain⟨_,o,ho,_⟩:=I.ok.dh.mem hb;exact I.base.free b o ho (I.ok.oZ b hb) λz=>I.ok.jV b z hb
theorem Inv.step{g':Array GenState}{t':Nat}{d':Drawn}{ch:List Addr}(I:Inv X pins σ H s)
  (jz:∀ b∈ch,(b∈X.ex\/X.s₀.heap.objs.size<=b)/\b≠X.env.locals/\(∀ x c,X.env.cells.lookup x=some c->c≠b)/\∀ p∈X.pn++pins,p.1≠b)
  (keep:∀ b o,b≠X.env.locals->b∉X.fs->b∉ch->s.heap.get? b=some o->H b=none->h'.get? b=some o)
  (slot:∀ b o,b≠X.env.locals->b∈X.fs->b∉ch->s.heap.get? b=some o->H b=none->∃ sl,h'.get? b=some {o with slots:=sl}) (free:∀ b o,b∉ch->s.heap.get? b=some o->H b=none->H' b=none)
  (there:∀ b o,b∉ch->s.heap.get? b=some o->∃ o',h'.get? b=some o')
  (fb:∀ b xs,H b=some (.tup xs)->H' b=some (.tup xs)) (d3:∀ b o u,H b=some (.bK o u)->H' b=some (.bK o u)) (fc:∀ b ps,H b=some (.mD ps)->∃ more,H' b=some (.mD<|ps++more))
  (ns:∀ m,s.heap.Ns X.env.locals m->h'.Ns X.env.locals m) (aD:cu X.prog X.w H' h') (hg:AllBare g') :
  Inv X pins σ H' {s with heap:=h',gens:=g',drawn:=d',toks:=t'}:=by
 have HR:∀ b o,X.s₀.heap.get? b=some o->b≠X.env.locals:=λb o e=>Bx<|Bk (Ax e) I.ok.above;have uV:∀ b o,X.s₀.heap.get? b=some o->b∉X.ex->b∉ch:=λb o e hx hb=>by
  rcases (jz b hb).1 with z | z
  ·exact hx z
  ·exact absurd (Bk (Ax e) z)<|Dd _
 have cellK:∀ x c,X.env.cells.lookup x=some c->∀ v,s.heap.IsCell c v->h'.IsCell c v:=λx c e v ⟨o,ho,hd⟩=>by
  have qw:c∉ch:=λz=>(jz c z).2.2.1 x c e rfl
  by_cases hc:c∈X.fs
  ·obtain⟨sl,q⟩:=slot c o (I.jW x c e) hc qw ho<|I.b6 x c e;exact⟨_,q,hd⟩
  ·exact⟨o,keep c o (I.jW x c e) hc qw ho<|I.b6 x c e,hd⟩
 refine⟨I.ok,I.os,hg,⟨λb o e n hb hx=>?_,λb o e n hb hx=>?_,λb o e n hx=>?_,λb o e hx=>?_,λb xs e=>fb b xs<|I.base.fb b xs e,λb o xs e=>d3 b o xs<|I.base.d3 b o xs e,λb ps e=>?_⟩,?_,λx c e=>?_,?_,λx c e=>?_,λp hp=>?_,aD,I.len⟩
 ·exact keep b o (HR b o e) hb (uV b o e hx) (I.base.keep b o e n hb hx)<|I.base.free b o e n hx
 ·obtain⟨sl,e1⟩:=I.base.slot b o e n hb hx;obtain⟨QU,e2⟩:=slot b _ (HR b o e) hb (uV b o e hx) e1<|I.base.free b o e n hx;exact⟨QU,e2⟩
 ·obtain⟨o',e1⟩:=I.base.there b o e hx;exact free b o' (uV b o e hx) e1<|I.base.free b o e n hx
 ·obtain⟨o',e1⟩:=I.base.there b o e hx;exact there b o' (uV b o e hx) e1
 ·obtain⟨m1,e1⟩:=I.base.fc b ps e;obtain⟨m2,e2⟩:=fc b _ e1;exact⟨m1++m2,by rw [e2,Array.append_assoc]⟩
 ·obtain⟨m,hn,hl⟩:=I.loc;refine⟨m,ns m hn,λi x v e1 e2 e3=>?_⟩;obtain⟨u,r,l⟩:=hl i x v e1 e2 e3;refine⟨u,r,?_⟩
  rcases l with l | ⟨k,c,e,z⟩
  ·exact .inl l
  ·exact .inr ⟨k,c,e,cellK x c e _ z⟩
 ·obtain⟨v,z⟩:=I.cell x c e;exact⟨v,cellK x c e v z⟩
 ·obtain⟨m,⟨o,_,_,ho,_⟩,_⟩:=I.loc;exact free _ o (λz=>(jz _ z).2.1 rfl) ho I.free
 ·obtain⟨v,o,ho,hd⟩:=I.cell x c e;exact free c o (λz=>(jz c z).2.2.1 x c e rfl) ho<|I.b6 x c e
 ·obtain⟨e,n,ne,nf,d⟩:=I.pin p hp;have qw:p.1∉ch:=λz=>(jz p.1 z).2.2.2 p hp rfl;exact⟨keep p.1 p.2 ne nf qw e n,free p.1 p.2 qw e n,ne,nf,d⟩
theorem Inv.un{t':Nat}(I:Inv X pins σ H s)(u:Un X.fs [] H H' s.heap h')(aD:cu X.prog X.w H' h'):Inv X pins σ H' {s with heap:=h',toks:=t'}:=by
 obtain⟨m,⟨o,es,ep,ho,r⟩,_⟩:=id I.loc;obtain⟨sl,hL⟩:=u.any ho I.free (by simp);exact I.step (g':=s.gens) (d':=s.drawn) (ch:=[]) (λ_ z=>nomatch z) (λb o _ hb _ e n=>u.keep b o e n hb<|by simp) (λb o _ hb _ e n=>u.slot b o e n hb<|by simp) (λb o _ e n=>u.free b o e n<|by simp) (λb o _ e=>u.there b o e<|by simp) u.fb u.d3 u.fc (λm' hm=>by
  obtain⟨o',iE,qz,dH,r'⟩:=hm;rw [ho] at dH;cases dH;exact⟨_,iE,qz,hL,r'⟩) aD I.bare
theorem Inv.call{g':Array GenState}{t':Nat}{d':Drawn}{ch:List Addr}(I:Inv X pins σ H s)(u:Un (iD X.stack) ch H H' s.heap h')(aD:cu X.prog X.w H' h')(hg:AllBare g')
  (jz:∀ b∈ch,(b∈X.ex\/X.s₀.heap.objs.size<=b)/\b≠X.env.locals/\(∀ x c,X.env.cells.lookup x=some c->c≠b)/\∀ p∈X.pn++pins,p.1≠b) :
  Inv X pins σ H' {s with heap:=h',gens:=g',drawn:=d',toks:=t'}:=by
 obtain⟨m,⟨o,es,ep,ho,r⟩,_⟩:=id I.loc;obtain⟨sl,hL⟩:=u.any ho I.free λz=>(jz _ z).2.1 rfl;exact I.step (ch:=ch) jz (λb o hL hb hc e n=>u.keep b o e n (λz=>(Ah.mp<|I.d7 b z).elim hL hb) hc) (λb o _ _ hc e n=>u.any e n hc) (λb o hc e n=>u.free b o e n hc) (λb o hc e=>u.there b o e hc) u.fb u.d3 u.fc (λm' hm=>by
  obtain⟨o',iE,qz,dH,r'⟩:=hm;rw [ho] at dH;cases dH;exact⟨_,iE,qz,hL,r'⟩) aD hg
theorem Inv.turned{t':Nat}{it:Addr}(I:Inv X pins σ H s)(k:∀ b o,b≠it->s.heap.get? b=some o->h'.get? b=some o)(hn:H it=none)(hL:it≠X.env.locals)
  (h1:it∈X.ex\/X.s₀.heap.objs.size<=it) (h2:∀ x c,X.env.cells.lookup x=some c->c≠it) (h3:∀ p∈X.pn++pins,p.1≠it):Inv X pins σ H {s with heap:=h',toks:=t'}:=by
 have qA:∀ b u,H b=some u->b≠it:=λb u e z=>by rw [z,hn] at e;cases e
 refine I.step (g':=s.gens) (d':=s.drawn) (ch:=[it]) (λb hb=>?_) (λb o _ _ hc e _=>k b o (λz=>hc<|by simp [z]) e) (λb o _ _ hc e _=>⟨o.slots,k b o (λz=>hc<|by simp [z]) e⟩) (λ_ _ _ _ n=>n)
  (λb o hc e=>⟨o,k b o (λz=>hc<|by simp [z]) e⟩) (λ_ _ e=>e) (λ_ _ _ e=>e) (λb ps e=>⟨#[],by rw [e];simp⟩) (λm hm=>?_) (λb u e=>?_) I.bare
 ·have e:b=it:=by simpa using hb
  subst e;exact⟨h1,hL,h2,h3⟩
 ·obtain⟨o,es,ep,ho,r⟩:=hm;exact⟨o,es,ep,k _ o (Ne.symm hL) ho,r⟩
 ·refine(I.aD b u e).e9 (λc v hc q=>k c v ?_ q) (λ_ q=>q) λ_ _ q=>q
  rcases hc with z | z
  ·rw [z];exact qA b u e
  ·exact qA c _ z
theorem Inv.tok(I:Inv X pins σ H s)(t:Nat):Inv X pins σ H {s with toks:=t}:=I.un (h':=s.heap) (t':=t) Un.refl I.aD
theorem Inv.kept{t':Nat}(I:Inv X pins σ H s)(k:∀ b u,s.heap.get? b=some u->h'.get? b=some u):Inv X pins σ H {s with heap:=h',toks:=t'}:=I.un (Un.kept k)<|I.aD.kept k
theorem Inv.laid{a:Addr}{o:HO}{t':Nat}(I:Inv X pins σ H s)(k:∀ b u,s.heap.get? b=some u->h'.get? b=some u)(hp:s.heap.objs.size<=a)(new:ay X.prog X.w (upd H a o) h' a o) :
  Inv X pins σ (upd H a o) {s with heap:=h',toks:=t'}:=I.un (Un.laid k hp<|I.aD.fresh hp)<|I.aD.laid k hp new
theorem Inv.write{x e:Addr}{o:HO}{t':Nat}(I:Inv X pins σ H s)(mu:qp<|H x)(he:e=x\/H e=some (.own x))(k:∀ b u,b≠e->s.heap.get? b=some u->h'.get? b=some u)(oY:∃ u,h'.get? e=some u)
  (new:ay X.prog X.w (upd H x o) h' x o):Inv X pins σ (upd H x o) {s with heap:=h',toks:=t'}:=I.un (Un.write mu he k oY)<|I.aD.write mu he k oY new
theorem Inv.gx{k5:List (Addr×Obj)}(I:Inv X pins σ H s)(h:∀ p∈k5,s.heap.get? p.1=some p.2/\H p.1=none/\p.1≠X.env.locals/\p.1∉X.fs/\∀ v,p.2.data ≠ .cell v):Inv X k5 σ H s:=
 ⟨I.ok,I.os,I.bare,I.base,I.loc,I.cell,I.free,I.b6,λp hp=>(Aq.mp hp).elim (λz=>I.pin p<|Be _ z)<|h p,I.aD,I.len⟩
theorem qB{N:List Str}(hN:N.Nodup){i j:Nat}{x:Str}(a:N[i]?=some x)(b:N[j]?=some x):i=j:=by
 obtain⟨h1,e1⟩:=Ac.mp a;obtain⟨h2,e2⟩:=Ac.mp b;exact(Gk hN).mp<|e1.trans e2.symm
theorem HU{M:Model}{A:Around}{E:Value->Shared->Prop}{i:Nat}{x:Str}{v:V}{u:Value}{Q:Unit->Shared->Prop}(I:Inv X pins σ H s)(hN:X.N.Nodup)(hi:X.N[i]?=some x)(hx:Loc X.env.scope x)(r:RelV v u)
  (h:∀ s',Inv X pins (σ.set i<|some v) H s'->(∃ a,Heap.SameBut a s.heap s'.heap/\(a=X.env.locals\/X.env.cells.lookup x=some a))->Q () s') (hf:X.fn x=true\/X.env.scope.names.lookup x=some .local:=by first | exact .inl rfl | exact .inr rfl | assumption):wpAny M A (storeName X.env x u) Q E s:=by
 obtain⟨m,hn,hl⟩:=id I.loc;have yg:(X.env.scope.kind == .class || (X.env.scope.kind == .module && X.env.locals != X.env.globals))=false:=by rw [I.ok.kind];rfl
 have hiσ:i < σ.length:=by rw [I.len];exact(Ac.mp hi).1
 have jW:=I.jW;have tracked:∀{a:Addr} {h':Heap},(∃ o,s.heap.get? a=some o/\H a=none)->Heap.SameBut a s.heap h'->cu X.prog X.w H h':=λ{a h'} ha hs b ob e=>by
  obtain⟨_,_,k8⟩:=ha;refine(I.aD b ob e).e9 (λc w' hc q=>(hs.2 c ?_).trans q) (λ_ q=>q) λ_ _ q=>q;rintro rfl
  rcases hc with rfl | hc
  ·rw [k8] at e;cases e
  ·rw [k8] at hc;cases hc
 rcases hx with hk | hk
 ·refine wpAny_storeName_local hk hn (λh' uW hs=>?_) yg;obtain⟨oL,_,_,mF,_⟩:=id hn;refine h _ ⟨I.ok,I.os,I.bare,⟨λb o e n hb hx=>?_,λb o e n hb hx=>?_,I.base.free,λb o e hx=>?_,I.base.fb,I.base.d3,I.base.fc⟩,⟨_,uW,λj y v' e1 e2 e3=>?_⟩,λy c e=>?_,I.free,I.b6,λp hp=>?_,tracked ⟨oL,mF,I.free⟩ hs,by simpa using I.len⟩ ⟨_,hs,.inl rfl⟩
  ·exact(hs.2 b<|Bx<|Bk (Ax e) I.ok.above).trans<|I.base.keep b o e n hb hx
  ·obtain⟨sl,e1⟩:=I.base.slot b o e n hb hx;exact⟨sl,(hs.2 b<|Bx<|Bk (Ax e) I.ok.above).trans e1⟩
  ·obtain⟨o',e1⟩:=I.base.there b o e hx;exact⟨o',(hs.2 b<|Bx<|Bk (Ax e) I.ok.above).trans e1⟩
  ·by_cases hj:j=i
   ·subst hj;rw [hi] at e1;cases e1;rw [Ed hiσ] at e2;cases e2;exact⟨u,r,.inl ⟨hk,by simp⟩⟩
   ·rw [Es<|Ne.symm hj] at e2;obtain⟨u',r',q⟩:=hl j y v' e1 e2 e3;refine⟨u',r',?_⟩
    rcases q with ⟨k,e⟩ | ⟨k,c,e,z⟩
    ·refine .inl ⟨k,?_⟩;have:y≠x:=λe=>hj<|qB hN e1<|e ▸ hi;simp [this,e]
    ·exact .inr ⟨k,c,e,z.sameBut hs<|jW y c e⟩
  ·obtain⟨w',z⟩:=I.cell y c e;exact⟨w',z.sameBut hs<|jW y c e⟩
  ·obtain⟨e,n,ne,nf,d⟩:=I.pin p hp;exact⟨(hs.2 p.1 ne).trans e,n,ne,nf,d⟩
 ·have yh:X.fn x=true:=by
   rcases hf with z | z
   ·exact z
   ·rw [z] at hk;cases hk
  obtain⟨c,hc⟩:=I.ok.has x<|.inl hk;obtain⟨w',z⟩:=I.cell x c hc;refine wpAny_storeName_cell I.ok.kind hk hc z λh' bf hs=>?_;obtain⟨oc,HV,yi⟩:=id z;refine h {s with heap:=h'} ⟨I.ok,I.os,I.bare,⟨λb o e n hb hx=>?_,λb o e n hb hx=>?_,I.base.free,λb o e hx=>?_,I.base.fb,I.base.d3,I.base.fc⟩,⟨m,hn.sameBut hs<|Ne.symm<|jW x c hc,λj y v' e1 e2 e3=>?_⟩,λy c' e=>?_,I.free,I.b6,λp hp=>?_,tracked ⟨oc,HV,I.b6 x c hc⟩ hs,by simpa using I.len⟩ ⟨c,hs,.inr hc⟩
  ·exact(hs.2 b<|Bx<|Bk (Ax e)<|I.ok.qv x c yh hc).trans<|I.base.keep b o e n hb hx
  ·obtain⟨sl,e1⟩:=I.base.slot b o e n hb hx;exact⟨sl,(hs.2 b<|Bx<|Bk (Ax e)<|I.ok.qv x c yh hc).trans e1⟩
  ·obtain⟨o',e1⟩:=I.base.there b o e hx;exact⟨o',(hs.2 b<|Bx<|Bk (Ax e)<|I.ok.qv x c yh hc).trans e1⟩
  ·by_cases hj:j=i
   ·subst hj;rw [hi] at e1;cases e1;rw [Ed hiσ] at e2;cases e2;exact⟨u,r,.inr ⟨.inl hk,c,hc,bf⟩⟩
   ·rw [Es<|Ne.symm hj] at e2;obtain⟨u',r',q⟩:=hl j y v' e1 e2 e3;refine⟨u',r',?_⟩
    rcases q with q | ⟨k,c',e,z'⟩
    ·exact .inl q
    ·refine .inr ⟨k,c',e,z'.sameBut hs ?_⟩;rintro rfl;exact hj<|qB hN e1<|I.ok.inj _ _ _ e hc ▸ hi
  ·by_cases gy:c'=c
   ·subst gy;exact⟨_,bf⟩
   ·obtain⟨w2,z2⟩:=I.cell y c' e;exact⟨w2,z2.sameBut hs gy⟩
  ·obtain⟨e,n,ne,nf,d⟩:=I.pin p hp;refine⟨(hs.2 p.1 ?_).trans e,n,ne,nf,d⟩;intro q;rw [q,HV] at e;have q':oc=p.2:=Option.some.inj e;exact d w'<|by rw [<- q'];exact yi
theorem HZ{M:Model}{A:Around}{E:Value->Shared->Prop}{i:Nat}{x:Str}{v:V}{u:Value}{Q:Unit->Shared->Prop}(I:Inv X pins σ H s)(hN:X.N.Nodup)(hi:X.N[i]?=some x)(hx:Loc X.env.scope x)(r:RelV v u)
  (h:∀ s',Inv X pins (σ.set i<|some v) H s'->Q () s') (hf:X.fn x=true\/X.env.scope.names.lookup x=some .local:=by first | exact .inl rfl | exact .inr rfl | assumption):wpAny M A (storeName X.env x u) Q E s:=
 HU I hN hi hx r (λs' I' _=>h s' I') hf
theorem Inv.call'{s':Shared}{ch:List Addr}(I:Inv X pins σ H s)(ho:s'.os=s.os)(u:Un (iD X.stack) ch H H' s.heap s'.heap)(aD:cu X.prog X.w H' s'.heap)(hg:AllBare s'.gens)
  (jz:∀ b∈ch,(b∈X.ex\/X.s₀.heap.objs.size<=b)/\b≠X.env.locals/\(∀ x c,X.env.cells.lookup x=some c->c≠b)/\∀ p∈X.pn++pins,p.1≠b):Inv X pins σ H' s':=by
 obtain⟨h',g',d',t',o'⟩:=s';have e:o'=s.os:=ho;subst e;exact I.call (g':=g') (t':=t') (d':=d') u aD hg jz
end
abbrev XK:=Value->Option Addr->Hp->Prop
abbrev St:=List<|Option V
abbrev VK:=V->Hp->Prop
abbrev TE:=St->Hp->VK->Prop
abbrev TT:=St->Hp->(Bool->Hp->Prop)->Prop
abbrev TA:=St->Hp->(List V->Hp->Prop)->Prop
structure Ends where
 nx:St->Hp->Prop
 rt:VK
 bk:St->Hp->Prop:=λ_ _=>False
 ct:St->Hp->Prop:=λ_ _=>False
abbrev TS:=Ends->St->Hp->Prop
def EP(X:Cx)(pins:List<|Addr×Obj)(σ:St)(Q:VK)(u:Value)(s':Shared):Prop:=∃ v H',Inv X pins σ H' s'/\RelV v u/\Q v H'
def TP(X:Cx)(pins:List<|Addr×Obj)(σ:St)(Q:Bool->Hp->Prop)(b:Bool)(s':Shared):Prop:=∃ H',Inv X pins σ H' s'/\Q b H'
def AP(X:Cx)(pins:List<|Addr×Obj)(σ:St)(Q:List V->Hp->Prop)(us:List Value)(s':Shared):Prop:=∃ vs H',Inv X pins σ H' s'/\aw vs us/\Q vs H'
def SP(X:Cx)(pins:List<|Addr×Obj)(D:Ends)(f:Flow)(s':Shared):Prop:=
 match f with
 | .next=>∃ σ' H',Inv X pins σ' H' s'/\D.nx σ' H'
 | .brk=>∃ σ' H',Inv X pins σ' H' s'/\D.bk σ' H'
 | .cont=>∃ σ' H',Inv X pins σ' H' s'/\D.ct σ' H'
 | .ret u=>∃ v σ' H',Inv X pins σ' H' s'/\RelV v u/\D.rt v H'
def PE(X:Cx)(e:Expr)(t:TE):Prop:=
 ∀(pins:List<|Addr×Obj) (s:Shared) (σ:St) (H:Hp) (Q:VK),Inv X pins σ H s->t σ H Q->wpAny (model X.prog X.w) X.A (eval e X.env) (EP X pins σ Q) X.xe s
def PT(X:Cx)(e:Expr)(t:TT):Prop:=
 ∀(pins:List<|Addr×Obj) (s:Shared) (σ:St) (H:Hp) (Q:Bool->Hp->Prop),Inv X pins σ H s->t σ H Q->wpAny (model X.prog X.w) X.A (isTrue e X.env<|eval e X.env) (TP X pins σ Q) X.xe s
def PW(X:Cx)(e:Expr)(t:TT):Prop:=
 ∀(whole:Sem Value) (pins:List<|Addr×Obj) (s:Shared) (σ:St) (H:Hp) (Q:Bool->Hp->Prop),Inv X pins σ H s->t σ H Q->wpAny (model X.prog X.w) X.A (isTrue e X.env whole) (TP X pins σ Q) X.xe s
def PA(X:Cx)(es:List Expr)(t:TA):Prop:=
 ∀(pos:Pos) (pins:List<|Addr×Obj) (s:Shared) (σ:St) (H:Hp) (Q:List V->Hp->Prop),Inv X pins σ H s->t σ H Q->wpAny (model X.prog X.w) X.A (spliced<|backTo pos<|starEach es X.env) (AP X pins σ Q) X.xe s
def PS(X:Cx)(st:Stmt)(t:TS):Prop:=
 ∀(pins:List<|Addr×Obj) (s:Shared) (σ:St) (H:Hp) (D:Ends),Inv X pins σ H s->t D σ H->wpAny (model X.prog X.w) X.A (exec st X.env) (SP X pins D) X.xe s
def gY(X:Cx)(st:List Stmt)(t:TS):Prop:=
 ∀(pins:List<|Addr×Obj) (s:Shared) (σ:St) (H:Hp) (D:Ends),Inv X pins σ H s->t D σ H->wpAny (model X.prog X.w) X.A (execs st X.env) (SP X pins D) X.xe s
theorem aI{α:Type}{t:Sem α}{Q Q':α->Shared->Prop}{M:Model}{A:Around}{E:Value->Shared->Prop}{s:Shared}(h:wpAny M A t Q E s)(hQ:∀ a s,Q a s->Q' a s):wpAny M A t Q' E s:=CN h hQ λ_ _ x=>x
section
variable{X:Cx}
theorem bin{a b:Expr}{ta tb:TE}(ha:PE X a ta)(hb:PE X b tb){pins:List (Addr×Obj)}{s:Shared}{σ:St}{H:Hp}{R:V->V->Hp->Prop}(I:Inv X pins σ H s)(h:ta σ H λx H1=>tb σ H1 λy H2=>R x y H2)
  {α:Type} {Q:α->Shared->Prop} {f:Value->Value->Sem α}
  (hf:∀ v u s2 x y H2,Inv X pins σ H2 s2->RelV x v->RelV y u->R x y H2->wpAny (model X.prog X.w) X.A (f v u) Q X.xe s2) :
  wpAny (model X.prog X.w) X.A (eval a X.env) (λv s₁=>wpAny (model X.prog X.w) X.A (eval b X.env) (λu s₂=>wpAny (model X.prog X.w) X.A (f v u) Q X.xe s₂) X.xe s₁) X.xe s:=by
 refine aI (ha pins s σ H _ I h) λv s1 ⟨x,H1,I1,r1,q1⟩=>?_;refine aI (hb pins s1 σ H1 _ I1 q1) λu s2 ⟨y,H2,I2,r2,q2⟩=>?_;exact hf v u s2 x y H2 I2 r1 r2 q2
def yj(i:Nat):TE:=λσ H Q=>∃ v,σ[i]?=some (some v)/\Q v H
def tC(v:V):TE:=λ_ H Q=>Q v H
theorem QY{i:Nat}{x:Str}{pos:Pos}(hN:X.N[i]?=some x)(hv:yd X.env.scope x)(hd:(x == ("__debug__" : Str))=false:=by decide)(iF:(x == ("__classdict__" : Str))=false:=by decide):PE X (.Name x pos) (yj i):=by
 intro pins s σ H Q I h;obtain⟨v,e,h⟩:=h;obtain⟨m,hn,hl⟩:=I.loc;obtain⟨u,r,l⟩:=hl i x v hN e hv;have fin:EP X pins σ Q u s:=⟨v,H,I,r,h⟩
 rcases l with ⟨hk,hm⟩ | ⟨hk,c,hc,gA⟩
 ·exact wpAny_Name (wpAny_loadName_local I.ok.kind hk hn hm fin) hd
 ·rcases hk with hk | hk
  ·exact wpAny_Name (wpAny_loadName_cell I.ok.kind hk hc gA fin) hd
  ·exact wpAny_Name (wpAny_loadName_free I.ok.kind hk hc gA fin iF) hd
theorem Q1{i j pos}:PE X (.Constant (.int i) j pos) (tC<|.int i):=λ_ _ _ H _ I h=>wpAny_Constant_int ⟨.int i,H,I.tok _,⟨_,rfl⟩,h⟩
theorem Q2{b j pos}:PE X (.Constant (.bool b) j pos) (tC<|.bl b):=λ_ _ _ H _ I h=>Constant_bool ⟨.bl b,H,I,rfl,h⟩
theorem Q3{x j pos}:PE X (.Constant (.str x) j pos) (tC<|.str x):=λ_ _ _ H _ I h=>Calls.Constant_str ⟨.str x,H,I.tok _,⟨_,rfl⟩,h⟩
def Gl(X:Cx)(x:Str):Prop:=X.env.kindOf x=some .globalImplicit
theorem Q4{E:Value->Shared->Prop}{pins:List (Addr×Obj)}{s:Shared}{σ:St}{H:Hp}{x:Str}{u:Value}{pos:Pos}{Q:Value->Shared->Prop}(I:Inv X pins σ H s)(hg:Gl X x)(hm:X.mg x=some u)(h:Q u s)
  (hd:(x == ("__debug__" : Str))=false:=by decide):wpAny (model X.prog X.w) X.A (eval (.Name x pos) X.env) Q E s:=
 Calls.Name_function_global I.ok.kind hg (Calls.loadGlobal_global (by rw [I.ok.glob];exact I.mod.glob.keeps I.bk) hm h) hd
theorem iG{E:Value->Shared->Prop}{pins:List (Addr×Obj)}{s:Shared}{σ:St}{H:Hp}{x:Str}{u:Value}{pos:Pos}{Q:Value->Shared->Prop}(I:Inv X pins σ H s)(hg:Gl X x)(hm:X.mg x=none)(hv:bootBuiltins x=some u)(h:Q u s)
  (hn:x ≠ "__name__":=by decide) (hd:(x == ("__debug__" : Str))=false:=by decide):wpAny (model X.prog X.w) X.A (eval (.Name x pos) X.env) Q E s:=by
 obtain⟨mb,h1,h2⟩:=I.mod.blt;exact Calls.Name_function_global I.ok.kind hg (Calls.loadGlobal_builtin (by rw [I.ok.glob];exact I.mod.glob.keeps I.bk) hm (by rw [I.ok.blt];exact h1.keeps I.bk) ((h2 x hn).trans hv) h) hd
theorem Q5{x:Str}{v:V}{u:Value}{pos:Pos}(hg:Gl X x)(hm:X.mg x=none)(hv:bootBuiltins x=some u)(r:RelV v u)(hn:x ≠ "__name__":=by decide)(hd:(x == ("__debug__" : Str))=false:=by decide):PE X (.Name x pos) (tC v):=
 λ_ _ _ H _ I h=>iG I hg hm hv ⟨v,H,I,r,h⟩ hn hd
variable{a b:Expr}{ta tb:TE}{pos:Pos}
def PC(X:Cx)(op:CmpOp)(a b:Expr)(t:TE):Prop:=
 ∀(pins:List<|Addr×Obj) (s:Shared) (σ:St) (H:Hp) (Q:VK),Inv X pins σ H s->t σ H Q ->
  wpAny (model X.prog X.w) X.A (eval a X.env) (λv s₁=>wpAny (model X.prog X.w) X.A (eval b X.env) (λu s₂=>wpAny (model X.prog X.w) X.A (compareOp op v u) (EP X pins σ Q) X.xe s₂) X.xe s₁) X.xe s
def tB(t:TE):TT:=λσ H Q=>t σ H λx H1=>∃ c,x = .bl c/\Q c H1
theorem Ia{op:CmpOp}{t:TE}(h:PC X op a b t)(h1:behindInMarks op b=false:=by first | exact qC _ (by decide) (by decide) | rfl):PT X (.Compare a [op] [b] pos) (tB t):=by
 intro pins s σ H Q I hw;refine wpAny_isTrue_Compare1 (aI (h pins s σ H _ I hw) λv s1 h1=>aI h1 λu s2 h2=>aI h2 λc s3 ⟨x,H1,I1,r1,q1⟩=>?_) h1;obtain⟨d,rfl,q⟩:=q1;cases r1;exact DK ⟨H1,I1,q⟩
theorem Q6{e:Expr}{t:TE}(h:PE X e t)(he:∀ whole,isTrue e X.env whole=(do let v <- whole;standAt e.pos;holding [v] (truthy v)):=by intro _;rfl):PT X e (tB t):=by
 intro pins s σ H Q I hw;refine isTrue_plain (aI (h pins s σ H _ I hw) λv s1 ⟨x,H1,I1,r1,q1⟩=>?_)<|he _;obtain⟨d,rfl,q⟩:=q1;cases r1;exact DK ⟨H1,I1,q⟩
variable{tA uX:TT}{rest:List Expr}
def yk(t u:TT):TT:=λσ H Q=>t σ H λc H1=>if c=true then u σ H1 Q else Q false H1
def Q7(t u:TT):TT:=λσ H Q=>t σ H λc H1=>if c=true then Q true H1 else u σ H1 Q
def yl(t:TT):TT:=λσ H Q=>t σ H λc H1=>Q (!c) H1
theorem Q8(ha:PT X a tA):PW X (.BoolOp .And [a] pos) tA:=by
 intro wh pins s σ H Q I h;refine isTrue_and<|aI (ha pins s σ H Q I h) λc s1 e=>?_;cases c with
 | true=>exact isTrue_and_nil e
 | false=>exact e
theorem Q9(ha:PT X a tA):PW X (.BoolOp .Or [a] pos) tA:=by
 intro wh pins s σ H Q I h;refine isTrue_or<|aI (ha pins s σ H Q I h) λc s1 e=>?_;cases c with
 | false=>exact isTrue_or_nil e
 | true=>exact e
theorem Ra(ha:PT X a tA)(hb:PW X (.BoolOp .And (b :: rest) pos) uX):PW X (.BoolOp .And (a :: b :: rest) pos) (yk tA uX):=by
 intro wh pins s σ H Q I h;refine isTrue_and<|aI (ha pins s σ H _ I h) λc s1 ⟨H1,I1,q1⟩=>?_;cases c with
 | true=>exact hb wh pins s1 σ H1 Q I1 q1
 | false=>exact⟨H1,I1,q1⟩
theorem Rb(ha:PT X a tA)(hb:PW X (.BoolOp .Or (b :: rest) pos) uX):PW X (.BoolOp .Or (a :: b :: rest) pos) (Q7 tA uX):=by
 intro wh pins s σ H Q I h;refine isTrue_or<|aI (ha pins s σ H _ I h) λc s1 ⟨H1,I1,q1⟩=>?_;cases c with
 | true=>exact⟨H1,I1,q1⟩
 | false=>exact hb wh pins s1 σ H1 Q I1 q1
theorem Rc(ha:PT X a tA):PT X (.UnaryOp .Not a pos) (yl tA):=by
 intro pins s σ H Q I h;exact isTrue_not<|ha pins s σ H (λc H1=>Q (!c) H1) I h
def Rf(ta tb:TE):TE:=λσ H Q=>ta σ H λx H1=>∃ c,x = .bl c/\if c=true then tb σ H1 Q else Q (.bl false) H1
def Rg(ta:TE):TE:=λσ H Q=>ta σ H λx H1=>∃ c,x = .bl c/\Q (.bl (!c)) H1
theorem Rh{op}{t:TE}(h:PE X a t):PE X (.BoolOp op [a] pos) t:=λpins s σ H Q I hw=>BoolOp_one<|h pins s σ H Q I hw
theorem Ri(ha:PE X a ta)(hb:PE X (.BoolOp .And (b :: rest) pos) tb):PE X (.BoolOp .And (a :: b :: rest) pos) (Rf ta tb):=by
 intro pins s σ H Q I h;refine BoolOp_and<|aI (ha pins s σ H _ I h) λv s1 ⟨x,H1,I1,r1,q1⟩=>?_;obtain⟨c,rfl,q1⟩:=q1;cases r1;refine DK ?_;cases c with
 | true=>exact hb pins s1 σ H1 Q I1 q1
 | false=>exact⟨.bl false,H1,I1,rfl,q1⟩
theorem Rj(ha:PE X a ta):PE X (.UnaryOp .Not a pos) (Rg ta):=by
 intro pins s σ H Q I h;refine UnaryOp_<|aI (ha pins s σ H _ I h) λv s1 ⟨x,H1,I1,r1,q1⟩=>?_;obtain⟨c,rfl,q1⟩:=q1;cases r1;exact not_of<|DK ⟨.bl (!c),H1,I1,rfl,q1⟩
end
def ao(K:PySem.W.Frag)(H:Hp)(a:Addr)(xs:List V):Prop:=
 Rd H a (.lst xs) \/
  ∃(o:Obj) (its:Array Value) (n:Nat),K.lookup a=some o/\o.cls = .type "list"/\o.dict=none/\o.data = .seq its n/\its.size<=sizeLine/\aw xs its.toList
def aQ(K:PySem.W.Frag)(H:Hp)(a:Addr)(xs:List V):Prop:=
 Rd H a (.tup xs) \/
  ∃(o:Obj) (its:Array Value) (n:Nat),K.lookup a=some o/\o.cls = .type "tuple"/\o.data = .seq its n/\its.size<=sizeLine/\aw xs its.toList
def ym:Value->Option V
 | .none=>some .non
 | .bool b=>some<|.bl b
 | .int i _=>some<|.int i
 | .str x _=>some<|.str x
 | .bytes b _=>some<|.gX b
 | .float b _=>some<|.oX b
 | .ref a=>some<|.ref a
 | .type n=>some<|.ty n
 | _=>none
theorem RelV.abs{x:V}{u:Value}(r:RelV x u):ym u=some x:=by
 cases x with
 | non=>cases r;rfl
 | bl _=>cases r;rfl
 | int _=>obtain⟨t,rfl⟩:=r;rfl
 | str _=>obtain⟨t,rfl⟩:=r;rfl
 | gX _=>obtain⟨t,rfl⟩:=r;rfl
 | oX _=>obtain⟨t,rfl⟩:=r;rfl
 | ref _=>cases r;rfl
 | ty _=>cases r;rfl
theorem RelV.inj{x y:V}{u:Value}(r:RelV x u)(q:RelV y u):x=y:=Option.some.inj<|r.abs.symm.trans q.abs
theorem aw.inj:∀{xs ys:List V} {us:List Value},aw xs us->aw ys us->xs=ys
 | _,_,_,.nil,.nil=>rfl
 | _,_,_,.cons r t,.cons r' t'=>by rw [r.inj r',aw.inj t t']
section
variable{X:Cx}{pins:List (Addr×Obj)}{σ:St}{H:Hp}{s:Shared}{a:Addr}{xs ys:List V}
theorem ao.of{K:PySem.W.Frag}(h:H a=some (.lst xs)):ao K H a xs:= .inl<|.inl h
theorem aQ.of{K:PySem.W.Frag}(h:H a=some (.tup xs)):aQ K H a xs:= .inl<|.inl h
theorem Inv.list(I:Inv X pins σ H s)(h:ao X.K H a xs):∃ its:List Value,aw xs its/\PlainL s.heap a its.toArray/\xs.length<=sizeLine:=by
 rcases h with h | ⟨o,its,n,hk,hc,hd,hs,hz,r⟩
 ·obtain⟨z,its,n,r,e⟩:=h.ok I.aD;exact⟨its,r,⟨_,n,e,rfl,rfl,rfl⟩,z⟩
 ·refine⟨its.toList,r,⟨o,n,I.fe a o hk,hc,hd,by simpa using hs⟩,?_⟩;have e:=r.length;simp only [Ce] at e;omega
theorem Inv.tuple(I:Inv X pins σ H s)(h:aQ X.K H a xs):∃ its:List Value,aw xs its/\IsTup s.heap a its.toArray/\xs.length<=sizeLine:=by
 rcases h with h | ⟨o,its,n,hk,hc,hs,hz,r⟩
 ·obtain⟨z,its,r,p⟩:=h.ok I.aD;exact⟨its,r,p,z⟩
 ·refine⟨its.toList,r,⟨o,I.fe a o hk,hc,n,by simpa using hs⟩,?_⟩;have e:=r.length;simp only [Ce] at e;omega
theorem Inv.cJ(I:Inv X pins σ H s)(h:ao X.K H a xs)(h':ao X.K H a ys):xs=ys:=by
 obtain⟨its,r,⟨o,n,e,_,_,d⟩,_⟩:=I.list h;obtain⟨its',r',⟨o',n',e',_,_,d'⟩,_⟩:=I.list h';rw [e] at e';cases e';rw [d] at d'
 injection d' with d1 _
 have:its=its':=by simpa using BZ Array.toList d1
 subst this;exact r.inj r'
theorem Inv.gZ(I:Inv X pins σ H s)(h:aQ X.K H a xs)(h':aQ X.K H a ys):xs=ys:=by
 obtain⟨its,r,⟨o,e,_,n,d⟩,_⟩:=I.tuple h;obtain⟨its',r',⟨o',e',_,n',d'⟩,_⟩:=I.tuple h';rw [e] at e';cases e';rw [d] at d'
 injection d' with d1 _
 have:its=its':=by simpa using BZ Array.toList d1
 subst this;exact r.inj r'
end
abbrev Cx.dI(X:Cx)(E:Value->Shared->Prop):Cx:={X with xe:=E}
abbrev Cx.o6(X:Cx):Cx:=X.dI λ_ _=>False
theorem Cx.Ok.dI{X:Cx}(ok:X.Ok)(E:Value->Shared->Prop):(X.dI E).Ok:=
 ⟨ok.mod,ok.kind,ok.glob,ok.blt,ok.above,ok.inj,ok.has,ok.qv,ok.hd,ok.frames,ok.uU,ok.HQ,ok.bs,ok.k4,ok.iW,ok.jV,ok.dh,ok.oZ⟩
theorem Cx.Ok.b7{X:Cx}{E:Value->Shared->Prop}(ok:(X.dI E).Ok):X.Ok:=
 ⟨ok.mod,ok.kind,ok.glob,ok.blt,ok.above,ok.inj,ok.has,ok.qv,ok.hd,ok.frames,ok.uU,ok.HQ,ok.bs,ok.k4,ok.iW,ok.jV,ok.dh,ok.oZ⟩
section
variable{X:Cx}{pins:List (Addr×Obj)}{σ:St}{H:Hp}{s:Shared}{E:Value->Shared->Prop}
theorem Inv.dI(I:Inv X pins σ H s)(E:Value->Shared->Prop):Inv (X.dI E) pins σ H s:=⟨I.ok.dI E,I.os,I.bare,I.base,I.loc,I.cell,I.free,I.b6,I.pin,I.aD,I.len⟩
theorem Inv.b7(I:Inv (X.dI E) pins σ H s):Inv X pins σ H s:=⟨I.ok.b7,I.os,I.bare,I.base,I.loc,I.cell,I.free,I.b6,I.pin,I.aD,I.len⟩
theorem SP.b7{D:Ends}{f:Flow}{s':Shared}(h:SP (X.dI E) pins D f s'):SP X pins D f s':=by
 cases f with
 | next=>obtain⟨σ',H',I,q⟩:=h;exact⟨σ',H',I.b7,q⟩
 | brk=>obtain⟨σ',H',I,q⟩:=h;exact⟨σ',H',I.b7,q⟩
 | cont=>obtain⟨σ',H',I,q⟩:=h;exact⟨σ',H',I.b7,q⟩
 | ret u=>obtain⟨v,σ',H',I,r,q⟩:=h;exact⟨v,σ',H',I.b7,r,q⟩
theorem gY.o6{st:List Stmt}{t:TS}(h:gY X.o6 st t):gY X st t:=λpins s σ H D I hw=>
 CN (h pins s σ H D (I.dI _) hw) (λ_ _ q=>q.b7) λ_ _ z=>False.elim z
end
section
variable{X:Cx}{st:Stmt}{rest:List Stmt}{t u:TS}{e:Expr}{te:TE}{pos:Pos}
def Rk:TS:=λD σ H=>D.nx σ H
def yn(t u:TS):TS:=λD σ H=>t {D with nx:=u D} σ H
theorem Rl:gY X [] Rk:=λ_ _ σ H _ I h=>QB ⟨σ,H,I,h⟩
theorem Rm(h1:PS X st t)(h2:gY X rest u):gY X (st :: rest) (yn t u):=by
 intro pins s σ H D I h;refine wpAny_execs_cons<|aI (h1 pins s σ H {D with nx:=u D} I h) λf s1 q=>?_;cases f with
 | next=>
  obtain⟨σ',H',I',q⟩:=q;exact h2 pins s1 σ' H' D I' q
 | ret v=>exact q
 | brk=>exact q
 | cont=>exact q
theorem Inv.quiet{pins:List (Addr×Obj)}{σ:St}{H:Hp}{s:Shared}(I:Inv X pins σ H s):interactive X.env=false:=by simp [interactive,I.ok.kind]
def Rn(te:TE):TS:=λD σ H=>te σ H λ_ H1=>D.nx σ H1
theorem Ro(he:PE X e te)(hs:swapsWith e none pos.line X.env=pure false:=by rfl):PS X (.Expr e pos) (Rn te):=by
 intro pins s σ H D I h;exact wpAny_Expr_any (aI (he pins s σ H _ I h) λv s1 ⟨x,H1,I1,r1,q1⟩=>⟨σ,H1,I1,q1⟩) I.quiet hs
def yo(te:TE):TS:=λD σ H=>te σ H D.rt
theorem Rq(he:PE X e te):PS X (.Return (some e) pos) (yo te):=by
 intro pins s σ H D I h;exact wpAny_Return_some<|aI (he pins s σ H _ I h) λv s1 ⟨x,H1,I1,r1,q1⟩=>⟨x,σ,H1,I1,r1,q1⟩
def yp(c:TT)(t u:TS):TS:=λD σ H=>c σ H λb H1=>if b=true then t D σ H1 else u D σ H1
theorem Rr{c:Expr}{a b:List Stmt}{tc:TT}(hc:PT X c tc)(ha:gY X a t)(hb:gY X b u):PS X (.If c a b pos) (yp tc t u):=by
 intro pins s σ H D I h;refine wpAny_If<|aI (hc pins s σ H _ I h) λd s1 ⟨H1,I1,q1⟩=>?_;cases d with
 | true=>exact ha pins s1 σ H1 D I1 q1
 | false=>exact hb pins s1 σ H1 D I1 q1
end
abbrev TG:=V->St->Hp->(St->Hp->Prop)->Prop
abbrev mG:=List V->St->Hp->(St->Hp->Prop)->Prop
def PG(X:Cx)(target:Expr)(t:TG):Prop:=
 ∀(pins:List<|Addr×Obj) (s:Shared) (σ:St) (H:Hp) (v:V) (u:Value) (Q:St->Hp->Prop),Inv X pins σ H s->RelV v u->t v σ H Q ->
  wpAny (model X.prog X.w) X.A (assign target X.env u) (λ_ s'=>∃ σ' H',Inv X pins σ' H' s'/\Q σ' H') X.xe s
def uY(X:Cx)(ts:List Expr)(t:mG):Prop:=
 ∀(pins:List<|Addr×Obj) (s:Shared) (σ:St) (H:Hp) (vs:List V) (us:List Value) (Q:St->Hp->Prop),Inv X pins σ H s->aw vs us->t vs σ H Q ->
  wpAny (model X.prog X.w) X.A (assignInOrder ((assignEach ts X.env).map (·.2)) us) (λ_ s'=>∃ σ' H',Inv X pins σ' H' s'/\Q σ' H') X.xe s
abbrev mH:=V->V->V->Hp->(Hp->Prop)->Prop
def qD(X:Cx)(t:mH):Prop:=
 ∀(pins:List<|Addr×Obj) (s:Shared) (σ:St) (H:Hp) (o i v:V) (ov iv u:Value) (Q:Hp->Prop),Inv X pins σ H s->RelV o ov->RelV i iv->RelV v u->t o i v H Q ->
  wpAny (model X.prog X.w) X.A (setItem ov iv u) (λ_ s'=>∃ H',Inv X pins σ H' s'/\Q H') X.xe s
abbrev qE:=V->V->Hp->VK->Prop
def uZ(X:Cx)(op:Operator)(t:qE):Prop:=
 ∀(pins:List<|Addr×Obj) (s:Shared) (σ:St) (H:Hp) (x y:V) (v u:Value) (Q:VK),Inv X pins σ H s->RelV x v->RelV y u->t x y H Q ->
  wpAny (model X.prog X.w) X.A (inplaceOp op v u) (EP X pins σ Q) X.xe s
section
variable{X:Cx}{pos:Pos}
def Ib(i:Nat):TG:=λv σ H Q=>Q (σ.set i<|some v) H
theorem Rt{i:Nat}{x:Str}(hN:X.N.Nodup)(hi:X.N[i]?=some x)(hx:Loc X.env.scope x)(hf:X.fn x=true\/X.env.scope.names.lookup x=some .local:=by first | exact .inl rfl | exact .inr rfl | assumption):PG X (.Name x pos) (Ib i):=by
 intro pins s σ H v u Q I r h;exact wpAny_assign_Name<|HZ I hN hi hx r (λs' I'=>⟨_,H,I',h⟩) hf
def mI:mG:=λvs σ H Q=>vs=[]/\Q σ H
def o7(t:TG)(u:mG):mG:=λvs σ H Q=>∃ v r,vs=v :: r/\t v σ H λσ' H'=>u r σ' H' Q
theorem Ic:uY X [] mI:=by
 intro pins s σ H vs us Q I r h;obtain⟨e,h⟩:=h;subst e;cases r;exact assignInOrder_nil ⟨σ,H,I,h⟩
theorem qF{e:Expr}{es:List Expr}{t:TG}{u:mG}(h1:PG X e t)(h2:uY X es u)
  (hs:(assignEach (e :: es) X.env).map (·.2)=assign e X.env :: (assignEach es X.env).map (·.2):=by rfl):uY X (e :: es) (o7 t u):=by
 intro pins s σ H vs us Q I r h;obtain⟨v,vr,e1,h⟩:=h;subst e1;cases r with
 | cons r rr=>
  rw [hs];refine assignInOrder_cons<|aI (h1 pins s σ H _ _ _ I r h) λ_ s1 ⟨σ1,H1,I1,q1⟩=>?_;exact h2 pins s1 σ1 H1 _ _ Q I1 rr q1
def yq(K:PySem.W.Frag)(n:Nat)(t:mG):TG:=λv σ H Q=>∃ a xs,v = .ref a/\aQ K H a xs/\xs.length=n/\t xs σ H Q
theorem Ie{es:List Expr}{k:Nat}{t:mG}{n:Nat}(hc:X.calm=true)(h:uY X es t)
  (hn:(assignEach es X.env).length=n:=by rfl) (cD:(assignEach es X.env).findIdx? (·.1)=none:=by rfl):PG X (.Tuple es k pos) (yq X.K n t):=by
 intro pins s σ H v u Q I r hw;obtain⟨a,xs,e1,hq,hl,hw⟩:=hw;subst e1;cases r;obtain⟨its,rv,ht,hz⟩:=I.tuple hq;refine assign_Tuple_tuple (I.ok.hd hc) ht (by simp [hn,<- hl,rv.length]) cD λh' hx=>?_;have I1:Inv X pins σ H {s with heap:=h'}:=I.kept (t':=s.toks) λb o e=>hx b o (Bx<|Ax e) e;exact h pins _ σ H xs _ Q I1 (by simpa using rv) hw
def qG(te:TE)(g:TG):TS:=λD σ H=>te σ H λx H1=>g x σ H1 D.nx
theorem Ru{tg e:Expr}{te:TE}{g:TG}(he:PE X e te)(hg:PG X tg g)(hs:swapsWithSole [tg] e pos.line X.env=pure false:=by rfl)(hw:swappedStores [tg] e X.env=pure none:=by rfl)
  (h1:(assignEach [tg] X.env).map (·.2)=[assign tg X.env]:=by rfl):PS X (.Assign [tg] e pos) (qG te g):=by
 intro pins s σ H D I h;refine wpAny_Assign_stores (aI (he pins s σ H _ I h) λv s1 ⟨x,H1,I1,r1,q1⟩=>?_) hs hw;rw [h1];exact aI (hg pins s1 σ H1 x v _ I1 r1 q1) λ_ s2 q=>q
theorem Rv{i:Nat}{x:Str}{e:Expr}{te:TE}{pos':Pos}(hN:X.N.Nodup)(hi:X.N[i]?=some x)(hx:Loc X.env.scope x)(he:PE X e te)(hs:swapsWith e (some<|.Name x pos') pos.line X.env=pure false:=by rfl)(hf:X.fn x=true\/X.env.scope.names.lookup x=some .local:=by first | exact .inl rfl | exact .inr rfl | assumption) :
  PS X (.Assign [.Name x pos'] e pos) (qG te<|Ib i):=by
 intro pins s σ H D I h;refine wpAny_Assign_Name (aI (he pins s σ H _ I h) λv s1 ⟨y,H1,I1,r1,q1⟩=>?_) hs;exact HZ I1 hN hi hx r1 (λs2 I2=>⟨_,H1,I2,q1⟩) hf
def Rw(to ti te:TE)(jX:V->V->Hp->VK->Prop)(mJ:qE)(g5:mH):TS:=λD σ H=>to σ H λo H1=>ti σ H1 λi H2=>jX o i H2 λx H3=>te σ H3 λy H4=>mJ x y H4 λz H5=>g5 o i z H5 λH6=>D.nx σ H6
def qH(X:Cx)(t:V->V->Hp->VK->Prop):Prop:=
 ∀(pins:List<|Addr×Obj) (s:Shared) (σ:St) (H:Hp) (o i:V) (ov iv:Value) (Q:VK),Inv X pins σ H s->RelV o ov->RelV i iv->t o i H Q ->
  wpAny (model X.prog X.w) X.A (getItem ov iv) (EP X pins σ Q) X.xe s
theorem Rx{o i e:Expr}{to ti te:TE}{jX:V->V->Hp->VK->Prop}{mJ:qE}{g5:mH}{op:Operator}{iX:Pos}(ho:PE X o to)(hi:PE X i ti)(hg:qH X jX)(he:PE X e te)(hp:uZ X op mJ)(hs:qD X g5)
  (ha:∀ ov iv new,augStore i ov iv new=(do holding [new,ov,iv] (setItem ov iv new);release [new,ov,iv] [];pure .next):=by intros;rfl):PS X (.AugAssign (.Subscript o i iX) op e pos) (Rw to ti te jX mJ g5):=by
 intro pins s σ H D I h;refine wpAny_AugAssign_SubscriptAny (aI (ho pins s σ H _ I h) λov s1 ⟨x1,H1,I1,r1,q1⟩=>?_) ha;refine aI (hi pins s1 σ H1 _ I1 q1) λiv s2 ⟨x2,H2,I2,r2,q2⟩=>?_;refine aI (hg pins s2 σ H2 x1 x2 ov iv _ I2 r1 r2 q2) λold s3 ⟨x3,H3,I3,r3,q3⟩=>?_;refine aI (he pins s3 σ H3 _ I3 q3) λv s4 ⟨x4,H4,I4,r4,q4⟩=>?_;refine aI (hp pins s4 σ H4 x3 x4 old v _ I4 r3 r4 q4) λnew s5 ⟨x5,H5,I5,r5,q5⟩=>?_;exact aI (hs pins s5 σ H5 x1 x2 x5 ov iv new _ I5 r1 r2 r5 q5) λ_ s6 ⟨H6,I6,q6⟩=>⟨σ,H6,I6,q6⟩
def Ig(f:Int->Int->Int):qE:=λx y H Q=>∃ i j,x = .int i/\y = .int j/\Q (.int<|f i j) H
theorem Ry:uZ X .Add (Ig λi j=>i+j):=by
 intro pins s σ H x y v u Q I r1 r2 h;obtain⟨i,j,e1,e2,q⟩:=h;subst e1;subst e2;obtain⟨t,rfl⟩:=r1;obtain⟨t',rfl⟩:=r2;exact iadd_int ⟨.int _,H,I.tok _,⟨_,rfl⟩,q⟩
theorem Rz:uZ X .Sub (Ig λi j=>i - j):=by
 intro pins s σ H x y v u Q I r1 r2 h;obtain⟨i,j,e1,e2,q⟩:=h;subst e1;subst e2;obtain⟨t,rfl⟩:=r1;obtain⟨t',rfl⟩:=r2;exact isub_int ⟨.int _,H,I.tok _,⟨_,rfl⟩,q⟩
def RA(c:TT)(tb:TS):TS:=λD σ H=>∃ W:Nat->St->Hp->Prop,(∃ m,W m σ H)/\∀ m σ H,W m σ H ->
 c σ H λb H1=>if b=true then ∃ N:St->Hp->Prop,(∀ σ' H',N σ' H'->∃ m',m' < m/\W m' σ' H')/\tb {D with nx:=N,ct:=N,bk:=D.nx} σ H1 else D.nx σ H1
theorem RC{c:Expr}{body:List Stmt}{tc:TT}{tb:TS}(hp:PassesOwn (model X.prog X.w) X.A X.env X.xe)(hc:PT X c tc)(hb:gY X body tb):PS X (.While c body [] pos) (RA tc tb):=by
 intro pins s σ H D I h;obtain⟨W,⟨m0,w0⟩,turn⟩:=h;refine wpAny_While<|codeAny_whileLoop (λn s'=>∃ σ' H',Inv X pins σ' H' s'/\W n σ' H') ?_ m0 ⟨σ,H,I,w0⟩;rintro n s1 ⟨σ1,H1,I1,w1⟩;refine FP hp<|aI (hc pins s1 σ1 H1 _ I1<|turn n σ1 H1 w1) λb s2 ⟨H2,I2,q2⟩=>?_;cases b with
 | true=>
  obtain⟨N,hN,q2⟩:=q2;rw [BL rfl];refine FP hp<|aI (hb pins s2 σ1 H2 _ I2 q2) λf s3 q3=>?_;cases f with
  | next=>
   obtain⟨σ3,H3,I3,n3⟩:=q3;obtain⟨m',hm,w3⟩:=hN σ3 H3 n3;exact⟨m',hm,σ3,H3,I3,w3⟩
  | cont=>
   obtain⟨σ3,H3,I3,n3⟩:=q3;obtain⟨m',hm,w3⟩:=hN σ3 H3 n3;exact⟨m',hm,σ3,H3,I3,w3⟩
  | brk=>exact q3
  | ret v=>exact q3
 | false=>
  rw [BK As];exact QB ⟨σ1,H2,I2,q2⟩
end
structure It where
 go:Nat->Hp->Prop
 qI:Nat->Hp->V->Hp->Prop
 stop:Nat->Hp->Prop
def bY(X:Cx)(pins:List<|Addr×Obj)(H:Hp)(b:Addr):Prop:=
 H b=none/\b≠X.env.locals/\b∉X.fs/\(b∈X.ex\/X.s₀.heap.objs.size<=b)/\(∀ x c,X.env.cells.lookup x=some c->c≠b)/\∀ p∈X.pn++pins,p.1≠b
theorem Inv.d8{X:Cx}{pins:List (Addr×Obj)}{σ:St}{H H':Hp}{s:Shared}{b:Addr}(I:Inv X pins σ H s)(hb:s.heap.objs.size<=b)(hn:H' b=none):bY X pins H' b:=by
 refine⟨hn,Di<|Bk I.lt hb,I.yf hb,.inr<|Cl I.sz hb,λx c e z=>?_,λp hp z=>?_⟩
 ·obtain⟨v,q⟩:=I.cell x c e;exact absurd (Bk q.lt<|by rw [z];exact hb)<|Dd _
 ·exact absurd (Bk (Ax (I.pin p hp).1)<|by rw [z];exact hb)<|Dd _
structure Turn(P:Program)(w:World)(K:PySem.W.Frag)(tg:Expr)(J:It)(fp:List Addr)(it:Addr)(tn:Nat->Heap->Prop):Prop where
 mem:it∈fp
 obj:∀ i h,tn i h->∀ b∈fp,∃ o,h.get? b=some o/\∀ v,o.data ≠ .cell v
 keep:∀ i h h',tn i h->(∀ b∈fp,∀ o,h.get? b=some o->h'.get? b=some o)->tn i h'
 item:∀(X:Cx),X.prog=P->X.w=w->X.K=K->X.calm=true->∀(i:Nat) (pins:List<|Addr×Obj) (s:Shared) (σ:St) (H:Hp) (E:Value->Shared->Prop),Inv X pins σ H s->(∀ b∈fp,bY X pins H b)->tn i s.heap->J.go i H ->
  wpAny (model P w) X.A (pyNext<|.ref it) (λr s1=>∃ u,r=some u /\
   wpAny (model P w) X.A (letOwnedTupleGo tg (.ref it) u) (λ_ s2=>∃ x H',Inv X pins σ H' s2/\RelV x u/\J.qI i H x H'/\tn (i+1) s2.heap/\∀ b∈fp,H' b=none) E s1) E s
 done:∀(X:Cx),X.prog=P->X.w=w->X.K=K->X.calm=true->∀(i:Nat) (pins:List<|Addr×Obj) (s:Shared) (σ:St) (H:Hp) (E:Value->Shared->Prop),Inv X pins σ H s->(∀ b∈fp,bY X pins H b)->tn i s.heap->J.stop i H ->
  wpAny (model P w) X.A (pyNext<|.ref it) (λr s1=>r=none/\Inv X pins σ H s1) E s
 self:∀(A:Around) (i:Nat) (s:Shared) (Q:Value->Shared->Prop) (E:Value->Shared->Prop),tn i s.heap->Q (.ref it) s->wpAny (model P w) A (pyIter<|.ref it) Q E s
abbrev TI:=St->Hp->(It->Hp->Prop)->Prop
def Ih(X:Cx)(pins:List<|Addr×Obj)(σ:St)(tg:Expr)(R:It->Hp->Prop)(mK:Value)(s2:Shared):Prop:=
 ∃(it:Addr) (fp:List Addr) (tn:Nat->Heap->Prop) (J:It) (H':Hp),mK = .ref it/\Inv X pins σ H' s2/\Turn X.prog X.w X.K tg J fp it tn/\tn 0 s2.heap/\(∀ b∈fp,bY X pins H' b)/\R J H'
def PI(X:Cx)(tg iter:Expr)(wi:TI):Prop:=
 ∀(pins:List<|Addr×Obj) (s:Shared) (σ:St) (H:Hp) (R:It->Hp->Prop),Inv X pins σ H s->wi σ H R ->
  wpAny (model X.prog X.w) X.A (eval iter X.env) (λv s1=>wpAny (model X.prog X.w) X.A (pyIter v) (Ih X pins σ tg R) X.xe s1) X.xe s
theorem qJ{M:Model}{A:Around}{E:Value->Shared->Prop}{s:Shared}{tg:Expr}{it:Addr}{u:Value}{o:Obj}{n:String}{vs:Array Value}{Q:Unit->Shared->Prop}(ho:s.heap.get? it=some o)(hc:o.cls = .type n)(hd:o.data = .fields vs)
    (hn:["enumerate","zip","dict_itemiterator","dict_reverseitemiterator","odict_iterator","itertools.zip_longest","itertools.pairwise"].contains n=false) (hQ:Q () s):wpAny M A (letOwnedTupleGo tg (.ref it) u) Q E s:=by
  unfold letOwnedTupleGo;cases tg <;> first
    | exact BP hQ
    | (cases u <;> first
        | exact BP hQ
        | (refine BJ<|wpAny_load ho ?_
           rw [hc,hd];show wpAny M A (if(["enumerate","zip","dict_itemiterator","dict_reverseitemiterator","odict_iterator","itertools.zip_longest","itertools.pairwise"].contains n && vs[0]? == some (rawInt _))=true then _ else _) Q E s;rw [BK<|by intro h;rw [hn,Do] at h;cases h];exact BP hQ))
def o8(K:PySem.W.Frag)(a:Addr):It:=
 ⟨λi H=>∃ xs x,ao K H a xs/\xs[i]?=some x,λi H x H'=>H'=H/\∀ xs,ao K H a xs->xs[i]?=some x,λi H=>∃ xs,ao K H a xs/\xs.length<=i⟩
def qK(K:PySem.W.Frag)(a:Addr):It:=
 ⟨λi H=>∃ xs x,aQ K H a xs/\xs[i]?=some x,λi H x H'=>H'=H/\∀ xs,aQ K H a xs->xs[i]?=some x,λi H=>∃ xs,aQ K H a xs/\xs.length<=i⟩
def lg(lo:Int)(n:Nat):It:=⟨λi _=>i < n,λi H x H'=>H'=H/\x = .int (lo+i),λi _=>n<=i⟩
theorem RE{P:Program}{w:World}{K:PySem.W.Frag}{tg:Expr}(a it:Addr):Turn P w K tg (o8 K a) [it] it (λi h=>h.IsListIter it a i) where
 mem:=by simp
 obj:=λi h st b hb=>by
  have e:b=it:=by simpa using hb
  subst e;obtain⟨o,e,c,d⟩:=st;exact⟨o,e,λv z=>by rw [d] at z;cases z⟩
 keep:=λi h h' st k=>st.at λo e=>k it (by simp) o e
 item:=by
  intro X hP hw hK hc i pins s σ H E I hf st hg;subst hP hw hK;obtain⟨xs,x,hq,hx⟩:=hg;obtain⟨its,rv,p,hz⟩:=I.list hq;obtain⟨u,hu,ru⟩:=rv.get hx;obtain⟨f0,f1,f2,f3,f4,f5⟩:=hf it (by simp);refine wpAny_pyNext_list_item st p.isList (x:=u) (by simpa using hu) λh' cE sb=>?_;have I1:Inv X pins σ H {s with heap:=h'}:=I.turned (t':=s.toks) (λb o hb e=>(sb.2 b hb).trans e) f0 f1 f3 f4 f5;obtain⟨o,e,c,d⟩:=id cE;exact⟨u,rfl,qJ (s:={s with heap:=h'}) e c d (by decide) ⟨x,H,I1,ru,⟨rfl,λys hy=>by rw [I.cJ hy hq];exact hx⟩,cE,λb hb=>(hf b hb).1⟩⟩
 done:=by
  intro X hP hw hK hc i pins s σ H E I hf st hg;subst hP hw hK;obtain⟨xs,hq,hx⟩:=hg;obtain⟨its,rv,p,hz⟩:=I.list hq;obtain⟨f0,f1,f2,f3,f4,f5⟩:=hf it (by simp);have hl:=rv.length;exact wpAny_pyNext_list_end (I.ok.hd hc) st p.isList (by simp;omega) λh' eb=>⟨rfl,I.turned (t':=s.toks) (λb o hb e=>eb b o hb e) f0 f1 f3 f4 f5⟩
 self:=λ_ _ _ _ _ st h=>wpAny_pyIter_listiter st h
theorem RF{P:Program}{w:World}{K:PySem.W.Frag}{tg:Expr}(a it:Addr):Turn P w K tg (qK K a) [it] it (λi h=>h.IsTupleIter it a i) where
 mem:=by simp
 obj:=λi h st b hb=>by
  have e:b=it:=by simpa using hb
  subst e;obtain⟨o,e,c,d⟩:=st;exact⟨o,e,λv z=>by rw [d] at z;cases z⟩
 keep:=λi h h' st k=>st.at λo e=>k it (by simp) o e
 item:=by
  intro X hP hw hK hc i pins s σ H E I hf st hg;subst hP hw hK;obtain⟨xs,x,hq,hx⟩:=hg;obtain⟨its,rv,p,hz⟩:=I.tuple hq;obtain⟨u,hu,ru⟩:=rv.get hx;obtain⟨f0,f1,f2,f3,f4,f5⟩:=hf it (by simp);refine wpAny_pyNext_tuple_item st (show s.heap.IsTuple a its.toArray from p) (x:=u) (by simpa using hu) λh' cE sb=>?_;have I1:Inv X pins σ H {s with heap:=h'}:=I.turned (t':=s.toks) (λb o hb e=>(sb.2 b hb).trans e) f0 f1 f3 f4 f5;obtain⟨o,e,c,d⟩:=id cE;exact⟨u,rfl,qJ (s:={s with heap:=h'}) e c d (by decide) ⟨x,H,I1,ru,⟨rfl,λys hy=>by rw [I.gZ hy hq];exact hx⟩,cE,λb hb=>(hf b hb).1⟩⟩
 done:=by
  intro X hP hw hK hc i pins s σ H E I hf st hg;subst hP hw hK;obtain⟨xs,hq,hx⟩:=hg;obtain⟨its,rv,p,hz⟩:=I.tuple hq;obtain⟨f0,f1,f2,f3,f4,f5⟩:=hf it (by simp);have hl:=rv.length;exact wpAny_pyNext_tuple_end (I.ok.hd hc) st (show s.heap.IsTuple a its.toArray from p) (by simp;omega) λh' eb=>⟨rfl,I.turned (t':=s.toks) (λb o hb e=>eb b o hb e) f0 f1 f3 f4 f5⟩
 self:=λ_ _ _ _ _ st h=>wpAny_pyIter_tupleiter st h
theorem RH{P:Program}{w:World}{K:PySem.W.Frag}{tg:Expr}(it:Addr)(lo:Int)(n:Nat):Turn P w K tg (lg lo n) [it] it (λi h=>IsRangeIter h it (lo+(i:Nat) * 1) ((n:Int) - (i:Nat)) 1) where
 mem:=by simp
 obj:=λi h st b hb=>by
  have e:b=it:=by simpa using hb
  subst e;exact⟨_,st,λv z=>by
   have z':Data.fields _=Data.cell v:=z;cases z'⟩
 keep:=λi h h' st k=>k it (by simp) _ st
 item:=by
  intro X hP hw hK hc i pins s σ H E I hf st hg;subst hP hw hK;obtain⟨f0,f1,f2,f3,f4,f5⟩:=hf it (by simp);have W:=Walks.range (prog:=X.prog) (w:=X.w) (I.ok.hd hc) it lo 1 n;refine W.item i s _ _ hg st λv h' tk hv cE kk=>?_;obtain⟨t,rfl⟩:=hv;have I1:Inv X pins σ H {s with heap:=h',toks:=tk}:=I.turned (λb o hb e=>kk b o (by simpa using hb) e) f0 f1 f3 f4 f5;refine⟨_,rfl,qJ (s:={s with heap:=h',toks:=tk}) (n:= "range_iterator") cE rfl rfl (by decide) ⟨.int<|lo+i,H,I1,⟨t,?_⟩,⟨rfl,rfl⟩,cE,λb hb=>(hf b hb).1⟩⟩;rw [Int.mul_one]
 done:=by
  intro X hP hw hK hc i pins s σ H E I hf st hg;subst hP hw hK;obtain⟨f0,f1,f2,f3,f4,f5⟩:=hf it (by simp);exact wpAny_pyNext_range_end (I.ok.hd hc) st (by have:n<=i:=hg;omega) λh' eb=>⟨rfl,I.turned (t':=s.toks) (λb o hb e=>eb b o hb e) f0 f1 f3 f4 f5⟩
 self:=λ_ _ _ _ _ st h=>wpAny_pyIter_rangeiter st h
section
variable{X:Cx}{tg:Expr}
def RO(K:PySem.W.Frag)(tl:TE):TI:=λσ H R=>tl σ H λx H1=>∃ a,x = .ref a/\(∃ xs,ao K H1 a xs)/\R (o8 K a) H1
def yr(K:PySem.W.Frag)(tl:TE):TI:=λσ H R=>tl σ H λx H1=>∃ a,x = .ref a/\(∃ xs,aQ K H1 a xs)/\R (qK K a) H1
theorem lh{l:Expr}{tl:TE}(hl:PE X l tl):PI X tg l (RO X.K tl):=by
 intro pins s σ H R I h;refine aI (hl pins s σ H _ I h) λv s1 ⟨x,H1,I1,r1,q1⟩=>?_;obtain⟨a,e,⟨xs,hq⟩,q⟩:=q1;subst e;cases r1;obtain⟨its,rv,p,hz⟩:=I1.list hq;refine wpAny_pyIter_list p.isList ?_;refine⟨s1.heap.objs.size,[s1.heap.objs.size],_,_,H1,rfl,I1.kept (t':=s1.toks) λb o e=>Ai _ e,RE a _,⟨_,Ba _ rfl,rfl,rfl⟩,λb hb=>?_,q⟩;have e:b=s1.heap.objs.size:=by simpa using hb
 subst e;exact I1.d8 (Am _)<|I1.aD.fresh<|Am _
theorem RQ{l:Expr}{tl:TE}(hl:PE X l tl):PI X tg l (yr X.K tl):=by
 intro pins s σ H R I h;refine aI (hl pins s σ H _ I h) λv s1 ⟨x,H1,I1,r1,q1⟩=>?_;obtain⟨a,e,⟨xs,hq⟩,q⟩:=q1;subst e;cases r1;obtain⟨its,rv,p,hz⟩:=I1.tuple hq;refine wpAny_pyIter_tuple (show s1.heap.IsTuple a its.toArray from p) ?_;refine⟨s1.heap.objs.size,[s1.heap.objs.size],_,_,H1,rfl,I1.kept (t':=s1.toks) λb o e=>Ai _ e,RF a _,⟨_,Ba _ rfl,rfl,rfl⟩,λb hb=>?_,q⟩;have e:b=s1.heap.objs.size:=by simpa using hb
 subst e;exact I1.d8 (Am _)<|I1.aD.fresh<|Am _
theorem Ii{pins:List (Addr×Obj)}{σ:St}{H:Hp}{s:Shared}{R:It->Hp->Prop}{E:Value->Shared->Prop}{lo hi:Int}{t u v:Tok}{tk:Nat}(I:Inv X pins σ H s)(h1:-(2 ^ 62)<=lo)(h2:lo < 2 ^ 62)(h3:-(2 ^ 62)<=hi)(h4:hi < 2 ^ 62)
  (q:R (lg lo (hi - lo).toNat) H):wpAny (model X.prog X.w) X.A (pyIter<|.ref s.heap.objs.size) (Ih X pins σ tg R) E {s with heap:=s.heap.push {cls:= .type "range",data:= .fields #[.int lo t,.int hi u,.int 1 v]},toks:=tk}:=by
 refine wpAny_pyIter_range (IsRange.new ..) (small_one h1 h2 h3 h4) ?_;have I1:Inv X pins σ H {s with heap:=s.heap.push {cls:= .type "range",data:= .fields #[.int lo t,.int hi u,.int 1 v]},toks:=tk}:=I.kept λb o e=>Ai _ e;refine⟨(s.heap.push {cls:= .type "range",data:= .fields #[.int lo t,.int hi u,.int 1 v]}).objs.size,[(s.heap.push {cls:= .type "range",data:= .fields #[.int lo t,.int hi u,.int 1 v]}).objs.size],_,_,H,rfl,
  I1.kept (t':=tk) λb o e=>Ai _ e,RH _ lo (hi - lo).toNat,?_,λb hb=>?_,q⟩
 ·have e1:lo+((0:Nat):Int) * 1=lo:=by simp
  have e2:(((hi - lo).toNat:Nat):Int) - ((0:Nat):Int)=Builtin.Range.rangeSize lo hi 1:=by rw [rangeSize_one];split <;> omega
  show IsRangeIter _ _ (lo+((0:Nat):Int) * 1) ((((hi - lo).toNat:Nat):Int) - ((0:Nat):Int)) 1;rw [e1,e2];exact Ba _ rfl
 ·have e:b=(s.heap.push {cls:= .type "range",data:= .fields #[.int lo t,.int hi u,.int 1 v]}).objs.size:=by simpa using hb
  subst e;exact I1.d8 (Am _)<|I1.aD.fresh<|Am _
def Ij(ta:TA):TI:=λσ H R=>ta σ H λvs H1=>∃ j:Int,vs=[.int j]/\-(2 ^ 62)<=j/\j < 2 ^ 62/\R (lg 0 j.toNat) H1
def RT(ta:TA):TI:=λσ H R=>ta σ H λvs H1=>∃ i j:Int,vs=[.int i,.int j]/\(-(2 ^ 62)<=i/\i < 2 ^ 62/\-(2 ^ 62)<=j/\j < 2 ^ 62)/\R (lg i (j - i).toNat) H1
theorem yt{a:Expr}{ta:TA}{p pos:Pos}(hg:Gl X "range")(hm:X.mg "range" = none)(ha:PA X [a] ta)(hs:starEach [a] X.env=[(false,eval a X.env)]:=by rfl):PI X tg (.Call (.Name "range" p) [a] [] pos) (Ij ta):=by
 intro pins s σ H R I h;refine Call_<|iG I hg hm boot_range<|CV (aI (ha pos pins s σ H _ I h) λus s1 ⟨vs,H1,I1,r1,q1⟩=>?_) hs rfl;obtain⟨j,e,q1,q2,q⟩:=q1;subst e;cases r1 with
 | cons r rr=>
  cases rr;obtain⟨t,rfl⟩:=r;exact call_range_1<|Ii I1 (by omega) (by omega) q1 q2<|by simpa using q
theorem RU{a b:Expr}{ta:TA}{p pos:Pos}(hg:Gl X "range")(hm:X.mg "range" = none)(ha:PA X [a,b] ta)(hs:starEach [a,b] X.env=[(false,eval a X.env),(false,eval b X.env)]:=by rfl)(jY:starEach [b] X.env=[(false,eval b X.env)]:=by rfl) :
  PI X tg (.Call (.Name "range" p) [a,b] [] pos) (RT ta):=by
 intro pins s σ H R I h;refine Call_ (iG I hg hm boot_range<|CV (aI (ha pos pins s σ H _ I h) λus s1 ⟨vs,H1,I1,r1,q1⟩=>?_) (by rw [hs,jY])<|by rw [jY];rfl);obtain⟨i,j,e,⟨q1,q2,q3,q4⟩,q⟩:=q1;subst e;cases r1 with
 | cons r rr=>
  cases rr with
  | cons r' rr=>
   cases rr;obtain⟨t,rfl⟩:=r;obtain⟨t',rfl⟩:=r';exact call_range_2<|Ii I1 q1 q2 q3 q4 q
def yu(wi:TI)(g:TG)(tb:TS):TS:=λD σ H=>wi σ H λJ H1=>∃ W:Nat->Nat->St->Hp->Prop,(∃ m,W 0 m σ H1)/\∀ i m σ H,W i m σ H ->
 (J.stop i H/\D.nx σ H)\/(J.go i H/\∃ N:St->Hp->Prop,(∀ σ' H',N σ' H'->∃ m',m' < m/\W (i+1) m' σ' H')/\∀ x H',J.qI i H x H'->g x σ H' λσ2 H2=>tb {D with nx:=N,ct:=N,bk:=D.nx} σ2 H2)
def qL(fp:List Addr)(h:Heap):List (Addr×Obj):=fp.filterMap λb=>(h.get? b).map λo=>(b,o)
theorem va{fp:List Addr}{h:Heap}{b:Addr}{o:Obj}(hb:b∈fp)(e:h.get? b=some o):(b,o)∈qL fp h:=Gc.mpr ⟨b,hb,by rw [e];rfl⟩
theorem RV{fp:List Addr}{h:Heap}{p:Addr×Obj}(hp:p∈qL fp h):p.1∈fp/\h.get? p.1=some p.2:=by
 obtain⟨b,hb,e⟩:=Gc.mp hp;cases q:h.get? b with
 | none=>rw [q] at e;cases e
 | some o=>
  rw [q] at e;have e':(b,o)=p:=Option.some.inj e;subst e';exact⟨hb,q⟩
theorem Inv.pinned{pins:List (Addr×Obj)}{σ:St}{H:Hp}{s:Shared}{fp:List Addr}(I:Inv X pins σ H s)(hf:∀ b∈fp,bY X pins H b)(ho:∀ b∈fp,∃ o,s.heap.get? b=some o/\∀ v,o.data ≠ .cell v):Inv X (pins++qL fp s.heap) σ H s:=
 I.gx λp hp=>(Aq.mp hp).elim (λz=>I.pin p<|Ar _ z) λz=>by
  obtain⟨hb,e⟩:=RV z;obtain⟨f0,f1,f2,_⟩:=hf p.1 hb;obtain⟨o,e',d⟩:=ho p.1 hb;rw [e] at e';cases e';exact⟨e,f0,f1,f2,d⟩
theorem Inv.cK{pins pl:List (Addr×Obj)}{σ:St}{H:Hp}{s:Shared}(I:Inv X (pins++pl) σ H s):Inv X pins σ H s:=I.gx λp hp=>I.pin p<|Ar _<|Be _ hp
theorem RW{iter:Expr}{body:List Stmt}{wi:TI}{g:TG}{tb:TS}{pos:Pos}(hp:PassesOwn (model X.prog X.w) X.A X.env X.xe)(hc:X.calm=true)(hi:PI X tg iter wi)(hg:PG X tg g)(hb:gY X body tb)
  (hs:∀ x,foldedSetIterable iter X.env x=pure x:=by intro _;rfl):PS X (.For tg iter body [] pos) (yu wi g tb):=by
 intro pins s σ H D I h;refine wpAny_For (aI (hi pins s σ H _ I h) λv s1 h1=>aI h1 λmK s2 h2=>?_) hs;obtain⟨it,fp,tn,J,H2,e,I2,T,dA,f2,W,⟨m0,w0⟩,turn⟩:=h2;subst e;have stat:∀{H':Hp},(∀ b∈fp,H' b=none)->∀ b∈fp,bY X pins H' b:=λhn b hb=>⟨hn b hb,(f2 b hb).2⟩;refine codeAny_forLoop_any (λn s'=>∃ i σ' H',Inv X pins σ' H' s'/\tn i s'.heap/\(∀ b∈fp,H' b=none)/\W i n σ' H') ?_ m0 ⟨0,σ,H2,I2,dA,λb hb=>(f2 b hb).1,w0⟩;rintro n s3 ⟨i,σ3,H3,I3,Ik,Il,w3⟩
 rcases turn i n σ3 H3 w3 with ⟨stop,qn⟩ | ⟨go,N,hN,step⟩
 ·refine FP hp<|aI (T.done X rfl rfl rfl hc i pins s3 σ3 H3 X.xe I3 (stat Il) Ik stop) λr s4 ⟨hr,I4⟩=>?_;subst hr;exact QB ⟨σ3,H3,I4,qn⟩
 ·refine FP hp<|aI (T.item X rfl rfl rfl hc i pins s3 σ3 H3 X.xe I3 (stat Il) Ik go) λr s4 ⟨u,hr,h4⟩=>?_;subst hr;refine FP hp<|aI h4 λ_ s5 ⟨x,H5,I5,r5,y5,yv,RX⟩=>?_;have RY:=I5.pinned (stat RX)<|T.obj _ _ yv;refine FP hp<|aI (hg _ s5 σ3 H5 x u _ RY r5<|step x H5 y5) λ_ s6 ⟨σ6,H6,I6,q6⟩=>?_;refine FP hp<|aI (hb _ s6 σ6 H6 _ I6 q6) λf s7 q7=>?_;have again:∀{σ7:St} {H7:Hp},Inv X (pins++qL fp s5.heap) σ7 H7 s7->N σ7 H7->∃ m,m < n/\∃ i σ' H',Inv X pins σ' H' s7/\tn i s7.heap/\(∀ b∈fp,H' b=none)/\W i m σ' H':=λ{σ7 H7} I7 n7=>by
   obtain⟨m',hm,w7⟩:=hN σ7 H7 n7;refine⟨m',hm,i+1,σ7,H7,I7.cK,T.keep _ _ _ yv λb hb o e=>(I7.pin (b,o)<|Ar _<|Ar _<|va hb e).1,λb hb=>?_,w7⟩;obtain⟨o,e,d⟩:=T.obj _ _ yv b hb;exact(I7.pin (b,o)<|Ar _<|Ar _<|va hb e).2.1
  cases f with
  | next=>obtain⟨σ7,H7,I7,n7⟩:=q7;exact again I7 n7
  | cont=>obtain⟨σ7,H7,I7,n7⟩:=q7;exact again I7 n7
  | brk=>obtain⟨σ7,H7,I7,q7⟩:=q7;exact⟨σ7,H7,I7.cK,q7⟩
  | ret v=>obtain⟨x7,σ7,H7,I7,r7,q7⟩:=q7;exact⟨x7,σ7,H7,I7.cK,r7,q7⟩
end
abbrev R2:=V->V->Hp->VK->Prop
def cX(X:Cx)(f:Value->Value->Sem Value)(r:R2):Prop:=
 ∀(pins:List<|Addr×Obj) (s:Shared) (σ:St) (H:Hp) (x y:V) (v u:Value) (Q:VK),Inv X pins σ H s->RelV x v->RelV y u->r x y H Q ->
  wpAny (model X.prog X.w) X.A (f v u) (EP X pins σ Q) X.xe s
def g6(X:Cx)(f:Value)(r:List V->Hp->VK->Prop):Prop:=
 ∀(pins:List<|Addr×Obj) (s:Shared) (σ:St) (H:Hp) (xs:List V) (us:List Value) (Q:VK),Inv X pins σ H s->aw xs us->r xs H Q ->
  wpAny (model X.prog X.w) X.A (call f us) (EP X pins σ Q) X.xe s
def yw(X:Cx)(r:V->Hp->(Bool->Hp->Prop)->Prop):Prop:=
 ∀(pins:List<|Addr×Obj) (s:Shared) (σ:St) (H:Hp) (x:V) (v:Value) (Q:Bool->Hp->Prop),Inv X pins σ H s->RelV x v->r x H Q ->
  wpAny (model X.prog X.w) X.A (truthy v) (TP X pins σ Q) X.xe s
def vb(r:R2)(ta tb:TE):TE:=λσ H Q=>ta σ H λx H1=>tb σ H1 λy H2=>r x y H2 Q
def rI(C:Int->Int->Prop)(g:Int->Int->V):R2:=λx y H Q=>∃ i j,x = .int i/\y = .int j/\C i j/\Q (g i j) H
def o9(g:Int->Int->V):R2:=λx y H Q=>∃ i j,x = .int i/\y = .int j/\Q (g i j) H
section
variable{X:Cx}{a b c:Expr}{ta tb tc:TE}{pos:Pos}
theorem mL(ha:PE X a ta)(hb:PE X b tb){pins:List (Addr×Obj)}{s:Shared}{σ:St}{H:Hp}{R:V->V->Hp->Prop}(I:Inv X pins σ H s)
  (h:ta σ H λx H1=>tb σ H1 λy H2=>R x y H2) {Q:Value->Shared->Prop} {f:Value->Value->Sem Value}
  (hf:∀ v u s2 x y H2,Inv X pins σ H2 s2->RelV x v->RelV y u->R x y H2->wpAny (model X.prog X.w) X.A (f v u) Q X.xe s2) :
  wpAny (model X.prog X.w) X.A (eval a X.env) (λv s₁=>wpAny (model X.prog X.w) X.A (eval b X.env) (λu s₂=>wpAny (model X.prog X.w) X.A (f v u) Q X.xe s₂) X.xe s₁) X.xe s:=by
 refine aI (ha pins s σ H _ I h) λv s1 ⟨x,H1,I1,r1,q1⟩=>?_;refine aI (hb pins s1 σ H1 _ I1 q1) λu s2 ⟨y,H2,I2,r2,q2⟩=>?_;exact hf v u s2 x y H2 I2 r1 r2 q2
theorem RZ{op:Operator}{r:R2}(ho:cX X (binaryOp op) r)(ha:PE X a ta)(hb:PE X b tb):PE X (.BinOp a op b pos) (vb r ta tb):=by
 intro pins s σ H Q I h;exact wpAny_BinOp<|mL ha hb I h λv u s2 x y H2 I2 rx ry q=>ho pins s2 σ H2 x y v u Q I2 rx ry q
theorem vd{f:Value->Value->Sem Value}{C:Int->Int->Prop}{g:Int->Int->Int}
  (rule:∀(i j:Int) (t u:Tok) (s:Shared) (Q:Value->Shared->Prop) (E:Value->Shared->Prop),C i j->Q (.int (g i j) s.toks) {s with toks:=s.toks+1}->wpAny (model X.prog X.w) X.A (f (.int i t)<|.int j u) Q E s) :
  cX X f (rI C λi j=> .int<|g i j):=by
 intro pins s σ H x y v u Q I rx ry h;obtain⟨i,j,rfl,rfl,hc,q⟩:=h;obtain⟨t,rfl⟩:=rx;obtain⟨t',rfl⟩:=ry;exact rule i j t t' s _ _ hc ⟨.int<|g i j,H,I.tok _,⟨_,rfl⟩,q⟩
theorem qM{f:Value->Value->Sem Value}{g:Int->Int->Int}
  (rule:∀(i j:Int) (t u:Tok) (s:Shared) (Q:Value->Shared->Prop) (E:Value->Shared->Prop),Q (.int (g i j) s.toks) {s with toks:=s.toks+1}->wpAny (model X.prog X.w) X.A (f (.int i t)<|.int j u) Q E s) :
  cX X f (o9 λi j=> .int<|g i j):=by
 intro pins s σ H x y v u Q I rx ry h;obtain⟨i,j,rfl,rfl,q⟩:=h;obtain⟨t,rfl⟩:=rx;obtain⟨t',rfl⟩:=ry;exact rule i j t t' s _ _ ⟨.int<|g i j,H,I.tok _,⟨_,rfl⟩,q⟩
theorem qN{f:Value->Value->Sem Value}{g:Int->Int->Bool}
  (rule:∀(i j:Int) (t u:Tok) (s:Shared) (Q:Value->Shared->Prop) (E:Value->Shared->Prop),Q (.bool<|g i j) s->wpAny (model X.prog X.w) X.A (f (.int i t)<|.int j u) Q E s) :
  cX X f (o9 λi j=> .bl<|g i j):=by
 intro pins s σ H x y v u Q I rx ry h;obtain⟨i,j,rfl,rfl,q⟩:=h;obtain⟨t,rfl⟩:=rx;obtain⟨t',rfl⟩:=ry;exact rule i j t t' s _ _ ⟨.bl<|g i j,H,I,rfl,q⟩
def qO(i j:Int):Prop:=0 < j/\j < 1073741824
def yx(i j:Int):Prop:=0<=j/\j<=1000000/\i.natAbs < 2 ^ 64
def mM(i j:Int):Prop:=(-(2 ^ 64) < i/\i < 2 ^ 64)\/(-(2 ^ 64) < j/\j < 2 ^ 64)
theorem mM.ok{i j:Int}(h:mM i j):IntMulOk i j:=by
 rcases h with ⟨h1,h2⟩ | ⟨h1,h2⟩
 ·exact .of_left<|intBits_le_64 h1 h2
 ·exact .of_right<|intBits_le_64 h1 h2
theorem fG:cX X (binaryOp .Add) (o9 λi j=> .int<|i+j):=qM λ_ _ _ _ _ _ _ q=>add_int q
theorem R0:cX X (binaryOp .Sub) (o9 λi j=> .int<|i - j):=qM λ_ _ _ _ _ _ _ q=>sub_int q
theorem pc:cX X (binaryOp .Mult) (rI mM λi j=> .int<|i * j):=vd λ_ _ _ _ _ _ _ hc q=>mul_int q hc.ok
theorem gB:cX X (binaryOp .FloorDiv) (rI qO λi j=> .int<|i / j):=vd λi j _ _ _ _ _ hc q=>by
 have h1:(0:Int) < j:=hc.1;have h2:j < 1073741824:=hc.2;exact floordiv_int (by omega) (by rw [Int.fdiv_eq_ediv_of_nonneg i<|by omega];exact q)<|.inl<|PyProof.noPylong_small<|by omega
theorem cY:cX X (binaryOp .Mod) (rI (λ_ j=>0 < j) λi j=> .int<|i % j):=vd λi j _ _ _ _ _ hc q=>by
 have h1:(0:Int) < j:=hc;exact mod_int' (by omega)<|by rw [Int.fmod_eq_emod_of_nonneg i<|by omega];exact q
theorem yy:cX X (binaryOp .Pow) (rI yx λi j=> .int<|i ^ j.toNat):=vd λ_ _ _ _ _ _ _ hc q=>pow_int_small hc.1 hc.2.1 hc.2.2 q
def qP:V->V->Bool
 | .non,.non=>true | .non,.int _=>true | .int _,.non=>true | .non,.bl _=>true | .bl _,.non=>true | .non,.str _=>true | .str _,.non=>true
 | .int _,.int _=>true | .bl _,.bl _=>true | .str _,.str _=>true | .gX _,.gX _=>true
 | .int _,.str _=>true | .str _,.int _=>true | .bl _,.str _=>true | .str _,.bl _=>true
 | _,_=>false
def R1:R2:=λx y H Q=>qP x y=true/\Q (.bl<|decide (x=y)) H
def R3:R2:=λx y H Q=>qP x y=true/\Q (.bl (!decide (x=y))) H
theorem Im{i j:Int}:decide (V.int i=V.int j)=(i == j):=by
 rw [Fn];simp
theorem Io{i j:Bool}:decide (V.bl i=V.bl j)=(i == j):=by
 rw [Fn];simp
theorem Ip{i j:Str}:decide (V.str i=V.str j)=(i == j):=by
 rw [Fn];simp
theorem Iq{i j:Array UInt8}:decide (V.gX i=V.gX j)=(i.toList == j.toList):=by
 rw [Fn];cases i;cases j;simp
theorem cF{pins:List (Addr×Obj)}{σ:St}{H:Hp}{s:Shared}{Q:VK}{k k':Bool}(I:Inv X pins σ H s)(q:Q (.bl k) H)(e:k=k'):EP X pins σ Q (.bool k') s:=by
 subst e;exact⟨.bl k,H,I,rfl,q⟩
theorem ph:cX X (compareOp .Eq) R1:=by
 intro pins s σ H x y v u Q I rx ry h;obtain⟨hs,q⟩:=h;cases x with
 | non=>
  cases rx;cases y with
  | non=>cases ry;exact PySem.EqNone.eq_none_none<|cF I q<|by simp
  | bl j=>cases ry;exact PySem.EqNone.eq_none_bool<|cF I q<|by simp
  | int j=>obtain⟨t',rfl⟩:=ry;exact PySem.EqNone.eq_none_int<|cF I q<|by simp
  | str j=>obtain⟨t',rfl⟩:=ry;exact PySem.EqNone.eq_none_str<|cF I q<|by simp
  | _=>exact absurd (show false=true from hs) As
 | bl i=>
  cases rx;cases y with
  | non=>cases ry;exact PySem.EqNone.eq_bool_none<|cF I q<|by simp
  | bl j=>cases ry;exact eq_bool<|cF I q Io
  | str j=>obtain⟨t',rfl⟩:=ry;exact PySem.EqMixed.eq_bool_str<|cF I q<|by simp
  | _=>exact absurd (show false=true from hs) As
 | int i=>
  obtain⟨t,rfl⟩:=rx;cases y with
  | non=>cases ry;exact PySem.EqNone.eq_int_none<|cF I q<|by simp
  | int j=>obtain⟨t',rfl⟩:=ry;exact eq_int<|cF I q Im
  | str j=>obtain⟨t',rfl⟩:=ry;exact PySem.EqMixed.eq_int_str<|cF I q<|by simp
  | _=>exact absurd (show false=true from hs) As
 | str i=>
  obtain⟨t,rfl⟩:=rx;cases y with
  | non=>cases ry;exact PySem.EqNone.eq_str_none<|cF I q<|by simp
  | bl j=>cases ry;exact PySem.EqMixed.eq_str_bool<|cF I q<|by simp
  | int j=>obtain⟨t',rfl⟩:=ry;exact PySem.EqMixed.eq_str_int<|cF I q<|by simp
  | str j=>obtain⟨t',rfl⟩:=ry;exact eq_str<|cF I q Ip
  | _=>exact absurd (show false=true from hs) As
 | gX i=>
  obtain⟨t,rfl⟩:=rx;cases y with
  | gX j=>obtain⟨t',rfl⟩:=ry;exact PySem.W.eq_bytes<|cF I q Iq
  | _=>exact absurd (show false=true from hs) As
 | _=>cases y <;> exact absurd (show false=true from hs) As
theorem yz:cX X (compareOp .NotEq) R3:=by
 intro pins s σ H x y v u Q I rx ry h;obtain⟨hs,q⟩:=h;cases x with
 | non=>
  cases rx;cases y with
  | non=>cases ry;exact PySem.EqNone.ne_none_none<|cF I q<|by simp
  | bl j=>cases ry;exact PySem.EqNone.ne_none_bool<|cF I q<|by simp
  | int j=>obtain⟨t',rfl⟩:=ry;exact PySem.EqNone.ne_none_int<|cF I q<|by simp
  | str j=>obtain⟨t',rfl⟩:=ry;exact PySem.EqNone.ne_none_str<|cF I q<|by simp
  | _=>exact absurd (show false=true from hs) As
 | bl i=>
  cases rx;cases y with
  | non=>cases ry;exact PySem.EqNone.ne_bool_none<|cF I q<|by simp
  | bl j=>cases ry;exact ne_bool<|cF I q<|BZ not Io
  | str j=>obtain⟨t',rfl⟩:=ry;exact PySem.EqMixed.ne_bool_str<|cF I q<|by simp
  | _=>exact absurd (show false=true from hs) As
 | int i=>
  obtain⟨t,rfl⟩:=rx;cases y with
  | non=>cases ry;exact PySem.EqNone.ne_int_none<|cF I q<|by simp
  | int j=>obtain⟨t',rfl⟩:=ry;exact ne_int<|cF I q<|BZ not Im
  | str j=>obtain⟨t',rfl⟩:=ry;exact PySem.EqMixed.ne_int_str<|cF I q<|by simp
  | _=>exact absurd (show false=true from hs) As
 | str i=>
  obtain⟨t,rfl⟩:=rx;cases y with
  | non=>cases ry;exact PySem.EqNone.ne_str_none<|cF I q<|by simp
  | bl j=>cases ry;exact PySem.EqMixed.ne_str_bool<|cF I q<|by simp
  | int j=>obtain⟨t',rfl⟩:=ry;exact PySem.EqMixed.ne_str_int<|cF I q<|by simp
  | str j=>obtain⟨t',rfl⟩:=ry;exact ne_str<|cF I q<|BZ not Ip
  | _=>exact absurd (show false=true from hs) As
 | gX i=>
  obtain⟨t,rfl⟩:=rx;cases y with
  | gX j=>obtain⟨t',rfl⟩:=ry;exact PySem.W.ne_bytes<|cF I q<|BZ not Iq
  | _=>exact absurd (show false=true from hs) As
 | _=>cases y <;> exact absurd (show false=true from hs) As
theorem R5:cX X (compareOp .Lt) (o9 λi j=> .bl<|decide (i < j)):=qN λ_ _ _ _ _ _ _ q=>lt_int q
theorem R9:cX X (compareOp .Gt) (o9 λi j=> .bl<|decide (j < i)):=qN λ_ _ _ _ _ _ _ q=>gt_int q
theorem Sb{op:CmpOp}{r:R2}(ho:cX X (compareOp op) r)(ha:PE X a ta)(hb:PE X b tb)(hm:behindInMarks op b=false):PE X (.Compare a [op] [b] pos) (vb r ta tb):=by
 intro pins s σ H Q I h;exact wpAny_Compare1 (mL ha hb I h λv u s2 x y H2 I2 rx ry q=>ho pins s2 σ H2 x y v u Q I2 rx ry q) hm
def Sd(t:TE):TT:=λσ H Q=>t σ H λx H'=>∃ k,x = .bl k/\Q k H'
theorem Se{op:CmpOp}{r:R2}(ho:cX X (compareOp op) r)(ha:PE X a ta)(hb:PE X b tb)(hm:behindInMarks op b=false):PT X (.Compare a [op] [b] pos) (Sd<|vb r ta tb):=by
 intro pins s σ H Q I h;refine wpAny_isTrue_Compare1 (aI (ha pins s σ H _ I h) λv s1 ⟨x,H1,I1,r1,q1⟩=>aI (hb pins s1 σ H1 _ I1 q1) λu s2 ⟨y,H2,I2,r2,q2⟩=>
  aI (ho pins s2 σ H2 x y v u _ I2 r1 r2 q2) λc s3 ⟨z,H3,I3,r3,k,e,q3⟩=>?_) hm
 subst e;cases r3;exact DK ⟨H3,I3,q3⟩
def mN(K:PySem.W.Frag)(x:V)(H:Hp)(k:Bool):Prop:=
 match x with
 | .non=>k=false
 | .bl b=>k=b
 | .int i=>k=(i != 0)
 | .str y=>y.length<=sizeLine/\k=((y.length:Int) != 0)
 | .gX y=>y.size<=sizeLine/\k=((y.size:Int) != 0)
 | .ref p=>(∃ xs,ao K H p xs/\k = !xs.isEmpty)\/(∃ xs,aQ K H p xs/\k = !xs.isEmpty)\/∃ kvs,H p=some (.dK kvs)/\k = !kvs.isEmpty
 | _=>False
theorem Sf{κ:Type}{kvs:List (κ×V)}{vs:List (κ×Value)}(r:KV kvs vs):(!vs.isEmpty) = !kvs.isEmpty:=by
 cases r <;> rfl
theorem Ir{xs:List V}{its:List Value}(r:aw xs its):(!its.toArray.isEmpty) = !xs.isEmpty:=by
 cases r <;> simp
theorem mO:(sizeLine:Nat) < 2 ^ 63:=by rw [CW];decide
theorem Sg:yw X (λx H Q=>∃ k,mN X.K x H k/\Q k H):=by
 intro pins s σ H x v Q I rx h;obtain⟨k,e,q⟩:=h;have hl:=mO;have hs:sizeLine=16777216:=CW;cases x with
 | non=>
  cases rx;have e':k=false:=e;subst e';exact truthy_none ⟨H,I,q⟩
 | bl b=>
  cases rx;have e':k=b:=e;subst e';exact DK ⟨H,I,q⟩
 | int i=>
  obtain⟨t,rfl⟩:=rx;have e':k=(i != 0):=e;subst e';exact PySem.P.truthy_int ⟨H,I,q⟩
 | str y=>
  obtain⟨t,rfl⟩:=rx;obtain⟨hy,e'⟩:y.length<=sizeLine/\k=((y.length:Int) != 0):=e;subst e';exact PySem.P.truthy_str (by omega) ⟨H,I.tok _,q⟩
 | gX y=>
  obtain⟨t,rfl⟩:=rx;obtain⟨hy,e'⟩:y.size<=sizeLine/\k=((y.size:Int) != 0):=e;subst e';exact PySem.W.truthy_bytes (by omega) ⟨H,I.tok _,q⟩
 | ref p=>
  cases rx;have e':(∃ xs,ao X.K H p xs/\k = !xs.isEmpty)\/(∃ xs,aQ X.K H p xs/\k = !xs.isEmpty)\/∃ kvs,H p=some (.dK kvs)/\k = !kvs.isEmpty:=e
  rcases e' with ⟨xs,hx,e'⟩ | ⟨xs,hx,e'⟩ | ⟨kvs,hx,e'⟩
  ·subst e';obtain⟨its,r,pl,hz⟩:=I.list hx;have hlen:=r.length;exact wpAny_truthy_list pl.isList (by simp only [Au];omega) ⟨H,I.tok _,by rw [Ir r];exact q⟩
  ·subst e';obtain⟨its,r,pl,hz⟩:=I.tuple hx;have hlen:=r.length;exact truthy_tuple pl (by simp only [Au];omega) ⟨H,I.tok _,by rw [Ir r];exact q⟩
  ·subst e';obtain⟨hz,hS,vs,r,m⟩:kvs.length<=sizeLine/\(p == sysModules)=false/\∃ vs,KV kvs vs/\s.heap.DictOf (bI X.prog X.w) p vs:=I.aD p _ hx;have hlen:kvs.length=vs.length:=Paired.length r;exact wpAny_truthy_dict hS m (by omega) ⟨H,I.tok _,by rw [Sf r];exact q⟩
 | _=>exact(show False from e).elim
theorem Sh(ha:PE X a ta)(he:∀ whole,isTrue a X.env whole=(do let v <- whole;standAt a.pos;holding [v] (truthy v))) :
  PT X a (λσ H Q=>ta σ H λx H'=>∃ k,mN X.K x H' k/\Q k H'):=by
 intro pins s σ H Q I h;exact isTrue_plain (aI (ha pins s σ H _ I h) λv s1 ⟨x,H1,I1,r1,q1⟩=>Sg pins s1 σ H1 x v Q I1 r1 q1)<|he _
theorem Iu:cX X (binaryOp .Add) (λx y H Q=>∃ i j,x = .str i/\y = .str j/\i.length+j.length<=sizeLine/\Q (.str<|i++j) H):=by
 intro pins s σ H x y v u Q I rx ry h;obtain⟨i,j,rfl,rfl,hz,q⟩:=h;obtain⟨t,rfl⟩:=rx;obtain⟨t',rfl⟩:=ry;exact add_str (λt' tk=>⟨.str<|i++j,H,I.tok _,⟨_,rfl⟩,q⟩) hz
theorem vals1{x:V}{us:List Value}(r:aw [x] us):∃ u,us=[u]/\RelV x u:=by
 cases r with
 | cons r1 r2=>cases r2;exact⟨_,rfl,r1⟩
theorem vals2{x y:V}{us:List Value}(r:aw [x,y] us):∃ u w',us=[u,w']/\RelV x u/\RelV y w':=by
 cases r with
 | cons r1 r2=>
  cases r2 with
  | cons r3 r4=>cases r4;exact⟨_,_,rfl,r1,r3⟩
theorem Iv(hc:X.calm=true):g6 X (.builtin "max") (λxs H Q=>∃ i j,xs=[.int i,.int j]/\Q (.int (if j > i then j else i)) H):=by
 intro pins s σ H xs us Q I r h;obtain⟨i,j,rfl,q⟩:=h;obtain⟨u,w',rfl,⟨t,rfl⟩,⟨t',rfl⟩⟩:=vals2 r;refine max_two_ints (I.ok.hd hc) λh' tk k=>⟨_,H,I.kept k,?_,q⟩
 by_cases hj:j > i
 ·rw [BL hj,BL hj];exact⟨_,rfl⟩
 ·rw [BK hj,BK hj];exact⟨_,rfl⟩
end
structure mP(h:Heap)(x dx C:Addr)(mA:Str->Option Value):Prop where
 obj:h.get? x=some (PySem.W.instObj C dx)
 ns:h.Ns1 dx mA
 ne:dx≠x
theorem Si{h:Heap}{dx:Addr}{mA:Str->Option Value}(n:h.Ns1 dx mA):∃ od,h.get? dx=some od/\∀ name,PySem.W.lookIn name od=some (mA name):=by
 obtain⟨o,es,ep,ho,hd,hk,_,hm⟩:=n;refine⟨o,ho,λname=>?_⟩;have e:=hm name;unfold nsFind findBy at e;rw [<- Array.find?_toList] at e;unfold PySem.W.lookIn;rw [hd]
 dsimp only
 split
 ·rename_i y q;rw [q] at e;exact BZ some e
 ·rename_i q;rw [q] at e;have a:es.toList.any (·.refKey)=false:=by
   rw [List.any_eq_false];intro y hy;obtain⟨z,t,yA⟩:=hk y<|Array.mem_toList_iff.mp hy;simp [DictEntry.refKey,yA]
  have a':¬ es.toList.any (·.refKey)=true:=by rw [a];exact As
  rw [BK a'];exact BZ some e
theorem mP.look{h:Heap}{x dx C:Addr}{mA:Str->Option Value}(I:mP h x dx C mA):∃ od,PySem.W.InstAt h x (PySem.W.instObj C dx) C (some od)/\∀ name,PySem.W.lookIn name od=some (mA name):=
 let ⟨od,ho,hl⟩:=Si I.ns
 ⟨od,⟨I.obj,rfl,rfl,ho⟩,hl⟩
section
variable{prog:Program}{w:World}{A:Around}{E:Value->Shared->Prop}{s:Shared}{K:PySem.W.Frag}{x dx C f:Addr}{mA:Str->Option Value}{name:Str}{v:Value}
end
theorem dg.some_of{v:V}{o:Option Value}(r:dg (some v) o):∃ u,o=some u/\RelV v u:=by
 cases o with
 | none=>exact(show False from r).elim
 | some u=>exact⟨u,rfl,r⟩
section
variable{P:Program}{w:World}{H H':Hp}{h h':Heap}{a C dx:Addr}{fs QN:List (Str×V)}
theorem Sj(aD:cu P w H h)(e:H a=some (.ins C dx fs)):∃ mA,mP h a dx C mA/\(∀ f,dg (fs.lookup f)<|mA f)/\PySem.Within mA (fs.map (·.1))/\fs.length<=1000/\H dx=some (.own a):=by
 obtain⟨d,z,ne,ob,mA,n,r,q⟩:=(show ay P w H h a (.ins C dx fs) from aD a _ e);exact⟨mA,⟨ob,n,ne⟩,r,q,z,d⟩
end
structure yB(K:PySem.W.Frag)(C:Addr):Prop where
 pg:PySem.W.plainGet K C Str.empty=true
 hd:PySem.W.hasDictIn K C=true
 po:PySem.W.plainOver K C=true
 sa:PySem.W.findIn K (.ref C) "__setattr__" = some (some<|.builtin "object.__setattr__")
theorem yB.get{K:PySem.W.Frag}{C:Addr}(c:yB K C)(f:Str):PySem.W.plainGet K C f=true:=c.pg
section
variable{X:Cx}{pins:List (Addr×Obj)}{σ:St}{H:Hp}{s:Shared}{a C dx:Addr}{fs:List (Str×V)}{f:Str}{v:V}{A:Around}{E:Value->Shared->Prop}
end
section
variable{X:Cx}{o e value:Expr}{f:Str}{pos pos' iX:Pos}{ta tv:TE}
end
section
variable{X:Cx}{pins:List (Addr×Obj)}{σ:St}{H:Hp}{s:Shared}{A:Around}{E:Value->Shared->Prop}{Q:Value->Shared->Prop}{c:Value}{b:Bool}
inductive cR (K:PySem.W.Frag) (H:Hp):V->Value->Prop where
 | non:cR K H .non<|.type "NoneType"
 | bl (x:Bool):cR K H (.bl x)<|.type "bool"
 | int (i:Int):cR K H (.int i)<|.type "int"
 | str (x:Str):cR K H (.str x)<|.type "str"
 | oX (x:UInt64):cR K H (.oX x)<|.type "float"
 | lst {a:Addr} {xs:List V} (e:H a=some (.lst xs)):cR K H (.ref a)<|.type "list"
 | bK {a:Addr} {o:Obj} {xs:List V} (e:H a=some (.bK o<|.lst xs)):cR K H (.ref a)<|.type "list"
 | tup {a:Addr} {xs:List V} (e:H a=some (.tup xs)):cR K H (.ref a)<|.type "tuple"
 | dK {a:Addr} {kvs:List (Key×V)} (e:H a=some (.dK kvs)):cR K H (.ref a)<|.type "dict"
 | dT {a:Addr} {kvs:List (List Key×V)} (e:H a=some (.dT kvs)):cR K H (.ref a)<|.type "dict"
 | ins {a C dx:Addr} {fs:List (Str×V)} (e:H a=some (.ins C dx fs)) (cl:yB K C) (ha:PySem.W.findIn K (.ref C) "__class__" = some (some<|.builtin "object.__class__"))
   (hn:PySem.W.specialIn K (.builtin "object.__class__") "__get__" = some (some<|.builtin "getset_descriptor.__get__")) (Iw:PySem.W.takesIn K (.builtin "object.__class__")=some true)
   (hm:PySem.W.mroIn K C (.type "object")=some true):cR K H (.ref a)<|.ref C
theorem Sl{x:V}{u t:Value}(I:Inv X pins σ H s)(rx:RelV x u)(ty:cR X.K H x t)(e:PySem.W.kitOne X.K t c=some b)(h:∀ tk,Q (.bool b) {s with toks:=tk}) :
  wpAny (model X.prog X.w) A (call (.builtin "isinstance") [u,c]) Q E s:=by
 cases ty with
 | non=>cases (show u=Value.none from rx);exact CZ PySem.W.kitx_none I.fe True.intro e (λz=>nomatch z) h
 | bl y=>cases (show u=Value.bool y from rx);exact CZ PySem.W.kitx_bool I.fe True.intro e (λz=>nomatch z) h
 | int i=>obtain⟨t,q⟩:=(show ∃ t,u=Value.int i t from rx);cases q;exact CZ PySem.W.kitx_int I.fe True.intro e (λz=>nomatch z) h
 | str y=>obtain⟨t,q⟩:=(show ∃ t,u=Value.str y t from rx);cases q;exact CZ PySem.W.kitx_str I.fe True.intro e (λz=>nomatch z) h
 | oX y=>obtain⟨t,q⟩:=(show ∃ t,u=Value.float y t from rx);cases q;exact CZ PySem.W.kitx_float I.fe True.intro e (λz=>nomatch z) h
 | @lst a xs ea=>
  cases (show u=Value.ref a from rx);obtain⟨_,_,n,_,h1⟩:=(show ay X.prog X.w H s.heap a (.lst xs) from I.aD a _ ea);exact CZ PySem.W.kitx_list I.fe ⟨_,h1,rfl⟩ e (λz=>nomatch z) h
 | @bK a ob xs ea=>
  cases (show u=Value.ref a from rx);obtain⟨_,_,_,n,_,h1⟩:=(show ay X.prog X.w H s.heap a (.bK ob<|.lst xs) from I.aD a _ ea);exact CZ PySem.W.kitx_list I.fe ⟨_,h1,rfl⟩ e (λz=>nomatch z) h
 | @tup a xs ea=>
  cases (show u=Value.ref a from rx);obtain⟨_,_,_,p⟩:=(show ay X.prog X.w H s.heap a (.tup xs) from I.aD a _ ea);obtain⟨o,h1,h2,_⟩:=p;exact CZ PySem.W.kitx_tuple I.fe ⟨o,h1,h2⟩ e (λz=>nomatch z) h
 | @dK a kvs ea=>
  cases (show u=Value.ref a from rx);obtain⟨_,_,vs,_,p⟩:=(show ay X.prog X.w H s.heap a (.dK kvs) from I.aD a _ ea);obtain⟨o,es,ep,h1,h2,_⟩:=p;exact CZ PySem.W.kitx_dict I.fe ⟨o,h1,h2.1⟩ e (λz=>nomatch z) h
 | @dT a kvs ea=>
  cases (show u=Value.ref a from rx);obtain⟨_,_,xs,_,o,es,ep,h1,h2,_⟩:=(show ay X.prog X.w H s.heap a (.dT kvs) from I.aD a _ ea);exact CZ PySem.W.kitx_dict I.fe ⟨o,h1,h2.1⟩ e (λz=>nomatch z) h
 | @ins a C dx fs ea cl ha hn Iw hm=>
  cases (show u=Value.ref a from rx);obtain⟨mA,O,_⟩:=Sj I.aD ea;obtain⟨od,J,_⟩:=O.look;exact CZ (PySem.W.kitx_own (cl.get _) cl.hd ha hn Iw hm) I.fe J e (λz=>nomatch z) h
end
structure bC(k:Nat)(A:Around):Prop where
 hd:A.handled=none
 dp:A.depth+3 * k+5 < recursionLimit
 un:A.units+16 * k+200 < cLine
theorem bC.mono{j k:Nat}{A:Around}(r:bC k A)(h:j<=k):bC j A:=⟨r.hd,by have:=r.dp;omega,by have:=r.un;omega⟩
theorem bC.deeper{k:Nat}{A:Around}(r:bC (k+1) A)(env:Env):bC k (A.deeper env):=
 ⟨r.hd,by have:=r.dp;show A.depth+1+3 * k+5 < _;omega,by have:=r.un;show A.units+3+16 * k+200 < _;omega⟩
theorem bC.depth{k:Nat}{A:Around}(r:bC k A):A.depth < recursionLimit:=by have:=r.dp;omega
def yC:TA:=λ_ H Q=>Q [] H
def Iy(ta:TE)(tr:TA):TA:=λσ H Q=>ta σ H λx H1=>tr σ H1 λxs H2=>Q (x :: xs) H2
section
variable{X:Cx}{e:Expr}{es:List Expr}{te:TE}{t:TA}{pos:Pos}
theorem Sn:PA X [] yC:=λ_ _ _ _ H Q I h=>Calls.spliced_nil ⟨[],H,I,.nil,h⟩
theorem Sq(ha:PE X e te)(hr:PA X es t)(hs:starEach (e :: es) X.env=(false,eval e X.env) :: starEach es X.env:=by rfl):PA X (e :: es) (Iy te t):=by
 intro pos pins s σ H Q I h;rw [hs];show wpAny _ _ (spliced<|(false,eval e X.env) :: backTo pos (starEach es X.env)) _ _ s;refine Calls.spliced_cons<|aI (ha pins s σ H _ I h) λu s1 ⟨x,H1,I1,r1,q1⟩=>?_;exact aI (hr pos pins s1 σ H1 _ I1 q1) λus s2 ⟨xs,H2,I2,r2,q2⟩=>⟨x :: xs,H2,I2,.cons r1 r2,q2⟩
def yD(t:TA):TE:=λσ H Q=>t σ H λxs H1=>xs.length<=sizeLine/\∀ p,H1 p=none->Q (.ref p) (upd H1 p<|.tup xs)
def yE(t:TA):TE:=λσ H Q=>t σ H λxs H1=>xs.length<=sizeLine/\∀ p,H1 p=none->Q (.ref p) (upd H1 p<|.lst xs)
theorem Sr{x1}(h:PA X es t):PE X (.Tuple es x1 pos) (yD t):=by
 intro pins s σ H Q I hq;refine wpAny_Tuple_spliced (aI (h pos pins s σ H _ I hq) λus s1 ⟨xs,H1,I1,r,z,q⟩=>⟨by rw [<- r.length];exact z,?_⟩);have hf:H1 s1.heap.objs.size=none:=I1.aD.fresh<|Am _;refine⟨.ref s1.heap.objs.size,upd H1 s1.heap.objs.size<|.tup xs,I1.laid (t':=s1.toks) (λb u e=>Ai _ e) (Am _) ?_,rfl,q _ hf⟩;exact⟨z,us,r,⟨_,Ba _ rfl,rfl,_,rfl⟩⟩
theorem Ss(h:PA X es t):PE X (.List es pos) (yE t):=by
 intro pins s σ H Q I hq;refine wpAny_List_spliced (aI (h pos pins s σ H _ I hq) λus s1 ⟨xs,H1,I1,r,z,q⟩=>⟨by rw [<- r.length];exact z,?_⟩);have hf:H1 s1.heap.objs.size=none:=I1.aD.fresh<|Am _;refine⟨.ref s1.heap.objs.size,upd H1 s1.heap.objs.size<|.lst xs,I1.laid (t':=s1.toks) (λb u e=>Ai _ e) (Am _) ?_,rfl,q _ hf⟩;exact⟨z,us,0,r,Ba _ rfl⟩
end
abbrev Sp:=List V->Hp->VK->XK->Prop
abbrev fS:=List Env->Hp->Shared->XK->Value->Shared->Prop
structure jZ(P:Program)(w:World)(K:PySem.W.Frag)(mg:Str->Option Value)(base:Heap)(A:Around)(outer:List Env)(s:Shared)(H:Hp):Prop where
 frames:A.frames=some outer
 mod:Mod K mg base
 bs:∀ b o,base.get? b=some o->s.heap.get? b=some o/\H b=none
 k4:base.objs.size<=s.heap.objs.size
 dh:s.heap.FunFrames base outer
 oZ:∀ b∈iD outer,H b=none
 aD:cu P w H s.heap
 bare:AllBare s.gens
def CE(outer:List Env)(P:Program)(w:World)(H:Hp)(s:Shared)(Q:VK)(u:Value)(s':Shared):Prop:=
 ∃ v H',s'.os=s.os/\AllBare s'.gens/\Un (iD outer) [] H H' s.heap s'.heap/\cu P w H' s'.heap/\RelV v u/\Q v H'
def CR(CX:fS)(outer:List Env)(P:Program)(w:World)(H:Hp)(s:Shared)(Q:VK)(E:XK)(r:Result)(s':Shared):Prop:=
 match r with
 | .ok (.ret u)=>CE outer P w H s Q u s'
 | .ok _=>False
 | .error e=>CX outer H s E e s'
structure aJ(P:Program)(w:World)(K:PySem.W.Frag)(mg:Str->Option Value)(base:Heap)(CX:fS)(k:Nat)(f:Addr)(fd:FuncData)(ps:List Str)(sp:Sp):Prop where
 len:∀ vs H Q E,sp vs H Q E->vs.length=ps.length
 run:∀(A:Around) (outer:List Env) (s:Shared) (H:Hp) (args:Args) (us:List Value) (vs:List V) (Q:VK) (E:XK),bC k A->jZ P w K mg base A outer s H->BindsTo s fd args (ps.zip us)->aw vs us->sp vs H Q E ->
  codeAny (model P w) A (.call (.ref f) args) (CR CX outer P w H s Q E) s
theorem aJ.mono{P:Program}{w:World}{K:PySem.W.Frag}{mg:Str->Option Value}{base:Heap}{CX:fS}{j k:Nat}{f:Addr}{fd:FuncData}{ps:List Str}{sp:Sp}(F:aJ P w K mg base CX j f fd ps sp)(h:j<=k) :
  aJ P w K mg base CX k f fd ps sp:=⟨F.len,λA outer s H args us vs Q E hr=>F.run A outer s H args us vs Q E<|hr.mono h⟩
section
variable{X:Cx}{pins:List (Addr×Obj)}{σ:St}{H:Hp}{s s':Shared}
theorem Inv.yF(I:Inv X pins σ H s):jZ X.prog X.w X.K X.mg X.base X.A X.stack s H:=
 ⟨I.ok.frames,I.ok.mod,I.bs,Cl I.ok.k4 I.sz,I.stack,I.gu,I.aD,I.bare⟩
theorem Inv.after{Q:VK}{u:Value}(I:Inv X pins σ H s)(h:CE X.stack X.prog X.w H s Q u s'):EP X pins σ Q u s':=by
 obtain⟨v,H',os,bare,un,aD,r,q⟩:=h;obtain⟨hh,g,d,t,Sv⟩:=s';obtain rfl:Sv=s.os:=os;exact⟨v,H',I.call (h':=hh) (g':=g) (d':=d) (t':=t) (ch:=[]) un aD bare (λb z=>absurd z<|by simp),r,q⟩
end
def Iz(sp:Sp)(j3:List V)(E:XK)(t:TA):TE:=λσ H Q=>t σ H λvs H1=>sp (vs++j3) H1 Q E
def Binds(K:PySem.W.Frag)(fd:FuncData)(ps:List Str)(ds:List Value):Prop:=
 ∀(s:Shared) (us:List Value),K.In s.heap->(us++ds).length=ps.length->BindsTo s fd ⟨us,[]⟩ (ps.zip<|us++ds)
theorem Binds.all{K:PySem.W.Frag}{fd:FuncData}{ps:List Str}(h:∀ us:List Value,us.length=ps.length->bindArgs fd ⟨us,[]⟩=pure (ps.zip us)):Binds K fd ps []:=λs us _ hl=>by
 rw [Bh] at hl ⊢;exact .of_eq<|h us hl
def qQ(CX:fS)(X:Cx)(E:XK):Prop:=∀(pins:List<|Addr×Obj) (σ:St) (H:Hp) (s:Shared) (e:Value) (s':Shared),Inv X pins σ H s->CX X.stack H s E e s'->X.xe e s'
section
variable{X:Cx}{CX:fS}{k:Nat}{f C:Addr}{fd:FuncData}{ps:List Str}{sp:Sp}{j3:List V}{ds:List Value}{E:XK}{x m:Str}{p pos apos:Pos}{e o:Expr}{es:List Expr}{ta:TE}{t:TA}
theorem Sw{pins:List (Addr×Obj)}{σ:St}{H:Hp}{s:Shared}{Q:VK}{us:List Value}{vs:List V}(F:aJ X.prog X.w X.K X.mg X.base CX k f fd ps sp)(hr:bC k X.A)(hb:Binds X.K fd ps ds)(hd:aw j3 ds)(hx:qQ CX X E)
  (I:Inv X pins σ H s) (r:aw vs us) (h:sp (vs++j3) H Q E):wpAny (model X.prog X.w) X.A (call (.ref f) us) (EP X pins σ Q) X.xe s:=by
 have r2:aw (vs++j3) (us++ds):=r.append hd;have hl:(us++ds).length=ps.length:=by rw [<- r2.length];exact F.len _ _ _ _ h
 refine wpAny_call<|JL (F.run X.A X.stack s H ⟨us,[]⟩ (us++ds) (vs++j3) Q E hr I.yF (hb s us I.fe hl) r2 h) λr s' hq=>?_;cases r with
 | error e=>exact hx pins σ H s e s' I hq
 | ok fl=>
  cases fl with
  | ret u=>exact I.after hq
  | next=>exact False.elim hq
  | brk=>exact False.elim hq
  | cont=>exact False.elim hq
theorem Sx(F:aJ X.prog X.w X.K X.mg X.base CX k f fd ps sp)(hr:bC k X.A)(hg:Gl X x)(hm:X.mg x=some (.ref f))(hk:PySem.W.keepIn X.K (.ref f)=true)(hb:Binds X.K fd ps ds)(hd:aw j3 ds)(hx:qQ CX X E)
  (ha:PA X (e :: es) t) (d9:(x == ("__debug__" : Str))=false:=by decide) (he:starEach (e :: es) X.env=(false,eval e X.env) :: starEach es X.env:=by rfl) (mS:(backTo pos<|starEach es X.env).any (·.1)=false:=by rfl) :
  PE X (.Call (.Name x p) (e :: es) [] pos) (Iz sp j3 E t):=by
 intro pins s σ H Q I h;refine HX<|Q4 I hg hm ?_ d9;refine PySem.W.callWith_K (h₀:=X.base) I.ok.mod.qu hk (aI (ha pos pins s σ H _ I h) λus s1 ⟨vs,H1,I1,r,q⟩=>⟨I1.fe,?_⟩) he mS;exact Sw F hr hb hd hx I1 r q
end
section
variable{X:Cx}{CX:fS}{k:Nat}{f C:Addr}{fd:FuncData}{ps ks:List Str}{sp:Sp}{E:XK}{x m:Str}{p pos apos Sy:Pos}{e o:Expr}{es:List Expr}{kws:List Keyword}{te ta:TE}{t tk:TA}{nm:Option Str}
variable{g:List Value->List Value->List Value}{gV:List V->List V->List V}
end
structure au(N P:List Str)(sc:Scope):Prop where
 kind:sc.kind = .function
 co:sc.isCoroutine=false
 gen:sc.isGenerator=false
 nd:N.Nodup
 pre:N.take P.length=P
 par:∀ x∈P,sc.names.lookup x=some .local\/sc.names.lookup x=some .cell
 mU:∀ y∈sc.names,y.2 ≠ .free
theorem IA{kindOf:Str->Option NameKind}{x:Str}:∀{binds:List (Str×Value)} {m:Str->Option Value},(∀ v,(x,v)∉binds)->bindL kindOf binds m x=m x
 | [],_,_=>rfl
 | (n,v) :: r,m,h=>by
  unfold bindL;rw [IA λw hw=>h w<|Af _ hw]
  split
  ·have:x≠n:=by rintro rfl;exact h v Ad
   simp [this]
  ·rfl
theorem IB{kindOf:Str->Option NameKind}{x:Str}:∀{binds:List (Str×Value)} {m:Str->Option Value},(∀ v,(x,v)∉binds)->bindC kindOf binds m x=m x
 | [],_,_=>rfl
 | (n,v) :: r,m,h=>by
  unfold bindC;rw [IB λw hw=>h w<|Af _ hw]
  split
  ·rfl
  ·have:x≠n:=by rintro rfl;exact h v Ad
   simp [this]
theorem IC{kindOf:Str->Option NameKind}{x:Str}{v:Value}:∀{P:List Str} {vs:List Value} {i:Nat} {m:Str->Option Value},P.Nodup->P[i]?=some x->vs[i]?=some v->kindOf x=some .local ->
  bindL kindOf (P.zip vs) m x=some v
 | [],_,_,_,_,h,_,_=>by simp at h
 | _ :: _,[],_,_,_,_,h,_=>by simp at h
 | p :: P,w :: vs,0,m,nd,h1,h2,hk=>by
  simp at h1 h2;subst h1;subst h2;show bindL kindOf ((p,w) :: P.zip vs) m p=_;unfold bindL;rw [IA λv hv=>(Bf.mp nd).1 (QC hv).1,BL hk];simp
 | p :: P,w :: vs,i+1,m,nd,h1,h2,hk=>by
  show bindL kindOf ((p,w) :: P.zip vs) m x=_;unfold bindL;exact IC (i:=i) (Bf.mp nd).2 (by simpa using h1) (by simpa using h2) hk
theorem IE{kindOf:Str->Option NameKind}{x:Str}{v:Value}:∀{P:List Str} {vs:List Value} {i:Nat} {m:Str->Option Value},P.Nodup->P[i]?=some x->vs[i]?=some v->kindOf x≠some .local ->
  bindC kindOf (P.zip vs) m x=some v
 | [],_,_,_,_,h,_,_=>by simp at h
 | _ :: _,[],_,_,_,_,h,_=>by simp at h
 | p :: P,w :: vs,0,m,nd,h1,h2,hk=>by
  simp at h1 h2;subst h1;subst h2;show bindC kindOf ((p,w) :: P.zip vs) m p=_;unfold bindC;rw [IB λv hv=>(Bf.mp nd).1 (QC hv).1,BK hk];simp
 | p :: P,w :: vs,i+1,m,nd,h1,h2,hk=>by
  show bindC kindOf ((p,w) :: P.zip vs) m x=_;unfold bindC;exact IE (i:=i) (Bf.mp nd).2 (by simpa using h1) (by simpa using h2) hk
def start(N:List Str)(vs:List V):St:=vs.map some++List.replicate (N.length - vs.length) none
def fh(CX:fS)(P:Program)(w:World)(K:PySem.W.Frag)(mg:Str->Option Value)(base:Heap)(N:List Str)(qual:Str)(scope:Scope)(f:Addr)(cd:Value)(A:Around)(outer:List Env)(s:Shared)(H:Hp)(E:XK):Cx where
 prog:=P
 w:=w
 K:=K
 mg:=mg
 base:=base
 A:=A.deeper<|envOfC qual scope s.heap.objs.size f cd
 N:=N
 s₀:=s
 H₀:=H
 env:=envOfC qual scope s.heap.objs.size f cd
 outer:=outer
 stack:=envOfC qual scope s.heap.objs.size f cd :: outer
 ex:=[]
 calm:=true
 fn:=λ_=>true
 pn:=[]
 xe:=λe s'=>wpAny (model P w) (A.deeper<|envOfC qual scope s.heap.objs.size f cd) (leaving (envOfC qual scope s.heap.objs.size f cd) e) (λ_ qR=>CX outer H s E e qR) (λe' qR=>CX outer H s E e' qR) s'
theorem IG{sc:Scope}{n:Nat}{x:Str}(h:sc.names.lookup x=some .cell):∃ c,(cellsFrom n sc.names []).lookup x=some c:=by
 have q:=HD sc.names n []<|.inl h;exact Fb.mp q
theorem Sz{CX:fS}{P:Program}{w:World}{K:PySem.W.Frag}{mg:Str->Option Value}{base:Heap}{N ps:List Str}{qual:Str}{scope:Scope}{f:Addr}{cd:Value}{A:Around}{outer:List Env}{s s1:Shared}{H:Hp}{E:XK}{us:List Value}{vs:List V}
  (S:au N ps scope) (hd:A.handled=none) (e0:jZ P w K mg base A outer s H) (hl:vs.length=ps.length) (r:aw vs us)
  (x:InCallC s s.heap.objs.size (bindL (envOfC qual scope s.heap.objs.size f cd).kindOf (ps.zip us) λ_=>none) (cellsFrom (s.heap.objs.size+1) scope.names []) (bindC (envOfC qual scope s.heap.objs.size f cd).kindOf (ps.zip us) λ_=>none) s1) :
  Inv (fh CX P w K mg base N qual scope f cd A outer s H E) [] (start N vs) H s1:=by
 have mS:ps.length<=N.length:=by have:=BZ List.length S.pre;rw [Bl] at this;omega
 obtain⟨h1,tk,rfl,hk⟩:=x.done;have qS:∀ b:Addr,b∉(fh CX P w K mg base N qual scope f cd A outer s H E).ex:=λb z=>absurd (show b∈([]:List Addr) from z) (by simp);refine⟨⟨e0.mod,S.kind,rfl,rfl,Am _,λy z c h1 h2=>?_,λy hy=>?_,λy c _ h=>?_,λ_=>hd,Around.frames_deeper e0.frames,.inr ⟨rfl,rfl⟩,λb z=>absurd z<|qS b,e0.bs,e0.k4,λb _ _=>qS b,λb z=>absurd z<|qS b,e0.dh,e0.oZ⟩,
  rfl,e0.bare,Un.kept hk,⟨_,x.toInCall.ns,λi y v h1 h2 h3=>?_⟩,λy c h=>⟨_,x.cell y c h⟩,e0.aD.fresh<|Am _,λy c h=>?_,λp hp=>absurd (show p∈([]:List<|Addr×Obj) from hp) (by simp),e0.aD.kept hk,?_⟩
 ·exact name_of_addr x.apart (CP h1)<|CP h2
 ·have hy:scope.names.lookup y=some .cell\/scope.names.lookup y=some .free:=hy
  rcases hy with hy | hy
  ·exact IG hy
  ·exact absurd rfl (S.mU _<|CP hy)
 ·exact Cw<|x.above y c<|CP h
 ·have hi:i < vs.length:=by
   unfold start at h2
   by_cases hi:i < vs.length
   ·exact hi
   ·rw [Bc<|by simpa using hi] at h2;rw [Dx] at h2
    split at h2 <;> cases h2
  have ha:vs[i]?=some v:=by
   unfold start at h2;rw [Ay (by simpa using hi),Ae] at h2;cases e:vs[i]? with
   | none=>rw [e] at h2;cases h2
   | some a=>rw [e] at h2;cases h2;rfl
  obtain⟨u,hu,rv⟩:=r.get ha;have hp:ps[i]?=some y:=by
   rw [<- S.pre,Da<|by omega];exact h1
  have IH:ps.Nodup:=by rw [<- S.pre];exact S.nd.sublist<|List.take_sublist _ _
  refine⟨u,rv,?_⟩
  rcases S.par y (Al hp) with k | k
  ·exact .inl ⟨k,IC IH hp hu k⟩
  ·obtain⟨c,e⟩:=IG (n:=s.heap.objs.size+1) k;refine .inr ⟨.inl k,c,e,?_⟩;have q:=x.cell y c e;rw [IE IH hp hu<|by show scope.names.lookup y≠_;rw [k];decide] at q;exact q
 ·exact e0.aD.fresh<|Cw<|x.above y c<|CP h
 ·unfold start;show _=N.length;rw [Ag,Aa,Du];omega
theorem SA{CX:fS}{P:Program}{w:World}{K:PySem.W.Frag}{mg:Str->Option Value}{base:Heap}{k:Nat}{f:Addr}{name qual:Str}{params:Arguments}{body:List Stmt}{scope:Scope}{dV kV doc pm bN ct oc:Value}{an od:Option Addr}
  {j4:Array (Option Value)} {N ps:List Str} {sp:Sp} (lk:K.lookup f=some ⟨oc,od,.func<|PySem.W.fnOf name qual params body scope dV kV doc pm an bN ct,j4⟩) (iF:PySem.W.codeIn K bN qual=true) (S:au N ps scope)
  (len:∀ vs H Q E,sp vs H Q E->vs.length=ps.length)
  (di : ∀ (A : Around) (outer : List Env) (s : Shared) (H : Hp) (vs : List V) (Q : VK) (E : XK), bC k (A.deeper<|envOfC qual scope s.heap.objs.size f bN) → sp vs H Q E →
   ∃ t,gY (fh CX P w K mg base N qual scope f bN A outer s H E) body t/\t {nx:=λ_ H'=>Q .non H',rt:=Q} (start N vs) H) :
  aJ P w K mg base CX (k+1) f (PySem.W.fnOf name qual params body scope dV kV doc pm an bN ct) ps sp:=by
 refine⟨len,λA outer s H args us vs Q E hr e0 hb r db=>?_⟩;have hl:=len _ _ _ _ db;have KX:K.In s.heap:=e0.mod.qu.keeps λb o e=>(e0.bs b o e).1;have lim:s.heap.NoLimit:=e0.mod.nolimit.keeps λb o e=>(e0.bs b o e).1;have qT:∀ y∈ps.zip us,scope.names.lookup y.1=some .local\/(scope.names.lookup y.1=some .cell/\((cellsFrom (s.heap.objs.size+1) scope.names []).lookup y.1).isSome=true):=λ⟨n,v⟩ hy=>by
  rcases S.par n (QC hy).1 with q | q
  ·exact .inl q
  ·exact .inr ⟨q,HD _ _ _<|.inl q⟩
 refine codeAny_call_function hr.depth (KX _ _ lk) rfl S.co S.gen rfl (PySem.W.codeRec_of KX iF) (hb _ _ _ _ ?_);refine wpAny_newFunctionEnv_cells S.kind qT λenv he s1 x=>?_;subst he;refine⟨lim.keeps x.toInCall.keep,codeAny_func ?_⟩;obtain⟨t,ht,hq⟩:=di A outer s H vs Q E (hr.deeper _) db;have I:Inv (fh CX P w K mg base N qual scope f bN A outer s H E) [] (start N vs) H s1:=Sz S hr.hd e0 hl r x;refine CN (ht [] s1 (start N vs) H _ I hq) (λfl s' hs=>?_) λe s' hs=>hs;have fin:∀{σ':St} {H':Hp} {v:V} {u:Value},Inv (fh CX P w K mg base N qual scope f bN A outer s H E) [] σ' H' s'->RelV v u->Q v H'->CE outer P w H s Q u s':=
  λ{σ' H' v u} J rv q=>⟨v,H',J.os,J.bare,J.base,J.aD,rv,q⟩
 cases fl with
 | ret u=>
  obtain⟨v,σ',H',J,rv,q⟩:=hs;exact fin J rv q
 | next=>
  obtain⟨σ',H',J,q⟩:=hs;exact fin (v:=V.non) (u:=Value.none) J rfl q
 | brk=>
  obtain⟨_,_,_,q⟩:=hs;exact False.elim q
 | cont=>
  obtain⟨_,_,_,q⟩:=hs;exact False.elim q
section
variable{X:Cx}{x:Str}{p pos:Pos}{e:Expr}{es:List Expr}{t:TA}{id T:String}{r:List V->Hp->VK->Prop}
def ve(r:List V->Hp->VK->Prop)(t:TA):TE:=λσ H Q=>t σ H λvs H1=>r vs H1 Q
theorem SD(hc:g6 X (.builtin id) r)(hg:Gl X x)(hm:X.mg x=none)(hv:bootBuiltins x=some (.builtin id))(ha:PA X (e :: es) t)(hn:x ≠ "__name__":=by decide)(d9:(x == ("__debug__" : Str))=false:=by decide)
  (he:starEach (e :: es) X.env=(false,eval e X.env) :: starEach es X.env:=by rfl) (mS:(backTo pos<|starEach es X.env).any (·.1)=false:=by rfl):PE X (.Call (.Name x p) (e :: es) [] pos) (ve r t):=by
 intro pins s σ H Q I h;refine HX<|iG I hg hm hv ?_ hn d9;exact PyProof.Rows.callWith_builtin1 (aI (ha pos pins s σ H _ I h) λus s1 ⟨vs,H1,I1,r1,q1⟩=>hc pins s1 σ H1 vs us Q I1 r1 q1) he mS
theorem SE(hc:g6 X (.type T) r)(hg:Gl X x)(hm:X.mg x=none)(hv:bootBuiltins x=some (.type T))(ha:PA X (e :: es) t)(hn:x ≠ "__name__":=by decide)(d9:(x == ("__debug__" : Str))=false:=by decide)
  (he:starEach (e :: es) X.env=(false,eval e X.env) :: starEach es X.env:=by rfl) (mS:(backTo pos<|starEach es X.env).any (·.1)=false:=by rfl):PE X (.Call (.Name x p) (e :: es) [] pos) (ve r t):=by
 intro pins s σ H Q I h;refine HX<|iG I hg hm hv ?_ hn d9;exact CV (aI (ha pos pins s σ H _ I h) λus s1 ⟨vs,H1,I1,r1,q1⟩=>hc pins s1 σ H1 vs us Q I1 r1 q1) he mS
end
end L2
namespace HT
open PySem PyProof.Rows
section
open PySem.SeqAt
open PySem.AutoSeq1 (wpAny_loadPart')
open PySem.MeetsSeq PySem.MeetsSeq2 PySem.MeetsSeq3
end
section
variable{prog:Program}{w:World}{A:Around}{E:Value->Shared->Prop}{s:Shared}
def fj(n d:Nat):Option Int->Nat
 | none=>d
 | some v=>if v < 0 then(v+(n:Int)).toNat else min v.toNat n
theorem dj(n d:Nat):fj n d none=d:=rfl
theorem eB(n d k:Nat):fj n d (some (k:Int))=min k n:=by
 show(if(k:Int) < 0 then((k:Int)+(n:Int)).toNat else min (k:Int).toNat n)=min k n;rw [BK (by omega),Ca]
end
end HT
namespace L2
open PySem PySem.Spec PyProof.Rows
abbrev TO:=St->Hp->(Option Int->Hp->Prop)->Prop
def PO(X:Cx)(e:Option Expr)(t:TO):Prop:=
 ∀(pins:List<|Addr×Obj) (s:Shared) (σ:St) (H:Hp) (Q:Option Int->Hp->Prop),Inv X pins σ H s->t σ H Q ->
  wpAny (model X.prog X.w) X.A (evalPart e X.env) (λu s'=>∃ o H',Inv X pins σ H' s'/\IsPart u o/\Q o H') X.xe s
def SF:TO:=λ_ H Q=>Q none H
def SG(t:TE):TO:=λσ H Q=>t σ H λx H1=>∃ i,x = .int i/\Q (some i) H1
section
variable{X:Cx}{e:Expr}{te:TE}{lo hi:Option Expr}{tl th:TO}{pos p2:Pos}
theorem SH:PO X none SF:=by
 intro pins s σ H Q I h;rw [evalPart_none];exact BP ⟨none,H,I,.none,h⟩
theorem SJ(h:PE X e te):PO X (some e) (SG te):=by
 intro pins s σ H Q I hw;rw [evalPart_some];refine aI (h pins s σ H _ I hw) λu s1 ⟨x,H1,I1,r1,q1⟩=>?_;obtain⟨i,rfl,q⟩:=q1;obtain⟨t,rfl⟩:=r1;exact⟨some i,H1,I1,.int i t,q⟩
def yG(X:Cx)(r:V->Option Int->Option Int->Hp->VK->Prop):Prop:=
 ∀(pins:List<|Addr×Obj) (s:Shared) (σ:St) (H:Hp) (x:V) (v vl vu:Value) (lo hi:Option Int) (sl:Addr) (Q:VK),Inv X pins σ H s->RelV x v->s.heap.IsSliceOf sl vl vu .none->IsPart vl lo->IsPart vu hi->r x lo hi H Q ->
  ∃ T id,typeLookup (.type T) "__getitem__" = pure (some<|.builtin id)/\s.TypeIs v T/\wpAny (model X.prog X.w) X.A (getItem v<|.ref sl) (EP X pins σ Q) X.xe s
def SK(r:V->Option Int->Option Int->Hp->VK->Prop)(te:TE)(tl th:TO):TE:=λσ H Q=>te σ H λx H1=>tl σ H1 λl H2=>th σ H2 λu H3=>r x l u H3 Q
theorem SL{r:V->Option Int->Option Int->Hp->VK->Prop}(hr:yG X r)(he:PE X e te)(hl:PO X lo tl)(hu:PO X hi th):PE X (.Subscript e (.Slice lo hi none p2) pos) (SK r te tl th):=by
 intro pins s σ H Q I h;refine Subscript_<|aI (he pins s σ H _ I h) λv s1 ⟨x,H1,I1,r1,q1⟩=>?_;refine wpAny_Slice<|aI (hl pins s1 σ H1 _ I1 q1) λvl s2 ⟨l,H2,I2,pl,q2⟩=>aI (hu pins s2 σ H2 _ I2 q2) λvu s3 ⟨u,H3,I3,pu,q3⟩=>?_;rw [evalPart_none];refine BP ?_;have I4:Inv X pins σ H3 {s3 with heap:=s3.heap.push {cls:= .type "slice",data:= .fields #[vl,vu,.none]}}:=I3.kept (t':=s3.toks) λb ob q=>Ai _ q;obtain⟨T,id,hT,ht,hg⟩:=hr pins {s3 with heap:=s3.heap.push {cls:= .type "slice",data:= .fields #[vl,vu,.none]}} σ H3 x v vl vu l u s3.heap.objs.size Q I4 r1 (Heap.IsSliceOf.new ..) pl pu q3;show wpAny (model X.prog X.w) X.A (subscriptTail e (.Slice lo hi none p2) v<|.ref s3.heap.objs.size) (EP X pins σ Q) X.xe {s3 with heap:=s3.heap.push {cls:= .type "slice",data:= .fields #[vl,vu,.none]}};exact tail_any (ops:=[.ref s3.heap.objs.size,v]) ht hT hg<|by with_unfolding_all rfl
def cv(xs:List V)(lo hi:Option Int):List V:=(xs.drop<|HT.fj xs.length 0 lo).take<|HT.fj xs.length xs.length hi - HT.fj xs.length 0 lo
theorem SM(xs:List V)(lo hi:Option Int):(cv xs lo hi).length<=xs.length:=by
 unfold cv;rw [Bl,Cz];omega
end
def j5(n:Nat)(i:Int):Option Nat:=if 0<=i then(if i < n then some i.toNat else none) else if -(n:Int)<=i then some (i+n).toNat else none
def eC{α:Type}(xs:List α)(i:Int):Option α:=(j5 xs.length i).bind λj=>xs[j]?
theorem II{n:Nat}{i:Int}{j:Nat}(h:j5 n i=some j):seqIndex? i n=some j/\j < n/\-(n:Int)<=i/\i < n:=by
 unfold j5 at h
 by_cases h0:0<=i
 ·rw [BL h0] at h
  by_cases h1:i < n
  ·rw [BL h1] at h;have e:i.toNat=j:=Option.some.inj h;exact⟨by rw [QT h0 h1,e],by omega,by omega,h1⟩
  ·rw [BK h1] at h;cases h
 ·rw [BK h0] at h
  by_cases h1:-(n:Int)<=i
  ·rw [BL h1] at h;have e:(i+n).toNat=j:=Option.some.inj h;exact⟨by rw [OJ (by omega) h1,e],by omega,h1,by omega⟩
  ·rw [BK h1] at h;cases h
theorem vf{α:Type}{xs:List α}{i:Int}{v:α}(h:eC xs i=some v):∃ j,seqIndex? i xs.length=some j/\xs[j]?=some v/\j < xs.length/\-(xs.length:Int)<=i/\i < xs.length:=by
 unfold eC at h;cases e:j5 xs.length i with
 | none=>rw [e] at h;cases h
 | some j=>
  rw [e] at h;obtain⟨h1,h2,h3,h4⟩:=II e;exact⟨j,h1,h,h2,h3,h4⟩
theorem j6{α:Type}{xs:List α}{j:Nat}{v:α}(h:xs[j]?=some v):eC xs (j:Int)=some v:=by
 have hj:j < xs.length:=(Ac.mp h).1;have e:j5 xs.length (j:Int)=some j:=by
  unfold j5;rw [BL (by omega),BL<|by omega];simp
 unfold eC;rw [e];exact h
def IJ(b:Expr):Prop:=∀ o i,subscripted b false o i=operate [o,i] (getItem o i)
def qU(X:Cx)(r:R2):Prop:=
 ∀(value slice:Expr) (pins:List<|Addr×Obj) (s:Shared) (σ:St) (H:Hp) (x y:V) (v u:Value) (Q:VK),Inv X pins σ H s->RelV x v->RelV y u->r x y H Q ->
  subscripted slice false v u=operate [v,u] (getItem v u)->wpAny (model X.prog X.w) X.A (subscriptTail value slice v u) (EP X pins σ Q) X.xe s
def yH(X:Cx)(id:String)(r:V->List V->Hp->VK->Prop):Prop:=
 ∀(pins:List<|Addr×Obj) (s:Shared) (σ:St) (H:Hp) (x:V) (xs:List V) (v:Value) (us:List Value) (Q:VK),Inv X pins σ H s->RelV x v->aw xs us->r x xs H Q ->
  wpAny (model X.prog X.w) X.A (call (.builtin id)<|v :: us) (EP X pins σ Q) X.xe s
section
variable{X:Cx}{a b:Expr}{ta tb:TE}{pos:Pos}
theorem SR{r:R2}(hr:qU X r)(ha:PE X a ta)(hb:PE X b tb)(hs:IJ b):PE X (.Subscript a b pos) (vb r ta tb):=by
 intro pins s σ H Q I h;exact Subscript_<|mL ha hb I h λv u s2 x y H2 I2 rx ry q=>hr a b pins s2 σ H2 x y v u Q I2 rx ry q<|hs _ _
def mV(K:PySem.W.Frag):R2:=λx y H Q=>∃ p xs i v,x = .ref p/\y = .int i/\ao K H p xs/\eC xs i=some v/\Q v H
def yI(K:PySem.W.Frag):R2:=λx y H Q=>∃ p xs i v,x = .ref p/\y = .int i/\aQ K H p xs/\eC xs i=some v/\Q v H
def yJ:R2:=λx y H Q=>∃ z i c,x = .str z/\y = .int i/\z.length<=sizeLine/\eC z.cps.toList i=some c/\Q (.str ⟨#[c]⟩) H
theorem cG:qU X (mV X.K):=by
 intro value slice pins s σ H x y v u Q I rx ry h hs;obtain⟨p,xs,i,z,rfl,rfl,hq,he,q⟩:=h;cases rx;obtain⟨t,rfl⟩:=ry;obtain⟨its,r,pl,hz⟩:=I.list hq;obtain⟨j,h1,h2,h3,h4,h5⟩:=vf he;obtain⟨w,ew,dS⟩:=r.get h2;have hl:=r.length;have hn:=mO;have fin:EP X pins σ Q w s:=⟨z,H,I,dS,q⟩
 by_cases h0:0<=i
 ·have hj:i.toNat=j:=by
   rw [QT h0 h5] at h1;exact Option.some.inj h1
  exact item_listR pl.isList h0 (by omega) (by rw [hj];simpa using ew) fin hs
 ·have hj:(i+(its.toArray.size:Int)).toNat=j:=by
   rw [OJ (by omega) h4] at h1;rw [Au,<- hl];exact Option.some.inj h1
  exact subscriptTail_builtinR (x:=w) pl.isList.typeIs slot_list_getitem.lookup
   (wpAny_getItem_list_neg (Q:=λr s'=>r=w/\EP X pins σ Q r s') pl.isList (by omega) (by rw [Au] <;> omega) (by omega) (by rw [hj];simpa using ew) ⟨rfl,fin⟩) hs
theorem cH:qU X (yI X.K):=by
 intro value slice pins s σ H x y v u Q I rx ry h hs;obtain⟨p,xs,i,z,rfl,rfl,hq,he,q⟩:=h;cases rx;obtain⟨t,rfl⟩:=ry;obtain⟨its,r,pl,hz⟩:=I.tuple hq;obtain⟨j,h1,h2,h3,h4,h5⟩:=vf he;obtain⟨w,ew,dS⟩:=r.get h2;have hl:=r.length;have hn:=mO;have fin:EP X pins σ Q w s:=⟨z,H,I,dS,q⟩;exact subscriptTail_builtinR (x:=w) pl.typeIs slot_tuple_getitem.lookup
  (getItem_tuple (j:=j) (Q:=λr s'=>r=w/\EP X pins σ Q r s') pl (by omega) (by omega) (by rw [Au,<- hl];exact h1) (by simpa using ew) ⟨rfl,fin⟩) hs
theorem IL:qU X yJ:=by
 intro value slice pins s σ H x y v u Q I rx ry h hs;obtain⟨z,i,c,rfl,rfl,hz,he,q⟩:=h;obtain⟨t,rfl⟩:=rx;obtain⟨t',rfl⟩:=ry;obtain⟨j,h1,h2,h3,h4,h5⟩:=vf he;have hl:z.cps.toList.length=z.length:=by simp [Str.length]
 rw [hl] at h1 h4 h5;have hn:=mO;exact tail_any (typeIs_str s z t) slot_str_getitem.lookup (getItem_str (c:=c) (by
  have e1:decide (i < -(2 ^ 63:Int))=false:=BR (by omega);have e2:decide (i>=2 ^ 63)=false:=BR (by omega);rw [e1,e2,Bool.or_false]) (by rw [h1];simpa using h2) ⟨.str ⟨#[c]⟩,H,I.tok _,⟨_,rfl⟩,q⟩) hs
theorem SU(its:List Value)(n j:Nat)(u:Value):Obj.mapSeq (·.setIfInBounds j u) {cls:= .type "list",data:= .seq its.toArray n}={cls:= .type "list",data:= .seq (its.set j u).toArray n}:=by
 simp [Obj.mapSeq]
theorem Inv.lst{pins:List (Addr×Obj)}{σ:St}{H:Hp}{s:Shared}{p:Addr}{xs:List V}(I:Inv X pins σ H s)(h:H p=some (.lst xs)) :
  ∃(its:List Value) (n:Nat),aw xs its/\s.heap.get? p=some {cls:= .type "list",data:= .seq its.toArray n}/\xs.length<=sizeLine:=by
 obtain⟨z,its,n,r,e⟩:=I.aD p _ h;exact⟨its,n,r,e,z⟩
theorem Inv.mW{pins:List (Addr×Obj)}{σ:St}{H:Hp}{s:Shared}{p:Addr}{xs ys:List V}{its its':List Value}{n n':Nat}{f:Obj->Obj}(I:Inv X pins σ H s)(h:H p=some (.lst xs))
  (ho:s.heap.get? p=some {cls:= .type "list",data:= .seq its.toArray n}) (hf:f {cls:= .type "list",data:= .seq its.toArray n}={cls:= .type "list",data:= .seq its'.toArray n'}) (r:aw ys its') (hz:ys.length<=sizeLine) (t:Nat) :
  Inv X pins σ (upd H p<|.lst ys) {s with heap:=s.heap.update p f,toks:=t}:=by
 have e:(s.heap.update p f).get? p=some {cls:= .type "list",data:= .seq its'.toArray n'}:=by
  rw [Em f ho (by rw [hf] <;> rfl),hf]
 refine I.write (x:=p) (e:=p) (by rw [h];trivial) (.inl rfl) (λb u hb q=>(Ch _ _<|Ne.symm hb).trans q) ⟨_,e⟩ ?_;exact⟨hz,its',n',r,e⟩
def IM:V->V->V->Hp->(Hp->Prop)->Prop:=λo i v H Q=>∃ p xs k j,o = .ref p/\i = .int k/\H p=some (.lst xs)/\j5 xs.length k=some j/\Q (upd H p<|.lst<|xs.set j v)
theorem set_list:qD X IM:=by
 intro pins s σ H o i v ov iv u Q I ro ri rv h;obtain⟨p,xs,k,j,rfl,rfl,hp,hj,q⟩:=h;cases ro;obtain⟨t,rfl⟩:=ri;obtain⟨its,n,r,ho,hz⟩:=I.lst hp;obtain⟨h1,h2,h3,h4⟩:=II hj;have hl:=r.length;have hn:=mO;have I':Inv X pins σ (upd H p<|.lst<|xs.set j v) {s with heap:=s.heap.update p (Obj.mapSeq (·.setIfInBounds j u))}:=
  I.mW hp ho (SU its n j u) (r.set rv j) (by rw [List.length_set];exact hz) s.toks
 by_cases h0:0<=k
 ·have hk:k.toNat=j:=by
   rw [QT h0 h4] at h1;exact Option.some.inj h1
  exact PySem.W.ki_setAt ho h0 (by omega) (by rw [Au,<- hl];exact h4)<|by rw [hk];exact⟨_,I',q⟩
 ·have hk:(k+(its.toArray.size:Int)).toNat=j:=by
   rw [OJ (by omega) h3] at h1;rw [Au,<- hl];exact Option.some.inj h1
  exact PySem.W.ki_setBack ho (by omega) (by rw [Au,<- hl];exact h3) (by omega)<|by rw [hk];exact⟨_,I',q⟩
theorem SV(lo hi:Option Int)(n:Nat):(sliceBounds lo hi none n).1=((HT.fj n 0 lo:Nat):Int)/\(sliceBounds lo hi none n).2.1=((HT.fj n n hi:Nat):Int)/\(sliceBounds lo hi none n).2.2=1:=by
 refine⟨?_,?_,rfl⟩
 ·cases lo with
  | none=>simp [sliceBounds,HT.fj]
  | some i=>
   simp only [sliceBounds,HT.fj,Option.getD_none,show(1:Int) > 0 by decide,CQ]
   by_cases h:i < 0
   ·simp only [h,CQ] <;> omega
   ·simp only [h,CJ] <;> omega
 ·cases hi with
  | none=>simp [sliceBounds,HT.fj]
  | some i=>
   simp only [sliceBounds,HT.fj,Option.getD_none,show(1:Int) > 0 by decide,CQ]
   by_cases h:i < 0
   ·simp only [h,CQ] <;> omega
   ·simp only [h,CJ] <;> omega
theorem SW(its:List Value)(lo hi:Option Int):slicePick its.toArray lo hi none=((its.drop<|HT.fj its.length 0 lo).take<|HT.fj its.length its.length hi - HT.fj its.length 0 lo).toArray:=by
 obtain⟨h1,h2,h3⟩:=SV lo hi its.toArray.size;unfold slicePick;rw [h1,h2,h3];simp only [sliceRange_one,pick_run,Au] <;> rfl
def yK(K:PySem.W.Frag):V->Option Int->Option Int->Hp->VK->Prop:=λx lo hi H Q=>∃ a xs,x = .ref a/\ao K H a xs/\∀ p,H p=none->Q (.ref p) (upd H p<|.lst<|cv xs lo hi)
theorem vg:yG X (yK X.K):=by
 intro pins s σ H x v vl vu lo hi sl Q I rx hs pl pu h;obtain⟨a,xs,rfl,hx,q⟩:=h;cases rx;obtain⟨its,r,ht,hz⟩:=I.list hx;have hlen:=r.length;refine⟨"list",_,slot_list_getitem.lookup,ht.isList.typeIs,?_⟩;refine wpAny_getItem_list_slice ht.isList hs pl pu .none (by simp) ?_ (by rw [Au] <;> omega);rw [SW,<- hlen];refine⟨.ref s.heap.objs.size,_,I.laid (t':=s.toks) (o:= .lst<|cv xs lo hi) (λb ob q=>Ai _ q) (Am _) ?_,rfl,q _<|I.aD.fresh<|Am _⟩;exact⟨Cl (SM xs lo hi) hz,_,0,(r.drop<|HT.fj xs.length 0 lo).take<|HT.fj xs.length xs.length hi - HT.fj xs.length 0 lo,Ba _ rfl⟩
def vh:V->Bool
 | .non=>true
 | .bl _=>true
 | .int _=>true
 | .str _=>true
 | _=>false
def dJ:V->V->Bool
 | .non,.non=>true
 | .bl a,.bl b=>a == b
 | .bl a,.int b=>(if a then 1 else 0) == b
 | .int a,.bl b=>a == (if b then 1 else 0)
 | .int a,.int b=>a == b
 | .str a,.str b=>a == b
 | _,_=>false
theorem SX{A:Around}{s:Shared}{y x:V}{u v:Value}(ry:RelV y u)(rx:RelV x v)(fy:vh y=true)(fx:vh x=true):SeqAt.EqAt A s u v (dJ y x):=by
 cases y with
 | non=>
  cases ry;cases x with
  | non=>cases rx;exact SeqAt.EqAt.same _
  | bl b=>cases rx;exact SeqAt.EqAt.none_bool b
  | int b=>obtain⟨t,rfl⟩:=rx;exact SeqAt.EqAt.none_int b t
  | str b=>obtain⟨t,rfl⟩:=rx;exact SeqAt.EqAt.none_str b t
  | _=>exact absurd (show false=true from fx) As
 | bl a=>
  cases ry;cases x with
  | non=>cases rx;exact SeqAt.EqAt.bool_none a
  | bl b=>cases rx;exact SeqAt.EqAt.bool_bool a b
  | int b=>obtain⟨t,rfl⟩:=rx;exact SeqAt.EqAt.bool_int a b t
  | str b=>obtain⟨t,rfl⟩:=rx;exact SeqAt.EqAt.bool_str a b t
  | _=>exact absurd (show false=true from fx) As
 | int a=>
  obtain⟨t',rfl⟩:=ry;cases x with
  | non=>cases rx;exact SeqAt.EqAt.int_none a t'
  | bl b=>cases rx;exact SeqAt.EqAt.int_bool a t' b
  | int b=>obtain⟨t,rfl⟩:=rx;exact SeqAt.EqAt.int_int a t' b t
  | str b=>obtain⟨t,rfl⟩:=rx;exact SeqAt.EqAt.int_str a t' b t
  | _=>exact absurd (show false=true from fx) As
 | str a=>
  obtain⟨t',rfl⟩:=ry;cases x with
  | non=>cases rx;exact SeqAt.EqAt.str_none a t'
  | bl b=>cases rx;exact SeqAt.EqAt.str_bool a t' b
  | int b=>obtain⟨t,rfl⟩:=rx;exact SeqAt.EqAt.str_int a t' b t
  | str b=>obtain⟨t,rfl⟩:=rx;exact SeqAt.EqAt.str_str a t' b t
  | _=>exact absurd (show false=true from fx) As
 | _=>exact absurd (show false=true from fy) As
theorem dU:g6 X (.builtin "len") (λxs H Q=>∃ p ys,xs=[.ref p]/\(ao X.K H p ys\/aQ X.K H p ys)/\Q (.int ys.length) H):=by
 intro pins s σ H xs us Q I r h;obtain⟨p,ys,rfl,hq,q⟩:=h;obtain⟨u,rfl,rx⟩:=vals1 r;cases rx;have hn:=mO
 rcases hq with hq | hq
 ·obtain⟨its,r',pl,hz⟩:=I.list hq;have hlen:=r'.length;exact Calls.call_len_list pl.isList (by simp only [Au] <;> omega) ⟨.int ys.length,H,I.tok _,⟨s.toks+1,by rw [Au,hlen]⟩,q⟩
 ·obtain⟨its,r',pl,hz⟩:=I.tuple hq;have hlen:=r'.length;exact len_tuple pl (by simp only [Au] <;> omega) ⟨.int ys.length,H,I.tok _,⟨s.toks+1,by rw [Au,hlen]⟩,q⟩
def pq(K:PySem.W.Frag)(T:String)(x:V)(H:Hp):Prop:=match x with
 | .str _=>T = "str"
 | .int _=>T = "int"
 | .ref p=>(T = "list"/\∃ xs,ao K H p xs)\/(T = "tuple"/\∃ o,K.lookup p=some o/\o.cls = .type "tuple"/\o.dict=none) \/
   (T = "dict"/\((∃ kvs,H p=some (.dK kvs))\/∃ kvs,H p=some (.dT kvs)))\/(T = "set"/\∃ S n,H p=some (.set S n))
 | _=>False
theorem SY{pins:List (Addr×Obj)}{σ:St}{H:Hp}{s:Shared}{T:String}{x:V}{v:Value}(I:Inv X pins σ H s)(r:RelV x v)(ty:pq X.K T x H) :
  s.TypeIs v T/\∀ a,v = .ref a->∃ ob,s.heap.get? a=some ob/\ob.dict=none:=by
 cases x with
 | str z=>
  obtain⟨t,rfl⟩:=r;cases (show T = "str" from ty);exact⟨typeIs_str s z t,λ_ e=>nomatch e⟩
 | int i=>
  obtain⟨t,rfl⟩:=r;cases (show T = "int" from ty);exact⟨typeIs_int s i t,λ_ e=>nomatch e⟩
 | ref p=>
  cases r
  rcases ty with ⟨rfl,xs,hq⟩ | ⟨rfl,o,hk,hc,hd⟩ | ⟨rfl,hk⟩ | ⟨rfl,S,n,hk⟩
  ·obtain⟨its,_,pl,_⟩:=I.list hq;refine⟨pl.isList.typeIs,λa e=>?_⟩;cases e;obtain⟨o,n,e,c,hd,_⟩:=pl;exact⟨o,e,hd⟩
  ·refine⟨⟨o,I.fe p o hk,hc⟩,λa e=>?_⟩;cases e;exact⟨o,I.fe _ o hk,hd⟩
  ·have z:∃ o,s.heap.get? p=some o/\o.ExactDict:=by
    rcases hk with ⟨kvs,hk⟩ | ⟨kvs,hk⟩
    ·obtain⟨_,_,_,_,o,_,_,e,ex,_⟩:=I.aD p _ hk;exact⟨o,e,ex⟩
    ·obtain⟨_,_,_,_,o,_,_,e,ex,_⟩:=I.aD p _ hk;exact⟨o,e,ex⟩
   obtain⟨o,e,ex⟩:=z;refine⟨⟨o,e,ex.1⟩,λa e2=>?_⟩;cases e2;exact⟨o,e,ex.2.1⟩
  ·obtain⟨o,_,_,_,e,ex,_⟩:=I.aD p _ hk;refine⟨⟨o,e,ex.1⟩,λa e2=>?_⟩;cases e2;exact⟨o,e,ex.2.1⟩
 | _=>exact False.elim ty
def SZ(K:PySem.W.Frag)(T:String)(r:V->List V->Hp->VK->Prop)(to:TE)(t:TA):TE:=λσ H Q=>to σ H λx H1=>pq K T x H1/\t σ H1 λxs H2=>r x xs H2 Q
variable{o e:Expr}{es:List Expr}{to:TE}{t:TA}{name:Str}{apos eF:Pos}{T id:String}{r:V->List V->Hp->VK->Prop}
theorem yL(pa:PlainAttrs T)(slot:Slot T name id)(qV:typeOf (.builtin id)=pure (.type "method_descriptor"))(hm:yH X id r)(ho:PE X o to)(ha:PA X (e :: es) t)
  (b8:attributeBase o name X.env (eval o X.env)=eval o X.env:=by rfl)
  (eG : ((backTo eF<|starEach (e :: es) X.env).all (λx => !x.1) && (backToKw eF<|keywordEach [] X.env).all (λx => x.1.isSome)
   && decide ((e :: es).length+([]:List Keyword).length+(if([]:List Keyword).isEmpty then 0 else 1) < 30))=true:=by rfl)
  (hline:(apos.endLine == eF.line)=true:=by rfl) (hs:starEach (e :: es) X.env=(false,eval e X.env) :: starEach es X.env:=by rfl) (bV:(backTo eF<|starEach es X.env).any (·.1)=false:=by rfl) :
  PE X (.Call (.Attribute o name apos) (e :: es) [] eF) (SZ X.K T r to t):=by
 intro pins s σ H Q I h;refine wpAny_Call_method_late b8 eG hline rfl (aI (ho pins s σ H _ I h) λv s1 ⟨x,H1,I1,r1,ty,q1⟩=>?_);obtain⟨h1,h2⟩:=SY I1 r1 ty;refine⟨T,id,pa,slot,qV,h1,h2,?_⟩;have hA:=ha eF pins s1 σ H1 _ I1 q1;rw [hs] at hA ⊢;refine IW (by show(false || (backTo eF<|starEach es X.env).any (·.1))=false;rw [bV] <;> rfl)<|Calls.evalArgs_plain ?_;exact aI hA λus s2 ⟨vs,H2,I2,r2,q2⟩=>hm pins s2 σ H2 x vs v us Q I2 r1 r2 q2
end
def qW(X:Cx)(id:String)(r:V->List V->Hp->VK->Prop):Prop:=
 ∀(pins:List<|Addr×Obj) (s:Shared) (σ:St) (H:Hp) (x:V) (xs:List V) (v:Value) (us:List Value) (Q:VK),Inv X pins σ H s->RelV x v->aw xs us->r x xs H Q ->
  wpAny (model X.prog X.w) X.A (call (.builtin id)<|v :: us) (EP X pins σ Q) X.xe s
theorem aw.hd{x:V}{xs:List V}{us:List Value}(h:aw (x :: xs) us):∃ u vs,us=u :: vs/\RelV x u/\aw xs vs:=by
 cases h with
 | cons r t=>exact⟨_,_,rfl,r,t⟩
theorem aw.nl{us:List Value}(h:aw [] us):us=[]:=by
 cases h;rfl
theorem aw.one{x:V}{us:List Value}(h:aw [x] us):∃ u,us=[u]/\RelV x u:=by
 obtain⟨u,vs,rfl,r,t⟩:=h.hd;rw [t.nl];exact⟨u,rfl,r⟩
theorem aw.two{x y:V}{us:List Value}(h:aw [x,y] us):∃ u v,us=[u,v]/\RelV x u/\RelV y v:=by
 obtain⟨u,vs,rfl,r,t⟩:=h.hd;obtain⟨v,ws,rfl,q,t⟩:=t.hd;rw [t.nl];exact⟨u,v,rfl,r,q⟩
theorem aw.zero:∀{us:List Value},aw [] us->us=[]
 | _,.nil=>rfl
theorem aw.eraseIdx:∀{xs:List V} {us:List Value} (i:Nat),aw xs us->aw (xs.eraseIdx i) (us.eraseIdx i)
 | _,_,_,.nil=> .nil
 | _,_,0,.cons _ t=>t
 | _,_,i+1,.cons r t=> .cons r<|aw.eraseIdx i t
theorem IP{α:Type}:∀(l:List α) (i:Nat),(l.eraseIdx i).length<=l.length
 | [],_=>Am _
 | _ :: _,0=>Ft _
 | _ :: r,i+1=>Nat.succ_le_succ<|IP r i
section
variable{X:Cx}{pins:List (Addr×Obj)}{σ:St}{H:Hp}{s:Shared}{l b:Addr}{xs ys zs:List V}
theorem Inv.j7{its its':List Value}{n:Nat}{f:Array Value->Array Value}{t':Nat}(I:Inv X pins σ H s)(hH:H l=some (.lst xs))
  (e:s.heap.get? l=some {cls:= .type "list",data:= .seq its.toArray n}) (hf:f its.toArray=its'.toArray) (hv:aw ys its') (hz:ys.length<=sizeLine) :
  Inv X pins σ (upd H l<|.lst ys) {s with heap:=s.heap.update l<|Obj.mapSeq f,toks:=t'}:=by
 have q:=PySem.IsL.update e f;rw [hf] at q;refine I.write (x:=l) (e:=l) (by rw [hH];exact trivial) (.inl rfl) (λb' u hb hu=>(Ch s.heap (Obj.mapSeq f)<|Ne.symm hb).trans hu) ⟨_,q⟩ ?_;exact⟨hz,its',_,hv,q⟩
theorem Inv.yM{its:List Value}{t':Nat}(I:Inv X pins σ H s)(hv:aw ys its)(hz:ys.length<=sizeLine) :
  Inv X pins σ (upd H s.heap.objs.size<|.lst ys) {s with heap:=s.heap.push {cls:= .type "list",data:= .seq its.toArray},toks:=t'}:=
 I.laid (λ_ _ q=>Ai _ q) (Am _) ⟨hz,its,0,hv,Ba _ rfl⟩
theorem Inv.fresh(I:Inv X pins σ H s):H s.heap.objs.size=none:=I.aD.fresh<|Am _
theorem Inv.fT(I:Inv X pins σ H s)(hH:H l=some (.lst xs)):xs.length<=sizeLine/\∃(its:List Value) (n:Nat),aw xs its/\xs.length=its.length/\s.heap.get? l=some {cls:= .type "list",data:= .seq its.toArray n}:=by
 obtain⟨z,its,n,r,e⟩:=I.aD l _ hH;exact⟨z,its,n,r,r.length,e⟩
theorem S0{n:Nat}(h:n<=sizeLine):Builtin.List.listTooLong n=false:=by
 unfold Builtin.List.listTooLong;exact BR<|by omega
end
section
variable{X:Cx}
def S1:V->List V->Hp->VK->Prop:=λx vs H Q=>∃ l xs y,x = .ref l/\vs=[y]/\H l=some (.lst xs)/\xs.length < sizeLine/\Q .non (upd H l<|.lst<|xs++[y])
theorem IQ:qW X "list.append" S1:=by
 intro pins s σ H x vs v us Q I rx rv h;obtain⟨l,xs,y,rfl,rfl,hH,hz,q⟩:=h;cases rx;obtain⟨u,rfl,ru⟩:=rv.one;obtain⟨z,its,n,r,hl,e⟩:=I.fT hH;refine MJ F.slot_list_append ⟨_,e,rfl⟩ F.entry_list_append (F.args_list_append_2 _ _) (PySem.list_append l its.toArray n u<|by rw [Au];omega) ⟨e,?_⟩;refine⟨.non,_,I.j7 (its':=its++[u]) hH e (by simp) (r.append<|.cons ru .nil) ?_,rfl,q⟩;rw [Ag,Ct];omega
def S3:V->List V->Hp->VK->Prop:=λx vs H Q=>∃ l b xs zs,x = .ref l/\vs=[.ref b]/\H l=some (.lst xs)/\H b=some (.lst zs)/\xs.length+zs.length<=sizeLine/\Q .non (upd H l<|.lst<|xs++zs)
theorem q7d:qW X "list.extend" S3:=by
 intro pins s σ H x vs v us Q I rx rv h;obtain⟨l,b,xs,zs,rfl,rfl,hH,hB,hz,q⟩:=h;cases rx;obtain⟨u,rfl,ru⟩:=rv.one;cases ru;obtain⟨z,its,n,r,hl,e⟩:=I.fT hH;obtain⟨z2,dk,n2,r2,qX,e2⟩:=I.fT hB;have hsz:its.toArray.size+dk.toArray.size<=sizeLine:=by rw [Au,Au];omega
 have qY:¬(!its.toArray.isEmpty && Builtin.List.listTooLong (its.toArray.size+dk.toArray.size))=true:=by
  rw [S0 hsz,Cq];exact As
 refine MJ F.slot_list_extend ⟨_,e,rfl⟩ F.entry_list_extend (F.args_list_extend_2 _ _)
  (AutoSeq1.list_extend_list_list_0 l its.toArray n b dk.toArray n2 qY (by rw [Au];omega)<|by omega) ⟨e,e2,?_⟩
 refine⟨.non,_,I.j7 (its':=its++dk) hH e (by simp) (r.append r2) ?_,rfl,q⟩;rw [Ag];omega
def S4:V->List V->Hp->VK->Prop:=λx vs H Q=>∃ l xs i k y,x = .ref l/\vs=[.int i]/\H l=some (.lst xs)/\-(2 ^ 63)<=i/\i < 2 ^ 63/\seqIndex? i xs.length=some k/\xs[k]?=some y/\Q y (upd H l<|.lst<|xs.eraseIdx k)
theorem S6:qW X "list.pop" S4:=by
 intro pins s σ H x vs v us Q I rx rv h;obtain⟨l,xs,i,k,y,rfl,rfl,hH,h1,h2,hk,hy,q⟩:=h;cases rx;obtain⟨u,rfl,ru⟩:=rv.one;obtain⟨t,rfl⟩:=ru;obtain⟨z,its,n,r,hl,e⟩:=I.fT hH;obtain⟨w,hw,dS⟩:=r.get hy;refine MJ F.slot_list_pop ⟨_,e,rfl⟩ F.entry_list_pop (F.args_list_pop_2 _ _)
  (MeetsSeq.list_pop_at l its.toArray n i t k w (fitsIndex_both h1 h2) (by rw [Au,<- hl];exact hk) (by rw [<- Bq];exact hw)<|by rw [Au];omega) ⟨e,?_⟩
 refine⟨y,_,I.j7 (its':=its.eraseIdx k) hH e ?_ (r.eraseIdx k) ?_,dS,q⟩
 ·show its.toArray.eraseIdxIfInBounds k=(its.eraseIdx k).toArray;rw [List.eraseIdxIfInBounds_toArray]
 ·have:=IP xs k;omega
def yN:R2:=λx y H Q=>∃ l b xs zs,x = .ref l/\y = .ref b/\H l=some (.lst xs)/\H b=some (.lst zs)/\xs.length+zs.length<=sizeLine/\∀ p,H p=none->Q (.ref p) (upd H p<|.lst<|xs++zs)
theorem S7:cX X (binaryOp .Add) yN:=by
 intro pins s σ H x y v u Q I rx ry h;obtain⟨l,b,xs,zs,rfl,rfl,hH,hB,hz,q⟩:=h;cases rx;cases ry;obtain⟨z,its,n,r,hl,e⟩:=I.fT hH;obtain⟨z2,dk,n2,r2,qX,e2⟩:=I.fT hB;refine PySem.P.add_list e e2 ?_ (by rw [Au,Au];omega);have ea:its.toArray++dk.toArray=(its++dk).toArray:=by simp
 rw [ea];exact⟨.ref _,_,I.yM (t':=s.toks) (r.append r2) (by rw [Ag];omega),rfl,q _ I.fresh⟩
end
section
variable{prog:Program}{w:World}{A:Around}{E:Value->Shared->Prop}{s:Shared}
end
section
variable{X:Cx}
end
end L2
namespace IT
open PySem PySem.W PySem.Calls PyProof.Rows
theorem S8{P:Params}{h:Heap}:∀(ns:List Int) (vs:List Value),WellAll P h vs (ns.map WData.int)->IntsAre vs ns:=by
 intro ns
 induction ns with
 | nil=>
  intro vs w;rw [List.map_nil] at w;cases w;exact .nil
 | cons n ns ih=>
  intro vs w;rw [Ap] at w;cases w with
  | cons a b=>
   cases a;exact .cons _ _<|ih _ b
theorem S9{l:OpenLaw}{n:Nat}(hn:l.most=some n){P:Params}{h:Heap}{args:List WData}{vals:List Value}
  (j8:l.row.toRowW.claim.pre args=true) (mX:WellAll P h vals args) :
  ∃ a vs ns,vals=[Value.ref a]/\args=[WData.list<|ns.map WData.int]/\h.get? a=some {cls:= .type "list",data:= .seq vs.toArray}/\IntsAre vs ns/\ns.length<=n:=by
 have Ta:WShape.hasAll [] args [.list .int]=true:=(pre_splitW j8).1;have hc:l.pre.holds [] {args:=args}=true:=(pre_splitW j8).2;obtain⟨d,r,rfl,h1,h2⟩:=hasAllW_cons Ta;obtain rfl:=hasAllW_nil h2;obtain⟨xs,rfl,h3⟩:=hasW_list h1;obtain⟨ns,rfl⟩:=items_int h3;have hlen:ns.length<=n:=by
  unfold OpenLaw.pre at hc;have h4:(WTm.not<|.lt (.lit<|.int (n:Int))<|.len<|.arg 0).holds [] {args:=[.list<|ns.map .int]}=true:=by
   have h4:=(holds_andW hc).1;rw [hn] at h4;exact h4
  have h5:=condW_of h4<|w_not<|w_lt w_lit<|w_len_list<|w_arg rfl;rw [Aa] at h5;refine Nat.le_of_not_lt λq=>?_;have q':(n:Int) < ((ns.length:Nat):Int):=by omega
  first
   | (rw [BW q'] at h5;exact absurd h5<|by decide)
   | (simp at h5;omega)
 cases mX with
 | cons w1 w2=>
  cases w2;cases w1 with
  | list ho fU=>exact⟨_,_,ns,rfl,rfl,ho,S8 ns _ fU,hlen⟩
theorem Tb(l:OpenLaw)(args:List WData):l.row.toRowW.claim.post args (.bool true) args=true:=
 postW_of (r:=l.row.toRowW) (X:=(true == true))
  (show WShape.has [] (.bool true) .bool=true by first | rfl | decide | simp [WShape.has,WShape.arms,WShape.armsAll])
  (show(WTm.eq .res<|.lit<|.bool true).value [] {args:=args,res:=some<|.bool true,after:=args}=some (.bool<|true == true) from w_eq_bool (w_res rfl) w_lit) rfl
theorem fk{l:OpenLaw}{n:Nat}{q:Program}{loose:List Str}{XP:(Str->Option Value)->Heap->Prop}{YP:World->Heap->Prop}{d:DefRec}
  (hn:l.most=some n) (qZ:d.params.defaults=[])
  (call : ∀ (w : World) (s₀ s₁ : Shared) (mg mb : Str → Option Value) (fa : Addr) (o : Obj) (pm cd doc : Value) (a : Addr) (vs : List Value) (ns : List Int),
   Ground q loose [] XP w s₀ mg mb s₁.heap->YP w s₁.heap ->
   s₁.heap.get? fa=some o->o.data = .func (docDef d.name d.params d.body d.scope pm cd doc)->s₁.heap.CodeRec cd d.name->mg d.name=some (.ref fa) ->
   s₁.heap.get? a=some {cls:= .type "list",data:= .seq vs.toArray}->IntsAre vs ns->ns.length<=n->s₁.gens=#[] ->
   codeAny (model l.prog w) callerA (.call (.ref fa) ⟨[.ref a],[]⟩) (λr s'=>r = .ok (.ret<|.bool true)/\OldK s₁.heap s'.heap/\s'.os=s₁.os/\AllBare s'.gens) s₁) :
  WalkO q loose XP YP l.row.toRowW d [] (λf vs=>PySem.call f vs):=by
 intro w s₀ s₁ mg mb G Y fa o pm cd doc dV kV ho hd iF hD ra hg args vals as j8 hlay hrd mX hlo;obtain rfl:dV = .none:=Dflts.none hD qZ;obtain rfl:kV = .none:=Dflts.noKw hD;obtain⟨a,vs,ns,rfl,rfl,fV,hints,hlen⟩:=S9 hn j8 mX;refine enter_call<|JL (call w s₀ s₁ mg mb fa o pm cd doc a vs ns G Y ho (fd_plain hd) iF ra fV hints hlen hg) λr s' hq=>?_;obtain⟨rfl,h2,h3,h4⟩:=hq;exact⟨.inl ⟨.bool true,.bool true,[],rfl,λ_=>rfl,.bool true,Tb l _,λ_=>⟨List.Pairwise.nil,λ_ hm=>(nomatch hm)⟩⟩,h2,h3,h4⟩
section
variable{prog:Program}{w:World}{A:Around}{E:Value->Shared->Prop}{s:Shared}{K:Frag}
end
end IT
namespace L2
open PySem PySem.Spec PyProof.Rows
theorem IU:∀{vs:List Value} {ns:List Int},IntsAre vs ns->aw (ns.map V.int) vs
 | _,_,.nil=> .nil
 | _,_,.cons n t h=> .cons ⟨t,rfl⟩<|IU h
def Only(H:Hp):Prop:=∀ b,H b=none\/∃ o xs,H b=some (.bK o<|.lst xs)
theorem Tc{P:Program}{w:World}{K:PySem.W.Frag}{mg mb:Str->Option Value}{CX:fS}{k:Nat}{fa a:Addr}{fd:FuncData}{x:Str}{sp:Sp}{s₁:Shared}{vs:List Value}{ns:List Int}
  (KX:K.In s₁.heap) (vi:s₁.heap.Ns mainGlobals mg) (hb:s₁.heap.Ns builtinsNs mb) (Td:∀ x:Str,x ≠ "__name__"->mb x=bootBuiltins x) (yO:s₁.heap.NoLimit) (hg:s₁.gens=#[])
  (ha:s₁.heap.get? a=some {cls:= .type "list",data:= .seq vs.toArray}) (hi:IntsAre vs ns) (hl:ns.length<=sizeLine) (hr:bC k callerA)
  (F:∀ base:Heap,K.In base->base.Ns mainGlobals mg->aJ P w K mg base CX k fa fd [x] sp) (rd:∀(s:Shared) (u:Value),BindsTo s fd ⟨[u],[]⟩ [(x,u)])
  (db:∀ H:Hp,Only H->ao K H a (ns.map V.int)->sp [.ref a] H (λv _=>v = .bl true) λ_ _ _=>False)
  (yP:∀ H e s',CX [] H s₁ (λ_ _ _=>False) e s'->False) :
  codeAny (model P w) callerA (.call (.ref fa) ⟨[.ref a],[]⟩) (λr s'=>r = .ok (.ret<|.bool true)/\OldK s₁.heap s'.heap/\s'.os=s₁.os/\AllBare s'.gens) s₁:=by
 have rv:=IU hi;have yQ:=hi.length;have core:∀ H:Hp,Only H->ao K H a (ns.map V.int)->cu P w H s₁.heap->(∀ b,H b≠none->b=a)->(H a≠none->K.lookup a=none) ->
   codeAny (model P w) callerA (.call (.ref fa) ⟨[.ref a],[]⟩) (λr s'=>r = .ok (.ret<|.bool true)/\OldK s₁.heap s'.heap/\s'.os=s₁.os/\AllBare s'.gens) s₁:=by
  intro H hO hS aD hA hK;have gC:∀{b:Addr} {o:Obj},s₁.heap.get? b=some o->H b=none->(d6 s₁.heap H).get? b=some o:=λe n=>QP e n;have qS:∀{b:Addr} {o:Obj} {es:Array DictEntry} {ep:Nat},s₁.heap.get? b=some o->o.data = .dict es ep->H b=none:=λ{b o es ep} e d=>by
   cases q:H b with
   | none=>rfl
   | some u=>
    have e':b=a:=hA b (by rw [q];simp);subst e';rw [ha] at e;cases e;have d':Data.seq vs.toArray _=Data.dict es ep:=d;cases d'
  have vj:∀{b:Addr} {m:Str->Option Value},s₁.heap.Ns b m->(d6 s₁.heap H).Ns b m:=λ{b m} ⟨o,es,ep,e,d,r⟩=>⟨o,es,ep,gC e<|qS e d,d,r⟩;have IY:K.In (d6 s₁.heap H):=λb o e=>gC (KX b o e)<|by
   cases q:H b with
   | none=>rfl
   | some u=>
    have e':b=a:=hA b (by rw [q];simp);subst e';rw [hK<|by rw [q];simp] at e;cases e
  have hM:Mod K mg (d6 s₁.heap H):=⟨IY,vj vi,⟨mb,vj hb,Td⟩,let ⟨mc,h1,h2⟩:=yO;⟨mc,vj h1,h2⟩⟩;have e0:jZ P w K mg (d6 s₁.heap H) callerA [] s₁ H:=⟨rfl,hM,λb o e=>QQ e,Nat.le_of_eq<|QO _ _,trivial,λb hb=>absurd (show b∈([]:List Addr) from hb) (by simp),aD,.of_eq hg⟩;refine JL ((F _ IY<|vj vi).run callerA [] s₁ H ⟨[.ref a],[]⟩ [.ref a] [.ref a] _ _ hr e0 (rd s₁<|.ref a) (.cons rfl .nil)<|db H hO hS) λr s' h=>?_;cases r with
  | error e=>exact(yP H e s' h).elim
  | ok fl=>
   cases fl with
   | next=>exact False.elim h
   | brk=>exact False.elim h
   | cont=>exact False.elim h
   | ret u=>
    obtain⟨v,H',os,bare,un,yR,r',q⟩:=h;have q':v = .bl true:=q;subst q';obtain rfl:u=Value.bool true:=r';refine⟨rfl,OldK.of_keep λb o e=>?_,os,bare⟩;cases q:H b with
    | none=>exact un.keep b o e q (by intro z;exact absurd (show b∈([]:List Addr) from z)<|by simp)<|by simp
    | some u=>
     rcases hO b with z | ⟨ob,xs,z⟩
     ·rw [q] at z;cases z
     ·have z2:=un.d3 b ob _ z;obtain⟨e1,_⟩:=aD b _ z;obtain⟨e2,_⟩:=yR b _ z2;rw [e] at e1;cases e1;exact e2
 cases hk:K.lookup a with
 | some o=>
  have e:=KX a o hk;rw [ha] at e;cases e;refine core (λ_=>none) (λ_=> .inl rfl) (.inr ⟨_,vs.toArray,_,hk,rfl,rfl,rfl,by rw [Au,yQ];exact hl,by simpa using rv⟩) (λb u z=>by have z':(none:Option HO)=some u:=z;cases z') (λb z=>absurd rfl z) λz=>absurd rfl z
 | none=>
  refine core (λb=>if b=a then some (.bK {cls:= .type "list",data:= .seq vs.toArray}<|.lst<|ns.map V.int) else none) (λb=>?_) (.inl<|.inr ⟨{cls:= .type "list",data:= .seq vs.toArray},BL rfl⟩) (λb u z=>?_) (λb z=>?_) λ_=>hk
  ·by_cases hb:b=a
   ·exact .inr ⟨_,_,BL hb⟩
   ·exact .inl<|BK hb
  ·by_cases hb:b=a
   ·have z':=(BL hb).symm.trans z;cases z';subst hb;exact⟨ha,by rw [Aa];exact hl,vs,_,rv,ha⟩
   ·have z':=(BK hb).symm.trans z;cases z'
  ·by_cases hb:b=a
   ·exact hb
   ·exact absurd (BK hb) z
theorem j9{l:PySem.W.OpenLaw}{n k:Nat}{q:Program}{loose:List Str}{XP:(Str->Option Value)->Heap->Prop}{YP:World->Heap->Prop}{d:DefRec}{K:Params->PySem.W.Frag}{CX:World->fS}{sp:World->Sp}{x:Str}
  (hn:l.most=some n) (Te:n<=sizeLine) (qZ:d.params.defaults=[]) (hr:bC k callerA)
  (hY:∀(w:World) (h:Heap),YP w h->(K w.params).In h)
  (F : ∀ (w : World) (mg : Str → Option Value) (fa : Addr) (h : Heap), (K w.params).In h → h.Ns mainGlobals mg → mg d.name = some (.ref fa) →
   ∃ fd:FuncData,(∀(s:Shared) (u:Value),BindsTo s fd ⟨[u],[]⟩ [(x,u)]) /\
    ∀ base:Heap,(K w.params).In base->base.Ns mainGlobals mg->aJ l.prog w (K w.params) mg base (CX w) k fa fd [x] (sp w))
  (db:∀(w:World) (H:Hp) (a:Addr) (ns:List Int),ns.length<=n->Only H->ao (K w.params) H a (ns.map V.int)->sp w [.ref a] H (λv _=>v = .bl true) λ_ _ _=>False)
  (yP:∀(w:World) (H:Hp) (s:Shared) (e:Value) (s':Shared),CX w [] H s (λ_ _ _=>False) e s'->False) :
  PySem.W.WalkO q loose XP YP l.row.toRowW d [] (λf vs=>PySem.call f vs):=by
 refine IT.fk hn qZ λw s₀ s₁ mg mb fa o pm cd doc a vs ns G Y ho hd iF ra fV hints hlen hg=>?_;have KX:=hY w _ Y;obtain⟨fd,hb,hF⟩:=F w mg fa _ KX G.T.g ra;exact Tc KX G.T.g G.T.b G.T.builtins G.T.nolimit hg fV hints (Cl hlen Te) hr hF hb (λH hO hS=>db w H a ns hlen hO hS) λH e s'=>yP w H s₁ e s'
def mY(s:Stmt):Arguments:=match s with
 | .FunctionDef _ a _ _ _ _ _ _ _ _=>a
 | _=>{posonlyargs:=[],args:=[],vararg:=none,kwonlyargs:=[],kw_defaults:=[],kwarg:=none,defaults:=[]}
def g7(s:Stmt):List Stmt:=match s with
 | .FunctionDef _ _ b _ _ _ _ _ _ _=>b
 | _=>[]
def bg(s:Stmt):Scope:=match s with
 | .FunctionDef _ _ _ _ _ _ sc _ _ _=>sc
 | _=>{kind:= .function,names:=[],isGenerator:=false,isCoroutine:=false}
abbrev bT:fS:=λ_ _ _ _ _ _=>False
abbrev E0:XK:=λ_ _ _=>False
theorem Tf{X:Cx}:qQ bT X E0:=λ_ _ _ _ _ _ _ h=>h.elim
structure bX(K:PySem.W.Frag)(x qual:Str)(st:Stmt)(f:Addr)(fd:FuncData):Prop where
 ex:∃(oc:Value) (od:Option Addr) (kV doc pm:Value) (an:Option Addr) (bN ct:Value) (j4:Array<|Option Value),
  fd=PySem.W.fnOf x qual (mY st) (g7 st) (bg st) .none kV doc pm an bN ct/\K.lookup f=some ⟨oc,od,.func fd,j4⟩/\PySem.W.codeIn K bN qual=true
 kp:PySem.W.keepIn K (.ref f)=true
section
variable{P:Program}{w:World}{K:PySem.W.Frag}{mg:Str->Option Value}{base:Heap}
theorem bX.ok{x qual:Str}{st:Stmt}{f:Addr}{fd:FuncData}{N ps:List Str}{k:Nat}{sp:Sp}(F:bX K x qual st f fd)(S:au N ps<|bg st)(len:∀ vs H Q E,sp vs H Q E->vs.length=ps.length)
  (di : ∀ (bN : Value) (A : Around) (outer : List Env) (s : Shared) (H : Hp) (vs : List V) (Q : VK) (E : XK), bC k (A.deeper<|envOfC qual (bg st) s.heap.objs.size f bN) → sp vs H Q E →
   ∃ t,gY (fh bT P w K mg base N qual (bg st) f bN A outer s H E).o6 (g7 st) t/\t {nx:=λ_ H'=>Q .non H',rt:=Q} (start N vs) H):aJ P w K mg base bT (k+1) f fd ps sp:=by
 obtain⟨oc,od,kV,doc,pm,an,bN,ct,j4,rfl,lk,iF⟩:=F.ex;refine SA lk iF S len λA outer s H vs Q E hr db=>?_;obtain⟨t,h,q⟩:=di bN A outer s H vs Q E hr db;exact⟨t,h.o6,q⟩
theorem bX.binds{x qual:Str}{st:Stmt}{f:Addr}{fd:FuncData}{ps:List Str}(F:bX K x qual st f fd)
  (h:∀(kV doc pm:Value) (an:Option Addr) (bN ct:Value) (us:List Value),us.length=ps.length->bindArgs (PySem.W.fnOf x qual (mY st) (g7 st) (bg st) .none kV doc pm an bN ct) ⟨us,[]⟩=pure (ps.zip us)):Binds K fd ps []:=by
 obtain⟨oc,od,kV,doc,pm,an,bN,ct,j4,rfl,lk,iF⟩:=F.ex;exact .all<|h kV doc pm an bN ct
theorem Tg{x qual:Str}{st:Stmt}{f:Addr}{oc:Value}{od an:Option Addr}{j4:Array (Option Value)}{kV doc pm bN ct:Value}(l:K.lookup f=some ⟨oc,od,.func<|PySem.W.fnOf x qual (mY st) (g7 st) (bg st) .none kV doc pm an bN ct,j4⟩)
  (c:PySem.W.codeIn K bN qual=true) (k:PySem.W.keepIn K (.ref f)=true):bX K x qual st f (PySem.W.fnOf x qual (mY st) (g7 st) (bg st) .none kV doc pm an bN ct):=⟨⟨oc,od,kV,doc,pm,an,bN,ct,j4,rfl,l,c⟩,k⟩
end
section
variable{X:Cx}
end
theorem cL{A B:Prop}(h:B):if false=true then A else B:=by
 rw [BK As];exact h
theorem bW{A B:Prop}(h:A):if true=true then A else B:=by
 rw [BL rfl];exact h
theorem ka{c A B:Prop} [Decidable c] (h1:c->A) (h2:¬ c->B):if c then A else B:=by
 by_cases h:c
 ·rw [BL h];exact h1 h
 ·rw [BK h];exact h2 h
def ak(H H':Hp):Prop:=∀ b o,H b=some o->H' b=some o
theorem ak.refl(H:Hp):ak H H:=λ_ _ h=>h
theorem ak.trans{H H1 H2:Hp}(a:ak H H1)(b:ak H1 H2):ak H H2:=λc o h=>b c o<|a c o h
theorem ak.free{H H':Hp}(e:ak H H'){l:Addr}(h:H' l=Option.none):H l=Option.none:=by
 cases q:H l with
 | none=>rfl
 | some o=>
  rw [e l o q] at h;cases h
theorem ak.seq{K:PySem.W.Frag}{H H':Hp}{a:Addr}{xs:List V}(e:ak H H')(h:ao K H a xs):ao K H' a xs:=by
 rcases h with (h | ⟨o,h⟩) | h
 ·exact .inl<|.inl<|e _ _ h
 ·exact .inl<|.inr ⟨o,e _ _ h⟩
 ·exact .inr h
section
variable{κ:Type} [DecidableEq κ]
def aC(kvs:List<|κ×V)(k:κ):Option V:=(kvs.find? λkv=>decide (kv.1=k)).map (·.2)
def putK(kvs:List<|κ×V)(k:κ)(v:V):List (κ×V):=
 if(kvs.any λkv=>decide (kv.1=k))=true then kvs.map (λkv=>if kv.1=k then(kv.1,v) else kv) else kvs++[(k,v)]
theorem g8{p:κ×V}{r:List (κ×V)}{k:κ}(e:p.1=k):aC (p :: r) k=some p.2:=by simp [aC,Fo,e]
theorem g9{p:κ×V}{r:List (κ×V)}{k:κ}(e:¬ p.1=k):aC (p :: r) k=aC r k:=by simp [aC,Fo,e]
theorem pv(k:κ):∀ kvs:List<|κ×V,(kvs.any λkv=>decide (kv.1=k))=(aC kvs k).isSome
 | []=>rfl
 | p :: r=>by
  rw [RJ]
  by_cases e:p.1=k
  ·simp only [g8 e,BW e,Bool.true_or,Option.isSome_some]
  ·rw [g9 e,BR e,Bool.false_or];exact pv k r
theorem IZ(k j:κ)(y:V):∀ kvs:List<|κ×V,aC (kvs.map λkv=>if kv.1=k then(kv.1,y) else kv) j=(aC kvs j).map λx=>if j=k then y else x
 | []=>rfl
 | p :: r=>by
  have ih:=IZ k j y r;rw [Ap]
  by_cases h:p.1=k
  ·rw [BL h]
   by_cases e:p.1=j
   ·rw [g8 (p:=(p.1,y)) e,g8 e,Gs,BL<|e.symm.trans h]
   ·rw [g9 (p:=(p.1,y)) e,g9 e,ih]
  ·rw [BK h]
   by_cases e:p.1=j
   ·rw [g8 (p:=p) e,g8 e,Gs,BK λz=>h<|e.trans z]
   ·rw [g9 (p:=p) e,g9 e,ih]
theorem I0(k j:κ)(y:V):∀ kvs:List<|κ×V,aC kvs k=none->aC (kvs++[(k,y)]) j=if j=k then some y else aC kvs j
 | [],_=>by
  by_cases e:k=j
  ·rw [BL e.symm];exact g8 (p:=(k,y)) e
  ·rw [BK λz=>e z.symm];exact g9 (p:=(k,y)) e
 | p :: r,hn=>by
  rw [Fw];have hk:¬ p.1=k:=λz=>by rw [g8 z] at hn;cases hn
  rw [g9 hk] at hn;have ih:=I0 k j y r hn
  by_cases e:p.1=j
  ·rw [g8 e,g8 e,BK λz=>hk<|e.trans z]
  ·rw [g9 e,g9 e,ih]
theorem dL(kvs:List<|κ×V)(k j:κ)(y:V):aC (putK kvs k y) j=if j=k then some y else aC kvs j:=by
 unfold putK
 by_cases a:(kvs.any λkv=>decide (kv.1=k))=true
 ·rw [BL a,IZ];rw [pv] at a
  by_cases e:j=k
  ·obtain⟨x,hx⟩:=Fb.mp a;rw [BL e,e,hx,Gs,BL rfl]
  ·rw [BK e];cases aC kvs j with
   | none=>rfl
   | some x=>rw [Gs,BK e]
 ·rw [BK a];refine I0 k j y kvs ?_;rw [pv] at a;cases q:aC kvs k with
  | none=>rfl
  | some x=>rw [q] at a;exact(a rfl).elim
theorem gD(kvs:List<|κ×V)(k:κ)(v:V):(putK kvs k v).length<=kvs.length+1:=by
 unfold putK
 split
 ·rw [Aa];omega
 ·rw [Ag,Ao,Gu];omega
theorem Ja{kvs:List (κ×V)}{k:κ}(v:V)(h:aC kvs k=none):putK kvs k v=kvs++[(k,v)]:=by
 unfold putK;rw [pv,h];exact BK<|by decide
theorem dg.bR{o:Option V}{u:Option Value}(r:dg o u):o.isSome=u.isSome:=by
 cases o with
 | none=>cases u with
  | none=>rfl
  | some _=>exact(show False from r).elim
 | some _=>cases u with
  | none=>exact(show False from r).elim
  | some _=>rfl
theorem KV.val{kvs:List (κ×V)}{vs:List (κ×Value)}(r:KV kvs vs)(k:κ):dg (aC kvs k) (valueAt vs k):=by
 unfold KV at r
 induction r with
 | nil=>exact True.intro
 | @cons p q ps qs h t ih=>
  obtain⟨h1,h2⟩:=h
  by_cases e:p.1=k
  ·have e':q.1=k:=h1.symm.trans e;have b:valueAt (q :: qs) k=some q.2:=by simp [valueAt,Fo,e']
   rw [g8 e,b];exact h2
  ·have e':¬ q.1=k:=λz=>e<|h1.trans z;have b:valueAt (q :: qs) k=valueAt qs k:=by simp [valueAt,Fo,e']
   rw [g9 e,b];exact ih
theorem KV.any{kvs:List (κ×V)}{vs:List (κ×Value)}(r:KV kvs vs)(k:κ):(kvs.any λkv=>decide (kv.1=k))=vs.any λkv=>decide (kv.1=k):=by
 unfold KV at r
 induction r with
 | nil=>rfl
 | cons h t ih=>rw [RJ,RJ,ih,h.1]
theorem KV.repl{kvs:List (κ×V)}{vs:List (κ×Value)}(r:KV kvs vs)(k:κ){y:V}{u:Value}(ry:RelV y u) :
  KV (kvs.map λkv=>if kv.1=k then(kv.1,y) else kv) (vs.map λkv=>if kv.1=k then(kv.1,u) else kv):=by
 unfold KV at r ⊢
 induction r with
 | nil=>exact .nil
 | @cons p q ps qs h t ih=>
  rw [Ap,Ap];refine .cons ?_ ih;obtain⟨h1,h2⟩:=h
  by_cases e:p.1=k
  ·rw [BL e,BL<|h1.symm.trans e];exact⟨h1,ry⟩
  ·rw [BK e,BK λz=>e<|h1.trans z];exact⟨h1,h2⟩
theorem KV.put{kvs:List (κ×V)}{vs:List (κ×Value)}(r:KV kvs vs)(k:κ){y:V}{u:Value}(ry:RelV y u):KV (putK kvs k y) (stored vs k u):=by
 unfold putK stored;rw [r.any k]
 by_cases e:(vs.any λkv=>decide (kv.1=k))=true
 ·rw [BL e,BL e];exact r.repl k ry
 ·rw [BK e,BK e];exact Paired.snoc r ⟨rfl,ry⟩
theorem KV.keys{kvs:List (κ×V)}{vs:List (κ×Value)}(r:KV kvs vs):kvs.map (·.1)=vs.map (·.1):=by
 unfold KV at r
 induction r with
 | nil=>rfl
 | cons h t ih=>rw [Ap,Ap,ih,h.1]
theorem KV.length{kvs:List (κ×V)}{vs:List (κ×Value)}(r:KV kvs vs):kvs.length=vs.length:=Paired.length r
end
theorem lq{P:Program}{w:World}{k:Key}{u:Value}(r:RelV (kV k) u):(bI P w).is k u=true:=by
 cases k with
 | inl i=>obtain⟨t,e⟩:=(show ∃ t,u=Value.int i t from r);subst e;exact QE P w i t
 | inr x=>obtain⟨t,e⟩:=(show ∃ t,u=Value.str x t from r);subst e;exact QH P w x t
theorem Jb{P:Program}{w:World}:∀{ks:List Key} {us:List Value},aw (ks.map kV) us->ItemsAre (bI P w) ks us
 | [],_,r=>by rw [List.map_nil] at r;cases r;exact .nil
 | k :: ks,_,r=>by
  rw [Ap] at r;cases r with
  | cons h t=>exact .cons (lq h)<|Jb t
abbrev KT(H:Hp):List (List Key×V)->List (List Key×Addr×Value)->Prop:=Paired λp q=>p.1=q.1/\H q.2.1=some (.tup<|p.1.map kV)/\RelV p.2 q.2.2
theorem KT.val{H:Hp}{kvs:List (List Key×V)}{xs:List (List Key×Addr×Value)}(r:KT H kvs xs)(k:List Key):dg (aC kvs k) ((atKey xs k).map (·.2)):=by
 induction r with
 | nil=>exact True.intro
 | @cons p q ps qs h t ih=>
  obtain⟨h1,_,h2⟩:=h
  by_cases e:p.1=k
  ·have e':q.1=k:=h1.symm.trans e;have b:atKey (q :: qs) k=some q.2:=by simp [atKey,Fo,e']
   rw [g8 e,b];exact h2
  ·have e':¬ q.1=k:=λz=>e<|h1.trans z;have b:atKey (q :: qs) k=atKey qs k:=by simp [atKey,Fo,e']
   rw [g9 e,b];exact ih
theorem KT.repl{H:Hp}{kvs:List (List Key×V)}{xs:List (List Key×Addr×Value)}(r:KT H kvs xs)(k:List Key){y:V}{u:Value}(ry:RelV y u) :
  KT H (kvs.map λkv=>if kv.1=k then(kv.1,y) else kv) (xs.map<|putAt k u):=by
 induction r with
 | nil=>exact .nil
 | @cons p q ps qs h t ih=>
  rw [Ap,Ap];refine .cons ?_ ih;obtain⟨h1,h2,h3⟩:=h;unfold putAt
  by_cases e:p.1=k
  ·rw [BL e,BL<|h1.symm.trans e];exact⟨h1,h2,ry⟩
  ·rw [BK e,BK λz=>e<|h1.trans z];exact⟨h1,h2,h3⟩
theorem KT.put{H:Hp}{kvs:List (List Key×V)}{xs:List (List Key×Addr×Value)}(r:KT H kvs xs)(k:List Key){b:Addr}{y:V}{u:Value}(hb:H b=some (.tup<|k.map kV))(ry:RelV y u) :
  KT H (putK kvs k y) (storedH xs k b u):=by
 have e:(kvs.any λkv=>decide (kv.1=k))=(atKey xs k).isSome:=by
  rw [pv,(r.val k).bR,LC]
 unfold putK storedH;rw [e]
 by_cases q:(atKey xs k).isSome=true
 ·rw [BL q,BL q];exact r.repl k ry
 ·rw [BK q,BK q];exact Paired.snoc r ⟨rfl,hb,ry⟩
theorem KT.keeps{H H':Hp}{kvs:List (List Key×V)}{xs:List (List Key×Addr×Value)}(r:KT H kvs xs)(ht:∀ b ys,H b=some (.tup ys)->H' b=some (.tup ys)):KT H' kvs xs:=
 Paired.mE r λ_ _ z=>⟨z.1,ht _ _ z.2.1,z.2.2⟩
section
variable{P:Program}{w:World}{H:Hp}{h:Heap}{a:Addr}
theorem Jc{u:HO}(ok:cu P w H h)(e:Rd H a u):ay P w H h a u:=e.ok ok
theorem rg{kvs:List (Key×V)}(ok:cu P w H h)(e:Rd H a<|.dK kvs):kvs.length<=sizeLine/\(a == sysModules)=false/\∃ vs,KV kvs vs/\h.DictOf (bI P w) a vs:=
 show ay P w H h a (.dK kvs) from Jc ok e
theorem rh{kvs:List (Key×V)}(ok:cu P w H h)(e:H a=some (.dK kvs)):kvs.length<=sizeLine/\(a == sysModules)=false/\∃ vs,KV kvs vs/\h.DictOf (bI P w) a vs:=rg ok<|.inl e
theorem jA{ks:List Key}(ok:cu P w H h)(e:H a=some (.tup<|ks.map kV)):(tupleKind<|bI P w).is h ks a:=by
 obtain⟨_,its,r,o,h1,h2,n,h3⟩:=(show ay P w H h a (.tup<|ks.map kV) from ok a _ e);exact⟨o,its.toArray,n,h1,h2,h3,by simpa using Jb r⟩
theorem rk{kvs:List (List Key×V)}(ok:cu P w H h)(e:Rd H a<|.dT kvs):kvs.length<=sizeLine/\(a == sysModules)=false /\
  ∃ xs,KT H kvs xs/\h.DictOfH (tupleKind<|bI P w) a xs:=by
 obtain⟨z,y,xs,r,o,es,ep,h1,h2,h3,h4,h5⟩:=(show ay P w H h a (.dT kvs) from Jc ok e);refine⟨z,y,xs,r,o,es,ep,h1,h2,h3,h4,λx hx=>?_,h5⟩;have all:∀{l:List (List Key×V)} {m:List (List Key×Addr×Value)},KT H l m->∀ x∈m,(tupleKind<|bI P w).is h x.1 x.2.1:=by
  intro l m q
  induction q with
  | nil=>intro x hx;exact nomatch hx
  | @cons p q ps qs hq t ih=>
   intro x hx
   rcases Ah.mp hx with e | hx
   ·subst e;exact jA ok<|by rw [<- hq.1];exact hq.2.1
   ·exact ih x hx
 exact all r x hx
theorem Jd{kvs:List (List Key×V)}(ok:cu P w H h)(e:H a=some (.dT kvs)):kvs.length<=sizeLine/\(a == sysModules)=false /\
  ∃ xs,KT H kvs xs/\h.DictOfH (tupleKind<|bI P w) a xs:=rk ok<|.inl e
end
def bp(H:Hp)(a:Addr)(y:V)(r:Option V):Prop:=
 (∃ kvs k,Rd H a (.dK kvs)/\y=kV k/\r=aC kvs k)\/∃ kvs k b,Rd H a (.dT kvs)/\y = .ref b/\H b=some (.tup<|k.map kV)/\r=aC kvs k
def b9(H:Hp)(a:Addr)(y v:V)(H':Hp):Prop:=
 (∃ kvs k,H a=some (.dK kvs)/\y=kV k/\kvs.length < sizeLine/\H'=upd H a (.dK<|putK kvs k v)) \/
 ∃ kvs k b,H a=some (.dT kvs)/\y = .ref b/\H b=some (.tup<|k.map kV)/\kvs.length < sizeLine/\H'=upd H a (.dT<|putK kvs k v)
theorem bp.k{H:Hp}{a:Addr}{kvs:List (Key×V)}{k:Key}(e:H a=some (.dK kvs)):bp H a (kV k) (aC kvs k):= .inl ⟨kvs,k,.inl e,rfl,rfl⟩
theorem bp.t{H:Hp}{a b:Addr}{kvs:List (List Key×V)}{k:List Key}(e:H a=some (.dT kvs))(eb:H b=some (.tup<|k.map kV)):bp H a (.ref b) (aC kvs k):= .inr ⟨kvs,k,b,.inl e,rfl,eb,rfl⟩
theorem b9.k{H:Hp}{a:Addr}{kvs:List (Key×V)}{k:Key}{v:V}(e:H a=some (.dK kvs))(hl:kvs.length < sizeLine):b9 H a (kV k) v (upd H a<|.dK<|putK kvs k v):= .inl ⟨kvs,k,e,rfl,hl,rfl⟩
theorem b9.t{H:Hp}{a b:Addr}{kvs:List (List Key×V)}{k:List Key}{v:V}(e:H a=some (.dT kvs))(eb:H b=some (.tup<|k.map kV))(hl:kvs.length < sizeLine) :
  b9 H a (.ref b) v (upd H a<|.dT<|putK kvs k v):= .inr ⟨kvs,k,b,e,rfl,eb,hl,rfl⟩
section
variable{X:Cx}{pins:List (Addr×Obj)}{σ:St}{H:Hp}{s:Shared}{a:Addr}{y v:V}{u r:Value}{o:Option V}{A:Around}{E:Value->Shared->Prop}
theorem Inv.big(I:Inv X pins σ H s):sysModules < s.heap.objs.size:=by
 have h:mainGlobals < s.heap.objs.size:=(I.mod.glob.keeps I.bk).lt;exact RL (by decide) h
theorem Ti{Q:Value->Shared->Prop}(hu:A.units+1 < cLine)(I:Inv X pins σ H s)(g:bp H a y<|some v)(ry:RelV y u)(h:∀ w' s',Inv X pins σ H s'->RelV v w'->Q w' s') :
  wpAny (model X.prog X.w) A (getItem (.ref a) u) Q E s:=by
 rcases g with ⟨kvs,k,e,ey,l⟩ | ⟨kvs,k,b,e,ey,eb,l⟩
 ·subst ey;obtain⟨z,hd,vs,rel,dd⟩:=rg I.aD e;obtain⟨w',hw,dS⟩:=dg.some_of (v:=v) (o:=valueAt vs k) (by rw [l];exact rel.val k);exact wpAny_getItem_of (lq ry) dd.mapOf hw<|h w' _ (I.tok _) dS
 ·subst ey;cases (show u=Value.ref b from ry);obtain⟨z,hd,xs,rel,dd⟩:=rk I.aD e;obtain⟨w',hw,dS⟩:=dg.some_of (v:=v) (o:=(atKey xs k).map (·.2)) (by rw [l];exact rel.val k);obtain⟨p,hp,kc⟩:=Az.mp hw;refine wpAny_getItem_heap (DW hu) (jA I.aD eb) dd hp ?_;rw [kc];exact h w' _ (I.tok _) dS
theorem yS{Q:Value->Shared->Prop}(hu:A.units+1 < cLine)(I:Inv X pins σ H s)(g:bp H a y o)(ry:RelV y u)(h:∀ s',Inv X pins σ H s'->Q (.bool o.isSome) s') :
  wpAny (model X.prog X.w) A (compareOp .In u<|.ref a) Q E s:=by
 rcases g with ⟨kvs,k,e,ey,l⟩ | ⟨kvs,k,b,e,ey,eb,l⟩
 ·subst ey;obtain⟨z,hd,vs,rel,dd⟩:=rg I.aD e;refine wpAny_in_of (lq ry) hd dd.mapOf ?_;rw [<- (rel.val k).bR,<- l];exact h _<|I.tok _
 ·subst ey;cases (show u=Value.ref b from ry);obtain⟨z,hd,xs,rel,dd⟩:=rk I.aD e;refine wpAny_in_heap (DW hu) (jA I.aD eb) hd dd ?_;have q:=(rel.val k).bR;rw [LC] at q;rw [<- q,<- l];exact h _<|I.tok _
theorem Tj{Q:Value->Shared->Prop}(hu:A.units+1 < cLine)(I:Inv X pins σ H s)(g:bp H a y o)(ry:RelV y u)(h:∀ s',Inv X pins σ H s'->Q (.bool (!o.isSome)) s') :
  wpAny (model X.prog X.w) A (compareOp .NotIn u<|.ref a) Q E s:=by
 rcases g with ⟨kvs,k,e,ey,l⟩ | ⟨kvs,k,b,e,ey,eb,l⟩
 ·subst ey;obtain⟨z,hd,vs,rel,dd⟩:=rg I.aD e;refine wpAny_notIn_of (lq ry) hd dd.mapOf ?_;rw [<- (rel.val k).bR,<- l];exact h _<|I.tok _
 ·subst ey;cases (show u=Value.ref b from ry);obtain⟨z,hd,xs,rel,dd⟩:=rk I.aD e;refine wpAny_notIn_heap (DW hu) (jA I.aD eb) hd dd ?_;have q:=(rel.val k).bR;rw [LC] at q;rw [<- q,<- l];exact h _<|I.tok _
theorem lu{h':Heap}{t':Nat}{ob:HO}(I:Inv X pins σ H s)(mu:qp<|H a)(hs:Heap.SameBut a s.heap h')(he:∃ q,h'.get? a=some q)(new:ay X.prog X.w (upd H a ob) h' a ob) :
  Inv X pins σ (upd H a ob) {s with heap:=h',toks:=t'}:=
 I.write (x:=a) (e:=a) mu (.inl rfl) (λb q hb z=>(hs.2 b hb).trans z) he new
theorem yT{P:Program}{w:World}{H':Hp}{h':Heap}{kvs:List (Key×V)}{vs:List (Key×Value)}(z:kvs.length<=sizeLine)(hd:(a == sysModules)=false)(rel:KV kvs vs)(dd:h'.DictOf (bI P w) a vs) :
  ay P w H' h' a (.dK kvs):=⟨z,hd,vs,rel,dd⟩
theorem Tl{H':Hp}{Q:Unit->Shared->Prop}(hu:A.units+1 < cLine)(I:Inv X pins σ H s)(g:b9 H a y v H')(ry:RelV y u)(rv:RelV v r)(h:∀ s',Inv X pins σ H' s'->Q () s') :
  wpAny (model X.prog X.w) A (setItem (.ref a) u r) Q E s:=by
 rcases g with ⟨kvs,k,e,ey,l,eH⟩ | ⟨kvs,k,b,e,ey,eb,l,eH⟩
 ·subst ey eH;obtain⟨z,hd,vs,rel,dd⟩:=rh I.aD e;have hz:vs.length<=sizeLine:=by rw [<- rel.length];exact z
  have hl:(putK kvs k v).length<=sizeLine:=by have:=gD kvs k v;omega
  refine wpAny_setItem_pairs (hsz:=hz) (lq ry) dd λh' iH hs=>h _ ?_;have he:∃ q,h'.get? a=some q:=let ⟨q,_,_,hq,_⟩:=iH;⟨q,hq⟩
  exact lu I (by rw [e];exact True.intro) hs he<|yT hl hd (rel.put k rv) iH
 ·subst ey eH;cases (show u=Value.ref b from ry);obtain⟨z,hd,xs,rel,dd⟩:=Jd I.aD e;have hz:xs.length<=sizeLine:=by rw [<- Paired.length rel];exact z
  have hl:(putK kvs k v).length<=sizeLine:=by have:=gD kvs k v;omega
  refine wpAny_setItem_heap (hsz:=hz) (DW hu) (jA I.aD eb) dd λh' iH hs=>h _ ?_;obtain⟨q,es,ep,hq,h2,h3,h4,_,h5⟩:=iH;refine lu I (by rw [e];exact True.intro) hs ⟨q,hq⟩ ⟨hl,hd,_,(rel.put k eb rv).keeps λc ys ec=>?_,q,es,ep,hq,h2,h3,h4,h5⟩;rw [ax<|cr ec e λz=>nomatch z];exact ec
end
section
variable{X:Cx}{pins:List (Addr×Obj)}{σ:St}{H:Hp}{s:Shared}{a:Addr}{kvs:List (Key×V)}{k:Key}{u:Value}{A:Around}{E:Value->Shared->Prop}
end
def mZ(i:Expr):Prop:=∀ ov iv,subscripted i false ov iv=operate [ov,iv] (getItem ov iv)
theorem Tq{prog:Program}{w:World}{A:Around}{E:Value->Shared->Prop}{s:Shared}{env:Env}{value slice:Expr}{pos:Pos}{T id:String}{Q:Value->Shared->Prop}
  (hl:typeLookup (.type T) "__getitem__" = pure (some<|.builtin id)) (hs:mZ slice)
  (h:wpAny (model prog w) A (eval value env) (λo s₁=>wpAny (model prog w) A (eval slice env) (λi s₂=>s₂.TypeIs o T/\wpAny (model prog w) A (getItem o i) Q E s₂) E s₁) E s) :
  wpAny (model prog w) A (eval (.Subscript value slice pos) env) Q E s:=by
 refine Subscript_<|CN h (λo s₁ h₁=>CN h₁ (λi s₂ h₂=>?_) λ_ _ x=>x) λ_ _ x=>x;obtain⟨hT,h₂⟩:=h₂;unfold subscriptTail;refine BJ ?_;rw [getitemInPython_of_ne hT.not_modules];refine BJ<|HN hT hl ?_;have fin:wpAny (model prog w) A (subscripted slice false o i) (λr s₃=>wpAny (model prog w) A (letTemporaryGo value o r >>= λ_=>pure r) Q E s₃) E s₂:=by
  rw [hs o i];exact wpAny_operating<|CN h₂ (λr s₃ h₃=>BJ<|wpAny_letTemporaryGo<|BP h₃) λ_ _ x=>x
 first
  | exact BP<|BJ fin
  | exact BJ<|BP<|BJ fin
  | exact BJ fin
theorem Tr{X:Cx}{pins:List (Addr×Obj)}{σ:St}{H:Hp}{s:Shared}{a:Addr}{y:V}{o:Option V}(I:Inv X pins σ H s)(g:bp H a y o):s.TypeIs (.ref a) "dict":=by
 rcases g with ⟨kvs,k,e,_,_⟩ | ⟨kvs,k,b,e,_,_,_⟩
 ·obtain⟨_,_,vs,_,dd⟩:=rg I.aD e;exact dd.typeIs
 ·obtain⟨_,_,xs,_,dd⟩:=rk I.aD e;exact dd.typeIs
def Ts(td ty:TE):TE:=λσ H Q=>td σ H λx H1=>ty σ H1 λy H2=>∃ a v,x = .ref a/\bp H2 a y (some v)/\Q v H2
def yU(ty td:TE):TE:=λσ H Q=>ty σ H λy H1=>td σ H1 λx H2=>∃ a o,x = .ref a/\bp H2 a y o/\Q (.bl o.isSome) H2
def Tv(ty td:TE):TE:=λσ H Q=>ty σ H λy H1=>td σ H1 λx H2=>∃ a o,x = .ref a/\bp H2 a y o/\Q (.bl (!o.isSome)) H2
def Tw(td ty tv:TE):TS:=λD σ H=>tv σ H λv H1=>td σ H1 λx H2=>ty σ H2 λy H3=>∃ a H4,x = .ref a/\b9 H3 a y v H4/\D.nx σ H4
section
variable{X:Cx}{o i e value:Expr}{pos pos' iX:Pos}{td ty tv:TE}
theorem Tx(hu:X.A.units+1 < cLine)(ho:PE X o td)(hi:PE X i ty)(hs:mZ i):PE X (.Subscript o i pos) (Ts td ty):=by
 intro pins s σ H Q I h;refine Tq PySem.F.slot_dict_getitem.lookup hs<|aI (ho pins s σ H _ I h) λu s1 ⟨x,H1,I1,rx,q1⟩=>aI (hi pins s1 σ H1 _ I1 q1) λiv s2 ⟨y,H2,I2,ry,a,v,ex,g,q2⟩=>?_;subst ex;obtain rfl:u=Value.ref a:=rx;exact⟨Tr I2 g,Ti hu I2 g ry λw' s3 I3 dS=>⟨v,H2,I3,dS,q2⟩⟩
theorem Tz(hu:X.A.units+1 < cLine)(hi:PE X i ty)(ho:PE X o td):PC X .In i o (yU ty td):=by
 intro pins s σ H Q I h;refine aI (hi pins s σ H _ I h) λiv s1 ⟨y,H1,I1,ry,q1⟩=>aI (ho pins s1 σ H1 _ I1 q1) λu s2 ⟨x,H2,I2,rx,a,ov,ex,g,q2⟩=>?_;subst ex;obtain rfl:u=Value.ref a:=rx;exact yS hu I2 g ry λs3 I3=>⟨.bl ov.isSome,H2,I3,rfl,q2⟩
theorem TB(hu:X.A.units+1 < cLine)(hi:PE X i ty)(ho:PE X o td):PC X .NotIn i o (Tv ty td):=by
 intro pins s σ H Q I h;refine aI (hi pins s σ H _ I h) λiv s1 ⟨y,H1,I1,ry,q1⟩=>aI (ho pins s1 σ H1 _ I1 q1) λu s2 ⟨x,H2,I2,rx,a,ov,ex,g,q2⟩=>?_;subst ex;obtain rfl:u=Value.ref a:=rx;exact Tj hu I2 g ry λs3 I3=>⟨.bl (!ov.isSome),H2,I3,rfl,q2⟩
theorem TC(hu:X.A.units+1 < cLine)(ho:PE X o td)(hi:PE X i ty)(hv:PE X value tv)(hs:swapsWith value (some<|.Subscript o i pos') pos.line X.env=pure false) :
  PS X (.Assign [.Subscript o i pos'] value pos) (Tw td ty tv):=by
 intro pins s σ H D I h;refine wpAny_Assign_Subscript (aI (hv pins s σ H _ I h) λr s1 ⟨v,H1,I1,rv,q1⟩=>aI (ho pins s1 σ H1 _ I1 q1) λu s2 ⟨x,H2,I2,rx,q2⟩=>aI (hi pins s2 σ H2 _ I2 q2) λiv s3 ⟨y,H3,I3,ry,a,H4,ex,g,q3⟩=>?_) hs;subst ex;obtain rfl:u=Value.ref a:=rx;exact Tl hu I3 g ry rv λs4 I4=>⟨σ,H4,I4,q3⟩
end
theorem Je{P:Program}{w:World}{H:Hp}(h:Heap)(hb:sysModules < h.objs.size):ay P w H (h.push {cls:= .type "dict",data:= .dict #[]}) h.objs.size (.dK []):=
 ⟨Bo _,beq_eq_false_iff_ne.mpr<|Ne.symm<|Bx hb,[],.nil,Heap.DictOf.new h⟩
theorem yV{P:Program}{w:World}{H:Hp}(h:Heap)(hb:sysModules < h.objs.size):ay P w H (h.push {cls:= .type "dict",data:= .dict #[]}) h.objs.size (.dT []):=
 ⟨Bo _,beq_eq_false_iff_ne.mpr<|Ne.symm<|Bx hb,[],.nil,_,#[],0,Ba _ rfl,⟨rfl,rfl,rfl⟩,rfl,rfl,Ck⟩
def TD:TE:=λ_ H Q=>∀ p,H p=none->Q (.ref p) (upd H p<|.dK [])
def TF:TE:=λ_ H Q=>∀ p,H p=none->Q (.ref p) (upd H p<|.dT [])
section
variable{X:Cx}{pos:Pos}
theorem TH:PE X (.Dict [] [] pos) TD:=λpins s σ H Q I h=>
 wpAny_Dict_empty ⟨.ref s.heap.objs.size,_,I.laid (a:=s.heap.objs.size) (o:= .dK []) (t':=s.toks) (λ_ _ q=>Ai _ q) (Am _)<|Je s.heap I.big,rfl,h _<|I.aD.fresh<|Am _⟩
theorem TJ:PE X (.Dict [] [] pos) TF:=λpins s σ H Q I h=>
 wpAny_Dict_empty ⟨.ref s.heap.objs.size,_,I.laid (a:=s.heap.objs.size) (o:= .dT []) (t':=s.toks) (λ_ _ q=>Ai _ q) (Am _)<|yV s.heap I.big,rfl,h _<|I.aD.fresh<|Am _⟩
end
section
variable{X:Cx}{pins:List (Addr×Obj)}{σ:St}{H:Hp}{s:Shared}{a:Addr}{y d:V}{u r:Value}{o:Option V}{A:Around}{E:Value->Shared->Prop}
end
section
variable{X:Cx}{o e f:Expr}{apos eF:Pos}{td ty tx:TE}
end
section
variable{X:Cx}{pins:List (Addr×Obj)}{σ:St}{H:Hp}{s:Shared}{a:Addr}{kvs:List (Key×V)}{A:Around}{E:Value->Shared->Prop}
end
section
variable{X:Cx}{pins:List (Addr×Obj)}{σ:St}{H:Hp}{s:Shared}{a:Addr}{y:V}{u:Value}{A:Around}{E:Value->Shared->Prop}
end
section
variable{X:Cx}
end
section
variable{κ:Type} [DecidableEq κ]
theorem Jf{kvs:List (κ×V)}{k:κ}{v:V}(h:aC kvs k=some v):k∈kvs.map (·.1):=by
 have q:(kvs.any λkv=>decide (kv.1=k))=true:=by
  rw [pv,h]
  all_goals rfl
 obtain⟨p,hp,e⟩:=List.any_eq_true.mp q;exact An.mpr ⟨p,hp,CG e⟩
theorem m4:∀{l:List κ} {k:κ},l.Nodup->¬ k∈l->(l++[k]).Nodup
 | [],k,_,_=>by simp
 | a :: r,k,h,hk=>by
  obtain⟨h1,h2⟩:=Bf.mp h;show(a :: (r++[k])).Nodup;refine Bf.mpr ⟨λm=>?_,m4 h2 λm=>hk<|Ah.mpr<|Or.inr m⟩
  rcases Aq.mp m with q | q
  ·exact h1 q
  ·exact hk<|Ah.mpr<|Or.inl (Aj.mp q).symm
end
section
variable{X:Cx}{tg:Expr}
end
theorem Jg{env:Env}:∀{names:List (Str×NameKind)} {x:Str} {k':NameKind},
  (names.map λ(n,k)=>if(k == NameKind.free && env.scope.kind == .function && env.kindOf n == some .cell) then(n,NameKind.cell) else(n,k)).lookup x=some k' ->
  ∃ k,names.lookup x=some k/\(k'=k\/(k = .free/\k' = .cell))
 | [],_,_,h=>by simp at h
 | (n,k) :: r,x,k',h=>by
  have ih:=@Jg env r x k'
  change List.lookup x ((if(k == NameKind.free && env.scope.kind == .function && env.kindOf n == some .cell)=true then(n,NameKind.cell) else(n,k)) :: _)=_ at h
  cases hx:x == n with
  | true=>
   by_cases hc:(k == NameKind.free && env.scope.kind == .function && env.kindOf n == some .cell)=true
   ·rw [BL hc] at h;simp only [Dl,hx] at h;cases h;have hk:k = .free:=by
     have:=(Db _ _ ▸ (Db _ _ ▸ hc).1).1;cases k <;> first | rfl | (exact absurd this<|by decide)
    exact⟨k,by simp [Dl,hx],.inr ⟨hk,rfl⟩⟩
   ·rw [BK hc] at h;simp only [Dl,hx] at h;cases h;exact⟨k,by simp [Dl,hx],.inl rfl⟩
  | false=>
   have h2:∃ k,r.lookup x=some k/\(k'=k\/(k = .free/\k' = .cell)):=by
    by_cases hc:(k == NameKind.free && env.scope.kind == .function && env.kindOf n == some .cell)=true
    ·rw [BL hc] at h;simp only [Dl,hx] at h;exact ih h
    ·rw [BK hc] at h;simp only [Dl,hx] at h;exact ih h
   obtain⟨k2,e2,r2⟩:=h2;exact⟨k2,by simp [Dl,hx,e2],r2⟩
def cz(names:List<|Str×NameKind)(cells:List<|Str×Addr)(acc:List<|Str×Addr):List (Str×Addr):=
 names.foldl (λa x=>if x.2 == .free then(match cells.lookup x.1 with | some c=>(x.1,c) :: a | none=>a) else a) acc
theorem yW{scope:Scope}{env:Env}(h:∀ x∈scope.names,x.2 = .free->∃ c,env.cells.lookup x.1=some c):closureFor scope env=pure (cz scope.names env.cells []):=by
 have all:∀(l:List<|Str×NameKind) (acc:List<|Str×Addr),(∀ x∈l,x.2 = .free->∃ c,env.cells.lookup x.1=some c) ->
   (forIn l acc λ(x:Str×NameKind) (cs:List<|Str×Addr)=>(if x.2 == .free then(do let c <- cellOf env x.1;pure (ForInStep.yield<|(x.1,c) :: cs)) else pure (ForInStep.yield cs):Sem _))=pure (cz l env.cells acc):=by
  intro l
  induction l with
  | nil=>intro acc _;rfl
  | cons x r ih=>
   intro acc hl;rw [QD];have hr:∀ y∈r,y.2 = .free->∃ c,env.cells.lookup y.1=some c:=λy hy=>hl y<|Af _ hy;cases hk:x.2 == .free with
   | true=>
    have m5:x.2 = .free:=by
     revert hk
     cases x.2 <;> intro hk <;> first | rfl | (exact absurd hk<|by decide)
    obtain⟨c,hc⟩:=hl x Ad m5;simp only [CQ,cellOf,hc];rw [show cz (x :: r) env.cells acc=cz r env.cells ((x.1,c) :: acc) by unfold cz;rw [Dz];simp [hk,hc]];exact ih _ hr
   | false=>
    simp only [Bg,CJ];rw [show cz (x :: r) env.cells acc=cz r env.cells acc by unfold cz;rw [Dz];simp [hk]];exact ih _ hr
 have q:=all scope.names [] h;simp only [closureFor];exact(BZ (· >>= λr=>pure r) q).trans rfl
theorem yX:∀(names:List<|Str×NameKind) (cells acc:List<|Str×Addr),(∀ x c,(x,c)∈acc->cells.lookup x=some c)->∀ x c,(x,c)∈cz names cells acc->cells.lookup x=some c
 | [],_,_,h=>h
 | y :: r,cells,acc,h=>by
  have e:cz (y :: r) cells acc=cz r cells (if y.2 == .free then(match cells.lookup y.1 with | some c=>(y.1,c) :: acc | none=>acc) else acc):=rfl;rw [e];refine yX r cells _ ?_;cases hk:y.2 == .free with
  | false=>simpa using h
  | true=>
   cases hc:cells.lookup y.1 with
   | none=>simpa using h
   | some c=>
    intro x d hx;simp only [CQ] at hx
    rcases Ah.mp hx with e | hx
    ·cases e;exact hc
    ·exact h x d hx
theorem Jh:∀(names:List<|Str×NameKind) (cells acc:List<|Str×Addr) (x:Str) (c:Addr),(x,c)∈acc->(x,c)∈cz names cells acc
 | [],_,_,_,_,h=>h
 | y :: r,cells,acc,x,c,h=>by
  have e:cz (y :: r) cells acc=cz r cells (if y.2 == .free then(match cells.lookup y.1 with | some c=>(y.1,c) :: acc | none=>acc) else acc):=rfl;rw [e];refine Jh r cells _ x c ?_;cases hk:y.2 == .free with
  | false=>simpa using h
  | true=>
   cases hc:cells.lookup y.1 with
   | none=>simpa using h
   | some d=>simp only [CQ];exact Af _ h
theorem yY:∀(names:List<|Str×NameKind) (cells acc:List<|Str×Addr) (x:Str) (c:Addr),(x,NameKind.free)∈names->cells.lookup x=some c->(x,c)∈cz names cells acc
 | [],_,_,_,_,h,_=>by cases h
 | y :: r,cells,acc,x,c,h,hc=>by
  have e:cz (y :: r) cells acc=cz r cells (if y.2 == .free then(match cells.lookup y.1 with | some c=>(y.1,c) :: acc | none=>acc) else acc):=rfl;rw [e]
  rcases Ah.mp h with e2 | h
  ·subst e2;refine Jh r cells _ x c ?_;have:(NameKind.free == NameKind.free)=true:=rfl;simp only [hc,this,CQ];exact Ad
  ·exact yY r cells _ x c h hc
theorem yZ{α:Type}:∀{l:List (Str×α)} {x:Str} {c:α},(x,c)∈l->∃ d,l.lookup x=some d
 | [],_,_,h=>by cases h
 | (n,d) :: r,x,c,h=>by
  cases hx:x == n with
  | true=>exact⟨d,by simp [Dl,hx]⟩
  | false=>
   rcases Ah.mp h with e | h
   ·cases e;simp at hx
   ·obtain⟨d',e⟩:=yZ h;exact⟨d',by simp [Dl,hx,e]⟩
section
variable{prog:Program}{w:World}{A:Around}{R:Result->Shared->Prop}{s:Shared}
theorem j9h{elt target iter:Expr}{ifs:List Expr}{scope:Scope}{pos:Pos}{it acc:Value}{env:Env}(I:Nat->Shared->Prop)
  (turn : ∀ n s, I n s → wpAny (model prog w) A (pyNext it) (λr s₁ => match r with
   | none=>R (.ok .next) s₁
   | some v=>wpAny (model prog w) A (letOwnedTupleGo target it v) (λ_ s₁'=>wpAny (model prog w) A (assign target env v) (λ_ s₂=>
     wpAny (model prog w) A (forIn ifs true λc r=>if r=true then do let ok <- isTrue c env<|eval c env;pure (ForInStep.yield ok) else pure (ForInStep.yield r)) (λok s₃=>
      if ok=true then wpAny (model prog w) A (eval elt env) (λx s₄=>
       wpAny (model prog w) A (call (.builtin "list.append") [acc,x]) (λ_ s₅=>∃ m,m < n/\I m s₅) (notedBy (model prog w) A env λe s'=>R (.error e) s') s₄) (notedBy (model prog w) A env λe s'=>R (.error e) s') s₃
      else ∃ m,m < n/\I m s₃) (notedBy (model prog w) A env λe s'=>R (.error e) s') s₂) (notedBy (model prog w) A env λe s'=>R (.error e) s') s₁') (notedBy (model prog w) A env λe s'=>R (.error e) s') s₁) (notedBy (model prog w) A env λe s'=>R (.error e) s') s)
  (n:Nat) (h:I n s) :
  codeAny (model prog w) A (.compLoop (.ListComp elt [⟨target,iter,ifs,0⟩] scope pos) 0 it acc env) R s:=by
 refine codeAny_loop rfl I (λn s hI=>?_) n h;show wpAny _ A ((compTurn (.ListComp elt [⟨target,iter,ifs,0⟩] scope pos) 0 it acc env).onRaise λx=>do noteFrame x env;theTreesLotGoes x) _ _ s;refine wpAny_noted ?_;rw [compTurn_list];refine BJ<|FQ<|BJ<|CN (turn n s hI) (λr s₁ h₁=>?_) λ_ _ h'=>h';cases r with
 | none=>exact BP h₁
 | some v=>
  refine BJ<|CN h₁ (λ_ s₁' h₁'=>?_) λ_ _ h'=>h';refine BJ<|CN h₁' (λ_ s₂ h₂=>BJ<|CN h₂ (λok s₃ h₃=>?_) λ_ _ h'=>h') λ_ _ h'=>h';cases ok with
  | false=>exact BP ⟨rfl,h₃⟩
  | true=>
   exact BJ<|BJ<|CN h₃ (λx s₄ h₄=>BJ<|CN h₄ (λ_ s₅ h₅=>BP<|BP ⟨rfl,h₅⟩) λ_ _ h'=>h') λ_ _ h'=>h'
end
def TK(X:Cx)(ifs:List Expr)(t:TT):Prop:=
 ∀(pins:List<|Addr×Obj) (s:Shared) (σ:St) (H:Hp) (Q:Bool->Hp->Prop),Inv X pins σ H s->t σ H Q ->
  wpAny (model X.prog X.w) X.A (forIn ifs true λc r=>if r=true then do let ok <- isTrue c X.env<|eval c X.env;pure (ForInStep.yield ok) else pure (ForInStep.yield r)) (TP X pins σ Q) X.xe s
def y4:TT:=λ_ H Q=>Q true H
theorem TL{X:Cx}:TK X [] y4:=λ_ _ _ H _ I h=>wpAny_tests_nil ⟨H,I,h⟩
def fm(X:Cx)(N':List Str)(scope:Scope)(cl:List<|Str×Addr)(C:Addr)(s₀:Shared)(H₀:Hp)(ex:List Addr):Cx:=
 {prog:=X.prog,w:=X.w,K:=X.K,mg:=X.mg,base:=X.base,A:=X.A,N:=N',s₀:=s₀,H₀:=H₀,env:=compEnvC scope cl C X.env,outer:=X.stack,stack:=X.stack,ex:=ex,fn:=λx=>match scope.names.lookup x with | some .cell=>true | _=>false,calm:=X.calm,pn:=[],xe:=λ_ _=>False}
theorem hG{α:Type}{t:Sem α}{Q Q':α->Shared->Prop}{M:Model}{A:Around}{E:Value->Shared->Prop}{s:Shared}(h:wpAny M A t Q (λ_ _=>False) s)(hQ:∀ a s,Q a s->Q' a s):wpAny M A t Q' E s:=CN h hQ λ_ _ z=>z.elim
section
variable{X:Cx}
theorem Ji:g6 X (.builtin "isinstance") (λxs H Q=>∃ x t T b,xs=[x,.ty T]/\cR X.K H x t/\PySem.W.kitOne X.K t (.type T)=some b/\Q (.bl b) H):=by
 intro pins s σ H xs us Q I r h;obtain⟨x,t,T,b,rfl,ty,e,q⟩:=h;obtain⟨u,w',rfl,ru,dS⟩:=vals2 r;cases (show w'=Value.type T from dS);exact Sl I ru ty e λtk=>⟨.bl b,H,I.tok tk,rfl,q⟩
theorem TR:cX X (binaryOp .Mult) (λx y H Q=>∃ z i,x = .str z/\y = .int i/\0<=i/\i<=100000/\z.length * i.toNat<=100000/\Q (.str<|Txt.mul z i) H):=by
 intro pins s σ H x y v u Q I rx ry h;obtain⟨z,i,rfl,rfl,h0,h1,h2,q⟩:=h;obtain⟨t,rfl⟩:=rx;obtain⟨t',rfl⟩:=ry;have hsz:sizeLine=16777216:=CW;refine SB.mul ⟨?_,λh3 h4=>?_,λh3 h4=>?_⟩ λt' k=>⟨.str _,H,I.tok k,⟨_,rfl⟩,q⟩
 ·rw [BR (by omega),BR<|by omega];rfl
 ·have h5:(z.length:Int)<=100000:=by
   have h6:z.length * 1<=z.length * i.toNat:=Nat.mul_le_mul_left _ (by omega);omega
  have h7:(100000:Int)<=(2 ^ 63 - 1) / i:=by
   rw [Int.le_ediv_iff_mul_le<|by omega];have:(100000:Int) * i<=100000 * 100000:=Int.mul_le_mul_of_nonneg_left h1 (by decide);have e:(2:Int) ^ 63 - 1=9223372036854775807:=by decide
   omega
  omega
 ·unfold Builtin.Str.tooLong;rw [hsz];exact BR<|by omega
end
def isStar:Expr->Bool
 | .Starred _ _=>true
 | _=>false
def noStar(es:List Expr):Bool:=es.all λe=>!isStar e
theorem kd(e:Expr)(es:List Expr)(env:Env)(h:isStar e=false):starEach (e :: es) env=(false,eval e env) :: starEach es env:=by
 cases e <;> first | rfl | (exact absurd h<|by simp [isStar])
theorem vk(pos:Pos)(env:Env):∀ es:List Expr,noStar es=true->(backTo pos<|starEach es env).any (·.1)=false
 | [],_=>rfl
 | e :: es,h=>by
  have h':(!isStar e)=true/\noStar es=true:=by
   have:=h;unfold noStar at this ⊢;rw [List.all_cons,Db] at this;exact this
  have hs:isStar e=false:=by
   have:=h'.1;cases q:isStar e with
   | true=>rw [q] at this;cases this
   | false=>rfl
  rw [kd e es env hs];show(false || (backTo pos<|starEach es env).any (·.1))=false;rw [vk pos env es h'.2];rfl
theorem px{e:Expr}{es:List Expr}(h:noStar (e :: es)=true):isStar e=false/\noStar es=true:=by
 unfold noStar at h ⊢;rw [List.all_cons,Db] at h;refine⟨?_,h.2⟩;cases q:isStar e with
 | true=>rw [q] at h;cases h.1
 | false=>rfl
section
variable{X:Cx}{CX:fS}{k:Nat}{f C:Addr}{fd:FuncData}{ps:List Str}{sp:Sp}{j3:List V}{ds:List Value}{E:XK}{x m:Str}{p pos apos:Pos}{e o:Expr}{es:List Expr}{ta te:TE}{t:TA}{id T:String}{r:List V->Hp->VK->Prop}
theorem TU(ha:PE X e te)(hr:PA X es t)(hs:isStar e=false:=by rfl):PA X (e :: es) (Iy te t):=Sq ha hr<|kd _ _ _ hs
theorem TV(F:aJ X.prog X.w X.K X.mg X.base CX k f fd ps sp)(hr:bC k X.A)(hm:X.mg x=some (.ref f))(hk:PySem.W.keepIn X.K (.ref f)=true)(hb:Binds X.K fd ps [])(hx:qQ CX X E)
  (ha:PA X (e :: es) t) (hg:Gl X x:=by rfl) (d9:(x == ("__debug__" : Str))=false:=by decide) (hs:noStar (e :: es)=true:=by rfl):PE X (.Call (.Name x p) (e :: es) [] pos) (Iz sp [] E t):=
 Sx F hr hg hm hk hb .nil hx ha d9 (kd _ _ _ (px hs).1) (vk _ _ _ (px hs).2)
theorem y7(hc:g6 X (.builtin id) r)(hm:X.mg x=none)(hv:bootBuiltins x=some (.builtin id))(ha:PA X (e :: es) t)(hg:Gl X x:=by rfl)(hn:x ≠ "__name__":=by decide)(d9:(x == ("__debug__" : Str))=false:=by decide)
  (hs:noStar (e :: es)=true:=by rfl):PE X (.Call (.Name x p) (e :: es) [] pos) (ve r t):=
 SD hc hg hm hv ha hn d9 (kd _ _ _ (px hs).1) (vk _ _ _ (px hs).2)
theorem y8(hc:g6 X (.type T) r)(hm:X.mg x=none)(hv:bootBuiltins x=some (.type T))(ha:PA X (e :: es) t)(hg:Gl X x:=by rfl)(hn:x ≠ "__name__":=by decide)(d9:(x == ("__debug__" : Str))=false:=by decide)
  (hs:noStar (e :: es)=true:=by rfl):PE X (.Call (.Name x p) (e :: es) [] pos) (ve r t):=
 SE hc hg hm hv ha hn d9 (kd _ _ _ (px hs).1) (vk _ _ _ (px hs).2)
end
structure Ev(X:Cx)(e:Expr)(σ:St)(H:Hp)(Q:VK):Prop where
 run:∀(pins:List<|Addr×Obj) (s:Shared),Inv X pins σ H s->wpAny (model X.prog X.w) X.A (eval e X.env) (EP X pins σ Q) X.xe s
structure Et(X:Cx)(e:Expr)(σ:St)(H:Hp)(Q:Bool->Hp->Prop):Prop where
 run:∀(pins:List<|Addr×Obj) (s:Shared),Inv X pins σ H s->wpAny (model X.prog X.w) X.A (isTrue e X.env<|eval e X.env) (TP X pins σ Q) X.xe s
structure Ew(X:Cx)(e:Expr)(σ:St)(H:Hp)(Q:Bool->Hp->Prop):Prop where
 run:∀(whole:Sem Value) (pins:List<|Addr×Obj) (s:Shared),Inv X pins σ H s->wpAny (model X.prog X.w) X.A (isTrue e X.env whole) (TP X pins σ Q) X.xe s
structure Ea(X:Cx)(es:List Expr)(σ:St)(H:Hp)(Q:List V->Hp->Prop):Prop where
 run:∀(pos:Pos) (pins:List<|Addr×Obj) (s:Shared),Inv X pins σ H s->wpAny (model X.prog X.w) X.A (spliced<|backTo pos<|starEach es X.env) (AP X pins σ Q) X.xe s
structure Eo(X:Cx)(e:Option Expr)(σ:St)(H:Hp)(Q:Option Int->Hp->Prop):Prop where
 run:∀(pins:List<|Addr×Obj) (s:Shared),Inv X pins σ H s->wpAny (model X.prog X.w) X.A (evalPart e X.env) (λu s'=>∃ o H',Inv X pins σ H' s'/\IsPart u o/\Q o H') X.xe s
structure Eg(X:Cx)(e:Expr)(v:V)(σ:St)(H:Hp)(Q:St->Hp->Prop):Prop where
 run:∀(pins:List<|Addr×Obj) (s:Shared) (u:Value),Inv X pins σ H s->RelV v u->wpAny (model X.prog X.w) X.A (assign e X.env u) (λ_ s'=>∃ σ' H',Inv X pins σ' H' s'/\Q σ' H') X.xe s
structure Run(X:Cx)(l:List Stmt)(D:Ends)(σ:St)(H:Hp):Prop where
 run:∀(pins:List<|Addr×Obj) (s:Shared),Inv X pins σ H s->wpAny (model X.prog X.w) X.A (execs l X.env) (SP X pins D) X.xe s
def TX(X:Cx)(e:Expr):TE:=λσ H Q=>Ev X e σ H Q
def TY(X:Cx)(e:Expr):TT:=λσ H Q=>Et X e σ H Q
def T1(X:Cx)(e:Expr):TT:=λσ H Q=>Ew X e σ H Q
def pA(X:Cx)(es:List Expr):TA:=λσ H Q=>Ea X es σ H Q
def T2(X:Cx)(e:Option Expr):TO:=λσ H Q=>Eo X e σ H Q
def T4(X:Cx)(e:Expr):TG:=λv σ H Q=>Eg X e v σ H Q
def y9(X:Cx)(l:List Stmt):TS:=λD σ H=>Run X l D σ H
section
variable{X:Cx}{e a b c o:Expr}{es:List Expr}{st:Stmt}{rest body jB:List Stmt}{σ:St}{H:Hp}{Q:VK}{T:Bool->Hp->Prop}{L:List V->Hp->Prop}{D:Ends}{pos p p2:Pos}
theorem bG:PE X e (TX X e):=λpins s _ _ _ I h=>h.run pins s I
theorem m6:PT X e (TY X e):=λpins s _ _ _ I h=>h.run pins s I
theorem Jj:PW X e (T1 X e):=λwh pins s _ _ _ I h=>h.run wh pins s I
theorem eI:PA X es (pA X es):=λpos pins s _ _ _ I h=>h.run pos pins s I
theorem Jk{e:Option Expr}:PO X e (T2 X e):=λpins s _ _ _ I h=>h.run pins s I
theorem m7:PG X e (T4 X e):=λpins s _ _ _ u _ I r h=>h.run pins s u I r
theorem pB{l:List Stmt}:gY X l (y9 X l):=λpins s _ _ _ I h=>h.run pins s I
theorem dc{t:TE}(h1:PE X e t)(h2:t σ H Q):Ev X e σ H Q:=⟨λpins s I=>h1 pins s σ H Q I h2⟩
theorem pC{t:TT}(h1:PT X e t)(h2:t σ H T):Et X e σ H T:=⟨λpins s I=>h1 pins s σ H T I h2⟩
theorem vp{t:TT}(h1:PW X e t)(h2:t σ H T):Ew X e σ H T:=⟨λwh pins s I=>h1 wh pins s σ H T I h2⟩
theorem Jl{t:TA}(h1:PA X es t)(h2:t σ H L):Ea X es σ H L:=⟨λpos pins s I=>h1 pos pins s σ H L I h2⟩
theorem Jm{e:Option Expr}{t:TO}{R:Option Int->Hp->Prop}(h1:PO X e t)(h2:t σ H R):Eo X e σ H R:=⟨λpins s I=>h1 pins s σ H R I h2⟩
theorem zb{t:TG}{v:V}{R:St->Hp->Prop}(h1:PG X e t)(h2:t v σ H R):Eg X e v σ H R:=⟨λpins s u I r=>h1 pins s σ H v u R I r h2⟩
theorem jC{t:TS}(h1:PS X st t)(h2:t {D with nx:=λσ' H'=>Run X rest D σ' H'} σ H):Run X (st :: rest) D σ H:=⟨λpins s I=>Rm h1 pB pins s σ H D I h2⟩
theorem bn(h:D.nx σ H):Run X [] D σ H:=⟨λpins s I=>Rl pins s σ H D I h⟩
theorem Ev.mono{Q':VK}(h:Ev X e σ H Q)(f:∀ v H',Q v H'->Q' v H'):Ev X e σ H Q':=⟨λpins s I=>aI (h.run pins s I) λ_ _ ⟨v,H',I',r,q⟩=>⟨v,H',I',r,f v H' q⟩⟩
theorem Et.mono{T':Bool->Hp->Prop}(h:Et X e σ H T)(f:∀ v H',T v H'->T' v H'):Et X e σ H T':=⟨λpins s I=>aI (h.run pins s I) λv _ ⟨H',I',q⟩=>⟨H',I',f v H' q⟩⟩
theorem Ea.mono{L':List V->Hp->Prop}(h:Ea X es σ H L)(f:∀ v H',L v H'->L' v H'):Ea X es σ H L':=⟨λpos pins s I=>aI (h.run pos pins s I) λ_ _ ⟨v,H',I',r,q⟩=>⟨v,H',I',r,f v H' q⟩⟩
theorem ae(i:Nat){x:Str}{v:V}(h:Q v H)(hv:σ[i]?=some (some v):=by rfl)(hN:X.N[i]?=some x:=by rfl)(hs:yd X.env.scope x:=by first | exact Or.inl rfl | exact Or.inr (Or.inl rfl) | exact Or.inr<|Or.inr rfl)(hd:(x == ("__debug__" : Str))=false:=by decide)
  (iF:(x == ("__classdict__" : Str))=false:=by decide):Ev X (.Name x p) σ H Q:=dc (QY (i:=i) hN hs hd iF) ⟨v,hv,h⟩
theorem aF{i:Int}{j:Nat}(h:Q (.int i) H):Ev X (.Constant (.int i) j p) σ H Q:=dc (Q1) h
theorem T5{i:Bool}{j:Nat}(h:Q (.bl i) H):Ev X (.Constant (.bool i) j p) σ H Q:=dc (Q2) h
theorem vq{i:Str}{j:Nat}(h:Q (.str i) H):Ev X (.Constant (.str i) j p) σ H Q:=dc (Q3) h
theorem Jn{x:Str}(v:V){u:Value}(hm:X.mg x=none)(hv:bootBuiltins x=some u)(r:RelV v u)(h:Q v H)(hg:Gl X x:=by rfl)(hn:x ≠ "__name__":=by decide)(hd:(x == ("__debug__" : Str))=false:=by decide):Ev X (.Name x p) σ H Q:=dc (Q5 hg hm hv r hn hd) h
theorem aW{op:Operator}{r:R2}(ho:cX X (binaryOp op) r)(h:Ev X a σ H λx H1=>Ev X b σ H1 λy H2=>r x y H2 Q):Ev X (.BinOp a op b pos) σ H Q:=dc (RZ ho bG bG) h
theorem zc{op:CmpOp}{r:R2}(ho:cX X (compareOp op) r)(h:Ev X a σ H λx H1=>Ev X b σ H1 λy H2=>r x y H2 Q)(hm:behindInMarks op b=false:=by with_unfolding_all rfl):Ev X (.Compare a [op] [b] pos) σ H Q:=dc (Sb ho bG bG hm) h
theorem Ua(h:Ev X a σ H λx H1=>∃ k,x = .bl k/\Q (.bl (!k)) H1):Ev X (.UnaryOp .Not a pos) σ H Q:=dc (Rj bG) h
theorem Ub(h:Ev X a σ H λx H1=>∃ k,x = .bl k/\if k=true then Ev X (.BoolOp .And (b :: es) pos) σ H1 Q else Q (.bl false) H1):Ev X (.BoolOp .And (a :: b :: es) pos) σ H Q:=dc (Ri bG bG) h
theorem Uc{op:BoolOp}(h:Ev X a σ H Q):Ev X (.BoolOp op [a] pos) σ H Q:=dc (Rh bG) h
theorem bb{r:R2}(hr:qU X r)(h:Ev X a σ H λx H1=>Ev X b σ H1 λy H2=>r x y H2 Q)(hs:IJ b:=by intro _ _;rfl):Ev X (.Subscript a b pos) σ H Q:=dc (SR hr bG bG hs) h
theorem vt{r:V->Option Int->Option Int->Hp->VK->Prop}{lo hi:Option Expr}(hr:yG X r)(h:Ev X a σ H λx H1=>Eo X lo σ H1 λl H2=>Eo X hi σ H2 λu H3=>r x l u H3 Q):Ev X (.Subscript a (.Slice lo hi none p2) pos) σ H Q:=dc (SL hr bG Jk Jk) h
theorem vw{R:Option Int->Hp->Prop}(h:R none H):Eo X none σ H R:=Jm (SH) h
theorem vx{R:Option Int->Hp->Prop}(h:Ev X a σ H λx H1=>∃ i,x = .int i/\R (some i) H1):Eo X (some a) σ H R:=Jm (SJ bG) h
theorem aB(h:L [] H):Ea X [] σ H L:=Jl (Sn) h
theorem aq(h:Ev X e σ H λx H1=>Ea X es σ H1 λxs H2=>L (x :: xs) H2)(hs:isStar e=false:=by rfl):Ea X (e :: es) σ H L:=Jl (TU bG eI hs) h
theorem dW{k:Nat}(h:Ea X es σ H λxs H1=>xs.length<=sizeLine/\∀ p,H1 p=none->Q (.ref p) (upd H1 p<|.tup xs)):Ev X (.Tuple es k pos) σ H Q:=dc (Sr eI) h
theorem dB(h:Ea X es σ H λxs H1=>xs.length<=sizeLine/\∀ p,H1 p=none->Q (.ref p) (upd H1 p<|.lst xs)):Ev X (.List es pos) σ H Q:=dc (Ss eI) h
theorem Ud{CX:fS}{k:Nat}{f:Addr}{fd:FuncData}{ps:List Str}{sp:Sp}{E:XK}{x:Str}(F:aJ X.prog X.w X.K X.mg X.base CX k f fd ps sp)(hr:bC k X.A)(hm:X.mg x=some (.ref f))(hk:PySem.W.keepIn X.K (.ref f)=true)(hb:Binds X.K fd ps [])(hx:qQ CX X E)
  (h:Ea X (e :: es) σ H λvs H1=>sp vs H1 Q E) (hg:Gl X x:=by rfl) (d9:(x == ("__debug__" : Str))=false:=by decide) (hs:noStar (e :: es)=true:=by rfl):Ev X (.Call (.Name x p) (e :: es) [] pos) σ H Q:=
 dc (TV F hr hm hk hb hx eI hg d9 hs) (show Ea X (e :: es) σ H _ from h.mono λvs H1 q=>by rw [Bh];exact q)
theorem cZ{id:String}{r:List V->Hp->VK->Prop}{x:Str}(hc:g6 X (.builtin id) r)(hm:X.mg x=none)(hv:bootBuiltins x=some (.builtin id))(h:Ea X (e :: es) σ H λvs H1=>r vs H1 Q)(hg:Gl X x:=by rfl)(hn:x ≠ "__name__":=by decide)(d9:(x == ("__debug__" : Str))=false:=by decide)
  (hs:noStar (e :: es)=true:=by rfl):Ev X (.Call (.Name x p) (e :: es) [] pos) σ H Q:=dc (y7 hc hm hv eI hg hn d9 hs) h
theorem vy{T:String}{r:List V->Hp->VK->Prop}{x:Str}(hc:g6 X (.type T) r)(hm:X.mg x=none)(hv:bootBuiltins x=some (.type T))(h:Ea X (e :: es) σ H λvs H1=>r vs H1 Q)(hg:Gl X x:=by rfl)(hn:x ≠ "__name__":=by decide)(d9:(x == ("__debug__" : Str))=false:=by decide)
  (hs:noStar (e :: es)=true:=by rfl):Ev X (.Call (.Name x p) (e :: es) [] pos) σ H Q:=dc (y8 hc hm hv eI hg hn d9 hs) h
theorem fW{op:CmpOp}{r:R2}(ho:cX X (compareOp op) r)(h:Ev X a σ H λx H1=>Ev X b σ H1 λy H2=>r x y H2 λz H3=>∃ k,z = .bl k/\T k H3)(hm:behindInMarks op b=false:=by with_unfolding_all rfl):Et X (.Compare a [op] [b] pos) σ H T:=pC (Se ho bG bG hm) h
theorem Jo(h:Et X a σ H λk H1=>T (!k) H1):Et X (.UnaryOp .Not a pos) σ H T:=pC (Rc m6) h
theorem Ue(h:Ev X e σ H λx H1=>∃ k,x = .bl k/\T k H1)(he:∀ whole,isTrue e X.env whole=(do let v <- whole;standAt e.pos;holding [v] (truthy v)):=by intro _;rfl):Et X e σ H T:=pC (Q6 bG he) h
theorem Jp(h:Ev X e σ H λx H1=>∃ k,mN X.K x H1 k/\T k H1)(he:∀ whole,isTrue e X.env whole=(do let v <- whole;standAt e.pos;holding [v] (truthy v)):=by intro _;rfl):Et X e σ H T:=pC (Sh bG he) h
theorem zf(h:Ew X e σ H T):Et X e σ H T:=⟨λpins s I=>h.run _ pins s I⟩
theorem Jq(h:Et X a σ H λk H1=>if k=true then Ew X (.BoolOp .And (b :: es) pos) σ H1 T else T false H1):Ew X (.BoolOp .And (a :: b :: es) pos) σ H T:=vp (Ra m6 Jj) h
theorem Jr(h:Et X a σ H λk H1=>if k=true then T true H1 else Ew X (.BoolOp .Or (b :: es) pos) σ H1 T):Ew X (.BoolOp .Or (a :: b :: es) pos) σ H T:=vp (Rb m6 Jj) h
theorem Js(h:Et X a σ H T):Ew X (.BoolOp .And [a] pos) σ H T:=vp (Q8 m6) h
theorem Ug(h:Et X a σ H T):Ew X (.BoolOp .Or [a] pos) σ H T:=vp (Q9 m6) h
theorem bz(i:Nat){x:Str}{v:V}{R:St->Hp->Prop}(hN:X.N.Nodup)(h:R (σ.set i<|some v) H)(hi:X.N[i]?=some x:=by rfl)(hx:Loc X.env.scope x:=by first | exact Or.inl rfl | exact Or.inr rfl)(hf:X.fn x=true\/X.env.scope.names.lookup x=some .local:=by first | exact .inl rfl | exact .inr rfl | assumption):Eg X (.Name x p) v σ H R:=zb (Rt hN hi hx hf) h
theorem a8(i:Nat){x:Str}{pos':Pos}(hN:X.N.Nodup)(h:Ev X e σ H λv H1=>Run X rest D (σ.set i<|some v) H1)(hi:X.N[i]?=some x:=by rfl)(hx:Loc X.env.scope x:=by first | exact Or.inl rfl | exact Or.inr rfl)(hs:swapsWith e (some<|.Name x pos') pos.line X.env=pure false:=by rfl)
  (hf:X.fn x=true\/X.env.scope.names.lookup x=some .local:=by first | exact .inl rfl | exact .inr rfl | assumption):Run X (.Assign [.Name x pos'] e pos :: rest) D σ H:=jC (Rv hN hi hx bG hs hf) h
theorem hU(h:Et X c σ H λk H1=>if k=true then Run X body {D with nx:=λσ' H'=>Run X rest D σ' H'} σ H1 else Run X jB {D with nx:=λσ' H'=>Run X rest D σ' H'} σ H1):Run X (.If c body jB pos :: rest) D σ H:=jC (Rr m6 pB pB) h
theorem Jt(φ ψ:Prop)(hc:∀ T:Bool->Hp->Prop,(∀ k:Bool,(k=true->φ)->(k=false->ψ)->T k H)->Et X c σ H T)(ht:φ->Run X body {D with nx:=λσ' H'=>Run X rest D σ' H'} σ H)(hu:ψ->Run X jB {D with nx:=λσ' H'=>Run X rest D σ' H'} σ H):Run X (.If c body jB pos :: rest) D σ H:=
 hU (hc _ λk p q=>by
  cases k with
  | true=>rw [BL rfl];exact ht<|p rfl
  | false=>rw [BK As];exact hu<|q rfl)
theorem cA(h:Ev X e σ H D.rt):Run X (.Return (some e) pos :: rest) D σ H:=jC (Rq bG) h
theorem hV(h:Ev X e σ H λ_ H1=>Run X rest D σ H1)(hs:swapsWith e none pos.line X.env=pure false:=by rfl):Run X (.Expr e pos :: rest) D σ H:=jC (Ro bG hs) h
theorem Ju{tg:Expr}(h:Ev X e σ H λv H1=>Eg X tg v σ H1 λσ' H'=>Run X rest D σ' H')(hs:swapsWithSole [tg] e pos.line X.env=pure false:=by rfl)(hw:swappedStores [tg] e X.env=pure none:=by rfl)
  (h1:(assignEach [tg] X.env).map (·.2)=[assign tg X.env]:=by rfl):Run X (.Assign [tg] e pos :: rest) D σ H:=jC (Ru bG m7 hs hw h1) h
def Loop(X:Cx)(tg:Expr)(body:List Stmt)(J:It)(D:Ends)(after:St->Hp->Prop)(σ:St)(H:Hp):Prop:=
 ∃ W:Nat->Nat->St->Hp->Prop,(∃ m,W 0 m σ H)/\∀ i m σ H,W i m σ H->(J.stop i H/\after σ H)\/(J.go i H/\∃ N:St->Hp->Prop,(∀ σ' H',N σ' H'->∃ m',m' < m/\W (i+1) m' σ' H') /\
  ∀ x H',J.qI i H x H'->Eg X tg x σ H' λσ2 H2=>Run X body {D with nx:=N,ct:=N,bk:=after} σ2 H2)
theorem vz{tg iter:Expr}{wi:TI}(hi:PI X tg iter wi)(h:wi σ H λJ H1=>Loop X tg body J D (λσ' H'=>Run X rest D σ' H') σ H1)(hp:PassesOwn (model X.prog X.w) X.A X.env X.xe:=by exact HS)(hc:X.calm=true:=by rfl)
  (hs:∀ x,foldedSetIterable iter X.env x=pure x:=by intro _;rfl):Run X (.For tg iter body [] pos :: rest) D σ H:=jC (RW hp hc hi m7 pB hs) h
theorem jD{tg:Expr}{q:Pos}(hm:X.mg "range" = none)(h:Ev X a σ H λx H1=>∃ j:Int,x = .int j/\-(2 ^ 62)<=j/\j < 2 ^ 62/\Loop X tg body (lg 0 j.toNat) D (λσ' H'=>Run X rest D σ' H') σ H1)(hg:Gl X "range":=by rfl)(hp:PassesOwn (model X.prog X.w) X.A X.env X.xe:=by exact HS)(hc:X.calm=true:=by rfl)(hs:isStar a=false:=by rfl) :
  Run X (.For tg (.Call (.Name "range" q) [a] [] p) body [] pos :: rest) D σ H:=
 vz (wi:=Ij<|pA X [a]) (yt hg hm eI<|kd a [] _ hs) (show Ea X [a] σ H _ from aq (h.mono λx H1 ⟨j,e,h1,h2,h3⟩=>aB ⟨j,by rw [e],h1,h2,h3⟩) hs) hp hc (by intro _;rfl)
theorem Uh{tg iter:Expr}(h:Ev X iter σ H λx H1=>∃ a,x = .ref a/\(∃ xs,aQ X.K H1 a xs)/\Loop X tg body (qK X.K a) D (λσ' H'=>Run X rest D σ' H') σ H1)(hp:PassesOwn (model X.prog X.w) X.A X.env X.xe:=by exact HS)(hc:X.calm=true:=by rfl)
  (hs:∀ x,foldedSetIterable iter X.env x=pure x:=by intro _;rfl):Run X (.For tg iter body [] pos :: rest) D σ H:=vz (RQ bG) h hp hc hs
theorem lw{tg iter:Expr}(h:Ev X iter σ H λx H1=>∃ a,x = .ref a/\(∃ xs,ao X.K H1 a xs)/\Loop X tg body (o8 X.K a) D (λσ' H'=>Run X rest D σ' H') σ H1)(hp:PassesOwn (model X.prog X.w) X.A X.env X.xe:=by exact HS)(hc:X.calm=true:=by rfl)
  (hs:∀ x,foldedSetIterable iter X.env x=pure x:=by intro _;rfl):Run X (.For tg iter body [] pos :: rest) D σ H:=vz (lh bG) h hp hc hs
theorem jE{tg:Expr}{lo:Int}{n:Nat}{after:St->Hp->Prop}(Pv:Nat->St->Hp->Prop)(h0:Pv 0 σ H)
  (hs:∀ i σ H,i < n->Pv i σ H->Eg X tg (.int<|lo+i) σ H λσ2 H2=>Run X body {D with nx:=Pv<|i+1,ct:=Pv<|i+1,bk:=after} σ2 H2) (hd:∀ σ H,Pv n σ H->after σ H):Loop X tg body (lg lo n) D after σ H:=by
 refine⟨λi m σ H=>m=n - i/\i<=n/\Pv i σ H,⟨n,by simp,Bo _,h0⟩,?_⟩;rintro i m σ H ⟨rfl,hi,p⟩
 by_cases aM:i < n
 ·refine .inr ⟨aM,Pv<|i+1,λσ' H' p'=>⟨n - (i+1),by omega,rfl,aM,p'⟩,λx H' y=>?_⟩;obtain⟨e,y⟩:=y;subst e y;exact hs i σ _ aM p
 ·have e:i=n:=by omega
  subst e;exact .inl ⟨Am _,hd σ H p⟩
theorem Ui{tg:Expr}{at_:Addr}{xs:List V}{after:St->Hp->Prop}(Pv:Nat->St->Hp->Prop)(h0:Pv 0 σ H)(hl:∀ i σ H,i<=xs.length->Pv i σ H->aQ X.K H at_ xs)
  (hs:∀ i x σ H,xs[i]?=some x->Pv i σ H->Eg X tg x σ H λσ2 H2=>Run X body {D with nx:=Pv<|i+1,ct:=Pv<|i+1,bk:=after} σ2 H2) (hd:∀ σ H,Pv xs.length σ H->after σ H):Loop X tg body (qK X.K at_) D after σ H:=by
 refine⟨λi m σ H=>m=xs.length - i/\i<=xs.length/\Pv i σ H,⟨xs.length,by simp,Bo _,h0⟩,?_⟩;rintro i m σ H ⟨rfl,hi,p⟩;have q:=hl i σ H hi p
 by_cases aM:i < xs.length
 ·refine .inr ⟨⟨xs,xs[i],q,by simp [aM]⟩,Pv<|i+1,λσ' H' p'=>⟨xs.length - (i+1),by omega,rfl,aM,p'⟩,λx H' y=>?_⟩;obtain⟨e,y⟩:=y;subst e;exact hs i x σ _ (y xs q) p
 ·have e:i=xs.length:=by omega
  subst e;exact .inl ⟨⟨xs,q,Am _⟩,hd σ H p⟩
theorem lz{tg:Expr}{at_:Addr}{xs:List V}{after:St->Hp->Prop}(Pv:Nat->St->Hp->Prop)(h0:Pv 0 σ H)(hl:∀ i σ H,i<=xs.length->Pv i σ H->ao X.K H at_ xs)
  (hs:∀ i x σ H,xs[i]?=some x->Pv i σ H->Eg X tg x σ H λσ2 H2=>Run X body {D with nx:=Pv<|i+1,ct:=Pv<|i+1,bk:=after} σ2 H2) (hd:∀ σ H,Pv xs.length σ H->after σ H):Loop X tg body (o8 X.K at_) D after σ H:=by
 refine⟨λi m σ H=>m=xs.length - i/\i<=xs.length/\Pv i σ H,⟨xs.length,by simp,Bo _,h0⟩,?_⟩;rintro i m σ H ⟨rfl,hi,p⟩;have q:=hl i σ H hi p
 by_cases aM:i < xs.length
 ·refine .inr ⟨⟨xs,xs[i],q,by simp [aM]⟩,Pv<|i+1,λσ' H' p'=>⟨xs.length - (i+1),by omega,rfl,aM,p'⟩,λx H' y=>?_⟩;obtain⟨e,y⟩:=y;subst e;exact hs i x σ _ (y xs q) p
 ·have e:i=xs.length:=by omega
  subst e;exact .inl ⟨⟨xs,q,Am _⟩,hd σ H p⟩
theorem bX.go{P:Program}{w:World}{K:PySem.W.Frag}{mg:Str->Option Value}{base:Heap}{x qual:Str}{st:Stmt}{f:Addr}{fd:FuncData}{N ps:List Str}{k:Nat}{sp:Sp}(F:bX K x qual st f fd)(S:au N ps<|bg st)(len:∀ vs H Q E,sp vs H Q E->vs.length=ps.length)
  (di : ∀ (bN : Value) (A : Around) (outer : List Env) (s : Shared) (H : Hp) (vs : List V) (Q : VK) (E : XK), bC k (A.deeper<|envOfC qual (bg st) s.heap.objs.size f bN) → sp vs H Q E →
   Run (fh bT P w K mg base N qual (bg st) f bN A outer s H E).o6 (g7 st) {nx:=λ_ H'=>Q .non H',rt:=Q} (start N vs) H):aJ P w K mg base bT (k+1) f fd ps sp:=
 F.ok S len λbN A outer s H vs Q E hr db=>⟨_,pB,di bN A outer s H vs Q E hr db⟩
end
structure Ei(X:Cx)(ifs:List Expr)(σ:St)(H:Hp)(Q:Bool->Hp->Prop):Prop where
 run:∀(pins:List<|Addr×Obj) (s:Shared),Inv X pins σ H s ->
  wpAny (model X.prog X.w) X.A (forIn ifs true λc r=>if r=true then do let ok <- isTrue c X.env<|eval c X.env;pure (ForInStep.yield ok) else pure (ForInStep.yield r)) (TP X pins σ Q) X.xe s
def m8(X:Cx)(N':List Str)(scope:Scope)(e:Expr)(σ:St)(H:Hp)(Q:VK):Prop:=∀ cl C s₀ H₀ ex,Ev (fm X N' scope cl C s₀ H₀ ex) e σ H Q
def m9(X:Cx)(N':List Str)(scope:Scope)(e:Expr)(v:V)(σ:St)(H:Hp)(Q:St->Hp->Prop):Prop:=∀ cl C s₀ H₀ ex,Eg (fm X N' scope cl C s₀ H₀ ex) e v σ H Q
def ng(X:Cx)(N':List Str)(scope:Scope)(ifs:List Expr)(σ:St)(H:Hp)(Q:Bool->Hp->Prop):Prop:=∀ cl C s₀ H₀ ex,Ei (fm X N' scope cl C s₀ H₀ ex) ifs σ H Q
def iY(X:Cx)(N':List Str)(scope:Scope)(tg:Expr)(ifs:List Expr)(elt:Expr)(J:It)(D:Addr)(after:Hp->Prop)(σ:St)(H:Hp):Prop:=
 ∃ W:Nat->Nat->St->Hp->Prop,(∃ m,W 0 m σ H)/\∀ i m σ' H',W i m σ' H' ->
  (J.stop i H' ∧ after H') ∨ (J.go i H' ∧ ∃ N : St → Hp → Prop, (∀ σ' H', N σ' H' → ∃ m', m' < m ∧ W (i + 1) m' σ' H') ∧ ∀ x H2, J.qI i H' x H2 → m9 X N' scope tg x σ' H2 λσ2 H3 => ng X N' scope ifs σ2 H3 λb H4 =>
   if b=true then m8 X N' scope elt σ2 H4 λv H5=>∃ ys,H5 D=some (.lst ys)/\ys.length < sizeLine/\N σ2 (upd H5 D<|.lst<|ys++[v]) else N σ2 H4)
theorem nh:∀(names:List<|Str×NameKind) (n:Nat) (acc:List<|Str×Addr),cellsFrom n names acc=cellsFrom n names []++acc
 | [],_,_=>rfl
 | (y,k) :: r,n,acc=>by
  unfold cellsFrom
  split
  ·rw [nh r (n+1)<|(y,n) :: acc,nh r (n+1) [(y,n)],Aw];rfl
  ·exact nh r n acc
theorem rm:∀(names:List<|Str×NameKind) (n:Nat) {x:Str} {c:Addr},(x,c)∈cellsFrom n names []->(x,NameKind.cell)∈names/\n<=c
 | [],_,_,_,h=>by cases h
 | (y,k) :: r,n,x,c,h=>by
  unfold cellsFrom at h
  split at h
  ·rename_i hk;rw [nh,Aq] at h
   rcases h with h | h
   ·obtain⟨a,b⟩:=rm r (n+1) h;exact⟨Af _ a,by omega⟩
   ·cases Aj.mp h;have:k = .cell:=by cases k <;> first | rfl | exact absurd hk<|by decide
    subst this;exact⟨Ad,Am _⟩
  ·obtain⟨a,b⟩:=rm r n h;exact⟨Af _ a,b⟩
theorem Jv{names:List (Str×NameKind)}{n:Nat}{cl:List (Str×Addr)}{x:Str}{c:Addr}(h:(cellsFrom n names cl).lookup x=some c):((x,c)∈cellsFrom n names []/\n<=c)\/cl.lookup x=some c:=by
 rw [nh,KN] at h;cases e:(cellsFrom n names []).lookup x with
 | some d=>
  rw [e] at h;cases h;have hm:=CP e;exact .inl ⟨hm,(rm _ _ hm).2⟩
 | none=>
  rw [e] at h;exact .inr h
theorem Uj{names:List (Str×NameKind)}{n:Nat}{cl:List (Str×Addr)}{x:Str}(h:(x,NameKind.cell)∉names):(cellsFrom n names cl).lookup x=cl.lookup x:=by
 rw [nh,KN];cases e:(cellsFrom n names []).lookup x with
 | some d=>exact absurd (rm _ _<|CP e).1 h
 | none=>rfl
section
variable{M:Model}{A:Around}{E:Value->Shared->Prop}{s:Shared}
theorem Uk{scope:Scope}{globals:Addr}{closure:List (Str×Addr)}{qual:Str}{func:Option Addr}{code:Value}{outer:Env}{builtins:Addr}{Q:Env->Shared->Prop}
  (hQ : ∀ h', h'.Ns s.heap.objs.size (λ_ => none) → (∀ b o, s.heap.get? b = some o → h'.get? b = some o) → CellsOk h' (s.heap.objs.size + 1) (cellsFrom (s.heap.objs.size + 1) scope.names []) →
   Q (newEnv scope s.heap.objs.size globals (cellsFrom (s.heap.objs.size+1) scope.names closure) qual func code (some outer) builtins) {s with heap:=h'}) :
  wpAny M A (newFunctionEnv scope globals closure [] qual func code (some outer) builtins) Q E s:=by
 simp only [newFunctionEnv,Option.isSome_some,CQ];refine BJ<|wpAny_alloc ?_;refine BJ (wpAny_layCells _ (λname kind cells=>by cases Ul:kind == NameKind.cell <;> simp [Ul]) _ _ _ _ ?_);have ok:=cellsFrom_ok scope.names (s.heap.push {cls:= .type "dict",data:= .dict #[]}) (s.heap.objs.size+1) [] ⟨λ_ _ hm=>(nomatch hm),List.Pairwise.nil⟩ (by rw [Gz];exact Am _);rw [Gz] at ok;rw [show({s with heap:=s.heap.push {cls:= .type "dict",data:= .dict #[]}}:Shared).heap.objs.size=s.heap.objs.size+1 from Gz ..];rw [List.forIn_nil];exact BJ<|BP<|BP<|hQ _ ((Heap.Ns.new s.heap<|.type "dict").keeps<|pushCells_keeps _ _) (λb o e=>pushCells_keeps _ _ b o<|Ai _ e) ok
end
def ke(sc scope:Scope)(N N':List Str):Bool:=
 (match scope.kind with | .function=>true | _=>false) &&
 scope.names.all (λy=>match y.2 with
  | .cell=>(match scope.names.lookup y.1 with | some .cell=>true | _=>false)
  | .local=>(match scope.names.lookup y.1 with | some .local=>true | _=>false)
  | .free=>(match sc.names.lookup y.1 with | some .cell=>true | some .free=>true | _=>false) && (match scope.names.lookup y.1 with | some .free=>true | _=>false)
  | _=>true) &&
 (List.range N'.length).all λi => match N'[i]? with
  | none=>true
  | some x=>match scope.names.lookup x with
   | some .local=>decide (N.length<=i)
   | some .cell=>decide (N.length<=i)
   | some .free=>decide (N[i]?=some x)
   | _=>true
structure cb(sc scope:Scope)(N N':List Str):Prop where
 kind:scope.kind = .function
 cell:∀ y∈scope.names,y.2 = .cell->scope.names.lookup y.1=some .cell
 names:∀ y∈scope.names,y.2 = .local->scope.names.lookup y.1=some .local
 free:∀ y∈scope.names,y.2 = .free->sc.names.lookup y.1=some .cell\/sc.names.lookup y.1=some .free
 Jw:∀ y∈scope.names,y.2 = .free->scope.names.lookup y.1=some .free
 own:∀(i:Nat) x,N'[i]?=some x->scope.names.lookup x=some .local->N.length<=i
 zg:∀(i:Nat) x,N'[i]?=some x->scope.names.lookup x=some .cell->N.length<=i
 out:∀(i:Nat) x,N'[i]?=some x->scope.names.lookup x=some .free->N[i]?=some x
theorem cb.of{sc scope:Scope}{N N':List Str}(h:ke sc scope N N'=true):cb sc scope N N':=by
 unfold ke at h;rw [Db,Db] at h;obtain⟨⟨h1,h2⟩,h3⟩:=h;have nk:=List.all_eq_true.mp h2;have zh:=List.all_eq_true.mp h3;refine⟨?_,λy hy e=>?_,λy hy e=>?_,λy hy e=>?_,λy hy e=>?_,λi x hi e=>?_,λi x hi e=>?_,λi x hi e=>?_⟩
 ·revert h1;cases scope.kind <;> intro h1 <;> first | rfl | cases h1
 ·have q:=nk y hy;rw [e] at q;simp only at q
  split at q
  ·assumption
  ·cases q
 ·have q:=nk y hy;rw [e] at q;simp only at q
  split at q
  ·assumption
  ·cases q
 ·have q:=nk y hy;rw [e] at q;simp only at q;rw [Db] at q;have q:=q.1
  split at q
  ·exact .inl<|by assumption
  ·exact .inr<|by assumption
  ·cases q
 ·have q:=nk y hy;rw [e] at q;simp only at q;rw [Db] at q;have q:=q.2
  split at q
  ·assumption
  ·cases q
 ·have q:=zh i<|Br.mpr (Ac.mp hi).1;rw [hi] at q;simp only [e] at q;exact CG q
 ·have q:=zh i<|Br.mpr (Ac.mp hi).1;rw [hi] at q;simp only [e] at q;exact CG q
 ·have q:=zh i<|Br.mpr (Ac.mp hi).1;rw [hi] at q;simp only [e] at q;exact CG q
section
variable{X:Cx}{pins:List (Addr×Obj)}{σ:St}{H:Hp}{s:Shared}
theorem Um{N':List Str}{scope:Scope}{n:Nat}{fp:List Addr}{h₁:Heap}{t':Nat}{m:Str->Option Value}(I:Inv X pins σ H s)(ck:cb X.env.scope scope X.N N')(hl:N'.length=X.N.length+n)
  (vi:h₁.Ns s.heap.objs.size m) (old:∀ b o,s.heap.get? b=some o->h₁.get? b=some o) (Jx:CellsOk h₁ (s.heap.objs.size+1)<|cellsFrom (s.heap.objs.size+1) scope.names [])
  (pD:∀ b∈fp,bY X pins H b/\b < s.heap.objs.size) :
  Inv (fm X N' scope (cellsFrom (s.heap.objs.size+1) scope.names<|cz scope.names X.env.cells []) s.heap.objs.size s H fp) [] (σ++List.replicate n none) H {s with heap:=h₁,toks:=t'}:=by
 have sub:∀ x c,(cz scope.names X.env.cells []).lookup x=some c->X.env.cells.lookup x=some c:=λx c e=>yX _ _ _ (λ_ _ z=>by simp at z) x c<|CP e;have both:∀ x c,(cellsFrom (s.heap.objs.size+1) scope.names<|cz scope.names X.env.cells []).lookup x=some c->((x,c)∈cellsFrom (s.heap.objs.size+1) scope.names []/\s.heap.objs.size+1<=c)\/X.env.cells.lookup x=some c:=λx c e=>by
  rcases Jv e with z | z
  ·exact .inl z
  ·exact .inr<|sub x c z
 have lB:∀ x c,X.env.cells.lookup x=some c->c < s.heap.objs.size:=λx c e=>by
  obtain⟨v,o,ho,_⟩:=I.cell x c e;exact Ax ho
 have Uo:H s.heap.objs.size=none:=I.aD.fresh<|Am _;have kindOf:∀{x:Str} {k':NameKind},(relabel scope X.env).names.lookup x=some k'->∃ k,scope.names.lookup x=some k/\(k'=k\/(k = .free/\k' = .cell)):=λz=>Jg z;have Jy:∀ x,scope.names.lookup x=some .free->(cellsFrom (s.heap.objs.size+1) scope.names<|cz scope.names X.env.cells []).lookup x=(cz scope.names X.env.cells []).lookup x:=λx e=>Uj λhm=>by
  have:=ck.cell _ hm rfl;rw [e] at this;cases this
 have zi:∀ x,scope.names.lookup x=some .cell->∃ c,(cellsFrom (s.heap.objs.size+1) scope.names<|cz scope.names X.env.cells []).lookup x=some c:=λx e=>Fb.mp<|HD _ _ _<|.inl e;have Uq:(fm X N' scope (cellsFrom (s.heap.objs.size+1) scope.names<|cz scope.names X.env.cells []) s.heap.objs.size s H fp).Ok:=by
  refine⟨I.ok.mod,ck.kind,I.ok.glob,I.ok.blt,Am _,λx y c e1 e2=>?_,λx hx=>?_,λx c hf e=>?_,I.ok.hd,I.ok.frames,.inl rfl,λb hb=>⟨Bx (pD b hb).2,λx c e=>?_⟩,
   I.bs,Cl I.ok.k4 I.sz,λb o e hb=>?_,λb hb hf=>?_,I.stack,I.gu⟩
  ·rcases both x c e1 with z1 | z1
   ·rcases both y c e2 with z2 | z2
    ·exact name_of_addr Jx.apart z1.1 z2.1
    ·exact absurd (lB y c z2)<|Nat.not_lt.mpr<|Eu z1.2
   ·rcases both y c e2 with z2 | z2
    ·exact absurd (lB x c z1)<|Nat.not_lt.mpr<|Eu z2.2
    ·exact I.ok.inj x y c z1 z2
  ·have iZ:(relabel scope X.env).names.lookup x=some .cell\/(relabel scope X.env).names.lookup x=some .free:=hx;have:∃ k,scope.names.lookup x=some k/\(k = .free\/k = .cell):=by
    rcases iZ with z | z
    ·obtain⟨k,e,r⟩:=kindOf z
     rcases r with r | ⟨r,_⟩
     ·exact⟨k,e,.inr r.symm⟩
     ·exact⟨k,e,.inl r⟩
    ·obtain⟨k,e,r⟩:=kindOf z
     rcases r with r | ⟨r,_⟩
     ·exact⟨k,e,.inl r.symm⟩
     ·exact⟨k,e,.inl r⟩
   obtain⟨k,e,rfl | rfl⟩:=this
   ·have hm:=CP e;obtain⟨c,hc⟩:=I.ok.has x<|ck.free _ hm rfl;obtain⟨d,hd⟩:=yZ<|yY scope.names X.env.cells [] x c hm hc;exact⟨d,(Jy x e).trans hd⟩
   ·exact zi x e
  ·have hx:scope.names.lookup x=some .cell:=by
    have Jz:(match scope.names.lookup x with | some .cell=>true | _=>false)=true:=hf
    split at Jz
    ·assumption
    ·cases Jz
   have e':(cellsFrom (s.heap.objs.size+1) scope.names<|cz scope.names X.env.cells []).lookup x=some c:=e;have q1:=Fb.mp<|HD scope.names (s.heap.objs.size+1) []<|.inl hx;obtain⟨d,hd⟩:=q1;rw [nh,KN,hd] at e';have e2:d=c:=Option.some.inj e';have:=(rm _ _<|CP hd).2;rw [<- e2];exact Eu this
  ·have e':(cellsFrom (s.heap.objs.size+1) scope.names<|cz scope.names X.env.cells []).lookup x=some c:=e
   rcases both x c e' with z | z
   ·have h1:=(pD b hb).2;have h2:=z.2;exact λk=>absurd h1<|Nat.not_lt.mpr<|by rw [<- k];exact Eu h2
   ·exact(pD b hb).1.2.2.2.2.1 x c z
  ·have:=(pD b hb).1.2.2.2.1
   rcases this with z | z
   ·exact I.ok.iW b o e z
   ·exact absurd (Bk (Ax e)<|Cl I.ok.k4 z)<|Dd _
  ·rcases Ah.mp (I.d7 b hf) with z | z
   ·exact(pD b hb).1.2.1 z
   ·exact(pD b hb).1.2.2.1 z
 refine⟨Uq,rfl,I.bare,Un.kept old,⟨m,vi,λi x v e1 e2 e3=>?_⟩,λx c e=>?_,Uo,λx c e=>?_,λp hp=>absurd hp (by simp [fm]),I.aD.kept old,?_⟩
 ·have hi:i < σ.length:=by
   by_cases hi:i < σ.length
   ·exact hi
   ·rw [Bc (by omega),Dx] at e2
    split at e2 <;> cases e2
  rw [Ay hi] at e2;have nr:N'[i]?=some x:=e1;have Ur:∃ k',(relabel scope X.env).names.lookup x=some k'/\(k' = .local\/k' = .cell\/k' = .free):=by
   rcases e3 with z | z | z
   ·exact⟨_,z,.inl rfl⟩
   ·exact⟨_,z,.inr<|.inl rfl⟩
   ·exact⟨_,z,.inr<|.inr rfl⟩
  obtain⟨k',zl,rp⟩:=Ur;obtain⟨k,ek,r⟩:=kindOf zl;have kf:k = .free:=by
   rcases r with r | ⟨r,_⟩
   ·subst r
    rcases rp with z | z | z
    ·subst z;have:=ck.own i x nr ek;rw [I.len] at hi;omega
    ·subst z;have:=ck.zg i x nr ek;rw [I.len] at hi;omega
    ·exact z
   ·exact r
  subst kf;have hm:=CP ek;have Us:=ck.out i x nr ek;obtain⟨m0,zm,iI⟩:=I.loc;have kx:=ck.free _ hm rfl;obtain⟨u,ru,lk⟩:=iI i x v Us e2 (by rcases kx with z | z;exact .inr<|.inl z;exact .inr<|.inr z);refine⟨u,ru,.inr ⟨?_,?_⟩⟩
  ·rcases r with r | ⟨_,r⟩
   ·subst r;exact .inr zl
   ·subst r;exact .inl zl
  ·rcases lk with ⟨k1,_⟩ | ⟨_,c,hc,gA⟩
   ·have JA:X.env.scope.names.lookup x=some .local:=k1
    rcases kx with z | z
    ·rw [JA] at z;cases z
    ·rw [JA] at z;cases z
   ·have lD:=yY scope.names X.env.cells [] x c hm hc;obtain⟨d,hd⟩:=yZ lD;have:d=c:=Option.some.inj<|(sub x d hd).symm.trans hc;subst this;obtain⟨o,ho,ia⟩:=gA;exact⟨d,(Jy x ek).trans hd,o,old _ _ ho,ia⟩
 ·have e':(cellsFrom (s.heap.objs.size+1) scope.names<|cz scope.names X.env.cells []).lookup x=some c:=e
  rcases both x c e' with z | z
  ·exact⟨none,(Jx.empty x c z.1).1⟩
  ·obtain⟨v,o,ho,ia⟩:=I.cell x c z;exact⟨v,o,old _ _ ho,ia⟩
 ·have e':(cellsFrom (s.heap.objs.size+1) scope.names<|cz scope.names X.env.cells []).lookup x=some c:=e
  rcases both x c e' with z | z
  ·exact I.aD.fresh<|Eu z.2
  ·exact I.b6 x c z
 ·rw [Ag,Du,I.len];exact hl.symm
end
structure Clause(e:Expr)(d:Nat)(tg iter:Expr)(ifs:List Expr)(acc:Value)(env:Env)(inner:Sem Unit):Prop where
 at':(clausesOf e)[d]?=some ⟨tg,iter,ifs,0⟩
 quiet:∀ it,(Code.compLoop e d it acc env).quiet=true
 den:∀(prog:Program) (w:World) it,(model prog w).den (.compLoop e d it acc env)=(compTurn e d it acc env).onRaise (λx=>do noteFrame x env;theTreesLotGoes x)
 Ut:∀(A:Around) it,A.under (.compLoop e d it acc env)=A
 zn:∀(prog:Program) (w:World) it,(model prog w).den (.compStart e d it acc env)=(compStart e d it acc env).onRaise (λx=>do noteFrame x env;standAt theWindowsPlace)
 zp:∀(A:Around) it,A.under (.compStart e d it acc env)=A
 turn:∀ it,compTurn e d it acc env=(do
   standAt iter.pos
   match <- pyNext it with
   | none=>pure<|.done .next
   | some v=>
    letOwnedTupleGo tg it v
    assign tg env v
    let mut ok:=true
    for c in ifs do
     if ok then ok <- isTrue c env<|eval c env
    if ok then
     inner
    again (.compLoop e d it acc env))
section
variable{prog:Program}{w:World}{A:Around}{R:Result->Shared->Prop}{s:Shared}
theorem Uu{e:Expr}{d:Nat}{tg iter:Expr}{ifs:List Expr}{it acc:Value}{env:Env}{inner:Sem Unit}(C:Clause e d tg iter ifs acc env inner)(I:Nat->Shared->Prop)
  (turn : ∀ n s, I n s → wpAny (model prog w) A (pyNext it) (λr s₁ => match r with
   | none=>R (.ok .next) s₁
   | some v=>wpAny (model prog w) A (letOwnedTupleGo tg it v) (λ_ s₁'=>wpAny (model prog w) A (assign tg env v) (λ_ s₂=>
     wpAny (model prog w) A (forIn ifs true λc r=>if r=true then do let ok <- isTrue c env<|eval c env;pure (ForInStep.yield ok) else pure (ForInStep.yield r)) (λok s₃=>
      if ok=true then wpAny (model prog w) A inner (λ_ s₄=>∃ m,m < n/\I m s₄) (notedBy (model prog w) A env λe s'=>R (.error e) s') s₃
      else ∃ m,m < n/\I m s₃) (notedBy (model prog w) A env λe s'=>R (.error e) s') s₂) (notedBy (model prog w) A env λe s'=>R (.error e) s') s₁') (notedBy (model prog w) A env λe s'=>R (.error e) s') s₁) (notedBy (model prog w) A env λe s'=>R (.error e) s') s)
  (n:Nat) (h:I n s) :
  codeAny (model prog w) A (.compLoop e d it acc env) R s:=by
 refine codeAny_loop (C.quiet it) I (λn s hI=>?_) n h;rw [C.Ut,C.den];refine wpAny_noted ?_;rw [C.turn];refine BJ<|FQ<|BJ<|CN (turn n s hI) (λr s₁ h₁=>?_) λ_ _ h'=>h';cases r with
 | none=>exact BP h₁
 | some v=>
  refine BJ<|CN h₁ (λ_ s₁' h₁'=>?_) λ_ _ h'=>h';refine BJ<|CN h₁' (λ_ s₂ h₂=>BJ<|CN h₂ (λok s₃ h₃=>?_) λ_ _ h'=>h') λ_ _ h'=>h';cases ok with
  | false=>exact BP ⟨rfl,h₃⟩
  | true=>exact BJ<|CN h₃ (λ_ s₄ h₄=>BP ⟨rfl,h₄⟩) λ_ _ h'=>h'
theorem Uv{e:Expr}{d:Nat}{tg iter:Expr}{ifs:List Expr}{it acc:Value}{env:Env}{inner:Sem Unit}(C:Clause e d tg iter ifs acc env inner)
  (h0:codeAny (model prog w) A (.compLoop e d it acc env) R s)
  (h:wpAny (model prog w) A (pyIter it) (λzq s'=>codeAny (model prog w) A (.compLoop e d zq acc env) R s') (notedBy (model prog w) A env λx s'=>R (.error x) s') s) :
  codeAny (model prog w) A (.compStart e d it acc env) R s:=by
 refine QF ?_;rw [C.zp,C.zn];refine wpAny_notedAt ?_;unfold compStart;rw [C.at'];show wpAny _ _ (ask >>= _) _ _ s;refine BJ<|wpAny_askSetting<|wpAny_ite ?_
 split
 ·first
   | exact BJ<|BP<|BP<|And.intro (C.quiet _) h0
   | exact BP<|And.intro (C.quiet _) h0
 ·first
   | exact BJ<|IV<|BJ<|FQ<|BJ<|CN h (λzq s' h'=>BP<|And.intro (C.quiet _) h') λ_ _ x=>x
   | (refine BJ<|IV ?_;show wpAny _ _ (standAt iter.pos >>= _) _ _ s;exact BJ<|FQ<|BJ<|CN h (λzq s' h'=>BP<|And.intro (C.quiet _) h') λ_ _ x=>x)
end
structure jF(X:Cx)(m:Sem Unit)(σ:St)(H:Hp)(Q:St->Hp->Prop):Prop where
 run:∀(pins:List<|Addr×Obj) (s:Shared),Inv X pins σ H s->wpAny (model X.prog X.w) X.A m (λ_ s'=>∃ σ' H',Inv X pins σ' H' s'/\Q σ' H') X.xe s
def fH(X:Cx)(tg:Expr)(ifs:List Expr)(inner:Sem Unit)(J:It)(after:St->Hp->Prop)(σ:St)(H:Hp):Prop:=
 ∃ W:Nat->Nat->St->Hp->Prop,(∃ m,W 0 m σ H)/\∀ i m σ' H',W i m σ' H' ->
  (J.stop i H' ∧ after σ' H') ∨ (J.go i H' ∧ ∃ N : St → Hp → Prop, (∀ σ' H', N σ' H' → ∃ m', m' < m ∧ W (i + 1) m' σ' H') ∧ ∀ x H2, J.qI i H' x H2 → Eg X tg x σ' H2 λσ2 H3 => Ei X ifs σ2 H3 λb H4 =>
   if b=true then jF X inner σ2 H4 N else N σ2 H4)
theorem zt{X:Cx}(iJ:X.xe=λ_ _=>False)(hc:X.calm=true){e:Expr}{d:Nat}{tg iter:Expr}{ifs:List Expr}{acc:Value}{inner:Sem Unit}(C:Clause e d tg iter ifs acc X.env inner){pins:List (Addr×Obj)}{σ:St}{H:Hp}{s:Shared}
  {it:Addr} {fp:List Addr} {tn:Nat->Heap->Prop} {J:It} {after:St->Hp->Prop} {R:Result->Shared->Prop} (I:Inv X pins σ H s) (T:Turn X.prog X.w X.K tg J fp it tn) (st:tn 0 s.heap) (hf:∀ b∈fp,bY X pins H b) (h:fH X tg ifs inner J after σ H)
  (hR:∀ σ' H' s',Inv X pins σ' H' s'->after σ' H'->R (.ok .next) s') :
  codeAny (model X.prog X.w) X.A (.compStart e d (.ref it) acc X.env) R s:=by
 obtain⟨W,⟨m0,w0⟩,turn⟩:=h;have stat:∀{H':Hp},(∀ b∈fp,H' b=none)->∀ b∈fp,bY X pins H' b:=λhn b hb=>⟨hn b hb,(hf b hb).2⟩;have loop:codeAny (model X.prog X.w) X.A (.compLoop e d (.ref it) acc X.env) R s:=by
  refine Uu C (λk s'=>∃ i σ' H',Inv X pins σ' H' s'/\tn i s'.heap/\(∀ b∈fp,H' b=none)/\W i k σ' H') ?_ m0 ⟨0,σ,H,I,st,λb hb=>(hf b hb).1,w0⟩;rintro k s4 ⟨i,σ4,H4,J4,JE,JI,w4⟩
  rcases turn i k σ4 H4 w4 with ⟨stop,qn⟩ | ⟨go,N,hN,step⟩
  ·have d1:=T.done X rfl rfl rfl hc i pins s4 σ4 H4 (λ_ _=>False) J4 (stat JI) JE stop;refine hG d1 λr s5 ⟨hr,I5⟩=>?_;subst hr;exact hR _ _ _ I5 qn
  ·have d1:=T.item X rfl rfl rfl hc i pins s4 σ4 H4 (λ_ _=>False) J4 (stat JI) JE go;refine hG d1 λr s5 ⟨u,hr,h5⟩=>?_;subst hr;refine hG h5 λ_ s6 ⟨x,H6,I6,r6,y6,zu,Uw⟩=>?_;have Ux:=I6.pinned (stat Uw)<|T.obj _ _ zu;have again:∀{σ7:St} {H7:Hp} {s7:Shared},Inv X (pins++qL fp s6.heap) σ7 H7 s7->N σ7 H7->∃ m,m < k/\∃ i σ' H',Inv X pins σ' H' s7/\tn i s7.heap/\(∀ b∈fp,H' b=none)/\W i m σ' H':=λ{σ7 H7 s7} I7 n7=>by
    obtain⟨m',hm,w7⟩:=hN σ7 H7 n7;refine⟨m',hm,i+1,σ7,H7,I7.cK,T.keep _ _ _ zu λb hb o e=>(I7.pin (b,o)<|Ar _<|Ar _<|va hb e).1,λb hb=>?_,w7⟩;obtain⟨o,e,d⟩:=T.obj _ _ zu b hb;exact(I7.pin (b,o)<|Ar _<|Ar _<|va hb e).2.1
   have a1:=(step x H6 y6).run _ s6 u Ux r6;rw [iJ] at a1;refine hG a1 λ_ s7 ⟨σ7,H7,I7,q7⟩=>?_;have a2:=q7.run _ s7 I7;rw [iJ] at a2;refine hG a2 λok s8 ⟨H8,I8,q8⟩=>?_;cases ok with
   | false=>
    rw [BK As] at q8 ⊢;exact again I8 q8
   | true=>
    rw [BL rfl] at q8 ⊢;have a3:=q8.run _ s8 I8;rw [iJ] at a3;exact hG a3 λ_ s9 ⟨σ9,H9,I9,q9⟩=>again I9 q9
 exact Uv C loop<|T.self _ 0 _ _ _ st loop
theorem JO{X:Cx}{e:Expr}{tg iter:Expr}{ifs:List Expr}{scope:Scope}{N':List Str}{newAcc:Sem Value}{o0:Obj}{u0:Addr->HO}{n:Nat}{inner:Value->Env->Sem Unit}{pins:List (Addr×Obj)}{σ:St}{H2:Hp}{s2:Shared}{E:Value->Shared->Prop}{RR:Value->Addr->Result->Shared->Prop}{it:Addr}{fp:List Addr}{tn:Nat->Heap->Prop}{J:It}{Q:VK}
  (fX:∀(Q:Value->Shared->Prop) (E:Value->Shared->Prop) (s:Shared),Q (.ref s.heap.objs.size) {s with heap:=s.heap.push o0}->wpAny (model X.prog X.w) X.A newAcc Q E s) (fV:∀(H:Hp) (h:Heap),sysModules < h.objs.size->ay X.prog X.w H (h.push o0) h.objs.size (u0 h.objs.size))
  (hc:X.calm=true) (ck:cb X.env.scope scope X.N N') (hl:N'.length=X.N.length+n) (hC:∀ acc env,Clause e 0 tg iter ifs acc env<|inner acc env)
  (I2:Inv X pins σ H2 s2) (T:Turn X.prog X.w X.K tg J fp it tn) (dA:tn 0 s2.heap) (f2:∀ b∈fp,bY X pins H2 b)
  (q:∀ D,H2 D=none->∀ cl C s₀ H₀ ex,fH (fm X N' scope cl C s₀ H₀ ex) tg ifs (inner (.ref D)<|compEnvC scope cl C X.env) J (λ_ H'=>Q (.ref D) H') (σ++List.replicate n none)<|upd H2 D<|u0 D)
  (zv:∀ D C H' s' m,Inv X pins σ H' s'->s'.heap.Ns C m->H' C=none->C≠X.env.locals->X.s₀.heap.objs.size<=C->(∀ x c,X.env.cells.lookup x=some c->c≠C)->(∀ p∈X.pn++pins,p.1≠C)->Q (.ref D) H'->RR (.ref D) C (.ok .next) s') :
  wpAny (model X.prog X.w) X.A newAcc (λacc s₃=>wpAny (model X.prog X.w) X.A (newFunctionEnv scope X.env.globals (cz scope.names X.env.cells []) [] X.env.qual none .none<|some X.env) (λi0 s₄=>
   codeAny (model X.prog X.w) X.A (.compStart e 0 (.ref it) acc {i0 with scope:=relabel scope X.env}) (RR acc i0.locals) s₄) E s₃) E s2:=by
 refine fX _ _ _<|Uk λh₁ hns₁ old₁ hcs₁=>?_;have hD:H2 s2.heap.objs.size=none:=I2.aD.fresh<|Am _;have q0:=q s2.heap.objs.size hD;have fl:∀ b∈fp,b < s2.heap.objs.size:=λb hb=>by
  obtain⟨o,e,_⟩:=T.obj 0 _ dA b hb;exact Ax e
 have I3:Inv X pins σ (upd H2 s2.heap.objs.size<|u0 s2.heap.objs.size) {s2 with heap:=s2.heap.push o0}:=
  I2.laid (t':=s2.toks) (λb o e=>Ai _ e) (Am _) (fV _ _ I2.big)
 generalize vA:({s2 with heap:=s2.heap.push o0}:Shared)=s3 at I3 hns₁ old₁ hcs₁ ⊢;have Uy:s3.heap.objs.size=s2.heap.objs.size+1:=by rw [<- vA];exact Gz ..
 have zx:∀ b o,s2.heap.get? b=some o->s3.heap.get? b=some o:=λb o e=>by rw [<- vA];exact Ai _ e
 have old:∀ b o,s3.heap.get? b=some o->h₁.get? b=some o:=old₁;have f3:∀ b∈fp,bY X pins (upd H2 s2.heap.objs.size<|u0 s2.heap.objs.size) b/\b < s3.heap.objs.size:=λb hb=>by
  refine⟨⟨?_,(f2 b hb).2⟩,by rw [Uy];exact Ge<|fl b hb⟩;rw [ax<|Bx<|fl b hb];exact(f2 b hb).1
 have I4:=λ(t':Nat)=>Um (N':=N') (scope:=scope) (n:=n) (fp:=fp) (h₁:=h₁) (t':=t') I3 ck hl hns₁ old hcs₁ f3;generalize hX:fm X N' scope (cellsFrom (s3.heap.objs.size+1) scope.names<|cz scope.names X.env.cells []) s3.heap.objs.size s3 (upd H2 s2.heap.objs.size<|u0 s2.heap.objs.size) fp=X' at I4;have eP:X'.prog=X.prog:=by rw [<- hX];rfl
 have ew:X'.w=X.w:=by rw [<- hX];rfl
 have eK:X'.K=X.K:=by rw [<- hX];rfl
 have eA:X'.A=X.A:=by rw [<- hX];rfl
 have eE:X'.env=compEnvC scope (cellsFrom (s3.heap.objs.size+1) scope.names<|cz scope.names X.env.cells []) s3.heap.objs.size X.env:=by rw [<- hX];rfl
 have ec:X'.calm=true:=by rw [<- hX];exact hc
 have HP:X'.xe=λ_ _=>False:=by rw [<- hX];rfl
 have stat:∀{H':Hp},(∀ b∈fp,H' b=none)->∀ b∈fp,bY X' [] H' b:=λhn b hb=>by
  refine⟨hn b hb,?_,?_,?_,?_,?_⟩
  ·rw [eE];exact Bx (f3 b hb).2
  ·rw [<- hX];intro hf
   rcases Ah.mp (I3.d7 b hf) with z | z
   ·exact(f3 b hb).1.2.1 z
   ·exact(f3 b hb).1.2.2.1 z
  ·rw [<- hX];exact .inl hb
  ·rw [eE];intro x c e
   rcases Jv e with z | z
   ·exact λk=>absurd (f3 b hb).2<|Nat.not_lt.mpr<|by rw [<- k];exact Eu z.2
   ·exact(f3 b hb).1.2.2.2.2.1 x c<|yX _ _ _ (λ_ _ z=>by simp at z) x c<|CP z
  ·rw [<- hX];intro p hp;exact absurd hp<|by simp [fm]
 have fin:∀{σ':St} {H':Hp} {s':Shared},Inv X' [] σ' H' s'->Q (.ref s2.heap.objs.size) H'->RR (.ref s2.heap.objs.size) s3.heap.objs.size (.ok .next) s':=λ{σ' H' s'} I' q'=>by
  obtain⟨m',uW,_⟩:=id I'.loc;rw [eE] at uW;have Uz:s'.os=s3.os:=by have:=I'.os;rw [<- hX] at this;exact this
  have UA:Un (iD X.stack) fp (upd H2 s2.heap.objs.size<|u0 s2.heap.objs.size) H' s3.heap s'.heap:=by have:=I'.base;rw [<- hX] at this;exact this
  have aD:cu X.prog X.w H' s'.heap:=by have:=I'.aD;rw [eP,ew] at this;exact this
  have IX:Inv X pins σ H' s':=I3.call' (ch:=fp) Uz UA aD I'.bare λb hb=>⟨(f3 b hb).1.2.2.2.1,(f3 b hb).1.2.1,(f3 b hb).1.2.2.2.2.1,(f3 b hb).1.2.2.2.2.2⟩;have pE:=I'.free;rw [eE] at pE;refine zv _ _ H' s' m' IX uW pE (Di I3.lt) I3.sz (λx c e z=>?_) (λp hp z=>?_) q'
  ·obtain⟨v,o,ho,_⟩:=I3.cell x c e;exact absurd (Ax ho)<|by rw [z];exact Dd _
  ·exact absurd (Ax (I3.pin p hp).1)<|by rw [z];exact Dd _
 have UB:∀ b∈fp,bY X' [] (upd H2 s2.heap.objs.size<|u0 s2.heap.objs.size) b:=stat λb hb=>(f3 b hb).1.1;have q1:fH X' tg ifs (inner (.ref s2.heap.objs.size) X'.env) J (λ_ H'=>Q (.ref s2.heap.objs.size) H') (σ++List.replicate n none) (upd H2 s2.heap.objs.size<|u0 s2.heap.objs.size):=by
  rw [eE,<- hX];exact q0 _ _ _ _ _
 have T':Turn X'.prog X'.w X'.K tg J fp it tn:=by rw [eP,ew,eK];exact T
 have fin2:=zt (s:={s3 with heap:=h₁,toks:=s3.toks}) HP ec (hC (.ref s2.heap.objs.size) X'.env) (I4 s3.toks) T' (T.keep 0 _ _ dA λb _ o e=>old b o<|zx b o e) UB q1 (R:=RR (.ref s2.heap.objs.size) s3.heap.objs.size) λσ' H' s' I' a'=>fin I' a';rw [eP,ew,eA,eE] at fin2;exact fin2
def emit(elt:Expr)(acc:Value)(env:Env):Sem Unit:=do let _ <- call (.builtin "list.append") [acc,<- eval elt env]
section
variable{X:Cx}{elt tg iter:Expr}{ifs:List Expr}{scope:Scope}{pos:Pos}{σ:St}{H:Hp}{acc:Value}{env:Env}{N':List Str}{J:It}
theorem UC:Clause (.ListComp elt [⟨tg,iter,ifs,0⟩] scope pos) 0 tg iter ifs acc env (emit elt acc env):=⟨rfl,λ_=>rfl,λ_ _ _=>rfl,λ_ _=>rfl,λ_ _ _=>rfl,λ_ _=>rfl,λ_=>rfl⟩
theorem JP{D:Addr}{Q:St->Hp->Prop} (h:Ev X elt σ H λv H1=>∃ ys,H1 D=some (.lst ys)/\ys.length < sizeLine/\Q σ (upd H1 D<|.lst<|ys++[v])):jF X (emit elt (.ref D) X.env) σ H Q:=by
 refine⟨λpins s I=>?_⟩;unfold emit;refine BJ<|aI (h.run pins s I) λv s1 ⟨x,H1,I1,r1,ys,hy,hz,q⟩=>?_;refine BJ<|aI (IQ (X:=X) _ s1 σ H1 (.ref D) [x] (.ref D) [v] (λ_ H'=>Q σ H') I1 rfl (.cons r1 .nil) ⟨_,ys,x,rfl,rfl,hy,hz,q⟩) λ_ s2 ⟨_,H2,I2,_,q2⟩=>BP ⟨σ,H2,I2,q2⟩
theorem Eg.mono{v:V}{R R':St->Hp->Prop}(h:Eg X elt v σ H R)(f:∀ σ' H',R σ' H'->R' σ' H'):Eg X elt v σ H R':=⟨λpins s u I r=>aI (h.run pins s u I r) λ_ _ ⟨σ',H',I',q⟩=>⟨σ',H',I',f _ _ q⟩⟩
theorem Ei.mono{T T':Bool->Hp->Prop}(h:Ei X ifs σ H T)(f:∀ b H',T b H'->T' b H'):Ei X ifs σ H T':=⟨λpins s I=>aI (h.run pins s I) λ_ _ ⟨H',I',q⟩=>⟨H',I',f _ _ q⟩⟩
theorem UD{D:Addr}{after:Hp->Prop}(h:iY X N' scope tg ifs elt J D after σ H)(cl:List<|Str×Addr)(C:Addr)(s₀:Shared)(H₀:Hp)(ex:List Addr):fH (fm X N' scope cl C s₀ H₀ ex) tg ifs (emit elt (.ref D)<|compEnvC scope cl C X.env) J (λ_ H'=>after H') σ H:=by
 obtain⟨W,w0,t⟩:=h;refine⟨W,w0,λi m σ' H' w=>(t i m σ' H' w).imp id λ⟨g,N,hN,st⟩=>⟨g,N,hN,λx H2 y=>(st x H2 y cl C s₀ H₀ ex).mono λσ2 H3 h3=>(h3 cl C s₀ H₀ ex).mono λb H4 h4=>?_⟩⟩;cases b with
 | true=>
  rw [BL rfl] at h4 ⊢;exact JP (X:=fm X N' scope cl C s₀ H₀ ex)<|h4 cl C s₀ H₀ ex
 | false=>
  rw [BK As] at h4 ⊢;exact h4
theorem JS{n:Nat}{pins:List (Addr×Obj)}{H2:Hp}{s2:Shared}{E:Value->Shared->Prop}{RR:Value->Addr->Result->Shared->Prop}{it:Addr}{fp:List Addr}{tn:Nat->Heap->Prop}{Q:VK}
  (hc:X.calm=true) (ck:cb X.env.scope scope X.N N') (hl:N'.length=X.N.length+n) (I2:Inv X pins σ H2 s2) (T:Turn X.prog X.w X.K tg J fp it tn) (dA:tn 0 s2.heap) (f2:∀ b∈fp,bY X pins H2 b)
  (q:∀ D,H2 D=none->iY X N' scope tg ifs elt J D (λH'=>Q (.ref D) H') (σ++List.replicate n none) (upd H2 D<|.lst []))
  (zv:∀ D C H' s' m,Inv X pins σ H' s'->s'.heap.Ns C m->H' C=none->C≠X.env.locals->X.s₀.heap.objs.size<=C->(∀ x c,X.env.cells.lookup x=some c->c≠C)->(∀ p∈X.pn++pins,p.1≠C)->Q (.ref D) H'->RR (.ref D) C (.ok .next) s') :
  wpAny (model X.prog X.w) X.A (newList []) (λacc s₃=>wpAny (model X.prog X.w) X.A (newFunctionEnv scope X.env.globals (cz scope.names X.env.cells []) [] X.env.qual none .none<|some X.env) (λi0 s₄=>
   codeAny (model X.prog X.w) X.A (.compStart (.ListComp elt [⟨tg,iter,ifs,0⟩] scope pos) 0 (.ref it) acc {i0 with scope:=relabel scope X.env}) (RR acc i0.locals) s₄) E s₃) E s2:=
 JO (newAcc:=newList []) (o0:={cls:= .type "list",dict:=none,data:= .seq ([]:List Value).toArray}) (u0:=λ_=> .lst []) (λ_ _ _ h=>DN h<|by show(0:Nat)<=sizeLine;exact Bo _) (λ_ _ _=>⟨Bo _,[],0,.nil,Ba _ rfl⟩) hc ck hl (λ_ _=>UC) I2 T dA f2 (λD hD=>UD<|q D hD) zv
end
section
variable{X:Cx}{elt tg iter c:Expr}{ifs:List Expr}{scope:Scope}{pos p:Pos}{wi:TI}{σ:St}{H:Hp}{Q:VK}{T:Bool->Hp->Prop}{rest:List Stmt}{D:Ends}
theorem fq(h:T true H):Ei X [] σ H T:=⟨λpins s I=>TL pins s σ H T I h⟩
theorem lF(sc:Scope)(N N':List Str)(n:Nat)(hi:PI X tg iter wi)
  (h:wi σ H λJ H1=>∀ D,H1 D=none->iY X N' scope tg ifs elt J D (λH'=>Q (.ref D) H') (σ++List.replicate n none) (upd H1 D<|.lst []))
  (hc:X.calm=true:=by rfl) (ib:X.env.scope=sc:=by rfl) (hN:X.N=N:=by rfl) (hk:ke sc scope N N'=true:=by decide +kernel) (hl:N'.length=N.length+n:=by rfl)
  (hs:∀ x,foldedSetIterable iter X.env x=pure x:=by intro _;rfl):Ev X (.ListComp elt [⟨tg,iter,ifs,0⟩] scope pos) σ H Q:=by
 refine⟨λpins s I=>?_⟩;subst ib hN;have ck:=cb.of hk;rw [eval_ListComp];refine HY (use:=none) rfl hs (yW λx hx hf=>I.ok.has x.1<|ck.free x hx hf) ck.kind ck.names (aI (hi pins s σ H _ I h) λv s1 h1=>aI h1 λmK s2 h2=>?_);obtain⟨it,fp,tn,J,H2,e,I2,T,dA,f2,q⟩:=h2;subst e;refine JS (RR:=λacc C=>compPost (model X.prog X.w) X.A X.xe none (EP X pins σ Q) acc C) hc ck hl I2 T dA f2 q ?_;intro D C H' s' m IX hn hC c1 c2 c3 c4 qq;exact⟨m,hn,λh' ft=>⟨.ref D,H',IX.turned (t':=s'.toks) (λb o hb e=>ft.extBut b o hb e) hC (Ne.symm<|Ne.symm c1) (.inr c2) c3 c4,rfl,qq⟩⟩
theorem zy(i:Nat){y:Str}{py rq:Pos}(sc:Scope)(N N':List Str)(n:Nat)(ic:X.N.Nodup)(hi:PI X tg iter wi)
  (h:wi σ H λJ H1=>∀ A,H1 A=none->iY X N' scope tg ifs elt J A (λH'=>Run X rest D (σ.set i<|some<|.ref A) H') (σ++List.replicate n none) (upd H1 A<|.lst []))
  (UE:X.N[i]?=some y:=by rfl) (hy:Loc X.env.scope y:=by first | exact Or.inl rfl | exact Or.inr rfl)
  (UG:swapsWith (.ListComp elt [⟨tg,iter,ifs,0⟩] scope pos) (some<|.Name y py) rq.line X.env=pure true:=by rfl)
  (hc:X.calm=true:=by rfl) (ib:X.env.scope=sc:=by rfl) (hN:X.N=N:=by rfl) (hk:ke sc scope N N'=true:=by decide +kernel) (hl:N'.length=N.length+n:=by rfl)
  (hs:∀ x,foldedSetIterable iter X.env x=pure x:=by intro _;rfl) (hf:X.fn y=true\/X.env.scope.names.lookup y=some .local:=by first | exact .inl rfl | exact .inr rfl | assumption) :
  Run X (.Assign [.Name y py] (.ListComp elt [⟨tg,iter,ifs,0⟩] scope pos) rq :: rest) D σ H:=by
 refine jC (t:=λD' σ H=>wi σ H λJ H1=>∀ A,H1 A=none->iY X N' scope tg ifs elt J A (λH'=>D'.nx (σ.set i<|some<|.ref A) H') (σ++List.replicate n none) (upd H1 A<|.lst [])) ?_ h;intro pins s σ H D I h;subst ib hN;have ck:=cb.of hk;rw [exec_Assign_Name_used _ _ _ _ UG];refine BJ<|FQ<|BJ ?_;show wpAny _ X.A (do let _ <- comprehension (.ListComp elt [⟨tg,iter,ifs,0⟩] scope pos) scope X.env _ (newList []) false (eval iter X.env)<|some<|assign (.Name y py) X.env) _ _ s;refine BJ<|CN (HY (use:=some<|assign (.Name y py) X.env) (Q:=λ_ s'=>SP X pins D .next s') rfl hs (yW λx hx hf=>I.ok.has x.1<|ck.free x hx hf) ck.kind ck.names
  (aI (hi pins s σ H _ I h) λv s1 h1=>aI h1 λmK s2 h2=>?_)) (λ_ s' hq=>BP<|BP hq) λ_ _ e=>e
 obtain⟨it,fp,tn,J,H2,e,I2,T,dA,f2,q⟩:=h2;subst e;refine JS (Q:=λx H1=>D.nx (σ.set i<|some x) H1) (RR:=λacc C=>compPost (model X.prog X.w) X.A X.xe (some<|assign (.Name y py) X.env) (λ_ s'=>SP X pins D .next s') acc C) hc ck hl I2 T dA f2 q ?_;intro D' C H' s' m IX hn hC c1 c2 c3 c4 qq;show wpAny _ X.A (assign (.Name y py) X.env<|.ref D') _ _ _;refine wpAny_assign_Name<|HU IX ic UE hy (v:= .ref D') rfl (λqR UH zA=>?_) hf;obtain⟨a,zA,ha⟩:=zA;have UI:C≠a:=by
  rcases ha with ha | ha
  ·rw [ha];exact c1
  ·exact Ne.symm<|c3 _ _ ha
 refine⟨m,hn.sameBut zA UI,λh' ft=>⟨_,H',UH.turned (t':=qR.toks) (λb o hb e=>ft.extBut b o hb e) hC c1 (.inr c2) c3 c4,qq⟩⟩
end
structure bh(P:Program)(w:World)(K:PySem.W.Frag)(mg:Str->Option Value)(base:Heap)(k:Nat)(x:Str)(ps:List Str)(sp:Sp):Prop where
 ex:∃ f fd,aJ P w K mg base bT k f fd ps sp/\Binds K fd ps []/\PySem.W.keepIn K (.ref f)=true/\mg x=some (.ref f)
theorem bh.mono{P:Program}{w:World}{K:PySem.W.Frag}{mg:Str->Option Value}{base:Heap}{j k:Nat}{x:Str}{ps:List Str}{sp:Sp}(h:bh P w K mg base j x ps sp)(le:j<=k):bh P w K mg base k x ps sp:=
 let ⟨f,fd,F,r⟩:=h.ex;⟨f,fd,F.mono le,r⟩
theorem b4{X:Cx}{k:Nat}{ps:List Str}{sp:Sp}{x:Str}{e:Expr}{es:List Expr}{σ:St}{H:Hp}{Q:VK}{p pos:Pos}(G:bh X.prog X.w X.K X.mg X.base k x ps sp)(hr:bC k X.A)
  (h:Ea X (e :: es) σ H λvs H1=>sp vs H1 Q E0) (hg:Gl X x:=by rfl) (d9:(x == ("__debug__" : Str))=false:=by decide) (hs:noStar (e :: es)=true:=by rfl):Ev X (.Call (.Name x p) (e :: es) [] pos) σ H Q:=
 let ⟨_,_,F,b,kp,m⟩:=G.ex;Ud F hr m kp b Tf h hg d9 hs
theorem _root_.L2.bC.ie{k:Nat}{A:Around}(hr:bC k A):A.units+100 < cLine:=by have:=hr.un;omega
theorem _root_.L2.bC.u1{k:Nat}{A:Around}(hr:bC k A):A.units+1 < cLine:=by have:=hr.un;omega
def Df(K:PySem.W.Frag)(x:Str)(st:Stmt):Prop:=∃(f:Addr) (fd:FuncData),PySem.W.nsIn K mainGlobals x=some (some<|.ref f)/\bX K x x st f fd
theorem aP{K:PySem.W.Frag}{x:Str}{st:Stmt}{f:Addr}{oc kV doc pm bN ct:Value}{od an:Option Addr}{sl:Array (Option Value)}(a:PySem.W.nsIn K mainGlobals x=some (some<|.ref f))
  (l:K.lookup f=some ⟨oc,od,.func<|PySem.W.fnOf x x (mY st) (g7 st) (bg st) .none kV doc pm an bN ct,sl⟩) (c:PySem.W.codeIn K bN x=true) (k:PySem.W.keepIn K (.ref f)=true):Df K x st:=⟨f,_,a,Tg l c k⟩
structure JU where
 f:Addr
 bN:Value
 A:Around
 outer:List Env
 s:Shared
 H:Hp
 E:XK
def UJ(N:List Str)(qual:Str)(scope:Scope)(P:Program)(w:World)(K:PySem.W.Frag)(mg:Str->Option Value)(base:Heap)(b:JU):Cx:=(fh bT P w K mg base N qual scope b.f b.bN b.A b.outer b.s b.H b.E).o6
def En(Q:VK):Ends:={nx:=λ_ H'=>Q .non H',rt:=Q}
theorem bX.gb{P:Program}{w:World}{K:PySem.W.Frag}{mg:Str->Option Value}{base:Heap}{x qual:Str}{st:Stmt}{f:Addr}{fd:FuncData}{N ps:List Str}{k:Nat}{sp:Sp}(F:bX K x qual st f fd)(S:au N ps<|bg st)(len:∀ vs H Q E,sp vs H Q E->vs.length=ps.length)
  (di:∀(b:JU) (H:Hp) (vs:List V) (Q:VK) (E:XK),bC k (b.A.deeper<|envOfC qual (bg st) b.s.heap.objs.size b.f b.bN)->sp vs H Q E->Run (UJ N qual (bg st) P w K mg base b) (g7 st) (En Q) (start N vs) H):aJ P w K mg base bT (k+1) f fd ps sp:=
 F.go S len λbN A outer s H vs Q E hr db=>di ⟨f,bN,A,outer,s,H,E⟩ H vs Q E hr db
theorem jG{us:List Value}{k:Nat}(h:us.length=k+1):∃ a r,us=a :: r/\r.length=k:=by
 cases us with
 | nil=>cases h
 | cons a r=>exact⟨a,r,rfl,Nat.succ.inj h⟩
theorem fY{fd:FuncData}{ps:List Str}(f:∀ a:Value,bindArgs fd ⟨[a],[]⟩=pure (ps.zip [a])):∀ us:List Value,us.length=1->bindArgs fd ⟨us,[]⟩=pure (ps.zip us):=λus h=>by
 obtain⟨a,r0,e0,h0⟩:=jG h;have z:=Bb.mp h0;subst z e0;exact f a
theorem rA{fd:FuncData}{ps:List Str}(f:∀ a b:Value,bindArgs fd ⟨[a,b],[]⟩=pure (ps.zip [a,b])):∀ us:List Value,us.length=2->bindArgs fd ⟨us,[]⟩=pure (ps.zip us):=λus h=>by
 obtain⟨a,r0,e0,h0⟩:=jG h;obtain⟨b,r1,e1,h1⟩:=jG h0;have z:=Bb.mp h1;subst z e1 e0;exact f a b
theorem zB{fd:FuncData}{ps:List Str}(f:∀ a b c:Value,bindArgs fd ⟨[a,b,c],[]⟩=pure (ps.zip [a,b,c])):∀ us:List Value,us.length=3->bindArgs fd ⟨us,[]⟩=pure (ps.zip us):=λus h=>by
 obtain⟨a,r0,e0,h0⟩:=jG h;obtain⟨b,r1,e1,h1⟩:=jG h0;obtain⟨c,r2,e2,h2⟩:=jG h1;have z:=Bb.mp h2;subst z e2 e1 e0;exact f a b c
theorem JY{fd:FuncData}{ps:List Str}(f:∀ a b c d:Value,bindArgs fd ⟨[a,b,c,d],[]⟩=pure (ps.zip [a,b,c,d])):∀ us:List Value,us.length=4->bindArgs fd ⟨us,[]⟩=pure (ps.zip us):=λus h=>by
 obtain⟨a,r0,e0,h0⟩:=jG h;obtain⟨b,r1,e1,h1⟩:=jG h0;obtain⟨c,r2,e2,h2⟩:=jG h1;obtain⟨d,r3,e3,h3⟩:=jG h2;have z:=Bb.mp h3;subst z e3 e2 e1 e0;exact f a b c d
theorem Df.has{P:Program}{w:World}{K:PySem.W.Frag}{mg:Str->Option Value}{h base:Heap}{k:Nat}{x:Str}{st:Stmt}{ps:List Str}{sp:Sp}(d:Df K x st)(X:K.In h)(G:h.Ns mainGlobals mg)
  (hb:∀(kV doc pm:Value) (an:Option Addr) (bN ct:Value) (us:List Value),us.length=ps.length->bindArgs (PySem.W.fnOf x x (mY st) (g7 st) (bg st) .none kV doc pm an bN ct) ⟨us,[]⟩=pure (ps.zip us))
  (ok:∀{f:Addr} {fd:FuncData},bX K x x st f fd->aJ P w K mg base bT k f fd ps sp):bh P w K mg base k x ps sp:=
 let ⟨f,fd,a,F⟩:=d;⟨f,fd,ok F,F.binds hb,F.kp,PySem.W.mg_of X G a⟩
theorem Df.law{P:Program}{w:World}{K:PySem.W.Frag}{mg:Str->Option Value}{h:Heap}{k:Nat}{x y:Str}{st:Stmt}{sp:Sp}{fa:Addr}(d:Df K x st)(X:K.In h)(G:h.Ns mainGlobals mg)(zC:mg x=some (.ref fa))
  (hb:∀(kV doc pm:Value) (an:Option Addr) (bN ct:Value) (s:Shared) (v:Value),BindsTo s (PySem.W.fnOf x x (mY st) (g7 st) (bg st) .none kV doc pm an bN ct) ⟨[v],[]⟩ [(y,v)])
  (ok:∀(base:Heap) {f:Addr} {fd:FuncData},bX K x x st f fd->aJ P w K mg base bT k f fd [y] sp) :
  ∃ fd:FuncData,(∀(s:Shared) (v:Value),BindsTo s fd ⟨[v],[]⟩ [(y,v)])/\∀ base:Heap,K.In base->base.Ns mainGlobals mg->aJ P w K mg base bT k fa fd [y] sp:=by
 obtain⟨f,fd,a,F⟩:=d;have e:=zC.symm.trans<|PySem.W.mg_of X G a;cases e;obtain⟨oc,od,kV,doc,pm,an,bN,ct,j4,rfl,lk,iF⟩:=id F.ex;exact⟨_,hb kV doc pm an bN ct,λbase _ _=>ok base F⟩
end L2
namespace ce
open PySem
def pF(m i:Nat):Nat:=(i * 5+1) % m
def fu(m:Nat):Nat->Nat->List Nat
 | 0,_=>[]
 | n+1,i=>i :: fu m n (pF m i)
def kg(m:Nat):Nat->Nat->Nat
 | 0,i=>i
 | n+1,i=>kg m n<|pF m i
theorem vB(m:Nat):∀ a b i,kg m (a+b) i=kg m b (kg m a i)
 | 0,b,i=>by rw [Fg];rfl
 | a+1,b,i=>by
  rw [show a+1+b=(a+b)+1 by omega];exact vB m a b<|pF m i
theorem zD(m:Nat):∀ n t i,t < n->kg m t i∈fu m n i
 | 0,_,_,h=>by omega
 | n+1,0,i,_=>Ad
 | n+1,t+1,i,h=>Af _<|zD m n t (pF m i)<|by omega
theorem zE(m:Nat):∀ n i j,j∈fu m n i->∃ t,t < n/\kg m t i=j
 | 0,_,_,h=>by cases h
 | n+1,i,j,h=>by
  rcases Ah.mp h with rfl | h
  ·exact⟨0,Ee _,rfl⟩
  ·obtain⟨t,ht,e⟩:=zE m n (pF m i) j h;exact⟨t+1,Nat.succ_lt_succ ht,e⟩
def covers(m:Nat):Bool:=kg m m 0 == 0 && (List.range m).all λj=>(fu m m 0).contains j
theorem UK:covers 8=true:=by decide +kernel
theorem UL:covers 16=true:=by decide +kernel
theorem UM:covers 32=true:=by decide +kernel
theorem UN:covers 64=true:=by decide +kernel
theorem UO:covers 128=true:=by decide +kernel
theorem UP:covers 512=true:=by decide +kernel
def Pow(m:Nat):Prop:=m=8\/m=16\/m=32\/m=64\/m=128\/m=512
theorem Pow.covers{m:Nat}(h:Pow m):ce.covers m=true:=by
 rcases h with rfl | rfl | rfl | rfl | rfl | rfl
 ·exact UK
 ·exact UL
 ·exact UM
 ·exact UN
 ·exact UO
 ·exact UP
theorem Pow.pos{m:Nat}(h:Pow m):8<=m/\m<=512:=by rcases h with rfl | rfl | rfl | rfl | rfl | rfl <;> decide
theorem Pow.mem{m i j:Nat}(h:Pow m)(hi:i < m)(hj:j < m):j∈fu m m i:=by
 have q:=h.covers;unfold ce.covers at q;rw [Db,List.all_eq_true,beq_iff_eq] at q;obtain⟨z,q⟩:=q;obtain⟨a,ha,ea⟩:=zE m m 0 i<|Ep.mp<|q i<|Br.mpr hi;obtain⟨b,hb,eb⟩:=zE m m 0 j<|Ep.mp<|q j<|Br.mpr hj
 rcases Dc b a with c | c
 ·have e:kg m (b+m - a) i=j:=by
   rw [<- ea,<- vB,show a+(b+m - a)=m+b by omega,vB,z,eb]
  rw [<- e];exact zD m m _ i<|by omega
 ·have e:kg m (b - a) i=j:=by
   rw [<- ea,<- vB,show a+(b - a)=b by omega,eb]
  rw [<- e];exact zD m m _ i<|by omega
def nw(mask:Nat):Nat->Nat->Nat->List Nat
 | 0,_,_=>[]
 | n+1,i,p=>i :: nw mask n (SetTable.leap mask i p).1 (SetTable.leap mask i p).2
theorem J0(mask:Nat):∀ n i,nw mask n i 0=fu (mask+1) n i
 | 0,_=>rfl
 | n+1,i=>by
  show i :: nw mask n ((i * 5+1+0 / 32) % (mask+1)) (0 / 32)=i :: fu (mask+1) n (pF (mask+1) i);rw [show(0 / 32:Nat)=0 by decide,Nat.add_zero,J0 mask n];rfl
theorem J1{mask i p:Nat}:(SetTable.leap mask i p).1 < mask+1:=MK _<|Ee _
theorem J2{mask:Nat}:∀(t n i p:Nat),i < mask+1->p < 32 ^ t->∃ i',i' < mask+1/\∀ j∈fu (mask+1) n i',j∈nw mask (t+n) i p
 | 0,n,i,p,hi,hp=>by
  have e:p=0:=by simpa using hp
  subst e;refine⟨i,hi,λj hj=>?_⟩;rw [Fg,J0];exact hj
 | t+1,n,i,p,hi,hp=>by
  have h2:p / 32 < 32 ^ t:=by
   rw [Nat.div_lt_iff_lt_mul<|by decide];rw [Nat.pow_succ] at hp;exact hp
  obtain⟨i',h',q⟩:=J2 t n (SetTable.leap mask i p).1 (p / 32) J1 h2;refine⟨i',h',λj hj=>?_⟩;rw [show t+1+n=(t+n)+1 by omega];exact Af _<|q j hj
theorem J3{mask i p j:Nat}(hm:Pow<|mask+1)(hi:i < mask+1)(hp:p < 2 ^ 64)(hj:j < mask+1):j∈nw mask (mask+15) i p:=by
 obtain⟨i',h',q⟩:=J2 (mask:=mask) 14 (mask+1) i p hi (Bk hp<|by decide);have:=q j<|hm.mem h' hj;rwa [show 14+(mask+1)=mask+15 by omega] at this
abbrev dM:=Array<|Option Nat
def nil?(owner:dM)(j:Nat):Bool:=(owner.getD j<|some 0).isNone
theorem zF(mask i:Nat):i<=SetTable.runEnd mask i:=by unfold SetTable.runEnd;split <;> omega
theorem J5{mask:Nat}{owner:dM}:∀{fuel i p:Nat},SetTable.layClean.free mask owner fuel i p=none->∀ j∈nw mask fuel i p,nil? owner j=false
 | 0,_,_,_,j,hj=>by cases hj
 | fuel+1,i,p,h,j,hj=>by
  unfold SetTable.layClean.free at h
  split at h
  ·cases h
  ·rename_i hf
   rcases Ah.mp hj with rfl | hj
   ·have:=Fh.mp hf 0 (Br.mpr<|by have:=zF mask j;omega);rw [Nat.add_zero] at this;exact Bool.eq_false_iff.mpr this
   ·exact J5 (fuel:=fuel) h j hj
theorem J6{mask:Nat}{owner:dM}:∀{fuel i p j:Nat},SetTable.layClean.free mask owner fuel i p=some j->nil? owner j=true
 | 0,_,_,_,h=>by cases h
 | fuel+1,i,p,j,h=>by
  unfold SetTable.layClean.free at h
  split at h
  ·rename_i k hf;cases h;have:=Gv hf;exact this
  ·exact J6 (fuel:=fuel) h
theorem nil?_iff{owner:dM}{j:Nat}:nil? owner j=true↔owner[j]?=some none:=by
 unfold nil?;rw [Cs];cases h:owner[j]? with
 | none=>simp
 | some v=>cases v <;> simp
structure Lies(m:Nat)(owner:dM)(k:Nat):Prop where
 size:owner.size=m
 lt:∀(j v:Nat),owner[j]?=some (some v)->v < k
 has:∀ v:Nat,v < k->∃ j:Nat,owner[j]?=some (some v)
 inj:∀(i j v:Nat),owner[i]?=some (some v)->owner[j]?=some (some v)->i=j
theorem Lies.start(m:Nat):Lies m (Array.replicate m none) 0 where
 size:=by simp
 lt:=λj v h=>by
  rw [Fy] at h
  split at h <;> cases h
 has:=λv h=>by omega
 inj:=λi j v h=>by
  rw [Fy] at h
  split at h <;> cases h
theorem Lies.put{m k j:Nat}{owner:dM}(L:Lies m owner k)(hj:owner[j]?=some none):Lies m (owner.setIfInBounds j<|some k) (k+1):=by
 have aM:j < owner.size:=by
  rcases Dc j owner.size with h | h
  ·exact h
  ·rw [Dp h] at hj;cases hj
 have at':∀ i:Nat,(owner.setIfInBounds j<|some k)[i]?=if j=i then some (some k) else owner[i]?:=by
  intro i;rw [Fp]
  split
  ·rename_i e;subst e;first | rfl | rw [BL aM]
  ·rfl
 refine⟨by rw [Array.size_setIfInBounds];exact L.size,λi v h=>?_,λv h=>?_,λa b v ha hb=>?_⟩
 ·rw [at'] at h
  split at h
  ·cases h;exact Nat.lt_succ_self _
  ·exact Ge<|L.lt i v h
 ·rcases Nat.lt_succ_iff_lt_or_eq.mp h with h | rfl
  ·obtain⟨i,hi⟩:=L.has v h;refine⟨i,?_⟩;rw [at',BK λe=>by subst e;rw [hj] at hi;cases hi];exact hi
  ·exact⟨j,by rw [at',BL rfl]⟩
 ·rw [at'] at ha hb
  split at ha
  ·rename_i e;cases ha
   split at hb
   ·rename_i e2;exact e.symm.trans e2
   ·have:=L.lt b k hb;omega
  ·split at hb
   ·cases hb;have:=L.lt a k ha;omega
   ·exact L.inj a b v ha hb
def live(m:Nat)(owner:dM):List (Nat×Nat):=(List.range m).filterMap λj=>(owner.getD j none).map (j,·)
theorem getD_some{owner:dM}{j v:Nat}:owner.getD j none=some v↔owner[j]?=some (some v):=by
 rw [Cs];cases h:owner[j]? with
 | none=>simp
 | some x=>simp
theorem cM{m:Nat}{owner:dM}{p:Nat×Nat}:p∈live m owner↔p.1 < m/\owner[p.1]?=some (some p.2):=by
 unfold live;rw [Gc]
 constructor
 ·rintro ⟨j,hj,e⟩;cases hv:owner.getD j none with
  | none=>rw [hv] at e;cases e
  | some v=>
   rw [hv] at e;cases e;exact⟨Br.mp hj,getD_some.mp hv⟩
 ·rintro ⟨h1,h2⟩;exact⟨p.1,Br.mpr h1,by rw [getD_some.mpr h2];rfl⟩
theorem Lies.nodup{m k:Nat}{owner:dM}(L:Lies m owner k):((live m owner).map (·.2)).Nodup:=by
 have q:∀ l:List Nat,l.Nodup->((l.filterMap λj=>(owner.getD j none).map (j,·)).map (·.2)).Nodup:=by
  intro l
  induction l with
  | nil=>intro _;exact Ck
  | cons a r ih=>
   intro hn;rw [Bf] at hn;rw [Ec];cases hv:owner.getD a none with
   | none=>exact ih hn.2
   | some v=>
    show(v :: (r.filterMap λj=>(owner.getD j none).map (j,·)).map (·.2)).Nodup;rw [Bf];refine⟨λh=>?_,ih hn.2⟩;obtain⟨p,hp,e⟩:=An.mp h;obtain⟨j,hj,e2⟩:=Gc.mp hp;cases hw:owner.getD j none with
    | none=>rw [hw] at e2;cases e2
    | some u=>
     rw [hw] at e2;cases e2;have e3:u=v:=e;subst e3;have:=L.inj a j u (getD_some.mp hv)<|getD_some.mp hw;subst this;exact hn.1 hj
 exact q _ Fe
theorem Lies.perm{m k:Nat}{owner:dM}(L:Lies m owner k):((live m owner).map (·.2)).Perm (List.range k):=by
 rw [KY L.nodup Fe];intro v;rw [Br,An]
 constructor
 ·rintro ⟨p,hp,rfl⟩;exact L.lt _ _ (cM.mp hp).2
 ·intro h;obtain⟨j,hj⟩:=L.has v h;have aM:j < m:=by
   rw [<- L.size]
   rcases Dc j owner.size with h | h
   ·exact h
   ·rw [Dp h] at hj;cases hj
  exact⟨(j,v),cM.mpr ⟨aM,hj⟩,rfl⟩
theorem Lies.length{m k:Nat}{owner:dM}(L:Lies m owner k):(live m owner).length=k:=by
 have:=L.perm.length_eq;rwa [Aa,Ci] at this
theorem Lies.room{m k:Nat}{owner:dM}(L:Lies m owner k)(h:k < m):∃ j,j < m/\nil? owner j=true:=by
 refine BX λhn=>?_;have all:∀ j,j < m->∃ v,owner.getD j none=some v:=by
  intro j hj;have hs:j < owner.size:=by rw [L.size];exact hj
  cases hv:owner[j] with
  | none=>exact absurd ⟨j,hj,nil?_iff.mpr<|by rw [Cj hs,hv]⟩ hn
  | some v=>exact⟨v,getD_some.mpr<|by rw [Cj hs,hv]⟩
 have len:∀ l:List Nat,(∀ j∈l,j < m)->(l.filterMap λj=>(owner.getD j none).map (j,·)).length=l.length:=by
  intro l
  induction l with
  | nil=>intro _;rfl
  | cons a r ih=>
   intro hl;obtain⟨v,hv⟩:=all a<|hl a Ad;rw [Ec,hv];show(_ :: _).length=_;rw [Ao,Ao,ih λj hj=>hl j<|Af _ hj]
 have e:=len (List.range m) λj hj=>Br.mp hj;have e2:=L.length;unfold live at e2;rw [e,Ci] at e2;omega
theorem J7(h:Int):SetTable.bits h < 2 ^ 64:=by
 unfold SetTable.bits;have h1:0<=h % (2 ^ 64:Int):=Bv _ (by decide);have h2:h % (2 ^ 64:Int) < 2 ^ 64:=Cb _ (by decide);omega
theorem Lies.free{mask k:Nat}{owner:dM}(L:Lies (mask+1) owner k)(hm:Pow<|mask+1)(h:k < mask+1)(x:Int) :
  ∃ j,SetTable.layClean.free mask owner (SetTable.turns mask) (SetTable.bits x % (mask+1)) (SetTable.bits x)=some j/\owner[j]?=some none:=by
 cases e:SetTable.layClean.free mask owner (SetTable.turns mask) (SetTable.bits x % (mask+1)) (SetTable.bits x) with
 | some j=>exact⟨j,rfl,nil?_iff.mp<|J6 e⟩
 | none=>
  obtain⟨j,hj,q⟩:=L.room h;have:=J5 e j<|J3 hm (MK _<|Ee _) (J7 x) hj;rw [q] at this;cases this
def vC(mask:Nat)(acc:Option<|dM×Nat)(h:Int):Option (dM×Nat):=do
 let (owner,k) <- acc
 let j <- SetTable.layClean.free mask owner (SetTable.turns mask) (SetTable.bits h % (mask+1))<|SetTable.bits h
 pure (owner.setIfInBounds j<|some k,k+1)
def rB(w:World):Bool:=w.params.followText "set-order"
section
variable(prog:Program)(w:World)
end
section
variable{prog:Program}{w:World}{es:Array (Int×Value)}{t:SetTable}{zs:List Str}{h h':Heap}{a:Addr}
end
section
variable{prog:Program}{w:World}{A:Around}{E:Value->Shared->Prop}{s:Shared}{a:Addr}{zs:List Str}
theorem J8{n:Nat}(h:n < 1001):n<=sizeLine:=by rw [CW];omega
theorem cS{α:Type}:∀(l:List α) (j:Nat) (hj:j < l.length),(l[j] :: l.eraseIdx j).Perm l
 | [],_,h=>by simp at h
 | x :: r,0,_=>List.Perm.refl _
 | x :: r,j+1,h=>(List.Perm.swap x _ _).trans<|(cS r j<|Nat.lt_of_succ_lt_succ h).cons x
theorem wp_text{Q:Bool->Shared->Prop}(k:Q (rB w) s):wpAny (model prog w) A setsByText Q E s:=by
 unfold setsByText;exact BJ<|wpAny_askSetting<|BP k
variable{o:Obj}{es:Array (Int×Value)}{ep:Nat}{t:SetTable}
end
open Builtin.Frozenset
section
variable{prog:Program}{w:World}{A:Around}{E:Value->Shared->Prop}{s:Shared}{a:Addr}{zs:List Str}
variable{o:Obj}{ep:Nat}{t:SetTable}
end
section
variable{prog:Program}{w:World}{A:Around}{E:Value->Shared->Prop}{s:Shared}{a r:Addr}{za zr:List Str}
end
section
variable{prog:Program}{w:World}{A:Around}{E:Value->Shared->Prop}{s:Shared}
def rC(w:World):Obj:={cls:= .type "set",dict:=none,data:= .set #[] 0 (.fresh 0 0 (!rB w))}
variable{R:Result->Shared->Prop}{I:Addr}{fp wr:List Addr}{G:Array GenState->Array GenState->Prop}{n:Nat}{P:Nat->Value->Prop}{St:Nat->Shared->Prop}
end
section
variable{prog:Program}{w:World}{A:Around}{E:Value->Shared->Prop}{s:Shared}{a tp it:Addr}{zs:List Str}{o:Obj}{es:Array (Int×Value)}{ep:Nat}{t:SetTable}{ws:List (Int×Value)}{i:Nat}{first:Value}
open PySem.Spec
end
end ce
namespace ce
open PySem PySem.Spec PyProof.Rows
theorem kh{a b:Str}(h:a.cps.toList=b.cps.toList):a=b:=by
 cases a;cases b;simp only at h;have:=Array.toList_inj.mp h;rw [this]
section
variable{prog:Program}{w:World}{A:Around}{E:Value->Shared->Prop}{s:Shared}{a:Addr}{zs:List Str}
end
end ce
namespace L2
open PySem PySem.Spec PyProof.Rows ce
section
variable{X:Cx}{pins:List (Addr×Obj)}{σ:St}{H:Hp}{s s':Shared}{a:Addr}{zs:List Str}
theorem Inv.like(I:Inv X pins σ H s)(e1:s'.heap=s.heap)(e2:s'.gens=s.gens)(e3:s'.os=s.os):Inv X pins σ H s':=by
 obtain⟨h,g,d,t,o⟩:=s;obtain⟨h',g',d',t',o'⟩:=s';simp only at e1 e2 e3;subst e1 e2 e3;exact⟨I.ok,I.os,I.bare,I.base,I.loc,I.cell,I.free,I.b6,I.pin,I.aD,I.len⟩
theorem Inv.lG{o:HO}(I:Inv X pins σ H s)(k:∀ b u,s.heap.get? b=some u->s'.heap.get? b=some u)(e2:s'.gens=s.gens)(e3:s'.os=s.os)(hp:s.heap.objs.size<=a)(new:ay X.prog X.w (upd H a o) s'.heap a o):Inv X pins σ (upd H a o) s':=
 (I.laid (t':=s.toks) k hp new).like (s':=s') rfl e2 e3
end
end L2
namespace L2
open PySem PySem.Spec PyProof.Rows
section
variable{X:Cx}{o e:Expr}{σ:St}{H:Hp}{Q:VK}{ap cp:Pos}
theorem jH (h:Ev X o σ H λx H1=>∃ l,x = .ref l/\(∃ xs,H1 l=some (.lst xs))/\Ev X e σ H1 λy H2=>∃ xs,H2 l=some (.lst xs)/\xs.length < sizeLine/\Q .non (upd H2 l<|.lst<|xs++[y]))
  (b8:attributeBase o "append" X.env (eval o X.env)=eval o X.env:=by rfl)
  (eG:((backTo cp<|starEach [e] X.env).all (λx=>!x.1) && (backToKw cp<|keywordEach [] X.env).all (λx=>x.1.isSome) && decide ([e].length+([]:List Keyword).length+(if([]:List Keyword).isEmpty then 0 else 1) < 30))=true:=by rfl)
  (hline:(ap.endLine == cp.line)=true:=by rfl) (hs:starEach [e] X.env=(false,eval e X.env) :: starEach [] X.env:=by rfl) (bV:(backTo cp<|starEach [] X.env).any (·.1)=false:=by rfl) (cD:isStar e=false:=by rfl) :
  Ev X (.Call (.Attribute o "append" ap) [e] [] cp) σ H Q:=by
 refine dc (yL GQ PySem.F.slot_list_append PySem.F.type_list_append IQ bG (eI (es:=[e])) b8 eG hline hs bV)<|h.mono λx H1 ⟨l,ex,⟨xs,hl⟩,h2⟩=>?_;subst ex;refine⟨.inl ⟨rfl,xs,ao.of hl⟩,?_⟩;exact aq (h2.mono λy H2 ⟨ys,hy,hz,q⟩=>aB ⟨l,ys,y,rfl,rfl,hy,hz,q⟩) cD
end
section
variable{X:Cx}{c:Expr}{body jB rest:List Stmt}{D:Ends}{σ:St}{H:Hp}{pos:Pos}
theorem Run.nx{M M':St->Hp->Prop}{l:List Stmt}(h:Run X l {D with nx:=M} σ H)(f:∀ σ' H',M σ' H'->M' σ' H'):Run X l {D with nx:=M'} σ H:=
 ⟨λpins s I => aI (h.run pins s I) λfl s' q => by
  cases fl with
  | next=>
   obtain⟨σ',H',I',m⟩:=q;exact⟨σ',H',I',f σ' H' m⟩
  | _=>exact q⟩
theorem J9(φ ψ:Prop)(M:St->Hp->Prop)(hc:∀ T:Bool->Hp->Prop,(∀ k:Bool,(k=true->φ)->(k=false->ψ)->T k H)->Et X c σ H T)(ht:φ->Run X body {D with nx:=M} σ H)(hu:ψ->Run X jB {D with nx:=M} σ H)
  (hr:∀ σ' H',M σ' H'->Run X rest D σ' H'):Run X (.If c body jB pos :: rest) D σ H:=
 Jt φ ψ hc (λp=>(ht p).nx hr) (λp=>(hu p).nx hr)
end
def lH(X:Cx)(H:Hp)(k:Nat)(x y:V)(b:Bool):Prop:=∀(pins:List<|Addr×Obj) (σ:St) (s:Shared) (A:Around) (u v:Value),Inv X pins σ H s->A.units+k < cLine->RelV x u->RelV y v->SeqAt.EqAt A s u v b
def pG(X:Cx)(H:Hp)(k:Nat)(x y:V)(b:Bool):Prop:=∀(pins:List<|Addr×Obj) (σ:St) (s:Shared) (A:Around) (u v:Value),Inv X pins σ H s->A.units+k < cLine->RelV x u->RelV y v->SeqAt.RcAt A s u v b
def pH(X:Cx)(H:Hp)(k:Nat)(x y:V)(b:Bool):Prop:=∀(pins:List<|Addr×Obj) (σ:St) (s:Shared) (A:Around) (u v:Value),Inv X pins σ H s->A.units+k < cLine->RelV x u->RelV y v->SeqAt.RcNeAt A s u v (!b)
section
variable{X:Cx}{H:Hp}{k:Nat}{a b:Addr}{xs ys:List V}
theorem rD{x y:V}(fx:vh x=true)(fy:vh y=true):lH X H k x y (dJ x y):=λ_ _ _ _ _ _ _ _ rx ry=>SX rx ry fx fy
theorem lI{us:List Value}(r:aw xs us){j:Nat}(h:j < us.length):∃ x,xs[j]?=some x/\RelV x us[j]:=by
 have hl:=r.length;have hj:j < xs.length:=by omega
 obtain⟨u,e,q⟩:=r.get<|Ab hj;rw [Ab h] at e;cases e;exact⟨_,Ab hj,q⟩
theorem UQ(e:Nat->Bool)(ha:ao X.K H a xs)(hb:ao X.K H b ys)(hl:xs.length=ys.length)(he:∀ j x y,xs[j]?=some x->ys[j]?=some y->lH X H k x y (e j)):pG X H (k+1) (.ref a) (.ref b) ((List.range xs.length).all e):=λpins σ s A u v I hu rx ry=>by
 cases rx;cases ry;obtain⟨i1,r1,p1,_⟩:=I.list ha;obtain⟨i2,r2,p2,_⟩:=I.list hb;have l1:=r1.length;have l2:=r2.length;have q:=SeqAt.RcAt.lists (A:=A) (e:=e) p1.isList p2.isList (by simp;omega) (by omega) λj h1 h2=>by
  obtain⟨x,ex,qx⟩:=lI r1 (j:=j) (by simpa using h1);obtain⟨y,ey,qy⟩:=lI r2 (j:=j) (by simpa using h2);exact he j x y ex ey pins σ s A.in1 _ _ I (by show A.units+1+k < cLine;omega) (by simpa using qx)<|by simpa using qy
 rw [Au,<- l1] at q;exact q
theorem J'(e:Nat->Bool)(ha:ao X.K H a xs)(hb:ao X.K H b ys)(hl:xs.length=ys.length)(he:∀ j x y,xs[j]?=some x->ys[j]?=some y->lH X H k x y (e j)):pH X H (k+1) (.ref a) (.ref b) ((List.range xs.length).all e):=λpins σ s A u v I hu rx ry=>by
 cases rx;cases ry;obtain⟨i1,r1,p1,_⟩:=I.list ha;obtain⟨i2,r2,p2,_⟩:=I.list hb;have l1:=r1.length;have l2:=r2.length;have q:=SeqAt.RcNeAt.lists (A:=A) (e:=e) p1.isList p2.isList (by simp;omega) (by omega) λj h1 h2=>by
  obtain⟨x,ex,qx⟩:=lI r1 (j:=j) (by simpa using h1);obtain⟨y,ey,qy⟩:=lI r2 (j:=j) (by simpa using h2);exact he j x y ex ey pins σ s A.in1 _ _ I (by show A.units+1+k < cLine;omega) (by simpa using qx)<|by simpa using qy
 rw [Au,<- l1] at q;exact q
theorem UR(ha:ao X.K H a xs)(hb:ao X.K H b ys)(hl:xs.length≠ys.length):pG X H k (.ref a) (.ref b) false:=λpins σ s A u v I hu rx ry=>by
 cases rx;cases ry;obtain⟨i1,r1,p1,_⟩:=I.list ha;obtain⟨i2,r2,p2,_⟩:=I.list hb;have l1:=r1.length;have l2:=r2.length;exact SeqAt.RcAt.lists_lengths p1.isList p2.isList (by simp;omega)<|by omega
theorem Ka(ha:ao X.K H a xs)(hb:ao X.K H b ys)(hl:xs.length≠ys.length):pH X H k (.ref a) (.ref b) false:=λpins σ s A u v I hu rx ry=>by
 cases rx;cases ry;obtain⟨i1,r1,p1,_⟩:=I.list ha;obtain⟨i2,r2,p2,_⟩:=I.list hb;have l1:=r1.length;have l2:=r2.length;exact SeqAt.RcNeAt.lists_lengths p1.isList p2.isList (by simp;omega)<|by omega
theorem UT(e:Nat->Bool)(ha:aQ X.K H a xs)(hb:aQ X.K H b ys)(hl:xs.length=ys.length)(he:∀ j x y,xs[j]?=some x->ys[j]?=some y->lH X H k x y (e j)):pG X H (k+1) (.ref a) (.ref b) ((List.range xs.length).all e):=λpins σ s A u v I hu rx ry=>by
 cases rx;cases ry;obtain⟨i1,r1,p1,_⟩:=I.tuple ha;obtain⟨i2,r2,p2,_⟩:=I.tuple hb;have l1:=r1.length;have l2:=r2.length;have q:=SeqAt.RcAt.tuples (A:=A) (e:=e) p1 p2 (by omega) λj h1 h2=>by
  obtain⟨x,ex,qx⟩:=lI r1 (j:=j) (by simpa using h1);obtain⟨y,ey,qy⟩:=lI r2 (j:=j) (by simpa using h2);exact he j x y ex ey pins σ s A.in1 _ _ I (by show A.units+1+k < cLine;omega) (by simpa using qx)<|by simpa using qy
 rw [Au,Au,<- l1,<- l2,hl,Nat.min_self,<- hl] at q
 simpa using q
theorem UU(n:Nat):(List.range n).all (λ_=>true)=true:=by simp
theorem Kb(hu:X.A.units+100 < cLine):cX X (compareOp .Eq) (λx y H Q=>∃ k c,k<=100/\pG X H k x y c/\Q (.bl c) H):=by
 intro pins s σ H x y v u Q I rx ry h;obtain⟨k,c,hk,hc,q⟩:=h;exact hc pins σ s X.A v u I (by omega) rx ry X.prog X.w X.xe _ ⟨.bl c,H,I,rfl,q⟩
theorem vD(hu:X.A.units+100 < cLine):cX X (compareOp .NotEq) (λx y H Q=>∃ k c,k<=100/\pH X H k x y c/\Q (.bl (!c)) H):=by
 intro pins s σ H x y v u Q I rx ry h;obtain⟨k,c,hk,hc,q⟩:=h;exact hc pins σ s X.A v u I (by omega) rx ry X.prog X.w X.xe _ ⟨.bl (!c),H,I,rfl,q⟩
theorem Kc(e:Nat->Bool)(ha:aQ X.K H a xs)(hb:aQ X.K H b ys)(hl:xs.length=ys.length)(he:∀ j x y,xs[j]?=some x->ys[j]?=some y->lH X H k x y (e j)):pH X H (k+1) (.ref a) (.ref b) ((List.range xs.length).all e):=λpins σ s A u v I hu rx ry=>by
 cases rx;cases ry;obtain⟨i1,r1,p1,_⟩:=I.tuple ha;obtain⟨i2,r2,p2,_⟩:=I.tuple hb;have l1:=r1.length;have l2:=r2.length;have q:=SeqAt.RcNeAt.tuples (A:=A) (e:=e) p1 p2 (by omega) λj h1 h2=>by
  obtain⟨x,ex,qx⟩:=lI r1 (j:=j) (by simpa using h1);obtain⟨y,ey,qy⟩:=lI r2 (j:=j) (by simpa using h2);exact he j x y ex ey pins σ s A.in1 _ _ I (by show A.units+1+k < cLine;omega) (by simpa using qx)<|by simpa using qy
 rw [Au,Au,<- l1,<- l2,hl,Nat.min_self,<- hl] at q
 simpa using q
end
section
variable{X:Cx}{o e f c:Expr}{σ:St}{H:Hp}{Q:VK}{T:Bool->Hp->Prop}{ap cp pos:Pos}{body rest:List Stmt}{D:Ends}
theorem UW{name:Str}{Ty id:String}{r:V->List V->Hp->VK->Prop}(pa:PlainAttrs Ty)(slot:Slot Ty name id)(qV:typeOf (.builtin id)=pure (.type "method_descriptor"))(hm:yH X id r)
  (h:Ev X o σ H λx H1=>pq X.K Ty x H1/\Ev X e σ H1 λy H2=>r x [y] H2 Q) (b8:attributeBase o name X.env (eval o X.env)=eval o X.env:=by rfl)
  (eG:((backTo cp<|starEach [e] X.env).all (λx=>!x.1) && (backToKw cp<|keywordEach [] X.env).all (λx=>x.1.isSome) && decide ([e].length+([]:List Keyword).length+(if([]:List Keyword).isEmpty then 0 else 1) < 30))=true:=by rfl)
  (hline:(ap.endLine == cp.line)=true:=by rfl) (hs:starEach [e] X.env=(false,eval e X.env) :: starEach [] X.env:=by rfl) (bV:(backTo cp<|starEach [] X.env).any (·.1)=false:=by rfl) (cD:isStar e=false:=by rfl):Ev X (.Call (.Attribute o name ap) [e] [] cp) σ H Q:=
 dc (yL pa slot qV hm bG (eI (es:=[e])) b8 eG hline hs bV) (h.mono λx H1 ⟨t,h2⟩=>⟨t,aq (h2.mono λy H2 q=>aB q) cD⟩)
theorem zG{name:Str}{Ty id:String}{r:V->List V->Hp->VK->Prop}(pa:PlainAttrs Ty)(slot:Slot Ty name id)(qV:typeOf (.builtin id)=pure (.type "method_descriptor"))(hm:yH X id r)
  (h:Ev X o σ H λx H1=>pq X.K Ty x H1/\Ev X e σ H1 λy H2=>Ev X f σ H2 λz H3=>r x [y,z] H3 Q) (b8:attributeBase o name X.env (eval o X.env)=eval o X.env:=by rfl)
  (eG:((backTo cp<|starEach [e,f] X.env).all (λx=>!x.1) && (backToKw cp<|keywordEach [] X.env).all (λx=>x.1.isSome) && decide ([e,f].length+([]:List Keyword).length+(if([]:List Keyword).isEmpty then 0 else 1) < 30))=true:=by rfl)
  (hline:(ap.endLine == cp.line)=true:=by rfl) (hs:starEach [e,f] X.env=(false,eval e X.env) :: starEach [f] X.env:=by rfl) (bV:(backTo cp<|starEach [f] X.env).any (·.1)=false:=by rfl) (cD:isStar e=false:=by rfl) (UX:isStar f=false:=by rfl):Ev X (.Call (.Attribute o name ap) [e,f] [] cp) σ H Q:=
 dc (yL pa slot qV hm bG (eI (es:=[e,f])) b8 eG hline hs bV) (h.mono λx H1 ⟨t,h2⟩=>⟨t,aq (h2.mono λy H2 h3=>aq (h3.mono λz H3 q=>aB q) UX) cD⟩)
def insertAt(xs:List V)(i:Nat)(y:V):List V:=xs.take i++y :: xs.drop i
def UY:V->List V->Hp->VK->Prop:=λx vs H Q=>∃ l xs i y,x = .ref l/\vs=[.int i,y]/\H l=some (.lst xs)/\0<=i/\i.toNat<=xs.length/\xs.length < sizeLine/\Q .non (upd H l<|.lst<|insertAt xs i.toNat y)
theorem UZ{i:Int}(h0:0<=i)(h:i<=16777216):¬(!Builtin.List.listFitsIndex i)=true:=by
 have e:Builtin.List.listFitsIndex i=true:=by
  unfold Builtin.List.listFitsIndex;rw [Db,DQ,DQ];omega
 rw [e];exact As
theorem Kd:qW X "list.insert" UY:=by
 intro pins s σ H x vs v us Q I rx rv h;obtain⟨l,xs,i,y,rfl,rfl,hH,h0,hi,hz,q⟩:=h;cases rx;obtain⟨u,w',rfl,ru,dS⟩:=rv.two;obtain⟨tk,rfl⟩:=ru;obtain⟨z,its,n,r,hl,e⟩:=I.fT hH;have hs:sizeLine=16777216:=CW;have z2:its.toArray.size<=sizeLine:=by rw [Au,<- hl];exact z
 have mm:=AutoSeq1.list_insert_list_int_val_1 l its.toArray n i tk w' (UZ h0<|by omega) z2;refine MJ F.slot_list_insert ⟨_,e,rfl⟩ F.entry_list_insert (F.args_list_insert_3 _ _ _) mm ⟨e,?_⟩;have ef:(λxs:Array Value=>have k:=if i < 0 then(i+(xs.size:Int)).toNat else min i.toNat xs.size;(xs.extract 0 k).push w'++xs.extract k) its.toArray=(its.take i.toNat++w' :: its.drop i.toNat).toArray:=by
  have hn:¬ i < 0:=by omega
  have hm:min i.toNat its.length=i.toNat:=by omega
  simp only [hn,CJ,Au,hm];apply Array.ext';simp;exact Dh<|by simp
 refine⟨.non,_,I.j7 (its':=its.take i.toNat++w' :: its.drop i.toNat) hH e ef ((r.take i.toNat).append<|.cons dS<|r.drop i.toNat) ?_,rfl,q⟩;rw [Ag,Ao,Bl,Cz];omega
def U0:V->List V->Hp->VK->Prop:=λx vs H Q=>∃ a kvs k y,x = .ref a/\vs=[kV k,y]/\H a=some (.dK kvs)/\kvs.length < sizeLine /\
 ((∃ v,aC kvs k=some v/\Q v H)\/(aC kvs k=none/\Q y (upd H a<|.dK<|putK kvs k y)))
theorem U1:qW X "dict.setdefault" U0:=by
 intro pins s σ H x vs v us Q I rx rv h;obtain⟨a,kvs,k,y,rfl,rfl,hH,hz,q⟩:=h;cases rx;obtain⟨u,w',rfl,ru,dS⟩:=rv.two;obtain⟨z,hd,rs,rel,dd⟩:=rh I.aD hH;have hl:=rel.length;refine call_meetsIn F.slot_dict_setdefault dd.typeIs F.entry_dict_setdefault (F.args_dict_setdefault_3 _ _ _) (kt_meets_setdefault (bI X.prog X.w) a (lq ru) hd w') ⟨rs,dd,by omega,λv hv=>?_,λhn h' iH hs=>?_⟩
 ·have fI:=rel.val k;rw [hv] at fI
  rcases q with ⟨v',e',q⟩ | ⟨e',_⟩
  ·rw [e'] at fI;exact⟨v',H,I.tok _,fI,q⟩
  ·rw [e'] at fI;exact fI.elim
 ·have fI:=rel.val k;rw [hn] at fI
  rcases q with ⟨v',e',_⟩ | ⟨e',q⟩
  ·rw [e'] at fI;exact fI.elim
  ·have he:∃ q,h'.get? a=some q:=let ⟨q,_,_,hq,_⟩:=iH;⟨q,hq⟩
   have qX:(putK kvs k y).length<=sizeLine:=by have:=gD kvs k y;omega
   exact⟨y,_,lu I (by rw [hH];exact True.intro) hs he<|yT qX hd (rel.put k dS) iH,dS,q⟩
theorem Ke:g6 X (.type "int") (λxs H Q=>∃ b:Bool,xs=[.bl b]/\Q (.int (if b then 1 else 0)) H):=by
 intro pins s σ H xs us Q I r h;obtain⟨b,rfl,q⟩:=h;obtain⟨u,rfl,ru⟩:=vals1 r;cases (show u=Value.bool b from ru);exact call_int_bool ⟨.int (if b then 1 else 0),H,I.tok _,⟨_,rfl⟩,q⟩
theorem U2{jB:List Stmt}(Φ:Bool->Hp->Prop)(M:St->Hp->Prop)(hc:Et X c σ H Φ)(ht:∀ H1,Φ true H1->Run X body {D with nx:=M} σ H1)(hu:∀ H1,Φ false H1->Run X jB {D with nx:=M} σ H1)
  (hr:∀ σ' H',M σ' H'->Run X rest D σ' H'):Run X (.If c body jB pos :: rest) D σ H:=
 hU (hc.mono λk H1 p=>by
  cases k with
  | true=>rw [BL rfl];exact(ht H1 p).nx hr
  | false=>rw [BK As];exact(hu H1 p).nx hr)
theorem vE(W:Nat->St->Hp->Prop){m0:Nat}(h0:W m0 σ H)
  (turn:∀ m σ H,W m σ H->Et X c σ H λb H1=>if b=true then Run X body {D with nx:=λσ' H'=>∃ m',m' < m/\W m' σ' H',ct:=λσ' H'=>∃ m',m' < m/\W m' σ' H',bk:=λσ' H'=>Run X rest D σ' H'} σ H1 else Run X rest D σ H1)
  (hp:PassesOwn (model X.prog X.w) X.A X.env X.xe:=by exact HS):Run X (.While c body [] pos :: rest) D σ H:=by
 refine jC (RC hp m6 pB) ⟨W,⟨m0,h0⟩,λm σ1 H1 w1=>(turn m σ1 H1 w1).mono λb H2 q=>?_⟩;cases b with
 | true=>
  rw [BL rfl] at q;exact⟨λσ' H'=>∃ m',m' < m/\W m' σ' H',λ_ _ h=>h,q⟩
 | false=>
  rw [BK As] at q;exact q
theorem zH(h:∀ p,H p=none->Q (.ref p) (upd H p<|.dK [])):Ev X (.Dict [] [] pos) σ H Q:=dc TH h
theorem Kf(h:∀ p,H p=none->Q (.ref p) (upd H p<|.dT [])):Ev X (.Dict [] [] pos) σ H Q:=dc TJ h
theorem i4(hu:X.A.units+1 < cLine)(h:Ev X o σ H λx H1=>Ev X e σ H1 λy H2=>∃ a v,x = .ref a/\bp H2 a y (some v)/\Q v H2)(hs:mZ e:=by intro _ _;rfl):Ev X (.Subscript o e pos) σ H Q:=dc (Tx hu bG bG hs) h
theorem vF(hu:X.A.units+1 < cLine)(h:Ev X e σ H λy H1=>Ev X o σ H1 λx H2=>∃ a r,x = .ref a/\bp H2 a y r/\T r.isSome H2)(hm:behindInMarks .In o=false:=by with_unfolding_all rfl):Et X (.Compare e [.In] [o] pos) σ H T:=
 pC (Ia (Tz hu bG bG) hm) (h.mono λy H1 h2=>h2.mono λx H2 ⟨a,r,h3,h4,h5⟩=>⟨a,r,h3,h4,_,rfl,h5⟩)
theorem U3(hu:X.A.units+1 < cLine)(h:Ev X e σ H λy H1=>Ev X o σ H1 λx H2=>∃ a r,x = .ref a/\bp H2 a y r/\T (!r.isSome) H2)(hm:behindInMarks .NotIn o=false:=by with_unfolding_all rfl):Et X (.Compare e [.NotIn] [o] pos) σ H T:=
 pC (Ia (TB hu bG bG) hm) (h.mono λy H1 h2=>h2.mono λx H2 ⟨a,r,h3,h4,h5⟩=>⟨a,r,h3,h4,_,rfl,h5⟩)
theorem rE{p2:Pos}(hu:X.A.units+1 < cLine)(h:Ev X f σ H λv H1=>Ev X o σ H1 λx H2=>Ev X e σ H2 λy H3=>∃ a H4,x = .ref a/\b9 H3 a y v H4/\Run X rest D σ H4)(hs:swapsWith f (some<|.Subscript o e p2) pos.line X.env=pure false:=by rfl) :
  Run X (.Assign [.Subscript o e p2] f pos :: rest) D σ H:=jC (TC hu bG bG bG hs) h
end
end L2
namespace bB
open PySem PySem.Spec PyProof.Rows
def lexLt(a b:Int×Int):Bool:=if a.1=b.1 then decide (a.2 < b.2) else decide (a.1 < b.1)
theorem U4(b:Bool)(x y:Value):keyLt' (tuples' b) x y=(do
  let xs <- Builtin.List.listItems x
  let ys <- Builtin.List.listItems y
  for ((p,q),i) in (xs.toList.zip ys.toList).zipIdx do
   if !(<- eqBool p q) then return <- oneLt' (b && i == 0) p q
  return xs.size < ys.size):=rfl
section
variable{prog:Program}{w:World}{A:Around}{E:Value->Shared->Prop}{s:Shared}
def Pr(h:Heap)(a:Addr)(p:Int×Int):Prop:=∃ o n t u,h.get? a=some o/\o.cls = .type "tuple"/\o.data = .seq #[.int p.1 t,.int p.2 u] n
theorem Kg{a b:Int}{t u:Tok}{Q:Bool->Shared->Prop}(h:Q (decide (a=b)) s):wpAny (model prog w) A (eqBool (.int a t)<|.int b u) Q E s:=by
 refine SeqAt.EqAt.int_int a t b u prog w E Q ?_;have e:(a == b)=decide (a=b):=rfl;rw [e];exact h
theorem U5{a b:Int}{t u:Tok}{Q:Bool->Shared->Prop}(h:Q (decide (a < b)) s):wpAny (model prog w) A (oneLt' false (.int a t)<|.int b u) Q E s:=by
 rw [oneLt'_eq];simp only [Bg,CJ];refine BJ ?_;show wpAny _ _ (compareOp .Lt (.int a t)<|.int b u) _ _ _;exact lt_int<|DK h
theorem U6{x y:Addr}{p q:Int×Int}{Q:Bool->Shared->Prop}(hx:Pr s.heap x p)(hy:Pr s.heap y q)(h:Q (lexLt p q) s):wpAny (model prog w) A (keyLt' (tuples' true) (.ref x)<|.ref y) Q E s:=by
 obtain⟨ox,nx,tx,ux,vG,cx,dx⟩:=hx;obtain⟨oy,ny,ty,uy,U7,cy,dy⟩:=hy;rw [U4];refine BJ<|JM vG dx ?_;refine BJ<|JM U7 dy ?_;show wpAny _ _ (forIn [((Value.int p.1 tx,Value.int q.1 ty),0),((Value.int p.2 ux,Value.int q.2 uy),1)] _ _ >>= _) _ _ _;rw [QD];refine BJ<|BJ ?_
 dsimp only
 refine BJ<|Kg ?_
 by_cases c:p.1=q.1
 ·rw [BW c];simp only [Fc,Bg,CJ];refine BP ?_
  dsimp only
  rw [QD];refine BJ ?_
  dsimp only
  refine BJ<|Kg ?_
  by_cases c2:p.2=q.2
  ·rw [BW c2];simp only [Fc,Bg,CJ];refine BP ?_
   dsimp only
   rw [List.forIn_nil];refine BP<|BP ?_;have e:lexLt p q=false:=by unfold lexLt;rw [BL c,c2];simp
   rw [e] at h
   simpa using h
  ·rw [BR c2];simp only [Gf,CQ];refine BJ<|U5<|BP ?_
   dsimp only
   refine BP<|BP ?_;have e:lexLt p q=decide (p.2 < q.2):=by unfold lexLt;rw [BL c]
   rw [e] at h;exact h
 ·rw [BR c];simp only [Gf,CQ];refine BJ<|oneLt_int<|BP ?_
  dsimp only
  refine BP<|BP ?_;have e:lexLt p q=decide (p.1 < q.1):=by unfold lexLt;rw [BK c]
  rw [e] at h;exact h
theorem U8{x y:Value}:(#[x,y]:Array Value).size<=sizeLine+1:=by
 rw [CW];show 2<=_;decide
theorem U9(v:Value):firstOfTuple' v=(do
  if(<- typeOf v) != .type "tuple" then return none
  return (<- Builtin.List.listItems v)[0]?):=rfl
theorem Kh{x:Addr}{p:Int×Int}{Q:Option Value->Shared->Prop}(hx:Pr s.heap x p)(h:∀ t,Q (some<|.int p.1 t) s):wpAny (model prog w) A (firstOfTuple'<|.ref x) Q E s:=by
 obtain⟨ox,nx,tx,ux,vG,cx,dx⟩:=hx;rw [U9];refine BJ<|JN (T:= "tuple") ⟨ox,vG,cx⟩ ?_;rw [show(Value.type "tuple" != Value.type "tuple")=false by decide];simp only [Bg,CJ];refine BJ<|JM vG dx ?_;exact BP<|h tx
theorem U'{x y:Addr}{p q:Int×Int}{Q:SortKind->Shared->Prop}(hx:Pr s.heap x p)(hy:Pr s.heap y q)(h:Q (tuples' true) s):wpAny (model prog w) A (keyKind' #[.ref x,.ref y]) Q E s:=by
 rw [keyKind'_eq,show(#[.ref x,.ref y]:Array Value)=[.ref x,.ref y].toArray from rfl,List.mapM_toArray];refine BJ<|wpAny_map ?_;rw [List.mapM_cons];refine BJ<|Kh hx λt=>?_;rw [List.mapM_cons];refine BJ<|BJ<|Kh hy λu=>?_;rw [List.mapM_nil];refine BJ<|BP<|BP<|BP ?_;rw [BL<|by simp];refine BJ<|IV ?_;rw [oneTypeOnly'_eq];show wpAny _ _ ((Array.mapM typeOf [Value.int p.1 t,Value.int q.1 u].toArray >>= _) >>= _) _ _ _;rw [List.mapM_toArray];have e1:[Value.int p.1 t,Value.int q.1 u].mapM typeOf=(pure [Value.type "int",Value.type "int"]:Sem _):=rfl;rw [e1];refine BP ?_;have e2:(if((#[Value.type "int",Value.type "int"]:Array Value).all λx=>x == (#[Value.type "int",Value.type "int"]:Array Value)[0])=true then some (#[Value.type "int",Value.type "int"]:Array Value)[0] else none)=some (Value.type "int"):=by
  rw [BL]
  ·rfl
  ·simp
 show Q (tuples'<|Option.any (λx=>x != Value.type "tuple") _) s;rw [e2];exact h
theorem wp_at{st:SortSt}{x y:Addr}{p q:Int×Int}{i j:Nat}{Q:Option Bool->SortSt->Prop}(hk:kindOf st=tuples' true)(hi:(arrOf st)[i]?=some (.ref x,.ref x))(hj:(arrOf st)[j]?=some (.ref y,.ref y))(hx:Pr s.heap x p)(hy:Pr s.heap y q)(h:Q (some<|lexLt p q) st) :
  wpS (model prog w) A E s (ltAt' i j) Q st:=by
 rw [ltAt'_eq];refine DX<|wpS_get ?_;show wpS _ _ _ _ (elem' (arrOf st) i >>= λa=>elem' (arrOf st) j >>= λb=>lt' a b) Q st;rw [elem'_eq,elem'_eq,hi,hj];refine DX<|HJ<|DX<|HJ ?_;rw [lt'_eq];refine DX<|wpS_get ?_;rw [hk];refine DX<|wpS_lift<|wpAny_attempt<|U6 hx hy ⟨rfl,?_⟩;exact HJ h
def jI(x y:Addr)(p q:Int×Int):Array Keyed:=if lexLt q p then #[(.ref y,.ref y),(.ref x,.ref x)] else #[(.ref x,.ref x),(.ref y,.ref y)]
theorem Va{x y:Addr}{p q:Int×Int}{Q:Option Nat->SortSt->Prop}(hx:Pr s.heap x p)(hy:Pr s.heap y q)
  (h:Q (some 2)<|SortSt.mk' (tuples' true) (jI x y p q) #[] 7 none):wpS (model prog w) A E s (countRun' 0 2) Q (SortSt.mk' (tuples' true) #[(.ref x,.ref x),(.ref y,.ref y)] #[] 7 none):=by
 rw [countRun0_eq];refine DX ?_;unfold ascLoop;refine wpS_mono (JQ (I:=λi c st=>st=SortSt.mk' (tuples' true) #[(.ref x,.ref x),(.ref y,.ref y)] #[] 7 none/\c=(none,i)/\(i=2->lexLt q p=false))
  (Q:=λc st=>st=SortSt.mk' (tuples' true) #[(.ref x,.ref x),(.ref y,.ref y)] #[] 7 none/\((c=(none,1)/\lexLt q p=true)\/(c=(none,2)/\lexLt q p=false))) ?_ ?_ ⟨rfl,rfl,λh=>by cases h⟩) ?_
 ·rintro i c st h1 h2 ⟨rfl,rfl,hI⟩;have e:i=1:=by omega
  subst e;refine DX<|wp_at rfl rfl rfl hy hx ?_
  dsimp only
  cases hb:lexLt q p with
  | true=>
   rw [BL rfl];exact HJ ⟨rfl,.inl ⟨rfl,rfl⟩⟩
  | false=>
   rw [BK As];exact HJ ⟨rfl,rfl,λ_=>rfl⟩
 ·rintro c st ⟨rfl,rfl,hI⟩;exact⟨rfl,.inr ⟨rfl,hI rfl⟩⟩
 ·rintro c st ⟨rfl,⟨rfl,hb⟩ | ⟨rfl,hb⟩⟩
  ·dsimp only
   rw [BK (by decide),BK<|by decide];unfold descPart;refine DX<|wpS_lift<|IV ⟨rfl,?_⟩;unfold descLoop;refine DX (wpS_mono (JQ (I:=λi c st=>c=(none,2,0)/\st=SortSt.mk' (tuples' true) #[(.ref x,.ref x),(.ref y,.ref y)] #[] 7 none) (Q:=λc st=>c=(none,2,0)/\st=SortSt.mk' (tuples' true) #[(.ref x,.ref x),(.ref y,.ref y)] #[] 7 none) (λi c st h1 h2 _=>by omega) (λc st h=>h) ⟨rfl,rfl⟩) ?_);rintro c st ⟨rfl,rfl⟩
   dsimp only
   rw [BK<|by decide];unfold tail3;refine DX<|wpS_reverse ?_;unfold ascLoop;refine DX (wpS_mono (JQ (I:=λi c st=>c=(none,2)/\st=SortSt.mk' (tuples' true) #[(.ref y,.ref y),(.ref x,.ref x)] #[] 7 none) (Q:=λc st=>c=(none,2)/\st=SortSt.mk' (tuples' true) #[(.ref y,.ref y),(.ref x,.ref x)] #[] 7 none) (λi c st h1 h2 _=>by omega) (λc st h=>h) ⟨rfl,rfl⟩) ?_);rintro c st ⟨rfl,rfl⟩
   dsimp only
   refine HJ ?_;unfold jI at h;rw [BL hb] at h;exact h
  ·dsimp only
   rw [BL<|by decide];refine HJ ?_;unfold jI at h;rw [BK<|by rw [hb];exact As] at h;exact h
theorem Vb{x y:Addr}{p q:Int×Int}{Q:Unit->SortSt->Prop}(hx:Pr s.heap x p)(hy:Pr s.heap y q)(h:∀ st,arrOf st=jI x y p q->failedOf st=none->Q () st) :
  wpS (model prog w) A E s sortRuns' Q (SortSt.mk' (tuples' true) #[(.ref x,.ref x),(.ref y,.ref y)] #[] 7 none):=by
 rw [sortRuns'_eq];refine DX<|wpS_get ?_
 dsimp only
 have Vc:minRun' 2 2 0=2:=by rw [minRun'_succ,BL<|by decide]
 show wpS _ _ _ _ ((forIn [0:2] _ _) >>= _) _ _;have sz:(#[(Value.ref x,Value.ref x),(Value.ref y,Value.ref y)]:Array Keyed).size=2:=rfl;refine DX<|wpS_mono (JQ (I:=λi c st=>(i=0/\c=(none,0)/\st=SortSt.mk' (tuples' true) #[(.ref x,.ref x),(.ref y,.ref y)] #[] 7 none)\/(1<=i/\c=(none,2)/\st=SortSt.mk' (tuples' true) (jI x y p q) #[(0,2,0)] 7 none))
  (Q:=λc st=>c=(none,2)/\st=SortSt.mk' (tuples' true) (jI x y p q) #[(0,2,0)] 7 none) ?_ ?_ (.inl ⟨rfl,rfl,rfl⟩)) ?_
 ·rintro i c st h1 h2 (⟨rfl,rfl,rfl⟩ | ⟨hi,rfl,rfl⟩)
  ·dsimp only
   rw [BK<|by show ¬(0>=2);decide];refine DX ?_;show wpS _ _ _ _ (countRun' 0 2) _ _;refine Va hx hy ?_
   dsimp only
   rw [BK<|by show ¬(2 < minRun' 2 2 0);rw [Vc];decide];refine DX<|wpS_get ?_;show wpS _ _ _ _ (modify _ >>= _) _ _;exact DX<|wpS_modify<|HJ<|.inr ⟨Am _,rfl,rfl⟩
  ·dsimp only
   rw [BL<|by show 2>=2;decide];exact HJ ⟨rfl,rfl⟩
 ·rintro c st (⟨h1,_,_⟩ | ⟨_,hc,hs⟩)
  ·exact absurd h1<|by decide
  ·exact⟨hc,hs⟩
 ·rintro c st ⟨rfl,rfl⟩
  dsimp only
  refine DX<|wpS_mono (JQ (I:=λ_ c st=>st=SortSt.mk' (tuples' true) (jI x y p q) #[(0,2,0)] 7 none/\c=(none,())) (Q:=λc st=>st=SortSt.mk' (tuples' true) (jI x y p q) #[(0,2,0)] 7 none/\c=(none,())) ?_ (λ_ _ hh=>hh) ⟨rfl,rfl⟩) ?_
  ·rintro i c st _ _ ⟨rfl,rfl⟩;refine DX<|wpS_get ?_;rw [BL<|by show 1<=1;decide];exact HJ ⟨rfl,rfl⟩
  ·rintro c st ⟨rfl,rfl⟩;exact HJ<|h _ rfl rfl
theorem Vd{a x y:Addr}{p q:Int×Int}{n:Nat}{P:Fin->Shared->Prop}(ho:s.heap.get? a=some (seqObj "list" #[.ref x,.ref y] n))(Ve:a≠x)(Vf:a≠y)(hx:Pr s.heap x p)(hy:Pr s.heap y q)
  (h:P (.done<|.ret .none) {s with heap:=sortedHeap s.heap a [.ref x,.ref y] (if lexLt p q then #[.ref y,.ref x] else #[.ref x,.ref y])}) :
  wpAny (model prog w) A (Builtin.«list.sort» ⟨[.ref a],[(Str.ofString "reverse",.bool true)]⟩) P E s:=by
 rw [list_sort_rev];have ha:a < s.heap.objs.size:=Ax ho;refine BJ<|JM ho rfl ?_;refine BJ<|JD ho rfl ?_;obtain⟨e1,rF⟩:∃ e1,(s.heap.update a<|Obj.mapSeq λ_=>#[]).get? a=some (seqObj "list" #[] e1):=⟨_,get?_update_seq ho λ_=>#[]⟩;refine BJ<|KH rF rfl ?_;refine BJ<|wpAny_newTuple ?_;refine BJ<|KZ ?_;refine CT ?_;have nC:(((s.heap.update a<|Obj.mapSeq λ_=>#[]).push<|seqObj "tuple" [Value.ref x,Value.ref y].toArray 0).push<|seqObj "list" #[] 0).get? a=some (seqObj "list" #[] e1):=
  Ai _ (Ai _ rF)
 show wpAny (model prog w) A _ P E {s with heap:=((s.heap.update a<|Obj.mapSeq λ_=>#[]).push<|seqObj "tuple" [Value.ref x,Value.ref y].toArray 0).push (seqObj "list" #[] 0)};have keep:∀ z r,a≠z->Pr s.heap z r->Pr (((s.heap.update a<|Obj.mapSeq λ_=>#[]).push<|seqObj "tuple" [Value.ref x,Value.ref y].toArray 0).push<|seqObj "list" #[] 0) z r:=by
  rintro z r hz ⟨o,m,t,u,q1,q2⟩;exact⟨o,m,t,u,Ai _<|Ai _<|(Ch _ _ hz).trans q1,q2⟩
 have kx:=keep x p Ve hx;have ky:=keep y q Vf hy
 dsimp only
 rw [BL rfl];refine BJ<|IV ?_;rw [BK<|by show ¬(2 < 2);decide];refine BJ<|U' kx ky ?_;rw [BK<|by show ¬(2 < 2);decide];have e2:(if true=true then((#[Value.ref x,Value.ref y]:Array Value).zip #[Value.ref x,Value.ref y]).reverse else(#[Value.ref x,Value.ref y]:Array Value).zip #[Value.ref x,Value.ref y])=#[(Value.ref y,Value.ref y),(Value.ref x,Value.ref x)]:=by
  rw [BL rfl];simp
 rw [e2];refine BJ<|CN (Vb (Q:=λ_ st=>arrOf st=jI y x q p/\failedOf st=none) ky kx λst h1 h2=>⟨h1,h2⟩) ?_ λ_ _ e=>e;rintro ⟨⟨⟩,cE⟩ s' ⟨rfl,hs,hf⟩
 dsimp only
 have e3:(if true=true then((arrOf cE).map (·.2)).reverse else(arrOf cE).map (·.2))=(if lexLt p q then #[.ref y,.ref x] else #[.ref x,.ref y]):=by
  rw [BL rfl,hs];unfold jI
  split <;> simp
 refine BJ<|KH nC rfl ?_;refine BJ (JD nC rfl ?_ (hsz2:=by rw [e3];split <;> exact U8));rw [hf];simp only [LK,Bg,CJ];refine BP ?_;have e4:(λ_:Array Value=>if True then((arrOf cE).map (·.2)).reverse else(arrOf cE).map (·.2))=λ_=>(if lexLt p q then #[.ref y,.ref x] else #[.ref x,.ref y]):=by
  funext _
  rw [BL trivial];rw [BL rfl] at e3;exact e3
 rw [e4];exact h
theorem Vg{l x y:Addr}{p q:Int×Int}{Q:Value->Shared->Prop}(hl:s.heap.IsList l #[.ref x,.ref y])(hx:Pr s.heap x p)(hy:Pr s.heap y q)
  (h:∀(h':Heap) (e:Nat),(∀ b u,s.heap.get? b=some u->h'.get? b=some u)->h'.get? (s.heap.objs.size+1)=some (seqObj "list" (if lexLt p q then #[.ref y,.ref x] else #[.ref x,.ref y]) e)->Q (.ref<|s.heap.objs.size+1) {s with heap:=h'}) :
  wpAny (model prog w) A (call (.builtin "sorted") [.ref l] [(Str.ofString "reverse",.bool true)]) Q E s:=by
 refine call_function_entry_kw kind_sorted plain_sorted entry_sorted (args_sorted_rev _ _) ?_;unfold Builtin.«sorted»;refine BJ (m:=checkCount "sorted" 1 1 _)<|BP ?_;refine BJ<|collect_list (vs:=[.ref x,.ref y]) hl ?_;refine BJ<|KZ ?_;have hsz:((s.heap.push<|seqObj "list" #[] 0).update s.heap.objs.size (Obj.mapSeq (·++[Value.ref x,Value.ref y].toArray))).objs.size=s.heap.objs.size+1:=by
  rw [Heap.size_update,size_push']
 have mF:(((s.heap.push<|seqObj "list" #[] 0).update s.heap.objs.size (Obj.mapSeq (·++[Value.ref x,Value.ref y].toArray))).push<|seqObj "list" [Value.ref x,Value.ref y].toArray 0).get? (s.heap.objs.size+1)=some (seqObj "list" [Value.ref x,Value.ref y].toArray 0):=by
  rw [<- hsz];exact Ba _ rfl
 have lx:x < s.heap.objs.size:=let ⟨_,_,_,_,e,_⟩:=hx;Ax e
 have ly:y < s.heap.objs.size:=let ⟨_,_,_,_,e,_⟩:=hy;Ax e
 have keep:∀ z r,Pr s.heap z r->Pr (((s.heap.push<|seqObj "list" #[] 0).update s.heap.objs.size (Obj.mapSeq (·++[Value.ref x,Value.ref y].toArray))).push<|seqObj "list" [Value.ref x,Value.ref y].toArray 0) z r:=by
  rintro z r ⟨o,m,t,u,q1,q2⟩;have hz:=Ax q1;exact⟨o,m,t,u,Ai _<|(Ch _ _<|Di hz).trans<|Ai _ q1,q2⟩
 show wpAny _ _ _ _ _ {s with heap:=((s.heap.push<|seqObj "list" #[] 0).update s.heap.objs.size (Obj.mapSeq (·++[Value.ref x,Value.ref y].toArray))).push (seqObj "list" [Value.ref x,Value.ref y].toArray 0)};rw [hsz];refine BJ<|CT<|wpAny_call_entry_kw slot_list_sort ⟨_,mF,rfl⟩ entry_list_sort (Vd mF (Di<|Ge lx) (Di<|Ge ly) (keep x p hx) (keep y q hy) ⟨_,rfl,?_⟩)<|args_list_sort_rev _ _;obtain⟨e,he⟩:=sortedAll_at s.heap [Value.ref x,Value.ref y] (if lexLt p q then #[.ref y,.ref x] else #[.ref x,.ref y]);exact BP ⟨_,rfl,h _ e (λb u hb=>sortedAll_old hb) he⟩
end
end bB
namespace L2
open PySem PySem.Spec PyProof.Rows bB
section
variable{X:Cx}{e:Expr}{σ:St}{H:Hp}{Q:VK}{pos p kp cp:Pos}{j:Nat}
theorem Ki{pins:List (Addr×Obj)}{s:Shared}{a:Addr}{i j:Int}(I:Inv X pins σ H s)(h:H a=some (.tup [.int i,.int j])):Pr s.heap a (i,j):=by
 obtain⟨its,r,pl,_⟩:=I.tuple<|aQ.of h;obtain⟨u,v,rfl,⟨t,rfl⟩,⟨t',rfl⟩⟩:=vals2 r;obtain⟨o,ho,hc,n,hd⟩:=pl;exact⟨o,n,t,t',ho,hc,hd⟩
theorem Vh(hm:X.mg "sorted" = none) (h:Ev X e σ H λv H1=>∃ l x y a b c d,v = .ref l/\H1 l=some (.lst [.ref x,.ref y])/\H1 x=some (.tup [.int a,.int b])/\H1 y=some (.tup [.int c,.int d]) /\
   ∀ r,H1 r=none->Q (.ref r) (upd H1 r<|.lst (if lexLt (a,b) (c,d) then [.ref y,.ref x] else [.ref x,.ref y]))) (hg:Gl X "sorted":=by rfl)
  (he:backTo pos (starEach [e] X.env)=(false,eval e X.env) :: backTo pos (starEach [] X.env):=by rfl) (bV:(backTo pos<|starEach [e] X.env).any (·.1)=false:=by rfl) (cD:isStar e=false:=by rfl) :
  Ev X (.Call (.Name "sorted" p) [e] [⟨some "reverse",.Constant (.bool true) j cp,kp⟩] pos) σ H Q:=by
 refine⟨λpins s I=>?_⟩;refine HX<|iG I hg hm PB ?_;have hE:Ea X [e] σ H λvs H1=>∃ l x y a b c d,vs=[.ref l]/\H1 l=some (.lst [.ref x,.ref y])/\H1 x=some (.tup [.int a,.int b])/\H1 y=some (.tup [.int c,.int d]) /\
   ∀ r,H1 r=none->Q (.ref r) (upd H1 r<|.lst (if lexLt (a,b) (c,d) then [.ref y,.ref x] else [.ref x,.ref y])):=
  aq (h.mono λv H1 ⟨l,x,y,a,b,c,d,e1,r1⟩=>aB ⟨l,x,y,a,b,c,d,by rw [e1],r1⟩) cD
 refine callWith_kw (aI (hE.run pos pins s I) λus s1 ⟨vs,H1,I1,r1,l,x,y,a,b,c,d,ev,hl,hx,hy,q⟩=>?_) he bV;subst ev;obtain⟨u,rfl,ru⟩:=vals1 r1;cases (show u=Value.ref l from ru);refine kws_cons<|BP<|kws_nil ?_;obtain⟨its,r2,pl,_⟩:=I1.list<|ao.of hl;obtain⟨u,v,rfl,ru,rv⟩:=vals2 r2;cases (show u=Value.ref x from ru);cases (show v=Value.ref y from rv);refine Vg pl.isList (Ki I1 hx) (Ki I1 hy) λh' e kp he=>?_;refine⟨.ref _,_,I1.lG (s':={s1 with heap:=h'}) kp rfl rfl (Ft _) (show ay X.prog X.w _ h' _ (.lst (if lexLt (a,b) (c,d) then [.ref y,.ref x] else [.ref x,.ref y])) from ?_),rfl,q _<|I1.aD.fresh<|Ft _⟩
 split at he
 ·rename_i hb;rw [BL hb];exact⟨by show 2<=sizeLine;rw [CW];decide,[.ref y,.ref x],e,.cons rfl (.cons rfl .nil),he⟩
 ·rename_i hb;rw [BK hb];exact⟨by show 2<=sizeLine;rw [CW];decide,[.ref x,.ref y],e,.cons rfl (.cons rfl .nil),he⟩
end
end L2
namespace Nt
open PySem
abbrev Net:=List<|Str×List Str
abbrev End:=Nat×Nat
def row(n:Net)(r:Nat):List Str:=((n[r]?).map (·.2)).getD []
def aN(n:Net)(e:End):Option Str:=(row n e.1)[e.2]?
def aU(r:Nat)(ts:List Str)(p:Nat):List (Str×End):=(ts.zipIdx p).map λx=>(x.1,(r,x.2))
def c6(r:Nat):Net->List (Str×End)
 | []=>[]
 | a :: n=>aU r a.2 0++c6 (r+1) n
def aV(n:Net):List (Str×End):=c6 0 n
def ends(n:Net):List End:=(aV n).map (·.2)
def ag(n:Net):List Str:=n.flatMap (·.2)
def pos(n:Net)(z:Str):List End:=((aV n).filter λx=>decide (x.1=z)).map (·.2)
theorem aX{r:Nat}{ts:List Str}{p:Nat}{z:Str}{e:End}:(z,e)∈aU r ts p↔e.1=r/\p<=e.2/\ts[e.2 - p]?=some z:=by
 unfold aU;rw [An]
 constructor
 ·rintro ⟨⟨y,k⟩,hm,he⟩;cases he;have:=Fr.mp hm;exact⟨rfl,this.1,this.2⟩
 ·rintro ⟨h1,h2,h3⟩;refine⟨(z,e.2),Fr.mpr ⟨h2,h3⟩,?_⟩;rw [<- h1]
theorem bu:∀{n:Net} {k:Nat} {z:Str} {e:End},(z,e)∈c6 k n↔k<=e.1/\(row n<|e.1 - k)[e.2]?=some z
 | [],k,z,e=>by
  constructor
  ·intro h;cases h
  ·rintro ⟨_,h⟩;simp [row] at h
 | a :: n,k,z,e=>by
  unfold c6;rw [Aq,aX,bu]
  constructor
  ·rintro (⟨h1,_,h3⟩ | ⟨h1,h2⟩)
   ·refine⟨by omega,?_⟩;rw [show e.1 - k=0 by omega]
    simpa [row] using h3
   ·refine⟨by omega,?_⟩;rw [show e.1 - k=(e.1 - (k+1))+1 by omega]
    simpa [row] using h2
  ·rintro ⟨h1,h2⟩
   rcases Dc k e.1 with h | h
   ·refine .inr ⟨h,?_⟩;rw [show e.1 - k=(e.1 - (k+1))+1 by omega] at h2
    simpa [row] using h2
   ·refine .inl ⟨by omega,Bo _,?_⟩;rw [show e.1 - k=0 by omega] at h2
    simpa [row] using h2
theorem aO{n:Net}{z:Str}{e:End}:(z,e)∈aV n↔aN n e=some z:=by
 unfold aV aN;rw [bu];simp
theorem af{n:Net}{e:End}:e∈ends n↔∃ z,aN n e=some z:=by
 unfold ends;rw [An]
 constructor
 ·rintro ⟨⟨z,e'⟩,h,rfl⟩;exact⟨z,aO.mp h⟩
 ·rintro ⟨z,h⟩;exact⟨(z,e),aO.mpr h,rfl⟩
theorem aY{n:Net}{z:Str}{e:End}:e∈pos n z↔aN n e=some z:=by
 unfold pos;rw [An]
 constructor
 ·rintro ⟨⟨y,e'⟩,h,rfl⟩;rw [Ds,DQ] at h;obtain⟨h1,h2⟩:=h;subst h2;exact aO.mp h1
 ·intro h;exact⟨(z,e),Ds.mpr ⟨aO.mpr h,by simp⟩,rfl⟩
theorem Vi(r:Nat):∀(ts:List Str) (p:Nat),(aU r ts p).map (·.1)=ts:=by
 intro ts p;unfold aU;rw [Bj];have:((λx:Str×End=>x.1) ∘ λx:Str×Nat=>(x.1,(r,x.2)))=Prod.fst:=rfl;rw [this,List.zipIdx_map_fst]
theorem iK:∀(n:Net) (k:Nat),(c6 k n).map (·.1)=ag n
 | [],_=>rfl
 | a :: n,k=>by
  unfold c6 ag;rw [Ak,Vi,iK n<|k+1,Ex];rfl
theorem Vj(r:Nat)(ts:List Str)(p:Nat):((aU r ts p).map (·.2)).Nodup:=by
 unfold aU;rw [Bj];have e:((λx:Str×End=>x.2) ∘ λx:Str×Nat=>(x.1,(r,x.2)))=(λk:Nat=>(r,k)) ∘ Prod.snd:=rfl;rw [e,<- Bj,Gw];refine FT _ (R:=(·≠·)) ?_ List.nodup_range';intro a b h b5;exact h (Prod.mk.inj b5).2
theorem Kj:∀(n:Net) (k:Nat),((c6 k n).map (·.2)).Nodup
 | [],_=>Ck
 | a :: n,k=>by
  unfold c6;rw [Ak,Cc];refine⟨Vj _ _ _,Kj n<|k+1,?_⟩;intro x hx y hy e;subst e;obtain⟨⟨z,e1⟩,h1,rfl⟩:=An.mp hx;obtain⟨⟨z2,e2⟩,h2,he⟩:=An.mp hy;simp only at he;subst he;have q1:=(aX.mp h1).1;have q2:=(bu.mp h2).1;omega
theorem lJ(n:Net):(ends n).Nodup:=Kj n 0
theorem Vk(n:Net)(z:Str):(pos n z).Nodup:=by
 unfold pos;exact(lJ n).sublist<|List.Sublist.map _<|List.filter_sublist
theorem nE(n:Net)(z:Str):(pos n z).length=(ag n).count z:=by
 unfold pos;rw [Aa,<- iK n 0,<- List.countP_eq_length_filter,List.count,List.countP_map];rfl
def az(n:Net):Prop:=∀ z∈ag n,(ag n).count z=2
theorem ig{n:Net}{e:End}{z:Str}(h:aN n e=some z):z∈ag n:=by
 have:=aO.mpr h;rw [<- iK n 0];exact An.mpr ⟨_,this,rfl⟩
def other(n:Net)(e:End):End:=match aN n e with
 | some z=>(match pos n z with
  | [a,b]=>if a=e then b else a
  | _=>e)
 | none=>e
theorem pI{n:Net}(T:az n){e:End}{z:Str}(h:aN n e=some z):∃ a b,pos n z=[a,b]/\a≠b/\(e=a\/e=b):=by
 have hl:=nE n z;rw [T z<|ig h] at hl;have hn:=Vk n z;have hm:=aY.mpr h
 match hp:pos n z,hl with
 | [a,b],_=>
  rw [hp] at hn hm;refine⟨a,b,rfl,?_,?_⟩
  ·intro e;subst e;simp at hn
  ·simpa using hm
theorem fZ{n:Net}(T:az n){e:End}{z:Str}(h:aN n e=some z):aN n (other n e)=some z/\other n (other n e)=e/\other n e≠e:=by
 obtain⟨a,b,hp,b5,he⟩:=pI T h;have ha:aN n a=some z:=aY.mp (by rw [hp];simp);have hb:aN n b=some z:=aY.mp<|by rw [hp];simp
 rcases he with rfl | rfl
 ·have e1:other n e=b:=by unfold other;simp only [h,hp];simp
  have e2:other n b=e:=by unfold other;simp only [hb,hp];simp [b5]
  rw [e1];exact⟨hb,e2,b5.symm⟩
 ·have e1:other n e=a:=by unfold other;simp only [h,hp];simp [b5]
  have e2:other n a=e:=by unfold other;simp only [ha,hp];simp
  rw [e1];exact⟨ha,e2,b5⟩
def left(n:Net)(e:End):End:=(e.1,(e.2+1) % (row n e.1).length)
def step(n:Net)(e:End):End:=left n (other n e)
theorem fJ{n:Net}{e:End}{z:Str}(h:aN n e=some z):e.2 < (row n e.1).length:=(Ac.mp h).1
theorem cT{n:Net}{e:End}{z:Str}(h:aN n e=some z):e.1 < n.length:=by
 rcases Dc e.1 n.length with c | c
 ·exact c
 ·have:=fJ h;unfold row at this;rw [By c] at this;simp at this
theorem vH{n:Net}{e:End}(h:e.2 < (row n e.1).length):∃ z,aN n e=some z:=⟨_,Ab h⟩
theorem Kk{n:Net}{e:End}(h:e∈ends n):left n e∈ends n:=by
 obtain⟨z,h⟩:=af.mp h;have:=fJ h;exact af.mpr<|vH (show(e.2+1) % (row n e.1).length < (row n e.1).length from MK _<|by omega)
theorem dN{n:Net}(T:az n){e:End}(h:e∈ends n):other n e∈ends n:=by
 obtain⟨z,h⟩:=af.mp h;exact af.mpr ⟨z,(fZ T h).1⟩
theorem ki{n:Net}(T:az n){e:End}(h:e∈ends n):step n e∈ends n:=Kk<|dN T h
theorem Vl{n:Net}{a b:End}(ha:a∈ends n)(hb:b∈ends n)(h:left n a=left n b):a=b:=by
 obtain⟨z,ha⟩:=af.mp ha;obtain⟨y,hb⟩:=af.mp hb;have la:=fJ ha;have lb:=fJ hb;unfold left at h;obtain⟨h1,h2⟩:=Prod.mk.inj h;rw [h1] at la h2;have:a.2=b.2:=by
  rcases Dc (a.2+1) (row n b.1).length with c | c <;> rcases Dc (b.2+1) (row n b.1).length with d | d
  ·rw [Cf c,Cf d] at h2;omega
  ·have e:b.2+1=(row n b.1).length:=by omega
   rw [Cf c,e,Ef] at h2;omega
  ·have e:a.2+1=(row n b.1).length:=by omega
   rw [Cf d,e,Ef] at h2;omega
  ·omega
 exact DY h1 this
theorem Vm{n:Net}(T:az n){a b:End}(ha:a∈ends n)(hb:b∈ends n)(h:other n a=other n b):a=b:=by
 obtain⟨z,ha⟩:=af.mp ha;obtain⟨y,hb⟩:=af.mp hb;rw [<- (fZ T ha).2.1,h,(fZ T hb).2.1]
theorem vI{n:Net}(T:az n){a b:End}(ha:a∈ends n)(hb:b∈ends n)(h:step n a=step n b):a=b:=
 Vm T ha hb (Vl (dN T ha) (dN T hb) h)
theorem bS{α:Type} [DecidableEq α]:∀{a b:List α},a.Nodup->(∀ z∈a,z∈b)->a.length<=b.length
 | [],b,_,_=>Bo _
 | x :: r,b,hn,hs=>by
  rw [Bf] at hn;have hx:=hs x Ad;have:=bS (a:=r) (b:=b.erase x) hn.2 λz hz=>by
   have bA:z≠x:=λe=>hn.1<|e ▸ hz;exact(Dv bA).mpr<|hs z<|Af _ hz
  rw [Fd hx] at this;have hp:0 < b.length:=QV hx;rw [Ao];omega
def it{α:Type}(f:α->α):Nat->α->α
 | 0,a=>a
 | k+1,a=>f<|it f k a
theorem i5{α:Type}{f:α->α}{S:List α}(hf:∀ a∈S,f a∈S){a:α}(h:a∈S):∀ k,it f k a∈S
 | 0=>h
 | k+1=>hf _<|i5 hf h k
theorem Kl{α:Type} [DecidableEq α] {f:α->α} {S:List α} (hf:∀ a∈S,f a∈S) (inj:∀ a∈S,∀ b∈S,f a=f b->a=b) {a:α} (h:a∈S):∃ k,0 < k/\k<=S.length/\it f k a=a:=by
 have cancel:∀ i j,it f i a=it f (i+j) a->it f j a=a:=by
  intro i
  induction i with
  | zero=>intro j e;rw [Fg] at e;exact e.symm
  | succ i ih=>
   intro j e;refine ih j ?_;rw [show i+1+j=(i+j)+1 by omega] at e;exact inj _ (i5 hf h i) _ (i5 hf h<|i+j) e
 refine BX λhn=>?_;have nd:((List.range<|S.length+1).map λi=>it f i a).Nodup:=by
  refine FT _ (R:=λi j=>i < j/\j < S.length+1) ?_ ?_
  ·rintro i j ⟨h1,h2⟩ e;refine hn ⟨j - i,by omega,by omega,cancel i (j - i) ?_⟩;rw [show i+(j - i)=j by omega];exact e
  ·rw [Bd];intro i j hi hj eV;simp only [List.getElem_range];simp at hj;exact⟨eV,hj⟩
 have:=bS nd λz hz=>by
  obtain⟨i,_,rfl⟩:=An.mp hz;exact i5 hf h i
 simp at this;omega
theorem iL:∀(n:Net) (r:Nat),(row n r).length<=(ag n).length
 | [],r=>by simp [row,ag]
 | a :: n,0=>by simp [row,ag]
 | a :: n,r+1=>by
  have:=iL n r;simp [row,ag] at this ⊢;omega
theorem Km:∀(n:Net) (r:Nat),(ag<|n.take r).length<=(ag n).length
 | [],r=>by simp [ag]
 | a :: n,0=>by simp [ag]
 | a :: n,r+1=>by
  have:=Km n r;simp [ag] at this ⊢;omega
structure cf(n:Net)(e:Nt.End)(fs:List End):Prop where
 pos:0 < fs.length
 len:fs.length<=(ends n).length
 at':∀ i,i < fs.length->fs[i]?=some (it (step n) i e)
 back:it (step n) fs.length e=e
 first:∀ i,0 < i->i < fs.length->it (step n) i e≠e
open L2
abbrev Ls(zs:List Str):HO:= .lst<|zs.map V.str
abbrev Tp(e:End):HO:= .tup [.int e.1,.int e.2]
structure ah(H:Hp)(R:Addr)(as:List<|Addr×Addr)(n:Net):Prop where
 len:as.length=n.length
 lst:H R=some (.lst<|as.map λa=> .ref a.1)
 tup:∀(i:Nat) a r,as[i]?=some a->n[i]?=some r->H a.1=some (.tup [.str r.1,.ref a.2])/\H a.2=some (Ls r.2)
 inj:(as.map (·.2)).Nodup
theorem ah.same{H H':Hp}{R:Addr}{as:List (Addr×Addr)}{n:Net}(h:ah H R as n)(s:ak H H'):ah H' R as n:=
 ⟨h.len,s _ _ h.lst,λi a r h1 h2=>⟨s _ _ (h.tup i a r h1 h2).1,s _ _ (h.tup i a r h1 h2).2⟩,h.inj⟩
theorem ah.at{H:Hp}{R:Addr}{as:List (Addr×Addr)}{n:Net}(h:ah H R as n){i:Nat}(hi:i < n.length) :
  ∃ a,as[i]?=some a/\eC (as.map λa=>V.ref a.1) (i:Int)=some (.ref a.1)/\H a.1=some (.tup [.str n[i].1,.ref a.2])/\H a.2=some (Ls<|row n i)/\row n i=n[i].2:=by
 have hl:=h.len;have e:as[i]?=some as[i]:=Ab (by omega);have er:row n i=n[i].2:=by unfold row;rw [Ab hi];rfl
 have q:=h.tup i as[i] n[i] e<|Ab hi;refine⟨as[i],e,j6 (by rw [Ae,e];rfl),q.1,?_,er⟩;rw [er];exact q.2
theorem vJ{zs:List Str}{j:Nat}{z:Str}(h:zs[j]?=some z):eC (zs.map V.str) (j:Int)=some (.str z):=j6<|by rw [Ae,h];rfl
inductive Pd (H:Hp):List Addr->List End->Prop where
 | nil:Pd H [] []
 | cons {t:Addr} {e:End} {ts:List Addr} {es:List End}:H t=some (Tp e)->Pd H ts es->Pd H (t :: ts) (e :: es)
theorem Pd.append{H:Hp}{ts us:List Addr}{es fs:List End}(h:Pd H ts es)(g:Pd H us fs):Pd H (ts++us) (es++fs):=by
 induction h with
 | nil=>exact g
 | cons h1 _ ih=>exact .cons h1 ih
theorem Pd.keep{H H':Hp}{ts:List Addr}{es:List End}(h:Pd H ts es)(k:∀ t e,H t=some (Tp e)->H' t=some (Tp e)):Pd H' ts es:=by
 induction h with
 | nil=>exact .nil
 | cons h1 _ ih=>exact .cons (k _ _ h1) ih
theorem Pd.length{H:Hp}{ts:List Addr}{es:List End}(h:Pd H ts es):ts.length=es.length:=by
 induction h with
 | nil=>rfl
 | cons _ _ ih=>rw [Ao,Ao,ih]
theorem Pd.at{H:Hp}{ts:List Addr}{es:List End}(h:Pd H ts es):∀{i:Nat} {e:End},es[i]?=some e->∃ t,ts[i]?=some t/\H t=some (Tp e):=by
 induction h with
 | nil=>intro i e h;simp at h
 | cons h1 _ ih=>
  intro i e h;cases i with
  | zero=>simp at h;subst h;exact⟨_,rfl,h1⟩
  | succ i=>simp only [Co] at h ⊢;exact ih h
def bw(done:List<|Str×End)(z:Str):List End:=(done.filter λx=>decide (x.1=z)).map (·.2)
theorem cW(done:List<|Str×End)(y z:Str)(e:End):bw (done++[(y,e)]) z=bw done z++(if y=z then [e] else []):=by
 unfold bw;rw [Ek,Ak]
 congr 1
 by_cases h:y=z
 ·rw [BL h];simp [h]
 ·rw [BK h];simp [h]
structure aZ(H0 H:Hp)(d:Addr)(done:List<|Str×End)(kvs:List<|Key×V)(ks:List Str)(A:Str->Option (Addr×List Addr)):Prop where
 same:ak H0 H
 free:H0 d=none
 dict:H d=some (.dK kvs)
 keys:kvs.map (·.1)=ks.map Sum.inr
 nodup:ks.Nodup
 mem:∀ z,z∈ks↔(A z).isSome=true
 val:∀ z,aC kvs (Sum.inr z)=(A z).map λa=> .ref a.1
 at':∀ z a ts,A z=some (a,ts)->H0 a=none/\a≠d/\H a=some (.lst<|ts.map V.ref)/\Pd H ts (bw done z)
 inj:∀ z y a ts us,A z=some (a,ts)->A y=some (a,us)->z=y
 fv:∀ z,A z=none->bw done z=[]
 some':∀ z a ts,A z=some (a,ts)->bw done z≠[]
theorem aZ.start{H:Hp}{d:Addr}(h:H d=none):aZ H (upd H d<|.dK []) d [] [] [] (λ_=>none) where
 same:=λb u q=>by rw [ax<|bU q h];exact q
 free:=h
 dict:=aA
 keys:=rfl
 nodup:=Ck
 mem:=λz=>by simp
 val:=λz=>rfl
 at':=λz a ts h=>by cases h
 inj:=λz y a ts us h=>by cases h
 fv:=λz _=>rfl
 some':=λz a ts h=>by cases h
theorem rG{H:Hp}{t a:Addr}{e:End}{xs:List V}(h:H t=some (Tp e))(g:H a=some (.lst xs)):t≠a:=cr h g λz=>nomatch z
theorem aZ.old{H0 H:Hp}{d:Addr}{done:List (Str×End)}{kvs:List (Key×V)}{ks:List Str}{A:Str->Option (Addr×List Addr)}(S:aZ H0 H d done kvs ks A){z:Str}{e:End}{a l0 t:Addr}{ts:List Addr}
  (hA:A z=some (a,ts)) (hl:H l0=none) (ht:(upd H l0<|.lst []) t=none) :
  aZ H0 (upd (upd (upd H l0<|.lst []) t<|Tp e) a<|.lst<|ts.map V.ref++[.ref t]) d (done++[(z,e)]) kvs ks (λy=>if y=z then some (a,ts++[t]) else A y):=by
 obtain⟨q1,q2,q3,q4⟩:=S.at' z a ts hA;have vK:H t=none:=by
  by_cases c:t=l0
  ·rw [c,aA] at ht;cases ht
  ·rwa [ax c] at ht
 have jJ:l0≠a:=(bU q3 hl).symm;have vL:t≠a:=(bU q3 vK).symm;have eW:a≠t:=vL.symm;have keep:∀ b u,b≠a->H b=some u->(upd (upd (upd H l0<|.lst []) t<|Tp e) a<|.lst<|ts.map V.ref++[.ref t]) b=some u:=λb u h1 h2=>by
  rw [ax h1,ax<|bU h2 vK,ax<|bU h2 hl];exact h2
 have kt:∀ b f,H b=some (Tp f)->(upd (upd (upd H l0<|.lst []) t<|Tp e) a<|.lst<|ts.map V.ref++[.ref t]) b=some (Tp f):=λb f h=>keep b _ (rG h q3) h;have et:(upd (upd (upd H l0<|.lst []) t<|Tp e) a<|.lst<|ts.map V.ref++[.ref t]) t=some (Tp e):=by rw [ax vL,aA]
 refine⟨λb u h=>?_,S.free,keep d _ (Ne.symm q2) S.dict,S.keys,S.nodup,λy=>?_,λy=>?_,λy a' de h=>?_,λy y' a' de us h1 h2=>?_,λy h=>?_,λy a' de h=>?_⟩
 ·exact keep b u (bU h q1)<|S.same _ _ h
 ·rw [S.mem y]
  by_cases c:y=z
  ·rw [BL c,c,hA];simp
  ·rw [BK c]
 ·rw [S.val y]
  by_cases c:y=z
  ·rw [BL c,c,hA];rfl
  ·rw [BK c]
 ·by_cases c:y=z
  ·rw [BL c] at h;cases h;refine⟨q1,q2,by rw [aA,Ak];rfl,?_⟩;rw [cW,c,BL rfl];exact(q4.keep kt).append<|.cons et .nil
  ·rw [BK c] at h;obtain⟨r1,r2,r3,r4⟩:=S.at' y a' de h;have bA:a'≠a:=λe2=>c<|S.inj y z a de ts (e2 ▸ h) hA;refine⟨r1,r2,keep _ _ bA r3,?_⟩;rw [cW,BK λh=>c h.symm,Bh];exact r4.keep kt
 ·by_cases c:y=z <;> by_cases c':y'=z
  ·rw [c,c']
  ·rw [BL c] at h1;rw [BK c'] at h2;cases h1;exact absurd (S.inj y' z a us ts h2 hA) c'
  ·rw [BK c] at h1;rw [BL c'] at h2;cases h2;exact absurd (S.inj y z a de ts h1 hA) c
  ·rw [BK c] at h1;rw [BK c'] at h2;exact S.inj y y' a' de us h1 h2
 ·by_cases c:y=z
  ·rw [BL c] at h;cases h
  ·rw [BK c] at h;rw [cW,BK λh=>c h.symm,Bh];exact S.fv y h
 ·by_cases c:y=z
  ·rw [cW,BL c.symm];simp
  ·rw [BK c] at h;rw [cW,BK λh=>c h.symm,Bh];exact S.some' y a' de h
theorem aZ.new{H0 H:Hp}{d:Addr}{done:List (Str×End)}{kvs:List (Key×V)}{ks:List Str}{A:Str->Option (Addr×List Addr)}(S:aZ H0 H d done kvs ks A){z:Str}{e:End}{l0 t:Addr}
  (hA:A z=none) (hl:H l0=none) (ht:(upd (upd H l0<|.lst []) d<|.dK<|putK kvs (Sum.inr z)<|.ref l0) t=none) :
  aZ H0 (upd (upd (upd (upd H l0<|.lst []) d<|.dK<|putK kvs (Sum.inr z)<|.ref l0) t<|Tp e) l0<|.lst [.ref t]) d (done++[(z,e)]) (putK kvs (Sum.inr z)<|.ref l0) (ks++[z]) (λy=>if y=z then some (l0,[t]) else A y):=by
 have kj:d≠l0:=bU S.dict hl;have zI:t≠d:=λc=>by rw [c,aA] at ht;cases ht
 have nF:t≠l0:=λc=>by rw [ax zI,c,aA] at ht;cases ht
 have vK:H t=none:=by rwa [ax zI,ax nF] at ht
 have vn:aC kvs (Sum.inr z)=none:=by rw [S.val z,hA];rfl
 have keep:∀ b u,b≠d->H b=some u->(upd (upd (upd (upd H l0<|.lst []) d<|.dK<|putK kvs (Sum.inr z)<|.ref l0) t<|Tp e) l0<|.lst [.ref t]) b=some u:=λb u h1 h2=>by
  rw [ax<|bU h2 hl,ax<|bU h2 vK,ax h1,ax<|bU h2 hl];exact h2
 have kt:∀ b f,H b=some (Tp f)->(upd (upd (upd (upd H l0<|.lst []) d<|.dK<|putK kvs (Sum.inr z)<|.ref l0) t<|Tp e) l0<|.lst [.ref t]) b=some (Tp f):=λb f h=>keep b _ (cr h S.dict λz=>nomatch z) h;have Vn:H0 l0=none:=S.same.free hl;have zk:z∉ks:=λh=>by
  have:=(S.mem z).mp h;rw [hA] at this;cases this
 refine⟨λb u h=>?_,S.free,?_,?_,?_,λy=>?_,λy=>?_,λy a' de h=>?_,λy y' a' de us h1 h2=>?_,λy h=>?_,λy a' de h=>?_⟩
 ·exact keep b u (bU h S.free)<|S.same _ _ h
 ·rw [ax kj,ax zI.symm,aA]
 ·rw [Ja _ vn,Ak,S.keys,Ak];rfl
 ·rw [Cc];exact⟨S.nodup,by simp,λx hx y hy e=>by rw [Aj] at hy;subst hy e;exact zk hx⟩
 ·rw [Aq,Aj,S.mem y]
  by_cases c:y=z
  ·rw [BL c];simp [c]
  ·rw [BK c];simp [c]
 ·rw [dL]
  by_cases c:y=z
  ·rw [BL (by rw [c]),BL c];rfl
  ·rw [BK λh=>c<|Sum.inr.inj h,BK c,S.val y]
 ·by_cases c:y=z
  ·rw [BL c] at h;cases h;refine⟨Vn,kj.symm,by rw [aA];rfl,?_⟩;rw [cW,c,BL rfl,S.fv z hA];exact .cons (by rw [ax nF,aA]) .nil
  ·rw [BK c] at h;obtain⟨r1,r2,r3,r4⟩:=S.at' y a' de h;refine⟨r1,r2,keep _ _ r2 r3,?_⟩;rw [cW,BK λh=>c h.symm,Bh];exact r4.keep kt
 ·by_cases c:y=z <;> by_cases c':y'=z
  ·rw [c,c']
  ·rw [BL c] at h1;rw [BK c'] at h2;cases h1;exact absurd hl<|by rw [(S.at' y' l0 us h2).2.2.1];exact λh=>nomatch h
  ·rw [BK c] at h1;rw [BL c'] at h2;cases h2;exact absurd hl<|by rw [(S.at' y l0 de h1).2.2.1];exact λh=>nomatch h
  ·rw [BK c] at h1;rw [BK c'] at h2;exact S.inj y y' a' de us h1 h2
 ·by_cases c:y=z
  ·rw [BL c] at h;cases h
  ·rw [BK c] at h;rw [cW,BK λh=>c h.symm,Bh];exact S.fv y h
 ·by_cases c:y=z
  ·rw [cW,BL c.symm];simp
  ·rw [BK c] at h;rw [cW,BK λh=>c h.symm,Bh];exact S.some' y a' de h
theorem zJ:∀(n m:Net) (k:Nat),c6 k (n++m)=c6 k n++c6 (k+n.length) m
 | [],m,k=>rfl
 | a :: n,m,k=>by
  show aU k a.2 0++c6 (k+1) (n++m)=(aU k a.2 0++c6 (k+1) n)++c6 (k+(n.length+1)) m;rw [zJ n m<|k+1,Aw,show k+1+n.length=k+(n.length+1) by omega]
theorem nG{n:Net}{r:Nat}(h:r < n.length):aV (n.take<|r+1)=aV (n.take r)++aU r (row n r) 0:=by
 unfold aV;rw [Bw,Ab h,zJ];have e:(n.take r).length=r:=by rw [Bl];omega
 rw [e,Fg];have er:row n r=n[r].2:=by unfold row;rw [Ab h];rfl
 rw [er];show _++(aU r n[r].2 0++[])=_;rw [Bh]
theorem lK{r:Nat}{ts:List Str}{p:Nat}{z:Str}(h:ts[p]?=some z):aU r (ts.take<|p+1) 0=aU r (ts.take p) 0++[(z,(r,p))]:=by
 unfold aU;have hp:=(Ac.mp h).1;rw [Bw,h,KQ,Ak];have e:(ts.take p).length=p:=by rw [Bl];omega
 rw [e,Fg];rfl
structure bL(H:Hp)(d:Addr)(n:Net)(ks:List Str):Prop where
 dict:∃ kvs,H d=some (.dK kvs)/\kvs.map (·.1)=ks.map Sum.inr/\∀ z∈ag n,∃ a ts,aC kvs (Sum.inr z)=some (.ref a)/\H a=some (.lst<|ts.map V.ref)/\Pd H ts (pos n z)
 nodup:ks.Nodup
 mem:∀ z,z∈ks↔z∈ag n
theorem bL.same{H H':Hp}{d:Addr}{n:Net}{ks:List Str}(S:bL H d n ks)(s:ak H H'):bL H' d n ks:=by
 obtain⟨kvs,h1,h2,h3⟩:=S.dict;refine⟨⟨kvs,s _ _ h1,h2,λz hz=>?_⟩,S.nodup,S.mem⟩;obtain⟨a,ts,q1,q2,q3⟩:=h3 z hz;exact⟨a,ts,q1,s _ _ q2,q3.keep λt e h=>s _ _ h⟩
theorem Vo{n:Net}{z:Str}:z∈ag n↔pos n z≠[]:=by
 rw [<- El,<- nE,Cp]
theorem aZ.whole{H0 H:Hp}{d:Addr}{n:Net}{kvs:List (Key×V)}{ks:List Str}{A:Str->Option (Addr×List Addr)}(S:aZ H0 H d (aV n) kvs ks A):bL H d n ks:=by
 have mem:∀ z,z∈ks↔z∈ag n:=λz=>by
  rw [S.mem z,Vo];cases h:A z with
  | none=>simp;exact S.fv z h
  | some p=>
   obtain⟨a,ts⟩:=p;simp;exact S.some' z a ts h
 refine⟨⟨kvs,S.dict,S.keys,λz hz=>?_⟩,S.nodup,mem⟩;have:=(S.mem z).mp<|(mem z).mpr hz;cases h:A z with
 | none=>rw [h] at this;cases this
 | some p=>
  obtain⟨a,ts⟩:=p;obtain⟨q1,q2,q3,q4⟩:=S.at' z a ts h;exact⟨a,ts,by rw [S.val z,h];rfl,q3,q4⟩
theorem all2(e:Nat->Bool):(List.range 2).all e=(e 0 && e 1):=by
 show(([0,1]:List Nat).all e)=_;simp
theorem Kn(x y:End):(dJ (.int x.1) (.int y.1) && dJ (.int x.2) (.int y.2))=decide (x=y):=by
 obtain⟨a,b⟩:=x;obtain⟨c,d⟩:=y
 by_cases h:a=c <;> by_cases h2:b=d
 ·subst h h2;simp [dJ]
 ·have:¬(b:Int)=(d:Int):=λe=>h2 (by omega);simp [dJ,h2,this]
 ·have:¬(a:Int)=(c:Int):=λe=>h (by omega);simp [dJ,h,this]
 ·have:¬(a:Int)=(c:Int):=λe=>h (by omega);simp [dJ,h,this]
section
variable{X:Cx}{H:Hp}{s t:Addr}{x y:End}
theorem Ko:∀(j:Nat) (u v:V),[V.int x.1,.int x.2][j]?=some u->[V.int y.1,.int y.2][j]?=some v->lH X H 0 u v (if j=0 then dJ (.int x.1) (.int y.1) else dJ (.int x.2) (.int y.2))
 | 0,u,v,h1,h2=>by
  cases h1;cases h2;exact rD rfl rfl
 | 1,u,v,h1,h2=>by
  cases h1;cases h2;exact rD rfl rfl
 | j+2,u,v,h1,h2=>by simp at h1
theorem Vp(hs:H s=some (Tp x))(ht:H t=some (Tp y)):pG X H 1 (.ref s) (.ref t) (decide (x=y)):=by
 have:=UT (X:=X) (k:=0) (λj=>if j=0 then dJ (.int x.1) (.int y.1) else dJ (.int x.2) (.int y.2)) (aQ.of hs) (aQ.of ht) rfl Ko;rw [show([V.int (x.1:Int),.int x.2].length)=2 from rfl,all2] at this;have e:=Kn x y;simp only [CQ] at this;rw [BK (by decide),e] at this;exact this
theorem Vq(hs:H s=some (Tp x))(ht:H t=some (Tp y)):pH X H 1 (.ref s) (.ref t) (decide (x=y)):=by
 have:=Kc (X:=X) (k:=0) (λj=>if j=0 then dJ (.int x.1) (.int y.1) else dJ (.int x.2) (.int y.2)) (aQ.of hs) (aQ.of ht) rfl Ko;rw [show([V.int (x.1:Int),.int x.2].length)=2 from rfl,all2] at this;have e:=Kn x y;simp only [CQ] at this;rw [BK (by decide),e] at this;exact this
end
abbrev lets:Str:= "abcdefghijklmnopqrstuvwxyz0123456789"
theorem Kp:lets.cps.toList.length=36:=by decide +kernel
theorem Vr:lets.cps.toList.Nodup:=by decide +kernel
def sgn(i:Int):Nat:=(eC lets.cps.toList<|i % 36).getD 0
theorem zK(i:Int):eC lets.cps.toList (i % 36)=some (sgn i):=by
 have h0:0<=i % 36:=Bv _ (by decide);have h1:i % 36 < 36:=Cb _ (by decide);have hj:(i % 36).toNat < lets.cps.toList.length:=by rw [Kp];omega
 have q:=j6 (xs:=lets.cps.toList) (j:=(i % 36).toNat) (v:=lets.cps.toList[(i % 36).toNat]) (by simp [hj]);rw [show(((i % 36).toNat:Nat):Int)=i % 36 by omega] at q;unfold sgn;rw [q];rfl
theorem Kq{i j:Int}(h:sgn i=sgn j):i % 36=j % 36:=by
 have key:∀ k:Int,lets.cps.toList[(k % 36).toNat]?=some (sgn k):=λk=>by
  have h0:0<=k % 36:=Bv _ (by decide);have h1:k % 36 < 36:=Cb _ (by decide);have hj:(k % 36).toNat < lets.cps.toList.length:=by rw [Kp];omega
  have q:=j6 (xs:=lets.cps.toList) (j:=(k % 36).toNat) (v:=lets.cps.toList[(k % 36).toNat]) (by simp [hj]);rw [show(((k % 36).toNat:Nat):Int)=k % 36 by omega,zK] at q;rw [Ab hj,Option.some.inj q]
 have hi:=key i;have hj:=key j;rw [h] at hi;obtain⟨l1,e1⟩:=Ac.mp hi;obtain⟨l2,e2⟩:=Ac.mp hj;have:=(Gk (xs:=lets.cps.toList) (h₀:=l1) (h₁:=l2) Vr).mp<|e1.trans e2.symm;have a0:0<=i % 36:=Bv _ (by decide);have b0:0<=j % 36:=Bv _ (by decide);omega
def turn(b:Int)(sp:Int)(v k:Nat):Int:=b / 64+(k:Int) * (b / 7 % 5)+(if(k:Int)=sp then(v:Int) else 0)
def nm(b sp:Int)(v:Nat):Nat->Str
 | 0=>⟨#[]⟩
 | k+1=>nm b sp v k++⟨#[sgn<|turn b sp v k]⟩
theorem app_list(x y:Str):(x++y).cps.toList=x.cps.toList++y.cps.toList:=by
 show(x.cps++y.cps).toList=_;simp
theorem vM(b sp:Int)(v:Nat):∀ k,(nm b sp v k).cps.toList=(List.range k).map λj=>sgn<|turn b sp v j
 | 0=>rfl
 | k+1=>by
  show(nm b sp v k++⟨#[sgn<|turn b sp v k]⟩).cps.toList=_;rw [app_list,vM b sp v k,Er,Ak];rfl
theorem Vs{b sp:Int}{u v k:Nat}(hu:u < 36)(hv:v < 36)(h0:0<=sp)(h1:sp < (k:Int))(h:nm b sp u k=nm b sp v k):u=v:=by
 have e:(nm b sp u k).cps.toList=(nm b sp v k).cps.toList:=by rw [h]
 rw [vM,vM] at e;have hk:sp.toNat < k:=by omega
 have q:((List.range k).map λj=>sgn<|turn b sp u j)[sp.toNat]?=((List.range k).map λj=>sgn<|turn b sp v j)[sp.toNat]?:=by rw [e]
 rw [Ae,Ae,Cy hk] at q;have q2:sgn (turn b sp u sp.toNat)=sgn (turn b sp v sp.toNat):=Option.some.inj q;have q3:=Kq q2;unfold turn at q3;rw [show((sp.toNat:Nat):Int)=sp by omega,BL rfl,BL rfl] at q3;omega
theorem fold_list(c:Nat):∀(k:Nat) (acc:Array Nat),((List.replicate k (#[c]:Array Nat)).foldl (·++·) acc).toList=acc.toList++List.replicate k c
 | 0,acc=>by simp
 | k+1,acc=>by
  rw [List.replicate_succ,Dz,fold_list c k,List.replicate_succ];simp
theorem mul_list(c:Nat){i:Int}(h:1<=i):(Txt.mul ⟨#[c]⟩ i).cps.toList=List.replicate i.toNat c:=by
 unfold Txt.mul;rw [BK<|by omega]
 by_cases e:i=1
 ·subst e;rfl
 ·have e1:(i == 1 || (⟨#[c]⟩:Str).length == 0)=false:=by
   have:(i == 1)=false:=by simpa using e
   rw [this];rfl
  rw [e1];simp only [Bg,CJ];have:=fold_list c i.toNat #[]
  simpa using this
def aK(b:Int)(v:Nat):Str:=if b % 3=2 then Txt.mul ⟨#[sgn<|b / 64+(v:Int) / 8]⟩ (1+(v:Int) % 8) else nm b (b / 8 % (1+b % 8)) v (1+b % 8).toNat
theorem Vt{b:Int}{u v:Nat}(hu:u < 36)(hv:v < 36)(h:aK b u=aK b v):u=v:=by
 have s0:0<=b % 8:=Bv _ (by decide);unfold aK at h
 by_cases c:b % 3=2
 ·rw [BL c,BL c] at h;have u0:0<=(u:Int) % 8:=Bv _ (by decide);have v0:0<=(v:Int) % 8:=Bv _ (by decide);have e:(Txt.mul ⟨#[sgn<|b / 64+(u:Int) / 8]⟩<|1+(u:Int) % 8).cps.toList=(Txt.mul ⟨#[sgn<|b / 64+(v:Int) / 8]⟩<|1+(v:Int) % 8).cps.toList:=by rw [h]
  rw [mul_list _ (by omega),mul_list _<|by omega] at e;have l:=BZ List.length e;rw [Du,Du] at l;have hd:(List.replicate (1+(u:Int) % 8).toNat<|sgn<|b / 64+(u:Int) / 8)[0]?=(List.replicate (1+(v:Int) % 8).toNat<|sgn<|b / 64+(v:Int) / 8)[0]?:=by rw [e]
  rw [Dx,Dx,BL (by omega),BL<|by omega] at hd;have q:=Kq<|Option.some.inj hd;omega
 ·rw [BK c,BK c] at h;refine Vs hu hv (Bv _<|by omega) ?_ h;have:=Cb (b / 8) (show 0 < 1+b % 8 by omega);omega
def namesOf(b:Int)(m:Nat):List Str:=(List.range m).map<|aK b
theorem vN{b:Int}{m:Nat}(h:m<=36):(namesOf b m).Nodup:=by
 unfold namesOf;refine FT _ (R:=λi j=>i < j/\j < m) ?_ ?_
 ·rintro i j ⟨h1,h2⟩ e;have:=Vt (by omega) (by omega) e;omega
 ·rw [Bd];intro i j hi hj eV;simp only [List.getElem_range];simp at hj;exact⟨eV,hj⟩
theorem vO(b:Int)(m:Nat):namesOf b (m+1)=namesOf b m++[aK b m]:=by
 unfold namesOf;rw [Er,Ak];rfl
theorem zL(b:Int)(m:Nat):(namesOf b m).length=m:=by unfold namesOf;simp
theorem Vu{b:Int}{m i:Nat}(h:i < m):(namesOf b m)[i]?=some (aK b i):=by
 unfold namesOf;rw [Ae,Cy h];rfl
end Nt
namespace X4
open PySem L2
def top(i:Nat):Stmt:=PySem.Challenge.pw_threewebs_k64_the_other_net_has_as_many.main.body.getD i<|.Pass ⟨0,0,0,0⟩
abbrev vP:Stmt:=top 1
abbrev vQ:Stmt:=top 2
abbrev zM:Stmt:=top 3
abbrev zN:Stmt:=top 4
abbrev vR:Stmt:=top 5
abbrev vS:Stmt:=top 6
abbrev zO:Stmt:=top 8
abbrev zP:Stmt:=top 9
abbrev vT:Stmt:=top 11
abbrev zQ:Stmt:=top 12
abbrev zR:Stmt:=top 14
abbrev lN:Stmt:=top 15
abbrev nH:Stmt:=top 16
abbrev nI:Stmt:=top 18
abbrev zS:Stmt:=top 20
abbrev nJ:Stmt:=top 21
abbrev zT:Stmt:=top 22
abbrev zU:Stmt:=top 23
abbrev zV:Stmt:=top 24
abbrev zW:Stmt:=top 25
abbrev zX:Stmt:=top 26
abbrev nK:Stmt:=top 27
abbrev nN:Stmt:=top 28
abbrev zY:Stmt:=top 29
abbrev vU:Stmt:=top 30
abbrev i6:Stmt:=top 31
structure Txt(mg:Str->Option Value):Prop where
 rev:mg "reversed" = none
 Kr:mg "isinstance" = none
 zZ:mg "tuple" = none
 z6:mg "str" = none
 nO:mg "int" = none
 rH:mg "bool" = none
 rJ:mg "list" = none
 rK:mg "dict" = none
 g5:mg "set" = none
 enum:mg "enumerate" = none
 zip:mg "zip" = none
 len:mg "len" = none
 range:mg "range" = none
 sorted:mg "sorted" = none
 max:mg "max" = none
 all:mg "all" = none
open Nt bB
theorem small{n:Nat}(h:n<=100000):n<=sizeLine:=by rw [CW];omega
theorem cn{n:Nat}(h:n<=100000):n < sizeLine:=by rw [CW];omega
theorem aT{H:Hp}{p:Addr}(h:H p=none)(o:HO):ak H (upd H p o):=λb u q=>by rw [ax<|bU q h];exact q
theorem dC{H1 H2:Hp}{r:Addr}{o:HO}(s:ak H1 H2)(h:H1 r=none):ak H1 (upd H2 r o):=λb u q=>by
 rw [ax<|bU q h];exact s _ _ q
theorem Vv{H:Hp}{l:Addr}{zs:List Str}{y:Str}:upd H l (.lst<|zs.map V.str++[V.str y])=upd H l (Ls<|zs++[y]):=by
 show _=upd H l (.lst<|(zs++[y]).map V.str);rw [Ak];rfl
def vV(K:PySem.W.Frag):Sp:=λvs H Q _=>∃(a:Addr) (ns:List Int) (k:Int),vs=[.ref a,.int k]/\ao K H a (ns.map V.int)/\0<=k/\∀ i,Q (.int i) H
def z7(K:PySem.W.Frag):Sp:=λvs H Q _=>∃(a:Addr) (ns:List Int) (k:Int),vs=[.ref a,.int k]/\ao K H a (ns.map V.int)/\0<=k/\∀ i H',ak H H'->Q (.int i) H'
def z8:Sp:=λvs H Q _=>∃(b m:Int),vs=[.int b,.int m]/\0<=m/\m<=36/\∀ l H',ak H H'->H l=none->H' l=some (Ls<|namesOf b m.toNat)->Q (.ref l) H'
def vW:Sp:=λvs H Q _=>∃(R:Addr) (as:List<|Addr×Addr) (n:Net),vs=[.ref R]/\ah H R as n/\n.length<=1000/\(ag n).length<=1000/\∀ d ks H',ak H H'->H d=none->bL H' d n ks->Q (.ref d) H'
def z9:Sp:=λvs H Q _=>∃(R d t:Addr) (as:List<|Addr×Addr) (n:Net) (ks:List Str) (e:Nt.End),vs=[.ref R,.ref d,.ref t]/\ah H R as n/\bL H d n ks/\az n/\H t=some (Tp e)/\e∈ends n/\∀ u,H u=some (Tp<|other n e)->Q (.ref u) H
def AA:Sp:=λvs H Q _=>∃(R d t:Addr) (as:List<|Addr×Addr) (n:Net) (ks:List Str) (e:Nt.End),vs=[.ref R,.ref d,.ref t,.int 1]/\ah H R as n/\bL H d n ks/\az n/\H t=some (Tp e)/\e∈ends n/\∀ u H',ak H H'->H u=none->H' u=some (Tp<|step n e)->Q (.ref u) H'
def vX:Sp:=λvs H Q _=>∃(R d t:Addr) (as:List<|Addr×Addr) (n:Net) (ks:List Str) (e:Nt.End),vs=[.ref R,.ref d,.ref t]/\ah H R as n/\bL H d n ks/\az n/\H t=some (Tp e)/\e∈ends n/\(ends n).length<=1000 /\
 ∀ l ts fs H',ak H H'->H l=none->H' l=some (.lst<|ts.map V.ref)->Pd H' ts fs->cf n e fs->Q (.ref l) H'
section
variable{P:Program}{w:World}{K:PySem.W.Frag}{mg:Str->Option Value}{base:Heap}
theorem Vw:au ["_law_script","_law_k"] ["_law_script","_law_k"] (bg zS):=⟨rfl,rfl,rfl,by decide +kernel,rfl,by decide +kernel,by decide +kernel⟩
theorem Vx{ns:List Int}{k:Int}(h0:0<=k)(h1:k < (ns.length:Int)):∃ v:Int,eC (ns.map V.int) k=some (.int v):=by
 have hj:k.toNat < ns.length:=by omega
 have q:=j6 (xs:=ns.map V.int) (j:=k.toNat) (v:= .int ns[k.toNat]) (by simp [hj]);rw [show((k.toNat:Nat):Int)=k by omega] at q;exact⟨_,q⟩
theorem Vy{f:Addr}{fd:FuncData}(F:bX K "_law_cell_at" "_law_cell_at" zS f fd)(T:Txt mg):aJ P w K mg base bT 1 f fd ["_law_script","_law_k"] (vV K):=by
 refine F.gb Vw (λvs H Q E h=>?_) λb0 H vs Q E hr h=>?_
 ·obtain⟨a,ns,k,rfl,_⟩:=h;rfl
 obtain⟨a,ns,k,rfl,hS,h0,q⟩:=h;show Run _ _ _ [some<|.ref a,some<|.int k] H;refine hU<|fW R5<|ae 1<|cZ dU T.len DG<|aq<|ae 0<|aB ⟨a,_,rfl,.inl hS,_,_,rfl,rfl,_,rfl,?_⟩;refine ka (λc=>?_) λc=>?_
 ·have c':=CG c;obtain⟨v,hv⟩:=Vx (ns:=ns) h0 (by rw [Aa] at c';exact c');exact cA<|bb cG<|ae 0<|ae 1 ⟨a,_,_,.int v,rfl,rfl,hS,hv,q v⟩
 ·exact bn<|cA<|aF<|q 0
abbrev nP:List V:=[.int 48271,.int 69621,.int 16807,.int 39373,.int 21401,.int 60493,.int 87721,.int 31337]
abbrev fw:List V:=[.int 99991,.int 99989,.int 99971,.int 99961,.int 99929,.int 99923,.int 99907,.int 99901]
theorem eight{i:Int}(h0:0<=i)(h1:i < 8):i=0\/i=1\/i=2\/i=3\/i=4\/i=5\/i=6\/i=7:=by
 obtain⟨k,rfl⟩:=Int.eq_ofNat_of_zero_le h0;exact(by decide:∀ k:Fin 8,(k.1:Int)=0\/(k.1:Int)=1\/(k.1:Int)=2\/(k.1:Int)=3\/(k.1:Int)=4\/(k.1:Int)=5\/(k.1:Int)=6\/(k.1:Int)=7) ⟨k,Int.ofNat_lt.mp h1⟩
theorem Vz{i:Int}(h0:0<=i)(h1:i < 8):∃ m:Int,eC nP i=some (.int m)/\0 < m/\m < 100000:=by
 rcases eight h0 h1 with rfl | rfl | rfl | rfl | rfl | rfl | rfl | rfl <;> exact⟨_,rfl,by decide,by decide⟩
theorem VA{i:Int}(h0:0<=i)(h1:i < 8):∃ m:Int,eC fw i=some (.int m)/\0 < m/\m < 100000:=by
 rcases eight h0 h1 with rfl | rfl | rfl | rfl | rfl | rfl | rfl | rfl <;> exact⟨_,rfl,by decide,by decide⟩
theorem lP:au ["_law_script","_law_at","_law_by","_law_prime","_law_cell","_law_big_here","_law_k","_law_one"] ["_law_script","_law_at"] (bg nJ):=⟨rfl,rfl,rfl,by decide +kernel,rfl,by decide +kernel,by decide +kernel⟩
theorem VB{f:Addr}{fd:FuncData}(F:bX K "_law_big" "_law_big" nJ f fd)(T:Txt mg)(G:bh P w K mg base 1 "_law_cell_at" ["_law_script","_law_k"]<|vV K) :
  aJ P w K mg base bT 2 f fd ["_law_script","_law_at"] (z7 K):=by
 refine F.gb lP (λvs H Q E h=>?_) λb0 H vs Q E hr h=>?_
 ·obtain⟨a,ns,k,rfl,_⟩:=h;rfl
 obtain⟨a,ns,k,rfl,hS,h0,q⟩:=h;have nd:=lP.nd;show Run _ _ _ [some<|.ref a,some<|.int k,none,none,none,none,none,none] H;refine a8 2 nd (dW<|aq<|aF<|aq<|aF<|aq<|aF<|aq<|aF<|aq<|aF<|aq<|aF<|aq<|aF<|aq<|aF<|aB ⟨(by show 8<=sizeLine;decide),λp hp=>?_⟩);refine a8 3 nd (dW<|aq<|aF<|aq<|aF<|aq<|aF<|aq<|aF<|aq<|aF<|aq<|aF<|aq<|aF<|aq<|aF<|aB ⟨(by show 8<=sizeLine;decide),λp2 kc=>?_⟩);have VC:p≠p2:=by
  intro e;rw [<- e,aA] at kc;cases kc
 have s1:ak H (upd H p<|.tup nP):=aT hp _;have s2:ak H (upd (upd H p<|.tup nP) p2<|.tup fw):=s1.trans<|aT kc _;have e1:(upd (upd H p<|.tup nP) p2<|.tup fw) p=some (.tup nP):=by rw [ax VC,aA]
 have e2:(upd (upd H p<|.tup nP) p2<|.tup fw) p2=some (.tup fw):=aA;generalize upd (upd H p<|.tup nP) p2 (.tup fw)=H2 at s2 e1 e2 ⊢;refine a8 4 nd<|b4 G hr<|aq<|ae 0<|aq<|ae 1<|aB ⟨a,ns,k,rfl,s2.seq hS,h0,λb=>?_⟩;show Run _ _ _ [some<|.ref a,some<|.int k,some<|.ref p,some<|.ref p2,some<|.int b,none,none,none] H2;refine Jt True True (λR qq=>?_) (λ_=>?_) λ_=>bn ?_
 ·refine zf (Jq<|fW ph<|aW cY<|ae 4<|aF ⟨_,_,rfl,rfl,(by show(0:Int) < 2;decide),aF ⟨rfl,_,rfl,?_⟩⟩);refine ka (λc=>?_) (λc=>qq false (λz=>nomatch z) λ_=>trivial);exact Js<|fW R9<|ae 4<|aW yy<|aF<|aF ⟨_,_,rfl,rfl,⟨by decide,by decide,by decide⟩,_,_,rfl,rfl,_,rfl,qq _ (λ_=>trivial) λ_=>trivial⟩
 ·exact cA<|aW gB<|ae 4<|aF ⟨_,_,rfl,rfl,⟨by decide,by decide⟩,q _ _ s2⟩
 refine a8 5 nd<|aF ?_;refine jD T.range<|aF ⟨60,rfl,by decide,by decide,jE (n:=60) (λ_ σ H3=>H3=H2/\∃(x:Int) (u v:Option V),σ=[some<|.ref a,some<|.int k,some<|.ref p,some<|.ref p2,some<|.int b,some<|.int x,u,v]) ⟨rfl,0,_,_,rfl⟩ ?_ ?_⟩
 ·rintro i σ H3 hi ⟨rfl,x,u,v,rfl⟩;have i9:0<=(0+(i:Int)) % 9:=Bv _ (by decide);obtain⟨m1,f1,g1,g2⟩:=Vz (i:=(0+(i:Int)) % 8) (Bv _<|by decide) (Cb _<|by decide);obtain⟨m2,f2,g3,g4⟩:=VA (i:=(0+(i:Int)) % 8) (Bv _<|by decide) (Cb _<|by decide);refine bz 6 nd ?_;refine a8 7 nd<|aW fG<|aW fG<|aW cY<|b4 G hr<|aq<|ae 0<|aq<|aW fG<|ae 1<|aW cY<|ae 6<|aF ?_;refine⟨_,_,rfl,rfl,(by show(0:Int) < 9;decide),_,_,rfl,rfl,aB ⟨a,ns,_,rfl,s2.seq hS,?_,λc=>?_⟩⟩
  ·show 0<=k+(0+(i:Int)) % 9;omega
  refine aW yy (aF<|aF ⟨_,_,rfl,rfl,⟨by decide,by decide,by decide⟩,_,_,rfl,rfl,(by show(0:Int) < 10 ^ (18:Int).toNat;decide),aF ⟨_,_,rfl,rfl,?_⟩⟩);refine aW pc<|ae 6<|ae 6 ?_;refine⟨_,_,rfl,rfl,.inl ⟨by omega,by omega⟩,_,_,rfl,rfl,?_⟩;refine a8 5 nd (aW fG<|aW pc<|ae 5<|aF ⟨_,_,rfl,rfl,.inr ⟨by decide,by decide⟩,?_⟩);refine aW cY (aW cY<|aW pc<|ae 7<|bb cH<|ae 2<|aW cY<|ae 6<|aF ⟨_,_,rfl,rfl,(by show(0:Int) < 8;decide),p,_,_,_,rfl,rfl,aQ.of e1,f1,_,_,rfl,rfl,.inr ⟨by omega,by omega⟩,?_⟩);refine bb cH (ae 3<|aW cY<|ae 6<|aF ⟨_,_,rfl,rfl,(by show(0:Int) < 8;decide),p2,_,_,_,rfl,rfl,aQ.of e2,f2,_,_,rfl,rfl,g3,aF ⟨_,_,rfl,rfl,(by show(0:Int) < 7919;decide),_,_,rfl,rfl,?_⟩⟩);exact bn ⟨rfl,_,_,_,rfl⟩
 ·rintro σ H3 ⟨rfl,x,u,v,rfl⟩;exact cA<|ae 5<|q x _ s2
abbrev NN:List Str:=["_law_stem","_law_many","_law_signs","_law_size","_law_spot","_law_names_here","_law_v","_law_name","_law_k","_law_turn"]
theorem gE:au NN ["_law_stem","_law_many"] (bg zT):=⟨rfl,rfl,rfl,by decide +kernel,rfl,by decide +kernel,by decide +kernel⟩
theorem VD{f:Addr}{fd:FuncData}(F:bX K "_law_names" "_law_names" zT f fd)(T:Txt mg):aJ P w K mg base bT 1 f fd ["_law_stem","_law_many"] z8:=by
 refine F.gb gE (λvs H Q E h=>?_) λb0 H vs Q E hr h=>?_
 ·obtain⟨b,m,rfl,_⟩:=h;rfl
 obtain⟨b,m,rfl,m0,m1,q⟩:=h;have nd:=gE.nd;have s0:0<=b % 8:=Bv _ (by decide);have s1:b % 8 < 8:=Cb _ (by decide);show Run _ _ _ [some<|.int b,some<|.int m,none,none,none,none,none,none,none,none] H;refine a8 2 nd<|vq ?_;refine a8 3 nd (aW fG<|aF<|aW cY<|ae 0<|aF ⟨_,_,rfl,rfl,(by show(0:Int) < 8;decide),_,_,rfl,rfl,?_⟩);refine a8 4 nd (aW cY<|aW gB<|ae 0<|aF ⟨_,_,rfl,rfl,⟨by decide,by decide⟩,ae 3 ⟨_,_,rfl,rfl,(by show 0 < 1+b % 8;omega),?_⟩⟩);refine a8 5 nd<|dB<|aB ⟨Z0,λl hl=>?_⟩;show Run _ _ _ [some<|.int b,some<|.int m,some<|.str lets,some<|.int<|1+b % 8,some<|.int<|b / 8 % (1+b % 8),some<|.ref l,none,none,none,none] _;have spE:b / 8 % (1+b % 8)=b / 8 % (1+b % 8):=rfl;refine jD T.range<|ae 1 ⟨m,rfl,by omega,by omega,jE (n:=m.toNat) (λi σ H3=>H3=upd H l (Ls<|namesOf b i)/\∃ u1 u2 u3 u4,σ=[some<|.int b,some<|.int m,some<|.str lets,some<|.int<|1+b % 8,some<|.int<|b / 8 % (1+b % 8),some<|.ref l,u1,u2,u3,u4]) ⟨rfl,_,_,_,_,rfl⟩ ?_ ?_⟩
 ·rintro i σ H3 hi ⟨rfl,u1,u2,u3,u4,rfl⟩;refine bz 6 nd ?_;refine a8 7 nd<|vq ?_;refine jD T.range<|ae 3 ⟨_,rfl,by omega,by omega,jE (n:=(1+b % 8).toNat) (λj σ H4=>H4=upd H l (Ls<|namesOf b i)/\∃(u3 u4:Option V),σ=[some<|.int b,some<|.int m,some<|.str lets,some<|.int<|1+b % 8,some<|.int<|b / 8 % (1+b % 8),some<|.ref l,some<|.int<|0+(i:Int),some<|.str<|nm b (b / 8 % (1+b % 8)) i j,u3,u4]) ⟨rfl,_,_,rfl⟩ ?_ ?_⟩
  ·rintro j σ H4 hj ⟨rfl,v3,v4,rfl⟩;have t0:0<=b / 7 % 5:=Bv _ (by decide);have t1:b / 7 % 5 < 5:=Cb _ (by decide);have nl:(nm b (b / 8 % (1+b % 8)) i j).length=j:=by
    have:=BZ List.length<|vM b (b / 8 % (1+b % 8)) i j;show(nm b (b / 8 % (1+b % 8)) i j).cps.size=j
    simpa using this
   refine bz 8 nd ?_;refine a8 9 nd (aW fG<|aW gB<|ae 0<|aF ⟨_,_,rfl,rfl,⟨by decide,by decide⟩,aW pc<|ae 8<|aW cY<|aW gB<|ae 0<|aF ⟨_,_,rfl,rfl,⟨by decide,by decide⟩,aF ⟨_,_,rfl,rfl,(by show(0:Int) < 5;decide),?_⟩⟩⟩);refine⟨_,_,rfl,rfl,.inr ⟨by omega,by omega⟩,_,_,rfl,rfl,?_⟩;refine J9 ((0+(j:Int))=b / 8 % (1+b % 8)) (¬(0+(j:Int))=b / 8 % (1+b % 8)) (λσ' H'=>H'=upd H l (Ls<|namesOf b i)/\σ'=[some<|.int b,some<|.int m,some<|.str lets,some<|.int<|1+b % 8,some<|.int<|b / 8 % (1+b % 8),some<|.ref l,some<|.int<|0+(i:Int),some<|.str<|nm b (b / 8 % (1+b % 8)) i j,some<|.int<|0+(j:Int),some<|.int<|turn b (b / 8 % (1+b % 8)) i j]) (λR qq=>?_) (λhc=>?_) (λhc=>bn ⟨rfl,?_⟩) ?_
   ·refine fW ph<|ae 8<|ae 4 ⟨rfl,_,rfl,?_⟩
    by_cases hc:(0+(j:Int))=b / 8 % (1+b % 8)
    ·rw [BW (show V.int (0+(j:Int))=V.int (b / 8 % (1+b % 8)) by rw [hc])];exact qq true (λ_=>hc) λh=>by cases h
    ·rw [BR λh=>hc<|V.int.inj h];exact qq false (λh=>by cases h) λ_=>hc
   ·refine a8 9 nd<|aW fG<|ae 9<|ae 6 ⟨_,_,rfl,rfl,bn ⟨rfl,?_⟩⟩;have e:b / 64+(0+(j:Int)) * (b / 7 % 5)+(0+(i:Int))=turn b (b / 8 % (1+b % 8)) i j:=by
     unfold turn;rw [BL (by omega),Dj,Dj]
    rw [<- e];rfl
   ·have e:b / 64+(0+(j:Int)) * (b / 7 % 5)=turn b (b / 8 % (1+b % 8)) i j:=by
     unfold turn;rw [BK (by omega),Dj,Int.add_zero]
    rw [<- e];rfl
   ·rintro σ' H' ⟨rfl,rfl⟩;refine a8 7 nd<|aW Iu<|ae 7<|bb IL<|ae 2<|aW cY<|ae 9<|aF ⟨_,_,rfl,rfl,(by show(0:Int) < 36;decide),lets,_,sgn<|turn b (b / 8 % (1+b % 8)) i j,rfl,rfl,by decide +kernel,zK _,_,_,rfl,rfl,small (by show(nm b (b / 8 % (1+b % 8)) i j).length+1<=100000;omega),bn ⟨rfl,_,_,rfl⟩⟩
  ·rintro σ H4 ⟨rfl,v3,v4,rfl⟩;refine J9 (b % 3=2) (¬ b % 3=2) (λσ' H'=>H'=upd H l (Ls<|namesOf b i)/\σ'=[some<|.int b,some<|.int m,some<|.str lets,some<|.int<|1+b % 8,some<|.int<|b / 8 % (1+b % 8),some<|.ref l,some<|.int<|0+(i:Int),some<|.str<|aK b i,v3,v4]) (λR qq=>?_) (λhc=>?_) (λhc=>bn ⟨rfl,?_⟩) ?_
   ·refine fW ph<|aW cY<|ae 0<|aF ⟨_,_,rfl,rfl,(by show(0:Int) < 3;decide),aF ⟨rfl,_,rfl,?_⟩⟩
    by_cases hc:b % 3=2
    ·rw [BW (show V.int (b % 3)=V.int 2 by rw [hc])];exact qq true (λ_=>hc) λh=>by cases h
    ·rw [BR λh=>hc<|V.int.inj h];exact qq false (λh=>by cases h) λ_=>hc
   ·have e0:0<=(0+(i:Int)) % 8:=Bv _ (by decide);have e1:(0+(i:Int)) % 8 < 8:=Cb _ (by decide);refine a8 7 nd (aW TR<|bb IL<|ae 2<|aW cY<|aW fG<|aW gB<|ae 0<|aF ⟨_,_,rfl,rfl,⟨by decide,by decide⟩,aW gB<|ae 6<|aF ⟨_,_,rfl,rfl,⟨by decide,by decide⟩,_,_,rfl,rfl,aF ⟨_,_,rfl,rfl,(by show(0:Int) < 36;decide),lets,_,sgn<|b / 64+(0+(i:Int)) / 8,rfl,rfl,by decide +kernel,zK _,?_⟩⟩⟩);refine aW fG (aF<|aW cY<|ae 6<|aF ⟨_,_,rfl,rfl,(by show(0:Int) < 8;decide),_,_,rfl,rfl,?_⟩);refine⟨_,_,rfl,rfl,by omega,by omega,?_,bn ⟨rfl,?_⟩⟩
    ·show 1 * _<=_;omega
    ·have e:Txt.mul ⟨#[sgn<|b / 64+(0+(i:Int)) / 8]⟩ (1+(0+(i:Int)) % 8)=aK b i:=by
      unfold aK;rw [BL hc,Dj]
     rw [<- e];rfl
   ·have e:nm b (b / 8 % (1+b % 8)) i (1+b % 8).toNat=aK b i:=by
     unfold aK;rw [BK hc]
    rw [<- e]
   ·rintro σ' H' ⟨rfl,rfl⟩;refine hV<|jH<|ae 5 ⟨l,rfl,⟨_,aA⟩,ae 7 ⟨_,aA,?_,?_⟩⟩
    ·rw [Aa,zL];exact cn<|by omega
    ·rw [QI];refine bn ⟨?_,_,_,_,_,rfl⟩;rw [vO];exact Vv
 ·rintro σ H3 ⟨rfl,u1,u2,u3,u4,rfl⟩;exact cA<|ae 5<|q l _ (aT hl _) hl aA
theorem VE{H:Hp}{d:Addr}{kvs:List (Key×V)}(h:H d=some (.dK kvs)):pq K "dict" (.ref d) H:=Or.inr<|Or.inr<|Or.inl ⟨rfl,Or.inl ⟨kvs,h⟩⟩
abbrev NS:List Str:=["_law_rows","_law_seats_here","_law_r","_law_place"]
theorem gF:au NS ["_law_rows"] (bg zU):=⟨rfl,rfl,rfl,by decide +kernel,rfl,by decide +kernel,by decide +kernel⟩
theorem VF{f:Addr}{fd:FuncData}(F:bX K "_law_seats" "_law_seats" zU f fd)(T:Txt mg):aJ P w K mg base bT 1 f fd ["_law_rows"] vW:=by
 refine F.gb gF (λvs H Q E h=>?_) λb0 H vs Q E hr h=>?_
 ·obtain⟨R,as,n,rfl,_⟩:=h;rfl
 obtain⟨R,as,n,rfl,hR,hn,ht,q⟩:=h;have nd:=gF.nd;have cq:=hR.len;show Run _ _ _ [some<|.ref R,none,none,none] H;refine a8 1 nd<|zH λd hd=>?_;refine jD T.range (cZ dU T.len DG<|aq<|ae 0<|aB ⟨R,_,rfl,.inl<|ao.of<|aT hd _ _ _ hR.lst,_,rfl,by omega,by rw [Aa];omega,?_⟩);rw [Aa,cq,Ca];refine jE (λr σ H3=>∃ kvs ks A u1 u2,aZ H H3 d (aV<|n.take r) kvs ks A/\σ=[some<|.ref R,some<|.ref d,u1,u2]) ⟨_,_,_,_,_,aZ.start hd,rfl⟩ ?_ ?_
 ·rintro r σ H3 hi ⟨kvs,ks,A',u1,u2,S,rfl⟩;rw [Dj];refine bz 2 nd ?_;obtain⟨a,ea,eJ,et,el,er⟩:=(hR.same S.same).at hi;refine jD T.range<|cZ dU T.len DG<|aq<|bb cH<|bb cG<|ae 0<|ae 2 ⟨R,_,_,.ref a.1,rfl,rfl,ao.of<|S.same _ _ hR.lst,eJ,aF ⟨a.1,_,_,.ref a.2,rfl,rfl,aQ.of et,rfl,aB ⟨a.2,_,rfl,.inl<|ao.of el,_,rfl,by omega,?_,?_⟩⟩⟩
  ·have:(row n r).length<=1000:=by
    have h1:(row n r).length<=(ag n).length:=by
     exact iL n r
    omega
   rw [Aa];omega
  rw [Aa,Ca];refine jE (λp σ H4=>∃ kvs ks A u2,aZ H H4 d (aV (n.take r)++aU r ((row n r).take p) 0) kvs ks A/\σ=[some<|.ref R,some<|.ref d,some<|.int (r:Int),u2]) ⟨kvs,ks,A',_,by simpa [aU] using S,rfl⟩ ?_ ?_
  ·rintro p σ H4 hp ⟨kvs,ks,A',u2,S,rfl⟩;rw [Dj];refine bz 3 nd ?_;obtain⟨a,ea,eJ,et,el,er⟩:=(hR.same S.same).at hi;have hz:(row n r)[p]?=some (row n r)[p]:=Ab hp;generalize (row n r)[p]=z at hz;have next:aV (n.take r)++aU r ((row n r).take<|p+1) 0=(aV (n.take r)++aU r ((row n r).take p) 0)++[(z,(r,p))]:=by
    rw [lK hz,Aw]
   have hlen:kvs.length < sizeLine:=by
    have h1:ks.length<=1000:=by
     refine Cl (bS (b:=ag n) S.nodup λy hy=>?_) ht;have h2:=(S.mem y).mp hy;cases hA:A' y with
     | none=>rw [hA] at h2;cases h2
     | some pr=>
      obtain⟨a2,jK⟩:=pr;have h3:=S.some' y a2 jK hA;unfold bw at h3;obtain⟨x,hx⟩:=MN _ h3;obtain⟨⟨y2,e2⟩,hm,_⟩:=An.mp hx;rw [Ds,DQ] at hm;obtain⟨hm,rfl⟩:=hm;have:(y2,e2)∈aV n:=by
       rcases Aq.mp hm with hm | hm
       ·have q1:=aO.mp hm;refine aO.mpr ?_;have q2:=cT q1;unfold aN row at q1 ⊢;rw [Bl] at q2;rwa [Da<|by omega] at q1
       ·have q1:=aX.mp hm;refine aO.mpr ?_;unfold aN;rw [q1.1];have q3:=q1.2.2;rw [Nat.sub_zero] at q3;have q4:=(Ac.mp q3).1;rw [Bl] at q4;rwa [Da<|by omega] at q3
      exact ig<|aO.mp this
    have h2:=BZ List.length S.keys;rw [Aa,Aa] at h2;exact cn<|by omega
   refine hV<|jH<|zG PySem.F.plainAttrs_dict PySem.F.slot_dict_setdefault PySem.F.type_dict_setdefault U1<|ae 1 ⟨VE S.dict,bb cG<|bb cH<|bb cG<|ae 0<|ae 2 ⟨R,_,_,.ref a.1,rfl,rfl,ao.of<|S.same _ _ hR.lst,eJ,aF ⟨a.1,_,_,.ref a.2,rfl,rfl,aQ.of et,rfl,ae 3 ⟨a.2,_,_,.str z,rfl,rfl,ao.of el,vJ hz,?_⟩⟩⟩⟩;refine dB<|aB ⟨Z0,λl0 iI=>?_⟩;have kj:d≠l0:=bU S.dict iI;refine⟨d,kvs,Sum.inr z,.ref l0,rfl,rfl,by rw [ax kj];exact S.dict,hlen,?_⟩;cases hA:A' z with
   | some pr=>
    obtain⟨a2,jK⟩:=pr;obtain⟨q1,q2,q3,q4⟩:=S.at' z a2 jK hA;have jJ:a2≠l0:=bU q3 iI;refine .inl ⟨.ref a2,by rw [S.val z,hA];rfl,a2,rfl,⟨_,by rw [ax jJ];exact q3⟩,?_⟩;refine dW<|aq<|ae 2<|aq<|ae 3<|aB ⟨Z2,λt ii=>?_⟩;have vL:a2≠t:=λe=>by rw [<- e,ax jJ,q3] at ii;cases ii
    refine⟨jK.map V.ref,by rw [ax vL,ax jJ];exact q3,?_,?_⟩
    ·rw [Aa,q4.length];have h1:(bw (aV (n.take r)++aU r ((row n r).take p) 0) z).length<=100000:=by
      unfold bw;rw [Aa];refine Cl (QX _ _) ?_;rw [Ag];have h2:(aV<|n.take r).length<=1000:=by
       have:=BZ List.length<|iK (n.take r) 0;rw [Aa] at this;unfold aV;rw [this];exact Cl (Km n r) ht
      have h3:(aU r ((row n r).take p) 0).length<=1000:=by
       unfold aU;rw [Aa,List.length_zipIdx,Bl];have h1:(row n r).length<=(ag n).length:=by
        exact iL n r
       omega
      omega
     exact cn h1
    ·refine bn ⟨kvs,ks,(λy=>if y=z then some (a2,jK++[t]) else A' y),_,?_,rfl⟩;rw [next];exact S.old (e:=(r,p)) hA iI ii
   | none=>
    refine .inr ⟨by rw [S.val z,hA];rfl,l0,rfl,⟨_,by rw [ax kj.symm];exact aA⟩,?_⟩;refine dW<|aq<|ae 2<|aq<|ae 3<|aB ⟨Z2,λt ii=>?_⟩;have nF:l0≠t:=λe=>by rw [<- e,ax kj.symm,aA] at ii;cases ii
    refine⟨[],by rw [ax nF,ax kj.symm,aA],by show 0 < sizeLine;decide,?_⟩;refine bn ⟨putK kvs (Sum.inr z)<|.ref l0,ks++[z],(λy=>if y=z then some (l0,[t]) else A' y),_,?_,rfl⟩;rw [next];exact S.new (e:=(r,p)) hA iI ii
  ·rintro σ H4 ⟨kvs,ks,A',u2,S,rfl⟩;refine bn ⟨kvs,ks,A',_,_,?_,rfl⟩;rw [nG hi];rwa [Bs] at S
 ·rintro σ H3 ⟨kvs,ks,A',u1,u2,S,rfl⟩;rw [Bs] at S;exact cA<|ae 1<|q d ks H3 S.same S.free S.whole
abbrev NO:List Str:=["_law_rows","_law_seats_here","_law_end","_law_pair"]
theorem gG:au NO ["_law_rows","_law_seats_here","_law_end"] (bg zV):=⟨rfl,rfl,rfl,by decide +kernel,rfl,by decide +kernel,by decide +kernel⟩
theorem VG{f:Addr}{fd:FuncData}(F:bX K "_law_other" "_law_other" zV f fd)(T:Txt mg):aJ P w K mg base bT 1 f fd ["_law_rows","_law_seats_here","_law_end"] z9:=by
 refine F.gb gG (λvs H Q E h=>?_) λb0 H vs Q E hr h=>?_
 ·obtain⟨R,d,t,as,n,ks,e,rfl,_⟩:=h;rfl
 obtain⟨R,d,t,as,n,ks,e,rfl,hR,hS,hT,ht,he,q⟩:=h;have nd:=gG.nd;have hu:=hr.ie;obtain⟨z,hz⟩:=af.mp he;have aM:=cT hz;obtain⟨a,ea,eJ,et,el,er⟩:=hR.at aM;obtain⟨kvs,h1,h2,h3⟩:=hS.dict;obtain⟨pa,ts,v1,v2,v3⟩:=h3 z<|ig hz;obtain⟨x,y,hp,hxy,Ks⟩:=pI hT hz;rw [hp] at v3;cases v3 with
 | cons x1 v3=>
 cases v3 with
 | cons y1 v3=>
 cases v3;rename_i tx ty;show Run _ _ _ [some<|.ref R,some<|.ref d,some<|.ref t,none] H;have lQ:=hr.u1;refine a8 3 nd<|i4 lQ<|ae 1<|bb cG<|bb cH<|bb cG<|ae 0<|bb cH<|ae 2<|aF ⟨t,_,_,.int (e.1:Int),rfl,rfl,aQ.of ht,rfl,R,_,_,.ref a.1,rfl,rfl,ao.of hR.lst,eJ,aF ⟨a.1,_,_,.ref a.2,rfl,rfl,aQ.of et,rfl,?_⟩⟩;refine bb cH (ae 2<|aF ⟨t,_,_,.int (e.2:Int),rfl,rfl,aQ.of ht,rfl,a.2,_,_,.str z,rfl,rfl,ao.of el,vJ hz,d,.ref pa,rfl,by rw [<- v1];exact bp.k (k:=Sum.inr z) h1,?_⟩);show Run _ _ _ [some<|.ref R,some<|.ref d,some<|.ref t,some<|.ref pa] H;refine cA<|bb cG<|ae 3<|vy Ke T.nO JG<|aq<|zc (Kb hu)<|bb cG<|ae 3<|aF ⟨pa,_,_,.ref tx,rfl,rfl,ao.of v2,rfl,ae 2 ⟨1,_,by decide,Vp x1 ht,?_⟩⟩
 by_cases c:x=e
 ·rw [BW c];refine aB ⟨_,rfl,pa,[.ref tx,.ref ty],1,.ref ty,rfl,rfl,ao.of v2,rfl,q ty ?_⟩;have e1:other n e=y:=by unfold other;simp only [hz,hp];simp [c]
  rw [e1];exact y1
 ·rw [BR c];refine aB ⟨_,rfl,pa,[.ref tx,.ref ty],0,.ref tx,rfl,rfl,ao.of v2,rfl,q tx ?_⟩;have e1:other n e=x:=by unfold other;simp only [hz,hp];simp [c]
  rw [e1];exact x1
abbrev NT:List Str:=["_law_rows","_law_seats_here","_law_end","_law_turn","_law_other_here"]
theorem i7:au NT ["_law_rows","_law_seats_here","_law_end","_law_turn"] (bg zW):=⟨rfl,rfl,rfl,by decide +kernel,rfl,by decide +kernel,by decide +kernel⟩
theorem VH{f:Addr}{fd:FuncData}(F:bX K "_law_step" "_law_step" zW f fd)(T:Txt mg)(G:bh P w K mg base 1 "_law_other" ["_law_rows","_law_seats_here","_law_end"] z9) :
  aJ P w K mg base bT 2 f fd ["_law_rows","_law_seats_here","_law_end","_law_turn"] AA:=by
 refine F.gb i7 (λvs H Q E h=>?_) λb0 H vs Q E hr h=>?_
 ·obtain⟨R,d,t,as,n,ks,e,rfl,_⟩:=h;rfl
 obtain⟨R,d,t,as,n,ks,e,rfl,hR,hS,hT,ht,he,q⟩:=h;have nd:=i7.nd;have ho:=dN hT he;obtain⟨z,hz⟩:=af.mp ho;have aM:=cT hz;have mS:=fJ hz;obtain⟨a,ea,eJ,et,el,er⟩:=hR.at aM;show Run _ _ _ [some<|.ref R,some<|.ref d,some<|.ref t,some<|.int 1,none] H;refine a8 4 nd<|b4 G hr<|aq<|ae 0<|aq<|ae 1<|aq<|ae 2<|aB ⟨R,d,t,as,n,ks,e,rfl,hR,hS,hT,ht,he,λu hu=>?_⟩;show Run _ _ _ [some<|.ref R,some<|.ref d,some<|.ref t,some<|.int 1,some<|.ref u] H;refine cA<|dW<|aq<|bb cH<|ae 4<|aF ⟨u,_,_,.int ((other n e).1:Int),rfl,rfl,aQ.of hu,rfl,?_⟩;refine aq<|aW cY<|aW fG<|bb cH<|ae 4<|aF ⟨u,_,_,.int ((other n e).2:Int),rfl,rfl,aQ.of hu,rfl,ae 3 ⟨_,_,rfl,rfl,?_⟩⟩;refine cZ dU T.len DG<|aq<|bb cH<|bb cG<|ae 0<|bb cH<|ae 4<|aF ⟨u,_,_,.int ((other n e).1:Int),rfl,rfl,aQ.of hu,rfl,R,_,_,.ref a.1,rfl,rfl,ao.of hR.lst,eJ,aF ⟨a.1,_,_,.ref a.2,rfl,rfl,aQ.of et,rfl,aB ⟨a.2,_,rfl,.inl<|ao.of el,?_⟩⟩⟩;rw [Aa];refine⟨_,_,rfl,rfl,by omega,aB ⟨Z2,λp hp=>?_⟩⟩;refine q p _ (aT hp _) hp ?_;rw [aA];unfold Nt.step Nt.left;show some (HO.tup [.int ((other n e).1:Int),.int<|(((other n e).2:Int)+1) % ((row n (other n e).1).length:Int)])=some (HO.tup [.int ((other n e).1:Int),.int ((((other n e).2+1) % (row n (other n e).1).length:Nat):Int)]);rw [Int.natCast_emod];rfl
abbrev NF:List Str:=["_law_rows","_law_seats_here","_law_end","_law_face_here","_law_here"]
theorem i8:au NF ["_law_rows","_law_seats_here","_law_end"] (bg zX):=⟨rfl,rfl,rfl,by decide +kernel,rfl,by decide +kernel,by decide +kernel⟩
def fu(n:Net)(e:Nt.End)(j:Nat):List Nt.End:=(List.range j).map λi=>it (step n) i e
theorem VI(n:Net)(e:Nt.End)(j:Nat):fu n e (j+1)=fu n e j++[it (step n) j e]:=by
 unfold fu;rw [Er,Ak];rfl
theorem VJ{f:Addr}{fd:FuncData}(F:bX K "_law_face" "_law_face" zX f fd)(T:Txt mg)(G:bh P w K mg base 2 "_law_step" ["_law_rows","_law_seats_here","_law_end","_law_turn"] AA) :
  aJ P w K mg base bT 3 f fd ["_law_rows","_law_seats_here","_law_end"] vX:=by
 refine F.gb i8 (λvs H Q E h=>?_) λb0 H vs Q E hr h=>?_
 ·obtain⟨R,d,t,as,n,ks,e,rfl,_⟩:=h;rfl
 obtain⟨R,d,t,as,n,ks,e,rfl,hR,hS,hT,ht,he,hb,q⟩:=h;have nd:=i8.nd;have hu:=hr.ie;obtain⟨k,k0,k1,k2⟩:=Kl (f:=step n) (S:=ends n) (λa ha=>ki hT ha) (λa ha b hb=>vI hT ha hb) he;show Run _ _ _ [some<|.ref R,some<|.ref d,some<|.ref t,none,none] H;refine a8 3 nd<|dB<|aq<|ae 2<|aB ⟨Z1,λl hl=>?_⟩;have g1:=aT hl<|.lst [.ref t];refine a8 4 nd<|b4 G hr<|aq<|ae 0<|aq<|ae 1<|aq<|ae 2<|aq<|aF<|aB ⟨R,d,t,as,n,ks,e,rfl,hR.same g1,hS.same g1,hT,g1 _ _ ht,he,λu H1 s1 nu eu=>?_⟩;show Run _ _ _ [some<|.ref R,some<|.ref d,some<|.ref t,some<|.ref l,some<|.ref u] H1;refine vE (λm σ H2=>∃(j:Nat) (ts:List Addr) (u:Addr),m=k - j/\0 < j/\j<=k/\ak H H2/\H2 l=some (.lst<|ts.map V.ref)/\Pd H2 ts (fu n e j)/\H2 u=some (Tp<|it (step n) j e)/\(∀ i,0 < i->i < j->it (step n) i e≠e)/\σ=[some<|.ref R,some<|.ref d,some<|.ref t,some<|.ref l,some<|.ref u])
  (m0:=k - 1) ⟨1,[t],u,rfl,Gp,k0,g1.trans s1,s1 _ _ aA,.cons (s1 _ _<|g1 _ _ ht) .nil,eu,λi h1 h2=>by omega,rfl⟩ ?_
 rintro m σ H2 ⟨j,ts,u,rfl,j0,j1,sH,el,ep,eu,hf,rfl⟩;refine fW (vD hu) (ae 4<|ae 2 ⟨1,_,by decide,Vq eu<|sH _ _ ht,_,rfl,?_⟩);have pl:=ep.length;have ol:(fu n e j).length=j:=by unfold fu;simp
 by_cases c:it (step n) j e=e
 ·rw [BW c];refine cL (cA<|ae 3<|q l ts (fu n e j) H2 sH hl el ep ⟨by omega,by omega,λi hi=>?_,by rw [ol];exact c,λi h1 h2=>hf i h1<|by omega⟩);unfold fu;rw [Ae,Cy<|by omega];rfl
 ·rw [BR c];have jk:j < k:=by
   rcases Dc j k with h | h
   ·exact h
   ·have:j=k:=by omega
    subst this;exact absurd k2 c
  refine bW (hV<|jH<|ae 3 ⟨l,rfl,⟨_,el⟩,ae 4 ⟨_,el,by rw [Aa];exact cn (by omega),?_⟩⟩);have s2:ak H (upd H2 l<|.lst<|ts.map V.ref++[.ref u]):=dC sH hl;have kt:∀ b f,H2 b=some (Tp f)->(upd H2 l<|.lst<|ts.map V.ref++[.ref u]) b=some (Tp f):=λb f h=>by
   rw [ax<|rG h el];exact h
  have Kt:=kt u _ eu;refine a8 4 nd<|b4 G hr<|aq<|ae 0<|aq<|ae 1<|aq<|ae 4<|aq<|aF<|aB ⟨R,d,u,as,n,ks,it (step n) j e,rfl,hR.same s2,hS.same s2,hT,Kt,i5 (λa ha=>ki hT ha) he j,λv H3 s3 nv ev=>?_⟩;refine bn ⟨k - (j+1),by omega,j+1,ts++[u],v,rfl,Ee _,jk,s2.trans s3,?_,?_,ev,λi h1 h2=>?_,rfl⟩
  ·rw [Ak];exact s3 _ _ aA
  ·rw [VI];exact(ep.keep λb f h=>s3 _ _<|kt b f h).append<|.cons (s3 _ _ Kt) .nil
  ·rcases Nat.lt_succ_iff_lt_or_eq.mp h2 with h | h
   ·exact hf i h1 h
   ·rw [h];exact c
end
end X4
namespace Nt
open PySem L2
def Full(n:Net):Prop:=(∃ nm,n=[(nm,[])])\/(n≠[]/\∀ i,i < n.length->row n i≠[])
def dP(n:Net)(c:End):Prop:=c.1 < n.length/\c.2 < max 1 (row n c.1).length
def ins(n:Net)(c:End)(z:Str):Net:=n.modify c.1 λr=>(r.1,r.2.take c.2++z :: r.2.drop c.2)
theorem fK(n:Net)(c:End)(z:Str):(ins n c z).length=n.length:=by unfold ins;rw [List.length_modify]
theorem AB(n:Net)(c:End)(z:Str):(ins n c z).map (·.1)=n.map (·.1):=by
 unfold ins;refine Dq λi=>?_;rw [Ae,Ae,Fu];cases n[i]? with
 | none=>rfl
 | some r=>by_cases h:c.1=i <;> simp [h]
theorem pJ(n:Net)(c:End)(z:Str)(i:Nat)(hc:c.1 < n.length):row (ins n c z) i=if c.1=i then(row n i).take c.2++z :: (row n i).drop c.2 else row n i:=by
 unfold row ins;rw [Fu]
 by_cases h:c.1=i
 ·subst h;rw [Ab hc];simp
 ·rw [BK h];cases n[i]? with
  | none=>simp [h]
  | some r=>simp [h]
theorem jL:∀(n:Net) (c:End) (z:Str),c.1 < n.length->(ag<|ins n c z).Perm (z :: ag n)
 | [],c,z,h=>by simp at h
 | a :: n,(0,p),z,h=>by
  unfold ins ag;simp only [List.modify_zero_cons,Ex];have:(a.2.take p++z :: a.2.drop p).Perm (z :: a.2):=by
   refine List.perm_middle.trans ?_;rw [Cu]
  exact this.append_right _
 | a :: n,(i+1,p),z,h=>by
  have ih:=jL n (i,p) z (by simpa using h);unfold ins ag at ih ⊢;simp only [List.modify_succ_cons,Ex];refine(ih.append_left a.2).trans ?_;exact List.perm_middle
theorem AF{n:Net}{c:End}{z:Str}(F:Full n)(hc:c.1 < n.length):n.length=1\/(∀ i,i < n.length->row n i≠[])->(∀ i,i < (ins n c z).length->row (ins n c z) i≠[])/\ins n c z≠[]:=by
 intro h;have hl:=fK n c z;refine⟨λi hi=>?_,λe=>?_⟩
 ·rw [pJ n c z i hc]
  by_cases q:c.1=i
  ·rw [BL q];simp
  ·rw [BK q]
   rcases h with h | h
   ·rw [hl] at hi;omega
   ·exact h i<|by omega
 ·rw [e] at hl;simp at hl;omega
theorem Full.some{n:Net}(F:Full n):n≠[]:=by
 rcases F with ⟨nm,rfl⟩ | h
 ·simp
 ·exact h.1
theorem Full.either{n:Net}(F:Full n):n.length=1\/(∀ i,i < n.length->row n i≠[]):=by
 rcases F with ⟨nm,rfl⟩ | h
 ·exact .inl rfl
 ·exact .inr h.2
theorem Full.cB{n:Net}(F:Full n)(h0:row n 0≠[]){c:End}(hc:dP n c):c∈ends n:=by
 rcases F with ⟨nm,rfl⟩ | h
 ·exact absurd rfl h0
 ·have:=h.2 c.1 hc.1;have hp:0 < (row n c.1).length:=Cp.mpr this;have aM:c.2 < (row n c.1).length:=by
   have:=hc.2;omega
  exact af.mpr<|vH aM
theorem VL{n:Net}{e:End}(h:e∈ends n):dP n e:=by
 obtain⟨z,h⟩:=af.mp h;have:=fJ h;exact⟨cT h,by omega⟩
def nQ(H H':Hp)(bad:List Addr):Prop:=∀ b o,H b=some o->b∉bad->H' b=some o
theorem Ku(zs:List Str)(i:Nat)(z:Str):insertAt (zs.map V.str) i (.str z)=(zs.take i++z :: zs.drop i).map V.str:=by
 unfold insertAt;rw [Ak,Ap,Ha,Go]
theorem ah.ins{H:Hp}{R:Addr}{as:List (Addr×Addr)}{n:Net}(h:ah H R as n){c:End}{z:Str}{a:Addr×Addr}(ha:as[c.1]?=some a)(hc:c.1 < n.length) :
  ah (upd H a.2<|Ls<|(row n c.1).take c.2++z :: (row n c.1).drop c.2) R as (Nt.ins n c z):=by
 have q0:=h.tup c.1 a n[c.1] ha<|Ab hc;have VM:R≠a.2:=by
  intro e;have h1:=h.lst;rw [e,q0.2] at h1;have h2:=HO.lst.inj<|Option.some.inj h1;have h3:=BZ List.length h2;cases hm:n[c.1].2 with
  | nil=>
   rw [hm] at h2;have:as.map (λa=>V.ref a.1)=[]:=h2.symm;have hl:=BZ List.length this;rw [Aa,h.len] at hl;rw [hl] at hc;exact absurd hc<|Eb _
  | cons y r=>
   rw [hm] at h2;cases as with
   | nil=>simp at h2
   | cons b bs=>
    simp at h2
 have er:row n c.1=n[c.1].2:=by unfold row;rw [Ab hc];rfl
 refine⟨by rw [fK];exact h.len,by rw [ax VM];exact h.lst,λi b r hb hr=>?_,h.inj⟩;unfold Nt.ins at hr;rw [Fu] at hr;cases hn:n[i]? with
 | none=>rw [hn] at hr;by_cases q:c.1=i <;> simp [q] at hr
 | some r0=>
  rw [hn] at hr;have q1:=h.tup i b r0 hb hn;have t1:b.1≠a.2:=cr q1.1 q0.2 λe=>nomatch e
  by_cases q:c.1=i
  ·subst q;rw [Ab hc] at hn;cases hn;rw [ha] at hb;cases hb;simp at hr;subst hr;refine⟨by rw [ax t1];exact q1.1,?_⟩;rw [aA,er]
  ·simp [q] at hr;subst hr;have t2:b.2≠a.2:=λe=>by
    have l1:i < as.length:=(Ac.mp hb).1;have l2:c.1 < as.length:=(Ac.mp ha).1;have x1:(as.map (·.2))[i]?=some b.2:=by rw [Ae,hb];rfl
    have x2:(as.map (·.2))[c.1]?=some a.2:=by rw [Ae,ha];rfl
    obtain⟨y1,z1⟩:=Ac.mp x1;obtain⟨y2,z2⟩:=Ac.mp x2;exact q<|(Gk (h₀:=y2) (h₁:=y1) h.inj).mp<|z2.trans<|e.symm.trans z1.symm
   exact⟨by rw [ax t1];exact q1.1,by rw [ax t2];exact q1.2⟩
theorem ah.more{H:Hp}{R t l:Addr}{as:List (Addr×Addr)}{n:Net}{pt:Str}{zs:List Str}(h:ah H R as n)(ht:H t=some (.tup [.str pt,.ref l]))(hl:H l=some (Ls zs))(hn:l∉as.map (·.2))(hR:l≠R) :
  ah (upd H R<|.lst<|as.map (λa=>V.ref a.1)++[.ref t]) R (as++[(t,l)]) (n++[(pt,zs)]):=by
 have cq:=h.len;refine⟨by rw [Ag,Ag,cq];rfl,by rw [aA,Ak];rfl,λi b r hb hr=>?_,?_⟩
 ·rcases Dc i as.length with c | c
  ·rw [Ay c] at hb;rw [Ay<|by omega] at hr;have q:=h.tup i b r hb hr;have t1:b.1≠R:=cr q.1 h.lst λe=>nomatch e;have t2:b.2≠R:=by
    intro e;have h1:=h.lst;rw [<- e,q.2] at h1;have h2:=HO.lst.inj<|Option.some.inj h1;cases as with
    | nil=>simp at c
    | cons b' bs=>
     cases hm:r.2 with
     | nil=>rw [hm] at h2;simp at h2
     | cons y r=>rw [hm] at h2;simp at h2
   exact⟨by rw [ax t1];exact q.1,by rw [ax t2];exact q.2⟩
  ·have e:i=as.length:=by
    have:=(Ac.mp hb).1;rw [Ag] at this;simp at this;omega
   subst e;rw [Bc<|Am _] at hb;rw [cq,Bc<|Am _] at hr;simp at hb hr;subst hb hr;have t1:t≠R:=cr ht h.lst λe=>nomatch e;exact⟨by rw [ax t1];exact ht,by rw [ax hR];exact hl⟩
 ·rw [Ak,Cc];exact⟨h.inj,by simp,λx hx y hy e=>by simp at hy;subst hy e;exact hn hx⟩
theorem ah.lists{H:Hp}{R:Addr}{as:List (Addr×Addr)}{n:Net}(h:ah H R as n){x:Addr×Addr}(hx:x∈as):∃ zs,H x.2=some (Ls zs):=by
 obtain⟨i,hi,e⟩:=Bp.mp hx;have hl:=h.len;exact⟨_,(h.tup i x (n[i]'(by omega)) (by rw [<- e];exact Ab hi)<|Ab<|by omega).2⟩
theorem ah.fresh{H:Hp}{R l:Addr}{as:List (Addr×Addr)}{n:Net}(h:ah H R as n)(hl:H l=none){x:Addr×Addr}(hx:x∈as):l≠x.2:=by
 obtain⟨zs,e⟩:=h.lists hx;exact(bU e hl).symm
theorem ik(n:Net):(ends n).length=(ag n).length:=by
 unfold ends aV;rw [Aa,<- iK n 0,Aa]
theorem cf.ends{n:Net}(T:az n){e:End}{fs:List End}(h:cf n e fs)(he:e∈ends n):∀ c∈fs,c∈Nt.ends n:=by
 intro c hc;obtain⟨i,hi,e2⟩:=Bp.mp hc;have:=h.at' i hi;rw [Ab hi,e2] at this;rw [Option.some.inj this];exact i5 (λa ha=>ki T ha) he i
theorem vY{n:Net}{c k:End}{z:Str}(hc:dP n c)(hk:k.1 < n.length):dP (ins n k z) c:=by
 refine⟨by rw [fK];exact hc.1,?_⟩;rw [pJ n k z c.1 hk];have:=hc.2
 split
 ·rw [Ag,Ao,Bl,Cz];omega
 ·exact this
def dbl(zs:List Str):List Str:=zs.flatMap λz=>[z,z]
theorem AG(y:Str):∀ zs:List Str,(dbl zs).count y=2 * zs.count y
 | []=>rfl
 | z :: r=>by
  unfold dbl;rw [Ex];have ih:=AG y r;unfold dbl at ih;rw [LQ,ih,Dg,Dg,Dg,List.count_nil];omega
theorem gH{y:Str}{zs:List Str}:y∈dbl zs↔y∈zs:=by
 rw [<- El,AG,<- El];omega
theorem AH:∀ zs:List Str,(dbl zs).length=2 * zs.length
 | []=>rfl
 | z :: r=>by
  unfold dbl;rw [Ex,Ag];have ih:=AH r;unfold dbl at ih;rw [ih,Ao];simp;omega
theorem VN(zs:List Str)(z:Str):dbl (zs++[z])=dbl zs++[z,z]:=by
 unfold dbl;rw [Dr];rfl
theorem Kv{n:Net}{zs:List Str}(hn:zs.Nodup)(p:(ag n).Perm<|dbl zs):az n:=λz hz=>by
 rw [p.count_eq,AG];have h1:z∈zs:=gH.mp<|p.mem_iff.mp hz;rw [hn.count,BL h1]
def NE(n:Net):Prop:=∀ r∈n,r.2≠[]
theorem vZ{n:Net}{i:Nat}(h:i < n.length):row n i=n[i].2:=by unfold row;rw [Ab h];rfl
theorem VO{n:Net}(h:NE n)(h0:n≠[]):Full n:= .inr ⟨h0,λi hi=>by rw [vZ hi];exact h _<|Bt hi⟩
theorem Full.ne{n:Net}(h:Full n):(∃ nm,n=[(nm,[])])\/NE n:=by
 rcases h with h | ⟨_,h⟩
 ·exact .inl h
 ·refine .inr λr hr=>?_;obtain⟨i,hi,rfl⟩:=Bp.mp hr;have:=h i hi;rwa [vZ hi] at this
theorem Kw:∀(n:Net) (k:Nat) (h:k < n.length),(ag n).Perm<|n[k].2++ag (n.eraseIdx k)
 | [],k,h=>by simp at h
 | a :: n,0,h=>by unfold ag;simp
 | a :: n,k+1,h=>by
  have ih:=Kw n k (by simpa using h);unfold ag at ih ⊢;simp only [Ex,List.getElem_cons_succ,List.eraseIdx_cons_succ];refine(ih.append_left a.2).trans ?_;rw [<- Aw,<- Aw];exact List.perm_append_comm.append_right _
theorem VP(n:Net)(k:Nat)(h:k < n.length):(n.map (·.1)).Perm (n[k].1 :: (n.eraseIdx k).map (·.1)):=by
 have:=(ce.cS n k h).map (·.1);exact this.symm
theorem AI(zs:List Str)(i:Nat):(zs.drop i++zs.take i).Perm zs:=by
 refine Cn.trans ?_;rw [Cu]
theorem ah.upd{H:Hp}{R x:Addr}{as:List (Addr×Addr)}{n:Net}(h:ah H R as n){xs:List V}{o:HO}(hx:H x=some (.lst xs))(hR:R≠x)(ha:∀ a∈as,a.2≠x):ah (upd H x o) R as n:=by
 refine⟨h.len,by rw [ax hR];exact h.lst,λi a r h1 h2=>?_,h.inj⟩;have q:=h.tup i a r h1 h2;exact⟨by rw [ax<|cr q.1 hx λe=>nomatch e];exact q.1,by rw [ax<|ha a<|Al h1];exact q.2⟩
theorem AJ{α:Type}(l:List α)(k i:Nat):(l.eraseIdx k)[i]?=if i < k then l[i]? else l[i+1]?:=by
 rw [Gg]
theorem ah.erase{H:Hp}{R:Addr}{as:List (Addr×Addr)}{n:Net}(h:ah H R as n){k:Nat}(hk:k < n.length) :
  ah (L2.upd H R<|.lst<|(as.map λa=>V.ref a.1).eraseIdx k) R (as.eraseIdx k) (n.eraseIdx k):=by
 have hl:=h.len;refine⟨by rw [Ey,Ey,hl],?_,λi a r h1 h2=>?_,?_⟩
 ·rw [aA]
  congr 2
  refine Dq λi=>?_;rw [AJ,Ae,Ae,Ae,AJ]
  split <;> rfl
 ·rw [AJ] at h1 h2;have q:H a.1=some (.tup [.str r.1,.ref a.2])/\H a.2=some (Ls r.2):=by
   by_cases c:i < k
   ·rw [BL c] at h1 h2;exact h.tup i a r h1 h2
   ·rw [BK c] at h1 h2;exact h.tup (i+1) a r h1 h2
  have t2:a.2≠R:=by
   intro e;have h3:=h.lst;rw [<- e,q.2] at h3;have h4:=HO.lst.inj<|Option.some.inj h3;cases as with
   | nil=>simp at hl;simp [<- hl] at hk
   | cons b bs=>
    cases hm:r.2 with
    | nil=>rw [hm] at h4;simp at h4
    | cons y r=>rw [hm] at h4;simp at h4
  exact⟨by rw [ax<|cr q.1 h.lst λe=>nomatch e];exact q.1,by rw [ax t2];exact q.2⟩
 ·have:((as.eraseIdx k).map (·.2)).Sublist (as.map (·.2)):=(List.eraseIdx_sublist as k).map _;exact h.inj.sublist this
theorem Kx(zs:List Str)(i:Nat):cv (zs.map V.str) (some (i:Int)) none=(zs.drop i).map V.str:=by
 unfold cv;rw [HT.eB,HT.dj,Aa];rw [Dh (by rw [Cz,Aa];omega),Go]
 rcases RM i zs.length with h | h
 ·rw [QG h]
 ·rw [PJ h,Fi (by simp),Fi<|by simpa using h]
theorem VQ(zs:List Str)(i:Nat):cv (zs.map V.str) none (some (i:Int))=(zs.take i).map V.str:=by
 unfold cv;rw [HT.eB,HT.dj,Aa,List.drop_zero,Nat.sub_zero,Ha]
 rcases RM i zs.length with h | h
 ·rw [QG h]
 ·rw [PJ h,Dh (by simp),Dh<|by simpa using h]
end Nt
namespace L2
open PySem PySem.Spec PyProof.Rows
theorem v9{X:Cx}{e tg iter:Expr}{ifs:List Expr}{scope:Scope}{pz:Pos}{gs:List Comprehension}{newAcc:Sem Value}{o0:Obj}{u0:Addr->HO}{inner:Value->Env->Sem Unit}{wi:TI}{σ:St}{H:Hp}{Q:VK}
  (fX:∀(Q:Value->Shared->Prop) (E:Value->Shared->Prop) (s:Shared),Q (.ref s.heap.objs.size) {s with heap:=s.heap.push o0}->wpAny (model X.prog X.w) X.A newAcc Q E s) (fV:∀(H:Hp) (h:Heap),sysModules < h.objs.size->ay X.prog X.w H (h.push o0) h.objs.size (u0 h.objs.size))
  (hC:∀ acc env,Clause e 0 tg iter ifs acc env<|inner acc env) (he:eval e X.env=comprehension e scope X.env pz newAcc false (eval iter X.env) none) (nR:clausesOf e=⟨tg,iter,ifs,0⟩ :: gs)
  (sc:Scope) (N N':List Str) (n:Nat) (hi:PI X tg iter wi)
  (h:wi σ H λJ H1=>∀ D,H1 D=none->∀ cl C s₀ H₀ ex,fH (fm X N' scope cl C s₀ H₀ ex) tg ifs (inner (.ref D)<|compEnvC scope cl C X.env) J (λ_ H'=>Q (.ref D) H') (σ++List.replicate n none)<|upd H1 D<|u0 D)
  (hc:X.calm=true) (ib:X.env.scope=sc) (hN:X.N=N) (hk:ke sc scope N N'=true) (hl:N'.length=N.length+n) (hs:∀ x,foldedSetIterable iter X.env x=pure x):Ev X e σ H Q:=by
 refine⟨λpins s I=>?_⟩;subst ib hN;have ck:=cb.of hk;rw [he];refine HY (use:=none) nR hs (yW λx hx hf=>I.ok.has x.1<|ck.free x hx hf) ck.kind ck.names<|aI (hi pins s σ H _ I h) λv s1 h1=>aI h1 λmK s2 h2=>?_;obtain⟨it,fp,tn,J,H2,e,I2,T,dA,f2,q⟩:=h2;subst e;refine JO fX fV (Q:=Q) (RR:=λacc C=>compPost (model X.prog X.w) X.A X.xe none (EP X pins σ Q) acc C) hc ck hl hC I2 T dA f2 q ?_;intro D C H' s' m IX hn hC c1 c2 c3 c4 qq;exact⟨m,hn,λh' ft=>⟨.ref D,H',IX.turned (t':=s'.toks) (λb o hb e=>ft.extBut b o hb e) hC (Ne.symm<|Ne.symm c1) (.inr c2) c3 c4,rfl,qq⟩⟩
theorem VR{P:Program}{w:World}{k:Key}{u:Value}(h:(bI P w).is k u=true):RelV (kV k) u:=by
 rcases jy h with ⟨i,t,rfl,rfl⟩ | ⟨x,t,rfl,rfl⟩ <;> exact⟨t,rfl⟩
section
variable{X:Cx}{pins:List (Addr×Obj)}{σ:St}{H:Hp}{s:Shared}
theorem VS{xs:List V}:∀{vs:List Value},vs.length=xs.length->(∀(j:Nat) u,vs[j]?=some u->∃ x,xs[j]?=some x/\RelV x u)->aw xs vs:=by
 induction xs with
 | nil=>
  intro vs h _;cases vs with
  | nil=>exact .nil
  | cons a b=>simp at h
 | cons x r ih=>
  intro vs h g;cases vs with
  | nil=>simp at h
  | cons u q=>
   obtain⟨x',e,ru⟩:=g 0 u rfl;simp only [PX,Option.some.injEq] at e;subst e;exact .cons ru<|ih (by simpa using h) λj u hu=>by simpa using g (j+1) u (by simpa using hu)
theorem VU{d:Addr}{kvs:List (Key×V)}(I:Inv X pins σ H s)(e:H d=some (.dK kvs)):∃ o,s.heap.get? d=some o/\Inv X pins σ (upd H d<|.bK o<|.dK kvs) s:=by
 obtain⟨z,hd,vs,rel,dd⟩:=rh I.aD e;obtain⟨o,es,ep,ho,rest⟩:=id dd;refine⟨o,ho,?_⟩;exact lu (t':=s.toks) I (by rw [e];exact True.intro) ⟨rfl,λ_ _=>rfl⟩ ⟨o,ho⟩ (show ay X.prog X.w _ s.heap d (.bK o<|.dK kvs) from⟨ho,z,hd,vs,rel,dd⟩)
def wa(d:Addr)(o:Obj)(kvs:List<|Key×V):It:=
 ⟨λi H=>H d=some (.bK o<|.dK kvs)/\i < kvs.length,λi H x H'=>H'=H/\∃ p,kvs[i]?=some p/\x=kV p.1,λi H=>H d=some (.bK o<|.dK kvs)/\kvs.length<=i⟩
theorem Ky{P:Program}{w:World}{h:Heap}{d:Addr}{o:Obj}{es:Array DictEntry}{ep:Nat}{kvs:List (Key×V)}(aD:cu P w H h)(e:H d=some (.bK o<|.dK kvs))(hd:o.data = .dict es ep):∃ vs,KV kvs vs/\h.DictAt (bI P w) d vs ep:=by
 obtain⟨ho,z,_,vs,rel,dd⟩:=(show ay P w H h d (.bK o<|.dK kvs) from aD d _ e);obtain⟨qz,o',iE,dH,r1,r2,r3⟩:=dd.dictAt;have:o=o':=Option.some.inj<|ho.symm.trans dH;subst this;rw [hd] at r2
 injection r2 with e1 e2
 subst e1;subst e2;exact⟨vs,rel,o,es,dH,r1,hd,r3⟩
theorem Kz{P:Program}{w:World}{K:PySem.W.Frag}{tg:Expr}(d it:Addr)(o:Obj)(es:Array DictEntry)(ep:Nat)(kvs:List<|Key×V)(nS:o.data = .dict es ep):Turn P w K tg (wa d o kvs) [it] it (λi h=>h.IsKeyIter it d i kvs.length ep) where
 mem:=by simp
 obj:=λi h st b hb=>by
  have e:b=it:=by simpa using hb
  subst e;obtain⟨o,e,c,d⟩:=st;exact⟨o,e,λv z=>by rw [d] at z;cases z⟩
 keep:=λi h h' st k=>let ⟨o,ho,r⟩:=st;⟨o,k it (by simp) o ho,r⟩
 item:=by
  intro X hP hw hK hc i pins s σ H E I hf st hg;subst hP hw hK;obtain⟨f0,f1,f2,f3,f4,f5⟩:=hf it (by simp);obtain⟨hd,hi⟩:=hg;obtain⟨vs,rel,da⟩:=Ky I.aD hd nS;have hl:=rel.length;have iM:i < vs.length:=by omega
  have hx:vs[i]?=some vs[i]:=Ab iM;rw [hl] at st;refine wpAny_pyNext_dict_item (k:=vs[i].1) (v:=vs[i].2) st da hx λkey h' hk cE ft=>?_;have I1:Inv X pins σ H {s with heap:=h'}:=I.turned (t':=s.toks) (λb o hb e=>ft.extBut b o hb e) f0 f1 f3 f4 f5;obtain⟨o2,e2,c2,d2⟩:=id cE;refine⟨_,rfl,qJ (s:={s with heap:=h'}) e2 c2 d2 (by decide) ⟨kV vs[i].1,H,I1,VR hk,⟨rfl,kvs[i],Ab hi,?_⟩,by rw [hl];exact cE,λb hb=>(hf b hb).1⟩⟩;have ek:=rel.keys;have e3:(kvs.map (·.1))[i]?=(vs.map (·.1))[i]?:=by rw [ek]
  rw [Ae,Ae,Ab hi,hx] at e3;have e4:kvs[i].1=vs[i].1:=Option.some.inj e3;rw [e4]
 done:=by
  intro X hP hw hK hc i pins s σ H E I hf st hg;subst hP hw hK;obtain⟨f0,f1,f2,f3,f4,f5⟩:=hf it (by simp);obtain⟨hd,hi⟩:=hg;obtain⟨vs,rel,da⟩:=Ky I.aD hd nS;have hl:=rel.length;rw [hl] at st;exact wpAny_pyNext_dict_end (I.ok.hd hc) st da (by rw [By];omega) λh' eb=>⟨rfl,I.turned (t':=s.toks) (λb o hb e=>eb b o hb e) f0 f1 f3 f4 f5⟩
 self:=λ_ _ _ _ _ st h=>wpAny_pyIter_keyiter st h
def VV(tl:TE):TI:=λσ H R=>tl σ H λx H1=>∃ d kvs,x = .ref d/\H1 d=some (.dK kvs)/\∀ o,R (wa d o kvs)<|upd H1 d<|.bK o<|.dK kvs
theorem VW{tg l:Expr}{tl:TE}(hl:PE X l tl):PI X tg l (VV tl):=by
 intro pins s σ H R I h;refine aI (hl pins s σ H _ I h) λv s1 ⟨x,H1,I1,r1,q1⟩=>?_;obtain⟨d,kvs,e,hH,q⟩:=q1;subst e;cases (show v=Value.ref d from r1);obtain⟨o,ho,I2⟩:=VU I1 hH;obtain⟨z,km,vs,rel,dd⟩:=rh I1.aD hH;obtain⟨ep,o',es,dH,r1,r2,r3⟩:=dd.dictAt;have:o=o':=Option.some.inj<|ho.symm.trans dH;subst this;refine wpAny_pyIter_dict km ⟨o,es,dH,r1,r2,r3⟩ ?_;refine⟨s1.heap.objs.size,[s1.heap.objs.size],_,_,_,rfl,I2.kept (t':=s1.toks) λb o e=>Ai _ e,Kz d _ o es ep kvs r2,⟨_,Ba _ rfl,rfl,by rw [rel.length];rfl⟩,λb hb=>?_,q o⟩;have e:b=s1.heap.objs.size:=by simpa using hb
 subst e;exact I2.d8 (Am _)<|I2.aD.fresh<|Am _
end
section
variable{X:Cx}{elt tg:Expr}{ifs:List Expr}{scope:Scope}{σ:St}{H:Hp}{N':List Str}{A a d:Addr}{xs:List V}{kvs:List (Key×V)}{after:Hp->Prop}
theorem wc(Pv:Nat->St->Hp->Prop)(h0:Pv 0 σ H)(hl:∀ i σ' H',i<=xs.length->Pv i σ' H'->ao X.K H' a xs)
  (hs : ∀ i x σ' H', xs[i]? = some x → Pv i σ' H' → m9 X N' scope tg x σ' H' λσ2 H3 => ng X N' scope ifs σ2 H3 λb H4 =>
   if b=true then m8 X N' scope elt σ2 H4 λv H5=>∃ ys,H5 A=some (.lst ys)/\ys.length < sizeLine/\Pv (i+1) σ2 (upd H5 A<|.lst<|ys++[v]) else Pv (i+1) σ2 H4)
  (hd:∀ σ' H',Pv xs.length σ' H'->after H'):iY X N' scope tg ifs elt (o8 X.K a) A after σ H:=by
 refine⟨λi m σ' H'=>m=xs.length - i/\i<=xs.length/\Pv i σ' H',⟨_,rfl,Bo _,h0⟩,?_⟩;rintro i m σ' H' ⟨rfl,hi,p⟩;have q:=hl i σ' H' hi p
 by_cases aM:i < xs.length
 ·refine .inr ⟨⟨xs,xs[i],q,by simp [aM]⟩,Pv<|i+1,λσ' H' p'=>⟨xs.length - (i+1),by omega,rfl,aM,p'⟩,λx H2 y=>?_⟩;obtain⟨e,y⟩:=y;subst e;exact hs i x σ' _ (y xs q) p
 ·have e:i=xs.length:=by omega
  subst e;exact .inl ⟨⟨xs,q,Am _⟩,hd σ' H' p⟩
theorem KA{o:Obj}(Pv:Nat->St->Hp->Prop)(h0:Pv 0 σ H)(hl:∀ i σ' H',i<=kvs.length->Pv i σ' H'->H' d=some (.bK o<|.dK kvs))
  (hs : ∀ i p σ' H', kvs[i]? = some p → Pv i σ' H' → m9 X N' scope tg (kV p.1) σ' H' λσ2 H3 => ng X N' scope ifs σ2 H3 λb H4 =>
   if b=true then m8 X N' scope elt σ2 H4 λv H5=>∃ ys,H5 A=some (.lst ys)/\ys.length < sizeLine/\Pv (i+1) σ2 (upd H5 A<|.lst<|ys++[v]) else Pv (i+1) σ2 H4)
  (hd:∀ σ' H',Pv kvs.length σ' H'->after H'):iY X N' scope tg ifs elt (wa d o kvs) A after σ H:=by
 refine⟨λi m σ' H'=>m=kvs.length - i/\i<=kvs.length/\Pv i σ' H',⟨_,rfl,Bo _,h0⟩,?_⟩;rintro i m σ' H' ⟨rfl,hi,p⟩;have q:=hl i σ' H' hi p
 by_cases aM:i < kvs.length
 ·refine .inr ⟨⟨q,aM⟩,Pv<|i+1,λσ' H' p'=>⟨kvs.length - (i+1),by omega,rfl,aM,p'⟩,λx H2 y=>?_⟩;obtain⟨e,p',ep,y⟩:=y;subst e y;exact hs i p' σ' _ ep p
 ·have e:i=kvs.length:=by omega
  subst e;exact .inl ⟨⟨q,Am _⟩,hd σ' H' p⟩
theorem jb{e1 e2:Expr}{k:Nat}{pos:Pos}{t:Addr}{x y:V}{R:St->Hp->Prop}(hc:X.calm=true)(ht:aQ X.K H t [x,y])(h:Eg X e1 x σ H λσ1 H1=>Eg X e2 y σ1 H1 R)
  (hn:(assignEach [e1,e2] X.env).length=2:=by rfl) (cD:(assignEach [e1,e2] X.env).findIdx? (·.1)=none:=by rfl)
  (jc:(assignEach [e1,e2] X.env).map (·.2)=assign e1 X.env :: (assignEach [e2] X.env).map (·.2):=by rfl) (jY:(assignEach [e2] X.env).map (·.2)=assign e2 X.env :: (assignEach [] X.env).map (·.2):=by rfl) :
  Eg X (.Tuple [e1,e2] k pos) (.ref t) σ H R:=
 zb (Ie (t:=o7 (λv σ H Q=>Eg X e1 v σ H Q)<|o7 (λv σ H Q=>Eg X e2 v σ H Q) mI) hc (qF m7 (qF m7 Ic jY) jc) hn cD) ⟨t,_,rfl,ht,rfl,_,_,rfl,h.mono λσ1 H1 h1=>⟨_,_,rfl,h1.mono λσ2 H2 q=>⟨rfl,q⟩⟩⟩
end
end L2
namespace PySem
theorem getAttr?_miss_list{prog:Program}{w:World}{A:Around}{E:Value->Shared->Prop}{s:Shared}{a:Addr}{o:Obj}{xs:Array Value}{k:Nat}{name:Str}{Q:Option Value->Shared->Prop}
  (hx:s.heap.get? a=some o) (hc:o.cls = .type "list") (ia:o.data = .seq xs k) (hd:o.dict=none) (rL:typeLookup (.type "list") name=pure none) (rM:(["__module__","__name__","__qualname__","__doc__","__annotations__"]:List Str).contains name=false) (hA:A.handled=none)
  (h:∀ h' tk e,Heap.NewExcOf s.heap h' e "AttributeError"->Q none {s with heap:=h',toks:=tk}) (hsz:name.length+100<=sizeLine:=by size_fits) :
  wpAny (model prog w) A (getAttr? (.ref a) name) Q E s:=by
 obtain⟨c,dct,dat,sl⟩:=o;simp only at hc ia hd;subst hc ia hd;obtain⟨hp,g,d,tk,os⟩:=s;have hT:∀ KE,(⟨hp,g,d,KE,os⟩:Shared).TypeIs (.ref a) "list":=λ_=>⟨_,hx,rfl⟩;have f1:=sub_AttributeError;have f3:=F.slot_list_getattribute.lookup;have f4:=F.slot_list_getattribute.bind<|.ref a;have f5:=am_list_getattr_none;unfold getAttr? getAttrBy? getAttrBy
 repeat (any_goals (first | assumption | exact hT _ | ((with_reducible show wpAny _ _ (call (Value.builtin "list.__getattribute__") _ _) _ _ _);refine MJ F.slot_list_getattribute (hT _) am_entry_list_getattribute (F.args_list_getattribute_2 _ _) (meets_getattribute_miss_list a xs k sl name _ rL rM hsz) ⟨hx,hA,λh' KE e iZ=>?_⟩) | wp_step))
 obtain⟨t',u',he⟩:=iZ.there;show wpAny _ _ (getattributeRaised _ _ _ _ _ _ _) _ _ _;unfold getattributeRaised
 repeat (any_goals (first | assumption | wp_step))
 exact h _ _ _ iZ.of
namespace F
theorem bm:entryFor table "dict.update.loop" = some Builtin.«dict.update.loop»:=entryFor_of_tree<|by kernel_rfl
theorem aH:plainId "dict.update.loop" = true:=by decide +kernel
theorem eN:typeLookup (.type "list") "keys" = pure none:=by rw [QJ,JH];kernel_rfl
end F
section
variable{prog:Program}{w:World}{K:Type} [DecidableEq K] {knd:KeyKind prog w K} {A:Around} {R:Result->Shared->Prop}
def AK(knd:KeyKind prog w K)(h:Heap)(items:List Value)(fw:List<|K×Value):Prop:=
 items.length=fw.length/\∀(j:Nat) it,items[j]?=some it->∃ T key k v o n,it = .ref T/\fw[j]?=some (k,v)/\knd.is k key=true/\h.get? T=some o/\o.cls = .type "tuple"/\o.data = .seq #[key,v] n
theorem VX(kvs:List<|K×Value)(k:K)(v:Value):(stored kvs k v).length<=kvs.length+1:=by
 unfold stored
 split
 ·rw [Aa];omega
 ·rw [Ag];simp
theorem VY{hB:Heap}{d I l:Addr}{items:List Value}{fw:List (K×Value)}(hd:hB.objs.size<=d)(hI:hB.objs.size<=I)(AO:d≠I)(hl:hB.IsList l items.toArray)(hp:AK knd hB items fw)(hn:items.length < sizeLine)(hh:A.handled=none) :
  ∀(k i:Nat) (s:Shared) (acc:List<|K×Value),items.length - i=k->i<=items.length->(∀ b o,hB.get? b=some o->s.heap.get? b=some o)->s.heap.IsListIter I l i->s.heap.DictOf knd d acc->acc.length<=i ->
   (∀ h' tk,(∀ b o,b≠I->b≠d->s.heap.get? b=some o->h'.get? b=some o)->h'.DictOf knd d ((fw.drop i).foldl (λa p=>stored a p.1 p.2) acc)->R (.ok<|.ret .none) {s with heap:=h',toks:=tk}) ->
   codeAny (model prog w) A (.builtin "dict.update.loop" ⟨[.ref d,.ref I,rawInt i,.none],[]⟩) R s:=by
 have nb:∀ b o,hB.get? b=some o->b≠I/\b≠d:=λb o e=>⟨Bx<|Bk (Ax e) hI,Bx<|Bk (Ax e) hd⟩;intro k
 induction k with
 | zero=>
  intro i s acc hk hi fz cD hD cq hR;have lD:i=items.length:=by omega
  refine JR F.bm ?_;rw [JT F.aH _];show wpAny _ A.in1 (pyNext (.ref I) >>= _) _ _ s;have im:s.heap.IsList l items.toArray:=let ⟨o,ho,r⟩:=hl;⟨o,fz _ _ ho,r⟩
  refine BJ (wpAny_pyNext_list_end hh cD im (by simp;omega) λh' eb=>?_);show wpAny _ A.in1 (Builtin.Dict.addKeywords d [] >>= _) _ _ _;refine BJ<|BP<|BP ?_;refine hR h' s.toks (λb o hb _ e=>eb b o hb e) ?_;rw [List.drop_eq_nil_of_le<|by have:=hp.1;omega];exact hD.extBut eb AO
 | succ k ih=>
  intro i s acc hk hi fz cD hD cq hR;have aM:i < items.length:=by omega
  have hx:items[i]?=some items[i]:=Ab aM;obtain⟨T,key,kk,v,o,n,e1,e2,e3,e4,e5,e6⟩:=hp.2 i _ hx;rw [e1] at hx;refine JR F.bm ?_;rw [JT F.aH _];show wpAny _ A.in1 (pyNext (.ref I) >>= _) _ _ s;have im:s.heap.IsList l items.toArray:=let ⟨o,ho,r⟩:=hl;⟨o,fz _ _ ho,r⟩
  refine BJ (wpAny_pyNext_list_item cD im (x:= .ref T) (by simpa using hx) λh' cE sb=>?_);have eT:h'.get? T=some o:=(sb.2 T (nb T o e4).1).trans<|fz _ _ e4;refine BJ<|CT<|BJ<|wpAny_tryCatch ?_;unfold Builtin.Dict.pairItems;refine BJ<|JN (T:= "tuple") ⟨o,eT,e5⟩ ?_;rw [BL<|by decide];refine BJ<|KC (s:={s with heap:=h'}) eT e6<|BP ?_;show wpAny _ _ (holding [key,v]<|dictSet d key v) _ _ _;refine CT (wpAny_dictSet_pairs (knd:=knd) (s:={s with heap:=h'}) (k:=kk) e3 (hD.extBut sb.extBut AO) (λh2 D2 KG=>?_)<|by omega);refine BP ⟨JF F.aH _,?_⟩;have KI:∀ b o,b≠I->b≠d->s.heap.get? b=some o->h2.get? b=some o:=λb o h1 h3 e=>(KG.2 b h3).trans<|(sb.2 b h1).trans e;refine ih (i+1) {s with heap:=h2,toks:=s.toks+1} (stored acc kk v) (by omega) aM (λb o e=>KI b o (nb b o e).1 (nb b o e).2<|fz _ _ e) (cE.extBut KG.extBut<|Ne.symm AO) D2 (by have:=VX acc kk v;omega) λh3 tk k3 D3=>?_;refine hR h3 tk (λb o h1 nk e=>k3 b o h1 nk<|KI b o h1 nk e) ?_;have e7:fw.drop i=(kk,v) :: fw.drop (i+1):=by
   obtain⟨hj,e8⟩:=Ac.mp e2;rw [MP hj,e8]
  rw [e7];exact D3
theorem VZ{E:Value->Shared->Prop}{s:Shared}{Q:Value->Shared->Prop}{l:Addr}{ol:Obj}{nl:Nat}{items:List Value}{fw:List (K×Value)}(ho:s.heap.get? l=some ol)(hc:ol.cls = .type "list")(nS:ol.dict=none)(AQ:ol.data = .seq items.toArray nl)(hp:AK knd s.heap items fw)(hn:items.length < sizeLine)(hh:A.handled=none)
  (h:∀ h' tk,(∀ b o,s.heap.get? b=some o->h'.get? b=some o)->h'.DictOf knd s.heap.objs.size (fw.foldl (λa p=>stored a p.1 p.2) [])->Q (.ref s.heap.objs.size) {s with heap:=h',toks:=tk}) :
  wpAny (model prog w) A (call (.type "dict") [.ref l]) Q E s:=by
 refine callType_codes (Q₁:=λobj s₁=>obj = .ref s.heap.objs.size/\s₁={s with heap:=s.heap.push {cls:= .type "dict",data:= .dict #[]}}) F.kt_called_dict (F.kt_typeCall_dict_1 _) F.entry_dict_init (kt_code_dict_new _ ⟨rfl,rfl⟩) ?_;rintro obj s₁ ⟨rfl,rfl⟩;have fX:(s.heap.push {cls:= .type "dict",data:= .dict #[]}).DictOf knd s.heap.objs.size []:=Heap.DictOf.new s.heap;have dH:(s.heap.push {cls:= .type "dict",data:= .dict #[]}).get? l=some ol:=Ai _ ho;refine⟨fX.typeIs,F.args_dict_init_2 _ _,?_⟩;unfold Builtin.«dict.__init__»;refine BJ ?_;unfold Builtin.Dict.selfAndRest;refine BJ<|wpAny_notOrdered_dict fX.typeIs ?_;show wpAny _ _ (pure (s.heap.objs.size,[Value.ref l])) _ _ _;refine BP ?_;show wpAny _ _ (Builtin.Dict.updateFrom "dict.__init__" s.heap.objs.size (.ref l) [] .none) _ _ _;unfold Builtin.Dict.updateFrom;refine BJ<|JN (T:= "list") ⟨ol,dH,hc⟩ ?_;rw [BL<|by decide];refine BJ (getAttr?_miss_list dH hc AQ nS F.eN (by decide) (by exact hh) λh' tk e ne=>?_);rw [BL (show(none:Option Value).isNone=true from rfl)];have kp:∀ b o,s.heap.get? b=some o->h'.get? b=some o:=λb o e=>ne.keeps b o<|Ai _ e;refine BJ<|IV ?_;have hL:h'.IsList l items.toArray:=⟨ol,kp _ _ ho,hc,nl,AQ⟩;refine BJ<|wpAny_pyIter_list hL ?_;refine BP ⟨JF F.aH _,?_⟩;have KL:h'.DictOf knd s.heap.objs.size []:=let ⟨o,es,ep,ho,r⟩:=fX;⟨o,es,ep,ne.keeps _ _ ho,r⟩
 have aM:s.heap.objs.size < h'.objs.size:=let ⟨o,es,ep,ho,r⟩:=KL;Ax ho
 refine VY (hB:=s.heap) (d:=s.heap.objs.size) (I:=h'.objs.size) (l:=l) (Am _) (Cw aM) (Bx aM) ⟨ol,ho,hc,nl,AQ⟩ hp hn (by exact hh) _ 0 _ [] rfl (Bo _) (λb o e=>Ai _<|kp b o e) ⟨_,Ba _ rfl,rfl,rfl⟩ (KL.push _) (Bo _) λh2 V0 k2 D2=>?_;refine⟨rfl,h h2 V0 (λb o e=>k2 b o (Bx<|Ax<|kp b o e) (Bx<|Ax e)<|Ai _<|kp b o e) D2⟩
end
end PySem
namespace L2
open PySem PySem.Spec PyProof.Rows
section
variable{X:Cx}{pins:List (Addr×Obj)}{σ:St}{H:Hp}{s:Shared}
theorem V1{kvs:List (Key×V)}:∀{ps:List (Key×V)} {acc:List (Key×Value)} {rs:List (Key×Value)},KV ps acc->KV kvs rs->KV (kvs.foldl (λa p=>putK a p.1 p.2) ps) (rs.foldl (λa p=>stored a p.1 p.2) acc):=by
 induction kvs with
 | nil=>intro ps acc rs h g;cases g;exact h
 | cons p r ih=>
  intro ps acc rs h g;cases g with
  | @cons _ q _ r' hq hr=>
   obtain⟨e1,e2⟩:=hq;rw [Dz,Dz];refine ih ?_ hr;rw [<- e1];exact h.put p.1 e2
theorem KO{P:Program}{w:World}{h:Heap}:∀{kvs:List (Key×V)} {ts:List Addr},ts.length=kvs.length->(∀(j:Nat) t kv,ts[j]?=some t->kvs[j]?=some kv->∃ key v o m,(bI P w).is kv.1 key=true/\RelV kv.2 v/\h.get? t=some o/\o.cls = .type "tuple"/\o.data = .seq #[key,v] m) ->
  ∃ rs:List<|Key×Value,KV kvs rs/\∀(j:Nat) t,ts[j]?=some t->∃ key k v o m,rs[j]?=some (k,v)/\(bI P w).is k key=true/\h.get? t=some o/\o.cls = .type "tuple"/\o.data = .seq #[key,v] m
 | [],ts,hl,_=>by
  have:ts=[]:=Bb.mp hl;subst this;exact⟨[],.nil,λj t h=>by simp at h⟩
 | kv :: r,[],hl,_=>by simp at hl
 | kv :: r,t :: ts,hl,hp=>by
  obtain⟨key,v,o,m,q1,q2,q3,q4,q5⟩:=hp 0 t kv rfl rfl;obtain⟨rs,hk,hr⟩:=KO (kvs:=r) (ts:=ts) (by simpa using hl) λj t kv h1 h2=>hp (j+1) t kv (by simpa using h1) (by simpa using h2);refine⟨(kv.1,v) :: rs,.cons ⟨rfl,q2⟩ hk,λj t' ht=>?_⟩;cases j with
  | zero=>
   cases ht;exact⟨key,kv.1,v,o,m,rfl,q1,q3,q4,q5⟩
  | succ j=>
   obtain⟨key,k,v,o,m,e,z⟩:=hr j t' (by simpa using ht);exact⟨key,k,v,o,m,by simpa using e,z⟩
theorem V2(hc:X.calm=true):g6 X (.type "dict") (λxs H Q=>∃(a:Addr) (ts:List Addr) (kvs:List<|Key×V),xs=[.ref a]/\H a=some (.lst<|ts.map V.ref)/\ts.length=kvs.length/\ts.length < sizeLine/\(∀(j:Nat) t kv,ts[j]?=some t->kvs[j]?=some kv->H t=some (.tup [kV kv.1,kv.2])) /\
  ∀ d,H d=none->Q (.ref d) (upd H d<|.dK<|kvs.foldl (λa p=>putK a p.1 p.2) [])):=by
 intro pins s σ H xs us Q I r h;obtain⟨a,ts,kvs,rfl,hH,hl,hz,ht,q⟩:=h;obtain⟨u,rfl,ru⟩:=vals1 r;cases (show u=Value.ref a from ru);obtain⟨z,its,n,rv,e⟩:=(show ay X.prog X.w H s.heap a (.lst<|ts.map V.ref) from I.aD a _ hH);have wd:=rv.length;rw [Aa] at wd;have nU:∀(j:Nat) t,ts[j]?=some t->its[j]?=some (.ref t):=λj t hj=>by
  obtain⟨u,hu,ru⟩:=rv.get (i:=j) (x:= .ref t) (by rw [Ae,hj];rfl);cases (show u=Value.ref t from ru);exact hu
 have pair:∀(j:Nat) t kv,ts[j]?=some t->kvs[j]?=some kv->∃ key v o m,(bI X.prog X.w).is kv.1 key=true/\RelV kv.2 v/\s.heap.get? t=some o/\o.cls = .type "tuple"/\o.data = .seq #[key,v] m:=λj t kv h1 h2=>by
  obtain⟨z2,dk,fI,o,eo,co,m,dm⟩:=(show ay X.prog X.w H s.heap t (.tup [kV kv.1,kv.2]) from I.aD t _<|ht j t kv h1 h2);obtain⟨key,v,e3,r1,r2⟩:=fI.two;refine⟨key,v,o,m,lq r1,r2,eo,co,?_⟩;rw [dm,e3]
 obtain⟨rs,hk,hr⟩:=KO hl pair;have rO:=hk.length;have hP:AK (bI X.prog X.w) s.heap its rs:=by
  refine⟨by omega,λj it hj=>?_⟩;have nV:j < ts.length:=by have:=(Ac.mp hj).1;omega
  have KP:ts[j]?=some ts[j]:=Ab nV;have e2:=nU j _ KP;rw [hj] at e2;obtain⟨key,k,v,o,m,q1,q2,q3,q4,q5⟩:=hr j _ KP;exact⟨ts[j],key,k,v,o,m,Option.some.inj e2,q1,q2,q3,q4,q5⟩
 refine VZ (knd:=bI X.prog X.w) e rfl rfl rfl hP (by omega) (I.ok.hd hc) λh' tk kp D=>?_;have hlen:∀(l:List<|Key×V) (a:List<|Key×V),(l.foldl (λa p=>putK a p.1 p.2) a).length<=a.length+l.length:=by
  intro l
  induction l with
  | nil=>intro a;exact Am _
  | cons p r ih=>
   intro a;rw [Dz,Ao];have h1:=ih<|putK a p.1 p.2;have h2:=gD a p.1 p.2;omega
 have hb:=I.big;refine⟨.ref s.heap.objs.size,_,I.laid (t':=tk) kp (Am _) (show ay X.prog X.w _ h' _ (.dK<|kvs.foldl (λa p=>putK a p.1 p.2) []) from⟨?_,?_,_,V1 (kvs:=kvs) (ps:=[]) (acc:=[]) .nil hk,D⟩),rfl,q _<|I.aD.fresh<|Am _⟩
 ·have:=hlen kvs [];rw [Gu] at this;omega
 ·exact beq_eq_false_iff_ne.mpr<|Di hb
end
section
variable{X:Cx}{pins:List (Addr×Obj)}{σ:St}{H:Hp}{s:Shared}{h':Heap}
theorem Inv.bD{t':Nat}{ch:List Addr}(I:Inv X pins σ H s)(hf:∀ b∈ch,bY X pins H b)(k:∀ b o,b∉ch->s.heap.get? b=some o->h'.get? b=some o):Inv X pins σ H {s with heap:=h',toks:=t'}:=by
 have qA:∀ b u,H b=some u->b∉ch:=λb u e z=>by rw [(hf b z).1] at e;cases e
 refine I.step (g':=s.gens) (d':=s.drawn) (ch:=ch) (λb hb=>?_) (λb o _ _ hc e _=>k b o hc e) (λb o _ _ hc e _=>⟨o.slots,k b o hc e⟩) (λ_ _ _ _ n=>n)
  (λb o hc e=>⟨o,k b o hc e⟩) (λ_ _ e=>e) (λ_ _ _ e=>e) (λb ps e=>⟨#[],by rw [e];simp⟩) (λm hm=>?_) (λb u e=>?_) I.bare
 ·obtain⟨f0,f1,f2,f3,f4,f5⟩:=hf b hb;exact⟨f3,f1,f4,f5⟩
 ·obtain⟨o,es,ep,ho,r⟩:=hm;exact⟨o,es,ep,k _ o (λz=>(hf _ z).2.1 rfl) ho,r⟩
 ·refine(I.aD b u e).e9 (λc v hc q=>k c v ?_ q) (λ_ q=>q) λ_ _ q=>q
  rcases hc with z | z
  ·rw [z];exact qA b u e
  ·exact qA c _ z
def we(K:PySem.W.Frag)(a b:Addr):It:=
  ⟨λi H => ∃ xs ys x y, ao K H a xs ∧ ao K H b ys ∧ xs[i]? = some x ∧ ys[i]? = some y,
   λi H v H'=>∃ T x y,H T=none/\v = .ref T/\H'=upd H T (.tup [x,y])/\(∀ xs,ao K H a xs->xs[i]?=some x)/\∀ ys,ao K H b ys->ys[i]?=some y,
   λi H=>∃ xs ys,ao K H a xs/\ao K H b ys/\(xs.length<=i\/ys.length<=i)⟩
def KS(m a b:Addr)(i:Nat)(h:Heap):Prop:=
 IsZip h (m+4) (m+2) (m+3) .none/\IsPair h (m+2) (.ref m) (.ref<|m+1)/\(∃ x y,IsPair h (m+3) x y)/\h.IsListIter m a i/\h.IsListIter (m+1) b i
theorem KU{h:Heap}{m a b:Addr}{i:Nat}{xs ys:Array Value}(z:KS m a b i h)(ha:h.IsList a xs)(hb:h.IsList b ys):ZipApart (m+4) (m+2) (m+3) m (m+1) a b:=by
  obtain⟨z1,z2,⟨x,y,z3⟩,⟨o4,e4,c4,_⟩,⟨o5,e5,c5,_⟩⟩:=z;have cls:∀{l:Addr} {vs:Array Value} {c:Addr} {o:Obj},h.IsList l vs->h.get? c=some o->o.cls ≠ .type "list"->l≠c:=λhl hc hn e=>by
    obtain⟨ol,KW,nR,_⟩:=hl;rw [e,hc] at KW;cases KW;exact hn nR
  exact { TIz := by simp, TOz := by simp, i1z := by simp, i2z := by simp, TITO := by simp, TIi1 := by simp, TIi2 := by simp, TOi1 := by simp, TOi2 := by simp, i12 := by simp
          l1z:=cls ha z1 (by show Value.type "zip"≠Value.type "list";decide),l1TO:=cls ha z3 (by show Value.type "tuple"≠Value.type "list";decide),l1i1:=cls ha e4 (by rw [c4];decide),l1i2:=cls ha e5<|by rw [c5];decide
          l2z:=cls hb z1 (by show Value.type "zip"≠Value.type "list";decide),l2TO:=cls hb z3 (by show Value.type "tuple"≠Value.type "list";decide),l2i1:=cls hb e4 (by rw [c4];decide),l2i2:=cls hb e5 (by rw [c5];decide)}
theorem V3{P:Program}{w:World}{K:PySem.W.Frag}{elts:List Expr}{k:Nat}{tp:Pos}(m a b:Addr):Turn P w K (.Tuple elts k tp) (we K a b) [m,m+1,m+2,m+3,m+4] (m+4) (KS m a b) where
 mem:=by simp
 obj:=λi h st c hc=>by
  obtain⟨z1,z2,⟨x,y,z3⟩,⟨o4,e4,c4,d4⟩,⟨o5,e5,c5,d5⟩⟩:=st;simp only [Ah,Bm,DR] at hc
  rcases hc with rfl | rfl | rfl | rfl | rfl
  ·exact⟨_,e4,λv z=>by rw [d4] at z;cases z⟩
  ·exact⟨_,e5,λv z=>by rw [d5] at z;cases z⟩
  ·exact⟨_,z2,λv z=>by cases z⟩
  ·exact⟨_,z3,λv z=>by cases z⟩
  ·exact⟨_,z1,λv z=>by cases z⟩
 keep:=λi h h' st kp=>by
  obtain⟨z1,z2,⟨x,y,z3⟩,⟨o4,e4,r4⟩,⟨o5,e5,r5⟩⟩:=st;exact⟨kp _ (by simp) _ z1,kp _ (by simp) _ z2,⟨x,y,kp _ (by simp) _ z3⟩,⟨o4,kp _ (by simp) _ e4,r4⟩,⟨o5,kp _ (by simp) _ e5,r5⟩⟩
 item:=by
  intro X hP hw hK hc i pins s σ H E I hf st hg;subst hP hw hK;obtain⟨xs,ys,x,y,dQ,wg,hx,hy⟩:=hg;obtain⟨fA,jd,p1,lR⟩:=I.list dQ;obtain⟨dk,fI,p2,wj⟩:=I.list wg;obtain⟨u1,lQ,AT⟩:=jd.get hx;obtain⟨u2,AU,V4⟩:=fI.get hy;have D:=KU st p1.isList p2.isList;obtain⟨z1,z2,⟨x0,y0,z3⟩,z4,z5⟩:=id st;refine wpAny_pyNext_zip_item D z1 z2 z3 z4 z5 p1.isList p2.isList (x:=u1) (y:=u2) (by simpa using lQ) (by simpa using AU) λh' a1 a2 a3 a4 a5 a6 kp=>?_;have hT:H s.heap.objs.size=none:=I.aD.fresh<|Am _;have nT:∀ c∈[m,m+1,m+2,m+3,m+4],c≠s.heap.objs.size:=λc bf=>by
   have:∃ o,s.heap.get? c=some o:=by
    obtain⟨o4,e4,_⟩:=z4;obtain⟨o5,e5,_⟩:=z5;simp only [Ah,Bm,DR] at bf
    rcases bf with rfl | rfl | rfl | rfl | rfl
    ·exact⟨_,e4⟩
    ·exact⟨_,e5⟩
    ·exact⟨_,z2⟩
    ·exact⟨_,z3⟩
    ·exact⟨_,z1⟩
   obtain⟨o,e⟩:=this;exact Bx<|Ax e
  have I1:Inv X pins σ (upd H s.heap.objs.size<|.tup [x,y]) {s with heap:=s.heap.push {cls:= .type "tuple",data:= .seq #[u1,u2]}}:=
   I.laid (t':=s.toks) (λb o e=>Ai _ e) (Am _) (show ay X.prog X.w _ _ _ (.tup [x,y]) from⟨Z2,[u1,u2],.cons AT<|.cons V4 .nil,⟨_,Ba _ rfl,rfl,_,rfl⟩⟩)
  have f1:∀ c∈[m,m+1,m+2,m+3,m+4],bY X pins (upd H s.heap.objs.size<|.tup [x,y]) c:=λc bf=>⟨by rw [ax<|nT c bf];exact(hf c bf).1,(hf c bf).2⟩;have AV:∀ c o,c∉[m,m+1,m+2,m+3,m+4]->(s.heap.push {cls:= .type "tuple",data:= .seq #[u1,u2]}).get? c=some o->h'.get? c=some o:=λc o bf e=>by
   rcases Gq e with ⟨ec,eo⟩ | e'
   ·rw [ec,eo];exact a5
   ·simp only [Ah,Bm,DR,not_or] at bf;exact kp c o bf.2.2.2.2 bf.2.2.2.1 bf.1 bf.2.1 e'
  have I2:=Inv.bD (h':=h') (t':=s.toks) I1 f1 AV;refine⟨_,rfl,wpAny_letOwnedTupleGo_zip (s:={s with heap:=h'}) a1 λh2 b1 sb=>?_⟩;have V5:IsPair h' (m+2) (.ref m) (.ref<|m+1):=kp _ _ (by simp) (by simp) (by simp) (by simp) z2;have wk:∀ c o,c∉[m+4]->h'.get? c=some o->h2.get? c=some o:=λc o bf e=>(sb.2 c<|by simpa using bf).trans e;have I3:=Inv.bD (h':=h2) (t':=s.toks) I2 (ch:=[m+4]) (λc bf=>f1 c<|by simp at bf;simp [bf]) wk;refine⟨.ref s.heap.objs.size,_,I3,rfl,⟨_,x,y,hT,rfl,rfl,λzs hz=>by rw [I.cJ hz dQ];exact hx,λzs hz=>by rw [I.cJ hz wg];exact hy⟩,?_,λc bf=>(f1 c bf).1⟩;have sx:∀ c o,c≠m+4->h'.get? c=some o->h2.get? c=some o:=λc o bf e=>(sb.2 c bf).trans e;obtain⟨o3,e3,r3⟩:=a3;obtain⟨o4,e4,r4⟩:=a4;exact⟨b1,sx _ _ (by simp) V5,⟨u1,u2,sx _ _ (by simp) a2⟩,⟨o3,sx _ _ (by simp) e3,r3⟩,⟨o4,sx _ _ (by simp) e4,r4⟩⟩
 done:=by
  intro X hP hw hK hc i pins s σ H E I hf st hg;subst hP hw hK;obtain⟨xs,ys,dQ,wg,rP⟩:=hg;obtain⟨fA,jd,p1,lR⟩:=I.list dQ;obtain⟨dk,fI,p2,wj⟩:=I.list wg;have l1:=jd.length;have l2:=fI.length;have D:=KU st p1.isList p2.isList;obtain⟨z1,z2,⟨x0,y0,z3⟩,z4,z5⟩:=id st;refine wpAny_pyNext_zip_end (I.ok.hd hc) D z1 z2 z3 z4 z5 p1.isList p2.isList ?_ λh' kp=>⟨rfl,I.bD (t':=s.toks) (ch:=[m,m+1,m+2,m+3,m+4]) hf λc o bf e=>?_⟩
  ·rcases rP with h | h
   ·exact .inl<|by simp;omega
   ·exact .inr<|by simp;omega
  ·simp only [Ah,Bm,DR,not_or] at bf;exact kp c o bf.2.2.2.2 bf.2.2.2.1 bf.1 bf.2.1 e
 self:=λ_ _ _ _ _ st h=>wpAny_pyIter_zip st.1 h
end
section
variable{X:Cx}
def AW(K:PySem.W.Frag)(ta:TA):TI:=λσ H R=>ta σ H λvs H1=>∃ a b,vs=[.ref a,.ref b]/\(∃ xs,ao K H1 a xs)/\(∃ ys,ao K H1 b ys)/\R (we K a b) H1
theorem K0{elts:List Expr}{k:Nat}{tp:Pos}{a b:Expr}{ta:TA}{p pos:Pos}(hg:Gl X "zip")(hm:X.mg "zip" = none)(ha:PA X [a,b] ta)(hs:starEach [a,b] X.env=[(false,eval a X.env),(false,eval b X.env)]:=by rfl)(jY:starEach [b] X.env=[(false,eval b X.env)]:=by rfl) :
  PI X (.Tuple elts k tp) (.Call (.Name "zip" p) [a,b] [] pos) (AW X.K ta):=by
 intro pins s σ H R I h;refine Call_ (iG I hg hm boot_zip<|CV (aI (ha pos pins s σ H _ I h) λus s1 ⟨vs,H1,I1,r1,q1⟩=>?_) (by rw [hs,jY])<|by rw [jY];rfl);obtain⟨x,y,e,⟨xs,hx⟩,⟨ys,hy⟩,q⟩:=q1;subst e;obtain⟨u,v,rfl,ru,rv⟩:=r1.two;cases (show u=Value.ref x from ru);cases (show v=Value.ref y from rv);obtain⟨fA,jd,p1,lR⟩:=I1.list hx;obtain⟨dk,fI,p2,wj⟩:=I1.list hy;refine call_zip_2 p1.isList p2.isList λh' a1 a2 a3 a4 a5 a6 kp=>?_;refine wpAny_pyIter_zip (s:={s1 with heap:=h'}) a1 ?_;refine⟨s1.heap.objs.size+4,[s1.heap.objs.size,s1.heap.objs.size+1,s1.heap.objs.size+2,s1.heap.objs.size+3,s1.heap.objs.size+4],_,_,H1,rfl,I1.kept (t':=s1.toks) kp,V3 s1.heap.objs.size x y,⟨a1,a2,⟨_,_,a3⟩,a4,a5⟩,λb hb=>?_,q⟩;have hle:s1.heap.objs.size<=b:=by
  simp only [Ah,Bm,DR] at hb
  rcases hb with rfl | rfl | rfl | rfl | rfl <;> omega
 exact I1.d8 hle<|I1.aD.fresh hle
end
def pK(elt t1 i1:Expr)(f1:List Expr)(t2 i2:Expr)(f2:List Expr)(scope:Scope)(pos:Pos)(acc:Value)(env:Env):Sem Unit:=do
 let x <- eval i2 env
 standAt i2.pos
 let x <- foldedSetIterable i2 env x
 let _ <- runOwn (.compStart (.ListComp elt [⟨t1,i1,f1,0⟩,⟨t2,i2,f2,0⟩] scope pos) 1 (<- holding [x]<|pyIter x) acc env) env
section
variable{X:Cx}{elt t1 i1 t2 i2:Expr}{f1 f2:List Expr}{scope:Scope}{pos:Pos}{σ:St}{H:Hp}{acc:Value}{env:Env}
theorem V6:Clause (.ListComp elt [⟨t1,i1,f1,0⟩,⟨t2,i2,f2,0⟩] scope pos) 0 t1 i1 f1 acc env (pK elt t1 i1 f1 t2 i2 f2 scope pos acc env):=⟨rfl,λ_=>rfl,λ_ _ _=>rfl,λ_ _=>rfl,λ_ _ _=>rfl,λ_ _=>rfl,λit=>by
 unfold pK;simp only [bind_assoc,pure_bind];rfl⟩
theorem V7:Clause (.ListComp elt [⟨t1,i1,f1,0⟩,⟨t2,i2,f2,0⟩] scope pos) 1 t2 i2 f2 acc env (emit elt acc env):=⟨rfl,λ_=>rfl,λ_ _ _=>rfl,λ_ _=>rfl,λ_ _ _=>rfl,λ_ _=>rfl,λ_=>rfl⟩
theorem V8{wi:TI}{Q:St->Hp->Prop}(iJ:X.xe=λ_ _=>False)(hc:X.calm=true)(hi:PI X t2 i2 wi)(h:wi σ H λJ H1=>fH X t2 f2 (emit elt acc X.env) J Q σ H1)
  (hs:∀ x,foldedSetIterable i2 X.env x=pure x:=by intro _;rfl):jF X (pK elt t1 i1 f1 t2 i2 f2 scope pos acc X.env) σ H Q:=by
 refine⟨λpins s I=>?_⟩;unfold pK;refine BJ<|aI (hi pins s σ H _ I h) λx s1 h1=>?_;refine BJ<|FQ<|BJ<|KJ (hs x)<|BJ<|CT<|CN h1 (λmK s2 h2=>?_) λ_ _ e=>e;obtain⟨it,fp,tn,J,H2,e,I2,T,dA,AX,q⟩:=h2;subst e;refine BJ<|wpAny_runOwn (Q:=λ_ s'=>wpAny (model X.prog X.w) X.A (pure ()) (λ_ s'=>∃ σ' H',Inv X pins σ' H' s'/\Q σ' H') X.xe s') ?_;exact zt iJ hc V7 I2 T dA AX q λσ' H' s' I' q'=>BP ⟨σ',H',I',q'⟩
theorem V9{wi:TI}{Q:VK}(sc:Scope)(N N':List Str)(n:Nat)(hi:PI X t1 i1 wi)
  (h:wi σ H λJ H1=>∀ D,H1 D=none->∀ cl C s₀ H₀ ex,fH (fm X N' scope cl C s₀ H₀ ex) t1 f1 (pK elt t1 i1 f1 t2 i2 f2 scope pos (.ref D)<|compEnvC scope cl C X.env) J (λ_ H'=>Q (.ref D) H') (σ++List.replicate n none)<|upd H1 D<|.lst [])
  (hc:X.calm=true:=by rfl) (ib:X.env.scope=sc:=by rfl) (hN:X.N=N:=by rfl) (hk:ke sc scope N N'=true:=by decide +kernel) (hl:N'.length=N.length+n:=by rfl)
  (hs:∀ x,foldedSetIterable i1 X.env x=pure x:=by intro _;rfl):Ev X (.ListComp elt [⟨t1,i1,f1,0⟩,⟨t2,i2,f2,0⟩] scope pos) σ H Q:=
 v9 (e:= .ListComp elt [⟨t1,i1,f1,0⟩,⟨t2,i2,f2,0⟩] scope pos) (newAcc:=newList []) (o0:={cls:= .type "list",dict:=none,data:= .seq ([]:List Value).toArray}) (u0:=λ_=> .lst []) (λ_ _ _ h=>DN h<|by show(0:Nat)<=sizeLine;exact Bo _) (λ_ _ _=>⟨Bo _,[],0,.nil,Ba _ rfl⟩) (inner:=pK elt t1 i1 f1 t2 i2 f2 scope pos) (λ_ _=>V6) rfl rfl sc N N' n hi h hc ib hN hk hl hs
end
section
variable{X:Cx}{pins:List (Addr×Obj)}{σ:St}{H:Hp}{s:Shared}{a:Addr}{y v:V}{u r:Value}{A:Around}{E:Value->Shared->Prop}
theorem V'{H':Hp}{Q:Unit->Shared->Prop}(hu:A.units+1 < cLine)(I:Inv X pins σ H s)(g:b9 H a y v H')(ry:RelV y u)(rv:RelV v r)(h:∀ s',Inv X pins σ H' s'->Q () s') :
  wpAny (model X.prog X.w) A (dictSet a u r) Q E s:=by
 rcases g with ⟨kvs,k,e,ey,l,eH⟩ | ⟨kvs,k,b,e,ey,eb,l,eH⟩
 ·subst ey eH;obtain⟨z,hd,vs,rel,dd⟩:=rh I.aD e;have hz:vs.length<=sizeLine:=by rw [<- rel.length];exact z
  have hl:(putK kvs k v).length<=sizeLine:=by have:=gD kvs k v;omega
  refine wpAny_dictSet_pairs (hsz:=hz) (lq ry) dd λh' iH hs=>h _ ?_;have he:∃ q,h'.get? a=some q:=let ⟨q,_,_,hq,_⟩:=iH;⟨q,hq⟩
  exact lu I (by rw [e];exact True.intro) hs he<|yT hl hd (rel.put k rv) iH
 ·subst ey eH;cases (show u=Value.ref b from ry);obtain⟨z,hd,xs,rel,dd⟩:=Jd I.aD e;have hz:xs.length<=sizeLine:=by rw [<- Paired.length rel];exact z
  have hl:(putK kvs k v).length<=sizeLine:=by have:=gD kvs k v;omega
  have room:(tupleKind<|bI X.prog X.w).room A:=by first | exact hu | exact Nat.lt_of_succ_lt hu | exact Nat.lt_of_le_of_lt (Ft _) hu
  refine wpAny_dictSet_heap (hsz:=hz) room (jA I.aD eb) dd λh' iH hs=>h _ ?_;obtain⟨q,es,ep,hq,h2,h3,h4,_,h5⟩:=iH;refine lu I (by rw [e];exact True.intro) hs ⟨q,hq⟩ ⟨hl,hd,_,(rel.put k eb rv).keeps λc ys ec=>?_,q,es,ep,hq,h2,h3,h4,h5⟩;rw [ax<|cr ec e λz=>nomatch z];exact ec
end
def je(k v:Expr)(acc:Value)(env:Env):Sem Unit:=do
 let kv <- eval k env
 let vv <- holding [kv]<|eval v env
 match acc with
 | .ref d=>do
  standAt {k.pos with endLine:=v.pos.endLine,endCol:=v.pos.endCol}
  holding [kv,vv] (dictSet d kv vv)
 | _=>unsupported "internal:dictcomp"
def pL(k v t1 i1:Expr)(f1:List Expr)(t2 i2:Expr)(f2:List Expr)(scope:Scope)(pos:Pos)(acc:Value)(env:Env):Sem Unit:=do
 let x <- eval i2 env
 standAt i2.pos
 let x <- foldedSetIterable i2 env x
 let _ <- runOwn (.compStart (.DictComp k v [⟨t1,i1,f1,0⟩,⟨t2,i2,f2,0⟩] scope pos) 1 (<- holding [x]<|pyIter x) acc env) env
section
variable{X:Cx}{k v t1 i1 t2 i2:Expr}{f1 f2:List Expr}{scope:Scope}{pos:Pos}{σ:St}{H:Hp}{acc:Value}{env:Env}
theorem K1:Clause (.DictComp k v [⟨t1,i1,f1,0⟩] scope pos) 0 t1 i1 f1 acc env (je k v acc env):=⟨rfl,λ_=>rfl,λ_ _ _=>rfl,λ_ _=>rfl,λ_ _ _=>rfl,λ_ _=>rfl,λit=>by
 unfold je;cases acc <;> first | rfl | (simp only [bind_assoc,pure_bind];rfl)⟩
theorem Wa:Clause (.DictComp k v [⟨t1,i1,f1,0⟩,⟨t2,i2,f2,0⟩] scope pos) 0 t1 i1 f1 acc env (pL k v t1 i1 f1 t2 i2 f2 scope pos acc env):=⟨rfl,λ_=>rfl,λ_ _ _=>rfl,λ_ _=>rfl,λ_ _ _=>rfl,λ_ _=>rfl,λit=>by
 unfold pL;simp only [bind_assoc,pure_bind];rfl⟩
theorem Wb:Clause (.DictComp k v [⟨t1,i1,f1,0⟩,⟨t2,i2,f2,0⟩] scope pos) 1 t2 i2 f2 acc env (je k v acc env):=⟨rfl,λ_=>rfl,λ_ _ _=>rfl,λ_ _=>rfl,λ_ _ _=>rfl,λ_ _=>rfl,λit=>by
 unfold je;cases acc <;> first | rfl | (simp only [bind_assoc,pure_bind];rfl)⟩
theorem AY{D:Addr}{Q:St->Hp->Prop}(hu:X.A.units+1 < cLine)(h:Ev X k σ H λy H1=>Ev X v σ H1 λx H2=>∃ H3,b9 H2 D y x H3/\Q σ H3):jF X (je k v (.ref D) X.env) σ H Q:=by
 refine⟨λpins s I=>?_⟩;unfold je;refine BJ<|aI (h.run pins s I) λkv s1 ⟨y,H1,I1,r1,h1⟩=>?_;refine BJ<|CT<|aI (h1.run pins s1 I1) λvv s2 ⟨x,H2,I2,r2,H3,dp,q⟩=>?_;show wpAny _ _ (standAt _ >>= λ_=>holding [kv,vv]<|dictSet D kv vv) _ _ _;exact BJ<|FQ<|CT<|V' hu I2 dp r1 r2 λs' I'=>⟨σ,H3,I',q⟩
theorem Wc{wi:TI}{Q:St->Hp->Prop}(iJ:X.xe=λ_ _=>False)(hc:X.calm=true)(hi:PI X t2 i2 wi)(h:wi σ H λJ H1=>fH X t2 f2 (je k v acc X.env) J Q σ H1)
  (hs:∀ x,foldedSetIterable i2 X.env x=pure x:=by intro _;rfl):jF X (pL k v t1 i1 f1 t2 i2 f2 scope pos acc X.env) σ H Q:=by
 refine⟨λpins s I=>?_⟩;unfold pL;refine BJ<|aI (hi pins s σ H _ I h) λx s1 h1=>?_;refine BJ<|FQ<|BJ<|KJ (hs x)<|BJ<|CT<|CN h1 (λmK s2 h2=>?_) λ_ _ e=>e;obtain⟨it,fp,tn,J,H2,e,I2,T,dA,AX,q⟩:=h2;subst e;refine BJ<|wpAny_runOwn (Q:=λ_ s'=>wpAny (model X.prog X.w) X.A (pure ()) (λ_ s'=>∃ σ' H',Inv X pins σ' H' s'/\Q σ' H') X.xe s') ?_;exact zt iJ hc Wb I2 T dA AX q λσ' H' s' I' q'=>BP ⟨σ',H',I',q'⟩
theorem Wd{wi:TI}{Q:VK}(sc:Scope)(N N':List Str)(n:Nat)(hi:PI X t1 i1 wi)
  (h:wi σ H λJ H1=>∀ D,H1 D=none->∀ cl C s₀ H₀ ex,fH (fm X N' scope cl C s₀ H₀ ex) t1 f1 (je k v (.ref D)<|compEnvC scope cl C X.env) J (λ_ H'=>Q (.ref D) H') (σ++List.replicate n none)<|upd H1 D<|.dT [])
  (hc:X.calm=true:=by rfl) (ib:X.env.scope=sc:=by rfl) (hN:X.N=N:=by rfl) (hk:ke sc scope N N'=true:=by decide +kernel) (hl:N'.length=N.length+n:=by rfl)
  (hs:∀ x,foldedSetIterable i1 X.env x=pure x:=by intro _;rfl):Ev X (.DictComp k v [⟨t1,i1,f1,0⟩] scope pos) σ H Q:=
 v9 (e:= .DictComp k v [⟨t1,i1,f1,0⟩] scope pos) (newAcc:=newDict) (o0:={cls:= .type "dict",data:= .dict #[]}) (u0:=λ_=> .dT []) (λ_ _ _ h=>DN h) (λ_ h hb=>yV h hb) (inner:=je k v) (λ_ _=>K1) rfl rfl sc N N' n hi h hc ib hN hk hl hs
theorem Wg{wi:TI}{Q:VK}(sc:Scope)(N N':List Str)(n:Nat)(hi:PI X t1 i1 wi)
  (h:wi σ H λJ H1=>∀ D,H1 D=none->∀ cl C s₀ H₀ ex,fH (fm X N' scope cl C s₀ H₀ ex) t1 f1 (je k v (.ref D)<|compEnvC scope cl C X.env) J (λ_ H'=>Q (.ref D) H') (σ++List.replicate n none)<|upd H1 D<|.dK [])
  (hc:X.calm=true:=by rfl) (ib:X.env.scope=sc:=by rfl) (hN:X.N=N:=by rfl) (hk:ke sc scope N N'=true:=by decide +kernel) (hl:N'.length=N.length+n:=by rfl)
  (hs:∀ x,foldedSetIterable i1 X.env x=pure x:=by intro _;rfl):Ev X (.DictComp k v [⟨t1,i1,f1,0⟩] scope pos) σ H Q:=
 v9 (e:= .DictComp k v [⟨t1,i1,f1,0⟩] scope pos) (newAcc:=newDict) (o0:={cls:= .type "dict",data:= .dict #[]}) (u0:=λ_=> .dK []) (λ_ _ _ h=>DN h) (λ_ h hb=>Je h hb) (inner:=je k v) (λ_ _=>K1) rfl rfl sc N N' n hi h hc ib hN hk hl hs
theorem Wh{wi:TI}{Q:VK}(sc:Scope)(N N':List Str)(n:Nat)(hi:PI X t1 i1 wi)
  (h:wi σ H λJ H1=>∀ D,H1 D=none->∀ cl C s₀ H₀ ex,fH (fm X N' scope cl C s₀ H₀ ex) t1 f1 (pL k v t1 i1 f1 t2 i2 f2 scope pos (.ref D)<|compEnvC scope cl C X.env) J (λ_ H'=>Q (.ref D) H') (σ++List.replicate n none)<|upd H1 D<|.dT [])
  (hc:X.calm=true:=by rfl) (ib:X.env.scope=sc:=by rfl) (hN:X.N=N:=by rfl) (hk:ke sc scope N N'=true:=by decide +kernel) (hl:N'.length=N.length+n:=by rfl)
  (hs:∀ x,foldedSetIterable i1 X.env x=pure x:=by intro _;rfl):Ev X (.DictComp k v [⟨t1,i1,f1,0⟩,⟨t2,i2,f2,0⟩] scope pos) σ H Q:=
 v9 (e:= .DictComp k v [⟨t1,i1,f1,0⟩,⟨t2,i2,f2,0⟩] scope pos) (newAcc:=newDict) (o0:={cls:= .type "dict",data:= .dict #[]}) (u0:=λ_=> .dT []) (λ_ _ _ h=>DN h) (λ_ h hb=>yV h hb) (inner:=pL k v t1 i1 f1 t2 i2 f2 scope pos) (λ_ _=>Wa) rfl rfl sc N N' n hi h hc ib hN hk hl hs
end
open ce
section
variable{X:Cx}{elt t1 i1 t2 i2:Expr}{f1 f2:List Expr}{scope:Scope}{pos:Pos}{σ:St}{H:Hp}{acc:Value}{env:Env}
end
end L2
namespace Wi
open PySem PySem.Builtin PySem.Builtin.Str PySem.StrLaws
end Wi
namespace L2
open PySem PySem.Builtin PySem.Builtin.Str
section
variable{X:Cx}{σ:St}{H:Hp}{Q:VK}
end
end L2
namespace PySem
def Plain(h:Heap)(d:Addr)(es:Array DictEntry)(ep:Nat):Prop:=∃ o,h.get? d=some o/\o.ExactDict/\o.data = .dict es ep
section
variable{P:Program}{w:World}{A:Around}{E:Value->Shared->Prop}{s:Shared}
theorem Wj(d:Addr)(hd:(d == sysModules)=false):MeetsIn P w (Builtin.«dict.items» ⟨[.ref d],[]⟩) (λ_ R u=>u.TypeIs (.ref d) "dict" /\
  R (.ok<|.ret<|.ref u.heap.objs.size) {u with heap:=u.heap.push {cls:= .type "dict_items",data:= .fields #[.ref d]}}):=by
 refine .of_wp λB R u ⟨hT,k⟩=>?_;unfold Builtin.«dict.items» Builtin.Dict.noArgs;refine BJ<|BJ<|wpAny_notOrdered_dict hT ?_;show wpAny _ _ (pure d) _ _ u;refine BP ?_;show wpAny _ _ (Builtin.Dict.showsAll d >>= _) _ _ u;unfold Builtin.Dict.showsAll;rw [BK<|by rw [hd];exact As];exact BJ<|BP<|BJ<|DN<|BP ⟨_,rfl,k⟩
theorem Wk{v d:Addr}{es:Array DictEntry}{ep:Nat}{Q:Value->Shared->Prop}(hv:s.heap.IsItemsView v d)(hm:Plain s.heap d es ep)
  (k:Q (.ref s.heap.objs.size) {s with heap:=s.heap.push {cls:= .type "dict_itemiterator",data:= .fields #[.none,.bool false,.ref d,.int 0 0,.int es.size 0,.int ep 0,.none,.none]}}) :
  wpAny (model P w) A (pyIter<|.ref v) Q E s:=by
 obtain⟨vo,e1,e2,e3⟩:=id hv;obtain⟨o,f1,f2,f3⟩:=hm;refine wpAny_pyIter_slot hv.typeIs F.slot_dict_items_iter<|FN F.slot_dict_items_iter hv.typeIs F.entry_dict_items_iter ?_<|F.args_dict_items_iter_1 _;unfold Builtin.«dict_items.__iter__» Builtin.Dict_items.dictOf Builtin.Dict_items.newIterator;refine BJ<|BP<|BJ<|BJ<|QW e1 e3 (x:= .ref d) rfl (BP ?_);refine BJ<|BJ<|LR f1 f3<|BJ<|QK f1 f3 ?_;have ow:Builtin.Dict_items.ownsTuple "dict_itemiterator" = true:=by decide
 simp only [ow,CQ];refine DN (BP ⟨_,rfl,"dict_itemiterator",_,⟨_,Ba _ rfl,rfl⟩,F.slot_dict_itemiterator_next.lookup,?_⟩) ?_
 ·simpa [rawInt,Builtin.Dict_items.ownedTupleFields] using k
 ·simp only [sizeOk,Builtin.Dict_items.ownedTupleFields,Au,Ag,Ao,Gu,CW];omega
theorem Wl{it d:Addr}{i ep:Nat}{es:Array DictEntry}{en:DictEntry}{y z:Value}{Q:Option Value->Shared->Prop}(hit:IsItemIter s.heap it d i es.size ep y z)(hm:Plain s.heap d es ep)(hx:es[i]?=some en)
  (k : ∀ h', IsItemIterOut h' it d (i + 1) es.size ep en.key en.val s.heap.objs.size → h'.get? s.heap.objs.size = some { cls := .type "tuple", data := .seq #[en.key, en.val] } →
   (∀ b o,b≠it->s.heap.get? b=some o->h'.get? b=some o)->Q (some<|.ref s.heap.objs.size) {s with heap:=h'}):wpAny (model P w) A (pyNext<|.ref it) Q E s:=by
 obtain⟨hp,g,dr,tk,os⟩:=s;obtain⟨o,f1,f2,f3⟩:=hm;have ty:Shared.TypeIs ⟨hp,g,dr,tk,os⟩ (.ref it) "dict_itemiterator":=⟨_,hit,rfl⟩;have lt:i < es.size:=by
  rcases Dc i es.size with h | h
  ·exact h
  ·rw [Dp h] at hx;cases hx
 have ow:Builtin.Dict_items.ownsTuple "dict_itemiterator" = true:=by decide
 unfold pyNext;refine BJ<|wpAny_attempt<|wpAny_callSpecial?_slot (name:=Str.ofString "__next__") ty FJ<|FN FJ ty JV ?_<|JK _;refine BJ<|BP<|BJ<|BJ ?_
 first | refine BJ (EY ty<|BP ?_) | refine BJ<|FZ ty<|BP ?_
 refine BJ<|wpAny_fieldsOf hit rfl ?_;simp only [ow,CQ];show wpAny _ _ (if(Value.ref d == Value.none)=true then _ else _) _ _ _;rw [BK (show ¬((Value.ref d == Value.none)=true) from As)];refine BJ<|BP<|BJ<|LR f1 f3 ?_;rw [BK<|by simp];refine BJ<|BP<|BJ<|QK f1 f3 ?_;rw [BK<|by simp];refine BP ?_;have ee:es[i]=en:=Option.some.inj<|(Cj lt).symm.trans hx;simp only [show ¬((i:Int) < 0) from by omega,CJ,Ca,hx];refine BJ ?_
 first | refine BJ (EY ty<|BP ?_) | refine BJ<|FZ ty<|BP ?_
 refine BJ<|JB ty ?_;show wpAny _ _ (setField (.ref it) 3 (rawInt<|(i:Int)+1) >>= _) _ _ ⟨hp,g,dr,tk,os⟩;refine BJ (GX hit (by simp) λha ea sa=>?_);replace sa:Heap.SameBut it hp ha:=sa;replace ea:IsItemIter ha it d (i+1) es.size ep y z:=by
  have e:((i+1:Nat):Int)=(i:Int)+1:=by omega
  unfold IsItemIter;rw [e]
  simpa [rawInt] using ea
 have K2:Shared.TypeIs ⟨ha,g,dr,tk,os⟩ (.ref it) "dict_itemiterator":=⟨_,ea,rfl⟩;refine BJ<|CT<|BJ<|JB K2<|BJ<|JB K2 ?_;show wpAny _ _ (Builtin.Dict_items.pairFromOwner (.ref it) 6 en.key en.val) _ _ ⟨ha,g,dr,tk,os⟩;unfold Builtin.Dict_items.pairFromOwner Builtin.Dict_items.ownedTupleIsFree;refine BJ<|wpAny_newTuple ?_;have eb:IsItemIter (ha.push {cls:= .type "tuple",data:= .seq #[en.key,en.val]}) it d (i+1) es.size ep y z:=Ai _ ea;have za:ha.objs.size=hp.objs.size:=sa.1;have il:it < hp.objs.size:=Ax hit;have tb:(ha.push {cls:= .type "tuple",data:= .seq #[en.key,en.val]}).get? hp.objs.size=some {cls:= .type "tuple",data:= .seq #[en.key,en.val]}:=by rw [<- za];exact Ba _ rfl
 have kb:∀ b u,b≠it->hp.get? b=some u->(ha.push {cls:= .type "tuple",data:= .seq #[en.key,en.val]}).get? b=some u:=λb u hb e=>Ai _<|sa.extBut b u hb e;rw [za];generalize ha.push {cls:= .type "tuple",data:= .seq #[en.key,en.val]}=hb at eb tb kb;refine BJ<|BJ<|QW (s:=⟨hb,g,dr,tk,os⟩) eb rfl (x:= .none) rfl (BP ?_);simp only [CQ];refine BJ<|QW (s:=⟨hb,g,dr,tk,os⟩) eb rfl (x:=y) rfl (BJ<|QW (s:=⟨hb,g,dr,tk,os⟩) eb rfl (x:=z) rfl ?_);refine BJ (GX eb (by simp) λh3 e3 s3=>?_);replace s3:Heap.SameBut it hb h3:=s3;replace e3:IsItemIter h3 it d (i+1) es.size ep en.key z:=e3;refine BJ (GX e3 (by simp) λh4 e4 s4=>?_);replace s4:Heap.SameBut it h3 h4:=s4;replace e4:IsItemIter h4 it d (i+1) es.size ep en.key en.val:=e4;refine BJ (GX e4 (by simp) λh5 e5 s5=>?_);replace s5:Heap.SameBut it h4 h5:=s5;replace e5:IsItemIterOut h5 it d (i+1) es.size ep en.key en.val hp.objs.size:=e5;refine BJ (GX e5 (by simp) λh6 e6 s6=>?_);replace s6:Heap.SameBut it h5 h6:=s6;replace e6:IsItemIterOut h6 it d (i+1) es.size ep en.key en.val hp.objs.size:=e6;have all:=((s3.trans s4).trans s5).trans s6;exact BJ<|wpAny_letGo<|BP<|BP ⟨_,rfl,BP<|k h6 e6 (all.extBut _ _ (Di il) tb) λb u nW e=>all.extBut b u nW<|kb b u nW e⟩
theorem Wm{it d:Addr}{i ep:Nat}{es:Array DictEntry}{y z:Value}{Q:Option Value->Shared->Prop}(hh:A.handled=none)(hit:IsItemIter s.heap it d i es.size ep y z)(hm:Plain s.heap d es ep)(hx:es.size<=i)
  (k:∀ h',Heap.ExtBut it s.heap h'->Q none {s with heap:=h'}):wpAny (model P w) A (pyNext<|.ref it) Q E s:=by
 obtain⟨o,f1,f2,f3⟩:=hm;have ty:s.TypeIs (.ref it) "dict_itemiterator":=⟨_,hit,rfl⟩;have ow:Builtin.Dict_items.ownsTuple "dict_itemiterator" = true:=by decide
 unfold pyNext;refine BJ<|wpAny_attempt<|wpAny_callSpecial?_slot (name:=Str.ofString "__next__") ty FJ<|FN FJ ty JV ?_<|JK _;refine BJ<|BP<|BJ<|BJ ?_
 first | refine BJ (EY ty<|BP ?_) | refine BJ<|FZ ty<|BP ?_
 refine BJ<|wpAny_fieldsOf hit rfl ?_;simp only [ow,CQ];show wpAny _ _ (if(Value.ref d == Value.none)=true then _ else _) _ _ s;rw [BK (show ¬((Value.ref d == Value.none)=true) from As)];refine BJ<|BP<|BJ<|LR f1 f3 ?_;rw [BK<|by simp];refine BJ<|BP<|BJ<|QK f1 f3 ?_;rw [BK<|by simp];refine BP ?_;simp only [show ¬((i:Int) < 0) from by omega,CJ,Ca,Dp hx];refine BJ ?_
 first | refine BJ (EY ty<|BP ?_) | refine BJ<|FZ ty<|BP ?_
 show wpAny _ _ (setField (.ref it) 2 .none >>= _) _ _ s;refine BJ (wpAny_setField hit rfl (by simp) ?_);show wpAny _ _ (newExc (.type "StopIteration") [] >>= _) _ _ _;refine BJ ?_;simp only [newExc,newTuple];refine BJ (DN ?_<|by size_fits);refine BJ (m:=firstArgMember _ _) (KJ (a:=Value.none) (by first | rfl | (simp only [firstArgMember];rfl)) ?_);refine DN ?_ (by size_fits);simp only [raiseNew];refine BJ<|wpAny_handled ?_;rw [show A.in1.handled=none from hh];refine BJ<|BP<|wpAny_throw ?_;exact BJ<|wpAny_isInstance (T:= "StopIteration") (b:=true) ⟨_,Ba _ rfl,rfl⟩ isSubtype_stop<|BP<|k _<|((JZ ..).extBut.push _).push _
theorem Wn:entryFor table "dict_itemiterator.__iter__" = some Builtin.«dict_keyiterator.__iter__»:=
 entryFor_alias (id':= "dict_keyiterator.__iter__") (by kernel_rfl) rfl (by decide +kernel) (by kernel_rfl)
theorem Wo{it d:Addr}{i n ep:Nat}{y z:Value}{Q:Value->Shared->Prop}(e:IsItemIter s.heap it d i n ep y z)(h:Q (.ref it) s):wpAny (model P w) A (pyIter<|.ref it) Q E s:=by
 have ty:s.TypeIs (.ref it) "dict_itemiterator":=⟨_,e,rfl⟩;refine wpAny_pyIter_slot ty JX<|FN JX ty Wn ?_<|F.args_dict_itemiterator_iter_1 _;show wpAny _ _ (ret<|.ref it) _ _ s;exact BP ⟨_,rfl,"dict_itemiterator",_,ty,F.slot_dict_itemiterator_next.lookup,h⟩
end
end PySem
namespace L2
open PySem PySem.Spec PyProof.Rows
section
variable{X:Cx}{pins:List (Addr×Obj)}{σ:St}{H:Hp}{s:Shared}
theorem Wp{d:Addr}{kvs:List (List Key×V)}(I:Inv X pins σ H s)(e:H d=some (.dT kvs)):∃ o,s.heap.get? d=some o/\Inv X pins σ (upd H d<|.bK o<|.dT kvs) s:=by
 obtain⟨z,hd,xs,r,o,es,ep,ho,h2,h3,h4,h5⟩:=(show ay X.prog X.w H s.heap d (.dT kvs) from I.aD d _ e);refine⟨o,ho,?_⟩;have r':KT (upd H d<|.bK o<|.dT kvs) kvs xs:=KT.keeps r λb ys q=>by
  rw [ax<|cr q e λz=>nomatch z];exact q
 exact lu (t':=s.toks) I (by rw [e];exact True.intro) ⟨rfl,λ_ _=>rfl⟩ ⟨o,ho⟩ (show ay X.prog X.w _ s.heap d (.bK o<|.dT kvs) from⟨ho,z,hd,xs,r',o,es,ep,ho,h2,h3,h4,h5⟩)
def Itm(d:Addr)(o:Obj)(kvs:List<|List Key×V):It:=
  ⟨λi H => H d = some (.bK o<|.dT kvs) ∧ i < kvs.length,
   λi H v H'=>∃ T b k x,kvs[i]?=some (k,x)/\H b=some (.tup<|k.map kV)/\H T=none/\v = .ref T/\H'=upd H T (.tup [.ref b,x]),
   λi H=>H d=some (.bK o<|.dT kvs)/\kvs.length<=i⟩
theorem K3{P:Program}{w:World}{h:Heap}{d:Addr}{o:Obj}{es:Array DictEntry}{ep:Nat}{kvs:List (List Key×V)}(aD:cu P w H h)(e:H d=some (.bK o<|.dT kvs))(hd:o.data = .dict es ep) :
  Plain h d es ep/\∃ xs,KT H kvs xs/\es.toList=xs.map (entryOfKey<|tupleKind<|bI P w):=by
 obtain⟨ho,z,_,xs,r,o',iE,qz,dH,h2,h3,h4,h5⟩:=(show ay P w H h d (.bK o<|.dT kvs) from aD d _ e);have:o=o':=Option.some.inj<|ho.symm.trans dH;subst this;rw [hd] at h3
 injection h3 with e1 e2
 subst e1;subst e2;exact⟨⟨o,ho,h2,hd⟩,xs,r,h4⟩
theorem kt_len{H:Hp}:∀{kvs:List (List Key×V)} {xs:List (List Key×Addr×Value)},KT H kvs xs->kvs.length=xs.length:=λr=>by
 induction r with
 | nil=>rfl
 | cons _ _ ih=>simp only [Ao,ih]
theorem kt_at{H:Hp}:∀{kvs:List (List Key×V)} {xs:List (List Key×Addr×Value)},KT H kvs xs->∀{i:Nat} {k:List Key} {x:V},kvs[i]?=some (k,x)->∃ b u,xs[i]?=some (k,b,u)/\H b=some (.tup<|k.map kV)/\RelV x u:=λr=>by
 induction r with
 | nil=>intro i k x h;simp at h
 | @cons p q ps qs hq t ih=>
  intro i k x h;cases i with
  | zero=>
   simp only [PX,Option.some.injEq] at h;subst h;obtain⟨a,b,c⟩:=q;obtain⟨q1,q2,q3⟩:=hq;have q1:k=a:=q1;subst q1;exact⟨b,c,rfl,q2,q3⟩
  | succ i=>exact ih<|by simpa using h
theorem Wq{P:Program}{w:World}{K:PySem.W.Frag}{elts:List Expr}{kk:Nat}{tp:Pos}(d it:Addr)(o:Obj)(es:Array DictEntry)(ep:Nat)(kvs:List<|List Key×V)(nS:o.data = .dict es ep) :
  Turn P w K (.Tuple elts kk tp) (Itm d o kvs) [it] it (λi h=>∃ y z,IsItemIter h it d i es.size ep y z) where
 mem:=by simp
 obj:=λi h st b hb=>by
  have e:b=it:=by simpa using hb
  subst e;obtain⟨y,z,e⟩:=st;exact⟨_,e,λv z=>by cases z⟩
 keep:=λi h h' st k=>let ⟨y,z,e⟩:=st;⟨y,z,k it (by simp) _ e⟩
 item:=by
  intro X hP hw hK hc i pins s σ H E I hf st hg;subst hP hw hK;obtain⟨f0,f1,f2,f3,f4,f5⟩:=hf it (by simp);obtain⟨hd,hi⟩:=hg;obtain⟨pd,xs,r,AZ⟩:=K3 I.aD hd nS;obtain⟨y,z,st⟩:=st;have hx:kvs[i]?=some (kvs[i].1,kvs[i].2):=Ab hi;obtain⟨b,u,dQ,hb,ru⟩:=kt_at r hx;have rQ:=entry_at AZ i;rw [dQ] at rQ;refine Wl st pd (en:=entryOfKey (tupleKind<|bI X.prog X.w) (kvs[i].1,b,u)) rQ λh' q1 q2 kp=>?_;have hT:H s.heap.objs.size=none:=I.aD.fresh<|Am _;have nT:it≠s.heap.objs.size:=Bx<|Ax st;have I1:Inv X pins σ (upd H s.heap.objs.size<|.tup [.ref b,kvs[i].2]) {s with heap:=s.heap.push {cls:= .type "tuple",data:= .seq #[Value.ref b,u]}}:=
   I.laid (t':=s.toks) (λb o e=>Ai _ e) (Am _) (show ay X.prog X.w _ _ _ (.tup [.ref b,kvs[i].2]) from⟨Z2,[Value.ref b,u],.cons rfl (.cons ru .nil),⟨_,Ba _ rfl,rfl,_,rfl⟩⟩)
  have fp:∀ c∈[it],bY X pins (upd H s.heap.objs.size<|.tup [.ref b,kvs[i].2]) c:=λc bf=>by
   have e:c=it:=by simpa using bf
   subst e;exact⟨by rw [ax nT];exact f0,f1,f2,f3,f4,f5⟩
  have I2:=Inv.bD (h':=h') (t':=s.toks) I1 fp λc v bf e=>by
   have nc:c≠it:=by simpa using bf
   rcases Gq e with ⟨ec,eo⟩ | e'
   ·rw [ec,eo];exact q2
   ·exact kp c v nc e'
  refine⟨_,rfl,wpAny_letOwnedTupleGo_items (s:={s with heap:=h'}) q1 λh2 b1 sb=>?_⟩;have I3:=Inv.bD (h':=h2) (t':=s.toks) I2 fp λc v bf e=>(sb.2 c<|by simpa using bf).trans e;exact⟨.ref s.heap.objs.size,_,I3,rfl,⟨_,b,kvs[i].1,kvs[i].2,hx,hb,hT,rfl,rfl⟩,⟨_,_,b1⟩,λc bf=>(fp c bf).1⟩
 done:=by
  intro X hP hw hK hc i pins s σ H E I hf st hg;subst hP hw hK;obtain⟨hd,hi⟩:=hg;obtain⟨pd,xs,r,AZ⟩:=K3 I.aD hd nS;obtain⟨y,z,st⟩:=st;have hl:es.size=kvs.length:=by rw [kt_len r,<- Ce,AZ,Aa]
  exact Wm (I.ok.hd hc) st pd (by omega) λh' eb=>⟨rfl,I.bD (t':=s.toks) hf λc v bf e=>eb c v (by simpa using bf) e⟩
 self:=λ_ _ _ _ _ st h=>let ⟨y,z,e⟩:=st;Wo e h
end
section
variable{X:Cx}
def Wr(to:TE):TI:=λσ H R=>to σ H λx H1=>∃ d kvs,x = .ref d/\H1 d=some (.dT kvs)/\∀ o,R (Itm d o kvs)<|upd H1 d<|.bK o<|.dT kvs
theorem Ws{elts:List Expr}{kk:Nat}{tp ap cp:Pos}{l:Expr}{to:TE}(ho:PE X l to)(b8:attributeBase l "items" X.env (eval l X.env)=eval l X.env:=by rfl)(hline:(ap.endLine == cp.line)=true:=by rfl) :
  PI X (.Tuple elts kk tp) (.Call (.Attribute l "items" ap) [] [] cp) (Wr to):=by
 intro pins s σ H R I h;refine wpAny_Call_method0_late b8 hline<|aI (ho pins s σ H _ I h) λv s1 ⟨x,H1,I1,r1,q1⟩=>?_;obtain⟨d,kvs,e,hd,q⟩:=q1;subst e;cases (show v=Value.ref d from r1);obtain⟨_,Wt,_,_,o,es,ep,e1,e2,e3,_⟩:=(show ay X.prog X.w H1 s1.heap d (.dT kvs) from I1.aD d _ hd);have ty:s1.TypeIs (.ref d) "dict":=⟨o,e1,e2.1⟩;refine⟨"dict","dict.items",F.plainAttrs_dict,F.slot_dict_items,F.type_dict_items,ty,λa ea=>?_,IW rfl (PySem.evalArgs_none ?_)⟩
 ·cases ea;exact⟨o,e1,e2.2.1⟩
 refine call_meetsIn F.slot_dict_items ty F.entry_dict_items (F.args_dict_items_1 _) (Wj d Wt) ⟨ty,?_⟩;obtain⟨o',eo,I2⟩:=Wp I1 hd;have:o=o':=Option.some.inj<|e1.symm.trans eo;subst this;have I3:=I2.kept (t':=s1.toks) (h':=s1.heap.push {cls:= .type "dict_items",data:= .fields #[.ref d]}) λb u e=>Ai _ e;refine Wk (s:={s1 with heap:=s1.heap.push {cls:= .type "dict_items",data:= .fields #[.ref d]}}) (d:=d) (es:=es) (ep:=ep) ⟨_,Ba _ rfl,rfl,rfl⟩ ⟨o,Ai _ e1,e2,e3⟩ ?_;refine⟨_,[(s1.heap.push {cls:= .type "dict_items",data:= .fields #[.ref d]}).objs.size],_,_,_,rfl,I3.kept (t':=s1.toks) λb u e=>Ai _ e,Wq d _ o es ep kvs e3,⟨_,_,Ba _ rfl⟩,λb hb=>?_,q o⟩;have e:b=(s1.heap.push {cls:= .type "dict_items",data:= .fields #[.ref d]}).objs.size:=by simpa using hb
 subst e;exact I3.d8 (Am _)<|I3.aD.fresh<|Am _
end
section
variable{X:Cx}{tg:Expr}{ifs:List Expr}{inner:Sem Unit}{σ:St}{H:Hp}{d:Addr}{o:Obj}{kvs:List (List Key×V)}{after:St->Hp->Prop}
theorem Wu(Pv:Nat->St->Hp->Prop)(h0:Pv 0 σ H)(hl:∀ i σ' H',i<=kvs.length->Pv i σ' H'->H' d=some (.bK o<|.dT kvs))
  (hs:∀ i k x b T σ' H',kvs[i]?=some (k,x)->Pv i σ' H'->H' b=some (.tup<|k.map kV)->H' T=none->Eg X tg (.ref T) σ' (upd H' T<|.tup [.ref b,x]) λσ2 H3=>Ei X ifs σ2 H3 λc H4=>if c=true then jF X inner σ2 H4 (Pv<|i+1) else Pv (i+1) σ2 H4)
  (hd:∀ σ' H',Pv kvs.length σ' H'->after σ' H'):fH X tg ifs inner (Itm d o kvs) after σ H:=by
 refine⟨λi m σ' H'=>m=kvs.length - i/\i<=kvs.length/\Pv i σ' H',⟨_,rfl,Bo _,h0⟩,?_⟩;rintro i m σ' H' ⟨rfl,hi,p⟩;have q:=hl i σ' H' hi p
 by_cases aM:i < kvs.length
 ·refine .inr ⟨⟨q,aM⟩,Pv<|i+1,λσ' H' p'=>⟨kvs.length - (i+1),by omega,rfl,aM,p'⟩,λv H2 y=>?_⟩;obtain⟨T,b,k,x,hx,hb,hT,rfl,rfl⟩:=y;exact hs i k x b T σ' _ hx p hb hT
 ·have e:i=kvs.length:=by omega
  subst e;exact .inl ⟨⟨q,Am _⟩,hd σ' H' p⟩
end
open ce
section
variable{X:Cx}{σ:St}{H:Hp}{Q:VK}
end
section
variable{prog:Program}{w:World}{A:Around}{E:Value->Shared->Prop}{s:Shared}
theorem Wv{Q:Value->Shared->Prop}(k:Q (.ref s.heap.objs.size) {s with heap:=s.heap.push (rC w)}):codeAny (model prog w) A (.call (.builtin "set.__new__") ⟨[.type "set"],[]⟩) (wants Q E) s:=by
 refine QF ?_;show wpAny _ A.in1 (checkBuiltinCall "set.__new__" ⟨[.type "set"],[]⟩ >>= λ_=>again<|.builtin "set.__new__" ⟨[.type "set"],[]⟩) _ _ s;refine BJ<|KJ PySem.F.newCall_set_0<|BP ⟨JF QZ _,JR PySem.F.entry_set_new ?_⟩;rw [JT QZ _];unfold Builtin.«set.__new__» Builtin.Frozenset.newClass
 dsimp only
 refine BJ<|BJ<|KJ (show isType (.type "set")=pure true from rfl)<|BP ?_;simp only [Fc,Bg,CJ];unfold newSet;refine BJ<|BJ<|wp_text ?_
 dsimp only
 simp only [newObj];exact BJ<|wpAny_alloc<|BP<|BP k
theorem Ww{Q:Value->Shared->Prop}(k:Q (.ref s.heap.objs.size) {s with heap:=s.heap.push (rC w)}):wpAny (model prog w) A (call (.type "set") []) Q E s:=by
 obtain⟨c,tl,Wx⟩:=PySem.F.called_set.mro;have K4:=PySem.F.called_set.made;have Wy:=PySem.F.called_set.sub;refine wpAny_call<|QF ?_;show wpAny _ _ (callAny (.type "set") _) _ _ _;refine BP ⟨Code.quiet_builtin _ (by decide +kernel),JR PySem.F.entry_type_call ?_⟩;rw [Around.under_plain (weight_type_call_type "set" [] []) rfl];have h1:=PySem.F.called_set.notType;have h2:=PySem.F.called_set.canCreate;have h3:=PySem.F.typeCall_set_0
 repeat (any_goals (first | assumption | wp_step))
 refine JL (Wv (E:=E) (Q:=λv u=>v = .ref s.heap.objs.size/\u={s with heap:=s.heap.push (rC w)}) ⟨rfl,rfl⟩) λr u hr=>?_;cases r with
 | error e=>exact hr
 | ok fl=>
  cases fl with
  | ret v=>
   obtain⟨rfl,rfl⟩:=hr;have hT:Shared.TypeIs {s with heap:=s.heap.push (rC w)} (.ref s.heap.objs.size) "set":=⟨_,Ba _ rfl,rfl⟩;have jM:=PySem.F.called_set.init.lookup;have hbi:=PySem.F.called_set.init.bind<|.ref s.heap.objs.size
   repeat (any_goals (first | assumption | wp_step))
   refine JL (codeAny_call_builtin (R:=wants (λr u=>r = .none/\Q (.ref s.heap.objs.size) u) E) PySem.F.called_set.init.plain PySem.F.entry_set_init<|check_set_init hT ?_) λr2 u2 A0=>?_
   ·unfold Builtin.«set.__init__» noKeywords
    wp_walk
    exact⟨rfl,k⟩
   ·cases r2 with
    | error e=>exact A0
    | ok f2=>
     cases f2 with
     | ret r=>
      obtain⟨rfl,hq⟩:=A0
      repeat (any_goals (first | assumption | wp_step))
     | _=>exact A0.elim
  | _=>exact hr.elim
end
section
variable{X:Cx}{σ:St}{H:Hp}{Q:VK}
end
end L2
namespace Nt
open PySem L2
def nX(c:Int)(n:Net)(e:End):End:=(e.1,(((e.2:Int)+c) % ((row n e.1).length:Int)).toNat)
theorem A1{c:Int}{n:Net}{e:End}(h:e∈ends n):(((nX c n e).2:Nat):Int)=((e.2:Int)+c) % ((row n e.1).length:Int):=by
 obtain⟨z,hz⟩:=af.mp h;have:=fJ hz;exact Int.toNat_of_nonneg<|Bv _<|by omega
theorem Wz{c:Int}{n:Net}{e:End}(h:e∈ends n):nX c n e∈ends n:=by
 obtain⟨z,hz⟩:=af.mp h;have h1:=fJ hz;have h2:=A1 (c:=c) h;have h3:((e.2:Int)+c) % ((row n e.1).length:Int) < ((row n e.1).length:Int):=Cb _ (by omega);exact af.mpr<|vH (e:=nX c n e)<|by show(nX c n e).2 < (row n e.1).length;omega
theorem K5{n:Net}{e:End}(h:e∈ends n):left n e=nX 1 n e:=by
 have h2:=A1 (c:=1) h;refine DY rfl ?_;show(e.2+1) % (row n e.1).length=(nX 1 n e).2;have:(((e.2+1) % (row n e.1).length:Nat):Int)=((e.2:Int)+1) % ((row n e.1).length:Int):=by simp
 omega
def go(c:Int)(n:Net)(e:End):End:=nX c n<|other n e
theorem WB{c:Int}{n:Net}(T:az n){e:End}(h:e∈ends n):go c n e∈ends n:=Wz<|dN T h
theorem K6{n:Net}(T:az n){e:End}(h:e∈ends n):step n e=go 1 n e:=K5<|dN T h
def cC(n:Net)(e:End):Str:=(aN n e).getD ⟨#[]⟩
theorem wm{n:Net}{e:End}{z:Str}(h:aN n e=some z):cC n e=z:=by unfold cC;rw [h];rfl
structure dR(n:Net)(e:End)(k:Nat):Prop where
 pos:0 < k
 back:it (step n) k e=e
 first:∀ i,0 < i->i < k->it (step n) i e≠e
theorem dR.unique{n:Net}{e:End}{k l:Nat}(a:dR n e k)(b:dR n e l):k=l:=by
 rcases Fq k l with h | h | h
 ·exact absurd a.back<|b.first k a.pos h
 ·exact h
 ·exact absurd b.back<|a.first l b.pos h
noncomputable def iq(n:Net)(e:End):Nat:=by classical exact if h:∃ k,dR n e k then h.choose else 0
theorem A2{n:Net}{e:End}{k:Nat}(h:dR n e k):iq n e=k:=by
 have hx:∃ k,dR n e k:=⟨k,h⟩;unfold iq;rw [dif_pos hx];exact hx.choose_spec.unique h
theorem K7{n:Net}(T:az n){e:End}(h:e∈ends n):∃ k,dR n e k/\k<=(ends n).length:=by
 obtain⟨k,k0,k1,k2⟩:=Kl (f:=step n) (S:=ends n) (λa ha=>ki T ha) (λa ha b hb=>vI T ha hb) h;have aux:∀ m,∀ k,k<=m->0 < k->it (step n) k e=e->∃ j,j<=k/\dR n e j:=by
  intro m
  induction m with
  | zero=>intro k h1 h2;omega
  | succ m ih=>
   intro k h1 h2 h3
   by_cases c:∃ i,0 < i/\i < k/\it (step n) i e=e
   ·obtain⟨i,i1,i2,i3⟩:=c;obtain⟨j,j1,j2⟩:=ih i (by omega) i1 i3;exact⟨j,by omega,j2⟩
   ·exact⟨k,Am _,h2,h3,λi i1 i2 i3=>c ⟨i,i1,i2,i3⟩⟩
 obtain⟨j,j1,j2⟩:=aux k k (Am _) k0 k2;exact⟨j,j2,by omega⟩
def fl(n:Net)(e:End)(k:Nat):List End:=(List.range k).map λi=>it (step n) i e
theorem K8(n:Net)(e:End)(k:Nat):fl n e (k+1)=fl n e k++[it (step n) k e]:=by
 unfold fl;rw [Er,Ak];rfl
theorem lS(n:Net)(e:End)(k:Nat):(fl n e k).length=k:=by unfold fl;simp
theorem K9(n:Net)(e:End){k i:Nat}(h:i < k):(fl n e k)[i]?=some (it (step n) i e):=by
 unfold fl;rw [Ae,Cy h];rfl
noncomputable def face(n:Net)(e:End):List End:=fl n e<|iq n e
theorem WC{n:Net}{e:End}{k:Nat}(p:dR n e k)(hk:k<=(ends n).length):cf n e (fl n e k):=
 ⟨by rw [lS];exact p.pos,by rw [lS];exact hk,λi hi=>K9 n e (by rw [lS] at hi;exact hi),by rw [lS];exact p.back,by rw [lS];exact p.first⟩
theorem kn{n:Net}(T:az n){e:End}(h:e∈ends n):cf n e (face n e):=by
 obtain⟨k,p,hk⟩:=K7 T h;unfold face;rw [A2 p];exact WC p hk
theorem cf.eq{n:Net}{e:End}{fs:List End}(f:cf n e fs):fs=face n e:=by
 have p:dR n e fs.length:=⟨f.pos,f.back,f.first⟩;unfold face;rw [A2 p];apply Dq;intro i
 by_cases h:i < fs.length
 ·rw [f.at' i h,K9 n e h]
 ·rw [By (by omega),By<|by rw [lS];omega]
theorem rR{n:Net}(T:az n){e:End}(h:e∈ends n):∀ c∈face n e,c∈ends n:=(kn T h).ends T h
noncomputable def eO(n:Net):List End->List End->List (List End)
 | [],_=>[]
 | e :: r,told=>if e∈told then eO n r told else face n e :: eO n r (told++face n e)
theorem wn{n:Net}(T:az n):∀(es:List End) (told:List End),(∀ e∈es,e∈ends n)->∀ w∈eO n es told,∃ e∈es,w=face n e/\e∉told
 | [],_,_,w,hw=>by cases hw
 | e :: r,told,h,w,hw=>by
  unfold eO at hw
  split at hw
  ·obtain⟨e',h1,h2⟩:=wn T r told (λa ha=>h a<|Af _ ha) w hw;exact⟨e',Af _ h1,h2⟩
  ·rename_i hn
   rcases Ah.mp hw with rfl | hw
   ·exact⟨e,Ad ..,rfl,hn⟩
   ·obtain⟨e',h1,h2,h3⟩:=wn T r _ (λa ha=>h a<|Af _ ha) w hw;exact⟨e',Af _ h1,h2,λq=>h3<|Be _ q⟩
theorem A3(n:Net):∀(es:List End) (told:List End),(eO n es told).length<=es.length
 | [],_=>Am _
 | e :: r,told=>by
  unfold eO
  split
  ·have:=A3 n r told;show _<=r.length+1;omega
  ·have:=A3 n r<|told++face n e;show _+1<=r.length+1;omega
noncomputable def bq(n:Net):List (List End):=if ends n=[] then [[]] else eO n (ends n) []
theorem K'(n:Net):(bq n).length<=(ends n).length+1:=by
 unfold bq
 split
 ·show 1<=_;omega
 ·have:=A3 n (ends n) [];omega
theorem La{n:Net}(T:az n):∀ w∈bq n,w.length<=(ends n).length/\∀ c∈w,c∈ends n:=λw hw=>by
 unfold bq at hw
 split at hw
 ·rw [Aj.mp hw];exact⟨Bo _,λc h=>by cases h⟩
 ·obtain⟨e,he,rfl,_⟩:=wn T (ends n) [] (λe he=>he) w hw;exact⟨(kn T he).len,rR T he⟩
end Nt
namespace Nt
variable{α β:Type}
def eQ(f:α->α):List α->α->α->Prop
 | [],a,b=>a=b
 | x :: l,a,b=>x=a/\eQ f l (f x) b
theorem bE{f:α->α}:∀{l k:List α} {a b:α},eQ f (l++k) a b↔∃ c,eQ f l a c/\eQ f k c b
 | [],k,a,b=>⟨λh=>⟨a,rfl,h⟩,λ⟨c,e,h⟩=>by cases e;exact h⟩
 | x :: l,k,a,b=>by
  show(x=a/\eQ f (l++k) (f x) b)↔∃ c,(x=a/\eQ f l (f x) c)/\eQ f k c b;rw [bE];exact⟨λ⟨e,c,h1,h2⟩=>⟨c,⟨e,h1⟩,h2⟩,λ⟨c,⟨e,h1⟩,h2⟩=>⟨e,c,h1,h2⟩⟩
theorem A4{f:α->α}{f':β->β}{g:α->β}:∀{l:List α} {a b:α},(∀ x∈l,f' (g x)=g (f x))->eQ f l a b->eQ f' (l.map g) (g a) (g b)
 | [],_,_,_,h=>BZ g h
 | x :: l,a,b,hg,h=>⟨BZ g h.1,by rw [hg x Ad];exact A4 (λy hy=>hg y<|Af _ hy) h.2⟩
theorem wo{f:α->α}:∀{l:List α} {x a b y:α},eQ f (x :: l) a b->y∈x :: l->f y∈l\/f y=b
 | [],x,a,b,y,h,hy=>by
  rw [Aj] at hy;subst hy;exact .inr h.2
 | z :: l,x,a,b,y,h,hy=>by
  rcases Ah.mp hy with rfl | hy
  ·exact .inl<|by rw [<- h.2.1];exact Ad
  ·rcases wo h.2 hy with q | q
   ·exact .inl<|Af _ q
   ·exact .inr q
theorem wq{f:α->α}{l:List α}{a y:α}(h:eQ f l a a)(ha:a∈l)(hy:y∈l):f y∈l:=by
 cases l with
 | nil=>cases hy
 | cons x l=>
  rcases wo h hy with q | q
  ·exact Af _ q
  ·rw [q];exact ha
theorem wt{f:α->α}{f':β->β}{g:α->β}{c:α}{h:β}:∀{l:List α} {x:α},(∀ y∈x :: l,f y=c->f' (g y)=h)->(∀ y∈x :: l,f y≠c->f' (g y)=g (f y))->c∉l->eQ f (x :: l) x c->eQ f' ((x :: l).map g) (g x) h
 | [],x,h1,_,_,p=>⟨rfl,h1 x Ad p.2⟩
 | y :: l,x,h1,h2,hc,p=>by
  have e:y=f x:=p.2.1;have ne:f x≠c:=λq=>hc (by rw [<- q,<- e];exact Ad);refine⟨rfl,?_⟩;rw [h2 x Ad ne,<- e];refine wt (λz hz=>h1 z<|Af _ hz) (λz hz=>h2 z<|Af _ hz) (λq=>hc<|Af _ q) ?_;exact⟨rfl,p.2.2⟩
structure Dec(f:α->α)(D:List α)(Ls:List<|List α):Prop where
 jf:∀ l∈Ls,∃ a,a∈l/\eQ f l a a
 all:Ls.flatten.Perm D
 nd:D.Nodup
theorem Dec.sub{f:α->α}{D:List α}{Ls:List (List α)}(d:Dec f D Ls){l:List α}(hl:l∈Ls){x:α}(hx:x∈l):x∈D:=
 d.all.mem_iff.mp (Dm.mpr ⟨l,hl,hx⟩)
theorem Dec.pick{f:α->α}{D:List α}{Ls:List (List α)}(d:Dec f D Ls){c:α}(hc:c∈D):∃ l Ms,Ls.length=Ms.length+1/\Dec f D ((c :: l) :: Ms):=by
 obtain⟨l,hl,nR⟩:=Dm.mp<|d.all.mem_iff.mpr hc;obtain⟨A,B,rfl⟩:=Fj hl;obtain⟨p,q,rfl⟩:=Fj nR;obtain⟨a,ha,h⟩:=d.jf _ hl;obtain⟨m,h1,h2⟩:=bE.mp h;have e:c=m:=h2.1;subst e;refine⟨q++p,A++B,by simp [Nat.add_assoc],λk hk=>?_,?_,d.nd⟩
 ·rcases Ah.mp hk with rfl | hk
  ·exact⟨c,Ad,bE (l:=c :: q).mpr ⟨a,h2,h1⟩⟩
  ·refine d.jf k ?_
   rcases Aq.mp hk with q | q
   ·exact Be _ q
   ·exact Ar _<|Af _ q
 ·refine List.Perm.trans ?_ d.all;simp only [Cr,Fx,Fw];have e1:(c :: (q++p)).Perm (p++c :: q):=by
   rw [<- Fw];exact Cn
  refine((e1.append_right _).trans ?_);rw [<- Aw,<- Aw];exact(Cn).append_right _
theorem Dec.apart{f:α->α}{D:List α}{l:List α}{Ms:List (List α)}(d:Dec f D<|l :: Ms):l.Nodup/\∀ m∈Ms,∀ x∈l,x∉m:=by
 have h:=d.all.nodup_iff.mpr d.nd;rw [Cr,Cc] at h;exact⟨h.1,λm hm x hx WD=>h.2.2 x hx x (Dm.mpr ⟨m,hm,WD⟩) rfl⟩
theorem wu{g:α->β}:∀(Ls:List<|List α),(Ls.map<|List.map g).flatten=Ls.flatten.map g
 | []=>rfl
 | l :: Ls=>by rw [Ap,Cr,wu Ls,Cr,Ak]
theorem Dec.rest{f:α->α}{f':β->β}{g:α->β}{D:List α}{l:List α}{Ms:List (List α)}(d:Dec f D<|l :: Ms)(ho:∀ x∈D,f x∉l->f' (g x)=g (f x)):∀ m∈Ms.map (List.map g),∃ a,a∈m/\eQ f' m a a:=by
 intro m hm;obtain⟨k,hk,rfl⟩:=An.mp hm;obtain⟨a,ha,p⟩:=d.jf k<|Af _ hk;refine⟨g a,An.mpr ⟨a,ha,rfl⟩,A4 (λx hx=>ho x (d.sub (Af _ hk) hx) λq=>?_) p⟩;exact d.apart.2 k hk _ q<|wq p ha hx
theorem Dec.grow{f:α->α}{f':β->β}{g:α->β}{D:List α}{c:α}{l:List α}{Ms:List (List α)}(d:Dec f D<|(c :: l) :: Ms){new:List β}{h:β}(hn:eQ f' new h<|g c)(hh:∀ x∈D,f x=c->f' (g x)=h)(ho:∀ x∈D,f x≠c->f' (g x)=g (f x))(nd:(D.map g++new).Nodup) :
  Dec f' (D.map g++new) (((c :: l).map g++new) :: Ms.map (List.map g)):=by
 have ap:=d.apart;have nR:c∉l:=(Bf.mp ap.1).1;refine⟨λk hk=>?_,?_,nd⟩
 ·rcases Ah.mp hk with rfl | hk
  ·obtain⟨a,ha,p⟩:=d.jf _ Ad;have e:c=a:=p.1;subst e;exact⟨g c,Be _ Ad,bE.mpr ⟨h,wt (λy hy=>hh y<|d.sub Ad hy) (λy hy=>ho y<|d.sub Ad hy) nR p,hn⟩⟩
  ·exact d.rest (λx hx q=>ho x hx λe=>q<|by rw [e];exact Ad) k hk
 ·rw [Cr,wu];have:=d.all.map g;rw [Cr,Ak] at this;refine List.Perm.trans ?_<|this.append_right new;rw [Aw,Aw];exact(Cn).append_left _
theorem Dec.split{f:α->α}{f':β->β}{g:α->β}{D:List α}{c d0:α}{l:List α}{Ms:List (List α)}(d:Dec f D<|(c :: l) :: Ms)(hd:d0∈l){e1 e2:β}(h1:f' e1=g d0)(h2:f' e2=g c)(hc:∀ x∈D,f x=c->f' (g x)=e1)(WG:∀ x∈D,f x=d0->f' (g x)=e2)(ho:∀ x∈D,f x≠c->f x≠d0->f' (g x)=g (f x))(nd:(D.map g++[e1,e2]).Nodup) :
  ∃ Ls,Ls.length=Ms.length+2/\Dec f' (D.map g++[e1,e2]) Ls/\∃ l∈Ls,e2∈l/\e1∉l:=by
 have ap:=d.apart;obtain⟨p,q,rfl⟩:=Fj hd;have A5:=Bf.mp ap.1;have Lb:=Cc.mp A5.2;have WH:=Bf.mp Lb.2.1;have WK:d0∉p:=λx=>Lb.2.2 d0 x d0 Ad rfl;have WL:c∉p:=λx=>A5.1<|Be _ x;have WM:c∉q:=λx=>A5.1<|Ar _<|Af _ x;obtain⟨a,ha,pp⟩:=d.jf _ Ad;have e:c=a:=pp.1;subst e;obtain⟨m,p1,p2⟩:=(bE (l:=c :: p)).mp pp;have e:d0=m:=p2.1;subst e;have inD:∀ y∈c :: p,y∈D:=λy hy=>d.sub Ad (by
  rcases Ah.mp hy with rfl | hy
  ·exact Ad
  ·exact Af _<|Be _ hy)
 have rS:∀ y∈d0 :: q,y∈D:=λy hy=>d.sub Ad<|Af _<|Ar _ hy;have Lc:=Cc.mp nd;have WN:e1≠e2:=λe=>by
  have:=Lc.2.1;rw [e] at this;simp at this
 refine⟨((c :: p).map g++[e2]) :: ((d0 :: q).map g++[e1]) :: Ms.map (List.map g),by simp,⟨λk hk=>?_,?_,nd⟩,_,Ad,Ar _<|Aj.mpr rfl,λh=>?_⟩
 ·rcases Ah.mp hk with rfl | hk
  ·refine⟨g c,Be _ Ad,bE.mpr ⟨e2,wt (λy hy=>WG y<|inD y hy) (λy hy ne=>ho y (inD y hy) (λec=>?_) ne) WK p1,rfl,h2⟩⟩
   rcases wo p1 hy with z | z
   ·exact WL<|by rw [<- ec];exact z
   ·exact ne z
  ·rcases Ah.mp hk with rfl | hk
   ·refine⟨g d0,Be _ Ad,bE.mpr ⟨e1,wt (λy hy=>hc y<|rS y hy) (λy hy ne=>ho y (rS y hy) ne λec=>?_) WM p2,rfl,h1⟩⟩
    rcases wo p2 hy with z | z
    ·exact WH.1<|by rw [<- ec];exact z
    ·exact ne z
   ·exact d.rest (λx hx q=>ho x hx (λe=>q<|by rw [e];exact Ad) λe=>q<|by rw [e];exact Af _<|Ar _ Ad) k hk
 ·simp only [Cr,wu];have:=d.all.map g;rw [Cr,Ak,<- Fw,Ak] at this;refine List.Perm.trans ?_<|this.append_right [e1,e2];generalize (c :: p).map g=A;generalize (d0 :: q).map g=B;generalize Ms.flatten.map g=C
  letI:DecidableEq β:=λa b=>Classical.propDecidable<|a=b
  rw [List.perm_iff_count];intro z;simp only [LQ,Dg,List.count_nil];omega
 ·rcases Aq.mp h with h | h
  ·obtain⟨y,hy,e⟩:=An.mp h;exact Lc.2.2 e1 (An.mpr ⟨y,inD y hy,e⟩) e1 Ad rfl
  ·exact WN<|Aj.mp h
theorem Dec.more{f:β->β}{D:List β}{Ls:List (List β)}(d:Dec f D Ls){b:β}(hb:f b=b)(nd:(D++[b]).Nodup):Dec f (D++[b]) (Ls++[[b]]):=by
 refine⟨λl hl=>?_,?_,nd⟩
 ·rcases Aq.mp hl with h | h
  ·exact d.jf l h
  ·rw [Aj] at h;subst h;exact⟨b,Ad,rfl,hb⟩
 ·rw [Fx];exact d.all.append_right _
theorem Dec.carry{f:α->α}{f':β->β}{g:α->β}{D:List α}{D':List β}{Ls:List (List α)}(d:Dec f D Ls)(ho:∀ x∈D,f' (g x)=g (f x))(hD:(D.map g).Perm D')(nd:D'.Nodup):Dec f' D' (Ls.map<|List.map g):=by
 refine⟨λm hm=>?_,?_,nd⟩
 ·obtain⟨k,hk,rfl⟩:=An.mp hm;obtain⟨a,ha,p⟩:=d.jf k hk;exact⟨g a,An.mpr ⟨a,ha,rfl⟩,A4 (λx hx=>ho x<|d.sub hk hx) p⟩
 ·rw [wu];exact(d.all.map g).trans hD
open PySem
theorem rT{α:Type} [DecidableEq α]:∀{a b:List α},a.Nodup->(∀ z∈a,z∈b)->b.length<=a.length->a.Perm b
 | [],b,_,_,hl=>by
  have:b=[]:=Bb.mp<|Nat.le_zero.mp hl;rw [this]
 | x :: a,b,nd,sub,hl=>by
  have Ld:=Bf.mp nd;have hx:=sub x Ad;have pb:=Ez hx;refine List.Perm.trans ((rT Ld.2 (λz hz=>?_) ?_).cons x) pb.symm
  ·exact(Dv λe=>Ld.1<|by rw [<- e];exact hz).mpr<|sub z<|Af _ hz
  ·have:=pb.length_eq;rw [Ao] at this hl;omega
theorem jg{n:Net}(T:az n){a b:End}{z:Str}(ha:aN n a=some z)(hb:aN n b=some z)(ne:a≠b):other n a=b:=by
 obtain⟨h1,_,h3⟩:=fZ T ha;obtain⟨p,q,e,_,_⟩:=pI T ha;have m1:=aY.mpr ha;have m2:=aY.mpr hb;have m3:=aY.mpr h1;rw [e] at m1 m2 m3;simp only [Ah,Bm,DR] at m1 m2 m3
 rcases m1 with rfl | rfl <;> rcases m2 with rfl | rfl <;> rcases m3 with m3 | m3 <;> first | exact m3 | exact absurd rfl ne | exact absurd m3 h3
def sh(c e:End):End:=if e.1=c.1/\c.2<=e.2 then(e.1,e.2+1) else e
theorem ko(c e:End):(sh c e).1=e.1:=by unfold sh;split <;> rfl
theorem lT{c a b:End}(h:sh c a=sh c b):a=b:=by
 have h1:a.1=b.1:=by rw [<- ko c a,h,ko]
 have h2:=BZ Prod.snd h;unfold sh at h2;refine DY h1 ?_
 by_cases x:a.1=c.1/\c.2<=a.2
 ·rw [BL x] at h2
  by_cases y:b.1=c.1/\c.2<=b.2
  ·rw [BL y] at h2;exact Nat.succ.inj h2
  ·rw [BK y] at h2;have h2:a.2+1=b.2:=h2;exact absurd ⟨h1 ▸ x.1,by omega⟩ y
 ·rw [BK x] at h2
  by_cases y:b.1=c.1/\c.2<=b.2
  ·rw [BL y] at h2;have h2:a.2=b.2+1:=h2;exact absurd ⟨h1 ▸ y.1,by omega⟩ x
  ·rw [BK y] at h2;exact h2
theorem lU(c e:End):sh c e≠c:=by
 intro h;have h1:e.1=c.1:=by rw [<- ko c e,h]
 have h2:=BZ Prod.snd h;unfold sh at h2
 by_cases x:e.1=c.1/\c.2<=e.2
 ·rw [BL x] at h2;have h2:e.2+1=c.2:=h2;omega
 ·rw [BK x] at h2;exact x ⟨h1,by omega⟩
section
variable{n:Net}{c:End}{z:Str}
theorem pM(hc:c.1 < n.length)(hp:c.2<=(row n c.1).length)(i:Nat):(row (ins n c z) i).length=if c.1=i then(row n i).length+1 else(row n i).length:=by
 rw [pJ n c z i hc]
 by_cases h:c.1=i
 ·subst h;rw [BL rfl,BL rfl,Ag,Ao,Bl,Cz];omega
 ·rw [BK h,BK h]
theorem A6(hc:c.1 < n.length)(hp:c.2<=(row n c.1).length):aN (ins n c z) c=some z:=by
 unfold aN;rw [pJ n c z c.1 hc,BL rfl,Bc (by rw [Bl];omega),Bl,show c.2 - min c.2 (row n c.1).length=0 by omega];rfl
theorem pN(hc:c.1 < n.length)(hp:c.2<=(row n c.1).length)(e:End):aN (ins n c z) (sh c e)=aN n e:=by
 unfold aN;rw [ko,pJ n c z e.1 hc];unfold sh
 by_cases h:c.1=e.1
 ·rw [BL h]
  by_cases k:c.2<=e.2
  ·rw [BL ⟨h.symm,k⟩,Bc (by rw [Bl];show _<=e.2+1;omega),Bl];show(z :: (row n e.1).drop c.2)[e.2+1 - min c.2 (row n e.1).length]?=_;rw [<- h,show e.2+1 - min c.2 (row n c.1).length=(e.2 - c.2)+1 by omega,Co,Gd,show c.2+(e.2 - c.2)=e.2 by omega]
  ·rw [BK λq=>k q.2,Ay (by rw [Bl,<- h];omega),Da<|by omega]
 ·rw [BK h,BK λq=>h q.1.symm]
theorem lV(hc:c.1 < n.length)(hp:c.2 < (row n c.1).length):left (ins n c z) c=sh c c:=by
 unfold left sh;rw [pM hc<|Cw hp,BL rfl,BL ⟨rfl,Am _⟩,Cf<|by omega]
theorem gI(hc:c.1 < n.length)(hp:c.2 < (row n c.1).length){e:End}(he:e.2 < (row n e.1).length):left (ins n c z) (sh c e)=if left n e=c then c else sh c (left n e):=by
 by_cases h:c.1=e.1
 ·have e1:(left n e).1=e.1:=rfl;have e2:(left n e).2=(e.2+1) % (row n e.1).length:=rfl;have q:(left n e=c)↔(e.2+1) % (row n e.1).length=c.2:=⟨λx=>by rw [<- e2,x],λx=>DY h.symm x⟩;have L:(left (ins n c z) (sh c e))=(e.1,((sh c e).2+1) % ((row n e.1).length+1)):=by
   unfold left;rw [ko,pM hc<|Cw hp,BL h]
  rw [L];rw [h] at hp;have S:(sh c e).2=if c.2<=e.2 then e.2+1 else e.2:=by
   unfold sh
   by_cases k:c.2<=e.2
   ·rw [BL ⟨h.symm,k⟩,BL k]
   ·rw [BK λq=>k q.2,BK k]
  have S2:sh c (left n e)=(e.1,if c.2<=(e.2+1) % (row n e.1).length then(e.2+1) % (row n e.1).length+1 else(e.2+1) % (row n e.1).length):=by
   unfold sh
   by_cases k:c.2<=(e.2+1) % (row n e.1).length
   ·rw [BL ⟨h.symm,k⟩,BL k];rfl
   ·rw [BK λq=>k q.2,BK k];rfl
  rw [S,S2];generalize (row n e.1).length=m at *
  by_cases k:e.2+1 < m
  ·rw [Cf k] at q ⊢
   by_cases j:e.2+1=c.2
   ·rw [BL<|q.mpr j,BK (by omega),Cf<|by omega];exact DY h.symm j
   ·rw [BK λx=>j<|q.mp x]
    by_cases i:c.2<=e.2
    ·rw [BL i,BL (by omega),Cf<|by omega]
    ·rw [BK i,BK (by omega),Cf<|by omega]
  ·have em:e.2+1=m:=by omega
   rw [em,Ef] at q ⊢;rw [BL (by omega),Ef]
   by_cases j:0=c.2
   ·rw [BL<|q.mpr j];exact DY h.symm j
   ·rw [BK λx=>j<|q.mp x,BK<|by omega]
 ·have ne:left n e≠c:=λx=>h (by rw [<- x];rfl);rw [BK ne];have s1:sh c e=e:=by unfold sh;rw [BK λq=>h q.1.symm]
  have s2:sh c (left n e)=left n e:=by unfold sh;rw [BK λq=>h q.1.symm]
  rw [s1,s2];unfold left;rw [pM hc<|Cw hp,BK h]
end
def Pl(n:Net):Prop:=(ag n=[]/\n.length=1)\/∃ Ls,Dec (step n) (ends n) Ls/\2 * (n.length+Ls.length)=(ag n).length+4
structure dD(n m:Net)(g:End->End)(e1 e2:End)(z:Str):Prop where
 dE:∀ e∈ends n,aN m (g e)=aN n e
 t1:aN m e1=some z
 t2:aN m e2=some z
 inj:∀ a b,g a=g b->a=b
 n1:∀ a∈ends n,g a≠e1
 n2:∀ a∈ends n,g a≠e2
 ne:e1≠e2
 len:(ag m).length=(ag n).length+2
section
variable{n m:Net}{g:End->End}{e1 e2:End}{z:Str}
theorem dD.nd(p:dD n m g e1 e2 z):((ends n).map g++[e1,e2]).Nodup:=by
 rw [Cc];refine⟨?_,?_,?_⟩
 ·exact(Dy.mpr<|(lJ n).imp λ{a b} h e=>h<|p.inj a b e)
 ·simp [p.ne]
 ·rintro a ha b hb rfl;obtain⟨x,hx,rfl⟩:=An.mp ha;simp only [Ah,Bm,DR] at hb
  rcases hb with h | h
  ·exact p.n1 x hx h
  ·exact p.n2 x hx h
theorem dD.perm(p:dD n m g e1 e2 z):((ends n).map g++[e1,e2]).Perm (ends m):=by
 refine rT p.nd (λa ha=>?_)<|by rw [ik,p.len,Ag,Aa,ik];exact Am _
 rcases Aq.mp ha with h | h
 ·obtain⟨x,hx,rfl⟩:=An.mp h;obtain⟨y,hy⟩:=af.mp hx;exact af.mpr ⟨y,by rw [p.dE x hx];exact hy⟩
 ·simp only [Ah,Bm,DR] at h
  rcases h with rfl | rfl
  ·exact af.mpr ⟨z,p.t1⟩
  ·exact af.mpr ⟨z,p.t2⟩
theorem dD.aE(p:dD n m g e1 e2 z)(T:az n)(T':az m){e:End}(he:e∈ends n):other m (g e)=g (other n e):=by
 obtain⟨y,hy⟩:=af.mp he;obtain⟨h1,_,h3⟩:=fZ T hy;exact jg T' (by rw [p.dE e he];exact hy) (by rw [p.dE _<|af.mpr ⟨y,h1⟩];exact h1) λh=>h3 (p.inj _ _ h).symm
theorem dD.o1(p:dD n m g e1 e2 z)(T':az m):other m e1=e2:=jg T' p.t1 p.t2 p.ne
theorem dD.o2(p:dD n m g e1 e2 z)(T':az m):other m e2=e1:=jg T' p.t2 p.t1 p.ne.symm
theorem Dec.perm{α:Type}{f:α->α}{D D':List α}{Ls:List (List α)}(d:Dec f D Ls)(h:D.Perm D'):Dec f D' Ls:=⟨d.jf,d.all.trans h,h.nodup_iff.mp d.nd⟩
theorem Le{α:Type}{f:α->α}{l:List α}(h:∀ x∈l,f x∈l){a:α}(ha:a∈l):∀ k,it f k a∈l:=λk=>i5 h ha k
theorem Dec.one{α:Type}{f:α->α}{D:List α}{a b:α}{l:List α}{Ms:List (List α)}(d:Dec f D<|(a :: l) :: Ms)(hb:b∈D)(h:(∃ k,it f k a=b)\/∃ k,it f k b=a)(ne:b≠a):b∈l:=by
 have cl:∀ k∈(a :: l) :: Ms,∀ x∈k,f x∈k:=λk hk x hx=>by
  obtain⟨c,hc,p⟩:=d.jf k hk;exact wq p hc hx
 have hm:b∈a :: l:=by
  rcases h with ⟨k,rfl⟩ | ⟨k,e⟩
  ·exact Le (cl _ Ad) Ad k
  ·obtain⟨j,hj,Lf⟩:=Dm.mp<|d.all.mem_iff.mpr hb
   rcases Ah.mp hj with rfl | A7
   ·exact Lf
   ·have:=Le (cl j hj) Lf k;rw [e] at this;exact absurd this<|d.apart.2 j A7 a Ad
 rcases Ah.mp hm with h | h
 ·exact absurd h ne
 ·exact h
theorem WO(p:dD n m g e1 e2 z)(T:az n)(T':az m)(hl:m.length=n.length){k1 k2:End}(h1:k1∈ends n)(h2:k2∈ends n)(ne:k2≠k1)(same:(∃ k,it (step n) k k1=k2)\/∃ k,it (step n) k k2=k1)
  (l1:left m e1=g k1) (l2:left m e2=g k2) (lf:∀ e∈ends n,left m (g e)=if left n e=k1 then e1 else if left n e=k2 then e2 else g (left n e)) (P:Pl n):Pl m:=by
 have st:∀ x∈ends n,step m (g x)=if step n x=k1 then e1 else if step n x=k2 then e2 else g (step n x):=λx hx=>by
  unfold step;rw [p.aE T T' hx];exact lf _<|dN T hx
 rcases P with ⟨e,_⟩ | ⟨Ls,d,eu⟩
 ·obtain⟨y,hy⟩:=af.mp h1;have:=ig hy;rw [e] at this;cases this
 ·obtain⟨l,Ms,hL,d⟩:=d.pick h1;have hk:=d.one h2 same ne;obtain⟨Lg,A8,d',_⟩:=d.split (f':=step m) (g:=g) hk (e1:=e1) (e2:=e2) (by unfold step;rw [p.o1 T'];exact l2) (by unfold step;rw [p.o2 T'];exact l1)
   (λx hx e=>by rw [st x hx,BL e]) (λx hx e=>by rw [st x hx,BK (by rw [e];exact ne),BL e]) (λx hx a b=>by rw [st x hx,BK a,BK b]) p.nd
  refine .inr ⟨Lg,d'.perm p.perm,?_⟩;have:=p.len;omega
theorem WQ(p:dD n m g e1 e2 z)(T:az n)(T':az m)(hl:m.length=n.length){c:End}(h1:c∈ends n)
  (l1:left m e1=g c) (l2:left m e2=e1) (lf:∀ e∈ends n,left m (g e)=if left n e=c then e2 else g (left n e)) (P:Pl n):Pl m:=by
 have st:∀ x∈ends n,step m (g x)=if step n x=c then e2 else g (step n x):=λx hx=>by
  unfold step;rw [p.aE T T' hx];exact lf _<|dN T hx
 rcases P with ⟨e,_⟩ | ⟨Ls,d,eu⟩
 ·obtain⟨y,hy⟩:=af.mp h1;have:=ig hy;rw [e] at this;cases this
 ·obtain⟨l,Ms,hL,d⟩:=d.pick h1;have nd:=p.nd;have rU:((ends n).map g++[e2]++[e1]).Nodup:=by
   rw [Aw];exact((List.Perm.swap e1 e2 []).append_left _).nodup_iff.mpr nd
  have d1:=d.grow (f':=step m) (g:=g) (new:=[e2]) (h:=e2) ⟨rfl,by unfold step;rw [p.o2 T'];exact l1⟩ (λx hx e=>by rw [st x hx,BL e]) (λx hx e=>by rw [st x hx,BK e]) (Cc.mp rU).1;have d2:=d1.more (b:=e1) (by unfold step;rw [p.o1 T'];exact l2) rU;have pm:((ends n).map g++[e2]++[e1]).Perm (ends m):=by
   refine List.Perm.trans ?_ p.perm;rw [Aw];exact(List.Perm.swap e1 e2 []).append_left _
  refine .inr ⟨_,d2.perm pm,?_⟩;have:=p.len;simp only [Ag,Ao,Aa,Gu];omega
theorem WR(p:dD n m g e1 e2 z)(T:az n)(T':az m)(hl:m.length=n.length+1){c:End}(h1:c∈ends n)
  (l1:left m e1=g c) (l2:left m e2=e2) (lf:∀ e∈ends n,left m (g e)=if left n e=c then e1 else g (left n e)) (P:Pl n):Pl m:=by
 have st:∀ x∈ends n,step m (g x)=if step n x=c then e1 else g (step n x):=λx hx=>by
  unfold step;rw [p.aE T T' hx];exact lf _<|dN T hx
 rcases P with ⟨e,_⟩ | ⟨Ls,d,eu⟩
 ·obtain⟨y,hy⟩:=af.mp h1;have:=ig hy;rw [e] at this;cases this
 ·obtain⟨l,Ms,hL,d⟩:=d.pick h1;have s1:step m e1=e2:=by unfold step;rw [p.o1 T'];exact l2
  have s2:step m e2=g c:=by unfold step;rw [p.o2 T'];exact l1
  have d1:=d.grow (f':=step m) (g:=g) (new:=[e1,e2]) (h:=e1) ⟨rfl,by rw [s1];exact⟨rfl,s2⟩⟩ (λx hx e=>by rw [st x hx,BL e]) (λx hx e=>by rw [st x hx,BK e]) p.nd;refine .inr ⟨_,d1.perm p.perm,?_⟩;have:=p.len;simp only [Ao,Aa];omega
end
theorem dX{n:Net}{e:End}(h:e∈ends n):e.1 < n.length/\e.2 < (row n e.1).length:=by
 obtain⟨z,hz⟩:=af.mp h;exact⟨cT hz,fJ hz⟩
section
variable{n:Net}{z:Str}
theorem Lh{k1 k2:End}(h1:k1.1 < n.length/\k1.2<=(row n k1.1).length)(h2:k2.1 < n.length/\k2.2<=(row n k2.1).length):dD n (ins (ins n k1 z) k2 z) (λe=>sh k2<|sh k1 e) (sh k2 k1) k2 z:=by
 have c2:k2.1 < (ins n k1 z).length:=by rw [fK];exact h2.1
 have p2:k2.2<=(row (ins n k1 z) k2.1).length:=by
  rw [pM h1.1 h1.2]
  split
  ·have:=h2.2;omega
  ·exact h2.2
 refine⟨λe _=>?_,?_,A6 c2 p2,λa b h=>lT<|lT h,λa _ h=>lU k1 a<|lT h,λa _=>lU k2 _,lU k2 k1,?_⟩
 ·show aN _ (sh k2<|sh k1 e)=_;rw [pN c2 p2,pN h1.1 h1.2]
 ·rw [pN c2 p2];exact A6 h1.1 h1.2
 ·rw [(jL _ k2 z c2).length_eq,Ao,(jL _ k1 z h1.1).length_eq,Ao]
theorem WT{k1 k2:End}(T:az n)(T':az<|ins (ins n k1 z) k2 z)(h1:k1∈ends n)(h2:k2∈ends n)(ord:k2=k1\/sh k1 k2=k2)(same:(∃ k,it (step n) k k1=k2)\/∃ k,it (step n) k k2=k1)(P:Pl n):Pl (ins (ins n k1 z) k2 z):=by
 have r1:=dX h1;have r2:=dX h2;have p:=Lh (z:=z) (k1:=k1) (k2:=k2) ⟨r1.1,Cw r1.2⟩ ⟨r2.1,Cw r2.2⟩;have c2:k2.1 < (ins n k1 z).length:=by rw [fK];exact r2.1
 have rl:∀ i,(row n i).length<=(row (ins n k1 z) i).length:=λi=>by
  rw [pM r1.1<|Cw r1.2]
  split <;> omega
 have p2:k2.2 < (row (ins n k1 z) k2.1).length:=Bk r2.2<|rl _;have p1:k1.2 < (row (ins n k1 z) k1.1).length:=Bk r1.2<|rl _;have hl:(ins (ins n k1 z) k2 z).length=n.length:=by rw [fK,fK]
 have sl:∀ e∈ends n,(sh k1 e).2 < (row (ins n k1 z) (sh k1 e).1).length:=λe he=>by
  obtain⟨y,hy⟩:=af.mp he;exact fJ (z:=y)<|by rw [pN r1.1<|Cw r1.2];exact hy
 have l0:left (ins n k1 z) k1=sh k1 k1:=lV r1.1 r1.2
 by_cases e:k2=k1
 ·subst e;refine WQ p T T' hl h1 ?_ (lV c2 p2) (λe he=>?_) P
  ·rw [gI c2 p2 p1,l0,BK<|lU _ _]
  ·show left _ (sh k2<|sh k2 e)=_;rw [gI c2 p2<|sl e he,gI r1.1 r1.2 (dX he).2]
   by_cases q:left n e=k2
   ·rw [BL q,BL rfl,BL q]
   ·rw [BK q,BK<|lU _ _,BK q]
 ·have hs:sh k1 k2=k2:=ord.resolve_left e;refine WO p T T' hl h1 h2 e same ?_ ?_ (λe' he=>?_) P
  ·rw [gI c2 p2 p1,l0,BK λq=>e<|lT (c:=k1)<|by rw [hs,q]]
  ·show left _ k2=sh k2 (sh k1 k2);rw [hs];exact lV c2 p2
  ·show left _ (sh k2<|sh k1 e')=if left n e'=k1 then sh k2 k1 else if left n e'=k2 then k2 else sh k2 (sh k1<|left n e');rw [gI c2 p2<|sl e' he,gI r1.1 r1.2 (dX he).2]
   by_cases q:left n e'=k1
   ·rw [BL q,BL q,BK λx=>e x.symm]
   ·rw [BK q,BK q]
    by_cases q2:left n e'=k2
    ·rw [BL q2,q2,hs,BL rfl]
    ·rw [BK q2,BK λx=>q2<|lT (c:=k1)<|by rw [x,hs]]
theorem lW{a b:Net}{i:Nat}(h:i < a.length):row (a++b) i=row a i:=by
 unfold row;rw [Ay h]
theorem wv{a:Net}{x:Str×List Str}:row (a++[x]) a.length=x.2:=by
 unfold row;rw [Bc<|Am _];simp
theorem Li{c:End}{pt:Str}(h1:c.1 < n.length/\c.2<=(row n c.1).length):dD n (ins n c z++[(pt,[z])]) (sh c) c (n.length,0) z:=by
 have la:∀ e:End,e.1 < n.length->aN (ins n c z++[(pt,[z])]) e=aN (ins n c z) e:=λe he=>by
  unfold aN;rw [lW<|by rw [fK];exact he]
 refine⟨λe he=>?_,?_,?_,λa b h=>lT h,λa _=>lU c a,λa ha h=>?_,λh=>?_,?_⟩
 ·rw [la _ (by rw [ko];exact(dX he).1),pN h1.1 h1.2]
 ·rw [la _ h1.1,A6 h1.1 h1.2]
 ·unfold aN;have:=wv (a:=ins n c z) (x:=(pt,[z]));rw [fK] at this;show(row _ n.length)[0]?=_;rw [this];rfl
 ·have:=(dX ha).1;rw [<- ko c a,h] at this;exact absurd this<|Dd _
 ·have:=h1.1;rw [h] at this;exact absurd this<|Dd _
 ·unfold ag;rw [Dr,Ag];have:=(jL _ c z h1.1).length_eq;unfold ag at this;rw [this];rfl
theorem WU{c:End}{pt:Str}(T:az n)(T':az<|ins n c z++[(pt,[z])])(h1:c∈ends n)(P:Pl n):Pl (ins n c z++[(pt,[z])]):=by
 have r1:=dX h1;have p:=Li (z:=z) (c:=c) (pt:=pt) ⟨r1.1,Cw r1.2⟩;have la:∀ e:End,e.1 < n.length->left (ins n c z++[(pt,[z])]) e=left (ins n c z) e:=λe he=>by
  unfold left;rw [lW<|by rw [fK];exact he]
 refine WR p T T' (by rw [Ag,fK];rfl) h1 ?_ ?_ (λe he=>?_) P
 ·rw [la _ r1.1];exact lV r1.1 r1.2
 ·unfold left;have:=wv (a:=ins n c z) (x:=(pt,[z]));rw [fK] at this;show(n.length,(0+1) % (row _ n.length).length)=_;rw [this];exact BZ (Prod.mk _)<|Ef 1
 ·rw [la _<|by rw [ko];exact(dX he).1];exact gI r1.1 r1.2 (dX he).2
end
theorem Lj{m:Net}{z:Str}{e1 e2:End}(T':az m)(hE:ends m=[e1,e2])(t1:aN m e1=some z)(t2:aN m e2=some z)(ne:e1≠e2)
  (h:(m.length=2/\left m e1=e1/\left m e2=e2)\/(m.length=1/\left m e1=e2/\left m e2=e1)):Pl m:=by
 have o1:=jg T' t1 t2 ne;have o2:=jg T' t2 t1 ne.symm;have hl:(ag m).length=2:=by rw [<- ik,hE];rfl
 have nd:[e1,e2].Nodup:=by simp [ne]
 rcases h with ⟨hm,l1,l2⟩ | ⟨hm,l1,l2⟩
 ·refine .inr ⟨[[e1,e2]],?_,by rw [hm,hl];rfl⟩;rw [hE];refine⟨λl hl=>?_,List.Perm.refl _,nd⟩;rw [Aj] at hl;subst hl;refine⟨e1,Ad,rfl,?_⟩;unfold step;rw [o1,l2];exact⟨rfl,by show left m (other m e2)=e1;rw [o2,l1]⟩
 ·refine .inr ⟨[[e1],[e2]],?_,by rw [hm,hl];rfl⟩;rw [hE];refine⟨λl hl=>?_,List.Perm.refl _,nd⟩;simp only [Ah,Bm,DR] at hl
  rcases hl with rfl | rfl
  ·exact⟨e1,Ad,rfl,by show left m (other m e1)=e1;rw [o1,l2]⟩
  ·exact⟨e2,Ad,rfl,by show left m (other m e2)=e2;rw [o2,l1]⟩
theorem WV{nm pt z:Str}(T':az [(nm,[z]),(pt,[z])]):Pl [(nm,[z]),(pt,[z])]:=
 Lj (e1:=(0,0)) (e2:=(1,0)) (z:=z) T' rfl rfl rfl (by decide) (.inl ⟨rfl,by simp [left,row],by simp [left,row]⟩)
theorem WW{nm z:Str}(T':az [(nm,[z,z])]):Pl [(nm,[z,z])]:=
 Lj (e1:=(0,0)) (e2:=(0,1)) (z:=z) T' rfl rfl rfl (by decide) (.inr ⟨rfl,by simp [left,row],by simp [left,row]⟩)
theorem WX{n m:Net}{g:End->End}(T:az n)(T':az m)(hl:m.length=n.length)(ht:(ag m).length=(ag n).length)(dE:∀ e∈ends n,aN m (g e)=aN n e)(inj:∀ a∈ends n,∀ b∈ends n,g a=g b->a=b)
  (lf:∀ e∈ends n,left m (g e)=g (left n e)) (P:Pl n):Pl m:=by
 rcases P with ⟨e,h⟩ | ⟨Ls,d,eu⟩
 ·exact .inl ⟨Bb.mp (by rw [ht,e];rfl),by rw [hl,h]⟩
 ·have nd:((ends n).map g).Nodup:=by
   have:∀(l:List End),(∀ x∈l,x∈ends n)->l.Nodup->(l.map g).Nodup:=by
    intro l
    induction l with
    | nil=>intro _ _;exact Ck
    | cons x l ih=>
     intro hs h;have h:=Bf.mp h;rw [Ap];refine Bf.mpr ⟨λhx=>?_,ih (λy hy=>hs y<|Af _ hy) h.2⟩;obtain⟨y,hy,e⟩:=An.mp hx;have:=inj y (hs y<|Af _ hy) x (hs x Ad) e;exact h.1<|this ▸ hy
   exact this _ (λx hx=>hx)<|lJ n
  have pm:((ends n).map g).Perm (ends m):=by
   refine rT nd (λa ha=>?_) (by rw [Aa,ik,ik,ht];exact Am _);obtain⟨x,hx,rfl⟩:=An.mp ha;obtain⟨y,hy⟩:=af.mp hx;exact af.mpr ⟨y,by rw [dE x hx];exact hy⟩
  refine .inr ⟨_,d.carry (f':=step m) (g:=g) (λx hx=>?_) pm<|lJ m,by rw [Aa,hl,ht];exact eu⟩;obtain⟨y,hy⟩:=af.mp hx;obtain⟨h1,_,h3⟩:=fZ T hy;have ho:other n x∈ends n:=af.mpr ⟨y,h1⟩;have:other m (g x)=g (other n x):=jg T' (by rw [dE x hx];exact hy) (by rw [dE _ ho];exact h1) λh=>h3 (inj _ hx _ ho h).symm;unfold step;rw [this];exact lf _ ho
def lX(i len q:Nat):Nat:=if i<=q then q - i else q+len - i
def dn(N j i len:Nat)(e:End):End:=if e.1 < j then e else if e.1=j then(N - 1,lX i len e.2) else(e.1 - 1,e.2)
theorem Ln{a:Net}{j:Nat}{x:Str×List Str}(hj:j < a.length)(r:Nat)(hr:r < a.length):row (a.eraseIdx j++[x]) (if r < j then r else if r=j then a.length - 1 else r - 1)=if r=j then x.2 else row a r:=by
 have le:(a.eraseIdx j).length=a.length - 1:=by rw [Ey,BL hj]
 by_cases h1:r < j
 ·rw [BL h1,BK (by omega),lW<|by rw [le];omega];unfold row;rw [Gg,BL h1]
 ·rw [BK h1]
  by_cases h2:r=j
  ·rw [BL h2,BL h2,<- le,wv]
  ·rw [BK h2,BK h2,lW<|by rw [le];omega];unfold row;rw [Gg,BK (by omega),show r - 1+1=r by omega]
theorem WY{i len q:Nat}(hi:i < len)(hq:q < len):(lX i len q+1) % len=lX i len ((q+1) % len):=by
 unfold lX
 by_cases k:q+1 < len
 ·rw [Cf k]
  by_cases h:i<=q
  ·rw [BL h,BL (by omega),Cf<|by omega];omega
  ·rw [BK h]
   by_cases h2:q+1=i
   ·rw [BL (by omega),show q+len - i+1=len by omega,Ef];omega
   ·rw [BK (by omega),Cf<|by omega];omega
 ·have e:q+1=len:=by omega
  rw [e,Ef,BL<|by omega]
  by_cases h:i=0
  ·rw [BL (by omega),show q - i+1=len by omega,Ef];omega
  ·rw [BK (by omega),Cf<|by omega];omega
theorem WZ{l:List Str}{i q:Nat}(hi:i < l.length)(hq:q < l.length):(l.drop i++l.take i)[lX i l.length q]?=l[q]?:=by
 unfold lX
 by_cases h:i<=q
 ·rw [BL h,Ay (by rw [Cz];omega),Gd,show i+(q - i)=q by omega]
 ·rw [BK h,Bc (by rw [Cz];omega),Cz,Da (by omega),show q+l.length - i - (l.length - i)=q by omega]
theorem Lq{a:Net}{j i:Nat}{x:Str}(hj:j < a.length)(hi:i < max 1 (row a j).length):∃ g:End->End,(∀ e∈ends a,aN (a.eraseIdx j++[(x,(row a j).drop i++(row a j).take i)]) (g e)=aN a e)/\(∀ b∈ends a,∀ c∈ends a,g b=g c->b=c) /\
  ∀ e∈ends a,left (a.eraseIdx j++[(x,(row a j).drop i++(row a j).take i)]) (g e)=g (left a e):=by
 have fst:∀ e:End,(dn a.length j i (row a j).length e).1=if e.1 < j then e.1 else if e.1=j then a.length - 1 else e.1 - 1:=λe=>by
  unfold dn
  by_cases h:e.1 < j
  ·rw [BL h,BL h]
  ·rw [BK h,BK h]
   by_cases h2:e.1=j
   ·rw [BL h2,BL h2]
   ·rw [BK h2,BK h2]
 have snd:∀ e:End,(dn a.length j i (row a j).length e).2=if e.1=j then lX i (row a j).length e.2 else e.2:=λe=>by
  unfold dn
  by_cases h:e.1 < j
  ·rw [BL h,BK<|by omega]
  ·rw [BK h]
   by_cases h2:e.1=j
   ·rw [BL h2,BL h2]
   ·rw [BK h2,BK h2]
 have Lr:∀ e:End,e.1 < a.length->row (a.eraseIdx j++[(x,(row a j).drop i++(row a j).take i)]) (dn a.length j i (row a j).length e).1=if e.1=j then(row a j).drop i++(row a j).take i else row a e.1:=λe he=>by
  rw [fst,Ln hj e.1 he]
 refine⟨dn a.length j i (row a j).length,λe he=>?_,λb hb c hc h=>?_,λe he=>?_⟩
 ·have r:=dX he;unfold aN;rw [Lr e r.1,snd]
  by_cases h:e.1=j
  ·rw [BL h,BL h,<- h,WZ (by have:=hi;rw [<- h] at this;omega) r.2]
  ·rw [BK h,BK h]
 ·have rb:=dX hb;have rc:=dX hc;have h1:=BZ Prod.fst h;have h2:=BZ Prod.snd h;rw [fst,fst] at h1;rw [snd,snd] at h2
  by_cases p:b.1=j
  ·by_cases q:c.1=j
   ·rw [BL p,BL q] at h2;refine DY (by rw [p,q]) ?_;have rb:=rb.2;have rc:=rc.2;rw [p] at rb;rw [q] at rc;unfold lX at h2
    by_cases u:i<=b.2
    ·rw [BL u] at h2
     by_cases v:i<=c.2
     ·rw [BL v] at h2;omega
     ·rw [BK v] at h2;omega
    ·rw [BK u] at h2
     by_cases v:i<=c.2
     ·rw [BL v] at h2;omega
     ·rw [BK v] at h2;omega
   ·exfalso
    rw [BK (by omega),BL p] at h1;have:=rc.1
    by_cases u:c.1 < j
    ·rw [BL u] at h1;omega
    ·rw [BK u,BK q] at h1;omega
  ·by_cases q:c.1=j
   ·exfalso
    have:=rb.1;rw [BK (show ¬ c.1 < j by omega),BL q] at h1
    by_cases u:b.1 < j
    ·rw [BL u] at h1;omega
    ·rw [BK u,BK p] at h1;omega
   ·rw [BK p,BK q] at h2;refine DY ?_ h2;rw [BK p,BK q] at h1
    by_cases u:b.1 < j
    ·rw [BL u] at h1
     by_cases v:c.1 < j
     ·rw [BL v] at h1;exact h1
     ·rw [BK v] at h1;omega
    ·rw [BK u] at h1
     by_cases v:c.1 < j
     ·rw [BL v] at h1;omega
     ·rw [BK v] at h1;omega
 ·have r:=dX he;have L1:(left a e).1=e.1:=rfl;have L2:(left a e).2=(e.2+1) % (row a e.1).length:=rfl;refine DY ?_ ?_
  ·show(dn a.length j i (row a j).length e).1=(dn a.length j i (row a j).length<|left a e).1;rw [fst,fst,L1]
  ·show((dn a.length j i (row a j).length e).2+1) % (row _ (dn a.length j i (row a j).length e).1).length=(dn a.length j i (row a j).length<|left a e).2;rw [Lr e r.1,snd,snd,L1,L2]
   by_cases h:e.1=j
   ·rw [BL h,BL h,BL h,Ag,Cz,Bl];have r2:=r.2;rw [h] at r2 ⊢;rw [show(row a j).length - i+min i (row a j).length=(row a j).length by omega];exact WY (by omega) r2
   ·rw [BK h,BK h,BK h]
theorem W0{a:Net}{j i:Nat}{x:Str}(hj:j < a.length)(hi:i < max 1 (row a j).length)(T:az a) (T':az<|a.eraseIdx j++[(x,(row a j).drop i++(row a j).take i)])
  (ht:(ag<|a.eraseIdx j++[(x,(row a j).drop i++(row a j).take i)]).length=(ag a).length) (P:Pl a):Pl (a.eraseIdx j++[(x,(row a j).drop i++(row a j).take i)]):=by
 obtain⟨g,h1,h2,h3⟩:=Lq (x:=x) hj hi;exact WX (g:=g) T T' (by rw [Ag,Ey,BL hj,Ct];omega) ht h1 h2 h3 P
theorem W1{α:Type}(f:α->α)(a:α):∀ k,it f k (f a)=it f (k+1) a
 | 0=>rfl
 | k+1=>by show f (it f k<|f a)=f (it f (k+1) a);rw [W1 f a k]
theorem Lv(n:Net)(e:End):∀ k,eQ (step n) (fl n e k) e<|it (step n) k e
 | 0=>rfl
 | k+1=>by
  rw [K8];exact bE.mpr ⟨_,Lv n e k,rfl,rfl⟩
theorem rV{n:Net}(T:az n){e:End}(h:e∈ends n):e∈face n e/\eQ (step n) (face n e) e e:=by
 have f:=kn T h;have h0:=f.at' 0 f.pos;refine⟨Al h0,?_⟩;have:=Lv n e<|iq n e;have e2:face n e=fl n e (iq n e):=rfl;have hl:(face n e).length=iq n e:=by rw [e2,lS]
 rw [<- hl,f.back,hl] at this;exact this
theorem W2{n:Net}(T:az n){e:End}(h:e∈ends n):∀ i j,it (step n) i e=it (step n) (i+j) e->it (step n) j e=e:=by
 have hf:∀ a∈ends n,step n a∈ends n:=λa ha=>ki T ha;intro i
 induction i with
 | zero=>intro j e;rw [Fg] at e;exact e.symm
 | succ i ih=>
  intro j e;refine ih j ?_;rw [show i+1+j=(i+j)+1 by omega] at e;exact vI T (i5 hf h i) (i5 hf h<|i+j) e
theorem W3{n:Net}(T:az n){e:End}(h:e∈ends n):(face n e).Nodup:=by
 have f:=kn T h;unfold List.Nodup;rw [Bd];intro i j hi hj eV q;have a:=f.at' i hi;have b:=f.at' j hj;rw [Ab hi] at a;rw [Ab hj] at b;have a:=Option.some.inj a;have b:=Option.some.inj b;rw [q,b] at a;refine f.first (j - i) (by omega) (by omega) (W2 T h i (j - i) ?_);rw [show i+(j - i)=j by omega];exact a.symm
def lx(a b:End):Prop:=a.1 < b.1\/(a.1=b.1/\a.2 < b.2)
theorem Lw(r:Nat):∀(ts:List Str) (p:Nat),((aU r ts p).map (·.2)).Pairwise lx
 | [],p=>List.Pairwise.nil
 | t :: ts,p=>by
  show(((r,p):End) :: (aU r ts<|p+1).map (·.2)).Pairwise lx;refine List.Pairwise.cons (λb hb=>?_)<|Lw r ts<|p+1;obtain⟨⟨z,e⟩,hx,rfl⟩:=An.mp hb;obtain⟨h1,h2,_⟩:=aX.mp hx;exact .inr ⟨h1.symm,by show p < e.2;omega⟩
theorem Lx:∀(n:Net) (k:Nat),((c6 k n).map (·.2)).Pairwise lx
 | [],k=>List.Pairwise.nil
 | a :: n,k=>by
  unfold c6;rw [Ak,Gr];refine⟨Lw k a.2 0,Lx n<|k+1,λx hx y hy=>?_⟩;obtain⟨⟨z,e⟩,h1,rfl⟩:=An.mp hx;obtain⟨⟨z',e'⟩,h2,rfl⟩:=An.mp hy;have q1:=(aX.mp h1).1;have q2:=(bu.mp h2).1;exact .inl<|by show e.1 < e'.1;omega
theorem W4(n:Net):(ends n).Pairwise lx:=Lx n 0
theorem Ly{a b:End}(h:lx a b):¬ lx b a:=by
 unfold lx at *;omega
def Told(n:Net)(told:List End):Prop:=∀ x∈told,step n x∈told
theorem W5{n:Net}(T:az n){told:List End}(hc:Told n told){e:End}(h:e∈ends n)(hn:e∉told):∀ c∈face n e,c∉told:=by
 intro c W6 W7;obtain⟨he,p⟩:=rV T h;obtain⟨A,B,q⟩:=Fj W6;rw [q] at p;obtain⟨m,p1,p2⟩:=bE.mp p;have e1:c=m:=p2.1;subst e1;have:∀(l:List End) (a b:End),eQ (step n) l a b->a∈told->b∈told:=by
  intro l
  induction l with
  | nil=>intro a b h ha;rw [<- (show a=b from h)];exact ha
  | cons x l ih=>intro a b h ha;exact ih _ _ h.2<|hc _<|h.1 ▸ ha
 exact hn<|this _ _ _ p2 W7
theorem W8{n:Net}(T:az n){told:List End}(hc:Told n told){e:End}(h:e∈ends n):Told n (told++face n e):=by
 intro x hx
 rcases Aq.mp hx with q | q
 ·exact Be _<|hc x q
 ·obtain⟨he,p⟩:=rV T h;exact Ar _<|wq p he q
structure rW(n:Net)(es told:List End)(Fs:List<|List End):Prop where
 face:∀ w∈Fs,∃ e∈es,w=Nt.face n e/\e∈ends n/\∀ c∈w,¬ lx c e
 cov:∀ e∈es,e∈told\/∃ w∈Fs,e∈w
 nd:Fs.flatten.Nodup
 out:∀ w∈Fs,∀ c∈w,c∉told
 ord:Fs.Pairwise λv w=>∀ a b,v[0]?=some a->w[0]?=some b->lx a b
theorem A9{n:Net}(T:az n):∀(es told pre:List End),ends n=pre++es->(∀ x∈pre,x∈told)->Told n told->rW n es told (eO n es told)
 | [],told,pre,_,_,_=>by
  unfold eO;exact⟨λw hw=>(nomatch hw),λe he=>(nomatch he),Ck,λw hw=>(nomatch hw),List.Pairwise.nil⟩
 | e :: r,told,pre,hE,hp,hc=>by
  have nY:ends n=(pre++[e])++r:=by rw [hE,Aw];rfl
  have he:e∈ends n:=by rw [hE];exact Ar _ Ad
  have cU:=W4 n;rw [hE,Gr] at cU;have aM:=(Dk.mp cU.2.1).1;unfold eO
  split
  ·rename_i ht;have I:=A9 T r told (pre++[e]) nY (λx hx=>by
    rcases Aq.mp hx with q | q
    ·exact hp x q
    ·rw [Aj] at q;rw [q];exact ht) hc
   exact⟨λw hw=>by obtain⟨a,h1,h2⟩:=I.face w hw;exact⟨a,Af _ h1,h2⟩,λx hx=>by
    rcases Ah.mp hx with rfl | hx
    ·exact .inl ht
    ·exact I.cov x hx,I.nd,I.out,I.ord⟩
  ·rename_i ht;have fp:=rV T he;have ap:=W5 T hc he ht;have I:=A9 T r (told++face n e) (pre++[e]) nY (λx hx=>by
    rcases Aq.mp hx with q | q
    ·exact Be _<|hp x q
    ·rw [Aj] at q;rw [q];exact Ar _ fp.1)<|W8 T hc he
   refine⟨λw hw=>?_,λx hx=>?_,?_,λw hw c rX=>?_,?_⟩
   ·rcases Ah.mp hw with rfl | hw
    ·refine⟨e,Ad,rfl,he,λc rX q=>?_⟩;have h1:=rR T he c rX;rw [hE] at h1
     rcases Aq.mp h1 with h1 | h1
     ·exact ap c rX<|hp c h1
     ·rcases Ah.mp h1 with rfl | h1
      ·exact Ly q q
      ·exact Ly q<|aM c h1
    ·obtain⟨a,h1,h2⟩:=I.face w hw;exact⟨a,Af _ h1,h2⟩
   ·rcases Ah.mp hx with rfl | hx
    ·exact .inr ⟨_,Ad,fp.1⟩
    ·rcases I.cov x hx with q | ⟨w,h1,h2⟩
     ·rcases Aq.mp q with q | q
      ·exact .inl q
      ·exact .inr ⟨_,Ad,q⟩
     ·exact .inr ⟨w,Af _ h1,h2⟩
   ·rw [Cr,Cc];refine⟨W3 T he,I.nd,λa ha b hb q=>?_⟩;obtain⟨w,hw,W9⟩:=Dm.mp hb;exact I.out w hw b W9<|Ar _<|q ▸ ha
   ·rcases Ah.mp hw with rfl | hw
    ·exact ap c rX
    ·exact λq=>I.out w hw c rX<|Be _ q
   ·refine List.Pairwise.cons (λw hw a b ha hb=>?_) I.ord;obtain⟨e',h1,rfl,h2,_⟩:=I.face w hw;have f1:=(kn T he).at' 0 (kn T he).pos;have f2:=(kn T h2).at' 0 (kn T h2).pos;rw [ha] at f1;rw [hb] at f2;rw [Option.some.inj f1,Option.some.inj f2];exact aM e' h1
theorem BA{n:Net}(T:az n)(h0:ends n≠[]):rW n (ends n) [] (bq n):=by
 unfold bq;rw [BK h0];exact A9 T (ends n) [] [] rfl (λx hx=>by cases hx) (λx hx=>by cases hx)
theorem Lz{n:Net}(T:az n)(h0:ends n≠[]):Dec (step n) (ends n) (bq n):=by
 have g:=BA T h0;refine⟨λl hl=>?_,?_,lJ n⟩
 ·obtain⟨e,_,rfl,he,_⟩:=g.face l hl;exact⟨e,rV T he⟩
 ·refine rT g.nd (λz hz=>?_)<|bS (lJ n) λz hz=>?_
  ·obtain⟨w,hw,Xa⟩:=Dm.mp hz;obtain⟨e,_,rfl,he,_⟩:=g.face w hw;exact rR T he z Xa
  ·rcases g.cov z hz with q | ⟨w,hw,q⟩
   ·cases q
   ·exact Dm.mpr ⟨w,hw,q⟩
theorem wx{n m:Net}{z:Str}(hp:(ag m).Perm<|z :: z :: ag n)(T:az n)(hz:z∉ag n):az m:=by
 intro y hy;rw [hp.count_eq,Dg,Dg]
 by_cases e:z=y
 ·subst e;rw [List.count_eq_zero.mpr hz];simp
 ·have hy:=hp.mem_iff.mp hy
  rcases Ah.mp hy with h | hy
  ·exact absurd h.symm e
  ·rcases Ah.mp hy with h | hy
   ·exact absurd h.symm e
   ·rw [T y hy];have:(z == y)=false:=by simpa using e
    rw [this];rfl
theorem pO{nm:Str}{c:End}(h:dP [(nm,[])] c):c=(0,0):=by
 obtain⟨h1,h2⟩:=h;have h1:c.1 < 1:=h1;have e:c.1=0:=by omega
 have h2:c.2 < max 1 (row [(nm,[])] c.1).length:=h2;rw [e] at h2;have h2:c.2 < 1:=h2;exact DY e<|by show c.2=0;omega
theorem wy{n:Net}(F:Full n):(∃ nm,n=[(nm,[])])\/row n 0≠[]:=by
 rcases F with h | ⟨h1,h2⟩
 ·exact .inl h
 ·exact .inr<|h2 0<|Cp.mpr h1
theorem Xb{n:Net}{c:End}{z pt:Str}(T:az n)(F:Full n)(hz:z∉ag n)(hc:dP n c) (hp:(ag<|ins n c z++[(pt,[z])]).Perm<|z :: z :: ag n) (P:Pl n):Pl (ins n c z++[(pt,[z])]):=by
 have T':=wx hp T hz
 rcases wy F with ⟨nm,rfl⟩ | h0
 ·have:=pO hc;subst this;exact WV T'
 ·exact WU T T' (F.cB h0 hc) P
theorem Xc{n:Net}{k1 k2:End}{z:Str}(T:az n)(F:Full n)(hz:z∉ag n)(h1:dP n k1)(h2:dP n k2) (hp:(ag<|ins (ins n k1 z) k2 z).Perm<|z :: z :: ag n) (ord:k2=k1\/sh k1 k2=k2) (same:(∃ k,it (step n) k k1=k2)\/∃ k,it (step n) k k2=k1) (P:Pl n):Pl (ins (ins n k1 z) k2 z):=by
 have T':=wx hp T hz
 rcases wy F with ⟨nm,rfl⟩ | h0
 ·have:=pO h1;subst this;have:=pO h2;subst this;exact WW T'
 ·exact WT T T' (F.cB h0 h1) (F.cB h0 h2) ord same P
theorem Xd{a b:End}(h:bB.lexLt ((a.1:Int),(a.2:Int)) ((b.1:Int),(b.2:Int))=true):sh b a=a:=by
 unfold bB.lexLt at h;unfold sh;refine BK λq=>?_;rw [BL<|by rw [q.1]] at h;have:=CG h;have q2:=q.2;omega
theorem Xe{a b:End}(h:bB.lexLt ((a.1:Int),(a.2:Int)) ((b.1:Int),(b.2:Int))=false):b=a\/sh a b=b:=by
 unfold bB.lexLt at h
 by_cases e:(a.1:Int)=(b.1:Int)
 ·rw [BL e] at h;have h:=of_decide_eq_false h
  by_cases e2:a.2=b.2
  ·exact .inl<|DY (by omega) e2.symm
  ·refine .inr<|BK λq=>?_;have q2:=q.2;have h:¬((a.2:Int) < (b.2:Int)):=h;omega
 ·exact .inr<|BK λq=>e<|by rw [q.1]
theorem LA(a b:Net):ag (a++b)=ag a++ag b:=by
 unfold ag;rw [Dr]
theorem Xf{n n2 n0:Net}{j i:Nat}{x:Str}(hj:j < n.length)(hi:i < max 1 (row n j).length)(T0:az n0)(pt:(ag n++ag n2).Perm<|ag n0)
  (fC:(ag (n.eraseIdx j)++ag (n2++[(x,(row n j).drop i++(row n j).take i)])).Perm<|ag n0) (P:Pl<|n++n2):Pl (n.eraseIdx j++(n2++[(x,(row n j).drop i++(row n j).take i)])):=by
 have tw:∀ m:Net,(ag m).Perm (ag n0)->az m:=λm p y hy=>by rw [p.count_eq];exact T0 y<|p.mem_iff.mp hy
 rw [<- LA] at pt fC;have er:row (n++n2) j=row n j:=lW hj;have ee:n.eraseIdx j++(n2++[(x,(row n j).drop i++(row n j).take i)])=(n++n2).eraseIdx j++[(x,(row (n++n2) j).drop i++(row (n++n2) j).take i)]:=by
  rw [JC hj,Aw,er]
 rw [ee] at fC ⊢;exact W0 (by rw [Ag];omega) (by rw [er];exact hi) (tw _ pt) (tw _ fC) (by rw [fC.length_eq,pt.length_eq]) P
end Nt
namespace Nt
theorem Xg{n:Net}{e c:End}{fs:List End}(f:cf n e fs)(h:c∈fs):∃ k,it (step n) k e=c:=by
 obtain⟨i,hi,e1⟩:=Bp.mp h;have:=f.at' i hi;rw [Ab hi,e1] at this;exact⟨i,(Option.some.inj this).symm⟩
open PySem
def av:List Bool->Bool
 | []=>false
 | b :: l=>b ^^ av l
theorem pP:∀(a b:List Bool),av (a++b)=(av a ^^ av b)
 | [],b=>by simp [av]
 | x :: a,b=>by
  show(x ^^ av (a++b))=((x ^^ av a) ^^ av b);rw [pP a b,Bool.xor_assoc]
theorem LD{a b:List Bool}(h:a.Perm b):av a=av b:=by
 induction h with
 | nil=>rfl
 | cons x _ ih=>show(x ^^ _)=(x ^^ _);rw [ih]
 | swap x y l=>show(y ^^ (x ^^ av l))=(x ^^ (y ^^ av l));cases x <;> cases y <;> simp
 | trans _ _ h1 h2=>exact h1.trans h2
theorem iN{α:Type}(f g:α->Bool):∀ l:List α,av (l.map λx=>f x ^^ g x)=(av (l.map f) ^^ av (l.map g))
 | []=>rfl
 | x :: l=>by
  show((f x ^^ g x) ^^ av (l.map λx=>f x ^^ g x))=((f x ^^ av (l.map f)) ^^ (g x ^^ av (l.map g)));rw [iN f g l];cases f x <;> cases g x <;> cases av (l.map f) <;> cases av (l.map g) <;> rfl
def bZ(n:Net)(s:Str->Bool):Prop:=∀ r,av ((row n r).map s)=false
structure aS(n:Net)(s:Str->Bool)(χ:End->Bool):Prop where
 go:∀ e∈ends n,χ (step n e)=χ e
 dE:∀ e z,aN n e=some z->s z=(χ e ^^ χ (other n e))
def RS(n:Net):Prop:=∀ s:Str->Bool,bZ n s->∃ χ,aS n s χ
theorem LI(n:Net)(r:Nat)(s:Str->Bool)(g:End->Bool)(h:∀ p z,(row n r)[p]?=some z->s z=g (r,p)):(row n r).map s=(List.range (row n r).length).map λp=>g (r,p):=by
 apply Dq;intro p;rw [Ae,Ae]
 by_cases hp:p < (row n r).length
 ·rw [Ab hp,Cy hp];exact BZ some<|h p _<|Ab hp
 ·rw [By (by omega),By<|by simp;omega];rfl
theorem Xh(f:Nat->Bool)(m:Nat):av ((List.range m).map λp=>f<|(p+1) % m)=av ((List.range m).map f):=by
 cases m with
 | zero=>rfl
 | succ k=>
  have e:(List.range<|k+1).map (λp=>f<|(p+1) % (k+1))=((List.range k).map λp=>f<|p+1)++[f 0]:=by
   rw [Er,Ak]
   congr 1
   ·refine At λp hp=>?_;have:=Br.mp hp;show f ((p+1) % (k+1))=f (p+1);rw [Cf<|by omega]
   ·simp
  rw [e,Gh,Ap,Bj,pP];show _=(f 0 ^^ av ((List.range k).map<|f ∘ Nat.succ));show(av ((List.range k).map λp=>f<|p+1) ^^ (f 0 ^^ false))=(f 0 ^^ av ((List.range k).map λp=>f<|p+1));cases f 0 <;> cases av ((List.range k).map λp=>f<|p+1) <;> rfl
theorem aS.even{n:Net}(T:az n){s:Str->Bool}{χ:End->Bool}(h:aS n s χ):bZ n s:=by
 intro r;rw [LI n r s (λe=>χ e ^^ χ (other n e)) λp z hz=>h.dE (r,p) z hz];rw [iN (λp=>χ (r,p)) λp=>χ<|other n (r,p)];have e:((List.range (row n r).length).map λp=>χ<|other n (r,p))=(List.range (row n r).length).map λp=>χ (r,(p+1) % (row n r).length):=by
  refine At λp hp=>?_;have hp:=Br.mp hp;obtain⟨z,hz⟩:=vH (n:=n) (e:=(r,p)) hp;obtain⟨h1,h2,_⟩:=fZ T hz;have:=h.go (other n (r,p))<|af.mpr ⟨z,h1⟩;rw [<- this];show χ (left n (other n<|other n (r,p)))=_;rw [h2];rfl
 rw [e,Xh λp=>χ (r,p)];cases av ((List.range (row n r).length).map λp=>χ (r,p)) <;> rfl
theorem aS.xor{n:Net}{s t:Str->Bool}{χ ψ:End->Bool}(h:aS n s χ)(g:aS n t ψ):aS n (λz=>s z ^^ t z) (λe=>χ e ^^ ψ e):=by
 refine⟨λe he=>?_,λe z hz=>?_⟩
 ·rw [h.go e he,g.go e he]
 ·show(s z ^^ t z)=((χ e ^^ ψ e) ^^ (χ (other n e) ^^ ψ (other n e)));rw [h.dE e z hz,g.dE e z hz];cases χ e <;> cases ψ e <;> cases χ (other n e) <;> cases ψ (other n e) <;> rfl
theorem bZ.xor{n:Net}{s t:Str->Bool}(h:bZ n s)(g:bZ n t):bZ n (λz=>s z ^^ t z):=λr=>by
 rw [iN s t,h r,g r];rfl
section
variable{n m:Net}{g:End->End}{e1 e2:End}{z:Str}
theorem dD.mark(p:dD n m g e1 e2 z)(χ:End->Bool)(a:Bool):∃ χ':End->Bool,(∀ e∈ends n,χ' (g e)=χ e)/\χ' e1=a/\χ' e2=a:=by
 refine⟨λx=>if x=e1 then a else if x=e2 then a else match (ends n).find? (λe=>decide (g e=x)) with | some e=>χ e | none=>false,λe he=>?_,?_,?_⟩
 ·show(if g e=e1 then a else if g e=e2 then a else match (ends n).find? (λe'=>decide (g e'=g e)) with | some e=>χ e | none=>false)=χ e;rw [BK<|p.n1 e he,BK<|p.n2 e he];cases hf:(ends n).find? (λe'=>decide (g e'=g e)) with
  | none=>exact absurd (BW (rfl:g e=g e))<|by simpa using Fh.mp hf e he
  | some e'=>
   have h5:=Gv hf;have h5:g e'=g e:=CG h5;rw [p.inj _ _ h5]
 ·simp
 ·simp
theorem dD.jh(p:dD n m g e1 e2 z)(T:az n)(T':az m){s:Str->Bool}{χ:End->Bool}(h:aS n s χ)(hz:s z=false){a:Bool}
  (st:∀ x∈ends n,step m (g x)=g (step n x)\/((step m (g x)=e1\/step m (g x)=e2)/\χ (step n x)=a))
  (s1:step m e1=e1\/step m e1=e2\/∃ k∈ends n,step m e1=g k/\χ k=a) (s2:step m e2=e1\/step m e2=e2\/∃ k∈ends n,step m e2=g k/\χ k=a):∃ χ',aS m s χ':=by
 obtain⟨χ',h1,h2,h3⟩:=p.mark χ a;have ji:∀ x∈ends m,(∃ e∈ends n,x=g e)\/x=e1\/x=e2:=λx hx=>by
  have:=p.perm.mem_iff.mpr hx
  rcases Aq.mp this with q | q
  ·obtain⟨e,he,rfl⟩:=An.mp q;exact .inl ⟨e,he,rfl⟩
  ·simp only [Ah,Bm,DR] at q;exact .inr q
 refine⟨χ',λx hx=>?_,λx y hy=>?_⟩
 ·rcases ji x hx with ⟨e,he,rfl⟩ | rfl | rfl
  ·rw [h1 e he]
   rcases st e he with q | ⟨q,qa⟩
   ·rw [q,h1 _<|ki T he,h.go e he]
   ·rw [h.go e he] at qa
    rcases q with q | q
    ·rw [q,h2,qa]
    ·rw [q,h3,qa]
  ·rcases s1 with q | q | ⟨k,hk,q,qa⟩
   ·rw [q]
   ·rw [q,h2,h3]
   ·rw [q,h1 k hk,h2,qa]
  ·rcases s2 with q | q | ⟨k,hk,q,qa⟩
   ·rw [q,h2,h3]
   ·rw [q]
   ·rw [q,h1 k hk,h3,qa]
 ·rcases ji x (af.mpr ⟨y,hy⟩) with ⟨e,he,rfl⟩ | rfl | rfl
  ·rw [p.dE e he] at hy;obtain⟨o1,_,_⟩:=fZ T hy;rw [p.aE T T' he,h1 e he,h1 _<|af.mpr ⟨y,o1⟩];exact h.dE e y hy
  ·rw [p.t1] at hy;cases hy;rw [p.o1 T',h2,h3,hz];cases a <;> rfl
  ·rw [p.t2] at hy;cases hy;rw [p.o2 T',h2,h3,hz];cases a <;> rfl
theorem LJ(T':az m){ψ:End->Bool}(hψ:∀ e∈ends m,ψ (step m e)=ψ e)(t1:aN m e1=some z)(ho:other m e1=e2)(ne:ψ e1≠ψ e2)(h0:∀ s,bZ m s->s z=false->∃ χ,aS m s χ):RS m:=by
 intro s hs
 by_cases hz:s z=false
 ·exact h0 s hs hz
 ·have hz:s z=true:=by cases h:s z with | true=>rfl | false=>exact absurd h hz
  let t:Str->Bool:=λy=>match (ends m).find? (λe=>decide (aN m e=some y)) with | some e=>ψ e ^^ ψ (other m e) | none=>false
  have ht:aS m t ψ:=by
   refine⟨hψ,λe y hy=>?_⟩;show(match (ends m).find? (λe=>decide (aN m e=some y)) with | some e=>ψ e ^^ ψ (other m e) | none=>false)=_;cases hf:(ends m).find? (λe=>decide (aN m e=some y)) with
   | none=>exact absurd (BW hy)<|by simpa using Fh.mp hf e (af.mpr ⟨y,hy⟩)
   | some e'=>
    have h5:=Gv hf;have h':aN m e'=some y:=CG h5
    by_cases q:e'=e
    ·rw [q]
    ·have o1:=jg T' h' hy q;have o2:=jg T' hy h'<|Ne.symm q;show(ψ e' ^^ ψ (other m e'))=_;rw [o1,o2];cases ψ e <;> cases ψ e' <;> rfl
  have tz:t z=true:=by
   rw [ht.dE e1 z t1,ho];cases h1:ψ e1 <;> cases h2:ψ e2 <;> simp_all
  obtain⟨χ,hχ⟩:=h0 (λy=>s y ^^ t y) (hs.xor<|ht.even T') (by show(s z ^^ t z)=false;rw [hz,tz];rfl);have:=hχ.xor ht;refine⟨λe=>χ e ^^ ψ e,this.go,λe y hy=>?_⟩;rw [<- this.dE e y hy];show s y=((s y ^^ t y) ^^ t y);cases s y <;> cases t y <;> rfl
theorem BD{n:Net}{c:End}{z:Str}(hc:c.1 < n.length){s:Str->Bool}(hz:s z=false)(r:Nat):av ((row (ins n c z) r).map s)=av ((row n r).map s):=by
 rw [pJ n c z r hc]
 by_cases h:c.1=r
 ·rw [BL h,Ak,Ap,pP];show(av (((row n r).take c.2).map s) ^^ (s z ^^ av (((row n r).drop c.2).map s)))=_;rw [hz,Cg,<- pP,<- Ak,Cu]
 ·rw [BK h]
theorem Dec.mark{α:Type} [DecidableEq α] {f:α->α} {D:List α} {Ls:List (List α)} (d:Dec f D Ls) {l:List α} (hl:l∈Ls):∀ x∈D,(f x∈l↔x∈l):=by
 intro x hx;obtain⟨A,B,rfl⟩:=Fj hl;have d':Dec f D (l :: (A++B)):=⟨λk hk=>d.jf k (by
  rcases Ah.mp hk with rfl | hk
  ·exact hl
  ·rcases Aq.mp hk with q | q
   ·exact Be _ q
   ·exact Ar _<|Af _ q),by
  refine List.Perm.trans ?_ d.all;rw [Cr,Fx,Fx,Cr,<- Aw,<- Aw];exact(Cn).append_right _,d.nd⟩
 have cl:∀ k∈l :: (A++B),∀ x∈k,f x∈k:=λk hk x hx=>by
  obtain⟨c,hc,p⟩:=d'.jf k hk;exact wq p hc hx
 by_cases h:x∈l
 ·exact⟨λ_=>h,λ_=>cl l Ad x h⟩
 ·refine⟨λq=>?_,λq=>absurd q h⟩
  exfalso
  obtain⟨k,hk,LL⟩:=Dm.mp<|d'.all.mem_iff.mpr hx
  rcases Ah.mp hk with rfl | rp
  ·exact h LL
  ·exact d'.apart.2 k rp _ q<|cl k hk x LL
theorem BE{s:Str->Bool}{χ:End->Bool}(T:az n)(h:aS n s χ){a:End}(ha:a∈ends n):∀ k,χ (it (step n) k a)=χ a
 | 0=>rfl
 | k+1=>by
  show χ (step n<|it (step n) k a)=_;rw [h.go _<|i5 (λx hx=>ki T hx) ha k,BE T h ha k]
theorem Xi(p:dD n m g e1 e2 z)(T:az n)(T':az m){k1 k2:End}(h1:k1∈ends n)(h2:k2∈ends n)(ne:k2≠k1)(same:(∃ k,it (step n) k k1=k2)\/∃ k,it (step n) k k2=k1)
  (l1:left m e1=g k1) (l2:left m e2=g k2) (lf:∀ e∈ends n,left m (g e)=if left n e=k1 then e1 else if left n e=k2 then e2 else g (left n e))
  {Ls:List (List End)} (d:Dec (step n) (ends n) Ls) (ev:∀ s,bZ m s->s z=false->bZ n s) (R:RS n):RS m:=by
 have st:∀ x∈ends n,step m (g x)=if step n x=k1 then e1 else if step n x=k2 then e2 else g (step n x):=λx hx=>by
  unfold step;rw [p.aE T T' hx];exact lf _<|dN T hx
 have s1:step m e1=g k2:=by unfold step;rw [p.o1 T'];exact l2
 have s2:step m e2=g k1:=by unfold step;rw [p.o2 T'];exact l1
 obtain⟨l,Ms,hL,d⟩:=d.pick h1;have hk:=d.one h2 same ne;obtain⟨Lg,A8,d',w,hw,w2,w1⟩:=d.split (f':=step m) (g:=g) hk (e1:=e1) (e2:=e2) s1 s2
  (λx hx e=>by rw [st x hx,BL e]) (λx hx e=>by rw [st x hx,BK (by rw [e];exact ne),BL e]) (λx hx a b=>by rw [st x hx,BK a,BK b]) p.nd
 have dm:=d'.perm p.perm;refine LJ T' (ψ:=λx=>decide (x∈w)) (λx hx=>decide_eq_decide.mpr<|dm.mark hw x hx) p.t1 (p.o1 T') (by show decide (e1∈w)≠decide (e2∈w);rw [BR w1,BW w2];decide) λs hs hz=>?_;obtain⟨χ,hχ⟩:=R s<|ev s hs hz;have ek:χ k2=χ k1:=by
  rcases same with ⟨k,e⟩ | ⟨k,e⟩
  ·rw [<- e];exact BE T hχ h1 k
  ·rw [<- e];exact(BE T hχ h2 k).symm
 refine p.jh T T' hχ hz (a:=χ k1) (λx hx=>?_) (.inr<|.inr ⟨k2,h2,s1,ek⟩)<|.inr<|.inr ⟨k1,h1,s2,rfl⟩;rw [st x hx]
 by_cases c1:step n x=k1
 ·rw [BL c1];exact .inr ⟨.inl rfl,by rw [c1]⟩
 ·rw [BK c1]
  by_cases c2:step n x=k2
  ·rw [BL c2];exact .inr ⟨.inr rfl,by rw [c2,ek]⟩
  ·rw [BK c2];exact .inl rfl
theorem Xj(p:dD n m g e1 e2 z)(T:az n)(T':az m){c:End}(h1:c∈ends n)(l1:left m e1=g c)(l2:left m e2=e1)(lf:∀ e∈ends n,left m (g e)=if left n e=c then e2 else g (left n e))
  (ev:∀ s,bZ m s->s z=false->bZ n s) (R:RS n):RS m:=by
 have st:∀ x∈ends n,step m (g x)=if step n x=c then e2 else g (step n x):=λx hx=>by
  unfold step;rw [p.aE T T' hx];exact lf _<|dN T hx
 have s1:step m e1=e1:=by unfold step;rw [p.o1 T'];exact l2
 have s2:step m e2=g c:=by unfold step;rw [p.o2 T'];exact l1
 have wz:e1∈ends m:=af.mpr ⟨z,p.t1⟩;refine LJ T' (ψ:=λx=>decide (x=e1)) (λx hx=>?_) p.t1 (p.o1 T') (by show decide (e1=e1)≠decide (e2=e1);rw [BW rfl,BR p.ne.symm];decide) λs hs hz=>?_
 ·by_cases q:x=e1
  ·rw [q,s1]
  ·show decide (step m x=e1)=decide (x=e1);rw [BR q];exact BR λe=>q<|vI T' hx wz<|by rw [e,s1]
 obtain⟨χ,hχ⟩:=R s<|ev s hs hz;refine p.jh T T' hχ hz (a:=χ c) (λx hx=>?_) (.inl s1)<|.inr<|.inr ⟨c,h1,s2,rfl⟩;rw [st x hx]
 by_cases c1:step n x=c
 ·rw [BL c1];exact .inr ⟨.inr rfl,by rw [c1]⟩
 ·rw [BK c1];exact .inl rfl
theorem Xk(p:dD n m g e1 e2 z)(T:az n)(T':az m){c:End}(h1:c∈ends n)(l1:left m e1=g c)(l2:left m e2=e2)(lf:∀ e∈ends n,left m (g e)=if left n e=c then e1 else g (left n e))
  (hz:∀ s,bZ m s->s z=false) (ev:∀ s,bZ m s->s z=false->bZ n s) (R:RS n):RS m:=by
 have st:∀ x∈ends n,step m (g x)=if step n x=c then e1 else g (step n x):=λx hx=>by
  unfold step;rw [p.aE T T' hx];exact lf _<|dN T hx
 have s1:step m e1=e2:=by unfold step;rw [p.o1 T'];exact l2
 have s2:step m e2=g c:=by unfold step;rw [p.o2 T'];exact l1
 intro s hs;have hz:=hz s hs;obtain⟨χ,hχ⟩:=R s<|ev s hs hz;refine p.jh T T' hχ hz (a:=χ c) (λx hx=>?_) (.inr<|.inl s1)<|.inr<|.inr ⟨c,h1,s2,rfl⟩;rw [st x hx]
 by_cases c1:step n x=c
 ·rw [BL c1];exact .inr ⟨.inl rfl,by rw [c1]⟩
 ·rw [BK c1];exact .inl rfl
end
section
variable{n:Net}{z:Str}
theorem Xl{k1 k2:End}(T:az n)(T':az<|ins (ins n k1 z) k2 z)(h1:k1∈ends n)(h2:k2∈ends n)(ord:k2=k1\/sh k1 k2=k2)(same:(∃ k,it (step n) k k1=k2)\/∃ k,it (step n) k k2=k1)(P:Pl n)(R:RS n):RS (ins (ins n k1 z) k2 z):=by
 have r1:=dX h1;have r2:=dX h2;have p:=Lh (z:=z) (k1:=k1) (k2:=k2) ⟨r1.1,Cw r1.2⟩ ⟨r2.1,Cw r2.2⟩;have c2:k2.1 < (ins n k1 z).length:=by rw [fK];exact r2.1
 have rl:∀ i,(row n i).length<=(row (ins n k1 z) i).length:=λi=>by
  rw [pM r1.1<|Cw r1.2]
  split <;> omega
 have p2:k2.2 < (row (ins n k1 z) k2.1).length:=Bk r2.2<|rl _;have p1:k1.2 < (row (ins n k1 z) k1.1).length:=Bk r1.2<|rl _;have sl:∀ e∈ends n,(sh k1 e).2 < (row (ins n k1 z) (sh k1 e).1).length:=λe he=>by
  obtain⟨y,hy⟩:=af.mp he;exact fJ (z:=y)<|by rw [pN r1.1<|Cw r1.2];exact hy
 have l0:left (ins n k1 z) k1=sh k1 k1:=lV r1.1 r1.2;have ev:∀ s,bZ (ins (ins n k1 z) k2 z) s->s z=false->bZ n s:=λs hs hz r=>by
  rw [<- BD r1.1 hz r,<- BD c2 hz r];exact hs r
 by_cases e:k2=k1
 ·subst e;refine Xj p T T' h1 ?_ (lV c2 p2) (λe he=>?_) ev R
  ·rw [gI c2 p2 p1,l0,BK<|lU _ _]
  ·show left _ (sh k2<|sh k2 e)=_;rw [gI c2 p2<|sl e he,gI r1.1 r1.2 (dX he).2]
   by_cases q:left n e=k2
   ·rw [BL q,BL rfl,BL q]
   ·rw [BK q,BK<|lU _ _,BK q]
 ·have hs:sh k1 k2=k2:=ord.resolve_left e
  rcases P with ⟨t0,_⟩ | ⟨Ls,d,_⟩
  ·obtain⟨y,hy⟩:=af.mp h1;have:=ig hy;rw [t0] at this;cases this
  refine Xi p T T' h1 h2 e same ?_ ?_ (λe' he=>?_) d ev R
  ·rw [gI c2 p2 p1,l0,BK λq=>e<|lT (c:=k1)<|by rw [hs,q]]
  ·show left _ k2=sh k2 (sh k1 k2);rw [hs];exact lV c2 p2
  ·show left _ (sh k2<|sh k1 e')=if left n e'=k1 then sh k2 k1 else if left n e'=k2 then k2 else sh k2 (sh k1<|left n e');rw [gI c2 p2<|sl e' he,gI r1.1 r1.2 (dX he).2]
   by_cases q:left n e'=k1
   ·rw [BL q,BL q,BK λx=>e x.symm]
   ·rw [BK q,BK q]
    by_cases q2:left n e'=k2
    ·rw [BL q2,q2,hs,BL rfl]
    ·rw [BK q2,BK λx=>q2<|lT (c:=k1)<|by rw [x,hs]]
theorem Xm{c:End}{pt:Str}(T:az n)(T':az<|ins n c z++[(pt,[z])])(h1:c∈ends n)(R:RS n):RS (ins n c z++[(pt,[z])]):=by
 have r1:=dX h1;have p:=Li (z:=z) (c:=c) (pt:=pt) ⟨r1.1,Cw r1.2⟩;have la:∀ e:End,e.1 < n.length->left (ins n c z++[(pt,[z])]) e=left (ins n c z) e:=λe he=>by
  unfold left;rw [lW<|by rw [fK];exact he]
 have jj:=wv (a:=ins n c z) (x:=(pt,[z]));rw [fK] at jj;refine Xk p T T' h1 ?_ ?_ (λe he=>?_) (λs hs=>?_) (λs hs hz r=>?_) R
 ·rw [la _ r1.1];exact lV r1.1 r1.2
 ·unfold left;show(n.length,(0+1) % (row _ n.length).length)=_;rw [jj];exact BZ (Prod.mk _)<|Ef 1
 ·rw [la _<|by rw [ko];exact(dX he).1];exact gI r1.1 r1.2 (dX he).2
 ·have:=hs n.length;rw [jj] at this;have:(s z ^^ false)=false:=this
  simpa using this
 ·by_cases h:r < n.length
  ·have:=hs r;rw [lW (by rw [fK];exact h),BD r1.1 hz r] at this;exact this
  ·have:row n r=[]:=by
    unfold row;rw [By<|by omega];rfl
   rw [this];rfl
end
theorem Xn{nm:Str}:RS [(nm,[])]:=λs _=>⟨λ_=>false,λe he=>rfl,λe y hy=>by
 have:=ig hy;cases this⟩
theorem Xo{nm pt z:Str}(T':az [(nm,[z]),(pt,[z])]):RS [(nm,[z]),(pt,[z])]:=λs hs=>⟨λ_=>false,λe he=>rfl,λe y hy=>by
 have h:=ig hy;have:y=z:=by simpa [ag] using h
 rw [this];have:=hs 0;have:(s z ^^ false)=false:=this
 simpa using this⟩
theorem Xp{nm z:Str}(T':az [(nm,[z,z])]):RS [(nm,[z,z])]:=λs _=>by
 have t1:aN [(nm,[z,z])] (0,0)=some z:=rfl;have t2:aN [(nm,[z,z])] (0,1)=some z:=rfl;have o1:=jg T' t1 t2 (by decide);have o2:=jg T' t2 t1 (by decide);have hE:ends [(nm,[z,z])]=[(0,0),(0,1)]:=rfl;refine⟨λe=>decide (e=(0,0)) && s z,λe he=>?_,λe y hy=>?_⟩
 ·rw [hE] at he;simp only [Ah,Bm,DR] at he
  rcases he with rfl | rfl
  ·show(decide (left [(nm,[z,z])] (other [(nm,[z,z])] (0,0))=(0,0)) && s z)=_;rw [o1];simp [left,row]
  ·show(decide (left [(nm,[z,z])] (other [(nm,[z,z])] (0,1))=(0,0)) && s z)=_;rw [o2];simp [left,row]
 ·have h:=ig hy;have e1:y=z:=by simpa [ag] using h
  have he:=af.mpr ⟨y,hy⟩;rw [hE] at he;simp only [Ah,Bm,DR] at he;rw [e1]
  rcases he with rfl | rfl
  ·rw [o1];simp
  ·rw [o2];simp
def Fl(n:Net):Prop:=Pl n/\RS n
theorem Xq{nm:Str}:Fl [(nm,[])]:=⟨.inl ⟨rfl,rfl⟩,Xn⟩
theorem Xr{n:Net}{c:End}{z pt:Str}(T:az n)(F:Full n)(hz:z∉ag n)(hc:dP n c) (hp:(ag<|ins n c z++[(pt,[z])]).Perm<|z :: z :: ag n) (P:Fl n):Fl (ins n c z++[(pt,[z])]):=by
 refine⟨Xb T F hz hc hp P.1,?_⟩;have T':=wx hp T hz
 rcases wy F with ⟨nm,rfl⟩ | h0
 ·have:=pO hc;subst this;exact Xo T'
 ·exact Xm T T' (F.cB h0 hc) P.2
theorem Xs{n:Net}{k1 k2:End}{z:Str}(T:az n)(F:Full n)(hz:z∉ag n)(h1:dP n k1)(h2:dP n k2) (hp:(ag<|ins (ins n k1 z) k2 z).Perm<|z :: z :: ag n) (ord:k2=k1\/sh k1 k2=k2) (same:(∃ k,it (step n) k k1=k2)\/∃ k,it (step n) k k2=k1) (P:Fl n):Fl (ins (ins n k1 z) k2 z):=by
 refine⟨Xc T F hz h1 h2 hp ord same P.1,?_⟩;have T':=wx hp T hz
 rcases wy F with ⟨nm,rfl⟩ | h0
 ·have:=pO h1;subst this;have:=pO h2;subst this;exact Xp T'
 ·exact Xl T T' (F.cB h0 h1) (F.cB h0 h2) ord same P.1 P.2
theorem Xt{n m:Net}{g:End->End}(T:az n)(T':az m)(ht:(ag m).length=(ag n).length)(dE:∀ e∈ends n,aN m (g e)=aN n e)(inj:∀ a∈ends n,∀ b∈ends n,g a=g b->a=b)
  (lf:∀ e∈ends n,left m (g e)=g (left n e)) (ev:∀ s,bZ m s->bZ n s) (R:RS n):RS m:=by
 have rY:∀ x∈ends m,∃ e∈ends n,x=g e:=by
  have nd:((ends n).map g).Nodup:=by
   have:∀(l:List End),(∀ x∈l,x∈ends n)->l.Nodup->(l.map g).Nodup:=by
    intro l
    induction l with
    | nil=>intro _ _;exact Ck
    | cons x l ih=>
     intro hs h;have h:=Bf.mp h;rw [Ap];refine Bf.mpr ⟨λhx=>?_,ih (λy hy=>hs y<|Af _ hy) h.2⟩;obtain⟨y,hy,e⟩:=An.mp hx;have:=inj y (hs y<|Af _ hy) x (hs x Ad) e;exact h.1<|this ▸ hy
   exact this _ (λx hx=>hx)<|lJ n
  have pm:((ends n).map g).Perm (ends m):=by
   refine rT nd (λa ha=>?_) (by rw [Aa,ik,ik,ht];exact Am _);obtain⟨x,hx,rfl⟩:=An.mp ha;obtain⟨y,hy⟩:=af.mp hx;exact af.mpr ⟨y,by rw [dE x hx];exact hy⟩
  intro x hx;obtain⟨e,he,q⟩:=An.mp<|pm.mem_iff.mpr hx;exact⟨e,he,q.symm⟩
 intro s hs;obtain⟨χ,hχ⟩:=R s<|ev s hs
 let χ':End->Bool:=λx=>match (ends n).find? (λe=>decide (g e=x)) with | some e=>χ e | none=>false
 have h1:∀ e∈ends n,χ' (g e)=χ e:=λe he=>by
  show(match (ends n).find? (λe'=>decide (g e'=g e)) with | some e=>χ e | none=>false)=χ e;cases hf:(ends n).find? (λe'=>decide (g e'=g e)) with
  | none=>exact absurd (BW (rfl:g e=g e))<|by simpa using Fh.mp hf e he
  | some e'=>
   have h5:=Gv hf;have h5:g e'=g e:=CG h5;rw [inj _ (List.mem_of_find?_eq_some hf) _ he h5]
 have aE:∀ e∈ends n,other m (g e)=g (other n e):=λe he=>by
  obtain⟨y,hy⟩:=af.mp he;obtain⟨h1,_,h3⟩:=fZ T hy;have ho:other n e∈ends n:=af.mpr ⟨y,h1⟩;exact jg T' (by rw [dE e he];exact hy) (by rw [dE _ ho];exact h1) λh=>h3 (inj _ he _ ho h).symm
 refine⟨χ',λx hx=>?_,λx y hy=>?_⟩
 ·obtain⟨e,he,rfl⟩:=rY x hx;have:step m (g e)=g (step n e):=by
   unfold step;rw [aE e he];exact lf _<|dN T he
  rw [this,h1 _<|ki T he,h1 e he,hχ.go e he]
 ·obtain⟨e,he,rfl⟩:=rY x<|af.mpr ⟨y,hy⟩;rw [dE e he] at hy;rw [aE e he,h1 e he,h1 _<|dN T he];exact hχ.dE e y hy
theorem Xu{a:Net}{j i:Nat}{x:Str}(hj:j < a.length)(hi:i < max 1 (row a j).length)(T:az a) (T':az<|a.eraseIdx j++[(x,(row a j).drop i++(row a j).take i)])
  (ht:(ag<|a.eraseIdx j++[(x,(row a j).drop i++(row a j).take i)]).length=(ag a).length) (R:RS a):RS (a.eraseIdx j++[(x,(row a j).drop i++(row a j).take i)]):=by
 obtain⟨g,h1,h2,h3⟩:=Lq (x:=x) hj hi;refine Xt T T' ht h1 h2 h3 (λs hs r=>?_) R
 by_cases hr:r < a.length
 ·have:=hs (if r < j then r else if r=j then a.length - 1 else r - 1);rw [Ln hj r hr] at this
  by_cases e:r=j
  ·rw [BL e] at this;rw [<- this,e];refine LD<|List.Perm.map s ?_;show(row a j).Perm ((row a j).drop i++(row a j).take i);refine List.Perm.trans ?_ Cn;rw [Cu]
  ·rw [BK e] at this;exact this
 ·have:row a r=[]:=by
   unfold row;rw [By<|by omega];rfl
  rw [this];rfl
theorem Xv{n n2 n0:Net}{j i:Nat}{x:Str}(hj:j < n.length)(hi:i < max 1 (row n j).length)(T0:az n0)(pt:(ag n++ag n2).Perm<|ag n0)
  (fC:(ag (n.eraseIdx j)++ag (n2++[(x,(row n j).drop i++(row n j).take i)])).Perm<|ag n0) (P:Fl<|n++n2):Fl (n.eraseIdx j++(n2++[(x,(row n j).drop i++(row n j).take i)])):=by
 refine⟨Xf hj hi T0 pt fC P.1,?_⟩;have tw:∀ m:Net,(ag m).Perm (ag n0)->az m:=λm p y hy=>by rw [p.count_eq];exact T0 y<|p.mem_iff.mp hy
 rw [<- LA] at pt fC;have er:row (n++n2) j=row n j:=lW hj;have ee:n.eraseIdx j++(n2++[(x,(row n j).drop i++(row n j).take i)])=(n++n2).eraseIdx j++[(x,(row (n++n2) j).drop i++(row (n++n2) j).take i)]:=by
  rw [JC hj,Aw,er]
 rw [ee] at fC ⊢;exact Xu (by rw [Ag];omega) (by rw [er];exact hi) (tw _ pt) (tw _ fC) (by rw [fC.length_eq,pt.length_eq]) P.2
open L2
def bJ(n:Net)(r:Nat):Str:=((n[r]?).map (·.1)).getD ⟨#[]⟩
theorem dF{n:Net}{r:Nat}(h:r < n.length):bJ n r=n[r].1:=by unfold bJ;rw [Ab h];rfl
abbrev Lk:=Str×Str×Str
def jN(n:Net)(x:Lk):Prop:=∃ a b,pos n x.1=[a,b]/\x.2.1=bJ n a.1/\x.2.2=bJ n b.1
structure gJ(n:Net)(done:List<|Str×End)(kM:List<|Key×V)(ls:List Lk):Prop where
 m0:∀ z,bw done z=[]->aC kM (Sum.inr z)=none
 m1:∀ z a rest,bw done z=a :: rest->aC kM (Sum.inr z)=some (.str<|bJ n a.1)
 mem:∀ x:Lk,x∈ls↔∃ a b rest,bw done x.1=a :: b :: rest/\x.2.1=bJ n a.1/\x.2.2=bJ n b.1
 fM:(ls.map (·.1)).Nodup
 dq:kM.length<=done.length
 kq:ls.length<=done.length
theorem gJ.start(n:Net):gJ n [] [] []:=⟨λ_ _=>rfl,λz a rest h=>(by cases h),λx=>⟨λh=>(by cases h),λ⟨a,b,rest,h,_⟩=>(by cases h)⟩,Ck,Am _,Am _⟩
theorem gJ.new{n:Net}{done:List (Str×End)}{kM:List (Key×V)}{ls:List Lk}(I:gJ n done kM ls){z:Str}{e:End}(h0:bw done z=[]):gJ n (done++[(z,e)]) (putK kM (Sum.inr z)<|.str<|bJ n e.1) ls:=by
 refine⟨λy hy=>?_,λy a rest hy=>?_,λx=>?_,I.fM,?_,?_⟩
 ·rw [cW] at hy;obtain⟨h1,h2⟩:=Fk.mp hy;have bA:¬ z=y:=λq=>by rw [BL q] at h2;cases h2
  rw [dL,BK λq=>bA (Sum.inr.inj q).symm];exact I.m0 y h1
 ·rw [cW] at hy
  by_cases q:z=y
  ·subst q;rw [h0,BL rfl] at hy;cases hy;rw [dL,BL rfl]
  ·rw [BK q,Bh] at hy;rw [dL,BK λp=>q (Sum.inr.inj p).symm];exact I.m1 y a rest hy
 ·rw [I.mem x]
  by_cases q:z=x.1
  ·constructor
   ·rintro ⟨a,b,rest,h,_⟩;rw [<- q,h0] at h;cases h
   ·rintro ⟨a,b,rest,h,_⟩;rw [cW,<- q,h0,BL rfl] at h;cases h
  ·constructor
   ·rintro ⟨a,b,rest,h,r⟩;exact⟨a,b,rest,by rw [cW,BK q,Bh];exact h,r⟩
   ·rintro ⟨a,b,rest,h,r⟩;rw [cW,BK q,Bh] at h;exact⟨a,b,rest,h,r⟩
 ·have:=gD kM (Sum.inr z)<|.str<|bJ n e.1;have:=I.dq;rw [Ag,Ct];omega
 ·have:=I.kq;rw [Ag,Ct];omega
theorem gJ.old{n:Net}{done:List (Str×End)}{kM:List (Key×V)}{ls:List Lk}(I:gJ n done kM ls){z:Str}{a e:End}(h1:bw done z=[a]):gJ n (done++[(z,e)]) kM (ls++[(z,bJ n a.1,bJ n e.1)]):=by
 have hz:bw (done++[(z,e)]) z=[a,e]:=by rw [cW,h1,BL rfl];rfl
 have Xw:z∉ls.map (·.1):=λh=>by
  obtain⟨x,hx,ex⟩:=An.mp h;obtain⟨b,c,rest,hp,_⟩:=(I.mem x).mp hx;have ex:x.1=z:=ex;rw [ex,h1] at hp;cases hp
 refine⟨λy hy=>?_,λy b rest hy=>?_,λx=>?_,?_,?_,?_⟩
 ·rw [cW] at hy;exact I.m0 y (Fk.mp hy).1
 ·by_cases q:z=y
  ·subst q;rw [hz] at hy;cases hy;exact I.m1 z a [] h1
  ·rw [cW,BK q,Bh] at hy;exact I.m1 y b rest hy
 ·rw [Aq,Aj,I.mem x]
  by_cases q:z=x.1
  ·constructor
   ·rintro (⟨b,c,rest,h,_⟩ | h)
    ·rw [<- q,h1] at h;cases h
    ·subst h;exact⟨a,e,[],hz,rfl,rfl⟩
   ·rintro ⟨b,c,rest,h,r1,r2⟩;rw [<- q,hz] at h;cases h;obtain⟨x1,x2,x3⟩:=x;have q:z=x1:=q;have r1:x2=bJ n a.1:=r1;have r2:x3=bJ n e.1:=r2;subst q r1 r2;exact .inr rfl
  ·constructor
   ·rintro (⟨b,c,rest,h,r⟩ | h)
    ·exact⟨b,c,rest,by rw [cW,BK q,Bh];exact h,r⟩
    ·subst h;exact absurd rfl q
   ·rintro ⟨b,c,rest,h,r⟩;rw [cW,BK q,Bh] at h;exact .inl ⟨b,c,rest,h,r⟩
 ·rw [Ak];exact m4 I.fM Xw
 ·have:=I.dq;rw [Ag,Ct];omega
 ·have:=I.kq;rw [Ag,Ag];show _+1<=_+1;omega
theorem gJ.whole{n:Net}(T:az n){kM:List (Key×V)}{ls:List Lk}(I:gJ n (aV n) kM ls)(x:Lk):x∈ls↔jN n x:=by
 rw [I.mem x]
 constructor
 ·rintro ⟨a,b,rest,h,r⟩;have hp:pos n x.1=a :: b :: rest:=h;have ha:aN n a=some x.1:=aY.mp (by rw [hp];exact Ad ..);have hl:=nE n x.1;rw [hp,T x.1<|ig ha] at hl;have:rest=[]:=by
   have:rest.length+1+1=2:=hl;exact Bb.mp<|by omega
  rw [this] at hp;exact⟨a,b,hp,r⟩
 ·rintro ⟨a,b,h,r⟩;exact⟨a,b,[],h,r⟩
theorem rZ{n:Net}(T:az n){e x:End}{z:Str}(h:aN n e=some z):aN n x=some z↔x=e\/x=other n e:=by
 obtain⟨o1,o2,o3⟩:=fZ T h;refine⟨λhx=>?_,λhx=>?_⟩
 ·obtain⟨a,b,hp,b5,he⟩:=pI T h;have mx:x∈pos n z:=aY.mpr hx;have mo:other n e∈pos n z:=aY.mpr o1;rw [hp] at mx mo;simp only [Ah,Bm,DR] at mx mo
  rcases he with he | he
  ·rcases mx with m | m
   ·exact .inl<|m.trans he.symm
   ·rcases mo with m2 | m2
    ·exact absurd (m2.trans he.symm) o3
    ·exact .inr<|m.trans m2.symm
  ·rcases mx with m | m
   ·rcases mo with m2 | m2
    ·exact .inr<|m.trans m2.symm
    ·exact absurd (m2.trans he.symm) o3
   ·exact .inl<|m.trans he.symm
 ·rcases hx with rfl | rfl
  ·exact h
  ·exact o1
theorem Xx{κ:Type} [DecidableEq κ] (kvs:List<|κ×V) (k:κ) (v:V):(putK kvs k v).map (·.1)=if k∈kvs.map (·.1) then kvs.map (·.1) else kvs.map (·.1)++[k]:=by
 have e:(kvs.any λkv=>decide (kv.1=k))=decide (k∈kvs.map (·.1)):=by
  rw [Fn,List.any_eq_true,IK,An];exact⟨λ⟨p,h1,h2⟩=>⟨p,h1,CG h2⟩,λ⟨p,h1,h2⟩=>⟨p,h1,BW h2⟩⟩
 unfold putK;rw [e]
 by_cases h:k∈kvs.map (·.1)
 ·rw [BL<|BW h,BL h,Bj];refine At λp _=>?_;show(if p.1=k then(p.1,v) else p).1=p.1
  split <;> rfl
 ·rw [BK (by simpa using h),BK h,Ak];rfl
open PyProof.Rows (sortedS)
def bO(n:Net):Prop:=∀ P:Str->Prop,(∃ r∈n,P r.1)->(∀ r∈n,∀ s∈n,∀ t,t∈r.2->t∈s.2->P r.1->P s.1)->∀ r∈n,P r.1
theorem BF{n m:Net}(h1:∀ r∈n,∃ s∈m,s.1=r.1/\∀ t∈r.2,t∈s.2)(h2:∀ s∈m,∃ r∈n,r.1=s.1)(h:bO n):bO m:=by
 rintro P ⟨s,hs,ps⟩ cl s' ft;obtain⟨r,hr,er⟩:=h2 s hs;obtain⟨r',wA,Xy⟩:=h2 s' ft;rw [<- Xy];refine h P ⟨r,hr,by rw [er];exact ps⟩ (λa ha b hb t ta tb pa=>?_) r' wA;obtain⟨a',pQ,ea,sa⟩:=h1 a ha;obtain⟨b',nW,eb,sb⟩:=h1 b hb;rw [<- eb];exact cl a' pQ b' nW t (sa t ta) (sb t tb)<|by rw [ea];exact pa
theorem LN(r:Str×List Str):bO [r]:=by
 rintro P ⟨s,hs,ps⟩ _ x hx;rw [Aj] at hs hx;rw [hx,<- hs];exact ps
theorem BG(n:Net)(c:End)(z:Str)(i:Nat):(ins n c z)[i]?=(n[i]?).map λr=>if c.1=i then(r.1,r.2.take c.2++z :: r.2.drop c.2) else r:=by
 unfold ins;rw [Fu]
 by_cases h:c.1=i
 ·simp [h]
 ·simp [h]
theorem BH{n:Net}{c:End}{z:Str}(h:bO n):bO (ins n c z):=by
 refine BF (λr hr=>?_) (λs hs=>?_) h
 ·obtain⟨i,hi⟩:=Av hr;have e:=BG n c z i;rw [hi] at e;refine⟨_,Al e,?_,λt ht=>?_⟩
  ·split <;> rfl
  ·split
   ·show t∈r.2.take c.2++z :: r.2.drop c.2;rw [<- Cu c.2 r.2] at ht
    rcases Aq.mp ht with q | q
    ·exact Be _ q
    ·exact Ar _<|Af _ q
   ·exact ht
 ·obtain⟨i,hi⟩:=Av hs;rw [BG,Az] at hi;obtain⟨r,hr,e⟩:=hi;refine⟨r,Al hr,?_⟩;rw [<- e]
  split <;> rfl
theorem Xz{n:Net}{c:End}{z:Str}(hc:c.1 < n.length):∃ r∈ins n c z,z∈r.2:=by
 have e:=BG n c z c.1;rw [Ab hc] at e;refine⟨_,Al e,?_⟩;show z∈(if c.1=c.1 then((n[c.1].1,n[c.1].2.take c.2++z :: n[c.1].2.drop c.2):Str×List Str) else n[c.1]).2;rw [BL rfl];exact Ar _<|Ad ..
theorem XA{n:Net}{z pt:Str}(h:bO n)(hz:∃ r∈n,z∈r.2):bO (n++[(pt,[z])]):=by
 obtain⟨r,hr,zr⟩:=hz;rintro P ⟨s,hs,ps⟩ cl x hx;have mn:((pt,[z]):Str×List Str)∈n++[(pt,[z])]:=Ar _<|Aj.mpr rfl;have ml:∀{y},y∈n->y∈n++[(pt,[z])]:=λhy=>Be _ hy;have all:∀ y∈n,P y.1:=by
  refine h P ?_ λa ha b hb t ta tb pa=>cl a (ml ha) b (ml hb) t ta tb pa
  rcases Aq.mp hs with q | q
  ·exact⟨s,q,ps⟩
  ·rw [Aj] at q;subst q;exact⟨r,hr,cl _ mn r (ml hr) z (Aj.mpr rfl) zr ps⟩
 rcases Aq.mp hx with q | q
 ·exact all x q
 ·rw [Aj] at q;subst q;exact cl r (ml hr) _ mn z zr (Aj.mpr rfl)<|all r hr
def jm(zs:List Str):Prop:=zs.Pairwise λa b=>a.cps.toList < b.cps.toList
theorem BI{zs:List Str}(h:jm zs):zs.Nodup:=h.imp λq e=>by rw [e] at q;exact Fv _ q
theorem LO:∀{a b:List Str},jm a->jm b->(∀ x,x∈a↔x∈b)->a=b
 | [],[],_,_,_=>rfl
 | [],y :: b,_,_,h=>by have:=(h y).mpr<|Ad ..;cases this
 | x :: a,[],_,_,h=>by have:=(h x).mp<|Ad ..;cases this
 | x :: a,y :: b,ha,hb,h=>by
  unfold jm at ha hb;rw [Dk] at ha hb;have XB:x=y:=by
   rcases Ah.mp ((h x).mp<|Ad ..) with e | e
   ·exact e
   ·rcases Ah.mp ((h y).mpr<|Ad ..) with e2 | e2
    ·exact e2.symm
    ·exact absurd (Hb (ha.1 y e2)<|hb.1 x e)<|Fv _
  subst XB;have nx:∀(l:List Str),(∀ z∈l,x.cps.toList < z.cps.toList)->x∉l:=λl hl hm=>Fv _<|hl x hm;have:a=b:=LO ha.2 hb.2 λz=>by
   constructor
   ·intro hz
    rcases Ah.mp ((h z).mp<|Af _ hz) with e | e
    ·exact absurd (e ▸ hz)<|nx a ha.1
    ·exact e
   ·intro hz
    rcases Ah.mp ((h z).mpr<|Af _ hz) with e | e
    ·exact absurd (e ▸ hz)<|nx b hb.1
    ·exact e
  rw [this]
open PyProof.Rows (sortedS)
open PyProof.Rows (sortedS)
theorem XC(a b c:List Str)(h:∀ z,z∈c↔(if z∈a then z∉b else z∈b)):∀ zs:List Str,(zs.filter λz=>c.contains z).length % 2=((zs.filter λz=>a.contains z).length+(zs.filter λz=>b.contains z).length) % 2
 | []=>rfl
 | z :: r=>by
  have ih:=XC a b c h r;have hz:=h z;have ca:=λ(l:List Str)=>(Ep (as:=l) (a:=z));simp only [Ej]
  by_cases ha:z∈a <;> by_cases hb:z∈b
  ·have hc:z∉c:=λq=>by have:=hz.mp q;rw [BL ha] at this;exact this hb
   rw [BL<|(ca a).mpr ha,BL<|(ca b).mpr hb,BK λq=>hc<|(ca c).mp q,Ao,Ao];omega
  ·have hc:z∈c:=hz.mpr (by rw [BL ha];exact hb);rw [BL<|(ca a).mpr ha,BK λq=>hb<|(ca b).mp q,BL<|(ca c).mpr hc,Ao,Ao];omega
  ·have hc:z∈c:=hz.mpr (by rw [BK ha];exact hb);rw [BK λq=>ha<|(ca a).mp q,BL<|(ca b).mpr hb,BL<|(ca c).mpr hc,Ao,Ao];omega
  ·have hc:z∉c:=λq=>by have:=hz.mp q;rw [BK ha] at this;exact hb this
   rw [BK λq=>ha<|(ca a).mp q,BK λq=>hb<|(ca b).mp q,BK λq=>hc<|(ca c).mp q];exact ih
theorem LU(k:Nat)(z:Str):∀(ts:List Str) (p:Nat),(bw (aU k ts p) z).length=ts.count z
 | [],p=>rfl
 | t :: r,p=>by
  have ih:=LU k z r<|p+1;have e:aU k (t :: r) p=(t,(k,p)) :: aU k r (p+1):=by unfold aU;rfl
  rw [e];unfold bw at ih ⊢;rw [Ej,Dg]
  by_cases h:t=z
  ·rw [BL<|BW h,Ap,Ao,ih,BL<|by simpa using h]
  ·rw [BK λq=>h<|CG q,ih,BK<|by simpa using h];rfl
theorem LV(a b:List<|Str×End)(z:Str):bw (a++b) z=bw a z++bw b z:=by
 unfold bw;rw [Ek,Ak]
theorem BM{k:Nat}{ts:List Str}{p:Nat}{z:Str}{e:End}(h:e∈bw (aU k ts p) z):e.1=k:=by
 unfold bw at h;obtain⟨x,hx,rfl⟩:=An.mp h;obtain⟨y,e⟩:=x;exact(aX.mp (Ds.mp hx).1).1
theorem LW{a:List Str}(hn:a.Nodup):∀ l:List Str,(l.filter λz=>a.contains z).length=(a.map λz=>l.count z).sum
 | []=>by
  have:∀ a:List Str,(a.map λz=>([]:List Str).count z).sum=0:=λa=>by
   induction a with
   | nil=>rfl
   | cons x r ih=>rw [Ap,Bz,ih];rfl
  rw [this];rfl
 | y :: l=>by
  have ih:=LW hn l;have key:∀ a:List Str,(a.map λz=>(y :: l).count z).sum=(a.map λz=>l.count z).sum+a.count y:=λa=>by
   induction a with
   | nil=>rfl
   | cons x r ih=>
    rw [Ap,Bz,ih,Ap,Bz,Dg,Dg]
    by_cases h:y=x
    ·rw [BL (by simp [h]),BL<|by simp [h]];omega
    ·rw [BK (by simpa using h),BK<|by simpa using λq=>h<|Eq.symm q];omega
  rw [key,Ej,<- ih,hn.count]
  by_cases h:y∈a
  ·rw [BL<|Ep.mpr h,BL h,Ao]
  ·rw [BK λq=>h<|Ep.mp q,BK h];rfl
theorem XD{n:Net}(T:az n){ss:List Str}(hn:ss.Nodup)(hm:∀ z∈ss,z∈ag n):2 * ss.length<=(ag n).length:=by
 have h:=LW hn<|ag n;have e:∀ l:List Str,(∀ z∈l,z∈ag n)->(l.map λz=>(ag n).count z).sum=2 * l.length:=λl=>by
  induction l with
  | nil=>intro _;rfl
  | cons x r ih=>
   intro hl;rw [Ap,Bz,ih λz hz=>hl z<|Af _ hz,T x<|hl x<|Ad ..,Ao];omega
 rw [e ss hm] at h;rw [<- h];exact QX _ _
theorem XE{x y:Str}(h:x≠y):x.cps.toList < y.cps.toList\/y.cps.toList < x.cps.toList:=by
 by_cases q:x.cps.toList < y.cps.toList
 ·exact .inl q
 ·rcases List.le_iff_lt_or_eq.mp (List.not_lt.mp q) with q | q
  ·exact .inr q
  ·exact absurd (ce.kh q).symm h
theorem LX(x:Str):∀ sd:List Str,jm sd->∃ pR,jm pR/\∀ y,y∈pR↔y=x\/y∈sd
 | [],_=>⟨[x],List.pairwise_singleton _ _,λy=>by simp⟩
 | z :: r,h=>by
  have h:=Dk.mp h
  by_cases e:x=z
  ·subst e;exact⟨x :: r,Dk.mpr h,λy=>by simp⟩
  ·rcases XE e with q | q
   ·refine⟨x :: z :: r,Dk.mpr ⟨λy hy=>?_,Dk.mpr h⟩,λy=>Ah⟩
    rcases Ah.mp hy with rfl | hy
    ·exact q
    ·exact Hb q<|h.1 y hy
   ·obtain⟨pR,hs,hm⟩:=LX x r h.2;refine⟨z :: pR,Dk.mpr ⟨λy hy=>?_,hs⟩,λy=>?_⟩
    ·rcases (hm y).mp hy with rfl | hy
     ·exact q
     ·exact h.1 y hy
    ·rw [Ah,hm y,Ah];exact⟨λk=>by rcases k with k | k | k <;> simp [k],λk=>by rcases k with k | k | k <;> simp [k]⟩
theorem LY:∀ l:List Str,∃ sd,jm sd/\∀ x,x∈sd↔x∈l
 | []=>⟨[],List.Pairwise.nil,λ_=>Iff.rfl⟩
 | x :: r=>by
  obtain⟨sd,hs,hm⟩:=LY r;obtain⟨pR,ft,jO⟩:=LX x sd hs;exact⟨pR,ft,λy=>by rw [jO y,hm y,Ah]⟩
def HF(n:Net):Prop:=bO n/\Fl n
theorem XF{nm:Str}:HF [(nm,[])]:=⟨LN _,Xq⟩
theorem XG{n:Net}{c:End}{z pt:Str}(T:az n)(F:Full n)(hz:z∉ag n)(hc:dP n c) (hp:(ag<|ins n c z++[(pt,[z])]).Perm<|z :: z :: ag n) (P:HF n):HF (ins n c z++[(pt,[z])]):=
 ⟨XA (BH P.1)<|Xz hc.1,Xr T F hz hc hp P.2⟩
theorem XH{n:Net}{k1 k2:End}{z:Str}(T:az n)(F:Full n)(hz:z∉ag n)(h1:dP n k1)(h2:dP n k2) (hp:(ag<|ins (ins n k1 z) k2 z).Perm<|z :: z :: ag n) (ord:k2=k1\/sh k1 k2=k2) (same:(∃ k,it (step n) k k1=k2)\/∃ k,it (step n) k k2=k1) (P:HF n):HF (ins (ins n k1 z) k2 z):=
 ⟨BH<|BH P.1,Xs T F hz h1 h2 hp ord same P.2⟩
theorem XI{n n2 n0:Net}{j i:Nat}(hj:j < n.length)(hi:i < max 1 (row n j).length)(T0:az n0)(pt:(ag n++ag n2).Perm<|ag n0)
  (fC:(ag (n.eraseIdx j)++ag (n2++[(n[j].1,(row n j).drop i++(row n j).take i)])).Perm<|ag n0) (P:HF<|n++n2):HF (n.eraseIdx j++(n2++[(n[j].1,(row n j).drop i++(row n j).take i)])):=by
 refine⟨BF (λr hr=>?_) (λx hx=>?_) P.1,Xv hj hi T0 pt fC P.2⟩
 ·rcases Aq.mp hr with hx | hx
  ·rcases (ce.cS n j hj).symm.mem_iff.mp hx |> Ah.mp with q | q
   ·refine⟨(n[j].1,(row n j).drop i++(row n j).take i),Ar _<|Ar _<|Aj.mpr rfl,by rw [q],λt ht=>?_⟩;refine(AI (row n j) i).mem_iff.mpr ?_;rw [vZ hj,<- q];exact ht
   ·exact⟨r,Be _ q,rfl,λt h=>h⟩
  ·exact⟨r,Ar _<|Be _ hx,rfl,λt h=>h⟩
 ·rcases Aq.mp hx with hx | hx
  ·exact⟨x,Be _<|Fz hx,rfl⟩
  ·rcases Aq.mp hx with hx | hx
   ·exact⟨x,Ar _ hx,rfl⟩
   ·rw [Aj] at hx;exact⟨n[j],Be _<|Bt hj,by rw [hx]⟩
theorem LZ(s:Str->Bool):∀ l:List Str,av (l.map s)=decide ((l.filter s).length % 2=1)
 | []=>rfl
 | x :: l=>by
  show(s x ^^ av (l.map s))=_;rw [LZ s l,Ej];cases h:s x
  ·rw [BK (by decide),Cg]
  ·rw [BL rfl,Ao,RK,<- decide_not];exact decide_eq_decide.mpr<|by omega
theorem aG{α:Type}:∀ l:List α,av (l.map λ_=>false)=false
 | []=>rfl
 | _ :: l=>by show(false ^^ av _)=false;rw [aG l];rfl
theorem BO(x:Nat)(e:End):∀ m,av ((List.range m).map λp=>decide ((x,p)=e))=decide (x=e.1/\e.2 < m)
 | 0=>by simp [av]
 | m+1=>by
  rw [Er,Ak,pP,BO x e m];show(decide (x=e.1/\e.2 < m) ^^ (decide ((x,m)=e) ^^ false))=_;rw [Dw];obtain⟨a,b⟩:=e
  by_cases h:x=a
  ·by_cases h2:b=m
   ·subst h;subst h2;simp
   ·have e1:((x,m)=(a,b))=False:=by simp [h];omega
    rw [BR (p:=(x,m)=(a,b)) (by rw [e1];exact id),Dw];exact decide_eq_decide.mpr ⟨λq=>⟨q.1,by have:=q.2;omega⟩,λq=>⟨q.1,by have:=q.2;show b < m;omega⟩⟩
  ·rw [BR λq=>h q.1,BR λq=>h<|BZ Prod.fst q,BR λq=>h q.1];rfl
theorem XJ{n:Net}(T:az n){e:End}{t:Str}(h:aN n e=some t)(x:Nat):av ((row n x).map λy=>decide (y=t))=(decide (x=e.1) ^^ decide (x=(other n e).1)):=by
 have o:=fZ T h;rw [LI n x (λy=>decide (y=t)) (λa=>decide (a=e) ^^ decide (a=other n e)) λp z hz=>?_]
 ·rw [iN (λp=>decide ((x,p)=e)) λp=>decide ((x,p)=other n e),BO,BO];have l1:=fJ h;have l2:=fJ o.1
  congr 1
  ·exact decide_eq_decide.mpr ⟨λq=>q.1,λq=>⟨q,by rw [q];exact l1⟩⟩
  ·exact decide_eq_decide.mpr ⟨λq=>q.1,λq=>⟨q,by rw [q];exact l2⟩⟩
 ·have hz:aN n (x,p)=some z:=hz
  by_cases q:z=t
  ·subst q
   rcases (rZ T h).mp hz with k | k
   ·rw [k,BW rfl,BW rfl,BR<|Ne.symm o.2.2];rfl
   ·rw [k,BW rfl,BW rfl,BR o.2.2];rfl
  ·have h1:((x,p):End)≠e:=λk=>by rw [k,h] at hz;exact q (Option.some.inj hz).symm
   have h2:((x,p):End)≠other n e:=λk=>by rw [k,o.1] at hz;exact q (Option.some.inj hz).symm
   rw [BR q,BR h1,BR h2];rfl
end Nt
namespace X4
open PySem L2 Nt bB
def BQ:Sp:=λvs H Q _=>∃(R:Addr) (as:List<|Addr×Addr) (n:Net) (b:Int) (z pt:Str),vs=[.ref R,.int b,.str z,.str pt]/\ah H R as n/\az n/\Full n/\z∉ag n/\n.length<=100/\(ag n).length<=100 /\
 ∀ i wB n' H',ah H' R wB n'->nQ H H' (R :: as.map (·.2))->(∀ a∈wB,a∈as\/H a.2=none)->(ag n').Perm (z :: z :: ag n)->(n'.map (·.1)=n.map (·.1)\/n'.map (·.1)=n.map (·.1)++[pt])->Full n'->(HF n->HF n')->Q (.int i) H'
section
variable{P:Program}{w:World}{K:PySem.W.Frag}{mg:Str->Option Value}{base:Heap}
abbrev NP:List Str:=["_law_rows","_law_big_here","_law_tie","_law_point","_law_corners","_law_r","_law_place","_law_one","_law_kind","_law_face_here","_law_other_here","_law_spot"]
theorem lY:au NP ["_law_rows","_law_big_here","_law_tie","_law_point"] (bg nK):=⟨rfl,rfl,rfl,by decide +kernel,rfl,by decide +kernel,by decide +kernel⟩
theorem L0{ts:List Addr}{j:Nat}{t:Addr}(h:ts[j]?=some t):eC (ts.map V.ref) (j:Int)=some (.ref t):=j6<|by rw [Ae,h];rfl
theorem XM{f:Addr}{fd:FuncData}(F:bX K "_law_put" "_law_put" nK f fd)(T:Txt mg)
  (GS:bh P w K mg base 3 "_law_seats" ["_law_rows"] vW)
  (GF:bh P w K mg base 3 "_law_face" ["_law_rows","_law_seats_here","_law_end"] vX) :
  aJ P w K mg base bT 4 f fd ["_law_rows","_law_big_here","_law_tie","_law_point"] BQ:=by
 refine F.gb lY (λvs H Q E h=>?_) λb0 H vs Q E hr h=>?_
 ·obtain⟨R,as,n,b,z,pt,rfl,_⟩:=h;rfl
 obtain⟨R,as,n,b,z,pt,rfl,hR,hT,hF,hz,hn,htn,q⟩:=h;have nd:=lY.nd;have hu:=hr.ie;have cq:=hR.len;show Run _ _ _ [some<|.ref R,some<|.int b,some<|.str z,some<|.str pt,none,none,none,none,none,none,none,none] H;refine a8 4 nd<|dB<|aB ⟨Z0,λlc L3=>?_⟩;have g0:=aT L3<|.lst [];refine jD T.range (cZ dU T.len DG<|aq<|ae 0<|aB ⟨R,_,rfl,.inl<|ao.of<|g0 _ _ hR.lst,_,rfl,by omega,by rw [Aa];omega,?_⟩);rw [Aa,cq,Ca];refine jE (λr σ H3=>∃(ts:List Addr) (cs:List Nt.End) (u1 u2:Option V),ak H H3/\H3 lc=some (.lst<|ts.map V.ref)/\Pd H3 ts cs/\(∀ c∈cs,dP n c)/\(0 < r->cs≠[])/\cs.length<=101 * r/\σ=[some<|.ref R,some<|.int b,some<|.str z,some<|.str pt,some<|.ref lc,u1,u2,none,none,none,none,none]) ⟨[],[],_,_,g0,aA,.nil,λc hc=>(nomatch hc),λh=>absurd h (by decide),Am _,rfl⟩ ?_ ?_
 ·rintro r σ H3 hi ⟨ts,cs,u1,u2,sH,el,ep,hc,bA,hlen,rfl⟩;rw [Dj];refine bz 5 nd ?_;obtain⟨a,ea,eJ,et,XN,er⟩:=(hR.same sH).at hi;have iO:=iL n r;refine jD T.range<|cZ (Iv rfl) T.max RB<|aq<|aF<|aq<|cZ dU T.len DG<|aq<|bb cH<|bb cG<|ae 0<|ae 5 ⟨R,_,_,.ref a.1,rfl,rfl,ao.of<|sH _ _ hR.lst,eJ,aF ⟨a.1,_,_,.ref a.2,rfl,rfl,aQ.of et,rfl,aB ⟨a.2,_,rfl,.inl<|ao.of XN,?_⟩⟩⟩;rw [Aa];have em:(if((row n r).length:Int) > 1 then((row n r).length:Int) else 1)=((max 1 (row n r).length:Nat):Int):=by
   split <;> omega
  refine aB ⟨1,_,rfl,((max 1 (row n r).length:Nat):Int),by rw [em],by omega,by omega,?_⟩;rw [Ca];refine jE (λp σ H4=>∃(ts:List Addr) (cs:List Nt.End) (u2:Option V),ak H H4/\H4 lc=some (.lst<|ts.map V.ref)/\Pd H4 ts cs/\(∀ c∈cs,dP n c)/\(0 < r+p->cs≠[])/\cs.length<=101 * r+p/\σ=[some<|.ref R,some<|.int b,some<|.str z,some<|.str pt,some<|.ref lc,some<|.int (r:Int),u2,none,none,none,none,none]) ⟨ts,cs,_,sH,el,ep,hc,bA,hlen,rfl⟩ ?_ ?_
  ·rintro p σ H4 hp ⟨ts,cs,u2,sH,el,ep,hc,bA,hlen,rfl⟩;rw [Dj];refine bz 6 nd ?_;refine hV<|jH<|ae 4 ⟨lc,rfl,⟨_,el⟩,dW<|aq<|ae 5<|aq<|ae 6<|aB ⟨Z2,λt ht=>?_⟩⟩;have nF:lc≠t:=bU el ht;have s2:=aT ht<|Tp (r,p);have BU:=ep.length;refine⟨ts.map V.ref,by rw [ax nF];exact el,by rw [Aa];exact cn (by omega),?_⟩;refine bn ⟨ts++[t],cs++[(r,p)],_,dC (sH.trans s2) L3,by rw [aA,Ak];rfl,?_,λc h=>?_,λ_=>by simp,by rw [Ag];simp;omega,rfl⟩
   ·refine Pd.append (ep.keep λx e h=>?_)<|.cons ?_ .nil
    ·rw [ax<|rG h el];exact s2 _ _ h
    ·rw [ax nF.symm,aA]
   ·rcases Aq.mp h with h | h
    ·exact hc c h
    ·rw [Aj] at h;subst h;exact⟨hi,hp⟩
  ·rintro σ H4 ⟨ts,cs,u2,sH,el,ep,hc,bA,hlen,rfl⟩;refine bn ⟨ts,cs,_,_,sH,el,ep,hc,λ_=>bA (by omega),by omega,rfl⟩
 rintro σ H3 ⟨ts,cs,u1,u2,sH,el,ep,hc,bA,hlen,rfl⟩;have zm:0 < n.length:=Cp.mpr hF.some;have jW:=bA zm;have eF:0 < cs.length:=Cp.mpr jW;have BU:=ep.length;have m0:0<=b % (cs.length:Int):=Bv _ (by omega);have m1:b % (cs.length:Int) < cs.length:=Cb _ (by omega);obtain⟨j,hj⟩:∃ j:Nat,b % (cs.length:Int)=j:=⟨(b % (cs.length:Int)).toNat,by omega⟩;have nV:j < cs.length:=by omega
 have XO:cs[j]?=some cs[j]:=Ab nV;obtain⟨t1,wC,e1⟩:=ep.at XO;have gy:dP n cs[j]:=hc _<|Bt nV;generalize cs[j]=c1 at e1 gy;refine a8 7 nd<|bb cG<|ae 4<|aW cY<|ae 1<|cZ dU T.len DG<|aq<|ae 4<|aB ⟨lc,_,rfl,.inl<|ao.of el,?_⟩;rw [Aa,BU];refine⟨_,_,rfl,rfl,by omega,lc,_,_,.ref t1,rfl,rfl,ao.of el,by rw [hj];exact L0 wC,?_⟩;refine a8 1 nd<|aW gB<|ae 1<|cZ dU T.len DG<|aq<|ae 4<|aB ⟨lc,_,rfl,.inl<|ao.of el,?_⟩;rw [Aa,BU];refine⟨_,_,rfl,rfl,⟨by omega,by omega⟩,?_⟩;show Run _ _ _ [some<|.ref R,some<|.int<|b / (cs.length:Int),some<|.str z,some<|.str pt,some<|.ref lc,u1,u2,some<|.ref t1,none,none,none,none] H3;generalize b / (cs.length:Int)=b2;refine a8 8 nd (aW cY<|ae 1<|aF ⟨_,_,rfl,rfl,(by show(0:Int) < 3;decide),?_⟩);refine a8 1 nd (aW gB<|ae 1<|aF ⟨_,_,rfl,rfl,⟨by decide,by decide⟩,?_⟩);show Run _ _ _ [some<|.ref R,some<|.int<|b2 / 3,some<|.str z,some<|.str pt,some<|.ref lc,u1,u2,some<|.ref t1,some<|.int<|b2 % 3,none,none,none] H3;generalize b2 / 3=b3;have pS:=hR.same sH;obtain⟨a,ea,eJ,eta,L4,era⟩:=pS.at gy.1;have L5:∀(m:Net),(ag m).length<=200->∀ i,(row m i).length<=200:=λm h i=>Cl (iL m i) h;have cin:c1.2<=(row n c1.1).length:=by
  have:=gy.2;omega
 refine hU<|fW ph<|ae 8<|aF ⟨rfl,_,rfl,?_⟩;refine ka (λ_=>?_) λ_=>bn ?_
 ·
  have rl:=iL n c1.1;refine hV<|zG GQ PK PL Kd<|bb cH<|bb cG<|ae 0<|bb cH<|ae 7<|aF ⟨t1,_,_,.int (c1.1:Int),rfl,rfl,aQ.of e1,rfl,R,_,_,.ref a.1,rfl,rfl,ao.of pS.lst,eJ,aF ⟨a.1,_,_,.ref a.2,rfl,rfl,aQ.of eta,rfl,Or.inl ⟨rfl,_,ao.of L4⟩,?_⟩⟩;refine bb cH (ae 7<|aF ⟨t1,_,_,.int (c1.2:Int),rfl,rfl,aQ.of e1,rfl,ae 2 ⟨a.2,_,_,_,rfl,rfl,L4,by omega,by rw [Ca,Aa];exact cin,by rw [Aa];exact cn (by omega),?_⟩⟩);rw [Ca,Ku];have R4:=pS.ins (z:=z) ea gy.1;refine hV<|jH<|ae 0 ⟨R,rfl,⟨_,R4.lst⟩,dW<|aq<|ae 3<|aq<|dB<|aq<|ae 2<|aB ⟨Z1,λl1 gK=>?_⟩⟩;refine aB ⟨Z2,λt2 ii=>?_⟩;have s5:=aT gK<|Ls [z];have s6:=aT ii<|.tup [.str pt,.ref l1];have R6:=(R4.same s5).same s6;refine⟨_,R6.lst,by rw [Aa];exact cn (by omega),?_⟩;have XQ:H3 l1=none:=by
   by_cases q1:l1=a.2
   ·rw [q1,aA] at gK;cases gK
   ·rwa [ax q1] at gK
  have XR:l1∉as.map (·.2):=λhm=>by
   obtain⟨x,hx,e⟩:=An.mp hm;exact R4.fresh gK hx e.symm
  have XS:l1≠R:=λe=>by rw [e,R4.lst] at gK;cases gK
  have R7:=R6.more (t:=t2) (l:=l1) (pt:=pt) (zs:=[z]) aA (s6 _ _ aA) XR XS;have tp:(ag<|ins n c1 z++[(pt,[z])]).Perm (z :: z :: ag n):=by
   unfold ag;rw [Dr];show(ag (ins n c1 z)++[z]).Perm _;exact(Cn).trans<|(jL n c1 z gy.1).cons z
  refine cA<|ae 1<|q _ _ _ _ R7 (λx o hx jn=>?_) (λx hx=>?_) tp (.inr ?_) ?_ λhP=>XG hT hF hz gy tp hP
  ·have x1:x≠R:=λe=>jn (by rw [e];exact Ad);have x2:x≠a.2:=λe=>jn (Af _<|by rw [e];exact An.mpr ⟨a,Al ea,rfl⟩);rw [ax x1];refine s6 _ _<|s5 _ _ ?_;rw [ax x2];exact sH _ _ hx
  ·rcases Aq.mp hx with hx | hx
   ·exact .inl hx
   ·rw [Aj] at hx;subst hx;exact .inr<|sH.free XQ
  ·rw [Ak,AB];rfl
  ·refine .inr ⟨by simp,λi hi=>?_⟩;have XT:=(AF (z:=z) hF gy.1 hF.either).1;rw [Ag] at hi;simp at hi
   rcases Dc i (ins n c1 z).length with h | h
   ·have:=XT i h;unfold row at this ⊢;rw [Ay h];exact this
   ·unfold row;rw [Bc h,show i - (ins n c1 z).length=0 by omega];simp
 ·
  refine a8 9 nd<|dB<|aq<|ae 7<|aB ⟨Z1,λlf L9=>?_⟩;have s4:=aT L9<|.lst [.ref t1];have sH4:=sH.trans s4;have gL:=pS.same s4;obtain⟨a0,ea0,BV,XU,Ma,er0⟩:=gL.at zm;have XW:∀ x∈as,lf≠x.2:=λx hx=>pS.fresh L9 hx;show Run _ _ _ [some<|.ref R,some<|.int b3,some<|.str z,some<|.str pt,some<|.ref lc,u1,u2,some<|.ref t1,some<|.int<|b2 % 3,some<|.ref lf,none,none] (upd H3 lf<|.lst [.ref t1]);refine U2 (λk H'=>ak (upd H3 lf<|.lst [.ref t1]) H'/\(k=true->row n 0≠[])) (λσ' H'=>∃(lf:Addr) (jK:List Addr) (fs:List Nt.End),ak H3 H'/\(∀ x∈as,lf≠x.2)/\H' lf=some (.lst<|jK.map V.ref)/\Pd H' jK fs/\0 < fs.length/\fs.length<=1000/\(∀ c∈fs,dP n c/\∃ k,it (step n) k c1=c) /\
   σ'=[some<|.ref R,some<|.int b3,some<|.str z,some<|.str pt,some<|.ref lc,u1,u2,some<|.ref t1,some<|.int<|b2 % 3,some<|.ref lf,none,none]) ?_ ?_ (λH5 ⟨s5,_⟩=>bn ⟨lf,[t1],[c1],s4.trans s5,XW,s5 _ _ aA,.cons (s5 _ _<|s4 _ _ e1) .nil,Gp,by show 1<=1000;decide,λc se=>by rw [Aj] at se;rw [se];exact⟨gy,0,rfl⟩,rfl⟩) ?_
  ·refine fW (vD hu)<|bb cH<|bb cG<|ae 0<|aF ⟨R,_,_,.ref a0.1,rfl,rfl,ao.of gL.lst,BV,aF ⟨a0.1,_,_,.ref a0.2,rfl,rfl,aQ.of XU,rfl,dB<|aB ⟨Z0,λp hp=>?_⟩⟩⟩;have s5:=aT hp<|.lst []
   by_cases h0:row n 0=[]
   ·refine⟨1,_,by decide,J' (k:=0) (xs:=[]) (ys:=[]) (λ_=>true) (ao.of<|by rw [s5 _ _ Ma,h0];rfl) (ao.of aA) rfl (λj x y hx _=>by simp at hx),_,rfl,s5,λh=>by cases h⟩
   ·refine⟨1,_,by decide,Ka (k:=1) (ao.of<|s5 _ _ Ma) (ao.of (xs:=[]) aA) (by rw [Aa];intro h;exact h0<|Bb.mp h),_,rfl,s5,λ_=>h0⟩
  ·rintro H4 ⟨B0,h0⟩;have h0:=h0 rfl;have gL:=gL.same B0;have wz:=hF.cB h0 gy;have pT:=ik n;refine a8 9 nd (b4 GF hr<|aq<|ae 0<|aq<|b4 GS hr<|aq<|ae 0<|aB ⟨R,as,n,rfl,gL,by omega,by omega,λd ks H5 s5 n5 S5=>?_⟩);refine aq (ae 7<|aB ⟨R,d,t1,as,n,ks,c1,rfl,gL.same s5,S5,hT,s5 _ _<|B0 _ _<|s4 _ _ e1,wz,by omega,λl6 XX XY H6 s6 n6 e6 p6 f6=>?_⟩);exact bn ⟨l6,XX,XY,s4.trans<|B0.trans<|s5.trans s6,λx hx=>(gL.same s5).fresh n6 hx,e6,p6,f6.pos,by have:=f6.len;omega,λc se=>⟨VL<|f6.ends hT wz c se,Xg f6 se⟩,rfl⟩
  ·rintro σ' H5 ⟨lf,jK,fs,s5,XZ,B3,Mb,B4,X0,B5,rfl⟩;have sf:=Mb.length;have n0:0<=b3 % (fs.length:Int):=Bv _ (by omega);have n1:b3 % (fs.length:Int) < fs.length:=Cb _ (by omega);obtain⟨j2,iu⟩:∃ j:Nat,b3 % (fs.length:Int)=j:=⟨(b3 % (fs.length:Int)).toNat,by omega⟩;have si:j2 < fs.length:=by omega
   have B6:fs[j2]?=some fs[j2]:=Ab si;obtain⟨t2,wD,e2⟩:=Mb.at B6;obtain⟨nZ,sj⟩:=B5 _<|Bt si;generalize fs[j2]=c2 at e2 nZ sj;have nr:=s5 _ _ e1;refine a8 10 nd<|bb cG<|ae 9<|aW cY<|ae 1<|cZ dU T.len DG<|aq<|ae 9<|aB ⟨lf,_,rfl,.inl<|ao.of B3,?_⟩;rw [Aa,sf];refine⟨_,_,rfl,rfl,by omega,lf,_,_,.ref t2,rfl,rfl,ao.of B3,by rw [iu];exact L0 wD,?_⟩;have lZ:=pS.same s5;show Run _ _ _ [some<|.ref R,some<|.int b3,some<|.str z,some<|.str pt,some<|.ref lc,u1,u2,some<|.ref t1,some<|.int<|b2 % 3,some<|.ref lf,some<|.ref t2,none] H5;refine lw<|Vh T.sorted<|dB<|aq<|ae 7<|aq<|ae 10<|aB ⟨Z2,λl2 qX=>?_⟩;have s6:=aT qX<|.lst [.ref t1,.ref t2];refine⟨l2,t1,t2,(c1.1:Int),(c1.2:Int),(c2.1:Int),(c2.2:Int),rfl,aA,s6 _ _ nr,s6 _ _ e2,λrr Md=>?_⟩;have rn:∀ x∈as,rr≠x.2:=λx hx=>(lZ.same s6).fresh Md hx;obtain⟨x1,x2,k1,k2,dQ,f1,f2,q1,q2,B7,gM⟩:∃ x1 x2 k1 k2,(if lexLt ((c1.1:Int),(c1.2:Int)) ((c2.1:Int),(c2.2:Int))=true then [V.ref t2,.ref t1] else [.ref t1,.ref t2])=[.ref x1,.ref x2]/\(upd H5 l2<|.lst [.ref t1,.ref t2]) x1=some (Tp k1)/\(upd H5 l2<|.lst [.ref t1,.ref t2]) x2=some (Tp k2)/\dP n k1/\dP n k2/\(k2=k1\/sh k1 k2=k2)/\((∃ k,it (step n) k k1=k2)\/∃ k,it (step n) k k2=k1):=by
    cases Mf:lexLt ((c1.1:Int),(c1.2:Int)) ((c2.1:Int),(c2.2:Int)) with
    | true=>exact⟨t2,t1,c2,c1,rfl,s6 _ _ e2,s6 _ _ nr,nZ,gy,.inr<|Xd Mf,.inr sj⟩
    | false=>exact⟨t1,t2,c1,c2,rfl,s6 _ _ nr,s6 _ _ e2,gy,nZ,Xe Mf,.inl sj⟩
   rw [dQ];have s7:=aT Md<|.lst [.ref x1,.ref x2];have f1:=s7 _ _ f1;have f2:=s7 _ _ f2;have s6:=s6.trans s7;have fr:=aA (H:=upd H5 l2<|.lst [.ref t1,.ref t2]) (a:=rr) (o:= .lst [.ref x1,.ref x2]);generalize upd (upd H5 l2<|.lst [.ref t1,.ref t2]) rr (.lst [.ref x1,.ref x2])=H6 at f1 f2 s6 fr ⊢;have n4:ak H H6:=sH.trans<|s5.trans s6;have X1:=lZ.same s6;have sk:nQ H H6 (R :: as.map (·.2)):=λx o hx _=>n4 _ _ hx;refine⟨rr,rfl,⟨_,ao.of fr⟩,lz (xs:=[.ref x1,.ref x2]) (λi σ H7=>∃(m:Net) (u:Option V),ah H7 R as m/\nQ H H7 (R :: as.map (·.2))/\H7 rr=some (.lst [.ref x1,.ref x2])/\H7 lf=some (.lst<|jK.map V.ref)/\H7 x1=some (Tp k1)/\H7 x2=some (Tp k2) /\
    ((i=0/\m=n)\/(i=1/\m=ins n k1 z)\/(i=2/\m=ins (ins n k1 z) k2 z))/\σ=[some<|.ref R,some<|.int b3,some<|.str z,some<|.str pt,some<|.ref lc,u1,u2,some<|.ref t1,some<|.int<|b2 % 3,some<|.ref lf,some<|.ref t2,u]) ⟨n,_,X1,sk,fr,s6 _ _ B3,f1,f2,.inl ⟨rfl,rfl⟩,rfl⟩ ?_ ?_ ?_⟩
   ·rintro i σ H7 _ ⟨m,u,_,_,wF,_⟩;exact ao.of wF
   ·rintro i v σ H7 hv ⟨m,u,sq,sr,wF,B8,g1,g2,hm,rfl⟩;have X2:=(jL n k1 z q1.1).length_eq;rw [Ao] at X2;obtain⟨y,k,rfl,hy,hk,dY,hml⟩:∃ y k,v = .ref y/\H7 y=some (Tp k)/\dP m k/\((i+1=0/\ins m k z=n)\/(i+1=1/\ins m k z=ins n k1 z)\/(i+1=2/\ins m k z=ins (ins n k1 z) k2 z))/\(ag m).length<=200:=by
     rcases hm with ⟨rfl,rfl⟩ | ⟨rfl,rfl⟩ | ⟨rfl,rfl⟩
     ·cases hv;exact⟨x1,k1,rfl,g1,q1,.inr<|.inl ⟨rfl,rfl⟩,by omega⟩
     ·cases hv;exact⟨x2,k2,rfl,g2,vY q2 q1.1,.inr<|.inr ⟨rfl,rfl⟩,by omega⟩
     ·simp at hv
    refine bz 11 nd ?_;obtain⟨a',Mg,B9,B',kr,X3⟩:=sq.at hk.1;have rl:=iL m k.1;have qu:k.2<=(row m k.1).length:=by
     have:=hk.2;omega
    refine hV<|zG GQ PK PL Kd<|bb cH<|bb cG<|ae 0<|bb cH<|ae 11<|aF ⟨y,_,_,.int (k.1:Int),rfl,rfl,aQ.of hy,rfl,R,_,_,.ref a'.1,rfl,rfl,ao.of sq.lst,B9,aF ⟨a'.1,_,_,.ref a'.2,rfl,rfl,aQ.of B',rfl,Or.inl ⟨rfl,_,ao.of kr⟩,?_⟩⟩;refine bb cH (ae 11<|aF ⟨y,_,_,.int (k.2:Int),rfl,rfl,aQ.of hy,rfl,ae 2 ⟨a'.2,_,_,_,rfl,rfl,kr,by omega,by rw [Ca,Aa];exact qu,by rw [Aa];exact cn (by omega),?_⟩⟩);rw [Ca,Ku];have am:a'∈as:=Al Mg;refine bn ⟨ins m k z,_,sq.ins Mg hk.1,λx o hx jn=>?_,by rw [ax<|rn a' am];exact wF,by rw [ax<|XZ a' am];exact B8,by rw [ax<|rG g1 kr];exact g1,by rw [ax<|rG g2 kr];exact g2,dY,rfl⟩;have x2:x≠a'.2:=λe=>jn (Af _<|by rw [e];exact An.mpr ⟨a',am,rfl⟩);rw [ax x2];exact sr x o hx jn
   ·rintro σ H7 ⟨m,u,sq,sr,wF,B8,g1,g2,hm,rfl⟩;have em:m=ins (ins n k1 z) k2 z:=by
     rcases hm with ⟨h,_⟩ | ⟨h,_⟩ | ⟨_,h⟩
     ·exact absurd h<|by show ¬(2=0);decide
     ·exact absurd h<|by show ¬(2=1);decide
     ·exact h
    refine cA<|aW gB<|ae 1<|cZ dU T.len DG<|aq<|ae 9<|aB ⟨lf,_,rfl,.inl<|ao.of B8,?_⟩;rw [Aa,sf];refine⟨_,_,rfl,rfl,⟨by omega,by omega⟩,?_⟩;have fi:=AF (z:=z) hF q1.1 hF.either;have F2:Full (ins n k1 z):= .inr ⟨fi.2,fi.1⟩;have Mh:=AF (z:=z) F2 (vY (z:=z) q2 q1.1).1 F2.either;subst em;exact q _ as _ H7 sq sr (λx hx=> .inl hx) ((jL _ k2 z (vY (z:=z) q2 q1.1).1).trans<|(jL n k1 z q1.1).cons z) (.inl<|by rw [AB,AB]) (.inr ⟨Mh.2,Mh.1⟩) λhP=>XH hT hF hz q1 q2 ((jL _ k2 z (vY (z:=z) q2 q1.1).1).trans<|(jL n k1 z q1.1).cons z) B7 gM hP
def CA:Sp:=λvs H Q _=>∃(b m sm:Int),vs=[.int b,.int m,.int sm]/\0<=m/\m<=35 /\
 ∀ L as n H',ak H H'->H L=none->ah H' L as n->az n->(n.map (·.1)).Nodup->Full n->HF n->(ag n).length<=2 * m.toNat->n.length<=m.toNat+1->(∀ a∈as,H a.2=none)->Q (.ref L) H'
abbrev NB:List Str:=["_law_big_here","_law_most","_law_stem","_law_many","_law_ties","_law_points","_law_rows","_law_k","_law_told","_law_row","_law_size"]
theorem l3:au NB ["_law_big_here","_law_most","_law_stem"] (bg nN):=⟨rfl,rfl,rfl,by decide +kernel,rfl,by decide +kernel,by decide +kernel⟩
theorem X5{H:Hp}{d:Addr}{xs:List V}(h:H d=some (.lst xs)):pq K "list" (.ref d) H:=Or.inl ⟨rfl,xs,ao.of h⟩
theorem CB{b:Int}{m i:Nat}(h:i < m):eC ((namesOf b m).map V.str) (i:Int)=some (.str<|aK b i):=vJ<|Vu h
theorem X6{f:Addr}{fd:FuncData}(F:bX K "_law_net_by" "_law_net_by" nN f fd)(T:Txt mg)
  (GN:bh P w K mg base 4 "_law_names" ["_law_stem","_law_many"] z8)
  (GP:bh P w K mg base 4 "_law_put" ["_law_rows","_law_big_here","_law_tie","_law_point"] BQ) :
  aJ P w K mg base bT 5 f fd ["_law_big_here","_law_most","_law_stem"] CA:=by
 refine F.gb l3 (λvs H Q E h=>?_) λb0 H vs Q E hr h=>?_
 ·obtain⟨b,m,sm,rfl,_⟩:=h;rfl
 obtain⟨b,m,sm,rfl,m0,m35,q⟩:=h;have nd:=l3.nd;have hu:=hr.ie;have k0:0<=b % (m+1):=Bv _ (by omega);have k1:b % (m+1) < m+1:=Cb _ (by omega);obtain⟨mn,X7⟩:∃ k:Nat,b % (m+1)=k:=⟨(b % (m+1)).toNat,by omega⟩;have hmm:mn<=m.toNat:=by omega
 show Run _ _ _ [some<|.int b,some<|.int m,some<|.int sm,none,none,none,none,none,none,none,none] H;refine a8 3 nd<|aW cY<|ae 0<|aW fG<|ae 1<|aF ⟨_,_,rfl,rfl,?_⟩;refine⟨_,_,rfl,rfl,(by show 0 < m+1;omega),?_⟩;refine a8 0 nd<|aW gB<|ae 0<|aW fG<|ae 1<|aF ⟨_,_,rfl,rfl,?_⟩;refine⟨_,_,rfl,rfl,(by show qO b (m+1);exact⟨by omega,by omega⟩),?_⟩;show Run _ _ _ [some<|.int<|b / (m+1),some<|.int m,some<|.int sm,some<|.int<|b % (m+1),none,none,none,none,none,none,none] H;rw [X7];generalize b / (m+1)=b1;refine a8 4 nd (b4 GN hr<|aq<|ae 2<|aq<|ae 3<|aB ⟨sm,(mn:Int),rfl,by omega,by omega,λlt H1 s1 n1 e1=>?_⟩);rw [Ca] at e1;refine a8 5 nd (b4 GN hr<|aq<|bb cG<|dB<|aq<|aW fG<|aW gB<|ae 2<|aF ⟨_,_,rfl,rfl,⟨by decide,by decide⟩,aF ⟨_,_,rfl,rfl,aq<|ae 2<|aB ⟨Z2,λp hp=>?_⟩⟩⟩);refine vy Ke T.nO JG (aq<|zc ph<|aW cY<|ae 2<|aF ⟨_,_,rfl,rfl,(by show(0:Int) < 4;decide),aF ⟨rfl,aB ⟨_,rfl,?_⟩⟩⟩);have s2:=aT hp<|.lst [.int<|sm / 3+1,.int sm];obtain⟨iP,ex⟩:∃ iP:Int,eC [V.int<|sm / 3+1,.int sm] (if decide (V.int (sm % 4)=V.int 1)=true then 1 else 0)=some (.int iP):=by
  cases decide (V.int (sm % 4)=V.int 1) with
  | true=>exact⟨sm,rfl⟩
  | false=>exact⟨sm / 3+1,rfl⟩
 refine⟨p,_,_,.int iP,rfl,rfl,ao.of aA,ex,?_⟩;refine aq (aW fG<|ae 3<|aF ⟨_,_,rfl,rfl,aB ⟨iP,(mn:Int)+1,rfl,by omega,by omega,λlp H2 s3 n3 e3=>?_⟩⟩);have em:((mn:Int)+1).toNat=mn+1:=by omega
 rw [em] at e3;have CD:ak H H2:=s1.trans<|s2.trans s3;have e1:H2 lt=some (Ls<|namesOf sm mn):=s3 _ _<|s2 _ _ e1;show Run _ _ _ [some<|.int b1,some<|.int m,some<|.int sm,some<|.int (mn:Int),some<|.ref lt,some<|.ref lp,none,none,none,none,none] H2;refine a8 6 nd<|dB<|aq<|dW<|aq<|bb cG<|ae 5<|aF ⟨lp,_,_,.str<|aK iP 0,rfl,rfl,ao.of e3,CB<|Ee _,aq<|dB<|aB ⟨Z0,λl1 gK=>?_⟩⟩;refine aB ⟨Z2,λt1 CF=>aB ⟨Z1,λR wG=>?_⟩⟩;have s4:=aT gK<|Ls [];have s5:=aT CF<|.tup [.str<|aK iP 0,.ref l1];have s6:=aT wG<|.lst [.ref t1];have X8:ah (upd (upd (upd H2 l1<|.lst []) t1<|.tup [.str<|aK iP 0,.ref l1]) R<|.lst [.ref t1]) R [(t1,l1)] [(aK iP 0,[])]:=by
  refine⟨rfl,aA,λi a r h1 h2=>?_,by simp⟩;cases i with
  | zero=>
   cases h1;cases h2;exact⟨s6 _ _ aA,s6 _ _<|s5 _ _ aA⟩
  | succ i=>simp at h1
 have fR:H2 R=none:=s4.free<|s5.free wG;show Run _ _ _ [some<|.int b1,some<|.int m,some<|.int sm,some<|.int (mn:Int),some<|.ref lt,some<|.ref lp,some<|.ref R,none,none,none,none] (upd (upd (upd H2 l1<|.lst []) t1<|.tup [.str<|aK iP 0,.ref l1]) R<|.lst [.ref t1]);refine jD T.range (ae 3 ⟨(mn:Int),rfl,by omega,by omega,?_⟩);rw [Ca];refine jE (λk σ H3=>∃(as:List<|Addr×Addr) (n:Net) (b:Int) (u:Option V),ah H3 R as n/\ak H2 H3/\(∀ a∈as,H2 a.2=none)/\Full n/\HF n/\(ag n).Perm (dbl<|namesOf sm k)/\n.map (·.1)=namesOf iP n.length/\n.length<=k+1 /\
  σ=[some<|.int b,some<|.int m,some<|.int sm,some<|.int (mn:Int),some<|.ref lt,some<|.ref lp,some<|.ref R,u,none,none,none]) ⟨_,_,b1,_,X8,s4.trans<|s5.trans s6,λa ha=>by rw [Aj] at ha;rw [ha];exact gK,.inl ⟨_,rfl⟩,XF,List.Perm.refl _,rfl,Am _,rfl⟩ ?_ ?_
 ·rintro k σ H3 hk ⟨as,n,b,u,hR,sH,pE,hF,wH,hp,wI,hlen,rfl⟩;rw [Dj];refine bz 7 nd ?_;have cq:=hR.len;have tl:=hp.length_eq;rw [AH,zL] at tl;have nz:aK sm k∉ag n:=λh=>by
   have h1:=gH.mp<|hp.mem_iff.mp h;have h2:=vN (b:=sm) (m:=k+1) (by omega);rw [vO,Cc] at h2;exact h2.2.2 _ h1 _ (Aj.mpr rfl) rfl
  have n0:0 < n.length:=Cp.mpr hF.some;refine a8 0 nd<|b4 GP hr<|aq<|ae 6<|aq<|ae 0<|aq<|bb cG<|ae 4<|ae 7 ⟨lt,_,_,.str<|aK sm k,rfl,rfl,ao.of<|sH _ _ e1,CB hk,?_⟩;refine aq<|bb cG<|ae 5<|cZ dU T.len DG<|aq<|ae 6<|aB ⟨R,_,rfl,.inl<|ao.of hR.lst,?_⟩;rw [Aa,cq];refine⟨lp,_,_,.str<|aK iP n.length,rfl,rfl,ao.of<|sH _ _ e3,CB (by omega),?_⟩;refine aB ⟨R,as,n,b,aK sm k,aK iP n.length,rfl,hR,Kv (vN<|by omega) hp,hF,nz,by omega,by omega,λi wB n' H' wJ kp CH jP su sw CI=>?_⟩;have X9:ak H2 H':=λx o hx=>by
   refine kp x o (sH _ _ hx) λhm=>?_
   rcases Ah.mp hm with h | h
   ·rw [h,fR] at hx;cases hx
   ·obtain⟨y,hy,e⟩:=An.mp h;rw [<- e,pE y hy] at hx;cases hx
  refine bn ⟨wB,n',i,_,wJ,X9,λy hy=>?_,sw,CI wH,?_,?_,?_,rfl⟩
  ·rcases CH y hy with h | h
   ·exact pE y h
   ·exact sH.free h
  ·refine jP.trans ?_;rw [vO,VN];refine List.Perm.trans ?_ Cn;exact((hp.cons _).cons _)
  ·rcases su with h | h
   ·have hl:=BZ List.length h;rw [Aa,Aa] at hl;rw [h,hl];exact wI
   ·have hl:=BZ List.length h;rw [Aa,Ag,Aa] at hl;have im:n'.length=n.length+1:=hl;rw [h,im,vO,wI]
  ·rcases su with h | h
   ·have hl:=BZ List.length h;rw [Aa,Aa] at hl;omega
   ·have hl:=BZ List.length h;rw [Aa,Ag,Aa] at hl;have im:n'.length=n.length+1:=hl;omega
 rintro σ H3 ⟨Ya,n0,b,u,hR,sH,pE,hF,CL,hp,wI,hlen,rfl⟩;have tl:=hp.length_eq;rw [AH,zL] at tl;have Mi:az n0:=Kv (vN<|by omega) hp;have Yb:(n0.map (·.1)).Nodup:=by rw [wI];exact vN<|by omega
 refine a8 8 nd<|dB<|aB ⟨Z0,λL hL=>?_⟩;have s7:=aT hL<|.lst [];have Mj:R≠L:=bU hR.lst hL;have fL:H2 L=none:=sH.free hL;have wK:ah (upd H3 L<|.lst []) L [] []:=⟨rfl,aA,λi a r h1=>by simp at h1,by simp⟩;refine vE (λk σ H4=>∃(as l4:List<|Addr×Addr) (n n2:Net) (b:Int) (u9 Mk:Option V),k=n.length/\ah H4 R as n/\ah H4 L l4 n2/\ak H2 H4/\(∀ a∈as,a.2≠L)/\(∀ a∈l4,a.2≠R)/\(∀ a∈l4,H2 a.2=none)/\n.length+n2.length=n0.length /\
   (ag n++ag n2).Perm (ag n0)/\(n.map (·.1)++n2.map (·.1)).Perm (n0.map (·.1))/\(NE n0->NE n/\NE n2)/\HF (n++n2) /\
   σ=[some<|.int b,some<|.int m,some<|.int sm,some<|.int (mn:Int),some<|.ref lt,some<|.ref lp,some<|.ref R,u,some<|.ref L,u9,Mk])
  (m0:=n0.length) ⟨Ya,[],n0,[],b,_,_,rfl,hR.same s7,wK,sH.trans s7,λa ha=>(hR.fresh hL ha).symm,λa ha=>(nomatch ha),λa ha=>(nomatch ha),rfl,by simp [ag],by simp,λh=>⟨h,λr hr=>(nomatch hr)⟩,by rw [Bh];exact CL,rfl⟩ ?_
 rintro k σ H4 ⟨as,l4,n,n2,b,u9,Mk,rfl,hR,ku,sH,aL,aR,Ml,sC,pt,pn,bA,wH,rfl⟩;have cq:=hR.len;have CM:=ku.len;have Yc:(ag n).length<=70:=by
  have:=pt.length_eq;rw [Ag] at this;omega
 refine fW (vD hu)<|ae 6<|dB<|aB ⟨Z0,λp kc=>?_⟩;have s8:=aT kc<|.lst []
 by_cases h0:n=[]
 ·subst h0;have ea:as=[]:=Bb.mp (by simpa using cq);subst ea;refine⟨1,_,by decide,J' (k:=0) (xs:=[]) (ys:=[]) (λ_=>true) (ao.of<|s8 _ _ hR.lst) (ao.of aA) rfl (λj x y hx _=>by simp at hx),_,rfl,cL<|cA<|ae 8 ?_⟩;have fC:(ag n2).Perm (ag n0):=pt;have Yd:(n2.map (·.1)).Perm (n0.map (·.1)):=pn;have l2:n2.length=n0.length:=by simpa using sC
  refine q L l4 n2 _ (CD.trans<|sH.trans s8) (CD.free fL) (ku.same s8) (λz hz=>?_) (Yd.nodup_iff.mpr Yb) ?_ wH (by rw [fC.length_eq];omega) (by omega) λa ha=>CD.free<|Ml a ha
  ·rw [fC.count_eq];exact Mi z<|fC.mem_iff.mp hz
  ·rcases hF.ne with ⟨nm,h⟩ | h
   ·subst h;have t0:ag n2=[]:=List.Perm.eq_nil fC
    match n2,l2,t0 with
    | [(nm2,zs)],_,t0=>
     have:zs=[]:=by simpa [ag] using t0
     subst this;exact .inl ⟨_,rfl⟩
   ·refine VO (bA h).2 λe=>?_;rw [e] at l2;exact hF.some<|Bb.mp l2.symm
 ·have np:0 < n.length:=Cp.mpr h0;refine⟨1,_,by decide,Ka (k:=1) (ao.of<|s8 _ _ hR.lst) (ao.of (xs:=[]) aA) (by rw [Aa,cq];exact Di np),_,rfl,bW ?_⟩;have hR:=hR.same s8;have ku:=ku.same s8;have sH:=sH.trans s8;generalize upd H4 p (.lst [])=H5 at hR ku sH ⊢;have r0:0<=b % (n.length:Int):=Bv _ (by omega);have r1:b % (n.length:Int) < n.length:=Cb _ (by omega);obtain⟨j,hj⟩:∃ k:Nat,b % (n.length:Int)=k:=⟨(b % (n.length:Int)).toNat,by omega⟩;have n8:j < n.length:=by omega
  obtain⟨a,ea,eJ,et,el,er⟩:=hR.at n8;refine a8 9 nd<|UW GQ PySem.F.slot_list_pop PySem.F.type_list_pop S6<|ae 6 ⟨X5 hR.lst,aW cY<|ae 0<|cZ dU T.len DG<|aq<|ae 6<|aB ⟨R,_,rfl,.inl<|ao.of hR.lst,?_⟩⟩;rw [Aa,cq];refine⟨_,_,rfl,rfl,by omega,R,_,_,j,.ref a.1,rfl,rfl,hR.lst,by rw [hj];omega,by rw [hj];omega,?_,?_,?_⟩
  ·rw [hj,Aa,cq];unfold seqIndex?;have c1:¬((j:Int) < 0):=by omega
   simp only [c1,CJ];have c2:(decide (0<=(j:Int)) && decide ((j:Int) < (n.length:Int)))=true:=by
    rw [Db,DQ,DQ];omega
   rw [BL c2,Ca]
  ·rw [Ae,ea];rfl
  have R6:=hR.erase n8;have am:a∈as:=Al ea;have CO:∀ x∈as,x.2≠R:=λx hx e=>by
   obtain⟨zs,e2⟩:=hR.lists hx;have h3:=hR.lst;rw [<- e,e2] at h3;have h4:=HO.lst.inj<|Option.some.inj h3;cases as with
   | nil=>cases hx
   | cons b' bs=>
    cases zs with
    | nil=>simp at h4
    | cons y r=>simp at h4
  have L6:=ku.upd (o:= .lst<|(as.map λa=>V.ref a.1).eraseIdx j) hR.lst Mj.symm aR;have sD:(upd H5 R<|.lst<|(as.map λa=>V.ref a.1).eraseIdx j) a.1=some (.tup [.str n[j].1,.ref a.2]):=by rw [ax<|cr et hR.lst λe=>nomatch e];exact et
  have wL:(upd H5 R<|.lst<|(as.map λa=>V.ref a.1).eraseIdx j) a.2=some (Ls<|row n j):=by rw [ax<|CO a am];exact el
  have n4:ak H2 (upd H5 R<|.lst<|(as.map λa=>V.ref a.1).eraseIdx j):=dC sH fR;generalize upd H5 R (.lst<|(as.map λa=>V.ref a.1).eraseIdx j)=H6 at R6 L6 sD wL n4 ⊢;have Ye:=R6.len;have oa:(n.eraseIdx j).length=n.length - 1:=by rw [Ey,BL n8]
  refine a8 0 nd<|aW gB<|ae 0<|aW fG<|cZ dU T.len DG<|aq<|ae 6<|aB ⟨R,_,rfl,.inl<|ao.of R6.lst,aF ⟨_,_,rfl,rfl,?_⟩⟩;rw [Aa,Ye,oa];refine⟨_,_,rfl,rfl,⟨by omega,by omega⟩,?_⟩;have Yf:=iL n j;refine a8 10 nd<|cZ (Iv rfl) T.max RB<|aq<|aF<|aq<|cZ dU T.len DG<|aq<|bb cH<|ae 9<|aF ⟨a.1,_,_,.ref a.2,rfl,rfl,aQ.of sD,rfl,aB ⟨a.2,_,rfl,.inl<|ao.of wL,?_⟩⟩;rw [Aa];refine aB ⟨1,_,rfl,?_⟩;have Yg:(if((row n j).length:Int) > 1 then((row n j).length:Int) else 1)=((max 1 (row n j).length:Nat):Int):=by
   split <;> omega
  rw [Yg];show Run _ _ _ [some<|.int<|b / ((n.length - 1:Nat)+1:Int),some<|.int m,some<|.int sm,some<|.int (mn:Int),some<|.ref lt,some<|.ref lp,some<|.ref R,u,some<|.ref L,some<|.ref a.1,some<|.int ((max 1 (row n j).length:Nat):Int)] H6;generalize b / ((n.length - 1:Nat)+1:Int)=b2;have z0:0<=b2 % ((max 1 (row n j).length:Nat):Int):=Bv _ (by omega);obtain⟨i,hi⟩:∃ k:Nat,b2 % ((max 1 (row n j).length:Nat):Int)=k:=⟨(b2 % ((max 1 (row n j).length:Nat):Int)).toNat,by omega⟩;refine hV<|jH<|ae 8 ⟨L,rfl,⟨_,L6.lst⟩,dW<|aq<|bb cH<|ae 9<|aF ⟨a.1,_,_,.str n[j].1,rfl,rfl,aQ.of sD,rfl,?_⟩⟩;refine aq (aW S7<|vt vg<|bb cH<|ae 9<|aF ⟨a.1,_,_,.ref a.2,rfl,rfl,aQ.of sD,rfl,vx<|aW cY<|ae 0<|ae 10 ⟨b2,((max 1 (row n j).length:Nat):Int),rfl,rfl,by omega,_,rfl,vw ⟨a.2,_,rfl,ao.of wL,λp1 oe=>?_⟩⟩⟩);rw [hi,Kx];have t1:=aT oe<|Ls<|(row n j).drop i;refine vt vg (bb cH<|ae 9<|aF ⟨a.1,_,_,.ref a.2,rfl,rfl,aQ.of<|t1 _ _ sD,rfl,vw<|vx<|aW cY<|ae 0<|ae 10 ⟨b2,((max 1 (row n j).length:Nat):Int),rfl,rfl,by omega,_,rfl,a.2,_,rfl,ao.of<|t1 _ _ wL,λp2 kc=>?_⟩⟩);rw [hi,VQ];have t2:=aT kc<|Ls<|(row n j).take i;refine⟨p1,p2,_,_,rfl,rfl,t2 _ _ aA,aA,?_,λp3 og=>?_⟩
  ·rw [Aa,Aa,Cz,Bl];exact small<|by omega
  rw [<- Ak];have t3:=aT og<|Ls<|(row n j).drop i++(row n j).take i;refine aB ⟨Z2,λt4 Yh=>?_⟩;have s4:=aT Yh<|.tup [.str n[j].1,.ref p3];have oh:=t1.trans<|t2.trans<|t3.trans s4;have L7:=L6.same oh;have R7:=R6.same oh;have Yi:p3≠L:=λe=>by rw [e,(t1.trans t2) _ _ L6.lst] at og;cases og
  have Yj:p3≠R:=λe=>by rw [e,(t1.trans t2) _ _ R6.lst] at og;cases og
  have Yk:p3∉l4.map (·.2):=λhm=>by
   obtain⟨y,hy,e⟩:=An.mp hm;exact(L6.same<|t1.trans t2).fresh og hy e.symm
  have L8:=L7.more (t:=t4) (l:=p3) (pt:=n[j].1) (zs:=(row n j).drop i++(row n j).take i) aA (s4 _ _ aA) Yk Yi;refine⟨_,L7.lst,by rw [Aa,CM];exact cn (by omega),?_⟩;have Mm:∀ x∈as.eraseIdx j,x.2≠L:=λx hx=>aL x<|Fz hx;have R8:=R7.upd (o:= .lst<|l4.map (λa=>V.ref a.1)++[.ref t4]) L7.lst Mj Mm;refine a8 0 nd (aW gB<|ae 0<|ae 10 ⟨b2,((max 1 (row n j).length:Nat):Int),rfl,rfl,⟨by omega,by omega⟩,?_⟩);have pe:=Kw n j n8;have ne:=VP n j n8;have Mp:(ag (n.eraseIdx j)++ag (n2++[(n[j].1,(row n j).drop i++(row n j).take i)])).Perm (ag n0):=by
   refine List.Perm.trans ?_ pt;unfold ag;rw [Dr];show(ag (n.eraseIdx j)++(ag n2++(((row n j).drop i++(row n j).take i)++[]))).Perm _;rw [Bh,er];have w1:(n[j].2.drop i++n[j].2.take i).Perm n[j].2:=AI _ _;refine((w1.append_left _).append_left _).trans ?_;have w2:(ag n++ag n2).Perm ((n[j].2++ag (n.eraseIdx j))++ag n2):=pe.append_right _;refine List.Perm.trans ?_ w2.symm;rw [Aw];refine List.Perm.trans ?_<|Cn (l₁:=ag (n.eraseIdx j)++ag n2);rw [Aw]
  refine bn ⟨n.length - 1,by omega,as.eraseIdx j,l4++[(t4,p3)],n.eraseIdx j,n2++[(n[j].1,(row n j).drop i++(row n j).take i)],_,_,_,oa.symm,R8,L8,dC (n4.trans oh) fL,Mm,λx hx=>?_,λx hx=>?_,?_,Mp,?_,λh=>⟨λr hr=>?_,λr hr=>?_⟩,XI n8 (by have:=Cb b2 (show(0:Int) < ((max 1 (row n j).length:Nat):Int) by omega);rw [hi] at this;exact Int.ofNat_lt.mp this) Mi pt Mp wH,rfl⟩
  ·rcases Aq.mp hx with hx | hx
   ·exact aR x hx
   ·rw [Aj] at hx;rw [hx];exact Yj
  ·rcases Aq.mp hx with hx | hx
   ·exact Ml x hx
   ·rw [Aj] at hx;rw [hx];exact n4.free<|t1.free<|t2.free og
  ·rw [Ag,oa];simp;omega
  ·refine List.Perm.trans ?_ pn;rw [Ak];show((n.eraseIdx j).map (·.1)++(n2.map (·.1)++[n[j].1])).Perm _;refine List.Perm.trans ?_ (ne.append_right _).symm;rw [<- Aw];exact Cn
  ·exact(bA h).1 r<|Fz hr
  ·rcases Aq.mp hr with hr | hr
   ·exact(bA h).2 r hr
   ·rw [Aj] at hr;rw [hr];intro e;have w1:=(AI (row n j) i).length_eq;have e':(row n j).drop i++(row n j).take i=[]:=e;rw [e'] at w1;have:=(bA h).1 n[j]<|Bt n8;rw [er] at w1;exact this<|Bb.mp w1.symm
theorem iw{H H':Hp}{l:Addr}(s:ak H H')(h:H' l=none):H l=none:=by
 cases e:H l with
 | none=>rfl
 | some v=>rw [s _ _ e] at h;cases h
end
abbrev Tn(p:Str)(j:Int):HO:= .tup [.str p,.int j]
def sE:Sp:=λvs H Q _=>∃(t l:Addr) (p:Str) (zs:List Str),vs=[.ref t]/\H t=some (.tup [.str p,.ref l])/\H l=some (Ls zs)/\zs.length<=1000 /\
 ∀(L:Addr) (ts:List Addr) (H':Hp),ak H H'->H L=none->H' L=some (.lst<|ts.map V.ref)->ts.length=zs.length->(∀(j:Nat) t,ts[j]?=some t->H' t=some (Tn p j))->Q (.ref L) H'
section
variable{X:Cx}{elt tg:Expr}{ifs:List Expr}{scope:Scope}{σ:St}{H:Hp}{N':List Str}{A:Addr}{after:Hp->Prop}
theorem Mq{lo:Int}{n:Nat}(Pv:Nat->St->Hp->Prop)(h0:Pv 0 σ H)
  (hs : ∀ i σ' H', i < n → Pv i σ' H' → m9 X N' scope tg (.int<|lo + i) σ' H' λσ2 H3 => ng X N' scope ifs σ2 H3 λb H4 =>
   if b=true then m8 X N' scope elt σ2 H4 λv H5=>∃ ys,H5 A=some (.lst ys)/\ys.length < sizeLine/\Pv (i+1) σ2 (upd H5 A<|.lst<|ys++[v]) else Pv (i+1) σ2 H4)
  (hd:∀ σ' H',Pv n σ' H'->after H'):iY X N' scope tg ifs elt (lg lo n) A after σ H:=by
 refine⟨λi m σ' H'=>m=n - i/\i<=n/\Pv i σ' H',⟨_,rfl,Bo _,h0⟩,?_⟩;rintro i m σ' H' ⟨rfl,hi,p⟩
 by_cases aM:i < n
 ·refine .inr ⟨aM,Pv<|i+1,λσ' H' p'=>⟨n - (i+1),by omega,rfl,aM,p'⟩,λx H2 y=>?_⟩;obtain⟨e,y⟩:=y;subst e y;exact hs i σ' _ aM p
 ·have e:i=n:=by omega
  subst e;exact .inl ⟨Am _,hd σ' H' p⟩
end
section
variable{P:Program}{w:World}{K:PySem.W.Frag}{mg:Str->Option Value}{base:Heap}
abbrev Mr:List Str:=["row","point","ties"]
abbrev Mt:List Str:=["row","point","ties","place"]
theorem jo:au Mr ["row"] (bg vP):=⟨rfl,rfl,rfl,by decide +kernel,rfl,by decide +kernel,by decide +kernel⟩
theorem Yl:Mt.Nodup:=by decide +kernel
theorem Ym{f:Addr}{fd:FuncData}(F:bX K "ends_round" "ends_round" vP f fd)(T:Txt mg):aJ P w K mg base bT 1 f fd ["row"] sE:=by
 refine F.gb jo (λvs H Q E h=>?_) λb0 H vs Q E hr h=>?_
 ·obtain⟨t,l,p,zs,rfl,_⟩:=h;rfl
 obtain⟨t,l,p,zs,rfl,ht,hl,hz,q⟩:=h;have nd:=jo.nd;show Run _ _ _ [some<|.ref t,none,none] H;refine Ju<|ae 0<|jb rfl (aQ.of ht) (bz 1 nd<|bz 2 nd ?_);show Run _ _ _ [some<|.ref t,some<|.str p,some<|.ref l] H;refine cA<|lF (bg vP) Mr Mt 1 (yt rfl T.range (ta:=pA _ _) eI (kd _ [] _ rfl)) ?_;show Ea _ _ _ _ _;refine aq (cZ dU T.len DG<|aq<|ae 2<|aB ⟨l,_,rfl,.inl<|ao.of hl,aB ⟨_,rfl,by omega,by rw [Aa];omega,λD hD=>?_⟩⟩);rw [Aa,Ca];refine Mq (λi σ' H'=>(∃ v,σ'=[some<|.ref t,some<|.str p,some<|.ref l]++[v])/\∃ ts:List Addr,ts.length=i/\H' D=some (.lst<|ts.map V.ref)/\(∀(j:Nat) t,ts[j]?=some t->H' t=some (Tn p j))/\ak H H')
  ⟨⟨none,rfl⟩,[],rfl,aA,λj t h=>by simp at h,aT hD _⟩ ?_ ?_
 ·rintro i σ' H' hi ⟨⟨v,rfl⟩,ts,gK,eD,jQ,sm⟩;rw [Dj];intro cl C' s₀ H₀ ex;refine bz 3 Yl ?_;intro cl C' s₀ H₀ ex;refine fq ?_;rw [BL rfl];intro cl C' s₀ H₀ ex;refine dW<|aq<|ae 1<|aq<|ae 3<|aB ⟨Z2,λu hu=>?_⟩;have nu:u≠D:=λe=>by rw [e,eD] at hu;cases hu
  have Yn:=iw sm hu;refine⟨ts.map V.ref,by rw [ax<|Ne.symm nu];exact eD,by rw [Aa];exact cn (by omega),⟨_,rfl⟩,ts++[u],by rw [Ag,gK];rfl,by rw [aA,Ak];rfl,?_,?_⟩
  ·intro j t' kz
   by_cases hj:j < ts.length
   ·rw [Ay hj] at kz;have e:=jQ j t' kz;have n1:t'≠D:=cr e eD λz=>nomatch z;rw [ax n1,ax<|bU e hu];exact e
   ·rw [Bc<|by omega] at kz;have iu:j - ts.length=0:=by
     have:=(Ac.mp kz).1;simp at this;omega
    rw [iu] at kz;cases kz;have:j=i:=by omega
    rw [this,ax nu,aA]
  ·intro c o hc;rw [ax<|bU hc hD,ax<|bU hc Yn];exact sm _ _ hc
 ·rintro σ' H' ⟨_,ts,gK,eD,jQ,sm⟩;exact q D ts H' sm hD eD gK jQ
def oj(g:Int->Int):Sp:=λvs H Q _=>∃(e:Addr) (p:Str) (j m:Int),vs=[.ref e,.int m]/\H e=some (Tn p j)/\0 < m/\∀ t H',ak H H'->H' t=some (Tn p<|g j % m)->Q (.ref t) H'
abbrev Yo:List Str:=["end","many","point","place"]
theorem jq:au Yo ["end","many"] (bg zM):=⟨rfl,rfl,rfl,by decide +kernel,rfl,by decide +kernel,by decide +kernel⟩
theorem Yp{f:Addr}{fd:FuncData}(F:bX K "turned_left" "turned_left" zM f fd)(T:Txt mg):aJ P w K mg base bT 1 f fd ["end","many"] (oj λj=>j+1):=by
 refine F.gb jq (λvs H Q E h=>?_) λb0 H vs Q E hr h=>?_
 ·obtain⟨e,p,j,m,rfl,_⟩:=h;rfl
 obtain⟨e,p,j,m,rfl,he,hm,q⟩:=h;have nd:=jq.nd;show Run _ _ _ [some<|.ref e,some<|.int m,none,none] H;refine Ju<|ae 0<|jb rfl (aQ.of he) (bz 2 nd<|bz 3 nd ?_);refine cA (dW<|aq<|ae 2<|aq<|aW cY<|aW fG<|ae 3<|aF ⟨_,_,rfl,rfl,ae 1 ⟨_,_,rfl,rfl,(by show 0 < m;exact hm),aB ⟨Z2,λt ht=>?_⟩⟩⟩);exact q t _ (aT ht _) aA
theorem Yq{kvs:List (Key×V)}:∀{acc:List (Key×V)},((acc++kvs).map (·.1)).Nodup->kvs.foldl (λa p=>putK a p.1 p.2) acc=acc++kvs:=by
 induction kvs with
 | nil=>intro acc _;simp
 | cons p r ih=>
  intro acc h;have hn:aC acc p.1=none:=by
   cases e:aC acc p.1 with
   | none=>rfl
   | some v=>
    have hm:=Jf e;rw [Ak,Ap] at h;exact absurd rfl ((Cc.mp h).2.2 _ hm _ Ad)
  rw [Dz,Ja _ hn,ih (by rw [Aw];exact h),Aw];rfl
theorem Mu:∀{kvs:List (Key×V)} {i:Nat} {p:Key×V},(kvs.map (·.1)).Nodup->kvs[i]?=some p->aC kvs p.1=some p.2
 | [],_,_,_,h=>by simp at h
 | q :: r,0,p,_,h=>by
  cases h;exact g8 rfl
 | q :: r,i+1,p,hn,h=>by
  rw [Ap,Bf] at hn;have hm:r[i]?=some p:=by simpa using h
  rw [g9 λe=>hn.1<|by rw [e];exact An.mpr ⟨p,Al hm,rfl⟩];exact Mu hn.2 hm
def f7(n:Net)(as:List<|Addr×Addr):List (Key×V):=List.zipWith (λr a=>(Sum.inr r.1,V.ref a.2)) n as
theorem Mv:∀(n:Net) (as:List<|Addr×Addr),as.length=n.length->(f7 n as).map (·.1)=(n.map (·.1)).map Sum.inr
 | [],[],_=>rfl
 | [],_ :: _,h=>by simp at h
 | _ :: _,[],h=>by simp at h
 | r :: n,a :: as,h=>by
  have:=Mv n as (by simpa using h);show Sum.inr r.1 :: (f7 n as).map (·.1)=_;rw [this];rfl
theorem Mw{n:Net}{as:List (Addr×Addr)}{i:Nat}{r:Str×List Str}{a:Addr×Addr}(h1:n[i]?=some r)(h2:as[i]?=some a):(f7 n as)[i]?=some (Sum.inr r.1,.ref a.2):=by
 unfold f7;rw [List.getElem?_zipWith,h1,h2]
theorem Yr{l:List Str}(h:l.Nodup):(l.map (Sum.inr:Str->Key)).Nodup:=by
 rw [Cd,Dy];exact(Cd.mp h).imp λh q=>h<|Sum.inr.inj q
end
def nameAt(n:Net)(r:Nat):Str:=((n[r]?).map (·.1)).getD ⟨#[]⟩
def key(n:Net)(e:Nt.End):List Key:=[Sum.inr<|nameAt n e.1,Sum.inl (e.2:Int)]
abbrev TN(n:Net)(e:Nt.End):HO:=Tn (nameAt n e.1) (e.2:Int)
theorem pU{n:Net}{r:Nat}(h:r < n.length):nameAt n r=n[r].1:=by unfold nameAt;rw [Ab h];rfl
theorem om{n:Net}(hN:(n.map (·.1)).Nodup){a b:Nt.End}(ha:a.1 < n.length)(hb:b.1 < n.length)(h:key n a=key n b):a=b:=by
 unfold key at h
 injection h with h1 h2
 injection h2 with h2 _
 have e1:=Sum.inr.inj h1;have e2:=Sum.inl.inj h2;rw [pU ha,pU hb] at e1;have e3:a.1=b.1:=by
  have la:a.1 < (n.map (·.1)).length:=by rw [Aa];exact ha
  have lb:b.1 < (n.map (·.1)).length:=by rw [Aa];exact hb
  refine(Gk (i:=a.1) (j:=b.1) (h₀:=la) (h₁:=lb) hN).mp ?_;rw [Gm,Gm];exact e1
 exact DY e3<|by omega
theorem pV{n:Net}{r p:Nat}{z:Str}(hr:r < n.length)(hz:(row n r)[p]?=some z):∃ rest,aV n=(aV (n.take r)++aU r ((row n r).take p) 0)++(z,(r,p)) :: rest:=by
 have e1:aV n=aV (n.take<|r+1)++c6 (0+(n.take<|r+1).length) (n.drop<|r+1):=by
  have:=zJ (n.take<|r+1) (n.drop<|r+1) 0;rw [Cu] at this;exact this
 have e2:aU r (row n r) 0=aU r ((row n r).take<|p+1) 0++aU r ((row n r).drop<|p+1) (0+((row n r).take<|p+1).length):=by
  unfold aU;rw [<- Ak,<- KQ,Cu]
 rw [e1,nG hr,e2,lK hz];refine⟨aU r ((row n r).drop<|p+1) (0+((row n r).take<|p+1).length)++c6 (0+(n.take<|r+1).length) (n.drop<|r+1),?_⟩;simp only [Aw,Fw,QL]
theorem Mx{κ:Type} [DecidableEq κ] (kvs:List<|κ×V) (k:κ) (v:V):(putK kvs k v).map (·.1)=if k∈kvs.map (·.1) then kvs.map (·.1) else kvs.map (·.1)++[k]:=by
 have e:(kvs.any λkv=>decide (kv.1=k))=decide (k∈kvs.map (·.1)):=by
  rw [Fn,List.any_eq_true,IK,An];exact⟨λ⟨p,h1,h2⟩=>⟨p,h1,CG h2⟩,λ⟨p,h1,h2⟩=>⟨p,h1,BW h2⟩⟩
 unfold putK;rw [e]
 by_cases h:k∈kvs.map (·.1)
 ·rw [BL<|BW h,BL h,Bj];refine At λp _=>?_;show(if p.1=k then(p.1,v) else p).1=p.1
  split <;> rfl
 ·rw [BK (by simpa using h),BK h,Ak];rfl
theorem fD{κ:Type} [DecidableEq κ] {kvs:List (κ×V)} {k j:κ} {v:V}:j∈(putK kvs k v).map (·.1)↔j∈kvs.map (·.1)\/j=k:=by
 rw [Mx]
 split
 ·exact⟨.inl,λh=>h.elim id λe=>by rw [e];assumption⟩
 ·rw [Aq,Aj]
theorem My{κ:Type} [DecidableEq κ] {kvs:List (κ×V)} {k:κ} {v:V} (h:(kvs.map (·.1)).Nodup):((putK kvs k v).map (·.1)).Nodup:=by
 rw [Mx]
 split
 ·exact h
 ·rename_i hn;exact m4 h hn
structure ix(n:Net)(done:List<|Str×Nt.End)(H:Hp)(kM:List<|Key×V)(kO:List<|List Key×V):Prop where
 m0:∀ z,bw done z=[]->aC kM (Sum.inr z)=none
 m1:∀ z a rest,bw done z=a :: rest->∃ t,aC kM (Sum.inr z)=some (.ref t)/\H t=some (TN n a)
 o:∀ z a b rest,bw done z=a :: b :: rest->(∃ u,aC kO (key n a)=some (.ref u)/\H u=some (TN n b))/\∃ u,aC kO (key n b)=some (.ref u)/\H u=some (TN n a)
 sub:∀ p∈done,aN n p.2=some p.1
 dq:kM.length<=done.length
 eR:kO.length<=2 * done.length
 ks:∀ k∈kO.map (·.1),∃ p∈done,k=key n p.2
 nd:(kO.map (·.1)).Nodup
theorem ix.keep{n:Net}{done:List (Str×Nt.End)}{H H':Hp}{kM:List (Key×V)}{kO:List (List Key×V)}(I:ix n done H kM kO)(k:∀ t p j,H t=some (Tn p j)->H' t=some (Tn p j)):ix n done H' kM kO where
 m0:=I.m0
 m1:=λz a rest h=>let ⟨t,e1,e2⟩:=I.m1 z a rest h;⟨t,e1,k _ _ _ e2⟩
 o:=λz a b rest h=>let ⟨⟨u,e1,e2⟩,⟨v,e3,e4⟩⟩:=I.o z a b rest h;⟨⟨u,e1,k _ _ _ e2⟩,⟨v,e3,k _ _ _ e4⟩⟩
 sub:=I.sub
 dq:=I.dq
 eR:=I.eR
 ks:=I.ks
 nd:=I.nd
theorem sG{done:List (Str×Nt.End)}{z:Str}{a:Nt.End}(h:a∈bw done z):(z,a)∈done:=by
 unfold bw at h;obtain⟨⟨y,b⟩,hm,rfl⟩:=An.mp h;obtain⟨h1,h2⟩:=Ds.mp hm;have:y=z:=CG h2;subst this;exact h1
theorem ix.new{n:Net}{done:List (Str×Nt.End)}{H:Hp}{kM:List (Key×V)}{kO:List (List Key×V)}(I:ix n done H kM kO){z:Str}{e:Nt.End}{t:Addr}(ht:H t=some (TN n e))(hz:aN n e=some z)(h0:bw done z=[]) :
  ix n (done++[(z,e)]) H (putK kM (Sum.inr z)<|.ref t) kO where
 m0:=λy hy=>by
  rw [cW] at hy;obtain⟨h1,h2⟩:=Fk.mp hy;have bA:¬ z=y:=λq=>by rw [BL q] at h2;cases h2
  rw [dL,BK λq=>bA (Sum.inr.inj q).symm];exact I.m0 y h1
 m1:=λy a rest hy=>by
  rw [cW] at hy
  by_cases q:z=y
  ·subst q;rw [h0,BL rfl] at hy;cases hy;exact⟨t,by rw [dL,BL rfl],ht⟩
  ·rw [BK q,Bh] at hy;obtain⟨u,e1,e2⟩:=I.m1 y a rest hy;exact⟨u,by rw [dL,BK λp=>q (Sum.inr.inj p).symm];exact e1,e2⟩
 o:=λy a b rest hy=>by
  rw [cW] at hy
  by_cases q:z=y
  ·subst q;rw [h0,BL rfl] at hy;cases hy
  ·rw [BK q,Bh] at hy;exact I.o y a b rest hy
 sub:=λp hp=>by
  rcases Aq.mp hp with h | h
  ·exact I.sub p h
  ·rw [Aj.mp h];exact hz
 dq:=by
  have:=gD kM (Sum.inr z)<|.ref t;have:=I.dq;rw [Ag,Ct];omega
 eR:=by
  have:=I.eR;rw [Ag,Ct];omega
 ks:=λk hk=>let ⟨p,hp,e⟩:=I.ks k hk;⟨p,Be _ hp,e⟩
 nd:=I.nd
theorem ix.old{n:Net}(hN:(n.map (·.1)).Nodup){done:List (Str×Nt.End)}{H:Hp}{kM:List (Key×V)}{kO:List (List Key×V)}(I:ix n done H kM kO){z:Str}{e a:Nt.End}{te tm:Addr}(ht:H te=some (TN n e))(hm:H tm=some (TN n a))(hz:aN n e=some z)(h1:bw done z=[a])(Ys:a≠e) :
  ix n (done++[(z,e)]) H kM (putK (putK kO (key n e)<|.ref tm) (key n a)<|.ref te) where
 m0:=λy hy=>by
  rw [cW] at hy;exact I.m0 y (Fk.mp hy).1
 m1:=λy c rest hy=>by
  rw [cW] at hy
  by_cases q:z=y
  ·subst q;rw [h1,BL rfl] at hy;cases hy;exact I.m1 z a [] h1
  ·rw [BK q,Bh] at hy;exact I.m1 y c rest hy
 o:=λy c b rest hy=>by
  rw [cW] at hy;have ta:aN n a=some z:=I.sub (z,a)<|sG<|by rw [h1];exact Aj.mpr rfl
  by_cases q:z=y
  ·subst q;rw [h1,BL rfl] at hy;cases hy;refine⟨⟨te,by rw [dL,BL rfl],ht⟩,⟨tm,?_,hm⟩⟩;rw [dL,BK λp=>Ys (om hN (cT hz) (cT ta) p).symm,dL,BL rfl]
  ·rw [BK q,Bh] at hy;have tc:aN n c=some y:=I.sub (y,c) (sG<|by rw [hy];exact Ad);have tb:aN n b=some y:=I.sub (y,b) (sG<|by rw [hy];exact Af _ Ad);have ne:∀ x:Nt.End,aN n x=some y->¬ key n x=key n a/\¬ key n x=key n e:=λx hx=>by
    refine⟨λp=>?_,λp=>?_⟩
    ·have:=om hN (cT hx) (cT ta) p;rw [this,ta] at hx;exact q<|Option.some.inj hx
    ·have:=om hN (cT hx) (cT hz) p;rw [this,hz] at hx;exact q<|Option.some.inj hx
   obtain⟨⟨u,e1,e2⟩,⟨v,e3,e4⟩⟩:=I.o y c b rest hy;refine⟨⟨u,?_,e2⟩,⟨v,?_,e4⟩⟩
   ·rw [dL,BK (ne c tc).1,dL,BK (ne c tc).2];exact e1
   ·rw [dL,BK (ne b tb).1,dL,BK (ne b tb).2];exact e3
 sub:=λp hp=>by
  rcases Aq.mp hp with h | h
  ·exact I.sub p h
  ·rw [Aj.mp h];exact hz
 dq:=by
  have:=I.dq;rw [Ag,Ct];omega
 eR:=by
  have h1:=gD (putK kO (key n e)<|.ref tm) (key n a)<|.ref te;have h2:=gD kO (key n e)<|.ref tm;have:=I.eR;rw [Ag,Ct];omega
 ks:=λk hk=>by
  rcases fD.mp hk with hk | rfl
  ·rcases fD.mp hk with hk | rfl
   ·obtain⟨p,hp,e⟩:=I.ks k hk;exact⟨p,Be _ hp,e⟩
   ·exact⟨(z,e),Ar _<|Aj.mpr rfl,rfl⟩
  ·exact⟨(z,a),Be _ (sG<|by rw [h1];exact Aj.mpr rfl),rfl⟩
 nd:=My<|My I.nd
theorem ix.whole{n:Net}(T:az n){H:Hp}{kM:List (Key×V)}{kO:List (List Key×V)}(I:ix n (aV n) H kM kO){e:Nt.End}(he:e∈ends n):∃ u,aC kO (key n e)=some (.ref u)/\H u=some (TN n<|other n e):=by
 obtain⟨z,hz⟩:=af.mp he;obtain⟨a,b,hp,b5,Ks⟩:=pI T hz;have jP:bw (aV n) z=a :: b :: []:=hp;have ta:aN n a=some z:=aY.mp (by rw [hp];simp);have tb:aN n b=some z:=aY.mp (by rw [hp];simp);obtain⟨o1,o2⟩:=I.o z a b [] jP
 rcases Ks with rfl | rfl
 ·have:b=other n e:=((rZ T hz).mp tb).resolve_left<|Ne.symm b5;rw [<- this];exact o1
 ·have:a=other n e:=((rZ T hz).mp ta).resolve_left b5;rw [<- this];exact o2
def oq:Sp:=λvs H Q _=>∃(R:Addr) (as:List<|Addr×Addr) (n:Net),vs=[.ref R]/\ah H R as n/\(n.map (·.1)).Nodup/\az n/\n.length<=1000/\(ag n).length<=1000 /\
 ∀(d:Addr) (kvs:List<|List Key×V) (H':Hp),ak H H'->H d=none->H' d=some (.dT kvs)->(∀ e∈ends n,∃ u,aC kvs (key n e)=some (.ref u)/\H' u=some (TN n<|other n e))->(kvs.map (·.1)).Nodup->(∀ k∈kvs.map (·.1),∃ e∈ends n,k=key n e)->kvs.length<=2000->Q (.ref d) H'
section
variable{X:Cx}{D:Ends}{σ:St}{H:Hp}{body:List Stmt}
theorem Yu{tg:Expr}{a b:Addr}{xs ys:List V}{after:St->Hp->Prop}(hlen:xs.length=ys.length)(Pv:Nat->St->Hp->Prop)(h0:Pv 0 σ H)(hl:∀ i σ H,i<=xs.length->Pv i σ H->ao X.K H a xs/\ao X.K H b ys)
  (hs:∀ i x y T σ H,xs[i]?=some x->ys[i]?=some y->Pv i σ H->H T=none->Eg X tg (.ref T) σ (upd H T<|.tup [x,y]) λσ2 H2=>Run X body {D with nx:=Pv<|i+1,ct:=Pv<|i+1,bk:=after} σ2 H2) (hd:∀ σ H,Pv xs.length σ H->after σ H):Loop X tg body (we X.K a b) D after σ H:=by
 refine⟨λi m σ H=>m=xs.length - i/\i<=xs.length/\Pv i σ H,⟨xs.length,by simp,Bo _,h0⟩,?_⟩;rintro i m σ H ⟨rfl,hi,p⟩;obtain⟨q1,q2⟩:=hl i σ H hi p
 by_cases aM:i < xs.length
 ·refine .inr ⟨⟨xs,ys,xs[i],ys[i],q1,q2,Ab aM,Ab<|by omega⟩,Pv<|i+1,λσ' H' p'=>⟨xs.length - (i+1),by omega,rfl,aM,p'⟩,λv H' y=>?_⟩;obtain⟨T,x,y,hT,rfl,rfl,y1,y2⟩:=y;exact hs i x y T σ _ (y1 xs q1) (y2 ys q2) p hT
 ·have e:i=xs.length:=by omega
  subst e;exact .inl ⟨⟨xs,ys,q1,q2,.inl<|Am _⟩,hd σ H p⟩
end
section
variable{P:Program}{w:World}{K:PySem.W.Frag}{mg:Str->Option Value}{base:Heap}
abbrev Yv:List Str:=["rows","met","others","row","end","tie"]
theorem sJ:au Yv ["rows"] (bg zN):=⟨rfl,rfl,rfl,by decide +kernel,rfl,by decide +kernel,by decide +kernel⟩
theorem Mz{H:Hp}{t d:Addr}{xs:List V}{kvs:List (Key×V)}(h:H t=some (.tup xs))(g:H d=some (.dK kvs)):t≠d:=cr h g λz=>nomatch z
theorem ot{H:Hp}{t d:Addr}{xs:List V}{kvs:List (List Key×V)}(h:H t=some (.tup xs))(g:H d=some (.dT kvs)):t≠d:=cr h g λz=>nomatch z
theorem Yw{f:Addr}{fd:FuncData}(F:bX K "other_ends" "other_ends" zN f fd)(T:Txt mg)
  (GE:bh P w K mg base 1 "ends_round" ["row"] sE) :
  aJ P w K mg base bT 2 f fd ["rows"] oq:=by
 refine F.gb sJ (λvs H Q E h=>?_) λb0 H vs Q E hr h=>?_
 ·obtain⟨R,as,n,rfl,_⟩:=h;rfl
 obtain⟨R,as,n,rfl,hR,hN,hT,hn,ht,q⟩:=h;have nd:=sJ.nd;have cq:=hR.len;have hu:=hr.u1;show Run _ _ _ [some<|.ref R,none,none,none,none,none] H;refine a8 1 nd<|zH λdm km=>?_;refine a8 2 nd<|Kf λdO wM=>?_;show Run _ _ _ [some<|.ref R,some<|.ref dm,some<|.ref dO,none,none,none] (upd (upd H dm<|.dK []) dO<|.dT []);have sK:dO≠dm:=λe=>by rw [e,aA] at wM;cases wM
 have ou:H dO=none:=by rw [ax sK] at wM;exact wM
 have em:(upd (upd H dm<|.dK []) dO<|.dT []) dm=some (.dK []):=by rw [ax<|Ne.symm sK,aA]
 have eo:(upd (upd H dm<|.dK []) dO<|.dT []) dO=some (.dT []):=aA;have s0:ak H (upd (upd H dm<|.dK []) dO<|.dT []):=λb o h=>by rw [ax<|bU h ou,ax<|bU h km];exact h
 generalize upd (upd H dm<|.dK []) dO (.dT [])=H1 at em eo s0 ⊢;refine lw<|ae 0 ⟨R,rfl,⟨_,ao.of<|s0 _ _ hR.lst⟩,lz (xs:=as.map λa=>V.ref a.1) (λr σ H'=>∃ kM kO u1 u2 u3,ak H H'/\H' dm=some (.dK kM)/\H' dO=some (.dT kO)/\ix n (aV<|n.take r) H' kM kO/\σ=[some<|.ref R,some<|.ref dm,some<|.ref dO,u1,u2,u3])
  ⟨[],[],_,_,_,s0,em,eo,⟨λ_ _=>rfl,λz a rest h=>(by cases h),λz a b rest h=>(by cases h),λp h=>(by cases h),Bo _,Bo _,λk h=>(by cases h),Ck⟩,rfl⟩ ?_ ?_ ?_⟩
 ·rintro r σ H' _ ⟨kM,kO,u1,u2,u3,sm,_⟩;exact ao.of<|sm _ _ hR.lst
 ·rintro r x σ H' hx ⟨kM,kO,u1,u2,u3,sm,MA,CU,I,rfl⟩;have hi:r < n.length:=by
   have:=(Ac.mp hx).1;rw [Aa] at this;omega
  obtain⟨a,ea,eJ,et,el,er⟩:=(hR.same sm).at hi;rw [Ae,ea] at hx;cases hx;have iO:(row n r).length<=1000:=Cl (iL n r) ht;have Yx:nameAt n r=n[r].1:=pU hi;refine bz 3 nd ?_;refine vz (K0 rfl T.zip (ta:=pA _ _) eI) ?_;show Ea _ _ _ _ _;refine aq<|b4 GE hr<|aq<|ae 3<|aB ⟨a.1,a.2,n[r].1,row n r,rfl,et,el,iO,λL ts H5 s5 n5 e5 l5 t5=>?_⟩;refine aq<|bb cH<|ae 3<|aF ⟨a.1,_,_,.ref a.2,rfl,rfl,aQ.of<|s5 _ _ et,rfl,aB ⟨L,a.2,rfl,⟨_,ao.of e5⟩,⟨_,ao.of<|s5 _ _ el⟩,?_⟩⟩;have wN:=s5 _ _ MA;have wO:=s5 _ _ CU;have pW:=s5 _ _ el;refine Yu (xs:=ts.map V.ref) (ys:=(row n r).map V.str) (by rw [Aa,Aa,l5]) (λp σ' bF=>∃ kM kO u2 u3,(∀ b o,b≠dm->b≠dO->H5 b=some o->bF b=some o)/\bF dm=some (.dK kM)/\bF dO=some (.dT kO)/\ix n (aV (n.take r)++aU r ((row n r).take p) 0) bF kM kO/\σ'=[some<|.ref R,some<|.ref dm,some<|.ref dO,some<|.ref a.1,u2,u3])
   ⟨kM,kO,_,_,λb o _ _ h=>h,wN,wO,?_,rfl⟩ ?_ ?_ ?_
  ·have:aU r ((row n r).take 0) 0=[]:=by simp [aU]
   rw [this,Bh];exact I.keep λt p j h=>s5 _ _ h
  ·rintro p σ' bF _ ⟨kM,kO,u2,u3,kb,_,_,_,rfl⟩;exact⟨ao.of (kb _ _ (cr e5 wN λz=>nomatch z) (cr e5 wO λz=>nomatch z) e5),ao.of<|kb _ _ (cr pW wN λz=>nomatch z) (cr pW wO λz=>nomatch z) pW⟩
  ·rintro p x y Tt σ' bF hx hy ⟨kM,kO,u2,u3,kb,wQ,wR,I6,rfl⟩ ga;rw [Ae,Az] at hx hy;obtain⟨te,gN,rfl⟩:=hx;obtain⟨z,hz,rfl⟩:=hy;have kA:=t5 p te gN;have sM:bF te=some (Tn n[r].1 p):=kb _ _ (Mz kA wN) (ot kA wO) kA;have jR:aN n (r,p)=some z:=hz;obtain⟨rest,db⟩:=pV hi hz;have hlen:(aV (n.take r)++aU r ((row n r).take p) 0).length < 1000:=by
    have h1:(aV n).length=(ag n).length:=by
     have:=BZ List.length<|iK n 0;rw [Aa] at this;exact this
    have h2:=BZ List.length db;rw [Ag,Ao] at h2;omega
   have dY:aV (n.take r)++aU r ((row n r).take<|p+1) 0=(aV (n.take r)++aU r ((row n r).take p) 0)++[(z,(r,p))]:=by
    rw [lK hz,Aw]
   have jr:∀ b,b∈bw (aV (n.take r)++aU r ((row n r).take p) 0) z->b≠(r,p):=λb hb e=>by
    have hm:=sG hb;have ic:=lJ n;unfold ends at ic;rw [db,Ak,Ap] at ic;exact(Cc.mp ic).2.2 _ (An.mpr ⟨_,hm,rfl⟩) _ Ad e
   have sO:(bw (aV (n.take r)++aU r ((row n r).take p) 0) z).length<=1:=by
    have h1:(pos n z).length=2:=by rw [nE];exact hT z<|ig jR
    have h2:pos n z=bw (aV (n.take r)++aU r ((row n r).take p) 0) z++bw ((z,(r,p)) :: rest) z:=by
     show bw (aV n) z=_;rw [db];unfold bw;rw [Ek,Ak]
    have h3:1<=(bw ((z,(r,p)) :: rest) z).length:=by
     unfold bw;rw [Ej,BL<|by simp];simp
    rw [h2,Ag] at h1;omega
   generalize aV (n.take r)++aU r ((row n r).take p) 0=done at I6 hlen dY jr sO;rw [dY];have hTm:Tt≠dm:=λe=>by rw [e,wQ] at ga;cases ga
   have hTo:Tt≠dO:=λe=>by rw [e,wR] at ga;cases ga
   have s7:=aT ga<|.tup [.ref te,.str z];have CY:∀ b o,b≠dm->b≠dO->H5 b=some o->(upd bF Tt<|.tup [.ref te,.str z]) b=some o:=λb o h1 h2 h=>s7 _ _<|kb b o h1 h2 h;have pX:=s7 _ _ wQ;have pY:=s7 _ _ wR;have I7:=I6.keep (H':=upd bF Tt<|.tup [.ref te,.str z]) λt p j h=>s7 _ _ h;have kC:=s7 _ _ sM;refine jb rfl (aQ.of aA) (bz 4 nd<|bz 5 nd ?_);show Run _ _ _ [some<|.ref R,some<|.ref dm,some<|.ref dO,some<|.ref a.1,some<|.ref te,some<|.str z] _;generalize upd bF Tt (.tup [.ref te,.str z])=H7 at CY pX pY I7 kC;have oz:H7 te=some (TN n (r,p)):=by
    show H7 te=some (Tn (nameAt n r) p);rw [Yx];exact kC
   have hM:kM.length < sizeLine:=cn (by have:=I7.dq;omega);have hO:kO.length < sizeLine:=cn (by have:=I7.eR;omega);refine hU<|vF hu<|ae 5<|ae 1 ⟨dm,_,rfl,bp.k (k:=Sum.inr z) pX,?_⟩
   match iQ:bw done z with
   | []=>
    rw [I7.m0 z iQ];show if false=true then _ else _;rw [BK As];refine rE hu<|ae 4<|ae 1<|ae 5 ⟨dm,_,rfl,b9.k (k:=Sum.inr z) pX hM,bn<|bn ⟨_,kO,_,_,λb o h1 h2 h=>?_,aA,?_,?_,rfl⟩⟩
    ·rw [ax h1];exact CY b o h1 h2 h
    ·rw [ax sK];exact pY
    ·exact(I7.new oz jR iQ).keep λt p j h=>by rw [ax<|Mz h pX];exact h
   | b :: more=>
    have sQ:more=[]:=by
     rw [iQ,Ao] at sO;exact Bb.mp<|by omega
    subst sQ;obtain⟨tm,vm,C0⟩:=I7.m1 z b [] iQ;rw [vm];show if true=true then _ else _;rw [BL rfl];have jU:b≠(r,p):=jr b (by rw [iQ];exact Aj.mpr rfl);refine rE hu (i4 hu<|ae 1<|ae 5 ⟨dm,.ref tm,rfl,by rw [<- vm];exact bp.k (k:=Sum.inr z) pX,ae 2<|ae 4 ⟨dO,_,rfl,b9.t (k:=key n (r,p)) pY oz hO,?_⟩⟩);have hO2:=gD kO (key n (r,p))<|.ref tm;have hO3:=I7.eR;have MB:(upd H7 dO<|.dT<|putK kO (key n (r,p))<|.ref tm) dm=some (.dK kM):=by rw [ax<|Ne.symm sK];exact pX
    have C1:(upd H7 dO<|.dT<|putK kO (key n (r,p))<|.ref tm) tm=some (TN n b):=by rw [ax<|ot C0 pY];exact C0
    refine rE hu<|ae 4<|ae 2<|i4 hu<|ae 1<|ae 5 ⟨dm,.ref tm,rfl,by rw [<- vm];exact bp.k (k:=Sum.inr z) MB,dO,_,rfl,b9.t (k:=key n b) aA C1 (cn<|by omega),bn<|bn ⟨kM,_,_,_,λb o h1 h2 h=>?_,?_,aA,?_,rfl⟩⟩
    ·rw [ax h2,ax h2];exact CY b o h1 h2 h
    ·rw [ax<|Ne.symm sK];exact MB
    ·exact(I7.old hN oz C0 jR iQ jU).keep λt p j h=>by rw [ax<|ot h pY,ax<|ot h pY];exact h
  ·rintro σ' bF ⟨kM,kO,u2,u3,kb,wQ,wR,I6,rfl⟩;refine bn ⟨kM,kO,_,_,_,λb o h=>?_,wQ,wR,?_,rfl⟩
   ·exact kb b o (bU h km) (bU h ou)<|s5 _ _<|sm _ _ h
   ·rw [Aa,l5,Bs] at I6;rw [nG hi];exact I6
 ·rintro σ H' ⟨kM,kO,u1,u2,u3,sm,MA,CU,I,rfl⟩;rw [Aa,cq,Bs] at I;have lO:=I.eR;have ls:(aV n).length=(ag n).length:=by rw [<- iK n 0,Aa];rfl
  exact cA<|ae 2<|q dO kO H' sm ou CU (λe he=>I.whole hT he) I.nd (λk hk=>let ⟨p,hp,e⟩:=I.ks k hk;⟨p.2,An.mpr ⟨p,hp,rfl⟩,e⟩)<|by omega
end
def kD(n:Net)(H:Hp)(us:List Addr)(done:List<|Str×Nt.End):Prop:=us.length=done.length/\∀(j:Nat) u p,us[j]?=some u->done[j]?=some p->H u=some (TN n p.2)
theorem kD.keep{n:Net}{H H':Hp}{us:List Addr}{done:List (Str×Nt.End)}(h:kD n H us done)(k:∀ t p j,H t=some (Tn p j)->H' t=some (Tn p j)):kD n H' us done:=⟨h.1,λj u p h1 h2=>k _ _ _<|h.2 j u p h1 h2⟩
theorem kD.snoc{n:Net}{H H':Hp}{us:List Addr}{done:List (Str×Nt.End)}{u:Addr}{p:Str×Nt.End}(h:kD n H us done)(k:∀ t p j,H t=some (Tn p j)->H' t=some (Tn p j))(hu:H' u=some (TN n p.2)):kD n H' (us++[u]) (done++[p]):=by
 obtain⟨hl,ha⟩:=h;refine⟨by rw [Ag,Ag,hl];rfl,λj v x hv hx=>?_⟩
 by_cases hj:j < us.length
 ·rw [Ay hj] at hv;rw [Ay<|by omega] at hx;exact k _ _ _<|ha j v x hv hx
 ·rw [Bc<|by omega] at hv hx;have iu:j - us.length=0:=by
   have:=(Ac.mp hv).1;simp at this;omega
  have Yy:j - done.length=0:=by omega
  rw [iu] at hv;rw [Yy] at hx;cases hv;cases hx;exact hu
section
variable{X:Cx}{tg:Expr}{ifs:List Expr}{inner:Sem Unit}{σ:St}{H:Hp}{a b:Addr}{xs ys:List V}{after:St->Hp->Prop}
theorem C2(Pv:Nat->St->Hp->Prop)(h0:Pv 0 σ H)(hl:∀ i σ' H',i<=xs.length->Pv i σ' H'->ao X.K H' a xs)
  (hs:∀ i x σ' H',xs[i]?=some x->Pv i σ' H'->Eg X tg x σ' H' λσ2 H3=>Ei X ifs σ2 H3 λb H4=>if b=true then jF X inner σ2 H4 (Pv<|i+1) else Pv (i+1) σ2 H4)
  (hd:∀ σ' H',Pv xs.length σ' H'->after σ' H'):fH X tg ifs inner (o8 X.K a) after σ H:=by
 refine⟨λi m σ' H'=>m=xs.length - i/\i<=xs.length/\Pv i σ' H',⟨_,rfl,Bo _,h0⟩,?_⟩;rintro i m σ' H' ⟨rfl,hi,p⟩;have q:=hl i σ' H' hi p
 by_cases aM:i < xs.length
 ·refine .inr ⟨⟨xs,xs[i],q,by simp [aM]⟩,Pv<|i+1,λσ' H' p'=>⟨xs.length - (i+1),by omega,rfl,aM,p'⟩,λx H2 y=>?_⟩;obtain⟨e,y⟩:=y;subst e;exact hs i x σ' _ (y xs q) p
 ·have e:i=xs.length:=by omega
  subst e;exact .inl ⟨⟨xs,q,Am _⟩,hd σ' H' p⟩
theorem Yz(hlen:xs.length=ys.length)(Pv:Nat->St->Hp->Prop)(h0:Pv 0 σ H)(hl:∀ i σ' H',i<=xs.length->Pv i σ' H'->ao X.K H' a xs/\ao X.K H' b ys)
  (hs:∀ i x y T σ' H',xs[i]?=some x->ys[i]?=some y->Pv i σ' H'->H' T=none->Eg X tg (.ref T) σ' (upd H' T<|.tup [x,y]) λσ2 H3=>Ei X ifs σ2 H3 λb H4=>if b=true then jF X inner σ2 H4 (Pv<|i+1) else Pv (i+1) σ2 H4)
  (hd:∀ σ' H',Pv xs.length σ' H'->after σ' H'):fH X tg ifs inner (we X.K a b) after σ H:=by
 refine⟨λi m σ' H'=>m=xs.length - i/\i<=xs.length/\Pv i σ' H',⟨_,rfl,Bo _,h0⟩,?_⟩;rintro i m σ' H' ⟨rfl,hi,p⟩;obtain⟨q1,q2⟩:=hl i σ' H' hi p
 by_cases aM:i < xs.length
 ·refine .inr ⟨⟨xs,ys,xs[i],ys[i],q1,q2,Ab aM,Ab<|by omega⟩,Pv<|i+1,λσ' H' p'=>⟨xs.length - (i+1),by omega,rfl,aM,p'⟩,λv H2 y=>?_⟩;obtain⟨T,x,y,hT,rfl,rfl,y1,y2⟩:=y;exact hs i x y T σ' _ (y1 xs q1) (y2 ys q2) p hT
 ·have e:i=xs.length:=by omega
  subst e;exact .inl ⟨⟨xs,ys,q1,q2,.inl<|Am _⟩,hd σ' H' p⟩
end
def C3:Sp:=λvs H Q _=>∃(R:Addr) (as:List<|Addr×Addr) (n:Net),vs=[.ref R]/\ah H R as n/\n.length<=1000/\(ag n).length<=1000 /\
 ∀(L:Addr) (ts:List Addr) (H':Hp),ak H H'->H L=none->H' L=some (.lst<|ts.map V.ref)->kD n H' ts (aV n)->Q (.ref L) H'
section
variable{P:Program}{w:World}{K:PySem.W.Frag}{mg:Str->Option Value}{base:Heap}
abbrev MC:List Str:=["rows"]
abbrev MD:List Str:=["rows","row","end"]
theorem gO:au MC ["rows"] (bg vQ):=⟨rfl,rfl,rfl,by decide +kernel,rfl,by decide +kernel,by decide +kernel⟩
theorem ME:MD.Nodup:=by decide +kernel
theorem YB{f:Addr}{fd:FuncData}(F:bX K "ends_in_order" "ends_in_order" vQ f fd)(T:Txt mg)
  (GE:bh P w K mg base 1 "ends_round" ["row"] sE) :
  aJ P w K mg base bT 2 f fd ["rows"] C3:=by
 refine F.gb gO (λvs H Q E h=>?_) λb0 H vs Q E hr h=>?_
 ·obtain⟨R,as,n,rfl,_⟩:=h;rfl
 obtain⟨R,as,n,rfl,hR,hn,ht,q⟩:=h;have nd:=gO.nd;have cq:=hR.len;show Run _ _ _ [some<|.ref R] H;refine cA<|V9 (bg vQ) MC MD 2 (lh bG)<|ae 0 ⟨R,rfl,⟨_,ao.of hR.lst⟩,λD hD cl C s₀ H₀ ex=>?_⟩;refine C2 (xs:=as.map λa=>V.ref a.1) (λr σ' H'=>(∃ v1 v2,σ'=[some<|.ref R]++[v1,v2])/\∃ ts:List Addr,ak H H'/\H' D=some (.lst<|ts.map V.ref)/\kD n H' ts (aV<|n.take r)) ⟨⟨none,none,rfl⟩,[],aT hD _,aA,⟨rfl,λj u p h=>(by cases h)⟩⟩ ?_ ?_ ?_
 ·rintro r σ' H' _ ⟨_,ts,sm,_⟩;exact ao.of<|sm _ _ hR.lst
 ·rintro r x σ' H' hx ⟨⟨v1,v2,rfl⟩,ts,sm,eD,AN⟩;have hi:r < n.length:=by
   have:=(Ac.mp hx).1;rw [Aa] at this;omega
  obtain⟨a,ea,eJ,et,el,er⟩:=(hR.same sm).at hi;rw [Ae,ea] at hx;cases hx;have iO:(row n r).length<=1000:=Cl (iL n r) ht;refine bz 1 ME ?_;refine fq ?_;rw [BL rfl];refine V8 rfl rfl (lh bG) (b4 GE hr<|aq<|ae 1<|aB ⟨a.1,a.2,n[r].1,row n r,rfl,et,el,iO,λL us H5 s5 n5 e5 l5 t5=>⟨L,rfl,⟨_,ao.of e5⟩,?_⟩⟩);have YC:L≠D:=λe=>by rw [e,eD] at n5;cases n5
  refine C2 (xs:=us.map V.ref) (λp σ' bF=>(∃ v2,σ'=[some<|.ref R]++[some<|.ref a.1,v2])/\∃ ts:List Addr,(∀ b o,b≠D->H5 b=some o->bF b=some o)/\bF D=some (.lst<|ts.map V.ref)/\kD n bF ts (aV (n.take r)++aU r ((row n r).take p) 0))
   ⟨⟨_,rfl⟩,ts,λb o _ h=>h,s5 _ _ eD,by simpa [aU] using AN.keep (H':=H5) λt p j h=>s5 _ _ h⟩ ?_ ?_ ?_
  ·rintro p σ' bF _ ⟨_,ts,kb,_⟩;exact ao.of<|kb _ _ YC e5
  ·rintro p x σ' bF hx ⟨⟨v2,rfl⟩,ts,kb,kE,sR⟩;rw [Ae,Az] at hx;obtain⟨te,gN,rfl⟩:=hx;have hp:p < (row n r).length:=by have:=(Ac.mp gN).1;omega
   have hz:(row n r)[p]?=some (row n r)[p]:=Ab hp;generalize (row n r)[p]=z at hz;have kA:=t5 p te gN;have wU:te≠D:=cr kA (s5 _ _ eD) λz=>nomatch z;have sM:=kb _ _ wU kA;obtain⟨rest,db⟩:=pV hi hz;have hlen:ts.length < 1000:=by
    have h1:(aV n).length=(ag n).length:=by
     have:=BZ List.length<|iK n 0;rw [Aa] at this;exact this
    have h2:=BZ List.length db;rw [Ag,Ao] at h2;have:=sR.1;omega
   refine bz 2 ME ?_;refine fq ?_;rw [BL rfl];refine JP (ae 2 ⟨ts.map V.ref,kE,by rw [Aa];exact cn (by omega),⟨_,rfl⟩,ts++[te],λb o hb h=>by rw [ax hb];exact kb b o hb h,by rw [aA,Ak];rfl,?_⟩);rw [lK hz,<- Aw];refine sR.snoc (λt p j h=>by rw [ax<|cr h kE λz=>nomatch z];exact h) ?_;rw [ax wU];show bF te=some (Tn (nameAt n r) p);rw [pU hi];exact sM
  ·rintro σ' bF ⟨⟨v2,rfl⟩,ts,kb,kE,sR⟩;refine⟨⟨_,_,rfl⟩,ts,λb o h=>kb b o (bU h hD)<|s5 _ _<|sm _ _ h,kE,?_⟩;rw [Aa,l5,Bs,<- nG hi] at sR;exact sR
 ·rintro σ' H' ⟨_,ts,sm,eD,AN⟩;rw [Aa,cq,Bs] at AN;exact q D ts H' sm hD eD AN
end
section
variable{X:Cx}{H:Hp}
theorem YD{k:Nat}(z:Str):lH X H k (.str z) (.str z) true:=by
 have:=rD (X:=X) (H:=H) (k:=k) (x:= .str z) (y:= .str z) rfl rfl;have e:dJ (.str z) (.str z)=true:=by show(z == z)=true;simp
 rw [e] at this;exact this
theorem YF{p p':Str}{j j':Int}:∀(i:Nat) (u v:V),[V.str p,.int j][i]?=some u->[V.str p',.int j'][i]?=some v->lH X H 0 u v (if i=0 then dJ (.str p) (.str p') else dJ (.int j) (.int j'))
 | 0,u,v,h1,h2=>by
  cases h1;cases h2;exact rD rfl rfl
 | 1,u,v,h1,h2=>by
  cases h1;cases h2;exact rD rfl rfl
 | i+2,u,v,h1,h2=>by simp at h1
theorem YG(p p':Str)(j j':Int):(dJ (.str p) (.str p') && dJ (.int j) (.int j'))=decide (p=p'/\j=j'):=by
 show((p == p') && (j == j'))=_
 by_cases h:p=p' <;> by_cases h2:j=j' <;> simp [h,h2]
theorem YH{s t:Addr}{p p':Str}{j j':Int}(hs:H s=some (Tn p j))(ht:H t=some (Tn p' j')):pH X H 1 (.ref s) (.ref t) (decide (p=p'/\j=j')):=by
 have:=Kc (X:=X) (k:=0) (λi=>if i=0 then dJ (.str p) (.str p') else dJ (.int j) (.int j')) (aQ.of hs) (aQ.of ht) rfl YF;rw [show([V.str p,.int j].length)=2 from rfl,all2] at this;have e:=YG p p' j j';simp only [CQ] at this;rw [BK (by decide),e] at this;exact this
theorem YJ{a b:Addr}{zs:List Str}(ha:H a=some (Ls zs))(hb:H b=some (Ls zs)):pG X H 1 (.ref a) (.ref b) true:=by
 have q:=UQ (X:=X) (k:=0) (λ_=>true) (ao.of (K:=X.K) ha) (ao.of (K:=X.K) hb) rfl λj x y hx hy=>by
  rw [hx] at hy;cases hy;rw [Ae,Az] at hx;obtain⟨z,_,rfl⟩:=hx;exact YD z
 rw [UU] at q;exact q
end
def oA:Sp:=λvs H Q _=>∃(R:Addr) (as:List<|Addr×Addr) (n:Net),vs=[.ref R]/\ah H R as n/\(n.map (·.1)).Nodup/\n.length<=1000/\(ag n).length<=1000 /\
 ∀(d:Addr) (kvs:List<|List Key×V) (H':Hp),ak H H'->H d=none->H' d=some (.dT kvs)->(∀ e z,aN n e=some z->aC kvs (key n e)=some (.str z))->Q (.ref d) H'
section
variable{P:Program}{w:World}{K:PySem.W.Frag}{mg:Str->Option Value}{base:Heap}
abbrev MG:List Str:=["rows"]
abbrev MH:List Str:=["rows","row","end","tie"]
theorem C4:au MG ["rows"] (bg vR):=⟨rfl,rfl,rfl,by decide +kernel,rfl,by decide +kernel,by decide +kernel⟩
theorem C5:MH.Nodup:=by decide +kernel
theorem YK{f:Addr}{fd:FuncData}(F:bX K "ties_by_end" "ties_by_end" vR f fd)(T:Txt mg)
  (GE:bh P w K mg base 1 "ends_round" ["row"] sE) :
  aJ P w K mg base bT 2 f fd ["rows"] oA:=by
 refine F.gb C4 (λvs H Q E h=>?_) λb0 H vs Q E hr h=>?_
 ·obtain⟨R,as,n,rfl,_⟩:=h;rfl
 obtain⟨R,as,n,rfl,hR,hN,hn,ht,q⟩:=h;have cq:=hR.len;have hu:=hr.u1;show Run _ _ _ [some<|.ref R] H;refine cA<|Wh (bg vR) MG MH 3 (lh bG)<|ae 0 ⟨R,rfl,⟨_,ao.of hR.lst⟩,λD hD cl C s₀ H₀ ex=>?_⟩;refine C2 (xs:=as.map λa=>V.ref a.1) (λr σ' H'=>(∃ v1 v2 v3,σ'=[some<|.ref R]++[v1,v2,v3])/\∃ kvs:List<|List Key×V,ak H H'/\H' D=some (.dT kvs)/\kvs.length<=(aV<|n.take r).length/\∀ p∈aV (n.take r),aN n p.2=some p.1/\aC kvs (key n p.2)=some (.str p.1)) ⟨⟨none,none,none,rfl⟩,[],aT hD _,aA,Bo _,λp h=>(by cases h)⟩ ?_ ?_ ?_
 ·rintro r σ' H' _ ⟨_,kvs,sm,_⟩;exact ao.of<|sm _ _ hR.lst
 ·rintro r x σ' H' hx ⟨⟨v1,v2,v3,rfl⟩,kvs,sm,eD,MI,wV⟩;have hi:r < n.length:=by
   have:=(Ac.mp hx).1;rw [Aa] at this;omega
  obtain⟨a,ea,eJ,et,el,er⟩:=(hR.same sm).at hi;rw [Ae,ea] at hx;cases hx;have iO:(row n r).length<=1000:=Cl (iL n r) ht;refine bz 1 C5 ?_;refine fq ?_;rw [BL rfl];refine Wc rfl rfl (K0 rfl T.zip (ta:=pA _ _) eI) ?_;show Ea _ _ _ _ _;refine aq<|b4 GE hr<|aq<|ae 1<|aB ⟨a.1,a.2,n[r].1,row n r,rfl,et,el,iO,λL us H5 s5 n5 e5 l5 t5=>?_⟩;refine aq<|bb cH<|ae 1<|aF ⟨a.1,_,_,.ref a.2,rfl,rfl,aQ.of<|s5 _ _ et,rfl,aB ⟨L,a.2,rfl,⟨_,ao.of e5⟩,⟨_,ao.of<|s5 _ _ el⟩,?_⟩⟩;have p5:=s5 _ _ eD;have pW:=s5 _ _ el;refine Yz (xs:=us.map V.ref) (ys:=(row n r).map V.str) (by rw [Aa,Aa,l5]) (λp σ' bF=>(∃ v2 v3,σ'=[some<|.ref R]++[some<|.ref a.1,v2,v3])/\∃ kvs:List<|List Key×V,(∀ b o,b≠D->H5 b=some o->bF b=some o)/\bF D=some (.dT kvs)/\kvs.length<=(aV (n.take r)++aU r ((row n r).take p) 0).length/\∀ x∈aV (n.take r)++aU r ((row n r).take p) 0,aN n x.2=some x.1/\aC kvs (key n x.2)=some (.str x.1))
   ⟨⟨_,_,rfl⟩,kvs,λb o _ h=>h,p5,by simpa [aU] using MI,by simpa [aU] using wV⟩ ?_ ?_ ?_
  ·rintro p σ' bF _ ⟨_,kvs,kb,_⟩;exact⟨ao.of (kb _ _ (cr e5 p5 λz=>nomatch z) e5),ao.of<|kb _ _ (cr pW p5 λz=>nomatch z) pW⟩
  ·rintro p x y Tt σ' bF hx hy ⟨⟨v2,v3,rfl⟩,kvs,kb,kE,oB,kF⟩ ga;rw [Ae,Az] at hx hy;obtain⟨te,gN,rfl⟩:=hx;obtain⟨z,hz,rfl⟩:=hy;have kA:=t5 p te gN;have wU:te≠D:=cr kA p5 λz=>nomatch z;have sM:=kb _ _ wU kA;have jR:aN n (r,p)=some z:=hz;obtain⟨rest,db⟩:=pV hi hz;have hlen:(aV (n.take r)++aU r ((row n r).take p) 0).length < 1000:=by
    have h1:(aV n).length=(ag n).length:=by
     have:=BZ List.length<|iK n 0;rw [Aa] at this;exact this
    have h2:=BZ List.length db;rw [Ag,Ao] at h2;omega
   have nTD:Tt≠D:=λe=>by rw [e,kE] at ga;cases ga
   have s7:=aT ga<|.tup [.ref te,.str z];refine jb rfl (aQ.of aA) (bz 2 C5<|bz 3 C5 ?_);refine fq ?_;rw [BL rfl];have kC:(upd bF Tt<|.tup [.ref te,.str z]) te=some (.tup<|(key n (r,p)).map kV):=by
    rw [s7 _ _ sM];show some (Tn n[r].1 (p:Int))=some (Tn (nameAt n r) (p:Int));rw [pU hi]
   refine AY hu<|ae 2<|ae 3 ⟨_,b9.t (k:=key n (r,p)) (s7 _ _ kE) kC (cn<|by omega),⟨_,_,rfl⟩,_,λb o hb h=>?_,aA,?_,?_⟩
   ·rw [ax hb];exact s7 _ _<|kb b o hb h
   ·rw [lK hz,<- Aw,Ag];have:=gD kvs (key n (r,p))<|.str z;show _<=_+1;omega
   ·rw [lK hz,<- Aw];intro x hx
    rcases Aq.mp hx with h | h
    ·obtain⟨q1,q2⟩:=kF x h;refine⟨q1,?_⟩;rw [dL]
     by_cases hk:key n x.2=key n (r,p)
     ·rw [BL hk];have:=om hN (cT q1) (cT jR) hk;rw [this,jR] at q1;rw [Option.some.inj q1]
     ·rw [BK hk];exact q2
    ·rw [Aj.mp h];exact⟨jR,by rw [dL,BL rfl]⟩
  ·rintro σ' bF ⟨⟨v2,v3,rfl⟩,kvs,kb,kE,oB,kF⟩;rw [Aa,l5,Bs,<- nG hi] at oB kF;exact⟨⟨_,_,_,rfl⟩,kvs,λb o h=>kb b o (bU h hD)<|s5 _ _<|sm _ _ h,kE,oB,kF⟩
 ·rintro σ' H' ⟨_,kvs,sm,eD,MI,wV⟩;rw [Aa,cq,Bs] at wV;exact q D kvs H' sm hD eD λe z he=>(wV (z,e)<|aO.mpr he).2
theorem ML{κ:Type} [DecidableEq κ]:∀{kvs:List (κ×V)} {i:Nat} {p:κ×V},(kvs.map (·.1)).Nodup->kvs[i]?=some p->aC kvs p.1=some p.2
 | [],_,_,_,h=>by simp at h
 | q :: r,0,p,_,h=>by
  cases h;exact g8 rfl
 | q :: r,i+1,p,hn,h=>by
  rw [Ap,Bf] at hn;have hm:r[i]?=some p:=by simpa using h
  rw [g9 λe=>hn.1<|by rw [e];exact An.mpr ⟨p,Al hm,rfl⟩];exact ML hn.2 hm
theorem YL{κ:Type}{l:List κ}(h:l.Nodup){i j:Nat}{a:κ}(hi:l[i]?=some a)(hj:l[j]?=some a):i=j:=by
 have h1:=(Ac.mp hi).1;have h2:=(Ac.mp hj).1;have e1:=(Ac.mp hi).2;have e2:=(Ac.mp hj).2
 rcases Fq i j with c | c | c
 ·exact absurd (e1.trans e2.symm)<|Bd.mp h i j h1 h2 c
 ·exact c
 ·exact absurd (e2.trans e1.symm)<|Bd.mp h j i h2 h1 c
def oC(c:Int):Sp:=λvs H Q _=>∃(R:Addr) (as:List<|Addr×Addr) (n:Net),vs=[.ref R]/\ah H R as n/\(n.map (·.1)).Nodup/\az n/\n.length<=1000/\(ag n).length<=1000 /\
 ∀(d:Addr) (kvs:List<|List Key×V) (H':Hp),ak H H'->H d=none->H' d=some (.dT kvs)->(∀ e∈ends n,∃ u,aC kvs (key n e)=some (.ref u)/\H' u=some (TN n<|go c n e))->Q (.ref d) H'
abbrev sS:List Str:=["rows","lists"]
abbrev sU:List Str:=["rows","lists","end","other"]
theorem MO:sU.Nodup:=by decide +kernel
theorem sV:au sS ["rows"] (bg vS):=⟨rfl,rfl,rfl,by decide +kernel,rfl,by decide +kernel,by decide +kernel⟩
theorem YM{f:Addr}{fd:FuncData}(F:bX K "left_steps" "left_steps" vS f fd)(T:Txt mg)
  (GO:bh P w K mg base 2 "other_ends" ["rows"] oq)
  (GT:bh P w K mg base 2 "turned_left" ["end","many"]<|oj λj=>j+1) :
  aJ P w K mg base bT 3 f fd ["rows"] (oC<|1):=by
 refine F.gb sV (λvs H Q E h=>?_) λb0 H vs Q E hr h=>?_
 ·obtain⟨R,as,n,rfl,_⟩:=h;rfl
 obtain⟨R,as,n,rfl,hR,hN,hT,hn,ht,q⟩:=h;have nd:=sV.nd;have cq:=hR.len;have hu:=hr.u1;show Run _ _ _ [some<|.ref R,none] H;have keys:=Mv n as cq;have knd:((f7 n as).map (·.1)).Nodup:=by rw [keys];exact Yr hN
 have C6:(f7 n as).length=n.length:=by have:=BZ List.length keys;simpa using this
 refine a8 1 nd (vy (V2 rfl) T.rK PyProof.Rows.boot_dict (aq (ae 0 (aB ⟨R,as.map (·.1),f7 n as,rfl,?_,?_,?_,?_,λdl kj=>?_⟩))))
 ·rw [Bj];exact hR.lst
 ·rw [Aa,C6,cq]
 ·rw [Aa];exact cn<|by omega
 ·intro j t kv h1 h2;rw [Ae,Az] at h1;obtain⟨a,ea,rfl⟩:=h1;have hj:j < n.length:=by have:=(Ac.mp ea).1;omega
  have e:=Mw (Ab hj) ea;rw [h2] at e;cases e;exact(hR.tup j a n[j] ea<|Ab hj).1
 have ef:(f7 n as).foldl (λa p=>putK a p.1 p.2) []=f7 n as:=by
  rw [Yq (acc:=[]) (by rw [QL];exact knd),QL]
 rw [ef];have s1:=aT kj<|.dK<|f7 n as;have el:(upd H dl<|.dK<|f7 n as) dl=some (.dK<|f7 n as):=aA;generalize upd H dl (.dK<|f7 n as)=H1 at s1 el;show Run _ _ _ [some<|.ref R,some<|.ref dl] H1;refine cA<|Wd (bg vS) sS sU 2 (Ws bG) ?_;refine b4 GO hr<|aq<|ae 0<|aB ⟨R,as,n,rfl,hR.same s1,hN,hT,hn,ht,λd kvs H2 s2 rU ed val sW YN MQ=>?_⟩;refine⟨d,kvs,rfl,ed,λo D hD cl C s₀ H₀ ex=>?_⟩;have C7:D≠d:=λe=>by rw [e,aA] at hD;cases hD
 have fN:H2 D=none:=by rw [ax C7] at hD;exact hD
 have YQ:H d=none:=iw s1 rU;have sB:ak H (upd H2 d<|.bK o<|.dT kvs):=dC (s1.trans s2) YQ;have kB:∀ b o',b≠d->H2 b=some o'->(upd H2 d<|.bK o<|.dT kvs) b=some o':=λb o' hb h=>by rw [ax hb];exact h
 have tB:∀ b p j,H2 b=some (Tn p j)->(upd H2 d<|.bK o<|.dT kvs) b=some (Tn p j):=λb p j h=>kB b _ (ot h ed) h;have MR:(upd H2 d<|.bK o<|.dT kvs) d=some (.bK o<|.dT kvs):=aA;have MS:(upd H2 d<|.bK o<|.dT kvs) dl=some (.dK<|f7 n as):=kB _ _ (λe=>by rw [e,rU] at el;cases el)<|s2 _ _ el;have YR:=hR.same sB;generalize upd H2 d (.bK o<|.dT kvs)=HB at hD sB tB MR MS YR;have sX:=iw sB hD;refine Wu (λi σ' H'=>(∃ v1 v2,σ'=[some<|.ref R,some<|.ref dl]++[v1,v2])/\∃ fO:List<|List Key×V,H' D=some (.dT fO)/\fO.length<=i/\ak HB H' /\
  (∀ j k x e,j < i->kvs[j]?=some (k,x)->e∈ends n->k=key n e->∃ u,aC fO (key n e)=some (.ref u)/\H' u=some (TN n<|go (1) n e)))
  ⟨⟨none,none,rfl⟩,[],aA,Am _,aT hD _,λj k x e h=>absurd h<|Eb _⟩ ?_ ?_ ?_
 ·rintro i σ' H' _ ⟨_,_,_,_,sm,_⟩;exact sm _ _ MR
 ·rintro i k x b Tt σ' H' hx ⟨⟨v1,v2,rfl⟩,fO,eD,l2,sm,all⟩ hb ga;have hi:i < kvs.length:=(Ac.mp hx).1;obtain⟨e,he,rfl⟩:=YN k<|An.mpr ⟨_,Al hx,rfl⟩;obtain⟨u,hv,AU⟩:=val e he;have sY:aC kvs (key n e)=some x:=ML sW hx;rw [hv] at sY;cases sY;have MT:=dN hT he;obtain⟨zo,MU⟩:=af.mp MT;have iO:=cT MU;have pT:=fJ MU;have YS:nameAt n (other n e).1=n[(other n e).1].1:=pU iO;have sT:=aT ga<|.tup [.ref b,.ref u];have MV:=sT _ _<|sm _ _<|tB _ _ _ AU;refine jb rfl (aQ.of aA) (bz 2 MO<|bz 3 MO ?_);refine fq ?_;rw [BL rfl];have MX:as[(other n e).1]?=some (as[(other n e).1]'(by omega)):=Ab (by omega);have MY:n[(other n e).1]?=some n[(other n e).1]:=Ab iO;have ev:aC (f7 n as) (Sum.inr<|nameAt n (other n e).1)=some (.ref (as[(other n e).1]'(by omega)).2):=by rw [YS];exact Mu knd<|Mw MY MX
  have iy:=(hR.tup _ _ _ MX MY).2;have js:row n (other n e).1=n[(other n e).1].2:=vZ iO;refine AY hu<|ae 2<|b4 GT hr<|aq<|ae 3<|aq<|cZ dU T.len DG<|aq<|i4 hu<|ae 1<|bb cH<|ae 3<|aF ⟨u,_,_,.str<|nameAt n (other n e).1,rfl,rfl,aQ.of MV,rfl,?_⟩;refine⟨dl,.ref (as[(other n e).1]'(by omega)).2,rfl,by rw [<- ev];exact bp.k (k:=Sum.inr<|nameAt n (other n e).1)<|sT _ _<|sm _ _ MS,aB ⟨_,_,rfl,.inl<|ao.of<|sT _ _<|sm _ _<|sB _ _ iy,aB ⟨u,_,_,_,rfl,MV,?_,λt2 H4 s4 wD=>?_⟩⟩⟩
  ·rw [Aa,<- js];omega
  rw [Aa,<- js] at wD;have wW:H4 t2=some (TN n<|go (1) n e):=by
   rw [wD];have:=A1 (c:=1) MT;show some (Tn _ _)=some (Tn _ (((go (1) n e).2:Nat):Int));unfold go;rw [this];rfl
  have YT:=s4 _ _<|sT _ _ hb;refine⟨_,b9.t (k:=key n e) (s4 _ _<|sT _ _ eD) YT (cn<|by omega),⟨_,_,rfl⟩,_,aA,?_,dC ((sm.trans sT).trans s4) hD,λj k' x' e' hj iZ MZ rp=>?_⟩
  ·have:=gD fO (key n e)<|.ref t2;omega
  ·subst rp
   by_cases wX:j=i
   ·subst wX;rw [hx] at iZ;have YV:key n e=key n e':=BZ Prod.fst<|Option.some.inj iZ;obtain⟨z1,lR⟩:=af.mp he;obtain⟨z2,wj⟩:=af.mp MZ;have:=om hN (cT lR) (cT wj) YV;subst this;exact⟨t2,by rw [dL,BL rfl],by rw [ax<|ot wW<|s4 _ _<|sT _ _ eD];exact wW⟩
   ·obtain⟨u3,YW,YX⟩:=all j _ x' e' (by omega) iZ MZ rfl;refine⟨u3,?_,?_⟩
    ·rw [dL,BK,YW];intro hk;have h1:(kvs.map (·.1))[j]?=some (key n e'):=by rw [Ae,iZ];rfl
     have h2:(kvs.map (·.1))[i]?=some (key n e'):=by rw [Ae,hx,hk];rfl
     exact wX<|YL sW h1 h2
    ·have q4:=s4 _ _<|sT _ _ YX;rw [ax<|ot q4<|s4 _ _<|sT _ _ eD];exact q4
 ·rintro σ' H' ⟨_,fO,eD,_,sm,all⟩;refine q D fO H' (sB.trans sm) sX eD λe he=>?_;obtain⟨u,hv,_⟩:=val e he;obtain⟨i,hi⟩:∃ i:Nat,(kvs.map (·.1))[i]?=some (key n e):=Av<|Jf hv;rw [Ae,Az] at hi;obtain⟨⟨k,x⟩,hx,hk⟩:=hi;exact all i k x e (Ac.mp hx).1 hx he hk
end
end X4
namespace l7
open PySem PySem.W PyProof.Rows
section
variable{lt:Nat->Nat->Bool}{cmp:Nat->Nat->(Bool->Shared->Prop)->Shared->Prop}{J:Shared->Prop}{n:Nat}
structure du(lt:Nat->Nat->Bool)(cmp:Nat->Nat->(Bool->Shared->Prop)->Shared->Prop)(J:Shared->Prop)(n:Nat):Prop where
 ask:∀(i j:Nat) (C:Bool->Shared->Prop) (s:Shared),i < n->j < n->i≠j->J s->(∀ s',J s'->C (lt i j) s')->cmp i j C s
 kG:∀ i j,i < n->j < n->i≠j->lt i j=true\/lt j i=true
 asy:∀ i j,lt i j=true->lt j i=false
 wY:∀ i j k,lt i j=true->lt j k=true->lt i k=true
def g(p:Array Nat)(i:Nat):Nat:=p.getD i 0
structure Pm(p:Array Nat)(n:Nat):Prop where
 size:p.size=n
 lt:∀ i,i < n->g p i < n
 inj:∀ i j,i < n->j < n->g p i=g p j->i=j
theorem iz{p:Array Nat}{i:Nat}{v:Nat}(h:p[i]?=some v):g p i=v:=by
 unfold g;rw [Cs,h];rfl
theorem jt{p q:Array Nat}{i j:Nat}(h:p[i]?=q[j]?):g p i=g q j:=by
 unfold g;rw [Cs,Cs,h]
theorem M0(n:Nat):Pm (List.toArray<|List.range n) n:=by
 have e:∀ i,i < n->g (List.toArray<|List.range n) i=i:=λi hi=>iz (by simp [hi]);exact⟨by simp,λi hi=>by rw [e i hi];exact hi,λi j hi hj h=>by rw [e i hi,e j hj] at h;exact h⟩
def Up(lt:Nat->Nat->Bool)(p:Array Nat)(m:Nat):Prop:=∀ i j,i < j->j < m->lt (g p i) (g p j)=true
def Dn(lt:Nat->Nat->Bool)(p:Array Nat)(m:Nat):Prop:=∀ i j,i < j->j < m->lt (g p j) (g p i)=true
theorem YY(p:Array Nat):Up lt p 1:=λi j h1 h2=>by omega
theorem YZ(A:du lt cmp J n){p:Array Nat}{m:Nat}(h1:1<=m)(h:Up lt p m)(hm:lt (g p<|m - 1) (g p m)=true):Up lt p (m+1):=λi j hi hj=>by
 by_cases c:j < m
 ·exact h i j hi c
 ·have:j=m:=by omega
  subst this
  by_cases d:i=j - 1
  ·rw [d];exact hm
  ·exact A.wY _ _ _ (h i (j - 1) (by omega)<|by omega) hm
theorem Y1(A:du lt cmp J n){p:Array Nat}{m:Nat}(h1:1<=m)(h:Dn lt p m)(hm:lt (g p m) (g p<|m - 1)=true):Dn lt p (m+1):=λi j hi hj=>by
 by_cases c:j < m
 ·exact h i j hi c
 ·have:j=m:=by omega
  subst this
  by_cases d:i=j - 1
  ·rw [d];exact hm
  ·exact A.wY _ _ _ hm<|h i (j - 1) (by omega)<|by omega
theorem C8(A:du lt cmp J n){i j:Nat}(hi:i < n)(hj:j < n)(bA:i≠j)(h:lt i j=false):lt j i=true:=by
 rcases A.kG i j hi hj bA with q | q
 ·rw [h] at q;cases q
 ·exact q
theorem C9(A:du lt cmp J n){p:Array Nat}(P:Pm p n):∀(f m:Nat) (Q:Nat->Shared->Prop) (s:Shared),1<=m->m+f<=n->Up lt p m->J s ->
  (∀ k s',J s'->m<=k->k<=m+f->Up lt p k->(k < m+f->lt (g p k) (g p<|k - 1)=true)->Q k s')->(kas_asc p f m).kasWp cmp Q s
 | 0,m,Q,s,h1,h2,hu,hJ,k=>k m s hJ (Am _) (Am _) hu λh=>by omega
 | f+1,m,Q,s,h1,h2,hu,hJ,k=>by
  have bA:g p m≠g p (m - 1):=λh=>by have:=P.inj m (m - 1) (by omega) (by omega) h;omega
  refine A.ask _ _ _ _ (P.lt m<|by omega) (P.lt (m - 1)<|by omega) bA hJ λs' fE=>?_;cases e:lt (p.getD m 0) (p.getD (m - 1) 0) with
  | true=>exact k m s' fE (Am _) (by omega) hu λ_=>e
  | false=>
   have sZ:Up lt p (m+1):=YZ A h1 hu (C8 A (P.lt m<|by omega) (P.lt (m - 1)<|by omega) bA e);exact C9 A P f (m+1) Q s' (by omega) (by omega) sZ fE λk' s2 j2 a b c d=>k k' s2 j2 (by omega) (by omega) c λh=>d<|by omega
theorem M1(A:du lt cmp J n){p:Array Nat}(P:Pm p n):∀(f m:Nat) (Q:Array Nat×Nat×Nat->Shared->Prop) (s:Shared),1<=m->m+f<=n->Dn lt p m->J s ->
  (∀ k s',J s'->m<=k->k<=m+f->Dn lt p k->Q (p,k,0) s')->(kas_desc f p m 0).kasWp cmp Q s
 | 0,m,Q,s,h1,h2,hd,hJ,k=>k m s hJ (Am _) (Am _) hd
 | f+1,m,Q,s,h1,h2,hd,hJ,k=>by
  have bA:g p m≠g p (m - 1):=λh=>by have:=P.inj m (m - 1) (by omega) (by omega) h;omega
  refine A.ask _ _ _ _ (P.lt m<|by omega) (P.lt (m - 1)<|by omega) bA hJ λs' fE=>?_;cases e:lt (p.getD m 0) (p.getD (m - 1) 0) with
  | true=>
   show(if true=true then(if 0 > 0 then _ else kas_desc f p (m+1) 0) else _:KasT _).kasWp cmp Q s';rw [BL rfl,BK<|by omega];exact M1 A P f (m+1) Q s' (by omega) (by omega) (Y1 A h1 hd e) fE λk' s2 j2 a b c=>k k' s2 j2 (by omega) (by omega) c
  | false=>
   refine A.ask _ _ _ _ (P.lt (m - 1)<|by omega) (P.lt m<|by omega) (Ne.symm bA) fE λs2 tf=>?_;have e2:lt (p.getD (m - 1) 0) (p.getD m 0)=true:=C8 A (P.lt m<|by omega) (P.lt (m - 1)<|by omega) bA e;rw [e2];exact k m s2 tf (Am _) (by omega) hd
theorem tq{p:Array Nat}{m k:Nat}(h:m<=p.size):g (kas_rev p 0 m) k=if k < m then g p (m - 1 - k) else g p k:=by
 have e:=getElem?_mirror_all (xs:=p) (i:=0) (j:=m) h k
 by_cases c:k < m
 ·rw [BL c];rw [BL ⟨Bo _,c⟩] at e;refine jt<|e.trans ?_
  congr 1
  omega
 ·rw [BK c];rw [BK λq=>c q.2] at e;exact jt e
theorem M3{p:Array Nat}{m:Nat}(P:Pm p n)(h:m<=n):Pm (kas_rev p 0 m) n:=by
 have hs:m<=p.size:=by rw [P.size];exact h
 refine⟨by rw [kas_rev_size];exact P.size,λi hi=>?_,λi j hi hj q=>?_⟩
 ·rw [tq hs]
  split
  ·exact P.lt _<|by omega
  ·exact P.lt _ hi
 ·rw [tq hs,tq hs] at q
  by_cases c:i < m <;> by_cases d:j < m
  ·rw [BL c,BL d] at q;have:=P.inj _ _ (by omega) (by omega) q;omega
  ·rw [BL c,BK d] at q;have:=P.inj _ _ (by omega) hj q;omega
  ·rw [BK c,BL d] at q;have:=P.inj _ _ hi (by omega) q;omega
  ·rw [BK c,BK d] at q;exact P.inj _ _ hi hj q
theorem Y6{p:Array Nat}{m:Nat}(P:Pm p n)(h:m<=n)(hd:Dn lt p m):Up lt (kas_rev p 0 m) m:=λi j hi hj=>by
 have hs:m<=p.size:=by rw [P.size];exact h
 rw [tq hs,tq hs,BL (by omega),BL hj];exact hd (m - 1 - j) (m - 1 - i) (by omega)<|by omega
theorem Y7(A:du lt cmp J n){p:Array Nat}(P:Pm p n){m:Nat}{Q:Nat×Array Nat->Shared->Prop}{s:Shared}(h1:1<=m)(h2:m<=n)(hd:Dn lt p m)(hJ:J s)
  (k:∀ r q s',J s'->1<=r->r<=n->Pm q n->Up lt q r->Q (r,q) s'):(kas_tail3 m n p).kasWp cmp Q s:=by
 unfold kas_tail3;rw [HW];exact C9 A (M3 P h2) (n - m) m _ s h1 (by omega) (Y6 P h2 hd) hJ λr s' j a b c _=>k r _ s' j (by omega) (by omega) (M3 P h2) c
theorem Y8(A:du lt cmp J n){p:Array Nat}(P:Pm p n){Q:Nat×Array Nat->Shared->Prop}{s:Shared}(h2:2<=n)(hJ:J s)
  (k:∀ r q s',J s'->1<=r->r<=n->Pm q n->Up lt q r->Q (r,q) s'):(kas_count n p).kasWp cmp Q s:=by
 unfold kas_count;rw [HW];refine C9 A P (n - 1) 1 _ s (Am _) (by omega) (YY p) hJ λm s' fE m1 m2 hu tu=>?_
 by_cases c:m=n
 ·subst c;rw [BL<|by simp];exact k m p s' fE m1 (Am _) P hu
 ·rw [BK<|by simpa using c]
  by_cases d:m > 1
  ·rw [BL d];have bA:g p 0≠g p (m - 1):=λh=>by have:=P.inj 0 (m - 1) (by omega) (by omega) h;omega
   refine A.ask _ _ _ _ (P.lt 0<|by omega) (P.lt (m - 1)<|by omega) bA fE λs2 tf=>?_;have e:lt (p.getD 0 0) (p.getD (m - 1) 0)=true:=hu 0 (m - 1) (by omega) (by omega);rw [e];exact k m p s2 tf m1 (by omega) P hu
  ·rw [BK d];have em:m=1:=by omega
   subst em;unfold kas_descPart;rw [HW];have hl:=tu (by omega);have hd2:Dn lt p 2:=λi j hi hj=>by
    have:i=0/\j=1:=by omega
    rw [this.1,this.2];exact hl
   refine M1 A P (n - (1+1)) (1+1) _ s' (by omega) (by omega) hd2 fE λr s2 tf r1 r2 hd=>?_;show(if(0:Nat) > 0 then _ else kas_tail3 r n p:KasT _).kasWp cmp Q s2;rw [BK<|by omega];exact Y7 A P (by omega) (by omega) hd tf k
theorem DA(A:du lt cmp J n){p:Array Nat}(P:Pm p n){k:Nat}(hk:k < n)(hu:Up lt p k):∀(f l r:Nat) (Q:Nat->Shared->Prop) (s:Shared),r<=k->l<=r->r - l<=f->J s->(∀ i,i < l->lt (g p i) (g p k)=true)->(∀ i,r<=i->i < k->lt (g p k) (g p i)=true) ->
  (∀ m s',J s'->m<=k->(∀ i,i < m->lt (g p i) (g p k)=true)->(∀ i,m<=i->i < k->lt (g p k) (g p i)=true)->Q m s')->(kas_place p k f l r).kasWp cmp Q s
 | 0,l,r,Q,s,h1,h2,h3,hJ,ha,hb,q=>q l s hJ (by omega) ha λi hi=>hb i<|by omega
 | f+1,l,r,Q,s,h1,h2,h3,hJ,ha,hb,q=>by
  unfold kas_place
  by_cases c:l>=r
  ·rw [BL c];exact q l s hJ (by omega) ha λi hi=>hb i<|by omega
  ·rw [BK c];have Y9:(l+r) / 2 < k:=by omega
   have bA:g p k≠g p ((l+r) / 2):=λh=>by have:=P.inj k _ hk (by omega) h;omega
   refine A.ask _ _ _ _ (P.lt k hk) (P.lt _<|by omega) bA hJ λs' fE=>?_;cases e:lt (p.getD k 0) (p.getD ((l+r) / 2) 0) with
   | true=>
    show(kas_place p k f l<|(l+r) / 2).kasWp cmp Q s';refine DA A P hk hu f l ((l+r) / 2) Q s' (by omega) (by omega) (by omega) fE ha (λi hi wZ=>?_) q
    by_cases d:i=(l+r) / 2
    ·rw [d];exact e
    ·exact A.wY _ _ _ e<|hu _ _ (by omega) wZ
   | false=>
    show(kas_place p k f ((l+r) / 2+1) r).kasWp cmp Q s';have e2:=C8 A (P.lt k hk) (P.lt _<|by omega) bA e;refine DA A P hk hu f ((l+r) / 2+1) r Q s' h1 (by omega) (by omega) fE (λi hi=>?_) hb q
    by_cases d:i=(l+r) / 2
    ·rw [d];exact e2
    ·exact A.wY _ _ _ (hu _ _ (by omega) Y9) e2
theorem tE{p:Array Nat}{k m i:Nat}(hk:k < p.size)(hm:m<=k):g (bubble p k<|k - m) i=if i=m then g p k else if m < i/\i<=k then g p (i - 1) else g p i:=by
 have e:=getElem?_bubble (xs:=p) hk (k - m) (by omega) i;rw [show k - (k - m)=m by omega] at e
 by_cases c:i=m
 ·rw [BL c];rw [BL c] at e;exact jt e
 ·rw [BK c];rw [BK c] at e
  by_cases d:m < i/\i<=k
  ·rw [BL d];rw [BL d] at e;exact jt e
  ·rw [BK d];rw [BK d] at e;exact jt e
theorem Za{p:Array Nat}{k m:Nat}(P:Pm p n)(hk:k < n)(hm:m<=k):Pm (bubble p k<|k - m) n:=by
 have hs:k < p.size:=by rw [P.size];exact hk
 refine⟨by rw [bubble_size];exact P.size,λi hi=>?_,λi j hi hj q=>?_⟩
 ·rw [tE hs hm]
  split
  ·exact P.lt k hk
  ·split
   ·exact P.lt _<|by omega
   ·exact P.lt _ hi
 ·rw [tE hs hm,tE hs hm] at q;have src:∀ a,a < n->∃ b,b < n/\(if a=m then g p k else if m < a/\a<=k then g p (a - 1) else g p a)=g p b/\((a=m/\b=k)\/(a≠m/\(m < a/\a<=k)/\b=a - 1)\/(a≠m/\¬(m < a/\a<=k)/\b=a)):=λa ha=>by
   by_cases c:a=m
   ·exact⟨k,hk,by rw [BL c],.inl ⟨c,rfl⟩⟩
   ·by_cases d:m < a/\a<=k
    ·exact⟨a - 1,by omega,by rw [BK c,BL d],.inr<|.inl ⟨c,d,rfl⟩⟩
    ·exact⟨a,ha,by rw [BK c,BK d],.inr<|.inr ⟨c,d,rfl⟩⟩
  obtain⟨x,x1,x2,x3⟩:=src i hi;obtain⟨y,y1,y2,y3⟩:=src j hj;rw [x2,y2] at q;have e:=P.inj x y x1 y1 q;subst e
  rcases x3 with ⟨a1,a2⟩ | ⟨a1,a2,a3⟩ | ⟨a1,a2,a3⟩
  ·rcases y3 with ⟨b1,b2⟩ | ⟨b1,b2,b3⟩ | ⟨b1,b2,b3⟩
   ·exact a1.trans b1.symm
   ·exact absurd (a2.symm.trans b3)<|Di<|Bk (Nat.sub_lt (Gi b2.1) Gp) b2.2
   ·exact absurd ⟨Fm (by rw [<- b3,a2];exact hm)<|Ne.symm b1,by rw [<- b3,a2];exact Am _⟩ b2
  ·rcases y3 with ⟨b1,b2⟩ | ⟨b1,b2,b3⟩ | ⟨b1,b2,b3⟩
   ·exact absurd (b2.symm.trans a3)<|Di<|Bk (Nat.sub_lt (Gi a2.1) Gp) a2.2
   ·exact Nat.sub_one_cancel (Gi a2.1) (Gi b2.1)<|a3.symm.trans b3
   ·exact absurd ⟨Fm (by rw [<- b3,a3];exact Nat.le_sub_one_of_lt a2.1)<|Ne.symm b1,by rw [<- b3,a3];exact Cl (Nat.sub_le _ _) a2.2⟩ b2
  ·rcases y3 with ⟨b1,b2⟩ | ⟨b1,b2,b3⟩ | ⟨b1,b2,b3⟩
   ·exact absurd ⟨Fm (by rw [<- a3,b2];exact hm)<|Ne.symm a1,by rw [<- a3,b2];exact Am _⟩ a2
   ·exact absurd ⟨Fm (by rw [<- a3,b3];exact Nat.le_sub_one_of_lt b2.1)<|Ne.symm a1,by rw [<- a3,b3];exact Cl (Nat.sub_le _ _) b2.2⟩ a2
   ·exact a3.symm.trans b3
theorem Zb{p:Array Nat}{k m:Nat}(P:Pm p n)(hk:k < n)(hm:m<=k)(hu:Up lt p k)(ha:∀ i,i < m->lt (g p i) (g p k)=true)(hb:∀ i,m<=i->i < k->lt (g p k) (g p i)=true):Up lt (bubble p k<|k - m) (k+1):=λi j hi hj=>by
 have hs:k < p.size:=by rw [P.size];exact hk
 rw [tE hs hm,tE hs hm]
 by_cases c:i=m
 ·rw [BL c,BK (by omega),BL<|by omega];exact hb _ (by omega)<|by omega
 ·rw [BK c]
  by_cases d:j=m
  ·rw [BL d,BK<|by omega];exact ha i<|by omega
  ·rw [BK d]
   by_cases e:m < i/\i<=k
   ·rw [BL e,BL<|by omega];exact hu _ _ (by omega)<|by omega
   ·rw [BK e]
    by_cases f:m < j/\j<=k
    ·rw [BL f];exact hu _ _ (by omega)<|by omega
    ·rw [BK f];exact hu _ _ hi<|by omega
theorem M4(A:du lt cmp J n):∀(f:Nat) (p:Array Nat) (k:Nat) (Q:Array Nat->Shared->Prop) (s:Shared),Pm p n->1<=k->k+f=n->Up lt p k->J s->(∀ q s',J s'->Pm q n->Up lt q n->Q q s')->(kas_bin f p k).kasWp cmp Q s
 | 0,p,k,Q,s,P,h1,h2,hu,hJ,q=>by
  have:k=n:=by omega
  subst this;exact q p s hJ P hu
 | f+1,p,k,Q,s,P,h1,h2,hu,hJ,q=>by
  unfold kas_bin;rw [HW];refine DA A P (by omega) hu k 0 k _ s (Am _) (Bo _) (by omega) hJ (λi hi=>by omega) (λi hi wZ=>by omega) λm s' fE hm ha hb=>?_;exact M4 A f _ (k+1) Q s' (Za P (by omega) hm) (by omega) (by omega) (Zb P (by omega) hm hu ha hb) fE q
theorem Zc(A:du lt cmp J n){Q:Array Nat->Shared->Prop}{s:Shared}(h2:2<=n)(hJ:J s)(q:∀ p s',J s'->Pm p n->Up lt p n->Q p s'):(kas_sort n).kasWp cmp Q s:=by
 unfold kas_sort;rw [HW];refine Y8 A (M0 n) h2 hJ λr p s' fE r1 r2 P hu=>?_;show(if r < n then kas_bin (n - max r 1) p (max r 1) else .ret p:KasT _).kasWp cmp Q s';have em:max r 1=r:=by omega
 rw [em]
 by_cases c:r < n
 ·rw [BL c];exact M4 A (n - r) p r Q s' P r1 (by omega) hu fE q
 ·rw [BK c];have:r=n:=by omega
  subst this;exact q p s' fE P hu
end
theorem M5{p:Array Nat}{n:Nat}(P:Pm p n):p.toList.Nodup:=by
 rw [Cd,Bd];intro i j hi hj eV e;have iM:i < n:=by rw [Ce,P.size] at hi;exact hi
 have A7:j < n:=by rw [Ce,P.size] at hj;exact hj
 have e1:g p i=p.toList[i]:=iz (by rw [<- Bq];exact Ab hi);have e2:g p j=p.toList[j]:=iz (by rw [<- Bq];exact Ab hj);have:=P.inj i j iM A7 (by rw [e1,e2,e]);omega
theorem DB{p:Array Nat}{n v:Nat}(P:Pm p n)(h:v∈p.toList):v < n:=by
 obtain⟨i,hi⟩:=Av h;have hl:i < n:=by have:=(Ac.mp hi).1;rw [Ce,P.size] at this;exact this
 have e1:g p i=v:=iz (by rw [<- Bq];exact hi);rw [<- e1];exact P.lt i hl
theorem Zd{p:Array Nat}{n:Nat}(P:Pm p n):p.toList.Perm (List.range n):=by
 rw [KY (M5 P) Fe];intro v;rw [Br];refine⟨λh=>DB P h,λh=>BX λhn=>?_⟩;have l1:p.toList.length<=((List.range n).erase v).length:=Nt.bS (M5 P) λz hz=>by
  have bA:z≠v:=λe=>hn<|e ▸ hz;exact(Dv bA).mpr<|Br.mpr<|DB P hz
 rw [Fd<|Br.mpr h,Ce,P.size,Ci] at l1;omega
def Hd(h:Heap)(v:Value)(z:Str):Prop:=∃ a o xs n t,v = .ref a/\h.get? a=some o/\o.cls = .type "tuple"/\o.data = .seq xs n/\xs[0]?=some (.str z t)
theorem Hd.keep{h h':Heap}{v:Value}{z:Str}(x:Hd h v z)(k:∀ a o,v = .ref a->h.get? a=some o->h'.get? a=some o):Hd h' v z:=by
 obtain⟨a,o,xs,n,t,e,h1,h2⟩:=x;exact⟨a,o,xs,n,t,e,k a o e h1,h2⟩
def oD(h:Heap)(vs:List Value)(zs:List Str):Prop:=vs.length=zs.length/\∀(i:Nat) v z,vs[i]?=some v->zs[i]?=some z->Hd h v z
def ltZ(zs:List Str)(i j:Nat):Bool:=decide ((zs.getD i ⟨#[]⟩).cps.toList < (zs.getD j ⟨#[]⟩).cps.toList)
section
variable{prog:Program}{w:World}{A:Around}{E:Value->Shared->Prop}{s:Shared}
theorem M6:∀{h:Heap} {vs:List Value} {zs:List Str},oD h vs zs->∃ fs,KatTups h vs fs/\fs.length=vs.length/\∀ f∈fs,∃ z t,f=Value.str z t
 | h,[],_,_=>⟨[],KatTups.nil,rfl,λf hf=>by cases hf⟩
 | h,v :: vs,[],hh=>by have:=hh.1;simp at this
 | h,v :: vs,z :: zs,hh=>by
  obtain⟨fs,k1,k2,k3⟩:=M6 (h:=h) (vs:=vs) (zs:=zs) ⟨by have:=hh.1;simpa using this,λi a b h1 h2=>hh.2 (i+1) a b (by simpa using h1)<|by simpa using h2⟩;obtain⟨a,o,xs,n,t,rfl,h1,h2,h3,h4⟩:=hh.2 0 v z rfl rfl;refine⟨.str z t :: fs,KatTups.cons h1 h2 h3 h4 k1,by rw [Ao,Ao,k2],λf hf=>?_⟩
  rcases Ah.mp hf with rfl | hf
  ·exact⟨z,t,rfl⟩
  ·exact k3 f hf
theorem Zf{x y:Value}{z u:Str}{Q:Bool->Shared->Prop}(hx:Hd s.heap x z)(hy:Hd s.heap y u)(bA:z≠u)(h:Q (decide (z.cps.toList < u.cps.toList)) s):wpAny (model prog w) A (keyLt' (tuples' true) x y) Q E s:=by
 obtain⟨a,o,xs,n,t,rfl,h1,h2,h3,h4⟩:=hx;obtain⟨b,o',ys,n',t',rfl,g1,g2,g3,g4⟩:=hy;refine kat_lt h1 h3 g1 g3 ?_;have ex:∃ r,xs.toList = .str z t :: r:=by
  have:xs.toList[0]?=some (.str z t):=by rw [Bq];exact h4
  cases e:xs.toList with
  | nil=>rw [e] at this;cases this
  | cons c r=>rw [e] at this;cases this;exact⟨r,rfl⟩
 have ey:∃ r,ys.toList = .str u t' :: r:=by
  have:ys.toList[0]?=some (.str u t'):=by rw [Bq];exact g4
  cases e:ys.toList with
  | nil=>rw [e] at this;cases this
  | cons c r=>rw [e] at this;cases this;exact⟨r,rfl⟩
 obtain⟨rx,ex⟩:=ex;obtain⟨ry,ey⟩:=ey;rw [ex,ey];show KatLex prog w A true _ Q ((.str z t,.str u t') :: rx.zip ry) 0 s;refine kat_cons<|eqBool_str ?_;have:(z == u)=false:=beq_eq_false_iff_ne.mpr bA;rw [this];exact kat_no<|oneLt_str h
theorem Zg{a b:Str}(h:a.cps.toList=b.cps.toList):a=b:=by
 apply Str.ext';exact Array.toList_inj.mp h
theorem Zh{vs:List Value}{zs:List Str}(hh:oD s.heap vs zs)(hn:zs.Nodup):du (ltZ zs) (kas_ask prog w A (tuples' true) vs) (λs'=>s'=s) vs.length:=by
 have hl:=hh.1;have gz:∀ i,(hi:i < zs.length)->zs.getD i ⟨#[]⟩=zs[i]:=λi hi=>by simp [hi]
 have gv:∀ i,(hi:i < vs.length)->vs.getD i Value.none=vs[i]:=λi hi=>by simp [hi]
 have ne:∀ i j,(hi:i < zs.length)->(hj:j < zs.length)->i≠j->zs[i]≠zs[j]:=λi j hi hj eV e=>by
  rcases Nat.lt_or_gt_of_ne eV with c | c
  ·exact Bd.mp (Cd.mp hn) i j hi hj c e
  ·exact Bd.mp (Cd.mp hn) j i hj hi c e.symm
 refine⟨λi j C s' hi hj eV hs hC=>?_,λi j hi hj eV=>?_,λi j h=>?_,λi j k h1 h2=>?_⟩
 ·subst hs;unfold kas_ask;rw [gv i hi,gv j hj];have e:ltZ zs i j=decide (zs[i].cps.toList < zs[j].cps.toList):=by unfold ltZ;rw [gz i (by omega),gz j<|by omega]
  refine Zf (hh.2 i _ zs[i] (Ab hi)<|Ab<|by omega) (hh.2 j _ zs[j] (Ab hj)<|Ab<|by omega) (ne i j (by omega) (by omega) eV) ?_;rw [<- e];exact hC s' rfl
 ·unfold ltZ;rw [gz i (by omega),gz j (by omega),IK,IK]
  by_cases c:zs[i].cps.toList < zs[j].cps.toList
  ·exact .inl c
  ·by_cases d:zs[j].cps.toList < zs[i].cps.toList
   ·exact .inr d
   ·have:zs[i].cps.toList=zs[j].cps.toList:=List.le_antisymm (List.not_lt.mp d)<|List.not_lt.mp c;exact absurd (Zg this)<|ne i j (by omega) (by omega) eV
 ·unfold ltZ at h ⊢;have:=CG h;exact BR λq=>Fv _<|Hb this q
 ·unfold ltZ at h1 h2 ⊢;exact BW<|Hb (CG h1)<|CG h2
theorem map_range(vs:List Value):(List.range vs.length).map (λi=>vs.getD i Value.none)=vs:=by
 apply List.ext_getElem
 ·simp
 ·intro i h1 h2;simp [h2]
theorem Zi{a:Addr}{vs:List Value}{zs:List Str}{n:Nat}{P:Fin->Shared->Prop}(ho:s.heap.get? a=some (seqObj "list" vs.toArray n))(cq:∀ v∈vs,v ≠ .ref a)(hh:oD s.heap vs zs)(hn:zs.Nodup)(tF:vs.length < 64)
  (h:∀ p:Array Nat,Pm p vs.length->Up (ltZ zs) p vs.length->P (.done<|.ret .none) {s with heap:=sortedHeap s.heap a vs (List.toArray<|p.toList.map λi=>vs.getD i Value.none)}) :
  wpAny (model prog w) A (Builtin.«list.sort» ⟨[.ref a],[]⟩) P E s:=by
 rw [list_sort_plain];have ha:a < s.heap.objs.size:=Ax ho;have tG:vs.length<=sizeLine:=by rw [CW];omega
 refine BJ<|JM ho rfl ?_;refine BJ<|JD ho rfl ?_;obtain⟨e1,rF⟩:∃ e1,(s.heap.update a<|Obj.mapSeq λ_=>#[]).get? a=some (seqObj "list" #[] e1):=⟨_,get?_update_seq ho λ_=>#[]⟩;refine BJ<|KH rF rfl ?_;refine BJ<|wpAny_newTuple ?_;refine BJ<|KZ ?_;refine CT ?_;have nC:(((s.heap.update a<|Obj.mapSeq λ_=>#[]).push<|seqObj "tuple" vs.toArray 0).push<|seqObj "list" #[] 0).get? a=some (seqObj "list" #[] e1):=Ai _<|Ai _ rF;show wpAny (model prog w) A _ P E {s with heap:=((s.heap.update a<|Obj.mapSeq λ_=>#[]).push<|seqObj "tuple" vs.toArray 0).push (seqObj "list" #[] 0)};have M7:oD (((s.heap.update a<|Obj.mapSeq λ_=>#[]).push<|seqObj "tuple" vs.toArray 0).push<|seqObj "list" #[] 0) vs zs:=⟨hh.1,λi v z h1 h2=>(hh.2 i v z h1 h2).keep λb o e q=>by
  have hb:a≠b:=λe2=>cq v (Al h1) (by rw [e,e2]);exact Ai _<|Ai _<|(Ch _ _ hb).trans q⟩
 dsimp only
 have hsz:vs.toArray.size=vs.length:=by simp
 by_cases h2:vs.toArray.size < 2
 ·rw [BL h2,BL h2];refine BJ<|BP ?_;rw [StateT.run_pure];refine BJ<|BP ?_
  dsimp only
  have e5:(arrOf<|SortSt.mk' general' (vs.toArray.zip vs.toArray) #[] 7 none).map (·.2)=vs.toArray:=by
   show(vs.toArray.zip vs.toArray).map (·.2)=_;apply Array.toList_inj.mp;simp [List.map_snd_zip]
  refine BJ<|KH nC rfl ?_;refine BJ (JD nC rfl ?_ (hsz2:=by rw [e5,hsz];omega));simp only [LK,Bg,CJ];refine BP ?_;rw [e5];have fin:=h (List.toArray<|List.range vs.length) (M0 _) λi j hi hj=>by rw [hsz] at h2;omega
  have e6:(List.toArray<|List.range vs.length).toList.map (λi=>vs.getD i Value.none)=vs:=map_range vs;rw [e6] at fin;exact fin
 ·rw [BK h2,BK h2];obtain⟨fs,k1,k2,k3⟩:=M6 M7;rw [hsz] at h2;refine BJ<|kat_kind (T:= .type "str") k1 (by omega) (λf hf=>?_) (by decide) ?_
  ·obtain⟨z,t,rfl⟩:=k3 f hf;exact Looks.of_pure rfl
  refine BJ<|CN (kat_run (prog:=prog) (w:=w) (A:=A) (E:=E) (κ:=tuples' true) (ks:=vs) (vs:=vs) (Q:=λcE s'=>s'={s with heap:=((s.heap.update a<|Obj.mapSeq λ_=>#[]).push<|seqObj "tuple" vs.toArray 0).push (seqObj "list" #[] 0)}/\∃ p:Array Nat,Pm p vs.length/\Up (ltZ zs) p vs.length/\arrOf cE=p.map (kas_item<|vs.toArray.zip vs.toArray)/\failedOf cE=none)
   (G:=λp s'=>s'={s with heap:=((s.heap.update a<|Obj.mapSeq λ_=>#[]).push<|seqObj "tuple" vs.toArray 0).push (seqObj "list" #[] 0)}/\Pm p vs.length/\Up (ltZ zs) p vs.length) rfl (by omega) tF (λp cE s' _ a2 a3 a4=>⟨a4.1,p,a4.2.1,a4.2.2,a2,a3⟩)
   (Zc (Zh (s:={s with heap:=((s.heap.update a<|Obj.mapSeq λ_=>#[]).push<|seqObj "tuple" vs.toArray 0).push (seqObj "list" #[] 0)}) M7 hn) (by omega) rfl λp s' e P U=>⟨e,P,U⟩)) ?_ λ_ _ e=>e
  rintro ⟨⟨⟩,cE⟩ s' ⟨rfl,p,P,U,Zj,hf⟩
  dsimp only
  have e3:=kat_snds (ks:=vs) (vs:=vs) rfl Zj;refine BJ<|KH nC rfl ?_;refine BJ (JD nC rfl ?_ (hsz2:=by rw [e3,Au,Aa,Ce,P.size];omega));rw [hf];simp only [LK,Bg,CJ];refine BP ?_;rw [e3];exact h p P U
theorem Zk{l:Addr}{vs:List Value}{zs:List Str}{Q:Value->Shared->Prop}(hl:s.heap.IsList l vs.toArray)(hh:oD s.heap vs zs)(hn:zs.Nodup)(tF:vs.length < 64)
  (h:∀(h':Heap) (e:Nat) (p:Array Nat),Pm p vs.length->Up (ltZ zs) p vs.length->(∀ b u,s.heap.get? b=some u->h'.get? b=some u)->h'.get? (s.heap.objs.size+1)=some (seqObj "list" (List.toArray<|p.toList.map λi=>vs.getD i Value.none) e)->Q (.ref<|s.heap.objs.size+1) {s with heap:=h'}) :
  wpAny (model prog w) A (call (.builtin "sorted") [.ref l]) Q E s:=by
 have tG:vs.length<=sizeLine:=by rw [CW];omega
 refine Calls.call_function_entry kind_sorted plain_sorted entry_sorted (args_sorted1 _) ?_;unfold Builtin.«sorted»;refine BJ (m:=checkCount "sorted" 1 1 _)<|BP ?_;refine BJ<|collect_list (vs:=vs) hl ?_;refine BJ<|KZ ?_;have hsz:((s.heap.push<|seqObj "list" #[] 0).update s.heap.objs.size (Obj.mapSeq (·++vs.toArray))).objs.size=s.heap.objs.size+1:=by
  rw [Heap.size_update,size_push']
 have mF:(((s.heap.push<|seqObj "list" #[] 0).update s.heap.objs.size (Obj.mapSeq (·++vs.toArray))).push<|seqObj "list" vs.toArray 0).get? (s.heap.objs.size+1)=some (seqObj "list" vs.toArray 0):=by
  rw [<- hsz];exact Ba _ rfl
 have Zm:oD (((s.heap.push<|seqObj "list" #[] 0).update s.heap.objs.size (Obj.mapSeq (·++vs.toArray))).push<|seqObj "list" vs.toArray 0) vs zs:=⟨hh.1,λi v z h1 h2=>(hh.2 i v z h1 h2).keep λb o e q=>
  Ai _ ((Ch _ _<|Di<|Ax q).trans<|Ai _ q)⟩
 have bA:∀ v∈vs,v ≠ .ref (s.heap.objs.size+1):=λv hv e=>by
  obtain⟨i,hi⟩:=Av hv;have hl:=hh.1;have Zn:i < zs.length:=by have:=(Ac.mp hi).1;omega
  obtain⟨b,o,xs,n,t,e2,h1,_⟩:=hh.2 i v zs[i] hi<|Ab Zn;rw [e2] at e;cases e;exact absurd (Nat.lt_of_succ_lt<|Ax h1)<|Dd _
 show wpAny _ _ _ _ _ {s with heap:=((s.heap.push<|seqObj "list" #[] 0).update s.heap.objs.size (Obj.mapSeq (·++vs.toArray))).push (seqObj "list" vs.toArray 0)};rw [hsz];refine BJ<|CT<|FN slot_list_sort ⟨_,mF,rfl⟩ entry_list_sort (Zi mF bA Zm hn tF λp P U=>⟨_,rfl,?_⟩)<|args_list_sort _;obtain⟨e,he⟩:=sortedAll_at s.heap vs<|List.toArray<|p.toList.map λi=>vs.getD i Value.none;exact BP ⟨_,rfl,h _ e p P U (λb u hb=>sortedAll_old hb) he⟩
end
end l7
namespace L2
open PySem PySem.Spec PyProof.Rows l7
theorem M8:∀{ts:List Addr} {its:List Value},aw (ts.map V.ref) its->its=ts.map Value.ref
 | [],its,r=>r.zero
 | t :: ts,its,r=>by
  cases r with
  | cons h1 h2=>
   rw [M8 h2];have:_=Value.ref t:=h1;rw [this];rfl
theorem M9:∀(ts:List Addr),aw (ts.map V.ref)<|ts.map Value.ref
 | []=> .nil
 | t :: ts=> .cons rfl (M9 ts)
theorem Zo{α β:Type}(xs:List α)(ys:List β)(h:xs.length=ys.length)(a:α)(b:β):(List.range xs.length).map (λi=>(xs.getD i a,ys.getD i b))=xs.zip ys:=by
 apply List.ext_getElem
 ·simp [h]
 ·intro i h1 h2;have hx:i < xs.length:=by simp at h1;exact h1
  have hy:i < ys.length:=by omega
  simp [hx,hy]
section
variable{X:Cx}{σ:St}{H:Hp}
theorem Zq:g6 X (.builtin "sorted") (λxs H Q=>∃(l:Addr) (ts:List Addr) (zs:List Str),xs=[.ref l]/\ao X.K H l (ts.map V.ref)/\ts.length=zs.length/\zs.Nodup/\ts.length < 64/\(∀(i:Nat) t z,ts[i]?=some t->zs[i]?=some z->∃ r,H t=some (.tup<|.str z :: r)) /\
  ∀(r:Addr) (ps:List<|Addr×Str),H r=none->ps.Perm (ts.zip zs)->ps.Pairwise (λa b=>a.2.cps.toList < b.2.cps.toList)->Q (.ref r) (upd H r<|.lst<|ps.map λp=> .ref p.1)):=by
 intro pins s σ H xs us Q I r h;obtain⟨l,ts,zs,rfl,hl,hlen,hn,tF,hd,q⟩:=h;obtain⟨u,rfl,ru⟩:=vals1 r;cases (show u=Value.ref l from ru);obtain⟨its,rv,pl,_⟩:=I.list hl;have ei:=M8 rv;subst ei;have hh:oD s.heap (ts.map Value.ref) zs:=by
  refine⟨by rw [Aa];exact hlen,λi v z h1 h2=>?_⟩;rw [Ae,Az] at h1;obtain⟨t,ht,rfl⟩:=h1;obtain⟨rr,hr⟩:=hd i t z ht h2;obtain⟨its,r3,tp,_⟩:=I.tuple<|aQ.of hr;cases r3 with
  | cons a1 a2=>
   obtain⟨tk,rfl⟩:=a1;obtain⟨o,ho,hc,n,hd2⟩:=tp;exact⟨t,o,_,n,tk,rfl,ho,hc,hd2,rfl⟩
 refine Zk pl.isList hh hn (by rw [Aa];exact tF) λh' e p P U kp he=>?_;rw [Aa] at P U;have gp:∀ i,i < ts.length->g p i < ts.length:=P.lt;have Zr:p.toList.length=ts.length:=by rw [Ce];exact P.size
 have e1:(p.toList.map λi=>(ts.map Value.ref).getD i Value.none)=((p.toList.map λi=>(ts.getD i 0,zs.getD i ⟨#[]⟩)).map λx=>x.1).map Value.ref:=by
  rw [Bj,Bj];refine At λi hi=>?_;have aM:=DB P hi;show(ts.map Value.ref).getD i Value.none=Value.ref (ts.getD i 0);simp [aM]
 refine⟨.ref _,_,I.lG (s':={s with heap:=h'}) kp rfl rfl (Ft _) (show ay X.prog X.w _ h' _ (.lst<|(p.toList.map λi=>(ts.getD i 0,zs.getD i ⟨#[]⟩)).map λx=>V.ref x.1) from ?_),rfl,q _ (p.toList.map λi=>(ts.getD i 0,zs.getD i ⟨#[]⟩)) (I.aD.fresh<|Ft _) ?_ ?_⟩
 ·refine⟨by rw [Aa,Aa,Zr,CW];omega,_,e,?_,he⟩;rw [e1];have:=M9<|(p.toList.map λi=>(ts.getD i 0,zs.getD i (⟨#[]⟩:Str))).map λx=>x.1;rw [Bj] at this;exact this
 ·rw [<- Zo ts zs hlen 0 ⟨#[]⟩];exact(Zd P).map _
 ·rw [Bd];intro i j hi hj eV;rw [Aa] at hi hj;have:=U i j eV (by omega);have q1:g p i=p.toList[i]:=iz (by rw [<- Bq];exact Ab hi);have q2:g p j=p.toList[j]:=iz (by rw [<- Bq];exact Ab hj);rw [q1,q2] at this;rw [Gm,Gm];exact CG this
theorem Zt{e1 e2 e3:Expr}{k:Nat}{pos:Pos}{t:Addr}{x y z:V}{R:St->Hp->Prop}(hc:X.calm=true)(ht:aQ X.K H t [x,y,z])(h:Eg X e1 x σ H λσ1 H1=>Eg X e2 y σ1 H1 λσ2 H2=>Eg X e3 z σ2 H2 R)
  (hn:(assignEach [e1,e2,e3] X.env).length=3:=by rfl) (cD:(assignEach [e1,e2,e3] X.env).findIdx? (·.1)=none:=by rfl)
  (jc:(assignEach [e1,e2,e3] X.env).map (·.2)=assign e1 X.env :: (assignEach [e2,e3] X.env).map (·.2):=by rfl) (jY:(assignEach [e2,e3] X.env).map (·.2)=assign e2 X.env :: (assignEach [e3] X.env).map (·.2):=by rfl) (vA:(assignEach [e3] X.env).map (·.2)=assign e3 X.env :: (assignEach [] X.env).map (·.2):=by rfl) :
  Eg X (.Tuple [e1,e2,e3] k pos) (.ref t) σ H R:=
 zb (Ie (t:=o7 (λv σ H Q=>Eg X e1 v σ H Q)<|o7 (λv σ H Q=>Eg X e2 v σ H Q)<|o7 (λv σ H Q=>Eg X e3 v σ H Q) mI) hc (qF m7 (qF m7 (qF m7 Ic vA) jY) jc) hn cD)
  ⟨t,_,rfl,ht,rfl,_,_,rfl,h.mono λσ1 H1 h1=>⟨_,_,rfl,h1.mono λσ2 H2 h2=>⟨_,_,rfl,h2.mono λσ3 H3 q=>⟨rfl,q⟩⟩⟩⟩
end
end L2
namespace L2
open PySem PySem.Spec PyProof.Rows
section
variable{X:Cx}{σ:St}{H:Hp}{Q:VK}
end
open ce
section
variable{prog:Program}{w:World}{A:Around}{E:Value->Shared->Prop}{s:Shared}{T:String}{r d:Addr}{n:Nat}{P:Nat->Value->Prop}{OK:Heap->Prop}
end
section
variable{X:Cx}
end
end L2
namespace L2
open PySem PySem.Spec PyProof.Rows
section
def w5(K:PySem.W.Frag)(l:Addr):It:=
  ⟨λi H => ∃ xs x, ao K H l xs ∧ xs[i]? = some x,
   λi H v H'=>∃ T x,H T=none/\v = .ref T/\H'=upd H T (.tup [.int (i:Int),x])/\∀ xs,ao K H l xs->xs[i]?=some x,
   λi H=>∃ xs,ao K H l xs/\xs.length<=i⟩
def Zu(m l:Addr)(i:Nat)(h:Heap):Prop:=(∃ old,IsEnum h (m+1) m (i:Int) old)/\h.IsListIter m l i
theorem Zv{P:Program}{w:World}{K:PySem.W.Frag}{elts:List Expr}{k:Nat}{tp:Pos}(m l:Addr):Turn P w K (.Tuple elts k tp) (w5 K l) [m,m+1] (m+1) (Zu m l) where
 mem:=by simp
 obj:=λi h st c hc=>by
  obtain⟨⟨old,z1⟩,⟨o4,e4,c4,d4⟩⟩:=st;simp only [Ah,Bm,DR] at hc
  rcases hc with rfl | rfl
  ·exact⟨_,e4,λv z=>by rw [d4] at z;cases z⟩
  ·exact⟨_,z1,λv z=>by cases z⟩
 keep:=λi h h' st kp=>by
  obtain⟨⟨old,z1⟩,⟨o4,e4,r4⟩⟩:=st;exact⟨⟨old,kp _ (by simp) _ z1⟩,⟨o4,kp _ (by simp) _ e4,r4⟩⟩
 item:=by
  intro X hP hw hK hc i pins s σ H E I hf st hg;subst hP hw hK;obtain⟨xs,x,dQ,hx⟩:=hg;obtain⟨fA,jd,p1,lR⟩:=I.list dQ;obtain⟨u1,lQ,AT⟩:=jd.get hx;obtain⟨⟨old,z1⟩,z4⟩:=id st;refine wpAny_pyNext_enum_item z1 z4 p1.isList (x:=u1) (by simpa using lQ) (by simp) λh' a1 a2 a3 a4 kp=>?_;have hT:H s.heap.objs.size=none:=I.aD.fresh<|Am _;have nT:∀ c∈[m,m+1],c≠s.heap.objs.size:=λc bf=>by
   have:∃ o,s.heap.get? c=some o:=by
    obtain⟨o4,e4,_⟩:=z4;simp only [Ah,Bm,DR] at bf
    rcases bf with rfl | rfl
    ·exact⟨_,e4⟩
    ·exact⟨_,z1⟩
   obtain⟨o,e⟩:=this;exact Bx<|Ax e
  have I1:Inv X pins σ (upd H s.heap.objs.size<|.tup [.int (i:Int),x]) {s with heap:=s.heap.push {cls:= .type "tuple",data:= .seq #[.int i s.toks,u1]},toks:=s.toks+1}:=
   I.laid (t':=s.toks+1) (λb o e=>Ai _ e) (Am _) (show ay X.prog X.w _ _ _ (.tup [.int (i:Int),x]) from⟨Z2,[.int i s.toks,u1],.cons ⟨_,rfl⟩<|.cons AT .nil,⟨_,Ba _ rfl,rfl,_,rfl⟩⟩)
  have f1:∀ c∈[m,m+1],bY X pins (upd H s.heap.objs.size<|.tup [.int (i:Int),x]) c:=λc bf=>⟨by rw [ax<|nT c bf];exact(hf c bf).1,(hf c bf).2⟩;have AV:∀ c o,c∉[m,m+1]->(s.heap.push {cls:= .type "tuple",data:= .seq #[.int i s.toks,u1]}).get? c=some o->h'.get? c=some o:=λc o bf e=>by
   rcases Gq e with ⟨ec,eo⟩ | e'
   ·rw [ec,eo];exact a3
   ·simp only [Ah,Bm,DR,not_or] at bf;exact kp c o bf.2 bf.1 e'
  have I2:=Inv.bD (h':=h') (t':=s.toks+1) I1 f1 AV;refine⟨_,rfl,wpAny_letOwnedTupleGo_enum (s:={s with heap:=h',toks:=s.toks+1}) a1 λh2 b1 sb=>?_⟩;have wk:∀ c o,c∉[m+1]->h'.get? c=some o->h2.get? c=some o:=λc o bf e=>(sb.2 c<|by simpa using bf).trans e;have I3:=Inv.bD (h':=h2) (t':=s.toks+1) I2 (ch:=[m+1]) (λc bf=>f1 c<|by simp at bf;simp [bf]) wk;refine⟨.ref s.heap.objs.size,_,I3,rfl,⟨_,x,hT,rfl,rfl,λzs hz=>by rw [I.cJ hz dQ];exact hx⟩,?_,λc bf=>(f1 c bf).1⟩;obtain⟨o3,e3,r3⟩:=a2;exact⟨⟨u1,b1⟩,⟨o3,wk _ _ (by simp) e3,r3⟩⟩
 done:=by
  intro X hP hw hK hc i pins s σ H E I hf st hg;subst hP hw hK;obtain⟨xs,dQ,rP⟩:=hg;obtain⟨fA,jd,p1,lR⟩:=I.list dQ;have l1:=jd.length;obtain⟨⟨old,z1⟩,z4⟩:=id st;refine wpAny_pyNext_enum_end (I.ok.hd hc) z1 z4 p1.isList (by simp;omega) λh' kp=>⟨rfl,I.bD (t':=s.toks) (ch:=[m,m+1]) hf λc o bf e=>?_⟩;simp only [Ah,Bm,DR,not_or] at bf;exact kp c o bf.1 e
 self:=λ_ _ _ _ _ st h=>by
  obtain⟨⟨old,z1⟩,_⟩:=st;exact wpAny_pyIter_enum z1 h
end
section
variable{X:Cx}
def Zw(K:PySem.W.Frag)(ta:TA):TI:=λσ H R=>ta σ H λvs H1=>∃ a,vs=[.ref a]/\(∃ xs,ao K H1 a xs)/\R (w5 K a) H1
theorem Nb{elts:List Expr}{k:Nat}{tp:Pos}{a:Expr}{ta:TA}{p pos:Pos}(hg:Gl X "enumerate")(hm:X.mg "enumerate" = none)(ha:PA X [a] ta)(hs:starEach [a] X.env=[(false,eval a X.env)]:=by rfl) :
  PI X (.Tuple elts k tp) (.Call (.Name "enumerate" p) [a] [] pos) (Zw X.K ta):=by
 intro pins s σ H R I h;refine Call_<|iG I hg hm boot_enumerate<|CV (aI (ha pos pins s σ H _ I h) λus s1 ⟨vs,H1,I1,r1,q1⟩=>?_) hs rfl;obtain⟨x,e,⟨xs,hx⟩,q⟩:=q1;subst e;obtain⟨u,rfl,ru⟩:=r1.one;cases (show u=Value.ref x from ru);obtain⟨fA,jd,p1,lR⟩:=I1.list hx;refine call_enumerate_list p1.isList λh' a1 a2 a3 kp=>?_;refine wpAny_pyIter_enum (s:={s1 with heap:=h'}) a1 ?_;refine⟨s1.heap.objs.size+1,[s1.heap.objs.size,s1.heap.objs.size+1],_,_,H1,rfl,I1.kept (t':=s1.toks) kp,Zv s1.heap.objs.size x,⟨⟨_,a1⟩,a2⟩,λb hb=>?_,q⟩;have hle:s1.heap.objs.size<=b:=by
  simp only [Ah,Bm,DR] at hb
  rcases hb with rfl | rfl <;> omega
 exact I1.d8 hle<|I1.aD.fresh hle
end
section
variable{X:Cx}{σ:St}{H:Hp}{D:Ends}{body:List Stmt}
def Zx(tl:TE):TI:=λσ H R=>tl σ H λx H1=>∃ d o kvs,x = .ref d/\H1 d=some (.bK o<|.dK kvs)/\R (wa d o kvs) H1
theorem Zy{tg l:Expr}{tl:TE}(hl:PE X l tl):PI X tg l (Zx tl):=by
 intro pins s σ H R I h;refine aI (hl pins s σ H _ I h) λv s1 ⟨x,H1,I1,r1,q1⟩=>?_;obtain⟨d,o,kvs,e,hH,q⟩:=q1;subst e;cases (show v=Value.ref d from r1);obtain⟨ho,z,km,vs,rel,dd⟩:=(show ay X.prog X.w H1 s1.heap d (.bK o<|.dK kvs) from I1.aD d _ hH);obtain⟨ep,o',es,dH,r1,r2,r3⟩:=dd.dictAt;have:o=o':=Option.some.inj<|ho.symm.trans dH;subst this;refine wpAny_pyIter_dict km ⟨o,es,dH,r1,r2,r3⟩ ?_;refine⟨s1.heap.objs.size,[s1.heap.objs.size],_,_,_,rfl,I1.kept (t':=s1.toks) λb o e=>Ai _ e,Kz d _ o es ep kvs r2,⟨_,Ba _ rfl,rfl,by rw [rel.length];rfl⟩,λb hb=>?_,q⟩;have e:b=s1.heap.objs.size:=by simpa using hb
 subst e;exact I1.d8 (Am _)<|I1.aD.fresh<|Am _
end
section
variable{X:Cx}{σ:St}{H:Hp}{D:Ends}{body rest:List Stmt}{a b:Expr}
end
end L2
namespace ce
open PySem SetTable
def kH(mask:Nat)(p:Probe):Probe:=if p.more > 0 then{p with j:=p.j+1,more:=p.more - 1} else
 {p with j:=(leap mask p.i p.perturb).1,more:=runEnd mask (leap mask p.i p.perturb).1 - (leap mask p.i p.perturb).1,i:=(leap mask p.i p.perturb).1,perturb:=(leap mask p.i p.perturb).2}
def P0(mask i q:Nat):Probe:={j:=i,more:=runEnd mask i - i,i:=i,perturb:=q,dummy:=none}
def eX(mask:Nat)(p:Probe):Nat->Probe
 | 0=>p
 | n+1=>kH mask<|eX mask p n
def pr(mask:Nat)(h:Int)(n:Nat):Probe:=eX mask (P0 mask (bits h % (mask+1))<|bits h) n
theorem Nc(t:SetTable)(h:Int):t.probeStart h=pr t.mask h 0:=rfl
theorem tH(mask:Nat)(p:Probe)(a:Nat):∀ b,eX mask p (a+b)=eX mask (eX mask p a) b
 | 0=>rfl
 | b+1=>by
  show kH mask (eX mask p<|a+b)=kH mask (eX mask (eX mask p a) b);rw [tH mask p a b]
theorem p7(mask i q:Nat):∀ k,k<=runEnd mask i - i->eX mask (P0 mask i q) k={j:=i+k,more:=runEnd mask i - i - k,i:=i,perturb:=q,dummy:=none}
 | 0,_=>rfl
 | k+1,h=>by
  show kH mask (eX mask (P0 mask i q) k)=_;rw [p7 mask i q k<|by omega];unfold kH;rw [BL<|by show runEnd mask i - i - k > 0;omega];show(⟨i+k+1,runEnd mask i - i - k - 1,i,q,none⟩:Probe)=_
  congr 1
theorem w6(mask i q:Nat):eX mask (P0 mask i q) (runEnd mask i - i+1)=P0 mask (leap mask i q).1 (leap mask i q).2:=by
 show kH mask (eX mask (P0 mask i q)<|runEnd mask i - i)=_;rw [p7 mask i q _<|Am _];unfold kH;rw [BK<|by show ¬ runEnd mask i - i - (runEnd mask i - i) > 0;omega];rfl
theorem Zz(mask i:Nat):runEnd mask i - i<=9:=by unfold runEnd;split <;> omega
theorem ZA{mask i:Nat}(h:i<=mask):runEnd mask i<=mask:=by unfold runEnd;split <;> omega
theorem Nf{mask j:Nat}:∀(fuel i q:Nat),j∈nw mask fuel i q->∃ n,n < 10 * fuel/\(eX mask (P0 mask i q) n).j=j
 | 0,_,_,h=>by cases h
 | fuel+1,i,q,h=>by
  rcases Ah.mp h with e | h
  ·exact⟨0,by omega,e.symm⟩
  ·obtain⟨n,hn,e⟩:=Nf fuel _ _ h;refine⟨runEnd mask i - i+1+n,by have:=Zz mask i;omega,?_⟩;rw [tH,w6];exact e
theorem ZC{mask:Nat}(hm:Pow<|mask+1)(h:Int){j:Nat}(hj:j < mask+1):∃ n,n < 10 * turns mask/\(pr mask h n).j=j:=
 Nf _ _ _ (J3 hm (MK _<|Ee _) (J7 h) hj)
theorem ZD{mask:Nat}:∀(n i q:Nat),i<=mask->(eX mask (P0 mask i q) n).j<=mask:=by
 intro n
 induction n using Nat.strongRecOn with
 | _ n ih=>
  intro i q hi
  by_cases c:n<=runEnd mask i - i
  ·rw [p7 mask i q n c];have:=ZA hi;show i+n<=mask;omega
  ·have e:n=runEnd mask i - i+1+(n - (runEnd mask i - i+1)):=by omega
   rw [e,tH,w6];exact ih _ (by omega) _ _<|Nat.le_of_lt_succ J1
theorem Ng(mask:Nat)(h:Int)(n:Nat):(pr mask h n).j<=mask:=ZD n _ _<|Nat.le_of_lt_succ<|MK _<|Ee _
def Reach(mask:Nat)(w8:Nat->Prop)(h:Int)(j:Nat):Prop:=∃ n,(pr mask h n).j=j/\∀ m,m < n->w8 (pr mask h m).j
theorem Reach.mono{mask:Nat}{w8 tI:Nat->Prop}{h:Int}{j:Nat}(r:Reach mask w8 h j)(k:∀ i,i<=mask->w8 i->tI i):Reach mask tI h j:=
 let ⟨n,e,f⟩:=r;⟨n,e,λm hm=>k _ (Ng _ _ _)<|f m hm⟩
theorem Nh{mask:Nat}{owner:dM}:∀{fuel i q j:Nat},layClean.free mask owner fuel i q=some j->∃ n,(eX mask (P0 mask i q) n).j=j/\∀ m,m < n->nil? owner (eX mask (P0 mask i q) m).j=false
 | 0,_,_,_,h=>by cases h
 | fuel+1,i,q,j,h=>by
  unfold layClean.free at h
  split at h
  ·rename_i k hf;cases h;rw [List.find?_range_eq_some] at hf;have hk:k<=runEnd mask i - i:=by have:=Br.mp hf.2.1;have:=zF mask i;omega
   refine⟨k,by rw [p7 mask i q k hk],λm hm=>?_⟩;rw [p7 mask i q m<|by omega];have:=hf.2.2 m hm
   simpa [nil?] using this
  ·rename_i hf;obtain⟨n,e,g⟩:=Nh (fuel:=fuel) h;refine⟨runEnd mask i - i+1+n,by rw [tH,w6];exact e,λm hm=>?_⟩
   by_cases c:m<=runEnd mask i - i
   ·rw [p7 mask i q m c];have:=Fh.mp hf m (Br.mpr<|by have:=zF mask i;omega);exact Bool.eq_false_iff.mpr this
   ·have e2:m=runEnd mask i - i+1+(m - (runEnd mask i - i+1)):=by omega
    rw [e2,tH,w6];exact g _<|by omega
theorem Ni{owner:dM}{j k i:Nat}(h:nil? owner i=false):nil? (owner.setIfInBounds j<|some k) i=false:=by
 unfold nil? at h ⊢;rw [Cs] at h ⊢;rw [Fp]
 split
 ·split <;> rfl
 ·exact h
def kI(mask:Nat)(hs:List Int)(owner:dM):Prop:=∀ v j x,owner[j]?=some (some v)->hs[v]?=some x->Reach mask (λi=>nil? owner i=false) x j
theorem Nj{mask:Nat}(hm:Pow<|mask+1)(all:List Int):∀(hs done:List Int) (owner:dM),all=done++hs->Lies (mask+1) owner done.length->kI mask all owner->all.length < mask+1+1 ->
  ∃ gg,hs.foldl (vC mask) (some (owner,done.length))=some (gg,all.length)/\Lies (mask+1) gg all.length/\kI mask all gg
 | [],done,owner,e,L,R,_=>by
  rw [Bh] at e;subst e;exact⟨owner,rfl,L,R⟩
 | h :: r,done,owner,e,L,R,hk=>by
  have el:all.length=done.length+(r.length+1):=by rw [e,Ag,Ao]
  obtain⟨j,ej,hj⟩:=L.free hm (by omega) h;have Lp:=L.put hj;have Rp:kI mask all (owner.setIfInBounds j<|some done.length):=by
   intro v i x hv hx;rw [Fp] at hv
   by_cases c:j=i
   ·subst c;rw [BL rfl] at hv
    split at hv
    ·cases hv;rw [e,Bc<|Am _,Nat.sub_self] at hx;cases hx;obtain⟨n,e1,e2⟩:=Nh ej;exact⟨n,e1,λm jO=>Ni<|e2 m jO⟩
    ·cases hv
   ·rw [BK c] at hv;exact(R v i x hv hx).mono λ_ _=>Ni
  obtain⟨o',e',L',R'⟩:=Nj hm all r (done++[h]) (owner.setIfInBounds j<|some done.length) (by rw [e,Aw];rfl) (by rw [Ag];exact Lp) Rp hk;refine⟨o',?_,L',R'⟩;rw [Dz,show vC mask (some (owner,done.length)) h=some (owner.setIfInBounds j<|some done.length,done.length+1) by unfold vC;simp [ej]];rw [Ag] at e';exact e'
theorem ZE{mask:Nat}(hm:Pow<|mask+1)(hs:Array Int)(hl:hs.size < mask+1+1):∃ owner,layClean mask hs=some owner/\Lies (mask+1) owner hs.size/\kI mask hs.toList owner:=by
 obtain⟨o',e,L,R⟩:=Nj hm hs.toList hs.toList [] (Array.replicate (mask+1) none) rfl (Lies.start<|mask+1) (λv j x hv=>by
  rw [Fy] at hv
  split at hv <;> cases hv) (by simpa using hl)
 refine⟨o',?_,by simpa using L,R⟩;have e2:layClean mask hs=(hs.foldl (vC mask)<|some (Array.replicate (mask+1) none,0)).map (·.1):=rfl;rw [e2,<- Array.foldl_toList];have e3:([]:List Int).length=0:=rfl;rw [e3] at e;rw [e];rfl
theorem ZF{xs:Array Nat}{j:Nat}(hs:xs.toList.Pairwise (· < ·)):∀(fuel lo hi:Nat),hi<=xs.size->lo<=hi->hi - lo<=fuel->(∀ i v,i < lo->xs[i]?=some v->v < j)->(∀ i v,hi<=i->xs[i]?=some v->j<=v) ->
  (below.go xs j fuel lo hi)<=xs.size/\(∀ i v,i < below.go xs j fuel lo hi->xs[i]?=some v->v < j)/\(∀ i v,below.go xs j fuel lo hi<=i->xs[i]?=some v->j<=v):=by
 have mono:∀{i k:Nat} {u v:Nat},i < k->xs[i]?=some u->xs[k]?=some v->u < v:=λ{i k u v} wZ hi hk=>by
  rw [<- Bq] at hi hk;obtain⟨h1,e1⟩:=Ac.mp hi;obtain⟨h2,e2⟩:=Ac.mp hk;rw [<- e1,<- e2];exact Bd.mp hs i k h1 h2 wZ
 intro fuel
 induction fuel with
 | zero=>
  intro lo hi h1 h2 h3 h4 h5;have e:lo=hi:=by omega
  subst e;exact⟨h1,h4,h5⟩
 | succ fuel ih=>
  intro lo hi h1 h2 h3 h4 h5;unfold below.go
  by_cases c:lo < hi
  ·rw [BL c];have DC:(lo+hi) / 2 < xs.size:=by omega
   have hm:xs[(lo+hi) / 2]?=some xs[(lo+hi) / 2]:=Cj DC;have ZG:xs.getD ((lo+hi) / 2) j=xs[(lo+hi) / 2]:=by rw [Cs,hm];rfl
   simp only;rw [ZG]
   by_cases d:xs[(lo+hi) / 2] < j
   ·rw [BL d];refine ih _ _ h1 (by omega) (by omega) (λi v iM hv=>?_) h5
    by_cases k:i=(lo+hi) / 2
    ·subst k;rw [hm] at hv;cases hv;exact d
    ·exact RL (mono (by omega) hv hm) d
   ·rw [BK d];refine ih _ _ (by omega) (by omega) (by omega) h4 λi v iM hv=>?_
    by_cases k:i=(lo+hi) / 2
    ·subst k;rw [hm] at hv;cases hv;omega
    ·have:=mono (show(lo+hi) / 2 < i by omega) hm hv;omega
  ·rw [BK c];have e:lo=hi:=by omega
   subst e;exact⟨h1,h4,h5⟩
theorem Nk{xs:Array Nat}(hs:xs.toList.Pairwise (· < ·))(j:Nat):below xs j<=xs.size/\(∀ i v,i < below xs j->xs[i]?=some v->v < j)/\(∀ i v,below xs j<=i->xs[i]?=some v->j<=v):=
 ZF hs xs.size 0 xs.size (Am _) (Bo _) (by omega) (λi v h=>absurd h<|Eb _) λi v h hv=>by
  rw [Dp h] at hv;cases hv
theorem ZH{p:Nat->Prop}:∀ n,p n->∃ m,m<=n/\p m/\∀ k,k < m->¬ p k:=by
 intro n
 induction n using Nat.strongRecOn with
 | _ n ih=>
  intro h
  by_cases c:∃ k,k < n/\p k
  ·obtain⟨k,hk,pk⟩:=c;obtain⟨m,h1,h2⟩:=ih k hk pk;exact⟨m,by omega,h2⟩
  ·exact⟨n,Am _,h,λk hk pk=>c ⟨k,hk,pk⟩⟩
abbrev Ze:=Nat×(Int×Value)
structure Wf(t:SetTable)(es:Array<|Int×Value)(Z:List Ze):Prop where
 place:t.place.toList=Z.map (·.1)
 ents:es.toList=Z.map (·.2)
 cU:Z.Pairwise λa b=>a.1 < b.1
 le:∀ z∈Z,z.1<=t.mask
 few:Z.length<=t.mask
 DE:t.dummies=#[]
 pow:Pow<|t.mask+1
 Nm:∀ z∈Z,Reach t.mask (λj=>j∈Z.map (·.1)) z.2.1 z.1
section
variable{t:SetTable}{es:Array (Int×Value)}{Z:List Ze}
theorem Wf.sorted(W:Wf t es Z):t.place.toList.Pairwise (· < ·):=by
 rw [W.place,Dy];exact W.cU
theorem Wf.len(W:Wf t es Z):es.size=Z.length:=by rw [<- Ce,W.ents,Aa]
theorem Wf.tJ(W:Wf t es Z):t.place.size=Z.length:=by rw [<- Ce,W.place,Aa]
theorem Wf.at(W:Wf t es Z){i:Nat}{z:Ze}(h:Z[i]?=some z):t.place[i]?=some z.1/\es[i]?=some z.2:=by
 rw [<- Bq,<- Bq,W.place,W.ents,Ae,Ae,h];exact⟨rfl,rfl⟩
theorem Wf.of(W:Wf t es Z){i v:Nat}(h:t.place[i]?=some v):∃ z,Z[i]?=some z/\z.1=v:=by
 rw [<- Bq,W.place,Ae,Az] at h;exact h
theorem Wf.inj(W:Wf t es Z){i k:Nat}{y z:Ze}(hi:Z[i]?=some y)(hk:Z[k]?=some z)(e:y.1=z.1):i=k:=by
 obtain⟨h1,e1⟩:=Ac.mp hi;obtain⟨h2,e2⟩:=Ac.mp hk
 rcases Fq i k with c | c | c
 ·have:=Bd.mp W.cU i k h1 h2 c;rw [e1,e2] at this;omega
 ·exact c
 ·have:=Bd.mp W.cU k i h2 h1 c;rw [e1,e2] at this;omega
theorem Wf.gj(W:Wf t es Z){i:Nat}{z:Ze}(h:Z[i]?=some z):below t.place z.1=i:=by
 obtain⟨b1,b2,b3⟩:=Nk W.sorted z.1;have hp:=(W.at h).1;have c1:¬ i < below t.place z.1:=λc=>Dd _<|b2 i _ c hp
 rcases Dc (below t.place z.1) i with c | c
 ·have hi:i < Z.length:=(Ac.mp h).1;have hb:below t.place z.1 < Z.length:=by omega
  have h2:Z[below t.place z.1]?=some Z[below t.place z.1]:=Ab hb;have h3:=b3 _ _ (Am _) (W.at h2).1;have h4:=Bd.mp W.cU _ i hb hi c;rw [(Ac.mp h).2] at h4;omega
 ·omega
theorem Wf.dZ(W:Wf t es Z){i:Nat}{z:Ze}(h:Z[i]?=some z):t.slot z.1 = .live i:=by
 unfold slot;simp only;rw [W.gj h,(W.at h).1,BL<|GJ _]
theorem Wf.gk(W:Wf t es Z){j:Nat}(h:j∉Z.map (·.1)):t.slot j = .empty:=by
 unfold slot;simp only;have h1:(t.place[below t.place j]? == some j)=false:=by
  rw [beq_eq_false_iff_ne];intro e;obtain⟨z,hz,ez⟩:=W.of e;exact h<|An.mpr ⟨z,Al hz,ez⟩
 rw [BK (by rw [h1];exact As),W.DE];rfl
theorem Wf.fits(W:Wf t es Z):t.fits es.size=true:=by
 unfold SetTable.fits fill;have:=W.few;rw [W.len,W.tJ,W.DE];simp only [GJ,Ga,DQ];show Z.length+0<=t.mask;omega
structure Stop(mask:Nat)(Z:List Ze)(h:Int)(N:Nat):Prop where
 out:(pr mask h N).j∉Z.map (·.1)
 Nn:∀ m,m < N->(pr mask h m).j∈Z.map (·.1)
 lt:N < 10 * turns mask
theorem Wf.stop(W:Wf t es Z)(h:Int):∃ N,Stop t.mask Z h N:=by
 have:∃ j,j < t.mask+1/\j∉Z.map (·.1):=by
  refine BX λhn=>?_;have all:∀ j∈List.range (t.mask+1),j∈Z.map (·.1):=λj hj=>BX λk=>hn ⟨j,Br.mp hj,k⟩;have:=(Fe (n:=t.mask+1)).length_le_of_subset all;rw [Ci,Aa] at this;have:=W.few;omega
 obtain⟨j,hj,hz⟩:=this;obtain⟨n,hn,e⟩:=ZC W.pow h hj;obtain⟨N,h1,h2,h3⟩:=ZH (p:=λn=>(pr t.mask h n).j∉Z.map (·.1)) n (by rw [e];exact hz);exact⟨N,h2,λm hm=>BX λk=>h3 m hm k,by omega⟩
theorem DF{mask:Nat}{p:Probe}(h:p.dummy=none):∀ n,(eX mask p n).dummy=none
 | 0=>h
 | n+1=>by
  show(kH mask<|eX mask p n).dummy=none;unfold kH
  split
  ·exact DF h n
  ·exact DF h n
theorem ZI(mask:Nat)(h:Int)(n:Nat):(pr mask h n).dummy=none:=DF rfl n
theorem Wf.go(W:Wf t es Z){hashAt:Nat->Int}(hh:∀ i e,es[i]?=some e->hashAt i=e.1){h:Int}{N:Nat}(S:Stop t.mask Z h N):∀ fuel m,m<=N->N - m < fuel ->
  (∃ m' i z,m<=m'/\m' < N/\Z[i]?=some z/\z.1=(pr t.mask h m').j/\z.2.1=h/\(∀ k,m<=k->k < m'->∀ z∈Z,z.1=(pr t.mask h k).j->z.2.1≠h)/\probe.go t hashAt h fuel (pr t.mask h m)=some (.candidate (pr t.mask h m').j i<|pr t.mask h<|m'+1)) \/
  ((∀ k,m<=k->k < N->∀ z∈Z,z.1=(pr t.mask h k).j->z.2.1≠h)/\probe.go t hashAt h fuel (pr t.mask h m)=some (.empty (pr t.mask h N).j none))
 | 0,m,_,hf=>absurd hf<|Eb _
 | fuel+1,m,hm,hf=>by
  unfold probe.go
  by_cases c:m=N
  ·subst c;refine .inr ⟨λk h1 h2=>by omega,?_⟩;rw [W.gk S.out];simp only;rw [ZI]
  ·obtain⟨z,hz,ez⟩:=An.mp (S.Nn m<|by omega);obtain⟨i,hi⟩:=Av hz;have uniq:∀ y∈Z,y.1=(pr t.mask h m).j->y=z:=λy hy e=>by
    obtain⟨k,hk⟩:=Av hy;have:=W.inj hk hi (by rw [e,ez]);subst this;rw [hk] at hi;exact Option.some.inj hi
   rw [<- ez,W.dZ hi];simp only;rw [hh i _ (W.at hi).2]
   by_cases d:z.2.1=h
   ·rw [BL<|by rw [d];exact GJ _];exact .inl ⟨m,i,z,Am _,by omega,hi,ez,d,λk h1 h2=>by omega,by rw [ez];rfl⟩
   ·rw [BK<|by rw [beq_iff_eq];exact d]
    rcases W.go hh S fuel (m+1) (by omega) (by omega) with ⟨m',k,y,a1,a2,a3,a4,a5,a6,a7⟩ | ⟨a1,a2⟩
    ·refine .inl ⟨m',k,y,by omega,a2,a3,a4,a5,λl h1 h2 x hx ex=>?_,a7⟩
     by_cases e:l=m
     ·subst e;rw [uniq x hx ex];exact d
     ·exact a6 l (by omega) h2 x hx ex
    ·refine .inr ⟨λl h1 h2 x hx ex=>?_,a2⟩
     by_cases e:l=m
     ·subst e;rw [uniq x hx ex];exact d
     ·exact a1 l (by omega) h2 x hx ex
theorem Wf.put(W:Wf t es Z){h:Int}{x:Value}{N:Nat}(S:Stop t.mask Z h N){t':SetTable}(e1:t'.mask=t.mask)(e2:t'.place=(t.put (pr t.mask h N).j).1.place)(e3:t'.dummies=#[])(hf:Z.length+1<=t.mask) :
  ∃ Z',Wf t' (insertAt es (t.put (pr t.mask h N).j).2 (h,x)) Z'/\Z'.Perm (((pr t.mask h N).j,(h,x)) :: Z):=by
 obtain⟨b1,b2,b3⟩:=Nk W.sorted (pr t.mask h N).j;have ep:(t.put (pr t.mask h N).j).2=below t.place (pr t.mask h N).j:=rfl;have eP:(t.put (pr t.mask h N).j).1.place=insertAt t.place (below t.place (pr t.mask h N).j) (pr t.mask h N).j:=rfl;rw [eP] at e2;rw [ep];generalize hb:below t.place (pr t.mask h N).j=p at b1 b2 b3 e2;have hj:=Ng t.mask h N;have sN:=S.out;have sI:=S.Nn;have rN:Reach t.mask (λj=>j∈Z.map (·.1)) h (pr t.mask h N).j:=⟨N,rfl,sI⟩;clear hb eP ep;generalize (pr t.mask h N).j=j at b2 b3 e2 hj sN rN ⊢;have pm:(Z.take p++(j,(h,x)) :: Z.drop p).Perm ((j,(h,x)) :: Z):=by
  refine List.perm_middle.trans ?_;rw [Cu]
 refine⟨Z.take p++(j,(h,x)) :: Z.drop p,⟨?_,?_,?_,λz hz=>?_,?_,e3,by rw [e1];exact W.pow,λz hz=>?_⟩,pm⟩
 ·rw [e2,toList_insertAt,W.place,Ak,Ap,Ha,Go]
 ·rw [toList_insertAt,W.ents,Ak,Ap,Ha,Go]
 ·rw [Gr];have tk:∀ a∈Z.take p,a.1 < j:=λa ha=>by
   obtain⟨i,hi⟩:=Av ha;rw [List.getElem?_take] at hi
   split at hi
   ·exact b2 i _ (by assumption) (W.at hi).1
   ·cases hi
  have dr:∀ a∈Z.drop p,j < a.1:=λa ha=>by
   obtain⟨i,hi⟩:=Av ha;rw [Gd] at hi;have:=b3 (p+i) _ (by omega) (W.at hi).1;have ne:a.1≠j:=λe=>sN (by rw [<- e];exact An.mpr ⟨a,Al hi,rfl⟩);omega
  refine⟨W.cU.sublist<|List.take_sublist _ _,Dk.mpr ⟨dr,W.cU.sublist<|List.drop_sublist _ _⟩,λa ha b hb=>?_⟩
  rcases Ah.mp hb with e | hb
  ·rw [e];exact tk a ha
  ·exact RL (tk a ha)<|dr b hb
 ·rw [e1]
  rcases Ah.mp (pm.mem_iff.mp hz) with e | hz
  ·rw [e];exact hj
  ·exact W.le z hz
 ·rw [pm.length_eq,e1];exact hf
 ·have up:∀{h':Int} {k:Nat},Reach t.mask (λj=>j∈Z.map (·.1)) h' k->Reach t'.mask (λi=>i∈(Z.take p++(j,(h,x)) :: Z.drop p).map (·.1)) h' k:=λr=>by
   rw [e1];refine r.mono λi _ hi=>?_;rw [(pm.map (·.1)).mem_iff];exact Af _ hi
  rcases Ah.mp (pm.mem_iff.mp hz) with e | hz
  ·rw [e];exact up rN
  ·exact up<|W.Nm z hz
theorem ZJ(m:Nat)(owner:dM):(live m owner).Pairwise (λa b=>a.1 < b.1):=by
 unfold live;rw [List.pairwise_filterMap];refine List.Pairwise.imp (λ{a b} b5 x hx y hy=>?_) List.pairwise_lt_range;rw [Az] at hx hy;obtain⟨u,_,rfl⟩:=hx;obtain⟨v,_,rfl⟩:=hy;exact b5
theorem ZK{t:SetTable}{es:Array (Int×Value)}{wanted:Nat}(hm:Pow<|sizeAbove wanted)(hl:es.size<=sizeAbove wanted - 1) :
  ∃ t2 order Z,t.relaid (es.map (·.1)) wanted=some (t2,order)/\(order.filterMap (es[·]?)).size=es.size/\Wf t2 (order.filterMap (es[·]?)) Z/\(Z.map (·.2)).Perm es.toList/\t2.mask=sizeAbove wanted - 1:=by
 have hp:8<=sizeAbove wanted:=by rcases hm with h | h | h | h | h | h <;> omega
 have em:sizeAbove wanted - 1+1=sizeAbove wanted:=by omega
 obtain⟨o,e,L,R⟩:=ZE (mask:=sizeAbove wanted - 1) (by rw [em];exact hm) (es.map (·.1)) (by rw [Array.size_map];omega);rw [Array.size_map] at L;rw [show t.relaid (es.map (·.1)) wanted=laid (sizeAbove wanted - 1) t.finger (t.movedTo<|sizeAbove wanted - 1) t.led t.plain (es.map (·.1)) from rfl];generalize sizeAbove wanted - 1=mask at e L R em hl ⊢;have he:∀ p∈live (mask+1) o,p.2 < es.size/\p.1 < mask+1/\o[p.1]?=some (some p.2):=λp hp=>by
  have:=cM.mp hp;exact⟨L.lt _ _ this.2,this.1,this.2⟩
 have ef:∀ l:List<|Nat×Nat,(∀ p∈l,p.2 < es.size)->(l.map (·.2)).filterMap (es[·]?)=l.map λp=>(es[p.2]?).getD (0,.none):=λl=>by
  induction l with
  | nil=>intro _;rfl
  | cons p r ih=>
   intro hl;rw [Ap,Ap,Ec,Cj<|hl p Ad,ih λq hq=>hl q<|Af _ hq];rfl
 have ee:(((live (mask+1) o).map (·.2)).toArray.filterMap (es[·]?)).toList=(live (mask+1) o).map λp=>(es[p.2]?).getD (0,.none):=by
  rw [Array.toList_filterMap];exact ef _ λp hp=>(he p hp).1
 have ZL:(((live (mask+1) o).map (·.2)).toArray.filterMap (es[·]?)).size=es.size:=by
  rw [<- Ce,ee,Aa,L.length]
 refine⟨_,_,(live (mask+1) o).map λp=>(p.1,(es[p.2]?).getD (0,.none)),by unfold laid;rw [e];rfl,ZL,⟨?_,?_,?_,λz hz=>?_,?_,rfl,by show Pow (mask+1);rw [em];exact hm,λz hz=>?_⟩,?_,rfl⟩
 ·show(live (mask+1) o).map (·.1)=_;rw [Bj];rfl
 ·rw [ee,Bj];rfl
 ·rw [Dy];exact ZJ _ _
 ·obtain⟨p,hp,rfl⟩:=An.mp hz;show p.1<=mask;have:=(he p hp).2.1;omega
 ·rw [Aa,L.length];exact hl
 ·obtain⟨p,hp,rfl⟩:=An.mp hz;obtain⟨h1,h2,h3⟩:=he p hp;have hx:(es.map (·.1)).toList[p.2]?=some (es[p.2]).1:=by rw [Bq,Array.getElem?_map,Cj h1];rfl
  have eg:(es[p.2]?).getD (0,.none)=es[p.2]:=by rw [Cj h1];rfl
  show Reach mask _ ((es[p.2]?).getD (0,.none)).1 p.1;rw [eg];refine(R p.2 p.1 _ h3 hx).mono λi hi hn=>?_;rw [Bj];have ZM:i < o.size:=by rw [L.size];omega
  have h4:o[i]?=some o[i]:=Cj ZM;cases h5:o[i] with
  | none=>
   rw [h5] at h4;have:=nil?_iff.mpr h4;rw [hn] at this;cases this
  | some v=>
   rw [h5] at h4;exact An.mpr ⟨(i,v),cM.mpr ⟨by omega,h4⟩,rfl⟩
 ·rw [Bj];have p1:((live (mask+1) o).map λp=>(es[p.2]?).getD (0,.none))=((live (mask+1) o).map (·.2)).map λv=>(es[v]?).getD (0,.none):=by rw [Bj];rfl
  show((live (mask+1) o).map λp=>(es[p.2]?).getD (0,.none)).Perm _;rw [p1];refine(L.perm.map _).trans<|List.Perm.of_eq ?_;apply Dq;intro i;rw [Ae]
  by_cases c:i < es.size
  ·rw [Cy c];show some ((es[i]?).getD (0,.none))=es.toList[i]?;rw [Bq,Cj c];rfl
  ·rw [By (by rw [Ci];omega),Bq,Dp<|by omega];rfl
end
section
variable{prog:Program}{w:World}{K:Type} [DecidableEq K]
def ent(knd:HeapKind prog w K)(y:Nat×K×Addr):Ze:=(y.1,(knd.hash y.2.1,Value.ref y.2.2))
def tK(knd:HeapKind prog w K):Prop:=∀{A:Around} {E:Value->Shared->Prop} {s:Shared} {k:K} {a:Addr} {Q:Bool->Shared->Prop},knd.is s.heap k a->Q false s->wpAny (model prog w) A (ofAClassStatement 8<|.ref a) Q E s
variable{A:Around}{E:Value->Shared->Prop}{s:Shared}{a b:Addr}{knd:HeapKind prog w K}{k:K}{Y:List (Nat×K×Addr)}
theorem ZN{Q:Bool->Shared->Prop}(U:tK knd)(hb:knd.is s.heap k b)(l:List Value)(hl:∀ v∈l,∃ k' c,v=Value.ref c/\knd.is s.heap k' c)(q:Q false s):wpAny (model prog w) A (searchCouldBeSeen (.ref b) l) Q E s:=by
 unfold searchCouldBeSeen;refine BJ<|PN _ (λrest r s'=>r.1=none/\s'=s/\∀ v∈rest,∃ k' c,v=Value.ref c/\knd.is s.heap k' c) _ ?_ ?_ l _ ⟨rfl,rfl,hl⟩
 ·rintro v rest r s' ⟨hr,rfl,hv⟩;obtain⟨k',c,rfl,hc⟩:=hv v Ad;have dv:∀ v∈rest,∃ k' c,v=Value.ref c/\knd.is s'.heap k' c:=λv h=>hv v<|Af _ h
  dsimp only
  split
  ·exact BP ⟨rfl,rfl,dv⟩
  ·refine BJ<|knd.quiet hb ?_;simp only [Fc,Bg,CJ];refine BJ<|knd.quiet hc ?_;simp only [Fc,Bg,CJ];refine BJ<|U hb ?_;simp only [Bg,CJ];refine BJ<|U hc ?_;simp only [Bg,CJ];exact BP ⟨rfl,rfl,dv⟩
 ·rintro ⟨_,_⟩ s' ⟨rfl,rfl,_⟩;exact BP q
theorem ZO{m:Nat}(h:Pow<|m+1):(m % 2 == 0)=false:=by
 rw [beq_eq_false_iff_ne]
 rcases h with h | h | h | h | h | h <;> omega
theorem DH{adding:Bool}{o:Obj}{es:Array (Int×Value)}{ep:Nat}{t:SetTable}{N:Nat}{Q:SetFound->Shared->Prop}(U:tK knd)(hA:knd.room A)(ho:s.heap.get? a=some o)(hd:o.data = .set es ep t)(W:Wf t es<|Y.map<|ent knd)
  (hY:∀ y∈Y,knd.is s.heap y.2.1 y.2.2) (hb:knd.is s.heap k b) (S:Stop t.mask (Y.map<|ent knd) (knd.hash k) N)
  (k0:k∉Y.map (·.2.1)->Q (.free (pr t.mask (knd.hash k) N).j false) s) (k1:∀ oi,k∈Y.map (·.2.1)->(adding=false->oi.isSome=true)->Q (.there oi) s) :
  ∀(fuel m:Nat) (stand:Option Probe),stand.getD (t.probeStart<|knd.hash k)=pr t.mask (knd.hash k) m->m<=N->N - m < fuel->(∀ l,l < m->∀ y∈Y,y.1=(pr t.mask (knd.hash k) l).j->y.2.1≠k) ->
   wpAny (model prog w) A (setSearchFrom a (.ref b) (knd.hash k) adding fuel stand) Q E s
 | 0,m,stand,_,_,hf,_=>absurd hf<|Eb _
 | fuel+1,m,stand,hs,hm,hf,hn=>by
  unfold setSearchFrom;refine BJ<|FW ho hd W.fits ?_
  dsimp only
  rw [hs];have gw:t.gaveWay=false:=ZO W.pow;rw [gw];simp only [Bg,CJ];have hl:=S.lt;have G:=W.go (hashAt:=λi=>(es[i]?.map (·.1)).getD 0) (λi e he=>by show(es[i]?.map (·.1)).getD 0=e.1;rw [he];rfl) S (10 * turns t.mask) m hm<|by omega
  split
  ·rename_i met tL
   rcases G with ⟨m',i,z,a1,a2,a3,a4,a5,a6,a7⟩ | ⟨a1,a2⟩
   ·have e2:=Option.some.inj<|tL.symm.trans a7;subst e2;rw [Ae,Az] at a3;obtain⟨y,hy,rfl⟩:=a3;have DI:y∈Y:=Al hy;have hZ:(Y.map<|ent knd)[i]?=some (ent knd y):=by rw [Ae,hy];rfl
    have tG:t.slot (pr t.mask (knd.hash k) m').j = .live i:=by rw [<- a4];exact W.dZ hZ
    have Np:es[i]?=some (knd.hash y.2.1,Value.ref y.2.2):=(W.at hZ).2;have sj:t.sameMemory t.moves t.mask=some true:=by unfold sameMemory;rw [BL<|GJ _]
    have gM:∀(Q':Bool->Shared->Prop),Q' true s->wpAny (model prog w) A (isSame (.ref y.2.2)<|.ref y.2.2) Q' E s:=λQ' q=>by
     unfold isSame;simp only;rw [BL<|GJ _];exact BP q
    have again:y.2.1≠k->wpAny (model prog w) A (setSearchFrom a (.ref b) (knd.hash k) adding fuel<|some<|pr t.mask (knd.hash k)<|m'+1) Q E s:=λne=>
     DH U hA ho hd W hY hb S k0 k1 fuel (m'+1) (some<|pr t.mask (knd.hash k)<|m'+1) rfl (by omega) (by omega) λl im y' l8 DJ=>by
      by_cases c:l < m
      ·exact hn l c y' l8 DJ
      ·by_cases d:l=m'
       ·subst d;have:(ent knd y')=ent knd y:=by
         obtain⟨i',iM⟩:=Av l8;have DL:(Y.map<|ent knd)[i']?=some (ent knd y'):=by rw [Ae,iM];rfl
         have:=W.inj DL hZ (by show y'.1=(ent knd y).1;rw [a4];exact DJ);subst this;rw [hZ] at DL;exact(Option.some.inj DL).symm
        have e3:y'.2.2=y.2.2:=by
         have:=BZ (λz:Ze=>z.2.2) this;exact Value.ref.inj this
        have h1:=hY y' l8;rw [e3] at h1;rw [knd.inj h1<|hY y DI];exact ne
       ·intro ek;refine a6 l (by omega) (by omega) (ent knd y') (An.mpr ⟨y',l8,rfl⟩) DJ ?_;show knd.hash y'.2.1=knd.hash k;rw [ek]
    dsimp only
    split
    all_goals
     try
      refine BJ<|ZN U hb _ ?hm ?_
      case hm=>
       intro v hv;obtain⟨e,he,rfl⟩:=An.mp hv;rw [Array.toList_filter,Ds,W.ents] at he;obtain⟨z,hz,rfl⟩:=An.mp he.1;obtain⟨y',l8,rfl⟩:=An.mp hz;exact⟨y'.2.1,y'.2.2,rfl,hY y' l8⟩
      simp only [Bg,CJ]
     rw [Np]
     dsimp only
     refine BJ<|CT<|knd.eqBool hA (hY y DI) hb ?_;refine BJ<|FW ho hd W.fits ?_
     dsimp only
     rw [sj,tG]
     dsimp only
     rw [BL (rfl:true=true)]
     dsimp only
     rw [Np]
     dsimp only
     by_cases ek:y.2.1=k
     ·have lD:k∈Y.map (·.2.1):=An.mpr ⟨y,DI,ek⟩;rw [BW ek];cases adding with
      | true=>
       simp only [Bool.and_self,CQ];exact BP<|k1 none lD λz=>nomatch z
      | false=>
       simp only [Do,Bg,CJ,CQ];refine BJ<|gM _ ?_;refine BJ<|BP ?_;simp only [CQ];exact BP<|k1 (some i) lD λ_=>rfl
     ·rw [BR ek];simp only [Cq,Bg,CJ,CQ];refine BJ<|gM _ ?_;refine BJ<|BP ?_;simp only [CQ];exact again ek
   ·have e2:=Option.some.inj<|tL.symm.trans a2;subst e2
    dsimp only
    refine BP<|k0 λhk=>?_;obtain⟨y,hy,ey⟩:=An.mp hk;have hz:ent knd y∈Y.map (ent knd):=An.mpr ⟨y,hy,rfl⟩;obtain⟨n,e1,e2⟩:=W.Nm _ hz;have eh:(ent knd y).2.1=knd.hash k:=by show knd.hash y.2.1=_;rw [ey]
    rw [eh] at e1 e2;have ZP:n < N:=by
     refine BX λc=>?_
     rcases Dc N n with d | d
     ·exact S.out<|e2 N d
     ·have:n=N:=by omega
      subst this;exact S.out<|by rw [e1];exact An.mpr ⟨_,hz,rfl⟩
    by_cases c:n < m
    ·exact hn n c y hy e1.symm ey
    ·exact a1 n (by omega) ZP _ hz e1.symm eh
  ·rename_i kJ
   rcases G with ⟨m',i,z,a1,a2,a3,a4,a5,a6,a7⟩ | ⟨a1,a2⟩
   ·exact absurd a7<|kJ _
   ·exact absurd a2<|kJ _
end
section
variable{prog:Program}{w:World}{K:Type} [DecidableEq K]
def eS(m:Nat):Prop:=m=7\/m=31\/m=127\/m=511
def iA(knd:HeapKind prog w K)(h:Heap)(a:Addr)(Y:List<|Nat×K×Addr):Prop:=
 ∃ o es ep t,h.get? a=some o/\o.ExactSet/\o.data = .set es ep t/\Wf t es (Y.map<|ent knd)/\Y.length * 5 < t.mask * 3/\eS t.mask
def Nq(knd:HeapKind prog w K):Prop:=∀{A:Around} {E:Value->Shared->Prop} {s:Shared} {k:K} {a:Addr} {Q:Bool->Shared->Prop},knd.is s.heap k a->(∀ b,Q b s)->wpAny (model prog w) A (hashByValue 8<|.ref a) Q E s
variable{A:Around}{E:Value->Shared->Prop}{s:Shared}{a b:Addr}{knd:HeapKind prog w K}{k:K}{Y:List (Nat×K×Addr)}
theorem Nr{es:Array (Int×Value)}:byScan (.ref b) es=false:=by
 unfold byScan;rfl
theorem ZQ{Q:Option Nat->Shared->Prop}(U:tK knd)(hA:knd.room A)(S:iA knd s.heap a Y)(hY:∀ y∈Y,knd.is s.heap y.2.1 y.2.2)(hb:knd.is s.heap k b)
  (k0:k∉Y.map (·.2.1)->Q none s) (k1:∀ i,k∈Y.map (·.2.1)->Q (some i) s):wpAny (model prog w) A (setFind a (.ref b)<|knd.hash k) Q E s:=by
 obtain⟨o,es,ep,t,ho,hx,hd,W,_⟩:=S;obtain⟨N,SN⟩:=W.stop<|knd.hash k;have hl:=SN.lt;have hm:=W.pow.pos.2;unfold setFind setFindIn;refine BJ<|FW ho hd W.fits ?_
 dsimp only
 rw [Nr];simp only [Bg,CJ];refine BJ ?_;refine DH (adding:=false) U hA ho hd W hY hb SN (λhk=>?_) (λoi hk hs=>?_) 100000 0 none (Nc t _) (Bo _) (by unfold turns at hl;omega) λl im=>absurd im<|Eb _
 ·exact BP<|k0 hk
 ·cases oi with
  | none=>exact absurd (hs rfl) As
  | some i=>exact BP<|k1 i hk
theorem ZR{m:Nat}(h:eS m):Pow (m+1):=by
 unfold eS at h;unfold Pow
 rcases h with rfl | rfl | rfl | rfl <;> decide
theorem ZS{m n:Nat}(hw:eS m)(h1:(n - 1) * 5 < m * 3)(h2:n * 5>=m * 3)(h0:1<=n)(h3:n<=300):eS (sizeAbove (grown n) - 1)/\n<=sizeAbove (grown n) - 1/\n * 5 < (sizeAbove (grown n) - 1) * 3:=by
 rcases hw with h | h | h | h
 ·have:n=5:=by omega
  subst this;unfold eS;decide +kernel
 ·have:n=19:=by omega
  subst this;unfold eS;decide +kernel
 ·have:n=77:=by omega
  subst this;unfold eS;decide +kernel
 ·omega
theorem Nu{o:Obj}{ep:Nat}{es iE:Array (Int×Value)}{t t':SetTable}{h:Heap}{Y':List (Nat×K×Addr)}(ho:h.get? a=some o)(hx:o.ExactSet)(hd:o.data = .set es ep t)(W':Wf t' iE<|Y'.map<|ent knd) :
  (h.update a<|Obj.putSet iE t').get? a=some {o with data:= .set iE (ep+1) t'}:=by
 have q:=Em (Obj.putSet iE t') ho (by rw [putSet_of iE t' hd];rfl);rw [putSet_of iE t' hd] at q;exact q
theorem Nv{α β:Type}{f:α->β}{L M:List β}(h:L.Perm M):∀{Y':List α},Y'.map f=M->∃ Y2:List α,L=Y2.map f/\Y2.Perm Y':=by
 induction h with
 | nil=>
  intro Y' hM;have:Y'=[]:=by simpa using hM
  subst this;exact⟨[],rfl,.refl _⟩
 | cons x p ih=>
  intro Y' hM;cases Y' with
  | nil=>cases hM
  | cons y r=>
   rw [Ap] at hM
   injection hM with e1 e2
   subst e1;obtain⟨Y2,e3,p2⟩:=ih e2;exact⟨y :: Y2,by rw [e3];rfl,p2.cons y⟩
 | swap x y l=>
  intro Y' hM;cases Y' with
  | nil=>cases hM
  | cons u r=>
   cases r with
   | nil=>cases hM
   | cons v r=>
    rw [Ap,Ap] at hM
    injection hM with e1 e2
    injection e2 with e2 e3
    subst e1 e2 e3;exact⟨v :: u :: r,rfl,.swap _ _ _⟩
 | trans p1 p2 DM tM=>
  intro Y' hM;obtain⟨Y2,e2,q2⟩:=tM hM;obtain⟨Y3,e3,q3⟩:=DM e2.symm;exact⟨Y3,e3,q3.trans q2⟩
theorem glue:∀{Z:List Ze} {Y:List (Nat×K×Addr)},Z.map (·.2)=Y.map (λy=>(ent knd y).2)->∃ Y2:List<|Nat×K×Addr,Z=Y2.map (ent knd)/\Y2.map (·.2)=Y.map (·.2)
 | [],[],_=>⟨[],rfl,rfl⟩
 | [],_ :: _,h=>by cases h
 | _ :: _,[],h=>by cases h
 | z :: Z,y :: Y,h=>by
  rw [Ap,Ap] at h
  injection h with h1 h2
  obtain⟨Y2,e1,e2⟩:=glue h2;refine⟨(z.1,y.2) :: Y2,?_,by rw [Ap,Ap,e2]⟩;rw [Ap,<- e1]
  congr 1
  show z=(z.1,(ent knd y).2);rw [<- h1]
theorem ZT{Q:Bool->Shared->Prop}(U:tK knd)(HB:Nq knd)(hA:knd.room A)(S:iA knd s.heap a Y)(hY:∀ y∈Y,knd.is s.heap y.2.1 y.2.2)(hb:knd.is s.heap k b)(hl:Y.length+1<=300)
    (q0:k∈Y.map (·.2.1)->Q false s) (q1:∀ h' Y',k∉Y.map (·.2.1)->Heap.SameBut a s.heap h'->iA knd h' a Y'->(Y'.map (·.2)).Perm ((k,b) :: Y.map (·.2))->Q true {s with heap:=h'}) :
    wpAny (model prog w) A (setAddHashed a (.ref b)<|knd.hash k) Q E s:=by
  obtain⟨o,es,ep,t,ho,hx,hd,W,Nw,hw⟩:=S;obtain⟨N,SN⟩:=W.stop<|knd.hash k;have aM:=SN.lt;have hm:=W.pow.pos;have eZ:(Y.map<|ent knd).length=Y.length:=Aa ..;unfold setAddHashed setAddHashedIn;refine CT<|BJ<|FW ho hd W.fits ?_
  dsimp only
  rw [Nr];simp only [Bg,CJ];refine BJ ?_;refine DH (adding:=true) U hA ho hd W hY hb SN (λhk=>?_) (λoi hk hs=>?_) 100000 0 none (Nc t _) (Bo _) (by unfold turns at aM;omega) λl im=>absurd im<|Eb _
  · dsimp only
    refine BJ<|FW ho hd W.fits ?_
    dsimp only
    have put:=λ(t':SetTable) e1 e2 e3=>W.put (x:= .ref b) SN (t':=t') e1 e2 e3 (by rw [eZ];omega);have fin:∀ t':SetTable,t'.mask=t.mask->t'.place=(t.put (pr t.mask (knd.hash k) N).j).1.place->t'.dummies=#[]->wpAny (model prog w) A (do
        storeSet a (insertAt es (t.put (pr t.mask (knd.hash k) N).j).2 (knd.hash k,.ref b)) t'
        if (!false && t'.tooFull) = true then do
            setRelay a (grown<|es.size+1)
            pure true
          else pure true) Q E s:=λt' e1 e2 e3=>by
      obtain⟨Z',W',pZ⟩:=put t' e1 e2 e3;obtain⟨Y2,ZU,Nx⟩:=Nv pZ (f:=ent knd) (Y':=((pr t.mask (knd.hash k) N).j,k,b) :: Y) rfl;subst ZU;have ZV:Y2.length=Y.length+1:=Nx.length_eq;have lE:=W'.len;rw [Aa] at lE;have pk:(Y2.map (·.2)).Perm ((k,b) :: Y.map (·.2)):=Nx.map (·.2);generalize insertAt es (t.put (pr t.mask (knd.hash k) N).j).2 (knd.hash k,.ref b)=jS at W' lE ⊢;refine BJ (wpAny_storeSet_of ho hd ?_<|J8<|by omega);have g1:=Nu (knd:=knd) (Y':=Y2) ho hx hd W';have sb:=JZ s.heap a<|Obj.putSet jS t';have l9:t'.fill=Y2.length:=by
        unfold fill;rw [W'.tJ,e3,Aa];rfl
      by_cases full:t'.tooFull=true
      · rw [full];simp only [Gf,Bool.and_self,CQ];unfold tooFull at full;rw [DQ,l9,e1] at full;obtain⟨w1,w2,w3⟩:=ZS (n:=es.size+1) hw (by rw [W.len,eZ];omega) (by rw [W.len,eZ];omega) (by omega) (by rw [W.len,eZ];omega);have en:es.size+1=jS.size:=by rw [lE,ZV,W.len,eZ]
        rw [en] at w1 w2 w3 ⊢;have ZW:sizeAbove (grown jS.size) - 1+1=sizeAbove (grown jS.size):=by unfold eS at w1;omega
        have pw:=ZR w1;rw [ZW] at pw;obtain⟨t2,order,Z3,r1,r2,r3,r4,r5⟩:=ZK (t:=t') (es:=jS) pw w2;refine BJ ?_;unfold setRelay;refine BJ<|FW g1 rfl W'.fits ?_
        dsimp only
        have DS:¬(sizeAbove (grown jS.size) > sizeLine):=by
          have:=pw.pos.2;rw [CW];omega
        rw [BK DS,r1];refine BJ ?_;show wpAny _ _ (if((order.filterMap (jS[·]?)).size != jS.size)=true then _ else _) _ _ _;rw [BK<|by rw [r2];simp];refine BP ?_;refine wpAny_storeSet_of g1 rfl ?_ (by rw [r2];exact J8<|by omega);refine BP ?_;rw [W'.ents,Bj] at r4;obtain⟨Y4,ZX,Ny⟩:=Nv r4 (f:=λy=>(ent knd y).2) (Y':=Y2) rfl;obtain⟨Y5,ZY,Nz⟩:=glue ZX;subst ZY;have sY:({o with data:= .set jS (ep+1) t'}:Obj).ExactSet:=hx;have g2:=Nu (knd:=knd) (Y':=Y5) g1 sY rfl r3;have ZZ:Y5.length=Y2.length:=by
          have:=BZ List.length Nz;rw [Aa,Aa,Ny.length_eq] at this;exact this
        refine q1 _ Y5 hk (sb.trans<|JZ _ a _) ⟨_,_,_,t2,g2,sY,rfl,r3,by rw [r5,ZZ,<- lE];exact w3,by rw [r5];exact w1⟩ ?_;rw [Nz];exact(Ny.map (·.2)).trans pk
      · rw [Bool.not_eq_true] at full;rw [full];simp only [Cq,Bg,CJ];refine BP (q1 _ Y2 hk sb ⟨_,jS,ep+1,t',g1,hx,rfl,W',?_,by rw [e1];exact hw⟩ pk);unfold tooFull at full;rw [decide_eq_false_iff_not,l9] at full;omega
    have dm:(t.put (pr t.mask (knd.hash k) N).j).1.dummies=#[]:=by
      show(if has t.dummies _=true then _ else t.dummies)=#[];rw [W.DE];rfl
    split
    · refine BJ<|HB hb λbv=>?_;cases bv with
      | true=>exact fin (t.put (pr t.mask (knd.hash k) N).j).1 rfl rfl dm
      | false=>exact fin {(t.put (pr t.mask (knd.hash k) N).j).1 with plain:=false} rfl rfl dm
    · exact BJ<|BP<|fin (t.put (pr t.mask (knd.hash k) N).j).1 rfl rfl dm
  · dsimp only
    exact BP<|q0 hk
end
section
variable{prog:Program}{w:World}{K:Type} [DecidableEq K] {knd:KeyKind prog w K}
theorem Z4{v:Value}(h:carriedByValue v=true):ofAClassStatement 7 v=pure false:=by
 cases v <;> first | rfl | exact absurd h (by decide) | (unfold carriedByValue at h;cases h)
theorem Z5{v:Value}(h:carriedByValue v=true):∃ b,hashByValue 7 v=pure b:=by
 cases v <;> first | exact⟨_,rfl⟩ | exact absurd h (by decide) | (unfold carriedByValue at h;cases h)
theorem NA:tK (tupleKind knd):=by
 intro A E s k a Q hk q;have hT:=IsTupleKey.typeIs hk;obtain⟨o,items,n,ho,hc,hd,hi⟩:=hk;unfold ofAClassStatement;refine BJ<|JN hT ?_
 dsimp only
 refine BJ<|BP ?_;simp only [Fc,Bg,CJ];refine BJ<|KC ho hd ?_
 dsimp only
 refine BJ ?_;rw [<- Array.forIn_toList];refine PN _ (λrest r s'=>r.1=none/\s'=s/\∀ v∈rest,carriedByValue v=true) _ ?_ ?_ _ _ ⟨rfl,rfl,hi.byValue⟩
 ·rintro v rest r s' ⟨hr,rfl,fU⟩;rw [Z4<|fU v Ad];refine BJ<|BP ?_;simp only [Bg,CJ];exact BP ⟨rfl,rfl,λu hu=>fU u<|Af _ hu⟩
 ·rintro ⟨r1,r2⟩ s' ⟨hr,rfl,_⟩;simp only at hr;subst hr;exact BP q
theorem Z6:Nq (tupleKind knd):=by
 intro A E s k a Q hk q;have hT:=IsTupleKey.typeIs hk;obtain⟨o,items,n,ho,hc,hd,hi⟩:=hk;unfold hashByValue;refine BJ<|HN hT F.slot_tuple_hash.lookup ?_
 dsimp only
 refine BJ<|KC ho hd ?_;refine BJ ?_;show wpAny _ _ (forIn items _ _) _ _ s;rw [<- Array.forIn_toList];refine PN _ (λrest r s'=>s'=s/\∀ v∈rest,carriedByValue v=true) _ ?_ ?_ _ _ ⟨rfl,hi.byValue⟩
 ·rintro v rest r s' ⟨rfl,fU⟩;obtain⟨b,eb⟩:=Z5<|fU v Ad;rw [eb];refine BJ<|BP ?_;cases b with
  | true=>
   simp only [Fc,Bg,CJ];exact BP ⟨rfl,λu hu=>fU u<|Af _ hu⟩
  | false=>
   simp only [Gf,CQ];exact BP<|by first | exact BP (q _) | trace_state
 ·rintro ⟨r1,r2⟩ s' ⟨rfl,_⟩;cases r1 with
  | none=>exact BP<|q _
  | some r=>exact BP<|q _
end
end ce
namespace L2
open PySem PySem.Spec PyProof.Rows ce Classical
abbrev Yt:=Nat×List Key×Addr
def iR(prog:Program)(w:World)(a:Addr)(Y:List Yt):HO:= .ext λh=>iA (tupleKind<|bI prog w) h a Y
section
variable{prog:Program}{w:World}{A:Around}{E:Value->Shared->Prop}{s:Shared}{a b:Addr}{Y:List Yt}{k:List Key}
theorem Z7{h h':Heap}(S:iA (tupleKind<|bI prog w) h a Y)(q:∀ o,h.get? a=some o->h'.get? a=some o):iA (tupleKind<|bI prog w) h' a Y:=let ⟨o,es,ep,t,h1,h2⟩:=S;⟨o,es,ep,t,q o h1,h2⟩
theorem DT(S:iA (tupleKind<|bI prog w) s.heap a Y):s.TypeIs (.ref a) "set":=let ⟨o,_,_,_,h1,h2,_⟩:=S;⟨o,h1,h2.1⟩
theorem Z8{h:Heap}(e:h.get? a=some (rC w)):iA (tupleKind<|bI prog w) h a []:=
 ⟨_,#[],0,_,e,⟨rfl,rfl,rfl⟩,rfl,⟨rfl,rfl,List.Pairwise.nil,λz hz=>(by cases hz),by show 0<=7;decide,rfl,.inl rfl,λz hz=>(by cases hz)⟩,by show 0 * 5 < 7 * 3;decide,.inl rfl⟩
theorem Z9{Q:Value->Shared->Prop}(hu:A.units+1 < cLine)(S:iA (tupleKind<|bI prog w) s.heap a Y)(hY:∀ y∈Y,(tupleKind<|bI prog w).is s.heap y.2.1 y.2.2)(hb:(tupleKind<|bI prog w).is s.heap k b)
  (h:∀ tk,Q (.bool (decide (k∉Y.map (·.2.1)))) {s with toks:=tk}):wpAny (model prog w) A (compareOp .NotIn (.ref b)<|.ref a) Q E s:=by
 have hT:=DT S;show wpAny _ _ (do return .bool (!(<- contains (.ref a)<|.ref b))) Q E s;refine BJ ?_;unfold contains
 try with_reducible refine CT ?_
 refine BJ<|HN hT PySem.F.slot_set_contains.lookup ?_;show wpAny _ _ (if(some (Value.builtin "set.__contains__") == some Value.none)=true then _ else _) _ E s;rw [BK<|by rw [beq_builtin_none];exact As];refine BJ<|wpAny_callSpecialUnlessNone?_slot (name:=Str.ofString "__contains__") hT NK<|FN NK hT entry_set_contains ?_<|PySem.F.args_set_contains_2 _ _;unfold Builtin.«frozenset.__contains__» Builtin.Frozenset.oneOther;simp only [List.isEmpty_nil,bind_assoc];unfold Builtin.Frozenset.addrOf Builtin.Frozenset.withSetAsKey setContains;refine BJ<|BP ?_
 try dsimp only
 refine BJ<|BP ?_
 try dsimp only
 refine BJ<|wpAny_tryCatch<|CT ?_;refine BJ<|(tupleKind<|bI prog w).pyHash (k:=k) (DW hu) hb ?_;refine BJ<|ZQ (s:={s with toks:=s.toks+(tupleKind<|bI prog w).draws k}) NA (DW hu) S hY hb (λhz=>?_) λj hz=>?_
 ·refine BP ?_;show wpAny _ _ (ret<|Value.bool false) _ _ _;have h:=h<|s.toks+(tupleKind<|bI prog w).draws k;rw [BW hz] at h;exact BP ⟨_,rfl,DK<|BP h⟩
 ·refine BP ?_;show wpAny _ _ (ret<|Value.bool true) _ _ _;have h:=h<|s.toks+(tupleKind<|bI prog w).draws k;rw [BR<|not_not_intro hz] at h;exact BP ⟨_,rfl,DK<|BP h⟩
theorem k4k{Q:Value->Shared->Prop}(hu:A.units+1 < cLine)(S:iA (tupleKind<|bI prog w) s.heap a Y)(hY:∀ y∈Y,(tupleKind<|bI prog w).is s.heap y.2.1 y.2.2)(hb:(tupleKind<|bI prog w).is s.heap k b)(hl:Y.length+1<=300)
  (h:∀ h' tk Y',Heap.SameBut a s.heap h'->iA (tupleKind<|bI prog w) h' a Y'->(Y'.map (·.2)).Perm (if k∈Y.map (·.2.1) then Y.map (·.2) else(k,b) :: Y.map (·.2))->Q .none {s with heap:=h',toks:=tk}) :
  wpAny (model prog w) A (call (.builtin "set.add") [.ref a,.ref b]) Q E s:=by
 have hT:=DT S;refine FN F.slot_set_add hT F.entry_set_add ?_<|F.args_set_add_2 _ _;unfold Builtin.«set.add» Builtin.Frozenset.oneOther;simp only [List.isEmpty_nil,bind_assoc];unfold Builtin.Frozenset.addrOf setAdd;refine BJ<|BP ?_
 try dsimp only
 refine BJ<|BP ?_
 try dsimp only
 refine BJ ?_;refine CT ?_;refine BJ<|(tupleKind<|bI prog w).pyHash (k:=k) (DW hu) hb ?_;refine ZT (s:={s with toks:=s.toks+(tupleKind<|bI prog w).draws k}) NA Z6 (DW hu) S hY hb hl (λhk=>?_) λh' Y' hk sb S' p=>?_
 ·show wpAny _ _ (ret Value.none) _ _ _;exact BP ⟨_,rfl,h s.heap _ Y (Heap.SameBut.refl a s.heap) S<|by rw [BL hk]⟩
 ·show wpAny _ _ (ret Value.none) _ _ _;exact BP ⟨_,rfl,h h' _ Y' sb S'<|by rw [BK hk];exact p⟩
end
section
variable{X:Cx}{σ:St}{H:Hp}{Q:VK}{pins:List (Addr×Obj)}{s:Shared}{a b:Addr}{Y:List Yt}
theorem NC{h:Heap}(S:iA (tupleKind<|bI X.prog X.w) h a Y):ay X.prog X.w H h a (iR X.prog X.w a Y):=by
 refine⟨S,?_,λh1 h2 q k=>Z7 q k⟩;obtain⟨o,_,_,_,ho,_⟩:=S;exact⟨o,ho⟩
theorem Inv.oE(I:Inv X pins σ H s)(h:H a=some (iR X.prog X.w a Y)):iA (tupleKind<|bI X.prog X.w) s.heap a Y:=(I.aD a _ h).1
structure bP(prog:Program)(w:World)(H:Hp)(a:Addr)(ks:List<|List Key):Prop where
 ex:∃ Y,H a=some (iR prog w a Y)/\(∀ y∈Y,H y.2.2=some (.tup<|y.2.1.map kV))/\(Y.map (·.2.1)).Perm ks
theorem bP.same{prog:Program}{w:World}{H H':Hp}{ks:List (List Key)}(h:bP prog w H a ks)(s:ak H H'):bP prog w H' a ks:=let ⟨Y,h1,h2,h3⟩:=h.ex;⟨Y,s _ _ h1,λy hy=>s _ _<|h2 y hy,h3⟩
theorem bP.keep{prog:Program}{w:World}{H H':Hp}{ks:List (List Key)}(h:bP prog w H a ks)(k1:H' a=H a)(k2:∀ b xs,H b=some (.tup xs)->H' b=some (.tup xs)):bP prog w H' a ks:=let ⟨Y,h1,h2,h3⟩:=h.ex;⟨Y,by rw [k1];exact h1,λy hy=>k2 _ _<|h2 y hy,h3⟩
theorem bP.ne{prog:Program}{w:World}{H:Hp}{ks:List (List Key)}{o:HO}(h:bP prog w H a ks)(e:H b=some o)(ho:∀ φ,o ≠ .ext φ):b≠a:=λq=>by
 obtain⟨Y,h1,_⟩:=h.ex;rw [q,h1] at e;exact ho _ (Option.some.inj e).symm
theorem bP.some{prog:Program}{w:World}{H:Hp}{ks:List (List Key)}(h:bP prog w H a ks):H a≠none:=λq=>by
 obtain⟨Y,h1,_⟩:=h.ex;rw [q] at h1;cases h1
theorem k71{p pos:Pos}(hm:X.mg "set" = none)(h:∀ D,H D=none->Q (.ref D) (upd H D<|iR X.prog X.w D []))(hg:Gl X "set":=by rfl):Ev X (.Call (.Name "set" p) [] [] pos) σ H Q:=by
 refine⟨λpins s I=>Call_<|iG I hg hm PyProof.Rows.boot_set<|PyProof.Rows.callWith_type0<|Ww ?_⟩;exact⟨.ref s.heap.objs.size,_,I.laid (t':=s.toks) (λb o e=>Ai _ e) (Am _)<|NC<|Z8<|Ba _ rfl,rfl,h _ I.fresh⟩
theorem oF{prog:Program}{w:World}{D:Addr}:bP prog w (upd H D<|iR prog w D []) D []:=⟨[],aA,λy hy=>(by cases hy),.refl _⟩
theorem j61(hu:X.A.units+1 < cLine):cX X (compareOp .NotIn) (λx y H Q=>∃ k b a ks,x = .ref b/\y = .ref a/\H b=some (.tup<|k.map kV)/\bP X.prog X.w H a ks/\Q (.bl<|decide (k∉ks)) H):=by
 intro pins s σ H x y v u Q I rx ry h;obtain⟨k,b,a,ks,rfl,rfl,hb,T,q⟩:=h;obtain⟨Y,h1,h2,h3⟩:=T.ex;cases (show v=Value.ref b from rx);cases (show u=Value.ref a from ry);refine Z9 hu (Inv.oE I h1) (λy hy=>jA I.aD<|h2 y hy) (jA I.aD hb) λtk=>⟨.bl<|decide (k∉ks),H,I.tok _,?_,q⟩;show Value.bool _=Value.bool _
 congr 1
 exact decide_eq_decide.mpr<|not_congr h3.mem_iff
theorem q1j{o e:Expr}{ap cp:Pos}(hu:X.A.units+1 < cLine) (h:Ev X o σ H λx H1=>∃ a,x = .ref a/\(∃ ks,bP X.prog X.w H1 a ks)/\Ev X e σ H1 λy H2=>∃ k b ks,y = .ref b/\H2 b=some (.tup<|k.map kV)/\bP X.prog X.w H2 a ks/\ks.length+1<=300 /\
   ∀ oo,bP X.prog X.w (upd H2 a oo) a (if k∈ks then ks else k :: ks)->Q .non (upd H2 a oo))
  (b8:attributeBase o "add" X.env (eval o X.env)=eval o X.env:=by rfl)
  (eG:((backTo cp<|starEach [e] X.env).all (λx=>!x.1) && (backToKw cp<|keywordEach [] X.env).all (λx=>x.1.isSome) && decide ([e].length+([]:List Keyword).length+(if([]:List Keyword).isEmpty then 0 else 1) < 30))=true:=by rfl)
  (hline:(ap.endLine == cp.line)=true:=by rfl) (hs:starEach [e] X.env=(false,eval e X.env) :: starEach [] X.env:=by rfl) (cD:isStar e=false:=by rfl):Ev X (.Call (.Attribute o "add" ap) [e] [] cp) σ H Q:=by
 refine⟨λpins s I=>wpAny_Call_method_late b8 eG hline rfl (aI (h.run pins s I) λv s1 ⟨x,H1,I1,r1,a,ex,⟨ks,hA⟩,h2⟩=>?_)⟩;subst ex;cases (show v=Value.ref a from r1);obtain⟨Y0,g1,_⟩:=hA.ex;have S:=Inv.oE I1 g1;refine⟨"set","set.add",PySem.F.plainAttrs_set,PySem.F.slot_set_add,PySem.F.type_set_add,DT S,λb eb=>?_,?_⟩
 ·cases eb;obtain⟨o,_,_,_,ho,hx,_⟩:=S;exact⟨o,ho,hx.2.1⟩
 have hE:Ea X [e] σ H1 (λys H2=>∃ k b ks,ys=[.ref b]/\H2 b=some (.tup<|k.map kV)/\bP X.prog X.w H2 a ks/\ks.length+1<=300/\∀ oo,bP X.prog X.w (upd H2 a oo) a (if k∈ks then ks else k :: ks)->Q .non (upd H2 a oo)):=
  aq (h2.mono λy H2 ⟨k,b,ks,ey,q⟩=>aB ⟨k,b,ks,by rw [ey],q⟩) cD
 have ND:=hE.run cp pins s1 I1;rw [hs] at ND ⊢;refine IW rfl (Calls.evalArgs_plain ?_);refine aI ND λus s2 ⟨vs,H2,I2,r2,k,b,ks,ev,hb,T,hl,q⟩=>?_;subst ev;obtain⟨u,rfl,ru⟩:=vals1 r2;cases (show u=Value.ref b from ru);obtain⟨Y,g1,g2,g3⟩:=T.ex;have hlY:Y.length=ks.length:=by
  have:=g3.length_eq;rw [Aa] at this;exact this
 refine k4k hu (Inv.oE I2 g1) (λy hy=>jA I2.aD<|g2 y hy) (jA I2.aD hb) (by omega) λh' tk Y' sb S' p=>?_;refine⟨.non,_,lu (t':=tk) I2 (by rw [g1];exact True.intro) sb ?_<|NC S',rfl,q _ ?_⟩
 ·obtain⟨o,_,_,_,ho,_⟩:=S';exact⟨o,ho⟩
 ·have nt:∀{c:Addr} {xs:List V},H2 c=some (.tup xs)->c≠a:=λe z=>by
   rw [z,g1] at e;cases e
  refine⟨Y',aA,λy hy=>?_,?_⟩
  ·have hm:y.2∈(if k∈Y.map (·.2.1) then Y.map (·.2) else(k,b) :: Y.map (·.2)):=p.mem_iff.mp<|An.mpr ⟨y,hy,rfl⟩;have old:y.2∈Y.map (·.2)->(upd H2 a<|iR X.prog X.w a Y') y.2.2=some (.tup<|y.2.1.map kV):=λhm=>by
    obtain⟨z,hz,ez⟩:=An.mp hm;rw [<- ez,ax<|nt<|g2 z hz];exact g2 z hz
   split at hm
   ·exact old hm
   ·rcases Ah.mp hm with e | hm
    ·rw [e,ax<|nt hb];exact hb
    ·exact old hm
  ·have p2:=p.map (·.1);rw [Bj] at p2;refine p2.trans ?_
   by_cases c:k∈Y.map (·.2.1)
   ·rw [BL c,BL<|g3.mem_iff.mp c,Bj];exact g3
   ·rw [BK c,BK λz=>c<|g3.mem_iff.mpr z,Ap,Bj];exact g3.cons k
end
end L2
namespace X4
open PySem L2 Nt bB ce
def gP(n:Net)(H:Hp)(ts:List Addr)(es:List Nt.End):Prop:=ts.length=es.length/\∀(j:Nat) t e,ts[j]?=some t->es[j]?=some e->H t=some (TN n e)
theorem gP.keep{n:Net}{H H':Hp}{ts:List Addr}{es:List Nt.End}(h:gP n H ts es)(k:∀ t p j,H t=some (Tn p j)->H' t=some (Tn p j)):gP n H' ts es:=⟨h.1,λj t e h1 h2=>k _ _ _<|h.2 j t e h1 h2⟩
theorem gP.same{n:Net}{H H':Hp}{ts:List Addr}{es:List Nt.End}(h:gP n H ts es)(s:ak H H'):gP n H' ts es:=h.keep λ_ _ _ q=>s _ _ q
theorem gP.append{n:Net}{H:Hp}{ts us:List Addr}{es fs:List Nt.End}(h:gP n H ts es)(g:gP n H us fs):gP n H (ts++us) (es++fs):=by
 refine⟨by rw [Ag,Ag,h.1,g.1],λj t e h1 h2=>?_⟩;have hl:=h.1
 by_cases hj:j < ts.length
 ·rw [Ay hj] at h1;rw [Ay<|by omega] at h2;exact h.2 j t e h1 h2
 ·rw [Bc<|by omega] at h1 h2;rw [<- hl] at h2;exact g.2 _ t e h1 h2
theorem q7y{n:Net}(hN:(n.map (·.1)).Nodup){a b:Nt.End}(ha:a∈ends n)(hb:b∈ends n):decide (nameAt n a.1=nameAt n b.1/\(a.2:Int)=(b.2:Int))=decide (a=b):=by
 obtain⟨z1,h1⟩:=af.mp ha;obtain⟨z2,h2⟩:=af.mp hb;refine decide_eq_decide.mpr ⟨λ⟨p,q⟩=>om hN (cT h1) (cT h2) (by unfold key;rw [p,q]),λe=>by rw [e];exact⟨rfl,rfl⟩⟩
def cg(n:Net)(H:Hp)(d:Addr)(c:Int):Prop:=∃ kvs,H d=some (.dT kvs)/\∀ e∈ends n,∃ u,aC kvs (key n e)=some (.ref u)/\H u=some (TN n<|go c n e)
theorem cg.same{n:Net}{H H':Hp}{d:Addr}{c:Int}(h:cg n H d c)(s:ak H H'):cg n H' d c:=let ⟨kvs,h1,h2⟩:=h;⟨kvs,s _ _ h1,λe he=>let ⟨u,a,b⟩:=h2 e he;⟨u,a,s _ _ b⟩⟩
theorem cg.get{n:Net}{H:Hp}{d t:Addr}{c:Int}{e:Nt.End}(h:cg n H d c)(he:e∈ends n)(ht:H t=some (TN n e)):∃ u,bp H d (.ref t) (some<|.ref u)/\H u=some (TN n<|go c n e):=by
 obtain⟨kvs,h1,h2⟩:=h;obtain⟨u,a,b⟩:=h2 e he;exact⟨u,by rw [<- a];exact bp.t (k:=key n e) h1 ht,b⟩
structure iS(n:Net)(H:Hp)(L:Addr)(ls:List Addr)(ws:List<|List Nt.End):Prop where
 lst:H L=some (.lst<|ls.map V.ref)
 len:ls.length=ws.length
 fM:ls.Nodup
 out:L∉ls
 at':∀(j:Nat) l w,ls[j]?=some l->ws[j]?=some w->∃ ts,H l=some (.lst<|ts.map V.ref)/\gP n H ts w
theorem iS.same{n:Net}{H H':Hp}{L:Addr}{ls:List Addr}{ws:List (List Nt.End)}(h:iS n H L ls ws)(s:ak H H'):iS n H' L ls ws:=
 ⟨s _ _ h.lst,h.len,h.fM,h.out,λj l w h1 h2=>let ⟨ts,a,b⟩:=h.at' j l w h1 h2;⟨ts,s _ _ a,b.same s⟩⟩
theorem iS.keep{n:Net}{H H':Hp}{L:Addr}{ls:List Addr}{ws:List (List Nt.End)}(h:iS n H L ls ws)(hL:H' L=H L)(kl:∀ l∈ls,∀ o,H l=some o->H' l=some o)(kt:∀ t p j,H t=some (Tn p j)->H' t=some (Tn p j)):iS n H' L ls ws:=
 ⟨by rw [hL];exact h.lst,h.len,h.fM,h.out,λj l w h1 h2=>let ⟨ts,a,b⟩:=h.at' j l w h1 h2;⟨ts,kl l (Al h1) _ a,b.keep kt⟩⟩
theorem iS.snoc{n:Net}{H H':Hp}{L l:Addr}{ls ts:List Addr}{ws:List (List Nt.End)}{v:List Nt.End}(h:iS n H L ls ws)(hL:H' L=some (.lst<|ls.map V.ref++[.ref l]))(kl:∀ l∈ls,∀ o,H l=some o->H' l=some o)(kt:∀ t p j,H t=some (Tn p j)->H' t=some (Tn p j))
  (hl:H' l=some (.lst<|ts.map V.ref)) (hv:gP n H' ts v) (hn:l∉ls) (hLl:L≠l):iS n H' L (ls++[l]) (ws++[v]):=by
 refine⟨by rw [hL,Ak];rfl,by rw [Ag,Ag,h.len];rfl,m4 h.fM hn,λhm=>?_,λj a x h1 h2=>?_⟩
 ·rcases Aq.mp hm with hm | hm
  ·exact h.out hm
  ·exact hLl<|Aj.mp hm
 ·have hlen:=h.len
  by_cases hj:j < ls.length
  ·rw [Ay hj] at h1;rw [Ay<|by omega] at h2;obtain⟨us,q1,q2⟩:=h.at' j a x h1 h2;exact⟨us,kl a (Al h1) _ q1,q2.keep kt⟩
  ·rw [Bc<|by omega] at h1 h2;have iu:j - ls.length=0:=by
    have:=(Ac.mp h1).1;simp at this;omega
   rw [iu] at h1;rw [<- hlen,iu] at h2;cases h1;cases h2;exact⟨ts,hl,hv⟩
theorem q1t{n:Net}{i:Nat}{p:Str×Nt.End}(h:(aV n)[i]?=some p):(ends n)[i]?=some p.2:=by unfold ends;rw [Ae,h];rfl
def oG:Sp:=λvs H Q _=>∃(dl t:Addr) (n:Net) (e:Nt.End),vs=[.ref dl,.ref t]/\cg n H dl 1/\(n.map (·.1)).Nodup/\az n/\(ag n).length<=1000/\e∈ends n/\H t=some (TN n e) /\
 ∀(l:Addr) (ts:List Addr) (H':Hp),ak H H'->H l=none->H' l=some (.lst<|ts.map V.ref)->gP n H' ts (face n e)->Q (.ref l) H'
def DU:Sp:=λvs H Q _=>∃(R:Addr) (as:List<|Addr×Addr) (n:Net),vs=[.ref R]/\ah H R as n/\(n.map (·.1)).Nodup/\az n/\n.length<=1000/\(ag n).length<=200 /\
 ∀(L:Addr) (ls:List Addr) (H':Hp),ak H H'->H L=none->iS n H' L ls (bq n)->(∀ l∈ls,H l=none)->Q (.ref L) H'
section
variable{P:Program}{w:World}{K:PySem.W.Frag}{mg:Str->Option Value}{base:Heap}
abbrev NFf:List Str:=["steps","first","face","end"]
theorem tN:au NFf ["steps","first"] (bg zP):=⟨rfl,rfl,rfl,by decide +kernel,rfl,by decide +kernel,by decide +kernel⟩
theorem q8g{f:Addr}{fd:FuncData}(F:bX K "face_from" "face_from" zP f fd)(T:Txt mg):aJ P w K mg base bT 1 f fd ["steps","first"] oG:=by
 refine F.gb tN (λvs H Q E h=>?_) λb0 H vs Q E hr h=>?_
 ·obtain⟨dl,t,n,e,rfl,_⟩:=h;rfl
 obtain⟨dl,t,n,e,rfl,hL,hN,hT,jT,he,ht,q⟩:=h;have nd:=tN.nd;have pT:=ik n;have hu:=hr.u1;have un:=hr.ie;obtain⟨k,pk,hk⟩:=K7 hT he;have k0:=pk.pos;have NI:∀{H':Hp} {c:Nt.End} {u:Addr},ak H H'->c∈ends n->H' u=some (TN n c)->∃ v,bp H' dl (.ref u) (some<|.ref v)/\H' v=some (TN n<|step n c):=λ{H' c u} sm hc kK=>by
  obtain⟨v,g,e⟩:=(hL.same sm).get hc kK;rw [<- K6 hT hc] at e;exact⟨v,g,e⟩
 show Run _ _ _ [some<|.ref dl,some<|.ref t,none,none] H;refine a8 2 nd<|dB<|aq<|ae 1<|aB ⟨Z1,λl hl=>?_⟩;have s1:=aT hl<|.lst [.ref t];have el:(upd H l<|.lst [.ref t]) l=some (.lst<|[t].map V.ref):=aA;generalize upd H l (.lst [.ref t])=H1 at s1 el;obtain⟨u1,g1,e1⟩:=NI s1 he<|s1 _ _ ht;refine a8 3 nd<|i4 hu<|ae 0<|ae 1 ⟨dl,.ref u1,rfl,g1,?_⟩;show Run _ _ _ [some<|.ref dl,some<|.ref t,some<|.ref l,some<|.ref u1] H1;refine vE (λm σ H2=>∃(j:Nat) (ts:List Addr) (u:Addr),m=k - j/\0 < j/\j<=k/\ak H H2/\H2 l=some (.lst<|ts.map V.ref)/\gP n H2 ts (fl n e j)/\H2 u=some (TN n<|it (step n) j e)/\σ=[some<|.ref dl,some<|.ref t,some<|.ref l,some<|.ref u])
  (m0:=k - 1) ⟨1,[t],u1,rfl,Gp,k0,s1,el,⟨rfl,λj x c h1 h2=>?_⟩,e1,rfl⟩ ?_
 ·match j with
  | 0=>cases h1;cases h2;exact s1 _ _ ht
  | j+1=>simp at h1
 rintro m σ H2 ⟨j,ts,u,rfl,j0,j1,sH,w9,at2,eu,rfl⟩;have NM:it (step n) j e∈ends n:=i5 (λa ha=>ki hT ha) he j;refine fW (vD un) (ae 3<|ae 1 ⟨1,_,by decide,YH eu<|sH _ _ ht,_,rfl,?_⟩);rw [q7y hN NM he];have tl:=at2.1;rw [lS] at tl
 by_cases c:it (step n) j e=e
 ·rw [BW c];have jk:j=k:=by
   rcases Dc j k with h | h
   ·exact absurd c<|pk.first j j0 h
   ·omega
  subst jk;refine cL<|cA<|ae 2<|q l ts H2 sH hl w9 ?_;unfold face;rw [A2 pk];exact at2
 ·rw [BR c];have jk:j < k:=by
   rcases Dc j k with h | h
   ·exact h
   ·have:j=k:=by omega
    subst this;exact absurd pk.back c
  refine bW (hV<|jH<|ae 2 ⟨l,rfl,⟨_,w9⟩,ae 3 ⟨_,w9,by rw [Aa];exact cn (by omega),?_⟩⟩);have tP:ak H (upd H2 l<|.lst<|ts.map V.ref++[.ref u]):=dC sH hl;have NR:(upd H2 l<|.lst<|ts.map V.ref++[.ref u]) l=some (.lst<|(ts++[u]).map V.ref):=by rw [aA,Ak];rfl
  have kt:∀ b p' j',H2 b=some (Tn p' j')->(upd H2 l<|.lst<|ts.map V.ref++[.ref u]) b=some (Tn p' j'):=λb p' j' h=>by
   rw [ax<|cr h w9 λz=>nomatch z];exact h
  generalize upd H2 l (.lst<|ts.map V.ref++[.ref u])=H3 at tP NR kt;obtain⟨v2,g4,e4⟩:=NI tP NM<|kt _ _ _ eu;refine a8 3 nd<|i4 hu<|ae 0<|ae 3 ⟨dl,.ref v2,rfl,g4,?_⟩;refine bn ⟨k - (j+1),by omega,j+1,ts++[u],v2,rfl,Ee _,jk,tP,NR,?_,e4,rfl⟩;rw [K8];refine(at2.keep kt).append ⟨rfl,λj x c h1 h2=>?_⟩
  match j with
  | 0=>cases h1;cases h2;exact kt _ _ _ eu
  | j+1=>simp at h1
abbrev NFs:List Str:=["rows","ends","steps","told","faces","first","face","end"]
theorem tS:au NFs ["rows"] (bg zO):=⟨rfl,rfl,rfl,by decide +kernel,rfl,by decide +kernel,by decide +kernel⟩
structure Told(n:Net)(ks:List<|List Key)(tl:List Nt.End):Prop where
 fM:ks.Nodup
 mem:∀ e∈ends n,key n e∈ks↔e∈tl
 of:∀ k∈ks,∃ e∈ends n,k=key n e
theorem Told.len{n:Net}{ks:List (List Key)}{tl:List Nt.End}(h:Told n ks tl):ks.length<=(ends n).length:=by
 have:=h.fM.length_le_of_subset (l₂:=(ends n).map<|key n) λk hk=>by
  obtain⟨e,he,rfl⟩:=h.of k hk;exact An.mpr ⟨e,he,rfl⟩
 rw [Aa] at this;exact this
open Classical in
theorem Told.add{n:Net}(hN:(n.map (·.1)).Nodup){ks:List (List Key)}{tl:List Nt.End}(h:Told n ks tl){e:Nt.End}(he:e∈ends n):Told n (if key n e∈ks then ks else key n e :: ks) (tl++[e]):=by
 have inj:∀{a b:Nt.End},a∈ends n->b∈ends n->key n a=key n b->a=b:=λ{a b} ha hb k=>by
  obtain⟨z1,h1⟩:=af.mp ha;obtain⟨z2,h2⟩:=af.mp hb;exact om hN (cT h1) (cT h2) k
 by_cases c:key n e∈ks
 ·rw [BL c];refine⟨h.fM,λa ha=>?_,h.of⟩;rw [h.mem a ha,Aq,Aj];exact⟨λk=> .inl k,λk=>by
   rcases k with k | k
   ·exact k
   ·rw [k];exact(h.mem e he).mp c⟩
 ·rw [BK c];refine⟨Bf.mpr ⟨c,h.fM⟩,λa ha=>?_,λk hk=>?_⟩
  ·rw [Ah,h.mem a ha,Aq,Aj]
   constructor
   ·rintro (k | k)
    ·exact .inr<|inj ha he k
    ·exact .inl k
   ·rintro (k | k)
    ·exact .inr k
    ·exact .inl<|by rw [k]
  ·rcases Ah.mp hk with k1 | k1
   ·exact⟨e,he,k1⟩
   ·exact h.of k k1
open Classical in
theorem k9a{f:Addr}{fd:FuncData}(F:bX K "faces_of" "faces_of" zO f fd)(T:Txt mg)
  (GO:bh P w K mg base 3 "ends_in_order" ["rows"] C3)
  (GL:bh P w K mg base 3 "left_steps" ["rows"]<|oC 1)
  (GF:bh P w K mg base 3 "face_from" ["steps","first"] oG) :
  aJ P w K mg base bT 4 f fd ["rows"] DU:=by
 refine F.gb tS (λvs H Q E h=>?_) λb0 H vs Q E hr h=>?_
 ·obtain⟨R,as,n,rfl,_⟩:=h;rfl
 obtain⟨R,as,n,rfl,hR,hN,hT,hn,jT,q⟩:=h;have nd:=tS.nd;have pT:=ik n;have hu:=hr.u1;show Run _ _ _ [some<|.ref R,none,none,none,none,none,none,none] H;refine a8 1 nd (b4 GO hr<|aq<|ae 0<|aB ⟨R,as,n,rfl,hR,hn,by omega,λU us H1 s1 n1 e1 DV=>?_⟩);have DZ:us.length=(ends n).length:=by rw [DV.1];unfold ends;rw [Aa]
 refine hU<|Jo<|Jp<|ae 1 (v:= .ref U) ⟨!(us.map V.ref).isEmpty,Or.inl ⟨_,ao.of e1,rfl⟩,?_⟩;rw [Bool.not_not]
 by_cases hb:ends n=[]
 ·have hus:us=[]:=Bb.mp (by rw [DZ,hb];rfl);subst hus;refine bW<|cA<|dB<|aq<|dB<|aB ⟨Z0,λl hl=>aB ⟨Z1,λL hL=>?_⟩⟩;have s2:=aT hl<|.lst [];have s3:=aT hL<|.lst [.ref l];refine q L [l] _ ((s1.trans s2).trans s3) ((s1.trans s2).free hL) ?_ λl' im=>by rw [Aj.mp im];exact s1.free hl
  unfold bq;rw [BL hb];refine⟨aA,rfl,by simp,λhm=>?_,λj l' w h1 h2=>?_⟩
  ·rw [Aj.mp hm,aA] at hL;cases hL
  ·match j with
   | 0=>cases h1;cases h2;exact⟨[],s3 _ _ aA,rfl,λj t e h=>by simp at h⟩
   | j+1=>simp at h1
 have bA:us.map V.ref≠[]:=λh=>hb (Bb.mp<|by have:=BZ List.length h;rw [Aa,DZ] at this;exact this);have iT:(us.map V.ref).isEmpty=false:=by
  cases h:us.map V.ref with
  | nil=>exact absurd h bA
  | cons a r=>rfl
 rw [iT];refine cL<|bn ?_;refine a8 2 nd (b4 GL hr<|aq<|ae 0<|aB ⟨R,as,n,rfl,hR.same s1,hN,hT,hn,by omega,λdl kl H2 s2 n2 e2 v2=>?_⟩);refine a8 3 nd<|k71 T.g5 λD hD=>?_;refine a8 4 nd<|dB<|aB ⟨Z0,λL hL=>?_⟩;have hSL:cg n H2 dl 1:=⟨kl,e2,v2⟩;have mh:=s1.trans s2;have D0:L≠D:=λe=>by rw [e,aA] at hL;cases hL
 have ku:H2 L=none:=by rw [ax D0] at hL;exact hL
 have sX:=iw mh hD;have wK:=iw mh ku;have sB:ak H2 (upd (upd H2 D<|iR P w D []) L<|.lst []):=(aT hD _).trans<|aT hL _;have tT:bP P w (upd (upd H2 D<|iR P w D []) L<|.lst []) D []:=oF.same<|aT hL _;have xa:(upd (upd H2 D<|iR P w D []) L<|.lst []) L=some (.lst []):=aA;have tU:=hSL.same sB;have D1:=sB _ _<|s2 _ _ e1;have tV:∀(j:Nat) (t:Addr) (p:Str×Nt.End),us[j]?=some t->(aV n)[j]?=some p->(upd (upd H2 D<|iR P w D []) L<|.lst []) t=some (TN n p.2):=λj t p h1 h2=>sB _ _<|s2 _ _<|DV.2 j t p h1 h2;show Run _ _ _ [some<|.ref R,some<|.ref U,some<|.ref dl,some<|.ref D,some<|.ref L,none,none,none] (upd (upd H2 D<|iR P w D []) L<|.lst []);generalize upd (upd H2 D<|iR P w D []) L (.lst [])=H5 at sB tT xa tU D1 tV;have tW:=mh.trans sB;have nUL:U≠L:=bU (s2 _ _ e1) ku;have nUD:U≠D:=bU (s2 _ _ e1) hD;have tnD:∀{b p j},H5 b=some (Tn p j)->b≠D:=λh=>tT.ne h λφ z=>nomatch z;refine lw<|ae 1 ⟨U,rfl,⟨_,ao.of D1⟩,?_⟩;refine lz (xs:=us.map V.ref) (λi σ H'=>∃(ks:List<|List Key) (tl:List Nt.End) (ls:List Addr) (ws:List<|List Nt.End) (u1 u2 u3:Option V),(∀ b o,b≠D->b≠L->H5 b=some o->H' b=some o)/\bP P w H' D ks/\Told n ks tl /\
  iS n H' L ls ws/\(∀ l∈ls,H5 l=none)/\ls.length<=i/\eO n (ends n) []=ws++eO n ((ends n).drop i) tl/\σ=[some<|.ref R,some<|.ref U,some<|.ref dl,some<|.ref D,some<|.ref L,u1,u2,u3])
  ⟨[],[],[],[],_,_,_,λb o _ _ h=>h,tT,⟨Ck,λe _=>by simp,λk h=>by simp at h⟩,⟨xa,rfl,Ck,by simp,λj l w h=>by simp at h⟩,λl h=>by simp at h,Am _,rfl,rfl⟩ ?_ ?_ ?_
 ·rintro i σ H' _ ⟨_,_,_,_,_,_,_,kp,_⟩;exact ao.of<|kp _ _ nUD nUL D1
 ·rintro i x σ H' hx ⟨ks,tl,ls,ws,u1,u2,u3,kp,tD,told,hW,hf,jM,tX,rfl⟩;have hi:i < us.length:=by
   have:=(Ac.mp hx).1;rw [Aa] at this;exact this
  rw [Ae,Ab hi] at hx;cases hx;have NU:i < (aV n).length:=by have:=DV.1;omega
  have NV:H5 us[i]=some (TN n (aV n)[i].2):=tV i us[i] (aV n)[i] (Ab hi)<|Ab NU;have kL:=q1t<|Ab NU;generalize (aV n)[i].2=e at NV kL;have he:e∈ends n:=Al kL;have mq:(ends n).drop i=e :: (ends n).drop (i+1):=by
   have NX:i < (ends n).length:=by omega
   rw [MP NX]
   congr 1
   have:=Ab NX;rw [kL] at this;exact(Option.some.inj this).symm
  have NY:∀{b p j},H5 b=some (Tn p j)->H' b=some (Tn p j):=λ{b p j} h=>kp _ _ (tnD h) (cr h xa λz=>nomatch z) h;have kz:=NY NV;have cD:cg n H' dl 1:=by
   obtain⟨kvs,a,b⟩:=tU;exact⟨kvs,kp _ _ (tT.ne a λφ z=>nomatch z) (cr a xa λz=>nomatch z) a,λe he=>let ⟨u,p,r⟩:=b e he;⟨u,p,NY r⟩⟩
  refine bz 5 nd ?_;refine hU<|fW (j61 hu)<|ae 5<|ae 3 ⟨key n e,us[i],D,ks,rfl,rfl,kz,tD,_,rfl,?_⟩;refine ka (λc=>?_) λc=>?_
  ·have hz:key n e∉ks:=CG c;have D4:e∉tl:=λh=>hz<|(told.mem e he).mpr h;refine a8 6 nd (b4 GF hr<|aq<|ae 2<|aq<|ae 5<|aB ⟨dl,us[i],n,e,rfl,cD,hN,hT,by omega,he,kz,λl ts H6 s6 n6 e6 at6=>?_⟩);have xc:=s6 _ _ hW.lst;have tD6:=tD.same s6;have tY:L≠l:=bU hW.lst n6;have N0:D≠l:=λk=>tD.some (by rw [k];exact n6);refine hV (jH<|ae 4 ⟨L,rfl,⟨_,xc⟩,ae 6 ⟨_,xc,by rw [Aa];exact cn (by omega),?_⟩⟩);have k7:∀ b o,b≠L->H6 b=some o->(upd H6 L<|.lst<|ls.map V.ref++[.ref l]) b=some o:=λb o hb h=>by rw [ax hb];exact h
   have N2:(upd H6 L<|.lst<|ls.map V.ref++[.ref l]) L=some (.lst<|ls.map V.ref++[.ref l]):=aA;have xf:bP P w (upd H6 L<|.lst<|ls.map V.ref++[.ref l]) D ks:=tD6.keep (by rw [ax<|Ne.symm D0]) λb xs h=>by rw [ax<|cr h xc λz=>nomatch z];exact h
   generalize upd H6 L (.lst<|ls.map V.ref++[.ref l])=H7 at k7 N2 xf;have N3:∀ t p j,H6 t=some (Tn p j)->H7 t=some (Tn p j):=λt p j h=>k7 _ _ (cr h xc λz=>nomatch z) h;have e7:=k7 _ _ (Ne.symm tY) e6;have D5:=at6.keep N3;have D6:l∉ls:=λhm=>by
    obtain⟨j,hj⟩:=Av hm;have hlen:=hW.len;have hjw:j < ws.length:=by have:=(Ac.mp hj).1;omega
    obtain⟨_,a,_⟩:=hW.at' j l ws[j] hj<|Ab hjw;rw [n6] at a;cases a
   have D7:iS n H7 L (ls++[l]) (ws++[face n e]):=hW.snoc N2 (λa ha o ho=>k7 _ _ (λq=>hW.out<|q ▸ ha)<|s6 _ _ ho) (λt p j h=>N3 _ _ _<|s6 _ _ h) e7 D5 D6 tY;have l57:H5 l=none:=by
    cases q5:H5 l with
    | none=>rfl
    | some o=>rw [kp _ _ (Ne.symm N0) (Ne.symm tY) q5] at n6;cases n6
   have N4:∀ a∈ls++[l],H5 a=none:=λa ha=>by
    rcases Aq.mp ha with ha | ha
    ·exact hf a ha
    ·rw [Aj.mp ha];exact l57
   have sr:∀ b o,b≠D->b≠L->H5 b=some o->H7 b=some o:=λb o h1 h2 h=>k7 _ _ h2<|s6 _ _<|kp b o h1 h2 h;have hll:(ls++[l]).length<=i+1:=by rw [Ag];show ls.length+1<=_;omega
   have D8:eO n (ends n) []=(ws++[face n e])++eO n ((ends n).drop<|i+1) (tl++face n e):=by
    rw [tX,mq];show ws++(if e∈tl then _ else _)=_;rw [BK D4,Aw];rfl
   have hev:=rR hT he;have p8:=D5.1;refine lw<|ae 6 ⟨l,rfl,⟨_,ao.of e7⟩,?_⟩;refine lz (xs:=ts.map V.ref) (λm σ H9=>∃(p9:List<|List Key) (u3:Option V),(∀ b o,b≠D->H7 b=some o->H9 b=some o)/\bP P w H9 D p9/\Told n p9 (tl++(face n e).take m) /\
    σ=[some<|.ref R,some<|.ref U,some<|.ref dl,some<|.ref D,some<|.ref L,some<|.ref us[i],some<|.ref l,u3]) ⟨ks,_,λb o _ h=>h,xf,by rw [List.take_zero,Bh];exact told,rfl⟩ ?_ ?_ ?_
   ·rintro m σ H9 _ ⟨_,_,k9,_⟩;exact ao.of<|k9 _ _ (Ne.symm N0) e7
   ·rintro m x σ H9 hx ⟨p9,u3,k9,xg,fF,rfl⟩;rw [Ae,Az] at hx;obtain⟨t,qb,rfl⟩:=hx;have N5:m < (face n e).length:=by have:=(Ac.mp qb).1;omega
    have qc:(face n e)[m]?=some (face n e)[m]:=Ab N5;have hc:=hev _<|Al qc;have kN:(face n e).take (m+1)=(face n e).take m++[(face n e)[m]]:=by rw [Bw,qc];rfl
    have xh:=D5.2 m t _ qb qc;generalize (face n e)[m]=c9 at qc hc kN xh;have nD9:t≠D:=λk=>by rw [k] at xh;exact(xf.ne xh λφ z=>nomatch z) rfl
    have ht9:=k9 _ _ nD9 xh;have hle:=fF.len;refine bz 7 nd ?_;refine hV (q1j hu<|ae 3 ⟨D,rfl,⟨_,xg⟩,ae 7 ⟨key n c9,t,p9,rfl,ht9,xg,by omega,λoo D9=>bn ⟨_,_,λb o hb h=>by rw [ax hb];exact k9 b o hb h,D9,?_,rfl⟩⟩⟩);rw [kN,<- Aw];exact fF.add hN hc
   ·rintro σ H9 ⟨p9,u3,k9,xg,fF,rfl⟩;rw [Aa,p8,Bs] at fF;refine bn<|bn ⟨p9,tl++face n e,ls++[l],ws++[face n e],_,_,_,λb o h1 h2 h=>k9 b o h1<|sr b o h1 h2 h,xg,fF,?_,N4,hll,D8,rfl⟩;have nd9:∀{b o},H7 b=some o->(∀ φ,o≠HO.ext φ)->b≠D:=λh ho=>xf.ne h ho;refine D7.keep ?_ (λa ha o ho=>k9 a o ?_ ho) λt p j h=>k9 _ _ (nd9 h λφ z=>nomatch z) h
    ·rw [D7.lst];exact k9 _ _ (Ne.symm<|Ne.symm D0) D7.lst
    ·intro k;have:=N4 a ha;rw [k] at this;exact tT.some this
  ·have hz:key n e∈ks:=BX λh=>c<|BW h;have D4:e∈tl:=(told.mem e he).mp hz;refine bn (bn ⟨ks,tl,ls,ws,_,_,_,kp,tD,told,hW,hf,by omega,?_,rfl⟩);rw [tX,mq];show ws++(if e∈tl then _ else _)=_;rw [BL D4]
 ·rintro σ H' ⟨ks,tl,ls,ws,u1,u2,u3,kp,tD,told,hW,hf,jM,tX,rfl⟩;rw [Aa,DZ,List.drop_length] at tX;have hw2:bq n=ws:=by
   unfold bq;rw [BK hb,tX];exact Bh _
  have sF:ak H H':=λb o h=>kp b o (bU h sX) (bU h wK)<|tW _ _ h;refine cA (ae 4<|q L ls H' sF wK (by rw [hw2];exact hW) λl hl=>?_);exact tW.free<|hf l hl
end
end X4
namespace Nt
open PySem L2
def gR(k:Nat):Str:=Str.ofString "f"++Str.ofString (toString (k:Int))
def cV(n:Net)(ws:List<|List End):Net:=ws.zipIdx.map λx=>(gR x.2,x.1.map<|cC n)
noncomputable def aE(n:Net):Net:=cV n<|bq n
theorem k6q(n:Net)(ws:List<|List End)(w:List End):cV n (ws++[w])=cV n ws++[(gR ws.length,w.map<|cC n)]:=by
 unfold cV;rw [KQ,Ak];simp
theorem xk(n:Net)(ws:List<|List End):(cV n ws).length=ws.length:=by unfold cV;simp
theorem q0x{n:Net}{ws:List (List End)}{i:Nat}{w:List End}(h:ws[i]?=some w):(cV n ws)[i]?=some (gR i,w.map<|cC n):=by
 unfold cV;rw [Ae,List.getElem?_zipIdx,h];simp
theorem N6{k:Nat}(h:k<=1000):((k:Int)).natAbs.log2 < 1920:=by
 have e:((k:Int)).natAbs=k:=by omega
 rw [e];have:k.log2<=k:=Nat.log2_le_self k;omega
theorem N7{k:Nat}(h:k<=1000):(gR k).length<=10:=by
 have e:=PySem.int_text_length_le10 (a:=(k:Int)) (k:=4) (by decide) (by omega);unfold gR;rw [MF,RD,RD];have:("f" : String).length=1:=rfl;omega
end Nt
namespace L2
open PySem PySem.Spec PyProof.Rows
section
variable{X:Cx}{σ:St}{H:Hp}{Q:VK}
theorem q3d{e:Expr}{c:Str}{j:Nat}{p1 p2 pos:Pos} (h:Ev X e σ H λx H1=>∃ i:Int,x = .int i/\i.natAbs.log2 < 1920/\(c++Str.ofString (toString i)).length<=sizeLine/\Q (.str<|c++Str.ofString (toString i)) H1) (hc:c.length<=sizeLine:=by decide) :
  Ev X (.JoinedStr [.Constant (.str c) j p2,.FormattedValue e (-1) none p1] pos) σ H Q:=by
 have e0:∀ w:Str,Str.empty++w=w:=λw=>by
  apply Str.ext';show(#[]:Array Nat)++w.cps=w.cps;simp
 refine⟨λpins s I=>PyProof.Rows.JoinedStr_many<|KR<|aI ((vq (X:=X) (i:=c) (j:=j) (p:=p2) (σ:=σ) (H:=H) (Q:=λy H2=>y = .str c/\H2=H) ⟨rfl,rfl⟩).run pins _ I) λv2 s2 ⟨y,H2,I2,r2,ey,eh⟩=>?_⟩;subst ey eh;obtain⟨t3,rfl⟩:=r2;refine⟨by rw [e0];exact hc,?_⟩;rw [e0];refine KR<|PyProof.Rows.FormattedValue_plain<|aI (h.run pins s2 I2) λv s1 ⟨x,H1,I1,rx,i,ex,hd,hz,q⟩=>?_;subst ex;obtain⟨t,rfl⟩:=rx;refine formatField_int_small hd ⟨hz,PyProof.Rows.joinParts_nil ?_ hz⟩;exact⟨.str _,H1,I1.tok _,⟨_,rfl⟩,q⟩
theorem k4o:g6 X (.type "str") (λxs H Q=>∃ i:Int,xs=[.int i]/\i.natAbs.log2 < 1920/\Q (.str<|Str.ofString<|toString i) H):=by
 intro pins s σ H xs us Q I r h;obtain⟨i,rfl,hd,q⟩:=h;obtain⟨u,rfl,ru⟩:=vals1 r;obtain⟨t,rfl⟩:=ru;exact PySem.P.str_of_int hd ⟨.str _,H,I.tok _,⟨_,rfl⟩,q⟩
end
section
variable{X:Cx}{elt tg:Expr}{ifs:List Expr}{scope:Scope}{σ:St}{H:Hp}{N':List Str}{A a:Addr}{xs:List V}{after:Hp->Prop}
theorem k3a(Pv:Nat->St->Hp->Prop)(h0:Pv 0 σ H)(hl:∀ i σ' H',i<=xs.length->Pv i σ' H'->ao X.K H' a xs)
  (hs : ∀ (i : Nat) x T σ' H', xs[i]? = some x → Pv i σ' H' → H' T = none → m9 X N' scope tg (.ref T) σ' (upd H' T<|.tup [.int (i : Int), x]) λσ2 H3 => ng X N' scope ifs σ2 H3 λb H4 =>
   if b=true then m8 X N' scope elt σ2 H4 λv H5=>∃ ys,H5 A=some (.lst ys)/\ys.length < sizeLine/\Pv (i+1) σ2 (upd H5 A<|.lst<|ys++[v]) else Pv (i+1) σ2 H4)
  (hd:∀ σ' H',Pv xs.length σ' H'->after H'):iY X N' scope tg ifs elt (w5 X.K a) A after σ H:=by
 refine⟨λi m σ' H'=>m=xs.length - i/\i<=xs.length/\Pv i σ' H',⟨_,rfl,Bo _,h0⟩,?_⟩;rintro i m σ' H' ⟨rfl,hi,p⟩;have q:=hl i σ' H' hi p
 by_cases aM:i < xs.length
 ·refine .inr ⟨⟨xs,xs[i],q,by simp [aM]⟩,Pv<|i+1,λσ' H' p'=>⟨xs.length - (i+1),by omega,rfl,aM,p'⟩,λv H2 y=>?_⟩;obtain⟨T,x,hT,rfl,rfl,hx⟩:=y;exact hs i x T σ' _ (hx xs q) p hT
 ·have e:i=xs.length:=by omega
  subst e;exact .inl ⟨⟨xs,q,Am _⟩,hd σ' H' p⟩
end
end L2
namespace X4
open PySem L2 Nt bB
def EA:Sp:=λvs H Q _=>∃(R:Addr) (as:List<|Addr×Addr) (n:Net),vs=[.ref R]/\ah H R as n/\(n.map (·.1)).Nodup/\az n/\n.length<=1000/\(ag n).length<=200 /\
 ∀(L:Addr) (bs:List<|Addr×Addr) (H':Hp),ak H H'->H L=none->(∀ b∈bs,H b.1=none/\H b.2=none)->ah H' L bs (aE n)->L∉bs.map (·.2)->Q (.ref L) H'
section
variable{P:Program}{w:World}{K:PySem.W.Frag}{mg:Str->Option Value}{base:Heap}
abbrev N8:List Str:=["rows","names"]
abbrev oH:List Str:=["rows","names","number","face"]
abbrev tZ:List Str:=["rows","names","number","face","end"]
theorem t6:au N8 ["rows"] (bg nI):=⟨rfl,rfl,rfl,by decide +kernel,rfl,by decide +kernel,by decide +kernel⟩
theorem N9:oH.Nodup:=by decide +kernel
theorem q4b:tZ.Nodup:=by decide +kernel
def q8b:Scope:=match g7 nI with
 | [_,.Return (some<|.ListComp _ _ sc _) _]=>sc
 | _=>bg nI
def q7m:Scope:=relabel q8b<|PyProof.Rows.envOfC "other_net" (bg nI) 0 0 .none
theorem q2p{f:Addr}{fd:FuncData}(F:bX K "other_net" "other_net" nI f fd)(T:Txt mg)
  (GN:bh P w K mg base 4 "ties_by_end" ["rows"] oA)
  (GF:bh P w K mg base 4 "faces_of" ["rows"] DU) :
  aJ P w K mg base bT 5 f fd ["rows"] EA:=by
 refine F.gb t6 (λvs H Q E h=>?_) λb0 H vs Q E hr h=>?_
 ·obtain⟨R,as,n,rfl,_⟩:=h;rfl
 obtain⟨R,as,n,rfl,hR,hN,hT,hn,jT,q⟩:=h;have nd:=t6.nd;have hu:=hr.u1;have pT:=ik n;have xl:=K' n;have xm:=La hT;show Run _ _ _ [some<|.ref R,none] H;refine a8 1 nd (b4 GN hr<|aq<|ae 0<|aB ⟨R,as,n,rfl,hR,hN,hn,by omega,λd kvs H1 s1 n1 e1 v1=>?_⟩);refine cA<|lF (bg nI) N8 oH 2 (Nb rfl T.enum eI)<|aq<|b4 GF hr<|aq<|ae 0<|aB ⟨R,as,n,rfl,hR.same s1,hN,hT,hn,jT,λL ls H2 s2 n2 hW fL=>aB ⟨L,rfl,⟨_,ao.of hW.lst⟩,λD hD=>?_⟩⟩;have hlW:=hW.len;have Oa:aE n=cV n (bq n):=rfl;generalize hws:bq n=ws at hW xl xm hlW Oa;have xn:=s2 _ _ e1;refine k3a (xs:=ls.map V.ref) (λi σ' H'=>∃(bs:List<|Addr×Addr) (v1 v2:Option V),σ'=[some<|.ref R,some<|.ref d]++[v1,v2]/\ak H2 H'/\ah H' D bs (cV n<|ws.take i)/\(∀ b∈bs,H2 b.1=none/\H2 b.2=none)/\D∉bs.map (·.2)) ⟨[],_,_,rfl,aT hD _,⟨rfl,aA,λi a r h=>by simp at h,Ck⟩,λb h=>by simp at h,by simp⟩ ?_ ?_ ?_
 ·rintro i σ' H' _ ⟨_,_,_,_,sm,_⟩;exact ao.of<|sm _ _ hW.lst
 ·rintro i x Tt σ' H' hx ⟨bs,v1',v2',rfl,sm,hB,fB,nB⟩ ga;rw [Ae,Az] at hx;obtain⟨l,hl,rfl⟩:=hx;have wd:=(Ac.mp hl).1;have hiw:i < ws.length:=by omega
  have hw:ws[i]?=some ws[i]:=Ab hiw;have kN:ws.take (i+1)=ws.take i++[ws[i]]:=by rw [Bw,hw];rfl
  obtain⟨ts,el,hE⟩:=hW.at' i l _ hl hw;obtain⟨mX,Ob⟩:=xm _<|Al hw;generalize ws[i]=es at hw kN hE mX Ob;have aM:=hE.1;have Oc:(ws.take i).length=i:=by rw [Bl];omega
  have sT:=aT ga<|.tup [.int (i:Int),.ref l];have mr:=sm.trans sT;intro cl C s₀ H₀ ex;refine jb rfl (aQ.of aA) (bz 2 N9<|bz 3 N9 ?_);have hB:=hB.same sT;generalize upd H' Tt (.tup [.int (i:Int),.ref l])=H3 at mr hB;intro cl C s₀ H₀ ex;refine fq ?_;rw [BL rfl];intro cl C s₀ H₀ ex;refine dW<|aq<|q3d<|ae 2 ⟨(i:Int),rfl,N6 (by omega),?_,aq<|lF q7m oH tZ 1 (lh bG)<|ae 3 ⟨l,rfl,⟨_,ao.of<|mr _ _ el⟩,λD2 fN=>?_⟩⟩
  ·have:=N7 (k:=i) (by omega);exact small (show(gR i).length<=100000 by omega)
  refine wc (xs:=ts.map V.ref) (λj σ' H4=>(∃ v,σ'=[some<|.ref R,some<|.ref d,some<|.int (i:Int),some<|.ref l]++[v])/\ak H3 H4/\H4 D2=some (Ls<|(es.take j).map<|cC n)) ⟨⟨none,rfl⟩,aT fN _,aA⟩ ?_ ?_ ?_
  ·rintro j σ' H4 _ ⟨_,gm,_⟩;exact ao.of<|gm _ _<|mr _ _ el
  ·rintro j x σ' H4 hx ⟨⟨v,rfl⟩,gm,xo⟩;rw [Ae,Az] at hx;obtain⟨t,ht,rfl⟩:=hx;have hj:j < es.length:=by have:=(Ac.mp ht).1;omega
   have he:es[j]?=some es[j]:=Ab hj;have wC:es.take (j+1)=es.take j++[es[j]]:=by rw [Bw,he];rfl
   have gN:=(hE.same<|mr.trans gm).2 j t _ ht he;have rQ:=Ob _<|Al he;generalize es[j]=e at he wC gN rQ;obtain⟨z,hz⟩:=af.mp rQ;have hdg:bp H4 d (.ref t) (some<|.str<|cC n e):=by rw [wm hz,<- v1 e z hz];exact bp.t (k:=key n e) ((mr.trans gm) _ _ xn) gN
   intro cl C s₀ H₀ ex;refine bz 4 q4b ?_;intro cl C s₀ H₀ ex;refine fq ?_;rw [BL rfl];intro cl C s₀ H₀ ex;refine i4 hu<|ae 1<|ae 4 ⟨d,.str<|cC n e,rfl,hdg,_,xo,?_,⟨_,rfl⟩,dC gm fN,?_⟩
   ·rw [Aa,Aa,Bl];exact cn<|by omega
   ·rw [aA,wC,Ak];show some (HO.lst<|((es.take j).map<|cC n).map V.str++[V.str<|cC n e])=some (HO.lst<|((es.take j).map (cC n)++[cC n e]).map V.str);rw [Ak];rfl
  ·rintro σ' H4 ⟨_,gm,xo⟩;have oI:es.take (ts.map V.ref).length=es:=Dh (by rw [Aa];omega);rw [oI] at xo;refine aB ⟨Z2,λt ht=>?_⟩;have s5:=aT ht<|.tup [.str<|gR i,.ref D2];have ju:=(hB.same gm).same s5;have p5:=s5 _ _ xo;have et5:(upd H4 t<|.tup [.str<|gR i,.ref D2]) t=some (.tup [.str<|gR i,.ref D2]):=aA;have mv:=(mr.trans gm).trans s5;have t4:H2 t=none:=(mr.trans gm).free ht;have d4:H2 D2=none:=mr.free fN;have nin:D2∉bs.map (·.2):=λhm=>by
    obtain⟨b,hb,eb⟩:=An.mp hm;obtain⟨zs,t7⟩:=hB.lists hb;rw [eb,fN] at t7;cases t7
   have Od:D2≠D:=λk=>by
    have:=hB.lst;rw [<- k,fN] at this;cases this
   have more:=ju.more et5 p5 nin Od;have bl:bs.length=i:=by rw [ju.len,xk,Oc]
   refine⟨_,ju.lst,by rw [Aa,bl];exact cn (by omega),bs++[(t,D2)],_,_,rfl,?_,?_,λb hb=>?_,λhm=>?_⟩
   ·exact dC mv hD
   ·rw [kN,k6q,Oc];exact more
   ·rcases Aq.mp hb with hb | hb
    ·exact fB b hb
    ·rw [Aj.mp hb];exact⟨t4,d4⟩
   ·rw [Ak,Aq] at hm
    rcases hm with hm | hm
    ·exact nB hm
    ·exact Od (Aj.mp hm).symm
 ·rintro σ' H' ⟨bs,v1',v2',rfl,sm,hB,fB,nB⟩;have oI:ws.take (ls.map V.ref).length=ws:=Dh (by rw [Aa];omega);rw [oI,<- Oa] at hB;have mh:=s1.trans s2;exact q D bs H' (mh.trans sm) (mh.free hD) (λb hb=>⟨mh.free (fB b hb).1,mh.free (fB b hb).2⟩) hB nB
abbrev T3(x:Lk):HO:= .tup [.str x.1,.str x.2.1,.str x.2.2]
def kP(H:Hp)(us:List Addr)(ls:List Lk):Prop:=us.length=ls.length/\∀(j:Nat) u x,us[j]?=some u->ls[j]?=some x->H u=some (T3 x)
theorem kP.keep{H H':Hp}{us:List Addr}{ls:List Lk}(h:kP H us ls)(k:∀ t xs,H t=some (.tup xs)->H' t=some (.tup xs)):kP H' us ls:=⟨h.1,λj u x h1 h2=>k _ _<|h.2 j u x h1 h2⟩
theorem kP.snoc{H:Hp}{us:List Addr}{ls:List Lk}{u:Addr}{x:Lk}(h:kP H us ls)(hu:H u=some (T3 x)):kP H (us++[u]) (ls++[x]):=by
 refine⟨by rw [Ag,Ag,h.1];rfl,λj v y h1 h2=>?_⟩;have hl:=h.1
 by_cases hj:j < us.length
 ·rw [Ay hj] at h1;rw [Ay<|by omega] at h2;exact h.2 j v y h1 h2
 ·rw [Bc<|by omega] at h1 h2;have iu:j - us.length=0:=by
   have:=(Ac.mp h1).1;simp at this;omega
  rw [iu] at h1;rw [<- hl,iu] at h2;cases h1;cases h2;exact hu
def t8(ls:List Lk):Prop:=ls.Pairwise λx y=>x.1.cps.toList < y.1.cps.toList
def EB:Sp:=λvs H Q _=>∃(R:Addr) (as:List<|Addr×Addr) (n:Net),vs=[.ref R]/\ah H R as n/\az n/\n.length<=1000/\(ag n).length<=60 /\
 ∀(L:Addr) (us:List Addr) (ls:List Lk) (H':Hp),ak H H'->H L=none->H' L=some (.lst<|us.map V.ref)->kP H' us ls->t8 ls->(∀ x,x∈ls↔jN n x)->ls.length<=60->Q (.ref L) H'
theorem k89{n:Net}(T:az n){r p:Nat}{z:Str}(hr:r < n.length)(hz:(row n r)[p]?=some z):(bw (aV (n.take r)++aU r ((row n r).take p) 0) z).length<=1:=by
 obtain⟨rest,h⟩:=pV hr hz;have h1:bw (aV n) z=bw (aV (n.take r)++aU r ((row n r).take p) 0) z++(r,p) :: bw rest z:=by
  rw [h];unfold bw;rw [Ek,Ak,List.filter_cons_of_pos<|by simp];rfl
 have h2:(bw (aV n) z).length=2:=by
  have:=nE n z;rw [T z<|ig (e:=(r,p)) hz] at this;exact this
 rw [h1,Ag,Ao] at h2;omega
abbrev NLk:List Str:=["rows","met","links","point","ties","tie"]
theorem t9:au NLk ["rows"] (bg zQ):=⟨rfl,rfl,rfl,by decide +kernel,rfl,by decide +kernel,by decide +kernel⟩
theorem k7m{f:Addr}{fd:FuncData}(F:bX K "links_of" "links_of" zQ f fd)(T:Txt mg):aJ P w K mg base bT 1 f fd ["rows"] EB:=by
 refine F.gb t9 (λvs H Q E h=>?_) λb0 H vs Q E hr h=>?_
 ·obtain⟨R,as,n,rfl,_⟩:=h;rfl
 obtain⟨R,as,n,rfl,hR,hT,hn,jT,q⟩:=h;have nd:=t9.nd;have cq:=hR.len;have hu:=hr.u1;show Run _ _ _ [some<|.ref R,none,none,none,none,none] H;refine a8 1 nd<|zH λdm km=>?_;refine a8 2 nd<|dB<|aB ⟨Z0,λM hM=>?_⟩;have xq:M≠dm:=λe=>by rw [e,aA] at hM;cases hM
 have Oe:H M=none:=by rw [ax xq] at hM;exact hM
 have s0:ak H (upd (upd H dm<|.dK []) M<|.lst []):=(aT km _).trans<|aT hM _;have Og:(upd (upd H dm<|.dK []) M<|.lst []) dm=some (.dK []):=by rw [ax<|Ne.symm xq,aA]
 have Oh:(upd (upd H dm<|.dK []) M<|.lst []) M=some (.lst []):=aA;show Run _ _ _ [some<|.ref R,some<|.ref dm,some<|.ref M,none,none,none] (upd (upd H dm<|.dK []) M<|.lst []);generalize upd (upd H dm<|.dK []) M (.lst [])=H0 at s0 Og Oh;have EC:(aV n).length=(ag n).length:=by rw [<- iK n 0,Aa];rfl
 refine lw<|ae 0 ⟨R,rfl,⟨_,ao.of<|s0 _ _ hR.lst⟩,lz (xs:=as.map λa=>V.ref a.1) (λr σ H'=>∃(kM:List<|Key×V) (us:List Addr) (ls:List Lk) (u1 u2 u3:Option V),ak H H'/\H' dm=some (.dK kM)/\H' M=some (.lst<|us.map V.ref)/\kP H' us ls/\gJ n (aV<|n.take r) kM ls/\σ=[some<|.ref R,some<|.ref dm,some<|.ref M,u1,u2,u3])
  ⟨[],[],[],_,_,_,s0,Og,Oh,⟨rfl,λj u x h=>by simp at h⟩,gJ.start n,rfl⟩ ?_ ?_ ?_⟩
 ·rintro r σ H' _ ⟨_,_,_,_,_,_,sm,_⟩;exact ao.of<|sm _ _ hR.lst
 ·rintro r x σ H' hx ⟨kM,us,ls,u1,u2,u3,sm,ed,eM,eW,I,rfl⟩;have hi:r < n.length:=by
   have:=(Ac.mp hx).1;rw [Aa] at this;omega
  obtain⟨a,ea,eJ,et,el,er⟩:=(hR.same sm).at hi;rw [Ae,ea] at hx;cases hx;refine jb rfl (aQ.of et) (bz 3 nd<|bz 4 nd ?_);refine lw<|ae 4 ⟨a.2,rfl,⟨_,ao.of el⟩,lz (xs:=(row n r).map V.str) (λp σ bF=>∃(kM:List<|Key×V) (us:List Addr) (ls:List Lk) (u3:Option V),ak H bF/\bF a.2=some (Ls<|row n r)/\bF dm=some (.dK kM)/\bF M=some (.lst<|us.map V.ref)/\kP bF us ls/\gJ n (aV (n.take r)++aU r ((row n r).take p) 0) kM ls/\σ=[some<|.ref R,some<|.ref dm,some<|.ref M,some<|.str n[r].1,some<|.ref a.2,u3])
   ⟨kM,us,ls,_,sm,el,ed,eM,eW,by simpa [aU] using I,rfl⟩ ?_ ?_ ?_⟩
  ·rintro p σ bF _ ⟨_,_,_,_,_,e,_⟩;exact ao.of e
  ·rintro p x σ bF hx ⟨kM,us,ls,u3,sm,el,ed,eM,eW,I,rfl⟩;have hp:p < (row n r).length:=by
    have:=(Ac.mp hx).1;rw [Aa] at this;exact this
   have hz:(row n r)[p]?=some (row n r)[p]:=Ab hp;rw [Ae,hz] at hx;cases hx;have jc:=lK (r:=r) hz;have hle:=k89 hT hi hz;have Oi:(aV (n.take r)++aU r ((row n r).take p) 0).length<=60:=by
    obtain⟨rest,dv⟩:=pV hi hz;have h1:=BZ List.length dv;simp only [Ag] at h1 ⊢;omega
   have lM:=I.dq;have lL:=I.kq;have lA:=eW.1;have Oj:bJ n r=n[r].1:=dF hi;have naM:a.2≠M:=λe=>by
    have:=(hR.tup r a n[r] ea<|Ab hi).2;rw [e,Oe] at this;cases this
   generalize (row n r)[p]=z at hz jc hle;refine bz 5 nd ?_;refine hU<|vF hu<|ae 5<|ae 1 ⟨dm,_,rfl,bp.k (k:=Sum.inr z) ed,?_⟩;cases iQ:bw (aV (n.take r)++aU r ((row n r).take p) 0) z with
   | nil=>
    rw [I.m0 z iQ];show if false=true then _ else _;rw [BK<|by decide];refine rE hu<|ae 3<|ae 1<|ae 5 ⟨dm,_,rfl,b9.k (k:=Sum.inr z) ed (cn<|by omega),bn<|bn ⟨_,us,ls,_,dC sm km,?_,aA,?_,eW.keep λt xs h=>?_,?_,rfl⟩⟩
    ·rw [ax<|cr el ed λz=>nomatch z];exact el
    ·rw [ax xq];exact eM
    ·rw [ax<|cr h ed λz=>nomatch z];exact h
    ·rw [jc,<- Aw];have:=I.new (e:=(r,p)) iQ;show gJ n _ (putK kM (Sum.inr z)<|.str n[r].1) ls;rw [<- Oj];exact this
   | cons b rest=>
    have ED:rest=[]:=by
     rw [iQ] at hle;exact Bb.mp<|by have:rest.length+1<=1:=hle;omega
    subst ED;have vm:=I.m1 z b [] iQ;rw [vm];show if true=true then _ else _;rw [BL rfl];refine hV (jH<|ae 2 ⟨M,rfl,⟨_,eM⟩,dW<|aq<|ae 5<|aq<|i4 hu<|ae 1<|ae 5 ⟨dm,.str<|bJ n b.1,rfl,by rw [<- vm];exact bp.k (k:=Sum.inr z) ed,aq<|ae 3<|aB ⟨(by show 3<=sizeLine;decide),λt ht=>?_⟩⟩⟩);have sT:=aT ht<|.tup [.str z,.str<|bJ n b.1,.str n[r].1];have ntM:t≠M:=λe=>by rw [e,eM] at ht;cases ht
    have wW:(upd bF t<|.tup [.str z,.str<|bJ n b.1,.str n[r].1]) t=some (T3 (z,bJ n b.1,bJ n (r,p).1)):=by
     rw [aA];show _=some (HO.tup [.str z,.str<|bJ n b.1,.str<|bJ n r]);rw [Oj]
    have kT:∀ c xs,(upd bF t<|.tup [.str z,.str<|bJ n b.1,.str n[r].1]) c=some (.tup xs)->(upd (upd bF t<|.tup [.str z,.str<|bJ n b.1,.str n[r].1]) M<|.lst<|us.map V.ref++[.ref t]) c=some (.tup xs):=λc xs h=>by
     rw [ax<|cr h (sT _ _ eM) λz=>nomatch z];exact h
    refine⟨_,sT _ _ eM,by rw [Aa];exact cn (by omega),bn<|bn ⟨kM,us++[t],ls++[(z,bJ n b.1,bJ n (r,p).1)],_,dC (sm.trans sT) Oe,?_,?_,?_,?_,?_,rfl⟩⟩
    ·rw [ax naM];exact sT _ _ el
    ·rw [ax<|Ne.symm xq];exact sT _ _ ed
    ·rw [aA,Ak];rfl
    ·exact((eW.keep λc xs h=>sT _ _ h).snoc wW).keep kT
    ·rw [jc,<- Aw];exact I.old (e:=(r,p)) iQ
  ·rintro σ bF ⟨kM,us,ls,u3,sm,_,ed,eM,eW,I,rfl⟩;rw [Aa,Bs] at I;refine bn ⟨kM,us,ls,_,_,_,sm,ed,eM,eW,?_,rfl⟩;rw [nG hi];exact I
 ·rintro σ H' ⟨kM,us,ls,u1,u2,u3,sm,ed,eM,eW,I,rfl⟩;rw [Aa,cq,Bs] at I;have lL:=I.kq;have lA:=eW.1;have aM:us.length < 64:=by omega
  refine cA (cZ Zq T.sorted PB (aq (ae 2 (aB ⟨M,us,ls.map (·.1),rfl,ao.of eM,by rw [Aa];exact lA,I.fM,aM,λi t z h1 h2=>?_,λL ps hL hp hs=>?_⟩))))
  ·rw [Ae,Az] at h2;obtain⟨x,hx,rfl⟩:=h2;exact⟨_,eW.2 i t x h1 hx⟩
  have pick:∀ p∈ps,∃ x,x∈ls/\x.1=p.2/\H' p.1=some (T3 x):=λp hpm=>by
   have hz:=hp.mem_iff.mp hpm;obtain⟨i,hi⟩:=Av hz;rw [List.getElem?_zip_eq_some] at hi;obtain⟨h1,h2⟩:=hi;rw [Ae,Az] at h2;obtain⟨x,hx,e⟩:=h2;exact⟨x,Al hx,e,eW.2 i _ x h1 hx⟩
  obtain⟨xs,dQ⟩:∃ xs:List Lk,xs.length=ps.length/\∀(j:Nat) p x,ps[j]?=some p->xs[j]?=some x->x∈ls/\x.1=p.2/\H' p.1=some (T3 x):=by
   clear hs hp
   induction ps with
   | nil=>exact⟨[],rfl,λj p x h=>by simp at h⟩
   | cons p r ih=>
    obtain⟨x,q1,q2,q3⟩:=pick p<|Ad ..;obtain⟨xs,l1,l2⟩:=ih λc hc=>pick c<|Af _ hc;refine⟨x :: xs,by rw [Ao,Ao,l1],λj c y h1 h2=>?_⟩;cases j with
    | zero=>
     cases h1;cases h2;exact⟨q1,q2,q3⟩
    | succ j=>exact l2 j c y (by simpa using h1)<|by simpa using h2
  obtain⟨lx,dQ⟩:=dQ;have lp:ps.length=ls.length:=by rw [hp.length_eq,List.length_zip,Aa];omega
  have sL:=aT hL<|.lst<|ps.map λp=> .ref p.1;have Ol:t8 xs:=by
   unfold t8;rw [Bd];intro i j hi hj eV;have a1:=(dQ i ps[i] xs[i] (Ab<|by omega)<|Ab hi).2.1;have a2:=(dQ j ps[j] xs[j] (Ab<|by omega)<|Ab hj).2.1;rw [a1,a2];exact Bd.mp hs i j (by omega) (by omega) eV
  have oJ:(xs.map (·.1)).Nodup:=by
   rw [Cd,Dy];exact Ol.imp λh e=>by rw [e] at h;exact Fv _ h
  have jv:∀ x,x∈xs↔x∈ls:=λx=>by
   constructor
   ·intro h;obtain⟨j,hj⟩:=Av h;have nV:=(Ac.mp hj).1;exact(dQ j ps[j] x (Ab<|by omega) hj).1
   ·intro h;refine BX λhn=>?_;have EE:xs.Nodup:=by
     rw [Cd] at oJ ⊢;rw [Dy] at oJ;exact oJ.imp λh e=>h<|by rw [e]
    have:=bS EE (b:=ls.erase x) λz hz=>by
     have hzl:z∈ls:=by
      obtain⟨j,hj⟩:=Av hz;have nV:=(Ac.mp hj).1;exact(dQ j ps[j] z (Ab<|by omega) hj).1
     exact(Dv λe:z=x=>hn<|e ▸ hz).mpr hzl
    rw [Fd h] at this;have:0 < ls.length:=QV h;omega
  refine q L (ps.map (·.1)) xs _ (sm.trans sL) (iw sm hL) (by rw [aA,Bj];rfl) ⟨by rw [Aa];omega,λj u x h1 h2=>?_⟩ Ol (λx=>by rw [jv x];exact I.whole hT x) (by omega);rw [Ae,Az] at h1;obtain⟨p,oe,rfl⟩:=h1;exact sL _ _ (dQ j p x oe h2).2.2
end
end X4
namespace L2
open PySem PySem.Spec PyProof.Rows
section
variable{X:Cx}{σ:St}{H:Hp}{D:Ends}{rest:List Stmt}{o i e:Expr}{op:Operator}{mJ:qE}{iX pos:Pos}
theorem k8o:qH X (mV X.K):=by
 intro pins s σ H x y v u Q I rx ry h;obtain⟨p,xs,i,z,rfl,rfl,hq,he,q⟩:=h;cases rx;obtain⟨t,rfl⟩:=ry;obtain⟨its,r,pl,hz⟩:=I.list hq;obtain⟨j,h1,h2,h3,h4,h5⟩:=vf he;obtain⟨w,ew,dS⟩:=r.get h2;have hl:=r.length;have hn:=mO;have fin:EP X pins σ Q w s:=⟨z,H,I,dS,q⟩
 by_cases h0:0<=i
 ·have hj:i.toNat=j:=by
   rw [QT h0 h5] at h1;exact Option.some.inj h1
  exact wpAny_getItem_list pl.isList h0 (by omega) (by rw [hj];simpa using ew) fin
 ·have hj:(i+(its.toArray.size:Int)).toNat=j:=by
   rw [OJ (by omega) h4] at h1;rw [Au,<- hl];exact Option.some.inj h1
  exact wpAny_getItem_list_neg pl.isList (by omega) (by rw [Au] <;> omega) (by omega) (by rw [hj];simpa using ew) fin
theorem Om(hp:uZ X op mJ)(h:Ev X o σ H λx H1=>Ev X i σ H1 λy H2=>mV X.K x y H2 λa H3=>Ev X e σ H3 λb H4=>mJ a b H4 λz H5=>IM x y z H5 λH6=>Run X rest D σ H6)
  (ha:∀ ov iv new,augStore i ov iv new=(do holding [new,ov,iv] (setItem ov iv new);release [new,ov,iv] [];pure .next):=by intros;rfl):Run X (.AugAssign (.Subscript o i iX) op e pos :: rest) D σ H:=
 jC (Rx bG bG k8o bG hp set_list ha) h
end
section
variable{X:Cx}{σ:St}{H:Hp}
end
section
variable{M:Model}{A:Around}{E:Value->Shared->Prop}{s:Shared}
end
section
variable{P:Program}{w:World}{K:PySem.W.Frag}{mg:Str->Option Value}{base:Heap}{N:List Str}{qual:Str}{scope:Scope}{f:Addr}{cd:Value}{A:Around}{outer:List Env}{s:Shared}{H:Hp}{E:XK}
end
section
variable{X:Cx}{σ:St}{H:Hp}{D:Ends}{rest:List Stmt}
end
section
variable{P:Program}{w:World}{K:PySem.W.Frag}{mg:Str->Option Value}{base:Heap}{N:List Str}{qual:Str}{scope:Scope}{f:Addr}{cd:Value}{A:Around}{outer:List Env}{s:Shared}{H:Hp}{E:XK}
end
section
variable{X:Cx}{CX:fS}{k:Nat}{f:Addr}{fd:FuncData}{ps:List Str}{sp:Sp}{E:XK}{x:Str}{p pos:Pos}{e:Expr}{es:List Expr}{σ:St}{H:Hp}{Q:VK}
end
section
variable{X:Cx}{pins:List (Addr×Obj)}{σ:St}{H:Hp}{s:Shared}{b:Addr}
end
section
variable{M:Model}{A:Around}{E:Value->Shared->Prop}{K:PySem.W.Frag}{s:Shared}
end
section
variable{X:Cx}{pins:List (Addr×Obj)}{σ:St}{H:Hp}{s:Shared}
end
open PySem.W
section
variable{prog:Program}{w:World}{A:Around}{E:Value->Shared->Prop}{s:Shared}{K:Frag}{a C:Addr}{o:Obj}
end
end L2
namespace L2
open PySem PySem.Spec PyProof.Rows
section
variable{prog:Program}{w:World}{A:Around}{E:Value->Shared->Prop}{s:Shared}
end
open bB
section
variable{X:Cx}{a b e:Expr}{es:List Expr}{σ:St}{H:Hp}{Q:VK}{pos p kp cp:Pos}{j:Nat}
end
end L2
namespace L2
open PySem PySem.Spec PyProof.Rows ce
section
variable{X:Cx}{elt t1 i1 t2 i2 t3 i3:Expr}{f1 f2 f3:List Expr}{scope:Scope}{pos:Pos}{σ:St}{H:Hp}{acc:Value}{env:Env}
end
section
variable{X:Cx}{tg:Expr}{ifs:List Expr}{inner:Sem Unit}{σ:St}{H:Hp}{a:Addr}{xs:List V}{after:St->Hp->Prop}
theorem q2s(Pv:Nat->St->Hp->Prop)(h0:Pv 0 σ H)(hl:∀ i σ' H',i<=xs.length->Pv i σ' H'->aQ X.K H' a xs)
  (hs:∀ i x σ' H',xs[i]?=some x->Pv i σ' H'->Eg X tg x σ' H' λσ2 H3=>Ei X ifs σ2 H3 λb H4=>if b=true then jF X inner σ2 H4 (Pv<|i+1) else Pv (i+1) σ2 H4)
  (hd:∀ σ' H',Pv xs.length σ' H'->after σ' H'):fH X tg ifs inner (qK X.K a) after σ H:=by
 refine⟨λi m σ' H'=>m=xs.length - i/\i<=xs.length/\Pv i σ' H',⟨_,rfl,Bo _,h0⟩,?_⟩;rintro i m σ' H' ⟨rfl,hi,p⟩;have q:=hl i σ' H' hi p
 by_cases aM:i < xs.length
 ·refine .inr ⟨⟨xs,xs[i],q,by simp [aM]⟩,Pv<|i+1,λσ' H' p'=>⟨xs.length - (i+1),by omega,rfl,aM,p'⟩,λx H2 y=>?_⟩;obtain⟨e,y⟩:=y;subst e;exact hs i x σ' _ (y xs q) p
 ·have e:i=xs.length:=by omega
  subst e;exact .inl ⟨⟨xs,q,Am _⟩,hd σ' H' p⟩
theorem j71(Pv:Nat->St->Hp->Prop)(h0:Pv 0 σ H)(hl:∀ i σ' H',i<=xs.length->Pv i σ' H'->ao X.K H' a xs)
  (hs:∀(i:Nat) x T σ' H',xs[i]?=some x->Pv i σ' H'->H' T=none->Eg X tg (.ref T) σ' (upd H' T<|.tup [.int (i:Int),x]) λσ2 H3=>Ei X ifs σ2 H3 λb H4=>if b=true then jF X inner σ2 H4 (Pv<|i+1) else Pv (i+1) σ2 H4)
  (hd:∀ σ' H',Pv xs.length σ' H'->after σ' H'):fH X tg ifs inner (w5 X.K a) after σ H:=by
 refine⟨λi m σ' H'=>m=xs.length - i/\i<=xs.length/\Pv i σ' H',⟨_,rfl,Bo _,h0⟩,?_⟩;rintro i m σ' H' ⟨rfl,hi,p⟩;have q:=hl i σ' H' hi p
 by_cases aM:i < xs.length
 ·refine .inr ⟨⟨xs,xs[i],q,by simp [aM]⟩,Pv<|i+1,λσ' H' p'=>⟨xs.length - (i+1),by omega,rfl,aM,p'⟩,λv H2 y=>?_⟩;obtain⟨T,x,hT,rfl,rfl,hx⟩:=y;exact hs i x T σ' _ (hx xs q) p hT
 ·have e:i=xs.length:=by omega
  subst e;exact .inl ⟨⟨xs,q,Am _⟩,hd σ' H' p⟩
end
section
variable{X:Cx}{σ:St}{H:Hp}{Q:VK}
end
end L2
namespace Dt
variable{κ:Type}
def X(r:κ->Int):(List κ->Int)->List κ->Int
 | _,[]=>0
 | f,c :: cs=>r c * f cs - X r (λl=>f<|c :: l) cs
def one:List κ->Int
 | []=>1
 | _ :: _=>0
def dt:List (κ->Int)->List κ->Int
 | []=>one
 | r :: rs=>X r<|dt rs
theorem ua(r:κ->Int)(a b:Int):∀(cs:List κ) (f g:List κ->Int),X r (λl=>a * f l+b * g l) cs=a * X r f cs+b * X r g cs
 | [],_,_=>by simp [X]
 | c :: cs,f,g=>by
  show r c * (a * f cs+b * g cs) - X r (λl=>a * f (c :: l)+b * g (c :: l)) cs=_;rw [ua r a b cs (λl=>f<|c :: l) λl=>g<|c :: l];show _=a * (r c * f cs - _)+b * (r c * g cs - _)
  grind
theorem mw(r s:κ->Int)(a b:Int):∀(cs:List κ) (f:List κ->Int),X (λx=>a * r x+b * s x) f cs=a * X r f cs+b * X s f cs
 | [],_=>by simp [X]
 | c :: cs,f=>by
  show(a * r c+b * s c) * f cs - X (λx=>a * r x+b * s x) (λl=>f<|c :: l) cs=_;rw [mw r s a b cs λl=>f<|c :: l];show _=a * (r c * f cs - _)+b * (s c * f cs - _)
  grind
theorem Oo(r:κ->Int)(f g:List κ->Int)(cs:List κ):X r (λl=>f l - g l) cs=X r f cs - X r g cs:=by
 have h:=ua r 1 (-1) cs f g;have e:(λl=>1 * f l+-1 * g l)=λl=>f l - g l:=by funext l;grind
 rw [e] at h;rw [h]
 grind
theorem qd(r:κ->Int)(a:Int)(f:List κ->Int)(cs:List κ):X r (λl=>a * f l) cs=a * X r f cs:=by
 have h:=ua r a 0 cs f f;have e:(λl=>a * f l+0 * f l)=λl=>a * f l:=by funext l;grind
 rw [e] at h;rw [h]
 grind
theorem oK(r s:κ->Int):∀(cs:List κ) (f:List κ->Int),X r (X s f) cs=- X s (X r f) cs
 | [],_=>rfl
 | c :: cs,f=>by
  have ih:=oK r s cs λl=>f<|c :: l;have h1:X r (X s f) (c :: cs)=r c * X s f cs - (s c * X r f cs - X r (X s λl=>f<|c :: l) cs):=by
   show r c * X s f cs - X r (λl=>s c * f l - X s (λl'=>f<|c :: l') l) cs=_;rw [Oo,qd]
  have h2:X s (X r f) (c :: cs)=s c * X r f cs - (r c * X s f cs - X s (X r λl=>f<|c :: l) cs):=by
   show s c * X r f cs - X s (λl=>r c * f l - X r (λl'=>f<|c :: l') l) cs=_;rw [Oo,qd]
  rw [h1,h2]
  grind
theorem Oq(r:κ->Int)(cs:List κ)(f:List κ->Int):X r (X r f) cs=0:=by
 have:=oK r r cs f;omega
theorem ub{r:κ->Int}:∀{cs:List κ},(∀ c∈cs,r c=0)->∀ f,X r f cs=0
 | [],_,_=>rfl
 | c :: cs,h,f=>by
  show r c * f cs - X r (λl=>f<|c :: l) cs=0;rw [h c<|Ad ..,ub λd hd=>h d<|Af _ hd];simp
section
variable(l:κ->κ->Int)
def mm(K:List κ):Int:=dt (K.map l) K
def MM(K:List κ)(i j:κ):Int:=X (l i) (dt<|K.map l)<|j :: K
structure Red(K:List κ)(i:κ)(c:Int)(R:κ->Int):Prop where
 eq:∀ cs,X R (dt<|K.map l) cs=c * X (l i) (dt<|K.map l) cs
 no:∀ k∈K,R k=0
 nz:c≠0
variable{l}
theorem Red.val{K:List κ}{i:κ}{c:Int}{R:κ->Int}(h:Red l K i c R)(j:κ):c * MM l K i j=mm l K * R j:=by
 have e:=h.eq<|j :: K;have e2:X R (dt<|K.map l) (j :: K)=R j * mm l K:=by
  show R j * dt (K.map l) K - X R _ K=_;rw [ub h.no];show _=R j * dt (K.map l) K;omega
 rw [e2] at e;show c * X (l i) (dt<|K.map l) (j :: K)=_;rw [<- e,Int.mul_comm]
theorem Red.step{K:List κ}{i k:κ}{c d:Int}{R S:κ->Int}(h:Red l K i c R)(g:Red l K k d S)(hk:S k≠0):Red l (k :: K) i (S k * c) (λx=>S k * R x+(- R k) * S x):=by
 refine⟨λcs=>?_,λx hx=>?_,?_⟩
 ·show X _ (X (l k)<|dt<|K.map l) cs=S k * c * X (l i) (X (l k)<|dt<|K.map l) cs;rw [mw];have e1:X R (X (l k)<|dt<|K.map l) cs=c * X (l i) (X (l k)<|dt<|K.map l) cs:=by
   rw [oK,show X R (dt<|K.map l)=λcs=>c * X (l i) (dt<|K.map l) cs from funext h.eq,qd,oK (l i)<|l k]
   grind
  have e2:X S (X (l k)<|dt<|K.map l) cs=0:=by
   rw [oK,show X S (dt<|K.map l)=λcs=>d * X (l k) (dt<|K.map l) cs from funext g.eq,qd,Oq]
   grind
  rw [e1,e2]
  grind
 ·rcases Ah.mp hx with e | hx
  ·rw [e]
   grind
  ·show S k * R x+(- R k) * S x=0;rw [h.no x hx,g.no x hx];simp
 ·exact QM hk h.nz
def Good(l:κ->κ->Int):List κ->Prop
 | []=>True
 | k :: K=>mm l (k :: K)≠0/\Good l K
theorem Good.ne{K:List κ}(h:Good l K):mm l K≠0:=by
 cases K with
 | nil=>exact λh=>(nomatch h)
 | cons k K=>exact h.1
theorem xt:∀{K:List κ},Good l K->∀ i,∃ c R,Red l K i c R
 | [],_,i=>⟨1,l i,λcs=>(by grind),λk hk=>(nomatch hk),by decide⟩
 | k :: K,h,i=>by
  obtain⟨c,R,hi⟩:=xt h.2 i;obtain⟨d,S,hk⟩:=xt h.2 k;refine⟨_,_,hi.step hk λz=>?_⟩;have e:=hk.val k;rw [z] at e;have:d * MM l K k k=0:=by omega
  rcases Int.mul_eq_zero.mp this with q | q
  ·exact hk.nz q
  ·exact h.1 q
theorem kQ{K:List κ}{k:κ}(h:Good l<|k :: K)(i j:κ):MM l K i j * MM l K k k - MM l K i k * MM l K k j=mm l K * MM l (k :: K) i j:=by
 obtain⟨c,R,hi⟩:=xt h.2 i;obtain⟨d,S,hk⟩:=xt h.2 k;have hS:S k≠0:=λz=>by
  have e:=hk.val k;rw [z] at e;have:d * MM l K k k=0:=by omega
  rcases Int.mul_eq_zero.mp this with q | q
  ·exact hk.nz q
  ·exact h.1 q
 have e1:=hi.val j;have e2:=hi.val k;have e3:=hk.val k;have e4:=hk.val j;have e5:=(hi.step hk hS).val j;have e6:mm l (k :: K)=MM l K k k:=rfl;rw [e6] at e5;have hm:MM l K k k≠0:=h.1;have hm0:=h.2.ne;refine NZ (a:=c * d * MM l K k k) (QM (QM hi.nz hk.nz) hm) ?_;generalize MM l (k :: K) i j=z at *;generalize MM l K i j=a at *;generalize MM l K k k=b at *;generalize MM l K i k=p at *;generalize MM l K k j=q at *;generalize mm l K=m at *;generalize R j=r1 at *;generalize R k=r2 at *;generalize S k=s1 at *;generalize S j=s2 at *;have f1:c * d * (a * b - p * q)=m * m * (s1 * r1+-r2 * s2):=by grind
 have f2:c * d * b * (m * z)=m * m * (s1 * c * z):=by grind
 rw [f2,e5];have f3:c * d * b * (a * b - p * q)=b * (c * d * (a * b - p * q)):=by grind
 rw [f3,f1]
 grind
theorem xu(hl:∀ i j,l i j=l j i):∀{K:List κ},Good l K->∀ i j,MM l K i j=MM l K j i
 | [],_,i,j=>by
  show l i j * 1 - 0=l j i * 1 - 0;rw [hl i j]
 | k :: K,h,i,j=>by
  have e1:=kQ h i j;have e2:=kQ h j i;have s1:=xu hl h.2 i j;have s2:=xu hl h.2 i k;have s3:=xu hl h.2 j k;refine NZ h.2.ne ?_;rw [<- e1,<- e2,s1,s2,s3]
  grind
end
def Alt(f:List κ->Int):Prop:=∀ p c d q,f (p++c :: d :: q)=- f (p++d :: c :: q)
theorem q25:Alt (one:List κ->Int):=λp c d q=>by
 cases p <;> rfl
theorem Alt.cons{f:List κ->Int}(h:Alt f)(c:κ):Alt λl=>f (c :: l):=λp a b q=>h (c :: p) a b q
theorem Ot(r:κ->Int):∀(p:List κ) {f:List κ->Int},Alt f->∀ c d q,X r f (p++c :: d :: q)=- X r f (p++d :: c :: q)
 | [],f,h,c,d,q=>by
  have e:(λl=>f<|c :: d :: l)=λl=>(-1) * f (d :: c :: l):=by
   funext l
   have:=h [] c d l;show f (c :: d :: l)=-1 * f (d :: c :: l);have this:f (c :: d :: l)=- f (d :: c :: l):=this;omega
  show r c * f (d :: q) - (r d * f (c :: q) - X r (λl=>f<|c :: d :: l) q)=-(r d * f (c :: q) - (r c * f (d :: q) - X r (λl=>f<|d :: c :: l) q));rw [e,qd];omega
 | a :: p,f,h,c,d,q=>by
  have ih:=Ot r p (h.cons a) c d q;have e:=h p c d q;show r a * f (p++c :: d :: q) - X r (λl=>f<|a :: l) (p++c :: d :: q)=-(r a * f (p++d :: c :: q) - X r (λl=>f<|a :: l) (p++d :: c :: q));rw [ih,e]
  grind
theorem Ou:∀ rs:List<|κ->Int,Alt<|dt rs
 | []=>q25
 | r :: rs=>λp c d q=>Ot r p (Ou rs) c d q
theorem k30{C C':List κ}(h:C.Perm C'):∃ s:Int,s * s=1/\(∀(l:κ->κ->Int) cs,dt (C'.map l) cs=s * dt (C.map l) cs)/\∀ f:List κ->Int,Alt f->f C'=s * f C:=by
 induction h with
 | nil=>exact⟨1,rfl,λl cs=>(by grind),λf _=>(by grind)⟩
 | cons c _ ih=>
  obtain⟨s,hs,h1,h2⟩:=ih;refine⟨s,hs,λl cs=>?_,λf hf=>h2 _<|hf.cons c⟩;show X (l c) (dt<|List.map l _) cs=s * X (l c) (dt<|List.map l _) cs;rw [<- qd,show dt (List.map l _)=λcs=>s * dt (List.map l _) cs from funext (h1 l)]
 | swap a b q=>
  refine⟨-1,rfl,λl cs=>?_,λf hf=>?_⟩
  ·show X (l a) (X (l b) _) cs=-1 * X (l b) (X (l a) _) cs;rw [oK];omega
  ·have:=hf [] a b q;show f (a :: b :: q)=-1 * f (b :: a :: q);have this:f (a :: b :: q)=- f (b :: a :: q):=this;omega
 | trans _ _ DM tM=>
  obtain⟨s,hs,h1,h2⟩:=DM;obtain⟨t,ht,g1,g2⟩:=tM;refine⟨t * s,by grind,λl cs=>?_,λf hf=>?_⟩
  ·rw [g1,h1]
   grind
  ·rw [g2 f hf,h2 f hf]
   grind
theorem gS(l:κ->κ->Int){C C':List κ}(h:C.Perm C'):mm l C'=mm l C:=by
 obtain⟨s,hs,h1,h2⟩:=k30 h;show dt (C'.map l) C'=dt (C.map l) C;rw [h1,h2 _<|Ou _];have:s * (s * dt (C.map l) C)=s * s * dt (C.map l) C:=by grind
 rw [this,hs]
 grind
variable{κ:Type}
theorem EF{r r':κ->Int}{S:κ->Prop}(hr:∀ c,S c->r c=r' c):∀(cs:List κ) {f f':List κ->Int},(∀ l,(∀ c∈l,S c)->f l=f' l)->(∀ c∈cs,S c)->X r f cs=X r' f' cs
 | [],_,_,_,_=>rfl
 | c :: cs,f,f',hf,hs=>by
  have h1:=hs c<|Ad ..;have h2:∀ d∈cs,S d:=λd hd=>hs d<|Af _ hd;show r c * f cs - X r (λl=>f<|c :: l) cs=r' c * f' cs - X r' (λl=>f'<|c :: l) cs;rw [hr c h1,hf cs h2,EF hr cs (f:=λl=>f<|c :: l) (f':=λl=>f'<|c :: l) (λl hl=>hf _ λd hd=>?_) h2]
  rcases Ah.mp hd with e | hd
  ·rw [e];exact h1
  ·exact hl d hd
theorem Ov{S:κ->Prop}{l l':κ->κ->Int}:∀(C:List κ),(∀ x∈C,∀ j,S j->l x j=l' x j)->∀ cs,(∀ c∈cs,S c)->dt (C.map l) cs=dt (C.map l') cs
 | [],_,_,_=>rfl
 | x :: C,h,cs,hs=>EF (h x<|Ad ..) cs (λk hk=>Ov C (λy hy=>h y<|Af _ hy) k hk) hs
theorem EG{l l':κ->κ->Int}{C:List κ}(h:∀ x∈C,∀ j∈C,l x j=l' x j):mm l C=mm l' C:=Ov (S:=λj=>j∈C) C h C λ_ hc=>hc
def Lp(W:List<|κ->Int)(x j:κ):Int:=(W.map λw=>w x * w j).sum
theorem qf(w:κ->Int)(W:List<|κ->Int)(x j:κ):Lp (w :: W) x j=w x * w j+Lp W x j:=rfl
theorem q2l(W:List<|κ->Int)(x j:κ):Lp W x j=Lp W j x:=by
 unfold Lp
 congr 1
 exact At λw _=>Int.mul_comm ..
def D(C:List κ)(W:List<|κ->Int):Int:=mm (Lp W) C
theorem q4m(a:κ)(C:List κ):D (a :: C) []=0:=ub (λ_ _=>rfl) _
theorem q5p{C:List κ}{w:κ->Int}{W:List (κ->Int)}(h:∀ x∈C,w x=0):D C (w :: W)=D C W:=EG λx hx j _=>by
 rw [qf,h x hx];omega
theorem Ow{C:List κ}{w:κ->Int}{W:List (κ->Int)}(h:∀ x∈C,w x=0):C.map (Lp<|w :: W)=C.map (Lp W):=At λx hx=>by
 funext j
 rw [qf,h x hx];omega
theorem Ox{a:κ}{C:List κ}{w:κ->Int}{W:List (κ->Int)}(h:∀ x∈C,w x=0)(ha:w a * w a=1):D (a :: C) (w :: W)=D (a :: C) W+D C W:=by
 show X (Lp (w :: W) a) (dt<|C.map<|Lp<|w :: W) (a :: C)=X (Lp W a) (dt<|C.map<|Lp W) (a :: C)+dt (C.map<|Lp W) C;rw [Ow h,show Lp (w :: W) a=λj=>w a * w j+1 * Lp W a j by funext j;rw [qf];omega,mw];have e:X w (dt<|C.map<|Lp W) (a :: C)=w a * dt (C.map<|Lp W) C:=by
  show w a * dt (C.map<|Lp W) C - X w _ C=_;rw [ub h];omega
 rw [e]
 grind
def cm [DecidableEq κ] (a b:κ) (r:κ->Int) (j:κ):Int:=if j=a then r a+r b else r j
section
variable [DecidableEq κ] {a b:κ}
structure Cm(a b:κ)(f f':List κ->Int):Prop where
 no:∀ l,a∉l->f' l=f l
 on:∀ p q,a∉p->a∉q->f' (p++a :: q)=f (p++a :: q)+f (p++b :: q)
theorem Cm.cons{f f':List κ->Int}(h:Cm a b f f'){c:κ}(hc:c≠a):Cm a b (λl=>f<|c :: l) λl=>f' (c :: l):=
 ⟨λl hl => h.no _ λhm => by
  rcases Ah.mp hm with e | hm
  ·exact hc e.symm
  ·exact hl hm,λp q hp hq=>h.on (c :: p) q (λhm=>by
  rcases Ah.mp hm with e | hm
  ·exact hc e.symm
  ·exact hp hm) hq⟩
theorem Oy(r:κ->Int){f f':List κ->Int}(h:∀ l,a∉l->f' l=f l)(l:List κ)(hl:a∉l):X (cm a b r) f' l=X r f l:=
 EF (S:=λc=>c≠a) (λc hc=>BK hc) l (λk hk=>h k λhm=>hk a hm rfl) λc hc e=>hl<|e ▸ hc
theorem Oz(r:κ->Int):∀(p:List κ) {f f':List κ->Int},Cm a b f f'->∀ q,a∉p->a∉q->X (cm a b r) f' (p++a :: q)=X r f (p++a :: q)+X r f (p++b :: q)
 | [],f,f',h,q,_,hq=>by
  show cm a b r a * f' q - X (cm a b r) (λl=>f'<|a :: l) q=(r a * f q - X r (λl=>f<|a :: l) q)+(r b * f q - X r (λl=>f<|b :: l) q);rw [Oy r (f:=λl=>1 * f (a :: l)+1 * f (b :: l)) (λl hl=>by have:=h.on [] l Bm hl;show f' (a :: l)=_;have this:f' (a :: l)=f (a :: l)+f (b :: l):=this;rw [this];omega) q hq,ua,h.no q hq,show cm a b r a=r a+r b from BL rfl]
  grind
 | c :: p,f,f',h,q,hp,hq=>by
  have hc:c≠a:=λe=>hp<|e ▸ Ad ..;have jP:a∉p:=λhm=>hp<|Af _ hm;show cm a b r c * f' (p++a :: q) - X (cm a b r) (λl=>f'<|c :: l) (p++a :: q)=(r c * f (p++a :: q) - X r (λl=>f<|c :: l) (p++a :: q))+(r c * f (p++b :: q) - X r (λl=>f<|c :: l) (p++b :: q));rw [Oz r p (h.cons hc) q jP hq,h.on p q jP hq,show cm a b r c=r c from BK hc]
  grind
theorem EH:∀ rs:List<|κ->Int,Cm a b (dt rs)<|dt<|rs.map<|cm a b
 | []=>⟨λ_ _=>rfl,λp q _ _=>by cases p <;> rfl⟩
 | r :: rs=>⟨λl hl=>Oy r (EH rs).no l hl,λp q hp hq=>Oz r p (EH rs) q hp hq⟩
theorem q2n{C:List κ}{w:κ->Int}{W:List (κ->Int)}(hC:∀ x∈C,w x=0)(ha:w a=1)(hb:w b=-1)(nab:a≠b)(na:a∉C):D (a :: b :: C) (w :: W)=D (a :: b :: C) W+D (a :: C) (W.map<|cm a b):=by
 have L':∀ x j,Lp (W.map<|cm a b) x j=cm a b (λj=>cm a b (λx=>Lp W x j) x) j:=λx j=>by
  unfold Lp cm;rw [Bj]
  induction W with
  | nil=>by_cases h1:j=a <;> by_cases h2:x=a <;> simp [h1,h2]
  | cons v W ih=>
   simp only [Ap,Bz,Function.comp] at ih ⊢;rw [ih]
   by_cases h1:j=a <;> by_cases h2:x=a <;> simp only [h1,h2,CQ,CJ] <;> grind
 have e1:D (a :: C) (W.map<|cm a b)=dt (((λj=>1 * Lp W a j+1 * Lp W b j) :: C.map (Lp W)).map<|cm a b) (a :: C):=by
  show X (Lp (W.map<|cm a b) a) (dt<|C.map<|Lp<|W.map<|cm a b) (a :: C)=X (cm a b λj=>1 * Lp W a j+1 * Lp W b j) (dt<|(C.map<|Lp W).map<|cm a b) (a :: C);rw [Bj,show C.map (Lp<|W.map<|cm a b)=C.map (cm a b ∘ Lp W) from At λx hx=>by
   funext j
   rw [L'];have nx:x≠a:=λe=>na<|e ▸ hx;simp only [cm,Function.comp,nx,CJ],show Lp (W.map<|cm a b) a=cm a b λj=>1 * Lp W a j+1 * Lp W b j by
   funext j
   rw [L'];simp only [cm,CQ]
   by_cases h:j=a <;> simp only [h,CQ,CJ] <;> omega]
 have e2:=(EH (a:=a) (b:=b)<|(λj=>1 * Lp W a j+1 * Lp W b j) :: C.map (Lp W)).on [] C Bm na;rw [e1];have e2:dt (((λj=>1 * Lp W a j+1 * Lp W b j) :: C.map (Lp W)).map<|cm a b) (a :: C)=X (λj=>1 * Lp W a j+1 * Lp W b j) (dt<|C.map<|Lp W) (a :: C)+X (λj=>1 * Lp W a j+1 * Lp W b j) (dt<|C.map<|Lp W) (b :: C):=e2;rw [e2];show X (Lp (w :: W) a) (X (Lp (w :: W) b)<|dt<|C.map<|Lp<|w :: W) (a :: b :: C)=X (Lp W a) (X (Lp W b)<|dt<|C.map<|Lp W) (a :: b :: C)+_;rw [Ow hC,show Lp (w :: W) a=λj=>1 * w j+1 * Lp W a j by funext j;rw [qf,ha];omega,show Lp (w :: W) b=λj=>(-1) * w j+1 * Lp W b j by funext j;rw [qf,hb];omega];generalize dt (C.map<|Lp W)=ω;rw [show X (λj=>(-1) * w j+1 * Lp W b j) ω=λl=>(-1) * X w ω l+1 * X (Lp W b) ω l from funext λl=>mw ..,ua,mw,mw,Oq,oK (Lp W a) w];have e3:∀ θ:List κ->Int,X w θ (a :: b :: C)=θ (b :: C)+θ (a :: C):=λθ=>by
  show w a * θ (b :: C) - (w b * θ (a :: C) - X w _ C)=_;rw [ub hC,ha,hb];omega
 rw [e3,e3,mw,mw];omega
end
def ed [DecidableEq κ] (e:κ×κ) (x:κ):Int:=(if x=e.1 then 1 else 0) - (if x=e.2 then 1 else 0)
section
variable [DecidableEq κ]
def De(C:List κ)(E:List<|κ×κ):Int:=D C<|E.map ed
def rl(b a:κ)(e:κ×κ):κ×κ:=(if e.1=b then a else e.1,if e.2=b then a else e.2)
theorem k66{l l':List Int}(h:l.Perm l'):l.sum=l'.sum:=by
 induction h with
 | nil=>rfl
 | cons a _ ih=>simp only [Bz,ih]
 | swap a b l=>simp only [Bz];omega
 | trans _ _ h1 h2=>rw [h1,h2]
theorem q00{W W':List (κ->Int)}(h:W.Perm W')(x j:κ):Lp W x j=Lp W' x j:=k66<|h.map _
theorem my{C C':List κ}{E E':List (κ×κ)}(h:C.Perm C')(g:E.Perm E'):De C E=De C' E':=by
 show mm _ C=mm _ C';rw [gS _ h];exact EG λx _ j _=>q00 (g.map ed) x j
theorem OA(E:List<|κ×κ):De ([]:List κ) E=1:=rfl
theorem OB(a:κ)(C:List κ):De (a :: C) []=0:=q4m a C
theorem OC{e:κ×κ}{x:κ}(h1:x≠e.1)(h2:x≠e.2):ed e x=0:=by
 unfold ed;rw [BK h1,BK h2];rfl
theorem EI{a b x:κ}{C:List κ}(ha:a∉C)(hb:b∉C)(hx:x∈C):ed (a,b) x=0:=OC (e:=(a,b)) (λz:x=a=>ha<|z ▸ hx) λz:x=b=>hb<|z ▸ hx
theorem q3i{C:List κ}{e:κ×κ}{E:List (κ×κ)}(h:e.1=e.2\/(e.1∉C/\e.2∉C)):De C (e :: E)=De C E:=q5p λx hx=>by
 rcases h with h | ⟨h1,h2⟩
 ·unfold ed;rw [h];omega
 ·exact OC (λz=>h1<|z ▸ hx) λz=>h2<|z ▸ hx
theorem OG{a b:κ}{C:List κ}{E:List (κ×κ)}(ha:a∉C)(hb:b∉C)(b5:a≠b):De (a :: C) ((a,b) :: E)=De (a :: C) E+De C E/\De (a :: C) ((b,a) :: E)=De (a :: C) E+De C E:=by
 refine⟨Ox (λx hx=>EI ha hb hx) ?_,Ox (λx hx=>EI hb ha hx) ?_⟩
 ·unfold ed;rw [BL rfl,BK b5];rfl
 ·unfold ed;rw [BK b5,BL rfl];rfl
theorem OH{a b:κ}(b5:a≠b)(e:κ×κ){x:κ}(hx:x≠b):cm a b (ed e) x=ed (rl b a e) x:=by
 obtain⟨p,q⟩:=e;unfold cm ed rl
 by_cases h0:x=a
 ·subst h0;simp only [CQ]
  by_cases h1:p=b <;> by_cases h2:q=b <;> simp only [h1,h2,b5,Ne.symm b5,CQ,CJ] <;> first | omega | skip
  ·by_cases h3:x=q
   ·simp [h3,h2,Ne.symm h2]
   ·simp [h3,h2,Ne.symm h2]
  ·by_cases h3:x=p
   ·simp [h3,h1,Ne.symm h1]
   ·simp [h3,h1,Ne.symm h1]
  ·simp [Ne.symm h1,Ne.symm h2]
 ·simp only [h0,CJ]
  by_cases h1:p=b <;> by_cases h2:q=b <;> simp [h0,h1,h2,hx]
theorem k8k{a b:κ}{C:List κ}{E:List (κ×κ)}(ha:a∉C)(hb:b∉C)(b5:a≠b):De (a :: b :: C) ((a,b) :: E)=De (a :: b :: C) E+De (a :: C) (E.map<|rl b a):=by
 have h:=q2n (W:=E.map ed) (C:=C) (w:=ed (a,b)) (a:=a) (b:=b) (λx hx=>EI ha hb hx) (by unfold ed;rw [BL rfl,BK b5];rfl) (by unfold ed;rw [BK<|Ne.symm b5,BL rfl];rfl) b5 ha;have e:D (a :: C) ((E.map ed).map<|cm a b)=De (a :: C) (E.map<|rl b a):=EG λx hx j hj=>by
  have nb:∀ y∈a :: C,y≠b:=λy hy z=>by
   rcases Ah.mp hy with k | k
   ·exact b5<|k.symm.trans z
   ·exact hb<|z ▸ k
  unfold Lp;rw [Bj,Bj,Bj,Bj]
  congr 1
  refine At λe _=>?_;show cm a b (ed e) x * cm a b (ed e) j=ed (rl b a e) x * ed (rl b a e) j;rw [OH b5 e<|nb x hx,OH b5 e<|nb j hj]
 rw [e] at h;exact h
end
variable{κ:Type} [DecidableEq κ]
def mg(C:List κ)(p q:κ)(E:List<|κ×κ):Int:=if p=q\/(p∉C/\q∉C) then 0 else if q∉C then De (C.erase p) E else if p∉C then De (C.erase q) E else De (C.erase q) (E.map<|rl q p)
theorem uc{C:List κ}(hC:C.Nodup)(p q:κ)(E:List<|κ×κ):De C ((p,q) :: E)=De C E+mg C p q E:=by
 unfold mg
 by_cases h:p=q\/(p∉C/\q∉C)
 ·rw [BL h,q3i (e:=(p,q)) h];omega
 rw [BK h];have cN:p≠q:=λz=>h<|.inl z
 by_cases hq:q∉C
 ·rw [BL hq];have hp:p∈C:=BX λz=>h<|.inr ⟨z,hq⟩;have pe:=Ez hp;rw [my pe<|List.Perm.refl _,my (E:=E) pe<|List.Perm.refl _];exact(OG (λz=>((hC.mem_erase_iff).mp z).1 rfl) (λz=>hq<|Cv z) cN).1
 rw [BK hq];have hq:q∈C:=BX hq;have pe:=Ez hq
 by_cases hp:p∉C
 ·rw [BL hp,my pe<|List.Perm.refl _,my (E:=E) pe<|List.Perm.refl _];exact(OG (λz=>((hC.mem_erase_iff).mp z).1 rfl) (λz=>hp<|Cv z)<|Ne.symm cN).2
 rw [BK hp];have hp:p∈C:=BX hp;have jP:p∈C.erase q:=(hC.mem_erase_iff).mpr ⟨cN,hp⟩;have OI:=Ez jP;have OL:C.Perm (p :: q :: (C.erase q).erase p):=pe.trans<|(OI.cons q).trans<|List.Perm.swap ..;have nq:q∉(C.erase q).erase p:=λz=>((hC.mem_erase_iff).mp<|Cv z).1 rfl;have np:p∉(C.erase q).erase p:=λz=>(((hC.erase q).mem_erase_iff).mp z).1 rfl;rw [my OL<|List.Perm.refl _,my (E:=E) OL<|List.Perm.refl _,my (E:=E.map<|rl q p) OI<|List.Perm.refl _];exact k8k np nq cN
theorem qg:∀(E:List<|κ×κ) (C:List κ),C.Nodup->0<=De C E/\De C E<=2 ^ E.length
 | [],[],_=>by rw [OA];exact⟨by decide,by show(1:Int)<=1;decide⟩
 | [],a :: C,_=>by rw [OB];exact⟨by decide,by show(0:Int)<=1;decide⟩
 | (p,q) :: E,C,hC=>by
  have h1:=qg E C hC;have h2:0<=mg C p q E/\mg C p q E<=2 ^ E.length:=by
   unfold mg
   split
   ·exact⟨Int.le_refl _,RN h1.1 h1.2⟩
   split
   ·exact qg E _<|hC.erase p
   split
   ·exact qg E _<|hC.erase q
   ·have:=qg (E.map<|rl q p) _<|hC.erase q;rw [Aa] at this;exact this
  rw [uc hC,Ao,Int.pow_succ];omega
termination_by E=>E.length
decreasing_by all_goals simp [Aa]
inductive bH (C:List κ) (E:List<|κ×κ):κ->Prop
 | out {x:κ}:x∉C->bH C E x
 | on {x y:κ}:(x,y)∈E\/(y,x)∈E->bH C E y->bH C E x
theorem bH.cross{C:List κ}{E:List (κ×κ)}{x:κ}(h:bH C E x):x∈C->∃ p q,((p,q)∈E\/(q,p)∈E)/\p∈C/\q∉C:=by
 induction h with
 | out h=>exact λz=>absurd z h
 | @on x y e _ ih=>
  intro hx
  by_cases hy:y∈C
  ·exact ih hy
  ·exact⟨x,y,e,hx,hy⟩
theorem OM:∀(n:Nat) (C:List κ),C.length=n->C.Nodup->∀ E:List<|κ×κ,(∀ x∈C,bH C E x)->0 < De C E
 | 0,C,hn,_,E,_=>by
  rw [Bb.mp hn,OA];decide
 | n+1,C,hn,hC,E,h=>by
  have bA:C≠[]:=λz=>by rw [z] at hn;cases hn
  obtain⟨x,hx⟩:=MN C bA;obtain⟨p,q,he,hp,hq⟩:=(h x hx).cross hx;have cN:p≠q:=λz=>hq<|z ▸ hp;have rest:∀(e:κ×κ),e∈E->(e=(p,q)\/e=(q,p))->0 < De (C.erase p) (E.erase e):=λe iT kL=>by
   refine OM n (C.erase p) (by rw [Fd hp,hn];rfl) (hC.erase p) _ λy hy=>?_;have l8:=(hC.mem_erase_iff).mp hy;have go:∀{z:κ},bH C E z->bH (C.erase p) (E.erase e) z:=by
    intro z hz
    induction hz with
    | out h=>exact .out λk=>h<|Cv k
    | @on u v k _ ih=>
     by_cases hu:u∈C.erase p
     ·have kK:=(hC.mem_erase_iff).mp hu;have ud:u≠q:=λz=>hq<|z ▸ kK.2;refine .on ?_ ih
      rcases k with k | k
      ·refine .inl<|(Dv λz=>?_).mpr k
       rcases kL with r | r <;> rw [r] at z <;> cases z
       ·exact kK.1 rfl
       ·exact ud rfl
      ·refine .inr<|(Dv λz=>?_).mpr k
       rcases kL with r | r <;> rw [r] at z <;> cases z
       ·exact ud rfl
       ·exact kK.1 rfl
     ·exact .out hu
   exact go<|h y l8.2
  have fin:∀ e,e∈E->(e=(p,q)\/e=(q,p))->0 < De C E:=λe iT kL=>by
   have r:=rest e iT kL;rw [my (List.Perm.refl C)<|Ez iT];have b:=(qg (E.erase e) C hC).1
   rcases kL with rfl | rfl
   ·rw [uc hC];have:mg C p q (E.erase (p,q))=De (C.erase p) (E.erase (p,q)):=by
     unfold mg;rw [BK (λz=>by rcases z with z | z;exact cN z;exact z.1 hp),BL hq]
    omega
   ·rw [uc hC];have:mg C q p (E.erase (q,p))=De (C.erase p) (E.erase (q,p)):=by
     unfold mg;rw [BK (λz=>by rcases z with z | z;exact cN z.symm;exact z.2 hp),BK λz=>z hp,BL hq]
    omega
  rcases he with he | he
  ·exact fin _ he<|.inl rfl
  ·exact fin _ he<|.inr rfl
section
variable{κ:Type}
structure uf(l:κ->κ->Int)(C:List κ):Prop where
 good:∀ p q,C=p++q->Good l p.reverse
 pos:∀ p q,C=p++q->0 < mm l p.reverse/\mm l p.reverse < 1073741824
 all:∀ p q,C=p++q->∀ i∈q,∀ j∈q,-(2 ^ 64) < MM l p.reverse i j/\MM l p.reverse i j < 2 ^ 64
theorem OO{l:κ->κ->Int}:∀{K:List κ},(∀ a b,K=a++b->mm l b≠0)->Good l K
 | [],_=>trivial
 | k :: K,h=>⟨h [] _ rfl,OO λa b e=>h (k :: a) b<|by rw [e];rfl⟩
end
variable{κ:Type} [DecidableEq κ]
theorem bH.less{C p:List κ}{E:List (κ×κ)}(hp:∀ x∈p,x∈C){x:κ}(h:bH C E x):bH p E x:=by
 induction h with
 | out h=>exact .out λz=>h<|hp _ z
 | on k _ ih=>exact .on k ih
theorem q6g(n:Nat)(h:n<=29):(2:Int) ^ n < 1073741824:=by
 have:∀ n,n < 30->(2:Int) ^ n < 1073741824:=by decide
 exact this n<|by omega
theorem kR{C:List κ}{E:List (κ×κ)}(hC:C.Nodup)(hE:E.length<=29)(h:∀ x∈C,bH C E x):uf (Lp<|E.map ed) C:=by
 have nz:∀ K:List κ,K.Nodup->(∀ x∈K,x∈C)->0 < De K E:=λK hn hs=>OM _ K rfl hn E λx hx=>(h x<|hs x hx).less hs;have bd:∀ K:List κ,K.Nodup->0<=De K E/\De K E < 1073741824:=λK hn=>by
  have b:=qg E K hn;exact⟨b.1,Int.lt_of_le_of_lt b.2<|q6g _ hE⟩
 have nd:∀ p q,C=p++q->p.reverse.Nodup/\∀ x∈p.reverse,x∈C:=λp q e=>by
  rw [e] at hC;exact⟨(Fa p).nodup_iff.mpr (Cc.mp hC).1,λx hx=>by rw [e];exact Be _<|Ff.mp hx⟩
 have gd:∀ K:List κ,K.Nodup->(∀ x∈K,x∈C)->Good (Lp<|E.map ed) K:=λK hn hs=>OO λa b e=>by
  rw [e] at hn hs;exact Int.ne_of_gt<|nz b (Cc.mp hn).2.1 λx hx=>hs x<|Ar _ hx
 refine⟨λp q e=>gd _ (nd p q e).1 (nd p q e).2,λp q e=>⟨nz _ (nd p q e).1 (nd p q e).2,(bd _ (nd p q e).1).2⟩,λp q e i hi j hj=>?_⟩;obtain⟨n1,n2⟩:=nd p q e;have kS:=hC;rw [e] at kS;have dis:=(Cc.mp kS).2.2;have ni:i∉p.reverse:=λz=>dis i (Ff.mp z) i hi rfl;have nj:j∉p.reverse:=λz=>dis j (Ff.mp z) j hj rfl;have ci:i∈C:=by rw [e];exact Ar _ hi
 have cj:j∈C:=by rw [e];exact Ar _ hj
 have bi:=bd (i :: p.reverse)<|Bf.mpr ⟨ni,n1⟩;have bj:=bd (j :: p.reverse)<|Bf.mpr ⟨nj,n1⟩
 by_cases eV:i=j
 ·subst eV;have:MM (Lp<|E.map ed) p.reverse i i=De (i :: p.reverse) E:=rfl;rw [this];omega
 have gi:Good (Lp<|E.map ed) (i :: p.reverse):=gd _ (Bf.mpr ⟨ni,n1⟩) λx hx=>by
  rcases Ah.mp hx with r | r
  ·rw [r];exact ci
  ·exact n2 x r
 have s:=kQ gi j j;have b2:=(bd (j :: i :: p.reverse) (Bf.mpr ⟨λz=>by
  rcases Ah.mp z with r | r
  ·exact eV r.symm
  ·exact nj r,Bf.mpr ⟨ni,n1⟩⟩)).1
 have b3:=nz p.reverse n1 n2;have e1:MM (Lp<|E.map ed) p.reverse i i=De (i :: p.reverse) E:=rfl;have e2:MM (Lp<|E.map ed) p.reverse j j=De (j :: p.reverse) E:=rfl;have e3:MM (Lp<|E.map ed) (i :: p.reverse) j j=De (j :: i :: p.reverse) E:=rfl;have e4:mm (Lp<|E.map ed) p.reverse=De p.reverse E:=rfl;have sy:=xu (λa b=>q2l _ a b) (gd _ n1 n2) j i;rw [e1,e2,e3,e4,sy] at s;generalize MM (Lp<|E.map ed) p.reverse i j=x at s ⊢;generalize De (i :: p.reverse) E=a at *;generalize De (j :: p.reverse) E=b at *;have pr:0<=De p.reverse E * De (j :: i :: p.reverse) E:=Int.mul_nonneg (by omega) b2;have ab:b * a<=1073741824 * 1073741824:=RG (by omega) (by omega) bi.1 (by decide);have xx:x * x<=1073741824 * 1073741824:=by omega
 constructor
 ·refine Int.not_le.mp λz=>?_;have:(2 ^ 64:Int) * 2 ^ 64<=(-x) * (-x):=RG (by omega) (by omega) (by decide) (by omega);have e:(-x) * (-x)=x * x:=by grind
  rw [e] at this;exact absurd (RN this xx)<|by decide
 ·refine Int.not_le.mp λz=>?_;have:(2 ^ 64:Int) * 2 ^ 64<=x * x:=RG z z (by decide) (by omega);exact absurd (RN this xx)<|by decide
def hl(a b x j:κ):Int:=if a=b then 0 else if x=a then(if j=a then 1 else 0) - (if j=b then 1 else 0) else 0
theorem oM(a b x j:κ):ed (a,b) x * ed (a,b) j=hl a b x j+hl b a x j:=by
 unfold ed hl
 by_cases h0:a=b
 ·subst h0;simp
 ·by_cases h1:x=a <;> by_cases h2:x=b <;> by_cases h3:j=a <;> by_cases h4:j=b <;> simp_all
theorem kU(F:Nat->Nat->Int)(a y j:Nat):(if y=a then(if j=a then F a a+1 else F a j) else F y j)=F y j+hl (a+1) 0 (y+1) (j+1):=by
 unfold hl
 by_cases h1:y=a
 ·subst h1
  by_cases h2:j=y
  ·subst h2;simp
  ·simp [h2]
 ·simp [h1]
theorem kW(F:Nat->Nat->Int){a c:Nat}(h:c≠a)(y j:Nat):(if y=a then(if j=c then F a c - 1 else if j=a then F a a+1 else F a j) else F y j)=F y j+hl (a+1) (c+1) (y+1) (j+1):=by
 unfold hl
 by_cases h1:y=a
 ·subst h1
  by_cases h2:j=c
  ·subst h2;simp [h,Ne.symm h];omega
  ·by_cases h3:j=y
   ·subst h3;simp [h2]
   ·simp [h2,h3,Ne.symm h]
 ·simp [h1]
end Dt
namespace X4
open PySem L2 Nt bB
structure TabAt(H:Hp)(tb:Addr)(ts:List Addr)(M:List<|List Int):Prop where
 len:ts.length=M.length
 lst:H tb=some (.lst<|ts.map V.ref)
 row:∀(i:Nat) a r,ts[i]?=some a->M[i]?=some r->H a=some (.lst<|r.map V.int)
 inj:ts.Nodup
theorem TabAt.same{H H':Hp}{tb:Addr}{ts:List Addr}{M:List (List Int)}(h:TabAt H tb ts M)(s:ak H H'):TabAt H' tb ts M:=⟨h.len,s _ _ h.lst,λi a r h1 h2=>s _ _<|h.row i a r h1 h2,h.inj⟩
theorem EJ{ts:List Addr}{i:Nat}{a:Addr}(h:ts[i]?=some a):eC (ts.map V.ref) (i:Int)=some (.ref a):=j6<|by rw [Ae,h];rfl
theorem qh{r:List Int}{i:Nat}{v:Int}(h:r[i]?=some v):eC (r.map V.int) (i:Int)=some (.int v):=j6<|by rw [Ae,h];rfl
theorem k7a(ts:List Addr)(i:Nat):cv (ts.map V.ref) (some (i:Int)) none=(ts.drop i).map V.ref:=by
 unfold cv;rw [HT.eB,HT.dj,Aa];rw [Dh (by rw [Cz,Aa];omega),Go]
 rcases RM i ts.length with h | h
 ·rw [QG h]
 ·rw [PJ h,Fi (by simp),Fi<|by simpa using h]
section
variable{X:Cx}{elt tg:Expr}{ifs:List Expr}{scope:Scope}{σ:St}{H:Hp}{N':List Str}{A:Addr}{after:Hp->Prop}
end
theorem q5j(l:Nat->Nat->Int)(i j:Nat):Dt.MM l [] i j=l i j:=by
 show l i j * 1 - 0=l i j;omega
def EK:Sp:=λvs H Q _=>∃(tb:Addr) (ts:List Addr) (l:Nat->Nat->Int) (C:List Nat),vs=[.ref tb]/\TabAt H tb ts (C.map λi=>C.map<|l i)/\Dt.uf l C/\C.length<=60/\∀ H',ak H H'->Q (.int<|Dt.mm l C.reverse) H'
section
variable{P:Program}{w:World}{K:PySem.W.Frag}{mg:Str->Option Value}{base:Heap}
abbrev OQ:List Str:=["table","last","corner"]
abbrev oN:List Str:=["table","last","corner","line"]
abbrev ug:List Str:=["table","last","corner","line","place"]
theorem uh:au OQ ["table"] (bg nH):=⟨rfl,rfl,rfl,by decide +kernel,rfl,by decide +kernel,by decide +kernel⟩
theorem q51:oN.Nodup:=by decide +kernel
theorem q6k:ug.Nodup:=by decide +kernel
def q8q:Scope:=match g7 nH with
 | [_,.While _ [_,.Assign _ (.ListComp _ _ sc _) _,_] _ _,_]=>sc
 | _=>bg nH
def q7z:Scope:=relabel q8q<|PyProof.Rows.envOfC "determinant" (bg nH) 0 0 .none
theorem q5o{f:Addr}{fd:FuncData}(F:bX K "determinant" "determinant" nH f fd)(T:Txt mg):aJ P w K mg base bT 1 f fd ["table"] EK:=by
 refine F.gb uh (λvs H Q E h=>?_) λb0 H vs Q E hr h=>?_
 ·obtain⟨tb,ts,l,C,rfl,_⟩:=h;rfl
 obtain⟨tb,ts,l,C,rfl,hT,hF,hC,q⟩:=h;have nd:=uh.nd;show Run _ _ _ [some<|.ref tb,none,none] H;refine a8 1 nd<|aF ?_;show Run _ _ _ [some<|.ref tb,some<|.int 1,none] H;refine vE (λm σ H'=>∃(p qq:List Nat) (tb:Addr) (ts:List Addr) (u:Option V),C=p++qq/\m=qq.length/\ak H H'/\TabAt H' tb ts (qq.map λi=>qq.map<|Dt.MM l p.reverse i)/\σ=[some<|.ref tb,some<|.int<|Dt.mm l p.reverse,u]) (m0:=C.length) ⟨[],C,tb,ts,_,rfl,rfl,ak.refl _,?_,rfl⟩ ?_
 ·rw [show(C.map λi=>C.map<|Dt.MM l ([]:List Nat).reverse i)=C.map λi=>C.map (l i) from At λi _=>At λj _=>q5j l i j];exact hT
 rintro m σ H1 ⟨p,qq,tb,ts,u,kS,hm,s1,qi,rfl⟩;have p8:=qi.len;rw [Aa] at p8;refine Jp (ae 0 (v:= .ref tb) ⟨!ts.isEmpty,Or.inl ⟨ts.map V.ref,ao.of qi.lst,by cases ts <;> rfl⟩,?_⟩);cases qq with
 | nil=>
  have e:ts=[]:=Bb.mp p8;rw [e];rw [Bh] at kS;refine cL<|cA<|ae 1 ?_;have:=q H1 s1;rw [kS] at this;exact this
 | cons k q'=>
 cases ts with
 | nil=>cases p8
 | cons a0 de=>
 refine bW ?_;have EL:de.length=q'.length:=Nat.succ.inj p8;have lC:q'.length<=59:=by
  have:=BZ List.length kS;rw [Ag,Ao] at this;omega
 have e0:=qi.row 0 a0 _ rfl rfl;obtain⟨mp,ml⟩:=hF.pos p _ kS;have OS:C=(p++[k])++q':=by rw [kS,Aw];rfl
 have gd:=hF.good (p++[k]) q' OS;rw [Gx] at gd;have gd:Dt.Good l (k :: p.reverse):=gd;have sv:=λi j=>Dt.kQ gd i j;have bd:=hF.all p _ kS;generalize OT:p.reverse=KK at *;have mk:k∈k :: q':=Ad ..;show Run _ _ _ [some<|.ref tb,some<|.int<|Dt.mm l KK,u] H1;refine a8 2 nd<|bb cG<|bb cG<|ae 0<|aF ⟨tb,_,_,.ref a0,rfl,rfl,ao.of qi.lst,EJ (i:=0) rfl,aF ⟨a0,_,_,.int<|Dt.MM l KK k k,rfl,rfl,ao.of e0,qh (i:=0) rfl,?_⟩⟩;show Run _ _ _ [some<|.ref tb,some<|.int<|Dt.mm l KK,some<|.int<|Dt.MM l KK k k] H1;refine a8 0 nd<|lF (bg nH) OQ oN 1 (lh bG)<|vt vg<|ae 0<|vx<|aF ⟨1,rfl,vw ⟨tb,_,rfl,ao.of qi.lst,λp1 oe=>?_⟩⟩;rw [show cv ((a0 :: de).map V.ref) (some 1) none=de.map V.ref from k7a (a0 :: de) 1];have sp:=aT oe<|.lst<|de.map V.ref;have ep:(upd H1 p1<|.lst<|de.map V.ref) p1=some (.lst<|de.map V.ref):=aA;have s2:=s1.trans sp;have xv:=qi.same sp;generalize upd H1 p1 (.lst<|de.map V.ref)=H2 at s2 ep xv ⊢;have e02:=xv.row 0 a0 _ rfl rfl;refine⟨p1,rfl,⟨_,ao.of ep⟩,λA hA=>?_⟩;refine wc (xs:=de.map V.ref) (λi σ' H'=>(∃ v,σ'=[some<|.ref tb,some<|.int<|Dt.mm l KK,some<|.int<|Dt.MM l KK k k]++[v])/\∃ us:List Addr,us.length=i/\H' A=some (.lst<|us.map V.ref)/\(∀(j:Nat) a c,us[j]?=some a->q'[j]?=some c->H' a=some (.lst<|(q'.map<|Dt.MM l (k :: KK) c).map V.int))/\us.Nodup/\A∉us/\ak H2 H') ⟨⟨none,rfl⟩,[],rfl,aA,λj a c h=>by simp at h,Ck,Bm,aT hA _⟩ ?_ ?_ ?_
 ·rintro i σ' H' _ ⟨_,us,_,_,_,_,_,sm⟩;exact ao.of<|sm _ _ ep
 ·rintro i x σ' H' hx ⟨⟨v,rfl⟩,us,hl,eA,iy,ic,ER,sm⟩;rw [Ae,Az] at hx;obtain⟨a,ha,rfl⟩:=hx;have hi:i < q'.length:=by
   have:=(Ac.mp ha).1;omega
  obtain⟨c,hc⟩:∃ c,q'[i]?=some c:=⟨_,Ab hi⟩;have mc:c∈k :: q':=Af _<|Al hc;have ea:=(xv.same sm).row (i+1) a _ (by rw [Co];exact ha) (by rw [Ae,Co,hc];rfl);have e03:=sm _ _ e02;have OU:=sm _ _ xv.lst;intro cl C' s₀ H₀ ex;refine bz 3 q51 ?_;intro cl C' s₀ H₀ ex;refine fq<|bW ?_;intro cl C' s₀ H₀ ex;refine lF q7z oN ug 1 (RU rfl T.range (ta:=pA _ _) eI (kd _ [_] _ rfl) (kd _ [] _ rfl)) ?_;show Ea _ _ _ _ _;refine aq<|aF<|aq<|cZ dU T.len DG<|aq<|ae 0<|aB ⟨tb,_,rfl,.inl<|ao.of OU,aB ⟨_,_,rfl,⟨by decide,by decide,?_,?_⟩,λD hD=>?_⟩⟩
  ·rw [Aa];omega
  ·rw [Aa,Ao];omega
  rw [Aa,Ao,EL,show(((q'.length+1:Nat):Int) - 1).toNat=q'.length by omega];refine Mq (λt σ' bF=>(∃ v,σ'=[some<|.ref tb,some<|.int<|Dt.mm l KK,some<|.int<|Dt.MM l KK k k,some<|.ref a]++[v])/\ak H' bF/\bF D=some (.lst<|((q'.take t).map<|Dt.MM l (k :: KK) c).map V.int)) ⟨⟨none,rfl⟩,aT hD _,aA⟩ ?_ ?_
  ·rintro t σ' bF ht ⟨⟨v,rfl⟩,sn,eD⟩;obtain⟨j,hj⟩:∃ j,q'[t]?=some j:=⟨_,Ab ht⟩;have mj:j∈k :: q':=Af _<|Al hj;have et:(1:Int)+(t:Int)=((t+1:Nat):Int):=by omega
   rw [et];intro cl C' s₀ H₀ ex;refine bz 4 q6k ?_;intro cl C' s₀ H₀ ex;refine fq<|bW ?_;intro cl C' s₀ H₀ ex;refine aW gB (aW R0<|aW pc<|bb cG<|ae 3<|ae 4 ⟨a,_,_,.int<|Dt.MM l KK c j,rfl,rfl,ao.of<|sn _ _ ea,qh (i:=t+1) (by rw [Ae,Co,hj];rfl),ae 2 ⟨_,_,rfl,rfl,.inl<|bd c mc j mj,?_⟩⟩);refine aW pc<|bb cG<|ae 3<|aF ⟨a,_,_,.int<|Dt.MM l KK c k,rfl,rfl,ao.of<|sn _ _ ea,qh (i:=0) rfl,?_⟩;refine bb cG (bb cG<|ae 0<|aF ⟨tb,_,_,.ref a0,rfl,rfl,ao.of<|sn _ _ OU,EJ (i:=0) rfl,ae 4 ⟨a0,_,_,.int<|Dt.MM l KK k j,rfl,rfl,ao.of<|sn _ _ e03,qh (i:=t+1) (by rw [Ae,Co,hj];rfl),?_⟩⟩);refine⟨_,_,rfl,rfl,.inl<|bd c mc k mk,_,_,rfl,rfl,ae 1 ⟨_,_,rfl,rfl,⟨mp,ml⟩,?_⟩⟩;have ev:=BZ V.int<|(BZ (λz=>z / Dt.mm l KK)<|sv c j).trans<|Int.mul_ediv_cancel_left _<|Int.ne_of_gt mp;refine⟨_,eD,?_,⟨_,rfl⟩,dC sn hD,?_⟩
   ·rw [Aa,Aa,Bl];exact cn<|by omega
   ·rw [aA,Bw,hj,Ak,Ak];exact BZ (λz=>some<|HO.lst<|(((q'.take t).map<|Dt.MM l (k :: KK) c).map V.int)++[z]) ev
  ·rintro σ' bF ⟨_,sn,eD⟩;rw [Bs] at eD;have OV:D≠A:=λe=>by rw [e,eA] at hD;cases hD
   have hnu:D∉us:=λhm=>by
    obtain⟨j,hj⟩:=Av hm;have jl:=(Ac.mp hj).1;have:=iy j D _ hj (Ab<|by omega);rw [hD] at this;cases this
   refine⟨_,sn _ _ eA,?_,⟨_,rfl⟩,us++[D],by rw [Ag,hl];rfl,by rw [aA,Ak];rfl,λj b d hb hd=>?_,m4 ic hnu,λhm=>?_,dC (sm.trans sn) hA⟩
   ·rw [Aa];exact cn<|by omega
   ·by_cases hj:j < us.length
    ·rw [Ay hj] at hb;rw [ax λe:b=A=>ER<|e ▸ Al hb];exact sn _ _<|iy j b d hb hd
    ·rw [Bc<|by omega] at hb;have iu:j - us.length=0:=by
      have:=(Ac.mp hb).1;simp at this;omega
     have wX:j=i:=by omega
     rw [iu] at hb;cases hb;rw [wX,hc] at hd;cases hd;rw [ax OV];exact eD
   ·rcases Aq.mp hm with h | h
    ·exact ER h
    ·exact OV (Aj.mp h).symm
 ·rintro σ' H3 ⟨_,us,hl,eA,iy,ic,ER,sm⟩;rw [Aa] at hl;show Run _ _ _ [some<|.ref A,some<|.int<|Dt.mm l KK,some<|.int<|Dt.MM l KK k k] H3;refine a8 1 nd<|ae 2<|bn ⟨q'.length,by rw [hm];exact Nat.lt_succ_self _,p++[k],q',A,us,some<|.int<|Dt.MM l KK k k,OS,rfl,s2.trans sm,⟨by rw [Aa];omega,eA,λi a r h1 h2=>?_,ic⟩,?_⟩
  ·rw [Ae,Az] at h2;obtain⟨c,hc,rfl⟩:=h2;have:=iy i a c h1 hc;rw [Gx,OT];exact this
  ·rw [Gx,OT];rfl
end
end X4
namespace Nt
open PySem L2
theorem xA{α:Type}:∀{l:List α},l.Nodup->∀{i j:Nat} {x:α},l[i]?=some x->l[j]?=some x->i=j
 | [],_,i,j,x,h,_=>by simp at h
 | a :: l,hn,i,j,x,h1,h2=>by
  obtain⟨na,hl⟩:=Bf.mp hn;cases i with
  | zero=>
   cases j with
   | zero=>rfl
   | succ j=>
    cases h1;rw [Co] at h2;exact absurd (Al h2) na
  | succ i=>
   cases j with
   | zero=>
    cases h2;rw [Co] at h1;exact absurd (Al h1) na
   | succ j=>
    rw [Co] at h1 h2;rw [xA hl h1 h2]
def rn(n:Net)(p:Str):Nat:=(n.map (·.1)).idxOf p
def cI(n:Net)(ls:List Lk):List (Nat×Nat):=ls.map λx=>(rn n x.2.1,rn n x.2.2)
theorem EV{n:Net}{p:Str}(h:p∈n.map (·.1)):rn n p < n.length/\(n.map (·.1))[rn n p]?=some p:=by
 have hl:rn n p < (n.map (·.1)).length:=List.idxOf_lt_length_iff.mpr h;refine⟨by rw [Aa] at hl;exact hl,?_⟩;rw [Ab hl]
 congr 1
 exact List.getElem_idxOf hl
theorem gT{n:Net}(hN:(n.map (·.1)).Nodup){r:Nat}(h:r < n.length):rn n (bJ n r)=r:=by
 have e:(n.map (·.1))[r]?=some (bJ n r):=by rw [Ae,Ab h,dF h];rfl
 exact xA hN (EV<|Al e).2 e
theorem qj{n:Net}{z:Str}{e:End}(h:e∈pos n z):e.1 < n.length/\z∈row n e.1:=by
 have h:=aY.mp h;unfold aN at h;have hz:=Al h;refine⟨?_,hz⟩
 by_cases hl:e.1 < n.length
 ·exact hl
 ·unfold row at hz;rw [By<|by omega] at hz;cases hz
theorem k5u{n:Net}(T:az n)(hN:(n.map (·.1)).Nodup){x:Lk}(h:jN n x):(rn n x.2.1 < n.length/\(n.map (·.1))[rn n x.2.1]?=some x.2.1)/\(rn n x.2.2 < n.length/\(n.map (·.1))[rn n x.2.2]?=some x.2.2):=by
 obtain⟨a,b,hp,h1,h2⟩:=h;have la:=(qj (n:=n) (z:=x.1) (e:=a)<|by rw [hp];simp).1;have lb:=(qj (n:=n) (z:=x.1) (e:=b)<|by rw [hp];simp).1;have ma:bJ n a.1∈n.map (·.1):=by rw [dF la];exact An.mpr ⟨_,Bt la,rfl⟩
 have mb:bJ n b.1∈n.map (·.1):=by rw [dF lb];exact An.mpr ⟨_,Bt lb,rfl⟩
 rw [h1,h2];exact⟨EV ma,EV mb⟩
theorem OW{n:Net}{x:Lk}(h:jN n x):x.1∈ag n:=by
 obtain⟨a,b,hp,_⟩:=h;have:=nE n x.1;rw [hp] at this;exact El.mp<|by rw [<- this];exact Ee _
theorem k5h{n:Net}(T:az n){ls:List Lk}(so:ls.Pairwise λx y=>x.1.cps.toList < y.1.cps.toList)(mem:∀ x,x∈ls↔jN n x):2 * ls.length<=(ag n).length:=by
 have hn:(ls.map (·.1)).Nodup:=FT (λx:Lk=>x.1) (R:=λx y:Lk=>x.1.cps.toList < y.1.cps.toList) (λx y h e=>by
  rw [e] at h;exact Fv _ h) so
 have:=XD T hn λz hz=>by
  obtain⟨x,hx,rfl⟩:=An.mp hz;exact OW<|(mem x).mp hx
 rw [Aa] at this;omega
theorem OX(m:Nat):((List.range m).map (·+1)).Nodup:=by
 refine FT _ (R:=λa b=>a≠b) (λa b h e=>h<|by omega) Fe
theorem a9{m x:Nat}:x∈(List.range m).map (·+1)↔1<=x/\x<=m:=by
 rw [An]
 constructor
 ·rintro ⟨a,ha,rfl⟩;have:=Br.mp ha;omega
 ·rintro ⟨h1,h2⟩;exact⟨x - 1,Br.mpr (by omega),by omega⟩
theorem k47{n:Net}(T:az n){ls:List Lk}(mem:∀ x,x∈ls↔jN n x)(hN:(n.map (·.1)).Nodup){r s:Nat}{t:Str}(hr:t∈row n r)(hs:t∈row n s)(iO:r < n.length)(tG:s < n.length):r=s\/(r,s)∈cI n ls\/(s,r)∈cI n ls:=by
 obtain⟨i,hi⟩:=Av hr;obtain⟨j,hj⟩:=Av hs;have ti:aN n (r,i)=some t:=hi;have tj:aN n (s,j)=some t:=hj;obtain⟨a,b,hp,b5,he⟩:=pI T ti;have xB:(s,j)∈pos n t:=aY.mpr tj;rw [hp] at xB;have lk:(t,bJ n a.1,bJ n b.1)∈ls:=(mem _).mpr ⟨a,b,hp,rfl,rfl⟩;have la:=(qj (n:=n) (z:=t) (e:=a)<|by rw [hp];simp).1;have lb:=(qj (n:=n) (z:=t) (e:=b)<|by rw [hp];simp).1;have ml:(a.1,b.1)∈cI n ls:=An.mpr ⟨_,lk,by show(rn n<|bJ n a.1,rn n<|bJ n b.1)=_;rw [gT hN la,gT hN lb]⟩;have xB:(s,j)=a\/(s,j)=b:=by simpa using xB
 rcases he with e1 | e1 <;> rcases xB with e2 | e2
 ·left
  have:=e1.trans e2.symm;exact BZ Prod.fst this
 ·right;left
  rw [<- e1,<- e2] at ml;exact ml
 ·right;right
  rw [<- e1,<- e2] at ml;exact ml
 ·left
  have:=e1.trans e2.symm;exact BZ Prod.fst this
theorem q11{n:Net}(T:az n)(hN:(n.map (·.1)).Nodup)(hg:bO n)(h0:n≠[]){ls:List Lk}(mem:∀ x,x∈ls↔jN n x):∀ x∈(List.range<|n.length - 1).map (·+1),Dt.bH ((List.range<|n.length - 1).map (·+1)) (cI n ls) x:=by
 have kX:0 < n.length:=Cp.mpr h0;have key:=hg (λp=>Dt.bH ((List.range<|n.length - 1).map (·+1)) (cI n ls)<|rn n p) ⟨n[0],Bt kX,by
  have:rn n n[0].1=0:=by
   have:=gT hN kX;rw [dF kX] at this;exact this
  show Dt.bH _ _ (rn n n[0].1);rw [this];exact .out λz=>by have:=(a9.mp z).1;omega⟩ (λr hr s hs t h1 h2 e=>by
   obtain⟨i,hi,rfl⟩:=Bp.mp hr;obtain⟨j,hj,rfl⟩:=Bp.mp hs;have ei:=gT hN hi;have ej:=gT hN hj;rw [dF hi] at ei;rw [dF hj] at ej;show Dt.bH _ _ (rn n n[j].1);have e:Dt.bH _ _ (rn n n[i].1):=e;rw [ei] at e;rw [ej];have ri:row n i=n[i].2:=by unfold row;rw [Ab hi];rfl
   have rj:row n j=n[j].2:=by unfold row;rw [Ab hj];rfl
   rcases k47 T mem hN (r:=i) (s:=j) (t:=t) (by rw [ri];exact h1) (by rw [rj];exact h2) hi hj with k | k | k
   ·rw [<- k];exact e
   ·exact .on (.inr k) e
   ·exact .on (.inl k) e)
 intro x hx;have hxl:=a9.mp hx;have aM:x < n.length:=by omega
 have:=key n[x]<|Bt aM;have ex:=gT hN aM;rw [dF aM] at ex;have this:Dt.bH _ _ (rn n n[x].1):=this;rw [ex] at this;exact this
end Nt
namespace X4
open PySem L2 Nt bB
theorem OY{n j:Nat}(h:j < n):j5 n (j:Int)=some j:=by
 unfold j5;rw [BL (by omega),BL<|by omega];rfl
def xC(ts:List Addr)(H H':Hp):Prop:=∀ b o,b∉ts->H b=some o->H' b=some o
theorem TabAt.ntb{H:Hp}{tb:Addr}{ts:List Addr}{M:List (List Int)}(h:TabAt H tb ts M):tb∉ts:=λhm=>by
 obtain⟨i,hi⟩:=Av hm;have il:=(Ac.mp hi).1;have ll:=h.len;have e:=h.row i tb _ hi (Ab<|by omega);rw [h.lst] at e;have e:=HO.lst.inj<|Option.some.inj e;cases ts with
 | nil=>cases hm
 | cons a ts=>
  rw [Ap] at e;generalize M[i]'(by omega)=r at e;cases r with
  | nil=>cases e
  | cons v r=>cases (List.cons.inj e).1
theorem TabAt.put{H:Hp}{tb a:Addr}{ts:List Addr}{M:List (List Int)}(h:TabAt H tb ts M){i:Nat}(hi:ts[i]?=some a)(r:List Int):TabAt (upd H a<|.lst<|r.map V.int) tb ts (M.set i r):=by
 have ma:=Al hi;have il:=(Ac.mp hi).1;have ll:=h.len;refine⟨by rw [List.length_set];exact h.len,by rw [ax λe:tb=a=>h.ntb<|e ▸ ma];exact h.lst,λk b s h1 h2=>?_,h.inj⟩
 by_cases e:k=i
 ·subst e;rw [hi] at h1;cases h1;rw [Ed<|by omega] at h2;cases h2;exact aA
 ·rw [Es<|Ne.symm e] at h2;have nb:b≠a:=λz=>e<|by
   subst z;exact xA h.inj h1 hi
  rw [ax nb];exact h.row k b s h1 h2
def tab(m:Nat)(F:Nat->Nat->Int):List (List Int):=(List.range m).map λi=>(List.range m).map<|F i
theorem qk{m:Nat}{F:Nat->Nat->Int}{i:Nat}(h:i < m):(tab m F)[i]?=some ((List.range m).map<|F i):=by
 unfold tab;rw [Ae,Cy h];rfl
theorem xD{m:Nat}{g:Nat->Int}{i:Nat}(h:i < m):((List.range m).map g)[i]?=some (g i):=by
 rw [Ae,Cy h];rfl
theorem OZ{m:Nat}{F G:Nat->Nat->Int}{i:Nat}(h:i < m)(hg:∀ k,k≠i->∀ j,G k j=F k j):(tab m F).set i ((List.range m).map<|G i)=tab m G:=by
 refine Dq λk=>?_
 by_cases e:k=i
 ·subst e;rw [Ed (by unfold tab;rw [Aa,Ci];exact h),qk h]
 ·rw [Es<|Ne.symm e];unfold tab;rw [Ae,Ae];cases hk:(List.range m)[k]? with
  | none=>rfl
  | some x=>
   have:x=k:=by
    have hl:=(Ac.mp hk).1;rw [Ci] at hl;rw [Cy hl] at hk;exact(Option.some.inj hk).symm
   subst this;show some _=some _
   congr 1
   exact At λj _=>(hg x e j).symm
theorem EW{m:Nat}{g:Nat->Int}{i:Nat}{v:Int}(h:i < m):((List.range m).map g).set i v=(List.range m).map λj=>if j=i then v else g j:=by
 refine Dq λk=>?_
 by_cases e:k=i
 ·subst e;rw [Ed (by rw [Aa,Ci];exact h),xD h,BL rfl]
 ·rw [Es<|Ne.symm e,Ae,Ae];cases hk:(List.range m)[k]? with
  | none=>rfl
  | some x=>
   have:x=k:=by
    have hl:=(Ac.mp hk).1;rw [Ci] at hl;rw [Cy hl] at hk;exact(Option.some.inj hk).symm
   subst this;show some (g x)=some (if x=i then v else g x);rw [BK e]
def EX:Sp:=λvs H Q _=>∃(R:Addr) (as:List<|Addr×Addr) (n:Net),vs=[.ref R]/\ah H R as n/\n.length<=1000/\∀ L H',ak H H'->H L=none->H' L=some (Ls (n.map (·.1)))->Q (.ref L) H'
def EZ:Sp:=λvs H Q _=>∃(R:Addr) (as:List<|Addr×Addr) (n:Net),vs=[.ref R]/\ah H R as n/\az n/\(n.map (·.1)).Nodup/\n≠[]/\n.length<=60/\(ag n).length<=60 /\
 ∀(tb:Addr) (ts:List Addr) (ls:List Lk) (H':Hp),ak H H'->TabAt H' tb ts (tab (n.length - 1) λi j=>Dt.Lp ((cI n ls).map Dt.ed) (i+1)<|j+1)->t8 ls->(∀ x,x∈ls↔jN n x)->Q (.ref tb) H'
def E1:Sp:=λvs H Q _=>∃(R:Addr) (as:List<|Addr×Addr) (n:Net),vs=[.ref R]/\ah H R as n/\az n/\(n.map (·.1)).Nodup/\n≠[]/\n.length<=60/\(ag n).length<=58/\bO n /\
 ∀(ls:List Lk) (H':Hp),ak H H'->t8 ls->(∀ x,x∈ls↔jN n x)->Q (.int (Dt.De ((List.range<|n.length - 1).map (·+1))<|cI n ls)) H'
section
variable{P:Program}{w:World}{K:PySem.W.Frag}{mg:Str->Option Value}{base:Heap}
abbrev O0:List Str:=["rows"]
abbrev ui:List Str:=["rows","point","ties"]
theorem E2:au O0 ["rows"] (bg vT):=⟨rfl,rfl,rfl,by decide +kernel,rfl,by decide +kernel,by decide +kernel⟩
theorem O1:ui.Nodup:=by decide +kernel
theorem q6u{f:Addr}{fd:FuncData}(F:bX K "points_of" "points_of" vT f fd)(T:Txt mg):aJ P w K mg base bT 1 f fd ["rows"] EX:=by
 refine F.gb E2 (λvs H Q E h=>?_) λb0 H vs Q E hr h=>?_
 ·obtain⟨R,as,n,rfl,_⟩:=h;rfl
 obtain⟨R,as,n,rfl,hR,hn,q⟩:=h;have cq:=hR.len;show Run _ _ _ [some<|.ref R] H;refine cA<|lF (bg vT) O0 ui 2 (lh bG)<|ae 0 ⟨R,rfl,⟨_,ao.of hR.lst⟩,λD hD=>?_⟩;refine wc (xs:=as.map λa=>V.ref a.1) (λi σ' H'=>(∃ v1 v2,σ'=[some<|.ref R]++[v1,v2])/\H' D=some (Ls ((n.take i).map (·.1)))/\ak H H') ⟨⟨none,none,rfl⟩,aA,aT hD _⟩ ?_ ?_ ?_
 ·rintro i σ' H' _ ⟨_,_,sm⟩;exact ao.of<|sm _ _ hR.lst
 ·rintro i x σ' H' hx ⟨⟨v1,v2,rfl⟩,eD,sm⟩;have hi:i < n.length:=by
   have:=(Ac.mp hx).1;rw [Aa] at this;omega
  obtain⟨b,eb,eJ,et,el,er⟩:=(hR.same sm).at hi;rw [Ae,eb] at hx;cases hx;intro cl C' s₀ H₀ ex;refine jb rfl (aQ.of et) (bz 1 O1<|bz 2 O1 ?_);intro cl C' s₀ H₀ ex;refine fq<|bW ?_;intro cl C' s₀ H₀ ex;refine ae 1 ⟨_,eD,?_,⟨_,_,rfl⟩,?_,dC sm hD⟩
  ·rw [Aa,Aa,Bl];exact cn<|by omega
  ·rw [aA,Bw,Ab hi,Ak];show _=some (HO.lst<|List.map V.str<|_++_);rw [Ak];rfl
 ·rintro σ' H' ⟨_,eD,sm⟩;rw [Aa,cq,Bs] at eD;exact q D H' sm hD eD
abbrev E3:List Str:=["rows","places","table","tie","one","two","start","goal","line"]
abbrev oO:List Str:=["rows","places","table","tie","one","two","start","goal","line","place","point"]
abbrev oP:List Str:=["rows","places","table","tie","one","two","start","goal","line","point"]
abbrev uj:List Str:=["rows","places","table","tie","one","two","start","goal","line","point","other"]
theorem uk:au E3 ["rows"] (bg lN):=⟨rfl,rfl,rfl,by decide +kernel,rfl,by decide +kernel,by decide +kernel⟩
theorem O2:oO.Nodup:=by decide +kernel
theorem q41:oP.Nodup:=by decide +kernel
theorem q50:uj.Nodup:=by decide +kernel
def q8f:Scope:=match g7 lN with
 | _ :: .Assign _ (.ListComp _ _ sc _) _ :: _=>sc
 | _=>bg lN
def q8k:Scope:=relabel q8f<|PyProof.Rows.envOfC "tie_table" (bg lN) 0 0 .none
theorem q4n{f:Addr}{fd:FuncData}(F:bX K "tie_table" "tie_table" lN f fd)(T:Txt mg)(GP:bh P w K mg base 1 "points_of" ["rows"] EX)(GL:bh P w K mg base 1 "links_of" ["rows"] EB):aJ P w K mg base bT 2 f fd ["rows"] EZ:=by
 refine F.gb uk (λvs H Q E h=>?_) λb0 H vs Q E hr h=>?_
 ·obtain⟨R,as,n,rfl,_⟩:=h;rfl
 obtain⟨R,as,n,rfl,hR,hT,hN,h0,hn,jT,q⟩:=h;have nd:=uk.nd;have hu:=hr.u1;have kX:0 < n.length:=Cp.mpr h0;show Run _ _ _ [some<|.ref R,none,none,none,none,none,none,none,none] H;refine a8 1 nd (Wg (bg lN) E3 oO 2 (Nb rfl T.enum eI)<|aq<|vt vg<|b4 GP hr<|aq<|ae 0<|aB ⟨R,as,n,rfl,hR,by omega,λL H1 s1 n1 e1=>vx<|aF ⟨1,rfl,vw ⟨L,_,rfl,ao.of e1,λp1 oe=>aB ⟨p1,rfl,⟨_,ao.of aA⟩,λD hD=>?_⟩⟩⟩⟩);have sp:=s1.trans (aT oe (.lst (cv ((n.map (·.1)).map V.str) (some 1) none)));have ep:(upd H1 p1 (.lst (cv ((n.map (·.1)).map V.str) (some 1) none))) p1=some (.lst (cv ((n.map (·.1)).map V.str) (some 1) none)):=aA;generalize upd H1 p1 (.lst (cv ((n.map (·.1)).map V.str) (some 1) none))=H2 at sp ep hD ⊢;rw [show cv ((n.map (·.1)).map V.str) (some 1) none=((n.map (·.1)).drop 1).map V.str from Kx (n.map (·.1)) 1] at ep;have hps:((n.map (·.1)).drop 1).length=n.length - 1:=by rw [Cz,Aa]
 have E4:((n.map (·.1)).drop 1).Nodup:=hN.sublist<|List.drop_sublist ..;have E5:∀ k p,((n.map (·.1)).drop 1)[k]?=some p↔(n.map (·.1))[k+1]?=some p:=λk p=>by rw [Gd,Nat.add_comm]
 generalize (n.map (·.1)).drop 1=ps at ep hps E4 E5;intro cl C s₀ H₀ ex;refine j71 (xs:=ps.map V.str) (λi σ' H'=>(∃ v1 v2,σ'=[some<|.ref R,none,none,none,none,none,none,none,none]++[v1,v2])/\ak H2 H'/\∃ kvs:List<|Key×V,H' D=some (.dK kvs)/\kvs.map (·.1)=(ps.take i).map Sum.inr/\(∀(k:Nat) p,k < i->ps[k]?=some p->aC kvs (Sum.inr p)=some (.int (k:Int)))/\∀ p,p∉ps.take i->aC kvs (Sum.inr p)=none)
  ⟨⟨none,none,rfl⟩,aT hD _,[],aA,rfl,λk p h=>absurd h<|Eb _,λp _=>rfl⟩ ?_ ?_ ?_
 ·rintro i σ' H' _ ⟨_,sm,_⟩;exact ao.of<|sm _ _ ep
 ·rintro i x Tt σ' H' hx ⟨⟨v1,v2,rfl⟩,sm,kvs,eD,hk,hv,kJ⟩ ga;rw [Ae,Az] at hx;obtain⟨p,hp,rfl⟩:=hx;have wd:=(Ac.mp hp).1;have sT:=aT ga<|.tup [.int (i:Int),.str p];have kl:kvs.length=i:=by
   have:=BZ List.length hk;rw [Aa,Aa,Bl] at this;omega
  have npt:p∉ps.take i:=λhm=>by
   obtain⟨k,m5⟩:=Av hm;have rO:=(Ac.mp m5).1;rw [Bl] at rO;rw [Da<|by omega] at m5;have:=qB E4 m5 hp;omega
  refine jb rfl (aQ.of aA) (bz 9 O2<|bz 10 O2 ?_);refine fq<|bW<|AY (X:=fm _ oO _ cl C s₀ H₀ ex) hu<|ae 10<|ae 9 ⟨_,b9.k (k:=Sum.inr p) (sT _ _ eD) (cn<|by omega),⟨_,_,rfl⟩,dC (sm.trans sT) hD,_,aA,?_,λk r h1 h2=>?_,λr wA=>?_⟩
  ·rw [Xx,hk,BK λhm=>?_,Bw,hp,Ak]
   ·rfl
   ·obtain⟨y,hy,e⟩:=An.mp hm;cases e;exact npt hy
  ·rw [dL]
   by_cases e:(Sum.inr r:Key)=Sum.inr p
   ·rw [BL e];cases e;rw [qB E4 h2 hp]
   ·rw [BK e];refine hv k r ?_ h2;refine Fm (by omega) λz=>e ?_;rw [z,hp] at h2;cases h2;rfl
  ·rw [dL,BK λe=>?_]
   ·exact kJ r λhm=>wA<|by rw [Bw];exact Be _ hm
   ·cases e;exact wA<|by rw [Bw,hp];exact Ar _<|Aj.mpr rfl
 rintro σ' H3 ⟨_,sm3,kvs,eD,hk,hv,kJ⟩;rw [Aa,Bs] at hk kJ;rw [Aa] at hv;have kl:kvs.length=n.length - 1:=by
  have:=BZ List.length hk;rw [Aa,Aa] at this;omega
 have tP:=sp.trans sm3;have sX:H D=none:=iw sp hD;show Run _ _ _ [some<|.ref R,some<|.ref D,none,none,none,none,none,none,none] H3;refine zy 2 (bg lN) E3 oP 1 nd (VW bG)<|ae 1 ⟨D,kvs,rfl,eD,λo tb xE=>?_⟩;have ef:(upd H3 D<|.bK o<|.dK kvs) D=some (.bK o<|.dK kvs):=aA;have sF:ak H (upd H3 D<|.bK o<|.dK kvs):=dC tP sX;generalize upd H3 D (.bK o<|.dK kvs)=H4 at ef sF xE ⊢;refine KA (o:=o) (kvs:=kvs) (λi σ' H'=>(∃ v,σ'=[some<|.ref R,some<|.ref D,none,none,none,none,none,none,none]++[v])/\ak H4 H'/\∃ ts:List Addr,ts.length=i/\H' tb=some (.lst<|ts.map V.ref)/\(∀ a∈ts,H' a=some (.lst<|(List.replicate (n.length - 1) (0:Int)).map V.int)/\H4 a=none/\a≠tb)/\ts.Nodup) ⟨⟨none,rfl⟩,aT xE _,[],rfl,aA,λa h=>(nomatch h),Ck⟩ ?_ ?_ ?_
 ·rintro i σ' H' _ ⟨_,sm,_⟩;exact sm _ _ ef
 ·rintro i pr σ' H' hpr ⟨⟨v,rfl⟩,sm,ts,hl,eT,jQ,ic⟩;have wd:=(Ac.mp hpr).1;intro cl C s₀ H₀ ex;refine bz 9 q41 ?_;intro cl C s₀ H₀ ex;refine fq<|bW ?_;intro cl C s₀ H₀ ex;refine lF q8k oP uj 1 (Zy bG)<|ae 1 ⟨D,o,kvs,rfl,sm _ _ ef,λD2 fN=>?_⟩;refine KA (o:=o) (kvs:=kvs) (λj σ' bF=>(∃ v,σ'=[some<|.ref R,some<|.ref D,none,none,none,none,none,none,none,some<|kV pr.1]++[v])/\ak H' bF/\bF D2=some (.lst<|(List.replicate j (0:Int)).map V.int)) ⟨⟨none,rfl⟩,aT fN _,aA⟩ ?_ ?_ ?_
  ·rintro j σ' bF _ ⟨_,sn,_⟩;exact sn _ _<|sm _ _ ef
  ·rintro j pj σ' bF hpj ⟨⟨v,rfl⟩,sn,xF⟩;have nV:=(Ac.mp hpj).1;intro cl C s₀ H₀ ex;refine bz 10 q50 ?_;intro cl C s₀ H₀ ex;refine fq<|bW ?_;intro cl C s₀ H₀ ex;refine aF ⟨_,xF,?_,⟨_,rfl⟩,dC sn fN,?_⟩
   ·rw [Aa,Du];exact cn<|by omega
   ·rw [aA,List.replicate_succ',Ak];rfl
  ·rintro σ' bF ⟨_,sn,xF⟩;rw [kl] at xF;have n2:D2≠tb:=λe=>by rw [e,eT] at fN;cases fN
   refine⟨_,sn _ _ eT,?_,⟨_,rfl⟩,dC (sm.trans sn) xE,ts++[D2],by rw [Ag,hl];rfl,by rw [aA,Ak];rfl,λa ha=>?_,m4 ic λhm=>?_⟩
   ·rw [Aa];exact cn<|by omega
   ·rcases Aq.mp ha with ha | ha
    ·obtain⟨h1,h2,h3⟩:=jQ a ha;exact⟨by rw [ax h3];exact sn _ _ h1,h2,h3⟩
    ·rw [Aj.mp ha];exact⟨by rw [ax n2];exact xF,iw sm fN,n2⟩
   ·have:=(jQ D2 hm).1;rw [fN] at this;cases this
 rintro σ' H5 ⟨_,mv,ts,hl,eT,jQ,ic⟩;have hl:ts.length=n.length - 1:=by omega
 have tb0:H tb=none:=iw sF xE;have T0:TabAt H5 tb ts (tab (n.length - 1) λ_ _=>0):=by
  refine⟨by unfold tab;rw [Aa,Ci];exact hl,eT,λi a r h1 h2=>?_,ic⟩;have il:=(Ac.mp h1).1;rw [qk<|by omega] at h2;cases h2;rw [(jQ a<|Al h1).1]
  congr 2
  congr 1
  refine Dq λk=>?_
  by_cases hk:k < n.length - 1
  ·rw [xD hk,Dx,BL hk]
  ·rw [By (by rw [Du];omega),By<|by rw [Aa,Ci];omega]
 have ef5:=mv _ _ ef;have fr:∀ a∈ts,H a=none:=λa ha=>iw sF (jQ a ha).2.1;have tW:=sF.trans mv;have E6:D∉ts:=λhm=>by
  have:=(jQ D hm).2.1;rw [ef] at this;cases this
 show Run _ _ _ [some<|.ref R,some<|.ref D,some<|.ref tb,none,none,none,none,none,none] H5;refine lw (b4 GL hr<|aq<|ae 0<|aB ⟨R,as,n,rfl,hR.same tW,hT,by omega,by omega,λL us ls H6 s6 n6 eL eW so mem l60=>⟨L,rfl,⟨_,ao.of eL⟩,?_⟩⟩);have T6:=T0.same s6;have ef6:=s6 _ _ ef5;have n4:=tW.trans s6;have nLt:L∉ts:=λhm=>by
  obtain⟨i,hi⟩:=Av hm;have il:=(Ac.mp hi).1;have:=T0.row i L _ hi (qk<|by omega);rw [n6] at this;cases this
 have lkn:∀ x∈ls,(rn n x.2.1 < n.length/\(n.map (·.1))[rn n x.2.1]?=some x.2.1)/\(rn n x.2.2 < n.length/\(n.map (·.1))[rn n x.2.2]?=some x.2.2):=λx hx=>k5u hT hN<|(mem x).mp hx;have xG:∀{p:Str} {r:Nat},(n.map (·.1))[r]?=some p->aC kvs (Sum.inr p)=if r=0 then none else some (.int ((r - 1:Nat):Int)):=λ{p r} h=>by
  by_cases e:r=0
  ·rw [BL e];refine kJ p λhm=>?_;obtain⟨k,m5⟩:=Av hm;have:=qB hN ((E5 k p).mp m5) h;omega
  ·rw [BK e];have O3:ps[r - 1]?=some p:=(E5 (r - 1) p).mpr (by rw [show r - 1+1=r by omega];exact h);exact hv (r - 1) p (Ac.mp O3).1 O3
 refine lz (xs:=us.map V.ref) (λk σ' H'=>(∃ v3 v4 v5 v6 v7 v8,σ'=[some<|.ref R,some<|.ref D,some<|.ref tb,v3,v4,v5,v6,v7,v8])/\xC ts H6 H'/\TabAt H' tb ts (tab (n.length - 1) λi j=>Dt.Lp ((cI n<|ls.take k).map Dt.ed) (i+1)<|j+1)) ⟨⟨_,_,_,_,_,_,rfl⟩,λb o _ h=>h,T6⟩ ?_ ?_ ?_
 ·rintro k σ' H' _ ⟨_,sm,_⟩;exact ao.of<|sm _ _ nLt eL
 ·rintro k x σ' H7 hx ⟨⟨v3,v4,v5,v6,v7,v8,rfl⟩,eY,T7⟩;rw [Ae,Az] at hx;obtain⟨u,lQ,rfl⟩:=hx;have hj:k < ls.length:=by
   have:=(Ac.mp lQ).1;have:=eW.1;omega
  have O4:ls[k]?=some ls[k]:=Ab hj;have sZ:=eW.2 k u _ lQ O4;have mx:ls[k]∈ls:=Bt hj;obtain⟨⟨a1,a2⟩,b1,b2⟩:=lkn _ mx;have tk:cI n (ls.take<|k+1)=cI n (ls.take k)++[(rn n ls[k].2.1,rn n ls[k].2.2)]:=by
   unfold cI;rw [Bw,O4,Ak];rfl
  rw [tk];generalize ls[k]=lx at sZ a1 a2 b1 b2;obtain⟨z,on,tw⟩:=lx;have a2:(n.map (·.1))[rn n on]?=some on:=a2;have b2:(n.map (·.1))[rn n tw]?=some tw:=b2;have a1:rn n on < n.length:=a1;have b1:rn n tw < n.length:=b1;show Eg _ _ _ _ _ _;have nut:u∉ts:=λhm=>by
   obtain⟨i,hi⟩:=Av hm;have il:=(Ac.mp hi).1;have:=T6.row i u _ hi (qk<|by omega);rw [sZ] at this;cases this
  refine Zt rfl (aQ.of<|eY _ _ nut sZ) (bz 3 nd<|bz 4 nd<|bz 5 nd ?_);show Run _ _ _ [some<|.ref R,some<|.ref D,some<|.ref tb,some<|.str z,some<|.str on,some<|.str tw,v6,v7,v8] H7;refine Uh<|dW<|aq<|dW<|aq<|ae 4<|aq<|ae 5<|aB ⟨Z2,λt1 CF=>?_⟩;refine aq<|dW<|aq<|ae 5<|aq<|ae 4<|aB ⟨Z2,λt2 ii=>aB ⟨Z2,λtt htt=>?_⟩⟩;have m1:=aT CF<|.tup [.str on,.str tw];have m2:=aT ii<|.tup [.str tw,.str on];have m3:=aT htt<|.tup [.ref t1,.ref t2];have e1:=m3 _ _<|m2 _ _<|aA (H:=H7) (a:=t1) (o:= .tup [.str on,.str tw]);have e2:=m3 _ _<|aA (H:=upd H7 t1<|.tup [.str on,.str tw]) (a:=t2) (o:= .tup [.str tw,.str on]);have e3:=aA (H:=upd (upd H7 t1<|.tup [.str on,.str tw]) t2<|.tup [.str tw,.str on]) (a:=tt) (o:= .tup [.ref t1,.ref t2]);have m:=m1.trans<|m2.trans m3;refine⟨tt,rfl,⟨_,aQ.of e3⟩,?_⟩;generalize upd (upd (upd H7 t1<|.tup [.str on,.str tw]) t2<|.tup [.str tw,.str on]) tt (.tup [.ref t1,.ref t2])=H8 at e1 e2 e3 m;have T8:=T7.same m;have ul:xC ts H6 H8:=λb o nb h=>m _ _<|eY b o nb h;have O5:∀(t:Addr) (xs:List V),H8 t=some (.tup xs)->t∉ts:=λt xs ht hm=>by
   obtain⟨i,hi⟩:=Av hm;have il:=(Ac.mp hi).1;have:=T8.row i t _ hi (qk<|by omega);rw [ht] at this;cases this
  have O6:=ul _ _ E6 ef6;refine Ui (xs:=[.ref t1,.ref t2]) (λi σ' H'=>(∃ v6 v7 v8,σ'=[some<|.ref R,some<|.ref D,some<|.ref tb,some<|.str z,some<|.str on,some<|.str tw,v6,v7,v8])/\xC ts H8 H'/\TabAt H' tb ts (tab (n.length - 1) λx j=>Dt.Lp ((cI n<|ls.take k).map Dt.ed) (x+1) (j+1)+(if 0 < i then Dt.hl (rn n on) (rn n tw) (x+1) (j+1) else 0)+(if 1 < i then Dt.hl (rn n tw) (rn n on) (x+1) (j+1) else 0)))
   ⟨⟨_,_,_,rfl⟩,λb o _ h=>h,?_⟩ ?_ ?_ ?_
  ·have:(λx j=>Dt.Lp ((cI n<|ls.take k).map Dt.ed) (x+1) (j+1)+(if 0 < 0 then Dt.hl (rn n on) (rn n tw) (x+1) (j+1) else 0)+(if 1 < 0 then Dt.hl (rn n tw) (rn n on) (x+1) (j+1) else 0))=λx j=>Dt.Lp ((cI n<|ls.take k).map Dt.ed) (x+1) (j+1):=by
    funext x j
    rw [BK<|Dd 0,BK<|by decide];omega
   rw [this];exact T8
  ·rintro i σ' H' _ ⟨_,sn,_⟩;exact aQ.of<|sn _ _ (O5 _ _ e3) e3
  ·rintro i x σ' H9 hx ⟨⟨v6,v7,v8,rfl⟩,sn,T9⟩;obtain⟨st,gl,t,rfl,et,cD,um,dY⟩:∃ st gl t,x = .ref t/\H8 t=some (.tup [.str st,.str gl])/\(n.map (·.1))[rn n st]?=some st/\(n.map (·.1))[rn n gl]?=some gl/\∀ y j:Nat,(if 0 < i then Dt.hl (rn n on) (rn n tw) (y+1) (j+1) else 0)+(if 1 < i then Dt.hl (rn n tw) (rn n on) (y+1) (j+1) else 0)+Dt.hl (rn n st) (rn n gl) (y+1) (j+1)=(if 0 < i+1 then Dt.hl (rn n on) (rn n tw) (y+1) (j+1) else 0)+(if 1 < i+1 then Dt.hl (rn n tw) (rn n on) (y+1) (j+1) else 0):=by
    match i with
    | 0=>
     cases hx;exact⟨on,tw,t1,rfl,e1,a2,b2,λy j=>by simp⟩
    | 1=>
     cases hx;exact⟨tw,on,t2,rfl,e2,b2,a2,λy j=>by simp⟩
    | i+2=>simp at hx
   have fin:∀{F:Nat->Nat->Int} {G:Nat->Nat->Int},(∀ y j,G y j=F y j+Dt.hl (rn n st) (rn n gl) (y+1) (j+1))->(∀ y j,F y j=Dt.Lp ((cI n<|ls.take k).map Dt.ed) (y+1) (j+1)+(if 0 < i then Dt.hl (rn n on) (rn n tw) (y+1) (j+1) else 0)+(if 1 < i then Dt.hl (rn n tw) (rn n on) (y+1) (j+1) else 0)) ->
     G=λy j=>Dt.Lp ((cI n<|ls.take k).map Dt.ed) (y+1) (j+1)+(if 0 < i+1 then Dt.hl (rn n on) (rn n tw) (y+1) (j+1) else 0)+(if 1 < i+1 then Dt.hl (rn n tw) (rn n on) (y+1) (j+1) else 0):=λ{F G} h1 h2=>by
    funext y j
    have:=dY y j;rw [h1,h2];omega
   generalize hF:(λx j=>Dt.Lp ((cI n<|ls.take k).map Dt.ed) (x+1) (j+1)+(if 0 < i then Dt.hl (rn n on) (rn n tw) (x+1) (j+1) else 0)+(if 1 < i then Dt.hl (rn n tw) (rn n on) (x+1) (j+1) else 0))=F at T9;have sw:∀ y j,F y j=Dt.Lp ((cI n<|ls.take k).map Dt.ed) (y+1) (j+1)+(if 0 < i then Dt.hl (rn n on) (rn n tw) (y+1) (j+1) else 0)+(if 1 < i then Dt.hl (rn n tw) (rn n on) (y+1) (j+1) else 0):=λy j=>by rw [<- hF]
   have skip:(∀ y j,Dt.hl (rn n st) (rn n gl) (y+1) (j+1)=0)->TabAt H9 tb ts (tab (n.length - 1) λx j=>Dt.Lp ((cI n<|ls.take k).map Dt.ed) (x+1) (j+1)+(if 0 < i+1 then Dt.hl (rn n on) (rn n tw) (x+1) (j+1) else 0)+(if 1 < i+1 then Dt.hl (rn n tw) (rn n on) (x+1) (j+1) else 0)):=λh=>by
    rw [<- fin (G:=F) (λy j=>by rw [h];omega) sw];exact T9
   have E7:=sn _ _ E6 O6;refine jb rfl (aQ.of<|sn _ _ (O5 _ _ et) et) (bz 6 nd<|bz 7 nd ?_);show Run _ _ _ [some<|.ref R,some<|.ref D,some<|.ref tb,some<|.str z,some<|.str on,some<|.str tw,some<|.str st,some<|.str gl,v8] H9;refine hU<|zf<|Jq<|fW yz<|ae 6<|ae 7 ⟨rfl,_,rfl,?_⟩
   by_cases E8:st=gl
   ·subst E8;rw [show(!decide (V.str st=V.str st))=false by simp];refine cL<|cL<|bn<|bn ⟨⟨_,_,_,rfl⟩,sn,skip λy j=>?_⟩;unfold Dt.hl;rw [BL rfl]
   rw [show(!decide (V.str st=V.str gl))=true by simp [E8]];have xH:rn n st≠rn n gl:=λe=>by
    rw [e,um] at cD;exact E8 (Option.some.inj cD).symm
   refine bW<|Js<|vF hu<|ae 6<|ae 1 ⟨D,_,rfl,.inl ⟨kvs,Sum.inr st,.inr ⟨o,E7⟩,rfl,rfl⟩,?_⟩;rw [xG cD]
   by_cases r0:rn n st=0
   ·rw [BL r0];refine cL<|bn<|bn ⟨⟨_,_,_,rfl⟩,sn,skip λy j=>?_⟩;unfold Dt.hl;rw [r0,BK (by rw [<- r0];exact xH),BK<|by omega]
   rw [BK r0];refine bW ?_;have rl:rn n st < n.length:=by
    have:=(Ac.mp cD).1;rw [Aa] at this;exact this
   obtain⟨a0,ED⟩:∃ a0,rn n st=a0+1:=⟨rn n st - 1,by omega⟩;rw [ED] at cD r0 rl xH fin;have O7:aC kvs (Sum.inr st)=some (.int (a0:Int)):=by rw [xG cD,BK<|by omega];rfl
   have al:a0 < n.length - 1:=by omega
   obtain⟨la,jJ⟩:∃ la,ts[a0]?=some la:=⟨_,Ab<|by omega⟩;have mla:=Al jJ;have js:=T9.row a0 la _ jJ<|qk al;refine a8 8 nd<|bb cG<|ae 2<|i4 hu<|ae 1<|ae 6 ⟨D,_,rfl,.inl ⟨kvs,Sum.inr st,.inr ⟨o,E7⟩,rfl,O7.symm⟩,tb,_,_,.ref la,rfl,rfl,ao.of T9.lst,EJ jJ,?_⟩;show Run _ _ _ [some<|.ref R,some<|.ref D,some<|.ref tb,some<|.str z,some<|.str on,some<|.str tw,some<|.str st,some<|.str gl,some<|.ref la] H9;refine Om Ry (ae 8<|i4 hu<|ae 1<|ae 6 ⟨D,_,rfl,.inl ⟨kvs,Sum.inr st,.inr ⟨o,E7⟩,rfl,O7.symm⟩,la,_,_,.int<|F a0 a0,rfl,rfl,ao.of js,qh<|xD al,aF ⟨_,_,rfl,rfl,la,_,_,a0,rfl,rfl,js,OY (by rw [Aa,Aa,Ci];exact al),?_⟩⟩);have O8:∀ b,b∉ts->b≠la:=λb hb e=>hb<|e ▸ mla;have xI:=T9.put jJ<|((List.range<|n.length - 1).map<|F a0).set a0<|F a0 a0+1;have E9:upd H9 la (.lst<|(((List.range<|n.length - 1).map<|F a0).map V.int).set a0<|.int<|F a0 a0+1)=upd H9 la (.lst<|(((List.range<|n.length - 1).map<|F a0).set a0<|F a0 a0+1).map V.int):=by rw [List.map_set]
   rw [E9];rw [EW al] at xI ⊢;have uo:xC ts H8 (upd H9 la<|.lst<|((List.range<|n.length - 1).map λj=>if j=a0 then F a0 a0+1 else F a0 j).map V.int):=λb o' nb h=>by rw [ax<|O8 b nb];exact sn b o' nb h
   have FA:(upd H9 la<|.lst<|((List.range<|n.length - 1).map λj=>if j=a0 then F a0 a0+1 else F a0 j).map V.int) la=some (.lst<|((List.range<|n.length - 1).map λj=>if j=a0 then F a0 a0+1 else F a0 j).map V.int):=aA;generalize upd H9 la (.lst<|((List.range<|n.length - 1).map λj=>if j=a0 then F a0 a0+1 else F a0 j).map V.int)=FC at xI uo FA ⊢;have uq:=uo _ _ E6 O6;refine hU<|vF hu<|ae 7<|ae 1 ⟨D,_,rfl,.inl ⟨kvs,Sum.inr gl,.inr ⟨o,uq⟩,rfl,rfl⟩,?_⟩;rw [xG um]
   by_cases g0:rn n gl=0
   ·rw [BL g0];refine cL<|bn<|bn<|bn ⟨⟨_,_,_,rfl⟩,uo,?_⟩;rw [<- fin (F:=F) (G:=λy j=>if y=a0 then(if j=a0 then F a0 a0+1 else F a0 j) else F y j) (λy j=>?_) sw,<- OZ (F:=F) al λk hk j=>BK hk]
    ·simp only [CQ];exact xI
    ·rw [g0];exact Dt.kU F a0 y j
   rw [BK g0];refine bW ?_;have gll:rn n gl < n.length:=by
    have:=(Ac.mp um).1;rw [Aa] at this;exact this
   obtain⟨c0,hc0⟩:∃ c0,rn n gl=c0+1:=⟨rn n gl - 1,by omega⟩;rw [hc0] at um g0 gll xH fin;have pgl:aC kvs (Sum.inr gl)=some (.int (c0:Int)):=by rw [xG um,BK<|by omega];rfl
   have xJ:c0 < n.length - 1:=by omega
   have O9:c0≠a0:=λe=>xH (by rw [e]);refine Om Rz (ae 8<|i4 hu<|ae 1<|ae 7 ⟨D,_,rfl,.inl ⟨kvs,Sum.inr gl,.inr ⟨o,uq⟩,rfl,pgl.symm⟩,la,_,_,.int<|F a0 c0,rfl,rfl,ao.of FA,qh (by rw [xD xJ,BK O9]),aF ⟨_,_,rfl,rfl,la,_,_,c0,rfl,rfl,FA,OY (by rw [Aa,Aa,Ci];exact xJ),?_⟩⟩);have O':=xI.put jJ<|((List.range<|n.length - 1).map λj=>if j=a0 then F a0 a0+1 else F a0 j).set c0<|F a0 c0 - 1;rw [show upd FC la (.lst<|(((List.range<|n.length - 1).map λj=>if j=a0 then F a0 a0+1 else F a0 j).map V.int).set c0<|.int<|F a0 c0 - 1)=upd FC la (.lst<|(((List.range<|n.length - 1).map λj=>if j=a0 then F a0 a0+1 else F a0 j).set c0<|F a0 c0 - 1).map V.int) by rw [List.map_set]];refine bn (bn<|bn ⟨⟨_,_,_,rfl⟩,λb o' nb h=>by rw [ax<|O8 b nb];exact uo b o' nb h,?_⟩);rw [List.set_set,EW xJ] at O';rw [EW xJ];rw [<- fin (F:=F) (G:=λy j=>if y=a0 then(if j=c0 then F a0 c0 - 1 else if j=a0 then F a0 a0+1 else F a0 j) else F y j) (λy j=>?_) sw,<- OZ (F:=F) al λk hk j=>BK hk]
   ·simp only [CQ];exact O'
   ·exact Dt.kW F O9 y j
  ·rintro σ' H9 ⟨⟨v6,v7,v8,rfl⟩,sn,T9⟩;refine bn ⟨⟨_,_,_,_,_,_,rfl⟩,λb o' nb h=>sn b o' nb<|ul b o' nb h,?_⟩;have:(λi j=>Dt.Lp ((cI n (ls.take k)++[(rn n on,rn n tw)]).map Dt.ed) (i+1)<|j+1)=λx j=>Dt.Lp ((cI n<|ls.take k).map Dt.ed) (x+1) (j+1)+(if 0 < [V.ref t1,V.ref t2].length then Dt.hl (rn n on) (rn n tw) (x+1) (j+1) else 0)+(if 1 < [V.ref t1,V.ref t2].length then Dt.hl (rn n tw) (rn n on) (x+1) (j+1) else 0):=by
    funext x j
    rw [BL (by show 0 < 2;decide),BL (by show 1 < 2;decide),Int.add_assoc,<- Dt.oM,Ak];unfold Dt.Lp;rw [Ak,List.sum_append];show _+(Dt.ed _ _ * Dt.ed _ _+0)=_;omega
   show TabAt _ _ _ (tab _ λi j=>Dt.Lp ((cI n (ls.take k)++[(rn n on,rn n tw)]).map Dt.ed) (i+1)<|j+1);rw [this];exact T9
 ·rintro σ' H7 ⟨⟨v3,v4,v5,v6,v7,v8,rfl⟩,eY,T7⟩;rw [Aa,eW.1,Bs] at T7;exact cA<|ae 2<|q tb ts ls H7 (λb o' h=>eY b o' (λhm=>by rw [fr b hm] at h;cases h)<|n4 _ _ h) T7 so mem
abbrev NTc:List Str:=["rows"]
theorem FD:au NTc ["rows"] (bg zR):=⟨rfl,rfl,rfl,by decide +kernel,rfl,by decide +kernel,by decide +kernel⟩
theorem q5r{f:Addr}{fd:FuncData}(F:bX K "tree_count" "tree_count" zR f fd)(T:Txt mg)(GT:bh P w K mg base 2 "tie_table" ["rows"] EZ)(GD:bh P w K mg base 2 "determinant" ["table"] EK):aJ P w K mg base bT 3 f fd ["rows"] E1:=by
 refine F.gb FD (λvs H Q E h=>?_) λb0 H vs Q E hr h=>?_
 ·obtain⟨R,as,n,rfl,_⟩:=h;rfl
 obtain⟨R,as,n,rfl,hR,hT,hN,h0,hn,jT,hg,q⟩:=h;show Run _ _ _ [some<|.ref R] H;refine cA (b4 GD hr<|aq<|b4 GT hr<|aq<|ae 0<|aB ⟨R,as,n,rfl,hR,hT,hN,h0,hn,by omega,λtb ts ls H1 s1 hTb so mem=>?_⟩);have cnd:((List.range<|n.length - 1).map (·+1)).Nodup:=OX _;refine aB ⟨tb,ts,Dt.Lp<|(cI n ls).map Dt.ed,(List.range<|n.length - 1).map (·+1),rfl,?_,Dt.kR cnd (by unfold cI;rw [Aa];have:=k5h hT so mem;omega)<|q11 hT hN hg h0 mem,by rw [Aa,Ci];omega,λH2 s2=>?_⟩
 ·rw [Bj];have e:tab (n.length - 1) (λi j=>Dt.Lp ((cI n ls).map Dt.ed) (i+1)<|j+1)=(List.range<|n.length - 1).map ((λi=>((List.range<|n.length - 1).map (·+1)).map<|Dt.Lp ((cI n ls).map Dt.ed) i) ∘ (·+1)):=by
   unfold tab;refine At λi _=>?_;show _=((List.range<|n.length - 1).map (·+1)).map (Dt.Lp ((cI n ls).map Dt.ed)<|i+1);rw [Bj];rfl
  rw [<- e];exact hTb
 ·have e:Dt.mm (Dt.Lp<|(cI n ls).map Dt.ed) ((List.range<|n.length - 1).map (·+1)).reverse=Dt.De ((List.range<|n.length - 1).map (·+1)) (cI n ls):=Dt.gS _ (Fa _).symm;rw [e];exact q ls H2 (s1.trans s2) so mem
end
end X4
namespace Dt
end Dt
namespace Nt
open PySem L2
def cw(n:Net)(z:Str):Nat×Nat:=match pos n z with
 | [a,b]=>(a.1,b.1)
 | _=>(0,0)
theorem Pa{n:Net}{z:Str}{a b:End}(h:pos n z=[a,b]):cw n z=(a.1,b.1):=by
 unfold cw;rw [h]
theorem Pb{n:Net}(T:az n){z:Str}(h:z∈ag n):∃ a b,pos n z=[a,b]:=by
 have:=nE n z;rw [T z h] at this
 match hp:pos n z,this with
 | [a,b],_=>exact⟨a,b,rfl⟩
theorem xK{n:Net}(T:az n)(hN:(n.map (·.1)).Nodup){ls:List Lk}(so:ls.Pairwise λx y=>x.1.cps.toList < y.1.cps.toList)(mem:∀ x,x∈ls↔jN n x){ss:List Str}(hs:jm ss)(hm:∀ z,z∈ss↔z∈ag n):cI n ls=ss.map (cw n):=by
 have e:ls.map (·.1)=ss:=by
  refine LO (FT (λx:Lk=>x.1) (R:=λx y:Lk=>x.1.cps.toList < y.1.cps.toList) (λx y h=>h) so) hs λz=>?_;rw [hm,An]
  constructor
  ·rintro ⟨x,hx,rfl⟩;exact OW<|(mem x).mp hx
  ·intro hz;obtain⟨a,b,hp⟩:=Pb T hz;exact⟨(z,bJ n a.1,bJ n b.1),(mem _).mpr ⟨a,b,hp,rfl,rfl⟩,rfl⟩
 rw [<- e,Bj];refine At λx hx=>?_;obtain⟨a,b,hp,h1,h2⟩:=(mem x).mp hx;have la:=(qj (n:=n) (z:=x.1) (e:=a)<|by rw [hp];simp).1;have lb:=(qj (n:=n) (z:=x.1) (e:=b)<|by rw [hp];simp).1;show(rn n x.2.1,rn n x.2.2)=cw n x.1;rw [Pa hp,h1,h2,gT hN la,gT hN lb]
end Nt
namespace Dt
variable{κ μ:Type}
variable [DecidableEq κ] [DecidableEq μ]
theorem ur:∀(n:Nat) (E:List<|κ×κ),E.length=n->∀(C:List κ),C.Nodup->∀ S:κ->Prop,(∃ x,S x)->(∀ x,S x->x∈C)->(∀ e∈E,S e.1↔S e.2)->De C E=0
 | _,[],_,C,_,S,⟨x,hx⟩,hS,_=>by
  cases C with
  | nil=>exact nomatch hS x hx
  | cons a C=>exact OB a C
 | 0,e :: E,hn,_,_,_,_,_,_=>nomatch hn
 | n+1,(p,q) :: E,hn,C,hC,S,⟨x,hx⟩,hS,hE=>by
  have hl:E.length=n:=by simpa using hn
  have cN:S p↔S q:=hE _<|Ad ..;have nY:∀ e∈E,S e.1↔S e.2:=λe he=>hE e<|Af _ he;rw [uc hC,ur n E hl C hC S ⟨x,hx⟩ hS nY];have keep:∀ a,¬ S a->∀ y,S y->y∈C.erase a:=λa ha y hy=>(hC.mem_erase_iff).mpr ⟨λz=>ha<|z ▸ hy,hS y hy⟩;have:mg C p q E=0:=by
   unfold mg
   by_cases h:p=q\/(p∉C/\q∉C)
   ·rw [BL h]
   rw [BK h];have npq:p≠q:=λz=>h<|.inl z
   by_cases hq:q∉C
   ·rw [BL hq];exact ur n E hl _ (hC.erase p) S ⟨x,hx⟩ (keep p λz=>hq<|hS q<|cN.mp z) nY
   rw [BK hq]
   by_cases hp:p∉C
   ·rw [BL hp];exact ur n E hl _ (hC.erase q) S ⟨x,hx⟩ (keep q λz=>hp<|hS p<|cN.mpr z) nY
   rw [BK hp];have FE:∀ u,(S (if u=q then p else u)/\(if u=q then p else u)≠q)↔S u:=λu=>by
    by_cases e:u=q
    ·rw [BL e,e];exact⟨λk=>cN.mp k.1,λk=>⟨cN.mpr k,npq⟩⟩
    ·rw [BK e];exact⟨λk=>k.1,λk=>⟨k,e⟩⟩
   refine ur n (E.map<|rl q p) (by rw [Aa];exact hl) _ (hC.erase q) (λy=>S y/\y≠q) ⟨_,(FE x).mpr hx⟩ (λy hy=>(hC.mem_erase_iff).mpr ⟨hy.2,hS y hy.1⟩) λe he=>?_;obtain⟨d,hd,rfl⟩:=An.mp he;show(S (if d.1=q then p else d.1)/\(if d.1=q then p else d.1)≠q)↔(S (if d.2=q then p else d.2)/\(if d.2=q then p else d.2)≠q);rw [FE,FE];exact nY d hd
  rw [this];rfl
end Dt
namespace Nt
open PySem L2
section
variable{n:Net}{z:Str}{r k:Nat}
theorem iU(h:r < n.length):row n r=n[r].2:=by unfold row;rw [Ab h];rfl
theorem q5l(h:r < n.length):ag (n.take<|r+1)=ag (n.take r)++row n r:=by
 rw [iU h];unfold ag;rw [Bw,Ab h,Dr];simp
theorem k23:ag n=ag (n.take k)++ag (n.drop k):=by
 unfold ag;rw [<- Dr,Cu]
theorem FG(h:r < n.length)(q:z∈row n r):z∈ag n:=by
 rw [k23 (k:=r+1),q5l h];simp [q]
theorem q5e(q:z∈ag n):∃ r,r < n.length/\z∈row n r:=by
 unfold ag at q;obtain⟨x,hx,hz⟩:=List.mem_flatMap.mp q;obtain⟨r,hr,e⟩:=Bp.mp hx;exact⟨r,hr,by rw [iU hr,e];exact hz⟩
end
structure gU(H0 H:Hp)(D:Addr)(bs:List<|Addr×Addr)(m:Net):Prop where
 rows:ah H D bs m
 new:∀ a∈bs,H0 a.1=none/\H0 a.2=none
 nD:∀ a∈bs,a.1≠D/\a.2≠D
theorem gU.same{H0 H H':Hp}{D:Addr}{bs:List (Addr×Addr)}{m:Net}(b:gU H0 H D bs m)(s:ak H H'):gU H0 H' D bs m:=⟨b.rows.same s,b.new,b.nD⟩
theorem gU.nil{H0 H:Hp}{D:Addr}(h:H D=some (.lst [])):gU H0 H D [] []:=⟨⟨rfl,h,λi a r h=>(by simp at h),Ck⟩,λa h=>(by simp at h),λa h=>(by simp at h)⟩
theorem gU.kY{H0 H:Hp}{D:Addr}{bs:List (Addr×Addr)}{m:Net}(b:gU H0 H D bs m){a:Addr×Addr}(h:a∈bs):H a.1≠none/\H a.2≠none:=by
 obtain⟨i,hi⟩:=Av h;have hl:=(Ac.mp hi).1;have:=b.rows.len;obtain⟨q1,q2⟩:=b.rows.tup i a _ hi (Ab<|by omega);exact⟨by rw [q1];simp,by rw [q2];simp⟩
theorem gU.add{H0 H:Hp}{D t l:Addr}{bs:List (Addr×Addr)}{m:Net}{p:Str}{zs:List Str}(b:gU H0 H D bs m)(hl:H l=some (Ls zs))(l0:H0 l=none)(ln:l∉bs.map (·.2))(nl:l≠D)(ht:H t=none)(t0:H0 t=none) :
  gU H0 (upd (upd H t<|.tup [.str p,.ref l]) D<|.lst<|(bs.map λa=>V.ref a.1)++[.ref t]) D (bs++[(t,l)]) (m++[(p,zs)]):=by
 have Pg:t≠D:=λe=>by rw [e,b.rows.lst] at ht;cases ht
 have ntl:t≠l:=λe=>by rw [e,hl] at ht;cases ht
 have len:=b.rows.len;have keep:∀ x o,x≠D->H x=some o->(upd (upd H t<|.tup [.str p,.ref l]) D<|.lst<|(bs.map λa=>V.ref a.1)++[.ref t]) x=some o:=λx o h1 h2=>by
  rw [ax h1,ax<|bU h2 ht];exact h2
 refine⟨⟨by rw [Ag,Ag,len];rfl,by rw [aA,Ak];rfl,λi a r h1 h2=>?_,?_⟩,λa ha=>?_,λa ha=>?_⟩
 ·by_cases hi:i < bs.length
  ·rw [Ay hi] at h1;rw [Ay<|by omega] at h2;have nn:=b.nD a<|Al h1;obtain⟨q1,q2⟩:=b.rows.tup i a r h1 h2;exact⟨keep _ _ nn.1 q1,keep _ _ nn.2 q2⟩
  ·rw [Bc<|by omega] at h1;rw [Bc<|by omega] at h2;have e:i - bs.length=0:=by
    have:=(Ac.mp h1).1;simp at this;omega
   rw [e] at h1;rw [<- len,e] at h2;cases h1;cases h2;exact⟨by rw [ax Pg,aA],keep _ _ nl hl⟩
 ·rw [Ak];refine Cc.mpr ⟨b.rows.inj,by simp,λx hx y hy e=>?_⟩;have hy:=Aj.mp hy;exact ln<|by rw [<- show y=l from hy,<- e];exact hx
 ·rcases Aq.mp ha with h | h
  ·exact b.new a h
  ·rw [Aj.mp h];exact⟨t0,l0⟩
 ·rcases Aq.mp ha with h | h
  ·exact b.nD a h
  ·rw [Aj.mp h];exact⟨Pg,nl⟩
end Nt
namespace L2
open PySem Nt
section
variable{X:Cx}{elt tg:Expr}{ifs:List Expr}{scope:Scope}{σ:St}{H:Hp}{N':List Str}{A:Addr}{after:Hp->Prop}
theorem k8x{lo:Int}{n:Nat}(Pv:Nat->St->Hp->Prop)(h0:Pv 0 σ H)
  (hs : ∀ i σ' H', i < n → Pv i σ' H' → m9 X N' scope tg (.int<|lo + i) σ' H' λσ2 H3 => ng X N' scope ifs σ2 H3 λb H4 =>
   if b=true then m8 X N' scope elt σ2 H4 λv H5=>∃ ys,H5 A=some (.lst ys)/\ys.length < sizeLine/\Pv (i+1) σ2 (upd H5 A<|.lst<|ys++[v]) else Pv (i+1) σ2 H4)
  (hd:∀ σ' H',Pv n σ' H'->after H'):iY X N' scope tg ifs elt (lg lo n) A after σ H:=by
 refine⟨λi m σ' H'=>m=n - i/\i<=n/\Pv i σ' H',⟨_,rfl,Bo _,h0⟩,?_⟩;rintro i m σ' H' ⟨rfl,hi,p⟩
 by_cases aM:i < n
 ·refine .inr ⟨aM,Pv<|i+1,λσ' H' p'=>⟨n - (i+1),by omega,rfl,aM,p'⟩,λx H2 y=>?_⟩;obtain⟨e,y⟩:=y;subst e y;exact hs i σ' _ aM p
 ·have e:i=n:=by omega
  subst e;exact .inl ⟨Am _,hd σ' H' p⟩
end
section
variable{X:Cx}{σ:St}{H:Hp}{Q:VK}{o e e1:Expr}{pos p1 p2 p3 p4:Pos}{j1:Nat}
end
end L2
namespace Nt
open PySem L2 Classical
section
variable{n:Net}{z:Str}
end
section
variable{H0 H:Hp}{d l0 a:Addr}{done:List (Str×End)}{kvs:List (Key×V)}{ks:List Str}{z:Str}{e:End}
end
end Nt
namespace Nt
open PySem L2
theorem Ph(z:Str)(k:Nat):∀(m:Net) (j:Nat),k < j->(bw (c6 j m) z).filter (λe=>decide (e.1=k+0))=[]
 | [],j,_=>rfl
 | y :: m,j,hj=>by
  have e:c6 j (y :: m)=aU j y.2 0++c6 (j+1) m:=rfl;rw [e,LV,Ek,Ph z k m (j+1) (by omega),Bh];exact List.filter_eq_nil_iff.mpr λe he q=>by
   have:=BM he;have:=CG q;omega
theorem Pj(z:Str):∀(m:Net) (k r:Nat),((bw (c6 k m) z).filter λe=>decide (e.1=k+r)).length=(row m r).count z
 | [],k,r=>by
  unfold row;rfl
 | x :: m,k,r=>by
  have e:c6 k (x :: m)=aU k x.2 0++c6 (k+1) m:=rfl;rw [e,LV,Ek,Ag];cases r with
  | zero=>
   have h1:(bw (aU k x.2 0) z).filter (λe=>decide (e.1=k+0))=bw (aU k x.2 0) z:=List.filter_eq_self.mpr λe he=>BW<|BM he;rw [h1,Ph z k m (k+1) (by omega),LU];rfl
  | succ r=>
   have h1:(bw (aU k x.2 0) z).filter (λe=>decide (e.1=k+(r+1)))=[]:=List.filter_eq_nil_iff.mpr λe he q=>by
    have:=BM he;have:=CG q;omega
   have ih:=Pj z m (k+1) r;rw [show k+1+r=k+(r+1) by omega] at ih;rw [h1,ih];show 0+_=(row m r).count z;omega
def q7u(n:Net)(z:Str)(p:Nat×Nat):Prop:=∀ r,(row n r).count z=(if r=p.1 then 1 else 0)+(if r=p.2 then 1 else 0)
theorem FH{n:Net}(T:az n){z:Str}(hz:z∈ag n):q7u n z (cw n z):=λr=>by
 obtain⟨a,b,hp⟩:=Pb T hz;have:=Pj z n 0 r;rw [show bw (c6 0 n) z=pos n z from rfl,hp] at this;rw [<- this,Pa hp];simp only [Ej,List.filter_nil,Fg]
 by_cases h1:a.1=r <;> by_cases h2:b.1=r <;> simp [h1,h2,@eq_comm Nat r]
noncomputable def dG(n:Net)(ss:List Str):Int:=Dt.De ((List.range<|n.length - 1).map (·+1))<|ss.map<|cw n
section
variable{n:Net}{z:Str}{r0 r1:Nat}
theorem xL{n:Net}{i:Nat}(h:n.length<=i):row n i=[]:=by
 unfold row;rw [By h];rfl
theorem q0y(m:Net)(w:Str):(ag m).count w=((List.range m.length).map λr=>(row m r).count w).sum:=by
 induction m with
 | nil=>rfl
 | cons x m ih=>
  have e:ag (x :: m)=x.2++ag m:=rfl;rw [e,LQ,ih,Ao,Gh,Ap,Bz,Bj];rfl
end
end Nt
namespace Dt
variable{κ ι:Type}
variable [DecidableEq ι]
def sm(R:ι->κ->Int)(S:ι->Bool)(I:List ι)(c:κ):Int:=(I.map λi=>if S i=true then R i c else 0).sum
theorem FI(R:ι->κ->Int)(S:ι->Bool)(p:ι)(I:List ι)(c:κ):sm R S (p :: I) c=(if S p=true then R p c else 0)+sm R S I c:=rfl
theorem Pk{R:ι->κ->Int}{c:κ}(S:ι->Bool):∀{I:List ι},(∀ i∈I,R i c % 2=0)->sm R S I c % 2=0
 | [],_=>rfl
 | i :: I,h=>by
  have h1:=h i<|Ad ..;have h2:=Pk S (I:=I) λj hj=>h j<|Af _ hj;rw [FI]
  split <;> omega
end Dt
namespace Nt
open PySem L2
theorem FK(z:Str):∀ L:List Str,decide (L.count z % 2=1)=av (L.map λy=>decide (z=y))
 | []=>rfl
 | y :: L=>by
  show _=(decide (z=y) ^^ av (L.map λy=>decide (z=y)));rw [<- FK z L,Dg]
  by_cases h:z=y
  ·subst h;rw [BW rfl,GJ,BL rfl,RK,<- decide_not];exact decide_eq_decide.mpr<|by omega
  ·rw [BR h,BK λq=>h (eq_of_beq q).symm,Cg];rfl
theorem ut{α β:Type}(f:α->β->Bool)(M:List β):∀ L:List α,av (L.map λa=>av<|M.map λb=>f a b)=av (M.map λb=>av<|L.map λa=>f a b)
 | []=>(aG M).symm
 | a :: L=>by
  show(av (M.map λb=>f a b) ^^ av (L.map λa=>av<|M.map λb=>f a b))=av (M.map λb=>f a b ^^ av (L.map λa=>f a b));rw [ut f M L,iN (λb=>f a b) λb=>av<|L.map λa=>f a b]
def gn(zs:List Str)(t s:Str->Bool):Bool:=av<|zs.map λz=>t z && s z
theorem Pn{s:Str->Bool}{y:Str}:∀{zs:List Str},zs.Nodup->y∈zs->gn zs (λz=>decide (z=y)) s=s y
 | z :: zs,hn,hy=>by
  have hn:=Bf.mp hn;show((decide (z=y) && s z) ^^ gn zs (λz=>decide (z=y)) s)=s y
  by_cases h:z=y
  ·subst h;have:gn zs (λx=>decide (x=z)) s=false:=by
    unfold gn;have e:(zs.map λx=>decide (x=z) && s x)=zs.map λ_=>false:=At λx hx=>by
     have ne:¬ x=z:=λq=>hn.1<|q ▸ hx;rw [BR ne];rfl
    rw [e,aG]
   rw [this,BW rfl];cases s z <;> rfl
  ·rw [BR h,Pn hn.2<|(Ah.mp hy).resolve_left<|Ne.symm h];cases s y <;> rfl
theorem k4f{n:Net}{zs:List Str}(hz:zs.Nodup){t:Str->Bool}:∀{L:List Str},(∀ y∈L,y∈zs)->gn zs t (λz=>decide (L.count z % 2=1))=av (L.map t)
 | L,hL=>by
  unfold gn;have e:(zs.map λz=>t z && decide (L.count z % 2=1))=zs.map λz=>av (L.map λy=>t z && decide (z=y)):=At λz _=>by
   rw [FK];cases t z
   ·show false=av (L.map λ_=>false);rw [aG]
   ·rfl
  rw [e,ut λz y=>t z && decide (z=y)]
  congr 1
  refine At λy hy=>?_;have:=Pn (s:=t) hz<|hL y hy;rw [<- this];unfold gn
  congr 1
  refine At λz _=>?_;rw [Bool.and_comm]
theorem k0s{n:Net}(T:az n){e:End}(h:e∈ends n):other n (other n e)=e:=by
 obtain⟨z,hz⟩:=af.mp h;exact(fZ T hz).2.1
open Classical
section
variable{n:Net}{s:Str->Bool}{c:Nat->Bool}{χ:End->Bool}
end
theorem Pp{m a:Nat}(h:a < m)(f:Nat->Bool):av ((List.range m).map λi=>f i && decide (a=i))=f a:=by
 induction m with
 | zero=>omega
 | succ m ih=>
  rw [Er,Ak,pP];show(_ ^^ ((f m && decide (a=m)) ^^ false))=_;rw [Dw]
  by_cases c:a=m
  ·subst c;have:av ((List.range a).map λi=>f i && decide (a=i))=false:=by
    have e:((List.range a).map λi=>f i && decide (a=i))=(List.range a).map λ_=>false:=At λi hi=>by
     rw [BR (λq=>by have:=Br.mp hi;omega),Cq]
    rw [e,aG]
   rw [this,BW rfl,Eh,Cg]
  ·rw [ih (by omega),BR c,Cq,Dw]
end Nt
namespace Nt
open PySem L2 Dt
section
variable{n:Net}
def FL(n:Net)(c:Nat->Bool)(z:Str):Bool:=c (cw n z).1 ^^ c (cw n z).2
def fP(n:Net)(s:Str->Bool)(L:List Str)(j:Nat):Nat:=(L.map λw=>if s w=true then(row n j).count w else 0).sum
theorem FO(s:Str->Bool)(w:Str)(L:List Str)(j:Nat):fP n s (w :: L) j=(if s w=true then(row n j).count w else 0)+fP n s L j:=rfl
theorem FR(c:Nat->Bool)(a:Nat):∀{C:List Nat},C.Nodup->(C.map λx=>if c x=true then(if x=a then(1:Int) else 0) else 0).sum=if a∈C/\c a=true then 1 else 0
 | [],_=>rfl
 | x :: C,h=>by
  obtain⟨nx,hC⟩:=Bf.mp h;rw [Ap,Bz,FR c a hC]
  by_cases e:x=a
  ·subst e;have e:¬(x∈C/\c x=true):=λk=>nx k.1;rw [BL rfl,BK e]
   by_cases k:c x=true
   ·rw [BL k,BL ⟨Ad ..,k⟩];rfl
   ·rw [BK k,BK λq=>k q.2];rfl
  ·rw [BK e];have:(a∈x :: C/\c a=true)↔(a∈C/\c a=true):=by
    rw [Ah];exact⟨λq=>⟨q.1.resolve_left λz=>e z.symm,q.2⟩,λq=>⟨.inr q.1,q.2⟩⟩
   by_cases k:a∈C/\c a=true
   ·rw [BL k,BL<|this.mpr k]
    split <;> rfl
   ·rw [BK k,BK λq=>k<|this.mp q]
    split <;> rfl
theorem q6x{c:Nat->Bool}{C:List Nat}(hC:C.Nodup)(hc:∀ x,c x=true->x∈C)(e:Nat×Nat):(C.map λx=>if c x=true then ed e x else 0).sum=(if c e.1=true then 1 else 0) - (if c e.2=true then 1 else 0):=by
 have h1:=FR c e.1 hC;have h2:=FR c e.2 hC;have e1:(if e.1∈C/\c e.1=true then(1:Int) else 0)=if c e.1=true then 1 else 0:=by
  by_cases k:c e.1=true
  ·rw [BL k,BL ⟨hc _ k,k⟩]
  ·rw [BK k,BK λq=>k q.2]
 have e2:(if e.2∈C/\c e.2=true then(1:Int) else 0)=if c e.2=true then 1 else 0:=by
  by_cases k:c e.2=true
  ·rw [BL k,BL ⟨hc _ k,k⟩]
  ·rw [BK k,BK λq=>k q.2]
 rw [e1] at h1;rw [e2] at h2;rw [<- h1,<- h2];have:∀ l:List Nat,(l.map λx=>if c x=true then ed e x else 0).sum=(l.map λx=>if c x=true then(if x=e.1 then(1:Int) else 0) else 0).sum - (l.map λx=>if c x=true then(if x=e.2 then(1:Int) else 0) else 0).sum:=λl=>by
  induction l with
  | nil=>rfl
  | cons x l ih=>
   rw [Ap,Ap,Ap,Bz,Bz,Bz,ih];unfold ed
   by_cases k:c x=true
   ·rw [BL k,BL k,BL k];omega
   ·rw [BK k,BK k,BK k];omega
 exact this C
theorem Pq(e:Nat->Int)(W:List<|Nat->Int)(c:Nat->Bool)(j:Nat):∀ C:List Nat,sm (Lp<|e :: W) c C j=(C.map λx=>if c x=true then e x else 0).sum * e j+sm (Lp W) c C j
 | []=>by show(0:Int)=0 * e j+0;omega
 | x :: C=>by
  rw [FI,FI,Pq e W c j C,Ap,Bz,qf]
  by_cases k:c x=true
  ·rw [BL k,BL k,BL k];grind
  ·rw [BK k,BK k,BK k];grind
theorem q7n(T:az n){c:Nat->Bool}{C:List Nat}(hC:C.Nodup)(hc:∀ x,c x=true->x∈C)(j:Nat):∀{L:List Str},(∀ w∈L,w∈ag n)->sm (Lp<|(L.map<|cw n).map ed) c C j % 2=(fP n (FL n c) L j:Int) % 2
 | [],_=>by
  have:sm (Lp ([]:List<|Nat->Int)) c C j % 2=0:=Pk c λ_ _=>rfl;exact this
 | w :: L,h=>by
  have ih:=q7n T hC hc j (L:=L) λz hz=>h z<|Af _ hz;have hp:=FH T (h w<|Ad ..) j;rw [Ap,Ap,Pq,q6x hC hc,FO,hp];have e1:FL n c w=(c (cw n w).1 ^^ c (cw n w).2):=rfl;have e2:ed (cw n w) j=(if j=(cw n w).1 then 1 else 0) - (if j=(cw n w).2 then 1 else 0):=rfl;rw [e1,e2];clear e1 e2 hp;generalize fP n (FL n c) L j=x at *;generalize sm (Lp<|(L.map<|cw n).map ed) c C j=y at *;generalize (cw n w).1=a;generalize (cw n w).2=b;have ja:∀ x,(if j=x then(1:Int) else 0)=((if j=x then 1 else 0:Nat):Int):=λx=>by split <;> rfl
  rw [ja,ja];generalize (if j=a then 1 else 0:Nat)=u;generalize (if j=b then 1 else 0:Nat)=v;cases c a <;> cases c b <;> simp only [reduceIte,Bg,Gb,Dw,Cg,RK,Fc,Gf] <;> omega
theorem Pt(s:Str->Bool){ss:List Str}(hs:ss.Nodup):∀{l:List Str},(∀ y∈l,y∈ss)->(l.filter s).length=(ss.map λw=>if s w=true then l.count w else 0).sum
 | [],_=>by
  have:∀ L:List Str,(L.map λw=>if s w=true then([]:List Str).count w else 0).sum=0:=λL=>by
   induction L with
   | nil=>rfl
   | cons x L ih=>rw [Ap,Bz,ih];split <;> rfl
  rw [this];rfl
 | y :: l,h=>by
  have ih:=Pt s hs (l:=l) λz hz=>h z<|Af _ hz;have key:∀ L:List Str,L.Nodup->(L.map λw=>if s w=true then(y :: l).count w else 0).sum=(L.map λw=>if s w=true then l.count w else 0).sum+if y∈L/\s y=true then 1 else 0:=λL hL=>by
   induction L with
   | nil=>rfl
   | cons x L ihL=>
    obtain⟨nx,A8⟩:=Bf.mp hL;rw [Ap,Ap,Bz,Bz,ihL A8,Dg]
    by_cases e:y=x
    ·subst e;have e:¬(y∈L/\s y=true):=λk=>nx k.1;rw [BK e]
     by_cases k:s y=true
     ·rw [BL k,BL k,BL (show y∈y :: L/\s y=true from⟨Ad ..,k⟩),BL (show(y == y)=true by simp)];omega
     ·rw [BK k,BK k,BK λq=>k q.2];omega
    ·rw [BK (show ¬(y == x)=true by simpa using e)];have:(y∈x :: L/\s y=true)↔(y∈L/\s y=true):=by
      rw [Ah];exact⟨λq=>⟨q.1.resolve_left e,q.2⟩,λq=>⟨.inr q.1,q.2⟩⟩
     by_cases k:y∈L/\s y=true
     ·rw [BL k,BL<|this.mpr k];split <;> omega
     ·rw [BK k,BK λq=>k<|this.mp q];split <;> omega
  rw [key ss hs,<- ih,Ej]
  by_cases k:s y=true
  ·rw [BL k,BL ⟨h y<|Ad ..,k⟩];rfl
  ·rw [BK k,BK λq=>k q.2];rfl
theorem Pu(s:Str->Bool){ss:List Str}(hs:ss.Nodup)(hm:∀ z,z∈ss↔z∈ag n){j:Nat}(hj:j < n.length):av ((row n j).map s)=decide (fP n s ss j % 2=1):=by
 rw [LZ,Pt s hs λy hy=>(hm y).mpr<|FG hj hy];rfl
theorem Pw(T:az n)(s:Str->Bool):∀{L:List Str},(∀ w∈L,w∈ag n)->((List.range n.length).map λj=>fP n s L j).sum % 2=0
 | [],_=>by
  have:∀ l:List Nat,(l.map λj=>fP n s [] j).sum=0:=λl=>by
   induction l with
   | nil=>rfl
   | cons x l ih=>rw [Ap,Bz,ih];rfl
  rw [this]
 | w :: L,h=>by
  have ih:=Pw T s (L:=L) λz hz=>h z<|Af _ hz;have c2:=T w<|h w<|Ad ..;rw [q0y] at c2;have:∀ l:List Nat,(l.map λj=>fP n s (w :: L) j).sum=(if s w=true then(l.map λj=>(row n j).count w).sum else 0)+(l.map λj=>fP n s L j).sum:=λl=>by
   induction l with
   | nil=>show(0:Nat)=_;split <;> rfl
   | cons x l tM=>
    rw [Ap,Ap,Ap,Bz,Bz,Bz,tM,FO]
    split <;> omega
  rw [this,c2]
  split <;> omega
theorem q48(T:az n)(h0:0 < n.length)(s:Str->Bool){ss:List Str}(hs:ss.Nodup)(hm:∀ z,z∈ss↔z∈ag n)(h:∀ j∈(List.range<|n.length - 1).map (·+1),fP n s ss j % 2=0):bZ n s:=λr=>by
 have kG:=Pw T s λw hw=>(hm w).mp hw
 by_cases hr:r < n.length
 ·rw [Pu s hs hm hr];refine BR λk=>?_;have z0:fP n s ss 0 % 2=0:=by
   obtain⟨m,e⟩:∃ m,n.length=m+1:=⟨n.length - 1,by omega⟩;rw [e,Gh,Ap,Bz] at kG;have:(((List.range m).map Nat.succ).map λj=>fP n s ss j).sum % 2=0:=by
    have:∀ l:List Nat,(∀ j∈l,fP n s ss j % 2=0)->(l.map λj=>fP n s ss j).sum % 2=0:=λl hl=>by
     induction l with
     | nil=>rfl
     | cons x l ih=>
      rw [Ap,Bz];have:=hl x<|Ad ..;have:=ih λj hj=>hl j<|Af _ hj;omega
    refine this _ λj hj=>h j ?_;obtain⟨i,hi,rfl⟩:=An.mp hj;have:=Br.mp hi;exact a9.mpr<|by omega
   omega
  by_cases e:r=0
  ·rw [e,z0] at k;cases k
  ·rw [h r<|a9.mpr<|by omega] at k;cases k
 ·rw [xL<|by omega];rfl
end
end Nt
namespace Dt
open Nt (av iN)
open Classical
variable{τ:Type}
noncomputable def fQ(s:τ->Bool)(z:τ)(b:Bool):τ->Bool:=λy=>if y=z then b else s y
noncomputable def dw(z:τ):τ->Bool:=λy=>decide (y=z)
def del(z:τ)(R:(τ->Bool)->Prop):(τ->Bool)->Prop:=λs=>R<|fQ s z false
def con(z:τ)(R:(τ->Bool)->Prop):(τ->Bool)->Prop:=λs=>∃ b,R<|fQ s z b
noncomputable def t:List τ->((τ->Bool)->Prop)->Int
 | [],_=>1
 | z :: ss,R=>(if ∃ r,R r/\r z=true then t ss (del z R) else 0)+(if R (dw z) then 0 else t ss (con z R))
def dot(ss:List τ)(r s:τ->Bool):Bool:=av<|ss.map λz=>r z && s z
theorem uv(z:τ)(ss:List τ)(r s:τ->Bool):dot (z :: ss) r s=((r z && s z) ^^ dot ss r s):=rfl
theorem xM(ss:List τ)(r s:τ->Bool):dot ss r s=dot ss s r:=by
 unfold dot
 congr 1
 exact At λz _=>Bool.and_comm ..
theorem uw{ss:List τ}{r r' s s':τ->Bool}(h:∀ y∈ss,r y=r' y)(g:∀ y∈ss,s y=s' y):dot ss r s=dot ss r' s':=by
 unfold dot
 congr 1
 exact At λz hz=>by rw [h z hz,g z hz]
theorem q0t(ss:List τ)(r r' s:τ->Bool):dot ss (λy=>r y ^^ r' y) s=(dot ss r s ^^ dot ss r' s):=by
 unfold dot;rw [<- iN]
 congr 1
 refine At λz _=>?_;show((r z ^^ r' z) && s z)=((r z && s z) ^^ (r' z && s z));cases r z <;> cases r' z <;> cases s z <;> rfl
theorem FU{s:τ->Bool}{z y:τ}{b:Bool}(h:y≠z):fQ s z b y=s y:=BK h
theorem oQ(s:τ->Bool)(z:τ)(b:Bool):fQ s z b z=b:=BL rfl
theorem oR{s:τ->Bool}{z:τ}{b:Bool}{ss:List τ}(h:z∉ss):∀ y∈ss,fQ s z b y=s y:=λy hy=>FU λe=>h<|e ▸ hy
theorem xN{s:τ->Bool}{z:τ}{b:Bool}(h:s z=b):fQ s z b=s:=by
 funext y
 unfold fQ
 by_cases e:y=z
 ·rw [BL e,e,h]
 ·rw [BK e]
structure DP(ss:List τ)(R S:(τ->Bool)->Prop):Prop where
 uz:∀ r r',(∀ y∈ss,r y=r' y)->R r->R r'
 uA:∀ r r',(∀ y∈ss,r y=r' y)->S r->S r'
 xr:∀ r r',R r->R r'->R (λy=>r y ^^ r' y)
 xs:∀ r r',S r->S r'->S (λy=>r y ^^ r' y)
 FV:∀ r s,R r->S s->dot ss r s=false
 mz:∀ v,(∀ s,S s->dot ss v s=false)->R v
 gW:∀ v,(∀ r,R r->dot ss r v=false)->S v
theorem DP.symm{ss:List τ}{R S:(τ->Bool)->Prop}(h:DP ss R S):DP ss S R:=
 ⟨h.uA,h.uz,h.xs,h.xr,λr s hr hs=>by rw [xM];exact h.FV s r hs hr,λv hv=>h.gW v λr hr=>by rw [xM];exact hv r hr,λv hv=>h.mz v λs hs=>by rw [xM];exact hv s hs⟩
theorem Px(r r':τ->Bool)(z:τ)(b c:Bool):(λy=>fQ r z b y ^^ fQ r' z c y)=fQ (λy=>r y ^^ r' y) z (b ^^ c):=by
 funext y
 unfold fQ
 by_cases e:y=z
 ·rw [BL e,BL e,BL e]
 ·rw [BK e,BK e,BK e]
theorem DP.step{z:τ}{ss:List τ}{R S:(τ->Bool)->Prop}(hz:z∉ss)(h:DP (z :: ss) R S):DP ss (del z R) (con z S):=by
 have ext:∀{r r':τ->Bool} (b:Bool),(∀ y∈ss,r y=r' y)->∀ y∈z :: ss,fQ r z b y=fQ r' z b y:=λ{r r'} b q y hy=>by
  by_cases e:y=z
  ·rw [e,oQ,oQ]
  ·rw [FU e,FU e];exact q y<|(Ah.mp hy).resolve_left e
 refine⟨λr r' q k=>h.uz _ _ (ext false q) k,λr r' q ⟨b,k⟩=>⟨b,h.uA _ _ (ext b q) k⟩,λr r' k k'=>?_,λr r' ⟨b,k⟩ ⟨c,k'⟩=>⟨b ^^ c,?_⟩,λr s k ⟨b,k'⟩=>?_,λv q=>?_,λv q=>?_⟩
 ·have:=h.xr _ _ k k';rw [Px] at this;exact this
 ·have:=h.xs _ _ k k';rw [Px] at this;exact this
 ·have:=h.FV _ _ k k';rw [uv,oQ,Do,Cg,uw (oR hz)<|oR hz] at this;exact this
 ·refine h.mz _ λs hs=>?_;rw [uv,oQ,Do,Cg,uw (oR hz) λ_ _=>rfl];exact q s ⟨s z,by rw [xN rfl];exact hs⟩
 ·by_cases k:∃ r0,R r0/\r0 z=true
  ·obtain⟨r0,h0,z0⟩:=k;refine⟨dot ss r0 v,h.gW _ λr hr=>?_⟩;rw [uv,oQ,uw (r':=r) (λ_ _=>rfl)<|oR hz];cases uB:r z with
   | false=>
    rw [Do,Cg];refine q r ?_;show R (fQ r z false);rw [xN uB];exact hr
   | true=>
    have:=q (λy=>r y ^^ r0 y)<|by
     show R (fQ _ z false);rw [xN<|by rw [uB,z0];rfl];exact h.xr _ _ hr h0
    rw [q0t] at this;rw [Ga];cases h1:dot ss r v <;> cases h2:dot ss r0 v <;> rw [h1,h2] at this <;> first | rfl | cases this
  ·refine⟨false,h.gW _ λr hr=>?_⟩;have uB:r z=false:=by
    cases e:r z with
    | false=>rfl
    | true=>exact absurd ⟨r,hr,e⟩ k
   rw [uv,uB,Do,Cg,uw (r':=r) (λ_ _=>rfl)<|oR hz];refine q r ?_;show R (fQ r z false);rw [xN uB];exact hr
theorem Py{z:τ}{ss:List τ}(hz:z∉ss)(r:τ->Bool):dot (z :: ss) r (dw z)=r z:=by
 rw [uv];have e:dw z z=true:=BW rfl;have:dot ss r (dw z)=false:=by
  rw [uw (s:=dw z) (s':=λ_=>false) (r':=r) (λ_ _=>rfl) λy hy=>BR λe:y=z=>hz<|e ▸ hy];unfold dot;have:(λy=>r y && false)=λ_=>false:=by funext y;exact Cq _
  rw [this];exact Nt.aG _
 rw [e,this,Eh,Dw]
theorem DP.nb{z:τ}{ss:List τ}{R S:(τ->Bool)->Prop}(hz:z∉ss)(h:DP (z :: ss) R S):(∃ r,R r/\r z=true)↔¬ S (dw z):=by
 constructor
 ·rintro ⟨r,hr,rz⟩ hs;have:=h.FV r _ hr hs;rw [Py hz,rz] at this;cases this
 ·intro k;refine BX λq=>k<|h.gW _ λr hr=>?_;rw [Py hz];cases e:r z with
  | false=>rfl
  | true=>exact absurd ⟨r,hr,e⟩ q
theorem FX:∀(ss:List τ),ss.Nodup->∀ R S,DP ss R S->t ss R=t ss S
 | [],_,_,_,_=>rfl
 | z :: ss,hn,R,S,h=>by
  obtain⟨hz,hs⟩:=Bf.mp hn;have e1:=FX ss hs _ _<|h.step hz;have e2:=FX ss hs _ _<|h.symm.step hz;have n1:=h.nb hz;have n2:=h.symm.nb hz;unfold t;rw [e1,e2]
  by_cases a:S (dw z) <;> by_cases b:R<|dw z
  ·rw [BK λk=>n1.mp k a,BL b,BK λk=>n2.mp k b,BL a]
  ·rw [BK λk=>n1.mp k a,BK b,BL<|n2.mpr b,BL a,RP]
  ·rw [BL<|n1.mpr a,BL b,BK λk=>n2.mp k b,BK a,RP]
  ·rw [BL<|n1.mpr a,BK b,BL<|n2.mpr b,BK a,RP]
open Nt (av iN ut aG)
open Classical
variable{τ κ:Type} [DecidableEq κ]
noncomputable def inc(e:κ×κ)(x:κ):Bool:=decide (x=e.1) ^^ decide (x=e.2)
noncomputable def cO(ss:List τ)(f:τ->κ×κ)(s:τ->Bool)(x:κ):Bool:=av<|ss.map λw=>s w && inc (f w) x
def iB(ss:List τ)(C:List κ)(f:τ->κ×κ)(s:τ->Bool):Prop:=∀ x∈C,cO ss f s x=false
theorem uC(z:τ)(ss:List τ)(f:τ->κ×κ)(s:τ->Bool)(x:κ):cO (z :: ss) f s x=((s z && inc (f z) x) ^^ cO ss f s x):=rfl
theorem Pz{ss:List τ}{f:τ->κ×κ}{s s':τ->Bool}(h:∀ y∈ss,s y=s' y)(x:κ):cO ss f s x=cO ss f s' x:=by
 unfold cO
 congr 1
 exact At λw hw=>by rw [h w hw]
theorem FY(ss:List τ)(f:τ->κ×κ)(s s':τ->Bool)(x:κ):cO ss f (λy=>s y ^^ s' y) x=(cO ss f s x ^^ cO ss f s' x):=by
 unfold cO;rw [<- iN]
 congr 1
 refine At λw _=>?_;show((s w ^^ s' w) && inc (f w) x)=((s w && inc (f w) x) ^^ (s' w && inc (f w) x));cases s w <;> cases s' w <;> cases inc (f w) x <;> rfl
theorem k8b(ss:List τ)(f:τ->κ×κ)(x:κ):cO ss f (λ_=>false) x=false:=by
 unfold cO;have:(λw=>false && inc (f w) x)=λ_:τ=>false:=by funext w;rfl
 rw [this];exact aG _
theorem xO{f:τ->κ×κ}{w:τ}(x:κ):∀{ss:List τ},ss.Nodup->cO ss f (dw w) x=if w∈ss then inc (f w) x else false
 | [],_=>rfl
 | y :: ss,h=>by
  obtain⟨ny,hs⟩:=Bf.mp h;rw [uC,xO x hs]
  by_cases e:y=w
  ·subst e;rw [BK ny,BL<|Ad ..,show dw y y=true from BW rfl,Ga,Dw]
  ·rw [show dw w y=false from BR e,Do,Cg]
   by_cases k:w∈ss
   ·rw [BL k,BL<|Af _ k]
   ·rw [BK k,BK λq=>k<|(Ah.mp q).resolve_left λz=>e z.symm]
theorem PD{ss:List τ}(hn:ss.Nodup){C:List κ}{f:τ->κ×κ}{x:κ}(h:bH C (ss.map f) x):∃ s:τ->Bool,(∀ y,y∉ss->s y=false)/\∀ y∈C,cO ss f s y=decide (y=x):=by
 induction h with
 | @out x h=>exact⟨λ_=>false,λ_ _=>rfl,λy hy=>by rw [k8b,BR λe:y=x=>h<|e ▸ hy]⟩
 | @on x v e _ ih=>
  obtain⟨s,hs,hp⟩:=ih;have:∃ w∈ss,f w=(x,v)\/f w=(v,x):=by
   rcases e with e | e
   ·obtain⟨w,hw,q⟩:=An.mp e;exact⟨w,hw,.inl q⟩
   ·obtain⟨w,hw,q⟩:=An.mp e;exact⟨w,hw,.inr q⟩
  obtain⟨w,hw,q⟩:=this;refine⟨λy=>s y ^^ dw w y,λy hy=>?_,λy hy=>?_⟩
  ·show(s y ^^ dw w y)=false;rw [hs y hy,show dw w y=false from BR λe:y=w=>hy<|e ▸ hw];rfl
  ·rw [FY,hp y hy,xO y hn,BL hw];unfold inc
   rcases q with q | q <;> rw [q] <;> cases decide (y=x) <;> cases decide (y=v) <;> rfl
theorem stuck{C:List κ}{E:List (κ×κ)}{e:κ×κ}(he:e∈E):(e.1∈C/\¬ bH C E e.1)↔(e.2∈C/\¬ bH C E e.2):=by
 constructor
 ·rintro ⟨h1,h2⟩;have k:¬ bH C E e.2:=λq=>h2<|.on (.inl he) q;exact⟨BX λq=>k<|.out q,k⟩
 ·rintro ⟨h1,h2⟩;have k:¬ bH C E e.1:=λq=>h2<|.on (.inr he) q;exact⟨BX λq=>k<|.out q,k⟩
theorem PF(e:κ×κ):∀{A:List κ},A.Nodup->av (A.map λx=>inc e x)=(decide (e.1∈A) ^^ decide (e.2∈A))
 | [],_=>by rw [BR Bm,BR Bm];rfl
 | a :: A,h=>by
  obtain⟨na,hA⟩:=Bf.mp h;show(inc e a ^^ av (A.map λx=>inc e x))=_;rw [PF e hA];unfold inc;have q:∀ y,decide (y∈a :: A)=(decide (a=y) ^^ decide (y∈A)):=λy=>by
   by_cases k:a=y
   ·subst k;rw [BW<|Ad ..,BW rfl,BR na];rfl
   ·rw [BR k,Cg];exact decide_eq_decide.mpr ⟨λz=>(Ah.mp z).resolve_left λe=>k e.symm,Af _⟩
  rw [q,q];cases decide (a=e.1) <;> cases decide (a=e.2) <;> cases decide (e.1∈A) <;> cases decide (e.2∈A) <;> rfl
theorem q7b{z:τ}{ss:List τ}{C:List κ}(hC:C.Nodup){f:τ->κ×κ}{r:τ->Bool}(hr:iB (z :: ss) C f r)(rz:r z=true)(h:∀ x∈C,bH C ((z :: ss).map f) x):∀ x∈C,bH C (ss.map f) x:=λx hx=>by
 refine BX λk=>?_;have mA:∀ y,y∈C.filter (λy=>decide (¬ bH C (ss.map f) y))↔y∈C/\¬ bH C (ss.map f) y:=λy=>by rw [Ds,DQ]
 have nA:(C.filter λy=>decide (¬ bH C (ss.map f) y)).Nodup:=hC.filter _;generalize C.filter (λy=>decide (¬ bH C (ss.map f) y))=A at mA nA;have cl:∀ w∈ss,(decide ((f w).1∈A) ^^ decide ((f w).2∈A))=false:=λw hw=>by
  have q:=stuck (C:=C) (E:=ss.map f) (e:=f w)<|An.mpr ⟨w,hw,rfl⟩;rw [show decide ((f w).1∈A)=decide ((f w).2∈A) from decide_eq_decide.mpr<|(mA _).trans<|q.trans (mA _).symm];exact Gb _
 have kG:av (A.map λy=>cO (z :: ss) f r y)=false:=by
  have:A.map (λy=>cO (z :: ss) f r y)=A.map λ_=>false:=At λy hy=>hr y ((mA y).mp hy).1;rw [this];exact aG _
 have e1:av (A.map λy=>cO (z :: ss) f r y)=av ((z :: ss).map λw=>r w && (decide ((f w).1∈A) ^^ decide ((f w).2∈A))):=by
  show av (A.map λy=>av<|(z :: ss).map λw=>r w && inc (f w) y)=_;rw [ut]
  congr 1
  refine At λw _=>?_;rw [<- PF (f w) nA];cases r w
  ·have:(λy=>false && inc (f w) y)=λ_:κ=>false:=by funext y;rfl
   rw [this,aG];rfl
  ·rfl
 rw [e1] at kG;have e2:av (ss.map λw=>r w && (decide ((f w).1∈A) ^^ decide ((f w).2∈A)))=false:=by
  have:ss.map (λw=>r w && (decide ((f w).1∈A) ^^ decide ((f w).2∈A)))=ss.map λ_=>false:=At λw hw=>by rw [cl w hw,Cq]
  rw [this];exact aG _
 have kG:((r z && (decide ((f z).1∈A) ^^ decide ((f z).2∈A))) ^^ av (ss.map λw=>r w && (decide ((f w).1∈A) ^^ decide ((f w).2∈A))))=false:=kG;rw [e2,rz,Ga,Dw] at kG;have e9:∀{y:κ},bH C ((z :: ss).map f) y->y∉A:=by
  intro y hy
  induction hy with
  | out h=>exact λq=>h ((mA _).mp q).1
  | @on u v e _ ih=>
   intro q;have same:∀ w∈z :: ss,((f w).1∈A↔(f w).2∈A):=λw hw=>by
    have c:(decide ((f w).1∈A) ^^ decide ((f w).2∈A))=false:=by
     rcases Ah.mp hw with e | hw
     ·rw [e];exact kG
     ·exact cl w hw
    by_cases a:(f w).1∈A <;> by_cases b:(f w).2∈A
    ·exact⟨λ_=>b,λ_=>a⟩
    ·rw [BW a,BR b] at c;cases c
    ·rw [BR a,BW b] at c;cases c
    ·exact⟨λz=>absurd z a,λz=>absurd z b⟩
   rcases e with e | e
   ·obtain⟨w,hw,qe⟩:=An.mp e;have:=same w hw;rw [qe] at this;exact ih<|this.mp q
   ·obtain⟨w,hw,qe⟩:=An.mp e;have:=same w hw;rw [qe] at this;exact ih<|this.mpr q
 exact e9 (h x hx)<|(mA x).mpr ⟨hx,k⟩
theorem PH{C:List κ}(hC:C.Nodup){p q:κ}(hq:q∉C){e:κ×κ}(he:e=(p,q)\/e=(q,p)){E:List (κ×κ)}{x:κ}(h:bH C (e :: E) x):bH (C.erase p) E x:=by
 induction h with
 | out h=>exact .out λk=>h<|Cv k
 | @on u v k _ ih=>
  by_cases hu:u∈C.erase p
  ·have kK:=(hC.mem_erase_iff).mp hu;have ud:u≠q:=λz=>hq<|z ▸ kK.2;refine .on ?_ ih
   rcases k with k | k
   ·refine .inl<|(Ah.mp k).resolve_left λz=>?_
    rcases he with r | r <;> rw [r] at z <;> cases z
    ·exact kK.1 rfl
    ·exact ud rfl
   ·refine .inr<|(Ah.mp k).resolve_left λz=>?_
    rcases he with r | r <;> rw [r] at z <;> cases z
    ·exact ud rfl
    ·exact kK.1 rfl
  ·exact .out hu
theorem q8s{C:List κ}(hC:C.Nodup){p q:κ}(hq:q∈C)(cN:p≠q){E:List (κ×κ)}{x:κ}(h:bH C ((p,q) :: E) x):bH (C.erase q) (E.map<|rl q p) (if x=q then p else x):=by
 induction h with
 | @out x h=>
  rw [BK λe:x=q=>h<|e ▸ hq];exact .out λk=>h<|Cv k
 | @on u v k _ ih=>
  rcases k with k | k
  ·rcases Ah.mp k with e | k
   ·cases e;rw [BK cN];rw [BL rfl] at ih;exact ih
   ·exact .on (.inl<|An.mpr ⟨_,k,rfl⟩) ih
  ·rcases Ah.mp k with e | k
   ·cases e;rw [BL rfl];rw [BK cN] at ih;exact ih
   ·exact .on (.inr<|An.mpr ⟨_,k,rfl⟩) ih
theorem PQ{p q:κ}(cN:p≠q)(e:κ×κ){x:κ}(hx:x≠q):inc (rl q p e) x=if x=p then inc e p ^^ inc e q else inc e x:=by
 obtain⟨a,b⟩:=e;have one:∀ y,decide (x=if y=q then p else y)=if x=p then decide (p=y) ^^ decide (q=y) else decide (x=y):=λy=>by
  by_cases h1:y=q
  ·subst h1;rw [BL rfl]
   by_cases h2:x=p
   ·rw [BL h2,BW h2,BR cN,BW rfl];rfl
   ·rw [BK h2,BR h2,BR hx]
  ·rw [BK h1]
   by_cases h2:x=p
   ·subst h2;rw [BL rfl,BR λe:q=y=>h1 e.symm,Dw]
   ·rw [BK h2]
 show(decide (x=if a=q then p else a) ^^ decide (x=if b=q then p else b))=_;rw [one a,one b]
 by_cases h2:x=p
 ·rw [BL h2,BL h2,BL h2];show _=((decide (p=a) ^^ decide (p=b)) ^^ (decide (q=a) ^^ decide (q=b)));cases decide (p=a) <;> cases decide (p=b) <;> cases decide (q=a) <;> cases decide (q=b) <;> rfl
 ·rw [BK h2,BK h2,BK h2];rfl
theorem F0{ss:List τ}{f:τ->κ×κ}{p q:κ}(cN:p≠q)(s:τ->Bool){x:κ}(hx:x≠q):cO ss (λw=>rl q p<|f w) s x=if x=p then cO ss f s p ^^ cO ss f s q else cO ss f s x:=by
 unfold cO
 by_cases h:x=p
 ·rw [BL h,<- iN]
  congr 1
  refine At λw _=>?_;rw [PQ cN _ hx,BL h];cases s w <;> cases inc (f w) p <;> cases inc (f w) q <;> rfl
 ·rw [BK h]
  congr 1
  refine At λw _=>?_;rw [PQ cN _ hx,BK h]
theorem jw:∀(ss:List τ),ss.Nodup->∀(C:List κ) (f:τ->κ×κ),C.Nodup->(∀ x∈C,bH C (ss.map f) x)->De C (ss.map f)=t ss (iB ss C f)
 | [],_,C,f,_,h=>by
  cases C with
  | nil=>rfl
  | cons a C=>
   exfalso
   obtain⟨p,q,e,_⟩:=(h a<|Ad ..).cross<|Ad ..
   rcases e with e | e <;> cases e
 | z :: ss,hn,C,f,hC,h=>by
  obtain⟨hz,hs⟩:=Bf.mp hn;have st:=uc hC (f z).1 (f z).2<|ss.map f;have st:De C ((z :: ss).map f)=De C (ss.map f)+mg C (f z).1 (f z).2 (ss.map f):=st;have tt:t (z :: ss) (iB (z :: ss) C f)=(if ∃ r,iB (z :: ss) C f r/\r z=true then t ss (del z<|iB (z :: ss) C f) else 0)+(if iB (z :: ss) C f (dw z) then 0 else t ss (con z<|iB (z :: ss) C f)):=rfl;have hd:del z (iB (z :: ss) C f)=iB ss C f:=by
   funext s
   refine propext<|GR λx=>GR λ_=>?_;rw [uC,oQ,Do,Cg,Pz<|oR hz]
  rw [st,tt,hd]
  congr 1
  ·by_cases nb:∃ r,iB (z :: ss) C f r/\r z=true
   ·rw [BL nb];obtain⟨r,hr,rz⟩:=nb;exact jw ss hs C f hC<|q7b hC hr rz h
   ·rw [BK nb]
    by_cases all:∀ x∈C,bH C (ss.map f) x
    ·exfalso
     have any:∀ x,bH C (ss.map f) x:=λx=>by
      by_cases k:x∈C
      ·exact all x k
      ·exact .out k
     obtain⟨s1,o1,h1⟩:=PD hs<|any (f z).1;obtain⟨s2,o2,h2⟩:=PD hs<|any (f z).2;refine nb ⟨λy=>(s1 y ^^ s2 y) ^^ dw z y,λx hx=>?_,?_⟩
     ·rw [uC,FY ss f (λy=>s1 y ^^ s2 y)<|dw z,FY,h1 x hx,h2 x hx,xO x hs,BK hz];show((((s1 z ^^ s2 z) ^^ dw z z) && inc (f z) x) ^^ ((decide (x=(f z).1) ^^ decide (x=(f z).2)) ^^ false))=false;rw [o1 z hz,o2 z hz,show dw z z=true from BW rfl];unfold inc;cases decide (x=(f z).1) <;> cases decide (x=(f z).2) <;> rfl
     ·show((s1 z ^^ s2 z) ^^ dw z z)=true;rw [o1 z hz,o2 z hz,show dw z z=true from BW rfl];rfl
    ·have:∃ x,x∈C/\¬ bH C (ss.map f) x:=BX λk=>all λx hx=>BX λq=>k ⟨x,hx,q⟩;exact ur _ _ rfl C hC (λx=>x∈C/\¬ bH C (ss.map f) x) this (λx hx=>hx.1) λe he=>stuck he
  ·have sg:iB (z :: ss) C f (dw z)↔∀ x∈C,inc (f z) x=false:=by
    refine GR λx=>GR λ_=>?_;rw [xO x hn,BL<|Ad ..]
   have F1:∀ s,con z (iB (z :: ss) C f) s↔∃ b,∀ x∈C,((b && inc (f z) x) ^^ cO ss f s x)=false:=λs=>by
    refine exists_congr λb=>GR λx=>GR λ_=>?_;rw [uC,oQ,Pz<|oR hz]
   have hh:∀ x∈C,bH C (f z :: ss.map f) x:=h;generalize hfz:f z=e at *;obtain⟨p,q⟩:=e;have ip:∀ x,inc (p,q) x=(decide (x=p) ^^ decide (x=q)):=λx=>rfl;show mg C p q (ss.map f)=_;unfold mg
   by_cases idle:p=q\/(p∉C/\q∉C)
   ·rw [BL idle,BL];refine sg.mpr λx hx=>?_;rw [ip]
    rcases idle with e | ⟨a,b⟩
    ·rw [e,Gb]
    ·rw [BR λe:x=p=>a<|e ▸ hx,BR λe:x=q=>b<|e ▸ hx];rfl
   have cN:p≠q:=λz=>idle<|.inl z;have uD:inc (p,q) p=true:=by rw [ip,BW rfl,BR cN];rfl
   have uE:inc (p,q) q=true:=by rw [ip,BW rfl,BR<|Ne.symm cN];rfl
   have ql:∀ x,x≠p->x≠q->inc (p,q) x=false:=λx h1 h2=>by rw [ip,BR h1,BR h2];rfl
   have nsg:¬ iB (z :: ss) C f (dw z):=λk=>by
    have k:=sg.mp k
    by_cases hp:p∈C
    ·rw [k p hp] at uD;cases uD
    ·by_cases hq:q∈C
     ·rw [k q hq] at uE;cases uE
     ·exact idle<|.inr ⟨hp,hq⟩
   rw [BK idle,BK nsg]
   by_cases hq:q∉C
   ·rw [BL hq];have hp:p∈C:=BX λk=>idle<|.inr ⟨k,hq⟩;rw [jw ss hs (C.erase p) f (hC.erase p) λx hx=>PH hC hq (.inl rfl)<|hh x<|Cv hx]
    congr 1
    funext s
    refine propext<|Iff.trans ?_ (F1 s).symm
    constructor
    ·intro k;refine⟨cO ss f s p,λx hx=>?_⟩
     by_cases e:x=p
     ·rw [e,uD,Eh,Gb]
     ·rw [ql x e λe'=>hq<|e' ▸ hx,Cq,Cg];exact k x<|(hC.mem_erase_iff).mpr ⟨e,hx⟩
    ·rintro ⟨b,k⟩ x hx;obtain⟨h1,h2⟩:=(hC.mem_erase_iff).mp hx;have:=k x h2;rw [ql x h1 λe'=>hq<|e' ▸ h2,Cq,Cg] at this;exact this
   rw [BK hq];have hq:q∈C:=BX hq
   by_cases hp:p∉C
   ·rw [BL hp];rw [jw ss hs (C.erase q) f (hC.erase q) λx hx=>PH hC hp (.inr rfl)<|hh x<|Cv hx]
    congr 1
    funext s
    refine propext<|Iff.trans ?_ (F1 s).symm
    constructor
    ·intro k;refine⟨cO ss f s q,λx hx=>?_⟩
     by_cases e:x=q
     ·rw [e,uE,Eh,Gb]
     ·rw [ql x (λe'=>hp<|e' ▸ hx) e,Cq,Cg];exact k x<|(hC.mem_erase_iff).mpr ⟨e,hx⟩
    ·rintro ⟨b,k⟩ x hx;obtain⟨h1,h2⟩:=(hC.mem_erase_iff).mp hx;have:=k x h2;rw [ql x (λe'=>hp<|e' ▸ h2) h1,Cq,Cg] at this;exact this
   rw [BK hp];have hp:p∈C:=BX hp;have em:(ss.map f).map (rl q p)=ss.map λw=>rl q p (f w):=by rw [Bj];rfl
   rw [em,jw ss hs (C.erase q) (λw=>rl q p<|f w) (hC.erase q) λx hx=>?_]
   ·congr 1
    funext s
    refine propext<|Iff.trans ?_ (F1 s).symm
    constructor
    ·intro k;have kp:=k p<|(hC.mem_erase_iff).mpr ⟨cN,hp⟩;rw [F0 cN s cN,BL rfl] at kp;refine⟨cO ss f s p,λx hx=>?_⟩
     by_cases e:x=p
     ·rw [e,uD,Eh,Gb]
     ·by_cases e':x=q
      ·rw [e',uE,Eh];exact kp
      ·rw [ql x e e',Cq,Cg];have:=k x<|(hC.mem_erase_iff).mpr ⟨e',hx⟩;rw [F0 cN s e',BK e] at this;exact this
    ·rintro ⟨b,k⟩ x hx;obtain⟨h1,h2⟩:=(hC.mem_erase_iff).mp hx;rw [F0 cN s h1]
     by_cases e:x=p
     ·rw [BL e];have k1:=k p hp;have k2:=k q hq;rw [uD,Eh] at k1;rw [uE,Eh] at k2;cases b <;> cases a1:cO ss f s p <;> cases a2:cO ss f s q <;> rw [a1] at k1 <;> rw [a2] at k2 <;> first | rfl | exact absurd k1 (by decide) | exact absurd k2<|by decide
     ·rw [BK e];have:=k x h2;rw [ql x e h1,Cq,Cg] at this;exact this
   ·rw [<- em];have:=q8s hC hq cN<|hh x<|Cv hx;rw [BK ((hC.mem_erase_iff).mp hx).1] at this;exact this
end Dt
namespace Nt
open PySem L2 Classical
theorem k9o{α:Type}{L:List (List α)}(h:L.flatten.Nodup){i j k l:Nat}{w v:List α}{e:α}(hi:L[i]?=some w)(hk:w[k]?=some e)(hj:L[j]?=some v)(hl:v[l]?=some e):i=j/\k=l:=by
 rw [Cd,List.pairwise_flatten] at h;obtain⟨h1,h2⟩:=h;have li:=(Ac.mp hi);have lj:=(Ac.mp hj);have ij:i=j:=by
  rcases Fq i j with c | c | c
  ·exact absurd rfl ((Bd.mp h2) i j li.1 lj.1 c e (by rw [li.2];exact Al hk) e<|by rw [lj.2];exact Al hl)
  ·exact c
  ·exact absurd rfl ((Bd.mp h2) j i lj.1 li.1 c e (by rw [lj.2];exact Al hl) e<|by rw [li.2];exact Al hk)
 subst ij;rw [hi] at hj;cases hj;refine⟨rfl,?_⟩;have p:=h1 w<|Al hi;have lk:=(Ac.mp hk);have ll:=(Ac.mp hl)
 rcases Fq k l with c | c | c
 ·exact absurd (lk.2.trans ll.2.symm)<|(Bd.mp p) k l lk.1 ll.1 c
 ·exact c
 ·exact absurd (ll.2.trans lk.2.symm)<|(Bd.mp p) l k ll.1 lk.1 c
noncomputable def pf(n:Net)(x:End):End:=(((bq n)[x.1]?.getD [])[x.2]?).getD (0,0)
theorem xP(n:Net)(f:Nat):row (aE n) f=((bq n)[f]?.getD []).map (cC n):=by
 unfold row aE;cases h:(bq n)[f]? with
 | some w=>rw [q0x h];rfl
 | none=>
  have:(cV n<|bq n)[f]?=none:=by rw [List.getElem?_eq_none_iff] at h ⊢;rw [xk];exact h
  rw [this];rfl
theorem qm{n:Net}{x:End}(h:x∈ends (aE n)):∃ w,(bq n)[x.1]?=some w/\w[x.2]?=some (pf n x):=by
 obtain⟨z,hz⟩:=af.mp h;unfold aN at hz;rw [xP] at hz;cases hw:(bq n)[x.1]? with
 | none=>rw [hw] at hz;simp at hz
 | some w=>
  rw [hw] at hz;have:x.2 < w.length:=by have:=(Ac.mp hz).1;simpa using this
  refine⟨w,rfl,?_⟩;unfold pf;rw [hw];show w[x.2]?=some ((w[x.2]?).getD (0,0));rw [Ab this];rfl
theorem xQ{n:Net}{i k:Nat}{w:List End}{e:End}(hi:(bq n)[i]?=some w)(hk:w[k]?=some e):(i,k)∈ends (aE n)/\pf n (i,k)=e:=by
 constructor
 ·refine af.mpr ⟨cC n e,?_⟩;unfold aN;rw [xP];show(((bq n)[i]?.getD []).map<|cC n)[k]?=_;rw [hi,Gn,Ae,hk];rfl
 ·unfold pf;show(((bq n)[i]?.getD [])[k]?).getD (0,0)=e;rw [hi,Gn,hk];rfl
section
variable{n:Net}
theorem uF(T:az n){x:End}(h:x∈ends (aE n)):pf n x∈ends n:=by
 obtain⟨w,h1,h2⟩:=qm h;exact(La T w<|Al h1).2 _<|Al h2
theorem uG(T:az n){x:End}(h:x∈ends (aE n)):aN (aE n) x=aN n (pf n x):=by
 obtain⟨w,h1,h2⟩:=qm h;obtain⟨z,hz⟩:=af.mp<|uF T h;rw [hz];unfold aN;rw [xP,h1,Gn,Ae,h2];show some (cC n<|pf n x)=some z;rw [wm hz]
theorem PR{x:End}(h:x∈ends (aE n)):ends n≠[]:=λk=>by
 obtain⟨w,h1,h2⟩:=qm h;have:bq n=[[]]:=by unfold bq;rw [BL k]
 rw [this] at h1;have:w=[]:=by simpa using Al h1
 subst this;simp at h2
theorem F3(T:az n){x y:End}(hx:x∈ends (aE n))(hy:y∈ends (aE n))(h:pf n x=pf n y):x=y:=by
 obtain⟨w,h1,h2⟩:=qm hx;obtain⟨v,h3,h4⟩:=qm hy;rw [<- h] at h4;obtain⟨a,b⟩:=k9o (BA T<|PR hx).nd h1 h2 h3 h4;exact DY a b
theorem xR(T:az n){e:End}(h:e∈ends n):∃ x∈ends (aE n),pf n x=e:=by
 have h0:ends n≠[]:=λk=>by rw [k] at h;cases h
 have hm:=(Lz T h0).all.mem_iff.mpr h;obtain⟨w,hw,he⟩:=Dm.mp hm;obtain⟨i,hi⟩:=Av hw;obtain⟨k,hk⟩:=Av he;exact⟨(i,k),xQ hi hk⟩
theorem PU(n:Net):∀(ws:List<|List End) (k:Nat),ag ((ws.zipIdx k).map λx=>(gR x.2,x.1.map<|cC n))=ws.flatten.map (cC n)
 | [],_=>rfl
 | w :: ws,k=>by
  rw [List.zipIdx_cons,Ap];show w.map (cC n)++ag ((ws.zipIdx<|k+1).map λx=>(gR x.2,x.1.map<|cC n))=_;rw [PU n ws<|k+1,Cr,Ak]
theorem PV(n:Net):(ends n).map (cC n)=ag n:=by
 unfold ends;rw [Bj,<- iK n 0];refine At λp hp=>?_;obtain⟨z,e⟩:=p;exact wm<|aO.mp hp
theorem uH(T:az n):(ag<|aE n).Perm (ag n):=by
 have e:ag (aE n)=(bq n).flatten.map (cC n):=PU n (bq n) 0;rw [e]
 by_cases h:ends n=[]
 ·have:bq n=[[]]:=by unfold bq;rw [BL h]
  rw [this,<- PV n,h];exact List.Perm.refl _
 ·rw [<- PV n];exact(Lz T h).all.map _
theorem jx(T:az n):az (aE n):=λz hz=>by
 have p:=uH T;rw [p.count_eq];exact T z<|p.mem_iff.mp hz
theorem F4(T:az n){x:End}(h:x∈ends (aE n)):pf n (left (aE n) x)=step n (pf n x):=by
 obtain⟨w,h1,h2⟩:=qm h;obtain⟨e,_,hw,he,_⟩:=(BA T<|PR h).face w<|Al h1;have F:=kn T he;rw [<- hw] at F;have hl:=(Ac.mp h2).1;have hx:pf n x=it (step n) x.2 e:=Option.some.inj<|h2.symm.trans<|F.at' x.2 hl;have er:(row (aE n) x.1).length=w.length:=by rw [xP,h1,Gn,Aa]
 unfold left;rw [er]
 by_cases c:x.2+1 < w.length
 ·rw [Cf c,(xQ h1<|F.at' _ c).2,hx];rfl
 ·have c:x.2+1=w.length:=by omega
  rw [c,Ef,(xQ h1<|F.at' 0 F.pos).2,hx];show e=it (step n) (x.2+1) e;rw [c,F.back]
theorem uI(T:az n){x:End}(h:x∈ends (aE n)):pf n (other (aE n) x)=other n (pf n x):=by
 obtain⟨z,hz⟩:=af.mp h;have o:=fZ (jx T) hz;have PY:=hz;rw [uG T h] at PY;have h2:=o.1;have ho:=dN (jx T) h;rw [uG T ho] at h2
 rcases (rZ T PY).mp h2 with k | k
 ·exact absurd (F3 T ho h k) o.2.2
 ·exact k
theorem PZ(T:az n){x:End}(h:x∈ends (aE n)):pf n (go 1 (aE n) x)=left n (pf n x):=by
 have ho:=dN (jx T) h;unfold go;rw [<- K5 ho,F4 T ho,uI T h];unfold step;obtain⟨z,hz⟩:=af.mp<|uF T h;rw [(fZ T hz).2.1]
end
end Nt
namespace Nt
open PySem L2 Dt
section
variable{n:Net}
theorem q16(T:az n){w:Str}(hw:w∈ag n)(x:Nat):inc (cw n w) x=decide ((row n x).count w % 2=1):=by
 have hp:=FH T hw x;rw [hp];unfold inc
 by_cases a:x=(cw n w).1 <;> by_cases b:x=(cw n w).2
 ·rw [BL a,BL b,BW a,BW b];rfl
 ·rw [BL a,BK b,BW a,BR b];rfl
 ·rw [BK a,BL b,BR a,BW b];rfl
 ·rw [BK a,BK b,BR a,BR b];rfl
theorem F5(T:az n)(s:Str->Bool)(x:Nat):∀{L:List Str},(∀ w∈L,w∈ag n)->cO L (cw n) s x=decide (fP n s L x % 2=1)
 | [],_=>rfl
 | w :: L,h=>by
  rw [uC,F5 T s x λy hy=>h y<|Af _ hy,q16 T<|h w<|Ad ..,FO];cases hs:s w with
  | false=>
   rw [Do,Cg,BK As,Fg]
  | true=>
   rw [Ga,BL rfl]
   by_cases a:(row n x).count w % 2=1 <;> by_cases b:fP n s L x % 2=1
   ·rw [BW a,BW b,BR<|by omega];rfl
   ·rw [BW a,BR b,BW<|by omega];rfl
   ·rw [BR a,BW b,BW<|by omega];rfl
   ·rw [BR a,BR b,BR<|by omega];rfl
theorem xS(T:az n)(hN:(n.map (·.1)).Nodup)(h0:n≠[])(hg:bO n){ss:List Str}(cU:jm ss)(hm:∀ z,z∈ss↔z∈ag n):dG n ss=t ss (bZ n):=by
 have iI:0 < n.length:=Cp.mpr h0;have hs:=BI cU;have lD:∀ w∈ss,w∈ag n:=λw hw=>(hm w).mp hw;have esc:∀ x∈(List.range<|n.length - 1).map (·+1),bH ((List.range<|n.length - 1).map (·+1)) (ss.map<|cw n) x:=by
  have key:=hg (λp=>bH ((List.range<|n.length - 1).map (·+1)) (ss.map<|cw n)<|rn n p) ⟨n[0],Bt iI,by
   have:rn n n[0].1=0:=by
    have:=gT hN iI;rw [dF iI] at this;exact this
   show bH _ _ (rn n n[0].1);rw [this];exact .out λz=>by have:=(a9.mp z).1;omega⟩ (λr hr s ft u h1 h2 e=>by
    obtain⟨i,hi,rfl⟩:=Bp.mp hr;obtain⟨j,hj,rfl⟩:=Bp.mp ft;have ei:=gT hN hi;have ej:=gT hN hj;rw [dF hi] at ei;rw [dF hj] at ej;show bH _ _ (rn n n[j].1);have e:bH _ _ (rn n n[i].1):=e;rw [ei] at e;rw [ej];rw [<- iU hi] at h1;rw [<- iU hj] at h2;have ht:=FG hi h1;have hp:=FH T ht;have at':∀ r,0 < (row n r).count u->r=(cw n u).1\/r=(cw n u).2:=λr hr=>by
     rw [hp r] at hr
     by_cases k1:r=(cw n u).1
     ·exact .inl k1
     ·by_cases k2:r=(cw n u).2
      ·exact .inr k2
      ·rw [BK k1,BK k2] at hr;omega
    have me:cw n u∈ss.map (cw n):=An.mpr ⟨u,(hm u).mpr ht,rfl⟩;have ai:=at' i<|El.mpr h1;have aj:=at' j<|El.mpr h2
    by_cases ij:i=j
    ·rw [<- ij];exact e
    ·rcases ai with a | a <;> rcases aj with b | b
     ·exact absurd (a.trans b.symm) ij
     ·refine .on (.inr ?_) e;rw [a,b];exact me
     ·refine .on (.inl ?_) e;rw [a,b];exact me
     ·exact absurd (a.trans b.symm) ij)
  intro x hx;have iZ:=a9.mp hx;have aM:x < n.length:=by omega
  have:=key n[x]<|Bt aM;have ex:=gT hN aM;rw [dF aM] at ex;have this:bH _ _ (rn n n[x].1):=this;rw [ex] at this;exact this
 unfold dG;rw [jw ss hs _ (cw n) (OX _) esc]
 congr 1
 funext s
 refine propext ⟨λk=>?_,λk x hx=>?_⟩
 ·refine q48 T iI s hs hm λj hj=>?_;have:=k j hj;rw [F5 T s j lD] at this;have:=of_decide_eq_false this;omega
 ·have iZ:=a9.mp hx;rw [F5 T s x lD];have:=k x;rw [Pu s hs hm<|by omega] at this;exact this
noncomputable def star(m:Net)(r:Nat)(z:Str):Bool:=decide ((row m r).count z % 2=1)
theorem F6{m:Net}(T:az m){e:End}{z:Str}(h:aN m e=some z)(r:Nat):star m r z=(decide (r=e.1) ^^ decide (r=(other m e).1)):=by
 rw [<- XJ T h r,<- c7]
where
 c7 {m:Net} {r:Nat} {z:Str}:star m r z=av ((row m r).map λy=>decide (y=z)):=by
  unfold star;rw [FK]
  congr 1
  exact At λy _=>decide_eq_decide.mpr ⟨Eq.symm,Eq.symm⟩
theorem F7{m:Net}{ss:List Str}(hs:ss.Nodup)(v:Str->Bool){r:Nat}(h:∀ y∈row m r,y∈ss):dot ss v (star m r)=av ((row m r).map v):=k4f (n:=m) hs h
theorem k73(T:az n)(r:Nat):bZ (aE n) (star n r):=by
 refine aS.even (jx T) (χ:=λx=>decide (r=(pf n x).1)) ⟨λx hx=>?_,λx z hz=>?_⟩
 ·rw [K6 (jx T) hx,PZ T hx];rfl
 ·have hx:=af.mpr ⟨z,hz⟩;rw [uG T hx] at hz;rw [F6 T hz r,uI T hx]
theorem k8v(T:az n)(f:Nat):bZ n (star (aE n) f):=by
 have inv:∀{x:End},x∈ends (aE n)->(decide (∃ y∈ends (aE n),pf n y=pf n x/\f=y.1))=decide (f=x.1):=λ{x} hx=>decide_eq_decide.mpr ⟨λ⟨y,hy,e,k⟩=>by rw [<- F3 T hy hx e];exact k,λk=>⟨x,hx,rfl,k⟩⟩;refine aS.even T (χ:=λe=>decide (∃ y∈ends (aE n),pf n y=e/\f=y.1)) ⟨λe he=>?_,λe z hz=>?_⟩
 ·obtain⟨x,hx,rfl⟩:=xR T he;have hl:left (aE n) x∈ends (aE n):=Kk hx;show decide _=decide _;rw [<- F4 T hx,inv hl,inv hx];rfl
 ·obtain⟨x,hx,rfl⟩:=xR T<|af.mpr ⟨z,hz⟩;show _=(decide _ ^^ decide _);rw [<- uG T hx] at hz;have ho:=dN (jx T) hx;rw [<- uI T hx,inv hx,inv ho,F6 (jx T) hz f]
theorem k3n(T:az n)(hf:HF n){ss:List Str}(hs:ss.Nodup)(hm:∀ z,z∈ss↔z∈ag n):DP ss (bZ n) (bZ<|aE n):=by
 have T':=jx T;have jO:∀ z,z∈ss↔z∈ag (aE n):=λz=>(hm z).trans (uH T).mem_iff.symm;have xT:∀{m:Net},(∀ z,z∈ss↔z∈ag m)->∀ r,∀ y∈row m r,y∈ss:=λ{m} h r y hy=>by
  by_cases hr:r < m.length
  ·exact(h y).mpr<|FG hr hy
  ·rw [xL<|by omega] at hy;cases hy
 have loc:∀{m:Net},(∀ z,z∈ss↔z∈ag m)->∀ r r':Str->Bool,(∀ y∈ss,r y=r' y)->bZ m r->bZ m r':=λ{m} h r r' q k x=>by
  rw [<- k x]
  congr 1
  exact At λy hy=>(q y<|xT h x y hy).symm
 have xx:∀{m:Net} (r r':Str->Bool),bZ m r->bZ m r'->bZ m (λy=>r y ^^ r' y):=λ{m} r r' k k' x=>by
  rw [iN r r',k x,k' x];rfl
 refine⟨loc hm,loc jO,xx,xx,λr s hr ft=>?_,λv hv x=>?_,λv hv x=>?_⟩
 ·obtain⟨χ,hχ⟩:=hf.2.2 r hr;have cst:∀(p f:Nat),(f,p)∈ends (aE n)->χ (pf n (f,p))=χ (pf n (f,0)):=λp=>by
   induction p with
   | zero=>exact λf _=>rfl
   | succ p ih=>
    intro f h;obtain⟨z,hz⟩:=af.mp h;have hl:=fJ hz;have hl:p+1 < (row (aE n) f).length:=hl;have hp:(f,p)∈ends (aE n):=af.mpr ⟨_,Ab (show p < (row (aE n) f).length by omega)⟩;have e:left (aE n) (f,p)=(f,p+1):=DY rfl (Cf hl);rw [<- ih f hp,<- e,F4 T hp,hχ.go _<|uF T hp]
  have rz:∀ z∈ss,r z=av ((List.range (aE n).length).map λf=>χ (pf n (f,0)) && star (aE n) f z):=λz hz=>by
   obtain⟨x,hx⟩:∃ x,aN (aE n) x=some z:=by
    obtain⟨f,xl,qc⟩:=q5e<|(jO z).mp hz;obtain⟨p,hp⟩:=Av qc;exact⟨(f,p),hp⟩
   have iJ:=af.mpr ⟨z,hx⟩;have P1:=dN T' iJ;obtain⟨y,hy⟩:=af.mp P1;have l1:=cT hx;have l2:=cT hy;have e1:(λf=>χ (pf n (f,0)) && star (aE n) f z)=λf=>(χ (pf n (f,0)) && decide (x.1=f)) ^^ (χ (pf n (f,0)) && decide ((other (aE n) x).1=f)):=by
    funext f
    rw [F6 T' hx f,show decide (f=x.1)=decide (x.1=f) from decide_eq_decide.mpr ⟨Eq.symm,Eq.symm⟩,show decide (f=(other (aE n) x).1)=decide ((other (aE n) x).1=f) from decide_eq_decide.mpr ⟨Eq.symm,Eq.symm⟩];cases χ (pf n (f,0)) <;> cases decide (x.1=f) <;> cases decide ((other (aE n) x).1=f) <;> rfl
   rw [e1,iN (λf=>χ (pf n (f,0)) && decide (x.1=f)) λf=>χ (pf n (f,0)) && decide ((other (aE n) x).1=f),Pp l1,Pp l2];have t1:=uG T iJ;rw [hx] at t1;rw [hχ.dE _ _ t1.symm,<- uI T iJ];have c1:=cst x.2 x.1 iJ;have c2:=cst (other (aE n) x).2 (other (aE n) x).1 P1;rw [<- c1,<- c2]
  unfold dot;rw [show ss.map (λz=>r z && s z)=ss.map λz=>av ((List.range (aE n).length).map λf=>χ (pf n (f,0)) && (s z && star (aE n) f z)) from At λz hz=>by
   rw [rz z hz];cases s z with
   | false=>
    rw [Cq];have:(λf=>χ (pf n (f,0)) && (false && star (aE n) f z))=λ_:Nat=>false:=by funext f;rw [Do,Cq]
    rw [this,aG]
   | true=>
    rw [Eh]
    congr 1,ut]
  have:(List.range (aE n).length).map (λf=>av<|ss.map λz=>χ (pf n (f,0)) && (s z && star (aE n) f z))=(List.range (aE n).length).map λ_=>false:=At λf _=>by
   cases χ (pf n (f,0)) with
   | false=>
    have:(λz=>false && (s z && star (aE n) f z))=λ_:Str=>false:=by funext z;rfl
    rw [this,aG]
   | true=>
    have:(λz=>true && (s z && star (aE n) f z))=λz=>s z && star (aE n) f z:=by funext z;rw [Ga]
    rw [this];have d:=F7 hs s<|xT jO f;unfold dot at d;rw [d];exact ft f
  rw [this];exact aG _
 ·have:=hv _<|k73 T x;rw [F7 hs v<|xT hm x] at this;exact this
 ·have:=hv _<|k8v T x;rw [xM,F7 hs v<|xT jO x] at this;exact this
theorem k8m(T:az n)(hN:(n.map (·.1)).Nodup)(hg:bO n)(h1:ends n≠[]):bO (aE n):=λP ⟨a,ha,pa⟩ hc b hb=>by
 have T':=jx T
 let B:End->Prop:=λx=>P<|bJ (aE n) x.1
 have bo:∀ x∈ends (aE n),(B x↔B (other (aE n) x)):=λx hx=>by
  have P2:∀ x∈ends (aE n),B x->B (other (aE n) x):=λx hx k=>by
   obtain⟨z,hz⟩:=af.mp hx;have ho:=(fZ T' hz).1;have l1:=cT hz;have l2:=cT ho;show P (bJ (aE n) (other (aE n) x).1);have k:P (bJ (aE n) x.1):=k;rw [dF l1] at k;rw [dF l2];exact hc _ (Bt l1) _ (Bt l2) z (by rw [<- iU l1];exact Al hz) (by rw [<- iU l2];exact Al ho) k
  refine⟨P2 x hx,λk=>?_⟩;have:=P2 _ (dN T' hx) k;rw [k0s T' hx] at this;exact this
 let Bn:End->Prop:=λe=>∃ x∈ends (aE n),pf n x=e/\B x
 have bx:∀{x:End},x∈ends (aE n)->(Bn (pf n x)↔B x):=λ{x} hx=>⟨λ⟨y,hy,e,k⟩=>by rw [<- F3 T hy hx e];exact k,λk=>⟨x,hx,rfl,k⟩⟩;have bl:∀ e∈ends n,(Bn e↔Bn (left n e)):=λe he=>by
  obtain⟨x,hx,rfl⟩:=xR T he;rw [<- PZ T hx,bx hx,bx<|WB T' hx,bo x hx];exact Iff.rfl
 have bt:∀ e∈ends n,(Bn e↔Bn (other n e)):=λe he=>by
  obtain⟨x,hx,rfl⟩:=xR T he;rw [<- uI T hx,bx hx,bx<|dN T' hx];exact bo x hx
 have br:∀(p r:Nat),(r,p)∈ends n->(Bn (r,p)↔Bn (r,0)):=λp=>by
  induction p with
  | zero=>exact λr _=>Iff.rfl
  | succ p ih=>
   intro r h;obtain⟨z,hz⟩:=af.mp h;have hl:=fJ hz;have hl:p+1 < (row n r).length:=hl;have hp:(r,p)∈ends n:=af.mpr ⟨_,Ab (show p < (row n r).length by omega)⟩;have e:left n (r,p)=(r,p+1):=DY rfl (Cf hl);rw [<- e,<- bl _ hp];exact ih r hp
 have ne:∀ w∈bq n,∃ e∈ends n,w[0]?=some e:=λw hw=>by
  obtain⟨e,he,rfl,_⟩:=(by
   have:=wn T (ends n) [] (λ_ h=>h) w (by unfold bq at hw;rw [BK h1] at hw;exact hw);exact this:∃ e∈ends n,w=face n e/\e∉([]:List End))
  obtain⟨hm,_⟩:=rV T he;cases hf:face n e with
  | nil=>rw [hf] at hm;cases hm
  | cons c l=>exact⟨c,rR T he c (by rw [hf];exact Ad ..),rfl⟩
 have first:∀ i,i < (aE n).length->((i,0):End)∈ends (aE n):=λi hi=>by
  have iM:i < (bq n).length:=by
   have:(aE n).length=(bq n).length:=xk n<|bq n;omega
  obtain⟨e,he,h0⟩:=ne _<|Bt iM;exact(xQ (Ab iM) h0).1
 obtain⟨i,hi,rfl⟩:=Bp.mp ha;obtain⟨j,hj,rfl⟩:=Bp.mp hb;have xi:=first i hi
 have xj:=first j hj
 have Bi:B (i,0):=by
  show P (bJ (aE n) i);rw [dF hi];exact pa
 have ei:=uF T xi;have ej:=uF T xj;have Bi:=(bx xi).mpr Bi;generalize pf n (i,0)=e at ei Bi;obtain⟨z,hz⟩:=af.mp ei;have lr:=cT hz;have kZ:∀ k (hk:k < n.length),rn n n[k].1=k:=λk hk=>by
  have:=gT hN hk;rw [dF hk] at this;exact this
 have same:∀ x∈ends n,∀ y∈ends n,x.1=y.1->Bn x->Bn y:=λx hx y hy e k=>by
  have a:=(br x.2 x.1 hx).mp k;rw [e] at a;exact(br y.2 y.1 hy).mpr a
 have all:=hg (λp=>∀ y∈ends n,y.1=rn n p->Bn y) ⟨n[e.1],Bt lr,λy hy k=>by
  have k:y.1=rn n n[e.1].1:=k;rw [kZ _ lr] at k;exact same e ei y hy k.symm Bi⟩ (λr hr s ft t t1 t2 pr y hy k=>by
  obtain⟨a,pQ,rfl⟩:=Bp.mp hr;obtain⟨b,nW,rfl⟩:=Bp.mp ft;have k:y.1=rn n n[b].1:=k;have pr:∀ y∈ends n,y.1=rn n n[a].1->Bn y:=pr;rw [kZ b nW] at k;rw [kZ a pQ] at pr;rw [<- iU pQ] at t1;rw [<- iU nW] at t2;obtain⟨p,hp⟩:=Av t1;obtain⟨p',jP⟩:=Av t2;have f1:aN n (a,p)=some t:=hp;have f2:aN n (b,p')=some t:=jP;have m1:=af.mpr ⟨t,f1⟩;have m2:=af.mpr ⟨t,f2⟩;have B1:=pr _ m1 rfl;have B2:Bn (b,p'):=by
   rcases (rZ T f1).mp f2 with q | q
   ·rw [q];exact B1
   ·rw [q];exact(bt _ m1).mp B1
  exact same _ m2 y hy k.symm B2)
 obtain⟨zj,hzj⟩:=af.mp ej;have lj:=cT hzj;have fin:=all n[(pf n (j,0)).1] (Bt lj) (pf n (j,0)) ej (kZ _ lj).symm;have:=(bx xj).mp fin;have this:P (bJ (aE n) j):=this;rw [dF hj] at this;exact this
theorem q47(T:az n)(hN:(n.map (·.1)).Nodup)(F8:((aE n).map (·.1)).Nodup)(h0:n≠[])(F9:aE n≠[])(hf:HF n)(F':bO<|aE n){ss:List Str}(cU:jm ss)(hm:∀ z,z∈ss↔z∈ag n):dG (aE n) ss=dG n ss:=by
 rw [xS T hN h0 hf.1 cU hm,xS (jx T) F8 F9 F' cU λz=>(hm z).trans (uH T).mem_iff.symm];exact(FX ss (BI cU) _ _<|k3n T hf (BI cU) hm).symm
end
end Nt
namespace PySem
section
variable{prog:Program}{w:World}{K:Type} [DecidableEq K] {knd:HeapKind prog w K} {A:Around} {E:Value->Shared->Prop} {s:Shared}
end
end PySem
namespace L2
open PySem PySem.Spec PyProof.Rows
section
variable{X:Cx}{σ:St}{H:Hp}{Q:VK}{o e:Expr}{pos:Pos}
end
end L2
namespace X4
open PySem L2 Nt bB
abbrev c8(e:Nt.End):List Key:=[Sum.inl (e.1:Int),Sum.inl (e.2:Int)]
theorem k72{a b:Nt.End}(h:c8 a=c8 b):a=b:=by
 have h1:=List.cons.inj h;have h2:=(List.cons.inj h1.2).1;have e1:=Sum.inl.inj h1.1;have e2:=Sum.inl.inj h2;exact DY (by omega)<|by omega
theorem P4{H:Hp}{ts:List Addr}{es:List Nt.End}(h:Pd H ts es){j:Nat}{t:Addr}(ht:ts[j]?=some t):∃ e,es[j]?=some e/\H t=some (Tp e):=by
 have hl:=h.length;have hj:j < es.length:=by have:=(Ac.mp ht).1;omega
 obtain⟨t',h1,h2⟩:=h.at (Ab hj);rw [ht] at h1;cases h1;exact⟨_,Ab hj,h2⟩
structure Seen(kvs:List<|List Key×V)(tl:List Nt.End):Prop where
 mem:∀ e,(aC kvs<|c8 e).isSome=true↔e∈tl
theorem Seen.put{kvs:List (List Key×V)}{tl:List Nt.End}(h:Seen kvs tl)(e:Nt.End)(v:V):Seen (putK kvs (c8 e) v) (tl++[e]):=⟨λa=>by
 rw [dL,Aq,Aj]
 by_cases c:c8 a=c8 e
 ·rw [BL c];exact⟨λ_=> .inr<|k72 c,λ_=>rfl⟩
 ·rw [BK c,h.mem a];exact⟨λk=> .inl k,λk=>by
   rcases k with k | k
   ·exact k
   ·exact absurd (by rw [k]) c⟩⟩
structure iV(n:Net)(H:Hp)(L:Addr)(ls:List Addr)(ws:List<|List Nt.End):Prop where
 lst:H L=some (.lst<|ls.map V.ref)
 len:ls.length=ws.length
 fM:ls.Nodup
 out:L∉ls
 at':∀(j:Nat) l w,ls[j]?=some l->ws[j]?=some w->H l=some (Ls<|w.map<|cC n)
theorem iV.same{n:Net}{H H':Hp}{L:Addr}{ls:List Addr}{ws:List (List Nt.End)}(h:iV n H L ls ws)(s:ak H H'):iV n H' L ls ws:=⟨s _ _ h.lst,h.len,h.fM,h.out,λj l w h1 h2=>s _ _<|h.at' j l w h1 h2⟩
theorem iV.there{n:Net}{H:Hp}{L:Addr}{ls:List Addr}{ws:List (List Nt.End)}(h:iV n H L ls ws){l:Addr}(hl:l∈ls):∃ zs,H l=some (Ls zs):=by
 obtain⟨j,hj⟩:=Av hl;have:=(Ac.mp hj).1;exact⟨_,h.at' j l _ hj<|Ab<|by rw [<- h.len];exact this⟩
theorem iV.more{n:Net}{H:Hp}{L D:Addr}{ls:List Addr}{ws:List (List Nt.End)}{w:List Nt.End}(h:iV n H L ls ws) (hD:H D=some (Ls<|w.map<|cC n)) (nD:D∉ls) (nL:D≠L):iV n (upd H L<|.lst<|ls.map V.ref++[.ref D]) L (ls++[D]) (ws++[w]):=by
 have hl:=h.len;refine⟨by rw [aA,Ak];rfl,by rw [Ag,Ag,hl];rfl,m4 h.fM nD,λk=>?_,λj l v h1 h2=>?_⟩
 ·rcases Aq.mp k with k | k
  ·exact h.out k
  ·exact nL (Aj.mp k).symm
 ·by_cases c:j < ls.length
  ·rw [Ay c] at h1;rw [Ay<|by omega] at h2;rw [ax λe:l=L=>h.out<|e ▸ Al h1];exact h.at' j l v h1 h2
  ·rw [Bc<|by omega] at h1 h2;have j0:j - ls.length=0:=by
    have:=(Ac.mp h1).1;simp at this;omega
   rw [j0] at h1;rw [<- hl,j0] at h2;cases h1;cases h2;rw [ax nL];exact hD
def GA:Sp:=λvs H Q _=>∃(R:Addr) (as:List<|Addr×Addr) (n:Net),vs=[.ref R]/\ah H R as n/\az n/\n.length<=60/\(ag n).length<=60 /\
 ∀(L:Addr) (ls:List Addr) (H':Hp),ak H H'->H L=none->iV n H' L ls (bq n)->(∀ l∈ls,H l=none)->Q (.ref L) H'
theorem k4u(n:Net):(aV n).length=(ag n).length:=by
 have:=BZ List.length<|iK n 0;rw [Aa] at this;exact this
section
variable{P:Program}{w:World}{K:PySem.W.Frag}{mg:Str->Option Value}{base:Heap}
abbrev P5:List Str:=["_law_rows","_law_seats_here","_law_met","_law_made","_law_r","_law_place","_law_face_here","_law_end"]
abbrev uJ:List Str:=["_law_rows","_law_seats_here","_law_met","_law_made","_law_r","_law_place","_law_face_here","?","_law_end"]
theorem uK:au P5 ["_law_rows"] (bg vU):=⟨rfl,rfl,rfl,by decide +kernel,rfl,by decide +kernel,by decide +kernel⟩
theorem q8r:uJ.Nodup:=by decide +kernel
theorem k32{f:Addr}{fd:FuncData}(F:bX K "_law_faces" "_law_faces" vU f fd)(T:Txt mg)
  (GS:bh P w K mg base 3 "_law_seats" ["_law_rows"] vW)
  (GF:bh P w K mg base 3 "_law_face" ["_law_rows","_law_seats_here","_law_end"] vX) :
  aJ P w K mg base bT 4 f fd ["_law_rows"] GA:=by
 refine F.gb uK (λvs H Q E h=>?_) λb0 H vs Q E hr h=>?_
 ·obtain⟨R,as,n,rfl,_⟩:=h;rfl
 obtain⟨R,as,n,rfl,hR,hT,hn,jT,q⟩:=h;have nd:=uK.nd;have hu:=hr.u1;have un:=hr.ie;have pT:=ik n;have cq:=hR.len;have tG:=k4u n;show Run _ _ _ [some<|.ref R,none,none,none,none,none,none,none] H;refine a8 1 nd (b4 GS hr<|aq<|ae 0<|aB ⟨R,as,n,rfl,hR,by omega,by omega,λds ks H1 s1 n1 hSe=>?_⟩);refine a8 2 nd<|Kf λd hd=>?_;refine a8 3 nd<|dB<|aB ⟨Z0,λL hL=>?_⟩;have xU:L≠d:=λe=>by rw [e,aA] at hL;cases hL
 have P6:H1 L=none:=by rw [ax xU] at hL;exact hL
 have s2:ak H1 (upd (upd H1 d<|.dT []) L<|.lst []):=(aT hd _).trans<|aT hL _;have xn:(upd (upd H1 d<|.dT []) L<|.lst []) d=some (.dT []):=by rw [ax<|Ne.symm xU,aA]
 have P7:iV n (upd (upd H1 d<|.dT []) L<|.lst []) L [] []:=⟨aA,rfl,Ck,Bm,λj l w h=>by simp at h⟩;show Run _ _ _ [some<|.ref R,some<|.ref ds,some<|.ref d,some<|.ref L,none,none,none,none] (upd (upd H1 d<|.dT []) L<|.lst []);generalize upd (upd H1 d<|.dT []) L (.lst [])=H2 at s2 xn P7
 let St:List (Str×Nt.End)->Hp->Prop:=λdone H'=>∃(kvs:List<|List Key×V) (tl:List Nt.End) (ws:List<|List Nt.End) (ls:List Addr),ak H1 H'/\H' d=some (.dT kvs)/\Seen kvs tl/\kvs.length<=100 * ws.length/\iV n H' L ls ws/\ws.length<=done.length/\(∀ b∈ls,H1 b=none/\b≠d) /\
  ∀ rest,ends n=done.map (·.2)++rest->eO n (ends n) []=ws++eO n rest tl
 have wG:(as.map λa=>V.ref a.1).length=n.length:=by rw [Aa,cq]
 refine jD T.range<|cZ dU T.len DG<|aq<|ae 0<|aB ⟨R,_,rfl,.inl<|ao.of<|s2 _ _<|s1 _ _ hR.lst,?_⟩;rw [wG];refine⟨(n.length:Int),rfl,by omega,by omega,jE (n:=n.length) (λr σ H'=>∃(u4 u5 u6 u7:Option V),St (aV<|n.take r) H'/\σ=[some<|.ref R,some<|.ref ds,some<|.ref d,some<|.ref L,u4,u5,u6,u7])
  ⟨_,_,_,_,⟨[],[],[],[],s2,xn,⟨λe=>by simp [aC]⟩,Am _,P7,Bo _,λb h=>by simp at h,λrest h=>by rw [h];rfl⟩,rfl⟩ ?_ ?_⟩
 ·rintro r σ H' hi ⟨u4,u5,u6,u7,st,rfl⟩;refine bz 4 nd ?_;rw [Dj];have sm:ak H1 H':=by obtain⟨_,_,_,_,sm,_⟩:=st;exact sm
  have wJ:=(hR.same s1).same sm;obtain⟨a,ea,eJ,et,el,er⟩:=wJ.at hi;have iO:(row n r).length<=60:=Cl (iL n r) jT;have xV:St (aV (n.take r)++aU r ((row n r).take 0) 0) H':=by
   have:aU r ((row n r).take 0) 0=[]:=by simp [aU]
   rw [this,Bh];exact st
  refine jD T.range<|cZ dU T.len DG<|aq<|bb cH<|bb cG<|ae 0<|ae 4 ⟨R,_,_,.ref a.1,rfl,rfl,ao.of wJ.lst,eJ,aF ⟨a.1,_,_,.ref a.2,rfl,rfl,aQ.of et,rfl,aB ⟨a.2,_,rfl,.inl<|ao.of el,?_⟩⟩⟩;rw [Aa];refine⟨((row n r).length:Int),rfl,by omega,by omega,jE (n:=(row n r).length) (λp σ H'=>∃(u5 u6 u7:Option V),St (aV (n.take r)++aU r ((row n r).take p) 0) H'/\σ=[some<|.ref R,some<|.ref ds,some<|.ref d,some<|.ref L,some<|.int (r:Int),u5,u6,u7])
   ⟨_,_,_,xV,rfl⟩ ?_ ?_⟩
  ·rintro p σ H3 hp ⟨u5,u6,u7,⟨kvs,tl,ws,ls,sm3,P8,sn,rO,hB,mX,fB,GH⟩,rfl⟩;rw [Dj];have hz:(row n r)[p]?=some (row n r)[p]:=Ab hp;have jc:=lK (r:=r) hz;obtain⟨rest,db⟩:=pV hi hz;have jR:aN n (r,p)=some (row n r)[p]:=hz;generalize (row n r)[p]=z at hz jc db jR;have he:((r,p):Nt.End)∈ends n:=af.mpr ⟨z,jR⟩;have mB:ends n=(aV (n.take r)++aU r ((row n r).take p) 0).map (·.2)++(r,p) :: rest.map (·.2):=by
    unfold ends;rw [db,Ak];rfl
   have dl:(aV (n.take r)++aU r ((row n r).take p) 0).length < 60:=by
    have:=BZ List.length db;rw [Ag,Ao] at this;omega
   have dv:∀ dz,ends n=(aV (n.take r)++aU r ((row n r).take<|p+1) 0).map (·.2)++dz->dz=rest.map (·.2):=λdz h=>by
    rw [jc,<- Aw,Ak,Aw,mB] at h;exact((List.cons.inj<|List.append_cancel_left h).2).symm
   have ln1:(aV (n.take r)++aU r ((row n r).take<|p+1) 0).length=(aV (n.take r)++aU r ((row n r).take p) 0).length+1:=by rw [jc,<- Aw,Ag];rfl
   have iC:=GH _ mB;refine bz 5 nd ?_;refine hU<|U3 hu<|dW<|aq<|ae 4<|aq<|ae 5<|aB ⟨Z2,λt ht=>ae 2 ⟨d,_,rfl,bp.t (k:=c8 (r,p)) ((aT ht _) _ _ P8) aA,?_⟩⟩;have sT:=aT ht<|Tp (r,p);have xW:=sT _ _ P8;have gm:=sm3.trans sT;have xX:=hB.same sT;generalize uL:upd H3 t (Tp (r,p))=H4 at sT xW gm xX;have eH4:(upd H3 t<|HO.tup<|(c8 (r,p)).map kV)=H4:=uL
   by_cases c:(r,p)∈tl
   ·rw [(sn.mem (r,p)).mpr c];refine cL<|bn<|bn ⟨_,_,_,⟨kvs,tl,ws,ls,?_,?_,sn,rO,?_,by omega,fB,λdz h=>?_⟩,rfl⟩
    ·exact uL ▸ gm
    ·exact uL ▸ xW
    ·exact uL ▸ xX
    ·rw [iC,dv dz h];show ws++(if(r,p)∈tl then _ else _)=_;rw [BL c]
   ·have kJ:(aC kvs<|c8 (r,p)).isSome=false:=by
     cases hv:(aC kvs<|c8 (r,p)).isSome with
     | false=>rfl
     | true=>exact absurd ((sn.mem (r,p)).mp hv) c
    rw [kJ];refine bW ?_;show Run _ _ _ [some<|.ref R,some<|.ref ds,some<|.ref d,some<|.ref L,some<|.int (r:Int),some<|.int (p:Int),u6,u7] (upd H3 t<|Tp (r,p));rw [uL];have gL:=(hR.same s1).same gm;have GI:=hSe.same gm;refine a8 6 nd<|b4 GF hr<|aq<|ae 0<|aq<|ae 1<|aq<|dW<|aq<|ae 4<|aq<|ae 5<|aB ⟨Z2,λt2 ii=>?_⟩;have oS:=aT ii<|Tp (r,p);refine aB ⟨R,ds,t2,as,n,ks,(r,p),rfl,gL.same oS,GI.same oS,hT,aA,he,by omega,λl ts fs H5 s5 n5 e5 GU hF=>?_⟩;have hfs:fs=face n (r,p):=hF.eq;have mv:=(gm.trans oS).trans s5;have P9:=s5 _ _<|oS _ _ xW;have ju:=(xX.same oS).same s5;have xl:=hF.len;have pl:=GU.length;have nld:l≠d:=λk=>by rw [k,oS _ _ xW] at n5;cases n5
    have tY:l≠L:=λk=>by
     have:=oS _ _ xX.lst;rw [<- k,n5] at this;cases this
    have xm:∀ c∈fs,c∈ends n:=hF.ends hT he;have bl:ls.length=ws.length:=ju.len;have lZ:=(hR.same s1).same mv;show Run _ _ _ [some<|.ref R,some<|.ref ds,some<|.ref d,some<|.ref L,some<|.int (r:Int),some<|.int (p:Int),some<|.ref l,u7] H5;refine hV<|jH<|ae 3 ⟨L,rfl,⟨_,ju.lst⟩,lF (bg vU) P5 uJ 1 (lh bG)<|ae 6 ⟨l,rfl,⟨_,ao.of e5⟩,λD hD=>?_⟩⟩;refine wc (xs:=ts.map V.ref) (λj σ' H7=>(∃ v,σ'=[some<|.ref R,some<|.ref ds,some<|.ref d,some<|.ref L,some<|.int (r:Int),some<|.int (p:Int),some<|.ref l,u7]++[v])/\ak H5 H7/\H7 D=some (Ls<|(fs.take j).map<|cC n)) ⟨⟨none,rfl⟩,aT hD _,aA⟩ ?_ ?_ ?_
    ·rintro j σ' H7 _ ⟨_,eY,_⟩;exact ao.of<|eY _ _ e5
    ·rintro j x σ' H7 hx ⟨⟨v,rfl⟩,eY,xY⟩;rw [Ae,Az] at hx;obtain⟨tm,qb,rfl⟩:=hx;obtain⟨e,iT,gN⟩:=P4 GU qb;have kN:fs.take (j+1)=fs.take j++[e]:=by rw [Bw,iT];rfl
     have uM:=eY _ _ gN;obtain⟨ze,GV⟩:=af.mp<|xm e<|Al iT;obtain⟨b,eb,P',ebp,ebl,ebr⟩:=(lZ.same eY).at (cT GV);have eW:(row n e.1)[e.2]?=some ze:=GV;intro cl C s₀ H₀ ex;refine bz 8 q8r ?_;intro cl C s₀ H₀ ex;refine fq ?_;rw [BL rfl];intro cl C s₀ H₀ ex;have hj:j < fs.length:=(Ac.mp iT).1;refine bb cG<|bb cH<|bb cG<|ae 0<|bb cH<|ae 8<|aF ⟨tm,_,_,.int (e.1:Int),rfl,rfl,aQ.of uM,rfl,R,_,_,.ref b.1,rfl,rfl,ao.of<|eY _ _ lZ.lst,P',aF ⟨b.1,_,_,.ref b.2,rfl,rfl,aQ.of ebp,rfl,?_⟩⟩;refine bb cH<|ae 8<|aF ⟨tm,_,_,.int (e.2:Int),rfl,rfl,aQ.of uM,rfl,b.2,_,_,.str ze,rfl,rfl,ao.of ebl,vJ eW,_,xY,?_,⟨_,rfl⟩,dC eY hD,?_⟩
     ·rw [Aa,Aa,Bl];exact cn<|by omega
     ·rw [aA,kN,Ak];show some (HO.lst<|((fs.take j).map<|cC n).map V.str++[V.str ze])=some (HO.lst<|((fs.take j).map (cC n)++[cC n e]).map V.str);rw [Ak,wm GV];rfl
    rintro σ' H7 ⟨_,eY,xY⟩;rw [Aa,pl,Bs] at xY;have G0:=ju.same eY;have nin:D∉ls:=λhm=>by
     obtain⟨zs,t7⟩:=ju.there hm;rw [hD] at t7;cases t7
    have nDL:D≠L:=λk=>by
     have:=ju.lst;rw [<- k,hD] at this;cases this
    have C7:D≠d:=λk=>by rw [k,P9] at hD;cases hD
    have qo:=G0.more xY nin nDL;have ul:ak H1 (upd H7 L<|.lst<|ls.map V.ref++[.ref D]):=dC (mv.trans eY) P6;have G':(upd H7 L<|.lst<|ls.map V.ref++[.ref D]) d=some (.dT kvs):=by rw [ax<|Ne.symm xU];exact eY _ _ P9
    have Qa:∀{b e},H5 b=some (Tp e)->(upd H7 L<|.lst<|ls.map V.ref++[.ref D]) b=some (Tp e):=λ{b e} h=>by
     rw [ax<|cr (eY _ _ h) G0.lst λz=>nomatch z];exact eY _ _ h
    have e8:(upd H7 L<|.lst<|ls.map V.ref++[.ref D]) l=some (.lst<|ts.map V.ref):=by rw [ax tY];exact eY _ _ e5
    refine⟨_,G0.lst,by rw [Aa,bl];exact cn (by omega),?_⟩;show Run _ _ _ [some<|.ref R,some<|.ref ds,some<|.ref d,some<|.ref L,some<|.int (r:Int),some<|.int (p:Int),some<|.ref l,u7] (upd H7 L<|.lst<|ls.map V.ref++[.ref D]);generalize upd H7 L (.lst<|ls.map V.ref++[.ref D])=H8 at qo ul G' Qa e8;have pd8:Pd H8 ts fs:=GU.keep λb e h=>Qa h;refine lw<|ae 6 ⟨l,rfl,⟨_,ao.of e8⟩,?_⟩;refine lz (xs:=ts.map V.ref) (λm σ H6=>∃(fO:List<|List Key×V) (u7:Option V),(∀ b o,b≠d->H8 b=some o->H6 b=some o)/\H6 d=some (.dT fO)/\Seen fO (tl++fs.take m)/\fO.length<=kvs.length+m /\
     σ=[some<|.ref R,some<|.ref ds,some<|.ref d,some<|.ref L,some<|.int (r:Int),some<|.int (p:Int),some<|.ref l,u7]) ⟨kvs,_,λb o _ h=>h,G',by rw [List.take_zero,Bh];exact sn,Am _,rfl⟩ ?_ ?_ ?_
    ·rintro m σ H6 _ ⟨_,_,k6,_⟩;exact ao.of<|k6 _ _ nld e8
    ·rintro m x σ H6 hx ⟨fO,Qb,k6,Hc,xZ,Qc,rfl⟩;rw [Ae,Az] at hx;obtain⟨tm,qb,rfl⟩:=hx;obtain⟨e,iT,gN⟩:=P4 pd8 qb;have N5:m < fs.length:=(Ac.mp iT).1;have kN:fs.take (m+1)=fs.take m++[e]:=by rw [Bw,iT];rfl
     have He:=k6 _ _ (cr gN G' λz=>nomatch z) gN;refine bz 7 nd ?_;refine rE hu<|T5<|ae 2<|ae 7 ⟨d,_,rfl,b9.t (k:=c8 e) Hc He (cn<|by omega),bn ⟨_,_,λb o hb h=>by rw [ax hb];exact k6 b o hb h,aA,?_,?_,rfl⟩⟩
     ·rw [kN,<- Aw];exact xZ.put e _
     ·have:=gD fO (c8 e)<|.bl true;omega
    ·rintro σ H6 ⟨fO,Qb,k6,Hc,xZ,Qc,rfl⟩;rw [Aa,pl,Bs] at xZ;rw [Aa,pl] at Qc;have sm6:ak H1 H6:=λb o h=>k6 b o (bU h hd)<|ul _ _ h;have Qd:∀ b∈ls++[D],H1 b=none/\b≠d:=λb hb=>by
      rcases Aq.mp hb with hb | hb
      ·exact fB b hb
      ·rw [Aj.mp hb];exact⟨mv.free hD,C7⟩
     have uN:iV n H6 L (ls++[D]) (ws++[fs]):=⟨k6 _ _ xU qo.lst,qo.len,qo.fM,qo.out,λj l' w' h1 h2=>k6 _ _ (Qd l'<|Al h1).2<|qo.at' j l' w' h1 h2⟩;refine bn<|bn ⟨_,_,_,⟨fO,tl++fs,ws++[fs],ls++[D],sm6,Hc,xZ,?_,uN,?_,Qd,λdz h=>?_⟩,rfl⟩
     ·rw [Ag];show fO.length<=100 * (ws.length+1);omega
     ·rw [Ag];show ws.length+1<=_;omega
     ·rw [iC,dv dz h];show ws++(if(r,p)∈tl then _ else _)=_;rw [BK c,<- hfs,Aw];rfl
  ·rintro σ H' ⟨u5',u6',Qb,cE,rfl⟩;have e0:aV (n.take<|r+1)=aV (n.take r)++aU r ((row n r).take (row n r).length) 0:=by
    rw [nG hi,Bs]
   rw [<- e0] at cE;exact bn ⟨_,_,_,_,cE,rfl⟩
 ·rintro σ H' ⟨u4,u5,u6,u7,⟨kvs,tl,ws,ls,sm,ed,sn,rO,hB,mX,fB,GH⟩,rfl⟩;have iC:eO n (ends n) []=ws:=by
   have:=GH [] (by rw [Bs,Bh];rfl);rw [this];exact Bh _
  have bl:ls.length=ws.length:=hB.len;refine hU<|fW (Kb un)<|ae 3<|dB<|aB ⟨Z0,λp hp=>?_⟩;have sP:=aT hp<|.lst []
  by_cases c:ends n=[]
  ·have Hf:ws=[]:=by rw [<- iC,c];rfl
   subst Hf;have hb0:ls=[]:=Bb.mp bl;subst hb0;refine⟨1,true,by decide,YJ (zs:=[]) (sP _ _ hB.lst) aA,_,rfl,bW<|cA<|dB<|aq<|dB<|aB ⟨Z0,λl hl=>aB ⟨Z1,λZ hZ=>?_⟩⟩⟩;have Qe:=aT hl<|.lst [];have Qf:=aT hZ<|.lst [.ref l];have sA:=(s1.trans sm).trans sP;have nZl:Z≠l:=λe=>by rw [e,aA] at hZ;cases hZ
   have ef:bq n=[[]]:=by unfold bq;rw [BL c]
   refine q Z [l] _ ((sA.trans Qe).trans Qf) ((sA.trans Qe).free hZ) ?_ λb hb=>by rw [Aj.mp hb];exact sA.free hl
   rw [ef];refine⟨aA,rfl,by simp,λk=>nZl<|Aj.mp k,λj l' w' h1 h2=>?_⟩;cases j with
   | zero=>
    cases h1;cases h2;exact Qf _ _ aA
   | succ j=>simp at h1
  ·have ef:bq n=ws:=by unfold bq;rw [BK c];exact iC
   have Hf:ws.length≠0:=by
    rw [<- iC];cases hx:ends n with
    | nil=>exact absurd hx c
    | cons x xs=>
     unfold eO;rw [BK Bm];exact Nat.succ_ne_zero _
   refine⟨1,false,by decide,?_,_,rfl,cL<|bn<|cA<|ae 3 ?_⟩
   ·exact UR (k:=1) (ao.of<|sP _ _ hB.lst) (ao.of (xs:=[]) aA)<|by rw [Aa,bl];exact Hf
   ·refine q L ls _ ((s1.trans sm).trans sP) (s1.free P6) ?_ λb hb=>s1.free (fB b hb).1;rw [ef];exact hB.same sP
end
end X4
namespace Nt
open PySem L2 Dt
theorem Qg{n m:Net}(T:az n)(hN:(n.map (·.1)).Nodup)(h0:n≠[])(hg:bO n)(T':az m)(F8:(m.map (·.1)).Nodup)(F9:m≠[])(F':bO m){ss:List Str}(cU:jm ss)(hm:∀ z,z∈ss↔z∈ag n)(jO:∀ z,z∈ss↔z∈ag m)(he:∀ s,bZ m s↔bZ n s):dG m ss=dG n ss:=by
 rw [xS T hN h0 hg cU hm,xS T' F8 F9 F' cU jO,show bZ m=bZ n from funext λs=>propext<|he s]
def bM(n m:Net):Prop:=m.map (·.2)=n.map (·.2)
section
variable{n m:Net}
theorem bM.len(h:bM n m):m.length=n.length:=by
 have:=BZ List.length h;rw [Aa,Aa] at this;exact this
theorem bM.row(h:bM n m)(r:Nat):row m r=row n r:=by
 have:=BZ (λl:List (List Str)=>l[r]?) h;have this:(m.map (·.2))[r]?=(n.map (·.2))[r]?:=this;rw [Ae,Ae] at this;unfold Nt.row;rw [this]
theorem Qh(n:Net):ag n=(n.map (·.2)).flatten:=by
 unfold ag;rw [List.flatMap_def]
theorem bM.ag(h:bM n m):ag m=ag n:=by
 rw [Qh,Qh,h]
theorem bM.twice(h:bM n m)(T:az n):az m:=λz hz=>by
 rw [h.ag] at hz ⊢;exact T z hz
theorem bM.Hg(h:bM n m)(hN:(n.map (·.1)).Nodup)(hg:bO n):bO m:=λP ⟨a,ha,pa⟩ hc b hb=>by
 have hl:=h.len;have kZ:∀ k (hk:k < n.length),rn n n[k].1=k:=λk hk=>by
  have:=gT hN hk;rw [dF hk] at this;exact this
 obtain⟨i,hi,rfl⟩:=Bp.mp ha;obtain⟨j,hj,rfl⟩:=Bp.mp hb;have all:=hg (λp=>P<|bJ m<|rn n p) ⟨n[i],Bt (by omega),by
  show P (bJ m<|rn n n[i].1);rw [kZ i (by omega),dF hi];exact pa⟩ (λr hr s hs t t1 t2 pr=>by
  obtain⟨x,hx,rfl⟩:=Bp.mp hr;obtain⟨y,hy,rfl⟩:=Bp.mp hs;have pr:P (bJ m<|rn n n[x].1):=pr;show P (bJ m<|rn n n[y].1);rw [kZ x hx,dF<|by omega] at pr;rw [kZ y hy,dF<|by omega];rw [<- iU hx,<- h.row] at t1;rw [<- iU hy,<- h.row] at t2;rw [iU<|by omega] at t1 t2;exact hc _ (Bt _) _ (Bt _) t t1 t2 pr) n[j]<|Bt<|by omega
 have all:P (bJ m<|rn n n[j].1):=all;rw [kZ j (by omega),dF hj] at all;exact all
theorem bM.ev(h:bM n m)(s:Str->Bool):bZ m s↔bZ n s:=GR λr=>by rw [h.row]
end
def df(n:Net):Net:=n.reverse.map λr=>(r.1,r.2.reverse)
section
variable{n:Net}
theorem uO:(df n).length=n.length:=by unfold df;rw [Aa,Gy]
theorem Qi{r:Nat}(h:r < n.length):row (df n) r=(row n<|n.length - 1 - r).reverse:=by
 unfold row df;rw [Ae,Gj h,Ab<|by omega];rfl
theorem q6l(s:Str->Bool):bZ (df n) s↔bZ n s:=by
 have rv:∀ l:List Str,av (l.reverse.map s)=av (l.map s):=λl=>LD<|List.Perm.map _<|Fa l
 constructor
 ·intro h r
  by_cases hr:r < n.length
  ·have:=h<|n.length - 1 - r;rw [Qi (by omega),rv,show n.length - 1 - (n.length - 1 - r)=r by omega] at this;exact this
  ·rw [xL<|by omega];rfl
 ·intro h r
  by_cases hr:r < n.length
  ·rw [Qi hr,rv];exact h _
  ·rw [xL<|by rw [uO];omega];rfl
theorem cP:(ag<|df n).Perm (ag n):=by
 unfold df ag;rw [List.flatMap_map];refine List.Perm.trans ?_<|(Fa n).flatMap_right _;generalize n.reverse=l
 induction l with
 | nil=>exact List.Perm.refl _
 | cons x l ih=>exact(Fa x.2).append ih
theorem Hh(T:az n):az (df n):=λz hz=>by
 rw [cP.count_eq];exact T z<|cP.mem_iff.mp hz
theorem Hi(h:(n.map (·.1)).Nodup):((df n).map (·.1)).Nodup:=by
 unfold df;rw [Bj];show(n.reverse.map (·.1)).Nodup;rw [List.map_reverse];exact(Fa _).nodup_iff.mpr h
theorem Qj(h:bO n):bO (df n):=BF (λr hr=>⟨(r.1,r.2.reverse),An.mpr ⟨r,Ff.mpr hr,rfl⟩,rfl,λt ht=>Ff.mpr ht⟩) (λs hs=>by
 obtain⟨r,hr,rfl⟩:=An.mp hs;exact⟨r,Ff.mp hr,rfl⟩) h
def oT(k:Nat):Str:=Str.ofString "q"++Str.ofString (toString (k:Int))
noncomputable def bQ(n:Net):Net:=(bq n).zipIdx.map λx=>(oT x.2,x.1.map<|cC n)
theorem k3w(n:Net):bM (aE n) (bQ n):=by
 unfold bM bQ aE cV;rw [Bj,Bj];rfl
theorem Qk{f:Nat->Str}(inj:∀ i:Fin 60,∀ j:Fin 60,f i.1=f j.1->i.1=j.1){k:Nat}(h:k<=60):((List.range k).map f).Nodup:=by
 rw [Cd,Dy];refine(Cd.mp Fe).imp_of_mem λ{a b} ha hb bA k=>bA ?_;exact inj ⟨a,by have:=Br.mp ha;omega⟩ ⟨b,by have:=Br.mp hb;omega⟩ k
theorem k2n(h:(bq n).length<=60):((bQ n).map (·.1)).Nodup:=by
 have e:(bQ n).map (·.1)=(List.range (bq n).length).map oT:=by
  unfold bQ;rw [Bj,List.range_eq_range',<- Gw 0,Bj];rfl
 rw [e];exact Qk (by decide +kernel) h
theorem k5l(h:(bq n).length<=60):((aE n).map (·.1)).Nodup:=by
 have e:(aE n).map (·.1)=(List.range (bq n).length).map gR:=by
  unfold aE cV;rw [Bj,List.range_eq_range',<- Gw 0,Bj];rfl
 rw [e];exact Qk (by decide +kernel) h
end
end Nt
namespace L2
open PySem PySem.Spec PyProof.Rows bB
section
variable{X:Cx}
end
end L2
namespace L2
open PySem PySem.Spec PyProof.Rows
def Hj(K:PySem.W.Frag)(a:Addr)(xs:List V):It:=⟨λi H=>i < xs.length/\ao K H a xs,λi H x H'=>H'=H/\xs[xs.length - 1 - i]?=some x,λi H=>xs.length<=i/\ao K H a xs⟩
theorem k86{P:Program}{w:World}{K:PySem.W.Frag}{tg:Expr}(a it:Addr)(xs:List V):Turn P w K tg (Hj K a xs) [it] it (λi h=>i<=xs.length/\h.IsRevIter it a ((xs.length:Int) - 1 - (i:Int))) where
 mem:=by simp
 obj:=λi h st b hb=>by
  have e:b=it:=by simpa using hb
  subst e;obtain⟨_,o,e,c,d⟩:=st;exact⟨o,e,λv z=>by rw [d] at z;cases z⟩
 keep:=λi h h' st k=>⟨st.1,st.2.at λo e=>k it (by simp) o e⟩
 item:=by
  intro X hP hw hK hc i pins s σ H E I hf st hg;subst hP hw hK;obtain⟨hi,hq⟩:=hg;obtain⟨its,rv,p,hz⟩:=I.list hq;have hx:xs[xs.length - 1 - i]?=some (xs[xs.length - 1 - i]'(by omega)):=Ab (by omega);obtain⟨u,hu,ru⟩:=rv.get hx;obtain⟨f0,f1,f2,f3,f4,f5⟩:=hf it (by simp);have e1:(xs.length:Int) - 1 - (i:Int)=((xs.length - 1 - i:Nat):Int):=by omega
  have dA:=st.2;rw [e1] at dA;refine wpAny_pyNext_rev_item dA p.isList (x:=u) (by simpa using hu) λh' cE sb=>?_;have I1:Inv X pins σ H {s with heap:=h'}:=I.turned (t':=s.toks) (λb o hb e=>(sb.2 b hb).trans e) f0 f1 f3 f4 f5;obtain⟨o,e,c,d⟩:=id cE;have e2:((xs.length - 1 - i:Nat):Int) - 1=(xs.length:Int) - 1 - ((i+1:Nat):Int):=by omega
  rw [e2] at cE;exact⟨u,rfl,qJ (s:={s with heap:=h'}) e c d (by decide) ⟨_,H,I1,ru,⟨rfl,hx⟩,⟨hi,cE⟩,λb hb=>(hf b hb).1⟩⟩
 done:=by
  intro X hP hw hK hc i pins s σ H E I hf st hg;subst hP hw hK;obtain⟨hi,hq⟩:=hg;obtain⟨f0,f1,f2,f3,f4,f5⟩:=hf it (by simp);have dA:=st.2;rw [show(xs.length:Int) - 1 - (i:Int)=-1 by have:=st.1;omega] at dA;exact wpAny_pyNext_rev_end (I.ok.hd hc) dA λh' eb=>⟨rfl,I.turned (t':=s.toks) (λb o hb e=>eb b o hb e) f0 f1 f3 f4 f5⟩
 self:=λ_ _ _ _ _ st h=>JW st.2 h
section
variable{X:Cx}
theorem boot_reversed:bootBuiltins "reversed" = some (.type "reversed"):=by decide +kernel
def Hk(K:PySem.W.Frag)(ta:TA):TI:=λσ H R=>ta σ H λvs H1=>∃ a xs,vs=[.ref a]/\ao K H1 a xs/\R (Hj K a xs) H1
theorem q35{tg a:Expr}{ta:TA}{p pos:Pos}(hg:Gl X "reversed")(hm:X.mg "reversed" = none)(ha:PA X [a] ta)(hs:starEach [a] X.env=[(false,eval a X.env)]:=by rfl) :
  PI X tg (.Call (.Name "reversed" p) [a] [] pos) (Hk X.K ta):=by
 intro pins s σ H R I h;refine Call_<|iG I hg hm boot_reversed<|CV (aI (ha pos pins s σ H _ I h) λus s1 ⟨vs,H1,I1,r1,q1⟩=>?_) hs rfl;obtain⟨x,xs,e,hx,q⟩:=q1;subst e;obtain⟨u,rfl,ru⟩:=r1.one;cases (show u=Value.ref x from ru);obtain⟨fA,jd,p1,lR⟩:=I1.list hx;have l1:=jd.length;refine call_reversed_list p1.isList ?_;have hit:(s1.heap.push<|revObj x<|(fA.toArray.size:Int) - 1).IsRevIter s1.heap.objs.size x ((xs.length:Int) - 1 - ((0:Nat):Int)):=⟨_,Ba _ rfl,rfl,by
  show Data.fields #[Value.ref x,rawInt<|(fA.toArray.size:Int) - 1]=_;rw [Au,<- l1];simp⟩
 refine JW (s:={s1 with heap:=_}) hit ?_;refine⟨s1.heap.objs.size,[s1.heap.objs.size],_,_,H1,rfl,I1.kept (t':=s1.toks) λb o e=>Ai _ e,k86 x _ xs,⟨Bo _,hit⟩,λb hb=>?_,q⟩;have e:b=s1.heap.objs.size:=by simpa using hb
 subst e;exact I1.d8 (Am _)<|I1.aD.fresh<|Am _
end
section
variable{X:Cx}{elt tg:Expr}{ifs:List Expr}{scope:Scope}{σ:St}{H:Hp}{N':List Str}{A a:Addr}{xs:List V}{after:Hp->Prop}
theorem k3j(Pv:Nat->St->Hp->Prop)(h0:Pv 0 σ H)(hl:∀ i σ' H',i<=xs.length->Pv i σ' H'->ao X.K H' a xs)
  (hs : ∀ i x σ' H', i < xs.length → xs[xs.length - 1 - i]? = some x → Pv i σ' H' → m9 X N' scope tg x σ' H' λσ2 H3 => ng X N' scope ifs σ2 H3 λb H4 =>
   if b=true then m8 X N' scope elt σ2 H4 λv H5=>∃ ys,H5 A=some (.lst ys)/\ys.length < sizeLine/\Pv (i+1) σ2 (upd H5 A<|.lst<|ys++[v]) else Pv (i+1) σ2 H4)
  (hd:∀ σ' H',Pv xs.length σ' H'->after H'):iY X N' scope tg ifs elt (Hj X.K a xs) A after σ H:=by
 refine⟨λi m σ' H'=>m=xs.length - i/\i<=xs.length/\Pv i σ' H',⟨_,rfl,Bo _,h0⟩,?_⟩;rintro i m σ' H' ⟨rfl,hi,p⟩;have q:=hl i σ' H' hi p
 by_cases aM:i < xs.length
 ·refine .inr ⟨⟨aM,q⟩,Pv<|i+1,λσ' H' p'=>⟨xs.length - (i+1),by omega,rfl,aM,p'⟩,λv H2 y=>?_⟩;obtain⟨rfl,hx⟩:=y;exact hs i v σ' _ aM hx p
 ·have e:i=xs.length:=by omega
  subst e;exact .inl ⟨⟨Am _,q⟩,hd σ' H' p⟩
end
end L2
namespace PySem
open PySem.Spec
section
variable{prog:Program}{w:World}{A:Around}{E:Value->Shared->Prop}{s:Shared}
theorem q0r:typeLookup (.type "list_reverseiterator") "__len__" = pure none:=by rw [QJ,JH];kernel_rfl
theorem q3r:typeLookup (.type "list_reverseiterator") "__length_hint__" = pure (some<|.builtin "list_reverseiterator.__length_hint__"):=by rw [QJ,JH];kernel_rfl
theorem k8c{r:Addr}{Q:Bool->Shared->Prop}(hT:s.TypeIs (.ref r) "list_reverseiterator")(h:Q false s):wpAny (model prog w) A (Builtin.List.listLengthHint<|.ref r) Q E s:=by
 unfold Builtin.List.listLengthHint;refine BJ<|HN hT q0r ?_
 wp_delta
 refine GZ (λb5=>absurd b5<|by decide) λ_=>?_;refine GZ (λb5=>absurd b5<|by decide) λ_=>?_;refine BJ<|HN hT q3r ?_;generalize Ql:("list_reverseiterator.__length_hint__" : String)=id0
 wp_delta
 rw [show splitId id0=some ("list_reverseiterator","__length_hint__") from by subst Ql;decide +kernel];subst Ql;refine BJ (wpAny_isInstance (T:= "list_reverseiterator") (b:=true) hT (by rw [isSubtype_type];kernel_rfl) ?_);refine GZ (λb5=>absurd b5<|by decide) λ_=>?_;refine GZ (λ_=>?_) (λb5=>absurd (by decide +kernel) b5);refine GZ (λb5=>absurd b5<|by decide +kernel) λ_=>?_;exact BP h
theorem k7o{I l S:Addr}{items:Array Value}{R:Result->Shared->Prop}(hh:A.handled=none)(hit:s.heap.IsRevIter I l<|(items.size:Int) - 1)(hl:s.heap.IsList l items)(bA:l≠I)(uP:S≠I)(x6:S≠l)(res:Value)(c₀:Nat)(hS:s.heap.get? S=some {cls:= .type "list",data:= .seq #[] c₀})(hn:items.size<=sizeLine)
  (hR:∀ h' tk cQ c',(∀ b o,b≠S->b≠I->s.heap.get? b=some o->h'.get? b=some o)->h'.get? S=some {cls:= .type "list",dict:=none,data:= .seq cQ c',slots:=#[]}->ItemsOf (λi v=>items[items.size - 1 - i]?=some v) cQ items.size->R (.ok<|.ret res) {s with heap:=h',toks:=tk}) :
  wpAny (model prog w) A.in1 (Builtin.List.listExtendWith (.ref S) (.ref I) res)
   (λfin s'=>match fin with | .done f=>R (.ok f) s' | .again c'=>c'.quiet=true/\codeAny (model prog w) A c' R s') (λe s'=>R (.error e) s') s:=by
 have W:=Walks.listRev (prog:=prog) (w:=w) (A:=A.in1) hh I l bA items;have Qm:S∉[I,l]:=by simp only [Ah,Bm,DR,not_or];exact⟨uP,x6⟩
 have xV:∀ h:Heap,h.IsRevIter I l ((items.size:Int) - 1)->h.IsList l items->0<=items.size/\h.IsRevIter I l ((items.size:Int) - 1 - ((0:Nat):Int))/\h.IsList l items:=λh a b=>⟨Bo _,by rw [show(items.size:Int) - 1 - ((0:Nat):Int)=(items.size:Int) - 1 by omega];exact a,b⟩;have key:∀(h:Heap) (c₁ tk:Nat),(0<=items.size/\h.IsRevIter I l ((items.size:Int) - 1 - ((0:Nat):Int))/\h.IsList l items)->(∀ b o,b≠S->s.heap.get? b=some o->h.get? b=some o) ->
   h.get? S=some {cls:= .type "list",data:= .seq #[] c₁}->codeAny (model prog w) A (.builtin "list.extend.loop" ⟨[.ref S,.ref I,res],[]⟩) R {s with heap:=h,toks:=tk}:=by
  intro h c₁ tk cD hk hS₁;refine codeAny_extend_loopS W.toS hn S Qm res items.size 0 _ #[] c₁ rfl (Bo _) cD hS₁ (ItemsOf.nil _) λs' cQ c' hm uQ eU=>?_;rw [Moved.eq_with hm];refine hR s'.heap s'.toks cQ c' (λb o hb hI e=>hm.heap b o (λjv=>?_)<|hk b o hb e) uQ eU
  rcases Ah.mp jv with e' | jv
  ·exact hb e'
  ·exact hI<|Aj.mp jv
 unfold Builtin.List.listExtendWith;refine BJ<|JN (T:= "list_reverseiterator") hit.typeIs ?_;have h1:Builtin.List.listSameRef (.ref S) (.ref I)=false:=by simp [Builtin.List.listSameRef,uP]
 have h2:(Value.type "list_reverseiterator" == Value.type "list")=false:=by decide +kernel
 have h3:(Value.type "list_reverseiterator" == Value.type "tuple")=false:=by decide +kernel
 simp only [h1,h2,h3,Bool.or_false,Bg,CJ];refine BJ<|JW hit ?_;refine BJ<|CT<|k8c hit.typeIs ?_;refine GZ (λ_=>?_) λ_=>BP ⟨JF OD _,key _ c₀ _ (xV _ hit hl) (λb o _ e=>e) hS⟩;refine BJ<|IV ?_;refine BJ ?_;show wpAny _ _ (updateSeq S (·.push .none) >>= λ_=>updateSeq S (·.pop)) _ _ _;refine BJ<|QS hS rfl ?_;have hS₂:=Em (Obj.mapSeq (·.push Value.none)) hS rfl;refine QS (hz:=by seq_fits) hS₂ rfl ?_;have hS₃:=Em (Obj.mapSeq (·.pop)) hS₂ rfl;refine BP ⟨JF OD _,key _ _ _ ?_ (λb o hb e=>?_) hS₃⟩
 ·refine W.frame 0 _ _ (xV _ hit hl) λb hb o e=>?_;have Qn:b≠S:=λh=>Qm<|h ▸ hb;exact(Ch _ _<|Ne.symm Qn).trans<|(Ch _ _<|Ne.symm Qn).trans e
 ·exact(Ch _ _<|Ne.symm hb).trans<|(Ch _ _<|Ne.symm hb).trans e
theorem k7y{I l S:Addr}{items:Array Value}{R:Result->Shared->Prop}(hh:A.handled=none)(hit:s.heap.IsRevIter I l<|(items.size:Int) - 1)(hl:s.heap.IsList l items)(bA:l≠I)(uP:S≠I)(x6:S≠l)(hS:s.heap.get? S=some {cls:= .type "list",data:= .seq #[]})(hn:items.size<=sizeLine)
  (hR:∀ h' tk cQ c',(∀ b o,b≠S->b≠I->s.heap.get? b=some o->h'.get? b=some o)->h'.get? S=some {cls:= .type "list",dict:=none,data:= .seq cQ c',slots:=#[]}->ItemsOf (λi v=>items[items.size - 1 - i]?=some v) cQ items.size->R (.ok<|.ret .none) {s with heap:=h',toks:=tk}) :
  wpAny (model prog w) A.in1 (Builtin.«list.__init__» ⟨[.ref S,.ref I],[]⟩)
   (λfin s'=>match fin with | .done f=>R (.ok f) s' | .again c'=>c'.quiet=true/\codeAny (model prog w) A c' R s') (λe s'=>R (.error e) s') s:=by
 show wpAny _ _ (do let old <- Builtin.List.listItems<|.ref S;Builtin.List.listUpdate (.ref S) (λ_=>#[]);letGo old.toList.reverse;Builtin.List.listExtendWith (.ref S) (.ref I) .none) _ _ s;refine BJ ?_;unfold Builtin.List.listItems;refine BJ<|KC hS rfl (BP ?_);show wpAny _ _ (updateSeq S (λ_=>#[]) >>= λ_=>letGo (#[]:Array Value).toList.reverse >>= λ_=>Builtin.List.listExtendWith (.ref S) (.ref I) .none) _ _ s;refine BJ<|QS hS rfl ?_;have hS₂:=Em (Obj.mapSeq λ_=>(#[]:Array Value)) hS rfl;have aE:∀ b o,b≠S->s.heap.get? b=some o->(s.heap.update S<|Obj.mapSeq λ_=>(#[]:Array Value)).get? b=some o:=
  λb o hb e=>(Ch _ _<|Ne.symm hb).trans e
 refine BJ<|wpAny_letGo ?_;refine k7o hh (hit.at λo e=>aE I o (Ne.symm uP) e) (hl.at λo e=>aE l o (Ne.symm x6) e) bA uP x6 .none _ hS₂ hn λh' tk cQ c' hk uQ eU=>?_;exact hR h' tk cQ c' (λb o hb hI e=>hk b o hb hI<|aE b o hb e) uQ eU
theorem k9n{I l:Addr}{items:Array Value}{Q:Value->Shared->Prop}(hh:A.handled=none)(hit:s.heap.IsRevIter I l<|(items.size:Int) - 1)(hl:s.heap.IsList l items)(bA:l≠I)(hn:items.size<=sizeLine)
  (hQ:∀ h' tk cQ c',(∀ b o,b≠I->s.heap.get? b=some o->h'.get? b=some o)->h'.get? s.heap.objs.size=some {cls:= .type "list",dict:=none,data:= .seq cQ c',slots:=#[]}->ItemsOf (λi v=>items[items.size - 1 - i]?=some v) cQ items.size->Q (.ref s.heap.objs.size) {s with heap:=h',toks:=tk}) :
  wpAny (model prog w) A (call (.type "list") [.ref I]) Q E s:=by
 refine callType_codes (Q₁:=λobj s₁=>obj = .ref s.heap.objs.size/\s₁={s with heap:=s.heap.push {cls:= .type "list",data:= .seq #[]}}) PySem.F.called_list (PySem.F.typeCall_list_1 _) PySem.F.entry_list_init
  (code_list_new _ ⟨rfl,rfl⟩) λobj s₁ h₁=>?_
 obtain⟨rfl,rfl⟩:=h₁;have hS:(s.heap.push {cls:= .type "list",data:= .seq #[]}).get? s.heap.objs.size=some {cls:= .type "list",data:= .seq #[]}:=Ba _ rfl;have l1:I < s.heap.objs.size:=by obtain⟨o,ho,_⟩:=hit;exact Ax ho
 have l2:l < s.heap.objs.size:=by obtain⟨o,ho,_⟩:=hl;exact Ax ho
 refine⟨⟨_,hS,rfl⟩,PySem.F.args_list_init_2 _ _,k7y (A:=A.in1) hh (hit.at λo e=>Ai _ e) (hl.at λo e=>Ai _ e) bA (Di l1) (Di l2) hS hn λh' tk cQ c' hk uQ eU=>?_⟩;exact⟨rfl,hQ h' tk cQ c' (λb o hI e=>hk b o (Bx<|Ax e) hI<|Ai _ e) uQ eU⟩
end
end PySem
namespace L2
open PySem PySem.Spec PyProof.Rows
section
variable{X:Cx}
theorem k2p{a:Expr}{ta:TA}{p p0 pos oU:Pos}(hc:X.calm=true)(Hl:Gl X "list")(Hm:X.mg "list" = none)(hg:Gl X "reversed")(hm:X.mg "reversed" = none)(ha:PA X [a] ta)(hs:starEach [a] X.env=[(false,eval a X.env)]:=by rfl)
  (x8:starEach [.Call (.Name "reversed" p) [a] [] pos] X.env=[(false,eval (.Call (.Name "reversed" p) [a] [] pos) X.env)]:=by rfl) :
  PE X (.Call (.Name "list" p0) [.Call (.Name "reversed" p) [a] [] pos] [] oU) (λσ H Q=>ta σ H λvs H1=>∃ b ys,vs=[.ref b]/\ao X.K H1 b ys/\∀ l,H1 l=none->Q (.ref l) (upd H1 l<|.lst ys.reverse)):=by
 intro pins s σ H Q I h;refine Call_<|iG I Hl Hm PyProof.Rows.boot_list<|CV ?_ x8 rfl;rw [x8];show wpAny _ _ (spliced<|(false,eval (.Call (.Name "reversed" p) [a] [] pos) X.env) :: []) _ _ s;refine Calls.spliced_cons ?_;refine Call_<|iG I hg hm boot_reversed<|CV (aI (ha pos pins s σ H _ I h) λus s1 ⟨vs,H1,I1,r1,q1⟩=>?_) hs rfl;obtain⟨x,ys,e,hx,q⟩:=q1;subst e;obtain⟨u,rfl,ru⟩:=r1.one;cases (show u=Value.ref x from ru);obtain⟨its,rv,pl,hz⟩:=I1.list hx;have l1:=rv.length;refine call_reversed_list pl.isList ?_;refine Calls.spliced_nil ?_;have hit:(s1.heap.push<|revObj x<|(its.toArray.size:Int) - 1).IsRevIter s1.heap.objs.size x ((its.toArray.size:Int) - 1):=⟨_,Ba _ rfl,rfl,rfl⟩;have aM:x < s1.heap.objs.size:=by obtain⟨o,ho,_⟩:=pl.isList;exact Ax ho
 refine k9n (s:={s1 with heap:=_}) (I1.ok.hd hc) hit (pl.isList.at λo e=>Ai _ e) (Bx aM) (by rw [Au];omega) λh' tk acc c' hk hS eU=>?_;have sz:(s1.heap.push<|revObj x<|(its.toArray.size:Int) - 1).objs.size=s1.heap.objs.size+1:=by simp [Heap.push]
 have n1:its.toArray.size=ys.length:=by rw [Au,<- l1]
 have rr:aw ys.reverse acc.toList:=by
  refine VS (by rw [Ce,eU.1,Gy];omega) λj u hu=>?_;have hj:j < ys.length:=by
   have:=(Ac.mp hu).1;rw [Ce,eU.1] at this;omega
  have g:=eU.2 j u (by rw [<- Bq];exact hu);rw [n1] at g;obtain⟨v,hv,rvv⟩:=rv.get (Ab (show ys.length - 1 - j < ys.length by omega));have g:its[ys.length - 1 - j]?=some u:=by simpa using g
  rw [hv] at g;cases g;exact⟨_,by rw [Gj hj,Ab (show ys.length - 1 - j < ys.length by omega)],rvv⟩
 exact⟨.ref (s1.heap.push<|revObj x<|(its.toArray.size:Int) - 1).objs.size,_,I1.laid (t':=tk) (λb o e=>hk b o (Bx<|Ax e)<|Ai _ e) (by rw [sz];exact Ft _) (show ay X.prog X.w _ h' _ (.lst ys.reverse) from⟨by rw [Gy];exact hz,acc.toList,c',rr,by rw [Array.toArray_toList];exact hS⟩),rfl,q _<|I1.aD.fresh<|by rw [sz];exact Ft _⟩
theorem k2t{a:Expr}{σ:St}{H:Hp}{Q:VK}{p p0 pos oU:Pos}(Hm:X.mg "list" = none)(hm:X.mg "reversed" = none)(h:Ea X [a] σ H λvs H1=>∃ b ys,vs=[.ref b]/\ao X.K H1 b ys/\∀ l,H1 l=none->Q (.ref l) (upd H1 l<|.lst ys.reverse))(hc:X.calm=true:=by rfl)(Hl:Gl X "list":=by rfl)(hg:Gl X "reversed":=by rfl)(hs:starEach [a] X.env=[(false,eval a X.env)]:=by rfl)
  (x8:starEach [.Call (.Name "reversed" p) [a] [] pos] X.env=[(false,eval (.Call (.Name "reversed" p) [a] [] pos) X.env)]:=by rfl):Ev X (.Call (.Name "list" p0) [.Call (.Name "reversed" p) [a] [] pos] [] oU) σ H Q:=dc (k2p hc Hl Hm hg hm eI hs x8) h
end
end L2
namespace X4
open PySem L2 Nt bB
theorem Hn(K:PySem.W.Frag):PySem.W.kitOne K (.type "int") (.type "int")=some true:=by rfl
theorem Ho(K:PySem.W.Frag):PySem.W.kitOne K (.type "int") (.type "bool")=some false:=by rfl
def Hq:Sp:=λvs H Q _=>∃ i:Int,vs=[.int i]/\Q (.bl true) H
def x9(K:PySem.W.Frag):Sp:=λvs H Q _=>∃(a:Addr) (ns:List Int),vs=[.ref a]/\ao K H a (ns.map V.int)/\ns.length<=63/\∀ H',Q (.bl true) H'
theorem q04{n:Net}{i:Nat}{w:List Nt.End}(h:(bq n)[i]?=some w):(bQ n)[i]?=some (oT i,w.map<|cC n):=by
 unfold bQ;rw [Ae,List.getElem?_zipIdx,h];simp
theorem q7f{n:Net}{i:Nat}(h:i < n.length):(df n)[i]?=some (n[n.length - 1 - i].1,(row n<|n.length - 1 - i).reverse):=by
 unfold df;rw [Ae,Gj h,Ab (by omega),iU<|by omega];rfl
theorem Hr(n:Net):(bQ n).length=(bq n).length:=by unfold bQ;simp
theorem q07{k:Nat}(h:k<=1000):(oT k).length<=10:=by
 have:=N7 h;unfold gR at this;unfold oT;rw [MF] at this ⊢;exact this
section
variable{P:Program}{w:World}{K:PySem.W.Frag}{mg:Str->Option Value}{base:Heap}
theorem Hs:au ["_law_found"] ["_law_found"] (bg zY):=⟨rfl,rfl,rfl,by decide +kernel,rfl,by decide +kernel,by decide +kernel⟩
theorem k7f{f:Addr}{fd:FuncData}(F:bX K "_law_whole" "_law_whole" zY f fd)(T:Txt mg):aJ P w K mg base bT 1 f fd ["_law_found"] Hq:=by
 refine F.gb Hs (λvs H Q E h=>?_) λb0 H vs Q E hr h=>?_
 ·obtain⟨i,rfl,_⟩:=h;rfl
 obtain⟨i,rfl,q⟩:=h;show Run _ _ _ [some<|.int i] H;refine cA<|Ub<|cZ Ji T.Kr KD<|aq<|ae 0<|aq<|Jn (.ty "int") T.nO JG rfl (aB ⟨_,_,_,true,rfl,.int i,Hn K,true,rfl,?_⟩);exact bW<|Uc<|Ua<|cZ Ji T.Kr KD<|aq<|ae 0<|aq<|Jn (.ty "bool") T.rH PyProof.Rows.boot_bool rfl (aB ⟨_,_,_,false,rfl,.int i,Ho K,false,rfl,q⟩)
abbrev NW:List Str:=["_law_script","_law_stem","_law_rows","_law_faces_here","_law_other_here","_law_turned","_law_told"]
abbrev Qo:List Str:=["_law_script","_law_stem","_law_rows","_law_faces_here","_law_other_here","_law_turned","_law_told","_law_k"]
abbrev Qp:List Str:=["_law_script","_law_stem","_law_rows","_law_faces_here","_law_other_here","_law_turned","_law_told","_law_point","_law_row"]
theorem mC:au NW ["_law_script"] (bg i6):=⟨rfl,rfl,rfl,by decide +kernel,rfl,by decide +kernel,by decide +kernel⟩
theorem q74:Qo.Nodup:=by decide +kernel
theorem Qq:Qp.Nodup:=by decide +kernel
theorem q4k{f:Addr}{fd:FuncData}(F:bX K "law" "law" i6 f fd)(T:Txt mg)(GC:bh P w K mg base 5 "_law_cell_at" ["_law_script","_law_k"]<|vV K)(GB:bh P w K mg base 5 "_law_big" ["_law_script","_law_at"]<|z7 K)
  (GN:bh P w K mg base 5 "_law_net_by" ["_law_big_here","_law_most","_law_stem"] CA) (GK:bh P w K mg base 5 "_law_faces" ["_law_rows"] GA)
  (GY:bh P w K mg base 5 "tree_count" ["rows"] E1) (GO:bh P w K mg base 5 "other_net" ["rows"] EA) (GW:bh P w K mg base 5 "_law_whole" ["_law_found"] Hq):aJ P w K mg base bT 6 f fd ["_law_script"] (x9 K):=by
 refine F.gb mC (λvs H Q E h=>?_) λb0 H vs Q E hr h=>?_
 ·obtain⟨a,ns,rfl,_⟩:=h;rfl
 obtain⟨a,ns,rfl,hS,h63,q⟩:=h;have nd:=mC.nd;show Run _ _ _ [some<|.ref a,none,none,none,none,none,none] H;refine a8 1 nd (aW cY<|b4 GC hr<|aq<|ae 0<|aq<|aF<|aB ⟨a,ns,0,rfl,hS,by decide,λc0=>?_⟩);refine aW yy (aF<|aF ⟨_,_,rfl,rfl,⟨by decide,by decide,by decide⟩,_,_,rfl,rfl,(by show(0:Int) < 10 ^ (18:Int).toNat;decide),?_⟩);show Run _ _ _ [some<|.ref a,some<|.int<|c0 % 10 ^ (18:Int).toNat,none,none,none,none,none] H;generalize c0 % 10 ^ (18:Int).toNat=gq;refine a8 2 nd (b4 GN hr<|aq<|b4 GB hr<|aq<|ae 0<|aq<|aF<|aB ⟨a,ns,1,rfl,hS,by decide,λb H1 s1=>?_⟩);refine aq (aF<|aq<|ae 1<|aB ⟨_,24,_,rfl,by decide,by decide,λR as n H2 s2 n2 hR hT hN hF hf jT D6 has=>?_⟩);have e24:((24:Int)).toNat=24:=rfl;rw [e24] at jT D6;have h0:n≠[]:=hF.some;have iI:0 < n.length:=Cp.mpr h0;have pT:=ik n;have xl:=K' n;have cq:=hR.len;obtain⟨ss,cU,mem⟩:=LY<|ag n;have mo:∀ z,z∈ss↔z∈ag (aE n):=λz=>(mem z).trans (uH hT).mem_iff.symm;have To:=jx hT;have lo:(aE n).length=(bq n).length:=xk n<|bq n;have No:((aE n).map (·.1)).Nodup:=k5l (by omega);have B4:0 < (bq n).length:=by
  unfold bq
  split
  ·exact Gp
  ·rename_i c;cases hx:ends n with
   | nil=>exact absurd hx c
   | cons x xs=>
    unfold eO;rw [BK Bm];exact Ee _
 have o0:aE n≠[]:=λk=>by rw [<- Bb,lo] at k;omega
 have go:bO (aE n):=by
  by_cases c:ends n=[]
  ·have:aE n=[(gR 0,[])]:=by unfold aE bq;rw [BL c];rfl
   rw [this];exact LN _
  ·exact k8m hT hN hf.1 c
 have SQ:=k3w n;have mQ:∀ z,z∈ss↔z∈ag (bQ n):=λz=>by rw [SQ.ag];exact mo z
 have TQ:=SQ.twice To;have NQ:((bQ n).map (·.1)).Nodup:=k2n (by omega);have gQ:=SQ.Hg No go;have Q0:bQ n≠[]:=λk=>by rw [<- Bb,Hr] at k;omega
 have mR:∀ z,z∈ss↔z∈ag (df n):=λz=>(mem z).trans cP.mem_iff.symm;have r0:df n≠[]:=λk=>by rw [<- Bb,uO] at k;omega
 have tl:(ag<|aE n).length=(ag n).length:=(uH hT).length_eq;have tO:dG (aE n) ss=dG n ss:=q47 hT hN No h0 o0 hf go cU mem;have tQ:dG (bQ n) ss=dG n ss:=by rw [Qg To No o0 go TQ NQ Q0 gQ cU mo mQ SQ.ev];exact tO
 have tR:dG (df n) ss=dG n ss:=Qg hT hN h0 hf.1 (Hh hT) (Hi hN) r0 (Qj hf.1) cU mem mR q6l;show Run _ _ _ [some<|.ref a,some<|.int gq,some<|.ref R,none,none,none,none] H2;refine a8 3 nd (b4 GK hr<|aq<|ae 2<|aB ⟨R,as,n,rfl,hR,hT,by omega,by omega,λL ls H3 s3 n3 hL f3=>?_⟩);have lls:=hL.len;show Run _ _ _ [some<|.ref a,some<|.int gq,some<|.ref R,some<|.ref L,none,none,none] H3;refine zy 4 (bg i6) NW Qo 1 nd (yt rfl T.range eI)<|aq<|cZ dU T.len DG<|aq<|ae 3<|aB ⟨L,_,rfl,.inl<|ao.of hL.lst,aB ⟨_,rfl,?_,?_,λD hD=>?_⟩⟩
 ·rw [Aa];omega
 ·rw [Aa];omega
 rw [Aa,Ca,lls];refine k8x (λi σ' H'=>(∃ v,σ'=[some<|.ref a,some<|.int gq,some<|.ref R,some<|.ref L,none,none,none]++[v])/\ak H3 H'/\∃ bs,gU H2 H' D bs ((bQ n).take i)/\bs.map (·.2)=ls.take i) ⟨⟨_,rfl⟩,aT hD _,[],gU.nil aA,rfl⟩ ?_ ?_
 ·rintro i σ' H' hi ⟨⟨v,rfl⟩,sm,bs,hB,eb⟩;have iM:i < ls.length:=by omega
  have aM:(bq n)[i]?=some ((bq n)[i]):=Ab hi;have jM:ls[i]?=some (ls[i]):=Ab iM;generalize (bq n)[i]=wi at aM;generalize ls[i]=l at jM;have el:=sm _ _<|hL.at' i l wi jM aM;have bl:bs.length=i:=by
   have:=BZ List.length eb;rw [Aa,Bl] at this;omega
  rw [Dj];intro uR C' s₀ H₀ ex;refine bz 7 q74 ?_;intro uR C' s₀ H₀ ex;refine fq<|bW ?_;intro uR C' s₀ H₀ ex;refine dW<|aq<|aW Iu<|vq<|vy k4o T.z6 PyProof.Rows.boot_str<|aq<|ae 7<|aB ⟨(i:Int),rfl,N6 (by omega),_,_,rfl,rfl,?_,?_⟩
  ·rw [<- MF];have:=q07 (k:=i) (by omega);exact small (show(oT i).length<=100000 by omega)
  refine aq (bb cG<|ae 3<|ae 7 ⟨L,_,_,.ref l,rfl,rfl,ao.of<|sm _ _ hL.lst,j6 (by rw [Ae,jM];rfl),aB ⟨Z2,λt ht=>?_⟩⟩);have add:=hB.add (p:=oT i) (zs:=wi.map<|cC n) el (f3 l<|Al jM) (λk=>by
   rw [eb] at k;obtain⟨j,hj⟩:=Av k;have jl:=(Ac.mp hj).1;rw [Bl] at jl;rw [Da<|by omega] at hj;have:=xA hL.fM hj jM;omega) (λe=>by
   have:=hL.at' i l wi jM aM;rw [e,hD] at this;cases this) ht<|iw (s3.trans sm) ht
  refine⟨bs.map λa=>V.ref a.1,?_,?_,⟨_,rfl⟩,?_,bs++[(t,l)],?_,?_⟩
  ·rw [ax λe=>by rw [<- e,hB.rows.lst] at ht;cases ht];exact hB.rows.lst
  ·rw [Aa,bl];exact cn<|by omega
  ·exact dC (sm.trans<|aT ht _) hD
  ·rw [Bw,q04 aM];exact add
  ·rw [Ak,eb,Bw,jM];rfl
 rintro σ' H4 ⟨_,s4,bs,hB,eb⟩;rw [show(bQ n).take (bq n).length=bQ n by rw [<- Hr,Bs]] at hB;have gL:=(hR.same s3).same s4;show Run _ _ _ [some<|.ref a,some<|.int gq,some<|.ref R,some<|.ref L,some<|.ref D,none,none] H4;refine zy 5 (bg i6) NW Qp 2 nd (q35 rfl T.rev eI)<|aq<|ae 2<|aB ⟨R,_,rfl,ao.of gL.lst,λD2 fN=>?_⟩;have lv:(as.map λa=>V.ref a.1).length=n.length:=by rw [Aa,cq]
 refine k3j (λi σ' H'=>(∃ v1 v2,σ'=[some<|.ref a,some<|.int gq,some<|.ref R,some<|.ref L,some<|.ref D,none,none]++[v1,v2])/\ak H4 H'/\∃ bs,gU H4 H' D2 bs<|(df n).take i) ⟨⟨_,_,rfl⟩,aT fN _,[],gU.nil aA⟩ ?_ ?_ ?_
 ·rintro i σ' H' _ ⟨_,sm,_⟩;exact ao.of<|sm _ _ gL.lst
 ·rintro i x σ' H' hi hx ⟨⟨v1,v2,rfl⟩,sm,uS,oV⟩;rw [lv] at hi hx;have hj:n.length - 1 - i < n.length:=by omega
  obtain⟨b,eb',P',et,el,er⟩:=(gL.same sm).at hj;rw [Ae,eb'] at hx;cases hx;have bl:uS.length=i:=by rw [oV.rows.len,Bl,uO];omega
  intro uR C' s₀ H₀ ex;refine jb rfl (aQ.of et) (bz 7 Qq<|bz 8 Qq ?_);intro uR C' s₀ H₀ ex;refine fq<|bW ?_;intro uR C' s₀ H₀ ex;refine dW<|aq<|ae 7<|aq<|k2t T.rJ T.rev<|aq<|ae 8<|aB ⟨b.2,_,rfl,ao.of el,λl hl=>?_⟩;have Qr:(upd H' l<|.lst ((row n<|n.length - 1 - i).map V.str).reverse) l=some (Ls (row n<|n.length - 1 - i).reverse):=by rw [aA];show _=some (HO.lst<|List.map V.str<|List.reverse _);rw [List.map_reverse]
  have sl:=aT hl<|.lst ((row n<|n.length - 1 - i).map V.str).reverse;generalize upd H' l (.lst ((row n<|n.length - 1 - i).map V.str).reverse)=H6 at Qr sl;refine aB ⟨Z2,λt ht=>?_⟩;have uN:=oV.same sl;have add:=uN.add (p:=n[n.length - 1 - i].1) (zs:=(row n<|n.length - 1 - i).reverse) Qr (iw sm hl) (λk=>by
   obtain⟨a',pQ,e'⟩:=An.mp k;have:=(oV.kY pQ).2;rw [e',hl] at this;exact this rfl) (λe=>by rw [e,oV.rows.lst] at hl;cases hl) ht<|iw (sm.trans sl) ht
  refine⟨uS.map λa=>V.ref a.1,?_,?_,⟨_,_,rfl⟩,?_,uS++[(t,l)],?_⟩
  ·rw [ax λe=>by rw [<- e,uN.rows.lst] at ht;cases ht];exact uN.rows.lst
  ·rw [Aa,bl];exact cn<|by omega
  ·exact dC (sm.trans<|sl.trans<|aT ht _) fN
  ·rw [Bw,q7f hi];exact add
 rintro σ' H5 ⟨_,s5,uS,oV⟩;rw [lv,show(df n).take n.length=df n by rw [<- uO,Bs]] at oV;have lZ:=gL.same s5;have ju:=hB.same s5;show Run _ _ _ [some<|.ref a,some<|.int gq,some<|.ref R,some<|.ref L,some<|.ref D,some<|.ref D2,none] H5;refine a8 6 nd (b4 GY hr<|aq<|ae 2<|aB ⟨R,as,n,rfl,lZ,hT,hN,h0,by omega,by omega,hf.1,λls1 H6 s6 so lm=>?_⟩);rw [xK hT hN so lm cU mem];show Run _ _ _ [some<|.ref a,some<|.int gq,some<|.ref R,some<|.ref L,some<|.ref D,some<|.ref D2,some<|.int<|dG n ss] H6;refine hU<|zf<|Jr<|Jo<|Ue<|b4 GW hr<|aq<|ae 6<|aB ⟨_,rfl,_,rfl,cL ?_⟩;refine Jr (fW yz<|b4 GY hr<|aq<|ae 4<|aB ⟨D,bs,bQ n,rfl,ju.rows.same s6,TQ,NQ,Q0,by rw [Hr];omega,by rw [SQ.ag,tl];omega,gQ,λls2 H7 s7 so2 lm2=>ae 6 ⟨rfl,_,rfl,?_⟩⟩);rw [xK TQ NQ so2 lm2 cU mQ];have e1:(!decide (V.int (dG (bQ n) ss)=V.int (dG n ss)))=false:=by rw [tQ,BW rfl];rfl
 rw [show Dt.De ((List.range<|(bQ n).length - 1).map (·+1)) (ss.map<|cw<|bQ n)=dG (bQ n) ss from rfl,e1];refine cL (Ug<|fW yz<|b4 GY hr<|aq<|ae 5<|aB ⟨D2,uS,df n,rfl,(oV.rows.same s6).same s7,Hh hT,Hi hN,r0,by rw [uO];omega,by rw [cP.length_eq];omega,Qj hf.1,λls3 H8 s8 so3 lm3=>ae 6 ⟨rfl,_,rfl,?_⟩⟩);rw [xK (Hh hT) (Hi hN) so3 lm3 cU mR];have e2:(!decide (V.int (dG (df n) ss)=V.int (dG n ss)))=false:=by rw [tR,BW rfl];rfl
 rw [show Dt.De ((List.range<|(df n).length - 1).map (·+1)) (ss.map<|cw<|df n)=dG (df n) ss from rfl,e2];have hR8:=(lZ.same s6).same<|s7.trans s8;refine cL (bn<|cA<|zc ph<|b4 GY hr<|aq<|b4 GO hr<|aq<|ae 2<|aB ⟨R,as,n,rfl,hR8,hN,hT,by omega,by omega,λM bs3 H9 s9 n9 f9 hM nM=>aB ⟨M,bs3,aE n,rfl,hM,To,No,o0,by rw [lo];omega,by rw [tl];omega,go,λls4 FC uo so4 lm4=>ae 6 ⟨rfl,?_⟩⟩⟩);rw [xK To No so4 lm4 cU mo];have e3:decide (V.int (dG (aE n) ss)=V.int (dG n ss))=true:=by rw [tO];exact BW rfl
 rw [show Dt.De ((List.range<|(aE n).length - 1).map (·+1)) (ss.map<|cw<|aE n)=dG (aE n) ss from rfl,e3];exact q _
end
end X4
namespace X4
open PySem L2
theorem all_mk{l:PySem.W.OpenLaw}{w:World}{K:PySem.W.Frag}{h:Heap}{mg:Str->Option Value}{fa:Addr}(X:K.In h)(G:h.Ns mainGlobals mg)(zC:mg "law" = some (.ref fa))
  (h1:Df K "ends_round" vP) (h2:Df K "ends_in_order" vQ) (h3:Df K "turned_left" zM) (h4:Df K "other_ends" zN) (h5:Df K "ties_by_end" vR) (h6:Df K "left_steps" vS) (h7:Df K "faces_of" zO) (h8:Df K "face_from" zP) (h9:Df K "points_of" vT) (Ht:Df K "links_of" zQ) (Hu:Df K "tree_count" zR) (Hv:Df K "tie_table" lN) (Hw:Df K "determinant" nH) (Hx:Df K "other_net" nI) (Hy:Df K "_law_cell_at" zS) (Hz:Df K "_law_big" nJ) (HA:Df K "_law_names" zT) (HC:Df K "_law_seats" zU) (HE:Df K "_law_other" zV) (HG:Df K "_law_step" zW) (HH:Df K "_law_face" zX) (HI:Df K "_law_put" nK) (HK:Df K "_law_net_by" nN) (HL:Df K "_law_whole" zY) (HM:Df K "_law_faces" vU) (hl:Df K "law" i6)
  (z:∀ x∈(["isinstance","tuple","str","int","bool","list","dict","set","enumerate","zip","len","range","sorted","max","all","reversed"]:List Str),PySem.W.nsIn K mainGlobals x=some none) :
  ∃ fd:FuncData,(∀(s:Shared) (v:Value),BindsTo s fd ⟨[v],[]⟩ [("_law_script",v)])/\∀ base:Heap,K.In base->base.Ns mainGlobals mg->aJ l.prog w K mg base bT 6 fa fd ["_law_script"] (x9 K):=by
 have T:Txt mg:=⟨CK X G (z _<|by simp),CK X G (z _<|by simp),CK X G (z _<|by simp),CK X G (z _<|by simp),CK X G (z _<|by simp),CK X G (z _<|by simp),CK X G (z _<|by simp),CK X G (z _<|by simp),CK X G (z _<|by simp),CK X G (z _<|by simp),CK X G (z _<|by simp),CK X G (z _<|by simp),CK X G (z _<|by simp),CK X G (z _<|by simp),CK X G (z _<|by simp),CK X G<|z _<|by simp⟩;refine hl.law X G zC (λ_ _ _ _ _ _ s v=> .of_eq rfl) λbase f fd F=>?_;have G1:bh l.prog w K mg base 1 "ends_round" ["row"] sE:=h1.has X G (λ_ _ _ _ _ _=>fY λ_=>rfl) λF=>Ym F T;have G2:bh l.prog w K mg base 2 "ends_in_order" ["rows"] C3:=h2.has X G (λ_ _ _ _ _ _=>fY λ_=>rfl) λF=>YB F T (G1.mono<|by decide);have G3:bh l.prog w K mg base 1 "turned_left" ["end","many"] (oj λj=>j+1):=h3.has X G (λ_ _ _ _ _ _=>rA λ_ _=>rfl) λF=>Yp F T;have G4:bh l.prog w K mg base 2 "other_ends" ["rows"] oq:=h4.has X G (λ_ _ _ _ _ _=>fY λ_=>rfl) λF=>Yw F T (G1.mono<|by decide);have G5:bh l.prog w K mg base 2 "ties_by_end" ["rows"] oA:=h5.has X G (λ_ _ _ _ _ _=>fY λ_=>rfl) λF=>YK F T (G1.mono<|by decide);have G6:bh l.prog w K mg base 3 "left_steps" ["rows"] (oC 1):=h6.has X G (λ_ _ _ _ _ _=>fY λ_=>rfl) λF=>YM F T (G4.mono<|by decide) (G3.mono<|by decide);have G8:bh l.prog w K mg base 1 "face_from" ["steps","first"] oG:=h8.has X G (λ_ _ _ _ _ _=>rA λ_ _=>rfl) λF=>q8g F T;have G7:bh l.prog w K mg base 4 "faces_of" ["rows"] DU:=h7.has X G (λ_ _ _ _ _ _=>fY λ_=>rfl) λF=>k9a F T (G2.mono<|by decide) (G6.mono<|by decide) (G8.mono<|by decide);have G14:bh l.prog w K mg base 5 "other_net" ["rows"] EA:=Hx.has X G (λ_ _ _ _ _ _=>fY λ_=>rfl) λF=>q2p F T (G5.mono<|by decide) (G7.mono<|by decide);have G9:bh l.prog w K mg base 1 "points_of" ["rows"] EX:=h9.has X G (λ_ _ _ _ _ _=>fY λ_=>rfl) λF=>q6u F T;have G10:bh l.prog w K mg base 1 "links_of" ["rows"] EB:=Ht.has X G (λ_ _ _ _ _ _=>fY λ_=>rfl) λF=>k7m F T;have G12:bh l.prog w K mg base 2 "tie_table" ["rows"] EZ:=Hv.has X G (λ_ _ _ _ _ _=>fY λ_=>rfl) λF=>q4n F T (G9.mono<|by decide) (G10.mono<|by decide);have G13:bh l.prog w K mg base 1 "determinant" ["table"] EK:=Hw.has X G (λ_ _ _ _ _ _=>fY λ_=>rfl) λF=>q5o F T;have G11:bh l.prog w K mg base 3 "tree_count" ["rows"] E1:=Hu.has X G (λ_ _ _ _ _ _=>fY λ_=>rfl) λF=>q5r F T (G12.mono<|by decide) (G13.mono<|by decide);have Qs:bh l.prog w K mg base 1 "_law_cell_at" ["_law_script","_law_k"] (vV K):=Hy.has X G (λ_ _ _ _ _ _=>rA λ_ _=>rfl) λF=>Vy F T;have G16:bh l.prog w K mg base 2 "_law_big" ["_law_script","_law_at"] (z7 K):=Hz.has X G (λ_ _ _ _ _ _=>rA λ_ _=>rfl) λF=>VB F T (Qs.mono<|by decide);have G17:bh l.prog w K mg base 1 "_law_names" ["_law_stem","_law_many"] z8:=HA.has X G (λ_ _ _ _ _ _=>rA λ_ _=>rfl) λF=>VD F T;have Qt:bh l.prog w K mg base 1 "_law_seats" ["_law_rows"] vW:=HC.has X G (λ_ _ _ _ _ _=>fY λ_=>rfl) λF=>VF F T;have G19:bh l.prog w K mg base 1 "_law_other" ["_law_rows","_law_seats_here","_law_end"] z9:=HE.has X G (λ_ _ _ _ _ _=>zB λ_ _ _=>rfl) λF=>VG F T;have G20:bh l.prog w K mg base 2 "_law_step" ["_law_rows","_law_seats_here","_law_end","_law_turn"] AA:=HG.has X G (λ_ _ _ _ _ _=>JY λ_ _ _ _=>rfl) λF=>VH F T (G19.mono<|by decide);have Qu:bh l.prog w K mg base 3 "_law_face" ["_law_rows","_law_seats_here","_law_end"] vX:=HH.has X G (λ_ _ _ _ _ _=>zB λ_ _ _=>rfl) λF=>VJ F T (G20.mono<|by decide);have G22:bh l.prog w K mg base 4 "_law_put" ["_law_rows","_law_big_here","_law_tie","_law_point"] BQ:=HI.has X G (λ_ _ _ _ _ _=>JY λ_ _ _ _=>rfl) λF=>XM F T (Qt.mono<|by decide) (Qu.mono<|by decide);have G23:bh l.prog w K mg base 5 "_law_net_by" ["_law_big_here","_law_most","_law_stem"] CA:=HK.has X G (λ_ _ _ _ _ _=>zB λ_ _ _=>rfl) λF=>X6 F T (G17.mono<|by decide) (G22.mono<|by decide);have G24:bh l.prog w K mg base 1 "_law_whole" ["_law_found"] Hq:=HL.has X G (λ_ _ _ _ _ _=>fY λ_=>rfl) λF=>k7f F T;have G25:bh l.prog w K mg base 4 "_law_faces" ["_law_rows"] GA:=HM.has X G (λ_ _ _ _ _ _=>fY λ_=>rfl) λF=>k32 F T (Qt.mono<|by decide) (Qu.mono<|by decide);exact q4k F T (Qs.mono<|by decide) (G16.mono<|by decide) (G23.mono<|by decide) (G25.mono<|by decide) (G11.mono<|by decide) (G14.mono<|by decide)<|G24.mono<|by decide
theorem walk{l:PySem.W.OpenLaw}{q:Program}{loose:List Str}{XP:(Str->Option Value)->Heap->Prop}{YP:World->Heap->Prop}{d:DefRec}{K:Params->PySem.W.Frag}(hn:l.most=some 63)(qZ:d.params.defaults=[])
  (hY:∀(w:World) (h:Heap),YP w h->(K w.params).In h)
  (F : ∀ (w : World) (mg : Str → Option Value) (fa : Addr) (h : Heap), (K w.params).In h → h.Ns mainGlobals mg → mg d.name = some (.ref fa) →
   ∃ fd:FuncData,(∀(s:Shared) (u:Value),BindsTo s fd ⟨[u],[]⟩ [("_law_script",u)])/\∀ base:Heap,(K w.params).In base->base.Ns mainGlobals mg->aJ l.prog w (K w.params) mg base bT 6 fa fd ["_law_script"] (x9<|K w.params)) :
  PySem.W.WalkO q loose XP YP l.row.toRowW d [] (λf vs=>PySem.call f vs):=
 L2.j9 (n:=63) (k:=6) (x:= "_law_script") (CX:=λ_=>bT) (sp:=λw=>x9<|K w.params) hn (by decide) qZ ⟨rfl,by decide,by decide⟩ hY F (λ_ _ a ns hl _ hS=>⟨a,ns,rfl,hS,hl,λ_=>rfl⟩) λ_ _ _ _ _ z=>z
end X4
-- see NOTE.md
namespace PySem.W.Fast
def tw1010933196240998636:=()
def tw6709129318886555390:=()
def tw4888325754228863749:=()
def tw7326191935552804625:=()
def tw17425729608312855451:=()
def tw13032163518394114998:=()
def tw3466780581341443250:=()
def tw4142836892875613870:=()
def tw4604150403858252035:=()
def tw16718963041910458311:=()
def tw3241966616507241015:=()
def tw11177576807062975807:=()
end PySem.W.Fast
open PySem PySem.W PyProof.Rows
set_option maxRecDepth 100000 in
set_option maxHeartbeats 0 in
theorem PySem.Challenge.cw_threewebs_k64_the_other_net_has_as_many_holds : PySem.Challenge.rw_threewebs_k64_the_other_net_has_as_many.Holds := by
 w_on;o_law;k_head;(case hw=>w_witness2)
 k_fill
 refine X4.walk (l:=PySem.Challenge.rw_threewebs_k64_the_other_net_has_as_many) rfl rfl (λw h Y=>PySem.W.kIn_of Y) ?F
 case F=>
  intro w mg fa h KX G ra;refine' X4.all_mk KX G ra ?h1 ?h2 ?h3 ?h4 ?h5 ?h6 ?h7 ?h8 ?h9 ?Ht ?Hu ?Hv ?Hw ?Hx ?Hy ?Hz ?HA ?HC ?HE ?HG ?HH ?HI ?HK ?HL ?HM ?h0 ?zz
  case h1=>refine' L2.aP ?a ?l ?c ?k;(case a=>k_is);(case l=>k_is);(case c=>k_is);(case k=>k_is)
  case h2=>refine' L2.aP ?a ?l ?c ?k;(case a=>k_is);(case l=>k_is);(case c=>k_is);(case k=>k_is)
  case h3=>refine' L2.aP ?a ?l ?c ?k;(case a=>k_is);(case l=>k_is);(case c=>k_is);(case k=>k_is)
  case h4=>refine' L2.aP ?a ?l ?c ?k;(case a=>k_is);(case l=>k_is);(case c=>k_is);(case k=>k_is)
  case h5=>refine' L2.aP ?a ?l ?c ?k;(case a=>k_is);(case l=>k_is);(case c=>k_is);(case k=>k_is)
  case h6=>refine' L2.aP ?a ?l ?c ?k;(case a=>k_is);(case l=>k_is);(case c=>k_is);(case k=>k_is)
  case h7=>refine' L2.aP ?a ?l ?c ?k;(case a=>k_is);(case l=>k_is);(case c=>k_is);(case k=>k_is)
  case h8=>refine' L2.aP ?a ?l ?c ?k;(case a=>k_is);(case l=>k_is);(case c=>k_is);(case k=>k_is)
  case h9=>refine' L2.aP ?a ?l ?c ?k;(case a=>k_is);(case l=>k_is);(case c=>k_is);(case k=>k_is)
  case Ht=>refine' L2.aP ?a ?l ?c ?k;(case a=>k_is);(case l=>k_is);(case c=>k_is);(case k=>k_is)
  case Hu=>refine' L2.aP ?a ?l ?c ?k;(case a=>k_is);(case l=>k_is);(case c=>k_is);(case k=>k_is)
  case Hv=>refine' L2.aP ?a ?l ?c ?k;(case a=>k_is);(case l=>k_is);(case c=>k_is);(case k=>k_is)
  case Hw=>refine' L2.aP ?a ?l ?c ?k;(case a=>k_is);(case l=>k_is);(case c=>k_is);(case k=>k_is)
  case Hx=>refine' L2.aP ?a ?l ?c ?k;(case a=>k_is);(case l=>k_is);(case c=>k_is);(case k=>k_is)
  case Hy=>refine' L2.aP ?a ?l ?c ?k;(case a=>k_is);(case l=>k_is);(case c=>k_is);(case k=>k_is)
  case Hz=>refine' L2.aP ?a ?l ?c ?k;(case a=>k_is);(case l=>k_is);(case c=>k_is);(case k=>k_is)
  case HA=>refine' L2.aP ?a ?l ?c ?k;(case a=>k_is);(case l=>k_is);(case c=>k_is);(case k=>k_is)
  case HC=>refine' L2.aP ?a ?l ?c ?k;(case a=>k_is);(case l=>k_is);(case c=>k_is);(case k=>k_is)
  case HE=>refine' L2.aP ?a ?l ?c ?k;(case a=>k_is);(case l=>k_is);(case c=>k_is);(case k=>k_is)
  case HG=>refine' L2.aP ?a ?l ?c ?k;(case a=>k_is);(case l=>k_is);(case c=>k_is);(case k=>k_is)
  case HH=>refine' L2.aP ?a ?l ?c ?k;(case a=>k_is);(case l=>k_is);(case c=>k_is);(case k=>k_is)
  case HI=>refine' L2.aP ?a ?l ?c ?k;(case a=>k_is);(case l=>k_is);(case c=>k_is);(case k=>k_is)
  case HK=>refine' L2.aP ?a ?l ?c ?k;(case a=>k_is);(case l=>k_is);(case c=>k_is);(case k=>k_is)
  case HL=>refine' L2.aP ?a ?l ?c ?k;(case a=>k_is);(case l=>k_is);(case c=>k_is);(case k=>k_is)
  case HM=>refine' L2.aP ?a ?l ?c ?k;(case a=>k_is);(case l=>k_is);(case c=>k_is);(case k=>k_is)
  case h0=>refine' L2.aP ?a ?l ?c ?k;(case a=>k_is);(case l=>k_is);(case c=>k_is);(case k=>k_is)
  case zz=>
   refine' Bu.mpr ⟨?_,?_⟩;k_is;refine' Bu.mpr ⟨?_,?_⟩;k_is;refine' Bu.mpr ⟨?_,?_⟩;k_is;refine' Bu.mpr ⟨?_,?_⟩;k_is;refine' Bu.mpr ⟨?_,?_⟩;k_is;refine' Bu.mpr ⟨?_,?_⟩;k_is;refine' Bu.mpr ⟨?_,?_⟩;k_is;refine' Bu.mpr ⟨?_,?_⟩;k_is;refine' Bu.mpr ⟨?_,?_⟩;k_is;refine' Bu.mpr ⟨?_,?_⟩;k_is;refine' Bu.mpr ⟨?_,?_⟩;k_is;refine' Bu.mpr ⟨?_,?_⟩;k_is;refine' Bu.mpr ⟨?_,?_⟩;k_is;refine' Bu.mpr ⟨?_,?_⟩;k_is;refine' Bu.mpr ⟨?_,?_⟩;k_is;refine' Bu.mpr ⟨?_,?_⟩;k_is;exact λx hx=>nomatch hx

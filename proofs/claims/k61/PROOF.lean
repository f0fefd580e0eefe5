import PyProof.Rows.All
import Wide.All
import OpenK.AllK
import Wide.FinOn
import Lean
import PyProof.EqAt
import PyProof.EqKinds
import PyProof.TupleCall
import KE.KDictLaws
import KE.KDictList
import KE.KDictSum
import KE.KIsAll
import KE.KSortTup
import KE.KUnpack
import KE.KUnpackStar
import PyProof.AttrMissSeq
import PyProof.CallStr
import PyProof.Conv_int_bool
import PyProof.DictItems
import PyProof.DictIter
import PyProof.DictList
import PyProof.EnumFor
import PyProof.EnumMake
import PyProof.EnumStmt
import PyProof.ExcArgsOwn
import PyProof.ExcAttrAll.ValueError
import PyProof.ExcBaseAll.ValueError
import PyProof.NeKinds
import PyProof.NsDelKeeps
import PyProof.Rows.CatchOwn
import PyProof.Rows.CountFlat
import PyProof.Rows.EnumRows
import PyProof.Rows.FStr
import PyProof.Rows.SeqMore
import PyProof.Rows.SortRev
import PyProof.Rows.SortRuns
import PyProof.Rows.StrSplitJoin
import PyProof.Rows.StrWeight2
import PyProof.Rows.TupDisplay
import PyProof.RulesTry
import PyProof.SetNew
import PyProof.SetRoads
import PyProof.StationsW
import PyProof.StrOps
import PyProof.TupleKey
import PyProof.WalkInts
import PyProof.ZipIter
import PySem.Challenge.RW_threewebs_k61_trees_listed
abbrev BJ:=@if_neg
abbrev BK:=@if_pos
abbrev BL:=@PySem.wpAny_bind
abbrev BP:=@PyProof.Rows.wpS_bind
abbrev BR:=@PyProof.Rows.wpS_pure
abbrev BW:=@PySem.wpAny_pure
abbrev BX:=@decide_eq_false
abbrev BZ:=@congrArg
abbrev CG:=@decide_eq_true
abbrev CJ:=@PyProof.Rows.wpS_forRange
abbrev CK:=@PySem.W.mg_none_of
abbrev CN:=@Classical.byContradiction
abbrev CP:=@PySem.wpAny_mono
abbrev CQ:=@PySem.F.plainAttrs_list
abbrev CT:=@PySem.mem_of_lookup
abbrev CV:=@of_decide_eq_true
abbrev CW:=@PySem.boot_len
abbrev CZ:=@PyProof.Rows.wpS_mono
abbrev DG:=@PySem.wpAny_loadPart'
abbrev DK:=@PySem.W.kia_one
abbrev DN:=@if_false
abbrev DP:=@if_true
abbrev DQ:=@PySem.sizeLine_eq
abbrev DR:=@PySem.wpAny_holding
abbrev DW:=@PySem.wpAny_truthy_bool
abbrev DX:=@decide_eq_true_eq
abbrev DY:=@PyProof.Rows.wpS_get
abbrev EY:=@PyProof.Rows.callWith_type1
abbrev FJ:=@decide_eq_true_iff
abbrev FN:=@PySem.wpAny_passesOwn
abbrev FP:=@PyProof.Rows.listUpdate_at
abbrev FQ:=@PySem.wpAny_comprehension_free
abbrev FT:=@PySem.F.slot_list_append
abbrev FW:=@PySem.F.type_list_append
abbrev FZ:=@PyProof.Rows.boot_sorted
abbrev GJ:=@PySem.wpAny_standAt
abbrev GK:=@PySem.W.cellsFrom_some
abbrev GQ:=@PyProof.Rows.seqEpoch_at
abbrev GR:=@PyProof.Rows.boot_list
abbrev GX:=@bne_self_eq_false
abbrev GZ:=@PyProof.Rows.boot_isinstance
abbrev HB:=@PyProof.Rows.wpS_modify
abbrev HD:=@PySem.wpAny_newList
abbrev HF:=@PySem.PassesOwn.never
abbrev HJ:=@PySem.W.KasT.kasWp_bind
abbrev HN:=@PySem.wpAny_Call_Name_kw
abbrev HS:=@PySem.tupleKind_room_in1
abbrev HW:=@PyProof.Rows.listItems_at
abbrev HX:=@PyProof.Rows.boot_int
abbrev HY:=@List.eraseIdxIfInBounds_toArray
abbrev IK:=@PySem.call_meets
abbrev IV:=@PySem.wpAny_rule
abbrev IW:=@PyProof.Rows.getElem?_mirror_all
abbrev JB:=@List.countP_eq_length_filter
abbrev JC:=@PySem.F.slot_dict_setdefault
abbrev JD:=@PySem.F.type_dict_setdefault
abbrev JF:=@List.lookup_append
abbrev JG:=@Nat.lt_of_le_of_lt
abbrev JH:=@Int.fdiv_eq_ediv_of_nonneg
abbrev JK:=@PyProof.Rows.sortedAll_old
abbrev JL:=@Array.toList_setIfInBounds
abbrev JM:=@Option.isSome_map
abbrev JN:=@Nat.lt_succ_of_lt
abbrev JQ:=@PySem.wpAny_newObj_type
abbrev JR:=@Nat.lt_of_succ_lt
abbrev JT:=@List.getElem?_inj
abbrev JV:=@Int.eq_of_mul_eq_mul_left
abbrev JW:=@List.getElem_inj
abbrev JX:=@PySem.seqIndex_neg
abbrev JZ:=@Nat.min_self
abbrev KC:=@PySem.Heap.size_update
abbrev KD:=@Nat.zero_add
abbrev KH:=@Nat.min_eq_right
abbrev KJ:=@PySem.F.slot_list_insert
abbrev KN:=@PySem.F.type_list_insert
abbrev KQ:=@List.nodup_range
abbrev KR:=@List.ext_getElem
abbrev KY:=@List.map_snd_zip
abbrev KZ:=@List.getElem_map
abbrev LC:=@Option.getD_some
abbrev LK:=@Nat.pow_succ
abbrev LQ:=@Nat.add_zero
abbrev LR:=@List.eraseIdx_cons_succ
abbrev MF:=@PySem.F.plainAttrs_dict
abbrev MJ:=@List.pairwise_singleton
abbrev MK:=@PySem.wpAny_execs_nil
abbrev MN:=@List.of_mem_zip
abbrev MP:=@Nat.not_lt_zero
abbrev NK:=@Int.mul_ne_zero
abbrev NQ:=@List.filter_nil
abbrev NZ:=@PySem.seqIndex_of
abbrev OD:=@List.map_id
abbrev OJ:=@Nat.div_div_eq_div_mul
abbrev PB:=@PyProof.Rows.boot_max
abbrev PJ:=@PySem.F.slot_list_pop
abbrev PK:=@PySem.F.type_list_pop
abbrev PL:=@Int.mul_le_mul
abbrev PN:=@List.drop_drop
abbrev PX:=@or_false
abbrev QB:=@List.any_cons
abbrev QC:=@PySem.W.mg_of
abbrev QD:=@List.map_drop
abbrev QF:=@Nat.succ_pos
abbrev QG:=@Nat.le_total
abbrev QJ:=@Int.le_trans
abbrev QK:=@Nat.mul_comm
theorem Z0:0<=PySem.sizeLine:=by decide
theorem Z2:2<=PySem.sizeLine:=by decide
theorem Z1:1<=PySem.sizeLine:=by decide
theorem Z3:3<=PySem.sizeLine:=by decide
set_option Elab.async false
set_option linter.all false
set_option maxRecDepth 100000
set_option maxHeartbeats 4000000
abbrev Aa:=@List.length_map
abbrev Ab:=@List.getElem?_eq_getElem
abbrev Ac:=@List.getElem?_eq_some_iff
abbrev Ad:=@List.getElem?_map
abbrev Ae:=@List.length_append
abbrev Af:=@List.mem_singleton
abbrev Ag:=@List.map_append
abbrev Ah:=@Nat.le_refl
abbrev Ai:=@PySem.Heap.get?_push_of_some
abbrev Aj:=@List.mem_append_right
abbrev Ak:=@List.mem_cons_self
abbrev Al:=@List.mem_append
abbrev Am:=@Array.length_toList
abbrev An:=@List.size_toArray
abbrev Ao:=@Array.getElem?_toList
abbrev Ap:=@Option.map_eq_some_iff
abbrev Aq:=@List.mem_cons_of_mem
abbrev Ar:=@List.length_cons
abbrev As:=@Bool.false_ne_true
abbrev At:=@List.mem_map
abbrev Au:=@List.mem_of_getElem?
abbrev Av:=@List.mem_append_left
abbrev Aw:=@List.append_assoc
abbrev Ax:=@List.mem_cons
abbrev Ay:=@List.length_take
abbrev Az:=@List.getElem?_append_right
abbrev Ba:=@List.getElem?_of_mem
abbrev Bb:=@List.getElem?_append_left
abbrev Bc:=@List.append_nil
abbrev Bd:=@PySem.Heap.lt_size
abbrev Be:=@List.map_map
abbrev Bf:=@List.length_range
abbrev Bg:=@List.pairwise_iff_getElem
abbrev Bh:=@Int.toNat_natCast
abbrev Bi:=@List.take_length
abbrev Bj:=@Array.getElem?_eq_getElem
abbrev Bk:=@List.map_congr_left
abbrev Bm:=@Nat.lt_of_lt_of_le
abbrev Bn:=@Array.toList_append
abbrev Bo:=@List.forall_mem_cons
abbrev Bp:=@PySem.Heap.get?_push_size
abbrev Bq:=@List.map_cons
abbrev Br:=@Nat.zero_le
abbrev Bt:=@List.length_eq_zero_iff
abbrev Bu:=@List.mem_of_mem_drop
abbrev Bv:=@Int.emod_nonneg
abbrev Bw:=@List.take_append_drop
abbrev Bx:=@List.getD_eq_getElem?_getD
abbrev By:=@List.getElem_mem
abbrev Bz:=@Nat.le_trans
abbrev Ca:=@List.pairwise_append
abbrev Cb:=@List.length_drop
abbrev Cc:=@List.nodup_cons
abbrev Cd:=@List.mem_of_mem_take
abbrev Ce:=@List.range_succ
abbrev Cf:=@Int.emod_lt_of_pos
abbrev Cg:=@List.length_pos_iff
abbrev Ch:=@List.drop_eq_getElem_cons
abbrev Ci:=@List.take_of_length_le
abbrev Cj:=@List.take_add_one
abbrev Ck:=@Bool.false_eq_true
abbrev Cn:=@Bool.and_eq_true
abbrev Co:=@List.getElem?_cons_succ
abbrev Cp:=@List.nodup_iff_pairwise_ne
abbrev Cq:=@PySem.Heap.get?_update_other
abbrev Cr:=@List.pairwise_cons
abbrev Cs:=@Nat.lt_irrefl
abbrev Ct:=@List.getElem?_range
abbrev Cu:=@Nat.ne_of_lt
abbrev Cv:=@Int.zero_add
abbrev Cw:=@List.mem_range
abbrev Cy:=@List.drop_of_length_le
abbrev Cz:=@List.nodup_append
abbrev Da:=@List.getElem?_eq_none
abbrev Db:=@List.length_erase_of_mem
abbrev Dc:=@List.lookup_cons
abbrev Dd:=@List.all_eq_true
abbrev Dg:=@List.nodup_nil
abbrev Dh:=@List.reverse_append
abbrev Di:=@List.length_zip
abbrev Dj:=@List.length_replicate
abbrev Dk:=@List.mem_of_mem_erase
abbrev Dl:=@List.not_mem_nil
abbrev Dm:=@List.drop_length
abbrev Do:=@Option.isSome_iff_exists
abbrev Dp:=@List.lt_irrefl
abbrev Dq:=@List.getElem?_replicate
abbrev Dr:=@List.ext_getElem?
abbrev Ds:=@Array.toList_push
abbrev Du:=@List.mem_filter
abbrev Dv:=@List.map_eq_nil_iff
abbrev Dw:=@List.getElem?_set_self
abbrev Dx:=@Nat.ne_of_gt
abbrev Dy:=@List.length_filter_le
abbrev Dz:=@List.perm_append_comm
abbrev Eb:=@List.exists_mem_of_ne_nil
abbrev Ec:=@List.getElem?_zip_eq_some
abbrev Ed:=@Nat.min_eq_left
abbrev Ee:=@List.getElem?_set_ne
abbrev Ef:=@Nat.le_succ
abbrev Eh:=@Nat.le_of_succ_le
abbrev Ej:=@List.flatMap_cons
abbrev Ek:=@List.mem_erase_of_ne
abbrev El:=@List.getElem?_modify
abbrev Em:=@List.mem_iff_getElem
abbrev Ep:=@List.pairwise_map
abbrev Er:=@Array.toList_reverse
abbrev Es:=@List.getElem?_take_of_lt
abbrev Eu:=@List.flatMap_append
abbrev Ex:=@List.getElem_of_mem
abbrev Ey:=@List.length_pos_of_mem
abbrev Ez:=@List.filter_append
abbrev Fa:=@List.append_eq_nil_iff
abbrev Fb:=@Nat.lt_of_le_of_ne
abbrev Fc:=@Option.toList_some
abbrev Fd:=@Bool.eq_iff_iff
abbrev Fe:=@List.find?_cons
abbrev Ff:=@Option.map_some
abbrev Fg:=@List.length_nil
abbrev Fh:=@List.sum_cons
abbrev Fi:=@List.length_singleton
abbrev Fj:=@List.take_sublist
abbrev Fk:=@Array.getD_eq_getD_getElem?
abbrev Fm:=@List.drop_sublist
abbrev Fn:=@List.getElem_take
abbrev Fo:=@List.getElem_drop
abbrev Fp:=@List.mem_zipIdx_iff_le_and_getElem?_sub
abbrev Fq:=@List.perm_cons_erase
abbrev Fr:=@Nat.le_of_eq
abbrev Fs:=@Array.toList_inj
abbrev Ft:=@Nat.lt_or_ge
abbrev Fu:=@List.filter_cons
abbrev Fv:=@List.extract_eq_take_drop
abbrev Fw:=@List.lt_trans
abbrev Fx:=@List.mem_of_mem_eraseIdx
abbrev Fy:=@List.count_cons
abbrev Fz:=@List.count_pos_iff
abbrev Ga:=@Nat.add_sub_cancel_left
abbrev Gb:=@List.map_nil
abbrev Gc:=@Nat.lt_of_succ_lt_succ
abbrev Gd:=@List.drop_zero
abbrev Ge:=@Nat.zero_lt_of_lt
abbrev Gf:=@Array.getElem?_extract
abbrev Gg:=@List.take_succ
abbrev Gh:=@List.contains_iff_mem
abbrev Gi:=@Nat.mod_eq_of_lt
abbrev Gj:=@List.getElem_zip
abbrev Gk:=@List.length_eraseIdx
abbrev Gm:=@Array.toList_extract
abbrev Gn:=@Nat.pow_le_pow_right
abbrev Go:=@List.forIn_cons
abbrev Gp:=@List.foldl_cons
abbrev Gq:=@List.nil_append
abbrev Gr:=@List.filterMap_cons
abbrev Gs:=@Nat.le_of_lt
abbrev Gu:=@PySem.Heap.size_push
abbrev Gv:=@List.not_lt
namespace L2
open PySem PySem.Spec PyProof.Rows
abbrev Key:=Sum Int Str
def nh:Key->Value->Bool
 | .inl k,v=>Value.isInt k v
 | .inr x,v=>Value.isStrOf x v
def vG(w:World):Key->Int
 | .inl k=>hashInt k
 | .inr x=>hashStr w x
theorem i7:∀{k:Key} {v:Value},nh k v=true->(∃ i t,k=Sum.inl i/\v=Value.int i t)\/(∃ x t,k=Sum.inr x/\v=Value.str x t)
 | .inl i,v,h=>by
  obtain⟨t,e⟩:=Value.isInt_shape (k:=i) (v:=v) h;exact .inl ⟨i,t,rfl,e⟩
 | .inr x,v,h=>by
  obtain⟨t,e⟩:=Value.isStrOf_shape (x:=x) (v:=v) h;exact .inr ⟨x,t,rfl,e⟩
theorem Ky(i:Int)(t:Tok):nh (.inl i) (.int i t)=true:=by simp [nh,Value.isInt]
theorem Kz(x:Str)(t:Tok):nh (.inr x) (.str x t)=true:=by simp [nh,Value.isStrOf]
theorem KA(a b:Int):decide ((Sum.inl a:Key)=Sum.inl b)=(a == b):=by
 by_cases e:a=b
 ·subst e;simp
 ·have h:¬(Sum.inl a:Key)=Sum.inl b:=λq=>e<|Sum.inl.inj q;rw [BX h];exact(beq_eq_false_iff_ne.mpr e).symm
theorem KE(a b:Str):decide ((Sum.inr a:Key)=Sum.inr b)=decide (a=b):=by
 by_cases e:a=b
 ·subst e;simp
 ·have h:¬(Sum.inr a:Key)=Sum.inr b:=λq=>e<|Sum.inr.inj q;rw [BX h,BX e]
theorem KG(a:Int)(b:Str):decide ((Sum.inl a:Key)=Sum.inr b)=false:=BX λq=>nomatch q
theorem KI(a:Str)(b:Int):decide ((Sum.inr a:Key)=Sum.inl b)=false:=BX λq=>nomatch q
def dS(prog:Program)(w:World):PySem.KeyKind prog w Key where
 is:=nh
 hash:=vG w
 inj:=λv a b ha hb=>by
  rcases i7 ha with ⟨i,t,rfl,rfl⟩ | ⟨x,t,rfl,rfl⟩
  ·rcases i7 hb with ⟨j,u,rfl,e⟩ | ⟨y,u,rfl,e⟩
   ·injection e with e1 _;rw [e1]
   ·exact nomatch e
  ·rcases i7 hb with ⟨j,u,rfl,e⟩ | ⟨y,u,rfl,e⟩
   ·exact nomatch e
   ·injection e with e1 _;rw [e1]
 byValue:=λk v h=>by
  rcases i7 h with ⟨i,t,rfl,rfl⟩ | ⟨x,t,rfl,rfl⟩ <;> rfl
 pyHash:=λhv h=>by
  rcases i7 hv with ⟨i,t,rfl,rfl⟩ | ⟨x,t,rfl,rfl⟩
  ·exact wpAny_pyHash_int h
  ·exact wpAny_pyHash_str h
 eqBool:=λhu hv h=>by
  rcases i7 hu with ⟨i,t,rfl,rfl⟩ | ⟨x,t,rfl,rfl⟩
  ·rcases i7 hv with ⟨j,u,rfl,rfl⟩ | ⟨y,u,rfl,rfl⟩
   ·rw [KA] at h;exact wpAny_eqBool_int h
   ·rw [KG] at h;exact SeqAt.EqAt.int_str i t y u _ _ _ _ h
  ·rcases i7 hv with ⟨j,u,rfl,rfl⟩ | ⟨y,u,rfl,rfl⟩
   ·rw [KI] at h;exact SeqAt.EqAt.str_int x t j u _ _ _ _ h
   ·rw [KE] at h;exact wpAny_eqBool_str h
 «strs»:=λk x t v h=>by
  rcases i7 h with ⟨i,u,rfl,e⟩ | ⟨y,u,rfl,e⟩
  ·exact nomatch e
  ·injection e with e1 _
   subst e1;cases v <;> rfl
theorem KL(prog:Program)(w:World)(i:Int)(t:Tok):(dS prog w).is (.inl i) (.int i t)=true:=Ky i t
theorem KO(prog:Program)(w:World)(x:Str)(t:Tok):(dS prog w).is (.inr x) (.str x t)=true:=Kz x t
inductive V where
 | non | bl (b:Bool) | int (i:Int) | str (x:Str) | gA (b:Array UInt8) | nk (b:UInt64) | ref (a:Addr) | ty (n:String)
 deriving DecidableEq
def RelV:V->Value->Prop
 | .non,u=>u=Value.none
 | .bl b,u=>u=Value.bool b
 | .int i,u=>∃ t,u=Value.int i t
 | .str x,u=>∃ t,u=Value.str x t
 | .gA b,u=>∃ t,u=Value.bytes b t
 | .nk b,u=>∃ t,u=Value.float b t
 | .ref a,u=>u=Value.ref a
 | .ty n,u=>u=Value.type n
abbrev aq:List V->List Value->Prop:=Paired RelV
theorem aq.length{xs:List V}{us:List Value}(r:aq xs us):xs.length=us.length:=Paired.length r
theorem aq.get:∀{xs:List V} {us:List Value} {i:Nat} {x:V},aq xs us->xs[i]?=some x->∃ u,us[i]?=some u/\RelV x u
 | _,_,_,_,.nil,e=>by simp at e
 | _,_,0,_,.cons r _,e=>by simp at e;subst e;exact⟨_,rfl,r⟩
 | _,_,i+1,x,.cons _ t,e=>by
  obtain⟨u,h1,h2⟩:=aq.get (i:=i) (x:=x) t (by simpa using e);exact⟨u,by simpa using h1,h2⟩
theorem aq.set{x:V}{u:Value}(r:RelV x u):∀{xs:List V} {us:List Value} (i:Nat),aq xs us->aq (xs.set i x) (us.set i u)
 | _,_,_,.nil=> .nil
 | _,_,0,.cons _ t=> .cons r t
 | _,_,i+1,.cons q t=> .cons q<|aq.set r i t
theorem aq.append:∀{xs ys:List V} {us ws:List Value},aq xs us->aq ys ws->aq (xs++ys) (us++ws)
 | _,_,_,_,.nil,s=>s
 | _,_,_,_,.cons r t,s=> .cons r<|aq.append t s
theorem aq.take:∀{xs:List V} {us:List Value} (n:Nat),aq xs us->aq (xs.take n) (us.take n)
 | _,_,0,_=> .nil
 | _,_,_+1,.nil=> .nil
 | _,_,n+1,.cons r t=> .cons r<|aq.take n t
theorem aq.drop:∀{xs:List V} {us:List Value} (n:Nat),aq xs us->aq (xs.drop n) (us.drop n)
 | _,_,0,r=>r
 | _,_,_+1,.nil=> .nil
 | _,_,n+1,.cons _ t=>aq.drop n t
def df:Option V->Option Value->Prop
 | some v,some u=>RelV v u
 | none,none=>True
 | _,_=>False
def KV{κ:Type}:List (κ×V)->List (κ×Value)->Prop:=Paired λ(p:κ×V) (q:κ×Value)=>p.1=q.1/\RelV p.2 q.2
def kV:Key->V
 | .inl i=> .int i
 | .inr x=> .str x
inductive HO where
 | lst (xs:List V)
 | tup (xs:List V)
 | dK (kvs:List<|Key×V) | dT (kvs:List<|List Key×V)
 | set (S:Int->Bool) (n:Nat)
 | ins (C dx:Addr) (fs:List<|Str×V)
 | own (x:Addr)
 | xd (fs:List<|Str×V)
 | met (f x:Addr)
 | vH (lo hi:Int)
 | cK (o:Obj) (u:HO)
 | k7 (ps:Array Value)
 | ext (φ:Heap->Prop)
abbrev Hp:=Addr->Option HO
def upd(H:Hp)(a:Addr)(o:HO):Hp:=λb=>if b=a then some o else H b
theorem ae{H:Hp}{a:Addr}{o:HO}:upd H a o a=some o:=by unfold upd;rw [BK rfl]
theorem av{H:Hp}{a b:Addr}{o:HO}(h:b≠a):upd H a o b=H b:=by unfold upd;rw [BJ h]
theorem B5{H:Hp}{a:Addr}{o u:HO}:upd (upd H a o) a u=upd H a u:=by
 funext b;unfold upd;split <;> rfl
theorem en{H:Hp}{a b:Addr}{o u:HO}(h:H a=some o)(h':H b=some u)(d:o≠u):a≠b:=by
 intro e;subst e;rw [h] at h';exact d<|Option.some.inj h'
theorem bC{H:Hp}{a b:Addr}{o:HO}(h:H a=some o)(h':H b=none):a≠b:=by
 intro e;subst e;rw [h] at h';cases h'
section
variable(P:Program)(w:World)
def ax(H:Hp)(h:Heap)(a:Addr):HO->Prop
 | .lst xs=>xs.length<=sizeLine/\∃(its:List Value) (n:Nat),aq xs its/\h.get? a=some {cls:= .type "list",data:= .seq its.toArray n}
 | .tup xs=>xs.length<=sizeLine/\∃ its:List Value,aq xs its/\IsTup h a its.toArray
 | .dK kvs=>kvs.length<=sizeLine/\(a == sysModules)=false/\∃ vs,KV kvs vs/\h.DictOf (dS P w) a vs
 | .dT kvs=>kvs.length<=sizeLine/\(a == sysModules)=false/\∃ xs:List<|List Key×Addr×Value,
   Paired (λ(p:List Key×V) (q:List Key×Addr×Value)=>p.1=q.1/\H q.2.1=some (.tup<|p.1.map kV)/\RelV p.2 q.2.2) kvs xs /\
   ∃ o es ep,h.get? a=some o/\o.ExactDict/\o.data = .dict es ep/\es.toList=xs.map (entryOfKey<|tupleKind<|dS P w)/\(xs.map (·.1)).Nodup
 | .set S n=>h.SetOf (intKind P w) a S n
 | .ins C dx fs=>H dx=some (.own a)/\fs.length<=1000/\dx≠a/\h.get? a=some (PySem.W.instObj C dx) /\
   ∃ mA,h.Ns1 dx mA/\(∀ f,df (fs.lookup f)<|mA f)/\PySem.Within mA (fs.map (·.1))
 | .own _=>∃ o,h.get? a=some o
 | .xd fs=>∃ mA,h.Ns1 a mA/\∀ f,df (fs.lookup f)<|mA f
 | .vH lo hi=>∃ t u v,h.get? a=some {cls:= .type "range",data:= .fields #[.int lo t,.int hi u,.int 1 v]}
 | .cK o u=>h.get? a=some o/\ax H h a u
 | .k7 ps=>h.get? a=some {cls:= .none,data:= .fields ps}
 | .met f x=>h.get? a=some (PySem.W.methodObj (.ref f)<|.ref x)
 | .ext φ=>φ h/\(∃ o,h.get? a=some o)/\∀ h1 h2:Heap,φ h1->(∀ o,h1.get? a=some o->h2.get? a=some o)->φ h2
def cf(H:Hp)(h:Heap):Prop:=∀ a o,H a=some o->ax P w H h a o
end
section
variable{P:Program}{w:World}{H H':Hp}{h h':Heap}{a:Addr}{o:HO}
theorem ax.lt(x:ax P w H h a o):a < h.objs.size:=by
 cases o with
 | lst xs=>obtain⟨_,_,_,_,e⟩:=x;exact Bd e
 | tup xs=>obtain⟨_,_,_,p⟩:=x;exact p.lt
 | dK kvs=>obtain⟨_,_,_,_,o,_,_,e,_⟩:=x;exact Bd e
 | dT kvs=>obtain⟨_,_,_,_,o,_,_,e,_⟩:=x;exact Bd e
 | set S n=>obtain⟨o,_,_,_,e,_⟩:=x;exact Bd e
 | ins C dx fs=>obtain⟨_,_,_,e,_⟩:=x;exact Bd e
 | own y=>obtain⟨_,e⟩:=x;exact Bd e
 | xd fs=>obtain⟨_,⟨_,_,_,e,_⟩,_⟩:=x;exact Bd e
 | vH lo hi=>obtain⟨_,_,_,e⟩:=x;exact Bd e
 | cK ob u=>obtain⟨e,_⟩:=x;exact Bd e
 | k7 ps=>exact Bd (show h.get? a=some _ from x)
 | met f y=>exact Bd (show h.get? a=some _ from x)
 | ext φ=>obtain⟨_,⟨_,e⟩,_⟩:=x;exact Bd e
theorem Paired.k8{α β:Type}{F G:α->β->Prop}:∀{l₁:List α} {l₂:List β},Paired F l₁ l₂->(∀ a b,F a b->G a b)->Paired G l₁ l₂
 | _,_,.nil,_=> .nil
 | _,_,.cons r t,f=> .cons (f _ _ r)<|Paired.k8 t f
theorem ax.gB(x:ax P w H h a o)(k:∀ b u,(b=a\/H b=some (.own a))->h.get? b=some u->h'.get? b=some u)
  (ho:∀ b,H b=some (.own a)->H' b=some (.own a)) (ht:∀ b xs,H b=some (.tup xs)->H' b=some (.tup xs)):ax P w H' h' a o:=by
 induction o with
 | lst xs=>obtain⟨z,its,n,r,e⟩:=x;exact⟨z,its,n,r,k _ _ (.inl rfl) e⟩
 | tup xs=>obtain⟨z,its,r,ob,e,c⟩:=x;exact⟨z,its,r,ob,k _ _ (.inl rfl) e,c⟩
 | dK kvs=>obtain⟨z,y,vs,r,ob,es,ep,e,c⟩:=x;exact⟨z,y,vs,r,ob,es,ep,k _ _ (.inl rfl) e,c⟩
 | dT kvs=>
  obtain⟨z,y,xs,r,ob,es,ep,e,c⟩:=x;exact⟨z,y,xs,Paired.k8 r λp q z=>⟨z.1,ht _ _ z.2.1,z.2.2⟩,ob,es,ep,k _ _ (.inl rfl) e,c⟩
 | set S n=>obtain⟨ob,es,ep,t,e,c⟩:=x;exact⟨ob,es,ep,t,k _ _ (.inl rfl) e,c⟩
 | ins C dx fs=>
  obtain⟨d,z,ne,e,mA,⟨od,es,ep,e2,c⟩,r⟩:=x;exact⟨ho _ d,z,ne,k _ _ (.inl rfl) e,mA,⟨od,es,ep,k _ _ (.inr d) e2,c⟩,r⟩
 | own y=>obtain⟨ob,e⟩:=x;exact⟨ob,k _ _ (.inl rfl) e⟩
 | xd fs=>obtain⟨mA,⟨od,es,ep,e,c⟩,r⟩:=x;exact⟨mA,⟨od,es,ep,k _ _ (.inl rfl) e,c⟩,r⟩
 | vH lo hi=>obtain⟨t,u,v,e⟩:=x;exact⟨t,u,v,k _ _ (.inl rfl) e⟩
 | cK ob u ih=>obtain⟨e,q⟩:=x;exact⟨k _ _ (.inl rfl) e,ih q⟩
 | k7 ps=>
  have e:h.get? a=some {cls:= .none,data:= .fields ps}:=x;show h'.get? a=some {cls:= .none,data:= .fields ps};exact k a _ (.inl rfl) e
 | met f y=>
  have e:h.get? a=some (PySem.W.methodObj (.ref f)<|.ref y):=x;show h'.get? a=some (PySem.W.methodObj (.ref f)<|.ref y);exact k a _ (.inl rfl) e
 | ext φ=>obtain⟨p,⟨o,e⟩,st⟩:=x;exact⟨st _ _ p λo q=>k _ _ (.inl rfl) q,⟨o,k _ _ (.inl rfl) e⟩,st⟩
theorem cf.lt(x:cf P w H h)(e:H a=some o):a < h.objs.size:=(x a o e).lt
theorem cf.fresh(x:cf P w H h)(e:h.objs.size<=a):H a=none:=by
 cases q:H a with
 | none=>rfl
 | some u=>exact absurd (Bm (x.lt q) e)<|Cs _
theorem cf.kept(x:cf P w H h)(k:∀ b u,h.get? b=some u->h'.get? b=some u):cf P w H h':=λa o e=>
 (x a o e).gB (λb u _ q=>k b u q) (λ_ q=>q) λ_ _ q=>q
theorem cf.laid(x:cf P w H h)(k:∀ b u,h.get? b=some u->h'.get? b=some u)(hp:h.objs.size<=a)(new:ax P w (upd H a o) h' a o):cf P w (upd H a o) h':=λb u e=>by
 have hn:=x.fresh hp
 by_cases hb:b=a
 ·subst hb;rw [ae] at e;cases e;exact new
 ·rw [av hb] at e;exact(x b u e).gB (λc v _ q=>k c v q) (λc q=>by rw [av<|bC q hn];exact q) λc xs q=>by rw [av<|bC q hn];exact q
end
def Rd(H:Hp)(a:Addr)(u:HO):Prop:=H a=some u\/∃ o,H a=some (.cK o u)
theorem Rd.ok{P:Program}{w:World}{H:Hp}{h:Heap}{a:Addr}{u:HO}(r:Rd H a u)(x:cf P w H h):ax P w H h a u:=by
 rcases r with r | ⟨o,r⟩
 ·exact x a u r
 ·obtain⟨_,q⟩:=x a _ r;exact q
def oV:Option HO->Prop
 | some (.lst _)=>True
 | some (.dK _)=>True
 | some (.dT _)=>True
 | some (.set _ _)=>True
 | some (.ins _ _ _)=>True
 | some (.ext _)=>True
 | _=>False
section
variable{P:Program}{w:World}{H:Hp}{h h':Heap}{x e:Addr}{o':HO}
theorem cf.write(ok:cf P w H h)(mu:oV<|H x)(he:e=x\/H e=some (.own x))(k:∀ b u,b≠e->h.get? b=some u->h'.get? b=some u)(nn:∃ u,h'.get? e=some u)
  (new:ax P w (upd H x o') h' x o'):cf P w (upd H x o') h':=λb u q=>by
 have oW:∀ c y,H c=some (.own y)->c≠x:=λc y r z=>by subst z;rw [r] at mu;exact mu
 have vI:∀ c xs,H c=some (.tup xs)->c≠x:=λc xs r z=>by subst z;rw [r] at mu;exact mu
 by_cases hb:b=x
 ·subst hb;rw [ae] at q;cases q;exact new
 ·rw [av hb] at q
  by_cases k9:b=e
  ·have q':H b=some (.own x):=by
    rcases he with z | z
    ·exact absurd (k9.trans z) hb
    ·rw [k9];exact z
   rw [q] at q';cases q';obtain⟨v,hv⟩:=nn;exact⟨v,by rw [k9];exact hv⟩
  ·refine(ok b u q).gB (λc v hc r=>k c v ?_ r) (λc r=>by rw [av<|oW c b r];exact r) λc xs r=>by rw [av<|vI c xs r];exact r
   rcases hc with rfl | hc
   ·exact k9
   ·rintro rfl
    rcases he with z | z
    ·exact oW c b hc z
    ·rw [hc] at z;cases z;exact hb rfl
end
structure Un(fs ex:List Addr)(H H':Hp)(h h':Heap):Prop where
 keep:∀ b o,h.get? b=some o->H b=none->b∉fs->b∉ex->h'.get? b=some o
 slot:∀ b o,h.get? b=some o->H b=none->b∈fs->b∉ex->∃ sl,h'.get? b=some {o with slots:=sl}
 free:∀ b o,h.get? b=some o->H b=none->b∉ex->H' b=none
 there:∀ b o,h.get? b=some o->b∉ex->∃ o',h'.get? b=some o'
 eJ:∀ b xs,H b=some (.tup xs)->H' b=some (.tup xs)
 dU:∀ b o u,H b=some (.cK o u)->H' b=some (.cK o u)
 eO:∀ b ps,H b=some (.k7 ps)->∃ more,H' b=some (.k7<|ps++more)
section
variable{fs KP ex B6:List Addr}{H H1 H2:Hp}{h h1 h2 h':Heap}{a x e:Addr}{o:HO}
theorem Un.any(u:Un fs ex H H1 h h1){b:Addr}{ob:Obj}(q:h.get? b=some ob)(n:H b=none)(hx:b∉ex):∃ sl,h1.get? b=some {ob with slots:=sl}:=by
 by_cases hb:b∈fs
 ·exact u.slot b ob q n hb hx
 ·exact⟨ob.slots,u.keep b ob q n hb hx⟩
theorem Un.kept(k:∀ b u,h.get? b=some u->h'.get? b=some u):Un fs ex H H h h':=
 ⟨λb ob q _ _ _=>k b ob q,λb ob q _ _ _=>⟨ob.slots,k b ob q⟩,λ_ _ _ n _=>n,λb ob q _=>⟨ob,k b ob q⟩,λ_ _ q=>q,λ_ _ _ q=>q,λ_ ps q=>⟨#[],by rw [q];simp⟩⟩
theorem Un.refl:Un fs ex H H h h:=Un.kept λ_ _ q=>q
theorem Un.laid(k:∀ b u,h.get? b=some u->h'.get? b=some u)(hp:h.objs.size<=a)(hn:H a=none):Un fs ex H (upd H a o) h h' where
 keep:=λb u q _ _ _=>k b u q
 slot:=λb u q _ _ _=>⟨u.slots,k b u q⟩
 free:=λb u q n _=>by rw [av<|Cu<|Bm (Bd q) hp];exact n
 there:=λb u q _=>⟨u,k b u q⟩
 eJ:=λb xs q=>by rw [av<|bC q hn];exact q
 dU:=λb u xs q=>by rw [av<|bC q hn];exact q
 eO:=λb ps q=>⟨#[],by rw [av<|bC q hn,q];simp⟩
theorem Un.write(mu:oV<|H x)(he:e=x\/H e=some (.own x))(k:∀ b u,b≠e->h.get? b=some u->h'.get? b=some u)(nn:∃ u,h'.get? e=some u):Un fs ex H (upd H x o) h h':=by
 have hx:∀ b,H b=none->b≠x:=λb n z=>by subst z;rw [n] at mu;exact mu
 have hb:∀ b,H b=none->b≠e:=λb n z=>by
  subst z
  rcases he with r | r
  ·exact hx b n r
  ·rw [n] at r;cases r
 have hm:∀ b u,H b=some u->¬ oV (some u)->b≠x:=λb u q nm z=>by subst z;rw [q] at mu;exact nm mu
 refine⟨λb u q n _ _=>k b u (hb b n) q,λb u q n _ _=>⟨u.slots,k b u (hb b n) q⟩,λb u q n _=>by rw [av<|hx b n];exact n,λb u q _=>?_,
  λb xs q=>by rw [av<|hm b _ q λz=>z];exact q,λb u xs q=>by rw [av<|hm b _ q λz=>z];exact q,λb ps q=>⟨#[],by rw [av<|hm b _ q λz=>z,q];simp⟩⟩
 by_cases k9:b=e
 ·subst k9;exact nn
 ·exact⟨u,k b u k9 q⟩
end
def sP(h:Heap)(H:Hp):List Addr:=(List.range h.objs.size).filter λa=>(H a).isSome
def dW(h:Heap)(H:Hp):Heap:=PySem.W.hideAll h<|sP h H
theorem KS(h:Heap)(H:Hp):(dW h H).objs.size=h.objs.size:=PySem.W.hideAll_size _ _
theorem KU{h:Heap}{H:Hp}{b:Addr}{o:Obj}(e:h.get? b=some o)(n:H b=none):(dW h H).get? b=some o:=
 PySem.W.hideAll_get _ e λhm=>by
  have q:(H b).isSome=true:=(Du.mp hm).2;rw [n] at q;simp at q
theorem KW{h:Heap}{H:Hp}{b:Addr}{o:Obj}(e:(dW h H).get? b=some o):h.get? b=some o/\H b=none:=by
 have e':h.get? b=some o:=PySem.W.of_hideAll (sP h H) e;refine⟨e',?_⟩;cases q:H b with
 | none=>rfl
 | some x=>
  have hm:b∈sP h H:=Du.mpr ⟨Cw.mpr<|Bd e',by simp [q]⟩;have z:(dW h H).get? b=none:=PySem.W.hideAll_none (sP h H) hm;rw [z] at e;cases e
structure Mod(K:PySem.W.Frag)(mg:Str->Option Value)(base:Heap):Prop where
 oX:K.In base
 glob:base.Ns mainGlobals mg
 blt:∃ mb,base.Ns builtinsNs mb/\∀ x:Str,x ≠ "__name__"->mb x=bootBuiltins x
 nolimit:base.NoLimit
structure Cx where
 prog:Program
 w:World
 K:PySem.W.Frag
 mg:Str->Option Value
 base:Heap
 A:Around
 N:List Str
 s₀:Shared
 H₀:Hp
 env:Env
 outer:List Env
 stack:List Env
 ex:List Addr
 fn:Str->Bool
 calm:Bool
 pn:List<|Addr×Obj
 xe:Value->Shared->Prop
def gX(l:List Env):List Addr:=l.filterMap (·.frame)
abbrev Cx.fs(X:Cx):List Addr:=gX X.outer
def vJ(sc:Scope)(x:Str):Prop:=sc.names.lookup x=some .local\/sc.names.lookup x=some .cell\/sc.names.lookup x=some .free
def Loc(sc:Scope)(x:Str):Prop:=sc.names.lookup x=some .local\/sc.names.lookup x=some .cell
def Look(env:Env)(h:Heap)(m:Str->Option Value)(x:Str)(u:Value):Prop:=
 (env.kindOf x=some .local/\m x=some u)\/((env.kindOf x=some .cell\/env.kindOf x=some .free)/\∃ c,env.cells.lookup x=some c/\h.IsCell c (some u))
structure Cx.Ok(X:Cx):Prop where
 mod:Mod X.K X.mg X.base
 kind:X.env.scope.kind = .function
 glob:X.env.globals=mainGlobals
 blt:X.env.builtins=builtinsNs
 above:X.s₀.heap.objs.size<=X.env.locals
 inj:∀ x y c,X.env.cells.lookup x=some c->X.env.cells.lookup y=some c->x=y
 has:∀ x,(X.env.kindOf x=some .cell\/X.env.kindOf x=some .free)->∃ c,X.env.cells.lookup x=some c
 oY:∀ x c,X.fn x=true->X.env.cells.lookup x=some c->X.s₀.heap.objs.size<=c
 hd:X.calm=true->X.A.handled=none
 frames:X.A.frames=some X.stack
 sQ:X.stack=X.outer\/(X.stack=X.env :: X.outer/\X.env.frame=some X.env.locals)
 B7:∀ b∈X.ex,b≠X.env.locals/\∀ x c,X.env.cells.lookup x=some c->c≠b
 bs:∀ b o,X.base.get? b=some o->X.s₀.heap.get? b=some o/\X.H₀ b=none
 kj:X.base.objs.size<=X.s₀.heap.objs.size
 iy:∀ b o,X.base.get? b=some o->b∉X.ex
 jx:∀ b∈X.ex,b∉X.fs
 dg:X.s₀.heap.FunFrames X.base X.outer
 nr:∀ b∈X.fs,X.H₀ b=none
structure Inv(X:Cx)(pins:List<|Addr×Obj)(σ:List<|Option V)(H:Hp)(s:Shared):Prop where
 ok:X.Ok
 os:s.os=X.s₀.os
 bare:AllBare s.gens
 base:Un X.fs X.ex X.H₀ H X.s₀.heap s.heap
 loc:∃ m,s.heap.Ns X.env.locals m/\∀(i:Nat) (x:Str) (v:V),X.N[i]?=some x->σ[i]?=some (some v)->vJ X.env.scope x->∃ u,RelV v u/\Look X.env s.heap m x u
 cell:∀ x c,X.env.cells.lookup x=some c->∃ v,s.heap.IsCell c v
 free:H X.env.locals=none
 bS:∀ x c,X.env.cells.lookup x=some c->H c=none
 pin:∀ p∈X.pn++pins,s.heap.get? p.1=some p.2/\H p.1=none/\p.1≠X.env.locals/\p.1∉X.fs/\∀ v,p.2.data ≠ .cell v
 aB:cf X.prog X.w H s.heap
 len:σ.length=X.N.length
section
variable{X:Cx}{pins:List (Addr×Obj)}{σ:List (Option V)}{H H':Hp}{s:Shared}{h':Heap}
theorem Cx.Ok.vK(ok:X.Ok){b:Addr}{o:Obj}(e:X.base.get? b=some o):b∉X.fs:=λhb=>by
 have:=(ok.dg.mem hb).1;rw [e] at this;cases this
theorem Inv.bs(I:Inv X pins σ H s):∀ b o,X.base.get? b=some o->s.heap.get? b=some o/\H b=none:=λb o e=>
 ⟨I.base.keep b o (I.ok.bs b o e).1 (I.ok.bs b o e).2 (I.ok.vK e)<|I.ok.iy b o e,I.base.free b o (I.ok.bs b o e).1 (I.ok.bs b o e).2<|I.ok.iy b o e⟩
theorem Inv.bk(I:Inv X pins σ H s):∀ b o,X.base.get? b=some o->s.heap.get? b=some o:=λb o e=>(I.bs b o e).1
theorem Inv.mod(I:Inv X pins σ H s):Mod X.K X.mg X.base:=I.ok.mod
theorem Inv.eQ(I:Inv X pins σ H s):X.K.In s.heap:=I.ok.mod.oX.keeps I.bk
theorem Inv.lt(I:Inv X pins σ H s):X.env.locals < s.heap.objs.size:=let ⟨_,hn,_⟩:=I.loc;hn.lt
theorem Inv.sz(I:Inv X pins σ H s):X.s₀.heap.objs.size<=s.heap.objs.size:=Bz I.ok.above<|Gs I.lt
theorem Inv.vL(I:Inv X pins σ H s){a:Addr}(h:s.heap.objs.size<=a):a∉X.fs:=λhb=>by
 obtain⟨_,o,ho,_⟩:=I.ok.dg.mem hb;exact absurd (Bm (Bd ho)<|Bz I.sz h)<|Cs _
theorem Inv.jy(I:Inv X pins σ H s):∀ x c,X.env.cells.lookup x=some c->c≠X.env.locals:=λx c e z=>by
 obtain⟨v,o,ho,hd⟩:=I.cell x c e;obtain⟨m,⟨o',es,ep,fh,vM,_⟩,_⟩:=I.loc;rw [z,fh] at ho;cases ho;rw [vM] at hd;cases hd
theorem Inv.dg(I:Inv X pins σ H s):s.heap.FunFrames X.base X.outer:=by
 have all:∀(l:List Env),(∀ b∈gX l,b∈X.fs)->X.s₀.heap.FunFrames X.base l->s.heap.FunFrames X.base l:=by
  intro l
  induction l with
  | nil=>intro _ _;trivial
  | cons env r ih=>
   intro hs hl;obtain⟨hk,⟨L,o,hf,hn,ho,hd⟩,hr⟩:=hl;have hL:L∈X.fs:=hs L (by unfold gX;rw [Gr,hf];exact Ak);obtain⟨sl,e⟩:=I.base.slot L o ho (I.ok.nr L hL) hL λz=>I.ok.jx L z hL;exact⟨hk,⟨L,_,hf,hn,e,hd⟩,ih (λb hb=>hs b<|by unfold gX;rw [Gr,hf];exact Aq _ hb) hr⟩
 exact all X.outer (λ_ hb=>hb) I.ok.dg
theorem Inv.stack(I:Inv X pins σ H s):s.heap.FunFrames X.base X.stack:=by
 rcases I.ok.sQ with e | ⟨e,hf⟩
 ·rw [e];exact I.dg
 ·rw [e];obtain⟨m,hn,_⟩:=I.loc;refine .cons (by rw [I.ok.kind];decide) hf hn ?_ I.dg;exact Heap.get?_none_of_le<|Bz I.ok.kj I.ok.above
theorem Inv.dX(I:Inv X pins σ H s):∀ b∈gX X.stack,b∈X.env.locals :: X.fs:=λb hb=>by
 rcases I.ok.sQ with e | ⟨e,hf⟩
 ·rw [e] at hb;exact Aq _ hb
 ·rw [e] at hb;unfold gX at hb;rw [Gr,hf] at hb;exact hb
theorem Inv.fO(I:Inv X pins σ H s):∀ b∈gX X.stack,H b=none:=λb hb=>by
 rcases Ax.mp (I.dX b hb) with e | hb
 ·rw [e];exact I.free
 ·obtain⟨_,o,ho,_⟩:=I.ok.dg.mem hb;exact I.base.free b o ho (I.ok.nr b hb) λz=>I.ok.jx b z hb
theorem Inv.step{g':Array GenState}{t':Nat}{d':Drawn}{ch:List Addr}(I:Inv X pins σ H s)
  (i8:∀ b∈ch,(b∈X.ex\/X.s₀.heap.objs.size<=b)/\b≠X.env.locals/\(∀ x c,X.env.cells.lookup x=some c->c≠b)/\∀ p∈X.pn++pins,p.1≠b)
  (keep:∀ b o,b≠X.env.locals->b∉X.fs->b∉ch->s.heap.get? b=some o->H b=none->h'.get? b=some o)
  (slot:∀ b o,b≠X.env.locals->b∈X.fs->b∉ch->s.heap.get? b=some o->H b=none->∃ sl,h'.get? b=some {o with slots:=sl}) (free:∀ b o,b∉ch->s.heap.get? b=some o->H b=none->H' b=none)
  (there:∀ b o,b∉ch->s.heap.get? b=some o->∃ o',h'.get? b=some o')
  (eJ:∀ b xs,H b=some (.tup xs)->H' b=some (.tup xs)) (dU:∀ b o u,H b=some (.cK o u)->H' b=some (.cK o u)) (eO:∀ b ps,H b=some (.k7 ps)->∃ more,H' b=some (.k7<|ps++more))
  (ns:∀ m,s.heap.Ns X.env.locals m->h'.Ns X.env.locals m) (aB:cf X.prog X.w H' h') (hg:AllBare g') :
  Inv X pins σ H' {s with heap:=h',gens:=g',drawn:=d',toks:=t'}:=by
 have B8:∀ b o,X.s₀.heap.get? b=some o->b≠X.env.locals:=λb o e=>Cu<|Bm (Bd e) I.ok.above;have sS:∀ b o,X.s₀.heap.get? b=some o->b∉X.ex->b∉ch:=λb o e hx hb=>by
  rcases (i8 b hb).1 with z | z
  ·exact hx z
  ·exact absurd (Bm (Bd e) z)<|Cs _
 have cellK:∀ x c,X.env.cells.lookup x=some c->∀ v,s.heap.IsCell c v->h'.IsCell c v:=λx c e v ⟨o,ho,hd⟩=>by
  have oZ:c∉ch:=λz=>(i8 c z).2.2.1 x c e rfl
  by_cases hc:c∈X.fs
  ·obtain⟨sl,q⟩:=slot c o (I.jy x c e) hc oZ ho<|I.bS x c e;exact⟨_,q,hd⟩
  ·exact⟨o,keep c o (I.jy x c e) hc oZ ho<|I.bS x c e,hd⟩
 refine⟨I.ok,I.os,hg,⟨λb o e n hb hx=>?_,λb o e n hb hx=>?_,λb o e n hx=>?_,λb o e hx=>?_,λb xs e=>eJ b xs<|I.base.eJ b xs e,λb o xs e=>dU b o xs<|I.base.dU b o xs e,λb ps e=>?_⟩,?_,λx c e=>?_,?_,λx c e=>?_,λp hp=>?_,aB,I.len⟩
 ·exact keep b o (B8 b o e) hb (sS b o e hx) (I.base.keep b o e n hb hx)<|I.base.free b o e n hx
 ·obtain⟨sl,e1⟩:=I.base.slot b o e n hb hx;obtain⟨K0,e2⟩:=slot b _ (B8 b o e) hb (sS b o e hx) e1<|I.base.free b o e n hx;exact⟨K0,e2⟩
 ·obtain⟨o',e1⟩:=I.base.there b o e hx;exact free b o' (sS b o e hx) e1<|I.base.free b o e n hx
 ·obtain⟨o',e1⟩:=I.base.there b o e hx;exact there b o' (sS b o e hx) e1
 ·obtain⟨m1,e1⟩:=I.base.eO b ps e;obtain⟨m2,e2⟩:=eO b _ e1;exact⟨m1++m2,by rw [e2,Array.append_assoc]⟩
 ·obtain⟨m,hn,hl⟩:=I.loc;refine⟨m,ns m hn,λi x v e1 e2 e3=>?_⟩;obtain⟨u,r,l⟩:=hl i x v e1 e2 e3;refine⟨u,r,?_⟩
  rcases l with l | ⟨k,c,e,z⟩
  ·exact .inl l
  ·exact .inr ⟨k,c,e,cellK x c e _ z⟩
 ·obtain⟨v,z⟩:=I.cell x c e;exact⟨v,cellK x c e v z⟩
 ·obtain⟨m,⟨o,_,_,ho,_⟩,_⟩:=I.loc;exact free _ o (λz=>(i8 _ z).2.1 rfl) ho I.free
 ·obtain⟨v,o,ho,hd⟩:=I.cell x c e;exact free c o (λz=>(i8 c z).2.2.1 x c e rfl) ho<|I.bS x c e
 ·obtain⟨e,n,ne,nf,d⟩:=I.pin p hp;have oZ:p.1∉ch:=λz=>(i8 p.1 z).2.2.2 p hp rfl;exact⟨keep p.1 p.2 ne nf oZ e n,free p.1 p.2 oZ e n,ne,nf,d⟩
theorem Inv.un{t':Nat}(I:Inv X pins σ H s)(u:Un X.fs [] H H' s.heap h')(aB:cf X.prog X.w H' h'):Inv X pins σ H' {s with heap:=h',toks:=t'}:=by
 obtain⟨m,⟨o,es,ep,ho,r⟩,_⟩:=id I.loc;obtain⟨sl,hL⟩:=u.any ho I.free (by simp);exact I.step (g':=s.gens) (d':=s.drawn) (ch:=[]) (λ_ z=>nomatch z) (λb o _ hb _ e n=>u.keep b o e n hb<|by simp) (λb o _ hb _ e n=>u.slot b o e n hb<|by simp) (λb o _ e n=>u.free b o e n<|by simp) (λb o _ e=>u.there b o e<|by simp) u.eJ u.dU u.eO (λm' hm=>by
  obtain⟨o',a7,sU,fh,r'⟩:=hm;rw [ho] at fh;cases fh;exact⟨_,a7,sU,hL,r'⟩) aB I.bare
theorem Inv.call{g':Array GenState}{t':Nat}{d':Drawn}{ch:List Addr}(I:Inv X pins σ H s)(u:Un (gX X.stack) ch H H' s.heap h')(aB:cf X.prog X.w H' h')(hg:AllBare g')
  (i8:∀ b∈ch,(b∈X.ex\/X.s₀.heap.objs.size<=b)/\b≠X.env.locals/\(∀ x c,X.env.cells.lookup x=some c->c≠b)/\∀ p∈X.pn++pins,p.1≠b) :
  Inv X pins σ H' {s with heap:=h',gens:=g',drawn:=d',toks:=t'}:=by
 obtain⟨m,⟨o,es,ep,ho,r⟩,_⟩:=id I.loc;obtain⟨sl,hL⟩:=u.any ho I.free λz=>(i8 _ z).2.1 rfl;exact I.step (ch:=ch) i8 (λb o hL hb hc e n=>u.keep b o e n (λz=>(Ax.mp<|I.dX b z).elim hL hb) hc) (λb o _ _ hc e n=>u.any e n hc) (λb o hc e n=>u.free b o e n hc) (λb o hc e=>u.there b o e hc) u.eJ u.dU u.eO (λm' hm=>by
  obtain⟨o',a7,sU,fh,r'⟩:=hm;rw [ho] at fh;cases fh;exact⟨_,a7,sU,hL,r'⟩) aB hg
theorem Inv.turned{t':Nat}{it:Addr}(I:Inv X pins σ H s)(k:∀ b o,b≠it->s.heap.get? b=some o->h'.get? b=some o)(hn:H it=none)(hL:it≠X.env.locals)
  (h1:it∈X.ex\/X.s₀.heap.objs.size<=it) (h2:∀ x c,X.env.cells.lookup x=some c->c≠it) (h3:∀ p∈X.pn++pins,p.1≠it):Inv X pins σ H {s with heap:=h',toks:=t'}:=by
 have o1:∀ b u,H b=some u->b≠it:=λb u e z=>by rw [z,hn] at e;cases e
 refine I.step (g':=s.gens) (d':=s.drawn) (ch:=[it]) (λb hb=>?_) (λb o _ _ hc e _=>k b o (λz=>hc<|by simp [z]) e) (λb o _ _ hc e _=>⟨o.slots,k b o (λz=>hc<|by simp [z]) e⟩) (λ_ _ _ _ n=>n)
  (λb o hc e=>⟨o,k b o (λz=>hc<|by simp [z]) e⟩) (λ_ _ e=>e) (λ_ _ _ e=>e) (λb ps e=>⟨#[],by rw [e];simp⟩) (λm hm=>?_) (λb u e=>?_) I.bare
 ·have e:b=it:=by simpa using hb
  subst e;exact⟨h1,hL,h2,h3⟩
 ·obtain⟨o,es,ep,ho,r⟩:=hm;exact⟨o,es,ep,k _ o (Ne.symm hL) ho,r⟩
 ·refine(I.aB b u e).gB (λc v hc q=>k c v ?_ q) (λ_ q=>q) λ_ _ q=>q
  rcases hc with z | z
  ·rw [z];exact o1 b u e
  ·exact o1 c _ z
theorem Inv.tok(I:Inv X pins σ H s)(t:Nat):Inv X pins σ H {s with toks:=t}:=I.un (h':=s.heap) (t':=t) Un.refl I.aB
theorem Inv.kept{t':Nat}(I:Inv X pins σ H s)(k:∀ b u,s.heap.get? b=some u->h'.get? b=some u):Inv X pins σ H {s with heap:=h',toks:=t'}:=I.un (Un.kept k)<|I.aB.kept k
theorem Inv.laid{a:Addr}{o:HO}{t':Nat}(I:Inv X pins σ H s)(k:∀ b u,s.heap.get? b=some u->h'.get? b=some u)(hp:s.heap.objs.size<=a)(new:ax X.prog X.w (upd H a o) h' a o) :
  Inv X pins σ (upd H a o) {s with heap:=h',toks:=t'}:=I.un (Un.laid k hp<|I.aB.fresh hp)<|I.aB.laid k hp new
theorem Inv.write{x e:Addr}{o:HO}{t':Nat}(I:Inv X pins σ H s)(mu:oV<|H x)(he:e=x\/H e=some (.own x))(k:∀ b u,b≠e->s.heap.get? b=some u->h'.get? b=some u)(nn:∃ u,h'.get? e=some u)
  (new:ax X.prog X.w (upd H x o) h' x o):Inv X pins σ (upd H x o) {s with heap:=h',toks:=t'}:=I.un (Un.write mu he k nn)<|I.aB.write mu he k nn new
theorem Inv.fP{km:List (Addr×Obj)}(I:Inv X pins σ H s)(h:∀ p∈km,s.heap.get? p.1=some p.2/\H p.1=none/\p.1≠X.env.locals/\p.1∉X.fs/\∀ v,p.2.data ≠ .cell v):Inv X km σ H s:=
 ⟨I.ok,I.os,I.bare,I.base,I.loc,I.cell,I.free,I.bS,λp hp=>(Al.mp hp).elim (λz=>I.pin p<|Av _ z)<|h p,I.aB,I.len⟩
theorem o5{N:List Str}(hN:N.Nodup){i j:Nat}{x:Str}(a:N[i]?=some x)(b:N[j]?=some x):i=j:=by
 obtain⟨h1,e1⟩:=Ac.mp a;obtain⟨h2,e2⟩:=Ac.mp b;exact(JW hN).mp<|e1.trans e2.symm
theorem B9{M:Model}{A:Around}{E:Value->Shared->Prop}{i:Nat}{x:Str}{v:V}{u:Value}{Q:Unit->Shared->Prop}(I:Inv X pins σ H s)(hN:X.N.Nodup)(hi:X.N[i]?=some x)(hx:Loc X.env.scope x)(r:RelV v u)
  (h:∀ s',Inv X pins (σ.set i<|some v) H s'->(∃ a,Heap.SameBut a s.heap s'.heap/\(a=X.env.locals\/X.env.cells.lookup x=some a))->Q () s') (hf:X.fn x=true\/X.env.scope.names.lookup x=some .local:=by first | exact .inl rfl | exact .inr rfl | assumption):wpAny M A (storeName X.env x u) Q E s:=by
 obtain⟨m,hn,hl⟩:=id I.loc;have vN:(X.env.scope.kind == .class || (X.env.scope.kind == .module && X.env.locals != X.env.globals))=false:=by rw [I.ok.kind];rfl
 have hiσ:i < σ.length:=by rw [I.len];exact(Ac.mp hi).1
 have jy:=I.jy;have tracked:∀{a:Addr} {h':Heap},(∃ o,s.heap.get? a=some o/\H a=none)->Heap.SameBut a s.heap h'->cf X.prog X.w H h':=λ{a h'} ha hs b ob e=>by
  obtain⟨_,_,kn⟩:=ha;refine(I.aB b ob e).gB (λc w' hc q=>(hs.2 c ?_).trans q) (λ_ q=>q) λ_ _ q=>q;rintro rfl
  rcases hc with rfl | hc
  ·rw [kn] at e;cases e
  ·rw [kn] at hc;cases hc
 rcases hx with hk | hk
 ·refine wpAny_storeName_local hk hn (λh' sV hs=>?_) vN;obtain⟨oL,_,_,i',_⟩:=id hn;refine h _ ⟨I.ok,I.os,I.bare,⟨λb o e n hb hx=>?_,λb o e n hb hx=>?_,I.base.free,λb o e hx=>?_,I.base.eJ,I.base.dU,I.base.eO⟩,⟨_,sV,λj y v' e1 e2 e3=>?_⟩,λy c e=>?_,I.free,I.bS,λp hp=>?_,tracked ⟨oL,i',I.free⟩ hs,by simpa using I.len⟩ ⟨_,hs,.inl rfl⟩
  ·exact(hs.2 b<|Cu<|Bm (Bd e) I.ok.above).trans<|I.base.keep b o e n hb hx
  ·obtain⟨sl,e1⟩:=I.base.slot b o e n hb hx;exact⟨sl,(hs.2 b<|Cu<|Bm (Bd e) I.ok.above).trans e1⟩
  ·obtain⟨o',e1⟩:=I.base.there b o e hx;exact⟨o',(hs.2 b<|Cu<|Bm (Bd e) I.ok.above).trans e1⟩
  ·by_cases hj:j=i
   ·subst hj;rw [hi] at e1;cases e1;rw [Dw hiσ] at e2;cases e2;exact⟨u,r,.inl ⟨hk,by simp⟩⟩
   ·rw [Ee<|Ne.symm hj] at e2;obtain⟨u',r',q⟩:=hl j y v' e1 e2 e3;refine⟨u',r',?_⟩
    rcases q with ⟨k,e⟩ | ⟨k,c,e,z⟩
    ·refine .inl ⟨k,?_⟩;have:y≠x:=λe=>hj<|o5 hN e1<|e ▸ hi;simp [this,e]
    ·exact .inr ⟨k,c,e,z.sameBut hs<|jy y c e⟩
  ·obtain⟨w',z⟩:=I.cell y c e;exact⟨w',z.sameBut hs<|jy y c e⟩
  ·obtain⟨e,n,ne,nf,d⟩:=I.pin p hp;exact⟨(hs.2 p.1 ne).trans e,n,ne,nf,d⟩
 ·have vO:X.fn x=true:=by
   rcases hf with z | z
   ·exact z
   ·rw [z] at hk;cases hk
  obtain⟨c,hc⟩:=I.ok.has x<|.inl hk;obtain⟨w',z⟩:=I.cell x c hc;refine wpAny_storeName_cell I.ok.kind hk hc z λh' cX hs=>?_;obtain⟨oc,CA,vP⟩:=id z;refine h {s with heap:=h'} ⟨I.ok,I.os,I.bare,⟨λb o e n hb hx=>?_,λb o e n hb hx=>?_,I.base.free,λb o e hx=>?_,I.base.eJ,I.base.dU,I.base.eO⟩,⟨m,hn.sameBut hs<|Ne.symm<|jy x c hc,λj y v' e1 e2 e3=>?_⟩,λy c' e=>?_,I.free,I.bS,λp hp=>?_,tracked ⟨oc,CA,I.bS x c hc⟩ hs,by simpa using I.len⟩ ⟨c,hs,.inr hc⟩
  ·exact(hs.2 b<|Cu<|Bm (Bd e)<|I.ok.oY x c vO hc).trans<|I.base.keep b o e n hb hx
  ·obtain⟨sl,e1⟩:=I.base.slot b o e n hb hx;exact⟨sl,(hs.2 b<|Cu<|Bm (Bd e)<|I.ok.oY x c vO hc).trans e1⟩
  ·obtain⟨o',e1⟩:=I.base.there b o e hx;exact⟨o',(hs.2 b<|Cu<|Bm (Bd e)<|I.ok.oY x c vO hc).trans e1⟩
  ·by_cases hj:j=i
   ·subst hj;rw [hi] at e1;cases e1;rw [Dw hiσ] at e2;cases e2;exact⟨u,r,.inr ⟨.inl hk,c,hc,cX⟩⟩
   ·rw [Ee<|Ne.symm hj] at e2;obtain⟨u',r',q⟩:=hl j y v' e1 e2 e3;refine⟨u',r',?_⟩
    rcases q with q | ⟨k,c',e,z'⟩
    ·exact .inl q
    ·refine .inr ⟨k,c',e,z'.sameBut hs ?_⟩;rintro rfl;exact hj<|o5 hN e1<|I.ok.inj _ _ _ e hc ▸ hi
  ·by_cases fQ:c'=c
   ·subst fQ;exact⟨_,cX⟩
   ·obtain⟨w2,z2⟩:=I.cell y c' e;exact⟨w2,z2.sameBut hs fQ⟩
  ·obtain⟨e,n,ne,nf,d⟩:=I.pin p hp;refine⟨(hs.2 p.1 ?_).trans e,n,ne,nf,d⟩;intro q;rw [q,CA] at e;have q':oc=p.2:=Option.some.inj e;exact d w'<|by rw [<- q'];exact vP
theorem CB{M:Model}{A:Around}{E:Value->Shared->Prop}{i:Nat}{x:Str}{v:V}{u:Value}{Q:Unit->Shared->Prop}(I:Inv X pins σ H s)(hN:X.N.Nodup)(hi:X.N[i]?=some x)(hx:Loc X.env.scope x)(r:RelV v u)
  (h:∀ s',Inv X pins (σ.set i<|some v) H s'->Q () s') (hf:X.fn x=true\/X.env.scope.names.lookup x=some .local:=by first | exact .inl rfl | exact .inr rfl | assumption):wpAny M A (storeName X.env x u) Q E s:=
 B9 I hN hi hx r (λs' I' _=>h s' I') hf
theorem Inv.call'{s':Shared}{ch:List Addr}(I:Inv X pins σ H s)(ho:s'.os=s.os)(u:Un (gX X.stack) ch H H' s.heap s'.heap)(aB:cf X.prog X.w H' s'.heap)(hg:AllBare s'.gens)
  (i8:∀ b∈ch,(b∈X.ex\/X.s₀.heap.objs.size<=b)/\b≠X.env.locals/\(∀ x c,X.env.cells.lookup x=some c->c≠b)/\∀ p∈X.pn++pins,p.1≠b):Inv X pins σ H' s':=by
 obtain⟨h',g',d',t',o'⟩:=s';have e:o'=s.os:=ho;subst e;exact I.call (g':=g') (t':=t') (d':=d') u aB hg i8
end
abbrev XK:=Value->Option Addr->Hp->Prop
abbrev St:=List<|Option V
abbrev VK:=V->Hp->Prop
abbrev TE:=St->Hp->VK->Prop
abbrev TT:=St->Hp->(Bool->Hp->Prop)->Prop
abbrev TA:=St->Hp->(List V->Hp->Prop)->Prop
structure Ends where
 nx:St->Hp->Prop
 rt:VK
 bk:St->Hp->Prop:=λ_ _=>False
 ct:St->Hp->Prop:=λ_ _=>False
abbrev TS:=Ends->St->Hp->Prop
def EP(X:Cx)(pins:List<|Addr×Obj)(σ:St)(Q:VK)(u:Value)(s':Shared):Prop:=∃ v H',Inv X pins σ H' s'/\RelV v u/\Q v H'
def TP(X:Cx)(pins:List<|Addr×Obj)(σ:St)(Q:Bool->Hp->Prop)(b:Bool)(s':Shared):Prop:=∃ H',Inv X pins σ H' s'/\Q b H'
def AP(X:Cx)(pins:List<|Addr×Obj)(σ:St)(Q:List V->Hp->Prop)(us:List Value)(s':Shared):Prop:=∃ vs H',Inv X pins σ H' s'/\aq vs us/\Q vs H'
def SP(X:Cx)(pins:List<|Addr×Obj)(D:Ends)(f:Flow)(s':Shared):Prop:=
 match f with
 | .next=>∃ σ' H',Inv X pins σ' H' s'/\D.nx σ' H'
 | .brk=>∃ σ' H',Inv X pins σ' H' s'/\D.bk σ' H'
 | .cont=>∃ σ' H',Inv X pins σ' H' s'/\D.ct σ' H'
 | .ret u=>∃ v σ' H',Inv X pins σ' H' s'/\RelV v u/\D.rt v H'
def PE(X:Cx)(e:Expr)(t:TE):Prop:=
 ∀(pins:List<|Addr×Obj) (s:Shared) (σ:St) (H:Hp) (Q:VK),Inv X pins σ H s->t σ H Q->wpAny (model X.prog X.w) X.A (eval e X.env) (EP X pins σ Q) X.xe s
def PT(X:Cx)(e:Expr)(t:TT):Prop:=
 ∀(pins:List<|Addr×Obj) (s:Shared) (σ:St) (H:Hp) (Q:Bool->Hp->Prop),Inv X pins σ H s->t σ H Q->wpAny (model X.prog X.w) X.A (isTrue e X.env<|eval e X.env) (TP X pins σ Q) X.xe s
def PW(X:Cx)(e:Expr)(t:TT):Prop:=
 ∀(whole:Sem Value) (pins:List<|Addr×Obj) (s:Shared) (σ:St) (H:Hp) (Q:Bool->Hp->Prop),Inv X pins σ H s->t σ H Q->wpAny (model X.prog X.w) X.A (isTrue e X.env whole) (TP X pins σ Q) X.xe s
def PA(X:Cx)(es:List Expr)(t:TA):Prop:=
 ∀(pos:Pos) (pins:List<|Addr×Obj) (s:Shared) (σ:St) (H:Hp) (Q:List V->Hp->Prop),Inv X pins σ H s->t σ H Q->wpAny (model X.prog X.w) X.A (spliced<|backTo pos<|starEach es X.env) (AP X pins σ Q) X.xe s
def PS(X:Cx)(st:Stmt)(t:TS):Prop:=
 ∀(pins:List<|Addr×Obj) (s:Shared) (σ:St) (H:Hp) (D:Ends),Inv X pins σ H s->t D σ H->wpAny (model X.prog X.w) X.A (exec st X.env) (SP X pins D) X.xe s
def gC(X:Cx)(st:List Stmt)(t:TS):Prop:=
 ∀(pins:List<|Addr×Obj) (s:Shared) (σ:St) (H:Hp) (D:Ends),Inv X pins σ H s->t D σ H->wpAny (model X.prog X.w) X.A (execs st X.env) (SP X pins D) X.xe s
theorem aD{α:Type}{t:Sem α}{Q Q':α->Shared->Prop}{M:Model}{A:Around}{E:Value->Shared->Prop}{s:Shared}(h:wpAny M A t Q E s)(hQ:∀ a s,Q a s->Q' a s):wpAny M A t Q' E s:=CP h hQ λ_ _ x=>x
section
variable{X:Cx}
theorem bin{a b:Expr}{ta tb:TE}(ha:PE X a ta)(hb:PE X b tb){pins:List (Addr×Obj)}{s:Shared}{σ:St}{H:Hp}{R:V->V->Hp->Prop}(I:Inv X pins σ H s)(h:ta σ H λx H1=>tb σ H1 λy H2=>R x y H2)
  {α:Type} {Q:α->Shared->Prop} {f:Value->Value->Sem α}
  (hf:∀ v u s2 x y H2,Inv X pins σ H2 s2->RelV x v->RelV y u->R x y H2->wpAny (model X.prog X.w) X.A (f v u) Q X.xe s2) :
  wpAny (model X.prog X.w) X.A (eval a X.env) (λv s₁=>wpAny (model X.prog X.w) X.A (eval b X.env) (λu s₂=>wpAny (model X.prog X.w) X.A (f v u) Q X.xe s₂) X.xe s₁) X.xe s:=by
 refine aD (ha pins s σ H _ I h) λv s1 ⟨x,H1,I1,r1,q1⟩=>?_;refine aD (hb pins s1 σ H1 _ I1 q1) λu s2 ⟨y,H2,I2,r2,q2⟩=>?_;exact hf v u s2 x y H2 I2 r1 r2 q2
def vQ(i:Nat):TE:=λσ H Q=>∃ v,σ[i]?=some (some v)/\Q v H
def tC(v:V):TE:=λ_ H Q=>Q v H
theorem K1{i:Nat}{x:Str}{pos:Pos}(hN:X.N[i]?=some x)(hv:vJ X.env.scope x)(hd:(x == ("__debug__" : Str))=false:=by decide)(gY:(x == ("__classdict__" : Str))=false:=by decide):PE X (.Name x pos) (vQ i):=by
 intro pins s σ H Q I h;obtain⟨v,e,h⟩:=h;obtain⟨m,hn,hl⟩:=I.loc;obtain⟨u,r,l⟩:=hl i x v hN e hv;have fin:EP X pins σ Q u s:=⟨v,H,I,r,h⟩
 rcases l with ⟨hk,hm⟩ | ⟨hk,c,hc,fS⟩
 ·exact wpAny_Name (wpAny_loadName_local I.ok.kind hk hn hm fin) hd
 ·rcases hk with hk | hk
  ·exact wpAny_Name (wpAny_loadName_cell I.ok.kind hk hc fS fin) hd
  ·exact wpAny_Name (wpAny_loadName_free I.ok.kind hk hc fS fin gY) hd
theorem K2{i j pos}:PE X (.Constant (.int i) j pos) (tC<|.int i):=λ_ _ _ H _ I h=>wpAny_Constant_int ⟨.int i,H,I.tok _,⟨_,rfl⟩,h⟩
theorem K3{b j pos}:PE X (.Constant (.bool b) j pos) (tC<|.bl b):=λ_ _ _ H _ I h=>Constant_bool ⟨.bl b,H,I,rfl,h⟩
theorem K4{x j pos}:PE X (.Constant (.str x) j pos) (tC<|.str x):=λ_ _ _ H _ I h=>Calls.Constant_str ⟨.str x,H,I.tok _,⟨_,rfl⟩,h⟩
def Gl(X:Cx)(x:Str):Prop:=X.env.kindOf x=some .globalImplicit
theorem CD{E:Value->Shared->Prop}{pins:List (Addr×Obj)}{s:Shared}{σ:St}{H:Hp}{x:Str}{u:Value}{pos:Pos}{Q:Value->Shared->Prop}(I:Inv X pins σ H s)(hg:Gl X x)(hm:X.mg x=some u)(h:Q u s)
  (hd:(x == ("__debug__" : Str))=false:=by decide):wpAny (model X.prog X.w) X.A (eval (.Name x pos) X.env) Q E s:=
 Calls.Name_function_global I.ok.kind hg (Calls.loadGlobal_global (by rw [I.ok.glob];exact I.mod.glob.keeps I.bk) hm h) hd
theorem lg{E:Value->Shared->Prop}{pins:List (Addr×Obj)}{s:Shared}{σ:St}{H:Hp}{x:Str}{u:Value}{pos:Pos}{Q:Value->Shared->Prop}(I:Inv X pins σ H s)(hg:Gl X x)(hm:X.mg x=none)(hv:bootBuiltins x=some u)(h:Q u s)
  (hn:x ≠ "__name__":=by decide) (hd:(x == ("__debug__" : Str))=false:=by decide):wpAny (model X.prog X.w) X.A (eval (.Name x pos) X.env) Q E s:=by
 obtain⟨mb,h1,h2⟩:=I.mod.blt;exact Calls.Name_function_global I.ok.kind hg (Calls.loadGlobal_builtin (by rw [I.ok.glob];exact I.mod.glob.keeps I.bk) hm (by rw [I.ok.blt];exact h1.keeps I.bk) ((h2 x hn).trans hv) h) hd
theorem K5{x:Str}{v:V}{u:Value}{pos:Pos}(hg:Gl X x)(hm:X.mg x=some u)(r:RelV v u)(hd:(x == ("__debug__" : Str))=false:=by decide):PE X (.Name x pos) (tC v):=
 λ_ _ _ H _ I h=>CD I hg hm ⟨v,H,I,r,h⟩ hd
theorem K6{x:Str}{v:V}{u:Value}{pos:Pos}(hg:Gl X x)(hm:X.mg x=none)(hv:bootBuiltins x=some u)(r:RelV v u)(hn:x ≠ "__name__":=by decide)(hd:(x == ("__debug__" : Str))=false:=by decide):PE X (.Name x pos) (tC v):=
 λ_ _ _ H _ I h=>lg I hg hm hv ⟨v,H,I,r,h⟩ hn hd
variable{a b:Expr}{ta tb:TE}{pos:Pos}
def PC(X:Cx)(op:CmpOp)(a b:Expr)(t:TE):Prop:=
 ∀(pins:List<|Addr×Obj) (s:Shared) (σ:St) (H:Hp) (Q:VK),Inv X pins σ H s->t σ H Q ->
  wpAny (model X.prog X.w) X.A (eval a X.env) (λv s₁=>wpAny (model X.prog X.w) X.A (eval b X.env) (λu s₂=>wpAny (model X.prog X.w) X.A (compareOp op v u) (EP X pins σ Q) X.xe s₂) X.xe s₁) X.xe s
def tB(t:TE):TT:=λσ H Q=>t σ H λx H1=>∃ c,x = .bl c/\Q c H1
theorem CF{op:CmpOp}{t:TE}(h:PC X op a b t)(h1:behindInMarks op b=false:=by first | exact o6 _ (by decide) (by decide) | rfl):PT X (.Compare a [op] [b] pos) (tB t):=by
 intro pins s σ H Q I hw;refine wpAny_isTrue_Compare1 (aD (h pins s σ H _ I hw) λv s1 h1=>aD h1 λu s2 h2=>aD h2 λc s3 ⟨x,H1,I1,r1,q1⟩=>?_) h1;obtain⟨d,rfl,q⟩:=q1;cases r1;exact DW ⟨H1,I1,q⟩
theorem K7{e:Expr}{t:TE}(h:PE X e t)(he:∀ whole,isTrue e X.env whole=(do let v <- whole;standAt e.pos;holding [v] (truthy v)):=by intro _;rfl):PT X e (tB t):=by
 intro pins s σ H Q I hw;refine isTrue_plain (aD (h pins s σ H _ I hw) λv s1 ⟨x,H1,I1,r1,q1⟩=>?_)<|he _;obtain⟨d,rfl,q⟩:=q1;cases r1;exact DW ⟨H1,I1,q⟩
variable{tA sW:TT}{rest:List Expr}
def vR(t u:TT):TT:=λσ H Q=>t σ H λc H1=>if c=true then u σ H1 Q else Q false H1
def K8(t u:TT):TT:=λσ H Q=>t σ H λc H1=>if c=true then Q true H1 else u σ H1 Q
def vS(t:TT):TT:=λσ H Q=>t σ H λc H1=>Q (!c) H1
theorem K9(ha:PT X a tA):PW X (.BoolOp .And [a] pos) tA:=by
 intro wh pins s σ H Q I h;refine isTrue_and<|aD (ha pins s σ H Q I h) λc s1 e=>?_;cases c with
 | true=>exact isTrue_and_nil e
 | false=>exact e
theorem K'(ha:PT X a tA):PW X (.BoolOp .Or [a] pos) tA:=by
 intro wh pins s σ H Q I h;refine isTrue_or<|aD (ha pins s σ H Q I h) λc s1 e=>?_;cases c with
 | false=>exact isTrue_or_nil e
 | true=>exact e
theorem La(ha:PT X a tA)(hb:PW X (.BoolOp .And (b :: rest) pos) sW):PW X (.BoolOp .And (a :: b :: rest) pos) (vR tA sW):=by
 intro wh pins s σ H Q I h;refine isTrue_and<|aD (ha pins s σ H _ I h) λc s1 ⟨H1,I1,q1⟩=>?_;cases c with
 | true=>exact hb wh pins s1 σ H1 Q I1 q1
 | false=>exact⟨H1,I1,q1⟩
theorem Lb(ha:PT X a tA)(hb:PW X (.BoolOp .Or (b :: rest) pos) sW):PW X (.BoolOp .Or (a :: b :: rest) pos) (K8 tA sW):=by
 intro wh pins s σ H Q I h;refine isTrue_or<|aD (ha pins s σ H _ I h) λc s1 ⟨H1,I1,q1⟩=>?_;cases c with
 | true=>exact⟨H1,I1,q1⟩
 | false=>exact hb wh pins s1 σ H1 Q I1 q1
theorem Lc(ha:PT X a tA):PT X (.UnaryOp .Not a pos) (vS tA):=by
 intro pins s σ H Q I h;exact isTrue_not<|ha pins s σ H (λc H1=>Q (!c) H1) I h
def Ld(ta tb:TE):TE:=λσ H Q=>ta σ H λx H1=>∃ c,x = .bl c/\if c=true then tb σ H1 Q else Q (.bl false) H1
theorem Le{op}{t:TE}(h:PE X a t):PE X (.BoolOp op [a] pos) t:=λpins s σ H Q I hw=>BoolOp_one<|h pins s σ H Q I hw
theorem Lf(ha:PE X a ta)(hb:PE X (.BoolOp .And (b :: rest) pos) tb):PE X (.BoolOp .And (a :: b :: rest) pos) (Ld ta tb):=by
 intro pins s σ H Q I h;refine BoolOp_and<|aD (ha pins s σ H _ I h) λv s1 ⟨x,H1,I1,r1,q1⟩=>?_;obtain⟨c,rfl,q1⟩:=q1;cases r1;refine DW ?_;cases c with
 | true=>exact hb pins s1 σ H1 Q I1 q1
 | false=>exact⟨.bl false,H1,I1,rfl,q1⟩
def Lg(t:TT)(ta tb:TE):TE:=λσ H Q=>t σ H λc H1=>if c=true then ta σ H1 Q else tb σ H1 Q
theorem Lh{c:Expr}(hc:PT X c tA)(ha:PE X a ta)(hb:PE X b tb):PE X (.IfExp c a b pos) (Lg tA ta tb):=by
 intro pins s σ H Q I h;refine wpAny_IfExp<|aD (hc pins s σ H _ I h) λd s1 ⟨H1,I1,q1⟩=>?_;cases d with
 | true=>exact ha pins s1 σ H1 Q I1 q1
 | false=>exact hb pins s1 σ H1 Q I1 q1
end
def ak(K:PySem.W.Frag)(H:Hp)(a:Addr)(xs:List V):Prop:=
 Rd H a (.lst xs) \/
  ∃(o:Obj) (its:Array Value) (n:Nat),K.lookup a=some o/\o.cls = .type "list"/\o.dict=none/\o.data = .seq its n/\its.size<=sizeLine/\aq xs its.toList
def aK(K:PySem.W.Frag)(H:Hp)(a:Addr)(xs:List V):Prop:=
 Rd H a (.tup xs) \/
  ∃(o:Obj) (its:Array Value) (n:Nat),K.lookup a=some o/\o.cls = .type "tuple"/\o.data = .seq its n/\its.size<=sizeLine/\aq xs its.toList
def vT:Value->Option V
 | .none=>some .non
 | .bool b=>some<|.bl b
 | .int i _=>some<|.int i
 | .str x _=>some<|.str x
 | .bytes b _=>some<|.gA b
 | .float b _=>some<|.nk b
 | .ref a=>some<|.ref a
 | .type n=>some<|.ty n
 | _=>none
theorem RelV.abs{x:V}{u:Value}(r:RelV x u):vT u=some x:=by
 cases x with
 | non=>cases r;rfl
 | bl _=>cases r;rfl
 | int _=>obtain⟨t,rfl⟩:=r;rfl
 | str _=>obtain⟨t,rfl⟩:=r;rfl
 | gA _=>obtain⟨t,rfl⟩:=r;rfl
 | nk _=>obtain⟨t,rfl⟩:=r;rfl
 | ref _=>cases r;rfl
 | ty _=>cases r;rfl
theorem RelV.inj{x y:V}{u:Value}(r:RelV x u)(q:RelV y u):x=y:=Option.some.inj<|r.abs.symm.trans q.abs
theorem aq.inj:∀{xs ys:List V} {us:List Value},aq xs us->aq ys us->xs=ys
 | _,_,_,.nil,.nil=>rfl
 | _,_,_,.cons r t,.cons r' t'=>by rw [r.inj r',aq.inj t t']
section
variable{X:Cx}{pins:List (Addr×Obj)}{σ:St}{H:Hp}{s:Shared}{a:Addr}{xs ys:List V}
theorem ak.of{K:PySem.W.Frag}(h:H a=some (.lst xs)):ak K H a xs:= .inl<|.inl h
theorem aK.of{K:PySem.W.Frag}(h:H a=some (.tup xs)):aK K H a xs:= .inl<|.inl h
theorem Inv.list(I:Inv X pins σ H s)(h:ak X.K H a xs):∃ its:List Value,aq xs its/\PlainL s.heap a its.toArray/\xs.length<=sizeLine:=by
 rcases h with h | ⟨o,its,n,hk,hc,hd,hs,hz,r⟩
 ·obtain⟨z,its,n,r,e⟩:=h.ok I.aB;exact⟨its,r,⟨_,n,e,rfl,rfl,rfl⟩,z⟩
 ·refine⟨its.toList,r,⟨o,n,I.eQ a o hk,hc,hd,by simpa using hs⟩,?_⟩;have e:=r.length;simp only [Am] at e;omega
theorem Inv.tuple(I:Inv X pins σ H s)(h:aK X.K H a xs):∃ its:List Value,aq xs its/\IsTup s.heap a its.toArray/\xs.length<=sizeLine:=by
 rcases h with h | ⟨o,its,n,hk,hc,hs,hz,r⟩
 ·obtain⟨z,its,r,p⟩:=h.ok I.aB;exact⟨its,r,p,z⟩
 ·refine⟨its.toList,r,⟨o,I.eQ a o hk,hc,n,by simpa using hs⟩,?_⟩;have e:=r.length;simp only [Am] at e;omega
theorem Inv.eS(I:Inv X pins σ H s)(h:ak X.K H a xs)(h':ak X.K H a ys):xs=ys:=by
 obtain⟨its,r,⟨o,n,e,_,_,d⟩,_⟩:=I.list h;obtain⟨its',r',⟨o',n',e',_,_,d'⟩,_⟩:=I.list h';rw [e] at e';cases e';rw [d] at d'
 injection d' with d1 _
 have:its=its':=by simpa using BZ Array.toList d1
 subst this;exact r.inj r'
theorem Inv.gD(I:Inv X pins σ H s)(h:aK X.K H a xs)(h':aK X.K H a ys):xs=ys:=by
 obtain⟨its,r,⟨o,e,_,n,d⟩,_⟩:=I.tuple h;obtain⟨its',r',⟨o',e',_,n',d'⟩,_⟩:=I.tuple h';rw [e] at e';cases e';rw [d] at d'
 injection d' with d1 _
 have:its=its':=by simpa using BZ Array.toList d1
 subst this;exact r.inj r'
end
abbrev Cx.dF(X:Cx)(E:Value->Shared->Prop):Cx:={X with xe:=E}
abbrev Cx.nw(X:Cx):Cx:=X.dF λ_ _=>False
theorem Cx.Ok.dF{X:Cx}(ok:X.Ok)(E:Value->Shared->Prop):(X.dF E).Ok:=
 ⟨ok.mod,ok.kind,ok.glob,ok.blt,ok.above,ok.inj,ok.has,ok.oY,ok.hd,ok.frames,ok.sQ,ok.B7,ok.bs,ok.kj,ok.iy,ok.jx,ok.dg,ok.nr⟩
theorem Cx.Ok.bT{X:Cx}{E:Value->Shared->Prop}(ok:(X.dF E).Ok):X.Ok:=
 ⟨ok.mod,ok.kind,ok.glob,ok.blt,ok.above,ok.inj,ok.has,ok.oY,ok.hd,ok.frames,ok.sQ,ok.B7,ok.bs,ok.kj,ok.iy,ok.jx,ok.dg,ok.nr⟩
section
variable{X:Cx}{pins:List (Addr×Obj)}{σ:St}{H:Hp}{s:Shared}{E:Value->Shared->Prop}
theorem Inv.dF(I:Inv X pins σ H s)(E:Value->Shared->Prop):Inv (X.dF E) pins σ H s:=⟨I.ok.dF E,I.os,I.bare,I.base,I.loc,I.cell,I.free,I.bS,I.pin,I.aB,I.len⟩
theorem Inv.bT(I:Inv (X.dF E) pins σ H s):Inv X pins σ H s:=⟨I.ok.bT,I.os,I.bare,I.base,I.loc,I.cell,I.free,I.bS,I.pin,I.aB,I.len⟩
theorem SP.bT{D:Ends}{f:Flow}{s':Shared}(h:SP (X.dF E) pins D f s'):SP X pins D f s':=by
 cases f with
 | next=>obtain⟨σ',H',I,q⟩:=h;exact⟨σ',H',I.bT,q⟩
 | brk=>obtain⟨σ',H',I,q⟩:=h;exact⟨σ',H',I.bT,q⟩
 | cont=>obtain⟨σ',H',I,q⟩:=h;exact⟨σ',H',I.bT,q⟩
 | ret u=>obtain⟨v,σ',H',I,r,q⟩:=h;exact⟨v,σ',H',I.bT,r,q⟩
theorem gC.nw{st:List Stmt}{t:TS}(h:gC X.nw st t):gC X st t:=λpins s σ H D I hw=>
 CP (h pins s σ H D (I.dF _) hw) (λ_ _ q=>q.bT) λ_ _ z=>False.elim z
end
section
variable{X:Cx}{st:Stmt}{rest:List Stmt}{t u:TS}{e:Expr}{te:TE}{pos:Pos}
def Li:TS:=λD σ H=>D.nx σ H
def vU(t u:TS):TS:=λD σ H=>t {D with nx:=u D} σ H
theorem Lj:gC X [] Li:=λ_ _ σ H _ I h=>MK ⟨σ,H,I,h⟩
theorem Ln(h1:PS X st t)(h2:gC X rest u):gC X (st :: rest) (vU t u):=by
 intro pins s σ H D I h;refine wpAny_execs_cons<|aD (h1 pins s σ H {D with nx:=u D} I h) λf s1 q=>?_;cases f with
 | next=>
  obtain⟨σ',H',I',q⟩:=q;exact h2 pins s1 σ' H' D I' q
 | ret v=>exact q
 | brk=>exact q
 | cont=>exact q
theorem Inv.quiet{pins:List (Addr×Obj)}{σ:St}{H:Hp}{s:Shared}(I:Inv X pins σ H s):interactive X.env=false:=by simp [interactive,I.ok.kind]
def Lq(te:TE):TS:=λD σ H=>te σ H λ_ H1=>D.nx σ H1
theorem Lv(he:PE X e te)(hs:swapsWith e none pos.line X.env=pure false:=by rfl):PS X (.Expr e pos) (Lq te):=by
 intro pins s σ H D I h;exact wpAny_Expr_any (aD (he pins s σ H _ I h) λv s1 ⟨x,H1,I1,r1,q1⟩=>⟨σ,H1,I1,q1⟩) I.quiet hs
def vV(te:TE):TS:=λD σ H=>te σ H D.rt
theorem Lw(he:PE X e te):PS X (.Return (some e) pos) (vV te):=by
 intro pins s σ H D I h;exact wpAny_Return_some<|aD (he pins s σ H _ I h) λv s1 ⟨x,H1,I1,r1,q1⟩=>⟨x,σ,H1,I1,r1,q1⟩
def vW(c:TT)(t u:TS):TS:=λD σ H=>c σ H λb H1=>if b=true then t D σ H1 else u D σ H1
theorem Lx{c:Expr}{a b:List Stmt}{tc:TT}(hc:PT X c tc)(ha:gC X a t)(hb:gC X b u):PS X (.If c a b pos) (vW tc t u):=by
 intro pins s σ H D I h;refine wpAny_If<|aD (hc pins s σ H _ I h) λd s1 ⟨H1,I1,q1⟩=>?_;cases d with
 | true=>exact ha pins s1 σ H1 D I1 q1
 | false=>exact hb pins s1 σ H1 D I1 q1
end
abbrev TG:=V->St->Hp->(St->Hp->Prop)->Prop
abbrev lh:=List V->St->Hp->(St->Hp->Prop)->Prop
def PG(X:Cx)(target:Expr)(t:TG):Prop:=
 ∀(pins:List<|Addr×Obj) (s:Shared) (σ:St) (H:Hp) (v:V) (u:Value) (Q:St->Hp->Prop),Inv X pins σ H s->RelV v u->t v σ H Q ->
  wpAny (model X.prog X.w) X.A (assign target X.env u) (λ_ s'=>∃ σ' H',Inv X pins σ' H' s'/\Q σ' H') X.xe s
def sX(X:Cx)(ts:List Expr)(t:lh):Prop:=
 ∀(pins:List<|Addr×Obj) (s:Shared) (σ:St) (H:Hp) (vs:List V) (us:List Value) (Q:St->Hp->Prop),Inv X pins σ H s->aq vs us->t vs σ H Q ->
  wpAny (model X.prog X.w) X.A (assignInOrder ((assignEach ts X.env).map (·.2)) us) (λ_ s'=>∃ σ' H',Inv X pins σ' H' s'/\Q σ' H') X.xe s
abbrev li:=V->V->V->Hp->(Hp->Prop)->Prop
def o7(X:Cx)(t:li):Prop:=
 ∀(pins:List<|Addr×Obj) (s:Shared) (σ:St) (H:Hp) (o i v:V) (ov iv u:Value) (Q:Hp->Prop),Inv X pins σ H s->RelV o ov->RelV i iv->RelV v u->t o i v H Q ->
  wpAny (model X.prog X.w) X.A (setItem ov iv u) (λ_ s'=>∃ H',Inv X pins σ H' s'/\Q H') X.xe s
abbrev o8:=V->V->Hp->VK->Prop
def sY(X:Cx)(op:Operator)(t:o8):Prop:=
 ∀(pins:List<|Addr×Obj) (s:Shared) (σ:St) (H:Hp) (x y:V) (v u:Value) (Q:VK),Inv X pins σ H s->RelV x v->RelV y u->t x y H Q ->
  wpAny (model X.prog X.w) X.A (inplaceOp op v u) (EP X pins σ Q) X.xe s
section
variable{X:Cx}{pos:Pos}
def CH(i:Nat):TG:=λv σ H Q=>Q (σ.set i<|some v) H
theorem Ly{i:Nat}{x:Str}(hN:X.N.Nodup)(hi:X.N[i]?=some x)(hx:Loc X.env.scope x)(hf:X.fn x=true\/X.env.scope.names.lookup x=some .local:=by first | exact .inl rfl | exact .inr rfl | assumption):PG X (.Name x pos) (CH i):=by
 intro pins s σ H v u Q I r h;exact wpAny_assign_Name<|CB I hN hi hx r (λs' I'=>⟨_,H,I',h⟩) hf
def lj:lh:=λvs σ H Q=>vs=[]/\Q σ H
def nA(t:TG)(u:lh):lh:=λvs σ H Q=>∃ v r,vs=v :: r/\t v σ H λσ' H'=>u r σ' H' Q
theorem CI:sX X [] lj:=by
 intro pins s σ H vs us Q I r h;obtain⟨e,h⟩:=h;subst e;cases r;exact assignInOrder_nil ⟨σ,H,I,h⟩
theorem o9{e:Expr}{es:List Expr}{t:TG}{u:lh}(h1:PG X e t)(h2:sX X es u)
  (hs:(assignEach (e :: es) X.env).map (·.2)=assign e X.env :: (assignEach es X.env).map (·.2):=by rfl):sX X (e :: es) (nA t u):=by
 intro pins s σ H vs us Q I r h;obtain⟨v,vr,e1,h⟩:=h;subst e1;cases r with
 | cons r rr=>
  rw [hs];refine assignInOrder_cons<|aD (h1 pins s σ H _ _ _ I r h) λ_ s1 ⟨σ1,H1,I1,q1⟩=>?_;exact h2 pins s1 σ1 H1 _ _ Q I1 rr q1
def vX(K:PySem.W.Frag)(n:Nat)(t:lh):TG:=λv σ H Q=>∃ a xs,v = .ref a/\aK K H a xs/\xs.length=n/\t xs σ H Q
theorem CL{es:List Expr}{k:Nat}{t:lh}{n:Nat}(hc:X.calm=true)(h:sX X es t)
  (hn:(assignEach es X.env).length=n:=by rfl) (cY:(assignEach es X.env).findIdx? (·.1)=none:=by rfl):PG X (.Tuple es k pos) (vX X.K n t):=by
 intro pins s σ H v u Q I r hw;obtain⟨a,xs,e1,hq,hl,hw⟩:=hw;subst e1;cases r;obtain⟨its,rv,ht,hz⟩:=I.tuple hq;refine assign_Tuple_tuple (I.ok.hd hc) ht (by simp [hn,<- hl,rv.length]) cY λh' hx=>?_;have I1:Inv X pins σ H {s with heap:=h'}:=I.kept (t':=s.toks) λb o e=>hx b o (Cu<|Bd e) e;exact h pins _ σ H xs _ Q I1 (by simpa using rv) hw
def pd(te:TE)(g:TG):TS:=λD σ H=>te σ H λx H1=>g x σ H1 D.nx
theorem Lz{tg e:Expr}{te:TE}{g:TG}(he:PE X e te)(hg:PG X tg g)(hs:swapsWithSole [tg] e pos.line X.env=pure false:=by rfl)(hw:swappedStores [tg] e X.env=pure none:=by rfl)
  (h1:(assignEach [tg] X.env).map (·.2)=[assign tg X.env]:=by rfl):PS X (.Assign [tg] e pos) (pd te g):=by
 intro pins s σ H D I h;refine wpAny_Assign_stores (aD (he pins s σ H _ I h) λv s1 ⟨x,H1,I1,r1,q1⟩=>?_) hs hw;rw [h1];exact aD (hg pins s1 σ H1 x v _ I1 r1 q1) λ_ s2 q=>q
theorem LA{i:Nat}{x:Str}{e:Expr}{te:TE}{pos':Pos}(hN:X.N.Nodup)(hi:X.N[i]?=some x)(hx:Loc X.env.scope x)(he:PE X e te)(hs:swapsWith e (some<|.Name x pos') pos.line X.env=pure false:=by rfl)(hf:X.fn x=true\/X.env.scope.names.lookup x=some .local:=by first | exact .inl rfl | exact .inr rfl | assumption) :
  PS X (.Assign [.Name x pos'] e pos) (pd te<|CH i):=by
 intro pins s σ H D I h;refine wpAny_Assign_Name (aD (he pins s σ H _ I h) λv s1 ⟨y,H1,I1,r1,q1⟩=>?_) hs;exact CB I1 hN hi hx r1 (λs2 I2=>⟨_,H1,I2,q1⟩) hf
def LD(to ti te:TE)(jz:V->V->Hp->VK->Prop)(lq:o8)(iz:li):TS:=λD σ H=>to σ H λo H1=>ti σ H1 λi H2=>jz o i H2 λx H3=>te σ H3 λy H4=>lq x y H4 λz H5=>iz o i z H5 λH6=>D.nx σ H6
def pf(X:Cx)(t:V->V->Hp->VK->Prop):Prop:=
 ∀(pins:List<|Addr×Obj) (s:Shared) (σ:St) (H:Hp) (o i:V) (ov iv:Value) (Q:VK),Inv X pins σ H s->RelV o ov->RelV i iv->t o i H Q ->
  wpAny (model X.prog X.w) X.A (getItem ov iv) (EP X pins σ Q) X.xe s
theorem LI{o i e:Expr}{to ti te:TE}{jz:V->V->Hp->VK->Prop}{lq:o8}{iz:li}{op:Operator}{iA:Pos}(ho:PE X o to)(hi:PE X i ti)(hg:pf X jz)(he:PE X e te)(hp:sY X op lq)(hs:o7 X iz)
  (ha:∀ ov iv new,augStore i ov iv new=(do holding [new,ov,iv] (setItem ov iv new);release [new,ov,iv] [];pure .next):=by intros;rfl):PS X (.AugAssign (.Subscript o i iA) op e pos) (LD to ti te jz lq iz):=by
 intro pins s σ H D I h;refine wpAny_AugAssign_SubscriptAny (aD (ho pins s σ H _ I h) λov s1 ⟨x1,H1,I1,r1,q1⟩=>?_) ha;refine aD (hi pins s1 σ H1 _ I1 q1) λiv s2 ⟨x2,H2,I2,r2,q2⟩=>?_;refine aD (hg pins s2 σ H2 x1 x2 ov iv _ I2 r1 r2 q2) λold s3 ⟨x3,H3,I3,r3,q3⟩=>?_;refine aD (he pins s3 σ H3 _ I3 q3) λv s4 ⟨x4,H4,I4,r4,q4⟩=>?_;refine aD (hp pins s4 σ H4 x3 x4 old v _ I4 r3 r4 q4) λnew s5 ⟨x5,H5,I5,r5,q5⟩=>?_;exact aD (hs pins s5 σ H5 x1 x2 x5 ov iv new _ I5 r1 r2 r5 q5) λ_ s6 ⟨H6,I6,q6⟩=>⟨σ,H6,I6,q6⟩
def CM(f:Int->Int->Int):o8:=λx y H Q=>∃ i j,x = .int i/\y = .int j/\Q (.int<|f i j) H
theorem LJ:sY X .Add (CM λi j=>i+j):=by
 intro pins s σ H x y v u Q I r1 r2 h;obtain⟨i,j,e1,e2,q⟩:=h;subst e1;subst e2;obtain⟨t,rfl⟩:=r1;obtain⟨t',rfl⟩:=r2;exact iadd_int ⟨.int _,H,I.tok _,⟨_,rfl⟩,q⟩
theorem LL:sY X .Sub (CM λi j=>i - j):=by
 intro pins s σ H x y v u Q I r1 r2 h;obtain⟨i,j,e1,e2,q⟩:=h;subst e1;subst e2;obtain⟨t,rfl⟩:=r1;obtain⟨t',rfl⟩:=r2;exact isub_int ⟨.int _,H,I.tok _,⟨_,rfl⟩,q⟩
def LN(c:TT)(tb:TS):TS:=λD σ H=>∃ W:Nat->St->Hp->Prop,(∃ m,W m σ H)/\∀ m σ H,W m σ H ->
 c σ H λb H1=>if b=true then ∃ N:St->Hp->Prop,(∀ σ' H',N σ' H'->∃ m',m' < m/\W m' σ' H')/\tb {D with nx:=N,ct:=N,bk:=D.nx} σ H1 else D.nx σ H1
theorem LO{c:Expr}{body:List Stmt}{tc:TT}{tb:TS}(hp:PassesOwn (model X.prog X.w) X.A X.env X.xe)(hc:PT X c tc)(hb:gC X body tb):PS X (.While c body [] pos) (LN tc tb):=by
 intro pins s σ H D I h;obtain⟨W,⟨m0,w0⟩,turn⟩:=h;refine wpAny_While<|codeAny_whileLoop (λn s'=>∃ σ' H',Inv X pins σ' H' s'/\W n σ' H') ?_ m0 ⟨σ,H,I,w0⟩;rintro n s1 ⟨σ1,H1,I1,w1⟩;refine FN hp<|aD (hc pins s1 σ1 H1 _ I1<|turn n σ1 H1 w1) λb s2 ⟨H2,I2,q2⟩=>?_;cases b with
 | true=>
  obtain⟨N,hN,q2⟩:=q2;rw [BK rfl];refine FN hp<|aD (hb pins s2 σ1 H2 _ I2 q2) λf s3 q3=>?_;cases f with
  | next=>
   obtain⟨σ3,H3,I3,n3⟩:=q3;obtain⟨m',hm,w3⟩:=hN σ3 H3 n3;exact⟨m',hm,σ3,H3,I3,w3⟩
  | cont=>
   obtain⟨σ3,H3,I3,n3⟩:=q3;obtain⟨m',hm,w3⟩:=hN σ3 H3 n3;exact⟨m',hm,σ3,H3,I3,w3⟩
  | brk=>exact q3
  | ret v=>exact q3
 | false=>
  rw [BJ As];exact MK ⟨σ1,H2,I2,q2⟩
end
structure It where
 go:Nat->Hp->Prop
 ph:Nat->Hp->V->Hp->Prop
 stop:Nat->Hp->Prop
def b8(X:Cx)(pins:List<|Addr×Obj)(H:Hp)(b:Addr):Prop:=
 H b=none/\b≠X.env.locals/\b∉X.fs/\(b∈X.ex\/X.s₀.heap.objs.size<=b)/\(∀ x c,X.env.cells.lookup x=some c->c≠b)/\∀ p∈X.pn++pins,p.1≠b
theorem Inv.gE{X:Cx}{pins:List (Addr×Obj)}{σ:St}{H H':Hp}{s:Shared}{b:Addr}(I:Inv X pins σ H s)(hb:s.heap.objs.size<=b)(hn:H' b=none):b8 X pins H' b:=by
 refine⟨hn,Dx<|Bm I.lt hb,I.vL hb,.inr<|Bz I.sz hb,λx c e z=>?_,λp hp z=>?_⟩
 ·obtain⟨v,q⟩:=I.cell x c e;exact absurd (Bm q.lt<|by rw [z];exact hb)<|Cs _
 ·exact absurd (Bm (Bd (I.pin p hp).1)<|by rw [z];exact hb)<|Cs _
structure Turn(P:Program)(w:World)(K:PySem.W.Frag)(tg:Expr)(J:It)(fp:List Addr)(it:Addr)(tn:Nat->Heap->Prop):Prop where
 mem:it∈fp
 obj:∀ i h,tn i h->∀ b∈fp,∃ o,h.get? b=some o/\∀ v,o.data ≠ .cell v
 keep:∀ i h h',tn i h->(∀ b∈fp,∀ o,h.get? b=some o->h'.get? b=some o)->tn i h'
 item:∀(X:Cx),X.prog=P->X.w=w->X.K=K->X.calm=true->∀(i:Nat) (pins:List<|Addr×Obj) (s:Shared) (σ:St) (H:Hp) (E:Value->Shared->Prop),Inv X pins σ H s->(∀ b∈fp,b8 X pins H b)->tn i s.heap->J.go i H ->
  wpAny (model P w) X.A (pyNext<|.ref it) (λr s1=>∃ u,r=some u /\
   wpAny (model P w) X.A (letOwnedTupleGo tg (.ref it) u) (λ_ s2=>∃ x H',Inv X pins σ H' s2/\RelV x u/\J.ph i H x H'/\tn (i+1) s2.heap/\∀ b∈fp,H' b=none) E s1) E s
 done:∀(X:Cx),X.prog=P->X.w=w->X.K=K->X.calm=true->∀(i:Nat) (pins:List<|Addr×Obj) (s:Shared) (σ:St) (H:Hp) (E:Value->Shared->Prop),Inv X pins σ H s->(∀ b∈fp,b8 X pins H b)->tn i s.heap->J.stop i H ->
  wpAny (model P w) X.A (pyNext<|.ref it) (λr s1=>r=none/\Inv X pins σ H s1) E s
 self:∀(A:Around) (i:Nat) (s:Shared) (Q:Value->Shared->Prop) (E:Value->Shared->Prop),tn i s.heap->Q (.ref it) s->wpAny (model P w) A (pyIter<|.ref it) Q E s
abbrev TI:=St->Hp->(It->Hp->Prop)->Prop
def CO(X:Cx)(pins:List<|Addr×Obj)(σ:St)(tg:Expr)(R:It->Hp->Prop)(nC:Value)(s2:Shared):Prop:=
 ∃(it:Addr) (fp:List Addr) (tn:Nat->Heap->Prop) (J:It) (H':Hp),nC = .ref it/\Inv X pins σ H' s2/\Turn X.prog X.w X.K tg J fp it tn/\tn 0 s2.heap/\(∀ b∈fp,b8 X pins H' b)/\R J H'
def PI(X:Cx)(tg iter:Expr)(wi:TI):Prop:=
 ∀(pins:List<|Addr×Obj) (s:Shared) (σ:St) (H:Hp) (R:It->Hp->Prop),Inv X pins σ H s->wi σ H R ->
  wpAny (model X.prog X.w) X.A (eval iter X.env) (λv s1=>wpAny (model X.prog X.w) X.A (pyIter v) (CO X pins σ tg R) X.xe s1) X.xe s
theorem sZ{M:Model}{A:Around}{E:Value->Shared->Prop}{s:Shared}{tg:Expr}{it:Addr}{u:Value}{o:Obj}{n:String}{vs:Array Value}{Q:Unit->Shared->Prop}(ho:s.heap.get? it=some o)(hc:o.cls = .type n)(hd:o.data = .fields vs)
    (hn:["enumerate","zip","dict_itemiterator","dict_reverseitemiterator","odict_iterator","itertools.zip_longest","itertools.pairwise"].contains n=false) (hQ:Q () s):wpAny M A (letOwnedTupleGo tg (.ref it) u) Q E s:=by
  unfold letOwnedTupleGo;cases tg <;> first
    | exact BW hQ
    | (cases u <;> first
        | exact BW hQ
        | (refine BL<|wpAny_load ho ?_
           rw [hc,hd];show wpAny M A (if(["enumerate","zip","dict_itemiterator","dict_reverseitemiterator","odict_iterator","itertools.zip_longest","itertools.pairwise"].contains n && vs[0]? == some (rawInt _))=true then _ else _) Q E s;rw [BJ<|by intro h;rw [hn,Bool.false_and] at h;cases h];exact BW hQ))
def pk(K:PySem.W.Frag)(a:Addr):It:=
 ⟨λi H=>∃ xs x,ak K H a xs/\xs[i]?=some x,λi H x H'=>H'=H/\∀ xs,ak K H a xs->xs[i]?=some x,λi H=>∃ xs,ak K H a xs/\xs.length<=i⟩
def pq(K:PySem.W.Frag)(a:Addr):It:=
 ⟨λi H=>∃ xs x,aK K H a xs/\xs[i]?=some x,λi H x H'=>H'=H/\∀ xs,aK K H a xs->xs[i]?=some x,λi H=>∃ xs,aK K H a xs/\xs.length<=i⟩
def lr(lo:Int)(n:Nat):It:=⟨λi _=>i < n,λi H x H'=>H'=H/\x = .int (lo+i),λi _=>n<=i⟩
theorem LU{P:Program}{w:World}{K:PySem.W.Frag}{tg:Expr}(a it:Addr):Turn P w K tg (pk K a) [it] it (λi h=>h.IsListIter it a i) where
 mem:=by simp
 obj:=λi h st b hb=>by
  have e:b=it:=by simpa using hb
  subst e;obtain⟨o,e,c,d⟩:=st;exact⟨o,e,λv z=>by rw [d] at z;cases z⟩
 keep:=λi h h' st k=>st.at λo e=>k it (by simp) o e
 item:=by
  intro X hP hw hK hc i pins s σ H E I hf st hg;subst hP hw hK;obtain⟨xs,x,hq,hx⟩:=hg;obtain⟨its,rv,p,hz⟩:=I.list hq;obtain⟨u,hu,ru⟩:=rv.get hx;obtain⟨f0,f1,f2,f3,f4,f5⟩:=hf it (by simp);refine wpAny_pyNext_list_item st p.isList (x:=u) (by simpa using hu) λh' ai sb=>?_;have I1:Inv X pins σ H {s with heap:=h'}:=I.turned (t':=s.toks) (λb o hb e=>(sb.2 b hb).trans e) f0 f1 f3 f4 f5;obtain⟨o,e,c,d⟩:=id ai;exact⟨u,rfl,sZ (s:={s with heap:=h'}) e c d (by decide) ⟨x,H,I1,ru,⟨rfl,λys hy=>by rw [I.eS hy hq];exact hx⟩,ai,λb hb=>(hf b hb).1⟩⟩
 done:=by
  intro X hP hw hK hc i pins s σ H E I hf st hg;subst hP hw hK;obtain⟨xs,hq,hx⟩:=hg;obtain⟨its,rv,p,hz⟩:=I.list hq;obtain⟨f0,f1,f2,f3,f4,f5⟩:=hf it (by simp);have hl:=rv.length;exact wpAny_pyNext_list_end (I.ok.hd hc) st p.isList (by simp;omega) λh' eb=>⟨rfl,I.turned (t':=s.toks) (λb o hb e=>eb b o hb e) f0 f1 f3 f4 f5⟩
 self:=λ_ _ _ _ _ st h=>wpAny_pyIter_listiter st h
theorem LV{P:Program}{w:World}{K:PySem.W.Frag}{tg:Expr}(a it:Addr):Turn P w K tg (pq K a) [it] it (λi h=>h.IsTupleIter it a i) where
 mem:=by simp
 obj:=λi h st b hb=>by
  have e:b=it:=by simpa using hb
  subst e;obtain⟨o,e,c,d⟩:=st;exact⟨o,e,λv z=>by rw [d] at z;cases z⟩
 keep:=λi h h' st k=>st.at λo e=>k it (by simp) o e
 item:=by
  intro X hP hw hK hc i pins s σ H E I hf st hg;subst hP hw hK;obtain⟨xs,x,hq,hx⟩:=hg;obtain⟨its,rv,p,hz⟩:=I.tuple hq;obtain⟨u,hu,ru⟩:=rv.get hx;obtain⟨f0,f1,f2,f3,f4,f5⟩:=hf it (by simp);refine wpAny_pyNext_tuple_item st (show s.heap.IsTuple a its.toArray from p) (x:=u) (by simpa using hu) λh' ai sb=>?_;have I1:Inv X pins σ H {s with heap:=h'}:=I.turned (t':=s.toks) (λb o hb e=>(sb.2 b hb).trans e) f0 f1 f3 f4 f5;obtain⟨o,e,c,d⟩:=id ai;exact⟨u,rfl,sZ (s:={s with heap:=h'}) e c d (by decide) ⟨x,H,I1,ru,⟨rfl,λys hy=>by rw [I.gD hy hq];exact hx⟩,ai,λb hb=>(hf b hb).1⟩⟩
 done:=by
  intro X hP hw hK hc i pins s σ H E I hf st hg;subst hP hw hK;obtain⟨xs,hq,hx⟩:=hg;obtain⟨its,rv,p,hz⟩:=I.tuple hq;obtain⟨f0,f1,f2,f3,f4,f5⟩:=hf it (by simp);have hl:=rv.length;exact wpAny_pyNext_tuple_end (I.ok.hd hc) st (show s.heap.IsTuple a its.toArray from p) (by simp;omega) λh' eb=>⟨rfl,I.turned (t':=s.toks) (λb o hb e=>eb b o hb e) f0 f1 f3 f4 f5⟩
 self:=λ_ _ _ _ _ st h=>wpAny_pyIter_tupleiter st h
theorem LW{P:Program}{w:World}{K:PySem.W.Frag}{tg:Expr}(it:Addr)(lo:Int)(n:Nat):Turn P w K tg (lr lo n) [it] it (λi h=>IsRangeIter h it (lo+(i:Nat) * 1) ((n:Int) - (i:Nat)) 1) where
 mem:=by simp
 obj:=λi h st b hb=>by
  have e:b=it:=by simpa using hb
  subst e;exact⟨_,st,λv z=>by
   have z':Data.fields _=Data.cell v:=z;cases z'⟩
 keep:=λi h h' st k=>k it (by simp) _ st
 item:=by
  intro X hP hw hK hc i pins s σ H E I hf st hg;subst hP hw hK;obtain⟨f0,f1,f2,f3,f4,f5⟩:=hf it (by simp);have W:=Walks.range (prog:=X.prog) (w:=X.w) (I.ok.hd hc) it lo 1 n;refine W.item i s _ _ hg st λv h' tk hv ai kk=>?_;obtain⟨t,rfl⟩:=hv;have I1:Inv X pins σ H {s with heap:=h',toks:=tk}:=I.turned (λb o hb e=>kk b o (by simpa using hb) e) f0 f1 f3 f4 f5;refine⟨_,rfl,sZ (s:={s with heap:=h',toks:=tk}) (n:= "range_iterator") ai rfl rfl (by decide) ⟨.int<|lo+i,H,I1,⟨t,?_⟩,⟨rfl,rfl⟩,ai,λb hb=>(hf b hb).1⟩⟩;rw [Int.mul_one]
 done:=by
  intro X hP hw hK hc i pins s σ H E I hf st hg;subst hP hw hK;obtain⟨f0,f1,f2,f3,f4,f5⟩:=hf it (by simp);exact wpAny_pyNext_range_end (I.ok.hd hc) st (by have:n<=i:=hg;omega) λh' eb=>⟨rfl,I.turned (t':=s.toks) (λb o hb e=>eb b o hb e) f0 f1 f3 f4 f5⟩
 self:=λ_ _ _ _ _ st h=>wpAny_pyIter_rangeiter st h
section
variable{X:Cx}{tg:Expr}
def LX(K:PySem.W.Frag)(tl:TE):TI:=λσ H R=>tl σ H λx H1=>∃ a,x = .ref a/\(∃ xs,ak K H1 a xs)/\R (pk K a) H1
def vY(K:PySem.W.Frag)(tl:TE):TI:=λσ H R=>tl σ H λx H1=>∃ a,x = .ref a/\(∃ xs,aK K H1 a xs)/\R (pq K a) H1
theorem ja{l:Expr}{tl:TE}(hl:PE X l tl):PI X tg l (LX X.K tl):=by
 intro pins s σ H R I h;refine aD (hl pins s σ H _ I h) λv s1 ⟨x,H1,I1,r1,q1⟩=>?_;obtain⟨a,e,⟨xs,hq⟩,q⟩:=q1;subst e;cases r1;obtain⟨its,rv,p,hz⟩:=I1.list hq;refine wpAny_pyIter_list p.isList ?_;refine⟨s1.heap.objs.size,[s1.heap.objs.size],_,_,H1,rfl,I1.kept (t':=s1.toks) λb o e=>Ai _ e,LU a _,⟨_,Bp _ rfl,rfl,rfl⟩,λb hb=>?_,q⟩;have e:b=s1.heap.objs.size:=by simpa using hb
 subst e;exact I1.gE (Ah _)<|I1.aB.fresh<|Ah _
theorem LY{l:Expr}{tl:TE}(hl:PE X l tl):PI X tg l (vY X.K tl):=by
 intro pins s σ H R I h;refine aD (hl pins s σ H _ I h) λv s1 ⟨x,H1,I1,r1,q1⟩=>?_;obtain⟨a,e,⟨xs,hq⟩,q⟩:=q1;subst e;cases r1;obtain⟨its,rv,p,hz⟩:=I1.tuple hq;refine wpAny_pyIter_tuple (show s1.heap.IsTuple a its.toArray from p) ?_;refine⟨s1.heap.objs.size,[s1.heap.objs.size],_,_,H1,rfl,I1.kept (t':=s1.toks) λb o e=>Ai _ e,LV a _,⟨_,Bp _ rfl,rfl,rfl⟩,λb hb=>?_,q⟩;have e:b=s1.heap.objs.size:=by simpa using hb
 subst e;exact I1.gE (Ah _)<|I1.aB.fresh<|Ah _
theorem CU{pins:List (Addr×Obj)}{σ:St}{H:Hp}{s:Shared}{R:It->Hp->Prop}{E:Value->Shared->Prop}{lo hi:Int}{t u v:Tok}{tk:Nat}(I:Inv X pins σ H s)(h1:-(2 ^ 62)<=lo)(h2:lo < 2 ^ 62)(h3:-(2 ^ 62)<=hi)(h4:hi < 2 ^ 62)
  (q:R (lr lo (hi - lo).toNat) H):wpAny (model X.prog X.w) X.A (pyIter<|.ref s.heap.objs.size) (CO X pins σ tg R) E {s with heap:=s.heap.push {cls:= .type "range",data:= .fields #[.int lo t,.int hi u,.int 1 v]},toks:=tk}:=by
 refine wpAny_pyIter_range (IsRange.new ..) (small_one h1 h2 h3 h4) ?_;have I1:Inv X pins σ H {s with heap:=s.heap.push {cls:= .type "range",data:= .fields #[.int lo t,.int hi u,.int 1 v]},toks:=tk}:=I.kept λb o e=>Ai _ e;refine⟨(s.heap.push {cls:= .type "range",data:= .fields #[.int lo t,.int hi u,.int 1 v]}).objs.size,[(s.heap.push {cls:= .type "range",data:= .fields #[.int lo t,.int hi u,.int 1 v]}).objs.size],_,_,H,rfl,
  I1.kept (t':=tk) λb o e=>Ai _ e,LW _ lo (hi - lo).toNat,?_,λb hb=>?_,q⟩
 ·have e1:lo+((0:Nat):Int) * 1=lo:=by simp
  have e2:(((hi - lo).toNat:Nat):Int) - ((0:Nat):Int)=Builtin.Range.rangeSize lo hi 1:=by rw [rangeSize_one];split <;> omega
  show IsRangeIter _ _ (lo+((0:Nat):Int) * 1) ((((hi - lo).toNat:Nat):Int) - ((0:Nat):Int)) 1;rw [e1,e2];exact Bp _ rfl
 ·have e:b=(s.heap.push {cls:= .type "range",data:= .fields #[.int lo t,.int hi u,.int 1 v]}).objs.size:=by simpa using hb
  subst e;exact I1.gE (Ah _)<|I1.aB.fresh<|Ah _
def CY(ta:TA):TI:=λσ H R=>ta σ H λvs H1=>∃ j:Int,vs=[.int j]/\-(2 ^ 62)<=j/\j < 2 ^ 62/\R (lr 0 j.toNat) H1
def LZ(ta:TA):TI:=λσ H R=>ta σ H λvs H1=>∃ i j:Int,vs=[.int i,.int j]/\(-(2 ^ 62)<=i/\i < 2 ^ 62/\-(2 ^ 62)<=j/\j < 2 ^ 62)/\R (lr i (j - i).toNat) H1
theorem vZ{a:Expr}{ta:TA}{p pos:Pos}(hg:Gl X "range")(hm:X.mg "range" = none)(ha:PA X [a] ta)(hs:starEach [a] X.env=[(false,eval a X.env)]:=by rfl):PI X tg (.Call (.Name "range" p) [a] [] pos) (CY ta):=by
 intro pins s σ H R I h;refine Call_<|lg I hg hm boot_range<|EY (aD (ha pos pins s σ H _ I h) λus s1 ⟨vs,H1,I1,r1,q1⟩=>?_) hs rfl;obtain⟨j,e,q1,q2,q⟩:=q1;subst e;cases r1 with
 | cons r rr=>
  cases rr;obtain⟨t,rfl⟩:=r;exact call_range_1<|CU I1 (by omega) (by omega) q1 q2<|by simpa using q
theorem L0{a b:Expr}{ta:TA}{p pos:Pos}(hg:Gl X "range")(hm:X.mg "range" = none)(ha:PA X [a,b] ta)(hs:starEach [a,b] X.env=[(false,eval a X.env),(false,eval b X.env)]:=by rfl)(nE:starEach [b] X.env=[(false,eval b X.env)]:=by rfl) :
  PI X tg (.Call (.Name "range" p) [a,b] [] pos) (LZ ta):=by
 intro pins s σ H R I h;refine Call_ (lg I hg hm boot_range<|EY (aD (ha pos pins s σ H _ I h) λus s1 ⟨vs,H1,I1,r1,q1⟩=>?_) (by rw [hs,nE])<|by rw [nE];rfl);obtain⟨i,j,e,⟨q1,q2,q3,q4⟩,q⟩:=q1;subst e;cases r1 with
 | cons r rr=>
  cases rr with
  | cons r' rr=>
   cases rr;obtain⟨t,rfl⟩:=r;obtain⟨t',rfl⟩:=r';exact call_range_2<|CU I1 q1 q2 q3 q4 q
def v9(wi:TI)(g:TG)(tb:TS):TS:=λD σ H=>wi σ H λJ H1=>∃ W:Nat->Nat->St->Hp->Prop,(∃ m,W 0 m σ H1)/\∀ i m σ H,W i m σ H ->
 (J.stop i H/\D.nx σ H)\/(J.go i H/\∃ N:St->Hp->Prop,(∀ σ' H',N σ' H'->∃ m',m' < m/\W (i+1) m' σ' H')/\∀ x H',J.ph i H x H'->g x σ H' λσ2 H2=>tb {D with nx:=N,ct:=N,bk:=D.nx} σ2 H2)
def pv(fp:List Addr)(h:Heap):List (Addr×Obj):=fp.filterMap λb=>(h.get? b).map λo=>(b,o)
theorem tf{fp:List Addr}{h:Heap}{b:Addr}{o:Obj}(hb:b∈fp)(e:h.get? b=some o):(b,o)∈pv fp h:=List.mem_filterMap.mpr ⟨b,hb,by rw [e];rfl⟩
theorem L1{fp:List Addr}{h:Heap}{p:Addr×Obj}(hp:p∈pv fp h):p.1∈fp/\h.get? p.1=some p.2:=by
 obtain⟨b,hb,e⟩:=List.mem_filterMap.mp hp;cases q:h.get? b with
 | none=>rw [q] at e;cases e
 | some o=>
  rw [q] at e;have e':(b,o)=p:=Option.some.inj e;subst e';exact⟨hb,q⟩
theorem Inv.pinned{pins:List (Addr×Obj)}{σ:St}{H:Hp}{s:Shared}{fp:List Addr}(I:Inv X pins σ H s)(hf:∀ b∈fp,b8 X pins H b)(ho:∀ b∈fp,∃ o,s.heap.get? b=some o/\∀ v,o.data ≠ .cell v):Inv X (pins++pv fp s.heap) σ H s:=
 I.fP λp hp=>(Al.mp hp).elim (λz=>I.pin p<|Aj _ z) λz=>by
  obtain⟨hb,e⟩:=L1 z;obtain⟨f0,f1,f2,_⟩:=hf p.1 hb;obtain⟨o,e',d⟩:=ho p.1 hb;rw [e] at e';cases e';exact⟨e,f0,f1,f2,d⟩
theorem Inv.cE{pins pl:List (Addr×Obj)}{σ:St}{H:Hp}{s:Shared}(I:Inv X (pins++pl) σ H s):Inv X pins σ H s:=I.fP λp hp=>I.pin p<|Aj _<|Av _ hp
theorem L3{iter:Expr}{body:List Stmt}{wi:TI}{g:TG}{tb:TS}{pos:Pos}(hp:PassesOwn (model X.prog X.w) X.A X.env X.xe)(hc:X.calm=true)(hi:PI X tg iter wi)(hg:PG X tg g)(hb:gC X body tb)
  (hs:∀ x,foldedSetIterable iter X.env x=pure x:=by intro _;rfl):PS X (.For tg iter body [] pos) (v9 wi g tb):=by
 intro pins s σ H D I h;refine wpAny_For (aD (hi pins s σ H _ I h) λv s1 h1=>aD h1 λnC s2 h2=>?_) hs;obtain⟨it,fp,tn,J,H2,e,I2,T,bh,f2,W,⟨m0,w0⟩,turn⟩:=h2;subst e;have stat:∀{H':Hp},(∀ b∈fp,H' b=none)->∀ b∈fp,b8 X pins H' b:=λhn b hb=>⟨hn b hb,(f2 b hb).2⟩;refine codeAny_forLoop_any (λn s'=>∃ i σ' H',Inv X pins σ' H' s'/\tn i s'.heap/\(∀ b∈fp,H' b=none)/\W i n σ' H') ?_ m0 ⟨0,σ,H2,I2,bh,λb hb=>(f2 b hb).1,w0⟩;rintro n s3 ⟨i,σ3,H3,I3,bb,C0,w3⟩
 rcases turn i n σ3 H3 w3 with ⟨stop,qn⟩ | ⟨go,N,hN,step⟩
 ·refine FN hp<|aD (T.done X rfl rfl rfl hc i pins s3 σ3 H3 X.xe I3 (stat C0) bb stop) λr s4 ⟨hr,I4⟩=>?_;subst hr;exact MK ⟨σ3,H3,I4,qn⟩
 ·refine FN hp<|aD (T.item X rfl rfl rfl hc i pins s3 σ3 H3 X.xe I3 (stat C0) bb go) λr s4 ⟨u,hr,h4⟩=>?_;subst hr;refine FN hp<|aD h4 λ_ s5 ⟨x,H5,I5,r5,y5,wa,L4⟩=>?_;have L5:=I5.pinned (stat L4)<|T.obj _ _ wa;refine FN hp<|aD (hg _ s5 σ3 H5 x u _ L5 r5<|step x H5 y5) λ_ s6 ⟨σ6,H6,I6,q6⟩=>?_;refine FN hp<|aD (hb _ s6 σ6 H6 _ I6 q6) λf s7 q7=>?_;have again:∀{σ7:St} {H7:Hp},Inv X (pins++pv fp s5.heap) σ7 H7 s7->N σ7 H7->∃ m,m < n/\∃ i σ' H',Inv X pins σ' H' s7/\tn i s7.heap/\(∀ b∈fp,H' b=none)/\W i m σ' H':=λ{σ7 H7} I7 n7=>by
   obtain⟨m',hm,w7⟩:=hN σ7 H7 n7;refine⟨m',hm,i+1,σ7,H7,I7.cE,T.keep _ _ _ wa λb hb o e=>(I7.pin (b,o)<|Aj _<|Aj _<|tf hb e).1,λb hb=>?_,w7⟩;obtain⟨o,e,d⟩:=T.obj _ _ wa b hb;exact(I7.pin (b,o)<|Aj _<|Aj _<|tf hb e).2.1
  cases f with
  | next=>obtain⟨σ7,H7,I7,n7⟩:=q7;exact again I7 n7
  | cont=>obtain⟨σ7,H7,I7,n7⟩:=q7;exact again I7 n7
  | brk=>obtain⟨σ7,H7,I7,q7⟩:=q7;exact⟨σ7,H7,I7.cE,q7⟩
  | ret v=>obtain⟨x7,σ7,H7,I7,r7,q7⟩:=q7;exact⟨x7,σ7,H7,I7.cE,r7,q7⟩
end
abbrev R2:=V->V->Hp->VK->Prop
def cO(X:Cx)(f:Value->Value->Sem Value)(r:R2):Prop:=
 ∀(pins:List<|Addr×Obj) (s:Shared) (σ:St) (H:Hp) (x y:V) (v u:Value) (Q:VK),Inv X pins σ H s->RelV x v->RelV y u->r x y H Q ->
  wpAny (model X.prog X.w) X.A (f v u) (EP X pins σ Q) X.xe s
def fq(X:Cx)(f:Value)(r:List V->Hp->VK->Prop):Prop:=
 ∀(pins:List<|Addr×Obj) (s:Shared) (σ:St) (H:Hp) (xs:List V) (us:List Value) (Q:VK),Inv X pins σ H s->aq xs us->r xs H Q ->
  wpAny (model X.prog X.w) X.A (call f us) (EP X pins σ Q) X.xe s
def wc(X:Cx)(r:V->Hp->(Bool->Hp->Prop)->Prop):Prop:=
 ∀(pins:List<|Addr×Obj) (s:Shared) (σ:St) (H:Hp) (x:V) (v:Value) (Q:Bool->Hp->Prop),Inv X pins σ H s->RelV x v->r x H Q ->
  wpAny (model X.prog X.w) X.A (truthy v) (TP X pins σ Q) X.xe s
def tq(r:R2)(ta tb:TE):TE:=λσ H Q=>ta σ H λx H1=>tb σ H1 λy H2=>r x y H2 Q
def rI(C:Int->Int->Prop)(g:Int->Int->V):R2:=λx y H Q=>∃ i j,x = .int i/\y = .int j/\C i j/\Q (g i j) H
def lu(g:Int->Int->V):R2:=λx y H Q=>∃ i j,x = .int i/\y = .int j/\Q (g i j) H
section
variable{X:Cx}{a b c:Expr}{ta tb tc:TE}{pos:Pos}
theorem lv(ha:PE X a ta)(hb:PE X b tb){pins:List (Addr×Obj)}{s:Shared}{σ:St}{H:Hp}{R:V->V->Hp->Prop}(I:Inv X pins σ H s)
  (h:ta σ H λx H1=>tb σ H1 λy H2=>R x y H2) {Q:Value->Shared->Prop} {f:Value->Value->Sem Value}
  (hf:∀ v u s2 x y H2,Inv X pins σ H2 s2->RelV x v->RelV y u->R x y H2->wpAny (model X.prog X.w) X.A (f v u) Q X.xe s2) :
  wpAny (model X.prog X.w) X.A (eval a X.env) (λv s₁=>wpAny (model X.prog X.w) X.A (eval b X.env) (λu s₂=>wpAny (model X.prog X.w) X.A (f v u) Q X.xe s₂) X.xe s₁) X.xe s:=by
 refine aD (ha pins s σ H _ I h) λv s1 ⟨x,H1,I1,r1,q1⟩=>?_;refine aD (hb pins s1 σ H1 _ I1 q1) λu s2 ⟨y,H2,I2,r2,q2⟩=>?_;exact hf v u s2 x y H2 I2 r1 r2 q2
theorem L9{op:Operator}{r:R2}(ho:cO X (binaryOp op) r)(ha:PE X a ta)(hb:PE X b tb):PE X (.BinOp a op b pos) (tq r ta tb):=by
 intro pins s σ H Q I h;exact wpAny_BinOp<|lv ha hb I h λv u s2 x y H2 I2 rx ry q=>ho pins s2 σ H2 x y v u Q I2 rx ry q
theorem nF{f:Value->Value->Sem Value}{C:Int->Int->Prop}{g:Int->Int->Int}
  (rule:∀(i j:Int) (t u:Tok) (s:Shared) (Q:Value->Shared->Prop) (E:Value->Shared->Prop),C i j->Q (.int (g i j) s.toks) {s with toks:=s.toks+1}->wpAny (model X.prog X.w) X.A (f (.int i t)<|.int j u) Q E s) :
  cO X f (rI C λi j=> .int<|g i j):=by
 intro pins s σ H x y v u Q I rx ry h;obtain⟨i,j,rfl,rfl,hc,q⟩:=h;obtain⟨t,rfl⟩:=rx;obtain⟨t',rfl⟩:=ry;exact rule i j t t' s _ _ hc ⟨.int<|g i j,H,I.tok _,⟨_,rfl⟩,q⟩
theorem lB{f:Value->Value->Sem Value}{g:Int->Int->Int}
  (rule:∀(i j:Int) (t u:Tok) (s:Shared) (Q:Value->Shared->Prop) (E:Value->Shared->Prop),Q (.int (g i j) s.toks) {s with toks:=s.toks+1}->wpAny (model X.prog X.w) X.A (f (.int i t)<|.int j u) Q E s) :
  cO X f (lu λi j=> .int<|g i j):=by
 intro pins s σ H x y v u Q I rx ry h;obtain⟨i,j,rfl,rfl,q⟩:=h;obtain⟨t,rfl⟩:=rx;obtain⟨t',rfl⟩:=ry;exact rule i j t t' s _ _ ⟨.int<|g i j,H,I.tok _,⟨_,rfl⟩,q⟩
theorem px{f:Value->Value->Sem Value}{g:Int->Int->Bool}
  (rule:∀(i j:Int) (t u:Tok) (s:Shared) (Q:Value->Shared->Prop) (E:Value->Shared->Prop),Q (.bool<|g i j) s->wpAny (model X.prog X.w) X.A (f (.int i t)<|.int j u) Q E s) :
  cO X f (lu λi j=> .bl<|g i j):=by
 intro pins s σ H x y v u Q I rx ry h;obtain⟨i,j,rfl,rfl,q⟩:=h;obtain⟨t,rfl⟩:=rx;obtain⟨t',rfl⟩:=ry;exact rule i j t t' s _ _ ⟨.bl<|g i j,H,I,rfl,q⟩
def pz(i j:Int):Prop:=0 < j/\j < 1073741824
def pA(i j:Int):Prop:=0<=j/\j<=1000000/\i.natAbs < 2 ^ 64
def lD(i j:Int):Prop:=(-(2 ^ 64) < i/\i < 2 ^ 64)\/(-(2 ^ 64) < j/\j < 2 ^ 64)
theorem lD.ok{i j:Int}(h:lD i j):IntMulOk i j:=by
 rcases h with ⟨h1,h2⟩ | ⟨h1,h2⟩
 ·exact .of_left<|intBits_le_64 h1 h2
 ·exact .of_right<|intBits_le_64 h1 h2
theorem Ma(k:Nat):(0:Int)<=2 ^ k:=by
 rw [two_pow_cast];exact Int.natCast_nonneg _
theorem fu:cO X (binaryOp .Add) (lu λi j=> .int<|i+j):=lB λ_ _ _ _ _ _ _ q=>add_int q
theorem wd:cO X (binaryOp .Sub) (lu λi j=> .int<|i - j):=lB λ_ _ _ _ _ _ _ q=>sub_int q
theorem nG:cO X (binaryOp .Mult) (rI lD λi j=> .int<|i * j):=nF λ_ _ _ _ _ _ _ hc q=>mul_int q hc.ok
theorem fT:cO X (binaryOp .FloorDiv) (rI pz λi j=> .int<|i / j):=nF λi j _ _ _ _ _ hc q=>by
 have h1:(0:Int) < j:=hc.1;have h2:j < 1073741824:=hc.2;exact floordiv_int (by omega) (by rw [JH i<|by omega];exact q)<|.inl<|PyProof.noPylong_small<|by omega
theorem db:cO X (binaryOp .Mod) (rI (λ_ j=>0 < j) λi j=> .int<|i % j):=nF λi j _ _ _ _ _ hc q=>by
 have h1:(0:Int) < j:=hc;exact mod_int' (by omega)<|by rw [Int.fmod_eq_emod_of_nonneg i<|by omega];exact q
theorem we:cO X (binaryOp .Pow) (rI pA λi j=> .int<|i ^ j.toNat):=nF λ_ _ _ _ _ _ _ hc q=>pow_int_small hc.1 hc.2.1 hc.2.2 q
theorem Mb:cO X (binaryOp .LShift) (rI pA λi j=> .int<|i * 2 ^ j.toNat):=nF λ_ _ _ _ _ _ _ hc q=>lshift_int_small hc.1 hc.2.1 hc.2.2 q
theorem C1:cO X (binaryOp .RShift) (rI (λ_ j=>0<=j) λi j=> .int<|i / 2 ^ j.toNat):=nF λi j _ _ _ _ _ hc q=>
 rshift_int hc (by rw [JH i<|Ma _];exact q)
theorem C2:cO X (binaryOp .BitAnd) (lu λi j=> .int<|Builtin.bitAnd i j):=lB λ_ _ _ _ _ _ _ q=>and_int q
def pB:V->V->Bool
 | .non,.non=>true | .non,.int _=>true | .int _,.non=>true | .non,.bl _=>true | .bl _,.non=>true | .non,.str _=>true | .str _,.non=>true
 | .int _,.int _=>true | .bl _,.bl _=>true | .str _,.str _=>true | .gA _,.gA _=>true
 | .int _,.str _=>true | .str _,.int _=>true | .bl _,.str _=>true | .str _,.bl _=>true
 | _,_=>false
def Mf:R2:=λx y H Q=>pB x y=true/\Q (.bl<|decide (x=y)) H
def Mg:R2:=λx y H Q=>pB x y=true/\Q (.bl (!decide (x=y))) H
theorem C3{i j:Int}:decide (V.int i=V.int j)=(i == j):=by
 rw [Fd];simp
theorem wg{i j:Bool}:decide (V.bl i=V.bl j)=(i == j):=by
 rw [Fd];simp
theorem C4{i j:Str}:decide (V.str i=V.str j)=(i == j):=by
 rw [Fd];simp
theorem C5{i j:Array UInt8}:decide (V.gA i=V.gA j)=(i.toList == j.toList):=by
 rw [Fd];cases i;cases j;simp
theorem cB{pins:List (Addr×Obj)}{σ:St}{H:Hp}{s:Shared}{Q:VK}{k k':Bool}(I:Inv X pins σ H s)(q:Q (.bl k) H)(e:k=k'):EP X pins σ Q (.bool k') s:=by
 subst e;exact⟨.bl k,H,I,rfl,q⟩
theorem fv:cO X (compareOp .Eq) Mf:=by
 intro pins s σ H x y v u Q I rx ry h;obtain⟨hs,q⟩:=h;cases x with
 | non=>
  cases rx;cases y with
  | non=>cases ry;exact PySem.EqNone.eq_none_none<|cB I q<|by simp
  | bl j=>cases ry;exact PySem.EqNone.eq_none_bool<|cB I q<|by simp
  | int j=>obtain⟨t',rfl⟩:=ry;exact PySem.EqNone.eq_none_int<|cB I q<|by simp
  | str j=>obtain⟨t',rfl⟩:=ry;exact PySem.EqNone.eq_none_str<|cB I q<|by simp
  | _=>exact absurd (show false=true from hs) As
 | bl i=>
  cases rx;cases y with
  | non=>cases ry;exact PySem.EqNone.eq_bool_none<|cB I q<|by simp
  | bl j=>cases ry;exact eq_bool<|cB I q wg
  | str j=>obtain⟨t',rfl⟩:=ry;exact PySem.EqMixed.eq_bool_str<|cB I q<|by simp
  | _=>exact absurd (show false=true from hs) As
 | int i=>
  obtain⟨t,rfl⟩:=rx;cases y with
  | non=>cases ry;exact PySem.EqNone.eq_int_none<|cB I q<|by simp
  | int j=>obtain⟨t',rfl⟩:=ry;exact eq_int<|cB I q C3
  | str j=>obtain⟨t',rfl⟩:=ry;exact PySem.EqMixed.eq_int_str<|cB I q<|by simp
  | _=>exact absurd (show false=true from hs) As
 | str i=>
  obtain⟨t,rfl⟩:=rx;cases y with
  | non=>cases ry;exact PySem.EqNone.eq_str_none<|cB I q<|by simp
  | bl j=>cases ry;exact PySem.EqMixed.eq_str_bool<|cB I q<|by simp
  | int j=>obtain⟨t',rfl⟩:=ry;exact PySem.EqMixed.eq_str_int<|cB I q<|by simp
  | str j=>obtain⟨t',rfl⟩:=ry;exact eq_str<|cB I q C4
  | _=>exact absurd (show false=true from hs) As
 | gA i=>
  obtain⟨t,rfl⟩:=rx;cases y with
  | gA j=>obtain⟨t',rfl⟩:=ry;exact PySem.W.eq_bytes<|cB I q C5
  | _=>exact absurd (show false=true from hs) As
 | _=>cases y <;> exact absurd (show false=true from hs) As
theorem wj:cO X (compareOp .NotEq) Mg:=by
 intro pins s σ H x y v u Q I rx ry h;obtain⟨hs,q⟩:=h;cases x with
 | non=>
  cases rx;cases y with
  | non=>cases ry;exact PySem.EqNone.ne_none_none<|cB I q<|by simp
  | bl j=>cases ry;exact PySem.EqNone.ne_none_bool<|cB I q<|by simp
  | int j=>obtain⟨t',rfl⟩:=ry;exact PySem.EqNone.ne_none_int<|cB I q<|by simp
  | str j=>obtain⟨t',rfl⟩:=ry;exact PySem.EqNone.ne_none_str<|cB I q<|by simp
  | _=>exact absurd (show false=true from hs) As
 | bl i=>
  cases rx;cases y with
  | non=>cases ry;exact PySem.EqNone.ne_bool_none<|cB I q<|by simp
  | bl j=>cases ry;exact ne_bool<|cB I q<|BZ not wg
  | str j=>obtain⟨t',rfl⟩:=ry;exact PySem.EqMixed.ne_bool_str<|cB I q<|by simp
  | _=>exact absurd (show false=true from hs) As
 | int i=>
  obtain⟨t,rfl⟩:=rx;cases y with
  | non=>cases ry;exact PySem.EqNone.ne_int_none<|cB I q<|by simp
  | int j=>obtain⟨t',rfl⟩:=ry;exact ne_int<|cB I q<|BZ not C3
  | str j=>obtain⟨t',rfl⟩:=ry;exact PySem.EqMixed.ne_int_str<|cB I q<|by simp
  | _=>exact absurd (show false=true from hs) As
 | str i=>
  obtain⟨t,rfl⟩:=rx;cases y with
  | non=>cases ry;exact PySem.EqNone.ne_str_none<|cB I q<|by simp
  | bl j=>cases ry;exact PySem.EqMixed.ne_str_bool<|cB I q<|by simp
  | int j=>obtain⟨t',rfl⟩:=ry;exact PySem.EqMixed.ne_str_int<|cB I q<|by simp
  | str j=>obtain⟨t',rfl⟩:=ry;exact ne_str<|cB I q<|BZ not C4
  | _=>exact absurd (show false=true from hs) As
 | gA i=>
  obtain⟨t,rfl⟩:=rx;cases y with
  | gA j=>obtain⟨t',rfl⟩:=ry;exact PySem.W.ne_bytes<|cB I q<|BZ not C5
  | _=>exact absurd (show false=true from hs) As
 | _=>cases y <;> exact absurd (show false=true from hs) As
theorem Mh:cO X (compareOp .Lt) (lu λi j=> .bl<|decide (i < j)):=px λ_ _ _ _ _ _ _ q=>lt_int q
theorem C6:cO X (compareOp .Gt) (lu λi j=> .bl<|decide (j < i)):=px λ_ _ _ _ _ _ _ q=>gt_int q
theorem Mi{op:CmpOp}{r:R2}(ho:cO X (compareOp op) r)(ha:PE X a ta)(hb:PE X b tb)(hm:behindInMarks op b=false):PE X (.Compare a [op] [b] pos) (tq r ta tb):=by
 intro pins s σ H Q I h;exact wpAny_Compare1 (lv ha hb I h λv u s2 x y H2 I2 rx ry q=>ho pins s2 σ H2 x y v u Q I2 rx ry q) hm
def Mj(t:TE):TT:=λσ H Q=>t σ H λx H'=>∃ k,x = .bl k/\Q k H'
theorem Mk{op:CmpOp}{r:R2}(ho:cO X (compareOp op) r)(ha:PE X a ta)(hb:PE X b tb)(hm:behindInMarks op b=false):PT X (.Compare a [op] [b] pos) (Mj<|tq r ta tb):=by
 intro pins s σ H Q I h;refine wpAny_isTrue_Compare1 (aD (ha pins s σ H _ I h) λv s1 ⟨x,H1,I1,r1,q1⟩=>aD (hb pins s1 σ H1 _ I1 q1) λu s2 ⟨y,H2,I2,r2,q2⟩=>
  aD (ho pins s2 σ H2 x y v u _ I2 r1 r2 q2) λc s3 ⟨z,H3,I3,r3,k,e,q3⟩=>?_) hm
 subst e;cases r3;exact DW ⟨H3,I3,q3⟩
def lE(K:PySem.W.Frag)(x:V)(H:Hp)(k:Bool):Prop:=
 match x with
 | .non=>k=false
 | .bl b=>k=b
 | .int i=>k=(i != 0)
 | .str y=>y.length<=sizeLine/\k=((y.length:Int) != 0)
 | .gA y=>y.size<=sizeLine/\k=((y.size:Int) != 0)
 | .ref p=>(∃ xs,ak K H p xs/\k = !xs.isEmpty)\/(∃ xs,aK K H p xs/\k = !xs.isEmpty)\/∃ kvs,H p=some (.dK kvs)/\k = !kvs.isEmpty
 | _=>False
theorem Ml{κ:Type}{kvs:List (κ×V)}{vs:List (κ×Value)}(r:KV kvs vs):(!vs.isEmpty) = !kvs.isEmpty:=by
 cases r <;> rfl
theorem C7{xs:List V}{its:List Value}(r:aq xs its):(!its.toArray.isEmpty) = !xs.isEmpty:=by
 cases r <;> simp
theorem lF:(sizeLine:Nat) < 2 ^ 63:=by rw [DQ];decide
theorem Mm:wc X (λx H Q=>∃ k,lE X.K x H k/\Q k H):=by
 intro pins s σ H x v Q I rx h;obtain⟨k,e,q⟩:=h;have hl:=lF;have hs:sizeLine=16777216:=DQ;cases x with
 | non=>
  cases rx;have e':k=false:=e;subst e';exact truthy_none ⟨H,I,q⟩
 | bl b=>
  cases rx;have e':k=b:=e;subst e';exact DW ⟨H,I,q⟩
 | int i=>
  obtain⟨t,rfl⟩:=rx;have e':k=(i != 0):=e;subst e';exact PySem.P.truthy_int ⟨H,I,q⟩
 | str y=>
  obtain⟨t,rfl⟩:=rx;obtain⟨hy,e'⟩:y.length<=sizeLine/\k=((y.length:Int) != 0):=e;subst e';exact PySem.P.truthy_str (by omega) ⟨H,I.tok _,q⟩
 | gA y=>
  obtain⟨t,rfl⟩:=rx;obtain⟨hy,e'⟩:y.size<=sizeLine/\k=((y.size:Int) != 0):=e;subst e';exact PySem.W.truthy_bytes (by omega) ⟨H,I.tok _,q⟩
 | ref p=>
  cases rx;have e':(∃ xs,ak X.K H p xs/\k = !xs.isEmpty)\/(∃ xs,aK X.K H p xs/\k = !xs.isEmpty)\/∃ kvs,H p=some (.dK kvs)/\k = !kvs.isEmpty:=e
  rcases e' with ⟨xs,hx,e'⟩ | ⟨xs,hx,e'⟩ | ⟨kvs,hx,e'⟩
  ·subst e';obtain⟨its,r,pl,hz⟩:=I.list hx;have hlen:=r.length;exact wpAny_truthy_list pl.isList (by simp only [An];omega) ⟨H,I.tok _,by rw [C7 r];exact q⟩
  ·subst e';obtain⟨its,r,pl,hz⟩:=I.tuple hx;have hlen:=r.length;exact truthy_tuple pl (by simp only [An];omega) ⟨H,I.tok _,by rw [C7 r];exact q⟩
  ·subst e';obtain⟨hz,hS,vs,r,m⟩:kvs.length<=sizeLine/\(p == sysModules)=false/\∃ vs,KV kvs vs/\s.heap.DictOf (dS X.prog X.w) p vs:=I.aB p _ hx;have hlen:kvs.length=vs.length:=Paired.length r;exact wpAny_truthy_dict hS m (by omega) ⟨H,I.tok _,by rw [Ml r];exact q⟩
 | _=>exact(show False from e).elim
theorem Mp(ha:PE X a ta)(he:∀ whole,isTrue a X.env whole=(do let v <- whole;standAt a.pos;holding [v] (truthy v))) :
  PT X a (λσ H Q=>ta σ H λx H'=>∃ k,lE X.K x H' k/\Q k H'):=by
 intro pins s σ H Q I h;exact isTrue_plain (aD (ha pins s σ H _ I h) λv s1 ⟨x,H1,I1,r1,q1⟩=>Mm pins s1 σ H1 x v Q I1 r1 q1)<|he _
theorem Mq:cO X (binaryOp .Add) (λx y H Q=>∃ i j,x = .str i/\y = .str j/\i.length+j.length<=sizeLine/\Q (.str<|i++j) H):=by
 intro pins s σ H x y v u Q I rx ry h;obtain⟨i,j,rfl,rfl,hz,q⟩:=h;obtain⟨t,rfl⟩:=rx;obtain⟨t',rfl⟩:=ry;exact add_str (λt' tk=>⟨.str<|i++j,H,I.tok _,⟨_,rfl⟩,q⟩) hz
theorem vals1{x:V}{us:List Value}(r:aq [x] us):∃ u,us=[u]/\RelV x u:=by
 cases r with
 | cons r1 r2=>cases r2;exact⟨_,rfl,r1⟩
theorem vals2{x y:V}{us:List Value}(r:aq [x,y] us):∃ u w',us=[u,w']/\RelV x u/\RelV y w':=by
 cases r with
 | cons r1 r2=>
  cases r2 with
  | cons r3 r4=>cases r4;exact⟨_,_,rfl,r1,r3⟩
theorem C8(hc:X.calm=true):fq X (.builtin "max") (λxs H Q=>∃ i j,xs=[.int i,.int j]/\Q (.int (if j > i then j else i)) H):=by
 intro pins s σ H xs us Q I r h;obtain⟨i,j,rfl,q⟩:=h;obtain⟨u,w',rfl,⟨t,rfl⟩,⟨t',rfl⟩⟩:=vals2 r;refine max_two_ints (I.ok.hd hc) λh' tk k=>⟨_,H,I.kept k,?_,q⟩
 by_cases hj:j > i
 ·rw [BK hj,BK hj];exact⟨_,rfl⟩
 ·rw [BJ hj,BJ hj];exact⟨_,rfl⟩
end
structure lG(h:Heap)(x dx C:Addr)(mA:Str->Option Value):Prop where
 obj:h.get? x=some (PySem.W.instObj C dx)
 ns:h.Ns1 dx mA
 ne:dx≠x
theorem Mr{h:Heap}{dx:Addr}{mA:Str->Option Value}(n:h.Ns1 dx mA):∃ od,h.get? dx=some od/\∀ name,PySem.W.lookIn name od=some (mA name):=by
 obtain⟨o,es,ep,ho,hd,hk,_,hm⟩:=n;refine⟨o,ho,λname=>?_⟩;have e:=hm name;unfold nsFind findBy at e;rw [<- Array.find?_toList] at e;unfold PySem.W.lookIn;rw [hd]
 dsimp only
 split
 ·rename_i y q;rw [q] at e;exact BZ some e
 ·rename_i q;rw [q] at e;have a:es.toList.any (·.refKey)=false:=by
   rw [List.any_eq_false];intro y hy;obtain⟨z,t,iB⟩:=hk y<|Array.mem_toList_iff.mp hy;simp [DictEntry.refKey,iB]
  have a':¬ es.toList.any (·.refKey)=true:=by rw [a];exact As
  rw [BJ a'];exact BZ some e
theorem lG.look{h:Heap}{x dx C:Addr}{mA:Str->Option Value}(I:lG h x dx C mA):∃ od,PySem.W.InstAt h x (PySem.W.instObj C dx) C (some od)/\∀ name,PySem.W.lookIn name od=some (mA name):=
 let ⟨od,ho,hl⟩:=Mr I.ns
 ⟨od,⟨I.obj,rfl,rfl,ho⟩,hl⟩
section
variable{prog:Program}{w:World}{A:Around}{E:Value->Shared->Prop}{s:Shared}{K:PySem.W.Frag}{x dx C f:Addr}{mA:Str->Option Value}{name:Str}{v:Value}
end
theorem df.some_of{v:V}{o:Option Value}(r:df (some v) o):∃ u,o=some u/\RelV v u:=by
 cases o with
 | none=>exact(show False from r).elim
 | some u=>exact⟨u,rfl,r⟩
section
variable{P:Program}{w:World}{H H':Hp}{h h':Heap}{a C dx:Addr}{fs KP:List (Str×V)}
theorem Ms(aB:cf P w H h)(e:H a=some (.ins C dx fs)):∃ mA,lG h a dx C mA/\(∀ f,df (fs.lookup f)<|mA f)/\PySem.Within mA (fs.map (·.1))/\fs.length<=1000/\H dx=some (.own a):=by
 obtain⟨d,z,ne,ob,mA,n,r,q⟩:=(show ax P w H h a (.ins C dx fs) from aB a _ e);exact⟨mA,⟨ob,n,ne⟩,r,q,z,d⟩
end
structure wk(K:PySem.W.Frag)(C:Addr):Prop where
 pg:PySem.W.plainGet K C Str.empty=true
 hd:PySem.W.hasDictIn K C=true
 po:PySem.W.plainOver K C=true
 sa:PySem.W.findIn K (.ref C) "__setattr__" = some (some<|.builtin "object.__setattr__")
theorem wk.get{K:PySem.W.Frag}{C:Addr}(c:wk K C)(f:Str):PySem.W.plainGet K C f=true:=c.pg
section
variable{X:Cx}{pins:List (Addr×Obj)}{σ:St}{H:Hp}{s:Shared}{a C dx:Addr}{fs:List (Str×V)}{f:Str}{v:V}{A:Around}{E:Value->Shared->Prop}
end
section
variable{X:Cx}{o e value:Expr}{f:Str}{pos pos' iA:Pos}{ta tv:TE}
end
section
variable{X:Cx}{pins:List (Addr×Obj)}{σ:St}{H:Hp}{s:Shared}{A:Around}{E:Value->Shared->Prop}{Q:Value->Shared->Prop}{c:Value}{b:Bool}
inductive cP (K:PySem.W.Frag) (H:Hp):V->Value->Prop where
 | non:cP K H .non<|.type "NoneType"
 | bl (x:Bool):cP K H (.bl x)<|.type "bool"
 | int (i:Int):cP K H (.int i)<|.type "int"
 | str (x:Str):cP K H (.str x)<|.type "str"
 | nk (x:UInt64):cP K H (.nk x)<|.type "float"
 | lst {a:Addr} {xs:List V} (e:H a=some (.lst xs)):cP K H (.ref a)<|.type "list"
 | cK {a:Addr} {o:Obj} {xs:List V} (e:H a=some (.cK o<|.lst xs)):cP K H (.ref a)<|.type "list"
 | tup {a:Addr} {xs:List V} (e:H a=some (.tup xs)):cP K H (.ref a)<|.type "tuple"
 | dK {a:Addr} {kvs:List (Key×V)} (e:H a=some (.dK kvs)):cP K H (.ref a)<|.type "dict"
 | dT {a:Addr} {kvs:List (List Key×V)} (e:H a=some (.dT kvs)):cP K H (.ref a)<|.type "dict"
 | ins {a C dx:Addr} {fs:List (Str×V)} (e:H a=some (.ins C dx fs)) (cl:wk K C) (ha:PySem.W.findIn K (.ref C) "__class__" = some (some<|.builtin "object.__class__"))
   (hn:PySem.W.specialIn K (.builtin "object.__class__") "__get__" = some (some<|.builtin "getset_descriptor.__get__")) (pC:PySem.W.takesIn K (.builtin "object.__class__")=some true)
   (hm:PySem.W.mroIn K C (.type "object")=some true):cP K H (.ref a)<|.ref C
theorem Mt{x:V}{u t:Value}(I:Inv X pins σ H s)(rx:RelV x u)(ty:cP X.K H x t)(e:PySem.W.kitOne X.K t c=some b)(h:∀ tk,Q (.bool b) {s with toks:=tk}) :
  wpAny (model X.prog X.w) A (call (.builtin "isinstance") [u,c]) Q E s:=by
 cases ty with
 | non=>cases (show u=Value.none from rx);exact DK PySem.W.kitx_none I.eQ True.intro e (λz=>nomatch z) h
 | bl y=>cases (show u=Value.bool y from rx);exact DK PySem.W.kitx_bool I.eQ True.intro e (λz=>nomatch z) h
 | int i=>obtain⟨t,q⟩:=(show ∃ t,u=Value.int i t from rx);cases q;exact DK PySem.W.kitx_int I.eQ True.intro e (λz=>nomatch z) h
 | str y=>obtain⟨t,q⟩:=(show ∃ t,u=Value.str y t from rx);cases q;exact DK PySem.W.kitx_str I.eQ True.intro e (λz=>nomatch z) h
 | nk y=>obtain⟨t,q⟩:=(show ∃ t,u=Value.float y t from rx);cases q;exact DK PySem.W.kitx_float I.eQ True.intro e (λz=>nomatch z) h
 | @lst a xs ea=>
  cases (show u=Value.ref a from rx);obtain⟨_,_,n,_,h1⟩:=(show ax X.prog X.w H s.heap a (.lst xs) from I.aB a _ ea);exact DK PySem.W.kitx_list I.eQ ⟨_,h1,rfl⟩ e (λz=>nomatch z) h
 | @cK a ob xs ea=>
  cases (show u=Value.ref a from rx);obtain⟨_,_,_,n,_,h1⟩:=(show ax X.prog X.w H s.heap a (.cK ob<|.lst xs) from I.aB a _ ea);exact DK PySem.W.kitx_list I.eQ ⟨_,h1,rfl⟩ e (λz=>nomatch z) h
 | @tup a xs ea=>
  cases (show u=Value.ref a from rx);obtain⟨_,_,_,p⟩:=(show ax X.prog X.w H s.heap a (.tup xs) from I.aB a _ ea);obtain⟨o,h1,h2,_⟩:=p;exact DK PySem.W.kitx_tuple I.eQ ⟨o,h1,h2⟩ e (λz=>nomatch z) h
 | @dK a kvs ea=>
  cases (show u=Value.ref a from rx);obtain⟨_,_,vs,_,p⟩:=(show ax X.prog X.w H s.heap a (.dK kvs) from I.aB a _ ea);obtain⟨o,es,ep,h1,h2,_⟩:=p;exact DK PySem.W.kitx_dict I.eQ ⟨o,h1,h2.1⟩ e (λz=>nomatch z) h
 | @dT a kvs ea=>
  cases (show u=Value.ref a from rx);obtain⟨_,_,xs,_,o,es,ep,h1,h2,_⟩:=(show ax X.prog X.w H s.heap a (.dT kvs) from I.aB a _ ea);exact DK PySem.W.kitx_dict I.eQ ⟨o,h1,h2.1⟩ e (λz=>nomatch z) h
 | @ins a C dx fs ea cl ha hn pC hm=>
  cases (show u=Value.ref a from rx);obtain⟨mA,O,_⟩:=Ms I.aB ea;obtain⟨od,J,_⟩:=O.look;exact DK (PySem.W.kitx_own (cl.get _) cl.hd ha hn pC hm) I.eQ J e (λz=>nomatch z) h
end
structure a8(k:Nat)(A:Around):Prop where
 hd:A.handled=none
 dp:A.depth+3 * k+5 < recursionLimit
 un:A.units+16 * k+200 < cLine
theorem a8.mono{j k:Nat}{A:Around}(r:a8 k A)(h:j<=k):a8 j A:=⟨r.hd,by have:=r.dp;omega,by have:=r.un;omega⟩
theorem a8.deeper{k:Nat}{A:Around}(r:a8 (k+1) A)(env:Env):a8 k (A.deeper env):=
 ⟨r.hd,by have:=r.dp;show A.depth+1+3 * k+5 < _;omega,by have:=r.un;show A.units+3+16 * k+200 < _;omega⟩
theorem a8.depth{k:Nat}{A:Around}(r:a8 k A):A.depth < recursionLimit:=by have:=r.dp;omega
def wm:TA:=λ_ H Q=>Q [] H
def C9(ta:TE)(tr:TA):TA:=λσ H Q=>ta σ H λx H1=>tr σ H1 λxs H2=>Q (x :: xs) H2
section
variable{X:Cx}{e:Expr}{es:List Expr}{te:TE}{t:TA}{pos:Pos}
theorem Mu:PA X [] wm:=λ_ _ _ _ H Q I h=>Calls.spliced_nil ⟨[],H,I,.nil,h⟩
theorem Mv(ha:PE X e te)(hr:PA X es t)(hs:starEach (e :: es) X.env=(false,eval e X.env) :: starEach es X.env:=by rfl):PA X (e :: es) (C9 te t):=by
 intro pos pins s σ H Q I h;rw [hs];show wpAny _ _ (spliced<|(false,eval e X.env) :: backTo pos (starEach es X.env)) _ _ s;refine Calls.spliced_cons<|aD (ha pins s σ H _ I h) λu s1 ⟨x,H1,I1,r1,q1⟩=>?_;exact aD (hr pos pins s1 σ H1 _ I1 q1) λus s2 ⟨xs,H2,I2,r2,q2⟩=>⟨x :: xs,H2,I2,.cons r1 r2,q2⟩
def wn(t:TA):TE:=λσ H Q=>t σ H λxs H1=>xs.length<=sizeLine/\∀ p,H1 p=none->Q (.ref p) (upd H1 p<|.tup xs)
def wo(t:TA):TE:=λσ H Q=>t σ H λxs H1=>xs.length<=sizeLine/\∀ p,H1 p=none->Q (.ref p) (upd H1 p<|.lst xs)
theorem Mw{x1}(h:PA X es t):PE X (.Tuple es x1 pos) (wn t):=by
 intro pins s σ H Q I hq;refine wpAny_Tuple_spliced (aD (h pos pins s σ H _ I hq) λus s1 ⟨xs,H1,I1,r,z,q⟩=>⟨by rw [<- r.length];exact z,?_⟩);have hf:H1 s1.heap.objs.size=none:=I1.aB.fresh<|Ah _;refine⟨.ref s1.heap.objs.size,upd H1 s1.heap.objs.size<|.tup xs,I1.laid (t':=s1.toks) (λb u e=>Ai _ e) (Ah _) ?_,rfl,q _ hf⟩;exact⟨z,us,r,⟨_,Bp _ rfl,rfl,_,rfl⟩⟩
theorem Mx(h:PA X es t):PE X (.List es pos) (wo t):=by
 intro pins s σ H Q I hq;refine wpAny_List_spliced (aD (h pos pins s σ H _ I hq) λus s1 ⟨xs,H1,I1,r,z,q⟩=>⟨by rw [<- r.length];exact z,?_⟩);have hf:H1 s1.heap.objs.size=none:=I1.aB.fresh<|Ah _;refine⟨.ref s1.heap.objs.size,upd H1 s1.heap.objs.size<|.lst xs,I1.laid (t':=s1.toks) (λb u e=>Ai _ e) (Ah _) ?_,rfl,q _ hf⟩;exact⟨z,us,0,r,Bp _ rfl⟩
end
abbrev Sp:=List V->Hp->VK->XK->Prop
abbrev fw:=List Env->Hp->Shared->XK->Value->Shared->Prop
structure jA(P:Program)(w:World)(K:PySem.W.Frag)(mg:Str->Option Value)(base:Heap)(A:Around)(outer:List Env)(s:Shared)(H:Hp):Prop where
 frames:A.frames=some outer
 mod:Mod K mg base
 bs:∀ b o,base.get? b=some o->s.heap.get? b=some o/\H b=none
 kj:base.objs.size<=s.heap.objs.size
 dg:s.heap.FunFrames base outer
 nr:∀ b∈gX outer,H b=none
 aB:cf P w H s.heap
 bare:AllBare s.gens
def CE(outer:List Env)(P:Program)(w:World)(H:Hp)(s:Shared)(Q:VK)(u:Value)(s':Shared):Prop:=
 ∃ v H',s'.os=s.os/\AllBare s'.gens/\Un (gX outer) [] H H' s.heap s'.heap/\cf P w H' s'.heap/\RelV v u/\Q v H'
def CR(CX:fw)(outer:List Env)(P:Program)(w:World)(H:Hp)(s:Shared)(Q:VK)(E:XK)(r:Result)(s':Shared):Prop:=
 match r with
 | .ok (.ret u)=>CE outer P w H s Q u s'
 | .ok _=>False
 | .error e=>CX outer H s E e s'
structure aC(P:Program)(w:World)(K:PySem.W.Frag)(mg:Str->Option Value)(base:Heap)(CX:fw)(k:Nat)(f:Addr)(fd:FuncData)(ps:List Str)(sp:Sp):Prop where
 len:∀ vs H Q E,sp vs H Q E->vs.length=ps.length
 run:∀(A:Around) (outer:List Env) (s:Shared) (H:Hp) (args:Args) (us:List Value) (vs:List V) (Q:VK) (E:XK),a8 k A->jA P w K mg base A outer s H->BindsTo s fd args (ps.zip us)->aq vs us->sp vs H Q E ->
  codeAny (model P w) A (.call (.ref f) args) (CR CX outer P w H s Q E) s
theorem aC.mono{P:Program}{w:World}{K:PySem.W.Frag}{mg:Str->Option Value}{base:Heap}{CX:fw}{j k:Nat}{f:Addr}{fd:FuncData}{ps:List Str}{sp:Sp}(F:aC P w K mg base CX j f fd ps sp)(h:j<=k) :
  aC P w K mg base CX k f fd ps sp:=⟨F.len,λA outer s H args us vs Q E hr=>F.run A outer s H args us vs Q E<|hr.mono h⟩
section
variable{X:Cx}{pins:List (Addr×Obj)}{σ:St}{H:Hp}{s s':Shared}
theorem Inv.wq(I:Inv X pins σ H s):jA X.prog X.w X.K X.mg X.base X.A X.stack s H:=
 ⟨I.ok.frames,I.ok.mod,I.bs,Bz I.ok.kj I.sz,I.stack,I.fO,I.aB,I.bare⟩
theorem Inv.after{Q:VK}{u:Value}(I:Inv X pins σ H s)(h:CE X.stack X.prog X.w H s Q u s'):EP X pins σ Q u s':=by
 obtain⟨v,H',os,bare,un,aB,r,q⟩:=h;obtain⟨hh,g,d,t,My⟩:=s';obtain rfl:My=s.os:=os;exact⟨v,H',I.call (h':=hh) (g':=g) (d':=d) (t':=t) (ch:=[]) un aB bare (λb z=>absurd z<|by simp),r,q⟩
end
def DA(sp:Sp)(jB:List V)(E:XK)(t:TA):TE:=λσ H Q=>t σ H λvs H1=>sp (vs++jB) H1 Q E
def Binds(K:PySem.W.Frag)(fd:FuncData)(ps:List Str)(ds:List Value):Prop:=
 ∀(s:Shared) (us:List Value),K.In s.heap->(us++ds).length=ps.length->BindsTo s fd ⟨us,[]⟩ (ps.zip<|us++ds)
theorem Binds.all{K:PySem.W.Frag}{fd:FuncData}{ps:List Str}(h:∀ us:List Value,us.length=ps.length->bindArgs fd ⟨us,[]⟩=pure (ps.zip us)):Binds K fd ps []:=λs us _ hl=>by
 rw [Bc] at hl ⊢;exact .of_eq<|h us hl
def pD(CX:fw)(X:Cx)(E:XK):Prop:=∀(pins:List<|Addr×Obj) (σ:St) (H:Hp) (s:Shared) (e:Value) (s':Shared),Inv X pins σ H s->CX X.stack H s E e s'->X.xe e s'
section
variable{X:Cx}{CX:fw}{k:Nat}{f C:Addr}{fd:FuncData}{ps:List Str}{sp:Sp}{jB:List V}{ds:List Value}{E:XK}{x m:Str}{p pos apos:Pos}{e o:Expr}{es:List Expr}{ta:TE}{t:TA}
theorem Mz{pins:List (Addr×Obj)}{σ:St}{H:Hp}{s:Shared}{Q:VK}{us:List Value}{vs:List V}(F:aC X.prog X.w X.K X.mg X.base CX k f fd ps sp)(hr:a8 k X.A)(hb:Binds X.K fd ps ds)(hd:aq jB ds)(hx:pD CX X E)
  (I:Inv X pins σ H s) (r:aq vs us) (h:sp (vs++jB) H Q E):wpAny (model X.prog X.w) X.A (call (.ref f) us) (EP X pins σ Q) X.xe s:=by
 have r2:aq (vs++jB) (us++ds):=r.append hd;have hl:(us++ds).length=ps.length:=by rw [<- r2.length];exact F.len _ _ _ _ h
 refine wpAny_call<|codeAny_mono (F.run X.A X.stack s H ⟨us,[]⟩ (us++ds) (vs++jB) Q E hr I.wq (hb s us I.eQ hl) r2 h) λr s' hq=>?_;cases r with
 | error e=>exact hx pins σ H s e s' I hq
 | ok fl=>
  cases fl with
  | ret u=>exact I.after hq
  | next=>exact False.elim hq
  | brk=>exact False.elim hq
  | cont=>exact False.elim hq
theorem MA(F:aC X.prog X.w X.K X.mg X.base CX k f fd ps sp)(hr:a8 k X.A)(hg:Gl X x)(hm:X.mg x=some (.ref f))(hk:PySem.W.keepIn X.K (.ref f)=true)(hb:Binds X.K fd ps ds)(hd:aq jB ds)(hx:pD CX X E)
  (ha:PA X (e :: es) t) (dY:(x == ("__debug__" : Str))=false:=by decide) (he:starEach (e :: es) X.env=(false,eval e X.env) :: starEach es X.env:=by rfl) (gZ:(backTo pos<|starEach es X.env).any (·.1)=false:=by rfl) :
  PE X (.Call (.Name x p) (e :: es) [] pos) (DA sp jB E t):=by
 intro pins s σ H Q I h;refine HN<|CD I hg hm ?_ dY;refine PySem.W.callWith_K (h₀:=X.base) I.ok.mod.oX hk (aD (ha pos pins s σ H _ I h) λus s1 ⟨vs,H1,I1,r,q⟩=>⟨I1.eQ,?_⟩) he gZ;exact Mz F hr hb hd hx I1 r q
end
section
variable{X:Cx}{CX:fw}{k:Nat}{f C:Addr}{fd:FuncData}{ps ks:List Str}{sp:Sp}{E:XK}{x m:Str}{p pos apos MB:Pos}{e o:Expr}{es:List Expr}{VP:List Keyword}{te ta:TE}{t tk:TA}{nm:Option Str}
variable{g:List Value->List Value->List Value}{gV:List V->List V->List V}
end
structure au(N P:List Str)(sc:Scope):Prop where
 kind:sc.kind = .function
 co:sc.isCoroutine=false
 gen:sc.isGenerator=false
 nd:N.Nodup
 pre:N.take P.length=P
 par:∀ x∈P,sc.names.lookup x=some .local\/sc.names.lookup x=some .cell
 lH:∀ y∈sc.names,y.2 ≠ .free
theorem DB{kindOf:Str->Option NameKind}{x:Str}:∀{binds:List (Str×Value)} {m:Str->Option Value},(∀ v,(x,v)∉binds)->bindL kindOf binds m x=m x
 | [],_,_=>rfl
 | (n,v) :: r,m,h=>by
  unfold bindL;rw [DB λw hw=>h w<|Aq _ hw]
  split
  ·have:x≠n:=by rintro rfl;exact h v Ak
   simp [this]
  ·rfl
theorem DC{kindOf:Str->Option NameKind}{x:Str}:∀{binds:List (Str×Value)} {m:Str->Option Value},(∀ v,(x,v)∉binds)->bindC kindOf binds m x=m x
 | [],_,_=>rfl
 | (n,v) :: r,m,h=>by
  unfold bindC;rw [DC λw hw=>h w<|Aq _ hw]
  split
  ·rfl
  ·have:x≠n:=by rintro rfl;exact h v Ak
   simp [this]
theorem DE{kindOf:Str->Option NameKind}{x:Str}{v:Value}:∀{P:List Str} {vs:List Value} {i:Nat} {m:Str->Option Value},P.Nodup->P[i]?=some x->vs[i]?=some v->kindOf x=some .local ->
  bindL kindOf (P.zip vs) m x=some v
 | [],_,_,_,_,h,_,_=>by simp at h
 | _ :: _,[],_,_,_,_,h,_=>by simp at h
 | p :: P,w :: vs,0,m,nd,h1,h2,hk=>by
  simp at h1 h2;subst h1;subst h2;show bindL kindOf ((p,w) :: P.zip vs) m p=_;unfold bindL;rw [DB λv hv=>(Cc.mp nd).1 (MN hv).1,BK hk];simp
 | p :: P,w :: vs,i+1,m,nd,h1,h2,hk=>by
  show bindL kindOf ((p,w) :: P.zip vs) m x=_;unfold bindL;exact DE (i:=i) (Cc.mp nd).2 (by simpa using h1) (by simpa using h2) hk
theorem DF{kindOf:Str->Option NameKind}{x:Str}{v:Value}:∀{P:List Str} {vs:List Value} {i:Nat} {m:Str->Option Value},P.Nodup->P[i]?=some x->vs[i]?=some v->kindOf x≠some .local ->
  bindC kindOf (P.zip vs) m x=some v
 | [],_,_,_,_,h,_,_=>by simp at h
 | _ :: _,[],_,_,_,_,h,_=>by simp at h
 | p :: P,w :: vs,0,m,nd,h1,h2,hk=>by
  simp at h1 h2;subst h1;subst h2;show bindC kindOf ((p,w) :: P.zip vs) m p=_;unfold bindC;rw [DC λv hv=>(Cc.mp nd).1 (MN hv).1,BJ hk];simp
 | p :: P,w :: vs,i+1,m,nd,h1,h2,hk=>by
  show bindC kindOf ((p,w) :: P.zip vs) m x=_;unfold bindC;exact DF (i:=i) (Cc.mp nd).2 (by simpa using h1) (by simpa using h2) hk
def start(N:List Str)(vs:List V):St:=vs.map some++List.replicate (N.length - vs.length) none
def eU(CX:fw)(P:Program)(w:World)(K:PySem.W.Frag)(mg:Str->Option Value)(base:Heap)(N:List Str)(qual:Str)(scope:Scope)(f:Addr)(cd:Value)(A:Around)(outer:List Env)(s:Shared)(H:Hp)(E:XK):Cx where
 prog:=P
 w:=w
 K:=K
 mg:=mg
 base:=base
 A:=A.deeper<|envOfC qual scope s.heap.objs.size f cd
 N:=N
 s₀:=s
 H₀:=H
 env:=envOfC qual scope s.heap.objs.size f cd
 outer:=outer
 stack:=envOfC qual scope s.heap.objs.size f cd :: outer
 ex:=[]
 calm:=true
 fn:=λ_=>true
 pn:=[]
 xe:=λe s'=>wpAny (model P w) (A.deeper<|envOfC qual scope s.heap.objs.size f cd) (leaving (envOfC qual scope s.heap.objs.size f cd) e) (λ_ pE=>CX outer H s E e pE) (λe' pE=>CX outer H s E e' pE) s'
theorem DH{sc:Scope}{n:Nat}{x:Str}(h:sc.names.lookup x=some .cell):∃ c,(cellsFrom n sc.names []).lookup x=some c:=by
 have q:=GK sc.names n []<|.inl h;exact Do.mp q
theorem MC{CX:fw}{P:Program}{w:World}{K:PySem.W.Frag}{mg:Str->Option Value}{base:Heap}{N ps:List Str}{qual:Str}{scope:Scope}{f:Addr}{cd:Value}{A:Around}{outer:List Env}{s s1:Shared}{H:Hp}{E:XK}{us:List Value}{vs:List V}
  (S:au N ps scope) (hd:A.handled=none) (e0:jA P w K mg base A outer s H) (hl:vs.length=ps.length) (r:aq vs us)
  (x:InCallC s s.heap.objs.size (bindL (envOfC qual scope s.heap.objs.size f cd).kindOf (ps.zip us) λ_=>none) (cellsFrom (s.heap.objs.size+1) scope.names []) (bindC (envOfC qual scope s.heap.objs.size f cd).kindOf (ps.zip us) λ_=>none) s1) :
  Inv (eU CX P w K mg base N qual scope f cd A outer s H E) [] (start N vs) H s1:=by
 have gZ:ps.length<=N.length:=by have:=BZ List.length S.pre;rw [Ay] at this;omega
 obtain⟨h1,tk,rfl,hk⟩:=x.done;have pF:∀ b:Addr,b∉(eU CX P w K mg base N qual scope f cd A outer s H E).ex:=λb z=>absurd (show b∈([]:List Addr) from z) (by simp);refine⟨⟨e0.mod,S.kind,rfl,rfl,Ah _,λy z c h1 h2=>?_,λy hy=>?_,λy c _ h=>?_,λ_=>hd,Around.frames_deeper e0.frames,.inr ⟨rfl,rfl⟩,λb z=>absurd z<|pF b,e0.bs,e0.kj,λb _ _=>pF b,λb z=>absurd z<|pF b,e0.dg,e0.nr⟩,
  rfl,e0.bare,Un.kept hk,⟨_,x.toInCall.ns,λi y v h1 h2 h3=>?_⟩,λy c h=>⟨_,x.cell y c h⟩,e0.aB.fresh<|Ah _,λy c h=>?_,λp hp=>absurd (show p∈([]:List<|Addr×Obj) from hp) (by simp),e0.aB.kept hk,?_⟩
 ·exact name_of_addr x.apart (CT h1)<|CT h2
 ·have hy:scope.names.lookup y=some .cell\/scope.names.lookup y=some .free:=hy
  rcases hy with hy | hy
  ·exact DH hy
  ·exact absurd rfl (S.lH _<|CT hy)
 ·exact Gs<|x.above y c<|CT h
 ·have hi:i < vs.length:=by
   unfold start at h2
   by_cases hi:i < vs.length
   ·exact hi
   ·rw [Az<|by simpa using hi] at h2;rw [Dq] at h2
    split at h2 <;> cases h2
  have ha:vs[i]?=some v:=by
   unfold start at h2;rw [Bb (by simpa using hi),Ad] at h2;cases e:vs[i]? with
   | none=>rw [e] at h2;cases h2
   | some a=>rw [e] at h2;cases h2;rfl
  obtain⟨u,hu,rv⟩:=r.get ha;have hp:ps[i]?=some y:=by
   rw [<- S.pre,Es<|by omega];exact h1
  have DI:ps.Nodup:=by rw [<- S.pre];exact S.nd.sublist<|Fj _ _
  refine⟨u,rv,?_⟩
  rcases S.par y (Au hp) with k | k
  ·exact .inl ⟨k,DE DI hp hu k⟩
  ·obtain⟨c,e⟩:=DH (n:=s.heap.objs.size+1) k;refine .inr ⟨.inl k,c,e,?_⟩;have q:=x.cell y c e;rw [DF DI hp hu<|by show scope.names.lookup y≠_;rw [k];decide] at q;exact q
 ·exact e0.aB.fresh<|Gs<|x.above y c<|CT h
 ·unfold start;show _=N.length;rw [Ae,Aa,Dj];omega
theorem MD{CX:fw}{P:Program}{w:World}{K:PySem.W.Frag}{mg:Str->Option Value}{base:Heap}{k:Nat}{f:Addr}{name qual:Str}{params:Arguments}{body:List Stmt}{scope:Scope}{dV kV doc pm bo ct oc:Value}{an od:Option Addr}
  {jC:Array (Option Value)} {N ps:List Str} {sp:Sp} (lk:K.lookup f=some ⟨oc,od,.func<|PySem.W.fnOf name qual params body scope dV kV doc pm an bo ct,jC⟩) (gY:PySem.W.codeIn K bo qual=true) (S:au N ps scope)
  (len:∀ vs H Q E,sp vs H Q E->vs.length=ps.length)
  (dh : ∀ (A : Around) (outer : List Env) (s : Shared) (H : Hp) (vs : List V) (Q : VK) (E : XK), a8 k (A.deeper<|envOfC qual scope s.heap.objs.size f bo) → sp vs H Q E →
   ∃ t,gC (eU CX P w K mg base N qual scope f bo A outer s H E) body t/\t {nx:=λ_ H'=>Q .non H',rt:=Q} (start N vs) H) :
  aC P w K mg base CX (k+1) f (PySem.W.fnOf name qual params body scope dV kV doc pm an bo ct) ps sp:=by
 refine⟨len,λA outer s H args us vs Q E hr e0 hb r g8=>?_⟩;have hl:=len _ _ _ _ g8;have KX:K.In s.heap:=e0.mod.oX.keeps λb o e=>(e0.bs b o e).1;have lim:s.heap.NoLimit:=e0.mod.nolimit.keeps λb o e=>(e0.bs b o e).1;have pG:∀ y∈ps.zip us,scope.names.lookup y.1=some .local\/(scope.names.lookup y.1=some .cell/\((cellsFrom (s.heap.objs.size+1) scope.names []).lookup y.1).isSome=true):=λ⟨n,v⟩ hy=>by
  rcases S.par n (MN hy).1 with q | q
  ·exact .inl q
  ·exact .inr ⟨q,GK _ _ _<|.inl q⟩
 refine codeAny_call_function hr.depth (KX _ _ lk) rfl S.co S.gen rfl (PySem.W.codeRec_of KX gY) (hb _ _ _ _ ?_);refine wpAny_newFunctionEnv_cells S.kind pG λenv he s1 x=>?_;subst he;refine⟨lim.keeps x.toInCall.keep,codeAny_func ?_⟩;obtain⟨t,ht,hq⟩:=dh A outer s H vs Q E (hr.deeper _) g8;have I:Inv (eU CX P w K mg base N qual scope f bo A outer s H E) [] (start N vs) H s1:=MC S hr.hd e0 hl r x;refine CP (ht [] s1 (start N vs) H _ I hq) (λfl s' hs=>?_) λe s' hs=>hs;have fin:∀{σ':St} {H':Hp} {v:V} {u:Value},Inv (eU CX P w K mg base N qual scope f bo A outer s H E) [] σ' H' s'->RelV v u->Q v H'->CE outer P w H s Q u s':=
  λ{σ' H' v u} J rv q=>⟨v,H',J.os,J.bare,J.base,J.aB,rv,q⟩
 cases fl with
 | ret u=>
  obtain⟨v,σ',H',J,rv,q⟩:=hs;exact fin J rv q
 | next=>
  obtain⟨σ',H',J,q⟩:=hs;exact fin (v:=V.non) (u:=Value.none) J rfl q
 | brk=>
  obtain⟨_,_,_,q⟩:=hs;exact False.elim q
 | cont=>
  obtain⟨_,_,_,q⟩:=hs;exact False.elim q
section
variable{X:Cx}{x:Str}{p pos:Pos}{e:Expr}{es:List Expr}{t:TA}{id T:String}{r:List V->Hp->VK->Prop}
def tu(r:List V->Hp->VK->Prop)(t:TA):TE:=λσ H Q=>t σ H λvs H1=>r vs H1 Q
theorem ME(hc:fq X (.builtin id) r)(hg:Gl X x)(hm:X.mg x=none)(hv:bootBuiltins x=some (.builtin id))(ha:PA X (e :: es) t)(hn:x ≠ "__name__":=by decide)(dY:(x == ("__debug__" : Str))=false:=by decide)
  (he:starEach (e :: es) X.env=(false,eval e X.env) :: starEach es X.env:=by rfl) (gZ:(backTo pos<|starEach es X.env).any (·.1)=false:=by rfl):PE X (.Call (.Name x p) (e :: es) [] pos) (tu r t):=by
 intro pins s σ H Q I h;refine HN<|lg I hg hm hv ?_ hn dY;exact PyProof.Rows.callWith_builtin1 (aD (ha pos pins s σ H _ I h) λus s1 ⟨vs,H1,I1,r1,q1⟩=>hc pins s1 σ H1 vs us Q I1 r1 q1) he gZ
theorem MG(hc:fq X (.type T) r)(hg:Gl X x)(hm:X.mg x=none)(hv:bootBuiltins x=some (.type T))(ha:PA X (e :: es) t)(hn:x ≠ "__name__":=by decide)(dY:(x == ("__debug__" : Str))=false:=by decide)
  (he:starEach (e :: es) X.env=(false,eval e X.env) :: starEach es X.env:=by rfl) (gZ:(backTo pos<|starEach es X.env).any (·.1)=false:=by rfl):PE X (.Call (.Name x p) (e :: es) [] pos) (tu r t):=by
 intro pins s σ H Q I h;refine HN<|lg I hg hm hv ?_ hn dY;exact EY (aD (ha pos pins s σ H _ I h) λus s1 ⟨vs,H1,I1,r1,q1⟩=>hc pins s1 σ H1 vs us Q I1 r1 q1) he gZ
end
end L2
namespace HT
open PySem PyProof.Rows
section
open PySem.SeqAt
open PySem.AutoSeq1 (wpAny_loadPart')
open PySem.MeetsSeq PySem.MeetsSeq2 PySem.MeetsSeq3
end
section
variable{prog:Program}{w:World}{A:Around}{E:Value->Shared->Prop}{s:Shared}
def eV(n d:Nat):Option Int->Nat
 | none=>d
 | some v=>if v < 0 then(v+(n:Int)).toNat else min v.toNat n
theorem cF(n d:Nat):eV n d none=d:=rfl
theorem dc(n d k:Nat):eV n d (some (k:Int))=min k n:=by
 show(if(k:Int) < 0 then((k:Int)+(n:Int)).toNat else min (k:Int).toNat n)=min k n;rw [BJ (by omega),Bh]
end
end HT
namespace L2
open PySem PySem.Spec PyProof.Rows
abbrev TO:=St->Hp->(Option Int->Hp->Prop)->Prop
def PO(X:Cx)(e:Option Expr)(t:TO):Prop:=
 ∀(pins:List<|Addr×Obj) (s:Shared) (σ:St) (H:Hp) (Q:Option Int->Hp->Prop),Inv X pins σ H s->t σ H Q ->
  wpAny (model X.prog X.w) X.A (evalPart e X.env) (λu s'=>∃ o H',Inv X pins σ H' s'/\IsPart u o/\Q o H') X.xe s
def ML:TO:=λ_ H Q=>Q none H
def MO(t:TE):TO:=λσ H Q=>t σ H λx H1=>∃ i,x = .int i/\Q (some i) H1
section
variable{X:Cx}{e:Expr}{te:TE}{lo hi:Option Expr}{tl th:TO}{pos p2:Pos}
theorem MQ:PO X none ML:=by
 intro pins s σ H Q I h;rw [evalPart_none];exact BW ⟨none,H,I,.none,h⟩
theorem MR(h:PE X e te):PO X (some e) (MO te):=by
 intro pins s σ H Q I hw;rw [evalPart_some];refine aD (h pins s σ H _ I hw) λu s1 ⟨x,H1,I1,r1,q1⟩=>?_;obtain⟨i,rfl,q⟩:=q1;obtain⟨t,rfl⟩:=r1;exact⟨some i,H1,I1,.int i t,q⟩
def wu(X:Cx)(r:V->Option Int->Option Int->Hp->VK->Prop):Prop:=
 ∀(pins:List<|Addr×Obj) (s:Shared) (σ:St) (H:Hp) (x:V) (v vl vu:Value) (lo hi:Option Int) (sl:Addr) (Q:VK),Inv X pins σ H s->RelV x v->s.heap.IsSliceOf sl vl vu .none->IsPart vl lo->IsPart vu hi->r x lo hi H Q ->
  ∃ T id,typeLookup (.type T) "__getitem__" = pure (some<|.builtin id)/\s.TypeIs v T/\wpAny (model X.prog X.w) X.A (getItem v<|.ref sl) (EP X pins σ Q) X.xe s
def MS(r:V->Option Int->Option Int->Hp->VK->Prop)(te:TE)(tl th:TO):TE:=λσ H Q=>te σ H λx H1=>tl σ H1 λl H2=>th σ H2 λu H3=>r x l u H3 Q
theorem MT{r:V->Option Int->Option Int->Hp->VK->Prop}(hr:wu X r)(he:PE X e te)(hl:PO X lo tl)(hu:PO X hi th):PE X (.Subscript e (.Slice lo hi none p2) pos) (MS r te tl th):=by
 intro pins s σ H Q I h;refine Subscript_<|aD (he pins s σ H _ I h) λv s1 ⟨x,H1,I1,r1,q1⟩=>?_;refine wpAny_Slice<|aD (hl pins s1 σ H1 _ I1 q1) λvl s2 ⟨l,H2,I2,pl,q2⟩=>aD (hu pins s2 σ H2 _ I2 q2) λvu s3 ⟨u,H3,I3,pu,q3⟩=>?_;rw [evalPart_none];refine BW ?_;have I4:Inv X pins σ H3 {s3 with heap:=s3.heap.push {cls:= .type "slice",data:= .fields #[vl,vu,.none]}}:=I3.kept (t':=s3.toks) λb ob q=>Ai _ q;obtain⟨T,id,hT,ht,hg⟩:=hr pins {s3 with heap:=s3.heap.push {cls:= .type "slice",data:= .fields #[vl,vu,.none]}} σ H3 x v vl vu l u s3.heap.objs.size Q I4 r1 (Heap.IsSliceOf.new ..) pl pu q3;show wpAny (model X.prog X.w) X.A (subscriptTail e (.Slice lo hi none p2) v<|.ref s3.heap.objs.size) (EP X pins σ Q) X.xe {s3 with heap:=s3.heap.push {cls:= .type "slice",data:= .fields #[vl,vu,.none]}};exact tail_any (ops:=[.ref s3.heap.objs.size,v]) ht hT hg<|by with_unfolding_all rfl
def bM(xs:List V)(lo hi:Option Int):List V:=(xs.drop<|HT.eV xs.length 0 lo).take<|HT.eV xs.length xs.length hi - HT.eV xs.length 0 lo
theorem MU(xs:List V)(lo hi:Option Int):(bM xs lo hi).length<=xs.length:=by
 unfold bM;rw [Ay,Cb];omega
end
def jD(n:Nat)(i:Int):Option Nat:=if 0<=i then(if i < n then some i.toNat else none) else if -(n:Int)<=i then some (i+n).toNat else none
def di{α:Type}(xs:List α)(i:Int):Option α:=(jD xs.length i).bind λj=>xs[j]?
theorem DJ{n:Nat}{i:Int}{j:Nat}(h:jD n i=some j):seqIndex? i n=some j/\j < n/\-(n:Int)<=i/\i < n:=by
 unfold jD at h
 by_cases h0:0<=i
 ·rw [BK h0] at h
  by_cases h1:i < n
  ·rw [BK h1] at h;have e:i.toNat=j:=Option.some.inj h;exact⟨by rw [NZ h0 h1,e],by omega,by omega,h1⟩
  ·rw [BJ h1] at h;cases h
 ·rw [BJ h0] at h
  by_cases h1:-(n:Int)<=i
  ·rw [BK h1] at h;have e:(i+n).toNat=j:=Option.some.inj h;exact⟨by rw [JX (by omega) h1,e],by omega,h1,by omega⟩
  ·rw [BJ h1] at h;cases h
theorem tD{α:Type}{xs:List α}{i:Int}{v:α}(h:di xs i=some v):∃ j,seqIndex? i xs.length=some j/\xs[j]?=some v/\j < xs.length/\-(xs.length:Int)<=i/\i < xs.length:=by
 unfold di at h;cases e:jD xs.length i with
 | none=>rw [e] at h;cases h
 | some j=>
  rw [e] at h;obtain⟨h1,h2,h3,h4⟩:=DJ e;exact⟨j,h1,h,h2,h3,h4⟩
theorem gF{α:Type}{xs:List α}{j:Nat}{v:α}(h:xs[j]?=some v):di xs (j:Int)=some v:=by
 have hj:j < xs.length:=(Ac.mp h).1;have e:jD xs.length (j:Int)=some j:=by
  unfold jD;rw [BK (by omega),BK<|by omega];simp
 unfold di;rw [e];exact h
def DL(b:Expr):Prop:=∀ o i,subscripted b false o i=operate [o,i] (getItem o i)
def pH(X:Cx)(r:R2):Prop:=
 ∀(value slice:Expr) (pins:List<|Addr×Obj) (s:Shared) (σ:St) (H:Hp) (x y:V) (v u:Value) (Q:VK),Inv X pins σ H s->RelV x v->RelV y u->r x y H Q ->
  subscripted slice false v u=operate [v,u] (getItem v u)->wpAny (model X.prog X.w) X.A (subscriptTail value slice v u) (EP X pins σ Q) X.xe s
def pI(X:Cx)(id:String)(r:V->List V->Hp->VK->Prop):Prop:=
 ∀(pins:List<|Addr×Obj) (s:Shared) (σ:St) (H:Hp) (x:V) (xs:List V) (v:Value) (us:List Value) (Q:VK),Inv X pins σ H s->RelV x v->aq xs us->r x xs H Q ->
  wpAny (model X.prog X.w) X.A (call (.builtin id)<|v :: us) (EP X pins σ Q) X.xe s
section
variable{X:Cx}{a b:Expr}{ta tb:TE}{pos:Pos}
theorem MV{r:R2}(hr:pH X r)(ha:PE X a ta)(hb:PE X b tb)(hs:DL b):PE X (.Subscript a b pos) (tq r ta tb):=by
 intro pins s σ H Q I h;exact Subscript_<|lv ha hb I h λv u s2 x y H2 I2 rx ry q=>hr a b pins s2 σ H2 x y v u Q I2 rx ry q<|hs _ _
def lI(K:PySem.W.Frag):R2:=λx y H Q=>∃ p xs i v,x = .ref p/\y = .int i/\ak K H p xs/\di xs i=some v/\Q v H
def wv(K:PySem.W.Frag):R2:=λx y H Q=>∃ p xs i v,x = .ref p/\y = .int i/\aK K H p xs/\di xs i=some v/\Q v H
def wx:R2:=λx y H Q=>∃ z i c,x = .str z/\y = .int i/\z.length<=sizeLine/\di z.cps.toList i=some c/\Q (.str ⟨#[c]⟩) H
theorem bx:pH X (lI X.K):=by
 intro value slice pins s σ H x y v u Q I rx ry h hs;obtain⟨p,xs,i,z,rfl,rfl,hq,he,q⟩:=h;cases rx;obtain⟨t,rfl⟩:=ry;obtain⟨its,r,pl,hz⟩:=I.list hq;obtain⟨j,h1,h2,h3,h4,h5⟩:=tD he;obtain⟨w,ew,dP⟩:=r.get h2;have hl:=r.length;have hn:=lF;have fin:EP X pins σ Q w s:=⟨z,H,I,dP,q⟩
 by_cases h0:0<=i
 ·have hj:i.toNat=j:=by
   rw [NZ h0 h5] at h1;exact Option.some.inj h1
  exact item_listR pl.isList h0 (by omega) (by rw [hj];simpa using ew) fin hs
 ·have hj:(i+(its.toArray.size:Int)).toNat=j:=by
   rw [JX (by omega) h4] at h1;rw [An,<- hl];exact Option.some.inj h1
  exact subscriptTail_builtinR (x:=w) pl.isList.typeIs slot_list_getitem.lookup
   (wpAny_getItem_list_neg (Q:=λr s'=>r=w/\EP X pins σ Q r s') pl.isList (by omega) (by rw [An] <;> omega) (by omega) (by rw [hj];simpa using ew) ⟨rfl,fin⟩) hs
theorem cW:pH X (wv X.K):=by
 intro value slice pins s σ H x y v u Q I rx ry h hs;obtain⟨p,xs,i,z,rfl,rfl,hq,he,q⟩:=h;cases rx;obtain⟨t,rfl⟩:=ry;obtain⟨its,r,pl,hz⟩:=I.tuple hq;obtain⟨j,h1,h2,h3,h4,h5⟩:=tD he;obtain⟨w,ew,dP⟩:=r.get h2;have hl:=r.length;have hn:=lF;have fin:EP X pins σ Q w s:=⟨z,H,I,dP,q⟩;exact subscriptTail_builtinR (x:=w) pl.typeIs slot_tuple_getitem.lookup
  (getItem_tuple (j:=j) (Q:=λr s'=>r=w/\EP X pins σ Q r s') pl (by omega) (by omega) (by rw [An,<- hl];exact h1) (by simpa using ew) ⟨rfl,fin⟩) hs
theorem DM:pH X wx:=by
 intro value slice pins s σ H x y v u Q I rx ry h hs;obtain⟨z,i,c,rfl,rfl,hz,he,q⟩:=h;obtain⟨t,rfl⟩:=rx;obtain⟨t',rfl⟩:=ry;obtain⟨j,h1,h2,h3,h4,h5⟩:=tD he;have hl:z.cps.toList.length=z.length:=by simp [Str.length]
 rw [hl] at h1 h4 h5;have hn:=lF;exact tail_any (typeIs_str s z t) slot_str_getitem.lookup (getItem_str (c:=c) (by
  have e1:decide (i < -(2 ^ 63:Int))=false:=BX (by omega);have e2:decide (i>=2 ^ 63)=false:=BX (by omega);rw [e1,e2,Bool.or_false]) (by rw [h1];simpa using h2) ⟨.str ⟨#[c]⟩,H,I.tok _,⟨_,rfl⟩,q⟩) hs
theorem MX(its:List Value)(n j:Nat)(u:Value):Obj.mapSeq (·.setIfInBounds j u) {cls:= .type "list",data:= .seq its.toArray n}={cls:= .type "list",data:= .seq (its.set j u).toArray n}:=by
 simp [Obj.mapSeq]
theorem Inv.lst{pins:List (Addr×Obj)}{σ:St}{H:Hp}{s:Shared}{p:Addr}{xs:List V}(I:Inv X pins σ H s)(h:H p=some (.lst xs)) :
  ∃(its:List Value) (n:Nat),aq xs its/\s.heap.get? p=some {cls:= .type "list",data:= .seq its.toArray n}/\xs.length<=sizeLine:=by
 obtain⟨z,its,n,r,e⟩:=I.aB p _ h;exact⟨its,n,r,e,z⟩
theorem Inv.lJ{pins:List (Addr×Obj)}{σ:St}{H:Hp}{s:Shared}{p:Addr}{xs ys:List V}{its its':List Value}{n n':Nat}{f:Obj->Obj}(I:Inv X pins σ H s)(h:H p=some (.lst xs))
  (ho:s.heap.get? p=some {cls:= .type "list",data:= .seq its.toArray n}) (hf:f {cls:= .type "list",data:= .seq its.toArray n}={cls:= .type "list",data:= .seq its'.toArray n'}) (r:aq ys its') (hz:ys.length<=sizeLine) (t:Nat) :
  Inv X pins σ (upd H p<|.lst ys) {s with heap:=s.heap.update p f,toks:=t}:=by
 have e:(s.heap.update p f).get? p=some {cls:= .type "list",data:= .seq its'.toArray n'}:=by
  rw [Heap.get?_update_self f ho (by rw [hf] <;> rfl),hf]
 refine I.write (x:=p) (e:=p) (by rw [h];trivial) (.inl rfl) (λb u hb q=>(Cq _ _<|Ne.symm hb).trans q) ⟨_,e⟩ ?_;exact⟨hz,its',n',r,e⟩
def DS:V->V->V->Hp->(Hp->Prop)->Prop:=λo i v H Q=>∃ p xs k j,o = .ref p/\i = .int k/\H p=some (.lst xs)/\jD xs.length k=some j/\Q (upd H p<|.lst<|xs.set j v)
theorem set_list:o7 X DS:=by
 intro pins s σ H o i v ov iv u Q I ro ri rv h;obtain⟨p,xs,k,j,rfl,rfl,hp,hj,q⟩:=h;cases ro;obtain⟨t,rfl⟩:=ri;obtain⟨its,n,r,ho,hz⟩:=I.lst hp;obtain⟨h1,h2,h3,h4⟩:=DJ hj;have hl:=r.length;have hn:=lF;have I':Inv X pins σ (upd H p<|.lst<|xs.set j v) {s with heap:=s.heap.update p (Obj.mapSeq (·.setIfInBounds j u))}:=
  I.lJ hp ho (MX its n j u) (r.set rv j) (by rw [List.length_set];exact hz) s.toks
 by_cases h0:0<=k
 ·have hk:k.toNat=j:=by
   rw [NZ h0 h4] at h1;exact Option.some.inj h1
  exact PySem.W.ki_setAt ho h0 (by omega) (by rw [An,<- hl];exact h4)<|by rw [hk];exact⟨_,I',q⟩
 ·have hk:(k+(its.toArray.size:Int)).toNat=j:=by
   rw [JX (by omega) h3] at h1;rw [An,<- hl];exact Option.some.inj h1
  exact PySem.W.ki_setBack ho (by omega) (by rw [An,<- hl];exact h3) (by omega)<|by rw [hk];exact⟨_,I',q⟩
theorem MY(lo hi:Option Int)(n:Nat):(sliceBounds lo hi none n).1=((HT.eV n 0 lo:Nat):Int)/\(sliceBounds lo hi none n).2.1=((HT.eV n n hi:Nat):Int)/\(sliceBounds lo hi none n).2.2=1:=by
 refine⟨?_,?_,rfl⟩
 ·cases lo with
  | none=>simp [sliceBounds,HT.eV]
  | some i=>
   simp only [sliceBounds,HT.eV,Option.getD_none,show(1:Int) > 0 by decide,DP]
   by_cases h:i < 0
   ·simp only [h,DP] <;> omega
   ·simp only [h,DN] <;> omega
 ·cases hi with
  | none=>simp [sliceBounds,HT.eV]
  | some i=>
   simp only [sliceBounds,HT.eV,Option.getD_none,show(1:Int) > 0 by decide,DP]
   by_cases h:i < 0
   ·simp only [h,DP] <;> omega
   ·simp only [h,DN] <;> omega
theorem MZ(its:List Value)(lo hi:Option Int):slicePick its.toArray lo hi none=((its.drop<|HT.eV its.length 0 lo).take<|HT.eV its.length its.length hi - HT.eV its.length 0 lo).toArray:=by
 obtain⟨h1,h2,h3⟩:=MY lo hi its.toArray.size;unfold slicePick;rw [h1,h2,h3];simp only [sliceRange_one,pick_run,An] <;> rfl
def wy(K:PySem.W.Frag):V->Option Int->Option Int->Hp->VK->Prop:=λx lo hi H Q=>∃ a xs,x = .ref a/\ak K H a xs/\∀ p,H p=none->Q (.ref p) (upd H p<|.lst<|bM xs lo hi)
theorem pJ:wu X (wy X.K):=by
 intro pins s σ H x v vl vu lo hi sl Q I rx hs pl pu h;obtain⟨a,xs,rfl,hx,q⟩:=h;cases rx;obtain⟨its,r,ht,hz⟩:=I.list hx;have hlen:=r.length;refine⟨"list",_,slot_list_getitem.lookup,ht.isList.typeIs,?_⟩;refine wpAny_getItem_list_slice ht.isList hs pl pu .none (by simp) ?_ (by rw [An] <;> omega);rw [MZ,<- hlen];refine⟨.ref s.heap.objs.size,_,I.laid (t':=s.toks) (o:= .lst<|bM xs lo hi) (λb ob q=>Ai _ q) (Ah _) ?_,rfl,q _<|I.aB.fresh<|Ah _⟩;exact⟨Bz (MU xs lo hi) hz,_,0,(r.drop<|HT.eV xs.length 0 lo).take<|HT.eV xs.length xs.length hi - HT.eV xs.length 0 lo,Bp _ rfl⟩
def tE:V->Bool
 | .non=>true
 | .bl _=>true
 | .int _=>true
 | .str _=>true
 | _=>false
def fz:V->V->Bool
 | .non,.non=>true
 | .bl a,.bl b=>a == b
 | .bl a,.int b=>(if a then 1 else 0) == b
 | .int a,.bl b=>a == (if b then 1 else 0)
 | .int a,.int b=>a == b
 | .str a,.str b=>a == b
 | _,_=>false
theorem M0{A:Around}{s:Shared}{y x:V}{u v:Value}(ry:RelV y u)(rx:RelV x v)(fy:tE y=true)(fx:tE x=true):SeqAt.EqAt A s u v (fz y x):=by
 cases y with
 | non=>
  cases ry;cases x with
  | non=>cases rx;exact SeqAt.EqAt.same _
  | bl b=>cases rx;exact SeqAt.EqAt.none_bool b
  | int b=>obtain⟨t,rfl⟩:=rx;exact SeqAt.EqAt.none_int b t
  | str b=>obtain⟨t,rfl⟩:=rx;exact SeqAt.EqAt.none_str b t
  | _=>exact absurd (show false=true from fx) As
 | bl a=>
  cases ry;cases x with
  | non=>cases rx;exact SeqAt.EqAt.bool_none a
  | bl b=>cases rx;exact SeqAt.EqAt.bool_bool a b
  | int b=>obtain⟨t,rfl⟩:=rx;exact SeqAt.EqAt.bool_int a b t
  | str b=>obtain⟨t,rfl⟩:=rx;exact SeqAt.EqAt.bool_str a b t
  | _=>exact absurd (show false=true from fx) As
 | int a=>
  obtain⟨t',rfl⟩:=ry;cases x with
  | non=>cases rx;exact SeqAt.EqAt.int_none a t'
  | bl b=>cases rx;exact SeqAt.EqAt.int_bool a t' b
  | int b=>obtain⟨t,rfl⟩:=rx;exact SeqAt.EqAt.int_int a t' b t
  | str b=>obtain⟨t,rfl⟩:=rx;exact SeqAt.EqAt.int_str a t' b t
  | _=>exact absurd (show false=true from fx) As
 | str a=>
  obtain⟨t',rfl⟩:=ry;cases x with
  | non=>cases rx;exact SeqAt.EqAt.str_none a t'
  | bl b=>cases rx;exact SeqAt.EqAt.str_bool a t' b
  | int b=>obtain⟨t,rfl⟩:=rx;exact SeqAt.EqAt.str_int a t' b t
  | str b=>obtain⟨t,rfl⟩:=rx;exact SeqAt.EqAt.str_str a t' b t
  | _=>exact absurd (show false=true from fx) As
 | _=>exact absurd (show false=true from fy) As
theorem cZ:fq X (.builtin "len") (λxs H Q=>∃ p ys,xs=[.ref p]/\(ak X.K H p ys\/aK X.K H p ys)/\Q (.int ys.length) H):=by
 intro pins s σ H xs us Q I r h;obtain⟨p,ys,rfl,hq,q⟩:=h;obtain⟨u,rfl,rx⟩:=vals1 r;cases rx;have hn:=lF
 rcases hq with hq | hq
 ·obtain⟨its,r',pl,hz⟩:=I.list hq;have hlen:=r'.length;exact Calls.call_len_list pl.isList (by simp only [An] <;> omega) ⟨.int ys.length,H,I.tok _,⟨s.toks+1,by rw [An,hlen]⟩,q⟩
 ·obtain⟨its,r',pl,hz⟩:=I.tuple hq;have hlen:=r'.length;exact len_tuple pl (by simp only [An] <;> omega) ⟨.int ys.length,H,I.tok _,⟨s.toks+1,by rw [An,hlen]⟩,q⟩
theorem M1:fq X (.type "list") (λxs H Q=>∃ p ys,xs=[.ref p]/\(ak X.K H p ys\/aK X.K H p ys)/\∀ l,H l=none->Q (.ref l) (upd H l<|.lst ys)):=by
 intro pins s σ H xs us Q I r h;obtain⟨p,ys,rfl,hq,q⟩:=h;obtain⟨u,rfl,rx⟩:=vals1 r;cases rx;have fin:∀(its:List Value),aq ys its->ys.length<=sizeLine->∀(h':Heap) (c':Nat),(∀ b o',s.heap.get? b=some o'->h'.get? b=some o') ->
   h'.get? s.heap.objs.size=some {cls:= .type "list",dict:=none,data:= .seq its.toArray c',slots:=#[]}->EP X pins σ Q (.ref s.heap.objs.size) {s with heap:=h'}:=λits r' hz h' c' kp e=>
  ⟨.ref s.heap.objs.size,_,I.laid (t':=s.toks) kp (Ah _) (show ax X.prog X.w _ h' _ (.lst ys) from⟨hz,its,c',r',e⟩),rfl,q _<|I.aB.fresh<|Ah _⟩
 rcases hq with hq | hq
 ·obtain⟨its,r',pl,hz⟩:=I.list hq;have hlen:=r'.length;obtain⟨o,ho,hc,n,hd⟩:=pl.isList;exact call_list_seq p (.inl rfl) ho hc hd (λh' c' kp e=>fin its r' hz h' c' kp e)<|by simp only [An] <;> omega
 ·obtain⟨its,r',pl,hz⟩:=I.tuple hq;have hlen:=r'.length;obtain⟨o,ho,hc,n,hd⟩:=pl;exact call_list_seq p (.inr rfl) ho hc hd (λh' c' kp e=>fin its r' hz h' c' kp e)<|by simp only [An] <;> omega
def ko(K:PySem.W.Frag)(T:String)(x:V)(H:Hp):Prop:=match x with
 | .str _=>T = "str"
 | .int _=>T = "int"
 | .ref p=>(T = "list"/\∃ xs,ak K H p xs)\/(T = "tuple"/\∃ o,K.lookup p=some o/\o.cls = .type "tuple"/\o.dict=none) \/
   (T = "dict"/\((∃ kvs,H p=some (.dK kvs))\/∃ kvs,H p=some (.dT kvs)))\/(T = "set"/\∃ S n,H p=some (.set S n))
 | _=>False
theorem DT{pins:List (Addr×Obj)}{σ:St}{H:Hp}{s:Shared}{T:String}{x:V}{v:Value}(I:Inv X pins σ H s)(r:RelV x v)(ty:ko X.K T x H) :
  s.TypeIs v T/\∀ a,v = .ref a->∃ ob,s.heap.get? a=some ob/\ob.dict=none:=by
 cases x with
 | str z=>
  obtain⟨t,rfl⟩:=r;cases (show T = "str" from ty);exact⟨typeIs_str s z t,λ_ e=>nomatch e⟩
 | int i=>
  obtain⟨t,rfl⟩:=r;cases (show T = "int" from ty);exact⟨typeIs_int s i t,λ_ e=>nomatch e⟩
 | ref p=>
  cases r
  rcases ty with ⟨rfl,xs,hq⟩ | ⟨rfl,o,hk,hc,hd⟩ | ⟨rfl,hk⟩ | ⟨rfl,S,n,hk⟩
  ·obtain⟨its,_,pl,_⟩:=I.list hq;refine⟨pl.isList.typeIs,λa e=>?_⟩;cases e;obtain⟨o,n,e,c,hd,_⟩:=pl;exact⟨o,e,hd⟩
  ·refine⟨⟨o,I.eQ p o hk,hc⟩,λa e=>?_⟩;cases e;exact⟨o,I.eQ _ o hk,hd⟩
  ·have z:∃ o,s.heap.get? p=some o/\o.ExactDict:=by
    rcases hk with ⟨kvs,hk⟩ | ⟨kvs,hk⟩
    ·obtain⟨_,_,_,_,o,_,_,e,ex,_⟩:=I.aB p _ hk;exact⟨o,e,ex⟩
    ·obtain⟨_,_,_,_,o,_,_,e,ex,_⟩:=I.aB p _ hk;exact⟨o,e,ex⟩
   obtain⟨o,e,ex⟩:=z;refine⟨⟨o,e,ex.1⟩,λa e2=>?_⟩;cases e2;exact⟨o,e,ex.2.1⟩
  ·obtain⟨o,_,_,_,e,ex,_⟩:=I.aB p _ hk;refine⟨⟨o,e,ex.1⟩,λa e2=>?_⟩;cases e2;exact⟨o,e,ex.2.1⟩
 | _=>exact False.elim ty
def wz(K:PySem.W.Frag)(T:String)(r:V->List V->Hp->VK->Prop)(to:TE):TE:=λσ H Q=>to σ H λx H1=>ko K T x H1/\r x [] H1 Q
def M3(K:PySem.W.Frag)(T:String)(r:V->List V->Hp->VK->Prop)(to:TE)(t:TA):TE:=λσ H Q=>to σ H λx H1=>ko K T x H1/\t σ H1 λxs H2=>r x xs H2 Q
variable{o e:Expr}{es:List Expr}{to:TE}{t:TA}{name:Str}{apos dj:Pos}{T id:String}{r:V->List V->Hp->VK->Prop}
theorem M4(pa:PlainAttrs T)(slot:Slot T name id)(jE:typeOf (.builtin id)=pure (.type "method_descriptor"))(hm:pI X id r)(ho:PE X o to)
  (bU:attributeBase o name X.env (eval o X.env)=eval o X.env:=by rfl) (hline:(apos.endLine == dj.line)=true:=by rfl):PE X (.Call (.Attribute o name apos) [] [] dj) (wz X.K T r to):=by
 intro pins s σ H Q I h;refine wpAny_Call_method0_late bU hline<|aD (ho pins s σ H _ I h) λv s1 ⟨x,H1,I1,r1,ty,q1⟩=>?_;obtain⟨h1,h2⟩:=DT I1 r1 ty;exact⟨T,id,pa,slot,jE,h1,h2,Calls.callWith_builtin rfl (PySem.evalArgs_none<|hm pins s1 σ H1 x [] v [] Q I1 r1 .nil q1)⟩
theorem wA(pa:PlainAttrs T)(slot:Slot T name id)(jE:typeOf (.builtin id)=pure (.type "method_descriptor"))(hm:pI X id r)(ho:PE X o to)(ha:PA X (e :: es) t)
  (bU:attributeBase o name X.env (eval o X.env)=eval o X.env:=by rfl)
  (dG : ((backTo dj<|starEach (e :: es) X.env).all (λx => !x.1) && (backToKw dj<|keywordEach [] X.env).all (λx => x.1.isSome)
   && decide ((e :: es).length+([]:List Keyword).length+(if([]:List Keyword).isEmpty then 0 else 1) < 30))=true:=by rfl)
  (hline:(apos.endLine == dj.line)=true:=by rfl) (hs:starEach (e :: es) X.env=(false,eval e X.env) :: starEach es X.env:=by rfl) (bD:(backTo dj<|starEach es X.env).any (·.1)=false:=by rfl) :
  PE X (.Call (.Attribute o name apos) (e :: es) [] dj) (M3 X.K T r to t):=by
 intro pins s σ H Q I h;refine wpAny_Call_method_late bU dG hline rfl (aD (ho pins s σ H _ I h) λv s1 ⟨x,H1,I1,r1,ty,q1⟩=>?_);obtain⟨h1,h2⟩:=DT I1 r1 ty;refine⟨T,id,pa,slot,jE,h1,h2,?_⟩;have hA:=ha dj pins s1 σ H1 _ I1 q1;rw [hs] at hA ⊢;refine Calls.callWith_builtin (by show(false || (backTo dj<|starEach es X.env).any (·.1))=false;rw [bD] <;> rfl)<|Calls.evalArgs_plain ?_;exact aD hA λus s2 ⟨vs,H2,I2,r2,q2⟩=>hm pins s2 σ H2 x vs v us Q I2 r1 r2 q2
end
def lK(X:Cx)(id:String)(r:V->List V->Hp->VK->Prop):Prop:=
 ∀(pins:List<|Addr×Obj) (s:Shared) (σ:St) (H:Hp) (x:V) (xs:List V) (v:Value) (us:List Value) (Q:VK),Inv X pins σ H s->RelV x v->aq xs us->r x xs H Q ->
  wpAny (model X.prog X.w) X.A (call (.builtin id)<|v :: us) (EP X pins σ Q) X.xe s
theorem aq.hd{x:V}{xs:List V}{us:List Value}(h:aq (x :: xs) us):∃ u vs,us=u :: vs/\RelV x u/\aq xs vs:=by
 cases h with
 | cons r t=>exact⟨_,_,rfl,r,t⟩
theorem aq.nl{us:List Value}(h:aq [] us):us=[]:=by
 cases h;rfl
theorem aq.one{x:V}{us:List Value}(h:aq [x] us):∃ u,us=[u]/\RelV x u:=by
 obtain⟨u,vs,rfl,r,t⟩:=h.hd;rw [t.nl];exact⟨u,rfl,r⟩
theorem aq.two{x y:V}{us:List Value}(h:aq [x,y] us):∃ u v,us=[u,v]/\RelV x u/\RelV y v:=by
 obtain⟨u,vs,rfl,r,t⟩:=h.hd;obtain⟨v,ws,rfl,q,t⟩:=t.hd;rw [t.nl];exact⟨u,v,rfl,r,q⟩
theorem aq.zero:∀{us:List Value},aq [] us->us=[]
 | _,.nil=>rfl
theorem aq.dropLast{xs:List V}{us:List Value}(h:aq xs us):aq xs.dropLast us.dropLast:=by
 induction h with
 | nil=>exact .nil
 | cons r t ih=>
  cases t with
  | nil=>exact .nil
  | cons q t'=>exact .cons r ih
theorem aq.eraseIdx:∀{xs:List V} {us:List Value} (i:Nat),aq xs us->aq (xs.eraseIdx i) (us.eraseIdx i)
 | _,_,_,.nil=> .nil
 | _,_,0,.cons _ t=>t
 | _,_,i+1,.cons r t=> .cons r<|aq.eraseIdx i t
theorem M5{α:Type}(l:List α):l.eraseIdx (l.length - 1)=l.dropLast:=by
 induction l with
 | nil=>rfl
 | cons a r ih=>
  cases r with
  | nil=>rfl
  | cons b r=>
   have e:(a :: b :: r).length - 1=((b :: r).length - 1)+1:=by
    have h1:(a :: b :: r).length=r.length+2:=rfl;have h2:(b :: r).length=r.length+1:=rfl;omega
   rw [e,LR,ih]
   all_goals rfl
theorem DU{α:Type}:∀(l:List α) (i:Nat),(l.eraseIdx i).length<=l.length
 | [],_=>Ah _
 | _ :: _,0=>Ef _
 | _ :: r,i+1=>Nat.succ_le_succ<|DU r i
section
variable{X:Cx}{pins:List (Addr×Obj)}{σ:St}{H:Hp}{s:Shared}{l b:Addr}{xs ys zs:List V}
theorem Inv.iC{its its':List Value}{n:Nat}{f:Array Value->Array Value}{t':Nat}(I:Inv X pins σ H s)(hH:H l=some (.lst xs))
  (e:s.heap.get? l=some {cls:= .type "list",data:= .seq its.toArray n}) (hf:f its.toArray=its'.toArray) (hv:aq ys its') (hz:ys.length<=sizeLine) :
  Inv X pins σ (upd H l<|.lst ys) {s with heap:=s.heap.update l<|Obj.mapSeq f,toks:=t'}:=by
 have q:=PySem.IsL.update e f;rw [hf] at q;refine I.write (x:=l) (e:=l) (by rw [hH];exact trivial) (.inl rfl) (λb' u hb hu=>(Cq s.heap (Obj.mapSeq f)<|Ne.symm hb).trans hu) ⟨_,q⟩ ?_;exact⟨hz,its',_,hv,q⟩
theorem Inv.wB{its:List Value}{t':Nat}(I:Inv X pins σ H s)(hv:aq ys its)(hz:ys.length<=sizeLine) :
  Inv X pins σ (upd H s.heap.objs.size<|.lst ys) {s with heap:=s.heap.push {cls:= .type "list",data:= .seq its.toArray},toks:=t'}:=
 I.laid (λ_ _ q=>Ai _ q) (Ah _) ⟨hz,its,0,hv,Bp _ rfl⟩
theorem Inv.fresh(I:Inv X pins σ H s):H s.heap.objs.size=none:=I.aB.fresh<|Ah _
theorem Inv.eW(I:Inv X pins σ H s)(hH:H l=some (.lst xs)):xs.length<=sizeLine/\∃(its:List Value) (n:Nat),aq xs its/\xs.length=its.length/\s.heap.get? l=some {cls:= .type "list",data:= .seq its.toArray n}:=by
 obtain⟨z,its,n,r,e⟩:=I.aB l _ hH;exact⟨z,its,n,r,r.length,e⟩
theorem M6{n:Nat}(h:n<=sizeLine):Builtin.List.listTooLong n=false:=by
 unfold Builtin.List.listTooLong;exact BX<|by omega
end
section
variable{X:Cx}
def M7:V->List V->Hp->VK->Prop:=λx vs H Q=>∃ l xs y,x = .ref l/\vs=[y]/\H l=some (.lst xs)/\xs.length < sizeLine/\Q .non (upd H l<|.lst<|xs++[y])
theorem pK:lK X "list.append" M7:=by
 intro pins s σ H x vs v us Q I rx rv h;obtain⟨l,xs,y,rfl,rfl,hH,hz,q⟩:=h;cases rx;obtain⟨u,rfl,ru⟩:=rv.one;obtain⟨z,its,n,r,hl,e⟩:=I.eW hH;refine IK F.slot_list_append ⟨_,e,rfl⟩ F.entry_list_append (F.args_list_append_2 _ _) (PySem.list_append l its.toArray n u<|by rw [An];omega) ⟨e,?_⟩;refine⟨.non,_,I.iC (its':=its++[u]) hH e (by simp) (r.append<|.cons ru .nil) ?_,rfl,q⟩;rw [Ae,Fi];omega
def M8:V->List V->Hp->VK->Prop:=λx vs H Q=>∃ l b xs zs,x = .ref l/\vs=[.ref b]/\H l=some (.lst xs)/\H b=some (.lst zs)/\xs.length+zs.length<=sizeLine/\Q .non (upd H l<|.lst<|xs++zs)
theorem M9:lK X "list.extend" M8:=by
 intro pins s σ H x vs v us Q I rx rv h;obtain⟨l,b,xs,zs,rfl,rfl,hH,hB,hz,q⟩:=h;cases rx;obtain⟨u,rfl,ru⟩:=rv.one;cases ru;obtain⟨z,its,n,r,hl,e⟩:=I.eW hH;obtain⟨z2,fA,n2,r2,jF,e2⟩:=I.eW hB;have hsz:its.toArray.size+fA.toArray.size<=sizeLine:=by rw [An,An];omega
 have pL:¬(!its.toArray.isEmpty && Builtin.List.listTooLong (its.toArray.size+fA.toArray.size))=true:=by
  rw [M6 hsz,Bool.and_false];exact As
 refine IK F.slot_list_extend ⟨_,e,rfl⟩ F.entry_list_extend (F.args_list_extend_2 _ _)
  (AutoSeq1.list_extend_list_list_0 l its.toArray n b fA.toArray n2 pL (by rw [An];omega)<|by omega) ⟨e,e2,?_⟩
 refine⟨.non,_,I.iC (its':=its++fA) hH e (by simp) (r.append r2) ?_,rfl,q⟩;rw [Ae];omega
def wC:V->List V->Hp->VK->Prop:=λx vs H Q=>∃ l xs y,x = .ref l/\vs=[]/\H l=some (.lst xs)/\xs[xs.length - 1]?=some y/\Q y (upd H l<|.lst xs.dropLast)
theorem Nb:lK X "list.pop" wC:=by
 intro pins s σ H x vs v us Q I rx rv h;obtain⟨l,xs,y,rfl,rfl,hH,hy,q⟩:=h;cases rx;have Nc:=rv.zero;subst Nc;obtain⟨z,its,n,r,hl,e⟩:=I.eW hH;obtain⟨u,hu,ru⟩:=r.get hy;have fB:its.toArray[its.toArray.size - 1]?=some u:=by
  show its.toArray[its.length - 1]?=some u;rw [<- Ao,<- hl];exact hu
 refine IK F.slot_list_pop ⟨_,e,rfl⟩ F.entry_list_pop (F.args_list_pop_1 _) (MeetsSeq.list_pop_last l its.toArray n u fB<|by rw [An];omega) ⟨e,?_⟩;refine⟨y,_,I.iC (its':=its.dropLast) hH e ?_ r.dropLast ?_,ru,q⟩
 ·show its.toArray.eraseIdxIfInBounds (its.toArray.size - 1)=its.dropLast.toArray;rw [An,HY,M5]
 ·rw [List.length_dropLast];omega
def Nf:V->List V->Hp->VK->Prop:=λx vs H Q=>∃ l xs i k y,x = .ref l/\vs=[.int i]/\H l=some (.lst xs)/\-(2 ^ 63)<=i/\i < 2 ^ 63/\seqIndex? i xs.length=some k/\xs[k]?=some y/\Q y (upd H l<|.lst<|xs.eraseIdx k)
theorem Ng:lK X "list.pop" Nf:=by
 intro pins s σ H x vs v us Q I rx rv h;obtain⟨l,xs,i,k,y,rfl,rfl,hH,h1,h2,hk,hy,q⟩:=h;cases rx;obtain⟨u,rfl,ru⟩:=rv.one;obtain⟨t,rfl⟩:=ru;obtain⟨z,its,n,r,hl,e⟩:=I.eW hH;obtain⟨w,hw,dP⟩:=r.get hy;refine IK F.slot_list_pop ⟨_,e,rfl⟩ F.entry_list_pop (F.args_list_pop_2 _ _)
  (MeetsSeq.list_pop_at l its.toArray n i t k w (fitsIndex_both h1 h2) (by rw [An,<- hl];exact hk) (by rw [<- Ao];exact hw)<|by rw [An];omega) ⟨e,?_⟩
 refine⟨y,_,I.iC (its':=its.eraseIdx k) hH e ?_ (r.eraseIdx k) ?_,dP,q⟩
 ·show its.toArray.eraseIdxIfInBounds k=(its.eraseIdx k).toArray;rw [HY]
 ·have:=DU xs k;omega
def wD:R2:=λx y H Q=>∃ l b xs zs,x = .ref l/\y = .ref b/\H l=some (.lst xs)/\H b=some (.lst zs)/\xs.length+zs.length<=sizeLine/\∀ p,H p=none->Q (.ref p) (upd H p<|.lst<|xs++zs)
theorem DV:cO X (binaryOp .Add) wD:=by
 intro pins s σ H x y v u Q I rx ry h;obtain⟨l,b,xs,zs,rfl,rfl,hH,hB,hz,q⟩:=h;cases rx;cases ry;obtain⟨z,its,n,r,hl,e⟩:=I.eW hH;obtain⟨z2,fA,n2,r2,jF,e2⟩:=I.eW hB;refine PySem.P.add_list e e2 ?_ (by rw [An,An];omega);have ea:its.toArray++fA.toArray=(its++fA).toArray:=by simp
 rw [ea];exact⟨.ref _,_,I.wB (t':=s.toks) (r.append r2) (by rw [Ae];omega),rfl,q _ I.fresh⟩
end
section
variable{prog:Program}{w:World}{A:Around}{E:Value->Shared->Prop}{s:Shared}
end
section
variable{X:Cx}
end
end L2
namespace DZ
open PySem PySem.W PySem.Calls PyProof.Rows
theorem Nh{P:Params}{h:Heap}:∀(ns:List Int) (vs:List Value),WellAll P h vs (ns.map WData.int)->IntsAre vs ns:=by
 intro ns
 induction ns with
 | nil=>
  intro vs w;rw [Gb] at w;cases w;exact .nil
 | cons n ns ih=>
  intro vs w;rw [Bq] at w;cases w with
  | cons a b=>
   cases a;exact .cons _ _<|ih _ b
theorem Ni{l:OpenLaw}{n:Nat}(hn:l.most=some n){P:Params}{h:Heap}{args:List WData}{vals:List Value}
  (jG:l.row.toRowW.claim.pre args=true) (wF:WellAll P h vals args) :
  ∃ a vs ns,vals=[Value.ref a]/\args=[WData.list<|ns.map WData.int]/\h.get? a=some {cls:= .type "list",data:= .seq vs.toArray}/\IntsAre vs ns/\ns.length<=n:=by
 have Nj:WShape.hasAll [] args [.list .int]=true:=(pre_splitW jG).1;have hc:l.pre.holds [] {args:=args}=true:=(pre_splitW jG).2;obtain⟨d,r,rfl,h1,h2⟩:=hasAllW_cons Nj;obtain rfl:=hasAllW_nil h2;obtain⟨xs,rfl,h3⟩:=hasW_list h1;obtain⟨ns,rfl⟩:=items_int h3;have hlen:ns.length<=n:=by
  unfold OpenLaw.pre at hc;have h4:(WTm.not<|.lt (.lit<|.int (n:Int))<|.len<|.arg 0).holds [] {args:=[.list<|ns.map .int]}=true:=by
   have h4:=(holds_andW hc).1;rw [hn] at h4;exact h4
  have h5:=condW_of h4<|w_not<|w_lt w_lit<|w_len_list<|w_arg rfl;rw [Aa] at h5;refine Nat.le_of_not_lt λq=>?_;have q':(n:Int) < ((ns.length:Nat):Int):=by omega
  first
   | (rw [CG q'] at h5;exact absurd h5<|by decide)
   | (simp at h5;omega)
 cases wF with
 | cons w1 w2=>
  cases w2;cases w1 with
  | list ho lN=>exact⟨_,_,ns,rfl,rfl,ho,Nh ns _ lN,hlen⟩
theorem Nk(l:OpenLaw)(args:List WData):l.row.toRowW.claim.post args (.bool true) args=true:=
 postW_of (r:=l.row.toRowW) (X:=(true == true))
  (show WShape.has [] (.bool true) .bool=true by first | rfl | decide | simp [WShape.has,WShape.arms,WShape.armsAll])
  (show(WTm.eq .res<|.lit<|.bool true).value [] {args:=args,res:=some<|.bool true,after:=args}=some (.bool<|true == true) from w_eq_bool (w_res rfl) w_lit) rfl
theorem eX{l:OpenLaw}{n:Nat}{q:Program}{loose:List Str}{XP:(Str->Option Value)->Heap->Prop}{YP:World->Heap->Prop}{d:DefRec}
  (hn:l.most=some n) (pM:d.params.defaults=[])
  (call : ∀ (w : World) (s₀ s₁ : Shared) (mg mb : Str → Option Value) (fa : Addr) (o : Obj) (pm cd doc : Value) (a : Addr) (vs : List Value) (ns : List Int),
   Ground q loose [] XP w s₀ mg mb s₁.heap->YP w s₁.heap ->
   s₁.heap.get? fa=some o->o.data = .func (docDef d.name d.params d.body d.scope pm cd doc)->s₁.heap.CodeRec cd d.name->mg d.name=some (.ref fa) ->
   s₁.heap.get? a=some {cls:= .type "list",data:= .seq vs.toArray}->IntsAre vs ns->ns.length<=n->s₁.gens=#[] ->
   codeAny (model l.prog w) callerA (.call (.ref fa) ⟨[.ref a],[]⟩) (λr s'=>r = .ok (.ret<|.bool true)/\OldK s₁.heap s'.heap/\s'.os=s₁.os/\AllBare s'.gens) s₁) :
  WalkO q loose XP YP l.row.toRowW d [] (λf vs=>PySem.call f vs):=by
 intro w s₀ s₁ mg mb G Y fa o pm cd doc dV kV ho hd gY hD pN hg args vals as jG hlay VQ wF VR;obtain rfl:dV = .none:=Dflts.none hD pM;obtain rfl:kV = .none:=Dflts.noKw hD;obtain⟨a,vs,ns,rfl,rfl,iD,hints,hlen⟩:=Ni hn jG wF;refine enter_call<|codeAny_mono (call w s₀ s₁ mg mb fa o pm cd doc a vs ns G Y ho (fd_plain hd) gY pN iD hints hlen hg) λr s' hq=>?_;obtain⟨rfl,h2,h3,h4⟩:=hq;exact⟨.inl ⟨.bool true,.bool true,[],rfl,λ_=>rfl,.bool true,Nk l _,λ_=>⟨List.Pairwise.nil,λ_ hm=>(nomatch hm)⟩⟩,h2,h3,h4⟩
section
variable{prog:Program}{w:World}{A:Around}{E:Value->Shared->Prop}{s:Shared}{K:Frag}
end
end DZ
namespace L2
open PySem PySem.Spec PyProof.Rows
theorem D4:∀{vs:List Value} {ns:List Int},IntsAre vs ns->aq (ns.map V.int) vs
 | _,_,.nil=> .nil
 | _,_,.cons n t h=> .cons ⟨t,rfl⟩<|D4 h
def Only(H:Hp):Prop:=∀ b,H b=none\/∃ o xs,H b=some (.cK o<|.lst xs)
theorem Nm{P:Program}{w:World}{K:PySem.W.Frag}{mg mb:Str->Option Value}{CX:fw}{k:Nat}{fa a:Addr}{fd:FuncData}{x:Str}{sp:Sp}{s₁:Shared}{vs:List Value}{ns:List Int}
  (KX:K.In s₁.heap) (tF:s₁.heap.Ns mainGlobals mg) (hb:s₁.heap.Ns builtinsNs mb) (Nn:∀ x:Str,x ≠ "__name__"->mb x=bootBuiltins x) (wG:s₁.heap.NoLimit) (hg:s₁.gens=#[])
  (ha:s₁.heap.get? a=some {cls:= .type "list",data:= .seq vs.toArray}) (hi:IntsAre vs ns) (hl:ns.length<=sizeLine) (hr:a8 k callerA)
  (F:∀ base:Heap,K.In base->base.Ns mainGlobals mg->aC P w K mg base CX k fa fd [x] sp) (pO:∀(s:Shared) (u:Value),BindsTo s fd ⟨[u],[]⟩ [(x,u)])
  (g8:∀ H:Hp,Only H->ak K H a (ns.map V.int)->sp [.ref a] H (λv _=>v = .bl true) λ_ _ _=>False)
  (wH:∀ H e s',CX [] H s₁ (λ_ _ _=>False) e s'->False) :
  codeAny (model P w) callerA (.call (.ref fa) ⟨[.ref a],[]⟩) (λr s'=>r = .ok (.ret<|.bool true)/\OldK s₁.heap s'.heap/\s'.os=s₁.os/\AllBare s'.gens) s₁:=by
 have rv:=D4 hi;have wI:=hi.length;have core:∀ H:Hp,Only H->ak K H a (ns.map V.int)->cf P w H s₁.heap->(∀ b,H b≠none->b=a)->(H a≠none->K.lookup a=none) ->
   codeAny (model P w) callerA (.call (.ref fa) ⟨[.ref a],[]⟩) (λr s'=>r = .ok (.ret<|.bool true)/\OldK s₁.heap s'.heap/\s'.os=s₁.os/\AllBare s'.gens) s₁:=by
  intro H hO hS aB hA hK;have fU:∀{b:Addr} {o:Obj},s₁.heap.get? b=some o->H b=none->(dW s₁.heap H).get? b=some o:=λe n=>KU e n;have pF:∀{b:Addr} {o:Obj} {es:Array DictEntry} {ep:Nat},s₁.heap.get? b=some o->o.data = .dict es ep->H b=none:=λ{b o es ep} e d=>by
   cases q:H b with
   | none=>rfl
   | some u=>
    have e':b=a:=hA b (by rw [q];simp);subst e';rw [ha] at e;cases e;have d':Data.seq vs.toArray _=Data.dict es ep:=d;cases d'
  have tG:∀{b:Addr} {m:Str->Option Value},s₁.heap.Ns b m->(dW s₁.heap H).Ns b m:=λ{b m} ⟨o,es,ep,e,d,r⟩=>⟨o,es,ep,fU e<|pF e d,d,r⟩;have D6:K.In (dW s₁.heap H):=λb o e=>fU (KX b o e)<|by
   cases q:H b with
   | none=>rfl
   | some u=>
    have e':b=a:=hA b (by rw [q];simp);subst e';rw [hK<|by rw [q];simp] at e;cases e
  have hM:Mod K mg (dW s₁.heap H):=⟨D6,tG tF,⟨mb,tG hb,Nn⟩,let ⟨mc,h1,h2⟩:=wG;⟨mc,tG h1,h2⟩⟩;have e0:jA P w K mg (dW s₁.heap H) callerA [] s₁ H:=⟨rfl,hM,λb o e=>KW e,Fr<|KS _ _,trivial,λb hb=>absurd (show b∈([]:List Addr) from hb) (by simp),aB,.of_eq hg⟩;refine codeAny_mono ((F _ D6<|tG tF).run callerA [] s₁ H ⟨[.ref a],[]⟩ [.ref a] [.ref a] _ _ hr e0 (pO s₁<|.ref a) (.cons rfl .nil)<|g8 H hO hS) λr s' h=>?_;cases r with
  | error e=>exact(wH H e s' h).elim
  | ok fl=>
   cases fl with
   | next=>exact False.elim h
   | brk=>exact False.elim h
   | cont=>exact False.elim h
   | ret u=>
    obtain⟨v,H',os,bare,un,wJ,r',q⟩:=h;have q':v = .bl true:=q;subst q';obtain rfl:u=Value.bool true:=r';refine⟨rfl,OldK.of_keep λb o e=>?_,os,bare⟩;cases q:H b with
    | none=>exact un.keep b o e q (by intro z;exact absurd (show b∈([]:List Addr) from z)<|by simp)<|by simp
    | some u=>
     rcases hO b with z | ⟨ob,xs,z⟩
     ·rw [q] at z;cases z
     ·have z2:=un.dU b ob _ z;obtain⟨e1,_⟩:=aB b _ z;obtain⟨e2,_⟩:=wJ b _ z2;rw [e] at e1;cases e1;exact e2
 cases hk:K.lookup a with
 | some o=>
  have e:=KX a o hk;rw [ha] at e;cases e;refine core (λ_=>none) (λ_=> .inl rfl) (.inr ⟨_,vs.toArray,_,hk,rfl,rfl,rfl,by rw [An,wI];exact hl,by simpa using rv⟩) (λb u z=>by have z':(none:Option HO)=some u:=z;cases z') (λb z=>absurd rfl z) λz=>absurd rfl z
 | none=>
  refine core (λb=>if b=a then some (.cK {cls:= .type "list",data:= .seq vs.toArray}<|.lst<|ns.map V.int) else none) (λb=>?_) (.inl<|.inr ⟨{cls:= .type "list",data:= .seq vs.toArray},BK rfl⟩) (λb u z=>?_) (λb z=>?_) λ_=>hk
  ·by_cases hb:b=a
   ·exact .inr ⟨_,_,BK hb⟩
   ·exact .inl<|BJ hb
  ·by_cases hb:b=a
   ·have z':=(BK hb).symm.trans z;cases z';subst hb;exact⟨ha,by rw [Aa];exact hl,vs,_,rv,ha⟩
   ·have z':=(BJ hb).symm.trans z;cases z'
  ·by_cases hb:b=a
   ·exact hb
   ·exact absurd (BJ hb) z
theorem jH{l:PySem.W.OpenLaw}{n k:Nat}{q:Program}{loose:List Str}{XP:(Str->Option Value)->Heap->Prop}{YP:World->Heap->Prop}{d:DefRec}{K:Params->PySem.W.Frag}{CX:World->fw}{sp:World->Sp}{x:Str}
  (hn:l.most=some n) (Np:n<=sizeLine) (pM:d.params.defaults=[]) (hr:a8 k callerA)
  (hY:∀(w:World) (h:Heap),YP w h->(K w.params).In h)
  (F : ∀ (w : World) (mg : Str → Option Value) (fa : Addr) (h : Heap), (K w.params).In h → h.Ns mainGlobals mg → mg d.name = some (.ref fa) →
   ∃ fd:FuncData,(∀(s:Shared) (u:Value),BindsTo s fd ⟨[u],[]⟩ [(x,u)]) /\
    ∀ base:Heap,(K w.params).In base->base.Ns mainGlobals mg->aC l.prog w (K w.params) mg base (CX w) k fa fd [x] (sp w))
  (g8:∀(w:World) (H:Hp) (a:Addr) (ns:List Int),ns.length<=n->Only H->ak (K w.params) H a (ns.map V.int)->sp w [.ref a] H (λv _=>v = .bl true) λ_ _ _=>False)
  (wH:∀(w:World) (H:Hp) (s:Shared) (e:Value) (s':Shared),CX w [] H s (λ_ _ _=>False) e s'->False) :
  PySem.W.WalkO q loose XP YP l.row.toRowW d [] (λf vs=>PySem.call f vs):=by
 refine DZ.eX hn pM λw s₀ s₁ mg mb fa o pm cd doc a vs ns G Y ho hd gY pN iD hints hlen hg=>?_;have KX:=hY w _ Y;obtain⟨fd,hb,hF⟩:=F w mg fa _ KX G.T.g pN;exact Nm KX G.T.g G.T.b G.T.builtins G.T.nolimit hg iD hints (Bz hlen Np) hr hF hb (λH hO hS=>g8 w H a ns hlen hO hS) λH e s'=>wH w H s₁ e s'
def lO(s:Stmt):Arguments:=match s with
 | .FunctionDef _ a _ _ _ _ _ _ _ _=>a
 | _=>{posonlyargs:=[],args:=[],vararg:=none,kwonlyargs:=[],kw_defaults:=[],kwarg:=none,defaults:=[]}
def g9(s:Stmt):List Stmt:=match s with
 | .FunctionDef _ _ b _ _ _ _ _ _ _=>b
 | _=>[]
def aV(s:Stmt):Scope:=match s with
 | .FunctionDef _ _ _ _ _ _ sc _ _ _=>sc
 | _=>{kind:= .function,names:=[],isGenerator:=false,isCoroutine:=false}
abbrev bp:fw:=λ_ _ _ _ _ _=>False
abbrev E0:XK:=λ_ _ _=>False
theorem Nq{X:Cx}:pD bp X E0:=λ_ _ _ _ _ _ _ h=>h.elim
structure bz(K:PySem.W.Frag)(x qual:Str)(st:Stmt)(f:Addr)(fd:FuncData):Prop where
 ex:∃(oc:Value) (od:Option Addr) (kV doc pm:Value) (an:Option Addr) (bo ct:Value) (jC:Array<|Option Value),
  fd=PySem.W.fnOf x qual (lO st) (g9 st) (aV st) .none kV doc pm an bo ct/\K.lookup f=some ⟨oc,od,.func fd,jC⟩/\PySem.W.codeIn K bo qual=true
 kp:PySem.W.keepIn K (.ref f)=true
section
variable{P:Program}{w:World}{K:PySem.W.Frag}{mg:Str->Option Value}{base:Heap}
theorem bz.ok{x qual:Str}{st:Stmt}{f:Addr}{fd:FuncData}{N ps:List Str}{k:Nat}{sp:Sp}(F:bz K x qual st f fd)(S:au N ps<|aV st)(len:∀ vs H Q E,sp vs H Q E->vs.length=ps.length)
  (dh : ∀ (bo : Value) (A : Around) (outer : List Env) (s : Shared) (H : Hp) (vs : List V) (Q : VK) (E : XK), a8 k (A.deeper<|envOfC qual (aV st) s.heap.objs.size f bo) → sp vs H Q E →
   ∃ t,gC (eU bp P w K mg base N qual (aV st) f bo A outer s H E).nw (g9 st) t/\t {nx:=λ_ H'=>Q .non H',rt:=Q} (start N vs) H):aC P w K mg base bp (k+1) f fd ps sp:=by
 obtain⟨oc,od,kV,doc,pm,an,bo,ct,jC,rfl,lk,gY⟩:=F.ex;refine MD lk gY S len λA outer s H vs Q E hr g8=>?_;obtain⟨t,h,q⟩:=dh bo A outer s H vs Q E hr g8;exact⟨t,h.nw,q⟩
theorem bz.binds{x qual:Str}{st:Stmt}{f:Addr}{fd:FuncData}{ps:List Str}(F:bz K x qual st f fd)
  (h:∀(kV doc pm:Value) (an:Option Addr) (bo ct:Value) (us:List Value),us.length=ps.length->bindArgs (PySem.W.fnOf x qual (lO st) (g9 st) (aV st) .none kV doc pm an bo ct) ⟨us,[]⟩=pure (ps.zip us)):Binds K fd ps []:=by
 obtain⟨oc,od,kV,doc,pm,an,bo,ct,jC,rfl,lk,gY⟩:=F.ex;exact .all<|h kV doc pm an bo ct
theorem Nr{x qual:Str}{st:Stmt}{f:Addr}{oc:Value}{od an:Option Addr}{jC:Array (Option Value)}{kV doc pm bo ct:Value}(l:K.lookup f=some ⟨oc,od,.func<|PySem.W.fnOf x qual (lO st) (g9 st) (aV st) .none kV doc pm an bo ct,jC⟩)
  (c:PySem.W.codeIn K bo qual=true) (k:PySem.W.keepIn K (.ref f)=true):bz K x qual st f (PySem.W.fnOf x qual (lO st) (g9 st) (aV st) .none kV doc pm an bo ct):=⟨⟨oc,od,kV,doc,pm,an,bo,ct,jC,rfl,l,c⟩,k⟩
end
section
variable{X:Cx}
end
theorem bN{A B:Prop}(h:B):if false=true then A else B:=by
 rw [BJ As];exact h
theorem bf{A B:Prop}(h:A):if true=true then A else B:=by
 rw [BK rfl];exact h
theorem iE{c A B:Prop} [Decidable c] (h1:c->A) (h2:¬ c->B):if c then A else B:=by
 by_cases h:c
 ·rw [BK h];exact h1 h
 ·rw [BJ h];exact h2 h
def ag(H H':Hp):Prop:=∀ b o,H b=some o->H' b=some o
theorem ag.refl(H:Hp):ag H H:=λ_ _ h=>h
theorem ag.trans{H H1 H2:Hp}(a:ag H H1)(b:ag H1 H2):ag H H2:=λc o h=>b c o<|a c o h
theorem ag.free{H H':Hp}(e:ag H H'){l:Addr}(h:H' l=Option.none):H l=Option.none:=by
 cases q:H l with
 | none=>rfl
 | some o=>
  rw [e l o q] at h;cases h
theorem ag.seq{K:PySem.W.Frag}{H H':Hp}{a:Addr}{xs:List V}(e:ag H H')(h:ak K H a xs):ak K H' a xs:=by
 rcases h with (h | ⟨o,h⟩) | h
 ·exact .inl<|.inl<|e _ _ h
 ·exact .inl<|.inr ⟨o,e _ _ h⟩
 ·exact .inr h
section
variable{κ:Type} [DecidableEq κ]
def aA(kvs:List<|κ×V)(k:κ):Option V:=(kvs.find? λkv=>decide (kv.1=k)).map (·.2)
def putK(kvs:List<|κ×V)(k:κ)(v:V):List (κ×V):=
 if(kvs.any λkv=>decide (kv.1=k))=true then kvs.map (λkv=>if kv.1=k then(kv.1,v) else kv) else kvs++[(k,v)]
theorem hG{p:κ×V}{r:List (κ×V)}{k:κ}(e:p.1=k):aA (p :: r) k=some p.2:=by simp [aA,Fe,e]
theorem hU{p:κ×V}{r:List (κ×V)}{k:κ}(e:¬ p.1=k):aA (p :: r) k=aA r k:=by simp [aA,Fe,e]
theorem pP(k:κ):∀ kvs:List<|κ×V,(kvs.any λkv=>decide (kv.1=k))=(aA kvs k).isSome
 | []=>rfl
 | p :: r=>by
  rw [QB]
  by_cases e:p.1=k
  ·simp only [hG e,CG e,Bool.true_or,Option.isSome_some]
  ·rw [hU e,BX e,Bool.false_or];exact pP k r
theorem D8(k j:κ)(y:V):∀ kvs:List<|κ×V,aA (kvs.map λkv=>if kv.1=k then(kv.1,y) else kv) j=(aA kvs j).map λx=>if j=k then y else x
 | []=>rfl
 | p :: r=>by
  have ih:=D8 k j y r;rw [Bq]
  by_cases h:p.1=k
  ·rw [BK h]
   by_cases e:p.1=j
   ·rw [hG (p:=(p.1,y)) e,hG e,Ff,BK<|e.symm.trans h]
   ·rw [hU (p:=(p.1,y)) e,hU e,ih]
  ·rw [BJ h]
   by_cases e:p.1=j
   ·rw [hG (p:=p) e,hG e,Ff,BJ λz=>h<|e.trans z]
   ·rw [hU (p:=p) e,hU e,ih]
theorem EA(k j:κ)(y:V):∀ kvs:List<|κ×V,aA kvs k=none->aA (kvs++[(k,y)]) j=if j=k then some y else aA kvs j
 | [],_=>by
  by_cases e:k=j
  ·rw [BK e.symm];exact hG (p:=(k,y)) e
  ·rw [BJ λz=>e z.symm];exact hU (p:=(k,y)) e
 | p :: r,hn=>by
  rw [List.cons_append];have hk:¬ p.1=k:=λz=>by rw [hG z] at hn;cases hn
  rw [hU hk] at hn;have ih:=EA k j y r hn
  by_cases e:p.1=j
  ·rw [hG e,hG e,BJ λz=>hk<|e.trans z]
  ·rw [hU e,hU e,ih]
theorem fV(kvs:List<|κ×V)(k j:κ)(y:V):aA (putK kvs k y) j=if j=k then some y else aA kvs j:=by
 unfold putK
 by_cases a:(kvs.any λkv=>decide (kv.1=k))=true
 ·rw [BK a,D8];rw [pP] at a
  by_cases e:j=k
  ·obtain⟨x,hx⟩:=Do.mp a;rw [BK e,e,hx,Ff,BK rfl]
  ·rw [BJ e];cases aA kvs j with
   | none=>rfl
   | some x=>rw [Ff,BJ e]
 ·rw [BJ a];refine EA k j y kvs ?_;rw [pP] at a;cases q:aA kvs k with
  | none=>rfl
  | some x=>rw [q] at a;exact(a rfl).elim
theorem nH(kvs:List<|κ×V)(k:κ)(v:V):(putK kvs k v).length<=kvs.length+1:=by
 unfold putK
 split
 ·rw [Aa];omega
 ·rw [Ae,Ar,Fg];omega
theorem Nu{kvs:List (κ×V)}{k:κ}(v:V)(h:aA kvs k=none):putK kvs k v=kvs++[(k,v)]:=by
 unfold putK;rw [pP,h];exact BJ<|by decide
theorem df.bA{o:Option V}{u:Option Value}(r:df o u):o.isSome=u.isSome:=by
 cases o with
 | none=>cases u with
  | none=>rfl
  | some _=>exact(show False from r).elim
 | some _=>cases u with
  | none=>exact(show False from r).elim
  | some _=>rfl
theorem KV.val{kvs:List (κ×V)}{vs:List (κ×Value)}(r:KV kvs vs)(k:κ):df (aA kvs k) (valueAt vs k):=by
 unfold KV at r
 induction r with
 | nil=>exact True.intro
 | @cons p q ps qs h t ih=>
  obtain⟨h1,h2⟩:=h
  by_cases e:p.1=k
  ·have e':q.1=k:=h1.symm.trans e;have b:valueAt (q :: qs) k=some q.2:=by simp [valueAt,Fe,e']
   rw [hG e,b];exact h2
  ·have e':¬ q.1=k:=λz=>e<|h1.trans z;have b:valueAt (q :: qs) k=valueAt qs k:=by simp [valueAt,Fe,e']
   rw [hU e,b];exact ih
theorem KV.any{kvs:List (κ×V)}{vs:List (κ×Value)}(r:KV kvs vs)(k:κ):(kvs.any λkv=>decide (kv.1=k))=vs.any λkv=>decide (kv.1=k):=by
 unfold KV at r
 induction r with
 | nil=>rfl
 | cons h t ih=>rw [QB,QB,ih,h.1]
theorem KV.repl{kvs:List (κ×V)}{vs:List (κ×Value)}(r:KV kvs vs)(k:κ){y:V}{u:Value}(ry:RelV y u) :
  KV (kvs.map λkv=>if kv.1=k then(kv.1,y) else kv) (vs.map λkv=>if kv.1=k then(kv.1,u) else kv):=by
 unfold KV at r ⊢
 induction r with
 | nil=>exact .nil
 | @cons p q ps qs h t ih=>
  rw [Bq,Bq];refine .cons ?_ ih;obtain⟨h1,h2⟩:=h
  by_cases e:p.1=k
  ·rw [BK e,BK<|h1.symm.trans e];exact⟨h1,ry⟩
  ·rw [BJ e,BJ λz=>e<|h1.trans z];exact⟨h1,h2⟩
theorem KV.put{kvs:List (κ×V)}{vs:List (κ×Value)}(r:KV kvs vs)(k:κ){y:V}{u:Value}(ry:RelV y u):KV (putK kvs k y) (stored vs k u):=by
 unfold putK stored;rw [r.any k]
 by_cases e:(vs.any λkv=>decide (kv.1=k))=true
 ·rw [BK e,BK e];exact r.repl k ry
 ·rw [BJ e,BJ e];exact Paired.snoc r ⟨rfl,ry⟩
theorem KV.keys{kvs:List (κ×V)}{vs:List (κ×Value)}(r:KV kvs vs):kvs.map (·.1)=vs.map (·.1):=by
 unfold KV at r
 induction r with
 | nil=>rfl
 | cons h t ih=>rw [Bq,Bq,ih,h.1]
theorem KV.length{kvs:List (κ×V)}{vs:List (κ×Value)}(r:KV kvs vs):kvs.length=vs.length:=Paired.length r
end
theorem lP{P:Program}{w:World}{k:Key}{u:Value}(r:RelV (kV k) u):(dS P w).is k u=true:=by
 cases k with
 | inl i=>obtain⟨t,e⟩:=(show ∃ t,u=Value.int i t from r);subst e;exact KL P w i t
 | inr x=>obtain⟨t,e⟩:=(show ∃ t,u=Value.str x t from r);subst e;exact KO P w x t
theorem EB{P:Program}{w:World}:∀{ks:List Key} {us:List Value},aq (ks.map kV) us->ItemsAre (dS P w) ks us
 | [],_,r=>by rw [Gb] at r;cases r;exact .nil
 | k :: ks,_,r=>by
  rw [Bq] at r;cases r with
  | cons h t=>exact .cons (lP h)<|EB t
abbrev KT(H:Hp):List (List Key×V)->List (List Key×Addr×Value)->Prop:=Paired λp q=>p.1=q.1/\H q.2.1=some (.tup<|p.1.map kV)/\RelV p.2 q.2.2
theorem KT.val{H:Hp}{kvs:List (List Key×V)}{xs:List (List Key×Addr×Value)}(r:KT H kvs xs)(k:List Key):df (aA kvs k) ((atKey xs k).map (·.2)):=by
 induction r with
 | nil=>exact True.intro
 | @cons p q ps qs h t ih=>
  obtain⟨h1,_,h2⟩:=h
  by_cases e:p.1=k
  ·have e':q.1=k:=h1.symm.trans e;have b:atKey (q :: qs) k=some q.2:=by simp [atKey,Fe,e']
   rw [hG e,b];exact h2
  ·have e':¬ q.1=k:=λz=>e<|h1.trans z;have b:atKey (q :: qs) k=atKey qs k:=by simp [atKey,Fe,e']
   rw [hU e,b];exact ih
theorem KT.repl{H:Hp}{kvs:List (List Key×V)}{xs:List (List Key×Addr×Value)}(r:KT H kvs xs)(k:List Key){y:V}{u:Value}(ry:RelV y u) :
  KT H (kvs.map λkv=>if kv.1=k then(kv.1,y) else kv) (xs.map<|putAt k u):=by
 induction r with
 | nil=>exact .nil
 | @cons p q ps qs h t ih=>
  rw [Bq,Bq];refine .cons ?_ ih;obtain⟨h1,h2,h3⟩:=h;unfold putAt
  by_cases e:p.1=k
  ·rw [BK e,BK<|h1.symm.trans e];exact⟨h1,h2,ry⟩
  ·rw [BJ e,BJ λz=>e<|h1.trans z];exact⟨h1,h2,h3⟩
theorem KT.put{H:Hp}{kvs:List (List Key×V)}{xs:List (List Key×Addr×Value)}(r:KT H kvs xs)(k:List Key){b:Addr}{y:V}{u:Value}(hb:H b=some (.tup<|k.map kV))(ry:RelV y u) :
  KT H (putK kvs k y) (storedH xs k b u):=by
 have e:(kvs.any λkv=>decide (kv.1=k))=(atKey xs k).isSome:=by
  rw [pP,(r.val k).bA,JM]
 unfold putK storedH;rw [e]
 by_cases q:(atKey xs k).isSome=true
 ·rw [BK q,BK q];exact r.repl k ry
 ·rw [BJ q,BJ q];exact Paired.snoc r ⟨rfl,hb,ry⟩
theorem KT.keeps{H H':Hp}{kvs:List (List Key×V)}{xs:List (List Key×Addr×Value)}(r:KT H kvs xs)(ht:∀ b ys,H b=some (.tup ys)->H' b=some (.tup ys)):KT H' kvs xs:=
 Paired.k8 r λ_ _ z=>⟨z.1,ht _ _ z.2.1,z.2.2⟩
section
variable{P:Program}{w:World}{H:Hp}{h:Heap}{a:Addr}
theorem EC{u:HO}(ok:cf P w H h)(e:Rd H a u):ax P w H h a u:=e.ok ok
theorem nI{kvs:List (Key×V)}(ok:cf P w H h)(e:Rd H a<|.dK kvs):kvs.length<=sizeLine/\(a == sysModules)=false/\∃ vs,KV kvs vs/\h.DictOf (dS P w) a vs:=
 show ax P w H h a (.dK kvs) from EC ok e
theorem pQ{kvs:List (Key×V)}(ok:cf P w H h)(e:H a=some (.dK kvs)):kvs.length<=sizeLine/\(a == sysModules)=false/\∃ vs,KV kvs vs/\h.DictOf (dS P w) a vs:=nI ok<|.inl e
theorem nJ{ks:List Key}(ok:cf P w H h)(e:H a=some (.tup<|ks.map kV)):(tupleKind<|dS P w).is h ks a:=by
 obtain⟨_,its,r,o,h1,h2,n,h3⟩:=(show ax P w H h a (.tup<|ks.map kV) from ok a _ e);exact⟨o,its.toArray,n,h1,h2,h3,by simpa using EB r⟩
theorem pR{kvs:List (List Key×V)}(ok:cf P w H h)(e:Rd H a<|.dT kvs):kvs.length<=sizeLine/\(a == sysModules)=false /\
  ∃ xs,KT H kvs xs/\h.DictOfH (tupleKind<|dS P w) a xs:=by
 obtain⟨z,y,xs,r,o,es,ep,h1,h2,h3,h4,h5⟩:=(show ax P w H h a (.dT kvs) from EC ok e);refine⟨z,y,xs,r,o,es,ep,h1,h2,h3,h4,λx hx=>?_,h5⟩;have all:∀{l:List (List Key×V)} {m:List (List Key×Addr×Value)},KT H l m->∀ x∈m,(tupleKind<|dS P w).is h x.1 x.2.1:=by
  intro l m q
  induction q with
  | nil=>intro x hx;exact nomatch hx
  | @cons p q ps qs hq t ih=>
   intro x hx
   rcases Ax.mp hx with e | hx
   ·subst e;exact nJ ok<|by rw [<- hq.1];exact hq.2.1
   ·exact ih x hx
 exact all r x hx
theorem ED{kvs:List (List Key×V)}(ok:cf P w H h)(e:H a=some (.dT kvs)):kvs.length<=sizeLine/\(a == sysModules)=false /\
  ∃ xs,KT H kvs xs/\h.DictOfH (tupleKind<|dS P w) a xs:=pR ok<|.inl e
end
def bO(H:Hp)(a:Addr)(y:V)(r:Option V):Prop:=
 (∃ kvs k,Rd H a (.dK kvs)/\y=kV k/\r=aA kvs k)\/∃ kvs k b,Rd H a (.dT kvs)/\y = .ref b/\H b=some (.tup<|k.map kV)/\r=aA kvs k
def cQ(H:Hp)(a:Addr)(y v:V)(H':Hp):Prop:=
 (∃ kvs k,H a=some (.dK kvs)/\y=kV k/\kvs.length < sizeLine/\H'=upd H a (.dK<|putK kvs k v)) \/
 ∃ kvs k b,H a=some (.dT kvs)/\y = .ref b/\H b=some (.tup<|k.map kV)/\kvs.length < sizeLine/\H'=upd H a (.dT<|putK kvs k v)
theorem bO.k{H:Hp}{a:Addr}{kvs:List (Key×V)}{k:Key}(e:H a=some (.dK kvs)):bO H a (kV k) (aA kvs k):= .inl ⟨kvs,k,.inl e,rfl,rfl⟩
theorem cQ.k{H:Hp}{a:Addr}{kvs:List (Key×V)}{k:Key}{v:V}(e:H a=some (.dK kvs))(hl:kvs.length < sizeLine):cQ H a (kV k) v (upd H a<|.dK<|putK kvs k v):= .inl ⟨kvs,k,e,rfl,hl,rfl⟩
section
variable{X:Cx}{pins:List (Addr×Obj)}{σ:St}{H:Hp}{s:Shared}{a:Addr}{y v:V}{u r:Value}{o:Option V}{A:Around}{E:Value->Shared->Prop}
theorem Inv.big(I:Inv X pins σ H s):sysModules < s.heap.objs.size:=by
 have h:mainGlobals < s.heap.objs.size:=(I.mod.glob.keeps I.bk).lt;exact Nat.lt_trans (by decide) h
theorem Nv{Q:Value->Shared->Prop}(hu:A.units+1 < cLine)(I:Inv X pins σ H s)(g:bO H a y<|some v)(ry:RelV y u)(h:∀ w' s',Inv X pins σ H s'->RelV v w'->Q w' s') :
  wpAny (model X.prog X.w) A (getItem (.ref a) u) Q E s:=by
 rcases g with ⟨kvs,k,e,ey,l⟩ | ⟨kvs,k,b,e,ey,eb,l⟩
 ·subst ey;obtain⟨z,hd,vs,rel,dd⟩:=nI I.aB e;obtain⟨w',hw,dP⟩:=df.some_of (v:=v) (o:=valueAt vs k) (by rw [l];exact rel.val k);exact wpAny_getItem_of (lP ry) dd.mapOf hw<|h w' _ (I.tok _) dP
 ·subst ey;cases (show u=Value.ref b from ry);obtain⟨z,hd,xs,rel,dd⟩:=pR I.aB e;obtain⟨w',hw,dP⟩:=df.some_of (v:=v) (o:=(atKey xs k).map (·.2)) (by rw [l];exact rel.val k);obtain⟨p,hp,fC⟩:=Ap.mp hw;refine wpAny_getItem_heap (HS hu) (nJ I.aB eb) dd hp ?_;rw [fC];exact h w' _ (I.tok _) dP
theorem wK{Q:Value->Shared->Prop}(hu:A.units+1 < cLine)(I:Inv X pins σ H s)(g:bO H a y o)(ry:RelV y u)(h:∀ s',Inv X pins σ H s'->Q (.bool o.isSome) s') :
  wpAny (model X.prog X.w) A (compareOp .In u<|.ref a) Q E s:=by
 rcases g with ⟨kvs,k,e,ey,l⟩ | ⟨kvs,k,b,e,ey,eb,l⟩
 ·subst ey;obtain⟨z,hd,vs,rel,dd⟩:=nI I.aB e;refine wpAny_in_of (lP ry) hd dd.mapOf ?_;rw [<- (rel.val k).bA,<- l];exact h _<|I.tok _
 ·subst ey;cases (show u=Value.ref b from ry);obtain⟨z,hd,xs,rel,dd⟩:=pR I.aB e;refine wpAny_in_heap (HS hu) (nJ I.aB eb) hd dd ?_;have q:=(rel.val k).bA;rw [JM] at q;rw [<- q,<- l];exact h _<|I.tok _
theorem Nw{Q:Value->Shared->Prop}(hu:A.units+1 < cLine)(I:Inv X pins σ H s)(g:bO H a y o)(ry:RelV y u)(h:∀ s',Inv X pins σ H s'->Q (.bool (!o.isSome)) s') :
  wpAny (model X.prog X.w) A (compareOp .NotIn u<|.ref a) Q E s:=by
 rcases g with ⟨kvs,k,e,ey,l⟩ | ⟨kvs,k,b,e,ey,eb,l⟩
 ·subst ey;obtain⟨z,hd,vs,rel,dd⟩:=nI I.aB e;refine wpAny_notIn_of (lP ry) hd dd.mapOf ?_;rw [<- (rel.val k).bA,<- l];exact h _<|I.tok _
 ·subst ey;cases (show u=Value.ref b from ry);obtain⟨z,hd,xs,rel,dd⟩:=pR I.aB e;refine wpAny_notIn_heap (HS hu) (nJ I.aB eb) hd dd ?_;have q:=(rel.val k).bA;rw [JM] at q;rw [<- q,<- l];exact h _<|I.tok _
theorem nK{h':Heap}{t':Nat}{ob:HO}(I:Inv X pins σ H s)(mu:oV<|H a)(hs:Heap.SameBut a s.heap h')(he:∃ q,h'.get? a=some q)(new:ax X.prog X.w (upd H a ob) h' a ob) :
  Inv X pins σ (upd H a ob) {s with heap:=h',toks:=t'}:=
 I.write (x:=a) (e:=a) mu (.inl rfl) (λb q hb z=>(hs.2 b hb).trans z) he new
theorem wL{P:Program}{w:World}{H':Hp}{h':Heap}{kvs:List (Key×V)}{vs:List (Key×Value)}(z:kvs.length<=sizeLine)(hd:(a == sysModules)=false)(rel:KV kvs vs)(dd:h'.DictOf (dS P w) a vs) :
  ax P w H' h' a (.dK kvs):=⟨z,hd,vs,rel,dd⟩
theorem Nx{H':Hp}{Q:Unit->Shared->Prop}(hu:A.units+1 < cLine)(I:Inv X pins σ H s)(g:cQ H a y v H')(ry:RelV y u)(rv:RelV v r)(h:∀ s',Inv X pins σ H' s'->Q () s') :
  wpAny (model X.prog X.w) A (setItem (.ref a) u r) Q E s:=by
 rcases g with ⟨kvs,k,e,ey,l,eH⟩ | ⟨kvs,k,b,e,ey,eb,l,eH⟩
 ·subst ey eH;obtain⟨z,hd,vs,rel,dd⟩:=pQ I.aB e;have hz:vs.length<=sizeLine:=by rw [<- rel.length];exact z
  have hl:(putK kvs k v).length<=sizeLine:=by have:=nH kvs k v;omega
  refine wpAny_setItem_pairs (hsz:=hz) (lP ry) dd λh' hW hs=>h _ ?_;have he:∃ q,h'.get? a=some q:=let ⟨q,_,_,hq,_⟩:=hW;⟨q,hq⟩
  exact nK I (by rw [e];exact True.intro) hs he<|wL hl hd (rel.put k rv) hW
 ·subst ey eH;cases (show u=Value.ref b from ry);obtain⟨z,hd,xs,rel,dd⟩:=ED I.aB e;have hz:xs.length<=sizeLine:=by rw [<- Paired.length rel];exact z
  have hl:(putK kvs k v).length<=sizeLine:=by have:=nH kvs k v;omega
  refine wpAny_setItem_heap (hsz:=hz) (HS hu) (nJ I.aB eb) dd λh' hW hs=>h _ ?_;obtain⟨q,es,ep,hq,h2,h3,h4,_,h5⟩:=hW;refine nK I (by rw [e];exact True.intro) hs ⟨q,hq⟩ ⟨hl,hd,_,(rel.put k eb rv).keeps λc ys ec=>?_,q,es,ep,hq,h2,h3,h4,h5⟩;rw [av<|en ec e λz=>nomatch z];exact ec
end
section
variable{X:Cx}{pins:List (Addr×Obj)}{σ:St}{H:Hp}{s:Shared}{a:Addr}{kvs:List (Key×V)}{k:Key}{u:Value}{A:Around}{E:Value->Shared->Prop}
end
def lQ(i:Expr):Prop:=∀ ov iv,subscripted i false ov iv=operate [ov,iv] (getItem ov iv)
theorem Ny{prog:Program}{w:World}{A:Around}{E:Value->Shared->Prop}{s:Shared}{env:Env}{value slice:Expr}{pos:Pos}{T id:String}{Q:Value->Shared->Prop}
  (hl:typeLookup (.type T) "__getitem__" = pure (some<|.builtin id)) (hs:lQ slice)
  (h:wpAny (model prog w) A (eval value env) (λo s₁=>wpAny (model prog w) A (eval slice env) (λi s₂=>s₂.TypeIs o T/\wpAny (model prog w) A (getItem o i) Q E s₂) E s₁) E s) :
  wpAny (model prog w) A (eval (.Subscript value slice pos) env) Q E s:=by
 refine Subscript_<|CP h (λo s₁ h₁=>CP h₁ (λi s₂ h₂=>?_) λ_ _ x=>x) λ_ _ x=>x;obtain⟨hT,h₂⟩:=h₂;unfold subscriptTail;refine BL ?_;rw [getitemInPython_of_ne hT.not_modules];refine BL<|wpAny_specialOf hT hl ?_;have fin:wpAny (model prog w) A (subscripted slice false o i) (λr s₃=>wpAny (model prog w) A (letTemporaryGo value o r >>= λ_=>pure r) Q E s₃) E s₂:=by
  rw [hs o i];exact wpAny_operating<|CP h₂ (λr s₃ h₃=>BL<|wpAny_letTemporaryGo<|BW h₃) λ_ _ x=>x
 first
  | exact BW<|BL fin
  | exact BL<|BW<|BL fin
  | exact BL fin
theorem Nz{X:Cx}{pins:List (Addr×Obj)}{σ:St}{H:Hp}{s:Shared}{a:Addr}{y:V}{o:Option V}(I:Inv X pins σ H s)(g:bO H a y o):s.TypeIs (.ref a) "dict":=by
 rcases g with ⟨kvs,k,e,_,_⟩ | ⟨kvs,k,b,e,_,_,_⟩
 ·obtain⟨_,_,vs,_,dd⟩:=nI I.aB e;exact dd.typeIs
 ·obtain⟨_,_,xs,_,dd⟩:=pR I.aB e;exact dd.typeIs
def NA(td ty:TE):TE:=λσ H Q=>td σ H λx H1=>ty σ H1 λy H2=>∃ a v,x = .ref a/\bO H2 a y (some v)/\Q v H2
def wM(ty td:TE):TE:=λσ H Q=>ty σ H λy H1=>td σ H1 λx H2=>∃ a o,x = .ref a/\bO H2 a y o/\Q (.bl o.isSome) H2
def ND(ty td:TE):TE:=λσ H Q=>ty σ H λy H1=>td σ H1 λx H2=>∃ a o,x = .ref a/\bO H2 a y o/\Q (.bl (!o.isSome)) H2
def NI(td ty tv:TE):TS:=λD σ H=>tv σ H λv H1=>td σ H1 λx H2=>ty σ H2 λy H3=>∃ a H4,x = .ref a/\cQ H3 a y v H4/\D.nx σ H4
section
variable{X:Cx}{o i e value:Expr}{pos pos' iA:Pos}{td ty tv:TE}
theorem NM(hu:X.A.units+1 < cLine)(ho:PE X o td)(hi:PE X i ty)(hs:lQ i):PE X (.Subscript o i pos) (NA td ty):=by
 intro pins s σ H Q I h;refine Ny PySem.F.slot_dict_getitem.lookup hs<|aD (ho pins s σ H _ I h) λu s1 ⟨x,H1,I1,rx,q1⟩=>aD (hi pins s1 σ H1 _ I1 q1) λiv s2 ⟨y,H2,I2,ry,a,v,ex,g,q2⟩=>?_;subst ex;obtain rfl:u=Value.ref a:=rx;exact⟨Nz I2 g,Nv hu I2 g ry λw' s3 I3 dP=>⟨v,H2,I3,dP,q2⟩⟩
theorem NR(hu:X.A.units+1 < cLine)(hi:PE X i ty)(ho:PE X o td):PC X .In i o (wM ty td):=by
 intro pins s σ H Q I h;refine aD (hi pins s σ H _ I h) λiv s1 ⟨y,H1,I1,ry,q1⟩=>aD (ho pins s1 σ H1 _ I1 q1) λu s2 ⟨x,H2,I2,rx,a,ov,ex,g,q2⟩=>?_;subst ex;obtain rfl:u=Value.ref a:=rx;exact wK hu I2 g ry λs3 I3=>⟨.bl ov.isSome,H2,I3,rfl,q2⟩
theorem NU(hu:X.A.units+1 < cLine)(hi:PE X i ty)(ho:PE X o td):PC X .NotIn i o (ND ty td):=by
 intro pins s σ H Q I h;refine aD (hi pins s σ H _ I h) λiv s1 ⟨y,H1,I1,ry,q1⟩=>aD (ho pins s1 σ H1 _ I1 q1) λu s2 ⟨x,H2,I2,rx,a,ov,ex,g,q2⟩=>?_;subst ex;obtain rfl:u=Value.ref a:=rx;exact Nw hu I2 g ry λs3 I3=>⟨.bl (!ov.isSome),H2,I3,rfl,q2⟩
theorem NV(hu:X.A.units+1 < cLine)(ho:PE X o td)(hi:PE X i ty)(hv:PE X value tv)(hs:swapsWith value (some<|.Subscript o i pos') pos.line X.env=pure false) :
  PS X (.Assign [.Subscript o i pos'] value pos) (NI td ty tv):=by
 intro pins s σ H D I h;refine wpAny_Assign_Subscript (aD (hv pins s σ H _ I h) λr s1 ⟨v,H1,I1,rv,q1⟩=>aD (ho pins s1 σ H1 _ I1 q1) λu s2 ⟨x,H2,I2,rx,q2⟩=>aD (hi pins s2 σ H2 _ I2 q2) λiv s3 ⟨y,H3,I3,ry,a,H4,ex,g,q3⟩=>?_) hs;subst ex;obtain rfl:u=Value.ref a:=rx;exact Nx hu I3 g ry rv λs4 I4=>⟨σ,H4,I4,q3⟩
end
theorem wN{P:Program}{w:World}{H:Hp}(h:Heap)(hb:sysModules < h.objs.size):ax P w H (h.push {cls:= .type "dict",data:= .dict #[]}) h.objs.size (.dK []):=
 ⟨Br _,beq_eq_false_iff_ne.mpr<|Ne.symm<|Cu hb,[],.nil,Heap.DictOf.new h⟩
theorem NW{P:Program}{w:World}{H:Hp}(h:Heap)(hb:sysModules < h.objs.size):ax P w H (h.push {cls:= .type "dict",data:= .dict #[]}) h.objs.size (.dT []):=
 ⟨Br _,beq_eq_false_iff_ne.mpr<|Ne.symm<|Cu hb,[],.nil,_,#[],0,Bp _ rfl,⟨rfl,rfl,rfl⟩,rfl,rfl,Dg⟩
def NX:TE:=λ_ H Q=>∀ p,H p=none->Q (.ref p) (upd H p<|.dK [])
section
variable{X:Cx}{pos:Pos}
theorem NY:PE X (.Dict [] [] pos) NX:=λpins s σ H Q I h=>
 wpAny_Dict_empty ⟨.ref s.heap.objs.size,_,I.laid (a:=s.heap.objs.size) (o:= .dK []) (t':=s.toks) (λ_ _ q=>Ai _ q) (Ah _)<|wN s.heap I.big,rfl,h _<|I.aB.fresh<|Ah _⟩
end
section
variable{X:Cx}{pins:List (Addr×Obj)}{σ:St}{H:Hp}{s:Shared}{a:Addr}{y d:V}{u r:Value}{o:Option V}{A:Around}{E:Value->Shared->Prop}
end
section
variable{X:Cx}{o e f:Expr}{apos dj:Pos}{td ty tx:TE}
end
section
variable{X:Cx}{pins:List (Addr×Obj)}{σ:St}{H:Hp}{s:Shared}{a:Addr}{kvs:List (Key×V)}{A:Around}{E:Value->Shared->Prop}
end
section
variable{X:Cx}{pins:List (Addr×Obj)}{σ:St}{H:Hp}{s:Shared}{a:Addr}{y:V}{u:Value}{A:Around}{E:Value->Shared->Prop}
end
section
variable{X:Cx}
end
section
variable{κ:Type} [DecidableEq κ]
theorem kq:∀{l:List κ} {k:κ},l.Nodup->¬ k∈l->(l++[k]).Nodup
 | [],k,_,_=>by simp
 | a :: r,k,h,hk=>by
  obtain⟨h1,h2⟩:=Cc.mp h;show(a :: (r++[k])).Nodup;refine Cc.mpr ⟨λm=>?_,kq h2 λm=>hk<|Ax.mpr<|Or.inr m⟩
  rcases Al.mp m with q | q
  ·exact h1 q
  ·exact hk<|Ax.mpr<|Or.inl (Af.mp q).symm
end
section
variable{X:Cx}{tg:Expr}
end
theorem EE{env:Env}:∀{names:List (Str×NameKind)} {x:Str} {k':NameKind},
  (names.map λ(n,k)=>if(k == NameKind.free && env.scope.kind == .function && env.kindOf n == some .cell) then(n,NameKind.cell) else(n,k)).lookup x=some k' ->
  ∃ k,names.lookup x=some k/\(k'=k\/(k = .free/\k' = .cell))
 | [],_,_,h=>by simp at h
 | (n,k) :: r,x,k',h=>by
  have ih:=@EE env r x k'
  change List.lookup x ((if(k == NameKind.free && env.scope.kind == .function && env.kindOf n == some .cell)=true then(n,NameKind.cell) else(n,k)) :: _)=_ at h
  cases hx:x == n with
  | true=>
   by_cases hc:(k == NameKind.free && env.scope.kind == .function && env.kindOf n == some .cell)=true
   ·rw [BK hc] at h;simp only [Dc,hx] at h;cases h;have hk:k = .free:=by
     have:=(Cn _ _ ▸ (Cn _ _ ▸ hc).1).1;cases k <;> first | rfl | (exact absurd this<|by decide)
    exact⟨k,by simp [Dc,hx],.inr ⟨hk,rfl⟩⟩
   ·rw [BJ hc] at h;simp only [Dc,hx] at h;cases h;exact⟨k,by simp [Dc,hx],.inl rfl⟩
  | false=>
   have h2:∃ k,r.lookup x=some k/\(k'=k\/(k = .free/\k' = .cell)):=by
    by_cases hc:(k == NameKind.free && env.scope.kind == .function && env.kindOf n == some .cell)=true
    ·rw [BK hc] at h;simp only [Dc,hx] at h;exact ih h
    ·rw [BJ hc] at h;simp only [Dc,hx] at h;exact ih h
   obtain⟨k2,e2,r2⟩:=h2;exact⟨k2,by simp [Dc,hx,e2],r2⟩
def cg(names:List<|Str×NameKind)(cells:List<|Str×Addr)(acc:List<|Str×Addr):List (Str×Addr):=
 names.foldl (λa x=>if x.2 == .free then(match cells.lookup x.1 with | some c=>(x.1,c) :: a | none=>a) else a) acc
theorem tH{scope:Scope}{env:Env}(h:∀ x∈scope.names,x.2 = .free->∃ c,env.cells.lookup x.1=some c):closureFor scope env=pure (cg scope.names env.cells []):=by
 have all:∀(l:List<|Str×NameKind) (acc:List<|Str×Addr),(∀ x∈l,x.2 = .free->∃ c,env.cells.lookup x.1=some c) ->
   (forIn l acc λ(x:Str×NameKind) (cs:List<|Str×Addr)=>(if x.2 == .free then(do let c <- cellOf env x.1;pure (ForInStep.yield<|(x.1,c) :: cs)) else pure (ForInStep.yield cs):Sem _))=pure (cg l env.cells acc):=by
  intro l
  induction l with
  | nil=>intro acc _;rfl
  | cons x r ih=>
   intro acc hl;rw [Go];have hr:∀ y∈r,y.2 = .free->∃ c,env.cells.lookup y.1=some c:=λy hy=>hl y<|Aq _ hy;cases hk:x.2 == .free with
   | true=>
    have lR:x.2 = .free:=by
     revert hk
     cases x.2 <;> intro hk <;> first | rfl | (exact absurd hk<|by decide)
    obtain⟨c,hc⟩:=hl x Ak lR;simp only [DP,cellOf,hc];rw [show cg (x :: r) env.cells acc=cg r env.cells ((x.1,c) :: acc) by unfold cg;rw [Gp];simp [hk,hc]];exact ih _ hr
   | false=>
    simp only [Ck,DN];rw [show cg (x :: r) env.cells acc=cg r env.cells acc by unfold cg;rw [Gp];simp [hk]];exact ih _ hr
 have q:=all scope.names [] h;simp only [closureFor];exact(BZ (· >>= λr=>pure r) q).trans rfl
theorem wO:∀(names:List<|Str×NameKind) (cells acc:List<|Str×Addr),(∀ x c,(x,c)∈acc->cells.lookup x=some c)->∀ x c,(x,c)∈cg names cells acc->cells.lookup x=some c
 | [],_,_,h=>h
 | y :: r,cells,acc,h=>by
  have e:cg (y :: r) cells acc=cg r cells (if y.2 == .free then(match cells.lookup y.1 with | some c=>(y.1,c) :: acc | none=>acc) else acc):=rfl;rw [e];refine wO r cells _ ?_;cases hk:y.2 == .free with
  | false=>simpa using h
  | true=>
   cases hc:cells.lookup y.1 with
   | none=>simpa using h
   | some c=>
    intro x d hx;simp only [DP] at hx
    rcases Ax.mp hx with e | hx
    ·cases e;exact hc
    ·exact h x d hx
theorem EF:∀(names:List<|Str×NameKind) (cells acc:List<|Str×Addr) (x:Str) (c:Addr),(x,c)∈acc->(x,c)∈cg names cells acc
 | [],_,_,_,_,h=>h
 | y :: r,cells,acc,x,c,h=>by
  have e:cg (y :: r) cells acc=cg r cells (if y.2 == .free then(match cells.lookup y.1 with | some c=>(y.1,c) :: acc | none=>acc) else acc):=rfl;rw [e];refine EF r cells _ x c ?_;cases hk:y.2 == .free with
  | false=>simpa using h
  | true=>
   cases hc:cells.lookup y.1 with
   | none=>simpa using h
   | some d=>simp only [DP];exact Aq _ h
theorem wQ:∀(names:List<|Str×NameKind) (cells acc:List<|Str×Addr) (x:Str) (c:Addr),(x,NameKind.free)∈names->cells.lookup x=some c->(x,c)∈cg names cells acc
 | [],_,_,_,_,h,_=>by cases h
 | y :: r,cells,acc,x,c,h,hc=>by
  have e:cg (y :: r) cells acc=cg r cells (if y.2 == .free then(match cells.lookup y.1 with | some c=>(y.1,c) :: acc | none=>acc) else acc):=rfl;rw [e]
  rcases Ax.mp h with e2 | h
  ·subst e2;refine EF r cells _ x c ?_;have:(NameKind.free == NameKind.free)=true:=rfl;simp only [hc,this,DP];exact Ak
  ·exact wQ r cells _ x c h hc
theorem wR{α:Type}:∀{l:List (Str×α)} {x:Str} {c:α},(x,c)∈l->∃ d,l.lookup x=some d
 | [],_,_,h=>by cases h
 | (n,d) :: r,x,c,h=>by
  cases hx:x == n with
  | true=>exact⟨d,by simp [Dc,hx]⟩
  | false=>
   rcases Ax.mp h with e | h
   ·cases e;simp at hx
   ·obtain⟨d',e⟩:=wR h;exact⟨d',by simp [Dc,hx,e]⟩
section
variable{prog:Program}{w:World}{A:Around}{R:Result->Shared->Prop}{s:Shared}
theorem VS{elt target iter:Expr}{ifs:List Expr}{scope:Scope}{pos:Pos}{it acc:Value}{env:Env}(I:Nat->Shared->Prop)
  (turn : ∀ n s, I n s → wpAny (model prog w) A (pyNext it) (λr s₁ => match r with
   | none=>R (.ok .next) s₁
   | some v=>wpAny (model prog w) A (letOwnedTupleGo target it v) (λ_ s₁'=>wpAny (model prog w) A (assign target env v) (λ_ s₂=>
     wpAny (model prog w) A (forIn ifs true λc r=>if r=true then do let ok <- isTrue c env<|eval c env;pure (ForInStep.yield ok) else pure (ForInStep.yield r)) (λok s₃=>
      if ok=true then wpAny (model prog w) A (eval elt env) (λx s₄=>
       wpAny (model prog w) A (call (.builtin "list.append") [acc,x]) (λ_ s₅=>∃ m,m < n/\I m s₅) (notedBy (model prog w) A env λe s'=>R (.error e) s') s₄) (notedBy (model prog w) A env λe s'=>R (.error e) s') s₃
      else ∃ m,m < n/\I m s₃) (notedBy (model prog w) A env λe s'=>R (.error e) s') s₂) (notedBy (model prog w) A env λe s'=>R (.error e) s') s₁') (notedBy (model prog w) A env λe s'=>R (.error e) s') s₁) (notedBy (model prog w) A env λe s'=>R (.error e) s') s)
  (n:Nat) (h:I n s) :
  codeAny (model prog w) A (.compLoop (.ListComp elt [⟨target,iter,ifs,0⟩] scope pos) 0 it acc env) R s:=by
 refine codeAny_loop rfl I (λn s hI=>?_) n h;show wpAny _ A ((compTurn (.ListComp elt [⟨target,iter,ifs,0⟩] scope pos) 0 it acc env).onRaise λx=>do noteFrame x env;theTreesLotGoes x) _ _ s;refine wpAny_noted ?_;rw [compTurn_list];refine BL<|GJ<|BL<|CP (turn n s hI) (λr s₁ h₁=>?_) λ_ _ h'=>h';cases r with
 | none=>exact BW h₁
 | some v=>
  refine BL<|CP h₁ (λ_ s₁' h₁'=>?_) λ_ _ h'=>h';refine BL<|CP h₁' (λ_ s₂ h₂=>BL<|CP h₂ (λok s₃ h₃=>?_) λ_ _ h'=>h') λ_ _ h'=>h';cases ok with
  | false=>exact BW ⟨rfl,h₃⟩
  | true=>
   exact BL<|BL<|CP h₃ (λx s₄ h₄=>BL<|CP h₄ (λ_ s₅ h₅=>BW<|BW ⟨rfl,h₅⟩) λ_ _ h'=>h') λ_ _ h'=>h'
end
def EG(X:Cx)(ifs:List Expr)(t:TT):Prop:=
 ∀(pins:List<|Addr×Obj) (s:Shared) (σ:St) (H:Hp) (Q:Bool->Hp->Prop),Inv X pins σ H s->t σ H Q ->
  wpAny (model X.prog X.w) X.A (forIn ifs true λc r=>if r=true then do let ok <- isTrue c X.env<|eval c X.env;pure (ForInStep.yield ok) else pure (ForInStep.yield r)) (TP X pins σ Q) X.xe s
def wU:TT:=λ_ H Q=>Q true H
theorem N0{X:Cx}:EG X [] wU:=λ_ _ _ H _ I h=>wpAny_tests_nil ⟨H,I,h⟩
theorem N2{X:Cx}{c:Expr}{t:TT}(h:PT X c t):EG X [c] t:=λpins s σ H Q I hq=>wpAny_tests_one<|h pins s σ H Q I hq
def fW(X:Cx)(N':List Str)(scope:Scope)(cl:List<|Str×Addr)(C:Addr)(s₀:Shared)(H₀:Hp)(ex:List Addr):Cx:=
 {prog:=X.prog,w:=X.w,K:=X.K,mg:=X.mg,base:=X.base,A:=X.A,N:=N',s₀:=s₀,H₀:=H₀,env:=compEnvC scope cl C X.env,outer:=X.stack,stack:=X.stack,ex:=ex,fn:=λx=>match scope.names.lookup x with | some .cell=>true | _=>false,calm:=X.calm,pn:=[],xe:=λ_ _=>False}
theorem gG{α:Type}{t:Sem α}{Q Q':α->Shared->Prop}{M:Model}{A:Around}{E:Value->Shared->Prop}{s:Shared}(h:wpAny M A t Q (λ_ _=>False) s)(hQ:∀ a s,Q a s->Q' a s):wpAny M A t Q' E s:=CP h hQ λ_ _ z=>z.elim
section
variable{X:Cx}
theorem wV:fq X (.builtin "isinstance") (λxs H Q=>∃ x t T b,xs=[x,.ty T]/\cP X.K H x t/\PySem.W.kitOne X.K t (.type T)=some b/\Q (.bl b) H):=by
 intro pins s σ H xs us Q I r h;obtain⟨x,t,T,b,rfl,ty,e,q⟩:=h;obtain⟨u,w',rfl,ru,dP⟩:=vals2 r;cases (show w'=Value.type T from dP);exact Mt I ru ty e λtk=>⟨.bl b,H,I.tok tk,rfl,q⟩
theorem N3:cO X (binaryOp .Mult) (λx y H Q=>∃ z i,x = .str z/\y = .int i/\0<=i/\i<=100000/\z.length * i.toNat<=100000/\Q (.str<|Txt.mul z i) H):=by
 intro pins s σ H x y v u Q I rx ry h;obtain⟨z,i,rfl,rfl,h0,h1,h2,q⟩:=h;obtain⟨t,rfl⟩:=rx;obtain⟨t',rfl⟩:=ry;have hsz:sizeLine=16777216:=DQ;refine SB.mul ⟨?_,λh3 h4=>?_,λh3 h4=>?_⟩ λt' k=>⟨.str _,H,I.tok k,⟨_,rfl⟩,q⟩
 ·rw [BX (by omega),BX<|by omega];rfl
 ·have h5:(z.length:Int)<=100000:=by
   have h6:z.length * 1<=z.length * i.toNat:=Nat.mul_le_mul_left _ (by omega);omega
  have h7:(100000:Int)<=(2 ^ 63 - 1) / i:=by
   rw [Int.le_ediv_iff_mul_le<|by omega];have:(100000:Int) * i<=100000 * 100000:=Int.mul_le_mul_of_nonneg_left h1 (by decide);have e:(2:Int) ^ 63 - 1=9223372036854775807:=by decide
   omega
  omega
 ·unfold Builtin.Str.tooLong;rw [hsz];exact BX<|by omega
end
def isStar:Expr->Bool
 | .Starred _ _=>true
 | _=>false
def noStar(es:List Expr):Bool:=es.all λe=>!isStar e
theorem jI(e:Expr)(es:List Expr)(env:Env)(h:isStar e=false):starEach (e :: es) env=(false,eval e env) :: starEach es env:=by
 cases e <;> first | rfl | (exact absurd h<|by simp [isStar])
theorem tI(pos:Pos)(env:Env):∀ es:List Expr,noStar es=true->(backTo pos<|starEach es env).any (·.1)=false
 | [],_=>rfl
 | e :: es,h=>by
  have h':(!isStar e)=true/\noStar es=true:=by
   have:=h;unfold noStar at this ⊢;rw [List.all_cons,Cn] at this;exact this
  have hs:isStar e=false:=by
   have:=h'.1;cases q:isStar e with
   | true=>rw [q] at this;cases this
   | false=>rfl
  rw [jI e es env hs];show(false || (backTo pos<|starEach es env).any (·.1))=false;rw [tI pos env es h'.2];rfl
theorem nL{e:Expr}{es:List Expr}(h:noStar (e :: es)=true):isStar e=false/\noStar es=true:=by
 unfold noStar at h ⊢;rw [List.all_cons,Cn] at h;refine⟨?_,h.2⟩;cases q:isStar e with
 | true=>rw [q] at h;cases h.1
 | false=>rfl
section
variable{X:Cx}{CX:fw}{k:Nat}{f C:Addr}{fd:FuncData}{ps:List Str}{sp:Sp}{jB:List V}{ds:List Value}{E:XK}{x m:Str}{p pos apos:Pos}{e o:Expr}{es:List Expr}{ta te:TE}{t:TA}{id T:String}{r:List V->Hp->VK->Prop}
theorem N4(ha:PE X e te)(hr:PA X es t)(hs:isStar e=false:=by rfl):PA X (e :: es) (C9 te t):=Mv ha hr<|jI _ _ _ hs
theorem N5(F:aC X.prog X.w X.K X.mg X.base CX k f fd ps sp)(hr:a8 k X.A)(hm:X.mg x=some (.ref f))(hk:PySem.W.keepIn X.K (.ref f)=true)(hb:Binds X.K fd ps [])(hx:pD CX X E)
  (ha:PA X (e :: es) t) (hg:Gl X x:=by rfl) (dY:(x == ("__debug__" : Str))=false:=by decide) (hs:noStar (e :: es)=true:=by rfl):PE X (.Call (.Name x p) (e :: es) [] pos) (DA sp [] E t):=
 MA F hr hg hm hk hb .nil hx ha dY (jI _ _ _ (nL hs).1) (tI _ _ _ (nL hs).2)
theorem wW(hc:fq X (.builtin id) r)(hm:X.mg x=none)(hv:bootBuiltins x=some (.builtin id))(ha:PA X (e :: es) t)(hg:Gl X x:=by rfl)(hn:x ≠ "__name__":=by decide)(dY:(x == ("__debug__" : Str))=false:=by decide)
  (hs:noStar (e :: es)=true:=by rfl):PE X (.Call (.Name x p) (e :: es) [] pos) (tu r t):=
 ME hc hg hm hv ha hn dY (jI _ _ _ (nL hs).1) (tI _ _ _ (nL hs).2)
theorem wX(hc:fq X (.type T) r)(hm:X.mg x=none)(hv:bootBuiltins x=some (.type T))(ha:PA X (e :: es) t)(hg:Gl X x:=by rfl)(hn:x ≠ "__name__":=by decide)(dY:(x == ("__debug__" : Str))=false:=by decide)
  (hs:noStar (e :: es)=true:=by rfl):PE X (.Call (.Name x p) (e :: es) [] pos) (tu r t):=
 MG hc hg hm hv ha hn dY (jI _ _ _ (nL hs).1) (tI _ _ _ (nL hs).2)
end
structure Ev(X:Cx)(e:Expr)(σ:St)(H:Hp)(Q:VK):Prop where
 run:∀(pins:List<|Addr×Obj) (s:Shared),Inv X pins σ H s->wpAny (model X.prog X.w) X.A (eval e X.env) (EP X pins σ Q) X.xe s
structure Et(X:Cx)(e:Expr)(σ:St)(H:Hp)(Q:Bool->Hp->Prop):Prop where
 run:∀(pins:List<|Addr×Obj) (s:Shared),Inv X pins σ H s->wpAny (model X.prog X.w) X.A (isTrue e X.env<|eval e X.env) (TP X pins σ Q) X.xe s
structure Ew(X:Cx)(e:Expr)(σ:St)(H:Hp)(Q:Bool->Hp->Prop):Prop where
 run:∀(whole:Sem Value) (pins:List<|Addr×Obj) (s:Shared),Inv X pins σ H s->wpAny (model X.prog X.w) X.A (isTrue e X.env whole) (TP X pins σ Q) X.xe s
structure Ea(X:Cx)(es:List Expr)(σ:St)(H:Hp)(Q:List V->Hp->Prop):Prop where
 run:∀(pos:Pos) (pins:List<|Addr×Obj) (s:Shared),Inv X pins σ H s->wpAny (model X.prog X.w) X.A (spliced<|backTo pos<|starEach es X.env) (AP X pins σ Q) X.xe s
structure Eo(X:Cx)(e:Option Expr)(σ:St)(H:Hp)(Q:Option Int->Hp->Prop):Prop where
 run:∀(pins:List<|Addr×Obj) (s:Shared),Inv X pins σ H s->wpAny (model X.prog X.w) X.A (evalPart e X.env) (λu s'=>∃ o H',Inv X pins σ H' s'/\IsPart u o/\Q o H') X.xe s
structure Eg(X:Cx)(e:Expr)(v:V)(σ:St)(H:Hp)(Q:St->Hp->Prop):Prop where
 run:∀(pins:List<|Addr×Obj) (s:Shared) (u:Value),Inv X pins σ H s->RelV v u->wpAny (model X.prog X.w) X.A (assign e X.env u) (λ_ s'=>∃ σ' H',Inv X pins σ' H' s'/\Q σ' H') X.xe s
structure Run(X:Cx)(l:List Stmt)(D:Ends)(σ:St)(H:Hp):Prop where
 run:∀(pins:List<|Addr×Obj) (s:Shared),Inv X pins σ H s->wpAny (model X.prog X.w) X.A (execs l X.env) (SP X pins D) X.xe s
def N6(X:Cx)(e:Expr):TE:=λσ H Q=>Ev X e σ H Q
def N7(X:Cx)(e:Expr):TT:=λσ H Q=>Et X e σ H Q
def N8(X:Cx)(e:Expr):TT:=λσ H Q=>Ew X e σ H Q
def tJ(X:Cx)(es:List Expr):TA:=λσ H Q=>Ea X es σ H Q
def N9(X:Cx)(e:Option Expr):TO:=λσ H Q=>Eo X e σ H Q
def Oa(X:Cx)(e:Expr):TG:=λv σ H Q=>Eg X e v σ H Q
def wY(X:Cx)(l:List Stmt):TS:=λD σ H=>Run X l D σ H
section
variable{X:Cx}{e a b c o:Expr}{es:List Expr}{st:Stmt}{rest body jb:List Stmt}{σ:St}{H:Hp}{Q:VK}{T:Bool->Hp->Prop}{L:List V->Hp->Prop}{D:Ends}{pos p p2:Pos}
theorem a5:PE X e (N6 X e):=λpins s _ _ _ I h=>h.run pins s I
theorem jJ:PT X e (N7 X e):=λpins s _ _ _ I h=>h.run pins s I
theorem EH:PW X e (N8 X e):=λwh pins s _ _ _ I h=>h.run wh pins s I
theorem fX:PA X es (tJ X es):=λpos pins s _ _ _ I h=>h.run pos pins s I
theorem EI{e:Option Expr}:PO X e (N9 X e):=λpins s _ _ _ I h=>h.run pins s I
theorem lS:PG X e (Oa X e):=λpins s _ _ _ u _ I r h=>h.run pins s u I r
theorem nN{l:List Stmt}:gC X l (wY X l):=λpins s _ _ _ I h=>h.run pins s I
theorem de{t:TE}(h1:PE X e t)(h2:t σ H Q):Ev X e σ H Q:=⟨λpins s I=>h1 pins s σ H Q I h2⟩
theorem nO{t:TT}(h1:PT X e t)(h2:t σ H T):Et X e σ H T:=⟨λpins s I=>h1 pins s σ H T I h2⟩
theorem tK{t:TT}(h1:PW X e t)(h2:t σ H T):Ew X e σ H T:=⟨λwh pins s I=>h1 wh pins s σ H T I h2⟩
theorem EJ{t:TA}(h1:PA X es t)(h2:t σ H L):Ea X es σ H L:=⟨λpos pins s I=>h1 pos pins s σ H L I h2⟩
theorem EK{e:Option Expr}{t:TO}{R:Option Int->Hp->Prop}(h1:PO X e t)(h2:t σ H R):Eo X e σ H R:=⟨λpins s I=>h1 pins s σ H R I h2⟩
theorem wZ{t:TG}{v:V}{R:St->Hp->Prop}(h1:PG X e t)(h2:t v σ H R):Eg X e v σ H R:=⟨λpins s u I r=>h1 pins s σ H v u R I r h2⟩
theorem jc{t:TS}(h1:PS X st t)(h2:t {D with nx:=λσ' H'=>Run X rest D σ' H'} σ H):Run X (st :: rest) D σ H:=⟨λpins s I=>Ln h1 nN pins s σ H D I h2⟩
theorem aP(h:D.nx σ H):Run X [] D σ H:=⟨λpins s I=>Lj pins s σ H D I h⟩
theorem Ev.mono{Q':VK}(h:Ev X e σ H Q)(f:∀ v H',Q v H'->Q' v H'):Ev X e σ H Q':=⟨λpins s I=>aD (h.run pins s I) λ_ _ ⟨v,H',I',r,q⟩=>⟨v,H',I',r,f v H' q⟩⟩
theorem Et.mono{T':Bool->Hp->Prop}(h:Et X e σ H T)(f:∀ v H',T v H'->T' v H'):Et X e σ H T':=⟨λpins s I=>aD (h.run pins s I) λv _ ⟨H',I',q⟩=>⟨H',I',f v H' q⟩⟩
theorem Ea.mono{L':List V->Hp->Prop}(h:Ea X es σ H L)(f:∀ v H',L v H'->L' v H'):Ea X es σ H L':=⟨λpos pins s I=>aD (h.run pos pins s I) λ_ _ ⟨v,H',I',r,q⟩=>⟨v,H',I',r,f v H' q⟩⟩
theorem af(i:Nat){x:Str}{v:V}(h:Q v H)(hv:σ[i]?=some (some v):=by rfl)(hN:X.N[i]?=some x:=by rfl)(hs:vJ X.env.scope x:=by first | exact Or.inl rfl | exact Or.inr (Or.inl rfl) | exact Or.inr<|Or.inr rfl)(hd:(x == ("__debug__" : Str))=false:=by decide)
  (gY:(x == ("__classdict__" : Str))=false:=by decide):Ev X (.Name x p) σ H Q:=de (K1 (i:=i) hN hs hd gY) ⟨v,hv,h⟩
theorem ay{i:Int}{j:Nat}(h:Q (.int i) H):Ev X (.Constant (.int i) j p) σ H Q:=de (K2) h
theorem pS{i:Bool}{j:Nat}(h:Q (.bl i) H):Ev X (.Constant (.bool i) j p) σ H Q:=de (K3) h
theorem tL{i:Str}{j:Nat}(h:Q (.str i) H):Ev X (.Constant (.str i) j p) σ H Q:=de (K4) h
theorem Ob{x:Str}{v:V}{u:Value}(hm:X.mg x=some u)(r:RelV v u)(h:Q v H)(hg:Gl X x:=by rfl)(hd:(x == ("__debug__" : Str))=false:=by decide):Ev X (.Name x p) σ H Q:=de (K5 hg hm r hd) h
theorem w5{x:Str}(v:V){u:Value}(hm:X.mg x=none)(hv:bootBuiltins x=some u)(r:RelV v u)(h:Q v H)(hg:Gl X x:=by rfl)(hn:x ≠ "__name__":=by decide)(hd:(x == ("__debug__" : Str))=false:=by decide):Ev X (.Name x p) σ H Q:=de (K6 hg hm hv r hn hd) h
theorem aN{op:Operator}{r:R2}(ho:cO X (binaryOp op) r)(h:Ev X a σ H λx H1=>Ev X b σ H1 λy H2=>r x y H2 Q):Ev X (.BinOp a op b pos) σ H Q:=de (L9 ho a5 a5) h
theorem nP{op:CmpOp}{r:R2}(ho:cO X (compareOp op) r)(h:Ev X a σ H λx H1=>Ev X b σ H1 λy H2=>r x y H2 Q)(hm:behindInMarks op b=false:=by with_unfolding_all rfl):Ev X (.Compare a [op] [b] pos) σ H Q:=de (Mi ho a5 a5 hm) h
theorem Oc(h:Ev X a σ H λx H1=>∃ k,x = .bl k/\if k=true then Ev X (.BoolOp .And (b :: es) pos) σ H1 Q else Q (.bl false) H1):Ev X (.BoolOp .And (a :: b :: es) pos) σ H Q:=de (Lf a5 a5) h
theorem Od{op:BoolOp}(h:Ev X a σ H Q):Ev X (.BoolOp op [a] pos) σ H Q:=de (Le a5) h
theorem EL(h:Et X c σ H λk H1=>if k=true then Ev X a σ H1 Q else Ev X b σ H1 Q):Ev X (.IfExp c a b pos) σ H Q:=de (Lh jJ a5 a5) h
theorem aS{r:R2}(hr:pH X r)(h:Ev X a σ H λx H1=>Ev X b σ H1 λy H2=>r x y H2 Q)(hs:DL b:=by intro _ _;rfl):Ev X (.Subscript a b pos) σ H Q:=de (MV hr a5 a5 hs) h
theorem pT{r:V->Option Int->Option Int->Hp->VK->Prop}{lo hi:Option Expr}(hr:wu X r)(h:Ev X a σ H λx H1=>Eo X lo σ H1 λl H2=>Eo X hi σ H2 λu H3=>r x l u H3 Q):Ev X (.Subscript a (.Slice lo hi none p2) pos) σ H Q:=de (MT hr a5 EI EI) h
theorem pU{R:Option Int->Hp->Prop}(h:R none H):Eo X none σ H R:=EK (MQ) h
theorem pV{R:Option Int->Hp->Prop}(h:Ev X a σ H λx H1=>∃ i,x = .int i/\R (some i) H1):Eo X (some a) σ H R:=EK (MR a5) h
theorem aw(h:L [] H):Ea X [] σ H L:=EJ (Mu) h
theorem ao(h:Ev X e σ H λx H1=>Ea X es σ H1 λxs H2=>L (x :: xs) H2)(hs:isStar e=false:=by rfl):Ea X (e :: es) σ H L:=EJ (N4 a5 fX hs) h
theorem dZ{k:Nat}(h:Ea X es σ H λxs H1=>xs.length<=sizeLine/\∀ p,H1 p=none->Q (.ref p) (upd H1 p<|.tup xs)):Ev X (.Tuple es k pos) σ H Q:=de (Mw fX) h
theorem dH(h:Ea X es σ H λxs H1=>xs.length<=sizeLine/\∀ p,H1 p=none->Q (.ref p) (upd H1 p<|.lst xs)):Ev X (.List es pos) σ H Q:=de (Mx fX) h
theorem Oe{CX:fw}{k:Nat}{f:Addr}{fd:FuncData}{ps:List Str}{sp:Sp}{E:XK}{x:Str}(F:aC X.prog X.w X.K X.mg X.base CX k f fd ps sp)(hr:a8 k X.A)(hm:X.mg x=some (.ref f))(hk:PySem.W.keepIn X.K (.ref f)=true)(hb:Binds X.K fd ps [])(hx:pD CX X E)
  (h:Ea X (e :: es) σ H λvs H1=>sp vs H1 Q E) (hg:Gl X x:=by rfl) (dY:(x == ("__debug__" : Str))=false:=by decide) (hs:noStar (e :: es)=true:=by rfl):Ev X (.Call (.Name x p) (e :: es) [] pos) σ H Q:=
 de (N5 F hr hm hk hb hx fX hg dY hs) (show Ea X (e :: es) σ H _ from h.mono λvs H1 q=>by rw [Bc];exact q)
theorem b9{id:String}{r:List V->Hp->VK->Prop}{x:Str}(hc:fq X (.builtin id) r)(hm:X.mg x=none)(hv:bootBuiltins x=some (.builtin id))(h:Ea X (e :: es) σ H λvs H1=>r vs H1 Q)(hg:Gl X x:=by rfl)(hn:x ≠ "__name__":=by decide)(dY:(x == ("__debug__" : Str))=false:=by decide)
  (hs:noStar (e :: es)=true:=by rfl):Ev X (.Call (.Name x p) (e :: es) [] pos) σ H Q:=de (wW hc hm hv fX hg hn dY hs) h
theorem pW{T:String}{r:List V->Hp->VK->Prop}{x:Str}(hc:fq X (.type T) r)(hm:X.mg x=none)(hv:bootBuiltins x=some (.type T))(h:Ea X (e :: es) σ H λvs H1=>r vs H1 Q)(hg:Gl X x:=by rfl)(hn:x ≠ "__name__":=by decide)(dY:(x == ("__debug__" : Str))=false:=by decide)
  (hs:noStar (e :: es)=true:=by rfl):Ev X (.Call (.Name x p) (e :: es) [] pos) σ H Q:=de (wX hc hm hv fX hg hn dY hs) h
theorem dC{op:CmpOp}{r:R2}(ho:cO X (compareOp op) r)(h:Ev X a σ H λx H1=>Ev X b σ H1 λy H2=>r x y H2 λz H3=>∃ k,z = .bl k/\T k H3)(hm:behindInMarks op b=false:=by with_unfolding_all rfl):Et X (.Compare a [op] [b] pos) σ H T:=nO (Mk ho a5 a5 hm) h
theorem tM(h:Et X a σ H λk H1=>T (!k) H1):Et X (.UnaryOp .Not a pos) σ H T:=nO (Lc jJ) h
theorem pX(h:Ev X e σ H λx H1=>∃ k,x = .bl k/\T k H1)(he:∀ whole,isTrue e X.env whole=(do let v <- whole;standAt e.pos;holding [v] (truthy v)):=by intro _;rfl):Et X e σ H T:=nO (K7 a5 he) h
theorem ER(h:Ev X e σ H λx H1=>∃ k,lE X.K x H1 k/\T k H1)(he:∀ whole,isTrue e X.env whole=(do let v <- whole;standAt e.pos;holding [v] (truthy v)):=by intro _;rfl):Et X e σ H T:=nO (Mp a5 he) h
theorem nQ(h:Ew X e σ H T):Et X e σ H T:=⟨λpins s I=>h.run _ pins s I⟩
theorem w6(h:Et X a σ H λk H1=>if k=true then Ew X (.BoolOp .And (b :: es) pos) σ H1 T else T false H1):Ew X (.BoolOp .And (a :: b :: es) pos) σ H T:=tK (La jJ EH) h
theorem w8(h:Et X a σ H λk H1=>if k=true then T true H1 else Ew X (.BoolOp .Or (b :: es) pos) σ H1 T):Ew X (.BoolOp .Or (a :: b :: es) pos) σ H T:=tK (Lb jJ EH) h
theorem w9(h:Et X a σ H T):Ew X (.BoolOp .And [a] pos) σ H T:=tK (K9 jJ) h
theorem xa(h:Et X a σ H T):Ew X (.BoolOp .Or [a] pos) σ H T:=tK (K' jJ) h
theorem aW(i:Nat){x:Str}{v:V}{R:St->Hp->Prop}(hN:X.N.Nodup)(h:R (σ.set i<|some v) H)(hi:X.N[i]?=some x:=by rfl)(hx:Loc X.env.scope x:=by first | exact Or.inl rfl | exact Or.inr rfl)(hf:X.fn x=true\/X.env.scope.names.lookup x=some .local:=by first | exact .inl rfl | exact .inr rfl | assumption):Eg X (.Name x p) v σ H R:=wZ (Ly hN hi hx hf) h
theorem run_set(i:Nat){x:Str}{pos':Pos}(hN:X.N.Nodup)(h:Ev X e σ H λv H1=>Run X rest D (σ.set i<|some v) H1)(hi:X.N[i]?=some x:=by rfl)(hx:Loc X.env.scope x:=by first | exact Or.inl rfl | exact Or.inr rfl)(hs:swapsWith e (some<|.Name x pos') pos.line X.env=pure false:=by rfl)
  (hf:X.fn x=true\/X.env.scope.names.lookup x=some .local:=by first | exact .inl rfl | exact .inr rfl | assumption):Run X (.Assign [.Name x pos'] e pos :: rest) D σ H:=jc (LA hN hi hx a5 hs hf) h
theorem d0(h:Et X c σ H λk H1=>if k=true then Run X body {D with nx:=λσ' H'=>Run X rest D σ' H'} σ H1 else Run X jb {D with nx:=λσ' H'=>Run X rest D σ' H'} σ H1):Run X (.If c body jb pos :: rest) D σ H:=jc (Lx jJ nN nN) h
theorem EV(φ ψ:Prop)(hc:∀ T:Bool->Hp->Prop,(∀ k:Bool,(k=true->φ)->(k=false->ψ)->T k H)->Et X c σ H T)(ht:φ->Run X body {D with nx:=λσ' H'=>Run X rest D σ' H'} σ H)(hu:ψ->Run X jb {D with nx:=λσ' H'=>Run X rest D σ' H'} σ H):Run X (.If c body jb pos :: rest) D σ H:=
 d0 (hc _ λk p q=>by
  cases k with
  | true=>rw [BK rfl];exact ht<|p rfl
  | false=>rw [BJ As];exact hu<|q rfl)
theorem cq(h:Ev X e σ H D.rt):Run X (.Return (some e) pos :: rest) D σ H:=jc (Lw a5) h
theorem fD(h:Ev X e σ H λ_ H1=>Run X rest D σ H1)(hs:swapsWith e none pos.line X.env=pure false:=by rfl):Run X (.Expr e pos :: rest) D σ H:=jc (Lv a5 hs) h
theorem Og{tg:Expr}(h:Ev X e σ H λv H1=>Eg X tg v σ H1 λσ' H'=>Run X rest D σ' H')(hs:swapsWithSole [tg] e pos.line X.env=pure false:=by rfl)(hw:swappedStores [tg] e X.env=pure none:=by rfl)
  (h1:(assignEach [tg] X.env).map (·.2)=[assign tg X.env]:=by rfl):Run X (.Assign [tg] e pos :: rest) D σ H:=jc (Lz a5 lS hs hw h1) h
def Loop(X:Cx)(tg:Expr)(body:List Stmt)(J:It)(D:Ends)(after:St->Hp->Prop)(σ:St)(H:Hp):Prop:=
 ∃ W:Nat->Nat->St->Hp->Prop,(∃ m,W 0 m σ H)/\∀ i m σ H,W i m σ H->(J.stop i H/\after σ H)\/(J.go i H/\∃ N:St->Hp->Prop,(∀ σ' H',N σ' H'->∃ m',m' < m/\W (i+1) m' σ' H') /\
  ∀ x H',J.ph i H x H'->Eg X tg x σ H' λσ2 H2=>Run X body {D with nx:=N,ct:=N,bk:=after} σ2 H2)
theorem xc{tg iter:Expr}{wi:TI}(hi:PI X tg iter wi)(h:wi σ H λJ H1=>Loop X tg body J D (λσ' H'=>Run X rest D σ' H') σ H1)(hp:PassesOwn (model X.prog X.w) X.A X.env X.xe:=by exact HF)(hc:X.calm=true:=by rfl)
  (hs:∀ x,foldedSetIterable iter X.env x=pure x:=by intro _;rfl):Run X (.For tg iter body [] pos :: rest) D σ H:=jc (L3 hp hc hi lS nN hs) h
theorem hZ{tg:Expr}{q:Pos}(hm:X.mg "range" = none)(h:Ev X a σ H λx H1=>∃ j:Int,x = .int j/\-(2 ^ 62)<=j/\j < 2 ^ 62/\Loop X tg body (lr 0 j.toNat) D (λσ' H'=>Run X rest D σ' H') σ H1)(hg:Gl X "range":=by rfl)(hp:PassesOwn (model X.prog X.w) X.A X.env X.xe:=by exact HF)(hc:X.calm=true:=by rfl)(hs:isStar a=false:=by rfl) :
  Run X (.For tg (.Call (.Name "range" q) [a] [] p) body [] pos :: rest) D σ H:=
 xc (wi:=CY<|tJ X [a]) (vZ hg hm fX<|jI a [] _ hs) (show Ea X [a] σ H _ from ao (h.mono λx H1 ⟨j,e,h1,h2,h3⟩=>aw ⟨j,by rw [e],h1,h2,h3⟩) hs) hp hc (by intro _;rfl)
theorem EW{tg iter:Expr}(h:Ev X iter σ H λx H1=>∃ a,x = .ref a/\(∃ xs,aK X.K H1 a xs)/\Loop X tg body (pq X.K a) D (λσ' H'=>Run X rest D σ' H') σ H1)(hp:PassesOwn (model X.prog X.w) X.A X.env X.xe:=by exact HF)(hc:X.calm=true:=by rfl)
  (hs:∀ x,foldedSetIterable iter X.env x=pure x:=by intro _;rfl):Run X (.For tg iter body [] pos :: rest) D σ H:=xc (LY a5) h hp hc hs
theorem jd{tg iter:Expr}(h:Ev X iter σ H λx H1=>∃ a,x = .ref a/\(∃ xs,ak X.K H1 a xs)/\Loop X tg body (pk X.K a) D (λσ' H'=>Run X rest D σ' H') σ H1)(hp:PassesOwn (model X.prog X.w) X.A X.env X.xe:=by exact HF)(hc:X.calm=true:=by rfl)
  (hs:∀ x,foldedSetIterable iter X.env x=pure x:=by intro _;rfl):Run X (.For tg iter body [] pos :: rest) D σ H:=xc (ja a5) h hp hc hs
theorem ic{tg:Expr}{lo:Int}{n:Nat}{after:St->Hp->Prop}(Pv:Nat->St->Hp->Prop)(h0:Pv 0 σ H)
  (hs:∀ i σ H,i < n->Pv i σ H->Eg X tg (.int<|lo+i) σ H λσ2 H2=>Run X body {D with nx:=Pv<|i+1,ct:=Pv<|i+1,bk:=after} σ2 H2) (hd:∀ σ H,Pv n σ H->after σ H):Loop X tg body (lr lo n) D after σ H:=by
 refine⟨λi m σ H=>m=n - i/\i<=n/\Pv i σ H,⟨n,by simp,Br _,h0⟩,?_⟩;rintro i m σ H ⟨rfl,hi,p⟩
 by_cases aE:i < n
 ·refine .inr ⟨aE,Pv<|i+1,λσ' H' p'=>⟨n - (i+1),by omega,rfl,aE,p'⟩,λx H' y=>?_⟩;obtain⟨e,y⟩:=y;subst e y;exact hs i σ _ aE p
 ·have e:i=n:=by omega
  subst e;exact .inl ⟨Ah _,hd σ H p⟩
theorem EX{tg:Expr}{at_:Addr}{xs:List V}{after:St->Hp->Prop}(Pv:Nat->St->Hp->Prop)(h0:Pv 0 σ H)(hl:∀ i σ H,i<=xs.length->Pv i σ H->aK X.K H at_ xs)
  (hs:∀ i x σ H,xs[i]?=some x->Pv i σ H->Eg X tg x σ H λσ2 H2=>Run X body {D with nx:=Pv<|i+1,ct:=Pv<|i+1,bk:=after} σ2 H2) (hd:∀ σ H,Pv xs.length σ H->after σ H):Loop X tg body (pq X.K at_) D after σ H:=by
 refine⟨λi m σ H=>m=xs.length - i/\i<=xs.length/\Pv i σ H,⟨xs.length,by simp,Br _,h0⟩,?_⟩;rintro i m σ H ⟨rfl,hi,p⟩;have q:=hl i σ H hi p
 by_cases aE:i < xs.length
 ·refine .inr ⟨⟨xs,xs[i],q,by simp [aE]⟩,Pv<|i+1,λσ' H' p'=>⟨xs.length - (i+1),by omega,rfl,aE,p'⟩,λx H' y=>?_⟩;obtain⟨e,y⟩:=y;subst e;exact hs i x σ _ (y xs q) p
 ·have e:i=xs.length:=by omega
  subst e;exact .inl ⟨⟨xs,q,Ah _⟩,hd σ H p⟩
theorem je{tg:Expr}{at_:Addr}{xs:List V}{after:St->Hp->Prop}(Pv:Nat->St->Hp->Prop)(h0:Pv 0 σ H)(hl:∀ i σ H,i<=xs.length->Pv i σ H->ak X.K H at_ xs)
  (hs:∀ i x σ H,xs[i]?=some x->Pv i σ H->Eg X tg x σ H λσ2 H2=>Run X body {D with nx:=Pv<|i+1,ct:=Pv<|i+1,bk:=after} σ2 H2) (hd:∀ σ H,Pv xs.length σ H->after σ H):Loop X tg body (pk X.K at_) D after σ H:=by
 refine⟨λi m σ H=>m=xs.length - i/\i<=xs.length/\Pv i σ H,⟨xs.length,by simp,Br _,h0⟩,?_⟩;rintro i m σ H ⟨rfl,hi,p⟩;have q:=hl i σ H hi p
 by_cases aE:i < xs.length
 ·refine .inr ⟨⟨xs,xs[i],q,by simp [aE]⟩,Pv<|i+1,λσ' H' p'=>⟨xs.length - (i+1),by omega,rfl,aE,p'⟩,λx H' y=>?_⟩;obtain⟨e,y⟩:=y;subst e;exact hs i x σ _ (y xs q) p
 ·have e:i=xs.length:=by omega
  subst e;exact .inl ⟨⟨xs,q,Ah _⟩,hd σ H p⟩
theorem bz.go{P:Program}{w:World}{K:PySem.W.Frag}{mg:Str->Option Value}{base:Heap}{x qual:Str}{st:Stmt}{f:Addr}{fd:FuncData}{N ps:List Str}{k:Nat}{sp:Sp}(F:bz K x qual st f fd)(S:au N ps<|aV st)(len:∀ vs H Q E,sp vs H Q E->vs.length=ps.length)
  (dh : ∀ (bo : Value) (A : Around) (outer : List Env) (s : Shared) (H : Hp) (vs : List V) (Q : VK) (E : XK), a8 k (A.deeper<|envOfC qual (aV st) s.heap.objs.size f bo) → sp vs H Q E →
   Run (eU bp P w K mg base N qual (aV st) f bo A outer s H E).nw (g9 st) {nx:=λ_ H'=>Q .non H',rt:=Q} (start N vs) H):aC P w K mg base bp (k+1) f fd ps sp:=
 F.ok S len λbo A outer s H vs Q E hr g8=>⟨_,nN,dh bo A outer s H vs Q E hr g8⟩
end
structure Ei(X:Cx)(ifs:List Expr)(σ:St)(H:Hp)(Q:Bool->Hp->Prop):Prop where
 run:∀(pins:List<|Addr×Obj) (s:Shared),Inv X pins σ H s ->
  wpAny (model X.prog X.w) X.A (forIn ifs true λc r=>if r=true then do let ok <- isTrue c X.env<|eval c X.env;pure (ForInStep.yield ok) else pure (ForInStep.yield r)) (TP X pins σ Q) X.xe s
def tN(X:Cx)(N':List Str)(scope:Scope)(e:Expr)(σ:St)(H:Hp)(Q:VK):Prop:=∀ cl C s₀ H₀ ex,Ev (fW X N' scope cl C s₀ H₀ ex) e σ H Q
def tO(X:Cx)(N':List Str)(scope:Scope)(e:Expr)(v:V)(σ:St)(H:Hp)(Q:St->Hp->Prop):Prop:=∀ cl C s₀ H₀ ex,Eg (fW X N' scope cl C s₀ H₀ ex) e v σ H Q
def tP(X:Cx)(N':List Str)(scope:Scope)(ifs:List Expr)(σ:St)(H:Hp)(Q:Bool->Hp->Prop):Prop:=∀ cl C s₀ H₀ ex,Ei (fW X N' scope cl C s₀ H₀ ex) ifs σ H Q
def kr(X:Cx)(N':List Str)(scope:Scope)(tg:Expr)(ifs:List Expr)(elt:Expr)(J:It)(D:Addr)(after:Hp->Prop)(σ:St)(H:Hp):Prop:=
 ∃ W:Nat->Nat->St->Hp->Prop,(∃ m,W 0 m σ H)/\∀ i m σ' H',W i m σ' H' ->
  (J.stop i H' ∧ after H') ∨ (J.go i H' ∧ ∃ N : St → Hp → Prop, (∀ σ' H', N σ' H' → ∃ m', m' < m ∧ W (i + 1) m' σ' H') ∧ ∀ x H2, J.ph i H' x H2 → tO X N' scope tg x σ' H2 λσ2 H3 => tP X N' scope ifs σ2 H3 λb H4 =>
   if b=true then tN X N' scope elt σ2 H4 λv H5=>∃ ys,H5 D=some (.lst ys)/\ys.length < sizeLine/\N σ2 (upd H5 D<|.lst<|ys++[v]) else N σ2 H4)
theorem lT:∀(names:List<|Str×NameKind) (n:Nat) (acc:List<|Str×Addr),cellsFrom n names acc=cellsFrom n names []++acc
 | [],_,_=>rfl
 | (y,k) :: r,n,acc=>by
  unfold cellsFrom
  split
  ·rw [lT r (n+1)<|(y,n) :: acc,lT r (n+1) [(y,n)],Aw];rfl
  ·exact lT r n acc
theorem pY:∀(names:List<|Str×NameKind) (n:Nat) {x:Str} {c:Addr},(x,c)∈cellsFrom n names []->(x,NameKind.cell)∈names/\n<=c
 | [],_,_,_,h=>by cases h
 | (y,k) :: r,n,x,c,h=>by
  unfold cellsFrom at h
  split at h
  ·rename_i hk;rw [lT,Al] at h
   rcases h with h | h
   ·obtain⟨a,b⟩:=pY r (n+1) h;exact⟨Aq _ a,by omega⟩
   ·cases Af.mp h;have:k = .cell:=by cases k <;> first | rfl | exact absurd hk<|by decide
    subst this;exact⟨Ak,Ah _⟩
  ·obtain⟨a,b⟩:=pY r n h;exact⟨Aq _ a,b⟩
theorem EZ{names:List (Str×NameKind)}{n:Nat}{cl:List (Str×Addr)}{x:Str}{c:Addr}(h:(cellsFrom n names cl).lookup x=some c):((x,c)∈cellsFrom n names []/\n<=c)\/cl.lookup x=some c:=by
 rw [lT,JF] at h;cases e:(cellsFrom n names []).lookup x with
 | some d=>
  rw [e] at h;cases h;have hm:=CT e;exact .inl ⟨hm,(pY _ _ hm).2⟩
 | none=>
  rw [e] at h;exact .inr h
theorem Oh{names:List (Str×NameKind)}{n:Nat}{cl:List (Str×Addr)}{x:Str}(h:(x,NameKind.cell)∉names):(cellsFrom n names cl).lookup x=cl.lookup x:=by
 rw [lT,JF];cases e:(cellsFrom n names []).lookup x with
 | some d=>exact absurd (pY _ _<|CT e).1 h
 | none=>rfl
section
variable{M:Model}{A:Around}{E:Value->Shared->Prop}{s:Shared}
theorem Oi{scope:Scope}{globals:Addr}{closure:List (Str×Addr)}{qual:Str}{func:Option Addr}{code:Value}{outer:Env}{builtins:Addr}{Q:Env->Shared->Prop}
  (hQ : ∀ h', h'.Ns s.heap.objs.size (λ_ => none) → (∀ b o, s.heap.get? b = some o → h'.get? b = some o) → CellsOk h' (s.heap.objs.size + 1) (cellsFrom (s.heap.objs.size + 1) scope.names []) →
   Q (newEnv scope s.heap.objs.size globals (cellsFrom (s.heap.objs.size+1) scope.names closure) qual func code (some outer) builtins) {s with heap:=h'}) :
  wpAny M A (newFunctionEnv scope globals closure [] qual func code (some outer) builtins) Q E s:=by
 simp only [newFunctionEnv,Option.isSome_some,DP];refine BL<|wpAny_alloc ?_;refine BL (wpAny_layCells _ (λname kind cells=>by cases Oj:kind == NameKind.cell <;> simp [Oj]) _ _ _ _ ?_);have ok:=cellsFrom_ok scope.names (s.heap.push {cls:= .type "dict",data:= .dict #[]}) (s.heap.objs.size+1) [] ⟨λ_ _ hm=>(nomatch hm),List.Pairwise.nil⟩ (by rw [Gu];exact Ah _);rw [Gu] at ok;rw [show({s with heap:=s.heap.push {cls:= .type "dict",data:= .dict #[]}}:Shared).heap.objs.size=s.heap.objs.size+1 from Gu ..];rw [List.forIn_nil];exact BL<|BW<|BW<|hQ _ ((Heap.Ns.new s.heap<|.type "dict").keeps<|pushCells_keeps _ _) (λb o e=>pushCells_keeps _ _ b o<|Ai _ e) ok
end
def nR(sc scope:Scope)(N N':List Str):Bool:=
 (match scope.kind with | .function=>true | _=>false) &&
 scope.names.all (λy=>match y.2 with
  | .cell=>(match scope.names.lookup y.1 with | some .cell=>true | _=>false)
  | .local=>(match scope.names.lookup y.1 with | some .local=>true | _=>false)
  | .free=>(match sc.names.lookup y.1 with | some .cell=>true | some .free=>true | _=>false) && (match scope.names.lookup y.1 with | some .free=>true | _=>false)
  | _=>true) &&
 (List.range N'.length).all λi => match N'[i]? with
  | none=>true
  | some x=>match scope.names.lookup x with
   | some .local=>decide (N.length<=i)
   | some .cell=>decide (N.length<=i)
   | some .free=>decide (N[i]?=some x)
   | _=>true
structure bE(sc scope:Scope)(N N':List Str):Prop where
 kind:scope.kind = .function
 cell:∀ y∈scope.names,y.2 = .cell->scope.names.lookup y.1=some .cell
 names:∀ y∈scope.names,y.2 = .local->scope.names.lookup y.1=some .local
 free:∀ y∈scope.names,y.2 = .free->sc.names.lookup y.1=some .cell\/sc.names.lookup y.1=some .free
 E1:∀ y∈scope.names,y.2 = .free->scope.names.lookup y.1=some .free
 own:∀(i:Nat) x,N'[i]?=some x->scope.names.lookup x=some .local->N.length<=i
 xf:∀(i:Nat) x,N'[i]?=some x->scope.names.lookup x=some .cell->N.length<=i
 out:∀(i:Nat) x,N'[i]?=some x->scope.names.lookup x=some .free->N[i]?=some x
theorem bE.of{sc scope:Scope}{N N':List Str}(h:nR sc scope N N'=true):bE sc scope N N':=by
 unfold nR at h;rw [Cn,Cn] at h;obtain⟨⟨h1,h2⟩,h3⟩:=h;have lU:=Dd.mp h2;have xg:=Dd.mp h3;refine⟨?_,λy hy e=>?_,λy hy e=>?_,λy hy e=>?_,λy hy e=>?_,λi x hi e=>?_,λi x hi e=>?_,λi x hi e=>?_⟩
 ·revert h1;cases scope.kind <;> intro h1 <;> first | rfl | cases h1
 ·have q:=lU y hy;rw [e] at q;simp only at q
  split at q
  ·assumption
  ·cases q
 ·have q:=lU y hy;rw [e] at q;simp only at q
  split at q
  ·assumption
  ·cases q
 ·have q:=lU y hy;rw [e] at q;simp only at q;rw [Cn] at q;have q:=q.1
  split at q
  ·exact .inl<|by assumption
  ·exact .inr<|by assumption
  ·cases q
 ·have q:=lU y hy;rw [e] at q;simp only at q;rw [Cn] at q;have q:=q.2
  split at q
  ·assumption
  ·cases q
 ·have q:=xg i<|Cw.mpr (Ac.mp hi).1;rw [hi] at q;simp only [e] at q;exact CV q
 ·have q:=xg i<|Cw.mpr (Ac.mp hi).1;rw [hi] at q;simp only [e] at q;exact CV q
 ·have q:=xg i<|Cw.mpr (Ac.mp hi).1;rw [hi] at q;simp only [e] at q;exact CV q
section
variable{X:Cx}{pins:List (Addr×Obj)}{σ:St}{H:Hp}{s:Shared}
theorem Ol{N':List Str}{scope:Scope}{n:Nat}{fp:List Addr}{h₁:Heap}{t':Nat}{m:Str->Option Value}(I:Inv X pins σ H s)(ck:bE X.env.scope scope X.N N')(hl:N'.length=X.N.length+n)
  (tF:h₁.Ns s.heap.objs.size m) (old:∀ b o,s.heap.get? b=some o->h₁.get? b=some o) (E2:CellsOk h₁ (s.heap.objs.size+1)<|cellsFrom (s.heap.objs.size+1) scope.names [])
  (nS:∀ b∈fp,b8 X pins H b/\b < s.heap.objs.size) :
  Inv (fW X N' scope (cellsFrom (s.heap.objs.size+1) scope.names<|cg scope.names X.env.cells []) s.heap.objs.size s H fp) [] (σ++List.replicate n none) H {s with heap:=h₁,toks:=t'}:=by
 have sub:∀ x c,(cg scope.names X.env.cells []).lookup x=some c->X.env.cells.lookup x=some c:=λx c e=>wO _ _ _ (λ_ _ z=>by simp at z) x c<|CT e;have both:∀ x c,(cellsFrom (s.heap.objs.size+1) scope.names<|cg scope.names X.env.cells []).lookup x=some c->((x,c)∈cellsFrom (s.heap.objs.size+1) scope.names []/\s.heap.objs.size+1<=c)\/X.env.cells.lookup x=some c:=λx c e=>by
  rcases EZ e with z | z
  ·exact .inl z
  ·exact .inr<|sub x c z
 have ku:∀ x c,X.env.cells.lookup x=some c->c < s.heap.objs.size:=λx c e=>by
  obtain⟨v,o,ho,_⟩:=I.cell x c e;exact Bd ho
 have Om:H s.heap.objs.size=none:=I.aB.fresh<|Ah _;have kindOf:∀{x:Str} {k':NameKind},(relabel scope X.env).names.lookup x=some k'->∃ k,scope.names.lookup x=some k/\(k'=k\/(k = .free/\k' = .cell)):=λz=>EE z;have E3:∀ x,scope.names.lookup x=some .free->(cellsFrom (s.heap.objs.size+1) scope.names<|cg scope.names X.env.cells []).lookup x=(cg scope.names X.env.cells []).lookup x:=λx e=>Oh λhm=>by
  have:=ck.cell _ hm rfl;rw [e] at this;cases this
 have xh:∀ x,scope.names.lookup x=some .cell->∃ c,(cellsFrom (s.heap.objs.size+1) scope.names<|cg scope.names X.env.cells []).lookup x=some c:=λx e=>Do.mp<|GK _ _ _<|.inl e;have Oo:(fW X N' scope (cellsFrom (s.heap.objs.size+1) scope.names<|cg scope.names X.env.cells []) s.heap.objs.size s H fp).Ok:=by
  refine⟨I.ok.mod,ck.kind,I.ok.glob,I.ok.blt,Ah _,λx y c e1 e2=>?_,λx hx=>?_,λx c hf e=>?_,I.ok.hd,I.ok.frames,.inl rfl,λb hb=>⟨Cu (nS b hb).2,λx c e=>?_⟩,
   I.bs,Bz I.ok.kj I.sz,λb o e hb=>?_,λb hb hf=>?_,I.stack,I.fO⟩
  ·rcases both x c e1 with z1 | z1
   ·rcases both y c e2 with z2 | z2
    ·exact name_of_addr E2.apart z1.1 z2.1
    ·exact absurd (ku y c z2)<|Nat.not_lt.mpr<|Eh z1.2
   ·rcases both y c e2 with z2 | z2
    ·exact absurd (ku x c z1)<|Nat.not_lt.mpr<|Eh z2.2
    ·exact I.ok.inj x y c z1 z2
  ·have gH:(relabel scope X.env).names.lookup x=some .cell\/(relabel scope X.env).names.lookup x=some .free:=hx;have:∃ k,scope.names.lookup x=some k/\(k = .free\/k = .cell):=by
    rcases gH with z | z
    ·obtain⟨k,e,r⟩:=kindOf z
     rcases r with r | ⟨r,_⟩
     ·exact⟨k,e,.inr r.symm⟩
     ·exact⟨k,e,.inl r⟩
    ·obtain⟨k,e,r⟩:=kindOf z
     rcases r with r | ⟨r,_⟩
     ·exact⟨k,e,.inl r.symm⟩
     ·exact⟨k,e,.inl r⟩
   obtain⟨k,e,rfl | rfl⟩:=this
   ·have hm:=CT e;obtain⟨c,hc⟩:=I.ok.has x<|ck.free _ hm rfl;obtain⟨d,hd⟩:=wR<|wQ scope.names X.env.cells [] x c hm hc;exact⟨d,(E3 x e).trans hd⟩
   ·exact xh x e
  ·have hx:scope.names.lookup x=some .cell:=by
    have E4:(match scope.names.lookup x with | some .cell=>true | _=>false)=true:=hf
    split at E4
    ·assumption
    ·cases E4
   have e':(cellsFrom (s.heap.objs.size+1) scope.names<|cg scope.names X.env.cells []).lookup x=some c:=e;have q1:=Do.mp<|GK scope.names (s.heap.objs.size+1) []<|.inl hx;obtain⟨d,hd⟩:=q1;rw [lT,JF,hd] at e';have e2:d=c:=Option.some.inj e';have:=(pY _ _<|CT hd).2;rw [<- e2];exact Eh this
  ·have e':(cellsFrom (s.heap.objs.size+1) scope.names<|cg scope.names X.env.cells []).lookup x=some c:=e
   rcases both x c e' with z | z
   ·have h1:=(nS b hb).2;have h2:=z.2;exact λk=>absurd h1<|Nat.not_lt.mpr<|by rw [<- k];exact Eh h2
   ·exact(nS b hb).1.2.2.2.2.1 x c z
  ·have:=(nS b hb).1.2.2.2.1
   rcases this with z | z
   ·exact I.ok.iy b o e z
   ·exact absurd (Bm (Bd e)<|Bz I.ok.kj z)<|Cs _
  ·rcases Ax.mp (I.dX b hf) with z | z
   ·exact(nS b hb).1.2.1 z
   ·exact(nS b hb).1.2.2.1 z
 refine⟨Oo,rfl,I.bare,Un.kept old,⟨m,tF,λi x v e1 e2 e3=>?_⟩,λx c e=>?_,Om,λx c e=>?_,λp hp=>absurd hp (by simp [fW]),I.aB.kept old,?_⟩
 ·have hi:i < σ.length:=by
   by_cases hi:i < σ.length
   ·exact hi
   ·rw [Az (by omega),Dq] at e2
    split at e2 <;> cases e2
  rw [Bb hi] at e2;have jK:N'[i]?=some x:=e1;have Oq:∃ k',(relabel scope X.env).names.lookup x=some k'/\(k' = .local\/k' = .cell\/k' = .free):=by
   rcases e3 with z | z | z
   ·exact⟨_,z,.inl rfl⟩
   ·exact⟨_,z,.inr<|.inl rfl⟩
   ·exact⟨_,z,.inr<|.inr rfl⟩
  obtain⟨k',xi,Ot⟩:=Oq;obtain⟨k,ek,r⟩:=kindOf xi;have kf:k = .free:=by
   rcases r with r | ⟨r,_⟩
   ·subst r
    rcases Ot with z | z | z
    ·subst z;have:=ck.own i x jK ek;rw [I.len] at hi;omega
    ·subst z;have:=ck.xf i x jK ek;rw [I.len] at hi;omega
    ·exact z
   ·exact r
  subst kf;have hm:=CT ek;have Ou:=ck.out i x jK ek;obtain⟨m0,xj,fY⟩:=I.loc;have kx:=ck.free _ hm rfl;obtain⟨u,ru,lk⟩:=fY i x v Ou e2 (by rcases kx with z | z;exact .inr<|.inl z;exact .inr<|.inr z);refine⟨u,ru,.inr ⟨?_,?_⟩⟩
  ·rcases r with r | ⟨_,r⟩
   ·subst r;exact .inr xi
   ·subst r;exact .inl xi
  ·rcases lk with ⟨k1,_⟩ | ⟨_,c,hc,fS⟩
   ·have E5:X.env.scope.names.lookup x=some .local:=k1
    rcases kx with z | z
    ·rw [E5] at z;cases z
    ·rw [E5] at z;cases z
   ·have tQ:=wQ scope.names X.env.cells [] x c hm hc;obtain⟨d,hd⟩:=wR tQ;have:d=c:=Option.some.inj<|(sub x d hd).symm.trans hc;subst this;obtain⟨o,ho,lV⟩:=fS;exact⟨d,(E3 x ek).trans hd,o,old _ _ ho,lV⟩
 ·have e':(cellsFrom (s.heap.objs.size+1) scope.names<|cg scope.names X.env.cells []).lookup x=some c:=e
  rcases both x c e' with z | z
  ·exact⟨none,(E2.empty x c z.1).1⟩
  ·obtain⟨v,o,ho,lV⟩:=I.cell x c z;exact⟨v,o,old _ _ ho,lV⟩
 ·have e':(cellsFrom (s.heap.objs.size+1) scope.names<|cg scope.names X.env.cells []).lookup x=some c:=e
  rcases both x c e' with z | z
  ·exact I.aB.fresh<|Eh z.2
  ·exact I.bS x c z
 ·rw [Ae,Dj,I.len];exact hl.symm
end
structure Clause(e:Expr)(d:Nat)(tg iter:Expr)(ifs:List Expr)(acc:Value)(env:Env)(inner:Sem Unit):Prop where
 at':(clausesOf e)[d]?=some ⟨tg,iter,ifs,0⟩
 quiet:∀ it,(Code.compLoop e d it acc env).quiet=true
 den:∀(prog:Program) (w:World) it,(model prog w).den (.compLoop e d it acc env)=(compTurn e d it acc env).onRaise (λx=>do noteFrame x env;theTreesLotGoes x)
 Ov:∀(A:Around) it,A.under (.compLoop e d it acc env)=A
 xk:∀(prog:Program) (w:World) it,(model prog w).den (.compStart e d it acc env)=(compStart e d it acc env).onRaise (λx=>do noteFrame x env;standAt theWindowsPlace)
 xm:∀(A:Around) it,A.under (.compStart e d it acc env)=A
 turn:∀ it,compTurn e d it acc env=(do
   standAt iter.pos
   match <- pyNext it with
   | none=>pure<|.done .next
   | some v=>
    letOwnedTupleGo tg it v
    assign tg env v
    let mut ok:=true
    for c in ifs do
     if ok then ok <- isTrue c env<|eval c env
    if ok then
     inner
    again (.compLoop e d it acc env))
section
variable{prog:Program}{w:World}{A:Around}{R:Result->Shared->Prop}{s:Shared}
theorem Ow{e:Expr}{d:Nat}{tg iter:Expr}{ifs:List Expr}{it acc:Value}{env:Env}{inner:Sem Unit}(C:Clause e d tg iter ifs acc env inner)(I:Nat->Shared->Prop)
  (turn : ∀ n s, I n s → wpAny (model prog w) A (pyNext it) (λr s₁ => match r with
   | none=>R (.ok .next) s₁
   | some v=>wpAny (model prog w) A (letOwnedTupleGo tg it v) (λ_ s₁'=>wpAny (model prog w) A (assign tg env v) (λ_ s₂=>
     wpAny (model prog w) A (forIn ifs true λc r=>if r=true then do let ok <- isTrue c env<|eval c env;pure (ForInStep.yield ok) else pure (ForInStep.yield r)) (λok s₃=>
      if ok=true then wpAny (model prog w) A inner (λ_ s₄=>∃ m,m < n/\I m s₄) (notedBy (model prog w) A env λe s'=>R (.error e) s') s₃
      else ∃ m,m < n/\I m s₃) (notedBy (model prog w) A env λe s'=>R (.error e) s') s₂) (notedBy (model prog w) A env λe s'=>R (.error e) s') s₁') (notedBy (model prog w) A env λe s'=>R (.error e) s') s₁) (notedBy (model prog w) A env λe s'=>R (.error e) s') s)
  (n:Nat) (h:I n s) :
  codeAny (model prog w) A (.compLoop e d it acc env) R s:=by
 refine codeAny_loop (C.quiet it) I (λn s hI=>?_) n h;rw [C.Ov,C.den];refine wpAny_noted ?_;rw [C.turn];refine BL<|GJ<|BL<|CP (turn n s hI) (λr s₁ h₁=>?_) λ_ _ h'=>h';cases r with
 | none=>exact BW h₁
 | some v=>
  refine BL<|CP h₁ (λ_ s₁' h₁'=>?_) λ_ _ h'=>h';refine BL<|CP h₁' (λ_ s₂ h₂=>BL<|CP h₂ (λok s₃ h₃=>?_) λ_ _ h'=>h') λ_ _ h'=>h';cases ok with
  | false=>exact BW ⟨rfl,h₃⟩
  | true=>exact BL<|CP h₃ (λ_ s₄ h₄=>BW ⟨rfl,h₄⟩) λ_ _ h'=>h'
theorem Ox{e:Expr}{d:Nat}{tg iter:Expr}{ifs:List Expr}{it acc:Value}{env:Env}{inner:Sem Unit}(C:Clause e d tg iter ifs acc env inner)
  (h0:codeAny (model prog w) A (.compLoop e d it acc env) R s)
  (h:wpAny (model prog w) A (pyIter it) (λxn s'=>codeAny (model prog w) A (.compLoop e d xn acc env) R s') (notedBy (model prog w) A env λx s'=>R (.error x) s') s) :
  codeAny (model prog w) A (.compStart e d it acc env) R s:=by
 refine codeAny_of_tree ?_;rw [C.xm,C.xk];refine wpAny_notedAt ?_;unfold compStart;rw [C.at'];show wpAny _ _ (ask >>= _) _ _ s;refine BL<|wpAny_askSetting<|wpAny_ite ?_
 split
 ·first
   | exact BL<|BW<|BW<|And.intro (C.quiet _) h0
   | exact BW<|And.intro (C.quiet _) h0
 ·first
   | exact BL<|IV<|BL<|GJ<|BL<|CP h (λxn s' h'=>BW<|And.intro (C.quiet _) h') λ_ _ x=>x
   | (refine BL<|IV ?_;show wpAny _ _ (standAt iter.pos >>= _) _ _ s;exact BL<|GJ<|BL<|CP h (λxn s' h'=>BW<|And.intro (C.quiet _) h') λ_ _ x=>x)
end
structure pZ(X:Cx)(m:Sem Unit)(σ:St)(H:Hp)(Q:St->Hp->Prop):Prop where
 run:∀(pins:List<|Addr×Obj) (s:Shared),Inv X pins σ H s->wpAny (model X.prog X.w) X.A m (λ_ s'=>∃ σ' H',Inv X pins σ' H' s'/\Q σ' H') X.xe s
def kz(X:Cx)(tg:Expr)(ifs:List Expr)(inner:Sem Unit)(J:It)(after:St->Hp->Prop)(σ:St)(H:Hp):Prop:=
 ∃ W:Nat->Nat->St->Hp->Prop,(∃ m,W 0 m σ H)/\∀ i m σ' H',W i m σ' H' ->
  (J.stop i H' ∧ after σ' H') ∨ (J.go i H' ∧ ∃ N : St → Hp → Prop, (∀ σ' H', N σ' H' → ∃ m', m' < m ∧ W (i + 1) m' σ' H') ∧ ∀ x H2, J.ph i H' x H2 → Eg X tg x σ' H2 λσ2 H3 => Ei X ifs σ2 H3 λb H4 =>
   if b=true then pZ X inner σ2 H4 N else N σ2 H4)
theorem Oy{X:Cx}(xo:X.xe=λ_ _=>False)(hc:X.calm=true){e:Expr}{d:Nat}{tg iter:Expr}{ifs:List Expr}{acc:Value}{inner:Sem Unit}(C:Clause e d tg iter ifs acc X.env inner){pins:List (Addr×Obj)}{σ:St}{H:Hp}{s:Shared}
  {it:Addr} {fp:List Addr} {tn:Nat->Heap->Prop} {J:It} {after:St->Hp->Prop} {R:Result->Shared->Prop} (I:Inv X pins σ H s) (T:Turn X.prog X.w X.K tg J fp it tn) (st:tn 0 s.heap) (hf:∀ b∈fp,b8 X pins H b) (h:kz X tg ifs inner J after σ H)
  (hR:∀ σ' H' s',Inv X pins σ' H' s'->after σ' H'->R (.ok .next) s') :
  codeAny (model X.prog X.w) X.A (.compStart e d (.ref it) acc X.env) R s:=by
 obtain⟨W,⟨m0,w0⟩,turn⟩:=h;have stat:∀{H':Hp},(∀ b∈fp,H' b=none)->∀ b∈fp,b8 X pins H' b:=λhn b hb=>⟨hn b hb,(hf b hb).2⟩;have loop:codeAny (model X.prog X.w) X.A (.compLoop e d (.ref it) acc X.env) R s:=by
  refine Ow C (λk s'=>∃ i σ' H',Inv X pins σ' H' s'/\tn i s'.heap/\(∀ b∈fp,H' b=none)/\W i k σ' H') ?_ m0 ⟨0,σ,H,I,st,λb hb=>(hf b hb).1,w0⟩;rintro k s4 ⟨i,σ4,H4,J4,lW,E6,w4⟩
  rcases turn i k σ4 H4 w4 with ⟨stop,qn⟩ | ⟨go,N,hN,step⟩
  ·have d1:=T.done X rfl rfl rfl hc i pins s4 σ4 H4 (λ_ _=>False) J4 (stat E6) lW stop;refine gG d1 λr s5 ⟨hr,I5⟩=>?_;subst hr;exact hR _ _ _ I5 qn
  ·have d1:=T.item X rfl rfl rfl hc i pins s4 σ4 H4 (λ_ _=>False) J4 (stat E6) lW go;refine gG d1 λr s5 ⟨u,hr,h5⟩=>?_;subst hr;refine gG h5 λ_ s6 ⟨x,H6,I6,r6,y6,xq,Oz⟩=>?_;have OA:=I6.pinned (stat Oz)<|T.obj _ _ xq;have again:∀{σ7:St} {H7:Hp} {s7:Shared},Inv X (pins++pv fp s6.heap) σ7 H7 s7->N σ7 H7->∃ m,m < k/\∃ i σ' H',Inv X pins σ' H' s7/\tn i s7.heap/\(∀ b∈fp,H' b=none)/\W i m σ' H':=λ{σ7 H7 s7} I7 n7=>by
    obtain⟨m',hm,w7⟩:=hN σ7 H7 n7;refine⟨m',hm,i+1,σ7,H7,I7.cE,T.keep _ _ _ xq λb hb o e=>(I7.pin (b,o)<|Aj _<|Aj _<|tf hb e).1,λb hb=>?_,w7⟩;obtain⟨o,e,d⟩:=T.obj _ _ xq b hb;exact(I7.pin (b,o)<|Aj _<|Aj _<|tf hb e).2.1
   have a1:=(step x H6 y6).run _ s6 u OA r6;rw [xo] at a1;refine gG a1 λ_ s7 ⟨σ7,H7,I7,q7⟩=>?_;have a2:=q7.run _ s7 I7;rw [xo] at a2;refine gG a2 λok s8 ⟨H8,I8,q8⟩=>?_;cases ok with
   | false=>
    rw [BJ As] at q8 ⊢;exact again I8 q8
   | true=>
    rw [BK rfl] at q8 ⊢;have a3:=q8.run _ s8 I8;rw [xo] at a3;exact gG a3 λ_ s9 ⟨σ9,H9,I9,q9⟩=>again I9 q9
 exact Ox C loop<|T.self _ 0 _ _ _ st loop
theorem xr{X:Cx}{e:Expr}{tg iter:Expr}{ifs:List Expr}{scope:Scope}{N':List Str}{newAcc:Sem Value}{o0:Obj}{u0:Addr->HO}{n:Nat}{inner:Value->Env->Sem Unit}{pins:List (Addr×Obj)}{σ:St}{H2:Hp}{s2:Shared}{E:Value->Shared->Prop}{RR:Value->Addr->Result->Shared->Prop}{it:Addr}{fp:List Addr}{tn:Nat->Heap->Prop}{J:It}{Q:VK}
  (xt:∀(Q:Value->Shared->Prop) (E:Value->Shared->Prop) (s:Shared),Q (.ref s.heap.objs.size) {s with heap:=s.heap.push o0}->wpAny (model X.prog X.w) X.A newAcc Q E s) (iD:∀(H:Hp) (h:Heap),sysModules < h.objs.size->ax X.prog X.w H (h.push o0) h.objs.size (u0 h.objs.size))
  (hc:X.calm=true) (ck:bE X.env.scope scope X.N N') (hl:N'.length=X.N.length+n) (hC:∀ acc env,Clause e 0 tg iter ifs acc env<|inner acc env)
  (I2:Inv X pins σ H2 s2) (T:Turn X.prog X.w X.K tg J fp it tn) (bh:tn 0 s2.heap) (f2:∀ b∈fp,b8 X pins H2 b)
  (q:∀ D,H2 D=none->∀ cl C s₀ H₀ ex,kz (fW X N' scope cl C s₀ H₀ ex) tg ifs (inner (.ref D)<|compEnvC scope cl C X.env) J (λ_ H'=>Q (.ref D) H') (σ++List.replicate n none)<|upd H2 D<|u0 D)
  (xu:∀ D C H' s' m,Inv X pins σ H' s'->s'.heap.Ns C m->H' C=none->C≠X.env.locals->X.s₀.heap.objs.size<=C->(∀ x c,X.env.cells.lookup x=some c->c≠C)->(∀ p∈X.pn++pins,p.1≠C)->Q (.ref D) H'->RR (.ref D) C (.ok .next) s') :
  wpAny (model X.prog X.w) X.A newAcc (λacc s₃=>wpAny (model X.prog X.w) X.A (newFunctionEnv scope X.env.globals (cg scope.names X.env.cells []) [] X.env.qual none .none<|some X.env) (λiF s₄=>
   codeAny (model X.prog X.w) X.A (.compStart e 0 (.ref it) acc {iF with scope:=relabel scope X.env}) (RR acc iF.locals) s₄) E s₃) E s2:=by
 refine xt _ _ _<|Oi λh₁ hns₁ old₁ hcs₁=>?_;have hD:H2 s2.heap.objs.size=none:=I2.aB.fresh<|Ah _;have q0:=q s2.heap.objs.size hD;have fl:∀ b∈fp,b < s2.heap.objs.size:=λb hb=>by
  obtain⟨o,e,_⟩:=T.obj 0 _ bh b hb;exact Bd e
 have I3:Inv X pins σ (upd H2 s2.heap.objs.size<|u0 s2.heap.objs.size) {s2 with heap:=s2.heap.push o0}:=
  I2.laid (t':=s2.toks) (λb o e=>Ai _ e) (Ah _) (iD _ _ I2.big)
 generalize tR:({s2 with heap:=s2.heap.push o0}:Shared)=s3 at I3 hns₁ old₁ hcs₁ ⊢;have OB:s3.heap.objs.size=s2.heap.objs.size+1:=by rw [<- tR];exact Gu ..
 have xA:∀ b o,s2.heap.get? b=some o->s3.heap.get? b=some o:=λb o e=>by rw [<- tR];exact Ai _ e
 have old:∀ b o,s3.heap.get? b=some o->h₁.get? b=some o:=old₁;have f3:∀ b∈fp,b8 X pins (upd H2 s2.heap.objs.size<|u0 s2.heap.objs.size) b/\b < s3.heap.objs.size:=λb hb=>by
  refine⟨⟨?_,(f2 b hb).2⟩,by rw [OB];exact JN<|fl b hb⟩;rw [av<|Cu<|fl b hb];exact(f2 b hb).1
 have I4:=λ(t':Nat)=>Ol (N':=N') (scope:=scope) (n:=n) (fp:=fp) (h₁:=h₁) (t':=t') I3 ck hl hns₁ old hcs₁ f3;generalize hX:fW X N' scope (cellsFrom (s3.heap.objs.size+1) scope.names<|cg scope.names X.env.cells []) s3.heap.objs.size s3 (upd H2 s2.heap.objs.size<|u0 s2.heap.objs.size) fp=X' at I4;have eP:X'.prog=X.prog:=by rw [<- hX];rfl
 have ew:X'.w=X.w:=by rw [<- hX];rfl
 have eK:X'.K=X.K:=by rw [<- hX];rfl
 have eA:X'.A=X.A:=by rw [<- hX];rfl
 have eE:X'.env=compEnvC scope (cellsFrom (s3.heap.objs.size+1) scope.names<|cg scope.names X.env.cells []) s3.heap.objs.size X.env:=by rw [<- hX];rfl
 have ec:X'.calm=true:=by rw [<- hX];exact hc
 have B6:X'.xe=λ_ _=>False:=by rw [<- hX];rfl
 have stat:∀{H':Hp},(∀ b∈fp,H' b=none)->∀ b∈fp,b8 X' [] H' b:=λhn b hb=>by
  refine⟨hn b hb,?_,?_,?_,?_,?_⟩
  ·rw [eE];exact Cu (f3 b hb).2
  ·rw [<- hX];intro hf
   rcases Ax.mp (I3.dX b hf) with z | z
   ·exact(f3 b hb).1.2.1 z
   ·exact(f3 b hb).1.2.2.1 z
  ·rw [<- hX];exact .inl hb
  ·rw [eE];intro x c e
   rcases EZ e with z | z
   ·exact λk=>absurd (f3 b hb).2<|Nat.not_lt.mpr<|by rw [<- k];exact Eh z.2
   ·exact(f3 b hb).1.2.2.2.2.1 x c<|wO _ _ _ (λ_ _ z=>by simp at z) x c<|CT z
  ·rw [<- hX];intro p hp;exact absurd hp<|by simp [fW]
 have fin:∀{σ':St} {H':Hp} {s':Shared},Inv X' [] σ' H' s'->Q (.ref s2.heap.objs.size) H'->RR (.ref s2.heap.objs.size) s3.heap.objs.size (.ok .next) s':=λ{σ' H' s'} I' q'=>by
  obtain⟨m',sV,_⟩:=id I'.loc;rw [eE] at sV;have OC:s'.os=s3.os:=by have:=I'.os;rw [<- hX] at this;exact this
  have OG:Un (gX X.stack) fp (upd H2 s2.heap.objs.size<|u0 s2.heap.objs.size) H' s3.heap s'.heap:=by have:=I'.base;rw [<- hX] at this;exact this
  have aB:cf X.prog X.w H' s'.heap:=by have:=I'.aB;rw [eP,ew] at this;exact this
  have IX:Inv X pins σ H' s':=I3.call' (ch:=fp) OC OG aB I'.bare λb hb=>⟨(f3 b hb).1.2.2.2.1,(f3 b hb).1.2.1,(f3 b hb).1.2.2.2.2.1,(f3 b hb).1.2.2.2.2.2⟩;have nU:=I'.free;rw [eE] at nU;refine xu _ _ H' s' m' IX sV nU (Dx I3.lt) I3.sz (λx c e z=>?_) (λp hp z=>?_) q'
  ·obtain⟨v,o,ho,_⟩:=I3.cell x c e;exact absurd (Bd ho)<|by rw [z];exact Cs _
  ·exact absurd (Bd (I3.pin p hp).1)<|by rw [z];exact Cs _
 have OH:∀ b∈fp,b8 X' [] (upd H2 s2.heap.objs.size<|u0 s2.heap.objs.size) b:=stat λb hb=>(f3 b hb).1.1;have q1:kz X' tg ifs (inner (.ref s2.heap.objs.size) X'.env) J (λ_ H'=>Q (.ref s2.heap.objs.size) H') (σ++List.replicate n none) (upd H2 s2.heap.objs.size<|u0 s2.heap.objs.size):=by
  rw [eE,<- hX];exact q0 _ _ _ _ _
 have T':Turn X'.prog X'.w X'.K tg J fp it tn:=by rw [eP,ew,eK];exact T
 have fin2:=Oy (s:={s3 with heap:=h₁,toks:=s3.toks}) B6 ec (hC (.ref s2.heap.objs.size) X'.env) (I4 s3.toks) T' (T.keep 0 _ _ bh λb _ o e=>old b o<|xA b o e) OH q1 (R:=RR (.ref s2.heap.objs.size) s3.heap.objs.size) λσ' H' s' I' a'=>fin I' a';rw [eP,ew,eA,eE] at fin2;exact fin2
def emit(elt:Expr)(acc:Value)(env:Env):Sem Unit:=do let _ <- call (.builtin "list.append") [acc,<- eval elt env]
section
variable{X:Cx}{elt tg iter:Expr}{ifs:List Expr}{scope:Scope}{pos:Pos}{σ:St}{H:Hp}{acc:Value}{env:Env}{N':List Str}{J:It}
theorem OI:Clause (.ListComp elt [⟨tg,iter,ifs,0⟩] scope pos) 0 tg iter ifs acc env (emit elt acc env):=⟨rfl,λ_=>rfl,λ_ _ _=>rfl,λ_ _=>rfl,λ_ _ _=>rfl,λ_ _=>rfl,λ_=>rfl⟩
theorem OL{D:Addr}{Q:St->Hp->Prop} (h:Ev X elt σ H λv H1=>∃ ys,H1 D=some (.lst ys)/\ys.length < sizeLine/\Q σ (upd H1 D<|.lst<|ys++[v])):pZ X (emit elt (.ref D) X.env) σ H Q:=by
 refine⟨λpins s I=>?_⟩;unfold emit;refine BL<|aD (h.run pins s I) λv s1 ⟨x,H1,I1,r1,ys,hy,hz,q⟩=>?_;refine BL<|aD (pK (X:=X) _ s1 σ H1 (.ref D) [x] (.ref D) [v] (λ_ H'=>Q σ H') I1 rfl (.cons r1 .nil) ⟨_,ys,x,rfl,rfl,hy,hz,q⟩) λ_ s2 ⟨_,H2,I2,_,q2⟩=>BW ⟨σ,H2,I2,q2⟩
theorem Eg.mono{v:V}{R R':St->Hp->Prop}(h:Eg X elt v σ H R)(f:∀ σ' H',R σ' H'->R' σ' H'):Eg X elt v σ H R':=⟨λpins s u I r=>aD (h.run pins s u I r) λ_ _ ⟨σ',H',I',q⟩=>⟨σ',H',I',f _ _ q⟩⟩
theorem Ei.mono{T T':Bool->Hp->Prop}(h:Ei X ifs σ H T)(f:∀ b H',T b H'->T' b H'):Ei X ifs σ H T':=⟨λpins s I=>aD (h.run pins s I) λ_ _ ⟨H',I',q⟩=>⟨H',I',f _ _ q⟩⟩
theorem OM{D:Addr}{after:Hp->Prop}(h:kr X N' scope tg ifs elt J D after σ H)(cl:List<|Str×Addr)(C:Addr)(s₀:Shared)(H₀:Hp)(ex:List Addr):kz (fW X N' scope cl C s₀ H₀ ex) tg ifs (emit elt (.ref D)<|compEnvC scope cl C X.env) J (λ_ H'=>after H') σ H:=by
 obtain⟨W,w0,t⟩:=h;refine⟨W,w0,λi m σ' H' w=>(t i m σ' H' w).imp id λ⟨g,N,hN,st⟩=>⟨g,N,hN,λx H2 y=>(st x H2 y cl C s₀ H₀ ex).mono λσ2 H3 h3=>(h3 cl C s₀ H₀ ex).mono λb H4 h4=>?_⟩⟩;cases b with
 | true=>
  rw [BK rfl] at h4 ⊢;exact OL (X:=fW X N' scope cl C s₀ H₀ ex)<|h4 cl C s₀ H₀ ex
 | false=>
  rw [BJ As] at h4 ⊢;exact h4
theorem E7{n:Nat}{pins:List (Addr×Obj)}{H2:Hp}{s2:Shared}{E:Value->Shared->Prop}{RR:Value->Addr->Result->Shared->Prop}{it:Addr}{fp:List Addr}{tn:Nat->Heap->Prop}{Q:VK}
  (hc:X.calm=true) (ck:bE X.env.scope scope X.N N') (hl:N'.length=X.N.length+n) (I2:Inv X pins σ H2 s2) (T:Turn X.prog X.w X.K tg J fp it tn) (bh:tn 0 s2.heap) (f2:∀ b∈fp,b8 X pins H2 b)
  (q:∀ D,H2 D=none->kr X N' scope tg ifs elt J D (λH'=>Q (.ref D) H') (σ++List.replicate n none) (upd H2 D<|.lst []))
  (xu:∀ D C H' s' m,Inv X pins σ H' s'->s'.heap.Ns C m->H' C=none->C≠X.env.locals->X.s₀.heap.objs.size<=C->(∀ x c,X.env.cells.lookup x=some c->c≠C)->(∀ p∈X.pn++pins,p.1≠C)->Q (.ref D) H'->RR (.ref D) C (.ok .next) s') :
  wpAny (model X.prog X.w) X.A (newList []) (λacc s₃=>wpAny (model X.prog X.w) X.A (newFunctionEnv scope X.env.globals (cg scope.names X.env.cells []) [] X.env.qual none .none<|some X.env) (λiF s₄=>
   codeAny (model X.prog X.w) X.A (.compStart (.ListComp elt [⟨tg,iter,ifs,0⟩] scope pos) 0 (.ref it) acc {iF with scope:=relabel scope X.env}) (RR acc iF.locals) s₄) E s₃) E s2:=
 xr (newAcc:=newList []) (o0:={cls:= .type "list",dict:=none,data:= .seq ([]:List Value).toArray}) (u0:=λ_=> .lst []) (λ_ _ _ h=>JQ h<|by show(0:Nat)<=sizeLine;exact Br _) (λ_ _ _=>⟨Br _,[],0,.nil,Bp _ rfl⟩) hc ck hl (λ_ _=>OI) I2 T bh f2 (λD hD=>OM<|q D hD) xu
end
section
variable{X:Cx}{elt tg iter c:Expr}{ifs:List Expr}{scope:Scope}{pos p:Pos}{wi:TI}{σ:St}{H:Hp}{Q:VK}{T:Bool->Hp->Prop}{rest:List Stmt}{D:Ends}
theorem fZ(h:T true H):Ei X [] σ H T:=⟨λpins s I=>N0 pins s σ H T I h⟩
theorem OO(h:Et X c σ H T):Ei X [c] σ H T:=⟨λpins s I=>N2 jJ pins s σ H T I h⟩
theorem jf(sc:Scope)(N N':List Str)(n:Nat)(hi:PI X tg iter wi)
  (h:wi σ H λJ H1=>∀ D,H1 D=none->kr X N' scope tg ifs elt J D (λH'=>Q (.ref D) H') (σ++List.replicate n none) (upd H1 D<|.lst []))
  (hc:X.calm=true:=by rfl) (lX:X.env.scope=sc:=by rfl) (hN:X.N=N:=by rfl) (hk:nR sc scope N N'=true:=by decide +kernel) (hl:N'.length=N.length+n:=by rfl)
  (hs:∀ x,foldedSetIterable iter X.env x=pure x:=by intro _;rfl):Ev X (.ListComp elt [⟨tg,iter,ifs,0⟩] scope pos) σ H Q:=by
 refine⟨λpins s I=>?_⟩;subst lX hN;have ck:=bE.of hk;rw [eval_ListComp];refine FQ (use:=none) rfl hs (tH λx hx hf=>I.ok.has x.1<|ck.free x hx hf) ck.kind ck.names (aD (hi pins s σ H _ I h) λv s1 h1=>aD h1 λnC s2 h2=>?_);obtain⟨it,fp,tn,J,H2,e,I2,T,bh,f2,q⟩:=h2;subst e;refine E7 (RR:=λacc C=>compPost (model X.prog X.w) X.A X.xe none (EP X pins σ Q) acc C) hc ck hl I2 T bh f2 q ?_;intro D C H' s' m IX hn hC c1 c2 c3 c4 qq;exact⟨m,hn,λh' dI=>⟨.ref D,H',IX.turned (t':=s'.toks) (λb o hb e=>dI.extBut b o hb e) hC (Ne.symm<|Ne.symm c1) (.inr c2) c3 c4,rfl,qq⟩⟩
theorem tS(i:Nat){y:Str}{py p0:Pos}(sc:Scope)(N N':List Str)(n:Nat)(jL:X.N.Nodup)(hi:PI X tg iter wi)
  (h:wi σ H λJ H1=>∀ A,H1 A=none->kr X N' scope tg ifs elt J A (λH'=>Run X rest D (σ.set i<|some<|.ref A) H') (σ++List.replicate n none) (upd H1 A<|.lst []))
  (OQ:X.N[i]?=some y:=by rfl) (hy:Loc X.env.scope y:=by first | exact Or.inl rfl | exact Or.inr rfl)
  (OS:swapsWith (.ListComp elt [⟨tg,iter,ifs,0⟩] scope pos) (some<|.Name y py) p0.line X.env=pure true:=by rfl)
  (hc:X.calm=true:=by rfl) (lX:X.env.scope=sc:=by rfl) (hN:X.N=N:=by rfl) (hk:nR sc scope N N'=true:=by decide +kernel) (hl:N'.length=N.length+n:=by rfl)
  (hs:∀ x,foldedSetIterable iter X.env x=pure x:=by intro _;rfl) (hf:X.fn y=true\/X.env.scope.names.lookup y=some .local:=by first | exact .inl rfl | exact .inr rfl | assumption) :
  Run X (.Assign [.Name y py] (.ListComp elt [⟨tg,iter,ifs,0⟩] scope pos) p0 :: rest) D σ H:=by
 refine jc (t:=λD' σ H=>wi σ H λJ H1=>∀ A,H1 A=none->kr X N' scope tg ifs elt J A (λH'=>D'.nx (σ.set i<|some<|.ref A) H') (σ++List.replicate n none) (upd H1 A<|.lst [])) ?_ h;intro pins s σ H D I h;subst lX hN;have ck:=bE.of hk;rw [exec_Assign_Name_used _ _ _ _ OS];refine BL<|GJ<|BL ?_;show wpAny _ X.A (do let _ <- comprehension (.ListComp elt [⟨tg,iter,ifs,0⟩] scope pos) scope X.env _ (newList []) false (eval iter X.env)<|some<|assign (.Name y py) X.env) _ _ s;refine BL<|CP (FQ (use:=some<|assign (.Name y py) X.env) (Q:=λ_ s'=>SP X pins D .next s') rfl hs (tH λx hx hf=>I.ok.has x.1<|ck.free x hx hf) ck.kind ck.names
  (aD (hi pins s σ H _ I h) λv s1 h1=>aD h1 λnC s2 h2=>?_)) (λ_ s' hq=>BW<|BW hq) λ_ _ e=>e
 obtain⟨it,fp,tn,J,H2,e,I2,T,bh,f2,q⟩:=h2;subst e;refine E7 (Q:=λx H1=>D.nx (σ.set i<|some x) H1) (RR:=λacc C=>compPost (model X.prog X.w) X.A X.xe (some<|assign (.Name y py) X.env) (λ_ s'=>SP X pins D .next s') acc C) hc ck hl I2 T bh f2 q ?_;intro D' C H' s' m IX hn hC c1 c2 c3 c4 qq;show wpAny _ X.A (assign (.Name y py) X.env<|.ref D') _ _ _;refine wpAny_assign_Name<|B9 IX jL OQ hy (v:= .ref D') rfl (λpE OT tT=>?_) hf;obtain⟨a,tT,ha⟩:=tT;have OU:C≠a:=by
  rcases ha with ha | ha
  ·rw [ha];exact c1
  ·exact Ne.symm<|c3 _ _ ha
 refine⟨m,hn.sameBut tT OU,λh' dI=>⟨_,H',OT.turned (t':=pE.toks) (λb o hb e=>dI.extBut b o hb e) hC c1 (.inr c2) c3 c4,qq⟩⟩
end
structure aG(P:Program)(w:World)(K:PySem.W.Frag)(mg:Str->Option Value)(base:Heap)(k:Nat)(x:Str)(ps:List Str)(sp:Sp):Prop where
 ex:∃ f fd,aC P w K mg base bp k f fd ps sp/\Binds K fd ps []/\PySem.W.keepIn K (.ref f)=true/\mg x=some (.ref f)
theorem aG.mono{P:Program}{w:World}{K:PySem.W.Frag}{mg:Str->Option Value}{base:Heap}{j k:Nat}{x:Str}{ps:List Str}{sp:Sp}(h:aG P w K mg base j x ps sp)(le:j<=k):aG P w K mg base k x ps sp:=
 let ⟨f,fd,F,r⟩:=h.ex;⟨f,fd,F.mono le,r⟩
theorem bV{X:Cx}{k:Nat}{ps:List Str}{sp:Sp}{x:Str}{e:Expr}{es:List Expr}{σ:St}{H:Hp}{Q:VK}{p pos:Pos}(G:aG X.prog X.w X.K X.mg X.base k x ps sp)(hr:a8 k X.A)
  (h:Ea X (e :: es) σ H λvs H1=>sp vs H1 Q E0) (hg:Gl X x:=by rfl) (dY:(x == ("__debug__" : Str))=false:=by decide) (hs:noStar (e :: es)=true:=by rfl):Ev X (.Call (.Name x p) (e :: es) [] pos) σ H Q:=
 let ⟨_,_,F,b,kp,m⟩:=G.ex;Oe F hr m kp b Nq h hg dY hs
theorem _root_.L2.a8.d5{k:Nat}{A:Around}(hr:a8 k A):A.units+100 < cLine:=by have:=hr.un;omega
theorem _root_.L2.a8.u1{k:Nat}{A:Around}(hr:a8 k A):A.units+1 < cLine:=by have:=hr.un;omega
def Df(K:PySem.W.Frag)(x:Str)(st:Stmt):Prop:=∃(f:Addr) (fd:FuncData),PySem.W.nsIn K mainGlobals x=some (some<|.ref f)/\bz K x x st f fd
theorem aH{K:PySem.W.Frag}{x:Str}{st:Stmt}{f:Addr}{oc kV doc pm bo ct:Value}{od an:Option Addr}{sl:Array (Option Value)}(a:PySem.W.nsIn K mainGlobals x=some (some<|.ref f))
  (l:K.lookup f=some ⟨oc,od,.func<|PySem.W.fnOf x x (lO st) (g9 st) (aV st) .none kV doc pm an bo ct,sl⟩) (c:PySem.W.codeIn K bo x=true) (k:PySem.W.keepIn K (.ref f)=true):Df K x st:=⟨f,_,a,Nr l c k⟩
structure E8 where
 f:Addr
 bo:Value
 A:Around
 outer:List Env
 s:Shared
 H:Hp
 E:XK
def OV(N:List Str)(qual:Str)(scope:Scope)(P:Program)(w:World)(K:PySem.W.Frag)(mg:Str->Option Value)(base:Heap)(b:E8):Cx:=(eU bp P w K mg base N qual scope b.f b.bo b.A b.outer b.s b.H b.E).nw
def En(Q:VK):Ends:={nx:=λ_ H'=>Q .non H',rt:=Q}
theorem bz.gb{P:Program}{w:World}{K:PySem.W.Frag}{mg:Str->Option Value}{base:Heap}{x qual:Str}{st:Stmt}{f:Addr}{fd:FuncData}{N ps:List Str}{k:Nat}{sp:Sp}(F:bz K x qual st f fd)(S:au N ps<|aV st)(len:∀ vs H Q E,sp vs H Q E->vs.length=ps.length)
  (dh:∀(b:E8) (H:Hp) (vs:List V) (Q:VK) (E:XK),a8 k (b.A.deeper<|envOfC qual (aV st) b.s.heap.objs.size b.f b.bo)->sp vs H Q E->Run (OV N qual (aV st) P w K mg base b) (g9 st) (En Q) (start N vs) H):aC P w K mg base bp (k+1) f fd ps sp:=
 F.go S len λbo A outer s H vs Q E hr g8=>dh ⟨f,bo,A,outer,s,H,E⟩ H vs Q E hr g8
theorem jg{us:List Value}{k:Nat}(h:us.length=k+1):∃ a r,us=a :: r/\r.length=k:=by
 cases us with
 | nil=>cases h
 | cons a r=>exact⟨a,r,rfl,Nat.succ.inj h⟩
theorem iG{fd:FuncData}{ps:List Str}(f:∀ a:Value,bindArgs fd ⟨[a],[]⟩=pure (ps.zip [a])):∀ us:List Value,us.length=1->bindArgs fd ⟨us,[]⟩=pure (ps.zip us):=λus h=>by
 obtain⟨a,r0,e0,h0⟩:=jg h;have z:=Bt.mp h0;subst z e0;exact f a
theorem fE{fd:FuncData}{ps:List Str}(f:∀ a b:Value,bindArgs fd ⟨[a,b],[]⟩=pure (ps.zip [a,b])):∀ us:List Value,us.length=2->bindArgs fd ⟨us,[]⟩=pure (ps.zip us):=λus h=>by
 obtain⟨a,r0,e0,h0⟩:=jg h;obtain⟨b,r1,e1,h1⟩:=jg h0;have z:=Bt.mp h1;subst z e1 e0;exact f a b
theorem p5{fd:FuncData}{ps:List Str}(f:∀ a b c:Value,bindArgs fd ⟨[a,b,c],[]⟩=pure (ps.zip [a,b,c])):∀ us:List Value,us.length=3->bindArgs fd ⟨us,[]⟩=pure (ps.zip us):=λus h=>by
 obtain⟨a,r0,e0,h0⟩:=jg h;obtain⟨b,r1,e1,h1⟩:=jg h0;obtain⟨c,r2,e2,h2⟩:=jg h1;have z:=Bt.mp h2;subst z e2 e1 e0;exact f a b c
theorem E9{fd:FuncData}{ps:List Str}(f:∀ a b c d:Value,bindArgs fd ⟨[a,b,c,d],[]⟩=pure (ps.zip [a,b,c,d])):∀ us:List Value,us.length=4->bindArgs fd ⟨us,[]⟩=pure (ps.zip us):=λus h=>by
 obtain⟨a,r0,e0,h0⟩:=jg h;obtain⟨b,r1,e1,h1⟩:=jg h0;obtain⟨c,r2,e2,h2⟩:=jg h1;obtain⟨d,r3,e3,h3⟩:=jg h2;have z:=Bt.mp h3;subst z e3 e2 e1 e0;exact f a b c d
theorem Df.has{P:Program}{w:World}{K:PySem.W.Frag}{mg:Str->Option Value}{h base:Heap}{k:Nat}{x:Str}{st:Stmt}{ps:List Str}{sp:Sp}(d:Df K x st)(X:K.In h)(G:h.Ns mainGlobals mg)
  (hb:∀(kV doc pm:Value) (an:Option Addr) (bo ct:Value) (us:List Value),us.length=ps.length->bindArgs (PySem.W.fnOf x x (lO st) (g9 st) (aV st) .none kV doc pm an bo ct) ⟨us,[]⟩=pure (ps.zip us))
  (ok:∀{f:Addr} {fd:FuncData},bz K x x st f fd->aC P w K mg base bp k f fd ps sp):aG P w K mg base k x ps sp:=
 let ⟨f,fd,a,F⟩:=d;⟨f,fd,ok F,F.binds hb,F.kp,QC X G a⟩
theorem Df.law{P:Program}{w:World}{K:PySem.W.Frag}{mg:Str->Option Value}{h:Heap}{k:Nat}{x y:Str}{st:Stmt}{sp:Sp}{fa:Addr}(d:Df K x st)(X:K.In h)(G:h.Ns mainGlobals mg)(xB:mg x=some (.ref fa))
  (hb:∀(kV doc pm:Value) (an:Option Addr) (bo ct:Value) (s:Shared) (v:Value),BindsTo s (PySem.W.fnOf x x (lO st) (g9 st) (aV st) .none kV doc pm an bo ct) ⟨[v],[]⟩ [(y,v)])
  (ok:∀(base:Heap) {f:Addr} {fd:FuncData},bz K x x st f fd->aC P w K mg base bp k f fd [y] sp) :
  ∃ fd:FuncData,(∀(s:Shared) (v:Value),BindsTo s fd ⟨[v],[]⟩ [(y,v)])/\∀ base:Heap,K.In base->base.Ns mainGlobals mg->aC P w K mg base bp k fa fd [y] sp:=by
 obtain⟨f,fd,a,F⟩:=d;have e:=xB.symm.trans<|QC X G a;cases e;obtain⟨oc,od,kV,doc,pm,an,bo,ct,jC,rfl,lk,gY⟩:=id F.ex;exact⟨_,hb kV doc pm an bo ct,λbase _ _=>ok base F⟩
end L2
namespace bP
open PySem
section
variable(prog:Program)(w:World)
end
section
variable{prog:Program}{w:World}{es:Array (Int×Value)}{t:SetTable}{zs:List Str}{h h':Heap}{a:Addr}
end
section
variable{prog:Program}{w:World}{A:Around}{E:Value->Shared->Prop}{s:Shared}{a:Addr}{zs:List Str}
theorem OW{n:Nat}(h:n < 1001):n<=sizeLine:=by rw [DQ];omega
def added(zs:List Str)(z:Str):List Str:=if z∈zs then zs else zs++[z]
theorem cR{α:Type}:∀(l:List α) (j:Nat) (hj:j < l.length),(l[j] :: l.eraseIdx j).Perm l
 | [],_,h=>by simp at h
 | x :: r,0,_=>List.Perm.refl _
 | x :: r,j+1,h=>(List.Perm.swap x _ _).trans<|(cR r j<|Gc h).cons x
end
section
variable{prog:Program}{w:World}{A:Around}{E:Value->Shared->Prop}{s:Shared}{a:Addr}{zs:List Str}
variable{o:Obj}{es:Array (Int×Value)}{ep:Nat}{t:SetTable}
end
open Builtin.Frozenset
section
variable{prog:Program}{w:World}{A:Around}{E:Value->Shared->Prop}{s:Shared}{a:Addr}{zs:List Str}
variable{o:Obj}{ep:Nat}{t:SetTable}
end
section
variable{prog:Program}{w:World}{A:Around}{E:Value->Shared->Prop}{s:Shared}{a r:Addr}{za zr:List Str}
end
section
variable{prog:Program}{w:World}{A:Around}{E:Value->Shared->Prop}{s:Shared}
variable{R:Result->Shared->Prop}{I:Addr}{fp wr:List Addr}{G:Array GenState->Array GenState->Prop}{n:Nat}{P:Nat->Value->Prop}{St:Nat->Shared->Prop}
end
section
variable{prog:Program}{w:World}{A:Around}{E:Value->Shared->Prop}{s:Shared}{a tp it:Addr}{zs:List Str}{o:Obj}{es:Array (Int×Value)}{ep:Nat}{t:SetTable}{ws:List (Int×Value)}{i:Nat}{first:Value}
open PySem.Spec
end
end bP
namespace bP
open PySem PySem.Spec PyProof.Rows
theorem OX(a b:List Nat):ltCps a b=decide (a < b):=ltCps_eq a b
theorem dk:∀(l:List Str) (p:Str),risingS p l=true->∀ x∈l,p.cps.toList<=x.cps.toList
 | [],_,_,x,hx=>by cases hx
 | y :: r,p,h,x,hx=>by
  unfold risingS at h;rw [Cn,Bool.not_eq_true',OX,decide_eq_false_iff_not] at h;have h1:p.cps.toList<=y.cps.toList:=h.1
  rcases Ax.mp hx with rfl | hx
  ·exact h1
  ·exact List.le_trans h1<|dk r y h.2 x hx
theorem dJ{p:Str}:∀{l:List Str},risingS p l=true->sortedS l=true
 | [],_=>rfl
 | y :: r,h=>by
  unfold risingS at h;rw [Cn] at h;exact h.2
theorem f7{a b:Str}(h:a.cps.toList=b.cps.toList):a=b:=by
 cases a;cases b;simp only at h;have:=Fs.mp h;rw [this]
section
variable{prog:Program}{w:World}{A:Around}{E:Value->Shared->Prop}{s:Shared}{a:Addr}{zs:List Str}
end
end bP
namespace L2
open PySem PySem.Spec PyProof.Rows bP
section
variable{X:Cx}{pins:List (Addr×Obj)}{σ:St}{H:Hp}{s s':Shared}{a:Addr}{zs:List Str}
theorem Inv.like(I:Inv X pins σ H s)(e1:s'.heap=s.heap)(e2:s'.gens=s.gens)(e3:s'.os=s.os):Inv X pins σ H s':=by
 obtain⟨h,g,d,t,o⟩:=s;obtain⟨h',g',d',t',o'⟩:=s';simp only at e1 e2 e3;subst e1 e2 e3;exact⟨I.ok,I.os,I.bare,I.base,I.loc,I.cell,I.free,I.bS,I.pin,I.aB,I.len⟩
theorem Inv.f9{o:HO}(I:Inv X pins σ H s)(k:∀ b u,s.heap.get? b=some u->s'.heap.get? b=some u)(e2:s'.gens=s.gens)(e3:s'.os=s.os)(hp:s.heap.objs.size<=a)(new:ax X.prog X.w (upd H a o) s'.heap a o):Inv X pins σ (upd H a o) s':=
 (I.laid (t':=s.toks) k hp new).like (s':=s') rfl e2 e3
theorem Fl:∀{zs:List Str} {us:List Value},aq (zs.map V.str) us->StrsAre us zs
 | [],_,.nil=> .nil
 | z :: r,_,.cons q qs=>by
  obtain⟨t,rfl⟩:=q;exact .cons z t<|Fl qs
theorem FA:∀{us:List Value} {zs:List Str},StrsAre us zs->aq (zs.map V.str) us
 | _,_,.nil=> .nil
 | _,_,.cons z t q=> .cons ⟨t,rfl⟩<|FA q
theorem OY:fq X (.builtin "sorted") (λxs H Q=>∃ p zs,xs=[.ref p]/\ak X.K H p (zs.map V.str)/\zs.length < 64/\∀ l ss,H l=none->ss.Perm zs->sortedS ss=true->Q (.ref l) (upd H l<|.lst<|ss.map V.str)):=by
 intro pins s σ H xs us Q I r h;obtain⟨p,zs,rfl,hp,hl,q⟩:=h;obtain⟨u,rfl,ru⟩:=vals1 r;cases (show u=Value.ref p from ru);obtain⟨its,rv,pl,hz⟩:=I.list hp;have e1:=rv.length;rw [Aa] at e1;refine PyProof.Rows.sorted_strs pl.isList (Fl rv) (by omega) λout ss hS tU xC=>?_;obtain⟨e,he⟩:=sortedAll_at s.heap its out;have hlen:ss.length<=sizeLine:=by rw [tU.length_eq];exact OW<|by omega
 refine⟨.ref _,_,I.f9 (s':={s with heap:=sortedAll s.heap its out}) (λb u hb=>JK hb) rfl rfl (Ef _) (show ax X.prog X.w _ _ _ (.lst<|ss.map V.str) from⟨by rw [Aa];exact hlen,out.toList,e,FA hS,he⟩),rfl,q _ ss (I.aB.fresh<|Ef _) tU xC⟩
end
end L2
namespace L2
open PySem PySem.Spec PyProof.Rows
section
variable{X:Cx}{o e:Expr}{σ:St}{H:Hp}{Q:VK}{ap cp:Pos}
theorem jM (h:Ev X o σ H λx H1=>∃ l,x = .ref l/\(∃ xs,H1 l=some (.lst xs))/\Ev X e σ H1 λy H2=>∃ xs,H2 l=some (.lst xs)/\xs.length < sizeLine/\Q .non (upd H2 l<|.lst<|xs++[y]))
  (bU:attributeBase o "append" X.env (eval o X.env)=eval o X.env:=by rfl)
  (dG:((backTo cp<|starEach [e] X.env).all (λx=>!x.1) && (backToKw cp<|keywordEach [] X.env).all (λx=>x.1.isSome) && decide ([e].length+([]:List Keyword).length+(if([]:List Keyword).isEmpty then 0 else 1) < 30))=true:=by rfl)
  (hline:(ap.endLine == cp.line)=true:=by rfl) (hs:starEach [e] X.env=(false,eval e X.env) :: starEach [] X.env:=by rfl) (bD:(backTo cp<|starEach [] X.env).any (·.1)=false:=by rfl) (cY:isStar e=false:=by rfl) :
  Ev X (.Call (.Attribute o "append" ap) [e] [] cp) σ H Q:=by
 refine de (wA CQ FT FW pK a5 (fX (es:=[e])) bU dG hline hs bD)<|h.mono λx H1 ⟨l,ex,⟨xs,hl⟩,h2⟩=>?_;subst ex;refine⟨.inl ⟨rfl,xs,ak.of hl⟩,?_⟩;exact ao (h2.mono λy H2 ⟨ys,hy,hz,q⟩=>aw ⟨l,ys,y,rfl,rfl,hy,hz,q⟩) cY
end
section
variable{X:Cx}{c:Expr}{body jb rest:List Stmt}{D:Ends}{σ:St}{H:Hp}{pos:Pos}
theorem Run.nx{M M':St->Hp->Prop}{l:List Stmt}(h:Run X l {D with nx:=M} σ H)(f:∀ σ' H',M σ' H'->M' σ' H'):Run X l {D with nx:=M'} σ H:=
 ⟨λpins s I => aD (h.run pins s I) λfl s' q => by
  cases fl with
  | next=>
   obtain⟨σ',H',I',m⟩:=q;exact⟨σ',H',I',f σ' H' m⟩
  | _=>exact q⟩
theorem FC(φ ψ:Prop)(M:St->Hp->Prop)(hc:∀ T:Bool->Hp->Prop,(∀ k:Bool,(k=true->φ)->(k=false->ψ)->T k H)->Et X c σ H T)(ht:φ->Run X body {D with nx:=M} σ H)(hu:ψ->Run X jb {D with nx:=M} σ H)
  (hr:∀ σ' H',M σ' H'->Run X rest D σ' H'):Run X (.If c body jb pos :: rest) D σ H:=
 EV φ ψ hc (λp=>(ht p).nx hr) (λp=>(hu p).nx hr)
end
def jh(X:Cx)(H:Hp)(k:Nat)(x y:V)(b:Bool):Prop:=∀(pins:List<|Addr×Obj) (σ:St) (s:Shared) (A:Around) (u v:Value),Inv X pins σ H s->A.units+k < cLine->RelV x u->RelV y v->SeqAt.EqAt A s u v b
def jN(X:Cx)(H:Hp)(k:Nat)(x y:V)(b:Bool):Prop:=∀(pins:List<|Addr×Obj) (σ:St) (s:Shared) (A:Around) (u v:Value),Inv X pins σ H s->A.units+k < cLine->RelV x u->RelV y v->SeqAt.RcAt A s u v b
def lY(X:Cx)(H:Hp)(k:Nat)(x y:V)(b:Bool):Prop:=∀(pins:List<|Addr×Obj) (σ:St) (s:Shared) (A:Around) (u v:Value),Inv X pins σ H s->A.units+k < cLine->RelV x u->RelV y v->SeqAt.RcNeAt A s u v (!b)
section
variable{X:Cx}{H:Hp}{k:Nat}{a b:Addr}{xs ys:List V}
theorem xD{x y:V}(fx:tE x=true)(fy:tE y=true):jh X H k x y (fz x y):=λ_ _ _ _ _ _ _ _ rx ry=>M0 rx ry fx fy
theorem OZ:jh X H k (.ref a) (.ref a) true:=λ_ _ _ _ u v _ _ rx ry=>by
 cases rx;cases ry;exact SeqAt.EqAt.same _
theorem O0(aY:a≠b){c:Bool}(h:jN X H k (.ref a) (.ref b) c):jh X H k (.ref a) (.ref b) c:=λpins σ s A u v I hu rx ry=>by
 cases rx;cases ry;exact SeqAt.EqAt.of_refs aY<|h pins σ s A _ _ I hu rfl rfl
theorem kA{us:List Value}(r:aq xs us){j:Nat}(h:j < us.length):∃ x,xs[j]?=some x/\RelV x us[j]:=by
 have hl:=r.length;have hj:j < xs.length:=by omega
 obtain⟨u,e,q⟩:=r.get<|Ab hj;rw [Ab h] at e;cases e;exact⟨_,Ab hj,q⟩
theorem FD(e:Nat->Bool)(ha:ak X.K H a xs)(hb:ak X.K H b ys)(hl:xs.length=ys.length)(he:∀ j x y,xs[j]?=some x->ys[j]?=some y->jh X H k x y (e j)):jN X H (k+1) (.ref a) (.ref b) ((List.range xs.length).all e):=λpins σ s A u v I hu rx ry=>by
 cases rx;cases ry;obtain⟨i1,r1,p1,_⟩:=I.list ha;obtain⟨i2,r2,p2,_⟩:=I.list hb;have l1:=r1.length;have l2:=r2.length;have q:=SeqAt.RcAt.lists (A:=A) (e:=e) p1.isList p2.isList (by simp;omega) (by omega) λj h1 h2=>by
  obtain⟨x,ex,qx⟩:=kA r1 (j:=j) (by simpa using h1);obtain⟨y,ey,qy⟩:=kA r2 (j:=j) (by simpa using h2);exact he j x y ex ey pins σ s A.in1 _ _ I (by show A.units+1+k < cLine;omega) (by simpa using qx)<|by simpa using qy
 rw [An,<- l1] at q;exact q
theorem tV(e:Nat->Bool)(ha:ak X.K H a xs)(hb:ak X.K H b ys)(hl:xs.length=ys.length)(he:∀ j x y,xs[j]?=some x->ys[j]?=some y->jh X H k x y (e j)):lY X H (k+1) (.ref a) (.ref b) ((List.range xs.length).all e):=λpins σ s A u v I hu rx ry=>by
 cases rx;cases ry;obtain⟨i1,r1,p1,_⟩:=I.list ha;obtain⟨i2,r2,p2,_⟩:=I.list hb;have l1:=r1.length;have l2:=r2.length;have q:=SeqAt.RcNeAt.lists (A:=A) (e:=e) p1.isList p2.isList (by simp;omega) (by omega) λj h1 h2=>by
  obtain⟨x,ex,qx⟩:=kA r1 (j:=j) (by simpa using h1);obtain⟨y,ey,qy⟩:=kA r2 (j:=j) (by simpa using h2);exact he j x y ex ey pins σ s A.in1 _ _ I (by show A.units+1+k < cLine;omega) (by simpa using qx)<|by simpa using qy
 rw [An,<- l1] at q;exact q
theorem VU(ha:ak X.K H a xs)(hb:ak X.K H b ys)(hl:xs.length≠ys.length):jN X H k (.ref a) (.ref b) false:=λpins σ s A u v I hu rx ry=>by
 cases rx;cases ry;obtain⟨i1,r1,p1,_⟩:=I.list ha;obtain⟨i2,r2,p2,_⟩:=I.list hb;have l1:=r1.length;have l2:=r2.length;exact SeqAt.RcAt.lists_lengths p1.isList p2.isList (by simp;omega)<|by omega
theorem FE(ha:ak X.K H a xs)(hb:ak X.K H b ys)(hl:xs.length≠ys.length):lY X H k (.ref a) (.ref b) false:=λpins σ s A u v I hu rx ry=>by
 cases rx;cases ry;obtain⟨i1,r1,p1,_⟩:=I.list ha;obtain⟨i2,r2,p2,_⟩:=I.list hb;have l1:=r1.length;have l2:=r2.length;exact SeqAt.RcNeAt.lists_lengths p1.isList p2.isList (by simp;omega)<|by omega
theorem xE(e:Nat->Bool)(ha:aK X.K H a xs)(hb:aK X.K H b ys)(hl:xs.length=ys.length)(he:∀ j x y,xs[j]?=some x->ys[j]?=some y->jh X H k x y (e j)):jN X H (k+1) (.ref a) (.ref b) ((List.range xs.length).all e):=λpins σ s A u v I hu rx ry=>by
 cases rx;cases ry;obtain⟨i1,r1,p1,_⟩:=I.tuple ha;obtain⟨i2,r2,p2,_⟩:=I.tuple hb;have l1:=r1.length;have l2:=r2.length;have q:=SeqAt.RcAt.tuples (A:=A) (e:=e) p1 p2 (by omega) λj h1 h2=>by
  obtain⟨x,ex,qx⟩:=kA r1 (j:=j) (by simpa using h1);obtain⟨y,ey,qy⟩:=kA r2 (j:=j) (by simpa using h2);exact he j x y ex ey pins σ s A.in1 _ _ I (by show A.units+1+k < cLine;omega) (by simpa using qx)<|by simpa using qy
 rw [An,An,<- l1,<- l2,hl,JZ,<- hl] at q
 simpa using q
theorem nV(n:Nat):(List.range n).all (λ_=>true)=true:=by simp
theorem FG(hu:X.A.units+100 < cLine):cO X (compareOp .Eq) (λx y H Q=>∃ k c,k<=100/\jN X H k x y c/\Q (.bl c) H):=by
 intro pins s σ H x y v u Q I rx ry h;obtain⟨k,c,hk,hc,q⟩:=h;exact hc pins σ s X.A v u I (by omega) rx ry X.prog X.w X.xe _ ⟨.bl c,H,I,rfl,q⟩
theorem p7(hu:X.A.units+100 < cLine):cO X (compareOp .NotEq) (λx y H Q=>∃ k c,k<=100/\lY X H k x y c/\Q (.bl (!c)) H):=by
 intro pins s σ H x y v u Q I rx ry h;obtain⟨k,c,hk,hc,q⟩:=h;exact hc pins σ s X.A v u I (by omega) rx ry X.prog X.w X.xe _ ⟨.bl (!c),H,I,rfl,q⟩
theorem O1(e:Nat->Bool)(ha:aK X.K H a xs)(hb:aK X.K H b ys)(hl:xs.length=ys.length)(he:∀ j x y,xs[j]?=some x->ys[j]?=some y->jh X H k x y (e j)):lY X H (k+1) (.ref a) (.ref b) ((List.range xs.length).all e):=λpins σ s A u v I hu rx ry=>by
 cases rx;cases ry;obtain⟨i1,r1,p1,_⟩:=I.tuple ha;obtain⟨i2,r2,p2,_⟩:=I.tuple hb;have l1:=r1.length;have l2:=r2.length;have q:=SeqAt.RcNeAt.tuples (A:=A) (e:=e) p1 p2 (by omega) λj h1 h2=>by
  obtain⟨x,ex,qx⟩:=kA r1 (j:=j) (by simpa using h1);obtain⟨y,ey,qy⟩:=kA r2 (j:=j) (by simpa using h2);exact he j x y ex ey pins σ s A.in1 _ _ I (by show A.units+1+k < cLine;omega) (by simpa using qx)<|by simpa using qy
 rw [An,An,<- l1,<- l2,hl,JZ,<- hl] at q
 simpa using q
end
section
variable{X:Cx}{o e f c:Expr}{σ:St}{H:Hp}{Q:VK}{T:Bool->Hp->Prop}{ap cp pos:Pos}{body rest:List Stmt}{D:Ends}
theorem O2{name:Str}{Ty id:String}{r:V->List V->Hp->VK->Prop}(pa:PlainAttrs Ty)(slot:Slot Ty name id)(jE:typeOf (.builtin id)=pure (.type "method_descriptor"))(hm:pI X id r)
  (h:Ev X o σ H λx H1=>ko X.K Ty x H1/\r x [] H1 Q) (bU:attributeBase o name X.env (eval o X.env)=eval o X.env:=by rfl) (hline:(ap.endLine == cp.line)=true:=by rfl):Ev X (.Call (.Attribute o name ap) [] [] cp) σ H Q:=
 de (M4 pa slot jE hm a5 bU hline) h
theorem nW{name:Str}{Ty id:String}{r:V->List V->Hp->VK->Prop}(pa:PlainAttrs Ty)(slot:Slot Ty name id)(jE:typeOf (.builtin id)=pure (.type "method_descriptor"))(hm:pI X id r)
  (h:Ev X o σ H λx H1=>ko X.K Ty x H1/\Ev X e σ H1 λy H2=>r x [y] H2 Q) (bU:attributeBase o name X.env (eval o X.env)=eval o X.env:=by rfl)
  (dG:((backTo cp<|starEach [e] X.env).all (λx=>!x.1) && (backToKw cp<|keywordEach [] X.env).all (λx=>x.1.isSome) && decide ([e].length+([]:List Keyword).length+(if([]:List Keyword).isEmpty then 0 else 1) < 30))=true:=by rfl)
  (hline:(ap.endLine == cp.line)=true:=by rfl) (hs:starEach [e] X.env=(false,eval e X.env) :: starEach [] X.env:=by rfl) (bD:(backTo cp<|starEach [] X.env).any (·.1)=false:=by rfl) (cY:isStar e=false:=by rfl):Ev X (.Call (.Attribute o name ap) [e] [] cp) σ H Q:=
 de (wA pa slot jE hm a5 (fX (es:=[e])) bU dG hline hs bD) (h.mono λx H1 ⟨t,h2⟩=>⟨t,ao (h2.mono λy H2 q=>aw q) cY⟩)
theorem tW{name:Str}{Ty id:String}{r:V->List V->Hp->VK->Prop}(pa:PlainAttrs Ty)(slot:Slot Ty name id)(jE:typeOf (.builtin id)=pure (.type "method_descriptor"))(hm:pI X id r)
  (h:Ev X o σ H λx H1=>ko X.K Ty x H1/\Ev X e σ H1 λy H2=>Ev X f σ H2 λz H3=>r x [y,z] H3 Q) (bU:attributeBase o name X.env (eval o X.env)=eval o X.env:=by rfl)
  (dG:((backTo cp<|starEach [e,f] X.env).all (λx=>!x.1) && (backToKw cp<|keywordEach [] X.env).all (λx=>x.1.isSome) && decide ([e,f].length+([]:List Keyword).length+(if([]:List Keyword).isEmpty then 0 else 1) < 30))=true:=by rfl)
  (hline:(ap.endLine == cp.line)=true:=by rfl) (hs:starEach [e,f] X.env=(false,eval e X.env) :: starEach [f] X.env:=by rfl) (bD:(backTo cp<|starEach [f] X.env).any (·.1)=false:=by rfl) (cY:isStar e=false:=by rfl) (O3:isStar f=false:=by rfl):Ev X (.Call (.Attribute o name ap) [e,f] [] cp) σ H Q:=
 de (wA pa slot jE hm a5 (fX (es:=[e,f])) bU dG hline hs bD) (h.mono λx H1 ⟨t,h2⟩=>⟨t,ao (h2.mono λy H2 h3=>ao (h3.mono λz H3 q=>aw q) O3) cY⟩)
def insertAt(xs:List V)(i:Nat)(y:V):List V:=xs.take i++y :: xs.drop i
def O4:V->List V->Hp->VK->Prop:=λx vs H Q=>∃ l xs i y,x = .ref l/\vs=[.int i,y]/\H l=some (.lst xs)/\0<=i/\i.toNat<=xs.length/\xs.length < sizeLine/\Q .non (upd H l<|.lst<|insertAt xs i.toNat y)
theorem O5{i:Int}(h0:0<=i)(h:i<=16777216):¬(!Builtin.List.listFitsIndex i)=true:=by
 have e:Builtin.List.listFitsIndex i=true:=by
  unfold Builtin.List.listFitsIndex;rw [Cn,DX,DX];omega
 rw [e];exact As
theorem FH:lK X "list.insert" O4:=by
 intro pins s σ H x vs v us Q I rx rv h;obtain⟨l,xs,i,y,rfl,rfl,hH,h0,hi,hz,q⟩:=h;cases rx;obtain⟨u,w',rfl,ru,dP⟩:=rv.two;obtain⟨tk,rfl⟩:=ru;obtain⟨z,its,n,r,hl,e⟩:=I.eW hH;have hs:sizeLine=16777216:=DQ;have z2:its.toArray.size<=sizeLine:=by rw [An,<- hl];exact z
 have mm:=AutoSeq1.list_insert_list_int_val_1 l its.toArray n i tk w' (O5 h0<|by omega) z2;refine IK F.slot_list_insert ⟨_,e,rfl⟩ F.entry_list_insert (F.args_list_insert_3 _ _ _) mm ⟨e,?_⟩;have ef:(λxs:Array Value=>have k:=if i < 0 then(i+(xs.size:Int)).toNat else min i.toNat xs.size;(xs.extract 0 k).push w'++xs.extract k) its.toArray=(its.take i.toNat++w' :: its.drop i.toNat).toArray:=by
  have hn:¬ i < 0:=by omega
  have hm:min i.toNat its.length=i.toNat:=by omega
  simp only [hn,DN,An,hm];apply Array.ext';simp;exact Ci<|by simp
 refine⟨.non,_,I.iC (its':=its.take i.toNat++w' :: its.drop i.toNat) hH e ef ((r.take i.toNat).append<|.cons dP<|r.drop i.toNat) ?_,rfl,q⟩;rw [Ae,Ar,Ay,Cb];omega
def O6:V->List V->Hp->VK->Prop:=λx vs H Q=>∃ a kvs k y,x = .ref a/\vs=[kV k,y]/\H a=some (.dK kvs)/\kvs.length < sizeLine /\
 ((∃ v,aA kvs k=some v/\Q v H)\/(aA kvs k=none/\Q y (upd H a<|.dK<|putK kvs k y)))
theorem FI:lK X "dict.setdefault" O6:=by
 intro pins s σ H x vs v us Q I rx rv h;obtain⟨a,kvs,k,y,rfl,rfl,hH,hz,q⟩:=h;cases rx;obtain⟨u,w',rfl,ru,dP⟩:=rv.two;obtain⟨z,hd,rs,rel,dd⟩:=pQ I.aB hH;have hl:=rel.length;refine call_meetsIn F.slot_dict_setdefault dd.typeIs F.entry_dict_setdefault (F.args_dict_setdefault_3 _ _ _) (kt_meets_setdefault (dS X.prog X.w) a (lP ru) hd w') ⟨rs,dd,by omega,λv hv=>?_,λhn h' hW hs=>?_⟩
 ·have jO:=rel.val k;rw [hv] at jO
  rcases q with ⟨v',e',q⟩ | ⟨e',_⟩
  ·rw [e'] at jO;exact⟨v',H,I.tok _,jO,q⟩
  ·rw [e'] at jO;exact jO.elim
 ·have jO:=rel.val k;rw [hn] at jO
  rcases q with ⟨v',e',_⟩ | ⟨e',q⟩
  ·rw [e'] at jO;exact jO.elim
  ·have he:∃ q,h'.get? a=some q:=let ⟨q,_,_,hq,_⟩:=hW;⟨q,hq⟩
   have jF:(putK kvs k y).length<=sizeLine:=by have:=nH kvs k y;omega
   exact⟨y,_,nK I (by rw [hH];exact True.intro) hs he<|wL jF hd (rel.put k dP) hW,dP,q⟩
theorem xF:fq X (.type "int") (λxs H Q=>∃ b:Bool,xs=[.bl b]/\Q (.int (if b then 1 else 0)) H):=by
 intro pins s σ H xs us Q I r h;obtain⟨b,rfl,q⟩:=h;obtain⟨u,rfl,ru⟩:=vals1 r;cases (show u=Value.bool b from ru);exact call_int_bool ⟨.int (if b then 1 else 0),H,I.tok _,⟨_,rfl⟩,q⟩
theorem O7{jb:List Stmt}(Φ:Bool->Hp->Prop)(M:St->Hp->Prop)(hc:Et X c σ H Φ)(ht:∀ H1,Φ true H1->Run X body {D with nx:=M} σ H1)(hu:∀ H1,Φ false H1->Run X jb {D with nx:=M} σ H1)
  (hr:∀ σ' H',M σ' H'->Run X rest D σ' H'):Run X (.If c body jb pos :: rest) D σ H:=
 d0 (hc.mono λk H1 p=>by
  cases k with
  | true=>rw [BK rfl];exact(ht H1 p).nx hr
  | false=>rw [BJ As];exact(hu H1 p).nx hr)
theorem tX(W:Nat->St->Hp->Prop){m0:Nat}(h0:W m0 σ H)
  (turn:∀ m σ H,W m σ H->Et X c σ H λb H1=>if b=true then Run X body {D with nx:=λσ' H'=>∃ m',m' < m/\W m' σ' H',ct:=λσ' H'=>∃ m',m' < m/\W m' σ' H',bk:=λσ' H'=>Run X rest D σ' H'} σ H1 else Run X rest D σ H1)
  (hp:PassesOwn (model X.prog X.w) X.A X.env X.xe:=by exact HF):Run X (.While c body [] pos :: rest) D σ H:=by
 refine jc (LO hp jJ nN) ⟨W,⟨m0,h0⟩,λm σ1 H1 w1=>(turn m σ1 H1 w1).mono λb H2 q=>?_⟩;cases b with
 | true=>
  rw [BK rfl] at q;exact⟨λσ' H'=>∃ m',m' < m/\W m' σ' H',λ_ _ h=>h,q⟩
 | false=>
  rw [BJ As] at q;exact q
theorem tY(h:∀ p,H p=none->Q (.ref p) (upd H p<|.dK [])):Ev X (.Dict [] [] pos) σ H Q:=de NY h
theorem lZ(hu:X.A.units+1 < cLine)(h:Ev X o σ H λx H1=>Ev X e σ H1 λy H2=>∃ a v,x = .ref a/\bO H2 a y (some v)/\Q v H2)(hs:lQ e:=by intro _ _;rfl):Ev X (.Subscript o e pos) σ H Q:=de (NM hu a5 a5 hs) h
theorem tZ(hu:X.A.units+1 < cLine)(h:Ev X e σ H λy H1=>Ev X o σ H1 λx H2=>∃ a r,x = .ref a/\bO H2 a y r/\T r.isSome H2)(hm:behindInMarks .In o=false:=by with_unfolding_all rfl):Et X (.Compare e [.In] [o] pos) σ H T:=
 nO (CF (NR hu a5 a5) hm) (h.mono λy H1 h2=>h2.mono λx H2 ⟨a,r,h3,h4,h5⟩=>⟨a,r,h3,h4,_,rfl,h5⟩)
theorem O8(hu:X.A.units+1 < cLine)(h:Ev X e σ H λy H1=>Ev X o σ H1 λx H2=>∃ a r,x = .ref a/\bO H2 a y r/\T (!r.isSome) H2)(hm:behindInMarks .NotIn o=false:=by with_unfolding_all rfl):Et X (.Compare e [.NotIn] [o] pos) σ H T:=
 nO (CF (NU hu a5 a5) hm) (h.mono λy H1 h2=>h2.mono λx H2 ⟨a,r,h3,h4,h5⟩=>⟨a,r,h3,h4,_,rfl,h5⟩)
theorem xG{p2:Pos}(hu:X.A.units+1 < cLine)(h:Ev X f σ H λv H1=>Ev X o σ H1 λx H2=>Ev X e σ H2 λy H3=>∃ a H4,x = .ref a/\cQ H3 a y v H4/\Run X rest D σ H4)(hs:swapsWith f (some<|.Subscript o e p2) pos.line X.env=pure false:=by rfl) :
  Run X (.Assign [.Subscript o e p2] f pos :: rest) D σ H:=jc (NV hu a5 a5 a5 hs) h
end
end L2
namespace a6
open PySem PySem.Spec PyProof.Rows
def lexLt(a b:Int×Int):Bool:=if a.1=b.1 then decide (a.2 < b.2) else decide (a.1 < b.1)
theorem O9(b:Bool)(x y:Value):keyLt' (tuples' b) x y=(do
  let xs <- Builtin.List.listItems x
  let ys <- Builtin.List.listItems y
  for ((p,q),i) in (xs.toList.zip ys.toList).zipIdx do
   if !(<- eqBool p q) then return <- oneLt' (b && i == 0) p q
  return xs.size < ys.size):=rfl
section
variable{prog:Program}{w:World}{A:Around}{E:Value->Shared->Prop}{s:Shared}
def Pr(h:Heap)(a:Addr)(p:Int×Int):Prop:=∃ o n t u,h.get? a=some o/\o.cls = .type "tuple"/\o.data = .seq #[.int p.1 t,.int p.2 u] n
theorem FK{a b:Int}{t u:Tok}{Q:Bool->Shared->Prop}(h:Q (decide (a=b)) s):wpAny (model prog w) A (eqBool (.int a t)<|.int b u) Q E s:=by
 refine SeqAt.EqAt.int_int a t b u prog w E Q ?_;have e:(a == b)=decide (a=b):=rfl;rw [e];exact h
theorem O'{a b:Int}{t u:Tok}{Q:Bool->Shared->Prop}(h:Q (decide (a < b)) s):wpAny (model prog w) A (oneLt' false (.int a t)<|.int b u) Q E s:=by
 rw [oneLt'_eq];simp only [Ck,DN];refine BL ?_;show wpAny _ _ (compareOp .Lt (.int a t)<|.int b u) _ _ _;exact lt_int<|DW h
theorem Pa{x y:Addr}{p q:Int×Int}{Q:Bool->Shared->Prop}(hx:Pr s.heap x p)(hy:Pr s.heap y q)(h:Q (lexLt p q) s):wpAny (model prog w) A (keyLt' (tuples' true) (.ref x)<|.ref y) Q E s:=by
 obtain⟨ox,nx,tx,ux,t5,cx,dx⟩:=hx;obtain⟨oy,ny,ty,uy,Pb,cy,dy⟩:=hy;rw [O9];refine BL<|HW t5 dx ?_;refine BL<|HW Pb dy ?_;show wpAny _ _ (forIn [((Value.int p.1 tx,Value.int q.1 ty),0),((Value.int p.2 ux,Value.int q.2 uy),1)] _ _ >>= _) _ _ _;rw [Go];refine BL<|BL ?_
 dsimp only
 refine BL<|FK ?_
 by_cases c:p.1=q.1
 ·rw [CG c];simp only [Bool.not_true,Ck,DN];refine BW ?_
  dsimp only
  rw [Go];refine BL ?_
  dsimp only
  refine BL<|FK ?_
  by_cases c2:p.2=q.2
  ·rw [CG c2];simp only [Bool.not_true,Ck,DN];refine BW ?_
   dsimp only
   rw [List.forIn_nil];refine BW<|BW ?_;have e:lexLt p q=false:=by unfold lexLt;rw [BK c,c2];simp
   rw [e] at h
   simpa using h
  ·rw [BX c2];simp only [Bool.not_false,DP];refine BL<|O'<|BW ?_
   dsimp only
   refine BW<|BW ?_;have e:lexLt p q=decide (p.2 < q.2):=by unfold lexLt;rw [BK c]
   rw [e] at h;exact h
 ·rw [BX c];simp only [Bool.not_false,DP];refine BL<|oneLt_int<|BW ?_
  dsimp only
  refine BW<|BW ?_;have e:lexLt p q=decide (p.1 < q.1):=by unfold lexLt;rw [BJ c]
  rw [e] at h;exact h
theorem FL{x y:Value}:(#[x,y]:Array Value).size<=sizeLine+1:=by
 rw [DQ];show 2<=_;decide
theorem Pg(v:Value):firstOfTuple' v=(do
  if(<- typeOf v) != .type "tuple" then return none
  return (<- Builtin.List.listItems v)[0]?):=rfl
theorem FO{x:Addr}{p:Int×Int}{Q:Option Value->Shared->Prop}(hx:Pr s.heap x p)(h:∀ t,Q (some<|.int p.1 t) s):wpAny (model prog w) A (firstOfTuple'<|.ref x) Q E s:=by
 obtain⟨ox,nx,tx,ux,t5,cx,dx⟩:=hx;rw [Pg];refine BL<|wpAny_typeOf (T:= "tuple") ⟨ox,t5,cx⟩ ?_;rw [show(Value.type "tuple" != Value.type "tuple")=false by decide];simp only [Ck,DN];refine BL<|HW t5 dx ?_;exact BW<|h tx
theorem Ph{x y:Addr}{p q:Int×Int}{Q:SortKind->Shared->Prop}(hx:Pr s.heap x p)(hy:Pr s.heap y q)(h:Q (tuples' true) s):wpAny (model prog w) A (keyKind' #[.ref x,.ref y]) Q E s:=by
 rw [keyKind'_eq,show(#[.ref x,.ref y]:Array Value)=[.ref x,.ref y].toArray from rfl,List.mapM_toArray];refine BL<|wpAny_map ?_;rw [List.mapM_cons];refine BL<|FO hx λt=>?_;rw [List.mapM_cons];refine BL<|BL<|FO hy λu=>?_;rw [List.mapM_nil];refine BL<|BW<|BW<|BW ?_;rw [BK<|by simp];refine BL<|IV ?_;rw [oneTypeOnly'_eq];show wpAny _ _ ((Array.mapM typeOf [Value.int p.1 t,Value.int q.1 u].toArray >>= _) >>= _) _ _ _;rw [List.mapM_toArray];have e1:[Value.int p.1 t,Value.int q.1 u].mapM typeOf=(pure [Value.type "int",Value.type "int"]:Sem _):=rfl;rw [e1];refine BW ?_;have e2:(if((#[Value.type "int",Value.type "int"]:Array Value).all λx=>x == (#[Value.type "int",Value.type "int"]:Array Value)[0])=true then some (#[Value.type "int",Value.type "int"]:Array Value)[0] else none)=some (Value.type "int"):=by
  rw [BK]
  ·rfl
  ·simp
 show Q (tuples'<|Option.any (λx=>x != Value.type "tuple") _) s;rw [e2];exact h
theorem wp_at{st:SortSt}{x y:Addr}{p q:Int×Int}{i j:Nat}{Q:Option Bool->SortSt->Prop}(hk:kindOf st=tuples' true)(hi:(arrOf st)[i]?=some (.ref x,.ref x))(hj:(arrOf st)[j]?=some (.ref y,.ref y))(hx:Pr s.heap x p)(hy:Pr s.heap y q)(h:Q (some<|lexLt p q) st) :
  wpS (model prog w) A E s (ltAt' i j) Q st:=by
 rw [ltAt'_eq];refine BP<|DY ?_;show wpS _ _ _ _ (elem' (arrOf st) i >>= λa=>elem' (arrOf st) j >>= λb=>lt' a b) Q st;rw [elem'_eq,elem'_eq,hi,hj];refine BP<|BR<|BP<|BR ?_;rw [lt'_eq];refine BP<|DY ?_;rw [hk];refine BP<|wpS_lift<|wpAny_attempt<|Pa hx hy ⟨rfl,?_⟩;exact BR h
def ji(x y:Addr)(p q:Int×Int):Array Keyed:=if lexLt q p then #[(.ref y,.ref y),(.ref x,.ref x)] else #[(.ref x,.ref x),(.ref y,.ref y)]
theorem Pj{x y:Addr}{p q:Int×Int}{Q:Option Nat->SortSt->Prop}(hx:Pr s.heap x p)(hy:Pr s.heap y q)
  (h:Q (some 2)<|SortSt.mk' (tuples' true) (ji x y p q) #[] 7 none):wpS (model prog w) A E s (countRun' 0 2) Q (SortSt.mk' (tuples' true) #[(.ref x,.ref x),(.ref y,.ref y)] #[] 7 none):=by
 rw [countRun0_eq];refine BP ?_;unfold ascLoop;refine CZ (CJ (I:=λi c st=>st=SortSt.mk' (tuples' true) #[(.ref x,.ref x),(.ref y,.ref y)] #[] 7 none/\c=(none,i)/\(i=2->lexLt q p=false))
  (Q:=λc st=>st=SortSt.mk' (tuples' true) #[(.ref x,.ref x),(.ref y,.ref y)] #[] 7 none/\((c=(none,1)/\lexLt q p=true)\/(c=(none,2)/\lexLt q p=false))) ?_ ?_ ⟨rfl,rfl,λh=>by cases h⟩) ?_
 ·rintro i c st h1 h2 ⟨rfl,rfl,hI⟩;have e:i=1:=by omega
  subst e;refine BP<|wp_at rfl rfl rfl hy hx ?_
  dsimp only
  cases hb:lexLt q p with
  | true=>
   rw [BK rfl];exact BR ⟨rfl,.inl ⟨rfl,rfl⟩⟩
  | false=>
   rw [BJ As];exact BR ⟨rfl,rfl,λ_=>rfl⟩
 ·rintro c st ⟨rfl,rfl,hI⟩;exact⟨rfl,.inr ⟨rfl,hI rfl⟩⟩
 ·rintro c st ⟨rfl,⟨rfl,hb⟩ | ⟨rfl,hb⟩⟩
  ·dsimp only
   rw [BJ (by decide),BJ<|by decide];unfold descPart;refine BP<|wpS_lift<|IV ⟨rfl,?_⟩;unfold descLoop;refine BP (CZ (CJ (I:=λi c st=>c=(none,2,0)/\st=SortSt.mk' (tuples' true) #[(.ref x,.ref x),(.ref y,.ref y)] #[] 7 none) (Q:=λc st=>c=(none,2,0)/\st=SortSt.mk' (tuples' true) #[(.ref x,.ref x),(.ref y,.ref y)] #[] 7 none) (λi c st h1 h2 _=>by omega) (λc st h=>h) ⟨rfl,rfl⟩) ?_);rintro c st ⟨rfl,rfl⟩
   dsimp only
   rw [BJ<|by decide];unfold tail3;refine BP<|wpS_reverse ?_;unfold ascLoop;refine BP (CZ (CJ (I:=λi c st=>c=(none,2)/\st=SortSt.mk' (tuples' true) #[(.ref y,.ref y),(.ref x,.ref x)] #[] 7 none) (Q:=λc st=>c=(none,2)/\st=SortSt.mk' (tuples' true) #[(.ref y,.ref y),(.ref x,.ref x)] #[] 7 none) (λi c st h1 h2 _=>by omega) (λc st h=>h) ⟨rfl,rfl⟩) ?_);rintro c st ⟨rfl,rfl⟩
   dsimp only
   refine BR ?_;unfold ji at h;rw [BK hb] at h;exact h
  ·dsimp only
   rw [BK<|by decide];refine BR ?_;unfold ji at h;rw [BJ<|by rw [hb];exact As] at h;exact h
theorem Pk{x y:Addr}{p q:Int×Int}{Q:Unit->SortSt->Prop}(hx:Pr s.heap x p)(hy:Pr s.heap y q)(h:∀ st,arrOf st=ji x y p q->failedOf st=none->Q () st) :
  wpS (model prog w) A E s sortRuns' Q (SortSt.mk' (tuples' true) #[(.ref x,.ref x),(.ref y,.ref y)] #[] 7 none):=by
 rw [sortRuns'_eq];refine BP<|DY ?_
 dsimp only
 have t6:minRun' 2 2 0=2:=by rw [minRun'_succ,BK<|by decide]
 show wpS _ _ _ _ ((forIn [0:2] _ _) >>= _) _ _;have sz:(#[(Value.ref x,Value.ref x),(Value.ref y,Value.ref y)]:Array Keyed).size=2:=rfl;refine BP<|CZ (CJ (I:=λi c st=>(i=0/\c=(none,0)/\st=SortSt.mk' (tuples' true) #[(.ref x,.ref x),(.ref y,.ref y)] #[] 7 none)\/(1<=i/\c=(none,2)/\st=SortSt.mk' (tuples' true) (ji x y p q) #[(0,2,0)] 7 none))
  (Q:=λc st=>c=(none,2)/\st=SortSt.mk' (tuples' true) (ji x y p q) #[(0,2,0)] 7 none) ?_ ?_ (.inl ⟨rfl,rfl,rfl⟩)) ?_
 ·rintro i c st h1 h2 (⟨rfl,rfl,rfl⟩ | ⟨hi,rfl,rfl⟩)
  ·dsimp only
   rw [BJ<|by show ¬(0>=2);decide];refine BP ?_;show wpS _ _ _ _ (countRun' 0 2) _ _;refine Pj hx hy ?_
   dsimp only
   rw [BJ<|by show ¬(2 < minRun' 2 2 0);rw [t6];decide];refine BP<|DY ?_;show wpS _ _ _ _ (modify _ >>= _) _ _;exact BP<|HB<|BR<|.inr ⟨Ah _,rfl,rfl⟩
  ·dsimp only
   rw [BK<|by show 2>=2;decide];exact BR ⟨rfl,rfl⟩
 ·rintro c st (⟨h1,_,_⟩ | ⟨_,hc,hs⟩)
  ·exact absurd h1<|by decide
  ·exact⟨hc,hs⟩
 ·rintro c st ⟨rfl,rfl⟩
  dsimp only
  refine BP<|CZ (CJ (I:=λ_ c st=>st=SortSt.mk' (tuples' true) (ji x y p q) #[(0,2,0)] 7 none/\c=(none,())) (Q:=λc st=>st=SortSt.mk' (tuples' true) (ji x y p q) #[(0,2,0)] 7 none/\c=(none,())) ?_ (λ_ _ hh=>hh) ⟨rfl,rfl⟩) ?_
  ·rintro i c st _ _ ⟨rfl,rfl⟩;refine BP<|DY ?_;rw [BK<|by show 1<=1;decide];exact BR ⟨rfl,rfl⟩
  ·rintro c st ⟨rfl,rfl⟩;exact BR<|h _ rfl rfl
theorem Pl{a x y:Addr}{p q:Int×Int}{n:Nat}{P:Fin->Shared->Prop}(ho:s.heap.get? a=some (seqObj "list" #[.ref x,.ref y] n))(Pn:a≠x)(Pp:a≠y)(hx:Pr s.heap x p)(hy:Pr s.heap y q)
  (h:P (.done<|.ret .none) {s with heap:=sortedHeap s.heap a [.ref x,.ref y] (if lexLt p q then #[.ref y,.ref x] else #[.ref x,.ref y])}) :
  wpAny (model prog w) A (Builtin.«list.sort» ⟨[.ref a],[(Str.ofString "reverse",.bool true)]⟩) P E s:=by
 rw [list_sort_rev];have ha:a < s.heap.objs.size:=Bd ho;refine BL<|HW ho rfl ?_;refine BL<|FP ho rfl ?_;obtain⟨e1,kB⟩:∃ e1,(s.heap.update a<|Obj.mapSeq λ_=>#[]).get? a=some (seqObj "list" #[] e1):=⟨_,get?_update_seq ho λ_=>#[]⟩;refine BL<|GQ kB rfl ?_;refine BL<|wpAny_newTuple ?_;refine BL<|HD ?_;refine DR ?_;have ie:(((s.heap.update a<|Obj.mapSeq λ_=>#[]).push<|seqObj "tuple" [Value.ref x,Value.ref y].toArray 0).push<|seqObj "list" #[] 0).get? a=some (seqObj "list" #[] e1):=
  Ai _ (Ai _ kB)
 show wpAny (model prog w) A _ P E {s with heap:=((s.heap.update a<|Obj.mapSeq λ_=>#[]).push<|seqObj "tuple" [Value.ref x,Value.ref y].toArray 0).push (seqObj "list" #[] 0)};have keep:∀ z r,a≠z->Pr s.heap z r->Pr (((s.heap.update a<|Obj.mapSeq λ_=>#[]).push<|seqObj "tuple" [Value.ref x,Value.ref y].toArray 0).push<|seqObj "list" #[] 0) z r:=by
  rintro z r hz ⟨o,m,t,u,q1,q2⟩;exact⟨o,m,t,u,Ai _<|Ai _<|(Cq _ _ hz).trans q1,q2⟩
 have kx:=keep x p Pn hx;have ky:=keep y q Pp hy
 dsimp only
 rw [BK rfl];refine BL<|IV ?_;rw [BJ<|by show ¬(2 < 2);decide];refine BL<|Ph kx ky ?_;rw [BJ<|by show ¬(2 < 2);decide];have e2:(if true=true then((#[Value.ref x,Value.ref y]:Array Value).zip #[Value.ref x,Value.ref y]).reverse else(#[Value.ref x,Value.ref y]:Array Value).zip #[Value.ref x,Value.ref y])=#[(Value.ref y,Value.ref y),(Value.ref x,Value.ref x)]:=by
  rw [BK rfl];simp
 rw [e2];refine BL<|CP (Pk (Q:=λ_ st=>arrOf st=ji y x q p/\failedOf st=none) ky kx λst h1 h2=>⟨h1,h2⟩) ?_ λ_ _ e=>e;rintro ⟨⟨⟩,ai⟩ s' ⟨rfl,hs,hf⟩
 dsimp only
 have e3:(if true=true then((arrOf ai).map (·.2)).reverse else(arrOf ai).map (·.2))=(if lexLt p q then #[.ref y,.ref x] else #[.ref x,.ref y]):=by
  rw [BK rfl,hs];unfold ji
  split <;> simp
 refine BL<|GQ ie rfl ?_;refine BL (FP ie rfl ?_ (hsz2:=by rw [e3];split <;> exact FL));rw [hf];simp only [GX,Ck,DN];refine BW ?_;have e4:(λ_:Array Value=>if True then((arrOf ai).map (·.2)).reverse else(arrOf ai).map (·.2))=λ_=>(if lexLt p q then #[.ref y,.ref x] else #[.ref x,.ref y]):=by
  funext _
  rw [BK trivial];rw [BK rfl] at e3;exact e3
 rw [e4];exact h
theorem Pq{l x y:Addr}{p q:Int×Int}{Q:Value->Shared->Prop}(hl:s.heap.IsList l #[.ref x,.ref y])(hx:Pr s.heap x p)(hy:Pr s.heap y q)
  (h:∀(h':Heap) (e:Nat),(∀ b u,s.heap.get? b=some u->h'.get? b=some u)->h'.get? (s.heap.objs.size+1)=some (seqObj "list" (if lexLt p q then #[.ref y,.ref x] else #[.ref x,.ref y]) e)->Q (.ref<|s.heap.objs.size+1) {s with heap:=h'}) :
  wpAny (model prog w) A (call (.builtin "sorted") [.ref l] [(Str.ofString "reverse",.bool true)]) Q E s:=by
 refine call_function_entry_kw kind_sorted plain_sorted entry_sorted (args_sorted_rev _ _) ?_;unfold Builtin.«sorted»;refine BL (m:=checkCount "sorted" 1 1 _)<|BW ?_;refine BL<|collect_list (vs:=[.ref x,.ref y]) hl ?_;refine BL<|HD ?_;have hsz:((s.heap.push<|seqObj "list" #[] 0).update s.heap.objs.size (Obj.mapSeq (·++[Value.ref x,Value.ref y].toArray))).objs.size=s.heap.objs.size+1:=by
  rw [KC,size_push']
 have i':(((s.heap.push<|seqObj "list" #[] 0).update s.heap.objs.size (Obj.mapSeq (·++[Value.ref x,Value.ref y].toArray))).push<|seqObj "list" [Value.ref x,Value.ref y].toArray 0).get? (s.heap.objs.size+1)=some (seqObj "list" [Value.ref x,Value.ref y].toArray 0):=by
  rw [<- hsz];exact Bp _ rfl
 have lx:x < s.heap.objs.size:=let ⟨_,_,_,_,e,_⟩:=hx;Bd e
 have ly:y < s.heap.objs.size:=let ⟨_,_,_,_,e,_⟩:=hy;Bd e
 have keep:∀ z r,Pr s.heap z r->Pr (((s.heap.push<|seqObj "list" #[] 0).update s.heap.objs.size (Obj.mapSeq (·++[Value.ref x,Value.ref y].toArray))).push<|seqObj "list" [Value.ref x,Value.ref y].toArray 0) z r:=by
  rintro z r ⟨o,m,t,u,q1,q2⟩;have hz:=Bd q1;exact⟨o,m,t,u,Ai _<|(Cq _ _<|Dx hz).trans<|Ai _ q1,q2⟩
 show wpAny _ _ _ _ _ {s with heap:=((s.heap.push<|seqObj "list" #[] 0).update s.heap.objs.size (Obj.mapSeq (·++[Value.ref x,Value.ref y].toArray))).push (seqObj "list" [Value.ref x,Value.ref y].toArray 0)};rw [hsz];refine BL<|DR<|wpAny_call_entry_kw slot_list_sort ⟨_,i',rfl⟩ entry_list_sort (Pl i' (Dx<|JN lx) (Dx<|JN ly) (keep x p hx) (keep y q hy) ⟨_,rfl,?_⟩)<|args_list_sort_rev _ _;obtain⟨e,he⟩:=sortedAll_at s.heap [Value.ref x,Value.ref y] (if lexLt p q then #[.ref y,.ref x] else #[.ref x,.ref y]);exact BW ⟨_,rfl,h _ e (λb u hb=>JK hb) he⟩
end
end a6
namespace L2
open PySem PySem.Spec PyProof.Rows a6
section
variable{X:Cx}{e:Expr}{σ:St}{H:Hp}{Q:VK}{pos p kp cp:Pos}{j:Nat}
theorem FR{pins:List (Addr×Obj)}{s:Shared}{a:Addr}{i j:Int}(I:Inv X pins σ H s)(h:H a=some (.tup [.int i,.int j])):Pr s.heap a (i,j):=by
 obtain⟨its,r,pl,_⟩:=I.tuple<|aK.of h;obtain⟨u,v,rfl,⟨t,rfl⟩,⟨t',rfl⟩⟩:=vals2 r;obtain⟨o,ho,hc,n,hd⟩:=pl;exact⟨o,n,t,t',ho,hc,hd⟩
theorem Pt(hm:X.mg "sorted" = none) (h:Ev X e σ H λv H1=>∃ l x y a b c d,v = .ref l/\H1 l=some (.lst [.ref x,.ref y])/\H1 x=some (.tup [.int a,.int b])/\H1 y=some (.tup [.int c,.int d]) /\
   ∀ r,H1 r=none->Q (.ref r) (upd H1 r<|.lst (if lexLt (a,b) (c,d) then [.ref y,.ref x] else [.ref x,.ref y]))) (hg:Gl X "sorted":=by rfl)
  (he:backTo pos (starEach [e] X.env)=(false,eval e X.env) :: backTo pos (starEach [] X.env):=by rfl) (bD:(backTo pos<|starEach [e] X.env).any (·.1)=false:=by rfl) (cY:isStar e=false:=by rfl) :
  Ev X (.Call (.Name "sorted" p) [e] [⟨some "reverse",.Constant (.bool true) j cp,kp⟩] pos) σ H Q:=by
 refine⟨λpins s I=>?_⟩;refine HN<|lg I hg hm FZ ?_;have hE:Ea X [e] σ H λvs H1=>∃ l x y a b c d,vs=[.ref l]/\H1 l=some (.lst [.ref x,.ref y])/\H1 x=some (.tup [.int a,.int b])/\H1 y=some (.tup [.int c,.int d]) /\
   ∀ r,H1 r=none->Q (.ref r) (upd H1 r<|.lst (if lexLt (a,b) (c,d) then [.ref y,.ref x] else [.ref x,.ref y])):=
  ao (h.mono λv H1 ⟨l,x,y,a,b,c,d,e1,r1⟩=>aw ⟨l,x,y,a,b,c,d,by rw [e1],r1⟩) cY
 refine callWith_kw (aD (hE.run pos pins s I) λus s1 ⟨vs,H1,I1,r1,l,x,y,a,b,c,d,ev,hl,hx,hy,q⟩=>?_) he bD;subst ev;obtain⟨u,rfl,ru⟩:=vals1 r1;cases (show u=Value.ref l from ru);refine kws_cons<|BW<|kws_nil ?_;obtain⟨its,r2,pl,_⟩:=I1.list<|ak.of hl;obtain⟨u,v,rfl,ru,rv⟩:=vals2 r2;cases (show u=Value.ref x from ru);cases (show v=Value.ref y from rv);refine Pq pl.isList (FR I1 hx) (FR I1 hy) λh' e kp he=>?_;refine⟨.ref _,_,I1.f9 (s':={s1 with heap:=h'}) kp rfl rfl (Ef _) (show ax X.prog X.w _ h' _ (.lst (if lexLt (a,b) (c,d) then [.ref y,.ref x] else [.ref x,.ref y])) from ?_),rfl,q _<|I1.aB.fresh<|Ef _⟩
 split at he
 ·rename_i hb;rw [BK hb];exact⟨by show 2<=sizeLine;rw [DQ];decide,[.ref y,.ref x],e,.cons rfl (.cons rfl .nil),he⟩
 ·rename_i hb;rw [BJ hb];exact⟨by show 2<=sizeLine;rw [DQ];decide,[.ref x,.ref y],e,.cons rfl (.cons rfl .nil),he⟩
end
end L2
namespace Nt
open PySem
abbrev Net:=List<|Str×List Str
abbrev End:=Nat×Nat
def row(n:Net)(r:Nat):List Str:=((n[r]?).map (·.2)).getD []
def dQ(n:Net)(e:End):Option Str:=(row n e.1)[e.2]?
def bF(r:Nat)(ts:List Str)(p:Nat):List (Str×End):=(ts.zipIdx p).map λx=>(x.1,(r,x.2))
def fj(r:Nat):Net->List (Str×End)
 | []=>[]
 | a :: n=>bF r a.2 0++fj (r+1) n
def bG(n:Net):List (Str×End):=fj 0 n
def ends(n:Net):List End:=(bG n).map (·.2)
def ah(n:Net):List Str:=n.flatMap (·.2)
def pos(n:Net)(z:Str):List End:=((bG n).filter λx=>decide (x.1=z)).map (·.2)
theorem bH{r:Nat}{ts:List Str}{p:Nat}{z:Str}{e:End}:(z,e)∈bF r ts p↔e.1=r/\p<=e.2/\ts[e.2 - p]?=some z:=by
 unfold bF;rw [At]
 constructor
 ·rintro ⟨⟨y,k⟩,hm,he⟩;cases he;have:=Fp.mp hm;exact⟨rfl,this.1,this.2⟩
 ·rintro ⟨h1,h2,h3⟩;refine⟨(z,e.2),Fp.mpr ⟨h2,h3⟩,?_⟩;rw [<- h1]
theorem bq:∀{n:Net} {k:Nat} {z:Str} {e:End},(z,e)∈fj k n↔k<=e.1/\(row n<|e.1 - k)[e.2]?=some z
 | [],k,z,e=>by
  constructor
  ·intro h;cases h
  ·rintro ⟨_,h⟩;simp [row] at h
 | a :: n,k,z,e=>by
  unfold fj;rw [Al,bH,bq]
  constructor
  ·rintro (⟨h1,_,h3⟩ | ⟨h1,h2⟩)
   ·refine⟨by omega,?_⟩;rw [show e.1 - k=0 by omega]
    simpa [row] using h3
   ·refine⟨by omega,?_⟩;rw [show e.1 - k=(e.1 - (k+1))+1 by omega]
    simpa [row] using h2
  ·rintro ⟨h1,h2⟩
   rcases Ft k e.1 with h | h
   ·refine .inr ⟨h,?_⟩;rw [show e.1 - k=(e.1 - (k+1))+1 by omega] at h2
    simpa [row] using h2
   ·refine .inl ⟨by omega,Br _,?_⟩;rw [show e.1 - k=0 by omega] at h2
    simpa [row] using h2
theorem aM{n:Net}{z:Str}{e:End}:(z,e)∈bG n↔dQ n e=some z:=by
 unfold bG dQ;rw [bq];simp
theorem aI{n:Net}{e:End}:e∈ends n↔∃ z,dQ n e=some z:=by
 unfold ends;rw [At]
 constructor
 ·rintro ⟨⟨z,e'⟩,h,rfl⟩;exact⟨z,aM.mp h⟩
 ·rintro ⟨z,h⟩;exact⟨(z,e),aM.mpr h,rfl⟩
theorem bZ{n:Net}{z:Str}{e:End}:e∈pos n z↔dQ n e=some z:=by
 unfold pos;rw [At]
 constructor
 ·rintro ⟨⟨y,e'⟩,h,rfl⟩;rw [Du,DX] at h;obtain⟨h1,h2⟩:=h;subst h2;exact aM.mp h1
 ·intro h;exact⟨(z,e),Du.mpr ⟨aM.mpr h,by simp⟩,rfl⟩
theorem Pu(r:Nat):∀(ts:List Str) (p:Nat),(bF r ts p).map (·.1)=ts:=by
 intro ts p;unfold bF;rw [Be];have:((λx:Str×End=>x.1) ∘ λx:Str×Nat=>(x.1,(r,x.2)))=Prod.fst:=rfl;rw [this,List.zipIdx_map_fst]
theorem nX:∀(n:Net) (k:Nat),(fj k n).map (·.1)=ah n
 | [],_=>rfl
 | a :: n,k=>by
  unfold fj ah;rw [Ag,Pu,nX n<|k+1,Ej];rfl
theorem Pw(r:Nat)(ts:List Str)(p:Nat):((bF r ts p).map (·.2)).Nodup:=by
 unfold bF;rw [Be];have e:((λx:Str×End=>x.2) ∘ λx:Str×Nat=>(x.1,(r,x.2)))=(λk:Nat=>(r,k)) ∘ Prod.snd:=rfl;rw [e,<- Be,List.zipIdx_map_snd];refine List.Pairwise.map _ (R:=(·≠·)) ?_ List.nodup_range';intro a b h cb;exact h (Prod.mk.inj cb).2
theorem FU:∀(n:Net) (k:Nat),((fj k n).map (·.2)).Nodup
 | [],_=>Dg
 | a :: n,k=>by
  unfold fj;rw [Ag,Cz];refine⟨Pw _ _ _,FU n<|k+1,?_⟩;intro x hx y hy e;subst e;obtain⟨⟨z,e1⟩,h1,rfl⟩:=At.mp hx;obtain⟨⟨z2,e2⟩,h2,he⟩:=At.mp hy;simp only at he;subst he;have q1:=(bH.mp h1).1;have q2:=(bq.mp h2).1;omega
theorem Px(n:Net):(ends n).Nodup:=FU n 0
theorem Py(n:Net)(z:Str):(pos n z).Nodup:=by
 unfold pos;exact(Px n).sublist<|List.Sublist.map _<|List.filter_sublist
theorem l3(n:Net)(z:Str):(pos n z).length=(ah n).count z:=by
 unfold pos;rw [Aa,<- nX n 0,<- JB,List.count,List.countP_map];rfl
def cv(n:Net):Prop:=∀ z∈ah n,(ah n).count z=2
theorem nY{n:Net}{e:End}{z:Str}(h:dQ n e=some z):z∈ah n:=by
 have:=aM.mpr h;rw [<- nX n 0];exact At.mpr ⟨_,this,rfl⟩
def other(n:Net)(e:End):End:=match dQ n e with
 | some z=>(match pos n z with
  | [a,b]=>if a=e then b else a
  | _=>e)
 | none=>e
theorem xH{n:Net}(T:cv n){e:End}{z:Str}(h:dQ n e=some z):∃ a b,pos n z=[a,b]/\a≠b/\(e=a\/e=b):=by
 have hl:=l3 n z;rw [T z<|nY h] at hl;have hn:=Py n z;have hm:=bZ.mpr h
 match hp:pos n z,hl with
 | [a,b],_=>
  rw [hp] at hn hm;refine⟨a,b,rfl,?_,?_⟩
  ·intro e;subst e;simp at hn
  ·simpa using hm
theorem xI{n:Net}(T:cv n){e:End}{z:Str}(h:dQ n e=some z):dQ n (other n e)=some z/\other n (other n e)=e/\other n e≠e:=by
 obtain⟨a,b,hp,cb,he⟩:=xH T h;have ha:dQ n a=some z:=bZ.mp (by rw [hp];simp);have hb:dQ n b=some z:=bZ.mp<|by rw [hp];simp
 rcases he with rfl | rfl
 ·have e1:other n e=b:=by unfold other;simp only [h,hp];simp
  have e2:other n b=e:=by unfold other;simp only [hb,hp];simp [cb]
  rw [e1];exact⟨hb,e2,cb.symm⟩
 ·have e1:other n e=a:=by unfold other;simp only [h,hp];simp [cb]
  have e2:other n a=e:=by unfold other;simp only [ha,hp];simp
  rw [e1];exact⟨ha,e2,cb⟩
def left(n:Net)(e:End):End:=(e.1,(e.2+1) % (row n e.1).length)
def step(n:Net)(e:End):End:=left n (other n e)
theorem nZ{n:Net}{e:End}{z:Str}(h:dQ n e=some z):e.2 < (row n e.1).length:=(Ac.mp h).1
theorem t7{n:Net}{e:End}{z:Str}(h:dQ n e=some z):e.1 < n.length:=by
 rcases Ft e.1 n.length with c | c
 ·exact c
 ·have:=nZ h;unfold row at this;rw [Da c] at this;simp at this
theorem FV{n:Net}{e:End}(h:e.2 < (row n e.1).length):∃ z,dQ n e=some z:=⟨_,Ab h⟩
theorem Pz{n:Net}{e:End}(h:e∈ends n):left n e∈ends n:=by
 obtain⟨z,h⟩:=aI.mp h;have:=nZ h;exact aI.mpr<|FV (show(e.2+1) % (row n e.1).length < (row n e.1).length from Nat.mod_lt _<|by omega)
theorem t8{n:Net}(T:cv n){e:End}(h:e∈ends n):other n e∈ends n:=by
 obtain⟨z,h⟩:=aI.mp h;exact aI.mpr ⟨z,(xI T h).1⟩
theorem xJ{n:Net}(T:cv n){e:End}(h:e∈ends n):step n e∈ends n:=Pz<|t8 T h
theorem PD{n:Net}{a b:End}(ha:a∈ends n)(hb:b∈ends n)(h:left n a=left n b):a=b:=by
 obtain⟨z,ha⟩:=aI.mp ha;obtain⟨y,hb⟩:=aI.mp hb;have la:=nZ ha;have lb:=nZ hb;unfold left at h;obtain⟨h1,h2⟩:=Prod.mk.inj h;rw [h1] at la h2;have:a.2=b.2:=by
  rcases Ft (a.2+1) (row n b.1).length with c | c <;> rcases Ft (b.2+1) (row n b.1).length with d | d
  ·rw [Gi c,Gi d] at h2;omega
  ·have e:b.2+1=(row n b.1).length:=by omega
   rw [Gi c,e,Nat.mod_self] at h2;omega
  ·have e:a.2+1=(row n b.1).length:=by omega
   rw [Gi d,e,Nat.mod_self] at h2;omega
  ·omega
 exact Prod.ext h1 this
theorem PF{n:Net}(T:cv n){a b:End}(ha:a∈ends n)(hb:b∈ends n)(h:other n a=other n b):a=b:=by
 obtain⟨z,ha⟩:=aI.mp ha;obtain⟨y,hb⟩:=aI.mp hb;rw [<- (xI T ha).2.1,h,(xI T hb).2.1]
theorem PH{n:Net}(T:cv n){a b:End}(ha:a∈ends n)(hb:b∈ends n)(h:step n a=step n b):a=b:=
 PF T ha hb (PD (t8 T ha) (t8 T hb) h)
theorem aU{α:Type} [DecidableEq α]:∀{a b:List α},a.Nodup->(∀ z∈a,z∈b)->a.length<=b.length
 | [],b,_,_=>Br _
 | x :: r,b,hn,hs=>by
  rw [Cc] at hn;have hx:=hs x Ak;have:=aU (a:=r) (b:=b.erase x) hn.2 λz hz=>by
   have aY:z≠x:=λe=>hn.1<|e ▸ hz;exact(Ek aY).mpr<|hs z<|Aq _ hz
  rw [Db hx] at this;have hp:0 < b.length:=Ey hx;rw [Ar];omega
def it{α:Type}(f:α->α):Nat->α->α
 | 0,a=>a
 | k+1,a=>f<|it f k a
theorem n4{α:Type}{f:α->α}{S:List α}(hf:∀ a∈S,f a∈S){a:α}(h:a∈S):∀ k,it f k a∈S
 | 0=>h
 | k+1=>hf _<|n4 hf h k
theorem PQ{α:Type} [DecidableEq α] {f:α->α} {S:List α} (hf:∀ a∈S,f a∈S) (inj:∀ a∈S,∀ b∈S,f a=f b->a=b) {a:α} (h:a∈S):∃ k,0 < k/\k<=S.length/\it f k a=a:=by
 have cancel:∀ i j,it f i a=it f (i+j) a->it f j a=a:=by
  intro i
  induction i with
  | zero=>intro j e;rw [KD] at e;exact e.symm
  | succ i ih=>
   intro j e;refine ih j ?_;rw [show i+1+j=(i+j)+1 by omega] at e;exact inj _ (n4 hf h i) _ (n4 hf h<|i+j) e
 refine CN λhn=>?_;have nd:((List.range<|S.length+1).map λi=>it f i a).Nodup:=by
  refine List.Pairwise.map _ (R:=λi j=>i < j/\j < S.length+1) ?_ ?_
  ·rintro i j ⟨h1,h2⟩ e;refine hn ⟨j - i,by omega,by omega,cancel i (j - i) ?_⟩;rw [show i+(j - i)=j by omega];exact e
  ·rw [Bg];intro i j hi hj cS;simp only [List.getElem_range];simp at hj;exact⟨cS,hj⟩
 have:=aU nd λz hz=>by
  obtain⟨i,_,rfl⟩:=At.mp hz;exact n4 hf h i
 simp at this;omega
theorem kC:∀(n:Net) (r:Nat),(row n r).length<=(ah n).length
 | [],r=>by simp [row,ah]
 | a :: n,0=>by simp [row,ah]
 | a :: n,r+1=>by
  have:=kC n r;simp [row,ah] at this ⊢;omega
theorem FX:∀(n:Net) (r:Nat),(ah<|n.take r).length<=(ah n).length
 | [],r=>by simp [ah]
 | a :: n,0=>by simp [ah]
 | a :: n,r+1=>by
  have:=FX n r;simp [ah] at this ⊢;omega
structure fF(n:Net)(e:Nt.End)(fs:List End):Prop where
 pos:0 < fs.length
 len:fs.length<=(ends n).length
 at':∀ i,i < fs.length->fs[i]?=some (it (step n) i e)
 back:it (step n) fs.length e=e
 first:∀ i,0 < i->i < fs.length->it (step n) i e≠e
open L2
abbrev Ls(zs:List Str):HO:= .lst<|zs.map V.str
abbrev Tp(e:End):HO:= .tup [.int e.1,.int e.2]
structure aj(H:Hp)(R:Addr)(as:List<|Addr×Addr)(n:Net):Prop where
 len:as.length=n.length
 lst:H R=some (.lst<|as.map λa=> .ref a.1)
 tup:∀(i:Nat) a r,as[i]?=some a->n[i]?=some r->H a.1=some (.tup [.str r.1,.ref a.2])/\H a.2=some (Ls r.2)
 inj:(as.map (·.2)).Nodup
theorem aj.same{H H':Hp}{R:Addr}{as:List (Addr×Addr)}{n:Net}(h:aj H R as n)(s:ag H H'):aj H' R as n:=
 ⟨h.len,s _ _ h.lst,λi a r h1 h2=>⟨s _ _ (h.tup i a r h1 h2).1,s _ _ (h.tup i a r h1 h2).2⟩,h.inj⟩
theorem aj.at{H:Hp}{R:Addr}{as:List (Addr×Addr)}{n:Net}(h:aj H R as n){i:Nat}(hi:i < n.length) :
  ∃ a,as[i]?=some a/\di (as.map λa=>V.ref a.1) (i:Int)=some (.ref a.1)/\H a.1=some (.tup [.str n[i].1,.ref a.2])/\H a.2=some (Ls<|row n i)/\row n i=n[i].2:=by
 have hl:=h.len;have e:as[i]?=some as[i]:=Ab (by omega);have er:row n i=n[i].2:=by unfold row;rw [Ab hi];rfl
 have q:=h.tup i as[i] n[i] e<|Ab hi;refine⟨as[i],e,gF (by rw [Ad,e];rfl),q.1,?_,er⟩;rw [er];exact q.2
theorem xK{zs:List Str}{j:Nat}{z:Str}(h:zs[j]?=some z):di (zs.map V.str) (j:Int)=some (.str z):=gF<|by rw [Ad,h];rfl
inductive Pd (H:Hp):List Addr->List End->Prop where
 | nil:Pd H [] []
 | cons {t:Addr} {e:End} {ts:List Addr} {es:List End}:H t=some (Tp e)->Pd H ts es->Pd H (t :: ts) (e :: es)
theorem Pd.append{H:Hp}{ts us:List Addr}{es fs:List End}(h:Pd H ts es)(g:Pd H us fs):Pd H (ts++us) (es++fs):=by
 induction h with
 | nil=>exact g
 | cons h1 _ ih=>exact .cons h1 ih
theorem Pd.keep{H H':Hp}{ts:List Addr}{es:List End}(h:Pd H ts es)(k:∀ t e,H t=some (Tp e)->H' t=some (Tp e)):Pd H' ts es:=by
 induction h with
 | nil=>exact .nil
 | cons h1 _ ih=>exact .cons (k _ _ h1) ih
theorem Pd.length{H:Hp}{ts:List Addr}{es:List End}(h:Pd H ts es):ts.length=es.length:=by
 induction h with
 | nil=>rfl
 | cons _ _ ih=>rw [Ar,Ar,ih]
theorem Pd.at{H:Hp}{ts:List Addr}{es:List End}(h:Pd H ts es):∀{i:Nat} {e:End},es[i]?=some e->∃ t,ts[i]?=some t/\H t=some (Tp e):=by
 induction h with
 | nil=>intro i e h;simp at h
 | cons h1 _ ih=>
  intro i e h;cases i with
  | zero=>simp at h;subst h;exact⟨_,rfl,h1⟩
  | succ i=>simp only [Co] at h ⊢;exact ih h
def b4(done:List<|Str×End)(z:Str):List End:=(done.filter λx=>decide (x.1=z)).map (·.2)
theorem dD(done:List<|Str×End)(y z:Str)(e:End):b4 (done++[(y,e)]) z=b4 done z++(if y=z then [e] else []):=by
 unfold b4;rw [Ez,Ag]
 congr 1
 by_cases h:y=z
 ·rw [BK h];simp [h]
 ·rw [BJ h];simp [h]
structure aT(H0 H:Hp)(d:Addr)(done:List<|Str×End)(kvs:List<|Key×V)(ks:List Str)(A:Str->Option (Addr×List Addr)):Prop where
 same:ag H0 H
 free:H0 d=none
 dict:H d=some (.dK kvs)
 keys:kvs.map (·.1)=ks.map Sum.inr
 nodup:ks.Nodup
 mem:∀ z,z∈ks↔(A z).isSome=true
 val:∀ z,aA kvs (Sum.inr z)=(A z).map λa=> .ref a.1
 at':∀ z a ts,A z=some (a,ts)->H0 a=none/\a≠d/\H a=some (.lst<|ts.map V.ref)/\Pd H ts (b4 done z)
 inj:∀ z y a ts us,A z=some (a,ts)->A y=some (a,us)->z=y
 eY:∀ z,A z=none->b4 done z=[]
 some':∀ z a ts,A z=some (a,ts)->b4 done z≠[]
theorem aT.start{H:Hp}{d:Addr}(h:H d=none):aT H (upd H d<|.dK []) d [] [] [] (λ_=>none) where
 same:=λb u q=>by rw [av<|bC q h];exact q
 free:=h
 dict:=ae
 keys:=rfl
 nodup:=Dg
 mem:=λz=>by simp
 val:=λz=>rfl
 at':=λz a ts h=>by cases h
 inj:=λz y a ts us h=>by cases h
 eY:=λz _=>rfl
 some':=λz a ts h=>by cases h
theorem p8{H:Hp}{t a:Addr}{e:End}{xs:List V}(h:H t=some (Tp e))(g:H a=some (.lst xs)):t≠a:=en h g λz=>nomatch z
theorem aT.old{H0 H:Hp}{d:Addr}{done:List (Str×End)}{kvs:List (Key×V)}{ks:List Str}{A:Str->Option (Addr×List Addr)}(S:aT H0 H d done kvs ks A){z:Str}{e:End}{a l0 t:Addr}{ts:List Addr}
  (hA:A z=some (a,ts)) (hl:H l0=none) (ht:(upd H l0<|.lst []) t=none) :
  aT H0 (upd (upd (upd H l0<|.lst []) t<|Tp e) a<|.lst<|ts.map V.ref++[.ref t]) d (done++[(z,e)]) kvs ks (λy=>if y=z then some (a,ts++[t]) else A y):=by
 obtain⟨q1,q2,q3,q4⟩:=S.at' z a ts hA;have t9:H t=none:=by
  by_cases c:t=l0
  ·rw [c,ae] at ht;cases ht
  ·rwa [av c] at ht
 have gI:l0≠a:=(bC q3 hl).symm;have ua:t≠a:=(bC q3 t9).symm;have bW:a≠t:=ua.symm;have keep:∀ b u,b≠a->H b=some u->(upd (upd (upd H l0<|.lst []) t<|Tp e) a<|.lst<|ts.map V.ref++[.ref t]) b=some u:=λb u h1 h2=>by
  rw [av h1,av<|bC h2 t9,av<|bC h2 hl];exact h2
 have kt:∀ b f,H b=some (Tp f)->(upd (upd (upd H l0<|.lst []) t<|Tp e) a<|.lst<|ts.map V.ref++[.ref t]) b=some (Tp f):=λb f h=>keep b _ (p8 h q3) h;have et:(upd (upd (upd H l0<|.lst []) t<|Tp e) a<|.lst<|ts.map V.ref++[.ref t]) t=some (Tp e):=by rw [av ua,ae]
 refine⟨λb u h=>?_,S.free,keep d _ (Ne.symm q2) S.dict,S.keys,S.nodup,λy=>?_,λy=>?_,λy a' cr h=>?_,λy y' a' cr us h1 h2=>?_,λy h=>?_,λy a' cr h=>?_⟩
 ·exact keep b u (bC h q1)<|S.same _ _ h
 ·rw [S.mem y]
  by_cases c:y=z
  ·rw [BK c,c,hA];simp
  ·rw [BJ c]
 ·rw [S.val y]
  by_cases c:y=z
  ·rw [BK c,c,hA];rfl
  ·rw [BJ c]
 ·by_cases c:y=z
  ·rw [BK c] at h;cases h;refine⟨q1,q2,by rw [ae,Ag];rfl,?_⟩;rw [dD,c,BK rfl];exact(q4.keep kt).append<|.cons et .nil
  ·rw [BJ c] at h;obtain⟨r1,r2,r3,r4⟩:=S.at' y a' cr h;have aY:a'≠a:=λe2=>c<|S.inj y z a cr ts (e2 ▸ h) hA;refine⟨r1,r2,keep _ _ aY r3,?_⟩;rw [dD,BJ λh=>c h.symm,Bc];exact r4.keep kt
 ·by_cases c:y=z <;> by_cases c':y'=z
  ·rw [c,c']
  ·rw [BK c] at h1;rw [BJ c'] at h2;cases h1;exact absurd (S.inj y' z a us ts h2 hA) c'
  ·rw [BJ c] at h1;rw [BK c'] at h2;cases h2;exact absurd (S.inj y z a cr ts h1 hA) c
  ·rw [BJ c] at h1;rw [BJ c'] at h2;exact S.inj y y' a' cr us h1 h2
 ·by_cases c:y=z
  ·rw [BK c] at h;cases h
  ·rw [BJ c] at h;rw [dD,BJ λh=>c h.symm,Bc];exact S.eY y h
 ·by_cases c:y=z
  ·rw [dD,BK c.symm];simp
  ·rw [BJ c] at h;rw [dD,BJ λh=>c h.symm,Bc];exact S.some' y a' cr h
theorem aT.new{H0 H:Hp}{d:Addr}{done:List (Str×End)}{kvs:List (Key×V)}{ks:List Str}{A:Str->Option (Addr×List Addr)}(S:aT H0 H d done kvs ks A){z:Str}{e:End}{l0 t:Addr}
  (hA:A z=none) (hl:H l0=none) (ht:(upd (upd H l0<|.lst []) d<|.dK<|putK kvs (Sum.inr z)<|.ref l0) t=none) :
  aT H0 (upd (upd (upd (upd H l0<|.lst []) d<|.dK<|putK kvs (Sum.inr z)<|.ref l0) t<|Tp e) l0<|.lst [.ref t]) d (done++[(z,e)]) (putK kvs (Sum.inr z)<|.ref l0) (ks++[z]) (λy=>if y=z then some (l0,[t]) else A y):=by
 have gJ:d≠l0:=bC S.dict hl;have xL:t≠d:=λc=>by rw [c,ae] at ht;cases ht
 have l4:t≠l0:=λc=>by rw [av xL,c,ae] at ht;cases ht
 have t9:H t=none:=by rwa [av xL,av l4] at ht
 have vn:aA kvs (Sum.inr z)=none:=by rw [S.val z,hA];rfl
 have keep:∀ b u,b≠d->H b=some u->(upd (upd (upd (upd H l0<|.lst []) d<|.dK<|putK kvs (Sum.inr z)<|.ref l0) t<|Tp e) l0<|.lst [.ref t]) b=some u:=λb u h1 h2=>by
  rw [av<|bC h2 hl,av<|bC h2 t9,av h1,av<|bC h2 hl];exact h2
 have kt:∀ b f,H b=some (Tp f)->(upd (upd (upd (upd H l0<|.lst []) d<|.dK<|putK kvs (Sum.inr z)<|.ref l0) t<|Tp e) l0<|.lst [.ref t]) b=some (Tp f):=λb f h=>keep b _ (en h S.dict λz=>nomatch z) h;have PR:H0 l0=none:=S.same.free hl;have zk:z∉ks:=λh=>by
  have:=(S.mem z).mp h;rw [hA] at this;cases this
 refine⟨λb u h=>?_,S.free,?_,?_,?_,λy=>?_,λy=>?_,λy a' cr h=>?_,λy y' a' cr us h1 h2=>?_,λy h=>?_,λy a' cr h=>?_⟩
 ·exact keep b u (bC h S.free)<|S.same _ _ h
 ·rw [av gJ,av xL.symm,ae]
 ·rw [Nu _ vn,Ag,S.keys,Ag];rfl
 ·rw [Cz];exact⟨S.nodup,by simp,λx hx y hy e=>by rw [Af] at hy;subst hy e;exact zk hx⟩
 ·rw [Al,Af,S.mem y]
  by_cases c:y=z
  ·rw [BK c];simp [c]
  ·rw [BJ c];simp [c]
 ·rw [fV]
  by_cases c:y=z
  ·rw [BK (by rw [c]),BK c];rfl
  ·rw [BJ λh=>c<|Sum.inr.inj h,BJ c,S.val y]
 ·by_cases c:y=z
  ·rw [BK c] at h;cases h;refine⟨PR,gJ.symm,by rw [ae];rfl,?_⟩;rw [dD,c,BK rfl,S.eY z hA];exact .cons (by rw [av l4,ae]) .nil
  ·rw [BJ c] at h;obtain⟨r1,r2,r3,r4⟩:=S.at' y a' cr h;refine⟨r1,r2,keep _ _ r2 r3,?_⟩;rw [dD,BJ λh=>c h.symm,Bc];exact r4.keep kt
 ·by_cases c:y=z <;> by_cases c':y'=z
  ·rw [c,c']
  ·rw [BK c] at h1;rw [BJ c'] at h2;cases h1;exact absurd hl<|by rw [(S.at' y' l0 us h2).2.2.1];exact λh=>nomatch h
  ·rw [BJ c] at h1;rw [BK c'] at h2;cases h2;exact absurd hl<|by rw [(S.at' y l0 cr h1).2.2.1];exact λh=>nomatch h
  ·rw [BJ c] at h1;rw [BJ c'] at h2;exact S.inj y y' a' cr us h1 h2
 ·by_cases c:y=z
  ·rw [BK c] at h;cases h
  ·rw [BJ c] at h;rw [dD,BJ λh=>c h.symm,Bc];exact S.eY y h
 ·by_cases c:y=z
  ·rw [dD,BK c.symm];simp
  ·rw [BJ c] at h;rw [dD,BJ λh=>c h.symm,Bc];exact S.some' y a' cr h
theorem xM:∀(n m:Net) (k:Nat),fj k (n++m)=fj k n++fj (k+n.length) m
 | [],m,k=>rfl
 | a :: n,m,k=>by
  show bF k a.2 0++fj (k+1) (n++m)=(bF k a.2 0++fj (k+1) n)++fj (k+(n.length+1)) m;rw [xM n m<|k+1,Aw,show k+1+n.length=k+(n.length+1) by omega]
theorem ub{n:Net}{r:Nat}(h:r < n.length):bG (n.take<|r+1)=bG (n.take r)++bF r (row n r) 0:=by
 unfold bG;rw [Cj,Ab h,xM];have e:(n.take r).length=r:=by rw [Ay];omega
 rw [e,KD];have er:row n r=n[r].2:=by unfold row;rw [Ab h];rfl
 rw [er];show _++(bF r n[r].2 0++[])=_;rw [Bc]
theorem uc{r:Nat}{ts:List Str}{p:Nat}{z:Str}(h:ts[p]?=some z):bF r (ts.take<|p+1) 0=bF r (ts.take p) 0++[(z,(r,p))]:=by
 unfold bF;have hp:=(Ac.mp h).1;rw [Cj,h,List.zipIdx_append,Ag];have e:(ts.take p).length=p:=by rw [Ay];omega
 rw [e,KD];rfl
structure bm(H:Hp)(d:Addr)(n:Net)(ks:List Str):Prop where
 dict:∃ kvs,H d=some (.dK kvs)/\kvs.map (·.1)=ks.map Sum.inr/\∀ z∈ah n,∃ a ts,aA kvs (Sum.inr z)=some (.ref a)/\H a=some (.lst<|ts.map V.ref)/\Pd H ts (pos n z)
 nodup:ks.Nodup
 mem:∀ z,z∈ks↔z∈ah n
theorem bm.same{H H':Hp}{d:Addr}{n:Net}{ks:List Str}(S:bm H d n ks)(s:ag H H'):bm H' d n ks:=by
 obtain⟨kvs,h1,h2,h3⟩:=S.dict;refine⟨⟨kvs,s _ _ h1,h2,λz hz=>?_⟩,S.nodup,S.mem⟩;obtain⟨a,ts,q1,q2,q3⟩:=h3 z hz;exact⟨a,ts,q1,s _ _ q2,q3.keep λt e h=>s _ _ h⟩
theorem PU{n:Net}{z:Str}:z∈ah n↔pos n z≠[]:=by
 rw [<- Fz,<- l3,Cg]
theorem aT.whole{H0 H:Hp}{d:Addr}{n:Net}{kvs:List (Key×V)}{ks:List Str}{A:Str->Option (Addr×List Addr)}(S:aT H0 H d (bG n) kvs ks A):bm H d n ks:=by
 have mem:∀ z,z∈ks↔z∈ah n:=λz=>by
  rw [S.mem z,PU];cases h:A z with
  | none=>simp;exact S.eY z h
  | some p=>
   obtain⟨a,ts⟩:=p;simp;exact S.some' z a ts h
 refine⟨⟨kvs,S.dict,S.keys,λz hz=>?_⟩,S.nodup,mem⟩;have:=(S.mem z).mp<|(mem z).mpr hz;cases h:A z with
 | none=>rw [h] at this;cases this
 | some p=>
  obtain⟨a,ts⟩:=p;obtain⟨q1,q2,q3,q4⟩:=S.at' z a ts h;exact⟨a,ts,by rw [S.val z,h];rfl,q3,q4⟩
theorem all2(e:Nat->Bool):(List.range 2).all e=(e 0 && e 1):=by
 show(([0,1]:List Nat).all e)=_;simp
theorem FY(x y:End):(fz (.int x.1) (.int y.1) && fz (.int x.2) (.int y.2))=decide (x=y):=by
 obtain⟨a,b⟩:=x;obtain⟨c,d⟩:=y
 by_cases h:a=c <;> by_cases h2:b=d
 ·subst h h2;simp [fz]
 ·have:¬(b:Int)=(d:Int):=λe=>h2 (by omega);simp [fz,h2,this]
 ·have:¬(a:Int)=(c:Int):=λe=>h (by omega);simp [fz,h,this]
 ·have:¬(a:Int)=(c:Int):=λe=>h (by omega);simp [fz,h,this]
section
variable{X:Cx}{H:Hp}{s t:Addr}{x y:End}
theorem F0:∀(j:Nat) (u v:V),[V.int x.1,.int x.2][j]?=some u->[V.int y.1,.int y.2][j]?=some v->jh X H 0 u v (if j=0 then fz (.int x.1) (.int y.1) else fz (.int x.2) (.int y.2))
 | 0,u,v,h1,h2=>by
  cases h1;cases h2;exact xD rfl rfl
 | 1,u,v,h1,h2=>by
  cases h1;cases h2;exact xD rfl rfl
 | j+2,u,v,h1,h2=>by simp at h1
theorem PV(hs:H s=some (Tp x))(ht:H t=some (Tp y)):jN X H 1 (.ref s) (.ref t) (decide (x=y)):=by
 have:=xE (X:=X) (k:=0) (λj=>if j=0 then fz (.int x.1) (.int y.1) else fz (.int x.2) (.int y.2)) (aK.of hs) (aK.of ht) rfl F0;rw [show([V.int (x.1:Int),.int x.2].length)=2 from rfl,all2] at this;have e:=FY x y;simp only [DP] at this;rw [BJ (by decide),e] at this;exact this
theorem PY(hs:H s=some (Tp x))(ht:H t=some (Tp y)):lY X H 1 (.ref s) (.ref t) (decide (x=y)):=by
 have:=O1 (X:=X) (k:=0) (λj=>if j=0 then fz (.int x.1) (.int y.1) else fz (.int x.2) (.int y.2)) (aK.of hs) (aK.of ht) rfl F0;rw [show([V.int (x.1:Int),.int x.2].length)=2 from rfl,all2] at this;have e:=FY x y;simp only [DP] at this;rw [BJ (by decide),e] at this;exact this
end
abbrev lets:Str:= "abcdefghijklmnopqrstuvwxyz0123456789"
theorem F1:lets.cps.toList.length=36:=by decide +kernel
theorem PZ:lets.cps.toList.Nodup:=by decide +kernel
def sgn(i:Int):Nat:=(di lets.cps.toList<|i % 36).getD 0
theorem xN(i:Int):di lets.cps.toList (i % 36)=some (sgn i):=by
 have h0:0<=i % 36:=Bv _ (by decide);have h1:i % 36 < 36:=Cf _ (by decide);have hj:(i % 36).toNat < lets.cps.toList.length:=by rw [F1];omega
 have q:=gF (xs:=lets.cps.toList) (j:=(i % 36).toNat) (v:=lets.cps.toList[(i % 36).toNat]) (by simp [hj]);rw [show(((i % 36).toNat:Nat):Int)=i % 36 by omega] at q;unfold sgn;rw [q];rfl
theorem F3{i j:Int}(h:sgn i=sgn j):i % 36=j % 36:=by
 have key:∀ k:Int,lets.cps.toList[(k % 36).toNat]?=some (sgn k):=λk=>by
  have h0:0<=k % 36:=Bv _ (by decide);have h1:k % 36 < 36:=Cf _ (by decide);have hj:(k % 36).toNat < lets.cps.toList.length:=by rw [F1];omega
  have q:=gF (xs:=lets.cps.toList) (j:=(k % 36).toNat) (v:=lets.cps.toList[(k % 36).toNat]) (by simp [hj]);rw [show(((k % 36).toNat:Nat):Int)=k % 36 by omega,xN] at q;rw [Ab hj,Option.some.inj q]
 have hi:=key i;have hj:=key j;rw [h] at hi;obtain⟨l1,e1⟩:=Ac.mp hi;obtain⟨l2,e2⟩:=Ac.mp hj;have:=(JW (xs:=lets.cps.toList) (h₀:=l1) (h₁:=l2) PZ).mp<|e1.trans e2.symm;have a0:0<=i % 36:=Bv _ (by decide);have b0:0<=j % 36:=Bv _ (by decide);omega
def turn(b:Int)(sp:Int)(v k:Nat):Int:=b / 64+(k:Int) * (b / 7 % 5)+(if(k:Int)=sp then(v:Int) else 0)
def nm(b sp:Int)(v:Nat):Nat->Str
 | 0=>⟨#[]⟩
 | k+1=>nm b sp v k++⟨#[sgn<|turn b sp v k]⟩
theorem app_list(x y:Str):(x++y).cps.toList=x.cps.toList++y.cps.toList:=by
 show(x.cps++y.cps).toList=_;simp
theorem ud(b sp:Int)(v:Nat):∀ k,(nm b sp v k).cps.toList=(List.range k).map λj=>sgn<|turn b sp v j
 | 0=>rfl
 | k+1=>by
  show(nm b sp v k++⟨#[sgn<|turn b sp v k]⟩).cps.toList=_;rw [app_list,ud b sp v k,Ce,Ag];rfl
theorem P0{b sp:Int}{u v k:Nat}(hu:u < 36)(hv:v < 36)(h0:0<=sp)(h1:sp < (k:Int))(h:nm b sp u k=nm b sp v k):u=v:=by
 have e:(nm b sp u k).cps.toList=(nm b sp v k).cps.toList:=by rw [h]
 rw [ud,ud] at e;have hk:sp.toNat < k:=by omega
 have q:((List.range k).map λj=>sgn<|turn b sp u j)[sp.toNat]?=((List.range k).map λj=>sgn<|turn b sp v j)[sp.toNat]?:=by rw [e]
 rw [Ad,Ad,Ct hk] at q;have q2:sgn (turn b sp u sp.toNat)=sgn (turn b sp v sp.toNat):=Option.some.inj q;have q3:=F3 q2;unfold turn at q3;rw [show((sp.toNat:Nat):Int)=sp by omega,BK rfl,BK rfl] at q3;omega
theorem fold_list(c:Nat):∀(k:Nat) (acc:Array Nat),((List.replicate k (#[c]:Array Nat)).foldl (·++·) acc).toList=acc.toList++List.replicate k c
 | 0,acc=>by simp
 | k+1,acc=>by
  rw [List.replicate_succ,Gp,fold_list c k,List.replicate_succ];simp
theorem mul_list(c:Nat){i:Int}(h:1<=i):(Txt.mul ⟨#[c]⟩ i).cps.toList=List.replicate i.toNat c:=by
 unfold Txt.mul;rw [BJ<|by omega]
 by_cases e:i=1
 ·subst e;rfl
 ·have e1:(i == 1 || (⟨#[c]⟩:Str).length == 0)=false:=by
   have:(i == 1)=false:=by simpa using e
   rw [this];rfl
  rw [e1];simp only [Ck,DN];have:=fold_list c i.toNat #[]
  simpa using this
def aF(b:Int)(v:Nat):Str:=if b % 3=2 then Txt.mul ⟨#[sgn<|b / 64+(v:Int) / 8]⟩ (1+(v:Int) % 8) else nm b (b / 8 % (1+b % 8)) v (1+b % 8).toNat
theorem P4{b:Int}{u v:Nat}(hu:u < 36)(hv:v < 36)(h:aF b u=aF b v):u=v:=by
 have s0:0<=b % 8:=Bv _ (by decide);unfold aF at h
 by_cases c:b % 3=2
 ·rw [BK c,BK c] at h;have u0:0<=(u:Int) % 8:=Bv _ (by decide);have v0:0<=(v:Int) % 8:=Bv _ (by decide);have e:(Txt.mul ⟨#[sgn<|b / 64+(u:Int) / 8]⟩<|1+(u:Int) % 8).cps.toList=(Txt.mul ⟨#[sgn<|b / 64+(v:Int) / 8]⟩<|1+(v:Int) % 8).cps.toList:=by rw [h]
  rw [mul_list _ (by omega),mul_list _<|by omega] at e;have l:=BZ List.length e;rw [Dj,Dj] at l;have hd:(List.replicate (1+(u:Int) % 8).toNat<|sgn<|b / 64+(u:Int) / 8)[0]?=(List.replicate (1+(v:Int) % 8).toNat<|sgn<|b / 64+(v:Int) / 8)[0]?:=by rw [e]
  rw [Dq,Dq,BK (by omega),BK<|by omega] at hd;have q:=F3<|Option.some.inj hd;omega
 ·rw [BJ c,BJ c] at h;refine P0 hu hv (Bv _<|by omega) ?_ h;have:=Cf (b / 8) (show 0 < 1+b % 8 by omega);omega
def namesOf(b:Int)(m:Nat):List Str:=(List.range m).map<|aF b
theorem uf{b:Int}{m:Nat}(h:m<=36):(namesOf b m).Nodup:=by
 unfold namesOf;refine List.Pairwise.map _ (R:=λi j=>i < j/\j < m) ?_ ?_
 ·rintro i j ⟨h1,h2⟩ e;have:=P4 (by omega) (by omega) e;omega
 ·rw [Bg];intro i j hi hj cS;simp only [List.getElem_range];simp at hj;exact⟨cS,hj⟩
theorem ug(b:Int)(m:Nat):namesOf b (m+1)=namesOf b m++[aF b m]:=by
 unfold namesOf;rw [Ce,Ag];rfl
theorem xO(b:Int)(m:Nat):(namesOf b m).length=m:=by unfold namesOf;simp
theorem P5{b:Int}{m i:Nat}(h:i < m):(namesOf b m)[i]?=some (aF b i):=by
 unfold namesOf;rw [Ad,Ct h];rfl
end Nt
namespace W6
open PySem L2
def top(i:Nat):Stmt:=PySem.Challenge.pw_threewebs_k61_trees_listed.main.body.getD i<|.Pass ⟨0,0,0,0⟩
abbrev uh:Stmt:=top 4
abbrev xP:Stmt:=top 5
abbrev xQ:Stmt:=top 6
abbrev xR:Stmt:=top 8
abbrev kD:Stmt:=top 9
abbrev l5:Stmt:=top 10
abbrev ui:Stmt:=top 13
abbrev kE:Stmt:=top 14
abbrev uj:Stmt:=top 15
abbrev xS:Stmt:=top 17
abbrev l8:Stmt:=top 18
abbrev xT:Stmt:=top 19
abbrev xU:Stmt:=top 20
abbrev xV:Stmt:=top 21
abbrev xW:Stmt:=top 22
abbrev xX:Stmt:=top 23
abbrev l9:Stmt:=top 24
abbrev me:Stmt:=top 25
abbrev uk:Stmt:=top 26
abbrev xY:Stmt:=top 27
abbrev uo:Stmt:=top 28
abbrev qa:Stmt:=top 29
abbrev uq:Stmt:=top 30
abbrev xZ:Stmt:=top 31
abbrev jP:Stmt:=top 32
structure Txt(mg:Str->Option Value):Prop where
 x0:mg "isinstance" = none
 x6:mg "tuple" = none
 x8:mg "str" = none
 mq:mg "int" = none
 F4:mg "bool" = none
 ga:mg "list" = none
 F5:mg "dict" = none
 iz:mg "set" = none
 enum:mg "enumerate" = none
 zip:mg "zip" = none
 len:mg "len" = none
 range:mg "range" = none
 sorted:mg "sorted" = none
 max:mg "max" = none
 all:mg "all" = none
 most:∃ u,mg "MOST_TREES" = some u/\RelV (.int 300) u
open Nt a6
theorem small{n:Nat}(h:n<=100000):n<=sizeLine:=by rw [DQ];omega
theorem bQ{n:Nat}(h:n<=100000):n < sizeLine:=by rw [DQ];omega
theorem aQ{H:Hp}{p:Addr}(h:H p=none)(o:HO):ag H (upd H p o):=λb u q=>by rw [av<|bC q h];exact q
theorem cL{H1 H2:Hp}{r:Addr}{o:HO}(s:ag H1 H2)(h:H1 r=none):ag H1 (upd H2 r o):=λb u q=>by
 rw [av<|bC q h];exact s _ _ q
theorem P6{H:Hp}{l:Addr}{zs:List Str}{y:Str}:upd H l (.lst<|zs.map V.str++[V.str y])=upd H l (Ls<|zs++[y]):=by
 show _=upd H l (.lst<|(zs++[y]).map V.str);rw [Ag];rfl
def qb(K:PySem.W.Frag):Sp:=λvs H Q _=>∃(a:Addr) (ns:List Int) (k:Int),vs=[.ref a,.int k]/\ak K H a (ns.map V.int)/\0<=k/\∀ i,Q (.int i) H
def ur(K:PySem.W.Frag):Sp:=λvs H Q _=>∃(a:Addr) (ns:List Int) (k:Int),vs=[.ref a,.int k]/\ak K H a (ns.map V.int)/\0<=k/\∀ i H',ag H H'->Q (.int i) H'
def x9:Sp:=λvs H Q _=>∃(b m:Int),vs=[.int b,.int m]/\0<=m/\m<=36/\∀ l H',ag H H'->H l=none->H' l=some (Ls<|namesOf b m.toNat)->Q (.ref l) H'
def ya:Sp:=λvs H Q _=>∃(R:Addr) (as:List<|Addr×Addr) (n:Net),vs=[.ref R]/\aj H R as n/\n.length<=1000/\(ah n).length<=1000/\∀ d ks H',ag H H'->H d=none->bm H' d n ks->Q (.ref d) H'
def yb:Sp:=λvs H Q _=>∃(R d t:Addr) (as:List<|Addr×Addr) (n:Net) (ks:List Str) (e:Nt.End),vs=[.ref R,.ref d,.ref t]/\aj H R as n/\bm H d n ks/\cv n/\H t=some (Tp e)/\e∈ends n/\∀ u,H u=some (Tp<|other n e)->Q (.ref u) H
def yc:Sp:=λvs H Q _=>∃(R d t:Addr) (as:List<|Addr×Addr) (n:Net) (ks:List Str) (e:Nt.End),vs=[.ref R,.ref d,.ref t,.int 1]/\aj H R as n/\bm H d n ks/\cv n/\H t=some (Tp e)/\e∈ends n/\∀ u H',ag H H'->H u=none->H' u=some (Tp<|step n e)->Q (.ref u) H'
def yd:Sp:=λvs H Q _=>∃(R d t:Addr) (as:List<|Addr×Addr) (n:Net) (ks:List Str) (e:Nt.End),vs=[.ref R,.ref d,.ref t]/\aj H R as n/\bm H d n ks/\cv n/\H t=some (Tp e)/\e∈ends n/\(ends n).length<=1000 /\
 ∀ l ts fs H',ag H H'->H l=none->H' l=some (.lst<|ts.map V.ref)->Pd H' ts fs->fF n e fs->Q (.ref l) H'
section
variable{P:Program}{w:World}{K:PySem.W.Frag}{mg:Str->Option Value}{base:Heap}
theorem P7:au ["_law_script","_law_k"] ["_law_script","_law_k"] (aV xS):=⟨rfl,rfl,rfl,by decide +kernel,rfl,by decide +kernel,by decide +kernel⟩
theorem P8{ns:List Int}{k:Int}(h0:0<=k)(h1:k < (ns.length:Int)):∃ v:Int,di (ns.map V.int) k=some (.int v):=by
 have hj:k.toNat < ns.length:=by omega
 have q:=gF (xs:=ns.map V.int) (j:=k.toNat) (v:= .int ns[k.toNat]) (by simp [hj]);rw [show((k.toNat:Nat):Int)=k by omega] at q;exact⟨_,q⟩
theorem P9{f:Addr}{fd:FuncData}(F:bz K "_law_cell_at" "_law_cell_at" xS f fd)(T:Txt mg):aC P w K mg base bp 1 f fd ["_law_script","_law_k"] (qb K):=by
 refine F.gb P7 (λvs H Q E h=>?_) λb0 H vs Q E hr h=>?_
 ·obtain⟨a,ns,k,rfl,_⟩:=h;rfl
 obtain⟨a,ns,k,rfl,hS,h0,q⟩:=h;show Run _ _ _ [some<|.ref a,some<|.int k] H;refine d0<|dC Mh<|af 1<|b9 cZ T.len CW<|ao<|af 0<|aw ⟨a,_,rfl,.inl hS,_,_,rfl,rfl,_,rfl,?_⟩;refine iE (λc=>?_) λc=>?_
 ·have c':=CV c;obtain⟨v,hv⟩:=P8 (ns:=ns) h0 (by rw [Aa] at c';exact c');exact cq<|aS bx<|af 0<|af 1 ⟨a,_,_,.int v,rfl,rfl,hS,hv,q v⟩
 ·exact aP<|cq<|ay<|q 0
abbrev mv:List V:=[.int 48271,.int 69621,.int 16807,.int 39373,.int 21401,.int 60493,.int 87721,.int 31337]
abbrev n8:List V:=[.int 99991,.int 99989,.int 99971,.int 99961,.int 99929,.int 99923,.int 99907,.int 99901]
theorem eight{i:Int}(h0:0<=i)(h1:i < 8):i=0\/i=1\/i=2\/i=3\/i=4\/i=5\/i=6\/i=7:=by
 obtain⟨k,rfl⟩:=Int.eq_ofNat_of_zero_le h0;exact(by decide:∀ k:Fin 8,(k.1:Int)=0\/(k.1:Int)=1\/(k.1:Int)=2\/(k.1:Int)=3\/(k.1:Int)=4\/(k.1:Int)=5\/(k.1:Int)=6\/(k.1:Int)=7) ⟨k,Int.ofNat_lt.mp h1⟩
theorem P'{i:Int}(h0:0<=i)(h1:i < 8):∃ m:Int,di mv i=some (.int m)/\0 < m/\m < 100000:=by
 rcases eight h0 h1 with rfl | rfl | rfl | rfl | rfl | rfl | rfl | rfl <;> exact⟨_,rfl,by decide,by decide⟩
theorem Qa{i:Int}(h0:0<=i)(h1:i < 8):∃ m:Int,di n8 i=some (.int m)/\0 < m/\m < 100000:=by
 rcases eight h0 h1 with rfl | rfl | rfl | rfl | rfl | rfl | rfl | rfl <;> exact⟨_,rfl,by decide,by decide⟩
theorem kF:au ["_law_script","_law_at","_law_by","_law_prime","_law_cell","_law_big_here","_law_k","_law_one"] ["_law_script","_law_at"] (aV l8):=⟨rfl,rfl,rfl,by decide +kernel,rfl,by decide +kernel,by decide +kernel⟩
theorem Qb{f:Addr}{fd:FuncData}(F:bz K "_law_big" "_law_big" l8 f fd)(T:Txt mg)(G:aG P w K mg base 1 "_law_cell_at" ["_law_script","_law_k"]<|qb K) :
  aC P w K mg base bp 2 f fd ["_law_script","_law_at"] (ur K):=by
 refine F.gb kF (λvs H Q E h=>?_) λb0 H vs Q E hr h=>?_
 ·obtain⟨a,ns,k,rfl,_⟩:=h;rfl
 obtain⟨a,ns,k,rfl,hS,h0,q⟩:=h;have nd:=kF.nd;show Run _ _ _ [some<|.ref a,some<|.int k,none,none,none,none,none,none] H;refine run_set 2 nd (dZ<|ao<|ay<|ao<|ay<|ao<|ay<|ao<|ay<|ao<|ay<|ao<|ay<|ao<|ay<|ao<|ay<|aw ⟨(by show 8<=sizeLine;decide),λp hp=>?_⟩);refine run_set 3 nd (dZ<|ao<|ay<|ao<|ay<|ao<|ay<|ao<|ay<|ao<|ay<|ao<|ay<|ao<|ay<|ao<|ay<|aw ⟨(by show 8<=sizeLine;decide),λp2 fC=>?_⟩);have Qc:p≠p2:=by
  intro e;rw [<- e,ae] at fC;cases fC
 have s1:ag H (upd H p<|.tup mv):=aQ hp _;have s2:ag H (upd (upd H p<|.tup mv) p2<|.tup n8):=s1.trans<|aQ fC _;have e1:(upd (upd H p<|.tup mv) p2<|.tup n8) p=some (.tup mv):=by rw [av Qc,ae]
 have e2:(upd (upd H p<|.tup mv) p2<|.tup n8) p2=some (.tup n8):=ae;generalize upd (upd H p<|.tup mv) p2 (.tup n8)=H2 at s2 e1 e2 ⊢;refine run_set 4 nd<|bV G hr<|ao<|af 0<|ao<|af 1<|aw ⟨a,ns,k,rfl,s2.seq hS,h0,λb=>?_⟩;show Run _ _ _ [some<|.ref a,some<|.int k,some<|.ref p,some<|.ref p2,some<|.int b,none,none,none] H2;refine EV True True (λR qq=>?_) (λ_=>?_) λ_=>aP ?_
 ·refine nQ (w6<|dC fv<|aN db<|af 4<|ay ⟨_,_,rfl,rfl,(by show(0:Int) < 2;decide),ay ⟨rfl,_,rfl,?_⟩⟩);refine iE (λc=>?_) (λc=>qq false (λz=>nomatch z) λ_=>trivial);exact w9<|dC C6<|af 4<|aN we<|ay<|ay ⟨_,_,rfl,rfl,⟨by decide,by decide,by decide⟩,_,_,rfl,rfl,_,rfl,qq _ (λ_=>trivial) λ_=>trivial⟩
 ·exact cq<|aN fT<|af 4<|ay ⟨_,_,rfl,rfl,⟨by decide,by decide⟩,q _ _ s2⟩
 refine run_set 5 nd<|ay ?_;refine hZ T.range<|ay ⟨60,rfl,by decide,by decide,ic (n:=60) (λ_ σ H3=>H3=H2/\∃(x:Int) (u v:Option V),σ=[some<|.ref a,some<|.int k,some<|.ref p,some<|.ref p2,some<|.int b,some<|.int x,u,v]) ⟨rfl,0,_,_,rfl⟩ ?_ ?_⟩
 ·rintro i σ H3 hi ⟨rfl,x,u,v,rfl⟩;have i9:0<=(0+(i:Int)) % 9:=Bv _ (by decide);obtain⟨m1,f1,g1,g2⟩:=P' (i:=(0+(i:Int)) % 8) (Bv _<|by decide) (Cf _<|by decide);obtain⟨m2,f2,g3,g4⟩:=Qa (i:=(0+(i:Int)) % 8) (Bv _<|by decide) (Cf _<|by decide);refine aW 6 nd ?_;refine run_set 7 nd<|aN fu<|aN fu<|aN db<|bV G hr<|ao<|af 0<|ao<|aN fu<|af 1<|aN db<|af 6<|ay ?_;refine⟨_,_,rfl,rfl,(by show(0:Int) < 9;decide),_,_,rfl,rfl,aw ⟨a,ns,_,rfl,s2.seq hS,?_,λc=>?_⟩⟩
  ·show 0<=k+(0+(i:Int)) % 9;omega
  refine aN we (ay<|ay ⟨_,_,rfl,rfl,⟨by decide,by decide,by decide⟩,_,_,rfl,rfl,(by show(0:Int) < 10 ^ (18:Int).toNat;decide),ay ⟨_,_,rfl,rfl,?_⟩⟩);refine aN nG<|af 6<|af 6 ?_;refine⟨_,_,rfl,rfl,.inl ⟨by omega,by omega⟩,_,_,rfl,rfl,?_⟩;refine run_set 5 nd (aN fu<|aN nG<|af 5<|ay ⟨_,_,rfl,rfl,.inr ⟨by decide,by decide⟩,?_⟩);refine aN db (aN db<|aN nG<|af 7<|aS cW<|af 2<|aN db<|af 6<|ay ⟨_,_,rfl,rfl,(by show(0:Int) < 8;decide),p,_,_,_,rfl,rfl,aK.of e1,f1,_,_,rfl,rfl,.inr ⟨by omega,by omega⟩,?_⟩);refine aS cW (af 3<|aN db<|af 6<|ay ⟨_,_,rfl,rfl,(by show(0:Int) < 8;decide),p2,_,_,_,rfl,rfl,aK.of e2,f2,_,_,rfl,rfl,g3,ay ⟨_,_,rfl,rfl,(by show(0:Int) < 7919;decide),_,_,rfl,rfl,?_⟩⟩);exact aP ⟨rfl,_,_,_,rfl⟩
 ·rintro σ H3 ⟨rfl,x,u,v,rfl⟩;exact cq<|af 5<|q x _ s2
abbrev NN:List Str:=["_law_stem","_law_many","_law_signs","_law_size","_law_spot","_law_names_here","_law_v","_law_name","_law_k","_law_turn"]
theorem gg:au NN ["_law_stem","_law_many"] (aV xT):=⟨rfl,rfl,rfl,by decide +kernel,rfl,by decide +kernel,by decide +kernel⟩
theorem Qd{f:Addr}{fd:FuncData}(F:bz K "_law_names" "_law_names" xT f fd)(T:Txt mg):aC P w K mg base bp 1 f fd ["_law_stem","_law_many"] x9:=by
 refine F.gb gg (λvs H Q E h=>?_) λb0 H vs Q E hr h=>?_
 ·obtain⟨b,m,rfl,_⟩:=h;rfl
 obtain⟨b,m,rfl,m0,m1,q⟩:=h;have nd:=gg.nd;have s0:0<=b % 8:=Bv _ (by decide);have s1:b % 8 < 8:=Cf _ (by decide);show Run _ _ _ [some<|.int b,some<|.int m,none,none,none,none,none,none,none,none] H;refine run_set 2 nd<|tL ?_;refine run_set 3 nd (aN fu<|ay<|aN db<|af 0<|ay ⟨_,_,rfl,rfl,(by show(0:Int) < 8;decide),_,_,rfl,rfl,?_⟩);refine run_set 4 nd (aN db<|aN fT<|af 0<|ay ⟨_,_,rfl,rfl,⟨by decide,by decide⟩,af 3 ⟨_,_,rfl,rfl,(by show 0 < 1+b % 8;omega),?_⟩⟩);refine run_set 5 nd<|dH<|aw ⟨Z0,λl hl=>?_⟩;show Run _ _ _ [some<|.int b,some<|.int m,some<|.str lets,some<|.int<|1+b % 8,some<|.int<|b / 8 % (1+b % 8),some<|.ref l,none,none,none,none] _;have VV:b / 8 % (1+b % 8)=b / 8 % (1+b % 8):=rfl;refine hZ T.range<|af 1 ⟨m,rfl,by omega,by omega,ic (n:=m.toNat) (λi σ H3=>H3=upd H l (Ls<|namesOf b i)/\∃ u1 u2 u3 u4,σ=[some<|.int b,some<|.int m,some<|.str lets,some<|.int<|1+b % 8,some<|.int<|b / 8 % (1+b % 8),some<|.ref l,u1,u2,u3,u4]) ⟨rfl,_,_,_,_,rfl⟩ ?_ ?_⟩
 ·rintro i σ H3 hi ⟨rfl,u1,u2,u3,u4,rfl⟩;refine aW 6 nd ?_;refine run_set 7 nd<|tL ?_;refine hZ T.range<|af 3 ⟨_,rfl,by omega,by omega,ic (n:=(1+b % 8).toNat) (λj σ H4=>H4=upd H l (Ls<|namesOf b i)/\∃(u3 u4:Option V),σ=[some<|.int b,some<|.int m,some<|.str lets,some<|.int<|1+b % 8,some<|.int<|b / 8 % (1+b % 8),some<|.ref l,some<|.int<|0+(i:Int),some<|.str<|nm b (b / 8 % (1+b % 8)) i j,u3,u4]) ⟨rfl,_,_,rfl⟩ ?_ ?_⟩
  ·rintro j σ H4 hj ⟨rfl,v3,v4,rfl⟩;have t0:0<=b / 7 % 5:=Bv _ (by decide);have t1:b / 7 % 5 < 5:=Cf _ (by decide);have nl:(nm b (b / 8 % (1+b % 8)) i j).length=j:=by
    have:=BZ List.length<|ud b (b / 8 % (1+b % 8)) i j;show(nm b (b / 8 % (1+b % 8)) i j).cps.size=j
    simpa using this
   refine aW 8 nd ?_;refine run_set 9 nd (aN fu<|aN fT<|af 0<|ay ⟨_,_,rfl,rfl,⟨by decide,by decide⟩,aN nG<|af 8<|aN db<|aN fT<|af 0<|ay ⟨_,_,rfl,rfl,⟨by decide,by decide⟩,ay ⟨_,_,rfl,rfl,(by show(0:Int) < 5;decide),?_⟩⟩⟩);refine⟨_,_,rfl,rfl,.inr ⟨by omega,by omega⟩,_,_,rfl,rfl,?_⟩;refine FC ((0+(j:Int))=b / 8 % (1+b % 8)) (¬(0+(j:Int))=b / 8 % (1+b % 8)) (λσ' H'=>H'=upd H l (Ls<|namesOf b i)/\σ'=[some<|.int b,some<|.int m,some<|.str lets,some<|.int<|1+b % 8,some<|.int<|b / 8 % (1+b % 8),some<|.ref l,some<|.int<|0+(i:Int),some<|.str<|nm b (b / 8 % (1+b % 8)) i j,some<|.int<|0+(j:Int),some<|.int<|turn b (b / 8 % (1+b % 8)) i j]) (λR qq=>?_) (λhc=>?_) (λhc=>aP ⟨rfl,?_⟩) ?_
   ·refine dC fv<|af 8<|af 4 ⟨rfl,_,rfl,?_⟩
    by_cases hc:(0+(j:Int))=b / 8 % (1+b % 8)
    ·rw [CG (show V.int (0+(j:Int))=V.int (b / 8 % (1+b % 8)) by rw [hc])];exact qq true (λ_=>hc) λh=>by cases h
    ·rw [BX λh=>hc<|V.int.inj h];exact qq false (λh=>by cases h) λ_=>hc
   ·refine run_set 9 nd<|aN fu<|af 9<|af 6 ⟨_,_,rfl,rfl,aP ⟨rfl,?_⟩⟩;have e:b / 64+(0+(j:Int)) * (b / 7 % 5)+(0+(i:Int))=turn b (b / 8 % (1+b % 8)) i j:=by
     unfold turn;rw [BK (by omega),Cv,Cv]
    rw [<- e];rfl
   ·have e:b / 64+(0+(j:Int)) * (b / 7 % 5)=turn b (b / 8 % (1+b % 8)) i j:=by
     unfold turn;rw [BJ (by omega),Cv,Int.add_zero]
    rw [<- e];rfl
   ·rintro σ' H' ⟨rfl,rfl⟩;refine run_set 7 nd<|aN Mq<|af 7<|aS DM<|af 2<|aN db<|af 9<|ay ⟨_,_,rfl,rfl,(by show(0:Int) < 36;decide),lets,_,sgn<|turn b (b / 8 % (1+b % 8)) i j,rfl,rfl,by decide +kernel,xN _,_,_,rfl,rfl,small (by show(nm b (b / 8 % (1+b % 8)) i j).length+1<=100000;omega),aP ⟨rfl,_,_,rfl⟩⟩
  ·rintro σ H4 ⟨rfl,v3,v4,rfl⟩;refine FC (b % 3=2) (¬ b % 3=2) (λσ' H'=>H'=upd H l (Ls<|namesOf b i)/\σ'=[some<|.int b,some<|.int m,some<|.str lets,some<|.int<|1+b % 8,some<|.int<|b / 8 % (1+b % 8),some<|.ref l,some<|.int<|0+(i:Int),some<|.str<|aF b i,v3,v4]) (λR qq=>?_) (λhc=>?_) (λhc=>aP ⟨rfl,?_⟩) ?_
   ·refine dC fv<|aN db<|af 0<|ay ⟨_,_,rfl,rfl,(by show(0:Int) < 3;decide),ay ⟨rfl,_,rfl,?_⟩⟩
    by_cases hc:b % 3=2
    ·rw [CG (show V.int (b % 3)=V.int 2 by rw [hc])];exact qq true (λ_=>hc) λh=>by cases h
    ·rw [BX λh=>hc<|V.int.inj h];exact qq false (λh=>by cases h) λ_=>hc
   ·have e0:0<=(0+(i:Int)) % 8:=Bv _ (by decide);have e1:(0+(i:Int)) % 8 < 8:=Cf _ (by decide);refine run_set 7 nd (aN N3<|aS DM<|af 2<|aN db<|aN fu<|aN fT<|af 0<|ay ⟨_,_,rfl,rfl,⟨by decide,by decide⟩,aN fT<|af 6<|ay ⟨_,_,rfl,rfl,⟨by decide,by decide⟩,_,_,rfl,rfl,ay ⟨_,_,rfl,rfl,(by show(0:Int) < 36;decide),lets,_,sgn<|b / 64+(0+(i:Int)) / 8,rfl,rfl,by decide +kernel,xN _,?_⟩⟩⟩);refine aN fu (ay<|aN db<|af 6<|ay ⟨_,_,rfl,rfl,(by show(0:Int) < 8;decide),_,_,rfl,rfl,?_⟩);refine⟨_,_,rfl,rfl,by omega,by omega,?_,aP ⟨rfl,?_⟩⟩
    ·show 1 * _<=_;omega
    ·have e:Txt.mul ⟨#[sgn<|b / 64+(0+(i:Int)) / 8]⟩ (1+(0+(i:Int)) % 8)=aF b i:=by
      unfold aF;rw [BK hc,Cv]
     rw [<- e];rfl
   ·have e:nm b (b / 8 % (1+b % 8)) i (1+b % 8).toNat=aF b i:=by
     unfold aF;rw [BJ hc]
    rw [<- e]
   ·rintro σ' H' ⟨rfl,rfl⟩;refine fD<|jM<|af 5 ⟨l,rfl,⟨_,ae⟩,af 7 ⟨_,ae,?_,?_⟩⟩
    ·rw [Aa,xO];exact bQ<|by omega
    ·rw [B5];refine aP ⟨?_,_,_,_,_,rfl⟩;rw [ug];exact P6
 ·rintro σ H3 ⟨rfl,u1,u2,u3,u4,rfl⟩;exact cq<|af 5<|q l _ (aQ hl _) hl ae
theorem F6{H:Hp}{d:Addr}{kvs:List (Key×V)}(h:H d=some (.dK kvs)):ko K "dict" (.ref d) H:=Or.inr<|Or.inr<|Or.inl ⟨rfl,Or.inl ⟨kvs,h⟩⟩
abbrev NS:List Str:=["_law_rows","_law_seats_here","_law_r","_law_place"]
theorem gj:au NS ["_law_rows"] (aV xU):=⟨rfl,rfl,rfl,by decide +kernel,rfl,by decide +kernel,by decide +kernel⟩
theorem Qe{f:Addr}{fd:FuncData}(F:bz K "_law_seats" "_law_seats" xU f fd)(T:Txt mg):aC P w K mg base bp 1 f fd ["_law_rows"] ya:=by
 refine F.gb gj (λvs H Q E h=>?_) λb0 H vs Q E hr h=>?_
 ·obtain⟨R,as,n,rfl,_⟩:=h;rfl
 obtain⟨R,as,n,rfl,hR,hn,ht,q⟩:=h;have nd:=gj.nd;have cC:=hR.len;show Run _ _ _ [some<|.ref R,none,none,none] H;refine run_set 1 nd<|tY λd hd=>?_;refine hZ T.range (b9 cZ T.len CW<|ao<|af 0<|aw ⟨R,_,rfl,.inl<|ak.of<|aQ hd _ _ _ hR.lst,_,rfl,by omega,by rw [Aa];omega,?_⟩);rw [Aa,cC,Bh];refine ic (λr σ H3=>∃ kvs ks A u1 u2,aT H H3 d (bG<|n.take r) kvs ks A/\σ=[some<|.ref R,some<|.ref d,u1,u2]) ⟨_,_,_,_,_,aT.start hd,rfl⟩ ?_ ?_
 ·rintro r σ H3 hi ⟨kvs,ks,A',u1,u2,S,rfl⟩;rw [Cv];refine aW 2 nd ?_;obtain⟨a,ea,eC,et,el,er⟩:=(hR.same S.same).at hi;refine hZ T.range<|b9 cZ T.len CW<|ao<|aS cW<|aS bx<|af 0<|af 2 ⟨R,_,_,.ref a.1,rfl,rfl,ak.of<|S.same _ _ hR.lst,eC,ay ⟨a.1,_,_,.ref a.2,rfl,rfl,aK.of et,rfl,aw ⟨a.2,_,rfl,.inl<|ak.of el,_,rfl,by omega,?_,?_⟩⟩⟩
  ·have:(row n r).length<=1000:=by
    have h1:(row n r).length<=(ah n).length:=by
     exact kC n r
    omega
   rw [Aa];omega
  rw [Aa,Bh];refine ic (λp σ H4=>∃ kvs ks A u2,aT H H4 d (bG (n.take r)++bF r ((row n r).take p) 0) kvs ks A/\σ=[some<|.ref R,some<|.ref d,some<|.int (r:Int),u2]) ⟨kvs,ks,A',_,by simpa [bF] using S,rfl⟩ ?_ ?_
  ·rintro p σ H4 hp ⟨kvs,ks,A',u2,S,rfl⟩;rw [Cv];refine aW 3 nd ?_;obtain⟨a,ea,eC,et,el,er⟩:=(hR.same S.same).at hi;have hz:(row n r)[p]?=some (row n r)[p]:=Ab hp;generalize (row n r)[p]=z at hz;have next:bG (n.take r)++bF r ((row n r).take<|p+1) 0=(bG (n.take r)++bF r ((row n r).take p) 0)++[(z,(r,p))]:=by
    rw [uc hz,Aw]
   have hlen:kvs.length < sizeLine:=by
    have h1:ks.length<=1000:=by
     refine Bz (aU (b:=ah n) S.nodup λy hy=>?_) ht;have h2:=(S.mem y).mp hy;cases hA:A' y with
     | none=>rw [hA] at h2;cases h2
     | some pr=>
      obtain⟨a2,ig⟩:=pr;have h3:=S.some' y a2 ig hA;unfold b4 at h3;obtain⟨x,hx⟩:=Eb _ h3;obtain⟨⟨y2,e2⟩,hm,_⟩:=At.mp hx;rw [Du,DX] at hm;obtain⟨hm,rfl⟩:=hm;have:(y2,e2)∈bG n:=by
       rcases Al.mp hm with hm | hm
       ·have q1:=aM.mp hm;refine aM.mpr ?_;have q2:=t7 q1;unfold dQ row at q1 ⊢;rw [Ay] at q2;rwa [Es<|by omega] at q1
       ·have q1:=bH.mp hm;refine aM.mpr ?_;unfold dQ;rw [q1.1];have q3:=q1.2.2;rw [Nat.sub_zero] at q3;have q4:=(Ac.mp q3).1;rw [Ay] at q4;rwa [Es<|by omega] at q3
      exact nY<|aM.mp this
    have h2:=BZ List.length S.keys;rw [Aa,Aa] at h2;exact bQ<|by omega
   refine fD<|jM<|tW MF JC JD FI<|af 1 ⟨F6 S.dict,aS bx<|aS cW<|aS bx<|af 0<|af 2 ⟨R,_,_,.ref a.1,rfl,rfl,ak.of<|S.same _ _ hR.lst,eC,ay ⟨a.1,_,_,.ref a.2,rfl,rfl,aK.of et,rfl,af 3 ⟨a.2,_,_,.str z,rfl,rfl,ak.of el,xK hz,?_⟩⟩⟩⟩;refine dH<|aw ⟨Z0,λl0 fY=>?_⟩;have gJ:d≠l0:=bC S.dict fY;refine⟨d,kvs,Sum.inr z,.ref l0,rfl,rfl,by rw [av gJ];exact S.dict,hlen,?_⟩;cases hA:A' z with
   | some pr=>
    obtain⟨a2,ig⟩:=pr;obtain⟨q1,q2,q3,q4⟩:=S.at' z a2 ig hA;have gI:a2≠l0:=bC q3 fY;refine .inl ⟨.ref a2,by rw [S.val z,hA];rfl,a2,rfl,⟨_,by rw [av gI];exact q3⟩,?_⟩;refine dZ<|ao<|af 2<|ao<|af 3<|aw ⟨Z2,λt eF=>?_⟩;have ua:a2≠t:=λe=>by rw [<- e,av gI,q3] at eF;cases eF
    refine⟨ig.map V.ref,by rw [av ua,av gI];exact q3,?_,?_⟩
    ·rw [Aa,q4.length];have h1:(b4 (bG (n.take r)++bF r ((row n r).take p) 0) z).length<=100000:=by
      unfold b4;rw [Aa];refine Bz (Dy _ _) ?_;rw [Ae];have h2:(bG<|n.take r).length<=1000:=by
       have:=BZ List.length<|nX (n.take r) 0;rw [Aa] at this;unfold bG;rw [this];exact Bz (FX n r) ht
      have h3:(bF r ((row n r).take p) 0).length<=1000:=by
       unfold bF;rw [Aa,List.length_zipIdx,Ay];have h1:(row n r).length<=(ah n).length:=by
        exact kC n r
       omega
      omega
     exact bQ h1
    ·refine aP ⟨kvs,ks,(λy=>if y=z then some (a2,ig++[t]) else A' y),_,?_,rfl⟩;rw [next];exact S.old (e:=(r,p)) hA fY eF
   | none=>
    refine .inr ⟨by rw [S.val z,hA];rfl,l0,rfl,⟨_,by rw [av gJ.symm];exact ae⟩,?_⟩;refine dZ<|ao<|af 2<|ao<|af 3<|aw ⟨Z2,λt eF=>?_⟩;have l4:l0≠t:=λe=>by rw [<- e,av gJ.symm,ae] at eF;cases eF
    refine⟨[],by rw [av l4,av gJ.symm,ae],by show 0 < sizeLine;decide,?_⟩;refine aP ⟨putK kvs (Sum.inr z)<|.ref l0,ks++[z],(λy=>if y=z then some (l0,[t]) else A' y),_,?_,rfl⟩;rw [next];exact S.new (e:=(r,p)) hA fY eF
  ·rintro σ H4 ⟨kvs,ks,A',u2,S,rfl⟩;refine aP ⟨kvs,ks,A',_,_,?_,rfl⟩;rw [ub hi];rwa [Bi] at S
 ·rintro σ H3 ⟨kvs,ks,A',u1,u2,S,rfl⟩;rw [Bi] at S;exact cq<|af 1<|q d ks H3 S.same S.free S.whole
abbrev NO:List Str:=["_law_rows","_law_seats_here","_law_end","_law_pair"]
theorem gm:au NO ["_law_rows","_law_seats_here","_law_end"] (aV xV):=⟨rfl,rfl,rfl,by decide +kernel,rfl,by decide +kernel,by decide +kernel⟩
theorem Qf{f:Addr}{fd:FuncData}(F:bz K "_law_other" "_law_other" xV f fd)(T:Txt mg):aC P w K mg base bp 1 f fd ["_law_rows","_law_seats_here","_law_end"] yb:=by
 refine F.gb gm (λvs H Q E h=>?_) λb0 H vs Q E hr h=>?_
 ·obtain⟨R,d,t,as,n,ks,e,rfl,_⟩:=h;rfl
 obtain⟨R,d,t,as,n,ks,e,rfl,hR,hS,hT,ht,he,q⟩:=h;have nd:=gm.nd;have hu:=hr.d5;obtain⟨z,hz⟩:=aI.mp he;have aE:=t7 hz;obtain⟨a,ea,eC,et,el,er⟩:=hR.at aE;obtain⟨kvs,h1,h2,h3⟩:=hS.dict;obtain⟨pa,ts,v1,v2,v3⟩:=h3 z<|nY hz;obtain⟨x,y,hp,VW,F7⟩:=xH hT hz;rw [hp] at v3;cases v3 with
 | cons x1 v3=>
 cases v3 with
 | cons y1 v3=>
 cases v3;rename_i tx ty;show Run _ _ _ [some<|.ref R,some<|.ref d,some<|.ref t,none] H;have cT:=hr.u1;refine run_set 3 nd<|lZ cT<|af 1<|aS bx<|aS cW<|aS bx<|af 0<|aS cW<|af 2<|ay ⟨t,_,_,.int (e.1:Int),rfl,rfl,aK.of ht,rfl,R,_,_,.ref a.1,rfl,rfl,ak.of hR.lst,eC,ay ⟨a.1,_,_,.ref a.2,rfl,rfl,aK.of et,rfl,?_⟩⟩;refine aS cW (af 2<|ay ⟨t,_,_,.int (e.2:Int),rfl,rfl,aK.of ht,rfl,a.2,_,_,.str z,rfl,rfl,ak.of el,xK hz,d,.ref pa,rfl,by rw [<- v1];exact bO.k (k:=Sum.inr z) h1,?_⟩);show Run _ _ _ [some<|.ref R,some<|.ref d,some<|.ref t,some<|.ref pa] H;refine cq<|aS bx<|af 3<|pW xF T.mq HX<|ao<|nP (FG hu)<|aS bx<|af 3<|ay ⟨pa,_,_,.ref tx,rfl,rfl,ak.of v2,rfl,af 2 ⟨1,_,by decide,PV x1 ht,?_⟩⟩
 by_cases c:x=e
 ·rw [CG c];refine aw ⟨_,rfl,pa,[.ref tx,.ref ty],1,.ref ty,rfl,rfl,ak.of v2,rfl,q ty ?_⟩;have e1:other n e=y:=by unfold other;simp only [hz,hp];simp [c]
  rw [e1];exact y1
 ·rw [BX c];refine aw ⟨_,rfl,pa,[.ref tx,.ref ty],0,.ref tx,rfl,rfl,ak.of v2,rfl,q tx ?_⟩;have e1:other n e=x:=by unfold other;simp only [hz,hp];simp [c]
  rw [e1];exact x1
abbrev NT:List Str:=["_law_rows","_law_seats_here","_law_end","_law_turn","_law_other_here"]
theorem iH:au NT ["_law_rows","_law_seats_here","_law_end","_law_turn"] (aV xW):=⟨rfl,rfl,rfl,by decide +kernel,rfl,by decide +kernel,by decide +kernel⟩
theorem Qg{f:Addr}{fd:FuncData}(F:bz K "_law_step" "_law_step" xW f fd)(T:Txt mg)(G:aG P w K mg base 1 "_law_other" ["_law_rows","_law_seats_here","_law_end"] yb) :
  aC P w K mg base bp 2 f fd ["_law_rows","_law_seats_here","_law_end","_law_turn"] yc:=by
 refine F.gb iH (λvs H Q E h=>?_) λb0 H vs Q E hr h=>?_
 ·obtain⟨R,d,t,as,n,ks,e,rfl,_⟩:=h;rfl
 obtain⟨R,d,t,as,n,ks,e,rfl,hR,hS,hT,ht,he,q⟩:=h;have nd:=iH.nd;have ho:=t8 hT he;obtain⟨z,hz⟩:=aI.mp ho;have aE:=t7 hz;have gZ:=nZ hz;obtain⟨a,ea,eC,et,el,er⟩:=hR.at aE;show Run _ _ _ [some<|.ref R,some<|.ref d,some<|.ref t,some<|.int 1,none] H;refine run_set 4 nd<|bV G hr<|ao<|af 0<|ao<|af 1<|ao<|af 2<|aw ⟨R,d,t,as,n,ks,e,rfl,hR,hS,hT,ht,he,λu hu=>?_⟩;show Run _ _ _ [some<|.ref R,some<|.ref d,some<|.ref t,some<|.int 1,some<|.ref u] H;refine cq<|dZ<|ao<|aS cW<|af 4<|ay ⟨u,_,_,.int ((other n e).1:Int),rfl,rfl,aK.of hu,rfl,?_⟩;refine ao<|aN db<|aN fu<|aS cW<|af 4<|ay ⟨u,_,_,.int ((other n e).2:Int),rfl,rfl,aK.of hu,rfl,af 3 ⟨_,_,rfl,rfl,?_⟩⟩;refine b9 cZ T.len CW<|ao<|aS cW<|aS bx<|af 0<|aS cW<|af 4<|ay ⟨u,_,_,.int ((other n e).1:Int),rfl,rfl,aK.of hu,rfl,R,_,_,.ref a.1,rfl,rfl,ak.of hR.lst,eC,ay ⟨a.1,_,_,.ref a.2,rfl,rfl,aK.of et,rfl,aw ⟨a.2,_,rfl,.inl<|ak.of el,?_⟩⟩⟩;rw [Aa];refine⟨_,_,rfl,rfl,by omega,aw ⟨Z2,λp hp=>?_⟩⟩;refine q p _ (aQ hp _) hp ?_;rw [ae];unfold Nt.step Nt.left;show some (HO.tup [.int ((other n e).1:Int),.int<|(((other n e).2:Int)+1) % ((row n (other n e).1).length:Int)])=some (HO.tup [.int ((other n e).1:Int),.int ((((other n e).2+1) % (row n (other n e).1).length:Nat):Int)]);rw [Int.natCast_emod];rfl
abbrev NF:List Str:=["_law_rows","_law_seats_here","_law_end","_law_face_here","_law_here"]
theorem iI:au NF ["_law_rows","_law_seats_here","_law_end"] (aV xX):=⟨rfl,rfl,rfl,by decide +kernel,rfl,by decide +kernel,by decide +kernel⟩
def kG(n:Net)(e:Nt.End)(j:Nat):List Nt.End:=(List.range j).map λi=>it (step n) i e
theorem Qh(n:Net)(e:Nt.End)(j:Nat):kG n e (j+1)=kG n e j++[it (step n) j e]:=by
 unfold kG;rw [Ce,Ag];rfl
theorem Qi{f:Addr}{fd:FuncData}(F:bz K "_law_face" "_law_face" xX f fd)(T:Txt mg)(G:aG P w K mg base 2 "_law_step" ["_law_rows","_law_seats_here","_law_end","_law_turn"] yc) :
  aC P w K mg base bp 3 f fd ["_law_rows","_law_seats_here","_law_end"] yd:=by
 refine F.gb iI (λvs H Q E h=>?_) λb0 H vs Q E hr h=>?_
 ·obtain⟨R,d,t,as,n,ks,e,rfl,_⟩:=h;rfl
 obtain⟨R,d,t,as,n,ks,e,rfl,hR,hS,hT,ht,he,hb,q⟩:=h;have nd:=iI.nd;have hu:=hr.d5;obtain⟨k,k0,k1,k2⟩:=PQ (f:=step n) (S:=ends n) (λa ha=>xJ hT ha) (λa ha b hb=>PH hT ha hb) he;show Run _ _ _ [some<|.ref R,some<|.ref d,some<|.ref t,none,none] H;refine run_set 3 nd<|dH<|ao<|af 2<|aw ⟨Z1,λl hl=>?_⟩;have g1:=aQ hl<|.lst [.ref t];refine run_set 4 nd<|bV G hr<|ao<|af 0<|ao<|af 1<|ao<|af 2<|ao<|ay<|aw ⟨R,d,t,as,n,ks,e,rfl,hR.same g1,hS.same g1,hT,g1 _ _ ht,he,λu H1 s1 nu eu=>?_⟩;show Run _ _ _ [some<|.ref R,some<|.ref d,some<|.ref t,some<|.ref l,some<|.ref u] H1;refine tX (λm σ H2=>∃(j:Nat) (ts:List Addr) (u:Addr),m=k - j/\0 < j/\j<=k/\ag H H2/\H2 l=some (.lst<|ts.map V.ref)/\Pd H2 ts (kG n e j)/\H2 u=some (Tp<|it (step n) j e)/\(∀ i,0 < i->i < j->it (step n) i e≠e)/\σ=[some<|.ref R,some<|.ref d,some<|.ref t,some<|.ref l,some<|.ref u])
  (m0:=k - 1) ⟨1,[t],u,rfl,Nat.one_pos,k0,g1.trans s1,s1 _ _ ae,.cons (s1 _ _<|g1 _ _ ht) .nil,eu,λi h1 h2=>by omega,rfl⟩ ?_
 rintro m σ H2 ⟨j,ts,u,rfl,j0,j1,sH,el,ep,eu,hf,rfl⟩;refine dC (p7 hu) (af 4<|af 2 ⟨1,_,by decide,PY eu<|sH _ _ ht,_,rfl,?_⟩);have pl:=ep.length;have ol:(kG n e j).length=j:=by unfold kG;simp
 by_cases c:it (step n) j e=e
 ·rw [CG c];refine bN (cq<|af 3<|q l ts (kG n e j) H2 sH hl el ep ⟨by omega,by omega,λi hi=>?_,by rw [ol];exact c,λi h1 h2=>hf i h1<|by omega⟩);unfold kG;rw [Ad,Ct<|by omega];rfl
 ·rw [BX c];have jk:j < k:=by
   rcases Ft j k with h | h
   ·exact h
   ·have:j=k:=by omega
    subst this;exact absurd k2 c
  refine bf (fD<|jM<|af 3 ⟨l,rfl,⟨_,el⟩,af 4 ⟨_,el,by rw [Aa];exact bQ (by omega),?_⟩⟩);have s2:ag H (upd H2 l<|.lst<|ts.map V.ref++[.ref u]):=cL sH hl;have kt:∀ b f,H2 b=some (Tp f)->(upd H2 l<|.lst<|ts.map V.ref++[.ref u]) b=some (Tp f):=λb f h=>by
   rw [av<|p8 h el];exact h
  have F8:=kt u _ eu;refine run_set 4 nd<|bV G hr<|ao<|af 0<|ao<|af 1<|ao<|af 4<|ao<|ay<|aw ⟨R,d,u,as,n,ks,it (step n) j e,rfl,hR.same s2,hS.same s2,hT,F8,n4 (λa ha=>xJ hT ha) he j,λv H3 s3 nv ev=>?_⟩;refine aP ⟨k - (j+1),by omega,j+1,ts++[u],v,rfl,QF _,jk,s2.trans s3,?_,?_,ev,λi h1 h2=>?_,rfl⟩
  ·rw [Ag];exact s3 _ _ ae
  ·rw [Qh];exact(ep.keep λb f h=>s3 _ _<|kt b f h).append<|.cons (s3 _ _ F8) .nil
  ·rcases Nat.lt_succ_iff_lt_or_eq.mp h2 with h | h
   ·exact hf i h1 h
   ·rw [h];exact c
end
end W6
namespace Nt
open PySem L2
def Full(n:Net):Prop:=(∃ nm,n=[(nm,[])])\/(n≠[]/\∀ i,i < n.length->row n i≠[])
def ii(n:Net)(c:End):Prop:=c.1 < n.length/\c.2 < max 1 (row n c.1).length
def ins(n:Net)(c:End)(z:Str):Net:=n.modify c.1 λr=>(r.1,r.2.take c.2++z :: r.2.drop c.2)
theorem ye(n:Net)(c:End)(z:Str):(ins n c z).length=n.length:=by unfold ins;rw [List.length_modify]
theorem yf(n:Net)(c:End)(z:Str):(ins n c z).map (·.1)=n.map (·.1):=by
 unfold ins;refine Dr λi=>?_;rw [Ad,Ad,El];cases n[i]? with
 | none=>rfl
 | some r=>by_cases h:c.1=i <;> simp [h]
theorem F9(n:Net)(c:End)(z:Str)(i:Nat)(hc:c.1 < n.length):row (ins n c z) i=if c.1=i then(row n i).take c.2++z :: (row n i).drop c.2 else row n i:=by
 unfold row ins;rw [El]
 by_cases h:c.1=i
 ·subst h;rw [Ab hc];simp
 ·rw [BJ h];cases n[i]? with
  | none=>simp [h]
  | some r=>simp [h]
theorem qc:∀(n:Net) (c:End) (z:Str),c.1 < n.length->(ah<|ins n c z).Perm (z :: ah n)
 | [],c,z,h=>by simp at h
 | a :: n,(0,p),z,h=>by
  unfold ins ah;simp only [List.modify_zero_cons,Ej];have:(a.2.take p++z :: a.2.drop p).Perm (z :: a.2):=by
   refine List.perm_middle.trans ?_;rw [Bw]
  exact this.append_right _
 | a :: n,(i+1,p),z,h=>by
  have ih:=qc n (i,p) z (by simpa using h);unfold ins ah at ih ⊢;simp only [List.modify_succ_cons,Ej];refine(ih.append_left a.2).trans ?_;exact List.perm_middle
theorem yg{n:Net}{c:End}{z:Str}(F:Full n)(hc:c.1 < n.length):n.length=1\/(∀ i,i < n.length->row n i≠[])->(∀ i,i < (ins n c z).length->row (ins n c z) i≠[])/\ins n c z≠[]:=by
 intro h;have hl:=ye n c z;refine⟨λi hi=>?_,λe=>?_⟩
 ·rw [F9 n c z i hc]
  by_cases q:c.1=i
  ·rw [BK q];simp
  ·rw [BJ q]
   rcases h with h | h
   ·rw [hl] at hi;omega
   ·exact h i<|by omega
 ·rw [e] at hl;simp at hl;omega
theorem Full.some{n:Net}(F:Full n):n≠[]:=by
 rcases F with ⟨nm,rfl⟩ | h
 ·simp
 ·exact h.1
theorem Full.either{n:Net}(F:Full n):n.length=1\/(∀ i,i < n.length->row n i≠[]):=by
 rcases F with ⟨nm,rfl⟩ | h
 ·exact .inl rfl
 ·exact .inr h.2
theorem Full.mw{n:Net}(F:Full n)(h0:row n 0≠[]){c:End}(hc:ii n c):c∈ends n:=by
 rcases F with ⟨nm,rfl⟩ | h
 ·exact absurd rfl h0
 ·have:=h.2 c.1 hc.1;have hp:0 < (row n c.1).length:=Cg.mpr this;have aE:c.2 < (row n c.1).length:=by
   have:=hc.2;omega
  exact aI.mpr<|FV aE
theorem Qj{n:Net}{e:End}(h:e∈ends n):ii n e:=by
 obtain⟨z,h⟩:=aI.mp h;have:=nZ h;exact⟨t7 h,by omega⟩
def my(H H':Hp)(bad:List Addr):Prop:=∀ b o,H b=some o->b∉bad->H' b=some o
theorem F'(zs:List Str)(i:Nat)(z:Str):insertAt (zs.map V.str) i (.str z)=(zs.take i++z :: zs.drop i).map V.str:=by
 unfold insertAt;rw [Ag,Bq,List.map_take,QD]
theorem aj.ins{H:Hp}{R:Addr}{as:List (Addr×Addr)}{n:Net}(h:aj H R as n){c:End}{z:Str}{a:Addr×Addr}(ha:as[c.1]?=some a)(hc:c.1 < n.length) :
  aj (upd H a.2<|Ls<|(row n c.1).take c.2++z :: (row n c.1).drop c.2) R as (Nt.ins n c z):=by
 have q0:=h.tup c.1 a n[c.1] ha<|Ab hc;have Qk:R≠a.2:=by
  intro e;have h1:=h.lst;rw [e,q0.2] at h1;have h2:=HO.lst.inj<|Option.some.inj h1;have h3:=BZ List.length h2;cases hm:n[c.1].2 with
  | nil=>
   rw [hm] at h2;have:as.map (λa=>V.ref a.1)=[]:=h2.symm;have hl:=BZ List.length this;rw [Aa,h.len] at hl;rw [hl] at hc;exact absurd hc<|MP _
  | cons y r=>
   rw [hm] at h2;cases as with
   | nil=>simp at h2
   | cons b bs=>
    simp at h2
 have er:row n c.1=n[c.1].2:=by unfold row;rw [Ab hc];rfl
 refine⟨by rw [ye];exact h.len,by rw [av Qk];exact h.lst,λi b r hb hr=>?_,h.inj⟩;unfold Nt.ins at hr;rw [El] at hr;cases hn:n[i]? with
 | none=>rw [hn] at hr;by_cases q:c.1=i <;> simp [q] at hr
 | some r0=>
  rw [hn] at hr;have q1:=h.tup i b r0 hb hn;have t1:b.1≠a.2:=en q1.1 q0.2 λe=>nomatch e
  by_cases q:c.1=i
  ·subst q;rw [Ab hc] at hn;cases hn;rw [ha] at hb;cases hb;simp at hr;subst hr;refine⟨by rw [av t1];exact q1.1,?_⟩;rw [ae,er]
  ·simp [q] at hr;subst hr;have t2:b.2≠a.2:=λe=>by
    have l1:i < as.length:=(Ac.mp hb).1;have l2:c.1 < as.length:=(Ac.mp ha).1;have x1:(as.map (·.2))[i]?=some b.2:=by rw [Ad,hb];rfl
    have x2:(as.map (·.2))[c.1]?=some a.2:=by rw [Ad,ha];rfl
    obtain⟨y1,z1⟩:=Ac.mp x1;obtain⟨y2,z2⟩:=Ac.mp x2;exact q<|(JW (h₀:=y2) (h₁:=y1) h.inj).mp<|z2.trans<|e.symm.trans z1.symm
   exact⟨by rw [av t1];exact q1.1,by rw [av t2];exact q1.2⟩
theorem aj.more{H:Hp}{R t l:Addr}{as:List (Addr×Addr)}{n:Net}{pt:Str}{zs:List Str}(h:aj H R as n)(ht:H t=some (.tup [.str pt,.ref l]))(hl:H l=some (Ls zs))(hn:l∉as.map (·.2))(hR:l≠R) :
  aj (upd H R<|.lst<|as.map (λa=>V.ref a.1)++[.ref t]) R (as++[(t,l)]) (n++[(pt,zs)]):=by
 have cC:=h.len;refine⟨by rw [Ae,Ae,cC];rfl,by rw [ae,Ag];rfl,λi b r hb hr=>?_,?_⟩
 ·rcases Ft i as.length with c | c
  ·rw [Bb c] at hb;rw [Bb<|by omega] at hr;have q:=h.tup i b r hb hr;have t1:b.1≠R:=en q.1 h.lst λe=>nomatch e;have t2:b.2≠R:=by
    intro e;have h1:=h.lst;rw [<- e,q.2] at h1;have h2:=HO.lst.inj<|Option.some.inj h1;cases as with
    | nil=>simp at c
    | cons b' bs=>
     cases hm:r.2 with
     | nil=>rw [hm] at h2;simp at h2
     | cons y r=>rw [hm] at h2;simp at h2
   exact⟨by rw [av t1];exact q.1,by rw [av t2];exact q.2⟩
  ·have e:i=as.length:=by
    have:=(Ac.mp hb).1;rw [Ae] at this;simp at this;omega
   subst e;rw [Az<|Ah _] at hb;rw [cC,Az<|Ah _] at hr;simp at hb hr;subst hb hr;have t1:t≠R:=en ht h.lst λe=>nomatch e;exact⟨by rw [av t1];exact ht,by rw [av hR];exact hl⟩
 ·rw [Ag,Cz];exact⟨h.inj,by simp,λx hx y hy e=>by simp at hy;subst hy e;exact hn hx⟩
theorem aj.lists{H:Hp}{R:Addr}{as:List (Addr×Addr)}{n:Net}(h:aj H R as n){x:Addr×Addr}(hx:x∈as):∃ zs,H x.2=some (Ls zs):=by
 obtain⟨i,hi,e⟩:=Em.mp hx;have hl:=h.len;exact⟨_,(h.tup i x (n[i]'(by omega)) (by rw [<- e];exact Ab hi)<|Ab<|by omega).2⟩
theorem aj.fresh{H:Hp}{R l:Addr}{as:List (Addr×Addr)}{n:Net}(h:aj H R as n)(hl:H l=none){x:Addr×Addr}(hx:x∈as):l≠x.2:=by
 obtain⟨zs,e⟩:=h.lists hx;exact(bC e hl).symm
theorem Ql(n:Net):(ends n).length=(ah n).length:=by
 unfold ends bG;rw [Aa,<- nX n 0,Aa]
theorem fF.ends{n:Net}(T:cv n){e:End}{fs:List End}(h:fF n e fs)(he:e∈ends n):∀ c∈fs,c∈Nt.ends n:=by
 intro c hc;obtain⟨i,hi,e2⟩:=Em.mp hc;have:=h.at' i hi;rw [Ab hi,e2] at this;rw [Option.some.inj this];exact n4 (λa ha=>xJ T ha) he i
theorem yh{n:Net}{c k:End}{z:Str}(hc:ii n c)(hk:k.1 < n.length):ii (ins n k z) c:=by
 refine⟨by rw [ye];exact hc.1,?_⟩;rw [F9 n k z c.1 hk];have:=hc.2
 split
 ·rw [Ae,Ar,Ay,Cb];omega
 ·exact this
def dbl(zs:List Str):List Str:=zs.flatMap λz=>[z,z]
theorem yi(y:Str):∀ zs:List Str,(dbl zs).count y=2 * zs.count y
 | []=>rfl
 | z :: r=>by
  unfold dbl;rw [Ej];have ih:=yi y r;unfold dbl at ih;rw [List.count_append,ih,Fy,Fy,Fy,List.count_nil];omega
theorem gn{y:Str}{zs:List Str}:y∈dbl zs↔y∈zs:=by
 rw [<- Fz,yi,<- Fz];omega
theorem yj:∀ zs:List Str,(dbl zs).length=2 * zs.length
 | []=>rfl
 | z :: r=>by
  unfold dbl;rw [Ej,Ae];have ih:=yj r;unfold dbl at ih;rw [ih,Ar];simp;omega
theorem Qm(zs:List Str)(z:Str):dbl (zs++[z])=dbl zs++[z,z]:=by
 unfold dbl;rw [Eu];rfl
theorem Gw{n:Net}{zs:List Str}(hn:zs.Nodup)(p:(ah n).Perm<|dbl zs):cv n:=λz hz=>by
 rw [p.count_eq,yi];have h1:z∈zs:=gn.mp<|p.mem_iff.mp hz;rw [hn.count,BK h1]
def NE(n:Net):Prop:=∀ r∈n,r.2≠[]
theorem Gx{n:Net}{i:Nat}(h:i < n.length):row n i=n[i].2:=by unfold row;rw [Ab h];rfl
theorem Qn{n:Net}(h:NE n)(h0:n≠[]):Full n:= .inr ⟨h0,λi hi=>by rw [Gx hi];exact h _<|By hi⟩
theorem Full.ne{n:Net}(h:Full n):(∃ nm,n=[(nm,[])])\/NE n:=by
 rcases h with h | ⟨_,h⟩
 ·exact .inl h
 ·refine .inr λr hr=>?_;obtain⟨i,hi,rfl⟩:=Em.mp hr;have:=h i hi;rwa [Gx hi] at this
theorem Gy:∀(n:Net) (k:Nat) (h:k < n.length),(ah n).Perm<|n[k].2++ah (n.eraseIdx k)
 | [],k,h=>by simp at h
 | a :: n,0,h=>by unfold ah;simp
 | a :: n,k+1,h=>by
  have ih:=Gy n k (by simpa using h);unfold ah at ih ⊢;simp only [Ej,List.getElem_cons_succ,LR];refine(ih.append_left a.2).trans ?_;rw [<- Aw,<- Aw];exact List.perm_append_comm.append_right _
theorem Qo(n:Net)(k:Nat)(h:k < n.length):(n.map (·.1)).Perm (n[k].1 :: (n.eraseIdx k).map (·.1)):=by
 have:=(bP.cR n k h).map (·.1);exact this.symm
theorem yk(zs:List Str)(i:Nat):(zs.drop i++zs.take i).Perm zs:=by
 refine Dz.trans ?_;rw [Bw]
theorem aj.upd{H:Hp}{R x:Addr}{as:List (Addr×Addr)}{n:Net}(h:aj H R as n){xs:List V}{o:HO}(hx:H x=some (.lst xs))(hR:R≠x)(ha:∀ a∈as,a.2≠x):aj (upd H x o) R as n:=by
 refine⟨h.len,by rw [av hR];exact h.lst,λi a r h1 h2=>?_,h.inj⟩;have q:=h.tup i a r h1 h2;exact⟨by rw [av<|en q.1 hx λe=>nomatch e];exact q.1,by rw [av<|ha a<|Au h1];exact q.2⟩
theorem yl{α:Type}(l:List α)(k i:Nat):(l.eraseIdx k)[i]?=if i < k then l[i]? else l[i+1]?:=by
 rw [List.getElem?_eraseIdx]
theorem aj.erase{H:Hp}{R:Addr}{as:List (Addr×Addr)}{n:Net}(h:aj H R as n){k:Nat}(hk:k < n.length) :
  aj (L2.upd H R<|.lst<|(as.map λa=>V.ref a.1).eraseIdx k) R (as.eraseIdx k) (n.eraseIdx k):=by
 have hl:=h.len;refine⟨by rw [Gk,Gk,hl],?_,λi a r h1 h2=>?_,?_⟩
 ·rw [ae]
  congr 2
  refine Dr λi=>?_;rw [yl,Ad,Ad,Ad,yl]
  split <;> rfl
 ·rw [yl] at h1 h2;have q:H a.1=some (.tup [.str r.1,.ref a.2])/\H a.2=some (Ls r.2):=by
   by_cases c:i < k
   ·rw [BK c] at h1 h2;exact h.tup i a r h1 h2
   ·rw [BJ c] at h1 h2;exact h.tup (i+1) a r h1 h2
  have t2:a.2≠R:=by
   intro e;have h3:=h.lst;rw [<- e,q.2] at h3;have h4:=HO.lst.inj<|Option.some.inj h3;cases as with
   | nil=>simp at hl;simp [<- hl] at hk
   | cons b bs=>
    cases hm:r.2 with
    | nil=>rw [hm] at h4;simp at h4
    | cons y r=>rw [hm] at h4;simp at h4
  exact⟨by rw [av<|en q.1 h.lst λe=>nomatch e];exact q.1,by rw [av t2];exact q.2⟩
 ·have:((as.eraseIdx k).map (·.2)).Sublist (as.map (·.2)):=(List.eraseIdx_sublist as k).map _;exact h.inj.sublist this
theorem Gz(zs:List Str)(i:Nat):bM (zs.map V.str) (some (i:Int)) none=(zs.drop i).map V.str:=by
 unfold bM;rw [HT.dc,HT.cF,Aa];rw [Ci (by rw [Cb,Aa];omega),QD]
 rcases QG i zs.length with h | h
 ·rw [Ed h]
 ·rw [KH h,Cy (by simp),Cy<|by simpa using h]
theorem Qp(zs:List Str)(i:Nat):bM (zs.map V.str) none (some (i:Int))=(zs.take i).map V.str:=by
 unfold bM;rw [HT.dc,HT.cF,Aa,Gd,Nat.sub_zero,List.map_take]
 rcases QG i zs.length with h | h
 ·rw [Ed h]
 ·rw [KH h,Ci (by simp),Ci<|by simpa using h]
def bv(n:Net)(r:Nat):Str:=((n[r]?).map (·.1)).getD ⟨#[]⟩
theorem kH{n:Net}{r:Nat}(h:r < n.length):bv n r=n[r].1:=by unfold bv;rw [Ab h];rfl
abbrev Lk:=Str×Str×Str
def iJ(n:Net)(x:Lk):Prop:=∃ a b,pos n x.1=[a,b]/\x.2.1=bv n a.1/\x.2.2=bv n b.1
structure gq(n:Net)(done:List<|Str×End)(kM:List<|Key×V)(ls:List Lk):Prop where
 m0:∀ z,b4 done z=[]->aA kM (Sum.inr z)=none
 m1:∀ z a rest,b4 done z=a :: rest->aA kM (Sum.inr z)=some (.str<|bv n a.1)
 mem:∀ x:Lk,x∈ls↔∃ a b rest,b4 done x.1=a :: b :: rest/\x.2.1=bv n a.1/\x.2.2=bv n b.1
 ik:(ls.map (·.1)).Nodup
 mz:kM.length<=done.length
 jQ:ls.length<=done.length
theorem gq.start(n:Net):gq n [] [] []:=⟨λ_ _=>rfl,λz a rest h=>(by cases h),λx=>⟨λh=>(by cases h),λ⟨a,b,rest,h,_⟩=>(by cases h)⟩,Dg,Ah _,Ah _⟩
theorem gq.new{n:Net}{done:List (Str×End)}{kM:List (Key×V)}{ls:List Lk}(I:gq n done kM ls){z:Str}{e:End}(h0:b4 done z=[]):gq n (done++[(z,e)]) (putK kM (Sum.inr z)<|.str<|bv n e.1) ls:=by
 refine⟨λy hy=>?_,λy a rest hy=>?_,λx=>?_,I.ik,?_,?_⟩
 ·rw [dD] at hy;obtain⟨h1,h2⟩:=Fa.mp hy;have aY:¬ z=y:=λq=>by rw [BK q] at h2;cases h2
  rw [fV,BJ λq=>aY (Sum.inr.inj q).symm];exact I.m0 y h1
 ·rw [dD] at hy
  by_cases q:z=y
  ·subst q;rw [h0,BK rfl] at hy;cases hy;rw [fV,BK rfl]
  ·rw [BJ q,Bc] at hy;rw [fV,BJ λp=>q (Sum.inr.inj p).symm];exact I.m1 y a rest hy
 ·rw [I.mem x]
  by_cases q:z=x.1
  ·constructor
   ·rintro ⟨a,b,rest,h,_⟩;rw [<- q,h0] at h;cases h
   ·rintro ⟨a,b,rest,h,_⟩;rw [dD,<- q,h0,BK rfl] at h;cases h
  ·constructor
   ·rintro ⟨a,b,rest,h,r⟩;exact⟨a,b,rest,by rw [dD,BJ q,Bc];exact h,r⟩
   ·rintro ⟨a,b,rest,h,r⟩;rw [dD,BJ q,Bc] at h;exact⟨a,b,rest,h,r⟩
 ·have:=nH kM (Sum.inr z)<|.str<|bv n e.1;have:=I.mz;rw [Ae,Fi];omega
 ·have:=I.jQ;rw [Ae,Fi];omega
theorem gq.old{n:Net}{done:List (Str×End)}{kM:List (Key×V)}{ls:List Lk}(I:gq n done kM ls){z:Str}{a e:End}(h1:b4 done z=[a]):gq n (done++[(z,e)]) kM (ls++[(z,bv n a.1,bv n e.1)]):=by
 have hz:b4 (done++[(z,e)]) z=[a,e]:=by rw [dD,h1,BK rfl];rfl
 have Qq:z∉ls.map (·.1):=λh=>by
  obtain⟨x,hx,ex⟩:=At.mp h;obtain⟨b,c,rest,hp,_⟩:=(I.mem x).mp hx;have ex:x.1=z:=ex;rw [ex,h1] at hp;cases hp
 refine⟨λy hy=>?_,λy b rest hy=>?_,λx=>?_,?_,?_,?_⟩
 ·rw [dD] at hy;exact I.m0 y (Fa.mp hy).1
 ·by_cases q:z=y
  ·subst q;rw [hz] at hy;cases hy;exact I.m1 z a [] h1
  ·rw [dD,BJ q,Bc] at hy;exact I.m1 y b rest hy
 ·rw [Al,Af,I.mem x]
  by_cases q:z=x.1
  ·constructor
   ·rintro (⟨b,c,rest,h,_⟩ | h)
    ·rw [<- q,h1] at h;cases h
    ·subst h;exact⟨a,e,[],hz,rfl,rfl⟩
   ·rintro ⟨b,c,rest,h,r1,r2⟩;rw [<- q,hz] at h;cases h;obtain⟨x1,x2,x3⟩:=x;have q:z=x1:=q;have r1:x2=bv n a.1:=r1;have r2:x3=bv n e.1:=r2;subst q r1 r2;exact .inr rfl
  ·constructor
   ·rintro (⟨b,c,rest,h,r⟩ | h)
    ·exact⟨b,c,rest,by rw [dD,BJ q,Bc];exact h,r⟩
    ·subst h;exact absurd rfl q
   ·rintro ⟨b,c,rest,h,r⟩;rw [dD,BJ q,Bc] at h;exact .inl ⟨b,c,rest,h,r⟩
 ·rw [Ag];exact kq I.ik Qq
 ·have:=I.mz;rw [Ae,Fi];omega
 ·have:=I.jQ;rw [Ae,Ae];show _+1<=_+1;omega
theorem gq.whole{n:Net}(T:cv n){kM:List (Key×V)}{ls:List Lk}(I:gq n (bG n) kM ls)(x:Lk):x∈ls↔iJ n x:=by
 rw [I.mem x]
 constructor
 ·rintro ⟨a,b,rest,h,r⟩;have hp:pos n x.1=a :: b :: rest:=h;have ha:dQ n a=some x.1:=bZ.mp (by rw [hp];exact Ak ..);have hl:=l3 n x.1;rw [hp,T x.1<|nY ha] at hl;have:rest=[]:=by
   have:rest.length+1+1=2:=hl;exact Bt.mp<|by omega
  rw [this] at hp;exact⟨a,b,hp,r⟩
 ·rintro ⟨a,b,h,r⟩;exact⟨a,b,[],h,r⟩
inductive Way (ls:List<|Str×Str×Bool) (f:Str):Str->Bool->Prop where
 | here:Way ls f f false
 | there {x y:Str} {b o:Bool}:Way ls f x b->(x,y,o)∈ls->Way ls f y (b != o)
 | back {x y:Str} {b o:Bool}:Way ls f x b->(y,x,o)∈ls->Way ls f y (b != o)
end Nt
namespace L2
open PySem PySem.Spec PyProof.Rows
theorem GA{P:Program}{w:World}{k:Key}{u:Value}(h:(dS P w).is k u=true):RelV (kV k) u:=by
 rcases i7 h with ⟨i,t,rfl,rfl⟩ | ⟨x,t,rfl,rfl⟩ <;> exact⟨t,rfl⟩
section
variable{X:Cx}{pins:List (Addr×Obj)}{σ:St}{H:Hp}{s:Shared}
theorem Qr{xs:List V}:∀{vs:List Value},vs.length=xs.length->(∀(j:Nat) u,vs[j]?=some u->∃ x,xs[j]?=some x/\RelV x u)->aq xs vs:=by
 induction xs with
 | nil=>
  intro vs h _;cases vs with
  | nil=>exact .nil
  | cons a b=>simp at h
 | cons x r ih=>
  intro vs h g;cases vs with
  | nil=>simp at h
  | cons u q=>
   obtain⟨x',e,ru⟩:=g 0 u rfl;simp only [List.getElem?_cons_zero,Option.some.injEq] at e;subst e;exact .cons ru<|ih (by simpa using h) λj u hu=>by simpa using g (j+1) u (by simpa using hu)
theorem Qs(hc:X.calm=true):fq X (.type "list") (λxs H Q=>∃ a kvs,xs=[.ref a]/\Rd H a (.dK kvs)/\∀ l,H l=none->Q (.ref l) (upd H l<|.lst<|kvs.map λp=>kV p.1)):=by
 intro pins s σ H xs us Q I r h;obtain⟨a,kvs,rfl,hH,q⟩:=h;obtain⟨u,rfl,ru⟩:=vals1 r;cases (show u=Value.ref a from ru);obtain⟨z,hd,vs,rel,dd⟩:=nI I.aB hH;obtain⟨ep,da⟩:=dd.dictAt;have hl:=rel.length;refine PySem.W.kdl_call (PySem.W.kdl_dict (knd:=dS X.prog X.w) (kvs:=vs) (ep:=ep) hd) (I.ok.hd hc) da (by omega) λh' tk acc c' hk hS qd=>?_;have rv:aq (kvs.map λp=>kV p.1) acc.toList:=by
  refine Qr (by rw [Am,qd.1,Aa];omega) λj u hu=>?_;obtain⟨k,x,e,g⟩:=qd.2 j u (by rw [<- Ao];exact hu);refine⟨kV k,?_,GA g⟩;have e2:(kvs.map (·.1))[j]?=some k:=by rw [rel.keys,Ad,e];rfl
  rw [Ad,Ap] at e2;obtain⟨p,e3,e4⟩:=e2;rw [Ad,e3,<- e4];rfl
 exact⟨.ref s.heap.objs.size,_,I.laid (t':=tk) hk (Ah _) (show ax X.prog X.w _ h' _ (.lst<|kvs.map λp=>kV p.1) from⟨by rw [Aa];exact z,acc.toList,c',rv,by rw [Array.toArray_toList];exact hS⟩),rfl,q _<|I.aB.fresh<|Ah _⟩
theorem Qt{d:Addr}{kvs:List (Key×V)}(I:Inv X pins σ H s)(e:H d=some (.dK kvs)):∃ o,s.heap.get? d=some o/\Inv X pins σ (upd H d<|.cK o<|.dK kvs) s:=by
 obtain⟨z,hd,vs,rel,dd⟩:=pQ I.aB e;obtain⟨o,es,ep,ho,rest⟩:=id dd;refine⟨o,ho,?_⟩;exact nK (t':=s.toks) I (by rw [e];exact True.intro) ⟨rfl,λ_ _=>rfl⟩ ⟨o,ho⟩ (show ax X.prog X.w _ s.heap d (.cK o<|.dK kvs) from⟨ho,z,hd,vs,rel,dd⟩)
def ut(d:Addr)(o:Obj)(kvs:List<|Key×V):It:=
 ⟨λi H=>H d=some (.cK o<|.dK kvs)/\i < kvs.length,λi H x H'=>H'=H/\∃ p,kvs[i]?=some p/\x=kV p.1,λi H=>H d=some (.cK o<|.dK kvs)/\kvs.length<=i⟩
theorem GH{P:Program}{w:World}{h:Heap}{d:Addr}{o:Obj}{es:Array DictEntry}{ep:Nat}{kvs:List (Key×V)}(aB:cf P w H h)(e:H d=some (.cK o<|.dK kvs))(hd:o.data = .dict es ep):∃ vs,KV kvs vs/\h.DictAt (dS P w) d vs ep:=by
 obtain⟨ho,z,_,vs,rel,dd⟩:=(show ax P w H h d (.cK o<|.dK kvs) from aB d _ e);obtain⟨sU,o',a7,fh,r1,r2,r3⟩:=dd.dictAt;have:o=o':=Option.some.inj<|ho.symm.trans fh;subst this;rw [hd] at r2
 injection r2 with e1 e2
 subst e1;subst e2;exact⟨vs,rel,o,es,fh,r1,hd,r3⟩
theorem GI{P:Program}{w:World}{K:PySem.W.Frag}{tg:Expr}(d it:Addr)(o:Obj)(es:Array DictEntry)(ep:Nat)(kvs:List<|Key×V)(GO:o.data = .dict es ep):Turn P w K tg (ut d o kvs) [it] it (λi h=>h.IsKeyIter it d i kvs.length ep) where
 mem:=by simp
 obj:=λi h st b hb=>by
  have e:b=it:=by simpa using hb
  subst e;obtain⟨o,e,c,d⟩:=st;exact⟨o,e,λv z=>by rw [d] at z;cases z⟩
 keep:=λi h h' st k=>let ⟨o,ho,r⟩:=st;⟨o,k it (by simp) o ho,r⟩
 item:=by
  intro X hP hw hK hc i pins s σ H E I hf st hg;subst hP hw hK;obtain⟨f0,f1,f2,f3,f4,f5⟩:=hf it (by simp);obtain⟨hd,hi⟩:=hg;obtain⟨vs,rel,da⟩:=GH I.aB hd GO;have hl:=rel.length;have d6:i < vs.length:=by omega
  have hx:vs[i]?=some vs[i]:=Ab d6;rw [hl] at st;refine wpAny_pyNext_dict_item (k:=vs[i].1) (v:=vs[i].2) st da hx λkey h' hk ai dI=>?_;have I1:Inv X pins σ H {s with heap:=h'}:=I.turned (t':=s.toks) (λb o hb e=>dI.extBut b o hb e) f0 f1 f3 f4 f5;obtain⟨o2,e2,c2,d2⟩:=id ai;refine⟨_,rfl,sZ (s:={s with heap:=h'}) e2 c2 d2 (by decide) ⟨kV vs[i].1,H,I1,GA hk,⟨rfl,kvs[i],Ab hi,?_⟩,by rw [hl];exact ai,λb hb=>(hf b hb).1⟩⟩;have ek:=rel.keys;have e3:(kvs.map (·.1))[i]?=(vs.map (·.1))[i]?:=by rw [ek]
  rw [Ad,Ad,Ab hi,hx] at e3;have e4:kvs[i].1=vs[i].1:=Option.some.inj e3;rw [e4]
 done:=by
  intro X hP hw hK hc i pins s σ H E I hf st hg;subst hP hw hK;obtain⟨f0,f1,f2,f3,f4,f5⟩:=hf it (by simp);obtain⟨hd,hi⟩:=hg;obtain⟨vs,rel,da⟩:=GH I.aB hd GO;have hl:=rel.length;rw [hl] at st;exact wpAny_pyNext_dict_end (I.ok.hd hc) st da (by rw [Da];omega) λh' eb=>⟨rfl,I.turned (t':=s.toks) (λb o hb e=>eb b o hb e) f0 f1 f3 f4 f5⟩
 self:=λ_ _ _ _ _ st h=>wpAny_pyIter_keyiter st h
def Qu(tl:TE):TI:=λσ H R=>tl σ H λx H1=>∃ d kvs,x = .ref d/\H1 d=some (.dK kvs)/\∀ o,R (ut d o kvs)<|upd H1 d<|.cK o<|.dK kvs
theorem Qv{tg l:Expr}{tl:TE}(hl:PE X l tl):PI X tg l (Qu tl):=by
 intro pins s σ H R I h;refine aD (hl pins s σ H _ I h) λv s1 ⟨x,H1,I1,r1,q1⟩=>?_;obtain⟨d,kvs,e,hH,q⟩:=q1;subst e;cases (show v=Value.ref d from r1);obtain⟨o,ho,I2⟩:=Qt I1 hH;obtain⟨z,n9,vs,rel,dd⟩:=pQ I1.aB hH;obtain⟨ep,o',es,fh,r1,r2,r3⟩:=dd.dictAt;have:o=o':=Option.some.inj<|ho.symm.trans fh;subst this;refine wpAny_pyIter_dict n9 ⟨o,es,fh,r1,r2,r3⟩ ?_;refine⟨s1.heap.objs.size,[s1.heap.objs.size],_,_,_,rfl,I2.kept (t':=s1.toks) λb o e=>Ai _ e,GI d _ o es ep kvs r2,⟨_,Bp _ rfl,rfl,by rw [rel.length];rfl⟩,λb hb=>?_,q o⟩;have e:b=s1.heap.objs.size:=by simpa using hb
 subst e;exact I2.gE (Ah _)<|I2.aB.fresh<|Ah _
end
section
variable{X:Cx}{elt tg:Expr}{ifs:List Expr}{scope:Scope}{σ:St}{H:Hp}{N':List Str}{A a d:Addr}{xs:List V}{kvs:List (Key×V)}{after:Hp->Prop}
theorem jR(Pv:Nat->St->Hp->Prop)(h0:Pv 0 σ H)(hl:∀ i σ' H',i<=xs.length->Pv i σ' H'->ak X.K H' a xs)
  (hs : ∀ i x σ' H', xs[i]? = some x → Pv i σ' H' → tO X N' scope tg x σ' H' λσ2 H3 => tP X N' scope ifs σ2 H3 λb H4 =>
   if b=true then tN X N' scope elt σ2 H4 λv H5=>∃ ys,H5 A=some (.lst ys)/\ys.length < sizeLine/\Pv (i+1) σ2 (upd H5 A<|.lst<|ys++[v]) else Pv (i+1) σ2 H4)
  (hd:∀ σ' H',Pv xs.length σ' H'->after H'):kr X N' scope tg ifs elt (pk X.K a) A after σ H:=by
 refine⟨λi m σ' H'=>m=xs.length - i/\i<=xs.length/\Pv i σ' H',⟨_,rfl,Br _,h0⟩,?_⟩;rintro i m σ' H' ⟨rfl,hi,p⟩;have q:=hl i σ' H' hi p
 by_cases aE:i < xs.length
 ·refine .inr ⟨⟨xs,xs[i],q,by simp [aE]⟩,Pv<|i+1,λσ' H' p'=>⟨xs.length - (i+1),by omega,rfl,aE,p'⟩,λx H2 y=>?_⟩;obtain⟨e,y⟩:=y;subst e;exact hs i x σ' _ (y xs q) p
 ·have e:i=xs.length:=by omega
  subst e;exact .inl ⟨⟨xs,q,Ah _⟩,hd σ' H' p⟩
theorem GU{o:Obj}(Pv:Nat->St->Hp->Prop)(h0:Pv 0 σ H)(hl:∀ i σ' H',i<=kvs.length->Pv i σ' H'->H' d=some (.cK o<|.dK kvs))
  (hs : ∀ i p σ' H', kvs[i]? = some p → Pv i σ' H' → tO X N' scope tg (kV p.1) σ' H' λσ2 H3 => tP X N' scope ifs σ2 H3 λb H4 =>
   if b=true then tN X N' scope elt σ2 H4 λv H5=>∃ ys,H5 A=some (.lst ys)/\ys.length < sizeLine/\Pv (i+1) σ2 (upd H5 A<|.lst<|ys++[v]) else Pv (i+1) σ2 H4)
  (hd:∀ σ' H',Pv kvs.length σ' H'->after H'):kr X N' scope tg ifs elt (ut d o kvs) A after σ H:=by
 refine⟨λi m σ' H'=>m=kvs.length - i/\i<=kvs.length/\Pv i σ' H',⟨_,rfl,Br _,h0⟩,?_⟩;rintro i m σ' H' ⟨rfl,hi,p⟩;have q:=hl i σ' H' hi p
 by_cases aE:i < kvs.length
 ·refine .inr ⟨⟨q,aE⟩,Pv<|i+1,λσ' H' p'=>⟨kvs.length - (i+1),by omega,rfl,aE,p'⟩,λx H2 y=>?_⟩;obtain⟨e,p',ep,y⟩:=y;subst e y;exact hs i p' σ' _ ep p
 ·have e:i=kvs.length:=by omega
  subst e;exact .inl ⟨⟨q,Ah _⟩,hd σ' H' p⟩
theorem oa{e1 e2:Expr}{k:Nat}{pos:Pos}{t:Addr}{x y:V}{R:St->Hp->Prop}(hc:X.calm=true)(ht:aK X.K H t [x,y])(h:Eg X e1 x σ H λσ1 H1=>Eg X e2 y σ1 H1 R)
  (hn:(assignEach [e1,e2] X.env).length=2:=by rfl) (cY:(assignEach [e1,e2] X.env).findIdx? (·.1)=none:=by rfl)
  (mB:(assignEach [e1,e2] X.env).map (·.2)=assign e1 X.env :: (assignEach [e2] X.env).map (·.2):=by rfl) (nE:(assignEach [e2] X.env).map (·.2)=assign e2 X.env :: (assignEach [] X.env).map (·.2):=by rfl) :
  Eg X (.Tuple [e1,e2] k pos) (.ref t) σ H R:=
 wZ (CL (t:=nA (λv σ H Q=>Eg X e1 v σ H Q)<|nA (λv σ H Q=>Eg X e2 v σ H Q) lj) hc (o9 lS (o9 lS CI nE) mB) hn cY) ⟨t,_,rfl,ht,rfl,_,_,rfl,h.mono λσ1 H1 h1=>⟨_,_,rfl,h1.mono λσ2 H2 q=>⟨rfl,q⟩⟩⟩
end
end L2
namespace Nt
open PySem L2
abbrev Bl:=Str×Str×Bool
def has(kvs:List<|Key×V)(x:Str):Prop:=∃ v,aA kvs (Sum.inr x)=some v
def qe(ls:List Bl)(x y:Str)(o:Bool):Prop:=(x,y,o)∈ls\/(y,x,o)∈ls
def qf(ls:List Bl):List Str:=ls.flatMap λl=>[l.1,l.2.1]
theorem GV:∀ ls:List Bl,(qf ls).length=2 * ls.length
 | []=>rfl
 | l :: r=>by
  show(qf r).length+1+1=2 * (r.length+1);rw [GV r];omega
theorem Qw{ls:List Bl}{x y:Str}{o:Bool}(h:qe ls x y o):y∈qf ls:=by
 rcases h with h | h
 ·exact List.mem_flatMap.mpr ⟨_,h,by simp⟩
 ·exact List.mem_flatMap.mpr ⟨_,h,by simp⟩
theorem oe{κ:Type} [DecidableEq κ] (kvs:List<|κ×V) (k:κ) (v:V):(putK kvs k v).map (·.1)=if k∈kvs.map (·.1) then kvs.map (·.1) else kvs.map (·.1)++[k]:=by
 have e:(kvs.any λkv=>decide (kv.1=k))=decide (k∈kvs.map (·.1)):=by
  rw [Fd,List.any_eq_true,FJ,At];exact⟨λ⟨p,h1,h2⟩=>⟨p,h1,CV h2⟩,λ⟨p,h1,h2⟩=>⟨p,h1,CG h2⟩⟩
 unfold putK;rw [e]
 by_cases h:k∈kvs.map (·.1)
 ·rw [BK<|CG h,BK h,Be];refine Bk λp _=>?_;show(if p.1=k then(p.1,v) else p).1=p.1
  split <;> rfl
 ·rw [BJ (by simpa using h),BJ h,Ag];rfl
structure c7(ls:List Bl)(f:Str)(hr:Option Str)(kvs:List<|Key×V)(wt:List Str):Prop where
 ik:(kvs.map (·.1)).Nodup
 txt:∀ k∈kvs.map (·.1),∃ x,k=Sum.inr x/\x∈f :: qf ls
 val:∀ x v,aA kvs (Sum.inr x)=some v->∃ b,v = .bl b/\Way ls f x b
 fst:has kvs f
 uv:∀ x∈wt,has kvs x
 GW:∀ x,some x=hr->has kvs x
 cls:∀ x,has kvs x->x∈wt\/some x=hr\/∀ y o,qe ls x y o->has kvs y
theorem c7.len{ls:List Bl}{f:Str}{hr:Option Str}{kvs:List (Key×V)}{wt:List Str}(I:c7 ls f hr kvs wt):kvs.length<=1+2 * ls.length:=by
 have:=aU I.ik (b:=(f :: qf ls).map Sum.inr) λk hk=>by
  obtain⟨x,e,hx⟩:=I.txt k hk;rw [e];exact At.mpr ⟨x,hx,rfl⟩
 rw [Aa,Aa,Ar,GV] at this;omega
theorem qg{kvs:List (Key×V)}{k:Key}{v:V}{x:Str}(h:has kvs x):has (putK kvs k v) x:=by
 obtain⟨u,hu⟩:=h;unfold has;rw [fV]
 split
 ·exact⟨_,rfl⟩
 ·exact⟨u,hu⟩
theorem c7.start(ls:List Bl)(f:Str):c7 ls f none (putK [] (Sum.inr f)<|.bl false) [f]:=by
 have e:putK ([]:List<|Key×V) (Sum.inr f) (.bl false)=[(Sum.inr f,.bl false)]:=rfl;have hv:∀ x,aA ([(Sum.inr f,.bl false)]:List<|Key×V) (Sum.inr x)=if x=f then some (.bl false) else none:=λx=>by
  rw [<- e,fV]
  by_cases h:x=f
  ·rw [BK h,BK<|by rw [h]]
  ·rw [BJ h,BJ λq=>h<|Sum.inr.inj q];rfl
 rw [e];refine⟨by simp,λk hk=>⟨f,by simpa using hk,Ak ..⟩,λx v h=>?_,⟨.bl false,by rw [hv f,BK rfl]⟩,λx hx=>?_,λx hx=>by(cases hx),λx hx=>?_⟩
 ·rw [hv x] at h
  by_cases c:x=f
  ·rw [BK c] at h;cases h;subst c;exact⟨false,rfl,.here⟩
  ·rw [BJ c] at h;cases h
 ·rw [Af.mp hx];exact⟨.bl false,by rw [hv f,BK rfl]⟩
 ·obtain⟨v,h⟩:=hx;rw [hv x] at h
  by_cases c:x=f
  ·exact .inl<|Af.mpr c
  ·rw [BJ c] at h;cases h
theorem c7.pop{ls:List Bl}{f h:Str}{kvs:List (Key×V)}{wt:List Str}(I:c7 ls f none kvs<|wt++[h]):c7 ls f (some h) kvs wt:=by
 refine⟨I.ik,I.txt,I.val,I.fst,λx hx=>I.uv x<|Av _ hx,λx hx=>(by cases hx;exact I.uv h<|Aj _<|Af.mpr rfl),λx hx=>?_⟩
 rcases I.cls x hx with c | c | c
 ·rcases Al.mp c with c | c
  ·exact .inl c
  ·exact .inr<|.inl<|by rw [Af.mp c]
 ·cases c
 ·exact .inr<|.inr c
theorem c7.close{ls:List Bl}{f h:Str}{kvs:List (Key×V)}{wt:List Str}(I:c7 ls f (some h) kvs wt)(c:∀ y o,qe ls h y o->has kvs y):c7 ls f none kvs wt:=by
 refine⟨I.ik,I.txt,I.val,I.fst,I.uv,λx hx=>(by cases hx),λx hx=>?_⟩
 rcases I.cls x hx with d | d | d
 ·exact .inl d
 ·cases d;exact .inr<|.inr c
 ·exact .inr<|.inr d
theorem c7.kI{ls:List Bl}{f:Str}{hr:Option Str}{kvs:List (Key×V)}{wt:List Str}(I:c7 ls f hr kvs wt){g:Str}(hg:aA kvs (Sum.inr g)=none):Sum.inr g∉kvs.map (·.1):=by
 intro hm;obtain⟨p,hp,e⟩:=At.mp hm;have:∃ i:Nat,kvs[i]?=some p:=Ba hp;obtain⟨i,hi⟩:=this;have:∀{l:List (Key×V)},(∃ q∈l,q.1=Sum.inr g)->aA l (Sum.inr g)≠none:=λ{l}=>by
  induction l with
  | nil=>rintro ⟨q,hq,_⟩;cases hq
  | cons c r ih=>
   rintro ⟨q,hq,e⟩ hn
   by_cases hc:c.1=Sum.inr g
   ·rw [hG hc] at hn;cases hn
   ·rw [hU hc] at hn
    rcases Ax.mp hq with rfl | hq
    ·exact hc e
    ·exact ih ⟨q,hq,e⟩ hn
 exact this ⟨p,hp,e⟩ hg
theorem c7.Qx{ls:List Bl}{f h:Str}{kvs:List (Key×V)}{wt:List Str}(I:c7 ls f (some h) kvs wt):has kvs h:=I.GW h rfl
theorem c7.add{ls:List Bl}{f h g:Str}{kvs:List (Key×V)}{wt:List Str}{b o:Bool}(I:c7 ls f (some h) kvs wt)(hg:aA kvs (Sum.inr g)=none)(hh:aA kvs (Sum.inr h)=some (.bl b))(t:qe ls h g o) :
  c7 ls f (some h) (putK kvs (Sum.inr g)<|.bl<|b != o) (wt++[g]):=by
 have qh:=I.kI hg;have hw:Way ls f g (b != o):=by
  obtain⟨b',e,hw⟩:=I.val h _ hh;cases e
  rcases t with t | t
  ·exact .there hw t
  ·exact .back hw t
 refine⟨?_,λk hk=>?_,λx v hv=>?_,qg I.fst,λx hx=>?_,λx hx=>qg<|I.GW x hx,λx hx=>?_⟩
 ·rw [oe,BJ qh];exact kq I.ik qh
 ·rw [oe,BJ qh] at hk
  rcases Al.mp hk with hk | hk
  ·exact I.txt k hk
  ·exact⟨g,Af.mp hk,Aq _<|Qw t⟩
 ·rw [fV] at hv
  by_cases c:Sum.inr x=(Sum.inr g:Key)
  ·rw [BK c] at hv;cases hv;rw [Sum.inr.inj c];exact⟨_,rfl,hw⟩
  ·rw [BJ c] at hv;exact I.val x v hv
 ·rcases Al.mp hx with hx | hx
  ·exact qg<|I.uv x hx
  ·rw [Af.mp hx];exact⟨_,by rw [fV,BK rfl]⟩
 ·obtain⟨v,hv⟩:=hx;rw [fV] at hv
  by_cases c:Sum.inr x=(Sum.inr g:Key)
  ·exact .inl<|Aj _<|Af.mpr<|Sum.inr.inj c
  ·rw [BJ c] at hv
   rcases I.cls x ⟨v,hv⟩ with d | d | d
   ·exact .inl<|Av _ d
   ·exact .inr<|.inl d
   ·exact .inr<|.inr λy o' ht=>qg<|d y o' ht
theorem c7.whole{ls:List Bl}{f:Str}{kvs:List (Key×V)}(I:c7 ls f none kvs []):∀ x b,Way ls f x b->∃ b',aA kvs (Sum.inr x)=some (.bl b'):=by
 have lN:∀ x b,Way ls f x b->has kvs x:=λx b w=>by
  induction w with
  | here=>exact I.fst
  | there w hm ih=>
   rcases I.cls _ ih with d | d | d
   ·cases d
   ·cases d
   ·exact d _ _<|.inl hm
  | back w hm ih=>
   rcases I.cls _ ih with d | d | d
   ·cases d
   ·cases d
   ·exact d _ _<|.inr hm
 intro x b w;obtain⟨v,hv⟩:=lN x b w;obtain⟨b',e,_⟩:=I.val x v hv;exact⟨b',by rw [hv,e]⟩
open PyProof.Rows (sortedS)
def cG(n:Net):Prop:=∀ P:Str->Prop,(∃ r∈n,P r.1)->(∀ r∈n,∀ s∈n,∀ t,t∈r.2->t∈s.2->P r.1->P s.1)->∀ r∈n,P r.1
theorem G0{n m:Net}(h1:∀ r∈n,∃ s∈m,s.1=r.1/\∀ t∈r.2,t∈s.2)(h2:∀ s∈m,∃ r∈n,r.1=s.1)(h:cG n):cG m:=by
 rintro P ⟨s,hs,ps⟩ cl s' dI;obtain⟨r,hr,er⟩:=h2 s hs;obtain⟨r',gK,Qy⟩:=h2 s' dI;rw [<- Qy];refine h P ⟨r,hr,by rw [er];exact ps⟩ (λa ha b hb t ta tb pa=>?_) r' gK;obtain⟨a',Qz,ea,sa⟩:=h1 a ha;obtain⟨b',jS,eb,sb⟩:=h1 b hb;rw [<- eb];exact cl a' Qz b' jS t (sa t ta) (sb t tb)<|by rw [ea];exact pa
theorem QA(r:Str×List Str):cG [r]:=by
 rintro P ⟨s,hs,ps⟩ _ x hx;rw [Af] at hs hx;rw [hx,<- hs];exact ps
theorem ym(n:Net)(c:End)(z:Str)(i:Nat):(ins n c z)[i]?=(n[i]?).map λr=>if c.1=i then(r.1,r.2.take c.2++z :: r.2.drop c.2) else r:=by
 unfold ins;rw [El]
 by_cases h:c.1=i
 ·simp [h]
 ·simp [h]
theorem yn{n:Net}{c:End}{z:Str}(h:cG n):cG (ins n c z):=by
 refine G0 (λr hr=>?_) (λs hs=>?_) h
 ·obtain⟨i,hi⟩:=Ba hr;have e:=ym n c z i;rw [hi] at e;refine⟨_,Au e,?_,λt ht=>?_⟩
  ·split <;> rfl
  ·split
   ·show t∈r.2.take c.2++z :: r.2.drop c.2;rw [<- Bw c.2 r.2] at ht
    rcases Al.mp ht with q | q
    ·exact Av _ q
    ·exact Aj _<|Aq _ q
   ·exact ht
 ·obtain⟨i,hi⟩:=Ba hs;rw [ym,Ap] at hi;obtain⟨r,hr,e⟩:=hi;refine⟨r,Au hr,?_⟩;rw [<- e]
  split <;> rfl
theorem QE{n:Net}{c:End}{z:Str}(hc:c.1 < n.length):∃ r∈ins n c z,z∈r.2:=by
 have e:=ym n c z c.1;rw [Ab hc] at e;refine⟨_,Au e,?_⟩;show z∈(if c.1=c.1 then((n[c.1].1,n[c.1].2.take c.2++z :: n[c.1].2.drop c.2):Str×List Str) else n[c.1]).2;rw [BK rfl];exact Aj _<|Ak ..
theorem QH{n:Net}{z pt:Str}(h:cG n)(hz:∃ r∈n,z∈r.2):cG (n++[(pt,[z])]):=by
 obtain⟨r,hr,zr⟩:=hz;rintro P ⟨s,hs,ps⟩ cl x hx;have mn:((pt,[z]):Str×List Str)∈n++[(pt,[z])]:=Aj _<|Af.mpr rfl;have ml:∀{y},y∈n->y∈n++[(pt,[z])]:=λhy=>Av _ hy;have all:∀ y∈n,P y.1:=by
  refine h P ?_ λa ha b hb t ta tb pa=>cl a (ml ha) b (ml hb) t ta tb pa
  rcases Al.mp hs with q | q
  ·exact⟨s,q,ps⟩
  ·rw [Af] at q;subst q;exact⟨r,hr,cl _ mn r (ml hr) z (Af.mpr rfl) zr ps⟩
 rcases Al.mp hx with q | q
 ·exact all x q
 ·rw [Af] at q;subst q;exact cl r (ml hr) _ mn z zr (Af.mpr rfl)<|all r hr
def aZ(zs:List Str):Prop:=zs.Pairwise λa b=>a.cps.toList < b.cps.toList
theorem yo:∀{zs:List Str},sortedS zs=true->zs.Nodup->aZ zs
 | [],_,_=>List.Pairwise.nil
 | z :: r,h,hn=>by
  rw [Cc] at hn;refine List.Pairwise.cons (λx hx=>?_)<|yo (bP.dJ h) hn.2;have h1:=bP.dk r z h x hx
  rcases List.le_iff_lt_or_eq.mp h1 with q | q
  ·exact q
  ·exact absurd hx<|by rw [<- bP.f7 q];exact hn.1
theorem yp{zs:List Str}(h:aZ zs):zs.Nodup:=h.imp λq e=>by rw [e] at q;exact Dp _ q
theorem qi:∀{a b:List Str},aZ a->aZ b->(∀ x,x∈a↔x∈b)->a=b
 | [],[],_,_,_=>rfl
 | [],y :: b,_,_,h=>by have:=(h y).mpr<|Ak ..;cases this
 | x :: a,[],_,_,h=>by have:=(h x).mp<|Ak ..;cases this
 | x :: a,y :: b,ha,hb,h=>by
  unfold aZ at ha hb;rw [Cr] at ha hb;have qj:x=y:=by
   rcases Ax.mp ((h x).mp<|Ak ..) with e | e
   ·exact e
   ·rcases Ax.mp ((h y).mpr<|Ak ..) with e2 | e2
    ·exact e2.symm
    ·exact absurd (Fw (ha.1 y e2)<|hb.1 x e)<|Dp _
  subst qj;have nx:∀(l:List Str),(∀ z∈l,x.cps.toList < z.cps.toList)->x∉l:=λl hl hm=>Dp _<|hl x hm;have:a=b:=qi ha.2 hb.2 λz=>by
   constructor
   ·intro hz
    rcases Ax.mp ((h z).mp<|Aq _ hz) with e | e
    ·exact absurd (e ▸ hz)<|nx a ha.1
    ·exact e
   ·intro hz
    rcases Ax.mp ((h z).mpr<|Aq _ hz) with e | e
    ·exact absurd (e ▸ hz)<|nx b hb.1
    ·exact e
  rw [this]
end Nt
namespace W6
open PySem L2 Nt a6
def yq:Sp:=λvs H Q _=>∃(R:Addr) (as:List<|Addr×Addr) (n:Net) (b:Int) (z pt:Str),vs=[.ref R,.int b,.str z,.str pt]/\aj H R as n/\cv n/\Full n/\z∉ah n/\n.length<=100/\(ah n).length<=100 /\
 ∀ i jj n' H',aj H' R jj n'->my H H' (R :: as.map (·.2))->(∀ a∈jj,a∈as\/H a.2=none)->(ah n').Perm (z :: z :: ah n)->(n'.map (·.1)=n.map (·.1)\/n'.map (·.1)=n.map (·.1)++[pt])->Full n'->(cG n->cG n')->Q (.int i) H'
section
variable{P:Program}{w:World}{K:PySem.W.Frag}{mg:Str->Option Value}{base:Heap}
abbrev NP:List Str:=["_law_rows","_law_big_here","_law_tie","_law_point","_law_corners","_law_r","_law_place","_law_one","_law_kind","_law_face_here","_law_other_here","_law_spot"]
theorem kJ:au NP ["_law_rows","_law_big_here","_law_tie","_law_point"] (aV l9):=⟨rfl,rfl,rfl,by decide +kernel,rfl,by decide +kernel,by decide +kernel⟩
theorem G'{ts:List Addr}{j:Nat}{t:Addr}(h:ts[j]?=some t):di (ts.map V.ref) (j:Int)=some (.ref t):=gF<|by rw [Ad,h];rfl
theorem QI{f:Addr}{fd:FuncData}(F:bz K "_law_put" "_law_put" l9 f fd)(T:Txt mg)
  (GS:aG P w K mg base 3 "_law_seats" ["_law_rows"] ya)
  (GF:aG P w K mg base 3 "_law_face" ["_law_rows","_law_seats_here","_law_end"] yd) :
  aC P w K mg base bp 4 f fd ["_law_rows","_law_big_here","_law_tie","_law_point"] yq:=by
 refine F.gb kJ (λvs H Q E h=>?_) λb0 H vs Q E hr h=>?_
 ·obtain⟨R,as,n,b,z,pt,rfl,_⟩:=h;rfl
 obtain⟨R,as,n,b,z,pt,rfl,hR,hT,hF,hz,hn,VX,q⟩:=h;have nd:=kJ.nd;have hu:=hr.d5;have cC:=hR.len;show Run _ _ _ [some<|.ref R,some<|.int b,some<|.str z,some<|.str pt,none,none,none,none,none,none,none,none] H;refine run_set 4 nd<|dH<|aw ⟨Z0,λlc Ha=>?_⟩;have g0:=aQ Ha<|.lst [];refine hZ T.range (b9 cZ T.len CW<|ao<|af 0<|aw ⟨R,_,rfl,.inl<|ak.of<|g0 _ _ hR.lst,_,rfl,by omega,by rw [Aa];omega,?_⟩);rw [Aa,cC,Bh];refine ic (λr σ H3=>∃(ts:List Addr) (cs:List Nt.End) (u1 u2:Option V),ag H H3/\H3 lc=some (.lst<|ts.map V.ref)/\Pd H3 ts cs/\(∀ c∈cs,ii n c)/\(0 < r->cs≠[])/\cs.length<=101 * r/\σ=[some<|.ref R,some<|.int b,some<|.str z,some<|.str pt,some<|.ref lc,u1,u2,none,none,none,none,none]) ⟨[],[],_,_,g0,ae,.nil,λc hc=>(nomatch hc),λh=>absurd h (by decide),Ah _,rfl⟩ ?_ ?_
 ·rintro r σ H3 hi ⟨ts,cs,u1,u2,sH,el,ep,hc,aY,hlen,rfl⟩;rw [Cv];refine aW 5 nd ?_;obtain⟨a,ea,eC,et,QL,er⟩:=(hR.same sH).at hi;have QM:=kC n r;refine hZ T.range<|b9 (C8 rfl) T.max PB<|ao<|ay<|ao<|b9 cZ T.len CW<|ao<|aS cW<|aS bx<|af 0<|af 5 ⟨R,_,_,.ref a.1,rfl,rfl,ak.of<|sH _ _ hR.lst,eC,ay ⟨a.1,_,_,.ref a.2,rfl,rfl,aK.of et,rfl,aw ⟨a.2,_,rfl,.inl<|ak.of QL,?_⟩⟩⟩;rw [Aa];have em:(if((row n r).length:Int) > 1 then((row n r).length:Int) else 1)=((max 1 (row n r).length:Nat):Int):=by
   split <;> omega
  refine aw ⟨1,_,rfl,((max 1 (row n r).length:Nat):Int),by rw [em],by omega,by omega,?_⟩;rw [Bh];refine ic (λp σ H4=>∃(ts:List Addr) (cs:List Nt.End) (u2:Option V),ag H H4/\H4 lc=some (.lst<|ts.map V.ref)/\Pd H4 ts cs/\(∀ c∈cs,ii n c)/\(0 < r+p->cs≠[])/\cs.length<=101 * r+p/\σ=[some<|.ref R,some<|.int b,some<|.str z,some<|.str pt,some<|.ref lc,some<|.int (r:Int),u2,none,none,none,none,none]) ⟨ts,cs,_,sH,el,ep,hc,aY,hlen,rfl⟩ ?_ ?_
  ·rintro p σ H4 hp ⟨ts,cs,u2,sH,el,ep,hc,aY,hlen,rfl⟩;rw [Cv];refine aW 6 nd ?_;refine fD<|jM<|af 4 ⟨lc,rfl,⟨_,el⟩,dZ<|ao<|af 5<|ao<|af 6<|aw ⟨Z2,λt ht=>?_⟩⟩;have l4:lc≠t:=bC el ht;have s2:=aQ ht<|Tp (r,p);have og:=ep.length;refine⟨ts.map V.ref,by rw [av l4];exact el,by rw [Aa];exact bQ (by omega),?_⟩;refine aP ⟨ts++[t],cs++[(r,p)],_,cL (sH.trans s2) Ha,by rw [ae,Ag];rfl,?_,λc h=>?_,λ_=>by simp,by rw [Ae];simp;omega,rfl⟩
   ·refine Pd.append (ep.keep λx e h=>?_)<|.cons ?_ .nil
    ·rw [av<|p8 h el];exact s2 _ _ h
    ·rw [av l4.symm,ae]
   ·rcases Al.mp h with h | h
    ·exact hc c h
    ·rw [Af] at h;subst h;exact⟨hi,hp⟩
  ·rintro σ H4 ⟨ts,cs,u2,sH,el,ep,hc,aY,hlen,rfl⟩;refine aP ⟨ts,cs,_,_,sH,el,ep,hc,λ_=>aY (by omega),by omega,rfl⟩
 rintro σ H3 ⟨ts,cs,u1,u2,sH,el,ep,hc,aY,hlen,rfl⟩;have xj:0 < n.length:=Cg.mpr hF.some;have jy:=aY xj;have dj:0 < cs.length:=Cg.mpr jy;have og:=ep.length;have m0:0<=b % (cs.length:Int):=Bv _ (by omega);have m1:b % (cs.length:Int) < cs.length:=Cf _ (by omega);obtain⟨j,hj⟩:∃ j:Nat,b % (cs.length:Int)=j:=⟨(b % (cs.length:Int)).toNat,by omega⟩;have oh:j < cs.length:=by omega
 have QN:cs[j]?=some cs[j]:=Ab oh;obtain⟨t1,QO,e1⟩:=ep.at QN;have fQ:ii n cs[j]:=hc _<|By oh;generalize cs[j]=c1 at e1 fQ;refine run_set 7 nd<|aS bx<|af 4<|aN db<|af 1<|b9 cZ T.len CW<|ao<|af 4<|aw ⟨lc,_,rfl,.inl<|ak.of el,?_⟩;rw [Aa,og];refine⟨_,_,rfl,rfl,by omega,lc,_,_,.ref t1,rfl,rfl,ak.of el,by rw [hj];exact G' QO,?_⟩;refine run_set 1 nd<|aN fT<|af 1<|b9 cZ T.len CW<|ao<|af 4<|aw ⟨lc,_,rfl,.inl<|ak.of el,?_⟩;rw [Aa,og];refine⟨_,_,rfl,rfl,⟨by omega,by omega⟩,?_⟩;show Run _ _ _ [some<|.ref R,some<|.int<|b / (cs.length:Int),some<|.str z,some<|.str pt,some<|.ref lc,u1,u2,some<|.ref t1,none,none,none,none] H3;generalize b / (cs.length:Int)=b2;refine run_set 8 nd (aN db<|af 1<|ay ⟨_,_,rfl,rfl,(by show(0:Int) < 3;decide),?_⟩);refine run_set 1 nd (aN fT<|af 1<|ay ⟨_,_,rfl,rfl,⟨by decide,by decide⟩,?_⟩);show Run _ _ _ [some<|.ref R,some<|.int<|b2 / 3,some<|.str z,some<|.str pt,some<|.ref lc,u1,u2,some<|.ref t1,some<|.int<|b2 % 3,none,none,none] H3;generalize b2 / 3=b3;have oi:=hR.same sH;obtain⟨a,ea,eC,eta,Hb,era⟩:=oi.at fQ.1;have Hc:∀(m:Net),(ah m).length<=200->∀ i,(row m i).length<=200:=λm h i=>Bz (kC m i) h;have cin:c1.2<=(row n c1.1).length:=by
  have:=fQ.2;omega
 refine d0<|dC fv<|af 8<|ay ⟨rfl,_,rfl,?_⟩;refine iE (λ_=>?_) λ_=>aP ?_
 ·
  have rl:=kC n c1.1;refine fD<|tW CQ KJ KN FH<|aS cW<|aS bx<|af 0<|aS cW<|af 7<|ay ⟨t1,_,_,.int (c1.1:Int),rfl,rfl,aK.of e1,rfl,R,_,_,.ref a.1,rfl,rfl,ak.of oi.lst,eC,ay ⟨a.1,_,_,.ref a.2,rfl,rfl,aK.of eta,rfl,Or.inl ⟨rfl,_,ak.of Hb⟩,?_⟩⟩;refine aS cW (af 7<|ay ⟨t1,_,_,.int (c1.2:Int),rfl,rfl,aK.of e1,rfl,af 2 ⟨a.2,_,_,_,rfl,rfl,Hb,by omega,by rw [Bh,Aa];exact cin,by rw [Aa];exact bQ (by omega),?_⟩⟩);rw [Bh,F'];have R4:=oi.ins (z:=z) ea fQ.1;refine fD<|jM<|af 0 ⟨R,rfl,⟨_,R4.lst⟩,dZ<|ao<|af 3<|ao<|dH<|ao<|af 2<|aw ⟨Z1,λl1 jm=>?_⟩⟩;refine aw ⟨Z2,λt2 eF=>?_⟩;have s5:=aQ jm<|Ls [z];have s6:=aQ eF<|.tup [.str pt,.ref l1];have R6:=(R4.same s5).same s6;refine⟨_,R6.lst,by rw [Aa];exact bQ (by omega),?_⟩;have QP:H3 l1=none:=by
   by_cases q1:l1=a.2
   ·rw [q1,ae] at jm;cases jm
   ·rwa [av q1] at jm
  have QQ:l1∉as.map (·.2):=λhm=>by
   obtain⟨x,hx,e⟩:=At.mp hm;exact R4.fresh jm hx e.symm
  have QR:l1≠R:=λe=>by rw [e,R4.lst] at jm;cases jm
  have R7:=R6.more (t:=t2) (l:=l1) (pt:=pt) (zs:=[z]) ae (s6 _ _ ae) QQ QR;refine cq<|af 1<|q _ _ _ _ R7 (λx o hx iK=>?_) (λx hx=>?_) ?_ (.inr ?_) ?_ λhh=>QH (yn hh)<|QE fQ.1
  ·have x1:x≠R:=λe=>iK (by rw [e];exact Ak);have x2:x≠a.2:=λe=>iK (Aq _<|by rw [e];exact At.mpr ⟨a,Au ea,rfl⟩);rw [av x1];refine s6 _ _<|s5 _ _ ?_;rw [av x2];exact sH _ _ hx
  ·rcases Al.mp hx with hx | hx
   ·exact .inl hx
   ·rw [Af] at hx;subst hx;exact .inr<|sH.free QP
  ·unfold ah;rw [Eu];show(ah (ins n c1 z)++[z]).Perm _;refine(Dz).trans ?_;exact(qc n c1 z fQ.1).cons z
  ·rw [Ag,yf];rfl
  ·refine .inr ⟨by simp,λi hi=>?_⟩;have QS:=(yg (z:=z) hF fQ.1 hF.either).1;rw [Ae] at hi;simp at hi
   rcases Ft i (ins n c1 z).length with h | h
   ·have:=QS i h;unfold row at this ⊢;rw [Bb h];exact this
   ·unfold row;rw [Az h,show i - (ins n c1 z).length=0 by omega];simp
 ·
  refine run_set 9 nd<|dH<|ao<|af 7<|aw ⟨Z1,λlf He=>?_⟩;have s4:=aQ He<|.lst [.ref t1];have uw:=sH.trans s4;have mC:=oi.same s4;obtain⟨a0,VY,yr,QT,qk,VZ⟩:=mC.at xj;have QU:∀ x∈as,lf≠x.2:=λx hx=>oi.fresh He hx;show Run _ _ _ [some<|.ref R,some<|.int b3,some<|.str z,some<|.str pt,some<|.ref lc,u1,u2,some<|.ref t1,some<|.int<|b2 % 3,some<|.ref lf,none,none] (upd H3 lf<|.lst [.ref t1]);refine O7 (λk H'=>ag (upd H3 lf<|.lst [.ref t1]) H'/\(k=true->row n 0≠[])) (λσ' H'=>∃(lf:Addr) (ig:List Addr) (fs:List Nt.End),ag H3 H'/\(∀ x∈as,lf≠x.2)/\H' lf=some (.lst<|ig.map V.ref)/\Pd H' ig fs/\0 < fs.length/\fs.length<=1000/\(∀ c∈fs,ii n c) /\
   σ'=[some<|.ref R,some<|.int b3,some<|.str z,some<|.str pt,some<|.ref lc,u1,u2,some<|.ref t1,some<|.int<|b2 % 3,some<|.ref lf,none,none]) ?_ ?_ (λH5 ⟨s5,_⟩=>aP ⟨lf,[t1],[c1],s4.trans s5,QU,s5 _ _ ae,.cons (s5 _ _<|s4 _ _ e1) .nil,Nat.one_pos,by show 1<=1000;decide,λc uz=>by rw [Af] at uz;rw [uz];exact fQ,rfl⟩) ?_
  ·refine dC (p7 hu)<|aS cW<|aS bx<|af 0<|ay ⟨R,_,_,.ref a0.1,rfl,rfl,ak.of mC.lst,yr,ay ⟨a0.1,_,_,.ref a0.2,rfl,rfl,aK.of QT,rfl,dH<|aw ⟨Z0,λp hp=>?_⟩⟩⟩;have s5:=aQ hp<|.lst []
   by_cases h0:row n 0=[]
   ·refine⟨1,_,by decide,tV (k:=0) (xs:=[]) (ys:=[]) (λ_=>true) (ak.of<|by rw [s5 _ _ qk,h0];rfl) (ak.of ae) rfl (λj x y hx _=>by simp at hx),_,rfl,s5,λh=>by cases h⟩
   ·refine⟨1,_,by decide,FE (k:=1) (ak.of<|s5 _ _ qk) (ak.of (xs:=[]) ae) (by rw [Aa];intro h;exact h0<|Bt.mp h),_,rfl,s5,λ_=>h0⟩
  ·rintro H4 ⟨yt,h0⟩;have h0:=h0 rfl;have mC:=mC.same yt;have Hf:=hF.mw h0 fQ;have V0:=Ql n;refine run_set 9 nd (bV GF hr<|ao<|af 0<|ao<|bV GS hr<|ao<|af 0<|aw ⟨R,as,n,rfl,mC,by omega,by omega,λd ks H5 s5 n5 S5=>?_⟩);refine ao (af 7<|aw ⟨R,d,t1,as,n,ks,c1,rfl,mC.same s5,S5,hT,s5 _ _<|yt _ _<|s4 _ _ e1,Hf,by omega,λl6 QV QW H6 s6 n6 e6 p6 f6=>?_⟩);exact aP ⟨l6,QV,QW,s4.trans<|yt.trans<|s5.trans s6,λx hx=>(mC.same s5).fresh n6 hx,e6,p6,f6.pos,by have:=f6.len;omega,λc uz=>Qj<|f6.ends hT Hf c uz,rfl⟩
  ·rintro σ' H5 ⟨lf,ig,fs,s5,QX,yu,Hg,QY,QZ,yv,rfl⟩;have ql:=Hg.length;have n0:0<=b3 % (fs.length:Int):=Bv _ (by omega);have n1:b3 % (fs.length:Int) < fs.length:=Cf _ (by omega);obtain⟨j2,dL⟩:∃ j:Nat,b3 % (fs.length:Int)=j:=⟨(b3 % (fs.length:Int)).toNat,by omega⟩;have qm:j2 < fs.length:=by omega
   have yw:fs[j2]?=some fs[j2]:=Ab qm;obtain⟨t2,Q0,e2⟩:=Hg.at yw;have mD:ii n fs[j2]:=yv _<|By qm;generalize fs[j2]=c2 at e2 mD;have jK:=s5 _ _ e1;refine run_set 10 nd<|aS bx<|af 9<|aN db<|af 1<|b9 cZ T.len CW<|ao<|af 9<|aw ⟨lf,_,rfl,.inl<|ak.of yu,?_⟩;rw [Aa,ql];refine⟨_,_,rfl,rfl,by omega,lf,_,_,.ref t2,rfl,rfl,ak.of yu,by rw [dL];exact G' Q0,?_⟩;have Hh:=oi.same s5;show Run _ _ _ [some<|.ref R,some<|.int b3,some<|.str z,some<|.str pt,some<|.ref lc,u1,u2,some<|.ref t1,some<|.int<|b2 % 3,some<|.ref lf,some<|.ref t2,none] H5;refine jd<|Pt T.sorted<|dH<|ao<|af 7<|ao<|af 10<|aw ⟨Z2,λl2 jF=>?_⟩;have s6:=aQ jF<|.lst [.ref t1,.ref t2];refine⟨l2,t1,t2,(c1.1:Int),(c1.2:Int),(c2.1:Int),(c2.2:Int),rfl,ae,s6 _ _ jK,s6 _ _ e2,λrr Hi=>?_⟩;have rn:∀ x∈as,rr≠x.2:=λx hx=>(Hh.same s6).fresh Hi hx;obtain⟨x1,x2,k1,k2,gs,f1,f2,q1,q2⟩:∃ x1 x2 k1 k2,(if lexLt ((c1.1:Int),(c1.2:Int)) ((c2.1:Int),(c2.2:Int))=true then [V.ref t2,.ref t1] else [.ref t1,.ref t2])=[.ref x1,.ref x2]/\(upd H5 l2<|.lst [.ref t1,.ref t2]) x1=some (Tp k1)/\(upd H5 l2<|.lst [.ref t1,.ref t2]) x2=some (Tp k2)/\ii n k1/\ii n k2:=by
    cases lexLt ((c1.1:Int),(c1.2:Int)) ((c2.1:Int),(c2.2:Int)) with
    | true=>exact⟨t2,t1,c2,c1,rfl,s6 _ _ e2,s6 _ _ jK,mD,fQ⟩
    | false=>exact⟨t1,t2,c1,c2,rfl,s6 _ _ jK,s6 _ _ e2,fQ,mD⟩
   rw [gs];have s7:=aQ Hi<|.lst [.ref x1,.ref x2];have f1:=s7 _ _ f1;have f2:=s7 _ _ f2;have s6:=s6.trans s7;have fr:=ae (H:=upd H5 l2<|.lst [.ref t1,.ref t2]) (a:=rr) (o:= .lst [.ref x1,.ref x2]);generalize upd (upd H5 l2<|.lst [.ref t1,.ref t2]) rr (.lst [.ref x1,.ref x2])=H6 at f1 f2 s6 fr ⊢;have fk:ag H H6:=sH.trans<|s5.trans s6;have yx:=Hh.same s6;have qo:my H H6 (R :: as.map (·.2)):=λx o hx _=>fk _ _ hx;refine⟨rr,rfl,⟨_,ak.of fr⟩,je (xs:=[.ref x1,.ref x2]) (λi σ H7=>∃(m:Net) (u:Option V),aj H7 R as m/\my H H7 (R :: as.map (·.2))/\H7 rr=some (.lst [.ref x1,.ref x2])/\H7 lf=some (.lst<|ig.map V.ref)/\H7 x1=some (Tp k1)/\H7 x2=some (Tp k2) /\
    ((i=0/\m=n)\/(i=1/\m=ins n k1 z)\/(i=2/\m=ins (ins n k1 z) k2 z))/\σ=[some<|.ref R,some<|.int b3,some<|.str z,some<|.str pt,some<|.ref lc,u1,u2,some<|.ref t1,some<|.int<|b2 % 3,some<|.ref lf,some<|.ref t2,u]) ⟨n,_,yx,qo,fr,s6 _ _ yu,f1,f2,.inl ⟨rfl,rfl⟩,rfl⟩ ?_ ?_ ?_⟩
   ·rintro i σ H7 _ ⟨m,u,_,_,uA,_⟩;exact ak.of uA
   ·rintro i v σ H7 hv ⟨m,u,qp,yy,uA,yz,g1,g2,hm,rfl⟩;have Q1:=(qc n k1 z q1.1).length_eq;rw [Ar] at Q1;obtain⟨y,k,rfl,hy,hk,dq,V1⟩:∃ y k,v = .ref y/\H7 y=some (Tp k)/\ii m k/\((i+1=0/\ins m k z=n)\/(i+1=1/\ins m k z=ins n k1 z)\/(i+1=2/\ins m k z=ins (ins n k1 z) k2 z))/\(ah m).length<=200:=by
     rcases hm with ⟨rfl,rfl⟩ | ⟨rfl,rfl⟩ | ⟨rfl,rfl⟩
     ·cases hv;exact⟨x1,k1,rfl,g1,q1,.inr<|.inl ⟨rfl,rfl⟩,by omega⟩
     ·cases hv;exact⟨x2,k2,rfl,g2,yh q2 q1.1,.inr<|.inr ⟨rfl,rfl⟩,by omega⟩
     ·simp at hv
    refine aW 11 nd ?_;obtain⟨a',Hj,yA,yB,jT,Q2⟩:=qp.at hk.1;have rl:=kC m k.1;have oX:k.2<=(row m k.1).length:=by
     have:=hk.2;omega
    refine fD<|tW CQ KJ KN FH<|aS cW<|aS bx<|af 0<|aS cW<|af 11<|ay ⟨y,_,_,.int (k.1:Int),rfl,rfl,aK.of hy,rfl,R,_,_,.ref a'.1,rfl,rfl,ak.of qp.lst,yA,ay ⟨a'.1,_,_,.ref a'.2,rfl,rfl,aK.of yB,rfl,Or.inl ⟨rfl,_,ak.of jT⟩,?_⟩⟩;refine aS cW (af 11<|ay ⟨y,_,_,.int (k.2:Int),rfl,rfl,aK.of hy,rfl,af 2 ⟨a'.2,_,_,_,rfl,rfl,jT,by omega,by rw [Bh,Aa];exact oX,by rw [Aa];exact bQ (by omega),?_⟩⟩);rw [Bh,F'];have am:a'∈as:=Au Hj;refine aP ⟨ins m k z,_,qp.ins Hj hk.1,λx o hx iK=>?_,by rw [av<|rn a' am];exact uA,by rw [av<|QX a' am];exact yz,by rw [av<|p8 g1 jT];exact g1,by rw [av<|p8 g2 jT];exact g2,dq,rfl⟩;have x2:x≠a'.2:=λe=>iK (Aq _<|by rw [e];exact At.mpr ⟨a',am,rfl⟩);rw [av x2];exact yy x o hx iK
   ·rintro σ H7 ⟨m,u,qp,yy,uA,yz,g1,g2,hm,rfl⟩;have em:m=ins (ins n k1 z) k2 z:=by
     rcases hm with ⟨h,_⟩ | ⟨h,_⟩ | ⟨_,h⟩
     ·exact absurd h<|by show ¬(2=0);decide
     ·exact absurd h<|by show ¬(2=1);decide
     ·exact h
    refine cq<|aN fT<|af 1<|b9 cZ T.len CW<|ao<|af 9<|aw ⟨lf,_,rfl,.inl<|ak.of yz,?_⟩;rw [Aa,ql];refine⟨_,_,rfl,rfl,⟨by omega,by omega⟩,?_⟩;have fi:=yg (z:=z) hF q1.1 hF.either;have F2:Full (ins n k1 z):= .inr ⟨fi.2,fi.1⟩;have Hk:=yg (z:=z) F2 (yh (z:=z) q2 q1.1).1 F2.either;subst em;exact q _ as _ H7 qp yy (λx hx=> .inl hx) ((qc _ k2 z (yh (z:=z) q2 q1.1).1).trans<|(qc n k1 z q1.1).cons z) (.inl<|by rw [yf,yf]) (.inr ⟨Hk.2,Hk.1⟩) λhh=>yn<|yn hh
def uB:Sp:=λvs H Q _=>∃(b m sm:Int),vs=[.int b,.int m,.int sm]/\0<=m/\m<=35 /\
 ∀ L as n H',ag H H'->H L=none->aj H' L as n->cv n->(n.map (·.1)).Nodup->Full n->cG n->(ah n).length<=2 * m.toNat->n.length<=m.toNat+1->(∀ a∈as,H a.2=none)->Q (.ref L) H'
abbrev NB:List Str:=["_law_big_here","_law_most","_law_stem","_law_many","_law_ties_here","_law_points","_law_rows","_law_k","_law_told","_law_row","_law_size"]
theorem kK:au NB ["_law_big_here","_law_most","_law_stem"] (aV me):=⟨rfl,rfl,rfl,by decide +kernel,rfl,by decide +kernel,by decide +kernel⟩
theorem Q3{H:Hp}{d:Addr}{xs:List V}(h:H d=some (.lst xs)):ko K "list" (.ref d) H:=Or.inl ⟨rfl,xs,ak.of h⟩
theorem yC{b:Int}{m i:Nat}(h:i < m):di ((namesOf b m).map V.str) (i:Int)=some (.str<|aF b i):=xK<|P5 h
theorem Q4{f:Addr}{fd:FuncData}(F:bz K "_law_net_by" "_law_net_by" me f fd)(T:Txt mg)
  (GN:aG P w K mg base 4 "_law_names" ["_law_stem","_law_many"] x9)
  (GP:aG P w K mg base 4 "_law_put" ["_law_rows","_law_big_here","_law_tie","_law_point"] yq) :
  aC P w K mg base bp 5 f fd ["_law_big_here","_law_most","_law_stem"] uB:=by
 refine F.gb kK (λvs H Q E h=>?_) λb0 H vs Q E hr h=>?_
 ·obtain⟨b,m,sm,rfl,_⟩:=h;rfl
 obtain⟨b,m,sm,rfl,m0,V2,q⟩:=h;have nd:=kK.nd;have hu:=hr.d5;have k0:0<=b % (m+1):=Bv _ (by omega);have k1:b % (m+1) < m+1:=Cf _ (by omega);obtain⟨mn,Q5⟩:∃ k:Nat,b % (m+1)=k:=⟨(b % (m+1)).toNat,by omega⟩;have V3:mn<=m.toNat:=by omega
 show Run _ _ _ [some<|.int b,some<|.int m,some<|.int sm,none,none,none,none,none,none,none,none] H;refine run_set 3 nd<|aN db<|af 0<|aN fu<|af 1<|ay ⟨_,_,rfl,rfl,?_⟩;refine⟨_,_,rfl,rfl,(by show 0 < m+1;omega),?_⟩;refine run_set 0 nd<|aN fT<|af 0<|aN fu<|af 1<|ay ⟨_,_,rfl,rfl,?_⟩;refine⟨_,_,rfl,rfl,(by show pz b (m+1);exact⟨by omega,by omega⟩),?_⟩;show Run _ _ _ [some<|.int<|b / (m+1),some<|.int m,some<|.int sm,some<|.int<|b % (m+1),none,none,none,none,none,none,none] H;rw [Q5];generalize b / (m+1)=b1;refine run_set 4 nd (bV GN hr<|ao<|af 2<|ao<|af 3<|aw ⟨sm,(mn:Int),rfl,by omega,by omega,λlt H1 s1 n1 e1=>?_⟩);rw [Bh] at e1;refine run_set 5 nd (bV GN hr<|ao<|aS bx<|dH<|ao<|aN fu<|aN fT<|af 2<|ay ⟨_,_,rfl,rfl,⟨by decide,by decide⟩,ay ⟨_,_,rfl,rfl,ao<|af 2<|aw ⟨Z2,λp hp=>?_⟩⟩⟩);refine pW xF T.mq HX (ao<|nP fv<|aN db<|af 2<|ay ⟨_,_,rfl,rfl,(by show(0:Int) < 4;decide),ay ⟨rfl,aw ⟨_,rfl,?_⟩⟩⟩);have s2:=aQ hp<|.lst [.int<|sm / 3+1,.int sm];obtain⟨im,ex⟩:∃ im:Int,di [V.int<|sm / 3+1,.int sm] (if decide (V.int (sm % 4)=V.int 1)=true then 1 else 0)=some (.int im):=by
  cases decide (V.int (sm % 4)=V.int 1) with
  | true=>exact⟨sm,rfl⟩
  | false=>exact⟨sm / 3+1,rfl⟩
 refine⟨p,_,_,.int im,rfl,rfl,ak.of ae,ex,?_⟩;refine ao (aN fu<|af 3<|ay ⟨_,_,rfl,rfl,aw ⟨im,(mn:Int)+1,rfl,by omega,by omega,λlp H2 s3 n3 e3=>?_⟩⟩);have em:((mn:Int)+1).toNat=mn+1:=by omega
 rw [em] at e3;have yD:ag H H2:=s1.trans<|s2.trans s3;have e1:H2 lt=some (Ls<|namesOf sm mn):=s3 _ _<|s2 _ _ e1;show Run _ _ _ [some<|.int b1,some<|.int m,some<|.int sm,some<|.int (mn:Int),some<|.ref lt,some<|.ref lp,none,none,none,none,none] H2;refine run_set 6 nd<|dH<|ao<|dZ<|ao<|aS bx<|af 5<|ay ⟨lp,_,_,.str<|aF im 0,rfl,rfl,ak.of e3,yC<|QF _,ao<|dH<|aw ⟨Z0,λl1 jm=>?_⟩⟩;refine aw ⟨Z2,λt1 qt=>aw ⟨Z1,λR Hl=>?_⟩⟩;have s4:=aQ jm<|Ls [];have s5:=aQ qt<|.tup [.str<|aF im 0,.ref l1];have s6:=aQ Hl<|.lst [.ref t1];have Q6:aj (upd (upd (upd H2 l1<|.lst []) t1<|.tup [.str<|aF im 0,.ref l1]) R<|.lst [.ref t1]) R [(t1,l1)] [(aF im 0,[])]:=by
  refine⟨rfl,ae,λi a r h1 h2=>?_,by simp⟩;cases i with
  | zero=>
   cases h1;cases h2;exact⟨s6 _ _ ae,s6 _ _<|s5 _ _ ae⟩
  | succ i=>simp at h1
 have fR:H2 R=none:=s4.free<|s5.free Hl;show Run _ _ _ [some<|.int b1,some<|.int m,some<|.int sm,some<|.int (mn:Int),some<|.ref lt,some<|.ref lp,some<|.ref R,none,none,none,none] (upd (upd (upd H2 l1<|.lst []) t1<|.tup [.str<|aF im 0,.ref l1]) R<|.lst [.ref t1]);refine hZ T.range (af 3 ⟨(mn:Int),rfl,by omega,by omega,?_⟩);rw [Bh];refine ic (λk σ H3=>∃(as:List<|Addr×Addr) (n:Net) (b:Int) (u:Option V),aj H3 R as n/\ag H2 H3/\(∀ a∈as,H2 a.2=none)/\Full n/\cG n/\(ah n).Perm (dbl<|namesOf sm k)/\n.map (·.1)=namesOf im n.length/\n.length<=k+1 /\
  σ=[some<|.int b,some<|.int m,some<|.int sm,some<|.int (mn:Int),some<|.ref lt,some<|.ref lp,some<|.ref R,u,none,none,none]) ⟨_,_,b1,_,Q6,s4.trans<|s5.trans s6,λa ha=>by rw [Af] at ha;rw [ha];exact jm,.inl ⟨_,rfl⟩,QA _,List.Perm.refl _,rfl,Ah _,rfl⟩ ?_ ?_
 ·rintro k σ H3 hk ⟨as,n,b,u,hR,sH,nU,hF,yE,hp,uC,hlen,rfl⟩;rw [Cv];refine aW 7 nd ?_;have cC:=hR.len;have tl:=hp.length_eq;rw [yj,xO] at tl;have nz:aF sm k∉ah n:=λh=>by
   have h1:=gn.mp<|hp.mem_iff.mp h;have h2:=uf (b:=sm) (m:=k+1) (by omega);rw [ug,Cz] at h2;exact h2.2.2 _ h1 _ (Af.mpr rfl) rfl
  have n0:0 < n.length:=Cg.mpr hF.some;refine run_set 0 nd<|bV GP hr<|ao<|af 6<|ao<|af 0<|ao<|aS bx<|af 4<|af 7 ⟨lt,_,_,.str<|aF sm k,rfl,rfl,ak.of<|sH _ _ e1,yC hk,?_⟩;refine ao<|aS bx<|af 5<|b9 cZ T.len CW<|ao<|af 6<|aw ⟨R,_,rfl,.inl<|ak.of hR.lst,?_⟩;rw [Aa,cC];refine⟨lp,_,_,.str<|aF im n.length,rfl,rfl,ak.of<|sH _ _ e3,yC (by omega),?_⟩;refine aw ⟨R,as,n,b,aF sm k,aF im n.length,rfl,hR,Gw (uf<|by omega) hp,hF,nz,by omega,by omega,λi jj n' H' Q7 kp yF jU qu qv yG=>?_⟩;have Q8:ag H2 H':=λx o hx=>by
   refine kp x o (sH _ _ hx) λhm=>?_
   rcases Ax.mp hm with h | h
   ·rw [h,fR] at hx;cases hx
   ·obtain⟨y,hy,e⟩:=At.mp h;rw [<- e,nU y hy] at hx;cases hx
  refine aP ⟨jj,n',i,_,Q7,Q8,λy hy=>?_,qv,yG yE,?_,?_,?_,rfl⟩
  ·rcases yF y hy with h | h
   ·exact nU y h
   ·exact sH.free h
  ·refine jU.trans ?_;rw [ug,Qm];refine List.Perm.trans ?_ Dz;exact((hp.cons _).cons _)
  ·rcases qu with h | h
   ·have hl:=BZ List.length h;rw [Aa,Aa] at hl;rw [h,hl];exact uC
   ·have hl:=BZ List.length h;rw [Aa,Ae,Aa] at hl;have Hm:n'.length=n.length+1:=hl;rw [h,Hm,ug,uC]
  ·rcases qu with h | h
   ·have hl:=BZ List.length h;rw [Aa,Aa] at hl;omega
   ·have hl:=BZ List.length h;rw [Aa,Ae,Aa] at hl;have Hm:n'.length=n.length+1:=hl;omega
 rintro σ H3 ⟨Q9,n0,b,u,hR,sH,nU,hF,yE,hp,uC,hlen,rfl⟩;have tl:=hp.length_eq;rw [yj,xO] at tl;have Ra:cv n0:=Gw (uf<|by omega) hp;have Hn:(n0.map (·.1)).Nodup:=by rw [uC];exact uf<|by omega
 refine run_set 8 nd<|dH<|aw ⟨Z0,λL hL=>?_⟩;have s7:=aQ hL<|.lst [];have Ho:R≠L:=bC hR.lst hL;have fL:H2 L=none:=sH.free hL;have Rb:aj (upd H3 L<|.lst []) L [] []:=⟨rfl,ae,λi a r h1=>by simp at h1,by simp⟩;refine tX (λk σ H4=>∃(as kL:List<|Addr×Addr) (n n2:Net) (b:Int) (u9 Hq:Option V),k=n.length/\aj H4 R as n/\aj H4 L kL n2/\ag H2 H4/\(∀ a∈as,a.2≠L)/\(∀ a∈kL,a.2≠R)/\(∀ a∈kL,H2 a.2=none)/\n.length+n2.length=n0.length /\
   (ah n++ah n2).Perm (ah n0)/\(n.map (·.1)++n2.map (·.1)).Perm (n0.map (·.1))/\(NE n0->NE n/\NE n2)/\(∀ r∈n0,∃ x∈n++n2,x.1=r.1/\∀ t∈r.2,t∈x.2)/\(∀ x∈n++n2,∃ r∈n0,r.1=x.1) /\
   σ=[some<|.int b,some<|.int m,some<|.int sm,some<|.int (mn:Int),some<|.ref lt,some<|.ref lp,some<|.ref R,u,some<|.ref L,u9,Hq])
  (m0:=n0.length) ⟨Q9,[],n0,[],b,_,_,rfl,hR.same s7,Rb,sH.trans s7,λa ha=>(hR.fresh hL ha).symm,λa ha=>(nomatch ha),λa ha=>(nomatch ha),rfl,by simp [ah],by simp,λh=>⟨h,λr hr=>(nomatch hr)⟩,λr hr=>⟨r,by rw [Bc];exact hr,rfl,λt ht=>ht⟩,λx hx=>⟨x,by rw [Bc] at hx;exact hx,rfl⟩,rfl⟩ ?_
 rintro k σ H4 ⟨as,kL,n,n2,b,u9,Hq,rfl,hR,oj,sH,aL,aR,Hr,qw,pt,pn,aY,Hs,uD,rfl⟩;have cC:=hR.len;have yH:=oj.len;have Rf:(ah n).length<=70:=by
  have:=pt.length_eq;rw [Ae] at this;omega
 refine dC (p7 hu)<|af 6<|dH<|aw ⟨Z0,λp fC=>?_⟩;have s8:=aQ fC<|.lst []
 by_cases h0:n=[]
 ·subst h0;have ea:as=[]:=Bt.mp (by simpa using cC);subst ea;refine⟨1,_,by decide,tV (k:=0) (xs:=[]) (ys:=[]) (λ_=>true) (ak.of<|s8 _ _ hR.lst) (ak.of ae) rfl (λj x y hx _=>by simp at hx),_,rfl,bN<|cq<|af 8 ?_⟩;have uE:(ah n2).Perm (ah n0):=pt;have Rg:(n2.map (·.1)).Perm (n0.map (·.1)):=pn;have l2:n2.length=n0.length:=by simpa using qw
  refine q L kL n2 _ (yD.trans<|sH.trans s8) (yD.free fL) (oj.same s8) (λz hz=>?_) (Rg.nodup_iff.mpr Hn) ?_ (G0 Hs uD yE) (by rw [uE.length_eq];omega) (by omega) λa ha=>yD.free<|Hr a ha
  ·rw [uE.count_eq];exact Ra z<|uE.mem_iff.mp hz
  ·rcases hF.ne with ⟨nm,h⟩ | h
   ·subst h;have t0:ah n2=[]:=List.Perm.eq_nil uE
    match n2,l2,t0 with
    | [(V4,zs)],_,t0=>
     have:zs=[]:=by simpa [ah] using t0
     subst this;exact .inl ⟨_,rfl⟩
   ·refine Qn (aY h).2 λe=>?_;rw [e] at l2;exact hF.some<|Bt.mp l2.symm
 ·have np:0 < n.length:=Cg.mpr h0;refine⟨1,_,by decide,FE (k:=1) (ak.of<|s8 _ _ hR.lst) (ak.of (xs:=[]) ae) (by rw [Aa,cC];exact Dx np),_,rfl,bf ?_⟩;have hR:=hR.same s8;have oj:=oj.same s8;have sH:=sH.trans s8;generalize upd H4 p (.lst [])=H5 at hR oj sH ⊢;have r0:0<=b % (n.length:Int):=Bv _ (by omega);have r1:b % (n.length:Int) < n.length:=Cf _ (by omega);obtain⟨j,hj⟩:∃ k:Nat,b % (n.length:Int)=k:=⟨(b % (n.length:Int)).toNat,by omega⟩;have kN:j < n.length:=by omega
  obtain⟨a,ea,eC,et,el,er⟩:=hR.at kN;refine run_set 9 nd<|nW CQ PJ PK Ng<|af 6 ⟨Q3 hR.lst,aN db<|af 0<|b9 cZ T.len CW<|ao<|af 6<|aw ⟨R,_,rfl,.inl<|ak.of hR.lst,?_⟩⟩;rw [Aa,cC];refine⟨_,_,rfl,rfl,by omega,R,_,_,j,.ref a.1,rfl,rfl,hR.lst,by rw [hj];omega,by rw [hj];omega,?_,?_,?_⟩
  ·rw [hj,Aa,cC];unfold seqIndex?;have c1:¬((j:Int) < 0):=by omega
   simp only [c1,DN];have c2:(decide (0<=(j:Int)) && decide ((j:Int) < (n.length:Int)))=true:=by
    rw [Cn,DX,DX];omega
   rw [BK c2,Bh]
  ·rw [Ad,ea];rfl
  have R6:=hR.erase kN;have am:a∈as:=Au ea;have yI:∀ x∈as,x.2≠R:=λx hx e=>by
   obtain⟨zs,e2⟩:=hR.lists hx;have h3:=hR.lst;rw [<- e,e2] at h3;have h4:=HO.lst.inj<|Option.some.inj h3;cases as with
   | nil=>cases hx
   | cons b' bs=>
    cases zs with
    | nil=>simp at h4
    | cons y r=>simp at h4
  have L6:=oj.upd (o:= .lst<|(as.map λa=>V.ref a.1).eraseIdx j) hR.lst Ho.symm aR;have qz:(upd H5 R<|.lst<|(as.map λa=>V.ref a.1).eraseIdx j) a.1=some (.tup [.str n[j].1,.ref a.2]):=by rw [av<|en et hR.lst λe=>nomatch e];exact et
  have uF:(upd H5 R<|.lst<|(as.map λa=>V.ref a.1).eraseIdx j) a.2=some (Ls<|row n j):=by rw [av<|yI a am];exact el
  have fk:ag H2 (upd H5 R<|.lst<|(as.map λa=>V.ref a.1).eraseIdx j):=cL sH fR;generalize upd H5 R (.lst<|(as.map λa=>V.ref a.1).eraseIdx j)=H6 at R6 L6 qz uF fk ⊢;have Rh:=R6.len;have mE:(n.eraseIdx j).length=n.length - 1:=by rw [Gk,BK kN]
  refine run_set 0 nd<|aN fT<|af 0<|aN fu<|b9 cZ T.len CW<|ao<|af 6<|aw ⟨R,_,rfl,.inl<|ak.of R6.lst,ay ⟨_,_,rfl,rfl,?_⟩⟩;rw [Aa,Rh,mE];refine⟨_,_,rfl,rfl,⟨by omega,by omega⟩,?_⟩;have Ri:=kC n j;refine run_set 10 nd<|b9 (C8 rfl) T.max PB<|ao<|ay<|ao<|b9 cZ T.len CW<|ao<|aS cW<|af 9<|ay ⟨a.1,_,_,.ref a.2,rfl,rfl,aK.of qz,rfl,aw ⟨a.2,_,rfl,.inl<|ak.of uF,?_⟩⟩;rw [Aa];refine aw ⟨1,_,rfl,?_⟩;have Rj:(if((row n j).length:Int) > 1 then((row n j).length:Int) else 1)=((max 1 (row n j).length:Nat):Int):=by
   split <;> omega
  rw [Rj];show Run _ _ _ [some<|.int<|b / ((n.length - 1:Nat)+1:Int),some<|.int m,some<|.int sm,some<|.int (mn:Int),some<|.ref lt,some<|.ref lp,some<|.ref R,u,some<|.ref L,some<|.ref a.1,some<|.int ((max 1 (row n j).length:Nat):Int)] H6;generalize b / ((n.length - 1:Nat)+1:Int)=b2;have z0:0<=b2 % ((max 1 (row n j).length:Nat):Int):=Bv _ (by omega);obtain⟨i,hi⟩:∃ k:Nat,b2 % ((max 1 (row n j).length:Nat):Int)=k:=⟨(b2 % ((max 1 (row n j).length:Nat):Int)).toNat,by omega⟩;refine fD<|jM<|af 8 ⟨L,rfl,⟨_,L6.lst⟩,dZ<|ao<|aS cW<|af 9<|ay ⟨a.1,_,_,.str n[j].1,rfl,rfl,aK.of qz,rfl,?_⟩⟩;refine ao (aN DV<|pT pJ<|aS cW<|af 9<|ay ⟨a.1,_,_,.ref a.2,rfl,rfl,aK.of qz,rfl,pV<|aN db<|af 0<|af 10 ⟨b2,((max 1 (row n j).length:Nat):Int),rfl,rfl,by omega,_,rfl,pU ⟨a.2,_,rfl,ak.of uF,λp1 iL=>?_⟩⟩⟩);rw [hi,Gz];have t1:=aQ iL<|Ls<|(row n j).drop i;refine pT pJ (aS cW<|af 9<|ay ⟨a.1,_,_,.ref a.2,rfl,rfl,aK.of<|t1 _ _ qz,rfl,pU<|pV<|aN db<|af 0<|af 10 ⟨b2,((max 1 (row n j).length:Nat):Int),rfl,rfl,by omega,_,rfl,a.2,_,rfl,ak.of<|t1 _ _ uF,λp2 fC=>?_⟩⟩);rw [hi,Qp];have t2:=aQ fC<|Ls<|(row n j).take i;refine⟨p1,p2,_,_,rfl,rfl,t2 _ _ ae,ae,?_,λp3 mF=>?_⟩
  ·rw [Aa,Aa,Cb,Ay];exact small<|by omega
  rw [<- Ag];have t3:=aQ mF<|Ls<|(row n j).drop i++(row n j).take i;refine aw ⟨Z2,λt4 Rk=>?_⟩;have s4:=aQ Rk<|.tup [.str n[j].1,.ref p3];have mG:=t1.trans<|t2.trans<|t3.trans s4;have L7:=L6.same mG;have R7:=R6.same mG;have Rl:p3≠L:=λe=>by rw [e,(t1.trans t2) _ _ L6.lst] at mF;cases mF
  have Rm:p3≠R:=λe=>by rw [e,(t1.trans t2) _ _ R6.lst] at mF;cases mF
  have Rn:p3∉kL.map (·.2):=λhm=>by
   obtain⟨y,hy,e⟩:=At.mp hm;exact(L6.same<|t1.trans t2).fresh mF hy e.symm
  have L8:=L7.more (t:=t4) (l:=p3) (pt:=n[j].1) (zs:=(row n j).drop i++(row n j).take i) ae (s4 _ _ ae) Rn Rl;refine⟨_,L7.lst,by rw [Aa,yH];exact bQ (by omega),?_⟩;have Ht:∀ x∈as.eraseIdx j,x.2≠L:=λx hx=>aL x<|Fx hx;have R8:=R7.upd (o:= .lst<|kL.map (λa=>V.ref a.1)++[.ref t4]) L7.lst Ho Ht;refine run_set 0 nd (aN fT<|af 0<|af 10 ⟨b2,((max 1 (row n j).length:Nat):Int),rfl,rfl,⟨by omega,by omega⟩,?_⟩);have pe:=Gy n j kN;have ne:=Qo n j kN;refine aP ⟨n.length - 1,by omega,as.eraseIdx j,kL++[(t4,p3)],n.eraseIdx j,n2++[(n[j].1,(row n j).drop i++(row n j).take i)],_,_,_,mE.symm,R8,L8,cL (fk.trans mG) fL,Ht,λx hx=>?_,λx hx=>?_,?_,?_,?_,λh=>⟨λr hr=>?_,λr hr=>?_⟩,λr hr=>?_,λx hx=>?_,rfl⟩
  ·rcases Al.mp hx with hx | hx
   ·exact aR x hx
   ·rw [Af] at hx;rw [hx];exact Rm
  ·rcases Al.mp hx with hx | hx
   ·exact Hr x hx
   ·rw [Af] at hx;rw [hx];exact fk.free<|t1.free<|t2.free mF
  ·rw [Ae,mE];simp;omega
  ·refine List.Perm.trans ?_ pt;unfold ah;rw [Eu];show(ah (n.eraseIdx j)++(ah n2++(((row n j).drop i++(row n j).take i)++[]))).Perm _;rw [Bc,er];have w1:(n[j].2.drop i++n[j].2.take i).Perm n[j].2:=yk _ _;refine((w1.append_left _).append_left _).trans ?_;have w2:(ah n++ah n2).Perm ((n[j].2++ah (n.eraseIdx j))++ah n2):=pe.append_right _;refine List.Perm.trans ?_ w2.symm;rw [Aw];refine List.Perm.trans ?_<|Dz (l₁:=ah (n.eraseIdx j)++ah n2);rw [Aw]
  ·refine List.Perm.trans ?_ pn;rw [Ag];show((n.eraseIdx j).map (·.1)++(n2.map (·.1)++[n[j].1])).Perm _;refine List.Perm.trans ?_ (ne.append_right _).symm;rw [<- Aw];exact Dz
  ·exact(aY h).1 r<|Fx hr
  ·rcases Al.mp hr with hr | hr
   ·exact(aY h).2 r hr
   ·rw [Af] at hr;rw [hr];intro e;have w1:=(yk (row n j) i).length_eq;have e':(row n j).drop i++(row n j).take i=[]:=e;rw [e'] at w1;have:=(aY h).1 n[j]<|By kN;rw [er] at w1;exact this<|Bt.mp w1.symm
  ·obtain⟨x,hx,e1,e2⟩:=Hs r hr
   rcases Al.mp hx with hx | hx
   ·rcases (bP.cR n j kN).symm.mem_iff.mp hx |> Ax.mp with q | q
    ·refine⟨(n[j].1,(row n j).drop i++(row n j).take i),Aj _<|Aj _<|Af.mpr rfl,by rw [<- e1,q],λt ht=>?_⟩;refine(yk (row n j) i).mem_iff.mpr ?_;rw [er,<- q];exact e2 t ht
    ·exact⟨x,Av _ q,e1,e2⟩
   ·exact⟨x,Aj _<|Av _ hx,e1,e2⟩
  ·rcases Al.mp hx with hx | hx
   ·exact uD x<|Av _<|Fx hx
   ·rcases Al.mp hx with hx | hx
    ·exact uD x<|Aj _ hx
    ·rw [Af] at hx;obtain⟨r,hr,e⟩:=uD n[j]<|Av _<|By kN;exact⟨r,hr,by rw [e,hx]⟩
end
end W6
namespace PySem
section
variable{prog:Program}{w:World}{K:Type} [DecidableEq K] {knd:KeyKind prog w K} {A:Around} {R:Result->Shared->Prop}
end
end PySem
namespace L2
open PySem PySem.Spec PyProof.Rows
section
variable{X:Cx}{pins:List (Addr×Obj)}{σ:St}{H:Hp}{s:Shared}
end
section
variable{X:Cx}{pins:List (Addr×Obj)}{σ:St}{H:Hp}{s:Shared}{h':Heap}
theorem Inv.d7{t':Nat}{ch:List Addr}(I:Inv X pins σ H s)(hf:∀ b∈ch,b8 X pins H b)(k:∀ b o,b∉ch->s.heap.get? b=some o->h'.get? b=some o):Inv X pins σ H {s with heap:=h',toks:=t'}:=by
 have o1:∀ b u,H b=some u->b∉ch:=λb u e z=>by rw [(hf b z).1] at e;cases e
 refine I.step (g':=s.gens) (d':=s.drawn) (ch:=ch) (λb hb=>?_) (λb o _ _ hc e _=>k b o hc e) (λb o _ _ hc e _=>⟨o.slots,k b o hc e⟩) (λ_ _ _ _ n=>n)
  (λb o hc e=>⟨o,k b o hc e⟩) (λ_ _ e=>e) (λ_ _ _ e=>e) (λb ps e=>⟨#[],by rw [e];simp⟩) (λm hm=>?_) (λb u e=>?_) I.bare
 ·obtain⟨f0,f1,f2,f3,f4,f5⟩:=hf b hb;exact⟨f3,f1,f4,f5⟩
 ·obtain⟨o,es,ep,ho,r⟩:=hm;exact⟨o,es,ep,k _ o (λz=>(hf _ z).2.1 rfl) ho,r⟩
 ·refine(I.aB b u e).gB (λc v hc q=>k c v ?_ q) (λ_ q=>q) λ_ _ q=>q
  rcases hc with z | z
  ·rw [z];exact o1 b u e
  ·exact o1 c _ z
end
section
variable{X:Cx}
end
section
variable{X:Cx}{elt t1 i1 t2 i2:Expr}{f1 f2:List Expr}{scope:Scope}{pos:Pos}{σ:St}{H:Hp}{acc:Value}{env:Env}
end
section
variable{X:Cx}{pins:List (Addr×Obj)}{σ:St}{H:Hp}{s:Shared}{a:Addr}{y v:V}{u r:Value}{A:Around}{E:Value->Shared->Prop}
theorem Hu{H':Hp}{Q:Unit->Shared->Prop}(hu:A.units+1 < cLine)(I:Inv X pins σ H s)(g:cQ H a y v H')(ry:RelV y u)(rv:RelV v r)(h:∀ s',Inv X pins σ H' s'->Q () s') :
  wpAny (model X.prog X.w) A (dictSet a u r) Q E s:=by
 rcases g with ⟨kvs,k,e,ey,l,eH⟩ | ⟨kvs,k,b,e,ey,eb,l,eH⟩
 ·subst ey eH;obtain⟨z,hd,vs,rel,dd⟩:=pQ I.aB e;have hz:vs.length<=sizeLine:=by rw [<- rel.length];exact z
  have hl:(putK kvs k v).length<=sizeLine:=by have:=nH kvs k v;omega
  refine wpAny_dictSet_pairs (hsz:=hz) (lP ry) dd λh' hW hs=>h _ ?_;have he:∃ q,h'.get? a=some q:=let ⟨q,_,_,hq,_⟩:=hW;⟨q,hq⟩
  exact nK I (by rw [e];exact True.intro) hs he<|wL hl hd (rel.put k rv) hW
 ·subst ey eH;cases (show u=Value.ref b from ry);obtain⟨z,hd,xs,rel,dd⟩:=ED I.aB e;have hz:xs.length<=sizeLine:=by rw [<- Paired.length rel];exact z
  have hl:(putK kvs k v).length<=sizeLine:=by have:=nH kvs k v;omega
  have room:(tupleKind<|dS X.prog X.w).room A:=by first | exact hu | exact JR hu | exact JG (Ef _) hu
  refine wpAny_dictSet_heap (hsz:=hz) room (nJ I.aB eb) dd λh' hW hs=>h _ ?_;obtain⟨q,es,ep,hq,h2,h3,h4,_,h5⟩:=hW;refine nK I (by rw [e];exact True.intro) hs ⟨q,hq⟩ ⟨hl,hd,_,(rel.put k eb rv).keeps λc ys ec=>?_,q,es,ep,hq,h2,h3,h4,h5⟩;rw [av<|en ec e λz=>nomatch z];exact ec
end
def kO(k v:Expr)(acc:Value)(env:Env):Sem Unit:=do
 let kv <- eval k env
 let vv <- holding [kv]<|eval v env
 match acc with
 | .ref d=>do
  standAt {k.pos with endLine:=v.pos.endLine,endCol:=v.pos.endCol}
  holding [kv,vv] (dictSet d kv vv)
 | _=>unsupported "internal:dictcomp"
section
variable{X:Cx}{k v t1 i1 t2 i2:Expr}{f1 f2:List Expr}{scope:Scope}{pos:Pos}{σ:St}{H:Hp}{acc:Value}{env:Env}
theorem Hv:Clause (.DictComp k v [⟨t1,i1,f1,0⟩] scope pos) 0 t1 i1 f1 acc env (kO k v acc env):=⟨rfl,λ_=>rfl,λ_ _ _=>rfl,λ_ _=>rfl,λ_ _ _=>rfl,λ_ _=>rfl,λit=>by
 unfold kO;cases acc <;> first | rfl | (simp only [bind_assoc,pure_bind];rfl)⟩
theorem Ro{D:Addr}{Q:St->Hp->Prop}(hu:X.A.units+1 < cLine)(h:Ev X k σ H λy H1=>Ev X v σ H1 λx H2=>∃ H3,cQ H2 D y x H3/\Q σ H3):pZ X (kO k v (.ref D) X.env) σ H Q:=by
 refine⟨λpins s I=>?_⟩;unfold kO;refine BL<|aD (h.run pins s I) λkv s1 ⟨y,H1,I1,r1,h1⟩=>?_;refine BL<|DR<|aD (h1.run pins s1 I1) λvv s2 ⟨x,H2,I2,r2,H3,dp,q⟩=>?_;show wpAny _ _ (standAt _ >>= λ_=>holding [kv,vv]<|dictSet D kv vv) _ _ _;exact BL<|GJ<|DR<|Hu hu I2 dp r1 r2 λs' I'=>⟨σ,H3,I',q⟩
theorem V5{wi:TI}{Q:VK}(sc:Scope)(N N':List Str)(n:Nat)(hi:PI X t1 i1 wi)
  (h:wi σ H λJ H1=>∀ D,H1 D=none->∀ cl C s₀ H₀ ex,kz (fW X N' scope cl C s₀ H₀ ex) t1 f1 (kO k v (.ref D)<|compEnvC scope cl C X.env) J (λ_ H'=>Q (.ref D) H') (σ++List.replicate n none)<|upd H1 D<|.dT [])
  (hc:X.calm=true:=by rfl) (lX:X.env.scope=sc:=by rfl) (hN:X.N=N:=by rfl) (hk:nR sc scope N N'=true:=by decide +kernel) (hl:N'.length=N.length+n:=by rfl)
  (hs:∀ x,foldedSetIterable i1 X.env x=pure x:=by intro _;rfl):Ev X (.DictComp k v [⟨t1,i1,f1,0⟩] scope pos) σ H Q:=by
 refine⟨λpins s I=>?_⟩;subst lX hN;have ck:=bE.of hk;show wpAny _ _ (comprehension (.DictComp k v [⟨t1,i1,f1,0⟩] scope pos) scope X.env (firstIterPos [⟨t1,i1,f1,0⟩] pos) newDict (firstAsync [⟨t1,i1,f1,0⟩])<|firstIter [⟨t1,i1,f1,0⟩] X.env) _ _ _;refine FQ (use:=none) rfl hs (tH λx hx hf=>I.ok.has x.1<|ck.free x hx hf) ck.kind ck.names (aD (hi pins s σ H _ I h) λxv s1 h1=>aD h1 λnC s2 h2=>?_);obtain⟨it,fp,tn,J,H2,e,I2,T,bh,yJ,q⟩:=h2;subst e;refine xr (e:= .DictComp k v [⟨t1,i1,f1,0⟩] scope pos) (newAcc:=newDict) (o0:={cls:= .type "dict",data:= .dict #[]}) (u0:=λ_=> .dT []) (λ_ _ _ h=>JQ h) (λ_ h hb=>NW h hb) (Q:=Q) (RR:=λacc C=>compPost (model X.prog X.w) X.A X.xe none (EP X pins σ Q) acc C) hc ck hl (inner:=kO k v) (λ_ _=>Hv) I2 T bh yJ q ?_;intro D C H' s' m IX hn hC c1 c2 c3 c4 qq;exact⟨m,hn,λh' dI=>⟨.ref D,H',IX.turned (t':=s'.toks) (λb o hb e=>dI.extBut b o hb e) hC (Ne.symm<|Ne.symm c1) (.inr c2) c3 c4,rfl,qq⟩⟩
theorem Rp{wi:TI}{Q:VK}(sc:Scope)(N N':List Str)(n:Nat)(hi:PI X t1 i1 wi)
  (h:wi σ H λJ H1=>∀ D,H1 D=none->∀ cl C s₀ H₀ ex,kz (fW X N' scope cl C s₀ H₀ ex) t1 f1 (kO k v (.ref D)<|compEnvC scope cl C X.env) J (λ_ H'=>Q (.ref D) H') (σ++List.replicate n none)<|upd H1 D<|.dK [])
  (hc:X.calm=true:=by rfl) (lX:X.env.scope=sc:=by rfl) (hN:X.N=N:=by rfl) (hk:nR sc scope N N'=true:=by decide +kernel) (hl:N'.length=N.length+n:=by rfl)
  (hs:∀ x,foldedSetIterable i1 X.env x=pure x:=by intro _;rfl):Ev X (.DictComp k v [⟨t1,i1,f1,0⟩] scope pos) σ H Q:=by
 refine⟨λpins s I=>?_⟩;subst lX hN;have ck:=bE.of hk;show wpAny _ _ (comprehension (.DictComp k v [⟨t1,i1,f1,0⟩] scope pos) scope X.env (firstIterPos [⟨t1,i1,f1,0⟩] pos) newDict (firstAsync [⟨t1,i1,f1,0⟩])<|firstIter [⟨t1,i1,f1,0⟩] X.env) _ _ _;refine FQ (use:=none) rfl hs (tH λx hx hf=>I.ok.has x.1<|ck.free x hx hf) ck.kind ck.names (aD (hi pins s σ H _ I h) λxv s1 h1=>aD h1 λnC s2 h2=>?_);obtain⟨it,fp,tn,J,H2,e,I2,T,bh,yJ,q⟩:=h2;subst e;refine xr (e:= .DictComp k v [⟨t1,i1,f1,0⟩] scope pos) (newAcc:=newDict) (o0:={cls:= .type "dict",data:= .dict #[]}) (u0:=λ_=> .dK []) (λ_ _ _ h=>JQ h) (λ_ h hb=>wN h hb) (Q:=Q) (RR:=λacc C=>compPost (model X.prog X.w) X.A X.xe none (EP X pins σ Q) acc C) hc ck hl (inner:=kO k v) (λ_ _=>Hv) I2 T bh yJ q ?_;intro D C H' s' m IX hn hC c1 c2 c3 c4 qq;exact⟨m,hn,λh' dI=>⟨.ref D,H',IX.turned (t':=s'.toks) (λb o hb e=>dI.extBut b o hb e) hC (Ne.symm<|Ne.symm c1) (.inr c2) c3 c4,rfl,qq⟩⟩
end
open bP
section
variable{X:Cx}{elt t1 i1 t2 i2:Expr}{f1 f2:List Expr}{scope:Scope}{pos:Pos}{σ:St}{H:Hp}{acc:Value}{env:Env}
end
end L2
namespace L2
open PySem PySem.Builtin PySem.Builtin.Str
section
variable{X:Cx}{σ:St}{H:Hp}{Q:VK}
end
end L2
namespace PySem
section
variable{P:Program}{w:World}{A:Around}{E:Value->Shared->Prop}{s:Shared}
end
end PySem
namespace L2
open PySem PySem.Spec PyProof.Rows
section
variable{X:Cx}{pins:List (Addr×Obj)}{σ:St}{H:Hp}{s:Shared}
end
section
variable{X:Cx}
end
section
variable{X:Cx}{tg:Expr}{ifs:List Expr}{inner:Sem Unit}{σ:St}{H:Hp}{d:Addr}{o:Obj}{kvs:List (List Key×V)}{after:St->Hp->Prop}
end
open bP
section
variable{X:Cx}{σ:St}{H:Hp}{Q:VK}
end
section
variable{prog:Program}{w:World}{A:Around}{E:Value->Shared->Prop}{s:Shared}
end
section
variable{X:Cx}{σ:St}{H:Hp}{Q:VK}
end
end L2
namespace bX
open PySem PySem.W PyProof.Rows
section
variable{lt:Nat->Nat->Bool}{cmp:Nat->Nat->(Bool->Shared->Prop)->Shared->Prop}{J:Shared->Prop}{n:Nat}
structure du(lt:Nat->Nat->Bool)(cmp:Nat->Nat->(Bool->Shared->Prop)->Shared->Prop)(J:Shared->Prop)(n:Nat):Prop where
 ask:∀(i j:Nat) (C:Bool->Shared->Prop) (s:Shared),i < n->j < n->i≠j->J s->(∀ s',J s'->C (lt i j) s')->cmp i j C s
 mH:∀ i j,i < n->j < n->i≠j->lt i j=true\/lt j i=true
 yK:∀ i j,lt i j=true->lt j i=false
 gu:∀ i j k,lt i j=true->lt j k=true->lt i k=true
def g(p:Array Nat)(i:Nat):Nat:=p.getD i 0
structure Pm(p:Array Nat)(n:Nat):Prop where
 size:p.size=n
 lt:∀ i,i < n->g p i < n
 inj:∀ i j,i < n->j < n->g p i=g p j->i=j
theorem gL{p:Array Nat}{i:Nat}{v:Nat}(h:p[i]?=some v):g p i=v:=by
 unfold g;rw [Fk,h];rfl
theorem iM{p q:Array Nat}{i j:Nat}(h:p[i]?=q[j]?):g p i=g q j:=by
 unfold g;rw [Fk,Fk,h]
theorem Hw(n:Nat):Pm (List.toArray<|List.range n) n:=by
 have e:∀ i,i < n->g (List.toArray<|List.range n) i=i:=λi hi=>gL (by simp [hi]);exact⟨by simp,λi hi=>by rw [e i hi];exact hi,λi j hi hj h=>by rw [e i hi,e j hj] at h;exact h⟩
def Up(lt:Nat->Nat->Bool)(p:Array Nat)(m:Nat):Prop:=∀ i j,i < j->j < m->lt (g p i) (g p j)=true
def Dn(lt:Nat->Nat->Bool)(p:Array Nat)(m:Nat):Prop:=∀ i j,i < j->j < m->lt (g p j) (g p i)=true
theorem Rq(p:Array Nat):Up lt p 1:=λi j h1 h2=>by omega
theorem Rr(A:du lt cmp J n){p:Array Nat}{m:Nat}(h1:1<=m)(h:Up lt p m)(hm:lt (g p<|m - 1) (g p m)=true):Up lt p (m+1):=λi j hi hj=>by
 by_cases c:j < m
 ·exact h i j hi c
 ·have:j=m:=by omega
  subst this
  by_cases d:i=j - 1
  ·rw [d];exact hm
  ·exact A.gu _ _ _ (h i (j - 1) (by omega)<|by omega) hm
theorem Rt(A:du lt cmp J n){p:Array Nat}{m:Nat}(h1:1<=m)(h:Dn lt p m)(hm:lt (g p m) (g p<|m - 1)=true):Dn lt p (m+1):=λi j hi hj=>by
 by_cases c:j < m
 ·exact h i j hi c
 ·have:j=m:=by omega
  subst this
  by_cases d:i=j - 1
  ·rw [d];exact hm
  ·exact A.gu _ _ _ hm<|h i (j - 1) (by omega)<|by omega
theorem yL(A:du lt cmp J n){i j:Nat}(hi:i < n)(hj:j < n)(aY:i≠j)(h:lt i j=false):lt j i=true:=by
 rcases A.mH i j hi hj aY with q | q
 ·rw [h] at q;cases q
 ·exact q
theorem yM(A:du lt cmp J n){p:Array Nat}(P:Pm p n):∀(f m:Nat) (Q:Nat->Shared->Prop) (s:Shared),1<=m->m+f<=n->Up lt p m->J s ->
  (∀ k s',J s'->m<=k->k<=m+f->Up lt p k->(k < m+f->lt (g p k) (g p<|k - 1)=true)->Q k s')->(kas_asc p f m).kasWp cmp Q s
 | 0,m,Q,s,h1,h2,hu,hJ,k=>k m s hJ (Ah _) (Ah _) hu λh=>by omega
 | f+1,m,Q,s,h1,h2,hu,hJ,k=>by
  have aY:g p m≠g p (m - 1):=λh=>by have:=P.inj m (m - 1) (by omega) (by omega) h;omega
  refine A.ask _ _ _ _ (P.lt m<|by omega) (P.lt (m - 1)<|by omega) aY hJ λs' eZ=>?_;cases e:lt (p.getD m 0) (p.getD (m - 1) 0) with
  | true=>exact k m s' eZ (Ah _) (by omega) hu λ_=>e
  | false=>
   have dR:Up lt p (m+1):=Rr A h1 hu (yL A (P.lt m<|by omega) (P.lt (m - 1)<|by omega) aY e);exact yM A P f (m+1) Q s' (by omega) (by omega) dR eZ λk' s2 j2 a b c d=>k k' s2 j2 (by omega) (by omega) c λh=>d<|by omega
theorem Hx(A:du lt cmp J n){p:Array Nat}(P:Pm p n):∀(f m:Nat) (Q:Array Nat×Nat×Nat->Shared->Prop) (s:Shared),1<=m->m+f<=n->Dn lt p m->J s ->
  (∀ k s',J s'->m<=k->k<=m+f->Dn lt p k->Q (p,k,0) s')->(kas_desc f p m 0).kasWp cmp Q s
 | 0,m,Q,s,h1,h2,hd,hJ,k=>k m s hJ (Ah _) (Ah _) hd
 | f+1,m,Q,s,h1,h2,hd,hJ,k=>by
  have aY:g p m≠g p (m - 1):=λh=>by have:=P.inj m (m - 1) (by omega) (by omega) h;omega
  refine A.ask _ _ _ _ (P.lt m<|by omega) (P.lt (m - 1)<|by omega) aY hJ λs' eZ=>?_;cases e:lt (p.getD m 0) (p.getD (m - 1) 0) with
  | true=>
   show(if true=true then(if 0 > 0 then _ else kas_desc f p (m+1) 0) else _:KasT _).kasWp cmp Q s';rw [BK rfl,BJ<|by omega];exact Hx A P f (m+1) Q s' (by omega) (by omega) (Rt A h1 hd e) eZ λk' s2 j2 a b c=>k k' s2 j2 (by omega) (by omega) c
  | false=>
   refine A.ask _ _ _ _ (P.lt (m - 1)<|by omega) (P.lt m<|by omega) (Ne.symm aY) eZ λs2 qA=>?_;have e2:lt (p.getD (m - 1) 0) (p.getD m 0)=true:=yL A (P.lt m<|by omega) (P.lt (m - 1)<|by omega) aY e;rw [e2];exact k m s2 qA (Ah _) (by omega) hd
theorem qB{p:Array Nat}{m k:Nat}(h:m<=p.size):g (kas_rev p 0 m) k=if k < m then g p (m - 1 - k) else g p k:=by
 have e:=IW (xs:=p) (i:=0) (j:=m) h k
 by_cases c:k < m
 ·rw [BK c];rw [BK ⟨Br _,c⟩] at e;refine iM<|e.trans ?_
  congr 1
  omega
 ·rw [BJ c];rw [BJ λq=>c q.2] at e;exact iM e
theorem Hy{p:Array Nat}{m:Nat}(P:Pm p n)(h:m<=n):Pm (kas_rev p 0 m) n:=by
 have hs:m<=p.size:=by rw [P.size];exact h
 refine⟨by rw [kas_rev_size];exact P.size,λi hi=>?_,λi j hi hj q=>?_⟩
 ·rw [qB hs]
  split
  ·exact P.lt _<|by omega
  ·exact P.lt _ hi
 ·rw [qB hs,qB hs] at q
  by_cases c:i < m <;> by_cases d:j < m
  ·rw [BK c,BK d] at q;have:=P.inj _ _ (by omega) (by omega) q;omega
  ·rw [BK c,BJ d] at q;have:=P.inj _ _ (by omega) hj q;omega
  ·rw [BJ c,BK d] at q;have:=P.inj _ _ hi (by omega) q;omega
  ·rw [BJ c,BJ d] at q;exact P.inj _ _ hi hj q
theorem Ru{p:Array Nat}{m:Nat}(P:Pm p n)(h:m<=n)(hd:Dn lt p m):Up lt (kas_rev p 0 m) m:=λi j hi hj=>by
 have hs:m<=p.size:=by rw [P.size];exact h
 rw [qB hs,qB hs,BK (by omega),BK hj];exact hd (m - 1 - j) (m - 1 - i) (by omega)<|by omega
theorem Rv(A:du lt cmp J n){p:Array Nat}(P:Pm p n){m:Nat}{Q:Nat×Array Nat->Shared->Prop}{s:Shared}(h1:1<=m)(h2:m<=n)(hd:Dn lt p m)(hJ:J s)
  (k:∀ r q s',J s'->1<=r->r<=n->Pm q n->Up lt q r->Q (r,q) s'):(kas_tail3 m n p).kasWp cmp Q s:=by
 unfold kas_tail3;rw [HJ];exact yM A (Hy P h2) (n - m) m _ s h1 (by omega) (Ru P h2 hd) hJ λr s' j a b c _=>k r _ s' j (by omega) (by omega) (Hy P h2) c
theorem Rw(A:du lt cmp J n){p:Array Nat}(P:Pm p n){Q:Nat×Array Nat->Shared->Prop}{s:Shared}(h2:2<=n)(hJ:J s)
  (k:∀ r q s',J s'->1<=r->r<=n->Pm q n->Up lt q r->Q (r,q) s'):(kas_count n p).kasWp cmp Q s:=by
 unfold kas_count;rw [HJ];refine yM A P (n - 1) 1 _ s (Ah _) (by omega) (Rq p) hJ λm s' eZ m1 m2 hu qC=>?_
 by_cases c:m=n
 ·subst c;rw [BK<|by simp];exact k m p s' eZ m1 (Ah _) P hu
 ·rw [BJ<|by simpa using c]
  by_cases d:m > 1
  ·rw [BK d];have aY:g p 0≠g p (m - 1):=λh=>by have:=P.inj 0 (m - 1) (by omega) (by omega) h;omega
   refine A.ask _ _ _ _ (P.lt 0<|by omega) (P.lt (m - 1)<|by omega) aY eZ λs2 qA=>?_;have e:lt (p.getD 0 0) (p.getD (m - 1) 0)=true:=hu 0 (m - 1) (by omega) (by omega);rw [e];exact k m p s2 qA m1 (by omega) P hu
  ·rw [BJ d];have em:m=1:=by omega
   subst em;unfold kas_descPart;rw [HJ];have hl:=qC (by omega);have hd2:Dn lt p 2:=λi j hi hj=>by
    have:i=0/\j=1:=by omega
    rw [this.1,this.2];exact hl
   refine Hx A P (n - (1+1)) (1+1) _ s' (by omega) (by omega) hd2 eZ λr s2 qA r1 r2 hd=>?_;show(if(0:Nat) > 0 then _ else kas_tail3 r n p:KasT _).kasWp cmp Q s2;rw [BJ<|by omega];exact Rv A P (by omega) (by omega) hd qA k
theorem yN(A:du lt cmp J n){p:Array Nat}(P:Pm p n){k:Nat}(hk:k < n)(hu:Up lt p k):∀(f l r:Nat) (Q:Nat->Shared->Prop) (s:Shared),r<=k->l<=r->r - l<=f->J s->(∀ i,i < l->lt (g p i) (g p k)=true)->(∀ i,r<=i->i < k->lt (g p k) (g p i)=true) ->
  (∀ m s',J s'->m<=k->(∀ i,i < m->lt (g p i) (g p k)=true)->(∀ i,m<=i->i < k->lt (g p k) (g p i)=true)->Q m s')->(kas_place p k f l r).kasWp cmp Q s
 | 0,l,r,Q,s,h1,h2,h3,hJ,ha,hb,q=>q l s hJ (by omega) ha λi hi=>hb i<|by omega
 | f+1,l,r,Q,s,h1,h2,h3,hJ,ha,hb,q=>by
  unfold kas_place
  by_cases c:l>=r
  ·rw [BK c];exact q l s hJ (by omega) ha λi hi=>hb i<|by omega
  ·rw [BJ c];have Rx:(l+r) / 2 < k:=by omega
   have aY:g p k≠g p ((l+r) / 2):=λh=>by have:=P.inj k _ hk (by omega) h;omega
   refine A.ask _ _ _ _ (P.lt k hk) (P.lt _<|by omega) aY hJ λs' eZ=>?_;cases e:lt (p.getD k 0) (p.getD ((l+r) / 2) 0) with
   | true=>
    show(kas_place p k f l<|(l+r) / 2).kasWp cmp Q s';refine yN A P hk hu f l ((l+r) / 2) Q s' (by omega) (by omega) (by omega) eZ ha (λi hi Hz=>?_) q
    by_cases d:i=(l+r) / 2
    ·rw [d];exact e
    ·exact A.gu _ _ _ e<|hu _ _ (by omega) Hz
   | false=>
    show(kas_place p k f ((l+r) / 2+1) r).kasWp cmp Q s';have e2:=yL A (P.lt k hk) (P.lt _<|by omega) aY e;refine yN A P hk hu f ((l+r) / 2+1) r Q s' h1 (by omega) (by omega) eZ (λi hi=>?_) hb q
    by_cases d:i=(l+r) / 2
    ·rw [d];exact e2
    ·exact A.gu _ _ _ (hu _ _ (by omega) Rx) e2
theorem qD{p:Array Nat}{k m i:Nat}(hk:k < p.size)(hm:m<=k):g (bubble p k<|k - m) i=if i=m then g p k else if m < i/\i<=k then g p (i - 1) else g p i:=by
 have e:=getElem?_bubble (xs:=p) hk (k - m) (by omega) i;rw [show k - (k - m)=m by omega] at e
 by_cases c:i=m
 ·rw [BK c];rw [BK c] at e;exact iM e
 ·rw [BJ c];rw [BJ c] at e
  by_cases d:m < i/\i<=k
  ·rw [BK d];rw [BK d] at e;exact iM e
  ·rw [BJ d];rw [BJ d] at e;exact iM e
theorem Ry{p:Array Nat}{k m:Nat}(P:Pm p n)(hk:k < n)(hm:m<=k):Pm (bubble p k<|k - m) n:=by
 have hs:k < p.size:=by rw [P.size];exact hk
 refine⟨by rw [bubble_size];exact P.size,λi hi=>?_,λi j hi hj q=>?_⟩
 ·rw [qD hs hm]
  split
  ·exact P.lt k hk
  ·split
   ·exact P.lt _<|by omega
   ·exact P.lt _ hi
 ·rw [qD hs hm,qD hs hm] at q;have src:∀ a,a < n->∃ b,b < n/\(if a=m then g p k else if m < a/\a<=k then g p (a - 1) else g p a)=g p b/\((a=m/\b=k)\/(a≠m/\(m < a/\a<=k)/\b=a - 1)\/(a≠m/\¬(m < a/\a<=k)/\b=a)):=λa ha=>by
   by_cases c:a=m
   ·exact⟨k,hk,by rw [BK c],.inl ⟨c,rfl⟩⟩
   ·by_cases d:m < a/\a<=k
    ·exact⟨a - 1,by omega,by rw [BJ c,BK d],.inr<|.inl ⟨c,d,rfl⟩⟩
    ·exact⟨a,ha,by rw [BJ c,BJ d],.inr<|.inr ⟨c,d,rfl⟩⟩
  obtain⟨x,x1,x2,x3⟩:=src i hi;obtain⟨y,y1,y2,y3⟩:=src j hj;rw [x2,y2] at q;have e:=P.inj x y x1 y1 q;subst e
  rcases x3 with ⟨a1,a2⟩ | ⟨a1,a2,a3⟩ | ⟨a1,a2,a3⟩
  ·rcases y3 with ⟨b1,b2⟩ | ⟨b1,b2,b3⟩ | ⟨b1,b2,b3⟩
   ·exact a1.trans b1.symm
   ·exact absurd (a2.symm.trans b3)<|Dx<|Bm (Nat.sub_lt (Ge b2.1) Nat.one_pos) b2.2
   ·exact absurd ⟨Fb (by rw [<- b3,a2];exact hm)<|Ne.symm b1,by rw [<- b3,a2];exact Ah _⟩ b2
  ·rcases y3 with ⟨b1,b2⟩ | ⟨b1,b2,b3⟩ | ⟨b1,b2,b3⟩
   ·exact absurd (b2.symm.trans a3)<|Dx<|Bm (Nat.sub_lt (Ge a2.1) Nat.one_pos) a2.2
   ·exact Nat.sub_one_cancel (Ge a2.1) (Ge b2.1)<|a3.symm.trans b3
   ·exact absurd ⟨Fb (by rw [<- b3,a3];exact Nat.le_sub_one_of_lt a2.1)<|Ne.symm b1,by rw [<- b3,a3];exact Bz (Nat.sub_le _ _) a2.2⟩ b2
  ·rcases y3 with ⟨b1,b2⟩ | ⟨b1,b2,b3⟩ | ⟨b1,b2,b3⟩
   ·exact absurd ⟨Fb (by rw [<- a3,b2];exact hm)<|Ne.symm a1,by rw [<- a3,b2];exact Ah _⟩ a2
   ·exact absurd ⟨Fb (by rw [<- a3,b3];exact Nat.le_sub_one_of_lt b2.1)<|Ne.symm a1,by rw [<- a3,b3];exact Bz (Nat.sub_le _ _) b2.2⟩ a2
   ·exact a3.symm.trans b3
theorem Rz{p:Array Nat}{k m:Nat}(P:Pm p n)(hk:k < n)(hm:m<=k)(hu:Up lt p k)(ha:∀ i,i < m->lt (g p i) (g p k)=true)(hb:∀ i,m<=i->i < k->lt (g p k) (g p i)=true):Up lt (bubble p k<|k - m) (k+1):=λi j hi hj=>by
 have hs:k < p.size:=by rw [P.size];exact hk
 rw [qD hs hm,qD hs hm]
 by_cases c:i=m
 ·rw [BK c,BJ (by omega),BK<|by omega];exact hb _ (by omega)<|by omega
 ·rw [BJ c]
  by_cases d:j=m
  ·rw [BK d,BJ<|by omega];exact ha i<|by omega
  ·rw [BJ d]
   by_cases e:m < i/\i<=k
   ·rw [BK e,BK<|by omega];exact hu _ _ (by omega)<|by omega
   ·rw [BJ e]
    by_cases f:m < j/\j<=k
    ·rw [BK f];exact hu _ _ (by omega)<|by omega
    ·rw [BJ f];exact hu _ _ hi<|by omega
theorem HA(A:du lt cmp J n):∀(f:Nat) (p:Array Nat) (k:Nat) (Q:Array Nat->Shared->Prop) (s:Shared),Pm p n->1<=k->k+f=n->Up lt p k->J s->(∀ q s',J s'->Pm q n->Up lt q n->Q q s')->(kas_bin f p k).kasWp cmp Q s
 | 0,p,k,Q,s,P,h1,h2,hu,hJ,q=>by
  have:k=n:=by omega
  subst this;exact q p s hJ P hu
 | f+1,p,k,Q,s,P,h1,h2,hu,hJ,q=>by
  unfold kas_bin;rw [HJ];refine yN A P (by omega) hu k 0 k _ s (Ah _) (Br _) (by omega) hJ (λi hi=>by omega) (λi hi Hz=>by omega) λm s' eZ hm ha hb=>?_;exact HA A f _ (k+1) Q s' (Ry P (by omega) hm) (by omega) (by omega) (Rz P (by omega) hm hu ha hb) eZ q
theorem RA(A:du lt cmp J n){Q:Array Nat->Shared->Prop}{s:Shared}(h2:2<=n)(hJ:J s)(q:∀ p s',J s'->Pm p n->Up lt p n->Q p s'):(kas_sort n).kasWp cmp Q s:=by
 unfold kas_sort;rw [HJ];refine Rw A (Hw n) h2 hJ λr p s' eZ r1 r2 P hu=>?_;show(if r < n then kas_bin (n - max r 1) p (max r 1) else .ret p:KasT _).kasWp cmp Q s';have em:max r 1=r:=by omega
 rw [em]
 by_cases c:r < n
 ·rw [BK c];exact HA A (n - r) p r Q s' P r1 (by omega) hu eZ q
 ·rw [BJ c];have:r=n:=by omega
  subst this;exact q p s' eZ P hu
end
theorem HC{p:Array Nat}{n:Nat}(P:Pm p n):p.toList.Nodup:=by
 rw [Cp,Bg];intro i j hi hj cS e;have d6:i < n:=by rw [Am,P.size] at hi;exact hi
 have RB:j < n:=by rw [Am,P.size] at hj;exact hj
 have e1:g p i=p.toList[i]:=gL (by rw [<- Ao];exact Ab hi);have e2:g p j=p.toList[j]:=gL (by rw [<- Ao];exact Ab hj);have:=P.inj i j d6 RB (by rw [e1,e2,e]);omega
theorem yO{p:Array Nat}{n v:Nat}(P:Pm p n)(h:v∈p.toList):v < n:=by
 obtain⟨i,hi⟩:=Ba h;have hl:i < n:=by have:=(Ac.mp hi).1;rw [Am,P.size] at this;exact this
 have e1:g p i=v:=gL (by rw [<- Ao];exact hi);rw [<- e1];exact P.lt i hl
theorem RC{p:Array Nat}{n:Nat}(P:Pm p n):p.toList.Perm (List.range n):=by
 rw [List.perm_ext_iff_of_nodup (HC P) KQ];intro v;rw [Cw];refine⟨λh=>yO P h,λh=>CN λhn=>?_⟩;have l1:p.toList.length<=((List.range n).erase v).length:=Nt.aU (HC P) λz hz=>by
  have aY:z≠v:=λe=>hn<|e ▸ hz;exact(Ek aY).mpr<|Cw.mpr<|yO P hz
 rw [Db<|Cw.mpr h,Am,P.size,Bf] at l1;omega
def Hd(h:Heap)(v:Value)(z:Str):Prop:=∃ a o xs n t,v = .ref a/\h.get? a=some o/\o.cls = .type "tuple"/\o.data = .seq xs n/\xs[0]?=some (.str z t)
theorem Hd.keep{h h':Heap}{v:Value}{z:Str}(x:Hd h v z)(k:∀ a o,v = .ref a->h.get? a=some o->h'.get? a=some o):Hd h' v z:=by
 obtain⟨a,o,xs,n,t,e,h1,h2⟩:=x;exact⟨a,o,xs,n,t,e,k a o e h1,h2⟩
def mI(h:Heap)(vs:List Value)(zs:List Str):Prop:=vs.length=zs.length/\∀(i:Nat) v z,vs[i]?=some v->zs[i]?=some z->Hd h v z
def ltZ(zs:List Str)(i j:Nat):Bool:=decide ((zs.getD i ⟨#[]⟩).cps.toList < (zs.getD j ⟨#[]⟩).cps.toList)
section
variable{prog:Program}{w:World}{A:Around}{E:Value->Shared->Prop}{s:Shared}
theorem HE:∀{h:Heap} {vs:List Value} {zs:List Str},mI h vs zs->∃ fs,KatTups h vs fs/\fs.length=vs.length/\∀ f∈fs,∃ z t,f=Value.str z t
 | h,[],_,_=>⟨[],KatTups.nil,rfl,λf hf=>by cases hf⟩
 | h,v :: vs,[],hh=>by have:=hh.1;simp at this
 | h,v :: vs,z :: zs,hh=>by
  obtain⟨fs,k1,k2,k3⟩:=HE (h:=h) (vs:=vs) (zs:=zs) ⟨by have:=hh.1;simpa using this,λi a b h1 h2=>hh.2 (i+1) a b (by simpa using h1)<|by simpa using h2⟩;obtain⟨a,o,xs,n,t,rfl,h1,h2,h3,h4⟩:=hh.2 0 v z rfl rfl;refine⟨.str z t :: fs,KatTups.cons h1 h2 h3 h4 k1,by rw [Ar,Ar,k2],λf hf=>?_⟩
  rcases Ax.mp hf with rfl | hf
  ·exact⟨z,t,rfl⟩
  ·exact k3 f hf
theorem RD{x y:Value}{z u:Str}{Q:Bool->Shared->Prop}(hx:Hd s.heap x z)(hy:Hd s.heap y u)(aY:z≠u)(h:Q (decide (z.cps.toList < u.cps.toList)) s):wpAny (model prog w) A (keyLt' (tuples' true) x y) Q E s:=by
 obtain⟨a,o,xs,n,t,rfl,h1,h2,h3,h4⟩:=hx;obtain⟨b,o',ys,n',t',rfl,g1,g2,g3,g4⟩:=hy;refine kat_lt h1 h3 g1 g3 ?_;have ex:∃ r,xs.toList = .str z t :: r:=by
  have:xs.toList[0]?=some (.str z t):=by rw [Ao];exact h4
  cases e:xs.toList with
  | nil=>rw [e] at this;cases this
  | cons c r=>rw [e] at this;cases this;exact⟨r,rfl⟩
 have ey:∃ r,ys.toList = .str u t' :: r:=by
  have:ys.toList[0]?=some (.str u t'):=by rw [Ao];exact g4
  cases e:ys.toList with
  | nil=>rw [e] at this;cases this
  | cons c r=>rw [e] at this;cases this;exact⟨r,rfl⟩
 obtain⟨rx,ex⟩:=ex;obtain⟨ry,ey⟩:=ey;rw [ex,ey];show KatLex prog w A true _ Q ((.str z t,.str u t') :: rx.zip ry) 0 s;refine kat_cons<|eqBool_str ?_;have:(z == u)=false:=beq_eq_false_iff_ne.mpr aY;rw [this];exact kat_no<|oneLt_str h
theorem HG{a b:Str}(h:a.cps.toList=b.cps.toList):a=b:=by
 apply Str.ext';exact Fs.mp h
theorem RE{vs:List Value}{zs:List Str}(hh:mI s.heap vs zs)(hn:zs.Nodup):du (ltZ zs) (kas_ask prog w A (tuples' true) vs) (λs'=>s'=s) vs.length:=by
 have hl:=hh.1;have gz:∀ i,(hi:i < zs.length)->zs.getD i ⟨#[]⟩=zs[i]:=λi hi=>by simp [hi]
 have gv:∀ i,(hi:i < vs.length)->vs.getD i Value.none=vs[i]:=λi hi=>by simp [hi]
 have ne:∀ i j,(hi:i < zs.length)->(hj:j < zs.length)->i≠j->zs[i]≠zs[j]:=λi j hi hj cS e=>by
  rcases Nat.lt_or_gt_of_ne cS with c | c
  ·exact Bg.mp (Cp.mp hn) i j hi hj c e
  ·exact Bg.mp (Cp.mp hn) j i hj hi c e.symm
 refine⟨λi j C s' hi hj cS hs hC=>?_,λi j hi hj cS=>?_,λi j h=>?_,λi j k h1 h2=>?_⟩
 ·subst hs;unfold kas_ask;rw [gv i hi,gv j hj];have e:ltZ zs i j=decide (zs[i].cps.toList < zs[j].cps.toList):=by unfold ltZ;rw [gz i (by omega),gz j<|by omega]
  refine RD (hh.2 i _ zs[i] (Ab hi)<|Ab<|by omega) (hh.2 j _ zs[j] (Ab hj)<|Ab<|by omega) (ne i j (by omega) (by omega) cS) ?_;rw [<- e];exact hC s' rfl
 ·unfold ltZ;rw [gz i (by omega),gz j (by omega),FJ,FJ]
  by_cases c:zs[i].cps.toList < zs[j].cps.toList
  ·exact .inl c
  ·by_cases d:zs[j].cps.toList < zs[i].cps.toList
   ·exact .inr d
   ·have:zs[i].cps.toList=zs[j].cps.toList:=List.le_antisymm (Gv.mp d)<|Gv.mp c;exact absurd (HG this)<|ne i j (by omega) (by omega) cS
 ·unfold ltZ at h ⊢;have:=CV h;exact BX λq=>Dp _<|Fw this q
 ·unfold ltZ at h1 h2 ⊢;exact CG<|Fw (CV h1)<|CV h2
theorem map_range(vs:List Value):(List.range vs.length).map (λi=>vs.getD i Value.none)=vs:=by
 apply KR
 ·simp
 ·intro i h1 h2;simp [h2]
theorem RF{a:Addr}{vs:List Value}{zs:List Str}{n:Nat}{P:Fin->Shared->Prop}(ho:s.heap.get? a=some (seqObj "list" vs.toArray n))(cC:∀ v∈vs,v ≠ .ref a)(hh:mI s.heap vs zs)(hn:zs.Nodup)(qE:vs.length < 64)
  (h:∀ p:Array Nat,Pm p vs.length->Up (ltZ zs) p vs.length->P (.done<|.ret .none) {s with heap:=sortedHeap s.heap a vs (List.toArray<|p.toList.map λi=>vs.getD i Value.none)}) :
  wpAny (model prog w) A (Builtin.«list.sort» ⟨[.ref a],[]⟩) P E s:=by
 rw [list_sort_plain];have ha:a < s.heap.objs.size:=Bd ho;have jV:vs.length<=sizeLine:=by rw [DQ];omega
 refine BL<|HW ho rfl ?_;refine BL<|FP ho rfl ?_;obtain⟨e1,kB⟩:∃ e1,(s.heap.update a<|Obj.mapSeq λ_=>#[]).get? a=some (seqObj "list" #[] e1):=⟨_,get?_update_seq ho λ_=>#[]⟩;refine BL<|GQ kB rfl ?_;refine BL<|wpAny_newTuple ?_;refine BL<|HD ?_;refine DR ?_;have ie:(((s.heap.update a<|Obj.mapSeq λ_=>#[]).push<|seqObj "tuple" vs.toArray 0).push<|seqObj "list" #[] 0).get? a=some (seqObj "list" #[] e1):=Ai _<|Ai _ kB;show wpAny (model prog w) A _ P E {s with heap:=((s.heap.update a<|Obj.mapSeq λ_=>#[]).push<|seqObj "tuple" vs.toArray 0).push (seqObj "list" #[] 0)};have mJ:mI (((s.heap.update a<|Obj.mapSeq λ_=>#[]).push<|seqObj "tuple" vs.toArray 0).push<|seqObj "list" #[] 0) vs zs:=⟨hh.1,λi v z h1 h2=>(hh.2 i v z h1 h2).keep λb o e q=>by
  have hb:a≠b:=λe2=>cC v (Au h1) (by rw [e,e2]);exact Ai _<|Ai _<|(Cq _ _ hb).trans q⟩
 dsimp only
 have hsz:vs.toArray.size=vs.length:=by simp
 by_cases h2:vs.toArray.size < 2
 ·rw [BK h2,BK h2];refine BL<|BW ?_;rw [StateT.run_pure];refine BL<|BW ?_
  dsimp only
  have e5:(arrOf<|SortSt.mk' general' (vs.toArray.zip vs.toArray) #[] 7 none).map (·.2)=vs.toArray:=by
   show(vs.toArray.zip vs.toArray).map (·.2)=_;apply Fs.mp;simp [KY]
  refine BL<|GQ ie rfl ?_;refine BL (FP ie rfl ?_ (hsz2:=by rw [e5,hsz];omega));simp only [GX,Ck,DN];refine BW ?_;rw [e5];have fin:=h (List.toArray<|List.range vs.length) (Hw _) λi j hi hj=>by rw [hsz] at h2;omega
  have e6:(List.toArray<|List.range vs.length).toList.map (λi=>vs.getD i Value.none)=vs:=map_range vs;rw [e6] at fin;exact fin
 ·rw [BJ h2,BJ h2];obtain⟨fs,k1,k2,k3⟩:=HE mJ;rw [hsz] at h2;refine BL<|kat_kind (T:= .type "str") k1 (by omega) (λf hf=>?_) (by decide) ?_
  ·obtain⟨z,t,rfl⟩:=k3 f hf;exact Looks.of_pure rfl
  refine BL<|CP (kat_run (prog:=prog) (w:=w) (A:=A) (E:=E) (κ:=tuples' true) (ks:=vs) (vs:=vs) (Q:=λai s'=>s'={s with heap:=((s.heap.update a<|Obj.mapSeq λ_=>#[]).push<|seqObj "tuple" vs.toArray 0).push (seqObj "list" #[] 0)}/\∃ p:Array Nat,Pm p vs.length/\Up (ltZ zs) p vs.length/\arrOf ai=p.map (kas_item<|vs.toArray.zip vs.toArray)/\failedOf ai=none)
   (G:=λp s'=>s'={s with heap:=((s.heap.update a<|Obj.mapSeq λ_=>#[]).push<|seqObj "tuple" vs.toArray 0).push (seqObj "list" #[] 0)}/\Pm p vs.length/\Up (ltZ zs) p vs.length) rfl (by omega) qE (λp ai s' _ a2 a3 a4=>⟨a4.1,p,a4.2.1,a4.2.2,a2,a3⟩)
   (RA (RE (s:={s with heap:=((s.heap.update a<|Obj.mapSeq λ_=>#[]).push<|seqObj "tuple" vs.toArray 0).push (seqObj "list" #[] 0)}) mJ hn) (by omega) rfl λp s' e P U=>⟨e,P,U⟩)) ?_ λ_ _ e=>e
  rintro ⟨⟨⟩,ai⟩ s' ⟨rfl,p,P,U,uG,hf⟩
  dsimp only
  have e3:=kat_snds (ks:=vs) (vs:=vs) rfl uG;refine BL<|GQ ie rfl ?_;refine BL (FP ie rfl ?_ (hsz2:=by rw [e3,An,Aa,Am,P.size];omega));rw [hf];simp only [GX,Ck,DN];refine BW ?_;rw [e3];exact h p P U
theorem RG{l:Addr}{vs:List Value}{zs:List Str}{Q:Value->Shared->Prop}(hl:s.heap.IsList l vs.toArray)(hh:mI s.heap vs zs)(hn:zs.Nodup)(qE:vs.length < 64)
  (h:∀(h':Heap) (e:Nat) (p:Array Nat),Pm p vs.length->Up (ltZ zs) p vs.length->(∀ b u,s.heap.get? b=some u->h'.get? b=some u)->h'.get? (s.heap.objs.size+1)=some (seqObj "list" (List.toArray<|p.toList.map λi=>vs.getD i Value.none) e)->Q (.ref<|s.heap.objs.size+1) {s with heap:=h'}) :
  wpAny (model prog w) A (call (.builtin "sorted") [.ref l]) Q E s:=by
 have jV:vs.length<=sizeLine:=by rw [DQ];omega
 refine Calls.call_function_entry kind_sorted plain_sorted entry_sorted (args_sorted1 _) ?_;unfold Builtin.«sorted»;refine BL (m:=checkCount "sorted" 1 1 _)<|BW ?_;refine BL<|collect_list (vs:=vs) hl ?_;refine BL<|HD ?_;have hsz:((s.heap.push<|seqObj "list" #[] 0).update s.heap.objs.size (Obj.mapSeq (·++vs.toArray))).objs.size=s.heap.objs.size+1:=by
  rw [KC,size_push']
 have i':(((s.heap.push<|seqObj "list" #[] 0).update s.heap.objs.size (Obj.mapSeq (·++vs.toArray))).push<|seqObj "list" vs.toArray 0).get? (s.heap.objs.size+1)=some (seqObj "list" vs.toArray 0):=by
  rw [<- hsz];exact Bp _ rfl
 have yP:mI (((s.heap.push<|seqObj "list" #[] 0).update s.heap.objs.size (Obj.mapSeq (·++vs.toArray))).push<|seqObj "list" vs.toArray 0) vs zs:=⟨hh.1,λi v z h1 h2=>(hh.2 i v z h1 h2).keep λb o e q=>
  Ai _ ((Cq _ _<|Dx<|Bd q).trans<|Ai _ q)⟩
 have aY:∀ v∈vs,v ≠ .ref (s.heap.objs.size+1):=λv hv e=>by
  obtain⟨i,hi⟩:=Ba hv;have hl:=hh.1;have qF:i < zs.length:=by have:=(Ac.mp hi).1;omega
  obtain⟨b,o,xs,n,t,e2,h1,_⟩:=hh.2 i v zs[i] hi<|Ab qF;rw [e2] at e;cases e;exact absurd (JR<|Bd h1)<|Cs _
 show wpAny _ _ _ _ _ {s with heap:=((s.heap.push<|seqObj "list" #[] 0).update s.heap.objs.size (Obj.mapSeq (·++vs.toArray))).push (seqObj "list" vs.toArray 0)};rw [hsz];refine BL<|DR<|wpAny_call_entry slot_list_sort ⟨_,i',rfl⟩ entry_list_sort (RF i' aY yP hn qE λp P U=>⟨_,rfl,?_⟩)<|args_list_sort _;obtain⟨e,he⟩:=sortedAll_at s.heap vs<|List.toArray<|p.toList.map λi=>vs.getD i Value.none;exact BW ⟨_,rfl,h _ e p P U (λb u hb=>JK hb) he⟩
end
end bX
namespace L2
open PySem PySem.Spec PyProof.Rows bX
theorem yQ:∀{ts:List Addr} {its:List Value},aq (ts.map V.ref) its->its=ts.map Value.ref
 | [],its,r=>r.zero
 | t :: ts,its,r=>by
  cases r with
  | cons h1 h2=>
   rw [yQ h2];have:_=Value.ref t:=h1;rw [this];rfl
theorem yR:∀(ts:List Addr),aq (ts.map V.ref)<|ts.map Value.ref
 | []=> .nil
 | t :: ts=> .cons rfl (yR ts)
theorem RH{α β:Type}(xs:List α)(ys:List β)(h:xs.length=ys.length)(a:α)(b:β):(List.range xs.length).map (λi=>(xs.getD i a,ys.getD i b))=xs.zip ys:=by
 apply KR
 ·simp [h]
 ·intro i h1 h2;have hx:i < xs.length:=by simp at h1;exact h1
  have hy:i < ys.length:=by omega
  simp [hx,hy]
section
variable{X:Cx}{σ:St}{H:Hp}
theorem RJ:fq X (.builtin "sorted") (λxs H Q=>∃(l:Addr) (ts:List Addr) (zs:List Str),xs=[.ref l]/\ak X.K H l (ts.map V.ref)/\ts.length=zs.length/\zs.Nodup/\ts.length < 64/\(∀(i:Nat) t z,ts[i]?=some t->zs[i]?=some z->∃ r,H t=some (.tup<|.str z :: r)) /\
  ∀(r:Addr) (ps:List<|Addr×Str),H r=none->ps.Perm (ts.zip zs)->ps.Pairwise (λa b=>a.2.cps.toList < b.2.cps.toList)->Q (.ref r) (upd H r<|.lst<|ps.map λp=> .ref p.1)):=by
 intro pins s σ H xs us Q I r h;obtain⟨l,ts,zs,rfl,hl,hlen,hn,qE,hd,q⟩:=h;obtain⟨u,rfl,ru⟩:=vals1 r;cases (show u=Value.ref l from ru);obtain⟨its,rv,pl,_⟩:=I.list hl;have ei:=yQ rv;subst ei;have hh:mI s.heap (ts.map Value.ref) zs:=by
  refine⟨by rw [Aa];exact hlen,λi v z h1 h2=>?_⟩;rw [Ad,Ap] at h1;obtain⟨t,ht,rfl⟩:=h1;obtain⟨rr,hr⟩:=hd i t z ht h2;obtain⟨its,r3,tp,_⟩:=I.tuple<|aK.of hr;cases r3 with
  | cons a1 a2=>
   obtain⟨tk,rfl⟩:=a1;obtain⟨o,ho,hc,n,hd2⟩:=tp;exact⟨t,o,_,n,tk,rfl,ho,hc,hd2,rfl⟩
 refine RG pl.isList hh hn (by rw [Aa];exact qE) λh' e p P U kp he=>?_;rw [Aa] at P U;have gp:∀ i,i < ts.length->g p i < ts.length:=P.lt;have yS:p.toList.length=ts.length:=by rw [Am];exact P.size
 have e1:(p.toList.map λi=>(ts.map Value.ref).getD i Value.none)=((p.toList.map λi=>(ts.getD i 0,zs.getD i ⟨#[]⟩)).map λx=>x.1).map Value.ref:=by
  rw [Be,Be];refine Bk λi hi=>?_;have aE:=yO P hi;show(ts.map Value.ref).getD i Value.none=Value.ref (ts.getD i 0);simp [aE]
 refine⟨.ref _,_,I.f9 (s':={s with heap:=h'}) kp rfl rfl (Ef _) (show ax X.prog X.w _ h' _ (.lst<|(p.toList.map λi=>(ts.getD i 0,zs.getD i ⟨#[]⟩)).map λx=>V.ref x.1) from ?_),rfl,q _ (p.toList.map λi=>(ts.getD i 0,zs.getD i ⟨#[]⟩)) (I.aB.fresh<|Ef _) ?_ ?_⟩
 ·refine⟨by rw [Aa,Aa,yS,DQ];omega,_,e,?_,he⟩;rw [e1];have:=yR<|(p.toList.map λi=>(ts.getD i 0,zs.getD i (⟨#[]⟩:Str))).map λx=>x.1;rw [Be] at this;exact this
 ·rw [<- RH ts zs hlen 0 ⟨#[]⟩];exact(RC P).map _
 ·rw [Bg];intro i j hi hj cS;rw [Aa] at hi hj;have:=U i j cS (by omega);have q1:g p i=p.toList[i]:=gL (by rw [<- Ao];exact Ab hi);have q2:g p j=p.toList[j]:=gL (by rw [<- Ao];exact Ab hj);rw [q1,q2] at this;rw [KZ,KZ];exact CV this
theorem om{e1 e2 e3:Expr}{k:Nat}{pos:Pos}{t:Addr}{x y z:V}{R:St->Hp->Prop}(hc:X.calm=true)(ht:aK X.K H t [x,y,z])(h:Eg X e1 x σ H λσ1 H1=>Eg X e2 y σ1 H1 λσ2 H2=>Eg X e3 z σ2 H2 R)
  (hn:(assignEach [e1,e2,e3] X.env).length=3:=by rfl) (cY:(assignEach [e1,e2,e3] X.env).findIdx? (·.1)=none:=by rfl)
  (mB:(assignEach [e1,e2,e3] X.env).map (·.2)=assign e1 X.env :: (assignEach [e2,e3] X.env).map (·.2):=by rfl) (nE:(assignEach [e2,e3] X.env).map (·.2)=assign e2 X.env :: (assignEach [e3] X.env).map (·.2):=by rfl) (tR:(assignEach [e3] X.env).map (·.2)=assign e3 X.env :: (assignEach [] X.env).map (·.2):=by rfl) :
  Eg X (.Tuple [e1,e2,e3] k pos) (.ref t) σ H R:=
 wZ (CL (t:=nA (λv σ H Q=>Eg X e1 v σ H Q)<|nA (λv σ H Q=>Eg X e2 v σ H Q)<|nA (λv σ H Q=>Eg X e3 v σ H Q) lj) hc (o9 lS (o9 lS (o9 lS CI tR) nE) mB) hn cY)
  ⟨t,_,rfl,ht,rfl,_,_,rfl,h.mono λσ1 H1 h1=>⟨_,_,rfl,h1.mono λσ2 H2 h2=>⟨_,_,rfl,h2.mono λσ3 H3 q=>⟨rfl,q⟩⟩⟩⟩
end
end L2
namespace W6
open PySem L2 Nt a6
def uH:Sp:=λvs H Q _=>∃(R:Addr) (as:List<|Addr×Addr) (n:Net),vs=[.ref R]/\aj H R as n/\n.length<=1000/\∀ L jj H',ag H H'->H L=none->(∀ a∈jj,H a.1=none/\H a.2=none)->aj H' L jj n->Q (.ref L) H'
section
variable{P:Program}{w:World}{K:PySem.W.Frag}{mg:Str->Option Value}{base:Heap}
theorem kP{H H':Hp}{l:Addr}(s:ag H H')(h:H' l=none):H l=none:=by
 cases e:H l with
 | none=>rfl
 | some v=>rw [s _ _ e] at h;cases h
abbrev NC:List Str:=["_law_rows"]
abbrev HH:List Str:=["_law_rows","_law_row"]
theorem iN:au NC ["_law_rows"] (aV uk):=⟨rfl,rfl,rfl,by decide +kernel,rfl,by decide +kernel,by decide +kernel⟩
theorem yT:HH.Nodup:=by decide +kernel
theorem RK{f:Addr}{fd:FuncData}(F:bz K "_law_copy" "_law_copy" uk f fd)(T:Txt mg):aC P w K mg base bp 1 f fd ["_law_rows"] uH:=by
 refine F.gb iN (λvs H Q E h=>?_) λb0 H vs Q E hr h=>?_
 ·obtain⟨R,as,n,rfl,_⟩:=h;rfl
 obtain⟨R,as,n,rfl,hR,hn,q⟩:=h;have nd:=iN.nd;have cC:=hR.len;show Run _ _ _ [some<|.ref R] H;refine cq<|jf (aV uk) NC HH 1 (ja a5)<|af 0 ⟨R,rfl,⟨_,ak.of hR.lst⟩,λD hD=>?_⟩;refine jR (xs:=as.map λa=>V.ref a.1) (λi σ' H'=>(∃ v,σ'=[some<|.ref R]++[v])/\∃ bs:List<|Addr×Addr,bs.length=i/\H' D=some (.lst<|bs.map λa=> .ref a.1) /\
  (∀(j:Nat) a r,bs[j]?=some a->n[j]?=some r->H' a.1=some (.tup [.str r.1,.ref a.2])/\H' a.2=some (Ls r.2))/\(bs.map (·.2)).Nodup/\(∀ a∈bs,a.2≠D/\H a.1=none/\H a.2=none/\∃ zs,H' a.2=some (Ls zs))/\ag H H')
  ⟨⟨none,rfl⟩,[],rfl,ae,λj a r h=>by simp at h,Dg,λa h=>by simp at h,aQ hD _⟩ ?_ ?_ ?_
 ·rintro i σ' H' _ ⟨_,bs,_,_,_,_,_,sm⟩;exact ak.of<|sm _ _ hR.lst
 ·rintro i x σ' H' hx ⟨⟨v,rfl⟩,bs,yU,iO,yV,yW,oo,sm⟩;have hi:i < n.length:=by
   have:=(Ac.mp hx).1;rw [Aa] at this;omega
  obtain⟨a,ea,eC,et,el,er⟩:=(hR.same sm).at hi;rw [Ad,ea] at hx;cases hx;intro cl C' s₀ H₀ ex;refine aW 1 yT ?_;intro cl C' s₀ H₀ ex;refine fZ ?_;rw [BK rfl];intro cl C' s₀ H₀ ex;refine dZ<|ao<|aS cW<|af 1<|ay ⟨a.1,_,_,.str n[i].1,rfl,rfl,aK.of et,rfl,?_⟩;refine ao<|pW M1 T.ga GR<|ao<|aS cW<|af 1<|ay ⟨a.1,_,_,.ref a.2,rfl,rfl,aK.of et,rfl,?_⟩;refine aw ⟨a.2,_,rfl,.inl<|ak.of el,λl hl=>aw ⟨Z2,λt ht=>?_⟩⟩;have fY:=kP sm hl;have yX:t≠l:=λe=>by rw [e,ae] at ht;cases ht
  have bR:H' t=none:=by rw [av yX] at ht;exact ht
  have HI:=kP sm bR;have oq:l≠D:=λe=>by rw [e] at hl;rw [hl] at iO;cases iO
  have ou:t≠D:=λe=>by rw [e] at bR;rw [bR] at iO;cases iO
  refine⟨bs.map λa=> .ref a.1,?_,?_,⟨_,rfl⟩,bs++[(t,l)],by rw [Ae,yU];rfl,?_,?_,?_,?_,?_⟩
  ·rw [av<|Ne.symm ou,av<|Ne.symm oq];exact iO
  ·rw [Aa];exact bQ<|by omega
  ·rw [ae,Ag];rfl
  ·intro j b r hb gK
   by_cases hj:j < bs.length
   ·rw [Bb hj] at hb;obtain⟨q1,q2⟩:=yV j b r hb gK;have RL:=(oo b<|Au hb).1;have n1:b.1≠D:=en q1 iO λz=>nomatch z;refine⟨?_,?_⟩
    ·rw [av n1,av<|bC q1 bR,av<|bC q1 hl];exact q1
    ·rw [av RL,av<|bC q2 bR,av<|bC q2 hl];exact q2
   ·rw [Az<|by omega] at hb;have dL:j - bs.length=0:=by
     have:=(Ac.mp hb).1;simp at this;omega
    have qG:j=i:=by omega
    rw [dL] at hb;cases hb;rw [qG,Ab hi] at gK;cases gK;refine⟨?_,?_⟩
    ·rw [av ou,ae]
    ·rw [av oq,av<|Ne.symm yX,ae,er]
  ·rw [Ag];refine kq yW λhm=>?_;obtain⟨b,hb,e⟩:=At.mp hm;obtain⟨_,_,_,zs,q⟩:=oo b hb;have e':b.2=l:=e;rw [e',hl] at q;cases q
  ·intro b hb
   rcases Al.mp hb with hb | hb
   ·obtain⟨q1,q2,q3,zs,q4⟩:=oo b hb;refine⟨q1,q2,q3,zs,?_⟩;rw [av q1,av<|bC q4 bR,av<|bC q4 hl];exact q4
   ·rw [Af.mp hb];refine⟨oq,HI,fY,row n i,?_⟩;rw [av oq,av<|Ne.symm yX,ae]
  ·intro c o hc;rw [av<|bC hc hD,av<|bC hc HI,av<|bC hc fY];exact sm _ _ hc
 ·rintro σ' H' ⟨_,bs,yU,iO,yV,yW,oo,sm⟩;rw [Aa] at yU;exact q D bs H' sm hD (λa ha=>⟨(oo a ha).2.1,(oo a ha).2.2.1⟩) ⟨by omega,iO,yV,yW⟩
theorem yY{n:Net}{r p:Nat}{z:Str}(hr:r < n.length)(hz:(row n r)[p]?=some z):∃ rest,bG n=(bG (n.take r)++bF r ((row n r).take p) 0)++(z,(r,p)) :: rest:=by
 have e1:bG n=bG (n.take<|r+1)++fj (0+(n.take<|r+1).length) (n.drop<|r+1):=by
  have:=xM (n.take<|r+1) (n.drop<|r+1) 0;rw [Bw] at this;exact this
 have e2:bF r (row n r) 0=bF r ((row n r).take<|p+1) 0++bF r ((row n r).drop<|p+1) (0+((row n r).take<|p+1).length):=by
  unfold bF;rw [<- Ag,<- List.zipIdx_append,Bw]
 rw [e1,ub hr,e2,uc hz];refine⟨bF r ((row n r).drop<|p+1) (0+((row n r).take<|p+1).length)++fj (0+(n.take<|r+1).length) (n.drop<|r+1),?_⟩;simp only [Aw,List.cons_append,Gq]
abbrev T3(x:Lk):HO:= .tup [.str x.1,.str x.2.1,.str x.2.2]
def e8(H:Hp)(us:List Addr)(ls:List Lk):Prop:=us.length=ls.length/\∀(j:Nat) u x,us[j]?=some u->ls[j]?=some x->H u=some (T3 x)
theorem e8.keep{H H':Hp}{us:List Addr}{ls:List Lk}(h:e8 H us ls)(k:∀ t xs,H t=some (.tup xs)->H' t=some (.tup xs)):e8 H' us ls:=⟨h.1,λj u x h1 h2=>k _ _<|h.2 j u x h1 h2⟩
theorem e8.snoc{H:Hp}{us:List Addr}{ls:List Lk}{u:Addr}{x:Lk}(h:e8 H us ls)(hu:H u=some (T3 x)):e8 H (us++[u]) (ls++[x]):=by
 refine⟨by rw [Ae,Ae,h.1];rfl,λj v y h1 h2=>?_⟩;have hl:=h.1
 by_cases hj:j < us.length
 ·rw [Bb hj] at h1;rw [Bb<|by omega] at h2;exact h.2 j v y h1 h2
 ·rw [Az<|by omega] at h1 h2;have dL:j - us.length=0:=by
   have:=(Ac.mp h1).1;simp at this;omega
  rw [dL] at h1;rw [<- hl,dL] at h2;cases h1;cases h2;exact hu
def ow(ls:List Lk):Prop:=ls.Pairwise λx y=>x.1.cps.toList < y.1.cps.toList
def qH:Sp:=λvs H Q _=>∃(R:Addr) (as:List<|Addr×Addr) (n:Net),vs=[.ref R]/\aj H R as n/\cv n/\n.length<=1000/\(ah n).length<=60 /\
 ∀(L:Addr) (us:List Addr) (ls:List Lk) (H':Hp),ag H H'->H L=none->H' L=some (.lst<|us.map V.ref)->e8 H' us ls->ow ls->(∀ x,x∈ls↔iJ n x)->ls.length<=60->Q (.ref L) H'
theorem HK{n:Net}(T:cv n){r p:Nat}{z:Str}(hr:r < n.length)(hz:(row n r)[p]?=some z):(b4 (bG (n.take r)++bF r ((row n r).take p) 0) z).length<=1:=by
 obtain⟨rest,h⟩:=yY hr hz;have h1:b4 (bG n) z=b4 (bG (n.take r)++bF r ((row n r).take p) 0) z++(r,p) :: b4 rest z:=by
  rw [h];unfold b4;rw [Ez,Ag,List.filter_cons_of_pos<|by simp];rfl
 have h2:(b4 (bG n) z).length=2:=by
  have:=l3 n z;rw [T z<|nY (e:=(r,p)) hz] at this;exact this
 rw [h1,Ae,Ar] at h2;omega
abbrev RM:List Str:=["rows","met","links","point","ties","tie"]
theorem qI:au RM ["rows"] (aV xP):=⟨rfl,rfl,rfl,by decide +kernel,rfl,by decide +kernel,by decide +kernel⟩
theorem RN{f:Addr}{fd:FuncData}(F:bz K "links_of" "links_of" xP f fd)(T:Txt mg):aC P w K mg base bp 1 f fd ["rows"] qH:=by
 refine F.gb qI (λvs H Q E h=>?_) λb0 H vs Q E hr h=>?_
 ·obtain⟨R,as,n,rfl,_⟩:=h;rfl
 obtain⟨R,as,n,rfl,hR,hT,hn,kQ,q⟩:=h;have nd:=qI.nd;have cC:=hR.len;have hu:=hr.u1;show Run _ _ _ [some<|.ref R,none,none,none,none,none] H;refine run_set 1 nd<|tY λdm n9=>?_;refine run_set 2 nd<|dH<|aw ⟨Z0,λM hM=>?_⟩;have jn:M≠dm:=λe=>by rw [e,ae] at hM;cases hM
 have qJ:H M=none:=by rw [av jn] at hM;exact hM
 have s0:ag H (upd (upd H dm<|.dK []) M<|.lst []):=(aQ n9 _).trans<|aQ hM _;have qK:(upd (upd H dm<|.dK []) M<|.lst []) dm=some (.dK []):=by rw [av<|Ne.symm jn,ae]
 have qL:(upd (upd H dm<|.dK []) M<|.lst []) M=some (.lst []):=ae;show Run _ _ _ [some<|.ref R,some<|.ref dm,some<|.ref M,none,none,none] (upd (upd H dm<|.dK []) M<|.lst []);generalize upd (upd H dm<|.dK []) M (.lst [])=H0 at s0 qK qL;have yZ:(bG n).length=(ah n).length:=by rw [<- nX n 0,Aa];rfl
 refine jd<|af 0 ⟨R,rfl,⟨_,ak.of<|s0 _ _ hR.lst⟩,je (xs:=as.map λa=>V.ref a.1) (λr σ H'=>∃(kM:List<|Key×V) (us:List Addr) (ls:List Lk) (u1 u2 u3:Option V),ag H H'/\H' dm=some (.dK kM)/\H' M=some (.lst<|us.map V.ref)/\e8 H' us ls/\gq n (bG<|n.take r) kM ls/\σ=[some<|.ref R,some<|.ref dm,some<|.ref M,u1,u2,u3])
  ⟨[],[],[],_,_,_,s0,qK,qL,⟨rfl,λj u x h=>by simp at h⟩,gq.start n,rfl⟩ ?_ ?_ ?_⟩
 ·rintro r σ H' _ ⟨_,_,_,_,_,_,sm,_⟩;exact ak.of<|sm _ _ hR.lst
 ·rintro r x σ H' hx ⟨kM,us,ls,u1,u2,u3,sm,ed,eM,bW,I,rfl⟩;have hi:r < n.length:=by
   have:=(Ac.mp hx).1;rw [Aa] at this;omega
  obtain⟨a,ea,eC,et,el,er⟩:=(hR.same sm).at hi;rw [Ad,ea] at hx;cases hx;refine oa rfl (aK.of et) (aW 3 nd<|aW 4 nd ?_);refine jd<|af 4 ⟨a.2,rfl,⟨_,ak.of el⟩,je (xs:=(row n r).map V.str) (λp σ cM=>∃(kM:List<|Key×V) (us:List Addr) (ls:List Lk) (u3:Option V),ag H cM/\cM a.2=some (Ls<|row n r)/\cM dm=some (.dK kM)/\cM M=some (.lst<|us.map V.ref)/\e8 cM us ls/\gq n (bG (n.take r)++bF r ((row n r).take p) 0) kM ls/\σ=[some<|.ref R,some<|.ref dm,some<|.ref M,some<|.str n[r].1,some<|.ref a.2,u3])
   ⟨kM,us,ls,_,sm,el,ed,eM,bW,by simpa [bF] using I,rfl⟩ ?_ ?_ ?_⟩
  ·rintro p σ cM _ ⟨_,_,_,_,_,e,_⟩;exact ak.of e
  ·rintro p x σ cM hx ⟨kM,us,ls,u3,sm,el,ed,eM,bW,I,rfl⟩;have hp:p < (row n r).length:=by
    have:=(Ac.mp hx).1;rw [Aa] at this;exact this
   have hz:(row n r)[p]?=some (row n r)[p]:=Ab hp;rw [Ad,hz] at hx;cases hx;have mB:=uc (r:=r) hz;have hle:=HK hT hi hz;have bL:(bG (n.take r)++bF r ((row n r).take p) 0).length<=60:=by
    obtain⟨rest,qM⟩:=yY hi hz;have h1:=BZ List.length qM;simp only [Ae] at h1 ⊢;omega
   have lM:=I.mz;have lL:=I.jQ;have lA:=bW.1;have HL:bv n r=n[r].1:=kH hi;have RO:a.2≠M:=λe=>by
    have:=(hR.tup r a n[r] ea<|Ab hi).2;rw [e,qJ] at this;cases this
   generalize (row n r)[p]=z at hz mB hle;refine aW 5 nd ?_;refine d0<|tZ hu<|af 5<|af 1 ⟨dm,_,rfl,bO.k (k:=Sum.inr z) ed,?_⟩;cases qN:b4 (bG (n.take r)++bF r ((row n r).take p) 0) z with
   | nil=>
    rw [I.m0 z qN];show if false=true then _ else _;rw [BJ<|by decide];refine xG hu<|af 3<|af 1<|af 5 ⟨dm,_,rfl,cQ.k (k:=Sum.inr z) ed (bQ<|by omega),aP<|aP ⟨_,us,ls,_,cL sm n9,?_,ae,?_,bW.keep λt xs h=>?_,?_,rfl⟩⟩
    ·rw [av<|en el ed λz=>nomatch z];exact el
    ·rw [av jn];exact eM
    ·rw [av<|en h ed λz=>nomatch z];exact h
    ·rw [mB,<- Aw];have:=I.new (e:=(r,p)) qN;show gq n _ (putK kM (Sum.inr z)<|.str n[r].1) ls;rw [<- HL];exact this
   | cons b rest=>
    have y4:rest=[]:=by
     rw [qN] at hle;exact Bt.mp<|by have:rest.length+1<=1:=hle;omega
    subst y4;have vm:=I.m1 z b [] qN;rw [vm];show if true=true then _ else _;rw [BK rfl];refine fD (jM<|af 2 ⟨M,rfl,⟨_,eM⟩,dZ<|ao<|af 5<|ao<|lZ hu<|af 1<|af 5 ⟨dm,.str<|bv n b.1,rfl,by rw [<- vm];exact bO.k (k:=Sum.inr z) ed,ao<|af 3<|aw ⟨Z3,λt ht=>?_⟩⟩⟩);have sT:=aQ ht<|.tup [.str z,.str<|bv n b.1,.str n[r].1];have V6:t≠M:=λe=>by rw [e,eM] at ht;cases ht
    have RP:(upd cM t<|.tup [.str z,.str<|bv n b.1,.str n[r].1]) t=some (T3 (z,bv n b.1,bv n (r,p).1)):=by
     rw [ae];show _=some (HO.tup [.str z,.str<|bv n b.1,.str<|bv n r]);rw [HL]
    have kT:∀ c xs,(upd cM t<|.tup [.str z,.str<|bv n b.1,.str n[r].1]) c=some (.tup xs)->(upd (upd cM t<|.tup [.str z,.str<|bv n b.1,.str n[r].1]) M<|.lst<|us.map V.ref++[.ref t]) c=some (.tup xs):=λc xs h=>by
     rw [av<|en h (sT _ _ eM) λz=>nomatch z];exact h
    refine⟨_,sT _ _ eM,by rw [Aa];exact bQ (by omega),aP<|aP ⟨kM,us++[t],ls++[(z,bv n b.1,bv n (r,p).1)],_,cL (sm.trans sT) qJ,?_,?_,?_,?_,?_,rfl⟩⟩
    ·rw [av RO];exact sT _ _ el
    ·rw [av<|Ne.symm jn];exact sT _ _ ed
    ·rw [ae,Ag];rfl
    ·exact((bW.keep λc xs h=>sT _ _ h).snoc RP).keep kT
    ·rw [mB,<- Aw];exact I.old (e:=(r,p)) qN
  ·rintro σ cM ⟨kM,us,ls,u3,sm,_,ed,eM,bW,I,rfl⟩;rw [Aa,Bi] at I;refine aP ⟨kM,us,ls,_,_,_,sm,ed,eM,bW,?_,rfl⟩;rw [ub hi];exact I
 ·rintro σ H' ⟨kM,us,ls,u1,u2,u3,sm,ed,eM,bW,I,rfl⟩;rw [Aa,cC,Bi] at I;have lL:=I.jQ;have lA:=bW.1;have aE:us.length < 64:=by omega
  refine cq (b9 RJ T.sorted FZ (ao (af 2 (aw ⟨M,us,ls.map (·.1),rfl,ak.of eM,by rw [Aa];exact lA,I.ik,aE,λi t z h1 h2=>?_,λL ps hL hp hs=>?_⟩))))
  ·rw [Ad,Ap] at h2;obtain⟨x,hx,rfl⟩:=h2;exact⟨_,bW.2 i t x h1 hx⟩
  have pick:∀ p∈ps,∃ x,x∈ls/\x.1=p.2/\H' p.1=some (T3 x):=λp tU=>by
   have hz:=hp.mem_iff.mp tU;obtain⟨i,hi⟩:=Ba hz;rw [Ec] at hi;obtain⟨h1,h2⟩:=hi;rw [Ad,Ap] at h2;obtain⟨x,hx,e⟩:=h2;exact⟨x,Au hx,e,bW.2 i _ x h1 hx⟩
  obtain⟨xs,gs⟩:∃ xs:List Lk,xs.length=ps.length/\∀(j:Nat) p x,ps[j]?=some p->xs[j]?=some x->x∈ls/\x.1=p.2/\H' p.1=some (T3 x):=by
   clear hs hp
   induction ps with
   | nil=>exact⟨[],rfl,λj p x h=>by simp at h⟩
   | cons p r ih=>
    obtain⟨x,q1,q2,q3⟩:=pick p<|Ak ..;obtain⟨xs,l1,l2⟩:=ih λc hc=>pick c<|Aq _ hc;refine⟨x :: xs,by rw [Ar,Ar,l1],λj c y h1 h2=>?_⟩;cases j with
    | zero=>
     cases h1;cases h2;exact⟨q1,q2,q3⟩
    | succ j=>exact l2 j c y (by simpa using h1)<|by simpa using h2
  obtain⟨lx,gs⟩:=gs;have lp:ps.length=ls.length:=by rw [hp.length_eq,Di,Aa];omega
  have sL:=aQ hL<|.lst<|ps.map λp=> .ref p.1;have HM:ow xs:=by
   unfold ow;rw [Bg];intro i j hi hj cS;have a1:=(gs i ps[i] xs[i] (Ab<|by omega)<|Ab hi).2.1;have a2:=(gs j ps[j] xs[j] (Ab<|by omega)<|Ab hj).2.1;rw [a1,a2];exact Bg.mp hs i j (by omega) (by omega) cS
  have mK:(xs.map (·.1)).Nodup:=by
   rw [Cp,Ep];exact HM.imp λh e=>by rw [e] at h;exact Dp _ h
  have fG:∀ x,x∈xs↔x∈ls:=λx=>by
   constructor
   ·intro h;obtain⟨j,hj⟩:=Ba h;have oh:=(Ac.mp hj).1;exact(gs j ps[j] x (Ab<|by omega) hj).1
   ·intro h;refine CN λhn=>?_;have y7:xs.Nodup:=by
     rw [Cp] at mK ⊢;rw [Ep] at mK;exact mK.imp λh e=>h<|by rw [e]
    have:=aU y7 (b:=ls.erase x) λz hz=>by
     have RQ:z∈ls:=by
      obtain⟨j,hj⟩:=Ba hz;have oh:=(Ac.mp hj).1;exact(gs j ps[j] z (Ab<|by omega) hj).1
     exact(Ek λe:z=x=>hn<|e ▸ hz).mpr RQ
    rw [Db h] at this;have:0 < ls.length:=Ey h;omega
  refine q L (ps.map (·.1)) xs _ (sm.trans sL) (kP sm hL) (by rw [ae,Be];rfl) ⟨by rw [Aa];omega,λj u x h1 h2=>?_⟩ HM (λx=>by rw [fG x];exact I.whole hT x) (by omega);rw [Ad,Ap] at h1;obtain⟨p,iL,rfl⟩:=h1;exact sL _ _ (gs j p x iL h2).2.2
end
end W6
namespace L2
open PySem PySem.Spec PyProof.Rows
section
variable{X:Cx}{σ:St}{H:Hp}{Q:VK}
theorem RT{k v:Expr}{pos:Pos}(hu:X.A.units+1 < cLine)(h:∀ d,H d=none->Ev X k σ (upd H d<|.dK []) λy H1=>Ev X v σ H1 λx H2=>∃ H3,cQ H2 d y x H3/\Q (.ref d) H3):Ev X (.Dict [some k] [v] pos) σ H Q:=by
 refine⟨λpins s I=>wpAny_Dict_any rfl rfl (by simp) (by show 1<=15;decide) ?_⟩;have I0:Inv X pins σ (upd H s.heap.objs.size<|.dK []) {s with heap:=s.heap.push {cls:= .type "dict",data:= .dict #[]}}:=I.laid (a:=s.heap.objs.size) (o:= .dK []) (t':=s.toks) (λ_ _ q=>Ai _ q) (Ah _)<|wN s.heap I.big;show wpAny _ _ (evalPairs [(eval k X.env,do let x <- eval v X.env;standAt pos;pure x)]) _ _ _;unfold evalPairs;refine BL<|aD ((h _ I.fresh).run pins _ I0) λkv s1 ⟨y,H1,I1,r1,h1⟩=>?_;refine BL<|DR<|BL<|aD (h1.run pins s1 I1) λvv s2 ⟨x,H2,I2,r2,H3,dp,q⟩=>?_;refine BL<|GJ<|BW ?_;unfold evalPairs;refine BL<|DR<|BW<|BW ?_;unfold storeAll;rw [Go];refine BL<|BL<|Hu hu I2 dp r1 r2 λs' I'=>BW ?_;exact BW ⟨.ref _,H3,I',rfl,q⟩
end
open bP
section
variable{prog:Program}{w:World}{A:Around}{E:Value->Shared->Prop}{s:Shared}{T:String}{r d:Addr}{n:Nat}{P:Nat->Value->Prop}{OK:Heap->Prop}
end
section
variable{X:Cx}
end
end L2
namespace L2
open PySem PySem.Spec PyProof.Rows
section
def y8(K:PySem.W.Frag)(l:Addr):It:=
  ⟨λi H => ∃ xs x, ak K H l xs ∧ xs[i]? = some x,
   λi H v H'=>∃ T x,H T=none/\v = .ref T/\H'=upd H T (.tup [.int (i:Int),x])/\∀ xs,ak K H l xs->xs[i]?=some x,
   λi H=>∃ xs,ak K H l xs/\xs.length<=i⟩
def RU(m l:Addr)(i:Nat)(h:Heap):Prop:=(∃ old,IsEnum h (m+1) m (i:Int) old)/\h.IsListIter m l i
theorem RV{P:Program}{w:World}{K:PySem.W.Frag}{elts:List Expr}{k:Nat}{tp:Pos}(m l:Addr):Turn P w K (.Tuple elts k tp) (y8 K l) [m,m+1] (m+1) (RU m l) where
 mem:=by simp
 obj:=λi h st c hc=>by
  obtain⟨⟨old,z1⟩,⟨o4,e4,c4,d4⟩⟩:=st;simp only [Ax,Dl,PX] at hc
  rcases hc with rfl | rfl
  ·exact⟨_,e4,λv z=>by rw [d4] at z;cases z⟩
  ·exact⟨_,z1,λv z=>by cases z⟩
 keep:=λi h h' st kp=>by
  obtain⟨⟨old,z1⟩,⟨o4,e4,r4⟩⟩:=st;exact⟨⟨old,kp _ (by simp) _ z1⟩,⟨o4,kp _ (by simp) _ e4,r4⟩⟩
 item:=by
  intro X hP hw hK hc i pins s σ H E I hf st hg;subst hP hw hK;obtain⟨xs,x,gs,hx⟩:=hg;obtain⟨qO,uI,p1,HP⟩:=I.list gs;obtain⟨u1,cT,RW⟩:=uI.get hx;obtain⟨⟨old,z1⟩,z4⟩:=id st;refine wpAny_pyNext_enum_item z1 z4 p1.isList (x:=u1) (by simpa using cT) (by simp) λh' a1 a2 a3 a4 kp=>?_;have hT:H s.heap.objs.size=none:=I.aB.fresh<|Ah _;have nT:∀ c∈[m,m+1],c≠s.heap.objs.size:=λc cX=>by
   have:∃ o,s.heap.get? c=some o:=by
    obtain⟨o4,e4,_⟩:=z4;simp only [Ax,Dl,PX] at cX
    rcases cX with rfl | rfl
    ·exact⟨_,e4⟩
    ·exact⟨_,z1⟩
   obtain⟨o,e⟩:=this;exact Cu<|Bd e
  have I1:Inv X pins σ (upd H s.heap.objs.size<|.tup [.int (i:Int),x]) {s with heap:=s.heap.push {cls:= .type "tuple",data:= .seq #[.int i s.toks,u1]},toks:=s.toks+1}:=
   I.laid (t':=s.toks+1) (λb o e=>Ai _ e) (Ah _) (show ax X.prog X.w _ _ _ (.tup [.int (i:Int),x]) from⟨Z2,[.int i s.toks,u1],.cons ⟨_,rfl⟩<|.cons RW .nil,⟨_,Bp _ rfl,rfl,_,rfl⟩⟩)
  have f1:∀ c∈[m,m+1],b8 X pins (upd H s.heap.objs.size<|.tup [.int (i:Int),x]) c:=λc cX=>⟨by rw [av<|nT c cX];exact(hf c cX).1,(hf c cX).2⟩;have RX:∀ c o,c∉[m,m+1]->(s.heap.push {cls:= .type "tuple",data:= .seq #[.int i s.toks,u1]}).get? c=some o->h'.get? c=some o:=λc o cX e=>by
   rcases Heap.get?_push_cases e with ⟨ec,eo⟩ | e'
   ·rw [ec,eo];exact a3
   ·simp only [Ax,Dl,PX,not_or] at cX;exact kp c o cX.2 cX.1 e'
  have I2:=Inv.d7 (h':=h') (t':=s.toks+1) I1 f1 RX;refine⟨_,rfl,wpAny_letOwnedTupleGo_enum (s:={s with heap:=h',toks:=s.toks+1}) a1 λh2 b1 sb=>?_⟩;have HQ:∀ c o,c∉[m+1]->h'.get? c=some o->h2.get? c=some o:=λc o cX e=>(sb.2 c<|by simpa using cX).trans e;have I3:=Inv.d7 (h':=h2) (t':=s.toks+1) I2 (ch:=[m+1]) (λc cX=>f1 c<|by simp at cX;simp [cX]) HQ;refine⟨.ref s.heap.objs.size,_,I3,rfl,⟨_,x,hT,rfl,rfl,λzs hz=>by rw [I.eS hz gs];exact hx⟩,?_,λc cX=>(f1 c cX).1⟩;obtain⟨o3,e3,r3⟩:=a2;exact⟨⟨u1,b1⟩,⟨o3,HQ _ _ (by simp) e3,r3⟩⟩
 done:=by
  intro X hP hw hK hc i pins s σ H E I hf st hg;subst hP hw hK;obtain⟨xs,gs,RY⟩:=hg;obtain⟨qO,uI,p1,HP⟩:=I.list gs;have l1:=uI.length;obtain⟨⟨old,z1⟩,z4⟩:=id st;refine wpAny_pyNext_enum_end (I.ok.hd hc) z1 z4 p1.isList (by simp;omega) λh' kp=>⟨rfl,I.d7 (t':=s.toks) (ch:=[m,m+1]) hf λc o cX e=>?_⟩;simp only [Ax,Dl,PX,not_or] at cX;exact kp c o cX.1 e
 self:=λ_ _ _ _ _ st h=>by
  obtain⟨⟨old,z1⟩,_⟩:=st;exact wpAny_pyIter_enum z1 h
end
section
variable{X:Cx}
def RZ(K:PySem.W.Frag)(ta:TA):TI:=λσ H R=>ta σ H λvs H1=>∃ a,vs=[.ref a]/\(∃ xs,ak K H1 a xs)/\R (y8 K a) H1
theorem R0{elts:List Expr}{k:Nat}{tp:Pos}{a:Expr}{ta:TA}{p pos:Pos}(hg:Gl X "enumerate")(hm:X.mg "enumerate" = none)(ha:PA X [a] ta)(hs:starEach [a] X.env=[(false,eval a X.env)]:=by rfl) :
  PI X (.Tuple elts k tp) (.Call (.Name "enumerate" p) [a] [] pos) (RZ X.K ta):=by
 intro pins s σ H R I h;refine Call_<|lg I hg hm boot_enumerate<|EY (aD (ha pos pins s σ H _ I h) λus s1 ⟨vs,H1,I1,r1,q1⟩=>?_) hs rfl;obtain⟨x,e,⟨xs,hx⟩,q⟩:=q1;subst e;obtain⟨u,rfl,ru⟩:=r1.one;cases (show u=Value.ref x from ru);obtain⟨qO,uI,p1,HP⟩:=I1.list hx;refine call_enumerate_list p1.isList λh' a1 a2 a3 kp=>?_;refine wpAny_pyIter_enum (s:={s1 with heap:=h'}) a1 ?_;refine⟨s1.heap.objs.size+1,[s1.heap.objs.size,s1.heap.objs.size+1],_,_,H1,rfl,I1.kept (t':=s1.toks) kp,RV s1.heap.objs.size x,⟨⟨_,a1⟩,a2⟩,λb hb=>?_,q⟩;have hle:s1.heap.objs.size<=b:=by
  simp only [Ax,Dl,PX] at hb
  rcases hb with rfl | rfl <;> omega
 exact I1.gE hle<|I1.aB.fresh hle
end
section
variable{X:Cx}{σ:St}{H:Hp}{D:Ends}{body:List Stmt}
def R9(tl:TE):TI:=λσ H R=>tl σ H λx H1=>∃ d o kvs,x = .ref d/\H1 d=some (.cK o<|.dK kvs)/\R (ut d o kvs) H1
theorem Sb{tg l:Expr}{tl:TE}(hl:PE X l tl):PI X tg l (R9 tl):=by
 intro pins s σ H R I h;refine aD (hl pins s σ H _ I h) λv s1 ⟨x,H1,I1,r1,q1⟩=>?_;obtain⟨d,o,kvs,e,hH,q⟩:=q1;subst e;cases (show v=Value.ref d from r1);obtain⟨ho,z,n9,vs,rel,dd⟩:=(show ax X.prog X.w H1 s1.heap d (.cK o<|.dK kvs) from I1.aB d _ hH);obtain⟨ep,o',es,fh,r1,r2,r3⟩:=dd.dictAt;have:o=o':=Option.some.inj<|ho.symm.trans fh;subst this;refine wpAny_pyIter_dict n9 ⟨o,es,fh,r1,r2,r3⟩ ?_;refine⟨s1.heap.objs.size,[s1.heap.objs.size],_,_,_,rfl,I1.kept (t':=s1.toks) λb o e=>Ai _ e,GI d _ o es ep kvs r2,⟨_,Bp _ rfl,rfl,by rw [rel.length];rfl⟩,λb hb=>?_,q⟩;have e:b=s1.heap.objs.size:=by simpa using hb
 subst e;exact I1.gE (Ah _)<|I1.aB.fresh<|Ah _
end
section
variable{X:Cx}{σ:St}{H:Hp}{D:Ends}{body rest:List Stmt}{a b:Expr}
end
end L2
namespace bP
open PySem SetTable
section
variable{t:SetTable}{es:Array (Int×Value)}{Z:List Ze}
end
section
variable{prog:Program}{w:World}{K:Type} [DecidableEq K]
variable{A:Around}{E:Value->Shared->Prop}{s:Shared}{a b:Addr}{knd:HeapKind prog w K}{k:K}{Y:List (Nat×K×Addr)}
end
section
variable{prog:Program}{w:World}{K:Type} [DecidableEq K] {knd:KeyKind prog w K}
end
end bP
namespace L2
open PySem PySem.Spec PyProof.Rows bP Classical
section
variable{prog:Program}{w:World}{A:Around}{E:Value->Shared->Prop}{s:Shared}{a b:Addr}{Y:List Yt}{k:List Key}
end
section
variable{X:Cx}{σ:St}{H:Hp}{Q:VK}{pins:List (Addr×Obj)}{s:Shared}{a b:Addr}{Y:List Yt}
end
end L2
namespace L2
open PySem PySem.Spec PyProof.Rows
section
variable{X:Cx}{σ:St}{H:Hp}{Q:VK}
end
section
variable{X:Cx}{elt tg:Expr}{ifs:List Expr}{scope:Scope}{σ:St}{H:Hp}{N':List Str}{A a:Addr}{xs:List V}{after:Hp->Prop}
end
section
variable{X:Cx}{σ:St}{H:Hp}{D:Ends}{rest:List Stmt}{o i e:Expr}{op:Operator}{lq:o8}{iA pos:Pos}
theorem Sd:pf X (lI X.K):=by
 intro pins s σ H x y v u Q I rx ry h;obtain⟨p,xs,i,z,rfl,rfl,hq,he,q⟩:=h;cases rx;obtain⟨t,rfl⟩:=ry;obtain⟨its,r,pl,hz⟩:=I.list hq;obtain⟨j,h1,h2,h3,h4,h5⟩:=tD he;obtain⟨w,ew,dP⟩:=r.get h2;have hl:=r.length;have hn:=lF;have fin:EP X pins σ Q w s:=⟨z,H,I,dP,q⟩
 by_cases h0:0<=i
 ·have hj:i.toNat=j:=by
   rw [NZ h0 h5] at h1;exact Option.some.inj h1
  exact wpAny_getItem_list pl.isList h0 (by omega) (by rw [hj];simpa using ew) fin
 ·have hj:(i+(its.toArray.size:Int)).toNat=j:=by
   rw [JX (by omega) h4] at h1;rw [An,<- hl];exact Option.some.inj h1
  exact wpAny_getItem_list_neg pl.isList (by omega) (by rw [An] <;> omega) (by omega) (by rw [hj];simpa using ew) fin
theorem HR(hp:sY X op lq)(h:Ev X o σ H λx H1=>Ev X i σ H1 λy H2=>lI X.K x y H2 λa H3=>Ev X e σ H3 λb H4=>lq a b H4 λz H5=>DS x y z H5 λH6=>Run X rest D σ H6)
  (ha:∀ ov iv new,augStore i ov iv new=(do holding [new,ov,iv] (setItem ov iv new);release [new,ov,iv] [];pure .next):=by intros;rfl):Run X (.AugAssign (.Subscript o i iA) op e pos :: rest) D σ H:=
 jc (LI a5 a5 Sd a5 hp set_list ha) h
end
section
variable{X:Cx}{σ:St}{H:Hp}
end
section
variable{M:Model}{A:Around}{E:Value->Shared->Prop}{s:Shared}
end
section
variable{P:Program}{w:World}{K:PySem.W.Frag}{mg:Str->Option Value}{base:Heap}{N:List Str}{qual:Str}{scope:Scope}{f:Addr}{cd:Value}{A:Around}{outer:List Env}{s:Shared}{H:Hp}{E:XK}
end
section
variable{X:Cx}{σ:St}{H:Hp}{D:Ends}{rest:List Stmt}
end
section
variable{P:Program}{w:World}{K:PySem.W.Frag}{mg:Str->Option Value}{base:Heap}{N:List Str}{qual:Str}{scope:Scope}{f:Addr}{cd:Value}{A:Around}{outer:List Env}{s:Shared}{H:Hp}{E:XK}
end
section
variable{X:Cx}{CX:fw}{k:Nat}{f:Addr}{fd:FuncData}{ps:List Str}{sp:Sp}{E:XK}{x:Str}{p pos:Pos}{e:Expr}{es:List Expr}{σ:St}{H:Hp}{Q:VK}
end
section
variable{X:Cx}{pins:List (Addr×Obj)}{σ:St}{H:Hp}{s:Shared}{b:Addr}
end
section
variable{M:Model}{A:Around}{E:Value->Shared->Prop}{K:PySem.W.Frag}{s:Shared}
end
section
variable{X:Cx}{pins:List (Addr×Obj)}{σ:St}{H:Hp}{s:Shared}
end
open PySem.W
section
variable{prog:Program}{w:World}{A:Around}{E:Value->Shared->Prop}{s:Shared}{K:Frag}{a C:Addr}{o:Obj}
end
end L2
namespace L2
open PySem PySem.Spec PyProof.Rows
section
variable{prog:Program}{w:World}{A:Around}{E:Value->Shared->Prop}{s:Shared}
end
open a6
section
variable{X:Cx}{a b e:Expr}{es:List Expr}{σ:St}{H:Hp}{Q:VK}{pos p kp cp:Pos}{j:Nat}
theorem HU:∀{ns:List Int} {us:List Value},aq (ns.map V.int) us->IntsAre us ns
 | [],[],.nil=> .nil
 | n :: ns,u :: us,.cons r t=>by
  obtain⟨tk,rfl⟩:=(show ∃ t,u=Value.int n t from r);exact .cons _ _<|HU t
end
end L2
namespace L2
open PySem PySem.Spec PyProof.Rows bP
section
variable{X:Cx}{elt t1 i1 t2 i2 t3 i3:Expr}{f1 f2 f3:List Expr}{scope:Scope}{pos:Pos}{σ:St}{H:Hp}{acc:Value}{env:Env}
end
section
variable{X:Cx}{tg:Expr}{ifs:List Expr}{inner:Sem Unit}{σ:St}{H:Hp}{a:Addr}{xs:List V}{after:St->Hp->Prop}
theorem V7(Pv:Nat->St->Hp->Prop)(h0:Pv 0 σ H)(hl:∀ i σ' H',i<=xs.length->Pv i σ' H'->aK X.K H' a xs)
  (hs:∀ i x σ' H',xs[i]?=some x->Pv i σ' H'->Eg X tg x σ' H' λσ2 H3=>Ei X ifs σ2 H3 λb H4=>if b=true then pZ X inner σ2 H4 (Pv<|i+1) else Pv (i+1) σ2 H4)
  (hd:∀ σ' H',Pv xs.length σ' H'->after σ' H'):kz X tg ifs inner (pq X.K a) after σ H:=by
 refine⟨λi m σ' H'=>m=xs.length - i/\i<=xs.length/\Pv i σ' H',⟨_,rfl,Br _,h0⟩,?_⟩;rintro i m σ' H' ⟨rfl,hi,p⟩;have q:=hl i σ' H' hi p
 by_cases aE:i < xs.length
 ·refine .inr ⟨⟨xs,xs[i],q,by simp [aE]⟩,Pv<|i+1,λσ' H' p'=>⟨xs.length - (i+1),by omega,rfl,aE,p'⟩,λx H2 y=>?_⟩;obtain⟨e,y⟩:=y;subst e;exact hs i x σ' _ (y xs q) p
 ·have e:i=xs.length:=by omega
  subst e;exact .inl ⟨⟨xs,q,Ah _⟩,hd σ' H' p⟩
theorem Se(Pv:Nat->St->Hp->Prop)(h0:Pv 0 σ H)(hl:∀ i σ' H',i<=xs.length->Pv i σ' H'->ak X.K H' a xs)
  (hs:∀(i:Nat) x T σ' H',xs[i]?=some x->Pv i σ' H'->H' T=none->Eg X tg (.ref T) σ' (upd H' T<|.tup [.int (i:Int),x]) λσ2 H3=>Ei X ifs σ2 H3 λb H4=>if b=true then pZ X inner σ2 H4 (Pv<|i+1) else Pv (i+1) σ2 H4)
  (hd:∀ σ' H',Pv xs.length σ' H'->after σ' H'):kz X tg ifs inner (y8 X.K a) after σ H:=by
 refine⟨λi m σ' H'=>m=xs.length - i/\i<=xs.length/\Pv i σ' H',⟨_,rfl,Br _,h0⟩,?_⟩;rintro i m σ' H' ⟨rfl,hi,p⟩;have q:=hl i σ' H' hi p
 by_cases aE:i < xs.length
 ·refine .inr ⟨⟨xs,xs[i],q,by simp [aE]⟩,Pv<|i+1,λσ' H' p'=>⟨xs.length - (i+1),by omega,rfl,aE,p'⟩,λv H2 y=>?_⟩;obtain⟨T,x,hT,rfl,rfl,hx⟩:=y;exact hs i x T σ' _ (hx xs q) p hT
 ·have e:i=xs.length:=by omega
  subst e;exact .inl ⟨⟨xs,q,Ah _⟩,hd σ' H' p⟩
end
section
variable{X:Cx}{σ:St}{H:Hp}{Q:VK}
end
end L2
namespace Dt
variable{κ:Type}
def X(r:κ->Int):(List κ->Int)->List κ->Int
 | _,[]=>0
 | f,c :: cs=>r c * f cs - X r (λl=>f<|c :: l) cs
def one:List κ->Int
 | []=>1
 | _ :: _=>0
def dt:List (κ->Int)->List κ->Int
 | []=>one
 | r :: rs=>X r<|dt rs
theorem qP(r:κ->Int)(a b:Int):∀(cs:List κ) (f g:List κ->Int),X r (λl=>a * f l+b * g l) cs=a * X r f cs+b * X r g cs
 | [],_,_=>by simp [X]
 | c :: cs,f,g=>by
  show r c * (a * f cs+b * g cs) - X r (λl=>a * f (c :: l)+b * g (c :: l)) cs=_;rw [qP r a b cs (λl=>f<|c :: l) λl=>g<|c :: l];show _=a * (r c * f cs - _)+b * (r c * g cs - _)
  grind
theorem kR(r s:κ->Int)(a b:Int):∀(cs:List κ) (f:List κ->Int),X (λx=>a * r x+b * s x) f cs=a * X r f cs+b * X s f cs
 | [],_=>by simp [X]
 | c :: cs,f=>by
  show(a * r c+b * s c) * f cs - X (λx=>a * r x+b * s x) (λl=>f<|c :: l) cs=_;rw [kR r s a b cs λl=>f<|c :: l];show _=a * (r c * f cs - _)+b * (s c * f cs - _)
  grind
theorem HV(r:κ->Int)(f g:List κ->Int)(cs:List κ):X r (λl=>f l - g l) cs=X r f cs - X r g cs:=by
 have h:=qP r 1 (-1) cs f g;have e:(λl=>1 * f l+-1 * g l)=λl=>f l - g l:=by funext l;grind
 rw [e] at h;rw [h]
 grind
theorem oz(r:κ->Int)(a:Int)(f:List κ->Int)(cs:List κ):X r (λl=>a * f l) cs=a * X r f cs:=by
 have h:=qP r a 0 cs f f;have e:(λl=>a * f l+0 * f l)=λl=>a * f l:=by funext l;grind
 rw [e] at h;rw [h]
 grind
theorem mL(r s:κ->Int):∀(cs:List κ) (f:List κ->Int),X r (X s f) cs=- X s (X r f) cs
 | [],_=>rfl
 | c :: cs,f=>by
  have ih:=mL r s cs λl=>f<|c :: l;have h1:X r (X s f) (c :: cs)=r c * X s f cs - (s c * X r f cs - X r (X s λl=>f<|c :: l) cs):=by
   show r c * X s f cs - X r (λl=>s c * f l - X s (λl'=>f<|c :: l') l) cs=_;rw [HV,oz]
  have h2:X s (X r f) (c :: cs)=s c * X r f cs - (r c * X s f cs - X s (X r λl=>f<|c :: l) cs):=by
   show s c * X r f cs - X s (λl=>r c * f l - X r (λl'=>f<|c :: l') l) cs=_;rw [HV,oz]
  rw [h1,h2]
  grind
theorem HZ(r:κ->Int)(cs:List κ)(f:List κ->Int):X r (X r f) cs=0:=by
 have:=mL r r cs f;omega
theorem qQ{r:κ->Int}:∀{cs:List κ},(∀ c∈cs,r c=0)->∀ f,X r f cs=0
 | [],_,_=>rfl
 | c :: cs,h,f=>by
  show r c * f cs - X r (λl=>f<|c :: l) cs=0;rw [h c<|Ak ..,qQ λd hd=>h d<|Aq _ hd];simp
section
variable(l:κ->κ->Int)
def mm(K:List κ):Int:=dt (K.map l) K
def MM(K:List κ)(i j:κ):Int:=X (l i) (dt<|K.map l)<|j :: K
structure Red(K:List κ)(i:κ)(c:Int)(R:κ->Int):Prop where
 eq:∀ cs,X R (dt<|K.map l) cs=c * X (l i) (dt<|K.map l) cs
 no:∀ k∈K,R k=0
 nz:c≠0
variable{l}
theorem Red.val{K:List κ}{i:κ}{c:Int}{R:κ->Int}(h:Red l K i c R)(j:κ):c * MM l K i j=mm l K * R j:=by
 have e:=h.eq<|j :: K;have e2:X R (dt<|K.map l) (j :: K)=R j * mm l K:=by
  show R j * dt (K.map l) K - X R _ K=_;rw [qQ h.no];show _=R j * dt (K.map l) K;omega
 rw [e2] at e;show c * X (l i) (dt<|K.map l) (j :: K)=_;rw [<- e,Int.mul_comm]
theorem Red.step{K:List κ}{i k:κ}{c d:Int}{R S:κ->Int}(h:Red l K i c R)(g:Red l K k d S)(hk:S k≠0):Red l (k :: K) i (S k * c) (λx=>S k * R x+(- R k) * S x):=by
 refine⟨λcs=>?_,λx hx=>?_,?_⟩
 ·show X _ (X (l k)<|dt<|K.map l) cs=S k * c * X (l i) (X (l k)<|dt<|K.map l) cs;rw [kR];have e1:X R (X (l k)<|dt<|K.map l) cs=c * X (l i) (X (l k)<|dt<|K.map l) cs:=by
   rw [mL,show X R (dt<|K.map l)=λcs=>c * X (l i) (dt<|K.map l) cs from funext h.eq,oz,mL (l i)<|l k]
   grind
  have e2:X S (X (l k)<|dt<|K.map l) cs=0:=by
   rw [mL,show X S (dt<|K.map l)=λcs=>d * X (l k) (dt<|K.map l) cs from funext g.eq,oz,HZ]
   grind
  rw [e1,e2]
  grind
 ·rcases Ax.mp hx with e | hx
  ·rw [e]
   grind
  ·show S k * R x+(- R k) * S x=0;rw [h.no x hx,g.no x hx];simp
 ·exact NK hk h.nz
def Good(l:κ->κ->Int):List κ->Prop
 | []=>True
 | k :: K=>mm l (k :: K)≠0/\Good l K
theorem Good.ne{K:List κ}(h:Good l K):mm l K≠0:=by
 cases K with
 | nil=>exact λh=>(nomatch h)
 | cons k K=>exact h.1
theorem uJ:∀{K:List κ},Good l K->∀ i,∃ c R,Red l K i c R
 | [],_,i=>⟨1,l i,λcs=>(by grind),λk hk=>(nomatch hk),by decide⟩
 | k :: K,h,i=>by
  obtain⟨c,R,hi⟩:=uJ h.2 i;obtain⟨d,S,hk⟩:=uJ h.2 k;refine⟨_,_,hi.step hk λz=>?_⟩;have e:=hk.val k;rw [z] at e;have:d * MM l K k k=0:=by omega
  rcases Int.mul_eq_zero.mp this with q | q
  ·exact hk.nz q
  ·exact h.1 q
theorem jW{K:List κ}{k:κ}(h:Good l<|k :: K)(i j:κ):MM l K i j * MM l K k k - MM l K i k * MM l K k j=mm l K * MM l (k :: K) i j:=by
 obtain⟨c,R,hi⟩:=uJ h.2 i;obtain⟨d,S,hk⟩:=uJ h.2 k;have hS:S k≠0:=λz=>by
  have e:=hk.val k;rw [z] at e;have:d * MM l K k k=0:=by omega
  rcases Int.mul_eq_zero.mp this with q | q
  ·exact hk.nz q
  ·exact h.1 q
 have e1:=hi.val j;have e2:=hi.val k;have e3:=hk.val k;have e4:=hk.val j;have e5:=(hi.step hk hS).val j;have e6:mm l (k :: K)=MM l K k k:=rfl;rw [e6] at e5;have hm:MM l K k k≠0:=h.1;have V8:=h.2.ne;refine JV (a:=c * d * MM l K k k) (NK (NK hi.nz hk.nz) hm) ?_;generalize MM l (k :: K) i j=z at *;generalize MM l K i j=a at *;generalize MM l K k k=b at *;generalize MM l K i k=p at *;generalize MM l K k j=q at *;generalize mm l K=m at *;generalize R j=r1 at *;generalize R k=r2 at *;generalize S k=s1 at *;generalize S j=s2 at *;have f1:c * d * (a * b - p * q)=m * m * (s1 * r1+-r2 * s2):=by grind
 have f2:c * d * b * (m * z)=m * m * (s1 * c * z):=by grind
 rw [f2,e5];have f3:c * d * b * (a * b - p * q)=b * (c * d * (a * b - p * q)):=by grind
 rw [f3,f1]
 grind
theorem uK(hl:∀ i j,l i j=l j i):∀{K:List κ},Good l K->∀ i j,MM l K i j=MM l K j i
 | [],_,i,j=>by
  show l i j * 1 - 0=l j i * 1 - 0;rw [hl i j]
 | k :: K,h,i,j=>by
  have e1:=jW h i j;have e2:=jW h j i;have s1:=uK hl h.2 i j;have s2:=uK hl h.2 i k;have s3:=uK hl h.2 j k;refine JV h.2.ne ?_;rw [<- e1,<- e2,s1,s2,s3]
  grind
end
def Alt(f:List κ->Int):Prop:=∀ p c d q,f (p++c :: d :: q)=- f (p++d :: c :: q)
theorem Sf:Alt (one:List κ->Int):=λp c d q=>by
 cases p <;> rfl
theorem Alt.cons{f:List κ->Int}(h:Alt f)(c:κ):Alt λl=>f (c :: l):=λp a b q=>h (c :: p) a b q
theorem Ia(r:κ->Int):∀(p:List κ) {f:List κ->Int},Alt f->∀ c d q,X r f (p++c :: d :: q)=- X r f (p++d :: c :: q)
 | [],f,h,c,d,q=>by
  have e:(λl=>f<|c :: d :: l)=λl=>(-1) * f (d :: c :: l):=by
   funext l
   have:=h [] c d l;show f (c :: d :: l)=-1 * f (d :: c :: l);have this:f (c :: d :: l)=- f (d :: c :: l):=this;omega
  show r c * f (d :: q) - (r d * f (c :: q) - X r (λl=>f<|c :: d :: l) q)=-(r d * f (c :: q) - (r c * f (d :: q) - X r (λl=>f<|d :: c :: l) q));rw [e,oz];omega
 | a :: p,f,h,c,d,q=>by
  have ih:=Ia r p (h.cons a) c d q;have e:=h p c d q;show r a * f (p++c :: d :: q) - X r (λl=>f<|a :: l) (p++c :: d :: q)=-(r a * f (p++d :: c :: q) - X r (λl=>f<|a :: l) (p++d :: c :: q));rw [ih,e]
  grind
theorem Ib:∀ rs:List<|κ->Int,Alt<|dt rs
 | []=>Sf
 | r :: rs=>λp c d q=>Ia r p (Ib rs) c d q
theorem Sg{C C':List κ}(h:C.Perm C'):∃ s:Int,s * s=1/\(∀(l:κ->κ->Int) cs,dt (C'.map l) cs=s * dt (C.map l) cs)/\∀ f:List κ->Int,Alt f->f C'=s * f C:=by
 induction h with
 | nil=>exact⟨1,rfl,λl cs=>(by grind),λf _=>(by grind)⟩
 | cons c _ ih=>
  obtain⟨s,hs,h1,h2⟩:=ih;refine⟨s,hs,λl cs=>?_,λf hf=>h2 _<|hf.cons c⟩;show X (l c) (dt<|List.map l _) cs=s * X (l c) (dt<|List.map l _) cs;rw [<- oz,show dt (List.map l _)=λcs=>s * dt (List.map l _) cs from funext (h1 l)]
 | swap a b q=>
  refine⟨-1,rfl,λl cs=>?_,λf hf=>?_⟩
  ·show X (l a) (X (l b) _) cs=-1 * X (l b) (X (l a) _) cs;rw [mL];omega
  ·have:=hf [] a b q;show f (a :: b :: q)=-1 * f (b :: a :: q);have this:f (a :: b :: q)=- f (b :: a :: q):=this;omega
 | trans _ _ y9 iP=>
  obtain⟨s,hs,h1,h2⟩:=y9;obtain⟨t,ht,g1,g2⟩:=iP;refine⟨t * s,by grind,λl cs=>?_,λf hf=>?_⟩
  ·rw [g1,h1]
   grind
  ·rw [g2 f hf,h2 f hf]
   grind
theorem gw(l:κ->κ->Int){C C':List κ}(h:C.Perm C'):mm l C'=mm l C:=by
 obtain⟨s,hs,h1,h2⟩:=Sg h;show dt (C'.map l) C'=dt (C.map l) C;rw [h1,h2 _<|Ib _];have:s * (s * dt (C.map l) C)=s * s * dt (C.map l) C:=by grind
 rw [this,hs]
 grind
variable{κ:Type}
theorem zb{r r':κ->Int}{S:κ->Prop}(hr:∀ c,S c->r c=r' c):∀(cs:List κ) {f f':List κ->Int},(∀ l,(∀ c∈l,S c)->f l=f' l)->(∀ c∈cs,S c)->X r f cs=X r' f' cs
 | [],_,_,_,_=>rfl
 | c :: cs,f,f',hf,hs=>by
  have h1:=hs c<|Ak ..;have h2:∀ d∈cs,S d:=λd hd=>hs d<|Aq _ hd;show r c * f cs - X r (λl=>f<|c :: l) cs=r' c * f' cs - X r' (λl=>f'<|c :: l) cs;rw [hr c h1,hf cs h2,zb hr cs (f:=λl=>f<|c :: l) (f':=λl=>f'<|c :: l) (λl hl=>hf _ λd hd=>?_) h2]
  rcases Ax.mp hd with e | hd
  ·rw [e];exact h1
  ·exact hl d hd
theorem Ic{S:κ->Prop}{l l':κ->κ->Int}:∀(C:List κ),(∀ x∈C,∀ j,S j->l x j=l' x j)->∀ cs,(∀ c∈cs,S c)->dt (C.map l) cs=dt (C.map l') cs
 | [],_,_,_=>rfl
 | x :: C,h,cs,hs=>zb (h x<|Ak ..) cs (λk hk=>Ic C (λy hy=>h y<|Aq _ hy) k hk) hs
theorem uL{l l':κ->κ->Int}{C:List κ}(h:∀ x∈C,∀ j∈C,l x j=l' x j):mm l C=mm l' C:=Ic (S:=λj=>j∈C) C h C λ_ hc=>hc
def Lp(W:List<|κ->Int)(x j:κ):Int:=(W.map λw=>w x * w j).sum
theorem qR(w:κ->Int)(W:List<|κ->Int)(x j:κ):Lp (w :: W) x j=w x * w j+Lp W x j:=rfl
theorem Sh(W:List<|κ->Int)(x j:κ):Lp W x j=Lp W j x:=by
 unfold Lp
 congr 1
 exact Bk λw _=>Int.mul_comm ..
def D(C:List κ)(W:List<|κ->Int):Int:=mm (Lp W) C
theorem Si(a:κ)(C:List κ):D (a :: C) []=0:=qQ (λ_ _=>rfl) _
theorem Sj{C:List κ}{w:κ->Int}{W:List (κ->Int)}(h:∀ x∈C,w x=0):D C (w :: W)=D C W:=uL λx hx j _=>by
 rw [qR,h x hx];omega
theorem Ie{C:List κ}{w:κ->Int}{W:List (κ->Int)}(h:∀ x∈C,w x=0):C.map (Lp<|w :: W)=C.map (Lp W):=Bk λx hx=>by
 funext j
 rw [qR,h x hx];omega
theorem Ig{a:κ}{C:List κ}{w:κ->Int}{W:List (κ->Int)}(h:∀ x∈C,w x=0)(ha:w a * w a=1):D (a :: C) (w :: W)=D (a :: C) W+D C W:=by
 show X (Lp (w :: W) a) (dt<|C.map<|Lp<|w :: W) (a :: C)=X (Lp W a) (dt<|C.map<|Lp W) (a :: C)+dt (C.map<|Lp W) C;rw [Ie h,show Lp (w :: W) a=λj=>w a * w j+1 * Lp W a j by funext j;rw [qR];omega,kR];have e:X w (dt<|C.map<|Lp W) (a :: C)=w a * dt (C.map<|Lp W) C:=by
  show w a * dt (C.map<|Lp W) C - X w _ C=_;rw [qQ h];omega
 rw [e]
 grind
def cm [DecidableEq κ] (a b:κ) (r:κ->Int) (j:κ):Int:=if j=a then r a+r b else r j
section
variable [DecidableEq κ] {a b:κ}
structure Cm(a b:κ)(f f':List κ->Int):Prop where
 no:∀ l,a∉l->f' l=f l
 on:∀ p q,a∉p->a∉q->f' (p++a :: q)=f (p++a :: q)+f (p++b :: q)
theorem Cm.cons{f f':List κ->Int}(h:Cm a b f f'){c:κ}(hc:c≠a):Cm a b (λl=>f<|c :: l) λl=>f' (c :: l):=
 ⟨λl hl => h.no _ λhm => by
  rcases Ax.mp hm with e | hm
  ·exact hc e.symm
  ·exact hl hm,λp q hp hq=>h.on (c :: p) q (λhm=>by
  rcases Ax.mp hm with e | hm
  ·exact hc e.symm
  ·exact hp hm) hq⟩
theorem Ih(r:κ->Int){f f':List κ->Int}(h:∀ l,a∉l->f' l=f l)(l:List κ)(hl:a∉l):X (cm a b r) f' l=X r f l:=
 zb (S:=λc=>c≠a) (λc hc=>BJ hc) l (λk hk=>h k λhm=>hk a hm rfl) λc hc e=>hl<|e ▸ hc
theorem Ii(r:κ->Int):∀(p:List κ) {f f':List κ->Int},Cm a b f f'->∀ q,a∉p->a∉q->X (cm a b r) f' (p++a :: q)=X r f (p++a :: q)+X r f (p++b :: q)
 | [],f,f',h,q,_,hq=>by
  show cm a b r a * f' q - X (cm a b r) (λl=>f'<|a :: l) q=(r a * f q - X r (λl=>f<|a :: l) q)+(r b * f q - X r (λl=>f<|b :: l) q);rw [Ih r (f:=λl=>1 * f (a :: l)+1 * f (b :: l)) (λl hl=>by have:=h.on [] l Dl hl;show f' (a :: l)=_;have this:f' (a :: l)=f (a :: l)+f (b :: l):=this;rw [this];omega) q hq,qP,h.no q hq,show cm a b r a=r a+r b from BK rfl]
  grind
 | c :: p,f,f',h,q,hp,hq=>by
  have hc:c≠a:=λe=>hp<|e ▸ Ak ..;have jU:a∉p:=λhm=>hp<|Aq _ hm;show cm a b r c * f' (p++a :: q) - X (cm a b r) (λl=>f'<|c :: l) (p++a :: q)=(r c * f (p++a :: q) - X r (λl=>f<|c :: l) (p++a :: q))+(r c * f (p++b :: q) - X r (λl=>f<|c :: l) (p++b :: q));rw [Ii r p (h.cons hc) q jU hq,h.on p q jU hq,show cm a b r c=r c from BJ hc]
  grind
theorem zc:∀ rs:List<|κ->Int,Cm a b (dt rs)<|dt<|rs.map<|cm a b
 | []=>⟨λ_ _=>rfl,λp q _ _=>by cases p <;> rfl⟩
 | r :: rs=>⟨λl hl=>Ih r (zc rs).no l hl,λp q hp hq=>Ii r p (zc rs) q hp hq⟩
theorem Sl{C:List κ}{w:κ->Int}{W:List (κ->Int)}(hC:∀ x∈C,w x=0)(ha:w a=1)(hb:w b=-1)(V9:a≠b)(na:a∉C):D (a :: b :: C) (w :: W)=D (a :: b :: C) W+D (a :: C) (W.map<|cm a b):=by
 have L':∀ x j,Lp (W.map<|cm a b) x j=cm a b (λj=>cm a b (λx=>Lp W x j) x) j:=λx j=>by
  unfold Lp cm;rw [Be]
  induction W with
  | nil=>by_cases h1:j=a <;> by_cases h2:x=a <;> simp [h1,h2]
  | cons v W ih=>
   simp only [Bq,Fh,Function.comp] at ih ⊢;rw [ih]
   by_cases h1:j=a <;> by_cases h2:x=a <;> simp only [h1,h2,DP,DN] <;> grind
 have e1:D (a :: C) (W.map<|cm a b)=dt (((λj=>1 * Lp W a j+1 * Lp W b j) :: C.map (Lp W)).map<|cm a b) (a :: C):=by
  show X (Lp (W.map<|cm a b) a) (dt<|C.map<|Lp<|W.map<|cm a b) (a :: C)=X (cm a b λj=>1 * Lp W a j+1 * Lp W b j) (dt<|(C.map<|Lp W).map<|cm a b) (a :: C);rw [Be,show C.map (Lp<|W.map<|cm a b)=C.map (cm a b ∘ Lp W) from Bk λx hx=>by
   funext j
   rw [L'];have nx:x≠a:=λe=>na<|e ▸ hx;simp only [cm,Function.comp,nx,DN],show Lp (W.map<|cm a b) a=cm a b λj=>1 * Lp W a j+1 * Lp W b j by
   funext j
   rw [L'];simp only [cm,DP]
   by_cases h:j=a <;> simp only [h,DP,DN] <;> omega]
 have e2:=(zc (a:=a) (b:=b)<|(λj=>1 * Lp W a j+1 * Lp W b j) :: C.map (Lp W)).on [] C Dl na;rw [e1];have e2:dt (((λj=>1 * Lp W a j+1 * Lp W b j) :: C.map (Lp W)).map<|cm a b) (a :: C)=X (λj=>1 * Lp W a j+1 * Lp W b j) (dt<|C.map<|Lp W) (a :: C)+X (λj=>1 * Lp W a j+1 * Lp W b j) (dt<|C.map<|Lp W) (b :: C):=e2;rw [e2];show X (Lp (w :: W) a) (X (Lp (w :: W) b)<|dt<|C.map<|Lp<|w :: W) (a :: b :: C)=X (Lp W a) (X (Lp W b)<|dt<|C.map<|Lp W) (a :: b :: C)+_;rw [Ie hC,show Lp (w :: W) a=λj=>1 * w j+1 * Lp W a j by funext j;rw [qR,ha];omega,show Lp (w :: W) b=λj=>(-1) * w j+1 * Lp W b j by funext j;rw [qR,hb];omega];generalize dt (C.map<|Lp W)=ω;rw [show X (λj=>(-1) * w j+1 * Lp W b j) ω=λl=>(-1) * X w ω l+1 * X (Lp W b) ω l from funext λl=>kR ..,qP,kR,kR,HZ,mL (Lp W a) w];have e3:∀ θ:List κ->Int,X w θ (a :: b :: C)=θ (b :: C)+θ (a :: C):=λθ=>by
  show w a * θ (b :: C) - (w b * θ (a :: C) - X w _ C)=_;rw [qQ hC,ha,hb];omega
 rw [e3,e3,kR,kR];omega
end
def ed [DecidableEq κ] (e:κ×κ) (x:κ):Int:=(if x=e.1 then 1 else 0) - (if x=e.2 then 1 else 0)
section
variable [DecidableEq κ]
def De(C:List κ)(E:List<|κ×κ):Int:=D C<|E.map ed
def rl(b a:κ)(e:κ×κ):κ×κ:=(if e.1=b then a else e.1,if e.2=b then a else e.2)
theorem Sn{l l':List Int}(h:l.Perm l'):l.sum=l'.sum:=by
 induction h with
 | nil=>rfl
 | cons a _ ih=>simp only [Fh,ih]
 | swap a b l=>simp only [Fh];omega
 | trans _ _ h1 h2=>rw [h1,h2]
theorem Sq{W W':List (κ->Int)}(h:W.Perm W')(x j:κ):Lp W x j=Lp W' x j:=Sn<|h.map _
theorem kS{C C':List κ}{E E':List (κ×κ)}(h:C.Perm C')(g:E.Perm E'):De C E=De C' E':=by
 show mm _ C=mm _ C';rw [gw _ h];exact uL λx _ j _=>Sq (g.map ed) x j
theorem zf(E:List<|κ×κ):De ([]:List κ) E=1:=rfl
theorem Ij(a:κ)(C:List κ):De (a :: C) []=0:=Si a C
theorem Ik{e:κ×κ}{x:κ}(h1:x≠e.1)(h2:x≠e.2):ed e x=0:=by
 unfold ed;rw [BJ h1,BJ h2];rfl
theorem zg{a b x:κ}{C:List κ}(ha:a∉C)(hb:b∉C)(hx:x∈C):ed (a,b) x=0:=Ik (e:=(a,b)) (λz:x=a=>ha<|z ▸ hx) λz:x=b=>hb<|z ▸ hx
theorem Sr{C:List κ}{e:κ×κ}{E:List (κ×κ)}(h:e.1=e.2\/(e.1∉C/\e.2∉C)):De C (e :: E)=De C E:=Sj λx hx=>by
 rcases h with h | ⟨h1,h2⟩
 ·unfold ed;rw [h];omega
 ·exact Ik (λz=>h1<|z ▸ hx) λz=>h2<|z ▸ hx
theorem Il{a b:κ}{C:List κ}{E:List (κ×κ)}(ha:a∉C)(hb:b∉C)(cb:a≠b):De (a :: C) ((a,b) :: E)=De (a :: C) E+De C E/\De (a :: C) ((b,a) :: E)=De (a :: C) E+De C E:=by
 refine⟨Ig (λx hx=>zg ha hb hx) ?_,Ig (λx hx=>zg hb ha hx) ?_⟩
 ·unfold ed;rw [BK rfl,BJ cb];rfl
 ·unfold ed;rw [BJ cb,BK rfl];rfl
theorem Im{a b:κ}(cb:a≠b)(e:κ×κ){x:κ}(hx:x≠b):cm a b (ed e) x=ed (rl b a e) x:=by
 obtain⟨p,q⟩:=e;unfold cm ed rl
 by_cases h0:x=a
 ·subst h0;simp only [DP]
  by_cases h1:p=b <;> by_cases h2:q=b <;> simp only [h1,h2,cb,Ne.symm cb,DP,DN] <;> first | omega | skip
  ·by_cases h3:x=q
   ·simp [h3,h2,Ne.symm h2]
   ·simp [h3,h2,Ne.symm h2]
  ·by_cases h3:x=p
   ·simp [h3,h1,Ne.symm h1]
   ·simp [h3,h1,Ne.symm h1]
  ·simp [Ne.symm h1,Ne.symm h2]
 ·simp only [h0,DN]
  by_cases h1:p=b <;> by_cases h2:q=b <;> simp [h0,h1,h2,hx]
theorem Ss{a b:κ}{C:List κ}{E:List (κ×κ)}(ha:a∉C)(hb:b∉C)(cb:a≠b):De (a :: b :: C) ((a,b) :: E)=De (a :: b :: C) E+De (a :: C) (E.map<|rl b a):=by
 have h:=Sl (W:=E.map ed) (C:=C) (w:=ed (a,b)) (a:=a) (b:=b) (λx hx=>zg ha hb hx) (by unfold ed;rw [BK rfl,BJ cb];rfl) (by unfold ed;rw [BJ<|Ne.symm cb,BK rfl];rfl) cb ha;have e:D (a :: C) ((E.map ed).map<|cm a b)=De (a :: C) (E.map<|rl b a):=uL λx hx j hj=>by
  have nb:∀ y∈a :: C,y≠b:=λy hy z=>by
   rcases Ax.mp hy with k | k
   ·exact cb<|k.symm.trans z
   ·exact hb<|z ▸ k
  unfold Lp;rw [Be,Be,Be,Be]
  congr 1
  refine Bk λe _=>?_;show cm a b (ed e) x * cm a b (ed e) j=ed (rl b a e) x * ed (rl b a e) j;rw [Im cb e<|nb x hx,Im cb e<|nb j hj]
 rw [e] at h;exact h
end
variable{κ:Type} [DecidableEq κ]
def mg(C:List κ)(p q:κ)(E:List<|κ×κ):Int:=if p=q\/(p∉C/\q∉C) then 0 else if q∉C then De (C.erase p) E else if p∉C then De (C.erase q) E else De (C.erase q) (E.map<|rl q p)
theorem uM{C:List κ}(hC:C.Nodup)(p q:κ)(E:List<|κ×κ):De C ((p,q) :: E)=De C E+mg C p q E:=by
 unfold mg
 by_cases h:p=q\/(p∉C/\q∉C)
 ·rw [BK h,Sr (e:=(p,q)) h];omega
 rw [BJ h];have mM:p≠q:=λz=>h<|.inl z
 by_cases hq:q∉C
 ·rw [BK hq];have hp:p∈C:=CN λz=>h<|.inr ⟨z,hq⟩;have pe:=Fq hp;rw [kS pe<|List.Perm.refl _,kS (E:=E) pe<|List.Perm.refl _];exact(Il (λz=>((hC.mem_erase_iff).mp z).1 rfl) (λz=>hq<|Dk z) mM).1
 rw [BJ hq];have hq:q∈C:=CN hq;have pe:=Fq hq
 by_cases hp:p∉C
 ·rw [BK hp,kS pe<|List.Perm.refl _,kS (E:=E) pe<|List.Perm.refl _];exact(Il (λz=>((hC.mem_erase_iff).mp z).1 rfl) (λz=>hp<|Dk z)<|Ne.symm mM).2
 rw [BJ hp];have hp:p∈C:=CN hp;have jU:p∈C.erase q:=(hC.mem_erase_iff).mpr ⟨mM,hp⟩;have Io:=Fq jU;have Ip:C.Perm (p :: q :: (C.erase q).erase p):=pe.trans<|(Io.cons q).trans<|List.Perm.swap ..;have nq:q∉(C.erase q).erase p:=λz=>((hC.mem_erase_iff).mp<|Dk z).1 rfl;have np:p∉(C.erase q).erase p:=λz=>(((hC.erase q).mem_erase_iff).mp z).1 rfl;rw [kS Ip<|List.Perm.refl _,kS (E:=E) Ip<|List.Perm.refl _,kS (E:=E.map<|rl q p) Io<|List.Perm.refl _];exact Ss np nq mM
theorem oA:∀(E:List<|κ×κ) (C:List κ),C.Nodup->0<=De C E/\De C E<=2 ^ E.length
 | [],[],_=>by rw [zf];exact⟨by decide,by show(1:Int)<=1;decide⟩
 | [],a :: C,_=>by rw [Ij];exact⟨by decide,by show(0:Int)<=1;decide⟩
 | (p,q) :: E,C,hC=>by
  have h1:=oA E C hC;have h2:0<=mg C p q E/\mg C p q E<=2 ^ E.length:=by
   unfold mg
   split
   ·exact⟨Int.le_refl _,QJ h1.1 h1.2⟩
   split
   ·exact oA E _<|hC.erase p
   split
   ·exact oA E _<|hC.erase q
   ·have:=oA (E.map<|rl q p) _<|hC.erase q;rw [Aa] at this;exact this
  rw [uM hC,Ar,Int.pow_succ];omega
termination_by E=>E.length
decreasing_by all_goals simp [Aa]
inductive eG (C:List κ) (E:List<|κ×κ):κ->Prop
 | out {x:κ}:x∉C->eG C E x
 | on {x y:κ}:(x,y)∈E\/(y,x)∈E->eG C E y->eG C E x
theorem eG.cross{C:List κ}{E:List (κ×κ)}{x:κ}(h:eG C E x):x∈C->∃ p q,((p,q)∈E\/(q,p)∈E)/\p∈C/\q∉C:=by
 induction h with
 | out h=>exact λz=>absurd z h
 | @on x y e _ ih=>
  intro hx
  by_cases hy:y∈C
  ·exact ih hy
  ·exact⟨x,y,e,hx,hy⟩
theorem fH:∀(n:Nat) (C:List κ),C.length=n->C.Nodup->∀ E:List<|κ×κ,(∀ x∈C,eG C E x)->0 < De C E
 | 0,C,hn,_,E,_=>by
  rw [Bt.mp hn,zf];decide
 | n+1,C,hn,hC,E,h=>by
  have aY:C≠[]:=λz=>by rw [z] at hn;cases hn
  obtain⟨x,hx⟩:=Eb C aY;obtain⟨p,q,he,hp,hq⟩:=(h x hx).cross hx;have mM:p≠q:=λz=>hq<|z ▸ hp;have rest:∀(e:κ×κ),e∈E->(e=(p,q)\/e=(q,p))->0 < De (C.erase p) (E.erase e):=λe zh qS=>by
   refine fH n (C.erase p) (by rw [Db hp,hn];rfl) (hC.erase p) _ λy hy=>?_;have fB:=(hC.mem_erase_iff).mp hy;have go:∀{z:κ},eG C E z->eG (C.erase p) (E.erase e) z:=by
    intro z hz
    induction hz with
    | out h=>exact .out λk=>h<|Dk k
    | @on u v k _ ih=>
     by_cases hu:u∈C.erase p
     ·have oB:=(hC.mem_erase_iff).mp hu;have Iq:u≠q:=λz=>hq<|z ▸ oB.2;refine .on ?_ ih
      rcases k with k | k
      ·refine .inl<|(Ek λz=>?_).mpr k
       rcases qS with r | r <;> rw [r] at z <;> cases z
       ·exact oB.1 rfl
       ·exact Iq rfl
      ·refine .inr<|(Ek λz=>?_).mpr k
       rcases qS with r | r <;> rw [r] at z <;> cases z
       ·exact Iq rfl
       ·exact oB.1 rfl
     ·exact .out hu
   exact go<|h y fB.2
  have fin:∀ e,e∈E->(e=(p,q)\/e=(q,p))->0 < De C E:=λe zh qS=>by
   have r:=rest e zh qS;rw [kS (List.Perm.refl C)<|Fq zh];have b:=(oA (E.erase e) C hC).1
   rcases qS with rfl | rfl
   ·rw [uM hC];have:mg C p q (E.erase (p,q))=De (C.erase p) (E.erase (p,q)):=by
     unfold mg;rw [BJ (λz=>by rcases z with z | z;exact mM z;exact z.1 hp),BK hq]
    omega
   ·rw [uM hC];have:mg C q p (E.erase (q,p))=De (C.erase p) (E.erase (q,p)):=by
     unfold mg;rw [BJ (λz=>by rcases z with z | z;exact mM z.symm;exact z.2 hp),BJ λz=>z hp,BK hq]
    omega
  rcases he with he | he
  ·exact fin _ he<|.inl rfl
  ·exact fin _ he<|.inr rfl
theorem Ir{a b:κ}{C:List κ}(ha:a∉C)(hb:b∉C)(E:List<|κ×κ):De C (E.map<|rl b a)=De C E:=uL λx hx j hj=>by
 have q:∀ y∈C,∀ e:κ×κ,ed (rl b a e) y=ed e y:=λy hy e=>by
  obtain⟨s,t⟩:=e;have na:y≠a:=λz=>ha<|z ▸ hy;have nb:y≠b:=λz=>hb<|z ▸ hy;unfold ed rl
  by_cases h1:s=b <;> by_cases h2:t=b <;> simp [h1,h2,na,nb]
 unfold Lp;rw [Be,Be,Be]
 congr 1
 refine Bk λe _=>?_;show ed (rl b a e) x * ed (rl b a e) j=ed e x * ed e j;rw [q x hx,q j hj]
def cn:List Nat->List (Nat×Nat)->Int
 | part,[]=>if part.all (λh=>h == part.headD 0)=true then 1 else 0
 | part,(x,y) :: es=>cn part es+if part.getD x 0=part.getD y 0 then 0 else cn (part.map λh=>if h=part.getD y 0 then part.getD x 0 else h) es
theorem zi:∀(es:List<|Nat×Nat) (part C:List Nat),part≠[]->(∀ e∈es,e.1 < part.length/\e.2 < part.length)->C.Nodup->(∀ a,a∈C↔a∈part/\a≠part.headD 0)->cn part es=De C (es.map λe=>(part.getD e.1 0,part.getD e.2 0))
 | [],part,C,h0,_,hC,hm=>by
  show(if part.all (λh=>h == part.headD 0)=true then(1:Int) else 0)=De C [];cases C with
  | nil=>
   rw [BK,zf];rw [Dd];intro a ha
   by_cases e:a=part.headD 0
   ·exact beq_iff_eq.mpr e
   ·exact nomatch (hm a).mpr ⟨ha,e⟩
  | cons a C=>
   rw [BJ,Ij];intro h;obtain⟨h1,h2⟩:=(hm a).mp<|Ak ..;exact h2<|beq_iff_eq.mp<|Dd.mp h a h1
 | (x,y) :: es,part,C,h0,hb,hC,hm=>by
  obtain⟨hx,hy⟩:=hb _<|Ak ..;have hx:x < part.length:=hx;have hy:y < part.length:=hy;have jS:∀ e∈es,e.1 < part.length/\e.2 < part.length:=λe he=>hb e<|Aq _ he;have ma:part.getD x 0∈part:=by rw [Bx,Ab hx];exact By hx
  have mb:part.getD y 0∈part:=by rw [Bx,Ab hy];exact By hy
  show cn part es+(if part.getD x 0=part.getD y 0 then 0 else cn (part.map λh=>if h=part.getD y 0 then part.getD x 0 else h) es)=De C ((part.getD x 0,part.getD y 0) :: es.map λe=>(part.getD e.1 0,part.getD e.2 0));rw [uM hC,zi es part C h0 jS hC hm]
  congr 1
  by_cases cb:part.getD x 0=part.getD y 0
  ·rw [BK cb];unfold mg;rw [BK<|.inl cb]
  rw [BJ cb];have lk:∀ k,k < part.length->(part.map λh=>if h=part.getD y 0 then part.getD x 0 else h).getD k 0=if part.getD k 0=part.getD y 0 then part.getD x 0 else part.getD k 0:=λk hk=>by
   simp only [Bx,Ad,Ab hk,Ff,LC]
  have hd:(part.map λh=>if h=part.getD y 0 then part.getD x 0 else h).headD 0=if part.headD 0=part.getD y 0 then part.getD x 0 else part.headD 0:=by
   cases part with
   | nil=>exact absurd rfl h0
   | cons a r=>rfl
  have mh:part.headD 0∈part:=by
   cases part with
   | nil=>exact absurd rfl h0
   | cons a r=>exact Ak ..
  have mN:∀ c,c∈(part.map λh=>if h=part.getD y 0 then part.getD x 0 else h)↔c∈part/\c≠part.getD y 0:=λc=>by
   rw [At]
   constructor
   ·rintro ⟨d,hd,rfl⟩
    by_cases e:d=part.getD y 0
    ·rw [BK e];exact⟨ma,cb⟩
    ·rw [BJ e];exact⟨hd,e⟩
   ·rintro ⟨h1,h2⟩;exact⟨c,h1,BJ h2⟩
  have Sv:(es.map λe=>((part.map λh=>if h=part.getD y 0 then part.getD x 0 else h).getD e.1 0,(part.map λh=>if h=part.getD y 0 then part.getD x 0 else h).getD e.2 0))=(es.map λe=>(part.getD e.1 0,part.getD e.2 0)).map (rl (part.getD y 0)<|part.getD x 0):=by
   rw [Be];refine Bk λe he=>?_;rw [lk e.1 (jS e he).1,lk e.2 (jS e he).2];rfl
  have use:∀ C',C'.Nodup->(∀ c,c∈C'↔(c∈part/\c≠part.getD y 0)/\c≠if part.headD 0=part.getD y 0 then part.getD x 0 else part.headD 0) ->
    cn (part.map λh=>if h=part.getD y 0 then part.getD x 0 else h) es=De C' ((es.map λe=>(part.getD e.1 0,part.getD e.2 0)).map<|rl (part.getD y 0)<|part.getD x 0):=λC' hn hc=>by
   rw [zi es _ C' (λz=>h0<|Dv.mp z) (λe he=>by rw [Aa];exact jS e he) hn λc=>by rw [hd,mN,hc],Sv]
  generalize (es.map λe=>(part.getD e.1 0,part.getD e.2 0))=E at *;generalize part.getD x 0=a at *;generalize part.getD y 0=b at *;unfold mg
  by_cases oC:part.headD 0=b
  ·
   have nb:b∉C:=λz=>((hm b).mp z).2 oC.symm;have ha:a∈C:=(hm a).mpr ⟨ma,λz=>cb<|z.trans oC⟩;rw [BJ (λz=>by rcases z with z | z;exact cb z;exact z.1 ha),BK nb,use (C.erase a) (hC.erase a) λc=>by
    rw [hC.mem_erase_iff,hm c,BK oC,oC]
    constructor
    ·rintro ⟨h1,h2,h3⟩;exact⟨⟨h2,h3⟩,h1⟩
    ·rintro ⟨⟨h2,h3⟩,h1⟩;exact⟨h1,h2,h3⟩]
   exact Ir (λz=>((hC.mem_erase_iff).mp z).1 rfl) (λz=>nb<|Dk z) E
  ·have iO:b∈C:=(hm b).mpr ⟨mb,λz=>oC z.symm⟩;have cc:∀ c,c∈C.erase b↔(c∈part/\c≠b)/\c≠if part.headD 0=b then a else part.headD 0:=λc=>by
    rw [hC.mem_erase_iff,hm c,BJ oC]
    constructor
    ·rintro ⟨h1,h2,h3⟩;exact⟨⟨h2,h1⟩,h3⟩
    ·rintro ⟨⟨h2,h1⟩,h3⟩;exact⟨h1,h2,h3⟩
   rw [BJ (λz=>by rcases z with z | z;exact cb z;exact z.2 iO),BJ λz=>z iO,use (C.erase b) (hC.erase b) cc]
   by_cases ha:a∉C
   ·rw [BK ha];exact Ir (λz=>ha<|Dk z) (λz=>((hC.mem_erase_iff).mp z).1 rfl) E
   ·rw [BJ ha]
section
variable{κ:Type}
structure qT(l:κ->κ->Int)(C:List κ):Prop where
 good:∀ p q,C=p++q->Good l p.reverse
 pos:∀ p q,C=p++q->0 < mm l p.reverse/\mm l p.reverse < 1073741824
 all:∀ p q,C=p++q->∀ i∈q,∀ j∈q,-(2 ^ 64) < MM l p.reverse i j/\MM l p.reverse i j < 2 ^ 64
theorem Iu{l:κ->κ->Int}:∀{K:List κ},(∀ a b,K=a++b->mm l b≠0)->Good l K
 | [],_=>trivial
 | k :: K,h=>⟨h [] _ rfl,Iu λa b e=>h (k :: a) b<|by rw [e];rfl⟩
end
variable{κ:Type} [DecidableEq κ]
theorem eG.less{C p:List κ}{E:List (κ×κ)}(hp:∀ x∈p,x∈C){x:κ}(h:eG C E x):eG p E x:=by
 induction h with
 | out h=>exact .out λz=>h<|hp _ z
 | on k _ ih=>exact .on k ih
theorem Sw(n:Nat)(h:n<=29):(2:Int) ^ n < 1073741824:=by
 have:∀ n,n < 30->(2:Int) ^ n < 1073741824:=by decide
 exact this n<|by omega
theorem jX{C:List κ}{E:List (κ×κ)}(hC:C.Nodup)(hE:E.length<=29)(h:∀ x∈C,eG C E x):qT (Lp<|E.map ed) C:=by
 have nz:∀ K:List κ,K.Nodup->(∀ x∈K,x∈C)->0 < De K E:=λK hn hs=>fH _ K rfl hn E λx hx=>(h x<|hs x hx).less hs;have bd:∀ K:List κ,K.Nodup->0<=De K E/\De K E < 1073741824:=λK hn=>by
  have b:=oA E K hn;exact⟨b.1,Int.lt_of_le_of_lt b.2<|Sw _ hE⟩
 have nd:∀ p q,C=p++q->p.reverse.Nodup/\∀ x∈p.reverse,x∈C:=λp q e=>by
  rw [e] at hC;exact⟨(List.reverse_perm p).nodup_iff.mpr (Cz.mp hC).1,λx hx=>by rw [e];exact Av _<|List.mem_reverse.mp hx⟩
 have gd:∀ K:List κ,K.Nodup->(∀ x∈K,x∈C)->Good (Lp<|E.map ed) K:=λK hn hs=>Iu λa b e=>by
  rw [e] at hn hs;exact Int.ne_of_gt<|nz b (Cz.mp hn).2.1 λx hx=>hs x<|Aj _ hx
 refine⟨λp q e=>gd _ (nd p q e).1 (nd p q e).2,λp q e=>⟨nz _ (nd p q e).1 (nd p q e).2,(bd _ (nd p q e).1).2⟩,λp q e i hi j hj=>?_⟩;obtain⟨n1,n2⟩:=nd p q e;have ip:=hC;rw [e] at ip;have dis:=(Cz.mp ip).2.2;have ni:i∉p.reverse:=λz=>dis i (List.mem_reverse.mp z) i hi rfl;have nj:j∉p.reverse:=λz=>dis j (List.mem_reverse.mp z) j hj rfl;have ci:i∈C:=by rw [e];exact Aj _ hi
 have cj:j∈C:=by rw [e];exact Aj _ hj
 have bi:=bd (i :: p.reverse)<|Cc.mpr ⟨ni,n1⟩;have bj:=bd (j :: p.reverse)<|Cc.mpr ⟨nj,n1⟩
 by_cases cS:i=j
 ·subst cS;have:MM (Lp<|E.map ed) p.reverse i i=De (i :: p.reverse) E:=rfl;rw [this];omega
 have gi:Good (Lp<|E.map ed) (i :: p.reverse):=gd _ (Cc.mpr ⟨ni,n1⟩) λx hx=>by
  rcases Ax.mp hx with r | r
  ·rw [r];exact ci
  ·exact n2 x r
 have s:=jW gi j j;have b2:=(bd (j :: i :: p.reverse) (Cc.mpr ⟨λz=>by
  rcases Ax.mp z with r | r
  ·exact cS r.symm
  ·exact nj r,Cc.mpr ⟨ni,n1⟩⟩)).1
 have b3:=nz p.reverse n1 n2;have e1:MM (Lp<|E.map ed) p.reverse i i=De (i :: p.reverse) E:=rfl;have e2:MM (Lp<|E.map ed) p.reverse j j=De (j :: p.reverse) E:=rfl;have e3:MM (Lp<|E.map ed) (i :: p.reverse) j j=De (j :: i :: p.reverse) E:=rfl;have e4:mm (Lp<|E.map ed) p.reverse=De p.reverse E:=rfl;have sy:=uK (λa b=>Sh _ a b) (gd _ n1 n2) j i;rw [e1,e2,e3,e4,sy] at s;generalize MM (Lp<|E.map ed) p.reverse i j=x at s ⊢;generalize De (i :: p.reverse) E=a at *;generalize De (j :: p.reverse) E=b at *;have pr:0<=De p.reverse E * De (j :: i :: p.reverse) E:=Int.mul_nonneg (by omega) b2;have ab:b * a<=1073741824 * 1073741824:=PL (by omega) (by omega) bi.1 (by decide);have xx:x * x<=1073741824 * 1073741824:=by omega
 constructor
 ·refine Int.not_le.mp λz=>?_;have:(2 ^ 64:Int) * 2 ^ 64<=(-x) * (-x):=PL (by omega) (by omega) (by decide) (by omega);have e:(-x) * (-x)=x * x:=by grind
  rw [e] at this;exact absurd (QJ this xx)<|by decide
 ·refine Int.not_le.mp λz=>?_;have:(2 ^ 64:Int) * 2 ^ 64<=x * x:=PL z z (by decide) (by omega);exact absurd (QJ this xx)<|by decide
def hl(a b x j:κ):Int:=if a=b then 0 else if x=a then(if j=a then 1 else 0) - (if j=b then 1 else 0) else 0
theorem mO(a b x j:κ):ed (a,b) x * ed (a,b) j=hl a b x j+hl b a x j:=by
 unfold ed hl
 by_cases h0:a=b
 ·subst h0;simp
 ·by_cases h1:x=a <;> by_cases h2:x=b <;> by_cases h3:j=a <;> by_cases h4:j=b <;> simp_all
theorem jY(F:Nat->Nat->Int)(a y j:Nat):(if y=a then(if j=a then F a a+1 else F a j) else F y j)=F y j+hl (a+1) 0 (y+1) (j+1):=by
 unfold hl
 by_cases h1:y=a
 ·subst h1
  by_cases h2:j=y
  ·subst h2;simp
  ·simp [h2]
 ·simp [h1]
theorem jZ(F:Nat->Nat->Int){a c:Nat}(h:c≠a)(y j:Nat):(if y=a then(if j=c then F a c - 1 else if j=a then F a a+1 else F a j) else F y j)=F y j+hl (a+1) (c+1) (y+1) (j+1):=by
 unfold hl
 by_cases h1:y=a
 ·subst h1
  by_cases h2:j=c
  ·subst h2;simp [h,Ne.symm h];omega
  ·by_cases h3:j=y
   ·subst h3;simp [h2]
   ·simp [h2,h3,Ne.symm h]
 ·simp [h1]
end Dt
namespace W6
open PySem L2 Nt a6
structure TabAt(H:Hp)(tb:Addr)(ts:List Addr)(M:List<|List Int):Prop where
 len:ts.length=M.length
 lst:H tb=some (.lst<|ts.map V.ref)
 row:∀(i:Nat) a r,ts[i]?=some a->M[i]?=some r->H a=some (.lst<|r.map V.int)
 inj:ts.Nodup
theorem TabAt.same{H H':Hp}{tb:Addr}{ts:List Addr}{M:List (List Int)}(h:TabAt H tb ts M)(s:ag H H'):TabAt H' tb ts M:=⟨h.len,s _ _ h.lst,λi a r h1 h2=>s _ _<|h.row i a r h1 h2,h.inj⟩
theorem qU{ts:List Addr}{i:Nat}{a:Addr}(h:ts[i]?=some a):di (ts.map V.ref) (i:Int)=some (.ref a):=gF<|by rw [Ad,h];rfl
theorem oD{r:List Int}{i:Nat}{v:Int}(h:r[i]?=some v):di (r.map V.int) (i:Int)=some (.int v):=gF<|by rw [Ad,h];rfl
theorem Sx(ts:List Addr)(i:Nat):bM (ts.map V.ref) (some (i:Int)) none=(ts.drop i).map V.ref:=by
 unfold bM;rw [HT.dc,HT.cF,Aa];rw [Ci (by rw [Cb,Aa];omega),QD]
 rcases QG i ts.length with h | h
 ·rw [Ed h]
 ·rw [KH h,Cy (by simp),Cy<|by simpa using h]
section
variable{X:Cx}{elt tg:Expr}{ifs:List Expr}{scope:Scope}{σ:St}{H:Hp}{N':List Str}{A:Addr}{after:Hp->Prop}
theorem zj{lo:Int}{n:Nat}(Pv:Nat->St->Hp->Prop)(h0:Pv 0 σ H)
  (hs : ∀ i σ' H', i < n → Pv i σ' H' → tO X N' scope tg (.int<|lo + i) σ' H' λσ2 H3 => tP X N' scope ifs σ2 H3 λb H4 =>
   if b=true then tN X N' scope elt σ2 H4 λv H5=>∃ ys,H5 A=some (.lst ys)/\ys.length < sizeLine/\Pv (i+1) σ2 (upd H5 A<|.lst<|ys++[v]) else Pv (i+1) σ2 H4)
  (hd:∀ σ' H',Pv n σ' H'->after H'):kr X N' scope tg ifs elt (lr lo n) A after σ H:=by
 refine⟨λi m σ' H'=>m=n - i/\i<=n/\Pv i σ' H',⟨_,rfl,Br _,h0⟩,?_⟩;rintro i m σ' H' ⟨rfl,hi,p⟩
 by_cases aE:i < n
 ·refine .inr ⟨aE,Pv<|i+1,λσ' H' p'=>⟨n - (i+1),by omega,rfl,aE,p'⟩,λx H2 y=>?_⟩;obtain⟨e,y⟩:=y;subst e y;exact hs i σ' _ aE p
 ·have e:i=n:=by omega
  subst e;exact .inl ⟨Ah _,hd σ' H' p⟩
end
theorem Sy(l:Nat->Nat->Int)(i j:Nat):Dt.MM l [] i j=l i j:=by
 show l i j * 1 - 0=l i j;omega
def zl:Sp:=λvs H Q _=>∃(tb:Addr) (ts:List Addr) (l:Nat->Nat->Int) (C:List Nat),vs=[.ref tb]/\TabAt H tb ts (C.map λi=>C.map<|l i)/\Dt.qT l C/\C.length<=60/\∀ H',ag H H'->Q (.int<|Dt.mm l C.reverse) H'
section
variable{P:Program}{w:World}{K:PySem.W.Frag}{mg:Str->Option Value}{base:Heap}
abbrev Iv:List Str:=["table","last","corner"]
abbrev mP:List Str:=["table","last","corner","line"]
abbrev qV:List Str:=["table","last","corner","line","place"]
theorem qW:au Iv ["table"] (aV l5):=⟨rfl,rfl,rfl,by decide +kernel,rfl,by decide +kernel,by decide +kernel⟩
theorem Sz:mP.Nodup:=by decide +kernel
theorem SA:qV.Nodup:=by decide +kernel
def SD:Scope:=match g9 l5 with
 | [_,.While _ [_,.Assign _ (.ListComp _ _ sc _) _,_] _ _,_]=>sc
 | _=>aV l5
def SE:Scope:=relabel SD<|PyProof.Rows.envOfC "determinant" (aV l5) 0 0 .none
theorem SF{f:Addr}{fd:FuncData}(F:bz K "determinant" "determinant" l5 f fd)(T:Txt mg):aC P w K mg base bp 1 f fd ["table"] zl:=by
 refine F.gb qW (λvs H Q E h=>?_) λb0 H vs Q E hr h=>?_
 ·obtain⟨tb,ts,l,C,rfl,_⟩:=h;rfl
 obtain⟨tb,ts,l,C,rfl,hT,hF,hC,q⟩:=h;have nd:=qW.nd;show Run _ _ _ [some<|.ref tb,none,none] H;refine run_set 1 nd<|ay ?_;show Run _ _ _ [some<|.ref tb,some<|.int 1,none] H;refine tX (λm σ H'=>∃(p qq:List Nat) (tb:Addr) (ts:List Addr) (u:Option V),C=p++qq/\m=qq.length/\ag H H'/\TabAt H' tb ts (qq.map λi=>qq.map<|Dt.MM l p.reverse i)/\σ=[some<|.ref tb,some<|.int<|Dt.mm l p.reverse,u]) (m0:=C.length) ⟨[],C,tb,ts,_,rfl,rfl,ag.refl _,?_,rfl⟩ ?_
 ·rw [show(C.map λi=>C.map<|Dt.MM l ([]:List Nat).reverse i)=C.map λi=>C.map (l i) from Bk λi _=>Bk λj _=>Sy l i j];exact hT
 rintro m σ H1 ⟨p,qq,tb,ts,u,ip,hm,s1,oE,rfl⟩;have qX:=oE.len;rw [Aa] at qX;refine ER (af 0 (v:= .ref tb) ⟨!ts.isEmpty,Or.inl ⟨ts.map V.ref,ak.of oE.lst,by cases ts <;> rfl⟩,?_⟩);cases qq with
 | nil=>
  have e:ts=[]:=Bt.mp qX;rw [e];rw [Bc] at ip;refine bN<|cq<|af 1 ?_;have:=q H1 s1;rw [ip] at this;exact this
 | cons k q'=>
 cases ts with
 | nil=>cases qX
 | cons a0 cr=>
 refine bf ?_;have zo:cr.length=q'.length:=Nat.succ.inj qX;have lC:q'.length<=59:=by
  have:=BZ List.length ip;rw [Ae,Ar] at this;omega
 have e0:=oE.row 0 a0 _ rfl rfl;obtain⟨mp,ml⟩:=hF.pos p _ ip;have Iw:C=(p++[k])++q':=by rw [ip,Aw];rfl
 have gd:=hF.good (p++[k]) q' Iw;rw [Dh] at gd;have gd:Dt.Good l (k :: p.reverse):=gd;have sv:=λi j=>Dt.jW gd i j;have bd:=hF.all p _ ip;generalize Iy:p.reverse=KK at *;have mk:k∈k :: q':=Ak ..;show Run _ _ _ [some<|.ref tb,some<|.int<|Dt.mm l KK,u] H1;refine run_set 2 nd<|aS bx<|aS bx<|af 0<|ay ⟨tb,_,_,.ref a0,rfl,rfl,ak.of oE.lst,qU (i:=0) rfl,ay ⟨a0,_,_,.int<|Dt.MM l KK k k,rfl,rfl,ak.of e0,oD (i:=0) rfl,?_⟩⟩;show Run _ _ _ [some<|.ref tb,some<|.int<|Dt.mm l KK,some<|.int<|Dt.MM l KK k k] H1;refine run_set 0 nd<|jf (aV l5) Iv mP 1 (ja a5)<|pT pJ<|af 0<|pV<|ay ⟨1,rfl,pU ⟨tb,_,rfl,ak.of oE.lst,λp1 iL=>?_⟩⟩;rw [show bM ((a0 :: cr).map V.ref) (some 1) none=cr.map V.ref from Sx (a0 :: cr) 1];have sp:=aQ iL<|.lst<|cr.map V.ref;have ep:(upd H1 p1<|.lst<|cr.map V.ref) p1=some (.lst<|cr.map V.ref):=ae;have s2:=s1.trans sp;have uN:=oE.same sp;generalize upd H1 p1 (.lst<|cr.map V.ref)=H2 at s2 ep uN ⊢;have SG:=uN.row 0 a0 _ rfl rfl;refine⟨p1,rfl,⟨_,ak.of ep⟩,λA hA=>?_⟩;refine jR (xs:=cr.map V.ref) (λi σ' H'=>(∃ v,σ'=[some<|.ref tb,some<|.int<|Dt.mm l KK,some<|.int<|Dt.MM l KK k k]++[v])/\∃ us:List Addr,us.length=i/\H' A=some (.lst<|us.map V.ref)/\(∀(j:Nat) a c,us[j]?=some a->q'[j]?=some c->H' a=some (.lst<|(q'.map<|Dt.MM l (k :: KK) c).map V.int))/\us.Nodup/\A∉us/\ag H2 H') ⟨⟨none,rfl⟩,[],rfl,ae,λj a c h=>by simp at h,Dg,Dl,aQ hA _⟩ ?_ ?_ ?_
 ·rintro i σ' H' _ ⟨_,us,_,_,_,_,_,sm⟩;exact ak.of<|sm _ _ ep
 ·rintro i x σ' H' hx ⟨⟨v,rfl⟩,us,hl,eA,j4,jL,zp,sm⟩;rw [Ad,Ap] at hx;obtain⟨a,ha,rfl⟩:=hx;have hi:i < q'.length:=by
   have:=(Ac.mp ha).1;omega
  obtain⟨c,hc⟩:∃ c,q'[i]?=some c:=⟨_,Ab hi⟩;have mc:c∈k :: q':=Aq _<|Au hc;have ea:=(uN.same sm).row (i+1) a _ (by rw [Co];exact ha) (by rw [Ad,Co,hc];rfl);have SH:=sm _ _ SG;have Iz:=sm _ _ uN.lst;intro cl C' s₀ H₀ ex;refine aW 3 Sz ?_;intro cl C' s₀ H₀ ex;refine fZ<|bf ?_;intro cl C' s₀ H₀ ex;refine jf SE mP qV 1 (L0 rfl T.range (ta:=tJ _ _) fX (jI _ [_] _ rfl) (jI _ [] _ rfl)) ?_;show Ea _ _ _ _ _;refine ao<|ay<|ao<|b9 cZ T.len CW<|ao<|af 0<|aw ⟨tb,_,rfl,.inl<|ak.of Iz,aw ⟨_,_,rfl,⟨by decide,by decide,?_,?_⟩,λD hD=>?_⟩⟩
  ·rw [Aa];omega
  ·rw [Aa,Ar];omega
  rw [Aa,Ar,zo,show(((q'.length+1:Nat):Int) - 1).toNat=q'.length by omega];refine zj (λt σ' cM=>(∃ v,σ'=[some<|.ref tb,some<|.int<|Dt.mm l KK,some<|.int<|Dt.MM l KK k k,some<|.ref a]++[v])/\ag H' cM/\cM D=some (.lst<|((q'.take t).map<|Dt.MM l (k :: KK) c).map V.int)) ⟨⟨none,rfl⟩,aQ hD _,ae⟩ ?_ ?_
  ·rintro t σ' cM ht ⟨⟨v,rfl⟩,sn,eD⟩;obtain⟨j,hj⟩:∃ j,q'[t]?=some j:=⟨_,Ab ht⟩;have mj:j∈k :: q':=Aq _<|Au hj;have et:(1:Int)+(t:Int)=((t+1:Nat):Int):=by omega
   rw [et];intro cl C' s₀ H₀ ex;refine aW 4 SA ?_;intro cl C' s₀ H₀ ex;refine fZ<|bf ?_;intro cl C' s₀ H₀ ex;refine aN fT (aN wd<|aN nG<|aS bx<|af 3<|af 4 ⟨a,_,_,.int<|Dt.MM l KK c j,rfl,rfl,ak.of<|sn _ _ ea,oD (i:=t+1) (by rw [Ad,Co,hj];rfl),af 2 ⟨_,_,rfl,rfl,.inl<|bd c mc j mj,?_⟩⟩);refine aN nG<|aS bx<|af 3<|ay ⟨a,_,_,.int<|Dt.MM l KK c k,rfl,rfl,ak.of<|sn _ _ ea,oD (i:=0) rfl,?_⟩;refine aS bx (aS bx<|af 0<|ay ⟨tb,_,_,.ref a0,rfl,rfl,ak.of<|sn _ _ Iz,qU (i:=0) rfl,af 4 ⟨a0,_,_,.int<|Dt.MM l KK k j,rfl,rfl,ak.of<|sn _ _ SH,oD (i:=t+1) (by rw [Ad,Co,hj];rfl),?_⟩⟩);refine⟨_,_,rfl,rfl,.inl<|bd c mc k mk,_,_,rfl,rfl,af 1 ⟨_,_,rfl,rfl,⟨mp,ml⟩,?_⟩⟩;have ev:=BZ V.int<|(BZ (λz=>z / Dt.mm l KK)<|sv c j).trans<|Int.mul_ediv_cancel_left _<|Int.ne_of_gt mp;refine⟨_,eD,?_,⟨_,rfl⟩,cL sn hD,?_⟩
   ·rw [Aa,Aa,Ay];exact bQ<|by omega
   ·rw [ae,Cj,hj,Ag,Ag];exact BZ (λz=>some<|HO.lst<|(((q'.take t).map<|Dt.MM l (k :: KK) c).map V.int)++[z]) ev
  ·rintro σ' cM ⟨_,sn,eD⟩;rw [Bi] at eD;have IA:D≠A:=λe=>by rw [e,eA] at hD;cases hD
   have SJ:D∉us:=λhm=>by
    obtain⟨j,hj⟩:=Ba hm;have jl:=(Ac.mp hj).1;have:=j4 j D _ hj (Ab<|by omega);rw [hD] at this;cases this
   refine⟨_,sn _ _ eA,?_,⟨_,rfl⟩,us++[D],by rw [Ae,hl];rfl,by rw [ae,Ag];rfl,λj b d hb hd=>?_,kq jL SJ,λhm=>?_,cL (sm.trans sn) hA⟩
   ·rw [Aa];exact bQ<|by omega
   ·by_cases hj:j < us.length
    ·rw [Bb hj] at hb;rw [av λe:b=A=>zp<|e ▸ Au hb];exact sn _ _<|j4 j b d hb hd
    ·rw [Az<|by omega] at hb;have dL:j - us.length=0:=by
      have:=(Ac.mp hb).1;simp at this;omega
     have qG:j=i:=by omega
     rw [dL] at hb;cases hb;rw [qG,hc] at hd;cases hd;rw [av IA];exact eD
   ·rcases Al.mp hm with h | h
    ·exact zp h
    ·exact IA (Af.mp h).symm
 ·rintro σ' H3 ⟨_,us,hl,eA,j4,jL,zp,sm⟩;rw [Aa] at hl;show Run _ _ _ [some<|.ref A,some<|.int<|Dt.mm l KK,some<|.int<|Dt.MM l KK k k] H3;refine run_set 1 nd<|af 2<|aP ⟨q'.length,by rw [hm];exact Nat.lt_succ_self _,p++[k],q',A,us,some<|.int<|Dt.MM l KK k k,Iw,rfl,s2.trans sm,⟨by rw [Aa];omega,eA,λi a r h1 h2=>?_,jL⟩,?_⟩
  ·rw [Ad,Ap] at h2;obtain⟨c,hc,rfl⟩:=h2;have:=j4 i a c h1 hc;rw [Dh,Iy];exact this
  ·rw [Dh,Iy];rfl
end
end W6
namespace Nt
open PySem L2
theorem uO{X:Cx}{H:Hp}{k:Nat}(z:Str):jh X H k (.str z) (.str z) true:=by
 have:=xD (X:=X) (H:=H) (k:=k) (x:= .str z) (y:= .str z) rfl rfl;have e:fz (.str z) (.str z)=true:=by show(z == z)=true;simp
 rw [e] at this;exact this
theorem IB{X:Cx}{H:Hp}{a b:Addr}{zs:List Str}(ha:H a=some (Ls zs))(hb:H b=some (Ls zs)):jN X H 1 (.ref a) (.ref b) true:=by
 have q:=FD (X:=X) (k:=0) (λ_=>true) (ak.of (K:=X.K) ha) (ak.of (K:=X.K) hb) rfl λj x y hx hy=>by
  rw [hx] at hy;cases hy;rw [Ad,Ap] at hx;obtain⟨z,_,rfl⟩:=hx;exact uO z
 rw [nV] at q;exact q
theorem SK{X:Cx}{H:Hp}{a b:Addr}{zs:List Str}(ha:H a=some (Ls zs))(hb:H b=some (Ls zs)):lY X H 1 (.ref a) (.ref b) true:=by
 have q:=tV (X:=X) (k:=0) (λ_=>true) (ak.of (K:=X.K) ha) (ak.of (K:=X.K) hb) rfl λj x y hx hy=>by
  rw [hx] at hy;cases hy;rw [Ad,Ap] at hx;obtain⟨z,_,rfl⟩:=hx;exact uO z
 rw [nV] at q;exact q
theorem uP{X:Cx}{H:Hp}{k:Nat}{a b:Addr}(h:jN X H k (.ref a) (.ref b) true):jh X H k (.ref a) (.ref b) true:=by
 by_cases e:a=b
 ·subst e;exact OZ
 ·exact O0 e h
theorem SL{X:Cx}{H:Hp}{R R':Addr}{as bs:List (Addr×Addr)}{n:Net}(h:aj H R as n)(g:aj H R' bs n):lY X H 3 (.ref R) (.ref R') true:=by
 have q:=tV (X:=X) (k:=2) (λ_=>true) (ak.of (K:=X.K) h.lst) (ak.of (K:=X.K) g.lst) (by rw [Aa,Aa,h.len,g.len]) λj x y hx hy=>by
  rw [Ad,Ap] at hx hy;obtain⟨a,ea,rfl⟩:=hx;obtain⟨b,eb,rfl⟩:=hy;have hj:j < n.length:=by
   have:=(Ac.mp ea).1;have:=h.len;omega
  obtain⟨q1,q2⟩:=h.tup j a n[j] ea<|Ab hj;obtain⟨q3,q4⟩:=g.tup j b n[j] eb<|Ab hj;have t:=xE (X:=X) (k:=1) (λ_=>true) (aK.of (K:=X.K) q1) (aK.of (K:=X.K) q3) rfl λi x y hx hy=>by
   match i with
   | 0=>cases hx;cases hy;exact uO _
   | 1=>cases hx;cases hy;exact uP<|IB q2 q4
   | i+2=>simp at hx
  rw [nV] at t;exact uP t
 rw [nV] at q;exact q
open PyProof.Rows (sortedS)
theorem SM(a b c:List Str)(h:∀ z,z∈c↔(if z∈a then z∉b else z∈b)):∀ zs:List Str,(zs.filter λz=>c.contains z).length % 2=((zs.filter λz=>a.contains z).length+(zs.filter λz=>b.contains z).length) % 2
 | []=>rfl
 | z :: r=>by
  have ih:=SM a b c h r;have hz:=h z;have ca:=λ(l:List Str)=>(Gh (as:=l) (a:=z));simp only [Fu]
  by_cases ha:z∈a <;> by_cases hb:z∈b
  ·have hc:z∉c:=λq=>by have:=hz.mp q;rw [BK ha] at this;exact this hb
   rw [BK<|(ca a).mpr ha,BK<|(ca b).mpr hb,BJ λq=>hc<|(ca c).mp q,Ar,Ar];omega
  ·have hc:z∈c:=hz.mpr (by rw [BK ha];exact hb);rw [BK<|(ca a).mpr ha,BJ λq=>hb<|(ca b).mp q,BK<|(ca c).mpr hc,Ar,Ar];omega
  ·have hc:z∈c:=hz.mpr (by rw [BJ ha];exact hb);rw [BJ λq=>ha<|(ca a).mp q,BK<|(ca b).mpr hb,BK<|(ca c).mpr hc,Ar,Ar];omega
  ·have hc:z∉c:=λq=>by have:=hz.mp q;rw [BJ ha] at this;exact hb this
   rw [BJ λq=>ha<|(ca a).mp q,BJ λq=>hb<|(ca b).mp q,BJ λq=>hc<|(ca c).mp q];exact ih
theorem IC{a:List Str}(hn:a.Nodup):∀ l:List Str,(l.filter λz=>a.contains z).length=(a.map λz=>l.count z).sum
 | []=>by
  have:∀ a:List Str,(a.map λz=>([]:List Str).count z).sum=0:=λa=>by
   induction a with
   | nil=>rfl
   | cons x r ih=>rw [Bq,Fh,ih];rfl
  rw [this];rfl
 | y :: l=>by
  have ih:=IC hn l;have key:∀ a:List Str,(a.map λz=>(y :: l).count z).sum=(a.map λz=>l.count z).sum+a.count y:=λa=>by
   induction a with
   | nil=>rfl
   | cons x r ih=>
    rw [Bq,Fh,ih,Bq,Fh,Fy,Fy]
    by_cases h:y=x
    ·rw [BK (by simp [h]),BK<|by simp [h]];omega
    ·rw [BJ (by simpa using h),BJ<|by simpa using λq=>h<|Eq.symm q];omega
  rw [key,Fu,<- ih,hn.count]
  by_cases h:y∈a
  ·rw [BK<|Gh.mpr h,BK h,Ar]
  ·rw [BJ λq=>h<|Gh.mp q,BJ h];rfl
theorem qY{n:Net}(T:cv n){ss:List Str}(hn:ss.Nodup)(hm:∀ z∈ss,z∈ah n):2 * ss.length<=(ah n).length:=by
 have h:=IC hn<|ah n;have e:∀ l:List Str,(∀ z∈l,z∈ah n)->(l.map λz=>(ah n).count z).sum=2 * l.length:=λl=>by
  induction l with
  | nil=>intro _;rfl
  | cons x r ih=>
   intro hl;rw [Bq,Fh,ih λz hz=>hl z<|Aq _ hz,T x<|hl x<|Ak ..,Ar];omega
 rw [e ss hm] at h;rw [<- h];exact Dy _ _
theorem SN{x y:Str}(h:x≠y):x.cps.toList < y.cps.toList\/y.cps.toList < x.cps.toList:=by
 by_cases q:x.cps.toList < y.cps.toList
 ·exact .inl q
 ·rcases List.le_iff_lt_or_eq.mp (Gv.mp q) with q | q
  ·exact .inr q
  ·exact absurd (bP.f7 q).symm h
theorem IE(x:Str):∀ sd:List Str,aZ sd->∃ oF,aZ oF/\∀ y,y∈oF↔y=x\/y∈sd
 | [],_=>⟨[x],MJ _ _,λy=>by simp⟩
 | z :: r,h=>by
  have h:=Cr.mp h
  by_cases e:x=z
  ·subst e;exact⟨x :: r,Cr.mpr h,λy=>by simp⟩
  ·rcases SN e with q | q
   ·refine⟨x :: z :: r,Cr.mpr ⟨λy hy=>?_,Cr.mpr h⟩,λy=>Ax⟩
    rcases Ax.mp hy with rfl | hy
    ·exact q
    ·exact Fw q<|h.1 y hy
   ·obtain⟨oF,hs,hm⟩:=IE x r h.2;refine⟨z :: oF,Cr.mpr ⟨λy hy=>?_,hs⟩,λy=>?_⟩
    ·rcases (hm y).mp hy with rfl | hy
     ·exact q
     ·exact h.1 y hy
    ·rw [Ax,hm y,Ax];exact⟨λk=>by rcases k with k | k | k <;> simp [k],λk=>by rcases k with k | k | k <;> simp [k]⟩
theorem IG:∀ l:List Str,∃ sd,aZ sd/\∀ x,x∈sd↔x∈l
 | []=>⟨[],List.Pairwise.nil,λ_=>Iff.rfl⟩
 | x :: r=>by
  obtain⟨sd,hs,hm⟩:=IG r;obtain⟨oF,dI,qZ⟩:=IE x sd hs;exact⟨oF,dI,λy=>by rw [qZ y,hm y,Ax]⟩
theorem zq{α:Type}:∀{l:List α},l.Nodup->∀{i j:Nat} {x:α},l[i]?=some x->l[j]?=some x->i=j
 | [],_,i,j,x,h,_=>by simp at h
 | a :: l,hn,i,j,x,h1,h2=>by
  obtain⟨na,hl⟩:=Cc.mp hn;cases i with
  | zero=>
   cases j with
   | zero=>rfl
   | succ j=>
    cases h1;rw [Co] at h2;exact absurd (Au h2) na
  | succ i=>
   cases j with
   | zero=>
    cases h2;rw [Co] at h1;exact absurd (Au h1) na
   | succ j=>
    rw [Co] at h1 h2;rw [zq hl h1 h2]
def rn(n:Net)(p:Str):Nat:=(n.map (·.1)).idxOf p
def cu(n:Net)(ls:List Lk):List (Nat×Nat):=ls.map λx=>(rn n x.2.1,rn n x.2.2)
theorem zt{n:Net}{p:Str}(h:p∈n.map (·.1)):rn n p < n.length/\(n.map (·.1))[rn n p]?=some p:=by
 have hl:rn n p < (n.map (·.1)).length:=List.idxOf_lt_length_iff.mpr h;refine⟨by rw [Aa] at hl;exact hl,?_⟩;rw [Ab hl]
 congr 1
 exact List.getElem_idxOf hl
theorem jo{n:Net}(hN:(n.map (·.1)).Nodup){r:Nat}(h:r < n.length):rn n (bv n r)=r:=by
 have e:(n.map (·.1))[r]?=some (bv n r):=by rw [Ad,Ab h,kH h];rfl
 exact zq hN (zt<|Au e).2 e
theorem jq{n:Net}{z:Str}{e:End}(h:e∈pos n z):e.1 < n.length/\z∈row n e.1:=by
 have h:=bZ.mp h;unfold dQ at h;have hz:=Au h;refine⟨?_,hz⟩
 by_cases hl:e.1 < n.length
 ·exact hl
 ·unfold row at hz;rw [Da<|by omega] at hz;cases hz
theorem SQ{n:Net}(T:cv n)(hN:(n.map (·.1)).Nodup){x:Lk}(h:iJ n x):(rn n x.2.1 < n.length/\(n.map (·.1))[rn n x.2.1]?=some x.2.1)/\(rn n x.2.2 < n.length/\(n.map (·.1))[rn n x.2.2]?=some x.2.2):=by
 obtain⟨a,b,hp,h1,h2⟩:=h;have la:=(jq (n:=n) (z:=x.1) (e:=a)<|by rw [hp];simp).1;have lb:=(jq (n:=n) (z:=x.1) (e:=b)<|by rw [hp];simp).1;have ma:bv n a.1∈n.map (·.1):=by rw [kH la];exact At.mpr ⟨_,By la,rfl⟩
 have mb:bv n b.1∈n.map (·.1):=by rw [kH lb];exact At.mpr ⟨_,By lb,rfl⟩
 rw [h1,h2];exact⟨zt ma,zt mb⟩
theorem zu{n:Net}{x:Lk}(h:iJ n x):x.1∈ah n:=by
 obtain⟨a,b,hp,_⟩:=h;have:=l3 n x.1;rw [hp] at this;exact Fz.mp<|by rw [<- this];exact QF _
theorem SR{n:Net}(T:cv n){ls:List Lk}(so:ls.Pairwise λx y=>x.1.cps.toList < y.1.cps.toList)(mem:∀ x,x∈ls↔iJ n x):2 * ls.length<=(ah n).length:=by
 have hn:(ls.map (·.1)).Nodup:=List.Pairwise.map (λx:Lk=>x.1) (R:=λx y:Lk=>x.1.cps.toList < y.1.cps.toList) (λx y h e=>by
  rw [e] at h;exact Dp _ h) so
 have:=qY T hn λz hz=>by
  obtain⟨x,hx,rfl⟩:=At.mp hz;exact zu<|(mem x).mp hx
 rw [Aa] at this;omega
theorem bI(m:Nat):((List.range m).map (·+1)).Nodup:=by
 refine List.Pairwise.map _ (R:=λa b=>a≠b) (λa b h e=>h<|by omega) KQ
theorem cw{m x:Nat}:x∈(List.range m).map (·+1)↔1<=x/\x<=m:=by
 rw [At]
 constructor
 ·rintro ⟨a,ha,rfl⟩;have:=Cw.mp ha;omega
 ·rintro ⟨h1,h2⟩;exact⟨x - 1,Cw.mpr (by omega),by omega⟩
theorem SU{n:Net}(T:cv n){ls:List Lk}(mem:∀ x,x∈ls↔iJ n x)(hN:(n.map (·.1)).Nodup){r s:Nat}{t:Str}(hr:t∈row n r)(hs:t∈row n s)(QM:r < n.length)(jV:s < n.length):r=s\/(r,s)∈cu n ls\/(s,r)∈cu n ls:=by
 obtain⟨i,hi⟩:=Ba hr;obtain⟨j,hj⟩:=Ba hs;have ti:dQ n (r,i)=some t:=hi;have tj:dQ n (s,j)=some t:=hj;obtain⟨a,b,hp,cb,he⟩:=xH T ti;have uQ:(s,j)∈pos n t:=bZ.mpr tj;rw [hp] at uQ;have lk:(t,bv n a.1,bv n b.1)∈ls:=(mem _).mpr ⟨a,b,hp,rfl,rfl⟩;have la:=(jq (n:=n) (z:=t) (e:=a)<|by rw [hp];simp).1;have lb:=(jq (n:=n) (z:=t) (e:=b)<|by rw [hp];simp).1;have ml:(a.1,b.1)∈cu n ls:=At.mpr ⟨_,lk,by show(rn n<|bv n a.1,rn n<|bv n b.1)=_;rw [jo hN la,jo hN lb]⟩;have uQ:(s,j)=a\/(s,j)=b:=by simpa using uQ
 rcases he with e1 | e1 <;> rcases uQ with e2 | e2
 ·left
  have:=e1.trans e2.symm;exact BZ Prod.fst this
 ·right;left
  rw [<- e1,<- e2] at ml;exact ml
 ·right;right
  rw [<- e1,<- e2] at ml;exact ml
 ·left
  have:=e1.trans e2.symm;exact BZ Prod.fst this
theorem IH{n:Net}(T:cv n)(hN:(n.map (·.1)).Nodup)(hg:cG n)(h0:n≠[]){ls:List Lk}(mem:∀ x,x∈ls↔iJ n x):∀ x∈(List.range<|n.length - 1).map (·+1),Dt.eG ((List.range<|n.length - 1).map (·+1)) (cu n ls) x:=by
 have dv:0 < n.length:=Cg.mpr h0;have key:=hg (λp=>Dt.eG ((List.range<|n.length - 1).map (·+1)) (cu n ls)<|rn n p) ⟨n[0],By dv,by
  have:rn n n[0].1=0:=by
   have:=jo hN dv;rw [kH dv] at this;exact this
  show Dt.eG _ _ (rn n n[0].1);rw [this];exact .out λz=>by have:=(cw.mp z).1;omega⟩ (λr hr s hs t h1 h2 e=>by
   obtain⟨i,hi,rfl⟩:=Em.mp hr;obtain⟨j,hj,rfl⟩:=Em.mp hs;have ei:=jo hN hi;have ej:=jo hN hj;rw [kH hi] at ei;rw [kH hj] at ej;show Dt.eG _ _ (rn n n[j].1);have e:Dt.eG _ _ (rn n n[i].1):=e;rw [ei] at e;rw [ej];have ri:row n i=n[i].2:=by unfold row;rw [Ab hi];rfl
   have rj:row n j=n[j].2:=by unfold row;rw [Ab hj];rfl
   rcases SU T mem hN (r:=i) (s:=j) (t:=t) (by rw [ri];exact h1) (by rw [rj];exact h2) hi hj with k | k | k
   ·rw [<- k];exact e
   ·exact .on (.inr k) e
   ·exact .on (.inl k) e)
 intro x hx;have jr:=cw.mp hx;have aE:x < n.length:=by omega
 have:=key n[x]<|By aE;have ex:=jo hN aE;rw [kH aE] at ex;have this:Dt.eG _ _ (rn n n[x].1):=this;rw [ex] at this;exact this
end Nt
namespace W6
open PySem L2 Nt a6
theorem II{n j:Nat}(h:j < n):jD n (j:Int)=some j:=by
 unfold jD;rw [BK (by omega),BK<|by omega];rfl
def uR(ts:List Addr)(H H':Hp):Prop:=∀ b o,b∉ts->H b=some o->H' b=some o
theorem TabAt.SV{H:Hp}{tb:Addr}{ts:List Addr}{M:List (List Int)}(h:TabAt H tb ts M):tb∉ts:=λhm=>by
 obtain⟨i,hi⟩:=Ba hm;have il:=(Ac.mp hi).1;have ll:=h.len;have e:=h.row i tb _ hi (Ab<|by omega);rw [h.lst] at e;have e:=HO.lst.inj<|Option.some.inj e;cases ts with
 | nil=>cases hm
 | cons a ts=>
  rw [Bq] at e;generalize M[i]'(by omega)=r at e;cases r with
  | nil=>cases e
  | cons v r=>cases (List.cons.inj e).1
theorem TabAt.put{H:Hp}{tb a:Addr}{ts:List Addr}{M:List (List Int)}(h:TabAt H tb ts M){i:Nat}(hi:ts[i]?=some a)(r:List Int):TabAt (upd H a<|.lst<|r.map V.int) tb ts (M.set i r):=by
 have ma:=Au hi;have il:=(Ac.mp hi).1;have ll:=h.len;refine⟨by rw [List.length_set];exact h.len,by rw [av λe:tb=a=>h.SV<|e ▸ ma];exact h.lst,λk b s h1 h2=>?_,h.inj⟩
 by_cases e:k=i
 ·subst e;rw [hi] at h1;cases h1;rw [Dw<|by omega] at h2;cases h2;exact ae
 ·rw [Ee<|Ne.symm e] at h2;have nb:b≠a:=λz=>e<|by
   subst z;exact zq h.inj h1 hi
  rw [av nb];exact h.row k b s h1 h2
def tab(m:Nat)(F:Nat->Nat->Int):List (List Int):=(List.range m).map λi=>(List.range m).map<|F i
theorem oG{m:Nat}{F:Nat->Nat->Int}{i:Nat}(h:i < m):(tab m F)[i]?=some ((List.range m).map<|F i):=by
 unfold tab;rw [Ad,Ct h];rfl
theorem uS{m:Nat}{g:Nat->Int}{i:Nat}(h:i < m):((List.range m).map g)[i]?=some (g i):=by
 rw [Ad,Ct h];rfl
theorem IJ{m:Nat}{F G:Nat->Nat->Int}{i:Nat}(h:i < m)(hg:∀ k,k≠i->∀ j,G k j=F k j):(tab m F).set i ((List.range m).map<|G i)=tab m G:=by
 refine Dr λk=>?_
 by_cases e:k=i
 ·subst e;rw [Dw (by unfold tab;rw [Aa,Bf];exact h),oG h]
 ·rw [Ee<|Ne.symm e];unfold tab;rw [Ad,Ad];cases hk:(List.range m)[k]? with
  | none=>rfl
  | some x=>
   have:x=k:=by
    have hl:=(Ac.mp hk).1;rw [Bf] at hl;rw [Ct hl] at hk;exact(Option.some.inj hk).symm
   subst this;show some _=some _
   congr 1
   exact Bk λj _=>(hg x e j).symm
theorem zv{m:Nat}{g:Nat->Int}{i:Nat}{v:Int}(h:i < m):((List.range m).map g).set i v=(List.range m).map λj=>if j=i then v else g j:=by
 refine Dr λk=>?_
 by_cases e:k=i
 ·subst e;rw [Dw (by rw [Aa,Bf];exact h),uS h,BK rfl]
 ·rw [Ee<|Ne.symm e,Ad,Ad];cases hk:(List.range m)[k]? with
  | none=>rfl
  | some x=>
   have:x=k:=by
    have hl:=(Ac.mp hk).1;rw [Bf] at hl;rw [Ct hl] at hk;exact(Option.some.inj hk).symm
   subst this;show some (g x)=some (if x=i then v else g x);rw [BJ e]
def zx:Sp:=λvs H Q _=>∃(R:Addr) (as:List<|Addr×Addr) (n:Net),vs=[.ref R]/\aj H R as n/\n.length<=1000/\∀ L H',ag H H'->H L=none->H' L=some (Ls (n.map (·.1)))->Q (.ref L) H'
def zy:Sp:=λvs H Q _=>∃(R:Addr) (as:List<|Addr×Addr) (n:Net),vs=[.ref R]/\aj H R as n/\cv n/\(n.map (·.1)).Nodup/\n≠[]/\n.length<=60/\(ah n).length<=60 /\
 ∀(tb:Addr) (ts:List Addr) (ls:List Lk) (H':Hp),ag H H'->TabAt H' tb ts (tab (n.length - 1) λi j=>Dt.Lp ((cu n ls).map Dt.ed) (i+1)<|j+1)->ow ls->(∀ x,x∈ls↔iJ n x)->Q (.ref tb) H'
def uT:Sp:=λvs H Q _=>∃(R:Addr) (as:List<|Addr×Addr) (n:Net),vs=[.ref R]/\aj H R as n/\cv n/\(n.map (·.1)).Nodup/\n≠[]/\n.length<=60/\(ah n).length<=58/\cG n /\
 ∀(ls:List Lk) (H':Hp),ag H H'->ow ls->(∀ x,x∈ls↔iJ n x)->Q (.int (Dt.De ((List.range<|n.length - 1).map (·+1))<|cu n ls)) H'
section
variable{P:Program}{w:World}{K:PySem.W.Frag}{mg:Str->Option Value}{base:Heap}
abbrev IL:List Str:=["rows"]
abbrev ra:List Str:=["rows","point","ties"]
theorem zA:au IL ["rows"] (aV uh):=⟨rfl,rfl,rfl,by decide +kernel,rfl,by decide +kernel,by decide +kernel⟩
theorem IM:ra.Nodup:=by decide +kernel
theorem SW{f:Addr}{fd:FuncData}(F:bz K "points_of" "points_of" uh f fd)(T:Txt mg):aC P w K mg base bp 1 f fd ["rows"] zx:=by
 refine F.gb zA (λvs H Q E h=>?_) λb0 H vs Q E hr h=>?_
 ·obtain⟨R,as,n,rfl,_⟩:=h;rfl
 obtain⟨R,as,n,rfl,hR,hn,q⟩:=h;have cC:=hR.len;show Run _ _ _ [some<|.ref R] H;refine cq<|jf (aV uh) IL ra 2 (ja a5)<|af 0 ⟨R,rfl,⟨_,ak.of hR.lst⟩,λD hD=>?_⟩;refine jR (xs:=as.map λa=>V.ref a.1) (λi σ' H'=>(∃ v1 v2,σ'=[some<|.ref R]++[v1,v2])/\H' D=some (Ls ((n.take i).map (·.1)))/\ag H H') ⟨⟨none,none,rfl⟩,ae,aQ hD _⟩ ?_ ?_ ?_
 ·rintro i σ' H' _ ⟨_,_,sm⟩;exact ak.of<|sm _ _ hR.lst
 ·rintro i x σ' H' hx ⟨⟨v1,v2,rfl⟩,eD,sm⟩;have hi:i < n.length:=by
   have:=(Ac.mp hx).1;rw [Aa] at this;omega
  obtain⟨b,eb,eC,et,el,er⟩:=(hR.same sm).at hi;rw [Ad,eb] at hx;cases hx;intro cl C' s₀ H₀ ex;refine oa rfl (aK.of et) (aW 1 IM<|aW 2 IM ?_);intro cl C' s₀ H₀ ex;refine fZ<|bf ?_;intro cl C' s₀ H₀ ex;refine af 1 ⟨_,eD,?_,⟨_,_,rfl⟩,?_,cL sm hD⟩
  ·rw [Aa,Aa,Ay];exact bQ<|by omega
  ·rw [ae,Cj,Ab hi,Ag];show _=some (HO.lst<|List.map V.str<|_++_);rw [Ag];rfl
 ·rintro σ' H' ⟨_,eD,sm⟩;rw [Aa,cC,Bi] at eD;exact q D H' sm hD eD
abbrev zB:List Str:=["rows","places","table","tie","one","two","start","goal","line"]
abbrev mQ:List Str:=["rows","places","table","tie","one","two","start","goal","line","place","point"]
abbrev mR:List Str:=["rows","places","table","tie","one","two","start","goal","line","point"]
abbrev rd:List Str:=["rows","places","table","tie","one","two","start","goal","line","point","other"]
theorem rg:au zB ["rows"] (aV kD):=⟨rfl,rfl,rfl,by decide +kernel,rfl,by decide +kernel,by decide +kernel⟩
theorem IP:mQ.Nodup:=by decide +kernel
theorem SY:mR.Nodup:=by decide +kernel
theorem SZ:rd.Nodup:=by decide +kernel
def S0:Scope:=match g9 kD with
 | _ :: .Assign _ (.ListComp _ _ sc _) _ :: _=>sc
 | _=>aV kD
def S1:Scope:=relabel S0<|PyProof.Rows.envOfC "tie_table" (aV kD) 0 0 .none
theorem S4{f:Addr}{fd:FuncData}(F:bz K "tie_table" "tie_table" kD f fd)(T:Txt mg)(GP:aG P w K mg base 1 "points_of" ["rows"] zx)(GL:aG P w K mg base 1 "links_of" ["rows"] qH):aC P w K mg base bp 2 f fd ["rows"] zy:=by
 refine F.gb rg (λvs H Q E h=>?_) λb0 H vs Q E hr h=>?_
 ·obtain⟨R,as,n,rfl,_⟩:=h;rfl
 obtain⟨R,as,n,rfl,hR,hT,hN,h0,hn,kQ,q⟩:=h;have nd:=rg.nd;have hu:=hr.u1;have dv:0 < n.length:=Cg.mpr h0;show Run _ _ _ [some<|.ref R,none,none,none,none,none,none,none,none] H;refine run_set 1 nd (Rp (aV kD) zB mQ 2 (R0 rfl T.enum fX)<|ao<|pT pJ<|bV GP hr<|ao<|af 0<|aw ⟨R,as,n,rfl,hR,by omega,λL H1 s1 n1 e1=>pV<|ay ⟨1,rfl,pU ⟨L,_,rfl,ak.of e1,λp1 iL=>aw ⟨p1,rfl,⟨_,ak.of ae⟩,λD hD=>?_⟩⟩⟩⟩);have sp:=s1.trans (aQ iL (.lst (bM ((n.map (·.1)).map V.str) (some 1) none)));have ep:(upd H1 p1 (.lst (bM ((n.map (·.1)).map V.str) (some 1) none))) p1=some (.lst (bM ((n.map (·.1)).map V.str) (some 1) none)):=ae;generalize upd H1 p1 (.lst (bM ((n.map (·.1)).map V.str) (some 1) none))=H2 at sp ep hD ⊢;rw [show bM ((n.map (·.1)).map V.str) (some 1) none=((n.map (·.1)).drop 1).map V.str from Gz (n.map (·.1)) 1] at ep;have S6:((n.map (·.1)).drop 1).length=n.length - 1:=by rw [Cb,Aa]
 have zC:((n.map (·.1)).drop 1).Nodup:=hN.sublist<|Fm ..;have zD:∀ k p,((n.map (·.1)).drop 1)[k]?=some p↔(n.map (·.1))[k+1]?=some p:=λk p=>by rw [List.getElem?_drop,Nat.add_comm]
 generalize (n.map (·.1)).drop 1=ps at ep S6 zC zD;intro cl C s₀ H₀ ex;refine Se (xs:=ps.map V.str) (λi σ' H'=>(∃ v1 v2,σ'=[some<|.ref R,none,none,none,none,none,none,none,none]++[v1,v2])/\ag H2 H'/\∃ kvs:List<|Key×V,H' D=some (.dK kvs)/\kvs.map (·.1)=(ps.take i).map Sum.inr/\(∀(k:Nat) p,k < i->ps[k]?=some p->aA kvs (Sum.inr p)=some (.int (k:Int)))/\∀ p,p∉ps.take i->aA kvs (Sum.inr p)=none)
  ⟨⟨none,none,rfl⟩,aQ hD _,[],ae,rfl,λk p h=>absurd h<|MP _,λp _=>rfl⟩ ?_ ?_ ?_
 ·rintro i σ' H' _ ⟨_,sm,_⟩;exact ak.of<|sm _ _ ep
 ·rintro i x Tt σ' H' hx ⟨⟨v1,v2,rfl⟩,sm,kvs,eD,hk,hv,uU⟩ S7;rw [Ad,Ap] at hx;obtain⟨p,hp,rfl⟩:=hx;have IQ:=(Ac.mp hp).1;have sT:=aQ S7<|.tup [.int (i:Int),.str p];have kl:kvs.length=i:=by
   have:=BZ List.length hk;rw [Aa,Aa,Ay] at this;omega
  have S8:p∉ps.take i:=λhm=>by
   obtain⟨k,lR⟩:=Ba hm;have uV:=(Ac.mp lR).1;rw [Ay] at uV;rw [Es<|by omega] at lR;have:=o5 zC lR hp;omega
  refine oa rfl (aK.of ae) (aW 9 IP<|aW 10 IP ?_);refine fZ<|bf<|Ro (X:=fW _ mQ _ cl C s₀ H₀ ex) hu<|af 10<|af 9 ⟨_,cQ.k (k:=Sum.inr p) (sT _ _ eD) (bQ<|by omega),⟨_,_,rfl⟩,cL (sm.trans sT) hD,_,ae,?_,λk r h1 h2=>?_,λr gK=>?_⟩
  ·rw [oe,hk,BJ λhm=>?_,Cj,hp,Ag]
   ·rfl
   ·obtain⟨y,hy,e⟩:=At.mp hm;cases e;exact S8 hy
  ·rw [fV]
   by_cases e:(Sum.inr r:Key)=Sum.inr p
   ·rw [BK e];cases e;rw [o5 zC h2 hp]
   ·rw [BJ e];refine hv k r ?_ h2;refine Fb (by omega) λz=>e ?_;rw [z,hp] at h2;cases h2;rfl
  ·rw [fV,BJ λe=>?_]
   ·exact uU r λhm=>gK<|by rw [Cj];exact Av _ hm
   ·cases e;exact gK<|by rw [Cj,hp];exact Aj _<|Af.mpr rfl
 rintro σ' H3 ⟨_,sm3,kvs,eD,hk,hv,uU⟩;rw [Aa,Bi] at hk uU;rw [Aa] at hv;have kl:kvs.length=n.length - 1:=by
  have:=BZ List.length hk;rw [Aa,Aa] at this;omega
 have rh:=sp.trans sm3;have S9:H D=none:=kP sp hD;show Run _ _ _ [some<|.ref R,some<|.ref D,none,none,none,none,none,none,none] H3;refine tS 2 (aV kD) zB mR 1 nd (Qv a5)<|af 1 ⟨D,kvs,rfl,eD,λo tb uW=>?_⟩;have ef:(upd H3 D<|.cK o<|.dK kvs) D=some (.cK o<|.dK kvs):=ae;have sF:ag H (upd H3 D<|.cK o<|.dK kvs):=cL rh S9;generalize upd H3 D (.cK o<|.dK kvs)=H4 at ef sF uW ⊢;refine GU (o:=o) (kvs:=kvs) (λi σ' H'=>(∃ v,σ'=[some<|.ref R,some<|.ref D,none,none,none,none,none,none,none]++[v])/\ag H4 H'/\∃ ts:List Addr,ts.length=i/\H' tb=some (.lst<|ts.map V.ref)/\(∀ a∈ts,H' a=some (.lst<|(List.replicate (n.length - 1) (0:Int)).map V.int)/\H4 a=none/\a≠tb)/\ts.Nodup) ⟨⟨none,rfl⟩,aQ uW _,[],rfl,ae,λa h=>(nomatch h),Dg⟩ ?_ ?_ ?_
 ·rintro i σ' H' _ ⟨_,sm,_⟩;exact sm _ _ ef
 ·rintro i pr σ' H' S' ⟨⟨v,rfl⟩,sm,ts,hl,eT,kU,jL⟩;have IQ:=(Ac.mp S').1;intro cl C s₀ H₀ ex;refine aW 9 SY ?_;intro cl C s₀ H₀ ex;refine fZ<|bf ?_;intro cl C s₀ H₀ ex;refine jf S1 mR rd 1 (Sb a5)<|af 1 ⟨D,o,kvs,rfl,sm _ _ ef,λD2 js=>?_⟩;refine GU (o:=o) (kvs:=kvs) (λj σ' cM=>(∃ v,σ'=[some<|.ref R,some<|.ref D,none,none,none,none,none,none,none,some<|kV pr.1]++[v])/\ag H' cM/\cM D2=some (.lst<|(List.replicate j (0:Int)).map V.int)) ⟨⟨none,rfl⟩,aQ js _,ae⟩ ?_ ?_ ?_
  ·rintro j σ' cM _ ⟨_,sn,_⟩;exact sn _ _<|sm _ _ ef
  ·rintro j pj σ' cM Ta ⟨⟨v,rfl⟩,sn,iq⟩;have oh:=(Ac.mp Ta).1;intro cl C s₀ H₀ ex;refine aW 10 SZ ?_;intro cl C s₀ H₀ ex;refine fZ<|bf ?_;intro cl C s₀ H₀ ex;refine ay ⟨_,iq,?_,⟨_,rfl⟩,cL sn js,?_⟩
   ·rw [Aa,Dj];exact bQ<|by omega
   ·rw [ae,List.replicate_succ',Ag];rfl
  ·rintro σ' cM ⟨_,sn,iq⟩;rw [kl] at iq;have n2:D2≠tb:=λe=>by rw [e,eT] at js;cases js
   refine⟨_,sn _ _ eT,?_,⟨_,rfl⟩,cL (sm.trans sn) uW,ts++[D2],by rw [Ae,hl];rfl,by rw [ae,Ag];rfl,λa ha=>?_,kq jL λhm=>?_⟩
   ·rw [Aa];exact bQ<|by omega
   ·rcases Al.mp ha with ha | ha
    ·obtain⟨h1,h2,h3⟩:=kU a ha;exact⟨by rw [av h3];exact sn _ _ h1,h2,h3⟩
    ·rw [Af.mp ha];exact⟨by rw [av n2];exact iq,kP sm js,n2⟩
   ·have:=(kU D2 hm).1;rw [js] at this;cases this
 rintro σ' H5 ⟨_,IT,ts,hl,eT,kU,jL⟩;have hl:ts.length=n.length - 1:=by omega
 have V':H tb=none:=kP sF uW;have T0:TabAt H5 tb ts (tab (n.length - 1) λ_ _=>0):=by
  refine⟨by unfold tab;rw [Aa,Bf];exact hl,eT,λi a r h1 h2=>?_,jL⟩;have il:=(Ac.mp h1).1;rw [oG<|by omega] at h2;cases h2;rw [(kU a<|Au h1).1]
  congr 2
  congr 1
  refine Dr λk=>?_
  by_cases hk:k < n.length - 1
  ·rw [uS hk,Dq,BK hk]
  ·rw [Da (by rw [Dj];omega),Da<|by rw [Aa,Bf];omega]
 have Tb:=IT _ _ ef;have fr:∀ a∈ts,H a=none:=λa ha=>kP sF (kU a ha).2.1;have IU:=sF.trans IT;have zE:D∉ts:=λhm=>by
  have:=(kU D hm).2.1;rw [ef] at this;cases this
 show Run _ _ _ [some<|.ref R,some<|.ref D,some<|.ref tb,none,none,none,none,none,none] H5;refine jd (bV GL hr<|ao<|af 0<|aw ⟨R,as,n,rfl,hR.same IU,hT,by omega,by omega,λL us ls H6 s6 n6 eL bW so mem Wa=>⟨L,rfl,⟨_,ak.of eL⟩,?_⟩⟩);have T6:=T0.same s6;have Tc:=s6 _ _ Tb;have fk:=IU.trans s6;have Td:L∉ts:=λhm=>by
  obtain⟨i,hi⟩:=Ba hm;have il:=(Ac.mp hi).1;have:=T0.row i L _ hi (oG<|by omega);rw [n6] at this;cases this
 have Te:∀ x∈ls,(rn n x.2.1 < n.length/\(n.map (·.1))[rn n x.2.1]?=some x.2.1)/\(rn n x.2.2 < n.length/\(n.map (·.1))[rn n x.2.2]?=some x.2.2):=λx hx=>SQ hT hN<|(mem x).mp hx;have uX:∀{p:Str} {r:Nat},(n.map (·.1))[r]?=some p->aA kvs (Sum.inr p)=if r=0 then none else some (.int ((r - 1:Nat):Int)):=λ{p r} h=>by
  by_cases e:r=0
  ·rw [BK e];refine uU p λhm=>?_;obtain⟨k,lR⟩:=Ba hm;have:=o5 hN ((zD k p).mp lR) h;omega
  ·rw [BJ e];have IY:ps[r - 1]?=some p:=(zD (r - 1) p).mpr (by rw [show r - 1+1=r by omega];exact h);exact hv (r - 1) p (Ac.mp IY).1 IY
 refine je (xs:=us.map V.ref) (λk σ' H'=>(∃ v3 v4 v5 v6 v7 v8,σ'=[some<|.ref R,some<|.ref D,some<|.ref tb,v3,v4,v5,v6,v7,v8])/\uR ts H6 H'/\TabAt H' tb ts (tab (n.length - 1) λi j=>Dt.Lp ((cu n<|ls.take k).map Dt.ed) (i+1)<|j+1)) ⟨⟨_,_,_,_,_,_,rfl⟩,λb o _ h=>h,T6⟩ ?_ ?_ ?_
 ·rintro k σ' H' _ ⟨_,sm,_⟩;exact ak.of<|sm _ _ Td eL
 ·rintro k x σ' H7 hx ⟨⟨v3,v4,v5,v6,v7,v8,rfl⟩,uY,T7⟩;rw [Ad,Ap] at hx;obtain⟨u,cT,rfl⟩:=hx;have hj:k < ls.length:=by
   have:=(Ac.mp cT).1;have:=bW.1;omega
  have rk:ls[k]?=some ls[k]:=Ab hj;have dR:=bW.2 k u _ cT rk;have mx:ls[k]∈ls:=By hj;obtain⟨⟨a1,a2⟩,b1,b2⟩:=Te _ mx;have tk:cu n (ls.take<|k+1)=cu n (ls.take k)++[(rn n ls[k].2.1,rn n ls[k].2.2)]:=by
   unfold cu;rw [Cj,rk,Ag];rfl
  rw [tk];generalize ls[k]=lx at dR a1 a2 b1 b2;obtain⟨z,on,tw⟩:=lx;have a2:(n.map (·.1))[rn n on]?=some on:=a2;have b2:(n.map (·.1))[rn n tw]?=some tw:=b2;have a1:rn n on < n.length:=a1;have b1:rn n tw < n.length:=b1;show Eg _ _ _ _ _ _;have Tf:u∉ts:=λhm=>by
   obtain⟨i,hi⟩:=Ba hm;have il:=(Ac.mp hi).1;have:=T6.row i u _ hi (oG<|by omega);rw [dR] at this;cases this
  refine om rfl (aK.of<|uY _ _ Tf dR) (aW 3 nd<|aW 4 nd<|aW 5 nd ?_);show Run _ _ _ [some<|.ref R,some<|.ref D,some<|.ref tb,some<|.str z,some<|.str on,some<|.str tw,v6,v7,v8] H7;refine EW<|dZ<|ao<|dZ<|ao<|af 4<|ao<|af 5<|aw ⟨Z2,λt1 qt=>?_⟩;refine ao<|dZ<|ao<|af 5<|ao<|af 4<|aw ⟨Z2,λt2 eF=>aw ⟨Z2,λtt zF=>?_⟩⟩;have m1:=aQ qt<|.tup [.str on,.str tw];have m2:=aQ eF<|.tup [.str tw,.str on];have m3:=aQ zF<|.tup [.ref t1,.ref t2];have e1:=m3 _ _<|m2 _ _<|ae (H:=H7) (a:=t1) (o:= .tup [.str on,.str tw]);have e2:=m3 _ _<|ae (H:=upd H7 t1<|.tup [.str on,.str tw]) (a:=t2) (o:= .tup [.str tw,.str on]);have e3:=ae (H:=upd (upd H7 t1<|.tup [.str on,.str tw]) t2<|.tup [.str tw,.str on]) (a:=tt) (o:= .tup [.ref t1,.ref t2]);have m:=m1.trans<|m2.trans m3;refine⟨tt,rfl,⟨_,aK.of e3⟩,?_⟩;generalize upd (upd (upd H7 t1<|.tup [.str on,.str tw]) t2<|.tup [.str tw,.str on]) tt (.tup [.ref t1,.ref t2])=H8 at e1 e2 e3 m;have T8:=T7.same m;have IZ:uR ts H6 H8:=λb o nb h=>m _ _<|uY b o nb h;have Ja:∀(t:Addr) (xs:List V),H8 t=some (.tup xs)->t∉ts:=λt xs ht hm=>by
   obtain⟨i,hi⟩:=Ba hm;have il:=(Ac.mp hi).1;have:=T8.row i t _ hi (oG<|by omega);rw [ht] at this;cases this
  have Jb:=IZ _ _ zE Tc;refine EX (xs:=[.ref t1,.ref t2]) (λi σ' H'=>(∃ v6 v7 v8,σ'=[some<|.ref R,some<|.ref D,some<|.ref tb,some<|.str z,some<|.str on,some<|.str tw,v6,v7,v8])/\uR ts H8 H'/\TabAt H' tb ts (tab (n.length - 1) λx j=>Dt.Lp ((cu n<|ls.take k).map Dt.ed) (x+1) (j+1)+(if 0 < i then Dt.hl (rn n on) (rn n tw) (x+1) (j+1) else 0)+(if 1 < i then Dt.hl (rn n tw) (rn n on) (x+1) (j+1) else 0)))
   ⟨⟨_,_,_,rfl⟩,λb o _ h=>h,?_⟩ ?_ ?_ ?_
  ·have:(λx j=>Dt.Lp ((cu n<|ls.take k).map Dt.ed) (x+1) (j+1)+(if 0 < 0 then Dt.hl (rn n on) (rn n tw) (x+1) (j+1) else 0)+(if 1 < 0 then Dt.hl (rn n tw) (rn n on) (x+1) (j+1) else 0))=λx j=>Dt.Lp ((cu n<|ls.take k).map Dt.ed) (x+1) (j+1):=by
    funext x j
    rw [BJ<|Cs 0,BJ<|by decide];omega
   rw [this];exact T8
  ·rintro i σ' H' _ ⟨_,sn,_⟩;exact aK.of<|sn _ _ (Ja _ _ e3) e3
  ·rintro i x σ' H9 hx ⟨⟨v6,v7,v8,rfl⟩,sn,T9⟩;obtain⟨st,gl,t,rfl,et,cY,rp,dq⟩:∃ st gl t,x = .ref t/\H8 t=some (.tup [.str st,.str gl])/\(n.map (·.1))[rn n st]?=some st/\(n.map (·.1))[rn n gl]?=some gl/\∀ y j:Nat,(if 0 < i then Dt.hl (rn n on) (rn n tw) (y+1) (j+1) else 0)+(if 1 < i then Dt.hl (rn n tw) (rn n on) (y+1) (j+1) else 0)+Dt.hl (rn n st) (rn n gl) (y+1) (j+1)=(if 0 < i+1 then Dt.hl (rn n on) (rn n tw) (y+1) (j+1) else 0)+(if 1 < i+1 then Dt.hl (rn n tw) (rn n on) (y+1) (j+1) else 0):=by
    match i with
    | 0=>
     cases hx;exact⟨on,tw,t1,rfl,e1,a2,b2,λy j=>by simp⟩
    | 1=>
     cases hx;exact⟨tw,on,t2,rfl,e2,b2,a2,λy j=>by simp⟩
    | i+2=>simp at hx
   have fin:∀{F:Nat->Nat->Int} {G:Nat->Nat->Int},(∀ y j,G y j=F y j+Dt.hl (rn n st) (rn n gl) (y+1) (j+1))->(∀ y j,F y j=Dt.Lp ((cu n<|ls.take k).map Dt.ed) (y+1) (j+1)+(if 0 < i then Dt.hl (rn n on) (rn n tw) (y+1) (j+1) else 0)+(if 1 < i then Dt.hl (rn n tw) (rn n on) (y+1) (j+1) else 0)) ->
     G=λy j=>Dt.Lp ((cu n<|ls.take k).map Dt.ed) (y+1) (j+1)+(if 0 < i+1 then Dt.hl (rn n on) (rn n tw) (y+1) (j+1) else 0)+(if 1 < i+1 then Dt.hl (rn n tw) (rn n on) (y+1) (j+1) else 0):=λ{F G} h1 h2=>by
    funext y j
    have:=dq y j;rw [h1,h2];omega
   generalize hF:(λx j=>Dt.Lp ((cu n<|ls.take k).map Dt.ed) (x+1) (j+1)+(if 0 < i then Dt.hl (rn n on) (rn n tw) (x+1) (j+1) else 0)+(if 1 < i then Dt.hl (rn n tw) (rn n on) (x+1) (j+1) else 0))=F at T9;have qv:∀ y j,F y j=Dt.Lp ((cu n<|ls.take k).map Dt.ed) (y+1) (j+1)+(if 0 < i then Dt.hl (rn n on) (rn n tw) (y+1) (j+1) else 0)+(if 1 < i then Dt.hl (rn n tw) (rn n on) (y+1) (j+1) else 0):=λy j=>by rw [<- hF]
   have skip:(∀ y j,Dt.hl (rn n st) (rn n gl) (y+1) (j+1)=0)->TabAt H9 tb ts (tab (n.length - 1) λx j=>Dt.Lp ((cu n<|ls.take k).map Dt.ed) (x+1) (j+1)+(if 0 < i+1 then Dt.hl (rn n on) (rn n tw) (x+1) (j+1) else 0)+(if 1 < i+1 then Dt.hl (rn n tw) (rn n on) (x+1) (j+1) else 0)):=λh=>by
    rw [<- fin (G:=F) (λy j=>by rw [h];omega) qv];exact T9
   have zG:=sn _ _ zE Jb;refine oa rfl (aK.of<|sn _ _ (Ja _ _ et) et) (aW 6 nd<|aW 7 nd ?_);show Run _ _ _ [some<|.ref R,some<|.ref D,some<|.ref tb,some<|.str z,some<|.str on,some<|.str tw,some<|.str st,some<|.str gl,v8] H9;refine d0<|nQ<|w6<|dC wj<|af 6<|af 7 ⟨rfl,_,rfl,?_⟩
   by_cases zH:st=gl
   ·subst zH;rw [show(!decide (V.str st=V.str st))=false by simp];refine bN<|bN<|aP<|aP ⟨⟨_,_,_,rfl⟩,sn,skip λy j=>?_⟩;unfold Dt.hl;rw [BK rfl]
   rw [show(!decide (V.str st=V.str gl))=true by simp [zH]];have uZ:rn n st≠rn n gl:=λe=>by
    rw [e,rp] at cY;exact zH (Option.some.inj cY).symm
   refine bf<|w9<|tZ hu<|af 6<|af 1 ⟨D,_,rfl,.inl ⟨kvs,Sum.inr st,.inr ⟨o,zG⟩,rfl,rfl⟩,?_⟩;rw [uX cY]
   by_cases r0:rn n st=0
   ·rw [BK r0];refine bN<|aP<|aP ⟨⟨_,_,_,rfl⟩,sn,skip λy j=>?_⟩;unfold Dt.hl;rw [r0,BJ (by rw [<- r0];exact uZ),BJ<|by omega]
   rw [BJ r0];refine bf ?_;have rl:rn n st < n.length:=by
    have:=(Ac.mp cY).1;rw [Aa] at this;exact this
   obtain⟨a0,y4⟩:∃ a0,rn n st=a0+1:=⟨rn n st - 1,by omega⟩;rw [y4] at cY r0 rl uZ fin;have Jc:aA kvs (Sum.inr st)=some (.int (a0:Int)):=by rw [uX cY,BJ<|by omega];rfl
   have al:a0 < n.length - 1:=by omega
   obtain⟨la,gI⟩:∃ la,ts[a0]?=some la:=⟨_,Ab<|by omega⟩;have Tg:=Au gI;have rq:=T9.row a0 la _ gI<|oG al;refine run_set 8 nd<|aS bx<|af 2<|lZ hu<|af 1<|af 6 ⟨D,_,rfl,.inl ⟨kvs,Sum.inr st,.inr ⟨o,zG⟩,rfl,Jc.symm⟩,tb,_,_,.ref la,rfl,rfl,ak.of T9.lst,qU gI,?_⟩;show Run _ _ _ [some<|.ref R,some<|.ref D,some<|.ref tb,some<|.str z,some<|.str on,some<|.str tw,some<|.str st,some<|.str gl,some<|.ref la] H9;refine HR LJ (af 8<|lZ hu<|af 1<|af 6 ⟨D,_,rfl,.inl ⟨kvs,Sum.inr st,.inr ⟨o,zG⟩,rfl,Jc.symm⟩,la,_,_,.int<|F a0 a0,rfl,rfl,ak.of rq,oD<|uS al,ay ⟨_,_,rfl,rfl,la,_,_,a0,rfl,rfl,rq,II (by rw [Aa,Aa,Bf];exact al),?_⟩⟩);have Jd:∀ b,b∉ts->b≠la:=λb hb e=>hb<|e ▸ Tg;have va:=T9.put gI<|((List.range<|n.length - 1).map<|F a0).set a0<|F a0 a0+1;have zI:upd H9 la (.lst<|(((List.range<|n.length - 1).map<|F a0).map V.int).set a0<|.int<|F a0 a0+1)=upd H9 la (.lst<|(((List.range<|n.length - 1).map<|F a0).set a0<|F a0 a0+1).map V.int):=by rw [List.map_set]
   rw [zI];rw [zv al] at va ⊢;have mS:uR ts H8 (upd H9 la<|.lst<|((List.range<|n.length - 1).map λj=>if j=a0 then F a0 a0+1 else F a0 j).map V.int):=λb o' nb h=>by rw [av<|Jd b nb];exact sn b o' nb h
   have zJ:(upd H9 la<|.lst<|((List.range<|n.length - 1).map λj=>if j=a0 then F a0 a0+1 else F a0 j).map V.int) la=some (.lst<|((List.range<|n.length - 1).map λj=>if j=a0 then F a0 a0+1 else F a0 j).map V.int):=ae;generalize upd H9 la (.lst<|((List.range<|n.length - 1).map λj=>if j=a0 then F a0 a0+1 else F a0 j).map V.int)=zK at va mS zJ ⊢;have rz:=mS _ _ zE Jb;refine d0<|tZ hu<|af 7<|af 1 ⟨D,_,rfl,.inl ⟨kvs,Sum.inr gl,.inr ⟨o,rz⟩,rfl,rfl⟩,?_⟩;rw [uX rp]
   by_cases g0:rn n gl=0
   ·rw [BK g0];refine bN<|aP<|aP<|aP ⟨⟨_,_,_,rfl⟩,mS,?_⟩;rw [<- fin (F:=F) (G:=λy j=>if y=a0 then(if j=a0 then F a0 a0+1 else F a0 j) else F y j) (λy j=>?_) qv,<- IJ (F:=F) al λk hk j=>BJ hk]
    ·simp only [DP];exact va
    ·rw [g0];exact Dt.jY F a0 y j
   rw [BJ g0];refine bf ?_;have Ti:rn n gl < n.length:=by
    have:=(Ac.mp rp).1;rw [Aa] at this;exact this
   obtain⟨c0,Tj⟩:∃ c0,rn n gl=c0+1:=⟨rn n gl - 1,by omega⟩;rw [Tj] at rp g0 Ti uZ fin;have Tl:aA kvs (Sum.inr gl)=some (.int (c0:Int)):=by rw [uX rp,BJ<|by omega];rfl
   have vb:c0 < n.length - 1:=by omega
   have Je:c0≠a0:=λe=>uZ (by rw [e]);refine HR LL (af 8<|lZ hu<|af 1<|af 7 ⟨D,_,rfl,.inl ⟨kvs,Sum.inr gl,.inr ⟨o,rz⟩,rfl,Tl.symm⟩,la,_,_,.int<|F a0 c0,rfl,rfl,ak.of zJ,oD (by rw [uS vb,BJ Je]),ay ⟨_,_,rfl,rfl,la,_,_,c0,rfl,rfl,zJ,II (by rw [Aa,Aa,Bf];exact vb),?_⟩⟩);have Jf:=va.put gI<|((List.range<|n.length - 1).map λj=>if j=a0 then F a0 a0+1 else F a0 j).set c0<|F a0 c0 - 1;rw [show upd zK la (.lst<|(((List.range<|n.length - 1).map λj=>if j=a0 then F a0 a0+1 else F a0 j).map V.int).set c0<|.int<|F a0 c0 - 1)=upd zK la (.lst<|(((List.range<|n.length - 1).map λj=>if j=a0 then F a0 a0+1 else F a0 j).set c0<|F a0 c0 - 1).map V.int) by rw [List.map_set]];refine aP (aP<|aP ⟨⟨_,_,_,rfl⟩,λb o' nb h=>by rw [av<|Jd b nb];exact mS b o' nb h,?_⟩);rw [List.set_set,zv vb] at Jf;rw [zv vb];rw [<- fin (F:=F) (G:=λy j=>if y=a0 then(if j=c0 then F a0 c0 - 1 else if j=a0 then F a0 a0+1 else F a0 j) else F y j) (λy j=>?_) qv,<- IJ (F:=F) al λk hk j=>BJ hk]
   ·simp only [DP];exact Jf
   ·exact Dt.jZ F Je y j
  ·rintro σ' H9 ⟨⟨v6,v7,v8,rfl⟩,sn,T9⟩;refine aP ⟨⟨_,_,_,_,_,_,rfl⟩,λb o' nb h=>sn b o' nb<|IZ b o' nb h,?_⟩;have:(λi j=>Dt.Lp ((cu n (ls.take k)++[(rn n on,rn n tw)]).map Dt.ed) (i+1)<|j+1)=λx j=>Dt.Lp ((cu n<|ls.take k).map Dt.ed) (x+1) (j+1)+(if 0 < [V.ref t1,V.ref t2].length then Dt.hl (rn n on) (rn n tw) (x+1) (j+1) else 0)+(if 1 < [V.ref t1,V.ref t2].length then Dt.hl (rn n tw) (rn n on) (x+1) (j+1) else 0):=by
    funext x j
    rw [BK (by show 0 < 2;decide),BK (by show 1 < 2;decide),Int.add_assoc,<- Dt.mO,Ag];unfold Dt.Lp;rw [Ag,List.sum_append];show _+(Dt.ed _ _ * Dt.ed _ _+0)=_;omega
   show TabAt _ _ _ (tab _ λi j=>Dt.Lp ((cu n (ls.take k)++[(rn n on,rn n tw)]).map Dt.ed) (i+1)<|j+1);rw [this];exact T9
 ·rintro σ' H7 ⟨⟨v3,v4,v5,v6,v7,v8,rfl⟩,uY,T7⟩;rw [Aa,bW.1,Bi] at T7;exact cq<|af 2<|q tb ts ls H7 (λb o' h=>uY b o' (λhm=>by rw [fr b hm] at h;cases h)<|fk _ _ h) T7 so mem
abbrev Tn:List Str:=["rows"]
theorem zL:au Tn ["rows"] (aV xR):=⟨rfl,rfl,rfl,by decide +kernel,rfl,by decide +kernel,by decide +kernel⟩
theorem To{f:Addr}{fd:FuncData}(F:bz K "tree_count" "tree_count" xR f fd)(T:Txt mg)(GT:aG P w K mg base 2 "tie_table" ["rows"] zy)(GD:aG P w K mg base 2 "determinant" ["table"] zl):aC P w K mg base bp 3 f fd ["rows"] uT:=by
 refine F.gb zL (λvs H Q E h=>?_) λb0 H vs Q E hr h=>?_
 ·obtain⟨R,as,n,rfl,_⟩:=h;rfl
 obtain⟨R,as,n,rfl,hR,hT,hN,h0,hn,kQ,hg,q⟩:=h;show Run _ _ _ [some<|.ref R] H;refine cq (bV GD hr<|ao<|bV GT hr<|ao<|af 0<|aw ⟨R,as,n,rfl,hR,hT,hN,h0,hn,by omega,λtb ts ls H1 s1 Tq so mem=>?_⟩);have Tr:((List.range<|n.length - 1).map (·+1)).Nodup:=bI _;refine aw ⟨tb,ts,Dt.Lp<|(cu n ls).map Dt.ed,(List.range<|n.length - 1).map (·+1),rfl,?_,Dt.jX Tr (by unfold cu;rw [Aa];have:=SR hT so mem;omega)<|IH hT hN hg h0 mem,by rw [Aa,Bf];omega,λH2 s2=>?_⟩
 ·rw [Be];have e:tab (n.length - 1) (λi j=>Dt.Lp ((cu n ls).map Dt.ed) (i+1)<|j+1)=(List.range<|n.length - 1).map ((λi=>((List.range<|n.length - 1).map (·+1)).map<|Dt.Lp ((cu n ls).map Dt.ed) i) ∘ (·+1)):=by
   unfold tab;refine Bk λi _=>?_;show _=((List.range<|n.length - 1).map (·+1)).map (Dt.Lp ((cu n ls).map Dt.ed)<|i+1);rw [Be];rfl
  rw [<- e];exact Tq
 ·have e:Dt.mm (Dt.Lp<|(cu n ls).map Dt.ed) ((List.range<|n.length - 1).map (·+1)).reverse=Dt.De ((List.range<|n.length - 1).map (·+1)) (cu n ls):=Dt.gw _ (List.reverse_perm _).symm;rw [e];exact q ls H2 (s1.trans s2) so mem
end
end W6
namespace Dt
def az(part:List Nat)(x y:Nat):List Nat:=part.map λh=>if h=part.getD y 0 then part.getD x 0 else h
def tr:List Nat->List (Nat×Nat)->Nat->Bool
 | part,[],_=>part.all λh=>h == part.headD 0
 | part,(x,y) :: es,k=>if k % 2=1 then(if part.getD x 0=part.getD y 0 then false else tr (az part x y) es (k / 2)) else tr part es (k / 2)
theorem Jg(f:Nat->Bool):∀ n,((List.range<|2 * n).filter f).length=((List.range n).filter λi=>f<|2 * i).length+((List.range n).filter λi=>f<|2 * i+1).length
 | 0=>rfl
 | n+1=>by
  have ih:=Jg f n;rw [show 2 * (n+1)=2 * n+1+1 by omega,Ce,Ce,Ce];simp only [Ez,Ae,Fu,NQ];rw [ih];cases f (2 * n) <;> cases f (2 * n+1) <;> simp <;> omega
theorem iQ:∀(es:List<|Nat×Nat) (part:List Nat),(((List.range<|2 ^ es.length).filter<|tr part es).length:Int)=cn part es
 | [],part=>by
  show(((List.range 1).filter<|tr part []).length:Int)=if part.all (λh=>h == part.headD 0)=true then 1 else 0;have:tr part [] 0=part.all λh=>h == part.headD 0:=rfl;cases h:part.all λh=>h == part.headD 0 with
  | true=>rw [h] at this;simp [Ce,this]
  | false=>rw [h] at this;simp [Ce,this]
 | (x,y) :: es,part=>by
  rw [Ar,LK,QK,Jg];have e1:(λi=>tr part ((x,y) :: es)<|2 * i)=tr part es:=by
   funext i
   show(if(2 * i) % 2=1 then _ else tr part es (2 * i / 2))=_;rw [BJ (by omega),show 2 * i / 2=i by omega]
  have e2:(λi=>tr part ((x,y) :: es)<|2 * i+1)=λi=>if part.getD x 0=part.getD y 0 then false else tr (az part x y) es i:=by
   funext i
   show(if(2 * i+1) % 2=1 then(if part.getD x 0=part.getD y 0 then false else tr (az part x y) es ((2 * i+1) / 2)) else _)=_;rw [BK (by omega),show(2 * i+1) / 2=i by omega]
  rw [e1,e2];show _=cn part es+if part.getD x 0=part.getD y 0 then 0 else cn (az part x y) es;have ih:=iQ es part
  by_cases h:part.getD x 0=part.getD y 0
  ·have e3:(List.range<|2 ^ es.length).filter (λi=>if part.getD x 0=part.getD y 0 then false else tr (az part x y) es i)=[]:=List.filter_eq_nil_iff.mpr λa _=>by rw [BK h];decide
   rw [e3,BK h,Fg];omega
  ·have iP:=iQ es<|az part x y;have e3:(λi=>if part.getD x 0=part.getD y 0 then false else tr (az part x y) es i)=tr (az part x y) es:=funext λi=>BJ h;rw [e3,BJ h];omega
theorem mU{V:Nat}(hV:0 < V){es:List (Nat×Nat)}(h:∀ e∈es,e.1 < V/\e.2 < V):cn (List.range V) es=De ((List.range<|V - 1).map (·+1)) es:=by
 have hd:(List.range V).headD 0=0:=by
  cases V with
  | zero=>omega
  | succ V=>rw [List.range_succ_eq_map];rfl
 rw [zi es (List.range V) ((List.range<|V - 1).map (·+1)) (λz=>by have:=BZ List.length z;rw [Bf] at this;exact absurd this<|by simp;omega) (λe he=>by rw [Bf];exact h e he) (Nt.bI _) λa=>by
  rw [Nt.cw,hd,Cw];omega]
 congr 1
 refine(Bk λe he=>?_).trans<|OD _;have g:∀ k,k < V->(List.range V).getD k 0=k:=λk hk=>by rw [Bx,Ct hk];rfl
 rw [g _ (h e he).1,g _ (h e he).2];rfl
end Dt
namespace Nt
open PySem L2
def dw(n:Net)(z:Str):Nat×Nat:=match pos n z with
 | [a,b]=>(a.1,b.1)
 | _=>(0,0)
theorem vd{n:Net}{z:Str}{a b:End}(h:pos n z=[a,b]):dw n z=(a.1,b.1):=by
 unfold dw;rw [h]
theorem ve{n:Net}(T:cv n){z:Str}(h:z∈ah n):∃ a b,pos n z=[a,b]:=by
 have:=l3 n z;rw [T z h] at this
 match hp:pos n z,this with
 | [a,b],_=>exact⟨a,b,rfl⟩
theorem vf{n:Net}(T:cv n){z:Str}(h:z∈ah n):(dw n z).1 < n.length/\(dw n z).2 < n.length:=by
 obtain⟨a,b,hp⟩:=ve T h;rw [vd hp];exact⟨(jq (n:=n) (z:=z) (e:=a)<|by rw [hp];simp).1,(jq (n:=n) (z:=z) (e:=b)<|by rw [hp];simp).1⟩
theorem Ts{n:Net}(T:cv n)(hN:(n.map (·.1)).Nodup){ls:List Lk}(so:ls.Pairwise λx y=>x.1.cps.toList < y.1.cps.toList)(mem:∀ x,x∈ls↔iJ n x){ss:List Str}(hs:aZ ss)(hm:∀ z,z∈ss↔z∈ah n):cu n ls=ss.map (dw n):=by
 have e:ls.map (·.1)=ss:=by
  refine qi (List.Pairwise.map (λx:Lk=>x.1) (R:=λx y:Lk=>x.1.cps.toList < y.1.cps.toList) (λx y h=>h) so) hs λz=>?_;rw [hm,At]
  constructor
  ·rintro ⟨x,hx,rfl⟩;exact zu<|(mem x).mp hx
  ·intro hz;obtain⟨a,b,hp⟩:=ve T hz;exact⟨(z,bv n a.1,bv n b.1),(mem _).mpr ⟨a,b,hp,rfl,rfl⟩,rfl⟩
 rw [<- e,Be];refine Bk λx hx=>?_;obtain⟨a,b,hp,h1,h2⟩:=(mem x).mp hx;have la:=(jq (n:=n) (z:=x.1) (e:=a)<|by rw [hp];simp).1;have lb:=(jq (n:=n) (z:=x.1) (e:=b)<|by rw [hp];simp).1;show(rn n x.2.1,rn n x.2.2)=dw n x.1;rw [vd hp,h1,h2,jo hN la,jo hN lb]
section
variable{n:Net}{z:Str}{r k:Nat}
theorem Tv(h:r < n.length):row n r=n[r].2:=by unfold row;rw [Ab h];rfl
theorem Jh(h:r < n.length):ah (n.take<|r+1)=ah (n.take r)++row n r:=by
 rw [Tv h];unfold ah;rw [Cj,Ab h,Eu];simp
theorem Tw:ah n=ah (n.take k)++ah (n.drop k):=by
 unfold ah;rw [<- Eu,Bw]
end
end Nt
namespace L2
open PySem Nt
section
variable{X:Cx}{elt tg:Expr}{ifs:List Expr}{scope:Scope}{σ:St}{H:Hp}{N':List Str}{A:Addr}{after:Hp->Prop}
end
section
variable{X:Cx}{σ:St}{H:Hp}{Q:VK}{o e e1:Expr}{pos p1 p2 p3 p4:Pos}{j1:Nat}
end
end L2
namespace Nt
open PySem L2 Classical
section
variable{n:Net}{z:Str}
end
abbrev Lr(lf:List Nat):HO:= .lst<|lf.map λ(r:Nat)=>V.int (r:Int)
theorem zM{H:Hp}{p:Addr}(h:H p=none)(o:HO):ag H (upd H p o):=λb u q=>by rw [av<|bC q h];exact q
theorem zN{H1 H2:Hp}{r:Addr}{o:HO}(s:ag H1 H2)(h:H1 r=none):ag H1 (upd H2 r o):=λb u q=>by
 rw [av<|bC q h];exact s _ _ q
structure iR(H0 H:Hp)(d:Addr)(done:List<|Str×End)(kvs:List<|Key×V)(ks:List Str):Prop where
 dict:H d=some (.dK kvs)
 free:H0 d=none
 same:ag H0 H
 keys:kvs.map (·.1)=ks.map Sum.inr
 ik:ks.Nodup
 mem:∀ z,z∈ks↔b4 done z≠[]
 iS:∀ z,b4 done z=[]->aA kvs (Sum.inr z)=none
 gM:∀ z,b4 done z≠[]->∃ a,aA kvs (Sum.inr z)=some (.ref a)/\H a=some (Lr ((b4 done z).map (·.1)))/\H0 a=none/\a≠d
 inj:∀ z y a,aA kvs (Sum.inr z)=some (.ref a)->aA kvs (Sum.inr y)=some (.ref a)->z=y
theorem iR.start{H:Hp}{d:Addr}(h:H d=none):iR H (upd H d<|.dK []) d [] [] []:=
 ⟨ae,h,zM h _,rfl,Dg,λz=>⟨λq=>(nomatch q),λq=>absurd rfl q⟩,λz _=>rfl,λz q=>absurd rfl q,λz y a q=>(nomatch q)⟩
section
variable{H0 H:Hp}{d l0 a:Addr}{done:List (Str×End)}{kvs:List (Key×V)}{ks:List Str}{z:Str}{e:End}
theorem iR.old(I:iR H0 H d done kvs ks)(hz:b4 done z≠[])(ha:aA kvs (Sum.inr z)=some (.ref a))(hl:H l0=none) :
  iR H0 (upd (upd H l0<|.lst []) a (Lr ((b4 done z).map (·.1)++[e.1]))) d (done++[(z,e)]) kvs ks:=by
 obtain⟨a',v1,v2,v3,v4⟩:=I.gM z hz;rw [ha] at v1;cases v1;have vg:l0≠d:=λq=>by rw [q,I.dict] at hl;cases hl
 have snoc:=λy=>dD done z y e;refine⟨by rw [av<|Ne.symm v4,av<|Ne.symm vg];exact I.dict,I.free,zN (I.same.trans<|zM hl _) v3,I.keys,I.ik,λy=>?_,λy hy=>?_,λy hy=>?_,I.inj⟩
 ·rw [snoc]
  by_cases c:z=y
  ·subst c;rw [BK rfl];exact⟨λ_ q=>(by simp at q),λ_=>(I.mem z).mpr hz⟩
  ·rw [BJ c,Bc];exact I.mem y
 ·rw [snoc] at hy;exact I.iS y (Fa.mp hy).1
 ·rw [snoc] at hy ⊢
  by_cases c:z=y
  ·subst c;refine⟨a,ha,?_,v3,v4⟩;rw [BK rfl,ae,Ag];rfl
  ·rw [BJ c,Bc] at hy ⊢;obtain⟨b,w1,w2,w3,w4⟩:=I.gM y hy;refine⟨b,w1,?_,w3,w4⟩;rw [av (λq=>c<|I.inj z y a ha<|by rw [<- q];exact w1),av<|bC w2 hl];exact w2
theorem iR.new(I:iR H0 H d done kvs ks)(hz:b4 done z=[])(hl:H l0=none) :
  iR H0 (upd (upd (upd H l0<|.lst []) d<|.dK<|putK kvs (Sum.inr z)<|.ref l0) l0<|Lr [e.1]) d (done++[(z,e)]) (putK kvs (Sum.inr z)<|.ref l0) (ks++[z]):=by
 have vg:l0≠d:=λq=>by rw [q,I.dict] at hl;cases hl
 have Ji:H0 l0=none:=by
  cases q:H0 l0 with
  | none=>rfl
  | some v=>rw [I.same _ _ q] at hl;cases hl
 have snoc:=λy=>dD done z y e;have Jj:z∉ks:=λq=>(I.mem z).mp q hz;have vz:=I.iS z hz;have old:∀{y:Str},y≠z->aA (putK kvs (Sum.inr z)<|.ref l0) (Sum.inr y)=aA kvs (Sum.inr y):=λ{y} c=>by
  rw [fV,BJ λq=>c<|Sum.inr.inj q]
 have new:aA (putK kvs (Sum.inr z)<|.ref l0) (Sum.inr z)=some (.ref l0):=by rw [fV,BK rfl]
 have heap:∀ y b,aA kvs (Sum.inr y)=some (.ref b)->H b≠none:=λy b hb=>by
  have:b4 done y≠[]:=λq=>by rw [I.iS y q] at hb;cases hb
  obtain⟨b',w1,w2,_⟩:=I.gM y this;rw [hb] at w1;cases w1;rw [w2];simp
 refine⟨by rw [av<|Ne.symm vg];exact ae,I.free,zN (zN (I.same.trans<|zM hl _) I.free) Ji,?_,kq I.ik Jj,λy=>?_,λy hy=>?_,λy hy=>?_,λy x b hy hx=>?_⟩
 ·rw [oe,I.keys,BJ,Ag]
  ·rfl
  ·intro q;obtain⟨y,hy,e⟩:=At.mp q;cases e;exact Jj hy
 ·rw [snoc,Al,Af]
  by_cases c:z=y
  ·subst c;rw [BK rfl];exact⟨λ_ q=>(by simp at q),λ_=> .inr rfl⟩
  ·rw [BJ c,Bc,I.mem y];exact⟨λq=>q.elim id λk=>absurd k.symm c,.inl⟩
 ·rw [snoc] at hy
  by_cases c:z=y
  ·subst c;rw [BK rfl] at hy;simp at hy
  ·rw [BJ c,Bc] at hy;rw [old<|Ne.symm c];exact I.iS y hy
 ·rw [snoc] at hy ⊢
  by_cases c:z=y
  ·subst c;refine⟨l0,new,?_,Ji,vg⟩;rw [BK rfl,ae,hz];rfl
  ·rw [BJ c,Bc] at hy ⊢;obtain⟨b,w1,w2,w3,w4⟩:=I.gM y hy;refine⟨b,by rw [old<|Ne.symm c];exact w1,?_,w3,w4⟩;have nb:b≠l0:=bC w2 hl;rw [av nb,av w4,av nb];exact w2
 ·by_cases c1:y=z
  ·by_cases c2:x=z
   ·rw [c1,c2]
   ·rw [c1,new] at hy;cases hy;rw [old c2] at hx;exact absurd hl<|heap x _ hx
  ·rw [old c1] at hy
   by_cases c2:x=z
   ·rw [c2,new] at hx;cases hx;exact absurd hl<|heap y _ hy
   ·rw [old c2] at hx;exact I.inj y x b hy hx
end
end Nt
namespace L2
open PySem PySem.Spec PyProof.Rows a6
section
variable{X:Cx}
def Tx(K:PySem.W.Frag):V->List V->Hp->VK->Prop:=λx vs H Q=>∃(l:Addr) (ns:List Int) (k:Int),x = .ref l/\vs=[.int k]/\ak K H l (ns.map V.int)/\Q (.int (ns.count k:Nat)) H
theorem Tz:lK X "list.count" (Tx X.K):=by
 intro pins s σ H x vs v us Q I rx rv h;obtain⟨l,ns,k,rfl,rfl,hH,q⟩:=h;cases rx;obtain⟨u,rfl,ru⟩:=rv.one;obtain⟨tk,rfl⟩:=(show ∃ t,u=Value.int k t from ru);obtain⟨its,r,pl,hz⟩:=I.list hH;refine PyProof.Rows.count_list_ints pl.isList (HU r) ?_;exact⟨.int (ns.count k:Nat),H,I.tok _,⟨_,rfl⟩,q⟩
end
end L2
namespace W6
open PySem L2 Nt a6 bP
open PyProof.Rows (sortedS)
def j5:Sp:=λvs H Q _=>∃(R:Addr) (as:List<|Addr×Addr) (n:Net),vs=[.ref R]/\aj H R as n/\n.length<=1000/\(ah n).length<=900/\(∀ zs:List Str,zs.Nodup->(∀ z∈zs,z∈ah n)->zs.length < 64) /\
 ∀(L:Addr) (ss:List Str) (H':Hp),ag H H'->H L=none->H' L=some (Ls ss)->ss.Nodup->sortedS ss=true->(∀ z,z∈ss↔z∈ah n)->Q (.ref L) H'
theorem TB{zs:List Str}{z:Str}(h:zs.Nodup):(added zs z).Nodup:=by
 unfold added
 split
 ·exact h
 ·rename_i hz;exact kq h hz
theorem TC{zs:List Str}{z y:Str}:y∈added zs z↔y∈zs\/y=z:=by
 unfold added
 split
 ·rename_i hz;refine⟨.inl,λh=>h.elim id λe=>?_⟩;rw [e];exact hz
 ·rw [Al,Af]
def TD(n:Net):Prop:=∀ zs:List Str,zs.Nodup->(∀ z∈zs,z∈ah n)->zs.length < 64
theorem TF{n:Net}{r p:Nat}{z y:Str}(hr:r < n.length)(hz:(row n r)[p]?=some z) (h:b4 (bG (n.take r)++bF r ((row n r).take p) 0) y≠[]):y∈ah n:=by
 obtain⟨rest,e⟩:=yY hr hz;unfold b4 at h;obtain⟨x,hx⟩:=Eb _ h;obtain⟨⟨y2,e2⟩,hm,_⟩:=At.mp hx;rw [Du,DX] at hm;obtain⟨hm,rfl⟩:=hm;have:(y2,e2)∈bG n:=by rw [e];exact Av _ hm
 exact nY<|aM.mp this
structure gN(H:Hp)(L:Addr)(us:List Addr)(es:List<|Nat×Nat):Prop where
 len:us.length=es.length
 lst:H L=some (.lst<|us.map V.ref)
 at':∀(i:Nat) u e,us[i]?=some u->es[i]?=some e->H u=some (Lr [e.1,e.2])
theorem gN.same{H H':Hp}{L:Addr}{us:List Addr}{es:List (Nat×Nat)}(h:gN H L us es)(s:ag H H'):gN H' L us es:=⟨h.len,s _ _ h.lst,λi u e h1 h2=>s _ _<|h.at' i u e h1 h2⟩
def zO:Sp:=λvs H Q _=>∃(R:Addr) (as:List<|Addr×Addr) (n:Net),vs=[.ref R]/\aj H R as n/\cv n/\n.length<=60/\(ah n).length<=60 /\
 ∀(L:Addr) (us:List Addr) (ss:List Str) (H':Hp),ag H H'->aZ ss->(∀ z,z∈ss↔z∈ah n)->gN H' L us (ss.map<|dw n)->Q (.ref L) H'
def zP:Sp:=λvs H Q _=>∃(V k:Nat) (L:Addr) (us:List Addr) (es:List<|Nat×Nat),vs=[.int (V:Int),.ref L,.int (k:Int)]/\0 < V/\V<=60/\gN H L us es/\es.length<=60/\(∀ e∈es,e.1 < V/\e.2 < V)/\∀ H',ag H H'->Q (.bl<|Dt.tr (List.range V) es k) H'
theorem Jk(k j:Nat):Builtin.bitAnd ((k:Int) / 2 ^ j) 1=((k / 2 ^ j % 2:Nat):Int):=by
 have e:(k:Int) / 2 ^ j=((k / 2 ^ j:Nat):Int):=by
  rw [Int.natCast_ediv,Int.natCast_pow];rfl
 rw [e,PyProof.Rows.bitAnd_pp (Int.natCast_nonneg _)<|by decide];show(((k / 2 ^ j) &&& 1:Nat):Int)=_;rw [Nat.and_one_is_mod]
theorem rA{ns:List Nat}{i v:Nat}(h:ns[i]?=some v):di (ns.map λ(r:Nat)=>V.int (r:Int)) (i:Int)=some (.int (v:Int)):=gF<|by rw [Ad,h];rfl
section
variable{P:Program}{w:World}{K:PySem.W.Frag}{mg:Str->Option Value}{base:Heap}
abbrev TH:List Str:=["_law_rows","_law_found","_law_point","_law_row","_law_tie"]
theorem rB:au TH ["_law_rows"] (aV xY):=⟨rfl,rfl,rfl,by decide +kernel,rfl,by decide +kernel,by decide +kernel⟩
theorem TJ{kvs:List (Key×V)}{zs:List Str}(h:kvs.map (·.1)=zs.map Sum.inr)(z:Str)(v:V):(putK kvs (Sum.inr z) v).map (·.1)=(added zs z).map Sum.inr:=by
 rw [oe,h];unfold added
 by_cases q:z∈zs
 ·rw [BK<|At.mpr ⟨z,q,rfl⟩,BK q]
 ·rw [BJ,BJ q,Ag]
  ·rfl
  ·intro k;obtain⟨y,hy,e⟩:=At.mp k;cases e;exact q hy
theorem TK{f:Addr}{fd:FuncData}(F:bz K "_law_ties" "_law_ties" xY f fd)(T:Txt mg):aC P w K mg base bp 1 f fd ["_law_rows"] j5:=by
 refine F.gb rB (λvs H Q E h=>?_) λb0 H vs Q E hr h=>?_
 ·obtain⟨R,as,n,rfl,_⟩:=h;rfl
 obtain⟨R,as,n,rfl,hR,hn,ht,dG,q⟩:=h;have nd:=rB.nd;have cC:=hR.len;have hu:=hr.u1;show Run _ _ _ [some<|.ref R,none,none,none,none] H;refine run_set 1 nd<|tY λd hd=>?_;have s0:=aQ hd<|.dK [];have zQ:∀ r,r < n.length->∀ z,z∈ah (n.take r)\/z∈row n r->z∈ah n:=λr gK z hz=>by
  rw [Tw (k:=r+1),Jh gK]
  rcases hz with h | h <;> simp [h]
 refine jd (af 0 ⟨R,rfl,⟨_,ak.of<|s0 _ _ hR.lst⟩,je (xs:=as.map λa=>V.ref a.1) (λr σ' H'=>(∃ v2 v3 v4,σ'=[some<|.ref R,some<|.ref d,v2,v3,v4])/\∃(kvs:List<|Key×V) (zs:List Str),ag H H'/\H' d=some (.dK kvs)/\kvs.map (·.1)=zs.map Sum.inr/\zs.Nodup/\∀ z,z∈zs↔z∈ah (n.take r)) ⟨⟨none,none,none,rfl⟩,[],[],s0,ae,rfl,Dg,λz=>Iff.rfl⟩ ?_ ?_ ?_⟩)
 ·rintro r σ' H' _ ⟨_,_,_,sm,_⟩;exact ak.of<|sm _ _ hR.lst
 ·rintro r x σ' H' hx ⟨⟨v2,v3,v4,rfl⟩,kvs,zs,sm,eD,ek,zn,zm⟩;have hi:r < n.length:=by
   have:=(Ac.mp hx).1;rw [Aa] at this;omega
  obtain⟨a,ea,eC,et,el,er⟩:=(hR.same sm).at hi;rw [Ad,ea] at hx;cases hx;refine oa rfl (aK.of et) (aW 2 nd<|aW 3 nd ?_);have TN:a.2≠d:=en el eD λz=>nomatch z;show Run _ _ _ [some<|.ref R,some<|.ref d,some<|.str n[r].1,some<|.ref a.2,v4] H';refine jd (af 3 ⟨a.2,rfl,⟨_,ak.of el⟩,je (xs:=(row n r).map V.str) (λp σ' cM=>(∃ v4,σ'=[some<|.ref R,some<|.ref d,some<|.str n[r].1,some<|.ref a.2,v4])/\∃(kvs:List<|Key×V) (zs:List Str),(∀ b o,b≠d->H' b=some o->cM b=some o)/\cM d=some (.dK kvs)/\kvs.map (·.1)=zs.map Sum.inr/\zs.Nodup/\∀ z,z∈zs↔z∈ah (n.take r)\/z∈(row n r).take p) ⟨⟨_,rfl⟩,kvs,zs,λb o _ h=>h,eD,ek,zn,λz=>by rw [zm z];simp⟩ ?_ ?_ ?_⟩)
  ·rintro p σ' cM _ ⟨_,_,_,kb,_⟩;exact ak.of<|kb _ _ TN el
  ·rintro p x σ' cM hx ⟨⟨v4,rfl⟩,kvs,zs,kb,oH,vh,vi,vj⟩;rw [Ad,Ap] at hx;obtain⟨z,hz,rfl⟩:=hx;have hl:zs.length < 64:=dG zs vi λy hy=>zQ r hi y<|((vj y).mp hy).imp id λh=>Cd h;have lk:kvs.length=zs.length:=by have:=BZ List.length vh;simpa using this
   refine aW 4 nd ?_;refine xG hu (pS<|af 1<|af 4 ⟨d,_,rfl,cQ.k (k:=Sum.inr z) oH (bQ<|by omega),aP ⟨⟨_,rfl⟩,_,added zs z,λb o hb h=>by rw [av hb];exact kb b o hb h,ae,TJ vh z _,TB vi,λy=>?_⟩⟩);rw [TC,vj y,Cj,hz,or_assoc];simp
  ·rintro σ' cM ⟨⟨v4,rfl⟩,kvs,zs,kb,oH,vh,vi,vj⟩;refine aP ⟨⟨_,_,_,rfl⟩,kvs,zs,λb o h=>kb b o (bC h hd)<|sm _ _ h,oH,vh,vi,λz=>?_⟩;rw [vj z,Aa,Bi,Jh hi,Al]
 ·rintro σ' H' ⟨⟨v2,v3,v4,rfl⟩,kvs,zs,sm,eD,ek,zn,zm⟩;rw [Aa,cC,Bi] at zm;refine cq<|b9 OY T.sorted FZ<|ao<|pW (Qs rfl) T.ga GR<|ao<|af 1<|aw ⟨d,kvs,rfl,.inl eD,λl hl=>?_⟩;have TQ:(kvs.map λp=>kV p.1)=zs.map V.str:=by
   rw [show(kvs.map λp=>kV p.1)=(kvs.map (·.1)).map kV by rw [Be];rfl,ek,Be];rfl
  rw [TQ];have s2:=aQ hl<|.lst<|zs.map V.str;refine aw ⟨l,zs,rfl,ak.of ae,dG zs zn λy hy=>(zm y).mp hy,λl2 ss jF hp hs=>?_⟩;have s3:=aQ jF<|.lst<|ss.map V.str;exact q l2 ss _ (sm.trans<|s2.trans s3) (kP (sm.trans s2) jF) ae (hp.nodup_iff.mpr zn) hs λz=>by rw [hp.mem_iff,zm z]
abbrev Jl:List Str:=["_law_rows","_law_at","_law_r","_law_tie"]
abbrev rC:List Str:=["_law_rows","_law_at","_law_r","?","_law_tie"]
theorem rD:au Jl ["_law_rows"] (aV uo):=⟨rfl,rfl,rfl,by decide +kernel,rfl,by decide +kernel,by decide +kernel⟩
theorem TR:rC.Nodup:=by decide +kernel
theorem TU{f:Addr}{fd:FuncData}(F:bz K "_law_ends" "_law_ends" uo f fd)(T:Txt mg)(GT:aG P w K mg base 1 "_law_ties" ["_law_rows"] j5):aC P w K mg base bp 2 f fd ["_law_rows"] zO:=by
 refine F.gb rD (λvs H Q E h=>?_) λb0 H vs Q E hr h=>?_
 ·obtain⟨R,as,n,rfl,_⟩:=h;rfl
 obtain⟨R,as,n,rfl,hR,hT,hn,kQ,q⟩:=h;have nd:=rD.nd;have cC:=hR.len;have hu:=hr.d5;have cT:=hr.u1;show Run _ _ _ [some<|.ref R,none,none,none] H;refine run_set 1 nd<|tY λdA Jm=>?_;refine hZ T.range (b9 cZ T.len CW<|ao<|af 0<|aw ⟨R,_,rfl,.inl<|ak.of<|aQ Jm _ _ _ hR.lst,_,rfl,by omega,by rw [Aa];omega,?_⟩);rw [Aa,cC,Bh];refine ic (λr σ H3=>∃ kvs ks u2 u3,iR H H3 dA (bG<|n.take r) kvs ks/\σ=[some<|.ref R,some<|.ref dA,u2,u3]) ⟨_,_,_,_,iR.start Jm,rfl⟩ ?_ ?_
 ·rintro r σ H3 hi ⟨kvs,ks,u2,u3,S,rfl⟩;rw [Cv];refine aW 2 nd ?_;obtain⟨a,ea,eC,et,el,er⟩:=(hR.same S.same).at hi;have qk:=(hR.tup r a n[r] ea<|Ab hi).2;rw [<- er] at qk;refine jd<|aS cW<|aS bx<|af 0<|af 2 ⟨R,_,_,.ref a.1,rfl,rfl,ak.of<|S.same _ _ hR.lst,eC,ay ⟨a.1,_,_,.ref a.2,rfl,rfl,aK.of et,rfl,a.2,rfl,⟨_,ak.of el⟩,?_⟩⟩;refine je (xs:=(row n r).map V.str) (λp σ H4=>∃ kvs ks u3,iR H H4 dA (bG (n.take r)++bF r ((row n r).take p) 0) kvs ks/\σ=[some<|.ref R,some<|.ref dA,some<|.int (r:Int),u3]) ⟨kvs,ks,_,by simpa [bF] using S,rfl⟩ ?_ ?_ ?_
  ·rintro p σ H4 _ ⟨kvs,ks,u3,S,rfl⟩;exact ak.of<|S.same _ _ qk
  ·rintro p x σ H4 hx ⟨kvs,ks,u3,S,rfl⟩;rw [Ad,Ap] at hx;obtain⟨z,hz,rfl⟩:=hx;have next:bG (n.take r)++bF r ((row n r).take<|p+1) 0=(bG (n.take r)++bF r ((row n r).take p) 0)++[(z,(r,p))]:=by
    rw [uc hz,Aw]
   have hk:kvs.length < sizeLine:=by
    have h1:ks.length<=60:=Bz (aU (b:=ah n) S.ik λy hy=>TF hi hz<|(S.mem y).mp hy) kQ;have h2:=BZ List.length S.keys;rw [Aa,Aa] at h2;exact bQ<|by omega
   have iL:=HK hT hi hz;refine aW 3 nd ?_;refine fD<|jM<|tW MF JC JD FI<|af 1 ⟨F6 S.dict,af 3<|dH<|aw ⟨Z0,λl0 fY=>?_⟩⟩;have gJ:dA≠l0:=bC S.dict fY;refine⟨dA,kvs,Sum.inr z,.ref l0,rfl,rfl,by rw [av gJ];exact S.dict,hk,?_⟩
   by_cases vk:b4 (bG (n.take r)++bF r ((row n r).take p) 0) z=[]
   ·refine .inr ⟨S.iS z vk,l0,rfl,⟨_,by rw [av gJ.symm];exact ae⟩,?_⟩;refine af 2 ⟨[],by rw [av gJ.symm,ae],by show 0 < sizeLine;decide,?_⟩;refine aP ⟨putK kvs (Sum.inr z)<|.ref l0,ks++[z],_,?_,rfl⟩;rw [next];exact S.new (e:=(r,p)) vk fY
   ·obtain⟨a2,w1,w2,w3,w4⟩:=S.gM z vk;have gI:a2≠l0:=bC w2 fY;refine .inl ⟨.ref a2,w1,a2,rfl,⟨_,by rw [av gI];exact w2⟩,?_⟩;refine af 2 ⟨_,by rw [av gI];exact w2,?_,?_⟩
    ·rw [Aa,Aa];exact bQ<|by omega
    ·refine aP ⟨kvs,ks,_,?_,rfl⟩;rw [next];have:=S.old (e:=(r,p)) vk w1 fY;unfold Lr at this;rw [Ag] at this;exact this
  ·rintro σ H4 ⟨kvs,ks,u3,S,rfl⟩;refine aP ⟨kvs,ks,_,_,?_,rfl⟩;rw [ub hi];rwa [Aa,Bi] at S
 ·rintro σ H1 ⟨Jn,Wb,u2,u3,S,rfl⟩;rw [Bi] at S;have s1:=S.same;have TV:∀ z∈ah n,∃ la,aA Jn (Sum.inr z)=some (.ref la)/\H1 la=some (Lr ((pos n z).map (·.1))):=λz hz=>by
   obtain⟨la,w1,w2,_⟩:=S.gM z λk=>by
    have:=l3 n z;rw [hT z hz] at this;rw [show pos n z=b4 (bG n) z from rfl,k] at this;cases this
   exact⟨la,w1,w2⟩
  have few:TD n:=λzs h1 h2=>by
   have:=aU h1 h2;omega
  refine cq (jf (aV uo) Jl rC 1 (ja a5)<|bV GT hr<|ao<|af 0<|aw ⟨R,as,n,rfl,hR.same s1,by omega,by omega,few,λTX ss H2 s2 n2 e2 snd so mem=>⟨TX,rfl,⟨_,ak.of e2⟩,λD hD=>?_⟩⟩);have cN:=yo so snd;refine jR (xs:=ss.map V.str) (λi σ' H'=>(∃ v,σ'=[some<|.ref R,some<|.ref dA,u2,u3]++[v])/\ag H2 H'/\∃ us:List Addr,H' D=some (.lst<|us.map V.ref)/\us.length=i/\∀(j:Nat) u z,us[j]?=some u->ss[j]?=some z->H' u=some (Lr [(dw n z).1,(dw n z).2])) ⟨⟨none,rfl⟩,aQ hD _,[],ae,rfl,λj u z h=>by simp at h⟩ ?_ ?_ ?_
  ·rintro i σ' H' _ ⟨_,sm,_⟩;exact ak.of<|sm _ _ e2
  ·rintro i x σ' H' hx ⟨⟨v,rfl⟩,sm,us,eD,hl,bW⟩;rw [Ad,Ap] at hx;obtain⟨z,hz,rfl⟩:=hx;have IQ:=(Ac.mp hz).1;have Jo:=(mem z).mp<|Au hz;obtain⟨la,w1,w2⟩:=TV z Jo;obtain⟨pa,pb,hp⟩:=ve hT Jo;rw [hp] at w2;have w3:=sm _ _<|s2 _ _ w2;have dl:=sm _ _<|s2 _ _ S.dict;intro cl C s₀ H₀ ex;refine aW 4 TR ?_;intro cl C s₀ H₀ ex;refine fZ<|bf ?_;intro cl C s₀ H₀ ex;have oq:la≠D:=λe=>by
    rw [e] at w2;have:=s2 _ _ w2;rw [hD] at this;cases this
   have ssl:ss.length<=60:=by
    have:=aU snd λy hy=>(mem y).mp hy;omega
   refine lZ cT<|af 1<|af 4 ⟨dA,_,rfl,.inl ⟨Jn,Sum.inr z,.inl dl,rfl,w1.symm⟩,_,eD,?_,⟨_,rfl⟩,cL sm hD,us++[la],by rw [ae,Ag];rfl,by rw [Ae,hl];rfl,λj u y h1 h2=>?_⟩
   ·rw [Aa];exact bQ<|by omega
   ·by_cases hj:j < us.length
    ·rw [Bb hj] at h1;have:=bW j u y h1 h2;rw [av λe:u=D=>?_]
     ·exact this
     ·rw [e,eD] at this;have this:=HO.lst.inj<|Option.some.inj this;cases us with
      | nil=>simp at h1
      | cons a us=>cases (List.cons.inj this).1
    ·rw [Az<|by omega] at h1;have dL:j - us.length=0:=by
      have:=(Ac.mp h1).1;simp at this;omega
     have qG:j=i:=by omega
     rw [dL] at h1;cases h1;rw [qG,hz] at h2;cases h2;rw [av oq,vd hp];exact w3
  ·rintro σ' H' ⟨_,sm,us,eD,hl,bW⟩;rw [Aa] at hl;refine q D us ss H' ((s1.trans s2).trans sm) cN mem ⟨by rw [Aa];exact hl,eD,λi u e h1 h2=>?_⟩;rw [Ad,Ap] at h2;obtain⟨z,hz,rfl⟩:=h2;exact bW i u z h1 hz
abbrev zR:List Str:=["_law_many","_law_pairs","_law_mask","_law_part","_law_k","_law_one","_law_other_here"]
abbrev rE:List Str:=["_law_many","_law_pairs","_law_mask","_law_part","_law_k","_law_one","_law_other_here","_law_r"]
abbrev rF:List Str:=["_law_many","_law_pairs","_law_mask","_law_part","_law_k","_law_one","_law_other_here","_law_here"]
theorem rG:au zR ["_law_many","_law_pairs","_law_mask"] (aV qa):=⟨rfl,rfl,rfl,by decide +kernel,rfl,by decide +kernel,by decide +kernel⟩
theorem TY:rE.Nodup:=by decide +kernel
theorem T1:rF.Nodup:=by decide +kernel
theorem T2{f:Addr}{fd:FuncData}(F:bz K "_law_is_tree" "_law_is_tree" qa f fd)(T:Txt mg):aC P w K mg base bp 1 f fd ["_law_many","_law_pairs","_law_mask"] zP:=by
 refine F.gb rG (λvs H Q E h=>?_) λb0 H vs Q E hr h=>?_
 ·obtain⟨V,k,L,us,es,rfl,_⟩:=h;rfl
 obtain⟨N,mk,L,us,es,rfl,Hn,hN,hP,Wc,aE,q⟩:=h;have nd:=rG.nd;show Run _ _ _ [some<|.int (N:Int),some<|.ref L,some<|.int (mk:Int),none,none,none,none] H;refine tS 3 (aV qa) zR rE 1 nd (vZ rfl T.range (ta:=tJ _ _) fX (jI _ [] _ rfl)) ?_;show Ea _ _ _ _ _;refine ao (af 0 (v:= .int (N:Int))<|aw ⟨(N:Int),rfl,by omega,by omega,λD hD=>?_⟩);rw [Bh];refine zj (λi σ' H'=>(∃ v,σ'=[some<|.int (N:Int),some<|.ref L,some<|.int (mk:Int),none,none,none,none]++[v])/\ag H H'/\H' D=some (Lr<|List.range i)) ⟨⟨none,rfl⟩,aQ hD _,ae⟩ ?_ ?_
 ·rintro i σ' H' hi ⟨⟨v,rfl⟩,sm,eD⟩;rw [Cv];intro cl C s₀ H₀ ex;refine aW 7 TY ?_;intro cl C s₀ H₀ ex;refine fZ<|bf ?_;intro cl C s₀ H₀ ex;refine af 7 ⟨_,eD,?_,⟨_,rfl⟩,cL sm hD,?_⟩
  ·rw [Aa,Bf];exact bQ<|by omega
  ·rw [ae,Ce];unfold Lr;rw [Ag];rfl
 rintro σ' H1 ⟨_,s1,eD⟩;show Run _ _ _ [some<|.int (N:Int),some<|.ref L,some<|.int (mk:Int),some<|.ref D,none,none,none] H1;have T4:=hP.same s1;have gO:=hP.len;refine hZ T.range (b9 cZ T.len CW<|ao<|af 1<|aw ⟨L,_,rfl,.inl<|ak.of T4.lst,_,rfl,by omega,by rw [Aa];omega,?_⟩);rw [Aa,gO,Bh];refine ic (λi σ' H'=>∃(D:Addr) (part:List Nat) (v4 v5 v6:Option V),ag H H'/\H' D=some (Lr part)/\part.length=N/\Dt.tr part (es.drop i) (mk / 2 ^ i)=Dt.tr (List.range N) es mk/\σ'=[some<|.int (N:Int),some<|.ref L,some<|.int (mk:Int),some<|.ref D,v4,v5,v6]) ⟨D,List.range N,_,_,_,s1,eD,Bf,by rw [Gd,Nat.pow_zero,Nat.div_one],rfl⟩ ?_ ?_
 ·rintro i σ' H2 hi ⟨D,part,v4,v5,v6,s2,eD,gZ,mV,rfl⟩;rw [Cv];obtain⟨e,he⟩:∃ e,es[i]?=some e:=⟨_,Ab hi⟩;have dr:es.drop i=e :: es.drop (i+1):=by
   rw [Ch hi]
   congr 1
   rw [Ab hi] at he;exact Option.some.inj he
  obtain⟨u,cT⟩:∃ u,us[i]?=some u:=⟨_,Ab<|by omega⟩;have zS:=hP.same s2;have eu:=zS.at' i u e cT he;obtain⟨l1,l2⟩:=aE e<|Au he;have p1:part[e.1]?=some (part.getD e.1 0):=by rw [Bx,Ab<|by omega];rfl
  have p2:part[e.2]?=some (part.getD e.2 0):=by rw [Bx,Ab<|by omega];rfl
  have pw:mk / 2 ^ (i+1)=mk / 2 ^ i / 2:=by rw [LK,OJ]
  rw [dr] at mV;have fI:(if(mk / 2 ^ i) % 2=1 then(if part.getD e.1 0=part.getD e.2 0 then false else Dt.tr (Dt.az part e.1 e.2) (es.drop<|i+1) (mk / 2 ^ i / 2)) else Dt.tr part (es.drop<|i+1) (mk / 2 ^ i / 2))=Dt.tr (List.range N) es mk:=mV;refine aW 4 nd ?_;show Run _ _ _ [some<|.int (N:Int),some<|.ref L,some<|.int (mk:Int),some<|.ref D,some<|.int (i:Int),v5,v6] H2;refine d0 (dC fv<|aN C2<|aN C1<|af 2<|af 4 ⟨_,(i:Int),rfl,rfl,(by show(0:Int)<=(i:Int);omega),ay ⟨_,_,rfl,rfl,ay ⟨rfl,_,rfl,?_⟩⟩⟩);show if decide (V.int (Builtin.bitAnd ((mk:Int) / 2 ^ ((i:Int).toNat)) 1)=V.int 1)=true then _ else _;rw [Bh,Jk]
  by_cases hb:(mk / 2 ^ i) % 2=1
  ·rw [hb,CG (show V.int ((1:Nat):Int)=V.int 1 from rfl)];rw [BK hb] at fI;refine bf ?_;refine run_set 5 nd<|aS bx<|af 3<|aS bx<|aS bx<|af 1<|af 4 ⟨L,_,_,.ref u,rfl,rfl,ak.of zS.lst,qU cT,ay ⟨u,_,_,.int (e.1:Int),rfl,rfl,ak.of eu,rA (ns:=[e.1,e.2]) (i:=0) rfl,D,_,_,.int (part.getD e.1 0:Nat),rfl,rfl,ak.of eD,rA p1,?_⟩⟩;refine run_set 6 nd<|aS bx<|af 3<|aS bx<|aS bx<|af 1<|af 4 ⟨L,_,_,.ref u,rfl,rfl,ak.of zS.lst,qU cT,ay ⟨u,_,_,.int (e.2:Int),rfl,rfl,ak.of eu,rA (ns:=[e.1,e.2]) (i:=1) rfl,D,_,_,.int (part.getD e.2 0:Nat),rfl,rfl,ak.of eD,rA p2,?_⟩⟩;show Run _ _ _ [some<|.int (N:Int),some<|.ref L,some<|.int (mk:Int),some<|.ref D,some<|.int (i:Int),some<|.int (part.getD e.1 0:Nat),some<|.int (part.getD e.2 0:Nat)] H2;refine d0<|dC fv<|af 5<|af 6 ⟨rfl,_,rfl,?_⟩
   by_cases cb:part.getD e.1 0=part.getD e.2 0
   ·rw [cb,CG rfl];rw [BK cb] at fI;refine bf<|cq<|pS ?_;have:=q H2 s2;rw [<- fI] at this;exact this
   rw [BX λh=>cb<|by have:=V.int.inj h;omega];rw [BJ cb] at fI;refine bN<|aP ?_;refine tS 3 (aV qa) zR rF 1 nd (ja a5)<|af 3 ⟨D,rfl,⟨_,ak.of eD⟩,λD2 js=>?_⟩;refine jR (xs:=part.map λ(r:Nat)=>V.int (r:Int)) (λj σ' H'=>(∃ v,σ'=[some<|.int (N:Int),some<|.ref L,some<|.int (mk:Int),some<|.ref D,some<|.int (i:Int),some<|.int (part.getD e.1 0:Nat),some<|.int (part.getD e.2 0:Nat)]++[v])/\ag H2 H'/\H' D2=some (Lr<|(part.take j).map λh=>if h=part.getD e.2 0 then part.getD e.1 0 else h)) ⟨⟨none,rfl⟩,aQ js _,ae⟩ ?_ ?_ ?_
   ·rintro j σ' H' _ ⟨_,sm,_⟩;exact ak.of<|sm _ _ eD
   ·rintro j x σ' H' hx ⟨⟨v,rfl⟩,sm,iq⟩;rw [Ad,Ap] at hx;obtain⟨h,hh,rfl⟩:=hx;have oh:=(Ac.mp hh).1;intro cl C s₀ H₀ ex;refine aW 7 T1 ?_;intro cl C s₀ H₀ ex;refine fZ<|bf ?_;intro cl C s₀ H₀ ex;refine aS bx<|dH<|ao<|af 7<|ao<|af 5<|aw ⟨Z2,λp hp=>?_⟩;have sp:=aQ hp<|.lst [.int (h:Int),.int (part.getD e.1 0:Nat)];refine pW xF T.mq HX<|ao<|nP fv<|af 7<|af 6 ⟨rfl,aw ⟨_,rfl,?_⟩⟩;have fin:∀{x:Nat},x=(if h=part.getD e.2 0 then part.getD e.1 0 else h)->∃ ys,(upd H' p<|.lst [.int (h:Int),.int (part.getD e.1 0:Nat)]) D2=some (.lst ys)/\ys.length < sizeLine/\((∃ v,[some<|V.int (N:Int),some<|.ref L,some<|.int (mk:Int),some<|.ref D,some<|.int (i:Int),some<|.int (part.getD e.1 0:Nat),some<|.int (part.getD e.2 0:Nat),some<|.int (h:Int)]=[some<|.int (N:Int),some<|.ref L,some<|.int (mk:Int),some<|.ref D,some<|.int (i:Int),some<|.int (part.getD e.1 0:Nat),some<|.int (part.getD e.2 0:Nat)]++[v])/\ag H2 (upd (upd H' p<|.lst [.int (h:Int),.int (part.getD e.1 0:Nat)]) D2<|.lst<|ys++[.int (x:Int)])/\(upd (upd H' p<|.lst [.int (h:Int),.int (part.getD e.1 0:Nat)]) D2<|.lst<|ys++[.int (x:Int)]) D2=some (Lr<|(part.take<|j+1).map λh=>if h=part.getD e.2 0 then part.getD e.1 0 else h)):=λ{x} hx=>by
     refine⟨_,sp _ _ iq,?_,⟨_,rfl⟩,cL (sm.trans sp) js,?_⟩
     ·rw [Aa,Aa,Ay];exact bQ<|by omega
     ·rw [ae,Cj,hh,Ag];unfold Lr;rw [Ag,hx];rfl
    by_cases hc:h=part.getD e.2 0
    ·rw [CG<|BZ V.int<|BZ Nat.cast hc,BK rfl];exact⟨p,_,_,.int (part.getD e.1 0:Nat),rfl,rfl,ak.of ae,rfl,fin (BK hc).symm⟩
    ·rw [BX (λz=>hc<|by have:=V.int.inj z;omega),BJ As];exact⟨p,_,_,.int (h:Int),rfl,rfl,ak.of ae,rfl,fin (BJ hc).symm⟩
   rintro σ' H3 ⟨_,s3,iq⟩;rw [Aa,Bi] at iq;exact aP<|aP ⟨D2,Dt.az part e.1 e.2,_,_,_,s2.trans s3,iq,by unfold Dt.az;rw [Aa];exact gZ,by rw [pw];exact fI,rfl⟩
  ·rw [BX λz=>hb<|by have:=V.int.inj z;omega];rw [BJ hb] at fI;exact bN<|aP<|aP ⟨D,part,_,_,_,s2,eD,gZ,by rw [pw];exact fI,rfl⟩
 ·rintro σ' H2 ⟨D,part,v4,v5,v6,s2,eD,gZ,mV,rfl⟩;rw [Dm] at mV;have mV:(part.all λh=>h == part.headD 0)=Dt.tr (List.range N) es mk:=mV;obtain⟨a,zT⟩:∃ a,part[0]?=some a:=⟨_,Ab<|by omega⟩;have hd:part.headD 0=a:=by
   cases part with
   | nil=>simp at zT
   | cons b r=>cases zT;rfl
  have T5:(part.map λ(r:Nat)=>V.int (r:Int))=(part.map λ(r:Nat)=>(r:Int)).map V.int:=by rw [Be];rfl
  have rH:H2 D=some (.lst<|(part.map λ(r:Nat)=>(r:Int)).map V.int):=by rw [eD];show some (HO.lst<|part.map λ(r:Nat)=>V.int (r:Int))=_;rw [T5]
  refine cq<|nP fv<|nW CQ PySem.F.slot_list_count PySem.F.type_list_count Tz<|af 3 (v:= .ref D) ⟨Or.inl ⟨rfl,_,ak.of eD⟩,aS bx<|af 3<|ay ⟨D,_,_,.int (a:Int),rfl,rfl,ak.of eD,rA (i:=0) zT,D,_,_,rfl,rfl,ak.of rH,af 0 ⟨rfl,?_⟩⟩⟩;have:=q H2 s2;rw [<- mV] at this;have e:decide (V.int (((part.map λ(r:Nat)=>(r:Int)).count (a:Int):Nat):Int)=V.int (N:Int))=part.all λh=>h == part.headD 0:=by
   rw [hd,<- gZ];have ec:(part.map λ(r:Nat)=>(r:Int)).count (a:Int)=part.count a:=by
    rw [List.count,List.countP_map,List.count];refine List.countP_congr λx _=>?_;show((x:Int) == (a:Int))=true↔(x == a)=true;simp;omega
   rw [ec,Fd,FJ,Dd]
   constructor
   ·intro h x hx;have h:part.count a=part.length:=by have:=V.int.inj h;omega
    exact beq_iff_eq.mpr (List.count_eq_length.mp h x hx).symm
   ·intro h
    congr 2
    exact List.count_eq_length.mpr λx hx=>(beq_iff_eq.mp<|h x hx).symm
  rw [e];exact this
end
end W6
namespace W6
open PySem L2 Nt a6
abbrev Jp(x:Bl):HO:= .tup [.str x.1,.str x.2.1,.bl x.2.2]
def j6(H:Hp)(us:List Addr)(ls:List Bl):Prop:=us.length=ls.length/\∀(j:Nat) u x,us[j]?=some u->ls[j]?=some x->H u=some (Jp x)
theorem j6.same{H H':Hp}{us:List Addr}{ls:List Bl}(h:j6 H us ls)(s:ag H H'):j6 H' us ls:=⟨h.1,λj u x h1 h2=>s _ _<|h.2 j u x h1 h2⟩
def rJ:Sp:=λvs H Q _=>∃(f:Str) (L:Addr) (us:List Addr) (ls:List Bl),vs=[.str f,.ref L]/\H L=some (.lst<|us.map V.ref)/\j6 H us ls/\ls.length<=60 /\
 ∀(d:Addr) (kvs:List<|Key×V) (H':Hp),ag H H'->H d=none->H' d=some (.dK kvs)->c7 ls f none kvs []->Q (.ref d) H'
section
variable{P:Program}{w:World}{K:PySem.W.Frag}{mg:Str->Option Value}{base:Heap}
abbrev Ua:List Str:=["first","links","odds","waiting","here","one","other","odd","start","goal"]
theorem rK:au Ua ["first","links"] (aV xQ):=⟨rfl,rfl,rfl,by decide +kernel,rfl,by decide +kernel,by decide +kernel⟩
theorem Ub(wt:List Str)(h:Str):(((wt++[h]).map V.str)[((wt++[h]).map V.str).length - 1]?=some (.str h))/\((wt++[h]).map V.str).dropLast=wt.map V.str:=by
 rw [Ag]
 constructor
 ·simp
 ·exact List.dropLast_concat
theorem Uc{f:Addr}{fd:FuncData}(F:bz K "spread" "spread" xQ f fd)(T:Txt mg):aC P w K mg base bp 1 f fd ["first","links"] rJ:=by
 refine F.gb rK (λvs H Q E h=>?_) λb0 H vs Q E hr h=>?_
 ·obtain⟨f,L,us,ls,rfl,_⟩:=h;rfl
 obtain⟨ft,L,us,ls,rfl,hL,bW,Ud,q⟩:=h;have nd:=rK.nd;have hu:=hr.u1;have gO:=bW.1;show Run _ _ _ [some<|.str ft,some<|.ref L,none,none,none,none,none,none,none,none] H;refine run_set 2 nd<|RT hu λd hd=>af 0<|pS ⟨_,cQ.k (k:=Sum.inr ft) ae<|bQ<|Br _,?_⟩;rw [B5];refine run_set 3 nd<|dH<|ao<|af 0<|aw ⟨Z1,λM hM=>?_⟩;have jn:M≠d:=λe=>by rw [e,ae] at hM;cases hM
 have qJ:H M=none:=by rw [av jn] at hM;exact hM
 have s0:ag H (upd (upd H d<|.dK<|putK [] (Sum.inr ft)<|.bl false) M<|.lst [.str ft]):=(aQ hd _).trans<|aQ hM _;have qK:(upd (upd H d<|.dK<|putK [] (Sum.inr ft)<|.bl false) M<|.lst [.str ft]) d=some (.dK<|putK [] (Sum.inr ft)<|.bl false):=by rw [av<|Ne.symm jn,ae]
 have qL:(upd (upd H d<|.dK<|putK [] (Sum.inr ft)<|.bl false) M<|.lst [.str ft]) M=some (Ls [ft]):=ae;show Run _ _ _ [some<|.str ft,some<|.ref L,some<|.ref d,some<|.ref M,none,none,none,none,none,none] (upd (upd H d<|.dK<|putK [] (Sum.inr ft)<|.bl false) M<|.lst [.str ft]);generalize upd (upd H d<|.dK<|putK [] (Sum.inr ft)<|.bl false) M (.lst [.str ft])=H0 at s0 qK qL;refine tX (λm σ H'=>m<=1000/\∃(kvs:List<|Key×V) (wt:List Str) (u4 u5 u6 u7 u8 u9:Option V),ag H H'/\H' d=some (.dK kvs)/\H' M=some (Ls wt)/\c7 ls ft none kvs wt/\m=2 * (1+2 * ls.length - kvs.length)+wt.length /\
   σ=[some<|.str ft,some<|.ref L,some<|.ref d,some<|.ref M,u4,u5,u6,u7,u8,u9]) (m0:=2 * (1+2 * ls.length - 1)+1)
  ⟨by omega,_,[ft],_,_,_,_,_,_,s0,qK,qL,c7.start ls ft,rfl,rfl⟩ ?_
 rintro m σ H1 ⟨hm,kvs,wt,u4,u5,u6,u7,u8,u9,s1,Jq,zU,I,em,rfl⟩;refine ER<|af 3 (v:= .ref M) ⟨!wt.isEmpty,Or.inl ⟨wt.map V.str,ak.of zU,by cases wt <;> rfl⟩,?_⟩
 rcases List.eq_nil_or_concat wt with e | ⟨iT,hh,e⟩
 ·subst e;rw [BJ<|by decide];exact cq<|af 2<|q d kvs H1 s1 hd Jq I
 rw [List.concat_eq_append] at e;subst e;rw [BK<|by cases iT <;> rfl];obtain⟨hy,gJ⟩:=Ub iT hh;refine run_set 4 nd<|O2 CQ PJ PK Nb<|af 3 (v:= .ref M) ⟨Or.inl ⟨rfl,_,ak.of zU⟩,M,_,.str hh,rfl,rfl,zU,hy,?_⟩;rw [gJ];have I1:=I.pop;have lw:(iT++[hh]).length=iT.length+1:=by rw [Ae];rfl
 rw [lw] at em;have Jr:∀{H':Hp},ag H H'->H' L=some (.lst<|us.map V.ref):=λs=>s _ _ hL;show Run _ _ _ [some<|.str ft,some<|.ref L,some<|.ref d,some<|.ref M,some<|.str hh,u5,u6,u7,u8,u9] (upd H1 M<|Ls iT);have s2:ag H (upd H1 M<|Ls iT):=cL s1 qJ;have Js:(upd H1 M<|Ls iT) d=some (.dK kvs):=by rw [av<|Ne.symm jn];exact Jq
 have Jt:(upd H1 M<|Ls iT) M=some (Ls iT):=ae;generalize upd H1 M (Ls iT)=H2 at s2 Js Jt;refine jd<|af 1 ⟨L,rfl,⟨_,ak.of<|Jr s2⟩,je (xs:=us.map V.ref) (λj σ H'=>∃(kvs:List<|Key×V) (wt:List Str) (u5 u6 u7 u8 u9:Option V),ag H H'/\H' d=some (.dK kvs)/\H' M=some (Ls wt)/\c7 ls ft (some hh) kvs wt/\2 * (1+2 * ls.length - kvs.length)+wt.length < m /\
   (∀ l∈ls.take j,(l.1=hh->has kvs l.2.1)/\(l.2.1=hh->has kvs l.1))/\σ=[some<|.str ft,some<|.ref L,some<|.ref d,some<|.ref M,some<|.str hh,u5,u6,u7,u8,u9])
  ⟨kvs,iT,_,_,_,_,_,s2,Js,Jt,I1,by omega,λl hl=>by simp at hl,rfl⟩ ?_ ?_ ?_⟩
 ·rintro j σ H' _ ⟨_,_,_,_,_,_,_,sm,_⟩;exact ak.of<|Jr sm
 ·rintro j x σ H3 hx ⟨kvs,wt,u5,u6,u7,u8,u9,s3,ed,eM,I,aE,bL,rfl⟩;rw [Ad,Ap] at hx;obtain⟨u,cT,rfl⟩:=hx;have hj:j < ls.length:=by
   have:=(Ac.mp cT).1;omega
  have rk:ls[j]?=some ls[j]:=Ab hj;have dR:=(bW.same s3).2 j u _ cT rk;have fG:ls[j]∈ls:=By hj;have pC:∀ l∈ls.take (j+1),l∈ls.take j\/l=ls[j]:=λl hl=>by
   rw [Cj,rk] at hl
   rcases Al.mp hl with q | q
   ·exact .inl q
   ·exact .inr<|by simpa using q
  generalize ls[j]=lx at dR fG pC;obtain⟨on,ot,od⟩:=lx;refine om rfl (aK.of dR) (aW 5 nd<|aW 6 nd<|aW 7 nd ?_);show Run _ _ _ [some<|.str ft,some<|.ref L,some<|.ref d,some<|.ref M,some<|.str hh,some<|.str on,some<|.str ot,some<|.bl od,u8,u9] H3;refine EW<|dZ<|ao<|dZ<|ao<|af 5<|ao<|af 6<|aw ⟨Z2,λt1 qt=>?_⟩;refine ao<|dZ<|ao<|af 6<|ao<|af 5<|aw ⟨Z2,λt2 eF=>aw ⟨Z2,λtt zF=>?_⟩⟩;have n1:=aQ qt<|.tup [.str on,.str ot];have n2:=aQ eF<|.tup [.str ot,.str on];have n3:=aQ zF<|.tup [.ref t1,.ref t2];have e1:=n3 _ _<|n2 _ _<|ae (H:=H3) (a:=t1) (o:= .tup [.str on,.str ot]);have e2:=n3 _ _<|ae (H:=upd H3 t1<|.tup [.str on,.str ot]) (a:=t2) (o:= .tup [.str ot,.str on]);have e3:=ae (H:=upd (upd H3 t1<|.tup [.str on,.str ot]) t2<|.tup [.str ot,.str on]) (a:=tt) (o:= .tup [.ref t1,.ref t2]);have n:=n1.trans<|n2.trans n3;refine⟨tt,rfl,⟨_,aK.of e3⟩,?_⟩;generalize upd (upd (upd H3 t1<|.tup [.str on,.str ot]) t2<|.tup [.str ot,.str on]) tt (.tup [.ref t1,.ref t2])=H4 at e1 e2 e3 n;refine EX (xs:=[.ref t1,.ref t2]) (λi σ H'=>∃(kvs:List<|Key×V) (wt:List Str) (u8 u9:Option V),ag H H'/\H' d=some (.dK kvs)/\H' M=some (Ls wt)/\H' t1=some (.tup [.str on,.str ot])/\H' t2=some (.tup [.str ot,.str on])/\H' tt=some (.tup [.ref t1,.ref t2])/\c7 ls ft (some hh) kvs wt/\2 * (1+2 * ls.length - kvs.length)+wt.length < m /\
   (∀ l∈ls.take j,(l.1=hh->has kvs l.2.1)/\(l.2.1=hh->has kvs l.1))/\(0 < i->on=hh->has kvs ot)/\(1 < i->ot=hh->has kvs on)/\σ=[some<|.str ft,some<|.ref L,some<|.ref d,some<|.ref M,some<|.str hh,some<|.str on,some<|.str ot,some<|.bl od,u8,u9])
   ⟨kvs,wt,_,_,s3.trans n,n _ _ ed,n _ _ eM,e1,e2,e3,I,aE,bL,λh=>absurd h (by decide),λh=>absurd h (by decide),rfl⟩ ?_ ?_ ?_
  ·rintro i σ H' _ ⟨_,_,_,_,_,_,_,_,_,e,_⟩;exact aK.of e
  ·rintro i x σ H5 hx ⟨kvs,wt,u8,u9,s5,ed,eM,e1,e2,e3,I,aE,bL,d1,d2,rfl⟩;obtain⟨st,gl,t,rfl,et,zV,dq⟩:∃ st gl t,x = .ref t/\H5 t=some (.tup [.str st,.str gl])/\qe ls st gl od/\∀ gP,(∀ y,has kvs y->has gP y)->(st=hh->has gP gl)->(0 < i+1->on=hh->has gP ot)/\(1 < i+1->ot=hh->has gP on):=by
    match i with
    | 0=>
     cases hx;exact⟨on,ot,t1,rfl,e1,.inl fG,λgP mo h=>⟨λ_=>h,λh=>absurd h<|by decide⟩⟩
    | 1=>
     cases hx;exact⟨ot,on,t2,rfl,e2,.inr fG,λgP mo h=>⟨λ_ e=>mo _ (d1 (by decide) e),λ_=>h⟩⟩
    | i+2=>simp at hx
   refine oa rfl (aK.of et) (aW 8 nd<|aW 9 nd ?_);show Run _ _ _ [some<|.str ft,some<|.ref L,some<|.ref d,some<|.ref M,some<|.str hh,some<|.str on,some<|.str ot,some<|.bl od,some<|.str st,some<|.str gl] H5;have skip:(st=hh->has kvs gl)->∃(kvs:List<|Key×V) (wt:List Str) (u8 u9:Option V),ag H H5/\H5 d=some (.dK kvs)/\H5 M=some (Ls wt)/\H5 t1=some (.tup [.str on,.str ot])/\H5 t2=some (.tup [.str ot,.str on])/\H5 tt=some (.tup [.ref t1,.ref t2])/\c7 ls ft (some hh) kvs wt/\2 * (1+2 * ls.length - kvs.length)+wt.length < m /\
     (∀ l∈ls.take j,(l.1=hh->has kvs l.2.1)/\(l.2.1=hh->has kvs l.1))/\(0 < i+1->on=hh->has kvs ot)/\(1 < i+1->ot=hh->has kvs on)/\[some<|V.str ft,some<|.ref L,some<|.ref d,some<|.ref M,some<|.str hh,some<|.str on,some<|.str ot,some<|.bl od,some<|.str st,some<|.str gl]=[some<|.str ft,some<|.ref L,some<|.ref d,some<|.ref M,some<|.str hh,some<|.str on,some<|.str ot,some<|.bl od,u8,u9]:=λh=>
    ⟨kvs,wt,_,_,s5,ed,eM,e1,e2,e3,I,aE,bL,(dq kvs (λ_ h=>h) h).1,(dq kvs (λ_ h=>h) h).2,rfl⟩
   refine d0<|nQ<|w6<|dC fv<|af 8<|af 4 ⟨rfl,_,rfl,?_⟩
   by_cases cY:st=hh
   ·rw [BK<|CG<|by rw [cY]];refine w9<|O8 hu<|af 9<|af 2 ⟨d,_,rfl,bO.k (k:=Sum.inr gl) ed,?_⟩;cases hg:aA kvs (Sum.inr gl) with
    | some v=>
     show if false=true then _ else _;rw [BJ<|by decide];exact aP<|aP<|skip λ_=>⟨v,hg⟩
    | none=>
     show if true=true then _ else _;rw [BK rfl];have Ue:has kvs hh:=by
      rcases I.Qx with q
      exact q
     obtain⟨v,hv⟩:=Ue;obtain⟨b,rfl,_⟩:=I.val hh v hv;subst cY;have I':=I.add (o:=od) hg hv zV;have lk:=I.len;have Ug:=I'.len;have uV:(putK kvs (Sum.inr gl)<|.bl<|b != od).length=kvs.length+1:=by
      have qh:=I.kI hg;have:=BZ List.length<|oe kvs (Sum.inr gl)<|.bl<|b != od;rw [BJ qh,Ae,Aa,Aa] at this;exact this
     refine xG hu (nP wj<|lZ hu<|af 2<|af 4 ⟨d,.bl b,rfl,by rw [<- hv];exact bO.k (k:=Sum.inr st) ed,af 7 ⟨rfl,?_⟩⟩);rw [wg];refine af 2 (af 9 ⟨d,_,rfl,cQ.k (k:=Sum.inr gl) ed (bQ<|by omega),?_⟩);have Ju:(upd H5 d<|.dK<|putK kvs (Sum.inr gl)<|.bl<|b != od) M=some (Ls wt):=by rw [av jn];exact eM
     refine fD (jM<|af 3 ⟨M,rfl,⟨_,Ju⟩,af 9 ⟨_,Ju,by rw [Aa];exact bQ (by omega),?_⟩⟩);have kT:∀ c xs,H5 c=some (.tup xs)->(upd (upd H5 d<|.dK<|putK kvs (Sum.inr gl)<|.bl<|b != od) M<|.lst<|wt.map V.str++[.str gl]) c=some (.tup xs):=λc xs h=>by
      rw [av (en h eM λz=>nomatch z),av<|en h ed λz=>nomatch z];exact h
     have mo:∀ y,has kvs y->has (putK kvs (Sum.inr gl)<|.bl<|b != od) y:=λy h=>qg h;have hn:=dq _ mo (λ_=>⟨.bl<|b != od,by rw [fV,BK rfl]⟩);refine aP<|aP ⟨_,wt++[gl],_,_,cL (cL s5 hd) qJ,?_,?_,kT _ _ e1,kT _ _ e2,kT _ _ e3,I',?_,λl hl=>⟨λe=>mo _<|(bL l hl).1 e,λe=>mo _<|(bL l hl).2 e⟩,hn.1,hn.2,rfl⟩
     ·rw [av<|Ne.symm jn];exact ae
     ·rw [ae];show some (HO.lst<|wt.map V.str++[.str gl])=some (HO.lst<|(wt++[gl]).map V.str);rw [Ag];rfl
     ·rw [uV,Ae];rw [uV] at Ug;show _+(wt.length+1) < m;omega
   ·rw [BJ λh=>cY<|V.str.inj<|CV h];show if false=true then _ else _;rw [BJ<|by decide];exact aP<|aP<|skip λh=>absurd h cY
  ·rintro σ H5 ⟨kvs,wt,u8,u9,s5,ed,eM,_,_,_,I,aE,bL,d1,d2,rfl⟩;refine aP ⟨kvs,wt,_,_,_,_,_,s5,ed,eM,I,aE,λl hl=>?_,rfl⟩
   rcases pC l hl with q | q
   ·exact bL l q
   ·subst q;exact⟨d1 (by show 0 < 2;decide),d2<|by show 1 < 2;decide⟩
 ·rintro σ H3 ⟨kvs,wt,u5,u6,u7,u8,u9,s3,ed,eM,I,aE,bL,rfl⟩;rw [Aa,gO,Bi] at bL;refine aP ⟨_,aE,by omega,kvs,wt,_,_,_,_,_,_,s3,ed,eM,I.close λy o ht=>?_,rfl,rfl⟩
  rcases ht with h | h
  ·exact(bL _ h).1 rfl
  ·exact(bL _ h).2 rfl
end
end W6
namespace bX
open PySem PySem.W PyProof.Rows PySem.SeqAt
open PySem.AutoSeq1 (wpAny_loadPart')
open PySem.MeetsSeq PySem.MeetsSeq2 PySem.MeetsSeq3
def aO:List Str->List Str->Bool
 | [],[]=>false
 | [],_ :: _=>true
 | _ :: _,[]=>false
 | x :: xs,y :: ys=>if x=y then aO xs ys else decide (x.cps.toList < y.cps.toList)
theorem Jv:∀{a b:List Str},a≠b->aO a b=true\/aO b a=true
 | [],[],h=>absurd rfl h
 | [],_ :: _,_=> .inl rfl
 | _ :: _,[],_=> .inr rfl
 | x :: xs,y :: ys,h=>by
  show(if x=y then aO xs ys else decide (x.cps.toList < y.cps.toList))=true\/(if y=x then aO ys xs else decide (y.cps.toList < x.cps.toList))=true
  by_cases e:x=y
  ·rw [BK e,BK e.symm];exact Jv λq=>h<|by rw [e,q]
  ·rw [BJ e,BJ λq=>e q.symm,FJ,FJ]
   by_cases c:x.cps.toList < y.cps.toList
   ·exact .inl c
   ·refine .inr<|CN λd=>e<|HG<|List.le_antisymm (Gv.mp d)<|Gv.mp c
theorem rM:∀{a b:List Str},aO a b=true->aO b a=false
 | [],[],_=>rfl
 | [],_ :: _,_=>rfl
 | _ :: _,[],h=>by cases h
 | x :: xs,y :: ys,h=>by
  show(if y=x then aO ys xs else decide (y.cps.toList < x.cps.toList))=false;have h2:(if x=y then aO xs ys else decide (x.cps.toList < y.cps.toList))=true:=h
  by_cases e:x=y
  ·rw [BK e] at h2;rw [BK e.symm];exact rM h2
  ·rw [BJ e] at h2;rw [BJ λq=>e q.symm];exact BX λq=>Dp _<|Fw (CV h2) q
theorem Jw:∀{a b c:List Str},aO a b=true->aO b c=true->aO a c=true
 | [],[],_,h,_=>by cases h
 | [],_ :: _,[],_,h=>by cases h
 | [],_ :: _,_ :: _,_,_=>rfl
 | _ :: _,[],_,h,_=>by cases h
 | _ :: _,_ :: _,[],_,h=>by cases h
 | x :: xs,y :: ys,z :: zs,h,k=>by
  have h2:(if x=y then aO xs ys else decide (x.cps.toList < y.cps.toList))=true:=h;have k2:(if y=z then aO ys zs else decide (y.cps.toList < z.cps.toList))=true:=k;show(if x=z then aO xs zs else decide (x.cps.toList < z.cps.toList))=true
  by_cases e:x=y
  ·rw [BK e] at h2
   by_cases d:y=z
   ·rw [BK d] at k2;rw [BK<|e.trans d];exact Jw h2 k2
   ·rw [BJ d] at k2;rw [e,BJ d];exact k2
  ·rw [BJ e] at h2;have l1:=CV h2
   by_cases d:y=z
   ·rw [<- d,BJ e];exact h2
   ·rw [BJ d] at k2;have l2:=Fw l1<|CV k2;rw [BJ λq=>Dp _<|by rw [q] at l2;exact l2];exact CG l2
def SX(xs:Array Value)(zs:List Str):Prop:=xs.size=zs.length/\∀(i:Nat) (h:i < xs.size) (k:i < zs.length),∃ t,xs[i]=Value.str zs[i] t
theorem Uh(l b:Addr)(items aX:Array Value)(n n2:Nat)(dd oI:Option Addr)(sl oJ:Array<|Option Value)(zs us:List Str)(hz:SX items zs)(hu:SX aX us)(k:Nat) :
  ∀ i:Nat,items.size - i=k->i<=items.size->i<=aX.size->Meets (Builtin.«list.__eq__.loop» ⟨[.ref l,.ref b,rawInt i,rawInt 0],[]⟩)
   (λ_ R s => s.heap.get? l = some { cls := .type "list", dict := dd, data := .seq items n, slots := sl } ∧ s.heap.get? b = some { cls := .type "list", dict := oI, data := .seq aX n2, slots := oJ } ∧
    R (.ok<|.ret<|.bool<|aO (zs.drop i)<|us.drop i) s):=by
 have z1:=hz.1;have z2:=hu.1
 induction k with
 | zero=>
  intro i hk g1 g2 prog w A R s h;obtain⟨hp,g,d,tk,os⟩:=s;obtain⟨hl,hb,h⟩:=h
  wp_walk using DG hl,DG hb
  have kW:items[((i:Nat):Int).toNat]?=none:=by simp;omega
  have hd:zs.drop i=[]:=by simp;omega
  rw [hd] at h;rw [kW];have e:aO [] (us.drop i)=decide (items.size < aX.size):=by
   cases q:us.drop i with
   | nil=>
    have:us.length<=i:=by simpa using q
    exact(BX<|by omega).symm
   | cons x y=>
    have:i < us.length:=by
     refine CN λc=>?_;rw [Cy<|by omega] at q;cases q
    exact(CG<|by omega).symm
  rw [e] at h
  wp_walk using DG hl,DG hb
  exact h
 | succ k ih=>
  intro i hk g1 g2 prog w A R s h;obtain⟨hp,g,d,tk,os⟩:=s;obtain⟨hl,hb,h⟩:=h
  wp_walk using DG hl,DG hb
  have aE:i < items.size:=by omega
  have kW:items[((i:Nat):Int).toNat]?=some items[i]:=by simp [aE]
  have Jx:i < zs.length:=by omega
  obtain⟨t,ht⟩:=hz.2 i aE Jx;rw [Ch Jx] at h;rw [kW]
  by_cases c:i < aX.size
  ·have gQ:aX[((i:Nat):Int).toNat]?=some aX[i]:=by simp [c]
   have Jy:i < us.length:=by omega
   obtain⟨u,oB⟩:=hu.2 i c Jy;have hc:((i:Int)+1)=((i+1:Nat):Int):=by push_cast;rfl
   rw [Ch Jy] at h;rw [gQ,ht,oB];have h2:R (.ok<|.ret<|.bool (if zs[i]=us[i] then aO (zs.drop<|i+1) (us.drop<|i+1) else decide (zs[i].cps.toList < us[i].cps.toList))) ⟨hp,g,d,tk,os⟩:=h;refine BL<|EqAt.str_str (A:=A.in1) zs[i] t us[i] u prog w _ _ ?_;cases jS:(zs[i] == us[i]) with
   | true=>
    rw [BK<|beq_iff_eq.mp jS] at h2
    wp_walk
    rw [hc];exact⟨plainId_quiet plain_eq_loop _,codeAny_builtin entry_eq_loop<|by
     rw [Around.under_plainId plain_eq_loop _];exact ih (i+1) (by omega) (by omega) (by omega) prog w A R _ ⟨hl,hb,h2⟩⟩
   | false=>
    rw [BJ<|beq_eq_false_iff_ne.mp jS] at h2
    wp_walk using DG hl,DG hb
    rw [kW,gQ,ht,oB];refine BL (show wpAny (model prog w) A.in1 (compareOp .Lt (.str zs[i] t)<|.str us[i] u) _ _ _ from lt_str ?_)
    wp_walk
    exact h2
  ·have gQ:aX[((i:Nat):Int).toNat]?=none:=by simp;omega
   have hd:us.drop i=[]:=by simp;omega
   rw [hd] at h;rw [gQ];have e:aO (zs[i] :: zs.drop (i+1)) []=decide (items.size < aX.size):=(BX<|by omega).symm;rw [e] at h
   wp_walk using DG hl,DG hb
   exact h
theorem Ui(l b:Addr)(items aX:Array Value)(n n2:Nat)(dd oI:Option Addr)(sl oJ:Array<|Option Value)(zs us:List Str)(hz:SX items zs)(hu:SX aX us) :
  Meets (Builtin.«list.__lt__» ⟨[.ref l,.ref b],[]⟩)
   (λ_ R s => s.heap.get? l = some { cls := .type "list", dict := dd, data := .seq items n, slots := sl } ∧ s.heap.get? b = some { cls := .type "list", dict := oI, data := .seq aX n2, slots := oJ } ∧
    R (.ok<|.ret<|.bool<|aO zs us) s):=by
 intro prog w A R s h;obtain⟨hp,g,d,tk,os⟩:=s;obtain⟨hl,hb,h⟩:=h;have f3:=AutoSeq1.sub_list_list
 wp_walk using DG hl,DG hb
 exact⟨plainId_quiet plain_eq_loop _,codeAny_builtin entry_eq_loop<|by
  rw [Around.under_plainId plain_eq_loop _];exact Uh l b items aX n n2 dd oI sl oJ zs us hz hu _ 0 rfl (Br _) (Br _) prog w A R _ ⟨hl,hb,h⟩⟩
def j7(h:Heap)(v:Value)(z:List Str):Prop:=∃ a o xs n,v = .ref a/\h.get? a=some o/\o.cls = .type "list"/\o.data = .seq xs n/\SX xs z
theorem j7.keep{h h':Heap}{v:Value}{z:List Str}(x:j7 h v z)(k:∀ a o,v = .ref a->h.get? a=some o->h'.get? a=some o):j7 h' v z:=by
 obtain⟨a,o,xs,n,e,h1,h2⟩:=x;exact⟨a,o,xs,n,e,k a o e h1,h2⟩
def d8(h:Heap)(vs:List Value)(zs:List<|List Str):Prop:=vs.length=zs.length/\∀(i:Nat) v z,vs[i]?=some v->zs[i]?=some z->j7 h v z
section
variable{prog:Program}{w:World}{A:Around}{E:Value->Shared->Prop}{s:Shared}
theorem Uj{x y:Value}{z u:List Str}{Q:Bool->Shared->Prop}(hA:A.units < cLine)(hx:j7 s.heap x z)(hy:j7 s.heap y u)(h:Q (aO z u) s):wpAny (model prog w) A (keyLt' oneType' x y) Q E s:=by
 obtain⟨a,⟨cls,dd,data,sl⟩,xs,n,rfl,h1,h2,h3,h4⟩:=hx;obtain⟨b,⟨Uk,oI,data2,oJ⟩,ys,n',rfl,g1,g2,g3,g4⟩:=hy;simp only at h2 h3 g2 g3;subst h2 h3 g2 g3;rw [keyLt'_oneType,oneLt'_eq];simp only [DP];refine BL<|wpAny_cRoomFor hA ?_;refine BL<|wpAny_callSpecialIfBound?_slot ⟨_,h1,rfl⟩ PySem.F.slot_list_lt<|IK PySem.F.slot_list_lt ⟨_,h1,rfl⟩ PySem.F.entry_list_lt (PySem.F.args_list_lt_2 _ _) (Ui a b xs ys n n' dd oI sl oJ z u h4 g4) ⟨h1,g1,?_⟩;exact DW h
end
end bX
namespace L2
open PySem PySem.Spec PyProof.Rows bX
theorem Ul:∀{zs:List Str} {its:List Value},aq (zs.map V.str) its->SX its.toArray zs:=λ{zs its} r=>by
 have hl:its.length=zs.length:=by have:=r.length;rw [Aa] at this;exact this.symm
 refine⟨by rw [An];exact hl,λi h k=>?_⟩;have:∀{zs:List Str} {its:List Value},aq (zs.map V.str) its->∀(i:Nat) (h:i < its.length) (k:i < zs.length),∃ t,its[i]=Value.str zs[i] t:=by
  intro zs
  induction zs with
  | nil=>intro its r i h k;exact absurd k<|MP _
  | cons z zs ih=>
   intro its r i h k;cases r with
   | cons a b=>
    obtain⟨t,rfl⟩:=a;cases i with
    | zero=>exact⟨t,rfl⟩
    | succ i=>exact ih b i (Gc h)<|Gc k
 simpa using this r i (by simpa using h) k
theorem j8{a b:List (List Str)}(ha:a.Pairwise λx y=>aO x y=true)(hb:b.Pairwise λx y=>aO x y=true)(h:a.Perm b):a=b:=
 List.Perm.eq_of_pairwise (le:=λx y=>aO x y=true) (λx y _ _ h1 h2=>by rw [rM h1] at h2;cases h2) ha hb h
section
variable{X:Cx}{σ:St}{H:Hp}
end
end L2
namespace Jz
open PySem PyProof.Rows
def JA:Bool->Keyed->Array Keyed->Nat->Nat->Nat->StateT SortSt Sem (Option Nat):=sortPriv% PySem.Builtin.gallop
def JE:Array Keyed->Array Keyed->StateT SortSt Sem (Array Keyed):=sortPriv% PySem.Builtin.mergeLo
def JI:Array Keyed->Array Keyed->StateT SortSt Sem (Array Keyed):=sortPriv% PySem.Builtin.mergeHi
def Um:Nat->StateT SortSt Sem Unit:=sortPriv% PySem.Builtin.setMinGallop
structure Ord(prog:Program)(w:World)(A:Around)(E:Value->Shared->Prop)(s:Shared)(κ:SortKind)(a₀:List Keyed)(r:Keyed->Keyed->Bool):Prop where
 ask:∀(x y:Keyed) (st:SortSt) (Q:Option Bool->SortSt->Prop),x∈a₀->y∈a₀->x≠y->kindOf st=κ->Q (some<|r x y) st->wpS (model prog w) A E s (lt' x y) Q st
 mH:∀ x∈a₀,∀ y∈a₀,x≠y->r x y=true\/r y x=true
 yK:∀ x y,r x y=true->r y x=false
 gu:∀ x y z,r x y=true->r y z=true->r x z=true
section
variable{prog:Program}{w:World}{A:Around}{E:Value->Shared->Prop}{s:Shared}{κ:SortKind}{a₀:List Keyed}{r:Keyed->Keyed->Bool}
theorem Ord.not(O:Ord prog w A E s κ a₀ r){x y:Keyed}(hx:x∈a₀)(hy:y∈a₀)(ne:x≠y):(!r y x)=r x y:=by
 cases h:r x y with
 | true=>rw [O.yK _ _ h];rfl
 | false=>
  rcases O.mH x hx y hy ne with q | q
  ·rw [h] at q;cases q
  ·rw [q];rfl
theorem dz{arr:Array Keyed}{i:Nat}{x:Keyed}{Q:Keyed->SortSt->Prop}{st:SortSt}(hx:arr[i]?=some x)(h:Q x st):wpS (model prog w) A E s (elem' arr i) Q st:=by
 rw [elem'_eq,hx];exact BR h
structure rN(r:Keyed->Keyed->Bool)(key:Keyed)(arr:Array Keyed)(base n k:Nat):Prop where
 le:k<=n
 lo:∀ i x,i < k->arr[base+i]?=some x->r x key=true
 hi:∀ i x,k<=i->i < n->arr[base+i]?=some x->r x key=false
def ce(r:Keyed->Keyed->Bool)(key:Keyed)(arr:Array Keyed)(base i:Nat):Bool:=match arr[base+i]? with
 | some x=>r x key
 | none=>false
theorem rO{key x:Keyed}{arr:Array Keyed}{base i:Nat}(h:arr[base+i]?=some x):ce r key arr base i=r x key:=by unfold ce;rw [h]
theorem oK(O:Ord prog w A E s κ a₀ r){left:Bool}{key:Keyed}{arr:Array Keyed}{base n hint:Nat}{Q:Option Nat->SortSt->Prop}{st:SortSt}(hk:kindOf st=κ)(iB:key∈a₀)(hn:base+n<=arr.size)(hh:hint < n)
  (ha:∀ i x,i < n->arr[base+i]?=some x->x∈a₀/\x≠key) (mono:∀ i j x y,i < j->j < n->arr[base+i]?=some x->arr[base+j]?=some y->r x y=true)
  (hQ:∀ k,rN r key arr base n k->Q (some k) st):wpS (model prog w) A E s (JA left key arr base n hint) Q st:=by
 have at':∀ i,i < n->∃ x,arr[base+i]?=some x:=λi hi=>⟨_,Bj<|by omega⟩;have dn:∀ i j,i<=j->j < n->ce r key arr base j=true->ce r key arr base i=true:=λi j cS hj h=>by
  rcases Nat.lt_or_eq_of_le cS with c | rfl
  ·obtain⟨x,hx⟩:=at' i (by omega);obtain⟨y,hy⟩:=at' j hj;rw [rO hy] at h;rw [rO hx];exact O.gu _ _ _ (mono i j x y c hj hx hy) h
  ·exact h
 have up:∀ i j,i<=j->j < n->ce r key arr base i=false->ce r key arr base j=false:=λi j cS hj h=>by
  cases q:ce r key arr base j with
  | false=>rfl
  | true=>rw [dn i j cS hj q] at h;cases h
 have ask:∀(i:Nat) (R:Option Bool->SortSt->Prop),i < n->R (some<|ce r key arr base i) st ->
   wpS (model prog w) A E s (elem' arr (base+i) >>= λx=>if left=true then lt' x key else do return (<- lt' key x).map (!·)) R st:=λi R hi hR=>by
  obtain⟨x,hx⟩:=at' i hi;rw [rO hx] at hR;obtain⟨h1,h2⟩:=ha i x hi hx;refine BP<|dz hx ?_;cases left with
  | true=>exact O.ask x key st _ h1 iB h2 hk hR
  | false=>
   refine BP<|O.ask key x st _ iB h1 (Ne.symm h2) hk<|BR ?_;show R (some (!r key x)) st;rw [O.not h1 iB h2];exact hR
 have fin:∀ k,k<=n->(∀ j,j < k->ce r key arr base j=true)->(∀ j,k<=j->j < n->ce r key arr base j=false)->Q (some k) st:=λk hk h1 h2=>hQ k ⟨hk,λi x hi hx=>(rO hx).symm.trans<|h1 i hi,λi x h3 h4 hx=>(rO hx).symm.trans<|h2 i h3 h4⟩;unfold JA;refine BP<|ask hint _ hh ?_;cases hb:ce r key arr base hint with
 | true=>
  dsimp only
  rw [BK rfl];refine BP<|CZ (Q:=λc ai=>st=ai/\∃ l o,c=(none,l,o)/\l < o/\hint+l < n/\ce r key arr base (hint+l)=true/\(n - hint<=o\/ce r key arr base (hint+o)=false)) (CJ (λi c ai=>st=ai/\∃ l o,c=(none,l,o)/\l < o/\i < o/\hint+l < n/\ce r key arr base (hint+l)=true) ?_ ?_ ?_) ?_
  ·rintro i c ai _ hi ⟨rfl,l,o,rfl,h1,h2,h3,h4⟩
   dsimp only
   by_cases c:o>=n - hint
   ·rw [BK c];exact BR ⟨rfl,l,o,rfl,h1,h3,h4,.inl c⟩
   ·rw [BJ c];refine BP (ask (hint+o) _ (by omega) ?_);cases hq:ce r key arr base (hint+o) with
    | true=>exact BR ⟨rfl,o,2 * o+1,rfl,by omega,by omega,by omega,hq⟩
    | false=>exact BR ⟨rfl,l,o,rfl,h1,h3,h4,.inr hq⟩
  ·rintro c ai ⟨rfl,l,o,rfl,h1,h2,h3,h4⟩;exact⟨rfl,l,o,rfl,h1,h3,h4,.inl<|by omega⟩
  ·exact⟨rfl,0,1,rfl,by omega,by omega,hh,hb⟩
  rintro c ai ⟨rfl,l,o,rfl,h1,h2,h3,h4⟩
  dsimp only
  have f1:∀ j,j < hint+l+1->ce r key arr base j=true:=λj hj=>dn j (hint+l) (by omega) h2 h3;have f2:∀ j,hint+min o (n - hint)<=j->j < n->ce r key arr base j=false:=λj h5 h6=>by
   rcases h4 with h4 | h4
   ·omega
   ·exact up (hint+o) j (by omega) h6 h4
  have f3:hint+l+1<=hint+min o (n - hint)/\hint+min o (n - hint)<=n:=by omega
  generalize hint+l+1=lo at f1 f3;generalize hint+min o (n - hint)=hi at f2 f3;refine BP<|CZ (Q:=λc ai=>st=ai/\∃ h,c=(none,h,h)/\h<=n/\(∀ j,j < h->ce r key arr base j=true)/\(∀ j,h<=j->j < n->ce r key arr base j=false)) (CJ (λi c ai=>st=ai/\∃ lo hi,c=(none,lo,hi)/\lo<=hi/\hi<=n/\hi - lo+i<=n/\(∀ j,j < lo->ce r key arr base j=true)/\(∀ j,hi<=j->j < n->ce r key arr base j=false)) ?_ ?_ ?_) ?_
  ·rintro i c ai _ d6 ⟨rfl,lo,hi,rfl,g1,g2,g3,g4,g5⟩
   dsimp only
   by_cases c:lo>=hi
   ·rw [BK c];obtain rfl:lo=hi:=by omega
    exact BR ⟨rfl,lo,rfl,g2,g4,g5⟩
   ·rw [BJ c];refine BP (ask (lo+(hi - lo) / 2) _ (by omega) ?_);cases hq:ce r key arr base (lo+(hi - lo) / 2) with
    | true=>exact BR ⟨rfl,lo+(hi - lo) / 2+1,hi,rfl,by omega,g2,by omega,λj hj=>dn j _ (by omega) (by omega) hq,g5⟩
    | false=>exact BR ⟨rfl,lo,lo+(hi - lo) / 2,rfl,by omega,by omega,by omega,g4,λj h5 h6=>up _ j h5 h6 hq⟩
  ·rintro c ai ⟨rfl,lo,hi,rfl,g1,g2,g3,g4,g5⟩;obtain rfl:lo=hi:=by omega
   exact⟨rfl,lo,rfl,g2,g4,g5⟩
  ·exact⟨rfl,lo,hi,rfl,f3.1,f3.2,by omega,f1,f2⟩
  rintro c ai ⟨rfl,h,rfl,g1,g2,g3⟩;exact BR<|fin h g1 g2 g3
 | false=>
  dsimp only
  rw [BJ As];refine BP<|CZ (Q:=λc ai=>st=ai/\∃ l o,c=(none,l,o)/\l < o/\l<=hint/\ce r key arr base (hint - l)=false/\(hint+1<=o\/ce r key arr base (hint - o)=true)) (CJ (λi c ai=>st=ai/\∃ l o,c=(none,l,o)/\l < o/\i < o/\l<=hint/\ce r key arr base (hint - l)=false) ?_ ?_ ?_) ?_
  ·rintro i c ai _ hi ⟨rfl,l,o,rfl,h1,h2,h3,h4⟩
   dsimp only
   by_cases c:o>=hint+1
   ·rw [BK c];exact BR ⟨rfl,l,o,rfl,h1,h3,h4,.inl c⟩
   ·rw [BJ c];refine BP (ask (hint - o) _ (by omega) ?_);cases hq:ce r key arr base (hint - o) with
    | true=>exact BR ⟨rfl,l,o,rfl,h1,h3,h4,.inr hq⟩
    | false=>exact BR ⟨rfl,o,2 * o+1,rfl,by omega,by omega,by omega,hq⟩
  ·rintro c ai ⟨rfl,l,o,rfl,h1,h2,h3,h4⟩;exact⟨rfl,l,o,rfl,h1,h3,h4,.inl<|by omega⟩
  ·exact⟨rfl,0,1,rfl,by omega,by omega,Br _,hb⟩
  rintro c ai ⟨rfl,l,o,rfl,h1,h2,h3,h4⟩
  dsimp only
  have f1:∀ j,j < hint+1 - min o (hint+1)->ce r key arr base j=true:=λj hj=>by
   rcases h4 with h4 | h4
   ·omega
   ·exact dn j (hint - o) (by omega) (by omega) h4
  have f2:∀ j,hint - l<=j->j < n->ce r key arr base j=false:=λj h5 h6=>up (hint - l) j h5 h6 h3;have f3:hint+1 - min o (hint+1)<=hint - l/\hint - l<=n:=by omega
  generalize hint+1 - min o (hint+1)=lo at f1 f3;generalize hint - l=hi at f2 f3;refine BP<|CZ (Q:=λc ai=>st=ai/\∃ h,c=(none,h,h)/\h<=n/\(∀ j,j < h->ce r key arr base j=true)/\(∀ j,h<=j->j < n->ce r key arr base j=false)) (CJ (λi c ai=>st=ai/\∃ lo hi,c=(none,lo,hi)/\lo<=hi/\hi<=n/\hi - lo+i<=n/\(∀ j,j < lo->ce r key arr base j=true)/\(∀ j,hi<=j->j < n->ce r key arr base j=false)) ?_ ?_ ?_) ?_
  ·rintro i c ai _ d6 ⟨rfl,lo,hi,rfl,g1,g2,g3,g4,g5⟩
   dsimp only
   by_cases c:lo>=hi
   ·rw [BK c];obtain rfl:lo=hi:=by omega
    exact BR ⟨rfl,lo,rfl,g2,g4,g5⟩
   ·rw [BJ c];refine BP (ask (lo+(hi - lo) / 2) _ (by omega) ?_);cases hq:ce r key arr base (lo+(hi - lo) / 2) with
    | true=>exact BR ⟨rfl,lo+(hi - lo) / 2+1,hi,rfl,by omega,g2,by omega,λj hj=>dn j _ (by omega) (by omega) hq,g5⟩
    | false=>exact BR ⟨rfl,lo,lo+(hi - lo) / 2,rfl,by omega,by omega,by omega,g4,λj h5 h6=>up _ j h5 h6 hq⟩
  ·rintro c ai ⟨rfl,lo,hi,rfl,g1,g2,g3,g4,g5⟩;obtain rfl:lo=hi:=by omega
   exact⟨rfl,lo,rfl,g2,g4,g5⟩
  ·exact⟨rfl,lo,hi,rfl,f3.1,f3.2,by omega,f1,f2⟩
  rintro c ai ⟨rfl,h,rfl,g1,g2,g3⟩;exact BR<|fin h g1 g2 g3
end
structure MI(r:Keyed->Keyed->Bool)(la lb o:List Keyed)(ia ib:Nat):Prop where
 perm:o.Perm<|la.take ia++lb.take ib
 cN:o.Pairwise λx y=>r x y=true
 lt:∀ x∈o,∀ y∈la.drop ia++lb.drop ib,r x y=true
structure Pre(prog:Program)(w:World)(A:Around)(E:Value->Shared->Prop)(s:Shared)(κ:SortKind)(a₀:List Keyed)(r:Keyed->Keyed->Bool)(la lb:List Keyed):Prop where
 ord:Ord prog w A E s κ a₀ r
 mem:∀ x∈la++lb,x∈a₀
 nd:(la++lb).Nodup
 sa:la.Pairwise λx y=>r x y=true
 sb:lb.Pairwise λx y=>r x y=true
section
variable{prog:Program}{w:World}{A:Around}{E:Value->Shared->Prop}{s:Shared}{κ:SortKind}{a₀:List Keyed}{r:Keyed->Keyed->Bool}{la lb o:List Keyed}{ia ib k:Nat}
theorem JO{α:Type}(l:List α)(i k:Nat):l.take (i+k)=l.take i++(l.drop i).take k:=List.take_add
theorem MI.d9(P:Pre prog w A E s κ a₀ r la lb)(h:MI r la lb o ia ib)(hx:∀ x∈(la.drop ia).take k,∀ y∈lb.drop ib,r x y=true):MI r la lb (o++(la.drop ia).take k) (ia+k) ib:=by
 have sd:(la.drop ia).Pairwise λx y=>r x y=true:=P.sa.sublist<|Fm _ _;have ed:la.drop (ia+k)=(la.drop ia).drop k:=(PN ..).symm;have sp:=sd;rw [<- Bw k<|la.drop ia,Ca] at sp;refine⟨?_,Ca.mpr ⟨h.cN,sp.1,λx fJ y hy=>h.lt x fJ y<|Av _<|Cd hy⟩,λx fJ y hy=>?_⟩
 ·rw [JO,Aw];refine(h.perm.append_right _).trans ?_;rw [Aw];exact List.perm_append_comm.append_left _
 ·rw [ed] at hy
  rcases Al.mp fJ with q | q
  ·rcases Al.mp hy with p | p
   ·exact h.lt x q y<|Av _<|Bu p
   ·exact h.lt x q y<|Aj _ p
  ·rcases Al.mp hy with p | p
   ·exact sp.2.2 x q y p
   ·exact hx x q y p
theorem MI.dM(P:Pre prog w A E s κ a₀ r la lb)(h:MI r la lb o ia ib)(hx:∀ x∈(lb.drop ib).take k,∀ y∈la.drop ia,r x y=true):MI r la lb (o++(lb.drop ib).take k) ia (ib+k):=by
 have sd:(lb.drop ib).Pairwise λx y=>r x y=true:=P.sb.sublist<|Fm _ _;have ed:lb.drop (ib+k)=(lb.drop ib).drop k:=(PN ..).symm;have sp:=sd;rw [<- Bw k<|lb.drop ib,Ca] at sp;refine⟨?_,Ca.mpr ⟨h.cN,sp.1,λx fJ y hy=>h.lt x fJ y<|Aj _<|Cd hy⟩,λx fJ y hy=>?_⟩
 ·rw [JO,<- Aw];exact h.perm.append_right _
 ·rw [ed] at hy
  rcases Al.mp fJ with q | q
  ·rcases Al.mp hy with p | p
   ·exact h.lt x q y<|Av _ p
   ·exact h.lt x q y<|Aj _<|Bu p
  ·rcases Al.mp hy with p | p
   ·exact hx x q y p
   ·exact sp.2.2 x q y p
structure Md(r:Keyed->Keyed->Bool)(la lb o:List Keyed):Prop where
 perm:o.Perm<|la++lb
 cN:o.Pairwise λx y=>r x y=true
theorem MI.fin(h:MI r la lb o la.length lb.length):Md r la lb o:=⟨by have:=h.perm;rw [Bi,Bi] at this;exact this,h.cN⟩
theorem take_all(l:List Keyed)(i:Nat):(l.drop i).take (l.length - i)=l.drop i:=Ci<|by rw [Cb];exact Ah _
theorem MI.dB(P:Pre prog w A E s κ a₀ r la lb)(h:MI r la lb o ia lb.length)(hi:ia<=la.length):Md r la lb (o++la.drop ia++lb.drop lb.length):=by
 have:=h.d9 P (k:=la.length - ia) λx _ y hy=>by rw [Dm] at hy;cases hy
 rw [take_all,show ia+(la.length - ia)=la.length by omega] at this;rw [Dm,Bc];exact this.fin
theorem MI.dN(P:Pre prog w A E s κ a₀ r la lb)(h:MI r la lb o la.length ib)(hi:ib<=lb.length):Md r la lb (o++la.drop la.length++lb.drop ib):=by
 have:=h.dM P (k:=lb.length - ib) λx _ y hy=>by rw [Dm] at hy;cases hy
 rw [take_all,show ib+(lb.length - ib)=lb.length by omega] at this;rw [Dm,Bc];exact this.fin
theorem MI.gR(P:Pre prog w A E s κ a₀ r la lb)(h:MI r la lb o ia ib)(ha:ia+1=la.length)(hb:ib<=lb.length)(hl:∀ x,la[ia]?=some x->∀ y∈lb,r y x=true):Md r la lb (o++lb.drop ib++la.drop ia):=by
 have e1:la.drop ia=[la[ia]'(by omega)]:=by rw [Ch (by omega),Cy<|by omega]
 have h1:=h.dM P (k:=lb.length - ib) λx hx y hy=>by
  rw [e1,Af] at hy;rw [hy];exact hl _ (Ab<|by omega) x<|Bu<|Cd hx
 rw [take_all,show ib+(lb.length - ib)=lb.length by omega] at h1;have h2:=h1.dB P (by omega);rw [Dm,Bc] at h2;exact h2
def aJ(st ai:SortSt):Prop:=kindOf ai=kindOf st/\arrOf ai=arrOf st/\pendingOf ai=pendingOf st/\failedOf ai=failedOf st
theorem aJ.refl(st:SortSt):aJ st st:=⟨rfl,rfl,rfl,rfl⟩
theorem oM{t:String}{Q:Unit->SortSt->Prop}{st:SortSt}(h:Q () st):wpS (model prog w) A E s (liftM (rule t):StateT SortSt Sem Unit) Q st:=wpS_lift<|IV ⟨rfl,h⟩
theorem vo{g:Nat}{Q:Unit->SortSt->Prop}{st oN:SortSt}(h0:aJ oN st)(h:∀ ai,aJ oN ai->Q () ai):wpS (model prog w) A E s (Um g) Q st:=HB<|h _ h0
theorem JP(a:Array Keyed)(i k:Nat):(a.extract i<|i+k).toList=(a.toList.drop i).take k:=by
 rw [Gm,Fv,Ga]
theorem oO(a:Array Keyed)(i:Nat):(a.extract i a.size).toList=a.toList.drop i:=by
 rw [Gm,Fv,Ci<|by rw [Cb,Am];exact Ah _]
theorem jt{l:List Keyed}{i:Nat}{x:Keyed}(h:l[i]?=some x):(l.drop i).take 1=[x]:=by
 obtain⟨hi,e⟩:=Ac.mp h;rw [Ch hi,e];rfl
theorem Uo{l:List Keyed}{i:Nat}{x y:Keyed}(h:l[i]?=some x)(sl:l.Pairwise λx y=>r x y=true)(hy:y∈l.drop i):y=x\/r x y=true:=by
 obtain⟨hi,e⟩:=Ac.mp h;have sd:(l.drop i).Pairwise λx y=>r x y=true:=sl.sublist<|Fm _ _;rw [Ch hi,e] at hy sd
 rcases Ax.mp hy with q | q
 ·exact .inl q
 ·exact .inr<|(Cr.mp sd).1 y q
theorem ahead(O:Ord prog w A E s κ a₀ r){l:List Keyed}{i:Nat}{x y z:Keyed}(h:l[i]?=some y)(sl:l.Pairwise λx y=>r x y=true)(hx:r x y=true)(hz:z∈l.drop i):r x z=true:=by
 rcases Uo h sl hz with rfl | q
 ·exact hx
 ·exact O.gu _ _ _ hx q
theorem ju{a:Array Keyed}{i:Nat}{x:Keyed}(h:a[i]?=some x):x∈a.toList:=by
 rw [<- Ao] at h;exact Au h
theorem pw{a:Array Keyed}{i j:Nat}{x y:Keyed}(h:a.toList.Pairwise λx y=>r x y=true)(cS:i < j)(hx:a[i]?=some x)(hy:a[j]?=some y):r x y=true:=by
 rw [<- Ao] at hx hy;obtain⟨h1,rfl⟩:=Ac.mp hx;obtain⟨h2,rfl⟩:=Ac.mp hy;exact Bg.mp h i j h1 h2 cS
theorem zW{key:Keyed}{a:Array Keyed}{base n k:Nat}(h:rN r key a base n k):∀ x∈(a.toList.drop base).take k,r x key=true:=λx hx=>by
 obtain⟨i,hi,e⟩:=Ex hx;rw [Ay] at hi;refine h.lo i x (by omega) ?_;rw [<- Ao,<- List.getElem?_drop,<- e,Fn];exact Ab _
theorem JS{key:Keyed}{a:Array Keyed}{base n k:Nat}(h:rN r key a base n k)(hn:a.size<=base+n):∀ x∈a.toList.drop (base+k),r x key=false:=λx hx=>by
 obtain⟨i,hi,e⟩:=Ex hx;rw [Cb,Am] at hi;refine h.hi (k+i) x (by omega) (by omega) ?_;rw [<- Ao,<- e,Fo,<- Nat.add_assoc];exact Ab _
theorem Uq{a b:Array Keyed}{Q:Array Keyed->SortSt->Prop}{st:SortSt}(P:Pre prog w A E s κ a₀ r a.toList b.toList)(hk:kindOf st=κ)(ha:0 < a.size)(hb:0 < b.size)(h0:∀ x y,a[0]?=some x->b[0]?=some y->r y x=true)(hl:∀ x,a[a.size - 1]?=some x->∀ y∈b.toList,r y x=true)
  (hQ:∀ o ai,Md r a.toList b.toList o.toList->aJ st ai->Q o ai):wpS (model prog w) A E s (JE a b) Q st:=by
 have O:=P.ord;have al:a.toList.length=a.size:=Am;have bl:b.toList.length=b.size:=Am;have kX:∀ i,i < a.size->∃ x,a[i]?=some x/\a.toList[i]?=some x/\x∈a₀/\x∈a.toList:=λi hi=>⟨a[i],Bj hi,by rw [Ao];exact Bj hi,P.mem _ (Av _<|by simp),by simp⟩;have mW:∀ i,i < b.size->∃ x,b[i]?=some x/\b.toList[i]?=some x/\x∈a₀/\x∈b.toList:=λi hi=>⟨b[i],Bj hi,by rw [Ao];exact Bj hi,P.mem _ (Aj _<|by simp),by simp⟩;have apart:∀ x∈a.toList,∀ y∈b.toList,x≠y:=(Cz.mp P.nd).2.2;have flip:∀{x y:Keyed},x∈a₀->y∈a₀->x≠y->r x y=false->r y x=true:=λ{x y} hx hy ne h=>by
  rcases O.mH x hx y hy ne with q | q
  ·rw [h] at q;cases q
  ·exact q
 have rP:∀{ia:Nat},ia+1=a.size->∀ x,a.toList[ia]?=some x->∀ y∈b.toList,r y x=true:=λ{ia} h x hx=>hl x (by rw [Ao] at hx;rw [show a.size - 1=ia by omega];exact hx);have dB:∀{o:Array Keyed} {ia:Nat},MI r a.toList b.toList o.toList ia b.size->ia<=a.size->Md r a.toList b.toList (o++a.extract ia a.size++b.extract b.size b.size).toList:=λ{o ia} h hi=>by
  rw [Bn,Bn,oO,oO,<- bl];exact MI.dB P (by rw [bl];exact h)<|by omega
 have dN:∀{o:Array Keyed} {ib:Nat},MI r a.toList b.toList o.toList a.size ib->ib<=b.size->Md r a.toList b.toList (o++a.extract a.size a.size++b.extract ib b.size).toList:=λ{o ib} h hi=>by
  rw [Bn,Bn,oO,oO,<- al];exact MI.dN P (by rw [al];exact h)<|by omega
 have gR:∀{o:Array Keyed} {ia ib:Nat},MI r a.toList b.toList o.toList ia ib->ia+1=a.size->ib<=b.size->Md r a.toList b.toList (o++b.extract ib b.size++a.extract ia a.size).toList:=λ{o ia ib} h h1 h2=>by
  rw [Bn,Bn,oO,oO];exact h.gR P (by omega) (by omega)<|rP h1
 have fb:∀{o:Array Keyed} {ia ib:Nat} {x y:Keyed},MI r a.toList b.toList o.toList ia ib->a.toList[ia]?=some x->b.toList[ib]?=some y->r x y=true->MI r a.toList b.toList (o.push x).toList (ia+1) ib:=λ{o ia ib x y} h hx hy hr=>by
  have:=h.d9 P (k:=1) λu hu v hv=>by
   rw [jt hx,Af] at hu;rw [hu];exact ahead O hy P.sb hr hv
  rw [jt hx] at this;rw [Ds];exact this
 have fc:∀{o:Array Keyed} {ia ib:Nat} {x y:Keyed},MI r a.toList b.toList o.toList ia ib->a.toList[ia]?=some x->b.toList[ib]?=some y->r y x=true->MI r a.toList b.toList (o.push y).toList ia (ib+1):=λ{o ia ib x y} h hx hy hr=>by
  have:=h.dM P (k:=1) λu hu v hv=>by
   rw [jt hy,Af] at hu;rw [hu];exact ahead O hx P.sa hr hv
  rw [jt hy] at this;rw [Ds];exact this
 have mX:∀{o:Array Keyed} {ia ib:Nat} {x:Keyed},MI r a.toList b.toList o.toList ia ib->a.toList[ia]?=some x->(∀ y∈b.toList.drop ib,r x y=true)->MI r a.toList b.toList (o.push x).toList (ia+1) ib:=λ{o ia ib x} h hx hr=>by
  have:=h.d9 P (k:=1) λu hu v hv=>by
   rw [jt hx,Af] at hu;rw [hu];exact hr v hv
  rw [jt hx] at this;rw [Ds];exact this
 have mY:∀{o:Array Keyed} {ia ib:Nat} {y:Keyed},MI r a.toList b.toList o.toList ia ib->b.toList[ib]?=some y->(∀ x∈a.toList.drop ia,r y x=true)->MI r a.toList b.toList (o.push y).toList ia (ib+1):=λ{o ia ib y} h hy hr=>by
  have:=h.dM P (k:=1) λu hu v hv=>by
   rw [jt hy,Af] at hu;rw [hu];exact hr v hv
  rw [jt hy] at this;rw [Ds];exact this
 unfold JE;refine BP<|oM ?_;obtain⟨b0,oP,mZ,_,_⟩:=mW 0 hb;obtain⟨a0,zX,m4,_,_⟩:=kX 0 ha;refine BP<|dz oP ?_;have start:MI r a.toList b.toList (#[b0]:Array Keyed).toList 0 1:=by
  have oN:MI r a.toList b.toList (#[]:Array Keyed).toList 0 0:=⟨List.Perm.refl _,List.Pairwise.nil,λx h=>by cases h⟩;exact fc oN m4 mZ<|h0 _ _ zX oP
 dsimp only
 by_cases c1:b.size=1
 ·rw [BK<|by rw [c1];rfl];refine BR<|hQ _ _ ?_<|aJ.refl _;have:=dB (ia:=0) (by rw [c1];exact start)<|Br _;rw [c1] at this ⊢;exact this
 rw [BJ<|by simpa using λh:1=b.size=>c1 h.symm]
 by_cases c2:a.size=1
 ·rw [BK<|by rw [c2];rfl];exact BR<|hQ _ _ (gR (ia:=0) start (by omega)<|by omega)<|aJ.refl _
 rw [BJ<|by simpa using λh:1=a.size=>c2 h.symm];refine BP<|DY ?_;refine BP<|CZ (Q:=λc ai=>aJ st ai/\∃ o x,c=(some o,x)/\Md r a.toList b.toList o.toList) (CJ (λi c ai=>aJ st ai/\∃ o ia ib mg,c=(none,o,ia,ib,mg)/\MI r a.toList b.toList o.toList ia ib/\ia+1 < a.size/\ib < b.size/\i < ia+ib) ?_ ?_ ?_) ?_
 ·rintro i c ai _ hi ⟨ss,o,ia,ib,mg,rfl,h,h1,h2,h3⟩
  dsimp only
  refine BP<|CZ (Q:=λc ai=>aJ st ai/\((∃ o x,c=(some o,x)/\Md r a.toList b.toList o.toList)\/∃ o bJ bB ac bc,c=(none,o,bJ,bB,ac,bc)/\MI r a.toList b.toList o.toList bJ bB/\bJ+1 < a.size/\bB < b.size/\ia+ib < bJ+bB)) (CJ (λj c ai=>aJ st ai/\∃ o bJ bB ac bc,c=(none,o,bJ,bB,ac,bc)/\MI r a.toList b.toList o.toList bJ bB/\bJ+1 < a.size/\bB < b.size/\ia+ib+j<=bJ+bB) ?_ ?_ ?_) ?_
  ·rintro j c bh _ hj ⟨s2,o,bJ,bB,ac,bc,rfl,g,g1,g2,g3⟩
   dsimp only
   obtain⟨x,hx,gH,iU,iV⟩:=kX bJ (by omega);obtain⟨y,hy,fB,iW,iX⟩:=mW bB (by omega);refine BP<|dz hy ?_;refine BP<|dz hx ?_;refine BP<|O.ask y x bh _ iW iU (Ne.symm<|apart x iV y iX) (s2.1.trans hk) ?_;cases hr:r y x with
   | true=>
    dsimp only
    rw [BK rfl];refine BP<|dz hy ?_;have g':=fc g gH fB hr
    by_cases e:bB+1=b.size
    ·rw [BK<|by simpa using e];exact BR ⟨s2,.inl ⟨_,_,rfl,by rw [e];exact dB (by rw [<- e];exact g')<|by omega⟩⟩
    ·rw [BJ<|by simpa using e]
     by_cases e2:bc+1>=mg
     ·rw [BK e2];exact BR ⟨s2,.inr ⟨_,_,_,_,_,rfl,g',g1,by omega,by omega⟩⟩
     ·rw [BJ e2];exact BR ⟨s2,_,_,_,_,_,rfl,g',g1,by omega,by omega⟩
   | false=>
    dsimp only
    rw [BJ As];refine BP<|dz hx ?_;have g':=fb g gH fB<|flip iW iU (Ne.symm<|apart x iV y iX) hr
    by_cases e:bJ+1+1=a.size
    ·rw [BK<|by simpa using e];exact BR ⟨s2,.inl ⟨_,_,rfl,gR g' e<|by omega⟩⟩
    ·rw [BJ<|by simpa using e]
     by_cases e2:ac+1>=mg
     ·rw [BK e2];exact BR ⟨s2,.inr ⟨_,_,_,_,_,rfl,g',by omega,by omega,by omega⟩⟩
     ·rw [BJ e2];exact BR ⟨s2,_,_,_,_,_,rfl,g',by omega,by omega,by omega⟩
  ·rintro c bh ⟨s2,o,bJ,bB,ac,bc,rfl,g,g1,g2,g3⟩;omega
  ·exact⟨ss,_,_,_,_,_,rfl,h,h1,h2,Ah _⟩
  rintro c bh ⟨s2,⟨o,x,rfl,hm⟩ | ⟨o,bJ,bB,ac,bc,rfl,g,g1,g2,g3⟩⟩
  ·exact BR ⟨s2,o,_,rfl,hm⟩
  dsimp only
  refine BP<|oM ?_;refine BP<|CZ (Q:=λc ai=>aJ st ai/\((∃ o x,c=(some o,x)/\Md r a.toList b.toList o.toList)\/∃ o bJ bB mg ac bc,c=(none,o,bJ,bB,mg,ac,bc)/\MI r a.toList b.toList o.toList bJ bB/\bJ+1 < a.size/\bB < b.size/\ia+ib < bJ+bB)) (CJ (λj c ai=>aJ st ai/\∃ o bJ bB mg ac bc,c=(none,o,bJ,bB,mg,ac,bc)/\MI r a.toList b.toList o.toList bJ bB/\bJ+1 < a.size/\bB < b.size/\ia+ib+j < bJ+bB) ?_ ?_ ?_) ?_
  ·rintro j c bb _ hj ⟨s3,o,bJ,bB,mg,ac,bc,rfl,g,g1,g2,g3⟩
   dsimp only
   obtain⟨y,hy,fB,iW,iX⟩:=mW bB<|by omega
   by_cases rQ:mg > 1
   case' pos=>rw [BK rQ]
   case' neg=>rw [BJ rQ]
   all_goals
    refine BP<|vo s3 λlW s4=>?_;refine BP<|dz hy ?_;refine BP<|oK O (s4.1.trans hk) iW (by omega) (by omega) (λi x h1 h2=>⟨P.mem _<|Av _<|ju h2,apart x (ju h2) y iX⟩) (λi j x y h1 h2 h3 h4=>pw P.sa (by omega) h3 h4) λk ck=>?_
    dsimp only
    have lo:=zW ck;have hi:∀ x∈a.toList.drop (bJ+k),r y x=true:=λx hx=>flip (P.mem _<|Av _<|Bu hx) iW (apart x (Bu hx) y iX) (JS ck (by omega) x hx);have gk:MI r a.toList b.toList (o++a.extract bJ (bJ+k)).toList (bJ+k) bB:=by
     rw [Bn,JP];exact g.d9 P λx hx v hv=>ahead O fB P.sb (lo x hx) hv
    have kle:=ck.le
    rcases Nat.eq_zero_or_pos k with ek | ek
    case' inl=>
     subst ek;rw [BJ<|Cs 0];obtain⟨o2,fK⟩:∃ o2,o2=o:=⟨_,rfl⟩;obtain⟨iu,j9⟩:∃ iu,iu=bJ:=⟨_,rfl⟩;rw [<- fK,<- j9];rw [<- fK,<- j9] at g;rw [LQ,<- j9] at hi;have b1:iu+1 < a.size:=by omega
     have b3:bJ<=iu:=by omega
     clear gk fK j9
    case' inr=>
     rw [BK ek]
     by_cases e1:bJ+k+1=a.size
     case' pos=>
      rw [BK<|by simpa using e1];exact BR ⟨s4,.inl ⟨_,_,rfl,gR gk e1<|by omega⟩⟩
     case' neg=>
      rw [BJ<|by simpa using e1]
      by_cases e2:bJ+k=a.size
      case' pos=>
       rw [BK<|by simpa using e2];exact BR ⟨s4,.inl ⟨_,_,rfl,by rw [e2];exact dN (by rw [e2] at gk;exact gk)<|by omega⟩⟩
      case' neg=>
       rw [BJ<|by simpa using e2];clear g;have g:=gk;clear gk;obtain⟨o2,fK⟩:∃ o2,o2=o++a.extract bJ (bJ+k):=⟨_,rfl⟩;obtain⟨iu,j9⟩:∃ iu,iu=bJ+k:=⟨_,rfl⟩;rw [<- fK,<- j9];rw [<- fK,<- j9] at g;rw [<- j9] at hi;have b1:iu+1 < a.size:=by omega
       have b3:bJ<=iu:=by omega
       clear fK j9
    all_goals
     refine BP<|dz hy ?_;have g5:=mY g fB hi
     by_cases e3:bB+1=b.size
     ·rw [BK<|by simpa using e3];exact BR ⟨s4,.inl ⟨_,_,rfl,by rw [e3];exact dB (by rw [<- e3];exact g5)<|by omega⟩⟩
     rw [BJ<|by simpa using e3];obtain⟨x,hx,gH,iU,iV⟩:=kX iu (by omega);refine BP<|dz hx ?_;refine BP<|oK O (s4.1.trans hk) iU (by omega) (by omega) (λi y h1 h2=>⟨P.mem _<|Aj _<|ju h2,Ne.symm<|apart x iV y<|ju h2⟩) (λi j x y h1 h2 h3 h4=>pw P.sb (by omega) h3 h4) λk2 m5=>?_
     dsimp only
     have kY:=zW m5;have gQ:∀ y∈b.toList.drop (bB+1+k2),r x y=true:=λy hy=>flip (P.mem _<|Aj _<|Bu hy) iU (Ne.symm<|apart x iV y<|Bu hy) (JS m5 (by omega) y hy);have iw:MI r a.toList b.toList (o2.push y++b.extract (bB+1) (bB+1+k2)).toList iu (bB+1+k2):=by
      rw [Bn,JP];exact g5.dM P λy hy v hv=>ahead O gH P.sa (kY y hy) hv
     have rR:=m5.le
     rcases Nat.eq_zero_or_pos k2 with oQ | oQ
     case' inl=>
      subst oQ;rw [BJ<|Cs 0];obtain⟨o3,fM⟩:∃ o3,o3=o2.push y:=⟨_,rfl⟩;obtain⟨j',ka⟩:∃ j',j'=bB+1:=⟨_,rfl⟩;rw [<- fM,<- ka];rw [<- fM,<- ka] at g5;rw [LQ,<- ka] at gQ;have b5:j' < b.size:=by omega
      have b6:bB < j':=by omega
      clear iw fM ka
     case' inr=>
      rw [BK oQ]
      by_cases e1:bB+1+k2=b.size
      case' pos=>
       rw [BK<|by simpa using e1];exact BR ⟨s4,.inl ⟨_,_,rfl,by rw [e1];exact dB (by rw [e1] at iw;exact iw)<|by omega⟩⟩
      case' neg=>
       rw [BJ<|by simpa using e1];clear g5;have g5:=iw;clear iw;obtain⟨o3,fM⟩:∃ o3,o3=o2.push y++b.extract (bB+1) (bB+1+k2):=⟨_,rfl⟩;obtain⟨j',ka⟩:∃ j',j'=bB+1+k2:=⟨_,rfl⟩;rw [<- fM,<- ka];rw [<- fM,<- ka] at g5;rw [<- ka] at gQ;have b5:j' < b.size:=by omega
       have b6:bB < j':=by omega
       clear fM ka
     all_goals
      refine BP<|dz hx ?_;have g6:=mX g5 gH gQ
      by_cases e4:iu+1+1=a.size
      ·rw [BK<|by simpa using e4];exact BR ⟨s4,.inl ⟨_,_,rfl,gR g6 e4<|by omega⟩⟩
      rw [BJ<|by simpa using e4]
      split
      ·exact BR ⟨s4,.inr ⟨_,_,_,_,_,_,rfl,g6,by omega,by omega,by omega⟩⟩
      ·exact BR ⟨s4,_,_,_,_,_,_,rfl,g6,by omega,by omega,by omega⟩
  ·rintro c bb ⟨s3,o,bJ,bB,mg,ac,bc,rfl,g,g1,g2,g3⟩;omega
  ·exact⟨s2,_,_,_,_,_,_,rfl,g,g1,g2,g3⟩
  rintro c bb ⟨s3,⟨o,x,rfl,hm⟩ | ⟨o,bJ,bB,mg,ac,bc,rfl,g,g1,g2,g3⟩⟩
  ·exact BR ⟨s3,o,_,rfl,hm⟩
  dsimp only
  refine BP<|vo s3 λlW s4=>?_;exact BR ⟨s4,_,_,_,_,rfl,g,g1,g2,by omega⟩
 ·rintro c ai ⟨_,o,ia,ib,mg,rfl,h,h1,h2,h3⟩;omega
 ·exact⟨aJ.refl _,_,_,_,_,rfl,start,by omega,by omega,by omega⟩
 ·rintro c ai ⟨ss,o,x,rfl,hm⟩;exact BR<|hQ _ _ hm ss
end
structure MH(r:Keyed->Keyed->Bool)(la lb o:List Keyed)(na nb:Nat):Prop where
 perm:o.Perm<|la.drop na++lb.drop nb
 cN:o.Pairwise λx y=>r x y=true
 lt:∀ x∈la.take na++lb.take nb,∀ y∈o,r x y=true
section
variable{prog:Program}{w:World}{A:Around}{E:Value->Shared->Prop}{s:Shared}{κ:SortKind}{a₀:List Keyed}{r:Keyed->Keyed->Bool}{la lb o:List Keyed}{na nb k:Nat}
theorem rS(l:List Keyed){k n:Nat}(hk:k<=n)(hn:n<=l.length):l.drop k=(l.take n).drop k++l.drop n:=by
 conv=>lhs;rw [<- Bw n l]
 rw [List.drop_append_of_le_length<|by rw [Ay];omega]
theorem oR(l:List Keyed){k n:Nat}(hk:k<=n):l.take n=l.take k++(l.take n).drop k:=by
 conv=>lhs;rw [<- Bw k<|l.take n,List.take_take,Ed hk]
theorem MH.d9(sa:la.Pairwise λx y=>r x y=true)(h:MH r la lb o na nb)(hk:k<=na)(hn:na<=la.length)(hx:∀ x∈(la.take na).drop k,∀ y∈lb.take nb,r y x=true):MH r la lb ((la.take na).drop k++o) k nb:=by
 have st:(la.take na).Pairwise λx y=>r x y=true:=sa.sublist<|Fj _ _;have sp:=st;rw [oR la hk,Ca] at sp;refine⟨?_,Ca.mpr ⟨sp.2.1,h.cN,λx fJ y hy=>h.lt x (Av _<|Bu fJ) y hy⟩,λx fJ y hy=>?_⟩
 ·rw [rS la hk hn,Aw];exact h.perm.append_left _
 ·rcases Al.mp fJ with q | q
  ·rcases Al.mp hy with p | p
   ·exact sp.2.2 x q y p
   ·exact h.lt x (Av _<|by rw [oR la hk];exact Av _ q) y p
  ·rcases Al.mp hy with p | p
   ·exact hx y p x q
   ·exact h.lt x (Aj _ q) y p
theorem MH.dM(sb:lb.Pairwise λx y=>r x y=true)(h:MH r la lb o na nb)(hk:k<=nb)(hn:nb<=lb.length)(hx:∀ x∈(lb.take nb).drop k,∀ y∈la.take na,r y x=true):MH r la lb ((lb.take nb).drop k++o) na k:=by
 have st:(lb.take nb).Pairwise λx y=>r x y=true:=sb.sublist<|Fj _ _;have sp:=st;rw [oR lb hk,Ca] at sp;refine⟨?_,Ca.mpr ⟨sp.2.1,h.cN,λx fJ y hy=>h.lt x (Aj _<|Bu fJ) y hy⟩,λx fJ y hy=>?_⟩
 ·rw [rS lb hk hn];refine(h.perm.append_left _).trans ?_;rw [<- Aw,<- Aw];exact List.perm_append_comm.append_right _
 ·rcases Al.mp fJ with q | q
  ·rcases Al.mp hy with p | p
   ·exact hx y p x q
   ·exact h.lt x (Av _ q) y p
  ·rcases Al.mp hy with p | p
   ·exact sp.2.2 x q y p
   ·exact h.lt x (Aj _<|by rw [oR lb hk];exact Av _ q) y p
theorem MH.fin(h:MH r la lb o 0 0):Md r la lb o:=⟨h.perm,h.cN⟩
theorem MH.dN(sb:lb.Pairwise λx y=>r x y=true)(h:MH r la lb o 0 nb)(hn:nb<=lb.length):Md r la lb (la.take 0++lb.take nb++o):=(h.dM sb (k:=0) (Br _) hn λx _ y hy=>by cases hy).fin
theorem MH.dB(sa:la.Pairwise λx y=>r x y=true)(h:MH r la lb o na 0)(hn:na<=la.length):Md r la lb (la.take na++lb.take 0++o):=by
 rw [List.take_zero,Bc];exact(h.d9 sa (k:=0) (Br _) hn λx _ y hy=>by cases hy).fin
theorem MH.gS(sa:la.Pairwise λx y=>r x y=true)(sb:lb.Pairwise λx y=>r x y=true)(h:MH r la lb o na 1)(hn:na<=la.length)(h1:1<=lb.length)(hf:∀ y∈lb.take 1,∀ x∈la,r y x=true):Md r la lb (lb.take 1++la.take na++o):=by
 have g:=h.d9 sa (k:=0) (Br _) hn λx hx y hy=>hf y hy x<|Cd hx;have g2:=(g.dM sb (k:=0) (Br _) h1 λx _ y hy=>by cases hy).fin;rw [Aw];exact g2
theorem jv(a:Array Keyed)(k n:Nat):(a.extract k n).toList=(a.toList.take n).drop k:=by
 rw [Gm,Fv,List.drop_take]
theorem zY{l:List Keyed}{i:Nat}{x:Keyed}(h:l[i]?=some x):(l.take<|i+1).drop i=[x]:=by
 obtain⟨hi,e⟩:=Ac.mp h;rw [List.drop_take,show i+1 - i=1 by omega];exact jt h
theorem Ur{l:List Keyed}{i:Nat}{x y:Keyed}(h:l[i]?=some x)(sl:l.Pairwise λx y=>r x y=true)(hy:y∈l.take (i+1)):y=x\/r y x=true:=by
 have e:=oR l (k:=i) (n:=i+1) (by omega);rw [zY h] at e;have sd:(l.take<|i+1).Pairwise λx y=>r x y=true:=sl.sublist<|Fj _ _;rw [e] at hy sd
 rcases Al.mp hy with q | q
 ·exact .inr<|(Ca.mp sd).2.2 y q x<|Af.mpr rfl
 ·exact .inl<|Af.mp q
theorem behind(O:Ord prog w A E s κ a₀ r){l:List Keyed}{i:Nat}{x y z:Keyed}(h:l[i]?=some y)(sl:l.Pairwise λx y=>r x y=true)(hx:r y x=true)(hz:z∈l.take (i+1)):r z x=true:=by
 rcases Ur h sl hz with rfl | q
 ·exact hx
 ·exact O.gu _ _ _ q hx
theorem JU{key:Keyed}{a:Array Keyed}{n k:Nat}(h:rN r key a 0 n k):∀ x∈a.toList.take k,r x key=true:=λx hx=>zW h x hx
theorem JY{key:Keyed}{a:Array Keyed}{n k:Nat}(h:rN r key a 0 n k):∀ x∈(a.toList.take n).drop k,r x key=false:=λx hx=>by
 obtain⟨i,hi,e⟩:=Ex hx;rw [Cb,Ay] at hi;refine h.hi (k+i) x (by omega) (by omega) ?_;rw [<- Ao,<- e,Fo,Fn,KD];exact Ab _
theorem Us{a b:Array Keyed}{Q:Array Keyed->SortSt->Prop}{st:SortSt}(P:Pre prog w A E s κ a₀ r a.toList b.toList)(hk:kindOf st=κ)(ha:0 < a.size)(hb:0 < b.size)(h0:∀ x y,a[0]?=some x->b[0]?=some y->r y x=true)(hl:∀ x,a[a.size - 1]?=some x->∀ y∈b.toList,r y x=true)
  (hQ:∀ o ai,Md r a.toList b.toList o.toList->aJ st ai->Q o ai):wpS (model prog w) A E s (JI a b) Q st:=by
 have O:=P.ord;have al:a.toList.length=a.size:=Am;have bl:b.toList.length=b.size:=Am;have kX:∀ i,i < a.size->∃ x,a[i]?=some x/\a.toList[i]?=some x/\x∈a₀/\x∈a.toList:=λi hi=>⟨a[i],Bj hi,by rw [Ao];exact Bj hi,P.mem _ (Av _<|by simp),by simp⟩;have mW:∀ i,i < b.size->∃ x,b[i]?=some x/\b.toList[i]?=some x/\x∈a₀/\x∈b.toList:=λi hi=>⟨b[i],Bj hi,by rw [Ao];exact Bj hi,P.mem _ (Aj _<|by simp),by simp⟩;have apart:∀ x∈a.toList,∀ y∈b.toList,x≠y:=(Cz.mp P.nd).2.2;have flip:∀{x y:Keyed},x∈a₀->y∈a₀->x≠y->r x y=false->r y x=true:=λ{x y} hx hy ne h=>by
  rcases O.mH x hx y hy ne with q | q
  ·rw [h] at q;cases q
  ·exact q
 have m6:∀ y∈b.toList.take 1,∀ x∈a.toList,r y x=true:=λy hy x hx=>by
  obtain⟨b0,oP,mZ,_,_⟩:=mW 0 hb;obtain⟨a0,zX,m4,_,_⟩:=kX 0 ha;rw [show b.toList.take 1=[b0] from jt mZ,Af] at hy;rw [hy];exact ahead O m4 P.sa (h0 _ _ zX oP)<|by rw [Gd];exact hx
 have dN:∀{o:Array Keyed} {nb:Nat},MH r a.toList b.toList o.toList.reverse 0 nb->nb<=b.size->Md r a.toList b.toList (a.extract 0 0++b.extract 0 nb++o.reverse).toList:=λ{o nb} h hi=>by
  rw [Bn,Bn,jv,jv,Er];exact h.dN P.sb<|by omega
 have dB:∀{o:Array Keyed} {na:Nat},MH r a.toList b.toList o.toList.reverse na 0->na<=a.size->Md r a.toList b.toList (a.extract 0 na++b.extract 0 0++o.reverse).toList:=λ{o nb} h hi=>by
  rw [Bn,Bn,jv,jv,Er];exact h.dB P.sa<|by omega
 have gS:∀{o:Array Keyed} {na nb:Nat},MH r a.toList b.toList o.toList.reverse na nb->nb=1->na<=a.size->Md r a.toList b.toList (b.extract 0 nb++a.extract 0 na++o.reverse).toList:=λ{o na nb} h e hi=>by
  subst e;rw [Bn,Bn,jv,jv,Er];exact h.gS P.sa P.sb (by omega) (by omega) m6
 have fb:∀{o:Array Keyed} {na nb:Nat} {x:Keyed},MH r a.toList b.toList o.toList.reverse na nb->0 < na->na<=a.size->a.toList[na - 1]?=some x->(∀ y∈b.toList.take nb,r y x=true)->MH r a.toList b.toList (o.push x).toList.reverse (na - 1) nb:=λ{o na nb x} h h1 h2 hx hr=>by
  have e:(a.toList.take na).drop (na - 1)=[x]:=by
   have:=zY hx;rw [show na - 1+1=na by omega] at this;exact this
  have:=h.d9 P.sa (k:=na - 1) (by omega) (by omega) λu hu v hv=>by
   rw [e,Af] at hu;rw [hu];exact hr v hv
  rw [e] at this;rw [Ds,Dh];exact this
 have fc:∀{o:Array Keyed} {na nb:Nat} {y:Keyed},MH r a.toList b.toList o.toList.reverse na nb->0 < nb->nb<=b.size->b.toList[nb - 1]?=some y->(∀ x∈a.toList.take na,r x y=true)->MH r a.toList b.toList (o.push y).toList.reverse na (nb - 1):=λ{o na nb y} h h1 h2 hy hr=>by
  have e:(b.toList.take nb).drop (nb - 1)=[y]:=by
   have:=zY hy;rw [show nb - 1+1=nb by omega] at this;exact this
  have:=h.dM P.sb (k:=nb - 1) (by omega) (by omega) λu hu v hv=>by
   rw [e,Af] at hu;rw [hu];exact hr v hv
  rw [e] at this;rw [Ds,Dh];exact this
 have rT:∀{na:Nat} {x y:Keyed},0 < na->a.toList[na - 1]?=some x->r x y=true->∀ z∈a.toList.take na,r z y=true:=λ{na x y} h1 hx hr z hz=>behind O hx P.sa hr (by rw [show na - 1+1=na by omega];exact hz);have rU:∀{nb:Nat} {x y:Keyed},0 < nb->b.toList[nb - 1]?=some y->r y x=true->∀ z∈b.toList.take nb,r z x=true:=λ{nb x y} h1 hx hr z hz=>behind O hx P.sb hr (by rw [show nb - 1+1=nb by omega];exact hz);unfold JI;refine BP<|oM ?_;obtain⟨a1,J0,zZ,_,_⟩:=kX (a.size - 1) (by omega);refine BP<|dz J0 ?_;have start:MH r a.toList b.toList (#[a1]:Array Keyed).toList.reverse (a.size - 1) b.size:=by
  have oN:MH r a.toList b.toList (#[]:Array Keyed).toList.reverse a.size b.size:=⟨by rw [<- al,<- bl,Dm,Dm];exact List.Perm.refl _,List.Pairwise.nil,λx _ y h=>by cases h⟩;exact fb oN ha (Ah _) zZ λy hy=>hl a1 J0 y<|Cd hy
 dsimp only
 by_cases c1:a.size - 1=0
 ·rw [BK<|by rw [c1];rfl];refine BR<|hQ _ _ ?_<|aJ.refl _;rw [c1] at start ⊢;exact dN start<|Ah _
 rw [BJ<|by simpa using c1]
 by_cases c2:b.size=1
 ·rw [BK<|by rw [c2];rfl];exact BR<|hQ _ _ (gS start c2<|by omega)<|aJ.refl _
 rw [BJ<|by simpa using c2];refine BP<|DY ?_;refine BP<|CZ (Q:=λc ai=>aJ st ai/\∃ o x,c=(some o,x)/\Md r a.toList b.toList o.toList) (CJ (λi c ai=>aJ st ai/\∃ na nb o mg,c=(none,na,nb,o,mg)/\MH r a.toList b.toList o.toList.reverse na nb/\0 < na/\na<=a.size/\1 < nb/\nb<=b.size/\na+nb+i < a.size+b.size) ?_ ?_ ?_) ?_
 ·rintro i c ai _ hi ⟨ss,na,nb,o,mg,rfl,h,h1,h2,h3,h4,h5⟩
  dsimp only
  refine BP<|CZ (Q:=λc ai=>aJ st ai/\((∃ o x,c=(some o,x)/\Md r a.toList b.toList o.toList)\/∃ bK bw o ac bc,c=(none,bK,bw,o,ac,bc)/\MH r a.toList b.toList o.toList.reverse bK bw/\0 < bK/\bK<=a.size/\1 < bw/\bw<=b.size/\bK+bw < na+nb)) (CJ (λj c ai=>aJ st ai/\∃ bK bw o ac bc,c=(none,bK,bw,o,ac,bc)/\MH r a.toList b.toList o.toList.reverse bK bw/\0 < bK/\bK<=a.size/\1 < bw/\bw<=b.size/\bK+bw+j<=na+nb) ?_ ?_ ?_) ?_
  ·rintro j c bh _ hj ⟨s2,bK,bw,o,ac,bc,rfl,g,g1,g2,g3,g4,g5⟩
   dsimp only
   obtain⟨x,hx,gH,iU,iV⟩:=kX (bK - 1) (by omega);obtain⟨y,hy,fB,iW,iX⟩:=mW (bw - 1) (by omega);refine BP<|dz hy ?_;refine BP<|dz hx ?_;refine BP<|O.ask y x bh _ iW iU (Ne.symm<|apart x iV y iX) (s2.1.trans hk) ?_;cases hr:r y x with
   | true=>
    dsimp only
    rw [BK rfl];refine BP<|dz hx ?_;have g':=fb g g1 g2 gH<|rU (by omega) fB hr
    by_cases e:bK - 1=0
    ·rw [BK<|by simpa using e];exact BR ⟨s2,.inl ⟨_,_,rfl,by rw [e] at g' ⊢;exact dN g'<|by omega⟩⟩
    ·rw [BJ<|by simpa using e]
     by_cases e2:ac+1>=mg
     ·rw [BK e2];exact BR ⟨s2,.inr ⟨_,_,_,_,_,rfl,g',by omega,by omega,g3,g4,by omega⟩⟩
     ·rw [BJ e2];exact BR ⟨s2,_,_,_,_,_,rfl,g',by omega,by omega,g3,g4,by omega⟩
   | false=>
    dsimp only
    rw [BJ As];refine BP<|dz hy ?_;have g':=fc g (by omega) g4 fB<|rT g1 gH<|flip iW iU (Ne.symm<|apart x iV y iX) hr
    by_cases e:bw - 1=1
    ·rw [BK<|by simpa using e];exact BR ⟨s2,.inl ⟨_,_,rfl,gS g' e<|by omega⟩⟩
    ·rw [BJ<|by simpa using e]
     by_cases e2:bc+1>=mg
     ·rw [BK e2];exact BR ⟨s2,.inr ⟨_,_,_,_,_,rfl,g',by omega,by omega,by omega,by omega,by omega⟩⟩
     ·rw [BJ e2];exact BR ⟨s2,_,_,_,_,_,rfl,g',by omega,by omega,by omega,by omega,by omega⟩
  ·rintro c bh ⟨s2,bK,bw,o,ac,bc,rfl,g,g1,g2,g3,g4,g5⟩;omega
  ·exact⟨ss,_,_,_,_,_,rfl,h,h1,h2,h3,h4,Ah _⟩
  rintro c bh ⟨s2,⟨o,x,rfl,hm⟩ | ⟨bK,bw,o,ac,bc,rfl,g,g1,g2,g3,g4,g5⟩⟩
  ·exact BR ⟨s2,o,_,rfl,hm⟩
  dsimp only
  refine BP<|oM ?_;refine BP<|CZ (Q:=λc ai=>aJ st ai/\((∃ o x,c=(some o,x)/\Md r a.toList b.toList o.toList)\/∃ bK bw o mg ac bc,c=(none,bK,bw,o,mg,ac,bc)/\MH r a.toList b.toList o.toList.reverse bK bw/\0 < bK/\bK<=a.size/\1 < bw/\bw<=b.size/\bK+bw < na+nb)) (CJ (λj c ai=>aJ st ai/\∃ bK bw o mg ac bc,c=(none,bK,bw,o,mg,ac,bc)/\MH r a.toList b.toList o.toList.reverse bK bw/\0 < bK/\bK<=a.size/\1 < bw/\bw<=b.size/\bK+bw+j < na+nb) ?_ ?_ ?_) ?_
  ·rintro j c bb _ hj ⟨s3,bK,bw,o,mg,ac,bc,rfl,g,g1,g2,g3,g4,g5⟩
   dsimp only
   obtain⟨y,hy,fB,iW,iX⟩:=mW (bw - 1)<|by omega
   by_cases rQ:mg > 1
   case' pos=>rw [BK rQ]
   case' neg=>rw [BJ rQ]
   all_goals
    refine BP<|vo s3 λlW s4=>?_;refine BP<|dz hy ?_;refine BP<|oK O (s4.1.trans hk) iW (by omega) (by omega) (λi x h1 h2=>⟨P.mem _<|Av _<|ju h2,apart x (ju h2) y iX⟩) (λi j x y h1 h2 h3 h4=>pw P.sa (by omega) h3 h4) λk ck=>?_
    dsimp only
    have lo:=JU ck;have hi:∀ x∈(a.toList.take bK).drop k,r y x=true:=λx hx=>flip (P.mem _<|Av _<|Cd<|Bu hx) iW (apart x (Cd<|Bu hx) y iX)<|JY ck x hx;have kle:=ck.le;have gk:MH r a.toList b.toList (o++(a.extract k bK).reverse).toList.reverse k bw:=by
     rw [Bn,Er,Dh,List.reverse_reverse,jv];exact g.d9 P.sa kle (by omega) λx hx v hv=>rU (by omega) fB (hi x hx) v hv
    by_cases ek:bK - k > 0
    case' neg=>
     rw [BJ ek];have Ut:k=bK:=by omega
     rw [Ut] at lo;obtain⟨o2,fK⟩:∃ o2,o2=o:=⟨_,rfl⟩;obtain⟨ix,iY⟩:∃ ix,ix=bK:=⟨_,rfl⟩;rw [<- fK,<- iY];rw [<- fK,<- iY] at g;rw [<- iY] at lo;have b1:0 < ix:=by omega
     have b3:ix<=bK:=by omega
     clear gk fK iY
    case' pos=>
     rw [BK ek]
     by_cases e1:k=0
     case' pos=>
      rw [BK<|by simpa using e1];exact BR ⟨s4,.inl ⟨_,_,rfl,by rw [e1] at gk ⊢;exact dN gk<|by omega⟩⟩
     case' neg=>
      rw [BJ<|by simpa using e1];clear g;have g:=gk;clear gk;obtain⟨o2,fK⟩:∃ o2,o2=o++(a.extract k bK).reverse:=⟨_,rfl⟩;obtain⟨ix,iY⟩:∃ ix,ix=k:=⟨_,rfl⟩;rw [<- fK,<- iY];rw [<- fK,<- iY] at g;rw [<- iY] at lo;have b1:0 < ix:=by omega
      have b3:ix<=bK:=by omega
      clear fK iY
    all_goals
     refine BP<|dz hy ?_;have g6:=fc g (by omega) g4 fB lo
     by_cases e3:bw - 1=1
     ·rw [BK<|by simpa using e3];exact BR ⟨s4,.inl ⟨_,_,rfl,gS g6 e3<|by omega⟩⟩
     rw [BJ<|by simpa using e3];obtain⟨x,hx,gH,iU,iV⟩:=kX (ix - 1) (by omega);refine BP<|dz hx ?_;refine BP<|oK O (s4.1.trans hk) iU (by omega) (by omega) (λi y h1 h2=>⟨P.mem _<|Aj _<|ju h2,Ne.symm<|apart x iV y<|ju h2⟩) (λi j x y h1 h2 h3 h4=>pw P.sb (by omega) h3 h4) λk2 m5=>?_
     dsimp only
     have kY:=JU m5;have gQ:∀ y∈(b.toList.take<|bw - 1).drop k2,r x y=true:=λy hy=>flip (P.mem _<|Aj _<|Cd<|Bu hy) iU (Ne.symm<|apart x iV y<|Cd<|Bu hy)<|JY m5 y hy;have rR:=m5.le;have iw:MH r a.toList b.toList (o2.push y++(b.extract k2<|bw - 1).reverse).toList.reverse ix k2:=by
      rw [Bn,Er,Dh,List.reverse_reverse,jv];exact g6.dM P.sb rR (by omega) λy hy v hv=>rT b1 gH (gQ y hy) v hv
     by_cases oQ:bw - 1 - k2 > 0
     case' neg=>
      rw [BJ oQ];have z3:k2=bw - 1:=by omega
      rw [z3] at kY;obtain⟨o3,fM⟩:∃ o3,o3=o2.push y:=⟨_,rfl⟩;obtain⟨kc,hnb⟩:∃ kc,kc=bw - 1:=⟨_,rfl⟩;rw [<- fM,<- hnb];rw [<- fM,<- hnb] at g6;rw [<- hnb] at kY;have b5:1 < kc:=by omega
      have b6:kc < bw:=by omega
      clear iw fM hnb
     case' pos=>
      rw [BK oQ]
      by_cases e1:k2=1
      case' pos=>
       rw [BK<|by simpa using e1];exact BR ⟨s4,.inl ⟨_,_,rfl,gS iw e1<|by omega⟩⟩
      case' neg=>
       rw [BJ<|by simpa using e1]
       by_cases e5:k2=0
       case' pos=>
        rw [BK<|by simpa using e5];exact BR ⟨s4,.inl ⟨_,_,rfl,by rw [e5] at iw ⊢;exact dB iw<|by omega⟩⟩
       case' neg=>
        rw [BJ<|by simpa using e5];clear g6;have g6:=iw;clear iw;obtain⟨o3,fM⟩:∃ o3,o3=o2.push y++(b.extract k2<|bw - 1).reverse:=⟨_,rfl⟩;obtain⟨kc,hnb⟩:∃ kc,kc=k2:=⟨_,rfl⟩;rw [<- fM,<- hnb];rw [<- fM,<- hnb] at g6;rw [<- hnb] at kY;have b5:1 < kc:=by omega
        have b6:kc < bw:=by omega
        clear fM hnb
     all_goals
      refine BP<|dz hx ?_;have g7:=fb g6 b1 (by omega) gH kY
      by_cases e4:ix - 1=0
      ·rw [BK<|by simpa using e4];exact BR ⟨s4,.inl ⟨_,_,rfl,by rw [e4] at g7 ⊢;exact dN g7<|by omega⟩⟩
      rw [BJ<|by simpa using e4]
      split
      ·exact BR ⟨s4,.inr ⟨_,_,_,_,_,_,rfl,g7,by omega,by omega,by omega,by omega,by omega⟩⟩
      ·exact BR ⟨s4,_,_,_,_,_,_,rfl,g7,by omega,by omega,by omega,by omega,by omega⟩
  ·rintro c bb ⟨s3,bK,bw,o,mg,ac,bc,rfl,g,g1,g2,g3,g4,g5⟩;omega
  ·exact⟨s2,_,_,_,_,_,_,rfl,g,g1,g2,g3,g4,g5⟩
  rintro c bb ⟨s3,⟨o,x,rfl,hm⟩ | ⟨bK,bw,o,mg,ac,bc,rfl,g,g1,g2,g3,g4,g5⟩⟩
  ·exact BR ⟨s3,o,_,rfl,hm⟩
  dsimp only
  refine BP<|vo s3 λlW s4=>?_;exact BR ⟨s4,_,_,_,_,rfl,g,g1,g2,g3,g4,by omega⟩
 ·rintro c ai ⟨_,na,nb,o,mg,rfl,h,h1,h2,h3,h4,h5⟩;omega
 ·exact⟨aJ.refl _,_,_,_,_,rfl,start,by omega,by omega,by omega,by omega,by omega⟩
 ·rintro c ai ⟨ss,o,x,rfl,hm⟩;exact BR<|hQ _ _ hm ss
end
def aZ(r:Keyed->Keyed->Bool)(a:Array Keyed)(lo hi:Nat):Prop:=∀ i j x y,lo<=i->i < j->j < hi->a[i]?=some x->a[j]?=some y->r x y=true
structure Upd(a a':Array Keyed)(lo hi:Nat):Prop where
 perm:a'.toList.Perm a.toList
 out:∀ i,i < lo\/hi<=i->a'[i]?=a[i]?
theorem Upd.refl(a:Array Keyed)(lo hi:Nat):Upd a a lo hi:=⟨List.Perm.refl _,λ_ _=>rfl⟩
theorem Upd.trans{a b c:Array Keyed}{lo hi:Nat}(h:Upd a b lo hi)(k:Upd b c lo hi):Upd a c lo hi:=⟨k.perm.trans h.perm,λi hi=>(k.out i hi).trans<|h.out i hi⟩
theorem Upd.size{a b:Array Keyed}{lo hi:Nat}(h:Upd a b lo hi):b.size=a.size:=by have:=h.perm.length_eq;rwa [Am,Am] at this
theorem Upd.wide{a b:Array Keyed}{lo hi jw d6:Nat}(h:Upd a b lo hi)(h1:jw<=lo)(h2:hi<=d6):Upd a b jw d6:=⟨h.perm,λi hi=>h.out i<|by omega⟩
theorem aZ.upd{r:Keyed->Keyed->Bool}{a b:Array Keyed}{lo hi jw d6:Nat}(h:aZ r a lo hi)(u:Upd a b jw d6)(d:hi<=jw\/d6<=lo):aZ r b lo hi:=λi j x y h1 h2 h3 h4 h5=>h i j x y h1 h2 h3 (by rw [<- u.out i<|by omega];exact h4)<|by rw [<- u.out j<|by omega];exact h5
section
variable{prog:Program}{w:World}{A:Around}{E:Value->Shared->Prop}{s:Shared}{κ:SortKind}{a₀:List Keyed}{r:Keyed->Keyed->Bool}
structure Bs(κ:SortKind)(a₀:List Keyed)(st:SortSt):Prop where
 kind:kindOf st=κ
 failed:failedOf st=none
 perm:(arrOf st).toList.Perm a₀
theorem Uu{st ai:SortSt}{Q:PUnit->SortSt->Prop}{M:Model}(h:Q ⟨⟩ ai):wpS M A E s (set ai:StateT SortSt Sem PUnit) Q st:=by
 unfold wpS;rw [StateT.run_set];exact BW ⟨rfl,h⟩
theorem aZ.list{a:Array Keyed}{lo hi:Nat}(h:aZ r a lo hi):((a.toList.take hi).drop lo).Pairwise λx y=>r x y=true:=by
 rw [Bg];intro i j h1 h2 cS;rw [Cb,Ay] at h1 h2;refine h (lo+i) (lo+j) _ _ (by omega) (by omega) (by omega) ?_ ?_
 ·rw [Fo,Fn,<- Ao];exact Ab _
 ·rw [Fo,Fn,<- Ao];exact Ab _
theorem aZ.fN{a:Array Keyed}{l z t:List Keyed}(e:a.toList=l++z++t)(h:z.Pairwise λx y=>r x y=true):aZ r a l.length (l.length+z.length):=by
 intro i j x y h1 h2 h3 h4 h5;rw [<- Ao,e,Aw,Az (by omega),Bb<|by omega] at h4 h5;obtain⟨g1,rfl⟩:=Ac.mp h4;obtain⟨g2,rfl⟩:=Ac.mp h5;exact Bg.mp h _ _ g1 g2<|by omega
theorem Upd.fN{a b:Array Keyed}{l z z' t:List Keyed}(e:a.toList=l++z++t)(e':b.toList=l++z'++t)(h:z'.Perm z):Upd a b l.length (l.length+z.length):=by
 have hl:=h.length_eq;refine⟨by rw [e,e'];exact(h.append_left _).append_right _,λi hi=>?_⟩;rw [<- Ao,<- Ao,e,e',Aw,Aw]
 rcases hi with hi | hi
 ·rw [Bb hi,Bb hi]
 ·rw [Az (by omega),Az (by omega),Az (by omega),Az (by omega),hl]
theorem J1:∀(m:List Keyed) (a:Array Keyed) (base n:Nat),base+n+m.length<=a.size ->
  ((m.zipIdx n).foldl (λa (x:Keyed×Nat)=>match x with | (p,j)=>a.setIfInBounds (base+j) p) a).toList=a.toList.take (base+n)++m++a.toList.drop (base+n+m.length)
 | [],a,base,n,_=>by
  rw [Bc,Fg,LQ,Bw];rfl
 | x :: m,a,base,n,h=>by
  rw [Ar] at h;rw [List.zipIdx_cons,Gp];have ih:=J1 m (a.setIfInBounds (base+n) x) base (n+1) (by rw [Array.size_setIfInBounds];omega);refine ih.trans ?_;have hs:(a.setIfInBounds (base+n) x).toList=a.toList.take (base+n)++x :: a.toList.drop (base+n+1):=by
   rw [JL,List.set_eq_take_append_cons_drop,BK<|by rw [Am];omega]
  have tl:(a.toList.take<|base+n).length=base+n:=by rw [Ay,Am];omega
  rw [hs,<- Nat.add_assoc,Ar];have e1:List.take (base+n+1) (a.toList.take (base+n)++x :: a.toList.drop (base+n+1))=a.toList.take (base+n)++[x]:=by
   rw [List.take_append,tl,Ci (by omega),show base+n+1 - (base+n)=1 by omega];rfl
  have e2:List.drop (base+n+1+m.length) (a.toList.take (base+n)++x :: a.toList.drop (base+n+1))=a.toList.drop (base+n+(m.length+1)):=by
   rw [List.drop_append,tl,Cy (by omega),show base+n+1+m.length - (base+n)=m.length+1 by omega,List.drop_succ_cons,PN,Gq]
   congr 1
   omega
  rw [e1,e2,Aw,Aw,Aw];rfl
theorem seg_at{a:Array Keyed}{lo hi:Nat}{x:Keyed}(h:x∈(a.toList.take hi).drop lo):∃ i,lo<=i/\i < hi/\a[i]?=some x:=by
 obtain⟨i,d6,e⟩:=Ex h;rw [Cb,Ay] at d6;refine⟨lo+i,by omega,by omega,?_⟩;rw [<- Ao,<- e,Fo,Fn];exact Ab _
theorem Uv(O:Ord prog w A E s κ a₀ r)(nd:a₀.Nodup){st:SortSt}(B:Bs κ a₀ st){i sa na pw sb nb vp:Nat}{Q:Bool->SortSt->Prop}(e1:(pendingOf st)[i]?=some (sa,na,pw))(e2:(pendingOf st)[i+1]?=some (sb,nb,vp))
  (tT:sb=sa+na) (iY:0 < na) (hnb:0 < nb) (hsz:sb+nb<=(arrOf st).size) (s1:aZ r (arrOf st) sa sb) (s2:aZ r (arrOf st) sb<|sb+nb)
  (hQ:∀ ai,Bs κ a₀ ai->pendingOf ai=((pendingOf st).setIfInBounds i (sa,na+nb,pw)).eraseIdxIfInBounds (i+1)->Upd (arrOf st) (arrOf ai) sa (sb+nb)->aZ r (arrOf ai) sa (sb+nb)->Q true ai):wpS (model prog w) A E s (mergeAt' i) Q st:=by
 obtain⟨κ',a,p,g,f⟩:=st;obtain⟨rfl,rfl,perm⟩:=B;have J2:a.toList.Nodup:=perm.nodup_iff.mpr nd;have eg:∀{i x},a[i]?=some x->x∈a₀:=λ{i x} h=>perm.mem_iff.mp<|ju h;have uniq:∀{i j x},a[i]?=some x->a[j]?=some x->i=j:=λ{i j x} h1 h2=>by
  rw [<- Ao] at h1 h2;obtain⟨g1,h1⟩:=Ac.mp h1;exact(JT g1 J2).mp<|by rw [h2];exact Ac.mpr ⟨g1,h1⟩
 have at':∀ i,i < a.size->∃ x,a[i]?=some x:=λi hi=>⟨_,Bj hi⟩;have flip:∀{x y:Keyed},x∈a₀->y∈a₀->x≠y->r x y=false->r y x=true:=λ{x y} hx hy ne h=>by
  rcases O.mH x hx y hy ne with q | q
  ·rw [h] at q;cases q
  ·exact q
 have sz:sb+nb<=a.size:=hsz;unfold mergeAt';refine BP<|DY ?_;have jK:p[i]?=some (sa,na,pw):=e1;have Uw:p[i+1]?=some (sb,nb,vp):=e2
 dsimp only
 rw [jK,Uw]
 dsimp only
 refine BP<|Uu ?_;obtain⟨y0,kd⟩:=at' sb (by omega);refine BP<|dz kd ?_;refine BP<|oK O rfl (eg kd) (by omega) iY (λi x h1 h2=>⟨eg h2,λe=>by subst e;have:=uniq h2 kd;omega⟩) (λi j x y h1 h2 h3 h4=>s1 _ _ x y (by omega) (by omega) (by omega) h3 h4) λk ck=>?_
 dsimp only
 have kle:=ck.le;have lo1:∀ i x,sa<=i->i < sa+k->a[i]?=some x->r x y0=true:=λi x h1 h2 h3=>ck.lo (i - sa) x (by omega) (by rw [show sa+(i - sa)=i by omega];exact h3);have kW:∀ i x,sa+k<=i->i < sb->a[i]?=some x->r y0 x=true:=λi x h1 h2 h3=>flip (eg h3) (eg kd) (λe=>by subst e;have:=uniq h3 kd;omega) (ck.hi (i - sa) x (by omega) (by omega)<|by rw [show sa+(i - sa)=i by omega];exact h3);have z5:∀{j z},sb<=j->j < sb+nb->a[j]?=some z->z=y0\/r y0 z=true:=λ{j z} h1 h2 h3=>by
  rcases Nat.eq_or_lt_of_le h1 with e | l
  ·subst e;rw [kd] at h3;exact .inl (Option.some.inj h3).symm
  ·exact .inr<|s2 sb j y0 z (Ah _) l h2 kd h3
 have z6:∀{x j z},r x y0=true->sb<=j->j < sb+nb->a[j]?=some z->r x z=true:=λ{x j z} h h1 h2 h3=>by
  rcases z5 h1 h2 h3 with rfl | q
  ·exact h
  ·exact O.gu _ _ _ h q
 by_cases c1:na - k=0
 ·rw [BK<|by rw [c1];rfl];refine BR<|hQ _ ⟨rfl,rfl,perm⟩ rfl (Upd.refl _ _ _) λi j x y h1 h2 h3 h4 h5=>?_
  by_cases d1:j < sb
  ·exact s1 i j x y h1 h2 d1 h4 h5
  ·by_cases d2:sb<=i
   ·exact s2 i j x y d2 h2 h3 h4 h5
   ·exact z6 (lo1 i x h1 (by omega) h4) (by omega) h3 h5
 rw [BJ<|by simpa using c1];obtain⟨xl,jr⟩:=at' (sb - 1) (by omega);refine BP (dz (x:=xl) (by rw [show sa+k+(na - k) - 1=sb - 1 by omega];exact jr) ?_);refine BP<|oK O rfl (eg jr) (by omega) (by omega) (λi x h1 h2=>⟨eg h2,λe=>by subst e;have:=uniq h2 jr;omega⟩) (λi j x y h1 h2 h3 h4=>s2 _ _ x y (by omega) (by omega) (by omega) h3 h4) λn2 cn=>?_
 dsimp only
 have Wd:=cn.le;have kY:∀ i x,sb<=i->i < sb+n2->a[i]?=some x->r x xl=true:=λi x h1 h2 h3=>cn.lo (i - sb) x (by omega) (by rw [show sb+(i - sb)=i by omega];exact h3);have gQ:∀ i x,sb+n2<=i->i < sb+nb->a[i]?=some x->r xl x=true:=λi x h1 h2 h3=>flip (eg h3) (eg jr) (λe=>by subst e;have:=uniq h3 jr;omega) (cn.hi (i - sb) x (by omega) (by omega)<|by rw [show sb+(i - sb)=i by omega];exact h3);have z7:r y0 xl=true:=kW (sb - 1) xl (by omega) (by omega) jr
 by_cases c2:n2=0
 ·exfalso
  have:=gQ sb y0 (by omega) (by omega) kd;rw [O.yK _ _ z7] at this;cases this
 rw [BJ<|by simpa using c2];have ex:(a.extract (sa+k) sb).toList=(a.toList.take sb).drop (sa+k):=jv _ _ _;have ey:(a.extract sb<|sb+n2).toList=(a.toList.take<|sb+n2).drop sb:=jv _ _ _;have sx:(a.extract (sa+k) sb).size=na - k:=by rw [Array.size_extract];omega
 have sy:(a.extract sb<|sb+n2).size=n2:=by rw [Array.size_extract];omega
 have qj:(a.extract (sa+k) sb).toList++(a.extract sb<|sb+n2).toList=(a.toList.take<|sb+n2).drop (sa+k):=by
  rw [ex,ey,rS (a.toList.take<|sb+n2) (k:=sa+k) (n:=sb) (by omega) (by rw [Ay,Am];omega),List.take_take,Ed<|by omega]
 have P:Pre prog w A E s κ' a₀ r (a.extract (sa+k) sb).toList (a.extract sb<|sb+n2).toList:=by
  refine⟨O,λx hx=>?_,?_,?_,?_⟩
  ·rw [qj] at hx;exact perm.mem_iff.mp<|Cd<|Bu hx
  ·rw [qj];exact J2.sublist<|(Fm _ _).trans<|Fj _ _
  ·rw [ex];exact aZ.list λi j x y h1 h2 h3 h4 h5=>s1 i j x y (by omega) h2 h3 h4 h5
  ·rw [ey];exact aZ.list λi j x y h1 h2 h3 h4 h5=>s2 i j x y (by omega) h2 (by omega) h4 h5
 have J3:∀ x y,(a.extract (sa+k) sb)[0]?=some x->(a.extract sb<|sb+n2)[0]?=some y->r y x=true:=λx y h1 h2=>by
  rw [Gf,BK<|by omega] at h1 h2;have lU:a[sb]?=some y:=h2;rw [kd] at lU;cases lU;exact kW (sa+k) x (by omega) (by omega) h1
 have J5:∀ x,(a.extract (sa+k) sb)[(a.extract (sa+k) sb).size - 1]?=some x->∀ y∈(a.extract sb<|sb+n2).toList,r y x=true:=λx h1 y hy=>by
  rw [sx,Gf,BK (by omega),show sa+k+(na - k - 1)=sb - 1 by omega,jr] at h1;cases h1;obtain⟨j,hj,e⟩:=Ex hy;rw [Am,sy] at hj;refine kY (sb+j) y (by omega) (by omega) ?_;have:(a.extract sb<|sb+n2)[j]?=some y:=by rw [<- Ao,<- e];exact Ab _
  rw [Gf,BK<|by omega] at this;exact this
 have fin:∀(m:Array Keyed) (ai:SortSt),Md r (a.extract (sa+k) sb).toList (a.extract sb<|sb+n2).toList m.toList->aJ (SortSt.mk' κ' a ((p.setIfInBounds i (sa,na+nb,pw)).eraseIdxIfInBounds<|i+1) g none) ai ->
   Q true (setArr ai<|m.toList.zipIdx.foldl (λa (x:Keyed×Nat)=>match x with | (p,j)=>a.setIfInBounds (sa+k+j) p)<|arrOf ai):=λm ai hm hs=>by
  obtain⟨q1,q2,q3,q4⟩:=hs;rw [show arrOf ai=a from q2];have ml:m.toList.length=na - k+n2:=by
   have:=hm.perm.length_eq;rw [Ae,Am,Am,Am,sx,sy] at this;rw [Am];exact this
  have ea:=J1 m.toList a (sa+k) 0 (by omega);generalize hb:m.toList.zipIdx.foldl (λa (x:Keyed×Nat)=>match x with | (p,j)=>a.setIfInBounds (sa+k+j) p) a=b at ea ⊢;rw [LQ,ml,show sa+k+(na - k+n2)=sb+n2 by omega] at ea;have tl:(a.toList.take sa).length=sa:=by rw [Ay,Am];omega
  have eT:a.toList.take (sa+k)=a.toList.take sa++(a.toList.take<|sa+k).drop sa:=oR _ (by omega);have eD:a.toList.drop (sb+n2)=(a.toList.take<|sb+nb).drop (sb+n2)++a.toList.drop (sb+nb):=rS _ (by omega) (by rw [Am];omega);have eM:a.toList=a.toList.take (sa+k)++((a.toList.take<|sb+n2).drop (sa+k)++a.toList.drop (sb+n2)):=by
   rw [<- rS _ (by omega) (by rw [Am];omega),Bw]
  have pm:m.toList.Perm ((a.toList.take<|sb+n2).drop<|sa+k):=by rw [<- qj];exact hm.perm
  have rV:∀ x∈(a.toList.take<|sa+k).drop sa,∃ i,sa<=i/\i < sa+k/\a[i]?=some x:=λx hx=>seg_at hx;have J6:∀ x∈m.toList,∃ i,sa+k<=i/\i < sb+n2/\a[i]?=some x:=λx hx=>seg_at<|pm.mem_iff.mp hx;have z8:∀ x∈(a.toList.take<|sb+nb).drop (sb+n2),∃ i,sb+n2<=i/\i < sb+nb/\a[i]?=some x:=λx hx=>seg_at hx;have Ux:((a.toList.take<|sa+k).drop sa).Pairwise λx y=>r x y=true:=aZ.list λi j x y h1 h2 h3 h4 h5=>s1 i j x y (by omega) h2 (by omega) h4 h5;have Uy:((a.toList.take<|sb+nb).drop<|sb+n2).Pairwise λx y=>r x y=true:=aZ.list λi j x y h1 h2 h3 h4 h5=>s2 i j x y (by omega) h2 (by omega) h4 h5;have J7:((a.toList.take<|sa+k).drop sa).length=k:=by rw [Cb,Ay,Am];omega
  have J8:((a.toList.take<|sb+nb).drop<|sb+n2).length=nb - n2:=by rw [Cb,Ay,Am];omega
  have lM:((a.toList.take<|sb+n2).drop<|sa+k).length=na - k+n2:=by rw [<- pm.length_eq,ml]
  generalize (a.toList.take<|sa+k).drop sa=X1 at *;generalize (a.toList.take<|sb+nb).drop (sb+n2)=Y2 at *;generalize (a.toList.take<|sb+n2).drop (sa+k)=M at *;have eb:b.toList=a.toList.take sa++(X1++m.toList++Y2)++a.toList.drop (sb+nb):=by
   rw [ea,eT,eD];simp only [Aw]
  have Uz:a.toList=a.toList.take sa++(X1++M++Y2)++a.toList.drop (sb+nb):=by
   refine eM.trans ?_;rw [eT,eD];simp only [Aw]
  have u:=Upd.fN Uz eb<|(pm.append_left X1).append_right Y2;have so:=aZ.fN (r:=r) eb (Ca.mpr ⟨Ca.mpr ⟨Ux,hm.cN,λx hx y hy=>by
   obtain⟨i,i1,i2,i3⟩:=rV x hx;obtain⟨j,j1,j2,j3⟩:=J6 y hy
   by_cases d:j < sb
   ·exact s1 i j x y i1 (by omega) d i3 j3
   ·exact z6 (lo1 i x i1 i2 i3) (by omega) (by omega) j3⟩,Uy,λx hx y hy=>by
   obtain⟨j,j1,j2,j3⟩:=z8 y hy
   rcases Al.mp hx with hx | hx
   ·obtain⟨i,i1,i2,i3⟩:=rV x hx;exact z6 (lo1 i x i1 i2 i3) (by omega) (by omega) j3
   ·obtain⟨i,i1,i2,i3⟩:=J6 x hx
    by_cases d:i < sb
    ·have q:=gQ j y j1 j2 j3
     by_cases d2:i=sb - 1
     ·subst d2;rw [jr] at i3;cases i3;exact q
     ·exact O.gu _ _ _ (s1 i (sb - 1) x xl (by omega) (by omega) (by omega) i3 jr) q
    ·exact s2 i j x y (by omega) (by omega) (by omega) i3 j3⟩)
  rw [Ae,Ae,J7,J8,lM,tl,show sa+(k+(na - k+n2)+(nb - n2))=sb+nb by omega] at u;rw [Ae,Ae,J7,J8,ml,tl,show sa+(k+(na - k+n2)+(nb - n2))=sb+nb by omega] at so;exact hQ _ ⟨q1,q4,u.perm.trans perm⟩ q3 u so
 by_cases c3:na - k<=n2
 ·rw [BK c3];refine BP (Uq P rfl (by omega) (by omega) J3 J5 λm ai hm hs=>?_);refine BP<|HB ?_;refine BP<|DY ?_;refine BR ?_;have:=fin m ai hm hs;have q4:failedOf ai=none:=hs.2.2.2
  dsimp only
  rw [show(failedOf ai).isNone=true by rw [q4];rfl];exact this
 ·rw [BJ c3];refine BP (Us P rfl (by omega) (by omega) J3 J5 λm ai hm hs=>?_);refine BP<|HB ?_;refine BP<|DY ?_;refine BR ?_;have:=fin m ai hm hs;have q4:failedOf ai=none:=hs.2.2.2
  dsimp only
  rw [show(failedOf ai).isNone=true by rw [q4];rfl];exact this
theorem Bs.eg{st:SortSt}(B:Bs κ a₀ st){i:Nat}{x:Keyed}(h:(arrOf st)[i]?=some x):x∈a₀:=B.perm.mem_iff.mp<|ju h
theorem Bs.uniq{st:SortSt}(B:Bs κ a₀ st)(nd:a₀.Nodup){i j:Nat}{x:Keyed}(h1:(arrOf st)[i]?=some x)(h2:(arrOf st)[j]?=some x):i=j:=by
 rw [<- Ao] at h1 h2;obtain⟨g1,h1⟩:=Ac.mp h1;exact(JT g1<|B.perm.nodup_iff.mpr nd).mp<|by rw [h2];exact Ac.mpr ⟨g1,h1⟩
theorem Bs.upd{st:SortSt}(B:Bs κ a₀ st){b:Array Keyed}{lo hi:Nat}(u:Upd (arrOf st) b lo hi):Bs κ a₀ (setArr st b):=⟨B.kind,B.failed,u.perm.trans B.perm⟩
theorem oS(O:Ord prog w A E s κ a₀ r)(nd:a₀.Nodup){st:SortSt}(B:Bs κ a₀ st){i j:Nat}{x y:Keyed}{Q:Option Bool->SortSt->Prop}(hx:(arrOf st)[i]?=some x)(hy:(arrOf st)[j]?=some y)(ne:i≠j)(h:Q (some<|r x y) st):wpS (model prog w) A E s (ltAt' i j) Q st:=by
 rw [ltAt'_eq];refine BP<|DY ?_;refine BP<|dz hx ?_;refine BP<|dz hy ?_;exact O.ask x y st Q (B.eg hx) (B.eg hy) (λe=>ne<|by subst e;exact B.uniq nd hx hy) B.kind h
theorem Ord.flip(O:Ord prog w A E s κ a₀ r){x y:Keyed}(hx:x∈a₀)(hy:y∈a₀)(ne:x≠y)(h:r x y=false):r y x=true:=by
 rcases O.mH x hx y hy ne with q | q
 ·rw [h] at q;cases q
 ·exact q
theorem aZ.more(O:Ord prog w A E s κ a₀ r){a:Array Keyed}{lo n:Nat}{x y:Keyed}(h:aZ r a lo n)(hn:lo < n)(hx:a[n - 1]?=some x)(hy:a[n]?=some y)(hr:r x y=true):aZ r a lo (n+1):=by
 intro i j u v h1 h2 h3 h4 h5
 by_cases d:j < n
 ·exact h i j u v h1 h2 d h4 h5
 ·obtain rfl:j=n:=by omega
  rw [hy] at h5;cases h5
  by_cases d2:i=j - 1
  ·subst d2;rw [hx] at h4;cases h4;exact hr
  ·exact O.gu _ _ _ (h i (j - 1) u x h1 (by omega) (by omega) h4 hx) hr
def m7(r:Keyed->Keyed->Bool)(a:Array Keyed)(lo hi:Nat):Prop:=∀ i j x y,lo<=i->i < j->j < hi->a[i]?=some x->a[j]?=some y->r y x=true
theorem m7.more(O:Ord prog w A E s κ a₀ r){a:Array Keyed}{lo n:Nat}{x y:Keyed}(h:m7 r a lo n)(hn:lo < n)(hx:a[n - 1]?=some x)(hy:a[n]?=some y)(hr:r y x=true):m7 r a lo (n+1):=by
 intro i j u v h1 h2 h3 h4 h5
 by_cases d:j < n
 ·exact h i j u v h1 h2 d h4 h5
 ·obtain rfl:j=n:=by omega
  rw [hy] at h5;cases h5
  by_cases d2:i=j - 1
  ·subst d2;rw [hx] at h4;cases h4;exact hr
  ·exact O.gu _ _ _ hr<|h i (j - 1) u x h1 (by omega) (by omega) h4 hx
theorem UA(a:Array Keyed)(lo hi:Nat)(h:hi<=a.size):Upd a (mirror a lo hi<|(hi - lo) / 2) lo hi:=⟨(mirror_perm _ _ _ _).toList,λi d6=>by rw [IW h,BJ<|by omega]⟩
theorem m7.mirror{a:Array Keyed}{lo hi:Nat}(h:m7 r a lo hi)(hs:hi<=a.size):aZ r (mirror a lo hi<|(hi - lo) / 2) lo hi:=by
 intro i j x y h1 h2 h3 h4 h5;rw [IW hs,BK<|by omega] at h4 h5;exact h (lo+hi - 1 - j) (lo+hi - 1 - i) y x (by omega) (by omega) (by omega) h5 h4
theorem UB(O:Ord prog w A E s κ a₀ r)(nd:a₀.Nodup){st:SortSt}(B:Bs κ a₀ st){lo cH:Nat}{Q:Option Nat->SortSt->Prop}(h1:1<=cH)(hn:lo+cH<=(arrOf st).size)
  (hQ:∀ m b,1<=m->m<=cH->Upd (arrOf st) b lo (lo+cH)->aZ r b lo (lo+m)->Q (some m) (setArr st b)):wpS (model prog w) A E s (countRun' lo cH) Q st:=by
 have at':∀ i,i < (arrOf st).size->∃ x,(arrOf st)[i]?=some x:=λi hi=>⟨_,Bj hi⟩;have rW:∀ m,1<=m->m<=cH->aZ r (arrOf st) lo (lo+m)->Q (some m) st:=λm m1 m2 hs=>hQ m (arrOf st) m1 m2 (Upd.refl _ _ _) hs;unfold countRun';refine BP<|CZ (Q:=λc ai=>st=ai/\∃ n,c=(none,n)/\1<=n/\n<=cH/\aZ r (arrOf st) lo (lo+n)/\(n=cH\/∀ x y,(arrOf st)[lo+n - 1]?=some x->(arrOf st)[lo+n]?=some y->r y x=true)) (CJ (λi c ai=>st=ai/\c=(none,i)/\1<=i/\i<=cH/\aZ r (arrOf st) lo (lo+i)) ?_ ?_ ?_) ?_
 ·rintro i c ai g1 g2 ⟨rfl,rfl,g3,g4,g5⟩
  dsimp only
  obtain⟨y,hy⟩:=at' (lo+i) (by omega);obtain⟨x,hx⟩:=at' (lo+i - 1) (by omega);refine BP (oS O nd B hy hx (by omega) ?_);cases hr:r y x with
  | true=>exact BR ⟨rfl,i,rfl,g3,g4,g5,.inr λu v hu hv=>by rw [hx] at hu;rw [hy] at hv;cases hu;cases hv;exact hr⟩
  | false=>exact BR ⟨rfl,rfl,by omega,by omega,g5.more O (by omega) hx hy<|O.flip (B.eg hy) (B.eg hx) (λe=>by subst e;have:=B.uniq nd hx hy;omega) hr⟩
 ·rintro c ai ⟨rfl,rfl,g3,g4,g5⟩;exact⟨rfl,_,rfl,g3,g4,g5,.inl<|by omega⟩
 ·exact⟨rfl,rfl,Ah _,h1,λi j x y q1 q2 q3=>by omega⟩
 rintro c ai ⟨rfl,n,rfl,n1,n2,sn,F7⟩
 dsimp only
 by_cases c1:n=cH
 ·rw [BK<|by simpa using c1];exact BR<|rW n n1 n2 sn
 rw [BJ<|by simpa using c1];have hd:=F7.resolve_left c1
 by_cases c2:n > 1
 ·rw [BK c2];obtain⟨x,hx⟩:=at' lo (by omega);obtain⟨y,hy⟩:=at' (lo+n - 1) (by omega);refine BP (oS O nd B hx hy (by omega) ?_);rw [sn lo (lo+n - 1) x y (Ah _) (by omega) (by omega) hx hy];exact BR<|rW n n1 n2 sn
 rw [BJ c2];obtain rfl:n=1:=by omega
 refine BP<|oM ?_;refine BP<|CZ (Q:=λc ai=>st=ai/\∃ n,c=(none,n,0)/\1<=n/\n<=cH/\m7 r (arrOf st) lo (lo+n)) (CJ (λi c ai=>st=ai/\c=(none,i,0)/\1<=i/\i<=cH/\m7 r (arrOf st) lo (lo+i)) ?_ ?_ ?_) ?_
 ·rintro i c ai g1 g2 ⟨rfl,rfl,g3,g4,g5⟩
  dsimp only
  obtain⟨y,hy⟩:=at' (lo+i) (by omega);obtain⟨x,hx⟩:=at' (lo+i - 1) (by omega);refine BP (oS O nd B hy hx (by omega) ?_);cases hr:r y x with
  | true=>exact BR ⟨rfl,rfl,by omega,by omega,g5.more O (by omega) hx hy hr⟩
  | false=>
   dsimp only
   rw [BJ As];refine BP (oS O nd B hx hy (by omega) ?_);rw [O.flip (B.eg hy) (B.eg hx) (λe=>by subst e;have:=B.uniq nd hx hy;omega) hr];exact BR ⟨rfl,i,rfl,g3,g4,g5⟩
 ·rintro c ai ⟨rfl,rfl,g3,g4,g5⟩;exact⟨rfl,_,rfl,g3,g4,g5⟩
 ·refine⟨rfl,rfl,by omega,by omega,λi j x y q1 q2 q3 q4 q5=>?_⟩;obtain rfl:i=lo:=by omega
  obtain rfl:j=i+1:=by omega
  exact hd x y q4 q5
 rintro c ai ⟨rfl,n,rfl,UC,UD,dn⟩
 dsimp only
 rw [BJ<|Cs 0];refine BP<|wpS_reverse ?_;have u:=UA (arrOf st) lo (lo+n) (by omega);have sm:=dn.mirror (by omega);generalize mirror (arrOf st) lo (lo+n) ((lo+n - lo) / 2)=b at u sm ⊢;have B':=B.upd u;have sz:=u.size;have at2:∀ i,i < b.size->∃ x,b[i]?=some x:=λi hi=>⟨_,Bj hi⟩;refine BP<|CZ (Q:=λc ai=>setArr st b=ai/\∃ n,c=(none,n)/\1<=n/\n<=cH/\aZ r b lo (lo+n)) (CJ (λi c ai=>setArr st b=ai/\c=(none,i)/\1<=i/\i<=cH/\aZ r b lo (lo+i)) ?_ ?_ ?_) ?_
 ·rintro i c ai g1 g2 ⟨rfl,rfl,g3,g4,g5⟩
  dsimp only
  obtain⟨y,hy⟩:=at2 (lo+i) (by omega);obtain⟨x,hx⟩:=at2 (lo+i - 1) (by omega);refine BP (oS O nd B' hy hx (by omega) ?_);cases hr:r y x with
  | true=>exact BR ⟨rfl,i,rfl,g3,g4,g5⟩
  | false=>exact BR ⟨rfl,rfl,by omega,by omega,g5.more O (by omega) hx hy<|O.flip (B'.eg hy) (B'.eg hx) (λe=>by subst e;have:=B'.uniq nd hx hy;omega) hr⟩
 ·rintro c ai ⟨rfl,rfl,g3,g4,g5⟩;exact⟨rfl,_,rfl,g3,g4,g5⟩
 ·exact⟨rfl,rfl,UC,UD,sm⟩
 rintro c ai ⟨rfl,m,rfl,m1,m2,UE⟩;exact BR<|hQ m b m1 m2 (u.wide (Ah _)<|by omega) UE
theorem UG(O:Ord prog w A E s κ a₀ r)(nd:a₀.Nodup){st:SortSt}(B:Bs κ a₀ st){lo n ok:Nat}{Q:Bool->SortSt->Prop}(h1:ok<=n)(hn:lo+n<=(arrOf st).size)(hs:aZ r (arrOf st) lo<|lo+ok)
  (hQ:∀ b,Upd (arrOf st) b lo (lo+n)->aZ r b lo (lo+n)->Q true (setArr st b)):wpS (model prog w) A E s (binarySort' lo n ok) Q st:=by
 unfold binarySort';refine BP<|CZ (Q:=λc ai=>∃ b,setArr st b=ai/\c=(none,())/\Upd (arrOf st) b lo (lo+n)/\aZ r b lo (lo+n)) (CJ (λk c ai=>∃ b,setArr st b=ai/\c=(none,())/\Upd (arrOf st) b lo (lo+n)/\aZ r b lo (lo+min k n)) ?_ ?_ ?_) ?_
 ·rintro k c ai k1 k2 ⟨b,rfl,rfl,u,sb⟩;rw [show min k n=k by omega] at sb;have B':=B.upd u;have sz:=u.size;have at2:∀ i,i < b.size->∃ x,b[i]?=some x:=λi hi=>⟨_,Bj hi⟩;obtain⟨y,hy⟩:=at2 (lo+k) (by omega);refine BP<|CZ (Q:=λc ai=>setArr st b=ai/\∃ l,c=(none,l,l)/\l<=k/\(∀ i x,lo<=i->i < lo+l->b[i]?=some x->r x y=true)/\(∀ i x,lo+l<=i->i < lo+k->b[i]?=some x->r y x=true)) (CJ (λi c ai=>setArr st b=ai/\∃ l h,c=(none,l,h)/\l<=h/\h<=k/\h - l+i<=k/\(∀ i x,lo<=i->i < lo+l->b[i]?=some x->r x y=true)/\(∀ i x,lo+h<=i->i < lo+k->b[i]?=some x->r y x=true)) ?_ ?_ ?_) ?_
  ·rintro i c ai g1 g2 ⟨rfl,l,h,rfl,g3,g4,g5,g6,g7⟩
   dsimp only
   by_cases c1:l>=h
   ·rw [BK c1];obtain rfl:l=h:=by omega
    exact BR ⟨rfl,l,rfl,g4,g6,g7⟩
   rw [BJ c1];obtain⟨x,hx⟩:=at2 (lo+(l+h) / 2) (by omega);refine BP (oS O nd B' hy hx (by omega) ?_);cases hr:r y x with
   | true=>
    refine BR ⟨rfl,l,(l+h) / 2,rfl,by omega,by omega,by omega,g6,λj z j1 j2 j3=>?_⟩
    by_cases d:j=lo+(l+h) / 2
    ·subst d;rw [hx] at j3;cases j3;exact hr
    ·exact O.gu _ _ _ hr<|sb _ j x z (by omega) (by omega) j2 hx j3
   | false=>
    have gK:=O.flip (B'.eg hy) (B'.eg hx) (λe=>by subst e;have:=B'.uniq nd hx hy;omega) hr;refine BR ⟨rfl,(l+h) / 2+1,h,rfl,by omega,by omega,by omega,λj z j1 j2 j3=>?_,g7⟩
    by_cases d:j=lo+(l+h) / 2
    ·subst d;rw [hx] at j3;cases j3;exact gK
    ·exact O.gu _ _ _ (sb j _ z x (by omega) (by omega) (by omega) j3 hx) gK
  ·rintro c ai ⟨rfl,l,h,rfl,g3,g4,g5,g6,g7⟩;obtain rfl:l=h:=by omega
   exact⟨rfl,l,rfl,g4,g6,g7⟩
  ·exact⟨rfl,0,k,rfl,by omega,by omega,by omega,λi x q1 q2=>by omega,λi x q1 q2=>by omega⟩
  rintro c ai ⟨rfl,l,rfl,g4,g6,g7⟩
  dsimp only
  have bu:Upd b (bubble b (lo+k)<|lo+k - (lo+l)) lo (lo+n):=⟨(bubble_perm _ _ _).toList,λi hi=>by rw [getElem?_bubble (by omega) _ (by omega),BJ (by omega),BJ<|by omega]⟩;have bs:aZ r (bubble b (lo+k)<|lo+k - (lo+l)) lo (lo+(k+1)):=by
   intro i j x z i1 i2 i3 i4 i5;rw [getElem?_bubble (by omega) _<|by omega] at i4 i5;rw [show lo+k - (lo+k - (lo+l))=lo+l by omega] at i4 i5
   by_cases d1:i=lo+l
   ·rw [BK d1,hy] at i4;cases i4;rw [BJ (by omega),BK<|by omega] at i5;exact g7 (j - 1) z (by omega) (by omega) i5
   rw [BJ d1] at i4
   by_cases d2:j=lo+l
   ·rw [BK d2,hy] at i5;cases i5;rw [BJ<|by omega] at i4;exact g6 i x i1 (by omega) i4
   rw [BJ d2] at i5
   by_cases d3:lo+l < i
   ·rw [BK<|by omega] at i4 i5;exact sb (i - 1) (j - 1) x z (by omega) (by omega) (by omega) i4 i5
   rw [BJ<|by omega] at i4
   by_cases d4:lo+l < j
   ·rw [BK<|by omega] at i5;exact sb i (j - 1) x z (by omega) (by omega) (by omega) i4 i5
   ·rw [BJ<|by omega] at i5;exact sb i j x z (by omega) (by omega) (by omega) i4 i5
  refine BP<|HB ?_;exact BR ⟨_,rfl,rfl,u.trans bu,by rw [show min (k+1) n=k+1 by omega];exact bs⟩
 ·rintro c ai ⟨b,rfl,rfl,u,sb⟩;exact⟨b,rfl,rfl,u,by rw [show min (max (max ok 1) n) n=n by omega] at sb;exact sb⟩
 ·refine⟨arrOf st,rfl,rfl,Upd.refl _ _ _,λi j x y q1 q2 q3 q4 q5=>?_⟩
  by_cases d:ok=0
  ·omega
  ·exact hs i j x y q1 q2 (by omega) q4 q5
 ·rintro c ai ⟨b,rfl,rfl,u,sb⟩;exact BR<|hQ b u sb
end
def Runs(r:Keyed->Keyed->Bool)(a:Array Keyed):Nat->Nat->List (Nat×Nat×Nat)->Prop
 | lo,hi,[]=>lo=hi
 | lo,hi,x :: ps=>x.1=lo/\0 < x.2.1/\aZ r a lo (lo+x.2.1)/\Runs r a (lo+x.2.1) hi ps
section
variable{prog:Program}{w:World}{A:Around}{E:Value->Shared->Prop}{s:Shared}{κ:SortKind}{a₀:List Keyed}{r:Keyed->Keyed->Bool}{a b:Array Keyed}
theorem Runs.le:∀{ps:List (Nat×Nat×Nat)} {lo hi:Nat},Runs r a lo hi ps->lo+ps.length<=hi
 | [],lo,hi,h=>Fr h
 | x :: ps,lo,hi,h=>by
  have:=Runs.le h.2.2.2;have:=h.2.1;rw [Ar];omega
theorem Runs.app:∀{ps qs:List (Nat×Nat×Nat)} {lo hi:Nat},Runs r a lo hi (ps++qs)->∃ m,Runs r a lo m ps/\Runs r a m hi qs
 | [],qs,lo,hi,h=>⟨lo,rfl,h⟩
 | x :: ps,qs,lo,hi,h=>by
  obtain⟨m,h1,h2⟩:=Runs.app (ps:=ps) h.2.2.2;exact⟨m,⟨h.1,h.2.1,h.2.2.1,h1⟩,h2⟩
theorem Runs.cat:∀{ps qs:List (Nat×Nat×Nat)} {lo m hi:Nat},Runs r a lo m ps->Runs r a m hi qs->Runs r a lo hi (ps++qs)
 | [],qs,lo,m,hi,h,k=>by cases h;exact k
 | x :: ps,qs,lo,m,hi,h,k=>⟨h.1,h.2.1,h.2.2.1,Runs.cat h.2.2.2 k⟩
theorem Runs.upd:∀{ps:List (Nat×Nat×Nat)} {lo hi jw d6:Nat},Runs r a lo hi ps->Upd a b jw d6->hi<=jw\/d6<=lo->Runs r b lo hi ps
 | [],lo,hi,jw,d6,h,u,d=>h
 | x :: ps,lo,hi,jw,d6,h,u,d=>by
  have:=Runs.le h.2.2.2;exact⟨h.1,h.2.1,h.2.2.1.upd u (by omega),Runs.upd h.2.2.2 u<|by omega⟩
theorem Runs.same:∀{ps qs:List (Nat×Nat×Nat)} {lo hi:Nat},ps.map (λx=>(x.1,x.2.1))=qs.map (λx=>(x.1,x.2.1))->Runs r a lo hi ps->Runs r a lo hi qs
 | [],[],lo,hi,_,h=>h
 | [],_ :: _,_,_,e,_=>by cases e
 | _ :: _,[],_,_,e,_=>by cases e
 | x :: ps,y :: qs,lo,hi,e,h=>by
  obtain⟨e1,e2⟩:=List.cons.inj e;have q1:x.1=y.1:=(Prod.mk.inj e1).1;have q2:x.2.1=y.2.1:=(Prod.mk.inj e1).2;exact⟨q1 ▸ h.1,q2 ▸ h.2.1,q2 ▸ h.2.2.1,q2 ▸ Runs.same e2 h.2.2.2⟩
theorem Runs.z9{ps:List (Nat×Nat×Nat)}{n:Nat}(h:Runs r a 0 n ps)(hl:ps.length<=1):aZ r a 0 n:=by
 match ps,h,hl with
 | [],h,_=>cases h;exact λi j x y h1 h2 h3=>by omega
 | [x],h,_=>
  have e:0+x.2.1=n:=h.2.2.2;have:=h.2.2.1;rw [e] at this;exact this
 | _ :: _ :: _,_,hl=>simp at hl
theorem J9(O:Ord prog w A E s κ a₀ r)(nd:a₀.Nodup){st:SortSt}(B:Bs κ a₀ st){i hi:Nat}{Q:Bool->SortSt->Prop}(kW:i+1 < (pendingOf st).size)(R:Runs r (arrOf st) 0 hi (pendingOf st).toList)(hh:hi<=(arrOf st).size)
  (hQ:∀ ai,Bs κ a₀ ai->Runs r (arrOf ai) 0 hi (pendingOf ai).toList->(pendingOf ai).size+1=(pendingOf st).size->Upd (arrOf st) (arrOf ai) 0 hi->Q true ai):wpS (model prog w) A E s (mergeAt' i) Q st:=by
 have pl:(pendingOf st).toList.length=(pendingOf st).size:=Am;obtain⟨P1,x,y,P2,e,el⟩:∃ P1 x y P2,(pendingOf st).toList=P1++x :: y :: P2/\P1.length=i:=by
  refine⟨(pendingOf st).toList.take i,(pendingOf st).toList[i]'(by omega),(pendingOf st).toList[i+1]'(by omega),(pendingOf st).toList.drop<|i+2,?_,by rw [Ay];omega⟩;rw [<- Ch,<- Ch,Bw]
 have eA:pendingOf st=List.toArray (P1++x :: y :: P2):=by rw [<- e]
 rw [e] at R;obtain⟨m,R1,rfl,x1,x2,y0,y1,y2,R2⟩:=R.app;obtain⟨sa,na,pw⟩:=x;obtain⟨sb,nb,vp⟩:=y;have l1:=R1.le;have l2:=R2.le
 dsimp only at x1 x2 y0 y1 y2 R2 l2 l1 R1
 have g1:(pendingOf st)[i]?=some (sa,na,pw):=by rw [<- Ao,e,Az (by omega),el,Nat.sub_self];rfl
 have g2:(pendingOf st)[i+1]?=some (sb,nb,vp):=by rw [<- Ao,e,Az (by omega),el,Ga];rfl
 refine Uv O nd B g1 g2 y0 x1 y1 (by omega) (by rw [y0];exact x2) (by rw [y0];exact y2) λai B' ep u so=>?_;have og:(pendingOf ai).toList=P1++(sa,na+nb,pw) :: P2:=by
  rw [ep,Array.toList_eraseIdxIfInBounds,JL,e];subst el;rw [List.set_append_right _ _<|Ah _,Nat.sub_self,List.set_cons_zero,List.eraseIdx_append_of_length_le (by omega),Ga];rfl
 refine hQ ai B' ?_ ?_<|u.wide (Br _)<|by omega
 ·rw [og];refine Runs.cat (R1.upd u<|.inl<|Ah _) ⟨rfl,by show 0 < na+nb;omega,?_,?_⟩
  ·show aZ r (arrOf ai) sa (sa+(na+nb));rw [show sa+(na+nb)=sb+nb by omega];exact so
  ·show Runs r (arrOf ai) (sa+(na+nb)) hi P2;rw [show sa+(na+nb)=sa+na+nb by omega];exact R2.upd u<|.inr<|by omega
 ·rw [<- Am,og,<- pl,e,Ae,Ae,Ar,Ar,Ar];rfl
theorem ite_le(c:Prop) [Decidable c] (n:Nat):(if c then n - 1 else n)<=n:=by
 by_cases h:c
 ·rw [BK h];omega
 ·rw [BJ h];exact Ah _
theorem UH{p:Array (Nat×Nat×Nat)}{i:Nat}{f:Nat×Nat×Nat->Nat×Nat×Nat}(hf:∀ x,((f x).1,(f x).2.1)=(x.1,x.2.1)):p.toList.map (λx=>(x.1,x.2.1))=(p.modify i f).toList.map (λx=>(x.1,x.2.1)):=by
 apply Dr;intro j;rw [Array.toList_modify,Ad,Ad,El];cases p.toList[j]? with
 | none=>by_cases c:i=j <;> simp [c]
 | some x=>
  by_cases c:i=j
  ·have:(λa:Nat×Nat×Nat=>if i=j then f a else a)=f:=funext λ_=>BK c;rw [this];exact BZ some (hf x).symm
  ·have:(λa:Nat×Nat×Nat=>if i=j then f a else a)=id:=funext λ_=>BJ c;rw [this];rfl
theorem UI(O:Ord prog w A E s κ a₀ r)(nd:a₀.Nodup){st:SortSt}(B:Bs κ a₀ st)(h0:pendingOf st=#[]){Q:Unit->SortSt->Prop}
  (hQ:∀ ai,Bs κ a₀ ai->aZ r (arrOf ai) 0 (arrOf ai).size->Q () ai):wpS (model prog w) A E s sortRuns' Q st:=by
 unfold sortRuns';refine BP<|DY ?_;have rX:∀{ai},Bs κ a₀ ai->(arrOf ai).size=(arrOf st).size:=λ{ai} B'=>by
  have h1:=B'.perm.length_eq;have h2:=B.perm.length_eq;rw [Am] at h1 h2;omega
 generalize hN:(arrOf st).size=N at rX
 dsimp only
 obtain⟨mr,t6⟩:∃ mr,mr=minRun' N N 0:=⟨_,rfl⟩;unfold minRun' at t6;rw [<- t6];refine BP<|CZ (Q:=λc ai=>c=(none,N)/\Bs κ a₀ ai/\Runs r (arrOf ai) 0 N (pendingOf ai).toList) (CJ (λi c ai=>∃ lo,c=(none,lo)/\i<=lo/\lo<=N/\Bs κ a₀ ai/\Runs r (arrOf ai) 0 lo (pendingOf ai).toList) ?_ ?_ ?_) ?_
 ·rintro i c ai _ hi ⟨lo,rfl,g1,g2,B',R⟩;have sz:=rX B'
  dsimp only
  by_cases c1:lo>=N
  ·rw [BK c1];obtain rfl:lo=N:=by omega
   exact BR ⟨rfl,B',R⟩
  rw [BJ c1];refine BP (UB O nd B' (by omega) (by omega) λm b m1 m2 u so=>?_);have B1:=B'.upd u;have R1:Runs r b 0 lo (pendingOf ai).toList:=R.upd u<|.inl<|Ah _;have UJ:b.size=N:=u.size.trans sz;obtain⟨kZ,ke⟩:∃ kZ,kZ=setArr ai b:=⟨_,rfl⟩;have a1:arrOf kZ=b:=by rw [ke]
  have p1:pendingOf kZ=pendingOf ai:=by rw [ke]
  rw [<- ke] at B1 ⊢;rw [<- a1] at R1 so UJ;rw [<- p1] at R1;clear ke a1 p1 u
  dsimp only
  by_cases c2:m < mr
  case' pos=>
   rw [BK c2];refine BP<|oM ?_;refine BP (UG O nd B1 (by omega) (by omega) so λb2 u2 vq=>?_);have S2:=vq;have n1:1<=min (N - lo) (mr):=by omega
   have n2:lo+min (N - lo) (mr)<=N:=by omega
   have B2:=B1.upd u2;have R2:Runs r b2 0 lo (pendingOf kZ).toList:=R1.upd u2<|.inl<|Ah _;obtain⟨bh,dO⟩:∃ bh,bh=setArr kZ b2:=⟨_,rfl⟩;have a2:arrOf bh=b2:=by rw [dO]
   have p2:pendingOf bh=pendingOf kZ:=by rw [dO]
   rw [<- dO] at B2 ⊢;rw [<- a2,<- p2] at R2;rw [<- a2] at S2;clear dO a2 p2 u2 vq c2;generalize min (N - lo) (mr)=n at S2 n1 n2 ⊢;rw [BJ<|by decide]
  case' neg=>
   rw [BJ c2];obtain⟨n,hn⟩:∃ n,n=m:=⟨_,rfl⟩;have n1:1<=n:=by omega
   have n2:lo+n<=N:=by omega
   rw [<- hn] at so ⊢;obtain⟨bh,dO⟩:∃ bh,bh=kZ:=⟨_,rfl⟩;have B2:Bs κ a₀ bh:=by rw [dO];exact B1
   have R2:Runs r (arrOf bh) 0 lo (pendingOf bh).toList:=by rw [dO];exact R1
   have S2:aZ r (arrOf bh) lo (lo+n):=by rw [dO];exact so
   rw [<- dO];clear dO hn
  all_goals
   refine BP<|DY ?_;have push:∀ bb:SortSt,Bs κ a₀ bb->Runs r (arrOf bb) 0 lo (pendingOf bb).toList->aZ r (arrOf bb) lo (lo+n)->Runs r (arrOf bb) 0 (lo+n) ((pendingOf bb).push (lo,n,0)).toList:=λbb B3 R3 S3=>by
    rw [Ds];exact R3.cat ⟨rfl,n1,S3,rfl⟩
   cases hb:(pendingOf bh).back? with
   | none=>
    dsimp only
    exact BP<|HB<|BR ⟨lo+n,rfl,by omega,n2,⟨B2.kind,B2.failed,B2.perm⟩,push bh B2 R2 S2⟩
   | some q=>
    obtain⟨s1,AA,Wf⟩:=q
    dsimp only
    obtain⟨pw,J'⟩:∃ pw,pw=power' N (2 * s1+AA) (2 * s1+AA+AA+n) N:=⟨_,rfl⟩;unfold power' at J';rw [<- J'];refine BP<|CZ (Q:=λc bb=>c=(none,())/\Bs κ a₀ bb/\Runs r (arrOf bb) 0 lo (pendingOf bb).toList/\aZ r (arrOf bb) lo (lo+n)) (CJ (λi c bb=>c=(none,())/\Bs κ a₀ bb/\Runs r (arrOf bb) 0 lo (pendingOf bb).toList/\aZ r (arrOf bb) lo (lo+n)) ?_ ?_ ?_) ?_
    ·rintro i c bb _ _ ⟨rfl,B3,R3,S3⟩;refine BP<|DY ?_
     by_cases c3:(pendingOf bb).size > 1
     ·rw [BK c3];cases hq:(pendingOf bb)[(pendingOf bb).size - 2]? with
      | none=>exact BR ⟨rfl,B3,R3,S3⟩
      | some q=>
       obtain⟨q1,q2,rY⟩:=q
       dsimp only
       by_cases c4:rY<=pw
       ·rw [BK c4];exact BR ⟨rfl,B3,R3,S3⟩
       ·rw [BJ c4];refine BP (J9 O nd B3 (show(pendingOf bb).size - 2+1 < (pendingOf bb).size by omega) R3 (by rw [rX B3];omega) λlW B4 R4 _ u4=>?_);rw [BJ<|by decide];exact BR ⟨rfl,B4,R4,S3.upd u4<|.inr<|Ah _⟩
     ·rw [BJ c3];exact BR ⟨rfl,B3,R3,S3⟩
    ·rintro c bb h;exact h
    ·exact⟨rfl,B2,R2,S2⟩
    rintro c bb ⟨rfl,B3,R3,S3⟩
    dsimp only
    refine BP<|HB ?_;refine BP (HB<|BR ⟨lo+n,rfl,by omega,n2,⟨B3.kind,B3.failed,B3.perm⟩,?_⟩);have R5:Runs r (arrOf bb) 0 lo ((pendingOf bb).modify ((pendingOf bb).size - 1) λ(x:Nat×Nat×Nat)=>match x with | (st,len,_)=>(st,len,pw)).toList:=Runs.same (UH λx=>rfl) R3;exact push (setPending bb<|(pendingOf bb).modify ((pendingOf bb).size - 1) λ(x:Nat×Nat×Nat)=>match x with | (st,len,_)=>(st,len,pw)) ⟨B3.kind,B3.failed,B3.perm⟩ R5 S3
 ·rintro c ai ⟨lo,rfl,g1,g2,B',R⟩;obtain rfl:lo=N:=by omega
  exact⟨rfl,B',R⟩
 ·exact⟨0,rfl,Ah _,Br _,B,by rw [h0];rfl⟩
 rintro c ai ⟨rfl,B',R⟩
 dsimp only
 refine BP<|CZ (Q:=λc ai=>c=(none,())/\Bs κ a₀ ai/\Runs r (arrOf ai) 0 N (pendingOf ai).toList/\(pendingOf ai).size<=1) (CJ (λi c ai=>c=(none,())/\Bs κ a₀ ai/\Runs r (arrOf ai) 0 N (pendingOf ai).toList/\(pendingOf ai).size+i<=N) ?_ ?_ ?_) ?_
 ·rintro i c bh _ hi ⟨rfl,B2,R2,l2⟩;have FL:=rX B2;refine BP<|DY ?_
  by_cases c2:(pendingOf bh).size<=1
  ·rw [BK c2];exact BR ⟨rfl,B2,R2,c2⟩
  rw [BJ c2];have go:∀ k,k+1 < (pendingOf bh).size->wpS (model prog w) A E s (mergeAt' k) (λb bb=>b=true/\Bs κ a₀ bb/\Runs r (arrOf bb) 0 N (pendingOf bb).toList/\(pendingOf bb).size+1=(pendingOf bh).size) bh:=λk hk=>J9 O nd B2 hk R2 (by omega) λbb B3 R3 e3 _=>⟨rfl,B3,R3,e3⟩;refine BP<|CZ (go _ ?_) ?_
  ·exact JG (Nat.add_le_add_right (ite_le _ _) 1) (show(pendingOf bh).size - 2+1 < (pendingOf bh).size by omega)
  ·rintro b bb ⟨rfl,B3,R3,e3⟩;exact BR ⟨rfl,B3,R3,by omega⟩
 ·rintro c bh ⟨rfl,B2,R2,l2⟩;exact⟨rfl,B2,R2,by omega⟩
 ·refine⟨rfl,B',R,?_⟩;have:=R.le;rw [Am] at this;omega
 rintro c bh ⟨rfl,B2,R2,l2⟩;refine BR<|hQ _ B2 ?_;rw [rX B2];exact R2.z9<|by rw [Am];exact l2
end
end Jz
namespace bX
open PySem PySem.W PyProof.Rows PySem.SeqAt Jz
theorem Ka{α β:Type}{f:α->β}{l k:List β}(h:l.Perm k):∀ m:List α,k=m.map f->∃ m':List α,m'.Perm m/\l=m'.map f:=by
 induction h with
 | nil=>exact λm e=>⟨m,List.Perm.refl _,e⟩
 | cons x _ ih=>
  intro m e;cases m with
  | nil=>cases e
  | cons y m=>
   obtain⟨e1,e2⟩:=List.cons.inj e;obtain⟨m',p,q⟩:=ih m e2;exact⟨y :: m',p.cons y,by rw [Bq,<- e1,<- q]⟩
 | swap x y l=>
  intro m e
  match m,e with
  | p :: q :: m,e=>
   obtain⟨e1,e2⟩:=List.cons.inj e;obtain⟨e3,e4⟩:=List.cons.inj e2;exact⟨q :: p :: m,List.Perm.swap _ _ _,by rw [Bq,Bq,<- e1,<- e3,<- e4]⟩
 | trans _ _ y9 iP=>
  intro m e;obtain⟨m1,p1,q1⟩:=iP m e;obtain⟨m2,p2,q2⟩:=y9 m1 q1;exact⟨m2,p2.trans p1,q2⟩
theorem UK{xs:Array Value}{z u:List Str}(h:SX xs z)(k:SX xs u):z=u:=by
 refine KR (by rw [<- h.1,<- k.1]) λi h1 h2=>?_;obtain⟨t,e⟩:=h.2 i (by rw [h.1];exact h1) h1;obtain⟨t',e'⟩:=k.2 i (by rw [h.1];exact h1) h2;rw [e] at e';exact(Value.str.inj e').1
theorem vt{h:Heap}{v:Value}{z u:List Str}(a:j7 h v z)(b:j7 h v u):z=u:=by
 obtain⟨a,o,xs,n,rfl,h1,h2,h3,h4⟩:=a;obtain⟨a',o',Wg,n',e,g1,g2,g3,g4⟩:=b;cases e;rw [h1] at g1;cases g1;rw [h3] at g3;cases g3;exact UK h4 g4
theorem k4{h:Heap}{vs:List Value}{zs:List (List Str)}(hh:d8 h vs zs){v:Value}{z:List Str}(m:(v,z)∈vs.zip zs):j7 h v z:=by
 obtain⟨i,hi⟩:=Ba m;rw [Ec] at hi;exact hh.2 i v z hi.1 hi.2
noncomputable def rL(vs:List Value)(zs:List<|List Str)(x y:Keyed):Bool:=@decide (∃ z u,(x.1,z)∈vs.zip zs/\(y.1,u)∈vs.zip zs/\aO z u=true) (Classical.propDecidable _)
theorem cU{vs:List Value}{zs:List (List Str)}{x y:Keyed}:rL vs zs x y=true↔∃ z u,(x.1,z)∈vs.zip zs/\(y.1,u)∈vs.zip zs/\aO z u=true:=by
 unfold rL;exact @decide_eq_true_iff _<|Classical.propDecidable _
section
variable{prog:Program}{w:World}{A:Around}{E:Value->Shared->Prop}{s:Shared}
theorem rZ{h:Heap}{vs:List Value}{zs:List (List Str)}(hh:d8 h vs zs){x y:Keyed}{z u:List Str}(hx:(x.1,z)∈vs.zip zs)(hy:(y.1,u)∈vs.zip zs):rL vs zs x y=aO z u:=by
 cases c:aO z u with
 | true=>exact cU.mpr ⟨z,u,hx,hy,c⟩
 | false=>
  refine Bool.eq_false_iff.mpr λq=>?_;obtain⟨z',u',a,b,e⟩:=cU.mp q;rw [vt (k4 hh a)<|k4 hh hx,vt (k4 hh b)<|k4 hh hy,c] at e;cases e
theorem Kb{vs:List Value}{zs:List (List Str)}(hl:vs.length=zs.length):vs.zip vs=(vs.zip zs).map λq=>(q.1,q.1):=by
 apply Dr;intro i
 by_cases c:i < vs.length
 ·rw [Ab (by rw [Di];omega),Ab (by rw [Aa,Di];omega),Gj,KZ,Gj]
 ·rw [Da (by rw [Di];omega),Da<|by rw [Aa,Di];omega]
theorem UL{vs:List Value}{zs:List (List Str)}(hA:A.units < cLine)(hh:d8 s.heap vs zs)(hn:zs.Nodup):Ord prog w A E s oneType' (vs.zip vs) (rL vs zs):=by
 have mem:∀{x:Keyed},x∈vs.zip vs->∃ z,(x.1,z)∈vs.zip zs/\x=(x.1,x.1):=λ{x} hx=>by
  rw [Kb hh.1] at hx;obtain⟨q,hq,rfl⟩:=At.mp hx;exact⟨q.2,hq,rfl⟩
 have inj:∀{v u:Value} {z:List Str},(v,z)∈vs.zip zs->(u,z)∈vs.zip zs->v=u:=λ{v u z} h1 h2=>by
  obtain⟨i,hi⟩:=Ba h1;obtain⟨j,hj⟩:=Ba h2;rw [Ec] at hi hj;have:i=j:=(JT (Ac.mp hi.2).1 hn).mp (by rw [hi.2,hj.2]);subst this;exact Option.some.inj<|hi.1.symm.trans hj.1
 refine⟨λx y st Q hx hy ne hk hQ=>?_,λx hx y hy ne=>?_,λx y h=>?_,λx y z h1 h2=>?_⟩
 ·obtain⟨z,hz,ex⟩:=mem hx;obtain⟨u,hu,ey⟩:=mem hy;rw [rZ hh hz hu] at hQ;rw [lt'_eq];refine BP<|DY ?_;rw [hk];refine BP<|wpS_lift<|wpAny_attempt<|Uj hA (k4 hh hz) (k4 hh hu) ⟨rfl,?_⟩;exact BR hQ
 ·obtain⟨z,hz,ex⟩:=mem hx;obtain⟨u,hu,ey⟩:=mem hy;rw [rZ hh hz hu,rZ hh hu hz];exact Jv λe=>ne<|by subst e;rw [ex,ey,inj hz hu]
 ·obtain⟨z,u,a,b,c⟩:=cU.mp h;rw [rZ hh b a];exact rM c
 ·obtain⟨p,q,a,b,c⟩:=cU.mp h1;obtain⟨q',t,a',b',c'⟩:=cU.mp h2;rw [vt (k4 hh a')<|k4 hh b] at c';exact cU.mpr ⟨p,t,a,b',Jw c c'⟩
theorem UM{h:Heap}{vs:List Value}{zs:List (List Str)}(hh:d8 h vs zs)(hn:zs.Nodup):(vs.zip vs).Nodup:=by
 rw [Cp,Bg];intro i j hi hj cS e;rw [Di] at hi hj;have hl:=hh.1;rw [Gj,Gj] at e;have e1:vs[i]'(by omega)=vs[j]'(by omega):=(Prod.mk.inj e).1;have a:=hh.2 i _ _ (Ab<|by omega) (Ab<|by omega);have b:=hh.2 j _ _ (Ab<|by omega) (Ab<|by omega);rw [e1] at a;exact Bg.mp (Cp.mp hn) i j (by omega) (by omega) cS<|vt a b
theorem UN{a:Addr}{vs:List Value}{zs:List (List Str)}{n:Nat}{P:PySem.Fin->Shared->Prop}(hA:A.units < cLine)(ho:s.heap.get? a=some (seqObj "list" vs.toArray n))(cC:∀ v∈vs,v ≠ .ref a)(hh:d8 s.heap vs zs)(hn:zs.Nodup)(jV:vs.length<=sizeLine)
  (h:∀ us:List<|Value×List Str,us.Perm (vs.zip zs)->us.Pairwise (λx y=>aO x.2 y.2=true)->P (.done<|.ret .none) {s with heap:=sortedHeap s.heap a vs (List.toArray<|us.map λx=>x.1)}) :
  wpAny (model prog w) A (Builtin.«list.sort» ⟨[.ref a],[]⟩) P E s:=by
 rw [list_sort_plain];have ha:a < s.heap.objs.size:=Bd ho;refine BL<|HW ho rfl ?_;refine BL<|FP ho rfl ?_;obtain⟨e1,kB⟩:∃ e1,(s.heap.update a<|Obj.mapSeq λ_=>#[]).get? a=some (seqObj "list" #[] e1):=⟨_,get?_update_seq ho λ_=>#[]⟩;refine BL<|GQ kB rfl ?_;refine BL<|wpAny_newTuple ?_;refine BL<|HD ?_;refine DR ?_;have ie:(((s.heap.update a<|Obj.mapSeq λ_=>#[]).push<|seqObj "tuple" vs.toArray 0).push<|seqObj "list" #[] 0).get? a=some (seqObj "list" #[] e1):=Ai _<|Ai _ kB;show wpAny (model prog w) A _ P E {s with heap:=((s.heap.update a<|Obj.mapSeq λ_=>#[]).push<|seqObj "tuple" vs.toArray 0).push (seqObj "list" #[] 0)};have mJ:d8 (((s.heap.update a<|Obj.mapSeq λ_=>#[]).push<|seqObj "tuple" vs.toArray 0).push<|seqObj "list" #[] 0) vs zs:=⟨hh.1,λi v z h1 h2=>(hh.2 i v z h1 h2).keep λb o e q=>by
  have hb:a≠b:=λe2=>cC v (Au h1) (by rw [e,e2]);exact Ai _<|Ai _<|(Cq _ _ hb).trans q⟩
 dsimp only
 have hsz:vs.toArray.size=vs.length:=by simp
 have zm:(vs.zip zs).map (λx=>x.1)=vs:=List.map_fst_zip<|Fr hh.1
 by_cases h2:vs.toArray.size < 2
 ·rw [BK h2,BK h2];refine BL<|BW ?_;rw [StateT.run_pure];refine BL<|BW ?_
  dsimp only
  have e5:(arrOf<|SortSt.mk' general' (vs.toArray.zip vs.toArray) #[] 7 none).map (·.2)=vs.toArray:=by
   show(vs.toArray.zip vs.toArray).map (·.2)=_;apply Fs.mp;simp [KY]
  refine BL<|GQ ie rfl ?_;refine BL (FP ie rfl ?_ (hsz2:=by rw [e5,hsz];omega));simp only [GX,Ck,DN];refine BW ?_;rw [e5];have fin:=h (vs.zip zs) (List.Perm.refl _)<|by
   rw [Bg];intro i j hi hj cS;rw [Di] at hi hj;rw [hsz] at h2;omega
  rw [zm] at fin;exact fin
 ·rw [BJ h2,BJ h2];rw [hsz] at h2;refine BL<|kas_kind (T:= .type "list") (by omega) (λv hv=>?_) (by decide) (by decide) ?_
  ·obtain⟨i,hi⟩:=Ba hv;have qF:i < zs.length:=by have:=(Ac.mp hi).1;have:=hh.1;omega
   obtain⟨b,o,xs,n,rfl,q1,q2,_⟩:=mJ.2 i v zs[i] hi<|Ab qF;have lk:Looks (model prog w) (((s.heap.update a<|Obj.mapSeq λ_=>#[]).push<|seqObj "tuple" vs.toArray 0).push<|seqObj "list" #[] 0) (typeOf<|.ref b) o.cls:=(Looks.ld q1).andThen .now;rw [q2] at lk;exact lk
  have ez:(vs.toArray.zip vs.toArray).toList=vs.zip vs:=by rw [Array.toList_zip]
  have cN:=UI (prog:=prog) (w:=w) (A:=A) (E:=E) (s:={s with heap:=((s.heap.update a<|Obj.mapSeq λ_=>#[]).push<|seqObj "tuple" vs.toArray 0).push (seqObj "list" #[] 0)}) (UL hA mJ hn) (UM mJ hn) (st:=SortSt.mk' oneType' (vs.toArray.zip vs.toArray) #[] 7 none) ⟨rfl,rfl,by show(vs.toArray.zip vs.toArray).toList.Perm _;rw [ez]⟩ rfl
   (Q := λ_ ai => failedOf ai = none ∧ ∃ us : List<|Value × List Str, us.Perm (vs.zip zs) ∧ us.Pairwise (λx y => aO x.2 y.2 = true) ∧ (arrOf ai).toList = us.map λq => (q.1, q.1)) (λai B S => by
    refine⟨B.failed,?_⟩;obtain⟨us,p,e⟩:=Ka B.perm (vs.zip zs)<|Kb hh.1;refine⟨us,p,?_,e⟩;have sl:=S.list;rw [<- Am,Bi,Gd,e,Ep] at sl;exact sl.imp_of_mem λ{x y} hx hy q=>by
     rw [rZ (x:=(x.1,x.1)) (y:=(y.1,y.1)) mJ (p.mem_iff.mp hx)<|p.mem_iff.mp hy] at q;exact q)
  refine BL<|CP cN ?_ λ_ _ e=>e;rintro ⟨⟨⟩,ai⟩ s' ⟨rfl,hf,us,p,sp,uG⟩
  dsimp only at uG hf ⊢
  have e3:(arrOf ai).map (·.2)=List.toArray (us.map λx=>x.1):=by
   apply Fs.mp;rw [Array.toList_map,uG,Be];rfl
  have ul:us.length=vs.length:=by rw [p.length_eq,Di,<- hh.1,JZ]
  refine BL<|GQ ie rfl ?_;refine BL (FP ie rfl ?_ (hsz2:=by rw [e3,An,Aa,ul];omega));rw [hf];simp only [GX,Ck,DN];refine BW ?_;rw [e3];exact h us p sp
theorem UO{l:Addr}{vs:List Value}{zs:List (List Str)}{Q:Value->Shared->Prop}(hA:A.units+8 < cLine)(hl:s.heap.IsList l vs.toArray)(hh:d8 s.heap vs zs)(hn:zs.Nodup)(jV:vs.length<=sizeLine)
  (h:∀(h':Heap) (e:Nat) (us:List<|Value×List Str),us.Perm (vs.zip zs)->us.Pairwise (λx y=>aO x.2 y.2=true)->(∀ b u,s.heap.get? b=some u->h'.get? b=some u)->h'.get? (s.heap.objs.size+1)=some (seqObj "list" (List.toArray<|us.map λx=>x.1) e)->Q (.ref<|s.heap.objs.size+1) {s with heap:=h'}) :
  wpAny (model prog w) A (call (.builtin "sorted") [.ref l]) Q E s:=by
 refine Calls.call_function_entry kind_sorted plain_sorted entry_sorted (args_sorted1 _) ?_;unfold Builtin.«sorted»;refine BL (m:=checkCount "sorted" 1 1 _)<|BW ?_;refine BL<|collect_list (vs:=vs) hl ?_;refine BL<|HD ?_;have hsz:((s.heap.push<|seqObj "list" #[] 0).update s.heap.objs.size (Obj.mapSeq (·++vs.toArray))).objs.size=s.heap.objs.size+1:=by
  rw [KC,size_push']
 have i':(((s.heap.push<|seqObj "list" #[] 0).update s.heap.objs.size (Obj.mapSeq (·++vs.toArray))).push<|seqObj "list" vs.toArray 0).get? (s.heap.objs.size+1)=some (seqObj "list" vs.toArray 0):=by
  rw [<- hsz];exact Bp _ rfl
 have yP:d8 (((s.heap.push<|seqObj "list" #[] 0).update s.heap.objs.size (Obj.mapSeq (·++vs.toArray))).push<|seqObj "list" vs.toArray 0) vs zs:=⟨hh.1,λi v z h1 h2=>(hh.2 i v z h1 h2).keep λb o e q=>
  Ai _ ((Cq _ _<|Dx<|Bd q).trans<|Ai _ q)⟩
 have aY:∀ v∈vs,v ≠ .ref (s.heap.objs.size+1):=λv hv e=>by
  obtain⟨i,hi⟩:=Ba hv;have hl:=hh.1;have qF:i < zs.length:=by have:=(Ac.mp hi).1;omega
  obtain⟨b,o,xs,n,e2,h1,_⟩:=hh.2 i v zs[i] hi<|Ab qF;rw [e2] at e;cases e;exact absurd (JR<|Bd h1)<|Cs _
 show wpAny _ _ _ _ _ {s with heap:=((s.heap.push<|seqObj "list" #[] 0).update s.heap.objs.size (Obj.mapSeq (·++vs.toArray))).push (seqObj "list" vs.toArray 0)};rw [hsz];refine BL (DR<|wpAny_call_entry slot_list_sort ⟨_,i',rfl⟩ entry_list_sort (UN (by show A.units+1+1 < cLine;omega) i' aY yP hn jV λus p sp=>⟨_,rfl,?_⟩)<|args_list_sort _);obtain⟨e,he⟩:=sortedAll_at s.heap vs<|List.toArray<|us.map λx=>x.1;exact BW ⟨_,rfl,h _ e us p sp (λb u hb=>JK hb) he⟩
end
end bX
namespace L2
open PySem PySem.Spec PyProof.Rows bX
section
variable{X:Cx}{σ:St}{H:Hp}
theorem UP(hu:X.A.units+8 < cLine):fq X (.builtin "sorted") (λxs H Q=>∃(l:Addr) (ts:List Addr) (zs:List<|List Str),xs=[.ref l]/\ak X.K H l (ts.map V.ref)/\ts.length=zs.length/\zs.Nodup/\(∀(i:Nat) t z,ts[i]?=some t->zs[i]?=some z->H t=some (.lst<|z.map V.str)) /\
  ∀(r:Addr) (ps:List<|Addr×List Str),H r=none->ps.Perm (ts.zip zs)->ps.Pairwise (λa b=>aO a.2 b.2=true)->Q (.ref r) (upd H r<|.lst<|ps.map λp=> .ref p.1)):=by
 intro pins s σ H xs us Q I r h;obtain⟨l,ts,zs,rfl,hl,hlen,hn,hd,q⟩:=h;obtain⟨u,rfl,ru⟩:=vals1 r;cases (show u=Value.ref l from ru);obtain⟨its,rv,pl,jV⟩:=I.list hl;rw [Aa] at jV;have ei:=yQ rv;subst ei;have hh:d8 s.heap (ts.map Value.ref) zs:=by
  refine⟨by rw [Aa];exact hlen,λi v z h1 h2=>?_⟩;rw [Ad,Ap] at h1;obtain⟨t,ht,rfl⟩:=h1;obtain⟨its,r3,tp,_⟩:=I.list<|ak.of<|hd i t z ht h2;obtain⟨o,ho,hc,n,hd2⟩:=tp.isList;exact⟨t,o,_,n,rfl,ho,hc,hd2,Ul r3⟩
 refine UO hu pl.isList hh hn (by rw [Aa];exact jV) λh' e us p sp kp he=>?_;have ez:(ts.map Value.ref).zip zs=(ts.zip zs).map λx=>(Value.ref x.1,x.2):=by
  have:=List.zip_map (f:=Value.ref) (g:=id) (l₁:=ts) (l₂:=zs);rw [OD] at this;rw [this];rfl
 obtain⟨ps,p2,rfl⟩:=Ka (f:=λx:Addr×List Str=>(Value.ref x.1,x.2)) p (ts.zip zs) ez;have yS:ps.length=ts.length:=by rw [p2.length_eq,Di,<- hlen,JZ]
 rw [Be] at he;refine⟨.ref _,_,I.f9 (s':={s with heap:=h'}) kp rfl rfl (Ef _) (show ax X.prog X.w _ h' _ (.lst<|ps.map λx=>V.ref x.1) from ?_),rfl,q _ ps (I.aB.fresh<|Ef _) p2 ?_⟩
 ·refine⟨by rw [Aa,yS];exact jV,_,e,?_,he⟩;have:=yR<|ps.map λx=>x.1;rw [Be,Be] at this;exact this
 ·rw [Ep] at sp;exact sp
end
end L2
namespace Dt
open PySem bX
def b7:List Str->Nat->List Str
 | [],_=>[]
 | z :: zs,k=>if k % 2=1 then z :: b7 zs (k / 2) else b7 zs (k / 2)
abbrev c8:=Str×Nat×Nat
def TL:List Nat->List c8->List (List Str)
 | part,[]=>if part.all (λh=>h == part.headD 0)=true then [[]] else []
 | part,(z,x,y) :: es=>if part.getD x 0=part.getD y 0 then TL part es else(TL (az part x y) es).map (z :: ·)++TL part es
theorem Kc(f:Nat->Bool):∀ n,((List.range<|2 * n).filter f).Perm<|(((List.range n).filter λi=>f<|2 * i+1).map λi=>2 * i+1)++(((List.range n).filter λi=>f<|2 * i).map λi=>2 * i)
 | 0=>List.Perm.refl _
 | n+1=>by
  have ih:=Kc f n;rw [show 2 * (n+1)=2 * n+1+1 by omega,Ce,Ce,Ce];simp only [Ez,Ag];refine((ih.append_right _).append_right _).trans ?_;generalize ((List.range n).filter λi=>f<|2 * i+1).map (λi=>2 * i+1)=A;generalize ((List.range n).filter λi=>f<|2 * i).map (λi=>2 * i)=B;have e1:(List.filter f [2 * n])=(List.filter (λi=>f<|2 * i) [n]).map λi=>2 * i:=by
   simp only [Fu,NQ];cases f (2 * n) <;> rfl
  have e2:(List.filter f [2 * n+1])=(List.filter (λi=>f<|2 * i+1) [n]).map λi=>2 * i+1:=by
   simp only [Fu,NQ];cases f (2 * n+1) <;> rfl
  rw [e1,e2];generalize (List.filter (λi=>f<|2 * i) [n]).map (λi=>2 * i)=C;generalize (List.filter (λi=>f<|2 * i+1) [n]).map (λi=>2 * i+1)=D;rw [Aw,Aw,Aw,<- Aw B C D];exact List.perm_append_comm.append_left A
theorem a9:∀(es:List c8) (part:List Nat),(((List.range<|2 ^ es.length).filter (tr part (es.map (·.2)))).map (b7 (es.map (·.1)))).Perm<|TL part es
 | [],part=>by
  have:tr part [] 0=part.all λh=>h == part.headD 0:=rfl;show(((List.range 1).filter<|tr part []).map<|b7 []).Perm (if part.all (λh=>h == part.headD 0)=true then [[]] else []);cases h:part.all λh=>h == part.headD 0 with
  | true=>rw [h] at this;simp [Ce,this,b7]
  | false=>rw [h] at this;simp [Ce,this]
 | (z,x,y) :: es,part=>by
  rw [Ar,LK,QK];refine((Kc _ _).map _).trans ?_;have e1:(λi=>tr part (((z,x,y) :: es).map (·.2))<|2 * i)=tr part (es.map (·.2)):=by
   funext i
   show(if(2 * i) % 2=1 then _ else tr part (es.map (·.2)) (2 * i / 2))=_;rw [BJ (by omega),show 2 * i / 2=i by omega]
  have e2:(λi=>tr part (((z,x,y) :: es).map (·.2))<|2 * i+1)=λi=>if part.getD x 0=part.getD y 0 then false else tr (az part x y) (es.map (·.2)) i:=by
   funext i
   show(if(2 * i+1) % 2=1 then(if part.getD x 0=part.getD y 0 then false else tr (az part x y) (es.map (·.2)) ((2 * i+1) / 2)) else _)=_;rw [BK (by omega),show(2 * i+1) / 2=i by omega]
  rw [e1,e2,Ag,Be,Be];have n1:(b7 (((z,x,y) :: es).map (·.1)) ∘ λi=>2 * i)=b7 (es.map (·.1)):=by
   funext i
   show(if(2 * i) % 2=1 then z :: b7 (es.map (·.1)) (2 * i / 2) else b7 (es.map (·.1)) (2 * i / 2))=_;rw [BJ (by omega),show 2 * i / 2=i by omega]
  have n2:(b7 (((z,x,y) :: es).map (·.1)) ∘ λi=>2 * i+1)=(z :: ·) ∘ b7 (es.map (·.1)):=by
   funext i
   show(if(2 * i+1) % 2=1 then z :: b7 (es.map (·.1)) ((2 * i+1) / 2) else b7 (es.map (·.1)) ((2 * i+1) / 2))=z :: b7 (es.map (·.1)) i;rw [BK (by omega),show(2 * i+1) / 2=i by omega]
  rw [n1,n2];show List.Perm _ (if part.getD x 0=part.getD y 0 then TL part es else(TL (az part x y) es).map (z :: ·)++TL part es);have ih:=a9 es part
  by_cases h:part.getD x 0=part.getD y 0
  ·have e3:(List.range<|2 ^ es.length).filter (λi=>if part.getD x 0=part.getD y 0 then false else tr (az part x y) (es.map (·.2)) i)=[]:=List.filter_eq_nil_iff.mpr λa _=>by rw [BK h];decide
   rw [e3,BK h,Gb,Gq];exact ih
  ·have iP:=(a9 es<|az part x y).map (z :: ·);have e3:(λi=>if part.getD x 0=part.getD y 0 then false else tr (az part x y) (es.map (·.2)) i)=tr (az part x y) (es.map (·.2)):=funext λi=>BJ h;rw [e3,BJ h];rw [Be] at iP;exact iP.append ih
def gx(part C:List Nat):Prop:=C.Nodup/\∀ a,a∈C↔a∈part
theorem dE{part:List Nat}{x:Nat}(h:x < part.length):part.getD x 0∈part:=by
 rw [Bx,Ab h];exact By h
theorem gx.merge{part C:List Nat}{x y:Nat}(h:gx part C)(hx:x < part.length)(aY:part.getD x 0≠part.getD y 0):gx (az part x y) (C.erase<|part.getD y 0):=by
 refine⟨h.1.erase _,λa=>?_⟩;rw [h.1.mem_erase_iff,h.2];unfold az;rw [At]
 constructor
 ·rintro ⟨h1,h2⟩;exact⟨a,h2,BJ h1⟩
 ·rintro ⟨b,hb,e⟩
  by_cases c:b=part.getD y 0
  ·rw [BK c] at e;subst e;exact⟨aY,dE hx⟩
  ·rw [BJ c] at e;subst e;exact⟨c,hb⟩
theorem Kd:∀ part:List Nat,∃ C,gx part C
 | []=>⟨[],Dg,λ_=>Iff.rfl⟩
 | p :: ps=>by
  obtain⟨C,h1,h2⟩:=Kd ps
  by_cases c:p∈C
  ·refine⟨C,h1,λa=>?_⟩;rw [h2,Ax];exact⟨.inr,λq=>q.elim (λe=>e ▸ (h2 p).mp c) id⟩
  ·refine⟨p :: C,Cc.mpr ⟨c,h1⟩,λa=>?_⟩;rw [Ax,Ax,h2]
theorem cI(part:List Nat)(x y:Nat):(az part x y).length=part.length:=Aa _
theorem cz:∀(es:List c8) (part C:List Nat),part≠[]->(∀ e∈es,e.2.1 < part.length/\e.2.2 < part.length)->gx part C->∀ t∈TL part es,t.length+1=C.length
 | [],part,C,h0,_,hC,t,ht=>by
  have bR:t∈(if part.all (λh=>h == part.headD 0)=true then [[]] else []):=ht
  by_cases c:part.all (λh=>h == part.headD 0)=true
  ·rw [BK c,Af] at bR;subst bR;have all:∀ a∈C,a=part.headD 0:=λa ha=>by
    have:=Dd.mp c a<|(hC.2 a).mp ha;exact beq_iff_eq.mp this
   have hm:part.headD 0∈C:=(hC.2 _).mpr<|by
    cases part with
    | nil=>exact absurd rfl h0
    | cons p ps=>exact Ak
   match C,hC.1,all,hm with
   | [],_,_,hm=>cases hm
   | [c],_,_,_=>rfl
   | c :: d :: C,nd,all,_=>
    have e1:=all c Ak;have e2:=all d<|Aq _ Ak;exact absurd (by rw [e1,e2];exact Ak) (Cc.mp nd).1
  ·rw [BJ c] at bR;cases bR
 | (z,x,y) :: es,part,C,h0,aE,hC,t,ht=>by
  have bR:t∈(if part.getD x 0=part.getD y 0 then TL part es else(TL (az part x y) es).map (z :: ·)++TL part es):=ht;have bt:∀ e∈es,e.2.1 < part.length/\e.2.2 < part.length:=λe he=>aE e<|Aq _ he;obtain⟨lx,ly⟩:=aE _ Ak
  by_cases c:part.getD x 0=part.getD y 0
  ·rw [BK c] at bR;exact cz es part C h0 bt hC t bR
  ·rw [BJ c] at bR
   rcases Al.mp bR with q | q
   ·obtain⟨t',eF,rfl⟩:=At.mp q;have:=cz es (az part x y) (C.erase<|part.getD y 0) (λe=>h0<|Dv.mp e) (by rw [cI];exact bt) (hC.merge lx c) t' eF;rw [Db<|(hC.2 _).mpr<|dE ly] at this;have:0 < C.length:=Ey<|(hC.2 _).mpr<|dE ly;rw [Ar];omega
   ·exact cz es part C h0 bt hC t q
theorem bY:∀(es:List c8) (part:List Nat),∀ t∈TL part es,t.Sublist (es.map (·.1))
 | [],part,t,ht=>by
  have bR:t∈(if part.all (λh=>h == part.headD 0)=true then [[]] else []):=ht
  split at bR
  ·rw [Af] at bR;subst bR;exact List.Sublist.refl _
  ·cases bR
 | (z,x,y) :: es,part,t,ht=>by
  have bR:t∈(if part.getD x 0=part.getD y 0 then TL part es else(TL (az part x y) es).map (z :: ·)++TL part es):=ht
  by_cases c:part.getD x 0=part.getD y 0
  ·rw [BK c] at bR;exact(bY es part t bR).cons _
  ·rw [BJ c] at bR
   rcases Al.mp bR with q | q
   ·obtain⟨t',eF,rfl⟩:=At.mp q;exact(bY es _ t' eF).cons₂ z
   ·exact(bY es part t q).cons _
theorem oT:∀(es:List c8) (part:List Nat),part≠[]->(∀ e∈es,e.2.1 < part.length/\e.2.2 < part.length)->(es.map (·.1)).Pairwise (λa b=>a.cps.toList < b.cps.toList)->(TL part es).Pairwise λa b=>aO a b=true
 | [],part,_,_,_=>by
  show(if part.all (λh=>h == part.headD 0)=true then [[]] else []).Pairwise _
  split
  ·exact MJ _ _
  ·exact List.Pairwise.nil
 | (z,x,y) :: es,part,h0,aE,hs=>by
  have bt:∀ e∈es,e.2.1 < part.length/\e.2.2 < part.length:=λe he=>aE e<|Aq _ he;obtain⟨lx,ly⟩:=aE _ Ak;obtain⟨hz,dI⟩:=Cr.mp hs;show(if part.getD x 0=part.getD y 0 then TL part es else(TL (az part x y) es).map (z :: ·)++TL part es).Pairwise _
  by_cases c:part.getD x 0=part.getD y 0
  ·rw [BK c];exact oT es part h0 bt dI
  ·rw [BJ c,Ca];refine⟨?_,oT es part h0 bt dI,λa ha b hb=>?_⟩
   ·rw [Ep];refine(oT es (az part x y) (λe=>h0<|Dv.mp e) (by rw [cI];exact bt) dI).imp λ{a b} h=>?_;show(if z=z then aO a b else _)=true;rw [BK rfl];exact h
   ·obtain⟨a',_,rfl⟩:=At.mp ha;obtain⟨C,hC⟩:=Kd part;have hl:=cz es part _ h0 bt hC b hb;have h2:2<=C.length:=by
     have m1:=(hC.2 _).mpr<|dE lx;have m2:=(hC.2 _).mpr<|dE ly
     match C,m1,m2 with
     | [],m1,_=>cases m1
     | [q],m1,m2=>exact absurd ((Af.mp m1).trans (Af.mp m2).symm) c
     | _ :: _ :: _,_,_=>simp
    cases b with
    | nil=>simp at hl;omega
    | cons b0 b'=>
     have oP:b0∈es.map (·.1):=(bY es part _ hb).subset Ak;have lt:=hz b0 oP;show(if z=b0 then aO a' b' else decide (z.cps.toList < b0.cps.toList))=true;rw [BJ λe=>Dp _<|by rw [e] at lt;exact lt];exact CG lt
theorem m8{es:List c8}{part C:List Nat}(h0:part≠[])(aE:∀ e∈es,e.2.1 < part.length/\e.2.2 < part.length)(hs:(es.map (·.1)).Pairwise λa b=>a.cps.toList < b.cps.toList)(hC:gx part C)(hl:es.length+1=C.length)(aY:TL part es≠[]):TL part es=[es.map (·.1)]:=by
 have all:∀ t∈TL part es,t=es.map (·.1):=λt ht=>(bY es part t ht).eq_of_length<|by
  have:=cz es part C h0 aE hC t ht;rw [Aa];omega
 have sr:=oT es part h0 aE hs
 revert aY all sr
 generalize TL part es=T;intro aY all sr
 match T,aY,all,sr with
 | [],aY,_,_=>exact absurd rfl aY
 | [t],_,all,_=>rw [all t Ak]
 | a :: b :: r,_,all,sr=>
  have e1:=all a Ak;have e2:=all b<|Aq _ Ak;have:=(Cr.mp sr).1 b Ak;rw [e1,e2] at this;have q:=rM this;rw [this] at q;cases q
inductive Rc (ls:List<|Nat×Nat) (a:Nat):Nat->Prop where
 | here:Rc ls a a
 | step {b c:Nat}:Rc ls a b->(b,c)∈ls\/(c,b)∈ls->Rc ls a c
theorem Rc.trans{ls:List (Nat×Nat)}{a b c:Nat}(h:Rc ls a b)(k:Rc ls b c):Rc ls a c:=by
 induction k with
 | here=>exact h
 | step _ q ih=>exact .step ih q
theorem Rc.symm{ls:List (Nat×Nat)}{a b:Nat}(h:Rc ls a b):Rc ls b a:=by
 induction h with
 | here=>exact .here
 | step _ q ih=>exact(Rc.step .here q.symm).trans ih
theorem Rc.mono{ls se:List (Nat×Nat)}{a b:Nat}(h:Rc ls a b)(k:∀ e∈ls,Rc se e.1 e.2):Rc se a b:=by
 induction h with
 | here=>exact .here
 | step _ q ih=>exact ih.trans<|q.elim (λq=>k _ q) λq=>(k _ q).symm
theorem Rc.map{ls se:List (Nat×Nat)}{f:Nat->Nat}{a b:Nat}(h:Rc ls a b)(k:∀ e∈ls,Rc se (f e.1)<|f e.2):Rc se (f a) (f b):=by
 induction h with
 | here=>exact .here
 | step _ q ih=>exact ih.trans<|q.elim (λq=>k _ q) λq=>(k _ q).symm
def lb(part:List Nat)(es:List c8):List (Nat×Nat):=es.map λe=>(part.getD e.2.1 0,part.getD e.2.2 0)
def AR(part:List Nat)(es:List c8):Prop:=∀ c∈part,∀ d∈part,Rc (lb part es) c d
def eI(b a h:Nat):Nat:=if h=b then a else h
theorem AB{part:List Nat}{x y i:Nat}(h:i < part.length):(az part x y).getD i 0=eI (part.getD y 0) (part.getD x 0) (part.getD i 0):=by
 have e:part.getD i 0=part[i]:=by rw [Bx,Ab h,LC]
 rw [e];unfold az eI;rw [Bx,Ad,Ab h,Ff,LC]
theorem gy{part:List Nat}{es:List c8}{z:Str}{x y:Nat}(hx:x < part.length)(hy:y < part.length)(aE:∀ e∈es,e.2.1 < part.length/\e.2.2 < part.length):AR (az part x y) es↔AR part ((z,x,y) :: es):=by
 generalize ha:part.getD x 0=a;generalize hb:part.getD y 0=b;have eL:lb part ((z,x,y) :: es)=(a,b) :: lb part es:=by rw [<- ha,<- hb];rfl
 have eM:lb (az part x y) es=(lb part es).map λe=>(eI b a e.1,eI b a e.2):=by
  unfold lb;rw [Be];refine Bk λe he=>?_;obtain⟨q1,q2⟩:=aE e he;show((az part x y).getD e.2.1 0,(az part x y).getD e.2.2 0)=(eI b a<|part.getD e.2.1 0,eI b a<|part.getD e.2.2 0);rw [AB q1,AB q2,ha,hb]
 have rm:az part x y=part.map (eI b a):=by
  unfold az eI;rw [ha,hb]
 unfold AR;rw [eL,eM,rm];have vw:∀ h,Rc ((a,b) :: lb part es) h (eI b a h):=λh=>by
  unfold eI
  by_cases c:h=b
  ·rw [BK c,c];exact .step .here<|.inr Ak
  ·rw [BJ c];exact .here
 constructor
 ·intro h c hc d hd;have q:=h _ (At.mpr ⟨c,hc,rfl⟩) _<|At.mpr ⟨d,hd,rfl⟩;have q2:Rc ((a,b) :: lb part es) (eI b a c) (eI b a d):=q.mono λe he=>by
   obtain⟨e',sf,rfl⟩:=At.mp he;exact((vw e'.1).symm.trans<|.step .here<|.inl<|Aq _ sf).trans<|vw e'.2
  exact((vw c).trans q2).trans (vw d).symm
 ·intro h c' cX d' vM;obtain⟨c,hc,rfl⟩:=At.mp cX;obtain⟨d,hd,rfl⟩:=At.mp vM;refine(h c hc d hd).map λe he=>?_
  rcases Ax.mp he with rfl | he
  ·show Rc _ (eI b a a) (eI b a b);have e1:eI b a b=a:=BK rfl;have e2:eI b a a=a:=by unfold eI;split <;> rfl
   rw [e1,e2];exact .here
  ·exact .step .here<|.inl<|At.mpr ⟨e,he,rfl⟩
theorem bn:∀(es:List c8) (part:List Nat),part≠[]->(∀ e∈es,e.2.1 < part.length/\e.2.2 < part.length)->(TL part es≠[]↔AR part es)
 | [],part,h0,_=>by
  show(if part.all (λh=>h == part.headD 0)=true then [[]] else([]:List<|List Str))≠[]↔_;have no:∀ c d,Rc [] c d->c=d:=λc d h=>by
   induction h with
   | here=>rfl
   | step _ q ih=>rcases q with q | q <;> cases q
  have hm:part.headD 0∈part:=by
   cases part with
   | nil=>exact absurd rfl h0
   | cons p ps=>exact Ak
  constructor
  ·intro h c hc d hd;have ha:part.all (λh=>h == part.headD 0)=true:=CN λq=>h<|BJ q;have e1:=beq_iff_eq.mp<|Dd.mp ha c hc;have e2:=beq_iff_eq.mp<|Dd.mp ha d hd;rw [e1,e2];exact .here
  ·intro h;rw [BK<|Dd.mpr λc hc=>beq_iff_eq.mpr<|no _ _<|h c hc _ hm];exact List.cons_ne_nil _ _
 | (z,x,y) :: es,part,h0,aE=>by
  have bt:∀ e∈es,e.2.1 < part.length/\e.2.2 < part.length:=λe he=>aE e<|Aq _ he;obtain⟨lx,ly⟩:=aE _ Ak;have ih:=bn es part h0 bt;show(if part.getD x 0=part.getD y 0 then TL part es else(TL (az part x y) es).map (z :: ·)++TL part es)≠[]↔_;have up:AR part es->AR part ((z,x,y) :: es):=λh c hc d hd=>(h c hc d hd).mono λe he=> .step .here<|.inl<|Aq _ he
  by_cases c:part.getD x 0=part.getD y 0
  ·rw [BK c,ih];refine⟨up,λh a ha b hb=>(h a ha b hb).mono λe he=>?_⟩;have sf:e∈(part.getD x 0,part.getD y 0) :: lb part es:=he
   rcases Ax.mp sf with rfl | q
   ·show Rc _ (part.getD x 0) (part.getD y 0);rw [c];exact .here
   ·exact .step .here<|.inl q
  ·rw [BJ c];have iP:=bn es (az part x y) (λe=>h0<|Dv.mp e) (by rw [cI];exact bt);rw [gy (z:=z) lx ly bt] at iP;refine⟨λh=>?_,λh q=>iP.mpr h<|Dv.mp (Fa.mp q).1⟩
   by_cases d:TL part es=[]
   ·refine iP.mp λq=>h ?_;rw [q,d];rfl
   ·exact up<|ih.mp d
theorem kg{part:List Nat}{es:List c8}{z:Str}{x y:Nat}(hx:x < part.length)(hy:y < part.length)(h:AR part<|(z,x,y) :: es):AR part es↔Rc (lb part es) (part.getD x 0) (part.getD y 0):=by
 refine⟨λq=>q _ (dE hx) _<|dE hy,λq c hc d hd=>(h c hc d hd).mono λe he=>?_⟩;have sf:e∈(part.getD x 0,part.getD y 0) :: lb part es:=he
 rcases Ax.mp sf with rfl | p
 ·exact q
 ·exact .step .here<|.inl p
end Dt
namespace W6
open PySem L2 Nt a6
def AF(one other:Str)(x:Lk):Lk:=(x.1,if x.2.1=other then one else x.2.1,if x.2.2=other then one else x.2.2)
def sg:Sp:=λvs H Q _=>∃(L:Addr) (us:List Addr) (ls:List Lk) (one other:Str),vs=[.ref L,.str one,.str other]/\H L=some (.lst<|us.map V.ref)/\e8 H us ls/\ls.length<=60 /\
 ∀(D:Addr) (ws:List Addr) (H':Hp),ag H H'->H D=none->H' D=some (.lst<|ws.map V.ref)->e8 H' ws (ls.map<|AF one other)->Q (.ref D) H'
section
variable{P:Program}{w:World}{K:PySem.W.Frag}{mg:Str->Option Value}{base:Heap}
abbrev Ke:List Str:=["links","one","other"]
abbrev sh:List Str:=["links","one","other","tie","start","goal"]
theorem si:au Ke ["links","one","other"] (aV uj):=⟨rfl,rfl,rfl,by decide +kernel,rfl,by decide +kernel,by decide +kernel⟩
theorem AG:sh.Nodup:=by decide
theorem UQ{f:Addr}{fd:FuncData}(F:bz K "merged" "merged" uj f fd)(T:Txt mg):aC P w K mg base bp 1 f fd ["links","one","other"] sg:=by
 refine F.gb si (λvs H Q E h=>?_) λb0 H vs Q E hr h=>?_
 ·obtain⟨L,us,ls,one,other,rfl,_⟩:=h;rfl
 obtain⟨L,us,ls,one,other,rfl,eL,bW,Ud,q⟩:=h;have nd:=si.nd;have gO:=bW.1;show Run _ _ _ [some<|.ref L,some<|.str one,some<|.str other] H;refine cq<|jf (aV uj) Ke sh 3 (ja a5)<|af 0 ⟨L,rfl,⟨_,ak.of eL⟩,λD hD=>?_⟩;refine jR (xs:=us.map V.ref) (λi σ' H'=>(∃ v1 v2 v3,σ'=[some<|.ref L,some<|.str one,some<|.str other]++[v1,v2,v3])/\∃ ws:List Addr,ag H H'/\H' D=some (.lst<|ws.map V.ref)/\e8 H' ws ((ls.take i).map<|AF one other)) ⟨⟨_,_,_,rfl⟩,[],aQ hD _,ae,rfl,λj u x h=>by simp at h⟩ ?_ ?_ ?_
 ·rintro i σ' H' _ ⟨_,ws,sm,_⟩;exact ak.of<|sm _ _ eL
 ·rintro i x σ' H' hx ⟨⟨v1,v2,v3,rfl⟩,ws,sm,eD,cJ⟩;rw [Ad,Ap] at hx;obtain⟨u,cT,rfl⟩:=hx;have hi:i < ls.length:=by
   have:=(Ac.mp cT).1;omega
  have dR:=sm _ _<|bW.2 i u _ cT<|Ab hi;rw [Gg,Ab hi,Fc,Ag,Bq,Gb];have lw:ws.length<=i:=by
   have:=cJ.1;rw [Aa,Ay] at this;omega
  generalize ls[i]=lx at dR;obtain⟨ti,st,go⟩:=lx;intro cl C' s₀ H₀ ex;refine om rfl (aK.of dR) (aW 3 AG<|aW 4 AG<|aW 5 AG ?_);intro cl C' s₀ H₀ ex;refine fZ<|bf ?_;intro cl C' s₀ H₀ ex;refine dZ<|ao<|af 3<|ao<|EL<|dC fv<|af 4<|af 2 ⟨rfl,_,rfl,?_⟩
  by_cases c1:st=other
  case' pos=>
   rw [BK<|CG<|by rw [c1]];have h1:(if st=other then one else st)=one:=BK c1;refine af 1 ?_
  case' neg=>
   rw [BJ<|by simpa using c1];have h1:(if st=other then one else st)=st:=BJ c1;refine af 4 ?_
  all_goals
   refine ao<|EL<|dC fv<|af 5<|af 2 ⟨rfl,_,rfl,?_⟩
   by_cases c2:go=other
   case' pos=>
    rw [BK<|CG<|by rw [c2]];have h2:(if go=other then one else go)=one:=BK c2;refine af 1 ?_
   case' neg=>
    rw [BJ<|by simpa using c2];have h2:(if go=other then one else go)=go:=BJ c2;refine af 5 ?_
   all_goals
    refine aw ⟨Z3,λt bR=>?_⟩;have em:=BZ T3<|BZ (Prod.mk ti)<|congr (BZ Prod.mk h1) h2;have ou:t≠D:=λe=>by rw [e,eD] at bR;cases bR
    have sT:=λv=>aQ bR v;refine⟨_,sT _ _ _ eD,by rw [Aa];exact bQ (by omega),⟨_,_,_,rfl⟩,ws++[t],cL (sm.trans<|sT _) hD,?_,?_⟩
    ·rw [ae,Ag];rfl
    ·refine e8.snoc ⟨cJ.1,λj v y h1 h2=>?_⟩ ?_
     ·have vD:v≠D:=λe=>by
       have q:=cJ.2 j v y h1 h2;rw [e,eD] at q;cases q
      rw [av vD];exact sT _ _ _<|cJ.2 j v y h1 h2
     ·rw [av ou];exact ae.trans<|BZ some em.symm
 ·rintro σ' H2 ⟨_,ws,s2,eD,cJ⟩;rw [Aa,gO,Bi] at cJ;exact q D ws H2 s2 hD eD cJ
end
end W6
namespace Nt
open PySem L2 Dt
def cV(nm:Nat->Str)(part:List Nat)(es:List c8):List Lk:=es.map λe=>(e.1,nm<|part.getD e.2.1 0,nm<|part.getD e.2.2 0)
def Inj(nm:Nat->Str)(part:List Nat):Prop:=∀ a∈part,∀ b∈part,nm a=nm b->a=b
theorem Inj.merge{nm:Nat->Str}{part:List Nat}(h:Inj nm part){x y:Nat}(hx:x < part.length):Inj nm (az part x y):=by
 have sub:∀ a∈az part x y,a∈part:=λa ha=>by
  unfold az at ha;obtain⟨b,hb,rfl⟩:=At.mp ha
  by_cases c:b=part.getD y 0
  ·rw [BK c];exact dE hx
  ·rw [BJ c];exact hb
 exact λa ha b hb=>h a (sub a ha) b<|sub b hb
theorem UR{nm:Nat->Str}{part:List Nat}(h:Inj nm part){es:List c8}{x y:Nat}(hy:y < part.length)(aE:∀ e∈es,e.2.1 < part.length/\e.2.2 < part.length) :
  ((cV nm part es).map λz=>(z.1,if z.2.1=nm (part.getD y 0) then nm (part.getD x 0) else z.2.1,if z.2.2=nm (part.getD y 0) then nm (part.getD x 0) else z.2.2))=cV nm (az part x y) es:=by
 unfold cV;rw [Be];refine Bk λe he=>?_;obtain⟨q1,q2⟩:=aE e he;have one:∀ i,i < part.length->(if nm (part.getD i 0)=nm (part.getD y 0) then nm (part.getD x 0) else nm (part.getD i 0))=nm ((az part x y).getD i 0):=λi hi=>by
  rw [AB hi];unfold eI
  by_cases c:part.getD i 0=part.getD y 0
  ·rw [BK c,BK<|by rw [c]]
  ·rw [BJ c,BJ λz=>c<|h _ (dE hi) _ (dE hy) z]
 show(e.1,(if nm (part.getD e.2.1 0)=nm (part.getD y 0) then nm (part.getD x 0) else nm (part.getD e.2.1 0)),(if nm (part.getD e.2.2 0)=nm (part.getD y 0) then nm (part.getD x 0) else nm (part.getD e.2.2 0)))=_;rw [one _ q1,one _ q2]
def c9(ls:List Lk):List Bl:=ls.map λz=>(z.2.1,z.2.2,false)
theorem UT{nm:Nat->Str}{part:List Nat}(h:Inj nm part){es:List c8}(aE:∀ e∈es,e.2.1 < part.length/\e.2.2 < part.length){a b:Nat}(ha:a∈part)(hb:b∈part) :
  (∃ o,Way (c9<|cV nm part es) (nm a) (nm b) o)↔Rc (lb part es) a b:=by
 have mem:∀{X Y:Str} {o:Bool},(X,Y,o)∈c9 (cV nm part es)->∃ e∈es,X=nm (part.getD e.2.1 0)/\Y=nm (part.getD e.2.2 0):=λ{X Y o} q=>by
  unfold c9 cV at q;rw [Be] at q;obtain⟨e,he,q⟩:=At.mp q;obtain⟨q1,q2⟩:=Prod.mk.inj q;exact⟨e,he,q1.symm,(Prod.mk.inj q2).1.symm⟩
 have Kf:∀{c d:Nat},(c,d)∈lb part es->(nm c,nm d,false)∈c9 (cV nm part es)/\c∈part/\d∈part:=λ{c d} q=>by
  obtain⟨e,he,q⟩:=At.mp q;obtain⟨q1,q2⟩:=Prod.mk.inj q;obtain⟨l1,l2⟩:=aE e he;subst q1 q2;refine⟨?_,dE l1,dE l2⟩;unfold c9 cV;rw [Be];exact At.mpr ⟨e,he,rfl⟩
 constructor
 ·rintro ⟨o,w⟩;have key:∀{X:Str} {o:Bool},Way (c9<|cV nm part es) (nm a) X o->∃ c∈part,X=nm c/\Rc (lb part es) a c:=λ{X o} w=>by
   induction w with
   | here=>exact⟨a,ha,rfl,.here⟩
   | there _ q ih=>
    obtain⟨c,hc,e1,rc⟩:=ih;obtain⟨e,he,e2,e3⟩:=mem q;obtain⟨l1,l2⟩:=aE e he;have:c=part.getD e.2.1 0:=h _ hc _ (dE l1)<|e1.symm.trans e2;subst this;exact⟨_,dE l2,e3,.step rc<|.inl<|At.mpr ⟨e,he,rfl⟩⟩
   | back _ q ih=>
    obtain⟨c,hc,e1,rc⟩:=ih;obtain⟨e,he,e2,e3⟩:=mem q;obtain⟨l1,l2⟩:=aE e he;have:c=part.getD e.2.2 0:=h _ hc _ (dE l2)<|e1.symm.trans e3;subst this;exact⟨_,dE l1,e2,.step rc<|.inr<|At.mpr ⟨e,he,rfl⟩⟩
  obtain⟨c,hc,e,rc⟩:=key w;rw [h _ hb _ hc e];exact rc
 ·intro rc
  induction rc with
  | here=>exact⟨_,.here⟩
  | step _ q ih=>
   rcases q with q | q
   ·obtain⟨q1,q2,q3⟩:=Kf q;obtain⟨o,w⟩:=ih q2;exact⟨_,.there w q1⟩
   ·obtain⟨q1,q2,q3⟩:=Kf q;obtain⟨o,w⟩:=ih q3;exact⟨_,.back w q1⟩
end Nt
namespace W6
open PySem L2 Nt a6
open Dt (c8 TL AR gx az)
def bg(H:Hp)(ts:List Addr)(zs:List<|List Str):Prop:=ts.length=zs.length/\∀(j:Nat) t z,ts[j]?=some t->zs[j]?=some z->H t=some (Ls z)
theorem bg.snoc{H:Hp}{us:List Addr}{ls:List (List Str)}{u:Addr}{x:List Str}(h:bg H us ls)(hu:H u=some (Ls x)):bg H (us++[u]) (ls++[x]):=by
 refine⟨by rw [Ae,Ae,h.1];rfl,λj v y h1 h2=>?_⟩;have hl:=h.1
 by_cases hj:j < us.length
 ·rw [Bb hj] at h1;rw [Bb<|by omega] at h2;exact h.2 j v y h1 h2
 ·rw [Az<|by omega] at h1 h2;have dL:j - us.length=0:=by
   have:=(Ac.mp h1).1;simp at this;omega
  rw [dL] at h1;rw [<- hl,dL] at h2;cases h1;cases h2;exact hu
theorem bg.cat{H:Hp}{us vs:List Addr}{ls ms:List (List Str)}(h:bg H us ls)(k:bg H vs ms):bg H (us++vs) (ls++ms):=by
 refine⟨by rw [Ae,Ae,h.1,k.1],λj v y h1 h2=>?_⟩;have hl:=h.1
 by_cases hj:j < us.length
 ·rw [Bb hj] at h1;rw [Bb<|by omega] at h2;exact h.2 j v y h1 h2
 ·rw [Az<|by omega] at h1 h2;rw [<- hl] at h2;exact k.2 _ v y h1 h2
theorem bg.keep{H H':Hp}{us:List Addr}{ls:List (List Str)}(h:bg H us ls)(k:∀ t∈us,∀ o,H t=some o->H' t=some o):bg H' us ls:=⟨h.1,λj t z h1 h2=>k t (Au h1) _<|h.2 j t z h1 h2⟩
def fe(m:Nat):Sp:=λvs H Q _=>∃(L:Addr) (us:List Addr) (nm:Nat->Str) (part C:List Nat) (es:List c8) (k:Nat),vs=[.ref L,.int (k:Int)]/\H L=some (.lst<|us.map V.ref)/\e8 H us (cV nm part es)/\es.length<=m/\es.length<=9/\part≠[]/\Inj nm part /\
 (∀ e∈es,e.2.1 < part.length/\e.2.2 < part.length)/\(es.map (·.1)).Pairwise (λa b=>a.cps.toList < b.cps.toList)/\AR part es/\gx part C/\k+1=C.length /\
 ∀(D:Addr) (ts:List Addr) (H':Hp),ag H H'->H D=none->(∀ t∈ts,H t=none)->H' D=some (.lst<|ts.map V.ref)->bg H' ts (TL part es)->Q (.ref D) H'
section
variable{P:Program}{w:World}{K:PySem.W.Frag}{mg:Str->Option Value}{base:Heap}
abbrev vx:List Str:=["links","many","tie","one","other","rest","trees"]
abbrev sj:List Str:=["links","many","a1","a2","a3","rest","trees","tie","one","other"]
abbrev sk:List Str:=["links","many","tie","one","other","rest","trees","tree"]
abbrev sq:List Str:=["links","many","tie","one","other","rest","trees","each","start","goal"]
theorem su:au vx ["links","many"] (aV kE):=⟨rfl,rfl,rfl,by decide +kernel,rfl,by decide +kernel,by decide +kernel⟩
theorem AH:sq.Nodup:=by decide
theorem j6.snoc{H:Hp}{us:List Addr}{ls:List Bl}{u:Addr}{x:Bl}(h:j6 H us ls)(hu:H u=some (Jp x)):j6 H (us++[u]) (ls++[x]):=by
 refine⟨by rw [Ae,Ae,h.1];rfl,λj v y h1 h2=>?_⟩;have hl:=h.1
 by_cases hj:j < us.length
 ·rw [Bb hj] at h1;rw [Bb<|by omega] at h2;exact h.2 j v y h1 h2
 ·rw [Az<|by omega] at h1 h2;have dL:j - us.length=0:=by
   have:=(Ac.mp h1).1;simp at this;omega
  rw [dL] at h1;rw [<- hl,dL] at h2;cases h1;cases h2;exact hu
theorem UU:sk.Nodup:=by decide
theorem AI:sj.Nodup:=by decide
theorem AJ(u:Addr)(us:List Addr):bM ((u :: us).map V.ref) (some (1:Int)) none=us.map V.ref:=by
 unfold bM;rw [show(1:Int)=((1:Nat):Int) from rfl,HT.dc,HT.cF,Aa,Ar,Ed (by omega),Bq,List.drop_succ_cons,Gd,Ci<|by rw [Aa];omega]
theorem Kg{f:Addr}{fd:FuncData}{m c:Nat}(F:bz K "trees_by" "trees_by" kE f fd)(T:Txt mg)(hc:1<=c)(GM:aG P w K mg base 1 "merged" ["links","one","other"] sg)(GS:aG P w K mg base 1 "spread" ["first","links"] rJ)
  (GT:∀ m',m=m'+1->aG P w K mg base c "trees_by" ["links","many"] (fe m')):aC P w K mg base bp (c+1) f fd ["links","many"] (fe m):=by
 refine F.gb su (λvs H Q E h=>?_) λb0 H vs Q E hr h=>?_
 ·obtain⟨L,us,nm,part,C,es,k,rfl,_⟩:=h;rfl
 obtain⟨L,us,nm,part,C,es,k,rfl,eL,bW,hm,h9,h0,inj,aE,hs,ar,hC,hk,q⟩:=h;have nd:=su.nd;have gO:=bW.1;have ll:(cV nm part es).length=es.length:=Aa _;show Run _ _ _ [some<|.ref L,some<|.int k,none,none,none,none,none] H;refine d0<|dC fv<|b9 cZ T.len CW<|ao<|af 0<|aw ⟨L,_,rfl,.inl<|ak.of eL,?_⟩;refine af 1 ⟨rfl,_,rfl,?_⟩;rw [Aa,gO,ll]
 by_cases c1:es.length=k
 ·rw [BK<|CG<|by rw [c1]];have one:=Dt.m8 h0 aE hs hC (by omega)<|(Dt.bn es part h0 aE).mpr ar;refine cq<|dH<|ao<|jf (aV kE) vx sj 3 (ja a5)<|af 0 ⟨L,rfl,⟨_,ak.of eL⟩,λD hD=>?_⟩;refine jR (xs:=us.map V.ref) (λi σ' H'=>(∃ v1 v2 v3,σ'=[some<|.ref L,some<|.int k,none,none,none,none,none]++[v1,v2,v3])/\ag H H'/\H' D=some (Ls ((es.take i).map (·.1)))) ⟨⟨_,_,_,rfl⟩,aQ hD _,ae⟩ ?_ ?_ ?_
  ·rintro i σ' H' _ ⟨_,sm,_⟩;exact ak.of<|sm _ _ eL
  ·rintro i x σ' H' hx ⟨⟨v1,v2,v3,rfl⟩,sm,eD⟩;rw [Ad,Ap] at hx;obtain⟨u,cT,rfl⟩:=hx;have hi:i < es.length:=by
    have:=(Ac.mp cT).1;omega
   have dR:=sm _ _ (bW.2 i u _ cT<|by unfold cV;rw [Ad,Ab hi];rfl);rw [Gg,Ab hi,Fc,Ag,Bq,Gb];generalize es[i]=lx at dR;obtain⟨ti,st,go⟩:=lx;intro cl C' s₀ H₀ ex;refine om rfl (aK.of dR) (aW 7 AI<|aW 8 AI<|aW 9 AI ?_);intro cl C' s₀ H₀ ex;refine fZ<|bf ?_;intro cl C' s₀ H₀ ex;refine af 7 ⟨_,eD,by rw [Aa];exact bQ (by rw [Aa,Ay];omega),⟨_,_,_,rfl⟩,cL sm hD,?_⟩;rw [ae];show some (HO.lst _)=some (HO.lst _);rw [Ag];rfl
  ·rintro σ' H2 ⟨_,s2,eD⟩;rw [Aa,gO,ll,Bi] at eD;refine aw ⟨Z1,λM hM=>q M [D] _ (s2.trans<|aQ hM _) ?_ ?_ ae ?_⟩
   ·exact ag.free s2 hM
   ·intro t ht;rw [Af.mp ht];exact hD
   ·rw [one];refine⟨rfl,λj t z h1 h2=>?_⟩
    match j with
    | 0=>
     cases h1;cases h2;exact aQ hM _ _ _ eD
    | j+1=>simp at h1
 rw [BJ<|by simpa using λe:(es.length:Int)=k=>c1<|by omega];refine aP ?_;obtain⟨e0,a7,rfl⟩:∃ e a7,es=e :: a7:=by
  cases es with
  | cons e a7=>exact⟨e,a7,rfl⟩
  | nil=>
   exfalso
   obtain⟨t,ht⟩:=Eb _<|(Dt.bn [] part h0 aE).mpr ar;have h1:=Dt.cz [] part C h0 aE hC t ht;have h2:=(Dt.bY [] part t ht).length_le;rw [Aa] at h2;rw [Fg] at c1 h2;omega
 obtain⟨z,x,y⟩:=e0;obtain⟨u0,fm,rfl⟩:∃ u fm,us=u :: fm:=by
  cases us with
  | cons u fm=>exact⟨u,fm,rfl⟩
  | nil=>rw [ll] at gO;simp at gO
 obtain⟨lx,ly⟩:=aE _ Ak;have bt:∀ e∈a7,e.2.1 < part.length/\e.2.2 < part.length:=λe he=>aE e<|Aq _ he;have UW:H u0=some (T3 (z,nm<|part.getD x 0,nm<|part.getD y 0)):=bW.2 0 u0 _ rfl rfl;have sw:e8 H fm (cV nm part a7):=⟨Nat.succ.inj bW.1,λj v w h1 h2=>bW.2 (j+1) v w h1 h2⟩;have dI:=(Cr.mp hs).2;obtain⟨m',rfl⟩:∃ m',m=m'+1:=⟨m - 1,by rw [Ar] at hm;omega⟩;have AK:=GT m' rfl;have qZ:a7.length<=m':=by rw [Ar] at hm;omega
 have vy:a7.length<=9:=by rw [Ar] at h9;omega
 refine Og<|aS bx<|af 0<|ay ⟨L,_,_,.ref u0,rfl,rfl,ak.of eL,gF (j:=0) rfl,?_⟩;refine om rfl (aK.of UW) (aW 2 nd<|aW 3 nd<|aW 4 nd ?_);refine run_set 5 nd<|pT pJ<|af 0<|pV<|ay ⟨_,rfl,pU ⟨L,_,rfl,ak.of eL,λR hR=>?_⟩⟩;rw [AJ];have sR:=aQ hR<|.lst<|fm.map V.ref;have eR:(upd H R<|.lst<|fm.map V.ref) R=some (.lst<|fm.map V.ref):=ae;show Run _ _ _ [some<|.ref L,some<|.int k,some<|.str z,some<|.str<|nm<|part.getD x 0,some<|.str<|nm<|part.getD y 0,some<|.ref R,none] (upd H R<|.lst<|fm.map V.ref);generalize upd H R (.lst<|fm.map V.ref)=H1 at sR eR;have kh:e8 H1 fm (cV nm part a7):=sw.keep λt xs h=>sR _ _ h;refine d0<|dC fv<|af 3<|af 4 ⟨rfl,_,rfl,?_⟩
 by_cases c2:part.getD x 0=part.getD y 0
 ·rw [BK<|CG<|by rw [c2]];have eT:TL part ((z,x,y) :: a7)=TL part a7:=by
   show(if part.getD x 0=part.getD y 0 then _ else _)=_;rw [BK c2]
  have AO:AR part a7:=(Dt.bn a7 part h0 bt).mp (by rw [<- eT];exact(Dt.bn _ part h0 aE).mpr ar);refine cq<|bV AK (hr.mono ?_)<|ao<|af 5<|ao<|af 1<|aw ⟨R,fm,nm,part,C,a7,k,rfl,eR,kh,qZ,vy,h0,inj,bt,dI,AO,hC,hk,λD ts H2 s2 hD ht eD ls=>?_⟩
  ·omega
  ·exact q D ts H2 (sR.trans s2) (ag.free sR hD) (λt h=>ag.free sR<|ht t h) eD<|by rw [eT];exact ls
 have UX:nm (part.getD x 0)≠nm (part.getD y 0):=λe=>c2<|inj _ (Dt.dE lx) _ (Dt.dE ly) e;rw [BJ<|by simpa using UX];refine aP ?_;have jF:a7.length+1=((z,x,y) :: a7).length:=rfl;have UY:part.getD y 0∈C:=(hC.2 _).mpr<|Dt.dE ly;have ip:=hC.merge lx c2;have lC:(C.erase<|part.getD y 0).length=k:=by rw [Db UY];omega
 have UZ:part.getD x 0∈C.erase (part.getD y 0):=(ip.2 _).mpr<|by
  unfold Dt.az;exact At.mpr ⟨_,Dt.dE lx,BJ c2⟩
 have k1:1<=k:=by
  have:=Ey UZ;omega
 have ek:((k:Int) - 1)=((k - 1:Nat):Int):=by omega
 have U0:=(Dt.gy (z:=z) lx ly bt).mpr ar;have eT:TL part ((z,x,y) :: a7)=(TL (az part x y) a7).map (z :: ·)++TL part a7:=by
  show(if part.getD x 0=part.getD y 0 then _ else _)=_;rw [BJ c2]
 have cnt:∀(es:List c8) (part:List Nat),(TL part es).length<=2 ^ es.length:=λes part=>by
  rw [<- (Dt.a9 es part).length_eq,Aa];exact Bz (Dy _ _)<|Fr Bf
 have p9:∀{n:Nat},n<=9->2 ^ n<=512:=λ{n} h=>Gn (by decide) h;refine tS 6 (aV kE) vx sk 1 nd (ja a5) (bV AK (hr.mono<|Ah _)<|ao<|bV GM (hr.mono hc)<|ao<|af 5<|ao<|af 3<|ao<|af 4<|aw ⟨R,fm,_,_,_,rfl,eR,kh,by(show(a7.map _).length<=60;rw [Aa];omega),λD1 U1 H2 s2 Wh U2 sA=>?_⟩);have em:(cV nm part a7).map (AF (nm<|part.getD x 0)<|nm<|part.getD y 0)=cV nm (az part x y) a7:=UR inj ly bt;rw [em] at sA;refine ao<|aN wd<|af 1<|ay ⟨_,_,rfl,rfl,?_⟩;refine aw ⟨D1,U1,nm,az part x y,_,a7,k - 1,BZ (λi=>[V.ref D1,V.int i]) ek,U2,sA,qZ,vy,λe=>h0<|Dv.mp e,inj.merge lx,by rw [Dt.cI];exact bt,dI,U0,ip,by omega,λD2 ig H3 s3 js eF iq AQ=>?_⟩;have rh:ag H H3:=(sR.trans s2).trans s3;have U3:=AQ.1;have c3:=cnt a7<|az part x y;have c4:=p9 vy;refine⟨D2,rfl,⟨_,ak.of iq⟩,λD3 AT=>?_⟩;have m9:H D3=none:=ag.free rh AT;refine jR (xs:=ig.map V.ref) (λi σ' H'=>(∃ v1,σ'=[some<|.ref L,some<|.int k,some<|.str z,some<|.str<|nm<|part.getD x 0,some<|.str<|nm<|part.getD y 0,some<|.ref R,none]++[v1])/\∃ ws:List Addr,ag H3 H'/\(∀ t∈ws,H t=none/\t≠D3)/\H' D3=some (.lst<|ws.map V.ref)/\bg H' ws (((TL (az part x y) a7).take i).map (z :: ·))) ⟨⟨_,rfl⟩,[],aQ AT _,(λt h=>by cases h),ae,rfl,λj u x h=>by simp at h⟩ ?_ ?_ ?_
 ·rintro i σ' H' _ ⟨_,ws,sm,_⟩;exact ak.of<|sm _ _ iq
 ·rintro i v σ' H' hx ⟨⟨v1,rfl⟩,ws,sm,fr,sC,k5⟩;rw [Ad,Ap] at hx;obtain⟨u,cT,rfl⟩:=hx;have hi:i < (TL (az part x y) a7).length:=by
   have:=(Ac.mp cT).1;omega
  have dR:=sm _ _<|AQ.2 i u _ cT<|Ab hi;rw [Gg,Ab hi,Fc,Ag,Bq,Gb];have lw:ws.length<=i:=by
   have:=k5.1;rw [Aa,Ay] at this;omega
  have U4:((TL (az part x y) a7)[i]).length<=9:=by
   have:=(Dt.bY a7 (az part x y) _<|By hi).length_le;rw [Aa] at this;omega
  generalize (TL (az part x y) a7)[i]=tr at dR U4;intro cl C' s₀ H₀ ex;refine aW 7 UU ?_;intro cl C' s₀ H₀ ex;refine fZ<|bf ?_;intro cl C' s₀ H₀ ex;refine aN DV<|dH<|ao<|af 2<|aw ⟨Z1,λp1 iL=>?_⟩;refine af 7 ⟨p1,u,[.str z],tr.map V.str,rfl,rfl,ae,aQ iL _ _ _ dR,by(rw [Aa];exact Gs<|bQ<|by show 1+tr.length<=100000;omega),λp2 fC=>?_⟩;have s1:=aQ iL<|.lst [V.str z];have AU:=s1.trans<|aQ fC<|.lst<|[V.str z]++tr.map V.str;have n2:p2≠D3:=λe=>by rw [e] at fC;rw [s1 _ _ sC] at fC;cases fC
  refine⟨_,AU _ _ sC,by rw [Aa];exact bQ (by omega),⟨_,rfl⟩,ws++[p2],cL (sm.trans AU) AT,?_,?_,?_⟩
  ·intro t ht
   rcases Al.mp ht with q | q
   ·exact fr t q
   ·rw [Af.mp q];exact⟨ag.free (rh.trans<|sm.trans s1) fC,n2⟩
  ·rw [ae,Ag];rfl
  ·refine bg.snoc ⟨k5.1,λj v y h1 h2=>?_⟩ ?_
   ·rw [av (fr v<|Au h1).2];exact AU _ _<|k5.2 j v y h1 h2
   ·rw [av n2];exact ae
 ·rintro σ' H4 ⟨_,ws,s4,fr,sC,k5⟩;rw [Aa,U3,Bi] at k5;have uw:ag H H4:=rh.trans s4;have vA:ag H1 H4:=(s2.trans s3).trans s4;show Run _ _ _ [some<|.ref L,some<|.int k,some<|.str z,some<|.str<|nm<|part.getD x 0,some<|.str<|nm<|part.getD y 0,some<|.ref R,some<|.ref D3] H4;have AV:e8 H4 fm (cV nm part a7):=kh.keep λt xs h=>vA _ _ h;refine d0<|tZ hr.u1<|af 4<|bV GS (hr.mono hc)<|ao<|af 3<|ao<|jf (aV kE) vx sq 3 (ja a5)<|af 5 ⟨R,rfl,⟨_,ak.of<|vA _ _ eR⟩,λD5 Kh=>?_⟩;have U5:=vA _ _ eR;have Wi:(cV nm part a7).length=a7.length:=Aa _;have AW:=sw.1;refine jR (xs:=fm.map V.ref) (λi σ' H'=>(∃ v1 v2 v3,σ'=[some<|.ref L,some<|.int k,some<|.str z,some<|.str<|nm<|part.getD x 0,some<|.str<|nm<|part.getD y 0,some<|.ref R,some<|.ref D3]++[v1,v2,v3])/\∃ ws:List Addr,ag H4 H'/\H' D5=some (.lst<|ws.map V.ref)/\j6 H' ws (c9<|(cV nm part a7).take i)) ⟨⟨_,_,_,rfl⟩,[],aQ Kh _,ae,rfl,λj u x h=>by simp at h⟩ ?_ ?_ ?_
  ·rintro i σ' H' _ ⟨_,ws,sm,_⟩;exact ak.of<|sm _ _ U5
  ·rintro i x' σ' H' hx ⟨⟨v1,v2,v3,rfl⟩,vB,sm,sD,cJ⟩;rw [Ad,Ap] at hx;obtain⟨u,cT,rfl⟩:=hx;have hi:i < (cV nm part a7).length:=by
    have:=(Ac.mp cT).1;omega
   have dR:=sm _ _<|AV.2 i u _ cT<|Ab hi;have U6:c9 ((cV nm part a7).take<|i+1)=c9 ((cV nm part a7).take i)++[((cV nm part a7)[i].2.1,(cV nm part a7)[i].2.2,false)]:=by
    unfold c9;rw [Gg,Ab hi,Fc,Ag];rfl
   rw [U6];have lw:vB.length<=i:=by
    have:=cJ.1;unfold c9 at this;rw [Aa,Ay] at this;omega
   generalize (cV nm part a7)[i]=lx at dR;obtain⟨ti,on,ot⟩:=lx;intro cl C' s₀ H₀ ex;refine om rfl (aK.of dR) (aW 7 AH<|aW 8 AH<|aW 9 AH ?_);intro cl C' s₀ H₀ ex;refine fZ<|bf ?_;intro cl C' s₀ H₀ ex;refine dZ<|ao<|af 8<|ao<|af 9<|ao<|pS<|aw ⟨Z3,λt bR=>?_⟩;have ou:t≠D5:=λe=>by rw [e,sD] at bR;cases bR
   have sT:=aQ bR<|.tup [.str on,.str ot,.bl false];refine⟨_,sT _ _ sD,by rw [Aa];exact bQ (by omega),⟨_,_,_,rfl⟩,vB++[t],cL (sm.trans sT) Kh,?_,?_⟩
   ·rw [ae,Ag];rfl
   ·refine j6.snoc ⟨cJ.1,λj v y h1 h2=>?_⟩ ?_
    ·have e:=sT _ _<|cJ.2 j v y h1 h2;rw [av<|en e (sT _ _ sD) λz=>nomatch z];exact e
    ·rw [av ou];exact ae
  ·rintro σ' H5 ⟨_,vB,s5,sD,cJ⟩;rw [Aa,AW,Bi] at cJ;refine aw ⟨_,D5,vB,_,rfl,sD,cJ,by(unfold c9;rw [Aa];omega),λd kvs H6 s6 hd ed I=>?_⟩;refine⟨d,_,rfl,bO.k (k:=Sum.inr<|nm<|part.getD y 0) ed,?_⟩;have tQ:(aA kvs<|Sum.inr<|nm<|part.getD y 0).isSome=true↔AR part a7:=by
    rw [Dt.kg (z:=z) lx ly ar,<- UT inj bt (Dt.dE lx)<|Dt.dE ly]
    constructor
    ·intro h;obtain⟨v,hv⟩:=Do.mp h;obtain⟨b,_,w⟩:=I.val _ v hv;exact⟨b,w⟩
    ·rintro ⟨o,w⟩;obtain⟨b,hb⟩:=I.whole _ _ w;rw [hb];rfl
   have fk:ag H4 H6:=s5.trans s6;refine iE (λc5=>?_) λc5=>?_
   ·have AO:=tQ.mp c5;have AX:=fk _ _ sC;have Ki:ag H1 H6:=vA.trans fk;have c6:=cnt a7 part;have lw:=k5.1;rw [Aa] at lw;refine fD<|nW CQ PySem.F.slot_list_extend PySem.F.type_list_extend M9<|af 6 (v:= .ref D3) ⟨Or.inl ⟨rfl,_,ak.of AX⟩,bV AK (hr.mono<|Ah _)<|ao<|af 5<|ao<|af 1<|aw ⟨R,fm,nm,part,C,a7,k,rfl,Ki _ _ eR,kh.keep λt xs h=>Ki _ _ h,qZ,vy,h0,inj,bt,dI,AO,hC,hk,λD7 AY H7 s7 Wj Kj oU Kk=>?_⟩⟩;have l7:=Kk.1;have n7:∀ t∈AY,t≠D3:=λt ht e=>by
     have:=Kj t ht;rw [e,AX] at this;cases this
    refine⟨D3,D7,ws.map V.ref,AY.map V.ref,rfl,rfl,s7 _ _ AX,oU,Gs (bQ<|by rw [Aa,Aa];omega),?_⟩;refine aP<|cq<|af 6<|q D3 (ws++AY) _ (cL (uw.trans<|fk.trans s7) m9) m9 (λt h=>?_) (by rw [ae,Ag]) ?_
    ·rcases Al.mp h with h | h
     ·exact(fr t h).1
     ·exact ag.free (uw.trans fk)<|Kj t h
    ·rw [eT];refine bg.cat (k5.keep λt ht o h=>?_)<|Kk.keep λt ht o h=>?_
     ·rw [av (fr t ht).2];exact s7 _ _<|fk _ _ h
     ·rw [av<|n7 t ht];exact h
   ·have e0:TL part a7=[]:=CN λh=>c5<|tQ.mpr<|(Dt.bn a7 part h0 bt).mp h;refine aP<|cq<|af 6<|q D3 ws H6 (uw.trans fk) m9 (λt h=>(fr t h).1) (fk _ _ sC) ?_;rw [eT,e0,Bc];exact k5.keep λt _ o h=>fk _ _ h
end
end W6
namespace Dt
open PySem bX
def pc:Nat->Nat->Nat
 | 0,_=>0
 | n+1,k=>k % 2+pc n (k / 2)
theorem iZ:∀ n k,pc n k<=n
 | 0,_=>Ah _
 | n+1,k=>by
  have:=iZ n<|k / 2;show k % 2+pc n (k / 2)<=n+1;omega
theorem eh:∀(zs:List Str) (k:Nat),(b7 zs k).length=pc zs.length k
 | [],_=>rfl
 | z :: zs,k=>by
  have ih:=eh zs<|k / 2;show(if k % 2=1 then z :: b7 zs (k / 2) else b7 zs (k / 2)).length=k % 2+pc zs.length (k / 2)
  by_cases c:k % 2=1
  ·rw [BK c,Ar,ih];omega
  ·rw [BJ c,ih];omega
theorem U7:∀ n,n<=9->∀ c,c<=10->(List.range<|2 ^ n).countP (λi=>pc n i+1 == c)<=126:=by decide +kernel
theorem nc{es:List c8}{part C:List Nat}(h0:part≠[])(aE:∀ e∈es,e.2.1 < part.length/\e.2.2 < part.length)(hC:gx part C)(h9:es.length<=9):(TL part es).length<=126:=by
 rw [<- (a9 es part).length_eq,Aa,<- JB];have key:∀ i∈List.range (2 ^ es.length),tr part (es.map (·.2)) i=true->pc es.length i+1=C.length:=λi hi ht=>by
  have m:b7 (es.map (·.1)) i∈TL part es:=(a9 es part).mem_iff.mp<|At.mpr ⟨i,Du.mpr ⟨hi,ht⟩,rfl⟩;have:=cz es part C h0 aE hC _ m;rw [eh,Aa] at this;exact this
 by_cases c:C.length<=10
 ·exact Bz (List.countP_mono_left λi hi ht=>by rw [beq_iff_eq];exact key i hi ht)<|U7 es.length h9 C.length c
 ·have z:(List.range<|2 ^ es.length).countP (tr part (es.map (·.2)))=0:=List.countP_eq_zero.mpr λi hi ht=>by
   have:=key i hi ht;have:=iZ es.length i;omega
  rw [z];exact Br _
end Dt
namespace W6
open PySem L2 Nt a6
open Dt (c8 TL AR gx az)
noncomputable def cA(n:Net)(ss:List Str):List c8:=ss.map λz=>(z,dw n z)
theorem Kl{V i:Nat}(h:i < V):(List.range V).getD i 0=i:=by rw [Bx,Ct h];rfl
theorem ls_eq{n:Net}(T:cv n){ls:List Lk}(so:ow ls)(mem:∀ x,x∈ls↔iJ n x){ss:List Str}(hs:aZ ss)(hm:∀ z,z∈ss↔z∈ah n):ls=cV (bv n) (List.range n.length) (cA n ss):=by
 have e:ls.map (·.1)=ss:=by
  refine qi (List.Pairwise.map (λx:Lk=>x.1) (R:=λx y:Lk=>x.1.cps.toList < y.1.cps.toList) (λx y h=>h) so) hs λz=>?_;rw [hm,At]
  constructor
  ·rintro ⟨x,hx,rfl⟩;exact zu<|(mem x).mp hx
  ·intro hz;obtain⟨a,b,hp⟩:=ve T hz;exact⟨(z,bv n a.1,bv n b.1),(mem _).mpr ⟨a,b,hp,rfl,rfl⟩,rfl⟩
 unfold cV cA;rw [Be,<- e,Be];refine(OD ls).symm.trans<|Bk λx hx=>?_;obtain⟨a,b,hp,h1,h2⟩:=(mem x).mp hx;have la:=(jq (n:=n) (z:=x.1) (e:=a)<|by rw [hp];simp).1;have lb:=(jq (n:=n) (z:=x.1) (e:=b)<|by rw [hp];simp).1;show x=(x.1,bv n<|(List.range n.length).getD (dw n x.1).1 0,bv n<|(List.range n.length).getD (dw n x.1).2 0);rw [vd hp,Kl la,Kl lb,<- h1,<- h2]
theorem AZ(n:Net)(ss:List Str):(cA n ss).map (·.1)=ss:=by
 unfold cA;rw [Be];exact OD _
theorem Km(n:Net)(ss:List Str):(cA n ss).map (·.2)=ss.map (dw n):=by
 unfold cA;rw [Be];rfl
theorem U8{n:Net}(dv:0 < n.length){ss:List Str}(aE:∀ e∈ss.map (dw n),e.1 < n.length/\e.2 < n.length):(((TL (List.range n.length)<|cA n ss).length:Nat):Int)=Dt.De ((List.range<|n.length - 1).map (·+1)) (ss.map<|dw n):=by
 rw [<- (Dt.a9 (cA n ss)<|List.range n.length).length_eq,Aa,Km];have:=Dt.iQ (ss.map<|dw n)<|List.range n.length;rw [Aa] at this;have el:(cA n ss).length=ss.length:=Aa _;rw [el,this];exact Dt.mU dv aE
def sE:Sp:=λvs H Q _=>∃(R:Addr) (as:List<|Addr×Addr) (n:Net) (ss:List Str),vs=[.ref R]/\aj H R as n/\cv n/\(n.map (·.1)).Nodup/\n≠[]/\n.length<=60/\(ah n).length<=18/\cG n/\aZ ss/\(∀ z,z∈ss↔z∈ah n) /\
 ∀(D:Addr) (ts:List Addr) (H':Hp),ag H H'->H D=none->(∀ t∈ts,H t=none)->H' D=some (.lst<|ts.map V.ref)->bg H' ts (TL (List.range n.length)<|cA n ss)->Q (.ref D) H'
section
variable{P:Program}{w:World}{K:PySem.W.Frag}{mg:Str->Option Value}{base:Heap}
abbrev U9:List Str:=["rows"]
theorem sG:au U9 ["rows"] (aV ui):=⟨rfl,rfl,rfl,by decide +kernel,rfl,by decide +kernel,by decide +kernel⟩
theorem U'{f:Addr}{fd:FuncData}{c:Nat}(F:bz K "trees_of" "trees_of" ui f fd)(T:Txt mg)(hc:3<=c)(GC:aG P w K mg base 3 "tree_count" ["rows"] uT)(GL:aG P w K mg base 1 "links_of" ["rows"] qH)(GT:aG P w K mg base c "trees_by" ["links","many"]<|fe 9):aC P w K mg base bp (c+1) f fd ["rows"] sE:=by
 refine F.gb sG (λvs H Q E h=>?_) λb0 H vs Q E hr h=>?_
 ·obtain⟨R,as,n,ss,rfl,_⟩:=h;rfl
 obtain⟨R,as,n,ss,rfl,hR,hT,hN,h0,hn,kQ,hH,cN,mem,q⟩:=h;have nd:=sG.nd;have cC:=hR.len;have dv:0 < n.length:=Cg.mpr h0;have ssl:2 * ss.length<=18:=by
  have:=qY hT (yp cN) λz hz=>(mem z).mp hz;omega
 have aE:∀ e∈ss.map (dw n),e.1 < n.length/\e.2 < n.length:=λe he=>by
  obtain⟨z,hz,rfl⟩:=At.mp he;exact vf hT<|(mem z).mp hz
 have gT:∀ e∈cA n ss,e.2.1 < (List.range n.length).length/\e.2.2 < (List.range n.length).length:=λe he=>by
  obtain⟨z,hz,rfl⟩:=At.mp he;rw [Bf];exact vf hT<|(mem z).mp hz
 have r0:List.range n.length≠[]:=λe=>by
  have:=BZ List.length e;rw [Bf,Fg] at this;omega
 have hC:gx (List.range n.length) (List.range n.length):=⟨KQ,λ_=>Iff.rfl⟩;have A0:(cA n ss).length<=9:=by
  show(ss.map _).length<=9;rw [Aa];omega
 have few:=Dt.nc r0 gT hC A0;have cnt:=U8 dv aE;obtain⟨um,hm,rm⟩:=T.most;show Run _ _ _ [some<|.ref R] H;refine d0 (dC C6<|bV GC (hr.mono hc)<|ao<|af 0<|aw ⟨R,as,n,rfl,hR,hT,hN,h0,hn,by omega,hH,λls H1 s1 so lm=>Ob hm rm ⟨_,_,rfl,rfl,_,rfl,?_⟩⟩);have pos:0 < Dt.De ((List.range<|n.length - 1).map (·+1)) (cu n ls):=Dt.fH _ _ rfl (bI<|n.length - 1) (cu n ls) (IH hT hN hH h0 lm);have el:=Ts hT hN so lm cN mem;rw [el] at pos ⊢;rw [<- cnt] at pos ⊢;rw [BX<|by omega];refine bN<|aP ?_;have aY:TL (List.range n.length) (cA n ss)≠[]:=λe=>by rw [e] at pos;simp at pos
 have ar:=(Dt.bn _ _ r0 gT).mp aY;have inj:Inj (bv n) (List.range n.length):=λa ha b hb e=>by
  have:=BZ (rn n) e;rw [jo hN<|Cw.mp ha,jo hN<|Cw.mp hb] at this;exact this
 refine cq (bV GT (hr.mono<|Ah _)<|ao<|bV GL (hr.mono<|by omega)<|ao<|af 0<|aw ⟨R,as,n,rfl,hR.same s1,hT,by omega,by omega,λL us AQ H2 s2 n2 eL bW xC fG hlen=>?_⟩);rw [ls_eq hT xC fG cN mem] at bW;refine ao<|aN wd<|b9 cZ T.len CW<|ao<|af 0<|aw ⟨R,_,rfl,.inl<|ak.of<|s2 _ _<|s1 _ _ hR.lst,ay ⟨_,_,rfl,rfl,?_⟩⟩;refine aw ⟨L,us,bv n,List.range n.length,List.range n.length,cA n ss,n.length - 1,?_,eL,bW,A0,A0,r0,inj,gT,by rw [AZ];exact cN,ar,hC,by rw [Bf];omega,λD ts H3 s3 hD ht eD Va=>?_⟩
 ·rw [Aa,cC];have:((n.length:Int) - 1)=((n.length - 1:Nat):Int):=by omega
  exact BZ (λi=>[V.ref L,V.int i]) this
 ·exact q D ts H3 ((s1.trans s2).trans s3) (ag.free (s1.trans s2) hD) (λt h=>ag.free (s1.trans s2)<|ht t h) eD Va
end
end W6
namespace Dt
open PySem bX
theorem Kn:∀(zs:List Str) (z:Str) (m:Nat),b7 (zs++[z]) m=b7 zs m++if(m / 2 ^ zs.length) % 2=1 then [z] else []
 | [],z,m=>by
  show(if m % 2=1 then z :: b7 [] (m / 2) else b7 [] (m / 2))=[]++if(m / 2 ^ 0) % 2=1 then [z] else [];rw [Nat.pow_zero,Nat.div_one,Gq];rfl
 | y :: zs,z,m=>by
  have ih:=Kn zs z<|m / 2;have e:m / 2 / 2 ^ zs.length=m / 2 ^ (zs.length+1):=by rw [OJ,LK,QK]
  show(if m % 2=1 then y :: b7 (zs++[z]) (m / 2) else b7 (zs++[z]) (m / 2))=(if m % 2=1 then y :: b7 zs (m / 2) else b7 zs (m / 2))++if(m / 2 ^ (zs.length+1)) % 2=1 then [z] else [];rw [ih,e]
  by_cases c:m % 2=1
  ·rw [BK c,BK c];rfl
  ·rw [BJ c,BJ c]
theorem i0{zs:List Str}{i:Nat}(h:i < zs.length)(m:Nat):b7 (zs.take<|i+1) m=b7 (zs.take i) m++if(m / 2 ^ i) % 2=1 then [zs[i]] else []:=by
 rw [Gg,Ab h,Fc,Kn,Ay,Ed<|by omega]
theorem gU{es:List c8}{part:List Nat}(h0:part≠[])(aE:∀ e∈es,e.2.1 < part.length/\e.2.2 < part.length)(hs:(es.map (·.1)).Pairwise λa b=>a.cps.toList < b.cps.toList){ms:List (List Str)}
  (p:ms.Perm (((List.range<|2 ^ es.length).filter (tr part (es.map (·.2)))).map (b7 (es.map (·.1))))) (q:ms.Pairwise λa b=>aO a b=true):ms=TL part es:=
 L2.j8 q (oT es part h0 aE hs) (p.trans<|a9 es part)
theorem i6{es:List c8}{part:List Nat}(h0:part≠[])(aE:∀ e∈es,e.2.1 < part.length/\e.2.2 < part.length)(hs:(es.map (·.1)).Pairwise λa b=>a.cps.toList < b.cps.toList):(((List.range<|2 ^ es.length).filter (tr part (es.map (·.2)))).map (b7 (es.map (·.1)))).Nodup:=
 (a9 es part).nodup_iff.mpr ((oT es part h0 aE hs).imp λ{a b} h e => by
  subst e;have q:=rM h;rw [h] at q;cases q)
end Dt
namespace W6
open PySem L2 Nt a6
open PyProof.Rows (sortedS)
open Dt (c8 TL AR gx az)
noncomputable def seen(n:Net)(ss:List Str)(i:Nat):List (List Str):=((List.range i).filter<|Dt.tr (List.range n.length)<|ss.map<|dw n).map<|Dt.b7 ss
theorem Vb(n:Net)(ss:List Str)(i:Nat):seen n ss (i+1)=seen n ss i++if Dt.tr (List.range n.length) (ss.map<|dw n) i=true then [Dt.b7 ss i] else []:=by
 unfold seen;rw [Ce,Ez,Ag]
 congr 1
 cases h:Dt.tr (List.range n.length) (ss.map<|dw n) i <;> simp [h]
theorem Vc{zs:List Str}{i:Nat}{z:Str}(h:zs[i]?=some z):di (zs.map V.str) (i:Int)=some (.str z):=gF<|by rw [Ad,h];rfl
def vC:Sp:=λvs H Q _=>∃(R:Addr) (as:List<|Addr×Addr) (n:Net) (ss:List Str),vs=[.ref R]/\aj H R as n/\cv n/\n≠[]/\n.length<=60/\(ah n).length<=18/\aZ ss/\(∀ z,z∈ss↔z∈ah n) /\
 ∀(D:Addr) (ts:List Addr) (H':Hp),ag H H'->H' D=some (.lst<|ts.map V.ref)->bg H' ts (TL (List.range n.length)<|cA n ss)->Q (.ref D) H'
section
variable{P:Program}{w:World}{K:PySem.W.Frag}{mg:Str->Option Value}{base:Heap}
abbrev Ko:List Str:=["_law_rows","_law_pairs","_law_names_here","_law_found","_law_mask"]
abbrev sI:List Str:=["_law_rows","_law_pairs","_law_names_here","_law_found","_law_mask","_law_k"]
theorem sJ:au Ko ["_law_rows"] (aV uq):=⟨rfl,rfl,rfl,by decide +kernel,rfl,by decide +kernel,by decide +kernel⟩
theorem Vd:sI.Nodup:=by decide
theorem Ve{f:Addr}{fd:FuncData}(F:bz K "_law_due" "_law_due" uq f fd)(T:Txt mg)(GE:aG P w K mg base 2 "_law_ends" ["_law_rows"] zO)(GN:aG P w K mg base 1 "_law_ties" ["_law_rows"] j5)(GT:aG P w K mg base 1 "_law_is_tree" ["_law_many","_law_pairs","_law_mask"] zP):aC P w K mg base bp 3 f fd ["_law_rows"] vC:=by
 refine F.gb sJ (λvs H Q E h=>?_) λb0 H vs Q E hr h=>?_
 ·obtain⟨R,as,n,ss,rfl,_⟩:=h;rfl
 obtain⟨R,as,n,ss,rfl,hR,hT,h0,hn,kQ,cN,mem,q⟩:=h;have nd:=sJ.nd;have cC:=hR.len;have dv:0 < n.length:=Cg.mpr h0;have Vf:=JG (Nat.add_le_add_left (by decide:8<=100) _) hr.d5;have ssl:2 * ss.length<=18:=by
  have:=qY hT (yp cN) λz hz=>(mem z).mp hz;omega
 have aE:∀ e∈ss.map (dw n),e.1 < n.length/\e.2 < n.length:=λe he=>by
  obtain⟨z,hz,rfl⟩:=At.mp he;exact vf hT<|(mem z).mp hz
 have gT:∀ e∈cA n ss,e.2.1 < (List.range n.length).length/\e.2.2 < (List.range n.length).length:=λe he=>by
  obtain⟨z,hz,rfl⟩:=At.mp he;rw [Bf];exact vf hT<|(mem z).mp hz
 have r0:List.range n.length≠[]:=λe=>by
  have:=BZ List.length e;rw [Bf,Fg] at this;omega
 show Run _ _ _ [some<|.ref R,none,none,none,none] H;refine run_set 1 nd (bV GE (hr.mono<|by omega)<|ao<|af 0<|aw ⟨R,as,n,rfl,hR,hT,by omega,by omega,λL us Kp H1 s1 A1 A2 hP=>?_⟩);have e1:Kp=ss:=qi A1 cN λz=>(A2 z).trans (mem z).symm;subst e1;have gO:=hP.len;rw [Aa] at gO;refine run_set 2 nd<|bV GN (hr.mono<|by omega)<|ao<|af 0<|aw ⟨R,as,n,rfl,hR.same s1,by omega,by omega,λzs hz hm=>?_,λN cD H2 s2 hN eN Vg vq A3=>?_⟩
 ·have:=qY hT hz hm;omega
 have e2:cD=Kp:=qi (yo vq Vg) cN λz=>(A3 z).trans (mem z).symm;subst e2;refine run_set 3 nd<|dH<|aw ⟨Z0,λB hB=>?_⟩;have sB:=aQ hB<|.lst [];have eB:(upd H2 B<|.lst []) B=some (.lst []):=ae;have Vh:H2 B=none:=hB;show Run _ _ _ [some<|.ref R,some<|.ref L,some<|.ref N,some<|.ref B,none] (upd H2 B<|.lst []);generalize upd H2 B (.lst [])=H3 at sB eB;have pw:∀ k,k<=10->(2:Int) ^ k < 2 ^ 62:=by decide
 refine hZ T.range<|aN Mb<|ay<|b9 cZ T.len CW<|ao<|af 1<|aw ⟨L,_,rfl,.inl<|ak.of<|sB _ _<|s2 _ _ hP.lst,?_⟩;rw [Aa,gO];refine⟨_,_,rfl,rfl,⟨by omega,by omega,by decide⟩,(2:Int) ^ cD.length,?_,?_,pw _ (by omega),?_⟩
 ·show V.int (1 * 2 ^ ((cD.length:Int)).toNat)=_;rw [Bh,Int.one_mul]
 ·have:(0:Int)<=2 ^ cD.length:=Int.pow_nonneg (by decide);omega
 have tn:((2:Int) ^ cD.length).toNat=2 ^ cD.length:=by
  have:(2:Int) ^ cD.length=((2 ^ cD.length:Nat):Int):=by rw [Int.natCast_pow];rfl
  rw [this,Bh]
 rw [tn];have Wk:gN H3 L us (cD.map<|dw n):=(hP.same s2).same sB;refine ic (λi σ' H'=>(∃ v,σ'=[some<|.ref R,some<|.ref L,some<|.ref N,some<|.ref B,v])/\∃ ts:List Addr,ag H2 H'/\H' B=some (.lst<|ts.map V.ref)/\(∀ t∈ts,t≠B)/\bg H' ts (seen n cD i)) ⟨⟨_,rfl⟩,[],sB,eB,(λt h=>by cases h),rfl,λj t z h=>by simp at h⟩ ?_ ?_
 ·rintro i σ' H4 hi ⟨⟨v,rfl⟩,ts,s4,vE,nB,lst⟩;rw [Cv];refine aW 4 nd ?_;show Run _ _ _ [some<|.ref R,some<|.ref L,some<|.ref N,some<|.ref B,some<|.int (i:Int)] H4;have sl:(seen n cD i).length<=i:=by
   unfold seen;rw [Aa];exact Bz (Dy _ _)<|Fr Bf
  have p9:2 ^ cD.length<=512:=Gn (by decide) (show cD.length<=9 by omega);have qX:=lst.1;refine d0 (pX<|bV GT (hr.mono<|by omega)<|ao<|b9 cZ T.len CW<|ao<|af 0<|aw ⟨R,_,rfl,.inl<|ak.of<|s4 _ _<|s2 _ _<|s1 _ _ hR.lst,?_⟩);rw [Aa,cC];refine ao (af 1<|ao<|af 4<|aw ⟨n.length,i,L,us,cD.map<|dw n,rfl,dv,hn,(hP.same s2).same s4,by rw [Aa];omega,aE,λH5 s5=>⟨_,rfl,?_⟩⟩);rw [Vb];refine iE (λc=>?_) λc=>aP<|aP ⟨⟨some<|.int (i:Int),rfl⟩,ts,s4.trans s5,s5 _ _ vE,nB,?_⟩
  ·rw [BK c];have Kq:=s5 _ _<|s4 _ _ eN;have A4:=s5 _ _ vE;refine fD (nW CQ FT FW pK<|af 3 (v:= .ref B) ⟨Or.inl ⟨rfl,_,ak.of A4⟩,jf (aV uq) Ko sI 1 (vZ rfl T.range fX)<|ao<|b9 cZ T.len CW<|ao<|af 2<|aw ⟨N,_,rfl,.inl<|ak.of Kq,aw ⟨_,rfl,by rw [Aa];omega,by rw [Aa];omega,λD hD=>?_⟩⟩⟩);rw [Aa,Bh];refine zj (λj σ' H'=>(∃ v,σ'=[some<|.ref R,some<|.ref L,some<|.ref N,some<|.ref B,some<|.int (i:Int)]++[v])/\ag H5 H'/\H' D=some (Ls<|Dt.b7 (cD.take j) i)) ⟨⟨_,rfl⟩,aQ hD _,ae⟩ ?_ ?_
   ·rintro j σ' H' hj ⟨⟨v,rfl⟩,sm,eD⟩;rw [Cv];have Vi:cD[j]?=some cD[j]:=Ab hj;intro cl C s₀ H₀ ex;refine aW 5 Vd ?_;intro cl C s₀ H₀ ex;refine OO (dC fv<|aN C2<|aN C1<|af 4<|af 5 ⟨_,(j:Int),rfl,rfl,(by show(0:Int)<=(j:Int);omega),ay ⟨_,_,rfl,rfl,ay ⟨rfl,_,rfl,?_⟩⟩⟩);show if decide (V.int (Builtin.bitAnd ((i:Int) / 2 ^ ((j:Int).toNat)) 1)=V.int 1)=true then _ else _;rw [Bh,Jk,Dt.i0 hj]
    by_cases hb:(i / 2 ^ j) % 2=1
    ·rw [BK hb,hb,CG (show V.int ((1:Nat):Int)=V.int 1 from rfl)];refine bf ?_;intro cl C s₀ H₀ ex;refine aS bx<|af 2<|af 5 ⟨N,_,_,.str cD[j],rfl,rfl,ak.of<|sm _ _ Kq,Vc Vi,_,eD,?_,⟨_,rfl⟩,cL sm hD,?_⟩
     ·rw [Aa,Dt.eh];have:=Dt.iZ (cD.take j).length i;rw [Ay] at this;exact bQ<|by rw [Ay];omega
     ·rw [ae];show some (HO.lst<|_++[V.str cD[j]])=some (HO.lst<|(_++[cD[j]]).map V.str);rw [Ag];rfl
    ·rw [BJ hb,BX (λe=>hb<|by have:=V.int.inj e;omega),Bc];exact bN ⟨⟨_,rfl⟩,sm,eD⟩
   ·rintro σ' H6 ⟨_,s6,oH⟩;rw [Bi] at oH;have Kr:D≠B:=λe=>by rw [e,A4] at hD;cases hD
    refine⟨B,_,.ref D,rfl,rfl,s6 _ _ A4,by rw [Aa];exact bQ (by omega),?_⟩;refine aP<|aP ⟨⟨some<|.int (i:Int),rfl⟩,ts++[D],cL ((s4.trans s5).trans s6) Vh,?_,?_,?_⟩
    ·rw [ae,Ag];rfl
    ·intro t ht
     rcases Al.mp ht with h | h
     ·exact nB t h
     ·rw [Af.mp h];exact Kr
    ·refine bg.snoc (lst.keep λt ht o h=>?_) ?_
     ·rw [av<|nB t ht];exact s6 _ _<|s5 _ _ h
     ·rw [av Kr];exact oH
  ·rw [BJ c,Bc];exact lst.keep λt _ o h=>s5 _ _ h
 ·rintro σ' H4 ⟨⟨v,rfl⟩,ts,s4,vE,nB,lst⟩;have Ks:((cA n cD).map (·.1)).Pairwise (λa b=>a.cps.toList < b.cps.toList):=by rw [AZ];exact cN
  have el:(cA n cD).length=cD.length:=Aa _;have e6:seen n cD (2 ^ cD.length)=(((List.range<|2 ^ (cA n cD).length).filter (Dt.tr (List.range n.length) ((cA n cD).map (·.2)))).map (Dt.b7 ((cA n cD).map (·.1)))):=by
   rw [AZ,Km,el];rfl
  rw [e6] at lst;refine cq<|b9 (UP Vf) T.sorted FZ<|ao<|af 3<|aw ⟨B,ts,_,rfl,ak.of vE,lst.1,Dt.i6 r0 gT Ks,λj t z h1 h2=>lst.2 j t z h1 h2,λD ps hD pp ps2=>?_⟩;have e7:ps.map (·.2)=TL (List.range n.length) (cA n cD):=Dt.gU r0 gT Ks (by
   have:=pp.map (·.2);rw [KY<|Fr lst.1.symm] at this;exact this)<|Ep.mpr ps2
  refine q D (ps.map (·.1)) _ (((s1.trans s2).trans s4).trans<|aQ hD _) (by rw [ae,Be];rfl) ?_;rw [<- e7];refine⟨by rw [Aa,Aa],λj t z h1 h2=>?_⟩;rw [Ad,Ap] at h1 h2;obtain⟨p,hp,rfl⟩:=h1;obtain⟨p',jU,rfl⟩:=h2;rw [hp] at jU;cases jU;have pm:=pp.mem_iff.mp<|Au hp;obtain⟨i,hi⟩:=Ba pm;rw [Ec] at hi;exact aQ hD _ _ _<|lst.2 i _ _ hi.1 hi.2
open Dt (c8 TL AR gx az)
theorem sK(K:PySem.W.Frag):PySem.W.kitOne K (.type "list") (.type "list")=some true:=by rfl
theorem A5(K:PySem.W.Frag):PySem.W.kitOne K (.type "str") (.type "str")=some true:=by rfl
theorem bg.same{H H':Hp}{us:List Addr}{ls:List (List Str)}(h:bg H us ls)(s:ag H H'):bg H' us ls:=h.keep λt _ o e=>s _ _ e
def vF:Sp:=λvs H Q _=>∃(D D':Addr) (ts cr:List Addr) (zs:List<|List Str),vs=[.ref D,.ref D']/\H D=some (.lst<|ts.map V.ref)/\H D'=some (.lst<|cr.map V.ref)/\bg H ts zs/\bg H cr zs/\zs.length<=1000/\(∀ z∈zs,z.length<=1000)/\∀ H',ag H H'->Q (.bl true) H'
abbrev Vj:List Str:=["_law_told","_law_due_here","_law_k","_law_tie"]
theorem sM:au Vj ["_law_told","_law_due_here"] (aV xZ):=⟨rfl,rfl,rfl,by decide +kernel,rfl,by decide +kernel,by decide +kernel⟩
theorem Vk{f:Addr}{fd:FuncData}(F:bz K "_law_same" "_law_same" xZ f fd)(T:Txt mg):aC P w K mg base bp 1 f fd ["_law_told","_law_due_here"] vF:=by
 refine F.gb sM (λvs H Q E h=>?_) λb0 H vs Q E hr h=>?_
 ·obtain⟨D,D',ts,cr,zs,rfl,_⟩:=h;rfl
 obtain⟨D,D',ts,cr,zs,rfl,eD,rH,hT,Kt,lz,Wl,q⟩:=h;have nd:=sM.nd;have l1:=hT.1;have l2:=Kt.1;show Run _ _ _ [some<|.ref D,some<|.ref D',none,none] H;refine d0<|nQ<|w8<|tM<|pX<|b9 wV T.x0 GZ<|ao<|af 0<|ao<|w5 (.ty "list") T.ga GR rfl (aw ⟨_,_,_,true,rfl,.lst eD,sK K,true,rfl,bN ?_⟩);refine xa<|dC wj<|b9 cZ T.len CW<|ao<|af 0<|aw ⟨D,_,rfl,.inl<|ak.of eD,b9 cZ T.len CW<|ao<|af 1<|aw ⟨D',_,rfl,.inl<|ak.of rH,rfl,_,rfl,?_⟩⟩;rw [Aa,Aa,l1,l2,CG rfl];refine bN<|aP ?_;refine hZ T.range (b9 cZ T.len CW<|ao<|af 1<|aw ⟨D',_,rfl,.inl<|ak.of rH,_,rfl,by omega,by rw [Aa];omega,?_⟩);rw [Aa,Bh];refine ic (n:=cr.length) (λk σ H'=>∃(u2 u3:Option V),ag H H'/\σ=[some<|.ref D,some<|.ref D',u2,u3]) ⟨_,_,ag.refl _,rfl⟩ ?_ ?_
 ·rintro k σ H1 hk ⟨u2,u3,s1,rfl⟩;rw [Cv];refine aW 2 nd ?_;show Run _ _ _ [some<|.ref D,some<|.ref D',some<|.int (k:Int),u3] H1;obtain⟨u,hu⟩:∃ u,ts[k]?=some u:=⟨_,Ab<|by omega⟩;obtain⟨v,hv⟩:∃ v,cr[k]?=some v:=⟨_,Ab<|by omega⟩;obtain⟨x,hx⟩:∃ x,zs[k]?=some x:=⟨_,Ab<|by omega⟩;have eu:=s1 _ _<|hT.2 k u x hu hx;have ev:=s1 _ _<|Kt.2 k v x hv hx;have a1:di (ts.map V.ref) (k:Int)=some (.ref u):=gF (by rw [Ad,hu];rfl);have a2:di (cr.map V.ref) (k:Int)=some (.ref v):=gF (by rw [Ad,hv];rfl);refine d0<|nQ<|w8<|tM<|pX<|b9 wV T.x0 GZ<|ao<|aS bx<|af 0<|af 2 ⟨D,_,_,.ref u,rfl,rfl,ak.of<|s1 _ _ eD,a1,ao<|w5 (.ty "list") T.ga GR rfl (aw ⟨_,_,_,true,rfl,.lst eu,sK K,true,rfl,bN ?_⟩)⟩;refine xa (dC (p7 hr.d5)<|aS bx<|af 0<|af 2 ⟨D,_,_,.ref u,rfl,rfl,ak.of<|s1 _ _ eD,a1,aS bx<|af 1<|af 2 ⟨D',_,_,.ref v,rfl,rfl,ak.of<|s1 _ _ rH,a2,1,true,by decide,SK eu ev,_,rfl,bN<|aP ?_⟩⟩);refine jd<|aS bx<|af 0<|af 2 ⟨D,_,_,.ref u,rfl,rfl,ak.of<|s1 _ _ eD,a1,u,rfl,⟨_,ak.of eu⟩,?_⟩;refine je (xs:=x.map V.str) (λj σ H'=>∃(u3:Option V),ag H1 H'/\σ=[some<|.ref D,some<|.ref D',some<|.int (k:Int),u3]) ⟨_,ag.refl _,rfl⟩ ?_ ?_ ?_
  ·rintro j σ H' _ ⟨_,sm,_⟩;exact ak.of<|sm _ _ eu
  ·rintro j y σ H2 hy ⟨u4,s2,rfl⟩;rw [Ad,Ap] at hy;obtain⟨z,_,rfl⟩:=hy;refine aW 3 nd ?_;show Run _ _ _ [some<|.ref D,some<|.ref D',some<|.int (k:Int),some<|.str z] H2;exact d0<|tM<|pX<|b9 wV T.x0 GZ<|ao<|af 3<|ao<|w5 (.ty "str") T.x8 PyProof.Rows.boot_str rfl (aw ⟨_,_,_,true,rfl,.str _,A5 K,true,rfl,bN<|aP<|aP ⟨_,s2,rfl⟩⟩)
  ·rintro σ H2 ⟨u4,s2,rfl⟩;exact aP ⟨_,_,s1.trans s2,rfl⟩
 ·rintro σ H1 ⟨u2,u3,s1,rfl⟩;exact cq<|pS<|q H1 s1
end
end W6
namespace Nt
variable{α β:Type}
open PySem
section
variable{n:Net}{c:End}{z:Str}
end
section
variable{n m:Net}{g:End->End}{e1 e2:End}{z:Str}
end
section
variable{n:Net}{z:Str}
end
section
variable{n m:Net}{g:End->End}{e1 e2:End}{z:Str}
end
section
variable{n:Net}{z:Str}
end
open L2 Classical
section
variable{n:Net}{s:Str->Bool}{c:Nat->Bool}{χ:End->Bool}
end
section
variable{n:Net}{cs:List (List Str)}{ss zs:List Str}{c:Nat->Bool}{χ:End->Bool}
end
section
variable{n:Net}
theorem Vl(n:Net)(s:Str->Bool):∃ ss,aZ ss/\∀ z,z∈ss↔z∈ah n/\s z=true:=by
 obtain⟨ss,h1,h2⟩:=IG<|(ah n).filter s;exact⟨ss,h1,λz=>by rw [h2,Du]⟩
end
end Nt
namespace W6
open PySem L2 Nt a6
open Dt (c8 TL AR gx az)
theorem Vm{X:Cx}{H:Hp}{R R':Addr}{as bs:List (Addr×Addr)}{n:Net}(h:aj H R as n)(g:aj H R' bs n):jN X H 3 (.ref R) (.ref R') true:=by
 have q:=FD (X:=X) (k:=2) (λ_=>true) (ak.of (K:=X.K) h.lst) (ak.of (K:=X.K) g.lst) (by rw [Aa,Aa,h.len,g.len]) λj x y hx hy=>by
  rw [Ad,Ap] at hx hy;obtain⟨a,ea,rfl⟩:=hx;obtain⟨b,eb,rfl⟩:=hy;have hj:j < n.length:=by
   have:=(Ac.mp ea).1;have:=h.len;omega
  obtain⟨q1,q2⟩:=h.tup j a n[j] ea<|Ab hj;obtain⟨q3,q4⟩:=g.tup j b n[j] eb<|Ab hj;have t:=xE (X:=X) (k:=1) (λ_=>true) (aK.of (K:=X.K) q1) (aK.of (K:=X.K) q3) rfl λi x y hx hy=>by
   match i with
   | 0=>cases hx;cases hy;exact uO _
   | 1=>cases hx;cases hy;exact uP<|IB q2 q4
   | i+2=>simp at hx
  rw [nV] at t;exact uP t
 rw [nV] at q;exact q
def sN(K:PySem.W.Frag):Sp:=λvs H Q _=>∃(a:Addr) (ns:List Int),vs=[.ref a]/\ak K H a (ns.map V.int)/\ns.length<=63/\∀ H',Q (.bl true) H'
section
variable{P:Program}{w:World}{K:PySem.W.Frag}{mg:Str->Option Value}{base:Heap}
abbrev Vn:List Str:=["_law_script","_law_stem","_law_rows","_law_due_here","_law_handed","_law_told","_law_some"]
theorem k6:au Vn ["_law_script"] (aV jP):=⟨rfl,rfl,rfl,by decide +kernel,rfl,by decide +kernel,by decide +kernel⟩
theorem Vo{f:Addr}{fd:FuncData}{c:Nat}(F:bz K "law" "law" jP f fd)(T:Txt mg)(hc:5<=c)(GC:aG P w K mg base 5 "_law_cell_at" ["_law_script","_law_k"]<|qb K)(GB:aG P w K mg base 5 "_law_big" ["_law_script","_law_at"]<|ur K)
  (GN:aG P w K mg base 5 "_law_net_by" ["_law_big_here","_law_most","_law_stem"] uB) (GD:aG P w K mg base 3 "_law_due" ["_law_rows"] vC) (GY:aG P w K mg base 3 "_law_copy" ["_law_rows"] uH) (GT:aG P w K mg base c "trees_of" ["rows"] sE) (GS:aG P w K mg base 1 "_law_same" ["_law_told","_law_due_here"] vF):aC P w K mg base bp (c+1) f fd ["_law_script"] (sN K):=by
 refine F.gb k6 (λvs H Q E h=>?_) λb0 H vs Q E hr h=>?_
 ·obtain⟨a,ns,rfl,_⟩:=h;rfl
 obtain⟨a,ns,rfl,hS,Wm,q⟩:=h;have nd:=k6.nd;have A6:=hr.mono hc;show Run _ _ _ [some<|.ref a,none,none,none,none,none,none] H;refine run_set 1 nd (aN db<|bV GC A6<|ao<|af 0<|ao<|ay<|aw ⟨a,ns,0,rfl,hS,by decide,λc0=>?_⟩);refine aN we (ay<|ay ⟨_,_,rfl,rfl,⟨by decide,by decide,by decide⟩,_,_,rfl,rfl,(by show(0:Int) < 10 ^ (18:Int).toNat;decide),?_⟩);show Run _ _ _ [some<|.ref a,some<|.int<|c0 % 10 ^ (18:Int).toNat,none,none,none,none,none] H;generalize c0 % 10 ^ (18:Int).toNat=gW;refine run_set 2 nd (bV GN A6<|ao<|bV GB A6<|ao<|af 0<|ao<|ay<|aw ⟨a,ns,1,rfl,hS,by decide,λb H1 s1=>ao<|ay<|ao<|af 1<|aw ⟨_,9,_,rfl,by decide,by decide,λR as n H2 s2 n2 hR hT hN hF hg kQ Vp has=>?_⟩⟩);have e9:((9:Int)).toNat=9:=rfl;rw [e9] at kQ Vp;have h0:n≠[]:=hF.some;obtain⟨ss,cN,mN⟩:=Vl n λ_=>true;have mem:∀ z,z∈ss↔z∈ah n:=λz=>(mN z).trans ⟨λh=>h.1,λh=>⟨h,rfl⟩⟩;show Run _ _ _ [some<|.ref a,some<|.int gW,some<|.ref R,none,none,none,none] H2;refine run_set 3 nd (bV GD (hr.mono<|by omega)<|ao<|af 2<|aw ⟨R,as,n,ss,rfl,hR,hT,h0,by omega,by omega,cN,mem,λD0 A7 H3 s3 Ku Kv=>?_⟩);refine run_set 4 nd (bV GY (hr.mono<|by omega)<|ao<|af 2<|aw ⟨R,as,n,rfl,hR.same s3,by omega,λM jj H4 s4 nM Wn hM=>?_⟩);show Run _ _ _ [some<|.ref a,some<|.int gW,some<|.ref R,some<|.ref D0,some<|.ref M,none,none] H4;refine run_set 5 nd (bV GT (hr.mono<|Ah _)<|ao<|af 4<|aw ⟨M,jj,n,ss,rfl,hM,hT,hN,h0,by omega,by omega,hg,cN,mem,λD ts H5 s5 hD kU eD ls=>?_⟩);show Run _ _ _ [some<|.ref a,some<|.int gW,some<|.ref R,some<|.ref D0,some<|.ref M,some<|.ref D,none] H5;have dv:0 < n.length:=Cg.mpr h0;have ssl:2 * ss.length<=18:=by
  have:=qY hT (yp cN) λz hz=>(mem z).mp hz;omega
 have el:(cA n ss).length=ss.length:=Aa _;have sO:(TL (List.range n.length)<|cA n ss).length<=1000:=by
  rw [<- (Dt.a9 (cA n ss)<|List.range n.length).length_eq,Aa];refine Bz (Dy _ _)<|Bz (Fr Bf) ?_;exact Bz (Gn (by decide) (show(cA n ss).length<=9 by omega))<|by decide
 have ng:∀ z∈TL (List.range n.length) (cA n ss),z.length<=1000:=λz hz=>by
  have:=(Dt.bY _ _ z hz).length_le;rw [Aa] at this;omega
 refine d0 (nQ<|w8<|tM<|pX<|bV GS (hr.mono<|by omega)<|ao<|af 5<|ao<|af 3<|aw ⟨D,D0,ts,A7,_,rfl,eD,s5 _ _<|s4 _ _ Ku,ls,(Kv.same s4).same s5,sO,ng,λH6 s6=>⟨_,rfl,bN ?_⟩⟩);have Vq:=(hM.same s5).same s6;have yx:=(((hR.same s3).same s4).same s5).same s6;refine xa (dC (p7 hr.d5)<|af 4<|af 2 ⟨3,true,by decide,SL Vq yx,_,rfl,bN<|aP ?_⟩);have Vr:ag H4 H6:=s5.trans s6;have nD:∀ t∈ts,t≠D:=λt ht e=>by
  obtain⟨j,hj⟩:=Ba ht;have hl:=ls.1;have dL:j < (TL (List.range n.length)<|cA n ss).length:=by
   have:=(Ac.mp hj).1;omega
  have e1:=ls.2 j t _ hj<|Ab dL;rw [e,eD] at e1;have e2:ts.map V.ref=((TL (List.range n.length)<|cA n ss)[j]).map V.str:=HO.lst.inj<|Option.some.inj e1;cases ts with
  | nil=>cases ht
  | cons t0 A7=>
   generalize (TL (List.range n.length)<|cA n ss)[j]=zz at e2;cases zz with
   | nil=>cases e2
   | cons z0 zz=>cases (List.cons.inj e2).1
 have Vs:=ls.same s6;refine jd<|af 5 ⟨D,rfl,⟨_,ak.of<|s6 _ _ eD⟩,?_⟩;refine je (xs:=ts.map V.ref) (λj σ H'=>∃(u6:Option V),ag H4 H'/\H' D=some (.lst<|ts.map V.ref)/\(∀ t∈ts,∃ xs:List V,H' t=some (.lst xs)/\xs.length<=1000+j)/\σ=[some<|.ref a,some<|.int gW,some<|.ref R,some<|.ref D0,some<|.ref M,some<|.ref D,u6]) ⟨_,Vr,s6 _ _ eD,λt ht=>?_,rfl⟩ ?_ ?_ ?_
 ·obtain⟨j,hj⟩:=Ba ht;have hl:=ls.1;have dL:j < (TL (List.range n.length)<|cA n ss).length:=by
   have:=(Ac.mp hj).1;omega
  exact⟨_,Vs.2 j t _ hj<|Ab dL,by rw [Aa];exact ng _<|By dL⟩
 ·rintro j σ H' _ ⟨_,_,e,_⟩;exact ak.of e
 ·rintro j y σ H7 hy ⟨u6,s7,oU,al,rfl⟩;rw [Ad,Ap] at hy;obtain⟨t,ht,rfl⟩:=hy;have tm:=Au ht;obtain⟨xs,et,lx⟩:=al t tm;have jl:=(Ac.mp ht).1;have hl:=ls.1;refine aW 6 nd ?_;show Run _ _ _ [some<|.ref a,some<|.int gW,some<|.ref R,some<|.ref D0,some<|.ref M,some<|.ref D,some<|.ref t] H7;refine fD<|nW CQ FT FW pK<|af 6 (v:= .ref t) ⟨Or.inl ⟨rfl,_,ak.of et⟩,tL ⟨t,xs,_,rfl,rfl,et,bQ (by omega),aP ⟨_,cL s7<|kU t tm,?_,λt' bR=>?_,rfl⟩⟩⟩
  ·rw [av<|Ne.symm<|nD t tm];exact oU
  ·by_cases c:t'=t
   ·subst c;exact⟨_,ae,by rw [Ae];show xs.length+1<=_;omega⟩
   ·obtain⟨ys,ey,ly⟩:=al t' bR;exact⟨ys,by rw [av c];exact ey,by omega⟩
 ·rintro σ H7 ⟨u6,s7,oU,al,rfl⟩;have hl:=ls.1;refine fD (nW CQ FT FW pK<|af 5 (v:= .ref D) ⟨Or.inl ⟨rfl,_,ak.of oU⟩,dH<|ao<|tL<|aw ⟨Z1,λY hY=>⟨D,_,.ref Y,rfl,rfl,aQ hY _ _ _ oU,by rw [Aa];exact bQ (by omega),?_⟩⟩⟩);have s8:=cL (o:= .lst<|ts.map V.ref++[V.ref Y]) (s7.trans<|aQ hY<|.lst [V.str "y"]) hD;show Run _ _ _ [some<|.ref a,some<|.int gW,some<|.ref R,some<|.ref D0,some<|.ref M,some<|.ref D,u6] _;refine cq (Oc<|bV GS (hr.mono<|by omega)<|ao<|bV GT (hr.mono<|Ah _)<|ao<|af 4<|aw ⟨M,jj,n,ss,rfl,hM.same s8,hT,hN,h0,by omega,by omega,hg,cN,mem,λD9 Vt H9 s9 Wo Vu Vv Vw=>ao<|af 3<|aw ⟨D9,D0,Vt,A7,_,rfl,Vv,s9 _ _<|s8 _ _<|s4 _ _ Ku,Vw,((Kv.same s4).same s8).same s9,sO,ng,λzK mS=>⟨_,rfl,bf ?_⟩⟩⟩);exact Od<|nP (FG hr.d5)<|af 4<|af 2 ⟨3,true,by decide,Vm (((hM.same s8).same s9).same mS)<|((((hR.same s3).same s4).same s8).same s9).same mS,q _⟩
end
section
variable{P:Program}{w:World}{K:PySem.W.Frag}{mg:Str->Option Value}{base:Heap}{f:Addr}{fd:FuncData}
theorem Vx(F:bz K "trees_by" "trees_by" kE f fd)(T:Txt mg)(GM:aG P w K mg base 1 "merged" ["links","one","other"] sg)(GS:aG P w K mg base 1 "spread" ["first","links"] rJ):aC P w K mg base bp 2 f fd ["links","many"] (fe 0):=
 Kg F T (Ah 1) GM GS λm' e=>by omega
theorem ki{c m:Nat}(F:bz K "trees_by" "trees_by" kE f fd)(T:Txt mg)(GM:aG P w K mg base 1 "merged" ["links","one","other"] sg)(GS:aG P w K mg base 1 "spread" ["first","links"] rJ)(GT:aG P w K mg base (c+1) "trees_by" ["links","many"]<|fe m):aC P w K mg base bp (c+2) f fd ["links","many"] (fe<|m+1):=
 Kg F T (Nat.le_add_left 1 c) GM GS λm' e=>by cases e;exact GT
theorem Vy(F:bz K "trees_of" "trees_of" ui f fd)(T:Txt mg)(GC:aG P w K mg base 3 "tree_count" ["rows"] uT)(GL:aG P w K mg base 1 "links_of" ["rows"] qH)(GT:aG P w K mg base 11 "trees_by" ["links","many"]<|fe 9):aC P w K mg base bp 12 f fd ["rows"] sE:=U' F T (by decide) GC GL GT
theorem Vz(F:bz K "law" "law" jP f fd)(T:Txt mg)(GC:aG P w K mg base 5 "_law_cell_at" ["_law_script","_law_k"]<|qb K)(GB:aG P w K mg base 5 "_law_big" ["_law_script","_law_at"]<|ur K)
  (GN:aG P w K mg base 5 "_law_net_by" ["_law_big_here","_law_most","_law_stem"] uB) (GD:aG P w K mg base 3 "_law_due" ["_law_rows"] vC) (GY:aG P w K mg base 3 "_law_copy" ["_law_rows"] uH) (GT:aG P w K mg base 12 "trees_of" ["rows"] sE) (GS:aG P w K mg base 1 "_law_same" ["_law_told","_law_due_here"] vF):aC P w K mg base bp 13 f fd ["_law_script"] (sN K):=Vo F T (by decide) GC GB GN GD GY GT GS
end
end W6
namespace W6
open PySem L2
theorem all_mk{l:PySem.W.OpenLaw}{w:World}{K:PySem.W.Frag}{h:Heap}{mg:Str->Option Value}{fa:Addr}(X:K.In h)(G:h.Ns mainGlobals mg)(xB:mg "law" = some (.ref fa))
  (h1:Df K "points_of" uh) (h2:Df K "links_of" xP) (h3:Df K "spread" xQ) (h4:Df K "tree_count" xR) (h5:Df K "tie_table" kD) (h6:Df K "determinant" l5) (h7:Df K "trees_of" ui) (h8:Df K "trees_by" kE) (h9:Df K "merged" uj) (A8:Df K "_law_cell_at" xS) (A9:Df K "_law_big" l8) (BA:Df K "_law_names" xT) (BD:Df K "_law_seats" xU) (BE:Df K "_law_other" xV) (BF:Df K "_law_step" xW) (BG:Df K "_law_face" xX) (BH:Df K "_law_put" l9) (BI:Df K "_law_net_by" me) (BM:Df K "_law_copy" uk) (BO:Df K "_law_ties" xY) (BQ:Df K "_law_ends" uo) (BU:Df K "_law_is_tree" qa) (BV:Df K "_law_due" uq) (B0:Df K "_law_same" xZ) (hl:Df K "law" jP)
  {VA:Tok} (s1:PySem.W.nsIn K mainGlobals "MOST_TREES" = some (some<|.int 300 VA))
  (z:∀ x∈(["isinstance","tuple","str","int","bool","list","dict","set","enumerate","zip","len","range","sorted","max","all"]:List Str),PySem.W.nsIn K mainGlobals x=some none) :
  ∃ fd:FuncData,(∀(s:Shared) (v:Value),BindsTo s fd ⟨[v],[]⟩ [("_law_script",v)])/\∀ base:Heap,K.In base->base.Ns mainGlobals mg->aC l.prog w K mg base bp 13 fa fd ["_law_script"] (sN K):=by
 have T:Txt mg:=⟨CK X G (z _<|by simp),CK X G (z _<|by simp),CK X G (z _<|by simp),CK X G (z _<|by simp),CK X G (z _<|by simp),CK X G (z _<|by simp),CK X G (z _<|by simp),CK X G (z _<|by simp),CK X G (z _<|by simp),CK X G (z _<|by simp),CK X G (z _<|by simp),CK X G (z _<|by simp),CK X G (z _<|by simp),CK X G (z _<|by simp),CK X G (z _<|by simp),⟨_,QC X G s1,_,rfl⟩⟩;refine hl.law X G xB (λ_ _ _ _ _ _ s v=> .of_eq rfl) λbase f fd F=>?_;have G1:aG l.prog w K mg base 1 "points_of" ["rows"] zx:=h1.has X G (λ_ _ _ _ _ _=>iG λ_=>rfl) λF=>SW F T;have G2:aG l.prog w K mg base 1 "links_of" ["rows"] qH:=h2.has X G (λ_ _ _ _ _ _=>iG λ_=>rfl) λF=>RN F T;have G3:aG l.prog w K mg base 1 "spread" ["first","links"] rJ:=h3.has X G (λ_ _ _ _ _ _=>fE λ_ _=>rfl) λF=>Uc F T;have G5:aG l.prog w K mg base 2 "tie_table" ["rows"] zy:=h5.has X G (λ_ _ _ _ _ _=>iG λ_=>rfl) λF=>S4 F T (G1.mono<|by decide) (G2.mono<|by decide);have G6:aG l.prog w K mg base 1 "determinant" ["table"] zl:=h6.has X G (λ_ _ _ _ _ _=>iG λ_=>rfl) λF=>SF F T;have G4:aG l.prog w K mg base 3 "tree_count" ["rows"] uT:=h4.has X G (λ_ _ _ _ _ _=>iG λ_=>rfl) λF=>To F T (G5.mono<|by decide) (G6.mono<|by decide);have G9:aG l.prog w K mg base 1 "merged" ["links","one","other"] sg:=h9.has X G (λ_ _ _ _ _ _=>p5 λ_ _ _=>rfl) λF=>UQ F T;have G8:aG l.prog w K mg base 2 "trees_by" ["links","many"] (fe 0):=h8.has X G (λ_ _ _ _ _ _=>fE λ_ _=>rfl) λF=>Vx F T (G9.mono<|by decide) (G3.mono<|by decide);have G8:aG l.prog w K mg base 3 "trees_by" ["links","many"] (fe 1):=h8.has X G (λ_ _ _ _ _ _=>fE λ_ _=>rfl) λF=>ki F T (G9.mono<|by decide) (G3.mono<|by decide) (G8.mono<|by decide);have G8:aG l.prog w K mg base 4 "trees_by" ["links","many"] (fe 2):=h8.has X G (λ_ _ _ _ _ _=>fE λ_ _=>rfl) λF=>ki F T (G9.mono<|by decide) (G3.mono<|by decide) (G8.mono<|by decide);have G8:aG l.prog w K mg base 5 "trees_by" ["links","many"] (fe 3):=h8.has X G (λ_ _ _ _ _ _=>fE λ_ _=>rfl) λF=>ki F T (G9.mono<|by decide) (G3.mono<|by decide) (G8.mono<|by decide);have G8:aG l.prog w K mg base 6 "trees_by" ["links","many"] (fe 4):=h8.has X G (λ_ _ _ _ _ _=>fE λ_ _=>rfl) λF=>ki F T (G9.mono<|by decide) (G3.mono<|by decide) (G8.mono<|by decide);have G8:aG l.prog w K mg base 7 "trees_by" ["links","many"] (fe 5):=h8.has X G (λ_ _ _ _ _ _=>fE λ_ _=>rfl) λF=>ki F T (G9.mono<|by decide) (G3.mono<|by decide) (G8.mono<|by decide);have G8:aG l.prog w K mg base 8 "trees_by" ["links","many"] (fe 6):=h8.has X G (λ_ _ _ _ _ _=>fE λ_ _=>rfl) λF=>ki F T (G9.mono<|by decide) (G3.mono<|by decide) (G8.mono<|by decide);have G8:aG l.prog w K mg base 9 "trees_by" ["links","many"] (fe 7):=h8.has X G (λ_ _ _ _ _ _=>fE λ_ _=>rfl) λF=>ki F T (G9.mono<|by decide) (G3.mono<|by decide) (G8.mono<|by decide);have G8:aG l.prog w K mg base 10 "trees_by" ["links","many"] (fe 8):=h8.has X G (λ_ _ _ _ _ _=>fE λ_ _=>rfl) λF=>ki F T (G9.mono<|by decide) (G3.mono<|by decide) (G8.mono<|by decide);have G8:aG l.prog w K mg base 11 "trees_by" ["links","many"] (fe 9):=h8.has X G (λ_ _ _ _ _ _=>fE λ_ _=>rfl) λF=>ki F T (G9.mono<|by decide) (G3.mono<|by decide) (G8.mono<|by decide);have G7:aG l.prog w K mg base 12 "trees_of" ["rows"] sE:=h7.has X G (λ_ _ _ _ _ _=>iG λ_=>rfl) λF=>Vy F T (G4.mono<|by decide) (G2.mono<|by decide) (G8.mono<|by decide);have Kw:aG l.prog w K mg base 1 "_law_cell_at" ["_law_script","_law_k"] (qb K):=A8.has X G (λ_ _ _ _ _ _=>fE λ_ _=>rfl) λF=>P9 F T;have VB:aG l.prog w K mg base 2 "_law_big" ["_law_script","_law_at"] (ur K):=A9.has X G (λ_ _ _ _ _ _=>fE λ_ _=>rfl) λF=>Qb F T (Kw.mono<|by decide);have VC:aG l.prog w K mg base 1 "_law_names" ["_law_stem","_law_many"] x9:=BA.has X G (λ_ _ _ _ _ _=>fE λ_ _=>rfl) λF=>Qd F T;have VD:aG l.prog w K mg base 1 "_law_seats" ["_law_rows"] ya:=BD.has X G (λ_ _ _ _ _ _=>iG λ_=>rfl) λF=>Qe F T;have VE:aG l.prog w K mg base 1 "_law_other" ["_law_rows","_law_seats_here","_law_end"] yb:=BE.has X G (λ_ _ _ _ _ _=>p5 λ_ _ _=>rfl) λF=>Qf F T;have VF:aG l.prog w K mg base 2 "_law_step" ["_law_rows","_law_seats_here","_law_end","_law_turn"] yc:=BF.has X G (λ_ _ _ _ _ _=>E9 λ_ _ _ _=>rfl) λF=>Qg F T (VE.mono<|by decide);have VG:aG l.prog w K mg base 3 "_law_face" ["_law_rows","_law_seats_here","_law_end"] yd:=BG.has X G (λ_ _ _ _ _ _=>p5 λ_ _ _=>rfl) λF=>Qi F T (VF.mono<|by decide);have VH:aG l.prog w K mg base 4 "_law_put" ["_law_rows","_law_big_here","_law_tie","_law_point"] yq:=BH.has X G (λ_ _ _ _ _ _=>E9 λ_ _ _ _=>rfl) λF=>QI F T (VD.mono<|by decide) (VG.mono<|by decide);have VI:aG l.prog w K mg base 5 "_law_net_by" ["_law_big_here","_law_most","_law_stem"] uB:=BI.has X G (λ_ _ _ _ _ _=>p5 λ_ _ _=>rfl) λF=>Q4 F T (VC.mono<|by decide) (VH.mono<|by decide);have VJ:aG l.prog w K mg base 1 "_law_copy" ["_law_rows"] uH:=BM.has X G (λ_ _ _ _ _ _=>iG λ_=>rfl) λF=>RK F T;have Kx:aG l.prog w K mg base 1 "_law_ties" ["_law_rows"] j5:=BO.has X G (λ_ _ _ _ _ _=>iG λ_=>rfl) λF=>TK F T;have VL:aG l.prog w K mg base 2 "_law_ends" ["_law_rows"] zO:=BQ.has X G (λ_ _ _ _ _ _=>iG λ_=>rfl) λF=>TU F T (Kx.mono<|by decide);have VM:aG l.prog w K mg base 1 "_law_is_tree" ["_law_many","_law_pairs","_law_mask"] zP:=BU.has X G (λ_ _ _ _ _ _=>p5 λ_ _ _=>rfl) λF=>T2 F T;have VN:aG l.prog w K mg base 3 "_law_due" ["_law_rows"] vC:=BV.has X G (λ_ _ _ _ _ _=>iG λ_=>rfl) λF=>Ve F T (VL.mono<|by decide) (Kx.mono<|by decide) (VM.mono<|by decide);have VO:aG l.prog w K mg base 1 "_law_same" ["_law_told","_law_due_here"] vF:=B0.has X G (λ_ _ _ _ _ _=>fE λ_ _=>rfl) λF=>Vk F T;exact Vz F T (Kw.mono<|by decide) (VB.mono<|by decide) (VI.mono<|by decide) (VN.mono<|by decide) (VJ.mono<|by decide) (G7.mono<|by decide)<|VO.mono<|by decide
theorem walk{l:PySem.W.OpenLaw}{q:Program}{loose:List Str}{XP:(Str->Option Value)->Heap->Prop}{YP:World->Heap->Prop}{d:DefRec}{K:Params->PySem.W.Frag}(hn:l.most=some 63)(pM:d.params.defaults=[])
  (hY:∀(w:World) (h:Heap),YP w h->(K w.params).In h)
  (F : ∀ (w : World) (mg : Str → Option Value) (fa : Addr) (h : Heap), (K w.params).In h → h.Ns mainGlobals mg → mg d.name = some (.ref fa) →
   ∃ fd:FuncData,(∀(s:Shared) (u:Value),BindsTo s fd ⟨[u],[]⟩ [("_law_script",u)])/\∀ base:Heap,(K w.params).In base->base.Ns mainGlobals mg->aC l.prog w (K w.params) mg base bp 13 fa fd ["_law_script"] (sN<|K w.params)) :
  PySem.W.WalkO q loose XP YP l.row.toRowW d [] (λf vs=>PySem.call f vs):=
 L2.jH (n:=63) (k:=13) (x:= "_law_script") (CX:=λ_=>bp) (sp:=λw=>sN<|K w.params) hn (by decide) pM ⟨rfl,by decide,by decide⟩ hY F (λ_ _ a ns hl _ hS=>⟨a,ns,rfl,hS,hl,λ_=>rfl⟩) λ_ _ _ _ _ z=>z
end W6
-- see NOTE.md
namespace PySem.W.Fast
def tw5672803450100888857:=()
def tw15656651829425762918:=()
def tw11422675766795717268:=()
def tw12537460090575870923:=()
def tw13792644155191670148:=()
def tw16973417705455523689:=()
def tw1439068326864634862:=()
def tw8745042185519743281:=()
def tw4926448720247788532:=()
def tw347499046158790110:=()
def tw4861730596609873635:=()
def tw10827007034386486640:=()
def tw16174493445518347824:=()
def tw11744809241688617600:=()
end PySem.W.Fast
open PySem PySem.W PyProof.Rows
set_option maxRecDepth 100000 in
set_option maxHeartbeats 0 in
theorem PySem.Challenge.cw_threewebs_k61_trees_listed_holds : PySem.Challenge.rw_threewebs_k61_trees_listed.Holds := by
 w_on;o_law;k_head;(case hw=>w_witness2)
 k_fill
 refine W6.walk (l:=PySem.Challenge.rw_threewebs_k61_trees_listed) rfl rfl (λw h Y=>PySem.W.kIn_of Y) ?F
 case F=>
  intro w mg fa h KX G pN;refine' W6.all_mk KX G pN ?h1 ?h2 ?h3 ?h4 ?h5 ?h6 ?h7 ?h8 ?h9 ?A8 ?A9 ?BA ?BD ?BE ?BF ?BG ?BH ?BI ?BM ?BO ?BQ ?BU ?BV ?B0 ?h0 ?s1 ?zz
  case h1=>refine' L2.aH ?a ?l ?c ?k;(case a=>k_is);(case l=>k_is);(case c=>k_is);(case k=>k_is)
  case h2=>refine' L2.aH ?a ?l ?c ?k;(case a=>k_is);(case l=>k_is);(case c=>k_is);(case k=>k_is)
  case h3=>refine' L2.aH ?a ?l ?c ?k;(case a=>k_is);(case l=>k_is);(case c=>k_is);(case k=>k_is)
  case h4=>refine' L2.aH ?a ?l ?c ?k;(case a=>k_is);(case l=>k_is);(case c=>k_is);(case k=>k_is)
  case h5=>refine' L2.aH ?a ?l ?c ?k;(case a=>k_is);(case l=>k_is);(case c=>k_is);(case k=>k_is)
  case h6=>refine' L2.aH ?a ?l ?c ?k;(case a=>k_is);(case l=>k_is);(case c=>k_is);(case k=>k_is)
  case h7=>refine' L2.aH ?a ?l ?c ?k;(case a=>k_is);(case l=>k_is);(case c=>k_is);(case k=>k_is)
  case h8=>refine' L2.aH ?a ?l ?c ?k;(case a=>k_is);(case l=>k_is);(case c=>k_is);(case k=>k_is)
  case h9=>refine' L2.aH ?a ?l ?c ?k;(case a=>k_is);(case l=>k_is);(case c=>k_is);(case k=>k_is)
  case A8=>refine' L2.aH ?a ?l ?c ?k;(case a=>k_is);(case l=>k_is);(case c=>k_is);(case k=>k_is)
  case A9=>refine' L2.aH ?a ?l ?c ?k;(case a=>k_is);(case l=>k_is);(case c=>k_is);(case k=>k_is)
  case BA=>refine' L2.aH ?a ?l ?c ?k;(case a=>k_is);(case l=>k_is);(case c=>k_is);(case k=>k_is)
  case BD=>refine' L2.aH ?a ?l ?c ?k;(case a=>k_is);(case l=>k_is);(case c=>k_is);(case k=>k_is)
  case BE=>refine' L2.aH ?a ?l ?c ?k;(case a=>k_is);(case l=>k_is);(case c=>k_is);(case k=>k_is)
  case BF=>refine' L2.aH ?a ?l ?c ?k;(case a=>k_is);(case l=>k_is);(case c=>k_is);(case k=>k_is)
  case BG=>refine' L2.aH ?a ?l ?c ?k;(case a=>k_is);(case l=>k_is);(case c=>k_is);(case k=>k_is)
  case BH=>refine' L2.aH ?a ?l ?c ?k;(case a=>k_is);(case l=>k_is);(case c=>k_is);(case k=>k_is)
  case BI=>refine' L2.aH ?a ?l ?c ?k;(case a=>k_is);(case l=>k_is);(case c=>k_is);(case k=>k_is)
  case BM=>refine' L2.aH ?a ?l ?c ?k;(case a=>k_is);(case l=>k_is);(case c=>k_is);(case k=>k_is)
  case BO=>refine' L2.aH ?a ?l ?c ?k;(case a=>k_is);(case l=>k_is);(case c=>k_is);(case k=>k_is)
  case BQ=>refine' L2.aH ?a ?l ?c ?k;(case a=>k_is);(case l=>k_is);(case c=>k_is);(case k=>k_is)
  case BU=>refine' L2.aH ?a ?l ?c ?k;(case a=>k_is);(case l=>k_is);(case c=>k_is);(case k=>k_is)
  case BV=>refine' L2.aH ?a ?l ?c ?k;(case a=>k_is);(case l=>k_is);(case c=>k_is);(case k=>k_is)
  case B0=>refine' L2.aH ?a ?l ?c ?k;(case a=>k_is);(case l=>k_is);(case c=>k_is);(case k=>k_is)
  case h0=>refine' L2.aH ?a ?l ?c ?k;(case a=>k_is);(case l=>k_is);(case c=>k_is);(case k=>k_is)
  case s1=>k_is
  case zz=>
   refine' Bo.mpr ⟨?_,?_⟩;k_is;refine' Bo.mpr ⟨?_,?_⟩;k_is;refine' Bo.mpr ⟨?_,?_⟩;k_is;refine' Bo.mpr ⟨?_,?_⟩;k_is;refine' Bo.mpr ⟨?_,?_⟩;k_is;refine' Bo.mpr ⟨?_,?_⟩;k_is;refine' Bo.mpr ⟨?_,?_⟩;k_is;refine' Bo.mpr ⟨?_,?_⟩;k_is;refine' Bo.mpr ⟨?_,?_⟩;k_is;refine' Bo.mpr ⟨?_,?_⟩;k_is;refine' Bo.mpr ⟨?_,?_⟩;k_is;refine' Bo.mpr ⟨?_,?_⟩;k_is;refine' Bo.mpr ⟨?_,?_⟩;k_is;refine' Bo.mpr ⟨?_,?_⟩;k_is;refine' Bo.mpr ⟨?_,?_⟩;k_is;exact λx hx=>nomatch hx

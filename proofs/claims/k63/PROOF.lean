import PyProof.Rows.All
import Wide.All
import OpenK.AllK
import Wide.FinOn
import Lean
import PyProof.EqAt
import PyProof.EqKinds
import PyProof.TupleCall
import KE.KDictLaws
import KE.KDictList
import KE.KDictSum
import KE.KIsAll
import KE.KSortTup
import KE.KUnpack
import KE.KUnpackStar
import PyProof.AttrMissSeq
import PyProof.CallStr
import PyProof.Conv_int_bool
import PyProof.DictItems
import PyProof.DictIter
import PyProof.DictList
import PyProof.EnumFor
import PyProof.EnumMake
import PyProof.EnumStmt
import PyProof.ExcArgsOwn
import PyProof.ExcAttrAll.ValueError
import PyProof.ExcBaseAll.ValueError
import PyProof.NeKinds
import PyProof.NsDelKeeps
import PyProof.Rows.CatchOwn
import PyProof.Rows.CountFlat
import PyProof.Rows.EnumRows
import PyProof.Rows.FStr
import PyProof.Rows.SortRev
import PyProof.Rows.StrSplitJoin
import PyProof.Rows.StrWeight2
import PyProof.Rows.TupDisplay
import PyProof.RulesTry
import PyProof.SetNew
import PyProof.SetRoads
import PyProof.StationsW
import PyProof.TupleKey
import PyProof.WalkInts
import PyProof.ZipIter
import PySem.Challenge.RW_threewebs_k63_whole_odd_with_one_walker
abbrev BJ:=@if_neg
abbrev BK:=@PySem.wpAny_bind
abbrev BL:=@if_pos
abbrev BP:=@PySem.wpAny_pure
abbrev BR:=@decide_eq_false
abbrev BW:=@decide_eq_true
abbrev BX:=@of_decide_eq_true
abbrev BZ:=@congrArg
abbrev CG:=@Ne.symm
abbrev CJ:=@PySem.W.mg_none_of
abbrev CK:=@PySem.wpAny_mono
abbrev CN:=@Classical.byContradiction
abbrev CP:=@PySem.mem_of_lookup
abbrev CQ:=@PySem.wpAny_holding
abbrev CT:=@if_true
abbrev CV:=@if_false
abbrev CW:=@PySem.boot_len
abbrev CZ:=@PySem.W.kia_one
abbrev DG:=@PySem.sizeLine_eq
abbrev DK:=@PySem.wpAny_truthy_bool
abbrev DN:=@PySem.wpAny_newObj_type
abbrev DP:=@PyProof.Rows.wpS_bind
abbrev DQ:=@or_false
abbrev DR:=@decide_eq_true_eq
abbrev DW:=@PyProof.Rows.callWith_type1
abbrev DX:=@PySem.wpAny_typeNameOfWhole_itemiter
abbrev DY:=@PySem.F.slot_dict_itemiterator_next
abbrev EY:=@PySem.F.plainAttrs_list
abbrev FJ:=@Prod.ext
abbrev FN:=@PySem.wpAny_call_entry
abbrev FP:=@PySem.wpAny_passesOwn
abbrev FQ:=@PySem.wpAny_standAt
abbrev FT:=@List.Pairwise.map
abbrev FW:=@PySem.wpAny_typeNameOf_itemiter
abbrev FZ:=@PySem.wpAny_rule
abbrev GJ:=@PySem.wpAny_setField_rec
abbrev GQ:=@of_decide_eq_false
abbrev GX:=@PySem.W.cellsFrom_some
abbrev GZ:=@PyProof.Rows.wpS_pure
abbrev HD:=@PyProof.Rows.boot_isinstance
abbrev HJ:=@PySem.PassesOwn.never
abbrev HN:=@PySem.W.KasT.kasWp_bind
abbrev HS:=@PySem.wpAny_Call_Name_kw
abbrev HW:=@PySem.tupleKind_room_in1
abbrev HX:=@PySem.wpAny_comprehension_free
abbrev HY:=@decide_eq_true_iff
abbrev IK:=@PySem.Calls.callWith_builtin
abbrev IV:=@PySem.wpAny_isOneOf_itemiter
abbrev IW:=@List.eraseIdx_append_of_lt_length
abbrev JB:=@PyProof.Rows.listUpdate_at
abbrev JC:=@PyProof.Rows.boot_int
abbrev JD:=@PySem.F.args_dict_itemiterator_next_1
abbrev JF:=@PySem.codeAny_mono
abbrev JG:=@PyProof.Rows.listItems_at
abbrev JH:=@PyProof.Rows.wpS_forRange
abbrev JK:=@PySem.codeAny_builtin
abbrev JL:=@PySem.Around.under_plainId
abbrev JM:=@PySem.F.entry_dict_itemiterator_next
abbrev JN:=@PySem.F.slot_dict_itemiterator_iter
abbrev JQ:=@PySem.Heap.SameBut.update
abbrev JR:=@PyProof.Rows.seqEpoch_at
abbrev JT:=@PySem.wpAny_of_eq
abbrev JV:=@List.lookup_append
abbrev JW:=@PySem.wpAny_newList
abbrev JX:=@Option.isSome_map
abbrev JZ:=@bne_self_eq_false
abbrev KC:=@PySem.wpAny_dictEntries
abbrev KD:=@Nat.lt_trichotomy
abbrev KH:=@PySem.call_meets
abbrev KJ:=@PySem.strKind_is
abbrev KN:=@List.drop_eq_getElem_cons
abbrev KQ:=@PySem.F.slot_set_contains
abbrev KR:=@Int.eq_of_mul_eq_mul_left
abbrev KY:=@PySem.seqIndex_neg
abbrev KZ:=@PyProof.Rows.boot_sorted
abbrev LC:=@Nat.min_eq_right
abbrev LK:=@Nat.succ_pos
abbrev LQ:=@PySem.F.slot_list_insert
abbrev LR:=@PySem.F.type_list_insert
abbrev MF:=@decide_eq_false_iff_not
abbrev MJ:=@List.pairwise_singleton
abbrev MK:=@PySem.wpAny_execs_nil
abbrev MN:=@List.of_mem_zip
abbrev MP:=@List.forIn_cons
abbrev NK:=@PySem.codeAny_of_tree
abbrev NQ:=@Nat.min_eq_left
abbrev NZ:=@PySem.wpAny_dictEpoch
abbrev OD:=@List.find?_some
abbrev OJ:=@Int.mul_ne_zero
abbrev PB:=@PySem.seqIndex_of
abbrev PJ:=@List.length_pos_of_mem
abbrev PK:=@PySem.wpAny_field
abbrev PL:=@Array.getElem?_eq_none
abbrev PN:=@PyProof.Rows.boot_list
abbrev PX:=@PyProof.Rows.boot_dict
abbrev QB:=@List.Perm.append_right
abbrev QC:=@Bool.not_false
abbrev QD:=@PySem.F.plain_set_new
abbrev QF:=@List.length_filter_le
abbrev QG:=@Bool.xor_false
abbrev QJ:=@PyProof.Rows.boot_max
abbrev QK:=@Int.mul_le_mul
abbrev QL:=@List.Perm.append_left
abbrev QM:=@List.any_cons
abbrev QS:=@List.map_drop
abbrev QT:=@Bool.true_xor
abbrev QV:=@List.map_nil
abbrev QW:=@Nat.le_total
abbrev QX:=@Nat.sub_zero
abbrev QZ:=@Nat.sub_self
abbrev RB:=@Int.le_trans
abbrev RD:=@Int.zero_mul
abbrev RG:=@Int.dvd_refl
theorem Z2:2<=PySem.sizeLine:=by decide
theorem Z0:0<=PySem.sizeLine:=by decide
theorem Z1:1<=PySem.sizeLine:=by decide
set_option Elab.async false
set_option linter.all false
set_option maxRecDepth 100000
set_option maxHeartbeats 4000000
abbrev Aa:=@List.length_map
abbrev Ab:=@List.getElem?_eq_getElem
abbrev Ac:=@List.getElem?_eq_some_iff
abbrev Ad:=@List.mem_cons_self
abbrev Ae:=@List.mem_cons_of_mem
abbrev Af:=@List.length_append
abbrev Ag:=@List.getElem?_map
abbrev Ah:=@List.map_append
abbrev Ai:=@List.mem_cons
abbrev Aj:=@List.mem_map
abbrev Ak:=@PySem.Heap.get?_push_of_some
abbrev Al:=@Nat.le_refl
abbrev Am:=@List.mem_singleton
abbrev An:=@List.length_cons
abbrev Ao:=@List.append_assoc
abbrev Ap:=@List.mem_append_right
abbrev Aq:=@List.mem_append
abbrev Ar:=@Bool.false_ne_true
abbrev As:=@List.size_toArray
abbrev At:=@List.mem_of_getElem?
abbrev Au:=@List.map_cons
abbrev Av:=@List.getElem?_append_left
abbrev Aw:=@List.mem_append_left
abbrev Ax:=@PySem.Heap.lt_size
abbrev Ay:=@List.map_congr_left
abbrev Az:=@List.getElem?_append_right
abbrev Ba:=@List.getElem?_of_mem
abbrev Bb:=@PySem.Heap.get?_push_size
abbrev Bc:=@List.getElem?_eq_none
abbrev Bd:=@List.nodup_cons
abbrev Be:=@List.append_nil
abbrev Bf:=@Nat.lt_of_lt_of_le
abbrev Bg:=@Option.map_eq_some_iff
abbrev Bh:=@List.length_eq_zero_iff
abbrev Bi:=@List.map_map
abbrev Bj:=@List.length_take
abbrev Bk:=@List.not_mem_nil
abbrev Bm:=@List.sum_cons
abbrev Bn:=@List.getElem_mem
abbrev Bo:=@Nat.zero_le
abbrev Bp:=@List.pairwise_iff_getElem
abbrev Bq:=@Int.emod_nonneg
abbrev Br:=@List.forall_mem_cons
abbrev Bs:=@Nat.mod_eq_of_lt
abbrev Bt:=@List.flatMap_cons
abbrev Bu:=@List.nodup_append
abbrev Bv:=@Int.emod_lt_of_pos
abbrev Bw:=@List.take_length
abbrev Bx:=@List.perm_append_comm
abbrev By:=@Int.toNat_natCast
abbrev Bz:=@Nat.ne_of_lt
abbrev Ca:=@List.mem_range
abbrev Cb:=@List.nodup_iff_pairwise_ne
abbrev Cc:=@List.getElem?_range
abbrev Cd:=@Nat.le_trans
abbrev Ce:=@List.mem_iff_getElem
abbrev Cf:=@List.nodup_nil
abbrev Cg:=@Array.getElem?_toList
abbrev Ch:=@List.getElem?_cons_succ
abbrev Ci:=@List.length_range
abbrev Cj:=@Bool.false_eq_true
abbrev Ck:=@List.length_singleton
abbrev Cl:=@Nat.le_of_lt
abbrev Cn:=@Array.length_toList
abbrev Co:=@List.length_pos_iff
abbrev Cp:=@List.length_drop
abbrev Cq:=@List.count_pos_iff
abbrev Cr:=@List.count_cons
abbrev Cs:=@Bool.and_eq_true
abbrev Ct:=@List.take_append_drop
abbrev Cu:=@List.take_add_one
abbrev Cv:=@List.ext_getElem?
abbrev Cw:=@List.flatten_cons
abbrev Cy:=@List.perm_cons_erase
abbrev Cz:=@List.pairwise_cons
abbrev Da:=@List.mem_filter
abbrev Db:=@List.filter_cons
abbrev Dc:=@List.contains_iff_mem
abbrev Dd:=@Nat.lt_irrefl
abbrev Dg:=@List.getElem?_take_of_lt
abbrev Dh:=@List.length_erase_of_mem
abbrev Di:=@List.range_succ
abbrev Dj:=@List.lookup_cons
abbrev Dk:=@PySem.Heap.get?_update_other
abbrev Dl:=@Int.zero_add
abbrev Dm:=@List.flatMap_append
abbrev Do:=@List.exists_mem_of_ne_nil
abbrev Dp:=@List.length_replicate
abbrev Dq:=@List.filter_append
abbrev Dr:=@List.getElem_map
abbrev Ds:=@Nat.ne_of_gt
abbrev Du:=@List.mem_erase_of_ne
abbrev Dv:=@List.getElem?_replicate
abbrev Dw:=@List.getElem?_set_self
abbrev Dx:=@List.take_of_length_le
abbrev Dy:=@Nat.mod_self
abbrev Dz:=@List.mem_of_mem_erase
abbrev Eb:=@List.foldl_cons
abbrev Ec:=@Nat.not_lt_zero
abbrev Ed:=@List.getElem?_set_ne
abbrev Ee:=@Nat.le_of_succ_le
abbrev Ef:=@Nat.lt_or_ge
abbrev Eh:=@List.count_append
abbrev Ej:=@List.length_eraseIdx
abbrev Ek:=@Int.mul_emod
abbrev El:=@Option.isSome_iff_exists
abbrev Em:=@Nat.zero_add
abbrev Ep:=@List.drop_of_length_le
abbrev Er:=@List.append_eq_nil_iff
abbrev Es:=@Nat.lt_of_le_of_ne
abbrev Eu:=@List.filter_eq_nil_iff
abbrev Ex:=@Bool.eq_iff_iff
abbrev Ey:=@List.find?_cons
abbrev Ez:=@List.nil_append
abbrev Fa:=@Nat.lt_succ_of_lt
abbrev Fb:=@Bool.eq_false_iff
abbrev Fc:=@List.pairwise_map
abbrev Fd:=@Array.getD_eq_getD_getElem?
abbrev Fe:=@List.mem_zipIdx_iff_le_and_getElem?_sub
abbrev Ff:=@List.getElem?_modify
abbrev Fg:=@Nat.one_pos
abbrev Fh:=@List.lt_irrefl
abbrev Fi:=@List.cons_append
abbrev Fj:=@List.mem_flatten
abbrev Fk:=@List.mem_flatMap
abbrev Fm:=@List.filterMap_cons
abbrev Fn:=@List.flatten_append
abbrev Fo:=@List.mem_of_mem_eraseIdx
abbrev Fp:=@List.getElem_range
abbrev Fq:=@List.append_of_mem
abbrev Fr:=@List.getElem?_drop
abbrev Fs:=@List.getElem?_eraseIdx
abbrev Ft:=@List.range_succ_eq_map
abbrev Fu:=@Nat.zero_lt_of_lt
abbrev Fv:=@List.getElem_inj
abbrev Fw:=@List.lt_trans
abbrev Fx:=@Nat.le_succ
abbrev Fy:=@PySem.Heap.get?_push_cases
abbrev Fz:=@Int.emod_emod_of_dvd
abbrev Ga:=@Option.map_some
abbrev Gb:=@List.length_nil
abbrev Gc:=@List.reverse_append
abbrev Gd:=@PySem.Heap.size_push
abbrev Ge:=@Bool.false_xor
abbrev Gf:=@Bool.not_true
namespace L2
open PySem PySem.Spec PyProof.Rows
abbrev Key:=Sum Int Str
def ot:Key->Value->Bool
 | .inl k,v=>Value.isInt k v
 | .inr x,v=>Value.isStrOf x v
def wB(w:World):Key->Int
 | .inl k=>hashInt k
 | .inr x=>hashStr w x
theorem i4:∀{k:Key} {v:Value},ot k v=true->(∃ i t,k=Sum.inl i/\v=Value.int i t)\/(∃ x t,k=Sum.inr x/\v=Value.str x t)
 | .inl i,v,h=>by
  obtain⟨t,e⟩:=Value.isInt_shape (k:=i) (v:=v) h;exact .inl ⟨i,t,rfl,e⟩
 | .inr x,v,h=>by
  obtain⟨t,e⟩:=Value.isStrOf_shape (x:=x) (v:=v) h;exact .inr ⟨x,t,rfl,e⟩
theorem Oi(i:Int)(t:Tok):ot (.inl i) (.int i t)=true:=by simp [ot,Value.isInt]
theorem Oj(x:Str)(t:Tok):ot (.inr x) (.str x t)=true:=by simp [ot,Value.isStrOf]
theorem Ol(a b:Int):decide ((Sum.inl a:Key)=Sum.inl b)=(a == b):=by
 by_cases e:a=b
 ·subst e;simp
 ·have h:¬(Sum.inl a:Key)=Sum.inl b:=λq=>e<|Sum.inl.inj q;rw [BR h];exact(beq_eq_false_iff_ne.mpr e).symm
theorem Om(a b:Str):decide ((Sum.inr a:Key)=Sum.inr b)=decide (a=b):=by
 by_cases e:a=b
 ·subst e;simp
 ·have h:¬(Sum.inr a:Key)=Sum.inr b:=λq=>e<|Sum.inr.inj q;rw [BR h,BR e]
theorem Oo(a:Int)(b:Str):decide ((Sum.inl a:Key)=Sum.inr b)=false:=BR λq=>nomatch q
theorem Oq(a:Str)(b:Int):decide ((Sum.inr a:Key)=Sum.inl b)=false:=BR λq=>nomatch q
def cQ(prog:Program)(w:World):PySem.KeyKind prog w Key where
 is:=ot
 hash:=wB w
 inj:=λv a b ha hb=>by
  rcases i4 ha with ⟨i,t,rfl,rfl⟩ | ⟨x,t,rfl,rfl⟩
  ·rcases i4 hb with ⟨j,u,rfl,e⟩ | ⟨y,u,rfl,e⟩
   ·injection e with e1 _;rw [e1]
   ·exact nomatch e
  ·rcases i4 hb with ⟨j,u,rfl,e⟩ | ⟨y,u,rfl,e⟩
   ·exact nomatch e
   ·injection e with e1 _;rw [e1]
 byValue:=λk v h=>by
  rcases i4 h with ⟨i,t,rfl,rfl⟩ | ⟨x,t,rfl,rfl⟩ <;> rfl
 pyHash:=λhv h=>by
  rcases i4 hv with ⟨i,t,rfl,rfl⟩ | ⟨x,t,rfl,rfl⟩
  ·exact wpAny_pyHash_int h
  ·exact wpAny_pyHash_str h
 eqBool:=λhu hv h=>by
  rcases i4 hu with ⟨i,t,rfl,rfl⟩ | ⟨x,t,rfl,rfl⟩
  ·rcases i4 hv with ⟨j,u,rfl,rfl⟩ | ⟨y,u,rfl,rfl⟩
   ·rw [Ol] at h;exact wpAny_eqBool_int h
   ·rw [Oo] at h;exact SeqAt.EqAt.int_str i t y u _ _ _ _ h
  ·rcases i4 hv with ⟨j,u,rfl,rfl⟩ | ⟨y,u,rfl,rfl⟩
   ·rw [Oq] at h;exact SeqAt.EqAt.str_int x t j u _ _ _ _ h
   ·rw [Om] at h;exact wpAny_eqBool_str h
 «strs»:=λk x t v h=>by
  rcases i4 h with ⟨i,u,rfl,e⟩ | ⟨y,u,rfl,e⟩
  ·exact nomatch e
  ·injection e with e1 _
   subst e1;cases v <;> rfl
theorem Ot(prog:Program)(w:World)(i:Int)(t:Tok):(cQ prog w).is (.inl i) (.int i t)=true:=Oi i t
theorem Ou(prog:Program)(w:World)(x:Str)(t:Tok):(cQ prog w).is (.inr x) (.str x t)=true:=Oj x t
inductive V where
 | non | bl (b:Bool) | int (i:Int) | str (x:Str) | gE (b:Array UInt8) | ou (b:UInt64) | ref (a:Addr) | ty (n:String)
 deriving DecidableEq
def RelV:V->Value->Prop
 | .non,u=>u=Value.none
 | .bl b,u=>u=Value.bool b
 | .int i,u=>∃ t,u=Value.int i t
 | .str x,u=>∃ t,u=Value.str x t
 | .gE b,u=>∃ t,u=Value.bytes b t
 | .ou b,u=>∃ t,u=Value.float b t
 | .ref a,u=>u=Value.ref a
 | .ty n,u=>u=Value.type n
abbrev ax:List V->List Value->Prop:=Paired RelV
theorem ax.length{xs:List V}{us:List Value}(r:ax xs us):xs.length=us.length:=Paired.length r
theorem ax.get:∀{xs:List V} {us:List Value} {i:Nat} {x:V},ax xs us->xs[i]?=some x->∃ u,us[i]?=some u/\RelV x u
 | _,_,_,_,.nil,e=>by simp at e
 | _,_,0,_,.cons r _,e=>by simp at e;subst e;exact⟨_,rfl,r⟩
 | _,_,i+1,x,.cons _ t,e=>by
  obtain⟨u,h1,h2⟩:=ax.get (i:=i) (x:=x) t (by simpa using e);exact⟨u,by simpa using h1,h2⟩
theorem ax.set{x:V}{u:Value}(r:RelV x u):∀{xs:List V} {us:List Value} (i:Nat),ax xs us->ax (xs.set i x) (us.set i u)
 | _,_,_,.nil=> .nil
 | _,_,0,.cons _ t=> .cons r t
 | _,_,i+1,.cons q t=> .cons q<|ax.set r i t
theorem ax.append:∀{xs ys:List V} {us ws:List Value},ax xs us->ax ys ws->ax (xs++ys) (us++ws)
 | _,_,_,_,.nil,s=>s
 | _,_,_,_,.cons r t,s=> .cons r<|ax.append t s
theorem ax.take:∀{xs:List V} {us:List Value} (n:Nat),ax xs us->ax (xs.take n) (us.take n)
 | _,_,0,_=> .nil
 | _,_,_+1,.nil=> .nil
 | _,_,n+1,.cons r t=> .cons r<|ax.take n t
theorem ax.drop:∀{xs:List V} {us:List Value} (n:Nat),ax xs us->ax (xs.drop n) (us.drop n)
 | _,_,0,r=>r
 | _,_,_+1,.nil=> .nil
 | _,_,n+1,.cons _ t=>ax.drop n t
def c9:Option V->Option Value->Prop
 | some v,some u=>RelV v u
 | none,none=>True
 | _,_=>False
def KV{κ:Type}:List (κ×V)->List (κ×Value)->Prop:=Paired λ(p:κ×V) (q:κ×Value)=>p.1=q.1/\RelV p.2 q.2
def kV:Key->V
 | .inl i=> .int i
 | .inr x=> .str x
inductive HO where
 | lst (xs:List V)
 | tup (xs:List V)
 | dK (kvs:List<|Key×V) | dT (kvs:List<|List Key×V)
 | set (S:Int->Bool) (n:Nat)
 | ins (C dx:Addr) (fs:List<|Str×V)
 | own (x:Addr)
 | xd (fs:List<|Str×V)
 | met (f x:Addr)
 | wC (lo hi:Int)
 | bv (o:Obj) (u:HO)
 | lG (ps:Array Value)
 | ext (φ:Heap->Prop)
abbrev Hp:=Addr->Option HO
def upd(H:Hp)(a:Addr)(o:HO):Hp:=λb=>if b=a then some o else H b
theorem aC{H:Hp}{a:Addr}{o:HO}:upd H a o a=some o:=by unfold upd;rw [BL rfl]
theorem aw{H:Hp}{a b:Addr}{o:HO}(h:b≠a):upd H a o b=H b:=by unfold upd;rw [BJ h]
theorem Ov{H:Hp}{a:Addr}{o u:HO}:upd (upd H a o) a u=upd H a u:=by
 funext b;unfold upd;split <;> rfl
theorem bW{H:Hp}{a b:Addr}{o u:HO}(h:H a=some o)(h':H b=some u)(d:o≠u):a≠b:=by
 intro e;subst e;rw [h] at h';exact d<|Option.some.inj h'
theorem bD{H:Hp}{a b:Addr}{o:HO}(h:H a=some o)(h':H b=none):a≠b:=by
 intro e;subst e;rw [h] at h';cases h'
section
variable(P:Program)(w:World)
def ay(H:Hp)(h:Heap)(a:Addr):HO->Prop
 | .lst xs=>xs.length<=sizeLine/\∃(its:List Value) (n:Nat),ax xs its/\h.get? a=some {cls:= .type "list",data:= .seq its.toArray n}
 | .tup xs=>xs.length<=sizeLine/\∃ its:List Value,ax xs its/\IsTup h a its.toArray
 | .dK kvs=>kvs.length<=sizeLine/\(a == sysModules)=false/\∃ vs,KV kvs vs/\h.DictOf (cQ P w) a vs
 | .dT kvs=>kvs.length<=sizeLine/\(a == sysModules)=false/\∃ xs:List<|List Key×Addr×Value,
   Paired (λ(p:List Key×V) (q:List Key×Addr×Value)=>p.1=q.1/\H q.2.1=some (.tup<|p.1.map kV)/\RelV p.2 q.2.2) kvs xs /\
   ∃ o es ep,h.get? a=some o/\o.ExactDict/\o.data = .dict es ep/\es.toList=xs.map (entryOfKey<|tupleKind<|cQ P w)/\(xs.map (·.1)).Nodup
 | .set S n=>h.SetOf (intKind P w) a S n
 | .ins C dx fs=>H dx=some (.own a)/\fs.length<=1000/\dx≠a/\h.get? a=some (PySem.W.instObj C dx) /\
   ∃ mA,h.Ns1 dx mA/\(∀ f,c9 (fs.lookup f)<|mA f)/\PySem.Within mA (fs.map (·.1))
 | .own _=>∃ o,h.get? a=some o
 | .xd fs=>∃ mA,h.Ns1 a mA/\∀ f,c9 (fs.lookup f)<|mA f
 | .wC lo hi=>∃ t u v,h.get? a=some {cls:= .type "range",data:= .fields #[.int lo t,.int hi u,.int 1 v]}
 | .bv o u=>h.get? a=some o/\ay H h a u
 | .lG ps=>h.get? a=some {cls:= .none,data:= .fields ps}
 | .met f x=>h.get? a=some (PySem.W.methodObj (.ref f)<|.ref x)
 | .ext φ=>φ h/\(∃ o,h.get? a=some o)/\∀ h1 h2:Heap,φ h1->(∀ o,h1.get? a=some o->h2.get? a=some o)->φ h2
def b8(H:Hp)(h:Heap):Prop:=∀ a o,H a=some o->ay P w H h a o
end
section
variable{P:Program}{w:World}{H H':Hp}{h h':Heap}{a:Addr}{o:HO}
theorem ay.lt(x:ay P w H h a o):a < h.objs.size:=by
 cases o with
 | lst xs=>obtain⟨_,_,_,_,e⟩:=x;exact Ax e
 | tup xs=>obtain⟨_,_,_,p⟩:=x;exact p.lt
 | dK kvs=>obtain⟨_,_,_,_,o,_,_,e,_⟩:=x;exact Ax e
 | dT kvs=>obtain⟨_,_,_,_,o,_,_,e,_⟩:=x;exact Ax e
 | set S n=>obtain⟨o,_,_,_,e,_⟩:=x;exact Ax e
 | ins C dx fs=>obtain⟨_,_,_,e,_⟩:=x;exact Ax e
 | own y=>obtain⟨_,e⟩:=x;exact Ax e
 | xd fs=>obtain⟨_,⟨_,_,_,e,_⟩,_⟩:=x;exact Ax e
 | wC lo hi=>obtain⟨_,_,_,e⟩:=x;exact Ax e
 | bv ob u=>obtain⟨e,_⟩:=x;exact Ax e
 | lG ps=>exact Ax (show h.get? a=some _ from x)
 | met f y=>exact Ax (show h.get? a=some _ from x)
 | ext φ=>obtain⟨_,⟨_,e⟩,_⟩:=x;exact Ax e
theorem Paired.lH{α β:Type}{F G:α->β->Prop}:∀{l₁:List α} {l₂:List β},Paired F l₁ l₂->(∀ a b,F a b->G a b)->Paired G l₁ l₂
 | _,_,.nil,_=> .nil
 | _,_,.cons r t,f=> .cons (f _ _ r)<|Paired.lH t f
theorem ay.gF(x:ay P w H h a o)(k:∀ b u,(b=a\/H b=some (.own a))->h.get? b=some u->h'.get? b=some u)
  (ho:∀ b,H b=some (.own a)->H' b=some (.own a)) (ht:∀ b xs,H b=some (.tup xs)->H' b=some (.tup xs)):ay P w H' h' a o:=by
 induction o with
 | lst xs=>obtain⟨z,its,n,r,e⟩:=x;exact⟨z,its,n,r,k _ _ (.inl rfl) e⟩
 | tup xs=>obtain⟨z,its,r,ob,e,c⟩:=x;exact⟨z,its,r,ob,k _ _ (.inl rfl) e,c⟩
 | dK kvs=>obtain⟨z,y,vs,r,ob,es,ep,e,c⟩:=x;exact⟨z,y,vs,r,ob,es,ep,k _ _ (.inl rfl) e,c⟩
 | dT kvs=>
  obtain⟨z,y,xs,r,ob,es,ep,e,c⟩:=x;exact⟨z,y,xs,Paired.lH r λp q z=>⟨z.1,ht _ _ z.2.1,z.2.2⟩,ob,es,ep,k _ _ (.inl rfl) e,c⟩
 | set S n=>obtain⟨ob,es,ep,t,e,c⟩:=x;exact⟨ob,es,ep,t,k _ _ (.inl rfl) e,c⟩
 | ins C dx fs=>
  obtain⟨d,z,ne,e,mA,⟨od,es,ep,e2,c⟩,r⟩:=x;exact⟨ho _ d,z,ne,k _ _ (.inl rfl) e,mA,⟨od,es,ep,k _ _ (.inr d) e2,c⟩,r⟩
 | own y=>obtain⟨ob,e⟩:=x;exact⟨ob,k _ _ (.inl rfl) e⟩
 | xd fs=>obtain⟨mA,⟨od,es,ep,e,c⟩,r⟩:=x;exact⟨mA,⟨od,es,ep,k _ _ (.inl rfl) e,c⟩,r⟩
 | wC lo hi=>obtain⟨t,u,v,e⟩:=x;exact⟨t,u,v,k _ _ (.inl rfl) e⟩
 | bv ob u ih=>obtain⟨e,q⟩:=x;exact⟨k _ _ (.inl rfl) e,ih q⟩
 | lG ps=>
  have e:h.get? a=some {cls:= .none,data:= .fields ps}:=x;show h'.get? a=some {cls:= .none,data:= .fields ps};exact k a _ (.inl rfl) e
 | met f y=>
  have e:h.get? a=some (PySem.W.methodObj (.ref f)<|.ref y):=x;show h'.get? a=some (PySem.W.methodObj (.ref f)<|.ref y);exact k a _ (.inl rfl) e
 | ext φ=>obtain⟨p,⟨o,e⟩,st⟩:=x;exact⟨st _ _ p λo q=>k _ _ (.inl rfl) q,⟨o,k _ _ (.inl rfl) e⟩,st⟩
theorem b8.lt(x:b8 P w H h)(e:H a=some o):a < h.objs.size:=(x a o e).lt
theorem b8.fresh(x:b8 P w H h)(e:h.objs.size<=a):H a=none:=by
 cases q:H a with
 | none=>rfl
 | some u=>exact absurd (Bf (x.lt q) e)<|Dd _
theorem b8.kept(x:b8 P w H h)(k:∀ b u,h.get? b=some u->h'.get? b=some u):b8 P w H h':=λa o e=>
 (x a o e).gF (λb u _ q=>k b u q) (λ_ q=>q) λ_ _ q=>q
theorem b8.laid(x:b8 P w H h)(k:∀ b u,h.get? b=some u->h'.get? b=some u)(hp:h.objs.size<=a)(new:ay P w (upd H a o) h' a o):b8 P w (upd H a o) h':=λb u e=>by
 have hn:=x.fresh hp
 by_cases hb:b=a
 ·subst hb;rw [aC] at e;cases e;exact new
 ·rw [aw hb] at e;exact(x b u e).gF (λc v _ q=>k c v q) (λc q=>by rw [aw<|bD q hn];exact q) λc xs q=>by rw [aw<|bD q hn];exact q
end
def Rd(H:Hp)(a:Addr)(u:HO):Prop:=H a=some u\/∃ o,H a=some (.bv o u)
theorem Rd.ok{P:Program}{w:World}{H:Hp}{h:Heap}{a:Addr}{u:HO}(r:Rd H a u)(x:b8 P w H h):ay P w H h a u:=by
 rcases r with r | ⟨o,r⟩
 ·exact x a u r
 ·obtain⟨_,q⟩:=x a _ r;exact q
def pW:Option HO->Prop
 | some (.lst _)=>True
 | some (.dK _)=>True
 | some (.dT _)=>True
 | some (.set _ _)=>True
 | some (.ins _ _ _)=>True
 | some (.ext _)=>True
 | _=>False
section
variable{P:Program}{w:World}{H:Hp}{h h':Heap}{x e:Addr}{o':HO}
theorem b8.write(ok:b8 P w H h)(mu:pW<|H x)(he:e=x\/H e=some (.own x))(k:∀ b u,b≠e->h.get? b=some u->h'.get? b=some u)(oz:∃ u,h'.get? e=some u)
  (new:ay P w (upd H x o') h' x o'):b8 P w (upd H x o') h':=λb u q=>by
 have pX:∀ c y,H c=some (.own y)->c≠x:=λc y r z=>by subst z;rw [r] at mu;exact mu
 have wD:∀ c xs,H c=some (.tup xs)->c≠x:=λc xs r z=>by subst z;rw [r] at mu;exact mu
 by_cases hb:b=x
 ·subst hb;rw [aC] at q;cases q;exact new
 ·rw [aw hb] at q
  by_cases js:b=e
  ·have q':H b=some (.own x):=by
    rcases he with z | z
    ·exact absurd (js.trans z) hb
    ·rw [js];exact z
   rw [q] at q';cases q';obtain⟨v,hv⟩:=oz;exact⟨v,by rw [js];exact hv⟩
  ·refine(ok b u q).gF (λc v hc r=>k c v ?_ r) (λc r=>by rw [aw<|pX c b r];exact r) λc xs r=>by rw [aw<|wD c xs r];exact r
   rcases hc with rfl | hc
   ·exact js
   ·rintro rfl
    rcases he with z | z
    ·exact pX c b hc z
    ·rw [hc] at z;cases z;exact hb rfl
end
structure Un(fs ex:List Addr)(H H':Hp)(h h':Heap):Prop where
 keep:∀ b o,h.get? b=some o->H b=none->b∉fs->b∉ex->h'.get? b=some o
 slot:∀ b o,h.get? b=some o->H b=none->b∈fs->b∉ex->∃ sl,h'.get? b=some {o with slots:=sl}
 free:∀ b o,h.get? b=some o->H b=none->b∉ex->H' b=none
 there:∀ b o,h.get? b=some o->b∉ex->∃ o',h'.get? b=some o'
 eJ:∀ b xs,H b=some (.tup xs)->H' b=some (.tup xs)
 dP:∀ b o u,H b=some (.bv o u)->H' b=some (.bv o u)
 eN:∀ b ps,H b=some (.lG ps)->∃ more,H' b=some (.lG<|ps++more)
section
variable{fs Ow ex FI:List Addr}{H H1 H2:Hp}{h h1 h2 h':Heap}{a x e:Addr}{o:HO}
theorem Un.any(u:Un fs ex H H1 h h1){b:Addr}{ob:Obj}(q:h.get? b=some ob)(n:H b=none)(hx:b∉ex):∃ sl,h1.get? b=some {ob with slots:=sl}:=by
 by_cases hb:b∈fs
 ·exact u.slot b ob q n hb hx
 ·exact⟨ob.slots,u.keep b ob q n hb hx⟩
theorem Un.kept(k:∀ b u,h.get? b=some u->h'.get? b=some u):Un fs ex H H h h':=
 ⟨λb ob q _ _ _=>k b ob q,λb ob q _ _ _=>⟨ob.slots,k b ob q⟩,λ_ _ _ n _=>n,λb ob q _=>⟨ob,k b ob q⟩,λ_ _ q=>q,λ_ _ _ q=>q,λ_ ps q=>⟨#[],by rw [q];simp⟩⟩
theorem Un.refl:Un fs ex H H h h:=Un.kept λ_ _ q=>q
theorem Un.laid(k:∀ b u,h.get? b=some u->h'.get? b=some u)(hp:h.objs.size<=a)(hn:H a=none):Un fs ex H (upd H a o) h h' where
 keep:=λb u q _ _ _=>k b u q
 slot:=λb u q _ _ _=>⟨u.slots,k b u q⟩
 free:=λb u q n _=>by rw [aw<|Bz<|Bf (Ax q) hp];exact n
 there:=λb u q _=>⟨u,k b u q⟩
 eJ:=λb xs q=>by rw [aw<|bD q hn];exact q
 dP:=λb u xs q=>by rw [aw<|bD q hn];exact q
 eN:=λb ps q=>⟨#[],by rw [aw<|bD q hn,q];simp⟩
theorem Un.write(mu:pW<|H x)(he:e=x\/H e=some (.own x))(k:∀ b u,b≠e->h.get? b=some u->h'.get? b=some u)(oz:∃ u,h'.get? e=some u):Un fs ex H (upd H x o) h h':=by
 have hx:∀ b,H b=none->b≠x:=λb n z=>by subst z;rw [n] at mu;exact mu
 have hb:∀ b,H b=none->b≠e:=λb n z=>by
  subst z
  rcases he with r | r
  ·exact hx b n r
  ·rw [n] at r;cases r
 have hm:∀ b u,H b=some u->¬ pW (some u)->b≠x:=λb u q nm z=>by subst z;rw [q] at mu;exact nm mu
 refine⟨λb u q n _ _=>k b u (hb b n) q,λb u q n _ _=>⟨u.slots,k b u (hb b n) q⟩,λb u q n _=>by rw [aw<|hx b n];exact n,λb u q _=>?_,
  λb xs q=>by rw [aw<|hm b _ q λz=>z];exact q,λb u xs q=>by rw [aw<|hm b _ q λz=>z];exact q,λb ps q=>⟨#[],by rw [aw<|hm b _ q λz=>z,q];simp⟩⟩
 by_cases js:b=e
 ·subst js;exact oz
 ·exact⟨u,k b u js q⟩
end
def tL(h:Heap)(H:Hp):List Addr:=(List.range h.objs.size).filter λa=>(H a).isSome
def dQ(h:Heap)(H:Hp):Heap:=PySem.W.hideAll h<|tL h H
theorem Ox(h:Heap)(H:Hp):(dQ h H).objs.size=h.objs.size:=PySem.W.hideAll_size _ _
theorem Oy{h:Heap}{H:Hp}{b:Addr}{o:Obj}(e:h.get? b=some o)(n:H b=none):(dQ h H).get? b=some o:=
 PySem.W.hideAll_get _ e λhm=>by
  have q:(H b).isSome=true:=(Da.mp hm).2;rw [n] at q;simp at q
theorem Oz{h:Heap}{H:Hp}{b:Addr}{o:Obj}(e:(dQ h H).get? b=some o):h.get? b=some o/\H b=none:=by
 have e':h.get? b=some o:=PySem.W.of_hideAll (tL h H) e;refine⟨e',?_⟩;cases q:H b with
 | none=>rfl
 | some x=>
  have hm:b∈tL h H:=Da.mpr ⟨Ca.mpr<|Ax e',by simp [q]⟩;have z:(dQ h H).get? b=none:=PySem.W.hideAll_none (tL h H) hm;rw [z] at e;cases e
structure Mod(K:PySem.W.Frag)(mg:Str->Option Value)(base:Heap):Prop where
 pY:K.In base
 glob:base.Ns mainGlobals mg
 blt:∃ mb,base.Ns builtinsNs mb/\∀ x:Str,x ≠ "__name__"->mb x=bootBuiltins x
 nolimit:base.NoLimit
structure Cx where
 prog:Program
 w:World
 K:PySem.W.Frag
 mg:Str->Option Value
 base:Heap
 A:Around
 N:List Str
 s₀:Shared
 H₀:Hp
 env:Env
 outer:List Env
 stack:List Env
 ex:List Addr
 fn:Str->Bool
 calm:Bool
 pn:List<|Addr×Obj
 xe:Value->Shared->Prop
def g6(l:List Env):List Addr:=l.filterMap (·.frame)
abbrev Cx.fs(X:Cx):List Addr:=g6 X.outer
def tM(sc:Scope)(x:Str):Prop:=sc.names.lookup x=some .local\/sc.names.lookup x=some .cell\/sc.names.lookup x=some .free
def Loc(sc:Scope)(x:Str):Prop:=sc.names.lookup x=some .local\/sc.names.lookup x=some .cell
def Look(env:Env)(h:Heap)(m:Str->Option Value)(x:Str)(u:Value):Prop:=
 (env.kindOf x=some .local/\m x=some u)\/((env.kindOf x=some .cell\/env.kindOf x=some .free)/\∃ c,env.cells.lookup x=some c/\h.IsCell c (some u))
structure Cx.Ok(X:Cx):Prop where
 mod:Mod X.K X.mg X.base
 kind:X.env.scope.kind = .function
 glob:X.env.globals=mainGlobals
 blt:X.env.builtins=builtinsNs
 above:X.s₀.heap.objs.size<=X.env.locals
 inj:∀ x y c,X.env.cells.lookup x=some c->X.env.cells.lookup y=some c->x=y
 has:∀ x,(X.env.kindOf x=some .cell\/X.env.kindOf x=some .free)->∃ c,X.env.cells.lookup x=some c
 pZ:∀ x c,X.fn x=true->X.env.cells.lookup x=some c->X.s₀.heap.objs.size<=c
 hd:X.calm=true->X.A.handled=none
 frames:X.A.frames=some X.stack
 tN:X.stack=X.outer\/(X.stack=X.env :: X.outer/\X.env.frame=some X.env.locals)
 FK:∀ b∈X.ex,b≠X.env.locals/\∀ x c,X.env.cells.lookup x=some c->c≠b
 bs:∀ b o,X.base.get? b=some o->X.s₀.heap.get? b=some o/\X.H₀ b=none
 kg:X.base.objs.size<=X.s₀.heap.objs.size
 im:∀ b o,X.base.get? b=some o->b∉X.ex
 jt:∀ b∈X.ex,b∉X.fs
 db:X.s₀.heap.FunFrames X.base X.outer
 oA:∀ b∈X.fs,X.H₀ b=none
structure Inv(X:Cx)(pins:List<|Addr×Obj)(σ:List<|Option V)(H:Hp)(s:Shared):Prop where
 ok:X.Ok
 os:s.os=X.s₀.os
 bare:AllBare s.gens
 base:Un X.fs X.ex X.H₀ H X.s₀.heap s.heap
 loc:∃ m,s.heap.Ns X.env.locals m/\∀(i:Nat) (x:Str) (v:V),X.N[i]?=some x->σ[i]?=some (some v)->tM X.env.scope x->∃ u,RelV v u/\Look X.env s.heap m x u
 cell:∀ x c,X.env.cells.lookup x=some c->∃ v,s.heap.IsCell c v
 free:H X.env.locals=none
 bX:∀ x c,X.env.cells.lookup x=some c->H c=none
 pin:∀ p∈X.pn++pins,s.heap.get? p.1=some p.2/\H p.1=none/\p.1≠X.env.locals/\p.1∉X.fs/\∀ v,p.2.data ≠ .cell v
 aE:b8 X.prog X.w H s.heap
 len:σ.length=X.N.length
section
variable{X:Cx}{pins:List (Addr×Obj)}{σ:List (Option V)}{H H':Hp}{s:Shared}{h':Heap}
theorem Cx.Ok.wF(ok:X.Ok){b:Addr}{o:Obj}(e:X.base.get? b=some o):b∉X.fs:=λhb=>by
 have:=(ok.db.mem hb).1;rw [e] at this;cases this
theorem Inv.bs(I:Inv X pins σ H s):∀ b o,X.base.get? b=some o->s.heap.get? b=some o/\H b=none:=λb o e=>
 ⟨I.base.keep b o (I.ok.bs b o e).1 (I.ok.bs b o e).2 (I.ok.wF e)<|I.ok.im b o e,I.base.free b o (I.ok.bs b o e).1 (I.ok.bs b o e).2<|I.ok.im b o e⟩
theorem Inv.bk(I:Inv X pins σ H s):∀ b o,X.base.get? b=some o->s.heap.get? b=some o:=λb o e=>(I.bs b o e).1
theorem Inv.mod(I:Inv X pins σ H s):Mod X.K X.mg X.base:=I.ok.mod
theorem Inv.eO(I:Inv X pins σ H s):X.K.In s.heap:=I.ok.mod.pY.keeps I.bk
theorem Inv.lt(I:Inv X pins σ H s):X.env.locals < s.heap.objs.size:=let ⟨_,hn,_⟩:=I.loc;hn.lt
theorem Inv.sz(I:Inv X pins σ H s):X.s₀.heap.objs.size<=s.heap.objs.size:=Cd I.ok.above<|Cl I.lt
theorem Inv.wG(I:Inv X pins σ H s){a:Addr}(h:s.heap.objs.size<=a):a∉X.fs:=λhb=>by
 obtain⟨_,o,ho,_⟩:=I.ok.db.mem hb;exact absurd (Bf (Ax ho)<|Cd I.sz h)<|Dd _
theorem Inv.ju(I:Inv X pins σ H s):∀ x c,X.env.cells.lookup x=some c->c≠X.env.locals:=λx c e z=>by
 obtain⟨v,o,ho,hd⟩:=I.cell x c e;obtain⟨m,⟨o',es,ep,dA,OA,_⟩,_⟩:=I.loc;rw [z,dA] at ho;cases ho;rw [OA] at hd;cases hd
theorem Inv.db(I:Inv X pins σ H s):s.heap.FunFrames X.base X.outer:=by
 have all:∀(l:List Env),(∀ b∈g6 l,b∈X.fs)->X.s₀.heap.FunFrames X.base l->s.heap.FunFrames X.base l:=by
  intro l
  induction l with
  | nil=>intro _ _;trivial
  | cons env r ih=>
   intro hs hl;obtain⟨hk,⟨L,o,hf,hn,ho,hd⟩,hr⟩:=hl;have hL:L∈X.fs:=hs L (by unfold g6;rw [Fm,hf];exact Ad);obtain⟨sl,e⟩:=I.base.slot L o ho (I.ok.oA L hL) hL λz=>I.ok.jt L z hL;exact⟨hk,⟨L,_,hf,hn,e,hd⟩,ih (λb hb=>hs b<|by unfold g6;rw [Fm,hf];exact Ae _ hb) hr⟩
 exact all X.outer (λ_ hb=>hb) I.ok.db
theorem Inv.stack(I:Inv X pins σ H s):s.heap.FunFrames X.base X.stack:=by
 rcases I.ok.tN with e | ⟨e,hf⟩
 ·rw [e];exact I.db
 ·rw [e];obtain⟨m,hn,_⟩:=I.loc;refine .cons (by rw [I.ok.kind];decide) hf hn ?_ I.db;exact Heap.get?_none_of_le<|Cd I.ok.kg I.ok.above
theorem Inv.dR(I:Inv X pins σ H s):∀ b∈g6 X.stack,b∈X.env.locals :: X.fs:=λb hb=>by
 rcases I.ok.tN with e | ⟨e,hf⟩
 ·rw [e] at hb;exact Ae _ hb
 ·rw [e] at hb;unfold g6 at hb;rw [Fm,hf] at hb;exact hb
theorem Inv.fS(I:Inv X pins σ H s):∀ b∈g6 X.stack,H b=none:=λb hb=>by
 rcases Ai.mp (I.dR b hb) with e | hb
 ·rw [e];exact I.free
 ·obtain⟨_,o,ho,_⟩:=I.ok.db.mem hb;exact I.base.free b o ho (I.ok.oA b hb) λz=>I.ok.jt b z hb
theorem Inv.step{g':Array GenState}{t':Nat}{d':Drawn}{ch:List Addr}(I:Inv X pins σ H s)
  (i5:∀ b∈ch,(b∈X.ex\/X.s₀.heap.objs.size<=b)/\b≠X.env.locals/\(∀ x c,X.env.cells.lookup x=some c->c≠b)/\∀ p∈X.pn++pins,p.1≠b)
  (keep:∀ b o,b≠X.env.locals->b∉X.fs->b∉ch->s.heap.get? b=some o->H b=none->h'.get? b=some o)
  (slot:∀ b o,b≠X.env.locals->b∈X.fs->b∉ch->s.heap.get? b=some o->H b=none->∃ sl,h'.get? b=some {o with slots:=sl}) (free:∀ b o,b∉ch->s.heap.get? b=some o->H b=none->H' b=none)
  (there:∀ b o,b∉ch->s.heap.get? b=some o->∃ o',h'.get? b=some o')
  (eJ:∀ b xs,H b=some (.tup xs)->H' b=some (.tup xs)) (dP:∀ b o u,H b=some (.bv o u)->H' b=some (.bv o u)) (eN:∀ b ps,H b=some (.lG ps)->∃ more,H' b=some (.lG<|ps++more))
  (ns:∀ m,s.heap.Ns X.env.locals m->h'.Ns X.env.locals m) (aE:b8 X.prog X.w H' h') (hg:AllBare g') :
  Inv X pins σ H' {s with heap:=h',gens:=g',drawn:=d',toks:=t'}:=by
 have FL:∀ b o,X.s₀.heap.get? b=some o->b≠X.env.locals:=λb o e=>Bz<|Bf (Ax e) I.ok.above;have tO:∀ b o,X.s₀.heap.get? b=some o->b∉X.ex->b∉ch:=λb o e hx hb=>by
  rcases (i5 b hb).1 with z | z
  ·exact hx z
  ·exact absurd (Bf (Ax e) z)<|Dd _
 have cellK:∀ x c,X.env.cells.lookup x=some c->∀ v,s.heap.IsCell c v->h'.IsCell c v:=λx c e v ⟨o,ho,hd⟩=>by
  have p5:c∉ch:=λz=>(i5 c z).2.2.1 x c e rfl
  by_cases hc:c∈X.fs
  ·obtain⟨sl,q⟩:=slot c o (I.ju x c e) hc p5 ho<|I.bX x c e;exact⟨_,q,hd⟩
  ·exact⟨o,keep c o (I.ju x c e) hc p5 ho<|I.bX x c e,hd⟩
 refine⟨I.ok,I.os,hg,⟨λb o e n hb hx=>?_,λb o e n hb hx=>?_,λb o e n hx=>?_,λb o e hx=>?_,λb xs e=>eJ b xs<|I.base.eJ b xs e,λb o xs e=>dP b o xs<|I.base.dP b o xs e,λb ps e=>?_⟩,?_,λx c e=>?_,?_,λx c e=>?_,λp hp=>?_,aE,I.len⟩
 ·exact keep b o (FL b o e) hb (tO b o e hx) (I.base.keep b o e n hb hx)<|I.base.free b o e n hx
 ·obtain⟨sl,e1⟩:=I.base.slot b o e n hb hx;obtain⟨OB,e2⟩:=slot b _ (FL b o e) hb (tO b o e hx) e1<|I.base.free b o e n hx;exact⟨OB,e2⟩
 ·obtain⟨o',e1⟩:=I.base.there b o e hx;exact free b o' (tO b o e hx) e1<|I.base.free b o e n hx
 ·obtain⟨o',e1⟩:=I.base.there b o e hx;exact there b o' (tO b o e hx) e1
 ·obtain⟨m1,e1⟩:=I.base.eN b ps e;obtain⟨m2,e2⟩:=eN b _ e1;exact⟨m1++m2,by rw [e2,Array.append_assoc]⟩
 ·obtain⟨m,hn,hl⟩:=I.loc;refine⟨m,ns m hn,λi x v e1 e2 e3=>?_⟩;obtain⟨u,r,l⟩:=hl i x v e1 e2 e3;refine⟨u,r,?_⟩
  rcases l with l | ⟨k,c,e,z⟩
  ·exact .inl l
  ·exact .inr ⟨k,c,e,cellK x c e _ z⟩
 ·obtain⟨v,z⟩:=I.cell x c e;exact⟨v,cellK x c e v z⟩
 ·obtain⟨m,⟨o,_,_,ho,_⟩,_⟩:=I.loc;exact free _ o (λz=>(i5 _ z).2.1 rfl) ho I.free
 ·obtain⟨v,o,ho,hd⟩:=I.cell x c e;exact free c o (λz=>(i5 c z).2.2.1 x c e rfl) ho<|I.bX x c e
 ·obtain⟨e,n,ne,nf,d⟩:=I.pin p hp;have p5:p.1∉ch:=λz=>(i5 p.1 z).2.2.2 p hp rfl;exact⟨keep p.1 p.2 ne nf p5 e n,free p.1 p.2 p5 e n,ne,nf,d⟩
theorem Inv.un{t':Nat}(I:Inv X pins σ H s)(u:Un X.fs [] H H' s.heap h')(aE:b8 X.prog X.w H' h'):Inv X pins σ H' {s with heap:=h',toks:=t'}:=by
 obtain⟨m,⟨o,es,ep,ho,r⟩,_⟩:=id I.loc;obtain⟨sl,hL⟩:=u.any ho I.free (by simp);exact I.step (g':=s.gens) (d':=s.drawn) (ch:=[]) (λ_ z=>nomatch z) (λb o _ hb _ e n=>u.keep b o e n hb<|by simp) (λb o _ hb _ e n=>u.slot b o e n hb<|by simp) (λb o _ e n=>u.free b o e n<|by simp) (λb o _ e=>u.there b o e<|by simp) u.eJ u.dP u.eN (λm' hm=>by
  obtain⟨o',dS,p7,dA,r'⟩:=hm;rw [ho] at dA;cases dA;exact⟨_,dS,p7,hL,r'⟩) aE I.bare
theorem Inv.call{g':Array GenState}{t':Nat}{d':Drawn}{ch:List Addr}(I:Inv X pins σ H s)(u:Un (g6 X.stack) ch H H' s.heap h')(aE:b8 X.prog X.w H' h')(hg:AllBare g')
  (i5:∀ b∈ch,(b∈X.ex\/X.s₀.heap.objs.size<=b)/\b≠X.env.locals/\(∀ x c,X.env.cells.lookup x=some c->c≠b)/\∀ p∈X.pn++pins,p.1≠b) :
  Inv X pins σ H' {s with heap:=h',gens:=g',drawn:=d',toks:=t'}:=by
 obtain⟨m,⟨o,es,ep,ho,r⟩,_⟩:=id I.loc;obtain⟨sl,hL⟩:=u.any ho I.free λz=>(i5 _ z).2.1 rfl;exact I.step (ch:=ch) i5 (λb o hL hb hc e n=>u.keep b o e n (λz=>(Ai.mp<|I.dR b z).elim hL hb) hc) (λb o _ _ hc e n=>u.any e n hc) (λb o hc e n=>u.free b o e n hc) (λb o hc e=>u.there b o e hc) u.eJ u.dP u.eN (λm' hm=>by
  obtain⟨o',dS,p7,dA,r'⟩:=hm;rw [ho] at dA;cases dA;exact⟨_,dS,p7,hL,r'⟩) aE hg
theorem Inv.turned{t':Nat}{it:Addr}(I:Inv X pins σ H s)(k:∀ b o,b≠it->s.heap.get? b=some o->h'.get? b=some o)(hn:H it=none)(hL:it≠X.env.locals)
  (h1:it∈X.ex\/X.s₀.heap.objs.size<=it) (h2:∀ x c,X.env.cells.lookup x=some c->c≠it) (h3:∀ p∈X.pn++pins,p.1≠it):Inv X pins σ H {s with heap:=h',toks:=t'}:=by
 have p8:∀ b u,H b=some u->b≠it:=λb u e z=>by rw [z,hn] at e;cases e
 refine I.step (g':=s.gens) (d':=s.drawn) (ch:=[it]) (λb hb=>?_) (λb o _ _ hc e _=>k b o (λz=>hc<|by simp [z]) e) (λb o _ _ hc e _=>⟨o.slots,k b o (λz=>hc<|by simp [z]) e⟩) (λ_ _ _ _ n=>n)
  (λb o hc e=>⟨o,k b o (λz=>hc<|by simp [z]) e⟩) (λ_ _ e=>e) (λ_ _ _ e=>e) (λb ps e=>⟨#[],by rw [e];simp⟩) (λm hm=>?_) (λb u e=>?_) I.bare
 ·have e:b=it:=by simpa using hb
  subst e;exact⟨h1,hL,h2,h3⟩
 ·obtain⟨o,es,ep,ho,r⟩:=hm;exact⟨o,es,ep,k _ o (CG hL) ho,r⟩
 ·refine(I.aE b u e).gF (λc v hc q=>k c v ?_ q) (λ_ q=>q) λ_ _ q=>q
  rcases hc with z | z
  ·rw [z];exact p8 b u e
  ·exact p8 c _ z
theorem Inv.tok(I:Inv X pins σ H s)(t:Nat):Inv X pins σ H {s with toks:=t}:=I.un (h':=s.heap) (t':=t) Un.refl I.aE
theorem Inv.kept{t':Nat}(I:Inv X pins σ H s)(k:∀ b u,s.heap.get? b=some u->h'.get? b=some u):Inv X pins σ H {s with heap:=h',toks:=t'}:=I.un (Un.kept k)<|I.aE.kept k
theorem Inv.laid{a:Addr}{o:HO}{t':Nat}(I:Inv X pins σ H s)(k:∀ b u,s.heap.get? b=some u->h'.get? b=some u)(hp:s.heap.objs.size<=a)(new:ay X.prog X.w (upd H a o) h' a o) :
  Inv X pins σ (upd H a o) {s with heap:=h',toks:=t'}:=I.un (Un.laid k hp<|I.aE.fresh hp)<|I.aE.laid k hp new
theorem Inv.write{x e:Addr}{o:HO}{t':Nat}(I:Inv X pins σ H s)(mu:pW<|H x)(he:e=x\/H e=some (.own x))(k:∀ b u,b≠e->s.heap.get? b=some u->h'.get? b=some u)(oz:∃ u,h'.get? e=some u)
  (new:ay X.prog X.w (upd H x o) h' x o):Inv X pins σ (upd H x o) {s with heap:=h',toks:=t'}:=I.un (Un.write mu he k oz)<|I.aE.write mu he k oz new
theorem Inv.fT{kh:List (Addr×Obj)}(I:Inv X pins σ H s)(h:∀ p∈kh,s.heap.get? p.1=some p.2/\H p.1=none/\p.1≠X.env.locals/\p.1∉X.fs/\∀ v,p.2.data ≠ .cell v):Inv X kh σ H s:=
 ⟨I.ok,I.os,I.bare,I.base,I.loc,I.cell,I.free,I.bX,λp hp=>(Aq.mp hp).elim (λz=>I.pin p<|Aw _ z)<|h p,I.aE,I.len⟩
theorem p9{N:List Str}(hN:N.Nodup){i j:Nat}{x:Str}(a:N[i]?=some x)(b:N[j]?=some x):i=j:=by
 obtain⟨h1,e1⟩:=Ac.mp a;obtain⟨h2,e2⟩:=Ac.mp b;exact(Fv hN).mp<|e1.trans e2.symm
theorem FO{M:Model}{A:Around}{E:Value->Shared->Prop}{i:Nat}{x:Str}{v:V}{u:Value}{Q:Unit->Shared->Prop}(I:Inv X pins σ H s)(hN:X.N.Nodup)(hi:X.N[i]?=some x)(hx:Loc X.env.scope x)(r:RelV v u)
  (h:∀ s',Inv X pins (σ.set i<|some v) H s'->(∃ a,Heap.SameBut a s.heap s'.heap/\(a=X.env.locals\/X.env.cells.lookup x=some a))->Q () s') (hf:X.fn x=true\/X.env.scope.names.lookup x=some .local:=by first | exact .inl rfl | exact .inr rfl | assumption):wpAny M A (storeName X.env x u) Q E s:=by
 obtain⟨m,hn,hl⟩:=id I.loc;have wH:(X.env.scope.kind == .class || (X.env.scope.kind == .module && X.env.locals != X.env.globals))=false:=by rw [I.ok.kind];rfl
 have hiσ:i < σ.length:=by rw [I.len];exact(Ac.mp hi).1
 have ju:=I.ju;have tracked:∀{a:Addr} {h':Heap},(∃ o,s.heap.get? a=some o/\H a=none)->Heap.SameBut a s.heap h'->b8 X.prog X.w H h':=λ{a h'} ha hs b ob e=>by
  obtain⟨_,_,ki⟩:=ha;refine(I.aE b ob e).gF (λc w' hc q=>(hs.2 c ?_).trans q) (λ_ q=>q) λ_ _ q=>q;rintro rfl
  rcases hc with rfl | hc
  ·rw [ki] at e;cases e
  ·rw [ki] at hc;cases hc
 rcases hx with hk | hk
 ·refine wpAny_storeName_local hk hn (λh' tP hs=>?_) wH;obtain⟨oL,_,_,lI,_⟩:=id hn;refine h _ ⟨I.ok,I.os,I.bare,⟨λb o e n hb hx=>?_,λb o e n hb hx=>?_,I.base.free,λb o e hx=>?_,I.base.eJ,I.base.dP,I.base.eN⟩,⟨_,tP,λj y v' e1 e2 e3=>?_⟩,λy c e=>?_,I.free,I.bX,λp hp=>?_,tracked ⟨oL,lI,I.free⟩ hs,by simpa using I.len⟩ ⟨_,hs,.inl rfl⟩
  ·exact(hs.2 b<|Bz<|Bf (Ax e) I.ok.above).trans<|I.base.keep b o e n hb hx
  ·obtain⟨sl,e1⟩:=I.base.slot b o e n hb hx;exact⟨sl,(hs.2 b<|Bz<|Bf (Ax e) I.ok.above).trans e1⟩
  ·obtain⟨o',e1⟩:=I.base.there b o e hx;exact⟨o',(hs.2 b<|Bz<|Bf (Ax e) I.ok.above).trans e1⟩
  ·by_cases hj:j=i
   ·subst hj;rw [hi] at e1;cases e1;rw [Dw hiσ] at e2;cases e2;exact⟨u,r,.inl ⟨hk,by simp⟩⟩
   ·rw [Ed<|CG hj] at e2;obtain⟨u',r',q⟩:=hl j y v' e1 e2 e3;refine⟨u',r',?_⟩
    rcases q with ⟨k,e⟩ | ⟨k,c,e,z⟩
    ·refine .inl ⟨k,?_⟩;have:y≠x:=λe=>hj<|p9 hN e1<|e ▸ hi;simp [this,e]
    ·exact .inr ⟨k,c,e,z.sameBut hs<|ju y c e⟩
  ·obtain⟨w',z⟩:=I.cell y c e;exact⟨w',z.sameBut hs<|ju y c e⟩
  ·obtain⟨e,n,ne,nf,d⟩:=I.pin p hp;exact⟨(hs.2 p.1 ne).trans e,n,ne,nf,d⟩
 ·have wI:X.fn x=true:=by
   rcases hf with z | z
   ·exact z
   ·rw [z] at hk;cases hk
  obtain⟨c,hc⟩:=I.ok.has x<|.inl hk;obtain⟨w',z⟩:=I.cell x c hc;refine wpAny_storeName_cell I.ok.kind hk hc z λh' a7 hs=>?_;obtain⟨oc,FR,wJ⟩:=id z;refine h {s with heap:=h'} ⟨I.ok,I.os,I.bare,⟨λb o e n hb hx=>?_,λb o e n hb hx=>?_,I.base.free,λb o e hx=>?_,I.base.eJ,I.base.dP,I.base.eN⟩,⟨m,hn.sameBut hs<|CG<|ju x c hc,λj y v' e1 e2 e3=>?_⟩,λy c' e=>?_,I.free,I.bX,λp hp=>?_,tracked ⟨oc,FR,I.bX x c hc⟩ hs,by simpa using I.len⟩ ⟨c,hs,.inr hc⟩
  ·exact(hs.2 b<|Bz<|Bf (Ax e)<|I.ok.pZ x c wI hc).trans<|I.base.keep b o e n hb hx
  ·obtain⟨sl,e1⟩:=I.base.slot b o e n hb hx;exact⟨sl,(hs.2 b<|Bz<|Bf (Ax e)<|I.ok.pZ x c wI hc).trans e1⟩
  ·obtain⟨o',e1⟩:=I.base.there b o e hx;exact⟨o',(hs.2 b<|Bz<|Bf (Ax e)<|I.ok.pZ x c wI hc).trans e1⟩
  ·by_cases hj:j=i
   ·subst hj;rw [hi] at e1;cases e1;rw [Dw hiσ] at e2;cases e2;exact⟨u,r,.inr ⟨.inl hk,c,hc,a7⟩⟩
   ·rw [Ed<|CG hj] at e2;obtain⟨u',r',q⟩:=hl j y v' e1 e2 e3;refine⟨u',r',?_⟩
    rcases q with q | ⟨k,c',e,z'⟩
    ·exact .inl q
    ·refine .inr ⟨k,c',e,z'.sameBut hs ?_⟩;rintro rfl;exact hj<|p9 hN e1<|I.ok.inj _ _ _ e hc ▸ hi
  ·by_cases fU:c'=c
   ·subst fU;exact⟨_,a7⟩
   ·obtain⟨w2,z2⟩:=I.cell y c' e;exact⟨w2,z2.sameBut hs fU⟩
  ·obtain⟨e,n,ne,nf,d⟩:=I.pin p hp;refine⟨(hs.2 p.1 ?_).trans e,n,ne,nf,d⟩;intro q;rw [q,FR] at e;have q':oc=p.2:=Option.some.inj e;exact d w'<|by rw [<- q'];exact wJ
theorem wK{M:Model}{A:Around}{E:Value->Shared->Prop}{i:Nat}{x:Str}{v:V}{u:Value}{Q:Unit->Shared->Prop}(I:Inv X pins σ H s)(hN:X.N.Nodup)(hi:X.N[i]?=some x)(hx:Loc X.env.scope x)(r:RelV v u)
  (h:∀ s',Inv X pins (σ.set i<|some v) H s'->Q () s') (hf:X.fn x=true\/X.env.scope.names.lookup x=some .local:=by first | exact .inl rfl | exact .inr rfl | assumption):wpAny M A (storeName X.env x u) Q E s:=
 FO I hN hi hx r (λs' I' _=>h s' I') hf
theorem Inv.call'{s':Shared}{ch:List Addr}(I:Inv X pins σ H s)(ho:s'.os=s.os)(u:Un (g6 X.stack) ch H H' s.heap s'.heap)(aE:b8 X.prog X.w H' s'.heap)(hg:AllBare s'.gens)
  (i5:∀ b∈ch,(b∈X.ex\/X.s₀.heap.objs.size<=b)/\b≠X.env.locals/\(∀ x c,X.env.cells.lookup x=some c->c≠b)/\∀ p∈X.pn++pins,p.1≠b):Inv X pins σ H' s':=by
 obtain⟨h',g',d',t',o'⟩:=s';have e:o'=s.os:=ho;subst e;exact I.call (g':=g') (t':=t') (d':=d') u aE hg i5
end
abbrev XK:=Value->Option Addr->Hp->Prop
abbrev St:=List<|Option V
abbrev VK:=V->Hp->Prop
abbrev TE:=St->Hp->VK->Prop
abbrev TT:=St->Hp->(Bool->Hp->Prop)->Prop
abbrev TA:=St->Hp->(List V->Hp->Prop)->Prop
structure Ends where
 nx:St->Hp->Prop
 rt:VK
 bk:St->Hp->Prop:=λ_ _=>False
 ct:St->Hp->Prop:=λ_ _=>False
abbrev TS:=Ends->St->Hp->Prop
def EP(X:Cx)(pins:List<|Addr×Obj)(σ:St)(Q:VK)(u:Value)(s':Shared):Prop:=∃ v H',Inv X pins σ H' s'/\RelV v u/\Q v H'
def TP(X:Cx)(pins:List<|Addr×Obj)(σ:St)(Q:Bool->Hp->Prop)(b:Bool)(s':Shared):Prop:=∃ H',Inv X pins σ H' s'/\Q b H'
def AP(X:Cx)(pins:List<|Addr×Obj)(σ:St)(Q:List V->Hp->Prop)(us:List Value)(s':Shared):Prop:=∃ vs H',Inv X pins σ H' s'/\ax vs us/\Q vs H'
def SP(X:Cx)(pins:List<|Addr×Obj)(D:Ends)(f:Flow)(s':Shared):Prop:=
 match f with
 | .next=>∃ σ' H',Inv X pins σ' H' s'/\D.nx σ' H'
 | .brk=>∃ σ' H',Inv X pins σ' H' s'/\D.bk σ' H'
 | .cont=>∃ σ' H',Inv X pins σ' H' s'/\D.ct σ' H'
 | .ret u=>∃ v σ' H',Inv X pins σ' H' s'/\RelV v u/\D.rt v H'
def PE(X:Cx)(e:Expr)(t:TE):Prop:=
 ∀(pins:List<|Addr×Obj) (s:Shared) (σ:St) (H:Hp) (Q:VK),Inv X pins σ H s->t σ H Q->wpAny (model X.prog X.w) X.A (eval e X.env) (EP X pins σ Q) X.xe s
def PT(X:Cx)(e:Expr)(t:TT):Prop:=
 ∀(pins:List<|Addr×Obj) (s:Shared) (σ:St) (H:Hp) (Q:Bool->Hp->Prop),Inv X pins σ H s->t σ H Q->wpAny (model X.prog X.w) X.A (isTrue e X.env<|eval e X.env) (TP X pins σ Q) X.xe s
def PW(X:Cx)(e:Expr)(t:TT):Prop:=
 ∀(whole:Sem Value) (pins:List<|Addr×Obj) (s:Shared) (σ:St) (H:Hp) (Q:Bool->Hp->Prop),Inv X pins σ H s->t σ H Q->wpAny (model X.prog X.w) X.A (isTrue e X.env whole) (TP X pins σ Q) X.xe s
def PA(X:Cx)(es:List Expr)(t:TA):Prop:=
 ∀(pos:Pos) (pins:List<|Addr×Obj) (s:Shared) (σ:St) (H:Hp) (Q:List V->Hp->Prop),Inv X pins σ H s->t σ H Q->wpAny (model X.prog X.w) X.A (spliced<|backTo pos<|starEach es X.env) (AP X pins σ Q) X.xe s
def PS(X:Cx)(st:Stmt)(t:TS):Prop:=
 ∀(pins:List<|Addr×Obj) (s:Shared) (σ:St) (H:Hp) (D:Ends),Inv X pins σ H s->t D σ H->wpAny (model X.prog X.w) X.A (exec st X.env) (SP X pins D) X.xe s
def gG(X:Cx)(st:List Stmt)(t:TS):Prop:=
 ∀(pins:List<|Addr×Obj) (s:Shared) (σ:St) (H:Hp) (D:Ends),Inv X pins σ H s->t D σ H->wpAny (model X.prog X.w) X.A (execs st X.env) (SP X pins D) X.xe s
theorem aH{α:Type}{t:Sem α}{Q Q':α->Shared->Prop}{M:Model}{A:Around}{E:Value->Shared->Prop}{s:Shared}(h:wpAny M A t Q E s)(hQ:∀ a s,Q a s->Q' a s):wpAny M A t Q' E s:=CK h hQ λ_ _ x=>x
section
variable{X:Cx}
theorem bin{a b:Expr}{ta tb:TE}(ha:PE X a ta)(hb:PE X b tb){pins:List (Addr×Obj)}{s:Shared}{σ:St}{H:Hp}{R:V->V->Hp->Prop}(I:Inv X pins σ H s)(h:ta σ H λx H1=>tb σ H1 λy H2=>R x y H2)
  {α:Type} {Q:α->Shared->Prop} {f:Value->Value->Sem α}
  (hf:∀ v u s2 x y H2,Inv X pins σ H2 s2->RelV x v->RelV y u->R x y H2->wpAny (model X.prog X.w) X.A (f v u) Q X.xe s2) :
  wpAny (model X.prog X.w) X.A (eval a X.env) (λv s₁=>wpAny (model X.prog X.w) X.A (eval b X.env) (λu s₂=>wpAny (model X.prog X.w) X.A (f v u) Q X.xe s₂) X.xe s₁) X.xe s:=by
 refine aH (ha pins s σ H _ I h) λv s1 ⟨x,H1,I1,r1,q1⟩=>?_;refine aH (hb pins s1 σ H1 _ I1 q1) λu s2 ⟨y,H2,I2,r2,q2⟩=>?_;exact hf v u s2 x y H2 I2 r1 r2 q2
def wL(i:Nat):TE:=λσ H Q=>∃ v,σ[i]?=some (some v)/\Q v H
def tC(v:V):TE:=λ_ H Q=>Q v H
theorem OC{i:Nat}{x:Str}{pos:Pos}(hN:X.N[i]?=some x)(hv:tM X.env.scope x)(hd:(x == ("__debug__" : Str))=false:=by decide)(g7:(x == ("__classdict__" : Str))=false:=by decide):PE X (.Name x pos) (wL i):=by
 intro pins s σ H Q I h;obtain⟨v,e,h⟩:=h;obtain⟨m,hn,hl⟩:=I.loc;obtain⟨u,r,l⟩:=hl i x v hN e hv;have fin:EP X pins σ Q u s:=⟨v,H,I,r,h⟩
 rcases l with ⟨hk,hm⟩ | ⟨hk,c,hc,dG⟩
 ·exact wpAny_Name (wpAny_loadName_local I.ok.kind hk hn hm fin) hd
 ·rcases hk with hk | hk
  ·exact wpAny_Name (wpAny_loadName_cell I.ok.kind hk hc dG fin) hd
  ·exact wpAny_Name (wpAny_loadName_free I.ok.kind hk hc dG fin g7) hd
theorem OG{i j pos}:PE X (.Constant (.int i) j pos) (tC<|.int i):=λ_ _ _ H _ I h=>wpAny_Constant_int ⟨.int i,H,I.tok _,⟨_,rfl⟩,h⟩
theorem OH{b j pos}:PE X (.Constant (.bool b) j pos) (tC<|.bl b):=λ_ _ _ H _ I h=>Constant_bool ⟨.bl b,H,I,rfl,h⟩
theorem OI{x j pos}:PE X (.Constant (.str x) j pos) (tC<|.str x):=λ_ _ _ H _ I h=>Calls.Constant_str ⟨.str x,H,I.tok _,⟨_,rfl⟩,h⟩
def Gl(X:Cx)(x:Str):Prop:=X.env.kindOf x=some .globalImplicit
theorem OL{E:Value->Shared->Prop}{pins:List (Addr×Obj)}{s:Shared}{σ:St}{H:Hp}{x:Str}{u:Value}{pos:Pos}{Q:Value->Shared->Prop}(I:Inv X pins σ H s)(hg:Gl X x)(hm:X.mg x=some u)(h:Q u s)
  (hd:(x == ("__debug__" : Str))=false:=by decide):wpAny (model X.prog X.w) X.A (eval (.Name x pos) X.env) Q E s:=
 Calls.Name_function_global I.ok.kind hg (Calls.loadGlobal_global (by rw [I.ok.glob];exact I.mod.glob.keeps I.bk) hm h) hd
theorem jv{E:Value->Shared->Prop}{pins:List (Addr×Obj)}{s:Shared}{σ:St}{H:Hp}{x:Str}{u:Value}{pos:Pos}{Q:Value->Shared->Prop}(I:Inv X pins σ H s)(hg:Gl X x)(hm:X.mg x=none)(hv:bootBuiltins x=some u)(h:Q u s)
  (hn:x ≠ "__name__":=by decide) (hd:(x == ("__debug__" : Str))=false:=by decide):wpAny (model X.prog X.w) X.A (eval (.Name x pos) X.env) Q E s:=by
 obtain⟨mb,h1,h2⟩:=I.mod.blt;exact Calls.Name_function_global I.ok.kind hg (Calls.loadGlobal_builtin (by rw [I.ok.glob];exact I.mod.glob.keeps I.bk) hm (by rw [I.ok.blt];exact h1.keeps I.bk) ((h2 x hn).trans hv) h) hd
theorem OM{x:Str}{v:V}{u:Value}{pos:Pos}(hg:Gl X x)(hm:X.mg x=none)(hv:bootBuiltins x=some u)(r:RelV v u)(hn:x ≠ "__name__":=by decide)(hd:(x == ("__debug__" : Str))=false:=by decide):PE X (.Name x pos) (tC v):=
 λ_ _ _ H _ I h=>jv I hg hm hv ⟨v,H,I,r,h⟩ hn hd
variable{a b:Expr}{ta tb:TE}{pos:Pos}
def PC(X:Cx)(op:CmpOp)(a b:Expr)(t:TE):Prop:=
 ∀(pins:List<|Addr×Obj) (s:Shared) (σ:St) (H:Hp) (Q:VK),Inv X pins σ H s->t σ H Q ->
  wpAny (model X.prog X.w) X.A (eval a X.env) (λv s₁=>wpAny (model X.prog X.w) X.A (eval b X.env) (λu s₂=>wpAny (model X.prog X.w) X.A (compareOp op v u) (EP X pins σ Q) X.xe s₂) X.xe s₁) X.xe s
def tB(t:TE):TT:=λσ H Q=>t σ H λx H1=>∃ c,x = .bl c/\Q c H1
theorem FU{op:CmpOp}{t:TE}(h:PC X op a b t)(h1:behindInMarks op b=false:=by first | exact qb _ (by decide) (by decide) | rfl):PT X (.Compare a [op] [b] pos) (tB t):=by
 intro pins s σ H Q I hw;refine wpAny_isTrue_Compare1 (aH (h pins s σ H _ I hw) λv s1 h1=>aH h1 λu s2 h2=>aH h2 λc s3 ⟨x,H1,I1,r1,q1⟩=>?_) h1;obtain⟨d,rfl,q⟩:=q1;cases r1;exact DK ⟨H1,I1,q⟩
theorem OO{e:Expr}{t:TE}(h:PE X e t)(he:∀ whole,isTrue e X.env whole=(do let v <- whole;standAt e.pos;holding [v] (truthy v)):=by intro _;rfl):PT X e (tB t):=by
 intro pins s σ H Q I hw;refine isTrue_plain (aH (h pins s σ H _ I hw) λv s1 ⟨x,H1,I1,r1,q1⟩=>?_)<|he _;obtain⟨d,rfl,q⟩:=q1;cases r1;exact DK ⟨H1,I1,q⟩
variable{tA tQ:TT}{rest:List Expr}
def wM(t u:TT):TT:=λσ H Q=>t σ H λc H1=>if c=true then u σ H1 Q else Q false H1
def OQ(t u:TT):TT:=λσ H Q=>t σ H λc H1=>if c=true then Q true H1 else u σ H1 Q
def wN(t:TT):TT:=λσ H Q=>t σ H λc H1=>Q (!c) H1
theorem OS(ha:PT X a tA):PW X (.BoolOp .And [a] pos) tA:=by
 intro wh pins s σ H Q I h;refine isTrue_and<|aH (ha pins s σ H Q I h) λc s1 e=>?_;cases c with
 | true=>exact isTrue_and_nil e
 | false=>exact e
theorem OT(ha:PT X a tA):PW X (.BoolOp .Or [a] pos) tA:=by
 intro wh pins s σ H Q I h;refine isTrue_or<|aH (ha pins s σ H Q I h) λc s1 e=>?_;cases c with
 | false=>exact isTrue_or_nil e
 | true=>exact e
theorem OU(ha:PT X a tA)(hb:PW X (.BoolOp .And (b :: rest) pos) tQ):PW X (.BoolOp .And (a :: b :: rest) pos) (wM tA tQ):=by
 intro wh pins s σ H Q I h;refine isTrue_and<|aH (ha pins s σ H _ I h) λc s1 ⟨H1,I1,q1⟩=>?_;cases c with
 | true=>exact hb wh pins s1 σ H1 Q I1 q1
 | false=>exact⟨H1,I1,q1⟩
theorem OV(ha:PT X a tA)(hb:PW X (.BoolOp .Or (b :: rest) pos) tQ):PW X (.BoolOp .Or (a :: b :: rest) pos) (OQ tA tQ):=by
 intro wh pins s σ H Q I h;refine isTrue_or<|aH (ha pins s σ H _ I h) λc s1 ⟨H1,I1,q1⟩=>?_;cases c with
 | true=>exact⟨H1,I1,q1⟩
 | false=>exact hb wh pins s1 σ H1 Q I1 q1
theorem OW(ha:PT X a tA):PT X (.UnaryOp .Not a pos) (wN tA):=by
 intro pins s σ H Q I h;exact isTrue_not<|ha pins s σ H (λc H1=>Q (!c) H1) I h
def OX(ta tb:TE):TE:=λσ H Q=>ta σ H λx H1=>∃ c,x = .bl c/\if c=true then tb σ H1 Q else Q (.bl false) H1
def OY(ta:TE):TE:=λσ H Q=>ta σ H λx H1=>∃ c,x = .bl c/\Q (.bl (!c)) H1
theorem OZ{op}{t:TE}(h:PE X a t):PE X (.BoolOp op [a] pos) t:=λpins s σ H Q I hw=>BoolOp_one<|h pins s σ H Q I hw
theorem O0(ha:PE X a ta)(hb:PE X (.BoolOp .And (b :: rest) pos) tb):PE X (.BoolOp .And (a :: b :: rest) pos) (OX ta tb):=by
 intro pins s σ H Q I h;refine BoolOp_and<|aH (ha pins s σ H _ I h) λv s1 ⟨x,H1,I1,r1,q1⟩=>?_;obtain⟨c,rfl,q1⟩:=q1;cases r1;refine DK ?_;cases c with
 | true=>exact hb pins s1 σ H1 Q I1 q1
 | false=>exact⟨.bl false,H1,I1,rfl,q1⟩
theorem O1(ha:PE X a ta):PE X (.UnaryOp .Not a pos) (OY ta):=by
 intro pins s σ H Q I h;refine UnaryOp_<|aH (ha pins s σ H _ I h) λv s1 ⟨x,H1,I1,r1,q1⟩=>?_;obtain⟨c,rfl,q1⟩:=q1;cases r1;exact not_of<|DK ⟨.bl (!c),H1,I1,rfl,q1⟩
end
def au(K:PySem.W.Frag)(H:Hp)(a:Addr)(xs:List V):Prop:=
 Rd H a (.lst xs) \/
  ∃(o:Obj) (its:Array Value) (n:Nat),K.lookup a=some o/\o.cls = .type "list"/\o.dict=none/\o.data = .seq its n/\its.size<=sizeLine/\ax xs its.toList
def aP(K:PySem.W.Frag)(H:Hp)(a:Addr)(xs:List V):Prop:=
 Rd H a (.tup xs) \/
  ∃(o:Obj) (its:Array Value) (n:Nat),K.lookup a=some o/\o.cls = .type "tuple"/\o.data = .seq its n/\its.size<=sizeLine/\ax xs its.toList
def wO:Value->Option V
 | .none=>some .non
 | .bool b=>some<|.bl b
 | .int i _=>some<|.int i
 | .str x _=>some<|.str x
 | .bytes b _=>some<|.gE b
 | .float b _=>some<|.ou b
 | .ref a=>some<|.ref a
 | .type n=>some<|.ty n
 | _=>none
theorem RelV.abs{x:V}{u:Value}(r:RelV x u):wO u=some x:=by
 cases x with
 | non=>cases r;rfl
 | bl _=>cases r;rfl
 | int _=>obtain⟨t,rfl⟩:=r;rfl
 | str _=>obtain⟨t,rfl⟩:=r;rfl
 | gE _=>obtain⟨t,rfl⟩:=r;rfl
 | ou _=>obtain⟨t,rfl⟩:=r;rfl
 | ref _=>cases r;rfl
 | ty _=>cases r;rfl
theorem RelV.inj{x y:V}{u:Value}(r:RelV x u)(q:RelV y u):x=y:=Option.some.inj<|r.abs.symm.trans q.abs
theorem ax.inj:∀{xs ys:List V} {us:List Value},ax xs us->ax ys us->xs=ys
 | _,_,_,.nil,.nil=>rfl
 | _,_,_,.cons r t,.cons r' t'=>by rw [r.inj r',ax.inj t t']
section
variable{X:Cx}{pins:List (Addr×Obj)}{σ:St}{H:Hp}{s:Shared}{a:Addr}{xs ys:List V}
theorem au.of{K:PySem.W.Frag}(h:H a=some (.lst xs)):au K H a xs:= .inl<|.inl h
theorem aP.of{K:PySem.W.Frag}(h:H a=some (.tup xs)):aP K H a xs:= .inl<|.inl h
theorem Inv.list(I:Inv X pins σ H s)(h:au X.K H a xs):∃ its:List Value,ax xs its/\PlainL s.heap a its.toArray/\xs.length<=sizeLine:=by
 rcases h with h | ⟨o,its,n,hk,hc,hd,hs,hz,r⟩
 ·obtain⟨z,its,n,r,e⟩:=h.ok I.aE;exact⟨its,r,⟨_,n,e,rfl,rfl,rfl⟩,z⟩
 ·refine⟨its.toList,r,⟨o,n,I.eO a o hk,hc,hd,by simpa using hs⟩,?_⟩;have e:=r.length;simp only [Cn] at e;omega
theorem Inv.tuple(I:Inv X pins σ H s)(h:aP X.K H a xs):∃ its:List Value,ax xs its/\IsTup s.heap a its.toArray/\xs.length<=sizeLine:=by
 rcases h with h | ⟨o,its,n,hk,hc,hs,hz,r⟩
 ·obtain⟨z,its,r,p⟩:=h.ok I.aE;exact⟨its,r,p,z⟩
 ·refine⟨its.toList,r,⟨o,I.eO a o hk,hc,n,by simpa using hs⟩,?_⟩;have e:=r.length;simp only [Cn] at e;omega
theorem Inv.cz(I:Inv X pins σ H s)(h:au X.K H a xs)(h':au X.K H a ys):xs=ys:=by
 obtain⟨its,r,⟨o,n,e,_,_,d⟩,_⟩:=I.list h;obtain⟨its',r',⟨o',n',e',_,_,d'⟩,_⟩:=I.list h';rw [e] at e';cases e';rw [d] at d'
 injection d' with d1 _
 have:its=its':=by simpa using BZ Array.toList d1
 subst this;exact r.inj r'
theorem Inv.gH(I:Inv X pins σ H s)(h:aP X.K H a xs)(h':aP X.K H a ys):xs=ys:=by
 obtain⟨its,r,⟨o,e,_,n,d⟩,_⟩:=I.tuple h;obtain⟨its',r',⟨o',e',_,n',d'⟩,_⟩:=I.tuple h';rw [e] at e';cases e';rw [d] at d'
 injection d' with d1 _
 have:its=its':=by simpa using BZ Array.toList d1
 subst this;exact r.inj r'
end
abbrev Cx.dB(X:Cx)(E:Value->Shared->Prop):Cx:={X with xe:=E}
abbrev Cx.oB(X:Cx):Cx:=X.dB λ_ _=>False
theorem Cx.Ok.dB{X:Cx}(ok:X.Ok)(E:Value->Shared->Prop):(X.dB E).Ok:=
 ⟨ok.mod,ok.kind,ok.glob,ok.blt,ok.above,ok.inj,ok.has,ok.pZ,ok.hd,ok.frames,ok.tN,ok.FK,ok.bs,ok.kg,ok.im,ok.jt,ok.db,ok.oA⟩
theorem Cx.Ok.bY{X:Cx}{E:Value->Shared->Prop}(ok:(X.dB E).Ok):X.Ok:=
 ⟨ok.mod,ok.kind,ok.glob,ok.blt,ok.above,ok.inj,ok.has,ok.pZ,ok.hd,ok.frames,ok.tN,ok.FK,ok.bs,ok.kg,ok.im,ok.jt,ok.db,ok.oA⟩
section
variable{X:Cx}{pins:List (Addr×Obj)}{σ:St}{H:Hp}{s:Shared}{E:Value->Shared->Prop}
theorem Inv.dB(I:Inv X pins σ H s)(E:Value->Shared->Prop):Inv (X.dB E) pins σ H s:=⟨I.ok.dB E,I.os,I.bare,I.base,I.loc,I.cell,I.free,I.bX,I.pin,I.aE,I.len⟩
theorem Inv.bY(I:Inv (X.dB E) pins σ H s):Inv X pins σ H s:=⟨I.ok.bY,I.os,I.bare,I.base,I.loc,I.cell,I.free,I.bX,I.pin,I.aE,I.len⟩
theorem SP.bY{D:Ends}{f:Flow}{s':Shared}(h:SP (X.dB E) pins D f s'):SP X pins D f s':=by
 cases f with
 | next=>obtain⟨σ',H',I,q⟩:=h;exact⟨σ',H',I.bY,q⟩
 | brk=>obtain⟨σ',H',I,q⟩:=h;exact⟨σ',H',I.bY,q⟩
 | cont=>obtain⟨σ',H',I,q⟩:=h;exact⟨σ',H',I.bY,q⟩
 | ret u=>obtain⟨v,σ',H',I,r,q⟩:=h;exact⟨v,σ',H',I.bY,r,q⟩
theorem gG.oB{st:List Stmt}{t:TS}(h:gG X.oB st t):gG X st t:=λpins s σ H D I hw=>
 CK (h pins s σ H D (I.dB _) hw) (λ_ _ q=>q.bY) λ_ _ z=>False.elim z
end
section
variable{X:Cx}{st:Stmt}{rest:List Stmt}{t u:TS}{e:Expr}{te:TE}{pos:Pos}
def O2:TS:=λD σ H=>D.nx σ H
def wQ(t u:TS):TS:=λD σ H=>t {D with nx:=u D} σ H
theorem O3:gG X [] O2:=λ_ _ σ H _ I h=>MK ⟨σ,H,I,h⟩
theorem O4(h1:PS X st t)(h2:gG X rest u):gG X (st :: rest) (wQ t u):=by
 intro pins s σ H D I h;refine wpAny_execs_cons<|aH (h1 pins s σ H {D with nx:=u D} I h) λf s1 q=>?_;cases f with
 | next=>
  obtain⟨σ',H',I',q⟩:=q;exact h2 pins s1 σ' H' D I' q
 | ret v=>exact q
 | brk=>exact q
 | cont=>exact q
theorem Inv.quiet{pins:List (Addr×Obj)}{σ:St}{H:Hp}{s:Shared}(I:Inv X pins σ H s):interactive X.env=false:=by simp [interactive,I.ok.kind]
def O5(te:TE):TS:=λD σ H=>te σ H λ_ H1=>D.nx σ H1
theorem O6(he:PE X e te)(hs:swapsWith e none pos.line X.env=pure false:=by rfl):PS X (.Expr e pos) (O5 te):=by
 intro pins s σ H D I h;exact wpAny_Expr_any (aH (he pins s σ H _ I h) λv s1 ⟨x,H1,I1,r1,q1⟩=>⟨σ,H1,I1,q1⟩) I.quiet hs
def wR(te:TE):TS:=λD σ H=>te σ H D.rt
theorem O7(he:PE X e te):PS X (.Return (some e) pos) (wR te):=by
 intro pins s σ H D I h;exact wpAny_Return_some<|aH (he pins s σ H _ I h) λv s1 ⟨x,H1,I1,r1,q1⟩=>⟨x,σ,H1,I1,r1,q1⟩
def wU(c:TT)(t u:TS):TS:=λD σ H=>c σ H λb H1=>if b=true then t D σ H1 else u D σ H1
theorem O8{c:Expr}{a b:List Stmt}{tc:TT}(hc:PT X c tc)(ha:gG X a t)(hb:gG X b u):PS X (.If c a b pos) (wU tc t u):=by
 intro pins s σ H D I h;refine wpAny_If<|aH (hc pins s σ H _ I h) λd s1 ⟨H1,I1,q1⟩=>?_;cases d with
 | true=>exact ha pins s1 σ H1 D I1 q1
 | false=>exact hb pins s1 σ H1 D I1 q1
end
abbrev TG:=V->St->Hp->(St->Hp->Prop)->Prop
abbrev lJ:=List V->St->Hp->(St->Hp->Prop)->Prop
def PG(X:Cx)(target:Expr)(t:TG):Prop:=
 ∀(pins:List<|Addr×Obj) (s:Shared) (σ:St) (H:Hp) (v:V) (u:Value) (Q:St->Hp->Prop),Inv X pins σ H s->RelV v u->t v σ H Q ->
  wpAny (model X.prog X.w) X.A (assign target X.env u) (λ_ s'=>∃ σ' H',Inv X pins σ' H' s'/\Q σ' H') X.xe s
def tR(X:Cx)(ts:List Expr)(t:lJ):Prop:=
 ∀(pins:List<|Addr×Obj) (s:Shared) (σ:St) (H:Hp) (vs:List V) (us:List Value) (Q:St->Hp->Prop),Inv X pins σ H s->ax vs us->t vs σ H Q ->
  wpAny (model X.prog X.w) X.A (assignInOrder ((assignEach ts X.env).map (·.2)) us) (λ_ s'=>∃ σ' H',Inv X pins σ' H' s'/\Q σ' H') X.xe s
abbrev lK:=V->V->V->Hp->(Hp->Prop)->Prop
def qc(X:Cx)(t:lK):Prop:=
 ∀(pins:List<|Addr×Obj) (s:Shared) (σ:St) (H:Hp) (o i v:V) (ov iv u:Value) (Q:Hp->Prop),Inv X pins σ H s->RelV o ov->RelV i iv->RelV v u->t o i v H Q ->
  wpAny (model X.prog X.w) X.A (setItem ov iv u) (λ_ s'=>∃ H',Inv X pins σ H' s'/\Q H') X.xe s
abbrev kj:=V->V->Hp->VK->Prop
def oC(X:Cx)(op:Operator)(t:kj):Prop:=
 ∀(pins:List<|Addr×Obj) (s:Shared) (σ:St) (H:Hp) (x y:V) (v u:Value) (Q:VK),Inv X pins σ H s->RelV x v->RelV y u->t x y H Q ->
  wpAny (model X.prog X.w) X.A (inplaceOp op v u) (EP X pins σ Q) X.xe s
section
variable{X:Cx}{pos:Pos}
def FV(i:Nat):TG:=λv σ H Q=>Q (σ.set i<|some v) H
theorem O9{i:Nat}{x:Str}(hN:X.N.Nodup)(hi:X.N[i]?=some x)(hx:Loc X.env.scope x)(hf:X.fn x=true\/X.env.scope.names.lookup x=some .local:=by first | exact .inl rfl | exact .inr rfl | assumption):PG X (.Name x pos) (FV i):=by
 intro pins s σ H v u Q I r h;exact wpAny_assign_Name<|wK I hN hi hx r (λs' I'=>⟨_,H,I',h⟩) hf
def lN:lJ:=λvs σ H Q=>vs=[]/\Q σ H
def oD(t:TG)(u:lJ):lJ:=λvs σ H Q=>∃ v r,vs=v :: r/\t v σ H λσ' H'=>u r σ' H' Q
theorem FX:tR X [] lN:=by
 intro pins s σ H vs us Q I r h;obtain⟨e,h⟩:=h;subst e;cases r;exact assignInOrder_nil ⟨σ,H,I,h⟩
theorem qd{e:Expr}{es:List Expr}{t:TG}{u:lJ}(h1:PG X e t)(h2:tR X es u)
  (hs:(assignEach (e :: es) X.env).map (·.2)=assign e X.env :: (assignEach es X.env).map (·.2):=by rfl):tR X (e :: es) (oD t u):=by
 intro pins s σ H vs us Q I r h;obtain⟨v,vr,e1,h⟩:=h;subst e1;cases r with
 | cons r rr=>
  rw [hs];refine assignInOrder_cons<|aH (h1 pins s σ H _ _ _ I r h) λ_ s1 ⟨σ1,H1,I1,q1⟩=>?_;exact h2 pins s1 σ1 H1 _ _ Q I1 rr q1
def wV(K:PySem.W.Frag)(n:Nat)(t:lJ):TG:=λv σ H Q=>∃ a xs,v = .ref a/\aP K H a xs/\xs.length=n/\t xs σ H Q
theorem FY{es:List Expr}{k:Nat}{t:lJ}{n:Nat}(hc:X.calm=true)(h:tR X es t)
  (hn:(assignEach es X.env).length=n:=by rfl) (cA:(assignEach es X.env).findIdx? (·.1)=none:=by rfl):PG X (.Tuple es k pos) (wV X.K n t):=by
 intro pins s σ H v u Q I r hw;obtain⟨a,xs,e1,hq,hl,hw⟩:=hw;subst e1;cases r;obtain⟨its,rv,ht,hz⟩:=I.tuple hq;refine assign_Tuple_tuple (I.ok.hd hc) ht (by simp [hn,<- hl,rv.length]) cA λh' hx=>?_;have I1:Inv X pins σ H {s with heap:=h'}:=I.kept (t':=s.toks) λb o e=>hx b o (Bz<|Ax e) e;exact h pins _ σ H xs _ Q I1 (by simpa using rv) hw
def qe(te:TE)(g:TG):TS:=λD σ H=>te σ H λx H1=>g x σ H1 D.nx
theorem O'{tg e:Expr}{te:TE}{g:TG}(he:PE X e te)(hg:PG X tg g)(hs:swapsWithSole [tg] e pos.line X.env=pure false:=by rfl)(hw:swappedStores [tg] e X.env=pure none:=by rfl)
  (h1:(assignEach [tg] X.env).map (·.2)=[assign tg X.env]:=by rfl):PS X (.Assign [tg] e pos) (qe te g):=by
 intro pins s σ H D I h;refine wpAny_Assign_stores (aH (he pins s σ H _ I h) λv s1 ⟨x,H1,I1,r1,q1⟩=>?_) hs hw;rw [h1];exact aH (hg pins s1 σ H1 x v _ I1 r1 q1) λ_ s2 q=>q
theorem Pa{i:Nat}{x:Str}{e:Expr}{te:TE}{pos':Pos}(hN:X.N.Nodup)(hi:X.N[i]?=some x)(hx:Loc X.env.scope x)(he:PE X e te)(hs:swapsWith e (some<|.Name x pos') pos.line X.env=pure false:=by rfl)(hf:X.fn x=true\/X.env.scope.names.lookup x=some .local:=by first | exact .inl rfl | exact .inr rfl | assumption) :
  PS X (.Assign [.Name x pos'] e pos) (qe te<|FV i):=by
 intro pins s σ H D I h;refine wpAny_Assign_Name (aH (he pins s σ H _ I h) λv s1 ⟨y,H1,I1,r1,q1⟩=>?_) hs;exact wK I1 hN hi hx r1 (λs2 I2=>⟨_,H1,I2,q1⟩) hf
def wW(i:Nat)(te:TE)(ti:kj):TS:=λD σ H=>∃ x,σ[i]?=some (some x)/\te σ H λy H1=>ti x y H1 λz H2=>D.nx (σ.set i<|some z) H2
theorem Pb{i:Nat}{x:Str}{e:Expr}{te:TE}{op:Operator}{ti:kj}{pos':Pos}(hN:X.N.Nodup)(hi:X.N[i]?=some x)(hx:Loc X.env.scope x)(he:PE X e te)(ho:oC X op ti)(hf:X.fn x=true\/X.env.scope.names.lookup x=some .local:=by first | exact .inl rfl | exact .inr rfl | assumption) :
  PS X (.AugAssign (.Name x pos') op e pos) (wW i te ti):=by
 intro pins s σ H D I h;obtain⟨v,e1,h⟩:=h;obtain⟨m,hn,hl⟩:=I.loc;have wX:tM X.env.scope x:=by rcases hx with k | k;exact .inl k;exact .inr<|.inl k
 obtain⟨u,r,l⟩:=hl i x v hi e1 wX;refine wpAny_AugAssign_Name ?_;have go:wpAny (model X.prog X.w) X.A (eval e X.env) (λw s₂=>wpAny (model X.prog X.w) X.A (inplaceOp op u w) (λr s₃=>wpAny (model X.prog X.w) X.A (storeName X.env x r) (λ_=>SP X pins D .next) X.xe s₃) X.xe s₂) X.xe s:=by
  refine aH (he pins s σ H _ I h) λw s1 ⟨y,H1,I1,r1,q1⟩=>?_;refine aH (ho pins s1 σ H1 v y u w _ I1 r r1 q1) λz s2 ⟨zv,H2,I2,r2,q2⟩=>?_;exact wK I2 hN hi hx r2 (λs3 I3=>⟨_,H2,I3,q2⟩) hf
 rcases l with ⟨hk,hm⟩ | ⟨hk,c,hc,dG⟩
 ·exact wpAny_loadName_local I.ok.kind hk hn hm go
 ·rcases hk with hk | hk
  ·exact wpAny_loadName_cell I.ok.kind hk hc dG go
  ·rcases hx with k | k
   ·have:X.env.scope.names.lookup x=some .free:=hk;rw [k] at this;cases this
   ·have:X.env.scope.names.lookup x=some .free:=hk;rw [k] at this;cases this
def Pg(to ti te:TE)(jw:V->V->Hp->VK->Prop)(i6:kj)(gI:lK):TS:=λD σ H=>to σ H λo H1=>ti σ H1 λi H2=>jw o i H2 λx H3=>te σ H3 λy H4=>i6 x y H4 λz H5=>gI o i z H5 λH6=>D.nx σ H6
def qf(X:Cx)(t:V->V->Hp->VK->Prop):Prop:=
 ∀(pins:List<|Addr×Obj) (s:Shared) (σ:St) (H:Hp) (o i:V) (ov iv:Value) (Q:VK),Inv X pins σ H s->RelV o ov->RelV i iv->t o i H Q ->
  wpAny (model X.prog X.w) X.A (getItem ov iv) (EP X pins σ Q) X.xe s
theorem Ph{o i e:Expr}{to ti te:TE}{jw:V->V->Hp->VK->Prop}{i6:kj}{gI:lK}{op:Operator}{ip:Pos}(ho:PE X o to)(hi:PE X i ti)(hg:qf X jw)(he:PE X e te)(hp:oC X op i6)(hs:qc X gI)
  (ha:∀ ov iv new,augStore i ov iv new=(do holding [new,ov,iv] (setItem ov iv new);release [new,ov,iv] [];pure .next):=by intros;rfl):PS X (.AugAssign (.Subscript o i ip) op e pos) (Pg to ti te jw i6 gI):=by
 intro pins s σ H D I h;refine wpAny_AugAssign_SubscriptAny (aH (ho pins s σ H _ I h) λov s1 ⟨x1,H1,I1,r1,q1⟩=>?_) ha;refine aH (hi pins s1 σ H1 _ I1 q1) λiv s2 ⟨x2,H2,I2,r2,q2⟩=>?_;refine aH (hg pins s2 σ H2 x1 x2 ov iv _ I2 r1 r2 q2) λold s3 ⟨x3,H3,I3,r3,q3⟩=>?_;refine aH (he pins s3 σ H3 _ I3 q3) λv s4 ⟨x4,H4,I4,r4,q4⟩=>?_;refine aH (hp pins s4 σ H4 x3 x4 old v _ I4 r3 r4 q4) λnew s5 ⟨x5,H5,I5,r5,q5⟩=>?_;exact aH (hs pins s5 σ H5 x1 x2 x5 ov iv new _ I5 r1 r2 r5 q5) λ_ s6 ⟨H6,I6,q6⟩=>⟨σ,H6,I6,q6⟩
def F0(f:Int->Int->Int):kj:=λx y H Q=>∃ i j,x = .int i/\y = .int j/\Q (.int<|f i j) H
theorem F1:oC X .Add (F0 λi j=>i+j):=by
 intro pins s σ H x y v u Q I r1 r2 h;obtain⟨i,j,e1,e2,q⟩:=h;subst e1;subst e2;obtain⟨t,rfl⟩:=r1;obtain⟨t',rfl⟩:=r2;exact iadd_int ⟨.int _,H,I.tok _,⟨_,rfl⟩,q⟩
theorem Pj:oC X .Sub (F0 λi j=>i - j):=by
 intro pins s σ H x y v u Q I r1 r2 h;obtain⟨i,j,e1,e2,q⟩:=h;subst e1;subst e2;obtain⟨t,rfl⟩:=r1;obtain⟨t',rfl⟩:=r2;exact isub_int ⟨.int _,H,I.tok _,⟨_,rfl⟩,q⟩
def Pk(c:TT)(tb:TS):TS:=λD σ H=>∃ W:Nat->St->Hp->Prop,(∃ m,W m σ H)/\∀ m σ H,W m σ H ->
 c σ H λb H1=>if b=true then ∃ N:St->Hp->Prop,(∀ σ' H',N σ' H'->∃ m',m' < m/\W m' σ' H')/\tb {D with nx:=N,ct:=N,bk:=D.nx} σ H1 else D.nx σ H1
theorem Pn{c:Expr}{body:List Stmt}{tc:TT}{tb:TS}(hp:PassesOwn (model X.prog X.w) X.A X.env X.xe)(hc:PT X c tc)(hb:gG X body tb):PS X (.While c body [] pos) (Pk tc tb):=by
 intro pins s σ H D I h;obtain⟨W,⟨m0,w0⟩,turn⟩:=h;refine wpAny_While<|codeAny_whileLoop (λn s'=>∃ σ' H',Inv X pins σ' H' s'/\W n σ' H') ?_ m0 ⟨σ,H,I,w0⟩;rintro n s1 ⟨σ1,H1,I1,w1⟩;refine FP hp<|aH (hc pins s1 σ1 H1 _ I1<|turn n σ1 H1 w1) λb s2 ⟨H2,I2,q2⟩=>?_;cases b with
 | true=>
  obtain⟨N,hN,q2⟩:=q2;rw [BL rfl];refine FP hp<|aH (hb pins s2 σ1 H2 _ I2 q2) λf s3 q3=>?_;cases f with
  | next=>
   obtain⟨σ3,H3,I3,n3⟩:=q3;obtain⟨m',hm,w3⟩:=hN σ3 H3 n3;exact⟨m',hm,σ3,H3,I3,w3⟩
  | cont=>
   obtain⟨σ3,H3,I3,n3⟩:=q3;obtain⟨m',hm,w3⟩:=hN σ3 H3 n3;exact⟨m',hm,σ3,H3,I3,w3⟩
  | brk=>exact q3
  | ret v=>exact q3
 | false=>
  rw [BJ Ar];exact MK ⟨σ1,H2,I2,q2⟩
end
structure It where
 go:Nat->Hp->Prop
 qg:Nat->Hp->V->Hp->Prop
 stop:Nat->Hp->Prop
def bT(X:Cx)(pins:List<|Addr×Obj)(H:Hp)(b:Addr):Prop:=
 H b=none/\b≠X.env.locals/\b∉X.fs/\(b∈X.ex\/X.s₀.heap.objs.size<=b)/\(∀ x c,X.env.cells.lookup x=some c->c≠b)/\∀ p∈X.pn++pins,p.1≠b
theorem Inv.eQ{X:Cx}{pins:List (Addr×Obj)}{σ:St}{H H':Hp}{s:Shared}{b:Addr}(I:Inv X pins σ H s)(hb:s.heap.objs.size<=b)(hn:H' b=none):bT X pins H' b:=by
 refine⟨hn,Ds<|Bf I.lt hb,I.wG hb,.inr<|Cd I.sz hb,λx c e z=>?_,λp hp z=>?_⟩
 ·obtain⟨v,q⟩:=I.cell x c e;exact absurd (Bf q.lt<|by rw [z];exact hb)<|Dd _
 ·exact absurd (Bf (Ax (I.pin p hp).1)<|by rw [z];exact hb)<|Dd _
structure Turn(P:Program)(w:World)(K:PySem.W.Frag)(tg:Expr)(J:It)(fp:List Addr)(it:Addr)(tn:Nat->Heap->Prop):Prop where
 mem:it∈fp
 obj:∀ i h,tn i h->∀ b∈fp,∃ o,h.get? b=some o/\∀ v,o.data ≠ .cell v
 keep:∀ i h h',tn i h->(∀ b∈fp,∀ o,h.get? b=some o->h'.get? b=some o)->tn i h'
 item:∀(X:Cx),X.prog=P->X.w=w->X.K=K->X.calm=true->∀(i:Nat) (pins:List<|Addr×Obj) (s:Shared) (σ:St) (H:Hp) (E:Value->Shared->Prop),Inv X pins σ H s->(∀ b∈fp,bT X pins H b)->tn i s.heap->J.go i H ->
  wpAny (model P w) X.A (pyNext<|.ref it) (λr s1=>∃ u,r=some u /\
   wpAny (model P w) X.A (letOwnedTupleGo tg (.ref it) u) (λ_ s2=>∃ x H',Inv X pins σ H' s2/\RelV x u/\J.qg i H x H'/\tn (i+1) s2.heap/\∀ b∈fp,H' b=none) E s1) E s
 done:∀(X:Cx),X.prog=P->X.w=w->X.K=K->X.calm=true->∀(i:Nat) (pins:List<|Addr×Obj) (s:Shared) (σ:St) (H:Hp) (E:Value->Shared->Prop),Inv X pins σ H s->(∀ b∈fp,bT X pins H b)->tn i s.heap->J.stop i H ->
  wpAny (model P w) X.A (pyNext<|.ref it) (λr s1=>r=none/\Inv X pins σ H s1) E s
 self:∀(A:Around) (i:Nat) (s:Shared) (Q:Value->Shared->Prop) (E:Value->Shared->Prop),tn i s.heap->Q (.ref it) s->wpAny (model P w) A (pyIter<|.ref it) Q E s
abbrev TI:=St->Hp->(It->Hp->Prop)->Prop
def F3(X:Cx)(pins:List<|Addr×Obj)(σ:St)(tg:Expr)(R:It->Hp->Prop)(lP:Value)(s2:Shared):Prop:=
 ∃(it:Addr) (fp:List Addr) (tn:Nat->Heap->Prop) (J:It) (H':Hp),lP = .ref it/\Inv X pins σ H' s2/\Turn X.prog X.w X.K tg J fp it tn/\tn 0 s2.heap/\(∀ b∈fp,bT X pins H' b)/\R J H'
def PI(X:Cx)(tg iter:Expr)(wi:TI):Prop:=
 ∀(pins:List<|Addr×Obj) (s:Shared) (σ:St) (H:Hp) (R:It->Hp->Prop),Inv X pins σ H s->wi σ H R ->
  wpAny (model X.prog X.w) X.A (eval iter X.env) (λv s1=>wpAny (model X.prog X.w) X.A (pyIter v) (F3 X pins σ tg R) X.xe s1) X.xe s
theorem tS{M:Model}{A:Around}{E:Value->Shared->Prop}{s:Shared}{tg:Expr}{it:Addr}{u:Value}{o:Obj}{n:String}{vs:Array Value}{Q:Unit->Shared->Prop}(ho:s.heap.get? it=some o)(hc:o.cls = .type n)(hd:o.data = .fields vs)
    (hn:["enumerate","zip","dict_itemiterator","dict_reverseitemiterator","odict_iterator","itertools.zip_longest","itertools.pairwise"].contains n=false) (hQ:Q () s):wpAny M A (letOwnedTupleGo tg (.ref it) u) Q E s:=by
  unfold letOwnedTupleGo;cases tg <;> first
    | exact BP hQ
    | (cases u <;> first
        | exact BP hQ
        | (refine BK<|wpAny_load ho ?_
           rw [hc,hd];show wpAny M A (if(["enumerate","zip","dict_itemiterator","dict_reverseitemiterator","odict_iterator","itertools.zip_longest","itertools.pairwise"].contains n && vs[0]? == some (rawInt _))=true then _ else _) Q E s;rw [BJ<|by intro h;rw [hn,Bool.false_and] at h;cases h];exact BP hQ))
def oE(K:PySem.W.Frag)(a:Addr):It:=
 ⟨λi H=>∃ xs x,au K H a xs/\xs[i]?=some x,λi H x H'=>H'=H/\∀ xs,au K H a xs->xs[i]?=some x,λi H=>∃ xs,au K H a xs/\xs.length<=i⟩
def qh(K:PySem.W.Frag)(a:Addr):It:=
 ⟨λi H=>∃ xs x,aP K H a xs/\xs[i]?=some x,λi H x H'=>H'=H/\∀ xs,aP K H a xs->xs[i]?=some x,λi H=>∃ xs,aP K H a xs/\xs.length<=i⟩
def lQ(lo:Int)(n:Nat):It:=⟨λi _=>i < n,λi H x H'=>H'=H/\x = .int (lo+i),λi _=>n<=i⟩
theorem Pp{P:Program}{w:World}{K:PySem.W.Frag}{tg:Expr}(a it:Addr):Turn P w K tg (oE K a) [it] it (λi h=>h.IsListIter it a i) where
 mem:=by simp
 obj:=λi h st b hb=>by
  have e:b=it:=by simpa using hb
  subst e;obtain⟨o,e,c,d⟩:=st;exact⟨o,e,λv z=>by rw [d] at z;cases z⟩
 keep:=λi h h' st k=>st.at λo e=>k it (by simp) o e
 item:=by
  intro X hP hw hK hc i pins s σ H E I hf st hg;subst hP hw hK;obtain⟨xs,x,hq,hx⟩:=hg;obtain⟨its,rv,p,hz⟩:=I.list hq;obtain⟨u,hu,ru⟩:=rv.get hx;obtain⟨f0,f1,f2,f3,f4,f5⟩:=hf it (by simp);refine wpAny_pyNext_list_item st p.isList (x:=u) (by simpa using hu) λh' dc sb=>?_;have I1:Inv X pins σ H {s with heap:=h'}:=I.turned (t':=s.toks) (λb o hb e=>(sb.2 b hb).trans e) f0 f1 f3 f4 f5;obtain⟨o,e,c,d⟩:=id dc;exact⟨u,rfl,tS (s:={s with heap:=h'}) e c d (by decide) ⟨x,H,I1,ru,⟨rfl,λys hy=>by rw [I.cz hy hq];exact hx⟩,dc,λb hb=>(hf b hb).1⟩⟩
 done:=by
  intro X hP hw hK hc i pins s σ H E I hf st hg;subst hP hw hK;obtain⟨xs,hq,hx⟩:=hg;obtain⟨its,rv,p,hz⟩:=I.list hq;obtain⟨f0,f1,f2,f3,f4,f5⟩:=hf it (by simp);have hl:=rv.length;exact wpAny_pyNext_list_end (I.ok.hd hc) st p.isList (by simp;omega) λh' eb=>⟨rfl,I.turned (t':=s.toks) (λb o hb e=>eb b o hb e) f0 f1 f3 f4 f5⟩
 self:=λ_ _ _ _ _ st h=>wpAny_pyIter_listiter st h
theorem Pq{P:Program}{w:World}{K:PySem.W.Frag}{tg:Expr}(a it:Addr):Turn P w K tg (qh K a) [it] it (λi h=>h.IsTupleIter it a i) where
 mem:=by simp
 obj:=λi h st b hb=>by
  have e:b=it:=by simpa using hb
  subst e;obtain⟨o,e,c,d⟩:=st;exact⟨o,e,λv z=>by rw [d] at z;cases z⟩
 keep:=λi h h' st k=>st.at λo e=>k it (by simp) o e
 item:=by
  intro X hP hw hK hc i pins s σ H E I hf st hg;subst hP hw hK;obtain⟨xs,x,hq,hx⟩:=hg;obtain⟨its,rv,p,hz⟩:=I.tuple hq;obtain⟨u,hu,ru⟩:=rv.get hx;obtain⟨f0,f1,f2,f3,f4,f5⟩:=hf it (by simp);refine wpAny_pyNext_tuple_item st (show s.heap.IsTuple a its.toArray from p) (x:=u) (by simpa using hu) λh' dc sb=>?_;have I1:Inv X pins σ H {s with heap:=h'}:=I.turned (t':=s.toks) (λb o hb e=>(sb.2 b hb).trans e) f0 f1 f3 f4 f5;obtain⟨o,e,c,d⟩:=id dc;exact⟨u,rfl,tS (s:={s with heap:=h'}) e c d (by decide) ⟨x,H,I1,ru,⟨rfl,λys hy=>by rw [I.gH hy hq];exact hx⟩,dc,λb hb=>(hf b hb).1⟩⟩
 done:=by
  intro X hP hw hK hc i pins s σ H E I hf st hg;subst hP hw hK;obtain⟨xs,hq,hx⟩:=hg;obtain⟨its,rv,p,hz⟩:=I.tuple hq;obtain⟨f0,f1,f2,f3,f4,f5⟩:=hf it (by simp);have hl:=rv.length;exact wpAny_pyNext_tuple_end (I.ok.hd hc) st (show s.heap.IsTuple a its.toArray from p) (by simp;omega) λh' eb=>⟨rfl,I.turned (t':=s.toks) (λb o hb e=>eb b o hb e) f0 f1 f3 f4 f5⟩
 self:=λ_ _ _ _ _ st h=>wpAny_pyIter_tupleiter st h
theorem Pt{P:Program}{w:World}{K:PySem.W.Frag}{tg:Expr}(it:Addr)(lo:Int)(n:Nat):Turn P w K tg (lQ lo n) [it] it (λi h=>IsRangeIter h it (lo+(i:Nat) * 1) ((n:Int) - (i:Nat)) 1) where
 mem:=by simp
 obj:=λi h st b hb=>by
  have e:b=it:=by simpa using hb
  subst e;exact⟨_,st,λv z=>by
   have z':Data.fields _=Data.cell v:=z;cases z'⟩
 keep:=λi h h' st k=>k it (by simp) _ st
 item:=by
  intro X hP hw hK hc i pins s σ H E I hf st hg;subst hP hw hK;obtain⟨f0,f1,f2,f3,f4,f5⟩:=hf it (by simp);have W:=Walks.range (prog:=X.prog) (w:=X.w) (I.ok.hd hc) it lo 1 n;refine W.item i s _ _ hg st λv h' tk hv dc kk=>?_;obtain⟨t,rfl⟩:=hv;have I1:Inv X pins σ H {s with heap:=h',toks:=tk}:=I.turned (λb o hb e=>kk b o (by simpa using hb) e) f0 f1 f3 f4 f5;refine⟨_,rfl,tS (s:={s with heap:=h',toks:=tk}) (n:= "range_iterator") dc rfl rfl (by decide) ⟨.int<|lo+i,H,I1,⟨t,?_⟩,⟨rfl,rfl⟩,dc,λb hb=>(hf b hb).1⟩⟩;rw [Int.mul_one]
 done:=by
  intro X hP hw hK hc i pins s σ H E I hf st hg;subst hP hw hK;obtain⟨f0,f1,f2,f3,f4,f5⟩:=hf it (by simp);exact wpAny_pyNext_range_end (I.ok.hd hc) st (by have:n<=i:=hg;omega) λh' eb=>⟨rfl,I.turned (t':=s.toks) (λb o hb e=>eb b o hb e) f0 f1 f3 f4 f5⟩
 self:=λ_ _ _ _ _ st h=>wpAny_pyIter_rangeiter st h
section
variable{X:Cx}{tg:Expr}
def Pu(K:PySem.W.Frag)(tl:TE):TI:=λσ H R=>tl σ H λx H1=>∃ a,x = .ref a/\(∃ xs,au K H1 a xs)/\R (oE K a) H1
def wY(K:PySem.W.Frag)(tl:TE):TI:=λσ H R=>tl σ H λx H1=>∃ a,x = .ref a/\(∃ xs,aP K H1 a xs)/\R (qh K a) H1
theorem lR{l:Expr}{tl:TE}(hl:PE X l tl):PI X tg l (Pu X.K tl):=by
 intro pins s σ H R I h;refine aH (hl pins s σ H _ I h) λv s1 ⟨x,H1,I1,r1,q1⟩=>?_;obtain⟨a,e,⟨xs,hq⟩,q⟩:=q1;subst e;cases r1;obtain⟨its,rv,p,hz⟩:=I1.list hq;refine wpAny_pyIter_list p.isList ?_;refine⟨s1.heap.objs.size,[s1.heap.objs.size],_,_,H1,rfl,I1.kept (t':=s1.toks) λb o e=>Ak _ e,Pp a _,⟨_,Bb _ rfl,rfl,rfl⟩,λb hb=>?_,q⟩;have e:b=s1.heap.objs.size:=by simpa using hb
 subst e;exact I1.eQ (Al _)<|I1.aE.fresh<|Al _
theorem Pw{l:Expr}{tl:TE}(hl:PE X l tl):PI X tg l (wY X.K tl):=by
 intro pins s σ H R I h;refine aH (hl pins s σ H _ I h) λv s1 ⟨x,H1,I1,r1,q1⟩=>?_;obtain⟨a,e,⟨xs,hq⟩,q⟩:=q1;subst e;cases r1;obtain⟨its,rv,p,hz⟩:=I1.tuple hq;refine wpAny_pyIter_tuple (show s1.heap.IsTuple a its.toArray from p) ?_;refine⟨s1.heap.objs.size,[s1.heap.objs.size],_,_,H1,rfl,I1.kept (t':=s1.toks) λb o e=>Ak _ e,Pq a _,⟨_,Bb _ rfl,rfl,rfl⟩,λb hb=>?_,q⟩;have e:b=s1.heap.objs.size:=by simpa using hb
 subst e;exact I1.eQ (Al _)<|I1.aE.fresh<|Al _
theorem F4{pins:List (Addr×Obj)}{σ:St}{H:Hp}{s:Shared}{R:It->Hp->Prop}{E:Value->Shared->Prop}{lo hi:Int}{t u v:Tok}{tk:Nat}(I:Inv X pins σ H s)(h1:-(2 ^ 62)<=lo)(h2:lo < 2 ^ 62)(h3:-(2 ^ 62)<=hi)(h4:hi < 2 ^ 62)
  (q:R (lQ lo (hi - lo).toNat) H):wpAny (model X.prog X.w) X.A (pyIter<|.ref s.heap.objs.size) (F3 X pins σ tg R) E {s with heap:=s.heap.push {cls:= .type "range",data:= .fields #[.int lo t,.int hi u,.int 1 v]},toks:=tk}:=by
 refine wpAny_pyIter_range (IsRange.new ..) (small_one h1 h2 h3 h4) ?_;have I1:Inv X pins σ H {s with heap:=s.heap.push {cls:= .type "range",data:= .fields #[.int lo t,.int hi u,.int 1 v]},toks:=tk}:=I.kept λb o e=>Ak _ e;refine⟨(s.heap.push {cls:= .type "range",data:= .fields #[.int lo t,.int hi u,.int 1 v]}).objs.size,[(s.heap.push {cls:= .type "range",data:= .fields #[.int lo t,.int hi u,.int 1 v]}).objs.size],_,_,H,rfl,
  I1.kept (t':=tk) λb o e=>Ak _ e,Pt _ lo (hi - lo).toNat,?_,λb hb=>?_,q⟩
 ·have e1:lo+((0:Nat):Int) * 1=lo:=by simp
  have e2:(((hi - lo).toNat:Nat):Int) - ((0:Nat):Int)=Builtin.Range.rangeSize lo hi 1:=by rw [rangeSize_one];split <;> omega
  show IsRangeIter _ _ (lo+((0:Nat):Int) * 1) ((((hi - lo).toNat:Nat):Int) - ((0:Nat):Int)) 1;rw [e1,e2];exact Bb _ rfl
 ·have e:b=(s.heap.push {cls:= .type "range",data:= .fields #[.int lo t,.int hi u,.int 1 v]}).objs.size:=by simpa using hb
  subst e;exact I1.eQ (Al _)<|I1.aE.fresh<|Al _
def F5(ta:TA):TI:=λσ H R=>ta σ H λvs H1=>∃ j:Int,vs=[.int j]/\-(2 ^ 62)<=j/\j < 2 ^ 62/\R (lQ 0 j.toNat) H1
def Px(ta:TA):TI:=λσ H R=>ta σ H λvs H1=>∃ i j:Int,vs=[.int i,.int j]/\(-(2 ^ 62)<=i/\i < 2 ^ 62/\-(2 ^ 62)<=j/\j < 2 ^ 62)/\R (lQ i (j - i).toNat) H1
theorem F6{a:Expr}{ta:TA}{p pos:Pos}(hg:Gl X "range")(hm:X.mg "range" = none)(ha:PA X [a] ta)(hs:starEach [a] X.env=[(false,eval a X.env)]:=by rfl):PI X tg (.Call (.Name "range" p) [a] [] pos) (F5 ta):=by
 intro pins s σ H R I h;refine Call_<|jv I hg hm boot_range<|DW (aH (ha pos pins s σ H _ I h) λus s1 ⟨vs,H1,I1,r1,q1⟩=>?_) hs rfl;obtain⟨j,e,q1,q2,q⟩:=q1;subst e;cases r1 with
 | cons r rr=>
  cases rr;obtain⟨t,rfl⟩:=r;exact call_range_1<|F4 I1 (by omega) (by omega) q1 q2<|by simpa using q
theorem Py{a b:Expr}{ta:TA}{p pos:Pos}(hg:Gl X "range")(hm:X.mg "range" = none)(ha:PA X [a,b] ta)(hs:starEach [a,b] X.env=[(false,eval a X.env),(false,eval b X.env)]:=by rfl)(jx:starEach [b] X.env=[(false,eval b X.env)]:=by rfl) :
  PI X tg (.Call (.Name "range" p) [a,b] [] pos) (Px ta):=by
 intro pins s σ H R I h;refine Call_ (jv I hg hm boot_range<|DW (aH (ha pos pins s σ H _ I h) λus s1 ⟨vs,H1,I1,r1,q1⟩=>?_) (by rw [hs,jx])<|by rw [jx];rfl);obtain⟨i,j,e,⟨q1,q2,q3,q4⟩,q⟩:=q1;subst e;cases r1 with
 | cons r rr=>
  cases rr with
  | cons r' rr=>
   cases rr;obtain⟨t,rfl⟩:=r;obtain⟨t',rfl⟩:=r';exact call_range_2<|F4 I1 q1 q2 q3 q4 q
def wZ(wi:TI)(g:TG)(tb:TS):TS:=λD σ H=>wi σ H λJ H1=>∃ W:Nat->Nat->St->Hp->Prop,(∃ m,W 0 m σ H1)/\∀ i m σ H,W i m σ H ->
 (J.stop i H/\D.nx σ H)\/(J.go i H/\∃ N:St->Hp->Prop,(∀ σ' H',N σ' H'->∃ m',m' < m/\W (i+1) m' σ' H')/\∀ x H',J.qg i H x H'->g x σ H' λσ2 H2=>tb {D with nx:=N,ct:=N,bk:=D.nx} σ2 H2)
def qi(fp:List Addr)(h:Heap):List (Addr×Obj):=fp.filterMap λb=>(h.get? b).map λo=>(b,o)
theorem tT{fp:List Addr}{h:Heap}{b:Addr}{o:Obj}(hb:b∈fp)(e:h.get? b=some o):(b,o)∈qi fp h:=List.mem_filterMap.mpr ⟨b,hb,by rw [e];rfl⟩
theorem Pz{fp:List Addr}{h:Heap}{p:Addr×Obj}(hp:p∈qi fp h):p.1∈fp/\h.get? p.1=some p.2:=by
 obtain⟨b,hb,e⟩:=List.mem_filterMap.mp hp;cases q:h.get? b with
 | none=>rw [q] at e;cases e
 | some o=>
  rw [q] at e;have e':(b,o)=p:=Option.some.inj e;subst e';exact⟨hb,q⟩
theorem Inv.pinned{pins:List (Addr×Obj)}{σ:St}{H:Hp}{s:Shared}{fp:List Addr}(I:Inv X pins σ H s)(hf:∀ b∈fp,bT X pins H b)(ho:∀ b∈fp,∃ o,s.heap.get? b=some o/\∀ v,o.data ≠ .cell v):Inv X (pins++qi fp s.heap) σ H s:=
 I.fT λp hp=>(Aq.mp hp).elim (λz=>I.pin p<|Ap _ z) λz=>by
  obtain⟨hb,e⟩:=Pz z;obtain⟨f0,f1,f2,_⟩:=hf p.1 hb;obtain⟨o,e',d⟩:=ho p.1 hb;rw [e] at e';cases e';exact⟨e,f0,f1,f2,d⟩
theorem Inv.cB{pins pl:List (Addr×Obj)}{σ:St}{H:Hp}{s:Shared}(I:Inv X (pins++pl) σ H s):Inv X pins σ H s:=I.fT λp hp=>I.pin p<|Ap _<|Aw _ hp
theorem PD{iter:Expr}{body:List Stmt}{wi:TI}{g:TG}{tb:TS}{pos:Pos}(hp:PassesOwn (model X.prog X.w) X.A X.env X.xe)(hc:X.calm=true)(hi:PI X tg iter wi)(hg:PG X tg g)(hb:gG X body tb)
  (hs:∀ x,foldedSetIterable iter X.env x=pure x:=by intro _;rfl):PS X (.For tg iter body [] pos) (wZ wi g tb):=by
 intro pins s σ H D I h;refine wpAny_For (aH (hi pins s σ H _ I h) λv s1 h1=>aH h1 λlP s2 h2=>?_) hs;obtain⟨it,fp,tn,J,H2,e,I2,T,fm,f2,W,⟨m0,w0⟩,turn⟩:=h2;subst e;have stat:∀{H':Hp},(∀ b∈fp,H' b=none)->∀ b∈fp,bT X pins H' b:=λhn b hb=>⟨hn b hb,(f2 b hb).2⟩;refine codeAny_forLoop_any (λn s'=>∃ i σ' H',Inv X pins σ' H' s'/\tn i s'.heap/\(∀ b∈fp,H' b=none)/\W i n σ' H') ?_ m0 ⟨0,σ,H2,I2,fm,λb hb=>(f2 b hb).1,w0⟩;rintro n s3 ⟨i,σ3,H3,I3,F7,F8,w3⟩
 rcases turn i n σ3 H3 w3 with ⟨stop,qn⟩ | ⟨go,N,hN,step⟩
 ·refine FP hp<|aH (T.done X rfl rfl rfl hc i pins s3 σ3 H3 X.xe I3 (stat F8) F7 stop) λr s4 ⟨hr,I4⟩=>?_;subst hr;exact MK ⟨σ3,H3,I4,qn⟩
 ·refine FP hp<|aH (T.item X rfl rfl rfl hc i pins s3 σ3 H3 X.xe I3 (stat F8) F7 go) λr s4 ⟨u,hr,h4⟩=>?_;subst hr;refine FP hp<|aH h4 λ_ s5 ⟨x,H5,I5,r5,y5,w5,PF⟩=>?_;have PH:=I5.pinned (stat PF)<|T.obj _ _ w5;refine FP hp<|aH (hg _ s5 σ3 H5 x u _ PH r5<|step x H5 y5) λ_ s6 ⟨σ6,H6,I6,q6⟩=>?_;refine FP hp<|aH (hb _ s6 σ6 H6 _ I6 q6) λf s7 q7=>?_;have again:∀{σ7:St} {H7:Hp},Inv X (pins++qi fp s5.heap) σ7 H7 s7->N σ7 H7->∃ m,m < n/\∃ i σ' H',Inv X pins σ' H' s7/\tn i s7.heap/\(∀ b∈fp,H' b=none)/\W i m σ' H':=λ{σ7 H7} I7 n7=>by
   obtain⟨m',hm,w7⟩:=hN σ7 H7 n7;refine⟨m',hm,i+1,σ7,H7,I7.cB,T.keep _ _ _ w5 λb hb o e=>(I7.pin (b,o)<|Ap _<|Ap _<|tT hb e).1,λb hb=>?_,w7⟩;obtain⟨o,e,d⟩:=T.obj _ _ w5 b hb;exact(I7.pin (b,o)<|Ap _<|Ap _<|tT hb e).2.1
  cases f with
  | next=>obtain⟨σ7,H7,I7,n7⟩:=q7;exact again I7 n7
  | cont=>obtain⟨σ7,H7,I7,n7⟩:=q7;exact again I7 n7
  | brk=>obtain⟨σ7,H7,I7,q7⟩:=q7;exact⟨σ7,H7,I7.cB,q7⟩
  | ret v=>obtain⟨x7,σ7,H7,I7,r7,q7⟩:=q7;exact⟨x7,σ7,H7,I7.cB,r7,q7⟩
end
abbrev R2:=V->V->Hp->VK->Prop
def cR(X:Cx)(f:Value->Value->Sem Value)(r:R2):Prop:=
 ∀(pins:List<|Addr×Obj) (s:Shared) (σ:St) (H:Hp) (x y:V) (v u:Value) (Q:VK),Inv X pins σ H s->RelV x v->RelV y u->r x y H Q ->
  wpAny (model X.prog X.w) X.A (f v u) (EP X pins σ Q) X.xe s
def tU(X:Cx)(f:Value->Sem Value)(r:V->Hp->VK->Prop):Prop:=
 ∀(pins:List<|Addr×Obj) (s:Shared) (σ:St) (H:Hp) (x:V) (v:Value) (Q:VK),Inv X pins σ H s->RelV x v->r x H Q ->
  wpAny (model X.prog X.w) X.A (f v) (EP X pins σ Q) X.xe s
def gJ(X:Cx)(f:Value)(r:List V->Hp->VK->Prop):Prop:=
 ∀(pins:List<|Addr×Obj) (s:Shared) (σ:St) (H:Hp) (xs:List V) (us:List Value) (Q:VK),Inv X pins σ H s->ax xs us->r xs H Q ->
  wpAny (model X.prog X.w) X.A (call f us) (EP X pins σ Q) X.xe s
def w6(X:Cx)(r:V->Hp->(Bool->Hp->Prop)->Prop):Prop:=
 ∀(pins:List<|Addr×Obj) (s:Shared) (σ:St) (H:Hp) (x:V) (v:Value) (Q:Bool->Hp->Prop),Inv X pins σ H s->RelV x v->r x H Q ->
  wpAny (model X.prog X.w) X.A (truthy v) (TP X pins σ Q) X.xe s
def tV(r:R2)(ta tb:TE):TE:=λσ H Q=>ta σ H λx H1=>tb σ H1 λy H2=>r x y H2 Q
def PQ(r:V->Hp->VK->Prop)(ta:TE):TE:=λσ H Q=>ta σ H λx H1=>r x H1 Q
def rI(C:Int->Int->Prop)(g:Int->Int->V):R2:=λx y H Q=>∃ i j,x = .int i/\y = .int j/\C i j/\Q (g i j) H
def oF(g:Int->Int->V):R2:=λx y H Q=>∃ i j,x = .int i/\y = .int j/\Q (g i j) H
def rU(g:Int->V):V->Hp->VK->Prop:=λx H Q=>∃ i,x = .int i/\Q (g i) H
section
variable{X:Cx}{a b c:Expr}{ta tb tc:TE}{pos:Pos}
theorem lS(ha:PE X a ta)(hb:PE X b tb){pins:List (Addr×Obj)}{s:Shared}{σ:St}{H:Hp}{R:V->V->Hp->Prop}(I:Inv X pins σ H s)
  (h:ta σ H λx H1=>tb σ H1 λy H2=>R x y H2) {Q:Value->Shared->Prop} {f:Value->Value->Sem Value}
  (hf:∀ v u s2 x y H2,Inv X pins σ H2 s2->RelV x v->RelV y u->R x y H2->wpAny (model X.prog X.w) X.A (f v u) Q X.xe s2) :
  wpAny (model X.prog X.w) X.A (eval a X.env) (λv s₁=>wpAny (model X.prog X.w) X.A (eval b X.env) (λu s₂=>wpAny (model X.prog X.w) X.A (f v u) Q X.xe s₂) X.xe s₁) X.xe s:=by
 refine aH (ha pins s σ H _ I h) λv s1 ⟨x,H1,I1,r1,q1⟩=>?_;refine aH (hb pins s1 σ H1 _ I1 q1) λu s2 ⟨y,H2,I2,r2,q2⟩=>?_;exact hf v u s2 x y H2 I2 r1 r2 q2
theorem PR{op:Operator}{r:R2}(ho:cR X (binaryOp op) r)(ha:PE X a ta)(hb:PE X b tb):PE X (.BinOp a op b pos) (tV r ta tb):=by
 intro pins s σ H Q I h;exact wpAny_BinOp<|lS ha hb I h λv u s2 x y H2 I2 rx ry q=>ho pins s2 σ H2 x y v u Q I2 rx ry q
theorem PU{op:UnaryOp}{r:V->Hp->VK->Prop}(ho:tU X (unaryOp op) r)(ha:PE X a ta):PE X (.UnaryOp op a pos) (PQ r ta):=by
 intro pins s σ H Q I h;exact UnaryOp_<|aH (ha pins s σ H _ I h) λv s1 ⟨x,H1,I1,r1,q1⟩=>ho pins s1 σ H1 x v Q I1 r1 q1
theorem tW{f:Value->Value->Sem Value}{C:Int->Int->Prop}{g:Int->Int->Int}
  (rule:∀(i j:Int) (t u:Tok) (s:Shared) (Q:Value->Shared->Prop) (E:Value->Shared->Prop),C i j->Q (.int (g i j) s.toks) {s with toks:=s.toks+1}->wpAny (model X.prog X.w) X.A (f (.int i t)<|.int j u) Q E s) :
  cR X f (rI C λi j=> .int<|g i j):=by
 intro pins s σ H x y v u Q I rx ry h;obtain⟨i,j,rfl,rfl,hc,q⟩:=h;obtain⟨t,rfl⟩:=rx;obtain⟨t',rfl⟩:=ry;exact rule i j t t' s _ _ hc ⟨.int<|g i j,H,I.tok _,⟨_,rfl⟩,q⟩
theorem qj{f:Value->Value->Sem Value}{g:Int->Int->Int}
  (rule:∀(i j:Int) (t u:Tok) (s:Shared) (Q:Value->Shared->Prop) (E:Value->Shared->Prop),Q (.int (g i j) s.toks) {s with toks:=s.toks+1}->wpAny (model X.prog X.w) X.A (f (.int i t)<|.int j u) Q E s) :
  cR X f (oF λi j=> .int<|g i j):=by
 intro pins s σ H x y v u Q I rx ry h;obtain⟨i,j,rfl,rfl,q⟩:=h;obtain⟨t,rfl⟩:=rx;obtain⟨t',rfl⟩:=ry;exact rule i j t t' s _ _ ⟨.int<|g i j,H,I.tok _,⟨_,rfl⟩,q⟩
theorem qk{f:Value->Value->Sem Value}{g:Int->Int->Bool}
  (rule:∀(i j:Int) (t u:Tok) (s:Shared) (Q:Value->Shared->Prop) (E:Value->Shared->Prop),Q (.bool<|g i j) s->wpAny (model X.prog X.w) X.A (f (.int i t)<|.int j u) Q E s) :
  cR X f (oF λi j=> .bl<|g i j):=by
 intro pins s σ H x y v u Q I rx ry h;obtain⟨i,j,rfl,rfl,q⟩:=h;obtain⟨t,rfl⟩:=rx;obtain⟨t',rfl⟩:=ry;exact rule i j t t' s _ _ ⟨.bl<|g i j,H,I,rfl,q⟩
def ql(i j:Int):Prop:=0 < j/\j < 1073741824
def w8(i j:Int):Prop:=0<=j/\j<=1000000/\i.natAbs < 2 ^ 64
def lT(i j:Int):Prop:=(-(2 ^ 64) < i/\i < 2 ^ 64)\/(-(2 ^ 64) < j/\j < 2 ^ 64)
theorem lT.ok{i j:Int}(h:lT i j):IntMulOk i j:=by
 rcases h with ⟨h1,h2⟩ | ⟨h1,h2⟩
 ·exact .of_left<|intBits_le_64 h1 h2
 ·exact .of_right<|intBits_le_64 h1 h2
theorem d9:cR X (binaryOp .Add) (oF λi j=> .int<|i+j):=qj λ_ _ _ _ _ _ _ q=>add_int q
theorem F9:cR X (binaryOp .Sub) (oF λi j=> .int<|i - j):=qj λ_ _ _ _ _ _ _ q=>sub_int q
theorem lU:cR X (binaryOp .Mult) (rI lT λi j=> .int<|i * j):=tW λ_ _ _ _ _ _ _ hc q=>mul_int q hc.ok
theorem fV:cR X (binaryOp .FloorDiv) (rI ql λi j=> .int<|i / j):=tW λi j _ _ _ _ _ hc q=>by
 have h1:(0:Int) < j:=hc.1;have h2:j < 1073741824:=hc.2;exact floordiv_int (by omega) (by rw [Int.fdiv_eq_ediv_of_nonneg i<|by omega];exact q)<|.inl<|PyProof.noPylong_small<|by omega
theorem cE:cR X (binaryOp .Mod) (rI (λ_ j=>0 < j) λi j=> .int<|i % j):=tW λi j _ _ _ _ _ hc q=>by
 have h1:(0:Int) < j:=hc;exact mod_int' (by omega)<|by rw [Int.fmod_eq_emod_of_nonneg i<|by omega];exact q
theorem w9:cR X (binaryOp .Pow) (rI w8 λi j=> .int<|i ^ j.toNat):=tW λ_ _ _ _ _ _ _ hc q=>pow_int_small hc.1 hc.2.1 hc.2.2 q
theorem PV{f:Value->Sem Value}{g:Int->Int}
  (rule:∀(i:Int) (t:Tok) (s:Shared) (Q:Value->Shared->Prop) (E:Value->Shared->Prop),Q (.int (g i) s.toks) {s with toks:=s.toks+1}->wpAny (model X.prog X.w) X.A (f<|.int i t) Q E s) :
  tU X f (rU λi=> .int<|g i):=by
 intro pins s σ H x v Q I rx h;obtain⟨i,rfl,q⟩:=h;obtain⟨t,rfl⟩:=rx;exact rule i t s _ _ ⟨.int<|g i,H,I.tok _,⟨_,rfl⟩,q⟩
theorem lV:tU X (unaryOp .USub) (rU λi=> .int (-i)):=PV λ_ _ _ _ _ q=>neg_int q
def qm:V->V->Bool
 | .non,.non=>true | .non,.int _=>true | .int _,.non=>true | .non,.bl _=>true | .bl _,.non=>true | .non,.str _=>true | .str _,.non=>true
 | .int _,.int _=>true | .bl _,.bl _=>true | .str _,.str _=>true | .gE _,.gE _=>true
 | .int _,.str _=>true | .str _,.int _=>true | .bl _,.str _=>true | .str _,.bl _=>true
 | _,_=>false
def PY:R2:=λx y H Q=>qm x y=true/\Q (.bl<|decide (x=y)) H
def PZ:R2:=λx y H Q=>qm x y=true/\Q (.bl (!decide (x=y))) H
theorem F'{i j:Int}:decide (V.int i=V.int j)=(i == j):=by
 rw [Ex];simp
theorem Gg{i j:Bool}:decide (V.bl i=V.bl j)=(i == j):=by
 rw [Ex];simp
theorem Gh{i j:Str}:decide (V.str i=V.str j)=(i == j):=by
 rw [Ex];simp
theorem Gi{i j:Array UInt8}:decide (V.gE i=V.gE j)=(i.toList == j.toList):=by
 rw [Ex];cases i;cases j;simp
theorem cq{pins:List (Addr×Obj)}{σ:St}{H:Hp}{s:Shared}{Q:VK}{k k':Bool}(I:Inv X pins σ H s)(q:Q (.bl k) H)(e:k=k'):EP X pins σ Q (.bool k') s:=by
 subst e;exact⟨.bl k,H,I,rfl,q⟩
theorem gK:cR X (compareOp .Eq) PY:=by
 intro pins s σ H x y v u Q I rx ry h;obtain⟨hs,q⟩:=h;cases x with
 | non=>
  cases rx;cases y with
  | non=>cases ry;exact PySem.EqNone.eq_none_none<|cq I q<|by simp
  | bl j=>cases ry;exact PySem.EqNone.eq_none_bool<|cq I q<|by simp
  | int j=>obtain⟨t',rfl⟩:=ry;exact PySem.EqNone.eq_none_int<|cq I q<|by simp
  | str j=>obtain⟨t',rfl⟩:=ry;exact PySem.EqNone.eq_none_str<|cq I q<|by simp
  | _=>exact absurd (show false=true from hs) Ar
 | bl i=>
  cases rx;cases y with
  | non=>cases ry;exact PySem.EqNone.eq_bool_none<|cq I q<|by simp
  | bl j=>cases ry;exact eq_bool<|cq I q Gg
  | str j=>obtain⟨t',rfl⟩:=ry;exact PySem.EqMixed.eq_bool_str<|cq I q<|by simp
  | _=>exact absurd (show false=true from hs) Ar
 | int i=>
  obtain⟨t,rfl⟩:=rx;cases y with
  | non=>cases ry;exact PySem.EqNone.eq_int_none<|cq I q<|by simp
  | int j=>obtain⟨t',rfl⟩:=ry;exact eq_int<|cq I q F'
  | str j=>obtain⟨t',rfl⟩:=ry;exact PySem.EqMixed.eq_int_str<|cq I q<|by simp
  | _=>exact absurd (show false=true from hs) Ar
 | str i=>
  obtain⟨t,rfl⟩:=rx;cases y with
  | non=>cases ry;exact PySem.EqNone.eq_str_none<|cq I q<|by simp
  | bl j=>cases ry;exact PySem.EqMixed.eq_str_bool<|cq I q<|by simp
  | int j=>obtain⟨t',rfl⟩:=ry;exact PySem.EqMixed.eq_str_int<|cq I q<|by simp
  | str j=>obtain⟨t',rfl⟩:=ry;exact eq_str<|cq I q Gh
  | _=>exact absurd (show false=true from hs) Ar
 | gE i=>
  obtain⟨t,rfl⟩:=rx;cases y with
  | gE j=>obtain⟨t',rfl⟩:=ry;exact PySem.W.eq_bytes<|cq I q Gi
  | _=>exact absurd (show false=true from hs) Ar
 | _=>cases y <;> exact absurd (show false=true from hs) Ar
theorem Gj:cR X (compareOp .NotEq) PZ:=by
 intro pins s σ H x y v u Q I rx ry h;obtain⟨hs,q⟩:=h;cases x with
 | non=>
  cases rx;cases y with
  | non=>cases ry;exact PySem.EqNone.ne_none_none<|cq I q<|by simp
  | bl j=>cases ry;exact PySem.EqNone.ne_none_bool<|cq I q<|by simp
  | int j=>obtain⟨t',rfl⟩:=ry;exact PySem.EqNone.ne_none_int<|cq I q<|by simp
  | str j=>obtain⟨t',rfl⟩:=ry;exact PySem.EqNone.ne_none_str<|cq I q<|by simp
  | _=>exact absurd (show false=true from hs) Ar
 | bl i=>
  cases rx;cases y with
  | non=>cases ry;exact PySem.EqNone.ne_bool_none<|cq I q<|by simp
  | bl j=>cases ry;exact ne_bool<|cq I q<|BZ not Gg
  | str j=>obtain⟨t',rfl⟩:=ry;exact PySem.EqMixed.ne_bool_str<|cq I q<|by simp
  | _=>exact absurd (show false=true from hs) Ar
 | int i=>
  obtain⟨t,rfl⟩:=rx;cases y with
  | non=>cases ry;exact PySem.EqNone.ne_int_none<|cq I q<|by simp
  | int j=>obtain⟨t',rfl⟩:=ry;exact ne_int<|cq I q<|BZ not F'
  | str j=>obtain⟨t',rfl⟩:=ry;exact PySem.EqMixed.ne_int_str<|cq I q<|by simp
  | _=>exact absurd (show false=true from hs) Ar
 | str i=>
  obtain⟨t,rfl⟩:=rx;cases y with
  | non=>cases ry;exact PySem.EqNone.ne_str_none<|cq I q<|by simp
  | bl j=>cases ry;exact PySem.EqMixed.ne_str_bool<|cq I q<|by simp
  | int j=>obtain⟨t',rfl⟩:=ry;exact PySem.EqMixed.ne_str_int<|cq I q<|by simp
  | str j=>obtain⟨t',rfl⟩:=ry;exact ne_str<|cq I q<|BZ not Gh
  | _=>exact absurd (show false=true from hs) Ar
 | gE i=>
  obtain⟨t,rfl⟩:=rx;cases y with
  | gE j=>obtain⟨t',rfl⟩:=ry;exact PySem.W.ne_bytes<|cq I q<|BZ not Gi
  | _=>exact absurd (show false=true from hs) Ar
 | _=>cases y <;> exact absurd (show false=true from hs) Ar
theorem P0:cR X (compareOp .Lt) (oF λi j=> .bl<|decide (i < j)):=qk λ_ _ _ _ _ _ _ q=>lt_int q
theorem P1:cR X (compareOp .Gt) (oF λi j=> .bl<|decide (j < i)):=qk λ_ _ _ _ _ _ _ q=>gt_int q
theorem P2{op:CmpOp}{r:R2}(ho:cR X (compareOp op) r)(ha:PE X a ta)(hb:PE X b tb)(hm:behindInMarks op b=false):PE X (.Compare a [op] [b] pos) (tV r ta tb):=by
 intro pins s σ H Q I h;exact wpAny_Compare1 (lS ha hb I h λv u s2 x y H2 I2 rx ry q=>ho pins s2 σ H2 x y v u Q I2 rx ry q) hm
def P4(t:TE):TT:=λσ H Q=>t σ H λx H'=>∃ k,x = .bl k/\Q k H'
theorem P5{op:CmpOp}{r:R2}(ho:cR X (compareOp op) r)(ha:PE X a ta)(hb:PE X b tb)(hm:behindInMarks op b=false):PT X (.Compare a [op] [b] pos) (P4<|tV r ta tb):=by
 intro pins s σ H Q I h;refine wpAny_isTrue_Compare1 (aH (ha pins s σ H _ I h) λv s1 ⟨x,H1,I1,r1,q1⟩=>aH (hb pins s1 σ H1 _ I1 q1) λu s2 ⟨y,H2,I2,r2,q2⟩=>
  aH (ho pins s2 σ H2 x y v u _ I2 r1 r2 q2) λc s3 ⟨z,H3,I3,r3,k,e,q3⟩=>?_) hm
 subst e;cases r3;exact DK ⟨H3,I3,q3⟩
def lW(K:PySem.W.Frag)(x:V)(H:Hp)(k:Bool):Prop:=
 match x with
 | .non=>k=false
 | .bl b=>k=b
 | .int i=>k=(i != 0)
 | .str y=>y.length<=sizeLine/\k=((y.length:Int) != 0)
 | .gE y=>y.size<=sizeLine/\k=((y.size:Int) != 0)
 | .ref p=>(∃ xs,au K H p xs/\k = !xs.isEmpty)\/(∃ xs,aP K H p xs/\k = !xs.isEmpty)\/∃ kvs,H p=some (.dK kvs)/\k = !kvs.isEmpty
 | _=>False
theorem P6{κ:Type}{kvs:List (κ×V)}{vs:List (κ×Value)}(r:KV kvs vs):(!vs.isEmpty) = !kvs.isEmpty:=by
 cases r <;> rfl
theorem Gk{xs:List V}{its:List Value}(r:ax xs its):(!its.toArray.isEmpty) = !xs.isEmpty:=by
 cases r <;> simp
theorem lX:(sizeLine:Nat) < 2 ^ 63:=by rw [DG];decide
theorem P7:w6 X (λx H Q=>∃ k,lW X.K x H k/\Q k H):=by
 intro pins s σ H x v Q I rx h;obtain⟨k,e,q⟩:=h;have hl:=lX;have hs:sizeLine=16777216:=DG;cases x with
 | non=>
  cases rx;have e':k=false:=e;subst e';exact truthy_none ⟨H,I,q⟩
 | bl b=>
  cases rx;have e':k=b:=e;subst e';exact DK ⟨H,I,q⟩
 | int i=>
  obtain⟨t,rfl⟩:=rx;have e':k=(i != 0):=e;subst e';exact PySem.P.truthy_int ⟨H,I,q⟩
 | str y=>
  obtain⟨t,rfl⟩:=rx;obtain⟨hy,e'⟩:y.length<=sizeLine/\k=((y.length:Int) != 0):=e;subst e';exact PySem.P.truthy_str (by omega) ⟨H,I.tok _,q⟩
 | gE y=>
  obtain⟨t,rfl⟩:=rx;obtain⟨hy,e'⟩:y.size<=sizeLine/\k=((y.size:Int) != 0):=e;subst e';exact PySem.W.truthy_bytes (by omega) ⟨H,I.tok _,q⟩
 | ref p=>
  cases rx;have e':(∃ xs,au X.K H p xs/\k = !xs.isEmpty)\/(∃ xs,aP X.K H p xs/\k = !xs.isEmpty)\/∃ kvs,H p=some (.dK kvs)/\k = !kvs.isEmpty:=e
  rcases e' with ⟨xs,hx,e'⟩ | ⟨xs,hx,e'⟩ | ⟨kvs,hx,e'⟩
  ·subst e';obtain⟨its,r,pl,hz⟩:=I.list hx;have hlen:=r.length;exact wpAny_truthy_list pl.isList (by simp only [As];omega) ⟨H,I.tok _,by rw [Gk r];exact q⟩
  ·subst e';obtain⟨its,r,pl,hz⟩:=I.tuple hx;have hlen:=r.length;exact truthy_tuple pl (by simp only [As];omega) ⟨H,I.tok _,by rw [Gk r];exact q⟩
  ·subst e';obtain⟨hz,hS,vs,r,m⟩:kvs.length<=sizeLine/\(p == sysModules)=false/\∃ vs,KV kvs vs/\s.heap.DictOf (cQ X.prog X.w) p vs:=I.aE p _ hx;have hlen:kvs.length=vs.length:=Paired.length r;exact wpAny_truthy_dict hS m (by omega) ⟨H,I.tok _,by rw [P6 r];exact q⟩
 | _=>exact(show False from e).elim
theorem P8(ha:PE X a ta)(he:∀ whole,isTrue a X.env whole=(do let v <- whole;standAt a.pos;holding [v] (truthy v))) :
  PT X a (λσ H Q=>ta σ H λx H'=>∃ k,lW X.K x H' k/\Q k H'):=by
 intro pins s σ H Q I h;exact isTrue_plain (aH (ha pins s σ H _ I h) λv s1 ⟨x,H1,I1,r1,q1⟩=>P7 pins s1 σ H1 x v Q I1 r1 q1)<|he _
theorem P9:cR X (binaryOp .Add) (λx y H Q=>∃ i j,x = .str i/\y = .str j/\i.length+j.length<=sizeLine/\Q (.str<|i++j) H):=by
 intro pins s σ H x y v u Q I rx ry h;obtain⟨i,j,rfl,rfl,hz,q⟩:=h;obtain⟨t,rfl⟩:=rx;obtain⟨t',rfl⟩:=ry;exact add_str (λt' tk=>⟨.str<|i++j,H,I.tok _,⟨_,rfl⟩,q⟩) hz
theorem vals1{x:V}{us:List Value}(r:ax [x] us):∃ u,us=[u]/\RelV x u:=by
 cases r with
 | cons r1 r2=>cases r2;exact⟨_,rfl,r1⟩
theorem vals2{x y:V}{us:List Value}(r:ax [x,y] us):∃ u w',us=[u,w']/\RelV x u/\RelV y w':=by
 cases r with
 | cons r1 r2=>
  cases r2 with
  | cons r3 r4=>cases r4;exact⟨_,_,rfl,r1,r3⟩
theorem Gm(hc:X.calm=true):gJ X (.builtin "max") (λxs H Q=>∃ i j,xs=[.int i,.int j]/\Q (.int (if j > i then j else i)) H):=by
 intro pins s σ H xs us Q I r h;obtain⟨i,j,rfl,q⟩:=h;obtain⟨u,w',rfl,⟨t,rfl⟩,⟨t',rfl⟩⟩:=vals2 r;refine max_two_ints (I.ok.hd hc) λh' tk k=>⟨_,H,I.kept k,?_,q⟩
 by_cases hj:j > i
 ·rw [BL hj,BL hj];exact⟨_,rfl⟩
 ·rw [BJ hj,BJ hj];exact⟨_,rfl⟩
end
structure lY(h:Heap)(x dx C:Addr)(mA:Str->Option Value):Prop where
 obj:h.get? x=some (PySem.W.instObj C dx)
 ns:h.Ns1 dx mA
 ne:dx≠x
theorem P'{h:Heap}{dx:Addr}{mA:Str->Option Value}(n:h.Ns1 dx mA):∃ od,h.get? dx=some od/\∀ name,PySem.W.lookIn name od=some (mA name):=by
 obtain⟨o,es,ep,ho,hd,hk,_,hm⟩:=n;refine⟨o,ho,λname=>?_⟩;have e:=hm name;unfold nsFind findBy at e;rw [<- Array.find?_toList] at e;unfold PySem.W.lookIn;rw [hd]
 dsimp only
 split
 ·rename_i y q;rw [q] at e;exact BZ some e
 ·rename_i q;rw [q] at e;have a:es.toList.any (·.refKey)=false:=by
   rw [List.any_eq_false];intro y hy;obtain⟨z,t,xa⟩:=hk y<|Array.mem_toList_iff.mp hy;simp [DictEntry.refKey,xa]
  have a':¬ es.toList.any (·.refKey)=true:=by rw [a];exact Ar
  rw [BJ a'];exact BZ some e
theorem lY.look{h:Heap}{x dx C:Addr}{mA:Str->Option Value}(I:lY h x dx C mA):∃ od,PySem.W.InstAt h x (PySem.W.instObj C dx) C (some od)/\∀ name,PySem.W.lookIn name od=some (mA name):=
 let ⟨od,ho,hl⟩:=P' I.ns
 ⟨od,⟨I.obj,rfl,rfl,ho⟩,hl⟩
section
variable{prog:Program}{w:World}{A:Around}{E:Value->Shared->Prop}{s:Shared}{K:PySem.W.Frag}{x dx C f:Addr}{mA:Str->Option Value}{name:Str}{v:Value}
end
theorem c9.some_of{v:V}{o:Option Value}(r:c9 (some v) o):∃ u,o=some u/\RelV v u:=by
 cases o with
 | none=>exact(show False from r).elim
 | some u=>exact⟨u,rfl,r⟩
section
variable{P:Program}{w:World}{H H':Hp}{h h':Heap}{a C dx:Addr}{fs Ow:List (Str×V)}
theorem Qa(aE:b8 P w H h)(e:H a=some (.ins C dx fs)):∃ mA,lY h a dx C mA/\(∀ f,c9 (fs.lookup f)<|mA f)/\PySem.Within mA (fs.map (·.1))/\fs.length<=1000/\H dx=some (.own a):=by
 obtain⟨d,z,ne,ob,mA,n,r,q⟩:=(show ay P w H h a (.ins C dx fs) from aE a _ e);exact⟨mA,⟨ob,n,ne⟩,r,q,z,d⟩
end
structure xc(K:PySem.W.Frag)(C:Addr):Prop where
 pg:PySem.W.plainGet K C Str.empty=true
 hd:PySem.W.hasDictIn K C=true
 po:PySem.W.plainOver K C=true
 sa:PySem.W.findIn K (.ref C) "__setattr__" = some (some<|.builtin "object.__setattr__")
theorem xc.get{K:PySem.W.Frag}{C:Addr}(c:xc K C)(f:Str):PySem.W.plainGet K C f=true:=c.pg
section
variable{X:Cx}{pins:List (Addr×Obj)}{σ:St}{H:Hp}{s:Shared}{a C dx:Addr}{fs:List (Str×V)}{f:Str}{v:V}{A:Around}{E:Value->Shared->Prop}
end
section
variable{X:Cx}{o e value:Expr}{f:Str}{pos pos' ip:Pos}{ta tv:TE}
end
section
variable{X:Cx}{pins:List (Addr×Obj)}{σ:St}{H:Hp}{s:Shared}{A:Around}{E:Value->Shared->Prop}{Q:Value->Shared->Prop}{c:Value}{b:Bool}
inductive cH (K:PySem.W.Frag) (H:Hp):V->Value->Prop where
 | non:cH K H .non<|.type "NoneType"
 | bl (x:Bool):cH K H (.bl x)<|.type "bool"
 | int (i:Int):cH K H (.int i)<|.type "int"
 | str (x:Str):cH K H (.str x)<|.type "str"
 | ou (x:UInt64):cH K H (.ou x)<|.type "float"
 | lst {a:Addr} {xs:List V} (e:H a=some (.lst xs)):cH K H (.ref a)<|.type "list"
 | bv {a:Addr} {o:Obj} {xs:List V} (e:H a=some (.bv o<|.lst xs)):cH K H (.ref a)<|.type "list"
 | tup {a:Addr} {xs:List V} (e:H a=some (.tup xs)):cH K H (.ref a)<|.type "tuple"
 | dK {a:Addr} {kvs:List (Key×V)} (e:H a=some (.dK kvs)):cH K H (.ref a)<|.type "dict"
 | dT {a:Addr} {kvs:List (List Key×V)} (e:H a=some (.dT kvs)):cH K H (.ref a)<|.type "dict"
 | ins {a C dx:Addr} {fs:List (Str×V)} (e:H a=some (.ins C dx fs)) (cl:xc K C) (ha:PySem.W.findIn K (.ref C) "__class__" = some (some<|.builtin "object.__class__"))
   (hn:PySem.W.specialIn K (.builtin "object.__class__") "__get__" = some (some<|.builtin "getset_descriptor.__get__")) (Gn:PySem.W.takesIn K (.builtin "object.__class__")=some true)
   (hm:PySem.W.mroIn K C (.type "object")=some true):cH K H (.ref a)<|.ref C
theorem Qb{x:V}{u t:Value}(I:Inv X pins σ H s)(rx:RelV x u)(ty:cH X.K H x t)(e:PySem.W.kitOne X.K t c=some b)(h:∀ tk,Q (.bool b) {s with toks:=tk}) :
  wpAny (model X.prog X.w) A (call (.builtin "isinstance") [u,c]) Q E s:=by
 cases ty with
 | non=>cases (show u=Value.none from rx);exact CZ PySem.W.kitx_none I.eO True.intro e (λz=>nomatch z) h
 | bl y=>cases (show u=Value.bool y from rx);exact CZ PySem.W.kitx_bool I.eO True.intro e (λz=>nomatch z) h
 | int i=>obtain⟨t,q⟩:=(show ∃ t,u=Value.int i t from rx);cases q;exact CZ PySem.W.kitx_int I.eO True.intro e (λz=>nomatch z) h
 | str y=>obtain⟨t,q⟩:=(show ∃ t,u=Value.str y t from rx);cases q;exact CZ PySem.W.kitx_str I.eO True.intro e (λz=>nomatch z) h
 | ou y=>obtain⟨t,q⟩:=(show ∃ t,u=Value.float y t from rx);cases q;exact CZ PySem.W.kitx_float I.eO True.intro e (λz=>nomatch z) h
 | @lst a xs ea=>
  cases (show u=Value.ref a from rx);obtain⟨_,_,n,_,h1⟩:=(show ay X.prog X.w H s.heap a (.lst xs) from I.aE a _ ea);exact CZ PySem.W.kitx_list I.eO ⟨_,h1,rfl⟩ e (λz=>nomatch z) h
 | @bv a ob xs ea=>
  cases (show u=Value.ref a from rx);obtain⟨_,_,_,n,_,h1⟩:=(show ay X.prog X.w H s.heap a (.bv ob<|.lst xs) from I.aE a _ ea);exact CZ PySem.W.kitx_list I.eO ⟨_,h1,rfl⟩ e (λz=>nomatch z) h
 | @tup a xs ea=>
  cases (show u=Value.ref a from rx);obtain⟨_,_,_,p⟩:=(show ay X.prog X.w H s.heap a (.tup xs) from I.aE a _ ea);obtain⟨o,h1,h2,_⟩:=p;exact CZ PySem.W.kitx_tuple I.eO ⟨o,h1,h2⟩ e (λz=>nomatch z) h
 | @dK a kvs ea=>
  cases (show u=Value.ref a from rx);obtain⟨_,_,vs,_,p⟩:=(show ay X.prog X.w H s.heap a (.dK kvs) from I.aE a _ ea);obtain⟨o,es,ep,h1,h2,_⟩:=p;exact CZ PySem.W.kitx_dict I.eO ⟨o,h1,h2.1⟩ e (λz=>nomatch z) h
 | @dT a kvs ea=>
  cases (show u=Value.ref a from rx);obtain⟨_,_,xs,_,o,es,ep,h1,h2,_⟩:=(show ay X.prog X.w H s.heap a (.dT kvs) from I.aE a _ ea);exact CZ PySem.W.kitx_dict I.eO ⟨o,h1,h2.1⟩ e (λz=>nomatch z) h
 | @ins a C dx fs ea cl ha hn Gn hm=>
  cases (show u=Value.ref a from rx);obtain⟨mA,O,_⟩:=Qa I.aE ea;obtain⟨od,J,_⟩:=O.look;exact CZ (PySem.W.kitx_own (cl.get _) cl.hd ha hn Gn hm) I.eO J e (λz=>nomatch z) h
end
structure bx(k:Nat)(A:Around):Prop where
 hd:A.handled=none
 dp:A.depth+3 * k+5 < recursionLimit
 un:A.units+16 * k+200 < cLine
theorem bx.mono{j k:Nat}{A:Around}(r:bx k A)(h:j<=k):bx j A:=⟨r.hd,by have:=r.dp;omega,by have:=r.un;omega⟩
theorem bx.deeper{k:Nat}{A:Around}(r:bx (k+1) A)(env:Env):bx k (A.deeper env):=
 ⟨r.hd,by have:=r.dp;show A.depth+1+3 * k+5 < _;omega,by have:=r.un;show A.units+3+16 * k+200 < _;omega⟩
theorem bx.depth{k:Nat}{A:Around}(r:bx k A):A.depth < recursionLimit:=by have:=r.dp;omega
def xf:TA:=λ_ H Q=>Q [] H
def Gp(ta:TE)(tr:TA):TA:=λσ H Q=>ta σ H λx H1=>tr σ H1 λxs H2=>Q (x :: xs) H2
section
variable{X:Cx}{e:Expr}{es:List Expr}{te:TE}{t:TA}{pos:Pos}
theorem Qc:PA X [] xf:=λ_ _ _ _ H Q I h=>Calls.spliced_nil ⟨[],H,I,.nil,h⟩
theorem Qd(ha:PE X e te)(hr:PA X es t)(hs:starEach (e :: es) X.env=(false,eval e X.env) :: starEach es X.env:=by rfl):PA X (e :: es) (Gp te t):=by
 intro pos pins s σ H Q I h;rw [hs];show wpAny _ _ (spliced<|(false,eval e X.env) :: backTo pos (starEach es X.env)) _ _ s;refine Calls.spliced_cons<|aH (ha pins s σ H _ I h) λu s1 ⟨x,H1,I1,r1,q1⟩=>?_;exact aH (hr pos pins s1 σ H1 _ I1 q1) λus s2 ⟨xs,H2,I2,r2,q2⟩=>⟨x :: xs,H2,I2,.cons r1 r2,q2⟩
def xg(t:TA):TE:=λσ H Q=>t σ H λxs H1=>xs.length<=sizeLine/\∀ p,H1 p=none->Q (.ref p) (upd H1 p<|.tup xs)
def xh(t:TA):TE:=λσ H Q=>t σ H λxs H1=>xs.length<=sizeLine/\∀ p,H1 p=none->Q (.ref p) (upd H1 p<|.lst xs)
theorem Qe{x1}(h:PA X es t):PE X (.Tuple es x1 pos) (xg t):=by
 intro pins s σ H Q I hq;refine wpAny_Tuple_spliced (aH (h pos pins s σ H _ I hq) λus s1 ⟨xs,H1,I1,r,z,q⟩=>⟨by rw [<- r.length];exact z,?_⟩);have hf:H1 s1.heap.objs.size=none:=I1.aE.fresh<|Al _;refine⟨.ref s1.heap.objs.size,upd H1 s1.heap.objs.size<|.tup xs,I1.laid (t':=s1.toks) (λb u e=>Ak _ e) (Al _) ?_,rfl,q _ hf⟩;exact⟨z,us,r,⟨_,Bb _ rfl,rfl,_,rfl⟩⟩
theorem Qf(h:PA X es t):PE X (.List es pos) (xh t):=by
 intro pins s σ H Q I hq;refine wpAny_List_spliced (aH (h pos pins s σ H _ I hq) λus s1 ⟨xs,H1,I1,r,z,q⟩=>⟨by rw [<- r.length];exact z,?_⟩);have hf:H1 s1.heap.objs.size=none:=I1.aE.fresh<|Al _;refine⟨.ref s1.heap.objs.size,upd H1 s1.heap.objs.size<|.lst xs,I1.laid (t':=s1.toks) (λb u e=>Ak _ e) (Al _) ?_,rfl,q _ hf⟩;exact⟨z,us,0,r,Bb _ rfl⟩
end
abbrev Sp:=List V->Hp->VK->XK->Prop
abbrev fE:=List Env->Hp->Shared->XK->Value->Shared->Prop
structure jy(P:Program)(w:World)(K:PySem.W.Frag)(mg:Str->Option Value)(base:Heap)(A:Around)(outer:List Env)(s:Shared)(H:Hp):Prop where
 frames:A.frames=some outer
 mod:Mod K mg base
 bs:∀ b o,base.get? b=some o->s.heap.get? b=some o/\H b=none
 kg:base.objs.size<=s.heap.objs.size
 db:s.heap.FunFrames base outer
 oA:∀ b∈g6 outer,H b=none
 aE:b8 P w H s.heap
 bare:AllBare s.gens
def CE(outer:List Env)(P:Program)(w:World)(H:Hp)(s:Shared)(Q:VK)(u:Value)(s':Shared):Prop:=
 ∃ v H',s'.os=s.os/\AllBare s'.gens/\Un (g6 outer) [] H H' s.heap s'.heap/\b8 P w H' s'.heap/\RelV v u/\Q v H'
def CR(CX:fE)(outer:List Env)(P:Program)(w:World)(H:Hp)(s:Shared)(Q:VK)(E:XK)(r:Result)(s':Shared):Prop:=
 match r with
 | .ok (.ret u)=>CE outer P w H s Q u s'
 | .ok _=>False
 | .error e=>CX outer H s E e s'
structure aI(P:Program)(w:World)(K:PySem.W.Frag)(mg:Str->Option Value)(base:Heap)(CX:fE)(k:Nat)(f:Addr)(fd:FuncData)(ps:List Str)(sp:Sp):Prop where
 len:∀ vs H Q E,sp vs H Q E->vs.length=ps.length
 run:∀(A:Around) (outer:List Env) (s:Shared) (H:Hp) (args:Args) (us:List Value) (vs:List V) (Q:VK) (E:XK),bx k A->jy P w K mg base A outer s H->BindsTo s fd args (ps.zip us)->ax vs us->sp vs H Q E ->
  codeAny (model P w) A (.call (.ref f) args) (CR CX outer P w H s Q E) s
theorem aI.mono{P:Program}{w:World}{K:PySem.W.Frag}{mg:Str->Option Value}{base:Heap}{CX:fE}{j k:Nat}{f:Addr}{fd:FuncData}{ps:List Str}{sp:Sp}(F:aI P w K mg base CX j f fd ps sp)(h:j<=k) :
  aI P w K mg base CX k f fd ps sp:=⟨F.len,λA outer s H args us vs Q E hr=>F.run A outer s H args us vs Q E<|hr.mono h⟩
section
variable{X:Cx}{pins:List (Addr×Obj)}{σ:St}{H:Hp}{s s':Shared}
theorem Inv.xi(I:Inv X pins σ H s):jy X.prog X.w X.K X.mg X.base X.A X.stack s H:=
 ⟨I.ok.frames,I.ok.mod,I.bs,Cd I.ok.kg I.sz,I.stack,I.fS,I.aE,I.bare⟩
theorem Inv.after{Q:VK}{u:Value}(I:Inv X pins σ H s)(h:CE X.stack X.prog X.w H s Q u s'):EP X pins σ Q u s':=by
 obtain⟨v,H',os,bare,un,aE,r,q⟩:=h;obtain⟨hh,g,d,t,Qg⟩:=s';obtain rfl:Qg=s.os:=os;exact⟨v,H',I.call (h':=hh) (g':=g) (d':=d) (t':=t) (ch:=[]) un aE bare (λb z=>absurd z<|by simp),r,q⟩
end
def Gq(sp:Sp)(jz:List V)(E:XK)(t:TA):TE:=λσ H Q=>t σ H λvs H1=>sp (vs++jz) H1 Q E
def Binds(K:PySem.W.Frag)(fd:FuncData)(ps:List Str)(ds:List Value):Prop:=
 ∀(s:Shared) (us:List Value),K.In s.heap->(us++ds).length=ps.length->BindsTo s fd ⟨us,[]⟩ (ps.zip<|us++ds)
theorem Binds.all{K:PySem.W.Frag}{fd:FuncData}{ps:List Str}(h:∀ us:List Value,us.length=ps.length->bindArgs fd ⟨us,[]⟩=pure (ps.zip us)):Binds K fd ps []:=λs us _ hl=>by
 rw [Be] at hl ⊢;exact .of_eq<|h us hl
def qo(CX:fE)(X:Cx)(E:XK):Prop:=∀(pins:List<|Addr×Obj) (σ:St) (H:Hp) (s:Shared) (e:Value) (s':Shared),Inv X pins σ H s->CX X.stack H s E e s'->X.xe e s'
section
variable{X:Cx}{CX:fE}{k:Nat}{f C:Addr}{fd:FuncData}{ps:List Str}{sp:Sp}{jz:List V}{ds:List Value}{E:XK}{x m:Str}{p pos apos:Pos}{e o:Expr}{es:List Expr}{ta:TE}{t:TA}
theorem Qh{pins:List (Addr×Obj)}{σ:St}{H:Hp}{s:Shared}{Q:VK}{us:List Value}{vs:List V}(F:aI X.prog X.w X.K X.mg X.base CX k f fd ps sp)(hr:bx k X.A)(hb:Binds X.K fd ps ds)(hd:ax jz ds)(hx:qo CX X E)
  (I:Inv X pins σ H s) (r:ax vs us) (h:sp (vs++jz) H Q E):wpAny (model X.prog X.w) X.A (call (.ref f) us) (EP X pins σ Q) X.xe s:=by
 have r2:ax (vs++jz) (us++ds):=r.append hd;have hl:(us++ds).length=ps.length:=by rw [<- r2.length];exact F.len _ _ _ _ h
 refine wpAny_call<|JF (F.run X.A X.stack s H ⟨us,[]⟩ (us++ds) (vs++jz) Q E hr I.xi (hb s us I.eO hl) r2 h) λr s' hq=>?_;cases r with
 | error e=>exact hx pins σ H s e s' I hq
 | ok fl=>
  cases fl with
  | ret u=>exact I.after hq
  | next=>exact False.elim hq
  | brk=>exact False.elim hq
  | cont=>exact False.elim hq
theorem Qi(F:aI X.prog X.w X.K X.mg X.base CX k f fd ps sp)(hr:bx k X.A)(hg:Gl X x)(hm:X.mg x=some (.ref f))(hk:PySem.W.keepIn X.K (.ref f)=true)(hb:Binds X.K fd ps ds)(hd:ax jz ds)(hx:qo CX X E)
  (ha:PA X (e :: es) t) (dU:(x == ("__debug__" : Str))=false:=by decide) (he:starEach (e :: es) X.env=(false,eval e X.env) :: starEach es X.env:=by rfl) (lZ:(backTo pos<|starEach es X.env).any (·.1)=false:=by rfl) :
  PE X (.Call (.Name x p) (e :: es) [] pos) (Gq sp jz E t):=by
 intro pins s σ H Q I h;refine HS<|OL I hg hm ?_ dU;refine PySem.W.callWith_K (h₀:=X.base) I.ok.mod.pY hk (aH (ha pos pins s σ H _ I h) λus s1 ⟨vs,H1,I1,r,q⟩=>⟨I1.eO,?_⟩) he lZ;exact Qh F hr hb hd hx I1 r q
end
section
variable{X:Cx}{CX:fE}{k:Nat}{f C:Addr}{fd:FuncData}{ps ks:List Str}{sp:Sp}{E:XK}{x m:Str}{p pos apos Qj:Pos}{e o:Expr}{es:List Expr}{ZY:List Keyword}{te ta:TE}{t tk:TA}{nm:Option Str}
variable{g:List Value->List Value->List Value}{gV:List V->List V->List V}
end
structure ao(N P:List Str)(sc:Scope):Prop where
 kind:sc.kind = .function
 co:sc.isCoroutine=false
 gen:sc.isGenerator=false
 nd:N.Nodup
 pre:N.take P.length=P
 par:∀ x∈P,sc.names.lookup x=some .local\/sc.names.lookup x=some .cell
 l3:∀ y∈sc.names,y.2 ≠ .free
theorem Gr{kindOf:Str->Option NameKind}{x:Str}:∀{binds:List (Str×Value)} {m:Str->Option Value},(∀ v,(x,v)∉binds)->bindL kindOf binds m x=m x
 | [],_,_=>rfl
 | (n,v) :: r,m,h=>by
  unfold bindL;rw [Gr λw hw=>h w<|Ae _ hw]
  split
  ·have:x≠n:=by rintro rfl;exact h v Ad
   simp [this]
  ·rfl
theorem Gs{kindOf:Str->Option NameKind}{x:Str}:∀{binds:List (Str×Value)} {m:Str->Option Value},(∀ v,(x,v)∉binds)->bindC kindOf binds m x=m x
 | [],_,_=>rfl
 | (n,v) :: r,m,h=>by
  unfold bindC;rw [Gs λw hw=>h w<|Ae _ hw]
  split
  ·rfl
  ·have:x≠n:=by rintro rfl;exact h v Ad
   simp [this]
theorem Gu{kindOf:Str->Option NameKind}{x:Str}{v:Value}:∀{P:List Str} {vs:List Value} {i:Nat} {m:Str->Option Value},P.Nodup->P[i]?=some x->vs[i]?=some v->kindOf x=some .local ->
  bindL kindOf (P.zip vs) m x=some v
 | [],_,_,_,_,h,_,_=>by simp at h
 | _ :: _,[],_,_,_,_,h,_=>by simp at h
 | p :: P,w :: vs,0,m,nd,h1,h2,hk=>by
  simp at h1 h2;subst h1;subst h2;show bindL kindOf ((p,w) :: P.zip vs) m p=_;unfold bindL;rw [Gr λv hv=>(Bd.mp nd).1 (MN hv).1,BL hk];simp
 | p :: P,w :: vs,i+1,m,nd,h1,h2,hk=>by
  show bindL kindOf ((p,w) :: P.zip vs) m x=_;unfold bindL;exact Gu (i:=i) (Bd.mp nd).2 (by simpa using h1) (by simpa using h2) hk
theorem Gv{kindOf:Str->Option NameKind}{x:Str}{v:Value}:∀{P:List Str} {vs:List Value} {i:Nat} {m:Str->Option Value},P.Nodup->P[i]?=some x->vs[i]?=some v->kindOf x≠some .local ->
  bindC kindOf (P.zip vs) m x=some v
 | [],_,_,_,_,h,_,_=>by simp at h
 | _ :: _,[],_,_,_,_,h,_=>by simp at h
 | p :: P,w :: vs,0,m,nd,h1,h2,hk=>by
  simp at h1 h2;subst h1;subst h2;show bindC kindOf ((p,w) :: P.zip vs) m p=_;unfold bindC;rw [Gs λv hv=>(Bd.mp nd).1 (MN hv).1,BJ hk];simp
 | p :: P,w :: vs,i+1,m,nd,h1,h2,hk=>by
  show bindC kindOf ((p,w) :: P.zip vs) m x=_;unfold bindC;exact Gv (i:=i) (Bd.mp nd).2 (by simpa using h1) (by simpa using h2) hk
def start(N:List Str)(vs:List V):St:=vs.map some++List.replicate (N.length - vs.length) none
def eR(CX:fE)(P:Program)(w:World)(K:PySem.W.Frag)(mg:Str->Option Value)(base:Heap)(N:List Str)(qual:Str)(scope:Scope)(f:Addr)(cd:Value)(A:Around)(outer:List Env)(s:Shared)(H:Hp)(E:XK):Cx where
 prog:=P
 w:=w
 K:=K
 mg:=mg
 base:=base
 A:=A.deeper<|envOfC qual scope s.heap.objs.size f cd
 N:=N
 s₀:=s
 H₀:=H
 env:=envOfC qual scope s.heap.objs.size f cd
 outer:=outer
 stack:=envOfC qual scope s.heap.objs.size f cd :: outer
 ex:=[]
 calm:=true
 fn:=λ_=>true
 pn:=[]
 xe:=λe s'=>wpAny (model P w) (A.deeper<|envOfC qual scope s.heap.objs.size f cd) (leaving (envOfC qual scope s.heap.objs.size f cd) e) (λ_ qp=>CX outer H s E e qp) (λe' qp=>CX outer H s E e' qp) s'
theorem Gw{sc:Scope}{n:Nat}{x:Str}(h:sc.names.lookup x=some .cell):∃ c,(cellsFrom n sc.names []).lookup x=some c:=by
 have q:=GX sc.names n []<|.inl h;exact El.mp q
theorem Qk{CX:fE}{P:Program}{w:World}{K:PySem.W.Frag}{mg:Str->Option Value}{base:Heap}{N ps:List Str}{qual:Str}{scope:Scope}{f:Addr}{cd:Value}{A:Around}{outer:List Env}{s s1:Shared}{H:Hp}{E:XK}{us:List Value}{vs:List V}
  (S:ao N ps scope) (hd:A.handled=none) (e0:jy P w K mg base A outer s H) (hl:vs.length=ps.length) (r:ax vs us)
  (x:InCallC s s.heap.objs.size (bindL (envOfC qual scope s.heap.objs.size f cd).kindOf (ps.zip us) λ_=>none) (cellsFrom (s.heap.objs.size+1) scope.names []) (bindC (envOfC qual scope s.heap.objs.size f cd).kindOf (ps.zip us) λ_=>none) s1) :
  Inv (eR CX P w K mg base N qual scope f cd A outer s H E) [] (start N vs) H s1:=by
 have lZ:ps.length<=N.length:=by have:=BZ List.length S.pre;rw [Bj] at this;omega
 obtain⟨h1,tk,rfl,hk⟩:=x.done;have qt:∀ b:Addr,b∉(eR CX P w K mg base N qual scope f cd A outer s H E).ex:=λb z=>absurd (show b∈([]:List Addr) from z) (by simp);refine⟨⟨e0.mod,S.kind,rfl,rfl,Al _,λy z c h1 h2=>?_,λy hy=>?_,λy c _ h=>?_,λ_=>hd,Around.frames_deeper e0.frames,.inr ⟨rfl,rfl⟩,λb z=>absurd z<|qt b,e0.bs,e0.kg,λb _ _=>qt b,λb z=>absurd z<|qt b,e0.db,e0.oA⟩,
  rfl,e0.bare,Un.kept hk,⟨_,x.toInCall.ns,λi y v h1 h2 h3=>?_⟩,λy c h=>⟨_,x.cell y c h⟩,e0.aE.fresh<|Al _,λy c h=>?_,λp hp=>absurd (show p∈([]:List<|Addr×Obj) from hp) (by simp),e0.aE.kept hk,?_⟩
 ·exact name_of_addr x.apart (CP h1)<|CP h2
 ·have hy:scope.names.lookup y=some .cell\/scope.names.lookup y=some .free:=hy
  rcases hy with hy | hy
  ·exact Gw hy
  ·exact absurd rfl (S.l3 _<|CP hy)
 ·exact Cl<|x.above y c<|CP h
 ·have hi:i < vs.length:=by
   unfold start at h2
   by_cases hi:i < vs.length
   ·exact hi
   ·rw [Az<|by simpa using hi] at h2;rw [Dv] at h2
    split at h2 <;> cases h2
  have ha:vs[i]?=some v:=by
   unfold start at h2;rw [Av (by simpa using hi),Ag] at h2;cases e:vs[i]? with
   | none=>rw [e] at h2;cases h2
   | some a=>rw [e] at h2;cases h2;rfl
  obtain⟨u,hu,rv⟩:=r.get ha;have hp:ps[i]?=some y:=by
   rw [<- S.pre,Dg<|by omega];exact h1
  have Gx:ps.Nodup:=by rw [<- S.pre];exact S.nd.sublist<|List.take_sublist _ _
  refine⟨u,rv,?_⟩
  rcases S.par y (At hp) with k | k
  ·exact .inl ⟨k,Gu Gx hp hu k⟩
  ·obtain⟨c,e⟩:=Gw (n:=s.heap.objs.size+1) k;refine .inr ⟨.inl k,c,e,?_⟩;have q:=x.cell y c e;rw [Gv Gx hp hu<|by show scope.names.lookup y≠_;rw [k];decide] at q;exact q
 ·exact e0.aE.fresh<|Cl<|x.above y c<|CP h
 ·unfold start;show _=N.length;rw [Af,Aa,Dp];omega
theorem Ql{CX:fE}{P:Program}{w:World}{K:PySem.W.Frag}{mg:Str->Option Value}{base:Heap}{k:Nat}{f:Addr}{name qual:Str}{params:Arguments}{body:List Stmt}{scope:Scope}{dV kV doc pm bF ct oc:Value}{an od:Option Addr}
  {jA:Array (Option Value)} {N ps:List Str} {sp:Sp} (lk:K.lookup f=some ⟨oc,od,.func<|PySem.W.fnOf name qual params body scope dV kV doc pm an bF ct,jA⟩) (g7:PySem.W.codeIn K bF qual=true) (S:ao N ps scope)
  (len:∀ vs H Q E,sp vs H Q E->vs.length=ps.length)
  (de : ∀ (A : Around) (outer : List Env) (s : Shared) (H : Hp) (vs : List V) (Q : VK) (E : XK), bx k (A.deeper<|envOfC qual scope s.heap.objs.size f bF) → sp vs H Q E →
   ∃ t,gG (eR CX P w K mg base N qual scope f bF A outer s H E) body t/\t {nx:=λ_ H'=>Q .non H',rt:=Q} (start N vs) H) :
  aI P w K mg base CX (k+1) f (PySem.W.fnOf name qual params body scope dV kV doc pm an bF ct) ps sp:=by
 refine⟨len,λA outer s H args us vs Q E hr e0 hb r cY=>?_⟩;have hl:=len _ _ _ _ cY;have KX:K.In s.heap:=e0.mod.pY.keeps λb o e=>(e0.bs b o e).1;have lim:s.heap.NoLimit:=e0.mod.nolimit.keeps λb o e=>(e0.bs b o e).1;have qu:∀ y∈ps.zip us,scope.names.lookup y.1=some .local\/(scope.names.lookup y.1=some .cell/\((cellsFrom (s.heap.objs.size+1) scope.names []).lookup y.1).isSome=true):=λ⟨n,v⟩ hy=>by
  rcases S.par n (MN hy).1 with q | q
  ·exact .inl q
  ·exact .inr ⟨q,GX _ _ _<|.inl q⟩
 refine codeAny_call_function hr.depth (KX _ _ lk) rfl S.co S.gen rfl (PySem.W.codeRec_of KX g7) (hb _ _ _ _ ?_);refine wpAny_newFunctionEnv_cells S.kind qu λenv he s1 x=>?_;subst he;refine⟨lim.keeps x.toInCall.keep,codeAny_func ?_⟩;obtain⟨t,ht,hq⟩:=de A outer s H vs Q E (hr.deeper _) cY;have I:Inv (eR CX P w K mg base N qual scope f bF A outer s H E) [] (start N vs) H s1:=Qk S hr.hd e0 hl r x;refine CK (ht [] s1 (start N vs) H _ I hq) (λfl s' hs=>?_) λe s' hs=>hs;have fin:∀{σ':St} {H':Hp} {v:V} {u:Value},Inv (eR CX P w K mg base N qual scope f bF A outer s H E) [] σ' H' s'->RelV v u->Q v H'->CE outer P w H s Q u s':=
  λ{σ' H' v u} J rv q=>⟨v,H',J.os,J.bare,J.base,J.aE,rv,q⟩
 cases fl with
 | ret u=>
  obtain⟨v,σ',H',J,rv,q⟩:=hs;exact fin J rv q
 | next=>
  obtain⟨σ',H',J,q⟩:=hs;exact fin (v:=V.non) (u:=Value.none) J rfl q
 | brk=>
  obtain⟨_,_,_,q⟩:=hs;exact False.elim q
 | cont=>
  obtain⟨_,_,_,q⟩:=hs;exact False.elim q
section
variable{X:Cx}{x:Str}{p pos:Pos}{e:Expr}{es:List Expr}{t:TA}{id T:String}{r:List V->Hp->VK->Prop}
def tX(r:List V->Hp->VK->Prop)(t:TA):TE:=λσ H Q=>t σ H λvs H1=>r vs H1 Q
theorem Qm(hc:gJ X (.builtin id) r)(hg:Gl X x)(hm:X.mg x=none)(hv:bootBuiltins x=some (.builtin id))(ha:PA X (e :: es) t)(hn:x ≠ "__name__":=by decide)(dU:(x == ("__debug__" : Str))=false:=by decide)
  (he:starEach (e :: es) X.env=(false,eval e X.env) :: starEach es X.env:=by rfl) (lZ:(backTo pos<|starEach es X.env).any (·.1)=false:=by rfl):PE X (.Call (.Name x p) (e :: es) [] pos) (tX r t):=by
 intro pins s σ H Q I h;refine HS<|jv I hg hm hv ?_ hn dU;exact PyProof.Rows.callWith_builtin1 (aH (ha pos pins s σ H _ I h) λus s1 ⟨vs,H1,I1,r1,q1⟩=>hc pins s1 σ H1 vs us Q I1 r1 q1) he lZ
theorem Qn(hc:gJ X (.type T) r)(hg:Gl X x)(hm:X.mg x=none)(hv:bootBuiltins x=some (.type T))(ha:PA X (e :: es) t)(hn:x ≠ "__name__":=by decide)(dU:(x == ("__debug__" : Str))=false:=by decide)
  (he:starEach (e :: es) X.env=(false,eval e X.env) :: starEach es X.env:=by rfl) (lZ:(backTo pos<|starEach es X.env).any (·.1)=false:=by rfl):PE X (.Call (.Name x p) (e :: es) [] pos) (tX r t):=by
 intro pins s σ H Q I h;refine HS<|jv I hg hm hv ?_ hn dU;exact DW (aH (ha pos pins s σ H _ I h) λus s1 ⟨vs,H1,I1,r1,q1⟩=>hc pins s1 σ H1 vs us Q I1 r1 q1) he lZ
end
end L2
namespace HT
open PySem PyProof.Rows
section
open PySem.SeqAt
open PySem.AutoSeq1 (wpAny_loadPart')
open PySem.MeetsSeq PySem.MeetsSeq2 PySem.MeetsSeq3
end
section
variable{prog:Program}{w:World}{A:Around}{E:Value->Shared->Prop}{s:Shared}
def eS(n d:Nat):Option Int->Nat
 | none=>d
 | some v=>if v < 0 then(v+(n:Int)).toNat else min v.toNat n
theorem df(n d:Nat):eS n d none=d:=rfl
theorem dW(n d k:Nat):eS n d (some (k:Int))=min k n:=by
 show(if(k:Int) < 0 then((k:Int)+(n:Int)).toNat else min (k:Int).toNat n)=min k n;rw [BJ (by omega),By]
end
end HT
namespace L2
open PySem PySem.Spec PyProof.Rows
abbrev TO:=St->Hp->(Option Int->Hp->Prop)->Prop
def PO(X:Cx)(e:Option Expr)(t:TO):Prop:=
 ∀(pins:List<|Addr×Obj) (s:Shared) (σ:St) (H:Hp) (Q:Option Int->Hp->Prop),Inv X pins σ H s->t σ H Q ->
  wpAny (model X.prog X.w) X.A (evalPart e X.env) (λu s'=>∃ o H',Inv X pins σ H' s'/\IsPart u o/\Q o H') X.xe s
def Qo:TO:=λ_ H Q=>Q none H
def Qp(t:TE):TO:=λσ H Q=>t σ H λx H1=>∃ i,x = .int i/\Q (some i) H1
section
variable{X:Cx}{e:Expr}{te:TE}{lo hi:Option Expr}{tl th:TO}{pos p2:Pos}
theorem Qq:PO X none Qo:=by
 intro pins s σ H Q I h;rw [evalPart_none];exact BP ⟨none,H,I,.none,h⟩
theorem Qr(h:PE X e te):PO X (some e) (Qp te):=by
 intro pins s σ H Q I hw;rw [evalPart_some];refine aH (h pins s σ H _ I hw) λu s1 ⟨x,H1,I1,r1,q1⟩=>?_;obtain⟨i,rfl,q⟩:=q1;obtain⟨t,rfl⟩:=r1;exact⟨some i,H1,I1,.int i t,q⟩
def xj(X:Cx)(r:V->Option Int->Option Int->Hp->VK->Prop):Prop:=
 ∀(pins:List<|Addr×Obj) (s:Shared) (σ:St) (H:Hp) (x:V) (v vl vu:Value) (lo hi:Option Int) (sl:Addr) (Q:VK),Inv X pins σ H s->RelV x v->s.heap.IsSliceOf sl vl vu .none->IsPart vl lo->IsPart vu hi->r x lo hi H Q ->
  ∃ T id,typeLookup (.type T) "__getitem__" = pure (some<|.builtin id)/\s.TypeIs v T/\wpAny (model X.prog X.w) X.A (getItem v<|.ref sl) (EP X pins σ Q) X.xe s
def Qs(r:V->Option Int->Option Int->Hp->VK->Prop)(te:TE)(tl th:TO):TE:=λσ H Q=>te σ H λx H1=>tl σ H1 λl H2=>th σ H2 λu H3=>r x l u H3 Q
theorem Qt{r:V->Option Int->Option Int->Hp->VK->Prop}(hr:xj X r)(he:PE X e te)(hl:PO X lo tl)(hu:PO X hi th):PE X (.Subscript e (.Slice lo hi none p2) pos) (Qs r te tl th):=by
 intro pins s σ H Q I h;refine Subscript_<|aH (he pins s σ H _ I h) λv s1 ⟨x,H1,I1,r1,q1⟩=>?_;refine wpAny_Slice<|aH (hl pins s1 σ H1 _ I1 q1) λvl s2 ⟨l,H2,I2,pl,q2⟩=>aH (hu pins s2 σ H2 _ I2 q2) λvu s3 ⟨u,H3,I3,pu,q3⟩=>?_;rw [evalPart_none];refine BP ?_;have I4:Inv X pins σ H3 {s3 with heap:=s3.heap.push {cls:= .type "slice",data:= .fields #[vl,vu,.none]}}:=I3.kept (t':=s3.toks) λb ob q=>Ak _ q;obtain⟨T,id,hT,ht,hg⟩:=hr pins {s3 with heap:=s3.heap.push {cls:= .type "slice",data:= .fields #[vl,vu,.none]}} σ H3 x v vl vu l u s3.heap.objs.size Q I4 r1 (Heap.IsSliceOf.new ..) pl pu q3;show wpAny (model X.prog X.w) X.A (subscriptTail e (.Slice lo hi none p2) v<|.ref s3.heap.objs.size) (EP X pins σ Q) X.xe {s3 with heap:=s3.heap.push {cls:= .type "slice",data:= .fields #[vl,vu,.none]}};exact tail_any (ops:=[.ref s3.heap.objs.size,v]) ht hT hg<|by with_unfolding_all rfl
def b9(xs:List V)(lo hi:Option Int):List V:=(xs.drop<|HT.eS xs.length 0 lo).take<|HT.eS xs.length xs.length hi - HT.eS xs.length 0 lo
theorem Qu(xs:List V)(lo hi:Option Int):(b9 xs lo hi).length<=xs.length:=by
 unfold b9;rw [Bj,Cp];omega
end
def iq(n:Nat)(i:Int):Option Nat:=if 0<=i then(if i < n then some i.toNat else none) else if -(n:Int)<=i then some (i+n).toNat else none
def dw{α:Type}(xs:List α)(i:Int):Option α:=(iq xs.length i).bind λj=>xs[j]?
theorem Gy{n:Nat}{i:Int}{j:Nat}(h:iq n i=some j):seqIndex? i n=some j/\j < n/\-(n:Int)<=i/\i < n:=by
 unfold iq at h
 by_cases h0:0<=i
 ·rw [BL h0] at h
  by_cases h1:i < n
  ·rw [BL h1] at h;have e:i.toNat=j:=Option.some.inj h;exact⟨by rw [PB h0 h1,e],by omega,by omega,h1⟩
  ·rw [BJ h1] at h;cases h
 ·rw [BJ h0] at h
  by_cases h1:-(n:Int)<=i
  ·rw [BL h1] at h;have e:(i+n).toNat=j:=Option.some.inj h;exact⟨by rw [KY (by omega) h1,e],by omega,h1,by omega⟩
  ·rw [BJ h1] at h;cases h
theorem tY{α:Type}{xs:List α}{i:Int}{v:α}(h:dw xs i=some v):∃ j,seqIndex? i xs.length=some j/\xs[j]?=some v/\j < xs.length/\-(xs.length:Int)<=i/\i < xs.length:=by
 unfold dw at h;cases e:iq xs.length i with
 | none=>rw [e] at h;cases h
 | some j=>
  rw [e] at h;obtain⟨h1,h2,h3,h4⟩:=Gy e;exact⟨j,h1,h,h2,h3,h4⟩
theorem km{α:Type}{xs:List α}{j:Nat}{v:α}(h:xs[j]?=some v):dw xs (j:Int)=some v:=by
 have hj:j < xs.length:=(Ac.mp h).1;have e:iq xs.length (j:Int)=some j:=by
  unfold iq;rw [BL (by omega),BL<|by omega];simp
 unfold dw;rw [e];exact h
theorem Qv{α:Type}(xs:List α)(v:α):dw (xs++[v]) (-1)=some v:=by
 have hl:(xs++[v]).length=xs.length+1:=by simp
 have e:iq (xs++[v]).length (-1)=some xs.length:=by
  unfold iq;rw [hl,BJ (by decide),BL<|by omega]
  congr 1
  omega
 unfold dw;rw [e];show(xs++[v])[xs.length]?=some v;simp
def Gz(b:Expr):Prop:=∀ o i,subscripted b false o i=operate [o,i] (getItem o i)
def qv(X:Cx)(r:R2):Prop:=
 ∀(value slice:Expr) (pins:List<|Addr×Obj) (s:Shared) (σ:St) (H:Hp) (x y:V) (v u:Value) (Q:VK),Inv X pins σ H s->RelV x v->RelV y u->r x y H Q ->
  subscripted slice false v u=operate [v,u] (getItem v u)->wpAny (model X.prog X.w) X.A (subscriptTail value slice v u) (EP X pins σ Q) X.xe s
def xk(X:Cx)(id:String)(r:V->List V->Hp->VK->Prop):Prop:=
 ∀(pins:List<|Addr×Obj) (s:Shared) (σ:St) (H:Hp) (x:V) (xs:List V) (v:Value) (us:List Value) (Q:VK),Inv X pins σ H s->RelV x v->ax xs us->r x xs H Q ->
  wpAny (model X.prog X.w) X.A (call (.builtin id)<|v :: us) (EP X pins σ Q) X.xe s
section
variable{X:Cx}{a b:Expr}{ta tb:TE}{pos:Pos}
theorem Qw{r:R2}(hr:qv X r)(ha:PE X a ta)(hb:PE X b tb)(hs:Gz b):PE X (.Subscript a b pos) (tV r ta tb):=by
 intro pins s σ H Q I h;exact Subscript_<|lS ha hb I h λv u s2 x y H2 I2 rx ry q=>hr a b pins s2 σ H2 x y v u Q I2 rx ry q<|hs _ _
def l4(K:PySem.W.Frag):R2:=λx y H Q=>∃ p xs i v,x = .ref p/\y = .int i/\au K H p xs/\dw xs i=some v/\Q v H
def xl(K:PySem.W.Frag):R2:=λx y H Q=>∃ p xs i v,x = .ref p/\y = .int i/\aP K H p xs/\dw xs i=some v/\Q v H
def xm:R2:=λx y H Q=>∃ z i c,x = .str z/\y = .int i/\z.length<=sizeLine/\dw z.cps.toList i=some c/\Q (.str ⟨#[c]⟩) H
theorem cC:qv X (l4 X.K):=by
 intro value slice pins s σ H x y v u Q I rx ry h hs;obtain⟨p,xs,i,z,rfl,rfl,hq,he,q⟩:=h;cases rx;obtain⟨t,rfl⟩:=ry;obtain⟨its,r,pl,hz⟩:=I.list hq;obtain⟨j,h1,h2,h3,h4,h5⟩:=tY he;obtain⟨w,ew,dH⟩:=r.get h2;have hl:=r.length;have hn:=lX;have fin:EP X pins σ Q w s:=⟨z,H,I,dH,q⟩
 by_cases h0:0<=i
 ·have hj:i.toNat=j:=by
   rw [PB h0 h5] at h1;exact Option.some.inj h1
  exact item_listR pl.isList h0 (by omega) (by rw [hj];simpa using ew) fin hs
 ·have hj:(i+(its.toArray.size:Int)).toNat=j:=by
   rw [KY (by omega) h4] at h1;rw [As,<- hl];exact Option.some.inj h1
  exact subscriptTail_builtinR (x:=w) pl.isList.typeIs slot_list_getitem.lookup
   (wpAny_getItem_list_neg (Q:=λr s'=>r=w/\EP X pins σ Q r s') pl.isList (by omega) (by rw [As] <;> omega) (by omega) (by rw [hj];simpa using ew) ⟨rfl,fin⟩) hs
theorem cu:qv X (xl X.K):=by
 intro value slice pins s σ H x y v u Q I rx ry h hs;obtain⟨p,xs,i,z,rfl,rfl,hq,he,q⟩:=h;cases rx;obtain⟨t,rfl⟩:=ry;obtain⟨its,r,pl,hz⟩:=I.tuple hq;obtain⟨j,h1,h2,h3,h4,h5⟩:=tY he;obtain⟨w,ew,dH⟩:=r.get h2;have hl:=r.length;have hn:=lX;have fin:EP X pins σ Q w s:=⟨z,H,I,dH,q⟩;exact subscriptTail_builtinR (x:=w) pl.typeIs slot_tuple_getitem.lookup
  (getItem_tuple (j:=j) (Q:=λr s'=>r=w/\EP X pins σ Q r s') pl (by omega) (by omega) (by rw [As,<- hl];exact h1) (by simpa using ew) ⟨rfl,fin⟩) hs
theorem GA:qv X xm:=by
 intro value slice pins s σ H x y v u Q I rx ry h hs;obtain⟨z,i,c,rfl,rfl,hz,he,q⟩:=h;obtain⟨t,rfl⟩:=rx;obtain⟨t',rfl⟩:=ry;obtain⟨j,h1,h2,h3,h4,h5⟩:=tY he;have hl:z.cps.toList.length=z.length:=by simp [Str.length]
 rw [hl] at h1 h4 h5;have hn:=lX;exact tail_any (typeIs_str s z t) slot_str_getitem.lookup (getItem_str (c:=c) (by
  have e1:decide (i < -(2 ^ 63:Int))=false:=BR (by omega);have e2:decide (i>=2 ^ 63)=false:=BR (by omega);rw [e1,e2,Bool.or_false]) (by rw [h1];simpa using h2) ⟨.str ⟨#[c]⟩,H,I.tok _,⟨_,rfl⟩,q⟩) hs
theorem Qx(its:List Value)(n j:Nat)(u:Value):Obj.mapSeq (·.setIfInBounds j u) {cls:= .type "list",data:= .seq its.toArray n}={cls:= .type "list",data:= .seq (its.set j u).toArray n}:=by
 simp [Obj.mapSeq]
theorem Inv.lst{pins:List (Addr×Obj)}{σ:St}{H:Hp}{s:Shared}{p:Addr}{xs:List V}(I:Inv X pins σ H s)(h:H p=some (.lst xs)) :
  ∃(its:List Value) (n:Nat),ax xs its/\s.heap.get? p=some {cls:= .type "list",data:= .seq its.toArray n}/\xs.length<=sizeLine:=by
 obtain⟨z,its,n,r,e⟩:=I.aE p _ h;exact⟨its,n,r,e,z⟩
theorem Inv.l7{pins:List (Addr×Obj)}{σ:St}{H:Hp}{s:Shared}{p:Addr}{xs ys:List V}{its its':List Value}{n n':Nat}{f:Obj->Obj}(I:Inv X pins σ H s)(h:H p=some (.lst xs))
  (ho:s.heap.get? p=some {cls:= .type "list",data:= .seq its.toArray n}) (hf:f {cls:= .type "list",data:= .seq its.toArray n}={cls:= .type "list",data:= .seq its'.toArray n'}) (r:ax ys its') (hz:ys.length<=sizeLine) (t:Nat) :
  Inv X pins σ (upd H p<|.lst ys) {s with heap:=s.heap.update p f,toks:=t}:=by
 have e:(s.heap.update p f).get? p=some {cls:= .type "list",data:= .seq its'.toArray n'}:=by
  rw [Heap.get?_update_self f ho (by rw [hf] <;> rfl),hf]
 refine I.write (x:=p) (e:=p) (by rw [h];trivial) (.inl rfl) (λb u hb q=>(Dk _ _<|CG hb).trans q) ⟨_,e⟩ ?_;exact⟨hz,its',n',r,e⟩
def GH:V->V->V->Hp->(Hp->Prop)->Prop:=λo i v H Q=>∃ p xs k j,o = .ref p/\i = .int k/\H p=some (.lst xs)/\iq xs.length k=some j/\Q (upd H p<|.lst<|xs.set j v)
theorem set_list:qc X GH:=by
 intro pins s σ H o i v ov iv u Q I ro ri rv h;obtain⟨p,xs,k,j,rfl,rfl,hp,hj,q⟩:=h;cases ro;obtain⟨t,rfl⟩:=ri;obtain⟨its,n,r,ho,hz⟩:=I.lst hp;obtain⟨h1,h2,h3,h4⟩:=Gy hj;have hl:=r.length;have hn:=lX;have I':Inv X pins σ (upd H p<|.lst<|xs.set j v) {s with heap:=s.heap.update p (Obj.mapSeq (·.setIfInBounds j u))}:=
  I.l7 hp ho (Qx its n j u) (r.set rv j) (by rw [List.length_set];exact hz) s.toks
 by_cases h0:0<=k
 ·have hk:k.toNat=j:=by
   rw [PB h0 h4] at h1;exact Option.some.inj h1
  exact PySem.W.ki_setAt ho h0 (by omega) (by rw [As,<- hl];exact h4)<|by rw [hk];exact⟨_,I',q⟩
 ·have hk:(k+(its.toArray.size:Int)).toNat=j:=by
   rw [KY (by omega) h3] at h1;rw [As,<- hl];exact Option.some.inj h1
  exact PySem.W.ki_setBack ho (by omega) (by rw [As,<- hl];exact h3) (by omega)<|by rw [hk];exact⟨_,I',q⟩
theorem Qy(lo hi:Option Int)(n:Nat):(sliceBounds lo hi none n).1=((HT.eS n 0 lo:Nat):Int)/\(sliceBounds lo hi none n).2.1=((HT.eS n n hi:Nat):Int)/\(sliceBounds lo hi none n).2.2=1:=by
 refine⟨?_,?_,rfl⟩
 ·cases lo with
  | none=>simp [sliceBounds,HT.eS]
  | some i=>
   simp only [sliceBounds,HT.eS,Option.getD_none,show(1:Int) > 0 by decide,CT]
   by_cases h:i < 0
   ·simp only [h,CT] <;> omega
   ·simp only [h,CV] <;> omega
 ·cases hi with
  | none=>simp [sliceBounds,HT.eS]
  | some i=>
   simp only [sliceBounds,HT.eS,Option.getD_none,show(1:Int) > 0 by decide,CT]
   by_cases h:i < 0
   ·simp only [h,CT] <;> omega
   ·simp only [h,CV] <;> omega
theorem Qz(its:List Value)(lo hi:Option Int):slicePick its.toArray lo hi none=((its.drop<|HT.eS its.length 0 lo).take<|HT.eS its.length its.length hi - HT.eS its.length 0 lo).toArray:=by
 obtain⟨h1,h2,h3⟩:=Qy lo hi its.toArray.size;unfold slicePick;rw [h1,h2,h3];simp only [sliceRange_one,pick_run,As] <;> rfl
def xn(K:PySem.W.Frag):V->Option Int->Option Int->Hp->VK->Prop:=λx lo hi H Q=>∃ a xs,x = .ref a/\au K H a xs/\∀ p,H p=none->Q (.ref p) (upd H p<|.lst<|b9 xs lo hi)
theorem tZ:xj X (xn X.K):=by
 intro pins s σ H x v vl vu lo hi sl Q I rx hs pl pu h;obtain⟨a,xs,rfl,hx,q⟩:=h;cases rx;obtain⟨its,r,ht,hz⟩:=I.list hx;have hlen:=r.length;refine⟨"list",_,slot_list_getitem.lookup,ht.isList.typeIs,?_⟩;refine wpAny_getItem_list_slice ht.isList hs pl pu .none (by simp) ?_ (by rw [As] <;> omega);rw [Qz,<- hlen];refine⟨.ref s.heap.objs.size,_,I.laid (t':=s.toks) (o:= .lst<|b9 xs lo hi) (λb ob q=>Ak _ q) (Al _) ?_,rfl,q _<|I.aE.fresh<|Al _⟩;exact⟨Cd (Qu xs lo hi) hz,_,0,(r.drop<|HT.eS xs.length 0 lo).take<|HT.eS xs.length xs.length hi - HT.eS xs.length 0 lo,Bb _ rfl⟩
def t6:V->Bool
 | .non=>true
 | .bl _=>true
 | .int _=>true
 | .str _=>true
 | _=>false
def dI:V->V->Bool
 | .non,.non=>true
 | .bl a,.bl b=>a == b
 | .bl a,.int b=>(if a then 1 else 0) == b
 | .int a,.bl b=>a == (if b then 1 else 0)
 | .int a,.int b=>a == b
 | .str a,.str b=>a == b
 | _,_=>false
theorem QA{A:Around}{s:Shared}{y x:V}{u v:Value}(ry:RelV y u)(rx:RelV x v)(fy:t6 y=true)(fx:t6 x=true):SeqAt.EqAt A s u v (dI y x):=by
 cases y with
 | non=>
  cases ry;cases x with
  | non=>cases rx;exact SeqAt.EqAt.same _
  | bl b=>cases rx;exact SeqAt.EqAt.none_bool b
  | int b=>obtain⟨t,rfl⟩:=rx;exact SeqAt.EqAt.none_int b t
  | str b=>obtain⟨t,rfl⟩:=rx;exact SeqAt.EqAt.none_str b t
  | _=>exact absurd (show false=true from fx) Ar
 | bl a=>
  cases ry;cases x with
  | non=>cases rx;exact SeqAt.EqAt.bool_none a
  | bl b=>cases rx;exact SeqAt.EqAt.bool_bool a b
  | int b=>obtain⟨t,rfl⟩:=rx;exact SeqAt.EqAt.bool_int a b t
  | str b=>obtain⟨t,rfl⟩:=rx;exact SeqAt.EqAt.bool_str a b t
  | _=>exact absurd (show false=true from fx) Ar
 | int a=>
  obtain⟨t',rfl⟩:=ry;cases x with
  | non=>cases rx;exact SeqAt.EqAt.int_none a t'
  | bl b=>cases rx;exact SeqAt.EqAt.int_bool a t' b
  | int b=>obtain⟨t,rfl⟩:=rx;exact SeqAt.EqAt.int_int a t' b t
  | str b=>obtain⟨t,rfl⟩:=rx;exact SeqAt.EqAt.int_str a t' b t
  | _=>exact absurd (show false=true from fx) Ar
 | str a=>
  obtain⟨t',rfl⟩:=ry;cases x with
  | non=>cases rx;exact SeqAt.EqAt.str_none a t'
  | bl b=>cases rx;exact SeqAt.EqAt.str_bool a t' b
  | int b=>obtain⟨t,rfl⟩:=rx;exact SeqAt.EqAt.str_int a t' b t
  | str b=>obtain⟨t,rfl⟩:=rx;exact SeqAt.EqAt.str_str a t' b t
  | _=>exact absurd (show false=true from fx) Ar
 | _=>exact absurd (show false=true from fy) Ar
theorem dC:gJ X (.builtin "len") (λxs H Q=>∃ p ys,xs=[.ref p]/\(au X.K H p ys\/aP X.K H p ys)/\Q (.int ys.length) H):=by
 intro pins s σ H xs us Q I r h;obtain⟨p,ys,rfl,hq,q⟩:=h;obtain⟨u,rfl,rx⟩:=vals1 r;cases rx;have hn:=lX
 rcases hq with hq | hq
 ·obtain⟨its,r',pl,hz⟩:=I.list hq;have hlen:=r'.length;exact Calls.call_len_list pl.isList (by simp only [As] <;> omega) ⟨.int ys.length,H,I.tok _,⟨s.toks+1,by rw [As,hlen]⟩,q⟩
 ·obtain⟨its,r',pl,hz⟩:=I.tuple hq;have hlen:=r'.length;exact len_tuple pl (by simp only [As] <;> omega) ⟨.int ys.length,H,I.tok _,⟨s.toks+1,by rw [As,hlen]⟩,q⟩
theorem QE:gJ X (.type "list") (λxs H Q=>∃ p ys,xs=[.ref p]/\(au X.K H p ys\/aP X.K H p ys)/\∀ l,H l=none->Q (.ref l) (upd H l<|.lst ys)):=by
 intro pins s σ H xs us Q I r h;obtain⟨p,ys,rfl,hq,q⟩:=h;obtain⟨u,rfl,rx⟩:=vals1 r;cases rx;have fin:∀(its:List Value),ax ys its->ys.length<=sizeLine->∀(h':Heap) (c':Nat),(∀ b o',s.heap.get? b=some o'->h'.get? b=some o') ->
   h'.get? s.heap.objs.size=some {cls:= .type "list",dict:=none,data:= .seq its.toArray c',slots:=#[]}->EP X pins σ Q (.ref s.heap.objs.size) {s with heap:=h'}:=λits r' hz h' c' kp e=>
  ⟨.ref s.heap.objs.size,_,I.laid (t':=s.toks) kp (Al _) (show ay X.prog X.w _ h' _ (.lst ys) from⟨hz,its,c',r',e⟩),rfl,q _<|I.aE.fresh<|Al _⟩
 rcases hq with hq | hq
 ·obtain⟨its,r',pl,hz⟩:=I.list hq;have hlen:=r'.length;obtain⟨o,ho,hc,n,hd⟩:=pl.isList;exact call_list_seq p (.inl rfl) ho hc hd (λh' c' kp e=>fin its r' hz h' c' kp e)<|by simp only [As] <;> omega
 ·obtain⟨its,r',pl,hz⟩:=I.tuple hq;have hlen:=r'.length;obtain⟨o,ho,hc,n,hd⟩:=pl;exact call_list_seq p (.inr rfl) ho hc hd (λh' c' kp e=>fin its r' hz h' c' kp e)<|by simp only [As] <;> omega
def l9(K:PySem.W.Frag)(T:String)(x:V)(H:Hp):Prop:=match x with
 | .str _=>T = "str"
 | .int _=>T = "int"
 | .ref p=>(T = "list"/\∃ xs,au K H p xs)\/(T = "tuple"/\∃ o,K.lookup p=some o/\o.cls = .type "tuple"/\o.dict=none) \/
   (T = "dict"/\((∃ kvs,H p=some (.dK kvs))\/∃ kvs,H p=some (.dT kvs)))\/(T = "set"/\∃ S n,H p=some (.set S n))
 | _=>False
theorem QH{pins:List (Addr×Obj)}{σ:St}{H:Hp}{s:Shared}{T:String}{x:V}{v:Value}(I:Inv X pins σ H s)(r:RelV x v)(ty:l9 X.K T x H) :
  s.TypeIs v T/\∀ a,v = .ref a->∃ ob,s.heap.get? a=some ob/\ob.dict=none:=by
 cases x with
 | str z=>
  obtain⟨t,rfl⟩:=r;cases (show T = "str" from ty);exact⟨typeIs_str s z t,λ_ e=>nomatch e⟩
 | int i=>
  obtain⟨t,rfl⟩:=r;cases (show T = "int" from ty);exact⟨typeIs_int s i t,λ_ e=>nomatch e⟩
 | ref p=>
  cases r
  rcases ty with ⟨rfl,xs,hq⟩ | ⟨rfl,o,hk,hc,hd⟩ | ⟨rfl,hk⟩ | ⟨rfl,S,n,hk⟩
  ·obtain⟨its,_,pl,_⟩:=I.list hq;refine⟨pl.isList.typeIs,λa e=>?_⟩;cases e;obtain⟨o,n,e,c,hd,_⟩:=pl;exact⟨o,e,hd⟩
  ·refine⟨⟨o,I.eO p o hk,hc⟩,λa e=>?_⟩;cases e;exact⟨o,I.eO _ o hk,hd⟩
  ·have z:∃ o,s.heap.get? p=some o/\o.ExactDict:=by
    rcases hk with ⟨kvs,hk⟩ | ⟨kvs,hk⟩
    ·obtain⟨_,_,_,_,o,_,_,e,ex,_⟩:=I.aE p _ hk;exact⟨o,e,ex⟩
    ·obtain⟨_,_,_,_,o,_,_,e,ex,_⟩:=I.aE p _ hk;exact⟨o,e,ex⟩
   obtain⟨o,e,ex⟩:=z;refine⟨⟨o,e,ex.1⟩,λa e2=>?_⟩;cases e2;exact⟨o,e,ex.2.1⟩
  ·obtain⟨o,_,_,_,e,ex,_⟩:=I.aE p _ hk;refine⟨⟨o,e,ex.1⟩,λa e2=>?_⟩;cases e2;exact⟨o,e,ex.2.1⟩
 | _=>exact False.elim ty
def QI(K:PySem.W.Frag)(T:String)(r:V->List V->Hp->VK->Prop)(to:TE)(t:TA):TE:=λσ H Q=>to σ H λx H1=>l9 K T x H1/\t σ H1 λxs H2=>r x xs H2 Q
variable{o e:Expr}{es:List Expr}{to:TE}{t:TA}{name:Str}{apos dX:Pos}{T id:String}{r:V->List V->Hp->VK->Prop}
theorem xo(pa:PlainAttrs T)(slot:Slot T name id)(qw:typeOf (.builtin id)=pure (.type "method_descriptor"))(hm:xk X id r)(ho:PE X o to)(ha:PA X (e :: es) t)
  (bZ:attributeBase o name X.env (eval o X.env)=eval o X.env:=by rfl)
  (dY : ((backTo dX<|starEach (e :: es) X.env).all (λx => !x.1) && (backToKw dX<|keywordEach [] X.env).all (λx => x.1.isSome)
   && decide ((e :: es).length+([]:List Keyword).length+(if([]:List Keyword).isEmpty then 0 else 1) < 30))=true:=by rfl)
  (hline:(apos.endLine == dX.line)=true:=by rfl) (hs:starEach (e :: es) X.env=(false,eval e X.env) :: starEach es X.env:=by rfl) (bO:(backTo dX<|starEach es X.env).any (·.1)=false:=by rfl) :
  PE X (.Call (.Attribute o name apos) (e :: es) [] dX) (QI X.K T r to t):=by
 intro pins s σ H Q I h;refine wpAny_Call_method_late bZ dY hline rfl (aH (ho pins s σ H _ I h) λv s1 ⟨x,H1,I1,r1,ty,q1⟩=>?_);obtain⟨h1,h2⟩:=QH I1 r1 ty;refine⟨T,id,pa,slot,qw,h1,h2,?_⟩;have hA:=ha dX pins s1 σ H1 _ I1 q1;rw [hs] at hA ⊢;refine IK (by show(false || (backTo dX<|starEach es X.env).any (·.1))=false;rw [bO] <;> rfl)<|Calls.evalArgs_plain ?_;exact aH hA λus s2 ⟨vs,H2,I2,r2,q2⟩=>hm pins s2 σ H2 x vs v us Q I2 r1 r2 q2
end
def qz(X:Cx)(id:String)(r:V->List V->Hp->VK->Prop):Prop:=
 ∀(pins:List<|Addr×Obj) (s:Shared) (σ:St) (H:Hp) (x:V) (xs:List V) (v:Value) (us:List Value) (Q:VK),Inv X pins σ H s->RelV x v->ax xs us->r x xs H Q ->
  wpAny (model X.prog X.w) X.A (call (.builtin id)<|v :: us) (EP X pins σ Q) X.xe s
theorem ax.hd{x:V}{xs:List V}{us:List Value}(h:ax (x :: xs) us):∃ u vs,us=u :: vs/\RelV x u/\ax xs vs:=by
 cases h with
 | cons r t=>exact⟨_,_,rfl,r,t⟩
theorem ax.nl{us:List Value}(h:ax [] us):us=[]:=by
 cases h;rfl
theorem ax.one{x:V}{us:List Value}(h:ax [x] us):∃ u,us=[u]/\RelV x u:=by
 obtain⟨u,vs,rfl,r,t⟩:=h.hd;rw [t.nl];exact⟨u,rfl,r⟩
theorem ax.two{x y:V}{us:List Value}(h:ax [x,y] us):∃ u v,us=[u,v]/\RelV x u/\RelV y v:=by
 obtain⟨u,vs,rfl,r,t⟩:=h.hd;obtain⟨v,ws,rfl,q,t⟩:=t.hd;rw [t.nl];exact⟨u,v,rfl,r,q⟩
theorem ax.zero:∀{us:List Value},ax [] us->us=[]
 | _,.nil=>rfl
theorem ax.eraseIdx:∀{xs:List V} {us:List Value} (i:Nat),ax xs us->ax (xs.eraseIdx i) (us.eraseIdx i)
 | _,_,_,.nil=> .nil
 | _,_,0,.cons _ t=>t
 | _,_,i+1,.cons r t=> .cons r<|ax.eraseIdx i t
theorem GI{α:Type}:∀(l:List α) (i:Nat),(l.eraseIdx i).length<=l.length
 | [],_=>Al _
 | _ :: _,0=>Fx _
 | _ :: r,i+1=>Nat.succ_le_succ<|GI r i
section
variable{X:Cx}{pins:List (Addr×Obj)}{σ:St}{H:Hp}{s:Shared}{l b:Addr}{xs ys zs:List V}
theorem Inv.jB{its its':List Value}{n:Nat}{f:Array Value->Array Value}{t':Nat}(I:Inv X pins σ H s)(hH:H l=some (.lst xs))
  (e:s.heap.get? l=some {cls:= .type "list",data:= .seq its.toArray n}) (hf:f its.toArray=its'.toArray) (hv:ax ys its') (hz:ys.length<=sizeLine) :
  Inv X pins σ (upd H l<|.lst ys) {s with heap:=s.heap.update l<|Obj.mapSeq f,toks:=t'}:=by
 have q:=PySem.IsL.update e f;rw [hf] at q;refine I.write (x:=l) (e:=l) (by rw [hH];exact trivial) (.inl rfl) (λb' u hb hu=>(Dk s.heap (Obj.mapSeq f)<|CG hb).trans hu) ⟨_,q⟩ ?_;exact⟨hz,its',_,hv,q⟩
theorem Inv.qA{its:List Value}{t':Nat}(I:Inv X pins σ H s)(hv:ax ys its)(hz:ys.length<=sizeLine) :
  Inv X pins σ (upd H s.heap.objs.size<|.lst ys) {s with heap:=s.heap.push {cls:= .type "list",data:= .seq its.toArray},toks:=t'}:=
 I.laid (λ_ _ q=>Ak _ q) (Al _) ⟨hz,its,0,hv,Bb _ rfl⟩
theorem Inv.fresh(I:Inv X pins σ H s):H s.heap.objs.size=none:=I.aE.fresh<|Al _
theorem Inv.fF(I:Inv X pins σ H s)(hH:H l=some (.lst xs)):xs.length<=sizeLine/\∃(its:List Value) (n:Nat),ax xs its/\xs.length=its.length/\s.heap.get? l=some {cls:= .type "list",data:= .seq its.toArray n}:=by
 obtain⟨z,its,n,r,e⟩:=I.aE l _ hH;exact⟨z,its,n,r,r.length,e⟩
theorem QN{n:Nat}(h:n<=sizeLine):Builtin.List.listTooLong n=false:=by
 unfold Builtin.List.listTooLong;exact BR<|by omega
end
section
variable{X:Cx}
def QO:V->List V->Hp->VK->Prop:=λx vs H Q=>∃ l xs y,x = .ref l/\vs=[y]/\H l=some (.lst xs)/\xs.length < sizeLine/\Q .non (upd H l<|.lst<|xs++[y])
theorem GU:qz X "list.append" QO:=by
 intro pins s σ H x vs v us Q I rx rv h;obtain⟨l,xs,y,rfl,rfl,hH,hz,q⟩:=h;cases rx;obtain⟨u,rfl,ru⟩:=rv.one;obtain⟨z,its,n,r,hl,e⟩:=I.fF hH;refine KH F.slot_list_append ⟨_,e,rfl⟩ F.entry_list_append (F.args_list_append_2 _ _) (PySem.list_append l its.toArray n u<|by rw [As];omega) ⟨e,?_⟩;refine⟨.non,_,I.jB (its':=its++[u]) hH e (by simp) (r.append<|.cons ru .nil) ?_,rfl,q⟩;rw [Af,Ck];omega
def QP:V->List V->Hp->VK->Prop:=λx vs H Q=>∃ l b xs zs,x = .ref l/\vs=[.ref b]/\H l=some (.lst xs)/\H b=some (.lst zs)/\xs.length+zs.length<=sizeLine/\Q .non (upd H l<|.lst<|xs++zs)
theorem QQ:qz X "list.extend" QP:=by
 intro pins s σ H x vs v us Q I rx rv h;obtain⟨l,b,xs,zs,rfl,rfl,hH,hB,hz,q⟩:=h;cases rx;obtain⟨u,rfl,ru⟩:=rv.one;cases ru;obtain⟨z,its,n,r,hl,e⟩:=I.fF hH;obtain⟨z2,dg,n2,r2,qB,e2⟩:=I.fF hB;have hsz:its.toArray.size+dg.toArray.size<=sizeLine:=by rw [As,As];omega
 have qC:¬(!its.toArray.isEmpty && Builtin.List.listTooLong (its.toArray.size+dg.toArray.size))=true:=by
  rw [QN hsz,Bool.and_false];exact Ar
 refine KH F.slot_list_extend ⟨_,e,rfl⟩ F.entry_list_extend (F.args_list_extend_2 _ _)
  (AutoSeq1.list_extend_list_list_0 l its.toArray n b dg.toArray n2 qC (by rw [As];omega)<|by omega) ⟨e,e2,?_⟩
 refine⟨.non,_,I.jB (its':=its++dg) hH e (by simp) (r.append r2) ?_,rfl,q⟩;rw [Af];omega
def QR:V->List V->Hp->VK->Prop:=λx vs H Q=>∃ l xs i k y,x = .ref l/\vs=[.int i]/\H l=some (.lst xs)/\-(2 ^ 63)<=i/\i < 2 ^ 63/\seqIndex? i xs.length=some k/\xs[k]?=some y/\Q y (upd H l<|.lst<|xs.eraseIdx k)
theorem QU:qz X "list.pop" QR:=by
 intro pins s σ H x vs v us Q I rx rv h;obtain⟨l,xs,i,k,y,rfl,rfl,hH,h1,h2,hk,hy,q⟩:=h;cases rx;obtain⟨u,rfl,ru⟩:=rv.one;obtain⟨t,rfl⟩:=ru;obtain⟨z,its,n,r,hl,e⟩:=I.fF hH;obtain⟨w,hw,dH⟩:=r.get hy;refine KH F.slot_list_pop ⟨_,e,rfl⟩ F.entry_list_pop (F.args_list_pop_2 _ _)
  (MeetsSeq.list_pop_at l its.toArray n i t k w (fitsIndex_both h1 h2) (by rw [As,<- hl];exact hk) (by rw [<- Cg];exact hw)<|by rw [As];omega) ⟨e,?_⟩
 refine⟨y,_,I.jB (its':=its.eraseIdx k) hH e ?_ (r.eraseIdx k) ?_,dH,q⟩
 ·show its.toArray.eraseIdxIfInBounds k=(its.eraseIdx k).toArray;rw [List.eraseIdxIfInBounds_toArray]
 ·have:=GI xs k;omega
def xq:R2:=λx y H Q=>∃ l b xs zs,x = .ref l/\y = .ref b/\H l=some (.lst xs)/\H b=some (.lst zs)/\xs.length+zs.length<=sizeLine/\∀ p,H p=none->Q (.ref p) (upd H p<|.lst<|xs++zs)
theorem QY:cR X (binaryOp .Add) xq:=by
 intro pins s σ H x y v u Q I rx ry h;obtain⟨l,b,xs,zs,rfl,rfl,hH,hB,hz,q⟩:=h;cases rx;cases ry;obtain⟨z,its,n,r,hl,e⟩:=I.fF hH;obtain⟨z2,dg,n2,r2,qB,e2⟩:=I.fF hB;refine PySem.P.add_list e e2 ?_ (by rw [As,As];omega);have ea:its.toArray++dg.toArray=(its++dg).toArray:=by simp
 rw [ea];exact⟨.ref _,_,I.qA (t':=s.toks) (r.append r2) (by rw [Af];omega),rfl,q _ I.fresh⟩
end
section
variable{prog:Program}{w:World}{A:Around}{E:Value->Shared->Prop}{s:Shared}
end
section
variable{X:Cx}
end
end L2
namespace GV
open PySem PySem.W PySem.Calls PyProof.Rows
theorem Q0{P:Params}{h:Heap}:∀(ns:List Int) (vs:List Value),WellAll P h vs (ns.map WData.int)->IntsAre vs ns:=by
 intro ns
 induction ns with
 | nil=>
  intro vs w;rw [QV] at w;cases w;exact .nil
 | cons n ns ih=>
  intro vs w;rw [Au] at w;cases w with
  | cons a b=>
   cases a;exact .cons _ _<|ih _ b
theorem Q1{l:OpenLaw}{n:Nat}(hn:l.most=some n){P:Params}{h:Heap}{args:List WData}{vals:List Value}
  (jC:l.row.toRowW.claim.pre args=true) (qD:WellAll P h vals args) :
  ∃ a vs ns,vals=[Value.ref a]/\args=[WData.list<|ns.map WData.int]/\h.get? a=some {cls:= .type "list",data:= .seq vs.toArray}/\IntsAre vs ns/\ns.length<=n:=by
 have Q2:WShape.hasAll [] args [.list .int]=true:=(pre_splitW jC).1;have hc:l.pre.holds [] {args:=args}=true:=(pre_splitW jC).2;obtain⟨d,r,rfl,h1,h2⟩:=hasAllW_cons Q2;obtain rfl:=hasAllW_nil h2;obtain⟨xs,rfl,h3⟩:=hasW_list h1;obtain⟨ns,rfl⟩:=items_int h3;have hlen:ns.length<=n:=by
  unfold OpenLaw.pre at hc;have h4:(WTm.not<|.lt (.lit<|.int (n:Int))<|.len<|.arg 0).holds [] {args:=[.list<|ns.map .int]}=true:=by
   have h4:=(holds_andW hc).1;rw [hn] at h4;exact h4
  have h5:=condW_of h4<|w_not<|w_lt w_lit<|w_len_list<|w_arg rfl;rw [Aa] at h5;refine Nat.le_of_not_lt λq=>?_;have q':(n:Int) < ((ns.length:Nat):Int):=by omega
  first
   | (rw [BW q'] at h5;exact absurd h5<|by decide)
   | (simp at h5;omega)
 cases qD with
 | cons w1 w2=>
  cases w2;cases w1 with
  | list ho xr=>exact⟨_,_,ns,rfl,rfl,ho,Q0 ns _ xr,hlen⟩
theorem Q3(l:OpenLaw)(args:List WData):l.row.toRowW.claim.post args (.bool true) args=true:=
 postW_of (r:=l.row.toRowW) (X:=(true == true))
  (show WShape.has [] (.bool true) .bool=true by first | rfl | decide | simp [WShape.has,WShape.arms,WShape.armsAll])
  (show(WTm.eq .res<|.lit<|.bool true).value [] {args:=args,res:=some<|.bool true,after:=args}=some (.bool<|true == true) from w_eq_bool (w_res rfl) w_lit) rfl
theorem eU{l:OpenLaw}{n:Nat}{q:Program}{loose:List Str}{XP:(Str->Option Value)->Heap->Prop}{YP:World->Heap->Prop}{d:DefRec}
  (hn:l.most=some n) (qE:d.params.defaults=[])
  (call : ∀ (w : World) (s₀ s₁ : Shared) (mg mb : Str → Option Value) (fa : Addr) (o : Obj) (pm cd doc : Value) (a : Addr) (vs : List Value) (ns : List Int),
   Ground q loose [] XP w s₀ mg mb s₁.heap->YP w s₁.heap ->
   s₁.heap.get? fa=some o->o.data = .func (docDef d.name d.params d.body d.scope pm cd doc)->s₁.heap.CodeRec cd d.name->mg d.name=some (.ref fa) ->
   s₁.heap.get? a=some {cls:= .type "list",data:= .seq vs.toArray}->IntsAre vs ns->ns.length<=n->s₁.gens=#[] ->
   codeAny (model l.prog w) callerA (.call (.ref fa) ⟨[.ref a],[]⟩) (λr s'=>r = .ok (.ret<|.bool true)/\OldK s₁.heap s'.heap/\s'.os=s₁.os/\AllBare s'.gens) s₁) :
  WalkO q loose XP YP l.row.toRowW d [] (λf vs=>PySem.call f vs):=by
 intro w s₀ s₁ mg mb G Y fa o pm cd doc dV kV ho hd g7 hD qF hg args vals as jC hlay ZZ qD Z3;obtain rfl:dV = .none:=Dflts.none hD qE;obtain rfl:kV = .none:=Dflts.noKw hD;obtain⟨a,vs,ns,rfl,rfl,fG,hints,hlen⟩:=Q1 hn jC qD;refine enter_call<|JF (call w s₀ s₁ mg mb fa o pm cd doc a vs ns G Y ho (fd_plain hd) g7 qF fG hints hlen hg) λr s' hq=>?_;obtain⟨rfl,h2,h3,h4⟩:=hq;exact⟨.inl ⟨.bool true,.bool true,[],rfl,λ_=>rfl,.bool true,Q3 l _,λ_=>⟨List.Pairwise.nil,λ_ hm=>(nomatch hm)⟩⟩,h2,h3,h4⟩
section
variable{prog:Program}{w:World}{A:Around}{E:Value->Shared->Prop}{s:Shared}{K:Frag}
end
end GV
namespace L2
open PySem PySem.Spec PyProof.Rows
theorem G0:∀{vs:List Value} {ns:List Int},IntsAre vs ns->ax (ns.map V.int) vs
 | _,_,.nil=> .nil
 | _,_,.cons n t h=> .cons ⟨t,rfl⟩<|G0 h
def Only(H:Hp):Prop:=∀ b,H b=none\/∃ o xs,H b=some (.bv o<|.lst xs)
theorem Q4{P:Program}{w:World}{K:PySem.W.Frag}{mg mb:Str->Option Value}{CX:fE}{k:Nat}{fa a:Addr}{fd:FuncData}{x:Str}{sp:Sp}{s₁:Shared}{vs:List Value}{ns:List Int}
  (KX:K.In s₁.heap) (t7:s₁.heap.Ns mainGlobals mg) (hb:s₁.heap.Ns builtinsNs mb) (Q5:∀ x:Str,x ≠ "__name__"->mb x=bootBuiltins x) (xt:s₁.heap.NoLimit) (hg:s₁.gens=#[])
  (ha:s₁.heap.get? a=some {cls:= .type "list",data:= .seq vs.toArray}) (hi:IntsAre vs ns) (hl:ns.length<=sizeLine) (hr:bx k callerA)
  (F:∀ base:Heap,K.In base->base.Ns mainGlobals mg->aI P w K mg base CX k fa fd [x] sp) (qG:∀(s:Shared) (u:Value),BindsTo s fd ⟨[u],[]⟩ [(x,u)])
  (cY:∀ H:Hp,Only H->au K H a (ns.map V.int)->sp [.ref a] H (λv _=>v = .bl true) λ_ _ _=>False)
  (xu:∀ H e s',CX [] H s₁ (λ_ _ _=>False) e s'->False) :
  codeAny (model P w) callerA (.call (.ref fa) ⟨[.ref a],[]⟩) (λr s'=>r = .ok (.ret<|.bool true)/\OldK s₁.heap s'.heap/\s'.os=s₁.os/\AllBare s'.gens) s₁:=by
 have rv:=G0 hi;have xv:=hi.length;have core:∀ H:Hp,Only H->au K H a (ns.map V.int)->b8 P w H s₁.heap->(∀ b,H b≠none->b=a)->(H a≠none->K.lookup a=none) ->
   codeAny (model P w) callerA (.call (.ref fa) ⟨[.ref a],[]⟩) (λr s'=>r = .ok (.ret<|.bool true)/\OldK s₁.heap s'.heap/\s'.os=s₁.os/\AllBare s'.gens) s₁:=by
  intro H hO hS aE hA hK;have fW:∀{b:Addr} {o:Obj},s₁.heap.get? b=some o->H b=none->(dQ s₁.heap H).get? b=some o:=λe n=>Oy e n;have qt:∀{b:Addr} {o:Obj} {es:Array DictEntry} {ep:Nat},s₁.heap.get? b=some o->o.data = .dict es ep->H b=none:=λ{b o es ep} e d=>by
   cases q:H b with
   | none=>rfl
   | some u=>
    have e':b=a:=hA b (by rw [q];simp);subst e';rw [ha] at e;cases e;have d':Data.seq vs.toArray _=Data.dict es ep:=d;cases d'
  have t8:∀{b:Addr} {m:Str->Option Value},s₁.heap.Ns b m->(dQ s₁.heap H).Ns b m:=λ{b m} ⟨o,es,ep,e,d,r⟩=>⟨o,es,ep,fW e<|qt e d,d,r⟩;have G':K.In (dQ s₁.heap H):=λb o e=>fW (KX b o e)<|by
   cases q:H b with
   | none=>rfl
   | some u=>
    have e':b=a:=hA b (by rw [q];simp);subst e';rw [hK<|by rw [q];simp] at e;cases e
  have hM:Mod K mg (dQ s₁.heap H):=⟨G',t8 t7,⟨mb,t8 hb,Q5⟩,let ⟨mc,h1,h2⟩:=xt;⟨mc,t8 h1,h2⟩⟩;have e0:jy P w K mg (dQ s₁.heap H) callerA [] s₁ H:=⟨rfl,hM,λb o e=>Oz e,Nat.le_of_eq<|Ox _ _,trivial,λb hb=>absurd (show b∈([]:List Addr) from hb) (by simp),aE,.of_eq hg⟩;refine JF ((F _ G'<|t8 t7).run callerA [] s₁ H ⟨[.ref a],[]⟩ [.ref a] [.ref a] _ _ hr e0 (qG s₁<|.ref a) (.cons rfl .nil)<|cY H hO hS) λr s' h=>?_;cases r with
  | error e=>exact(xu H e s' h).elim
  | ok fl=>
   cases fl with
   | next=>exact False.elim h
   | brk=>exact False.elim h
   | cont=>exact False.elim h
   | ret u=>
    obtain⟨v,H',os,bare,un,xA,r',q⟩:=h;have q':v = .bl true:=q;subst q';obtain rfl:u=Value.bool true:=r';refine⟨rfl,OldK.of_keep λb o e=>?_,os,bare⟩;cases q:H b with
    | none=>exact un.keep b o e q (by intro z;exact absurd (show b∈([]:List Addr) from z)<|by simp)<|by simp
    | some u=>
     rcases hO b with z | ⟨ob,xs,z⟩
     ·rw [q] at z;cases z
     ·have z2:=un.dP b ob _ z;obtain⟨e1,_⟩:=aE b _ z;obtain⟨e2,_⟩:=xA b _ z2;rw [e] at e1;cases e1;exact e2
 cases hk:K.lookup a with
 | some o=>
  have e:=KX a o hk;rw [ha] at e;cases e;refine core (λ_=>none) (λ_=> .inl rfl) (.inr ⟨_,vs.toArray,_,hk,rfl,rfl,rfl,by rw [As,xv];exact hl,by simpa using rv⟩) (λb u z=>by have z':(none:Option HO)=some u:=z;cases z') (λb z=>absurd rfl z) λz=>absurd rfl z
 | none=>
  refine core (λb=>if b=a then some (.bv {cls:= .type "list",data:= .seq vs.toArray}<|.lst<|ns.map V.int) else none) (λb=>?_) (.inl<|.inr ⟨{cls:= .type "list",data:= .seq vs.toArray},BL rfl⟩) (λb u z=>?_) (λb z=>?_) λ_=>hk
  ·by_cases hb:b=a
   ·exact .inr ⟨_,_,BL hb⟩
   ·exact .inl<|BJ hb
  ·by_cases hb:b=a
   ·have z':=(BL hb).symm.trans z;cases z';subst hb;exact⟨ha,by rw [Aa];exact hl,vs,_,rv,ha⟩
   ·have z':=(BJ hb).symm.trans z;cases z'
  ·by_cases hb:b=a
   ·exact hb
   ·exact absurd (BJ hb) z
theorem jD{l:PySem.W.OpenLaw}{n k:Nat}{q:Program}{loose:List Str}{XP:(Str->Option Value)->Heap->Prop}{YP:World->Heap->Prop}{d:DefRec}{K:Params->PySem.W.Frag}{CX:World->fE}{sp:World->Sp}{x:Str}
  (hn:l.most=some n) (Q6:n<=sizeLine) (qE:d.params.defaults=[]) (hr:bx k callerA)
  (hY:∀(w:World) (h:Heap),YP w h->(K w.params).In h)
  (F : ∀ (w : World) (mg : Str → Option Value) (fa : Addr) (h : Heap), (K w.params).In h → h.Ns mainGlobals mg → mg d.name = some (.ref fa) →
   ∃ fd:FuncData,(∀(s:Shared) (u:Value),BindsTo s fd ⟨[u],[]⟩ [(x,u)]) /\
    ∀ base:Heap,(K w.params).In base->base.Ns mainGlobals mg->aI l.prog w (K w.params) mg base (CX w) k fa fd [x] (sp w))
  (cY:∀(w:World) (H:Hp) (a:Addr) (ns:List Int),ns.length<=n->Only H->au (K w.params) H a (ns.map V.int)->sp w [.ref a] H (λv _=>v = .bl true) λ_ _ _=>False)
  (xu:∀(w:World) (H:Hp) (s:Shared) (e:Value) (s':Shared),CX w [] H s (λ_ _ _=>False) e s'->False) :
  PySem.W.WalkO q loose XP YP l.row.toRowW d [] (λf vs=>PySem.call f vs):=by
 refine GV.eU hn qE λw s₀ s₁ mg mb fa o pm cd doc a vs ns G Y ho hd g7 qF fG hints hlen hg=>?_;have KX:=hY w _ Y;obtain⟨fd,hb,hF⟩:=F w mg fa _ KX G.T.g qF;exact Q4 KX G.T.g G.T.b G.T.builtins G.T.nolimit hg fG hints (Cd hlen Q6) hr hF hb (λH hO hS=>cY w H a ns hlen hO hS) λH e s'=>xu w H s₁ e s'
def me(s:Stmt):Arguments:=match s with
 | .FunctionDef _ a _ _ _ _ _ _ _ _=>a
 | _=>{posonlyargs:=[],args:=[],vararg:=none,kwonlyargs:=[],kw_defaults:=[],kwarg:=none,defaults:=[]}
def g8(s:Stmt):List Stmt:=match s with
 | .FunctionDef _ _ b _ _ _ _ _ _ _=>b
 | _=>[]
def bm(s:Stmt):Scope:=match s with
 | .FunctionDef _ _ _ _ _ _ sc _ _ _=>sc
 | _=>{kind:= .function,names:=[],isGenerator:=false,isCoroutine:=false}
abbrev bH:fE:=λ_ _ _ _ _ _=>False
abbrev E0:XK:=λ_ _ _=>False
theorem iu{X:Cx}:qo bH X E0:=λ_ _ _ _ _ _ _ h=>h.elim
structure bM(K:PySem.W.Frag)(x qual:Str)(st:Stmt)(f:Addr)(fd:FuncData):Prop where
 ex:∃(oc:Value) (od:Option Addr) (kV doc pm:Value) (an:Option Addr) (bF ct:Value) (jA:Array<|Option Value),
  fd=PySem.W.fnOf x qual (me st) (g8 st) (bm st) .none kV doc pm an bF ct/\K.lookup f=some ⟨oc,od,.func fd,jA⟩/\PySem.W.codeIn K bF qual=true
 kp:PySem.W.keepIn K (.ref f)=true
section
variable{P:Program}{w:World}{K:PySem.W.Frag}{mg:Str->Option Value}{base:Heap}
theorem bM.ok{x qual:Str}{st:Stmt}{f:Addr}{fd:FuncData}{N ps:List Str}{k:Nat}{sp:Sp}(F:bM K x qual st f fd)(S:ao N ps<|bm st)(len:∀ vs H Q E,sp vs H Q E->vs.length=ps.length)
  (de : ∀ (bF : Value) (A : Around) (outer : List Env) (s : Shared) (H : Hp) (vs : List V) (Q : VK) (E : XK), bx k (A.deeper<|envOfC qual (bm st) s.heap.objs.size f bF) → sp vs H Q E →
   ∃ t,gG (eR bH P w K mg base N qual (bm st) f bF A outer s H E).oB (g8 st) t/\t {nx:=λ_ H'=>Q .non H',rt:=Q} (start N vs) H):aI P w K mg base bH (k+1) f fd ps sp:=by
 obtain⟨oc,od,kV,doc,pm,an,bF,ct,jA,rfl,lk,g7⟩:=F.ex;refine Ql lk g7 S len λA outer s H vs Q E hr cY=>?_;obtain⟨t,h,q⟩:=de bF A outer s H vs Q E hr cY;exact⟨t,h.oB,q⟩
theorem bM.binds{x qual:Str}{st:Stmt}{f:Addr}{fd:FuncData}{ps:List Str}(F:bM K x qual st f fd)
  (h:∀(kV doc pm:Value) (an:Option Addr) (bF ct:Value) (us:List Value),us.length=ps.length->bindArgs (PySem.W.fnOf x qual (me st) (g8 st) (bm st) .none kV doc pm an bF ct) ⟨us,[]⟩=pure (ps.zip us)):Binds K fd ps []:=by
 obtain⟨oc,od,kV,doc,pm,an,bF,ct,jA,rfl,lk,g7⟩:=F.ex;exact .all<|h kV doc pm an bF ct
theorem Q7{x qual:Str}{st:Stmt}{f:Addr}{oc:Value}{od an:Option Addr}{jA:Array (Option Value)}{kV doc pm bF ct:Value}(l:K.lookup f=some ⟨oc,od,.func<|PySem.W.fnOf x qual (me st) (g8 st) (bm st) .none kV doc pm an bF ct,jA⟩)
  (c:PySem.W.codeIn K bF qual=true) (k:PySem.W.keepIn K (.ref f)=true):bM K x qual st f (PySem.W.fnOf x qual (me st) (g8 st) (bm st) .none kV doc pm an bF ct):=⟨⟨oc,od,kV,doc,pm,an,bF,ct,jA,rfl,l,c⟩,k⟩
end
section
variable{X:Cx}
end
theorem b4{A B:Prop}(h:B):if false=true then A else B:=by
 rw [BJ Ar];exact h
theorem bP{A B:Prop}(h:A):if true=true then A else B:=by
 rw [BL rfl];exact h
theorem jE{c A B:Prop} [Decidable c] (h1:c->A) (h2:¬ c->B):if c then A else B:=by
 by_cases h:c
 ·rw [BL h];exact h1 h
 ·rw [BJ h];exact h2 h
def ak(H H':Hp):Prop:=∀ b o,H b=some o->H' b=some o
theorem ak.refl(H:Hp):ak H H:=λ_ _ h=>h
theorem ak.trans{H H1 H2:Hp}(a:ak H H1)(b:ak H1 H2):ak H H2:=λc o h=>b c o<|a c o h
theorem ak.free{H H':Hp}(e:ak H H'){l:Addr}(h:H' l=Option.none):H l=Option.none:=by
 cases q:H l with
 | none=>rfl
 | some o=>
  rw [e l o q] at h;cases h
theorem ak.seq{K:PySem.W.Frag}{H H':Hp}{a:Addr}{xs:List V}(e:ak H H')(h:au K H a xs):au K H' a xs:=by
 rcases h with (h | ⟨o,h⟩) | h
 ·exact .inl<|.inl<|e _ _ h
 ·exact .inl<|.inr ⟨o,e _ _ h⟩
 ·exact .inr h
section
variable{κ:Type} [DecidableEq κ]
def aB(kvs:List<|κ×V)(k:κ):Option V:=(kvs.find? λkv=>decide (kv.1=k)).map (·.2)
def putK(kvs:List<|κ×V)(k:κ)(v:V):List (κ×V):=
 if(kvs.any λkv=>decide (kv.1=k))=true then kvs.map (λkv=>if kv.1=k then(kv.1,v) else kv) else kvs++[(k,v)]
theorem gL{p:κ×V}{r:List (κ×V)}{k:κ}(e:p.1=k):aB (p :: r) k=some p.2:=by simp [aB,Ey,e]
theorem gM{p:κ×V}{r:List (κ×V)}{k:κ}(e:¬ p.1=k):aB (p :: r) k=aB r k:=by simp [aB,Ey,e]
theorem oG(k:κ):∀ kvs:List<|κ×V,(kvs.any λkv=>decide (kv.1=k))=(aB kvs k).isSome
 | []=>rfl
 | p :: r=>by
  rw [QM]
  by_cases e:p.1=k
  ·simp only [gL e,BW e,Bool.true_or,Option.isSome_some]
  ·rw [gM e,BR e,Bool.false_or];exact oG k r
theorem Ha(k j:κ)(y:V):∀ kvs:List<|κ×V,aB (kvs.map λkv=>if kv.1=k then(kv.1,y) else kv) j=(aB kvs j).map λx=>if j=k then y else x
 | []=>rfl
 | p :: r=>by
  have ih:=Ha k j y r;rw [Au]
  by_cases h:p.1=k
  ·rw [BL h]
   by_cases e:p.1=j
   ·rw [gL (p:=(p.1,y)) e,gL e,Ga,BL<|e.symm.trans h]
   ·rw [gM (p:=(p.1,y)) e,gM e,ih]
  ·rw [BJ h]
   by_cases e:p.1=j
   ·rw [gL (p:=p) e,gL e,Ga,BJ λz=>h<|e.trans z]
   ·rw [gM (p:=p) e,gM e,ih]
theorem Hb(k j:κ)(y:V):∀ kvs:List<|κ×V,aB kvs k=none->aB (kvs++[(k,y)]) j=if j=k then some y else aB kvs j
 | [],_=>by
  by_cases e:k=j
  ·rw [BL e.symm];exact gL (p:=(k,y)) e
  ·rw [BJ λz=>e z.symm];exact gM (p:=(k,y)) e
 | p :: r,hn=>by
  rw [Fi];have hk:¬ p.1=k:=λz=>by rw [gL z] at hn;cases hn
  rw [gM hk] at hn;have ih:=Hb k j y r hn
  by_cases e:p.1=j
  ·rw [gL e,gL e,BJ λz=>hk<|e.trans z]
  ·rw [gM e,gM e,ih]
theorem cZ(kvs:List<|κ×V)(k j:κ)(y:V):aB (putK kvs k y) j=if j=k then some y else aB kvs j:=by
 unfold putK
 by_cases a:(kvs.any λkv=>decide (kv.1=k))=true
 ·rw [BL a,Ha];rw [oG] at a
  by_cases e:j=k
  ·obtain⟨x,hx⟩:=El.mp a;rw [BL e,e,hx,Ga,BL rfl]
  ·rw [BJ e];cases aB kvs j with
   | none=>rfl
   | some x=>rw [Ga,BJ e]
 ·rw [BJ a];refine Hb k j y kvs ?_;rw [oG] at a;cases q:aB kvs k with
  | none=>rfl
  | some x=>rw [q] at a;exact(a rfl).elim
theorem fq(kvs:List<|κ×V)(k:κ)(v:V):(putK kvs k v).length<=kvs.length+1:=by
 unfold putK
 split
 ·rw [Aa];omega
 ·rw [Af,An,Gb];omega
theorem Hc{kvs:List (κ×V)}{k:κ}(v:V)(h:aB kvs k=none):putK kvs k v=kvs++[(k,v)]:=by
 unfold putK;rw [oG,h];exact BJ<|by decide
theorem c9.bI{o:Option V}{u:Option Value}(r:c9 o u):o.isSome=u.isSome:=by
 cases o with
 | none=>cases u with
  | none=>rfl
  | some _=>exact(show False from r).elim
 | some _=>cases u with
  | none=>exact(show False from r).elim
  | some _=>rfl
theorem KV.val{kvs:List (κ×V)}{vs:List (κ×Value)}(r:KV kvs vs)(k:κ):c9 (aB kvs k) (valueAt vs k):=by
 unfold KV at r
 induction r with
 | nil=>exact True.intro
 | @cons p q ps qs h t ih=>
  obtain⟨h1,h2⟩:=h
  by_cases e:p.1=k
  ·have e':q.1=k:=h1.symm.trans e;have b:valueAt (q :: qs) k=some q.2:=by simp [valueAt,Ey,e']
   rw [gL e,b];exact h2
  ·have e':¬ q.1=k:=λz=>e<|h1.trans z;have b:valueAt (q :: qs) k=valueAt qs k:=by simp [valueAt,Ey,e']
   rw [gM e,b];exact ih
theorem KV.any{kvs:List (κ×V)}{vs:List (κ×Value)}(r:KV kvs vs)(k:κ):(kvs.any λkv=>decide (kv.1=k))=vs.any λkv=>decide (kv.1=k):=by
 unfold KV at r
 induction r with
 | nil=>rfl
 | cons h t ih=>rw [QM,QM,ih,h.1]
theorem KV.repl{kvs:List (κ×V)}{vs:List (κ×Value)}(r:KV kvs vs)(k:κ){y:V}{u:Value}(ry:RelV y u) :
  KV (kvs.map λkv=>if kv.1=k then(kv.1,y) else kv) (vs.map λkv=>if kv.1=k then(kv.1,u) else kv):=by
 unfold KV at r ⊢
 induction r with
 | nil=>exact .nil
 | @cons p q ps qs h t ih=>
  rw [Au,Au];refine .cons ?_ ih;obtain⟨h1,h2⟩:=h
  by_cases e:p.1=k
  ·rw [BL e,BL<|h1.symm.trans e];exact⟨h1,ry⟩
  ·rw [BJ e,BJ λz=>e<|h1.trans z];exact⟨h1,h2⟩
theorem KV.put{kvs:List (κ×V)}{vs:List (κ×Value)}(r:KV kvs vs)(k:κ){y:V}{u:Value}(ry:RelV y u):KV (putK kvs k y) (stored vs k u):=by
 unfold putK stored;rw [r.any k]
 by_cases e:(vs.any λkv=>decide (kv.1=k))=true
 ·rw [BL e,BL e];exact r.repl k ry
 ·rw [BJ e,BJ e];exact Paired.snoc r ⟨rfl,ry⟩
theorem KV.keys{kvs:List (κ×V)}{vs:List (κ×Value)}(r:KV kvs vs):kvs.map (·.1)=vs.map (·.1):=by
 unfold KV at r
 induction r with
 | nil=>rfl
 | cons h t ih=>rw [Au,Au,ih,h.1]
theorem KV.length{kvs:List (κ×V)}{vs:List (κ×Value)}(r:KV kvs vs):kvs.length=vs.length:=Paired.length r
end
theorem ko{P:Program}{w:World}{k:Key}{u:Value}(r:RelV (kV k) u):(cQ P w).is k u=true:=by
 cases k with
 | inl i=>obtain⟨t,e⟩:=(show ∃ t,u=Value.int i t from r);subst e;exact Ot P w i t
 | inr x=>obtain⟨t,e⟩:=(show ∃ t,u=Value.str x t from r);subst e;exact Ou P w x t
theorem He{P:Program}{w:World}:∀{ks:List Key} {us:List Value},ax (ks.map kV) us->ItemsAre (cQ P w) ks us
 | [],_,r=>by rw [QV] at r;cases r;exact .nil
 | k :: ks,_,r=>by
  rw [Au] at r;cases r with
  | cons h t=>exact .cons (ko h)<|He t
abbrev KT(H:Hp):List (List Key×V)->List (List Key×Addr×Value)->Prop:=Paired λp q=>p.1=q.1/\H q.2.1=some (.tup<|p.1.map kV)/\RelV p.2 q.2.2
theorem KT.val{H:Hp}{kvs:List (List Key×V)}{xs:List (List Key×Addr×Value)}(r:KT H kvs xs)(k:List Key):c9 (aB kvs k) ((atKey xs k).map (·.2)):=by
 induction r with
 | nil=>exact True.intro
 | @cons p q ps qs h t ih=>
  obtain⟨h1,_,h2⟩:=h
  by_cases e:p.1=k
  ·have e':q.1=k:=h1.symm.trans e;have b:atKey (q :: qs) k=some q.2:=by simp [atKey,Ey,e']
   rw [gL e,b];exact h2
  ·have e':¬ q.1=k:=λz=>e<|h1.trans z;have b:atKey (q :: qs) k=atKey qs k:=by simp [atKey,Ey,e']
   rw [gM e,b];exact ih
theorem KT.repl{H:Hp}{kvs:List (List Key×V)}{xs:List (List Key×Addr×Value)}(r:KT H kvs xs)(k:List Key){y:V}{u:Value}(ry:RelV y u) :
  KT H (kvs.map λkv=>if kv.1=k then(kv.1,y) else kv) (xs.map<|putAt k u):=by
 induction r with
 | nil=>exact .nil
 | @cons p q ps qs h t ih=>
  rw [Au,Au];refine .cons ?_ ih;obtain⟨h1,h2,h3⟩:=h;unfold putAt
  by_cases e:p.1=k
  ·rw [BL e,BL<|h1.symm.trans e];exact⟨h1,h2,ry⟩
  ·rw [BJ e,BJ λz=>e<|h1.trans z];exact⟨h1,h2,h3⟩
theorem KT.put{H:Hp}{kvs:List (List Key×V)}{xs:List (List Key×Addr×Value)}(r:KT H kvs xs)(k:List Key){b:Addr}{y:V}{u:Value}(hb:H b=some (.tup<|k.map kV))(ry:RelV y u) :
  KT H (putK kvs k y) (storedH xs k b u):=by
 have e:(kvs.any λkv=>decide (kv.1=k))=(atKey xs k).isSome:=by
  rw [oG,(r.val k).bI,JX]
 unfold putK storedH;rw [e]
 by_cases q:(atKey xs k).isSome=true
 ·rw [BL q,BL q];exact r.repl k ry
 ·rw [BJ q,BJ q];exact Paired.snoc r ⟨rfl,hb,ry⟩
theorem KT.keeps{H H':Hp}{kvs:List (List Key×V)}{xs:List (List Key×Addr×Value)}(r:KT H kvs xs)(ht:∀ b ys,H b=some (.tup ys)->H' b=some (.tup ys)):KT H' kvs xs:=
 Paired.lH r λ_ _ z=>⟨z.1,ht _ _ z.2.1,z.2.2⟩
section
variable{P:Program}{w:World}{H:Hp}{h:Heap}{a:Addr}
theorem Hf{u:HO}(ok:b8 P w H h)(e:Rd H a u):ay P w H h a u:=e.ok ok
theorem qH{kvs:List (Key×V)}(ok:b8 P w H h)(e:Rd H a<|.dK kvs):kvs.length<=sizeLine/\(a == sysModules)=false/\∃ vs,KV kvs vs/\h.DictOf (cQ P w) a vs:=
 show ay P w H h a (.dK kvs) from Hf ok e
theorem qI{kvs:List (Key×V)}(ok:b8 P w H h)(e:H a=some (.dK kvs)):kvs.length<=sizeLine/\(a == sysModules)=false/\∃ vs,KV kvs vs/\h.DictOf (cQ P w) a vs:=qH ok<|.inl e
theorem oH{ks:List Key}(ok:b8 P w H h)(e:H a=some (.tup<|ks.map kV)):(tupleKind<|cQ P w).is h ks a:=by
 obtain⟨_,its,r,o,h1,h2,n,h3⟩:=(show ay P w H h a (.tup<|ks.map kV) from ok a _ e);exact⟨o,its.toArray,n,h1,h2,h3,by simpa using He r⟩
theorem qJ{kvs:List (List Key×V)}(ok:b8 P w H h)(e:Rd H a<|.dT kvs):kvs.length<=sizeLine/\(a == sysModules)=false /\
  ∃ xs,KT H kvs xs/\h.DictOfH (tupleKind<|cQ P w) a xs:=by
 obtain⟨z,y,xs,r,o,es,ep,h1,h2,h3,h4,h5⟩:=(show ay P w H h a (.dT kvs) from Hf ok e);refine⟨z,y,xs,r,o,es,ep,h1,h2,h3,h4,λx hx=>?_,h5⟩;have all:∀{l:List (List Key×V)} {m:List (List Key×Addr×Value)},KT H l m->∀ x∈m,(tupleKind<|cQ P w).is h x.1 x.2.1:=by
  intro l m q
  induction q with
  | nil=>intro x hx;exact nomatch hx
  | @cons p q ps qs hq t ih=>
   intro x hx
   rcases Ai.mp hx with e | hx
   ·subst e;exact oH ok<|by rw [<- hq.1];exact hq.2.1
   ·exact ih x hx
 exact all r x hx
theorem Hg{kvs:List (List Key×V)}(ok:b8 P w H h)(e:H a=some (.dT kvs)):kvs.length<=sizeLine/\(a == sysModules)=false /\
  ∃ xs,KT H kvs xs/\h.DictOfH (tupleKind<|cQ P w) a xs:=qJ ok<|.inl e
end
def aZ(H:Hp)(a:Addr)(y:V)(r:Option V):Prop:=
 (∃ kvs k,Rd H a (.dK kvs)/\y=kV k/\r=aB kvs k)\/∃ kvs k b,Rd H a (.dT kvs)/\y = .ref b/\H b=some (.tup<|k.map kV)/\r=aB kvs k
def bQ(H:Hp)(a:Addr)(y v:V)(H':Hp):Prop:=
 (∃ kvs k,H a=some (.dK kvs)/\y=kV k/\kvs.length < sizeLine/\H'=upd H a (.dK<|putK kvs k v)) \/
 ∃ kvs k b,H a=some (.dT kvs)/\y = .ref b/\H b=some (.tup<|k.map kV)/\kvs.length < sizeLine/\H'=upd H a (.dT<|putK kvs k v)
theorem aZ.k{H:Hp}{a:Addr}{kvs:List (Key×V)}{k:Key}(e:H a=some (.dK kvs)):aZ H a (kV k) (aB kvs k):= .inl ⟨kvs,k,.inl e,rfl,rfl⟩
theorem aZ.t{H:Hp}{a b:Addr}{kvs:List (List Key×V)}{k:List Key}(e:H a=some (.dT kvs))(eb:H b=some (.tup<|k.map kV)):aZ H a (.ref b) (aB kvs k):= .inr ⟨kvs,k,b,.inl e,rfl,eb,rfl⟩
theorem bQ.k{H:Hp}{a:Addr}{kvs:List (Key×V)}{k:Key}{v:V}(e:H a=some (.dK kvs))(hl:kvs.length < sizeLine):bQ H a (kV k) v (upd H a<|.dK<|putK kvs k v):= .inl ⟨kvs,k,e,rfl,hl,rfl⟩
theorem bQ.t{H:Hp}{a b:Addr}{kvs:List (List Key×V)}{k:List Key}{v:V}(e:H a=some (.dT kvs))(eb:H b=some (.tup<|k.map kV))(hl:kvs.length < sizeLine) :
  bQ H a (.ref b) v (upd H a<|.dT<|putK kvs k v):= .inr ⟨kvs,k,b,e,rfl,eb,hl,rfl⟩
section
variable{X:Cx}{pins:List (Addr×Obj)}{σ:St}{H:Hp}{s:Shared}{a:Addr}{y v:V}{u r:Value}{o:Option V}{A:Around}{E:Value->Shared->Prop}
theorem Inv.big(I:Inv X pins σ H s):sysModules < s.heap.objs.size:=by
 have h:mainGlobals < s.heap.objs.size:=(I.mod.glob.keeps I.bk).lt;exact Nat.lt_trans (by decide) h
theorem Q8{Q:Value->Shared->Prop}(hu:A.units+1 < cLine)(I:Inv X pins σ H s)(g:aZ H a y<|some v)(ry:RelV y u)(h:∀ w' s',Inv X pins σ H s'->RelV v w'->Q w' s') :
  wpAny (model X.prog X.w) A (getItem (.ref a) u) Q E s:=by
 rcases g with ⟨kvs,k,e,ey,l⟩ | ⟨kvs,k,b,e,ey,eb,l⟩
 ·subst ey;obtain⟨z,hd,vs,rel,dd⟩:=qH I.aE e;obtain⟨w',hw,dH⟩:=c9.some_of (v:=v) (o:=valueAt vs k) (by rw [l];exact rel.val k);exact wpAny_getItem_of (ko ry) dd.mapOf hw<|h w' _ (I.tok _) dH
 ·subst ey;cases (show u=Value.ref b from ry);obtain⟨z,hd,xs,rel,dd⟩:=qJ I.aE e;obtain⟨w',hw,dH⟩:=c9.some_of (v:=v) (o:=(atKey xs k).map (·.2)) (by rw [l];exact rel.val k);obtain⟨p,hp,jF⟩:=Bg.mp hw;refine wpAny_getItem_heap (HW hu) (oH I.aE eb) dd hp ?_;rw [jF];exact h w' _ (I.tok _) dH
theorem xB{Q:Value->Shared->Prop}(hu:A.units+1 < cLine)(I:Inv X pins σ H s)(g:aZ H a y o)(ry:RelV y u)(h:∀ s',Inv X pins σ H s'->Q (.bool o.isSome) s') :
  wpAny (model X.prog X.w) A (compareOp .In u<|.ref a) Q E s:=by
 rcases g with ⟨kvs,k,e,ey,l⟩ | ⟨kvs,k,b,e,ey,eb,l⟩
 ·subst ey;obtain⟨z,hd,vs,rel,dd⟩:=qH I.aE e;refine wpAny_in_of (ko ry) hd dd.mapOf ?_;rw [<- (rel.val k).bI,<- l];exact h _<|I.tok _
 ·subst ey;cases (show u=Value.ref b from ry);obtain⟨z,hd,xs,rel,dd⟩:=qJ I.aE e;refine wpAny_in_heap (HW hu) (oH I.aE eb) hd dd ?_;have q:=(rel.val k).bI;rw [JX] at q;rw [<- q,<- l];exact h _<|I.tok _
theorem Q9{Q:Value->Shared->Prop}(hu:A.units+1 < cLine)(I:Inv X pins σ H s)(g:aZ H a y o)(ry:RelV y u)(h:∀ s',Inv X pins σ H s'->Q (.bool (!o.isSome)) s') :
  wpAny (model X.prog X.w) A (compareOp .NotIn u<|.ref a) Q E s:=by
 rcases g with ⟨kvs,k,e,ey,l⟩ | ⟨kvs,k,b,e,ey,eb,l⟩
 ·subst ey;obtain⟨z,hd,vs,rel,dd⟩:=qH I.aE e;refine wpAny_notIn_of (ko ry) hd dd.mapOf ?_;rw [<- (rel.val k).bI,<- l];exact h _<|I.tok _
 ·subst ey;cases (show u=Value.ref b from ry);obtain⟨z,hd,xs,rel,dd⟩:=qJ I.aE e;refine wpAny_notIn_heap (HW hu) (oH I.aE eb) hd dd ?_;have q:=(rel.val k).bI;rw [JX] at q;rw [<- q,<- l];exact h _<|I.tok _
theorem kq{h':Heap}{t':Nat}{ob:HO}(I:Inv X pins σ H s)(mu:pW<|H a)(hs:Heap.SameBut a s.heap h')(he:∃ q,h'.get? a=some q)(new:ay X.prog X.w (upd H a ob) h' a ob) :
  Inv X pins σ (upd H a ob) {s with heap:=h',toks:=t'}:=
 I.write (x:=a) (e:=a) mu (.inl rfl) (λb q hb z=>(hs.2 b hb).trans z) he new
theorem xC{P:Program}{w:World}{H':Hp}{h':Heap}{kvs:List (Key×V)}{vs:List (Key×Value)}(z:kvs.length<=sizeLine)(hd:(a == sysModules)=false)(rel:KV kvs vs)(dd:h'.DictOf (cQ P w) a vs) :
  ay P w H' h' a (.dK kvs):=⟨z,hd,vs,rel,dd⟩
theorem Ra{H':Hp}{Q:Unit->Shared->Prop}(hu:A.units+1 < cLine)(I:Inv X pins σ H s)(g:bQ H a y v H')(ry:RelV y u)(rv:RelV v r)(h:∀ s',Inv X pins σ H' s'->Q () s') :
  wpAny (model X.prog X.w) A (setItem (.ref a) u r) Q E s:=by
 rcases g with ⟨kvs,k,e,ey,l,eH⟩ | ⟨kvs,k,b,e,ey,eb,l,eH⟩
 ·subst ey eH;obtain⟨z,hd,vs,rel,dd⟩:=qI I.aE e;have hz:vs.length<=sizeLine:=by rw [<- rel.length];exact z
  have hl:(putK kvs k v).length<=sizeLine:=by have:=fq kvs k v;omega
  refine wpAny_setItem_pairs (hsz:=hz) (ko ry) dd λh' g9 hs=>h _ ?_;have he:∃ q,h'.get? a=some q:=let ⟨q,_,_,hq,_⟩:=g9;⟨q,hq⟩
  exact kq I (by rw [e];exact True.intro) hs he<|xC hl hd (rel.put k rv) g9
 ·subst ey eH;cases (show u=Value.ref b from ry);obtain⟨z,hd,xs,rel,dd⟩:=Hg I.aE e;have hz:xs.length<=sizeLine:=by rw [<- Paired.length rel];exact z
  have hl:(putK kvs k v).length<=sizeLine:=by have:=fq kvs k v;omega
  refine wpAny_setItem_heap (hsz:=hz) (HW hu) (oH I.aE eb) dd λh' g9 hs=>h _ ?_;obtain⟨q,es,ep,hq,h2,h3,h4,_,h5⟩:=g9;refine kq I (by rw [e];exact True.intro) hs ⟨q,hq⟩ ⟨hl,hd,_,(rel.put k eb rv).keeps λc ys ec=>?_,q,es,ep,hq,h2,h3,h4,h5⟩;rw [aw<|bW ec e λz=>nomatch z];exact ec
end
section
variable{X:Cx}{pins:List (Addr×Obj)}{σ:St}{H:Hp}{s:Shared}{a:Addr}{kvs:List (Key×V)}{k:Key}{u:Value}{A:Around}{E:Value->Shared->Prop}
end
def mh(i:Expr):Prop:=∀ ov iv,subscripted i false ov iv=operate [ov,iv] (getItem ov iv)
theorem Rb{prog:Program}{w:World}{A:Around}{E:Value->Shared->Prop}{s:Shared}{env:Env}{value slice:Expr}{pos:Pos}{T id:String}{Q:Value->Shared->Prop}
  (hl:typeLookup (.type T) "__getitem__" = pure (some<|.builtin id)) (hs:mh slice)
  (h:wpAny (model prog w) A (eval value env) (λo s₁=>wpAny (model prog w) A (eval slice env) (λi s₂=>s₂.TypeIs o T/\wpAny (model prog w) A (getItem o i) Q E s₂) E s₁) E s) :
  wpAny (model prog w) A (eval (.Subscript value slice pos) env) Q E s:=by
 refine Subscript_<|CK h (λo s₁ h₁=>CK h₁ (λi s₂ h₂=>?_) λ_ _ x=>x) λ_ _ x=>x;obtain⟨hT,h₂⟩:=h₂;unfold subscriptTail;refine BK ?_;rw [getitemInPython_of_ne hT.not_modules];refine BK<|wpAny_specialOf hT hl ?_;have fin:wpAny (model prog w) A (subscripted slice false o i) (λr s₃=>wpAny (model prog w) A (letTemporaryGo value o r >>= λ_=>pure r) Q E s₃) E s₂:=by
  rw [hs o i];exact wpAny_operating<|CK h₂ (λr s₃ h₃=>BK<|wpAny_letTemporaryGo<|BP h₃) λ_ _ x=>x
 first
  | exact BP<|BK fin
  | exact BK<|BP<|BK fin
  | exact BK fin
theorem Rc{X:Cx}{pins:List (Addr×Obj)}{σ:St}{H:Hp}{s:Shared}{a:Addr}{y:V}{o:Option V}(I:Inv X pins σ H s)(g:aZ H a y o):s.TypeIs (.ref a) "dict":=by
 rcases g with ⟨kvs,k,e,_,_⟩ | ⟨kvs,k,b,e,_,_,_⟩
 ·obtain⟨_,_,vs,_,dd⟩:=qH I.aE e;exact dd.typeIs
 ·obtain⟨_,_,xs,_,dd⟩:=qJ I.aE e;exact dd.typeIs
def Rf(td ty:TE):TE:=λσ H Q=>td σ H λx H1=>ty σ H1 λy H2=>∃ a v,x = .ref a/\aZ H2 a y (some v)/\Q v H2
def xD(ty td:TE):TE:=λσ H Q=>ty σ H λy H1=>td σ H1 λx H2=>∃ a o,x = .ref a/\aZ H2 a y o/\Q (.bl o.isSome) H2
def Rg(ty td:TE):TE:=λσ H Q=>ty σ H λy H1=>td σ H1 λx H2=>∃ a o,x = .ref a/\aZ H2 a y o/\Q (.bl (!o.isSome)) H2
def Rh(td ty tv:TE):TS:=λD σ H=>tv σ H λv H1=>td σ H1 λx H2=>ty σ H2 λy H3=>∃ a H4,x = .ref a/\bQ H3 a y v H4/\D.nx σ H4
section
variable{X:Cx}{o i e value:Expr}{pos pos' ip:Pos}{td ty tv:TE}
theorem Ri(hu:X.A.units+1 < cLine)(ho:PE X o td)(hi:PE X i ty)(hs:mh i):PE X (.Subscript o i pos) (Rf td ty):=by
 intro pins s σ H Q I h;refine Rb PySem.F.slot_dict_getitem.lookup hs<|aH (ho pins s σ H _ I h) λu s1 ⟨x,H1,I1,rx,q1⟩=>aH (hi pins s1 σ H1 _ I1 q1) λiv s2 ⟨y,H2,I2,ry,a,v,ex,g,q2⟩=>?_;subst ex;obtain rfl:u=Value.ref a:=rx;exact⟨Rc I2 g,Q8 hu I2 g ry λw' s3 I3 dH=>⟨v,H2,I3,dH,q2⟩⟩
theorem Rj(hu:X.A.units+1 < cLine)(hi:PE X i ty)(ho:PE X o td):PC X .In i o (xD ty td):=by
 intro pins s σ H Q I h;refine aH (hi pins s σ H _ I h) λiv s1 ⟨y,H1,I1,ry,q1⟩=>aH (ho pins s1 σ H1 _ I1 q1) λu s2 ⟨x,H2,I2,rx,a,ov,ex,g,q2⟩=>?_;subst ex;obtain rfl:u=Value.ref a:=rx;exact xB hu I2 g ry λs3 I3=>⟨.bl ov.isSome,H2,I3,rfl,q2⟩
theorem Rk(hu:X.A.units+1 < cLine)(hi:PE X i ty)(ho:PE X o td):PC X .NotIn i o (Rg ty td):=by
 intro pins s σ H Q I h;refine aH (hi pins s σ H _ I h) λiv s1 ⟨y,H1,I1,ry,q1⟩=>aH (ho pins s1 σ H1 _ I1 q1) λu s2 ⟨x,H2,I2,rx,a,ov,ex,g,q2⟩=>?_;subst ex;obtain rfl:u=Value.ref a:=rx;exact Q9 hu I2 g ry λs3 I3=>⟨.bl (!ov.isSome),H2,I3,rfl,q2⟩
theorem Rl(hu:X.A.units+1 < cLine)(ho:PE X o td)(hi:PE X i ty)(hv:PE X value tv)(hs:swapsWith value (some<|.Subscript o i pos') pos.line X.env=pure false) :
  PS X (.Assign [.Subscript o i pos'] value pos) (Rh td ty tv):=by
 intro pins s σ H D I h;refine wpAny_Assign_Subscript (aH (hv pins s σ H _ I h) λr s1 ⟨v,H1,I1,rv,q1⟩=>aH (ho pins s1 σ H1 _ I1 q1) λu s2 ⟨x,H2,I2,rx,q2⟩=>aH (hi pins s2 σ H2 _ I2 q2) λiv s3 ⟨y,H3,I3,ry,a,H4,ex,g,q3⟩=>?_) hs;subst ex;obtain rfl:u=Value.ref a:=rx;exact Ra hu I3 g ry rv λs4 I4=>⟨σ,H4,I4,q3⟩
end
theorem Hh{P:Program}{w:World}{H:Hp}(h:Heap)(hb:sysModules < h.objs.size):ay P w H (h.push {cls:= .type "dict",data:= .dict #[]}) h.objs.size (.dK []):=
 ⟨Bo _,beq_eq_false_iff_ne.mpr<|CG<|Bz hb,[],.nil,Heap.DictOf.new h⟩
theorem xE{P:Program}{w:World}{H:Hp}(h:Heap)(hb:sysModules < h.objs.size):ay P w H (h.push {cls:= .type "dict",data:= .dict #[]}) h.objs.size (.dT []):=
 ⟨Bo _,beq_eq_false_iff_ne.mpr<|CG<|Bz hb,[],.nil,_,#[],0,Bb _ rfl,⟨rfl,rfl,rfl⟩,rfl,rfl,Cf⟩
def Rm:TE:=λ_ H Q=>∀ p,H p=none->Q (.ref p) (upd H p<|.dK [])
def Rn:TE:=λ_ H Q=>∀ p,H p=none->Q (.ref p) (upd H p<|.dT [])
section
variable{X:Cx}{pos:Pos}
theorem Ro:PE X (.Dict [] [] pos) Rm:=λpins s σ H Q I h=>
 wpAny_Dict_empty ⟨.ref s.heap.objs.size,_,I.laid (a:=s.heap.objs.size) (o:= .dK []) (t':=s.toks) (λ_ _ q=>Ak _ q) (Al _)<|Hh s.heap I.big,rfl,h _<|I.aE.fresh<|Al _⟩
theorem Rp:PE X (.Dict [] [] pos) Rn:=λpins s σ H Q I h=>
 wpAny_Dict_empty ⟨.ref s.heap.objs.size,_,I.laid (a:=s.heap.objs.size) (o:= .dT []) (t':=s.toks) (λ_ _ q=>Ak _ q) (Al _)<|xE s.heap I.big,rfl,h _<|I.aE.fresh<|Al _⟩
end
section
variable{X:Cx}{pins:List (Addr×Obj)}{σ:St}{H:Hp}{s:Shared}{a:Addr}{y d:V}{u r:Value}{o:Option V}{A:Around}{E:Value->Shared->Prop}
end
section
variable{X:Cx}{o e f:Expr}{apos dX:Pos}{td ty tx:TE}
end
section
variable{X:Cx}{pins:List (Addr×Obj)}{σ:St}{H:Hp}{s:Shared}{a:Addr}{kvs:List (Key×V)}{A:Around}{E:Value->Shared->Prop}
end
section
variable{X:Cx}{pins:List (Addr×Obj)}{σ:St}{H:Hp}{s:Shared}{a:Addr}{y:V}{u:Value}{A:Around}{E:Value->Shared->Prop}
end
section
variable{X:Cx}
end
section
variable{κ:Type} [DecidableEq κ]
theorem xF{kvs:List (κ×V)}{k:κ}{v:V}(h:aB kvs k=some v):k∈kvs.map (·.1):=by
 have q:(kvs.any λkv=>decide (kv.1=k))=true:=by
  rw [oG,h]
  all_goals rfl
 obtain⟨p,hp,e⟩:=List.any_eq_true.mp q;exact Aj.mpr ⟨p,hp,BX e⟩
theorem ku:∀{l:List κ} {k:κ},l.Nodup->¬ k∈l->(l++[k]).Nodup
 | [],k,_,_=>by simp
 | a :: r,k,h,hk=>by
  obtain⟨h1,h2⟩:=Bd.mp h;show(a :: (r++[k])).Nodup;refine Bd.mpr ⟨λm=>?_,ku h2 λm=>hk<|Ai.mpr<|Or.inr m⟩
  rcases Aq.mp m with q | q
  ·exact h1 q
  ·exact hk<|Ai.mpr<|Or.inl (Am.mp q).symm
end
section
variable{X:Cx}{tg:Expr}
end
theorem Hi{env:Env}:∀{names:List (Str×NameKind)} {x:Str} {k':NameKind},
  (names.map λ(n,k)=>if(k == NameKind.free && env.scope.kind == .function && env.kindOf n == some .cell) then(n,NameKind.cell) else(n,k)).lookup x=some k' ->
  ∃ k,names.lookup x=some k/\(k'=k\/(k = .free/\k' = .cell))
 | [],_,_,h=>by simp at h
 | (n,k) :: r,x,k',h=>by
  have ih:=@Hi env r x k'
  change List.lookup x ((if(k == NameKind.free && env.scope.kind == .function && env.kindOf n == some .cell)=true then(n,NameKind.cell) else(n,k)) :: _)=_ at h
  cases hx:x == n with
  | true=>
   by_cases hc:(k == NameKind.free && env.scope.kind == .function && env.kindOf n == some .cell)=true
   ·rw [BL hc] at h;simp only [Dj,hx] at h;cases h;have hk:k = .free:=by
     have:=(Cs _ _ ▸ (Cs _ _ ▸ hc).1).1;cases k <;> first | rfl | (exact absurd this<|by decide)
    exact⟨k,by simp [Dj,hx],.inr ⟨hk,rfl⟩⟩
   ·rw [BJ hc] at h;simp only [Dj,hx] at h;cases h;exact⟨k,by simp [Dj,hx],.inl rfl⟩
  | false=>
   have h2:∃ k,r.lookup x=some k/\(k'=k\/(k = .free/\k' = .cell)):=by
    by_cases hc:(k == NameKind.free && env.scope.kind == .function && env.kindOf n == some .cell)=true
    ·rw [BL hc] at h;simp only [Dj,hx] at h;exact ih h
    ·rw [BJ hc] at h;simp only [Dj,hx] at h;exact ih h
   obtain⟨k2,e2,r2⟩:=h2;exact⟨k2,by simp [Dj,hx,e2],r2⟩
def ce(names:List<|Str×NameKind)(cells:List<|Str×Addr)(acc:List<|Str×Addr):List (Str×Addr):=
 names.foldl (λa x=>if x.2 == .free then(match cells.lookup x.1 with | some c=>(x.1,c) :: a | none=>a) else a) acc
theorem xG{scope:Scope}{env:Env}(h:∀ x∈scope.names,x.2 = .free->∃ c,env.cells.lookup x.1=some c):closureFor scope env=pure (ce scope.names env.cells []):=by
 have all:∀(l:List<|Str×NameKind) (acc:List<|Str×Addr),(∀ x∈l,x.2 = .free->∃ c,env.cells.lookup x.1=some c) ->
   (forIn l acc λ(x:Str×NameKind) (cs:List<|Str×Addr)=>(if x.2 == .free then(do let c <- cellOf env x.1;pure (ForInStep.yield<|(x.1,c) :: cs)) else pure (ForInStep.yield cs):Sem _))=pure (ce l env.cells acc):=by
  intro l
  induction l with
  | nil=>intro acc _;rfl
  | cons x r ih=>
   intro acc hl;rw [MP];have hr:∀ y∈r,y.2 = .free->∃ c,env.cells.lookup y.1=some c:=λy hy=>hl y<|Ae _ hy;cases hk:x.2 == .free with
   | true=>
    have mq:x.2 = .free:=by
     revert hk
     cases x.2 <;> intro hk <;> first | rfl | (exact absurd hk<|by decide)
    obtain⟨c,hc⟩:=hl x Ad mq;simp only [CT,cellOf,hc];rw [show ce (x :: r) env.cells acc=ce r env.cells ((x.1,c) :: acc) by unfold ce;rw [Eb];simp [hk,hc]];exact ih _ hr
   | false=>
    simp only [Cj,CV];rw [show ce (x :: r) env.cells acc=ce r env.cells acc by unfold ce;rw [Eb];simp [hk]];exact ih _ hr
 have q:=all scope.names [] h;simp only [closureFor];exact(BZ (· >>= λr=>pure r) q).trans rfl
theorem xH:∀(names:List<|Str×NameKind) (cells acc:List<|Str×Addr),(∀ x c,(x,c)∈acc->cells.lookup x=some c)->∀ x c,(x,c)∈ce names cells acc->cells.lookup x=some c
 | [],_,_,h=>h
 | y :: r,cells,acc,h=>by
  have e:ce (y :: r) cells acc=ce r cells (if y.2 == .free then(match cells.lookup y.1 with | some c=>(y.1,c) :: acc | none=>acc) else acc):=rfl;rw [e];refine xH r cells _ ?_;cases hk:y.2 == .free with
  | false=>simpa using h
  | true=>
   cases hc:cells.lookup y.1 with
   | none=>simpa using h
   | some c=>
    intro x d hx;simp only [CT] at hx
    rcases Ai.mp hx with e | hx
    ·cases e;exact hc
    ·exact h x d hx
theorem Hj:∀(names:List<|Str×NameKind) (cells acc:List<|Str×Addr) (x:Str) (c:Addr),(x,c)∈acc->(x,c)∈ce names cells acc
 | [],_,_,_,_,h=>h
 | y :: r,cells,acc,x,c,h=>by
  have e:ce (y :: r) cells acc=ce r cells (if y.2 == .free then(match cells.lookup y.1 with | some c=>(y.1,c) :: acc | none=>acc) else acc):=rfl;rw [e];refine Hj r cells _ x c ?_;cases hk:y.2 == .free with
  | false=>simpa using h
  | true=>
   cases hc:cells.lookup y.1 with
   | none=>simpa using h
   | some d=>simp only [CT];exact Ae _ h
theorem xI:∀(names:List<|Str×NameKind) (cells acc:List<|Str×Addr) (x:Str) (c:Addr),(x,NameKind.free)∈names->cells.lookup x=some c->(x,c)∈ce names cells acc
 | [],_,_,_,_,h,_=>by cases h
 | y :: r,cells,acc,x,c,h,hc=>by
  have e:ce (y :: r) cells acc=ce r cells (if y.2 == .free then(match cells.lookup y.1 with | some c=>(y.1,c) :: acc | none=>acc) else acc):=rfl;rw [e]
  rcases Ai.mp h with e2 | h
  ·subst e2;refine Hj r cells _ x c ?_;have:(NameKind.free == NameKind.free)=true:=rfl;simp only [hc,this,CT];exact Ad
  ·exact xI r cells _ x c h hc
theorem xJ{α:Type}:∀{l:List (Str×α)} {x:Str} {c:α},(x,c)∈l->∃ d,l.lookup x=some d
 | [],_,_,h=>by cases h
 | (n,d) :: r,x,c,h=>by
  cases hx:x == n with
  | true=>exact⟨d,by simp [Dj,hx]⟩
  | false=>
   rcases Ai.mp h with e | h
   ·cases e;simp at hx
   ·obtain⟨d',e⟩:=xJ h;exact⟨d',by simp [Dj,hx,e]⟩
section
variable{prog:Program}{w:World}{A:Around}{R:Result->Shared->Prop}{s:Shared}
theorem Z4{elt target iter:Expr}{ifs:List Expr}{scope:Scope}{pos:Pos}{it acc:Value}{env:Env}(I:Nat->Shared->Prop)
  (turn : ∀ n s, I n s → wpAny (model prog w) A (pyNext it) (λr s₁ => match r with
   | none=>R (.ok .next) s₁
   | some v=>wpAny (model prog w) A (letOwnedTupleGo target it v) (λ_ s₁'=>wpAny (model prog w) A (assign target env v) (λ_ s₂=>
     wpAny (model prog w) A (forIn ifs true λc r=>if r=true then do let ok <- isTrue c env<|eval c env;pure (ForInStep.yield ok) else pure (ForInStep.yield r)) (λok s₃=>
      if ok=true then wpAny (model prog w) A (eval elt env) (λx s₄=>
       wpAny (model prog w) A (call (.builtin "list.append") [acc,x]) (λ_ s₅=>∃ m,m < n/\I m s₅) (notedBy (model prog w) A env λe s'=>R (.error e) s') s₄) (notedBy (model prog w) A env λe s'=>R (.error e) s') s₃
      else ∃ m,m < n/\I m s₃) (notedBy (model prog w) A env λe s'=>R (.error e) s') s₂) (notedBy (model prog w) A env λe s'=>R (.error e) s') s₁') (notedBy (model prog w) A env λe s'=>R (.error e) s') s₁) (notedBy (model prog w) A env λe s'=>R (.error e) s') s)
  (n:Nat) (h:I n s) :
  codeAny (model prog w) A (.compLoop (.ListComp elt [⟨target,iter,ifs,0⟩] scope pos) 0 it acc env) R s:=by
 refine codeAny_loop rfl I (λn s hI=>?_) n h;show wpAny _ A ((compTurn (.ListComp elt [⟨target,iter,ifs,0⟩] scope pos) 0 it acc env).onRaise λx=>do noteFrame x env;theTreesLotGoes x) _ _ s;refine wpAny_noted ?_;rw [compTurn_list];refine BK<|FQ<|BK<|CK (turn n s hI) (λr s₁ h₁=>?_) λ_ _ h'=>h';cases r with
 | none=>exact BP h₁
 | some v=>
  refine BK<|CK h₁ (λ_ s₁' h₁'=>?_) λ_ _ h'=>h';refine BK<|CK h₁' (λ_ s₂ h₂=>BK<|CK h₂ (λok s₃ h₃=>?_) λ_ _ h'=>h') λ_ _ h'=>h';cases ok with
  | false=>exact BP ⟨rfl,h₃⟩
  | true=>
   exact BK<|BK<|CK h₃ (λx s₄ h₄=>BK<|CK h₄ (λ_ s₅ h₅=>BP<|BP ⟨rfl,h₅⟩) λ_ _ h'=>h') λ_ _ h'=>h'
end
def Rq(X:Cx)(ifs:List Expr)(t:TT):Prop:=
 ∀(pins:List<|Addr×Obj) (s:Shared) (σ:St) (H:Hp) (Q:Bool->Hp->Prop),Inv X pins σ H s->t σ H Q ->
  wpAny (model X.prog X.w) X.A (forIn ifs true λc r=>if r=true then do let ok <- isTrue c X.env<|eval c X.env;pure (ForInStep.yield ok) else pure (ForInStep.yield r)) (TP X pins σ Q) X.xe s
def xK:TT:=λ_ H Q=>Q true H
theorem Rr{X:Cx}:Rq X [] xK:=λ_ _ _ H _ I h=>wpAny_tests_nil ⟨H,I,h⟩
def eV(X:Cx)(N':List Str)(scope:Scope)(cl:List<|Str×Addr)(C:Addr)(s₀:Shared)(H₀:Hp)(ex:List Addr):Cx:=
 {prog:=X.prog,w:=X.w,K:=X.K,mg:=X.mg,base:=X.base,A:=X.A,N:=N',s₀:=s₀,H₀:=H₀,env:=compEnvC scope cl C X.env,outer:=X.stack,stack:=X.stack,ex:=ex,fn:=λx=>match scope.names.lookup x with | some .cell=>true | _=>false,calm:=X.calm,pn:=[],xe:=λ_ _=>False}
theorem gN{α:Type}{t:Sem α}{Q Q':α->Shared->Prop}{M:Model}{A:Around}{E:Value->Shared->Prop}{s:Shared}(h:wpAny M A t Q (λ_ _=>False) s)(hQ:∀ a s,Q a s->Q' a s):wpAny M A t Q' E s:=CK h hQ λ_ _ z=>z.elim
section
variable{X:Cx}
theorem xL:gJ X (.builtin "isinstance") (λxs H Q=>∃ x t T b,xs=[x,.ty T]/\cH X.K H x t/\PySem.W.kitOne X.K t (.type T)=some b/\Q (.bl b) H):=by
 intro pins s σ H xs us Q I r h;obtain⟨x,t,T,b,rfl,ty,e,q⟩:=h;obtain⟨u,w',rfl,ru,dH⟩:=vals2 r;cases (show w'=Value.type T from dH);exact Qb I ru ty e λtk=>⟨.bl b,H,I.tok tk,rfl,q⟩
theorem Rt:cR X (binaryOp .Mult) (λx y H Q=>∃ z i,x = .str z/\y = .int i/\0<=i/\i<=100000/\z.length * i.toNat<=100000/\Q (.str<|Txt.mul z i) H):=by
 intro pins s σ H x y v u Q I rx ry h;obtain⟨z,i,rfl,rfl,h0,h1,h2,q⟩:=h;obtain⟨t,rfl⟩:=rx;obtain⟨t',rfl⟩:=ry;have hsz:sizeLine=16777216:=DG;refine SB.mul ⟨?_,λh3 h4=>?_,λh3 h4=>?_⟩ λt' k=>⟨.str _,H,I.tok k,⟨_,rfl⟩,q⟩
 ·rw [BR (by omega),BR<|by omega];rfl
 ·have h5:(z.length:Int)<=100000:=by
   have h6:z.length * 1<=z.length * i.toNat:=Nat.mul_le_mul_left _ (by omega);omega
  have h7:(100000:Int)<=(2 ^ 63 - 1) / i:=by
   rw [Int.le_ediv_iff_mul_le<|by omega];have:(100000:Int) * i<=100000 * 100000:=Int.mul_le_mul_of_nonneg_left h1 (by decide);have e:(2:Int) ^ 63 - 1=9223372036854775807:=by decide
   omega
  omega
 ·unfold Builtin.Str.tooLong;rw [hsz];exact BR<|by omega
end
def isStar:Expr->Bool
 | .Starred _ _=>true
 | _=>false
def noStar(es:List Expr):Bool:=es.all λe=>!isStar e
theorem jG(e:Expr)(es:List Expr)(env:Env)(h:isStar e=false):starEach (e :: es) env=(false,eval e env) :: starEach es env:=by
 cases e <;> first | rfl | (exact absurd h<|by simp [isStar])
theorem t9(pos:Pos)(env:Env):∀ es:List Expr,noStar es=true->(backTo pos<|starEach es env).any (·.1)=false
 | [],_=>rfl
 | e :: es,h=>by
  have h':(!isStar e)=true/\noStar es=true:=by
   have:=h;unfold noStar at this ⊢;rw [List.all_cons,Cs] at this;exact this
  have hs:isStar e=false:=by
   have:=h'.1;cases q:isStar e with
   | true=>rw [q] at this;cases this
   | false=>rfl
  rw [jG e es env hs];show(false || (backTo pos<|starEach es env).any (·.1))=false;rw [t9 pos env es h'.2];rfl
theorem oI{e:Expr}{es:List Expr}(h:noStar (e :: es)=true):isStar e=false/\noStar es=true:=by
 unfold noStar at h ⊢;rw [List.all_cons,Cs] at h;refine⟨?_,h.2⟩;cases q:isStar e with
 | true=>rw [q] at h;cases h.1
 | false=>rfl
section
variable{X:Cx}{CX:fE}{k:Nat}{f C:Addr}{fd:FuncData}{ps:List Str}{sp:Sp}{jz:List V}{ds:List Value}{E:XK}{x m:Str}{p pos apos:Pos}{e o:Expr}{es:List Expr}{ta te:TE}{t:TA}{id T:String}{r:List V->Hp->VK->Prop}
theorem Ru(ha:PE X e te)(hr:PA X es t)(hs:isStar e=false:=by rfl):PA X (e :: es) (Gp te t):=Qd ha hr<|jG _ _ _ hs
theorem Rv(F:aI X.prog X.w X.K X.mg X.base CX k f fd ps sp)(hr:bx k X.A)(hm:X.mg x=some (.ref f))(hk:PySem.W.keepIn X.K (.ref f)=true)(hb:Binds X.K fd ps [])(hx:qo CX X E)
  (ha:PA X (e :: es) t) (hg:Gl X x:=by rfl) (dU:(x == ("__debug__" : Str))=false:=by decide) (hs:noStar (e :: es)=true:=by rfl):PE X (.Call (.Name x p) (e :: es) [] pos) (Gq sp [] E t):=
 Qi F hr hg hm hk hb .nil hx ha dU (jG _ _ _ (oI hs).1) (t9 _ _ _ (oI hs).2)
theorem xM(hc:gJ X (.builtin id) r)(hm:X.mg x=none)(hv:bootBuiltins x=some (.builtin id))(ha:PA X (e :: es) t)(hg:Gl X x:=by rfl)(hn:x ≠ "__name__":=by decide)(dU:(x == ("__debug__" : Str))=false:=by decide)
  (hs:noStar (e :: es)=true:=by rfl):PE X (.Call (.Name x p) (e :: es) [] pos) (tX r t):=
 Qm hc hg hm hv ha hn dU (jG _ _ _ (oI hs).1) (t9 _ _ _ (oI hs).2)
theorem xN(hc:gJ X (.type T) r)(hm:X.mg x=none)(hv:bootBuiltins x=some (.type T))(ha:PA X (e :: es) t)(hg:Gl X x:=by rfl)(hn:x ≠ "__name__":=by decide)(dU:(x == ("__debug__" : Str))=false:=by decide)
  (hs:noStar (e :: es)=true:=by rfl):PE X (.Call (.Name x p) (e :: es) [] pos) (tX r t):=
 Qn hc hg hm hv ha hn dU (jG _ _ _ (oI hs).1) (t9 _ _ _ (oI hs).2)
end
structure Ev(X:Cx)(e:Expr)(σ:St)(H:Hp)(Q:VK):Prop where
 run:∀(pins:List<|Addr×Obj) (s:Shared),Inv X pins σ H s->wpAny (model X.prog X.w) X.A (eval e X.env) (EP X pins σ Q) X.xe s
structure Et(X:Cx)(e:Expr)(σ:St)(H:Hp)(Q:Bool->Hp->Prop):Prop where
 run:∀(pins:List<|Addr×Obj) (s:Shared),Inv X pins σ H s->wpAny (model X.prog X.w) X.A (isTrue e X.env<|eval e X.env) (TP X pins σ Q) X.xe s
structure Ew(X:Cx)(e:Expr)(σ:St)(H:Hp)(Q:Bool->Hp->Prop):Prop where
 run:∀(whole:Sem Value) (pins:List<|Addr×Obj) (s:Shared),Inv X pins σ H s->wpAny (model X.prog X.w) X.A (isTrue e X.env whole) (TP X pins σ Q) X.xe s
structure Ea(X:Cx)(es:List Expr)(σ:St)(H:Hp)(Q:List V->Hp->Prop):Prop where
 run:∀(pos:Pos) (pins:List<|Addr×Obj) (s:Shared),Inv X pins σ H s->wpAny (model X.prog X.w) X.A (spliced<|backTo pos<|starEach es X.env) (AP X pins σ Q) X.xe s
structure Eo(X:Cx)(e:Option Expr)(σ:St)(H:Hp)(Q:Option Int->Hp->Prop):Prop where
 run:∀(pins:List<|Addr×Obj) (s:Shared),Inv X pins σ H s->wpAny (model X.prog X.w) X.A (evalPart e X.env) (λu s'=>∃ o H',Inv X pins σ H' s'/\IsPart u o/\Q o H') X.xe s
structure Eg(X:Cx)(e:Expr)(v:V)(σ:St)(H:Hp)(Q:St->Hp->Prop):Prop where
 run:∀(pins:List<|Addr×Obj) (s:Shared) (u:Value),Inv X pins σ H s->RelV v u->wpAny (model X.prog X.w) X.A (assign e X.env u) (λ_ s'=>∃ σ' H',Inv X pins σ' H' s'/\Q σ' H') X.xe s
structure Run(X:Cx)(l:List Stmt)(D:Ends)(σ:St)(H:Hp):Prop where
 run:∀(pins:List<|Addr×Obj) (s:Shared),Inv X pins σ H s->wpAny (model X.prog X.w) X.A (execs l X.env) (SP X pins D) X.xe s
def Rw(X:Cx)(e:Expr):TE:=λσ H Q=>Ev X e σ H Q
def Rx(X:Cx)(e:Expr):TT:=λσ H Q=>Et X e σ H Q
def Ry(X:Cx)(e:Expr):TT:=λσ H Q=>Ew X e σ H Q
def oJ(X:Cx)(es:List Expr):TA:=λσ H Q=>Ea X es σ H Q
def Rz(X:Cx)(e:Option Expr):TO:=λσ H Q=>Eo X e σ H Q
def RA(X:Cx)(e:Expr):TG:=λv σ H Q=>Eg X e v σ H Q
def xO(X:Cx)(l:List Stmt):TS:=λD σ H=>Run X l D σ H
section
variable{X:Cx}{e a b c o:Expr}{es:List Expr}{st:Stmt}{rest body i7:List Stmt}{σ:St}{H:Hp}{Q:VK}{T:Bool->Hp->Prop}{L:List V->Hp->Prop}{D:Ends}{pos p p2:Pos}
theorem bw:PE X e (Rw X e):=λpins s _ _ _ I h=>h.run pins s I
theorem mr:PT X e (Rx X e):=λpins s _ _ _ I h=>h.run pins s I
theorem Hk:PW X e (Ry X e):=λwh pins s _ _ _ I h=>h.run wh pins s I
theorem fH:PA X es (oJ X es):=λpos pins s _ _ _ I h=>h.run pos pins s I
theorem Hl{e:Option Expr}:PO X e (Rz X e):=λpins s _ _ _ I h=>h.run pins s I
theorem mv:PG X e (RA X e):=λpins s _ _ _ u _ I r h=>h.run pins s u I r
theorem oK{l:List Stmt}:gG X l (xO X l):=λpins s _ _ _ I h=>h.run pins s I
theorem c6{t:TE}(h1:PE X e t)(h2:t σ H Q):Ev X e σ H Q:=⟨λpins s I=>h1 pins s σ H Q I h2⟩
theorem oM{t:TT}(h1:PT X e t)(h2:t σ H T):Et X e σ H T:=⟨λpins s I=>h1 pins s σ H T I h2⟩
theorem ua{t:TT}(h1:PW X e t)(h2:t σ H T):Ew X e σ H T:=⟨λwh pins s I=>h1 wh pins s σ H T I h2⟩
theorem Hm{t:TA}(h1:PA X es t)(h2:t σ H L):Ea X es σ H L:=⟨λpos pins s I=>h1 pos pins s σ H L I h2⟩
theorem Hn{e:Option Expr}{t:TO}{R:Option Int->Hp->Prop}(h1:PO X e t)(h2:t σ H R):Eo X e σ H R:=⟨λpins s I=>h1 pins s σ H R I h2⟩
theorem xP{t:TG}{v:V}{R:St->Hp->Prop}(h1:PG X e t)(h2:t v σ H R):Eg X e v σ H R:=⟨λpins s u I r=>h1 pins s σ H v u R I r h2⟩
theorem iw{t:TS}(h1:PS X st t)(h2:t {D with nx:=λσ' H'=>Run X rest D σ' H'} σ H):Run X (st :: rest) D σ H:=⟨λpins s I=>O4 h1 oK pins s σ H D I h2⟩
theorem bg(h:D.nx σ H):Run X [] D σ H:=⟨λpins s I=>O3 pins s σ H D I h⟩
theorem Ev.mono{Q':VK}(h:Ev X e σ H Q)(f:∀ v H',Q v H'->Q' v H'):Ev X e σ H Q':=⟨λpins s I=>aH (h.run pins s I) λ_ _ ⟨v,H',I',r,q⟩=>⟨v,H',I',r,f v H' q⟩⟩
theorem Et.mono{T':Bool->Hp->Prop}(h:Et X e σ H T)(f:∀ v H',T v H'->T' v H'):Et X e σ H T':=⟨λpins s I=>aH (h.run pins s I) λv _ ⟨H',I',q⟩=>⟨H',I',f v H' q⟩⟩
theorem Ea.mono{L':List V->Hp->Prop}(h:Ea X es σ H L)(f:∀ v H',L v H'->L' v H'):Ea X es σ H L':=⟨λpos pins s I=>aH (h.run pos pins s I) λ_ _ ⟨v,H',I',r,q⟩=>⟨v,H',I',r,f v H' q⟩⟩
theorem ae(i:Nat){x:Str}{v:V}(h:Q v H)(hv:σ[i]?=some (some v):=by rfl)(hN:X.N[i]?=some x:=by rfl)(hs:tM X.env.scope x:=by first | exact Or.inl rfl | exact Or.inr (Or.inl rfl) | exact Or.inr<|Or.inr rfl)(hd:(x == ("__debug__" : Str))=false:=by decide)
  (g7:(x == ("__classdict__" : Str))=false:=by decide):Ev X (.Name x p) σ H Q:=c6 (OC (i:=i) hN hs hd g7) ⟨v,hv,h⟩
theorem aA{i:Int}{j:Nat}(h:Q (.int i) H):Ev X (.Constant (.int i) j p) σ H Q:=c6 (OG) h
theorem Ho{i:Bool}{j:Nat}(h:Q (.bl i) H):Ev X (.Constant (.bool i) j p) σ H Q:=c6 (OH) h
theorem Hq{i:Str}{j:Nat}(h:Q (.str i) H):Ev X (.Constant (.str i) j p) σ H Q:=c6 (OI) h
theorem xQ{x:Str}(v:V){u:Value}(hm:X.mg x=none)(hv:bootBuiltins x=some u)(r:RelV v u)(h:Q v H)(hg:Gl X x:=by rfl)(hn:x ≠ "__name__":=by decide)(hd:(x == ("__debug__" : Str))=false:=by decide):Ev X (.Name x p) σ H Q:=c6 (OM hg hm hv r hn hd) h
theorem aS{op:Operator}{r:R2}(ho:cR X (binaryOp op) r)(h:Ev X a σ H λx H1=>Ev X b σ H1 λy H2=>r x y H2 Q):Ev X (.BinOp a op b pos) σ H Q:=c6 (PR ho bw bw) h
theorem mw{op:UnaryOp}{r:V->Hp->VK->Prop}(ho:tU X (unaryOp op) r)(h:Ev X a σ H λx H1=>r x H1 Q):Ev X (.UnaryOp op a pos) σ H Q:=c6 (PU ho bw) h
theorem qK{op:CmpOp}{r:R2}(ho:cR X (compareOp op) r)(h:Ev X a σ H λx H1=>Ev X b σ H1 λy H2=>r x y H2 Q)(hm:behindInMarks op b=false:=by with_unfolding_all rfl):Ev X (.Compare a [op] [b] pos) σ H Q:=c6 (P2 ho bw bw hm) h
theorem RC(h:Ev X a σ H λx H1=>∃ k,x = .bl k/\Q (.bl (!k)) H1):Ev X (.UnaryOp .Not a pos) σ H Q:=c6 (O1 bw) h
theorem RE(h:Ev X a σ H λx H1=>∃ k,x = .bl k/\if k=true then Ev X (.BoolOp .And (b :: es) pos) σ H1 Q else Q (.bl false) H1):Ev X (.BoolOp .And (a :: b :: es) pos) σ H Q:=c6 (O0 bw bw) h
theorem RF{op:BoolOp}(h:Ev X a σ H Q):Ev X (.BoolOp op [a] pos) σ H Q:=c6 (OZ bw) h
theorem a8{r:R2}(hr:qv X r)(h:Ev X a σ H λx H1=>Ev X b σ H1 λy H2=>r x y H2 Q)(hs:Gz b:=by intro _ _;rfl):Ev X (.Subscript a b pos) σ H Q:=c6 (Qw hr bw bw hs) h
theorem ub{r:V->Option Int->Option Int->Hp->VK->Prop}{lo hi:Option Expr}(hr:xj X r)(h:Ev X a σ H λx H1=>Eo X lo σ H1 λl H2=>Eo X hi σ H2 λu H3=>r x l u H3 Q):Ev X (.Subscript a (.Slice lo hi none p2) pos) σ H Q:=c6 (Qt hr bw Hl Hl) h
theorem uc{R:Option Int->Hp->Prop}(h:R none H):Eo X none σ H R:=Hn (Qq) h
theorem ud{R:Option Int->Hp->Prop}(h:Ev X a σ H λx H1=>∃ i,x = .int i/\R (some i) H1):Eo X (some a) σ H R:=Hn (Qr bw) h
theorem aD(h:L [] H):Ea X [] σ H L:=Hm (Qc) h
theorem ai(h:Ev X e σ H λx H1=>Ea X es σ H1 λxs H2=>L (x :: xs) H2)(hs:isStar e=false:=by rfl):Ea X (e :: es) σ H L:=Hm (Ru bw fH hs) h
theorem eg{k:Nat}(h:Ea X es σ H λxs H1=>xs.length<=sizeLine/\∀ p,H1 p=none->Q (.ref p) (upd H1 p<|.tup xs)):Ev X (.Tuple es k pos) σ H Q:=c6 (Qe fH) h
theorem eW(h:Ea X es σ H λxs H1=>xs.length<=sizeLine/\∀ p,H1 p=none->Q (.ref p) (upd H1 p<|.lst xs)):Ev X (.List es pos) σ H Q:=c6 (Qf fH) h
theorem RH{CX:fE}{k:Nat}{f:Addr}{fd:FuncData}{ps:List Str}{sp:Sp}{E:XK}{x:Str}(F:aI X.prog X.w X.K X.mg X.base CX k f fd ps sp)(hr:bx k X.A)(hm:X.mg x=some (.ref f))(hk:PySem.W.keepIn X.K (.ref f)=true)(hb:Binds X.K fd ps [])(hx:qo CX X E)
  (h:Ea X (e :: es) σ H λvs H1=>sp vs H1 Q E) (hg:Gl X x:=by rfl) (dU:(x == ("__debug__" : Str))=false:=by decide) (hs:noStar (e :: es)=true:=by rfl):Ev X (.Call (.Name x p) (e :: es) [] pos) σ H Q:=
 c6 (Rv F hr hm hk hb hx fH hg dU hs) (show Ea X (e :: es) σ H _ from h.mono λvs H1 q=>by rw [Be];exact q)
theorem cI{id:String}{r:List V->Hp->VK->Prop}{x:Str}(hc:gJ X (.builtin id) r)(hm:X.mg x=none)(hv:bootBuiltins x=some (.builtin id))(h:Ea X (e :: es) σ H λvs H1=>r vs H1 Q)(hg:Gl X x:=by rfl)(hn:x ≠ "__name__":=by decide)(dU:(x == ("__debug__" : Str))=false:=by decide)
  (hs:noStar (e :: es)=true:=by rfl):Ev X (.Call (.Name x p) (e :: es) [] pos) σ H Q:=c6 (xM hc hm hv fH hg hn dU hs) h
theorem qL{T:String}{r:List V->Hp->VK->Prop}{x:Str}(hc:gJ X (.type T) r)(hm:X.mg x=none)(hv:bootBuiltins x=some (.type T))(h:Ea X (e :: es) σ H λvs H1=>r vs H1 Q)(hg:Gl X x:=by rfl)(hn:x ≠ "__name__":=by decide)(dU:(x == ("__debug__" : Str))=false:=by decide)
  (hs:noStar (e :: es)=true:=by rfl):Ev X (.Call (.Name x p) (e :: es) [] pos) σ H Q:=c6 (xN hc hm hv fH hg hn dU hs) h
theorem eB{op:CmpOp}{r:R2}(ho:cR X (compareOp op) r)(h:Ev X a σ H λx H1=>Ev X b σ H1 λy H2=>r x y H2 λz H3=>∃ k,z = .bl k/\T k H3)(hm:behindInMarks op b=false:=by with_unfolding_all rfl):Et X (.Compare a [op] [b] pos) σ H T:=oM (P5 ho bw bw hm) h
theorem Hr(h:Et X a σ H λk H1=>T (!k) H1):Et X (.UnaryOp .Not a pos) σ H T:=oM (OW mr) h
theorem Hs(h:Ev X e σ H λx H1=>∃ k,x = .bl k/\T k H1)(he:∀ whole,isTrue e X.env whole=(do let v <- whole;standAt e.pos;holding [v] (truthy v)):=by intro _;rfl):Et X e σ H T:=oM (OO bw he) h
theorem RJ(h:Ev X e σ H λx H1=>∃ k,lW X.K x H1 k/\T k H1)(he:∀ whole,isTrue e X.env whole=(do let v <- whole;standAt e.pos;holding [v] (truthy v)):=by intro _;rfl):Et X e σ H T:=oM (P8 bw he) h
theorem oN(h:Ew X e σ H T):Et X e σ H T:=⟨λpins s I=>h.run _ pins s I⟩
theorem Ht(h:Et X a σ H λk H1=>if k=true then Ew X (.BoolOp .And (b :: es) pos) σ H1 T else T false H1):Ew X (.BoolOp .And (a :: b :: es) pos) σ H T:=ua (OU mr Hk) h
theorem qM(h:Et X a σ H λk H1=>if k=true then T true H1 else Ew X (.BoolOp .Or (b :: es) pos) σ H1 T):Ew X (.BoolOp .Or (a :: b :: es) pos) σ H T:=ua (OV mr Hk) h
theorem Hu(h:Et X a σ H T):Ew X (.BoolOp .And [a] pos) σ H T:=ua (OS mr) h
theorem xR(h:Et X a σ H T):Ew X (.BoolOp .Or [a] pos) σ H T:=ua (OT mr) h
theorem bz(i:Nat){x:Str}{v:V}{R:St->Hp->Prop}(hN:X.N.Nodup)(h:R (σ.set i<|some v) H)(hi:X.N[i]?=some x:=by rfl)(hx:Loc X.env.scope x:=by first | exact Or.inl rfl | exact Or.inr rfl)(hf:X.fn x=true\/X.env.scope.names.lookup x=some .local:=by first | exact .inl rfl | exact .inr rfl | assumption):Eg X (.Name x p) v σ H R:=xP (O9 hN hi hx hf) h
theorem aQ(i:Nat){x:Str}{pos':Pos}(hN:X.N.Nodup)(h:Ev X e σ H λv H1=>Run X rest D (σ.set i<|some v) H1)(hi:X.N[i]?=some x:=by rfl)(hx:Loc X.env.scope x:=by first | exact Or.inl rfl | exact Or.inr rfl)(hs:swapsWith e (some<|.Name x pos') pos.line X.env=pure false:=by rfl)
  (hf:X.fn x=true\/X.env.scope.names.lookup x=some .local:=by first | exact .inl rfl | exact .inr rfl | assumption):Run X (.Assign [.Name x pos'] e pos :: rest) D σ H:=iw (Pa hN hi hx bw hs hf) h
theorem fX(h:Et X c σ H λk H1=>if k=true then Run X body {D with nx:=λσ' H'=>Run X rest D σ' H'} σ H1 else Run X i7 {D with nx:=λσ' H'=>Run X rest D σ' H'} σ H1):Run X (.If c body i7 pos :: rest) D σ H:=iw (O8 mr oK oK) h
theorem Hv(φ ψ:Prop)(hc:∀ T:Bool->Hp->Prop,(∀ k:Bool,(k=true->φ)->(k=false->ψ)->T k H)->Et X c σ H T)(ht:φ->Run X body {D with nx:=λσ' H'=>Run X rest D σ' H'} σ H)(hu:ψ->Run X i7 {D with nx:=λσ' H'=>Run X rest D σ' H'} σ H):Run X (.If c body i7 pos :: rest) D σ H:=
 fX (hc _ λk p q=>by
  cases k with
  | true=>rw [BL rfl];exact ht<|p rfl
  | false=>rw [BJ Ar];exact hu<|q rfl)
theorem cf(h:Ev X e σ H D.rt):Run X (.Return (some e) pos :: rest) D σ H:=iw (O7 bw) h
theorem hG(h:Ev X e σ H λ_ H1=>Run X rest D σ H1)(hs:swapsWith e none pos.line X.env=pure false:=by rfl):Run X (.Expr e pos :: rest) D σ H:=iw (O6 bw hs) h
theorem xS{tg:Expr}(h:Ev X e σ H λv H1=>Eg X tg v σ H1 λσ' H'=>Run X rest D σ' H')(hs:swapsWithSole [tg] e pos.line X.env=pure false:=by rfl)(hw:swappedStores [tg] e X.env=pure none:=by rfl)
  (h1:(assignEach [tg] X.env).map (·.2)=[assign tg X.env]:=by rfl):Run X (.Assign [tg] e pos :: rest) D σ H:=iw (O' bw mv hs hw h1) h
def Loop(X:Cx)(tg:Expr)(body:List Stmt)(J:It)(D:Ends)(after:St->Hp->Prop)(σ:St)(H:Hp):Prop:=
 ∃ W:Nat->Nat->St->Hp->Prop,(∃ m,W 0 m σ H)/\∀ i m σ H,W i m σ H->(J.stop i H/\after σ H)\/(J.go i H/\∃ N:St->Hp->Prop,(∀ σ' H',N σ' H'->∃ m',m' < m/\W (i+1) m' σ' H') /\
  ∀ x H',J.qg i H x H'->Eg X tg x σ H' λσ2 H2=>Run X body {D with nx:=N,ct:=N,bk:=after} σ2 H2)
theorem uf{tg iter:Expr}{wi:TI}(hi:PI X tg iter wi)(h:wi σ H λJ H1=>Loop X tg body J D (λσ' H'=>Run X rest D σ' H') σ H1)(hp:PassesOwn (model X.prog X.w) X.A X.env X.xe:=by exact HJ)(hc:X.calm=true:=by rfl)
  (hs:∀ x,foldedSetIterable iter X.env x=pure x:=by intro _;rfl):Run X (.For tg iter body [] pos :: rest) D σ H:=iw (PD hp hc hi mv oK hs) h
theorem i8{tg:Expr}{q:Pos}(hm:X.mg "range" = none)(h:Ev X a σ H λx H1=>∃ j:Int,x = .int j/\-(2 ^ 62)<=j/\j < 2 ^ 62/\Loop X tg body (lQ 0 j.toNat) D (λσ' H'=>Run X rest D σ' H') σ H1)(hg:Gl X "range":=by rfl)(hp:PassesOwn (model X.prog X.w) X.A X.env X.xe:=by exact HJ)(hc:X.calm=true:=by rfl)(hs:isStar a=false:=by rfl) :
  Run X (.For tg (.Call (.Name "range" q) [a] [] p) body [] pos :: rest) D σ H:=
 uf (wi:=F5<|oJ X [a]) (F6 hg hm fH<|jG a [] _ hs) (show Ea X [a] σ H _ from ai (h.mono λx H1 ⟨j,e,h1,h2,h3⟩=>aD ⟨j,by rw [e],h1,h2,h3⟩) hs) hp hc (by intro _;rfl)
theorem RK{tg iter:Expr}(h:Ev X iter σ H λx H1=>∃ a,x = .ref a/\(∃ xs,aP X.K H1 a xs)/\Loop X tg body (qh X.K a) D (λσ' H'=>Run X rest D σ' H') σ H1)(hp:PassesOwn (model X.prog X.w) X.A X.env X.xe:=by exact HJ)(hc:X.calm=true:=by rfl)
  (hs:∀ x,foldedSetIterable iter X.env x=pure x:=by intro _;rfl):Run X (.For tg iter body [] pos :: rest) D σ H:=uf (Pw bw) h hp hc hs
theorem my{tg iter:Expr}(h:Ev X iter σ H λx H1=>∃ a,x = .ref a/\(∃ xs,au X.K H1 a xs)/\Loop X tg body (oE X.K a) D (λσ' H'=>Run X rest D σ' H') σ H1)(hp:PassesOwn (model X.prog X.w) X.A X.env X.xe:=by exact HJ)(hc:X.calm=true:=by rfl)
  (hs:∀ x,foldedSetIterable iter X.env x=pure x:=by intro _;rfl):Run X (.For tg iter body [] pos :: rest) D σ H:=uf (lR bw) h hp hc hs
theorem i'{tg:Expr}{lo:Int}{n:Nat}{after:St->Hp->Prop}(Pv:Nat->St->Hp->Prop)(h0:Pv 0 σ H)
  (hs:∀ i σ H,i < n->Pv i σ H->Eg X tg (.int<|lo+i) σ H λσ2 H2=>Run X body {D with nx:=Pv<|i+1,ct:=Pv<|i+1,bk:=after} σ2 H2) (hd:∀ σ H,Pv n σ H->after σ H):Loop X tg body (lQ lo n) D after σ H:=by
 refine⟨λi m σ H=>m=n - i/\i<=n/\Pv i σ H,⟨n,by simp,Bo _,h0⟩,?_⟩;rintro i m σ H ⟨rfl,hi,p⟩
 by_cases bn:i < n
 ·refine .inr ⟨bn,Pv<|i+1,λσ' H' p'=>⟨n - (i+1),by omega,rfl,bn,p'⟩,λx H' y=>?_⟩;obtain⟨e,y⟩:=y;subst e y;exact hs i σ _ bn p
 ·have e:i=n:=by omega
  subst e;exact .inl ⟨Al _,hd σ H p⟩
theorem RL{tg:Expr}{at_:Addr}{xs:List V}{after:St->Hp->Prop}(Pv:Nat->St->Hp->Prop)(h0:Pv 0 σ H)(hl:∀ i σ H,i<=xs.length->Pv i σ H->aP X.K H at_ xs)
  (hs:∀ i x σ H,xs[i]?=some x->Pv i σ H->Eg X tg x σ H λσ2 H2=>Run X body {D with nx:=Pv<|i+1,ct:=Pv<|i+1,bk:=after} σ2 H2) (hd:∀ σ H,Pv xs.length σ H->after σ H):Loop X tg body (qh X.K at_) D after σ H:=by
 refine⟨λi m σ H=>m=xs.length - i/\i<=xs.length/\Pv i σ H,⟨xs.length,by simp,Bo _,h0⟩,?_⟩;rintro i m σ H ⟨rfl,hi,p⟩;have q:=hl i σ H hi p
 by_cases bn:i < xs.length
 ·refine .inr ⟨⟨xs,xs[i],q,by simp [bn]⟩,Pv<|i+1,λσ' H' p'=>⟨xs.length - (i+1),by omega,rfl,bn,p'⟩,λx H' y=>?_⟩;obtain⟨e,y⟩:=y;subst e;exact hs i x σ _ (y xs q) p
 ·have e:i=xs.length:=by omega
  subst e;exact .inl ⟨⟨xs,q,Al _⟩,hd σ H p⟩
theorem mB{tg:Expr}{at_:Addr}{xs:List V}{after:St->Hp->Prop}(Pv:Nat->St->Hp->Prop)(h0:Pv 0 σ H)(hl:∀ i σ H,i<=xs.length->Pv i σ H->au X.K H at_ xs)
  (hs:∀ i x σ H,xs[i]?=some x->Pv i σ H->Eg X tg x σ H λσ2 H2=>Run X body {D with nx:=Pv<|i+1,ct:=Pv<|i+1,bk:=after} σ2 H2) (hd:∀ σ H,Pv xs.length σ H->after σ H):Loop X tg body (oE X.K at_) D after σ H:=by
 refine⟨λi m σ H=>m=xs.length - i/\i<=xs.length/\Pv i σ H,⟨xs.length,by simp,Bo _,h0⟩,?_⟩;rintro i m σ H ⟨rfl,hi,p⟩;have q:=hl i σ H hi p
 by_cases bn:i < xs.length
 ·refine .inr ⟨⟨xs,xs[i],q,by simp [bn]⟩,Pv<|i+1,λσ' H' p'=>⟨xs.length - (i+1),by omega,rfl,bn,p'⟩,λx H' y=>?_⟩;obtain⟨e,y⟩:=y;subst e;exact hs i x σ _ (y xs q) p
 ·have e:i=xs.length:=by omega
  subst e;exact .inl ⟨⟨xs,q,Al _⟩,hd σ H p⟩
theorem bM.go{P:Program}{w:World}{K:PySem.W.Frag}{mg:Str->Option Value}{base:Heap}{x qual:Str}{st:Stmt}{f:Addr}{fd:FuncData}{N ps:List Str}{k:Nat}{sp:Sp}(F:bM K x qual st f fd)(S:ao N ps<|bm st)(len:∀ vs H Q E,sp vs H Q E->vs.length=ps.length)
  (de : ∀ (bF : Value) (A : Around) (outer : List Env) (s : Shared) (H : Hp) (vs : List V) (Q : VK) (E : XK), bx k (A.deeper<|envOfC qual (bm st) s.heap.objs.size f bF) → sp vs H Q E →
   Run (eR bH P w K mg base N qual (bm st) f bF A outer s H E).oB (g8 st) {nx:=λ_ H'=>Q .non H',rt:=Q} (start N vs) H):aI P w K mg base bH (k+1) f fd ps sp:=
 F.ok S len λbF A outer s H vs Q E hr cY=>⟨_,oK,de bF A outer s H vs Q E hr cY⟩
end
structure Ei(X:Cx)(ifs:List Expr)(σ:St)(H:Hp)(Q:Bool->Hp->Prop):Prop where
 run:∀(pins:List<|Addr×Obj) (s:Shared),Inv X pins σ H s ->
  wpAny (model X.prog X.w) X.A (forIn ifs true λc r=>if r=true then do let ok <- isTrue c X.env<|eval c X.env;pure (ForInStep.yield ok) else pure (ForInStep.yield r)) (TP X pins σ Q) X.xe s
def ug(X:Cx)(N':List Str)(scope:Scope)(e:Expr)(σ:St)(H:Hp)(Q:VK):Prop:=∀ cl C s₀ H₀ ex,Ev (eV X N' scope cl C s₀ H₀ ex) e σ H Q
def uh(X:Cx)(N':List Str)(scope:Scope)(e:Expr)(v:V)(σ:St)(H:Hp)(Q:St->Hp->Prop):Prop:=∀ cl C s₀ H₀ ex,Eg (eV X N' scope cl C s₀ H₀ ex) e v σ H Q
def ui(X:Cx)(N':List Str)(scope:Scope)(ifs:List Expr)(σ:St)(H:Hp)(Q:Bool->Hp->Prop):Prop:=∀ cl C s₀ H₀ ex,Ei (eV X N' scope cl C s₀ H₀ ex) ifs σ H Q
def kz(X:Cx)(N':List Str)(scope:Scope)(tg:Expr)(ifs:List Expr)(elt:Expr)(J:It)(D:Addr)(after:Hp->Prop)(σ:St)(H:Hp):Prop:=
 ∃ W:Nat->Nat->St->Hp->Prop,(∃ m,W 0 m σ H)/\∀ i m σ' H',W i m σ' H' ->
  (J.stop i H' ∧ after H') ∨ (J.go i H' ∧ ∃ N : St → Hp → Prop, (∀ σ' H', N σ' H' → ∃ m', m' < m ∧ W (i + 1) m' σ' H') ∧ ∀ x H2, J.qg i H' x H2 → uh X N' scope tg x σ' H2 λσ2 H3 => ui X N' scope ifs σ2 H3 λb H4 =>
   if b=true then ug X N' scope elt σ2 H4 λv H5=>∃ ys,H5 D=some (.lst ys)/\ys.length < sizeLine/\N σ2 (upd H5 D<|.lst<|ys++[v]) else N σ2 H4)
theorem mC:∀(names:List<|Str×NameKind) (n:Nat) (acc:List<|Str×Addr),cellsFrom n names acc=cellsFrom n names []++acc
 | [],_,_=>rfl
 | (y,k) :: r,n,acc=>by
  unfold cellsFrom
  split
  ·rw [mC r (n+1)<|(y,n) :: acc,mC r (n+1) [(y,n)],Ao];rfl
  ·exact mC r n acc
theorem qN:∀(names:List<|Str×NameKind) (n:Nat) {x:Str} {c:Addr},(x,c)∈cellsFrom n names []->(x,NameKind.cell)∈names/\n<=c
 | [],_,_,_,h=>by cases h
 | (y,k) :: r,n,x,c,h=>by
  unfold cellsFrom at h
  split at h
  ·rename_i hk;rw [mC,Aq] at h
   rcases h with h | h
   ·obtain⟨a,b⟩:=qN r (n+1) h;exact⟨Ae _ a,by omega⟩
   ·cases Am.mp h;have:k = .cell:=by cases k <;> first | rfl | exact absurd hk<|by decide
    subst this;exact⟨Ad,Al _⟩
  ·obtain⟨a,b⟩:=qN r n h;exact⟨Ae _ a,b⟩
theorem Hw{names:List (Str×NameKind)}{n:Nat}{cl:List (Str×Addr)}{x:Str}{c:Addr}(h:(cellsFrom n names cl).lookup x=some c):((x,c)∈cellsFrom n names []/\n<=c)\/cl.lookup x=some c:=by
 rw [mC,JV] at h;cases e:(cellsFrom n names []).lookup x with
 | some d=>
  rw [e] at h;cases h;have hm:=CP e;exact .inl ⟨hm,(qN _ _ hm).2⟩
 | none=>
  rw [e] at h;exact .inr h
theorem RM{names:List (Str×NameKind)}{n:Nat}{cl:List (Str×Addr)}{x:Str}(h:(x,NameKind.cell)∉names):(cellsFrom n names cl).lookup x=cl.lookup x:=by
 rw [mC,JV];cases e:(cellsFrom n names []).lookup x with
 | some d=>exact absurd (qN _ _<|CP e).1 h
 | none=>rfl
section
variable{M:Model}{A:Around}{E:Value->Shared->Prop}{s:Shared}
theorem RN{scope:Scope}{globals:Addr}{closure:List (Str×Addr)}{qual:Str}{func:Option Addr}{code:Value}{outer:Env}{builtins:Addr}{Q:Env->Shared->Prop}
  (hQ : ∀ h', h'.Ns s.heap.objs.size (λ_ => none) → (∀ b o, s.heap.get? b = some o → h'.get? b = some o) → CellsOk h' (s.heap.objs.size + 1) (cellsFrom (s.heap.objs.size + 1) scope.names []) →
   Q (newEnv scope s.heap.objs.size globals (cellsFrom (s.heap.objs.size+1) scope.names closure) qual func code (some outer) builtins) {s with heap:=h'}) :
  wpAny M A (newFunctionEnv scope globals closure [] qual func code (some outer) builtins) Q E s:=by
 simp only [newFunctionEnv,Option.isSome_some,CT];refine BK<|wpAny_alloc ?_;refine BK (wpAny_layCells _ (λname kind cells=>by cases RO:kind == NameKind.cell <;> simp [RO]) _ _ _ _ ?_);have ok:=cellsFrom_ok scope.names (s.heap.push {cls:= .type "dict",data:= .dict #[]}) (s.heap.objs.size+1) [] ⟨λ_ _ hm=>(nomatch hm),List.Pairwise.nil⟩ (by rw [Gd];exact Al _);rw [Gd] at ok;rw [show({s with heap:=s.heap.push {cls:= .type "dict",data:= .dict #[]}}:Shared).heap.objs.size=s.heap.objs.size+1 from Gd ..];rw [List.forIn_nil];exact BK<|BP<|BP<|hQ _ ((Heap.Ns.new s.heap<|.type "dict").keeps<|pushCells_keeps _ _) (λb o e=>pushCells_keeps _ _ b o<|Ak _ e) ok
end
def jH(sc scope:Scope)(N N':List Str):Bool:=
 (match scope.kind with | .function=>true | _=>false) &&
 scope.names.all (λy=>match y.2 with
  | .cell=>(match scope.names.lookup y.1 with | some .cell=>true | _=>false)
  | .local=>(match scope.names.lookup y.1 with | some .local=>true | _=>false)
  | .free=>(match sc.names.lookup y.1 with | some .cell=>true | some .free=>true | _=>false) && (match scope.names.lookup y.1 with | some .free=>true | _=>false)
  | _=>true) &&
 (List.range N'.length).all λi => match N'[i]? with
  | none=>true
  | some x=>match scope.names.lookup x with
   | some .local=>decide (N.length<=i)
   | some .cell=>decide (N.length<=i)
   | some .free=>decide (N[i]?=some x)
   | _=>true
structure b5(sc scope:Scope)(N N':List Str):Prop where
 kind:scope.kind = .function
 cell:∀ y∈scope.names,y.2 = .cell->scope.names.lookup y.1=some .cell
 names:∀ y∈scope.names,y.2 = .local->scope.names.lookup y.1=some .local
 free:∀ y∈scope.names,y.2 = .free->sc.names.lookup y.1=some .cell\/sc.names.lookup y.1=some .free
 Hx:∀ y∈scope.names,y.2 = .free->scope.names.lookup y.1=some .free
 own:∀(i:Nat) x,N'[i]?=some x->scope.names.lookup x=some .local->N.length<=i
 xT:∀(i:Nat) x,N'[i]?=some x->scope.names.lookup x=some .cell->N.length<=i
 out:∀(i:Nat) x,N'[i]?=some x->scope.names.lookup x=some .free->N[i]?=some x
theorem b5.of{sc scope:Scope}{N N':List Str}(h:jH sc scope N N'=true):b5 sc scope N N':=by
 unfold jH at h;rw [Cs,Cs] at h;obtain⟨⟨h1,h2⟩,h3⟩:=h;have mD:=List.all_eq_true.mp h2;have xU:=List.all_eq_true.mp h3;refine⟨?_,λy hy e=>?_,λy hy e=>?_,λy hy e=>?_,λy hy e=>?_,λi x hi e=>?_,λi x hi e=>?_,λi x hi e=>?_⟩
 ·revert h1;cases scope.kind <;> intro h1 <;> first | rfl | cases h1
 ·have q:=mD y hy;rw [e] at q;simp only at q
  split at q
  ·assumption
  ·cases q
 ·have q:=mD y hy;rw [e] at q;simp only at q
  split at q
  ·assumption
  ·cases q
 ·have q:=mD y hy;rw [e] at q;simp only at q;rw [Cs] at q;have q:=q.1
  split at q
  ·exact .inl<|by assumption
  ·exact .inr<|by assumption
  ·cases q
 ·have q:=mD y hy;rw [e] at q;simp only at q;rw [Cs] at q;have q:=q.2
  split at q
  ·assumption
  ·cases q
 ·have q:=xU i<|Ca.mpr (Ac.mp hi).1;rw [hi] at q;simp only [e] at q;exact BX q
 ·have q:=xU i<|Ca.mpr (Ac.mp hi).1;rw [hi] at q;simp only [e] at q;exact BX q
 ·have q:=xU i<|Ca.mpr (Ac.mp hi).1;rw [hi] at q;simp only [e] at q;exact BX q
section
variable{X:Cx}{pins:List (Addr×Obj)}{σ:St}{H:Hp}{s:Shared}
theorem RP{N':List Str}{scope:Scope}{n:Nat}{fp:List Addr}{h₁:Heap}{t':Nat}{m:Str->Option Value}(I:Inv X pins σ H s)(ck:b5 X.env.scope scope X.N N')(hl:N'.length=X.N.length+n)
  (t7:h₁.Ns s.heap.objs.size m) (old:∀ b o,s.heap.get? b=some o->h₁.get? b=some o) (Hy:CellsOk h₁ (s.heap.objs.size+1)<|cellsFrom (s.heap.objs.size+1) scope.names [])
  (oO:∀ b∈fp,bT X pins H b/\b < s.heap.objs.size) :
  Inv (eV X N' scope (cellsFrom (s.heap.objs.size+1) scope.names<|ce scope.names X.env.cells []) s.heap.objs.size s H fp) [] (σ++List.replicate n none) H {s with heap:=h₁,toks:=t'}:=by
 have sub:∀ x c,(ce scope.names X.env.cells []).lookup x=some c->X.env.cells.lookup x=some c:=λx c e=>xH _ _ _ (λ_ _ z=>by simp at z) x c<|CP e;have both:∀ x c,(cellsFrom (s.heap.objs.size+1) scope.names<|ce scope.names X.env.cells []).lookup x=some c->((x,c)∈cellsFrom (s.heap.objs.size+1) scope.names []/\s.heap.objs.size+1<=c)\/X.env.cells.lookup x=some c:=λx c e=>by
  rcases Hw e with z | z
  ·exact .inl z
  ·exact .inr<|sub x c z
 have kA:∀ x c,X.env.cells.lookup x=some c->c < s.heap.objs.size:=λx c e=>by
  obtain⟨v,o,ho,_⟩:=I.cell x c e;exact Ax ho
 have RQ:H s.heap.objs.size=none:=I.aE.fresh<|Al _;have kindOf:∀{x:Str} {k':NameKind},(relabel scope X.env).names.lookup x=some k'->∃ k,scope.names.lookup x=some k/\(k'=k\/(k = .free/\k' = .cell)):=λz=>Hi z;have Hz:∀ x,scope.names.lookup x=some .free->(cellsFrom (s.heap.objs.size+1) scope.names<|ce scope.names X.env.cells []).lookup x=(ce scope.names X.env.cells []).lookup x:=λx e=>RM λhm=>by
  have:=ck.cell _ hm rfl;rw [e] at this;cases this
 have xV:∀ x,scope.names.lookup x=some .cell->∃ c,(cellsFrom (s.heap.objs.size+1) scope.names<|ce scope.names X.env.cells []).lookup x=some c:=λx e=>El.mp<|GX _ _ _<|.inl e;have RT:(eV X N' scope (cellsFrom (s.heap.objs.size+1) scope.names<|ce scope.names X.env.cells []) s.heap.objs.size s H fp).Ok:=by
  refine⟨I.ok.mod,ck.kind,I.ok.glob,I.ok.blt,Al _,λx y c e1 e2=>?_,λx hx=>?_,λx c hf e=>?_,I.ok.hd,I.ok.frames,.inl rfl,λb hb=>⟨Bz (oO b hb).2,λx c e=>?_⟩,
   I.bs,Cd I.ok.kg I.sz,λb o e hb=>?_,λb hb hf=>?_,I.stack,I.fS⟩
  ·rcases both x c e1 with z1 | z1
   ·rcases both y c e2 with z2 | z2
    ·exact name_of_addr Hy.apart z1.1 z2.1
    ·exact absurd (kA y c z2)<|Nat.not_lt.mpr<|Ee z1.2
   ·rcases both y c e2 with z2 | z2
    ·exact absurd (kA x c z1)<|Nat.not_lt.mpr<|Ee z2.2
    ·exact I.ok.inj x y c z1 z2
  ·have fI:(relabel scope X.env).names.lookup x=some .cell\/(relabel scope X.env).names.lookup x=some .free:=hx;have:∃ k,scope.names.lookup x=some k/\(k = .free\/k = .cell):=by
    rcases fI with z | z
    ·obtain⟨k,e,r⟩:=kindOf z
     rcases r with r | ⟨r,_⟩
     ·exact⟨k,e,.inr r.symm⟩
     ·exact⟨k,e,.inl r⟩
    ·obtain⟨k,e,r⟩:=kindOf z
     rcases r with r | ⟨r,_⟩
     ·exact⟨k,e,.inl r.symm⟩
     ·exact⟨k,e,.inl r⟩
   obtain⟨k,e,rfl | rfl⟩:=this
   ·have hm:=CP e;obtain⟨c,hc⟩:=I.ok.has x<|ck.free _ hm rfl;obtain⟨d,hd⟩:=xJ<|xI scope.names X.env.cells [] x c hm hc;exact⟨d,(Hz x e).trans hd⟩
   ·exact xV x e
  ·have hx:scope.names.lookup x=some .cell:=by
    have HA:(match scope.names.lookup x with | some .cell=>true | _=>false)=true:=hf
    split at HA
    ·assumption
    ·cases HA
   have e':(cellsFrom (s.heap.objs.size+1) scope.names<|ce scope.names X.env.cells []).lookup x=some c:=e;have q1:=El.mp<|GX scope.names (s.heap.objs.size+1) []<|.inl hx;obtain⟨d,hd⟩:=q1;rw [mC,JV,hd] at e';have e2:d=c:=Option.some.inj e';have:=(qN _ _<|CP hd).2;rw [<- e2];exact Ee this
  ·have e':(cellsFrom (s.heap.objs.size+1) scope.names<|ce scope.names X.env.cells []).lookup x=some c:=e
   rcases both x c e' with z | z
   ·have h1:=(oO b hb).2;have h2:=z.2;exact λk=>absurd h1<|Nat.not_lt.mpr<|by rw [<- k];exact Ee h2
   ·exact(oO b hb).1.2.2.2.2.1 x c z
  ·have:=(oO b hb).1.2.2.2.1
   rcases this with z | z
   ·exact I.ok.im b o e z
   ·exact absurd (Bf (Ax e)<|Cd I.ok.kg z)<|Dd _
  ·rcases Ai.mp (I.dR b hf) with z | z
   ·exact(oO b hb).1.2.1 z
   ·exact(oO b hb).1.2.2.1 z
 refine⟨RT,rfl,I.bare,Un.kept old,⟨m,t7,λi x v e1 e2 e3=>?_⟩,λx c e=>?_,RQ,λx c e=>?_,λp hp=>absurd hp (by simp [eV]),I.aE.kept old,?_⟩
 ·have hi:i < σ.length:=by
   by_cases hi:i < σ.length
   ·exact hi
   ·rw [Az (by omega),Dv] at e2
    split at e2 <;> cases e2
  rw [Av hi] at e2;have mE:N'[i]?=some x:=e1;have wX:∃ k',(relabel scope X.env).names.lookup x=some k'/\(k' = .local\/k' = .cell\/k' = .free):=by
   rcases e3 with z | z | z
   ·exact⟨_,z,.inl rfl⟩
   ·exact⟨_,z,.inr<|.inl rfl⟩
   ·exact⟨_,z,.inr<|.inr rfl⟩
  obtain⟨k',xW,jI⟩:=wX;obtain⟨k,ek,r⟩:=kindOf xW;have kf:k = .free:=by
   rcases r with r | ⟨r,_⟩
   ·subst r
    rcases jI with z | z | z
    ·subst z;have:=ck.own i x mE ek;rw [I.len] at hi;omega
    ·subst z;have:=ck.xT i x mE ek;rw [I.len] at hi;omega
    ·exact z
   ·exact r
  subst kf;have hm:=CP ek;have RU:=ck.out i x mE ek;obtain⟨m0,xX,ix⟩:=I.loc;have kx:=ck.free _ hm rfl;obtain⟨u,ru,lk⟩:=ix i x v RU e2 (by rcases kx with z | z;exact .inr<|.inl z;exact .inr<|.inr z);refine⟨u,ru,.inr ⟨?_,?_⟩⟩
  ·rcases r with r | ⟨_,r⟩
   ·subst r;exact .inr xW
   ·subst r;exact .inl xW
  ·rcases lk with ⟨k1,_⟩ | ⟨_,c,hc,dG⟩
   ·have HC:X.env.scope.names.lookup x=some .local:=k1
    rcases kx with z | z
    ·rw [HC] at z;cases z
    ·rw [HC] at z;cases z
   ·have HE:=xI scope.names X.env.cells [] x c hm hc;obtain⟨d,hd⟩:=xJ HE;have:d=c:=Option.some.inj<|(sub x d hd).symm.trans hc;subst this;obtain⟨o,ho,gO⟩:=dG;exact⟨d,(Hz x ek).trans hd,o,old _ _ ho,gO⟩
 ·have e':(cellsFrom (s.heap.objs.size+1) scope.names<|ce scope.names X.env.cells []).lookup x=some c:=e
  rcases both x c e' with z | z
  ·exact⟨none,(Hy.empty x c z.1).1⟩
  ·obtain⟨v,o,ho,gO⟩:=I.cell x c z;exact⟨v,o,old _ _ ho,gO⟩
 ·have e':(cellsFrom (s.heap.objs.size+1) scope.names<|ce scope.names X.env.cells []).lookup x=some c:=e
  rcases both x c e' with z | z
  ·exact I.aE.fresh<|Ee z.2
  ·exact I.bX x c z
 ·rw [Af,Dp,I.len];exact hl.symm
end
structure Clause(e:Expr)(d:Nat)(tg iter:Expr)(ifs:List Expr)(acc:Value)(env:Env)(inner:Sem Unit):Prop where
 at':(clausesOf e)[d]?=some ⟨tg,iter,ifs,0⟩
 quiet:∀ it,(Code.compLoop e d it acc env).quiet=true
 den:∀(prog:Program) (w:World) it,(model prog w).den (.compLoop e d it acc env)=(compTurn e d it acc env).onRaise (λx=>do noteFrame x env;theTreesLotGoes x)
 RV:∀(A:Around) it,A.under (.compLoop e d it acc env)=A
 xY:∀(prog:Program) (w:World) it,(model prog w).den (.compStart e d it acc env)=(compStart e d it acc env).onRaise (λx=>do noteFrame x env;standAt theWindowsPlace)
 xZ:∀(A:Around) it,A.under (.compStart e d it acc env)=A
 turn:∀ it,compTurn e d it acc env=(do
   standAt iter.pos
   match <- pyNext it with
   | none=>pure<|.done .next
   | some v=>
    letOwnedTupleGo tg it v
    assign tg env v
    let mut ok:=true
    for c in ifs do
     if ok then ok <- isTrue c env<|eval c env
    if ok then
     inner
    again (.compLoop e d it acc env))
section
variable{prog:Program}{w:World}{A:Around}{R:Result->Shared->Prop}{s:Shared}
theorem RW{e:Expr}{d:Nat}{tg iter:Expr}{ifs:List Expr}{it acc:Value}{env:Env}{inner:Sem Unit}(C:Clause e d tg iter ifs acc env inner)(I:Nat->Shared->Prop)
  (turn : ∀ n s, I n s → wpAny (model prog w) A (pyNext it) (λr s₁ => match r with
   | none=>R (.ok .next) s₁
   | some v=>wpAny (model prog w) A (letOwnedTupleGo tg it v) (λ_ s₁'=>wpAny (model prog w) A (assign tg env v) (λ_ s₂=>
     wpAny (model prog w) A (forIn ifs true λc r=>if r=true then do let ok <- isTrue c env<|eval c env;pure (ForInStep.yield ok) else pure (ForInStep.yield r)) (λok s₃=>
      if ok=true then wpAny (model prog w) A inner (λ_ s₄=>∃ m,m < n/\I m s₄) (notedBy (model prog w) A env λe s'=>R (.error e) s') s₃
      else ∃ m,m < n/\I m s₃) (notedBy (model prog w) A env λe s'=>R (.error e) s') s₂) (notedBy (model prog w) A env λe s'=>R (.error e) s') s₁') (notedBy (model prog w) A env λe s'=>R (.error e) s') s₁) (notedBy (model prog w) A env λe s'=>R (.error e) s') s)
  (n:Nat) (h:I n s) :
  codeAny (model prog w) A (.compLoop e d it acc env) R s:=by
 refine codeAny_loop (C.quiet it) I (λn s hI=>?_) n h;rw [C.RV,C.den];refine wpAny_noted ?_;rw [C.turn];refine BK<|FQ<|BK<|CK (turn n s hI) (λr s₁ h₁=>?_) λ_ _ h'=>h';cases r with
 | none=>exact BP h₁
 | some v=>
  refine BK<|CK h₁ (λ_ s₁' h₁'=>?_) λ_ _ h'=>h';refine BK<|CK h₁' (λ_ s₂ h₂=>BK<|CK h₂ (λok s₃ h₃=>?_) λ_ _ h'=>h') λ_ _ h'=>h';cases ok with
  | false=>exact BP ⟨rfl,h₃⟩
  | true=>exact BK<|CK h₃ (λ_ s₄ h₄=>BP ⟨rfl,h₄⟩) λ_ _ h'=>h'
theorem RX{e:Expr}{d:Nat}{tg iter:Expr}{ifs:List Expr}{it acc:Value}{env:Env}{inner:Sem Unit}(C:Clause e d tg iter ifs acc env inner)
  (h0:codeAny (model prog w) A (.compLoop e d it acc env) R s)
  (h:wpAny (model prog w) A (pyIter it) (λx6 s'=>codeAny (model prog w) A (.compLoop e d x6 acc env) R s') (notedBy (model prog w) A env λx s'=>R (.error x) s') s) :
  codeAny (model prog w) A (.compStart e d it acc env) R s:=by
 refine NK ?_;rw [C.xZ,C.xY];refine wpAny_notedAt ?_;unfold compStart;rw [C.at'];show wpAny _ _ (ask >>= _) _ _ s;refine BK<|wpAny_askSetting<|wpAny_ite ?_
 split
 ·first
   | exact BK<|BP<|BP<|And.intro (C.quiet _) h0
   | exact BP<|And.intro (C.quiet _) h0
 ·first
   | exact BK<|FZ<|BK<|FQ<|BK<|CK h (λx6 s' h'=>BP<|And.intro (C.quiet _) h') λ_ _ x=>x
   | (refine BK<|FZ ?_;show wpAny _ _ (standAt iter.pos >>= _) _ _ s;exact BK<|FQ<|BK<|CK h (λx6 s' h'=>BP<|And.intro (C.quiet _) h') λ_ _ x=>x)
end
structure jb(X:Cx)(m:Sem Unit)(σ:St)(H:Hp)(Q:St->Hp->Prop):Prop where
 run:∀(pins:List<|Addr×Obj) (s:Shared),Inv X pins σ H s->wpAny (model X.prog X.w) X.A m (λ_ s'=>∃ σ' H',Inv X pins σ' H' s'/\Q σ' H') X.xe s
def ft(X:Cx)(tg:Expr)(ifs:List Expr)(inner:Sem Unit)(J:It)(after:St->Hp->Prop)(σ:St)(H:Hp):Prop:=
 ∃ W:Nat->Nat->St->Hp->Prop,(∃ m,W 0 m σ H)/\∀ i m σ' H',W i m σ' H' ->
  (J.stop i H' ∧ after σ' H') ∨ (J.go i H' ∧ ∃ N : St → Hp → Prop, (∀ σ' H', N σ' H' → ∃ m', m' < m ∧ W (i + 1) m' σ' H') ∧ ∀ x H2, J.qg i H' x H2 → Eg X tg x σ' H2 λσ2 H3 => Ei X ifs σ2 H3 λb H4 =>
   if b=true then jb X inner σ2 H4 N else N σ2 H4)
theorem x8{X:Cx}(iy:X.xe=λ_ _=>False)(hc:X.calm=true){e:Expr}{d:Nat}{tg iter:Expr}{ifs:List Expr}{acc:Value}{inner:Sem Unit}(C:Clause e d tg iter ifs acc X.env inner){pins:List (Addr×Obj)}{σ:St}{H:Hp}{s:Shared}
  {it:Addr} {fp:List Addr} {tn:Nat->Heap->Prop} {J:It} {after:St->Hp->Prop} {R:Result->Shared->Prop} (I:Inv X pins σ H s) (T:Turn X.prog X.w X.K tg J fp it tn) (st:tn 0 s.heap) (hf:∀ b∈fp,bT X pins H b) (h:ft X tg ifs inner J after σ H)
  (hR:∀ σ' H' s',Inv X pins σ' H' s'->after σ' H'->R (.ok .next) s') :
  codeAny (model X.prog X.w) X.A (.compStart e d (.ref it) acc X.env) R s:=by
 obtain⟨W,⟨m0,w0⟩,turn⟩:=h;have stat:∀{H':Hp},(∀ b∈fp,H' b=none)->∀ b∈fp,bT X pins H' b:=λhn b hb=>⟨hn b hb,(hf b hb).2⟩;have loop:codeAny (model X.prog X.w) X.A (.compLoop e d (.ref it) acc X.env) R s:=by
  refine RW C (λk s'=>∃ i σ' H',Inv X pins σ' H' s'/\tn i s'.heap/\(∀ b∈fp,H' b=none)/\W i k σ' H') ?_ m0 ⟨0,σ,H,I,st,λb hb=>(hf b hb).1,w0⟩;rintro k s4 ⟨i,σ4,H4,J4,HG,HH,w4⟩
  rcases turn i k σ4 H4 w4 with ⟨stop,qn⟩ | ⟨go,N,hN,step⟩
  ·have d1:=T.done X rfl rfl rfl hc i pins s4 σ4 H4 (λ_ _=>False) J4 (stat HH) HG stop;refine gN d1 λr s5 ⟨hr,I5⟩=>?_;subst hr;exact hR _ _ _ I5 qn
  ·have d1:=T.item X rfl rfl rfl hc i pins s4 σ4 H4 (λ_ _=>False) J4 (stat HH) HG go;refine gN d1 λr s5 ⟨u,hr,h5⟩=>?_;subst hr;refine gN h5 λ_ s6 ⟨x,H6,I6,r6,y6,x9,RY⟩=>?_;have RZ:=I6.pinned (stat RY)<|T.obj _ _ x9;have again:∀{σ7:St} {H7:Hp} {s7:Shared},Inv X (pins++qi fp s6.heap) σ7 H7 s7->N σ7 H7->∃ m,m < k/\∃ i σ' H',Inv X pins σ' H' s7/\tn i s7.heap/\(∀ b∈fp,H' b=none)/\W i m σ' H':=λ{σ7 H7 s7} I7 n7=>by
    obtain⟨m',hm,w7⟩:=hN σ7 H7 n7;refine⟨m',hm,i+1,σ7,H7,I7.cB,T.keep _ _ _ x9 λb hb o e=>(I7.pin (b,o)<|Ap _<|Ap _<|tT hb e).1,λb hb=>?_,w7⟩;obtain⟨o,e,d⟩:=T.obj _ _ x9 b hb;exact(I7.pin (b,o)<|Ap _<|Ap _<|tT hb e).2.1
   have a1:=(step x H6 y6).run _ s6 u RZ r6;rw [iy] at a1;refine gN a1 λ_ s7 ⟨σ7,H7,I7,q7⟩=>?_;have a2:=q7.run _ s7 I7;rw [iy] at a2;refine gN a2 λok s8 ⟨H8,I8,q8⟩=>?_;cases ok with
   | false=>
    rw [BJ Ar] at q8 ⊢;exact again I8 q8
   | true=>
    rw [BL rfl] at q8 ⊢;have a3:=q8.run _ s8 I8;rw [iy] at a3;exact gN a3 λ_ s9 ⟨σ9,H9,I9,q9⟩=>again I9 q9
 exact RX C loop<|T.self _ 0 _ _ _ st loop
theorem HI{X:Cx}{e:Expr}{tg iter:Expr}{ifs:List Expr}{scope:Scope}{N':List Str}{newAcc:Sem Value}{o0:Obj}{u0:Addr->HO}{n:Nat}{inner:Value->Env->Sem Unit}{pins:List (Addr×Obj)}{σ:St}{H2:Hp}{s2:Shared}{E:Value->Shared->Prop}{RR:Value->Addr->Result->Shared->Prop}{it:Addr}{fp:List Addr}{tn:Nat->Heap->Prop}{J:It}{Q:VK}
  (fJ:∀(Q:Value->Shared->Prop) (E:Value->Shared->Prop) (s:Shared),Q (.ref s.heap.objs.size) {s with heap:=s.heap.push o0}->wpAny (model X.prog X.w) X.A newAcc Q E s) (fG:∀(H:Hp) (h:Heap),sysModules < h.objs.size->ay X.prog X.w H (h.push o0) h.objs.size (u0 h.objs.size))
  (hc:X.calm=true) (ck:b5 X.env.scope scope X.N N') (hl:N'.length=X.N.length+n) (hC:∀ acc env,Clause e 0 tg iter ifs acc env<|inner acc env)
  (I2:Inv X pins σ H2 s2) (T:Turn X.prog X.w X.K tg J fp it tn) (fm:tn 0 s2.heap) (f2:∀ b∈fp,bT X pins H2 b)
  (q:∀ D,H2 D=none->∀ cl C s₀ H₀ ex,ft (eV X N' scope cl C s₀ H₀ ex) tg ifs (inner (.ref D)<|compEnvC scope cl C X.env) J (λ_ H'=>Q (.ref D) H') (σ++List.replicate n none)<|upd H2 D<|u0 D)
  (ya:∀ D C H' s' m,Inv X pins σ H' s'->s'.heap.Ns C m->H' C=none->C≠X.env.locals->X.s₀.heap.objs.size<=C->(∀ x c,X.env.cells.lookup x=some c->c≠C)->(∀ p∈X.pn++pins,p.1≠C)->Q (.ref D) H'->RR (.ref D) C (.ok .next) s') :
  wpAny (model X.prog X.w) X.A newAcc (λacc s₃=>wpAny (model X.prog X.w) X.A (newFunctionEnv scope X.env.globals (ce scope.names X.env.cells []) [] X.env.qual none .none<|some X.env) (λiz s₄=>
   codeAny (model X.prog X.w) X.A (.compStart e 0 (.ref it) acc {iz with scope:=relabel scope X.env}) (RR acc iz.locals) s₄) E s₃) E s2:=by
 refine fJ _ _ _<|RN λh₁ hns₁ old₁ hcs₁=>?_;have hD:H2 s2.heap.objs.size=none:=I2.aE.fresh<|Al _;have q0:=q s2.heap.objs.size hD;have fl:∀ b∈fp,b < s2.heap.objs.size:=λb hb=>by
  obtain⟨o,e,_⟩:=T.obj 0 _ fm b hb;exact Ax e
 have I3:Inv X pins σ (upd H2 s2.heap.objs.size<|u0 s2.heap.objs.size) {s2 with heap:=s2.heap.push o0}:=
  I2.laid (t':=s2.toks) (λb o e=>Ak _ e) (Al _) (fG _ _ I2.big)
 generalize uj:({s2 with heap:=s2.heap.push o0}:Shared)=s3 at I3 hns₁ old₁ hcs₁ ⊢;have R0:s3.heap.objs.size=s2.heap.objs.size+1:=by rw [<- uj];exact Gd ..
 have yb:∀ b o,s2.heap.get? b=some o->s3.heap.get? b=some o:=λb o e=>by rw [<- uj];exact Ak _ e
 have old:∀ b o,s3.heap.get? b=some o->h₁.get? b=some o:=old₁;have f3:∀ b∈fp,bT X pins (upd H2 s2.heap.objs.size<|u0 s2.heap.objs.size) b/\b < s3.heap.objs.size:=λb hb=>by
  refine⟨⟨?_,(f2 b hb).2⟩,by rw [R0];exact Fa<|fl b hb⟩;rw [aw<|Bz<|fl b hb];exact(f2 b hb).1
 have I4:=λ(t':Nat)=>RP (N':=N') (scope:=scope) (n:=n) (fp:=fp) (h₁:=h₁) (t':=t') I3 ck hl hns₁ old hcs₁ f3;generalize hX:eV X N' scope (cellsFrom (s3.heap.objs.size+1) scope.names<|ce scope.names X.env.cells []) s3.heap.objs.size s3 (upd H2 s2.heap.objs.size<|u0 s2.heap.objs.size) fp=X' at I4;have eP:X'.prog=X.prog:=by rw [<- hX];rfl
 have ew:X'.w=X.w:=by rw [<- hX];rfl
 have eK:X'.K=X.K:=by rw [<- hX];rfl
 have eA:X'.A=X.A:=by rw [<- hX];rfl
 have eE:X'.env=compEnvC scope (cellsFrom (s3.heap.objs.size+1) scope.names<|ce scope.names X.env.cells []) s3.heap.objs.size X.env:=by rw [<- hX];rfl
 have ec:X'.calm=true:=by rw [<- hX];exact hc
 have FI:X'.xe=λ_ _=>False:=by rw [<- hX];rfl
 have stat:∀{H':Hp},(∀ b∈fp,H' b=none)->∀ b∈fp,bT X' [] H' b:=λhn b hb=>by
  refine⟨hn b hb,?_,?_,?_,?_,?_⟩
  ·rw [eE];exact Bz (f3 b hb).2
  ·rw [<- hX];intro hf
   rcases Ai.mp (I3.dR b hf) with z | z
   ·exact(f3 b hb).1.2.1 z
   ·exact(f3 b hb).1.2.2.1 z
  ·rw [<- hX];exact .inl hb
  ·rw [eE];intro x c e
   rcases Hw e with z | z
   ·exact λk=>absurd (f3 b hb).2<|Nat.not_lt.mpr<|by rw [<- k];exact Ee z.2
   ·exact(f3 b hb).1.2.2.2.2.1 x c<|xH _ _ _ (λ_ _ z=>by simp at z) x c<|CP z
  ·rw [<- hX];intro p hp;exact absurd hp<|by simp [eV]
 have fin:∀{σ':St} {H':Hp} {s':Shared},Inv X' [] σ' H' s'->Q (.ref s2.heap.objs.size) H'->RR (.ref s2.heap.objs.size) s3.heap.objs.size (.ok .next) s':=λ{σ' H' s'} I' q'=>by
  obtain⟨m',tP,_⟩:=id I'.loc;rw [eE] at tP;have R1:s'.os=s3.os:=by have:=I'.os;rw [<- hX] at this;exact this
  have R3:Un (g6 X.stack) fp (upd H2 s2.heap.objs.size<|u0 s2.heap.objs.size) H' s3.heap s'.heap:=by have:=I'.base;rw [<- hX] at this;exact this
  have aE:b8 X.prog X.w H' s'.heap:=by have:=I'.aE;rw [eP,ew] at this;exact this
  have IX:Inv X pins σ H' s':=I3.call' (ch:=fp) R1 R3 aE I'.bare λb hb=>⟨(f3 b hb).1.2.2.2.1,(f3 b hb).1.2.1,(f3 b hb).1.2.2.2.2.1,(f3 b hb).1.2.2.2.2.2⟩;have oP:=I'.free;rw [eE] at oP;refine ya _ _ H' s' m' IX tP oP (Ds I3.lt) I3.sz (λx c e z=>?_) (λp hp z=>?_) q'
  ·obtain⟨v,o,ho,_⟩:=I3.cell x c e;exact absurd (Ax ho)<|by rw [z];exact Dd _
  ·exact absurd (Ax (I3.pin p hp).1)<|by rw [z];exact Dd _
 have R5:∀ b∈fp,bT X' [] (upd H2 s2.heap.objs.size<|u0 s2.heap.objs.size) b:=stat λb hb=>(f3 b hb).1.1;have q1:ft X' tg ifs (inner (.ref s2.heap.objs.size) X'.env) J (λ_ H'=>Q (.ref s2.heap.objs.size) H') (σ++List.replicate n none) (upd H2 s2.heap.objs.size<|u0 s2.heap.objs.size):=by
  rw [eE,<- hX];exact q0 _ _ _ _ _
 have T':Turn X'.prog X'.w X'.K tg J fp it tn:=by rw [eP,ew,eK];exact T
 have fin2:=x8 (s:={s3 with heap:=h₁,toks:=s3.toks}) FI ec (hC (.ref s2.heap.objs.size) X'.env) (I4 s3.toks) T' (T.keep 0 _ _ fm λb _ o e=>old b o<|yb b o e) R5 q1 (R:=RR (.ref s2.heap.objs.size) s3.heap.objs.size) λσ' H' s' I' a'=>fin I' a';rw [eP,ew,eA,eE] at fin2;exact fin2
def emit(elt:Expr)(acc:Value)(env:Env):Sem Unit:=do let _ <- call (.builtin "list.append") [acc,<- eval elt env]
section
variable{X:Cx}{elt tg iter:Expr}{ifs:List Expr}{scope:Scope}{pos:Pos}{σ:St}{H:Hp}{acc:Value}{env:Env}{N':List Str}{J:It}
theorem R9:Clause (.ListComp elt [⟨tg,iter,ifs,0⟩] scope pos) 0 tg iter ifs acc env (emit elt acc env):=⟨rfl,λ_=>rfl,λ_ _ _=>rfl,λ_ _=>rfl,λ_ _ _=>rfl,λ_ _=>rfl,λ_=>rfl⟩
theorem HK{D:Addr}{Q:St->Hp->Prop} (h:Ev X elt σ H λv H1=>∃ ys,H1 D=some (.lst ys)/\ys.length < sizeLine/\Q σ (upd H1 D<|.lst<|ys++[v])):jb X (emit elt (.ref D) X.env) σ H Q:=by
 refine⟨λpins s I=>?_⟩;unfold emit;refine BK<|aH (h.run pins s I) λv s1 ⟨x,H1,I1,r1,ys,hy,hz,q⟩=>?_;refine BK<|aH (GU (X:=X) _ s1 σ H1 (.ref D) [x] (.ref D) [v] (λ_ H'=>Q σ H') I1 rfl (.cons r1 .nil) ⟨_,ys,x,rfl,rfl,hy,hz,q⟩) λ_ s2 ⟨_,H2,I2,_,q2⟩=>BP ⟨σ,H2,I2,q2⟩
theorem Eg.mono{v:V}{R R':St->Hp->Prop}(h:Eg X elt v σ H R)(f:∀ σ' H',R σ' H'->R' σ' H'):Eg X elt v σ H R':=⟨λpins s u I r=>aH (h.run pins s u I r) λ_ _ ⟨σ',H',I',q⟩=>⟨σ',H',I',f _ _ q⟩⟩
theorem Ei.mono{T T':Bool->Hp->Prop}(h:Ei X ifs σ H T)(f:∀ b H',T b H'->T' b H'):Ei X ifs σ H T':=⟨λpins s I=>aH (h.run pins s I) λ_ _ ⟨H',I',q⟩=>⟨H',I',f _ _ q⟩⟩
theorem Sb{D:Addr}{after:Hp->Prop}(h:kz X N' scope tg ifs elt J D after σ H)(cl:List<|Str×Addr)(C:Addr)(s₀:Shared)(H₀:Hp)(ex:List Addr):ft (eV X N' scope cl C s₀ H₀ ex) tg ifs (emit elt (.ref D)<|compEnvC scope cl C X.env) J (λ_ H'=>after H') σ H:=by
 obtain⟨W,w0,t⟩:=h;refine⟨W,w0,λi m σ' H' w=>(t i m σ' H' w).imp id λ⟨g,N,hN,st⟩=>⟨g,N,hN,λx H2 y=>(st x H2 y cl C s₀ H₀ ex).mono λσ2 H3 h3=>(h3 cl C s₀ H₀ ex).mono λb H4 h4=>?_⟩⟩;cases b with
 | true=>
  rw [BL rfl] at h4 ⊢;exact HK (X:=eV X N' scope cl C s₀ H₀ ex)<|h4 cl C s₀ H₀ ex
 | false=>
  rw [BJ Ar] at h4 ⊢;exact h4
theorem HL{n:Nat}{pins:List (Addr×Obj)}{H2:Hp}{s2:Shared}{E:Value->Shared->Prop}{RR:Value->Addr->Result->Shared->Prop}{it:Addr}{fp:List Addr}{tn:Nat->Heap->Prop}{Q:VK}
  (hc:X.calm=true) (ck:b5 X.env.scope scope X.N N') (hl:N'.length=X.N.length+n) (I2:Inv X pins σ H2 s2) (T:Turn X.prog X.w X.K tg J fp it tn) (fm:tn 0 s2.heap) (f2:∀ b∈fp,bT X pins H2 b)
  (q:∀ D,H2 D=none->kz X N' scope tg ifs elt J D (λH'=>Q (.ref D) H') (σ++List.replicate n none) (upd H2 D<|.lst []))
  (ya:∀ D C H' s' m,Inv X pins σ H' s'->s'.heap.Ns C m->H' C=none->C≠X.env.locals->X.s₀.heap.objs.size<=C->(∀ x c,X.env.cells.lookup x=some c->c≠C)->(∀ p∈X.pn++pins,p.1≠C)->Q (.ref D) H'->RR (.ref D) C (.ok .next) s') :
  wpAny (model X.prog X.w) X.A (newList []) (λacc s₃=>wpAny (model X.prog X.w) X.A (newFunctionEnv scope X.env.globals (ce scope.names X.env.cells []) [] X.env.qual none .none<|some X.env) (λiz s₄=>
   codeAny (model X.prog X.w) X.A (.compStart (.ListComp elt [⟨tg,iter,ifs,0⟩] scope pos) 0 (.ref it) acc {iz with scope:=relabel scope X.env}) (RR acc iz.locals) s₄) E s₃) E s2:=
 HI (newAcc:=newList []) (o0:={cls:= .type "list",dict:=none,data:= .seq ([]:List Value).toArray}) (u0:=λ_=> .lst []) (λ_ _ _ h=>DN h<|by show(0:Nat)<=sizeLine;exact Bo _) (λ_ _ _=>⟨Bo _,[],0,.nil,Bb _ rfl⟩) hc ck hl (λ_ _=>R9) I2 T fm f2 (λD hD=>Sb<|q D hD) ya
end
section
variable{X:Cx}{elt tg iter c:Expr}{ifs:List Expr}{scope:Scope}{pos p:Pos}{wi:TI}{σ:St}{H:Hp}{Q:VK}{T:Bool->Hp->Prop}{rest:List Stmt}{D:Ends}
theorem fY(h:T true H):Ei X [] σ H T:=⟨λpins s I=>Rr pins s σ H T I h⟩
theorem oQ(sc:Scope)(N N':List Str)(n:Nat)(hi:PI X tg iter wi)
  (h:wi σ H λJ H1=>∀ D,H1 D=none->kz X N' scope tg ifs elt J D (λH'=>Q (.ref D) H') (σ++List.replicate n none) (upd H1 D<|.lst []))
  (hc:X.calm=true:=by rfl) (gP:X.env.scope=sc:=by rfl) (hN:X.N=N:=by rfl) (hk:jH sc scope N N'=true:=by decide +kernel) (hl:N'.length=N.length+n:=by rfl)
  (hs:∀ x,foldedSetIterable iter X.env x=pure x:=by intro _;rfl):Ev X (.ListComp elt [⟨tg,iter,ifs,0⟩] scope pos) σ H Q:=by
 refine⟨λpins s I=>?_⟩;subst gP hN;have ck:=b5.of hk;rw [eval_ListComp];refine HX (use:=none) rfl hs (xG λx hx hf=>I.ok.has x.1<|ck.free x hx hf) ck.kind ck.names (aH (hi pins s σ H _ I h) λv s1 h1=>aH h1 λlP s2 h2=>?_);obtain⟨it,fp,tn,J,H2,e,I2,T,fm,f2,q⟩:=h2;subst e;refine HL (RR:=λacc C=>compPost (model X.prog X.w) X.A X.xe none (EP X pins σ Q) acc C) hc ck hl I2 T fm f2 q ?_;intro D C H' s' m IX hn hC c1 c2 c3 c4 qq;exact⟨m,hn,λh' fK=>⟨.ref D,H',IX.turned (t':=s'.toks) (λb o hb e=>fK.extBut b o hb e) hC (CG<|CG c1) (.inr c2) c3 c4,rfl,qq⟩⟩
theorem Sd(i:Nat){y:Str}{py qO:Pos}(sc:Scope)(N N':List Str)(n:Nat)(gQ:X.N.Nodup)(hi:PI X tg iter wi)
  (h:wi σ H λJ H1=>∀ A,H1 A=none->kz X N' scope tg ifs elt J A (λH'=>Run X rest D (σ.set i<|some<|.ref A) H') (σ++List.replicate n none) (upd H1 A<|.lst []))
  (Se:X.N[i]?=some y:=by rfl) (hy:Loc X.env.scope y:=by first | exact Or.inl rfl | exact Or.inr rfl)
  (Sf:swapsWith (.ListComp elt [⟨tg,iter,ifs,0⟩] scope pos) (some<|.Name y py) qO.line X.env=pure true:=by rfl)
  (hc:X.calm=true:=by rfl) (gP:X.env.scope=sc:=by rfl) (hN:X.N=N:=by rfl) (hk:jH sc scope N N'=true:=by decide +kernel) (hl:N'.length=N.length+n:=by rfl)
  (hs:∀ x,foldedSetIterable iter X.env x=pure x:=by intro _;rfl) (hf:X.fn y=true\/X.env.scope.names.lookup y=some .local:=by first | exact .inl rfl | exact .inr rfl | assumption) :
  Run X (.Assign [.Name y py] (.ListComp elt [⟨tg,iter,ifs,0⟩] scope pos) qO :: rest) D σ H:=by
 refine iw (t:=λD' σ H=>wi σ H λJ H1=>∀ A,H1 A=none->kz X N' scope tg ifs elt J A (λH'=>D'.nx (σ.set i<|some<|.ref A) H') (σ++List.replicate n none) (upd H1 A<|.lst [])) ?_ h;intro pins s σ H D I h;subst gP hN;have ck:=b5.of hk;rw [exec_Assign_Name_used _ _ _ _ Sf];refine BK<|FQ<|BK ?_;show wpAny _ X.A (do let _ <- comprehension (.ListComp elt [⟨tg,iter,ifs,0⟩] scope pos) scope X.env _ (newList []) false (eval iter X.env)<|some<|assign (.Name y py) X.env) _ _ s;refine BK<|CK (HX (use:=some<|assign (.Name y py) X.env) (Q:=λ_ s'=>SP X pins D .next s') rfl hs (xG λx hx hf=>I.ok.has x.1<|ck.free x hx hf) ck.kind ck.names
  (aH (hi pins s σ H _ I h) λv s1 h1=>aH h1 λlP s2 h2=>?_)) (λ_ s' hq=>BP<|BP hq) λ_ _ e=>e
 obtain⟨it,fp,tn,J,H2,e,I2,T,fm,f2,q⟩:=h2;subst e;refine HL (Q:=λx H1=>D.nx (σ.set i<|some x) H1) (RR:=λacc C=>compPost (model X.prog X.w) X.A X.xe (some<|assign (.Name y py) X.env) (λ_ s'=>SP X pins D .next s') acc C) hc ck hl I2 T fm f2 q ?_;intro D' C H' s' m IX hn hC c1 c2 c3 c4 qq;show wpAny _ X.A (assign (.Name y py) X.env<|.ref D') _ _ _;refine wpAny_assign_Name<|FO IX gQ Se hy (v:= .ref D') rfl (λqp Sg yc=>?_) hf;obtain⟨a,yc,ha⟩:=yc;have Sh:C≠a:=by
  rcases ha with ha | ha
  ·rw [ha];exact c1
  ·exact CG<|c3 _ _ ha
 refine⟨m,hn.sameBut yc Sh,λh' fK=>⟨_,H',Sg.turned (t':=qp.toks) (λb o hb e=>fK.extBut b o hb e) hC c1 (.inr c2) c3 c4,qq⟩⟩
end
structure aY(P:Program)(w:World)(K:PySem.W.Frag)(mg:Str->Option Value)(base:Heap)(k:Nat)(x:Str)(ps:List Str)(sp:Sp):Prop where
 ex:∃ f fd,aI P w K mg base bH k f fd ps sp/\Binds K fd ps []/\PySem.W.keepIn K (.ref f)=true/\mg x=some (.ref f)
theorem aY.mono{P:Program}{w:World}{K:PySem.W.Frag}{mg:Str->Option Value}{base:Heap}{j k:Nat}{x:Str}{ps:List Str}{sp:Sp}(h:aY P w K mg base j x ps sp)(le:j<=k):aY P w K mg base k x ps sp:=
 let ⟨f,fd,F,r⟩:=h.ex;⟨f,fd,F.mono le,r⟩
theorem bN{X:Cx}{k:Nat}{ps:List Str}{sp:Sp}{x:Str}{e:Expr}{es:List Expr}{σ:St}{H:Hp}{Q:VK}{p pos:Pos}(G:aY X.prog X.w X.K X.mg X.base k x ps sp)(hr:bx k X.A)
  (h:Ea X (e :: es) σ H λvs H1=>sp vs H1 Q E0) (hg:Gl X x:=by rfl) (dU:(x == ("__debug__" : Str))=false:=by decide) (hs:noStar (e :: es)=true:=by rfl):Ev X (.Call (.Name x p) (e :: es) [] pos) σ H Q:=
 let ⟨_,_,F,b,kp,m⟩:=G.ex;RH F hr m kp b iu h hg dU hs
theorem _root_.L2.bx.iA{k:Nat}{A:Around}(hr:bx k A):A.units+100 < cLine:=by have:=hr.un;omega
theorem _root_.L2.bx.u1{k:Nat}{A:Around}(hr:bx k A):A.units+1 < cLine:=by have:=hr.un;omega
def Df(K:PySem.W.Frag)(x:Str)(st:Stmt):Prop:=∃(f:Addr) (fd:FuncData),PySem.W.nsIn K mainGlobals x=some (some<|.ref f)/\bM K x x st f fd
theorem aN{K:PySem.W.Frag}{x:Str}{st:Stmt}{f:Addr}{oc kV doc pm bF ct:Value}{od an:Option Addr}{sl:Array (Option Value)}(a:PySem.W.nsIn K mainGlobals x=some (some<|.ref f))
  (l:K.lookup f=some ⟨oc,od,.func<|PySem.W.fnOf x x (me st) (g8 st) (bm st) .none kV doc pm an bF ct,sl⟩) (c:PySem.W.codeIn K bF x=true) (k:PySem.W.keepIn K (.ref f)=true):Df K x st:=⟨f,_,a,Q7 l c k⟩
structure HM where
 f:Addr
 bF:Value
 A:Around
 outer:List Env
 s:Shared
 H:Hp
 E:XK
def Si(N:List Str)(qual:Str)(scope:Scope)(P:Program)(w:World)(K:PySem.W.Frag)(mg:Str->Option Value)(base:Heap)(b:HM):Cx:=(eR bH P w K mg base N qual scope b.f b.bF b.A b.outer b.s b.H b.E).oB
def En(Q:VK):Ends:={nx:=λ_ H'=>Q .non H',rt:=Q}
theorem bM.gb{P:Program}{w:World}{K:PySem.W.Frag}{mg:Str->Option Value}{base:Heap}{x qual:Str}{st:Stmt}{f:Addr}{fd:FuncData}{N ps:List Str}{k:Nat}{sp:Sp}(F:bM K x qual st f fd)(S:ao N ps<|bm st)(len:∀ vs H Q E,sp vs H Q E->vs.length=ps.length)
  (de:∀(b:HM) (H:Hp) (vs:List V) (Q:VK) (E:XK),bx k (b.A.deeper<|envOfC qual (bm st) b.s.heap.objs.size b.f b.bF)->sp vs H Q E->Run (Si N qual (bm st) P w K mg base b) (g8 st) (En Q) (start N vs) H):aI P w K mg base bH (k+1) f fd ps sp:=
 F.go S len λbF A outer s H vs Q E hr cY=>de ⟨f,bF,A,outer,s,H,E⟩ H vs Q E hr cY
theorem jc{us:List Value}{k:Nat}(h:us.length=k+1):∃ a r,us=a :: r/\r.length=k:=by
 cases us with
 | nil=>cases h
 | cons a r=>exact⟨a,r,rfl,Nat.succ.inj h⟩
theorem fu{fd:FuncData}{ps:List Str}(f:∀ a:Value,bindArgs fd ⟨[a],[]⟩=pure (ps.zip [a])):∀ us:List Value,us.length=1->bindArgs fd ⟨us,[]⟩=pure (ps.zip us):=λus h=>by
 obtain⟨a,r0,e0,h0⟩:=jc h;have z:=Bh.mp h0;subst z e0;exact f a
theorem qP{fd:FuncData}{ps:List Str}(f:∀ a b:Value,bindArgs fd ⟨[a,b],[]⟩=pure (ps.zip [a,b])):∀ us:List Value,us.length=2->bindArgs fd ⟨us,[]⟩=pure (ps.zip us):=λus h=>by
 obtain⟨a,r0,e0,h0⟩:=jc h;obtain⟨b,r1,e1,h1⟩:=jc h0;have z:=Bh.mp h1;subst z e1 e0;exact f a b
theorem uk{fd:FuncData}{ps:List Str}(f:∀ a b c:Value,bindArgs fd ⟨[a,b,c],[]⟩=pure (ps.zip [a,b,c])):∀ us:List Value,us.length=3->bindArgs fd ⟨us,[]⟩=pure (ps.zip us):=λus h=>by
 obtain⟨a,r0,e0,h0⟩:=jc h;obtain⟨b,r1,e1,h1⟩:=jc h0;obtain⟨c,r2,e2,h2⟩:=jc h1;have z:=Bh.mp h2;subst z e2 e1 e0;exact f a b c
theorem HP{fd:FuncData}{ps:List Str}(f:∀ a b c d:Value,bindArgs fd ⟨[a,b,c,d],[]⟩=pure (ps.zip [a,b,c,d])):∀ us:List Value,us.length=4->bindArgs fd ⟨us,[]⟩=pure (ps.zip us):=λus h=>by
 obtain⟨a,r0,e0,h0⟩:=jc h;obtain⟨b,r1,e1,h1⟩:=jc h0;obtain⟨c,r2,e2,h2⟩:=jc h1;obtain⟨d,r3,e3,h3⟩:=jc h2;have z:=Bh.mp h3;subst z e3 e2 e1 e0;exact f a b c d
theorem Df.has{P:Program}{w:World}{K:PySem.W.Frag}{mg:Str->Option Value}{h base:Heap}{k:Nat}{x:Str}{st:Stmt}{ps:List Str}{sp:Sp}(d:Df K x st)(X:K.In h)(G:h.Ns mainGlobals mg)
  (hb:∀(kV doc pm:Value) (an:Option Addr) (bF ct:Value) (us:List Value),us.length=ps.length->bindArgs (PySem.W.fnOf x x (me st) (g8 st) (bm st) .none kV doc pm an bF ct) ⟨us,[]⟩=pure (ps.zip us))
  (ok:∀{f:Addr} {fd:FuncData},bM K x x st f fd->aI P w K mg base bH k f fd ps sp):aY P w K mg base k x ps sp:=
 let ⟨f,fd,a,F⟩:=d;⟨f,fd,ok F,F.binds hb,F.kp,PySem.W.mg_of X G a⟩
theorem Df.law{P:Program}{w:World}{K:PySem.W.Frag}{mg:Str->Option Value}{h:Heap}{k:Nat}{x y:Str}{st:Stmt}{sp:Sp}{fa:Addr}(d:Df K x st)(X:K.In h)(G:h.Ns mainGlobals mg)(yd:mg x=some (.ref fa))
  (hb:∀(kV doc pm:Value) (an:Option Addr) (bF ct:Value) (s:Shared) (v:Value),BindsTo s (PySem.W.fnOf x x (me st) (g8 st) (bm st) .none kV doc pm an bF ct) ⟨[v],[]⟩ [(y,v)])
  (ok:∀(base:Heap) {f:Addr} {fd:FuncData},bM K x x st f fd->aI P w K mg base bH k f fd [y] sp) :
  ∃ fd:FuncData,(∀(s:Shared) (v:Value),BindsTo s fd ⟨[v],[]⟩ [(y,v)])/\∀ base:Heap,K.In base->base.Ns mainGlobals mg->aI P w K mg base bH k fa fd [y] sp:=by
 obtain⟨f,fd,a,F⟩:=d;have e:=yd.symm.trans<|PySem.W.mg_of X G a;cases e;obtain⟨oc,od,kV,doc,pm,an,bF,ct,jA,rfl,lk,g7⟩:=id F.ex;exact⟨_,hb kV doc pm an bF ct,λbase _ _=>ok base F⟩
end L2
namespace cb
open PySem
def jJ(w:World):Bool:=w.params.followText "set-order"
def keyOf(e:Int×Value):Str:=match e.2 with
 | .str x _=>x
 | _=>⟨#[]⟩
section
variable(prog:Program)(w:World)
def HQ(e:Int×Value):Prop:=∃ z t,e=((strKind prog w).hash z,Value.str z t)
structure Tab(es:Array<|Int×Value)(t:SetTable)(zs:List Str):Prop where
 elts:∀ e∈es.toList,HQ prog w e
 keys:(es.toList.map keyOf).Perm zs
 nodup:zs.Nodup
 few:zs.length < 1000
 fits:t.fits es.size=true
 led:t.led = !jJ w
 plain:es=#[]\/t.plain=false
def bt(h:Heap)(a:Addr)(zs:List Str):Prop:=∃ o es ep t,h.get? a=some o/\o.ExactSet/\o.data = .set es ep t/\Tab prog w es t zs
end
section
variable{prog:Program}{w:World}{es:Array (Int×Value)}{t:SetTable}{zs:List Str}{h h':Heap}{a:Addr}
theorem Tab.elems(T:Tab prog w es t zs):ElemsOf (strKind prog w) es.toList:=λe he=>by
 obtain⟨z,u,rfl⟩:=T.elts e he;exact⟨⟨z,KJ _ _ _ _,rfl⟩,rfl⟩
theorem Tab.size(T:Tab prog w es t zs):es.size=zs.length:=by
 have:=T.keys.length_eq;rw [Aa,Cn] at this;exact this
theorem Tab.mF(T:Tab prog w es t zs):es.size < 1000:=by rw [T.size];exact T.few
theorem Tab.scan(T:Tab prog w es t zs):es.size < scanBound:=by have:=T.mF;unfold scanBound;omega
theorem Tab.perm{dS:Array (Int×Value)}{t':SetTable}(T:Tab prog w es t zs)(p:dS.toList.Perm es.toList)(hf:t'.fits dS.size=true)(hl:t'.led=t.led)(hp:dS=#[]\/t'.plain=false):Tab prog w dS t' zs:=
 ⟨λe he=>T.elts e<|p.mem_iff.mp he,(p.map keyOf).trans T.keys,T.nodup,T.few,hf,hl.trans T.led,hp⟩
theorem bt.keep(S:bt prog w h a zs)(k:∀ o,h.get? a=some o->h'.get? a=some o):bt prog w h' a zs:=let ⟨o,es,ep,t,h1,h2⟩:=S;⟨o,es,ep,t,k o h1,h2⟩
theorem bt.typeIs{s:Shared}(S:bt prog w s.heap a zs):s.TypeIs (.ref a) "set":=let ⟨o,_,_,_,h1,h2,_⟩:=S;⟨o,h1,h2.1⟩
theorem HR{o:Obj}{ep:Nat}{dS:Array (Int×Value)}{t':SetTable}{fZ:List Str}(ho:h.get? a=some o)(hx:o.ExactSet)(hd:o.data = .set es ep t)(T':Tab prog w dS t' fZ) :
  (h.update a<|Obj.putSet dS t').get? a=some {o with data:= .set dS (ep+1) t'}/\bt prog w (h.update a<|Obj.putSet dS t') a fZ:=by
 have q:=Heap.get?_update_self (Obj.putSet dS t') ho (by rw [putSet_of dS t' hd];rfl);rw [putSet_of dS t' hd] at q;exact⟨q,_,dS,ep+1,t',q,hx,rfl,T'⟩
theorem ye{e:Int×Value}(he:HQ prog w e)(z:Str):(strKind prog w).is z e.2=decide (z=keyOf e):=by
 obtain⟨y,u,rfl⟩:=he;exact KeyKind.is_eq_decide (KJ prog w y u) z
theorem find_none(T:Tab prog w es t zs){z:Str}(hz:z∉zs):es.toList.findIdx? (λe=>(strKind prog w).is z e.2)=none:=by
 rw [List.findIdx?_eq_none_iff];intro e he;rw [ye<|T.elts e he,MF];rintro rfl;exact hz<|T.keys.mem_iff.mp<|List.mem_map_of_mem he
theorem find_some(T:Tab prog w es t zs){z:Str}(hz:z∈zs):∃ j,∃ hj:j < es.toList.length,es.toList.findIdx? (λe=>(strKind prog w).is z e.2)=some j/\keyOf es.toList[j]=z:=by
 obtain⟨e,he,e2⟩:=Aj.mp<|T.keys.mem_iff.mpr hz;cases q:es.toList.findIdx? (λe=>(strKind prog w).is z e.2) with
 | none=>
  have:=List.findIdx?_eq_none_iff.mp q e he;rw [ye<|T.elts e he,MF] at this;exact absurd e2.symm this
 | some j=>
  obtain⟨hj,p,_⟩:=List.findIdx?_eq_some_iff_getElem.mp q;rw [ye<|T.elts _<|Bn hj,DR] at p;exact⟨j,hj,rfl,p.symm⟩
theorem Sj(t:SetTable)(n:Nat):(t.orStandIn n).led=t.led/\((t.orStandIn n).plain=true->t.plain=true):=by
 unfold SetTable.orStandIn
 split
 ·exact⟨rfl,id⟩
 ·exact⟨rfl,λh=>by cases h⟩
theorem Sl(t:SetTable)(es:Array<|Int×Value)(x:Int)(v:Value):(layNew t es x v).2.1.led=t.led:=by
 unfold layNew
 split
 ·exact(Sj _ _).1
 ·rfl
theorem Sn{mask f m:Nat}{l p:Bool}{hs:Array Int}{t':SetTable}{o:Array Nat}(e:SetTable.laid mask f m l p hs=some (t',o)):t'.led=l/\t'.plain=p:=by
 unfold SetTable.laid at e;cases c:SetTable.layClean mask hs with
 | none=>rw [c] at e;cases e
 | some ow=>rw [c] at e;cases e;exact⟨rfl,rfl⟩
theorem HU(t:SetTable)(es:Array<|Int×Value)(n:Nat)(hp:t.plain=false):(relayAll t es n).2.1.led=t.led/\(relayAll t es n).2.1.plain=false:=by
 unfold relayAll
 split
 ·rename_i t' o e;have q:=Sn e
  dsimp only
  split
  ·exact⟨q.1,q.2.trans hp⟩
  ·exact⟨rfl,rfl⟩
 ·exact⟨rfl,rfl⟩
end
section
variable{prog:Program}{w:World}{A:Around}{E:Value->Shared->Prop}{s:Shared}{a:Addr}{zs:List Str}
theorem HV{n:Nat}(h:n < 1001):n<=sizeLine:=by rw [DG];omega
theorem HZ{g:Bool->Sem Unit}(hg:∀(b:Bool) (s₁:Shared) (Q':Unit->Shared->Prop),Q' () s₁->wpAny (model prog w) A (g b) Q' E s₁)
  {o:Obj} {es:Array (Int×Value)} {ep:Nat} {t:SetTable} (ho:s.heap.get? a=some o) (hx:o.ExactSet) (hd:o.data = .set es ep t)
  {eC:Array (Int×Value)} {t2:SetTable} (T:Tab prog w eC t2 zs) (hp:t2.plain=false) {c:Bool} {R:Option Bool->Shared->Prop}
  (k:∀ h',Heap.SameBut a s.heap h'->bt prog w h' a zs->R (some true) {s with heap:=h'}) :
  wpAny (model prog w) A (do
   storeSet a eC t2
   if c=true then do
     g (relayAll t2 eC<|SetTable.grown eC.size).2.2
     storeSet a (relayAll t2 eC<|SetTable.grown eC.size).1 (relayAll t2 eC<|SetTable.grown eC.size).2.1
     pure (some true)
    else pure (some true)) R E s:=by
 refine BK<|wpAny_storeSet_of ho hd ?_<|HV<|Fa T.mF;obtain⟨q1,q2⟩:=HR ho hx hd T;have sb:=JQ s.heap a<|Obj.putSet eC t2;cases c with
 | false=>exact BP<|k _ sb q2
 | true=>
  have p:=relayAll_perm t2 eC<|SetTable.grown eC.size;have T3:=T.perm p (relayAll_fits t2 eC<|SetTable.grown eC.size) (HU t2 eC _ hp).1<|.inr (HU t2 eC _ hp).2;refine BK<|hg _ _ _ ?_;refine BK<|wpAny_storeSet_of q1 rfl ?_ (HV<|Fa T3.mF);exact BP<|k _ (sb.trans<|JQ _ a _) (HR q1 hx rfl T3).2
def added(zs:List Str)(z:Str):List Str:=if z∈zs then zs else zs++[z]
theorem Sq{z:Str}{tk:Tok}{Q:Bool->Shared->Prop}(S:bt prog w s.heap a zs)(hb:zs.length+1 < 1000)
  (k:∀(b:Bool) h',Heap.SameBut a s.heap h'->bt prog w h' a (added zs z)->Q b {s with heap:=h'}) :
  wpAny (model prog w) A (setAddHashed a (.str z tk)<|(strKind prog w).hash z) Q E s:=by
 obtain⟨o,es,ep,t,ho,hx,hd,T⟩:=S;unfold setAddHashed setAddHashedIn;refine CQ<|BK<|wpAny_setState_of ho hd T.fits ?_
 dsimp only
 rw [byScan_of (knd:=strKind prog w) (x:= .str z tk) rfl T.scan T.elems];simp only [↓reduceIte];unfold setAddByScan;refine BK<|BK<|FZ<|BK<|wpAny_setScan_of (knd:=strKind prog w) (k:=z) (KJ _ _ _ _) ho hd T.fits T.elems ?_
 by_cases hz:z∈zs
 ·obtain⟨j,hj,e,_⟩:=find_some T hz;rw [e]
  dsimp only
  refine BP<|BP<|k false s.heap (Heap.SameBut.refl a s.heap) ?_;unfold added;rw [BL hz];exact⟨o,es,ep,t,ho,hx,hd,T⟩
 ·rw [find_none T hz]
  dsimp only
  have gw:∀(b:Bool) (s₁:Shared) (Q':Unit->Shared->Prop),Q' () s₁->wpAny (model prog w) A (match b with | true=>rule "set.scan.the-table-gave-way" | false=>pure ()) Q' E s₁:=
   λb s₁ Q' q=>by cases b <;> first | exact BP q | exact FZ q
  have p:=layNew_perm t es ((strKind prog w).hash z)<|.str z tk;have f:=layNew_fits t es ((strKind prog w).hash z)<|.str z tk;have l:=Sl t es ((strKind prog w).hash z)<|.str z tk;generalize layNew t es ((strKind prog w).hash z) (.str z tk)=L at p f l ⊢;obtain⟨eC,t1,wd,gv⟩:=L
  dsimp only at p f l ⊢
  rw [Array.toList_push] at p;have tab:∀ t2:SetTable,t2.fits eC.size=true->t2.led=t1.led->t2.plain=false->Tab prog w eC t2 (zs++[z]):=λt2 h1 h2 h3=>{
   elts:=λe he=>by
    rcases Aq.mp (p.mem_iff.mp he) with he | he
    ·exact T.elts e he
    ·exact⟨z,tk,Am.mp he⟩
   keys:=by
    refine(p.map keyOf).trans ?_;rw [Ah];exact T.keys.append<|List.Perm.refl _
   nodup:=by
    rw [Bu];refine⟨T.nodup,by simp,λx hx y hy e=>?_⟩;rw [Am] at hy;subst hy e;exact hz hx
   few:=by rw [Af];exact hb
   fits:=h1
   led:=h2.trans<|l.trans T.led
   plain:= .inr h3}
  have fin:∀ h',Heap.SameBut a s.heap h'->bt prog w h' a (zs++[z])->Q true {s with heap:=h'}:=λh' q1 q2=>k true h' q1 (by unfold added;rw [BJ hz];exact q2);refine BK<|gw _ _ _ ?_
  split
  ·rename_i hp;refine BK ?_;rw [hashByValue_scannable 8 rfl];refine BP ?_;refine HZ gw ho hx hd (tab {t1 with plain:=false} (SetTable.fits_plain_off f) rfl rfl) rfl λh' q1 q2=>?_
   dsimp only
   exact BP<|fin h' q1 q2
  ·rename_i hp;refine BK<|BP ?_;simp only [↓reduceIte];refine HZ gw ho hx hd (tab t1 f rfl (Fb.mpr hp)) (Fb.mpr hp) λh' q1 q2=>?_
   dsimp only
   exact BP<|fin h' q1 q2
theorem Sr{z:Str}{tk:Tok}{Q:Option Nat->Shared->Prop}{o:Obj}{es:Array (Int×Value)}{ep:Nat}{t:SetTable}(ho:s.heap.get? a=some o)(hd:o.data = .set es ep t)(T:Tab prog w es t zs)
  (k0:z∉zs->Q none s) (k1:∀ j,(hj:j < es.toList.length)->keyOf es.toList[j]=z->Q (some j) s):wpAny (model prog w) A (setFind a (.str z tk)<|(strKind prog w).hash z) Q E s:=by
 unfold setFind setFindIn;refine BK<|wpAny_setState_of ho hd T.fits ?_
 dsimp only
 rw [byScan_of (knd:=strKind prog w) (x:= .str z tk) rfl T.scan T.elems];simp only [↓reduceIte];refine BK<|FZ<|BK<|wpAny_setScan_of (knd:=strKind prog w) (k:=z) (KJ _ _ _ _) ho hd T.fits T.elems ?_
 by_cases hz:z∈zs
 ·obtain⟨j,hj,e,q⟩:=find_some T hz;rw [e]
  dsimp only
  rw [Em];exact BP<|k1 j hj q
 ·rw [find_none T hz];exact BP<|k0 hz
theorem cJ{α:Type}:∀(l:List α) (j:Nat) (hj:j < l.length),(l[j] :: l.eraseIdx j).Perm l
 | [],_,h=>by simp at h
 | x :: r,0,_=>List.Perm.refl _
 | x :: r,j+1,h=>(List.Perm.swap x _ _).trans<|(cJ r j<|Nat.lt_of_succ_lt_succ h).cons x
theorem wp_text{Q:Bool->Shared->Prop}(k:Q (jJ w) s):wpAny (model prog w) A setsByText Q E s:=by
 unfold setsByText;exact BK<|wpAny_askSetting<|BP k
variable{o:Obj}{es:Array (Int×Value)}{ep:Nat}{t:SetTable}
end
open Builtin.Frozenset
section
variable{prog:Program}{w:World}{A:Around}{E:Value->Shared->Prop}{s:Shared}{a:Addr}{zs:List Str}
structure mG(w:World)(t:SetTable):Prop where
 place:t.place=#[]
 dummies:t.dummies=#[]
 led:t.led = !jJ w
 plain:t.plain=true
theorem mG.tab{t:SetTable}(B:mG w t):Tab prog w #[] t []:=
 ⟨λe he=>by simp at he,by simp,Cf,by decide,by unfold SetTable.fits SetTable.fill;rw [B.place,B.dummies];simp,B.led,.inl rfl⟩
variable{o:Obj}{ep:Nat}{t:SetTable}
end
section
variable{prog:Program}{w:World}{A:Around}{E:Value->Shared->Prop}{s:Shared}{a r:Addr}{za zr:List Str}
end
theorem Ia(zs:List Str)(z y:Str):y∈added zs z↔y∈zs\/y=z:=by
 unfold added
 split
 ·rename_i h;exact⟨.inl,λq=>q.elim id λe=>e ▸ h⟩
 ·rw [Aq,Am]
section
variable{prog:Program}{w:World}{A:Around}{E:Value->Shared->Prop}{s:Shared}
def qQ(w:World):Obj:={cls:= .type "set",dict:=none,data:= .set #[] 0 (.fresh 0 0 (!jJ w))}
theorem Ss{h:Heap}{a:Addr}(e:h.get? a=some (qQ w)):bt prog w h a []:=⟨_,_,_,_,e,⟨rfl,rfl,rfl⟩,rfl,mG.tab ⟨rfl,rfl,rfl,rfl⟩⟩
variable{R:Result->Shared->Prop}{I:Addr}{fp wr:List Addr}{G:Array GenState->Array GenState->Prop}{n:Nat}{P:Nat->Value->Prop}{St:Nat->Shared->Prop}
end
section
variable{prog:Program}{w:World}{A:Around}{E:Value->Shared->Prop}{s:Shared}{a tp it:Addr}{zs:List Str}{o:Obj}{es:Array (Int×Value)}{ep:Nat}{t:SetTable}{ws:List (Int×Value)}{i:Nat}{first:Value}
open PySem.Spec
end
end cb
namespace cb
open PySem PySem.Spec PyProof.Rows
theorem f9{a b:Str}(h:a.cps.toList=b.cps.toList):a=b:=by
 cases a;cases b;simp only at h;have:=Array.toList_inj.mp h;rw [this]
section
variable{prog:Program}{w:World}{A:Around}{E:Value->Shared->Prop}{s:Shared}{a:Addr}{zs:List Str}
end
end cb
namespace L2
open PySem PySem.Spec PyProof.Rows cb
def bU(prog:Program)(w:World)(a:Addr)(zs:List Str):HO:= .ext λh=>bt prog w h a zs
section
variable{X:Cx}{pins:List (Addr×Obj)}{σ:St}{H:Hp}{s s':Shared}{a:Addr}{zs:List Str}
theorem Inv.like(I:Inv X pins σ H s)(e1:s'.heap=s.heap)(e2:s'.gens=s.gens)(e3:s'.os=s.os):Inv X pins σ H s':=by
 obtain⟨h,g,d,t,o⟩:=s;obtain⟨h',g',d',t',o'⟩:=s';simp only at e1 e2 e3;subst e1 e2 e3;exact⟨I.ok,I.os,I.bare,I.base,I.loc,I.cell,I.free,I.bX,I.pin,I.aE,I.len⟩
theorem Inv.kC{o:HO}(I:Inv X pins σ H s)(k:∀ b u,s.heap.get? b=some u->s'.heap.get? b=some u)(e2:s'.gens=s.gens)(e3:s'.os=s.os)(hp:s.heap.objs.size<=a)(new:ay X.prog X.w (upd H a o) s'.heap a o):Inv X pins σ (upd H a o) s':=
 (I.laid (t':=s.toks) k hp new).like (s':=s') rfl e2 e3
theorem Ib{h:Heap}(S:bt X.prog X.w h a zs):ay X.prog X.w H h a (bU X.prog X.w a zs):=by
 refine⟨S,?_,λh1 h2 q k=>q.keep k⟩;obtain⟨o,_,_,_,ho,_⟩:=S;exact⟨o,ho⟩
theorem Inv.set(I:Inv X pins σ H s)(h:H a=some (bU X.prog X.w a zs)):bt X.prog X.w s.heap a zs:=(I.aE a _ h).1
end
end L2
namespace L2
open PySem PySem.Spec PyProof.Rows
section
variable{X:Cx}{o e:Expr}{σ:St}{H:Hp}{Q:VK}{ap cp:Pos}
theorem kD (h:Ev X o σ H λx H1=>∃ l,x = .ref l/\(∃ xs,H1 l=some (.lst xs))/\Ev X e σ H1 λy H2=>∃ xs,H2 l=some (.lst xs)/\xs.length < sizeLine/\Q .non (upd H2 l<|.lst<|xs++[y]))
  (bZ:attributeBase o "append" X.env (eval o X.env)=eval o X.env:=by rfl)
  (dY:((backTo cp<|starEach [e] X.env).all (λx=>!x.1) && (backToKw cp<|keywordEach [] X.env).all (λx=>x.1.isSome) && decide ([e].length+([]:List Keyword).length+(if([]:List Keyword).isEmpty then 0 else 1) < 30))=true:=by rfl)
  (hline:(ap.endLine == cp.line)=true:=by rfl) (hs:starEach [e] X.env=(false,eval e X.env) :: starEach [] X.env:=by rfl) (bO:(backTo cp<|starEach [] X.env).any (·.1)=false:=by rfl) (cA:isStar e=false:=by rfl) :
  Ev X (.Call (.Attribute o "append" ap) [e] [] cp) σ H Q:=by
 refine c6 (xo EY PySem.F.slot_list_append PySem.F.type_list_append GU bw (fH (es:=[e])) bZ dY hline hs bO)<|h.mono λx H1 ⟨l,ex,⟨xs,hl⟩,h2⟩=>?_;subst ex;refine⟨.inl ⟨rfl,xs,au.of hl⟩,?_⟩;exact ai (h2.mono λy H2 ⟨ys,hy,hz,q⟩=>aD ⟨l,ys,y,rfl,rfl,hy,hz,q⟩) cA
end
section
variable{X:Cx}{c:Expr}{body i7 rest:List Stmt}{D:Ends}{σ:St}{H:Hp}{pos:Pos}
theorem Run.nx{M M':St->Hp->Prop}{l:List Stmt}(h:Run X l {D with nx:=M} σ H)(f:∀ σ' H',M σ' H'->M' σ' H'):Run X l {D with nx:=M'} σ H:=
 ⟨λpins s I => aH (h.run pins s I) λfl s' q => by
  cases fl with
  | next=>
   obtain⟨σ',H',I',m⟩:=q;exact⟨σ',H',I',f σ' H' m⟩
  | _=>exact q⟩
theorem Ic(φ ψ:Prop)(M:St->Hp->Prop)(hc:∀ T:Bool->Hp->Prop,(∀ k:Bool,(k=true->φ)->(k=false->ψ)->T k H)->Et X c σ H T)(ht:φ->Run X body {D with nx:=M} σ H)(hu:ψ->Run X i7 {D with nx:=M} σ H)
  (hr:∀ σ' H',M σ' H'->Run X rest D σ' H'):Run X (.If c body i7 pos :: rest) D σ H:=
 Hv φ ψ hc (λp=>(ht p).nx hr) (λp=>(hu p).nx hr)
end
def mH(X:Cx)(H:Hp)(k:Nat)(x y:V)(b:Bool):Prop:=∀(pins:List<|Addr×Obj) (σ:St) (s:Shared) (A:Around) (u v:Value),Inv X pins σ H s->A.units+k < cLine->RelV x u->RelV y v->SeqAt.EqAt A s u v b
def qR(X:Cx)(H:Hp)(k:Nat)(x y:V)(b:Bool):Prop:=∀(pins:List<|Addr×Obj) (σ:St) (s:Shared) (A:Around) (u v:Value),Inv X pins σ H s->A.units+k < cLine->RelV x u->RelV y v->SeqAt.RcAt A s u v b
def oR(X:Cx)(H:Hp)(k:Nat)(x y:V)(b:Bool):Prop:=∀(pins:List<|Addr×Obj) (σ:St) (s:Shared) (A:Around) (u v:Value),Inv X pins σ H s->A.units+k < cLine->RelV x u->RelV y v->SeqAt.RcNeAt A s u v (!b)
section
variable{X:Cx}{H:Hp}{k:Nat}{a b:Addr}{xs ys:List V}
theorem ul{x y:V}(fx:t6 x=true)(fy:t6 y=true):mH X H k x y (dI x y):=λ_ _ _ _ _ _ _ _ rx ry=>QA rx ry fx fy
theorem kE{us:List Value}(r:ax xs us){j:Nat}(h:j < us.length):∃ x,xs[j]?=some x/\RelV x us[j]:=by
 have hl:=r.length;have hj:j < xs.length:=by omega
 obtain⟨u,e,q⟩:=r.get<|Ab hj;rw [Ab h] at e;cases e;exact⟨_,Ab hj,q⟩
theorem Z5(e:Nat->Bool)(ha:au X.K H a xs)(hb:au X.K H b ys)(hl:xs.length=ys.length)(he:∀ j x y,xs[j]?=some x->ys[j]?=some y->mH X H k x y (e j)):qR X H (k+1) (.ref a) (.ref b) ((List.range xs.length).all e):=λpins σ s A u v I hu rx ry=>by
 cases rx;cases ry;obtain⟨i1,r1,p1,_⟩:=I.list ha;obtain⟨i2,r2,p2,_⟩:=I.list hb;have l1:=r1.length;have l2:=r2.length;have q:=SeqAt.RcAt.lists (A:=A) (e:=e) p1.isList p2.isList (by simp;omega) (by omega) λj h1 h2=>by
  obtain⟨x,ex,qx⟩:=kE r1 (j:=j) (by simpa using h1);obtain⟨y,ey,qy⟩:=kE r2 (j:=j) (by simpa using h2);exact he j x y ex ey pins σ s A.in1 _ _ I (by show A.units+1+k < cLine;omega) (by simpa using qx)<|by simpa using qy
 rw [As,<- l1] at q;exact q
theorem Ie(e:Nat->Bool)(ha:au X.K H a xs)(hb:au X.K H b ys)(hl:xs.length=ys.length)(he:∀ j x y,xs[j]?=some x->ys[j]?=some y->mH X H k x y (e j)):oR X H (k+1) (.ref a) (.ref b) ((List.range xs.length).all e):=λpins σ s A u v I hu rx ry=>by
 cases rx;cases ry;obtain⟨i1,r1,p1,_⟩:=I.list ha;obtain⟨i2,r2,p2,_⟩:=I.list hb;have l1:=r1.length;have l2:=r2.length;have q:=SeqAt.RcNeAt.lists (A:=A) (e:=e) p1.isList p2.isList (by simp;omega) (by omega) λj h1 h2=>by
  obtain⟨x,ex,qx⟩:=kE r1 (j:=j) (by simpa using h1);obtain⟨y,ey,qy⟩:=kE r2 (j:=j) (by simpa using h2);exact he j x y ex ey pins σ s A.in1 _ _ I (by show A.units+1+k < cLine;omega) (by simpa using qx)<|by simpa using qy
 rw [As,<- l1] at q;exact q
theorem Z6(ha:au X.K H a xs)(hb:au X.K H b ys)(hl:xs.length≠ys.length):qR X H k (.ref a) (.ref b) false:=λpins σ s A u v I hu rx ry=>by
 cases rx;cases ry;obtain⟨i1,r1,p1,_⟩:=I.list ha;obtain⟨i2,r2,p2,_⟩:=I.list hb;have l1:=r1.length;have l2:=r2.length;exact SeqAt.RcAt.lists_lengths p1.isList p2.isList (by simp;omega)<|by omega
theorem Ig(ha:au X.K H a xs)(hb:au X.K H b ys)(hl:xs.length≠ys.length):oR X H k (.ref a) (.ref b) false:=λpins σ s A u v I hu rx ry=>by
 cases rx;cases ry;obtain⟨i1,r1,p1,_⟩:=I.list ha;obtain⟨i2,r2,p2,_⟩:=I.list hb;have l1:=r1.length;have l2:=r2.length;exact SeqAt.RcNeAt.lists_lengths p1.isList p2.isList (by simp;omega)<|by omega
theorem Sv(e:Nat->Bool)(ha:aP X.K H a xs)(hb:aP X.K H b ys)(hl:xs.length=ys.length)(he:∀ j x y,xs[j]?=some x->ys[j]?=some y->mH X H k x y (e j)):qR X H (k+1) (.ref a) (.ref b) ((List.range xs.length).all e):=λpins σ s A u v I hu rx ry=>by
 cases rx;cases ry;obtain⟨i1,r1,p1,_⟩:=I.tuple ha;obtain⟨i2,r2,p2,_⟩:=I.tuple hb;have l1:=r1.length;have l2:=r2.length;have q:=SeqAt.RcAt.tuples (A:=A) (e:=e) p1 p2 (by omega) λj h1 h2=>by
  obtain⟨x,ex,qx⟩:=kE r1 (j:=j) (by simpa using h1);obtain⟨y,ey,qy⟩:=kE r2 (j:=j) (by simpa using h2);exact he j x y ex ey pins σ s A.in1 _ _ I (by show A.units+1+k < cLine;omega) (by simpa using qx)<|by simpa using qy
 rw [As,As,<- l1,<- l2,hl,Nat.min_self,<- hl] at q
 simpa using q
theorem Sw(hu:X.A.units+100 < cLine):cR X (compareOp .Eq) (λx y H Q=>∃ k c,k<=100/\qR X H k x y c/\Q (.bl c) H):=by
 intro pins s σ H x y v u Q I rx ry h;obtain⟨k,c,hk,hc,q⟩:=h;exact hc pins σ s X.A v u I (by omega) rx ry X.prog X.w X.xe _ ⟨.bl c,H,I,rfl,q⟩
theorem um(hu:X.A.units+100 < cLine):cR X (compareOp .NotEq) (λx y H Q=>∃ k c,k<=100/\oR X H k x y c/\Q (.bl (!c)) H):=by
 intro pins s σ H x y v u Q I rx ry h;obtain⟨k,c,hk,hc,q⟩:=h;exact hc pins σ s X.A v u I (by omega) rx ry X.prog X.w X.xe _ ⟨.bl (!c),H,I,rfl,q⟩
theorem Ih(e:Nat->Bool)(ha:aP X.K H a xs)(hb:aP X.K H b ys)(hl:xs.length=ys.length)(he:∀ j x y,xs[j]?=some x->ys[j]?=some y->mH X H k x y (e j)):oR X H (k+1) (.ref a) (.ref b) ((List.range xs.length).all e):=λpins σ s A u v I hu rx ry=>by
 cases rx;cases ry;obtain⟨i1,r1,p1,_⟩:=I.tuple ha;obtain⟨i2,r2,p2,_⟩:=I.tuple hb;have l1:=r1.length;have l2:=r2.length;have q:=SeqAt.RcNeAt.tuples (A:=A) (e:=e) p1 p2 (by omega) λj h1 h2=>by
  obtain⟨x,ex,qx⟩:=kE r1 (j:=j) (by simpa using h1);obtain⟨y,ey,qy⟩:=kE r2 (j:=j) (by simpa using h2);exact he j x y ex ey pins σ s A.in1 _ _ I (by show A.units+1+k < cLine;omega) (by simpa using qx)<|by simpa using qy
 rw [As,As,<- l1,<- l2,hl,Nat.min_self,<- hl] at q
 simpa using q
end
section
variable{X:Cx}{o e f c:Expr}{σ:St}{H:Hp}{Q:VK}{T:Bool->Hp->Prop}{ap cp pos:Pos}{body rest:List Stmt}{D:Ends}
theorem Ii{name:Str}{Ty id:String}{r:V->List V->Hp->VK->Prop}(pa:PlainAttrs Ty)(slot:Slot Ty name id)(qw:typeOf (.builtin id)=pure (.type "method_descriptor"))(hm:xk X id r)
  (h:Ev X o σ H λx H1=>l9 X.K Ty x H1/\Ev X e σ H1 λy H2=>r x [y] H2 Q) (bZ:attributeBase o name X.env (eval o X.env)=eval o X.env:=by rfl)
  (dY:((backTo cp<|starEach [e] X.env).all (λx=>!x.1) && (backToKw cp<|keywordEach [] X.env).all (λx=>x.1.isSome) && decide ([e].length+([]:List Keyword).length+(if([]:List Keyword).isEmpty then 0 else 1) < 30))=true:=by rfl)
  (hline:(ap.endLine == cp.line)=true:=by rfl) (hs:starEach [e] X.env=(false,eval e X.env) :: starEach [] X.env:=by rfl) (bO:(backTo cp<|starEach [] X.env).any (·.1)=false:=by rfl) (cA:isStar e=false:=by rfl):Ev X (.Call (.Attribute o name ap) [e] [] cp) σ H Q:=
 c6 (xo pa slot qw hm bw (fH (es:=[e])) bZ dY hline hs bO) (h.mono λx H1 ⟨t,h2⟩=>⟨t,ai (h2.mono λy H2 q=>aD q) cA⟩)
theorem yf{name:Str}{Ty id:String}{r:V->List V->Hp->VK->Prop}(pa:PlainAttrs Ty)(slot:Slot Ty name id)(qw:typeOf (.builtin id)=pure (.type "method_descriptor"))(hm:xk X id r)
  (h:Ev X o σ H λx H1=>l9 X.K Ty x H1/\Ev X e σ H1 λy H2=>Ev X f σ H2 λz H3=>r x [y,z] H3 Q) (bZ:attributeBase o name X.env (eval o X.env)=eval o X.env:=by rfl)
  (dY:((backTo cp<|starEach [e,f] X.env).all (λx=>!x.1) && (backToKw cp<|keywordEach [] X.env).all (λx=>x.1.isSome) && decide ([e,f].length+([]:List Keyword).length+(if([]:List Keyword).isEmpty then 0 else 1) < 30))=true:=by rfl)
  (hline:(ap.endLine == cp.line)=true:=by rfl) (hs:starEach [e,f] X.env=(false,eval e X.env) :: starEach [f] X.env:=by rfl) (bO:(backTo cp<|starEach [f] X.env).any (·.1)=false:=by rfl) (cA:isStar e=false:=by rfl) (Sx:isStar f=false:=by rfl):Ev X (.Call (.Attribute o name ap) [e,f] [] cp) σ H Q:=
 c6 (xo pa slot qw hm bw (fH (es:=[e,f])) bZ dY hline hs bO) (h.mono λx H1 ⟨t,h2⟩=>⟨t,ai (h2.mono λy H2 h3=>ai (h3.mono λz H3 q=>aD q) Sx) cA⟩)
def insertAt(xs:List V)(i:Nat)(y:V):List V:=xs.take i++y :: xs.drop i
def Sy:V->List V->Hp->VK->Prop:=λx vs H Q=>∃ l xs i y,x = .ref l/\vs=[.int i,y]/\H l=some (.lst xs)/\0<=i/\i.toNat<=xs.length/\xs.length < sizeLine/\Q .non (upd H l<|.lst<|insertAt xs i.toNat y)
theorem Sz{i:Int}(h0:0<=i)(h:i<=16777216):¬(!Builtin.List.listFitsIndex i)=true:=by
 have e:Builtin.List.listFitsIndex i=true:=by
  unfold Builtin.List.listFitsIndex;rw [Cs,DR,DR];omega
 rw [e];exact Ar
theorem Ij:qz X "list.insert" Sy:=by
 intro pins s σ H x vs v us Q I rx rv h;obtain⟨l,xs,i,y,rfl,rfl,hH,h0,hi,hz,q⟩:=h;cases rx;obtain⟨u,w',rfl,ru,dH⟩:=rv.two;obtain⟨tk,rfl⟩:=ru;obtain⟨z,its,n,r,hl,e⟩:=I.fF hH;have hs:sizeLine=16777216:=DG;have z2:its.toArray.size<=sizeLine:=by rw [As,<- hl];exact z
 have mm:=AutoSeq1.list_insert_list_int_val_1 l its.toArray n i tk w' (Sz h0<|by omega) z2;refine KH F.slot_list_insert ⟨_,e,rfl⟩ F.entry_list_insert (F.args_list_insert_3 _ _ _) mm ⟨e,?_⟩;have ef:(λxs:Array Value=>have k:=if i < 0 then(i+(xs.size:Int)).toNat else min i.toNat xs.size;(xs.extract 0 k).push w'++xs.extract k) its.toArray=(its.take i.toNat++w' :: its.drop i.toNat).toArray:=by
  have hn:¬ i < 0:=by omega
  have hm:min i.toNat its.length=i.toNat:=by omega
  simp only [hn,CV,As,hm];apply Array.ext';simp;exact Dx<|by simp
 refine⟨.non,_,I.jB (its':=its.take i.toNat++w' :: its.drop i.toNat) hH e ef ((r.take i.toNat).append<|.cons dH<|r.drop i.toNat) ?_,rfl,q⟩;rw [Af,An,Bj,Cp];omega
def SA:V->List V->Hp->VK->Prop:=λx vs H Q=>∃ a kvs k y,x = .ref a/\vs=[kV k,y]/\H a=some (.dK kvs)/\kvs.length < sizeLine /\
 ((∃ v,aB kvs k=some v/\Q v H)\/(aB kvs k=none/\Q y (upd H a<|.dK<|putK kvs k y)))
theorem SD:qz X "dict.setdefault" SA:=by
 intro pins s σ H x vs v us Q I rx rv h;obtain⟨a,kvs,k,y,rfl,rfl,hH,hz,q⟩:=h;cases rx;obtain⟨u,w',rfl,ru,dH⟩:=rv.two;obtain⟨z,hd,rs,rel,dd⟩:=qI I.aE hH;have hl:=rel.length;refine call_meetsIn F.slot_dict_setdefault dd.typeIs F.entry_dict_setdefault (F.args_dict_setdefault_3 _ _ _) (kt_meets_setdefault (cQ X.prog X.w) a (ko ru) hd w') ⟨rs,dd,by omega,λv hv=>?_,λhn h' g9 hs=>?_⟩
 ·have fv:=rel.val k;rw [hv] at fv
  rcases q with ⟨v',e',q⟩ | ⟨e',_⟩
  ·rw [e'] at fv;exact⟨v',H,I.tok _,fv,q⟩
  ·rw [e'] at fv;exact fv.elim
 ·have fv:=rel.val k;rw [hn] at fv
  rcases q with ⟨v',e',_⟩ | ⟨e',q⟩
  ·rw [e'] at fv;exact fv.elim
  ·have he:∃ q,h'.get? a=some q:=let ⟨q,_,_,hq,_⟩:=g9;⟨q,hq⟩
   have qB:(putK kvs k y).length<=sizeLine:=by have:=fq kvs k y;omega
   exact⟨y,_,kq I (by rw [hH];exact True.intro) hs he<|xC qB hd (rel.put k dH) g9,dH,q⟩
theorem Ik:gJ X (.type "int") (λxs H Q=>∃ b:Bool,xs=[.bl b]/\Q (.int (if b then 1 else 0)) H):=by
 intro pins s σ H xs us Q I r h;obtain⟨b,rfl,q⟩:=h;obtain⟨u,rfl,ru⟩:=vals1 r;cases (show u=Value.bool b from ru);exact call_int_bool ⟨.int (if b then 1 else 0),H,I.tok _,⟨_,rfl⟩,q⟩
theorem SE{i7:List Stmt}(Φ:Bool->Hp->Prop)(M:St->Hp->Prop)(hc:Et X c σ H Φ)(ht:∀ H1,Φ true H1->Run X body {D with nx:=M} σ H1)(hu:∀ H1,Φ false H1->Run X i7 {D with nx:=M} σ H1)
  (hr:∀ σ' H',M σ' H'->Run X rest D σ' H'):Run X (.If c body i7 pos :: rest) D σ H:=
 fX (hc.mono λk H1 p=>by
  cases k with
  | true=>rw [BL rfl];exact(ht H1 p).nx hr
  | false=>rw [BJ Ar];exact(hu H1 p).nx hr)
theorem oS(W:Nat->St->Hp->Prop){m0:Nat}(h0:W m0 σ H)
  (turn:∀ m σ H,W m σ H->Et X c σ H λb H1=>if b=true then Run X body {D with nx:=λσ' H'=>∃ m',m' < m/\W m' σ' H',ct:=λσ' H'=>∃ m',m' < m/\W m' σ' H',bk:=λσ' H'=>Run X rest D σ' H'} σ H1 else Run X rest D σ H1)
  (hp:PassesOwn (model X.prog X.w) X.A X.env X.xe:=by exact HJ):Run X (.While c body [] pos :: rest) D σ H:=by
 refine iw (Pn hp mr oK) ⟨W,⟨m0,h0⟩,λm σ1 H1 w1=>(turn m σ1 H1 w1).mono λb H2 q=>?_⟩;cases b with
 | true=>
  rw [BL rfl] at q;exact⟨λσ' H'=>∃ m',m' < m/\W m' σ' H',λ_ _ h=>h,q⟩
 | false=>
  rw [BJ Ar] at q;exact q
theorem yg(h:∀ p,H p=none->Q (.ref p) (upd H p<|.dK [])):Ev X (.Dict [] [] pos) σ H Q:=c6 Ro h
theorem Il(h:∀ p,H p=none->Q (.ref p) (upd H p<|.dT [])):Ev X (.Dict [] [] pos) σ H Q:=c6 Rp h
theorem fM(hu:X.A.units+1 < cLine)(h:Ev X o σ H λx H1=>Ev X e σ H1 λy H2=>∃ a v,x = .ref a/\aZ H2 a y (some v)/\Q v H2)(hs:mh e:=by intro _ _;rfl):Ev X (.Subscript o e pos) σ H Q:=c6 (Ri hu bw bw hs) h
theorem uo(hu:X.A.units+1 < cLine)(h:Ev X e σ H λy H1=>Ev X o σ H1 λx H2=>∃ a r,x = .ref a/\aZ H2 a y r/\T r.isSome H2)(hm:behindInMarks .In o=false:=by with_unfolding_all rfl):Et X (.Compare e [.In] [o] pos) σ H T:=
 oM (FU (Rj hu bw bw) hm) (h.mono λy H1 h2=>h2.mono λx H2 ⟨a,r,h3,h4,h5⟩=>⟨a,r,h3,h4,_,rfl,h5⟩)
theorem uq(hu:X.A.units+1 < cLine)(h:Ev X e σ H λy H1=>Ev X o σ H1 λx H2=>∃ a r,x = .ref a/\aZ H2 a y r/\T (!r.isSome) H2)(hm:behindInMarks .NotIn o=false:=by with_unfolding_all rfl):Et X (.Compare e [.NotIn] [o] pos) σ H T:=
 oM (FU (Rk hu bw bw) hm) (h.mono λy H1 h2=>h2.mono λx H2 ⟨a,r,h3,h4,h5⟩=>⟨a,r,h3,h4,_,rfl,h5⟩)
theorem oT{p2:Pos}(hu:X.A.units+1 < cLine)(h:Ev X f σ H λv H1=>Ev X o σ H1 λx H2=>Ev X e σ H2 λy H3=>∃ a H4,x = .ref a/\bQ H3 a y v H4/\Run X rest D σ H4)(hs:swapsWith f (some<|.Subscript o e p2) pos.line X.env=pure false:=by rfl) :
  Run X (.Assign [.Subscript o e p2] f pos :: rest) D σ H:=iw (Rl hu bw bw bw hs) h
end
end L2
namespace bJ
open PySem PySem.Spec PyProof.Rows
def lexLt(a b:Int×Int):Bool:=if a.1=b.1 then decide (a.2 < b.2) else decide (a.1 < b.1)
theorem SF(b:Bool)(x y:Value):keyLt' (tuples' b) x y=(do
  let xs <- Builtin.List.listItems x
  let ys <- Builtin.List.listItems y
  for ((p,q),i) in (xs.toList.zip ys.toList).zipIdx do
   if !(<- eqBool p q) then return <- oneLt' (b && i == 0) p q
  return xs.size < ys.size):=rfl
section
variable{prog:Program}{w:World}{A:Around}{E:Value->Shared->Prop}{s:Shared}
def Pr(h:Heap)(a:Addr)(p:Int×Int):Prop:=∃ o n t u,h.get? a=some o/\o.cls = .type "tuple"/\o.data = .seq #[.int p.1 t,.int p.2 u] n
theorem Im{a b:Int}{t u:Tok}{Q:Bool->Shared->Prop}(h:Q (decide (a=b)) s):wpAny (model prog w) A (eqBool (.int a t)<|.int b u) Q E s:=by
 refine SeqAt.EqAt.int_int a t b u prog w E Q ?_;have e:(a == b)=decide (a=b):=rfl;rw [e];exact h
theorem SG{a b:Int}{t u:Tok}{Q:Bool->Shared->Prop}(h:Q (decide (a < b)) s):wpAny (model prog w) A (oneLt' false (.int a t)<|.int b u) Q E s:=by
 rw [oneLt'_eq];simp only [Cj,CV];refine BK ?_;show wpAny _ _ (compareOp .Lt (.int a t)<|.int b u) _ _ _;exact lt_int<|DK h
theorem SH{x y:Addr}{p q:Int×Int}{Q:Bool->Shared->Prop}(hx:Pr s.heap x p)(hy:Pr s.heap y q)(h:Q (lexLt p q) s):wpAny (model prog w) A (keyLt' (tuples' true) (.ref x)<|.ref y) Q E s:=by
 obtain⟨ox,nx,tx,ux,ur,cx,dx⟩:=hx;obtain⟨oy,ny,ty,uy,SJ,cy,dy⟩:=hy;rw [SF];refine BK<|JG ur dx ?_;refine BK<|JG SJ dy ?_;show wpAny _ _ (forIn [((Value.int p.1 tx,Value.int q.1 ty),0),((Value.int p.2 ux,Value.int q.2 uy),1)] _ _ >>= _) _ _ _;rw [MP];refine BK<|BK ?_
 dsimp only
 refine BK<|Im ?_
 by_cases c:p.1=q.1
 ·rw [BW c];simp only [Gf,Cj,CV];refine BP ?_
  dsimp only
  rw [MP];refine BK ?_
  dsimp only
  refine BK<|Im ?_
  by_cases c2:p.2=q.2
  ·rw [BW c2];simp only [Gf,Cj,CV];refine BP ?_
   dsimp only
   rw [List.forIn_nil];refine BP<|BP ?_;have e:lexLt p q=false:=by unfold lexLt;rw [BL c,c2];simp
   rw [e] at h
   simpa using h
  ·rw [BR c2];simp only [QC,CT];refine BK<|SG<|BP ?_
   dsimp only
   refine BP<|BP ?_;have e:lexLt p q=decide (p.2 < q.2):=by unfold lexLt;rw [BL c]
   rw [e] at h;exact h
 ·rw [BR c];simp only [QC,CT];refine BK<|oneLt_int<|BP ?_
  dsimp only
  refine BP<|BP ?_;have e:lexLt p q=decide (p.1 < q.1):=by unfold lexLt;rw [BJ c]
  rw [e] at h;exact h
theorem SK{x y:Value}:(#[x,y]:Array Value).size<=sizeLine+1:=by
 rw [DG];show 2<=_;decide
theorem SL(v:Value):firstOfTuple' v=(do
  if(<- typeOf v) != .type "tuple" then return none
  return (<- Builtin.List.listItems v)[0]?):=rfl
theorem Io{x:Addr}{p:Int×Int}{Q:Option Value->Shared->Prop}(hx:Pr s.heap x p)(h:∀ t,Q (some<|.int p.1 t) s):wpAny (model prog w) A (firstOfTuple'<|.ref x) Q E s:=by
 obtain⟨ox,nx,tx,ux,ur,cx,dx⟩:=hx;rw [SL];refine BK<|wpAny_typeOf (T:= "tuple") ⟨ox,ur,cx⟩ ?_;rw [show(Value.type "tuple" != Value.type "tuple")=false by decide];simp only [Cj,CV];refine BK<|JG ur dx ?_;exact BP<|h tx
theorem SM{x y:Addr}{p q:Int×Int}{Q:SortKind->Shared->Prop}(hx:Pr s.heap x p)(hy:Pr s.heap y q)(h:Q (tuples' true) s):wpAny (model prog w) A (keyKind' #[.ref x,.ref y]) Q E s:=by
 rw [keyKind'_eq,show(#[.ref x,.ref y]:Array Value)=[.ref x,.ref y].toArray from rfl,List.mapM_toArray];refine BK<|wpAny_map ?_;rw [List.mapM_cons];refine BK<|Io hx λt=>?_;rw [List.mapM_cons];refine BK<|BK<|Io hy λu=>?_;rw [List.mapM_nil];refine BK<|BP<|BP<|BP ?_;rw [BL<|by simp];refine BK<|FZ ?_;rw [oneTypeOnly'_eq];show wpAny _ _ ((Array.mapM typeOf [Value.int p.1 t,Value.int q.1 u].toArray >>= _) >>= _) _ _ _;rw [List.mapM_toArray];have e1:[Value.int p.1 t,Value.int q.1 u].mapM typeOf=(pure [Value.type "int",Value.type "int"]:Sem _):=rfl;rw [e1];refine BP ?_;have e2:(if((#[Value.type "int",Value.type "int"]:Array Value).all λx=>x == (#[Value.type "int",Value.type "int"]:Array Value)[0])=true then some (#[Value.type "int",Value.type "int"]:Array Value)[0] else none)=some (Value.type "int"):=by
  rw [BL]
  ·rfl
  ·simp
 show Q (tuples'<|Option.any (λx=>x != Value.type "tuple") _) s;rw [e2];exact h
theorem wp_at{st:SortSt}{x y:Addr}{p q:Int×Int}{i j:Nat}{Q:Option Bool->SortSt->Prop}(hk:kindOf st=tuples' true)(hi:(arrOf st)[i]?=some (.ref x,.ref x))(hj:(arrOf st)[j]?=some (.ref y,.ref y))(hx:Pr s.heap x p)(hy:Pr s.heap y q)(h:Q (some<|lexLt p q) st) :
  wpS (model prog w) A E s (ltAt' i j) Q st:=by
 rw [ltAt'_eq];refine DP<|wpS_get ?_;show wpS _ _ _ _ (elem' (arrOf st) i >>= λa=>elem' (arrOf st) j >>= λb=>lt' a b) Q st;rw [elem'_eq,elem'_eq,hi,hj];refine DP<|GZ<|DP<|GZ ?_;rw [lt'_eq];refine DP<|wpS_get ?_;rw [hk];refine DP<|wpS_lift<|wpAny_attempt<|SH hx hy ⟨rfl,?_⟩;exact GZ h
def jd(x y:Addr)(p q:Int×Int):Array Keyed:=if lexLt q p then #[(.ref y,.ref y),(.ref x,.ref x)] else #[(.ref x,.ref x),(.ref y,.ref y)]
theorem SN{x y:Addr}{p q:Int×Int}{Q:Option Nat->SortSt->Prop}(hx:Pr s.heap x p)(hy:Pr s.heap y q)
  (h:Q (some 2)<|SortSt.mk' (tuples' true) (jd x y p q) #[] 7 none):wpS (model prog w) A E s (countRun' 0 2) Q (SortSt.mk' (tuples' true) #[(.ref x,.ref x),(.ref y,.ref y)] #[] 7 none):=by
 rw [countRun0_eq];refine DP ?_;unfold ascLoop;refine wpS_mono (JH (I:=λi c st=>st=SortSt.mk' (tuples' true) #[(.ref x,.ref x),(.ref y,.ref y)] #[] 7 none/\c=(none,i)/\(i=2->lexLt q p=false))
  (Q:=λc st=>st=SortSt.mk' (tuples' true) #[(.ref x,.ref x),(.ref y,.ref y)] #[] 7 none/\((c=(none,1)/\lexLt q p=true)\/(c=(none,2)/\lexLt q p=false))) ?_ ?_ ⟨rfl,rfl,λh=>by cases h⟩) ?_
 ·rintro i c st h1 h2 ⟨rfl,rfl,hI⟩;have e:i=1:=by omega
  subst e;refine DP<|wp_at rfl rfl rfl hy hx ?_
  dsimp only
  cases hb:lexLt q p with
  | true=>
   rw [BL rfl];exact GZ ⟨rfl,.inl ⟨rfl,rfl⟩⟩
  | false=>
   rw [BJ Ar];exact GZ ⟨rfl,rfl,λ_=>rfl⟩
 ·rintro c st ⟨rfl,rfl,hI⟩;exact⟨rfl,.inr ⟨rfl,hI rfl⟩⟩
 ·rintro c st ⟨rfl,⟨rfl,hb⟩ | ⟨rfl,hb⟩⟩
  ·dsimp only
   rw [BJ (by decide),BJ<|by decide];unfold descPart;refine DP<|wpS_lift<|FZ ⟨rfl,?_⟩;unfold descLoop;refine DP (wpS_mono (JH (I:=λi c st=>c=(none,2,0)/\st=SortSt.mk' (tuples' true) #[(.ref x,.ref x),(.ref y,.ref y)] #[] 7 none) (Q:=λc st=>c=(none,2,0)/\st=SortSt.mk' (tuples' true) #[(.ref x,.ref x),(.ref y,.ref y)] #[] 7 none) (λi c st h1 h2 _=>by omega) (λc st h=>h) ⟨rfl,rfl⟩) ?_);rintro c st ⟨rfl,rfl⟩
   dsimp only
   rw [BJ<|by decide];unfold tail3;refine DP<|wpS_reverse ?_;unfold ascLoop;refine DP (wpS_mono (JH (I:=λi c st=>c=(none,2)/\st=SortSt.mk' (tuples' true) #[(.ref y,.ref y),(.ref x,.ref x)] #[] 7 none) (Q:=λc st=>c=(none,2)/\st=SortSt.mk' (tuples' true) #[(.ref y,.ref y),(.ref x,.ref x)] #[] 7 none) (λi c st h1 h2 _=>by omega) (λc st h=>h) ⟨rfl,rfl⟩) ?_);rintro c st ⟨rfl,rfl⟩
   dsimp only
   refine GZ ?_;unfold jd at h;rw [BL hb] at h;exact h
  ·dsimp only
   rw [BL<|by decide];refine GZ ?_;unfold jd at h;rw [BJ<|by rw [hb];exact Ar] at h;exact h
theorem SQ{x y:Addr}{p q:Int×Int}{Q:Unit->SortSt->Prop}(hx:Pr s.heap x p)(hy:Pr s.heap y q)(h:∀ st,arrOf st=jd x y p q->failedOf st=none->Q () st) :
  wpS (model prog w) A E s sortRuns' Q (SortSt.mk' (tuples' true) #[(.ref x,.ref x),(.ref y,.ref y)] #[] 7 none):=by
 rw [sortRuns'_eq];refine DP<|wpS_get ?_
 dsimp only
 have SR:minRun' 2 2 0=2:=by rw [minRun'_succ,BL<|by decide]
 show wpS _ _ _ _ ((forIn [0:2] _ _) >>= _) _ _;have sz:(#[(Value.ref x,Value.ref x),(Value.ref y,Value.ref y)]:Array Keyed).size=2:=rfl;refine DP<|wpS_mono (JH (I:=λi c st=>(i=0/\c=(none,0)/\st=SortSt.mk' (tuples' true) #[(.ref x,.ref x),(.ref y,.ref y)] #[] 7 none)\/(1<=i/\c=(none,2)/\st=SortSt.mk' (tuples' true) (jd x y p q) #[(0,2,0)] 7 none))
  (Q:=λc st=>c=(none,2)/\st=SortSt.mk' (tuples' true) (jd x y p q) #[(0,2,0)] 7 none) ?_ ?_ (.inl ⟨rfl,rfl,rfl⟩)) ?_
 ·rintro i c st h1 h2 (⟨rfl,rfl,rfl⟩ | ⟨hi,rfl,rfl⟩)
  ·dsimp only
   rw [BJ<|by show ¬(0>=2);decide];refine DP ?_;show wpS _ _ _ _ (countRun' 0 2) _ _;refine SN hx hy ?_
   dsimp only
   rw [BJ<|by show ¬(2 < minRun' 2 2 0);rw [SR];decide];refine DP<|wpS_get ?_;show wpS _ _ _ _ (modify _ >>= _) _ _;exact DP<|wpS_modify<|GZ<|.inr ⟨Al _,rfl,rfl⟩
  ·dsimp only
   rw [BL<|by show 2>=2;decide];exact GZ ⟨rfl,rfl⟩
 ·rintro c st (⟨h1,_,_⟩ | ⟨_,hc,hs⟩)
  ·exact absurd h1<|by decide
  ·exact⟨hc,hs⟩
 ·rintro c st ⟨rfl,rfl⟩
  dsimp only
  refine DP<|wpS_mono (JH (I:=λ_ c st=>st=SortSt.mk' (tuples' true) (jd x y p q) #[(0,2,0)] 7 none/\c=(none,())) (Q:=λc st=>st=SortSt.mk' (tuples' true) (jd x y p q) #[(0,2,0)] 7 none/\c=(none,())) ?_ (λ_ _ hh=>hh) ⟨rfl,rfl⟩) ?_
  ·rintro i c st _ _ ⟨rfl,rfl⟩;refine DP<|wpS_get ?_;rw [BL<|by show 1<=1;decide];exact GZ ⟨rfl,rfl⟩
  ·rintro c st ⟨rfl,rfl⟩;exact GZ<|h _ rfl rfl
theorem SU{a x y:Addr}{p q:Int×Int}{n:Nat}{P:Fin->Shared->Prop}(ho:s.heap.get? a=some (seqObj "list" #[.ref x,.ref y] n))(SV:a≠x)(SW:a≠y)(hx:Pr s.heap x p)(hy:Pr s.heap y q)
  (h:P (.done<|.ret .none) {s with heap:=sortedHeap s.heap a [.ref x,.ref y] (if lexLt p q then #[.ref y,.ref x] else #[.ref x,.ref y])}) :
  wpAny (model prog w) A (Builtin.«list.sort» ⟨[.ref a],[(Str.ofString "reverse",.bool true)]⟩) P E s:=by
 rw [list_sort_rev];have ha:a < s.heap.objs.size:=Ax ho;refine BK<|JG ho rfl ?_;refine BK<|JB ho rfl ?_;obtain⟨e1,qS⟩:∃ e1,(s.heap.update a<|Obj.mapSeq λ_=>#[]).get? a=some (seqObj "list" #[] e1):=⟨_,get?_update_seq ho λ_=>#[]⟩;refine BK<|JR qS rfl ?_;refine BK<|wpAny_newTuple ?_;refine BK<|JW ?_;refine CQ ?_;have mI:(((s.heap.update a<|Obj.mapSeq λ_=>#[]).push<|seqObj "tuple" [Value.ref x,Value.ref y].toArray 0).push<|seqObj "list" #[] 0).get? a=some (seqObj "list" #[] e1):=
  Ak _ (Ak _ qS)
 show wpAny (model prog w) A _ P E {s with heap:=((s.heap.update a<|Obj.mapSeq λ_=>#[]).push<|seqObj "tuple" [Value.ref x,Value.ref y].toArray 0).push (seqObj "list" #[] 0)};have keep:∀ z r,a≠z->Pr s.heap z r->Pr (((s.heap.update a<|Obj.mapSeq λ_=>#[]).push<|seqObj "tuple" [Value.ref x,Value.ref y].toArray 0).push<|seqObj "list" #[] 0) z r:=by
  rintro z r hz ⟨o,m,t,u,q1,q2⟩;exact⟨o,m,t,u,Ak _<|Ak _<|(Dk _ _ hz).trans q1,q2⟩
 have kx:=keep x p SV hx;have ky:=keep y q SW hy
 dsimp only
 rw [BL rfl];refine BK<|FZ ?_;rw [BJ<|by show ¬(2 < 2);decide];refine BK<|SM kx ky ?_;rw [BJ<|by show ¬(2 < 2);decide];have e2:(if true=true then((#[Value.ref x,Value.ref y]:Array Value).zip #[Value.ref x,Value.ref y]).reverse else(#[Value.ref x,Value.ref y]:Array Value).zip #[Value.ref x,Value.ref y])=#[(Value.ref y,Value.ref y),(Value.ref x,Value.ref x)]:=by
  rw [BL rfl];simp
 rw [e2];refine BK<|CK (SQ (Q:=λ_ st=>arrOf st=jd y x q p/\failedOf st=none) ky kx λst h1 h2=>⟨h1,h2⟩) ?_ λ_ _ e=>e;rintro ⟨⟨⟩,dc⟩ s' ⟨rfl,hs,hf⟩
 dsimp only
 have e3:(if true=true then((arrOf dc).map (·.2)).reverse else(arrOf dc).map (·.2))=(if lexLt p q then #[.ref y,.ref x] else #[.ref x,.ref y]):=by
  rw [BL rfl,hs];unfold jd
  split <;> simp
 refine BK<|JR mI rfl ?_;refine BK (JB mI rfl ?_ (hsz2:=by rw [e3];split <;> exact SK));rw [hf];simp only [JZ,Cj,CV];refine BP ?_;have e4:(λ_:Array Value=>if True then((arrOf dc).map (·.2)).reverse else(arrOf dc).map (·.2))=λ_=>(if lexLt p q then #[.ref y,.ref x] else #[.ref x,.ref y]):=by
  funext _
  rw [BL trivial];rw [BL rfl] at e3;exact e3
 rw [e4];exact h
theorem SX{l x y:Addr}{p q:Int×Int}{Q:Value->Shared->Prop}(hl:s.heap.IsList l #[.ref x,.ref y])(hx:Pr s.heap x p)(hy:Pr s.heap y q)
  (h:∀(h':Heap) (e:Nat),(∀ b u,s.heap.get? b=some u->h'.get? b=some u)->h'.get? (s.heap.objs.size+1)=some (seqObj "list" (if lexLt p q then #[.ref y,.ref x] else #[.ref x,.ref y]) e)->Q (.ref<|s.heap.objs.size+1) {s with heap:=h'}) :
  wpAny (model prog w) A (call (.builtin "sorted") [.ref l] [(Str.ofString "reverse",.bool true)]) Q E s:=by
 refine call_function_entry_kw kind_sorted plain_sorted entry_sorted (args_sorted_rev _ _) ?_;unfold Builtin.«sorted»;refine BK (m:=checkCount "sorted" 1 1 _)<|BP ?_;refine BK<|collect_list (vs:=[.ref x,.ref y]) hl ?_;refine BK<|JW ?_;have hsz:((s.heap.push<|seqObj "list" #[] 0).update s.heap.objs.size (Obj.mapSeq (·++[Value.ref x,Value.ref y].toArray))).objs.size=s.heap.objs.size+1:=by
  rw [Heap.size_update,size_push']
 have lI:(((s.heap.push<|seqObj "list" #[] 0).update s.heap.objs.size (Obj.mapSeq (·++[Value.ref x,Value.ref y].toArray))).push<|seqObj "list" [Value.ref x,Value.ref y].toArray 0).get? (s.heap.objs.size+1)=some (seqObj "list" [Value.ref x,Value.ref y].toArray 0):=by
  rw [<- hsz];exact Bb _ rfl
 have lx:x < s.heap.objs.size:=let ⟨_,_,_,_,e,_⟩:=hx;Ax e
 have ly:y < s.heap.objs.size:=let ⟨_,_,_,_,e,_⟩:=hy;Ax e
 have keep:∀ z r,Pr s.heap z r->Pr (((s.heap.push<|seqObj "list" #[] 0).update s.heap.objs.size (Obj.mapSeq (·++[Value.ref x,Value.ref y].toArray))).push<|seqObj "list" [Value.ref x,Value.ref y].toArray 0) z r:=by
  rintro z r ⟨o,m,t,u,q1,q2⟩;have hz:=Ax q1;exact⟨o,m,t,u,Ak _<|(Dk _ _<|Ds hz).trans<|Ak _ q1,q2⟩
 show wpAny _ _ _ _ _ {s with heap:=((s.heap.push<|seqObj "list" #[] 0).update s.heap.objs.size (Obj.mapSeq (·++[Value.ref x,Value.ref y].toArray))).push (seqObj "list" [Value.ref x,Value.ref y].toArray 0)};rw [hsz];refine BK<|CQ<|wpAny_call_entry_kw slot_list_sort ⟨_,lI,rfl⟩ entry_list_sort (SU lI (Ds<|Fa lx) (Ds<|Fa ly) (keep x p hx) (keep y q hy) ⟨_,rfl,?_⟩)<|args_list_sort_rev _ _;obtain⟨e,he⟩:=sortedAll_at s.heap [Value.ref x,Value.ref y] (if lexLt p q then #[.ref y,.ref x] else #[.ref x,.ref y]);exact BP ⟨_,rfl,h _ e (λb u hb=>sortedAll_old hb) he⟩
end
end bJ
namespace L2
open PySem PySem.Spec PyProof.Rows bJ
section
variable{X:Cx}{e:Expr}{σ:St}{H:Hp}{Q:VK}{pos p kp cp:Pos}{j:Nat}
theorem Ip{pins:List (Addr×Obj)}{s:Shared}{a:Addr}{i j:Int}(I:Inv X pins σ H s)(h:H a=some (.tup [.int i,.int j])):Pr s.heap a (i,j):=by
 obtain⟨its,r,pl,_⟩:=I.tuple<|aP.of h;obtain⟨u,v,rfl,⟨t,rfl⟩,⟨t',rfl⟩⟩:=vals2 r;obtain⟨o,ho,hc,n,hd⟩:=pl;exact⟨o,n,t,t',ho,hc,hd⟩
theorem SY(hm:X.mg "sorted" = none) (h:Ev X e σ H λv H1=>∃ l x y a b c d,v = .ref l/\H1 l=some (.lst [.ref x,.ref y])/\H1 x=some (.tup [.int a,.int b])/\H1 y=some (.tup [.int c,.int d]) /\
   ∀ r,H1 r=none->Q (.ref r) (upd H1 r<|.lst (if lexLt (a,b) (c,d) then [.ref y,.ref x] else [.ref x,.ref y]))) (hg:Gl X "sorted":=by rfl)
  (he:backTo pos (starEach [e] X.env)=(false,eval e X.env) :: backTo pos (starEach [] X.env):=by rfl) (bO:(backTo pos<|starEach [e] X.env).any (·.1)=false:=by rfl) (cA:isStar e=false:=by rfl) :
  Ev X (.Call (.Name "sorted" p) [e] [⟨some "reverse",.Constant (.bool true) j cp,kp⟩] pos) σ H Q:=by
 refine⟨λpins s I=>?_⟩;refine HS<|jv I hg hm KZ ?_;have hE:Ea X [e] σ H λvs H1=>∃ l x y a b c d,vs=[.ref l]/\H1 l=some (.lst [.ref x,.ref y])/\H1 x=some (.tup [.int a,.int b])/\H1 y=some (.tup [.int c,.int d]) /\
   ∀ r,H1 r=none->Q (.ref r) (upd H1 r<|.lst (if lexLt (a,b) (c,d) then [.ref y,.ref x] else [.ref x,.ref y])):=
  ai (h.mono λv H1 ⟨l,x,y,a,b,c,d,e1,r1⟩=>aD ⟨l,x,y,a,b,c,d,by rw [e1],r1⟩) cA
 refine callWith_kw (aH (hE.run pos pins s I) λus s1 ⟨vs,H1,I1,r1,l,x,y,a,b,c,d,ev,hl,hx,hy,q⟩=>?_) he bO;subst ev;obtain⟨u,rfl,ru⟩:=vals1 r1;cases (show u=Value.ref l from ru);refine kws_cons<|BP<|kws_nil ?_;obtain⟨its,r2,pl,_⟩:=I1.list<|au.of hl;obtain⟨u,v,rfl,ru,rv⟩:=vals2 r2;cases (show u=Value.ref x from ru);cases (show v=Value.ref y from rv);refine SX pl.isList (Ip I1 hx) (Ip I1 hy) λh' e kp he=>?_;refine⟨.ref _,_,I1.kC (s':={s1 with heap:=h'}) kp rfl rfl (Fx _) (show ay X.prog X.w _ h' _ (.lst (if lexLt (a,b) (c,d) then [.ref y,.ref x] else [.ref x,.ref y])) from ?_),rfl,q _<|I1.aE.fresh<|Fx _⟩
 split at he
 ·rename_i hb;rw [BL hb];exact⟨by show 2<=sizeLine;rw [DG];decide,[.ref y,.ref x],e,.cons rfl (.cons rfl .nil),he⟩
 ·rename_i hb;rw [BJ hb];exact⟨by show 2<=sizeLine;rw [DG];decide,[.ref x,.ref y],e,.cons rfl (.cons rfl .nil),he⟩
end
end L2
namespace Nt
open PySem
abbrev Net:=List<|Str×List Str
abbrev End:=Nat×Nat
def row(n:Net)(r:Nat):List Str:=((n[r]?).map (·.2)).getD []
def aJ(n:Net)(e:End):Option Str:=(row n e.1)[e.2]?
def aW(r:Nat)(ts:List Str)(p:Nat):List (Str×End):=(ts.zipIdx p).map λx=>(x.1,(r,x.2))
def dh(r:Nat):Net->List (Str×End)
 | []=>[]
 | a :: n=>aW r a.2 0++dh (r+1) n
def aU(n:Net):List (Str×End):=dh 0 n
def ends(n:Net):List End:=(aU n).map (·.2)
def ag(n:Net):List Str:=n.flatMap (·.2)
def pos(n:Net)(z:Str):List End:=((aU n).filter λx=>decide (x.1=z)).map (·.2)
theorem bA{r:Nat}{ts:List Str}{p:Nat}{z:Str}{e:End}:(z,e)∈aW r ts p↔e.1=r/\p<=e.2/\ts[e.2 - p]?=some z:=by
 unfold aW;rw [Aj]
 constructor
 ·rintro ⟨⟨y,k⟩,hm,he⟩;cases he;have:=Fe.mp hm;exact⟨rfl,this.1,this.2⟩
 ·rintro ⟨h1,h2,h3⟩;refine⟨(z,e.2),Fe.mpr ⟨h2,h3⟩,?_⟩;rw [<- h1]
theorem bG:∀{n:Net} {k:Nat} {z:Str} {e:End},(z,e)∈dh k n↔k<=e.1/\(row n<|e.1 - k)[e.2]?=some z
 | [],k,z,e=>by
  constructor
  ·intro h;cases h
  ·rintro ⟨_,h⟩;simp [row] at h
 | a :: n,k,z,e=>by
  unfold dh;rw [Aq,bA,bG]
  constructor
  ·rintro (⟨h1,_,h3⟩ | ⟨h1,h2⟩)
   ·refine⟨by omega,?_⟩;rw [show e.1 - k=0 by omega]
    simpa [row] using h3
   ·refine⟨by omega,?_⟩;rw [show e.1 - k=(e.1 - (k+1))+1 by omega]
    simpa [row] using h2
  ·rintro ⟨h1,h2⟩
   rcases Ef k e.1 with h | h
   ·refine .inr ⟨h,?_⟩;rw [show e.1 - k=(e.1 - (k+1))+1 by omega] at h2
    simpa [row] using h2
   ·refine .inl ⟨by omega,Bo _,?_⟩;rw [show e.1 - k=0 by omega] at h2
    simpa [row] using h2
theorem aO{n:Net}{z:Str}{e:End}:(z,e)∈aU n↔aJ n e=some z:=by
 unfold aU aJ;rw [bG];simp
theorem af{n:Net}{e:End}:e∈ends n↔∃ z,aJ n e=some z:=by
 unfold ends;rw [Aj]
 constructor
 ·rintro ⟨⟨z,e'⟩,h,rfl⟩;exact⟨z,aO.mp h⟩
 ·rintro ⟨z,h⟩;exact⟨(z,e),aO.mpr h,rfl⟩
theorem aF{n:Net}{z:Str}{e:End}:e∈pos n z↔aJ n e=some z:=by
 unfold pos;rw [Aj]
 constructor
 ·rintro ⟨⟨y,e'⟩,h,rfl⟩;rw [Da,DR] at h;obtain⟨h1,h2⟩:=h;subst h2;exact aO.mp h1
 ·intro h;exact⟨(z,e),Da.mpr ⟨aO.mpr h,by simp⟩,rfl⟩
theorem SZ(r:Nat):∀(ts:List Str) (p:Nat),(aW r ts p).map (·.1)=ts:=by
 intro ts p;unfold aW;rw [Bi];have:((λx:Str×End=>x.1) ∘ λx:Str×Nat=>(x.1,(r,x.2)))=Prod.fst:=rfl;rw [this,List.zipIdx_map_fst]
theorem iB:∀(n:Net) (k:Nat),(dh k n).map (·.1)=ag n
 | [],_=>rfl
 | a :: n,k=>by
  unfold dh ag;rw [Ah,SZ,iB n<|k+1,Bt];rfl
theorem S0(r:Nat)(ts:List Str)(p:Nat):((aW r ts p).map (·.2)).Nodup:=by
 unfold aW;rw [Bi];have e:((λx:Str×End=>x.2) ∘ λx:Str×Nat=>(x.1,(r,x.2)))=(λk:Nat=>(r,k)) ∘ Prod.snd:=rfl;rw [e,<- Bi,List.zipIdx_map_snd];refine FT _ (R:=(·≠·)) ?_ List.nodup_range';intro a b h cS;exact h (Prod.mk.inj cS).2
theorem Iq:∀(n:Net) (k:Nat),((dh k n).map (·.2)).Nodup
 | [],_=>Cf
 | a :: n,k=>by
  unfold dh;rw [Ah,Bu];refine⟨S0 _ _ _,Iq n<|k+1,?_⟩;intro x hx y hy e;subst e;obtain⟨⟨z,e1⟩,h1,rfl⟩:=Aj.mp hx;obtain⟨⟨z2,e2⟩,h2,he⟩:=Aj.mp hy;simp only at he;subst he;have q1:=(bA.mp h1).1;have q2:=(bG.mp h2).1;omega
theorem oU(n:Net):(ends n).Nodup:=Iq n 0
theorem S1(n:Net)(z:Str):(pos n z).Nodup:=by
 unfold pos;exact(oU n).sublist<|List.Sublist.map _<|List.filter_sublist
theorem jK(n:Net)(z:Str):(pos n z).length=(ag n).count z:=by
 unfold pos;rw [Aa,<- iB n 0,<- List.countP_eq_length_filter,List.count,List.countP_map];rfl
def aq(n:Net):Prop:=∀ z∈ag n,(ag n).count z=2
theorem di{n:Net}{e:End}{z:Str}(h:aJ n e=some z):z∈ag n:=by
 have:=aO.mpr h;rw [<- iB n 0];exact Aj.mpr ⟨_,this,rfl⟩
def other(n:Net)(e:End):End:=match aJ n e with
 | some z=>(match pos n z with
  | [a,b]=>if a=e then b else a
  | _=>e)
 | none=>e
theorem mJ{n:Net}(T:aq n){e:End}{z:Str}(h:aJ n e=some z):∃ a b,pos n z=[a,b]/\a≠b/\(e=a\/e=b):=by
 have hl:=jK n z;rw [T z<|di h] at hl;have hn:=S1 n z;have hm:=aF.mpr h
 match hp:pos n z,hl with
 | [a,b],_=>
  rw [hp] at hn hm;refine⟨a,b,rfl,?_,?_⟩
  ·intro e;subst e;simp at hn
  ·simpa using hm
theorem cF{n:Net}(T:aq n){e:End}{z:Str}(h:aJ n e=some z):aJ n (other n e)=some z/\other n (other n e)=e/\other n e≠e:=by
 obtain⟨a,b,hp,cS,he⟩:=mJ T h;have ha:aJ n a=some z:=aF.mp (by rw [hp];simp);have hb:aJ n b=some z:=aF.mp<|by rw [hp];simp
 rcases he with rfl | rfl
 ·have e1:other n e=b:=by unfold other;simp only [h,hp];simp
  have e2:other n b=e:=by unfold other;simp only [hb,hp];simp [cS]
  rw [e1];exact⟨hb,e2,cS.symm⟩
 ·have e1:other n e=a:=by unfold other;simp only [h,hp];simp [cS]
  have e2:other n a=e:=by unfold other;simp only [ha,hp];simp
  rw [e1];exact⟨ha,e2,cS⟩
def left(n:Net)(e:End):End:=(e.1,(e.2+1) % (row n e.1).length)
def step(n:Net)(e:End):End:=left n (other n e)
theorem fw{n:Net}{e:End}{z:Str}(h:aJ n e=some z):e.2 < (row n e.1).length:=(Ac.mp h).1
theorem cT{n:Net}{e:End}{z:Str}(h:aJ n e=some z):e.1 < n.length:=by
 rcases Ef e.1 n.length with c | c
 ·exact c
 ·have:=fw h;unfold row at this;rw [Bc c] at this;simp at this
theorem ut{n:Net}{e:End}(h:e.2 < (row n e.1).length):∃ z,aJ n e=some z:=⟨_,Ab h⟩
theorem S3{n:Net}{e:End}(h:e∈ends n):left n e∈ends n:=by
 obtain⟨z,h⟩:=af.mp h;have:=fw h;exact af.mpr<|ut (show(e.2+1) % (row n e.1).length < (row n e.1).length from Nat.mod_lt _<|by omega)
theorem cG{n:Net}(T:aq n){e:End}(h:e∈ends n):other n e∈ends n:=by
 obtain⟨z,h⟩:=af.mp h;exact af.mpr ⟨z,(cF T h).1⟩
theorem mK{n:Net}(T:aq n){e:End}(h:e∈ends n):step n e∈ends n:=S3<|cG T h
theorem S4{n:Net}{a b:End}(ha:a∈ends n)(hb:b∈ends n)(h:left n a=left n b):a=b:=by
 obtain⟨z,ha⟩:=af.mp ha;obtain⟨y,hb⟩:=af.mp hb;have la:=fw ha;have lb:=fw hb;unfold left at h;obtain⟨h1,h2⟩:=Prod.mk.inj h;rw [h1] at la h2;have:a.2=b.2:=by
  rcases Ef (a.2+1) (row n b.1).length with c | c <;> rcases Ef (b.2+1) (row n b.1).length with d | d
  ·rw [Bs c,Bs d] at h2;omega
  ·have e:b.2+1=(row n b.1).length:=by omega
   rw [Bs c,e,Dy] at h2;omega
  ·have e:a.2+1=(row n b.1).length:=by omega
   rw [Bs d,e,Dy] at h2;omega
  ·omega
 exact FJ h1 this
theorem Ir{n:Net}(T:aq n){a b:End}(ha:a∈ends n)(hb:b∈ends n)(h:other n a=other n b):a=b:=by
 obtain⟨z,ha⟩:=af.mp ha;obtain⟨y,hb⟩:=af.mp hb;rw [<- (cF T ha).2.1,h,(cF T hb).2.1]
theorem Iu{n:Net}(T:aq n){a b:End}(ha:a∈ends n)(hb:b∈ends n)(h:step n a=step n b):a=b:=
 Ir T ha hb (S4 (cG T ha) (cG T hb) h)
theorem bK{α:Type} [DecidableEq α]:∀{a b:List α},a.Nodup->(∀ z∈a,z∈b)->a.length<=b.length
 | [],b,_,_=>Bo _
 | x :: r,b,hn,hs=>by
  rw [Bd] at hn;have hx:=hs x Ad;have:=bK (a:=r) (b:=b.erase x) hn.2 λz hz=>by
   have bL:z≠x:=λe=>hn.1<|e ▸ hz;exact(Du bL).mpr<|hs z<|Ae _ hz
  rw [Dh hx] at this;have hp:0 < b.length:=PJ hx;rw [An];omega
def it{α:Type}(f:α->α):Nat->α->α
 | 0,a=>a
 | k+1,a=>f<|it f k a
theorem hU{α:Type}{f:α->α}{S:List α}(hf:∀ a∈S,f a∈S){a:α}(h:a∈S):∀ k,it f k a∈S
 | 0=>h
 | k+1=>hf _<|hU hf h k
theorem yh{α:Type} [DecidableEq α] {f:α->α} {S:List α} (hf:∀ a∈S,f a∈S) (inj:∀ a∈S,∀ b∈S,f a=f b->a=b) {a:α} (h:a∈S):∃ k,0 < k/\k<=S.length/\it f k a=a:=by
 have cancel:∀ i j,it f i a=it f (i+j) a->it f j a=a:=by
  intro i
  induction i with
  | zero=>intro j e;rw [Em] at e;exact e.symm
  | succ i ih=>
   intro j e;refine ih j ?_;rw [show i+1+j=(i+j)+1 by omega] at e;exact inj _ (hU hf h i) _ (hU hf h<|i+j) e
 refine CN λhn=>?_;have nd:((List.range<|S.length+1).map λi=>it f i a).Nodup:=by
  refine FT _ (R:=λi j=>i < j/\j < S.length+1) ?_ ?_
  ·rintro i j ⟨h1,h2⟩ e;refine hn ⟨j - i,by omega,by omega,cancel i (j - i) ?_⟩;rw [show i+(j - i)=j by omega];exact e
  ·rw [Bp];intro i j hi hj c7;simp only [Fp];simp at hj;exact⟨c7,hj⟩
 have:=bK nd λz hz=>by
  obtain⟨i,_,rfl⟩:=Aj.mp hz;exact hU hf h i
 simp at this;omega
theorem hV:∀(n:Net) (r:Nat),(row n r).length<=(ag n).length
 | [],r=>by simp [row,ag]
 | a :: n,0=>by simp [row,ag]
 | a :: n,r+1=>by
  have:=hV n r;simp [row,ag] at this ⊢;omega
theorem Iv:∀(n:Net) (r:Nat),(ag<|n.take r).length<=(ag n).length
 | [],r=>by simp [ag]
 | a :: n,0=>by simp [ag]
 | a :: n,r+1=>by
  have:=Iv n r;simp [ag] at this ⊢;omega
structure dZ(n:Net)(e:Nt.End)(fs:List End):Prop where
 pos:0 < fs.length
 len:fs.length<=(ends n).length
 at':∀ i,i < fs.length->fs[i]?=some (it (step n) i e)
 back:it (step n) fs.length e=e
 first:∀ i,0 < i->i < fs.length->it (step n) i e≠e
open L2
abbrev Ls(zs:List Str):HO:= .lst<|zs.map V.str
abbrev Tp(e:End):HO:= .tup [.int e.1,.int e.2]
structure aj(H:Hp)(R:Addr)(as:List<|Addr×Addr)(n:Net):Prop where
 len:as.length=n.length
 lst:H R=some (.lst<|as.map λa=> .ref a.1)
 tup:∀(i:Nat) a r,as[i]?=some a->n[i]?=some r->H a.1=some (.tup [.str r.1,.ref a.2])/\H a.2=some (Ls r.2)
 inj:(as.map (·.2)).Nodup
theorem aj.same{H H':Hp}{R:Addr}{as:List (Addr×Addr)}{n:Net}(h:aj H R as n)(s:ak H H'):aj H' R as n:=
 ⟨h.len,s _ _ h.lst,λi a r h1 h2=>⟨s _ _ (h.tup i a r h1 h2).1,s _ _ (h.tup i a r h1 h2).2⟩,h.inj⟩
theorem aj.at{H:Hp}{R:Addr}{as:List (Addr×Addr)}{n:Net}(h:aj H R as n){i:Nat}(hi:i < n.length) :
  ∃ a,as[i]?=some a/\dw (as.map λa=>V.ref a.1) (i:Int)=some (.ref a.1)/\H a.1=some (.tup [.str n[i].1,.ref a.2])/\H a.2=some (Ls<|row n i)/\row n i=n[i].2:=by
 have hl:=h.len;have e:as[i]?=some as[i]:=Ab (by omega);have er:row n i=n[i].2:=by unfold row;rw [Ab hi];rfl
 have q:=h.tup i as[i] n[i] e<|Ab hi;refine⟨as[i],e,km (by rw [Ag,e];rfl),q.1,?_,er⟩;rw [er];exact q.2
theorem yi{zs:List Str}{j:Nat}{z:Str}(h:zs[j]?=some z):dw (zs.map V.str) (j:Int)=some (.str z):=km<|by rw [Ag,h];rfl
inductive Pd (H:Hp):List Addr->List End->Prop where
 | nil:Pd H [] []
 | cons {t:Addr} {e:End} {ts:List Addr} {es:List End}:H t=some (Tp e)->Pd H ts es->Pd H (t :: ts) (e :: es)
theorem Pd.append{H:Hp}{ts us:List Addr}{es fs:List End}(h:Pd H ts es)(g:Pd H us fs):Pd H (ts++us) (es++fs):=by
 induction h with
 | nil=>exact g
 | cons h1 _ ih=>exact .cons h1 ih
theorem Pd.keep{H H':Hp}{ts:List Addr}{es:List End}(h:Pd H ts es)(k:∀ t e,H t=some (Tp e)->H' t=some (Tp e)):Pd H' ts es:=by
 induction h with
 | nil=>exact .nil
 | cons h1 _ ih=>exact .cons (k _ _ h1) ih
theorem Pd.length{H:Hp}{ts:List Addr}{es:List End}(h:Pd H ts es):ts.length=es.length:=by
 induction h with
 | nil=>rfl
 | cons _ _ ih=>rw [An,An,ih]
theorem Pd.at{H:Hp}{ts:List Addr}{es:List End}(h:Pd H ts es):∀{i:Nat} {e:End},es[i]?=some e->∃ t,ts[i]?=some t/\H t=some (Tp e):=by
 induction h with
 | nil=>intro i e h;simp at h
 | cons h1 _ ih=>
  intro i e h;cases i with
  | zero=>simp at h;subst h;exact⟨_,rfl,h1⟩
  | succ i=>simp only [Ch] at h ⊢;exact ih h
def bu(done:List<|Str×End)(z:Str):List End:=(done.filter λx=>decide (x.1=z)).map (·.2)
theorem cM(done:List<|Str×End)(y z:Str)(e:End):bu (done++[(y,e)]) z=bu done z++(if y=z then [e] else []):=by
 unfold bu;rw [Dq,Ah]
 congr 1
 by_cases h:y=z
 ·rw [BL h];simp [h]
 ·rw [BJ h];simp [h]
structure aX(H0 H:Hp)(d:Addr)(done:List<|Str×End)(kvs:List<|Key×V)(ks:List Str)(A:Str->Option (Addr×List Addr)):Prop where
 same:ak H0 H
 free:H0 d=none
 dict:H d=some (.dK kvs)
 keys:kvs.map (·.1)=ks.map Sum.inr
 nodup:ks.Nodup
 mem:∀ z,z∈ks↔(A z).isSome=true
 val:∀ z,aB kvs (Sum.inr z)=(A z).map λa=> .ref a.1
 at':∀ z a ts,A z=some (a,ts)->H0 a=none/\a≠d/\H a=some (.lst<|ts.map V.ref)/\Pd H ts (bu done z)
 inj:∀ z y a ts us,A z=some (a,ts)->A y=some (a,us)->z=y
 eX:∀ z,A z=none->bu done z=[]
 some':∀ z a ts,A z=some (a,ts)->bu done z≠[]
theorem aX.start{H:Hp}{d:Addr}(h:H d=none):aX H (upd H d<|.dK []) d [] [] [] (λ_=>none) where
 same:=λb u q=>by rw [aw<|bD q h];exact q
 free:=h
 dict:=aC
 keys:=rfl
 nodup:=Cf
 mem:=λz=>by simp
 val:=λz=>rfl
 at':=λz a ts h=>by cases h
 inj:=λz y a ts us h=>by cases h
 eX:=λz _=>rfl
 some':=λz a ts h=>by cases h
theorem qT{H:Hp}{t a:Addr}{e:End}{xs:List V}(h:H t=some (Tp e))(g:H a=some (.lst xs)):t≠a:=bW h g λz=>nomatch z
theorem aX.old{H0 H:Hp}{d:Addr}{done:List (Str×End)}{kvs:List (Key×V)}{ks:List Str}{A:Str->Option (Addr×List Addr)}(S:aX H0 H d done kvs ks A){z:Str}{e:End}{a l0 t:Addr}{ts:List Addr}
  (hA:A z=some (a,ts)) (hl:H l0=none) (ht:(upd H l0<|.lst []) t=none) :
  aX H0 (upd (upd (upd H l0<|.lst []) t<|Tp e) a<|.lst<|ts.map V.ref++[.ref t]) d (done++[(z,e)]) kvs ks (λy=>if y=z then some (a,ts++[t]) else A y):=by
 obtain⟨q1,q2,q3,q4⟩:=S.at' z a ts hA;have uv:H t=none:=by
  by_cases c:t=l0
  ·rw [c,aC] at ht;cases ht
  ·rwa [aw c] at ht
 have je:l0≠a:=(bD q3 hl).symm;have uw:t≠a:=(bD q3 uv).symm;have fz:a≠t:=uw.symm;have keep:∀ b u,b≠a->H b=some u->(upd (upd (upd H l0<|.lst []) t<|Tp e) a<|.lst<|ts.map V.ref++[.ref t]) b=some u:=λb u h1 h2=>by
  rw [aw h1,aw<|bD h2 uv,aw<|bD h2 hl];exact h2
 have kt:∀ b f,H b=some (Tp f)->(upd (upd (upd H l0<|.lst []) t<|Tp e) a<|.lst<|ts.map V.ref++[.ref t]) b=some (Tp f):=λb f h=>keep b _ (qT h q3) h;have et:(upd (upd (upd H l0<|.lst []) t<|Tp e) a<|.lst<|ts.map V.ref++[.ref t]) t=some (Tp e):=by rw [aw uw,aC]
 refine⟨λb u h=>?_,S.free,keep d _ (CG q2) S.dict,S.keys,S.nodup,λy=>?_,λy=>?_,λy a' c8 h=>?_,λy y' a' c8 us h1 h2=>?_,λy h=>?_,λy a' c8 h=>?_⟩
 ·exact keep b u (bD h q1)<|S.same _ _ h
 ·rw [S.mem y]
  by_cases c:y=z
  ·rw [BL c,c,hA];simp
  ·rw [BJ c]
 ·rw [S.val y]
  by_cases c:y=z
  ·rw [BL c,c,hA];rfl
  ·rw [BJ c]
 ·by_cases c:y=z
  ·rw [BL c] at h;cases h;refine⟨q1,q2,by rw [aC,Ah];rfl,?_⟩;rw [cM,c,BL rfl];exact(q4.keep kt).append<|.cons et .nil
  ·rw [BJ c] at h;obtain⟨r1,r2,r3,r4⟩:=S.at' y a' c8 h;have bL:a'≠a:=λe2=>c<|S.inj y z a c8 ts (e2 ▸ h) hA;refine⟨r1,r2,keep _ _ bL r3,?_⟩;rw [cM,BJ λh=>c h.symm,Be];exact r4.keep kt
 ·by_cases c:y=z <;> by_cases c':y'=z
  ·rw [c,c']
  ·rw [BL c] at h1;rw [BJ c'] at h2;cases h1;exact absurd (S.inj y' z a us ts h2 hA) c'
  ·rw [BJ c] at h1;rw [BL c'] at h2;cases h2;exact absurd (S.inj y z a c8 ts h1 hA) c
  ·rw [BJ c] at h1;rw [BJ c'] at h2;exact S.inj y y' a' c8 us h1 h2
 ·by_cases c:y=z
  ·rw [BL c] at h;cases h
  ·rw [BJ c] at h;rw [cM,BJ λh=>c h.symm,Be];exact S.eX y h
 ·by_cases c:y=z
  ·rw [cM,BL c.symm];simp
  ·rw [BJ c] at h;rw [cM,BJ λh=>c h.symm,Be];exact S.some' y a' c8 h
theorem aX.new{H0 H:Hp}{d:Addr}{done:List (Str×End)}{kvs:List (Key×V)}{ks:List Str}{A:Str->Option (Addr×List Addr)}(S:aX H0 H d done kvs ks A){z:Str}{e:End}{l0 t:Addr}
  (hA:A z=none) (hl:H l0=none) (ht:(upd (upd H l0<|.lst []) d<|.dK<|putK kvs (Sum.inr z)<|.ref l0) t=none) :
  aX H0 (upd (upd (upd (upd H l0<|.lst []) d<|.dK<|putK kvs (Sum.inr z)<|.ref l0) t<|Tp e) l0<|.lst [.ref t]) d (done++[(z,e)]) (putK kvs (Sum.inr z)<|.ref l0) (ks++[z]) (λy=>if y=z then some (l0,[t]) else A y):=by
 have iC:d≠l0:=bD S.dict hl;have yj:t≠d:=λc=>by rw [c,aC] at ht;cases ht
 have mL:t≠l0:=λc=>by rw [aw yj,c,aC] at ht;cases ht
 have uv:H t=none:=by rwa [aw yj,aw mL] at ht
 have vn:aB kvs (Sum.inr z)=none:=by rw [S.val z,hA];rfl
 have keep:∀ b u,b≠d->H b=some u->(upd (upd (upd (upd H l0<|.lst []) d<|.dK<|putK kvs (Sum.inr z)<|.ref l0) t<|Tp e) l0<|.lst [.ref t]) b=some u:=λb u h1 h2=>by
  rw [aw<|bD h2 hl,aw<|bD h2 uv,aw h1,aw<|bD h2 hl];exact h2
 have kt:∀ b f,H b=some (Tp f)->(upd (upd (upd (upd H l0<|.lst []) d<|.dK<|putK kvs (Sum.inr z)<|.ref l0) t<|Tp e) l0<|.lst [.ref t]) b=some (Tp f):=λb f h=>keep b _ (bW h S.dict λz=>nomatch z) h;have S6:H0 l0=none:=S.same.free hl;have zk:z∉ks:=λh=>by
  have:=(S.mem z).mp h;rw [hA] at this;cases this
 refine⟨λb u h=>?_,S.free,?_,?_,?_,λy=>?_,λy=>?_,λy a' c8 h=>?_,λy y' a' c8 us h1 h2=>?_,λy h=>?_,λy a' c8 h=>?_⟩
 ·exact keep b u (bD h S.free)<|S.same _ _ h
 ·rw [aw iC,aw yj.symm,aC]
 ·rw [Hc _ vn,Ah,S.keys,Ah];rfl
 ·rw [Bu];exact⟨S.nodup,by simp,λx hx y hy e=>by rw [Am] at hy;subst hy e;exact zk hx⟩
 ·rw [Aq,Am,S.mem y]
  by_cases c:y=z
  ·rw [BL c];simp [c]
  ·rw [BJ c];simp [c]
 ·rw [cZ]
  by_cases c:y=z
  ·rw [BL (by rw [c]),BL c];rfl
  ·rw [BJ λh=>c<|Sum.inr.inj h,BJ c,S.val y]
 ·by_cases c:y=z
  ·rw [BL c] at h;cases h;refine⟨S6,iC.symm,by rw [aC];rfl,?_⟩;rw [cM,c,BL rfl,S.eX z hA];exact .cons (by rw [aw mL,aC]) .nil
  ·rw [BJ c] at h;obtain⟨r1,r2,r3,r4⟩:=S.at' y a' c8 h;refine⟨r1,r2,keep _ _ r2 r3,?_⟩;rw [cM,BJ λh=>c h.symm,Be];exact r4.keep kt
 ·by_cases c:y=z <;> by_cases c':y'=z
  ·rw [c,c']
  ·rw [BL c] at h1;rw [BJ c'] at h2;cases h1;exact absurd hl<|by rw [(S.at' y' l0 us h2).2.2.1];exact λh=>nomatch h
  ·rw [BJ c] at h1;rw [BL c'] at h2;cases h2;exact absurd hl<|by rw [(S.at' y l0 c8 h1).2.2.1];exact λh=>nomatch h
  ·rw [BJ c] at h1;rw [BJ c'] at h2;exact S.inj y y' a' c8 us h1 h2
 ·by_cases c:y=z
  ·rw [BL c] at h;cases h
  ·rw [BJ c] at h;rw [cM,BJ λh=>c h.symm,Be];exact S.eX y h
 ·by_cases c:y=z
  ·rw [cM,BL c.symm];simp
  ·rw [BJ c] at h;rw [cM,BJ λh=>c h.symm,Be];exact S.some' y a' c8 h
theorem yk:∀(n m:Net) (k:Nat),dh k (n++m)=dh k n++dh (k+n.length) m
 | [],m,k=>rfl
 | a :: n,m,k=>by
  show aW k a.2 0++dh (k+1) (n++m)=(aW k a.2 0++dh (k+1) n)++dh (k+(n.length+1)) m;rw [yk n m<|k+1,Ao,show k+1+n.length=k+(n.length+1) by omega]
theorem mM{n:Net}{r:Nat}(h:r < n.length):aU (n.take<|r+1)=aU (n.take r)++aW r (row n r) 0:=by
 unfold aU;rw [Cu,Ab h,yk];have e:(n.take r).length=r:=by rw [Bj];omega
 rw [e,Em];have er:row n r=n[r].2:=by unfold row;rw [Ab h];rfl
 rw [er];show _++(aW r n[r].2 0++[])=_;rw [Be]
theorem kF{r:Nat}{ts:List Str}{p:Nat}{z:Str}(h:ts[p]?=some z):aW r (ts.take<|p+1) 0=aW r (ts.take p) 0++[(z,(r,p))]:=by
 unfold aW;have hp:=(Ac.mp h).1;rw [Cu,h,List.zipIdx_append,Ah];have e:(ts.take p).length=p:=by rw [Bj];omega
 rw [e,Em];rfl
structure bE(H:Hp)(d:Addr)(n:Net)(ks:List Str):Prop where
 dict:∃ kvs,H d=some (.dK kvs)/\kvs.map (·.1)=ks.map Sum.inr/\∀ z∈ag n,∃ a ts,aB kvs (Sum.inr z)=some (.ref a)/\H a=some (.lst<|ts.map V.ref)/\Pd H ts (pos n z)
 nodup:ks.Nodup
 mem:∀ z,z∈ks↔z∈ag n
theorem bE.same{H H':Hp}{d:Addr}{n:Net}{ks:List Str}(S:bE H d n ks)(s:ak H H'):bE H' d n ks:=by
 obtain⟨kvs,h1,h2,h3⟩:=S.dict;refine⟨⟨kvs,s _ _ h1,h2,λz hz=>?_⟩,S.nodup,S.mem⟩;obtain⟨a,ts,q1,q2,q3⟩:=h3 z hz;exact⟨a,ts,q1,s _ _ q2,q3.keep λt e h=>s _ _ h⟩
theorem S7{n:Net}{z:Str}:z∈ag n↔pos n z≠[]:=by
 rw [<- Cq,<- jK,Co]
theorem aX.whole{H0 H:Hp}{d:Addr}{n:Net}{kvs:List (Key×V)}{ks:List Str}{A:Str->Option (Addr×List Addr)}(S:aX H0 H d (aU n) kvs ks A):bE H d n ks:=by
 have mem:∀ z,z∈ks↔z∈ag n:=λz=>by
  rw [S.mem z,S7];cases h:A z with
  | none=>simp;exact S.eX z h
  | some p=>
   obtain⟨a,ts⟩:=p;simp;exact S.some' z a ts h
 refine⟨⟨kvs,S.dict,S.keys,λz hz=>?_⟩,S.nodup,mem⟩;have:=(S.mem z).mp<|(mem z).mpr hz;cases h:A z with
 | none=>rw [h] at this;cases this
 | some p=>
  obtain⟨a,ts⟩:=p;obtain⟨q1,q2,q3,q4⟩:=S.at' z a ts h;exact⟨a,ts,by rw [S.val z,h];rfl,q3,q4⟩
theorem all2(e:Nat->Bool):(List.range 2).all e=(e 0 && e 1):=by
 show(([0,1]:List Nat).all e)=_;simp
theorem Iw(x y:End):(dI (.int x.1) (.int y.1) && dI (.int x.2) (.int y.2))=decide (x=y):=by
 obtain⟨a,b⟩:=x;obtain⟨c,d⟩:=y
 by_cases h:a=c <;> by_cases h2:b=d
 ·subst h h2;simp [dI]
 ·have:¬(b:Int)=(d:Int):=λe=>h2 (by omega);simp [dI,h2,this]
 ·have:¬(a:Int)=(c:Int):=λe=>h (by omega);simp [dI,h,this]
 ·have:¬(a:Int)=(c:Int):=λe=>h (by omega);simp [dI,h,this]
section
variable{X:Cx}{H:Hp}{s t:Addr}{x y:End}
theorem Iy:∀(j:Nat) (u v:V),[V.int x.1,.int x.2][j]?=some u->[V.int y.1,.int y.2][j]?=some v->mH X H 0 u v (if j=0 then dI (.int x.1) (.int y.1) else dI (.int x.2) (.int y.2))
 | 0,u,v,h1,h2=>by
  cases h1;cases h2;exact ul rfl rfl
 | 1,u,v,h1,h2=>by
  cases h1;cases h2;exact ul rfl rfl
 | j+2,u,v,h1,h2=>by simp at h1
theorem S8(hs:H s=some (Tp x))(ht:H t=some (Tp y)):qR X H 1 (.ref s) (.ref t) (decide (x=y)):=by
 have:=Sv (X:=X) (k:=0) (λj=>if j=0 then dI (.int x.1) (.int y.1) else dI (.int x.2) (.int y.2)) (aP.of hs) (aP.of ht) rfl Iy;rw [show([V.int (x.1:Int),.int x.2].length)=2 from rfl,all2] at this;have e:=Iw x y;simp only [CT] at this;rw [BJ (by decide),e] at this;exact this
theorem S9(hs:H s=some (Tp x))(ht:H t=some (Tp y)):oR X H 1 (.ref s) (.ref t) (decide (x=y)):=by
 have:=Ih (X:=X) (k:=0) (λj=>if j=0 then dI (.int x.1) (.int y.1) else dI (.int x.2) (.int y.2)) (aP.of hs) (aP.of ht) rfl Iy;rw [show([V.int (x.1:Int),.int x.2].length)=2 from rfl,all2] at this;have e:=Iw x y;simp only [CT] at this;rw [BJ (by decide),e] at this;exact this
end
abbrev lets:Str:= "abcdefghijklmnopqrstuvwxyz0123456789"
theorem Iz:lets.cps.toList.length=36:=by decide +kernel
theorem Ta:lets.cps.toList.Nodup:=by decide +kernel
def sgn(i:Int):Nat:=(dw lets.cps.toList<|i % 36).getD 0
theorem yl(i:Int):dw lets.cps.toList (i % 36)=some (sgn i):=by
 have h0:0<=i % 36:=Bq _ (by decide);have h1:i % 36 < 36:=Bv _ (by decide);have hj:(i % 36).toNat < lets.cps.toList.length:=by rw [Iz];omega
 have q:=km (xs:=lets.cps.toList) (j:=(i % 36).toNat) (v:=lets.cps.toList[(i % 36).toNat]) (by simp [hj]);rw [show(((i % 36).toNat:Nat):Int)=i % 36 by omega] at q;unfold sgn;rw [q];rfl
theorem IA{i j:Int}(h:sgn i=sgn j):i % 36=j % 36:=by
 have key:∀ k:Int,lets.cps.toList[(k % 36).toNat]?=some (sgn k):=λk=>by
  have h0:0<=k % 36:=Bq _ (by decide);have h1:k % 36 < 36:=Bv _ (by decide);have hj:(k % 36).toNat < lets.cps.toList.length:=by rw [Iz];omega
  have q:=km (xs:=lets.cps.toList) (j:=(k % 36).toNat) (v:=lets.cps.toList[(k % 36).toNat]) (by simp [hj]);rw [show(((k % 36).toNat:Nat):Int)=k % 36 by omega,yl] at q;rw [Ab hj,Option.some.inj q]
 have hi:=key i;have hj:=key j;rw [h] at hi;obtain⟨l1,e1⟩:=Ac.mp hi;obtain⟨l2,e2⟩:=Ac.mp hj;have:=(Fv (xs:=lets.cps.toList) (h₀:=l1) (h₁:=l2) Ta).mp<|e1.trans e2.symm;have a0:0<=i % 36:=Bq _ (by decide);have b0:0<=j % 36:=Bq _ (by decide);omega
def turn(b:Int)(sp:Int)(v k:Nat):Int:=b / 64+(k:Int) * (b / 7 % 5)+(if(k:Int)=sp then(v:Int) else 0)
def nm(b sp:Int)(v:Nat):Nat->Str
 | 0=>⟨#[]⟩
 | k+1=>nm b sp v k++⟨#[sgn<|turn b sp v k]⟩
theorem app_list(x y:Str):(x++y).cps.toList=x.cps.toList++y.cps.toList:=by
 show(x.cps++y.cps).toList=_;simp
theorem uz(b sp:Int)(v:Nat):∀ k,(nm b sp v k).cps.toList=(List.range k).map λj=>sgn<|turn b sp v j
 | 0=>rfl
 | k+1=>by
  show(nm b sp v k++⟨#[sgn<|turn b sp v k]⟩).cps.toList=_;rw [app_list,uz b sp v k,Di,Ah];rfl
theorem Tb{b sp:Int}{u v k:Nat}(hu:u < 36)(hv:v < 36)(h0:0<=sp)(h1:sp < (k:Int))(h:nm b sp u k=nm b sp v k):u=v:=by
 have e:(nm b sp u k).cps.toList=(nm b sp v k).cps.toList:=by rw [h]
 rw [uz,uz] at e;have hk:sp.toNat < k:=by omega
 have q:((List.range k).map λj=>sgn<|turn b sp u j)[sp.toNat]?=((List.range k).map λj=>sgn<|turn b sp v j)[sp.toNat]?:=by rw [e]
 rw [Ag,Ag,Cc hk] at q;have q2:sgn (turn b sp u sp.toNat)=sgn (turn b sp v sp.toNat):=Option.some.inj q;have q3:=IA q2;unfold turn at q3;rw [show((sp.toNat:Nat):Int)=sp by omega,BL rfl,BL rfl] at q3;omega
theorem fold_list(c:Nat):∀(k:Nat) (acc:Array Nat),((List.replicate k (#[c]:Array Nat)).foldl (·++·) acc).toList=acc.toList++List.replicate k c
 | 0,acc=>by simp
 | k+1,acc=>by
  rw [List.replicate_succ,Eb,fold_list c k,List.replicate_succ];simp
theorem mul_list(c:Nat){i:Int}(h:1<=i):(Txt.mul ⟨#[c]⟩ i).cps.toList=List.replicate i.toNat c:=by
 unfold Txt.mul;rw [BJ<|by omega]
 by_cases e:i=1
 ·subst e;rfl
 ·have e1:(i == 1 || (⟨#[c]⟩:Str).length == 0)=false:=by
   have:(i == 1)=false:=by simpa using e
   rw [this];rfl
  rw [e1];simp only [Cj,CV];have:=fold_list c i.toNat #[]
  simpa using this
def aK(b:Int)(v:Nat):Str:=if b % 3=2 then Txt.mul ⟨#[sgn<|b / 64+(v:Int) / 8]⟩ (1+(v:Int) % 8) else nm b (b / 8 % (1+b % 8)) v (1+b % 8).toNat
theorem Tc{b:Int}{u v:Nat}(hu:u < 36)(hv:v < 36)(h:aK b u=aK b v):u=v:=by
 have s0:0<=b % 8:=Bq _ (by decide);unfold aK at h
 by_cases c:b % 3=2
 ·rw [BL c,BL c] at h;have u0:0<=(u:Int) % 8:=Bq _ (by decide);have v0:0<=(v:Int) % 8:=Bq _ (by decide);have e:(Txt.mul ⟨#[sgn<|b / 64+(u:Int) / 8]⟩<|1+(u:Int) % 8).cps.toList=(Txt.mul ⟨#[sgn<|b / 64+(v:Int) / 8]⟩<|1+(v:Int) % 8).cps.toList:=by rw [h]
  rw [mul_list _ (by omega),mul_list _<|by omega] at e;have l:=BZ List.length e;rw [Dp,Dp] at l;have hd:(List.replicate (1+(u:Int) % 8).toNat<|sgn<|b / 64+(u:Int) / 8)[0]?=(List.replicate (1+(v:Int) % 8).toNat<|sgn<|b / 64+(v:Int) / 8)[0]?:=by rw [e]
  rw [Dv,Dv,BL (by omega),BL<|by omega] at hd;have q:=IA<|Option.some.inj hd;omega
 ·rw [BJ c,BJ c] at h;refine Tb hu hv (Bq _<|by omega) ?_ h;have:=Bv (b / 8) (show 0 < 1+b % 8 by omega);omega
def namesOf(b:Int)(m:Nat):List Str:=(List.range m).map<|aK b
theorem uA{b:Int}{m:Nat}(h:m<=36):(namesOf b m).Nodup:=by
 unfold namesOf;refine FT _ (R:=λi j=>i < j/\j < m) ?_ ?_
 ·rintro i j ⟨h1,h2⟩ e;have:=Tc (by omega) (by omega) e;omega
 ·rw [Bp];intro i j hi hj c7;simp only [Fp];simp at hj;exact⟨c7,hj⟩
theorem uB(b:Int)(m:Nat):namesOf b (m+1)=namesOf b m++[aK b m]:=by
 unfold namesOf;rw [Di,Ah];rfl
theorem ym(b:Int)(m:Nat):(namesOf b m).length=m:=by unfold namesOf;simp
theorem Td{b:Int}{m i:Nat}(h:i < m):(namesOf b m)[i]?=some (aK b i):=by
 unfold namesOf;rw [Ag,Cc h];rfl
def Full(n:Net):Prop:=(∃ nm,n=[(nm,[])])\/(n≠[]/\∀ i,i < n.length->row n i≠[])
def dD(n:Net)(c:End):Prop:=c.1 < n.length/\c.2 < max 1 (row n c.1).length
def ins(n:Net)(c:End)(z:Str):Net:=n.modify c.1 λr=>(r.1,r.2.take c.2++z :: r.2.drop c.2)
theorem fA(n:Net)(c:End)(z:Str):(ins n c z).length=n.length:=by unfold ins;rw [List.length_modify]
theorem yn(n:Net)(c:End)(z:Str):(ins n c z).map (·.1)=n.map (·.1):=by
 unfold ins;refine Cv λi=>?_;rw [Ag,Ag,Ff];cases n[i]? with
 | none=>rfl
 | some r=>by_cases h:c.1=i <;> simp [h]
theorem oV(n:Net)(c:End)(z:Str)(i:Nat)(hc:c.1 < n.length):row (ins n c z) i=if c.1=i then(row n i).take c.2++z :: (row n i).drop c.2 else row n i:=by
 unfold row ins;rw [Ff]
 by_cases h:c.1=i
 ·subst h;rw [Ab hc];simp
 ·rw [BJ h];cases n[i]? with
  | none=>simp [h]
  | some r=>simp [h]
theorem jf:∀(n:Net) (c:End) (z:Str),c.1 < n.length->(ag<|ins n c z).Perm (z :: ag n)
 | [],c,z,h=>by simp at h
 | a :: n,(0,p),z,h=>by
  unfold ins ag;simp only [List.modify_zero_cons,Bt];have:(a.2.take p++z :: a.2.drop p).Perm (z :: a.2):=by
   refine List.perm_middle.trans ?_;rw [Ct]
  exact this.append_right _
 | a :: n,(i+1,p),z,h=>by
  have ih:=jf n (i,p) z (by simpa using h);unfold ins ag at ih ⊢;simp only [List.modify_succ_cons,Bt];refine(ih.append_left a.2).trans ?_;exact List.perm_middle
theorem yo{n:Net}{c:End}{z:Str}(F:Full n)(hc:c.1 < n.length):n.length=1\/(∀ i,i < n.length->row n i≠[])->(∀ i,i < (ins n c z).length->row (ins n c z) i≠[])/\ins n c z≠[]:=by
 intro h;have hl:=fA n c z;refine⟨λi hi=>?_,λe=>?_⟩
 ·rw [oV n c z i hc]
  by_cases q:c.1=i
  ·rw [BL q];simp
  ·rw [BJ q]
   rcases h with h | h
   ·rw [hl] at hi;omega
   ·exact h i<|by omega
 ·rw [e] at hl;simp at hl;omega
theorem Full.some{n:Net}(F:Full n):n≠[]:=by
 rcases F with ⟨nm,rfl⟩ | h
 ·simp
 ·exact h.1
theorem Full.either{n:Net}(F:Full n):n.length=1\/(∀ i,i < n.length->row n i≠[]):=by
 rcases F with ⟨nm,rfl⟩ | h
 ·exact .inl rfl
 ·exact .inr h.2
theorem Full.cg{n:Net}(F:Full n)(h0:row n 0≠[]){c:End}(hc:dD n c):c∈ends n:=by
 rcases F with ⟨nm,rfl⟩ | h
 ·exact absurd rfl h0
 ·have:=h.2 c.1 hc.1;have hp:0 < (row n c.1).length:=Co.mpr this;have bn:c.2 < (row n c.1).length:=by
   have:=hc.2;omega
  exact af.mpr<|ut bn
theorem Te{n:Net}{e:End}(h:e∈ends n):dD n e:=by
 obtain⟨z,h⟩:=af.mp h;have:=fw h;exact⟨cT h,by omega⟩
def mN(H H':Hp)(bad:List Addr):Prop:=∀ b o,H b=some o->b∉bad->H' b=some o
theorem IB(zs:List Str)(i:Nat)(z:Str):insertAt (zs.map V.str) i (.str z)=(zs.take i++z :: zs.drop i).map V.str:=by
 unfold insertAt;rw [Ah,Au,List.map_take,QS]
theorem aj.ins{H:Hp}{R:Addr}{as:List (Addr×Addr)}{n:Net}(h:aj H R as n){c:End}{z:Str}{a:Addr×Addr}(ha:as[c.1]?=some a)(hc:c.1 < n.length) :
  aj (upd H a.2<|Ls<|(row n c.1).take c.2++z :: (row n c.1).drop c.2) R as (Nt.ins n c z):=by
 have q0:=h.tup c.1 a n[c.1] ha<|Ab hc;have Tf:R≠a.2:=by
  intro e;have h1:=h.lst;rw [e,q0.2] at h1;have h2:=HO.lst.inj<|Option.some.inj h1;have h3:=BZ List.length h2;cases hm:n[c.1].2 with
  | nil=>
   rw [hm] at h2;have:as.map (λa=>V.ref a.1)=[]:=h2.symm;have hl:=BZ List.length this;rw [Aa,h.len] at hl;rw [hl] at hc;exact absurd hc<|Ec _
  | cons y r=>
   rw [hm] at h2;cases as with
   | nil=>simp at h2
   | cons b bs=>
    simp at h2
 have er:row n c.1=n[c.1].2:=by unfold row;rw [Ab hc];rfl
 refine⟨by rw [fA];exact h.len,by rw [aw Tf];exact h.lst,λi b r hb hr=>?_,h.inj⟩;unfold Nt.ins at hr;rw [Ff] at hr;cases hn:n[i]? with
 | none=>rw [hn] at hr;by_cases q:c.1=i <;> simp [q] at hr
 | some r0=>
  rw [hn] at hr;have q1:=h.tup i b r0 hb hn;have t1:b.1≠a.2:=bW q1.1 q0.2 λe=>nomatch e
  by_cases q:c.1=i
  ·subst q;rw [Ab hc] at hn;cases hn;rw [ha] at hb;cases hb;simp at hr;subst hr;refine⟨by rw [aw t1];exact q1.1,?_⟩;rw [aC,er]
  ·simp [q] at hr;subst hr;have t2:b.2≠a.2:=λe=>by
    have l1:i < as.length:=(Ac.mp hb).1;have l2:c.1 < as.length:=(Ac.mp ha).1;have x1:(as.map (·.2))[i]?=some b.2:=by rw [Ag,hb];rfl
    have x2:(as.map (·.2))[c.1]?=some a.2:=by rw [Ag,ha];rfl
    obtain⟨y1,z1⟩:=Ac.mp x1;obtain⟨y2,z2⟩:=Ac.mp x2;exact q<|(Fv (h₀:=y2) (h₁:=y1) h.inj).mp<|z2.trans<|e.symm.trans z1.symm
   exact⟨by rw [aw t1];exact q1.1,by rw [aw t2];exact q1.2⟩
theorem aj.more{H:Hp}{R t l:Addr}{as:List (Addr×Addr)}{n:Net}{pt:Str}{zs:List Str}(h:aj H R as n)(ht:H t=some (.tup [.str pt,.ref l]))(hl:H l=some (Ls zs))(hn:l∉as.map (·.2))(hR:l≠R) :
  aj (upd H R<|.lst<|as.map (λa=>V.ref a.1)++[.ref t]) R (as++[(t,l)]) (n++[(pt,zs)]):=by
 have bV:=h.len;refine⟨by rw [Af,Af,bV];rfl,by rw [aC,Ah];rfl,λi b r hb hr=>?_,?_⟩
 ·rcases Ef i as.length with c | c
  ·rw [Av c] at hb;rw [Av<|by omega] at hr;have q:=h.tup i b r hb hr;have t1:b.1≠R:=bW q.1 h.lst λe=>nomatch e;have t2:b.2≠R:=by
    intro e;have h1:=h.lst;rw [<- e,q.2] at h1;have h2:=HO.lst.inj<|Option.some.inj h1;cases as with
    | nil=>simp at c
    | cons b' bs=>
     cases hm:r.2 with
     | nil=>rw [hm] at h2;simp at h2
     | cons y r=>rw [hm] at h2;simp at h2
   exact⟨by rw [aw t1];exact q.1,by rw [aw t2];exact q.2⟩
  ·have e:i=as.length:=by
    have:=(Ac.mp hb).1;rw [Af] at this;simp at this;omega
   subst e;rw [Az<|Al _] at hb;rw [bV,Az<|Al _] at hr;simp at hb hr;subst hb hr;have t1:t≠R:=bW ht h.lst λe=>nomatch e;exact⟨by rw [aw t1];exact ht,by rw [aw hR];exact hl⟩
 ·rw [Ah,Bu];exact⟨h.inj,by simp,λx hx y hy e=>by simp at hy;subst hy e;exact hn hx⟩
theorem aj.lists{H:Hp}{R:Addr}{as:List (Addr×Addr)}{n:Net}(h:aj H R as n){x:Addr×Addr}(hx:x∈as):∃ zs,H x.2=some (Ls zs):=by
 obtain⟨i,hi,e⟩:=Ce.mp hx;have hl:=h.len;exact⟨_,(h.tup i x (n[i]'(by omega)) (by rw [<- e];exact Ab hi)<|Ab<|by omega).2⟩
theorem aj.fresh{H:Hp}{R l:Addr}{as:List (Addr×Addr)}{n:Net}(h:aj H R as n)(hl:H l=none){x:Addr×Addr}(hx:x∈as):l≠x.2:=by
 obtain⟨zs,e⟩:=h.lists hx;exact(bD e hl).symm
theorem iD(n:Net):(ends n).length=(ag n).length:=by
 unfold ends aU;rw [Aa,<- iB n 0,Aa]
theorem dZ.ends{n:Net}(T:aq n){e:End}{fs:List End}(h:dZ n e fs)(he:e∈ends n):∀ c∈fs,c∈Nt.ends n:=by
 intro c hc;obtain⟨i,hi,e2⟩:=Ce.mp hc;have:=h.at' i hi;rw [Ab hi,e2] at this;rw [Option.some.inj this];exact hU (λa ha=>mK T ha) he i
theorem uC{n:Net}{c k:End}{z:Str}(hc:dD n c)(hk:k.1 < n.length):dD (ins n k z) c:=by
 refine⟨by rw [fA];exact hc.1,?_⟩;rw [oV n k z c.1 hk];have:=hc.2
 split
 ·rw [Af,An,Bj,Cp];omega
 ·exact this
def dbl(zs:List Str):List Str:=zs.flatMap λz=>[z,z]
theorem yp(y:Str):∀ zs:List Str,(dbl zs).count y=2 * zs.count y
 | []=>rfl
 | z :: r=>by
  unfold dbl;rw [Bt];have ih:=yp y r;unfold dbl at ih;rw [Eh,ih,Cr,Cr,Cr,List.count_nil];omega
theorem ga{y:Str}{zs:List Str}:y∈dbl zs↔y∈zs:=by
 rw [<- Cq,yp,<- Cq];omega
theorem yq:∀ zs:List Str,(dbl zs).length=2 * zs.length
 | []=>rfl
 | z :: r=>by
  unfold dbl;rw [Bt,Af];have ih:=yq r;unfold dbl at ih;rw [ih,An];simp;omega
theorem Tg(zs:List Str)(z:Str):dbl (zs++[z])=dbl zs++[z,z]:=by
 unfold dbl;rw [Dm];rfl
theorem IC{n:Net}{zs:List Str}(hn:zs.Nodup)(p:(ag n).Perm<|dbl zs):aq n:=λz hz=>by
 rw [p.count_eq,yp];have h1:z∈zs:=ga.mp<|p.mem_iff.mp hz;rw [hn.count,BL h1]
def NE(n:Net):Prop:=∀ r∈n,r.2≠[]
theorem jg{n:Net}{i:Nat}(h:i < n.length):row n i=n[i].2:=by unfold row;rw [Ab h];rfl
theorem Ti{n:Net}(h:NE n)(h0:n≠[]):Full n:= .inr ⟨h0,λi hi=>by rw [jg hi];exact h _<|Bn hi⟩
theorem Full.ne{n:Net}(h:Full n):(∃ nm,n=[(nm,[])])\/NE n:=by
 rcases h with h | ⟨_,h⟩
 ·exact .inl h
 ·refine .inr λr hr=>?_;obtain⟨i,hi,rfl⟩:=Ce.mp hr;have:=h i hi;rwa [jg hi] at this
theorem IE:∀(n:Net) (k:Nat) (h:k < n.length),(ag n).Perm<|n[k].2++ag (n.eraseIdx k)
 | [],k,h=>by simp at h
 | a :: n,0,h=>by unfold ag;simp
 | a :: n,k+1,h=>by
  have ih:=IE n k (by simpa using h);unfold ag at ih ⊢;simp only [Bt,List.getElem_cons_succ,List.eraseIdx_cons_succ];refine(ih.append_left a.2).trans ?_;rw [<- Ao,<- Ao];exact List.perm_append_comm.append_right _
theorem Tj(n:Net)(k:Nat)(h:k < n.length):(n.map (·.1)).Perm (n[k].1 :: (n.eraseIdx k).map (·.1)):=by
 have:=(cb.cJ n k h).map (·.1);exact this.symm
theorem yr(zs:List Str)(i:Nat):(zs.drop i++zs.take i).Perm zs:=by
 refine Bx.trans ?_;rw [Ct]
theorem aj.upd{H:Hp}{R x:Addr}{as:List (Addr×Addr)}{n:Net}(h:aj H R as n){xs:List V}{o:HO}(hx:H x=some (.lst xs))(hR:R≠x)(ha:∀ a∈as,a.2≠x):aj (upd H x o) R as n:=by
 refine⟨h.len,by rw [aw hR];exact h.lst,λi a r h1 h2=>?_,h.inj⟩;have q:=h.tup i a r h1 h2;exact⟨by rw [aw<|bW q.1 hx λe=>nomatch e];exact q.1,by rw [aw<|ha a<|At h1];exact q.2⟩
theorem yt{α:Type}(l:List α)(k i:Nat):(l.eraseIdx k)[i]?=if i < k then l[i]? else l[i+1]?:=by
 rw [Fs]
theorem aj.erase{H:Hp}{R:Addr}{as:List (Addr×Addr)}{n:Net}(h:aj H R as n){k:Nat}(hk:k < n.length) :
  aj (L2.upd H R<|.lst<|(as.map λa=>V.ref a.1).eraseIdx k) R (as.eraseIdx k) (n.eraseIdx k):=by
 have hl:=h.len;refine⟨by rw [Ej,Ej,hl],?_,λi a r h1 h2=>?_,?_⟩
 ·rw [aC]
  congr 2
  refine Cv λi=>?_;rw [yt,Ag,Ag,Ag,yt]
  split <;> rfl
 ·rw [yt] at h1 h2;have q:H a.1=some (.tup [.str r.1,.ref a.2])/\H a.2=some (Ls r.2):=by
   by_cases c:i < k
   ·rw [BL c] at h1 h2;exact h.tup i a r h1 h2
   ·rw [BJ c] at h1 h2;exact h.tup (i+1) a r h1 h2
  have t2:a.2≠R:=by
   intro e;have h3:=h.lst;rw [<- e,q.2] at h3;have h4:=HO.lst.inj<|Option.some.inj h3;cases as with
   | nil=>simp at hl;simp [<- hl] at hk
   | cons b bs=>
    cases hm:r.2 with
    | nil=>rw [hm] at h4;simp at h4
    | cons y r=>rw [hm] at h4;simp at h4
  exact⟨by rw [aw<|bW q.1 h.lst λe=>nomatch e];exact q.1,by rw [aw t2];exact q.2⟩
 ·have:((as.eraseIdx k).map (·.2)).Sublist (as.map (·.2)):=(List.eraseIdx_sublist as k).map _;exact h.inj.sublist this
theorem IG(zs:List Str)(i:Nat):b9 (zs.map V.str) (some (i:Int)) none=(zs.drop i).map V.str:=by
 unfold b9;rw [HT.dW,HT.df,Aa];rw [Dx (by rw [Cp,Aa];omega),QS]
 rcases QW i zs.length with h | h
 ·rw [NQ h]
 ·rw [LC h,Ep (by simp),Ep<|by simpa using h]
theorem Tl(zs:List Str)(i:Nat):b9 (zs.map V.str) none (some (i:Int))=(zs.take i).map V.str:=by
 unfold b9;rw [HT.dW,HT.df,Aa,List.drop_zero,QX,List.map_take]
 rcases QW i zs.length with h | h
 ·rw [NQ h]
 ·rw [LC h,Dx (by simp),Dx<|by simpa using h]
end Nt
namespace L2
open PySem PySem.Spec PyProof.Rows
theorem uD{X:Cx}{e tg iter:Expr}{ifs:List Expr}{scope:Scope}{pz:Pos}{gs:List Comprehension}{newAcc:Sem Value}{o0:Obj}{u0:Addr->HO}{inner:Value->Env->Sem Unit}{wi:TI}{σ:St}{H:Hp}{Q:VK}
  (fJ:∀(Q:Value->Shared->Prop) (E:Value->Shared->Prop) (s:Shared),Q (.ref s.heap.objs.size) {s with heap:=s.heap.push o0}->wpAny (model X.prog X.w) X.A newAcc Q E s) (fG:∀(H:Hp) (h:Heap),sysModules < h.objs.size->ay X.prog X.w H (h.push o0) h.objs.size (u0 h.objs.size))
  (hC:∀ acc env,Clause e 0 tg iter ifs acc env<|inner acc env) (he:eval e X.env=comprehension e scope X.env pz newAcc false (eval iter X.env) none) (mO:clausesOf e=⟨tg,iter,ifs,0⟩ :: gs)
  (sc:Scope) (N N':List Str) (n:Nat) (hi:PI X tg iter wi)
  (h:wi σ H λJ H1=>∀ D,H1 D=none->∀ cl C s₀ H₀ ex,ft (eV X N' scope cl C s₀ H₀ ex) tg ifs (inner (.ref D)<|compEnvC scope cl C X.env) J (λ_ H'=>Q (.ref D) H') (σ++List.replicate n none)<|upd H1 D<|u0 D)
  (hc:X.calm=true) (gP:X.env.scope=sc) (hN:X.N=N) (hk:jH sc scope N N'=true) (hl:N'.length=N.length+n) (hs:∀ x,foldedSetIterable iter X.env x=pure x):Ev X e σ H Q:=by
 refine⟨λpins s I=>?_⟩;subst gP hN;have ck:=b5.of hk;rw [he];refine HX (use:=none) mO hs (xG λx hx hf=>I.ok.has x.1<|ck.free x hx hf) ck.kind ck.names<|aH (hi pins s σ H _ I h) λv s1 h1=>aH h1 λlP s2 h2=>?_;obtain⟨it,fp,tn,J,H2,e,I2,T,fm,f2,q⟩:=h2;subst e;refine HI fJ fG (Q:=Q) (RR:=λacc C=>compPost (model X.prog X.w) X.A X.xe none (EP X pins σ Q) acc C) hc ck hl hC I2 T fm f2 q ?_;intro D C H' s' m IX hn hC c1 c2 c3 c4 qq;exact⟨m,hn,λh' fK=>⟨.ref D,H',IX.turned (t':=s'.toks) (λb o hb e=>fK.extBut b o hb e) hC (CG<|CG c1) (.inr c2) c3 c4,rfl,qq⟩⟩
theorem To{P:Program}{w:World}{k:Key}{u:Value}(h:(cQ P w).is k u=true):RelV (kV k) u:=by
 rcases i4 h with ⟨i,t,rfl,rfl⟩ | ⟨x,t,rfl,rfl⟩ <;> exact⟨t,rfl⟩
section
variable{X:Cx}{pins:List (Addr×Obj)}{σ:St}{H:Hp}{s:Shared}
theorem Tq{d:Addr}{kvs:List (Key×V)}(I:Inv X pins σ H s)(e:H d=some (.dK kvs)):∃ o,s.heap.get? d=some o/\Inv X pins σ (upd H d<|.bv o<|.dK kvs) s:=by
 obtain⟨z,hd,vs,rel,dd⟩:=qI I.aE e;obtain⟨o,es,ep,ho,rest⟩:=id dd;refine⟨o,ho,?_⟩;exact kq (t':=s.toks) I (by rw [e];exact True.intro) ⟨rfl,λ_ _=>rfl⟩ ⟨o,ho⟩ (show ay X.prog X.w _ s.heap d (.bv o<|.dK kvs) from⟨ho,z,hd,vs,rel,dd⟩)
def uE(d:Addr)(o:Obj)(kvs:List<|Key×V):It:=
 ⟨λi H=>H d=some (.bv o<|.dK kvs)/\i < kvs.length,λi H x H'=>H'=H/\∃ p,kvs[i]?=some p/\x=kV p.1,λi H=>H d=some (.bv o<|.dK kvs)/\kvs.length<=i⟩
theorem IH{P:Program}{w:World}{h:Heap}{d:Addr}{o:Obj}{es:Array DictEntry}{ep:Nat}{kvs:List (Key×V)}(aE:b8 P w H h)(e:H d=some (.bv o<|.dK kvs))(hd:o.data = .dict es ep):∃ vs,KV kvs vs/\h.DictAt (cQ P w) d vs ep:=by
 obtain⟨ho,z,_,vs,rel,dd⟩:=(show ay P w H h d (.bv o<|.dK kvs) from aE d _ e);obtain⟨p7,o',dS,dA,r1,r2,r3⟩:=dd.dictAt;have:o=o':=Option.some.inj<|ho.symm.trans dA;subst this;rw [hd] at r2
 injection r2 with e1 e2
 subst e1;subst e2;exact⟨vs,rel,o,es,dA,r1,hd,r3⟩
theorem II{P:Program}{w:World}{K:PySem.W.Frag}{tg:Expr}(d it:Addr)(o:Obj)(es:Array DictEntry)(ep:Nat)(kvs:List<|Key×V)(mP:o.data = .dict es ep):Turn P w K tg (uE d o kvs) [it] it (λi h=>h.IsKeyIter it d i kvs.length ep) where
 mem:=by simp
 obj:=λi h st b hb=>by
  have e:b=it:=by simpa using hb
  subst e;obtain⟨o,e,c,d⟩:=st;exact⟨o,e,λv z=>by rw [d] at z;cases z⟩
 keep:=λi h h' st k=>let ⟨o,ho,r⟩:=st;⟨o,k it (by simp) o ho,r⟩
 item:=by
  intro X hP hw hK hc i pins s σ H E I hf st hg;subst hP hw hK;obtain⟨f0,f1,f2,f3,f4,f5⟩:=hf it (by simp);obtain⟨hd,hi⟩:=hg;obtain⟨vs,rel,da⟩:=IH I.aE hd mP;have hl:=rel.length;have yu:i < vs.length:=by omega
  have hx:vs[i]?=some vs[i]:=Ab yu;rw [hl] at st;refine wpAny_pyNext_dict_item (k:=vs[i].1) (v:=vs[i].2) st da hx λkey h' hk dc fK=>?_;have I1:Inv X pins σ H {s with heap:=h'}:=I.turned (t':=s.toks) (λb o hb e=>fK.extBut b o hb e) f0 f1 f3 f4 f5;obtain⟨o2,e2,c2,d2⟩:=id dc;refine⟨_,rfl,tS (s:={s with heap:=h'}) e2 c2 d2 (by decide) ⟨kV vs[i].1,H,I1,To hk,⟨rfl,kvs[i],Ab hi,?_⟩,by rw [hl];exact dc,λb hb=>(hf b hb).1⟩⟩;have ek:=rel.keys;have e3:(kvs.map (·.1))[i]?=(vs.map (·.1))[i]?:=by rw [ek]
  rw [Ag,Ag,Ab hi,hx] at e3;have e4:kvs[i].1=vs[i].1:=Option.some.inj e3;rw [e4]
 done:=by
  intro X hP hw hK hc i pins s σ H E I hf st hg;subst hP hw hK;obtain⟨f0,f1,f2,f3,f4,f5⟩:=hf it (by simp);obtain⟨hd,hi⟩:=hg;obtain⟨vs,rel,da⟩:=IH I.aE hd mP;have hl:=rel.length;rw [hl] at st;exact wpAny_pyNext_dict_end (I.ok.hd hc) st da (by rw [Bc];omega) λh' eb=>⟨rfl,I.turned (t':=s.toks) (λb o hb e=>eb b o hb e) f0 f1 f3 f4 f5⟩
 self:=λ_ _ _ _ _ st h=>wpAny_pyIter_keyiter st h
def Tr(tl:TE):TI:=λσ H R=>tl σ H λx H1=>∃ d kvs,x = .ref d/\H1 d=some (.dK kvs)/\∀ o,R (uE d o kvs)<|upd H1 d<|.bv o<|.dK kvs
theorem Ts{tg l:Expr}{tl:TE}(hl:PE X l tl):PI X tg l (Tr tl):=by
 intro pins s σ H R I h;refine aH (hl pins s σ H _ I h) λv s1 ⟨x,H1,I1,r1,q1⟩=>?_;obtain⟨d,kvs,e,hH,q⟩:=q1;subst e;cases (show v=Value.ref d from r1);obtain⟨o,ho,I2⟩:=Tq I1 hH;obtain⟨z,jL,vs,rel,dd⟩:=qI I1.aE hH;obtain⟨ep,o',es,dA,r1,r2,r3⟩:=dd.dictAt;have:o=o':=Option.some.inj<|ho.symm.trans dA;subst this;refine wpAny_pyIter_dict jL ⟨o,es,dA,r1,r2,r3⟩ ?_;refine⟨s1.heap.objs.size,[s1.heap.objs.size],_,_,_,rfl,I2.kept (t':=s1.toks) λb o e=>Ak _ e,II d _ o es ep kvs r2,⟨_,Bb _ rfl,rfl,by rw [rel.length];rfl⟩,λb hb=>?_,q o⟩;have e:b=s1.heap.objs.size:=by simpa using hb
 subst e;exact I2.eQ (Al _)<|I2.aE.fresh<|Al _
end
section
variable{X:Cx}{elt tg:Expr}{ifs:List Expr}{scope:Scope}{σ:St}{H:Hp}{N':List Str}{A a d:Addr}{xs:List V}{kvs:List (Key×V)}{after:Hp->Prop}
theorem yv(Pv:Nat->St->Hp->Prop)(h0:Pv 0 σ H)(hl:∀ i σ' H',i<=xs.length->Pv i σ' H'->au X.K H' a xs)
  (hs : ∀ i x σ' H', xs[i]? = some x → Pv i σ' H' → uh X N' scope tg x σ' H' λσ2 H3 => ui X N' scope ifs σ2 H3 λb H4 =>
   if b=true then ug X N' scope elt σ2 H4 λv H5=>∃ ys,H5 A=some (.lst ys)/\ys.length < sizeLine/\Pv (i+1) σ2 (upd H5 A<|.lst<|ys++[v]) else Pv (i+1) σ2 H4)
  (hd:∀ σ' H',Pv xs.length σ' H'->after H'):kz X N' scope tg ifs elt (oE X.K a) A after σ H:=by
 refine⟨λi m σ' H'=>m=xs.length - i/\i<=xs.length/\Pv i σ' H',⟨_,rfl,Bo _,h0⟩,?_⟩;rintro i m σ' H' ⟨rfl,hi,p⟩;have q:=hl i σ' H' hi p
 by_cases bn:i < xs.length
 ·refine .inr ⟨⟨xs,xs[i],q,by simp [bn]⟩,Pv<|i+1,λσ' H' p'=>⟨xs.length - (i+1),by omega,rfl,bn,p'⟩,λx H2 y=>?_⟩;obtain⟨e,y⟩:=y;subst e;exact hs i x σ' _ (y xs q) p
 ·have e:i=xs.length:=by omega
  subst e;exact .inl ⟨⟨xs,q,Al _⟩,hd σ' H' p⟩
theorem IJ{o:Obj}(Pv:Nat->St->Hp->Prop)(h0:Pv 0 σ H)(hl:∀ i σ' H',i<=kvs.length->Pv i σ' H'->H' d=some (.bv o<|.dK kvs))
  (hs : ∀ i p σ' H', kvs[i]? = some p → Pv i σ' H' → uh X N' scope tg (kV p.1) σ' H' λσ2 H3 => ui X N' scope ifs σ2 H3 λb H4 =>
   if b=true then ug X N' scope elt σ2 H4 λv H5=>∃ ys,H5 A=some (.lst ys)/\ys.length < sizeLine/\Pv (i+1) σ2 (upd H5 A<|.lst<|ys++[v]) else Pv (i+1) σ2 H4)
  (hd:∀ σ' H',Pv kvs.length σ' H'->after H'):kz X N' scope tg ifs elt (uE d o kvs) A after σ H:=by
 refine⟨λi m σ' H'=>m=kvs.length - i/\i<=kvs.length/\Pv i σ' H',⟨_,rfl,Bo _,h0⟩,?_⟩;rintro i m σ' H' ⟨rfl,hi,p⟩;have q:=hl i σ' H' hi p
 by_cases bn:i < kvs.length
 ·refine .inr ⟨⟨q,bn⟩,Pv<|i+1,λσ' H' p'=>⟨kvs.length - (i+1),by omega,rfl,bn,p'⟩,λx H2 y=>?_⟩;obtain⟨e,p',ep,y⟩:=y;subst e y;exact hs i p' σ' _ ep p
 ·have e:i=kvs.length:=by omega
  subst e;exact .inl ⟨⟨q,Al _⟩,hd σ' H' p⟩
theorem iE{e1 e2:Expr}{k:Nat}{pos:Pos}{t:Addr}{x y:V}{R:St->Hp->Prop}(hc:X.calm=true)(ht:aP X.K H t [x,y])(h:Eg X e1 x σ H λσ1 H1=>Eg X e2 y σ1 H1 R)
  (hn:(assignEach [e1,e2] X.env).length=2:=by rfl) (cA:(assignEach [e1,e2] X.env).findIdx? (·.1)=none:=by rfl)
  (iF:(assignEach [e1,e2] X.env).map (·.2)=assign e1 X.env :: (assignEach [e2] X.env).map (·.2):=by rfl) (jx:(assignEach [e2] X.env).map (·.2)=assign e2 X.env :: (assignEach [] X.env).map (·.2):=by rfl) :
  Eg X (.Tuple [e1,e2] k pos) (.ref t) σ H R:=
 xP (FY (t:=oD (λv σ H Q=>Eg X e1 v σ H Q)<|oD (λv σ H Q=>Eg X e2 v σ H Q) lN) hc (qd mv (qd mv FX jx) iF) hn cA) ⟨t,_,rfl,ht,rfl,_,_,rfl,h.mono λσ1 H1 h1=>⟨_,_,rfl,h1.mono λσ2 H2 q=>⟨rfl,q⟩⟩⟩
end
end L2
namespace PySem
theorem getAttr?_miss_list{prog:Program}{w:World}{A:Around}{E:Value->Shared->Prop}{s:Shared}{a:Addr}{o:Obj}{xs:Array Value}{k:Nat}{name:Str}{Q:Option Value->Shared->Prop}
  (hx:s.heap.get? a=some o) (hc:o.cls = .type "list") (gO:o.data = .seq xs k) (hd:o.dict=none) (qU:typeLookup (.type "list") name=pure none) (qV:(["__module__","__name__","__qualname__","__doc__","__annotations__"]:List Str).contains name=false) (hA:A.handled=none)
  (h:∀ h' tk e,Heap.NewExcOf s.heap h' e "AttributeError"->Q none {s with heap:=h',toks:=tk}) (hsz:name.length+100<=sizeLine:=by size_fits) :
  wpAny (model prog w) A (getAttr? (.ref a) name) Q E s:=by
 obtain⟨c,dct,dat,sl⟩:=o;simp only at hc gO hd;subst hc gO hd;obtain⟨hp,g,d,tk,os⟩:=s;have hT:∀ IL,(⟨hp,g,d,IL,os⟩:Shared).TypeIs (.ref a) "list":=λ_=>⟨_,hx,rfl⟩;have f1:=sub_AttributeError;have f3:=F.slot_list_getattribute.lookup;have f4:=F.slot_list_getattribute.bind<|.ref a;have f5:=am_list_getattr_none;unfold getAttr? getAttrBy? getAttrBy
 repeat (any_goals (first | assumption | exact hT _ | ((with_reducible show wpAny _ _ (call (Value.builtin "list.__getattribute__") _ _) _ _ _);refine KH F.slot_list_getattribute (hT _) am_entry_list_getattribute (F.args_list_getattribute_2 _ _) (meets_getattribute_miss_list a xs k sl name _ qU qV hsz) ⟨hx,hA,λh' IL e fI=>?_⟩) | wp_step))
 obtain⟨t',u',he⟩:=fI.there;show wpAny _ _ (getattributeRaised _ _ _ _ _ _ _) _ _ _;unfold getattributeRaised
 repeat (any_goals (first | assumption | wp_step))
 exact h _ _ _ fI.of
namespace F
theorem bh:entryFor table "dict.update.loop" = some Builtin.«dict.update.loop»:=entryFor_of_tree<|by kernel_rfl
theorem aG:plainId "dict.update.loop" = true:=by decide +kernel
theorem d3:typeLookup (.type "list") "keys" = pure none:=by rw [typeLookup_type,builtinLookup_eq_fast];kernel_rfl
end F
section
variable{prog:Program}{w:World}{K:Type} [DecidableEq K] {knd:KeyKind prog w K} {A:Around} {R:Result->Shared->Prop}
def yw(knd:KeyKind prog w K)(h:Heap)(items:List Value)(eY:List<|K×Value):Prop:=
 items.length=eY.length/\∀(j:Nat) it,items[j]?=some it->∃ T key k v o n,it = .ref T/\eY[j]?=some (k,v)/\knd.is k key=true/\h.get? T=some o/\o.cls = .type "tuple"/\o.data = .seq #[key,v] n
theorem Tv(kvs:List<|K×Value)(k:K)(v:Value):(stored kvs k v).length<=kvs.length+1:=by
 unfold stored
 split
 ·rw [Aa];omega
 ·rw [Af];simp
theorem Tw{hB:Heap}{d I l:Addr}{items:List Value}{eY:List (K×Value)}(hd:hB.objs.size<=d)(hI:hB.objs.size<=I)(yx:d≠I)(hl:hB.IsList l items.toArray)(hp:yw knd hB items eY)(hn:items.length < sizeLine)(hh:A.handled=none) :
  ∀(k i:Nat) (s:Shared) (acc:List<|K×Value),items.length - i=k->i<=items.length->(∀ b o,hB.get? b=some o->s.heap.get? b=some o)->s.heap.IsListIter I l i->s.heap.DictOf knd d acc->acc.length<=i ->
   (∀ h' tk,(∀ b o,b≠I->b≠d->s.heap.get? b=some o->h'.get? b=some o)->h'.DictOf knd d ((eY.drop i).foldl (λa p=>stored a p.1 p.2) acc)->R (.ok<|.ret .none) {s with heap:=h',toks:=tk}) ->
   codeAny (model prog w) A (.builtin "dict.update.loop" ⟨[.ref d,.ref I,rawInt i,.none],[]⟩) R s:=by
 have nb:∀ b o,hB.get? b=some o->b≠I/\b≠d:=λb o e=>⟨Bz<|Bf (Ax e) hI,Bz<|Bf (Ax e) hd⟩;intro k
 induction k with
 | zero=>
  intro i s acc hk hi eZ cA hD bV hR;have HE:i=items.length:=by omega
  refine JK F.bh ?_;rw [JL F.aG _];show wpAny _ A.in1 (pyNext (.ref I) >>= _) _ _ s;have mQ:s.heap.IsList l items.toArray:=let ⟨o,ho,r⟩:=hl;⟨o,eZ _ _ ho,r⟩
  refine BK (wpAny_pyNext_list_end hh cA mQ (by simp;omega) λh' eb=>?_);show wpAny _ A.in1 (Builtin.Dict.addKeywords d [] >>= _) _ _ _;refine BK<|BP<|BP ?_;refine hR h' s.toks (λb o hb _ e=>eb b o hb e) ?_;rw [List.drop_eq_nil_of_le<|by have:=hp.1;omega];exact hD.extBut eb yx
 | succ k ih=>
  intro i s acc hk hi eZ cA hD bV hR;have bn:i < items.length:=by omega
  have hx:items[i]?=some items[i]:=Ab bn;obtain⟨T,key,kk,v,o,n,e1,e2,e3,e4,e5,e6⟩:=hp.2 i _ hx;rw [e1] at hx;refine JK F.bh ?_;rw [JL F.aG _];show wpAny _ A.in1 (pyNext (.ref I) >>= _) _ _ s;have mQ:s.heap.IsList l items.toArray:=let ⟨o,ho,r⟩:=hl;⟨o,eZ _ _ ho,r⟩
  refine BK (wpAny_pyNext_list_item cA mQ (x:= .ref T) (by simpa using hx) λh' dc sb=>?_);have eT:h'.get? T=some o:=(sb.2 T (nb T o e4).1).trans<|eZ _ _ e4;refine BK<|CQ<|BK<|wpAny_tryCatch ?_;unfold Builtin.Dict.pairItems;refine BK<|wpAny_typeOf (T:= "tuple") ⟨o,eT,e5⟩ ?_;rw [BL<|by decide];refine BK<|wpAny_seqItems (s:={s with heap:=h'}) eT e6<|BP ?_;show wpAny _ _ (holding [key,v]<|dictSet d key v) _ _ _;refine CQ (wpAny_dictSet_pairs (knd:=knd) (s:={s with heap:=h'}) (k:=kk) e3 (hD.extBut sb.extBut yx) (λh2 D2 IM=>?_)<|by omega);refine BP ⟨plainId_quiet F.aG _,?_⟩;have IP:∀ b o,b≠I->b≠d->s.heap.get? b=some o->h2.get? b=some o:=λb o h1 h3 e=>(IM.2 b h3).trans<|(sb.2 b h1).trans e;refine ih (i+1) {s with heap:=h2,toks:=s.toks+1} (stored acc kk v) (by omega) bn (λb o e=>IP b o (nb b o e).1 (nb b o e).2<|eZ _ _ e) (dc.extBut IM.extBut<|CG yx) D2 (by have:=Tv acc kk v;omega) λh3 tk k3 D3=>?_;refine hR h3 tk (λb o h1 mD e=>k3 b o h1 mD<|IP b o h1 mD e) ?_;have e7:eY.drop i=(kk,v) :: eY.drop (i+1):=by
   obtain⟨hj,e8⟩:=Ac.mp e2;rw [KN hj,e8]
  rw [e7];exact D3
theorem Tx{E:Value->Shared->Prop}{s:Shared}{Q:Value->Shared->Prop}{l:Addr}{ol:Obj}{nl:Nat}{items:List Value}{eY:List (K×Value)}(ho:s.heap.get? l=some ol)(hc:ol.cls = .type "list")(mP:ol.dict=none)(yy:ol.data = .seq items.toArray nl)(hp:yw knd s.heap items eY)(hn:items.length < sizeLine)(hh:A.handled=none)
  (h:∀ h' tk,(∀ b o,s.heap.get? b=some o->h'.get? b=some o)->h'.DictOf knd s.heap.objs.size (eY.foldl (λa p=>stored a p.1 p.2) [])->Q (.ref s.heap.objs.size) {s with heap:=h',toks:=tk}) :
  wpAny (model prog w) A (call (.type "dict") [.ref l]) Q E s:=by
 refine callType_codes (Q₁:=λobj s₁=>obj = .ref s.heap.objs.size/\s₁={s with heap:=s.heap.push {cls:= .type "dict",data:= .dict #[]}}) F.kt_called_dict (F.kt_typeCall_dict_1 _) F.entry_dict_init (kt_code_dict_new _ ⟨rfl,rfl⟩) ?_;rintro obj s₁ ⟨rfl,rfl⟩;have fJ:(s.heap.push {cls:= .type "dict",data:= .dict #[]}).DictOf knd s.heap.objs.size []:=Heap.DictOf.new s.heap;have dA:(s.heap.push {cls:= .type "dict",data:= .dict #[]}).get? l=some ol:=Ak _ ho;refine⟨fJ.typeIs,F.args_dict_init_2 _ _,?_⟩;unfold Builtin.«dict.__init__»;refine BK ?_;unfold Builtin.Dict.selfAndRest;refine BK<|wpAny_notOrdered_dict fJ.typeIs ?_;show wpAny _ _ (pure (s.heap.objs.size,[Value.ref l])) _ _ _;refine BP ?_;show wpAny _ _ (Builtin.Dict.updateFrom "dict.__init__" s.heap.objs.size (.ref l) [] .none) _ _ _;unfold Builtin.Dict.updateFrom;refine BK<|wpAny_typeOf (T:= "list") ⟨ol,dA,hc⟩ ?_;rw [BL<|by decide];refine BK (getAttr?_miss_list dA hc yy mP F.d3 (by decide) (by exact hh) λh' tk e ne=>?_);rw [BL (show(none:Option Value).isNone=true from rfl)];have kp:∀ b o,s.heap.get? b=some o->h'.get? b=some o:=λb o e=>ne.keeps b o<|Ak _ e;refine BK<|FZ ?_;have hL:h'.IsList l items.toArray:=⟨ol,kp _ _ ho,hc,nl,yy⟩;refine BK<|wpAny_pyIter_list hL ?_;refine BP ⟨plainId_quiet F.aG _,?_⟩;have IQ:h'.DictOf knd s.heap.objs.size []:=let ⟨o,es,ep,ho,r⟩:=fJ;⟨o,es,ep,ne.keeps _ _ ho,r⟩
 have bn:s.heap.objs.size < h'.objs.size:=let ⟨o,es,ep,ho,r⟩:=IQ;Ax ho
 refine Tw (hB:=s.heap) (d:=s.heap.objs.size) (I:=h'.objs.size) (l:=l) (Al _) (Cl bn) (Bz bn) ⟨ol,ho,hc,nl,yy⟩ hp hn (by exact hh) _ 0 _ [] rfl (Bo _) (λb o e=>Ak _<|kp b o e) ⟨_,Bb _ rfl,rfl,rfl⟩ (IQ.push _) (Bo _) λh2 Tz k2 D2=>?_;refine⟨rfl,h h2 Tz (λb o e=>k2 b o (Bz<|Ax<|kp b o e) (Bz<|Ax e)<|Ak _<|kp b o e) D2⟩
end
end PySem
namespace L2
open PySem PySem.Spec PyProof.Rows
section
variable{X:Cx}{pins:List (Addr×Obj)}{σ:St}{H:Hp}{s:Shared}
theorem TB{kvs:List (Key×V)}:∀{ps:List (Key×V)} {acc:List (Key×Value)} {rs:List (Key×Value)},KV ps acc->KV kvs rs->KV (kvs.foldl (λa p=>putK a p.1 p.2) ps) (rs.foldl (λa p=>stored a p.1 p.2) acc):=by
 induction kvs with
 | nil=>intro ps acc rs h g;cases g;exact h
 | cons p r ih=>
  intro ps acc rs h g;cases g with
  | @cons _ q _ r' hq hr=>
   obtain⟨e1,e2⟩:=hq;rw [Eb,Eb];refine ih ?_ hr;rw [<- e1];exact h.put p.1 e2
theorem IT{P:Program}{w:World}{h:Heap}:∀{kvs:List (Key×V)} {ts:List Addr},ts.length=kvs.length->(∀(j:Nat) t kv,ts[j]?=some t->kvs[j]?=some kv->∃ key v o m,(cQ P w).is kv.1 key=true/\RelV kv.2 v/\h.get? t=some o/\o.cls = .type "tuple"/\o.data = .seq #[key,v] m) ->
  ∃ rs:List<|Key×Value,KV kvs rs/\∀(j:Nat) t,ts[j]?=some t->∃ key k v o m,rs[j]?=some (k,v)/\(cQ P w).is k key=true/\h.get? t=some o/\o.cls = .type "tuple"/\o.data = .seq #[key,v] m
 | [],ts,hl,_=>by
  have:ts=[]:=Bh.mp hl;subst this;exact⟨[],.nil,λj t h=>by simp at h⟩
 | kv :: r,[],hl,_=>by simp at hl
 | kv :: r,t :: ts,hl,hp=>by
  obtain⟨key,v,o,m,q1,q2,q3,q4,q5⟩:=hp 0 t kv rfl rfl;obtain⟨rs,hk,hr⟩:=IT (kvs:=r) (ts:=ts) (by simpa using hl) λj t kv h1 h2=>hp (j+1) t kv (by simpa using h1) (by simpa using h2);refine⟨(kv.1,v) :: rs,.cons ⟨rfl,q2⟩ hk,λj t' ht=>?_⟩;cases j with
  | zero=>
   cases ht;exact⟨key,kv.1,v,o,m,rfl,q1,q3,q4,q5⟩
  | succ j=>
   obtain⟨key,k,v,o,m,e,z⟩:=hr j t' (by simpa using ht);exact⟨key,k,v,o,m,by simpa using e,z⟩
theorem IU(hc:X.calm=true):gJ X (.type "dict") (λxs H Q=>∃(a:Addr) (ts:List Addr) (kvs:List<|Key×V),xs=[.ref a]/\H a=some (.lst<|ts.map V.ref)/\ts.length=kvs.length/\ts.length < sizeLine/\(∀(j:Nat) t kv,ts[j]?=some t->kvs[j]?=some kv->H t=some (.tup [kV kv.1,kv.2])) /\
  ∀ d,H d=none->Q (.ref d) (upd H d<|.dK<|kvs.foldl (λa p=>putK a p.1 p.2) [])):=by
 intro pins s σ H xs us Q I r h;obtain⟨a,ts,kvs,rfl,hH,hl,hz,ht,q⟩:=h;obtain⟨u,rfl,ru⟩:=vals1 r;cases (show u=Value.ref a from ru);obtain⟨z,its,n,rv,e⟩:=(show ay X.prog X.w H s.heap a (.lst<|ts.map V.ref) from I.aE a _ hH);have yz:=rv.length;rw [Aa] at yz;have mR:∀(j:Nat) t,ts[j]?=some t->its[j]?=some (.ref t):=λj t hj=>by
  obtain⟨u,hu,ru⟩:=rv.get (i:=j) (x:= .ref t) (by rw [Ag,hj];rfl);cases (show u=Value.ref t from ru);exact hu
 have pair:∀(j:Nat) t kv,ts[j]?=some t->kvs[j]?=some kv->∃ key v o m,(cQ X.prog X.w).is kv.1 key=true/\RelV kv.2 v/\s.heap.get? t=some o/\o.cls = .type "tuple"/\o.data = .seq #[key,v] m:=λj t kv h1 h2=>by
  obtain⟨z2,dg,fv,o,eo,co,m,dm⟩:=(show ay X.prog X.w H s.heap t (.tup [kV kv.1,kv.2]) from I.aE t _<|ht j t kv h1 h2);obtain⟨key,v,e3,r1,r2⟩:=fv.two;refine⟨key,v,o,m,ko r1,r2,eo,co,?_⟩;rw [dm,e3]
 obtain⟨rs,hk,hr⟩:=IT hl pair;have qW:=hk.length;have hP:yw (cQ X.prog X.w) s.heap its rs:=by
  refine⟨by omega,λj it hj=>?_⟩;have mS:j < ts.length:=by have:=(Ac.mp hj).1;omega
  have IY:ts[j]?=some ts[j]:=Ab mS;have e2:=mR j _ IY;rw [hj] at e2;obtain⟨key,k,v,o,m,q1,q2,q3,q4,q5⟩:=hr j _ IY;exact⟨ts[j],key,k,v,o,m,Option.some.inj e2,q1,q2,q3,q4,q5⟩
 refine Tx (knd:=cQ X.prog X.w) e rfl rfl rfl hP (by omega) (I.ok.hd hc) λh' tk kp D=>?_;have hlen:∀(l:List<|Key×V) (a:List<|Key×V),(l.foldl (λa p=>putK a p.1 p.2) a).length<=a.length+l.length:=by
  intro l
  induction l with
  | nil=>intro a;exact Al _
  | cons p r ih=>
   intro a;rw [Eb,An];have h1:=ih<|putK a p.1 p.2;have h2:=fq a p.1 p.2;omega
 have hb:=I.big;refine⟨.ref s.heap.objs.size,_,I.laid (t':=tk) kp (Al _) (show ay X.prog X.w _ h' _ (.dK<|kvs.foldl (λa p=>putK a p.1 p.2) []) from⟨?_,?_,_,TB (kvs:=kvs) (ps:=[]) (acc:=[]) .nil hk,D⟩),rfl,q _<|I.aE.fresh<|Al _⟩
 ·have:=hlen kvs [];rw [Gb] at this;omega
 ·exact beq_eq_false_iff_ne.mpr<|Ds hb
end
section
variable{X:Cx}{pins:List (Addr×Obj)}{σ:St}{H:Hp}{s:Shared}{h':Heap}
theorem Inv.bB{t':Nat}{ch:List Addr}(I:Inv X pins σ H s)(hf:∀ b∈ch,bT X pins H b)(k:∀ b o,b∉ch->s.heap.get? b=some o->h'.get? b=some o):Inv X pins σ H {s with heap:=h',toks:=t'}:=by
 have p8:∀ b u,H b=some u->b∉ch:=λb u e z=>by rw [(hf b z).1] at e;cases e
 refine I.step (g':=s.gens) (d':=s.drawn) (ch:=ch) (λb hb=>?_) (λb o _ _ hc e _=>k b o hc e) (λb o _ _ hc e _=>⟨o.slots,k b o hc e⟩) (λ_ _ _ _ n=>n)
  (λb o hc e=>⟨o,k b o hc e⟩) (λ_ _ e=>e) (λ_ _ _ e=>e) (λb ps e=>⟨#[],by rw [e];simp⟩) (λm hm=>?_) (λb u e=>?_) I.bare
 ·obtain⟨f0,f1,f2,f3,f4,f5⟩:=hf b hb;exact⟨f3,f1,f4,f5⟩
 ·obtain⟨o,es,ep,ho,r⟩:=hm;exact⟨o,es,ep,k _ o (λz=>(hf _ z).2.1 rfl) ho,r⟩
 ·refine(I.aE b u e).gF (λc v hc q=>k c v ?_ q) (λ_ q=>q) λ_ _ q=>q
  rcases hc with z | z
  ·rw [z];exact p8 b u e
  ·exact p8 c _ z
def uF(K:PySem.W.Frag)(a b:Addr):It:=
  ⟨λi H => ∃ xs ys x y, au K H a xs ∧ au K H b ys ∧ xs[i]? = some x ∧ ys[i]? = some y,
   λi H v H'=>∃ T x y,H T=none/\v = .ref T/\H'=upd H T (.tup [x,y])/\(∀ xs,au K H a xs->xs[i]?=some x)/\∀ ys,au K H b ys->ys[i]?=some y,
   λi H=>∃ xs ys,au K H a xs/\au K H b ys/\(xs.length<=i\/ys.length<=i)⟩
def IZ(m a b:Addr)(i:Nat)(h:Heap):Prop:=
 IsZip h (m+4) (m+2) (m+3) .none/\IsPair h (m+2) (.ref m) (.ref<|m+1)/\(∃ x y,IsPair h (m+3) x y)/\h.IsListIter m a i/\h.IsListIter (m+1) b i
theorem I0{h:Heap}{m a b:Addr}{i:Nat}{xs ys:Array Value}(z:IZ m a b i h)(ha:h.IsList a xs)(hb:h.IsList b ys):ZipApart (m+4) (m+2) (m+3) m (m+1) a b:=by
  obtain⟨z1,z2,⟨x,y,z3⟩,⟨o4,e4,c4,_⟩,⟨o5,e5,c5,_⟩⟩:=z;have cls:∀{l:Addr} {vs:Array Value} {c:Addr} {o:Obj},h.IsList l vs->h.get? c=some o->o.cls ≠ .type "list"->l≠c:=λhl hc hn e=>by
    obtain⟨ol,Ja,mO,_⟩:=hl;rw [e,hc] at Ja;cases Ja;exact hn mO
  exact { TIz := by simp, TOz := by simp, i1z := by simp, i2z := by simp, TITO := by simp, TIi1 := by simp, TIi2 := by simp, TOi1 := by simp, TOi2 := by simp, i12 := by simp
          l1z:=cls ha z1 (by show Value.type "zip"≠Value.type "list";decide),l1TO:=cls ha z3 (by show Value.type "tuple"≠Value.type "list";decide),l1i1:=cls ha e4 (by rw [c4];decide),l1i2:=cls ha e5<|by rw [c5];decide
          l2z:=cls hb z1 (by show Value.type "zip"≠Value.type "list";decide),l2TO:=cls hb z3 (by show Value.type "tuple"≠Value.type "list";decide),l2i1:=cls hb e4 (by rw [c4];decide),l2i2:=cls hb e5 (by rw [c5];decide)}
theorem TC{P:Program}{w:World}{K:PySem.W.Frag}{elts:List Expr}{k:Nat}{tp:Pos}(m a b:Addr):Turn P w K (.Tuple elts k tp) (uF K a b) [m,m+1,m+2,m+3,m+4] (m+4) (IZ m a b) where
 mem:=by simp
 obj:=λi h st c hc=>by
  obtain⟨z1,z2,⟨x,y,z3⟩,⟨o4,e4,c4,d4⟩,⟨o5,e5,c5,d5⟩⟩:=st;simp only [Ai,Bk,DQ] at hc
  rcases hc with rfl | rfl | rfl | rfl | rfl
  ·exact⟨_,e4,λv z=>by rw [d4] at z;cases z⟩
  ·exact⟨_,e5,λv z=>by rw [d5] at z;cases z⟩
  ·exact⟨_,z2,λv z=>by cases z⟩
  ·exact⟨_,z3,λv z=>by cases z⟩
  ·exact⟨_,z1,λv z=>by cases z⟩
 keep:=λi h h' st kp=>by
  obtain⟨z1,z2,⟨x,y,z3⟩,⟨o4,e4,r4⟩,⟨o5,e5,r5⟩⟩:=st;exact⟨kp _ (by simp) _ z1,kp _ (by simp) _ z2,⟨x,y,kp _ (by simp) _ z3⟩,⟨o4,kp _ (by simp) _ e4,r4⟩,⟨o5,kp _ (by simp) _ e5,r5⟩⟩
 item:=by
  intro X hP hw hK hc i pins s σ H E I hf st hg;subst hP hw hK;obtain⟨xs,ys,x,y,dE,uG,hx,hy⟩:=hg;obtain⟨iG,jM,p1,jN⟩:=I.list dE;obtain⟨dg,fv,p2,oW⟩:=I.list uG;obtain⟨u1,kG,yA⟩:=jM.get hx;obtain⟨u2,qX,TD⟩:=fv.get hy;have D:=I0 st p1.isList p2.isList;obtain⟨z1,z2,⟨x0,y0,z3⟩,z4,z5⟩:=id st;refine wpAny_pyNext_zip_item D z1 z2 z3 z4 z5 p1.isList p2.isList (x:=u1) (y:=u2) (by simpa using kG) (by simpa using qX) λh' a1 a2 a3 a4 a5 a6 kp=>?_;have hT:H s.heap.objs.size=none:=I.aE.fresh<|Al _;have nT:∀ c∈[m,m+1,m+2,m+3,m+4],c≠s.heap.objs.size:=λc a7=>by
   have:∃ o,s.heap.get? c=some o:=by
    obtain⟨o4,e4,_⟩:=z4;obtain⟨o5,e5,_⟩:=z5;simp only [Ai,Bk,DQ] at a7
    rcases a7 with rfl | rfl | rfl | rfl | rfl
    ·exact⟨_,e4⟩
    ·exact⟨_,e5⟩
    ·exact⟨_,z2⟩
    ·exact⟨_,z3⟩
    ·exact⟨_,z1⟩
   obtain⟨o,e⟩:=this;exact Bz<|Ax e
  have I1:Inv X pins σ (upd H s.heap.objs.size<|.tup [x,y]) {s with heap:=s.heap.push {cls:= .type "tuple",data:= .seq #[u1,u2]}}:=
   I.laid (t':=s.toks) (λb o e=>Ak _ e) (Al _) (show ay X.prog X.w _ _ _ (.tup [x,y]) from⟨Z2,[u1,u2],.cons yA<|.cons TD .nil,⟨_,Bb _ rfl,rfl,_,rfl⟩⟩)
  have f1:∀ c∈[m,m+1,m+2,m+3,m+4],bT X pins (upd H s.heap.objs.size<|.tup [x,y]) c:=λc a7=>⟨by rw [aw<|nT c a7];exact(hf c a7).1,(hf c a7).2⟩;have yB:∀ c o,c∉[m,m+1,m+2,m+3,m+4]->(s.heap.push {cls:= .type "tuple",data:= .seq #[u1,u2]}).get? c=some o->h'.get? c=some o:=λc o a7 e=>by
   rcases Fy e with ⟨ec,eo⟩ | e'
   ·rw [ec,eo];exact a5
   ·simp only [Ai,Bk,DQ,not_or] at a7;exact kp c o a7.2.2.2.2 a7.2.2.2.1 a7.1 a7.2.1 e'
  have I2:=Inv.bB (h':=h') (t':=s.toks) I1 f1 yB;refine⟨_,rfl,wpAny_letOwnedTupleGo_zip (s:={s with heap:=h'}) a1 λh2 b1 sb=>?_⟩;have TF:IsPair h' (m+2) (.ref m) (.ref<|m+1):=kp _ _ (by simp) (by simp) (by simp) (by simp) z2;have uH:∀ c o,c∉[m+4]->h'.get? c=some o->h2.get? c=some o:=λc o a7 e=>(sb.2 c<|by simpa using a7).trans e;have I3:=Inv.bB (h':=h2) (t':=s.toks) I2 (ch:=[m+4]) (λc a7=>f1 c<|by simp at a7;simp [a7]) uH;refine⟨.ref s.heap.objs.size,_,I3,rfl,⟨_,x,y,hT,rfl,rfl,λzs hz=>by rw [I.cz hz dE];exact hx,λzs hz=>by rw [I.cz hz uG];exact hy⟩,?_,λc a7=>(f1 c a7).1⟩;have sx:∀ c o,c≠m+4->h'.get? c=some o->h2.get? c=some o:=λc o a7 e=>(sb.2 c a7).trans e;obtain⟨o3,e3,r3⟩:=a3;obtain⟨o4,e4,r4⟩:=a4;exact⟨b1,sx _ _ (by simp) TF,⟨u1,u2,sx _ _ (by simp) a2⟩,⟨o3,sx _ _ (by simp) e3,r3⟩,⟨o4,sx _ _ (by simp) e4,r4⟩⟩
 done:=by
  intro X hP hw hK hc i pins s σ H E I hf st hg;subst hP hw hK;obtain⟨xs,ys,dE,uG,qY⟩:=hg;obtain⟨iG,jM,p1,jN⟩:=I.list dE;obtain⟨dg,fv,p2,oW⟩:=I.list uG;have l1:=jM.length;have l2:=fv.length;have D:=I0 st p1.isList p2.isList;obtain⟨z1,z2,⟨x0,y0,z3⟩,z4,z5⟩:=id st;refine wpAny_pyNext_zip_end (I.ok.hd hc) D z1 z2 z3 z4 z5 p1.isList p2.isList ?_ λh' kp=>⟨rfl,I.bB (t':=s.toks) (ch:=[m,m+1,m+2,m+3,m+4]) hf λc o a7 e=>?_⟩
  ·rcases qY with h | h
   ·exact .inl<|by simp;omega
   ·exact .inr<|by simp;omega
  ·simp only [Ai,Bk,DQ,not_or] at a7;exact kp c o a7.2.2.2.2 a7.2.2.2.1 a7.1 a7.2.1 e
 self:=λ_ _ _ _ _ st h=>wpAny_pyIter_zip st.1 h
end
section
variable{X:Cx}
def yC(K:PySem.W.Frag)(ta:TA):TI:=λσ H R=>ta σ H λvs H1=>∃ a b,vs=[.ref a,.ref b]/\(∃ xs,au K H1 a xs)/\(∃ ys,au K H1 b ys)/\R (uF K a b) H1
theorem Jb{elts:List Expr}{k:Nat}{tp:Pos}{a b:Expr}{ta:TA}{p pos:Pos}(hg:Gl X "zip")(hm:X.mg "zip" = none)(ha:PA X [a,b] ta)(hs:starEach [a,b] X.env=[(false,eval a X.env),(false,eval b X.env)]:=by rfl)(jx:starEach [b] X.env=[(false,eval b X.env)]:=by rfl) :
  PI X (.Tuple elts k tp) (.Call (.Name "zip" p) [a,b] [] pos) (yC X.K ta):=by
 intro pins s σ H R I h;refine Call_ (jv I hg hm boot_zip<|DW (aH (ha pos pins s σ H _ I h) λus s1 ⟨vs,H1,I1,r1,q1⟩=>?_) (by rw [hs,jx])<|by rw [jx];rfl);obtain⟨x,y,e,⟨xs,hx⟩,⟨ys,hy⟩,q⟩:=q1;subst e;obtain⟨u,v,rfl,ru,rv⟩:=r1.two;cases (show u=Value.ref x from ru);cases (show v=Value.ref y from rv);obtain⟨iG,jM,p1,jN⟩:=I1.list hx;obtain⟨dg,fv,p2,oW⟩:=I1.list hy;refine call_zip_2 p1.isList p2.isList λh' a1 a2 a3 a4 a5 a6 kp=>?_;refine wpAny_pyIter_zip (s:={s1 with heap:=h'}) a1 ?_;refine⟨s1.heap.objs.size+4,[s1.heap.objs.size,s1.heap.objs.size+1,s1.heap.objs.size+2,s1.heap.objs.size+3,s1.heap.objs.size+4],_,_,H1,rfl,I1.kept (t':=s1.toks) kp,TC s1.heap.objs.size x y,⟨a1,a2,⟨_,_,a3⟩,a4,a5⟩,λb hb=>?_,q⟩;have hle:s1.heap.objs.size<=b:=by
  simp only [Ai,Bk,DQ] at hb
  rcases hb with rfl | rfl | rfl | rfl | rfl <;> omega
 exact I1.eQ hle<|I1.aE.fresh hle
end
def oX(elt t1 i1:Expr)(f1:List Expr)(t2 i2:Expr)(f2:List Expr)(scope:Scope)(pos:Pos)(acc:Value)(env:Env):Sem Unit:=do
 let x <- eval i2 env
 standAt i2.pos
 let x <- foldedSetIterable i2 env x
 let _ <- runOwn (.compStart (.ListComp elt [⟨t1,i1,f1,0⟩,⟨t2,i2,f2,0⟩] scope pos) 1 (<- holding [x]<|pyIter x) acc env) env
section
variable{X:Cx}{elt t1 i1 t2 i2:Expr}{f1 f2:List Expr}{scope:Scope}{pos:Pos}{σ:St}{H:Hp}{acc:Value}{env:Env}
theorem TH:Clause (.ListComp elt [⟨t1,i1,f1,0⟩,⟨t2,i2,f2,0⟩] scope pos) 0 t1 i1 f1 acc env (oX elt t1 i1 f1 t2 i2 f2 scope pos acc env):=⟨rfl,λ_=>rfl,λ_ _ _=>rfl,λ_ _=>rfl,λ_ _ _=>rfl,λ_ _=>rfl,λit=>by
 unfold oX;simp only [bind_assoc,pure_bind];rfl⟩
theorem TJ:Clause (.ListComp elt [⟨t1,i1,f1,0⟩,⟨t2,i2,f2,0⟩] scope pos) 1 t2 i2 f2 acc env (emit elt acc env):=⟨rfl,λ_=>rfl,λ_ _ _=>rfl,λ_ _=>rfl,λ_ _ _=>rfl,λ_ _=>rfl,λ_=>rfl⟩
theorem TK{wi:TI}{Q:St->Hp->Prop}(iy:X.xe=λ_ _=>False)(hc:X.calm=true)(hi:PI X t2 i2 wi)(h:wi σ H λJ H1=>ft X t2 f2 (emit elt acc X.env) J Q σ H1)
  (hs:∀ x,foldedSetIterable i2 X.env x=pure x:=by intro _;rfl):jb X (oX elt t1 i1 f1 t2 i2 f2 scope pos acc X.env) σ H Q:=by
 refine⟨λpins s I=>?_⟩;unfold oX;refine BK<|aH (hi pins s σ H _ I h) λx s1 h1=>?_;refine BK<|FQ<|BK<|JT (hs x)<|BK<|CQ<|CK h1 (λlP s2 h2=>?_) λ_ _ e=>e;obtain⟨it,fp,tn,J,H2,e,I2,T,fm,yD,q⟩:=h2;subst e;refine BK<|wpAny_runOwn (Q:=λ_ s'=>wpAny (model X.prog X.w) X.A (pure ()) (λ_ s'=>∃ σ' H',Inv X pins σ' H' s'/\Q σ' H') X.xe s') ?_;exact x8 iy hc TJ I2 T fm yD q λσ' H' s' I' q'=>BP ⟨σ',H',I',q'⟩
theorem TL{wi:TI}{Q:VK}(sc:Scope)(N N':List Str)(n:Nat)(hi:PI X t1 i1 wi)
  (h:wi σ H λJ H1=>∀ D,H1 D=none->∀ cl C s₀ H₀ ex,ft (eV X N' scope cl C s₀ H₀ ex) t1 f1 (oX elt t1 i1 f1 t2 i2 f2 scope pos (.ref D)<|compEnvC scope cl C X.env) J (λ_ H'=>Q (.ref D) H') (σ++List.replicate n none)<|upd H1 D<|.lst [])
  (hc:X.calm=true:=by rfl) (gP:X.env.scope=sc:=by rfl) (hN:X.N=N:=by rfl) (hk:jH sc scope N N'=true:=by decide +kernel) (hl:N'.length=N.length+n:=by rfl)
  (hs:∀ x,foldedSetIterable i1 X.env x=pure x:=by intro _;rfl):Ev X (.ListComp elt [⟨t1,i1,f1,0⟩,⟨t2,i2,f2,0⟩] scope pos) σ H Q:=
 uD (e:= .ListComp elt [⟨t1,i1,f1,0⟩,⟨t2,i2,f2,0⟩] scope pos) (newAcc:=newList []) (o0:={cls:= .type "list",dict:=none,data:= .seq ([]:List Value).toArray}) (u0:=λ_=> .lst []) (λ_ _ _ h=>DN h<|by show(0:Nat)<=sizeLine;exact Bo _) (λ_ _ _=>⟨Bo _,[],0,.nil,Bb _ rfl⟩) (inner:=oX elt t1 i1 f1 t2 i2 f2 scope pos) (λ_ _=>TH) rfl rfl sc N N' n hi h hc gP hN hk hl hs
end
section
variable{X:Cx}{pins:List (Addr×Obj)}{σ:St}{H:Hp}{s:Shared}{a:Addr}{y v:V}{u r:Value}{A:Around}{E:Value->Shared->Prop}
theorem TQ{H':Hp}{Q:Unit->Shared->Prop}(hu:A.units+1 < cLine)(I:Inv X pins σ H s)(g:bQ H a y v H')(ry:RelV y u)(rv:RelV v r)(h:∀ s',Inv X pins σ H' s'->Q () s') :
  wpAny (model X.prog X.w) A (dictSet a u r) Q E s:=by
 rcases g with ⟨kvs,k,e,ey,l,eH⟩ | ⟨kvs,k,b,e,ey,eb,l,eH⟩
 ·subst ey eH;obtain⟨z,hd,vs,rel,dd⟩:=qI I.aE e;have hz:vs.length<=sizeLine:=by rw [<- rel.length];exact z
  have hl:(putK kvs k v).length<=sizeLine:=by have:=fq kvs k v;omega
  refine wpAny_dictSet_pairs (hsz:=hz) (ko ry) dd λh' g9 hs=>h _ ?_;have he:∃ q,h'.get? a=some q:=let ⟨q,_,_,hq,_⟩:=g9;⟨q,hq⟩
  exact kq I (by rw [e];exact True.intro) hs he<|xC hl hd (rel.put k rv) g9
 ·subst ey eH;cases (show u=Value.ref b from ry);obtain⟨z,hd,xs,rel,dd⟩:=Hg I.aE e;have hz:xs.length<=sizeLine:=by rw [<- Paired.length rel];exact z
  have hl:(putK kvs k v).length<=sizeLine:=by have:=fq kvs k v;omega
  have room:(tupleKind<|cQ X.prog X.w).room A:=by first | exact hu | exact Nat.lt_of_succ_lt hu | exact Nat.lt_of_le_of_lt (Fx _) hu
  refine wpAny_dictSet_heap (hsz:=hz) room (oH I.aE eb) dd λh' g9 hs=>h _ ?_;obtain⟨q,es,ep,hq,h2,h3,h4,_,h5⟩:=g9;refine kq I (by rw [e];exact True.intro) hs ⟨q,hq⟩ ⟨hl,hd,_,(rel.put k eb rv).keeps λc ys ec=>?_,q,es,ep,hq,h2,h3,h4,h5⟩;rw [aw<|bW ec e λz=>nomatch z];exact ec
end
def iH(k v:Expr)(acc:Value)(env:Env):Sem Unit:=do
 let kv <- eval k env
 let vv <- holding [kv]<|eval v env
 match acc with
 | .ref d=>do
  standAt {k.pos with endLine:=v.pos.endLine,endCol:=v.pos.endCol}
  holding [kv,vv] (dictSet d kv vv)
 | _=>unsupported "internal:dictcomp"
def oY(k v t1 i1:Expr)(f1:List Expr)(t2 i2:Expr)(f2:List Expr)(scope:Scope)(pos:Pos)(acc:Value)(env:Env):Sem Unit:=do
 let x <- eval i2 env
 standAt i2.pos
 let x <- foldedSetIterable i2 env x
 let _ <- runOwn (.compStart (.DictComp k v [⟨t1,i1,f1,0⟩,⟨t2,i2,f2,0⟩] scope pos) 1 (<- holding [x]<|pyIter x) acc env) env
section
variable{X:Cx}{k v t1 i1 t2 i2:Expr}{f1 f2:List Expr}{scope:Scope}{pos:Pos}{σ:St}{H:Hp}{acc:Value}{env:Env}
theorem Jc:Clause (.DictComp k v [⟨t1,i1,f1,0⟩] scope pos) 0 t1 i1 f1 acc env (iH k v acc env):=⟨rfl,λ_=>rfl,λ_ _ _=>rfl,λ_ _=>rfl,λ_ _ _=>rfl,λ_ _=>rfl,λit=>by
 unfold iH;cases acc <;> first | rfl | (simp only [bind_assoc,pure_bind];rfl)⟩
theorem TR:Clause (.DictComp k v [⟨t1,i1,f1,0⟩,⟨t2,i2,f2,0⟩] scope pos) 0 t1 i1 f1 acc env (oY k v t1 i1 f1 t2 i2 f2 scope pos acc env):=⟨rfl,λ_=>rfl,λ_ _ _=>rfl,λ_ _=>rfl,λ_ _ _=>rfl,λ_ _=>rfl,λit=>by
 unfold oY;simp only [bind_assoc,pure_bind];rfl⟩
theorem TU:Clause (.DictComp k v [⟨t1,i1,f1,0⟩,⟨t2,i2,f2,0⟩] scope pos) 1 t2 i2 f2 acc env (iH k v acc env):=⟨rfl,λ_=>rfl,λ_ _ _=>rfl,λ_ _=>rfl,λ_ _ _=>rfl,λ_ _=>rfl,λit=>by
 unfold iH;cases acc <;> first | rfl | (simp only [bind_assoc,pure_bind];rfl)⟩
theorem uI{D:Addr}{Q:St->Hp->Prop}(hu:X.A.units+1 < cLine)(h:Ev X k σ H λy H1=>Ev X v σ H1 λx H2=>∃ H3,bQ H2 D y x H3/\Q σ H3):jb X (iH k v (.ref D) X.env) σ H Q:=by
 refine⟨λpins s I=>?_⟩;unfold iH;refine BK<|aH (h.run pins s I) λkv s1 ⟨y,H1,I1,r1,h1⟩=>?_;refine BK<|CQ<|aH (h1.run pins s1 I1) λvv s2 ⟨x,H2,I2,r2,H3,dp,q⟩=>?_;show wpAny _ _ (standAt _ >>= λ_=>holding [kv,vv]<|dictSet D kv vv) _ _ _;exact BK<|FQ<|CQ<|TQ hu I2 dp r1 r2 λs' I'=>⟨σ,H3,I',q⟩
theorem TV{wi:TI}{Q:St->Hp->Prop}(iy:X.xe=λ_ _=>False)(hc:X.calm=true)(hi:PI X t2 i2 wi)(h:wi σ H λJ H1=>ft X t2 f2 (iH k v acc X.env) J Q σ H1)
  (hs:∀ x,foldedSetIterable i2 X.env x=pure x:=by intro _;rfl):jb X (oY k v t1 i1 f1 t2 i2 f2 scope pos acc X.env) σ H Q:=by
 refine⟨λpins s I=>?_⟩;unfold oY;refine BK<|aH (hi pins s σ H _ I h) λx s1 h1=>?_;refine BK<|FQ<|BK<|JT (hs x)<|BK<|CQ<|CK h1 (λlP s2 h2=>?_) λ_ _ e=>e;obtain⟨it,fp,tn,J,H2,e,I2,T,fm,yD,q⟩:=h2;subst e;refine BK<|wpAny_runOwn (Q:=λ_ s'=>wpAny (model X.prog X.w) X.A (pure ()) (λ_ s'=>∃ σ' H',Inv X pins σ' H' s'/\Q σ' H') X.xe s') ?_;exact x8 iy hc TU I2 T fm yD q λσ' H' s' I' q'=>BP ⟨σ',H',I',q'⟩
theorem Jd{wi:TI}{Q:VK}(sc:Scope)(N N':List Str)(n:Nat)(hi:PI X t1 i1 wi)
  (h:wi σ H λJ H1=>∀ D,H1 D=none->∀ cl C s₀ H₀ ex,ft (eV X N' scope cl C s₀ H₀ ex) t1 f1 (iH k v (.ref D)<|compEnvC scope cl C X.env) J (λ_ H'=>Q (.ref D) H') (σ++List.replicate n none)<|upd H1 D<|.dT [])
  (hc:X.calm=true:=by rfl) (gP:X.env.scope=sc:=by rfl) (hN:X.N=N:=by rfl) (hk:jH sc scope N N'=true:=by decide +kernel) (hl:N'.length=N.length+n:=by rfl)
  (hs:∀ x,foldedSetIterable i1 X.env x=pure x:=by intro _;rfl):Ev X (.DictComp k v [⟨t1,i1,f1,0⟩] scope pos) σ H Q:=
 uD (e:= .DictComp k v [⟨t1,i1,f1,0⟩] scope pos) (newAcc:=newDict) (o0:={cls:= .type "dict",data:= .dict #[]}) (u0:=λ_=> .dT []) (λ_ _ _ h=>DN h) (λ_ h hb=>xE h hb) (inner:=iH k v) (λ_ _=>Jc) rfl rfl sc N N' n hi h hc gP hN hk hl hs
theorem TX{wi:TI}{Q:VK}(sc:Scope)(N N':List Str)(n:Nat)(hi:PI X t1 i1 wi)
  (h:wi σ H λJ H1=>∀ D,H1 D=none->∀ cl C s₀ H₀ ex,ft (eV X N' scope cl C s₀ H₀ ex) t1 f1 (iH k v (.ref D)<|compEnvC scope cl C X.env) J (λ_ H'=>Q (.ref D) H') (σ++List.replicate n none)<|upd H1 D<|.dK [])
  (hc:X.calm=true:=by rfl) (gP:X.env.scope=sc:=by rfl) (hN:X.N=N:=by rfl) (hk:jH sc scope N N'=true:=by decide +kernel) (hl:N'.length=N.length+n:=by rfl)
  (hs:∀ x,foldedSetIterable i1 X.env x=pure x:=by intro _;rfl):Ev X (.DictComp k v [⟨t1,i1,f1,0⟩] scope pos) σ H Q:=
 uD (e:= .DictComp k v [⟨t1,i1,f1,0⟩] scope pos) (newAcc:=newDict) (o0:={cls:= .type "dict",data:= .dict #[]}) (u0:=λ_=> .dK []) (λ_ _ _ h=>DN h) (λ_ h hb=>Hh h hb) (inner:=iH k v) (λ_ _=>Jc) rfl rfl sc N N' n hi h hc gP hN hk hl hs
theorem TY{wi:TI}{Q:VK}(sc:Scope)(N N':List Str)(n:Nat)(hi:PI X t1 i1 wi)
  (h:wi σ H λJ H1=>∀ D,H1 D=none->∀ cl C s₀ H₀ ex,ft (eV X N' scope cl C s₀ H₀ ex) t1 f1 (oY k v t1 i1 f1 t2 i2 f2 scope pos (.ref D)<|compEnvC scope cl C X.env) J (λ_ H'=>Q (.ref D) H') (σ++List.replicate n none)<|upd H1 D<|.dT [])
  (hc:X.calm=true:=by rfl) (gP:X.env.scope=sc:=by rfl) (hN:X.N=N:=by rfl) (hk:jH sc scope N N'=true:=by decide +kernel) (hl:N'.length=N.length+n:=by rfl)
  (hs:∀ x,foldedSetIterable i1 X.env x=pure x:=by intro _;rfl):Ev X (.DictComp k v [⟨t1,i1,f1,0⟩,⟨t2,i2,f2,0⟩] scope pos) σ H Q:=
 uD (e:= .DictComp k v [⟨t1,i1,f1,0⟩,⟨t2,i2,f2,0⟩] scope pos) (newAcc:=newDict) (o0:={cls:= .type "dict",data:= .dict #[]}) (u0:=λ_=> .dT []) (λ_ _ _ h=>DN h) (λ_ h hb=>xE h hb) (inner:=oY k v t1 i1 f1 t2 i2 f2 scope pos) (λ_ _=>TR) rfl rfl sc N N' n hi h hc gP hN hk hl hs
end
open cb
theorem T1{prog:Program}{w:World}{A:Around}{E:Value->Shared->Prop}{s:Shared}{a:Addr}{zs:List Str}{z:Str}{tk:Tok}{Q:Value->Shared->Prop}(S:bt prog w s.heap a zs)(hb:zs.length+1 < 1000)
  (h:∀ h',Heap.SameBut a s.heap h'->bt prog w h' a (added zs z)->Q .none {s with heap:=h',toks:=s.toks+1}) :
  wpAny (model prog w) A (call (.builtin "set.add") [.ref a,.str z tk]) Q E s:=by
 have hT:s.TypeIs (.ref a) "set":=let ⟨o,_,_,_,ho,hx,_⟩:=S;⟨o,ho,hx.1⟩
 refine FN F.slot_set_add hT F.entry_set_add ?_<|F.args_set_add_2 _ _;unfold Builtin.«set.add» Builtin.Frozenset.oneOther;simp only [List.isEmpty_nil,bind_assoc];unfold Builtin.Frozenset.addrOf setAdd;refine BK<|BP ?_
 try dsimp only
 refine BK<|BP ?_
 try dsimp only
 refine BK ?_;refine CQ ?_;refine BK ((PySem.strKind prog w).pyHash (k:=z) (v:= .str z tk) (by simp [PySem.strKind,Value.isStrOf]) ?_);refine Sq (s:={s with toks:=s.toks+1}) S hb λb h' sb S'=>?_;show wpAny _ _ (ret Value.none) _ _ _;exact BP ⟨_,rfl,h h' sb S'⟩
section
variable{X:Cx}{elt t1 i1 t2 i2:Expr}{f1 f2:List Expr}{scope:Scope}{pos:Pos}{σ:St}{H:Hp}{acc:Value}{env:Env}
end
end L2
namespace T2
open PySem PySem.Builtin PySem.Builtin.Str PySem.StrLaws
end T2
namespace L2
open PySem PySem.Builtin PySem.Builtin.Str
section
variable{X:Cx}{σ:St}{H:Hp}{Q:VK}
end
end L2
namespace PySem
def Plain(h:Heap)(d:Addr)(es:Array DictEntry)(ep:Nat):Prop:=∃ o,h.get? d=some o/\o.ExactDict/\o.data = .dict es ep
section
variable{P:Program}{w:World}{A:Around}{E:Value->Shared->Prop}{s:Shared}
theorem T4(d:Addr)(hd:(d == sysModules)=false):MeetsIn P w (Builtin.«dict.items» ⟨[.ref d],[]⟩) (λ_ R u=>u.TypeIs (.ref d) "dict" /\
  R (.ok<|.ret<|.ref u.heap.objs.size) {u with heap:=u.heap.push {cls:= .type "dict_items",data:= .fields #[.ref d]}}):=by
 refine .of_wp λB R u ⟨hT,k⟩=>?_;unfold Builtin.«dict.items» Builtin.Dict.noArgs;refine BK<|BK<|wpAny_notOrdered_dict hT ?_;show wpAny _ _ (pure d) _ _ u;refine BP ?_;show wpAny _ _ (Builtin.Dict.showsAll d >>= _) _ _ u;unfold Builtin.Dict.showsAll;rw [BJ<|by rw [hd];exact Ar];exact BK<|BP<|BK<|DN<|BP ⟨_,rfl,k⟩
theorem T5{v d:Addr}{es:Array DictEntry}{ep:Nat}{Q:Value->Shared->Prop}(hv:s.heap.IsItemsView v d)(hm:Plain s.heap d es ep)
  (k:Q (.ref s.heap.objs.size) {s with heap:=s.heap.push {cls:= .type "dict_itemiterator",data:= .fields #[.none,.bool false,.ref d,.int 0 0,.int es.size 0,.int ep 0,.none,.none]}}) :
  wpAny (model P w) A (pyIter<|.ref v) Q E s:=by
 obtain⟨vo,e1,e2,e3⟩:=id hv;obtain⟨o,f1,f2,f3⟩:=hm;refine wpAny_pyIter_slot hv.typeIs F.slot_dict_items_iter<|FN F.slot_dict_items_iter hv.typeIs F.entry_dict_items_iter ?_<|F.args_dict_items_iter_1 _;unfold Builtin.«dict_items.__iter__» Builtin.Dict_items.dictOf Builtin.Dict_items.newIterator;refine BK<|BP<|BK<|BK<|PK e1 e3 (x:= .ref d) rfl (BP ?_);refine BK<|BK<|KC f1 f3<|BK<|NZ f1 f3 ?_;have ow:Builtin.Dict_items.ownsTuple "dict_itemiterator" = true:=by decide
 simp only [ow,CT];refine DN (BP ⟨_,rfl,"dict_itemiterator",_,⟨_,Bb _ rfl,rfl⟩,F.slot_dict_itemiterator_next.lookup,?_⟩) ?_
 ·simpa [rawInt,Builtin.Dict_items.ownedTupleFields] using k
 ·simp only [sizeOk,Builtin.Dict_items.ownedTupleFields,As,Af,An,Gb,DG];omega
theorem Ua{it d:Addr}{i ep:Nat}{es:Array DictEntry}{en:DictEntry}{y z:Value}{Q:Option Value->Shared->Prop}(hit:IsItemIter s.heap it d i es.size ep y z)(hm:Plain s.heap d es ep)(hx:es[i]?=some en)
  (k : ∀ h', IsItemIterOut h' it d (i + 1) es.size ep en.key en.val s.heap.objs.size → h'.get? s.heap.objs.size = some { cls := .type "tuple", data := .seq #[en.key, en.val] } →
   (∀ b o,b≠it->s.heap.get? b=some o->h'.get? b=some o)->Q (some<|.ref s.heap.objs.size) {s with heap:=h'}):wpAny (model P w) A (pyNext<|.ref it) Q E s:=by
 obtain⟨hp,g,dr,tk,os⟩:=s;obtain⟨o,f1,f2,f3⟩:=hm;have ty:Shared.TypeIs ⟨hp,g,dr,tk,os⟩ (.ref it) "dict_itemiterator":=⟨_,hit,rfl⟩;have lt:i < es.size:=by
  rcases Ef i es.size with h | h
  ·exact h
  ·rw [PL h] at hx;cases hx
 have ow:Builtin.Dict_items.ownsTuple "dict_itemiterator" = true:=by decide
 unfold pyNext;refine BK<|wpAny_attempt<|wpAny_callSpecial?_slot (name:=Str.ofString "__next__") ty DY<|FN DY ty JM ?_<|JD _;refine BK<|BP<|BK<|BK ?_
 first | refine BK (DX ty<|BP ?_) | refine BK<|FW ty<|BP ?_
 refine BK<|wpAny_fieldsOf hit rfl ?_;simp only [ow,CT];show wpAny _ _ (if(Value.ref d == Value.none)=true then _ else _) _ _ _;rw [BJ (show ¬((Value.ref d == Value.none)=true) from Ar)];refine BK<|BP<|BK<|KC f1 f3 ?_;rw [BJ<|by simp];refine BK<|BP<|BK<|NZ f1 f3 ?_;rw [BJ<|by simp];refine BP ?_;have ee:es[i]=en:=Option.some.inj<|(Array.getElem?_eq_getElem lt).symm.trans hx;simp only [show ¬((i:Int) < 0) from by omega,CV,By,hx];refine BK ?_
 first | refine BK (DX ty<|BP ?_) | refine BK<|FW ty<|BP ?_
 refine BK<|IV ty ?_;show wpAny _ _ (setField (.ref it) 3 (rawInt<|(i:Int)+1) >>= _) _ _ ⟨hp,g,dr,tk,os⟩;refine BK (GJ hit (by simp) λha ea sa=>?_);replace sa:Heap.SameBut it hp ha:=sa;replace ea:IsItemIter ha it d (i+1) es.size ep y z:=by
  have e:((i+1:Nat):Int)=(i:Int)+1:=by omega
  unfold IsItemIter;rw [e]
  simpa [rawInt] using ea
 have Je:Shared.TypeIs ⟨ha,g,dr,tk,os⟩ (.ref it) "dict_itemiterator":=⟨_,ea,rfl⟩;refine BK<|CQ<|BK<|IV Je<|BK<|IV Je ?_;show wpAny _ _ (Builtin.Dict_items.pairFromOwner (.ref it) 6 en.key en.val) _ _ ⟨ha,g,dr,tk,os⟩;unfold Builtin.Dict_items.pairFromOwner Builtin.Dict_items.ownedTupleIsFree;refine BK<|wpAny_newTuple ?_;have eb:IsItemIter (ha.push {cls:= .type "tuple",data:= .seq #[en.key,en.val]}) it d (i+1) es.size ep y z:=Ak _ ea;have za:ha.objs.size=hp.objs.size:=sa.1;have il:it < hp.objs.size:=Ax hit;have tb:(ha.push {cls:= .type "tuple",data:= .seq #[en.key,en.val]}).get? hp.objs.size=some {cls:= .type "tuple",data:= .seq #[en.key,en.val]}:=by rw [<- za];exact Bb _ rfl
 have kb:∀ b u,b≠it->hp.get? b=some u->(ha.push {cls:= .type "tuple",data:= .seq #[en.key,en.val]}).get? b=some u:=λb u hb e=>Ak _<|sa.extBut b u hb e;rw [za];generalize ha.push {cls:= .type "tuple",data:= .seq #[en.key,en.val]}=hb at eb tb kb;refine BK<|BK<|PK (s:=⟨hb,g,dr,tk,os⟩) eb rfl (x:= .none) rfl (BP ?_);simp only [CT];refine BK<|PK (s:=⟨hb,g,dr,tk,os⟩) eb rfl (x:=y) rfl (BK<|PK (s:=⟨hb,g,dr,tk,os⟩) eb rfl (x:=z) rfl ?_);refine BK (GJ eb (by simp) λh3 e3 s3=>?_);replace s3:Heap.SameBut it hb h3:=s3;replace e3:IsItemIter h3 it d (i+1) es.size ep en.key z:=e3;refine BK (GJ e3 (by simp) λh4 e4 s4=>?_);replace s4:Heap.SameBut it h3 h4:=s4;replace e4:IsItemIter h4 it d (i+1) es.size ep en.key en.val:=e4;refine BK (GJ e4 (by simp) λh5 e5 s5=>?_);replace s5:Heap.SameBut it h4 h5:=s5;replace e5:IsItemIterOut h5 it d (i+1) es.size ep en.key en.val hp.objs.size:=e5;refine BK (GJ e5 (by simp) λh6 e6 s6=>?_);replace s6:Heap.SameBut it h5 h6:=s6;replace e6:IsItemIterOut h6 it d (i+1) es.size ep en.key en.val hp.objs.size:=e6;have all:=((s3.trans s4).trans s5).trans s6;exact BK<|wpAny_letGo<|BP<|BP ⟨_,rfl,BP<|k h6 e6 (all.extBut _ _ (Ds il) tb) λb u kH e=>all.extBut b u kH<|kb b u kH e⟩
theorem Ub{it d:Addr}{i ep:Nat}{es:Array DictEntry}{y z:Value}{Q:Option Value->Shared->Prop}(hh:A.handled=none)(hit:IsItemIter s.heap it d i es.size ep y z)(hm:Plain s.heap d es ep)(hx:es.size<=i)
  (k:∀ h',Heap.ExtBut it s.heap h'->Q none {s with heap:=h'}):wpAny (model P w) A (pyNext<|.ref it) Q E s:=by
 obtain⟨o,f1,f2,f3⟩:=hm;have ty:s.TypeIs (.ref it) "dict_itemiterator":=⟨_,hit,rfl⟩;have ow:Builtin.Dict_items.ownsTuple "dict_itemiterator" = true:=by decide
 unfold pyNext;refine BK<|wpAny_attempt<|wpAny_callSpecial?_slot (name:=Str.ofString "__next__") ty DY<|FN DY ty JM ?_<|JD _;refine BK<|BP<|BK<|BK ?_
 first | refine BK (DX ty<|BP ?_) | refine BK<|FW ty<|BP ?_
 refine BK<|wpAny_fieldsOf hit rfl ?_;simp only [ow,CT];show wpAny _ _ (if(Value.ref d == Value.none)=true then _ else _) _ _ s;rw [BJ (show ¬((Value.ref d == Value.none)=true) from Ar)];refine BK<|BP<|BK<|KC f1 f3 ?_;rw [BJ<|by simp];refine BK<|BP<|BK<|NZ f1 f3 ?_;rw [BJ<|by simp];refine BP ?_;simp only [show ¬((i:Int) < 0) from by omega,CV,By,PL hx];refine BK ?_
 first | refine BK (DX ty<|BP ?_) | refine BK<|FW ty<|BP ?_
 show wpAny _ _ (setField (.ref it) 2 .none >>= _) _ _ s;refine BK (wpAny_setField hit rfl (by simp) ?_);show wpAny _ _ (newExc (.type "StopIteration") [] >>= _) _ _ _;refine BK ?_;simp only [newExc,newTuple];refine BK (DN ?_<|by size_fits);refine BK (m:=firstArgMember _ _) (JT (a:=Value.none) (by first | rfl | (simp only [firstArgMember];rfl)) ?_);refine DN ?_ (by size_fits);simp only [raiseNew];refine BK<|wpAny_handled ?_;rw [show A.in1.handled=none from hh];refine BK<|BP<|wpAny_throw ?_;exact BK<|wpAny_isInstance (T:= "StopIteration") (b:=true) ⟨_,Bb _ rfl,rfl⟩ isSubtype_stop<|BP<|k _<|((JQ ..).extBut.push _).push _
theorem Uc:entryFor table "dict_itemiterator.__iter__" = some Builtin.«dict_keyiterator.__iter__»:=
 entryFor_alias (id':= "dict_keyiterator.__iter__") (by kernel_rfl) rfl (by decide +kernel) (by kernel_rfl)
theorem Ud{it d:Addr}{i n ep:Nat}{y z:Value}{Q:Value->Shared->Prop}(e:IsItemIter s.heap it d i n ep y z)(h:Q (.ref it) s):wpAny (model P w) A (pyIter<|.ref it) Q E s:=by
 have ty:s.TypeIs (.ref it) "dict_itemiterator":=⟨_,e,rfl⟩;refine wpAny_pyIter_slot ty JN<|FN JN ty Uc ?_<|F.args_dict_itemiterator_iter_1 _;show wpAny _ _ (ret<|.ref it) _ _ s;exact BP ⟨_,rfl,"dict_itemiterator",_,ty,F.slot_dict_itemiterator_next.lookup,h⟩
end
end PySem
namespace L2
open PySem PySem.Spec PyProof.Rows
section
variable{X:Cx}{pins:List (Addr×Obj)}{σ:St}{H:Hp}{s:Shared}
theorem Ue{d:Addr}{kvs:List (List Key×V)}(I:Inv X pins σ H s)(e:H d=some (.dT kvs)):∃ o,s.heap.get? d=some o/\Inv X pins σ (upd H d<|.bv o<|.dT kvs) s:=by
 obtain⟨z,hd,xs,r,o,es,ep,ho,h2,h3,h4,h5⟩:=(show ay X.prog X.w H s.heap d (.dT kvs) from I.aE d _ e);refine⟨o,ho,?_⟩;have r':KT (upd H d<|.bv o<|.dT kvs) kvs xs:=KT.keeps r λb ys q=>by
  rw [aw<|bW q e λz=>nomatch z];exact q
 exact kq (t':=s.toks) I (by rw [e];exact True.intro) ⟨rfl,λ_ _=>rfl⟩ ⟨o,ho⟩ (show ay X.prog X.w _ s.heap d (.bv o<|.dT kvs) from⟨ho,z,hd,xs,r',o,es,ep,ho,h2,h3,h4,h5⟩)
def Itm(d:Addr)(o:Obj)(kvs:List<|List Key×V):It:=
  ⟨λi H => H d = some (.bv o<|.dT kvs) ∧ i < kvs.length,
   λi H v H'=>∃ T b k x,kvs[i]?=some (k,x)/\H b=some (.tup<|k.map kV)/\H T=none/\v = .ref T/\H'=upd H T (.tup [.ref b,x]),
   λi H=>H d=some (.bv o<|.dT kvs)/\kvs.length<=i⟩
theorem Jf{P:Program}{w:World}{h:Heap}{d:Addr}{o:Obj}{es:Array DictEntry}{ep:Nat}{kvs:List (List Key×V)}(aE:b8 P w H h)(e:H d=some (.bv o<|.dT kvs))(hd:o.data = .dict es ep) :
  Plain h d es ep/\∃ xs,KT H kvs xs/\es.toList=xs.map (entryOfKey<|tupleKind<|cQ P w):=by
 obtain⟨ho,z,_,xs,r,o',dS,p7,dA,h2,h3,h4,h5⟩:=(show ay P w H h d (.bv o<|.dT kvs) from aE d _ e);have:o=o':=Option.some.inj<|ho.symm.trans dA;subst this;rw [hd] at h3
 injection h3 with e1 e2
 subst e1;subst e2;exact⟨⟨o,ho,h2,hd⟩,xs,r,h4⟩
theorem kt_len{H:Hp}:∀{kvs:List (List Key×V)} {xs:List (List Key×Addr×Value)},KT H kvs xs->kvs.length=xs.length:=λr=>by
 induction r with
 | nil=>rfl
 | cons _ _ ih=>simp only [An,ih]
theorem kt_at{H:Hp}:∀{kvs:List (List Key×V)} {xs:List (List Key×Addr×Value)},KT H kvs xs->∀{i:Nat} {k:List Key} {x:V},kvs[i]?=some (k,x)->∃ b u,xs[i]?=some (k,b,u)/\H b=some (.tup<|k.map kV)/\RelV x u:=λr=>by
 induction r with
 | nil=>intro i k x h;simp at h
 | @cons p q ps qs hq t ih=>
  intro i k x h;cases i with
  | zero=>
   simp only [List.getElem?_cons_zero,Option.some.injEq] at h;subst h;obtain⟨a,b,c⟩:=q;obtain⟨q1,q2,q3⟩:=hq;have q1:k=a:=q1;subst q1;exact⟨b,c,rfl,q2,q3⟩
  | succ i=>exact ih<|by simpa using h
theorem Ug{P:Program}{w:World}{K:PySem.W.Frag}{elts:List Expr}{kk:Nat}{tp:Pos}(d it:Addr)(o:Obj)(es:Array DictEntry)(ep:Nat)(kvs:List<|List Key×V)(mP:o.data = .dict es ep) :
  Turn P w K (.Tuple elts kk tp) (Itm d o kvs) [it] it (λi h=>∃ y z,IsItemIter h it d i es.size ep y z) where
 mem:=by simp
 obj:=λi h st b hb=>by
  have e:b=it:=by simpa using hb
  subst e;obtain⟨y,z,e⟩:=st;exact⟨_,e,λv z=>by cases z⟩
 keep:=λi h h' st k=>let ⟨y,z,e⟩:=st;⟨y,z,k it (by simp) _ e⟩
 item:=by
  intro X hP hw hK hc i pins s σ H E I hf st hg;subst hP hw hK;obtain⟨f0,f1,f2,f3,f4,f5⟩:=hf it (by simp);obtain⟨hd,hi⟩:=hg;obtain⟨pd,xs,r,yE⟩:=Jf I.aE hd mP;obtain⟨y,z,st⟩:=st;have hx:kvs[i]?=some (kvs[i].1,kvs[i].2):=Ab hi;obtain⟨b,u,dE,hb,ru⟩:=kt_at r hx;have Jg:=entry_at yE i;rw [dE] at Jg;refine Ua st pd (en:=entryOfKey (tupleKind<|cQ X.prog X.w) (kvs[i].1,b,u)) Jg λh' q1 q2 kp=>?_;have hT:H s.heap.objs.size=none:=I.aE.fresh<|Al _;have nT:it≠s.heap.objs.size:=Bz<|Ax st;have I1:Inv X pins σ (upd H s.heap.objs.size<|.tup [.ref b,kvs[i].2]) {s with heap:=s.heap.push {cls:= .type "tuple",data:= .seq #[Value.ref b,u]}}:=
   I.laid (t':=s.toks) (λb o e=>Ak _ e) (Al _) (show ay X.prog X.w _ _ _ (.tup [.ref b,kvs[i].2]) from⟨Z2,[Value.ref b,u],.cons rfl (.cons ru .nil),⟨_,Bb _ rfl,rfl,_,rfl⟩⟩)
  have fp:∀ c∈[it],bT X pins (upd H s.heap.objs.size<|.tup [.ref b,kvs[i].2]) c:=λc a7=>by
   have e:c=it:=by simpa using a7
   subst e;exact⟨by rw [aw nT];exact f0,f1,f2,f3,f4,f5⟩
  have I2:=Inv.bB (h':=h') (t':=s.toks) I1 fp λc v a7 e=>by
   have nc:c≠it:=by simpa using a7
   rcases Fy e with ⟨ec,eo⟩ | e'
   ·rw [ec,eo];exact q2
   ·exact kp c v nc e'
  refine⟨_,rfl,wpAny_letOwnedTupleGo_items (s:={s with heap:=h'}) q1 λh2 b1 sb=>?_⟩;have I3:=Inv.bB (h':=h2) (t':=s.toks) I2 fp λc v a7 e=>(sb.2 c<|by simpa using a7).trans e;exact⟨.ref s.heap.objs.size,_,I3,rfl,⟨_,b,kvs[i].1,kvs[i].2,hx,hb,hT,rfl,rfl⟩,⟨_,_,b1⟩,λc a7=>(fp c a7).1⟩
 done:=by
  intro X hP hw hK hc i pins s σ H E I hf st hg;subst hP hw hK;obtain⟨hd,hi⟩:=hg;obtain⟨pd,xs,r,yE⟩:=Jf I.aE hd mP;obtain⟨y,z,st⟩:=st;have hl:es.size=kvs.length:=by rw [kt_len r,<- Cn,yE,Aa]
  exact Ub (I.ok.hd hc) st pd (by omega) λh' eb=>⟨rfl,I.bB (t':=s.toks) hf λc v a7 e=>eb c v (by simpa using a7) e⟩
 self:=λ_ _ _ _ _ st h=>let ⟨y,z,e⟩:=st;Ud e h
end
section
variable{X:Cx}
def Uh(to:TE):TI:=λσ H R=>to σ H λx H1=>∃ d kvs,x = .ref d/\H1 d=some (.dT kvs)/\∀ o,R (Itm d o kvs)<|upd H1 d<|.bv o<|.dT kvs
theorem Jh{elts:List Expr}{kk:Nat}{tp ap cp:Pos}{l:Expr}{to:TE}(ho:PE X l to)(bZ:attributeBase l "items" X.env (eval l X.env)=eval l X.env:=by rfl)(hline:(ap.endLine == cp.line)=true:=by rfl) :
  PI X (.Tuple elts kk tp) (.Call (.Attribute l "items" ap) [] [] cp) (Uh to):=by
 intro pins s σ H R I h;refine wpAny_Call_method0_late bZ hline<|aH (ho pins s σ H _ I h) λv s1 ⟨x,H1,I1,r1,q1⟩=>?_;obtain⟨d,kvs,e,hd,q⟩:=q1;subst e;cases (show v=Value.ref d from r1);obtain⟨_,Ui,_,_,o,es,ep,e1,e2,e3,_⟩:=(show ay X.prog X.w H1 s1.heap d (.dT kvs) from I1.aE d _ hd);have ty:s1.TypeIs (.ref d) "dict":=⟨o,e1,e2.1⟩;refine⟨"dict","dict.items",F.plainAttrs_dict,F.slot_dict_items,F.type_dict_items,ty,λa ea=>?_,IK rfl (PySem.evalArgs_none ?_)⟩
 ·cases ea;exact⟨o,e1,e2.2.1⟩
 refine call_meetsIn F.slot_dict_items ty F.entry_dict_items (F.args_dict_items_1 _) (T4 d Ui) ⟨ty,?_⟩;obtain⟨o',eo,I2⟩:=Ue I1 hd;have:o=o':=Option.some.inj<|e1.symm.trans eo;subst this;have I3:=I2.kept (t':=s1.toks) (h':=s1.heap.push {cls:= .type "dict_items",data:= .fields #[.ref d]}) λb u e=>Ak _ e;refine T5 (s:={s1 with heap:=s1.heap.push {cls:= .type "dict_items",data:= .fields #[.ref d]}}) (d:=d) (es:=es) (ep:=ep) ⟨_,Bb _ rfl,rfl,rfl⟩ ⟨o,Ak _ e1,e2,e3⟩ ?_;refine⟨_,[(s1.heap.push {cls:= .type "dict_items",data:= .fields #[.ref d]}).objs.size],_,_,_,rfl,I3.kept (t':=s1.toks) λb u e=>Ak _ e,Ug d _ o es ep kvs e3,⟨_,_,Bb _ rfl⟩,λb hb=>?_,q o⟩;have e:b=(s1.heap.push {cls:= .type "dict_items",data:= .fields #[.ref d]}).objs.size:=by simpa using hb
 subst e;exact I3.eQ (Al _)<|I3.aE.fresh<|Al _
end
section
variable{X:Cx}{tg:Expr}{ifs:List Expr}{inner:Sem Unit}{σ:St}{H:Hp}{d:Addr}{o:Obj}{kvs:List (List Key×V)}{after:St->Hp->Prop}
theorem Ji(Pv:Nat->St->Hp->Prop)(h0:Pv 0 σ H)(hl:∀ i σ' H',i<=kvs.length->Pv i σ' H'->H' d=some (.bv o<|.dT kvs))
  (hs:∀ i k x b T σ' H',kvs[i]?=some (k,x)->Pv i σ' H'->H' b=some (.tup<|k.map kV)->H' T=none->Eg X tg (.ref T) σ' (upd H' T<|.tup [.ref b,x]) λσ2 H3=>Ei X ifs σ2 H3 λc H4=>if c=true then jb X inner σ2 H4 (Pv<|i+1) else Pv (i+1) σ2 H4)
  (hd:∀ σ' H',Pv kvs.length σ' H'->after σ' H'):ft X tg ifs inner (Itm d o kvs) after σ H:=by
 refine⟨λi m σ' H'=>m=kvs.length - i/\i<=kvs.length/\Pv i σ' H',⟨_,rfl,Bo _,h0⟩,?_⟩;rintro i m σ' H' ⟨rfl,hi,p⟩;have q:=hl i σ' H' hi p
 by_cases bn:i < kvs.length
 ·refine .inr ⟨⟨q,bn⟩,Pv<|i+1,λσ' H' p'=>⟨kvs.length - (i+1),by omega,rfl,bn,p'⟩,λv H2 y=>?_⟩;obtain⟨T,b,k,x,hx,hb,hT,rfl,rfl⟩:=y;exact hs i k x b T σ' _ hx p hb hT
 ·have e:i=kvs.length:=by omega
  subst e;exact .inl ⟨⟨q,Al _⟩,hd σ' H' p⟩
end
open cb
def ah{α:Type}:List α->List α
 | []=>[]
 | [a]=>[a]
 | a :: _ :: r=>a :: ah r
theorem mU{α:Type}:∀(xs:List α) (k:Nat),(ah xs)[k]?=xs[2 * k]?
 | [],k=>by simp [ah]
 | [a],0=>rfl
 | [a],k+1=>by
  show([]:List α)[k]?=[a][2 * (k+1)]?;rw [Bc<|Bo _,Bc<|by show 1<=_;omega]
 | a :: b :: r,0=>rfl
 | a :: b :: r,k+1=>by
  show(ah r)[k]?=(a :: b :: r)[2 * (k+1)]?;rw [mU r k,show 2 * (k+1)=2 * k+1+1 by omega];rfl
theorem qZ{α:Type}:∀(xs:List α),(ah xs).length=(xs.length+1) / 2
 | []=>by
  show 0=(0+1) / 2;omega
 | [a]=>by
  show 1=(1+1) / 2;omega
 | a :: b :: r=>by
  show(ah r).length+1=(r.length+1+1+1) / 2;rw [qZ r];omega
theorem Uj{α:Type}(xs:List α):(ah xs).length<=xs.length:=by
 rw [qZ];omega
theorem Jj:∀{xs:List V} {us:List Value},ax xs us->ax (ah xs) (ah us)
 | [],us,r=>by
  have:=r.zero;subst this;exact .nil
 | [a],us,r=>by
  obtain⟨u,rfl,ru⟩:=r.one;exact .cons ru .nil
 | a :: b :: r,us,h=>by
  cases h with
  | cons h1 h2=>
   cases h2 with
   | cons h3 h4=>exact .cons h1<|Jj h4
theorem Jk{α:Type}(g:Nat->Option α):∀(c:Nat),(∀ k,k < c->∃ v,g k=some v)->((List.range c).filterMap g).length=c/\∀ k,k < c->((List.range c).filterMap g)[k]?=g k
 | 0,_=>⟨rfl,λk h=>absurd h<|Ec _⟩
 | c+1,h=>by
  obtain⟨h1,h2⟩:=Jk g c λk hk=>h k (by omega);obtain⟨v,hv⟩:=h c (by omega);have e:(List.range<|c+1).filterMap g=(List.range c).filterMap g++[v]:=by
   rw [Di,List.filterMap_append,Fm,hv];rfl
  rw [e];refine⟨by rw [Af,h1];rfl,λk hk=>?_⟩
  by_cases jI:k < c
  ·rw [Av<|by omega];exact h2 k jI
  ·have:k=c:=by omega
   subst this;rw [Az (by omega),h1,QZ,hv];rfl
theorem Uk(its:List Value):slicePick its.toArray none none (some 2)=(ah its).toArray:=by
 unfold slicePick;have hb:sliceBounds none none (some 2) its.toArray.size=(0,(its.length:Int),2):=rfl;rw [hb]
 congr 1
 show((sliceRange 0 (its.length:Int) 2).filterMap (its.toArray[·]?))=ah its;have hr:sliceRange 0 (its.length:Int) 2=(List.range<|(its.length+1) / 2).map λk=>2 * k:=by
  unfold sliceRange;have e1:(if(2:Int) > 0 then(if(0:Int) < (its.length:Int) then((its.length:Int) - 0+2 - 1) / 2 else 0) else(if(0:Int) > (its.length:Int) then(0 - (its.length:Int) - 2 - 1) / (-2) else 0)).toNat=(its.length+1) / 2:=by
   rw [BL<|by decide]
   split <;> omega
  show(List.range _).map _=_;rw [e1];exact Ay λk _=>by omega
 rw [hr,List.filterMap_map];obtain⟨h1,h2⟩:=Jk (λk=>its.toArray[2 * k]?) ((its.length+1) / 2) λk hk=>⟨its[2 * k]'(by omega),by rw [<- Cg];exact Ab (l:=its)<|by omega⟩;apply Cv;intro k;show((List.range<|(its.length+1) / 2).filterMap λk=>its.toArray[2 * k]?)[k]?=_
 by_cases hk:k < (its.length+1) / 2
 ·rw [h2 k hk,mU,<- Cg]
 ·rw [Bc (by omega),Bc<|by rw [qZ];omega]
section
variable{X:Cx}{σ:St}{H:Hp}{Q:VK}
theorem Ul{e:Expr}{j:Nat}{p1 p2 pos:Pos} (h:Ev X e σ H λx H1=>∃ a xs,x = .ref a/\au X.K H1 a xs/\∀ p,H1 p=none->Q (.ref p) (upd H1 p<|.lst<|ah xs)) :
  Ev X (.Subscript e (.Slice none none (some<|.Constant (.int 2) j p1) p2) pos) σ H Q:=by
 refine⟨λpins s I=>Subscript_<|aH (h.run pins s I) λv s1 ⟨x,H1,I1,r1,a,xs,ex,hx,q⟩=>?_⟩;subst ex;cases (show v=Value.ref a from r1);refine wpAny_Slice ?_;rw [evalPart_none];refine BP<|BP ?_;rw [evalPart_some];refine aH ((aA (X:=X) (i:=2) (j:=j) (p:=p1) (σ:=σ) (H:=H1) (Q:=λy H2=>y = .int 2/\H2=H1) ⟨rfl,rfl⟩).run pins s1 I1) λv2 s2 ⟨y,H2,I2,r2,ey,eh⟩=>?_;subst ey eh;obtain⟨t,rfl⟩:=r2;obtain⟨its,r,pl,hz⟩:=I2.list hx;have hlen:=r.length;have I3:Inv X pins σ H2 {s2 with heap:=s2.heap.push {cls:= .type "slice",data:= .fields #[.none,.none,.int 2 t]}}:=I2.kept (t':=s2.toks) λb ob q=>Ak _ q;have Jl:=pl.isList.push {cls:= .type "slice",data:= .fields #[.none,.none,.int 2 t]};show wpAny (model X.prog X.w) X.A (subscriptTail e _ (.ref a)<|.ref s2.heap.objs.size) (EP X pins σ Q) X.xe {s2 with heap:=s2.heap.push {cls:= .type "slice",data:= .fields #[.none,.none,.int 2 t]}};refine tail_any (ops:=[.ref a,.ref s2.heap.objs.size]) (T:= "list") (Heap.IsList.typeIs (s:={s2 with heap:=s2.heap.push {cls:= .type "slice",data:= .fields #[.none,.none,.int 2 t]}}) Jl) slot_list_getitem.lookup ?_ (by with_unfolding_all rfl);refine wpAny_getItem_list_slice (s:={s2 with heap:=s2.heap.push {cls:= .type "slice",data:= .fields #[.none,.none,.int 2 t]}}) Jl (Heap.IsSliceOf.new ..) .none .none (.int 2 t) (by decide) ?_ (by rw [As];omega);rw [Uk];exact⟨.ref _,_,I3.qA (t':=s2.toks) (Jj r)<|Cd (Uj _) hz,rfl,q _ I3.fresh⟩
end
section
variable{prog:Program}{w:World}{A:Around}{E:Value->Shared->Prop}{s:Shared}
theorem Um{Q:Value->Shared->Prop}(k:Q (.ref s.heap.objs.size) {s with heap:=s.heap.push (qQ w)}):codeAny (model prog w) A (.call (.builtin "set.__new__") ⟨[.type "set"],[]⟩) (wants Q E) s:=by
 refine NK ?_;show wpAny _ A.in1 (checkBuiltinCall "set.__new__" ⟨[.type "set"],[]⟩ >>= λ_=>again<|.builtin "set.__new__" ⟨[.type "set"],[]⟩) _ _ s;refine BK<|JT PySem.F.newCall_set_0<|BP ⟨plainId_quiet QD _,JK PySem.F.entry_set_new ?_⟩;rw [JL QD _];unfold Builtin.«set.__new__» Builtin.Frozenset.newClass
 dsimp only
 refine BK<|BK<|JT (show isType (.type "set")=pure true from rfl)<|BP ?_;simp only [Gf,Cj,CV];unfold newSet;refine BK<|BK<|wp_text ?_
 dsimp only
 simp only [newObj];exact BK<|wpAny_alloc<|BP<|BP k
theorem Uo{Q:Value->Shared->Prop}(k:Q (.ref s.heap.objs.size) {s with heap:=s.heap.push (qQ w)}):wpAny (model prog w) A (call (.type "set") []) Q E s:=by
 obtain⟨c,tl,Uq⟩:=PySem.F.called_set.mro;have Jm:=PySem.F.called_set.made;have Ur:=PySem.F.called_set.sub;refine wpAny_call<|NK ?_;show wpAny _ _ (callAny (.type "set") _) _ _ _;refine BP ⟨Code.quiet_builtin _ (by decide +kernel),JK PySem.F.entry_type_call ?_⟩;rw [Around.under_plain (weight_type_call_type "set" [] []) rfl];have h1:=PySem.F.called_set.notType;have h2:=PySem.F.called_set.canCreate;have h3:=PySem.F.typeCall_set_0
 repeat (any_goals (first | assumption | wp_step))
 refine JF (Um (E:=E) (Q:=λv u=>v = .ref s.heap.objs.size/\u={s with heap:=s.heap.push (qQ w)}) ⟨rfl,rfl⟩) λr u hr=>?_;cases r with
 | error e=>exact hr
 | ok fl=>
  cases fl with
  | ret v=>
   obtain⟨rfl,rfl⟩:=hr;have hT:Shared.TypeIs {s with heap:=s.heap.push (qQ w)} (.ref s.heap.objs.size) "set":=⟨_,Bb _ rfl,rfl⟩;have Jn:=PySem.F.called_set.init.lookup;have Z7:=PySem.F.called_set.init.bind<|.ref s.heap.objs.size
   repeat (any_goals (first | assumption | wp_step))
   refine JF (codeAny_call_builtin (R:=wants (λr u=>r = .none/\Q (.ref s.heap.objs.size) u) E) PySem.F.called_set.init.plain PySem.F.entry_set_init<|check_set_init hT ?_) λr2 u2 yF=>?_
   ·unfold Builtin.«set.__init__» noKeywords
    wp_walk
    exact⟨rfl,k⟩
   ·cases r2 with
    | error e=>exact yF
    | ok f2=>
     cases f2 with
     | ret r=>
      obtain⟨rfl,hq⟩:=yF
      repeat (any_goals (first | assumption | wp_step))
     | _=>exact yF.elim
  | _=>exact hr.elim
theorem Us{a:Addr}{zs:List Str}{z:Str}{tk:Tok}{Q:Value->Shared->Prop}(S:bt prog w s.heap a zs) (h:Q (.bool<|decide (z∉zs)) {s with toks:=s.toks+1}):wpAny (model prog w) A (compareOp .NotIn (.str z tk)<|.ref a) Q E s:=by
 have hT:=S.typeIs;show wpAny _ _ (do return .bool (!(<- contains (.ref a)<|.str z tk))) Q E s;refine BK ?_;unfold contains
 try with_reducible refine CQ ?_
 refine BK<|wpAny_specialOf hT PySem.F.slot_set_contains.lookup ?_;show wpAny _ _ (if(some (Value.builtin "set.__contains__") == some Value.none)=true then _ else _) _ E s;rw [BJ<|by rw [beq_builtin_none];exact Ar];refine BK<|wpAny_callSpecialUnlessNone?_slot (name:=Str.ofString "__contains__") hT KQ<|FN KQ hT entry_set_contains ?_<|PySem.F.args_set_contains_2 _ _;unfold Builtin.«frozenset.__contains__» Builtin.Frozenset.oneOther;simp only [List.isEmpty_nil,bind_assoc];unfold Builtin.Frozenset.addrOf Builtin.Frozenset.withSetAsKey setContains;refine BK<|BP ?_
 try dsimp only
 refine BK<|BP ?_
 try dsimp only
 refine BK<|wpAny_tryCatch<|CQ ?_;refine BK<|(strKind prog w).pyHash (k:=z) (KJ _ _ _ _) ?_;obtain⟨o,es,ep,t,ho,hx,hd,T⟩:=S;refine BK<|Sr (s:={s with toks:=s.toks+1}) ho hd T (λhz=>?_) λj hj e=>?_
 ·refine BP ?_;show wpAny _ _ (ret<|Value.bool false) _ _ _;rw [BW hz] at h;exact BP ⟨_,rfl,DK<|BP h⟩
 ·refine BP ?_;show wpAny _ _ (ret<|Value.bool true) _ _ _;have hz:z∈zs:=T.keys.mem_iff.mp (by rw [<- e];exact Aj.mpr ⟨_,Bn hj,rfl⟩);rw [BR<|not_not_intro hz] at h;exact BP ⟨_,rfl,DK<|BP h⟩
end
section
variable{X:Cx}{σ:St}{H:Hp}{Q:VK}
theorem Ut{p pos:Pos}(hm:X.mg "set" = none)(h:∀ D,H D=none->Q (.ref D) (upd H D<|bU X.prog X.w D []))(hg:Gl X "set":=by rfl):Ev X (.Call (.Name "set" p) [] [] pos) σ H Q:=by
 refine⟨λpins s I=>Call_<|jv I hg hm PyProof.Rows.boot_set<|PyProof.Rows.callWith_type0<|Uo ?_⟩;exact⟨.ref s.heap.objs.size,_,I.laid (t':=s.toks) (λb o e=>Ak _ e) (Al _)<|Ib<|Ss<|Bb _ rfl,rfl,h _ I.fresh⟩
theorem Uu:cR X (compareOp .NotIn) (λx y H Q=>∃ z a zs,x = .str z/\y = .ref a/\H a=some (bU X.prog X.w a zs)/\Q (.bl<|decide (z∉zs)) H):=by
 intro pins s σ H x y v u Q I rx ry h;obtain⟨z,a,zs,rfl,rfl,hA,q⟩:=h;obtain⟨t,rfl⟩:=rx;cases (show u=Value.ref a from ry);exact Us (I.set hA) ⟨.bl _,H,I.tok _,rfl,q⟩
theorem Uv{o e:Expr}{ap cp:Pos} (h:Ev X o σ H λx H1=>∃ a,x = .ref a/\(∃ zs,H1 a=some (bU X.prog X.w a zs))/\Ev X e σ H1 λy H2=>∃ z zs,y = .str z/\H2 a=some (bU X.prog X.w a zs)/\zs.length+1 < 1000/\Q .non (upd H2 a<|bU X.prog X.w a<|added zs z))
  (bZ:attributeBase o "add" X.env (eval o X.env)=eval o X.env:=by rfl)
  (dY:((backTo cp<|starEach [e] X.env).all (λx=>!x.1) && (backToKw cp<|keywordEach [] X.env).all (λx=>x.1.isSome) && decide ([e].length+([]:List Keyword).length+(if([]:List Keyword).isEmpty then 0 else 1) < 30))=true:=by rfl)
  (hline:(ap.endLine == cp.line)=true:=by rfl) (hs:starEach [e] X.env=(false,eval e X.env) :: starEach [] X.env:=by rfl) (cA:isStar e=false:=by rfl):Ev X (.Call (.Attribute o "add" ap) [e] [] cp) σ H Q:=by
 refine⟨λpins s I=>wpAny_Call_method_late bZ dY hline rfl (aH (h.run pins s I) λv s1 ⟨x,H1,I1,r1,a,ex,⟨zs,hA⟩,h2⟩=>?_)⟩;subst ex;cases (show v=Value.ref a from r1);have S:=I1.set hA;refine⟨"set","set.add",PySem.F.plainAttrs_set,PySem.F.slot_set_add,PySem.F.type_set_add,S.typeIs,λb eb=>?_,?_⟩
 ·cases eb;obtain⟨o,_,_,_,ho,hx,_⟩:=S;exact⟨o,ho,hx.2.1⟩
 have hE:Ea X [e] σ H1 (λys H2=>∃ z zs,ys=[.str z]/\H2 a=some (bU X.prog X.w a zs)/\zs.length+1 < 1000/\Q .non (upd H2 a<|bU X.prog X.w a<|added zs z)):=ai (h2.mono λy H2 ⟨z,zs,ey,q⟩=>aD ⟨z,zs,by rw [ey],q⟩) cA;have Jo:=hE.run cp pins s1 I1;rw [hs] at Jo ⊢;refine IK rfl (Calls.evalArgs_plain ?_);refine aH Jo λus s2 ⟨vs,H2,I2,r2,z,ys,ev,Jp,hl,q⟩=>?_;subst ev;obtain⟨u,rfl,ru⟩:=vals1 r2;obtain⟨tk,rfl⟩:=ru;refine T1 (I2.set Jp) hl λh' sb S'=>⟨.non,_,kq (t':=s2.toks+1) I2 (by rw [Jp];exact True.intro) sb ?_<|Ib S',rfl,q⟩;obtain⟨o,_,_,_,ho,_⟩:=S';exact⟨o,ho⟩
end
end L2
namespace Nt
open PySem L2
def cN(c:Int)(n:Net)(e:End):End:=(e.1,(((e.2:Int)+c) % ((row n e.1).length:Int)).toNat)
theorem mV{c:Int}{n:Net}{e:End}(h:e∈ends n):(((cN c n e).2:Nat):Int)=((e.2:Int)+c) % ((row n e.1).length:Int):=by
 obtain⟨z,hz⟩:=af.mp h;have:=fw hz;exact Int.toNat_of_nonneg<|Bq _<|by omega
theorem Jq{c:Int}{n:Net}{e:End}(h:e∈ends n):cN c n e∈ends n:=by
 obtain⟨z,hz⟩:=af.mp h;have h1:=fw hz;have h2:=mV (c:=c) h;have h3:((e.2:Int)+c) % ((row n e.1).length:Int) < ((row n e.1).length:Int):=Bv _ (by omega);exact af.mpr<|ut (e:=cN c n e)<|by show(cN c n e).2 < (row n e.1).length;omega
theorem kI{c:Int}{n:Net}{e:End}(h:e∈ends n):cN (-c) n (cN c n e)=e:=by
 have h2:=mV (c:=c) h;have h3:=mV (c:=-c)<|Jq (c:=c) h;obtain⟨z,hz⟩:=af.mp h;have h1:=fw hz;have hr:(cN c n e).1=e.1:=rfl;rw [hr,h2] at h3;have e1:(((e.2:Int)+c) % ((row n e.1).length:Int)+-c) % ((row n e.1).length:Int)=(e.2:Int):=by
  have:(((e.2:Int)+c) % ((row n e.1).length:Int)+-c) % ((row n e.1).length:Int)=((e.2:Int)+c+-c) % ((row n e.1).length:Int):=by
   rw [Int.add_emod,Int.emod_emod,<- Int.add_emod]
  rw [this,show(e.2:Int)+c+-c=(e.2:Int) by omega];exact Int.emod_eq_of_lt (by omega)<|by omega
 rw [e1] at h3;have h4:(cN (-c) n<|cN c n e).2=e.2:=by omega
 exact FJ rfl h4
theorem Jr{c:Int}{n:Net}{a b:End}(ha:a∈ends n)(hb:b∈ends n)(h:cN c n a=cN c n b):a=b:=by
 rw [<- kI (c:=c) ha,<- kI (c:=c) hb,h]
theorem uJ{n:Net}{e:End}(h:e∈ends n):left n e=cN 1 n e:=by
 have h2:=mV (c:=1) h;refine FJ rfl ?_;show(e.2+1) % (row n e.1).length=(cN 1 n e).2;have:(((e.2+1) % (row n e.1).length:Nat):Int)=((e.2:Int)+1) % ((row n e.1).length:Int):=by simp
 omega
def go(c:Int)(n:Net)(e:End):End:=cN c n<|other n e
theorem d6{c:Int}{n:Net}(T:aq n){e:End}(h:e∈ends n):go c n e∈ends n:=Jq<|cG T h
theorem go_inj{c:Int}{n:Net}(T:aq n){a b:End}(ha:a∈ends n)(hb:b∈ends n)(h:go c n a=go c n b):a=b:=Ir T ha hb<|Jr (cG T ha) (cG T hb) h
theorem uK{n:Net}(T:aq n){e:End}(h:e∈ends n):step n e=go 1 n e:=uJ<|cG T h
def two(n:Net)(e:End):End:=go (-1) n<|go 1 n e
theorem jO{n:Net}(T:aq n){e:End}(h:e∈ends n):two n e∈ends n:=d6 T<|d6 T h
theorem ra{n:Net}(T:aq n){a b:End}(ha:a∈ends n)(hb:b∈ends n)(h:two n a=two n b):a=b:=go_inj T ha hb<|go_inj T (d6 T ha) (d6 T hb) h
def wk(n:Net)(e:End):Nat->List End
 | 0=>[]
 | k+1=>wk n e k++[it (two n) k e,go 1 n<|it (two n) k e]
theorem mW(n:Net)(e:End):∀ k,(wk n e k).length=2 * k
 | 0=>rfl
 | k+1=>by
  show(wk n e k++_).length=_;rw [Af,mW n e k];show 2 * k+2=_;omega
theorem mX(n:Net)(e:End):∀(k i:Nat),i < k->(wk n e k)[2 * i]?=some (it (two n) i e)
 | 0,i,h=>absurd h<|Ec _
 | k+1,i,h=>by
  show(wk n e k++[it (two n) k e,go 1 n<|it (two n) k e])[2 * i]?=_;have l:=mW n e k
  by_cases hk:i < k
  ·rw [Av<|by omega];exact mX n e k i hk
  ·have:i=k:=by omega
   subst this;rw [Az (by omega),l,QZ];rfl
theorem uL(n:Net)(e:End):∀(k i:Nat),i < k->(wk n e k)[2 * i+1]?=some (go 1 n<|it (two n) i e)
 | 0,i,h=>absurd h<|Ec _
 | k+1,i,h=>by
  show(wk n e k++[it (two n) k e,go 1 n<|it (two n) k e])[2 * i+1]?=_;have l:=mW n e k
  by_cases hk:i < k
  ·rw [Av<|by omega];exact uL n e k i hk
  ·have:i=k:=by omega
   subst this;rw [Az (by omega),l,show 2 * i+1 - 2 * i=1 by omega];rfl
theorem Uw(n:Net)(e:End)(k:Nat):ah (wk n e k)=(List.range k).map λi=>it (two n) i e:=by
 apply Cv;intro i;rw [mU,Ag]
 by_cases h:i < k
 ·rw [mX n e k i h,Cc h];rfl
 ·rw [Bc (by rw [mW];omega),Bc<|by rw [Ci];omega];rfl
theorem yG{n:Net}(T:aq n){e:End}(h:e∈ends n):∀ k,∀ c∈wk n e k,c∈ends n
 | 0,c,hc=>by cases hc
 | k+1,c,hc=>by
  have hk:it (two n) k e∈ends n:=hU (λa ha=>jO T ha) h k
  rcases Aq.mp hc with hc | hc
  ·exact yG T h k c hc
  ·rcases Ai.mp hc with rfl | hc
   ·exact hk
   ·rw [Am.mp hc];exact d6 T hk
structure gg(n:Net)(e:End)(k:Nat):Prop where
 pos:0 < k
 back:it (two n) k e=e
 first:∀ i,0 < i->i < k->it (two n) i e≠e
theorem gg.unique{n:Net}{e:End}{k l:Nat}(a:gg n e k)(b:gg n e l):k=l:=by
 rcases KD k l with h | h | h
 ·exact absurd a.back<|b.first k a.pos h
 ·exact h
 ·exact absurd b.back<|a.first l b.pos h
noncomputable def rd(n:Net)(e:End):Nat:=by classical exact if h:∃ k,gg n e k then h.choose else 0
theorem rg{n:Net}{e:End}{k:Nat}(h:gg n e k):rd n e=k:=by
 have hx:∃ k,gg n e k:=⟨k,h⟩;unfold rd;rw [dif_pos hx];exact hx.choose_spec.unique h
noncomputable def walker(n:Net)(e:End):List End:=wk n e<|rd n e
structure iI(n:Net)(ws:List End):Prop where
 ends:∀ c∈ws,c∈Nt.ends n
 Z8:0 < ws.length
 even:ws.length % 2=0
 few:ws.length<=2 * (Nt.ends n).length
 at':∀ k,k < ws.length->∃ c,ws[k]?=some c/\ws[(k+1) % ws.length]?=some (go (1 - 2 * ((k:Int) % 2)) n c)
theorem Ux{n:Net}(T:aq n){e:End}(h:e∈Nt.ends n){k:Nat}(p:gg n e k)(hk:k<=(Nt.ends n).length):iI n (wk n e k):=by
 have l:=mW n e k;have p0:=p.pos;refine⟨yG T h k,by omega,by omega,by omega,λj hj=>?_⟩;rw [l] at hj ⊢
 rcases Nat.mod_two_eq_zero_or_one j with h2 | h2
 ·obtain⟨i,rfl⟩:∃ i,j=2 * i:=⟨j / 2,by omega⟩;refine⟨_,mX n e k i (by omega),?_⟩;rw [Bs (by omega),uL n e k i<|by omega];have:(1:Int) - 2 * (((2 * i:Nat):Int) % 2)=1:=by omega
  rw [this]
 ·obtain⟨i,rfl⟩:∃ i,j=2 * i+1:=⟨j / 2,by omega⟩;refine⟨_,uL n e k i (by omega),?_⟩;have e1:(1:Int) - 2 * (((2 * i+1:Nat):Int) % 2)=-1:=by omega
  rw [e1];show _=some (two n<|it (two n) i e)
  by_cases hl:i+1 < k
  ·rw [Bs (by omega),show 2 * i+1+1=2 * (i+1) by omega];exact mX n e k (i+1) hl
  ·have:i+1=k:=by omega
   rw [show 2 * i+1+1=2 * k by omega,Dy];have e2:two n (it (two n) i e)=it (two n) k e:=by rw [<- this];rfl
   rw [e2,p.back];exact mX n e k 0<|by omega
def av(n:Net)(e:End):Str:=(aJ n e).getD ⟨#[]⟩
theorem cO{n:Net}{e:End}{z:Str}(h:aJ n e=some z):av n e=z:=by unfold av;rw [h];rfl
noncomputable def cK(n:Net):List End->List Str->List (List End)
 | [],_=>[]
 | e :: r,told=>if av n e∈told then cK n r told else walker n e :: cK n r (told++(ah<|walker n e).map (av n))
end Nt
namespace Y3
open PySem L2
def top(i:Nat):Stmt:=PySem.Challenge.pw_threewebs_k63_whole_odd_with_one_walker.main.body.getD i<|.Pass ⟨0,0,0,0⟩
abbrev uM:Stmt:=top 1
abbrev uN:Stmt:=top 2
abbrev yH:Stmt:=top 3
abbrev yI:Stmt:=top 4
abbrev yJ:Stmt:=top 5
abbrev uO:Stmt:=top 6
abbrev uP:Stmt:=top 7
abbrev uQ:Stmt:=top 8
abbrev uR:Stmt:=top 10
abbrev yK:Stmt:=top 11
abbrev yL:Stmt:=top 13
abbrev kJ:Stmt:=top 14
abbrev mY:Stmt:=top 15
abbrev mZ:Stmt:=top 17
abbrev m4:Stmt:=top 18
abbrev yM:Stmt:=top 20
abbrev m5:Stmt:=top 21
abbrev yN:Stmt:=top 22
abbrev yO:Stmt:=top 23
abbrev yP:Stmt:=top 24
abbrev yQ:Stmt:=top 25
abbrev yR:Stmt:=top 26
abbrev m6:Stmt:=top 27
abbrev m7:Stmt:=top 28
abbrev uS:Stmt:=top 29
abbrev yS:Stmt:=top 30
abbrev yT:Stmt:=top 31
abbrev m8:Stmt:=top 32
structure Txt(mg:Str->Option Value):Prop where
 yU:mg "isinstance" = none
 yV:mg "tuple" = none
 Uy:mg "str" = none
 m9:mg "int" = none
 rh:mg "bool" = none
 kK:mg "list" = none
 kL:mg "dict" = none
 gI:mg "set" = none
 enum:mg "enumerate" = none
 zip:mg "zip" = none
 len:mg "len" = none
 range:mg "range" = none
 sorted:mg "sorted" = none
 max:mg "max" = none
 all:mg "all" = none
open Nt bJ
theorem small{n:Nat}(h:n<=100000):n<=sizeLine:=by rw [DG];omega
theorem cn{n:Nat}(h:n<=100000):n < sizeLine:=by rw [DG];omega
theorem a9{H:Hp}{p:Addr}(h:H p=none)(o:HO):ak H (upd H p o):=λb u q=>by rw [aw<|bD q h];exact q
theorem dJ{H1 H2:Hp}{r:Addr}{o:HO}(s:ak H1 H2)(h:H1 r=none):ak H1 (upd H2 r o):=λb u q=>by
 rw [aw<|bD q h];exact s _ _ q
theorem Uz{H:Hp}{l:Addr}{zs:List Str}{y:Str}:upd H l (.lst<|zs.map V.str++[V.str y])=upd H l (Ls<|zs++[y]):=by
 show _=upd H l (.lst<|(zs++[y]).map V.str);rw [Ah];rfl
def uT(K:PySem.W.Frag):Sp:=λvs H Q _=>∃(a:Addr) (ns:List Int) (k:Int),vs=[.ref a,.int k]/\au K H a (ns.map V.int)/\0<=k/\∀ i,Q (.int i) H
def yW(K:PySem.W.Frag):Sp:=λvs H Q _=>∃(a:Addr) (ns:List Int) (k:Int),vs=[.ref a,.int k]/\au K H a (ns.map V.int)/\0<=k/\∀ i H',ak H H'->Q (.int i) H'
def yX:Sp:=λvs H Q _=>∃(b m:Int),vs=[.int b,.int m]/\0<=m/\m<=36/\∀ l H',ak H H'->H l=none->H' l=some (Ls<|namesOf b m.toNat)->Q (.ref l) H'
def uU:Sp:=λvs H Q _=>∃(R:Addr) (as:List<|Addr×Addr) (n:Net),vs=[.ref R]/\aj H R as n/\n.length<=1000/\(ag n).length<=1000/\∀ d ks H',ak H H'->H d=none->bE H' d n ks->Q (.ref d) H'
def uV:Sp:=λvs H Q _=>∃(R d t:Addr) (as:List<|Addr×Addr) (n:Net) (ks:List Str) (e:Nt.End),vs=[.ref R,.ref d,.ref t]/\aj H R as n/\bE H d n ks/\aq n/\H t=some (Tp e)/\e∈ends n/\∀ u,H u=some (Tp<|other n e)->Q (.ref u) H
def uW:Sp:=λvs H Q _=>∃(R d t:Addr) (as:List<|Addr×Addr) (n:Net) (ks:List Str) (e:Nt.End) (c:Int),vs=[.ref R,.ref d,.ref t,.int c]/\aj H R as n/\bE H d n ks/\aq n/\H t=some (Tp e)/\e∈ends n/\∀ u H',ak H H'->H u=none->H' u=some (Tp<|go c n e)->Q (.ref u) H'
def yY:Sp:=λvs H Q _=>∃(R d t:Addr) (as:List<|Addr×Addr) (n:Net) (ks:List Str) (e:Nt.End),vs=[.ref R,.ref d,.ref t]/\aj H R as n/\bE H d n ks/\aq n/\H t=some (Tp e)/\e∈ends n/\(ends n).length<=1000 /\
 ∀ l ts fs H',ak H H'->H l=none->H' l=some (.lst<|ts.map V.ref)->Pd H' ts fs->dZ n e fs->Q (.ref l) H'
section
variable{P:Program}{w:World}{K:PySem.W.Frag}{mg:Str->Option Value}{base:Heap}
theorem UA:ao ["_law_script","_law_k"] ["_law_script","_law_k"] (bm yM):=⟨rfl,rfl,rfl,by decide +kernel,rfl,by decide +kernel,by decide +kernel⟩
theorem UB{ns:List Int}{k:Int}(h0:0<=k)(h1:k < (ns.length:Int)):∃ v:Int,dw (ns.map V.int) k=some (.int v):=by
 have hj:k.toNat < ns.length:=by omega
 have q:=km (xs:=ns.map V.int) (j:=k.toNat) (v:= .int ns[k.toNat]) (by simp [hj]);rw [show((k.toNat:Nat):Int)=k by omega] at q;exact⟨_,q⟩
theorem UC{f:Addr}{fd:FuncData}(F:bM K "_law_cell_at" "_law_cell_at" yM f fd)(T:Txt mg):aI P w K mg base bH 1 f fd ["_law_script","_law_k"] (uT K):=by
 refine F.gb UA (λvs H Q E h=>?_) λb0 H vs Q E hr h=>?_
 ·obtain⟨a,ns,k,rfl,_⟩:=h;rfl
 obtain⟨a,ns,k,rfl,hS,h0,q⟩:=h;show Run _ _ _ [some<|.ref a,some<|.int k] H;refine fX<|eB P0<|ae 1<|cI dC T.len CW<|ai<|ae 0<|aD ⟨a,_,rfl,.inl hS,_,_,rfl,rfl,_,rfl,?_⟩;refine jE (λc=>?_) λc=>?_
 ·have c':=BX c;obtain⟨v,hv⟩:=UB (ns:=ns) h0 (by rw [Aa] at c';exact c');exact cf<|a8 cC<|ae 0<|ae 1 ⟨a,_,_,.int v,rfl,rfl,hS,hv,q v⟩
 ·exact bg<|cf<|aA<|q 0
abbrev ng:List V:=[.int 48271,.int 69621,.int 16807,.int 39373,.int 21401,.int 60493,.int 87721,.int 31337]
abbrev eY:List V:=[.int 99991,.int 99989,.int 99971,.int 99961,.int 99929,.int 99923,.int 99907,.int 99901]
theorem eight{i:Int}(h0:0<=i)(h1:i < 8):i=0\/i=1\/i=2\/i=3\/i=4\/i=5\/i=6\/i=7:=by
 obtain⟨k,rfl⟩:=Int.eq_ofNat_of_zero_le h0;exact(by decide:∀ k:Fin 8,(k.1:Int)=0\/(k.1:Int)=1\/(k.1:Int)=2\/(k.1:Int)=3\/(k.1:Int)=4\/(k.1:Int)=5\/(k.1:Int)=6\/(k.1:Int)=7) ⟨k,Int.ofNat_lt.mp h1⟩
theorem UD{i:Int}(h0:0<=i)(h1:i < 8):∃ m:Int,dw ng i=some (.int m)/\0 < m/\m < 100000:=by
 rcases eight h0 h1 with rfl | rfl | rfl | rfl | rfl | rfl | rfl | rfl <;> exact⟨_,rfl,by decide,by decide⟩
theorem UE{i:Int}(h0:0<=i)(h1:i < 8):∃ m:Int,dw eY i=some (.int m)/\0 < m/\m < 100000:=by
 rcases eight h0 h1 with rfl | rfl | rfl | rfl | rfl | rfl | rfl | rfl <;> exact⟨_,rfl,by decide,by decide⟩
theorem kN:ao ["_law_script","_law_at","_law_by","_law_prime","_law_cell","_law_big_here","_law_k","_law_one"] ["_law_script","_law_at"] (bm m5):=⟨rfl,rfl,rfl,by decide +kernel,rfl,by decide +kernel,by decide +kernel⟩
theorem UG{f:Addr}{fd:FuncData}(F:bM K "_law_big" "_law_big" m5 f fd)(T:Txt mg)(G:aY P w K mg base 1 "_law_cell_at" ["_law_script","_law_k"]<|uT K) :
  aI P w K mg base bH 2 f fd ["_law_script","_law_at"] (yW K):=by
 refine F.gb kN (λvs H Q E h=>?_) λb0 H vs Q E hr h=>?_
 ·obtain⟨a,ns,k,rfl,_⟩:=h;rfl
 obtain⟨a,ns,k,rfl,hS,h0,q⟩:=h;have nd:=kN.nd;show Run _ _ _ [some<|.ref a,some<|.int k,none,none,none,none,none,none] H;refine aQ 2 nd (eg<|ai<|aA<|ai<|aA<|ai<|aA<|ai<|aA<|ai<|aA<|ai<|aA<|ai<|aA<|ai<|aA<|aD ⟨(by show 8<=sizeLine;decide),λp hp=>?_⟩);refine aQ 3 nd (eg<|ai<|aA<|ai<|aA<|ai<|aA<|ai<|aA<|ai<|aA<|ai<|aA<|ai<|aA<|ai<|aA<|aD ⟨(by show 8<=sizeLine;decide),λp2 jF=>?_⟩);have UH:p≠p2:=by
  intro e;rw [<- e,aC] at jF;cases jF
 have s1:ak H (upd H p<|.tup ng):=a9 hp _;have s2:ak H (upd (upd H p<|.tup ng) p2<|.tup eY):=s1.trans<|a9 jF _;have e1:(upd (upd H p<|.tup ng) p2<|.tup eY) p=some (.tup ng):=by rw [aw UH,aC]
 have e2:(upd (upd H p<|.tup ng) p2<|.tup eY) p2=some (.tup eY):=aC;generalize upd (upd H p<|.tup ng) p2 (.tup eY)=H2 at s2 e1 e2 ⊢;refine aQ 4 nd<|bN G hr<|ai<|ae 0<|ai<|ae 1<|aD ⟨a,ns,k,rfl,s2.seq hS,h0,λb=>?_⟩;show Run _ _ _ [some<|.ref a,some<|.int k,some<|.ref p,some<|.ref p2,some<|.int b,none,none,none] H2;refine Hv True True (λR qq=>?_) (λ_=>?_) λ_=>bg ?_
 ·refine oN (Ht<|eB gK<|aS cE<|ae 4<|aA ⟨_,_,rfl,rfl,(by show(0:Int) < 2;decide),aA ⟨rfl,_,rfl,?_⟩⟩);refine jE (λc=>?_) (λc=>qq false (λz=>nomatch z) λ_=>trivial);exact Hu<|eB P1<|ae 4<|aS w9<|aA<|aA ⟨_,_,rfl,rfl,⟨by decide,by decide,by decide⟩,_,_,rfl,rfl,_,rfl,qq _ (λ_=>trivial) λ_=>trivial⟩
 ·exact cf<|aS fV<|ae 4<|aA ⟨_,_,rfl,rfl,⟨by decide,by decide⟩,q _ _ s2⟩
 refine aQ 5 nd<|aA ?_;refine i8 T.range<|aA ⟨60,rfl,by decide,by decide,i' (n:=60) (λ_ σ H3=>H3=H2/\∃(x:Int) (u v:Option V),σ=[some<|.ref a,some<|.int k,some<|.ref p,some<|.ref p2,some<|.int b,some<|.int x,u,v]) ⟨rfl,0,_,_,rfl⟩ ?_ ?_⟩
 ·rintro i σ H3 hi ⟨rfl,x,u,v,rfl⟩;have i9:0<=(0+(i:Int)) % 9:=Bq _ (by decide);obtain⟨m1,f1,g1,g2⟩:=UD (i:=(0+(i:Int)) % 8) (Bq _<|by decide) (Bv _<|by decide);obtain⟨m2,f2,g3,g4⟩:=UE (i:=(0+(i:Int)) % 8) (Bq _<|by decide) (Bv _<|by decide);refine bz 6 nd ?_;refine aQ 7 nd<|aS d9<|aS d9<|aS cE<|bN G hr<|ai<|ae 0<|ai<|aS d9<|ae 1<|aS cE<|ae 6<|aA ?_;refine⟨_,_,rfl,rfl,(by show(0:Int) < 9;decide),_,_,rfl,rfl,aD ⟨a,ns,_,rfl,s2.seq hS,?_,λc=>?_⟩⟩
  ·show 0<=k+(0+(i:Int)) % 9;omega
  refine aS w9 (aA<|aA ⟨_,_,rfl,rfl,⟨by decide,by decide,by decide⟩,_,_,rfl,rfl,(by show(0:Int) < 10 ^ (18:Int).toNat;decide),aA ⟨_,_,rfl,rfl,?_⟩⟩);refine aS lU<|ae 6<|ae 6 ?_;refine⟨_,_,rfl,rfl,.inl ⟨by omega,by omega⟩,_,_,rfl,rfl,?_⟩;refine aQ 5 nd (aS d9<|aS lU<|ae 5<|aA ⟨_,_,rfl,rfl,.inr ⟨by decide,by decide⟩,?_⟩);refine aS cE (aS cE<|aS lU<|ae 7<|a8 cu<|ae 2<|aS cE<|ae 6<|aA ⟨_,_,rfl,rfl,(by show(0:Int) < 8;decide),p,_,_,_,rfl,rfl,aP.of e1,f1,_,_,rfl,rfl,.inr ⟨by omega,by omega⟩,?_⟩);refine a8 cu (ae 3<|aS cE<|ae 6<|aA ⟨_,_,rfl,rfl,(by show(0:Int) < 8;decide),p2,_,_,_,rfl,rfl,aP.of e2,f2,_,_,rfl,rfl,g3,aA ⟨_,_,rfl,rfl,(by show(0:Int) < 7919;decide),_,_,rfl,rfl,?_⟩⟩);exact bg ⟨rfl,_,_,_,rfl⟩
 ·rintro σ H3 ⟨rfl,x,u,v,rfl⟩;exact cf<|ae 5<|q x _ s2
abbrev NN:List Str:=["_law_stem","_law_many","_law_signs","_law_size","_law_spot","_law_names_here","_law_v","_law_name","_law_k","_law_turn"]
theorem gj:ao NN ["_law_stem","_law_many"] (bm yN):=⟨rfl,rfl,rfl,by decide +kernel,rfl,by decide +kernel,by decide +kernel⟩
theorem UI{f:Addr}{fd:FuncData}(F:bM K "_law_names" "_law_names" yN f fd)(T:Txt mg):aI P w K mg base bH 1 f fd ["_law_stem","_law_many"] yX:=by
 refine F.gb gj (λvs H Q E h=>?_) λb0 H vs Q E hr h=>?_
 ·obtain⟨b,m,rfl,_⟩:=h;rfl
 obtain⟨b,m,rfl,m0,m1,q⟩:=h;have nd:=gj.nd;have s0:0<=b % 8:=Bq _ (by decide);have s1:b % 8 < 8:=Bv _ (by decide);show Run _ _ _ [some<|.int b,some<|.int m,none,none,none,none,none,none,none,none] H;refine aQ 2 nd<|Hq ?_;refine aQ 3 nd (aS d9<|aA<|aS cE<|ae 0<|aA ⟨_,_,rfl,rfl,(by show(0:Int) < 8;decide),_,_,rfl,rfl,?_⟩);refine aQ 4 nd (aS cE<|aS fV<|ae 0<|aA ⟨_,_,rfl,rfl,⟨by decide,by decide⟩,ae 3 ⟨_,_,rfl,rfl,(by show 0 < 1+b % 8;omega),?_⟩⟩);refine aQ 5 nd<|eW<|aD ⟨Z0,λl hl=>?_⟩;show Run _ _ _ [some<|.int b,some<|.int m,some<|.str lets,some<|.int<|1+b % 8,some<|.int<|b / 8 % (1+b % 8),some<|.ref l,none,none,none,none] _;have Z9:b / 8 % (1+b % 8)=b / 8 % (1+b % 8):=rfl;refine i8 T.range<|ae 1 ⟨m,rfl,by omega,by omega,i' (n:=m.toNat) (λi σ H3=>H3=upd H l (Ls<|namesOf b i)/\∃ u1 u2 u3 u4,σ=[some<|.int b,some<|.int m,some<|.str lets,some<|.int<|1+b % 8,some<|.int<|b / 8 % (1+b % 8),some<|.ref l,u1,u2,u3,u4]) ⟨rfl,_,_,_,_,rfl⟩ ?_ ?_⟩
 ·rintro i σ H3 hi ⟨rfl,u1,u2,u3,u4,rfl⟩;refine bz 6 nd ?_;refine aQ 7 nd<|Hq ?_;refine i8 T.range<|ae 3 ⟨_,rfl,by omega,by omega,i' (n:=(1+b % 8).toNat) (λj σ H4=>H4=upd H l (Ls<|namesOf b i)/\∃(u3 u4:Option V),σ=[some<|.int b,some<|.int m,some<|.str lets,some<|.int<|1+b % 8,some<|.int<|b / 8 % (1+b % 8),some<|.ref l,some<|.int<|0+(i:Int),some<|.str<|nm b (b / 8 % (1+b % 8)) i j,u3,u4]) ⟨rfl,_,_,rfl⟩ ?_ ?_⟩
  ·rintro j σ H4 hj ⟨rfl,v3,v4,rfl⟩;have t0:0<=b / 7 % 5:=Bq _ (by decide);have t1:b / 7 % 5 < 5:=Bv _ (by decide);have nl:(nm b (b / 8 % (1+b % 8)) i j).length=j:=by
    have:=BZ List.length<|uz b (b / 8 % (1+b % 8)) i j;show(nm b (b / 8 % (1+b % 8)) i j).cps.size=j
    simpa using this
   refine bz 8 nd ?_;refine aQ 9 nd (aS d9<|aS fV<|ae 0<|aA ⟨_,_,rfl,rfl,⟨by decide,by decide⟩,aS lU<|ae 8<|aS cE<|aS fV<|ae 0<|aA ⟨_,_,rfl,rfl,⟨by decide,by decide⟩,aA ⟨_,_,rfl,rfl,(by show(0:Int) < 5;decide),?_⟩⟩⟩);refine⟨_,_,rfl,rfl,.inr ⟨by omega,by omega⟩,_,_,rfl,rfl,?_⟩;refine Ic ((0+(j:Int))=b / 8 % (1+b % 8)) (¬(0+(j:Int))=b / 8 % (1+b % 8)) (λσ' H'=>H'=upd H l (Ls<|namesOf b i)/\σ'=[some<|.int b,some<|.int m,some<|.str lets,some<|.int<|1+b % 8,some<|.int<|b / 8 % (1+b % 8),some<|.ref l,some<|.int<|0+(i:Int),some<|.str<|nm b (b / 8 % (1+b % 8)) i j,some<|.int<|0+(j:Int),some<|.int<|turn b (b / 8 % (1+b % 8)) i j]) (λR qq=>?_) (λhc=>?_) (λhc=>bg ⟨rfl,?_⟩) ?_
   ·refine eB gK<|ae 8<|ae 4 ⟨rfl,_,rfl,?_⟩
    by_cases hc:(0+(j:Int))=b / 8 % (1+b % 8)
    ·rw [BW (show V.int (0+(j:Int))=V.int (b / 8 % (1+b % 8)) by rw [hc])];exact qq true (λ_=>hc) λh=>by cases h
    ·rw [BR λh=>hc<|V.int.inj h];exact qq false (λh=>by cases h) λ_=>hc
   ·refine aQ 9 nd<|aS d9<|ae 9<|ae 6 ⟨_,_,rfl,rfl,bg ⟨rfl,?_⟩⟩;have e:b / 64+(0+(j:Int)) * (b / 7 % 5)+(0+(i:Int))=turn b (b / 8 % (1+b % 8)) i j:=by
     unfold turn;rw [BL (by omega),Dl,Dl]
    rw [<- e];rfl
   ·have e:b / 64+(0+(j:Int)) * (b / 7 % 5)=turn b (b / 8 % (1+b % 8)) i j:=by
     unfold turn;rw [BJ (by omega),Dl,Int.add_zero]
    rw [<- e];rfl
   ·rintro σ' H' ⟨rfl,rfl⟩;refine aQ 7 nd<|aS P9<|ae 7<|a8 GA<|ae 2<|aS cE<|ae 9<|aA ⟨_,_,rfl,rfl,(by show(0:Int) < 36;decide),lets,_,sgn<|turn b (b / 8 % (1+b % 8)) i j,rfl,rfl,by decide +kernel,yl _,_,_,rfl,rfl,small (by show(nm b (b / 8 % (1+b % 8)) i j).length+1<=100000;omega),bg ⟨rfl,_,_,rfl⟩⟩
  ·rintro σ H4 ⟨rfl,v3,v4,rfl⟩;refine Ic (b % 3=2) (¬ b % 3=2) (λσ' H'=>H'=upd H l (Ls<|namesOf b i)/\σ'=[some<|.int b,some<|.int m,some<|.str lets,some<|.int<|1+b % 8,some<|.int<|b / 8 % (1+b % 8),some<|.ref l,some<|.int<|0+(i:Int),some<|.str<|aK b i,v3,v4]) (λR qq=>?_) (λhc=>?_) (λhc=>bg ⟨rfl,?_⟩) ?_
   ·refine eB gK<|aS cE<|ae 0<|aA ⟨_,_,rfl,rfl,(by show(0:Int) < 3;decide),aA ⟨rfl,_,rfl,?_⟩⟩
    by_cases hc:b % 3=2
    ·rw [BW (show V.int (b % 3)=V.int 2 by rw [hc])];exact qq true (λ_=>hc) λh=>by cases h
    ·rw [BR λh=>hc<|V.int.inj h];exact qq false (λh=>by cases h) λ_=>hc
   ·have e0:0<=(0+(i:Int)) % 8:=Bq _ (by decide);have e1:(0+(i:Int)) % 8 < 8:=Bv _ (by decide);refine aQ 7 nd (aS Rt<|a8 GA<|ae 2<|aS cE<|aS d9<|aS fV<|ae 0<|aA ⟨_,_,rfl,rfl,⟨by decide,by decide⟩,aS fV<|ae 6<|aA ⟨_,_,rfl,rfl,⟨by decide,by decide⟩,_,_,rfl,rfl,aA ⟨_,_,rfl,rfl,(by show(0:Int) < 36;decide),lets,_,sgn<|b / 64+(0+(i:Int)) / 8,rfl,rfl,by decide +kernel,yl _,?_⟩⟩⟩);refine aS d9 (aA<|aS cE<|ae 6<|aA ⟨_,_,rfl,rfl,(by show(0:Int) < 8;decide),_,_,rfl,rfl,?_⟩);refine⟨_,_,rfl,rfl,by omega,by omega,?_,bg ⟨rfl,?_⟩⟩
    ·show 1 * _<=_;omega
    ·have e:Txt.mul ⟨#[sgn<|b / 64+(0+(i:Int)) / 8]⟩ (1+(0+(i:Int)) % 8)=aK b i:=by
      unfold aK;rw [BL hc,Dl]
     rw [<- e];rfl
   ·have e:nm b (b / 8 % (1+b % 8)) i (1+b % 8).toNat=aK b i:=by
     unfold aK;rw [BJ hc]
    rw [<- e]
   ·rintro σ' H' ⟨rfl,rfl⟩;refine hG<|kD<|ae 5 ⟨l,rfl,⟨_,aC⟩,ae 7 ⟨_,aC,?_,?_⟩⟩
    ·rw [Aa,ym];exact cn<|by omega
    ·rw [Ov];refine bg ⟨?_,_,_,_,_,rfl⟩;rw [uB];exact Uz
 ·rintro σ H3 ⟨rfl,u1,u2,u3,u4,rfl⟩;exact cf<|ae 5<|q l _ (a9 hl _) hl aC
theorem UJ{H:Hp}{d:Addr}{kvs:List (Key×V)}(h:H d=some (.dK kvs)):l9 K "dict" (.ref d) H:=Or.inr<|Or.inr<|Or.inl ⟨rfl,Or.inl ⟨kvs,h⟩⟩
abbrev NS:List Str:=["_law_rows","_law_seats_here","_law_r","_law_place"]
theorem gk:ao NS ["_law_rows"] (bm yO):=⟨rfl,rfl,rfl,by decide +kernel,rfl,by decide +kernel,by decide +kernel⟩
theorem UK{f:Addr}{fd:FuncData}(F:bM K "_law_seats" "_law_seats" yO f fd)(T:Txt mg):aI P w K mg base bH 1 f fd ["_law_rows"] uU:=by
 refine F.gb gk (λvs H Q E h=>?_) λb0 H vs Q E hr h=>?_
 ·obtain⟨R,as,n,rfl,_⟩:=h;rfl
 obtain⟨R,as,n,rfl,hR,hn,ht,q⟩:=h;have nd:=gk.nd;have bV:=hR.len;show Run _ _ _ [some<|.ref R,none,none,none] H;refine aQ 1 nd<|yg λd hd=>?_;refine i8 T.range (cI dC T.len CW<|ai<|ae 0<|aD ⟨R,_,rfl,.inl<|au.of<|a9 hd _ _ _ hR.lst,_,rfl,by omega,by rw [Aa];omega,?_⟩);rw [Aa,bV,By];refine i' (λr σ H3=>∃ kvs ks A u1 u2,aX H H3 d (aU<|n.take r) kvs ks A/\σ=[some<|.ref R,some<|.ref d,u1,u2]) ⟨_,_,_,_,_,aX.start hd,rfl⟩ ?_ ?_
 ·rintro r σ H3 hi ⟨kvs,ks,A',u1,u2,S,rfl⟩;rw [Dl];refine bz 2 nd ?_;obtain⟨a,ea,dL,et,el,er⟩:=(hR.same S.same).at hi;refine i8 T.range<|cI dC T.len CW<|ai<|a8 cu<|a8 cC<|ae 0<|ae 2 ⟨R,_,_,.ref a.1,rfl,rfl,au.of<|S.same _ _ hR.lst,dL,aA ⟨a.1,_,_,.ref a.2,rfl,rfl,aP.of et,rfl,aD ⟨a.2,_,rfl,.inl<|au.of el,_,rfl,by omega,?_,?_⟩⟩⟩
  ·have:(row n r).length<=1000:=by
    have h1:(row n r).length<=(ag n).length:=by
     exact hV n r
    omega
   rw [Aa];omega
  rw [Aa,By];refine i' (λp σ H4=>∃ kvs ks A u2,aX H H4 d (aU (n.take r)++aW r ((row n r).take p) 0) kvs ks A/\σ=[some<|.ref R,some<|.ref d,some<|.int (r:Int),u2]) ⟨kvs,ks,A',_,by simpa [aW] using S,rfl⟩ ?_ ?_
  ·rintro p σ H4 hp ⟨kvs,ks,A',u2,S,rfl⟩;rw [Dl];refine bz 3 nd ?_;obtain⟨a,ea,dL,et,el,er⟩:=(hR.same S.same).at hi;have hz:(row n r)[p]?=some (row n r)[p]:=Ab hp;generalize (row n r)[p]=z at hz;have next:aU (n.take r)++aW r ((row n r).take<|p+1) 0=(aU (n.take r)++aW r ((row n r).take p) 0)++[(z,(r,p))]:=by
    rw [kF hz,Ao]
   have hlen:kvs.length < sizeLine:=by
    have h1:ks.length<=1000:=by
     refine Cd (bK (b:=ag n) S.nodup λy hy=>?_) ht;have h2:=(S.mem y).mp hy;cases hA:A' y with
     | none=>rw [hA] at h2;cases h2
     | some pr=>
      obtain⟨a2,jh⟩:=pr;have h3:=S.some' y a2 jh hA;unfold bu at h3;obtain⟨x,hx⟩:=Do _ h3;obtain⟨⟨y2,e2⟩,hm,_⟩:=Aj.mp hx;rw [Da,DR] at hm;obtain⟨hm,rfl⟩:=hm;have:(y2,e2)∈aU n:=by
       rcases Aq.mp hm with hm | hm
       ·have q1:=aO.mp hm;refine aO.mpr ?_;have q2:=cT q1;unfold aJ row at q1 ⊢;rw [Bj] at q2;rwa [Dg<|by omega] at q1
       ·have q1:=bA.mp hm;refine aO.mpr ?_;unfold aJ;rw [q1.1];have q3:=q1.2.2;rw [QX] at q3;have q4:=(Ac.mp q3).1;rw [Bj] at q4;rwa [Dg<|by omega] at q3
      exact di<|aO.mp this
    have h2:=BZ List.length S.keys;rw [Aa,Aa] at h2;exact cn<|by omega
   refine hG<|kD<|yf PySem.F.plainAttrs_dict PySem.F.slot_dict_setdefault PySem.F.type_dict_setdefault SD<|ae 1 ⟨UJ S.dict,a8 cC<|a8 cu<|a8 cC<|ae 0<|ae 2 ⟨R,_,_,.ref a.1,rfl,rfl,au.of<|S.same _ _ hR.lst,dL,aA ⟨a.1,_,_,.ref a.2,rfl,rfl,aP.of et,rfl,ae 3 ⟨a.2,_,_,.str z,rfl,rfl,au.of el,yi hz,?_⟩⟩⟩⟩;refine eW<|aD ⟨Z0,λl0 ix=>?_⟩;have iC:d≠l0:=bD S.dict ix;refine⟨d,kvs,Sum.inr z,.ref l0,rfl,rfl,by rw [aw iC];exact S.dict,hlen,?_⟩;cases hA:A' z with
   | some pr=>
    obtain⟨a2,jh⟩:=pr;obtain⟨q1,q2,q3,q4⟩:=S.at' z a2 jh hA;have je:a2≠l0:=bD q3 ix;refine .inl ⟨.ref a2,by rw [S.val z,hA];rfl,a2,rfl,⟨_,by rw [aw je];exact q3⟩,?_⟩;refine eg<|ai<|ae 2<|ai<|ae 3<|aD ⟨Z2,λt iJ=>?_⟩;have uw:a2≠t:=λe=>by rw [<- e,aw je,q3] at iJ;cases iJ
    refine⟨jh.map V.ref,by rw [aw uw,aw je];exact q3,?_,?_⟩
    ·rw [Aa,q4.length];have h1:(bu (aU (n.take r)++aW r ((row n r).take p) 0) z).length<=100000:=by
      unfold bu;rw [Aa];refine Cd (QF _ _) ?_;rw [Af];have h2:(aU<|n.take r).length<=1000:=by
       have:=BZ List.length<|iB (n.take r) 0;rw [Aa] at this;unfold aU;rw [this];exact Cd (Iv n r) ht
      have h3:(aW r ((row n r).take p) 0).length<=1000:=by
       unfold aW;rw [Aa,List.length_zipIdx,Bj];have h1:(row n r).length<=(ag n).length:=by
        exact hV n r
       omega
      omega
     exact cn h1
    ·refine bg ⟨kvs,ks,(λy=>if y=z then some (a2,jh++[t]) else A' y),_,?_,rfl⟩;rw [next];exact S.old (e:=(r,p)) hA ix iJ
   | none=>
    refine .inr ⟨by rw [S.val z,hA];rfl,l0,rfl,⟨_,by rw [aw iC.symm];exact aC⟩,?_⟩;refine eg<|ai<|ae 2<|ai<|ae 3<|aD ⟨Z2,λt iJ=>?_⟩;have mL:l0≠t:=λe=>by rw [<- e,aw iC.symm,aC] at iJ;cases iJ
    refine⟨[],by rw [aw mL,aw iC.symm,aC],by show 0 < sizeLine;decide,?_⟩;refine bg ⟨putK kvs (Sum.inr z)<|.ref l0,ks++[z],(λy=>if y=z then some (l0,[t]) else A' y),_,?_,rfl⟩;rw [next];exact S.new (e:=(r,p)) hA ix iJ
  ·rintro σ H4 ⟨kvs,ks,A',u2,S,rfl⟩;refine bg ⟨kvs,ks,A',_,_,?_,rfl⟩;rw [mM hi];rwa [Bw] at S
 ·rintro σ H3 ⟨kvs,ks,A',u1,u2,S,rfl⟩;rw [Bw] at S;exact cf<|ae 1<|q d ks H3 S.same S.free S.whole
abbrev NO:List Str:=["_law_rows","_law_seats_here","_law_end","_law_pair"]
theorem gm:ao NO ["_law_rows","_law_seats_here","_law_end"] (bm yP):=⟨rfl,rfl,rfl,by decide +kernel,rfl,by decide +kernel,by decide +kernel⟩
theorem UL{f:Addr}{fd:FuncData}(F:bM K "_law_other" "_law_other" yP f fd)(T:Txt mg):aI P w K mg base bH 1 f fd ["_law_rows","_law_seats_here","_law_end"] uV:=by
 refine F.gb gm (λvs H Q E h=>?_) λb0 H vs Q E hr h=>?_
 ·obtain⟨R,d,t,as,n,ks,e,rfl,_⟩:=h;rfl
 obtain⟨R,d,t,as,n,ks,e,rfl,hR,hS,hT,ht,he,q⟩:=h;have nd:=gm.nd;have hu:=hr.iA;obtain⟨z,hz⟩:=af.mp he;have bn:=cT hz;obtain⟨a,ea,dL,et,el,er⟩:=hR.at bn;obtain⟨kvs,h1,h2,h3⟩:=hS.dict;obtain⟨pa,ts,v1,v2,v3⟩:=h3 z<|di hz;obtain⟨x,y,hp,Js,Jt⟩:=mJ hT hz;rw [hp] at v3;cases v3 with
 | cons x1 v3=>
 cases v3 with
 | cons y1 v3=>
 cases v3;rename_i tx ty;show Run _ _ _ [some<|.ref R,some<|.ref d,some<|.ref t,none] H;have kG:=hr.u1;refine aQ 3 nd<|fM kG<|ae 1<|a8 cC<|a8 cu<|a8 cC<|ae 0<|a8 cu<|ae 2<|aA ⟨t,_,_,.int (e.1:Int),rfl,rfl,aP.of ht,rfl,R,_,_,.ref a.1,rfl,rfl,au.of hR.lst,dL,aA ⟨a.1,_,_,.ref a.2,rfl,rfl,aP.of et,rfl,?_⟩⟩;refine a8 cu (ae 2<|aA ⟨t,_,_,.int (e.2:Int),rfl,rfl,aP.of ht,rfl,a.2,_,_,.str z,rfl,rfl,au.of el,yi hz,d,.ref pa,rfl,by rw [<- v1];exact aZ.k (k:=Sum.inr z) h1,?_⟩);show Run _ _ _ [some<|.ref R,some<|.ref d,some<|.ref t,some<|.ref pa] H;refine cf<|a8 cC<|ae 3<|qL Ik T.m9 JC<|ai<|qK (Sw hu)<|a8 cC<|ae 3<|aA ⟨pa,_,_,.ref tx,rfl,rfl,au.of v2,rfl,ae 2 ⟨1,_,by decide,S8 x1 ht,?_⟩⟩
 by_cases c:x=e
 ·rw [BW c];refine aD ⟨_,rfl,pa,[.ref tx,.ref ty],1,.ref ty,rfl,rfl,au.of v2,rfl,q ty ?_⟩;have e1:other n e=y:=by unfold other;simp only [hz,hp];simp [c]
  rw [e1];exact y1
 ·rw [BR c];refine aD ⟨_,rfl,pa,[.ref tx,.ref ty],0,.ref tx,rfl,rfl,au.of v2,rfl,q tx ?_⟩;have e1:other n e=x:=by unfold other;simp only [hz,hp];simp [c]
  rw [e1];exact x1
abbrev NT:List Str:=["_law_rows","_law_seats_here","_law_end","_law_turn","_law_other_here"]
theorem iK:ao NT ["_law_rows","_law_seats_here","_law_end","_law_turn"] (bm yQ):=⟨rfl,rfl,rfl,by decide +kernel,rfl,by decide +kernel,by decide +kernel⟩
theorem UM{f:Addr}{fd:FuncData}(F:bM K "_law_step" "_law_step" yQ f fd)(T:Txt mg)(G:aY P w K mg base 1 "_law_other" ["_law_rows","_law_seats_here","_law_end"] uV) :
  aI P w K mg base bH 2 f fd ["_law_rows","_law_seats_here","_law_end","_law_turn"] uW:=by
 refine F.gb iK (λvs H Q E h=>?_) λb0 H vs Q E hr h=>?_
 ·obtain⟨R,d,t,as,n,ks,e,c,rfl,_⟩:=h;rfl
 obtain⟨R,d,t,as,n,ks,e,c,rfl,hR,hS,hT,ht,he,q⟩:=h;have nd:=iK.nd;have ho:=cG hT he;obtain⟨z,hz⟩:=af.mp ho;have bn:=cT hz;have lZ:=fw hz;obtain⟨a,ea,dL,et,el,er⟩:=hR.at bn;show Run _ _ _ [some<|.ref R,some<|.ref d,some<|.ref t,some<|.int c,none] H;refine aQ 4 nd<|bN G hr<|ai<|ae 0<|ai<|ae 1<|ai<|ae 2<|aD ⟨R,d,t,as,n,ks,e,rfl,hR,hS,hT,ht,he,λu hu=>?_⟩;show Run _ _ _ [some<|.ref R,some<|.ref d,some<|.ref t,some<|.int c,some<|.ref u] H;refine cf<|eg<|ai<|a8 cu<|ae 4<|aA ⟨u,_,_,.int ((other n e).1:Int),rfl,rfl,aP.of hu,rfl,?_⟩;refine ai<|aS cE<|aS d9<|a8 cu<|ae 4<|aA ⟨u,_,_,.int ((other n e).2:Int),rfl,rfl,aP.of hu,rfl,ae 3 ⟨_,_,rfl,rfl,?_⟩⟩;refine cI dC T.len CW<|ai<|a8 cu<|a8 cC<|ae 0<|a8 cu<|ae 4<|aA ⟨u,_,_,.int ((other n e).1:Int),rfl,rfl,aP.of hu,rfl,R,_,_,.ref a.1,rfl,rfl,au.of hR.lst,dL,aA ⟨a.1,_,_,.ref a.2,rfl,rfl,aP.of et,rfl,aD ⟨a.2,_,rfl,.inl<|au.of el,?_⟩⟩⟩;rw [Aa];refine⟨_,_,rfl,rfl,by omega,aD ⟨Z2,λp hp=>?_⟩⟩;refine q p _ (a9 hp _) hp ?_;rw [aC];show some (HO.tup [.int ((other n e).1:Int),.int<|(((other n e).2:Int)+c) % ((row n (other n e).1).length:Int)])=some (HO.tup [.int ((other n e).1:Int),.int ((cN c n<|other n e).2:Int)]);rw [mV ho]
abbrev NF:List Str:=["_law_rows","_law_seats_here","_law_end","_law_face_here","_law_here"]
theorem iL:ao NF ["_law_rows","_law_seats_here","_law_end"] (bm yR):=⟨rfl,rfl,rfl,by decide +kernel,rfl,by decide +kernel,by decide +kernel⟩
def kP(n:Net)(e:Nt.End)(j:Nat):List Nt.End:=(List.range j).map λi=>it (step n) i e
theorem UN(n:Net)(e:Nt.End)(j:Nat):kP n e (j+1)=kP n e j++[it (step n) j e]:=by
 unfold kP;rw [Di,Ah];rfl
theorem UO{f:Addr}{fd:FuncData}(F:bM K "_law_face" "_law_face" yR f fd)(T:Txt mg)(G:aY P w K mg base 2 "_law_step" ["_law_rows","_law_seats_here","_law_end","_law_turn"] uW) :
  aI P w K mg base bH 3 f fd ["_law_rows","_law_seats_here","_law_end"] yY:=by
 refine F.gb iL (λvs H Q E h=>?_) λb0 H vs Q E hr h=>?_
 ·obtain⟨R,d,t,as,n,ks,e,rfl,_⟩:=h;rfl
 obtain⟨R,d,t,as,n,ks,e,rfl,hR,hS,hT,ht,he,hb,q⟩:=h;have nd:=iL.nd;have hu:=hr.iA;obtain⟨k,k0,k1,k2⟩:=yh (f:=step n) (S:=ends n) (λa ha=>mK hT ha) (λa ha b hb=>Iu hT ha hb) he;show Run _ _ _ [some<|.ref R,some<|.ref d,some<|.ref t,none,none] H;refine aQ 3 nd<|eW<|ai<|ae 2<|aD ⟨Z1,λl hl=>?_⟩;have g1:=a9 hl<|.lst [.ref t];refine aQ 4 nd<|bN G hr<|ai<|ae 0<|ai<|ae 1<|ai<|ae 2<|ai<|aA<|aD ⟨R,d,t,as,n,ks,e,1,rfl,hR.same g1,hS.same g1,hT,g1 _ _ ht,he,λu H1 s1 nu eu=>?_⟩;rw [<- uK hT he] at eu;show Run _ _ _ [some<|.ref R,some<|.ref d,some<|.ref t,some<|.ref l,some<|.ref u] H1;refine oS (λm σ H2=>∃(j:Nat) (ts:List Addr) (u:Addr),m=k - j/\0 < j/\j<=k/\ak H H2/\H2 l=some (.lst<|ts.map V.ref)/\Pd H2 ts (kP n e j)/\H2 u=some (Tp<|it (step n) j e)/\(∀ i,0 < i->i < j->it (step n) i e≠e)/\σ=[some<|.ref R,some<|.ref d,some<|.ref t,some<|.ref l,some<|.ref u])
  (m0:=k - 1) ⟨1,[t],u,rfl,Fg,k0,g1.trans s1,s1 _ _ aC,.cons (s1 _ _<|g1 _ _ ht) .nil,eu,λi h1 h2=>by omega,rfl⟩ ?_
 rintro m σ H2 ⟨j,ts,u,rfl,j0,j1,sH,el,ep,eu,hf,rfl⟩;refine eB (um hu) (ae 4<|ae 2 ⟨1,_,by decide,S9 eu<|sH _ _ ht,_,rfl,?_⟩);have pl:=ep.length;have ol:(kP n e j).length=j:=by unfold kP;simp
 by_cases c:it (step n) j e=e
 ·rw [BW c];refine b4 (cf<|ae 3<|q l ts (kP n e j) H2 sH hl el ep ⟨by omega,by omega,λi hi=>?_,by rw [ol];exact c,λi h1 h2=>hf i h1<|by omega⟩);unfold kP;rw [Ag,Cc<|by omega];rfl
 ·rw [BR c];have jk:j < k:=by
   rcases Ef j k with h | h
   ·exact h
   ·have:j=k:=by omega
    subst this;exact absurd k2 c
  refine bP (hG<|kD<|ae 3 ⟨l,rfl,⟨_,el⟩,ae 4 ⟨_,el,by rw [Aa];exact cn (by omega),?_⟩⟩);have s2:ak H (upd H2 l<|.lst<|ts.map V.ref++[.ref u]):=dJ sH hl;have kt:∀ b f,H2 b=some (Tp f)->(upd H2 l<|.lst<|ts.map V.ref++[.ref u]) b=some (Tp f):=λb f h=>by
   rw [aw<|qT h el];exact h
  have Ju:=kt u _ eu;refine aQ 4 nd<|bN G hr<|ai<|ae 0<|ai<|ae 1<|ai<|ae 4<|ai<|aA<|aD ⟨R,d,u,as,n,ks,it (step n) j e,1,rfl,hR.same s2,hS.same s2,hT,Ju,hU (λa ha=>mK hT ha) he j,λv H3 s3 nv ev=>?_⟩;rw [<- uK hT<|hU (λa ha=>mK hT ha) he j] at ev;refine bg ⟨k - (j+1),by omega,j+1,ts++[u],v,rfl,LK _,jk,s2.trans s3,?_,?_,ev,λi h1 h2=>?_,rfl⟩
  ·rw [Ah];exact s3 _ _ aC
  ·rw [UN];exact(ep.keep λb f h=>s3 _ _<|kt b f h).append<|.cons (s3 _ _ Ju) .nil
  ·rcases Nat.lt_succ_iff_lt_or_eq.mp h2 with h | h
   ·exact hf i h1 h
   ·rw [h];exact c
end
end Y3
namespace Nt
open PySem L2
theorem nh{n:Net}(T:aq n){e:End}(h:e∈ends n):∃ k,gg n e k/\k<=(ends n).length:=by
 obtain⟨k,k0,k1,k2⟩:=yh (f:=two n) (S:=ends n) (λa ha=>jO T ha) (λa ha b hb=>ra T ha hb) h;have aux:∀ m,∀ k,k<=m->0 < k->it (two n) k e=e->∃ j,j<=k/\gg n e j:=by
  intro m
  induction m with
  | zero=>intro k h1 h2;omega
  | succ m ih=>
   intro k h1 h2 h3
   by_cases c:∃ i,0 < i/\i < k/\it (two n) i e=e
   ·obtain⟨i,i1,i2,i3⟩:=c;obtain⟨j,j1,j2⟩:=ih i (by omega) i1 i3;exact⟨j,by omega,j2⟩
   ·exact⟨k,Al _,h2,h3,λi i1 i2 i3=>c ⟨i,i1,i2,i3⟩⟩
 obtain⟨j,j1,j2⟩:=aux k k (Al _) k0 k2;exact⟨j,j2,by omega⟩
theorem UP{n:Net}(T:aq n){e:End}(h:e∈ends n):iI n (walker n e):=by
 obtain⟨k,p,hk⟩:=nh T h;unfold walker;rw [rg p];exact Ux T h p hk
theorem rk{n:Net}(T:aq n):∀(es:List End) (told:List Str),(∀ e∈es,e∈ends n)->∀ w∈cK n es told,iI n w
 | [],_,_,w,hw=>by cases hw
 | e :: r,told,h,w,hw=>by
  unfold cK at hw
  split at hw
  ·exact rk T r told (λa ha=>h a<|Ae _ ha) w hw
  ·rcases Ai.mp hw with rfl | hw
   ·exact UP T<|h e<|Ad ..
   ·exact rk T r _ (λa ha=>h a<|Ae _ ha) w hw
end Nt
namespace Nt
variable{α β:Type}
def fB(f:α->α):List α->α->α->Prop
 | [],a,b=>a=b
 | x :: l,a,b=>x=a/\fB f l (f x) b
theorem bR{f:α->α}:∀{l k:List α} {a b:α},fB f (l++k) a b↔∃ c,fB f l a c/\fB f k c b
 | [],k,a,b=>⟨λh=>⟨a,rfl,h⟩,λ⟨c,e,h⟩=>by cases e;exact h⟩
 | x :: l,k,a,b=>by
  show(x=a/\fB f (l++k) (f x) b)↔∃ c,(x=a/\fB f l (f x) c)/\fB f k c b;rw [bR];exact⟨λ⟨e,c,h1,h2⟩=>⟨c,⟨e,h1⟩,h2⟩,λ⟨c,⟨e,h1⟩,h2⟩=>⟨e,c,h1,h2⟩⟩
theorem yZ{f:α->α}{f':β->β}{g:α->β}:∀{l:List α} {a b:α},(∀ x∈l,f' (g x)=g (f x))->fB f l a b->fB f' (l.map g) (g a) (g b)
 | [],_,_,_,h=>BZ g h
 | x :: l,a,b,hg,h=>⟨BZ g h.1,by rw [hg x Ad];exact yZ (λy hy=>hg y<|Ae _ hy) h.2⟩
theorem uX{f:α->α}:∀{l:List α} {x a b y:α},fB f (x :: l) a b->y∈x :: l->f y∈l\/f y=b
 | [],x,a,b,y,h,hy=>by
  rw [Am] at hy;subst hy;exact .inr h.2
 | z :: l,x,a,b,y,h,hy=>by
  rcases Ai.mp hy with rfl | hy
  ·exact .inl<|by rw [<- h.2.1];exact Ad
  ·rcases uX h.2 hy with q | q
   ·exact .inl<|Ae _ q
   ·exact .inr q
theorem y4{f:α->α}{l:List α}{a y:α}(h:fB f l a a)(ha:a∈l)(hy:y∈l):f y∈l:=by
 cases l with
 | nil=>cases hy
 | cons x l=>
  rcases uX h hy with q | q
  ·exact Ae _ q
  ·rw [q];exact ha
theorem uY{f:α->α}{f':β->β}{g:α->β}{c:α}{h:β}:∀{l:List α} {x:α},(∀ y∈x :: l,f y=c->f' (g y)=h)->(∀ y∈x :: l,f y≠c->f' (g y)=g (f y))->c∉l->fB f (x :: l) x c->fB f' ((x :: l).map g) (g x) h
 | [],x,h1,_,_,p=>⟨rfl,h1 x Ad p.2⟩
 | y :: l,x,h1,h2,hc,p=>by
  have e:y=f x:=p.2.1;have ne:f x≠c:=λq=>hc (by rw [<- q,<- e];exact Ad);refine⟨rfl,?_⟩;rw [h2 x Ad ne,<- e];refine uY (λz hz=>h1 z<|Ae _ hz) (λz hz=>h2 z<|Ae _ hz) (λq=>hc<|Ae _ q) ?_;exact⟨rfl,p.2.2⟩
structure Dec(f:α->α)(D:List α)(Ls:List<|List α):Prop where
 iM:∀ l∈Ls,∃ a,a∈l/\fB f l a a
 all:Ls.flatten.Perm D
 nd:D.Nodup
theorem Dec.sub{f:α->α}{D:List α}{Ls:List (List α)}(d:Dec f D Ls){l:List α}(hl:l∈Ls){x:α}(hx:x∈l):x∈D:=
 d.all.mem_iff.mp (Fj.mpr ⟨l,hl,hx⟩)
theorem Dec.pick{f:α->α}{D:List α}{Ls:List (List α)}(d:Dec f D Ls){c:α}(hc:c∈D):∃ l Ms,Ls.length=Ms.length+1/\Dec f D ((c :: l) :: Ms):=by
 obtain⟨l,hl,mO⟩:=Fj.mp<|d.all.mem_iff.mpr hc;obtain⟨A,B,rfl⟩:=Fq hl;obtain⟨p,q,rfl⟩:=Fq mO;obtain⟨a,ha,h⟩:=d.iM _ hl;obtain⟨m,h1,h2⟩:=bR.mp h;have e:c=m:=h2.1;subst e;refine⟨q++p,A++B,by simp [Nat.add_assoc],λk hk=>?_,?_,d.nd⟩
 ·rcases Ai.mp hk with rfl | hk
  ·exact⟨c,Ad,bR (l:=c :: q).mpr ⟨a,h2,h1⟩⟩
  ·refine d.iM k ?_
   rcases Aq.mp hk with q | q
   ·exact Aw _ q
   ·exact Ap _<|Ae _ q
 ·refine List.Perm.trans ?_ d.all;simp only [Cw,Fn,Fi];have e1:(c :: (q++p)).Perm (p++c :: q):=by
   rw [<- Fi];exact Bx
  refine((e1.append_right _).trans ?_);rw [<- Ao,<- Ao];exact(Bx).append_right _
theorem Dec.apart{f:α->α}{D:List α}{l:List α}{Ms:List (List α)}(d:Dec f D<|l :: Ms):l.Nodup/\∀ m∈Ms,∀ x∈l,x∉m:=by
 have h:=d.all.nodup_iff.mpr d.nd;rw [Cw,Bu] at h;exact⟨h.1,λm hm x hx UQ=>h.2.2 x hx x (Fj.mpr ⟨m,hm,UQ⟩) rfl⟩
theorem uZ{g:α->β}:∀(Ls:List<|List α),(Ls.map<|List.map g).flatten=Ls.flatten.map g
 | []=>rfl
 | l :: Ls=>by rw [Au,Cw,uZ Ls,Cw,Ah]
theorem Dec.rest{f:α->α}{f':β->β}{g:α->β}{D:List α}{l:List α}{Ms:List (List α)}(d:Dec f D<|l :: Ms)(ho:∀ x∈D,f x∉l->f' (g x)=g (f x)):∀ m∈Ms.map (List.map g),∃ a,a∈m/\fB f' m a a:=by
 intro m hm;obtain⟨k,hk,rfl⟩:=Aj.mp hm;obtain⟨a,ha,p⟩:=d.iM k<|Ae _ hk;refine⟨g a,Aj.mpr ⟨a,ha,rfl⟩,yZ (λx hx=>ho x (d.sub (Ae _ hk) hx) λq=>?_) p⟩;exact d.apart.2 k hk _ q<|y4 p ha hx
theorem Dec.grow{f:α->α}{f':β->β}{g:α->β}{D:List α}{c:α}{l:List α}{Ms:List (List α)}(d:Dec f D<|(c :: l) :: Ms){new:List β}{h:β}(hn:fB f' new h<|g c)(hh:∀ x∈D,f x=c->f' (g x)=h)(ho:∀ x∈D,f x≠c->f' (g x)=g (f x))(nd:(D.map g++new).Nodup) :
  Dec f' (D.map g++new) (((c :: l).map g++new) :: Ms.map (List.map g)):=by
 have ap:=d.apart;have mO:c∉l:=(Bd.mp ap.1).1;refine⟨λk hk=>?_,?_,nd⟩
 ·rcases Ai.mp hk with rfl | hk
  ·obtain⟨a,ha,p⟩:=d.iM _ Ad;have e:c=a:=p.1;subst e;exact⟨g c,Aw _ Ad,bR.mpr ⟨h,uY (λy hy=>hh y<|d.sub Ad hy) (λy hy=>ho y<|d.sub Ad hy) mO p,hn⟩⟩
  ·exact d.rest (λx hx q=>ho x hx λe=>q<|by rw [e];exact Ad) k hk
 ·rw [Cw,uZ];have:=d.all.map g;rw [Cw,Ah] at this;refine List.Perm.trans ?_<|this.append_right new;rw [Ao,Ao];exact(Bx).append_left _
theorem Dec.split{f:α->α}{f':β->β}{g:α->β}{D:List α}{c d0:α}{l:List α}{Ms:List (List α)}(d:Dec f D<|(c :: l) :: Ms)(hd:d0∈l){e1 e2:β}(h1:f' e1=g d0)(h2:f' e2=g c)(hc:∀ x∈D,f x=c->f' (g x)=e1)(UR:∀ x∈D,f x=d0->f' (g x)=e2)(ho:∀ x∈D,f x≠c->f x≠d0->f' (g x)=g (f x))(nd:(D.map g++[e1,e2]).Nodup) :
  ∃ Ls,Ls.length=Ms.length+2/\Dec f' (D.map g++[e1,e2]) Ls/\∃ l∈Ls,e2∈l/\e1∉l:=by
 have ap:=d.apart;obtain⟨p,q,rfl⟩:=Fq hd;have y7:=Bd.mp ap.1;have Jv:=Bu.mp y7.2;have UT:=Bd.mp Jv.2.1;have UU:d0∉p:=λx=>Jv.2.2 d0 x d0 Ad rfl;have UW:c∉p:=λx=>y7.1<|Aw _ x;have UX:c∉q:=λx=>y7.1<|Ap _<|Ae _ x;obtain⟨a,ha,pp⟩:=d.iM _ Ad;have e:c=a:=pp.1;subst e;obtain⟨m,p1,p2⟩:=(bR (l:=c :: p)).mp pp;have e:d0=m:=p2.1;subst e;have inD:∀ y∈c :: p,y∈D:=λy hy=>d.sub Ad (by
  rcases Ai.mp hy with rfl | hy
  ·exact Ad
  ·exact Ae _<|Aw _ hy)
 have rm:∀ y∈d0 :: q,y∈D:=λy hy=>d.sub Ad<|Ae _<|Ap _ hy;have Jw:=Bu.mp nd;have UY:e1≠e2:=λe=>by
  have:=Jw.2.1;rw [e] at this;simp at this
 refine⟨((c :: p).map g++[e2]) :: ((d0 :: q).map g++[e1]) :: Ms.map (List.map g),by simp,⟨λk hk=>?_,?_,nd⟩,_,Ad,Ap _<|Am.mpr rfl,λh=>?_⟩
 ·rcases Ai.mp hk with rfl | hk
  ·refine⟨g c,Aw _ Ad,bR.mpr ⟨e2,uY (λy hy=>UR y<|inD y hy) (λy hy ne=>ho y (inD y hy) (λec=>?_) ne) UU p1,rfl,h2⟩⟩
   rcases uX p1 hy with z | z
   ·exact UW<|by rw [<- ec];exact z
   ·exact ne z
  ·rcases Ai.mp hk with rfl | hk
   ·refine⟨g d0,Aw _ Ad,bR.mpr ⟨e1,uY (λy hy=>hc y<|rm y hy) (λy hy ne=>ho y (rm y hy) ne λec=>?_) UX p2,rfl,h1⟩⟩
    rcases uX p2 hy with z | z
    ·exact UT.1<|by rw [<- ec];exact z
    ·exact ne z
   ·exact d.rest (λx hx q=>ho x hx (λe=>q<|by rw [e];exact Ad) λe=>q<|by rw [e];exact Ae _<|Ap _ Ad) k hk
 ·simp only [Cw,uZ];have:=d.all.map g;rw [Cw,Ah,<- Fi,Ah] at this;refine List.Perm.trans ?_<|this.append_right [e1,e2];generalize (c :: p).map g=A;generalize (d0 :: q).map g=B;generalize Ms.flatten.map g=C
  letI:DecidableEq β:=λa b=>Classical.propDecidable<|a=b
  rw [List.perm_iff_count];intro z;simp only [Eh,Cr,List.count_nil];omega
 ·rcases Aq.mp h with h | h
  ·obtain⟨y,hy,e⟩:=Aj.mp h;exact Jw.2.2 e1 (Aj.mpr ⟨y,inD y hy,e⟩) e1 Ad rfl
  ·exact UY<|Am.mp h
theorem Dec.more{f:β->β}{D:List β}{Ls:List (List β)}(d:Dec f D Ls){b:β}(hb:f b=b)(nd:(D++[b]).Nodup):Dec f (D++[b]) (Ls++[[b]]):=by
 refine⟨λl hl=>?_,?_,nd⟩
 ·rcases Aq.mp hl with h | h
  ·exact d.iM l h
  ·rw [Am] at h;subst h;exact⟨b,Ad,rfl,hb⟩
 ·rw [Fn];exact d.all.append_right _
theorem Dec.carry{f:α->α}{f':β->β}{g:α->β}{D:List α}{D':List β}{Ls:List (List α)}(d:Dec f D Ls)(ho:∀ x∈D,f' (g x)=g (f x))(hD:(D.map g).Perm D')(nd:D'.Nodup):Dec f' D' (Ls.map<|List.map g):=by
 refine⟨λm hm=>?_,?_,nd⟩
 ·obtain⟨k,hk,rfl⟩:=Aj.mp hm;obtain⟨a,ha,p⟩:=d.iM k hk;exact⟨g a,Aj.mpr ⟨a,ha,rfl⟩,yZ (λx hx=>ho x<|d.sub hk hx) p⟩
 ·rw [uZ];exact(d.all.map g).trans hD
open PySem
theorem rp{α:Type} [DecidableEq α]:∀{a b:List α},a.Nodup->(∀ z∈a,z∈b)->b.length<=a.length->a.Perm b
 | [],b,_,_,hl=>by
  have:b=[]:=Bh.mp<|Nat.le_zero.mp hl;rw [this]
 | x :: a,b,nd,sub,hl=>by
  have Jx:=Bd.mp nd;have hx:=sub x Ad;have pb:=Cy hx;refine List.Perm.trans ((rp Jx.2 (λz hz=>?_) ?_).cons x) pb.symm
  ·exact(Du λe=>Jx.1<|by rw [<- e];exact hz).mpr<|sub z<|Ae _ hz
  ·have:=pb.length_eq;rw [An] at this hl;omega
theorem iN{n:Net}(T:aq n){a b:End}{z:Str}(ha:aJ n a=some z)(hb:aJ n b=some z)(ne:a≠b):other n a=b:=by
 obtain⟨h1,_,h3⟩:=cF T ha;obtain⟨p,q,e,_,_⟩:=mJ T ha;have m1:=aF.mpr ha;have m2:=aF.mpr hb;have m3:=aF.mpr h1;rw [e] at m1 m2 m3;simp only [Ai,Bk,DQ] at m1 m2 m3
 rcases m1 with rfl | rfl <;> rcases m2 with rfl | rfl <;> rcases m3 with m3 | m3 <;> first | exact m3 | exact absurd rfl ne | exact absurd m3 h3
def sh(c e:End):End:=if e.1=c.1/\c.2<=e.2 then(e.1,e.2+1) else e
theorem jP(c e:End):(sh c e).1=e.1:=by unfold sh;split <;> rfl
theorem kQ{c a b:End}(h:sh c a=sh c b):a=b:=by
 have h1:a.1=b.1:=by rw [<- jP c a,h,jP]
 have h2:=BZ Prod.snd h;unfold sh at h2;refine FJ h1 ?_
 by_cases x:a.1=c.1/\c.2<=a.2
 ·rw [BL x] at h2
  by_cases y:b.1=c.1/\c.2<=b.2
  ·rw [BL y] at h2;exact Nat.succ.inj h2
  ·rw [BJ y] at h2;have h2:a.2+1=b.2:=h2;exact absurd ⟨h1 ▸ x.1,by omega⟩ y
 ·rw [BJ x] at h2
  by_cases y:b.1=c.1/\c.2<=b.2
  ·rw [BL y] at h2;have h2:a.2=b.2+1:=h2;exact absurd ⟨h1 ▸ y.1,by omega⟩ x
  ·rw [BJ y] at h2;exact h2
theorem kR(c e:End):sh c e≠c:=by
 intro h;have h1:e.1=c.1:=by rw [<- jP c e,h]
 have h2:=BZ Prod.snd h;unfold sh at h2
 by_cases x:e.1=c.1/\c.2<=e.2
 ·rw [BL x] at h2;have h2:e.2+1=c.2:=h2;omega
 ·rw [BJ x] at h2;exact x ⟨h1,by omega⟩
section
variable{n:Net}{c:End}{z:Str}
theorem oZ(hc:c.1 < n.length)(hp:c.2<=(row n c.1).length)(i:Nat):(row (ins n c z) i).length=if c.1=i then(row n i).length+1 else(row n i).length:=by
 rw [oV n c z i hc]
 by_cases h:c.1=i
 ·subst h;rw [BL rfl,BL rfl,Af,An,Bj,Cp];omega
 ·rw [BJ h,BJ h]
theorem y8(hc:c.1 < n.length)(hp:c.2<=(row n c.1).length):aJ (ins n c z) c=some z:=by
 unfold aJ;rw [oV n c z c.1 hc,BL rfl,Az (by rw [Bj];omega),Bj,show c.2 - min c.2 (row n c.1).length=0 by omega];rfl
theorem o6(hc:c.1 < n.length)(hp:c.2<=(row n c.1).length)(e:End):aJ (ins n c z) (sh c e)=aJ n e:=by
 unfold aJ;rw [jP,oV n c z e.1 hc];unfold sh
 by_cases h:c.1=e.1
 ·rw [BL h]
  by_cases k:c.2<=e.2
  ·rw [BL ⟨h.symm,k⟩,Az (by rw [Bj];show _<=e.2+1;omega),Bj];show(z :: (row n e.1).drop c.2)[e.2+1 - min c.2 (row n e.1).length]?=_;rw [<- h,show e.2+1 - min c.2 (row n c.1).length=(e.2 - c.2)+1 by omega,Ch,Fr,show c.2+(e.2 - c.2)=e.2 by omega]
  ·rw [BJ λq=>k q.2,Av (by rw [Bj,<- h];omega),Dg<|by omega]
 ·rw [BJ h,BJ λq=>h q.1.symm]
theorem kS(hc:c.1 < n.length)(hp:c.2 < (row n c.1).length):left (ins n c z) c=sh c c:=by
 unfold left sh;rw [oZ hc<|Cl hp,BL rfl,BL ⟨rfl,Al _⟩,Bs<|by omega]
theorem gn(hc:c.1 < n.length)(hp:c.2 < (row n c.1).length){e:End}(he:e.2 < (row n e.1).length):left (ins n c z) (sh c e)=if left n e=c then c else sh c (left n e):=by
 by_cases h:c.1=e.1
 ·have e1:(left n e).1=e.1:=rfl;have e2:(left n e).2=(e.2+1) % (row n e.1).length:=rfl;have q:(left n e=c)↔(e.2+1) % (row n e.1).length=c.2:=⟨λx=>by rw [<- e2,x],λx=>FJ h.symm x⟩;have L:(left (ins n c z) (sh c e))=(e.1,((sh c e).2+1) % ((row n e.1).length+1)):=by
   unfold left;rw [jP,oZ hc<|Cl hp,BL h]
  rw [L];rw [h] at hp;have S:(sh c e).2=if c.2<=e.2 then e.2+1 else e.2:=by
   unfold sh
   by_cases k:c.2<=e.2
   ·rw [BL ⟨h.symm,k⟩,BL k]
   ·rw [BJ λq=>k q.2,BJ k]
  have S2:sh c (left n e)=(e.1,if c.2<=(e.2+1) % (row n e.1).length then(e.2+1) % (row n e.1).length+1 else(e.2+1) % (row n e.1).length):=by
   unfold sh
   by_cases k:c.2<=(e.2+1) % (row n e.1).length
   ·rw [BL ⟨h.symm,k⟩,BL k];rfl
   ·rw [BJ λq=>k q.2,BJ k];rfl
  rw [S,S2];generalize (row n e.1).length=m at *
  by_cases k:e.2+1 < m
  ·rw [Bs k] at q ⊢
   by_cases j:e.2+1=c.2
   ·rw [BL<|q.mpr j,BJ (by omega),Bs<|by omega];exact FJ h.symm j
   ·rw [BJ λx=>j<|q.mp x]
    by_cases i:c.2<=e.2
    ·rw [BL i,BL (by omega),Bs<|by omega]
    ·rw [BJ i,BJ (by omega),Bs<|by omega]
  ·have em:e.2+1=m:=by omega
   rw [em,Dy] at q ⊢;rw [BL (by omega),Dy]
   by_cases j:0=c.2
   ·rw [BL<|q.mpr j];exact FJ h.symm j
   ·rw [BJ λx=>j<|q.mp x,BJ<|by omega]
 ·have ne:left n e≠c:=λx=>h (by rw [<- x];rfl);rw [BJ ne];have s1:sh c e=e:=by unfold sh;rw [BJ λq=>h q.1.symm]
  have s2:sh c (left n e)=left n e:=by unfold sh;rw [BJ λq=>h q.1.symm]
  rw [s1,s2];unfold left;rw [oZ hc<|Cl hp,BJ h]
end
def Pl(n:Net):Prop:=(ag n=[]/\n.length=1)\/∃ Ls,Dec (step n) (ends n) Ls/\2 * (n.length+Ls.length)=(ag n).length+4
structure dz(n m:Net)(g:End->End)(e1 e2:End)(z:Str):Prop where
 cL:∀ e∈ends n,aJ m (g e)=aJ n e
 t1:aJ m e1=some z
 t2:aJ m e2=some z
 inj:∀ a b,g a=g b->a=b
 n1:∀ a∈ends n,g a≠e1
 n2:∀ a∈ends n,g a≠e2
 ne:e1≠e2
 len:(ag m).length=(ag n).length+2
section
variable{n m:Net}{g:End->End}{e1 e2:End}{z:Str}
theorem dz.nd(p:dz n m g e1 e2 z):((ends n).map g++[e1,e2]).Nodup:=by
 rw [Bu];refine⟨?_,?_,?_⟩
 ·exact(Fc.mpr<|(oU n).imp λ{a b} h e=>h<|p.inj a b e)
 ·simp [p.ne]
 ·rintro a ha b hb rfl;obtain⟨x,hx,rfl⟩:=Aj.mp ha;simp only [Ai,Bk,DQ] at hb
  rcases hb with h | h
  ·exact p.n1 x hx h
  ·exact p.n2 x hx h
theorem dz.perm(p:dz n m g e1 e2 z):((ends n).map g++[e1,e2]).Perm (ends m):=by
 refine rp p.nd (λa ha=>?_)<|by rw [iD,p.len,Af,Aa,iD];exact Al _
 rcases Aq.mp ha with h | h
 ·obtain⟨x,hx,rfl⟩:=Aj.mp h;obtain⟨y,hy⟩:=af.mp hx;exact af.mpr ⟨y,by rw [p.cL x hx];exact hy⟩
 ·simp only [Ai,Bk,DQ] at h
  rcases h with rfl | rfl
  ·exact af.mpr ⟨z,p.t1⟩
  ·exact af.mpr ⟨z,p.t2⟩
theorem dz.ji(p:dz n m g e1 e2 z)(T:aq n)(T':aq m){e:End}(he:e∈ends n):other m (g e)=g (other n e):=by
 obtain⟨y,hy⟩:=af.mp he;obtain⟨h1,_,h3⟩:=cF T hy;exact iN T' (by rw [p.cL e he];exact hy) (by rw [p.cL _<|af.mpr ⟨y,h1⟩];exact h1) λh=>h3 (p.inj _ _ h).symm
theorem dz.o1(p:dz n m g e1 e2 z)(T':aq m):other m e1=e2:=iN T' p.t1 p.t2 p.ne
theorem dz.o2(p:dz n m g e1 e2 z)(T':aq m):other m e2=e1:=iN T' p.t2 p.t1 p.ne.symm
theorem Dec.perm{α:Type}{f:α->α}{D D':List α}{Ls:List (List α)}(d:Dec f D Ls)(h:D.Perm D'):Dec f D' Ls:=⟨d.iM,d.all.trans h,h.nodup_iff.mp d.nd⟩
theorem Jy{α:Type}{f:α->α}{l:List α}(h:∀ x∈l,f x∈l){a:α}(ha:a∈l):∀ k,it f k a∈l:=λk=>hU h ha k
theorem Dec.one{α:Type}{f:α->α}{D:List α}{a b:α}{l:List α}{Ms:List (List α)}(d:Dec f D<|(a :: l) :: Ms)(hb:b∈D)(h:(∃ k,it f k a=b)\/∃ k,it f k b=a)(ne:b≠a):b∈l:=by
 have cl:∀ k∈(a :: l) :: Ms,∀ x∈k,f x∈k:=λk hk x hx=>by
  obtain⟨c,hc,p⟩:=d.iM k hk;exact y4 p hc hx
 have hm:b∈a :: l:=by
  rcases h with ⟨k,rfl⟩ | ⟨k,e⟩
  ·exact Jy (cl _ Ad) Ad k
  ·obtain⟨j,hj,Jz⟩:=Fj.mp<|d.all.mem_iff.mpr hb
   rcases Ai.mp hj with rfl | va
   ·exact Jz
   ·have:=Jy (cl j hj) Jz k;rw [e] at this;exact absurd this<|d.apart.2 j va a Ad
 rcases Ai.mp hm with h | h
 ·exact absurd h ne
 ·exact h
theorem UZ(p:dz n m g e1 e2 z)(T:aq n)(T':aq m)(hl:m.length=n.length){k1 k2:End}(h1:k1∈ends n)(h2:k2∈ends n)(ne:k2≠k1)(same:(∃ k,it (step n) k k1=k2)\/∃ k,it (step n) k k2=k1)
  (l1:left m e1=g k1) (l2:left m e2=g k2) (lf:∀ e∈ends n,left m (g e)=if left n e=k1 then e1 else if left n e=k2 then e2 else g (left n e)) (P:Pl n):Pl m:=by
 have st:∀ x∈ends n,step m (g x)=if step n x=k1 then e1 else if step n x=k2 then e2 else g (step n x):=λx hx=>by
  unfold step;rw [p.ji T T' hx];exact lf _<|cG T hx
 rcases P with ⟨e,_⟩ | ⟨Ls,d,eu⟩
 ·obtain⟨y,hy⟩:=af.mp h1;have:=di hy;rw [e] at this;cases this
 ·obtain⟨l,Ms,hL,d⟩:=d.pick h1;have hk:=d.one h2 same ne;obtain⟨JA,y9,d',_⟩:=d.split (f':=step m) (g:=g) hk (e1:=e1) (e2:=e2) (by unfold step;rw [p.o1 T'];exact l2) (by unfold step;rw [p.o2 T'];exact l1)
   (λx hx e=>by rw [st x hx,BL e]) (λx hx e=>by rw [st x hx,BJ (by rw [e];exact ne),BL e]) (λx hx a b=>by rw [st x hx,BJ a,BJ b]) p.nd
  refine .inr ⟨JA,d'.perm p.perm,?_⟩;have:=p.len;omega
theorem U0(p:dz n m g e1 e2 z)(T:aq n)(T':aq m)(hl:m.length=n.length){c:End}(h1:c∈ends n)
  (l1:left m e1=g c) (l2:left m e2=e1) (lf:∀ e∈ends n,left m (g e)=if left n e=c then e2 else g (left n e)) (P:Pl n):Pl m:=by
 have st:∀ x∈ends n,step m (g x)=if step n x=c then e2 else g (step n x):=λx hx=>by
  unfold step;rw [p.ji T T' hx];exact lf _<|cG T hx
 rcases P with ⟨e,_⟩ | ⟨Ls,d,eu⟩
 ·obtain⟨y,hy⟩:=af.mp h1;have:=di hy;rw [e] at this;cases this
 ·obtain⟨l,Ms,hL,d⟩:=d.pick h1;have nd:=p.nd;have kU:((ends n).map g++[e2]++[e1]).Nodup:=by
   rw [Ao];exact((List.Perm.swap e1 e2 []).append_left _).nodup_iff.mpr nd
  have d1:=d.grow (f':=step m) (g:=g) (new:=[e2]) (h:=e2) ⟨rfl,by unfold step;rw [p.o2 T'];exact l1⟩ (λx hx e=>by rw [st x hx,BL e]) (λx hx e=>by rw [st x hx,BJ e]) (Bu.mp kU).1;have d2:=d1.more (b:=e1) (by unfold step;rw [p.o1 T'];exact l2) kU;have pm:((ends n).map g++[e2]++[e1]).Perm (ends m):=by
   refine List.Perm.trans ?_ p.perm;rw [Ao];exact(List.Perm.swap e1 e2 []).append_left _
  refine .inr ⟨_,d2.perm pm,?_⟩;have:=p.len;simp only [Af,An,Aa,Gb];omega
theorem U1(p:dz n m g e1 e2 z)(T:aq n)(T':aq m)(hl:m.length=n.length+1){c:End}(h1:c∈ends n)
  (l1:left m e1=g c) (l2:left m e2=e2) (lf:∀ e∈ends n,left m (g e)=if left n e=c then e1 else g (left n e)) (P:Pl n):Pl m:=by
 have st:∀ x∈ends n,step m (g x)=if step n x=c then e1 else g (step n x):=λx hx=>by
  unfold step;rw [p.ji T T' hx];exact lf _<|cG T hx
 rcases P with ⟨e,_⟩ | ⟨Ls,d,eu⟩
 ·obtain⟨y,hy⟩:=af.mp h1;have:=di hy;rw [e] at this;cases this
 ·obtain⟨l,Ms,hL,d⟩:=d.pick h1;have s1:step m e1=e2:=by unfold step;rw [p.o1 T'];exact l2
  have s2:step m e2=g c:=by unfold step;rw [p.o2 T'];exact l1
  have d1:=d.grow (f':=step m) (g:=g) (new:=[e1,e2]) (h:=e1) ⟨rfl,by rw [s1];exact⟨rfl,s2⟩⟩ (λx hx e=>by rw [st x hx,BL e]) (λx hx e=>by rw [st x hx,BJ e]) p.nd;refine .inr ⟨_,d1.perm p.perm,?_⟩;have:=p.len;simp only [An,Aa];omega
end
theorem dM{n:Net}{e:End}(h:e∈ends n):e.1 < n.length/\e.2 < (row n e.1).length:=by
 obtain⟨z,hz⟩:=af.mp h;exact⟨cT hz,fw hz⟩
section
variable{n:Net}{z:Str}
theorem JE{k1 k2:End}(h1:k1.1 < n.length/\k1.2<=(row n k1.1).length)(h2:k2.1 < n.length/\k2.2<=(row n k2.1).length):dz n (ins (ins n k1 z) k2 z) (λe=>sh k2<|sh k1 e) (sh k2 k1) k2 z:=by
 have c2:k2.1 < (ins n k1 z).length:=by rw [fA];exact h2.1
 have p2:k2.2<=(row (ins n k1 z) k2.1).length:=by
  rw [oZ h1.1 h1.2]
  split
  ·have:=h2.2;omega
  ·exact h2.2
 refine⟨λe _=>?_,?_,y8 c2 p2,λa b h=>kQ<|kQ h,λa _ h=>kR k1 a<|kQ h,λa _=>kR k2 _,kR k2 k1,?_⟩
 ·show aJ _ (sh k2<|sh k1 e)=_;rw [o6 c2 p2,o6 h1.1 h1.2]
 ·rw [o6 c2 p2];exact y8 h1.1 h1.2
 ·rw [(jf _ k2 z c2).length_eq,An,(jf _ k1 z h1.1).length_eq,An]
theorem U2{k1 k2:End}(T:aq n)(T':aq<|ins (ins n k1 z) k2 z)(h1:k1∈ends n)(h2:k2∈ends n)(ord:k2=k1\/sh k1 k2=k2)(same:(∃ k,it (step n) k k1=k2)\/∃ k,it (step n) k k2=k1)(P:Pl n):Pl (ins (ins n k1 z) k2 z):=by
 have r1:=dM h1;have r2:=dM h2;have p:=JE (z:=z) (k1:=k1) (k2:=k2) ⟨r1.1,Cl r1.2⟩ ⟨r2.1,Cl r2.2⟩;have c2:k2.1 < (ins n k1 z).length:=by rw [fA];exact r2.1
 have rl:∀ i,(row n i).length<=(row (ins n k1 z) i).length:=λi=>by
  rw [oZ r1.1<|Cl r1.2]
  split <;> omega
 have p2:k2.2 < (row (ins n k1 z) k2.1).length:=Bf r2.2<|rl _;have p1:k1.2 < (row (ins n k1 z) k1.1).length:=Bf r1.2<|rl _;have hl:(ins (ins n k1 z) k2 z).length=n.length:=by rw [fA,fA]
 have sl:∀ e∈ends n,(sh k1 e).2 < (row (ins n k1 z) (sh k1 e).1).length:=λe he=>by
  obtain⟨y,hy⟩:=af.mp he;exact fw (z:=y)<|by rw [o6 r1.1<|Cl r1.2];exact hy
 have l0:left (ins n k1 z) k1=sh k1 k1:=kS r1.1 r1.2
 by_cases e:k2=k1
 ·subst e;refine U0 p T T' hl h1 ?_ (kS c2 p2) (λe he=>?_) P
  ·rw [gn c2 p2 p1,l0,BJ<|kR _ _]
  ·show left _ (sh k2<|sh k2 e)=_;rw [gn c2 p2<|sl e he,gn r1.1 r1.2 (dM he).2]
   by_cases q:left n e=k2
   ·rw [BL q,BL rfl,BL q]
   ·rw [BJ q,BJ<|kR _ _,BJ q]
 ·have hs:sh k1 k2=k2:=ord.resolve_left e;refine UZ p T T' hl h1 h2 e same ?_ ?_ (λe' he=>?_) P
  ·rw [gn c2 p2 p1,l0,BJ λq=>e<|kQ (c:=k1)<|by rw [hs,q]]
  ·show left _ k2=sh k2 (sh k1 k2);rw [hs];exact kS c2 p2
  ·show left _ (sh k2<|sh k1 e')=if left n e'=k1 then sh k2 k1 else if left n e'=k2 then k2 else sh k2 (sh k1<|left n e');rw [gn c2 p2<|sl e' he,gn r1.1 r1.2 (dM he).2]
   by_cases q:left n e'=k1
   ·rw [BL q,BL q,BJ λx=>e x.symm]
   ·rw [BJ q,BJ q]
    by_cases q2:left n e'=k2
    ·rw [BL q2,q2,hs,BL rfl]
    ·rw [BJ q2,BJ λx=>q2<|kQ (c:=k1)<|by rw [x,hs]]
theorem kW{a b:Net}{i:Nat}(h:i < a.length):row (a++b) i=row a i:=by
 unfold row;rw [Av h]
theorem vb{a:Net}{x:Str×List Str}:row (a++[x]) a.length=x.2:=by
 unfold row;rw [Az<|Al _];simp
theorem JI{c:End}{pt:Str}(h1:c.1 < n.length/\c.2<=(row n c.1).length):dz n (ins n c z++[(pt,[z])]) (sh c) c (n.length,0) z:=by
 have la:∀ e:End,e.1 < n.length->aJ (ins n c z++[(pt,[z])]) e=aJ (ins n c z) e:=λe he=>by
  unfold aJ;rw [kW<|by rw [fA];exact he]
 refine⟨λe he=>?_,?_,?_,λa b h=>kQ h,λa _=>kR c a,λa ha h=>?_,λh=>?_,?_⟩
 ·rw [la _ (by rw [jP];exact(dM he).1),o6 h1.1 h1.2]
 ·rw [la _ h1.1,y8 h1.1 h1.2]
 ·unfold aJ;have:=vb (a:=ins n c z) (x:=(pt,[z]));rw [fA] at this;show(row _ n.length)[0]?=_;rw [this];rfl
 ·have:=(dM ha).1;rw [<- jP c a,h] at this;exact absurd this<|Dd _
 ·have:=h1.1;rw [h] at this;exact absurd this<|Dd _
 ·unfold ag;rw [Dm,Af];have:=(jf _ c z h1.1).length_eq;unfold ag at this;rw [this];rfl
theorem U3{c:End}{pt:Str}(T:aq n)(T':aq<|ins n c z++[(pt,[z])])(h1:c∈ends n)(P:Pl n):Pl (ins n c z++[(pt,[z])]):=by
 have r1:=dM h1;have p:=JI (z:=z) (c:=c) (pt:=pt) ⟨r1.1,Cl r1.2⟩;have la:∀ e:End,e.1 < n.length->left (ins n c z++[(pt,[z])]) e=left (ins n c z) e:=λe he=>by
  unfold left;rw [kW<|by rw [fA];exact he]
 refine U1 p T T' (by rw [Af,fA];rfl) h1 ?_ ?_ (λe he=>?_) P
 ·rw [la _ r1.1];exact kS r1.1 r1.2
 ·unfold left;have:=vb (a:=ins n c z) (x:=(pt,[z]));rw [fA] at this;show(n.length,(0+1) % (row _ n.length).length)=_;rw [this];exact BZ (Prod.mk _)<|Dy 1
 ·rw [la _<|by rw [jP];exact(dM he).1];exact gn r1.1 r1.2 (dM he).2
end
theorem JO{m:Net}{z:Str}{e1 e2:End}(T':aq m)(hE:ends m=[e1,e2])(t1:aJ m e1=some z)(t2:aJ m e2=some z)(ne:e1≠e2)
  (h:(m.length=2/\left m e1=e1/\left m e2=e2)\/(m.length=1/\left m e1=e2/\left m e2=e1)):Pl m:=by
 have o1:=iN T' t1 t2 ne;have o2:=iN T' t2 t1 ne.symm;have hl:(ag m).length=2:=by rw [<- iD,hE];rfl
 have nd:[e1,e2].Nodup:=by simp [ne]
 rcases h with ⟨hm,l1,l2⟩ | ⟨hm,l1,l2⟩
 ·refine .inr ⟨[[e1,e2]],?_,by rw [hm,hl];rfl⟩;rw [hE];refine⟨λl hl=>?_,List.Perm.refl _,nd⟩;rw [Am] at hl;subst hl;refine⟨e1,Ad,rfl,?_⟩;unfold step;rw [o1,l2];exact⟨rfl,by show left m (other m e2)=e1;rw [o2,l1]⟩
 ·refine .inr ⟨[[e1],[e2]],?_,by rw [hm,hl];rfl⟩;rw [hE];refine⟨λl hl=>?_,List.Perm.refl _,nd⟩;simp only [Ai,Bk,DQ] at hl
  rcases hl with rfl | rfl
  ·exact⟨e1,Ad,rfl,by show left m (other m e1)=e1;rw [o1,l2]⟩
  ·exact⟨e2,Ad,rfl,by show left m (other m e2)=e2;rw [o2,l1]⟩
theorem U4{nm pt z:Str}(T':aq [(nm,[z]),(pt,[z])]):Pl [(nm,[z]),(pt,[z])]:=
 JO (e1:=(0,0)) (e2:=(1,0)) (z:=z) T' rfl rfl rfl (by decide) (.inl ⟨rfl,by simp [left,row],by simp [left,row]⟩)
theorem U5{nm z:Str}(T':aq [(nm,[z,z])]):Pl [(nm,[z,z])]:=
 JO (e1:=(0,0)) (e2:=(0,1)) (z:=z) T' rfl rfl rfl (by decide) (.inr ⟨rfl,by simp [left,row],by simp [left,row]⟩)
theorem U6{n m:Net}{g:End->End}(T:aq n)(T':aq m)(hl:m.length=n.length)(ht:(ag m).length=(ag n).length)(cL:∀ e∈ends n,aJ m (g e)=aJ n e)(inj:∀ a∈ends n,∀ b∈ends n,g a=g b->a=b)
  (lf:∀ e∈ends n,left m (g e)=g (left n e)) (P:Pl n):Pl m:=by
 rcases P with ⟨e,h⟩ | ⟨Ls,d,eu⟩
 ·exact .inl ⟨Bh.mp (by rw [ht,e];rfl),by rw [hl,h]⟩
 ·have nd:((ends n).map g).Nodup:=by
   have:∀(l:List End),(∀ x∈l,x∈ends n)->l.Nodup->(l.map g).Nodup:=by
    intro l
    induction l with
    | nil=>intro _ _;exact Cf
    | cons x l ih=>
     intro hs h;have h:=Bd.mp h;rw [Au];refine Bd.mpr ⟨λhx=>?_,ih (λy hy=>hs y<|Ae _ hy) h.2⟩;obtain⟨y,hy,e⟩:=Aj.mp hx;have:=inj y (hs y<|Ae _ hy) x (hs x Ad) e;exact h.1<|this ▸ hy
   exact this _ (λx hx=>hx)<|oU n
  have pm:((ends n).map g).Perm (ends m):=by
   refine rp nd (λa ha=>?_) (by rw [Aa,iD,iD,ht];exact Al _);obtain⟨x,hx,rfl⟩:=Aj.mp ha;obtain⟨y,hy⟩:=af.mp hx;exact af.mpr ⟨y,by rw [cL x hx];exact hy⟩
  refine .inr ⟨_,d.carry (f':=step m) (g:=g) (λx hx=>?_) pm<|oU m,by rw [Aa,hl,ht];exact eu⟩;obtain⟨y,hy⟩:=af.mp hx;obtain⟨h1,_,h3⟩:=cF T hy;have ho:other n x∈ends n:=af.mpr ⟨y,h1⟩;have:other m (g x)=g (other n x):=iN T' (by rw [cL x hx];exact hy) (by rw [cL _ ho];exact h1) λh=>h3 (inj _ hx _ ho h).symm;unfold step;rw [this];exact lf _ ho
def kX(i len q:Nat):Nat:=if i<=q then q - i else q+len - i
def dj(N j i len:Nat)(e:End):End:=if e.1 < j then e else if e.1=j then(N - 1,kX i len e.2) else(e.1 - 1,e.2)
theorem JP{a:Net}{j:Nat}{x:Str×List Str}(hj:j < a.length)(r:Nat)(hr:r < a.length):row (a.eraseIdx j++[x]) (if r < j then r else if r=j then a.length - 1 else r - 1)=if r=j then x.2 else row a r:=by
 have le:(a.eraseIdx j).length=a.length - 1:=by rw [Ej,BL hj]
 by_cases h1:r < j
 ·rw [BL h1,BJ (by omega),kW<|by rw [le];omega];unfold row;rw [Fs,BL h1]
 ·rw [BJ h1]
  by_cases h2:r=j
  ·rw [BL h2,BL h2,<- le,vb]
  ·rw [BJ h2,BJ h2,kW<|by rw [le];omega];unfold row;rw [Fs,BJ (by omega),show r - 1+1=r by omega]
theorem U7{i len q:Nat}(hi:i < len)(hq:q < len):(kX i len q+1) % len=kX i len ((q+1) % len):=by
 unfold kX
 by_cases k:q+1 < len
 ·rw [Bs k]
  by_cases h:i<=q
  ·rw [BL h,BL (by omega),Bs<|by omega];omega
  ·rw [BJ h]
   by_cases h2:q+1=i
   ·rw [BL (by omega),show q+len - i+1=len by omega,Dy];omega
   ·rw [BJ (by omega),Bs<|by omega];omega
 ·have e:q+1=len:=by omega
  rw [e,Dy,BL<|by omega]
  by_cases h:i=0
  ·rw [BL (by omega),show q - i+1=len by omega,Dy];omega
  ·rw [BJ (by omega),Bs<|by omega];omega
theorem U8{l:List Str}{i q:Nat}(hi:i < l.length)(hq:q < l.length):(l.drop i++l.take i)[kX i l.length q]?=l[q]?:=by
 unfold kX
 by_cases h:i<=q
 ·rw [BL h,Av (by rw [Cp];omega),Fr,show i+(q - i)=q by omega]
 ·rw [BJ h,Az (by rw [Cp];omega),Cp,Dg (by omega),show q+l.length - i - (l.length - i)=q by omega]
theorem JS{a:Net}{j i:Nat}{x:Str}(hj:j < a.length)(hi:i < max 1 (row a j).length):∃ g:End->End,(∀ e∈ends a,aJ (a.eraseIdx j++[(x,(row a j).drop i++(row a j).take i)]) (g e)=aJ a e)/\(∀ b∈ends a,∀ c∈ends a,g b=g c->b=c) /\
  ∀ e∈ends a,left (a.eraseIdx j++[(x,(row a j).drop i++(row a j).take i)]) (g e)=g (left a e):=by
 have fst:∀ e:End,(dj a.length j i (row a j).length e).1=if e.1 < j then e.1 else if e.1=j then a.length - 1 else e.1 - 1:=λe=>by
  unfold dj
  by_cases h:e.1 < j
  ·rw [BL h,BL h]
  ·rw [BJ h,BJ h]
   by_cases h2:e.1=j
   ·rw [BL h2,BL h2]
   ·rw [BJ h2,BJ h2]
 have snd:∀ e:End,(dj a.length j i (row a j).length e).2=if e.1=j then kX i (row a j).length e.2 else e.2:=λe=>by
  unfold dj
  by_cases h:e.1 < j
  ·rw [BL h,BJ<|by omega]
  ·rw [BJ h]
   by_cases h2:e.1=j
   ·rw [BL h2,BL h2]
   ·rw [BJ h2,BJ h2]
 have JU:∀ e:End,e.1 < a.length->row (a.eraseIdx j++[(x,(row a j).drop i++(row a j).take i)]) (dj a.length j i (row a j).length e).1=if e.1=j then(row a j).drop i++(row a j).take i else row a e.1:=λe he=>by
  rw [fst,JP hj e.1 he]
 refine⟨dj a.length j i (row a j).length,λe he=>?_,λb hb c hc h=>?_,λe he=>?_⟩
 ·have r:=dM he;unfold aJ;rw [JU e r.1,snd]
  by_cases h:e.1=j
  ·rw [BL h,BL h,<- h,U8 (by have:=hi;rw [<- h] at this;omega) r.2]
  ·rw [BJ h,BJ h]
 ·have rb:=dM hb;have rc:=dM hc;have h1:=BZ Prod.fst h;have h2:=BZ Prod.snd h;rw [fst,fst] at h1;rw [snd,snd] at h2
  by_cases p:b.1=j
  ·by_cases q:c.1=j
   ·rw [BL p,BL q] at h2;refine FJ (by rw [p,q]) ?_;have rb:=rb.2;have rc:=rc.2;rw [p] at rb;rw [q] at rc;unfold kX at h2
    by_cases u:i<=b.2
    ·rw [BL u] at h2
     by_cases v:i<=c.2
     ·rw [BL v] at h2;omega
     ·rw [BJ v] at h2;omega
    ·rw [BJ u] at h2
     by_cases v:i<=c.2
     ·rw [BL v] at h2;omega
     ·rw [BJ v] at h2;omega
   ·exfalso
    rw [BJ (by omega),BL p] at h1;have:=rc.1
    by_cases u:c.1 < j
    ·rw [BL u] at h1;omega
    ·rw [BJ u,BJ q] at h1;omega
  ·by_cases q:c.1=j
   ·exfalso
    have:=rb.1;rw [BJ (show ¬ c.1 < j by omega),BL q] at h1
    by_cases u:b.1 < j
    ·rw [BL u] at h1;omega
    ·rw [BJ u,BJ p] at h1;omega
   ·rw [BJ p,BJ q] at h2;refine FJ ?_ h2;rw [BJ p,BJ q] at h1
    by_cases u:b.1 < j
    ·rw [BL u] at h1
     by_cases v:c.1 < j
     ·rw [BL v] at h1;exact h1
     ·rw [BJ v] at h1;omega
    ·rw [BJ u] at h1
     by_cases v:c.1 < j
     ·rw [BL v] at h1;omega
     ·rw [BJ v] at h1;omega
 ·have r:=dM he;have L1:(left a e).1=e.1:=rfl;have L2:(left a e).2=(e.2+1) % (row a e.1).length:=rfl;refine FJ ?_ ?_
  ·show(dj a.length j i (row a j).length e).1=(dj a.length j i (row a j).length<|left a e).1;rw [fst,fst,L1]
  ·show((dj a.length j i (row a j).length e).2+1) % (row _ (dj a.length j i (row a j).length e).1).length=(dj a.length j i (row a j).length<|left a e).2;rw [JU e r.1,snd,snd,L1,L2]
   by_cases h:e.1=j
   ·rw [BL h,BL h,BL h,Af,Cp,Bj];have r2:=r.2;rw [h] at r2 ⊢;rw [show(row a j).length - i+min i (row a j).length=(row a j).length by omega];exact U7 (by omega) r2
   ·rw [BJ h,BJ h,BJ h]
theorem U9{a:Net}{j i:Nat}{x:Str}(hj:j < a.length)(hi:i < max 1 (row a j).length)(T:aq a) (T':aq<|a.eraseIdx j++[(x,(row a j).drop i++(row a j).take i)])
  (ht:(ag<|a.eraseIdx j++[(x,(row a j).drop i++(row a j).take i)]).length=(ag a).length) (P:Pl a):Pl (a.eraseIdx j++[(x,(row a j).drop i++(row a j).take i)]):=by
 obtain⟨g,h1,h2,h3⟩:=JS (x:=x) hj hi;exact U6 (g:=g) T T' (by rw [Af,Ej,BL hj,Ck];omega) ht h1 h2 h3 P
theorem vd{n m:Net}{z:Str}(hp:(ag m).Perm<|z :: z :: ag n)(T:aq n)(hz:z∉ag n):aq m:=by
 intro y hy;rw [hp.count_eq,Cr,Cr]
 by_cases e:z=y
 ·subst e;rw [List.count_eq_zero.mpr hz];simp
 ·have hy:=hp.mem_iff.mp hy
  rcases Ai.mp hy with h | hy
  ·exact absurd h.symm e
  ·rcases Ai.mp hy with h | hy
   ·exact absurd h.symm e
   ·rw [T y hy];have:(z == y)=false:=by simpa using e
    rw [this];rfl
theorem o7{nm:Str}{c:End}(h:dD [(nm,[])] c):c=(0,0):=by
 obtain⟨h1,h2⟩:=h;have h1:c.1 < 1:=h1;have e:c.1=0:=by omega
 have h2:c.2 < max 1 (row [(nm,[])] c.1).length:=h2;rw [e] at h2;have h2:c.2 < 1:=h2;exact FJ e<|by show c.2=0;omega
theorem ve{n:Net}(F:Full n):(∃ nm,n=[(nm,[])])\/row n 0≠[]:=by
 rcases F with h | ⟨h1,h2⟩
 ·exact .inl h
 ·exact .inr<|h2 0<|Co.mpr h1
theorem U'{n:Net}{c:End}{z pt:Str}(T:aq n)(F:Full n)(hz:z∉ag n)(hc:dD n c) (hp:(ag<|ins n c z++[(pt,[z])]).Perm<|z :: z :: ag n) (P:Pl n):Pl (ins n c z++[(pt,[z])]):=by
 have T':=vd hp T hz
 rcases ve F with ⟨nm,rfl⟩ | h0
 ·have:=o7 hc;subst this;exact U4 T'
 ·exact U3 T T' (F.cg h0 hc) P
theorem Va{n:Net}{k1 k2:End}{z:Str}(T:aq n)(F:Full n)(hz:z∉ag n)(h1:dD n k1)(h2:dD n k2) (hp:(ag<|ins (ins n k1 z) k2 z).Perm<|z :: z :: ag n) (ord:k2=k1\/sh k1 k2=k2) (same:(∃ k,it (step n) k k1=k2)\/∃ k,it (step n) k k2=k1) (P:Pl n):Pl (ins (ins n k1 z) k2 z):=by
 have T':=vd hp T hz
 rcases ve F with ⟨nm,rfl⟩ | h0
 ·have:=o7 h1;subst this;have:=o7 h2;subst this;exact U5 T'
 ·exact U2 T T' (F.cg h0 h1) (F.cg h0 h2) ord same P
theorem Vb{a b:End}(h:bJ.lexLt ((a.1:Int),(a.2:Int)) ((b.1:Int),(b.2:Int))=true):sh b a=a:=by
 unfold bJ.lexLt at h;unfold sh;refine BJ λq=>?_;rw [BL<|by rw [q.1]] at h;have:=BX h;have q2:=q.2;omega
theorem Vc{a b:End}(h:bJ.lexLt ((a.1:Int),(a.2:Int)) ((b.1:Int),(b.2:Int))=false):b=a\/sh a b=b:=by
 unfold bJ.lexLt at h
 by_cases e:(a.1:Int)=(b.1:Int)
 ·rw [BL e] at h;have h:=GQ h
  by_cases e2:a.2=b.2
  ·exact .inl<|FJ (by omega) e2.symm
  ·refine .inr<|BJ λq=>?_;have q2:=q.2;have h:¬((a.2:Int) < (b.2:Int)):=h;omega
 ·exact .inr<|BJ λq=>e<|by rw [q.1]
theorem JY(a b:Net):ag (a++b)=ag a++ag b:=by
 unfold ag;rw [Dm]
theorem Vd{n n2 n0:Net}{j i:Nat}{x:Str}(hj:j < n.length)(hi:i < max 1 (row n j).length)(T0:aq n0)(pt:(ag n++ag n2).Perm<|ag n0)
  (eF:(ag (n.eraseIdx j)++ag (n2++[(x,(row n j).drop i++(row n j).take i)])).Perm<|ag n0) (P:Pl<|n++n2):Pl (n.eraseIdx j++(n2++[(x,(row n j).drop i++(row n j).take i)])):=by
 have tw:∀ m:Net,(ag m).Perm (ag n0)->aq m:=λm p y hy=>by rw [p.count_eq];exact T0 y<|p.mem_iff.mp hy
 rw [<- JY] at pt eF;have er:row (n++n2) j=row n j:=kW hj;have ee:n.eraseIdx j++(n2++[(x,(row n j).drop i++(row n j).take i)])=(n++n2).eraseIdx j++[(x,(row (n++n2) j).drop i++(row (n++n2) j).take i)]:=by
  rw [IW hj,Ao,er]
 rw [ee] at eF ⊢;exact U9 (by rw [Af];omega) (by rw [er];exact hi) (tw _ pt) (tw _ eF) (by rw [eF.length_eq,pt.length_eq]) P
end Nt
namespace Nt
theorem Ve{n:Net}{e c:End}{fs:List End}(f:dZ n e fs)(h:c∈fs):∃ k,it (step n) k e=c:=by
 obtain⟨i,hi,e1⟩:=Ce.mp h;have:=f.at' i hi;rw [Ab hi,e1] at this;exact⟨i,(Option.some.inj this).symm⟩
open PySem
def az:List Bool->Bool
 | []=>false
 | b :: l=>b ^^ az l
theorem nk:∀(a b:List Bool),az (a++b)=(az a ^^ az b)
 | [],b=>by simp [az]
 | x :: a,b=>by
  show(x ^^ az (a++b))=((x ^^ az a) ^^ az b);rw [nk a b,Bool.xor_assoc]
theorem Vf{a b:List Bool}(h:a.Perm b):az a=az b:=by
 induction h with
 | nil=>rfl
 | cons x _ ih=>show(x ^^ _)=(x ^^ _);rw [ih]
 | swap x y l=>show(y ^^ (x ^^ az l))=(x ^^ (y ^^ az l));cases x <;> cases y <;> simp
 | trans _ _ h1 h2=>exact h1.trans h2
theorem jj{α:Type}(f g:α->Bool):∀ l:List α,az (l.map λx=>f x ^^ g x)=(az (l.map f) ^^ az (l.map g))
 | []=>rfl
 | x :: l=>by
  show((f x ^^ g x) ^^ az (l.map λx=>f x ^^ g x))=((f x ^^ az (l.map f)) ^^ (g x ^^ az (l.map g)));rw [jj f g l];cases f x <;> cases g x <;> cases az (l.map f) <;> cases az (l.map g) <;> rfl
def cU(n:Net)(s:Str->Bool):Prop:=∀ r,az ((row n r).map s)=false
structure aT(n:Net)(s:Str->Bool)(χ:End->Bool):Prop where
 go:∀ e∈ends n,χ (step n e)=χ e
 cL:∀ e z,aJ n e=some z->s z=(χ e ^^ χ (other n e))
def RS(n:Net):Prop:=∀ s:Str->Bool,cU n s->∃ χ,aT n s χ
theorem J0(n:Net)(r:Nat)(s:Str->Bool)(g:End->Bool)(h:∀ p z,(row n r)[p]?=some z->s z=g (r,p)):(row n r).map s=(List.range (row n r).length).map λp=>g (r,p):=by
 apply Cv;intro p;rw [Ag,Ag]
 by_cases hp:p < (row n r).length
 ·rw [Ab hp,Cc hp];exact BZ some<|h p _<|Ab hp
 ·rw [Bc (by omega),Bc<|by simp;omega];rfl
theorem zb(f:Nat->Bool)(m:Nat):az ((List.range m).map λp=>f<|(p+1) % m)=az ((List.range m).map f):=by
 cases m with
 | zero=>rfl
 | succ k=>
  have e:(List.range<|k+1).map (λp=>f<|(p+1) % (k+1))=((List.range k).map λp=>f<|p+1)++[f 0]:=by
   rw [Di,Ah]
   congr 1
   ·refine Ay λp hp=>?_;have:=Ca.mp hp;show f ((p+1) % (k+1))=f (p+1);rw [Bs<|by omega]
   ·simp
  rw [e,Ft,Au,Bi,nk];show _=(f 0 ^^ az ((List.range k).map<|f ∘ Nat.succ));show(az ((List.range k).map λp=>f<|p+1) ^^ (f 0 ^^ false))=(f 0 ^^ az ((List.range k).map λp=>f<|p+1));cases f 0 <;> cases az ((List.range k).map λp=>f<|p+1) <;> rfl
theorem aT.even{n:Net}(T:aq n){s:Str->Bool}{χ:End->Bool}(h:aT n s χ):cU n s:=by
 intro r;rw [J0 n r s (λe=>χ e ^^ χ (other n e)) λp z hz=>h.cL (r,p) z hz];rw [jj (λp=>χ (r,p)) λp=>χ<|other n (r,p)];have e:((List.range (row n r).length).map λp=>χ<|other n (r,p))=(List.range (row n r).length).map λp=>χ (r,(p+1) % (row n r).length):=by
  refine Ay λp hp=>?_;have hp:=Ca.mp hp;obtain⟨z,hz⟩:=ut (n:=n) (e:=(r,p)) hp;obtain⟨h1,h2,_⟩:=cF T hz;have:=h.go (other n (r,p))<|af.mpr ⟨z,h1⟩;rw [<- this];show χ (left n (other n<|other n (r,p)))=_;rw [h2];rfl
 rw [e,zb λp=>χ (r,p)];cases az ((List.range (row n r).length).map λp=>χ (r,p)) <;> rfl
theorem aT.xor{n:Net}{s t:Str->Bool}{χ ψ:End->Bool}(h:aT n s χ)(g:aT n t ψ):aT n (λz=>s z ^^ t z) (λe=>χ e ^^ ψ e):=by
 refine⟨λe he=>?_,λe z hz=>?_⟩
 ·rw [h.go e he,g.go e he]
 ·show(s z ^^ t z)=((χ e ^^ ψ e) ^^ (χ (other n e) ^^ ψ (other n e)));rw [h.cL e z hz,g.cL e z hz];cases χ e <;> cases ψ e <;> cases χ (other n e) <;> cases ψ (other n e) <;> rfl
theorem cU.xor{n:Net}{s t:Str->Bool}(h:cU n s)(g:cU n t):cU n (λz=>s z ^^ t z):=λr=>by
 rw [jj s t,h r,g r];rfl
section
variable{n m:Net}{g:End->End}{e1 e2:End}{z:Str}
theorem dz.mark(p:dz n m g e1 e2 z)(χ:End->Bool)(a:Bool):∃ χ':End->Bool,(∀ e∈ends n,χ' (g e)=χ e)/\χ' e1=a/\χ' e2=a:=by
 refine⟨λx=>if x=e1 then a else if x=e2 then a else match (ends n).find? (λe=>decide (g e=x)) with | some e=>χ e | none=>false,λe he=>?_,?_,?_⟩
 ·show(if g e=e1 then a else if g e=e2 then a else match (ends n).find? (λe'=>decide (g e'=g e)) with | some e=>χ e | none=>false)=χ e;rw [BJ<|p.n1 e he,BJ<|p.n2 e he];cases hf:(ends n).find? (λe'=>decide (g e'=g e)) with
  | none=>exact absurd (BW (rfl:g e=g e))<|by simpa using List.find?_eq_none.mp hf e he
  | some e'=>
   have h5:=OD hf;have h5:g e'=g e:=BX h5;rw [p.inj _ _ h5]
 ·simp
 ·simp
theorem dz.iO(p:dz n m g e1 e2 z)(T:aq n)(T':aq m){s:Str->Bool}{χ:End->Bool}(h:aT n s χ)(hz:s z=false){a:Bool}
  (st:∀ x∈ends n,step m (g x)=g (step n x)\/((step m (g x)=e1\/step m (g x)=e2)/\χ (step n x)=a))
  (s1:step m e1=e1\/step m e1=e2\/∃ k∈ends n,step m e1=g k/\χ k=a) (s2:step m e2=e1\/step m e2=e2\/∃ k∈ends n,step m e2=g k/\χ k=a):∃ χ',aT m s χ':=by
 obtain⟨χ',h1,h2,h3⟩:=p.mark χ a;have iP:∀ x∈ends m,(∃ e∈ends n,x=g e)\/x=e1\/x=e2:=λx hx=>by
  have:=p.perm.mem_iff.mpr hx
  rcases Aq.mp this with q | q
  ·obtain⟨e,he,rfl⟩:=Aj.mp q;exact .inl ⟨e,he,rfl⟩
  ·simp only [Ai,Bk,DQ] at q;exact .inr q
 refine⟨χ',λx hx=>?_,λx y hy=>?_⟩
 ·rcases iP x hx with ⟨e,he,rfl⟩ | rfl | rfl
  ·rw [h1 e he]
   rcases st e he with q | ⟨q,qa⟩
   ·rw [q,h1 _<|mK T he,h.go e he]
   ·rw [h.go e he] at qa
    rcases q with q | q
    ·rw [q,h2,qa]
    ·rw [q,h3,qa]
  ·rcases s1 with q | q | ⟨k,hk,q,qa⟩
   ·rw [q]
   ·rw [q,h2,h3]
   ·rw [q,h1 k hk,h2,qa]
  ·rcases s2 with q | q | ⟨k,hk,q,qa⟩
   ·rw [q,h2,h3]
   ·rw [q]
   ·rw [q,h1 k hk,h3,qa]
 ·rcases iP x (af.mpr ⟨y,hy⟩) with ⟨e,he,rfl⟩ | rfl | rfl
  ·rw [p.cL e he] at hy;obtain⟨o1,_,_⟩:=cF T hy;rw [p.ji T T' he,h1 e he,h1 _<|af.mpr ⟨y,o1⟩];exact h.cL e y hy
  ·rw [p.t1] at hy;cases hy;rw [p.o1 T',h2,h3,hz];cases a <;> rfl
  ·rw [p.t2] at hy;cases hy;rw [p.o2 T',h2,h3,hz];cases a <;> rfl
theorem J1(T':aq m){ψ:End->Bool}(hψ:∀ e∈ends m,ψ (step m e)=ψ e)(t1:aJ m e1=some z)(ho:other m e1=e2)(ne:ψ e1≠ψ e2)(h0:∀ s,cU m s->s z=false->∃ χ,aT m s χ):RS m:=by
 intro s hs
 by_cases hz:s z=false
 ·exact h0 s hs hz
 ·have hz:s z=true:=by cases h:s z with | true=>rfl | false=>exact absurd h hz
  let t:Str->Bool:=λy=>match (ends m).find? (λe=>decide (aJ m e=some y)) with | some e=>ψ e ^^ ψ (other m e) | none=>false
  have ht:aT m t ψ:=by
   refine⟨hψ,λe y hy=>?_⟩;show(match (ends m).find? (λe=>decide (aJ m e=some y)) with | some e=>ψ e ^^ ψ (other m e) | none=>false)=_;cases hf:(ends m).find? (λe=>decide (aJ m e=some y)) with
   | none=>exact absurd (BW hy)<|by simpa using List.find?_eq_none.mp hf e (af.mpr ⟨y,hy⟩)
   | some e'=>
    have h5:=OD hf;have h':aJ m e'=some y:=BX h5
    by_cases q:e'=e
    ·rw [q]
    ·have o1:=iN T' h' hy q;have o2:=iN T' hy h'<|CG q;show(ψ e' ^^ ψ (other m e'))=_;rw [o1,o2];cases ψ e <;> cases ψ e' <;> rfl
  have tz:t z=true:=by
   rw [ht.cL e1 z t1,ho];cases h1:ψ e1 <;> cases h2:ψ e2 <;> simp_all
  obtain⟨χ,hχ⟩:=h0 (λy=>s y ^^ t y) (hs.xor<|ht.even T') (by show(s z ^^ t z)=false;rw [hz,tz];rfl);have:=hχ.xor ht;refine⟨λe=>χ e ^^ ψ e,this.go,λe y hy=>?_⟩;rw [<- this.cL e y hy];show s y=((s y ^^ t y) ^^ t y);cases s y <;> cases t y <;> rfl
theorem zc{n:Net}{c:End}{z:Str}(hc:c.1 < n.length){s:Str->Bool}(hz:s z=false)(r:Nat):az ((row (ins n c z) r).map s)=az ((row n r).map s):=by
 rw [oV n c z r hc]
 by_cases h:c.1=r
 ·rw [BL h,Ah,Au,nk];show(az (((row n r).take c.2).map s) ^^ (s z ^^ az (((row n r).drop c.2).map s)))=_;rw [hz,Ge,<- nk,<- Ah,Ct]
 ·rw [BJ h]
theorem Dec.mark{α:Type} [DecidableEq α] {f:α->α} {D:List α} {Ls:List (List α)} (d:Dec f D Ls) {l:List α} (hl:l∈Ls):∀ x∈D,(f x∈l↔x∈l):=by
 intro x hx;obtain⟨A,B,rfl⟩:=Fq hl;have d':Dec f D (l :: (A++B)):=⟨λk hk=>d.iM k (by
  rcases Ai.mp hk with rfl | hk
  ·exact hl
  ·rcases Aq.mp hk with q | q
   ·exact Aw _ q
   ·exact Ap _<|Ae _ q),by
  refine List.Perm.trans ?_ d.all;rw [Cw,Fn,Fn,Cw,<- Ao,<- Ao];exact(Bx).append_right _,d.nd⟩
 have cl:∀ k∈l :: (A++B),∀ x∈k,f x∈k:=λk hk x hx=>by
  obtain⟨c,hc,p⟩:=d'.iM k hk;exact y4 p hc hx
 by_cases h:x∈l
 ·exact⟨λ_=>h,λ_=>cl l Ad x h⟩
 ·refine⟨λq=>?_,λq=>absurd q h⟩
  exfalso
  obtain⟨k,hk,J2⟩:=Fj.mp<|d'.all.mem_iff.mpr hx
  rcases Ai.mp hk with rfl | jI
  ·exact h J2
  ·exact d'.apart.2 k jI _ q<|cl k hk x J2
theorem zf{s:Str->Bool}{χ:End->Bool}(T:aq n)(h:aT n s χ){a:End}(ha:a∈ends n):∀ k,χ (it (step n) k a)=χ a
 | 0=>rfl
 | k+1=>by
  show χ (step n<|it (step n) k a)=_;rw [h.go _<|hU (λx hx=>mK T hx) ha k,zf T h ha k]
theorem Vg(p:dz n m g e1 e2 z)(T:aq n)(T':aq m){k1 k2:End}(h1:k1∈ends n)(h2:k2∈ends n)(ne:k2≠k1)(same:(∃ k,it (step n) k k1=k2)\/∃ k,it (step n) k k2=k1)
  (l1:left m e1=g k1) (l2:left m e2=g k2) (lf:∀ e∈ends n,left m (g e)=if left n e=k1 then e1 else if left n e=k2 then e2 else g (left n e))
  {Ls:List (List End)} (d:Dec (step n) (ends n) Ls) (ev:∀ s,cU m s->s z=false->cU n s) (R:RS n):RS m:=by
 have st:∀ x∈ends n,step m (g x)=if step n x=k1 then e1 else if step n x=k2 then e2 else g (step n x):=λx hx=>by
  unfold step;rw [p.ji T T' hx];exact lf _<|cG T hx
 have s1:step m e1=g k2:=by unfold step;rw [p.o1 T'];exact l2
 have s2:step m e2=g k1:=by unfold step;rw [p.o2 T'];exact l1
 obtain⟨l,Ms,hL,d⟩:=d.pick h1;have hk:=d.one h2 same ne;obtain⟨JA,y9,d',w,hw,w2,w1⟩:=d.split (f':=step m) (g:=g) hk (e1:=e1) (e2:=e2) s1 s2
  (λx hx e=>by rw [st x hx,BL e]) (λx hx e=>by rw [st x hx,BJ (by rw [e];exact ne),BL e]) (λx hx a b=>by rw [st x hx,BJ a,BJ b]) p.nd
 have dm:=d'.perm p.perm;refine J1 T' (ψ:=λx=>decide (x∈w)) (λx hx=>decide_eq_decide.mpr<|dm.mark hw x hx) p.t1 (p.o1 T') (by show decide (e1∈w)≠decide (e2∈w);rw [BR w1,BW w2];decide) λs hs hz=>?_;obtain⟨χ,hχ⟩:=R s<|ev s hs hz;have ek:χ k2=χ k1:=by
  rcases same with ⟨k,e⟩ | ⟨k,e⟩
  ·rw [<- e];exact zf T hχ h1 k
  ·rw [<- e];exact(zf T hχ h2 k).symm
 refine p.iO T T' hχ hz (a:=χ k1) (λx hx=>?_) (.inr<|.inr ⟨k2,h2,s1,ek⟩)<|.inr<|.inr ⟨k1,h1,s2,rfl⟩;rw [st x hx]
 by_cases c1:step n x=k1
 ·rw [BL c1];exact .inr ⟨.inl rfl,by rw [c1]⟩
 ·rw [BJ c1]
  by_cases c2:step n x=k2
  ·rw [BL c2];exact .inr ⟨.inr rfl,by rw [c2,ek]⟩
  ·rw [BJ c2];exact .inl rfl
theorem Vh(p:dz n m g e1 e2 z)(T:aq n)(T':aq m){c:End}(h1:c∈ends n)(l1:left m e1=g c)(l2:left m e2=e1)(lf:∀ e∈ends n,left m (g e)=if left n e=c then e2 else g (left n e))
  (ev:∀ s,cU m s->s z=false->cU n s) (R:RS n):RS m:=by
 have st:∀ x∈ends n,step m (g x)=if step n x=c then e2 else g (step n x):=λx hx=>by
  unfold step;rw [p.ji T T' hx];exact lf _<|cG T hx
 have s1:step m e1=e1:=by unfold step;rw [p.o1 T'];exact l2
 have s2:step m e2=g c:=by unfold step;rw [p.o2 T'];exact l1
 have vf:e1∈ends m:=af.mpr ⟨z,p.t1⟩;refine J1 T' (ψ:=λx=>decide (x=e1)) (λx hx=>?_) p.t1 (p.o1 T') (by show decide (e1=e1)≠decide (e2=e1);rw [BW rfl,BR p.ne.symm];decide) λs hs hz=>?_
 ·by_cases q:x=e1
  ·rw [q,s1]
  ·show decide (step m x=e1)=decide (x=e1);rw [BR q];exact BR λe=>q<|Iu T' hx vf<|by rw [e,s1]
 obtain⟨χ,hχ⟩:=R s<|ev s hs hz;refine p.iO T T' hχ hz (a:=χ c) (λx hx=>?_) (.inl s1)<|.inr<|.inr ⟨c,h1,s2,rfl⟩;rw [st x hx]
 by_cases c1:step n x=c
 ·rw [BL c1];exact .inr ⟨.inr rfl,by rw [c1]⟩
 ·rw [BJ c1];exact .inl rfl
theorem Vi(p:dz n m g e1 e2 z)(T:aq n)(T':aq m){c:End}(h1:c∈ends n)(l1:left m e1=g c)(l2:left m e2=e2)(lf:∀ e∈ends n,left m (g e)=if left n e=c then e1 else g (left n e))
  (hz:∀ s,cU m s->s z=false) (ev:∀ s,cU m s->s z=false->cU n s) (R:RS n):RS m:=by
 have st:∀ x∈ends n,step m (g x)=if step n x=c then e1 else g (step n x):=λx hx=>by
  unfold step;rw [p.ji T T' hx];exact lf _<|cG T hx
 have s1:step m e1=e2:=by unfold step;rw [p.o1 T'];exact l2
 have s2:step m e2=g c:=by unfold step;rw [p.o2 T'];exact l1
 intro s hs;have hz:=hz s hs;obtain⟨χ,hχ⟩:=R s<|ev s hs hz;refine p.iO T T' hχ hz (a:=χ c) (λx hx=>?_) (.inr<|.inl s1)<|.inr<|.inr ⟨c,h1,s2,rfl⟩;rw [st x hx]
 by_cases c1:step n x=c
 ·rw [BL c1];exact .inr ⟨.inl rfl,by rw [c1]⟩
 ·rw [BJ c1];exact .inl rfl
end
section
variable{n:Net}{z:Str}
theorem Vj{k1 k2:End}(T:aq n)(T':aq<|ins (ins n k1 z) k2 z)(h1:k1∈ends n)(h2:k2∈ends n)(ord:k2=k1\/sh k1 k2=k2)(same:(∃ k,it (step n) k k1=k2)\/∃ k,it (step n) k k2=k1)(P:Pl n)(R:RS n):RS (ins (ins n k1 z) k2 z):=by
 have r1:=dM h1;have r2:=dM h2;have p:=JE (z:=z) (k1:=k1) (k2:=k2) ⟨r1.1,Cl r1.2⟩ ⟨r2.1,Cl r2.2⟩;have c2:k2.1 < (ins n k1 z).length:=by rw [fA];exact r2.1
 have rl:∀ i,(row n i).length<=(row (ins n k1 z) i).length:=λi=>by
  rw [oZ r1.1<|Cl r1.2]
  split <;> omega
 have p2:k2.2 < (row (ins n k1 z) k2.1).length:=Bf r2.2<|rl _;have p1:k1.2 < (row (ins n k1 z) k1.1).length:=Bf r1.2<|rl _;have sl:∀ e∈ends n,(sh k1 e).2 < (row (ins n k1 z) (sh k1 e).1).length:=λe he=>by
  obtain⟨y,hy⟩:=af.mp he;exact fw (z:=y)<|by rw [o6 r1.1<|Cl r1.2];exact hy
 have l0:left (ins n k1 z) k1=sh k1 k1:=kS r1.1 r1.2;have ev:∀ s,cU (ins (ins n k1 z) k2 z) s->s z=false->cU n s:=λs hs hz r=>by
  rw [<- zc r1.1 hz r,<- zc c2 hz r];exact hs r
 by_cases e:k2=k1
 ·subst e;refine Vh p T T' h1 ?_ (kS c2 p2) (λe he=>?_) ev R
  ·rw [gn c2 p2 p1,l0,BJ<|kR _ _]
  ·show left _ (sh k2<|sh k2 e)=_;rw [gn c2 p2<|sl e he,gn r1.1 r1.2 (dM he).2]
   by_cases q:left n e=k2
   ·rw [BL q,BL rfl,BL q]
   ·rw [BJ q,BJ<|kR _ _,BJ q]
 ·have hs:sh k1 k2=k2:=ord.resolve_left e
  rcases P with ⟨t0,_⟩ | ⟨Ls,d,_⟩
  ·obtain⟨y,hy⟩:=af.mp h1;have:=di hy;rw [t0] at this;cases this
  refine Vg p T T' h1 h2 e same ?_ ?_ (λe' he=>?_) d ev R
  ·rw [gn c2 p2 p1,l0,BJ λq=>e<|kQ (c:=k1)<|by rw [hs,q]]
  ·show left _ k2=sh k2 (sh k1 k2);rw [hs];exact kS c2 p2
  ·show left _ (sh k2<|sh k1 e')=if left n e'=k1 then sh k2 k1 else if left n e'=k2 then k2 else sh k2 (sh k1<|left n e');rw [gn c2 p2<|sl e' he,gn r1.1 r1.2 (dM he).2]
   by_cases q:left n e'=k1
   ·rw [BL q,BL q,BJ λx=>e x.symm]
   ·rw [BJ q,BJ q]
    by_cases q2:left n e'=k2
    ·rw [BL q2,q2,hs,BL rfl]
    ·rw [BJ q2,BJ λx=>q2<|kQ (c:=k1)<|by rw [x,hs]]
theorem Vk{c:End}{pt:Str}(T:aq n)(T':aq<|ins n c z++[(pt,[z])])(h1:c∈ends n)(R:RS n):RS (ins n c z++[(pt,[z])]):=by
 have r1:=dM h1;have p:=JI (z:=z) (c:=c) (pt:=pt) ⟨r1.1,Cl r1.2⟩;have la:∀ e:End,e.1 < n.length->left (ins n c z++[(pt,[z])]) e=left (ins n c z) e:=λe he=>by
  unfold left;rw [kW<|by rw [fA];exact he]
 have iQ:=vb (a:=ins n c z) (x:=(pt,[z]));rw [fA] at iQ;refine Vi p T T' h1 ?_ ?_ (λe he=>?_) (λs hs=>?_) (λs hs hz r=>?_) R
 ·rw [la _ r1.1];exact kS r1.1 r1.2
 ·unfold left;show(n.length,(0+1) % (row _ n.length).length)=_;rw [iQ];exact BZ (Prod.mk _)<|Dy 1
 ·rw [la _<|by rw [jP];exact(dM he).1];exact gn r1.1 r1.2 (dM he).2
 ·have:=hs n.length;rw [iQ] at this;have:(s z ^^ false)=false:=this
  simpa using this
 ·by_cases h:r < n.length
  ·have:=hs r;rw [kW (by rw [fA];exact h),zc r1.1 hz r] at this;exact this
  ·have:row n r=[]:=by
    unfold row;rw [Bc<|by omega];rfl
   rw [this];rfl
end
theorem Vl{nm:Str}:RS [(nm,[])]:=λs _=>⟨λ_=>false,λe he=>rfl,λe y hy=>by
 have:=di hy;cases this⟩
theorem Vm{nm pt z:Str}(T':aq [(nm,[z]),(pt,[z])]):RS [(nm,[z]),(pt,[z])]:=λs hs=>⟨λ_=>false,λe he=>rfl,λe y hy=>by
 have h:=di hy;have:y=z:=by simpa [ag] using h
 rw [this];have:=hs 0;have:(s z ^^ false)=false:=this
 simpa using this⟩
theorem Vn{nm z:Str}(T':aq [(nm,[z,z])]):RS [(nm,[z,z])]:=λs _=>by
 have t1:aJ [(nm,[z,z])] (0,0)=some z:=rfl;have t2:aJ [(nm,[z,z])] (0,1)=some z:=rfl;have o1:=iN T' t1 t2 (by decide);have o2:=iN T' t2 t1 (by decide);have hE:ends [(nm,[z,z])]=[(0,0),(0,1)]:=rfl;refine⟨λe=>decide (e=(0,0)) && s z,λe he=>?_,λe y hy=>?_⟩
 ·rw [hE] at he;simp only [Ai,Bk,DQ] at he
  rcases he with rfl | rfl
  ·show(decide (left [(nm,[z,z])] (other [(nm,[z,z])] (0,0))=(0,0)) && s z)=_;rw [o1];simp [left,row]
  ·show(decide (left [(nm,[z,z])] (other [(nm,[z,z])] (0,1))=(0,0)) && s z)=_;rw [o2];simp [left,row]
 ·have h:=di hy;have e1:y=z:=by simpa [ag] using h
  have he:=af.mpr ⟨y,hy⟩;rw [hE] at he;simp only [Ai,Bk,DQ] at he;rw [e1]
  rcases he with rfl | rfl
  ·rw [o1];simp
  ·rw [o2];simp
def Fl(n:Net):Prop:=Pl n/\RS n
theorem Vo{nm:Str}:Fl [(nm,[])]:=⟨.inl ⟨rfl,rfl⟩,Vl⟩
theorem Vp{n:Net}{c:End}{z pt:Str}(T:aq n)(F:Full n)(hz:z∉ag n)(hc:dD n c) (hp:(ag<|ins n c z++[(pt,[z])]).Perm<|z :: z :: ag n) (P:Fl n):Fl (ins n c z++[(pt,[z])]):=by
 refine⟨U' T F hz hc hp P.1,?_⟩;have T':=vd hp T hz
 rcases ve F with ⟨nm,rfl⟩ | h0
 ·have:=o7 hc;subst this;exact Vm T'
 ·exact Vk T T' (F.cg h0 hc) P.2
theorem Vq{n:Net}{k1 k2:End}{z:Str}(T:aq n)(F:Full n)(hz:z∉ag n)(h1:dD n k1)(h2:dD n k2) (hp:(ag<|ins (ins n k1 z) k2 z).Perm<|z :: z :: ag n) (ord:k2=k1\/sh k1 k2=k2) (same:(∃ k,it (step n) k k1=k2)\/∃ k,it (step n) k k2=k1) (P:Fl n):Fl (ins (ins n k1 z) k2 z):=by
 refine⟨Va T F hz h1 h2 hp ord same P.1,?_⟩;have T':=vd hp T hz
 rcases ve F with ⟨nm,rfl⟩ | h0
 ·have:=o7 h1;subst this;have:=o7 h2;subst this;exact Vn T'
 ·exact Vj T T' (F.cg h0 h1) (F.cg h0 h2) ord same P.1 P.2
theorem Vr{n m:Net}{g:End->End}(T:aq n)(T':aq m)(ht:(ag m).length=(ag n).length)(cL:∀ e∈ends n,aJ m (g e)=aJ n e)(inj:∀ a∈ends n,∀ b∈ends n,g a=g b->a=b)
  (lf:∀ e∈ends n,left m (g e)=g (left n e)) (ev:∀ s,cU m s->cU n s) (R:RS n):RS m:=by
 have rq:∀ x∈ends m,∃ e∈ends n,x=g e:=by
  have nd:((ends n).map g).Nodup:=by
   have:∀(l:List End),(∀ x∈l,x∈ends n)->l.Nodup->(l.map g).Nodup:=by
    intro l
    induction l with
    | nil=>intro _ _;exact Cf
    | cons x l ih=>
     intro hs h;have h:=Bd.mp h;rw [Au];refine Bd.mpr ⟨λhx=>?_,ih (λy hy=>hs y<|Ae _ hy) h.2⟩;obtain⟨y,hy,e⟩:=Aj.mp hx;have:=inj y (hs y<|Ae _ hy) x (hs x Ad) e;exact h.1<|this ▸ hy
   exact this _ (λx hx=>hx)<|oU n
  have pm:((ends n).map g).Perm (ends m):=by
   refine rp nd (λa ha=>?_) (by rw [Aa,iD,iD,ht];exact Al _);obtain⟨x,hx,rfl⟩:=Aj.mp ha;obtain⟨y,hy⟩:=af.mp hx;exact af.mpr ⟨y,by rw [cL x hx];exact hy⟩
  intro x hx;obtain⟨e,he,q⟩:=Aj.mp<|pm.mem_iff.mpr hx;exact⟨e,he,q.symm⟩
 intro s hs;obtain⟨χ,hχ⟩:=R s<|ev s hs
 let χ':End->Bool:=λx=>match (ends n).find? (λe=>decide (g e=x)) with | some e=>χ e | none=>false
 have h1:∀ e∈ends n,χ' (g e)=χ e:=λe he=>by
  show(match (ends n).find? (λe'=>decide (g e'=g e)) with | some e=>χ e | none=>false)=χ e;cases hf:(ends n).find? (λe'=>decide (g e'=g e)) with
  | none=>exact absurd (BW (rfl:g e=g e))<|by simpa using List.find?_eq_none.mp hf e he
  | some e'=>
   have h5:=OD hf;have h5:g e'=g e:=BX h5;rw [inj _ (List.mem_of_find?_eq_some hf) _ he h5]
 have ji:∀ e∈ends n,other m (g e)=g (other n e):=λe he=>by
  obtain⟨y,hy⟩:=af.mp he;obtain⟨h1,_,h3⟩:=cF T hy;have ho:other n e∈ends n:=af.mpr ⟨y,h1⟩;exact iN T' (by rw [cL e he];exact hy) (by rw [cL _ ho];exact h1) λh=>h3 (inj _ he _ ho h).symm
 refine⟨χ',λx hx=>?_,λx y hy=>?_⟩
 ·obtain⟨e,he,rfl⟩:=rq x hx;have:step m (g e)=g (step n e):=by
   unfold step;rw [ji e he];exact lf _<|cG T he
  rw [this,h1 _<|mK T he,h1 e he,hχ.go e he]
 ·obtain⟨e,he,rfl⟩:=rq x<|af.mpr ⟨y,hy⟩;rw [cL e he] at hy;rw [ji e he,h1 e he,h1 _<|cG T he];exact hχ.cL e y hy
theorem Vs{a:Net}{j i:Nat}{x:Str}(hj:j < a.length)(hi:i < max 1 (row a j).length)(T:aq a) (T':aq<|a.eraseIdx j++[(x,(row a j).drop i++(row a j).take i)])
  (ht:(ag<|a.eraseIdx j++[(x,(row a j).drop i++(row a j).take i)]).length=(ag a).length) (R:RS a):RS (a.eraseIdx j++[(x,(row a j).drop i++(row a j).take i)]):=by
 obtain⟨g,h1,h2,h3⟩:=JS (x:=x) hj hi;refine Vr T T' ht h1 h2 h3 (λs hs r=>?_) R
 by_cases hr:r < a.length
 ·have:=hs (if r < j then r else if r=j then a.length - 1 else r - 1);rw [JP hj r hr] at this
  by_cases e:r=j
  ·rw [BL e] at this;rw [<- this,e];refine Vf<|List.Perm.map s ?_;show(row a j).Perm ((row a j).drop i++(row a j).take i);refine List.Perm.trans ?_ Bx;rw [Ct]
  ·rw [BJ e] at this;exact this
 ·have:row a r=[]:=by
   unfold row;rw [Bc<|by omega];rfl
  rw [this];rfl
theorem Vt{n n2 n0:Net}{j i:Nat}{x:Str}(hj:j < n.length)(hi:i < max 1 (row n j).length)(T0:aq n0)(pt:(ag n++ag n2).Perm<|ag n0)
  (eF:(ag (n.eraseIdx j)++ag (n2++[(x,(row n j).drop i++(row n j).take i)])).Perm<|ag n0) (P:Fl<|n++n2):Fl (n.eraseIdx j++(n2++[(x,(row n j).drop i++(row n j).take i)])):=by
 refine⟨Vd hj hi T0 pt eF P.1,?_⟩;have tw:∀ m:Net,(ag m).Perm (ag n0)->aq m:=λm p y hy=>by rw [p.count_eq];exact T0 y<|p.mem_iff.mp hy
 rw [<- JY] at pt eF;have er:row (n++n2) j=row n j:=kW hj;have ee:n.eraseIdx j++(n2++[(x,(row n j).drop i++(row n j).take i)])=(n++n2).eraseIdx j++[(x,(row (n++n2) j).drop i++(row (n++n2) j).take i)]:=by
  rw [IW hj,Ao,er]
 rw [ee] at eF ⊢;exact Vs (by rw [Af];omega) (by rw [er];exact hi) (tw _ pt) (tw _ eF) (by rw [eF.length_eq,pt.length_eq]) P.2
open L2
def aM(n:Net)(r:Nat):Str:=((n[r]?).map (·.1)).getD ⟨#[]⟩
theorem fC{n:Net}{r:Nat}(h:r < n.length):aM n r=n[r].1:=by unfold aM;rw [Ab h];rfl
abbrev Lk:=Str×Str×Str
def jm(n:Net)(x:Lk):Prop:=∃ a b,pos n x.1=[a,b]/\x.2.1=aM n a.1/\x.2.2=aM n b.1
structure gq(n:Net)(done:List<|Str×End)(kM:List<|Key×V)(ls:List Lk):Prop where
 m0:∀ z,bu done z=[]->aB kM (Sum.inr z)=none
 m1:∀ z a rest,bu done z=a :: rest->aB kM (Sum.inr z)=some (.str<|aM n a.1)
 mem:∀ x:Lk,x∈ls↔∃ a b rest,bu done x.1=a :: b :: rest/\x.2.1=aM n a.1/\x.2.2=aM n b.1
 nn:(ls.map (·.1)).Nodup
 dk:kM.length<=done.length
 jQ:ls.length<=done.length
theorem gq.start(n:Net):gq n [] [] []:=⟨λ_ _=>rfl,λz a rest h=>(by cases h),λx=>⟨λh=>(by cases h),λ⟨a,b,rest,h,_⟩=>(by cases h)⟩,Cf,Al _,Al _⟩
theorem gq.new{n:Net}{done:List (Str×End)}{kM:List (Key×V)}{ls:List Lk}(I:gq n done kM ls){z:Str}{e:End}(h0:bu done z=[]):gq n (done++[(z,e)]) (putK kM (Sum.inr z)<|.str<|aM n e.1) ls:=by
 refine⟨λy hy=>?_,λy a rest hy=>?_,λx=>?_,I.nn,?_,?_⟩
 ·rw [cM] at hy;obtain⟨h1,h2⟩:=Er.mp hy;have bL:¬ z=y:=λq=>by rw [BL q] at h2;cases h2
  rw [cZ,BJ λq=>bL (Sum.inr.inj q).symm];exact I.m0 y h1
 ·rw [cM] at hy
  by_cases q:z=y
  ·subst q;rw [h0,BL rfl] at hy;cases hy;rw [cZ,BL rfl]
  ·rw [BJ q,Be] at hy;rw [cZ,BJ λp=>q (Sum.inr.inj p).symm];exact I.m1 y a rest hy
 ·rw [I.mem x]
  by_cases q:z=x.1
  ·constructor
   ·rintro ⟨a,b,rest,h,_⟩;rw [<- q,h0] at h;cases h
   ·rintro ⟨a,b,rest,h,_⟩;rw [cM,<- q,h0,BL rfl] at h;cases h
  ·constructor
   ·rintro ⟨a,b,rest,h,r⟩;exact⟨a,b,rest,by rw [cM,BJ q,Be];exact h,r⟩
   ·rintro ⟨a,b,rest,h,r⟩;rw [cM,BJ q,Be] at h;exact⟨a,b,rest,h,r⟩
 ·have:=fq kM (Sum.inr z)<|.str<|aM n e.1;have:=I.dk;rw [Af,Ck];omega
 ·have:=I.jQ;rw [Af,Ck];omega
theorem gq.old{n:Net}{done:List (Str×End)}{kM:List (Key×V)}{ls:List Lk}(I:gq n done kM ls){z:Str}{a e:End}(h1:bu done z=[a]):gq n (done++[(z,e)]) kM (ls++[(z,aM n a.1,aM n e.1)]):=by
 have hz:bu (done++[(z,e)]) z=[a,e]:=by rw [cM,h1,BL rfl];rfl
 have Vu:z∉ls.map (·.1):=λh=>by
  obtain⟨x,hx,ex⟩:=Aj.mp h;obtain⟨b,c,rest,hp,_⟩:=(I.mem x).mp hx;have ex:x.1=z:=ex;rw [ex,h1] at hp;cases hp
 refine⟨λy hy=>?_,λy b rest hy=>?_,λx=>?_,?_,?_,?_⟩
 ·rw [cM] at hy;exact I.m0 y (Er.mp hy).1
 ·by_cases q:z=y
  ·subst q;rw [hz] at hy;cases hy;exact I.m1 z a [] h1
  ·rw [cM,BJ q,Be] at hy;exact I.m1 y b rest hy
 ·rw [Aq,Am,I.mem x]
  by_cases q:z=x.1
  ·constructor
   ·rintro (⟨b,c,rest,h,_⟩ | h)
    ·rw [<- q,h1] at h;cases h
    ·subst h;exact⟨a,e,[],hz,rfl,rfl⟩
   ·rintro ⟨b,c,rest,h,r1,r2⟩;rw [<- q,hz] at h;cases h;obtain⟨x1,x2,x3⟩:=x;have q:z=x1:=q;have r1:x2=aM n a.1:=r1;have r2:x3=aM n e.1:=r2;subst q r1 r2;exact .inr rfl
  ·constructor
   ·rintro (⟨b,c,rest,h,r⟩ | h)
    ·exact⟨b,c,rest,by rw [cM,BJ q,Be];exact h,r⟩
    ·subst h;exact absurd rfl q
   ·rintro ⟨b,c,rest,h,r⟩;rw [cM,BJ q,Be] at h;exact .inl ⟨b,c,rest,h,r⟩
 ·rw [Ah];exact ku I.nn Vu
 ·have:=I.dk;rw [Af,Ck];omega
 ·have:=I.jQ;rw [Af,Af];show _+1<=_+1;omega
theorem gq.whole{n:Net}(T:aq n){kM:List (Key×V)}{ls:List Lk}(I:gq n (aU n) kM ls)(x:Lk):x∈ls↔jm n x:=by
 rw [I.mem x]
 constructor
 ·rintro ⟨a,b,rest,h,r⟩;have hp:pos n x.1=a :: b :: rest:=h;have ha:aJ n a=some x.1:=aF.mp (by rw [hp];exact Ad ..);have hl:=jK n x.1;rw [hp,T x.1<|di ha] at hl;have:rest=[]:=by
   have:rest.length+1+1=2:=hl;exact Bh.mp<|by omega
  rw [this] at hp;exact⟨a,b,hp,r⟩
 ·rintro ⟨a,b,h,r⟩;exact⟨a,b,[],h,r⟩
inductive Way (ls:List<|Str×Str×Bool) (f:Str):Str->Bool->Prop where
 | here:Way ls f f false
 | there {x y:Str} {b o:Bool}:Way ls f x b->(x,y,o)∈ls->Way ls f y (b != o)
 | back {x y:Str} {b o:Bool}:Way ls f x b->(y,x,o)∈ls->Way ls f y (b != o)
def rz(n:Net)(ss:List Str):Bool:=n.all λr=>(r.2.filter λz=>ss.contains z).length % 2 == 0
theorem o8{n:Net}(T:aq n){e x:End}{z:Str}(h:aJ n e=some z):aJ n x=some z↔x=e\/x=other n e:=by
 obtain⟨o1,o2,o3⟩:=cF T h;refine⟨λhx=>?_,λhx=>?_⟩
 ·obtain⟨a,b,hp,cS,he⟩:=mJ T h;have mx:x∈pos n z:=aF.mpr hx;have mo:other n e∈pos n z:=aF.mpr o1;rw [hp] at mx mo;simp only [Ai,Bk,DQ] at mx mo
  rcases he with he | he
  ·rcases mx with m | m
   ·exact .inl<|m.trans he.symm
   ·rcases mo with m2 | m2
    ·exact absurd (m2.trans he.symm) o3
    ·exact .inr<|m.trans m2.symm
  ·rcases mx with m | m
   ·rcases mo with m2 | m2
    ·exact .inr<|m.trans m2.symm
    ·exact absurd (m2.trans he.symm) o3
   ·exact .inl<|m.trans he.symm
 ·rcases hx with rfl | rfl
  ·exact h
  ·exact o1
abbrev Bl:=Str×Str×Bool
def Vv(ls:List Bl)(x y:Str)(o:Bool):Prop:=(x,y,o)∈ls\/(y,x,o)∈ls
theorem Vw{κ:Type} [DecidableEq κ] (kvs:List<|κ×V) (k:κ) (v:V):(putK kvs k v).map (·.1)=if k∈kvs.map (·.1) then kvs.map (·.1) else kvs.map (·.1)++[k]:=by
 have e:(kvs.any λkv=>decide (kv.1=k))=decide (k∈kvs.map (·.1)):=by
  rw [Ex,List.any_eq_true,HY,Aj];exact⟨λ⟨p,h1,h2⟩=>⟨p,h1,BX h2⟩,λ⟨p,h1,h2⟩=>⟨p,h1,BW h2⟩⟩
 unfold putK;rw [e]
 by_cases h:k∈kvs.map (·.1)
 ·rw [BL<|BW h,BL h,Bi];refine Ay λp _=>?_;show(if p.1=k then(p.1,v) else p).1=p.1
  split <;> rfl
 ·rw [BJ (by simpa using h),BJ h,Ah];rfl
open PyProof.Rows (sortedS)
def cV(n:Net):Prop:=∀ P:Str->Prop,(∃ r∈n,P r.1)->(∀ r∈n,∀ s∈n,∀ t,t∈r.2->t∈s.2->P r.1->P s.1)->∀ r∈n,P r.1
theorem J3{n m:Net}(h1:∀ r∈n,∃ s∈m,s.1=r.1/\∀ t∈r.2,t∈s.2)(h2:∀ s∈m,∃ r∈n,r.1=s.1)(h:cV n):cV m:=by
 rintro P ⟨s,hs,ps⟩ cl s' fK;obtain⟨r,hr,er⟩:=h2 s hs;obtain⟨r',hZ,Vx⟩:=h2 s' fK;rw [<- Vx];refine h P ⟨r,hr,by rw [er];exact ps⟩ (λa ha b hb t ta tb pa=>?_) r' hZ;obtain⟨a',vg,ea,sa⟩:=h1 a ha;obtain⟨b',kH,eb,sb⟩:=h1 b hb;rw [<- eb];exact cl a' vg b' kH t (sa t ta) (sb t tb)<|by rw [ea];exact pa
theorem Vy(r:Str×List Str):cV [r]:=by
 rintro P ⟨s,hs,ps⟩ _ x hx;rw [Am] at hs hx;rw [hx,<- hs];exact ps
theorem zg(n:Net)(c:End)(z:Str)(i:Nat):(ins n c z)[i]?=(n[i]?).map λr=>if c.1=i then(r.1,r.2.take c.2++z :: r.2.drop c.2) else r:=by
 unfold ins;rw [Ff]
 by_cases h:c.1=i
 ·simp [h]
 ·simp [h]
theorem zh{n:Net}{c:End}{z:Str}(h:cV n):cV (ins n c z):=by
 refine J3 (λr hr=>?_) (λs hs=>?_) h
 ·obtain⟨i,hi⟩:=Ba hr;have e:=zg n c z i;rw [hi] at e;refine⟨_,At e,?_,λt ht=>?_⟩
  ·split <;> rfl
  ·split
   ·show t∈r.2.take c.2++z :: r.2.drop c.2;rw [<- Ct c.2 r.2] at ht
    rcases Aq.mp ht with q | q
    ·exact Aw _ q
    ·exact Ap _<|Ae _ q
   ·exact ht
 ·obtain⟨i,hi⟩:=Ba hs;rw [zg,Bg] at hi;obtain⟨r,hr,e⟩:=hi;refine⟨r,At hr,?_⟩;rw [<- e]
  split <;> rfl
theorem Vz{n:Net}{c:End}{z:Str}(hc:c.1 < n.length):∃ r∈ins n c z,z∈r.2:=by
 have e:=zg n c z c.1;rw [Ab hc] at e;refine⟨_,At e,?_⟩;show z∈(if c.1=c.1 then((n[c.1].1,n[c.1].2.take c.2++z :: n[c.1].2.drop c.2):Str×List Str) else n[c.1]).2;rw [BL rfl];exact Ap _<|Ad ..
theorem VA{n:Net}{z pt:Str}(h:cV n)(hz:∃ r∈n,z∈r.2):cV (n++[(pt,[z])]):=by
 obtain⟨r,hr,zr⟩:=hz;rintro P ⟨s,hs,ps⟩ cl x hx;have mn:((pt,[z]):Str×List Str)∈n++[(pt,[z])]:=Ap _<|Am.mpr rfl;have ml:∀{y},y∈n->y∈n++[(pt,[z])]:=λhy=>Aw _ hy;have all:∀ y∈n,P y.1:=by
  refine h P ?_ λa ha b hb t ta tb pa=>cl a (ml ha) b (ml hb) t ta tb pa
  rcases Aq.mp hs with q | q
  ·exact⟨s,q,ps⟩
  ·rw [Am] at q;subst q;exact⟨r,hr,cl _ mn r (ml hr) z (Am.mpr rfl) zr ps⟩
 rcases Aq.mp hx with q | q
 ·exact all x q
 ·rw [Am] at q;subst q;exact cl r (ml hr) _ mn z zr (Am.mpr rfl)<|all r hr
def ia(zs:List Str):Prop:=zs.Pairwise λa b=>a.cps.toList < b.cps.toList
theorem zi{zs:List Str}(h:ia zs):zs.Nodup:=h.imp λq e=>by rw [e] at q;exact Fh _ q
theorem J5:∀{a b:List Str},ia a->ia b->(∀ x,x∈a↔x∈b)->a=b
 | [],[],_,_,_=>rfl
 | [],y :: b,_,_,h=>by have:=(h y).mpr<|Ad ..;cases this
 | x :: a,[],_,_,h=>by have:=(h x).mp<|Ad ..;cases this
 | x :: a,y :: b,ha,hb,h=>by
  unfold ia at ha hb;rw [Cz] at ha hb;have VB:x=y:=by
   rcases Ai.mp ((h x).mp<|Ad ..) with e | e
   ·exact e
   ·rcases Ai.mp ((h y).mpr<|Ad ..) with e2 | e2
    ·exact e2.symm
    ·exact absurd (Fw (ha.1 y e2)<|hb.1 x e)<|Fh _
  subst VB;have nx:∀(l:List Str),(∀ z∈l,x.cps.toList < z.cps.toList)->x∉l:=λl hl hm=>Fh _<|hl x hm;have:a=b:=J5 ha.2 hb.2 λz=>by
   constructor
   ·intro hz
    rcases Ai.mp ((h z).mp<|Ae _ hz) with e | e
    ·exact absurd (e ▸ hz)<|nx a ha.1
    ·exact e
   ·intro hz
    rcases Ai.mp ((h z).mpr<|Ae _ hz) with e | e
    ·exact absurd (e ▸ hz)<|nx b hb.1
    ·exact e
  rw [this]
def zj(n:Net)(ps:List Str)(z:Str):Prop:=∃ e,aJ n e=some z/\aM n e.1∈ps/\aM n (other n e).1∉ps
theorem VC{n:Net}{ps:List Str}{z:Str}(h:zj n ps z):z∈ag n:=by
 obtain⟨e,he,_⟩:=h;exact di he
theorem J6{n:Net}(T:aq n){ps:List Str}{z:Str}{e:End}(he:aJ n e=some z):zj n ps z↔(decide (aM n e.1∈ps) != decide (aM n (other n e).1∈ps))=true:=by
 have o:=cF T he
 constructor
 ·rintro ⟨x,hx,h1,h2⟩
  rcases (o8 T he).mp hx with q | q
  ·subst q;simp [h1,h2]
  ·subst q;rw [o.2.1] at h2;simp [h1,h2]
 ·intro h
  by_cases h1:aM n e.1∈ps
  ·by_cases h2:aM n (other n e).1∈ps
   ·simp [h1,h2] at h
   ·exact⟨e,he,h1,h2⟩
  ·by_cases h2:aM n (other n e).1∈ps
   ·exact⟨other n e,o.1,h2,by rw [o.2.1];exact h1⟩
   ·simp [h1,h2] at h
def b6(n:Net):Str:=aM n 0
structure iR(n:Net)(ss sd:List Str):Prop where
 zp:ia sd
 mem:∀ x∈sd,x∈n.map (·.1)
 fst:b6 n∉sd
 cut:∀ z,z∈ss↔zj n sd z
structure Tells(n:Net)(ss:List Str)(ls:List Bl):Prop where
 to:∀ e z,aJ n e=some z->Vv ls (aM n e.1) (aM n (other n e).1) (decide (z∈ss))
 VD:∀ l∈ls,∃ e z,aJ n e=some z/\l=(aM n e.1,aM n (other n e).1,decide (z∈ss))
theorem rA{n:Net}{i:Nat}(h:i < n.length):aM n i∈n.map (·.1):=by
 rw [fC h];exact Aj.mpr ⟨_,Bn h,rfl⟩
noncomputable def dq(n:Net)(ss:List Str):List Bl:=(ends n).map λe=>(aM n e.1,aM n (other n e).1,decide ((aJ n e).getD ⟨#[]⟩∈ss))
theorem J7{n:Net}{ss:List Str}:Tells n ss (dq n ss):=by
 refine⟨λe z h=> .inl (Aj.mpr ⟨e,af.mpr ⟨z,h⟩,by rw [h];rfl⟩),λl hl=>?_⟩;obtain⟨e,he,q⟩:=Aj.mp hl;obtain⟨z,hz⟩:=af.mp he;exact⟨e,z,hz,by rw [<- q,hz];rfl⟩
theorem J8{n:Net}(T:aq n){e:End}{z:Str}(h:aJ n e=some z):(other n e).1 < n.length:=cT (cF T h).1
open PyProof.Rows (sortedS)
theorem J9{n:Net}(hn:(n.map (·.1)).Nodup){i j:Nat}(hi:i < n.length)(hj:j < n.length)(h:aM n i=aM n j):i=j:=by
 rw [fC hi,fC hj] at h;have:=(Cb.mp hn);rw [Bp] at this
 rcases KD i j with q | q | q
 ·exact absurd (by rw [Dr,Dr];exact h)<|this i j (by simpa using hi) (by simpa using hj) q
 ·exact q
 ·exact absurd (by rw [Dr,Dr];exact h.symm)<|this j i (by simpa using hj) (by simpa using hi) q
open PyProof.Rows (sortedS)
theorem VE(a b c:List Str)(h:∀ z,z∈c↔(if z∈a then z∉b else z∈b)):∀ zs:List Str,(zs.filter λz=>c.contains z).length % 2=((zs.filter λz=>a.contains z).length+(zs.filter λz=>b.contains z).length) % 2
 | []=>rfl
 | z :: r=>by
  have ih:=VE a b c h r;have hz:=h z;have ca:=λ(l:List Str)=>(Dc (as:=l) (a:=z));simp only [Db]
  by_cases ha:z∈a <;> by_cases hb:z∈b
  ·have hc:z∉c:=λq=>by have:=hz.mp q;rw [BL ha] at this;exact this hb
   rw [BL<|(ca a).mpr ha,BL<|(ca b).mpr hb,BJ λq=>hc<|(ca c).mp q,An,An];omega
  ·have hc:z∈c:=hz.mpr (by rw [BL ha];exact hb);rw [BL<|(ca a).mpr ha,BJ λq=>hb<|(ca b).mp q,BL<|(ca c).mpr hc,An,An];omega
  ·have hc:z∈c:=hz.mpr (by rw [BJ ha];exact hb);rw [BJ λq=>ha<|(ca a).mp q,BL<|(ca b).mpr hb,BL<|(ca c).mpr hc,An,An];omega
  ·have hc:z∉c:=λq=>by have:=hz.mp q;rw [BJ ha] at this;exact hb this
   rw [BJ λq=>ha<|(ca a).mp q,BJ λq=>hb<|(ca b).mp q,BJ λq=>hc<|(ca c).mp q];exact ih
theorem e9{n:Net}{ss:List Str}:rz n ss=true↔∀ r∈n,(r.2.filter λz=>ss.contains z).length % 2=0:=by
 unfold rz;rw [List.all_eq_true];exact⟨λh r hr=>by simpa using h r hr,λh r hr=>by simpa using h r hr⟩
theorem J'(k:Nat)(z:Str):∀(ts:List Str) (p:Nat),(bu (aW k ts p) z).length=ts.count z
 | [],p=>rfl
 | t :: r,p=>by
  have ih:=J' k z r<|p+1;have e:aW k (t :: r) p=(t,(k,p)) :: aW k r (p+1):=by unfold aW;rfl
  rw [e];unfold bu at ih ⊢;rw [Db,Cr]
  by_cases h:t=z
  ·rw [BL<|BW h,Au,An,ih,BL<|by simpa using h]
  ·rw [BJ λq=>h<|BX q,ih,BJ<|by simpa using h];rfl
theorem Ka(a b:List<|Str×End)(z:Str):bu (a++b) z=bu a z++bu b z:=by
 unfold bu;rw [Dq,Ah]
theorem zq{k:Nat}{ts:List Str}{p:Nat}{z:Str}{e:End}(h:e∈bu (aW k ts p) z):e.1=k:=by
 unfold bu at h;obtain⟨x,hx,rfl⟩:=Aj.mp h;obtain⟨y,e⟩:=x;exact(bA.mp (Da.mp hx).1).1
theorem Kb{a:List Str}(hn:a.Nodup):∀ l:List Str,(l.filter λz=>a.contains z).length=(a.map λz=>l.count z).sum
 | []=>by
  have:∀ a:List Str,(a.map λz=>([]:List Str).count z).sum=0:=λa=>by
   induction a with
   | nil=>rfl
   | cons x r ih=>rw [Au,Bm,ih];rfl
  rw [this];rfl
 | y :: l=>by
  have ih:=Kb hn l;have key:∀ a:List Str,(a.map λz=>(y :: l).count z).sum=(a.map λz=>l.count z).sum+a.count y:=λa=>by
   induction a with
   | nil=>rfl
   | cons x r ih=>
    rw [Au,Bm,ih,Au,Bm,Cr,Cr]
    by_cases h:y=x
    ·rw [BL (by simp [h]),BL<|by simp [h]];omega
    ·rw [BJ (by simpa using h),BJ<|by simpa using λq=>h<|Eq.symm q];omega
  rw [key,Db,<- ih,hn.count]
  by_cases h:y∈a
  ·rw [BL<|Dc.mpr h,BL h,An]
  ·rw [BJ λq=>h<|Dc.mp q,BJ h];rfl
theorem VF{n:Net}(T:aq n){ss:List Str}(hn:ss.Nodup)(hm:∀ z∈ss,z∈ag n):2 * ss.length<=(ag n).length:=by
 have h:=Kb hn<|ag n;have e:∀ l:List Str,(∀ z∈l,z∈ag n)->(l.map λz=>(ag n).count z).sum=2 * l.length:=λl=>by
  induction l with
  | nil=>intro _;rfl
  | cons x r ih=>
   intro hl;rw [Au,Bm,ih λz hz=>hl z<|Ae _ hz,T x<|hl x<|Ad ..,An];omega
 rw [e ss hm] at h;rw [<- h];exact QF _ _
theorem VG{x y:Str}(h:x≠y):x.cps.toList < y.cps.toList\/y.cps.toList < x.cps.toList:=by
 by_cases q:x.cps.toList < y.cps.toList
 ·exact .inl q
 ·rcases List.le_iff_lt_or_eq.mp (List.not_lt.mp q) with q | q
  ·exact .inr q
  ·exact absurd (cb.f9 q).symm h
theorem Kc(x:Str):∀ sd:List Str,ia sd->∃ gR,ia gR/\∀ y,y∈gR↔y=x\/y∈sd
 | [],_=>⟨[x],MJ _ _,λy=>by simp⟩
 | z :: r,h=>by
  have h:=Cz.mp h
  by_cases e:x=z
  ·subst e;exact⟨x :: r,Cz.mpr h,λy=>by simp⟩
  ·rcases VG e with q | q
   ·refine⟨x :: z :: r,Cz.mpr ⟨λy hy=>?_,Cz.mpr h⟩,λy=>Ai⟩
    rcases Ai.mp hy with rfl | hy
    ·exact q
    ·exact Fw q<|h.1 y hy
   ·obtain⟨gR,hs,hm⟩:=Kc x r h.2;refine⟨z :: gR,Cz.mpr ⟨λy hy=>?_,hs⟩,λy=>?_⟩
    ·rcases (hm y).mp hy with rfl | hy
     ·exact q
     ·exact h.1 y hy
    ·rw [Ai,hm y,Ai];exact⟨λk=>by rcases k with k | k | k <;> simp [k],λk=>by rcases k with k | k | k <;> simp [k]⟩
theorem zu:∀ l:List Str,∃ sd,ia sd/\∀ x,x∈sd↔x∈l
 | []=>⟨[],List.Pairwise.nil,λ_=>Iff.rfl⟩
 | x :: r=>by
  obtain⟨sd,hs,hm⟩:=zu r;obtain⟨gR,fK,VH⟩:=Kc x sd hs;exact⟨gR,fK,λy=>by rw [VH y,hm y,Ai]⟩
def HF(n:Net):Prop:=cV n/\Fl n
theorem VI{nm:Str}:HF [(nm,[])]:=⟨Vy _,Vo⟩
theorem VJ{n:Net}{c:End}{z pt:Str}(T:aq n)(F:Full n)(hz:z∉ag n)(hc:dD n c) (hp:(ag<|ins n c z++[(pt,[z])]).Perm<|z :: z :: ag n) (P:HF n):HF (ins n c z++[(pt,[z])]):=
 ⟨VA (zh P.1)<|Vz hc.1,Vp T F hz hc hp P.2⟩
theorem VL{n:Net}{k1 k2:End}{z:Str}(T:aq n)(F:Full n)(hz:z∉ag n)(h1:dD n k1)(h2:dD n k2) (hp:(ag<|ins (ins n k1 z) k2 z).Perm<|z :: z :: ag n) (ord:k2=k1\/sh k1 k2=k2) (same:(∃ k,it (step n) k k1=k2)\/∃ k,it (step n) k k2=k1) (P:HF n):HF (ins (ins n k1 z) k2 z):=
 ⟨zh<|zh P.1,Vq T F hz h1 h2 hp ord same P.2⟩
theorem VM{n n2 n0:Net}{j i:Nat}(hj:j < n.length)(hi:i < max 1 (row n j).length)(T0:aq n0)(pt:(ag n++ag n2).Perm<|ag n0)
  (eF:(ag (n.eraseIdx j)++ag (n2++[(n[j].1,(row n j).drop i++(row n j).take i)])).Perm<|ag n0) (P:HF<|n++n2):HF (n.eraseIdx j++(n2++[(n[j].1,(row n j).drop i++(row n j).take i)])):=by
 refine⟨J3 (λr hr=>?_) (λx hx=>?_) P.1,Vt hj hi T0 pt eF P.2⟩
 ·rcases Aq.mp hr with hx | hx
  ·rcases (cb.cJ n j hj).symm.mem_iff.mp hx |> Ai.mp with q | q
   ·refine⟨(n[j].1,(row n j).drop i++(row n j).take i),Ap _<|Ap _<|Am.mpr rfl,by rw [q],λt ht=>?_⟩;refine(yr (row n j) i).mem_iff.mpr ?_;rw [jg hj,<- q];exact ht
   ·exact⟨r,Aw _ q,rfl,λt h=>h⟩
  ·exact⟨r,Ap _<|Aw _ hx,rfl,λt h=>h⟩
 ·rcases Aq.mp hx with hx | hx
  ·exact⟨x,Aw _<|Fo hx,rfl⟩
  ·rcases Aq.mp hx with hx | hx
   ·exact⟨x,Ap _ hx,rfl⟩
   ·rw [Am] at hx;exact⟨n[j],Aw _<|Bn hj,by rw [hx]⟩
theorem vh(s:Str->Bool):∀ l:List Str,az (l.map s)=decide ((l.filter s).length % 2=1)
 | []=>rfl
 | x :: l=>by
  show(s x ^^ az (l.map s))=_;rw [vh s l,Db];cases h:s x
  ·rw [BJ (by decide),Ge]
  ·rw [BL rfl,An,QT,<- decide_not];exact decide_eq_decide.mpr<|by omega
theorem VN{n:Net}{ss:List Str}(h:rz n ss=true):cU n (λz=>ss.contains z):=λr=>by
 rw [vh]
 by_cases hr:r < n.length
 ·have:=e9.mp h n[r]<|Bn hr;rw [jg hr];exact BR<|by omega
 ·have:row n r=[]:=by
   unfold row;rw [Bc<|by omega];rfl
  rw [this];rfl
theorem VO{n:Net}{s:Str->Bool}{ss:List Str}(h:cU n s)(hs:∀ z∈ag n,ss.contains z=s z):rz n ss=true:=e9.mpr λr hr=>by
 obtain⟨i,hi,rfl⟩:=Ce.mp hr;have:=h i;rw [vh,jg hi] at this;have e:(n[i].2.filter λz=>ss.contains z)=n[i].2.filter s:=List.filter_congr λz hz=>hs z<|Fk.mpr ⟨n[i],hr,hz⟩;rw [e];have:=GQ this;omega
theorem o9{α:Type}:∀ l:List α,az (l.map λ_=>false)=false
 | []=>rfl
 | _ :: l=>by show(false ^^ az _)=false;rw [o9 l];rfl
theorem zx(x:Nat)(e:End):∀ m,az ((List.range m).map λp=>decide ((x,p)=e))=decide (x=e.1/\e.2 < m)
 | 0=>by simp [az]
 | m+1=>by
  rw [Di,Ah,nk,zx x e m];show(decide (x=e.1/\e.2 < m) ^^ (decide ((x,m)=e) ^^ false))=_;rw [QG];obtain⟨a,b⟩:=e
  by_cases h:x=a
  ·by_cases h2:b=m
   ·subst h;subst h2;simp
   ·have e1:((x,m)=(a,b))=False:=by simp [h];omega
    rw [BR (p:=(x,m)=(a,b)) (by rw [e1];exact id),QG];exact decide_eq_decide.mpr ⟨λq=>⟨q.1,by have:=q.2;omega⟩,λq=>⟨q.1,by have:=q.2;show b < m;omega⟩⟩
  ·rw [BR λq=>h q.1,BR λq=>h<|BZ Prod.fst q,BR λq=>h q.1];rfl
theorem Kd{n:Net}(T:aq n){e:End}{t:Str}(h:aJ n e=some t)(x:Nat):az ((row n x).map λy=>decide (y=t))=(decide (x=e.1) ^^ decide (x=(other n e).1)):=by
 have o:=cF T h;rw [J0 n x (λy=>decide (y=t)) (λa=>decide (a=e) ^^ decide (a=other n e)) λp z hz=>?_]
 ·rw [jj (λp=>decide ((x,p)=e)) λp=>decide ((x,p)=other n e),zx,zx];have l1:=fw h;have l2:=fw o.1
  congr 1
  ·exact decide_eq_decide.mpr ⟨λq=>q.1,λq=>⟨q,by rw [q];exact l1⟩⟩
  ·exact decide_eq_decide.mpr ⟨λq=>q.1,λq=>⟨q,by rw [q];exact l2⟩⟩
 ·have hz:aJ n (x,p)=some z:=hz
  by_cases q:z=t
  ·subst q
   rcases (o8 T h).mp hz with k | k
   ·rw [k,BW rfl,BW rfl,BR<|CG o.2.2];rfl
   ·rw [k,BW rfl,BW rfl,BR o.2.2];rfl
  ·have h1:((x,p):End)≠e:=λk=>by rw [k,h] at hz;exact q (Option.some.inj hz).symm
   have h2:((x,p):End)≠other n e:=λk=>by rw [k,o.1] at hz;exact q (Option.some.inj hz).symm
   rw [BR q,BR h1,BR h2];rfl
end Nt
namespace Y3
open PySem L2 Nt bJ
def zy:Sp:=λvs H Q _=>∃(R:Addr) (as:List<|Addr×Addr) (n:Net) (b:Int) (z pt:Str),vs=[.ref R,.int b,.str z,.str pt]/\aj H R as n/\aq n/\Full n/\z∉ag n/\n.length<=100/\(ag n).length<=100 /\
 ∀ i nr n' H',aj H' R nr n'->mN H H' (R :: as.map (·.2))->(∀ a∈nr,a∈as\/H a.2=none)->(ag n').Perm (z :: z :: ag n)->(n'.map (·.1)=n.map (·.1)\/n'.map (·.1)=n.map (·.1)++[pt])->Full n'->(HF n->HF n')->Q (.int i) H'
section
variable{P:Program}{w:World}{K:PySem.W.Frag}{mg:Str->Option Value}{base:Heap}
abbrev NP:List Str:=["_law_rows","_law_big_here","_law_tie","_law_point","_law_corners","_law_r","_law_place","_law_one","_law_kind","_law_face_here","_law_other_here","_law_spot"]
theorem kY:ao NP ["_law_rows","_law_big_here","_law_tie","_law_point"] (bm m6):=⟨rfl,rfl,rfl,by decide +kernel,rfl,by decide +kernel,by decide +kernel⟩
theorem Ke{ts:List Addr}{j:Nat}{t:Addr}(h:ts[j]?=some t):dw (ts.map V.ref) (j:Int)=some (.ref t):=km<|by rw [Ag,h];rfl
theorem VP{f:Addr}{fd:FuncData}(F:bM K "_law_put" "_law_put" m6 f fd)(T:Txt mg)
  (GS:aY P w K mg base 3 "_law_seats" ["_law_rows"] uU)
  (GF:aY P w K mg base 3 "_law_face" ["_law_rows","_law_seats_here","_law_end"] yY) :
  aI P w K mg base bH 4 f fd ["_law_rows","_law_big_here","_law_tie","_law_point"] zy:=by
 refine F.gb kY (λvs H Q E h=>?_) λb0 H vs Q E hr h=>?_
 ·obtain⟨R,as,n,b,z,pt,rfl,_⟩:=h;rfl
 obtain⟨R,as,n,b,z,pt,rfl,hR,hT,hF,hz,hn,Z',q⟩:=h;have nd:=kY.nd;have hu:=hr.iA;have bV:=hR.len;show Run _ _ _ [some<|.ref R,some<|.int b,some<|.str z,some<|.str pt,none,none,none,none,none,none,none,none] H;refine aQ 4 nd<|eW<|aD ⟨Z0,λlc Kf=>?_⟩;have g0:=a9 Kf<|.lst [];refine i8 T.range (cI dC T.len CW<|ai<|ae 0<|aD ⟨R,_,rfl,.inl<|au.of<|g0 _ _ hR.lst,_,rfl,by omega,by rw [Aa];omega,?_⟩);rw [Aa,bV,By];refine i' (λr σ H3=>∃(ts:List Addr) (cs:List Nt.End) (u1 u2:Option V),ak H H3/\H3 lc=some (.lst<|ts.map V.ref)/\Pd H3 ts cs/\(∀ c∈cs,dD n c)/\(0 < r->cs≠[])/\cs.length<=101 * r/\σ=[some<|.ref R,some<|.int b,some<|.str z,some<|.str pt,some<|.ref lc,u1,u2,none,none,none,none,none]) ⟨[],[],_,_,g0,aC,.nil,λc hc=>(nomatch hc),λh=>absurd h (by decide),Al _,rfl⟩ ?_ ?_
 ·rintro r σ H3 hi ⟨ts,cs,u1,u2,sH,el,ep,hc,bL,hlen,rfl⟩;rw [Dl];refine bz 5 nd ?_;obtain⟨a,ea,dL,et,VQ,er⟩:=(hR.same sH).at hi;have fD:=hV n r;refine i8 T.range<|cI (Gm rfl) T.max QJ<|ai<|aA<|ai<|cI dC T.len CW<|ai<|a8 cu<|a8 cC<|ae 0<|ae 5 ⟨R,_,_,.ref a.1,rfl,rfl,au.of<|sH _ _ hR.lst,dL,aA ⟨a.1,_,_,.ref a.2,rfl,rfl,aP.of et,rfl,aD ⟨a.2,_,rfl,.inl<|au.of VQ,?_⟩⟩⟩;rw [Aa];have em:(if((row n r).length:Int) > 1 then((row n r).length:Int) else 1)=((max 1 (row n r).length:Nat):Int):=by
   split <;> omega
  refine aD ⟨1,_,rfl,((max 1 (row n r).length:Nat):Int),by rw [em],by omega,by omega,?_⟩;rw [By];refine i' (λp σ H4=>∃(ts:List Addr) (cs:List Nt.End) (u2:Option V),ak H H4/\H4 lc=some (.lst<|ts.map V.ref)/\Pd H4 ts cs/\(∀ c∈cs,dD n c)/\(0 < r+p->cs≠[])/\cs.length<=101 * r+p/\σ=[some<|.ref R,some<|.int b,some<|.str z,some<|.str pt,some<|.ref lc,some<|.int (r:Int),u2,none,none,none,none,none]) ⟨ts,cs,_,sH,el,ep,hc,bL,hlen,rfl⟩ ?_ ?_
  ·rintro p σ H4 hp ⟨ts,cs,u2,sH,el,ep,hc,bL,hlen,rfl⟩;rw [Dl];refine bz 6 nd ?_;refine hG<|kD<|ae 4 ⟨lc,rfl,⟨_,el⟩,eg<|ai<|ae 5<|ai<|ae 6<|aD ⟨Z2,λt ht=>?_⟩⟩;have mL:lc≠t:=bD el ht;have s2:=a9 ht<|Tp (r,p);have zA:=ep.length;refine⟨ts.map V.ref,by rw [aw mL];exact el,by rw [Aa];exact cn (by omega),?_⟩;refine bg ⟨ts++[t],cs++[(r,p)],_,dJ (sH.trans s2) Kf,by rw [aC,Ah];rfl,?_,λc h=>?_,λ_=>by simp,by rw [Af];simp;omega,rfl⟩
   ·refine Pd.append (ep.keep λx e h=>?_)<|.cons ?_ .nil
    ·rw [aw<|qT h el];exact s2 _ _ h
    ·rw [aw mL.symm,aC]
   ·rcases Aq.mp h with h | h
    ·exact hc c h
    ·rw [Am] at h;subst h;exact⟨hi,hp⟩
  ·rintro σ H4 ⟨ts,cs,u2,sH,el,ep,hc,bL,hlen,rfl⟩;refine bg ⟨ts,cs,_,_,sH,el,ep,hc,λ_=>bL (by omega),by omega,rfl⟩
 rintro σ H3 ⟨ts,cs,u1,u2,sH,el,ep,hc,bL,hlen,rfl⟩;have xX:0 < n.length:=Co.mpr hF.some;have ju:=bL xX;have dX:0 < cs.length:=Co.mpr ju;have zA:=ep.length;have m0:0<=b % (cs.length:Int):=Bq _ (by omega);have m1:b % (cs.length:Int) < cs.length:=Bv _ (by omega);obtain⟨j,hj⟩:∃ j:Nat,b % (cs.length:Int)=j:=⟨(b % (cs.length:Int)).toNat,by omega⟩;have mS:j < cs.length:=by omega
 have vi:cs[j]?=some cs[j]:=Ab mS;obtain⟨t1,VR,e1⟩:=ep.at vi;have fU:dD n cs[j]:=hc _<|Bn mS;generalize cs[j]=c1 at e1 fU;refine aQ 7 nd<|a8 cC<|ae 4<|aS cE<|ae 1<|cI dC T.len CW<|ai<|ae 4<|aD ⟨lc,_,rfl,.inl<|au.of el,?_⟩;rw [Aa,zA];refine⟨_,_,rfl,rfl,by omega,lc,_,_,.ref t1,rfl,rfl,au.of el,by rw [hj];exact Ke VR,?_⟩;refine aQ 1 nd<|aS fV<|ae 1<|cI dC T.len CW<|ai<|ae 4<|aD ⟨lc,_,rfl,.inl<|au.of el,?_⟩;rw [Aa,zA];refine⟨_,_,rfl,rfl,⟨by omega,by omega⟩,?_⟩;show Run _ _ _ [some<|.ref R,some<|.int<|b / (cs.length:Int),some<|.str z,some<|.str pt,some<|.ref lc,u1,u2,some<|.ref t1,none,none,none,none] H3;generalize b / (cs.length:Int)=b2;refine aQ 8 nd (aS cE<|ae 1<|aA ⟨_,_,rfl,rfl,(by show(0:Int) < 3;decide),?_⟩);refine aQ 1 nd (aS fV<|ae 1<|aA ⟨_,_,rfl,rfl,⟨by decide,by decide⟩,?_⟩);show Run _ _ _ [some<|.ref R,some<|.int<|b2 / 3,some<|.str z,some<|.str pt,some<|.ref lc,u1,u2,some<|.ref t1,some<|.int<|b2 % 3,none,none,none] H3;generalize b2 / 3=b3;have jR:=hR.same sH;obtain⟨a,ea,dL,eta,Kg,era⟩:=jR.at fU.1;have Kh:∀(m:Net),(ag m).length<=200->∀ i,(row m i).length<=200:=λm h i=>Cd (hV m i) h;have cin:c1.2<=(row n c1.1).length:=by
  have:=fU.2;omega
 refine fX<|eB gK<|ae 8<|aA ⟨rfl,_,rfl,?_⟩;refine jE (λ_=>?_) λ_=>bg ?_
 ·
  have rl:=hV n c1.1;refine hG<|yf EY LQ LR Ij<|a8 cu<|a8 cC<|ae 0<|a8 cu<|ae 7<|aA ⟨t1,_,_,.int (c1.1:Int),rfl,rfl,aP.of e1,rfl,R,_,_,.ref a.1,rfl,rfl,au.of jR.lst,dL,aA ⟨a.1,_,_,.ref a.2,rfl,rfl,aP.of eta,rfl,Or.inl ⟨rfl,_,au.of Kg⟩,?_⟩⟩;refine a8 cu (ae 7<|aA ⟨t1,_,_,.int (c1.2:Int),rfl,rfl,aP.of e1,rfl,ae 2 ⟨a.2,_,_,_,rfl,rfl,Kg,by omega,by rw [By,Aa];exact cin,by rw [Aa];exact cn (by omega),?_⟩⟩);rw [By,IB];have R4:=jR.ins (z:=z) ea fU.1;refine hG<|kD<|ae 0 ⟨R,rfl,⟨_,R4.lst⟩,eg<|ai<|ae 3<|ai<|eW<|ai<|ae 2<|aD ⟨Z1,λl1 gu=>?_⟩⟩;refine aD ⟨Z2,λt2 iJ=>?_⟩;have s5:=a9 gu<|Ls [z];have s6:=a9 iJ<|.tup [.str pt,.ref l1];have R6:=(R4.same s5).same s6;refine⟨_,R6.lst,by rw [Aa];exact cn (by omega),?_⟩;have VS:H3 l1=none:=by
   by_cases q1:l1=a.2
   ·rw [q1,aC] at gu;cases gu
   ·rwa [aw q1] at gu
  have VU:l1∉as.map (·.2):=λhm=>by
   obtain⟨x,hx,e⟩:=Aj.mp hm;exact R4.fresh gu hx e.symm
  have VV:l1≠R:=λe=>by rw [e,R4.lst] at gu;cases gu
  have R7:=R6.more (t:=t2) (l:=l1) (pt:=pt) (zs:=[z]) aC (s6 _ _ aC) VU VV;have tp:(ag<|ins n c1 z++[(pt,[z])]).Perm (z :: z :: ag n):=by
   unfold ag;rw [Dm];show(ag (ins n c1 z)++[z]).Perm _;exact(Bx).trans<|(jf n c1 z fU.1).cons z
  refine cf<|ae 1<|q _ _ _ _ R7 (λx o hx iS=>?_) (λx hx=>?_) tp (.inr ?_) ?_ λhP=>VJ hT hF hz fU tp hP
  ·have x1:x≠R:=λe=>iS (by rw [e];exact Ad);have x2:x≠a.2:=λe=>iS (Ae _<|by rw [e];exact Aj.mpr ⟨a,At ea,rfl⟩);rw [aw x1];refine s6 _ _<|s5 _ _ ?_;rw [aw x2];exact sH _ _ hx
  ·rcases Aq.mp hx with hx | hx
   ·exact .inl hx
   ·rw [Am] at hx;subst hx;exact .inr<|sH.free VS
  ·rw [Ah,yn];rfl
  ·refine .inr ⟨by simp,λi hi=>?_⟩;have VW:=(yo (z:=z) hF fU.1 hF.either).1;rw [Af] at hi;simp at hi
   rcases Ef i (ins n c1 z).length with h | h
   ·have:=VW i h;unfold row at this ⊢;rw [Av h];exact this
   ·unfold row;rw [Az h,show i - (ins n c1 z).length=0 by omega];simp
 ·
  refine aQ 9 nd<|eW<|ai<|ae 7<|aD ⟨Z1,λlf Ki=>?_⟩;have s4:=a9 Ki<|.lst [.ref t1];have sH4:=sH.trans s4;have nw:=jR.same s4;obtain⟨a0,ea0,zB,VX,Kj,er0⟩:=nw.at xX;have VY:∀ x∈as,lf≠x.2:=λx hx=>jR.fresh Ki hx;show Run _ _ _ [some<|.ref R,some<|.int b3,some<|.str z,some<|.str pt,some<|.ref lc,u1,u2,some<|.ref t1,some<|.int<|b2 % 3,some<|.ref lf,none,none] (upd H3 lf<|.lst [.ref t1]);refine SE (λk H'=>ak (upd H3 lf<|.lst [.ref t1]) H'/\(k=true->row n 0≠[])) (λσ' H'=>∃(lf:Addr) (jh:List Addr) (fs:List Nt.End),ak H3 H'/\(∀ x∈as,lf≠x.2)/\H' lf=some (.lst<|jh.map V.ref)/\Pd H' jh fs/\0 < fs.length/\fs.length<=1000/\(∀ c∈fs,dD n c/\∃ k,it (step n) k c1=c) /\
   σ'=[some<|.ref R,some<|.int b3,some<|.str z,some<|.str pt,some<|.ref lc,u1,u2,some<|.ref t1,some<|.int<|b2 % 3,some<|.ref lf,none,none]) ?_ ?_ (λH5 ⟨s5,_⟩=>bg ⟨lf,[t1],[c1],s4.trans s5,VY,s5 _ _ aC,.cons (s5 _ _<|s4 _ _ e1) .nil,Fg,by show 1<=1000;decide,λc jS=>by rw [Am] at jS;rw [jS];exact⟨fU,0,rfl⟩,rfl⟩) ?_
  ·refine eB (um hu)<|a8 cu<|a8 cC<|ae 0<|aA ⟨R,_,_,.ref a0.1,rfl,rfl,au.of nw.lst,zB,aA ⟨a0.1,_,_,.ref a0.2,rfl,rfl,aP.of VX,rfl,eW<|aD ⟨Z0,λp hp=>?_⟩⟩⟩;have s5:=a9 hp<|.lst []
   by_cases h0:row n 0=[]
   ·refine⟨1,_,by decide,Ie (k:=0) (xs:=[]) (ys:=[]) (λ_=>true) (au.of<|by rw [s5 _ _ Kj,h0];rfl) (au.of aC) rfl (λj x y hx _=>by simp at hx),_,rfl,s5,λh=>by cases h⟩
   ·refine⟨1,_,by decide,Ig (k:=1) (au.of<|s5 _ _ Kj) (au.of (xs:=[]) aC) (by rw [Aa];intro h;exact h0<|Bh.mp h),_,rfl,s5,λ_=>h0⟩
  ·rintro H4 ⟨zC,h0⟩;have h0:=h0 rfl;have nw:=nw.same zC;have vf:=hF.cg h0 fU;have rB:=iD n;refine aQ 9 nd (bN GF hr<|ai<|ae 0<|ai<|bN GS hr<|ai<|ae 0<|aD ⟨R,as,n,rfl,nw,by omega,by omega,λd ks H5 s5 n5 S5=>?_⟩);refine ai (ae 7<|aD ⟨R,d,t1,as,n,ks,c1,rfl,nw.same s5,S5,hT,s5 _ _<|zC _ _<|s4 _ _ e1,vf,by omega,λl6 VZ V0 H6 s6 n6 e6 p6 f6=>?_⟩);exact bg ⟨l6,VZ,V0,s4.trans<|zC.trans<|s5.trans s6,λx hx=>(nw.same s5).fresh n6 hx,e6,p6,f6.pos,by have:=f6.len;omega,λc jS=>⟨Te<|f6.ends hT vf c jS,Ve f6 jS⟩,rfl⟩
  ·rintro σ' H5 ⟨lf,jh,fs,s5,V1,zD,Kk,V2,V3,zE,rfl⟩;have rC:=Kk.length;have n0:0<=b3 % (fs.length:Int):=Bq _ (by omega);have n1:b3 % (fs.length:Int) < fs.length:=Bv _ (by omega);obtain⟨j2,fN⟩:∃ j:Nat,b3 % (fs.length:Int)=j:=⟨(b3 % (fs.length:Int)).toNat,by omega⟩;have rD:j2 < fs.length:=by omega
   have zF:fs[j2]?=some fs[j2]:=Ab rD;obtain⟨t2,nA,e2⟩:=Kk.at zF;obtain⟨nB,zG⟩:=zE _<|Bn rD;generalize fs[j2]=c2 at e2 nB zG;have mE:=s5 _ _ e1;refine aQ 10 nd<|a8 cC<|ae 9<|aS cE<|ae 1<|cI dC T.len CW<|ai<|ae 9<|aD ⟨lf,_,rfl,.inl<|au.of zD,?_⟩;rw [Aa,rC];refine⟨_,_,rfl,rfl,by omega,lf,_,_,.ref t2,rfl,rfl,au.of zD,by rw [fN];exact Ke nA,?_⟩;have pc:=jR.same s5;show Run _ _ _ [some<|.ref R,some<|.int b3,some<|.str z,some<|.str pt,some<|.ref lc,u1,u2,some<|.ref t1,some<|.int<|b2 % 3,some<|.ref lf,some<|.ref t2,none] H5;refine my<|SY T.sorted<|eW<|ai<|ae 7<|ai<|ae 10<|aD ⟨Z2,λl2 qB=>?_⟩;have s6:=a9 qB<|.lst [.ref t1,.ref t2];refine⟨l2,t1,t2,(c1.1:Int),(c1.2:Int),(c2.1:Int),(c2.2:Int),rfl,aC,s6 _ _ mE,s6 _ _ e2,λrr Kl=>?_⟩;have rn:∀ x∈as,rr≠x.2:=λx hx=>(pc.same s6).fresh Kl hx;obtain⟨x1,x2,k1,k2,dE,f1,f2,q1,q2,zH,rE⟩:∃ x1 x2 k1 k2,(if lexLt ((c1.1:Int),(c1.2:Int)) ((c2.1:Int),(c2.2:Int))=true then [V.ref t2,.ref t1] else [.ref t1,.ref t2])=[.ref x1,.ref x2]/\(upd H5 l2<|.lst [.ref t1,.ref t2]) x1=some (Tp k1)/\(upd H5 l2<|.lst [.ref t1,.ref t2]) x2=some (Tp k2)/\dD n k1/\dD n k2/\(k2=k1\/sh k1 k2=k2)/\((∃ k,it (step n) k k1=k2)\/∃ k,it (step n) k k2=k1):=by
    cases Km:lexLt ((c1.1:Int),(c1.2:Int)) ((c2.1:Int),(c2.2:Int)) with
    | true=>exact⟨t2,t1,c2,c1,rfl,s6 _ _ e2,s6 _ _ mE,nB,fU,.inr<|Vb Km,.inr zG⟩
    | false=>exact⟨t1,t2,c1,c2,rfl,s6 _ _ mE,s6 _ _ e2,fU,nB,Vc Km,.inl zG⟩
   rw [dE];have s7:=a9 Kl<|.lst [.ref x1,.ref x2];have f1:=s7 _ _ f1;have f2:=s7 _ _ f2;have s6:=s6.trans s7;have fr:=aC (H:=upd H5 l2<|.lst [.ref t1,.ref t2]) (a:=rr) (o:= .lst [.ref x1,.ref x2]);generalize upd (upd H5 l2<|.lst [.ref t1,.ref t2]) rr (.lst [.ref x1,.ref x2])=H6 at f1 f2 s6 fr ⊢;have nC:ak H H6:=sH.trans<|s5.trans s6;have zI:=pc.same s6;have rF:mN H H6 (R :: as.map (·.2)):=λx o hx _=>nC _ _ hx;refine⟨rr,rfl,⟨_,au.of fr⟩,mB (xs:=[.ref x1,.ref x2]) (λi σ H7=>∃(m:Net) (u:Option V),aj H7 R as m/\mN H H7 (R :: as.map (·.2))/\H7 rr=some (.lst [.ref x1,.ref x2])/\H7 lf=some (.lst<|jh.map V.ref)/\H7 x1=some (Tp k1)/\H7 x2=some (Tp k2) /\
    ((i=0/\m=n)\/(i=1/\m=ins n k1 z)\/(i=2/\m=ins (ins n k1 z) k2 z))/\σ=[some<|.ref R,some<|.int b3,some<|.str z,some<|.str pt,some<|.ref lc,u1,u2,some<|.ref t1,some<|.int<|b2 % 3,some<|.ref lf,some<|.ref t2,u]) ⟨n,_,zI,rF,fr,s6 _ _ zD,f1,f2,.inl ⟨rfl,rfl⟩,rfl⟩ ?_ ?_ ?_⟩
   ·rintro i σ H7 _ ⟨m,u,_,_,vj,_⟩;exact au.of vj
   ·rintro i v σ H7 hv ⟨m,u,nD,rG,vj,zJ,g1,g2,hm,rfl⟩;have V4:=(jf n k1 z q1.1).length_eq;rw [An] at V4;obtain⟨y,k,rfl,hy,hk,dN,hml⟩:∃ y k,v = .ref y/\H7 y=some (Tp k)/\dD m k/\((i+1=0/\ins m k z=n)\/(i+1=1/\ins m k z=ins n k1 z)\/(i+1=2/\ins m k z=ins (ins n k1 z) k2 z))/\(ag m).length<=200:=by
     rcases hm with ⟨rfl,rfl⟩ | ⟨rfl,rfl⟩ | ⟨rfl,rfl⟩
     ·cases hv;exact⟨x1,k1,rfl,g1,q1,.inr<|.inl ⟨rfl,rfl⟩,by omega⟩
     ·cases hv;exact⟨x2,k2,rfl,g2,uC q2 q1.1,.inr<|.inr ⟨rfl,rfl⟩,by omega⟩
     ·simp at hv
    refine bz 11 nd ?_;obtain⟨a',Kn,zK,zL,jT,V5⟩:=nD.at hk.1;have rl:=hV m k.1;have pY:k.2<=(row m k.1).length:=by
     have:=hk.2;omega
    refine hG<|yf EY LQ LR Ij<|a8 cu<|a8 cC<|ae 0<|a8 cu<|ae 11<|aA ⟨y,_,_,.int (k.1:Int),rfl,rfl,aP.of hy,rfl,R,_,_,.ref a'.1,rfl,rfl,au.of nD.lst,zK,aA ⟨a'.1,_,_,.ref a'.2,rfl,rfl,aP.of zL,rfl,Or.inl ⟨rfl,_,au.of jT⟩,?_⟩⟩;refine a8 cu (ae 11<|aA ⟨y,_,_,.int (k.2:Int),rfl,rfl,aP.of hy,rfl,ae 2 ⟨a'.2,_,_,_,rfl,rfl,jT,by omega,by rw [By,Aa];exact pY,by rw [Aa];exact cn (by omega),?_⟩⟩);rw [By,IB];have am:a'∈as:=At Kn;refine bg ⟨ins m k z,_,nD.ins Kn hk.1,λx o hx iS=>?_,by rw [aw<|rn a' am];exact vj,by rw [aw<|V1 a' am];exact zJ,by rw [aw<|qT g1 jT];exact g1,by rw [aw<|qT g2 jT];exact g2,dN,rfl⟩;have x2:x≠a'.2:=λe=>iS (Ae _<|by rw [e];exact Aj.mpr ⟨a',am,rfl⟩);rw [aw x2];exact rG x o hx iS
   ·rintro σ H7 ⟨m,u,nD,rG,vj,zJ,g1,g2,hm,rfl⟩;have em:m=ins (ins n k1 z) k2 z:=by
     rcases hm with ⟨h,_⟩ | ⟨h,_⟩ | ⟨_,h⟩
     ·exact absurd h<|by show ¬(2=0);decide
     ·exact absurd h<|by show ¬(2=1);decide
     ·exact h
    refine cf<|aS fV<|ae 1<|cI dC T.len CW<|ai<|ae 9<|aD ⟨lf,_,rfl,.inl<|au.of zJ,?_⟩;rw [Aa,rC];refine⟨_,_,rfl,rfl,⟨by omega,by omega⟩,?_⟩;have fi:=yo (z:=z) hF q1.1 hF.either;have F2:Full (ins n k1 z):= .inr ⟨fi.2,fi.1⟩;have Ko:=yo (z:=z) F2 (uC (z:=z) q2 q1.1).1 F2.either;subst em;exact q _ as _ H7 nD rG (λx hx=> .inl hx) ((jf _ k2 z (uC (z:=z) q2 q1.1).1).trans<|(jf n k1 z q1.1).cons z) (.inl<|by rw [yn,yn]) (.inr ⟨Ko.2,Ko.1⟩) λhP=>VL hT hF hz q1 q2 ((jf _ k2 z (uC (z:=z) q2 q1.1).1).trans<|(jf n k1 z q1.1).cons z) zH rE hP
def zM:Sp:=λvs H Q _=>∃(b m sm:Int),vs=[.int b,.int m,.int sm]/\0<=m/\m<=35 /\
 ∀ L as n H',ak H H'->H L=none->aj H' L as n->aq n->(n.map (·.1)).Nodup->Full n->HF n->(ag n).length<=2 * m.toNat->2 * (b % (m+1)).toNat=(ag n).length->n.length<=m.toNat+1->(∀ a∈as,H a.2=none)->Q (.ref L) H'
abbrev NB:List Str:=["_law_big_here","_law_most","_law_stem","_law_many","_law_ties","_law_points","_law_rows","_law_k","_law_told","_law_row","_law_size"]
theorem kZ:ao NB ["_law_big_here","_law_most","_law_stem"] (bm m7):=⟨rfl,rfl,rfl,by decide +kernel,rfl,by decide +kernel,by decide +kernel⟩
theorem V6{H:Hp}{d:Addr}{xs:List V}(h:H d=some (.lst xs)):l9 K "list" (.ref d) H:=Or.inl ⟨rfl,xs,au.of h⟩
theorem rA{b:Int}{m i:Nat}(h:i < m):dw ((namesOf b m).map V.str) (i:Int)=some (.str<|aK b i):=yi<|Td h
theorem V7{f:Addr}{fd:FuncData}(F:bM K "_law_net_by" "_law_net_by" m7 f fd)(T:Txt mg)
  (GN:aY P w K mg base 4 "_law_names" ["_law_stem","_law_many"] yX)
  (GP:aY P w K mg base 4 "_law_put" ["_law_rows","_law_big_here","_law_tie","_law_point"] zy) :
  aI P w K mg base bH 5 f fd ["_law_big_here","_law_most","_law_stem"] zM:=by
 refine F.gb kZ (λvs H Q E h=>?_) λb0 H vs Q E hr h=>?_
 ·obtain⟨b,m,sm,rfl,_⟩:=h;rfl
 obtain⟨b,m,sm,rfl,m0,m35,q⟩:=h;have nd:=kZ.nd;have hu:=hr.iA;have k0:0<=b % (m+1):=Bq _ (by omega);have k1:b % (m+1) < m+1:=Bv _ (by omega);obtain⟨mn,Kp⟩:∃ k:Nat,b % (m+1)=k:=⟨(b % (m+1)).toNat,by omega⟩;have hmm:mn<=m.toNat:=by omega
 show Run _ _ _ [some<|.int b,some<|.int m,some<|.int sm,none,none,none,none,none,none,none,none] H;refine aQ 3 nd<|aS cE<|ae 0<|aS d9<|ae 1<|aA ⟨_,_,rfl,rfl,?_⟩;refine⟨_,_,rfl,rfl,(by show 0 < m+1;omega),?_⟩;refine aQ 0 nd<|aS fV<|ae 0<|aS d9<|ae 1<|aA ⟨_,_,rfl,rfl,?_⟩;refine⟨_,_,rfl,rfl,(by show ql b (m+1);exact⟨by omega,by omega⟩),?_⟩;show Run _ _ _ [some<|.int<|b / (m+1),some<|.int m,some<|.int sm,some<|.int<|b % (m+1),none,none,none,none,none,none,none] H;rw [Kp];generalize b / (m+1)=b1;refine aQ 4 nd (bN GN hr<|ai<|ae 2<|ai<|ae 3<|aD ⟨sm,(mn:Int),rfl,by omega,by omega,λlt H1 s1 n1 e1=>?_⟩);rw [By] at e1;refine aQ 5 nd (bN GN hr<|ai<|a8 cC<|eW<|ai<|aS d9<|aS fV<|ae 2<|aA ⟨_,_,rfl,rfl,⟨by decide,by decide⟩,aA ⟨_,_,rfl,rfl,ai<|ae 2<|aD ⟨Z2,λp hp=>?_⟩⟩⟩);refine qL Ik T.m9 JC (ai<|qK gK<|aS cE<|ae 2<|aA ⟨_,_,rfl,rfl,(by show(0:Int) < 4;decide),aA ⟨rfl,aD ⟨_,rfl,?_⟩⟩⟩);have s2:=a9 hp<|.lst [.int<|sm / 3+1,.int sm];obtain⟨ib,ex⟩:∃ ib:Int,dw [V.int<|sm / 3+1,.int sm] (if decide (V.int (sm % 4)=V.int 1)=true then 1 else 0)=some (.int ib):=by
  cases decide (V.int (sm % 4)=V.int 1) with
  | true=>exact⟨sm,rfl⟩
  | false=>exact⟨sm / 3+1,rfl⟩
 refine⟨p,_,_,.int ib,rfl,rfl,au.of aC,ex,?_⟩;refine ai (aS d9<|ae 3<|aA ⟨_,_,rfl,rfl,aD ⟨ib,(mn:Int)+1,rfl,by omega,by omega,λlp H2 s3 n3 e3=>?_⟩⟩);have em:((mn:Int)+1).toNat=mn+1:=by omega
 rw [em] at e3;have zN:ak H H2:=s1.trans<|s2.trans s3;have e1:H2 lt=some (Ls<|namesOf sm mn):=s3 _ _<|s2 _ _ e1;show Run _ _ _ [some<|.int b1,some<|.int m,some<|.int sm,some<|.int (mn:Int),some<|.ref lt,some<|.ref lp,none,none,none,none,none] H2;refine aQ 6 nd<|eW<|ai<|eg<|ai<|a8 cC<|ae 5<|aA ⟨lp,_,_,.str<|aK ib 0,rfl,rfl,au.of e3,rA<|LK _,ai<|eW<|aD ⟨Z0,λl1 gu=>?_⟩⟩;refine aD ⟨Z2,λt1 zO=>aD ⟨Z1,λR vk=>?_⟩⟩;have s4:=a9 gu<|Ls [];have s5:=a9 zO<|.tup [.str<|aK ib 0,.ref l1];have s6:=a9 vk<|.lst [.ref t1];have V8:aj (upd (upd (upd H2 l1<|.lst []) t1<|.tup [.str<|aK ib 0,.ref l1]) R<|.lst [.ref t1]) R [(t1,l1)] [(aK ib 0,[])]:=by
  refine⟨rfl,aC,λi a r h1 h2=>?_,by simp⟩;cases i with
  | zero=>
   cases h1;cases h2;exact⟨s6 _ _ aC,s6 _ _<|s5 _ _ aC⟩
  | succ i=>simp at h1
 have fR:H2 R=none:=s4.free<|s5.free vk;show Run _ _ _ [some<|.int b1,some<|.int m,some<|.int sm,some<|.int (mn:Int),some<|.ref lt,some<|.ref lp,some<|.ref R,none,none,none,none] (upd (upd (upd H2 l1<|.lst []) t1<|.tup [.str<|aK ib 0,.ref l1]) R<|.lst [.ref t1]);refine i8 T.range (ae 3 ⟨(mn:Int),rfl,by omega,by omega,?_⟩);rw [By];refine i' (λk σ H3=>∃(as:List<|Addr×Addr) (n:Net) (b:Int) (u:Option V),aj H3 R as n/\ak H2 H3/\(∀ a∈as,H2 a.2=none)/\Full n/\HF n/\(ag n).Perm (dbl<|namesOf sm k)/\n.map (·.1)=namesOf ib n.length/\n.length<=k+1 /\
  σ=[some<|.int b,some<|.int m,some<|.int sm,some<|.int (mn:Int),some<|.ref lt,some<|.ref lp,some<|.ref R,u,none,none,none]) ⟨_,_,b1,_,V8,s4.trans<|s5.trans s6,λa ha=>by rw [Am] at ha;rw [ha];exact gu,.inl ⟨_,rfl⟩,VI,List.Perm.refl _,rfl,Al _,rfl⟩ ?_ ?_
 ·rintro k σ H3 hk ⟨as,n,b,u,hR,sH,oP,hF,vp,hp,vq,hlen,rfl⟩;rw [Dl];refine bz 7 nd ?_;have bV:=hR.len;have tl:=hp.length_eq;rw [yq,ym] at tl;have nz:aK sm k∉ag n:=λh=>by
   have h1:=ga.mp<|hp.mem_iff.mp h;have h2:=uA (b:=sm) (m:=k+1) (by omega);rw [uB,Bu] at h2;exact h2.2.2 _ h1 _ (Am.mpr rfl) rfl
  have n0:0 < n.length:=Co.mpr hF.some;refine aQ 0 nd<|bN GP hr<|ai<|ae 6<|ai<|ae 0<|ai<|a8 cC<|ae 4<|ae 7 ⟨lt,_,_,.str<|aK sm k,rfl,rfl,au.of<|sH _ _ e1,rA hk,?_⟩;refine ai<|a8 cC<|ae 5<|cI dC T.len CW<|ai<|ae 6<|aD ⟨R,_,rfl,.inl<|au.of hR.lst,?_⟩;rw [Aa,bV];refine⟨lp,_,_,.str<|aK ib n.length,rfl,rfl,au.of<|sH _ _ e3,rA (by omega),?_⟩;refine aD ⟨R,as,n,b,aK sm k,aK ib n.length,rfl,hR,IC (uA<|by omega) hp,hF,nz,by omega,by omega,λi nr n' H' vt kp zP k4 rH rJ zQ=>?_⟩;have V9:ak H2 H':=λx o hx=>by
   refine kp x o (sH _ _ hx) λhm=>?_
   rcases Ai.mp hm with h | h
   ·rw [h,fR] at hx;cases hx
   ·obtain⟨y,hy,e⟩:=Aj.mp h;rw [<- e,oP y hy] at hx;cases hx
  refine bg ⟨nr,n',i,_,vt,V9,λy hy=>?_,rJ,zQ vp,?_,?_,?_,rfl⟩
  ·rcases zP y hy with h | h
   ·exact oP y h
   ·exact sH.free h
  ·refine k4.trans ?_;rw [uB,Tg];refine List.Perm.trans ?_ Bx;exact((hp.cons _).cons _)
  ·rcases rH with h | h
   ·have hl:=BZ List.length h;rw [Aa,Aa] at hl;rw [h,hl];exact vq
   ·have hl:=BZ List.length h;rw [Aa,Af,Aa] at hl;have mQ:n'.length=n.length+1:=hl;rw [h,mQ,uB,vq]
  ·rcases rH with h | h
   ·have hl:=BZ List.length h;rw [Aa,Aa] at hl;omega
   ·have hl:=BZ List.length h;rw [Aa,Af,Aa] at hl;have mQ:n'.length=n.length+1:=hl;omega
 rintro σ H3 ⟨V',n0,b,u,hR,sH,oP,hF,zR,hp,vq,hlen,rfl⟩;have tl:=hp.length_eq;rw [yq,ym] at tl;have Kq:aq n0:=IC (uA<|by omega) hp;have Wa:(n0.map (·.1)).Nodup:=by rw [vq];exact uA<|by omega
 refine aQ 8 nd<|eW<|aD ⟨Z0,λL hL=>?_⟩;have s7:=a9 hL<|.lst [];have Kr:R≠L:=bD hR.lst hL;have fL:H2 L=none:=sH.free hL;have vw:aj (upd H3 L<|.lst []) L [] []:=⟨rfl,aC,λi a r h1=>by simp at h1,by simp⟩;refine oS (λk σ H4=>∃(as k5:List<|Addr×Addr) (n n2:Net) (b:Int) (u9 Ks:Option V),k=n.length/\aj H4 R as n/\aj H4 L k5 n2/\ak H2 H4/\(∀ a∈as,a.2≠L)/\(∀ a∈k5,a.2≠R)/\(∀ a∈k5,H2 a.2=none)/\n.length+n2.length=n0.length /\
   (ag n++ag n2).Perm (ag n0)/\(n.map (·.1)++n2.map (·.1)).Perm (n0.map (·.1))/\(NE n0->NE n/\NE n2)/\HF (n++n2) /\
   σ=[some<|.int b,some<|.int m,some<|.int sm,some<|.int (mn:Int),some<|.ref lt,some<|.ref lp,some<|.ref R,u,some<|.ref L,u9,Ks])
  (m0:=n0.length) ⟨V',[],n0,[],b,_,_,rfl,hR.same s7,vw,sH.trans s7,λa ha=>(hR.fresh hL ha).symm,λa ha=>(nomatch ha),λa ha=>(nomatch ha),rfl,by simp [ag],by simp,λh=>⟨h,λr hr=>(nomatch hr)⟩,by rw [Be];exact zR,rfl⟩ ?_
 rintro k σ H4 ⟨as,k5,n,n2,b,u9,Ks,rfl,hR,pf,sH,aL,aR,Kt,rK,pt,pn,bL,vp,rfl⟩;have bV:=hR.len;have zS:=pf.len;have Wb:(ag n).length<=70:=by
  have:=pt.length_eq;rw [Af] at this;omega
 refine eB (um hu)<|ae 6<|eW<|aD ⟨Z0,λp jF=>?_⟩;have s8:=a9 jF<|.lst []
 by_cases h0:n=[]
 ·subst h0;have ea:as=[]:=Bh.mp (by simpa using bV);subst ea;refine⟨1,_,by decide,Ie (k:=0) (xs:=[]) (ys:=[]) (λ_=>true) (au.of<|s8 _ _ hR.lst) (au.of aC) rfl (λj x y hx _=>by simp at hx),_,rfl,b4<|cf<|ae 8 ?_⟩;have eF:(ag n2).Perm (ag n0):=pt;have Wc:(n2.map (·.1)).Perm (n0.map (·.1)):=pn;have l2:n2.length=n0.length:=by simpa using rK
  refine q L k5 n2 _ (zN.trans<|sH.trans s8) (zN.free fL) (pf.same s8) (λz hz=>?_) (Wc.nodup_iff.mpr Wa) ?_ vp (by rw [eF.length_eq];omega) (by rw [eF.length_eq,Kp];omega) (by omega) λa ha=>zN.free<|Kt a ha
  ·rw [eF.count_eq];exact Kq z<|eF.mem_iff.mp hz
  ·rcases hF.ne with ⟨nm,h⟩ | h
   ·subst h;have t0:ag n2=[]:=List.Perm.eq_nil eF
    match n2,l2,t0 with
    | [(nm2,zs)],_,t0=>
     have:zs=[]:=by simpa [ag] using t0
     subst this;exact .inl ⟨_,rfl⟩
   ·refine Ti (bL h).2 λe=>?_;rw [e] at l2;exact hF.some<|Bh.mp l2.symm
 ·have np:0 < n.length:=Co.mpr h0;refine⟨1,_,by decide,Ig (k:=1) (au.of<|s8 _ _ hR.lst) (au.of (xs:=[]) aC) (by rw [Aa,bV];exact Ds np),_,rfl,bP ?_⟩;have hR:=hR.same s8;have pf:=pf.same s8;have sH:=sH.trans s8;generalize upd H4 p (.lst [])=H5 at hR pf sH ⊢;have r0:0<=b % (n.length:Int):=Bq _ (by omega);have r1:b % (n.length:Int) < n.length:=Bv _ (by omega);obtain⟨j,hj⟩:∃ k:Nat,b % (n.length:Int)=k:=⟨(b % (n.length:Int)).toNat,by omega⟩;have nE:j < n.length:=by omega
  obtain⟨a,ea,dL,et,el,er⟩:=hR.at nE;refine aQ 9 nd<|Ii EY PySem.F.slot_list_pop PySem.F.type_list_pop QU<|ae 6 ⟨V6 hR.lst,aS cE<|ae 0<|cI dC T.len CW<|ai<|ae 6<|aD ⟨R,_,rfl,.inl<|au.of hR.lst,?_⟩⟩;rw [Aa,bV];refine⟨_,_,rfl,rfl,by omega,R,_,_,j,.ref a.1,rfl,rfl,hR.lst,by rw [hj];omega,by rw [hj];omega,?_,?_,?_⟩
  ·rw [hj,Aa,bV];unfold seqIndex?;have c1:¬((j:Int) < 0):=by omega
   simp only [c1,CV];have c2:(decide (0<=(j:Int)) && decide ((j:Int) < (n.length:Int)))=true:=by
    rw [Cs,DR,DR];omega
   rw [BL c2,By]
  ·rw [Ag,ea];rfl
  have R6:=hR.erase nE;have am:a∈as:=At ea;have zT:∀ x∈as,x.2≠R:=λx hx e=>by
   obtain⟨zs,e2⟩:=hR.lists hx;have h3:=hR.lst;rw [<- e,e2] at h3;have h4:=HO.lst.inj<|Option.some.inj h3;cases as with
   | nil=>cases hx
   | cons b' bs=>
    cases zs with
    | nil=>simp at h4
    | cons y r=>simp at h4
  have L6:=pf.upd (o:= .lst<|(as.map λa=>V.ref a.1).eraseIdx j) hR.lst Kr.symm aR;have rL:(upd H5 R<|.lst<|(as.map λa=>V.ref a.1).eraseIdx j) a.1=some (.tup [.str n[j].1,.ref a.2]):=by rw [aw<|bW et hR.lst λe=>nomatch e];exact et
  have vx:(upd H5 R<|.lst<|(as.map λa=>V.ref a.1).eraseIdx j) a.2=some (Ls<|row n j):=by rw [aw<|zT a am];exact el
  have nC:ak H2 (upd H5 R<|.lst<|(as.map λa=>V.ref a.1).eraseIdx j):=dJ sH fR;generalize upd H5 R (.lst<|(as.map λa=>V.ref a.1).eraseIdx j)=H6 at R6 L6 rL vx nC ⊢;have Wd:=R6.len;have nF:(n.eraseIdx j).length=n.length - 1:=by rw [Ej,BL nE]
  refine aQ 0 nd<|aS fV<|ae 0<|aS d9<|cI dC T.len CW<|ai<|ae 6<|aD ⟨R,_,rfl,.inl<|au.of R6.lst,aA ⟨_,_,rfl,rfl,?_⟩⟩;rw [Aa,Wd,nF];refine⟨_,_,rfl,rfl,⟨by omega,by omega⟩,?_⟩;have Wf:=hV n j;refine aQ 10 nd<|cI (Gm rfl) T.max QJ<|ai<|aA<|ai<|cI dC T.len CW<|ai<|a8 cu<|ae 9<|aA ⟨a.1,_,_,.ref a.2,rfl,rfl,aP.of rL,rfl,aD ⟨a.2,_,rfl,.inl<|au.of vx,?_⟩⟩;rw [Aa];refine aD ⟨1,_,rfl,?_⟩;have Wg:(if((row n j).length:Int) > 1 then((row n j).length:Int) else 1)=((max 1 (row n j).length:Nat):Int):=by
   split <;> omega
  rw [Wg];show Run _ _ _ [some<|.int<|b / ((n.length - 1:Nat)+1:Int),some<|.int m,some<|.int sm,some<|.int (mn:Int),some<|.ref lt,some<|.ref lp,some<|.ref R,u,some<|.ref L,some<|.ref a.1,some<|.int ((max 1 (row n j).length:Nat):Int)] H6;generalize b / ((n.length - 1:Nat)+1:Int)=b2;have z0:0<=b2 % ((max 1 (row n j).length:Nat):Int):=Bq _ (by omega);obtain⟨i,hi⟩:∃ k:Nat,b2 % ((max 1 (row n j).length:Nat):Int)=k:=⟨(b2 % ((max 1 (row n j).length:Nat):Int)).toNat,by omega⟩;refine hG<|kD<|ae 8 ⟨L,rfl,⟨_,L6.lst⟩,eg<|ai<|a8 cu<|ae 9<|aA ⟨a.1,_,_,.str n[j].1,rfl,rfl,aP.of rL,rfl,?_⟩⟩;refine ai (aS QY<|ub tZ<|a8 cu<|ae 9<|aA ⟨a.1,_,_,.ref a.2,rfl,rfl,aP.of rL,rfl,ud<|aS cE<|ae 0<|ae 10 ⟨b2,((max 1 (row n j).length:Nat):Int),rfl,rfl,by omega,_,rfl,uc ⟨a.2,_,rfl,au.of vx,λp1 nG=>?_⟩⟩⟩);rw [hi,IG];have t1:=a9 nG<|Ls<|(row n j).drop i;refine ub tZ (a8 cu<|ae 9<|aA ⟨a.1,_,_,.ref a.2,rfl,rfl,aP.of<|t1 _ _ rL,rfl,uc<|ud<|aS cE<|ae 0<|ae 10 ⟨b2,((max 1 (row n j).length:Nat):Int),rfl,rfl,by omega,_,rfl,a.2,_,rfl,au.of<|t1 _ _ vx,λp2 jF=>?_⟩⟩);rw [hi,Tl];have t2:=a9 jF<|Ls<|(row n j).take i;refine⟨p1,p2,_,_,rfl,rfl,t2 _ _ aC,aC,?_,λp3 nH=>?_⟩
  ·rw [Aa,Aa,Cp,Bj];exact small<|by omega
  rw [<- Ah];have t3:=a9 nH<|Ls<|(row n j).drop i++(row n j).take i;refine aD ⟨Z2,λt4 Wh=>?_⟩;have s4:=a9 Wh<|.tup [.str n[j].1,.ref p3];have nI:=t1.trans<|t2.trans<|t3.trans s4;have L7:=L6.same nI;have R7:=R6.same nI;have Wi:p3≠L:=λe=>by rw [e,(t1.trans t2) _ _ L6.lst] at nH;cases nH
  have Wj:p3≠R:=λe=>by rw [e,(t1.trans t2) _ _ R6.lst] at nH;cases nH
  have Wk:p3∉k5.map (·.2):=λhm=>by
   obtain⟨y,hy,e⟩:=Aj.mp hm;exact(L6.same<|t1.trans t2).fresh nH hy e.symm
  have L8:=L7.more (t:=t4) (l:=p3) (pt:=n[j].1) (zs:=(row n j).drop i++(row n j).take i) aC (s4 _ _ aC) Wk Wi;refine⟨_,L7.lst,by rw [Aa,zS];exact cn (by omega),?_⟩;have Ku:∀ x∈as.eraseIdx j,x.2≠L:=λx hx=>aL x<|Fo hx;have R8:=R7.upd (o:= .lst<|k5.map (λa=>V.ref a.1)++[.ref t4]) L7.lst Kr Ku;refine aQ 0 nd (aS fV<|ae 0<|ae 10 ⟨b2,((max 1 (row n j).length:Nat):Int),rfl,rfl,⟨by omega,by omega⟩,?_⟩);have pe:=IE n j nE;have ne:=Tj n j nE;have Kv:(ag (n.eraseIdx j)++ag (n2++[(n[j].1,(row n j).drop i++(row n j).take i)])).Perm (ag n0):=by
   refine List.Perm.trans ?_ pt;unfold ag;rw [Dm];show(ag (n.eraseIdx j)++(ag n2++(((row n j).drop i++(row n j).take i)++[]))).Perm _;rw [Be,er];have w1:(n[j].2.drop i++n[j].2.take i).Perm n[j].2:=yr _ _;refine((w1.append_left _).append_left _).trans ?_;have w2:(ag n++ag n2).Perm ((n[j].2++ag (n.eraseIdx j))++ag n2):=pe.append_right _;refine List.Perm.trans ?_ w2.symm;rw [Ao];refine List.Perm.trans ?_<|Bx (l₁:=ag (n.eraseIdx j)++ag n2);rw [Ao]
  refine bg ⟨n.length - 1,by omega,as.eraseIdx j,k5++[(t4,p3)],n.eraseIdx j,n2++[(n[j].1,(row n j).drop i++(row n j).take i)],_,_,_,nF.symm,R8,L8,dJ (nC.trans nI) fL,Ku,λx hx=>?_,λx hx=>?_,?_,Kv,?_,λh=>⟨λr hr=>?_,λr hr=>?_⟩,VM nE (by have:=Bv b2 (show(0:Int) < ((max 1 (row n j).length:Nat):Int) by omega);rw [hi] at this;exact Int.ofNat_lt.mp this) Kq pt Kv vp,rfl⟩
  ·rcases Aq.mp hx with hx | hx
   ·exact aR x hx
   ·rw [Am] at hx;rw [hx];exact Wj
  ·rcases Aq.mp hx with hx | hx
   ·exact Kt x hx
   ·rw [Am] at hx;rw [hx];exact nC.free<|t1.free<|t2.free nH
  ·rw [Af,nF];simp;omega
  ·refine List.Perm.trans ?_ pn;rw [Ah];show((n.eraseIdx j).map (·.1)++(n2.map (·.1)++[n[j].1])).Perm _;refine List.Perm.trans ?_ (ne.append_right _).symm;rw [<- Ao];exact Bx
  ·exact(bL h).1 r<|Fo hr
  ·rcases Aq.mp hr with hr | hr
   ·exact(bL h).2 r hr
   ·rw [Am] at hr;rw [hr];intro e;have w1:=(yr (row n j) i).length_eq;have e':(row n j).drop i++(row n j).take i=[]:=e;rw [e'] at w1;have:=(bL h).1 n[j]<|Bn nE;rw [er] at w1;exact this<|Bh.mp w1.symm
def zU:Sp:=λvs H Q _=>∃(R:Addr) (as:List<|Addr×Addr) (n:Net),vs=[.ref R]/\aj H R as n/\n.length<=1000/\∀ L nr H',ak H H'->H L=none->(∀ a∈nr,H a.1=none/\H a.2=none)->aj H' L nr n->Q (.ref L) H'
theorem fO{H H':Hp}{l:Addr}(s:ak H H')(h:H' l=none):H l=none:=by
 cases e:H l with
 | none=>rfl
 | some v=>rw [s _ _ e] at h;cases h
abbrev NC:List Str:=["_law_rows"]
abbrev Kw:List Str:=["_law_rows","_law_row"]
theorem iT:ao NC ["_law_rows"] (bm uS):=⟨rfl,rfl,rfl,by decide +kernel,rfl,by decide +kernel,by decide +kernel⟩
theorem zV:Kw.Nodup:=by decide +kernel
theorem Wl{f:Addr}{fd:FuncData}(F:bM K "_law_copy" "_law_copy" uS f fd)(T:Txt mg):aI P w K mg base bH 1 f fd ["_law_rows"] zU:=by
 refine F.gb iT (λvs H Q E h=>?_) λb0 H vs Q E hr h=>?_
 ·obtain⟨R,as,n,rfl,_⟩:=h;rfl
 obtain⟨R,as,n,rfl,hR,hn,q⟩:=h;have nd:=iT.nd;have bV:=hR.len;show Run _ _ _ [some<|.ref R] H;refine cf<|oQ (bm uS) NC Kw 1 (lR bw)<|ae 0 ⟨R,rfl,⟨_,au.of hR.lst⟩,λD hD=>?_⟩;refine yv (xs:=as.map λa=>V.ref a.1) (λi σ' H'=>(∃ v,σ'=[some<|.ref R]++[v])/\∃ bs:List<|Addr×Addr,bs.length=i/\H' D=some (.lst<|bs.map λa=> .ref a.1) /\
  (∀(j:Nat) a r,bs[j]?=some a->n[j]?=some r->H' a.1=some (.tup [.str r.1,.ref a.2])/\H' a.2=some (Ls r.2))/\(bs.map (·.2)).Nodup/\(∀ a∈bs,a.2≠D/\H a.1=none/\H a.2=none/\∃ zs,H' a.2=some (Ls zs))/\ak H H')
  ⟨⟨none,rfl⟩,[],rfl,aC,λj a r h=>by simp at h,Cf,λa h=>by simp at h,a9 hD _⟩ ?_ ?_ ?_
 ·rintro i σ' H' _ ⟨_,bs,_,_,_,_,_,sm⟩;exact au.of<|sm _ _ hR.lst
 ·rintro i x σ' H' hx ⟨⟨v,rfl⟩,bs,zW,k6,zX,nJ,ph,sm⟩;have hi:i < n.length:=by
   have:=(Ac.mp hx).1;rw [Aa] at this;omega
  obtain⟨a,ea,dL,et,el,er⟩:=(hR.same sm).at hi;rw [Ag,ea] at hx;cases hx;intro cl C' s₀ H₀ ex;refine bz 1 zV ?_;intro cl C' s₀ H₀ ex;refine fY ?_;rw [BL rfl];intro cl C' s₀ H₀ ex;refine eg<|ai<|a8 cu<|ae 1<|aA ⟨a.1,_,_,.str n[i].1,rfl,rfl,aP.of et,rfl,?_⟩;refine ai<|qL QE T.kK PN<|ai<|a8 cu<|ae 1<|aA ⟨a.1,_,_,.ref a.2,rfl,rfl,aP.of et,rfl,?_⟩;refine aD ⟨a.2,_,rfl,.inl<|au.of el,λl hl=>aD ⟨Z2,λt ht=>?_⟩⟩;have ix:=fO sm hl;have zY:t≠l:=λe=>by rw [e,aC] at ht;cases ht
  have d7:H' t=none:=by rw [aw zY] at ht;exact ht
  have Kx:=fO sm d7;have pk:l≠D:=λe=>by rw [e] at hl;rw [hl] at k6;cases k6
  have Ky:t≠D:=λe=>by rw [e] at d7;rw [d7] at k6;cases k6
  refine⟨bs.map λa=> .ref a.1,?_,?_,⟨_,rfl⟩,bs++[(t,l)],by rw [Af,zW];rfl,?_,?_,?_,?_,?_⟩
  ·rw [aw<|CG Ky,aw<|CG pk];exact k6
  ·rw [Aa];exact cn<|by omega
  ·rw [aC,Ah];rfl
  ·intro j b r hb hZ
   by_cases hj:j < bs.length
   ·rw [Av hj] at hb;obtain⟨q1,q2⟩:=zX j b r hb hZ;have Wm:=(ph b<|At hb).1;have n1:b.1≠D:=bW q1 k6 λz=>nomatch z;refine⟨?_,?_⟩
    ·rw [aw n1,aw<|bD q1 d7,aw<|bD q1 hl];exact q1
    ·rw [aw Wm,aw<|bD q2 d7,aw<|bD q2 hl];exact q2
   ·rw [Az<|by omega] at hb;have fN:j - bs.length=0:=by
     have:=(Ac.mp hb).1;simp at this;omega
    have jU:j=i:=by omega
    rw [fN] at hb;cases hb;rw [jU,Ab hi] at hZ;cases hZ;refine⟨?_,?_⟩
    ·rw [aw Ky,aC]
    ·rw [aw pk,aw<|CG zY,aC,er]
  ·rw [Ah];refine ku nJ λhm=>?_;obtain⟨b,hb,e⟩:=Aj.mp hm;obtain⟨_,_,_,zs,q⟩:=ph b hb;have e':b.2=l:=e;rw [e',hl] at q;cases q
  ·intro b hb
   rcases Aq.mp hb with hb | hb
   ·obtain⟨q1,q2,q3,zs,q4⟩:=ph b hb;refine⟨q1,q2,q3,zs,?_⟩;rw [aw q1,aw<|bD q4 d7,aw<|bD q4 hl];exact q4
   ·rw [Am.mp hb];refine⟨pk,Kx,ix,row n i,?_⟩;rw [aw pk,aw<|CG zY,aC]
  ·intro c o hc;rw [aw<|bD hc hD,aw<|bD hc Kx,aw<|bD hc ix];exact sm _ _ hc
 ·rintro σ' H' ⟨_,bs,zW,k6,zX,nJ,ph,sm⟩;rw [Aa] at zW;exact q D bs H' sm hD (λa ha=>⟨(ph a ha).2.1,(ph a ha).2.2.1⟩) ⟨by omega,k6,zX,nJ⟩
end
abbrev Tn(p:Str)(j:Int):HO:= .tup [.str p,.int j]
def rM:Sp:=λvs H Q _=>∃(t l:Addr) (p:Str) (zs:List Str),vs=[.ref t]/\H t=some (.tup [.str p,.ref l])/\H l=some (Ls zs)/\zs.length<=1000 /\
 ∀(L:Addr) (ts:List Addr) (H':Hp),ak H H'->H L=none->H' L=some (.lst<|ts.map V.ref)->ts.length=zs.length->(∀(j:Nat) t,ts[j]?=some t->H' t=some (Tn p j))->Q (.ref L) H'
section
variable{X:Cx}{elt tg:Expr}{ifs:List Expr}{scope:Scope}{σ:St}{H:Hp}{N':List Str}{A:Addr}{after:Hp->Prop}
theorem Kz{lo:Int}{n:Nat}(Pv:Nat->St->Hp->Prop)(h0:Pv 0 σ H)
  (hs : ∀ i σ' H', i < n → Pv i σ' H' → uh X N' scope tg (.int<|lo + i) σ' H' λσ2 H3 => ui X N' scope ifs σ2 H3 λb H4 =>
   if b=true then ug X N' scope elt σ2 H4 λv H5=>∃ ys,H5 A=some (.lst ys)/\ys.length < sizeLine/\Pv (i+1) σ2 (upd H5 A<|.lst<|ys++[v]) else Pv (i+1) σ2 H4)
  (hd:∀ σ' H',Pv n σ' H'->after H'):kz X N' scope tg ifs elt (lQ lo n) A after σ H:=by
 refine⟨λi m σ' H'=>m=n - i/\i<=n/\Pv i σ' H',⟨_,rfl,Bo _,h0⟩,?_⟩;rintro i m σ' H' ⟨rfl,hi,p⟩
 by_cases bn:i < n
 ·refine .inr ⟨bn,Pv<|i+1,λσ' H' p'=>⟨n - (i+1),by omega,rfl,bn,p'⟩,λx H2 y=>?_⟩;obtain⟨e,y⟩:=y;subst e y;exact hs i σ' _ bn p
 ·have e:i=n:=by omega
  subst e;exact .inl ⟨Al _,hd σ' H' p⟩
end
section
variable{P:Program}{w:World}{K:PySem.W.Frag}{mg:Str->Option Value}{base:Heap}
abbrev KA:List Str:=["row","point","ties"]
abbrev KE:List Str:=["row","point","ties","place"]
theorem iU:ao KA ["row"] (bm uM):=⟨rfl,rfl,rfl,by decide +kernel,rfl,by decide +kernel,by decide +kernel⟩
theorem Wn:KE.Nodup:=by decide +kernel
theorem Wo{f:Addr}{fd:FuncData}(F:bM K "ends_round" "ends_round" uM f fd)(T:Txt mg):aI P w K mg base bH 1 f fd ["row"] rM:=by
 refine F.gb iU (λvs H Q E h=>?_) λb0 H vs Q E hr h=>?_
 ·obtain⟨t,l,p,zs,rfl,_⟩:=h;rfl
 obtain⟨t,l,p,zs,rfl,ht,hl,hz,q⟩:=h;have nd:=iU.nd;show Run _ _ _ [some<|.ref t,none,none] H;refine xS<|ae 0<|iE rfl (aP.of ht) (bz 1 nd<|bz 2 nd ?_);show Run _ _ _ [some<|.ref t,some<|.str p,some<|.ref l] H;refine cf<|oQ (bm uM) KA KE 1 (F6 rfl T.range (ta:=oJ _ _) fH (jG _ [] _ rfl)) ?_;show Ea _ _ _ _ _;refine ai (cI dC T.len CW<|ai<|ae 2<|aD ⟨l,_,rfl,.inl<|au.of hl,aD ⟨_,rfl,by omega,by rw [Aa];omega,λD hD=>?_⟩⟩);rw [Aa,By];refine Kz (λi σ' H'=>(∃ v,σ'=[some<|.ref t,some<|.str p,some<|.ref l]++[v])/\∃ ts:List Addr,ts.length=i/\H' D=some (.lst<|ts.map V.ref)/\(∀(j:Nat) t,ts[j]?=some t->H' t=some (Tn p j))/\ak H H')
  ⟨⟨none,rfl⟩,[],rfl,aC,λj t h=>by simp at h,a9 hD _⟩ ?_ ?_
 ·rintro i σ' H' hi ⟨⟨v,rfl⟩,ts,gu,eD,ic,sm⟩;rw [Dl];intro cl C' s₀ H₀ ex;refine bz 3 Wn ?_;intro cl C' s₀ H₀ ex;refine fY ?_;rw [BL rfl];intro cl C' s₀ H₀ ex;refine eg<|ai<|ae 1<|ai<|ae 3<|aD ⟨Z2,λu hu=>?_⟩;have nu:u≠D:=λe=>by rw [e,eD] at hu;cases hu
  have Wp:=fO sm hu;refine⟨ts.map V.ref,by rw [aw<|CG nu];exact eD,by rw [Aa];exact cn (by omega),⟨_,rfl⟩,ts++[u],by rw [Af,gu];rfl,by rw [aC,Ah];rfl,?_,?_⟩
  ·intro j t' d7
   by_cases hj:j < ts.length
   ·rw [Av hj] at d7;have e:=ic j t' d7;have n1:t'≠D:=bW e eD λz=>nomatch z;rw [aw n1,aw<|bD e hu];exact e
   ·rw [Az<|by omega] at d7;have fN:j - ts.length=0:=by
     have:=(Ac.mp d7).1;simp at this;omega
    rw [fN] at d7;cases d7;have:j=i:=by omega
    rw [this,aw nu,aC]
  ·intro c o hc;rw [aw<|bD hc hD,aw<|bD hc Wp];exact sm _ _ hc
 ·rintro σ' H' ⟨_,ts,gu,eD,ic,sm⟩;exact q D ts H' sm hD eD gu ic
def gS(g:Int->Int):Sp:=λvs H Q _=>∃(e:Addr) (p:Str) (j m:Int),vs=[.ref e,.int m]/\H e=some (Tn p j)/\0 < m/\∀ t H',ak H H'->H' t=some (Tn p<|g j % m)->Q (.ref t) H'
abbrev KG:List Str:=["end","many","point","place"]
theorem iV:ao KG ["end","many"] (bm yH):=⟨rfl,rfl,rfl,by decide +kernel,rfl,by decide +kernel,by decide +kernel⟩
theorem fb:ao KG ["end","many"] (bm yI):=⟨rfl,rfl,rfl,by decide +kernel,rfl,by decide +kernel,by decide +kernel⟩
theorem Wq{f:Addr}{fd:FuncData}(F:bM K "turned_left" "turned_left" yH f fd)(T:Txt mg):aI P w K mg base bH 1 f fd ["end","many"] (gS λj=>j+1):=by
 refine F.gb iV (λvs H Q E h=>?_) λb0 H vs Q E hr h=>?_
 ·obtain⟨e,p,j,m,rfl,_⟩:=h;rfl
 obtain⟨e,p,j,m,rfl,he,hm,q⟩:=h;have nd:=iV.nd;show Run _ _ _ [some<|.ref e,some<|.int m,none,none] H;refine xS<|ae 0<|iE rfl (aP.of he) (bz 2 nd<|bz 3 nd ?_);refine cf (eg<|ai<|ae 2<|ai<|aS cE<|aS d9<|ae 3<|aA ⟨_,_,rfl,rfl,ae 1 ⟨_,_,rfl,rfl,(by show 0 < m;exact hm),aD ⟨Z2,λt ht=>?_⟩⟩⟩);exact q t _ (a9 ht _) aC
theorem Wr{f:Addr}{fd:FuncData}(F:bM K "turned_right" "turned_right" yI f fd)(T:Txt mg):aI P w K mg base bH 1 f fd ["end","many"] (gS λj=>j - 1):=by
 refine F.gb fb (λvs H Q E h=>?_) λb0 H vs Q E hr h=>?_
 ·obtain⟨e,p,j,m,rfl,_⟩:=h;rfl
 obtain⟨e,p,j,m,rfl,he,hm,q⟩:=h;have nd:=fb.nd;show Run _ _ _ [some<|.ref e,some<|.int m,none,none] H;refine xS<|ae 0<|iE rfl (aP.of he) (bz 2 nd<|bz 3 nd ?_);refine cf (eg<|ai<|ae 2<|ai<|aS cE<|aS F9<|ae 3<|aA ⟨_,_,rfl,rfl,ae 1 ⟨_,_,rfl,rfl,(by show 0 < m;exact hm),aD ⟨Z2,λt ht=>?_⟩⟩⟩);exact q t _ (a9 ht _) aC
theorem KI{kvs:List (Key×V)}:∀{acc:List (Key×V)},((acc++kvs).map (·.1)).Nodup->kvs.foldl (λa p=>putK a p.1 p.2) acc=acc++kvs:=by
 induction kvs with
 | nil=>intro acc _;simp
 | cons p r ih=>
  intro acc h;have hn:aB acc p.1=none:=by
   cases e:aB acc p.1 with
   | none=>rfl
   | some v=>
    have hm:=xF e;rw [Ah,Au] at h;exact absurd rfl ((Bu.mp h).2.2 _ hm _ Ad)
  rw [Eb,Hc _ hn,ih (by rw [Ao];exact h),Ao];rfl
theorem zZ:∀{kvs:List (Key×V)} {i:Nat} {p:Key×V},(kvs.map (·.1)).Nodup->kvs[i]?=some p->aB kvs p.1=some p.2
 | [],_,_,_,h=>by simp at h
 | q :: r,0,p,_,h=>by
  cases h;exact gL rfl
 | q :: r,i+1,p,hn,h=>by
  rw [Au,Bd] at hn;have hm:r[i]?=some p:=by simpa using h
  rw [gM λe=>hn.1<|by rw [e];exact Aj.mpr ⟨p,At hm,rfl⟩];exact zZ hn.2 hm
def cP(n:Net)(as:List<|Addr×Addr):List (Key×V):=List.zipWith (λr a=>(Sum.inr r.1,V.ref a.2)) n as
theorem z6:∀(n:Net) (as:List<|Addr×Addr),as.length=n.length->(cP n as).map (·.1)=(n.map (·.1)).map Sum.inr
 | [],[],_=>rfl
 | [],_ :: _,h=>by simp at h
 | _ :: _,[],h=>by simp at h
 | r :: n,a :: as,h=>by
  have:=z6 n as (by simpa using h);show Sum.inr r.1 :: (cP n as).map (·.1)=_;rw [this];rfl
theorem vy{n:Net}{as:List (Addr×Addr)}{i:Nat}{r:Str×List Str}{a:Addr×Addr}(h1:n[i]?=some r)(h2:as[i]?=some a):(cP n as)[i]?=some (Sum.inr r.1,.ref a.2):=by
 unfold cP;rw [List.getElem?_zipWith,h1,h2]
theorem KL{l:List Str}(h:l.Nodup):(l.map (Sum.inr:Str->Key)).Nodup:=by
 rw [Cb,Fc];exact(Cb.mp h).imp λh q=>h<|Sum.inr.inj q
end
def nameAt(n:Net)(r:Nat):Str:=((n[r]?).map (·.1)).getD ⟨#[]⟩
def key(n:Net)(e:Nt.End):List Key:=[Sum.inr<|nameAt n e.1,Sum.inl (e.2:Int)]
abbrev TN(n:Net)(e:Nt.End):HO:=Tn (nameAt n e.1) (e.2:Int)
theorem nK{n:Net}{r:Nat}(h:r < n.length):nameAt n r=n[r].1:=by unfold nameAt;rw [Ab h];rfl
theorem nL{n:Net}(hN:(n.map (·.1)).Nodup){a b:Nt.End}(ha:a.1 < n.length)(hb:b.1 < n.length)(h:key n a=key n b):a=b:=by
 unfold key at h
 injection h with h1 h2
 injection h2 with h2 _
 have e1:=Sum.inr.inj h1;have e2:=Sum.inl.inj h2;rw [nK ha,nK hb] at e1;have e3:a.1=b.1:=by
  have la:a.1 < (n.map (·.1)).length:=by rw [Aa];exact ha
  have lb:b.1 < (n.map (·.1)).length:=by rw [Aa];exact hb
  refine(Fv (i:=a.1) (j:=b.1) (h₀:=la) (h₁:=lb) hN).mp ?_;rw [Dr,Dr];exact e1
 exact FJ e3<|by omega
theorem pq{n:Net}{r p:Nat}{z:Str}(hr:r < n.length)(hz:(row n r)[p]?=some z):∃ rest,aU n=(aU (n.take r)++aW r ((row n r).take p) 0)++(z,(r,p)) :: rest:=by
 have e1:aU n=aU (n.take<|r+1)++dh (0+(n.take<|r+1).length) (n.drop<|r+1):=by
  have:=yk (n.take<|r+1) (n.drop<|r+1) 0;rw [Ct] at this;exact this
 have e2:aW r (row n r) 0=aW r ((row n r).take<|p+1) 0++aW r ((row n r).drop<|p+1) (0+((row n r).take<|p+1).length):=by
  unfold aW;rw [<- Ah,<- List.zipIdx_append,Ct]
 rw [e1,mM hr,e2,kF hz];refine⟨aW r ((row n r).drop<|p+1) (0+((row n r).take<|p+1).length)++dh (0+(n.take<|r+1).length) (n.drop<|r+1),?_⟩;simp only [Ao,Fi,Ez]
theorem KO{κ:Type} [DecidableEq κ] (kvs:List<|κ×V) (k:κ) (v:V):(putK kvs k v).map (·.1)=if k∈kvs.map (·.1) then kvs.map (·.1) else kvs.map (·.1)++[k]:=by
 have e:(kvs.any λkv=>decide (kv.1=k))=decide (k∈kvs.map (·.1)):=by
  rw [Ex,List.any_eq_true,HY,Aj];exact⟨λ⟨p,h1,h2⟩=>⟨p,h1,BX h2⟩,λ⟨p,h1,h2⟩=>⟨p,h1,BW h2⟩⟩
 unfold putK;rw [e]
 by_cases h:k∈kvs.map (·.1)
 ·rw [BL<|BW h,BL h,Bi];refine Ay λp _=>?_;show(if p.1=k then(p.1,v) else p).1=p.1
  split <;> rfl
 ·rw [BJ (by simpa using h),BJ h,Ah];rfl
theorem fc{κ:Type} [DecidableEq κ] {kvs:List (κ×V)} {k j:κ} {v:V}:j∈(putK kvs k v).map (·.1)↔j∈kvs.map (·.1)\/j=k:=by
 rw [KO]
 split
 ·exact⟨.inl,λh=>h.elim id λe=>by rw [e];assumption⟩
 ·rw [Aq,Am]
theorem KP{κ:Type} [DecidableEq κ] {kvs:List (κ×V)} {k:κ} {v:V} (h:(kvs.map (·.1)).Nodup):((putK kvs k v).map (·.1)).Nodup:=by
 rw [KO]
 split
 ·exact h
 ·rename_i hn;exact ku h hn
structure gT(n:Net)(done:List<|Str×Nt.End)(H:Hp)(kM:List<|Key×V)(kO:List<|List Key×V):Prop where
 m0:∀ z,bu done z=[]->aB kM (Sum.inr z)=none
 m1:∀ z a rest,bu done z=a :: rest->∃ t,aB kM (Sum.inr z)=some (.ref t)/\H t=some (TN n a)
 o:∀ z a b rest,bu done z=a :: b :: rest->(∃ u,aB kO (key n a)=some (.ref u)/\H u=some (TN n b))/\∃ u,aB kO (key n b)=some (.ref u)/\H u=some (TN n a)
 sub:∀ p∈done,aJ n p.2=some p.1
 dk:kM.length<=done.length
 d8:kO.length<=2 * done.length
 ks:∀ k∈kO.map (·.1),∃ p∈done,k=key n p.2
 nd:(kO.map (·.1)).Nodup
theorem gT.keep{n:Net}{done:List (Str×Nt.End)}{H H':Hp}{kM:List (Key×V)}{kO:List (List Key×V)}(I:gT n done H kM kO)(k:∀ t p j,H t=some (Tn p j)->H' t=some (Tn p j)):gT n done H' kM kO where
 m0:=I.m0
 m1:=λz a rest h=>let ⟨t,e1,e2⟩:=I.m1 z a rest h;⟨t,e1,k _ _ _ e2⟩
 o:=λz a b rest h=>let ⟨⟨u,e1,e2⟩,⟨v,e3,e4⟩⟩:=I.o z a b rest h;⟨⟨u,e1,k _ _ _ e2⟩,⟨v,e3,k _ _ _ e4⟩⟩
 sub:=I.sub
 dk:=I.dk
 d8:=I.d8
 ks:=I.ks
 nd:=I.nd
theorem rN{done:List (Str×Nt.End)}{z:Str}{a:Nt.End}(h:a∈bu done z):(z,a)∈done:=by
 unfold bu at h;obtain⟨⟨y,b⟩,hm,rfl⟩:=Aj.mp h;obtain⟨h1,h2⟩:=Da.mp hm;have:y=z:=BX h2;subst this;exact h1
theorem gT.new{n:Net}{done:List (Str×Nt.End)}{H:Hp}{kM:List (Key×V)}{kO:List (List Key×V)}(I:gT n done H kM kO){z:Str}{e:Nt.End}{t:Addr}(ht:H t=some (TN n e))(hz:aJ n e=some z)(h0:bu done z=[]) :
  gT n (done++[(z,e)]) H (putK kM (Sum.inr z)<|.ref t) kO where
 m0:=λy hy=>by
  rw [cM] at hy;obtain⟨h1,h2⟩:=Er.mp hy;have bL:¬ z=y:=λq=>by rw [BL q] at h2;cases h2
  rw [cZ,BJ λq=>bL (Sum.inr.inj q).symm];exact I.m0 y h1
 m1:=λy a rest hy=>by
  rw [cM] at hy
  by_cases q:z=y
  ·subst q;rw [h0,BL rfl] at hy;cases hy;exact⟨t,by rw [cZ,BL rfl],ht⟩
  ·rw [BJ q,Be] at hy;obtain⟨u,e1,e2⟩:=I.m1 y a rest hy;exact⟨u,by rw [cZ,BJ λp=>q (Sum.inr.inj p).symm];exact e1,e2⟩
 o:=λy a b rest hy=>by
  rw [cM] at hy
  by_cases q:z=y
  ·subst q;rw [h0,BL rfl] at hy;cases hy
  ·rw [BJ q,Be] at hy;exact I.o y a b rest hy
 sub:=λp hp=>by
  rcases Aq.mp hp with h | h
  ·exact I.sub p h
  ·rw [Am.mp h];exact hz
 dk:=by
  have:=fq kM (Sum.inr z)<|.ref t;have:=I.dk;rw [Af,Ck];omega
 d8:=by
  have:=I.d8;rw [Af,Ck];omega
 ks:=λk hk=>let ⟨p,hp,e⟩:=I.ks k hk;⟨p,Aw _ hp,e⟩
 nd:=I.nd
theorem gT.old{n:Net}(hN:(n.map (·.1)).Nodup){done:List (Str×Nt.End)}{H:Hp}{kM:List (Key×V)}{kO:List (List Key×V)}(I:gT n done H kM kO){z:Str}{e a:Nt.End}{te tm:Addr}(ht:H te=some (TN n e))(hm:H tm=some (TN n a))(hz:aJ n e=some z)(h1:bu done z=[a])(Ws:a≠e) :
  gT n (done++[(z,e)]) H kM (putK (putK kO (key n e)<|.ref tm) (key n a)<|.ref te) where
 m0:=λy hy=>by
  rw [cM] at hy;exact I.m0 y (Er.mp hy).1
 m1:=λy c rest hy=>by
  rw [cM] at hy
  by_cases q:z=y
  ·subst q;rw [h1,BL rfl] at hy;cases hy;exact I.m1 z a [] h1
  ·rw [BJ q,Be] at hy;exact I.m1 y c rest hy
 o:=λy c b rest hy=>by
  rw [cM] at hy;have ta:aJ n a=some z:=I.sub (z,a)<|rN<|by rw [h1];exact Am.mpr rfl
  by_cases q:z=y
  ·subst q;rw [h1,BL rfl] at hy;cases hy;refine⟨⟨te,by rw [cZ,BL rfl],ht⟩,⟨tm,?_,hm⟩⟩;rw [cZ,BJ λp=>Ws (nL hN (cT hz) (cT ta) p).symm,cZ,BL rfl]
  ·rw [BJ q,Be] at hy;have tc:aJ n c=some y:=I.sub (y,c) (rN<|by rw [hy];exact Ad);have tb:aJ n b=some y:=I.sub (y,b) (rN<|by rw [hy];exact Ae _ Ad);have ne:∀ x:Nt.End,aJ n x=some y->¬ key n x=key n a/\¬ key n x=key n e:=λx hx=>by
    refine⟨λp=>?_,λp=>?_⟩
    ·have:=nL hN (cT hx) (cT ta) p;rw [this,ta] at hx;exact q<|Option.some.inj hx
    ·have:=nL hN (cT hx) (cT hz) p;rw [this,hz] at hx;exact q<|Option.some.inj hx
   obtain⟨⟨u,e1,e2⟩,⟨v,e3,e4⟩⟩:=I.o y c b rest hy;refine⟨⟨u,?_,e2⟩,⟨v,?_,e4⟩⟩
   ·rw [cZ,BJ (ne c tc).1,cZ,BJ (ne c tc).2];exact e1
   ·rw [cZ,BJ (ne b tb).1,cZ,BJ (ne b tb).2];exact e3
 sub:=λp hp=>by
  rcases Aq.mp hp with h | h
  ·exact I.sub p h
  ·rw [Am.mp h];exact hz
 dk:=by
  have:=I.dk;rw [Af,Ck];omega
 d8:=by
  have h1:=fq (putK kO (key n e)<|.ref tm) (key n a)<|.ref te;have h2:=fq kO (key n e)<|.ref tm;have:=I.d8;rw [Af,Ck];omega
 ks:=λk hk=>by
  rcases fc.mp hk with hk | rfl
  ·rcases fc.mp hk with hk | rfl
   ·obtain⟨p,hp,e⟩:=I.ks k hk;exact⟨p,Aw _ hp,e⟩
   ·exact⟨(z,e),Ap _<|Am.mpr rfl,rfl⟩
  ·exact⟨(z,a),Aw _ (rN<|by rw [h1];exact Am.mpr rfl),rfl⟩
 nd:=KP<|KP I.nd
theorem gT.whole{n:Net}(T:aq n){H:Hp}{kM:List (Key×V)}{kO:List (List Key×V)}(I:gT n (aU n) H kM kO){e:Nt.End}(he:e∈ends n):∃ u,aB kO (key n e)=some (.ref u)/\H u=some (TN n<|other n e):=by
 obtain⟨z,hz⟩:=af.mp he;obtain⟨a,b,hp,cS,Jt⟩:=mJ T hz;have k4:bu (aU n) z=a :: b :: []:=hp;have ta:aJ n a=some z:=aF.mp (by rw [hp];simp);have tb:aJ n b=some z:=aF.mp (by rw [hp];simp);obtain⟨o1,o2⟩:=I.o z a b [] k4
 rcases Jt with rfl | rfl
 ·have:b=other n e:=((o8 T hz).mp tb).resolve_left<|CG cS;rw [<- this];exact o1
 ·have:a=other n e:=((o8 T hz).mp ta).resolve_left cS;rw [<- this];exact o2
def jV:Sp:=λvs H Q _=>∃(R:Addr) (as:List<|Addr×Addr) (n:Net),vs=[.ref R]/\aj H R as n/\(n.map (·.1)).Nodup/\aq n/\n.length<=1000/\(ag n).length<=1000 /\
 ∀(d:Addr) (kvs:List<|List Key×V) (H':Hp),ak H H'->H d=none->H' d=some (.dT kvs)->(∀ e∈ends n,∃ u,aB kvs (key n e)=some (.ref u)/\H' u=some (TN n<|other n e))->(kvs.map (·.1)).Nodup->(∀ k∈kvs.map (·.1),∃ e∈ends n,k=key n e)->kvs.length<=2000->Q (.ref d) H'
section
variable{X:Cx}{D:Ends}{σ:St}{H:Hp}{body:List Stmt}
theorem Wt{tg:Expr}{a b:Addr}{xs ys:List V}{after:St->Hp->Prop}(hlen:xs.length=ys.length)(Pv:Nat->St->Hp->Prop)(h0:Pv 0 σ H)(hl:∀ i σ H,i<=xs.length->Pv i σ H->au X.K H a xs/\au X.K H b ys)
  (hs:∀ i x y T σ H,xs[i]?=some x->ys[i]?=some y->Pv i σ H->H T=none->Eg X tg (.ref T) σ (upd H T<|.tup [x,y]) λσ2 H2=>Run X body {D with nx:=Pv<|i+1,ct:=Pv<|i+1,bk:=after} σ2 H2) (hd:∀ σ H,Pv xs.length σ H->after σ H):Loop X tg body (uF X.K a b) D after σ H:=by
 refine⟨λi m σ H=>m=xs.length - i/\i<=xs.length/\Pv i σ H,⟨xs.length,by simp,Bo _,h0⟩,?_⟩;rintro i m σ H ⟨rfl,hi,p⟩;obtain⟨q1,q2⟩:=hl i σ H hi p
 by_cases bn:i < xs.length
 ·refine .inr ⟨⟨xs,ys,xs[i],ys[i],q1,q2,Ab bn,Ab<|by omega⟩,Pv<|i+1,λσ' H' p'=>⟨xs.length - (i+1),by omega,rfl,bn,p'⟩,λv H' y=>?_⟩;obtain⟨T,x,y,hT,rfl,rfl,y1,y2⟩:=y;exact hs i x y T σ _ (y1 xs q1) (y2 ys q2) p hT
 ·have e:i=xs.length:=by omega
  subst e;exact .inl ⟨⟨xs,ys,q1,q2,.inl<|Al _⟩,hd σ H p⟩
end
section
variable{P:Program}{w:World}{K:PySem.W.Frag}{mg:Str->Option Value}{base:Heap}
abbrev Wu:List Str:=["rows","met","others","row","end","tie"]
theorem rO:ao Wu ["rows"] (bm yJ):=⟨rfl,rfl,rfl,by decide +kernel,rfl,by decide +kernel,by decide +kernel⟩
theorem KS{H:Hp}{t d:Addr}{xs:List V}{kvs:List (Key×V)}(h:H t=some (.tup xs))(g:H d=some (.dK kvs)):t≠d:=bW h g λz=>nomatch z
theorem jn{H:Hp}{t d:Addr}{xs:List V}{kvs:List (List Key×V)}(h:H t=some (.tup xs))(g:H d=some (.dT kvs)):t≠d:=bW h g λz=>nomatch z
theorem Wv{f:Addr}{fd:FuncData}(F:bM K "other_ends" "other_ends" yJ f fd)(T:Txt mg)
  (GE:aY P w K mg base 1 "ends_round" ["row"] rM) :
  aI P w K mg base bH 2 f fd ["rows"] jV:=by
 refine F.gb rO (λvs H Q E h=>?_) λb0 H vs Q E hr h=>?_
 ·obtain⟨R,as,n,rfl,_⟩:=h;rfl
 obtain⟨R,as,n,rfl,hR,hN,hT,hn,ht,q⟩:=h;have nd:=rO.nd;have bV:=hR.len;have hu:=hr.u1;show Run _ _ _ [some<|.ref R,none,none,none,none,none] H;refine aQ 1 nd<|yg λdm jL=>?_;refine aQ 2 nd<|Il λdO vz=>?_;show Run _ _ _ [some<|.ref R,some<|.ref dm,some<|.ref dO,none,none,none] (upd (upd H dm<|.dK []) dO<|.dT []);have rP:dO≠dm:=λe=>by rw [e,aC] at vz;cases vz
 have nM:H dO=none:=by rw [aw rP] at vz;exact vz
 have em:(upd (upd H dm<|.dK []) dO<|.dT []) dm=some (.dK []):=by rw [aw<|CG rP,aC]
 have eo:(upd (upd H dm<|.dK []) dO<|.dT []) dO=some (.dT []):=aC;have s0:ak H (upd (upd H dm<|.dK []) dO<|.dT []):=λb o h=>by rw [aw<|bD h nM,aw<|bD h jL];exact h
 generalize upd (upd H dm<|.dK []) dO (.dT [])=H1 at em eo s0 ⊢;refine my<|ae 0 ⟨R,rfl,⟨_,au.of<|s0 _ _ hR.lst⟩,mB (xs:=as.map λa=>V.ref a.1) (λr σ H'=>∃ kM kO u1 u2 u3,ak H H'/\H' dm=some (.dK kM)/\H' dO=some (.dT kO)/\gT n (aU<|n.take r) H' kM kO/\σ=[some<|.ref R,some<|.ref dm,some<|.ref dO,u1,u2,u3])
  ⟨[],[],_,_,_,s0,em,eo,⟨λ_ _=>rfl,λz a rest h=>(by cases h),λz a b rest h=>(by cases h),λp h=>(by cases h),Bo _,Bo _,λk h=>(by cases h),Cf⟩,rfl⟩ ?_ ?_ ?_⟩
 ·rintro r σ H' _ ⟨kM,kO,u1,u2,u3,sm,_⟩;exact au.of<|sm _ _ hR.lst
 ·rintro r x σ H' hx ⟨kM,kO,u1,u2,u3,sm,KU,z7,I,rfl⟩;have hi:r < n.length:=by
   have:=(Ac.mp hx).1;rw [Aa] at this;omega
  obtain⟨a,ea,dL,et,el,er⟩:=(hR.same sm).at hi;rw [Ag,ea] at hx;cases hx;have fD:(row n r).length<=1000:=Cd (hV n r) ht;have Ww:nameAt n r=n[r].1:=nK hi;refine bz 3 nd ?_;refine uf (Jb rfl T.zip (ta:=oJ _ _) fH) ?_;show Ea _ _ _ _ _;refine ai<|bN GE hr<|ai<|ae 3<|aD ⟨a.1,a.2,n[r].1,row n r,rfl,et,el,fD,λL ts H5 s5 n5 e5 l5 t5=>?_⟩;refine ai<|a8 cu<|ae 3<|aA ⟨a.1,_,_,.ref a.2,rfl,rfl,aP.of<|s5 _ _ et,rfl,aD ⟨L,a.2,rfl,⟨_,au.of e5⟩,⟨_,au.of<|s5 _ _ el⟩,?_⟩⟩;have vA:=s5 _ _ KU;have vB:=s5 _ _ z7;have pv:=s5 _ _ el;refine Wt (xs:=ts.map V.ref) (ys:=(row n r).map V.str) (by rw [Aa,Aa,l5]) (λp σ' bC=>∃ kM kO u2 u3,(∀ b o,b≠dm->b≠dO->H5 b=some o->bC b=some o)/\bC dm=some (.dK kM)/\bC dO=some (.dT kO)/\gT n (aU (n.take r)++aW r ((row n r).take p) 0) bC kM kO/\σ'=[some<|.ref R,some<|.ref dm,some<|.ref dO,some<|.ref a.1,u2,u3])
   ⟨kM,kO,_,_,λb o _ _ h=>h,vA,vB,?_,rfl⟩ ?_ ?_ ?_
  ·have:aW r ((row n r).take 0) 0=[]:=by simp [aW]
   rw [this,Be];exact I.keep λt p j h=>s5 _ _ h
  ·rintro p σ' bC _ ⟨kM,kO,u2,u3,kb,_,_,_,rfl⟩;exact⟨au.of (kb _ _ (bW e5 vA λz=>nomatch z) (bW e5 vB λz=>nomatch z) e5),au.of<|kb _ _ (bW pv vA λz=>nomatch z) (bW pv vB λz=>nomatch z) pv⟩
  ·rintro p x y Tt σ' bC hx hy ⟨kM,kO,u2,u3,kb,vC,vD,I6,rfl⟩ fP;rw [Ag,Bg] at hx hy;obtain⟨te,pw,rfl⟩:=hx;obtain⟨z,hz,rfl⟩:=hy;have jW:=t5 p te pw;have rQ:bC te=some (Tn n[r].1 p):=kb _ _ (KS jW vA) (jn jW vB) jW;have jo:aJ n (r,p)=some z:=hz;obtain⟨rest,cY⟩:=pq hi hz;have hlen:(aU (n.take r)++aW r ((row n r).take p) 0).length < 1000:=by
    have h1:(aU n).length=(ag n).length:=by
     have:=BZ List.length<|iB n 0;rw [Aa] at this;exact this
    have h2:=BZ List.length cY;rw [Af,An] at h2;omega
   have dN:aU (n.take r)++aW r ((row n r).take<|p+1) 0=(aU (n.take r)++aW r ((row n r).take p) 0)++[(z,(r,p))]:=by
    rw [kF hz,Ao]
   have iW:∀ b,b∈bu (aU (n.take r)++aW r ((row n r).take p) 0) z->b≠(r,p):=λb hb e=>by
    have hm:=rN hb;have gQ:=oU n;unfold ends at gQ;rw [cY,Ah,Au] at gQ;exact(Bu.mp gQ).2.2 _ (Aj.mpr ⟨_,hm,rfl⟩) _ Ad e
   have rR:(bu (aU (n.take r)++aW r ((row n r).take p) 0) z).length<=1:=by
    have h1:(pos n z).length=2:=by rw [jK];exact hT z<|di jo
    have h2:pos n z=bu (aU (n.take r)++aW r ((row n r).take p) 0) z++bu ((z,(r,p)) :: rest) z:=by
     show bu (aU n) z=_;rw [cY];unfold bu;rw [Dq,Ah]
    have h3:1<=(bu ((z,(r,p)) :: rest) z).length:=by
     unfold bu;rw [Db,BL<|by simp];simp
    rw [h2,Af] at h1;omega
   generalize aU (n.take r)++aW r ((row n r).take p) 0=done at I6 hlen dN iW rR;rw [dN];have hTm:Tt≠dm:=λe=>by rw [e,vC] at fP;cases fP
   have hTo:Tt≠dO:=λe=>by rw [e,vD] at fP;cases fP
   have s7:=a9 fP<|.tup [.ref te,.str z];have z8:∀ b o,b≠dm->b≠dO->H5 b=some o->(upd bC Tt<|.tup [.ref te,.str z]) b=some o:=λb o h1 h2 h=>s7 _ _<|kb b o h1 h2 h;have px:=s7 _ _ vC;have pA:=s7 _ _ vD;have I7:=I6.keep (H':=upd bC Tt<|.tup [.ref te,.str z]) λt p j h=>s7 _ _ h;have jX:=s7 _ _ rQ;refine iE rfl (aP.of aC) (bz 4 nd<|bz 5 nd ?_);show Run _ _ _ [some<|.ref R,some<|.ref dm,some<|.ref dO,some<|.ref a.1,some<|.ref te,some<|.str z] _;generalize upd bC Tt (.tup [.ref te,.str z])=H7 at z8 px pA I7 jX;have nN:H7 te=some (TN n (r,p)):=by
    show H7 te=some (Tn (nameAt n r) p);rw [Ww];exact jX
   have hM:kM.length < sizeLine:=cn (by have:=I7.dk;omega);have hO:kO.length < sizeLine:=cn (by have:=I7.d8;omega);refine fX<|uo hu<|ae 5<|ae 1 ⟨dm,_,rfl,aZ.k (k:=Sum.inr z) px,?_⟩
   match ie:bu done z with
   | []=>
    rw [I7.m0 z ie];show if false=true then _ else _;rw [BJ Ar];refine oT hu<|ae 4<|ae 1<|ae 5 ⟨dm,_,rfl,bQ.k (k:=Sum.inr z) px hM,bg<|bg ⟨_,kO,_,_,λb o h1 h2 h=>?_,aC,?_,?_,rfl⟩⟩
    ·rw [aw h1];exact z8 b o h1 h2 h
    ·rw [aw rP];exact pA
    ·exact(I7.new nN jo ie).keep λt p j h=>by rw [aw<|KS h px];exact h
   | b :: more=>
    have rS:more=[]:=by
     rw [ie,An] at rR;exact Bh.mp<|by omega
    subst rS;obtain⟨tm,vm,z9⟩:=I7.m1 z b [] ie;rw [vm];show if true=true then _ else _;rw [BL rfl];have js:b≠(r,p):=iW b (by rw [ie];exact Am.mpr rfl);refine oT hu (fM hu<|ae 1<|ae 5 ⟨dm,.ref tm,rfl,by rw [<- vm];exact aZ.k (k:=Sum.inr z) px,ae 2<|ae 4 ⟨dO,_,rfl,bQ.t (k:=key n (r,p)) pA nN hO,?_⟩⟩);have hO2:=fq kO (key n (r,p))<|.ref tm;have hO3:=I7.d8;have KW:(upd H7 dO<|.dT<|putK kO (key n (r,p))<|.ref tm) dm=some (.dK kM):=by rw [aw<|CG rP];exact px
    have AA:(upd H7 dO<|.dT<|putK kO (key n (r,p))<|.ref tm) tm=some (TN n b):=by rw [aw<|jn z9 pA];exact z9
    refine oT hu<|ae 4<|ae 2<|fM hu<|ae 1<|ae 5 ⟨dm,.ref tm,rfl,by rw [<- vm];exact aZ.k (k:=Sum.inr z) KW,dO,_,rfl,bQ.t (k:=key n b) aC AA (cn<|by omega),bg<|bg ⟨kM,_,_,_,λb o h1 h2 h=>?_,?_,aC,?_,rfl⟩⟩
    ·rw [aw h2,aw h2];exact z8 b o h1 h2 h
    ·rw [aw<|CG rP];exact KW
    ·exact(I7.old hN nN z9 jo ie js).keep λt p j h=>by rw [aw<|jn h pA,aw<|jn h pA];exact h
  ·rintro σ' bC ⟨kM,kO,u2,u3,kb,vC,vD,I6,rfl⟩;refine bg ⟨kM,kO,_,_,_,λb o h=>?_,vC,vD,?_,rfl⟩
   ·exact kb b o (bD h jL) (bD h nM)<|s5 _ _<|sm _ _ h
   ·rw [Aa,l5,Bw] at I6;rw [mM hi];exact I6
 ·rintro σ H' ⟨kM,kO,u1,u2,u3,sm,KU,z7,I,rfl⟩;rw [Aa,bV,Bw] at I;have lO:=I.d8;have ls:(aU n).length=(ag n).length:=by rw [<- iB n 0,Aa];rfl
  exact cf<|ae 2<|q dO kO H' sm nM z7 (λe he=>I.whole hT he) I.nd (λk hk=>let ⟨p,hp,e⟩:=I.ks k hk;⟨p.2,Aj.mpr ⟨p,hp,rfl⟩,e⟩)<|by omega
end
def jY(n:Net)(H:Hp)(us:List Addr)(done:List<|Str×Nt.End):Prop:=us.length=done.length/\∀(j:Nat) u p,us[j]?=some u->done[j]?=some p->H u=some (TN n p.2)
theorem jY.keep{n:Net}{H H':Hp}{us:List Addr}{done:List (Str×Nt.End)}(h:jY n H us done)(k:∀ t p j,H t=some (Tn p j)->H' t=some (Tn p j)):jY n H' us done:=⟨h.1,λj u p h1 h2=>k _ _ _<|h.2 j u p h1 h2⟩
theorem jY.snoc{n:Net}{H H':Hp}{us:List Addr}{done:List (Str×Nt.End)}{u:Addr}{p:Str×Nt.End}(h:jY n H us done)(k:∀ t p j,H t=some (Tn p j)->H' t=some (Tn p j))(hu:H' u=some (TN n p.2)):jY n H' (us++[u]) (done++[p]):=by
 obtain⟨hl,ha⟩:=h;refine⟨by rw [Af,Af,hl];rfl,λj v x hv hx=>?_⟩
 by_cases hj:j < us.length
 ·rw [Av hj] at hv;rw [Av<|by omega] at hx;exact k _ _ _<|ha j v x hv hx
 ·rw [Az<|by omega] at hv hx;have fN:j - us.length=0:=by
   have:=(Ac.mp hv).1;simp at this;omega
  have Wx:j - done.length=0:=by omega
  rw [fN] at hv;rw [Wx] at hx;cases hv;cases hx;exact hu
section
variable{X:Cx}{tg:Expr}{ifs:List Expr}{inner:Sem Unit}{σ:St}{H:Hp}{a b:Addr}{xs ys:List V}{after:St->Hp->Prop}
theorem AB(Pv:Nat->St->Hp->Prop)(h0:Pv 0 σ H)(hl:∀ i σ' H',i<=xs.length->Pv i σ' H'->au X.K H' a xs)
  (hs:∀ i x σ' H',xs[i]?=some x->Pv i σ' H'->Eg X tg x σ' H' λσ2 H3=>Ei X ifs σ2 H3 λb H4=>if b=true then jb X inner σ2 H4 (Pv<|i+1) else Pv (i+1) σ2 H4)
  (hd:∀ σ' H',Pv xs.length σ' H'->after σ' H'):ft X tg ifs inner (oE X.K a) after σ H:=by
 refine⟨λi m σ' H'=>m=xs.length - i/\i<=xs.length/\Pv i σ' H',⟨_,rfl,Bo _,h0⟩,?_⟩;rintro i m σ' H' ⟨rfl,hi,p⟩;have q:=hl i σ' H' hi p
 by_cases bn:i < xs.length
 ·refine .inr ⟨⟨xs,xs[i],q,by simp [bn]⟩,Pv<|i+1,λσ' H' p'=>⟨xs.length - (i+1),by omega,rfl,bn,p'⟩,λx H2 y=>?_⟩;obtain⟨e,y⟩:=y;subst e;exact hs i x σ' _ (y xs q) p
 ·have e:i=xs.length:=by omega
  subst e;exact .inl ⟨⟨xs,q,Al _⟩,hd σ' H' p⟩
theorem Wy(hlen:xs.length=ys.length)(Pv:Nat->St->Hp->Prop)(h0:Pv 0 σ H)(hl:∀ i σ' H',i<=xs.length->Pv i σ' H'->au X.K H' a xs/\au X.K H' b ys)
  (hs:∀ i x y T σ' H',xs[i]?=some x->ys[i]?=some y->Pv i σ' H'->H' T=none->Eg X tg (.ref T) σ' (upd H' T<|.tup [x,y]) λσ2 H3=>Ei X ifs σ2 H3 λb H4=>if b=true then jb X inner σ2 H4 (Pv<|i+1) else Pv (i+1) σ2 H4)
  (hd:∀ σ' H',Pv xs.length σ' H'->after σ' H'):ft X tg ifs inner (uF X.K a b) after σ H:=by
 refine⟨λi m σ' H'=>m=xs.length - i/\i<=xs.length/\Pv i σ' H',⟨_,rfl,Bo _,h0⟩,?_⟩;rintro i m σ' H' ⟨rfl,hi,p⟩;obtain⟨q1,q2⟩:=hl i σ' H' hi p
 by_cases bn:i < xs.length
 ·refine .inr ⟨⟨xs,ys,xs[i],ys[i],q1,q2,Ab bn,Ab<|by omega⟩,Pv<|i+1,λσ' H' p'=>⟨xs.length - (i+1),by omega,rfl,bn,p'⟩,λv H2 y=>?_⟩;obtain⟨T,x,y,hT,rfl,rfl,y1,y2⟩:=y;exact hs i x y T σ' _ (y1 xs q1) (y2 ys q2) p hT
 ·have e:i=xs.length:=by omega
  subst e;exact .inl ⟨⟨xs,ys,q1,q2,.inl<|Al _⟩,hd σ' H' p⟩
end
def AF:Sp:=λvs H Q _=>∃(R:Addr) (as:List<|Addr×Addr) (n:Net),vs=[.ref R]/\aj H R as n/\n.length<=1000/\(ag n).length<=1000 /\
 ∀(L:Addr) (ts:List Addr) (H':Hp),ak H H'->H L=none->H' L=some (.lst<|ts.map V.ref)->jY n H' ts (aU n)->Q (.ref L) H'
section
variable{P:Program}{w:World}{K:PySem.W.Frag}{mg:Str->Option Value}{base:Heap}
abbrev K0:List Str:=["rows"]
abbrev K1:List Str:=["rows","row","end"]
theorem gx:ao K0 ["rows"] (bm uN):=⟨rfl,rfl,rfl,by decide +kernel,rfl,by decide +kernel,by decide +kernel⟩
theorem K2:K1.Nodup:=by decide +kernel
theorem Wz{f:Addr}{fd:FuncData}(F:bM K "ends_in_order" "ends_in_order" uN f fd)(T:Txt mg)
  (GE:aY P w K mg base 1 "ends_round" ["row"] rM) :
  aI P w K mg base bH 2 f fd ["rows"] AF:=by
 refine F.gb gx (λvs H Q E h=>?_) λb0 H vs Q E hr h=>?_
 ·obtain⟨R,as,n,rfl,_⟩:=h;rfl
 obtain⟨R,as,n,rfl,hR,hn,ht,q⟩:=h;have nd:=gx.nd;have bV:=hR.len;show Run _ _ _ [some<|.ref R] H;refine cf<|TL (bm uN) K0 K1 2 (lR bw)<|ae 0 ⟨R,rfl,⟨_,au.of hR.lst⟩,λD hD cl C s₀ H₀ ex=>?_⟩;refine AB (xs:=as.map λa=>V.ref a.1) (λr σ' H'=>(∃ v1 v2,σ'=[some<|.ref R]++[v1,v2])/\∃ ts:List Addr,ak H H'/\H' D=some (.lst<|ts.map V.ref)/\jY n H' ts (aU<|n.take r)) ⟨⟨none,none,rfl⟩,[],a9 hD _,aC,⟨rfl,λj u p h=>(by cases h)⟩⟩ ?_ ?_ ?_
 ·rintro r σ' H' _ ⟨_,ts,sm,_⟩;exact au.of<|sm _ _ hR.lst
 ·rintro r x σ' H' hx ⟨⟨v1,v2,rfl⟩,ts,sm,eD,AN⟩;have hi:r < n.length:=by
   have:=(Ac.mp hx).1;rw [Aa] at this;omega
  obtain⟨a,ea,dL,et,el,er⟩:=(hR.same sm).at hi;rw [Ag,ea] at hx;cases hx;have fD:(row n r).length<=1000:=Cd (hV n r) ht;refine bz 1 K2 ?_;refine fY ?_;rw [BL rfl];refine TK rfl rfl (lR bw) (bN GE hr<|ai<|ae 1<|aD ⟨a.1,a.2,n[r].1,row n r,rfl,et,el,fD,λL us H5 s5 n5 e5 l5 t5=>⟨L,rfl,⟨_,au.of e5⟩,?_⟩⟩);have WB:L≠D:=λe=>by rw [e,eD] at n5;cases n5
  refine AB (xs:=us.map V.ref) (λp σ' bC=>(∃ v2,σ'=[some<|.ref R]++[some<|.ref a.1,v2])/\∃ ts:List Addr,(∀ b o,b≠D->H5 b=some o->bC b=some o)/\bC D=some (.lst<|ts.map V.ref)/\jY n bC ts (aU (n.take r)++aW r ((row n r).take p) 0))
   ⟨⟨_,rfl⟩,ts,λb o _ h=>h,s5 _ _ eD,by simpa [aW] using AN.keep (H':=H5) λt p j h=>s5 _ _ h⟩ ?_ ?_ ?_
  ·rintro p σ' bC _ ⟨_,ts,kb,_⟩;exact au.of<|kb _ _ WB e5
  ·rintro p x σ' bC hx ⟨⟨v2,rfl⟩,ts,kb,iX,rT⟩;rw [Ag,Bg] at hx;obtain⟨te,pw,rfl⟩:=hx;have hp:p < (row n r).length:=by have:=(Ac.mp pw).1;omega
   have hz:(row n r)[p]?=some (row n r)[p]:=Ab hp;generalize (row n r)[p]=z at hz;have jW:=t5 p te pw;have vE:te≠D:=bW jW (s5 _ _ eD) λz=>nomatch z;have rQ:=kb _ _ vE jW;obtain⟨rest,cY⟩:=pq hi hz;have hlen:ts.length < 1000:=by
    have h1:(aU n).length=(ag n).length:=by
     have:=BZ List.length<|iB n 0;rw [Aa] at this;exact this
    have h2:=BZ List.length cY;rw [Af,An] at h2;have:=rT.1;omega
   refine bz 2 K2 ?_;refine fY ?_;rw [BL rfl];refine HK (ae 2 ⟨ts.map V.ref,iX,by rw [Aa];exact cn (by omega),⟨_,rfl⟩,ts++[te],λb o hb h=>by rw [aw hb];exact kb b o hb h,by rw [aC,Ah];rfl,?_⟩);rw [kF hz,<- Ao];refine rT.snoc (λt p j h=>by rw [aw<|bW h iX λz=>nomatch z];exact h) ?_;rw [aw vE];show bC te=some (Tn (nameAt n r) p);rw [nK hi];exact rQ
  ·rintro σ' bC ⟨⟨v2,rfl⟩,ts,kb,iX,rT⟩;refine⟨⟨_,_,rfl⟩,ts,λb o h=>kb b o (bD h hD)<|s5 _ _<|sm _ _ h,iX,?_⟩;rw [Aa,l5,Bw,<- mM hi] at rT;exact rT
 ·rintro σ' H' ⟨_,ts,sm,eD,AN⟩;rw [Aa,bV,Bw] at AN;exact q D ts H' sm hD eD AN
end
section
variable{X:Cx}{H:Hp}
theorem WC{p p':Str}{j j':Int}:∀(i:Nat) (u v:V),[V.str p,.int j][i]?=some u->[V.str p',.int j'][i]?=some v->mH X H 0 u v (if i=0 then dI (.str p) (.str p') else dI (.int j) (.int j'))
 | 0,u,v,h1,h2=>by
  cases h1;cases h2;exact ul rfl rfl
 | 1,u,v,h1,h2=>by
  cases h1;cases h2;exact ul rfl rfl
 | i+2,u,v,h1,h2=>by simp at h1
theorem WD(p p':Str)(j j':Int):(dI (.str p) (.str p') && dI (.int j) (.int j'))=decide (p=p'/\j=j'):=by
 show((p == p') && (j == j'))=_
 by_cases h:p=p' <;> by_cases h2:j=j' <;> simp [h,h2]
theorem WG{s t:Addr}{p p':Str}{j j':Int}(hs:H s=some (Tn p j))(ht:H t=some (Tn p' j')):oR X H 1 (.ref s) (.ref t) (decide (p=p'/\j=j')):=by
 have:=Ih (X:=X) (k:=0) (λi=>if i=0 then dI (.str p) (.str p') else dI (.int j) (.int j')) (aP.of hs) (aP.of ht) rfl WC;rw [show([V.str p,.int j].length)=2 from rfl,all2] at this;have e:=WD p p' j j';simp only [CT] at this;rw [BJ (by decide),e] at this;exact this
end
def nO:Sp:=λvs H Q _=>∃(R:Addr) (as:List<|Addr×Addr) (n:Net),vs=[.ref R]/\aj H R as n/\(n.map (·.1)).Nodup/\n.length<=1000/\(ag n).length<=1000 /\
 ∀(d:Addr) (kvs:List<|List Key×V) (H':Hp),ak H H'->H d=none->H' d=some (.dT kvs)->(∀ e z,aJ n e=some z->aB kvs (key n e)=some (.str z))->Q (.ref d) H'
section
variable{P:Program}{w:World}{K:PySem.W.Frag}{mg:Str->Option Value}{base:Heap}
abbrev K3:List Str:=["rows"]
abbrev K4:List Str:=["rows","row","end","tie"]
theorem AG:ao K3 ["rows"] (bm uO):=⟨rfl,rfl,rfl,by decide +kernel,rfl,by decide +kernel,by decide +kernel⟩
theorem AH:K4.Nodup:=by decide +kernel
theorem WH{f:Addr}{fd:FuncData}(F:bM K "ties_by_end" "ties_by_end" uO f fd)(T:Txt mg)
  (GE:aY P w K mg base 1 "ends_round" ["row"] rM) :
  aI P w K mg base bH 2 f fd ["rows"] nO:=by
 refine F.gb AG (λvs H Q E h=>?_) λb0 H vs Q E hr h=>?_
 ·obtain⟨R,as,n,rfl,_⟩:=h;rfl
 obtain⟨R,as,n,rfl,hR,hN,hn,ht,q⟩:=h;have bV:=hR.len;have hu:=hr.u1;show Run _ _ _ [some<|.ref R] H;refine cf<|TY (bm uO) K3 K4 3 (lR bw)<|ae 0 ⟨R,rfl,⟨_,au.of hR.lst⟩,λD hD cl C s₀ H₀ ex=>?_⟩;refine AB (xs:=as.map λa=>V.ref a.1) (λr σ' H'=>(∃ v1 v2 v3,σ'=[some<|.ref R]++[v1,v2,v3])/\∃ kvs:List<|List Key×V,ak H H'/\H' D=some (.dT kvs)/\kvs.length<=(aU<|n.take r).length/\∀ p∈aU (n.take r),aJ n p.2=some p.1/\aB kvs (key n p.2)=some (.str p.1)) ⟨⟨none,none,none,rfl⟩,[],a9 hD _,aC,Bo _,λp h=>(by cases h)⟩ ?_ ?_ ?_
 ·rintro r σ' H' _ ⟨_,kvs,sm,_⟩;exact au.of<|sm _ _ hR.lst
 ·rintro r x σ' H' hx ⟨⟨v1,v2,v3,rfl⟩,kvs,sm,eD,K5,vF⟩;have hi:r < n.length:=by
   have:=(Ac.mp hx).1;rw [Aa] at this;omega
  obtain⟨a,ea,dL,et,el,er⟩:=(hR.same sm).at hi;rw [Ag,ea] at hx;cases hx;have fD:(row n r).length<=1000:=Cd (hV n r) ht;refine bz 1 AH ?_;refine fY ?_;rw [BL rfl];refine TV rfl rfl (Jb rfl T.zip (ta:=oJ _ _) fH) ?_;show Ea _ _ _ _ _;refine ai<|bN GE hr<|ai<|ae 1<|aD ⟨a.1,a.2,n[r].1,row n r,rfl,et,el,fD,λL us H5 s5 n5 e5 l5 t5=>?_⟩;refine ai<|a8 cu<|ae 1<|aA ⟨a.1,_,_,.ref a.2,rfl,rfl,aP.of<|s5 _ _ et,rfl,aD ⟨L,a.2,rfl,⟨_,au.of e5⟩,⟨_,au.of<|s5 _ _ el⟩,?_⟩⟩;have jq:=s5 _ _ eD;have pv:=s5 _ _ el;refine Wy (xs:=us.map V.ref) (ys:=(row n r).map V.str) (by rw [Aa,Aa,l5]) (λp σ' bC=>(∃ v2 v3,σ'=[some<|.ref R]++[some<|.ref a.1,v2,v3])/\∃ kvs:List<|List Key×V,(∀ b o,b≠D->H5 b=some o->bC b=some o)/\bC D=some (.dT kvs)/\kvs.length<=(aU (n.take r)++aW r ((row n r).take p) 0).length/\∀ x∈aU (n.take r)++aW r ((row n r).take p) 0,aJ n x.2=some x.1/\aB kvs (key n x.2)=some (.str x.1))
   ⟨⟨_,_,rfl⟩,kvs,λb o _ h=>h,jq,by simpa [aW] using K5,by simpa [aW] using vF⟩ ?_ ?_ ?_
  ·rintro p σ' bC _ ⟨_,kvs,kb,_⟩;exact⟨au.of (kb _ _ (bW e5 jq λz=>nomatch z) e5),au.of<|kb _ _ (bW pv jq λz=>nomatch z) pv⟩
  ·rintro p x y Tt σ' bC hx hy ⟨⟨v2,v3,rfl⟩,kvs,kb,iX,nP,jZ⟩ fP;rw [Ag,Bg] at hx hy;obtain⟨te,pw,rfl⟩:=hx;obtain⟨z,hz,rfl⟩:=hy;have jW:=t5 p te pw;have vE:te≠D:=bW jW jq λz=>nomatch z;have rQ:=kb _ _ vE jW;have jo:aJ n (r,p)=some z:=hz;obtain⟨rest,cY⟩:=pq hi hz;have hlen:(aU (n.take r)++aW r ((row n r).take p) 0).length < 1000:=by
    have h1:(aU n).length=(ag n).length:=by
     have:=BZ List.length<|iB n 0;rw [Aa] at this;exact this
    have h2:=BZ List.length cY;rw [Af,An] at h2;omega
   have nTD:Tt≠D:=λe=>by rw [e,iX] at fP;cases fP
   have s7:=a9 fP<|.tup [.ref te,.str z];refine iE rfl (aP.of aC) (bz 2 AH<|bz 3 AH ?_);refine fY ?_;rw [BL rfl];have jX:(upd bC Tt<|.tup [.ref te,.str z]) te=some (.tup<|(key n (r,p)).map kV):=by
    rw [s7 _ _ rQ];show some (Tn n[r].1 (p:Int))=some (Tn (nameAt n r) (p:Int));rw [nK hi]
   refine uI hu<|ae 2<|ae 3 ⟨_,bQ.t (k:=key n (r,p)) (s7 _ _ iX) jX (cn<|by omega),⟨_,_,rfl⟩,_,λb o hb h=>?_,aC,?_,?_⟩
   ·rw [aw hb];exact s7 _ _<|kb b o hb h
   ·rw [kF hz,<- Ao,Af];have:=fq kvs (key n (r,p))<|.str z;show _<=_+1;omega
   ·rw [kF hz,<- Ao];intro x hx
    rcases Aq.mp hx with h | h
    ·obtain⟨q1,q2⟩:=jZ x h;refine⟨q1,?_⟩;rw [cZ]
     by_cases hk:key n x.2=key n (r,p)
     ·rw [BL hk];have:=nL hN (cT q1) (cT jo) hk;rw [this,jo] at q1;rw [Option.some.inj q1]
     ·rw [BJ hk];exact q2
    ·rw [Am.mp h];exact⟨jo,by rw [cZ,BL rfl]⟩
  ·rintro σ' bC ⟨⟨v2,v3,rfl⟩,kvs,kb,iX,nP,jZ⟩;rw [Aa,l5,Bw,<- mM hi] at nP jZ;exact⟨⟨_,_,_,rfl⟩,kvs,λb o h=>kb b o (bD h hD)<|s5 _ _<|sm _ _ h,iX,nP,jZ⟩
 ·rintro σ' H' ⟨_,kvs,sm,eD,K5,vF⟩;rw [Aa,bV,Bw] at vF;exact q D kvs H' sm hD eD λe z he=>(vF (z,e)<|aO.mpr he).2
theorem AI{κ:Type} [DecidableEq κ]:∀{kvs:List (κ×V)} {i:Nat} {p:κ×V},(kvs.map (·.1)).Nodup->kvs[i]?=some p->aB kvs p.1=some p.2
 | [],_,_,_,h=>by simp at h
 | q :: r,0,p,_,h=>by
  cases h;exact gL rfl
 | q :: r,i+1,p,hn,h=>by
  rw [Au,Bd] at hn;have hm:r[i]?=some p:=by simpa using h
  rw [gM λe=>hn.1<|by rw [e];exact Aj.mpr ⟨p,At hm,rfl⟩];exact AI hn.2 hm
theorem K6{κ:Type}{l:List κ}(h:l.Nodup){i j:Nat}{a:κ}(hi:l[i]?=some a)(hj:l[j]?=some a):i=j:=by
 have h1:=(Ac.mp hi).1;have h2:=(Ac.mp hj).1;have e1:=(Ac.mp hi).2;have e2:=(Ac.mp hj).2
 rcases KD i j with c | c | c
 ·exact absurd (e1.trans e2.symm)<|Bp.mp h i j h1 h2 c
 ·exact c
 ·exact absurd (e2.trans e1.symm)<|Bp.mp h j i h2 h1 c
def gU(c:Int):Sp:=λvs H Q _=>∃(R:Addr) (as:List<|Addr×Addr) (n:Net),vs=[.ref R]/\aj H R as n/\(n.map (·.1)).Nodup/\aq n/\n.length<=1000/\(ag n).length<=1000 /\
 ∀(d:Addr) (kvs:List<|List Key×V) (H':Hp),ak H H'->H d=none->H' d=some (.dT kvs)->(∀ e∈ends n,∃ u,aB kvs (key n e)=some (.ref u)/\H' u=some (TN n<|go c n e))->Q (.ref d) H'
abbrev j3:List Str:=["rows","lists"]
abbrev nQ:List Str:=["rows","lists","end","other"]
theorem vG:nQ.Nodup:=by decide +kernel
theorem rV:ao j3 ["rows"] (bm uP):=⟨rfl,rfl,rfl,by decide +kernel,rfl,by decide +kernel,by decide +kernel⟩
theorem WK{f:Addr}{fd:FuncData}(F:bM K "left_steps" "left_steps" uP f fd)(T:Txt mg)
  (GO:aY P w K mg base 2 "other_ends" ["rows"] jV)
  (GT:aY P w K mg base 2 "turned_left" ["end","many"]<|gS λj=>j+1) :
  aI P w K mg base bH 3 f fd ["rows"] (gU<|1):=by
 refine F.gb rV (λvs H Q E h=>?_) λb0 H vs Q E hr h=>?_
 ·obtain⟨R,as,n,rfl,_⟩:=h;rfl
 obtain⟨R,as,n,rfl,hR,hN,hT,hn,ht,q⟩:=h;have nd:=rV.nd;have bV:=hR.len;have hu:=hr.u1;show Run _ _ _ [some<|.ref R,none] H;have keys:=z6 n as bV;have knd:((cP n as).map (·.1)).Nodup:=by rw [keys];exact KL hN
 have nR:(cP n as).length=n.length:=by have:=BZ List.length keys;simpa using this
 refine aQ 1 nd (qL (IU rfl) T.kL PX (ai (ae 0 (aD ⟨R,as.map (·.1),cP n as,rfl,?_,?_,?_,?_,λdl iC=>?_⟩))))
 ·rw [Bi];exact hR.lst
 ·rw [Aa,nR,bV]
 ·rw [Aa];exact cn<|by omega
 ·intro j t kv h1 h2;rw [Ag,Bg] at h1;obtain⟨a,ea,rfl⟩:=h1;have hj:j < n.length:=by have:=(Ac.mp ea).1;omega
  have e:=vy (Ab hj) ea;rw [h2] at e;cases e;exact(hR.tup j a n[j] ea<|Ab hj).1
 have ef:(cP n as).foldl (λa p=>putK a p.1 p.2) []=cP n as:=by
  rw [KI (acc:=[]) (by rw [Ez];exact knd),Ez]
 rw [ef];have s1:=a9 iC<|.dK<|cP n as;have el:(upd H dl<|.dK<|cP n as) dl=some (.dK<|cP n as):=aC;generalize upd H dl (.dK<|cP n as)=H1 at s1 el;show Run _ _ _ [some<|.ref R,some<|.ref dl] H1;refine cf<|Jd (bm uP) j3 nQ 2 (Jh bw) ?_;refine bN GO hr<|ai<|ae 0<|aD ⟨R,as,n,rfl,hR.same s1,hN,hT,hn,ht,λd kvs H2 s2 kU ed val iY AJ rW=>?_⟩;refine⟨d,kvs,rfl,ed,λo D hD cl C s₀ H₀ ex=>?_⟩;have AK:D≠d:=λe=>by rw [e,aC] at hD;cases hD
 have k8:H2 D=none:=by rw [aw AK] at hD;exact hD
 have AO:H d=none:=fO s1 kU;have sB:ak H (upd H2 d<|.bv o<|.dT kvs):=dJ (s1.trans s2) AO;have kB:∀ b o',b≠d->H2 b=some o'->(upd H2 d<|.bv o<|.dT kvs) b=some o':=λb o' hb h=>by rw [aw hb];exact h
 have tB:∀ b p j,H2 b=some (Tn p j)->(upd H2 d<|.bv o<|.dT kvs) b=some (Tn p j):=λb p j h=>kB b _ (jn h ed) h;have rX:(upd H2 d<|.bv o<|.dT kvs) d=some (.bv o<|.dT kvs):=aC;have rY:(upd H2 d<|.bv o<|.dT kvs) dl=some (.dK<|cP n as):=kB _ _ (λe=>by rw [e,kU] at el;cases el)<|s2 _ _ el;have AQ:=hR.same sB;generalize upd H2 d (.bv o<|.dT kvs)=HB at hD sB tB rX rY AQ;have nS:=fO sB hD;refine Ji (λi σ' H'=>(∃ v1 v2,σ'=[some<|.ref R,some<|.ref dl]++[v1,v2])/\∃ b7:List<|List Key×V,H' D=some (.dT b7)/\b7.length<=i/\ak HB H' /\
  (∀ j k x e,j < i->kvs[j]?=some (k,x)->e∈ends n->k=key n e->∃ u,aB b7 (key n e)=some (.ref u)/\H' u=some (TN n<|go (1) n e)))
  ⟨⟨none,none,rfl⟩,[],aC,Al _,a9 hD _,λj k x e h=>absurd h<|Ec _⟩ ?_ ?_ ?_
 ·rintro i σ' H' _ ⟨_,_,_,_,sm,_⟩;exact sm _ _ rX
 ·rintro i k x b Tt σ' H' hx ⟨⟨v1,v2,rfl⟩,b7,eD,l2,sm,all⟩ hb fP;have hi:i < kvs.length:=(Ac.mp hx).1;obtain⟨e,he,rfl⟩:=AJ k<|Aj.mpr ⟨_,At hx,rfl⟩;obtain⟨u,hv,qX⟩:=val e he;have rZ:aB kvs (key n e)=some x:=AI iY hx;rw [hv] at rZ;cases rZ;have se:=cG hT he;obtain⟨zo,sf⟩:=af.mp se;have fD:=cT sf;have rB:=fw sf;have AT:nameAt n (other n e).1=n[(other n e).1].1:=nK fD;have sT:=a9 fP<|.tup [.ref b,.ref u];have sg:=sT _ _<|sm _ _<|tB _ _ _ qX;refine iE rfl (aP.of aC) (bz 2 vG<|bz 3 vG ?_);refine fY ?_;rw [BL rfl];have sj:as[(other n e).1]?=some (as[(other n e).1]'(by omega)):=Ab (by omega);have sk:n[(other n e).1]?=some n[(other n e).1]:=Ab fD;have ev:aB (cP n as) (Sum.inr<|nameAt n (other n e).1)=some (.ref (as[(other n e).1]'(by omega)).2):=by rw [AT];exact zZ knd<|vy sk sj
  have fe:=(hR.tup _ _ _ sj sk).2;have fh:row n (other n e).1=n[(other n e).1].2:=jg fD;refine uI hu<|ae 2<|bN GT hr<|ai<|ae 3<|ai<|cI dC T.len CW<|ai<|fM hu<|ae 1<|a8 cu<|ae 3<|aA ⟨u,_,_,.str<|nameAt n (other n e).1,rfl,rfl,aP.of sg,rfl,?_⟩;refine⟨dl,.ref (as[(other n e).1]'(by omega)).2,rfl,by rw [<- ev];exact aZ.k (k:=Sum.inr<|nameAt n (other n e).1)<|sT _ _<|sm _ _ rY,aD ⟨_,_,rfl,.inl<|au.of<|sT _ _<|sm _ _<|sB _ _ fe,aD ⟨u,_,_,_,rfl,sg,?_,λt2 H4 s4 nA=>?_⟩⟩⟩
  ·rw [Aa,<- fh];omega
  rw [Aa,<- fh] at nA;have nU:H4 t2=some (TN n<|go (1) n e):=by
   rw [nA];have:=mV (c:=1) se;show some (Tn _ _)=some (Tn _ (((go (1) n e).2:Nat):Int));unfold go;rw [this];rfl
  have nJ:=s4 _ _<|sT _ _ hb;refine⟨_,bQ.t (k:=key n e) (s4 _ _<|sT _ _ eD) nJ (cn<|by omega),⟨_,_,rfl⟩,_,aC,?_,dJ ((sm.trans sT).trans s4) hD,λj k' x' e' hj fI nV jI=>?_⟩
  ·have:=fq b7 (key n e)<|.ref t2;omega
  ·subst jI
   by_cases jU:j=i
   ·subst jU;rw [hx] at fI;have AU:key n e=key n e':=BZ Prod.fst<|Option.some.inj fI;obtain⟨z1,jN⟩:=af.mp he;obtain⟨z2,oW⟩:=af.mp nV;have:=nL hN (cT jN) (cT oW) AU;subst this;exact⟨t2,by rw [cZ,BL rfl],by rw [aw<|jn nU<|s4 _ _<|sT _ _ eD];exact nU⟩
   ·obtain⟨u3,AV,AW⟩:=all j _ x' e' (by omega) fI nV rfl;refine⟨u3,?_,?_⟩
    ·rw [cZ,BJ,AV];intro hk;have h1:(kvs.map (·.1))[j]?=some (key n e'):=by rw [Ag,fI];rfl
     have h2:(kvs.map (·.1))[i]?=some (key n e'):=by rw [Ag,hx,hk];rfl
     exact jU<|K6 iY h1 h2
    ·have q4:=s4 _ _<|sT _ _ AW;rw [aw<|jn q4<|s4 _ _<|sT _ _ eD];exact q4
 ·rintro σ' H' ⟨_,b7,eD,_,sm,all⟩;refine q D b7 H' (sB.trans sm) nS eD λe he=>?_;obtain⟨u,hv,_⟩:=val e he;obtain⟨i,hi⟩:∃ i:Nat,(kvs.map (·.1))[i]?=some (key n e):=Ba<|xF hv;rw [Ag,Bg] at hi;obtain⟨⟨k,x⟩,hx,hk⟩:=hi;exact all i k x e (Ac.mp hx).1 hx he hk
theorem sq:ao j3 ["rows"] (bm uQ):=⟨rfl,rfl,rfl,by decide +kernel,rfl,by decide +kernel,by decide +kernel⟩
theorem WL{f:Addr}{fd:FuncData}(F:bM K "right_steps" "right_steps" uQ f fd)(T:Txt mg)
  (GO:aY P w K mg base 2 "other_ends" ["rows"] jV)
  (GT:aY P w K mg base 2 "turned_right" ["end","many"]<|gS λj=>j - 1) :
  aI P w K mg base bH 3 f fd ["rows"] (gU (-1)):=by
 refine F.gb sq (λvs H Q E h=>?_) λb0 H vs Q E hr h=>?_
 ·obtain⟨R,as,n,rfl,_⟩:=h;rfl
 obtain⟨R,as,n,rfl,hR,hN,hT,hn,ht,q⟩:=h;have nd:=sq.nd;have bV:=hR.len;have hu:=hr.u1;show Run _ _ _ [some<|.ref R,none] H;have keys:=z6 n as bV;have knd:((cP n as).map (·.1)).Nodup:=by rw [keys];exact KL hN
 have nR:(cP n as).length=n.length:=by have:=BZ List.length keys;simpa using this
 refine aQ 1 nd (qL (IU rfl) T.kL PX (ai (ae 0 (aD ⟨R,as.map (·.1),cP n as,rfl,?_,?_,?_,?_,λdl iC=>?_⟩))))
 ·rw [Bi];exact hR.lst
 ·rw [Aa,nR,bV]
 ·rw [Aa];exact cn<|by omega
 ·intro j t kv h1 h2;rw [Ag,Bg] at h1;obtain⟨a,ea,rfl⟩:=h1;have hj:j < n.length:=by have:=(Ac.mp ea).1;omega
  have e:=vy (Ab hj) ea;rw [h2] at e;cases e;exact(hR.tup j a n[j] ea<|Ab hj).1
 have ef:(cP n as).foldl (λa p=>putK a p.1 p.2) []=cP n as:=by
  rw [KI (acc:=[]) (by rw [Ez];exact knd),Ez]
 rw [ef];have s1:=a9 iC<|.dK<|cP n as;have el:(upd H dl<|.dK<|cP n as) dl=some (.dK<|cP n as):=aC;generalize upd H dl (.dK<|cP n as)=H1 at s1 el;show Run _ _ _ [some<|.ref R,some<|.ref dl] H1;refine cf<|Jd (bm uQ) j3 nQ 2 (Jh bw) ?_;refine bN GO hr<|ai<|ae 0<|aD ⟨R,as,n,rfl,hR.same s1,hN,hT,hn,ht,λd kvs H2 s2 kU ed val iY AJ rW=>?_⟩;refine⟨d,kvs,rfl,ed,λo D hD cl C s₀ H₀ ex=>?_⟩;have AK:D≠d:=λe=>by rw [e,aC] at hD;cases hD
 have k8:H2 D=none:=by rw [aw AK] at hD;exact hD
 have AO:H d=none:=fO s1 kU;have sB:ak H (upd H2 d<|.bv o<|.dT kvs):=dJ (s1.trans s2) AO;have kB:∀ b o',b≠d->H2 b=some o'->(upd H2 d<|.bv o<|.dT kvs) b=some o':=λb o' hb h=>by rw [aw hb];exact h
 have tB:∀ b p j,H2 b=some (Tn p j)->(upd H2 d<|.bv o<|.dT kvs) b=some (Tn p j):=λb p j h=>kB b _ (jn h ed) h;have rX:(upd H2 d<|.bv o<|.dT kvs) d=some (.bv o<|.dT kvs):=aC;have rY:(upd H2 d<|.bv o<|.dT kvs) dl=some (.dK<|cP n as):=kB _ _ (λe=>by rw [e,kU] at el;cases el)<|s2 _ _ el;have AQ:=hR.same sB;generalize upd H2 d (.bv o<|.dT kvs)=HB at hD sB tB rX rY AQ;have nS:=fO sB hD;refine Ji (λi σ' H'=>(∃ v1 v2,σ'=[some<|.ref R,some<|.ref dl]++[v1,v2])/\∃ b7:List<|List Key×V,H' D=some (.dT b7)/\b7.length<=i/\ak HB H' /\
  (∀ j k x e,j < i->kvs[j]?=some (k,x)->e∈ends n->k=key n e->∃ u,aB b7 (key n e)=some (.ref u)/\H' u=some (TN n<|go (-1) n e)))
  ⟨⟨none,none,rfl⟩,[],aC,Al _,a9 hD _,λj k x e h=>absurd h<|Ec _⟩ ?_ ?_ ?_
 ·rintro i σ' H' _ ⟨_,_,_,_,sm,_⟩;exact sm _ _ rX
 ·rintro i k x b Tt σ' H' hx ⟨⟨v1,v2,rfl⟩,b7,eD,l2,sm,all⟩ hb fP;have hi:i < kvs.length:=(Ac.mp hx).1;obtain⟨e,he,rfl⟩:=AJ k<|Aj.mpr ⟨_,At hx,rfl⟩;obtain⟨u,hv,qX⟩:=val e he;have rZ:aB kvs (key n e)=some x:=AI iY hx;rw [hv] at rZ;cases rZ;have se:=cG hT he;obtain⟨zo,sf⟩:=af.mp se;have fD:=cT sf;have rB:=fw sf;have AT:nameAt n (other n e).1=n[(other n e).1].1:=nK fD;have sT:=a9 fP<|.tup [.ref b,.ref u];have sg:=sT _ _<|sm _ _<|tB _ _ _ qX;refine iE rfl (aP.of aC) (bz 2 vG<|bz 3 vG ?_);refine fY ?_;rw [BL rfl];have sj:as[(other n e).1]?=some (as[(other n e).1]'(by omega)):=Ab (by omega);have sk:n[(other n e).1]?=some n[(other n e).1]:=Ab fD;have ev:aB (cP n as) (Sum.inr<|nameAt n (other n e).1)=some (.ref (as[(other n e).1]'(by omega)).2):=by rw [AT];exact zZ knd<|vy sk sj
  have fe:=(hR.tup _ _ _ sj sk).2;have fh:row n (other n e).1=n[(other n e).1].2:=jg fD;refine uI hu<|ae 2<|bN GT hr<|ai<|ae 3<|ai<|cI dC T.len CW<|ai<|fM hu<|ae 1<|a8 cu<|ae 3<|aA ⟨u,_,_,.str<|nameAt n (other n e).1,rfl,rfl,aP.of sg,rfl,?_⟩;refine⟨dl,.ref (as[(other n e).1]'(by omega)).2,rfl,by rw [<- ev];exact aZ.k (k:=Sum.inr<|nameAt n (other n e).1)<|sT _ _<|sm _ _ rY,aD ⟨_,_,rfl,.inl<|au.of<|sT _ _<|sm _ _<|sB _ _ fe,aD ⟨u,_,_,_,rfl,sg,?_,λt2 H4 s4 nA=>?_⟩⟩⟩
  ·rw [Aa,<- fh];omega
  rw [Aa,<- fh] at nA;have nU:H4 t2=some (TN n<|go (-1) n e):=by
   rw [nA];have:=mV (c:=-1) se;show some (Tn _ _)=some (Tn _ (((go (-1) n e).2:Nat):Int));unfold go;rw [this];rfl
  have nJ:=s4 _ _<|sT _ _ hb;refine⟨_,bQ.t (k:=key n e) (s4 _ _<|sT _ _ eD) nJ (cn<|by omega),⟨_,_,rfl⟩,_,aC,?_,dJ ((sm.trans sT).trans s4) hD,λj k' x' e' hj fI nV jI=>?_⟩
  ·have:=fq b7 (key n e)<|.ref t2;omega
  ·subst jI
   by_cases jU:j=i
   ·subst jU;rw [hx] at fI;have AU:key n e=key n e':=BZ Prod.fst<|Option.some.inj fI;obtain⟨z1,jN⟩:=af.mp he;obtain⟨z2,oW⟩:=af.mp nV;have:=nL hN (cT jN) (cT oW) AU;subst this;exact⟨t2,by rw [cZ,BL rfl],by rw [aw<|jn nU<|s4 _ _<|sT _ _ eD];exact nU⟩
   ·obtain⟨u3,AV,AW⟩:=all j _ x' e' (by omega) fI nV rfl;refine⟨u3,?_,?_⟩
    ·rw [cZ,BJ,AV];intro hk;have h1:(kvs.map (·.1))[j]?=some (key n e'):=by rw [Ag,fI];rfl
     have h2:(kvs.map (·.1))[i]?=some (key n e'):=by rw [Ag,hx,hk];rfl
     exact jU<|K6 iY h1 h2
    ·have q4:=s4 _ _<|sT _ _ AW;rw [aw<|jn q4<|s4 _ _<|sT _ _ eD];exact q4
 ·rintro σ' H' ⟨_,b7,eD,_,sm,all⟩;refine q D b7 H' (sB.trans sm) nS eD λe he=>?_;obtain⟨u,hv,_⟩:=val e he;obtain⟨i,hi⟩:∃ i:Nat,(kvs.map (·.1))[i]?=some (key n e):=Ba<|xF hv;rw [Ag,Bg] at hi;obtain⟨⟨k,x⟩,hx,hk⟩:=hi;exact all i k x e (Ac.mp hx).1 hx he hk
def dF(n:Net)(H:Hp)(ts:List Addr)(es:List Nt.End):Prop:=ts.length=es.length/\∀(j:Nat) t e,ts[j]?=some t->es[j]?=some e->H t=some (TN n e)
theorem dF.keep{n:Net}{H H':Hp}{ts:List Addr}{es:List Nt.End}(h:dF n H ts es)(k:∀ t p j,H t=some (Tn p j)->H' t=some (Tn p j)):dF n H' ts es:=⟨h.1,λj t e h1 h2=>k _ _ _<|h.2 j t e h1 h2⟩
theorem dF.same{n:Net}{H H':Hp}{ts:List Addr}{es:List Nt.End}(h:dF n H ts es)(s:ak H H'):dF n H' ts es:=h.keep λ_ _ _ q=>s _ _ q
theorem dF.append{n:Net}{H:Hp}{ts us:List Addr}{es fs:List Nt.End}(h:dF n H ts es)(g:dF n H us fs):dF n H (ts++us) (es++fs):=by
 refine⟨by rw [Af,Af,h.1,g.1],λj t e h1 h2=>?_⟩;have hl:=h.1
 by_cases hj:j < ts.length
 ·rw [Av hj] at h1;rw [Av<|by omega] at h2;exact h.2 j t e h1 h2
 ·rw [Az<|by omega] at h1 h2;rw [<- hl] at h2;exact g.2 _ t e h1 h2
theorem dF.two{n:Net}{H:Hp}{t u:Addr}{a b:Nt.End}(h1:H t=some (TN n a))(h2:H u=some (TN n b)):dF n H [t,u] [a,b]:=⟨rfl,λj x e h3 h4=>by
 match j with
 | 0=>cases h3;cases h4;exact h1
 | 1=>cases h3;cases h4;exact h2
 | j+2=>simp at h3⟩
theorem WM{n:Net}(hN:(n.map (·.1)).Nodup){a b:Nt.End}(ha:a∈ends n)(hb:b∈ends n):decide (nameAt n a.1=nameAt n b.1/\(a.2:Int)=(b.2:Int))=decide (a=b):=by
 obtain⟨z1,h1⟩:=af.mp ha;obtain⟨z2,h2⟩:=af.mp hb;refine decide_eq_decide.mpr ⟨λ⟨p,q⟩=>nL hN (cT h1) (cT h2) (by unfold key;rw [p,q]),λe=>by rw [e];exact⟨rfl,rfl⟩⟩
theorem AX{K:PySem.W.Frag}{H:Hp}{d:Addr}{xs:List V}(h:H d=some (.lst xs)):l9 K "list" (.ref d) H:=Or.inl ⟨rfl,xs,au.of h⟩
def bo(n:Net)(H:Hp)(d:Addr)(c:Int):Prop:=∃ kvs,H d=some (.dT kvs)/\∀ e∈ends n,∃ u,aB kvs (key n e)=some (.ref u)/\H u=some (TN n<|go c n e)
theorem bo.same{n:Net}{H H':Hp}{d:Addr}{c:Int}(h:bo n H d c)(s:ak H H'):bo n H' d c:=let ⟨kvs,h1,h2⟩:=h;⟨kvs,s _ _ h1,λe he=>let ⟨u,a,b⟩:=h2 e he;⟨u,a,s _ _ b⟩⟩
theorem bo.get{n:Net}{H:Hp}{d t:Addr}{c:Int}{e:Nt.End}(h:bo n H d c)(he:e∈ends n)(ht:H t=some (TN n e)):∃ u,aZ H d (.ref t) (some<|.ref u)/\H u=some (TN n<|go c n e):=by
 obtain⟨kvs,h1,h2⟩:=h;obtain⟨u,a,b⟩:=h2 e he;exact⟨u,by rw [<- a];exact aZ.t (k:=key n e) h1 ht,b⟩
def nW:Sp:=λvs H Q _=>∃(dl dr t:Addr) (n:Net) (e:Nt.End),vs=[.ref dl,.ref dr,.ref t]/\bo n H dl 1/\bo n H dr (-1)/\(n.map (·.1)).Nodup/\aq n/\(ag n).length<=1000/\e∈ends n/\H t=some (TN n e) /\
 ∀(l:Addr) (ts:List Addr) (k:Nat) (H':Hp),ak H H'->H l=none->H' l=some (.lst<|ts.map V.ref)->dF n H' ts (wk n e k)->gg n e k->k<=(ends n).length->Q (.ref l) H'
abbrev WN:List Str:=["lefts","rights","first","walker","end"]
theorem sr:ao WN ["lefts","rights","first"] (bm m4):=⟨rfl,rfl,rfl,by decide +kernel,rfl,by decide +kernel,by decide +kernel⟩
theorem AY(ts:List Addr)(a b:Addr):ts.map V.ref++[V.ref a,V.ref b]=(ts++[a]).map V.ref++[V.ref b]:=by rw [Ah,Ao];rfl
theorem WO{f:Addr}{fd:FuncData}(F:bM K "walker_from" "walker_from" m4 f fd)(T:Txt mg):aI P w K mg base bH 1 f fd ["lefts","rights","first"] nW:=by
 refine F.gb sr (λvs H Q E h=>?_) λb0 H vs Q E hr h=>?_
 ·obtain⟨dl,dr,t,n,e,rfl,_⟩:=h;rfl
 obtain⟨dl,dr,t,n,e,rfl,hL,K7,hN,hT,lg,he,ht,q⟩:=h;have nd:=sr.nd;have rB:=iD n;have hu:=hr.u1;have un:=hr.iA;obtain⟨k,k0,k1,k2⟩:=yh (f:=two n) (S:=ends n) (λa ha=>jO hT ha) (λa ha b hb=>ra hT ha hb) he;obtain⟨u1,g1,e1⟩:=hL.get he ht;show Run _ _ _ [some<|.ref dl,some<|.ref dr,some<|.ref t,none,none] H;refine aQ 3 nd<|eW<|ai<|ae 2<|ai<|fM hu<|ae 0<|ae 2 ⟨dl,.ref u1,rfl,g1,aD ⟨Z2,λl hl=>?_⟩⟩;have s1:=a9 hl<|.lst [.ref t,.ref u1];have el:(upd H l<|.lst [.ref t,.ref u1]) l=some (.lst<|[t,u1].map V.ref):=aC;generalize upd H l (.lst [.ref t,.ref u1])=H1 at s1 el;obtain⟨u2,g2,e2⟩:=(K7.same s1).get (d6 hT he)<|s1 _ _ e1;refine aQ 4 nd<|fM hu<|ae 1<|a8 cC<|ae 3<|mw lV<|aA ⟨1,rfl,l,_,_,.ref u1,rfl,rfl,au.of el,rfl,dr,.ref u2,rfl,g2,?_⟩;show Run _ _ _ [some<|.ref dl,some<|.ref dr,some<|.ref t,some<|.ref l,some<|.ref u2] H1;refine oS (λm σ H2=>∃(j:Nat) (ts:List Addr) (u:Addr),m=k - j/\0 < j/\j<=k/\ak H H2/\H2 l=some (.lst<|ts.map V.ref)/\dF n H2 ts (wk n e j)/\H2 u=some (TN n<|it (two n) j e)/\(∀ i,0 < i->i < j->it (two n) i e≠e)/\σ=[some<|.ref dl,some<|.ref dr,some<|.ref t,some<|.ref l,some<|.ref u])
  (m0:=k - 1) ⟨1,[t,u1],u2,rfl,Fg,k0,s1,el,dF.two (s1 _ _ ht)<|s1 _ _ e1,e2,λi h1 h2=>by omega,rfl⟩ ?_
 rintro m σ H2 ⟨j,ts,u,rfl,j0,j1,sH,su,at2,eu,hf,rfl⟩;have AZ:it (two n) j e∈ends n:=hU (λa ha=>jO hT ha) he j;refine eB (um un) (ae 4<|ae 2 ⟨1,_,by decide,WG eu<|sH _ _ ht,_,rfl,?_⟩);rw [WM hN AZ he];have tl:=at2.1;rw [mW] at tl
 by_cases c:it (two n) j e=e
 ·rw [BW c];exact b4<|cf<|ae 3<|q l ts j H2 sH hl su at2 ⟨j0,c,hf⟩<|by omega
 ·rw [BR c];have jk:j < k:=by
   rcases Ef j k with h | h
   ·exact h
   ·have:j=k:=by omega
    subst this;exact absurd k2 c
  obtain⟨v1,g3,e3⟩:=(hL.same sH).get AZ eu;refine bP<|hG<|Ii EY PySem.F.slot_list_extend PySem.F.type_list_extend QQ<|ae 3 (v:= .ref l) ⟨AX su,eW<|ai<|ae 4<|ai<|fM hu<|ae 0<|ae 4 ⟨dl,.ref v1,rfl,g3,aD ⟨Z2,λp hp=>?_⟩⟩⟩;have s3:=a9 hp<|.lst [.ref u,.ref v1];have nlp:l≠p:=bD su hp;refine⟨l,p,ts.map V.ref,[.ref u,.ref v1],rfl,rfl,s3 _ _ su,aC,small (by rw [Aa];show _+2<=100000;omega),?_⟩;have sw:ak H (upd (upd H2 p<|.lst [.ref u,.ref v1]) l<|.lst<|ts.map V.ref++[.ref u,.ref v1]):=dJ (sH.trans s3) hl;have A0:(upd (upd H2 p<|.lst [.ref u,.ref v1]) l<|.lst<|ts.map V.ref++[.ref u,.ref v1]) l=some (.lst<|(ts++[u,v1]).map V.ref):=by rw [aC,Ah];rfl
  have kt:∀ b p' j',H2 b=some (Tn p' j')->(upd (upd H2 p<|.lst [.ref u,.ref v1]) l<|.lst<|ts.map V.ref++[.ref u,.ref v1]) b=some (Tn p' j'):=λb p' j' h=>by
   rw [aw<|bW h su λz=>nomatch z];exact s3 _ _ h
  generalize upd (upd H2 p<|.lst [.ref u,.ref v1]) l (.lst<|ts.map V.ref++[.ref u,.ref v1])=H3 at sw A0 kt;obtain⟨v2,g4,e4⟩:=(K7.same sw).get (d6 hT AZ)<|kt _ _ _ e3;refine aQ 4 nd<|fM hu<|ae 1<|a8 cC<|ae 3<|mw lV<|aA ⟨1,rfl,l,_,_,.ref v1,rfl,rfl,au.of A0,?_,dr,.ref v2,rfl,g4,?_⟩
  ·rw [Ah];show dw (ts.map V.ref++[V.ref u,V.ref v1]) (-1)=_;rw [AY];exact Qv _ _
  refine bg ⟨k - (j+1),by omega,j+1,ts++[u,v1],v2,rfl,LK _,jk,sw,A0,(at2.keep kt).append<|dF.two (kt _ _ _ eu)<|kt _ _ _ e3,e4,λi h1 h2=>?_,rfl⟩
  by_cases c7:i=j
  ·subst c7;exact c
  ·exact hf i h1<|by omega
open cb
theorem K8{α β:Type}(f:α->β):∀ xs:List α,ah (xs.map f)=(ah xs).map f
 | []=>rfl
 | [a]=>rfl
 | a :: b :: r=>by
  show f a :: ah (r.map f)=f a :: (ah r).map f;rw [K8 f r]
theorem dF.ah{n:Net}{H:Hp}{ts:List Addr}{es:List Nt.End}(h:dF n H ts es):dF n H (L2.ah ts) (L2.ah es):=by
 refine⟨by rw [qZ,qZ,h.1],λj t e h1 h2=>?_⟩;rw [mU] at h1 h2;exact h.2 _ t e h1 h2
theorem lh{P:Program}{w:World}{H:Hp}{a d:Addr}{o:HO}{zs:List Str}(h:H a=some o)(g:H d=some (bU P w d zs))(ho:∀ φ,o ≠ .ext φ):a≠d:=λe=>by
 rw [e,g] at h;exact ho _ (Option.some.inj h).symm
structure ig(n:Net)(H:Hp)(L:Addr)(ls:List Addr)(ws:List<|List Nt.End):Prop where
 lst:H L=some (.lst<|ls.map V.ref)
 len:ls.length=ws.length
 nn:ls.Nodup
 out:L∉ls
 at':∀(j:Nat) l w,ls[j]?=some l->ws[j]?=some w->∃ ts,H l=some (.lst<|ts.map V.ref)/\dF n H ts w
theorem ig.same{n:Net}{H H':Hp}{L:Addr}{ls:List Addr}{ws:List (List Nt.End)}(h:ig n H L ls ws)(s:ak H H'):ig n H' L ls ws:=
 ⟨s _ _ h.lst,h.len,h.nn,h.out,λj l w h1 h2=>let ⟨ts,a,b⟩:=h.at' j l w h1 h2;⟨ts,s _ _ a,b.same s⟩⟩
theorem ig.keep{n:Net}{H H':Hp}{L:Addr}{ls:List Addr}{ws:List (List Nt.End)}(h:ig n H L ls ws)(hL:H' L=H L)(kl:∀ l∈ls,∀ o,H l=some o->H' l=some o)(kt:∀ t p j,H t=some (Tn p j)->H' t=some (Tn p j)):ig n H' L ls ws:=
 ⟨by rw [hL];exact h.lst,h.len,h.nn,h.out,λj l w h1 h2=>let ⟨ts,a,b⟩:=h.at' j l w h1 h2;⟨ts,kl l (At h1) _ a,b.keep kt⟩⟩
theorem ig.snoc{n:Net}{H H':Hp}{L l:Addr}{ls ts:List Addr}{ws:List (List Nt.End)}{v:List Nt.End}(h:ig n H L ls ws)(hL:H' L=some (.lst<|ls.map V.ref++[.ref l]))(kl:∀ l∈ls,∀ o,H l=some o->H' l=some o)(kt:∀ t p j,H t=some (Tn p j)->H' t=some (Tn p j))
  (hl:H' l=some (.lst<|ts.map V.ref)) (hv:dF n H' ts v) (hn:l∉ls) (WQ:L≠l):ig n H' L (ls++[l]) (ws++[v]):=by
 refine⟨by rw [hL,Ah];rfl,by rw [Af,Af,h.len];rfl,ku h.nn hn,λhm=>?_,λj a x h1 h2=>?_⟩
 ·rcases Aq.mp hm with hm | hm
  ·exact h.out hm
  ·exact WQ<|Am.mp hm
 ·have hlen:=h.len
  by_cases hj:j < ls.length
  ·rw [Av hj] at h1;rw [Av<|by omega] at h2;obtain⟨us,q1,q2⟩:=h.at' j a x h1 h2;exact⟨us,kl a (At h1) _ q1,q2.keep kt⟩
  ·rw [Az<|by omega] at h1 h2;have fN:j - ls.length=0:=by
    have:=(Ac.mp h1).1;simp at this;omega
   rw [fN] at h1;rw [<- hlen,fN] at h2;cases h1;cases h2;exact⟨ts,hl,hv⟩
def A1:Sp:=λvs H Q _=>∃(R:Addr) (as:List<|Addr×Addr) (n:Net),vs=[.ref R]/\aj H R as n/\(n.map (·.1)).Nodup/\aq n/\n.length<=1000/\(ag n).length<=400 /\
 ∀(L:Addr) (ls:List Addr) (H':Hp),ak H H'->H L=none->ig n H' L ls (cK n (ends n) [])->(∀ l∈ls,H l=none)->Q (.ref L) H'
theorem WR{n:Net}{i:Nat}{p:Str×Nt.End}(h:(aU n)[i]?=some p):(ends n)[i]?=some p.2:=by unfold ends;rw [Ag,h];rfl
abbrev WT:List Str:=["rows","lefts","rights","names","told","walkers","first","walker","end"]
theorem sA:ao WT ["rows"] (bm mZ):=⟨rfl,rfl,rfl,by decide +kernel,rfl,by decide +kernel,by decide +kernel⟩
theorem WU{f:Addr}{fd:FuncData}(F:bM K "walkers_of" "walkers_of" mZ f fd)(T:Txt mg)
  (GL:aY P w K mg base 3 "left_steps" ["rows"]<|gU 1)
  (GR:aY P w K mg base 3 "right_steps" ["rows"]<|gU (-1))
  (GN:aY P w K mg base 3 "ties_by_end" ["rows"] nO)
  (GO:aY P w K mg base 3 "ends_in_order" ["rows"] AF)
  (GW:aY P w K mg base 3 "walker_from" ["lefts","rights","first"] nW) :
  aI P w K mg base bH 4 f fd ["rows"] A1:=by
 refine F.gb sA (λvs H Q E h=>?_) λb0 H vs Q E hr h=>?_
 ·obtain⟨R,as,n,rfl,_⟩:=h;rfl
 obtain⟨R,as,n,rfl,hR,hN,hT,hn,lg,q⟩:=h;have nd:=sA.nd;have rB:=iD n;have hu:=hr.u1;show Run _ _ _ [some<|.ref R,none,none,none,none,none,none,none,none] H;refine aQ 1 nd (bN GL hr<|ai<|ae 0<|aD ⟨R,as,n,rfl,hR,hN,hT,hn,by omega,λdl kl H1 s1 n1 e1 v1=>?_⟩);refine aQ 2 nd (bN GR hr<|ai<|ae 0<|aD ⟨R,as,n,rfl,hR.same s1,hN,hT,hn,by omega,λdr kr H2 s2 n2 e2 v2=>?_⟩);refine aQ 3 nd (bN GN hr<|ai<|ae 0<|aD ⟨R,as,n,rfl,hR.same<|s1.trans s2,hN,hn,by omega,λdn kn H3 s3 n3 e3 v3=>?_⟩);refine aQ 4 nd<|Ut T.gI λD hD=>?_;refine aQ 5 nd<|eW<|aD ⟨Z0,λL hL=>?_⟩;have WV:bo n H3 dl 1:=bo.same ⟨kl,e1,v1⟩<|s2.trans s3;have WW:bo n H3 dr (-1):=bo.same ⟨kr,e2,v2⟩ s3;have nX:=(s1.trans s2).trans s3;have vH:L≠D:=λe=>by rw [e,aC] at hL;cases hL
 have WX:H3 L=none:=by rw [aw vH] at hL;exact hL
 have nS:=fO nX hD;have vw:=fO nX WX;have sB:ak H3 (upd (upd H3 D<|bU P w D []) L<|.lst []):=(a9 hD _).trans<|a9 hL _;have K9:(upd (upd H3 D<|bU P w D []) L<|.lst []) D=some (bU P w D []):=by rw [aw<|CG vH,aC]
 have A2:(upd (upd H3 D<|bU P w D []) L<|.lst []) L=some (.lst []):=aC;have A3:=nX.trans sB;have sC:=WV.same sB;have sD:=WW.same sB;have K':=sB _ _ e3;show Run _ _ _ [some<|.ref R,some<|.ref dl,some<|.ref dr,some<|.ref dn,some<|.ref D,some<|.ref L,none,none,none] (upd (upd H3 D<|bU P w D []) L<|.lst []);generalize upd (upd H3 D<|bU P w D []) L (.lst [])=HB at sB K9 A2 A3 sC sD K';refine my (bN GO hr<|ai<|ae 0<|aD ⟨R,as,n,rfl,hR.same A3,hn,by omega,λU us H5 s5 n5 e5 A4=>⟨U,rfl,⟨_,au.of e5⟩,?_⟩⟩);have sE:=A3.trans s5;have jq:=s5 _ _ K9;have vI:=s5 _ _ A2;have A5:=sC.same s5;have A6:=sD.same s5;have A7:=s5 _ _ K';have WY:U≠L:=λe=>by rw [e,A2] at n5;cases n5
 have WZ:us.length=(ends n).length:=by rw [A4.1];unfold ends;rw [Aa]
 refine mB (xs:=us.map V.ref) (λi σ H'=>∃(zs told:List Str) (ls:List Addr) (ws:List<|List Nt.End) (u1 u2 u3:Option V),(∀ b o,b≠D->b≠L->H5 b=some o->H' b=some o)/\H' D=some (bU P w D zs)/\zs.Nodup/\(∀ z∈zs,z∈ag n)/\(∀ z,z∈zs↔z∈told) /\
  ig n H' L ls ws/\(∀ l∈ls,H5 l=none)/\ls.length<=i/\cK n (ends n) []=ws++cK n ((ends n).drop i) told/\σ=[some<|.ref R,some<|.ref dl,some<|.ref dr,some<|.ref dn,some<|.ref D,some<|.ref L,u1,u2,u3])
  ⟨[],[],[],[],_,_,_,λb o _ _ h=>h,jq,Cf,λz h=>by simp at h,λz=>by simp,⟨vI,rfl,Cf,by simp,λj l w h=>by simp at h⟩,λl h=>by simp at h,Al _,rfl,rfl⟩ ?_ ?_ ?_
 ·rintro i σ H' _ ⟨_,_,_,_,_,_,_,kp,_⟩;exact au.of<|kp _ _ (lh e5 jq λφ z=>nomatch z) WY e5
 ·rintro i x σ H' hx ⟨zs,told,ls,ws,u1,u2,u3,kp,eD,zn,zt,zm,hW,hf,Jn,sG,rfl⟩;have hi:i < us.length:=by
   have:=(Ac.mp hx).1;rw [Aa] at this;exact this
  rw [Ag,Ab hi] at hx;cases hx;have A8:i < (aU n).length:=by have:=A4.1;omega
  have vJ:H5 us[i]=some (TN n (aU n)[i].2):=A4.2 i us[i] (aU n)[i] (Ab hi)<|Ab A8;have gW:=WR<|Ab A8;have gX:aJ n (aU n)[i].2=some (aU n)[i].1:=aO.mp (by have:=Bn A8;exact this);generalize (aU n)[i]=pr at vJ gW gX;obtain⟨z,e⟩:=pr;have vJ:H5 us[i]=some (TN n e):=vJ;have gX:aJ n e=some z:=gX;have gW:(ends n)[i]?=some e:=gW;have he:e∈ends n:=At gW;have li:(ends n).drop i=e :: (ends n).drop (i+1):=by
   have La:i < (ends n).length:=by omega
   rw [KN La]
   congr 1
   have:=Ab La;rw [gW] at this;exact(Option.some.inj this).symm
  have Lb:∀{b p j},H5 b=some (Tn p j)->H' b=some (Tn p j):=λ{b p j} h=>kp _ _ (lh h jq λφ z=>nomatch z) (bW h vI λz=>nomatch z) h;have d7:=Lb vJ;have A9:H' dn=some (.dT kn):=kp _ _ (lh A7 jq λφ z=>nomatch z) (bW A7 vI λz=>nomatch z) A7;have cA:∀{d c},bo n H5 d c->bo n H' d c:=λ{d c} ⟨kvs,a,b⟩=>⟨kvs,kp _ _ (lh a jq λφ z=>nomatch z) (bW a vI λz=>nomatch z) a,λe he=>let ⟨u,p,r⟩:=b e he;⟨u,p,Lb r⟩⟩;have W0:aZ H' dn (.ref us[i]) (some<|.str z):=by rw [<- v3 e z gX];exact aZ.t (k:=key n e) A9 d7
  refine bz 6 nd ?_;refine fX<|eB Uu<|fM hu<|ae 3<|ae 6 ⟨dn,.str z,rfl,W0,ae 4 ⟨z,D,zs,rfl,rfl,eD,_,rfl,?_⟩⟩;refine jE (λc=>?_) λc=>?_
  ·have hz:z∉zs:=BX c;have gy:av n e∉told:=by rw [cO gX];exact λh=>hz<|(zm z).mpr h
   refine aQ 7 nd (bN GW hr<|ai<|ae 1<|ai<|ae 2<|ai<|ae 6<|aD ⟨dl,dr,us[i],n,e,rfl,cA A5,cA A6,hN,hT,by omega,he,d7,λl ts k H6 s6 n6 e6 W1 pr hk=>?_⟩);have W2:=rg pr;have sI:walker n e=wk n e k:=by unfold walker;rw [W2]
   have BA:=s6 _ _ hW.lst;have iX:=s6 _ _ eD;have BD:L≠l:=bD hW.lst n6;have pk:D≠l:=bD eD n6;refine hG (kD<|ae 5 ⟨L,rfl,⟨_,BA⟩,ae 7 ⟨_,BA,by rw [Aa];exact cn (by omega),?_⟩⟩);have k7:∀ b o,b≠L->H6 b=some o->(upd H6 L<|.lst<|ls.map V.ref++[.ref l]) b=some o:=λb o hb h=>by rw [aw hb];exact h
   have Lc:(upd H6 L<|.lst<|ls.map V.ref++[.ref l]) L=some (.lst<|ls.map V.ref++[.ref l]):=aC;generalize upd H6 L (.lst<|ls.map V.ref++[.ref l])=H7 at k7 Lc;have Ld:∀ t p j,H6 t=some (Tn p j)->H7 t=some (Tn p j):=λt p j h=>k7 _ _ (bW h BA λz=>nomatch z) h;have e7:=k7 _ _ (CG BD) e6;have W3:=k7 _ _ (CG vH) iX;have Le:=W1.keep Ld;have BE:l∉ls:=λhm=>by
    obtain⟨j,hj⟩:=Ba hm;have hlen:=hW.len;have BF:j < ws.length:=by have:=(Ac.mp hj).1;omega
    obtain⟨_,a,_⟩:=hW.at' j l ws[j] hj<|Ab BF;rw [n6] at a;cases a
   have W4:ig n H7 L (ls++[l]) (ws++[wk n e k]):=hW.snoc Lc (λa ha o ho=>k7 _ _ (λq=>hW.out<|q ▸ ha)<|s6 _ _ ho) (λt p j h=>Ld _ _ _<|s6 _ _ h) e7 Le BE BD;have W5:H5 l=none:=by
    cases q5:H5 l with
    | none=>rfl
    | some o=>rw [kp _ _ (CG pk) (CG BD) q5] at n6;cases n6
   have W6:∀ a∈ls++[l],H5 a=none:=λa ha=>by
    rcases Aq.mp ha with ha | ha
    ·exact hf a ha
    ·rw [Am.mp ha];exact W5
   have rG:∀ b o,b≠D->b≠L->H5 b=some o->H7 b=some o:=λb o h1 h2 h=>k7 _ _ h2<|s6 _ _<|kp b o h1 h2 h;have W7:(ls++[l]).length<=i+1:=by rw [Af];show ls.length+1<=_;omega
   have BG:cK n (ends n) []=(ws++[wk n e k])++cK n ((ends n).drop<|i+1) (told++(ah<|wk n e k).map (av n)):=by
    rw [sG,li];show ws++(if av n e∈told then _ else _)=_;rw [BJ gy,sI,Ao];rfl
   have W8:=yG hT he k;refine my<|Ul<|ae 7 ⟨l,_,rfl,au.of e7,λp hp=>⟨p,rfl,⟨_,au.of aC⟩,?_⟩⟩;rw [K8];have s8:=a9 hp<|.lst<|(ah ts).map V.ref;have e8:(upd H7 p<|.lst<|(ah ts).map V.ref) p=some (.lst<|(ah ts).map V.ref):=aC;have lj:=s8 _ _ W3;have pB:=W4.same s8;have vK:=(Le.same s8).ah;have Lf:∀ b o,b≠D->b≠L->H5 b=some o->(upd H7 p<|.lst<|(ah ts).map V.ref) b=some o:=λb o h1 h2 h=>s8 _ _<|rG b o h1 h2 h;have BH:=s8 _ _ (k7 _ _ (bW A9 hW.lst λz=>nomatch z)<|s6 _ _ A9);generalize upd H7 p (.lst<|(ah ts).map V.ref)=H8 at s8 e8 lj pB vK Lf BH;have W9:p≠D:=lh e8 lj λφ z=>nomatch z;refine mB (xs:=(ah ts).map V.ref) (λm σ H9=>∃(fZ:List Str) (u3:Option V),(∀ b o,b≠D->H8 b=some o->H9 b=some o)/\H9 D=some (bU P w D fZ)/\fZ.Nodup/\(∀ z∈fZ,z∈ag n)/\(∀ z,z∈fZ↔z∈told++((ah<|wk n e k).take m).map (av n)) /\
    σ=[some<|.ref R,some<|.ref dl,some<|.ref dr,some<|.ref dn,some<|.ref D,some<|.ref L,some<|.ref us[i],some<|.ref l,u3]) ⟨zs,_,λb o _ h=>h,lj,zn,zt,λz=>by rw [zm z];simp,rfl⟩ ?_ ?_ ?_
   ·rintro m σ H9 _ ⟨_,_,k9,_⟩;exact au.of<|k9 _ _ W9 e8
   ·rintro m x σ H9 hx ⟨fZ,u3,k9,vL,sJ,vM,vN,rfl⟩;have hm:m < (ah ts).length:=by
     have:=(Ac.mp hx).1;rw [Aa] at this;exact this
    have l8:=vK.1;rw [Ag,Ab hm] at hx;cases hx;have jS:m < (ah<|wk n e k).length:=by omega
    have BI:=vK.2 m _ _ (Ab hm)<|Ab jS;have Xa:(ah<|wk n e k)[m]∈wk n e k:=by
     have h1:(ah<|wk n e k)[m]?=some (ah<|wk n e k)[m]:=Ab jS;rw [mU] at h1;exact At h1
    have vi:=W8 _ Xa;obtain⟨y,hy⟩:=af.mp vi;have Lg:(ah<|wk n e k).take (m+1)=(ah<|wk n e k).take m++[(ah<|wk n e k)[m]]:=by rw [Cu,Ab jS];rfl
    generalize (ah<|wk n e k)[m]=c at BI vi hy Lg;have Xb:H9 (ah ts)[m]=some (TN n c):=k9 _ _ (lh BI lj λφ z=>nomatch z) BI;have Xc:H9 dn=some (.dT kn):=k9 _ _ (lh BH lj λφ z=>nomatch z) BH;have Xd:aZ H9 dn (.ref (ah ts)[m]) (some<|.str y):=by rw [<- v3 c y hy];exact aZ.t (k:=key n c) Xc Xb
    have zl:fZ.length<=(ag n).length:=bK sJ vM;refine bz 8 nd ?_;refine hG<|Uv<|ae 4 ⟨D,rfl,⟨_,vL⟩,fM hu<|ae 3<|ae 8 ⟨dn,.str y,rfl,Xd,y,fZ,rfl,vL,by omega,bg ⟨added fZ y,_,λb o hb h=>?_,aC,?_,λz hz=>?_,λz=>?_,rfl⟩⟩⟩
    ·rw [aw hb];exact k9 b o hb h
    ·unfold added
     split
     ·exact sJ
     ·rename_i Xe;exact ku sJ Xe
    ·rcases (Ia fZ y z).mp hz with h | h
     ·exact vM z h
     ·rw [h];exact di hy
    ·rw [Ia,vN z,Lg,Ah,<- Ao,Aq (s:=told++_)];show _\/z=y↔_\/z∈[av n c];rw [cO hy,Am]
   ·rintro σ H9 ⟨fZ,u3,k9,vL,sJ,vM,vN,rfl⟩;have l8:=vK.1;rw [Aa,l8,Bw] at vN;refine bg<|bg ⟨fZ,told++(ah<|wk n e k).map (av n),ls++[l],ws++[wk n e k],_,_,_,λb o h1 h2 h=>k9 _ _ h1<|Lf b o h1 h2 h,vL,sJ,vM,vN,?_,W6,W7,BG,rfl⟩;refine pB.keep ?_ (λa ha o ho=>k9 _ _ ?_ ho) λt p j h=>k9 _ _ (lh h lj λφ z=>nomatch z) h
    ·rw [pB.lst];exact k9 _ _ vH pB.lst
    ·intro q;rw [q,lj] at ho;obtain⟨j,hj⟩:=Ba ha;have hlen:=pB.len;have BF:j < (ws++[wk n e k]).length:=by have:=(Ac.mp hj).1;omega
     obtain⟨_,b,_⟩:=pB.at' j a _ hj<|Ab BF;rw [q,lj] at b;cases b
  ·have hz:z∈zs:=Classical.not_not.mp<|GQ<|Fb.mpr c;refine bg (bg ⟨zs,told,ls,ws,_,_,_,kp,eD,zn,zt,zm,hW,hf,by omega,?_,rfl⟩);rw [sG,li];show ws++(if av n e∈told then _ else _)=_;rw [BL<|by rw [cO gX];exact(zm z).mp hz]
 ·rintro σ H' ⟨zs,told,ls,ws,u1,u2,u3,kp,eD,zn,zt,zm,hW,hf,Jn,sG,rfl⟩;rw [Aa,WZ,List.drop_length] at sG;have BM:cK n (ends n) []=ws:=by rw [sG];show ws++[]=ws;rw [Be]
  refine cf (ae 5<|q L ls H' (λb o h=>?_) vw (by rw [BM];exact hW) λl hl=>fO sE<|hf l hl);exact kp _ _ (bD h nS) (bD h vw)<|sE _ _ h
end
end Y3
namespace lq
open PySem PySem.W PyProof.Rows
section
variable{lt:Nat->Nat->Bool}{cmp:Nat->Nat->(Bool->Shared->Prop)->Shared->Prop}{J:Shared->Prop}{n:Nat}
structure du(lt:Nat->Nat->Bool)(cmp:Nat->Nat->(Bool->Shared->Prop)->Shared->Prop)(J:Shared->Prop)(n:Nat):Prop where
 ask:∀(i j:Nat) (C:Bool->Shared->Prop) (s:Shared),i < n->j < n->i≠j->J s->(∀ s',J s'->C (lt i j) s')->cmp i j C s
 BO:∀ i j,i < n->j < n->i≠j->lt i j=true\/lt j i=true
 asy:∀ i j,lt i j=true->lt j i=false
 vO:∀ i j k,lt i j=true->lt j k=true->lt i k=true
def g(p:Array Nat)(i:Nat):Nat:=p.getD i 0
structure Pm(p:Array Nat)(n:Nat):Prop where
 size:p.size=n
 lt:∀ i,i < n->g p i < n
 inj:∀ i j,i < n->j < n->g p i=g p j->i=j
theorem gY{p:Array Nat}{i:Nat}{v:Nat}(h:p[i]?=some v):g p i=v:=by
 unfold g;rw [Fd,h];rfl
theorem iZ{p q:Array Nat}{i j:Nat}(h:p[i]?=q[j]?):g p i=g q j:=by
 unfold g;rw [Fd,Fd,h]
theorem Lh(n:Nat):Pm (List.toArray<|List.range n) n:=by
 have e:∀ i,i < n->g (List.toArray<|List.range n) i=i:=λi hi=>gY (by simp [hi]);exact⟨by simp,λi hi=>by rw [e i hi];exact hi,λi j hi hj h=>by rw [e i hi,e j hj] at h;exact h⟩
def Up(lt:Nat->Nat->Bool)(p:Array Nat)(m:Nat):Prop:=∀ i j,i < j->j < m->lt (g p i) (g p j)=true
def Dn(lt:Nat->Nat->Bool)(p:Array Nat)(m:Nat):Prop:=∀ i j,i < j->j < m->lt (g p j) (g p i)=true
theorem Xf(p:Array Nat):Up lt p 1:=λi j h1 h2=>by omega
theorem Xg(A:du lt cmp J n){p:Array Nat}{m:Nat}(h1:1<=m)(h:Up lt p m)(hm:lt (g p<|m - 1) (g p m)=true):Up lt p (m+1):=λi j hi hj=>by
 by_cases c:j < m
 ·exact h i j hi c
 ·have:j=m:=by omega
  subst this
  by_cases d:i=j - 1
  ·rw [d];exact hm
  ·exact A.vO _ _ _ (h i (j - 1) (by omega)<|by omega) hm
theorem Xh(A:du lt cmp J n){p:Array Nat}{m:Nat}(h1:1<=m)(h:Dn lt p m)(hm:lt (g p m) (g p<|m - 1)=true):Dn lt p (m+1):=λi j hi hj=>by
 by_cases c:j < m
 ·exact h i j hi c
 ·have:j=m:=by omega
  subst this
  by_cases d:i=j - 1
  ·rw [d];exact hm
  ·exact A.vO _ _ _ hm<|h i (j - 1) (by omega)<|by omega
theorem BQ(A:du lt cmp J n){i j:Nat}(hi:i < n)(hj:j < n)(bL:i≠j)(h:lt i j=false):lt j i=true:=by
 rcases A.BO i j hi hj bL with q | q
 ·rw [h] at q;cases q
 ·exact q
theorem BU(A:du lt cmp J n){p:Array Nat}(P:Pm p n):∀(f m:Nat) (Q:Nat->Shared->Prop) (s:Shared),1<=m->m+f<=n->Up lt p m->J s ->
  (∀ k s',J s'->m<=k->k<=m+f->Up lt p k->(k < m+f->lt (g p k) (g p<|k - 1)=true)->Q k s')->(kas_asc p f m).kasWp cmp Q s
 | 0,m,Q,s,h1,h2,hu,hJ,k=>k m s hJ (Al _) (Al _) hu λh=>by omega
 | f+1,m,Q,s,h1,h2,hu,hJ,k=>by
  have bL:g p m≠g p (m - 1):=λh=>by have:=P.inj m (m - 1) (by omega) (by omega) h;omega
  refine A.ask _ _ _ _ (P.lt m<|by omega) (P.lt (m - 1)<|by omega) bL hJ λs' fj=>?_;cases e:lt (p.getD m 0) (p.getD (m - 1) 0) with
  | true=>exact k m s' fj (Al _) (by omega) hu λ_=>e
  | false=>
   have sK:Up lt p (m+1):=Xg A h1 hu (BQ A (P.lt m<|by omega) (P.lt (m - 1)<|by omega) bL e);exact BU A P f (m+1) Q s' (by omega) (by omega) sK fj λk' s2 j2 a b c d=>k k' s2 j2 (by omega) (by omega) c λh=>d<|by omega
theorem Li(A:du lt cmp J n){p:Array Nat}(P:Pm p n):∀(f m:Nat) (Q:Array Nat×Nat×Nat->Shared->Prop) (s:Shared),1<=m->m+f<=n->Dn lt p m->J s ->
  (∀ k s',J s'->m<=k->k<=m+f->Dn lt p k->Q (p,k,0) s')->(kas_desc f p m 0).kasWp cmp Q s
 | 0,m,Q,s,h1,h2,hd,hJ,k=>k m s hJ (Al _) (Al _) hd
 | f+1,m,Q,s,h1,h2,hd,hJ,k=>by
  have bL:g p m≠g p (m - 1):=λh=>by have:=P.inj m (m - 1) (by omega) (by omega) h;omega
  refine A.ask _ _ _ _ (P.lt m<|by omega) (P.lt (m - 1)<|by omega) bL hJ λs' fj=>?_;cases e:lt (p.getD m 0) (p.getD (m - 1) 0) with
  | true=>
   show(if true=true then(if 0 > 0 then _ else kas_desc f p (m+1) 0) else _:KasT _).kasWp cmp Q s';rw [BL rfl,BJ<|by omega];exact Li A P f (m+1) Q s' (by omega) (by omega) (Xh A h1 hd e) fj λk' s2 j2 a b c=>k k' s2 j2 (by omega) (by omega) c
  | false=>
   refine A.ask _ _ _ _ (P.lt (m - 1)<|by omega) (P.lt m<|by omega) (CG bL) fj λs2 sM=>?_;have e2:lt (p.getD (m - 1) 0) (p.getD m 0)=true:=BQ A (P.lt m<|by omega) (P.lt (m - 1)<|by omega) bL e;rw [e2];exact k m s2 sM (Al _) (by omega) hd
theorem sN{p:Array Nat}{m k:Nat}(h:m<=p.size):g (kas_rev p 0 m) k=if k < m then g p (m - 1 - k) else g p k:=by
 have e:=getElem?_mirror_all (xs:=p) (i:=0) (j:=m) h k
 by_cases c:k < m
 ·rw [BL c];rw [BL ⟨Bo _,c⟩] at e;refine iZ<|e.trans ?_
  congr 1
  omega
 ·rw [BJ c];rw [BJ λq=>c q.2] at e;exact iZ e
theorem Lj{p:Array Nat}{m:Nat}(P:Pm p n)(h:m<=n):Pm (kas_rev p 0 m) n:=by
 have hs:m<=p.size:=by rw [P.size];exact h
 refine⟨by rw [kas_rev_size];exact P.size,λi hi=>?_,λi j hi hj q=>?_⟩
 ·rw [sN hs]
  split
  ·exact P.lt _<|by omega
  ·exact P.lt _ hi
 ·rw [sN hs,sN hs] at q
  by_cases c:i < m <;> by_cases d:j < m
  ·rw [BL c,BL d] at q;have:=P.inj _ _ (by omega) (by omega) q;omega
  ·rw [BL c,BJ d] at q;have:=P.inj _ _ (by omega) hj q;omega
  ·rw [BJ c,BL d] at q;have:=P.inj _ _ hi (by omega) q;omega
  ·rw [BJ c,BJ d] at q;exact P.inj _ _ hi hj q
theorem Xi{p:Array Nat}{m:Nat}(P:Pm p n)(h:m<=n)(hd:Dn lt p m):Up lt (kas_rev p 0 m) m:=λi j hi hj=>by
 have hs:m<=p.size:=by rw [P.size];exact h
 rw [sN hs,sN hs,BL (by omega),BL hj];exact hd (m - 1 - j) (m - 1 - i) (by omega)<|by omega
theorem Xj(A:du lt cmp J n){p:Array Nat}(P:Pm p n){m:Nat}{Q:Nat×Array Nat->Shared->Prop}{s:Shared}(h1:1<=m)(h2:m<=n)(hd:Dn lt p m)(hJ:J s)
  (k:∀ r q s',J s'->1<=r->r<=n->Pm q n->Up lt q r->Q (r,q) s'):(kas_tail3 m n p).kasWp cmp Q s:=by
 unfold kas_tail3;rw [HN];exact BU A (Lj P h2) (n - m) m _ s h1 (by omega) (Xi P h2 hd) hJ λr s' j a b c _=>k r _ s' j (by omega) (by omega) (Lj P h2) c
theorem Xk(A:du lt cmp J n){p:Array Nat}(P:Pm p n){Q:Nat×Array Nat->Shared->Prop}{s:Shared}(h2:2<=n)(hJ:J s)
  (k:∀ r q s',J s'->1<=r->r<=n->Pm q n->Up lt q r->Q (r,q) s'):(kas_count n p).kasWp cmp Q s:=by
 unfold kas_count;rw [HN];refine BU A P (n - 1) 1 _ s (Al _) (by omega) (Xf p) hJ λm s' fj m1 m2 hu sO=>?_
 by_cases c:m=n
 ·subst c;rw [BL<|by simp];exact k m p s' fj m1 (Al _) P hu
 ·rw [BJ<|by simpa using c]
  by_cases d:m > 1
  ·rw [BL d];have bL:g p 0≠g p (m - 1):=λh=>by have:=P.inj 0 (m - 1) (by omega) (by omega) h;omega
   refine A.ask _ _ _ _ (P.lt 0<|by omega) (P.lt (m - 1)<|by omega) bL fj λs2 sM=>?_;have e:lt (p.getD 0 0) (p.getD (m - 1) 0)=true:=hu 0 (m - 1) (by omega) (by omega);rw [e];exact k m p s2 sM m1 (by omega) P hu
  ·rw [BJ d];have em:m=1:=by omega
   subst em;unfold kas_descPart;rw [HN];have hl:=sO (by omega);have hd2:Dn lt p 2:=λi j hi hj=>by
    have:i=0/\j=1:=by omega
    rw [this.1,this.2];exact hl
   refine Li A P (n - (1+1)) (1+1) _ s' (by omega) (by omega) hd2 fj λr s2 sM r1 r2 hd=>?_;show(if(0:Nat) > 0 then _ else kas_tail3 r n p:KasT _).kasWp cmp Q s2;rw [BJ<|by omega];exact Xj A P (by omega) (by omega) hd sM k
theorem BV(A:du lt cmp J n){p:Array Nat}(P:Pm p n){k:Nat}(hk:k < n)(hu:Up lt p k):∀(f l r:Nat) (Q:Nat->Shared->Prop) (s:Shared),r<=k->l<=r->r - l<=f->J s->(∀ i,i < l->lt (g p i) (g p k)=true)->(∀ i,r<=i->i < k->lt (g p k) (g p i)=true) ->
  (∀ m s',J s'->m<=k->(∀ i,i < m->lt (g p i) (g p k)=true)->(∀ i,m<=i->i < k->lt (g p k) (g p i)=true)->Q m s')->(kas_place p k f l r).kasWp cmp Q s
 | 0,l,r,Q,s,h1,h2,h3,hJ,ha,hb,q=>q l s hJ (by omega) ha λi hi=>hb i<|by omega
 | f+1,l,r,Q,s,h1,h2,h3,hJ,ha,hb,q=>by
  unfold kas_place
  by_cases c:l>=r
  ·rw [BL c];exact q l s hJ (by omega) ha λi hi=>hb i<|by omega
  ·rw [BJ c];have Xl:(l+r) / 2 < k:=by omega
   have bL:g p k≠g p ((l+r) / 2):=λh=>by have:=P.inj k _ hk (by omega) h;omega
   refine A.ask _ _ _ _ (P.lt k hk) (P.lt _<|by omega) bL hJ λs' fj=>?_;cases e:lt (p.getD k 0) (p.getD ((l+r) / 2) 0) with
   | true=>
    show(kas_place p k f l<|(l+r) / 2).kasWp cmp Q s';refine BV A P hk hu f l ((l+r) / 2) Q s' (by omega) (by omega) (by omega) fj ha (λi hi Ln=>?_) q
    by_cases d:i=(l+r) / 2
    ·rw [d];exact e
    ·exact A.vO _ _ _ e<|hu _ _ (by omega) Ln
   | false=>
    show(kas_place p k f ((l+r) / 2+1) r).kasWp cmp Q s';have e2:=BQ A (P.lt k hk) (P.lt _<|by omega) bL e;refine BV A P hk hu f ((l+r) / 2+1) r Q s' h1 (by omega) (by omega) fj (λi hi=>?_) hb q
    by_cases d:i=(l+r) / 2
    ·rw [d];exact e2
    ·exact A.vO _ _ _ (hu _ _ (by omega) Xl) e2
theorem sP{p:Array Nat}{k m i:Nat}(hk:k < p.size)(hm:m<=k):g (bubble p k<|k - m) i=if i=m then g p k else if m < i/\i<=k then g p (i - 1) else g p i:=by
 have e:=getElem?_bubble (xs:=p) hk (k - m) (by omega) i;rw [show k - (k - m)=m by omega] at e
 by_cases c:i=m
 ·rw [BL c];rw [BL c] at e;exact iZ e
 ·rw [BJ c];rw [BJ c] at e
  by_cases d:m < i/\i<=k
  ·rw [BL d];rw [BL d] at e;exact iZ e
  ·rw [BJ d];rw [BJ d] at e;exact iZ e
theorem Xm{p:Array Nat}{k m:Nat}(P:Pm p n)(hk:k < n)(hm:m<=k):Pm (bubble p k<|k - m) n:=by
 have hs:k < p.size:=by rw [P.size];exact hk
 refine⟨by rw [bubble_size];exact P.size,λi hi=>?_,λi j hi hj q=>?_⟩
 ·rw [sP hs hm]
  split
  ·exact P.lt k hk
  ·split
   ·exact P.lt _<|by omega
   ·exact P.lt _ hi
 ·rw [sP hs hm,sP hs hm] at q;have src:∀ a,a < n->∃ b,b < n/\(if a=m then g p k else if m < a/\a<=k then g p (a - 1) else g p a)=g p b/\((a=m/\b=k)\/(a≠m/\(m < a/\a<=k)/\b=a - 1)\/(a≠m/\¬(m < a/\a<=k)/\b=a)):=λa ha=>by
   by_cases c:a=m
   ·exact⟨k,hk,by rw [BL c],.inl ⟨c,rfl⟩⟩
   ·by_cases d:m < a/\a<=k
    ·exact⟨a - 1,by omega,by rw [BJ c,BL d],.inr<|.inl ⟨c,d,rfl⟩⟩
    ·exact⟨a,ha,by rw [BJ c,BJ d],.inr<|.inr ⟨c,d,rfl⟩⟩
  obtain⟨x,x1,x2,x3⟩:=src i hi;obtain⟨y,y1,y2,y3⟩:=src j hj;rw [x2,y2] at q;have e:=P.inj x y x1 y1 q;subst e
  rcases x3 with ⟨a1,a2⟩ | ⟨a1,a2,a3⟩ | ⟨a1,a2,a3⟩
  ·rcases y3 with ⟨b1,b2⟩ | ⟨b1,b2,b3⟩ | ⟨b1,b2,b3⟩
   ·exact a1.trans b1.symm
   ·exact absurd (a2.symm.trans b3)<|Ds<|Bf (Nat.sub_lt (Fu b2.1) Fg) b2.2
   ·exact absurd ⟨Es (by rw [<- b3,a2];exact hm)<|CG b1,by rw [<- b3,a2];exact Al _⟩ b2
  ·rcases y3 with ⟨b1,b2⟩ | ⟨b1,b2,b3⟩ | ⟨b1,b2,b3⟩
   ·exact absurd (b2.symm.trans a3)<|Ds<|Bf (Nat.sub_lt (Fu a2.1) Fg) a2.2
   ·exact Nat.sub_one_cancel (Fu a2.1) (Fu b2.1)<|a3.symm.trans b3
   ·exact absurd ⟨Es (by rw [<- b3,a3];exact Nat.le_sub_one_of_lt a2.1)<|CG b1,by rw [<- b3,a3];exact Cd (Nat.sub_le _ _) a2.2⟩ b2
  ·rcases y3 with ⟨b1,b2⟩ | ⟨b1,b2,b3⟩ | ⟨b1,b2,b3⟩
   ·exact absurd ⟨Es (by rw [<- a3,b2];exact hm)<|CG a1,by rw [<- a3,b2];exact Al _⟩ a2
   ·exact absurd ⟨Es (by rw [<- a3,b3];exact Nat.le_sub_one_of_lt b2.1)<|CG a1,by rw [<- a3,b3];exact Cd (Nat.sub_le _ _) b2.2⟩ a2
   ·exact a3.symm.trans b3
theorem Xn{p:Array Nat}{k m:Nat}(P:Pm p n)(hk:k < n)(hm:m<=k)(hu:Up lt p k)(ha:∀ i,i < m->lt (g p i) (g p k)=true)(hb:∀ i,m<=i->i < k->lt (g p k) (g p i)=true):Up lt (bubble p k<|k - m) (k+1):=λi j hi hj=>by
 have hs:k < p.size:=by rw [P.size];exact hk
 rw [sP hs hm,sP hs hm]
 by_cases c:i=m
 ·rw [BL c,BJ (by omega),BL<|by omega];exact hb _ (by omega)<|by omega
 ·rw [BJ c]
  by_cases d:j=m
  ·rw [BL d,BJ<|by omega];exact ha i<|by omega
  ·rw [BJ d]
   by_cases e:m < i/\i<=k
   ·rw [BL e,BL<|by omega];exact hu _ _ (by omega)<|by omega
   ·rw [BJ e]
    by_cases f:m < j/\j<=k
    ·rw [BL f];exact hu _ _ (by omega)<|by omega
    ·rw [BJ f];exact hu _ _ hi<|by omega
theorem Lq(A:du lt cmp J n):∀(f:Nat) (p:Array Nat) (k:Nat) (Q:Array Nat->Shared->Prop) (s:Shared),Pm p n->1<=k->k+f=n->Up lt p k->J s->(∀ q s',J s'->Pm q n->Up lt q n->Q q s')->(kas_bin f p k).kasWp cmp Q s
 | 0,p,k,Q,s,P,h1,h2,hu,hJ,q=>by
  have:k=n:=by omega
  subst this;exact q p s hJ P hu
 | f+1,p,k,Q,s,P,h1,h2,hu,hJ,q=>by
  unfold kas_bin;rw [HN];refine BV A P (by omega) hu k 0 k _ s (Al _) (Bo _) (by omega) hJ (λi hi=>by omega) (λi hi Ln=>by omega) λm s' fj hm ha hb=>?_;exact Lq A f _ (k+1) Q s' (Xm P (by omega) hm) (by omega) (by omega) (Xn P (by omega) hm hu ha hb) fj q
theorem Xo(A:du lt cmp J n){Q:Array Nat->Shared->Prop}{s:Shared}(h2:2<=n)(hJ:J s)(q:∀ p s',J s'->Pm p n->Up lt p n->Q p s'):(kas_sort n).kasWp cmp Q s:=by
 unfold kas_sort;rw [HN];refine Xk A (Lh n) h2 hJ λr p s' fj r1 r2 P hu=>?_;show(if r < n then kas_bin (n - max r 1) p (max r 1) else .ret p:KasT _).kasWp cmp Q s';have em:max r 1=r:=by omega
 rw [em]
 by_cases c:r < n
 ·rw [BL c];exact Lq A (n - r) p r Q s' P r1 (by omega) hu fj q
 ·rw [BJ c];have:r=n:=by omega
  subst this;exact q p s' fj P hu
end
theorem Lr{p:Array Nat}{n:Nat}(P:Pm p n):p.toList.Nodup:=by
 rw [Cb,Bp];intro i j hi hj c7 e;have yu:i < n:=by rw [Cn,P.size] at hi;exact hi
 have va:j < n:=by rw [Cn,P.size] at hj;exact hj
 have e1:g p i=p.toList[i]:=gY (by rw [<- Cg];exact Ab hi);have e2:g p j=p.toList[j]:=gY (by rw [<- Cg];exact Ab hj);have:=P.inj i j yu va (by rw [e1,e2,e]);omega
theorem B0{p:Array Nat}{n v:Nat}(P:Pm p n)(h:v∈p.toList):v < n:=by
 obtain⟨i,hi⟩:=Ba h;have hl:i < n:=by have:=(Ac.mp hi).1;rw [Cn,P.size] at this;exact this
 have e1:g p i=v:=gY (by rw [<- Cg];exact hi);rw [<- e1];exact P.lt i hl
theorem Xp{p:Array Nat}{n:Nat}(P:Pm p n):p.toList.Perm (List.range n):=by
 rw [List.perm_ext_iff_of_nodup (Lr P) List.nodup_range];intro v;rw [Ca];refine⟨λh=>B0 P h,λh=>CN λhn=>?_⟩;have l1:p.toList.length<=((List.range n).erase v).length:=Nt.bK (Lr P) λz hz=>by
  have bL:z≠v:=λe=>hn<|e ▸ hz;exact(Du bL).mpr<|Ca.mpr<|B0 P hz
 rw [Dh<|Ca.mpr h,Cn,P.size,Ci] at l1;omega
def Hd(h:Heap)(v:Value)(z:Str):Prop:=∃ a o xs n t,v = .ref a/\h.get? a=some o/\o.cls = .type "tuple"/\o.data = .seq xs n/\xs[0]?=some (.str z t)
theorem Hd.keep{h h':Heap}{v:Value}{z:Str}(x:Hd h v z)(k:∀ a o,v = .ref a->h.get? a=some o->h'.get? a=some o):Hd h' v z:=by
 obtain⟨a,o,xs,n,t,e,h1,h2⟩:=x;exact⟨a,o,xs,n,t,e,k a o e h1,h2⟩
def nY(h:Heap)(vs:List Value)(zs:List Str):Prop:=vs.length=zs.length/\∀(i:Nat) v z,vs[i]?=some v->zs[i]?=some z->Hd h v z
def ltZ(zs:List Str)(i j:Nat):Bool:=decide ((zs.getD i ⟨#[]⟩).cps.toList < (zs.getD j ⟨#[]⟩).cps.toList)
section
variable{prog:Program}{w:World}{A:Around}{E:Value->Shared->Prop}{s:Shared}
theorem Lv:∀{h:Heap} {vs:List Value} {zs:List Str},nY h vs zs->∃ fs,KatTups h vs fs/\fs.length=vs.length/\∀ f∈fs,∃ z t,f=Value.str z t
 | h,[],_,_=>⟨[],KatTups.nil,rfl,λf hf=>by cases hf⟩
 | h,v :: vs,[],hh=>by have:=hh.1;simp at this
 | h,v :: vs,z :: zs,hh=>by
  obtain⟨fs,k1,k2,k3⟩:=Lv (h:=h) (vs:=vs) (zs:=zs) ⟨by have:=hh.1;simpa using this,λi a b h1 h2=>hh.2 (i+1) a b (by simpa using h1)<|by simpa using h2⟩;obtain⟨a,o,xs,n,t,rfl,h1,h2,h3,h4⟩:=hh.2 0 v z rfl rfl;refine⟨.str z t :: fs,KatTups.cons h1 h2 h3 h4 k1,by rw [An,An,k2],λf hf=>?_⟩
  rcases Ai.mp hf with rfl | hf
  ·exact⟨z,t,rfl⟩
  ·exact k3 f hf
theorem Xq{x y:Value}{z u:Str}{Q:Bool->Shared->Prop}(hx:Hd s.heap x z)(hy:Hd s.heap y u)(bL:z≠u)(h:Q (decide (z.cps.toList < u.cps.toList)) s):wpAny (model prog w) A (keyLt' (tuples' true) x y) Q E s:=by
 obtain⟨a,o,xs,n,t,rfl,h1,h2,h3,h4⟩:=hx;obtain⟨b,o',ys,n',t',rfl,g1,g2,g3,g4⟩:=hy;refine kat_lt h1 h3 g1 g3 ?_;have ex:∃ r,xs.toList = .str z t :: r:=by
  have:xs.toList[0]?=some (.str z t):=by rw [Cg];exact h4
  cases e:xs.toList with
  | nil=>rw [e] at this;cases this
  | cons c r=>rw [e] at this;cases this;exact⟨r,rfl⟩
 have ey:∃ r,ys.toList = .str u t' :: r:=by
  have:ys.toList[0]?=some (.str u t'):=by rw [Cg];exact g4
  cases e:ys.toList with
  | nil=>rw [e] at this;cases this
  | cons c r=>rw [e] at this;cases this;exact⟨r,rfl⟩
 obtain⟨rx,ex⟩:=ex;obtain⟨ry,ey⟩:=ey;rw [ex,ey];show KatLex prog w A true _ Q ((.str z t,.str u t') :: rx.zip ry) 0 s;refine kat_cons<|eqBool_str ?_;have:(z == u)=false:=beq_eq_false_iff_ne.mpr bL;rw [this];exact kat_no<|oneLt_str h
theorem Xr{a b:Str}(h:a.cps.toList=b.cps.toList):a=b:=by
 apply Str.ext';exact Array.toList_inj.mp h
theorem Xs{vs:List Value}{zs:List Str}(hh:nY s.heap vs zs)(hn:zs.Nodup):du (ltZ zs) (kas_ask prog w A (tuples' true) vs) (λs'=>s'=s) vs.length:=by
 have hl:=hh.1;have gz:∀ i,(hi:i < zs.length)->zs.getD i ⟨#[]⟩=zs[i]:=λi hi=>by simp [hi]
 have gv:∀ i,(hi:i < vs.length)->vs.getD i Value.none=vs[i]:=λi hi=>by simp [hi]
 have ne:∀ i j,(hi:i < zs.length)->(hj:j < zs.length)->i≠j->zs[i]≠zs[j]:=λi j hi hj c7 e=>by
  rcases Nat.lt_or_gt_of_ne c7 with c | c
  ·exact Bp.mp (Cb.mp hn) i j hi hj c e
  ·exact Bp.mp (Cb.mp hn) j i hj hi c e.symm
 refine⟨λi j C s' hi hj c7 hs hC=>?_,λi j hi hj c7=>?_,λi j h=>?_,λi j k h1 h2=>?_⟩
 ·subst hs;unfold kas_ask;rw [gv i hi,gv j hj];have e:ltZ zs i j=decide (zs[i].cps.toList < zs[j].cps.toList):=by unfold ltZ;rw [gz i (by omega),gz j<|by omega]
  refine Xq (hh.2 i _ zs[i] (Ab hi)<|Ab<|by omega) (hh.2 j _ zs[j] (Ab hj)<|Ab<|by omega) (ne i j (by omega) (by omega) c7) ?_;rw [<- e];exact hC s' rfl
 ·unfold ltZ;rw [gz i (by omega),gz j (by omega),HY,HY]
  by_cases c:zs[i].cps.toList < zs[j].cps.toList
  ·exact .inl c
  ·by_cases d:zs[j].cps.toList < zs[i].cps.toList
   ·exact .inr d
   ·have:zs[i].cps.toList=zs[j].cps.toList:=List.le_antisymm (List.not_lt.mp d)<|List.not_lt.mp c;exact absurd (Xr this)<|ne i j (by omega) (by omega) c7
 ·unfold ltZ at h ⊢;have:=BX h;exact BR λq=>Fh _<|Fw this q
 ·unfold ltZ at h1 h2 ⊢;exact BW<|Fw (BX h1)<|BX h2
theorem map_range(vs:List Value):(List.range vs.length).map (λi=>vs.getD i Value.none)=vs:=by
 apply List.ext_getElem
 ·simp
 ·intro i h1 h2;simp [h2]
theorem Xt{a:Addr}{vs:List Value}{zs:List Str}{n:Nat}{P:Fin->Shared->Prop}(ho:s.heap.get? a=some (seqObj "list" vs.toArray n))(bV:∀ v∈vs,v ≠ .ref a)(hh:nY s.heap vs zs)(hn:zs.Nodup)(sQ:vs.length < 64)
  (h:∀ p:Array Nat,Pm p vs.length->Up (ltZ zs) p vs.length->P (.done<|.ret .none) {s with heap:=sortedHeap s.heap a vs (List.toArray<|p.toList.map λi=>vs.getD i Value.none)}) :
  wpAny (model prog w) A (Builtin.«list.sort» ⟨[.ref a],[]⟩) P E s:=by
 rw [list_sort_plain];have ha:a < s.heap.objs.size:=Ax ho;have B1:vs.length<=sizeLine:=by rw [DG];omega
 refine BK<|JG ho rfl ?_;refine BK<|JB ho rfl ?_;obtain⟨e1,qS⟩:∃ e1,(s.heap.update a<|Obj.mapSeq λ_=>#[]).get? a=some (seqObj "list" #[] e1):=⟨_,get?_update_seq ho λ_=>#[]⟩;refine BK<|JR qS rfl ?_;refine BK<|wpAny_newTuple ?_;refine BK<|JW ?_;refine CQ ?_;have mI:(((s.heap.update a<|Obj.mapSeq λ_=>#[]).push<|seqObj "tuple" vs.toArray 0).push<|seqObj "list" #[] 0).get? a=some (seqObj "list" #[] e1):=Ak _<|Ak _ qS;show wpAny (model prog w) A _ P E {s with heap:=((s.heap.update a<|Obj.mapSeq λ_=>#[]).push<|seqObj "tuple" vs.toArray 0).push (seqObj "list" #[] 0)};have Lw:nY (((s.heap.update a<|Obj.mapSeq λ_=>#[]).push<|seqObj "tuple" vs.toArray 0).push<|seqObj "list" #[] 0) vs zs:=⟨hh.1,λi v z h1 h2=>(hh.2 i v z h1 h2).keep λb o e q=>by
  have hb:a≠b:=λe2=>bV v (At h1) (by rw [e,e2]);exact Ak _<|Ak _<|(Dk _ _ hb).trans q⟩
 dsimp only
 have hsz:vs.toArray.size=vs.length:=by simp
 by_cases h2:vs.toArray.size < 2
 ·rw [BL h2,BL h2];refine BK<|BP ?_;rw [StateT.run_pure];refine BK<|BP ?_
  dsimp only
  have e5:(arrOf<|SortSt.mk' general' (vs.toArray.zip vs.toArray) #[] 7 none).map (·.2)=vs.toArray:=by
   show(vs.toArray.zip vs.toArray).map (·.2)=_;apply Array.toList_inj.mp;simp [List.map_snd_zip]
  refine BK<|JR mI rfl ?_;refine BK (JB mI rfl ?_ (hsz2:=by rw [e5,hsz];omega));simp only [JZ,Cj,CV];refine BP ?_;rw [e5];have fin:=h (List.toArray<|List.range vs.length) (Lh _) λi j hi hj=>by rw [hsz] at h2;omega
  have e6:(List.toArray<|List.range vs.length).toList.map (λi=>vs.getD i Value.none)=vs:=map_range vs;rw [e6] at fin;exact fin
 ·rw [BJ h2,BJ h2];obtain⟨fs,k1,k2,k3⟩:=Lv Lw;rw [hsz] at h2;refine BK<|kat_kind (T:= .type "str") k1 (by omega) (λf hf=>?_) (by decide) ?_
  ·obtain⟨z,t,rfl⟩:=k3 f hf;exact Looks.of_pure rfl
  refine BK<|CK (kat_run (prog:=prog) (w:=w) (A:=A) (E:=E) (κ:=tuples' true) (ks:=vs) (vs:=vs) (Q:=λdc s'=>s'={s with heap:=((s.heap.update a<|Obj.mapSeq λ_=>#[]).push<|seqObj "tuple" vs.toArray 0).push (seqObj "list" #[] 0)}/\∃ p:Array Nat,Pm p vs.length/\Up (ltZ zs) p vs.length/\arrOf dc=p.map (kas_item<|vs.toArray.zip vs.toArray)/\failedOf dc=none)
   (G:=λp s'=>s'={s with heap:=((s.heap.update a<|Obj.mapSeq λ_=>#[]).push<|seqObj "tuple" vs.toArray 0).push (seqObj "list" #[] 0)}/\Pm p vs.length/\Up (ltZ zs) p vs.length) rfl (by omega) sQ (λp dc s' _ a2 a3 a4=>⟨a4.1,p,a4.2.1,a4.2.2,a2,a3⟩)
   (Xo (Xs (s:={s with heap:=((s.heap.update a<|Obj.mapSeq λ_=>#[]).push<|seqObj "tuple" vs.toArray 0).push (seqObj "list" #[] 0)}) Lw hn) (by omega) rfl λp s' e P U=>⟨e,P,U⟩)) ?_ λ_ _ e=>e
  rintro ⟨⟨⟩,dc⟩ s' ⟨rfl,p,P,U,Xu,hf⟩
  dsimp only
  have e3:=kat_snds (ks:=vs) (vs:=vs) rfl Xu;refine BK<|JR mI rfl ?_;refine BK (JB mI rfl ?_ (hsz2:=by rw [e3,As,Aa,Cn,P.size];omega));rw [hf];simp only [JZ,Cj,CV];refine BP ?_;rw [e3];exact h p P U
theorem Xv{l:Addr}{vs:List Value}{zs:List Str}{Q:Value->Shared->Prop}(hl:s.heap.IsList l vs.toArray)(hh:nY s.heap vs zs)(hn:zs.Nodup)(sQ:vs.length < 64)
  (h:∀(h':Heap) (e:Nat) (p:Array Nat),Pm p vs.length->Up (ltZ zs) p vs.length->(∀ b u,s.heap.get? b=some u->h'.get? b=some u)->h'.get? (s.heap.objs.size+1)=some (seqObj "list" (List.toArray<|p.toList.map λi=>vs.getD i Value.none) e)->Q (.ref<|s.heap.objs.size+1) {s with heap:=h'}) :
  wpAny (model prog w) A (call (.builtin "sorted") [.ref l]) Q E s:=by
 have B1:vs.length<=sizeLine:=by rw [DG];omega
 refine Calls.call_function_entry kind_sorted plain_sorted entry_sorted (args_sorted1 _) ?_;unfold Builtin.«sorted»;refine BK (m:=checkCount "sorted" 1 1 _)<|BP ?_;refine BK<|collect_list (vs:=vs) hl ?_;refine BK<|JW ?_;have hsz:((s.heap.push<|seqObj "list" #[] 0).update s.heap.objs.size (Obj.mapSeq (·++vs.toArray))).objs.size=s.heap.objs.size+1:=by
  rw [Heap.size_update,size_push']
 have lI:(((s.heap.push<|seqObj "list" #[] 0).update s.heap.objs.size (Obj.mapSeq (·++vs.toArray))).push<|seqObj "list" vs.toArray 0).get? (s.heap.objs.size+1)=some (seqObj "list" vs.toArray 0):=by
  rw [<- hsz];exact Bb _ rfl
 have Xw:nY (((s.heap.push<|seqObj "list" #[] 0).update s.heap.objs.size (Obj.mapSeq (·++vs.toArray))).push<|seqObj "list" vs.toArray 0) vs zs:=⟨hh.1,λi v z h1 h2=>(hh.2 i v z h1 h2).keep λb o e q=>
  Ak _ ((Dk _ _<|Ds<|Ax q).trans<|Ak _ q)⟩
 have bL:∀ v∈vs,v ≠ .ref (s.heap.objs.size+1):=λv hv e=>by
  obtain⟨i,hi⟩:=Ba hv;have hl:=hh.1;have Xx:i < zs.length:=by have:=(Ac.mp hi).1;omega
  obtain⟨b,o,xs,n,t,e2,h1,_⟩:=hh.2 i v zs[i] hi<|Ab Xx;rw [e2] at e;cases e;exact absurd (Nat.lt_of_succ_lt<|Ax h1)<|Dd _
 show wpAny _ _ _ _ _ {s with heap:=((s.heap.push<|seqObj "list" #[] 0).update s.heap.objs.size (Obj.mapSeq (·++vs.toArray))).push (seqObj "list" vs.toArray 0)};rw [hsz];refine BK<|CQ<|FN slot_list_sort ⟨_,lI,rfl⟩ entry_list_sort (Xt lI bL Xw hn sQ λp P U=>⟨_,rfl,?_⟩)<|args_list_sort _;obtain⟨e,he⟩:=sortedAll_at s.heap vs<|List.toArray<|p.toList.map λi=>vs.getD i Value.none;exact BP ⟨_,rfl,h _ e p P U (λb u hb=>sortedAll_old hb) he⟩
end
end lq
namespace L2
open PySem PySem.Spec PyProof.Rows lq
theorem Lx:∀{ts:List Addr} {its:List Value},ax (ts.map V.ref) its->its=ts.map Value.ref
 | [],its,r=>r.zero
 | t :: ts,its,r=>by
  cases r with
  | cons h1 h2=>
   rw [Lx h2];have:_=Value.ref t:=h1;rw [this];rfl
theorem Ly:∀(ts:List Addr),ax (ts.map V.ref)<|ts.map Value.ref
 | []=> .nil
 | t :: ts=> .cons rfl (Ly ts)
theorem Xy{α β:Type}(xs:List α)(ys:List β)(h:xs.length=ys.length)(a:α)(b:β):(List.range xs.length).map (λi=>(xs.getD i a,ys.getD i b))=xs.zip ys:=by
 apply List.ext_getElem
 ·simp [h]
 ·intro i h1 h2;have hx:i < xs.length:=by simp at h1;exact h1
  have hy:i < ys.length:=by omega
  simp [hx,hy]
section
variable{X:Cx}{σ:St}{H:Hp}
theorem Xz:gJ X (.builtin "sorted") (λxs H Q=>∃(l:Addr) (ts:List Addr) (zs:List Str),xs=[.ref l]/\au X.K H l (ts.map V.ref)/\ts.length=zs.length/\zs.Nodup/\ts.length < 64/\(∀(i:Nat) t z,ts[i]?=some t->zs[i]?=some z->∃ r,H t=some (.tup<|.str z :: r)) /\
  ∀(r:Addr) (ps:List<|Addr×Str),H r=none->ps.Perm (ts.zip zs)->ps.Pairwise (λa b=>a.2.cps.toList < b.2.cps.toList)->Q (.ref r) (upd H r<|.lst<|ps.map λp=> .ref p.1)):=by
 intro pins s σ H xs us Q I r h;obtain⟨l,ts,zs,rfl,hl,hlen,hn,sQ,hd,q⟩:=h;obtain⟨u,rfl,ru⟩:=vals1 r;cases (show u=Value.ref l from ru);obtain⟨its,rv,pl,_⟩:=I.list hl;have ei:=Lx rv;subst ei;have hh:nY s.heap (ts.map Value.ref) zs:=by
  refine⟨by rw [Aa];exact hlen,λi v z h1 h2=>?_⟩;rw [Ag,Bg] at h1;obtain⟨t,ht,rfl⟩:=h1;obtain⟨rr,hr⟩:=hd i t z ht h2;obtain⟨its,r3,tp,_⟩:=I.tuple<|aP.of hr;cases r3 with
  | cons a1 a2=>
   obtain⟨tk,rfl⟩:=a1;obtain⟨o,ho,hc,n,hd2⟩:=tp;exact⟨t,o,_,n,tk,rfl,ho,hc,hd2,rfl⟩
 refine Xv pl.isList hh hn (by rw [Aa];exact sQ) λh' e p P U kp he=>?_;rw [Aa] at P U;have gp:∀ i,i < ts.length->g p i < ts.length:=P.lt;have XA:p.toList.length=ts.length:=by rw [Cn];exact P.size
 have e1:(p.toList.map λi=>(ts.map Value.ref).getD i Value.none)=((p.toList.map λi=>(ts.getD i 0,zs.getD i ⟨#[]⟩)).map λx=>x.1).map Value.ref:=by
  rw [Bi,Bi];refine Ay λi hi=>?_;have bn:=B0 P hi;show(ts.map Value.ref).getD i Value.none=Value.ref (ts.getD i 0);simp [bn]
 refine⟨.ref _,_,I.kC (s':={s with heap:=h'}) kp rfl rfl (Fx _) (show ay X.prog X.w _ h' _ (.lst<|(p.toList.map λi=>(ts.getD i 0,zs.getD i ⟨#[]⟩)).map λx=>V.ref x.1) from ?_),rfl,q _ (p.toList.map λi=>(ts.getD i 0,zs.getD i ⟨#[]⟩)) (I.aE.fresh<|Fx _) ?_ ?_⟩
 ·refine⟨by rw [Aa,Aa,XA,DG];omega,_,e,?_,he⟩;rw [e1];have:=Ly<|(p.toList.map λi=>(ts.getD i 0,zs.getD i (⟨#[]⟩:Str))).map λx=>x.1;rw [Bi] at this;exact this
 ·rw [<- Xy ts zs hlen 0 ⟨#[]⟩];exact(Xp P).map _
 ·rw [Bp];intro i j hi hj c7;rw [Aa] at hi hj;have:=U i j c7 (by omega);have q1:g p i=p.toList[i]:=gY (by rw [<- Cg];exact Ab hi);have q2:g p j=p.toList[j]:=gY (by rw [<- Cg];exact Ab hj);rw [q1,q2] at this;rw [Dr,Dr];exact BX this
theorem XB{e1 e2 e3:Expr}{k:Nat}{pos:Pos}{t:Addr}{x y z:V}{R:St->Hp->Prop}(hc:X.calm=true)(ht:aP X.K H t [x,y,z])(h:Eg X e1 x σ H λσ1 H1=>Eg X e2 y σ1 H1 λσ2 H2=>Eg X e3 z σ2 H2 R)
  (hn:(assignEach [e1,e2,e3] X.env).length=3:=by rfl) (cA:(assignEach [e1,e2,e3] X.env).findIdx? (·.1)=none:=by rfl)
  (iF:(assignEach [e1,e2,e3] X.env).map (·.2)=assign e1 X.env :: (assignEach [e2,e3] X.env).map (·.2):=by rfl) (jx:(assignEach [e2,e3] X.env).map (·.2)=assign e2 X.env :: (assignEach [e3] X.env).map (·.2):=by rfl) (uj:(assignEach [e3] X.env).map (·.2)=assign e3 X.env :: (assignEach [] X.env).map (·.2):=by rfl) :
  Eg X (.Tuple [e1,e2,e3] k pos) (.ref t) σ H R:=
 xP (FY (t:=oD (λv σ H Q=>Eg X e1 v σ H Q)<|oD (λv σ H Q=>Eg X e2 v σ H Q)<|oD (λv σ H Q=>Eg X e3 v σ H Q) lN) hc (qd mv (qd mv (qd mv FX uj) jx) iF) hn cA)
  ⟨t,_,rfl,ht,rfl,_,_,rfl,h.mono λσ1 H1 h1=>⟨_,_,rfl,h1.mono λσ2 H2 h2=>⟨_,_,rfl,h2.mono λσ3 H3 q=>⟨rfl,q⟩⟩⟩⟩
end
end L2
namespace Y3
open PySem L2 Nt bJ
abbrev T3(x:Lk):HO:= .tup [.str x.1,.str x.2.1,.str x.2.2]
def j4(H:Hp)(us:List Addr)(ls:List Lk):Prop:=us.length=ls.length/\∀(j:Nat) u x,us[j]?=some u->ls[j]?=some x->H u=some (T3 x)
theorem j4.keep{H H':Hp}{us:List Addr}{ls:List Lk}(h:j4 H us ls)(k:∀ t xs,H t=some (.tup xs)->H' t=some (.tup xs)):j4 H' us ls:=⟨h.1,λj u x h1 h2=>k _ _<|h.2 j u x h1 h2⟩
theorem j4.snoc{H:Hp}{us:List Addr}{ls:List Lk}{u:Addr}{x:Lk}(h:j4 H us ls)(hu:H u=some (T3 x)):j4 H (us++[u]) (ls++[x]):=by
 refine⟨by rw [Af,Af,h.1];rfl,λj v y h1 h2=>?_⟩;have hl:=h.1
 by_cases hj:j < us.length
 ·rw [Av hj] at h1;rw [Av<|by omega] at h2;exact h.2 j v y h1 h2
 ·rw [Az<|by omega] at h1 h2;have fN:j - us.length=0:=by
   have:=(Ac.mp h1).1;simp at this;omega
  rw [fN] at h1;rw [<- hl,fN] at h2;cases h1;cases h2;exact hu
def sR(ls:List Lk):Prop:=ls.Pairwise λx y=>x.1.cps.toList < y.1.cps.toList
def B2:Sp:=λvs H Q _=>∃(R:Addr) (as:List<|Addr×Addr) (n:Net),vs=[.ref R]/\aj H R as n/\aq n/\n.length<=1000/\(ag n).length<=60 /\
 ∀(L:Addr) (us:List Addr) (ls:List Lk) (H':Hp),ak H H'->H L=none->H' L=some (.lst<|us.map V.ref)->j4 H' us ls->sR ls->(∀ x,x∈ls↔jm n x)->ls.length<=60->Q (.ref L) H'
theorem XC{n:Net}(T:aq n){r p:Nat}{z:Str}(hr:r < n.length)(hz:(row n r)[p]?=some z):(bu (aU (n.take r)++aW r ((row n r).take p) 0) z).length<=1:=by
 obtain⟨rest,h⟩:=pq hr hz;have h1:bu (aU n) z=bu (aU (n.take r)++aW r ((row n r).take p) 0) z++(r,p) :: bu rest z:=by
  rw [h];unfold bu;rw [Dq,Ah,List.filter_cons_of_pos<|by simp];rfl
 have h2:(bu (aU n) z).length=2:=by
  have:=jK n z;rw [T z<|di (e:=(r,p)) hz] at this;exact this
 rw [h1,Af,An] at h2;omega
section
variable{P:Program}{w:World}{K:PySem.W.Frag}{mg:Str->Option Value}{base:Heap}
abbrev XD:List Str:=["rows","met","links","point","ties","tie"]
theorem sS:ao XD ["rows"] (bm yK):=⟨rfl,rfl,rfl,by decide +kernel,rfl,by decide +kernel,by decide +kernel⟩
theorem XE{f:Addr}{fd:FuncData}(F:bM K "links_of" "links_of" yK f fd)(T:Txt mg):aI P w K mg base bH 1 f fd ["rows"] B2:=by
 refine F.gb sS (λvs H Q E h=>?_) λb0 H vs Q E hr h=>?_
 ·obtain⟨R,as,n,rfl,_⟩:=h;rfl
 obtain⟨R,as,n,rfl,hR,hT,hn,lg,q⟩:=h;have nd:=sS.nd;have bV:=hR.len;have hu:=hr.u1;show Run _ _ _ [some<|.ref R,none,none,none,none,none] H;refine aQ 1 nd<|yg λdm jL=>?_;refine aQ 2 nd<|eW<|aD ⟨Z0,λM hM=>?_⟩;have vP:M≠dm:=λe=>by rw [e,aC] at hM;cases hM
 have Lz:H M=none:=by rw [aw vP] at hM;exact hM
 have s0:ak H (upd (upd H dm<|.dK []) M<|.lst []):=(a9 jL _).trans<|a9 hM _;have LA:(upd (upd H dm<|.dK []) M<|.lst []) dm=some (.dK []):=by rw [aw<|CG vP,aC]
 have LD:(upd (upd H dm<|.dK []) M<|.lst []) M=some (.lst []):=aC;show Run _ _ _ [some<|.ref R,some<|.ref dm,some<|.ref M,none,none,none] (upd (upd H dm<|.dK []) M<|.lst []);generalize upd (upd H dm<|.dK []) M (.lst [])=H0 at s0 LA LD;have B3:(aU n).length=(ag n).length:=by rw [<- iB n 0,Aa];rfl
 refine my<|ae 0 ⟨R,rfl,⟨_,au.of<|s0 _ _ hR.lst⟩,mB (xs:=as.map λa=>V.ref a.1) (λr σ H'=>∃(kM:List<|Key×V) (us:List Addr) (ls:List Lk) (u1 u2 u3:Option V),ak H H'/\H' dm=some (.dK kM)/\H' M=some (.lst<|us.map V.ref)/\j4 H' us ls/\gq n (aU<|n.take r) kM ls/\σ=[some<|.ref R,some<|.ref dm,some<|.ref M,u1,u2,u3])
  ⟨[],[],[],_,_,_,s0,LA,LD,⟨rfl,λj u x h=>by simp at h⟩,gq.start n,rfl⟩ ?_ ?_ ?_⟩
 ·rintro r σ H' _ ⟨_,_,_,_,_,_,sm,_⟩;exact au.of<|sm _ _ hR.lst
 ·rintro r x σ H' hx ⟨kM,us,ls,u1,u2,u3,sm,ed,eM,fz,I,rfl⟩;have hi:r < n.length:=by
   have:=(Ac.mp hx).1;rw [Aa] at this;omega
  obtain⟨a,ea,dL,et,el,er⟩:=(hR.same sm).at hi;rw [Ag,ea] at hx;cases hx;refine iE rfl (aP.of et) (bz 3 nd<|bz 4 nd ?_);refine my<|ae 4 ⟨a.2,rfl,⟨_,au.of el⟩,mB (xs:=(row n r).map V.str) (λp σ bC=>∃(kM:List<|Key×V) (us:List Addr) (ls:List Lk) (u3:Option V),ak H bC/\bC a.2=some (Ls<|row n r)/\bC dm=some (.dK kM)/\bC M=some (.lst<|us.map V.ref)/\j4 bC us ls/\gq n (aU (n.take r)++aW r ((row n r).take p) 0) kM ls/\σ=[some<|.ref R,some<|.ref dm,some<|.ref M,some<|.str n[r].1,some<|.ref a.2,u3])
   ⟨kM,us,ls,_,sm,el,ed,eM,fz,by simpa [aW] using I,rfl⟩ ?_ ?_ ?_⟩
  ·rintro p σ bC _ ⟨_,_,_,_,_,e,_⟩;exact au.of e
  ·rintro p x σ bC hx ⟨kM,us,ls,u3,sm,el,ed,eM,fz,I,rfl⟩;have hp:p < (row n r).length:=by
    have:=(Ac.mp hx).1;rw [Aa] at this;exact this
   have hz:(row n r)[p]?=some (row n r)[p]:=Ab hp;rw [Ag,hz] at hx;cases hx;have iF:=kF (r:=r) hz;have hle:=XC hT hi hz;have LI:(aU (n.take r)++aW r ((row n r).take p) 0).length<=60:=by
    obtain⟨rest,gA⟩:=pq hi hz;have h1:=BZ List.length gA;simp only [Af] at h1 ⊢;omega
   have lM:=I.dk;have lL:=I.jQ;have lA:=fz.1;have LJ:aM n r=n[r].1:=fC hi;have XF:a.2≠M:=λe=>by
    have:=(hR.tup r a n[r] ea<|Ab hi).2;rw [e,Lz] at this;cases this
   generalize (row n r)[p]=z at hz iF hle;refine bz 5 nd ?_;refine fX<|uo hu<|ae 5<|ae 1 ⟨dm,_,rfl,aZ.k (k:=Sum.inr z) ed,?_⟩;cases ie:bu (aU (n.take r)++aW r ((row n r).take p) 0) z with
   | nil=>
    rw [I.m0 z ie];show if false=true then _ else _;rw [BJ<|by decide];refine oT hu<|ae 3<|ae 1<|ae 5 ⟨dm,_,rfl,bQ.k (k:=Sum.inr z) ed (cn<|by omega),bg<|bg ⟨_,us,ls,_,dJ sm jL,?_,aC,?_,fz.keep λt xs h=>?_,?_,rfl⟩⟩
    ·rw [aw<|bW el ed λz=>nomatch z];exact el
    ·rw [aw vP];exact eM
    ·rw [aw<|bW h ed λz=>nomatch z];exact h
    ·rw [iF,<- Ao];have:=I.new (e:=(r,p)) ie;show gq n _ (putK kM (Sum.inr z)<|.str n[r].1) ls;rw [<- LJ];exact this
   | cons b rest=>
    have B4:rest=[]:=by
     rw [ie] at hle;exact Bh.mp<|by have:rest.length+1<=1:=hle;omega
    subst B4;have vm:=I.m1 z b [] ie;rw [vm];show if true=true then _ else _;rw [BL rfl];refine hG (kD<|ae 2 ⟨M,rfl,⟨_,eM⟩,eg<|ai<|ae 5<|ai<|fM hu<|ae 1<|ae 5 ⟨dm,.str<|aM n b.1,rfl,by rw [<- vm];exact aZ.k (k:=Sum.inr z) ed,ai<|ae 3<|aD ⟨(by show 3<=sizeLine;decide),λt ht=>?_⟩⟩⟩);have sT:=a9 ht<|.tup [.str z,.str<|aM n b.1,.str n[r].1];have ntM:t≠M:=λe=>by rw [e,eM] at ht;cases ht
    have nU:(upd bC t<|.tup [.str z,.str<|aM n b.1,.str n[r].1]) t=some (T3 (z,aM n b.1,aM n (r,p).1)):=by
     rw [aC];show _=some (HO.tup [.str z,.str<|aM n b.1,.str<|aM n r]);rw [LJ]
    have kT:∀ c xs,(upd bC t<|.tup [.str z,.str<|aM n b.1,.str n[r].1]) c=some (.tup xs)->(upd (upd bC t<|.tup [.str z,.str<|aM n b.1,.str n[r].1]) M<|.lst<|us.map V.ref++[.ref t]) c=some (.tup xs):=λc xs h=>by
     rw [aw<|bW h (sT _ _ eM) λz=>nomatch z];exact h
    refine⟨_,sT _ _ eM,by rw [Aa];exact cn (by omega),bg<|bg ⟨kM,us++[t],ls++[(z,aM n b.1,aM n (r,p).1)],_,dJ (sm.trans sT) Lz,?_,?_,?_,?_,?_,rfl⟩⟩
    ·rw [aw XF];exact sT _ _ el
    ·rw [aw<|CG vP];exact sT _ _ ed
    ·rw [aC,Ah];rfl
    ·exact((fz.keep λc xs h=>sT _ _ h).snoc nU).keep kT
    ·rw [iF,<- Ao];exact I.old (e:=(r,p)) ie
  ·rintro σ bC ⟨kM,us,ls,u3,sm,_,ed,eM,fz,I,rfl⟩;rw [Aa,Bw] at I;refine bg ⟨kM,us,ls,_,_,_,sm,ed,eM,fz,?_,rfl⟩;rw [mM hi];exact I
 ·rintro σ H' ⟨kM,us,ls,u1,u2,u3,sm,ed,eM,fz,I,rfl⟩;rw [Aa,bV,Bw] at I;have lL:=I.jQ;have lA:=fz.1;have bn:us.length < 64:=by omega
  refine cf (cI Xz T.sorted KZ (ai (ae 2 (aD ⟨M,us,ls.map (·.1),rfl,au.of eM,by rw [Aa];exact lA,I.nn,bn,λi t z h1 h2=>?_,λL ps hL hp hs=>?_⟩))))
  ·rw [Ag,Bg] at h2;obtain⟨x,hx,rfl⟩:=h2;exact⟨_,fz.2 i t x h1 hx⟩
  have pick:∀ p∈ps,∃ x,x∈ls/\x.1=p.2/\H' p.1=some (T3 x):=λp XG=>by
   have hz:=hp.mem_iff.mp XG;obtain⟨i,hi⟩:=Ba hz;rw [List.getElem?_zip_eq_some] at hi;obtain⟨h1,h2⟩:=hi;rw [Ag,Bg] at h2;obtain⟨x,hx,e⟩:=h2;exact⟨x,At hx,e,fz.2 i _ x h1 hx⟩
  obtain⟨xs,dE⟩:∃ xs:List Lk,xs.length=ps.length/\∀(j:Nat) p x,ps[j]?=some p->xs[j]?=some x->x∈ls/\x.1=p.2/\H' p.1=some (T3 x):=by
   clear hs hp
   induction ps with
   | nil=>exact⟨[],rfl,λj p x h=>by simp at h⟩
   | cons p r ih=>
    obtain⟨x,q1,q2,q3⟩:=pick p<|Ad ..;obtain⟨xs,l1,l2⟩:=ih λc hc=>pick c<|Ae _ hc;refine⟨x :: xs,by rw [An,An,l1],λj c y h1 h2=>?_⟩;cases j with
    | zero=>
     cases h1;cases h2;exact⟨q1,q2,q3⟩
    | succ j=>exact l2 j c y (by simpa using h1)<|by simpa using h2
  obtain⟨lx,dE⟩:=dE;have lp:ps.length=ls.length:=by rw [hp.length_eq,List.length_zip,Aa];omega
  have sL:=a9 hL<|.lst<|ps.map λp=> .ref p.1;have LL:sR xs:=by
   unfold sR;rw [Bp];intro i j hi hj c7;have a1:=(dE i ps[i] xs[i] (Ab<|by omega)<|Ab hi).2.1;have a2:=(dE j ps[j] xs[j] (Ab<|by omega)<|Ab hj).2.1;rw [a1,a2];exact Bp.mp hs i j (by omega) (by omega) c7
  have nZ:(xs.map (·.1)).Nodup:=by
   rw [Cb,Fc];exact LL.imp λh e=>by rw [e] at h;exact Fh _ h
  have B5:∀ x,x∈xs↔x∈ls:=λx=>by
   constructor
   ·intro h;obtain⟨j,hj⟩:=Ba h;have mS:=(Ac.mp hj).1;exact(dE j ps[j] x (Ab<|by omega) hj).1
   ·intro h;refine CN λhn=>?_;have B6:xs.Nodup:=by
     rw [Cb] at nZ ⊢;rw [Fc] at nZ;exact nZ.imp λh e=>h<|by rw [e]
    have:=bK B6 (b:=ls.erase x) λz hz=>by
     have XH:z∈ls:=by
      obtain⟨j,hj⟩:=Ba hz;have mS:=(Ac.mp hj).1;exact(dE j ps[j] z (Ab<|by omega) hj).1
     exact(Du λe:z=x=>hn<|e ▸ hz).mpr XH
    rw [Dh h] at this;have:0 < ls.length:=PJ h;omega
  refine q L (ps.map (·.1)) xs _ (sm.trans sL) (fO sm hL) (by rw [aC,Bi];rfl) ⟨by rw [Aa];omega,λj u x h1 h2=>?_⟩ LL (λx=>by rw [B5 x];exact I.whole hT x) (by omega);rw [Ag,Bg] at h1;obtain⟨p,nG,rfl⟩:=h1;exact sL _ _ (dE j p x nG h2).2.2
end
end Y3
namespace L2
open PySem PySem.Spec PyProof.Rows
section
variable{X:Cx}{σ:St}{H:Hp}{Q:VK}
end
open cb
section
variable{prog:Program}{w:World}{A:Around}{E:Value->Shared->Prop}{s:Shared}{T:String}{r d:Addr}{n:Nat}{P:Nat->Value->Prop}{OK:Heap->Prop}
end
section
variable{X:Cx}
end
end L2
namespace L2
open PySem PySem.Spec PyProof.Rows
section
def B7(K:PySem.W.Frag)(l:Addr):It:=
  ⟨λi H => ∃ xs x, au K H l xs ∧ xs[i]? = some x,
   λi H v H'=>∃ T x,H T=none/\v = .ref T/\H'=upd H T (.tup [.int (i:Int),x])/\∀ xs,au K H l xs->xs[i]?=some x,
   λi H=>∃ xs,au K H l xs/\xs.length<=i⟩
def XI(m l:Addr)(i:Nat)(h:Heap):Prop:=(∃ old,IsEnum h (m+1) m (i:Int) old)/\h.IsListIter m l i
theorem XJ{P:Program}{w:World}{K:PySem.W.Frag}{elts:List Expr}{k:Nat}{tp:Pos}(m l:Addr):Turn P w K (.Tuple elts k tp) (B7 K l) [m,m+1] (m+1) (XI m l) where
 mem:=by simp
 obj:=λi h st c hc=>by
  obtain⟨⟨old,z1⟩,⟨o4,e4,c4,d4⟩⟩:=st;simp only [Ai,Bk,DQ] at hc
  rcases hc with rfl | rfl
  ·exact⟨_,e4,λv z=>by rw [d4] at z;cases z⟩
  ·exact⟨_,z1,λv z=>by cases z⟩
 keep:=λi h h' st kp=>by
  obtain⟨⟨old,z1⟩,⟨o4,e4,r4⟩⟩:=st;exact⟨⟨old,kp _ (by simp) _ z1⟩,⟨o4,kp _ (by simp) _ e4,r4⟩⟩
 item:=by
  intro X hP hw hK hc i pins s σ H E I hf st hg;subst hP hw hK;obtain⟨xs,x,dE,hx⟩:=hg;obtain⟨iG,jM,p1,jN⟩:=I.list dE;obtain⟨u1,kG,yA⟩:=jM.get hx;obtain⟨⟨old,z1⟩,z4⟩:=id st;refine wpAny_pyNext_enum_item z1 z4 p1.isList (x:=u1) (by simpa using kG) (by simp) λh' a1 a2 a3 a4 kp=>?_;have hT:H s.heap.objs.size=none:=I.aE.fresh<|Al _;have nT:∀ c∈[m,m+1],c≠s.heap.objs.size:=λc a7=>by
   have:∃ o,s.heap.get? c=some o:=by
    obtain⟨o4,e4,_⟩:=z4;simp only [Ai,Bk,DQ] at a7
    rcases a7 with rfl | rfl
    ·exact⟨_,e4⟩
    ·exact⟨_,z1⟩
   obtain⟨o,e⟩:=this;exact Bz<|Ax e
  have I1:Inv X pins σ (upd H s.heap.objs.size<|.tup [.int (i:Int),x]) {s with heap:=s.heap.push {cls:= .type "tuple",data:= .seq #[.int i s.toks,u1]},toks:=s.toks+1}:=
   I.laid (t':=s.toks+1) (λb o e=>Ak _ e) (Al _) (show ay X.prog X.w _ _ _ (.tup [.int (i:Int),x]) from⟨Z2,[.int i s.toks,u1],.cons ⟨_,rfl⟩<|.cons yA .nil,⟨_,Bb _ rfl,rfl,_,rfl⟩⟩)
  have f1:∀ c∈[m,m+1],bT X pins (upd H s.heap.objs.size<|.tup [.int (i:Int),x]) c:=λc a7=>⟨by rw [aw<|nT c a7];exact(hf c a7).1,(hf c a7).2⟩;have yB:∀ c o,c∉[m,m+1]->(s.heap.push {cls:= .type "tuple",data:= .seq #[.int i s.toks,u1]}).get? c=some o->h'.get? c=some o:=λc o a7 e=>by
   rcases Fy e with ⟨ec,eo⟩ | e'
   ·rw [ec,eo];exact a3
   ·simp only [Ai,Bk,DQ,not_or] at a7;exact kp c o a7.2 a7.1 e'
  have I2:=Inv.bB (h':=h') (t':=s.toks+1) I1 f1 yB;refine⟨_,rfl,wpAny_letOwnedTupleGo_enum (s:={s with heap:=h',toks:=s.toks+1}) a1 λh2 b1 sb=>?_⟩;have uH:∀ c o,c∉[m+1]->h'.get? c=some o->h2.get? c=some o:=λc o a7 e=>(sb.2 c<|by simpa using a7).trans e;have I3:=Inv.bB (h':=h2) (t':=s.toks+1) I2 (ch:=[m+1]) (λc a7=>f1 c<|by simp at a7;simp [a7]) uH;refine⟨.ref s.heap.objs.size,_,I3,rfl,⟨_,x,hT,rfl,rfl,λzs hz=>by rw [I.cz hz dE];exact hx⟩,?_,λc a7=>(f1 c a7).1⟩;obtain⟨o3,e3,r3⟩:=a2;exact⟨⟨u1,b1⟩,⟨o3,uH _ _ (by simp) e3,r3⟩⟩
 done:=by
  intro X hP hw hK hc i pins s σ H E I hf st hg;subst hP hw hK;obtain⟨xs,dE,qY⟩:=hg;obtain⟨iG,jM,p1,jN⟩:=I.list dE;have l1:=jM.length;obtain⟨⟨old,z1⟩,z4⟩:=id st;refine wpAny_pyNext_enum_end (I.ok.hd hc) z1 z4 p1.isList (by simp;omega) λh' kp=>⟨rfl,I.bB (t':=s.toks) (ch:=[m,m+1]) hf λc o a7 e=>?_⟩;simp only [Ai,Bk,DQ,not_or] at a7;exact kp c o a7.1 e
 self:=λ_ _ _ _ _ st h=>by
  obtain⟨⟨old,z1⟩,_⟩:=st;exact wpAny_pyIter_enum z1 h
end
section
variable{X:Cx}
def XM(K:PySem.W.Frag)(ta:TA):TI:=λσ H R=>ta σ H λvs H1=>∃ a,vs=[.ref a]/\(∃ xs,au K H1 a xs)/\R (B7 K a) H1
theorem XN{elts:List Expr}{k:Nat}{tp:Pos}{a:Expr}{ta:TA}{p pos:Pos}(hg:Gl X "enumerate")(hm:X.mg "enumerate" = none)(ha:PA X [a] ta)(hs:starEach [a] X.env=[(false,eval a X.env)]:=by rfl) :
  PI X (.Tuple elts k tp) (.Call (.Name "enumerate" p) [a] [] pos) (XM X.K ta):=by
 intro pins s σ H R I h;refine Call_<|jv I hg hm boot_enumerate<|DW (aH (ha pos pins s σ H _ I h) λus s1 ⟨vs,H1,I1,r1,q1⟩=>?_) hs rfl;obtain⟨x,e,⟨xs,hx⟩,q⟩:=q1;subst e;obtain⟨u,rfl,ru⟩:=r1.one;cases (show u=Value.ref x from ru);obtain⟨iG,jM,p1,jN⟩:=I1.list hx;refine call_enumerate_list p1.isList λh' a1 a2 a3 kp=>?_;refine wpAny_pyIter_enum (s:={s1 with heap:=h'}) a1 ?_;refine⟨s1.heap.objs.size+1,[s1.heap.objs.size,s1.heap.objs.size+1],_,_,H1,rfl,I1.kept (t':=s1.toks) kp,XJ s1.heap.objs.size x,⟨⟨_,a1⟩,a2⟩,λb hb=>?_,q⟩;have hle:s1.heap.objs.size<=b:=by
  simp only [Ai,Bk,DQ] at hb
  rcases hb with rfl | rfl <;> omega
 exact I1.eQ hle<|I1.aE.fresh hle
end
section
variable{X:Cx}{σ:St}{H:Hp}{D:Ends}{body:List Stmt}
def XO(tl:TE):TI:=λσ H R=>tl σ H λx H1=>∃ d o kvs,x = .ref d/\H1 d=some (.bv o<|.dK kvs)/\R (uE d o kvs) H1
theorem XQ{tg l:Expr}{tl:TE}(hl:PE X l tl):PI X tg l (XO tl):=by
 intro pins s σ H R I h;refine aH (hl pins s σ H _ I h) λv s1 ⟨x,H1,I1,r1,q1⟩=>?_;obtain⟨d,o,kvs,e,hH,q⟩:=q1;subst e;cases (show v=Value.ref d from r1);obtain⟨ho,z,jL,vs,rel,dd⟩:=(show ay X.prog X.w H1 s1.heap d (.bv o<|.dK kvs) from I1.aE d _ hH);obtain⟨ep,o',es,dA,r1,r2,r3⟩:=dd.dictAt;have:o=o':=Option.some.inj<|ho.symm.trans dA;subst this;refine wpAny_pyIter_dict jL ⟨o,es,dA,r1,r2,r3⟩ ?_;refine⟨s1.heap.objs.size,[s1.heap.objs.size],_,_,_,rfl,I1.kept (t':=s1.toks) λb o e=>Ak _ e,II d _ o es ep kvs r2,⟨_,Bb _ rfl,rfl,by rw [rel.length];rfl⟩,λb hb=>?_,q⟩;have e:b=s1.heap.objs.size:=by simpa using hb
 subst e;exact I1.eQ (Al _)<|I1.aE.fresh<|Al _
end
section
variable{X:Cx}{σ:St}{H:Hp}{D:Ends}{body rest:List Stmt}{a b:Expr}
end
end L2
namespace cb
open PySem SetTable
section
variable{t:SetTable}{es:Array (Int×Value)}{Z:List Ze}
end
section
variable{prog:Program}{w:World}{K:Type} [DecidableEq K]
variable{A:Around}{E:Value->Shared->Prop}{s:Shared}{a b:Addr}{knd:HeapKind prog w K}{k:K}{Y:List (Nat×K×Addr)}
end
section
variable{prog:Program}{w:World}{K:Type} [DecidableEq K] {knd:KeyKind prog w K}
end
end cb
namespace L2
open PySem PySem.Spec PyProof.Rows cb Classical
section
variable{prog:Program}{w:World}{A:Around}{E:Value->Shared->Prop}{s:Shared}{a b:Addr}{Y:List Yt}{k:List Key}
end
section
variable{X:Cx}{σ:St}{H:Hp}{Q:VK}{pins:List (Addr×Obj)}{s:Shared}{a b:Addr}{Y:List Yt}
end
end L2
namespace L2
open PySem PySem.Spec PyProof.Rows
section
variable{X:Cx}{σ:St}{H:Hp}{Q:VK}
end
section
variable{X:Cx}{elt tg:Expr}{ifs:List Expr}{scope:Scope}{σ:St}{H:Hp}{N':List Str}{A a:Addr}{xs:List V}{after:Hp->Prop}
end
section
variable{X:Cx}{σ:St}{H:Hp}{D:Ends}{rest:List Stmt}{o i e:Expr}{op:Operator}{i6:kj}{ip pos:Pos}
theorem XR:qf X (l4 X.K):=by
 intro pins s σ H x y v u Q I rx ry h;obtain⟨p,xs,i,z,rfl,rfl,hq,he,q⟩:=h;cases rx;obtain⟨t,rfl⟩:=ry;obtain⟨its,r,pl,hz⟩:=I.list hq;obtain⟨j,h1,h2,h3,h4,h5⟩:=tY he;obtain⟨w,ew,dH⟩:=r.get h2;have hl:=r.length;have hn:=lX;have fin:EP X pins σ Q w s:=⟨z,H,I,dH,q⟩
 by_cases h0:0<=i
 ·have hj:i.toNat=j:=by
   rw [PB h0 h5] at h1;exact Option.some.inj h1
  exact wpAny_getItem_list pl.isList h0 (by omega) (by rw [hj];simpa using ew) fin
 ·have hj:(i+(its.toArray.size:Int)).toNat=j:=by
   rw [KY (by omega) h4] at h1;rw [As,<- hl];exact Option.some.inj h1
  exact wpAny_getItem_list_neg pl.isList (by omega) (by rw [As] <;> omega) (by omega) (by rw [hj];simpa using ew) fin
theorem LN(hp:oC X op i6)(h:Ev X o σ H λx H1=>Ev X i σ H1 λy H2=>l4 X.K x y H2 λa H3=>Ev X e σ H3 λb H4=>i6 a b H4 λz H5=>GH x y z H5 λH6=>Run X rest D σ H6)
  (ha:∀ ov iv new,augStore i ov iv new=(do holding [new,ov,iv] (setItem ov iv new);release [new,ov,iv] [];pure .next):=by intros;rfl):Run X (.AugAssign (.Subscript o i ip) op e pos :: rest) D σ H:=
 iw (Ph bw bw XR bw hp set_list ha) h
end
section
variable{X:Cx}{σ:St}{H:Hp}
end
section
variable{M:Model}{A:Around}{E:Value->Shared->Prop}{s:Shared}
end
section
variable{P:Program}{w:World}{K:PySem.W.Frag}{mg:Str->Option Value}{base:Heap}{N:List Str}{qual:Str}{scope:Scope}{f:Addr}{cd:Value}{A:Around}{outer:List Env}{s:Shared}{H:Hp}{E:XK}
end
section
variable{X:Cx}{σ:St}{H:Hp}{D:Ends}{rest:List Stmt}
end
section
variable{P:Program}{w:World}{K:PySem.W.Frag}{mg:Str->Option Value}{base:Heap}{N:List Str}{qual:Str}{scope:Scope}{f:Addr}{cd:Value}{A:Around}{outer:List Env}{s:Shared}{H:Hp}{E:XK}
end
section
variable{X:Cx}{CX:fE}{k:Nat}{f:Addr}{fd:FuncData}{ps:List Str}{sp:Sp}{E:XK}{x:Str}{p pos:Pos}{e:Expr}{es:List Expr}{σ:St}{H:Hp}{Q:VK}
end
section
variable{X:Cx}{pins:List (Addr×Obj)}{σ:St}{H:Hp}{s:Shared}{b:Addr}
end
section
variable{M:Model}{A:Around}{E:Value->Shared->Prop}{K:PySem.W.Frag}{s:Shared}
end
section
variable{X:Cx}{pins:List (Addr×Obj)}{σ:St}{H:Hp}{s:Shared}
end
open PySem.W
section
variable{prog:Program}{w:World}{A:Around}{E:Value->Shared->Prop}{s:Shared}{K:Frag}{a C:Addr}{o:Obj}
end
end L2
namespace L2
open PySem PySem.Spec PyProof.Rows
section
variable{prog:Program}{w:World}{A:Around}{E:Value->Shared->Prop}{s:Shared}
end
open bJ
section
variable{X:Cx}{a b e:Expr}{es:List Expr}{σ:St}{H:Hp}{Q:VK}{pos p kp cp:Pos}{j:Nat}
end
end L2
namespace L2
open PySem PySem.Spec PyProof.Rows cb
section
variable{X:Cx}{elt t1 i1 t2 i2 t3 i3:Expr}{f1 f2 f3:List Expr}{scope:Scope}{pos:Pos}{σ:St}{H:Hp}{acc:Value}{env:Env}
end
section
variable{X:Cx}{tg:Expr}{ifs:List Expr}{inner:Sem Unit}{σ:St}{H:Hp}{a:Addr}{xs:List V}{after:St->Hp->Prop}
theorem q1w(Pv:Nat->St->Hp->Prop)(h0:Pv 0 σ H)(hl:∀ i σ' H',i<=xs.length->Pv i σ' H'->aP X.K H' a xs)
  (hs:∀ i x σ' H',xs[i]?=some x->Pv i σ' H'->Eg X tg x σ' H' λσ2 H3=>Ei X ifs σ2 H3 λb H4=>if b=true then jb X inner σ2 H4 (Pv<|i+1) else Pv (i+1) σ2 H4)
  (hd:∀ σ' H',Pv xs.length σ' H'->after σ' H'):ft X tg ifs inner (qh X.K a) after σ H:=by
 refine⟨λi m σ' H'=>m=xs.length - i/\i<=xs.length/\Pv i σ' H',⟨_,rfl,Bo _,h0⟩,?_⟩;rintro i m σ' H' ⟨rfl,hi,p⟩;have q:=hl i σ' H' hi p
 by_cases bn:i < xs.length
 ·refine .inr ⟨⟨xs,xs[i],q,by simp [bn]⟩,Pv<|i+1,λσ' H' p'=>⟨xs.length - (i+1),by omega,rfl,bn,p'⟩,λx H2 y=>?_⟩;obtain⟨e,y⟩:=y;subst e;exact hs i x σ' _ (y xs q) p
 ·have e:i=xs.length:=by omega
  subst e;exact .inl ⟨⟨xs,q,Al _⟩,hd σ' H' p⟩
theorem XS(Pv:Nat->St->Hp->Prop)(h0:Pv 0 σ H)(hl:∀ i σ' H',i<=xs.length->Pv i σ' H'->au X.K H' a xs)
  (hs:∀(i:Nat) x T σ' H',xs[i]?=some x->Pv i σ' H'->H' T=none->Eg X tg (.ref T) σ' (upd H' T<|.tup [.int (i:Int),x]) λσ2 H3=>Ei X ifs σ2 H3 λb H4=>if b=true then jb X inner σ2 H4 (Pv<|i+1) else Pv (i+1) σ2 H4)
  (hd:∀ σ' H',Pv xs.length σ' H'->after σ' H'):ft X tg ifs inner (B7 X.K a) after σ H:=by
 refine⟨λi m σ' H'=>m=xs.length - i/\i<=xs.length/\Pv i σ' H',⟨_,rfl,Bo _,h0⟩,?_⟩;rintro i m σ' H' ⟨rfl,hi,p⟩;have q:=hl i σ' H' hi p
 by_cases bn:i < xs.length
 ·refine .inr ⟨⟨xs,xs[i],q,by simp [bn]⟩,Pv<|i+1,λσ' H' p'=>⟨xs.length - (i+1),by omega,rfl,bn,p'⟩,λv H2 y=>?_⟩;obtain⟨T,x,hT,rfl,rfl,hx⟩:=y;exact hs i x T σ' _ (hx xs q) p hT
 ·have e:i=xs.length:=by omega
  subst e;exact .inl ⟨⟨xs,q,Al _⟩,hd σ' H' p⟩
end
section
variable{X:Cx}{σ:St}{H:Hp}{Q:VK}
end
end L2
namespace Dt
variable{κ:Type}
def X(r:κ->Int):(List κ->Int)->List κ->Int
 | _,[]=>0
 | f,c :: cs=>r c * f cs - X r (λl=>f<|c :: l) cs
def one:List κ->Int
 | []=>1
 | _ :: _=>0
def dt:List (κ->Int)->List κ->Int
 | []=>one
 | r :: rs=>X r<|dt rs
theorem pC(r:κ->Int)(a b:Int):∀(cs:List κ) (f g:List κ->Int),X r (λl=>a * f l+b * g l) cs=a * X r f cs+b * X r g cs
 | [],_,_=>by simp [X]
 | c :: cs,f,g=>by
  show r c * (a * f cs+b * g cs) - X r (λl=>a * f (c :: l)+b * g (c :: l)) cs=_;rw [pC r a b cs (λl=>f<|c :: l) λl=>g<|c :: l];show _=a * (r c * f cs - _)+b * (r c * g cs - _)
  grind
theorem LO(r:κ->Int):∀(cs:List κ),X r (λ_=>0) cs=0
 | []=>rfl
 | c :: cs=>by
  show r c * 0 - X r (λ_=>0) cs=0;rw [LO r cs];simp
theorem jr(r s:κ->Int)(a b:Int):∀(cs:List κ) (f:List κ->Int),X (λx=>a * r x+b * s x) f cs=a * X r f cs+b * X s f cs
 | [],_=>by simp [X]
 | c :: cs,f=>by
  show(a * r c+b * s c) * f cs - X (λx=>a * r x+b * s x) (λl=>f<|c :: l) cs=_;rw [jr r s a b cs λl=>f<|c :: l];show _=a * (r c * f cs - _)+b * (s c * f cs - _)
  grind
theorem LU(r:κ->Int)(f g:List κ->Int)(cs:List κ):X r (λl=>f l - g l) cs=X r f cs - X r g cs:=by
 have h:=pC r 1 (-1) cs f g;have e:(λl=>1 * f l+-1 * g l)=λl=>f l - g l:=by funext l;grind
 rw [e] at h;rw [h]
 grind
theorem pD(r:κ->Int)(a:Int)(f:List κ->Int)(cs:List κ):X r (λl=>a * f l) cs=a * X r f cs:=by
 have h:=pC r a 0 cs f f;have e:(λl=>a * f l+0 * f l)=λl=>a * f l:=by funext l;grind
 rw [e] at h;rw [h]
 grind
theorem i0(r s:κ->Int):∀(cs:List κ) (f:List κ->Int),X r (X s f) cs=- X s (X r f) cs
 | [],_=>rfl
 | c :: cs,f=>by
  have ih:=i0 r s cs λl=>f<|c :: l;have h1:X r (X s f) (c :: cs)=r c * X s f cs - (s c * X r f cs - X r (X s λl=>f<|c :: l) cs):=by
   show r c * X s f cs - X r (λl=>s c * f l - X s (λl'=>f<|c :: l') l) cs=_;rw [LU,pD]
  have h2:X s (X r f) (c :: cs)=s c * X r f cs - (r c * X s f cs - X s (X r λl=>f<|c :: l) cs):=by
   show s c * X r f cs - X s (λl=>r c * f l - X r (λl'=>f<|c :: l') l) cs=_;rw [LU,pD]
  rw [h1,h2]
  grind
theorem vQ(r:κ->Int)(cs:List κ)(f:List κ->Int):X r (X r f) cs=0:=by
 have:=i0 r r cs f;omega
theorem LV{r:κ->Int}:∀{rs:List (κ->Int)},r∈rs->∀ cs,X r (dt rs) cs=0
 | s :: rs,h,cs=>by
  rcases Ai.mp h with e | h
  ·rw [e];exact vQ s cs _
  ·show X r (X s<|dt rs) cs=0;have e:X r (dt rs)=λ_=>0:=by funext l;exact LV h l
   rw [i0,e,LO];rfl
theorem pE{r:κ->Int}:∀{cs:List κ},(∀ c∈cs,r c=0)->∀ f,X r f cs=0
 | [],_,_=>rfl
 | c :: cs,h,f=>by
  show r c * f cs - X r (λl=>f<|c :: l) cs=0;rw [h c<|Ad ..,pE λd hd=>h d<|Ae _ hd];simp
section
variable(l:κ->κ->Int)
def mm(K:List κ):Int:=dt (K.map l) K
def MM(K:List κ)(i j:κ):Int:=X (l i) (dt<|K.map l)<|j :: K
structure Red(K:List κ)(i:κ)(c:Int)(R:κ->Int):Prop where
 eq:∀ cs,X R (dt<|K.map l) cs=c * X (l i) (dt<|K.map l) cs
 no:∀ k∈K,R k=0
 nz:c≠0
variable{l}
theorem Red.val{K:List κ}{i:κ}{c:Int}{R:κ->Int}(h:Red l K i c R)(j:κ):c * MM l K i j=mm l K * R j:=by
 have e:=h.eq<|j :: K;have e2:X R (dt<|K.map l) (j :: K)=R j * mm l K:=by
  show R j * dt (K.map l) K - X R _ K=_;rw [pE h.no];show _=R j * dt (K.map l) K;omega
 rw [e2] at e;show c * X (l i) (dt<|K.map l) (j :: K)=_;rw [<- e,Int.mul_comm]
theorem Red.step{K:List κ}{i k:κ}{c d:Int}{R S:κ->Int}(h:Red l K i c R)(g:Red l K k d S)(hk:S k≠0):Red l (k :: K) i (S k * c) (λx=>S k * R x+(- R k) * S x):=by
 refine⟨λcs=>?_,λx hx=>?_,?_⟩
 ·show X _ (X (l k)<|dt<|K.map l) cs=S k * c * X (l i) (X (l k)<|dt<|K.map l) cs;rw [jr];have e1:X R (X (l k)<|dt<|K.map l) cs=c * X (l i) (X (l k)<|dt<|K.map l) cs:=by
   rw [i0,show X R (dt<|K.map l)=λcs=>c * X (l i) (dt<|K.map l) cs from funext h.eq,pD,i0 (l i)<|l k]
   grind
  have e2:X S (X (l k)<|dt<|K.map l) cs=0:=by
   rw [i0,show X S (dt<|K.map l)=λcs=>d * X (l k) (dt<|K.map l) cs from funext g.eq,pD,vQ]
   grind
  rw [e1,e2]
  grind
 ·rcases Ai.mp hx with e | hx
  ·rw [e]
   grind
  ·show S k * R x+(- R k) * S x=0;rw [h.no x hx,g.no x hx];simp
 ·exact OJ hk h.nz
def Good(l:κ->κ->Int):List κ->Prop
 | []=>True
 | k :: K=>mm l (k :: K)≠0/\Good l K
theorem Good.ne{K:List κ}(h:Good l K):mm l K≠0:=by
 cases K with
 | nil=>exact λh=>(nomatch h)
 | cons k K=>exact h.1
theorem vR:∀{K:List κ},Good l K->∀ i,∃ c R,Red l K i c R
 | [],_,i=>⟨1,l i,λcs=>(by grind),λk hk=>(nomatch hk),by decide⟩
 | k :: K,h,i=>by
  obtain⟨c,R,hi⟩:=vR h.2 i;obtain⟨d,S,hk⟩:=vR h.2 k;refine⟨_,_,hi.step hk λz=>?_⟩;have e:=hk.val k;rw [z] at e;have:d * MM l K k k=0:=by omega
  rcases Int.mul_eq_zero.mp this with q | q
  ·exact hk.nz q
  ·exact h.1 q
theorem j5{K:List κ}{k:κ}(h:Good l<|k :: K)(i j:κ):MM l K i j * MM l K k k - MM l K i k * MM l K k j=mm l K * MM l (k :: K) i j:=by
 obtain⟨c,R,hi⟩:=vR h.2 i;obtain⟨d,S,hk⟩:=vR h.2 k;have hS:S k≠0:=λz=>by
  have e:=hk.val k;rw [z] at e;have:d * MM l K k k=0:=by omega
  rcases Int.mul_eq_zero.mp this with q | q
  ·exact hk.nz q
  ·exact h.1 q
 have e1:=hi.val j;have e2:=hi.val k;have e3:=hk.val k;have e4:=hk.val j;have e5:=(hi.step hk hS).val j;have e6:mm l (k :: K)=MM l K k k:=rfl;rw [e6] at e5;have hm:MM l K k k≠0:=h.1;have hm0:=h.2.ne;refine KR (a:=c * d * MM l K k k) (OJ (OJ hi.nz hk.nz) hm) ?_;generalize MM l (k :: K) i j=z at *;generalize MM l K i j=a at *;generalize MM l K k k=b at *;generalize MM l K i k=p at *;generalize MM l K k j=q at *;generalize mm l K=m at *;generalize R j=r1 at *;generalize R k=r2 at *;generalize S k=s1 at *;generalize S j=s2 at *;have f1:c * d * (a * b - p * q)=m * m * (s1 * r1+-r2 * s2):=by grind
 have f2:c * d * b * (m * z)=m * m * (s1 * c * z):=by grind
 rw [f2,e5];have f3:c * d * b * (a * b - p * q)=b * (c * d * (a * b - p * q)):=by grind
 rw [f3,f1]
 grind
theorem vS(hl:∀ i j,l i j=l j i):∀{K:List κ},Good l K->∀ i j,MM l K i j=MM l K j i
 | [],_,i,j=>by
  show l i j * 1 - 0=l j i * 1 - 0;rw [hl i j]
 | k :: K,h,i,j=>by
  have e1:=j5 h i j;have e2:=j5 h j i;have s1:=vS hl h.2 i j;have s2:=vS hl h.2 i k;have s3:=vS hl h.2 j k;refine KR h.2.ne ?_;rw [<- e1,<- e2,s1,s2,s3]
  grind
end
def Alt(f:List κ->Int):Prop:=∀ p c d q,f (p++c :: d :: q)=- f (p++d :: c :: q)
theorem XT:Alt (one:List κ->Int):=λp c d q=>by
 cases p <;> rfl
theorem Alt.cons{f:List κ->Int}(h:Alt f)(c:κ):Alt λl=>f (c :: l):=λp a b q=>h (c :: p) a b q
theorem LW(r:κ->Int):∀(p:List κ) {f:List κ->Int},Alt f->∀ c d q,X r f (p++c :: d :: q)=- X r f (p++d :: c :: q)
 | [],f,h,c,d,q=>by
  have e:(λl=>f<|c :: d :: l)=λl=>(-1) * f (d :: c :: l):=by
   funext l
   have:=h [] c d l;show f (c :: d :: l)=-1 * f (d :: c :: l);have this:f (c :: d :: l)=- f (d :: c :: l):=this;omega
  show r c * f (d :: q) - (r d * f (c :: q) - X r (λl=>f<|c :: d :: l) q)=-(r d * f (c :: q) - (r c * f (d :: q) - X r (λl=>f<|d :: c :: l) q));rw [e,pD];omega
 | a :: p,f,h,c,d,q=>by
  have ih:=LW r p (h.cons a) c d q;have e:=h p c d q;show r a * f (p++c :: d :: q) - X r (λl=>f<|a :: l) (p++c :: d :: q)=-(r a * f (p++d :: c :: q) - X r (λl=>f<|a :: l) (p++d :: c :: q));rw [ih,e]
  grind
theorem LX:∀ rs:List<|κ->Int,Alt<|dt rs
 | []=>XT
 | r :: rs=>λp c d q=>LW r p (LX rs) c d q
theorem XU{C C':List κ}(h:C.Perm C'):∃ s:Int,s * s=1/\(∀(l:κ->κ->Int) cs,dt (C'.map l) cs=s * dt (C.map l) cs)/\∀ f:List κ->Int,Alt f->f C'=s * f C:=by
 induction h with
 | nil=>exact⟨1,rfl,λl cs=>(by grind),λf _=>(by grind)⟩
 | cons c _ ih=>
  obtain⟨s,hs,h1,h2⟩:=ih;refine⟨s,hs,λl cs=>?_,λf hf=>h2 _<|hf.cons c⟩;show X (l c) (dt<|List.map l _) cs=s * X (l c) (dt<|List.map l _) cs;rw [<- pD,show dt (List.map l _)=λcs=>s * dt (List.map l _) cs from funext (h1 l)]
 | swap a b q=>
  refine⟨-1,rfl,λl cs=>?_,λf hf=>?_⟩
  ·show X (l a) (X (l b) _) cs=-1 * X (l b) (X (l a) _) cs;rw [i0];omega
  ·have:=hf [] a b q;show f (a :: b :: q)=-1 * f (b :: a :: q);have this:f (a :: b :: q)=- f (b :: a :: q):=this;omega
 | trans _ _ XW B8=>
  obtain⟨s,hs,h1,h2⟩:=XW;obtain⟨t,ht,g1,g2⟩:=B8;refine⟨t * s,by grind,λl cs=>?_,λf hf=>?_⟩
  ·rw [g1,h1]
   grind
  ·rw [g2 f hf,h2 f hf]
   grind
theorem gB(l:κ->κ->Int){C C':List κ}(h:C.Perm C'):mm l C'=mm l C:=by
 obtain⟨s,hs,h1,h2⟩:=XU h;show dt (C'.map l) C'=dt (C.map l) C;rw [h1,h2 _<|LX _];have:s * (s * dt (C.map l) C)=s * s * dt (C.map l) C:=by grind
 rw [this,hs]
 grind
variable{κ:Type}
theorem B9{r r':κ->Int}{S:κ->Prop}(hr:∀ c,S c->r c=r' c):∀(cs:List κ) {f f':List κ->Int},(∀ l,(∀ c∈l,S c)->f l=f' l)->(∀ c∈cs,S c)->X r f cs=X r' f' cs
 | [],_,_,_,_=>rfl
 | c :: cs,f,f',hf,hs=>by
  have h1:=hs c<|Ad ..;have h2:∀ d∈cs,S d:=λd hd=>hs d<|Ae _ hd;show r c * f cs - X r (λl=>f<|c :: l) cs=r' c * f' cs - X r' (λl=>f'<|c :: l) cs;rw [hr c h1,hf cs h2,B9 hr cs (f:=λl=>f<|c :: l) (f':=λl=>f'<|c :: l) (λl hl=>hf _ λd hd=>?_) h2]
  rcases Ai.mp hd with e | hd
  ·rw [e];exact h1
  ·exact hl d hd
theorem LY{S:κ->Prop}{l l':κ->κ->Int}:∀(C:List κ),(∀ x∈C,∀ j,S j->l x j=l' x j)->∀ cs,(∀ c∈cs,S c)->dt (C.map l) cs=dt (C.map l') cs
 | [],_,_,_=>rfl
 | x :: C,h,cs,hs=>B9 (h x<|Ad ..) cs (λk hk=>LY C (λy hy=>h y<|Ae _ hy) k hk) hs
theorem B'{l l':κ->κ->Int}{C:List κ}(h:∀ x∈C,∀ j∈C,l x j=l' x j):mm l C=mm l' C:=LY (S:=λj=>j∈C) C h C λ_ hc=>hc
def Lp(W:List<|κ->Int)(x j:κ):Int:=(W.map λw=>w x * w j).sum
theorem pF(w:κ->Int)(W:List<|κ->Int)(x j:κ):Lp (w :: W) x j=w x * w j+Lp W x j:=rfl
theorem XX(W:List<|κ->Int)(x j:κ):Lp W x j=Lp W j x:=by
 unfold Lp
 congr 1
 exact Ay λw _=>Int.mul_comm ..
def D(C:List κ)(W:List<|κ->Int):Int:=mm (Lp W) C
theorem XY(a:κ)(C:List κ):D (a :: C) []=0:=pE (λ_ _=>rfl) _
theorem XZ{C:List κ}{w:κ->Int}{W:List (κ->Int)}(h:∀ x∈C,w x=0):D C (w :: W)=D C W:=B' λx hx j _=>by
 rw [pF,h x hx];omega
theorem LZ{C:List κ}{w:κ->Int}{W:List (κ->Int)}(h:∀ x∈C,w x=0):C.map (Lp<|w :: W)=C.map (Lp W):=Ay λx hx=>by
 funext j
 rw [pF,h x hx];omega
theorem L0{a:κ}{C:List κ}{w:κ->Int}{W:List (κ->Int)}(h:∀ x∈C,w x=0)(ha:w a * w a=1):D (a :: C) (w :: W)=D (a :: C) W+D C W:=by
 show X (Lp (w :: W) a) (dt<|C.map<|Lp<|w :: W) (a :: C)=X (Lp W a) (dt<|C.map<|Lp W) (a :: C)+dt (C.map<|Lp W) C;rw [LZ h,show Lp (w :: W) a=λj=>w a * w j+1 * Lp W a j by funext j;rw [pF];omega,jr];have e:X w (dt<|C.map<|Lp W) (a :: C)=w a * dt (C.map<|Lp W) C:=by
  show w a * dt (C.map<|Lp W) C - X w _ C=_;rw [pE h];omega
 rw [e]
 grind
def cm [DecidableEq κ] (a b:κ) (r:κ->Int) (j:κ):Int:=if j=a then r a+r b else r j
section
variable [DecidableEq κ] {a b:κ}
structure Cm(a b:κ)(f f':List κ->Int):Prop where
 no:∀ l,a∉l->f' l=f l
 on:∀ p q,a∉p->a∉q->f' (p++a :: q)=f (p++a :: q)+f (p++b :: q)
theorem Cm.cons{f f':List κ->Int}(h:Cm a b f f'){c:κ}(hc:c≠a):Cm a b (λl=>f<|c :: l) λl=>f' (c :: l):=
 ⟨λl hl => h.no _ λhm => by
  rcases Ai.mp hm with e | hm
  ·exact hc e.symm
  ·exact hl hm,λp q hp hq=>h.on (c :: p) q (λhm=>by
  rcases Ai.mp hm with e | hm
  ·exact hc e.symm
  ·exact hp hm) hq⟩
theorem L3(r:κ->Int){f f':List κ->Int}(h:∀ l,a∉l->f' l=f l)(l:List κ)(hl:a∉l):X (cm a b r) f' l=X r f l:=
 B9 (S:=λc=>c≠a) (λc hc=>BJ hc) l (λk hk=>h k λhm=>hk a hm rfl) λc hc e=>hl<|e ▸ hc
theorem L4(r:κ->Int):∀(p:List κ) {f f':List κ->Int},Cm a b f f'->∀ q,a∉p->a∉q->X (cm a b r) f' (p++a :: q)=X r f (p++a :: q)+X r f (p++b :: q)
 | [],f,f',h,q,_,hq=>by
  show cm a b r a * f' q - X (cm a b r) (λl=>f'<|a :: l) q=(r a * f q - X r (λl=>f<|a :: l) q)+(r b * f q - X r (λl=>f<|b :: l) q);rw [L3 r (f:=λl=>1 * f (a :: l)+1 * f (b :: l)) (λl hl=>by have:=h.on [] l Bk hl;show f' (a :: l)=_;have this:f' (a :: l)=f (a :: l)+f (b :: l):=this;rw [this];omega) q hq,pC,h.no q hq,show cm a b r a=r a+r b from BL rfl]
  grind
 | c :: p,f,f',h,q,hp,hq=>by
  have hc:c≠a:=λe=>hp<|e ▸ Ad ..;have k4:a∉p:=λhm=>hp<|Ae _ hm;show cm a b r c * f' (p++a :: q) - X (cm a b r) (λl=>f'<|c :: l) (p++a :: q)=(r c * f (p++a :: q) - X r (λl=>f<|c :: l) (p++a :: q))+(r c * f (p++b :: q) - X r (λl=>f<|c :: l) (p++b :: q));rw [L4 r p (h.cons hc) q k4 hq,h.on p q k4 hq,show cm a b r c=r c from BJ hc]
  grind
theorem CA:∀ rs:List<|κ->Int,Cm a b (dt rs)<|dt<|rs.map<|cm a b
 | []=>⟨λ_ _=>rfl,λp q _ _=>by cases p <;> rfl⟩
 | r :: rs=>⟨λl hl=>L3 r (CA rs).no l hl,λp q hp hq=>L4 r p (CA rs) q hp hq⟩
theorem X0{C:List κ}{w:κ->Int}{W:List (κ->Int)}(hC:∀ x∈C,w x=0)(ha:w a=1)(hb:w b=-1)(nab:a≠b)(na:a∉C):D (a :: b :: C) (w :: W)=D (a :: b :: C) W+D (a :: C) (W.map<|cm a b):=by
 have L':∀ x j,Lp (W.map<|cm a b) x j=cm a b (λj=>cm a b (λx=>Lp W x j) x) j:=λx j=>by
  unfold Lp cm;rw [Bi]
  induction W with
  | nil=>by_cases h1:j=a <;> by_cases h2:x=a <;> simp [h1,h2]
  | cons v W ih=>
   simp only [Au,Bm,Function.comp] at ih ⊢;rw [ih]
   by_cases h1:j=a <;> by_cases h2:x=a <;> simp only [h1,h2,CT,CV] <;> grind
 have e1:D (a :: C) (W.map<|cm a b)=dt (((λj=>1 * Lp W a j+1 * Lp W b j) :: C.map (Lp W)).map<|cm a b) (a :: C):=by
  show X (Lp (W.map<|cm a b) a) (dt<|C.map<|Lp<|W.map<|cm a b) (a :: C)=X (cm a b λj=>1 * Lp W a j+1 * Lp W b j) (dt<|(C.map<|Lp W).map<|cm a b) (a :: C);rw [Bi,show C.map (Lp<|W.map<|cm a b)=C.map (cm a b ∘ Lp W) from Ay λx hx=>by
   funext j
   rw [L'];have nx:x≠a:=λe=>na<|e ▸ hx;simp only [cm,Function.comp,nx,CV],show Lp (W.map<|cm a b) a=cm a b λj=>1 * Lp W a j+1 * Lp W b j by
   funext j
   rw [L'];simp only [cm,CT]
   by_cases h:j=a <;> simp only [h,CT,CV] <;> omega]
 have e2:=(CA (a:=a) (b:=b)<|(λj=>1 * Lp W a j+1 * Lp W b j) :: C.map (Lp W)).on [] C Bk na;rw [e1];have e2:dt (((λj=>1 * Lp W a j+1 * Lp W b j) :: C.map (Lp W)).map<|cm a b) (a :: C)=X (λj=>1 * Lp W a j+1 * Lp W b j) (dt<|C.map<|Lp W) (a :: C)+X (λj=>1 * Lp W a j+1 * Lp W b j) (dt<|C.map<|Lp W) (b :: C):=e2;rw [e2];show X (Lp (w :: W) a) (X (Lp (w :: W) b)<|dt<|C.map<|Lp<|w :: W) (a :: b :: C)=X (Lp W a) (X (Lp W b)<|dt<|C.map<|Lp W) (a :: b :: C)+_;rw [LZ hC,show Lp (w :: W) a=λj=>1 * w j+1 * Lp W a j by funext j;rw [pF,ha];omega,show Lp (w :: W) b=λj=>(-1) * w j+1 * Lp W b j by funext j;rw [pF,hb];omega];generalize dt (C.map<|Lp W)=ω;rw [show X (λj=>(-1) * w j+1 * Lp W b j) ω=λl=>(-1) * X w ω l+1 * X (Lp W b) ω l from funext λl=>jr ..,pC,jr,jr,vQ,i0 (Lp W a) w];have e3:∀ θ:List κ->Int,X w θ (a :: b :: C)=θ (b :: C)+θ (a :: C):=λθ=>by
  show w a * θ (b :: C) - (w b * θ (a :: C) - X w _ C)=_;rw [pE hC,ha,hb];omega
 rw [e3,e3,jr,jr];omega
end
def ed [DecidableEq κ] (e:κ×κ) (x:κ):Int:=(if x=e.1 then 1 else 0) - (if x=e.2 then 1 else 0)
section
variable [DecidableEq κ]
def De(C:List κ)(E:List<|κ×κ):Int:=D C<|E.map ed
def rl(b a:κ)(e:κ×κ):κ×κ:=(if e.1=b then a else e.1,if e.2=b then a else e.2)
theorem L5{l l':List Int}(h:l.Perm l'):l.sum=l'.sum:=by
 induction h with
 | nil=>rfl
 | cons a _ ih=>simp only [Bm,ih]
 | swap a b l=>simp only [Bm];omega
 | trans _ _ h1 h2=>rw [h1,h2]
theorem X1{W W':List (κ->Int)}(h:W.Perm W')(x j:κ):Lp W x j=Lp W' x j:=L5<|h.map _
theorem lr{C C':List κ}{E E':List (κ×κ)}(h:C.Perm C')(g:E.Perm E'):De C E=De C' E':=by
 show mm _ C=mm _ C';rw [gB _ h];exact B' λx _ j _=>X1 (g.map ed) x j
theorem L9(E:List<|κ×κ):De ([]:List κ) E=1:=rfl
theorem X2(a:κ)(C:List κ):De (a :: C) []=0:=XY a C
theorem Ma{e:κ×κ}{x:κ}(h1:x≠e.1)(h2:x≠e.2):ed e x=0:=by
 unfold ed;rw [BJ h1,BJ h2];rfl
theorem CB{a b x:κ}{C:List κ}(ha:a∉C)(hb:b∉C)(hx:x∈C):ed (a,b) x=0:=Ma (e:=(a,b)) (λz:x=a=>ha<|z ▸ hx) λz:x=b=>hb<|z ▸ hx
theorem X3{C:List κ}{e:κ×κ}{E:List (κ×κ)}(h:e.1=e.2\/(e.1∉C/\e.2∉C)):De C (e :: E)=De C E:=XZ λx hx=>by
 rcases h with h | ⟨h1,h2⟩
 ·unfold ed;rw [h];omega
 ·exact Ma (λz=>h1<|z ▸ hx) λz=>h2<|z ▸ hx
theorem Mb{a b:κ}{C:List κ}{E:List (κ×κ)}(ha:a∉C)(hb:b∉C)(cS:a≠b):De (a :: C) ((a,b) :: E)=De (a :: C) E+De C E/\De (a :: C) ((b,a) :: E)=De (a :: C) E+De C E:=by
 refine⟨L0 (λx hx=>CB ha hb hx) ?_,L0 (λx hx=>CB hb ha hx) ?_⟩
 ·unfold ed;rw [BL rfl,BJ cS];rfl
 ·unfold ed;rw [BJ cS,BL rfl];rfl
theorem Md{a b:κ}(cS:a≠b)(e:κ×κ){x:κ}(hx:x≠b):cm a b (ed e) x=ed (rl b a e) x:=by
 obtain⟨p,q⟩:=e;unfold cm ed rl
 by_cases h0:x=a
 ·subst h0;simp only [CT]
  by_cases h1:p=b <;> by_cases h2:q=b <;> simp only [h1,h2,cS,CG cS,CT,CV] <;> first | omega | skip
  ·by_cases h3:x=q
   ·simp [h3,h2,CG h2]
   ·simp [h3,h2,CG h2]
  ·by_cases h3:x=p
   ·simp [h3,h1,CG h1]
   ·simp [h3,h1,CG h1]
  ·simp [CG h1,CG h2]
 ·simp only [h0,CV]
  by_cases h1:p=b <;> by_cases h2:q=b <;> simp [h0,h1,h2,hx]
theorem X4{a b:κ}{C:List κ}{E:List (κ×κ)}(ha:a∉C)(hb:b∉C)(cS:a≠b):De (a :: b :: C) ((a,b) :: E)=De (a :: b :: C) E+De (a :: C) (E.map<|rl b a):=by
 have h:=X0 (W:=E.map ed) (C:=C) (w:=ed (a,b)) (a:=a) (b:=b) (λx hx=>CB ha hb hx) (by unfold ed;rw [BL rfl,BJ cS];rfl) (by unfold ed;rw [BJ<|CG cS,BL rfl];rfl) cS ha;have e:D (a :: C) ((E.map ed).map<|cm a b)=De (a :: C) (E.map<|rl b a):=B' λx hx j hj=>by
  have nb:∀ y∈a :: C,y≠b:=λy hy z=>by
   rcases Ai.mp hy with k | k
   ·exact cS<|k.symm.trans z
   ·exact hb<|z ▸ k
  unfold Lp;rw [Bi,Bi,Bi,Bi]
  congr 1
  refine Ay λe _=>?_;show cm a b (ed e) x * cm a b (ed e) j=ed (rl b a e) x * ed (rl b a e) j;rw [Md cS e<|nb x hx,Md cS e<|nb j hj]
 rw [e] at h;exact h
end
variable{κ:Type} [DecidableEq κ]
def mg(C:List κ)(p q:κ)(E:List<|κ×κ):Int:=if p=q\/(p∉C/\q∉C) then 0 else if q∉C then De (C.erase p) E else if p∉C then De (C.erase q) E else De (C.erase q) (E.map<|rl q p)
theorem CD{C:List κ}(hC:C.Nodup)(p q:κ)(E:List<|κ×κ):De C ((p,q) :: E)=De C E+mg C p q E:=by
 unfold mg
 by_cases h:p=q\/(p∉C/\q∉C)
 ·rw [BL h,X3 (e:=(p,q)) h];omega
 rw [BJ h];have n8:p≠q:=λz=>h<|.inl z
 by_cases hq:q∉C
 ·rw [BL hq];have hp:p∈C:=CN λz=>h<|.inr ⟨z,hq⟩;have pe:=Cy hp;rw [lr pe<|List.Perm.refl _,lr (E:=E) pe<|List.Perm.refl _];exact(Mb (λz=>((hC.mem_erase_iff).mp z).1 rfl) (λz=>hq<|Dz z) n8).1
 rw [BJ hq];have hq:q∈C:=CN hq;have pe:=Cy hq
 by_cases hp:p∉C
 ·rw [BL hp,lr pe<|List.Perm.refl _,lr (E:=E) pe<|List.Perm.refl _];exact(Mb (λz=>((hC.mem_erase_iff).mp z).1 rfl) (λz=>hp<|Dz z)<|CG n8).2
 rw [BJ hp];have hp:p∈C:=CN hp;have k4:p∈C.erase q:=(hC.mem_erase_iff).mpr ⟨n8,hp⟩;have Mf:=Cy k4;have Mg:C.Perm (p :: q :: (C.erase q).erase p):=pe.trans<|(Mf.cons q).trans<|List.Perm.swap ..;have nq:q∉(C.erase q).erase p:=λz=>((hC.mem_erase_iff).mp<|Dz z).1 rfl;have np:p∉(C.erase q).erase p:=λz=>(((hC.erase q).mem_erase_iff).mp z).1 rfl;rw [lr Mg<|List.Perm.refl _,lr (E:=E) Mg<|List.Perm.refl _,lr (E:=E.map<|rl q p) Mf<|List.Perm.refl _];exact X4 np nq n8
theorem pG:∀(E:List<|κ×κ) (C:List κ),C.Nodup->0<=De C E/\De C E<=2 ^ E.length
 | [],[],_=>by rw [L9];exact⟨by decide,by show(1:Int)<=1;decide⟩
 | [],a :: C,_=>by rw [X2];exact⟨by decide,by show(0:Int)<=1;decide⟩
 | (p,q) :: E,C,hC=>by
  have h1:=pG E C hC;have h2:0<=mg C p q E/\mg C p q E<=2 ^ E.length:=by
   unfold mg
   split
   ·exact⟨Int.le_refl _,RB h1.1 h1.2⟩
   split
   ·exact pG E _<|hC.erase p
   split
   ·exact pG E _<|hC.erase q
   ·have:=pG (E.map<|rl q p) _<|hC.erase q;rw [Aa] at this;exact this
  rw [CD hC,An,Int.pow_succ];omega
termination_by E=>E.length
decreasing_by all_goals simp [Aa]
inductive eG (C:List κ) (E:List<|κ×κ):κ->Prop
 | out {x:κ}:x∉C->eG C E x
 | on {x y:κ}:(x,y)∈E\/(y,x)∈E->eG C E y->eG C E x
theorem eG.cross{C:List κ}{E:List (κ×κ)}{x:κ}(h:eG C E x):x∈C->∃ p q,((p,q)∈E\/(q,p)∈E)/\p∈C/\q∉C:=by
 induction h with
 | out h=>exact λz=>absurd z h
 | @on x y e _ ih=>
  intro hx
  by_cases hy:y∈C
  ·exact ih hy
  ·exact⟨x,y,e,hx,hy⟩
theorem Mh:∀(n:Nat) (C:List κ),C.length=n->C.Nodup->∀ E:List<|κ×κ,(∀ x∈C,eG C E x)->0 < De C E
 | 0,C,hn,_,E,_=>by
  rw [Bh.mp hn,L9];decide
 | n+1,C,hn,hC,E,h=>by
  have bL:C≠[]:=λz=>by rw [z] at hn;cases hn
  obtain⟨x,hx⟩:=Do C bL;obtain⟨p,q,he,hp,hq⟩:=(h x hx).cross hx;have n8:p≠q:=λz=>hq<|z ▸ hp;have rest:∀(e:κ×κ),e∈E->(e=(p,q)\/e=(q,p))->0 < De (C.erase p) (E.erase e):=λe CF gW=>by
   refine Mh n (C.erase p) (by rw [Dh hp,hn];rfl) (hC.erase p) _ λy hy=>?_;have vT:=(hC.mem_erase_iff).mp hy;have go:∀{z:κ},eG C E z->eG (C.erase p) (E.erase e) z:=by
    intro z hz
    induction hz with
    | out h=>exact .out λk=>h<|Dz k
    | @on u v k _ ih=>
     by_cases hu:u∈C.erase p
     ·have CH:=(hC.mem_erase_iff).mp hu;have Mi:u≠q:=λz=>hq<|z ▸ CH.2;refine .on ?_ ih
      rcases k with k | k
      ·refine .inl<|(Du λz=>?_).mpr k
       rcases gW with r | r <;> rw [r] at z <;> cases z
       ·exact CH.1 rfl
       ·exact Mi rfl
      ·refine .inr<|(Du λz=>?_).mpr k
       rcases gW with r | r <;> rw [r] at z <;> cases z
       ·exact Mi rfl
       ·exact CH.1 rfl
     ·exact .out hu
   exact go<|h y vT.2
  have fin:∀ e,e∈E->(e=(p,q)\/e=(q,p))->0 < De C E:=λe CF gW=>by
   have r:=rest e CF gW;rw [lr (List.Perm.refl C)<|Cy CF];have b:=(pG (E.erase e) C hC).1
   rcases gW with rfl | rfl
   ·rw [CD hC];have:mg C p q (E.erase (p,q))=De (C.erase p) (E.erase (p,q)):=by
     unfold mg;rw [BJ (λz=>by rcases z with z | z;exact n8 z;exact z.1 hp),BL hq]
    omega
   ·rw [CD hC];have:mg C q p (E.erase (q,p))=De (C.erase p) (E.erase (q,p)):=by
     unfold mg;rw [BJ (λz=>by rcases z with z | z;exact n8 z.symm;exact z.2 hp),BJ λz=>z hp,BL hq]
    omega
  rcases he with he | he
  ·exact fin _ he<|.inl rfl
  ·exact fin _ he<|.inr rfl
section
variable{κ:Type}
structure sU(l:κ->κ->Int)(C:List κ):Prop where
 good:∀ p q,C=p++q->Good l p.reverse
 pos:∀ p q,C=p++q->0 < mm l p.reverse/\mm l p.reverse < 1073741824
 all:∀ p q,C=p++q->∀ i∈q,∀ j∈q,-(2 ^ 64) < MM l p.reverse i j/\MM l p.reverse i j < 2 ^ 64
theorem Mj{l:κ->κ->Int}:∀{K:List κ},(∀ a b,K=a++b->mm l b≠0)->Good l K
 | [],_=>trivial
 | k :: K,h=>⟨h [] _ rfl,Mj λa b e=>h (k :: a) b<|by rw [e];rfl⟩
end
variable{κ:Type} [DecidableEq κ]
theorem eG.less{C p:List κ}{E:List (κ×κ)}(hp:∀ x∈p,x∈C){x:κ}(h:eG C E x):eG p E x:=by
 induction h with
 | out h=>exact .out λz=>h<|hp _ z
 | on k _ ih=>exact .on k ih
theorem X5(n:Nat)(h:n<=29):(2:Int) ^ n < 1073741824:=by
 have:∀ n,n < 30->(2:Int) ^ n < 1073741824:=by decide
 exact this n<|by omega
theorem j6{C:List κ}{E:List (κ×κ)}(hC:C.Nodup)(hE:E.length<=29)(h:∀ x∈C,eG C E x):sU (Lp<|E.map ed) C:=by
 have nz:∀ K:List κ,K.Nodup->(∀ x∈K,x∈C)->0 < De K E:=λK hn hs=>Mh _ K rfl hn E λx hx=>(h x<|hs x hx).less hs;have bd:∀ K:List κ,K.Nodup->0<=De K E/\De K E < 1073741824:=λK hn=>by
  have b:=pG E K hn;exact⟨b.1,Int.lt_of_le_of_lt b.2<|X5 _ hE⟩
 have nd:∀ p q,C=p++q->p.reverse.Nodup/\∀ x∈p.reverse,x∈C:=λp q e=>by
  rw [e] at hC;exact⟨(List.reverse_perm p).nodup_iff.mpr (Bu.mp hC).1,λx hx=>by rw [e];exact Aw _<|List.mem_reverse.mp hx⟩
 have gd:∀ K:List κ,K.Nodup->(∀ x∈K,x∈C)->Good (Lp<|E.map ed) K:=λK hn hs=>Mj λa b e=>by
  rw [e] at hn hs;exact Int.ne_of_gt<|nz b (Bu.mp hn).2.1 λx hx=>hs x<|Ap _ hx
 refine⟨λp q e=>gd _ (nd p q e).1 (nd p q e).2,λp q e=>⟨nz _ (nd p q e).1 (nd p q e).2,(bd _ (nd p q e).1).2⟩,λp q e i hi j hj=>?_⟩;obtain⟨n1,n2⟩:=nd p q e;have j7:=hC;rw [e] at j7;have dis:=(Bu.mp j7).2.2;have ni:i∉p.reverse:=λz=>dis i (List.mem_reverse.mp z) i hi rfl;have nj:j∉p.reverse:=λz=>dis j (List.mem_reverse.mp z) j hj rfl;have ci:i∈C:=by rw [e];exact Ap _ hi
 have cj:j∈C:=by rw [e];exact Ap _ hj
 have bi:=bd (i :: p.reverse)<|Bd.mpr ⟨ni,n1⟩;have bj:=bd (j :: p.reverse)<|Bd.mpr ⟨nj,n1⟩
 by_cases c7:i=j
 ·subst c7;have:MM (Lp<|E.map ed) p.reverse i i=De (i :: p.reverse) E:=rfl;rw [this];omega
 have gi:Good (Lp<|E.map ed) (i :: p.reverse):=gd _ (Bd.mpr ⟨ni,n1⟩) λx hx=>by
  rcases Ai.mp hx with r | r
  ·rw [r];exact ci
  ·exact n2 x r
 have s:=j5 gi j j;have b2:=(bd (j :: i :: p.reverse) (Bd.mpr ⟨λz=>by
  rcases Ai.mp z with r | r
  ·exact c7 r.symm
  ·exact nj r,Bd.mpr ⟨ni,n1⟩⟩)).1
 have b3:=nz p.reverse n1 n2;have e1:MM (Lp<|E.map ed) p.reverse i i=De (i :: p.reverse) E:=rfl;have e2:MM (Lp<|E.map ed) p.reverse j j=De (j :: p.reverse) E:=rfl;have e3:MM (Lp<|E.map ed) (i :: p.reverse) j j=De (j :: i :: p.reverse) E:=rfl;have e4:mm (Lp<|E.map ed) p.reverse=De p.reverse E:=rfl;have sy:=vS (λa b=>XX _ a b) (gd _ n1 n2) j i;rw [e1,e2,e3,e4,sy] at s;generalize MM (Lp<|E.map ed) p.reverse i j=x at s ⊢;generalize De (i :: p.reverse) E=a at *;generalize De (j :: p.reverse) E=b at *;have pr:0<=De p.reverse E * De (j :: i :: p.reverse) E:=Int.mul_nonneg (by omega) b2;have ab:b * a<=1073741824 * 1073741824:=QK (by omega) (by omega) bi.1 (by decide);have xx:x * x<=1073741824 * 1073741824:=by omega
 constructor
 ·refine Int.not_le.mp λz=>?_;have:(2 ^ 64:Int) * 2 ^ 64<=(-x) * (-x):=QK (by omega) (by omega) (by decide) (by omega);have e:(-x) * (-x)=x * x:=by grind
  rw [e] at this;exact absurd (RB this xx)<|by decide
 ·refine Int.not_le.mp λz=>?_;have:(2 ^ 64:Int) * 2 ^ 64<=x * x:=QK z z (by decide) (by omega);exact absurd (RB this xx)<|by decide
def hl(a b x j:κ):Int:=if a=b then 0 else if x=a then(if j=a then 1 else 0) - (if j=b then 1 else 0) else 0
theorem n9(a b x j:κ):ed (a,b) x * ed (a,b) j=hl a b x j+hl b a x j:=by
 unfold ed hl
 by_cases h0:a=b
 ·subst h0;simp
 ·by_cases h1:x=a <;> by_cases h2:x=b <;> by_cases h3:j=a <;> by_cases h4:j=b <;> simp_all
theorem j8(F:Nat->Nat->Int)(a y j:Nat):(if y=a then(if j=a then F a a+1 else F a j) else F y j)=F y j+hl (a+1) 0 (y+1) (j+1):=by
 unfold hl
 by_cases h1:y=a
 ·subst h1
  by_cases h2:j=y
  ·subst h2;simp
  ·simp [h2]
 ·simp [h1]
theorem j9(F:Nat->Nat->Int){a c:Nat}(h:c≠a)(y j:Nat):(if y=a then(if j=c then F a c - 1 else if j=a then F a a+1 else F a j) else F y j)=F y j+hl (a+1) (c+1) (y+1) (j+1):=by
 unfold hl
 by_cases h1:y=a
 ·subst h1
  by_cases h2:j=c
  ·subst h2;simp [h,CG h];omega
  ·by_cases h3:j=y
   ·subst h3;simp [h2]
   ·simp [h2,h3,CG h]
 ·simp [h1]
end Dt
namespace Y3
open PySem L2 Nt bJ
structure TabAt(H:Hp)(tb:Addr)(ts:List Addr)(M:List<|List Int):Prop where
 len:ts.length=M.length
 lst:H tb=some (.lst<|ts.map V.ref)
 row:∀(i:Nat) a r,ts[i]?=some a->M[i]?=some r->H a=some (.lst<|r.map V.int)
 inj:ts.Nodup
theorem TabAt.same{H H':Hp}{tb:Addr}{ts:List Addr}{M:List (List Int)}(h:TabAt H tb ts M)(s:ak H H'):TabAt H' tb ts M:=⟨h.len,s _ _ h.lst,λi a r h1 h2=>s _ _<|h.row i a r h1 h2,h.inj⟩
theorem CI{ts:List Addr}{i:Nat}{a:Addr}(h:ts[i]?=some a):dw (ts.map V.ref) (i:Int)=some (.ref a):=km<|by rw [Ag,h];rfl
theorem pH{r:List Int}{i:Nat}{v:Int}(h:r[i]?=some v):dw (r.map V.int) (i:Int)=some (.int v):=km<|by rw [Ag,h];rfl
theorem X6(ts:List Addr)(i:Nat):b9 (ts.map V.ref) (some (i:Int)) none=(ts.drop i).map V.ref:=by
 unfold b9;rw [HT.dW,HT.df,Aa];rw [Dx (by rw [Cp,Aa];omega),QS]
 rcases QW i ts.length with h | h
 ·rw [NQ h]
 ·rw [LC h,Ep (by simp),Ep<|by simpa using h]
section
variable{X:Cx}{elt tg:Expr}{ifs:List Expr}{scope:Scope}{σ:St}{H:Hp}{N':List Str}{A:Addr}{after:Hp->Prop}
end
theorem X7(l:Nat->Nat->Int)(i j:Nat):Dt.MM l [] i j=l i j:=by
 show l i j * 1 - 0=l i j;omega
def CL:Sp:=λvs H Q _=>∃(tb:Addr) (ts:List Addr) (l:Nat->Nat->Int) (C:List Nat),vs=[.ref tb]/\TabAt H tb ts (C.map λi=>C.map<|l i)/\Dt.sU l C/\C.length<=60/\∀ H',ak H H'->Q (.int<|Dt.mm l C.reverse) H'
section
variable{P:Program}{w:World}{K:PySem.W.Frag}{mg:Str->Option Value}{base:Heap}
abbrev Mk:List Str:=["table","last","corner"]
abbrev oe:List Str:=["table","last","corner","line"]
abbrev sV:List Str:=["table","last","corner","line","place"]
theorem sW:ao Mk ["table"] (bm mY):=⟨rfl,rfl,rfl,by decide +kernel,rfl,by decide +kernel,by decide +kernel⟩
theorem X8:oe.Nodup:=by decide +kernel
theorem X9:sV.Nodup:=by decide +kernel
def Ya:Scope:=match g8 mY with
 | [_,.While _ [_,.Assign _ (.ListComp _ _ sc _) _,_] _ _,_]=>sc
 | _=>bm mY
def Yb:Scope:=relabel Ya<|PyProof.Rows.envOfC "determinant" (bm mY) 0 0 .none
theorem Yc{f:Addr}{fd:FuncData}(F:bM K "determinant" "determinant" mY f fd)(T:Txt mg):aI P w K mg base bH 1 f fd ["table"] CL:=by
 refine F.gb sW (λvs H Q E h=>?_) λb0 H vs Q E hr h=>?_
 ·obtain⟨tb,ts,l,C,rfl,_⟩:=h;rfl
 obtain⟨tb,ts,l,C,rfl,hT,hF,hC,q⟩:=h;have nd:=sW.nd;show Run _ _ _ [some<|.ref tb,none,none] H;refine aQ 1 nd<|aA ?_;show Run _ _ _ [some<|.ref tb,some<|.int 1,none] H;refine oS (λm σ H'=>∃(p qq:List Nat) (tb:Addr) (ts:List Addr) (u:Option V),C=p++qq/\m=qq.length/\ak H H'/\TabAt H' tb ts (qq.map λi=>qq.map<|Dt.MM l p.reverse i)/\σ=[some<|.ref tb,some<|.int<|Dt.mm l p.reverse,u]) (m0:=C.length) ⟨[],C,tb,ts,_,rfl,rfl,ak.refl _,?_,rfl⟩ ?_
 ·rw [show(C.map λi=>C.map<|Dt.MM l ([]:List Nat).reverse i)=C.map λi=>C.map (l i) from Ay λi _=>Ay λj _=>X7 l i j];exact hT
 rintro m σ H1 ⟨p,qq,tb,ts,u,j7,hm,s1,pI,rfl⟩;have vU:=pI.len;rw [Aa] at vU;refine RJ (ae 0 (v:= .ref tb) ⟨!ts.isEmpty,Or.inl ⟨ts.map V.ref,au.of pI.lst,by cases ts <;> rfl⟩,?_⟩);cases qq with
 | nil=>
  have e:ts=[]:=Bh.mp vU;rw [e];rw [Be] at j7;refine b4<|cf<|ae 1 ?_;have:=q H1 s1;rw [j7] at this;exact this
 | cons k q'=>
 cases ts with
 | nil=>cases vU
 | cons a0 c8=>
 refine bP ?_;have CM:c8.length=q'.length:=Nat.succ.inj vU;have lC:q'.length<=59:=by
  have:=BZ List.length j7;rw [Af,An] at this;omega
 have e0:=pI.row 0 a0 _ rfl rfl;obtain⟨mp,ml⟩:=hF.pos p _ j7;have Ml:C=(p++[k])++q':=by rw [j7,Ao];rfl
 have gd:=hF.good (p++[k]) q' Ml;rw [Gc] at gd;have gd:Dt.Good l (k :: p.reverse):=gd;have sv:=λi j=>Dt.j5 gd i j;have bd:=hF.all p _ j7;generalize Mm:p.reverse=KK at *;have mk:k∈k :: q':=Ad ..;show Run _ _ _ [some<|.ref tb,some<|.int<|Dt.mm l KK,u] H1;refine aQ 2 nd<|a8 cC<|a8 cC<|ae 0<|aA ⟨tb,_,_,.ref a0,rfl,rfl,au.of pI.lst,CI (i:=0) rfl,aA ⟨a0,_,_,.int<|Dt.MM l KK k k,rfl,rfl,au.of e0,pH (i:=0) rfl,?_⟩⟩;show Run _ _ _ [some<|.ref tb,some<|.int<|Dt.mm l KK,some<|.int<|Dt.MM l KK k k] H1;refine aQ 0 nd<|oQ (bm mY) Mk oe 1 (lR bw)<|ub tZ<|ae 0<|ud<|aA ⟨1,rfl,uc ⟨tb,_,rfl,au.of pI.lst,λp1 nG=>?_⟩⟩;rw [show b9 ((a0 :: c8).map V.ref) (some 1) none=c8.map V.ref from X6 (a0 :: c8) 1];have sp:=a9 nG<|.lst<|c8.map V.ref;have ep:(upd H1 p1<|.lst<|c8.map V.ref) p1=some (.lst<|c8.map V.ref):=aC;have s2:=s1.trans sp;have vV:=pI.same sp;generalize upd H1 p1 (.lst<|c8.map V.ref)=H2 at s2 ep vV ⊢;have Yd:=vV.row 0 a0 _ rfl rfl;refine⟨p1,rfl,⟨_,au.of ep⟩,λA hA=>?_⟩;refine yv (xs:=c8.map V.ref) (λi σ' H'=>(∃ v,σ'=[some<|.ref tb,some<|.int<|Dt.mm l KK,some<|.int<|Dt.MM l KK k k]++[v])/\∃ us:List Addr,us.length=i/\H' A=some (.lst<|us.map V.ref)/\(∀(j:Nat) a c,us[j]?=some a->q'[j]?=some c->H' a=some (.lst<|(q'.map<|Dt.MM l (k :: KK) c).map V.int))/\us.Nodup/\A∉us/\ak H2 H') ⟨⟨none,rfl⟩,[],rfl,aC,λj a c h=>by simp at h,Cf,Bk,a9 hA _⟩ ?_ ?_ ?_
 ·rintro i σ' H' _ ⟨_,us,_,_,_,_,_,sm⟩;exact au.of<|sm _ _ ep
 ·rintro i x σ' H' hx ⟨⟨v,rfl⟩,us,hl,eA,fe,gQ,CO,sm⟩;rw [Ag,Bg] at hx;obtain⟨a,ha,rfl⟩:=hx;have hi:i < q'.length:=by
   have:=(Ac.mp ha).1;omega
  obtain⟨c,hc⟩:∃ c,q'[i]?=some c:=⟨_,Ab hi⟩;have mc:c∈k :: q':=Ae _<|At hc;have ea:=(vV.same sm).row (i+1) a _ (by rw [Ch];exact ha) (by rw [Ag,Ch,hc];rfl);have Ye:=sm _ _ Yd;have Mp:=sm _ _ vV.lst;intro cl C' s₀ H₀ ex;refine bz 3 X8 ?_;intro cl C' s₀ H₀ ex;refine fY<|bP ?_;intro cl C' s₀ H₀ ex;refine oQ Yb oe sV 1 (Py rfl T.range (ta:=oJ _ _) fH (jG _ [_] _ rfl) (jG _ [] _ rfl)) ?_;show Ea _ _ _ _ _;refine ai<|aA<|ai<|cI dC T.len CW<|ai<|ae 0<|aD ⟨tb,_,rfl,.inl<|au.of Mp,aD ⟨_,_,rfl,⟨by decide,by decide,?_,?_⟩,λD hD=>?_⟩⟩
  ·rw [Aa];omega
  ·rw [Aa,An];omega
  rw [Aa,An,CM,show(((q'.length+1:Nat):Int) - 1).toNat=q'.length by omega];refine Kz (λt σ' bC=>(∃ v,σ'=[some<|.ref tb,some<|.int<|Dt.mm l KK,some<|.int<|Dt.MM l KK k k,some<|.ref a]++[v])/\ak H' bC/\bC D=some (.lst<|((q'.take t).map<|Dt.MM l (k :: KK) c).map V.int)) ⟨⟨none,rfl⟩,a9 hD _,aC⟩ ?_ ?_
  ·rintro t σ' bC ht ⟨⟨v,rfl⟩,sn,eD⟩;obtain⟨j,hj⟩:∃ j,q'[t]?=some j:=⟨_,Ab ht⟩;have mj:j∈k :: q':=Ae _<|At hj;have et:(1:Int)+(t:Int)=((t+1:Nat):Int):=by omega
   rw [et];intro cl C' s₀ H₀ ex;refine bz 4 X9 ?_;intro cl C' s₀ H₀ ex;refine fY<|bP ?_;intro cl C' s₀ H₀ ex;refine aS fV (aS F9<|aS lU<|a8 cC<|ae 3<|ae 4 ⟨a,_,_,.int<|Dt.MM l KK c j,rfl,rfl,au.of<|sn _ _ ea,pH (i:=t+1) (by rw [Ag,Ch,hj];rfl),ae 2 ⟨_,_,rfl,rfl,.inl<|bd c mc j mj,?_⟩⟩);refine aS lU<|a8 cC<|ae 3<|aA ⟨a,_,_,.int<|Dt.MM l KK c k,rfl,rfl,au.of<|sn _ _ ea,pH (i:=0) rfl,?_⟩;refine a8 cC (a8 cC<|ae 0<|aA ⟨tb,_,_,.ref a0,rfl,rfl,au.of<|sn _ _ Mp,CI (i:=0) rfl,ae 4 ⟨a0,_,_,.int<|Dt.MM l KK k j,rfl,rfl,au.of<|sn _ _ Ye,pH (i:=t+1) (by rw [Ag,Ch,hj];rfl),?_⟩⟩);refine⟨_,_,rfl,rfl,.inl<|bd c mc k mk,_,_,rfl,rfl,ae 1 ⟨_,_,rfl,rfl,⟨mp,ml⟩,?_⟩⟩;have ev:=BZ V.int<|(BZ (λz=>z / Dt.mm l KK)<|sv c j).trans<|Int.mul_ediv_cancel_left _<|Int.ne_of_gt mp;refine⟨_,eD,?_,⟨_,rfl⟩,dJ sn hD,?_⟩
   ·rw [Aa,Aa,Bj];exact cn<|by omega
   ·rw [aC,Cu,hj,Ah,Ah];exact BZ (λz=>some<|HO.lst<|(((q'.take t).map<|Dt.MM l (k :: KK) c).map V.int)++[z]) ev
  ·rintro σ' bC ⟨_,sn,eD⟩;rw [Bw] at eD;have Mq:D≠A:=λe=>by rw [e,eA] at hD;cases hD
   have Yf:D∉us:=λhm=>by
    obtain⟨j,hj⟩:=Ba hm;have jl:=(Ac.mp hj).1;have:=fe j D _ hj (Ab<|by omega);rw [hD] at this;cases this
   refine⟨_,sn _ _ eA,?_,⟨_,rfl⟩,us++[D],by rw [Af,hl];rfl,by rw [aC,Ah];rfl,λj b d hb hd=>?_,ku gQ Yf,λhm=>?_,dJ (sm.trans sn) hA⟩
   ·rw [Aa];exact cn<|by omega
   ·by_cases hj:j < us.length
    ·rw [Av hj] at hb;rw [aw λe:b=A=>CO<|e ▸ At hb];exact sn _ _<|fe j b d hb hd
    ·rw [Az<|by omega] at hb;have fN:j - us.length=0:=by
      have:=(Ac.mp hb).1;simp at this;omega
     have jU:j=i:=by omega
     rw [fN] at hb;cases hb;rw [jU,hc] at hd;cases hd;rw [aw Mq];exact eD
   ·rcases Aq.mp hm with h | h
    ·exact CO h
    ·exact Mq (Am.mp h).symm
 ·rintro σ' H3 ⟨_,us,hl,eA,fe,gQ,CO,sm⟩;rw [Aa] at hl;show Run _ _ _ [some<|.ref A,some<|.int<|Dt.mm l KK,some<|.int<|Dt.MM l KK k k] H3;refine aQ 1 nd<|ae 2<|bg ⟨q'.length,by rw [hm];exact Nat.lt_succ_self _,p++[k],q',A,us,some<|.int<|Dt.MM l KK k k,Ml,rfl,s2.trans sm,⟨by rw [Aa];omega,eA,λi a r h1 h2=>?_,gQ⟩,?_⟩
  ·rw [Ag,Bg] at h2;obtain⟨c,hc,rfl⟩:=h2;have:=fe i a c h1 hc;rw [Gc,Mm];exact this
  ·rw [Gc,Mm];rfl
end
end Y3
namespace Nt
open PySem L2
theorem vW{α:Type}:∀{l:List α},l.Nodup->∀{i j:Nat} {x:α},l[i]?=some x->l[j]?=some x->i=j
 | [],_,i,j,x,h,_=>by simp at h
 | a :: l,hn,i,j,x,h1,h2=>by
  obtain⟨na,hl⟩:=Bd.mp hn;cases i with
  | zero=>
   cases j with
   | zero=>rfl
   | succ j=>
    cases h1;rw [Ch] at h2;exact absurd (At h2) na
  | succ i=>
   cases j with
   | zero=>
    cases h2;rw [Ch] at h1;exact absurd (At h1) na
   | succ j=>
    rw [Ch] at h1 h2;rw [vW hl h1 h2]
def rn(n:Net)(p:Str):Nat:=(n.map (·.1)).idxOf p
def cv(n:Net)(ls:List Lk):List (Nat×Nat):=ls.map λx=>(rn n x.2.1,rn n x.2.2)
theorem CU{n:Net}{p:Str}(h:p∈n.map (·.1)):rn n p < n.length/\(n.map (·.1))[rn n p]?=some p:=by
 have hl:rn n p < (n.map (·.1)).length:=List.idxOf_lt_length_iff.mpr h;refine⟨by rw [Aa] at hl;exact hl,?_⟩;rw [Ab hl]
 congr 1
 exact List.getElem_idxOf hl
theorem ka{n:Net}(hN:(n.map (·.1)).Nodup){r:Nat}(h:r < n.length):rn n (aM n r)=r:=by
 have e:(n.map (·.1))[r]?=some (aM n r):=by rw [Ag,Ab h,fC h];rfl
 exact vW hN (CU<|At e).2 e
theorem lu{n:Net}{z:Str}{e:End}(h:e∈pos n z):e.1 < n.length/\z∈row n e.1:=by
 have h:=aF.mp h;unfold aJ at h;have hz:=At h;refine⟨?_,hz⟩
 by_cases hl:e.1 < n.length
 ·exact hl
 ·unfold row at hz;rw [Bc<|by omega] at hz;cases hz
theorem Yg{n:Net}(T:aq n)(hN:(n.map (·.1)).Nodup){x:Lk}(h:jm n x):(rn n x.2.1 < n.length/\(n.map (·.1))[rn n x.2.1]?=some x.2.1)/\(rn n x.2.2 < n.length/\(n.map (·.1))[rn n x.2.2]?=some x.2.2):=by
 obtain⟨a,b,hp,h1,h2⟩:=h;have la:=(lu (n:=n) (z:=x.1) (e:=a)<|by rw [hp];simp).1;have lb:=(lu (n:=n) (z:=x.1) (e:=b)<|by rw [hp];simp).1;have ma:aM n a.1∈n.map (·.1):=by rw [fC la];exact Aj.mpr ⟨_,Bn la,rfl⟩
 have mb:aM n b.1∈n.map (·.1):=by rw [fC lb];exact Aj.mpr ⟨_,Bn lb,rfl⟩
 rw [h1,h2];exact⟨CU ma,CU mb⟩
theorem Mr{n:Net}{x:Lk}(h:jm n x):x.1∈ag n:=by
 obtain⟨a,b,hp,_⟩:=h;have:=jK n x.1;rw [hp] at this;exact Cq.mp<|by rw [<- this];exact LK _
theorem Yh{n:Net}(T:aq n){ls:List Lk}(so:ls.Pairwise λx y=>x.1.cps.toList < y.1.cps.toList)(mem:∀ x,x∈ls↔jm n x):2 * ls.length<=(ag n).length:=by
 have hn:(ls.map (·.1)).Nodup:=FT (λx:Lk=>x.1) (R:=λx y:Lk=>x.1.cps.toList < y.1.cps.toList) (λx y h e=>by
  rw [e] at h;exact Fh _ h) so
 have:=VF T hn λz hz=>by
  obtain⟨x,hx,rfl⟩:=Aj.mp hz;exact Mr<|(mem x).mp hx
 rw [Aa] at this;omega
theorem CY(m:Nat):((List.range m).map (·+1)).Nodup:=by
 refine FT _ (R:=λa b=>a≠b) (λa b h e=>h<|by omega) List.nodup_range
theorem aV{m x:Nat}:x∈(List.range m).map (·+1)↔1<=x/\x<=m:=by
 rw [Aj]
 constructor
 ·rintro ⟨a,ha,rfl⟩;have:=Ca.mp ha;omega
 ·rintro ⟨h1,h2⟩;exact⟨x - 1,Ca.mpr (by omega),by omega⟩
theorem Yi{n:Net}(T:aq n){ls:List Lk}(mem:∀ x,x∈ls↔jm n x)(hN:(n.map (·.1)).Nodup){r s:Nat}{t:Str}(hr:t∈row n r)(hs:t∈row n s)(fD:r < n.length)(B1:s < n.length):r=s\/(r,s)∈cv n ls\/(s,r)∈cv n ls:=by
 obtain⟨i,hi⟩:=Ba hr;obtain⟨j,hj⟩:=Ba hs;have ti:aJ n (r,i)=some t:=hi;have tj:aJ n (s,j)=some t:=hj;obtain⟨a,b,hp,cS,he⟩:=mJ T ti;have vX:(s,j)∈pos n t:=aF.mpr tj;rw [hp] at vX;have lk:(t,aM n a.1,aM n b.1)∈ls:=(mem _).mpr ⟨a,b,hp,rfl,rfl⟩;have la:=(lu (n:=n) (z:=t) (e:=a)<|by rw [hp];simp).1;have lb:=(lu (n:=n) (z:=t) (e:=b)<|by rw [hp];simp).1;have ml:(a.1,b.1)∈cv n ls:=Aj.mpr ⟨_,lk,by show(rn n<|aM n a.1,rn n<|aM n b.1)=_;rw [ka hN la,ka hN lb]⟩;have vX:(s,j)=a\/(s,j)=b:=by simpa using vX
 rcases he with e1 | e1 <;> rcases vX with e2 | e2
 ·left
  have:=e1.trans e2.symm;exact BZ Prod.fst this
 ·right;left
  rw [<- e1,<- e2] at ml;exact ml
 ·right;right
  rw [<- e1,<- e2] at ml;exact ml
 ·left
  have:=e1.trans e2.symm;exact BZ Prod.fst this
theorem Yj{n:Net}(T:aq n)(hN:(n.map (·.1)).Nodup)(hg:cV n)(h0:n≠[]){ls:List Lk}(mem:∀ x,x∈ls↔jm n x):∀ x∈(List.range<|n.length - 1).map (·+1),Dt.eG ((List.range<|n.length - 1).map (·+1)) (cv n ls) x:=by
 have kc:0 < n.length:=Co.mpr h0;have key:=hg (λp=>Dt.eG ((List.range<|n.length - 1).map (·+1)) (cv n ls)<|rn n p) ⟨n[0],Bn kc,by
  have:rn n n[0].1=0:=by
   have:=ka hN kc;rw [fC kc] at this;exact this
  show Dt.eG _ _ (rn n n[0].1);rw [this];exact .out λz=>by have:=(aV.mp z).1;omega⟩ (λr hr s hs t h1 h2 e=>by
   obtain⟨i,hi,rfl⟩:=Ce.mp hr;obtain⟨j,hj,rfl⟩:=Ce.mp hs;have ei:=ka hN hi;have ej:=ka hN hj;rw [fC hi] at ei;rw [fC hj] at ej;show Dt.eG _ _ (rn n n[j].1);have e:Dt.eG _ _ (rn n n[i].1):=e;rw [ei] at e;rw [ej];have ri:row n i=n[i].2:=by unfold row;rw [Ab hi];rfl
   have rj:row n j=n[j].2:=by unfold row;rw [Ab hj];rfl
   rcases Yi T mem hN (r:=i) (s:=j) (t:=t) (by rw [ri];exact h1) (by rw [rj];exact h2) hi hj with k | k | k
   ·rw [<- k];exact e
   ·exact .on (.inr k) e
   ·exact .on (.inl k) e)
 intro x hx;have hxl:=aV.mp hx;have bn:x < n.length:=by omega
 have:=key n[x]<|Bn bn;have ex:=ka hN bn;rw [fC bn] at ex;have this:Dt.eG _ _ (rn n n[x].1):=this;rw [ex] at this;exact this
end Nt
namespace Y3
open PySem L2 Nt bJ
theorem Mt{n j:Nat}(h:j < n):iq n (j:Int)=some j:=by
 unfold iq;rw [BL (by omega),BL<|by omega];rfl
def vY(ts:List Addr)(H H':Hp):Prop:=∀ b o,b∉ts->H b=some o->H' b=some o
theorem TabAt.Yk{H:Hp}{tb:Addr}{ts:List Addr}{M:List (List Int)}(h:TabAt H tb ts M):tb∉ts:=λhm=>by
 obtain⟨i,hi⟩:=Ba hm;have il:=(Ac.mp hi).1;have ll:=h.len;have e:=h.row i tb _ hi (Ab<|by omega);rw [h.lst] at e;have e:=HO.lst.inj<|Option.some.inj e;cases ts with
 | nil=>cases hm
 | cons a ts=>
  rw [Au] at e;generalize M[i]'(by omega)=r at e;cases r with
  | nil=>cases e
  | cons v r=>cases (List.cons.inj e).1
theorem TabAt.put{H:Hp}{tb a:Addr}{ts:List Addr}{M:List (List Int)}(h:TabAt H tb ts M){i:Nat}(hi:ts[i]?=some a)(r:List Int):TabAt (upd H a<|.lst<|r.map V.int) tb ts (M.set i r):=by
 have ma:=At hi;have il:=(Ac.mp hi).1;have ll:=h.len;refine⟨by rw [List.length_set];exact h.len,by rw [aw λe:tb=a=>h.Yk<|e ▸ ma];exact h.lst,λk b s h1 h2=>?_,h.inj⟩
 by_cases e:k=i
 ·subst e;rw [hi] at h1;cases h1;rw [Dw<|by omega] at h2;cases h2;exact aC
 ·rw [Ed<|CG e] at h2;have nb:b≠a:=λz=>e<|by
   subst z;exact vW h.inj h1 hi
  rw [aw nb];exact h.row k b s h1 h2
def tab(m:Nat)(F:Nat->Nat->Int):List (List Int):=(List.range m).map λi=>(List.range m).map<|F i
theorem pJ{m:Nat}{F:Nat->Nat->Int}{i:Nat}(h:i < m):(tab m F)[i]?=some ((List.range m).map<|F i):=by
 unfold tab;rw [Ag,Cc h];rfl
theorem vZ{m:Nat}{g:Nat->Int}{i:Nat}(h:i < m):((List.range m).map g)[i]?=some (g i):=by
 rw [Ag,Cc h];rfl
theorem Mu{m:Nat}{F G:Nat->Nat->Int}{i:Nat}(h:i < m)(hg:∀ k,k≠i->∀ j,G k j=F k j):(tab m F).set i ((List.range m).map<|G i)=tab m G:=by
 refine Cv λk=>?_
 by_cases e:k=i
 ·subst e;rw [Dw (by unfold tab;rw [Aa,Ci];exact h),pJ h]
 ·rw [Ed<|CG e];unfold tab;rw [Ag,Ag];cases hk:(List.range m)[k]? with
  | none=>rfl
  | some x=>
   have:x=k:=by
    have hl:=(Ac.mp hk).1;rw [Ci] at hl;rw [Cc hl] at hk;exact(Option.some.inj hk).symm
   subst this;show some _=some _
   congr 1
   exact Ay λj _=>(hg x e j).symm
theorem C0{m:Nat}{g:Nat->Int}{i:Nat}{v:Int}(h:i < m):((List.range m).map g).set i v=(List.range m).map λj=>if j=i then v else g j:=by
 refine Cv λk=>?_
 by_cases e:k=i
 ·subst e;rw [Dw (by rw [Aa,Ci];exact h),vZ h,BL rfl]
 ·rw [Ed<|CG e,Ag,Ag];cases hk:(List.range m)[k]? with
  | none=>rfl
  | some x=>
   have:x=k:=by
    have hl:=(Ac.mp hk).1;rw [Ci] at hl;rw [Cc hl] at hk;exact(Option.some.inj hk).symm
   subst this;show some (g x)=some (if x=i then v else g x);rw [BJ e]
def C1:Sp:=λvs H Q _=>∃(R:Addr) (as:List<|Addr×Addr) (n:Net),vs=[.ref R]/\aj H R as n/\n.length<=1000/\∀ L H',ak H H'->H L=none->H' L=some (Ls (n.map (·.1)))->Q (.ref L) H'
def C2:Sp:=λvs H Q _=>∃(R:Addr) (as:List<|Addr×Addr) (n:Net),vs=[.ref R]/\aj H R as n/\aq n/\(n.map (·.1)).Nodup/\n≠[]/\n.length<=60/\(ag n).length<=60 /\
 ∀(tb:Addr) (ts:List Addr) (ls:List Lk) (H':Hp),ak H H'->TabAt H' tb ts (tab (n.length - 1) λi j=>Dt.Lp ((cv n ls).map Dt.ed) (i+1)<|j+1)->sR ls->(∀ x,x∈ls↔jm n x)->Q (.ref tb) H'
def C3:Sp:=λvs H Q _=>∃(R:Addr) (as:List<|Addr×Addr) (n:Net),vs=[.ref R]/\aj H R as n/\aq n/\(n.map (·.1)).Nodup/\n≠[]/\n.length<=60/\(ag n).length<=58/\cV n /\
 ∀(ls:List Lk) (H':Hp),ak H H'->sR ls->(∀ x,x∈ls↔jm n x)->Q (.int (Dt.De ((List.range<|n.length - 1).map (·+1))<|cv n ls)) H'
section
variable{P:Program}{w:World}{K:PySem.W.Frag}{mg:Str->Option Value}{base:Heap}
abbrev Mv:List Str:=["rows"]
abbrev sX:List Str:=["rows","point","ties"]
theorem C4:ao Mv ["rows"] (bm uR):=⟨rfl,rfl,rfl,by decide +kernel,rfl,by decide +kernel,by decide +kernel⟩
theorem Mw:sX.Nodup:=by decide +kernel
theorem Yl{f:Addr}{fd:FuncData}(F:bM K "points_of" "points_of" uR f fd)(T:Txt mg):aI P w K mg base bH 1 f fd ["rows"] C1:=by
 refine F.gb C4 (λvs H Q E h=>?_) λb0 H vs Q E hr h=>?_
 ·obtain⟨R,as,n,rfl,_⟩:=h;rfl
 obtain⟨R,as,n,rfl,hR,hn,q⟩:=h;have bV:=hR.len;show Run _ _ _ [some<|.ref R] H;refine cf<|oQ (bm uR) Mv sX 2 (lR bw)<|ae 0 ⟨R,rfl,⟨_,au.of hR.lst⟩,λD hD=>?_⟩;refine yv (xs:=as.map λa=>V.ref a.1) (λi σ' H'=>(∃ v1 v2,σ'=[some<|.ref R]++[v1,v2])/\H' D=some (Ls ((n.take i).map (·.1)))/\ak H H') ⟨⟨none,none,rfl⟩,aC,a9 hD _⟩ ?_ ?_ ?_
 ·rintro i σ' H' _ ⟨_,_,sm⟩;exact au.of<|sm _ _ hR.lst
 ·rintro i x σ' H' hx ⟨⟨v1,v2,rfl⟩,eD,sm⟩;have hi:i < n.length:=by
   have:=(Ac.mp hx).1;rw [Aa] at this;omega
  obtain⟨b,eb,dL,et,el,er⟩:=(hR.same sm).at hi;rw [Ag,eb] at hx;cases hx;intro cl C' s₀ H₀ ex;refine iE rfl (aP.of et) (bz 1 Mw<|bz 2 Mw ?_);intro cl C' s₀ H₀ ex;refine fY<|bP ?_;intro cl C' s₀ H₀ ex;refine ae 1 ⟨_,eD,?_,⟨_,_,rfl⟩,?_,dJ sm hD⟩
  ·rw [Aa,Aa,Bj];exact cn<|by omega
  ·rw [aC,Cu,Ab hi,Ah];show _=some (HO.lst<|List.map V.str<|_++_);rw [Ah];rfl
 ·rintro σ' H' ⟨_,eD,sm⟩;rw [Aa,bV,Bw] at eD;exact q D H' sm hD eD
abbrev C5:List Str:=["rows","places","table","tie","one","two","start","goal","line"]
abbrev og:List Str:=["rows","places","table","tie","one","two","start","goal","line","place","point"]
abbrev oh:List Str:=["rows","places","table","tie","one","two","start","goal","line","point"]
abbrev sY:List Str:=["rows","places","table","tie","one","two","start","goal","line","point","other"]
theorem sZ:ao C5 ["rows"] (bm kJ):=⟨rfl,rfl,rfl,by decide +kernel,rfl,by decide +kernel,by decide +kernel⟩
theorem Mx:og.Nodup:=by decide +kernel
theorem Ym:oh.Nodup:=by decide +kernel
theorem Yn:sY.Nodup:=by decide +kernel
def Yo:Scope:=match g8 kJ with
 | _ :: .Assign _ (.ListComp _ _ sc _) _ :: _=>sc
 | _=>bm kJ
def Yp:Scope:=relabel Yo<|PyProof.Rows.envOfC "tie_table" (bm kJ) 0 0 .none
theorem Yq{f:Addr}{fd:FuncData}(F:bM K "tie_table" "tie_table" kJ f fd)(T:Txt mg)(GP:aY P w K mg base 1 "points_of" ["rows"] C1)(GL:aY P w K mg base 1 "links_of" ["rows"] B2):aI P w K mg base bH 2 f fd ["rows"] C2:=by
 refine F.gb sZ (λvs H Q E h=>?_) λb0 H vs Q E hr h=>?_
 ·obtain⟨R,as,n,rfl,_⟩:=h;rfl
 obtain⟨R,as,n,rfl,hR,hT,hN,h0,hn,lg,q⟩:=h;have nd:=sZ.nd;have hu:=hr.u1;have kc:0 < n.length:=Co.mpr h0;show Run _ _ _ [some<|.ref R,none,none,none,none,none,none,none,none] H;refine aQ 1 nd (TX (bm kJ) C5 og 2 (XN rfl T.enum fH)<|ai<|ub tZ<|bN GP hr<|ai<|ae 0<|aD ⟨R,as,n,rfl,hR,by omega,λL H1 s1 n1 e1=>ud<|aA ⟨1,rfl,uc ⟨L,_,rfl,au.of e1,λp1 nG=>aD ⟨p1,rfl,⟨_,au.of aC⟩,λD hD=>?_⟩⟩⟩⟩);have sp:=s1.trans (a9 nG (.lst (b9 ((n.map (·.1)).map V.str) (some 1) none)));have ep:(upd H1 p1 (.lst (b9 ((n.map (·.1)).map V.str) (some 1) none))) p1=some (.lst (b9 ((n.map (·.1)).map V.str) (some 1) none)):=aC;generalize upd H1 p1 (.lst (b9 ((n.map (·.1)).map V.str) (some 1) none))=H2 at sp ep hD ⊢;rw [show b9 ((n.map (·.1)).map V.str) (some 1) none=((n.map (·.1)).drop 1).map V.str from IG (n.map (·.1)) 1] at ep;have Yr:((n.map (·.1)).drop 1).length=n.length - 1:=by rw [Cp,Aa]
 have C6:((n.map (·.1)).drop 1).Nodup:=hN.sublist<|List.drop_sublist ..;have C7:∀ k p,((n.map (·.1)).drop 1)[k]?=some p↔(n.map (·.1))[k+1]?=some p:=λk p=>by rw [Fr,Nat.add_comm]
 generalize (n.map (·.1)).drop 1=ps at ep Yr C6 C7;intro cl C s₀ H₀ ex;refine XS (xs:=ps.map V.str) (λi σ' H'=>(∃ v1 v2,σ'=[some<|.ref R,none,none,none,none,none,none,none,none]++[v1,v2])/\ak H2 H'/\∃ kvs:List<|Key×V,H' D=some (.dK kvs)/\kvs.map (·.1)=(ps.take i).map Sum.inr/\(∀(k:Nat) p,k < i->ps[k]?=some p->aB kvs (Sum.inr p)=some (.int (k:Int)))/\∀ p,p∉ps.take i->aB kvs (Sum.inr p)=none)
  ⟨⟨none,none,rfl⟩,a9 hD _,[],aC,rfl,λk p h=>absurd h<|Ec _,λp _=>rfl⟩ ?_ ?_ ?_
 ·rintro i σ' H' _ ⟨_,sm,_⟩;exact au.of<|sm _ _ ep
 ·rintro i x Tt σ' H' hx ⟨⟨v1,v2,rfl⟩,sm,kvs,eD,hk,hv,pK⟩ fP;rw [Ag,Bg] at hx;obtain⟨p,hp,rfl⟩:=hx;have yz:=(Ac.mp hp).1;have sT:=a9 fP<|.tup [.int (i:Int),.str p];have kl:kvs.length=i:=by
   have:=BZ List.length hk;rw [Aa,Aa,Bj] at this;omega
  have Ys:p∉ps.take i:=λhm=>by
   obtain⟨k,mq⟩:=Ba hm;have qW:=(Ac.mp mq).1;rw [Bj] at qW;rw [Dg<|by omega] at mq;have:=p9 C6 mq hp;omega
  refine iE rfl (aP.of aC) (bz 9 Mx<|bz 10 Mx ?_);refine fY<|bP<|uI (X:=eV _ og _ cl C s₀ H₀ ex) hu<|ae 10<|ae 9 ⟨_,bQ.k (k:=Sum.inr p) (sT _ _ eD) (cn<|by omega),⟨_,_,rfl⟩,dJ (sm.trans sT) hD,_,aC,?_,λk r h1 h2=>?_,λr hZ=>?_⟩
  ·rw [Vw,hk,BJ λhm=>?_,Cu,hp,Ah]
   ·rfl
   ·obtain⟨y,hy,e⟩:=Aj.mp hm;cases e;exact Ys hy
  ·rw [cZ]
   by_cases e:(Sum.inr r:Key)=Sum.inr p
   ·rw [BL e];cases e;rw [p9 C6 h2 hp]
   ·rw [BJ e];refine hv k r ?_ h2;refine Es (by omega) λz=>e ?_;rw [z,hp] at h2;cases h2;rfl
  ·rw [cZ,BJ λe=>?_]
   ·exact pK r λhm=>hZ<|by rw [Cu];exact Aw _ hm
   ·cases e;exact hZ<|by rw [Cu,hp];exact Ap _<|Am.mpr rfl
 rintro σ' H3 ⟨_,sm3,kvs,eD,hk,hv,pK⟩;rw [Aa,Bw] at hk pK;rw [Aa] at hv;have kl:kvs.length=n.length - 1:=by
  have:=BZ List.length hk;rw [Aa,Aa] at this;omega
 have sw:=sp.trans sm3;have nS:H D=none:=fO sp hD;show Run _ _ _ [some<|.ref R,some<|.ref D,none,none,none,none,none,none,none] H3;refine Sd 2 (bm kJ) C5 oh 1 nd (Ts bw)<|ae 1 ⟨D,kvs,rfl,eD,λo tb v9=>?_⟩;have ef:(upd H3 D<|.bv o<|.dK kvs) D=some (.bv o<|.dK kvs):=aC;have sF:ak H (upd H3 D<|.bv o<|.dK kvs):=dJ sw nS;generalize upd H3 D (.bv o<|.dK kvs)=H4 at ef sF v9 ⊢;refine IJ (o:=o) (kvs:=kvs) (λi σ' H'=>(∃ v,σ'=[some<|.ref R,some<|.ref D,none,none,none,none,none,none,none]++[v])/\ak H4 H'/\∃ ts:List Addr,ts.length=i/\H' tb=some (.lst<|ts.map V.ref)/\(∀ a∈ts,H' a=some (.lst<|(List.replicate (n.length - 1) (0:Int)).map V.int)/\H4 a=none/\a≠tb)/\ts.Nodup) ⟨⟨none,rfl⟩,a9 v9 _,[],rfl,aC,λa h=>(nomatch h),Cf⟩ ?_ ?_ ?_
 ·rintro i σ' H' _ ⟨_,sm,_⟩;exact sm _ _ ef
 ·rintro i pr σ' H' Yu ⟨⟨v,rfl⟩,sm,ts,hl,eT,ic,gQ⟩;have yz:=(Ac.mp Yu).1;intro cl C s₀ H₀ ex;refine bz 9 Ym ?_;intro cl C s₀ H₀ ex;refine fY<|bP ?_;intro cl C s₀ H₀ ex;refine oQ Yp oh sY 1 (XQ bw)<|ae 1 ⟨D,o,kvs,rfl,sm _ _ ef,λD2 k8=>?_⟩;refine IJ (o:=o) (kvs:=kvs) (λj σ' bC=>(∃ v,σ'=[some<|.ref R,some<|.ref D,none,none,none,none,none,none,none,some<|kV pr.1]++[v])/\ak H' bC/\bC D2=some (.lst<|(List.replicate j (0:Int)).map V.int)) ⟨⟨none,rfl⟩,a9 k8 _,aC⟩ ?_ ?_ ?_
  ·rintro j σ' bC _ ⟨_,sn,_⟩;exact sn _ _<|sm _ _ ef
  ·rintro j pj σ' bC Yv ⟨⟨v,rfl⟩,sn,wa⟩;have mS:=(Ac.mp Yv).1;intro cl C s₀ H₀ ex;refine bz 10 Yn ?_;intro cl C s₀ H₀ ex;refine fY<|bP ?_;intro cl C s₀ H₀ ex;refine aA ⟨_,wa,?_,⟨_,rfl⟩,dJ sn k8,?_⟩
   ·rw [Aa,Dp];exact cn<|by omega
   ·rw [aC,List.replicate_succ',Ah];rfl
  ·rintro σ' bC ⟨_,sn,wa⟩;rw [kl] at wa;have n2:D2≠tb:=λe=>by rw [e,eT] at k8;cases k8
   refine⟨_,sn _ _ eT,?_,⟨_,rfl⟩,dJ (sm.trans sn) v9,ts++[D2],by rw [Af,hl];rfl,by rw [aC,Ah];rfl,λa ha=>?_,ku gQ λhm=>?_⟩
   ·rw [Aa];exact cn<|by omega
   ·rcases Aq.mp ha with ha | ha
    ·obtain⟨h1,h2,h3⟩:=ic a ha;exact⟨by rw [aw h3];exact sn _ _ h1,h2,h3⟩
    ·rw [Am.mp ha];exact⟨by rw [aw n2];exact wa,fO sm k8,n2⟩
   ·have:=(ic D2 hm).1;rw [k8] at this;cases this
 rintro σ' H5 ⟨_,lv,ts,hl,eT,ic,gQ⟩;have hl:ts.length=n.length - 1:=by omega
 have tb0:H tb=none:=fO sF v9;have T0:TabAt H5 tb ts (tab (n.length - 1) λ_ _=>0):=by
  refine⟨by unfold tab;rw [Aa,Ci];exact hl,eT,λi a r h1 h2=>?_,gQ⟩;have il:=(Ac.mp h1).1;rw [pJ<|by omega] at h2;cases h2;rw [(ic a<|At h1).1]
  congr 2
  congr 1
  refine Cv λk=>?_
  by_cases hk:k < n.length - 1
  ·rw [vZ hk,Dv,BL hk]
  ·rw [Bc (by rw [Dp];omega),Bc<|by rw [Aa,Ci];omega]
 have Yw:=lv _ _ ef;have fr:∀ a∈ts,H a=none:=λa ha=>fO sF (ic a ha).2.1;have sE:=sF.trans lv;have C8:D∉ts:=λhm=>by
  have:=(ic D hm).2.1;rw [ef] at this;cases this
 show Run _ _ _ [some<|.ref R,some<|.ref D,some<|.ref tb,none,none,none,none,none,none] H5;refine my (bN GL hr<|ai<|ae 0<|aD ⟨R,as,n,rfl,hR.same sE,hT,by omega,by omega,λL us ls H6 s6 n6 eL fz so mem l60=>⟨L,rfl,⟨_,au.of eL⟩,?_⟩⟩);have T6:=T0.same s6;have Yx:=s6 _ _ Yw;have nC:=sE.trans s6;have Yy:L∉ts:=λhm=>by
  obtain⟨i,hi⟩:=Ba hm;have il:=(Ac.mp hi).1;have:=T0.row i L _ hi (pJ<|by omega);rw [n6] at this;cases this
 have Yz:∀ x∈ls,(rn n x.2.1 < n.length/\(n.map (·.1))[rn n x.2.1]?=some x.2.1)/\(rn n x.2.2 < n.length/\(n.map (·.1))[rn n x.2.2]?=some x.2.2):=λx hx=>Yg hT hN<|(mem x).mp hx;have wc:∀{p:Str} {r:Nat},(n.map (·.1))[r]?=some p->aB kvs (Sum.inr p)=if r=0 then none else some (.int ((r - 1:Nat):Int)):=λ{p r} h=>by
  by_cases e:r=0
  ·rw [BL e];refine pK p λhm=>?_;obtain⟨k,mq⟩:=Ba hm;have:=p9 hN ((C7 k p).mp mq) h;omega
  ·rw [BJ e];have My:ps[r - 1]?=some p:=(C7 (r - 1) p).mpr (by rw [show r - 1+1=r by omega];exact h);exact hv (r - 1) p (Ac.mp My).1 My
 refine mB (xs:=us.map V.ref) (λk σ' H'=>(∃ v3 v4 v5 v6 v7 v8,σ'=[some<|.ref R,some<|.ref D,some<|.ref tb,v3,v4,v5,v6,v7,v8])/\vY ts H6 H'/\TabAt H' tb ts (tab (n.length - 1) λi j=>Dt.Lp ((cv n<|ls.take k).map Dt.ed) (i+1)<|j+1)) ⟨⟨_,_,_,_,_,_,rfl⟩,λb o _ h=>h,T6⟩ ?_ ?_ ?_
 ·rintro k σ' H' _ ⟨_,sm,_⟩;exact au.of<|sm _ _ Yy eL
 ·rintro k x σ' H7 hx ⟨⟨v3,v4,v5,v6,v7,v8,rfl⟩,kd,T7⟩;rw [Ag,Bg] at hx;obtain⟨u,kG,rfl⟩:=hx;have hj:k < ls.length:=by
   have:=(Ac.mp kG).1;have:=fz.1;omega
  have Mz:ls[k]?=some ls[k]:=Ab hj;have sK:=fz.2 k u _ kG Mz;have mx:ls[k]∈ls:=Bn hj;obtain⟨⟨a1,a2⟩,b1,b2⟩:=Yz _ mx;have tk:cv n (ls.take<|k+1)=cv n (ls.take k)++[(rn n ls[k].2.1,rn n ls[k].2.2)]:=by
   unfold cv;rw [Cu,Mz,Ah];rfl
  rw [tk];generalize ls[k]=lx at sK a1 a2 b1 b2;obtain⟨z,on,tw⟩:=lx;have a2:(n.map (·.1))[rn n on]?=some on:=a2;have b2:(n.map (·.1))[rn n tw]?=some tw:=b2;have a1:rn n on < n.length:=a1;have b1:rn n tw < n.length:=b1;show Eg _ _ _ _ _ _;have YB:u∉ts:=λhm=>by
   obtain⟨i,hi⟩:=Ba hm;have il:=(Ac.mp hi).1;have:=T6.row i u _ hi (pJ<|by omega);rw [sK] at this;cases this
  refine XB rfl (aP.of<|kd _ _ YB sK) (bz 3 nd<|bz 4 nd<|bz 5 nd ?_);show Run _ _ _ [some<|.ref R,some<|.ref D,some<|.ref tb,some<|.str z,some<|.str on,some<|.str tw,v6,v7,v8] H7;refine RK<|eg<|ai<|eg<|ai<|ae 4<|ai<|ae 5<|aD ⟨Z2,λt1 zO=>?_⟩;refine ai<|eg<|ai<|ae 5<|ai<|ae 4<|aD ⟨Z2,λt2 iJ=>aD ⟨Z2,λtt YC=>?_⟩⟩;have m1:=a9 zO<|.tup [.str on,.str tw];have m2:=a9 iJ<|.tup [.str tw,.str on];have m3:=a9 YC<|.tup [.ref t1,.ref t2];have e1:=m3 _ _<|m2 _ _<|aC (H:=H7) (a:=t1) (o:= .tup [.str on,.str tw]);have e2:=m3 _ _<|aC (H:=upd H7 t1<|.tup [.str on,.str tw]) (a:=t2) (o:= .tup [.str tw,.str on]);have e3:=aC (H:=upd (upd H7 t1<|.tup [.str on,.str tw]) t2<|.tup [.str tw,.str on]) (a:=tt) (o:= .tup [.ref t1,.ref t2]);have m:=m1.trans<|m2.trans m3;refine⟨tt,rfl,⟨_,aP.of e3⟩,?_⟩;generalize upd (upd (upd H7 t1<|.tup [.str on,.str tw]) t2<|.tup [.str tw,.str on]) tt (.tup [.ref t1,.ref t2])=H8 at e1 e2 e3 m;have T8:=T7.same m;have MA:vY ts H6 H8:=λb o nb h=>m _ _<|kd b o nb h;have MB:∀(t:Addr) (xs:List V),H8 t=some (.tup xs)->t∉ts:=λt xs ht hm=>by
   obtain⟨i,hi⟩:=Ba hm;have il:=(Ac.mp hi).1;have:=T8.row i t _ hi (pJ<|by omega);rw [ht] at this;cases this
  have MC:=MA _ _ C8 Yx;refine RL (xs:=[.ref t1,.ref t2]) (λi σ' H'=>(∃ v6 v7 v8,σ'=[some<|.ref R,some<|.ref D,some<|.ref tb,some<|.str z,some<|.str on,some<|.str tw,v6,v7,v8])/\vY ts H8 H'/\TabAt H' tb ts (tab (n.length - 1) λx j=>Dt.Lp ((cv n<|ls.take k).map Dt.ed) (x+1) (j+1)+(if 0 < i then Dt.hl (rn n on) (rn n tw) (x+1) (j+1) else 0)+(if 1 < i then Dt.hl (rn n tw) (rn n on) (x+1) (j+1) else 0)))
   ⟨⟨_,_,_,rfl⟩,λb o _ h=>h,?_⟩ ?_ ?_ ?_
  ·have:(λx j=>Dt.Lp ((cv n<|ls.take k).map Dt.ed) (x+1) (j+1)+(if 0 < 0 then Dt.hl (rn n on) (rn n tw) (x+1) (j+1) else 0)+(if 1 < 0 then Dt.hl (rn n tw) (rn n on) (x+1) (j+1) else 0))=λx j=>Dt.Lp ((cv n<|ls.take k).map Dt.ed) (x+1) (j+1):=by
    funext x j
    rw [BJ<|Dd 0,BJ<|by decide];omega
   rw [this];exact T8
  ·rintro i σ' H' _ ⟨_,sn,_⟩;exact aP.of<|sn _ _ (MB _ _ e3) e3
  ·rintro i x σ' H9 hx ⟨⟨v6,v7,v8,rfl⟩,sn,T9⟩;obtain⟨st,gl,t,rfl,et,cA,tf,dN⟩:∃ st gl t,x = .ref t/\H8 t=some (.tup [.str st,.str gl])/\(n.map (·.1))[rn n st]?=some st/\(n.map (·.1))[rn n gl]?=some gl/\∀ y j:Nat,(if 0 < i then Dt.hl (rn n on) (rn n tw) (y+1) (j+1) else 0)+(if 1 < i then Dt.hl (rn n tw) (rn n on) (y+1) (j+1) else 0)+Dt.hl (rn n st) (rn n gl) (y+1) (j+1)=(if 0 < i+1 then Dt.hl (rn n on) (rn n tw) (y+1) (j+1) else 0)+(if 1 < i+1 then Dt.hl (rn n tw) (rn n on) (y+1) (j+1) else 0):=by
    match i with
    | 0=>
     cases hx;exact⟨on,tw,t1,rfl,e1,a2,b2,λy j=>by simp⟩
    | 1=>
     cases hx;exact⟨tw,on,t2,rfl,e2,b2,a2,λy j=>by simp⟩
    | i+2=>simp at hx
   have fin:∀{F:Nat->Nat->Int} {G:Nat->Nat->Int},(∀ y j,G y j=F y j+Dt.hl (rn n st) (rn n gl) (y+1) (j+1))->(∀ y j,F y j=Dt.Lp ((cv n<|ls.take k).map Dt.ed) (y+1) (j+1)+(if 0 < i then Dt.hl (rn n on) (rn n tw) (y+1) (j+1) else 0)+(if 1 < i then Dt.hl (rn n tw) (rn n on) (y+1) (j+1) else 0)) ->
     G=λy j=>Dt.Lp ((cv n<|ls.take k).map Dt.ed) (y+1) (j+1)+(if 0 < i+1 then Dt.hl (rn n on) (rn n tw) (y+1) (j+1) else 0)+(if 1 < i+1 then Dt.hl (rn n tw) (rn n on) (y+1) (j+1) else 0):=λ{F G} h1 h2=>by
    funext y j
    have:=dN y j;rw [h1,h2];omega
   generalize hF:(λx j=>Dt.Lp ((cv n<|ls.take k).map Dt.ed) (x+1) (j+1)+(if 0 < i then Dt.hl (rn n on) (rn n tw) (x+1) (j+1) else 0)+(if 1 < i then Dt.hl (rn n tw) (rn n on) (x+1) (j+1) else 0))=F at T9;have rJ:∀ y j,F y j=Dt.Lp ((cv n<|ls.take k).map Dt.ed) (y+1) (j+1)+(if 0 < i then Dt.hl (rn n on) (rn n tw) (y+1) (j+1) else 0)+(if 1 < i then Dt.hl (rn n tw) (rn n on) (y+1) (j+1) else 0):=λy j=>by rw [<- hF]
   have skip:(∀ y j,Dt.hl (rn n st) (rn n gl) (y+1) (j+1)=0)->TabAt H9 tb ts (tab (n.length - 1) λx j=>Dt.Lp ((cv n<|ls.take k).map Dt.ed) (x+1) (j+1)+(if 0 < i+1 then Dt.hl (rn n on) (rn n tw) (x+1) (j+1) else 0)+(if 1 < i+1 then Dt.hl (rn n tw) (rn n on) (x+1) (j+1) else 0)):=λh=>by
    rw [<- fin (G:=F) (λy j=>by rw [h];omega) rJ];exact T9
   have C9:=sn _ _ C8 MC;refine iE rfl (aP.of<|sn _ _ (MB _ _ et) et) (bz 6 nd<|bz 7 nd ?_);show Run _ _ _ [some<|.ref R,some<|.ref D,some<|.ref tb,some<|.str z,some<|.str on,some<|.str tw,some<|.str st,some<|.str gl,v8] H9;refine fX<|oN<|Ht<|eB Gj<|ae 6<|ae 7 ⟨rfl,_,rfl,?_⟩
   by_cases DA:st=gl
   ·subst DA;rw [show(!decide (V.str st=V.str st))=false by simp];refine b4<|b4<|bg<|bg ⟨⟨_,_,_,rfl⟩,sn,skip λy j=>?_⟩;unfold Dt.hl;rw [BL rfl]
   rw [show(!decide (V.str st=V.str gl))=true by simp [DA]];have we:rn n st≠rn n gl:=λe=>by
    rw [e,tf] at cA;exact DA (Option.some.inj cA).symm
   refine bP<|Hu<|uo hu<|ae 6<|ae 1 ⟨D,_,rfl,.inl ⟨kvs,Sum.inr st,.inr ⟨o,C9⟩,rfl,rfl⟩,?_⟩;rw [wc cA]
   by_cases r0:rn n st=0
   ·rw [BL r0];refine b4<|bg<|bg ⟨⟨_,_,_,rfl⟩,sn,skip λy j=>?_⟩;unfold Dt.hl;rw [r0,BJ (by rw [<- r0];exact we),BJ<|by omega]
   rw [BJ r0];refine bP ?_;have rl:rn n st < n.length:=by
    have:=(Ac.mp cA).1;rw [Aa] at this;exact this
   obtain⟨a0,B4⟩:∃ a0,rn n st=a0+1:=⟨rn n st - 1,by omega⟩;rw [B4] at cA r0 rl we fin;have MD:aB kvs (Sum.inr st)=some (.int (a0:Int)):=by rw [wc cA,BJ<|by omega];rfl
   have al:a0 < n.length - 1:=by omega
   obtain⟨la,je⟩:∃ la,ts[a0]?=some la:=⟨_,Ab<|by omega⟩;have YD:=At je;have fh:=T9.row a0 la _ je<|pJ al;refine aQ 8 nd<|a8 cC<|ae 2<|fM hu<|ae 1<|ae 6 ⟨D,_,rfl,.inl ⟨kvs,Sum.inr st,.inr ⟨o,C9⟩,rfl,MD.symm⟩,tb,_,_,.ref la,rfl,rfl,au.of T9.lst,CI je,?_⟩;show Run _ _ _ [some<|.ref R,some<|.ref D,some<|.ref tb,some<|.str z,some<|.str on,some<|.str tw,some<|.str st,some<|.str gl,some<|.ref la] H9;refine LN F1 (ae 8<|fM hu<|ae 1<|ae 6 ⟨D,_,rfl,.inl ⟨kvs,Sum.inr st,.inr ⟨o,C9⟩,rfl,MD.symm⟩,la,_,_,.int<|F a0 a0,rfl,rfl,au.of fh,pH<|vZ al,aA ⟨_,_,rfl,rfl,la,_,_,a0,rfl,rfl,fh,Mt (by rw [Aa,Aa,Ci];exact al),?_⟩⟩);have ME:∀ b,b∉ts->b≠la:=λb hb e=>hb<|e ▸ YD;have wg:=T9.put je<|((List.range<|n.length - 1).map<|F a0).set a0<|F a0 a0+1;have DB:upd H9 la (.lst<|(((List.range<|n.length - 1).map<|F a0).map V.int).set a0<|.int<|F a0 a0+1)=upd H9 la (.lst<|(((List.range<|n.length - 1).map<|F a0).set a0<|F a0 a0+1).map V.int):=by rw [List.map_set]
   rw [DB];rw [C0 al] at wg ⊢;have wj:vY ts H8 (upd H9 la<|.lst<|((List.range<|n.length - 1).map λj=>if j=a0 then F a0 a0+1 else F a0 j).map V.int):=λb o' nb h=>by rw [aw<|ME b nb];exact sn b o' nb h
   have DC:(upd H9 la<|.lst<|((List.range<|n.length - 1).map λj=>if j=a0 then F a0 a0+1 else F a0 j).map V.int) la=some (.lst<|((List.range<|n.length - 1).map λj=>if j=a0 then F a0 a0+1 else F a0 j).map V.int):=aC;generalize upd H9 la (.lst<|((List.range<|n.length - 1).map λj=>if j=a0 then F a0 a0+1 else F a0 j).map V.int)=MG at wg wj DC ⊢;have tq:=wj _ _ C8 MC;refine fX<|uo hu<|ae 7<|ae 1 ⟨D,_,rfl,.inl ⟨kvs,Sum.inr gl,.inr ⟨o,tq⟩,rfl,rfl⟩,?_⟩;rw [wc tf]
   by_cases g0:rn n gl=0
   ·rw [BL g0];refine b4<|bg<|bg<|bg ⟨⟨_,_,_,rfl⟩,wj,?_⟩;rw [<- fin (F:=F) (G:=λy j=>if y=a0 then(if j=a0 then F a0 a0+1 else F a0 j) else F y j) (λy j=>?_) rJ,<- Mu (F:=F) al λk hk j=>BJ hk]
    ·simp only [CT];exact wg
    ·rw [g0];exact Dt.j8 F a0 y j
   rw [BJ g0];refine bP ?_;have YF:rn n gl < n.length:=by
    have:=(Ac.mp tf).1;rw [Aa] at this;exact this
   obtain⟨c0,YG⟩:∃ c0,rn n gl=c0+1:=⟨rn n gl - 1,by omega⟩;rw [YG] at tf g0 YF we fin;have YH:aB kvs (Sum.inr gl)=some (.int (c0:Int)):=by rw [wc tf,BJ<|by omega];rfl
   have wm:c0 < n.length - 1:=by omega
   have MH:c0≠a0:=λe=>we (by rw [e]);refine LN Pj (ae 8<|fM hu<|ae 1<|ae 7 ⟨D,_,rfl,.inl ⟨kvs,Sum.inr gl,.inr ⟨o,tq⟩,rfl,YH.symm⟩,la,_,_,.int<|F a0 c0,rfl,rfl,au.of DC,pH (by rw [vZ wm,BJ MH]),aA ⟨_,_,rfl,rfl,la,_,_,c0,rfl,rfl,DC,Mt (by rw [Aa,Aa,Ci];exact wm),?_⟩⟩);have MI:=wg.put je<|((List.range<|n.length - 1).map λj=>if j=a0 then F a0 a0+1 else F a0 j).set c0<|F a0 c0 - 1;rw [show upd MG la (.lst<|(((List.range<|n.length - 1).map λj=>if j=a0 then F a0 a0+1 else F a0 j).map V.int).set c0<|.int<|F a0 c0 - 1)=upd MG la (.lst<|(((List.range<|n.length - 1).map λj=>if j=a0 then F a0 a0+1 else F a0 j).set c0<|F a0 c0 - 1).map V.int) by rw [List.map_set]];refine bg (bg<|bg ⟨⟨_,_,_,rfl⟩,λb o' nb h=>by rw [aw<|ME b nb];exact wj b o' nb h,?_⟩);rw [List.set_set,C0 wm] at MI;rw [C0 wm];rw [<- fin (F:=F) (G:=λy j=>if y=a0 then(if j=c0 then F a0 c0 - 1 else if j=a0 then F a0 a0+1 else F a0 j) else F y j) (λy j=>?_) rJ,<- Mu (F:=F) al λk hk j=>BJ hk]
   ·simp only [CT];exact MI
   ·exact Dt.j9 F MH y j
  ·rintro σ' H9 ⟨⟨v6,v7,v8,rfl⟩,sn,T9⟩;refine bg ⟨⟨_,_,_,_,_,_,rfl⟩,λb o' nb h=>sn b o' nb<|MA b o' nb h,?_⟩;have:(λi j=>Dt.Lp ((cv n (ls.take k)++[(rn n on,rn n tw)]).map Dt.ed) (i+1)<|j+1)=λx j=>Dt.Lp ((cv n<|ls.take k).map Dt.ed) (x+1) (j+1)+(if 0 < [V.ref t1,V.ref t2].length then Dt.hl (rn n on) (rn n tw) (x+1) (j+1) else 0)+(if 1 < [V.ref t1,V.ref t2].length then Dt.hl (rn n tw) (rn n on) (x+1) (j+1) else 0):=by
    funext x j
    rw [BL (by show 0 < 2;decide),BL (by show 1 < 2;decide),Int.add_assoc,<- Dt.n9,Ah];unfold Dt.Lp;rw [Ah,List.sum_append];show _+(Dt.ed _ _ * Dt.ed _ _+0)=_;omega
   show TabAt _ _ _ (tab _ λi j=>Dt.Lp ((cv n (ls.take k)++[(rn n on,rn n tw)]).map Dt.ed) (i+1)<|j+1);rw [this];exact T9
 ·rintro σ' H7 ⟨⟨v3,v4,v5,v6,v7,v8,rfl⟩,kd,T7⟩;rw [Aa,fz.1,Bw] at T7;exact cf<|ae 2<|q tb ts ls H7 (λb o' h=>kd b o' (λhm=>by rw [fr b hm] at h;cases h)<|nC _ _ h) T7 so mem
abbrev YJ:List Str:=["rows"]
theorem DE:ao YJ ["rows"] (bm yL):=⟨rfl,rfl,rfl,by decide +kernel,rfl,by decide +kernel,by decide +kernel⟩
theorem YK{f:Addr}{fd:FuncData}(F:bM K "tree_count" "tree_count" yL f fd)(T:Txt mg)(GT:aY P w K mg base 2 "tie_table" ["rows"] C2)(GD:aY P w K mg base 2 "determinant" ["table"] CL):aI P w K mg base bH 3 f fd ["rows"] C3:=by
 refine F.gb DE (λvs H Q E h=>?_) λb0 H vs Q E hr h=>?_
 ·obtain⟨R,as,n,rfl,_⟩:=h;rfl
 obtain⟨R,as,n,rfl,hR,hT,hN,h0,hn,lg,hg,q⟩:=h;show Run _ _ _ [some<|.ref R] H;refine cf (bN GD hr<|ai<|bN GT hr<|ai<|ae 0<|aD ⟨R,as,n,rfl,hR,hT,hN,h0,hn,by omega,λtb ts ls H1 s1 YL so mem=>?_⟩);have YM:((List.range<|n.length - 1).map (·+1)).Nodup:=CY _;refine aD ⟨tb,ts,Dt.Lp<|(cv n ls).map Dt.ed,(List.range<|n.length - 1).map (·+1),rfl,?_,Dt.j6 YM (by unfold cv;rw [Aa];have:=Yh hT so mem;omega)<|Yj hT hN hg h0 mem,by rw [Aa,Ci];omega,λH2 s2=>?_⟩
 ·rw [Bi];have e:tab (n.length - 1) (λi j=>Dt.Lp ((cv n ls).map Dt.ed) (i+1)<|j+1)=(List.range<|n.length - 1).map ((λi=>((List.range<|n.length - 1).map (·+1)).map<|Dt.Lp ((cv n ls).map Dt.ed) i) ∘ (·+1)):=by
   unfold tab;refine Ay λi _=>?_;show _=((List.range<|n.length - 1).map (·+1)).map (Dt.Lp ((cv n ls).map Dt.ed)<|i+1);rw [Bi];rfl
  rw [<- e];exact YL
 ·have e:Dt.mm (Dt.Lp<|(cv n ls).map Dt.ed) ((List.range<|n.length - 1).map (·+1)).reverse=Dt.De ((List.range<|n.length - 1).map (·+1)) (cv n ls):=Dt.gB _ (List.reverse_perm _).symm;rw [e];exact q ls H2 (s1.trans s2) so mem
end
end Y3
namespace Dt
end Dt
namespace Nt
open PySem L2
def cw(n:Net)(z:Str):Nat×Nat:=match pos n z with
 | [a,b]=>(a.1,b.1)
 | _=>(0,0)
theorem DF{n:Net}{z:Str}{a b:End}(h:pos n z=[a,b]):cw n z=(a.1,b.1):=by
 unfold cw;rw [h]
theorem DH{n:Net}(T:aq n){z:Str}(h:z∈ag n):∃ a b,pos n z=[a,b]:=by
 have:=jK n z;rw [T z h] at this
 match hp:pos n z,this with
 | [a,b],_=>exact⟨a,b,rfl⟩
theorem YN{n:Net}(T:aq n)(hN:(n.map (·.1)).Nodup){ls:List Lk}(so:ls.Pairwise λx y=>x.1.cps.toList < y.1.cps.toList)(mem:∀ x,x∈ls↔jm n x){ss:List Str}(hs:ia ss)(hm:∀ z,z∈ss↔z∈ag n):cv n ls=ss.map (cw n):=by
 have e:ls.map (·.1)=ss:=by
  refine J5 (FT (λx:Lk=>x.1) (R:=λx y:Lk=>x.1.cps.toList < y.1.cps.toList) (λx y h=>h) so) hs λz=>?_;rw [hm,Aj]
  constructor
  ·rintro ⟨x,hx,rfl⟩;exact Mr<|(mem x).mp hx
  ·intro hz;obtain⟨a,b,hp⟩:=DH T hz;exact⟨(z,aM n a.1,aM n b.1),(mem _).mpr ⟨a,b,hp,rfl,rfl⟩,rfl⟩
 rw [<- e,Bi];refine Ay λx hx=>?_;obtain⟨a,b,hp,h1,h2⟩:=(mem x).mp hx;have la:=(lu (n:=n) (z:=x.1) (e:=a)<|by rw [hp];simp).1;have lb:=(lu (n:=n) (z:=x.1) (e:=b)<|by rw [hp];simp).1;show(rn n x.2.1,rn n x.2.2)=cw n x.1;rw [DF hp,h1,h2,ka hN la,ka hN lb]
end Nt
namespace Dt
variable{κ μ:Type}
variable [DecidableEq κ] [DecidableEq μ]
end Dt
namespace Nt
open PySem L2
section
variable{n:Net}{z:Str}{r k:Nat}
theorem DI(h:r < n.length):row n r=n[r].2:=by unfold row;rw [Ab h];rfl
theorem YQ(h:r < n.length):ag (n.take<|r+1)=ag (n.take r)++row n r:=by
 rw [DI h];unfold ag;rw [Cu,Ab h,Dm];simp
theorem YR:ag n=ag (n.take k)++ag (n.drop k):=by
 unfold ag;rw [<- Dm,Ct]
theorem DJ(h:r < n.length)(q:z∈row n r):z∈ag n:=by
 rw [YR (k:=r+1),YQ h];simp [q]
end
end Nt
namespace L2
open PySem Nt
section
variable{X:Cx}{elt tg:Expr}{ifs:List Expr}{scope:Scope}{σ:St}{H:Hp}{N':List Str}{A:Addr}{after:Hp->Prop}
end
section
variable{X:Cx}{σ:St}{H:Hp}{Q:VK}{o e e1:Expr}{pos p1 p2 p3 p4:Pos}{j1:Nat}
end
end L2
namespace Nt
open PySem L2 Classical
section
variable{n:Net}{z:Str}
end
section
variable{H0 H:Hp}{d l0 a:Addr}{done:List (Str×End)}{kvs:List (Key×V)}{ks:List Str}{z:Str}{e:End}
end
end Nt
namespace Nt
open PySem L2
theorem ML(z:Str)(k:Nat):∀(m:Net) (j:Nat),k < j->(bu (dh j m) z).filter (λe=>decide (e.1=k+0))=[]
 | [],j,_=>rfl
 | y :: m,j,hj=>by
  have e:dh j (y :: m)=aW j y.2 0++dh (j+1) m:=rfl;rw [e,Ka,Dq,ML z k m (j+1) (by omega),Be];exact Eu.mpr λe he q=>by
   have:=zq he;have:=BX q;omega
theorem MO(z:Str):∀(m:Net) (k r:Nat),((bu (dh k m) z).filter λe=>decide (e.1=k+r)).length=(row m r).count z
 | [],k,r=>by
  unfold row;rfl
 | x :: m,k,r=>by
  have e:dh k (x :: m)=aW k x.2 0++dh (k+1) m:=rfl;rw [e,Ka,Dq,Af];cases r with
  | zero=>
   have h1:(bu (aW k x.2 0) z).filter (λe=>decide (e.1=k+0))=bu (aW k x.2 0) z:=List.filter_eq_self.mpr λe he=>BW<|zq he;rw [h1,ML z k m (k+1) (by omega),J'];rfl
  | succ r=>
   have h1:(bu (aW k x.2 0) z).filter (λe=>decide (e.1=k+(r+1)))=[]:=Eu.mpr λe he q=>by
    have:=zq he;have:=BX q;omega
   have ih:=MO z m (k+1) r;rw [show k+1+r=k+(r+1) by omega] at ih;rw [h1,ih];show 0+_=(row m r).count z;omega
def YS(n:Net)(z:Str)(p:Nat×Nat):Prop:=∀ r,(row n r).count z=(if r=p.1 then 1 else 0)+(if r=p.2 then 1 else 0)
theorem MQ{n:Net}(T:aq n){z:Str}(hz:z∈ag n):YS n z (cw n z):=λr=>by
 obtain⟨a,b,hp⟩:=DH T hz;have:=MO z n 0 r;rw [show bu (dh 0 n) z=pos n z from rfl,hp] at this;rw [<- this,DF hp];simp only [Db,List.filter_nil,Em]
 by_cases h1:a.1=r <;> by_cases h2:b.1=r <;> simp [h1,h2,@eq_comm Nat r]
noncomputable def lw(n:Net)(ss:List Str):Int:=Dt.De ((List.range<|n.length - 1).map (·+1))<|ss.map<|cw n
section
variable{n:Net}{z:Str}{r0 r1:Nat}
theorem MR{n:Net}{i:Nat}(h:n.length<=i):row n i=[]:=by
 unfold row;rw [Bc h];rfl
theorem YT(m:Net)(w:Str):(ag m).count w=((List.range m.length).map λr=>(row m r).count w).sum:=by
 induction m with
 | nil=>rfl
 | cons x m ih=>
  have e:ag (x :: m)=x.2++ag m:=rfl;rw [e,Eh,ih,An,Ft,Au,Bm,Bi];rfl
end
end Nt
namespace Dt
variable{κ ι:Type}
theorem MS{r:κ->Int}:∀(cs:List κ) (f:List κ->Int),(∀ c∈cs,r c % 2=0)->X r f cs % 2=0
 | [],_,_=>rfl
 | c :: cs,f,h=>by
  have h1:=h c<|Ad ..;have h2:=MS cs (λl=>f<|c :: l) λd hd=>h d<|Ae _ hd;show(r c * f cs - X r (λl=>f<|c :: l) cs) % 2=0;have:(r c * f cs) % 2=0:=by rw [Ek,h1,RD];rfl
  omega
theorem DL{r:κ->Int}:∀(cs:List κ) (f:List κ->Int),(∀ l,l.length+1=cs.length->f l % 2=0)->X r f cs % 2=0
 | [],_,_=>rfl
 | c :: cs,f,h=>by
  have h1:=h cs rfl;have h2:=DL (r:=r) cs (λl=>f<|c :: l) λl hl=>h (c :: l) (by rw [An,An];omega);show(r c * f cs - X r (λl=>f<|c :: l) cs) % 2=0;have:(r c * f cs) % 2=0:=by rw [Ek,h1,Int.mul_zero];rfl
  omega
theorem MT{r:κ->Int}:∀(cs:List κ) (f g:List κ->Int),(∀ l,f l % 2=g l % 2)->X r f cs % 2=X r g cs % 2
 | [],_,_,_=>rfl
 | c :: cs,f,g,h=>by
  have h1:=h cs;have h2:=MT (r:=r) cs (λl=>f<|c :: l) (λl=>g<|c :: l) λl=>h<|c :: l;show(r c * f cs - X r (λl=>f<|c :: l) cs) % 2=(r c * g cs - X r (λl=>g<|c :: l) cs) % 2;have:(r c * f cs) % 2=(r c * g cs) % 2:=by rw [Ek,h1,<- Ek]
  omega
theorem MU{a b:List (κ->Int)}(h:a.Perm b):∀ cs,dt a cs % 2=dt b cs % 2:=by
 induction h with
 | nil=>exact λ_=>rfl
 | cons r _ ih=>exact λcs=>MT cs _ _ ih
 | swap r s l=>
  intro cs;show X s (X r<|dt l) cs % 2=X r (X s<|dt l) cs % 2;rw [i0];omega
 | trans _ _ h1 h2=>exact λcs=>(h1 cs).trans<|h2 cs
theorem MV:∀(rs:List<|κ->Int) (c:κ) (l:List κ),(∀ r∈rs,r c % 2=0)->l.length+1=rs.length->dt rs (c :: l) % 2=0
 | [],_,_,_,hl=>nomatch hl
 | r :: rs,c,l,h,hl=>by
  have h1:=h r<|Ad ..;have h2:X r (λk=>dt rs<|c :: k) l % 2=0:=DL l _ λk hk=>MV rs c k (λs hs=>h s<|Ae _ hs) (by rw [An] at hl;omega);show(r c * dt rs l - X r (λk=>dt rs<|c :: k) l) % 2=0;have:(r c * dt rs l) % 2=0:=by rw [Ek,h1,RD];rfl
  omega
theorem MX(p:κ->Int)(a:ι->Int)(R:ι->κ->Int):∀(I:List ι) (cs:List κ),X p (dt<|I.map λi j=>R i j+a i * p j) cs=X p (dt<|I.map R) cs
 | [],_=>rfl
 | i :: I,cs=>by
  have ih:X p (dt<|I.map λi j=>R i j+a i * p j)=X p (dt<|I.map R):=funext λl=>MX p a R I l;show X p (X (λj=>R i j+a i * p j)<|dt<|I.map λi j=>R i j+a i * p j) cs=X p (X (R i)<|dt<|I.map R) cs;rw [show(λj=>R i j+a i * p j)=λj=>1 * R i j+a i * p j by funext j;omega,show X (λj=>1 * R i j+a i * p j) (dt<|I.map λi j=>R i j+a i * p j)=λl=>1 * X (R i) (dt<|I.map λi j=>R i j+a i * p j) l+a i * X p (dt<|I.map λi j=>R i j+a i * p j) l from funext λl=>jr ..,pC,vQ,i0,ih,i0 p<|R i];omega
variable [DecidableEq ι]
def sm(R:ι->κ->Int)(S:ι->Bool)(I:List ι)(c:κ):Int:=(I.map λi=>if S i=true then R i c else 0).sum
def tu(R:ι->κ->Int)(I:List ι)(cs:List κ):Prop:=∃ S:ι->Bool,(∃ i∈I,S i=true)/\∀ c∈cs,sm R S I c % 2=0
theorem MY(R:ι->κ->Int)(S:ι->Bool){I J:List ι}(h:I.Perm J)(c:κ):sm R S I c=sm R S J c:=L5<|h.map _
theorem ke(R:ι->κ->Int)(S:ι->Bool)(p:ι)(I:List ι)(c:κ):sm R S (p :: I) c=(if S p=true then R p c else 0)+sm R S I c:=rfl
theorem wn{R:ι->κ->Int}{c:κ}(S:ι->Bool):∀{I:List ι},(∀ i∈I,R i c % 2=0)->sm R S I c % 2=0
 | [],_=>rfl
 | i :: I,h=>by
  have h1:=h i<|Ad ..;have h2:=wn S (I:=I) λj hj=>h j<|Ae _ hj;rw [ke]
  split <;> omega
theorem MZ{R:ι->κ->Int}{S S':ι->Bool}{I:List ι}(h:∀ i∈I,S i=S' i)(c:κ):sm R S I c=sm R S' I c:=by
 unfold sm
 congr 1
 exact Ay λi hi=>by rw [h i hi]
theorem M0(R:ι->κ->Int)(S:ι->Bool)(p:κ->Int)(d:κ)(c:κ):∀ I:List ι,sm (λi j=>R i j+R i d * p j) S I c=sm R S I c+sm R S I d * p c
 | []=>by show(0:Int)=0+0 * p c;omega
 | i :: I=>by
  rw [ke,ke,ke,M0 R S p d c I]
  split <;> grind
theorem M1{R:ι->κ->Int}{I:List ι}(hI:I.Nodup){c:κ}{cs:List κ}{p:ι}(hp:p∈I)(ho:R p c % 2=1)(h:tu (λi j=>R i j+R i c * R p j) (I.erase p) cs):tu R I (c :: cs):=by
 obtain⟨S',⟨i,hi,si⟩,hs⟩:=h;have pe:=Cy hp;have np:p∉I.erase p:=λz=>((hI.mem_erase_iff).mp z).1 rfl;refine⟨λx=>if x=p then decide (sm R S' (I.erase p) c % 2=1) else S' x,⟨i,Dz hi,by show(if i=p then _ else S' i)=true;rw [BJ λe:i=p=>np<|by rw [e] at hi;exact hi];exact si⟩,λd hd=>?_⟩;rw [MY _ _ pe,ke,MZ (S':=S') (λx hx=>BJ λe:x=p=>np<|by rw [e] at hx;exact hx),BL rfl]
 rcases Ai.mp hd with e | hd
 ·rw [e]
  by_cases k:sm R S' (I.erase p) c % 2=1
  ·rw [BW k,BL rfl];omega
  ·rw [BR k,BJ Ar];omega
 ·have:=hs d hd;rw [M0] at this;have e:(sm R S' (I.erase p) c * R p d) % 2=((sm R S' (I.erase p) c % 2) * R p d) % 2:=by rw [Ek<|sm R S' (I.erase p) c % 2,Fz _<|RG 2,<- Ek]
  by_cases k:sm R S' (I.erase p) c % 2=1
  ·rw [BW k,BL rfl];rw [k,Int.one_mul] at e;omega
  ·rw [BR k,BJ Ar];have k:sm R S' (I.erase p) c % 2=0:=by omega
   rw [k,RD] at e;omega
theorem DM:∀(cs:List κ) (R:ι->κ->Int) (I:List ι),I.Nodup->cs.length < I.length->tu R I cs
 | [],R,I,_,hl=>by
  cases I with
  | nil=>exact nomatch hl
  | cons i I=>exact⟨λ_=>true,⟨i,Ad ..,rfl⟩,λc hc=>nomatch hc⟩
 | c :: cs,R,I,hI,hl=>by
  rw [An] at hl
  by_cases h:∃ p∈I,R p c % 2=1
  ·obtain⟨p,hp,ho⟩:=h;exact M1 hI hp ho<|DM cs _ _ (hI.erase p)<|by rw [Dh hp];omega
  ·obtain⟨S,hS,hs⟩:=DM cs R I hI (by omega);refine⟨S,hS,λd hd=>?_⟩
   rcases Ai.mp hd with e | hd
   ·rw [e];refine wn S λi hi=>?_;have:¬ R i c % 2=1:=λk=>h ⟨i,hi,k⟩;omega
   ·exact hs d hd
theorem M3:∀(cs:List κ) (R:ι->κ->Int) (I:List ι),I.Nodup->cs.length=I.length->dt (I.map R) cs % 2=0->tu R I cs
 | [],R,I,_,hl,h=>by
  cases I with
  | nil=>exact absurd (show(1:Int) % 2=0 from h)<|by decide
  | cons i I=>exact nomatch hl
 | c :: cs,R,I,hI,hl,h=>by
  rw [An] at hl
  by_cases k:∃ p∈I,R p c % 2=1
  ·obtain⟨p,hp,ho⟩:=k;have le:(I.erase p).length=cs.length:=by rw [Dh hp];omega
   refine M1 hI hp ho<|M3 cs _ _ (hI.erase p) le.symm ?_;rw [MU<|(Cy hp).map R] at h;have h:X (R p) (dt<|(I.erase p).map R) (c :: cs) % 2=0:=h;rw [<- MX (R p) (λi=>R i c) R (I.erase p)<|c :: cs] at h;have h:(R p c * dt ((I.erase p).map λi j=>R i j+R i c * R p j) cs - X (R p) (λl=>dt ((I.erase p).map λi j=>R i j+R i c * R p j)<|c :: l) cs) % 2=0:=h;have e2:X (R p) (λl=>dt ((I.erase p).map λi j=>R i j+R i c * R p j)<|c :: l) cs % 2=0:=DL cs _ λl mQ=>MV _ c l (λr hr=>by
    obtain⟨i,_,rfl⟩:=Aj.mp hr;show(R i c+R i c * R p c) % 2=0;have:(R i c * R p c) % 2=R i c % 2:=by rw [Ek,ho,Int.mul_one,Fz _<|RG 2]
    omega)<|by rw [Aa];omega
   have e3:(R p c * dt ((I.erase p).map λi j=>R i j+R i c * R p j) cs) % 2=dt ((I.erase p).map λi j=>R i j+R i c * R p j) cs % 2:=by rw [Ek,ho,Int.one_mul,Fz _<|RG 2]
   omega
  ·obtain⟨S,hS,hs⟩:=DM cs R I hI (by omega);refine⟨S,hS,λd hd=>?_⟩
   rcases Ai.mp hd with e | hd
   ·rw [e];refine wn S λi hi=>?_;have:¬ R i c % 2=1:=λz=>k ⟨i,hi,z⟩;omega
   ·exact hs d hd
theorem M4(R:ι->κ->Int)(S:ι->Bool)(f:List κ->Int)(cs:List κ):∀(I:List ι),X (sm R S I) f cs=(I.map λi=>if S i=true then X (R i) f cs else 0).sum
 | []=>pE (λ_ _=>rfl) _
 | i :: I=>by
  rw [Au,Bm,<- M4 R S f cs I];cases h:S i with
  | true=>
   rw [BL rfl,show sm R S (i :: I)=λj=>1 * R i j+1 * sm R S I j by funext j;rw [ke,h,BL rfl];omega,jr];omega
  | false=>
   rw [BJ Ar,show sm R S (i :: I)=sm R S I by funext j;rw [ke,h,BJ Ar];omega];omega
theorem YV{R:ι->κ->Int}{I:List ι}{cs:List κ}(hI:I.Nodup)(h:tu R I cs):dt (I.map R) cs % 2=0:=by
 obtain⟨S,⟨p,hp,sp⟩,hs⟩:=h;have pe:=Cy hp;rw [MU<|pe.map R];show X (R p) (dt<|(I.erase p).map R) cs % 2=0;have e:X (sm R S<|p :: I.erase p) (dt<|(I.erase p).map R) cs=X (R p) (dt<|(I.erase p).map R) cs:=by
  rw [M4,Au,Bm,sp,BL rfl];have:((I.erase p).map λi=>if S i=true then X (R i) (dt<|(I.erase p).map R) cs else 0)=(I.erase p).map λ_=>(0:Int):=Ay λi hi=>by
   rw [LV<|Aj.mpr ⟨i,hi,rfl⟩]
   split <;> rfl
  rw [this];have z:∀ l:List ι,(l.map λ_=>(0:Int)).sum=0:=λl=>by
   induction l with
   | nil=>rfl
   | cons a l ih=>rw [Au,Bm,ih];rfl
  rw [z];omega
 rw [<- e];refine MS cs _ λc hc=>?_;rw [<- MY R S pe];exact hs c hc
end Dt
namespace Nt
open PySem L2
theorem M5(x:Str):∀{sd:List Str},ia sd->∃ gR,ia gR/\∀ y,y∈gR↔y=x\/y∈sd
 | [],_=>⟨[x],MJ _ _,λy=>by simp⟩
 | a :: r,h=>by
  have h':=Cz.mp h
  by_cases q:x.cps.toList < a.cps.toList
  ·refine⟨x :: a :: r,Cz.mpr ⟨λy hy=>?_,h⟩,λy=>by simp⟩
   rcases Ai.mp hy with e | e
   ·rw [e];exact q
   ·exact Fw q<|h'.1 y e
  ·rcases List.le_iff_lt_or_eq.mp (List.not_lt.mp q) with q2 | q2
   ·obtain⟨gR,s1,s2⟩:=M5 x h'.2;refine⟨a :: gR,Cz.mpr ⟨λy hy=>?_,s1⟩,λy=>?_⟩
    ·rcases (s2 y).mp hy with e | e
     ·rw [e];exact q2
     ·exact h'.1 y e
    ·rw [Ai,s2,Ai]
     constructor
     ·rintro (e | e | e)
      ·exact .inr<|.inl e
      ·exact .inl e
      ·exact .inr<|.inr e
     ·rintro (e | e | e)
      ·exact .inr<|.inl e
      ·exact .inl e
      ·exact .inr<|.inr e
   ·refine⟨a :: r,h,λy=>?_⟩;have:a=x:=cb.f9 q2;subst this;simp
theorem M6:∀ L:List Str,∃ sd,ia sd/\∀ y,y∈sd↔y∈L
 | []=>⟨[],List.Pairwise.nil,λ_=>Iff.rfl⟩
 | x :: L=>by
  obtain⟨sd,h1,h2⟩:=M6 L;obtain⟨gR,h3,h4⟩:=M5 x h1;exact⟨gR,h3,λy=>by rw [h4,h2,Ai]⟩
theorem DS(z:Str):∀ L:List Str,decide (L.count z % 2=1)=az (L.map λy=>decide (z=y))
 | []=>rfl
 | y :: L=>by
  show _=(decide (z=y) ^^ az (L.map λy=>decide (z=y)));rw [<- DS z L,Cr]
  by_cases h:z=y
  ·subst h;rw [BW rfl,beq_self_eq_true,BL rfl,QT,<- decide_not];exact decide_eq_decide.mpr<|by omega
  ·rw [BR h,BJ λq=>h (eq_of_beq q).symm,Ge];rfl
theorem DT{α β:Type}(f:α->β->Bool)(M:List β):∀ L:List α,az (L.map λa=>az<|M.map λb=>f a b)=az (M.map λb=>az<|L.map λa=>f a b)
 | []=>(o9 M).symm
 | a :: L=>by
  show(az (M.map λb=>f a b) ^^ az (L.map λa=>az<|M.map λb=>f a b))=az (M.map λb=>f a b ^^ az (L.map λa=>f a b));rw [DT f M L,jj (λb=>f a b) λb=>az<|L.map λa=>f a b]
theorem map_range{α β:Type}(l:List α)(f:α->β)(g:Nat->β)(h:∀ k x,l[k]?=some x->g k=f x):l.map f=(List.range l.length).map g:=by
 apply Cv;intro k;rw [Ag,Ag]
 by_cases hk:k < l.length
 ·rw [Ab hk,Cc hk];exact BZ some (h k _<|Ab hk).symm
 ·rw [Bc (by omega),Bc<|by simp;omega];rfl
theorem YW{α:Type}(l:List α)(f g:α->Bool)(h:∀ k,k < l.length->∃ x y,l[k]?=some x/\l[(k+1) % l.length]?=some y/\g x=f y):az (l.map g)=az (l.map f):=by
 let F:Nat->Bool:=λk=>match l[k]? with | some x=>f x | none=>false
 have hf:l.map f=(List.range l.length).map F:=map_range l f F λk x hk=>by show(match l[k]? with | some x=>f x | none=>false)=_;rw [hk]
 have hg:l.map g=(List.range l.length).map λk=>F ((k+1) % l.length):=map_range l g _ λk x hk=>by
  obtain⟨x',y,h1,h2,h3⟩:=h k (Ac.mp hk).1;rw [hk] at h1;cases h1;show(match l[(k+1) % l.length]? with | some x=>f x | none=>false)=_;rw [h2];exact h3.symm
 rw [hf,hg,zb]
theorem DU(F:Nat->Bool):∀ m,(∀ i,i < m->F (2 * i+1)=F (2 * i))->az ((List.range<|2 * m).map F)=false
 | 0,_=>rfl
 | m+1,h=>by
  rw [show 2 * (m+1)=2 * m+1+1 by omega,Di,Di,Ah,Ah,nk,nk,DU F m λi hi=>h i<|by omega];show((false ^^ (F (2 * m) ^^ false)) ^^ (F (2 * m+1) ^^ false))=false;rw [h m<|by omega];cases F (2 * m) <;> rfl
theorem M7{n:Net}(T:aq n){e:End}(h:e∈ends n):step n (other n<|go (-1) n e)=other n e:=by
 have h1:=d6 (c:=-1) T h;obtain⟨z,hz⟩:=af.mp h1;show left n (other n<|other n<|go (-1) n e)=_;rw [(cF T hz).2.1,uJ h1];show cN 1 n (cN (-1) n<|other n e)=_;have:=kI (c:=-1)<|cG T h;rw [Int.neg_neg] at this;exact this
def fk(n:Net)(w:List End)(z:Str):Bool:=decide ((w.map<|av n).count z % 2=1)
theorem YX{n:Net}(T:aq n){w:List End}(W:iI n w):cU n (fk n w):=λr=>by
 have e1:(row n r).map (fk n w)=(row n r).map λz=>az (w.map λe=>decide (z=av n e)):=Ay λz _=>by
  unfold fk;rw [DS,Bi];rfl
 rw [e1,DT λz e=>decide (z=av n e)];have e2:(w.map λe=>az<|(row n r).map λz=>decide (z=av n e))=w.map λe=>(decide (r=e.1) ^^ decide (r=(other n e).1)):=Ay λe he=>by
  obtain⟨z,hz⟩:=af.mp<|W.ends e he;rw [cO hz];exact Kd T hz r
 rw [e2,jj (λe=>decide (r=e.1)) λe=>decide (r=(other n e).1)];rw [YW w (λe=>decide (r=e.1)) (λe=>decide (r=(other n e).1)) λk hk=>by
  obtain⟨c,h1,h2⟩:=W.at' k hk;exact⟨c,_,h1,h2,rfl⟩]
 cases az (w.map λe=>decide (r=e.1)) <;> rfl
theorem YY{n:Net}(T:aq n){w:List End}(W:iI n w){t:Str->Bool}{χ:End->Bool}(h:aT n t χ):az (w.map λe=>t<|av n e)=false:=by
 have e1:(w.map λe=>t<|av n e)=w.map λe=>(χ e ^^ χ (other n e)):=Ay λe he=>by
  obtain⟨z,hz⟩:=af.mp<|W.ends e he;rw [cO hz];exact h.cL e z hz
 rw [e1,jj χ λe=>χ<|other n e];obtain⟨m,hm⟩:∃ m,w.length=2 * m:=⟨w.length / 2,by have:=W.even;omega⟩;have a1:az (w.map χ)=false:=by
  let F:Nat->Bool:=λk=>match w[k]? with | some x=>χ x | none=>false
  rw [map_range w χ F λk x hk=>by show(match w[k]? with | some x=>χ x | none=>false)=_;rw [hk],hm];refine DU F m λi hi=>?_;obtain⟨c,h1,h2⟩:=W.at' (2 * i) (by omega);rw [Bs (by omega),show(1:Int) - 2 * (((2 * i:Nat):Int) % 2)=1 by omega] at h2;show(match w[2 * i+1]? with | some x=>χ x | none=>false)=(match w[2 * i]? with | some x=>χ x | none=>false);rw [h1,h2];have hc:=W.ends c<|At h1;show χ (go 1 n c)=χ c;rw [<- uK T hc];exact h.go c hc
 have a2:az (w.map λe=>χ<|other n e)=false:=by
  let F:Nat->Bool:=λk=>match w[k]? with | some x=>χ (other n x) | none=>false
  rw [map_range w (λe=>χ<|other n e) F λk x hk=>by show(match w[k]? with | some x=>χ (other n x) | none=>false)=_;rw [hk],<- zb F,hm];refine DU (λp=>F<|(p+1) % (2 * m)) m λi hi=>?_;obtain⟨c,h1,h2⟩:=W.at' (2 * i+1) (by omega);rw [hm,show(1:Int) - 2 * (((2 * i+1:Nat):Int) % 2)=-1 by omega] at h2;show(match w[(2 * i+1+1) % (2 * m)]? with | some x=>χ (other n x) | none=>false)=(match w[(2 * i+1) % (2 * m)]? with | some x=>χ (other n x) | none=>false);rw [h2,Bs (show 2 * i+1 < 2 * m by omega),h1];have hc:=W.ends c<|At h1;show χ (other n<|go (-1) n c)=χ (other n c);rw [<- M7 T hc];exact(h.go _<|cG T<|d6 T hc).symm
 rw [a1,a2];rfl
def bS(zs:List Str)(t s:Str->Bool):Bool:=az<|zs.map λz=>t z && s z
theorem M8(zs:List Str)(t u s:Str->Bool):bS zs (λz=>t z ^^ u z) s=(bS zs t s ^^ bS zs u s):=by
 unfold bS;rw [<- jj (λz=>t z && s z) λz=>u z && s z]
 congr 1
 refine Ay λz _=>?_;show((t z ^^ u z) && s z)=_;cases t z <;> cases u z <;> cases s z <;> rfl
theorem DV{s:Str->Bool}{y:Str}:∀{zs:List Str},zs.Nodup->y∈zs->bS zs (λz=>decide (z=y)) s=s y
 | z :: zs,hn,hy=>by
  have hn:=Bd.mp hn;show((decide (z=y) && s z) ^^ bS zs (λz=>decide (z=y)) s)=s y
  by_cases h:z=y
  ·subst h;have:bS zs (λx=>decide (x=z)) s=false:=by
    unfold bS;have e:(zs.map λx=>decide (x=z) && s x)=zs.map λ_=>false:=Ay λx hx=>by
     have ne:¬ x=z:=λq=>hn.1<|q ▸ hx;rw [BR ne];rfl
    rw [e,o9]
   rw [this,BW rfl];cases s z <;> rfl
  ·rw [BR h,DV hn.2<|(Ai.mp hy).resolve_left<|CG h];cases s y <;> rfl
theorem YZ{n:Net}{zs:List Str}(hz:zs.Nodup){t:Str->Bool}:∀{L:List Str},(∀ y∈L,y∈zs)->bS zs t (λz=>decide (L.count z % 2=1))=az (L.map t)
 | L,hL=>by
  unfold bS;have e:(zs.map λz=>t z && decide (L.count z % 2=1))=zs.map λz=>az (L.map λy=>t z && decide (z=y)):=Ay λz _=>by
   rw [DS];cases t z
   ·show false=az (L.map λ_=>false);rw [o9]
   ·rfl
  rw [e,DT λz y=>t z && decide (z=y)]
  congr 1
  refine Ay λy hy=>?_;have:=DV (s:=t) hz<|hL y hy;rw [<- this];unfold bS
  congr 1
  refine Ay λz _=>?_;rw [Bool.and_comm]
theorem M9{n:Net}(T:aq n)(hN:(n.map (·.1)).Nodup){ss zs:List Str}(hz:zs.Nodup)(hm:∀ z,z∈zs↔z∈ag n){x:Str}{b:Bool}(h:Way (dq n ss) (b6 n) x b) :
  ∃ t:Str->Bool,(∀ r,r < n.length->az ((row n r).map t)=(decide (aM n r=b6 n) ^^ decide (aM n r=x)))/\bS zs t (λz=>decide (z∈ss))=b:=by
 have add:∀{x y:Str} {o b:Bool},(∃ e z,aJ n e=some z/\((x=aM n e.1/\y=aM n (other n e).1)\/(y=aM n e.1/\x=aM n (other n e).1))/\o=decide (z∈ss))->(∃ t:Str->Bool,(∀ r,r < n.length->az ((row n r).map t)=(decide (aM n r=b6 n) ^^ decide (aM n r=x)))/\bS zs t (λz=>decide (z∈ss))=b) ->
   ∃ t:Str->Bool,(∀ r,r < n.length->az ((row n r).map t)=(decide (aM n r=b6 n) ^^ decide (aM n r=y)))/\bS zs t (λz=>decide (z∈ss))=(b != o):=by
  rintro x y o b ⟨e,z,gy,Js,rfl⟩ ⟨t,h1,h2⟩;refine⟨λu=>t u ^^ decide (u=z),λr hr=>?_,?_⟩
  ·rw [jj t λu=>decide (u=z),h1 r hr,Kd T gy r];have e1:∀ i,i < n.length->decide (r=i)=decide (aM n r=aM n i):=λi hi=>decide_eq_decide.mpr ⟨λq=>by rw [q],λq=>J9 hN hr hi q⟩;rw [e1 _<|cT gy,e1 _<|J8 T gy]
   rcases Js with ⟨a1,a2⟩ | ⟨a1,a2⟩
   ·rw [<- a1,<- a2];cases decide (aM n r=b6 n) <;> cases decide (aM n r=x) <;> cases decide (aM n r=y) <;> rfl
   ·rw [<- a1,<- a2];cases decide (aM n r=b6 n) <;> cases decide (aM n r=x) <;> cases decide (aM n r=y) <;> rfl
  ·rw [M8,h2,DV hz<|(hm z).mpr<|di gy]
 have lk:∀{x y:Str} {o:Bool},(x,y,o)∈dq n ss->∃ e z,aJ n e=some z/\((x=aM n e.1/\y=aM n (other n e).1))/\o=decide (z∈ss):=λ{x y o} hm=>by
  obtain⟨e,z,h1,h2⟩:=(J7 (n:=n) (ss:=ss)).VD _ hm;exact⟨e,z,h1,⟨BZ (·.1) h2,BZ (·.2.1) h2⟩,BZ (·.2.2) h2⟩
 induction h with
 | here=>exact⟨λ_=>false,λr _=>by rw [o9];cases decide (aM n r=b6 n) <;> rfl,by unfold bS;exact o9 zs⟩
 | there _ ht ih=>
  obtain⟨e,z,h1,h2,h3⟩:=lk ht;exact add ⟨e,z,h1,.inl h2,h3⟩ ih
 | back _ ht ih=>
  obtain⟨e,z,h1,h2,h3⟩:=lk ht;exact add ⟨e,z,h1,.inr ⟨h2.1,h2.2⟩,h3⟩ ih
theorem Y0{n:Net}(T:aq n)(hg:cV n)(hN:(n.map (·.1)).Nodup)(h0:0 < n.length){ss zs:List Str}(hz:zs.Nodup)(hm:∀ z,z∈zs↔z∈ag n)(hs:∀ z∈ss,z∈ag n)(DZ:∀ t,cU n t->bS zs t (λz=>decide (z∈ss))=false):∃ sd,iR n ss sd:=by
 classical
 have uniq:∀{x b c},Way (dq n ss) (b6 n) x b->Way (dq n ss) (b6 n) x c->b=c:=λ{x b c} h1 h2=>by
  obtain⟨t,t1,t2⟩:=M9 T hN hz hm h1;obtain⟨u,u1,u2⟩:=M9 T hN hz hm h2;have:=DZ (λz=>t z ^^ u z) λr=>by
   by_cases hr:r < n.length
   ·rw [jj t u,t1 r hr,u1 r hr];cases decide (aM n r=b6 n) <;> cases decide (aM n r=x) <;> rfl
   ·have:row n r=[]:=by
     unfold row;rw [Bc<|by omega];rfl
    rw [this];rfl
  rw [M8,t2,u2] at this;cases b <;> cases c <;> first | rfl | cases this
 have next:∀{e:End} {z:Str} {b:Bool},aJ n e=some z->Way (dq n ss) (b6 n) (aM n e.1) b->Way (dq n ss) (b6 n) (aM n (other n e).1) (b != decide (z∈ss)):=λ{e z b} he h=>by
  rcases (J7 (n:=n) (ss:=ss)).to e z he with t | t
  ·exact .there h t
  ·exact .back h t
 have all:∀ r,r < n.length->∃ b,Way (dq n ss) (b6 n) (aM n r) b:=λr hr=>by
  have:=hg (λx=>∃ b,Way (dq n ss) (b6 n) x b) ⟨n[0],Bn h0,false,by rw [<- fC h0];exact .here⟩ (λr hr s fK t tr ts ⟨b,hb⟩=>?_) n[r]<|Bn hr
  ·rw [<- fC hr] at this;exact this
  ·obtain⟨i,hi,rfl⟩:=Ce.mp hr;obtain⟨j,hj,rfl⟩:=Ce.mp fK;obtain⟨p,hp⟩:=Ba tr;obtain⟨q,hq⟩:=Ba ts;have h1:aJ n (i,p)=some t:=by show(row n i)[p]?=_;rw [jg hi];exact hp
   have h2:aJ n (j,q)=some t:=by show(row n j)[q]?=_;rw [jg hj];exact hq
   rcases (o8 T h1).mp h2 with e | e
   ·have:j=i:=BZ (·.1) e;subst this;exact⟨b,hb⟩
   ·rw [<- fC hi] at hb;have:=next h1 hb;rw [<- e] at this;exact⟨_,by rw [<- fC hj];exact this⟩
 obtain⟨sd,h1,h2⟩:=M6<|((List.range n.length).filter λ(r:Nat)=>decide (Way (dq n ss) (b6 n) (aM n r) true)).map<|aM n;have mem:∀ r,r < n.length->∀ b,Way (dq n ss) (b6 n) (aM n r) b->decide (aM n r∈sd)=b:=λr hr b hb=>by
  have:aM n r∈sd↔b=true:=by
   rw [h2,Aj]
   constructor
   ·rintro ⟨i,hi,e⟩;rw [Da,Ca] at hi;have:=J9 hN hi.1 hr e;subst this;exact uniq hb<|BX hi.2
   ·intro e;subst e;exact⟨r,Da.mpr ⟨Ca.mpr hr,BW hb⟩,rfl⟩
  by_cases q:b=true
  ·rw [q];exact BW<|this.mpr q
  ·rw [Bool.not_eq_true] at q;rw [q];exact BR λk=>by rw [this.mp k] at q;cases q
 refine⟨sd,h1,λx hx=>?_,λhx=>?_,λz=>?_⟩
 ·obtain⟨i,hi,rfl⟩:=Aj.mp<|(h2 x).mp hx;exact rA<|Ca.mp (Da.mp hi).1
 ·have:=mem 0 h0 false .here;exact absurd hx<|GQ this
 ·by_cases gy:z∈ag n
  ·obtain⟨p,hp⟩:∃ p,p∈pos n z:=by
    have:pos n z≠[]:=λq=>by have:=jK n z;rw [q,T z gy] at this;cases this
    exact Do _ this
   have he:=aF.mp hp;obtain⟨b,hb⟩:=all p.1<|cT he;have hc:=next he hb;rw [J6 T he,mem _ (cT he) b hb,mem _ (J8 T he) _ hc]
   constructor
   ·intro h;rw [BW h];cases b <;> rfl
   ·intro h;refine CN λk=>?_;rw [BR k] at h;cases b <;> cases h
  ·exact⟨λh=>absurd (hs z h) gy,λh=>absurd (VC h) gy⟩
theorem D0{n:Net}(T:aq n){e:End}(h:e∈ends n):two n (other n<|two n e)=other n e:=by
 have g1:=d6 (c:=1) T h;have h2:=jO T h;obtain⟨z,hz⟩:=af.mp h2;obtain⟨y,hy⟩:=af.mp g1;have e1:go 1 n (other n<|two n e)=other n (go 1 n e):=by
  show cN 1 n (other n<|other n<|two n e)=_;rw [(cF T hz).2.1];show cN 1 n (cN (-1) n<|other n<|go 1 n e)=_;have:=kI (c:=-1)<|cG T g1;rw [Int.neg_neg] at this;exact this
 show go (-1) n (go 1 n<|other n<|two n e)=_;rw [e1];show cN (-1) n (other n<|other n<|go 1 n e)=_;rw [(cF T hy).2.1];exact kI<|cG T h
theorem gC{n:Net}(T:aq n){e:End}(h:e∈ends n)(k:Nat):it (two n) k e∈ends n:=hU (λa ha=>jO T ha) h k
theorem Nb{α:Type}(f:α->α)(a:α):∀ k,it f k (f a)=it f (k+1) a
 | 0=>rfl
 | k+1=>by show f (it f k<|f a)=f (it f (k+1) a);rw [Nb f a k]
theorem pL{α:Type}(f:α->α)(a:α)(i:Nat):∀ j,it f (i+j) a=it f j (it f i a)
 | 0=>rfl
 | j+1=>by show f (it f (i+j) a)=f (it f j<|it f i a);rw [pL f a i j]
theorem Y1{n:Net}(T:aq n){e:End}(h:e∈ends n):two n e≠other n e:=λq=>by
 have g1:=d6 (c:=1) T h;obtain⟨y,hy⟩:=af.mp g1;have h1:cN (-1) n (go 1 n e)=other n e:=kI<|cG T h;have h2:cN (-1) n (other n<|go 1 n e)=other n e:=q;exact(cF T hy).2.2<|Jr (c:=-1) (cG T g1) g1<|h2.trans h1.symm
theorem Nc{n:Net}(T:aq n):∀(k:Nat) {e:End},e∈ends n->it (two n) k e≠other n e
 | 0,e,h=>λq=>by
  obtain⟨z,hz⟩:=af.mp h;exact(cF T hz).2.2 q.symm
 | 1,e,h=>Y1 T h
 | k+2,e,h=>λq=>by
  have e1:two n (it (two n) (k+1) e)=two n (other n<|two n e):=by rw [D0 T h];exact q
  have e2:=ra T (gC T h<|k+1) (cG T<|jO T h) e1;rw [<- Nb] at e2;exact Nc T k (jO T h) e2
theorem pM{n:Net}(T:aq n){a b:End}(ha:a∈ends n)(hb:b∈ends n)(h:av n a=av n b):b=a\/b=other n a:=by
 obtain⟨z,hz⟩:=af.mp ha;obtain⟨y,hy⟩:=af.mp hb;rw [cO hz,cO hy] at h;subst h;exact(o8 T hz).mp hy
theorem Y2{n:Net}(T:aq n){e:End}(h:e∈ends n){k:Nat}(p:gg n e k){i j:Nat}(c7:i < j)(hj:j < k):it (two n) i e≠it (two n) j e:=λq=>by
 have inj:∀(m:Nat) {a b:End},a∈ends n->b∈ends n->it (two n) m a=it (two n) m b->a=b:=λm=>by
  induction m with
  | zero=>intro a b _ _ q;exact q
  | succ m ih=>intro a b ha hb q;exact ih ha hb<|ra T (gC T ha m) (gC T hb m) q
 have e1:it (two n) j e=it (two n) i (it (two n) (j - i) e):=by rw [<- pL,show j - i+i=j by omega]
 rw [e1] at q;have:=inj i h (gC T h _) q;exact p.first (j - i) (by omega) (by omega) this.symm
theorem Y4{n:Net}(T:aq n){e:End}(h:e∈ends n){k:Nat}(p:gg n e k){i j:Nat}(c7:i < j)(hj:j < k):av n (it (two n) i e)≠av n (it (two n) j e):=λq=>by
 rcases pM T (gC T h i) (gC T h j) q with c | c
 ·exact Y2 T h p c7 hj c.symm
 ·rw [show j=i+(j - i) by omega,pL] at c;exact Nc T (j - i) (gC T h i) c
theorem Y5{n:Net}(T:aq n){x y:End}(hx:x∈ends n)(hy:y∈ends n)(q:av n (go 1 n x)=av n (go 1 n y)):x=y\/two n y=other n x:=by
 have g1:=d6 (c:=1) T hx
 rcases pM T g1 (d6 (c:=1) T hy) q with c | c
 ·exact .inl (go_inj T hy hx c).symm
 ·refine .inr ?_;obtain⟨z,hz⟩:=af.mp g1;show go (-1) n (go 1 n y)=_;rw [c];show cN (-1) n (other n<|other n<|go 1 n x)=_;rw [(cF T hz).2.1];exact kI<|cG T hx
theorem Nf(n:Net)(e:End):∀ k,((wk n e k).map<|av n).Perm<|((List.range k).map λi=>av n<|it (two n) i e)++(List.range k).map λi=>av n<|go 1 n<|it (two n) i e
 | 0=>List.Perm.refl _
 | k+1=>by
  rw [Di,Ah,Ah];show((wk n e k++[it (two n) k e,go 1 n<|it (two n) k e]).map<|av n).Perm _;rw [Ah];refine((Nf n e k).append_right _).trans ?_;generalize ((List.range k).map λi=>av n<|it (two n) i e)=A;generalize ((List.range k).map λi=>av n<|go 1 n<|it (two n) i e)=B;show(A++B++[av n<|it (two n) k e,av n<|go 1 n<|it (two n) k e]).Perm ((A++[av n<|it (two n) k e])++(B++[av n<|go 1 n<|it (two n) k e]));rw [Ao,Ao];refine QL A ?_;show(B++([av n<|it (two n) k e]++[av n<|go 1 n<|it (two n) k e])).Perm ([av n<|it (two n) k e]++(B++[av n<|go 1 n<|it (two n) k e]));rw [<- Ao,<- Ao];exact QB _ Bx
noncomputable def cD(n:Net)(e:End):List End:=ah<|walker n e
theorem tD{n:Net}{e:End}{k:Nat}(p:gg n e k):cD n e=(List.range k).map λi=>it (two n) i e:=by
 unfold cD walker;rw [rg p,Uw]
theorem Ng{n:Net}{e:End}{k:Nat}(h:it (two n) k e=e):∀ m,it (two n) (k * m) e=e
 | 0=>rfl
 | m+1=>by rw [Nat.mul_succ,Nat.add_comm,pL,h,Ng h m]
theorem ii{n:Net}(T:aq n){e:End}(h:e∈ends n){x:End}:x∈cD n e↔∃ i,it (two n) i e=x:=by
 obtain⟨k,p,_⟩:=nh T h;rw [tD p,Aj]
 constructor
 ·rintro ⟨i,_,q⟩;exact⟨i,q⟩
 ·rintro ⟨i,q⟩;have p0:=p.pos;refine⟨i % k,Ca.mpr<|Nat.mod_lt _ p0,?_⟩;rw [<- q];have:=Nat.div_add_mod i k
  conv=>rhs;rw [<- this]
  rw [pL,Ng p.back]
theorem pN{n:Net}(T:aq n){e:End}(h:e∈ends n):∀ x∈cD n e,x∈ends n:=λx hx=>by
 obtain⟨i,q⟩:=(ii T h).mp hx;rw [<- q];exact gC T h i
theorem D1{n:Net}(T:aq n){e:End}(h:e∈ends n){x:End}(hx:x∈cD n e):∃ y∈cD n e,two n y=x:=by
 obtain⟨i,q⟩:=(ii T h).mp hx;obtain⟨k,p,_⟩:=nh T h;have p0:=p.pos;refine⟨it (two n) (i+k - 1) e,(ii T h).mpr ⟨_,rfl⟩,?_⟩;show it (two n) (i+k - 1+1) e=x;rw [show i+k - 1+1=k+i by omega,pL,p.back,q]
theorem D4{n:Net}(T:aq n){e:End}(h:e∈ends n){x:End}(hx:x∈cD n e):two n x∈cD n e:=by
 obtain⟨i,q⟩:=(ii T h).mp hx;exact(ii T h).mpr ⟨i+1,by rw [<- q];rfl⟩
theorem Nh{n:Net}(T:aq n){e:End}(h:e∈ends n){x:End}(hx:x∈ends n):av n x∈(cD n e).map (av n)↔x∈cD n e\/other n x∈cD n e:=by
 rw [Aj]
 constructor
 ·rintro ⟨y,hy,q⟩
  rcases pM T hx (pN T h y hy) q.symm with c | c
  ·exact .inl<|c ▸ hy
  ·exact .inr<|c ▸ hy
 ·rintro (c | c)
  ·exact⟨x,c,rfl⟩
  ·refine⟨_,c,?_⟩;obtain⟨z,hz⟩:=af.mp hx;rw [cO hz,cO (cF T hz).1]
theorem Ni{n:Net}(T:aq n){e:End}(h:e∈ends n):other n (other n e)=e:=by
 obtain⟨z,hz⟩:=af.mp h;exact(cF T hz).2.1
def oi(n:Net)(told:List Str):Prop:=∀ x∈ends n,(av n (two n x)∈told↔av n x∈told)
theorem D5{n:Net}(T:aq n){told:List Str}(C:oi n told){e:End}(h:e∈ends n):∀ i,av n (it (two n) i e)∈told↔av n e∈told
 | 0=>Iff.rfl
 | i+1=>(C _<|gC T h i).trans<|D5 T C h i
theorem Nj{n:Net}(T:aq n){e:End}(h:e∈ends n):oi n ((cD n e).map<|av n):=λx hx=>by
 rw [Nh T h<|jO T hx,Nh T h hx]
 constructor
 ·rintro (c | c)
  ·obtain⟨y,hy,q⟩:=D1 T h c;exact .inl<|ra T (pN T h y hy) hx q ▸ hy
  ·have:=D4 T h c;rw [D0 T hx] at this;exact .inr this
 ·rintro (c | c)
  ·exact .inl<|D4 T h c
  ·obtain⟨y,hy,q⟩:=D1 T h c;have pO:=pN T h y hy;have e1:two n x=other n y:=by
    rw [<- Ni T hx,<- q,D0 T pO]
   exact .inr<|by rw [e1,Ni T pO];exact hy
structure lz(n:Net)(es:List End)(told:List Str)(ws:List<|List End):Prop where
 nd:((ws.flatMap ah).map<|av n).Nodup
 new:∀ x∈ws.flatMap ah,x∈ends n/\av n x∉told
 cov:∀ e∈es,av n e∈told\/av n e∈(ws.flatMap ah).map (av n)
 wk:∀ w∈ws,∃ e,e∈ends n/\w=walker n e
theorem wo{n:Net}(T:aq n):∀(es:List End) (told:List Str),(∀ e∈es,e∈ends n)->oi n told->lz n es told (cK n es told)
 | [],told,_,_=>by
  unfold cK;exact⟨Cf,λx hx=>(nomatch hx),λe he=>(nomatch he),λw hw=>(nomatch hw)⟩
 | e :: r,told,he,C=>by
  have h:=he e<|Ad ..;unfold cK
  by_cases q:av n e∈told
  ·rw [BL q];have I:=wo T r told (λa ha=>he a<|Ae _ ha) C;refine⟨I.nd,I.new,λa ha=>?_,I.wk⟩
   rcases Ai.mp ha with rfl | ha
   ·exact .inl q
   ·exact I.cov a ha
  ·rw [BJ q];have C':oi n (told++(ah<|walker n e).map (av n)):=λx hx=>by
    rw [Aq,Aq];exact or_congr (C x hx)<|Nj T h x hx
   have I:=wo T r _ (λa ha=>he a<|Ae _ ha) C';have fresh:∀ x∈cD n e,x∈ends n/\av n x∉told:=λx hx=>by
    obtain⟨i,k⟩:=(ii T h).mp hx;refine⟨pN T h x hx,λz=>q ?_⟩;rw [<- k] at z;exact(D5 T C h i).mp z
   refine⟨?_,λx hx=>?_,λa ha=>?_,λw hw=>?_⟩
   ·rw [Bt,Ah,Bu];refine⟨?_,I.nd,λa ha b hb k=>?_⟩
    ·obtain⟨k,p,_⟩:=nh T h;show((cD n e).map<|av n).Nodup;rw [tD p,Bi,Cb,Fc,Bp];intro i j hi hj c7;rw [Fp,Fp];rw [Ci] at hj;exact Y4 T h p c7 hj
    ·subst k;obtain⟨x,hx,rfl⟩:=Aj.mp hb;exact(I.new x hx).2<|Ap _ ha
   ·rw [Bt] at hx
    rcases Aq.mp hx with k | k
    ·exact fresh x k
    ·exact⟨(I.new x k).1,λz=>(I.new x k).2<|Aw _ z⟩
   ·rw [Bt,Ah]
    rcases Ai.mp ha with rfl | ha
    ·exact .inr<|Aw _<|Aj.mpr ⟨a,(ii T h).mpr ⟨0,rfl⟩,rfl⟩
    ·rcases I.cov a ha with k | k
     ·rcases Aq.mp k with k | k
      ·exact .inl k
      ·exact .inr<|Aw _ k
     ·exact .inr<|Ap _ k
   ·rcases Ai.mp hw with rfl | hw
    ·exact⟨e,h,rfl⟩
    ·exact I.wk w hw
theorem Nk{n:Net}(T:aq n){e:End}(h:e∈ends n):((walker n e).map<|av n).Perm ((cD n e).map (av n)++(cD n e).map λx=>av n<|go 1 n x):=by
 obtain⟨k,p,_⟩:=nh T h;rw [tD p,Bi,Bi];unfold walker;rw [rg p];exact Nf n e k
theorem Nm{n:Net}(T:aq n):∀{ws:List (List End)},(∀ w∈ws,∃ e,e∈ends n/\w=walker n e)->(ws.flatMap λw=>w.map<|av n).Perm ((ws.flatMap ah).map (av n)++(ws.flatMap ah).map λx=>av n<|go 1 n x)
 | [],_=>List.Perm.refl _
 | w :: ws,h=>by
  obtain⟨e,he,rfl⟩:=h w<|Ad ..;have I:=Nm T (ws:=ws) λw hw=>h w<|Ae _ hw;rw [Bt,Bt,Ah,Ah];refine((Nk T he).append I).trans ?_;show(((cD n e).map (av n)++(cD n e).map λx=>av n<|go 1 n x)++_).Perm (((cD n e).map (av n)++_)++((cD n e).map (λx=>av n<|go 1 n x)++_));generalize (cD n e).map (av n)=A;generalize ((cD n e).map λx=>av n<|go 1 n x)=B;generalize (ws.flatMap ah).map (av n)=D;generalize ((ws.flatMap ah).map λx=>av n<|go 1 n x)=F;rw [Ao,Ao];refine QL A ?_;rw [<- Ao,<- Ao];exact QB _ Bx
noncomputable abbrev bf(n:Net):List (List End):=cK n (ends n) []
theorem D6(n:Net):oi n []:=λx _=>by simp
theorem oj{n:Net}(T:aq n):lz n (ends n) [] (bf n):=wo T (ends n) [] (λ_ h=>h)<|D6 n
theorem D7{n:Net}(T:aq n){z:Str}(hz:z∈ag n):(((bf n).flatMap ah).map<|av n).count z=1:=by
 have I:=oj T;rw [List.Nodup.count I.nd,BL];have:pos n z≠[]:=λq=>by have:=jK n z;rw [q,T z hz] at this;cases this
 obtain⟨p,hp⟩:=Do _ this;have hp:=aF.mp hp;have:=I.cov p<|af.mpr ⟨z,hp⟩;rw [cO hp] at this
 rcases this with k | k
 ·cases k
 ·exact k
theorem Y6{n:Net}(T:aq n){x:End}(hx:x∈(bf n).flatMap ah):two n x∈(bf n).flatMap ah:=by
 obtain⟨w,hw,hx⟩:=Fk.mp hx;obtain⟨e,he,rfl⟩:=(oj T).wk w hw;exact Fk.mpr ⟨_,hw,D4 T he hx⟩
theorem Nn{α β:Type}{f:α->β}:∀{l:List α},l.Nodup->(∀ a∈l,∀ b∈l,f a=f b->a=b)->(l.map f).Nodup
 | [],_,_=>Cf
 | a :: l,h,inj=>by
  have h:=Bd.mp h;refine Bd.mpr ⟨λhm=>?_,Nn h.2 λx hx y hy=>inj x (Ae _ hx) y<|Ae _ hy⟩;obtain⟨b,hb,q⟩:=Aj.mp hm;have:=inj a (Ad ..) b (Ae _ hb) q.symm;exact h.1<|this ▸ hb
theorem wq{α β:Type}{f:α->β}:∀{l:List α},(l.map f).Nodup->∀ a∈l,∀ b∈l,f a=f b->a=b
 | c :: l,h,a,ha,b,hb,q=>by
  rw [Au,Bd] at h
  rcases Ai.mp ha with ea | vg
  ·rcases Ai.mp hb with eb | kH
   ·rw [ea,eb]
   ·exact absurd (Aj.mpr ⟨b,kH,by rw [<- q,ea]⟩) h.1
  ·rcases Ai.mp hb with eb | kH
   ·exact absurd (Aj.mpr ⟨a,vg,by rw [q,eb]⟩) h.1
   ·exact wq h.2 a vg b kH q
theorem Np{α β:Type}{f:α->β}:∀{l:List α},(l.map f).Nodup->l.Nodup
 | [],_=>Cf
 | a :: l,h=>by
  rw [Au,Bd] at h;exact Bd.mpr ⟨λk=>h.1<|Aj.mpr ⟨a,k,rfl⟩,Np h.2⟩
theorem Nq{n:Net}(T:aq n):(((bf n).flatMap ah).map λx=>av n<|go 1 n x).Perm (((bf n).flatMap ah).map<|av n):=by
 have I:=oj T;refine rp (Nn (Np I.nd) λx hx y hy q=>?_) (λz hz=>?_)<|by rw [Aa,Aa];exact Al _
 ·have iy:=(I.new x hx).1;have pO:=(I.new y hy).1
  rcases Y5 T iy pO q with c | c
  ·exact c
  ·exfalso
   have t:av n (two n y)=av n x:=by
    obtain⟨z,hz⟩:=af.mp iy;rw [c,cO hz,cO (cF T hz).1]
   have:=wq I.nd _ (Y6 T hy) x hx t;obtain⟨z,hz⟩:=af.mp iy;exact(cF T hz).2.2<|c.symm.trans this
 ·obtain⟨x,hx,rfl⟩:=Aj.mp hz;obtain⟨y,hy⟩:=af.mp<|d6 (c:=1) T (I.new x hx).1;rw [cO hy];refine Cq.mp ?_;rw [D7 T<|di hy];exact Fg
theorem Y7{n:Net}(T:aq n){z:Str}(hz:z∈ag n):((bf n).flatMap λw=>w.map<|av n).count z=2:=by
 rw [(Nm T (oj T).wk).count_eq,Eh,(Nq T).count_eq,D7 T hz]
theorem Nr(n:Net)(z:Str):∀ ws:List<|List End,(ws.flatMap λw=>w.map<|av n).count z=(ws.map λw=>(w.map<|av n).count z).sum
 | []=>rfl
 | w :: ws=>by rw [Bt,Eh,Nr n z ws];rfl
theorem Nu:∀(l:List Nat) (x:Nat),x∈l->x<=l.sum
 | y :: l,x,h=>by
  rw [Bm]
  rcases Ai.mp h with rfl | h
  ·omega
  ·have:=Nu l x h;omega
theorem Y8{n:Net}(T:aq n){z:Str}(hz:z∈ag n){w:List End}(hw:w∈bf n):(w.map<|av n).count z<=2:=by
 have h:=Y7 T hz;rw [Nr] at h;have:=Nu ((bf n).map λw=>(w.map<|av n).count z) _<|Aj.mpr ⟨w,hw,rfl⟩;omega
theorem Y9{n:Net}{w:List End}{ss:List Str}(hw:∀ c∈w,c∈ends n)(h:∀ z,z∈ss↔(w.map<|av n).count z=1):∀ z∈ss,z∈ag n:=λz hz=>by
 have:=Cq.mp (by rw [(h z).mp hz];exact Fg);obtain⟨e,he,rfl⟩:=Aj.mp this;obtain⟨y,hy⟩:=af.mp<|hw e he;rw [cO hy];exact di hy
theorem D8{n:Net}(T:aq n){w:List End}(hw:w∈bf n){ss:List Str}(h:∀ z,z∈ss↔(w.map<|av n).count z=1){z:Str}(hz:z∈ag n):decide (z∈ss)=fk n w z:=by
 have:=Y8 T hz hw;unfold fk;refine decide_eq_decide.mpr<|(h z).trans ?_;omega
theorem Y'{n:Net}(T:aq n){w:List End}(hw:w∈bf n){ss:List Str}(h:∀ z,z∈ss↔(w.map<|av n).count z=1):rz n ss=true:=by
 refine VO (YX T<|rk T (ends n) [] (λ_ h=>h) w hw) λz hz=>?_;rw [<- D8 T hw h hz]
 by_cases k:z∈ss
 ·rw [BW k];exact Dc.mpr k
 ·rw [BR k];exact Fb.mpr λq=>k<|Dc.mp q
theorem Za{n:Net}(T:aq n)(hf:HF n)(hN:(n.map (·.1)).Nodup)(h0:0 < n.length){w:List End}(hw:w∈bf n){ss:List Str}(h:∀ z,z∈ss↔(w.map<|av n).count z=1):∃ sd,iR n ss sd:=by
 have W:=rk T (ends n) [] (λ_ h=>h) w hw;have Zb:=Y9 W.ends h;obtain⟨zs,sz,mz⟩:=zu<|ag n;refine Y0 T hf.1 hN h0 (zi sz) mz Zb λt ht=>?_;obtain⟨χ,hχ⟩:=hf.2.2 t ht;have:=YY T W hχ;have e:bS zs t (λz=>decide (z∈ss))=bS zs t (λz=>decide ((w.map<|av n).count z % 2=1)):=by
  unfold bS
  congr 1
  refine Ay λz hz=>?_;show(t z && decide (z∈ss))=(t z && decide ((w.map<|av n).count z % 2=1));rw [D8 T hw h<|(mz z).mp hz];rfl
 rw [e,YZ (n:=n) (zi sz) λy hy=>?_]
 ·rw [Bi];exact this
 ·obtain⟨x,hx,rfl⟩:=Aj.mp hy;obtain⟨y,hy⟩:=af.mp<|W.ends x hx;rw [cO hy];exact(mz y).mpr<|di hy
open Classical
def eI{α:Type}(k:Nat)(w:List α):List α:=ah<|w.drop k
def cW(k:Nat):Nat->List (List End)->List (Nat×End)
 | _,[]=>[]
 | m,w :: ws=>((eI k w).map λe=>(m,e))++cW k (m+1) ws
def cX(k:Nat)(ws:List<|List End):List (Nat×End):=cW k 0 ws
theorem Nv(k:Nat):∀(m:Nat) (ws:List<|List End),(cW k m ws).map (·.2)=ws.flatMap (eI k)
 | m,[]=>rfl
 | m,w :: ws=>by
  unfold cW;rw [Ah,Nv k (m+1) ws,Bi,Bt]
  congr 1
  exact List.map_id' _
theorem wt{n:Net}{e:End}:eI 1 (walker n e)=(ah<|walker n e).map (go 1 n):=by
 unfold walker eI;have l:=mW n e<|rd n e;apply Cv;intro i;rw [Ag,mU,mU,Fr]
 by_cases h:i < rd n e
 ·rw [show 1+2 * i=2 * i+1 by omega,uL n e _ i h,mX n e _ i h];rfl
 ·rw [Bc (by omega),Bc<|by omega];rfl
theorem Nw{n:Net}:∀{ws:List (List End)},(∀ w∈ws,∃ e,e∈ends n/\w=walker n e)->ws.flatMap (eI 1)=(ws.flatMap ah).map (go 1 n)
 | [],_=>rfl
 | w :: ws,h=>by
  obtain⟨e,_,rfl⟩:=h w<|Ad ..;rw [Bt,Bt,Ah,wt,Nw λv hv=>h v<|Ae _ hv]
theorem Nx{n:Net}(T:aq n){k:Nat}(hk:k<=1):((cX k<|bf n).map λp=>av n p.2).Perm (((bf n).flatMap ah).map<|av n):=by
 have e:((cX k<|bf n).map λp=>av n p.2)=((bf n).flatMap<|eI k).map (av n):=by
  unfold cX;rw [<- Nv k 0<|bf n,Bi];rfl
 rw [e]
 match k,hk with
 | 0,_=>exact List.Perm.refl _
 | 1,_=>
  rw [Nw (oj T).wk,Bi];exact Nq T
theorem D9{n:Net}(T:aq n){k:Nat}(hk:k<=1):((cX k<|bf n).map λp=>av n p.2).Nodup:=(Nx T hk).nodup_iff.mpr (oj T).nd
theorem pP{n:Net}(T:aq n){k:Nat}(hk:k<=1){z:Str}:z∈((cX k<|bf n).map λp=>av n p.2)↔z∈ag n:=by
 rw [(Nx T hk).mem_iff];refine⟨λh=>?_,λh=>Cq.mp<|by rw [D7 T h];exact Fg⟩;obtain⟨x,hx,rfl⟩:=Aj.mp h;obtain⟨y,hy⟩:=af.mp ((oj T).new x hx).1;rw [cO hy];exact di hy
noncomputable def gZ(n:Net)(k:Nat)(z:Str):List (Nat×End):=(cX k<|bf n).filter λp=>decide (av n p.2=z)
theorem wu{α:Type}{f:α->Str}:∀{l:List α},(l.map f).Nodup->∀{p:α},p∈l->(l.filter λx=>decide (f x=f p))=[p]
 | a :: l,hn,p,hp=>by
  rw [Au,Bd] at hn;rw [Db]
  by_cases h:f a=f p
  ·rw [BL<|BW h];have e:a=p:=by
    rcases Ai.mp hp with q | q
    ·exact q.symm
    ·exact absurd (by rw [h];exact Aj.mpr ⟨p,q,rfl⟩) hn.1
   subst e
   congr 1
   rw [Eu];intro x hx q;exact hn.1<|by rw [<- BX q];exact Aj.mpr ⟨x,hx,rfl⟩
  ·rw [BJ λq=>h<|BX q]
   rcases Ai.mp hp with q | q
   ·exact absurd (by rw [q]) h
   ·exact wu hn.2 q
theorem tE{n:Net}(T:aq n){k:Nat}(hk:k<=1){z:Str}(hz:z∈ag n):∃ p,p∈cX k (bf n)/\av n p.2=z/\gZ n k z=[p]:=by
 obtain⟨p,hp,rfl⟩:=Aj.mp<|(pP T hk).mpr hz;exact⟨p,hp,rfl,wu (D9 T hk) hp⟩
theorem EA{n:Net}(T:aq n):∀(es:List End) (told:List Str),(∀ e∈es,e∈ends n)->∀(i:Nat) w,(cK n es told)[i]?=some w ->
  ∃ e l r,es=l++e :: r/\(∀ x∈l,av n x∈told++(((cK n es told).take i).flatMap ah).map (av n))/\av n e∉told++(((cK n es told).take i).flatMap ah).map (av n)/\w=walker n e
 | [],told,_,i,w,h=>by simp [cK] at h
 | e :: r,told,hE,i,w,h=>by
  have hr:∀ a∈r,a∈ends n:=λa ha=>hE a<|Ae _ ha;unfold cK at h ⊢
  by_cases c:av n e∈told
  ·rw [BL c] at h ⊢;obtain⟨x,l,r',h1,h2,h3,h4⟩:=EA T r told hr i w h;refine⟨x,e :: l,r',by rw [h1];rfl,λy hy=>?_,h3,h4⟩
   rcases Ai.mp hy with q | q
   ·rw [q];exact Aw _ c
   ·exact h2 y q
  ·rw [BJ c] at h ⊢
   match i with
   | 0=>
    cases h;refine⟨e,[],r,rfl,λy hy=>(nomatch hy),?_,rfl⟩
    simpa using c
   | i+1=>
    obtain⟨x,l,r',h1,h2,h3,h4⟩:=EA T r (told++(ah<|walker n e).map (av n)) hr i w h;have eq:(told++(((walker n e :: cK n r (told++(ah<|walker n e).map (av n))).take<|i+1).flatMap ah).map (av n))=(told++(ah<|walker n e).map (av n))++(((cK n r<|told++(ah<|walker n e).map (av n)).take i).flatMap ah).map (av n):=by
     rw [List.take_succ_cons,Bt,Ah,Ao]
    rw [eq];refine⟨x,e :: l,r',by rw [h1];rfl,λy hy=>?_,h3,h4⟩
    rcases Ai.mp hy with q | q
    ·rw [q];refine Aw _<|Ap _<|Aj.mpr ⟨e,?_,rfl⟩;exact(ii T<|hE e<|Ad ..).mpr ⟨0,rfl⟩
    ·exact h2 y q
noncomputable def Ny(n:Net)(i:Nat):List Str:=(((bf n).take i).flatMap ah).map<|av n
theorem Zc{n:Net}(T:aq n){i:Nat}{w:List End}(h:(bf n)[i]?=some w):∃ e l r,ends n=l++e :: r/\(∀ x∈l,av n x∈Ny n i)/\av n e∉Ny n i/\w=walker n e:=by
 obtain⟨e,l,r,h1,h2,h3,h4⟩:=EA T (ends n) [] (λ_ h=>h) i w h;exact⟨e,l,r,h1,h2,h3,h4⟩
theorem Zd{n:Net}(T:aq n){e:End}(h:e∈ends n):(walker n e)[0]?=some e:=by
 obtain⟨k,p,_⟩:=nh T h;unfold walker;rw [rg p];have:=mX n e k 0 p.pos;exact this
structure fQ(n:Net)(s:Str->Bool)(c:Nat->Bool)(χ:End->Bool):Prop where
 face:aT n s χ
 cut:∀ e z,aJ n e=some z->s z=(c e.1 ^^ c (other n e).1)
def g5(n:Net)(c:Nat->Bool)(χ:End->Bool)(x:End):Bool:=c x.1 ^^ χ (other n x)
def pQ(c:Nat->Bool)(χ:End->Bool)(y:End):Bool:=c y.1 ^^ χ y
section
variable{n:Net}{s:Str->Bool}{c:Nat->Bool}{χ:End->Bool}
theorem fQ.odd(T:aq n)(D:fQ n s c χ){x:End}(hx:x∈ends n):pQ c χ (go 1 n x)=g5 n c χ x:=by
 obtain⟨z,hz⟩:=af.mp hx;have h1:=D.face.go x hx;rw [uK T hx] at h1;have h2:=D.face.cL x z hz;have h3:=D.cut x z hz;unfold pQ g5;rw [h1,show(go 1 n x).1=(other n x).1 from rfl];rw [h2] at h3
 revert h3
 cases χ x <;> cases χ (other n x) <;> cases c x.1 <;> cases c (other n x).1 <;> simp
theorem fQ.even(T:aq n)(D:fQ n s c χ){y:End}(hy:y∈ends n):g5 n c χ (go (-1) n y)=pQ c χ y:=by
 obtain⟨z,hz⟩:=af.mp hy;have h1:=D.face.go _<|cG T<|d6 T hy (c:=-1);rw [M7 T hy] at h1;have h2:=D.face.cL y z hz;have h3:=D.cut y z hz;unfold pQ g5;rw [<- h1,show(go (-1) n y).1=(other n y).1 from rfl];rw [h2] at h3
 revert h3
 cases χ y <;> cases χ (other n y) <;> cases c y.1 <;> cases c (other n y).1 <;> simp
theorem fQ.two(T:aq n)(D:fQ n s c χ){x:End}(hx:x∈ends n):g5 n c χ (Nt.two n x)=g5 n c χ x:=by
 rw [show Nt.two n x=go (-1) n (go 1 n x) from rfl,D.even T<|d6 T hx,D.odd T hx]
theorem fQ.it(T:aq n)(D:fQ n s c χ){x:End}(hx:x∈ends n):∀ k,g5 n c χ (Nt.it (Nt.two n) k x)=g5 n c χ x
 | 0=>rfl
 | k+1=>by
  show g5 n c χ (Nt.two n<|Nt.it (Nt.two n) k x)=_;rw [D.two T<|gC T hx k,D.it T hx k]
theorem Nz(k:Nat):∀(m:Nat) (ws:List<|List End) {i:Nat} {e:End},(i,e)∈cW k m ws->∃ j w,ws[j]?=some w/\i=m+j/\e∈eI k w
 | m,[],i,e,h=>by simp [cW] at h
 | m,w :: ws,i,e,h=>by
  unfold cW at h
  rcases Aq.mp h with h | h
  ·obtain⟨x,hx,q⟩:=Aj.mp h;cases q;exact⟨0,w,rfl,rfl,hx⟩
  ·obtain⟨j,v,h1,h2,h3⟩:=Nz k (m+1) ws h;exact⟨j+1,v,h1,by omega,h3⟩
theorem pR{k:Nat}{ws:List (List End)}{i:Nat}{e:End}(h:(i,e)∈cX k ws):∃ w,ws[i]?=some w/\e∈eI k w:=by
 obtain⟨j,w,h1,h2,h3⟩:=Nz k 0 ws h;rw [Em] at h2;subst h2;exact⟨w,h1,h3⟩
noncomputable def lB(n:Net)(c:Nat->Bool)(χ:End->Bool)(i:Nat):Bool:=match (bf n)[i]? with
 | some (e :: _)=>g5 n c χ e
 | _=>false
theorem NA(T:aq n){i:Nat}{e:End}(he:e∈ends n)(h:(bf n)[i]?=some (walker n e)):lB n c χ i=g5 n c χ e:=by
 have h0:=Zd T he;unfold lB;rw [h];cases hw:walker n e with
 | nil=>rw [hw] at h0;cases h0
 | cons a l=>rw [hw] at h0;cases h0;rfl
theorem pS(T:aq n){i:Nat}{w:List End}(h:(bf n)[i]?=some w):∃ e,e∈ends n/\w=walker n e:=by
 obtain⟨e,l,r,heq,_,_,hw⟩:=Zc T h;exact⟨e,by rw [heq];simp,hw⟩
theorem fQ.iu(T:aq n)(D:fQ n s c χ){i:Nat}{x:End}(h:(i,x)∈cX 0 (bf n)):x∈ends n/\g5 n c χ x=lB n c χ i:=by
 obtain⟨w,hw,hx⟩:=pR h;obtain⟨e,he,rfl⟩:=pS T hw;have hx:x∈cD n e:=hx;obtain⟨k,rfl⟩:=(ii T he).mp hx;rw [NA T he hw];exact⟨gC T he k,D.it T he k⟩
theorem fQ.tF(T:aq n)(D:fQ n s c χ){i:Nat}{y:End}(h:(i,y)∈cX 1 (bf n)):y∈ends n/\pQ c χ y=lB n c χ i:=by
 obtain⟨w,hw,hy⟩:=pR h;obtain⟨e,he,rfl⟩:=pS T hw;rw [wt] at hy;obtain⟨x,hx,rfl⟩:=Aj.mp hy;have hx:x∈cD n e:=hx;obtain⟨k,rfl⟩:=(ii T he).mp hx;rw [NA T he hw];have:=gC T he k;exact⟨d6 T this,by rw [D.odd T this,D.it T he k]⟩
theorem fQ.cL(T:aq n)(D:fQ n s c χ){p q:Nat×End}(hp:p∈cX 0 (bf n))(hq:q∈cX 1 (bf n))(h:av n p.2=av n q.2):s (av n p.2)=(lB n c χ p.1 ^^ lB n c χ q.1):=by
 obtain⟨i,x⟩:=p;obtain⟨j,y⟩:=q;obtain⟨hx,e1⟩:=D.iu T hp;obtain⟨hy,e2⟩:=D.tF T hq;show s (av n x)=(lB n c χ i ^^ lB n c χ j);obtain⟨z,hz⟩:=af.mp hx;have h2:=D.face.cL x z hz;have h3:=D.cut x z hz;rw [<- e1,<- e2,cO hz];unfold g5 pQ
 rcases pM T hx hy h with k | k
 ·subst k;rw [h2];cases χ y <;> cases χ (other n y) <;> cases c y.1 <;> rfl
 ·subst k;rw [h3];cases χ (other n x) <;> cases c x.1 <;> cases c (other n x).1 <;> rfl
end
theorem Zf{α:Type}(k:Nat):eI k ([]:List α)=[]:=by unfold eI;rw [List.drop_nil];rfl
theorem ND(k i:Nat):∀(m:Nat) (ws:List<|List End),((cW k m ws).filter λp=>decide (p.1=i))=if m<=i then((eI k<|ws[i - m]?.getD []).map λe=>(i,e)) else []
 | m,[]=>by
  rw [List.getElem?_nil];show []=if m<=i then((eI k ([]:List End)).map λe=>(i,e)) else [];rw [Zf]
  split <;> rfl
 | m,w :: ws=>by
  unfold cW;rw [Dq,ND k i (m+1) ws]
  by_cases h:m=i
  ·subst h;rw [BL<|Al _,BJ (by omega),Be,QZ];rw [List.filter_eq_self.mpr λa ha=>by obtain⟨x,_,rfl⟩:=Aj.mp ha;exact BW rfl];rfl
  ·rw [Eu.mpr λa ha=>by obtain⟨x,_,rfl⟩:=Aj.mp ha;exact λq=>h<|BX q,Ez]
   by_cases c:m<=i
   ·rw [BL c,BL (by omega),show i - m=(i - (m+1))+1 by omega];rfl
   ·rw [BJ c,BJ<|by omega]
theorem NI{α:Type}(f:α->Str)(z:Str):∀ l:List α,(l.map f).count z=(l.filter λx=>decide (f x=z)).length
 | []=>rfl
 | a :: l=>by
  rw [Au,Cr,NI f z l,Db]
  by_cases h:f a=z
  ·rw [BL (by rw [h];exact beq_self_eq_true z),BL<|BW h,An]
  ·rw [BJ (by rw [beq_iff_eq];exact h),BJ λq=>h<|BX q];rfl
theorem NM{n:Net}{k:Nat}{z:Str}{p:Nat×End}(hp:gZ n k z=[p]){i:Nat}{w:List End}(hw:(bf n)[i]?=some w):((eI k w).map<|av n).count z=if p.1=i then 1 else 0:=by
 have h1:=ND k i 0<|bf n;rw [BL<|Bo _,QX,hw] at h1;have h1:(cX k<|bf n).filter (λp=>decide (p.1=i))=(eI k w).map λe=>(i,e):=h1;have h2:(((cX k<|bf n).filter λp=>decide (p.1=i)).filter λp=>decide (av n p.2=z))=(gZ n k z).filter λp=>decide (p.1=i):=by
  unfold gZ;rw [List.filter_filter,List.filter_filter]
  congr 1
  funext p
  exact Bool.and_comm ..
 rw [h1,hp,List.filter_map] at h2;have h3:=BZ List.length h2;rw [Aa] at h3;rw [NI];refine Eq.trans h3 ?_;rw [Db]
 by_cases c:p.1=i
 ·rw [BL<|BW c,BL c];rfl
 ·rw [BJ λq=>c<|BX q,BJ c];rfl
theorem Zg{n:Net}(T:aq n){z:Str}{p q:Nat×End}(hp:gZ n 0 z=[p])(hq:gZ n 1 z=[q]){i:Nat}{w:List End}(hw:(bf n)[i]?=some w):fk n w z=(decide (p.1=i) ^^ decide (q.1=i)):=by
 obtain⟨e,he,rfl⟩:=pS T hw;have c0:=NM hp hw;have c1:=NM hq hw;rw [wt,Bi] at c1;have c0:((cD n e).map<|av n).count z=_:=c0;have c1:((cD n e).map λx=>av n<|go 1 n x).count z=_:=c1;unfold fk;rw [(Nk T he).count_eq,Eh,c0,c1]
 by_cases a:p.1=i <;> by_cases b:q.1=i <;> simp [a,b]
theorem NR(k:Nat):∀(m:Nat) (ws:List<|List End) {j:Nat} {w:List End} {e:End},ws[j]?=some w->e∈eI k w->(m+j,e)∈cW k m ws
 | m,[],j,w,e,h,_=>by simp at h
 | m,v :: ws,0,w,e,h,he=>by
  cases h;unfold cW;exact Aw _<|Aj.mpr ⟨e,he,rfl⟩
 | m,v :: ws,j+1,w,e,h,he=>by
  unfold cW;refine Ap _ ?_;have:=NR k (m+1) ws (j:=j) h he;rw [show m+(j+1)=m+1+j by omega];exact this
theorem wv{k:Nat}{ws:List (List End)}{i:Nat}{w:List End}{e:End}(h:ws[i]?=some w)(he:e∈eI k w):(i,e)∈cX k ws:=by
 have:=NR k 0 ws h he;rw [Em] at this;exact this
theorem Zh{n:Net}(T:aq n){x:End}(hx:x∈ends n):∃ p∈cX 0 (bf n),∃ q∈cX 1 (bf n),p.1=q.1/\av n p.2=av n x/\av n q.2=av n (left n x):=by
 obtain⟨z,hz⟩:=af.mp hx;obtain⟨p,hp,ez⟩:=Aj.mp ((pP T (k:=0)<|by decide).mpr<|di hz);obtain⟨i,e⟩:=p;obtain⟨w,hw,he⟩:=pR hp;obtain⟨e0,h0,rfl⟩:=pS T hw;have EB:e∈cD n e0:=he;have gW:=pN T h0 e EB;have ht:av n x=av n e:=by rw [cO hz];exact ez.symm
 have hO:∀ y∈cD n e0,go 1 n y∈eI 1 (walker n e0):=λy hy=>by
  rw [wt];exact Aj.mpr ⟨y,hy,rfl⟩
 rcases pM T hx gW ht with k | k
 ·obtain⟨y,hy,h2⟩:=D1 T h0 EB;have pO:=pN T h0 y hy;refine⟨(i,e),hp,(i,go 1 n y),wv hw<|hO y hy,rfl,ht.symm,?_⟩;have hg:=d6 T pO (c:=1);have h3:other n (go 1 n y)=left n x:=by
   have:cN (-1) n (other n<|go 1 n y)=x:=by rw [<- k];exact h2
   have hb:=kI (c:=-1)<|cG T hg;rw [this,show(-(-1):Int)=1 from rfl] at hb;rw [uJ hx,hb]
  obtain⟨t,d7⟩:=af.mp hg;show av n (go 1 n y)=_;rw [<- h3,cO d7,cO (cF T d7).1]
 ·refine⟨(i,e),hp,(i,go 1 n e),wv hw<|hO e EB,rfl,ht.symm,?_⟩;show av n (cN 1 n<|other n e)=_;rw [k,(cF T hz).2.1,uJ hx]
theorem EC{n:Net}(T:aq n){k:Nat}(hk:k<=1){p q:Nat×End}(hp:p∈cX k (bf n))(hq:q∈cX k (bf n))(h:av n p.2=av n q.2):p=q:=by
 have h1:=wu (D9 T hk) hp;have h2:=wu (D9 T hk) hq;have h3:(λx:Nat×End=>decide (av n x.2=av n p.2))=λx=>decide (av n x.2=av n q.2):=by rw [h]
 rw [h3] at h1;exact List.cons.inj (h1.symm.trans h2) |>.1
theorem Zi{n:Net}(T:aq n)(hg:cV n)(hN:(n.map (·.1)).Nodup){S:Nat->Prop}(s0:∃ p∈cX 0 (bf n),S p.1)
  (cl:∀ p∈cX 0 (bf n),∀ q∈cX 1 (bf n),av n p.2=av n q.2->(S p.1↔S q.1)):∀ i,i < (bf n).length->S i:=by
 let B:Str->Prop:=λz=>∃ p∈cX 0 (bf n),av n p.2=z/\S p.1
 have bp:∀{p:Nat×End},p∈cX 0 (bf n)->(B (av n p.2)↔S p.1):=λ{p} hp=>⟨λ⟨q,hq,e,h⟩=>by rw [EC T (by decide) hp hq e.symm];exact h,λh=>⟨p,hp,rfl,h⟩⟩;have bq:∀{q:Nat×End},q∈cX 1 (bf n)->(B (av n q.2)↔S q.1):=λ{q} hq=>by
  have hz:av n q.2∈ag n:=(pP T (k:=1)<|by decide).mp<|Aj.mpr ⟨q,hq,rfl⟩;obtain⟨p,hp,e⟩:=Aj.mp ((pP T (k:=0)<|by decide).mpr hz);have e:av n p.2=av n q.2:=e;rw [<- e,bp hp];exact cl p hp q hq e
 have bl:∀ x∈ends n,(B (av n x)↔B (av n<|left n x)):=λx hx=>by
  obtain⟨p,hp,q,hq,e,e1,e2⟩:=Zh T hx;rw [<- e1,<- e2,bp hp,bq hq,e]
 have br:∀(r j:Nat) z,(row n r)[j]?=some z->∀ z0,(row n r)[0]?=some z0->(B z↔B z0):=λr j=>by
  induction j with
  | zero=>intro z h z0 h0;rw [h] at h0;cases h0;exact Iff.rfl
  | succ j ih=>
   intro z h z0 h0;have hl:=(Ac.mp h).1;obtain⟨y,hy⟩:∃ y,(row n r)[j]?=some y:=⟨_,Ab<|by omega⟩;have vT:aJ n (r,j)=some y:=hy;have b:=bl (r,j)<|af.mpr ⟨y,vT⟩;have e:left n (r,j)=(r,j+1):=by
    unfold left;rw [show(j+1) % (row n r).length=j+1 from Bs hl]
   have h':aJ n (r,j+1)=some z:=h;rw [e,cO vT,cO h'] at b;exact b.symm.trans<|ih y hy z0 h0
 have ba:∀ r∈n,∀ y∈r.2,∀ z∈r.2,B y->B z:=λr hr y hy z hz h=>by
  obtain⟨i,hi,rfl⟩:=List.getElem_of_mem hr;rw [<- jg hi] at hy hz;obtain⟨a,ha⟩:=Ba hy;obtain⟨b,hb⟩:=Ba hz;obtain⟨z0,h0⟩:∃ z0,(row n i)[0]?=some z0:=⟨_,Ab<|by have:=(Ac.mp ha).1;omega⟩;exact(br i b z hb z0 h0).mpr<|(br i a y ha z0 h0).mp h
 have all:∀ r∈n,∃ t∈r.2,B t:=by
  have:=hg (λx=>∃ r∈n,r.1=x/\∃ t∈r.2,B t) ?_ ?_
  ·intro r hr;obtain⟨r',hZ,e,t,ht,b⟩:=this r hr;have:r'=r:=by
    have:=wq hN r' hZ r hr e;exact this
   subst this;exact⟨t,ht,b⟩
  ·obtain⟨p,hp,sp⟩:=s0;have hz:av n p.2∈ag n:=(pP T (k:=0)<|by decide).mp<|Aj.mpr ⟨p,hp,rfl⟩;unfold ag at hz;obtain⟨r,hr,ht⟩:=Fk.mp hz;exact⟨r,hr,r,hr,rfl,_,ht,(bp hp).mpr sp⟩
  ·rintro r hr s hs t Zj ic ⟨r',hZ,e,y,hy,b⟩;have:=wq hN r' hZ r hr e;subst this;exact⟨s,hs,rfl,t,ic,ba r' hr y hy t Zj b⟩
 have every:∀ z∈ag n,B z:=λz hz=>by
  unfold ag at hz;obtain⟨r,hr,ht⟩:=Fk.mp hz;obtain⟨y,hy,b⟩:=all r hr;exact ba r hr y hy z ht b
 intro i hi;have hw:=Ab hi;obtain⟨e,he,sI⟩:=pS T hw;rw [sI] at hw;have hm:e∈cD n e:=(ii T he).mpr ⟨0,rfl⟩;have hp:=wv (k:=0) hw hm;obtain⟨z,hz⟩:=af.mp he;exact(bp hp).mp<|every _<|by show av n e∈_;rw [cO hz];exact di hz
end Nt
namespace Nt
open PySem L2 Dt
section
variable{n:Net}
def ik(n:Net)(c:Nat->Bool)(z:Str):Bool:=c (cw n z).1 ^^ c (cw n z).2
def gD(n:Net)(s:Str->Bool)(L:List Str)(j:Nat):Nat:=(L.map λw=>if s w=true then(row n j).count w else 0).sum
theorem NU(s:Str->Bool)(w:Str)(L:List Str)(j:Nat):gD n s (w :: L) j=(if s w=true then(row n j).count w else 0)+gD n s L j:=rfl
theorem ED(c:Nat->Bool)(a:Nat):∀{C:List Nat},C.Nodup->(C.map λx=>if c x=true then(if x=a then(1:Int) else 0) else 0).sum=if a∈C/\c a=true then 1 else 0
 | [],_=>rfl
 | x :: C,h=>by
  obtain⟨nx,hC⟩:=Bd.mp h;rw [Au,Bm,ED c a hC]
  by_cases e:x=a
  ·subst e;have e:¬(x∈C/\c x=true):=λk=>nx k.1;rw [BL rfl,BJ e]
   by_cases k:c x=true
   ·rw [BL k,BL ⟨Ad ..,k⟩];rfl
   ·rw [BJ k,BJ λq=>k q.2];rfl
  ·rw [BJ e];have:(a∈x :: C/\c a=true)↔(a∈C/\c a=true):=by
    rw [Ai];exact⟨λq=>⟨q.1.resolve_left λz=>e z.symm,q.2⟩,λq=>⟨.inr q.1,q.2⟩⟩
   by_cases k:a∈C/\c a=true
   ·rw [BL k,BL<|this.mpr k]
    split <;> rfl
   ·rw [BJ k,BJ λq=>k<|this.mp q]
    split <;> rfl
theorem Zk{c:Nat->Bool}{C:List Nat}(hC:C.Nodup)(hc:∀ x,c x=true->x∈C)(e:Nat×Nat):(C.map λx=>if c x=true then ed e x else 0).sum=(if c e.1=true then 1 else 0) - (if c e.2=true then 1 else 0):=by
 have h1:=ED c e.1 hC;have h2:=ED c e.2 hC;have e1:(if e.1∈C/\c e.1=true then(1:Int) else 0)=if c e.1=true then 1 else 0:=by
  by_cases k:c e.1=true
  ·rw [BL k,BL ⟨hc _ k,k⟩]
  ·rw [BJ k,BJ λq=>k q.2]
 have e2:(if e.2∈C/\c e.2=true then(1:Int) else 0)=if c e.2=true then 1 else 0:=by
  by_cases k:c e.2=true
  ·rw [BL k,BL ⟨hc _ k,k⟩]
  ·rw [BJ k,BJ λq=>k q.2]
 rw [e1] at h1;rw [e2] at h2;rw [<- h1,<- h2];have:∀ l:List Nat,(l.map λx=>if c x=true then ed e x else 0).sum=(l.map λx=>if c x=true then(if x=e.1 then(1:Int) else 0) else 0).sum - (l.map λx=>if c x=true then(if x=e.2 then(1:Int) else 0) else 0).sum:=λl=>by
  induction l with
  | nil=>rfl
  | cons x l ih=>
   rw [Au,Au,Au,Bm,Bm,Bm,ih];unfold ed
   by_cases k:c x=true
   ·rw [BL k,BL k,BL k];omega
   ·rw [BJ k,BJ k,BJ k];omega
 exact this C
theorem NV(e:Nat->Int)(W:List<|Nat->Int)(c:Nat->Bool)(j:Nat):∀ C:List Nat,sm (Lp<|e :: W) c C j=(C.map λx=>if c x=true then e x else 0).sum * e j+sm (Lp W) c C j
 | []=>by show(0:Int)=0 * e j+0;omega
 | x :: C=>by
  rw [ke,ke,NV e W c j C,Au,Bm,pF]
  by_cases k:c x=true
  ·rw [BL k,BL k,BL k];grind
  ·rw [BJ k,BJ k,BJ k];grind
theorem EE(T:aq n){c:Nat->Bool}{C:List Nat}(hC:C.Nodup)(hc:∀ x,c x=true->x∈C)(j:Nat):∀{L:List Str},(∀ w∈L,w∈ag n)->sm (Lp<|(L.map<|cw n).map ed) c C j % 2=(gD n (ik n c) L j:Int) % 2
 | [],_=>by
  have:sm (Lp ([]:List<|Nat->Int)) c C j % 2=0:=wn c λ_ _=>rfl;exact this
 | w :: L,h=>by
  have ih:=EE T hC hc j (L:=L) λz hz=>h z<|Ae _ hz;have hp:=MQ T (h w<|Ad ..) j;rw [Au,Au,NV,Zk hC hc,NU,hp];have e1:ik n c w=(c (cw n w).1 ^^ c (cw n w).2):=rfl;have e2:ed (cw n w) j=(if j=(cw n w).1 then 1 else 0) - (if j=(cw n w).2 then 1 else 0):=rfl;rw [e1,e2];clear e1 e2 hp;generalize gD n (ik n c) L j=x at *;generalize sm (Lp<|(L.map<|cw n).map ed) c C j=y at *;generalize (cw n w).1=a;generalize (cw n w).2=b;have ja:∀ x,(if j=x then(1:Int) else 0)=((if j=x then 1 else 0:Nat):Int):=λx=>by split <;> rfl
  rw [ja,ja];generalize (if j=a then 1 else 0:Nat)=u;generalize (if j=b then 1 else 0:Nat)=v;cases c a <;> cases c b <;> simp only [reduceIte,Cj,Bool.xor_self,QG,Ge,QT,Gf,QC] <;> omega
theorem NX(s:Str->Bool){ss:List Str}(hs:ss.Nodup):∀{l:List Str},(∀ y∈l,y∈ss)->(l.filter s).length=(ss.map λw=>if s w=true then l.count w else 0).sum
 | [],_=>by
  have:∀ L:List Str,(L.map λw=>if s w=true then([]:List Str).count w else 0).sum=0:=λL=>by
   induction L with
   | nil=>rfl
   | cons x L ih=>rw [Au,Bm,ih];split <;> rfl
  rw [this];rfl
 | y :: l,h=>by
  have ih:=NX s hs (l:=l) λz hz=>h z<|Ae _ hz;have key:∀ L:List Str,L.Nodup->(L.map λw=>if s w=true then(y :: l).count w else 0).sum=(L.map λw=>if s w=true then l.count w else 0).sum+if y∈L/\s y=true then 1 else 0:=λL hL=>by
   induction L with
   | nil=>rfl
   | cons x L Zm=>
    obtain⟨nx,y9⟩:=Bd.mp hL;rw [Au,Au,Bm,Bm,Zm y9,Cr]
    by_cases e:y=x
    ·subst e;have e:¬(y∈L/\s y=true):=λk=>nx k.1;rw [BJ e]
     by_cases k:s y=true
     ·rw [BL k,BL k,BL (show y∈y :: L/\s y=true from⟨Ad ..,k⟩),BL (show(y == y)=true by simp)];omega
     ·rw [BJ k,BJ k,BJ λq=>k q.2];omega
    ·rw [BJ (show ¬(y == x)=true by simpa using e)];have:(y∈x :: L/\s y=true)↔(y∈L/\s y=true):=by
      rw [Ai];exact⟨λq=>⟨q.1.resolve_left e,q.2⟩,λq=>⟨.inr q.1,q.2⟩⟩
     by_cases k:y∈L/\s y=true
     ·rw [BL k,BL<|this.mpr k];split <;> omega
     ·rw [BJ k,BJ λq=>k<|this.mp q];split <;> omega
  rw [key ss hs,<- ih,Db]
  by_cases k:s y=true
  ·rw [BL k,BL ⟨h y<|Ad ..,k⟩];rfl
  ·rw [BJ k,BJ λq=>k q.2];rfl
theorem NY(s:Str->Bool){ss:List Str}(hs:ss.Nodup)(hm:∀ z,z∈ss↔z∈ag n){j:Nat}(hj:j < n.length):az ((row n j).map s)=decide (gD n s ss j % 2=1):=by
 rw [vh,NX s hs λy hy=>(hm y).mpr<|DJ hj hy];rfl
theorem N0(T:aq n)(s:Str->Bool):∀{L:List Str},(∀ w∈L,w∈ag n)->((List.range n.length).map λj=>gD n s L j).sum % 2=0
 | [],_=>by
  have:∀ l:List Nat,(l.map λj=>gD n s [] j).sum=0:=λl=>by
   induction l with
   | nil=>rfl
   | cons x l ih=>rw [Au,Bm,ih];rfl
  rw [this]
 | w :: L,h=>by
  have ih:=N0 T s (L:=L) λz hz=>h z<|Ae _ hz;have c2:=T w<|h w<|Ad ..;rw [YT] at c2;have:∀ l:List Nat,(l.map λj=>gD n s (w :: L) j).sum=(if s w=true then(l.map λj=>(row n j).count w).sum else 0)+(l.map λj=>gD n s L j).sum:=λl=>by
   induction l with
   | nil=>show(0:Nat)=_;split <;> rfl
   | cons x l B8=>
    rw [Au,Au,Au,Bm,Bm,Bm,B8,NU]
    split <;> omega
  rw [this,c2]
  split <;> omega
theorem Zn(T:aq n)(h0:0 < n.length)(s:Str->Bool){ss:List Str}(hs:ss.Nodup)(hm:∀ z,z∈ss↔z∈ag n)(h:∀ j∈(List.range<|n.length - 1).map (·+1),gD n s ss j % 2=0):cU n s:=λr=>by
 have BO:=N0 T s λw hw=>(hm w).mp hw
 by_cases hr:r < n.length
 ·rw [NY s hs hm hr];refine BR λk=>?_;have z0:gD n s ss 0 % 2=0:=by
   obtain⟨m,e⟩:∃ m,n.length=m+1:=⟨n.length - 1,by omega⟩;rw [e,Ft,Au,Bm] at BO;have:(((List.range m).map Nat.succ).map λj=>gD n s ss j).sum % 2=0:=by
    have:∀ l:List Nat,(∀ j∈l,gD n s ss j % 2=0)->(l.map λj=>gD n s ss j).sum % 2=0:=λl hl=>by
     induction l with
     | nil=>rfl
     | cons x l ih=>
      rw [Au,Bm];have:=hl x<|Ad ..;have:=ih λj hj=>hl j<|Ae _ hj;omega
    refine this _ λj hj=>h j ?_;obtain⟨i,hi,rfl⟩:=Aj.mp hj;have:=Ca.mp hi;exact aV.mpr<|by omega
   omega
  by_cases e:r=0
  ·rw [e,z0] at k;cases k
  ·rw [h r<|aV.mpr<|by omega] at k;cases k
 ·rw [MR<|by omega];rfl
theorem Zo(T:aq n)(h0:0 < n.length){ss:List Str}(hs:ss.Nodup)(hm:∀ z,z∈ss↔z∈ag n)(h:lw n ss % 2=0):∃ c:Nat->Bool,c 0=false/\(∃ x,x < n.length/\c x=true)/\cU n (ik n c):=by
 have nd:=CY<|n.length - 1;have h:dt (((List.range<|n.length - 1).map (·+1)).map<|Lp<|(ss.map<|cw n).map ed) ((List.range<|n.length - 1).map (·+1)) % 2=0:=h;obtain⟨S,⟨x,hx,sx⟩,hS⟩:=M3 _ (Lp<|(ss.map<|cw n).map ed) _ nd rfl h;have hc:∀ y,(S y && decide (y∈(List.range<|n.length - 1).map (·+1)))=true->y∈(List.range<|n.length - 1).map (·+1):=λy hy=>by
  rw [Cs] at hy;exact BX hy.2
 have fI:=aV.mp hx;refine⟨λy=>S y && decide (y∈(List.range<|n.length - 1).map (·+1)),?_,⟨x,by omega,?_⟩,?_⟩
 ·show(S 0 && _)=false;rw [BR (λk=>by have:=(aV.mp k).1;omega),Bool.and_false]
 ·show(S x && _)=true;rw [sx,BW hx];rfl
 ·refine Zn T h0 _ hs hm λj hj=>?_;have:=EE T nd hc j λw hw=>(hm w).mp hw;rw [MZ (S':=S) (λi hi=>by rw [BW hi,Bool.and_true]),hS j hj] at this;omega
theorem Zq(T:aq n)(h0:0 < n.length){ss:List Str}(hs:ss.Nodup)(hm:∀ z,z∈ss↔z∈ag n){c:Nat->Bool}(c0:c 0=false)(cl:∀ x,c x=true->x < n.length)(hx:∃ x,c x=true)(he:cU n<|ik n c):lw n ss % 2=0:=by
 have nd:=CY<|n.length - 1;have hc:∀ y,c y=true->y∈(List.range<|n.length - 1).map (·+1):=λy hy=>by
  have:=cl y hy;have:y≠0:=λe=>by rw [e,c0] at hy;cases hy
  exact aV.mpr<|by omega
 obtain⟨x,hx⟩:=hx;refine YV (R:=Lp<|(ss.map<|cw n).map ed) nd ⟨c,⟨x,hc x hx,hx⟩,λj hj=>?_⟩;rw [EE T nd hc j λw hw=>(hm w).mp hw];have va:=aV.mp hj;have k:=he j;rw [NY _ hs hm<|by omega] at k;have:=GQ k;omega
theorem N2(T:aq n)(c:Nat->Bool){e:End}{z:Str}(h:aJ n e=some z):ik n c z=(c e.1 ^^ c (other n e).1):=by
 obtain⟨a,b,hp,cS,he⟩:=mJ T h;have ta:aJ n a=some z:=aF.mp (by rw [hp];simp);have oa:other n a=b:=by unfold other;simp only [ta,hp];simp
 unfold ik;rw [DF hp]
 rcases he with rfl | rfl
 ·rw [oa]
 ·have:=(cF T ta).2.1;rw [oa] at this;rw [this,Bool.xor_comm]
theorem Zr(T:aq n)(hN:(n.map (·.1)).Nodup)(h0:0 < n.length)(hf:HF n){ss:List Str}(hs:ss.Nodup)(hm:∀ z,z∈ss↔z∈ag n)(h1:(bf n).length=1):lw n ss % 2=1:=by
 refine CN λk=>?_;obtain⟨c,c0,⟨x,hx,cx⟩,ev⟩:=Zo T h0 hs hm (by omega);obtain⟨χ,hχ⟩:=hf.2.2 _ ev;have D:fQ n (ik n c) c χ:=⟨hχ,λe z he=>N2 T c he⟩;have no:∀ z∈ag n,ik n c z=false:=λz hz=>by
  obtain⟨p,p1,p2,_⟩:=tE T (k:=0) (by decide) hz;obtain⟨q,q1,q2,_⟩:=tE T (k:=1) (by decide) hz;have:=D.cL T p1 q1<|p2.trans q2.symm;rw [p2] at this;rw [this];obtain⟨w,hw,_⟩:=pR p1;obtain⟨v,hv,_⟩:=pR q1;have a:=(Ac.mp hw).1;have b:=(Ac.mp hv).1;rw [show p.1=q.1 by omega,Bool.xor_self]
 have wx:∀ k (hk:k < n.length),rn n n[k].1=k:=λk hk=>by
  have:=ka hN hk;rw [fC hk] at this;exact this
 have:=hf.1 (λp=>c (rn n p)=false) ⟨n[0],Bn h0,by show c (rn n n[0].1)=false;rw [wx 0 h0];exact c0⟩ (λr hr s fK t t1 t2 pr=>by
  obtain⟨i,hi,rfl⟩:=Ce.mp hr;obtain⟨j,hj,rfl⟩:=Ce.mp fK;have pr:c (rn n n[i].1)=false:=pr;show c (rn n n[j].1)=false;rw [wx i hi] at pr;rw [wx j hj];rw [<- DI hi] at t1;rw [<- DI hj] at t2;have ht:=DJ hi t1;have hp:=MQ T ht;have z:=no t ht;unfold ik at z;have e:∀ r,0 < (row n r).count t->r=(cw n t).1\/r=(cw n t).2:=λr hr=>by
   rw [hp r] at hr
   by_cases k1:r=(cw n t).1
   ·exact .inl k1
   ·by_cases k2:r=(cw n t).2
    ·exact .inr k2
    ·rw [BJ k1,BJ k2] at hr;omega
  have cc:c (cw n t).1=c (cw n t).2:=by
   cases h1:c (cw n t).1 <;> cases h2:c (cw n t).2 <;> rw [h1,h2] at z <;> first | rfl | cases z
  have ci:c i=c (cw n t).1:=by
   rcases e i (Cq.mpr t1) with q | q
   ·rw [q]
   ·rw [q,cc]
  have cj:c j=c (cw n t).1:=by
   rcases e j (Cq.mpr t2) with q | q
   ·rw [q]
   ·rw [q,cc]
  rw [cj,<- ci];exact pr) n[x]<|Bn hx
 have this:c (rn n n[x].1)=false:=this;rw [wx x hx,cx] at this;cases this
theorem Zt(T:aq n)(hN:(n.map (·.1)).Nodup)(h0:0 < n.length)(hf:HF n){ss:List Str}(hs:ss.Nodup)(hm:∀ z,z∈ss↔z∈ag n)(h2:2<=(bf n).length):lw n ss % 2=0:=by
 have hl:0 < (bf n).length:=by omega
 have hw:=Ab hl;have tG:(bf n)[0]∈bf n:=Bn hl;generalize (bf n)[0]=w at hw tG;have W:=rk T (ends n) [] (λ_ h=>h) w tG;have co:∀ z,z∈(ss.filter λz=>decide ((w.map<|av n).count z=1))↔(w.map<|av n).count z=1:=λz=>by
  rw [Da,DR];refine⟨λk=>k.2,λk=>⟨(hm z).mpr ?_,k⟩⟩;have:z∈w.map (av n):=Cq.mp (by omega);obtain⟨e,he,rfl⟩:=Aj.mp this;obtain⟨y,hy⟩:=af.mp<|W.ends e he;rw [cO hy];exact di hy
 generalize (ss.filter λz=>decide ((w.map<|av n).count z=1))=cr at co;have he:=Y' T tG co;obtain⟨sd,N3⟩:=Za T hf hN h0 tG co
 let c:Nat->Bool:=λr=>decide (aM n r∈sd/\r < n.length)
 have sc:∀ z∈ag n,ik n c z=decide (z∈cr):=λz hz=>by
  obtain⟨a,b,hp⟩:=DH T hz;have ta:aJ n a=some z:=aF.mp (by rw [hp];simp);have la:=(lu<|aF.mpr ta).1;have lb:=(lu<|aF.mpr (cF T ta).1).1;rw [N2 T c ta];have q:=(N3.cut z).trans<|J6 T ta;have ea:c a.1=decide (aM n a.1∈sd):=decide_eq_decide.mpr ⟨λk=>k.1,λk=>⟨k,la⟩⟩;have eb:c (other n a).1=decide (aM n (other n a).1∈sd):=decide_eq_decide.mpr ⟨λk=>k.1,λk=>⟨k,lb⟩⟩;rw [ea,eb];cases h1:decide (aM n a.1∈sd) <;> cases h2:decide (aM n (other n a).1∈sd) <;> rw [h1,h2] at q
  ·exact(BR λk=>nomatch q.mp k).symm
  ·exact(BW<|q.mpr rfl).symm
  ·exact(BW<|q.mpr rfl).symm
  ·exact(BR λk=>nomatch q.mp k).symm
 refine Zq T h0 hs hm (c:=c) (BR λk=>N3.fst k.1) (λx hx=>(BX hx).2) ?_ λr=>?_
 ·refine CN λk=>?_;have none:∀ z∈ag n,fk n w z=false:=λz hz=>by
   rw [<- D8 T tG co hz,<- sc z hz];unfold ik;have:∀ x,c x=false:=λx=>by
    cases h:c x with
    | false=>rfl
    | true=>exact absurd ⟨x,h⟩ k
   rw [this,this];rfl
  obtain⟨e,nV,sI⟩:=pS T hw;have N4:=hw;rw [sI] at N4;have hp:=wv (k:=0) N4 (show e∈eI 0 (walker n e) from(ii T nV).mpr ⟨0,rfl⟩);have:=Zi T hf.1 hN (S:=λi=>i=0) ⟨_,hp,rfl⟩ (λp hp q hq e=>by
   have gy:av n p.2∈ag n:=(pP T (k:=0)<|by decide).mp<|Aj.mpr ⟨p,hp,rfl⟩;obtain⟨p',p1,p2,Zu⟩:=tE T (k:=0) (by decide) gy;obtain⟨q',q1,q2,Zv⟩:=tE T (k:=1) (by decide) gy;obtain rfl:=EC T (by decide) hp p1 p2.symm;obtain rfl:=EC T (by decide) hq q1<|e.symm.trans q2.symm;have o:=Zg T Zu Zv hw;rw [none _ gy] at o
   constructor
   ·intro a;rw [BW a] at o;cases h:decide (q.1=0) with
    | true=>exact BX h
    | false=>rw [h] at o;cases o
   ·intro a;rw [BW a] at o;cases h:decide (p.1=0) with
    | true=>exact BX h
    | false=>rw [h] at o;cases o) 1 h2
  cases this
 ·by_cases hr:r < n.length
  ·have:=VN he r;rw [<- this]
   congr 1
   refine Ay λz hz=>?_;rw [sc z<|DJ hr hz]
   by_cases k:z∈cr
   ·rw [BW k];exact(Dc.mpr k).symm
   ·rw [BR k];exact(Fb.mpr λq=>k<|Dc.mp q).symm
  ·rw [MR<|by omega];rfl
theorem Zw(T:aq n)(hN:(n.map (·.1)).Nodup)(h0:0 < n.length)(hf:HF n){ss:List Str}(hs:ss.Nodup)(hm:∀ z,z∈ss↔z∈ag n)(ht:ag n≠[]):lw n ss % 2=1↔(bf n).length=1:=by
 constructor
 ·intro h;refine CN λk=>?_;have:0 < (bf n).length:=by
   obtain⟨z,hz⟩:=Do _ ht;obtain⟨p,p1,_⟩:=tE T (k:=0) (by decide) hz;obtain⟨w,hw,_⟩:=pR p1;have:=(Ac.mp hw).1;omega
  have:=Zt T hN h0 hf hs hm (by omega);omega
 ·exact Zr T hN h0 hf hs hm
end
end Nt
namespace L2
open PySem PySem.Spec PyProof.Rows
theorem Zx{X:Cx}{σ:St}{H:Hp}{D:Ends}{rest:List Stmt}{e:Expr}{op:Operator}{i6:kj}{pos pos':Pos}(i:Nat){x:Str}{v:V}(hN:X.N.Nodup)(ho:oC X op i6)(h:Ev X e σ H λy H1=>i6 v y H1 λz H2=>Run X rest D (σ.set i<|some z) H2)
  (hv:σ[i]?=some (some v):=by rfl) (hi:X.N[i]?=some x:=by rfl) (hx:Loc X.env.scope x:=by first | exact Or.inl rfl | exact Or.inr rfl) (hf:X.fn x=true\/X.env.scope.names.lookup x=some .local:=by first | exact .inl rfl | exact .inr rfl) :
  Run X (.AugAssign (.Name x pos') op e pos :: rest) D σ H:=iw (Pb hN hi hx bw ho hf) ⟨v,hv,h⟩
end L2
namespace Y3
open PySem L2 Nt bJ
abbrev bb(e:Nt.End):List Key:=[Sum.inl (e.1:Int),Sum.inl (e.2:Int)]
theorem N5{a b:Nt.End}(h:bb a=bb b):a=b:=by
 have h1:=List.cons.inj h;have h2:=(List.cons.inj h1.2).1;have e1:=Sum.inl.inj h1.1;have e2:=Sum.inl.inj h2;exact FJ (by omega)<|by omega
structure Seen(n:Net)(kvs:List<|List Key×V)(told:List Str):Prop where
 mem:∀ e∈ends n,(aB kvs<|bb e).isSome=true↔av n e∈told
theorem Seen.put{n:Net}(T:aq n){kvs:List (List Key×V)}{told:List Str}(h:Seen n kvs told){x:Nt.End}(hx:x∈ends n)(u v:V):Seen n (putK (putK kvs (bb x) u) (bb<|other n x) v) (told++[av n x]):=⟨λa ha=>by
 have ox:av n (other n x)=av n x:=by
  obtain⟨z,hz⟩:=af.mp hx;rw [cO hz,cO (cF T hz).1]
 rw [cZ,Aq,Am]
 by_cases c:bb a=bb (other n x)
 ·rw [BL c,N5 c];exact⟨λ_=> .inr ox,λ_=>rfl⟩
 ·rw [BJ c,cZ]
  by_cases d:bb a=bb x
  ·rw [BL d,N5 d];exact⟨λ_=> .inr rfl,λ_=>rfl⟩
  ·rw [BJ d,h.mem a ha];refine⟨.inl,λk=>k.elim id λe=>?_⟩
   rcases pM T hx ha e.symm with q | q
   ·exact absurd (by rw [q]) d
   ·exact absurd (by rw [q]) c⟩
theorem Zy{n:Net}(T:aq n){e:Nt.End}(he:e∈ends n){told:List Str}(C:oi n told)(hn:av n e∉told){k:Nat}(p:gg n e k){j:Nat}(hj:j < k):av n (it (two n) j e)∉told++(List.range j).map λi=>av n (it (two n) i e):=λhm=>by
 rcases Aq.mp hm with h | h
 ·exact hn<|(D5 T C he j).mp h
 ·obtain⟨i,hi,q⟩:=Aj.mp h;have hi:=Ca.mp hi;have nd:=(wo T [e] [] (λa ha=>by rw [Am.mp ha];exact he)<|D6 n).nd;have e1:cK n [e] []=[walker n e]:=by
   unfold cK;rw [BJ λz=>nomatch z];rfl
  rw [e1,Bt,List.flatMap_nil,Be] at nd;have e2:ah (walker n e)=(List.range k).map λi=>it (two n) i e:=tD p;rw [e2,Bi] at nd;have a1:((List.range k).map<|(av n) ∘ λi=>it (two n) i e)[i]?=some (av n<|it (two n) j e):=by
   rw [Ag,Cc<|by omega];exact BZ some q
  have a2:((List.range k).map<|(av n) ∘ λi=>it (two n) i e)[j]?=some (av n<|it (two n) j e):=by
   rw [Ag,Cc hj];rfl
  have:=vW nd a1 a2;omega
def EF:Sp:=λvs H Q _=>∃(R:Addr) (as:List<|Addr×Addr) (n:Net),vs=[.ref R]/\aj H R as n/\aq n/\n.length<=60/\(ag n).length<=60/\∀(H':Hp),ak H H'->Q (.int ((bf n).length:Nat)) H'
theorem Zz(n:Net):(aU n).length=(ag n).length:=by
 have:=BZ List.length<|iB n 0;rw [Aa] at this;exact this
section
variable{P:Program}{w:World}{K:PySem.W.Frag}{mg:Str->Option Value}{base:Heap}
abbrev ZA:List Str:=["_law_rows","_law_seats_here","_law_met","_law_many","_law_r","_law_place","_law_end","_law_turn"]
theorem tH:ao ZA ["_law_rows"] (bm yT):=⟨rfl,rfl,rfl,by decide +kernel,rfl,by decide +kernel,by decide +kernel⟩
theorem ZC{f:Addr}{fd:FuncData}(F:bM K "_law_walks" "_law_walks" yT f fd)(T:Txt mg)
  (GS:aY P w K mg base 2 "_law_seats" ["_law_rows"] uU) (GO:aY P w K mg base 2 "_law_other" ["_law_rows","_law_seats_here","_law_end"] uV)
  (GT:aY P w K mg base 2 "_law_step" ["_law_rows","_law_seats_here","_law_end","_law_turn"] uW) :
  aI P w K mg base bH 3 f fd ["_law_rows"] EF:=by
 refine F.gb tH (λvs H Q E h=>?_) λb0 H vs Q E hr h=>?_
 ·obtain⟨R,as,n,rfl,_⟩:=h;rfl
 obtain⟨R,as,n,rfl,hR,hT,hn,lg,q⟩:=h;have nd:=tH.nd;have hu:=hr.u1;have rB:=iD n;have bV:=hR.len;have B1:=Zz n;show Run _ _ _ [some<|.ref R,none,none,none,none,none,none,none] H;refine aQ 1 nd (bN GS hr<|ai<|ae 0<|aD ⟨R,as,n,rfl,hR,by omega,by omega,λds ks H1 s1 n1 EG=>?_⟩);refine aQ 2 nd<|Il λd hd=>?_;have s2:ak H1 (upd H1 d<|.dT []):=a9 hd _;have N6:(upd H1 d<|.dT []) d=some (.dT []):=aC;refine aQ 3 nd<|aA ?_;show Run _ _ _ [some<|.ref R,some<|.ref ds,some<|.ref d,some<|.int ((0:Nat):Int),none,none,none,none] (upd H1 d<|.dT []);generalize upd H1 d (.dT [])=H2 at s2 N6
 let St:List (Str×Nt.End)->Nat->Hp->Prop:=λdone cnt H'=>∃(kvs:List<|List Key×V) (told:List Str),ak H1 H'/\H' d=some (.dT kvs)/\Seen n kvs told/\oi n told/\kvs.length<=200 * cnt/\cnt<=done.length /\
  ∀ rest,ends n=done.map (·.2)++rest->(bf n).length=cnt+(cK n rest told).length
 have vk:(as.map λa=>V.ref a.1).length=n.length:=by rw [Aa,bV]
 refine i8 T.range<|cI dC T.len CW<|ai<|ae 0<|aD ⟨R,_,rfl,.inl<|au.of<|s2 _ _<|s1 _ _ hR.lst,?_⟩;rw [vk];refine⟨(n.length:Int),rfl,by omega,by omega,i' (n:=n.length) (λr σ H'=>∃(cnt:Nat) (u4 u5 u6 u7:Option V),St (aU<|n.take r) cnt H'/\σ=[some<|.ref R,some<|.ref ds,some<|.ref d,some<|.int (cnt:Int),u4,u5,u6,u7])
  ⟨0,_,_,_,_,⟨[],[],s2,N6,⟨λe _=>by simp [aB]⟩,D6 n,Al _,Bo _,λrest h=>by rw [Em];show(cK n (ends n) []).length=_;rw [h];rfl⟩,rfl⟩ ?_ ?_⟩
 ·rintro r σ H' hi ⟨cnt,u4,u5,u6,u7,st,rfl⟩;refine bz 4 nd ?_;rw [Dl];have sm:ak H1 H':=by obtain⟨_,_,sm,_⟩:=st;exact sm
  have vt:=(hR.same s1).same sm;obtain⟨a,ea,dL,et,el,er⟩:=vt.at hi;have fD:(row n r).length<=60:=Cd (hV n r) lg;have ZD:St (aU (n.take r)++aW r ((row n r).take 0) 0) cnt H':=by
   have:aW r ((row n r).take 0) 0=[]:=by simp [aW]
   rw [this,Be];exact st
  refine i8 T.range<|cI dC T.len CW<|ai<|a8 cu<|a8 cC<|ae 0<|ae 4 ⟨R,_,_,.ref a.1,rfl,rfl,au.of vt.lst,dL,aA ⟨a.1,_,_,.ref a.2,rfl,rfl,aP.of et,rfl,aD ⟨a.2,_,rfl,.inl<|au.of el,?_⟩⟩⟩;rw [Aa];refine⟨((row n r).length:Int),rfl,by omega,by omega,i' (n:=(row n r).length) (λp σ H'=>∃(cnt:Nat) (u5 u6 u7:Option V),St (aU (n.take r)++aW r ((row n r).take p) 0) cnt H'/\σ=[some<|.ref R,some<|.ref ds,some<|.ref d,some<|.int (cnt:Int),some<|.int (r:Int),u5,u6,u7])
   ⟨cnt,_,_,_,ZD,rfl⟩ ?_ ?_⟩
  ·rintro p σ H3 hp ⟨cnt,u5,u6,u7,⟨kvs,told,sm3,N7,sn,C,qW,qD,wy⟩,rfl⟩;rw [Dl];have hz:(row n r)[p]?=some (row n r)[p]:=Ab hp;have iF:=kF (r:=r) hz;obtain⟨rest,cY⟩:=pq hi hz;have jo:aJ n (r,p)=some (row n r)[p]:=hz;generalize (row n r)[p]=z at hz iF cY jo;have he:((r,p):Nt.End)∈ends n:=af.mpr ⟨z,jo⟩;have lD:ends n=(aU (n.take r)++aW r ((row n r).take p) 0).map (·.2)++(r,p) :: rest.map (·.2):=by
    unfold ends;rw [cY,Ah];rfl
   have dl:(aU (n.take r)++aW r ((row n r).take p) 0).length < 60:=by
    have:=BZ List.length cY;rw [Af,An] at this;omega
   have gA:∀ dv,ends n=(aU (n.take r)++aW r ((row n r).take<|p+1) 0).map (·.2)++dv->dv=rest.map (·.2):=λdv h=>by
    rw [iF,<- Ao,Ah,Ao,lD] at h;exact((List.cons.inj<|List.append_cancel_left h).2).symm
   have ln1:(aU (n.take r)++aW r ((row n r).take<|p+1) 0).length=(aU (n.take r)++aW r ((row n r).take p) 0).length+1:=by rw [iF,<- Ao,Af];rfl
   have tI:=wy _ lD;refine bz 5 nd ?_;refine aQ 6 nd<|eg<|ai<|ae 4<|ai<|ae 5<|aD ⟨Z2,λt ht=>?_⟩;have sT:=a9 ht<|Tp (r,p);have om:=sT _ _ N7;have EH:=sm3.trans sT;have pT:(upd H3 t<|Tp (r,p)) t=some (Tp (r,p)):=aC;show Run _ _ _ [some<|.ref R,some<|.ref ds,some<|.ref d,some<|.int (cnt:Int),some<|.int (r:Int),some<|.int (p:Int),some<|.ref t,u7] (upd H3 t<|Tp (r,p));generalize upd H3 t (Tp (r,p))=H4 at sT om EH pT;generalize hx:((r,p):Nt.End)=x at *;have td:t≠d:=bW pT om λz=>nomatch z
   by_cases c:av n x∈told
   ·
    have yes:=(sn.mem x he).mpr c;refine fX<|uq hu<|ae 6<|ae 2 ⟨d,_,rfl,aZ.t (k:=bb x) om pT,?_⟩;rw [yes];refine b4<|bg<|aQ 7 nd<|aA ?_;show Run _ _ _ [some<|.ref R,some<|.ref ds,some<|.ref d,some<|.int (cnt:Int),some<|.int (r:Int),some<|.int (p:Int),some<|.ref t,some<|.int 1] H4;refine oS (λm σ H'=>m=0/\H'=H4/\σ=[some<|.ref R,some<|.ref ds,some<|.ref d,some<|.int (cnt:Int),some<|.int (r:Int),some<|.int (p:Int),some<|.ref t,some<|.int 1]) (m0:=0) ⟨rfl,rfl,rfl⟩ ?_;rintro m σ H' ⟨rfl,rfl,rfl⟩;refine oN<|qM<|eB gK<|ae 7<|mw lV<|aA ⟨1,rfl,rfl,_,rfl,?_⟩;refine b4<|xR<|uq hu<|ae 6<|ae 2 ⟨d,_,rfl,aZ.t (k:=bb x) om pT,?_⟩;rw [yes];refine b4 (bg ⟨cnt,_,_,_,⟨kvs,told,EH,om,sn,C,qW,by omega,λdv h=>?_⟩,rfl⟩);rw [tI,gA dv h];show _+(if av n x∈told then cK n (rest.map (·.2)) told else _).length=_;rw [BL c]
   ·have pK:(aB kvs<|bb x).isSome=false:=by
     cases hv:(aB kvs<|bb x).isSome with
     | false=>rfl
     | true=>exact absurd ((sn.mem x he).mp hv) c
    obtain⟨k,pr,kl⟩:=nh hT he;have k0:=pr.pos;refine fX<|uq hu<|ae 6<|ae 2 ⟨d,_,rfl,aZ.t (k:=bb x) om pT,?_⟩;rw [pK];refine bP<|Zx 3 nd F1<|aA ⟨_,_,rfl,rfl,bg<|aQ 7 nd<|aA ?_⟩;show Run _ _ _ [some<|.ref R,some<|.ref ds,some<|.ref d,some<|.int ((cnt+1:Nat):Int),some<|.int (r:Int),some<|.int (p:Int),some<|.ref t,some<|.int 1] H4;refine oS (λm σ H'=>∃(j:Nat) (b7:List<|List Key×V) (u:Addr),ak H1 H'/\H' d=some (.dT b7)/\j<=k /\
     ((m=2 * (k - j)/\b7.length<=200 * cnt+2 * j/\Seen n b7 (told++(List.range j).map λi=>av n<|it (two n) i x)/\H' u=some (Tp<|it (two n) j x)/\σ=[some<|.ref R,some<|.ref ds,some<|.ref d,some<|.int ((cnt+1:Nat):Int),some<|.int (r:Int),some<|.int (p:Int),some<|.ref u,some<|.int 1]) \/
     (j < k/\m=2 * (k - j) - 1/\b7.length<=200 * cnt+2 * (j+1)/\Seen n b7 (told++(List.range<|j+1).map λi=>av n<|it (two n) i x)/\H' u=some (Tp<|go 1 n<|it (two n) j x)/\σ=[some<|.ref R,some<|.ref ds,some<|.ref d,some<|.int ((cnt+1:Nat):Int),some<|.int (r:Int),some<|.int (p:Int),some<|.ref u,some<|.int (-1)])))
     (m0:=2 * (k - 0)) ⟨0,kvs,t,EH,om,Bo _,.inl ⟨rfl,by omega,by rw [List.range_zero,QV,Be];exact sn,pT,rfl⟩⟩ ?_
    rintro m σ H5 ⟨j,b7,u,lv,tJ,jk,⟨rfl,ZE,pU,eu,rfl⟩ | ⟨jl,rfl,ZE,pU,eu,rfl⟩⟩
    ·have oo:=gC hT he j;refine oN<|qM<|eB gK<|ae 7<|mw lV<|aA ⟨1,rfl,rfl,_,rfl,?_⟩;refine b4<|xR<|uq hu<|ae 6<|ae 2 ⟨d,_,rfl,aZ.t (k:=bb<|it (two n) j x) tJ eu,?_⟩
     by_cases e:j=k
     ·subst e;have yes:(aB b7<|bb<|it (two n) j x).isSome=true:=(pU.mem _ oo).mpr<|by
       rw [pr.back];exact Ap _<|Aj.mpr ⟨0,Ca.mpr k0,rfl⟩
      rw [yes];have ob:(ah<|walker n x).map (av n)=(List.range j).map λi=>av n (it (two n) i x):=by
       have:ah (walker n x)=(List.range j).map λi=>it (two n) i x:=tD pr;rw [this,Bi];rfl
      refine b4<|bg ⟨cnt+1,_,_,_,⟨b7,_,lv,tJ,pU,?_,by omega,by omega,λdv h=>?_⟩,rfl⟩
      ·rw [<- ob];intro y hy;rw [Aq,Aq];exact or_congr (C y hy)<|Nj hT he y hy
      ·rw [tI,gA dv h];show _+(if av n x∈told then _ else walker n x :: cK n (rest.map (·.2)) (told++(ah<|walker n x).map (av n))).length=_;rw [BJ c,ob,An];omega
     ·have jl:j < k:=by omega
      have no:(aB b7<|bb<|it (two n) j x).isSome=false:=by
       cases hv:(aB b7<|bb<|it (two n) j x).isSome with
       | false=>rfl
       | true=>exact absurd ((pU.mem _ oo).mp hv)<|Zy hT he C c pr jl
      rw [no];have N8:u≠d:=bW eu tJ λz=>nomatch z;refine bP<|fX<|eB gK<|ae 7<|aA ⟨rfl,_,rfl,?_⟩;rw [BW rfl];refine bP ?_;refine oT hu (Ho<|ae 2<|ae 6 ⟨d,_,rfl,bQ.t (k:=bb<|it (two n) j x) tJ eu (cn<|by omega),?_⟩);have l1:=fq b7 (bb<|it (two n) j x)<|.bl true;have wz:ak H1 (upd H5 d<|.dT<|putK b7 (bb<|it (two n) j x)<|.bl true):=dJ lv hd;have N9:(upd H5 d<|.dT<|putK b7 (bb<|it (two n) j x)<|.bl true) d=some (.dT<|putK b7 (bb<|it (two n) j x)<|.bl true):=aC;have EI:(upd H5 d<|.dT<|putK b7 (bb<|it (two n) j x)<|.bl true) u=some (Tp<|it (two n) j x):=by rw [aw N8];exact eu
      generalize upd H5 d (.dT<|putK b7 (bb<|it (two n) j x)<|.bl true)=H6 at wz N9 EI;have zI:=(hR.same s1).same wz;refine oT hu (Ho<|ae 2<|bN GO hr<|ai<|ae 0<|ai<|ae 1<|ai<|ae 6<|aD ⟨R,ds,u,as,n,ks,_,rfl,zI,EG.same wz,hT,EI,oo,λo ho=>⟨d,_,rfl,bQ.t (k:=bb<|other n<|it (two n) j x) N9 ho (cn<|by omega),bg ?_⟩⟩);have l2:=fq (putK b7 (bb<|it (two n) j x)<|.bl true) (bb<|other n<|it (two n) j x)<|.bl true;have Oa:=pU.put hT oo (.bl true)<|.bl true;generalize putK (putK b7 (bb<|it (two n) j x)<|.bl true) (bb<|other n<|it (two n) j x) (.bl true)=pV at l2 Oa;have kd:ak H1 (upd H6 d<|.dT pV):=dJ wz hd;have Ob:(upd H6 d<|.dT pV) d=some (.dT pV):=aC;have Oc:(upd H6 d<|.dT pV) u=some (Tp<|it (two n) j x):=by rw [aw N8];exact EI
      generalize upd H6 d (.dT pV)=H7 at kd Ob Oc;have nD:=(hR.same s1).same kd;refine aQ 6 nd<|bN GT hr<|ai<|ae 0<|ai<|ae 1<|ai<|ae 6<|ai<|ae 7<|aD ⟨R,ds,u,as,n,ks,_,1,rfl,nD,EG.same kd,hT,Oc,oo,λv H8 s8 nv ev=>?_⟩;refine aQ 7 nd<|mw lV<|ae 7 ⟨1,rfl,?_⟩;refine bg ⟨2 * (k - j) - 1,by omega,j,pV,v,kd.trans s8,s8 _ _ Ob,jk,.inr ⟨jl,rfl,by omega,?_,ev,rfl⟩⟩;rw [Di,Ah,<- Ao];exact Oa
    ·have oo:=d6 (c:=1) hT<|gC hT he j;refine oN<|qM<|eB gK<|ae 7<|mw lV<|aA ⟨1,rfl,rfl,_,rfl,?_⟩;rw [BW rfl];refine bP ?_;refine bP<|fX<|eB gK<|ae 7<|aA ⟨rfl,_,rfl,?_⟩;rw [BR λk=>by cases V.int.inj k];refine b4<|bg ?_;have pc:=(hR.same s1).same lv;refine aQ 6 nd<|bN GT hr<|ai<|ae 0<|ai<|ae 1<|ai<|ae 6<|ai<|ae 7<|aD ⟨R,ds,u,as,n,ks,_,-1,rfl,pc,EG.same lv,hT,eu,oo,λv H8 s8 nv ev=>?_⟩;refine aQ 7 nd<|mw lV<|ae 7 ⟨-1,rfl,?_⟩;exact bg ⟨2 * (k - (j+1)),by omega,j+1,b7,v,lv.trans s8,s8 _ _ tJ,jl,.inl ⟨rfl,by omega,pU,ev,rfl⟩⟩
  ·rintro σ H3 ⟨cnt,u5,u6,u7,st,rfl⟩;refine bg ⟨cnt,_,_,_,_,?_,rfl⟩;rw [mM hi];rwa [Bw] at st
 ·rintro σ H3 ⟨cnt,u4,u5,u6,u7,⟨kvs,told,sm3,N7,sn,C,qW,qD,wy⟩,rfl⟩;rw [Bw] at wy;have:=wy [] (by rw [Be];rfl);have e:(bf n).length=cnt:=this;refine cf<|ae 3 ?_;have:=q H3<|s1.trans sm3;rw [e] at this;exact this
theorem EJ(K:PySem.W.Frag):PySem.W.kitOne K (.type "int") (.type "int")=some true:=by rfl
theorem EK(K:PySem.W.Frag):PySem.W.kitOne K (.type "int") (.type "bool")=some false:=by rfl
theorem EL(K:PySem.W.Frag):PySem.W.kitOne K (.type "list") (.type "list")=some true:=by rfl
def ER:Sp:=λvs H Q _=>∃ i:Int,vs=[.int i]/\Q (.bl true) H
def wA(K:PySem.W.Frag):Sp:=λvs H Q _=>∃(a:Addr) (ns:List Int),vs=[.ref a]/\au K H a (ns.map V.int)/\ns.length<=63/\∀ H',Q (.bl true) H'
theorem EV:ao ["_law_found"] ["_law_found"] (bm yS):=⟨rfl,rfl,rfl,by decide +kernel,rfl,by decide +kernel,by decide +kernel⟩
theorem ZF{f:Addr}{fd:FuncData}(F:bM K "_law_whole" "_law_whole" yS f fd)(T:Txt mg):aI P w K mg base bH 1 f fd ["_law_found"] ER:=by
 refine F.gb EV (λvs H Q E h=>?_) λb0 H vs Q E hr h=>?_
 ·obtain⟨i,rfl,_⟩:=h;rfl
 obtain⟨i,rfl,q⟩:=h;show Run _ _ _ [some<|.int i] H;refine cf<|RE<|cI xL T.yU HD<|ai<|ae 0<|ai<|xQ (.ty "int") T.m9 JC rfl (aD ⟨_,_,_,true,rfl,.int i,EJ K,true,rfl,?_⟩);exact bP<|RF<|RC<|cI xL T.yU HD<|ai<|ae 0<|ai<|xQ (.ty "bool") T.rh PyProof.Rows.boot_bool rfl (aD ⟨_,_,_,false,rfl,.int i,EK K,false,rfl,q⟩)
abbrev NW:List Str:=["_law_script","_law_stem","_law_rows","_law_many","_law_trees","_law_told"]
theorem lE:ao NW ["_law_script"] (bm m8):=⟨rfl,rfl,rfl,by decide +kernel,rfl,by decide +kernel,by decide +kernel⟩
theorem ZG{f:Addr}{fd:FuncData}(F:bM K "law" "law" m8 f fd)(T:Txt mg)(GC:aY P w K mg base 5 "_law_cell_at" ["_law_script","_law_k"]<|uT K)(GB:aY P w K mg base 5 "_law_big" ["_law_script","_law_at"]<|yW K)
  (GN:aY P w K mg base 5 "_law_net_by" ["_law_big_here","_law_most","_law_stem"] zM) (GK:aY P w K mg base 5 "_law_walks" ["_law_rows"] EF) (GP:aY P w K mg base 5 "_law_copy" ["_law_rows"] zU)
  (GY:aY P w K mg base 5 "tree_count" ["rows"] C3) (GS:aY P w K mg base 5 "walkers_of" ["rows"] A1) (GW:aY P w K mg base 5 "_law_whole" ["_law_found"] ER):aI P w K mg base bH 6 f fd ["_law_script"] (wA K):=by
 refine F.gb lE (λvs H Q E h=>?_) λb0 H vs Q E hr h=>?_
 ·obtain⟨a,ns,rfl,_⟩:=h;rfl
 obtain⟨a,ns,rfl,hS,h63,q⟩:=h;have nd:=lE.nd;show Run _ _ _ [some<|.ref a,none,none,none,none,none] H;refine aQ 1 nd (aS cE<|bN GC hr<|ai<|ae 0<|ai<|aA<|aD ⟨a,ns,0,rfl,hS,by decide,λc0=>?_⟩);refine aS w9 (aA<|aA ⟨_,_,rfl,rfl,⟨by decide,by decide,by decide⟩,_,_,rfl,rfl,(by show(0:Int) < 10 ^ (18:Int).toNat;decide),?_⟩);show Run _ _ _ [some<|.ref a,some<|.int<|c0 % 10 ^ (18:Int).toNat,none,none,none,none] H;generalize c0 % 10 ^ (18:Int).toNat=oq;refine aQ 2 nd (bN GN hr<|ai<|aS d9<|aS d9<|aS lU<|bN GB hr<|ai<|ae 0<|ai<|aA<|aD ⟨a,ns,1,rfl,hS,by decide,λb H1 s1=>aA ⟨_,_,rfl,rfl,.inr ⟨by decide,by decide⟩,aA ⟨_,_,rfl,rfl,?_⟩⟩⟩);refine aS cE (bN GC hr<|ai<|ae 0<|ai<|aA<|aD ⟨a,ns,2,rfl,s1.seq hS,by decide,λc2=>aA ⟨_,_,rfl,rfl,(by show(0:Int) < 24;decide),_,_,rfl,rfl,?_⟩⟩);refine ai (aA<|ai<|ae 1<|aD ⟨_,24,_,rfl,by decide,by decide,λR as n H2 s2 n2 hR hT hN hF hf lg lF BE has=>?_⟩);have ZH:((24:Int)).toNat=24:=rfl;rw [ZH] at lg BE;have tK:2<=(ag n).length:=by
  have h1:0<=c2 % 24:=Bq _ (by decide);have h2:c2 % 24 < 24:=Bv _ (by decide);have:(b * 25+1+c2 % 24) % (24+1)=1+c2 % 24:=by omega
  rw [this] at lF;omega
 clear lF;have h0:n≠[]:=hF.some;have ix:0 < n.length:=Co.mpr h0;obtain⟨ss,zp,mem⟩:=zu<|ag n;have key:=Zw hT hN ix hf (zi zp) mem (λk=>by rw [k] at tK;cases tK);show Run _ _ _ [some<|.ref a,some<|.int oq,some<|.ref R,none,none,none] H2;refine aQ 3 nd (bN GK hr<|ai<|ae 2<|aD ⟨R,as,n,rfl,hR,hT,by omega,by omega,λH3 s3=>?_⟩);have jR:=hR.same s3;refine aQ 4 nd (bN GY hr<|ai<|bN GP hr<|ai<|ae 2<|aD ⟨R,as,n,rfl,jR,by omega,λM bs H4 s4 n4 f4 hM=>aD ⟨M,bs,n,rfl,hM,hT,hN,h0,by omega,by omega,hf.1,λls H5 s5 so lm=>?_⟩⟩);rw [YN hT hN so lm zp mem];have pc:=(jR.same s4).same s5;show Run _ _ _ [some<|.ref a,some<|.int oq,some<|.ref R,some<|.int ((bf n).length:Nat),some<|.int<|lw n ss,none] H5;refine aQ 5 nd (bN GS hr<|ai<|bN GP hr<|ai<|ae 2<|aD ⟨R,as,n,rfl,pc,by omega,λM' ZI H6 s6 n6 f6 ZJ=>aD ⟨M',ZI,n,rfl,ZJ,hN,hT,by omega,by omega,λL ls H7 s7 n7 hW f7=>?_⟩⟩);show Run _ _ _ [some<|.ref a,some<|.int oq,some<|.ref R,some<|.int ((bf n).length:Nat),some<|.int<|lw n ss,some<|.ref L] H7;refine fX<|oN<|qM<|Hr<|Hs<|bN GW hr<|ai<|ae 4<|aD ⟨_,rfl,_,rfl,b4 ?_⟩;refine qM<|Hr<|Hs<|cI xL T.yU HD<|ai<|ae 5<|ai<|xQ (.ty "list") T.kK PN rfl (aD ⟨_,_,_,true,rfl,.lst hW.lst,EL K,true,rfl,b4 ?_⟩);refine xR<|eB Gj<|cI dC T.len CW<|ai<|ae 5<|aD ⟨L,_,rfl,.inl<|au.of hW.lst,ae 3 ⟨rfl,_,rfl,?_⟩⟩;rw [Aa,hW.len,BW rfl];refine b4 (bg<|cf<|qK gK<|qK gK<|aS cE<|ae 4<|aA ⟨_,_,rfl,rfl,(by show(0:Int) < 2;decide),aA ⟨rfl,qK gK<|ae 3<|aA ⟨rfl,rfl,?_⟩⟩⟩);have e:decide (V.bl (decide (V.int (lw n ss % 2)=V.int 1))=V.bl (decide (V.int (((bf n).length:Nat):Int)=V.int 1)))=true:=by
  refine BW<|BZ V.bl<|decide_eq_decide.mpr ?_
  constructor
  ·intro k;have:=key.mp<|V.int.inj k;rw [this];rfl
  ·intro k;have:=V.int.inj k;have:=key.mpr (by omega);rw [this]
 have qq:=q H7;rw [<- e] at qq;exact qq
end
end Y3
namespace Y3
open PySem L2
theorem all_mk{l:PySem.W.OpenLaw}{w:World}{K:PySem.W.Frag}{h:Heap}{mg:Str->Option Value}{fa:Addr}(X:K.In h)(G:h.Ns mainGlobals mg)(yd:mg "law" = some (.ref fa))
  (h1:Df K "ends_round" uM) (h2:Df K "ends_in_order" uN) (h3:Df K "turned_left" yH) (h4:Df K "turned_right" yI) (h5:Df K "other_ends" yJ) (h6:Df K "ties_by_end" uO) (h7:Df K "left_steps" uP) (h8:Df K "right_steps" uQ) (h9:Df K "points_of" uR) (EW:Df K "links_of" yK) (EX:Df K "tree_count" yL) (EZ:Df K "tie_table" kJ) (E1:Df K "determinant" mY) (E2:Df K "walkers_of" mZ) (E3:Df K "walker_from" m4) (E4:Df K "_law_cell_at" yM) (E5:Df K "_law_big" m5) (E6:Df K "_law_names" yN) (E7:Df K "_law_seats" yO) (E8:Df K "_law_other" yP) (E9:Df K "_law_step" yQ) (FA:Df K "_law_face" yR) (FC:Df K "_law_put" m6) (FD:Df K "_law_net_by" m7) (FE:Df K "_law_copy" uS) (FG:Df K "_law_whole" yS) (FH:Df K "_law_walks" yT) (hl:Df K "law" m8)
  (z:∀ x∈(["isinstance","tuple","str","int","bool","list","dict","set","enumerate","zip","len","range","sorted","max","all"]:List Str),PySem.W.nsIn K mainGlobals x=some none) :
  ∃ fd:FuncData,(∀(s:Shared) (v:Value),BindsTo s fd ⟨[v],[]⟩ [("_law_script",v)])/\∀ base:Heap,K.In base->base.Ns mainGlobals mg->aI l.prog w K mg base bH 6 fa fd ["_law_script"] (wA K):=by
 have T:Txt mg:=⟨CJ X G (z _<|by simp),CJ X G (z _<|by simp),CJ X G (z _<|by simp),CJ X G (z _<|by simp),CJ X G (z _<|by simp),CJ X G (z _<|by simp),CJ X G (z _<|by simp),CJ X G (z _<|by simp),CJ X G (z _<|by simp),CJ X G (z _<|by simp),CJ X G (z _<|by simp),CJ X G (z _<|by simp),CJ X G (z _<|by simp),CJ X G (z _<|by simp),CJ X G<|z _<|by simp⟩;refine hl.law X G yd (λ_ _ _ _ _ _ s v=> .of_eq rfl) λbase f fd F=>?_;have G1:aY l.prog w K mg base 1 "ends_round" ["row"] rM:=h1.has X G (λ_ _ _ _ _ _=>fu λ_=>rfl) λF=>Wo F T;have G2:aY l.prog w K mg base 2 "ends_in_order" ["rows"] AF:=h2.has X G (λ_ _ _ _ _ _=>fu λ_=>rfl) λF=>Wz F T (G1.mono<|by decide);have G3:aY l.prog w K mg base 1 "turned_left" ["end","many"] (gS λj=>j+1):=h3.has X G (λ_ _ _ _ _ _=>qP λ_ _=>rfl) λF=>Wq F T;have G4:aY l.prog w K mg base 1 "turned_right" ["end","many"] (gS λj=>j - 1):=h4.has X G (λ_ _ _ _ _ _=>qP λ_ _=>rfl) λF=>Wr F T;have G5:aY l.prog w K mg base 2 "other_ends" ["rows"] jV:=h5.has X G (λ_ _ _ _ _ _=>fu λ_=>rfl) λF=>Wv F T (G1.mono<|by decide);have G6:aY l.prog w K mg base 2 "ties_by_end" ["rows"] nO:=h6.has X G (λ_ _ _ _ _ _=>fu λ_=>rfl) λF=>WH F T (G1.mono<|by decide);have G7:aY l.prog w K mg base 3 "left_steps" ["rows"] (gU 1):=h7.has X G (λ_ _ _ _ _ _=>fu λ_=>rfl) λF=>WK F T (G5.mono<|by decide) (G3.mono<|by decide);have G8:aY l.prog w K mg base 3 "right_steps" ["rows"] (gU (-1)):=h8.has X G (λ_ _ _ _ _ _=>fu λ_=>rfl) λF=>WL F T (G5.mono<|by decide) (G4.mono<|by decide);have ZK:aY l.prog w K mg base 1 "walker_from" ["lefts","rights","first"] nW:=E3.has X G (λ_ _ _ _ _ _=>uk λ_ _ _=>rfl) λF=>WO F T;have ZL:aY l.prog w K mg base 4 "walkers_of" ["rows"] A1:=E2.has X G (λ_ _ _ _ _ _=>fu λ_=>rfl) λF=>WU F T (G7.mono<|by decide) (G8.mono<|by decide) (G6.mono<|by decide) (G2.mono<|by decide) (ZK.mono<|by decide);have G9:aY l.prog w K mg base 1 "points_of" ["rows"] C1:=h9.has X G (λ_ _ _ _ _ _=>fu λ_=>rfl) λF=>Yl F T;have ZM:aY l.prog w K mg base 1 "links_of" ["rows"] B2:=EW.has X G (λ_ _ _ _ _ _=>fu λ_=>rfl) λF=>XE F T;have ZN:aY l.prog w K mg base 2 "tie_table" ["rows"] C2:=EZ.has X G (λ_ _ _ _ _ _=>fu λ_=>rfl) λF=>Yq F T (G9.mono<|by decide) (ZM.mono<|by decide);have ZO:aY l.prog w K mg base 1 "determinant" ["table"] CL:=E1.has X G (λ_ _ _ _ _ _=>fu λ_=>rfl) λF=>Yc F T;have ZP:aY l.prog w K mg base 3 "tree_count" ["rows"] C3:=EX.has X G (λ_ _ _ _ _ _=>fu λ_=>rfl) λF=>YK F T (ZN.mono<|by decide) (ZO.mono<|by decide);have Od:aY l.prog w K mg base 1 "_law_cell_at" ["_law_script","_law_k"] (uT K):=E4.has X G (λ_ _ _ _ _ _=>qP λ_ _=>rfl) λF=>UC F T;have ZQ:aY l.prog w K mg base 2 "_law_big" ["_law_script","_law_at"] (yW K):=E5.has X G (λ_ _ _ _ _ _=>qP λ_ _=>rfl) λF=>UG F T (Od.mono<|by decide);have ZR:aY l.prog w K mg base 1 "_law_names" ["_law_stem","_law_many"] yX:=E6.has X G (λ_ _ _ _ _ _=>qP λ_ _=>rfl) λF=>UI F T;have Oe:aY l.prog w K mg base 1 "_law_seats" ["_law_rows"] uU:=E7.has X G (λ_ _ _ _ _ _=>fu λ_=>rfl) λF=>UK F T;have Og:aY l.prog w K mg base 1 "_law_other" ["_law_rows","_law_seats_here","_law_end"] uV:=E8.has X G (λ_ _ _ _ _ _=>uk λ_ _ _=>rfl) λF=>UL F T;have Oh:aY l.prog w K mg base 2 "_law_step" ["_law_rows","_law_seats_here","_law_end","_law_turn"] uW:=E9.has X G (λ_ _ _ _ _ _=>HP λ_ _ _ _=>rfl) λF=>UM F T (Og.mono<|by decide);have ZS:aY l.prog w K mg base 3 "_law_face" ["_law_rows","_law_seats_here","_law_end"] yY:=FA.has X G (λ_ _ _ _ _ _=>uk λ_ _ _=>rfl) λF=>UO F T (Oh.mono<|by decide);have ZT:aY l.prog w K mg base 4 "_law_put" ["_law_rows","_law_big_here","_law_tie","_law_point"] zy:=FC.has X G (λ_ _ _ _ _ _=>HP λ_ _ _ _=>rfl) λF=>VP F T (Oe.mono<|by decide) (ZS.mono<|by decide);have ZU:aY l.prog w K mg base 5 "_law_net_by" ["_law_big_here","_law_most","_law_stem"] zM:=FD.has X G (λ_ _ _ _ _ _=>uk λ_ _ _=>rfl) λF=>V7 F T (ZR.mono<|by decide) (ZT.mono<|by decide);have ZV:aY l.prog w K mg base 1 "_law_copy" ["_law_rows"] zU:=FE.has X G (λ_ _ _ _ _ _=>fu λ_=>rfl) λF=>Wl F T;have ZW:aY l.prog w K mg base 1 "_law_whole" ["_law_found"] ER:=FG.has X G (λ_ _ _ _ _ _=>fu λ_=>rfl) λF=>ZF F T;have ZX:aY l.prog w K mg base 3 "_law_walks" ["_law_rows"] EF:=FH.has X G (λ_ _ _ _ _ _=>fu λ_=>rfl) λF=>ZC F T (Oe.mono<|by decide) (Og.mono<|by decide) (Oh.mono<|by decide);exact ZG F T (Od.mono<|by decide) (ZQ.mono<|by decide) (ZU.mono<|by decide) (ZX.mono<|by decide) (ZV.mono<|by decide) (ZP.mono<|by decide) (ZL.mono<|by decide)<|ZW.mono<|by decide
theorem walk{l:PySem.W.OpenLaw}{q:Program}{loose:List Str}{XP:(Str->Option Value)->Heap->Prop}{YP:World->Heap->Prop}{d:DefRec}{K:Params->PySem.W.Frag}(hn:l.most=some 63)(qE:d.params.defaults=[])
  (hY:∀(w:World) (h:Heap),YP w h->(K w.params).In h)
  (F : ∀ (w : World) (mg : Str → Option Value) (fa : Addr) (h : Heap), (K w.params).In h → h.Ns mainGlobals mg → mg d.name = some (.ref fa) →
   ∃ fd:FuncData,(∀(s:Shared) (u:Value),BindsTo s fd ⟨[u],[]⟩ [("_law_script",u)])/\∀ base:Heap,(K w.params).In base->base.Ns mainGlobals mg->aI l.prog w (K w.params) mg base bH 6 fa fd ["_law_script"] (wA<|K w.params)) :
  PySem.W.WalkO q loose XP YP l.row.toRowW d [] (λf vs=>PySem.call f vs):=
 L2.jD (n:=63) (k:=6) (x:= "_law_script") (CX:=λ_=>bH) (sp:=λw=>wA<|K w.params) hn (by decide) qE ⟨rfl,by decide,by decide⟩ hY F (λ_ _ a ns hl _ hS=>⟨a,ns,rfl,hS,hl,λ_=>rfl⟩) λ_ _ _ _ _ z=>z
end Y3
-- see NOTE.md
namespace PySem.W.Fast
def tw6170451740968234933:=()
def tw9696086110328679863:=()
def tw4906982054618991471:=()
def tw14841292046194999648:=()
def tw9472209170608779666:=()
def tw1916952794986035437:=()
def tw8139105495997115512:=()
def tw10034632308498004072:=()
def tw158884567566994625:=()
def tw13619501387418784851:=()
def tw15521303882241592492:=()
def tw15363362896390707725:=()
end PySem.W.Fast
open PySem PySem.W PyProof.Rows
set_option maxRecDepth 100000 in
set_option maxHeartbeats 0 in
theorem PySem.Challenge.cw_threewebs_k63_whole_odd_with_one_walker_holds : PySem.Challenge.rw_threewebs_k63_whole_odd_with_one_walker.Holds := by
 w_on;o_law;k_head;(case hw=>w_witness2)
 k_fill
 refine Y3.walk (l:=PySem.Challenge.rw_threewebs_k63_whole_odd_with_one_walker) rfl rfl (λw h Y=>PySem.W.kIn_of Y) ?F
 case F=>
  intro w mg fa h KX G qF;refine' Y3.all_mk KX G qF ?h1 ?h2 ?h3 ?h4 ?h5 ?h6 ?h7 ?h8 ?h9 ?EW ?EX ?EZ ?E1 ?E2 ?E3 ?E4 ?E5 ?E6 ?E7 ?E8 ?E9 ?FA ?FC ?FD ?FE ?FG ?FH ?h0 ?zz
  case h1=>refine' L2.aN ?a ?l ?c ?k;(case a=>k_is);(case l=>k_is);(case c=>k_is);(case k=>k_is)
  case h2=>refine' L2.aN ?a ?l ?c ?k;(case a=>k_is);(case l=>k_is);(case c=>k_is);(case k=>k_is)
  case h3=>refine' L2.aN ?a ?l ?c ?k;(case a=>k_is);(case l=>k_is);(case c=>k_is);(case k=>k_is)
  case h4=>refine' L2.aN ?a ?l ?c ?k;(case a=>k_is);(case l=>k_is);(case c=>k_is);(case k=>k_is)
  case h5=>refine' L2.aN ?a ?l ?c ?k;(case a=>k_is);(case l=>k_is);(case c=>k_is);(case k=>k_is)
  case h6=>refine' L2.aN ?a ?l ?c ?k;(case a=>k_is);(case l=>k_is);(case c=>k_is);(case k=>k_is)
  case h7=>refine' L2.aN ?a ?l ?c ?k;(case a=>k_is);(case l=>k_is);(case c=>k_is);(case k=>k_is)
  case h8=>refine' L2.aN ?a ?l ?c ?k;(case a=>k_is);(case l=>k_is);(case c=>k_is);(case k=>k_is)
  case h9=>refine' L2.aN ?a ?l ?c ?k;(case a=>k_is);(case l=>k_is);(case c=>k_is);(case k=>k_is)
  case EW=>refine' L2.aN ?a ?l ?c ?k;(case a=>k_is);(case l=>k_is);(case c=>k_is);(case k=>k_is)
  case EX=>refine' L2.aN ?a ?l ?c ?k;(case a=>k_is);(case l=>k_is);(case c=>k_is);(case k=>k_is)
  case EZ=>refine' L2.aN ?a ?l ?c ?k;(case a=>k_is);(case l=>k_is);(case c=>k_is);(case k=>k_is)
  case E1=>refine' L2.aN ?a ?l ?c ?k;(case a=>k_is);(case l=>k_is);(case c=>k_is);(case k=>k_is)
  case E2=>refine' L2.aN ?a ?l ?c ?k;(case a=>k_is);(case l=>k_is);(case c=>k_is);(case k=>k_is)
  case E3=>refine' L2.aN ?a ?l ?c ?k;(case a=>k_is);(case l=>k_is);(case c=>k_is);(case k=>k_is)
  case E4=>refine' L2.aN ?a ?l ?c ?k;(case a=>k_is);(case l=>k_is);(case c=>k_is);(case k=>k_is)
  case E5=>refine' L2.aN ?a ?l ?c ?k;(case a=>k_is);(case l=>k_is);(case c=>k_is);(case k=>k_is)
  case E6=>refine' L2.aN ?a ?l ?c ?k;(case a=>k_is);(case l=>k_is);(case c=>k_is);(case k=>k_is)
  case E7=>refine' L2.aN ?a ?l ?c ?k;(case a=>k_is);(case l=>k_is);(case c=>k_is);(case k=>k_is)
  case E8=>refine' L2.aN ?a ?l ?c ?k;(case a=>k_is);(case l=>k_is);(case c=>k_is);(case k=>k_is)
  case E9=>refine' L2.aN ?a ?l ?c ?k;(case a=>k_is);(case l=>k_is);(case c=>k_is);(case k=>k_is)
  case FA=>refine' L2.aN ?a ?l ?c ?k;(case a=>k_is);(case l=>k_is);(case c=>k_is);(case k=>k_is)
  case FC=>refine' L2.aN ?a ?l ?c ?k;(case a=>k_is);(case l=>k_is);(case c=>k_is);(case k=>k_is)
  case FD=>refine' L2.aN ?a ?l ?c ?k;(case a=>k_is);(case l=>k_is);(case c=>k_is);(case k=>k_is)
  case FE=>refine' L2.aN ?a ?l ?c ?k;(case a=>k_is);(case l=>k_is);(case c=>k_is);(case k=>k_is)
  case FG=>refine' L2.aN ?a ?l ?c ?k;(case a=>k_is);(case l=>k_is);(case c=>k_is);(case k=>k_is)
  case FH=>refine' L2.aN ?a ?l ?c ?k;(case a=>k_is);(case l=>k_is);(case c=>k_is);(case k=>k_is)
  case h0=>refine' L2.aN ?a ?l ?c ?k;(case a=>k_is);(case l=>k_is);(case c=>k_is);(case k=>k_is)
  case zz=>
   refine' Br.mpr ⟨?_,?_⟩;k_is;refine' Br.mpr ⟨?_,?_⟩;k_is;refine' Br.mpr ⟨?_,?_⟩;k_is;refine' Br.mpr ⟨?_,?_⟩;k_is;refine' Br.mpr ⟨?_,?_⟩;k_is;refine' Br.mpr ⟨?_,?_⟩;k_is;refine' Br.mpr ⟨?_,?_⟩;k_is;refine' Br.mpr ⟨?_,?_⟩;k_is;refine' Br.mpr ⟨?_,?_⟩;k_is;refine' Br.mpr ⟨?_,?_⟩;k_is;refine' Br.mpr ⟨?_,?_⟩;k_is;refine' Br.mpr ⟨?_,?_⟩;k_is;refine' Br.mpr ⟨?_,?_⟩;k_is;refine' Br.mpr ⟨?_,?_⟩;k_is;refine' Br.mpr ⟨?_,?_⟩;k_is;exact λx hx=>nomatch hx

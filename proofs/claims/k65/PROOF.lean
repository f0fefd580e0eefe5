import PyProof.Rows.All
import Wide.All
import OpenK.AllK
import Wide.FinOn
import Lean
import PyProof.EqAt
import PyProof.EqKinds
import PyProof.TupleCall
import KE.KDictLaws
import KE.KDictList
import KE.KDictSum
import KE.KIsAll
import KE.KRevIter
import KE.KSortTup
import KE.KUnpack
import KE.KUnpackStar
import PyProof.AttrMissSeq
import PyProof.CallStr
import PyProof.Conv_int_bool
import PyProof.DictItems
import PyProof.DictIter
import PyProof.DictList
import PyProof.EnumFor
import PyProof.EnumMake
import PyProof.EnumStmt
import PyProof.ExcArgsOwn
import PyProof.ExcAttrAll.ValueError
import PyProof.ExcBaseAll.ValueError
import PyProof.FitsInt
import PyProof.NeKinds
import PyProof.NsDelKeeps
import PyProof.Rows.CatchOwn
import PyProof.Rows.CountFlat
import PyProof.Rows.EnumRows
import PyProof.Rows.FStr
import PyProof.Rows.SeqMore
import PyProof.Rows.SortRev
import PyProof.Rows.SortRuns
import PyProof.Rows.StrSplitJoin
import PyProof.Rows.StrWeight2
import PyProof.Rows.TupDisplay
import PyProof.RulesTry
import PyProof.SetNew
import PyProof.SetRoads
import PyProof.StationsW
import PyProof.StrOps
import PyProof.TupleKey
import PyProof.WalkInts
import PyProof.ZipIter
import PySem.Challenge.RW_threewebs_k65_too_many_trees
abbrev BJ:=@if_neg
abbrev BK:=@if_pos
abbrev BP:=@PySem.wpAny_bind
abbrev BR:=@PyProof.Rows.wpS_bind
abbrev BW:=@PyProof.Rows.wpS_pure
abbrev BX:=@PySem.wpAny_pure
abbrev BZ:=@PySem.W.mg_none_of
abbrev CG:=@decide_eq_false
abbrev CJ:=@congrArg
abbrev CK:=@decide_eq_true
abbrev CN:=@Classical.byContradiction
abbrev CP:=@PySem.wpAny_mono
abbrev CQ:=@of_decide_eq_true
abbrev CT:=@PySem.mem_of_lookup
abbrev CV:=@PyProof.Rows.wpS_forRange
abbrev CW:=@PySem.W.kia_one
abbrev CZ:=@PySem.wpAny_loadPart'
abbrev DG:=@PySem.wpAny_holding
abbrev DK:=@PyProof.Rows.wpS_mono
abbrev DN:=@PyProof.Rows.callWith_type1
abbrev DP:=@if_true
abbrev DQ:=@PySem.wpAny_passesOwn
abbrev DR:=@PySem.wpAny_standAt
abbrev DW:=@if_false
abbrev DX:=@PySem.wpAny_truthy_bool
abbrev DY:=@PySem.sizeLine_eq
abbrev EY:=@PySem.wpAny_comprehension_free
abbrev FJ:=@PySem.PassesOwn.never
abbrev FN:=@decide_eq_true_iff
abbrev FP:=@PySem.W.cellsFrom_some
abbrev FQ:=@PySem.Obj.isFreed_of_fields
abbrev FT:=@PyProof.Rows.boot_isinstance
abbrev FW:=@PySem.W.mg_of
abbrev FZ:=@PyProof.Rows.listUpdate_at
abbrev GJ:=@PyProof.Rows.wpS_get
abbrev GK:=@PySem.W.KasT.kasWp_bind
abbrev GQ:=@PySem.wpAny_Call_Name_kw
abbrev GX:=@PySem.tupleKind_room_in1
abbrev HB:=@PyProof.Rows.boot_sorted
abbrev HD:=@PySem.Obj.data_mapFields
abbrev HF:=@PyProof.Rows.wpS_modify
abbrev HJ:=@PySem.F.plainAttrs_list
abbrev HN:=@PySem.wpAny_newObj_type
abbrev HS:=@bne_self_eq_false
abbrev HW:=@PyProof.Rows.seqEpoch_at
abbrev HX:=@List.Pairwise.sublist
abbrev HY:=@PyProof.Rows.getElem?_mirror_all
abbrev IK:=@PySem.boot_len
abbrev IV:=@PySem.wpAny_setField
abbrev IW:=@PySem.wpAny_field
abbrev JB:=@List.lookup_append
abbrev JC:=@Nat.lt_of_le_of_lt
abbrev JD:=@Int.fdiv_eq_ediv_of_nonneg
abbrev JF:=@List.perm_ext_iff_of_nodup
abbrev JG:=@PySem.wpAny_newList
abbrev JH:=@Array.toList_setIfInBounds
abbrev JK:=@Option.isSome_map
abbrev JL:=@Nat.lt_of_succ_lt
abbrev JM:=@Int.eq_of_mul_eq_mul_left
abbrev JN:=@PySem.codeAny_mono
abbrev JQ:=@List.getElem?_take_of_lt
abbrev JR:=@PySem.seqIndex_neg
abbrev JT:=@Nat.le_of_eq
abbrev JV:=@List.ext_getElem
abbrev JW:=@List.getElem_map
abbrev JX:=@Option.getD_some
abbrev JZ:=@Nat.add_zero
abbrev KC:=@List.map_fst_zip
abbrev KD:=@List.pairwise_singleton
abbrev KH:=@PySem.wpAny_execs_nil
abbrev KJ:=@List.of_mem_zip
abbrev KN:=@List.count_cons
abbrev KQ:=@Int.mul_ne_zero
abbrev KR:=@List.filter_nil
abbrev KY:=@List.nil_append
abbrev KZ:=@PySem.seqIndex_of
abbrev LC:=@Nat.lt_of_succ_lt_succ
abbrev LK:=@Iff.rfl
abbrev LQ:=@Int.mul_le_mul
abbrev LR:=@List.drop_zero
abbrev MF:=@or_false
abbrev MJ:=@List.any_cons
abbrev MK:=@List.map_drop
abbrev MN:=@Nat.zero_add
abbrev MP:=@Int.le_trans
abbrev NK:=@Nat.add_comm
theorem Z8:8<=PySem.sizeLine:=by decide
theorem Z0:0<=PySem.sizeLine:=by decide
theorem Z3:3<=PySem.sizeLine:=by decide
theorem Z2:2<=PySem.sizeLine:=by decide
theorem Z1:1<=PySem.sizeLine:=by decide
set_option Elab.async false
set_option linter.all false
set_option maxRecDepth 100000
set_option maxHeartbeats 4000000
abbrev Aa:=@List.getElem?_eq_getElem
abbrev Ab:=@List.length_map
abbrev Ac:=@List.getElem?_eq_some_iff
abbrev Ad:=@List.getElem?_map
abbrev Ae:=@List.length_append
abbrev Af:=@Nat.le_refl
abbrev Ag:=@List.mem_singleton
abbrev Ah:=@List.mem_cons_self
abbrev Ai:=@List.map_append
abbrev Aj:=@PySem.Heap.get?_push_of_some
abbrev Ak:=@List.mem_map
abbrev Al:=@Array.length_toList
abbrev Am:=@List.mem_cons
abbrev An:=@List.mem_append
abbrev Ao:=@List.mem_append_right
abbrev Ap:=@Array.getElem?_toList
abbrev Aq:=@List.length_take
abbrev Ar:=@List.mem_cons_of_mem
abbrev As:=@List.length_cons
abbrev At:=@List.getElem?_of_mem
abbrev Au:=@List.mem_of_getElem?
abbrev Av:=@List.size_toArray
abbrev Aw:=@Bool.false_ne_true
abbrev Ax:=@Option.map_eq_some_iff
abbrev Ay:=@List.getElem?_append_right
abbrev Az:=@List.getD_eq_getElem?_getD
abbrev Ba:=@List.mem_append_left
abbrev Bb:=@PySem.Heap.lt_size
abbrev Bc:=@List.getElem?_append_left
abbrev Bd:=@List.pairwise_iff_getElem
abbrev Be:=@List.map_map
abbrev Bf:=@List.append_assoc
abbrev Bg:=@List.append_nil
abbrev Bh:=@List.length_range
abbrev Bi:=@List.take_length
abbrev Bj:=@List.nodup_iff_pairwise_ne
abbrev Bk:=@List.map_congr_left
abbrev Bm:=@Nat.lt_of_lt_of_le
abbrev Bn:=@List.take_add_one
abbrev Bo:=@Array.getElem?_eq_getElem
abbrev Bp:=@List.getElem_mem
abbrev Bq:=@List.map_cons
abbrev Br:=@List.getElem?_eq_none
abbrev Bt:=@PySem.Heap.get?_push_size
abbrev Bu:=@Array.toList_append
abbrev Bv:=@List.mem_of_mem_drop
abbrev Bw:=@Nat.zero_le
abbrev Bx:=@PySem.Heap.get?_update_other
abbrev By:=@List.nodup_cons
abbrev Bz:=@Int.emod_nonneg
abbrev Cb:=@List.length_drop
abbrev Cc:=@List.take_append_drop
abbrev Cd:=@Nat.lt_irrefl
abbrev Ce:=@List.mem_range
abbrev Cf:=@List.pairwise_append
abbrev Cg:=@Bool.and_eq_true
abbrev Ch:=@Int.emod_lt_of_pos
abbrev Ci:=@List.mem_of_mem_take
abbrev Cj:=@List.range_succ
abbrev Ck:=@List.length_eq_zero_iff
abbrev Cn:=@List.drop_eq_getElem_cons
abbrev Co:=@Nat.ne_of_lt
abbrev Cp:=@List.take_of_length_le
abbrev Cq:=@List.pairwise_cons
abbrev Cr:=@List.getElem?_range
abbrev Cs:=@List.getElem_of_mem
abbrev Ct:=@List.ext_getElem?
abbrev Cu:=@List.getElem?_cons_succ
abbrev Cv:=@List.length_set
abbrev Cw:=@List.drop_of_length_le
abbrev Cy:=@List.getElem?_zip_eq_some
abbrev Cz:=@List.length_reverse
abbrev Da:=@List.nodup_append
abbrev Db:=@List.length_replicate
abbrev Dc:=@List.length_erase_of_mem
abbrev Dd:=@List.sum_cons
abbrev Dg:=@List.length_zip
abbrev Dh:=@List.getElem?_replicate
abbrev Di:=@List.lookup_cons
abbrev Dj:=@List.all_eq_true
abbrev Dk:=@Nat.le_trans
abbrev Dl:=@List.getElem?_set_self
abbrev Dm:=@List.take_sublist
abbrev Do:=@List.reverse_append
abbrev Dp:=@List.length_nil
abbrev Dq:=@List.mem_of_mem_erase
abbrev Dr:=@List.not_mem_nil
abbrev Ds:=@Option.isSome_iff_exists
abbrev Du:=@List.getElem?_set_ne
abbrev Dv:=@List.lt_irrefl
abbrev Dw:=@List.pairwise_map
abbrev Dx:=@Array.toList_push
abbrev Dy:=@Nat.min_eq_left
abbrev Dz:=@List.map_eq_nil_iff
abbrev Eb:=@List.drop_length
abbrev Ec:=@Bool.false_eq_true
abbrev Ed:=@Array.getElem?_eq_some_iff
abbrev Ee:=@PySem.Heap.get?_update_self
abbrev Ef:=@Nat.le_of_succ_le
abbrev Eh:=@List.mem_erase_of_ne
abbrev Ej:=@Array.toList_reverse
abbrev Ek:=@List.getElem?_set
abbrev El:=@List.nodup_nil
abbrev Em:=@List.mem_reverse
abbrev Ep:=@Nat.add_sub_cancel_left
abbrev Er:=@Nat.ne_of_gt
abbrev Es:=@List.length_pos_of_mem
abbrev Eu:=@Int.zero_add
abbrev Ex:=@Nat.lt_of_le_of_ne
abbrev Ey:=@Nat.sub_self
abbrev Ez:=@Option.toList_some
abbrev Fa:=@List.mem_filter
abbrev Fb:=@List.find?_cons
abbrev Fc:=@Option.map_some
abbrev Fe:=@List.sum_append
abbrev Ff:=@List.length_singleton
abbrev Fg:=@Int.toNat_natCast
abbrev Fh:=@Array.getD_eq_getD_getElem?
abbrev Fi:=@List.drop_sublist
abbrev Fj:=@List.getElem_take
abbrev Fk:=@List.getElem_drop
abbrev Fm:=@List.count_append
abbrev Fn:=@List.mem_zipIdx_iff_le_and_getElem?_sub
abbrev Fo:=@Array.getElem?_setIfInBounds_self_of_lt
abbrev Fp:=@List.perm_cons_erase
abbrev Fq:=@Array.toList_inj
abbrev Fr:=@List.nodup_range
abbrev Fs:=@List.map_snd_zip
abbrev Ft:=@List.filter_cons
abbrev Fu:=@List.exists_mem_of_ne_nil
abbrev Fv:=@List.extract_eq_take_drop
abbrev Fw:=@Int.toNat_of_nonneg
abbrev Fx:=@List.lt_trans
abbrev Fy:=@Bool.eq_iff_iff
abbrev Fz:=@List.filter_append
abbrev Ga:=@List.count_pos_iff
abbrev Gb:=@Nat.le_succ
abbrev Gc:=@List.map_id
abbrev Gd:=@List.map_nil
abbrev Ge:=@List.append_eq_nil_iff
abbrev Gf:=@Nat.zero_lt_of_lt
abbrev Gg:=@List.getElem?_inj
abbrev Gh:=@Array.getElem?_extract
abbrev Gi:=@List.foldl_append
abbrev Gj:=@List.contains_iff_mem
abbrev Gk:=@List.mem_flatMap
abbrev Gm:=@List.getElem_zip
abbrev Gn:=@Array.toList_extract
abbrev Go:=@List.foldl_cons
abbrev Gp:=@List.filterMap_cons
abbrev Gq:=@List.length_pos_iff
abbrev Gr:=@Nat.le_of_lt
abbrev Gs:=@List.map_set
abbrev Gu:=@PySem.Heap.size_push
abbrev Gv:=@List.drop_drop
abbrev Gw:=@List.take_succ
abbrev Gx:=@List.not_lt
namespace L2
open PySem PySem.Spec PyProof.Rows
abbrev Key:=Sum Int Str
def nK:Key->Value->Bool
 | .inl k,v=>Value.isInt k v
 | .inr x,v=>Value.isStrOf x v
def vK(w:World):Key->Int
 | .inl k=>hashInt k
 | .inr x=>hashStr w x
theorem je:∀{k:Key} {v:Value},nK k v=true->(∃ i t,k=Sum.inl i/\v=Value.int i t)\/(∃ x t,k=Sum.inr x/\v=Value.str x t)
 | .inl i,v,h=>by
  obtain⟨t,e⟩:=Value.isInt_shape (k:=i) (v:=v) h;exact .inl ⟨i,t,rfl,e⟩
 | .inr x,v,h=>by
  obtain⟨t,e⟩:=Value.isStrOf_shape (x:=x) (v:=v) h;exact .inr ⟨x,t,rfl,e⟩
theorem Ki(i:Int)(t:Tok):nK (.inl i) (.int i t)=true:=by simp [nK,Value.isInt]
theorem Kj(x:Str)(t:Tok):nK (.inr x) (.str x t)=true:=by simp [nK,Value.isStrOf]
theorem Kk(a b:Int):decide ((Sum.inl a:Key)=Sum.inl b)=(a == b):=by
 by_cases e:a=b
 ·subst e;simp
 ·have h:¬(Sum.inl a:Key)=Sum.inl b:=λq=>e<|Sum.inl.inj q;rw [CG h];exact(beq_eq_false_iff_ne.mpr e).symm
theorem Kl(a b:Str):decide ((Sum.inr a:Key)=Sum.inr b)=decide (a=b):=by
 by_cases e:a=b
 ·subst e;simp
 ·have h:¬(Sum.inr a:Key)=Sum.inr b:=λq=>e<|Sum.inr.inj q;rw [CG h,CG e]
theorem Km(a:Int)(b:Str):decide ((Sum.inl a:Key)=Sum.inr b)=false:=CG λq=>nomatch q
theorem Kn(a:Str)(b:Int):decide ((Sum.inr a:Key)=Sum.inl b)=false:=CG λq=>nomatch q
def eS(prog:Program)(w:World):PySem.KeyKind prog w Key where
 is:=nK
 hash:=vK w
 inj:=λv a b ha hb=>by
  rcases je ha with ⟨i,t,rfl,rfl⟩ | ⟨x,t,rfl,rfl⟩
  ·rcases je hb with ⟨j,u,rfl,e⟩ | ⟨y,u,rfl,e⟩
   ·injection e with e1 _;rw [e1]
   ·exact nomatch e
  ·rcases je hb with ⟨j,u,rfl,e⟩ | ⟨y,u,rfl,e⟩
   ·exact nomatch e
   ·injection e with e1 _;rw [e1]
 byValue:=λk v h=>by
  rcases je h with ⟨i,t,rfl,rfl⟩ | ⟨x,t,rfl,rfl⟩ <;> rfl
 pyHash:=λhv h=>by
  rcases je hv with ⟨i,t,rfl,rfl⟩ | ⟨x,t,rfl,rfl⟩
  ·exact wpAny_pyHash_int h
  ·exact wpAny_pyHash_str h
 eqBool:=λhu hv h=>by
  rcases je hu with ⟨i,t,rfl,rfl⟩ | ⟨x,t,rfl,rfl⟩
  ·rcases je hv with ⟨j,u,rfl,rfl⟩ | ⟨y,u,rfl,rfl⟩
   ·rw [Kk] at h;exact wpAny_eqBool_int h
   ·rw [Km] at h;exact SeqAt.EqAt.int_str i t y u _ _ _ _ h
  ·rcases je hv with ⟨j,u,rfl,rfl⟩ | ⟨y,u,rfl,rfl⟩
   ·rw [Kn] at h;exact SeqAt.EqAt.str_int x t j u _ _ _ _ h
   ·rw [Kl] at h;exact wpAny_eqBool_str h
 «strs»:=λk x t v h=>by
  rcases je h with ⟨i,u,rfl,e⟩ | ⟨y,u,rfl,e⟩
  ·exact nomatch e
  ·injection e with e1 _
   subst e1;cases v <;> rfl
theorem Ko(prog:Program)(w:World)(i:Int)(t:Tok):(eS prog w).is (.inl i) (.int i t)=true:=Ki i t
theorem Kq(prog:Program)(w:World)(x:Str)(t:Tok):(eS prog w).is (.inr x) (.str x t)=true:=Kj x t
inductive V where
 | non | bl (b:Bool) | int (i:Int) | str (x:Str) | gH (b:Array UInt8) | nM (b:UInt64) | ref (a:Addr) | ty (n:String)
 deriving DecidableEq
def RelV:V->Value->Prop
 | .non,u=>u=Value.none
 | .bl b,u=>u=Value.bool b
 | .int i,u=>∃ t,u=Value.int i t
 | .str x,u=>∃ t,u=Value.str x t
 | .gH b,u=>∃ t,u=Value.bytes b t
 | .nM b,u=>∃ t,u=Value.float b t
 | .ref a,u=>u=Value.ref a
 | .ty n,u=>u=Value.type n
abbrev aj:List V->List Value->Prop:=Paired RelV
theorem aj.length{xs:List V}{us:List Value}(r:aj xs us):xs.length=us.length:=Paired.length r
theorem aj.get:∀{xs:List V} {us:List Value} {i:Nat} {x:V},aj xs us->xs[i]?=some x->∃ u,us[i]?=some u/\RelV x u
 | _,_,_,_,.nil,e=>by simp at e
 | _,_,0,_,.cons r _,e=>by simp at e;subst e;exact⟨_,rfl,r⟩
 | _,_,i+1,x,.cons _ t,e=>by
  obtain⟨u,h1,h2⟩:=aj.get (i:=i) (x:=x) t (by simpa using e);exact⟨u,by simpa using h1,h2⟩
theorem aj.set{x:V}{u:Value}(r:RelV x u):∀{xs:List V} {us:List Value} (i:Nat),aj xs us->aj (xs.set i x) (us.set i u)
 | _,_,_,.nil=> .nil
 | _,_,0,.cons _ t=> .cons r t
 | _,_,i+1,.cons q t=> .cons q<|aj.set r i t
theorem aj.append:∀{xs ys:List V} {us ws:List Value},aj xs us->aj ys ws->aj (xs++ys) (us++ws)
 | _,_,_,_,.nil,s=>s
 | _,_,_,_,.cons r t,s=> .cons r<|aj.append t s
theorem aj.take:∀{xs:List V} {us:List Value} (n:Nat),aj xs us->aj (xs.take n) (us.take n)
 | _,_,0,_=> .nil
 | _,_,_+1,.nil=> .nil
 | _,_,n+1,.cons r t=> .cons r<|aj.take n t
theorem aj.drop:∀{xs:List V} {us:List Value} (n:Nat),aj xs us->aj (xs.drop n) (us.drop n)
 | _,_,0,r=>r
 | _,_,_+1,.nil=> .nil
 | _,_,n+1,.cons _ t=>aj.drop n t
def di:Option V->Option Value->Prop
 | some v,some u=>RelV v u
 | none,none=>True
 | _,_=>False
def KV{κ:Type}:List (κ×V)->List (κ×Value)->Prop:=Paired λ(p:κ×V) (q:κ×Value)=>p.1=q.1/\RelV p.2 q.2
def kV:Key->V
 | .inl i=> .int i
 | .inr x=> .str x
inductive HO where
 | lst (xs:List V)
 | tup (xs:List V)
 | dK (kvs:List<|Key×V) | dT (kvs:List<|List Key×V)
 | set (S:Int->Bool) (n:Nat)
 | ins (C dx:Addr) (fs:List<|Str×V)
 | own (x:Addr)
 | xd (fs:List<|Str×V)
 | met (f x:Addr)
 | tR (lo hi:Int)
 | b8 (o:Obj) (u:HO)
 | kr (ps:Array Value)
 | ext (φ:Heap->Prop)
abbrev Hp:=Addr->Option HO
def upd(H:Hp)(a:Addr)(o:HO):Hp:=λb=>if b=a then some o else H b
theorem ae{H:Hp}{a:Addr}{o:HO}:upd H a o a=some o:=by unfold upd;rw [BK rfl]
theorem aG{H:Hp}{a b:Addr}{o:HO}(h:b≠a):upd H a o b=H b:=by unfold upd;rw [BJ h]
theorem A1{H:Hp}{a:Addr}{o u:HO}:upd (upd H a o) a u=upd H a u:=by
 funext b;unfold upd;split <;> rfl
theorem kt{H:Hp}{a b:Addr}{o u:HO}(h:H a=some o)(h':H b=some u)(d:o≠u):a≠b:=by
 intro e;subst e;rw [h] at h';exact d<|Option.some.inj h'
theorem lD{H:Hp}{a b:Addr}{o:HO}(h:H a=some o)(h':H b=none):a≠b:=by
 intro e;subst e;rw [h] at h';cases h'
section
variable(P:Program)(w:World)
def aq(H:Hp)(h:Heap)(a:Addr):HO->Prop
 | .lst xs=>xs.length<=sizeLine/\∃(its:List Value) (n:Nat),aj xs its/\h.get? a=some {cls:= .type "list",data:= .seq its.toArray n}
 | .tup xs=>xs.length<=sizeLine/\∃ its:List Value,aj xs its/\IsTup h a its.toArray
 | .dK kvs=>kvs.length<=sizeLine/\(a == sysModules)=false/\∃ vs,KV kvs vs/\h.DictOf (eS P w) a vs
 | .dT kvs=>kvs.length<=sizeLine/\(a == sysModules)=false/\∃ xs:List<|List Key×Addr×Value,
   Paired (λ(p:List Key×V) (q:List Key×Addr×Value)=>p.1=q.1/\H q.2.1=some (.tup<|p.1.map kV)/\RelV p.2 q.2.2) kvs xs /\
   ∃ o es ep,h.get? a=some o/\o.ExactDict/\o.data = .dict es ep/\es.toList=xs.map (entryOfKey<|tupleKind<|eS P w)/\(xs.map (·.1)).Nodup
 | .set S n=>h.SetOf (intKind P w) a S n
 | .ins C dx fs=>H dx=some (.own a)/\fs.length<=1000/\dx≠a/\h.get? a=some (PySem.W.instObj C dx) /\
   ∃ mA,h.Ns1 dx mA/\(∀ f,di (fs.lookup f)<|mA f)/\PySem.Within mA (fs.map (·.1))
 | .own _=>∃ o,h.get? a=some o
 | .xd fs=>∃ mA,h.Ns1 a mA/\∀ f,di (fs.lookup f)<|mA f
 | .tR lo hi=>∃ t u v,h.get? a=some {cls:= .type "range",data:= .fields #[.int lo t,.int hi u,.int 1 v]}
 | .b8 o u=>h.get? a=some o/\aq H h a u
 | .kr ps=>h.get? a=some {cls:= .none,data:= .fields ps}
 | .met f x=>h.get? a=some (PySem.W.methodObj (.ref f)<|.ref x)
 | .ext φ=>φ h/\(∃ o,h.get? a=some o)/\∀ h1 h2:Heap,φ h1->(∀ o,h1.get? a=some o->h2.get? a=some o)->φ h2
def bK(H:Hp)(h:Heap):Prop:=∀ a o,H a=some o->aq P w H h a o
end
section
variable{P:Program}{w:World}{H H':Hp}{h h':Heap}{a:Addr}{o:HO}
theorem aq.lt(x:aq P w H h a o):a < h.objs.size:=by
 cases o with
 | lst xs=>obtain⟨_,_,_,_,e⟩:=x;exact Bb e
 | tup xs=>obtain⟨_,_,_,p⟩:=x;exact p.lt
 | dK kvs=>obtain⟨_,_,_,_,o,_,_,e,_⟩:=x;exact Bb e
 | dT kvs=>obtain⟨_,_,_,_,o,_,_,e,_⟩:=x;exact Bb e
 | set S n=>obtain⟨o,_,_,_,e,_⟩:=x;exact Bb e
 | ins C dx fs=>obtain⟨_,_,_,e,_⟩:=x;exact Bb e
 | own y=>obtain⟨_,e⟩:=x;exact Bb e
 | xd fs=>obtain⟨_,⟨_,_,_,e,_⟩,_⟩:=x;exact Bb e
 | tR lo hi=>obtain⟨_,_,_,e⟩:=x;exact Bb e
 | b8 ob u=>obtain⟨e,_⟩:=x;exact Bb e
 | kr ps=>exact Bb (show h.get? a=some _ from x)
 | met f y=>exact Bb (show h.get? a=some _ from x)
 | ext φ=>obtain⟨_,⟨_,e⟩,_⟩:=x;exact Bb e
theorem Paired.lF{α β:Type}{F G:α->β->Prop}:∀{l₁:List α} {l₂:List β},Paired F l₁ l₂->(∀ a b,F a b->G a b)->Paired G l₁ l₂
 | _,_,.nil,_=> .nil
 | _,_,.cons r t,f=> .cons (f _ _ r)<|Paired.lF t f
theorem aq.dW(x:aq P w H h a o)(k:∀ b u,(b=a\/H b=some (.own a))->h.get? b=some u->h'.get? b=some u)
  (ho:∀ b,H b=some (.own a)->H' b=some (.own a)) (ht:∀ b xs,H b=some (.tup xs)->H' b=some (.tup xs)):aq P w H' h' a o:=by
 induction o with
 | lst xs=>obtain⟨z,its,n,r,e⟩:=x;exact⟨z,its,n,r,k _ _ (.inl rfl) e⟩
 | tup xs=>obtain⟨z,its,r,ob,e,c⟩:=x;exact⟨z,its,r,ob,k _ _ (.inl rfl) e,c⟩
 | dK kvs=>obtain⟨z,y,vs,r,ob,es,ep,e,c⟩:=x;exact⟨z,y,vs,r,ob,es,ep,k _ _ (.inl rfl) e,c⟩
 | dT kvs=>
  obtain⟨z,y,xs,r,ob,es,ep,e,c⟩:=x;exact⟨z,y,xs,Paired.lF r λp q z=>⟨z.1,ht _ _ z.2.1,z.2.2⟩,ob,es,ep,k _ _ (.inl rfl) e,c⟩
 | set S n=>obtain⟨ob,es,ep,t,e,c⟩:=x;exact⟨ob,es,ep,t,k _ _ (.inl rfl) e,c⟩
 | ins C dx fs=>
  obtain⟨d,z,ne,e,mA,⟨od,es,ep,e2,c⟩,r⟩:=x;exact⟨ho _ d,z,ne,k _ _ (.inl rfl) e,mA,⟨od,es,ep,k _ _ (.inr d) e2,c⟩,r⟩
 | own y=>obtain⟨ob,e⟩:=x;exact⟨ob,k _ _ (.inl rfl) e⟩
 | xd fs=>obtain⟨mA,⟨od,es,ep,e,c⟩,r⟩:=x;exact⟨mA,⟨od,es,ep,k _ _ (.inl rfl) e,c⟩,r⟩
 | tR lo hi=>obtain⟨t,u,v,e⟩:=x;exact⟨t,u,v,k _ _ (.inl rfl) e⟩
 | b8 ob u ih=>obtain⟨e,q⟩:=x;exact⟨k _ _ (.inl rfl) e,ih q⟩
 | kr ps=>
  have e:h.get? a=some {cls:= .none,data:= .fields ps}:=x;show h'.get? a=some {cls:= .none,data:= .fields ps};exact k a _ (.inl rfl) e
 | met f y=>
  have e:h.get? a=some (PySem.W.methodObj (.ref f)<|.ref y):=x;show h'.get? a=some (PySem.W.methodObj (.ref f)<|.ref y);exact k a _ (.inl rfl) e
 | ext φ=>obtain⟨p,⟨o,e⟩,st⟩:=x;exact⟨st _ _ p λo q=>k _ _ (.inl rfl) q,⟨o,k _ _ (.inl rfl) e⟩,st⟩
theorem bK.lt(x:bK P w H h)(e:H a=some o):a < h.objs.size:=(x a o e).lt
theorem bK.fresh(x:bK P w H h)(e:h.objs.size<=a):H a=none:=by
 cases q:H a with
 | none=>rfl
 | some u=>exact absurd (Bm (x.lt q) e)<|Cd _
theorem bK.kept(x:bK P w H h)(k:∀ b u,h.get? b=some u->h'.get? b=some u):bK P w H h':=λa o e=>
 (x a o e).dW (λb u _ q=>k b u q) (λ_ q=>q) λ_ _ q=>q
theorem bK.laid(x:bK P w H h)(k:∀ b u,h.get? b=some u->h'.get? b=some u)(hp:h.objs.size<=a)(new:aq P w (upd H a o) h' a o):bK P w (upd H a o) h':=λb u e=>by
 have hn:=x.fresh hp
 by_cases hb:b=a
 ·subst hb;rw [ae] at e;cases e;exact new
 ·rw [aG hb] at e;exact(x b u e).dW (λc v _ q=>k c v q) (λc q=>by rw [aG<|lD q hn];exact q) λc xs q=>by rw [aG<|lD q hn];exact q
end
def Rd(H:Hp)(a:Addr)(u:HO):Prop:=H a=some u\/∃ o,H a=some (.b8 o u)
theorem Rd.ok{P:Program}{w:World}{H:Hp}{h:Heap}{a:Addr}{u:HO}(r:Rd H a u)(x:bK P w H h):aq P w H h a u:=by
 rcases r with r | ⟨o,r⟩
 ·exact x a u r
 ·obtain⟨_,q⟩:=x a _ r;exact q
def o1:Option HO->Prop
 | some (.lst _)=>True
 | some (.dK _)=>True
 | some (.dT _)=>True
 | some (.set _ _)=>True
 | some (.ins _ _ _)=>True
 | some (.ext _)=>True
 | _=>False
section
variable{P:Program}{w:World}{H:Hp}{h h':Heap}{x e:Addr}{o':HO}
theorem bK.write(ok:bK P w H h)(mu:o1<|H x)(he:e=x\/H e=some (.own x))(k:∀ b u,b≠e->h.get? b=some u->h'.get? b=some u)(nN:∃ u,h'.get? e=some u)
  (new:aq P w (upd H x o') h' x o'):bK P w (upd H x o') h':=λb u q=>by
 have o5:∀ c y,H c=some (.own y)->c≠x:=λc y r z=>by subst z;rw [r] at mu;exact mu
 have vL:∀ c xs,H c=some (.tup xs)->c≠x:=λc xs r z=>by subst z;rw [r] at mu;exact mu
 by_cases hb:b=x
 ·subst hb;rw [ae] at q;cases q;exact new
 ·rw [aG hb] at q
  by_cases lG:b=e
  ·have q':H b=some (.own x):=by
    rcases he with z | z
    ·exact absurd (lG.trans z) hb
    ·rw [lG];exact z
   rw [q] at q';cases q';obtain⟨v,hv⟩:=nN;exact⟨v,by rw [lG];exact hv⟩
  ·refine(ok b u q).dW (λc v hc r=>k c v ?_ r) (λc r=>by rw [aG<|o5 c b r];exact r) λc xs r=>by rw [aG<|vL c xs r];exact r
   rcases hc with rfl | hc
   ·exact lG
   ·rintro rfl
    rcases he with z | z
    ·exact o5 c b hc z
    ·rw [hc] at z;cases z;exact hb rfl
end
structure Un(fs ex:List Addr)(H H':Hp)(h h':Heap):Prop where
 keep:∀ b o,h.get? b=some o->H b=none->b∉fs->b∉ex->h'.get? b=some o
 slot:∀ b o,h.get? b=some o->H b=none->b∈fs->b∉ex->∃ sl,h'.get? b=some {o with slots:=sl}
 free:∀ b o,h.get? b=some o->H b=none->b∉ex->H' b=none
 there:∀ b o,h.get? b=some o->b∉ex->∃ o',h'.get? b=some o'
 dj:∀ b xs,H b=some (.tup xs)->H' b=some (.tup xs)
 cS:∀ b o u,H b=some (.b8 o u)->H' b=some (.b8 o u)
 dk:∀ b ps,H b=some (.kr ps)->∃ more,H' b=some (.kr<|ps++more)
section
variable{fs Kr ex A2:List Addr}{H H1 H2:Hp}{h h1 h2 h':Heap}{a x e:Addr}{o:HO}
theorem Un.any(u:Un fs ex H H1 h h1){b:Addr}{ob:Obj}(q:h.get? b=some ob)(n:H b=none)(hx:b∉ex):∃ sl,h1.get? b=some {ob with slots:=sl}:=by
 by_cases hb:b∈fs
 ·exact u.slot b ob q n hb hx
 ·exact⟨ob.slots,u.keep b ob q n hb hx⟩
theorem Un.kept(k:∀ b u,h.get? b=some u->h'.get? b=some u):Un fs ex H H h h':=
 ⟨λb ob q _ _ _=>k b ob q,λb ob q _ _ _=>⟨ob.slots,k b ob q⟩,λ_ _ _ n _=>n,λb ob q _=>⟨ob,k b ob q⟩,λ_ _ q=>q,λ_ _ _ q=>q,λ_ ps q=>⟨#[],by rw [q];simp⟩⟩
theorem Un.refl:Un fs ex H H h h:=Un.kept λ_ _ q=>q
theorem Un.laid(k:∀ b u,h.get? b=some u->h'.get? b=some u)(hp:h.objs.size<=a)(hn:H a=none):Un fs ex H (upd H a o) h h' where
 keep:=λb u q _ _ _=>k b u q
 slot:=λb u q _ _ _=>⟨u.slots,k b u q⟩
 free:=λb u q n _=>by rw [aG<|Co<|Bm (Bb q) hp];exact n
 there:=λb u q _=>⟨u,k b u q⟩
 dj:=λb xs q=>by rw [aG<|lD q hn];exact q
 cS:=λb u xs q=>by rw [aG<|lD q hn];exact q
 dk:=λb ps q=>⟨#[],by rw [aG<|lD q hn,q];simp⟩
theorem Un.write(mu:o1<|H x)(he:e=x\/H e=some (.own x))(k:∀ b u,b≠e->h.get? b=some u->h'.get? b=some u)(nN:∃ u,h'.get? e=some u):Un fs ex H (upd H x o) h h':=by
 have hx:∀ b,H b=none->b≠x:=λb n z=>by subst z;rw [n] at mu;exact mu
 have hb:∀ b,H b=none->b≠e:=λb n z=>by
  subst z
  rcases he with r | r
  ·exact hx b n r
  ·rw [n] at r;cases r
 have hm:∀ b u,H b=some u->¬ o1 (some u)->b≠x:=λb u q nm z=>by subst z;rw [q] at mu;exact nm mu
 refine⟨λb u q n _ _=>k b u (hb b n) q,λb u q n _ _=>⟨u.slots,k b u (hb b n) q⟩,λb u q n _=>by rw [aG<|hx b n];exact n,λb u q _=>?_,
  λb xs q=>by rw [aG<|hm b _ q λz=>z];exact q,λb u xs q=>by rw [aG<|hm b _ q λz=>z];exact q,λb ps q=>⟨#[],by rw [aG<|hm b _ q λz=>z,q];simp⟩⟩
 by_cases lG:b=e
 ·subst lG;exact nN
 ·exact⟨u,k b u lG q⟩
end
def tS(h:Heap)(H:Hp):List Addr:=(List.range h.objs.size).filter λa=>(H a).isSome
def dX(h:Heap)(H:Hp):Heap:=PySem.W.hideAll h<|tS h H
theorem Ks(h:Heap)(H:Hp):(dX h H).objs.size=h.objs.size:=PySem.W.hideAll_size _ _
theorem Kt{h:Heap}{H:Hp}{b:Addr}{o:Obj}(e:h.get? b=some o)(n:H b=none):(dX h H).get? b=some o:=
 PySem.W.hideAll_get _ e λhm=>by
  have q:(H b).isSome=true:=(Fa.mp hm).2;rw [n] at q;simp at q
theorem Ku{h:Heap}{H:Hp}{b:Addr}{o:Obj}(e:(dX h H).get? b=some o):h.get? b=some o/\H b=none:=by
 have e':h.get? b=some o:=PySem.W.of_hideAll (tS h H) e;refine⟨e',?_⟩;cases q:H b with
 | none=>rfl
 | some x=>
  have hm:b∈tS h H:=Fa.mpr ⟨Ce.mpr<|Bb e',by simp [q]⟩;have z:(dX h H).get? b=none:=PySem.W.hideAll_none (tS h H) hm;rw [z] at e;cases e
structure Mod(K:PySem.W.Frag)(mg:Str->Option Value)(base:Heap):Prop where
 o6:K.In base
 glob:base.Ns mainGlobals mg
 blt:∃ mb,base.Ns builtinsNs mb/\∀ x:Str,x ≠ "__name__"->mb x=bootBuiltins x
 nolimit:base.NoLimit
structure Cx where
 prog:Program
 w:World
 K:PySem.W.Frag
 mg:Str->Option Value
 base:Heap
 A:Around
 N:List Str
 s₀:Shared
 H₀:Hp
 env:Env
 outer:List Env
 stack:List Env
 ex:List Addr
 fn:Str->Bool
 calm:Bool
 pn:List<|Addr×Obj
 xe:Value->Shared->Prop
def cF(l:List Env):List Addr:=l.filterMap (·.frame)
abbrev Cx.fs(X:Cx):List Addr:=cF X.outer
def vM(sc:Scope)(x:Str):Prop:=sc.names.lookup x=some .local\/sc.names.lookup x=some .cell\/sc.names.lookup x=some .free
def Loc(sc:Scope)(x:Str):Prop:=sc.names.lookup x=some .local\/sc.names.lookup x=some .cell
def Look(env:Env)(h:Heap)(m:Str->Option Value)(x:Str)(u:Value):Prop:=
 (env.kindOf x=some .local/\m x=some u)\/((env.kindOf x=some .cell\/env.kindOf x=some .free)/\∃ c,env.cells.lookup x=some c/\h.IsCell c (some u))
structure Cx.Ok(X:Cx):Prop where
 mod:Mod X.K X.mg X.base
 kind:X.env.scope.kind = .function
 glob:X.env.globals=mainGlobals
 blt:X.env.builtins=builtinsNs
 above:X.s₀.heap.objs.size<=X.env.locals
 inj:∀ x y c,X.env.cells.lookup x=some c->X.env.cells.lookup y=some c->x=y
 has:∀ x,(X.env.kindOf x=some .cell\/X.env.kindOf x=some .free)->∃ c,X.env.cells.lookup x=some c
 jz:∀ x c,X.fn x=true->X.env.cells.lookup x=some c->X.s₀.heap.objs.size<=c
 hd:X.calm=true->X.A.handled=none
 frames:X.A.frames=some X.stack
 g8:X.stack=X.outer\/(X.stack=X.env :: X.outer/\X.env.frame=some X.env.locals)
 nO:∀ b∈X.ex,b≠X.env.locals/\∀ x c,X.env.cells.lookup x=some c->c≠b
 bs:∀ b o,X.base.get? b=some o->X.s₀.heap.get? b=some o/\X.H₀ b=none
 g9:X.base.objs.size<=X.s₀.heap.objs.size
 dY:∀ b o,X.base.get? b=some o->b∉X.ex
 eU:∀ b∈X.ex,b∉X.fs
 bS:X.s₀.heap.FunFrames X.base X.outer
 jf:∀ b∈X.fs,X.H₀ b=none
structure Inv(X:Cx)(pins:List<|Addr×Obj)(σ:List<|Option V)(H:Hp)(s:Shared):Prop where
 ok:X.Ok
 os:s.os=X.s₀.os
 bare:AllBare s.gens
 base:Un X.fs X.ex X.H₀ H X.s₀.heap s.heap
 loc:∃ m,s.heap.Ns X.env.locals m/\∀(i:Nat) (x:Str) (v:V),X.N[i]?=some x->σ[i]?=some (some v)->vM X.env.scope x->∃ u,RelV v u/\Look X.env s.heap m x u
 cell:∀ x c,X.env.cells.lookup x=some c->∃ v,s.heap.IsCell c v
 free:H X.env.locals=none
 aM:∀ x c,X.env.cells.lookup x=some c->H c=none
 pin:∀ p∈X.pn++pins,s.heap.get? p.1=some p.2/\H p.1=none/\p.1≠X.env.locals/\p.1∉X.fs/\∀ v,p.2.data ≠ .cell v
 aw:bK X.prog X.w H s.heap
 len:σ.length=X.N.length
section
variable{X:Cx}{pins:List (Addr×Obj)}{σ:List (Option V)}{H H':Hp}{s:Shared}{h':Heap}
theorem Cx.Ok.vN(ok:X.Ok){b:Addr}{o:Obj}(e:X.base.get? b=some o):b∉X.fs:=λhb=>by
 have:=(ok.bS.mem hb).1;rw [e] at this;cases this
theorem Inv.bs(I:Inv X pins σ H s):∀ b o,X.base.get? b=some o->s.heap.get? b=some o/\H b=none:=λb o e=>
 ⟨I.base.keep b o (I.ok.bs b o e).1 (I.ok.bs b o e).2 (I.ok.vN e)<|I.ok.dY b o e,I.base.free b o (I.ok.bs b o e).1 (I.ok.bs b o e).2<|I.ok.dY b o e⟩
theorem Inv.bk(I:Inv X pins σ H s):∀ b o,X.base.get? b=some o->s.heap.get? b=some o:=λb o e=>(I.bs b o e).1
theorem Inv.mod(I:Inv X pins σ H s):Mod X.K X.mg X.base:=I.ok.mod
theorem Inv.dq(I:Inv X pins σ H s):X.K.In s.heap:=I.ok.mod.o6.keeps I.bk
theorem Inv.lt(I:Inv X pins σ H s):X.env.locals < s.heap.objs.size:=let ⟨_,hn,_⟩:=I.loc;hn.lt
theorem Inv.sz(I:Inv X pins σ H s):X.s₀.heap.objs.size<=s.heap.objs.size:=Dk I.ok.above<|Gr I.lt
theorem Inv.vO(I:Inv X pins σ H s){a:Addr}(h:s.heap.objs.size<=a):a∉X.fs:=λhb=>by
 obtain⟨_,o,ho,_⟩:=I.ok.bS.mem hb;exact absurd (Bm (Bb ho)<|Dk I.sz h)<|Cd _
theorem Inv.jA(I:Inv X pins σ H s):∀ x c,X.env.cells.lookup x=some c->c≠X.env.locals:=λx c e z=>by
 obtain⟨v,o,ho,hd⟩:=I.cell x c e;obtain⟨m,⟨o',es,ep,dC,vP,_⟩,_⟩:=I.loc;rw [z,dC] at ho;cases ho;rw [vP] at hd;cases hd
theorem Inv.bS(I:Inv X pins σ H s):s.heap.FunFrames X.base X.outer:=by
 have all:∀(l:List Env),(∀ b∈cF l,b∈X.fs)->X.s₀.heap.FunFrames X.base l->s.heap.FunFrames X.base l:=by
  intro l
  induction l with
  | nil=>intro _ _;trivial
  | cons env r ih=>
   intro hs hl;obtain⟨hk,⟨L,o,hf,hn,ho,hd⟩,hr⟩:=hl;have hL:L∈X.fs:=hs L (by unfold cF;rw [Gp,hf];exact Ah);obtain⟨sl,e⟩:=I.base.slot L o ho (I.ok.jf L hL) hL λz=>I.ok.eU L z hL;exact⟨hk,⟨L,_,hf,hn,e,hd⟩,ih (λb hb=>hs b<|by unfold cF;rw [Gp,hf];exact Ar _ hb) hr⟩
 exact all X.outer (λ_ hb=>hb) I.ok.bS
theorem Inv.stack(I:Inv X pins σ H s):s.heap.FunFrames X.base X.stack:=by
 rcases I.ok.g8 with e | ⟨e,hf⟩
 ·rw [e];exact I.bS
 ·rw [e];obtain⟨m,hn,_⟩:=I.loc;refine .cons (by rw [I.ok.kind];decide) hf hn ?_ I.bS;exact Heap.get?_none_of_le<|Dk I.ok.g9 I.ok.above
theorem Inv.cG(I:Inv X pins σ H s):∀ b∈cF X.stack,b∈X.env.locals :: X.fs:=λb hb=>by
 rcases I.ok.g8 with e | ⟨e,hf⟩
 ·rw [e] at hb;exact Ar _ hb
 ·rw [e] at hb;unfold cF at hb;rw [Gp,hf] at hb;exact hb
theorem Inv.c9(I:Inv X pins σ H s):∀ b∈cF X.stack,H b=none:=λb hb=>by
 rcases Am.mp (I.cG b hb) with e | hb
 ·rw [e];exact I.free
 ·obtain⟨_,o,ho,_⟩:=I.ok.bS.mem hb;exact I.base.free b o ho (I.ok.jf b hb) λz=>I.ok.eU b z hb
theorem Inv.step{g':Array GenState}{t':Nat}{d':Drawn}{ch:List Addr}(I:Inv X pins σ H s)
  (jg:∀ b∈ch,(b∈X.ex\/X.s₀.heap.objs.size<=b)/\b≠X.env.locals/\(∀ x c,X.env.cells.lookup x=some c->c≠b)/\∀ p∈X.pn++pins,p.1≠b)
  (keep:∀ b o,b≠X.env.locals->b∉X.fs->b∉ch->s.heap.get? b=some o->H b=none->h'.get? b=some o)
  (slot:∀ b o,b≠X.env.locals->b∈X.fs->b∉ch->s.heap.get? b=some o->H b=none->∃ sl,h'.get? b=some {o with slots:=sl}) (free:∀ b o,b∉ch->s.heap.get? b=some o->H b=none->H' b=none)
  (there:∀ b o,b∉ch->s.heap.get? b=some o->∃ o',h'.get? b=some o')
  (dj:∀ b xs,H b=some (.tup xs)->H' b=some (.tup xs)) (cS:∀ b o u,H b=some (.b8 o u)->H' b=some (.b8 o u)) (dk:∀ b ps,H b=some (.kr ps)->∃ more,H' b=some (.kr<|ps++more))
  (ns:∀ m,s.heap.Ns X.env.locals m->h'.Ns X.env.locals m) (aw:bK X.prog X.w H' h') (hg:AllBare g') :
  Inv X pins σ H' {s with heap:=h',gens:=g',drawn:=d',toks:=t'}:=by
 have tT:∀ b o,X.s₀.heap.get? b=some o->b≠X.env.locals:=λb o e=>Co<|Bm (Bb e) I.ok.above;have tU:∀ b o,X.s₀.heap.get? b=some o->b∉X.ex->b∉ch:=λb o e hx hb=>by
  rcases (jg b hb).1 with z | z
  ·exact hx z
  ·exact absurd (Bm (Bb e) z)<|Cd _
 have cellK:∀ x c,X.env.cells.lookup x=some c->∀ v,s.heap.IsCell c v->h'.IsCell c v:=λx c e v ⟨o,ho,hd⟩=>by
  have lH:c∉ch:=λz=>(jg c z).2.2.1 x c e rfl
  by_cases hc:c∈X.fs
  ·obtain⟨sl,q⟩:=slot c o (I.jA x c e) hc lH ho<|I.aM x c e;exact⟨_,q,hd⟩
  ·exact⟨o,keep c o (I.jA x c e) hc lH ho<|I.aM x c e,hd⟩
 refine⟨I.ok,I.os,hg,⟨λb o e n hb hx=>?_,λb o e n hb hx=>?_,λb o e n hx=>?_,λb o e hx=>?_,λb xs e=>dj b xs<|I.base.dj b xs e,λb o xs e=>cS b o xs<|I.base.cS b o xs e,λb ps e=>?_⟩,?_,λx c e=>?_,?_,λx c e=>?_,λp hp=>?_,aw,I.len⟩
 ·exact keep b o (tT b o e) hb (tU b o e hx) (I.base.keep b o e n hb hx)<|I.base.free b o e n hx
 ·obtain⟨sl,e1⟩:=I.base.slot b o e n hb hx;obtain⟨tV,e2⟩:=slot b _ (tT b o e) hb (tU b o e hx) e1<|I.base.free b o e n hx;exact⟨tV,e2⟩
 ·obtain⟨o',e1⟩:=I.base.there b o e hx;exact free b o' (tU b o e hx) e1<|I.base.free b o e n hx
 ·obtain⟨o',e1⟩:=I.base.there b o e hx;exact there b o' (tU b o e hx) e1
 ·obtain⟨m1,e1⟩:=I.base.dk b ps e;obtain⟨m2,e2⟩:=dk b _ e1;exact⟨m1++m2,by rw [e2,Array.append_assoc]⟩
 ·obtain⟨m,hn,hl⟩:=I.loc;refine⟨m,ns m hn,λi x v e1 e2 e3=>?_⟩;obtain⟨u,r,l⟩:=hl i x v e1 e2 e3;refine⟨u,r,?_⟩
  rcases l with l | ⟨k,c,e,z⟩
  ·exact .inl l
  ·exact .inr ⟨k,c,e,cellK x c e _ z⟩
 ·obtain⟨v,z⟩:=I.cell x c e;exact⟨v,cellK x c e v z⟩
 ·obtain⟨m,⟨o,_,_,ho,_⟩,_⟩:=I.loc;exact free _ o (λz=>(jg _ z).2.1 rfl) ho I.free
 ·obtain⟨v,o,ho,hd⟩:=I.cell x c e;exact free c o (λz=>(jg c z).2.2.1 x c e rfl) ho<|I.aM x c e
 ·obtain⟨e,n,ne,nf,d⟩:=I.pin p hp;have lH:p.1∉ch:=λz=>(jg p.1 z).2.2.2 p hp rfl;exact⟨keep p.1 p.2 ne nf lH e n,free p.1 p.2 lH e n,ne,nf,d⟩
theorem Inv.un{t':Nat}(I:Inv X pins σ H s)(u:Un X.fs [] H H' s.heap h')(aw:bK X.prog X.w H' h'):Inv X pins σ H' {s with heap:=h',toks:=t'}:=by
 obtain⟨m,⟨o,es,ep,ho,r⟩,_⟩:=id I.loc;obtain⟨sl,hL⟩:=u.any ho I.free (by simp);exact I.step (g':=s.gens) (d':=s.drawn) (ch:=[]) (λ_ z=>nomatch z) (λb o _ hb _ e n=>u.keep b o e n hb<|by simp) (λb o _ hb _ e n=>u.slot b o e n hb<|by simp) (λb o _ e n=>u.free b o e n<|by simp) (λb o _ e=>u.there b o e<|by simp) u.dj u.cS u.dk (λm' hm=>by
  obtain⟨o',aU,tW,dC,r'⟩:=hm;rw [ho] at dC;cases dC;exact⟨_,aU,tW,hL,r'⟩) aw I.bare
theorem Inv.call{g':Array GenState}{t':Nat}{d':Drawn}{ch:List Addr}(I:Inv X pins σ H s)(u:Un (cF X.stack) ch H H' s.heap h')(aw:bK X.prog X.w H' h')(hg:AllBare g')
  (jg:∀ b∈ch,(b∈X.ex\/X.s₀.heap.objs.size<=b)/\b≠X.env.locals/\(∀ x c,X.env.cells.lookup x=some c->c≠b)/\∀ p∈X.pn++pins,p.1≠b) :
  Inv X pins σ H' {s with heap:=h',gens:=g',drawn:=d',toks:=t'}:=by
 obtain⟨m,⟨o,es,ep,ho,r⟩,_⟩:=id I.loc;obtain⟨sl,hL⟩:=u.any ho I.free λz=>(jg _ z).2.1 rfl;exact I.step (ch:=ch) jg (λb o hL hb hc e n=>u.keep b o e n (λz=>(Am.mp<|I.cG b z).elim hL hb) hc) (λb o _ _ hc e n=>u.any e n hc) (λb o hc e n=>u.free b o e n hc) (λb o hc e=>u.there b o e hc) u.dj u.cS u.dk (λm' hm=>by
  obtain⟨o',aU,tW,dC,r'⟩:=hm;rw [ho] at dC;cases dC;exact⟨_,aU,tW,hL,r'⟩) aw hg
theorem Inv.turned{t':Nat}{it:Addr}(I:Inv X pins σ H s)(k:∀ b o,b≠it->s.heap.get? b=some o->h'.get? b=some o)(hn:H it=none)(hL:it≠X.env.locals)
  (h1:it∈X.ex\/X.s₀.heap.objs.size<=it) (h2:∀ x c,X.env.cells.lookup x=some c->c≠it) (h3:∀ p∈X.pn++pins,p.1≠it):Inv X pins σ H {s with heap:=h',toks:=t'}:=by
 have o7:∀ b u,H b=some u->b≠it:=λb u e z=>by rw [z,hn] at e;cases e
 refine I.step (g':=s.gens) (d':=s.drawn) (ch:=[it]) (λb hb=>?_) (λb o _ _ hc e _=>k b o (λz=>hc<|by simp [z]) e) (λb o _ _ hc e _=>⟨o.slots,k b o (λz=>hc<|by simp [z]) e⟩) (λ_ _ _ _ n=>n)
  (λb o hc e=>⟨o,k b o (λz=>hc<|by simp [z]) e⟩) (λ_ _ e=>e) (λ_ _ _ e=>e) (λb ps e=>⟨#[],by rw [e];simp⟩) (λm hm=>?_) (λb u e=>?_) I.bare
 ·have e:b=it:=by simpa using hb
  subst e;exact⟨h1,hL,h2,h3⟩
 ·obtain⟨o,es,ep,ho,r⟩:=hm;exact⟨o,es,ep,k _ o (Ne.symm hL) ho,r⟩
 ·refine(I.aw b u e).dW (λc v hc q=>k c v ?_ q) (λ_ q=>q) λ_ _ q=>q
  rcases hc with z | z
  ·rw [z];exact o7 b u e
  ·exact o7 c _ z
theorem Inv.tok(I:Inv X pins σ H s)(t:Nat):Inv X pins σ H {s with toks:=t}:=I.un (h':=s.heap) (t':=t) Un.refl I.aw
theorem Inv.kept{t':Nat}(I:Inv X pins σ H s)(k:∀ b u,s.heap.get? b=some u->h'.get? b=some u):Inv X pins σ H {s with heap:=h',toks:=t'}:=I.un (Un.kept k)<|I.aw.kept k
theorem Inv.laid{a:Addr}{o:HO}{t':Nat}(I:Inv X pins σ H s)(k:∀ b u,s.heap.get? b=some u->h'.get? b=some u)(hp:s.heap.objs.size<=a)(new:aq X.prog X.w (upd H a o) h' a o) :
  Inv X pins σ (upd H a o) {s with heap:=h',toks:=t'}:=I.un (Un.laid k hp<|I.aw.fresh hp)<|I.aw.laid k hp new
theorem Inv.write{x e:Addr}{o:HO}{t':Nat}(I:Inv X pins σ H s)(mu:o1<|H x)(he:e=x\/H e=some (.own x))(k:∀ b u,b≠e->s.heap.get? b=some u->h'.get? b=some u)(nN:∃ u,h'.get? e=some u)
  (new:aq X.prog X.w (upd H x o) h' x o):Inv X pins σ (upd H x o) {s with heap:=h',toks:=t'}:=I.un (Un.write mu he k nN)<|I.aw.write mu he k nN new
theorem Inv.fV{ku:List (Addr×Obj)}(I:Inv X pins σ H s)(h:∀ p∈ku,s.heap.get? p.1=some p.2/\H p.1=none/\p.1≠X.env.locals/\p.1∉X.fs/\∀ v,p.2.data ≠ .cell v):Inv X ku σ H s:=
 ⟨I.ok,I.os,I.bare,I.base,I.loc,I.cell,I.free,I.aM,λp hp=>(An.mp hp).elim (λz=>I.pin p<|Ba _ z)<|h p,I.aw,I.len⟩
theorem nQ{N:List Str}(hN:N.Nodup){i j:Nat}{x:Str}(a:N[i]?=some x)(b:N[j]?=some x):i=j:=by
 obtain⟨h1,e1⟩:=Ac.mp a;obtain⟨h2,e2⟩:=Ac.mp b;exact(List.getElem_inj hN).mp<|e1.trans e2.symm
theorem A3{M:Model}{A:Around}{E:Value->Shared->Prop}{i:Nat}{x:Str}{v:V}{u:Value}{Q:Unit->Shared->Prop}(I:Inv X pins σ H s)(hN:X.N.Nodup)(hi:X.N[i]?=some x)(hx:Loc X.env.scope x)(r:RelV v u)
  (h:∀ s',Inv X pins (σ.set i<|some v) H s'->(∃ a,Heap.SameBut a s.heap s'.heap/\(a=X.env.locals\/X.env.cells.lookup x=some a))->Q () s') (hf:X.fn x=true\/X.env.scope.names.lookup x=some .local:=by first | exact .inl rfl | exact .inr rfl | assumption):wpAny M A (storeName X.env x u) Q E s:=by
 obtain⟨m,hn,hl⟩:=id I.loc;have lI:(X.env.scope.kind == .class || (X.env.scope.kind == .module && X.env.locals != X.env.globals))=false:=by rw [I.ok.kind];rfl
 have hiσ:i < σ.length:=by rw [I.len];exact(Ac.mp hi).1
 have jA:=I.jA;have tracked:∀{a:Addr} {h':Heap},(∃ o,s.heap.get? a=some o/\H a=none)->Heap.SameBut a s.heap h'->bK X.prog X.w H h':=λ{a h'} ha hs b ob e=>by
  obtain⟨_,_,ky⟩:=ha;refine(I.aw b ob e).dW (λc w' hc q=>(hs.2 c ?_).trans q) (λ_ q=>q) λ_ _ q=>q;rintro rfl
  rcases hc with rfl | hc
  ·rw [ky] at e;cases e
  ·rw [ky] at hc;cases hc
 rcases hx with hk | hk
 ·refine wpAny_storeName_local hk hn (λh' jh hs=>?_) lI;obtain⟨oL,_,_,kz,_⟩:=id hn;refine h _ ⟨I.ok,I.os,I.bare,⟨λb o e n hb hx=>?_,λb o e n hb hx=>?_,I.base.free,λb o e hx=>?_,I.base.dj,I.base.cS,I.base.dk⟩,⟨_,jh,λj y v' e1 e2 e3=>?_⟩,λy c e=>?_,I.free,I.aM,λp hp=>?_,tracked ⟨oL,kz,I.free⟩ hs,by simpa using I.len⟩ ⟨_,hs,.inl rfl⟩
  ·exact(hs.2 b<|Co<|Bm (Bb e) I.ok.above).trans<|I.base.keep b o e n hb hx
  ·obtain⟨sl,e1⟩:=I.base.slot b o e n hb hx;exact⟨sl,(hs.2 b<|Co<|Bm (Bb e) I.ok.above).trans e1⟩
  ·obtain⟨o',e1⟩:=I.base.there b o e hx;exact⟨o',(hs.2 b<|Co<|Bm (Bb e) I.ok.above).trans e1⟩
  ·by_cases hj:j=i
   ·subst hj;rw [hi] at e1;cases e1;rw [Dl hiσ] at e2;cases e2;exact⟨u,r,.inl ⟨hk,by simp⟩⟩
   ·rw [Du<|Ne.symm hj] at e2;obtain⟨u',r',q⟩:=hl j y v' e1 e2 e3;refine⟨u',r',?_⟩
    rcases q with ⟨k,e⟩ | ⟨k,c,e,z⟩
    ·refine .inl ⟨k,?_⟩;have:y≠x:=λe=>hj<|nQ hN e1<|e ▸ hi;simp [this,e]
    ·exact .inr ⟨k,c,e,z.sameBut hs<|jA y c e⟩
  ·obtain⟨w',z⟩:=I.cell y c e;exact⟨w',z.sameBut hs<|jA y c e⟩
  ·obtain⟨e,n,ne,nf,d⟩:=I.pin p hp;exact⟨(hs.2 p.1 ne).trans e,n,ne,nf,d⟩
 ·have o8:X.fn x=true:=by
   rcases hf with z | z
   ·exact z
   ·rw [z] at hk;cases hk
  obtain⟨c,hc⟩:=I.ok.has x<|.inl hk;obtain⟨w',z⟩:=I.cell x c hc;refine wpAny_storeName_cell I.ok.kind hk hc z λh' cT hs=>?_;obtain⟨oc,A4,vQ⟩:=id z;refine h {s with heap:=h'} ⟨I.ok,I.os,I.bare,⟨λb o e n hb hx=>?_,λb o e n hb hx=>?_,I.base.free,λb o e hx=>?_,I.base.dj,I.base.cS,I.base.dk⟩,⟨m,hn.sameBut hs<|Ne.symm<|jA x c hc,λj y v' e1 e2 e3=>?_⟩,λy c' e=>?_,I.free,I.aM,λp hp=>?_,tracked ⟨oc,A4,I.aM x c hc⟩ hs,by simpa using I.len⟩ ⟨c,hs,.inr hc⟩
  ·exact(hs.2 b<|Co<|Bm (Bb e)<|I.ok.jz x c o8 hc).trans<|I.base.keep b o e n hb hx
  ·obtain⟨sl,e1⟩:=I.base.slot b o e n hb hx;exact⟨sl,(hs.2 b<|Co<|Bm (Bb e)<|I.ok.jz x c o8 hc).trans e1⟩
  ·obtain⟨o',e1⟩:=I.base.there b o e hx;exact⟨o',(hs.2 b<|Co<|Bm (Bb e)<|I.ok.jz x c o8 hc).trans e1⟩
  ·by_cases hj:j=i
   ·subst hj;rw [hi] at e1;cases e1;rw [Dl hiσ] at e2;cases e2;exact⟨u,r,.inr ⟨.inl hk,c,hc,cT⟩⟩
   ·rw [Du<|Ne.symm hj] at e2;obtain⟨u',r',q⟩:=hl j y v' e1 e2 e3;refine⟨u',r',?_⟩
    rcases q with q | ⟨k,c',e,z'⟩
    ·exact .inl q
    ·refine .inr ⟨k,c',e,z'.sameBut hs ?_⟩;rintro rfl;exact hj<|nQ hN e1<|I.ok.inj _ _ _ e hc ▸ hi
  ·by_cases A5:c'=c
   ·subst A5;exact⟨_,cT⟩
   ·obtain⟨w2,z2⟩:=I.cell y c' e;exact⟨w2,z2.sameBut hs A5⟩
  ·obtain⟨e,n,ne,nf,d⟩:=I.pin p hp;refine⟨(hs.2 p.1 ?_).trans e,n,ne,nf,d⟩;intro q;rw [q,A4] at e;have q':oc=p.2:=Option.some.inj e;exact d w'<|by rw [<- q'];exact vQ
theorem vR{M:Model}{A:Around}{E:Value->Shared->Prop}{i:Nat}{x:Str}{v:V}{u:Value}{Q:Unit->Shared->Prop}(I:Inv X pins σ H s)(hN:X.N.Nodup)(hi:X.N[i]?=some x)(hx:Loc X.env.scope x)(r:RelV v u)
  (h:∀ s',Inv X pins (σ.set i<|some v) H s'->Q () s') (hf:X.fn x=true\/X.env.scope.names.lookup x=some .local:=by first | exact .inl rfl | exact .inr rfl | assumption):wpAny M A (storeName X.env x u) Q E s:=
 A3 I hN hi hx r (λs' I' _=>h s' I') hf
theorem Inv.call'{s':Shared}{ch:List Addr}(I:Inv X pins σ H s)(ho:s'.os=s.os)(u:Un (cF X.stack) ch H H' s.heap s'.heap)(aw:bK X.prog X.w H' s'.heap)(hg:AllBare s'.gens)
  (jg:∀ b∈ch,(b∈X.ex\/X.s₀.heap.objs.size<=b)/\b≠X.env.locals/\(∀ x c,X.env.cells.lookup x=some c->c≠b)/\∀ p∈X.pn++pins,p.1≠b):Inv X pins σ H' s':=by
 obtain⟨h',g',d',t',o'⟩:=s';have e:o'=s.os:=ho;subst e;exact I.call (g':=g') (t':=t') (d':=d') u aw hg jg
end
abbrev XK:=Value->Option Addr->Hp->Prop
abbrev St:=List<|Option V
abbrev VK:=V->Hp->Prop
abbrev TE:=St->Hp->VK->Prop
abbrev TT:=St->Hp->(Bool->Hp->Prop)->Prop
abbrev TA:=St->Hp->(List V->Hp->Prop)->Prop
structure Ends where
 nx:St->Hp->Prop
 rt:VK
 bk:St->Hp->Prop:=λ_ _=>False
 ct:St->Hp->Prop:=λ_ _=>False
abbrev TS:=Ends->St->Hp->Prop
def EP(X:Cx)(pins:List<|Addr×Obj)(σ:St)(Q:VK)(u:Value)(s':Shared):Prop:=∃ v H',Inv X pins σ H' s'/\RelV v u/\Q v H'
def TP(X:Cx)(pins:List<|Addr×Obj)(σ:St)(Q:Bool->Hp->Prop)(b:Bool)(s':Shared):Prop:=∃ H',Inv X pins σ H' s'/\Q b H'
def AP(X:Cx)(pins:List<|Addr×Obj)(σ:St)(Q:List V->Hp->Prop)(us:List Value)(s':Shared):Prop:=∃ vs H',Inv X pins σ H' s'/\aj vs us/\Q vs H'
def SP(X:Cx)(pins:List<|Addr×Obj)(D:Ends)(f:Flow)(s':Shared):Prop:=
 match f with
 | .next=>∃ σ' H',Inv X pins σ' H' s'/\D.nx σ' H'
 | .brk=>∃ σ' H',Inv X pins σ' H' s'/\D.bk σ' H'
 | .cont=>∃ σ' H',Inv X pins σ' H' s'/\D.ct σ' H'
 | .ret u=>∃ v σ' H',Inv X pins σ' H' s'/\RelV v u/\D.rt v H'
def PE(X:Cx)(e:Expr)(t:TE):Prop:=
 ∀(pins:List<|Addr×Obj) (s:Shared) (σ:St) (H:Hp) (Q:VK),Inv X pins σ H s->t σ H Q->wpAny (model X.prog X.w) X.A (eval e X.env) (EP X pins σ Q) X.xe s
def PT(X:Cx)(e:Expr)(t:TT):Prop:=
 ∀(pins:List<|Addr×Obj) (s:Shared) (σ:St) (H:Hp) (Q:Bool->Hp->Prop),Inv X pins σ H s->t σ H Q->wpAny (model X.prog X.w) X.A (isTrue e X.env<|eval e X.env) (TP X pins σ Q) X.xe s
def PW(X:Cx)(e:Expr)(t:TT):Prop:=
 ∀(whole:Sem Value) (pins:List<|Addr×Obj) (s:Shared) (σ:St) (H:Hp) (Q:Bool->Hp->Prop),Inv X pins σ H s->t σ H Q->wpAny (model X.prog X.w) X.A (isTrue e X.env whole) (TP X pins σ Q) X.xe s
def PA(X:Cx)(es:List Expr)(t:TA):Prop:=
 ∀(pos:Pos) (pins:List<|Addr×Obj) (s:Shared) (σ:St) (H:Hp) (Q:List V->Hp->Prop),Inv X pins σ H s->t σ H Q->wpAny (model X.prog X.w) X.A (spliced<|backTo pos<|starEach es X.env) (AP X pins σ Q) X.xe s
def PS(X:Cx)(st:Stmt)(t:TS):Prop:=
 ∀(pins:List<|Addr×Obj) (s:Shared) (σ:St) (H:Hp) (D:Ends),Inv X pins σ H s->t D σ H->wpAny (model X.prog X.w) X.A (exec st X.env) (SP X pins D) X.xe s
def gI(X:Cx)(st:List Stmt)(t:TS):Prop:=
 ∀(pins:List<|Addr×Obj) (s:Shared) (σ:St) (H:Hp) (D:Ends),Inv X pins σ H s->t D σ H->wpAny (model X.prog X.w) X.A (execs st X.env) (SP X pins D) X.xe s
theorem ay{α:Type}{t:Sem α}{Q Q':α->Shared->Prop}{M:Model}{A:Around}{E:Value->Shared->Prop}{s:Shared}(h:wpAny M A t Q E s)(hQ:∀ a s,Q a s->Q' a s):wpAny M A t Q' E s:=CP h hQ λ_ _ x=>x
section
variable{X:Cx}
theorem bin{a b:Expr}{ta tb:TE}(ha:PE X a ta)(hb:PE X b tb){pins:List (Addr×Obj)}{s:Shared}{σ:St}{H:Hp}{R:V->V->Hp->Prop}(I:Inv X pins σ H s)(h:ta σ H λx H1=>tb σ H1 λy H2=>R x y H2)
  {α:Type} {Q:α->Shared->Prop} {f:Value->Value->Sem α}
  (hf:∀ v u s2 x y H2,Inv X pins σ H2 s2->RelV x v->RelV y u->R x y H2->wpAny (model X.prog X.w) X.A (f v u) Q X.xe s2) :
  wpAny (model X.prog X.w) X.A (eval a X.env) (λv s₁=>wpAny (model X.prog X.w) X.A (eval b X.env) (λu s₂=>wpAny (model X.prog X.w) X.A (f v u) Q X.xe s₂) X.xe s₁) X.xe s:=by
 refine ay (ha pins s σ H _ I h) λv s1 ⟨x,H1,I1,r1,q1⟩=>?_;refine ay (hb pins s1 σ H1 _ I1 q1) λu s2 ⟨y,H2,I2,r2,q2⟩=>?_;exact hf v u s2 x y H2 I2 r1 r2 q2
def vS(i:Nat):TE:=λσ H Q=>∃ v,σ[i]?=some (some v)/\Q v H
def tC(v:V):TE:=λ_ H Q=>Q v H
theorem Kv{i:Nat}{x:Str}{pos:Pos}(hN:X.N[i]?=some x)(hv:vM X.env.scope x)(hd:(x == ("__debug__" : Str))=false:=by decide)(fW:(x == ("__classdict__" : Str))=false:=by decide):PE X (.Name x pos) (vS i):=by
 intro pins s σ H Q I h;obtain⟨v,e,h⟩:=h;obtain⟨m,hn,hl⟩:=I.loc;obtain⟨u,r,l⟩:=hl i x v hN e hv;have fin:EP X pins σ Q u s:=⟨v,H,I,r,h⟩
 rcases l with ⟨hk,hm⟩ | ⟨hk,c,hc,fX⟩
 ·exact wpAny_Name (wpAny_loadName_local I.ok.kind hk hn hm fin) hd
 ·rcases hk with hk | hk
  ·exact wpAny_Name (wpAny_loadName_cell I.ok.kind hk hc fX fin) hd
  ·exact wpAny_Name (wpAny_loadName_free I.ok.kind hk hc fX fin fW) hd
theorem Kw{i j pos}:PE X (.Constant (.int i) j pos) (tC<|.int i):=λ_ _ _ H _ I h=>wpAny_Constant_int ⟨.int i,H,I.tok _,⟨_,rfl⟩,h⟩
theorem Kx{b j pos}:PE X (.Constant (.bool b) j pos) (tC<|.bl b):=λ_ _ _ H _ I h=>Constant_bool ⟨.bl b,H,I,rfl,h⟩
theorem Ky{x j pos}:PE X (.Constant (.str x) j pos) (tC<|.str x):=λ_ _ _ H _ I h=>Calls.Constant_str ⟨.str x,H,I.tok _,⟨_,rfl⟩,h⟩
def Gl(X:Cx)(x:Str):Prop:=X.env.kindOf x=some .globalImplicit
theorem nR{E:Value->Shared->Prop}{pins:List (Addr×Obj)}{s:Shared}{σ:St}{H:Hp}{x:Str}{u:Value}{pos:Pos}{Q:Value->Shared->Prop}(I:Inv X pins σ H s)(hg:Gl X x)(hm:X.mg x=some u)(h:Q u s)
  (hd:(x == ("__debug__" : Str))=false:=by decide):wpAny (model X.prog X.w) X.A (eval (.Name x pos) X.env) Q E s:=
 Calls.Name_function_global I.ok.kind hg (Calls.loadGlobal_global (by rw [I.ok.glob];exact I.mod.glob.keeps I.bk) hm h) hd
theorem lJ{E:Value->Shared->Prop}{pins:List (Addr×Obj)}{s:Shared}{σ:St}{H:Hp}{x:Str}{u:Value}{pos:Pos}{Q:Value->Shared->Prop}(I:Inv X pins σ H s)(hg:Gl X x)(hm:X.mg x=none)(hv:bootBuiltins x=some u)(h:Q u s)
  (hn:x ≠ "__name__":=by decide) (hd:(x == ("__debug__" : Str))=false:=by decide):wpAny (model X.prog X.w) X.A (eval (.Name x pos) X.env) Q E s:=by
 obtain⟨mb,h1,h2⟩:=I.mod.blt;exact Calls.Name_function_global I.ok.kind hg (Calls.loadGlobal_builtin (by rw [I.ok.glob];exact I.mod.glob.keeps I.bk) hm (by rw [I.ok.blt];exact h1.keeps I.bk) ((h2 x hn).trans hv) h) hd
theorem Kz{x:Str}{v:V}{u:Value}{pos:Pos}(hg:Gl X x)(hm:X.mg x=some u)(r:RelV v u)(hd:(x == ("__debug__" : Str))=false:=by decide):PE X (.Name x pos) (tC v):=
 λ_ _ _ H _ I h=>nR I hg hm ⟨v,H,I,r,h⟩ hd
theorem KA{x:Str}{v:V}{u:Value}{pos:Pos}(hg:Gl X x)(hm:X.mg x=none)(hv:bootBuiltins x=some u)(r:RelV v u)(hn:x ≠ "__name__":=by decide)(hd:(x == ("__debug__" : Str))=false:=by decide):PE X (.Name x pos) (tC v):=
 λ_ _ _ H _ I h=>lJ I hg hm hv ⟨v,H,I,r,h⟩ hn hd
variable{a b:Expr}{ta tb:TE}{pos:Pos}
def PC(X:Cx)(op:CmpOp)(a b:Expr)(t:TE):Prop:=
 ∀(pins:List<|Addr×Obj) (s:Shared) (σ:St) (H:Hp) (Q:VK),Inv X pins σ H s->t σ H Q ->
  wpAny (model X.prog X.w) X.A (eval a X.env) (λv s₁=>wpAny (model X.prog X.w) X.A (eval b X.env) (λu s₂=>wpAny (model X.prog X.w) X.A (compareOp op v u) (EP X pins σ Q) X.xe s₂) X.xe s₁) X.xe s
def tB(t:TE):TT:=λσ H Q=>t σ H λx H1=>∃ c,x = .bl c/\Q c H1
theorem A6{op:CmpOp}{t:TE}(h:PC X op a b t)(h1:behindInMarks op b=false:=by first | exact o9 _ (by decide) (by decide) | rfl):PT X (.Compare a [op] [b] pos) (tB t):=by
 intro pins s σ H Q I hw;refine wpAny_isTrue_Compare1 (ay (h pins s σ H _ I hw) λv s1 h1=>ay h1 λu s2 h2=>ay h2 λc s3 ⟨x,H1,I1,r1,q1⟩=>?_) h1;obtain⟨d,rfl,q⟩:=q1;cases r1;exact DX ⟨H1,I1,q⟩
variable{tA A7:TT}{rest:List Expr}
def vT(t u:TT):TT:=λσ H Q=>t σ H λc H1=>if c=true then u σ H1 Q else Q false H1
theorem KE(ha:PT X a tA):PW X (.BoolOp .And [a] pos) tA:=by
 intro wh pins s σ H Q I h;refine isTrue_and<|ay (ha pins s σ H Q I h) λc s1 e=>?_;cases c with
 | true=>exact isTrue_and_nil e
 | false=>exact e
theorem KG(ha:PT X a tA)(hb:PW X (.BoolOp .And (b :: rest) pos) A7):PW X (.BoolOp .And (a :: b :: rest) pos) (vT tA A7):=by
 intro wh pins s σ H Q I h;refine isTrue_and<|ay (ha pins s σ H _ I h) λc s1 ⟨H1,I1,q1⟩=>?_;cases c with
 | true=>exact hb wh pins s1 σ H1 Q I1 q1
 | false=>exact⟨H1,I1,q1⟩
def KI(ta tb:TE):TE:=λσ H Q=>ta σ H λx H1=>∃ c,x = .bl c/\if c=true then tb σ H1 Q else Q (.bl false) H1
def KL(ta:TE):TE:=λσ H Q=>ta σ H λx H1=>∃ c,x = .bl c/\Q (.bl (!c)) H1
theorem KO{op}{t:TE}(h:PE X a t):PE X (.BoolOp op [a] pos) t:=λpins s σ H Q I hw=>BoolOp_one<|h pins s σ H Q I hw
theorem KP(ha:PE X a ta)(hb:PE X (.BoolOp .And (b :: rest) pos) tb):PE X (.BoolOp .And (a :: b :: rest) pos) (KI ta tb):=by
 intro pins s σ H Q I h;refine BoolOp_and<|ay (ha pins s σ H _ I h) λv s1 ⟨x,H1,I1,r1,q1⟩=>?_;obtain⟨c,rfl,q1⟩:=q1;cases r1;refine DX ?_;cases c with
 | true=>exact hb pins s1 σ H1 Q I1 q1
 | false=>exact⟨.bl false,H1,I1,rfl,q1⟩
theorem KS(ha:PE X a ta):PE X (.UnaryOp .Not a pos) (KL ta):=by
 intro pins s σ H Q I h;refine UnaryOp_<|ay (ha pins s σ H _ I h) λv s1 ⟨x,H1,I1,r1,q1⟩=>?_;obtain⟨c,rfl,q1⟩:=q1;cases r1;exact not_of<|DX ⟨.bl (!c),H1,I1,rfl,q1⟩
def KU(t:TT)(ta tb:TE):TE:=λσ H Q=>t σ H λc H1=>if c=true then ta σ H1 Q else tb σ H1 Q
theorem KW{c:Expr}(hc:PT X c tA)(ha:PE X a ta)(hb:PE X b tb):PE X (.IfExp c a b pos) (KU tA ta tb):=by
 intro pins s σ H Q I h;refine wpAny_IfExp<|ay (hc pins s σ H _ I h) λd s1 ⟨H1,I1,q1⟩=>?_;cases d with
 | true=>exact ha pins s1 σ H1 Q I1 q1
 | false=>exact hb pins s1 σ H1 Q I1 q1
end
def av(K:PySem.W.Frag)(H:Hp)(a:Addr)(xs:List V):Prop:=
 Rd H a (.lst xs) \/
  ∃(o:Obj) (its:Array Value) (n:Nat),K.lookup a=some o/\o.cls = .type "list"/\o.dict=none/\o.data = .seq its n/\its.size<=sizeLine/\aj xs its.toList
def bo(K:PySem.W.Frag)(H:Hp)(a:Addr)(xs:List V):Prop:=
 Rd H a (.tup xs) \/
  ∃(o:Obj) (its:Array Value) (n:Nat),K.lookup a=some o/\o.cls = .type "tuple"/\o.data = .seq its n/\its.size<=sizeLine/\aj xs its.toList
def vU:Value->Option V
 | .none=>some .non
 | .bool b=>some<|.bl b
 | .int i _=>some<|.int i
 | .str x _=>some<|.str x
 | .bytes b _=>some<|.gH b
 | .float b _=>some<|.nM b
 | .ref a=>some<|.ref a
 | .type n=>some<|.ty n
 | _=>none
theorem RelV.abs{x:V}{u:Value}(r:RelV x u):vU u=some x:=by
 cases x with
 | non=>cases r;rfl
 | bl _=>cases r;rfl
 | int _=>obtain⟨t,rfl⟩:=r;rfl
 | str _=>obtain⟨t,rfl⟩:=r;rfl
 | gH _=>obtain⟨t,rfl⟩:=r;rfl
 | nM _=>obtain⟨t,rfl⟩:=r;rfl
 | ref _=>cases r;rfl
 | ty _=>cases r;rfl
theorem RelV.inj{x y:V}{u:Value}(r:RelV x u)(q:RelV y u):x=y:=Option.some.inj<|r.abs.symm.trans q.abs
theorem aj.inj:∀{xs ys:List V} {us:List Value},aj xs us->aj ys us->xs=ys
 | _,_,_,.nil,.nil=>rfl
 | _,_,_,.cons r t,.cons r' t'=>by rw [r.inj r',aj.inj t t']
section
variable{X:Cx}{pins:List (Addr×Obj)}{σ:St}{H:Hp}{s:Shared}{a:Addr}{xs ys:List V}
theorem av.of{K:PySem.W.Frag}(h:H a=some (.lst xs)):av K H a xs:= .inl<|.inl h
theorem bo.of{K:PySem.W.Frag}(h:H a=some (.tup xs)):bo K H a xs:= .inl<|.inl h
theorem Inv.list(I:Inv X pins σ H s)(h:av X.K H a xs):∃ its:List Value,aj xs its/\PlainL s.heap a its.toArray/\xs.length<=sizeLine:=by
 rcases h with h | ⟨o,its,n,hk,hc,hd,hs,hz,r⟩
 ·obtain⟨z,its,n,r,e⟩:=h.ok I.aw;exact⟨its,r,⟨_,n,e,rfl,rfl,rfl⟩,z⟩
 ·refine⟨its.toList,r,⟨o,n,I.dq a o hk,hc,hd,by simpa using hs⟩,?_⟩;have e:=r.length;simp only [Al] at e;omega
theorem Inv.tuple(I:Inv X pins σ H s)(h:bo X.K H a xs):∃ its:List Value,aj xs its/\IsTup s.heap a its.toArray/\xs.length<=sizeLine:=by
 rcases h with h | ⟨o,its,n,hk,hc,hs,hz,r⟩
 ·obtain⟨z,its,r,p⟩:=h.ok I.aw;exact⟨its,r,p,z⟩
 ·refine⟨its.toList,r,⟨o,I.dq a o hk,hc,n,by simpa using hs⟩,?_⟩;have e:=r.length;simp only [Al] at e;omega
theorem Inv.eV(I:Inv X pins σ H s)(h:av X.K H a xs)(h':av X.K H a ys):xs=ys:=by
 obtain⟨its,r,⟨o,n,e,_,_,d⟩,_⟩:=I.list h;obtain⟨its',r',⟨o',n',e',_,_,d'⟩,_⟩:=I.list h';rw [e] at e';cases e';rw [d] at d'
 injection d' with d1 _
 have:its=its':=by simpa using CJ Array.toList d1
 subst this;exact r.inj r'
theorem Inv.gJ(I:Inv X pins σ H s)(h:bo X.K H a xs)(h':bo X.K H a ys):xs=ys:=by
 obtain⟨its,r,⟨o,e,_,n,d⟩,_⟩:=I.tuple h;obtain⟨its',r',⟨o',e',_,n',d'⟩,_⟩:=I.tuple h';rw [e] at e';cases e';rw [d] at d'
 injection d' with d1 _
 have:its=its':=by simpa using CJ Array.toList d1
 subst this;exact r.inj r'
end
abbrev Cx.cH(X:Cx)(E:Value->Shared->Prop):Cx:={X with xe:=E}
abbrev Cx.jB(X:Cx):Cx:=X.cH λ_ _=>False
theorem Cx.Ok.cH{X:Cx}(ok:X.Ok)(E:Value->Shared->Prop):(X.cH E).Ok:=
 ⟨ok.mod,ok.kind,ok.glob,ok.blt,ok.above,ok.inj,ok.has,ok.jz,ok.hd,ok.frames,ok.g8,ok.nO,ok.bs,ok.g9,ok.dY,ok.eU,ok.bS,ok.jf⟩
theorem Cx.Ok.aX{X:Cx}{E:Value->Shared->Prop}(ok:(X.cH E).Ok):X.Ok:=
 ⟨ok.mod,ok.kind,ok.glob,ok.blt,ok.above,ok.inj,ok.has,ok.jz,ok.hd,ok.frames,ok.g8,ok.nO,ok.bs,ok.g9,ok.dY,ok.eU,ok.bS,ok.jf⟩
section
variable{X:Cx}{pins:List (Addr×Obj)}{σ:St}{H:Hp}{s:Shared}{E:Value->Shared->Prop}
theorem Inv.cH(I:Inv X pins σ H s)(E:Value->Shared->Prop):Inv (X.cH E) pins σ H s:=⟨I.ok.cH E,I.os,I.bare,I.base,I.loc,I.cell,I.free,I.aM,I.pin,I.aw,I.len⟩
theorem Inv.aX(I:Inv (X.cH E) pins σ H s):Inv X pins σ H s:=⟨I.ok.aX,I.os,I.bare,I.base,I.loc,I.cell,I.free,I.aM,I.pin,I.aw,I.len⟩
theorem SP.aX{D:Ends}{f:Flow}{s':Shared}(h:SP (X.cH E) pins D f s'):SP X pins D f s':=by
 cases f with
 | next=>obtain⟨σ',H',I,q⟩:=h;exact⟨σ',H',I.aX,q⟩
 | brk=>obtain⟨σ',H',I,q⟩:=h;exact⟨σ',H',I.aX,q⟩
 | cont=>obtain⟨σ',H',I,q⟩:=h;exact⟨σ',H',I.aX,q⟩
 | ret u=>obtain⟨v,σ',H',I,r,q⟩:=h;exact⟨v,σ',H',I.aX,r,q⟩
theorem gI.jB{st:List Stmt}{t:TS}(h:gI X.jB st t):gI X st t:=λpins s σ H D I hw=>
 CP (h pins s σ H D (I.cH _) hw) (λ_ _ q=>q.aX) λ_ _ z=>False.elim z
end
section
variable{X:Cx}{st:Stmt}{rest:List Stmt}{t u:TS}{e:Expr}{te:TE}{pos:Pos}
def K0:TS:=λD σ H=>D.nx σ H
def vV(t u:TS):TS:=λD σ H=>t {D with nx:=u D} σ H
theorem vW:gI X [] K0:=λ_ _ σ H _ I h=>KH ⟨σ,H,I,h⟩
theorem K1(h1:PS X st t)(h2:gI X rest u):gI X (st :: rest) (vV t u):=by
 intro pins s σ H D I h;refine wpAny_execs_cons<|ay (h1 pins s σ H {D with nx:=u D} I h) λf s1 q=>?_;cases f with
 | next=>
  obtain⟨σ',H',I',q⟩:=q;exact h2 pins s1 σ' H' D I' q
 | ret v=>exact q
 | brk=>exact q
 | cont=>exact q
theorem Inv.quiet{pins:List (Addr×Obj)}{σ:St}{H:Hp}{s:Shared}(I:Inv X pins σ H s):interactive X.env=false:=by simp [interactive,I.ok.kind]
def K2(te:TE):TS:=λD σ H=>te σ H λ_ H1=>D.nx σ H1
theorem K3(he:PE X e te)(hs:swapsWith e none pos.line X.env=pure false:=by rfl):PS X (.Expr e pos) (K2 te):=by
 intro pins s σ H D I h;exact wpAny_Expr_any (ay (he pins s σ H _ I h) λv s1 ⟨x,H1,I1,r1,q1⟩=>⟨σ,H1,I1,q1⟩) I.quiet hs
def vX(te:TE):TS:=λD σ H=>te σ H D.rt
theorem K4(he:PE X e te):PS X (.Return (some e) pos) (vX te):=by
 intro pins s σ H D I h;exact wpAny_Return_some<|ay (he pins s σ H _ I h) λv s1 ⟨x,H1,I1,r1,q1⟩=>⟨x,σ,H1,I1,r1,q1⟩
def vY(c:TT)(t u:TS):TS:=λD σ H=>c σ H λb H1=>if b=true then t D σ H1 else u D σ H1
theorem K5{c:Expr}{a b:List Stmt}{tc:TT}(hc:PT X c tc)(ha:gI X a t)(hb:gI X b u):PS X (.If c a b pos) (vY tc t u):=by
 intro pins s σ H D I h;refine wpAny_If<|ay (hc pins s σ H _ I h) λd s1 ⟨H1,I1,q1⟩=>?_;cases d with
 | true=>exact ha pins s1 σ H1 D I1 q1
 | false=>exact hb pins s1 σ H1 D I1 q1
end
abbrev TG:=V->St->Hp->(St->Hp->Prop)->Prop
abbrev lK:=List V->St->Hp->(St->Hp->Prop)->Prop
def PG(X:Cx)(target:Expr)(t:TG):Prop:=
 ∀(pins:List<|Addr×Obj) (s:Shared) (σ:St) (H:Hp) (v:V) (u:Value) (Q:St->Hp->Prop),Inv X pins σ H s->RelV v u->t v σ H Q ->
  wpAny (model X.prog X.w) X.A (assign target X.env u) (λ_ s'=>∃ σ' H',Inv X pins σ' H' s'/\Q σ' H') X.xe s
def tX(X:Cx)(ts:List Expr)(t:lK):Prop:=
 ∀(pins:List<|Addr×Obj) (s:Shared) (σ:St) (H:Hp) (vs:List V) (us:List Value) (Q:St->Hp->Prop),Inv X pins σ H s->aj vs us->t vs σ H Q ->
  wpAny (model X.prog X.w) X.A (assignInOrder ((assignEach ts X.env).map (·.2)) us) (λ_ s'=>∃ σ' H',Inv X pins σ' H' s'/\Q σ' H') X.xe s
abbrev iB:=V->V->V->Hp->(Hp->Prop)->Prop
def lN(X:Cx)(t:iB):Prop:=
 ∀(pins:List<|Addr×Obj) (s:Shared) (σ:St) (H:Hp) (o i v:V) (ov iv u:Value) (Q:Hp->Prop),Inv X pins σ H s->RelV o ov->RelV i iv->RelV v u->t o i v H Q ->
  wpAny (model X.prog X.w) X.A (setItem ov iv u) (λ_ s'=>∃ H',Inv X pins σ H' s'/\Q H') X.xe s
abbrev pc:=V->V->Hp->VK->Prop
def tY(X:Cx)(op:Operator)(t:pc):Prop:=
 ∀(pins:List<|Addr×Obj) (s:Shared) (σ:St) (H:Hp) (x y:V) (v u:Value) (Q:VK),Inv X pins σ H s->RelV x v->RelV y u->t x y H Q ->
  wpAny (model X.prog X.w) X.A (inplaceOp op v u) (EP X pins σ Q) X.xe s
section
variable{X:Cx}{pos:Pos}
def A8(i:Nat):TG:=λv σ H Q=>Q (σ.set i<|some v) H
theorem K6{i:Nat}{x:Str}(hN:X.N.Nodup)(hi:X.N[i]?=some x)(hx:Loc X.env.scope x)(hf:X.fn x=true\/X.env.scope.names.lookup x=some .local:=by first | exact .inl rfl | exact .inr rfl | assumption):PG X (.Name x pos) (A8 i):=by
 intro pins s σ H v u Q I r h;exact wpAny_assign_Name<|vR I hN hi hx r (λs' I'=>⟨_,H,I',h⟩) hf
def lO:lK:=λvs σ H Q=>vs=[]/\Q σ H
def nS(t:TG)(u:lK):lK:=λvs σ H Q=>∃ v r,vs=v :: r/\t v σ H λσ' H'=>u r σ' H' Q
theorem A9:tX X [] lO:=by
 intro pins s σ H vs us Q I r h;obtain⟨e,h⟩:=h;subst e;cases r;exact assignInOrder_nil ⟨σ,H,I,h⟩
theorem pd{e:Expr}{es:List Expr}{t:TG}{u:lK}(h1:PG X e t)(h2:tX X es u)
  (hs:(assignEach (e :: es) X.env).map (·.2)=assign e X.env :: (assignEach es X.env).map (·.2):=by rfl):tX X (e :: es) (nS t u):=by
 intro pins s σ H vs us Q I r h;obtain⟨v,vr,e1,h⟩:=h;subst e1;cases r with
 | cons r rr=>
  rw [hs];refine assignInOrder_cons<|ay (h1 pins s σ H _ _ _ I r h) λ_ s1 ⟨σ1,H1,I1,q1⟩=>?_;exact h2 pins s1 σ1 H1 _ _ Q I1 rr q1
def vZ(K:PySem.W.Frag)(n:Nat)(t:lK):TG:=λv σ H Q=>∃ a xs,v = .ref a/\bo K H a xs/\xs.length=n/\t xs σ H Q
theorem BA{es:List Expr}{k:Nat}{t:lK}{n:Nat}(hc:X.calm=true)(h:tX X es t)
  (hn:(assignEach es X.env).length=n:=by rfl) (cb:(assignEach es X.env).findIdx? (·.1)=none:=by rfl):PG X (.Tuple es k pos) (vZ X.K n t):=by
 intro pins s σ H v u Q I r hw;obtain⟨a,xs,e1,hq,hl,hw⟩:=hw;subst e1;cases r;obtain⟨its,rv,ht,hz⟩:=I.tuple hq;refine assign_Tuple_tuple (I.ok.hd hc) ht (by simp [hn,<- hl,rv.length]) cb λh' hx=>?_;have I1:Inv X pins σ H {s with heap:=h'}:=I.kept (t':=s.toks) λb o e=>hx b o (Co<|Bb e) e;exact h pins _ σ H xs _ Q I1 (by simpa using rv) hw
def v9(to ti:TE)(t:iB):TG:=λv σ H Q=>to σ H λo H1=>ti σ H1 λi H2=>t o i v H2 λH3=>Q σ H3
theorem K7{o i:Expr}{to ti:TE}{t:iB}(ho:PE X o to)(hi:PE X i ti)(hs:lN X t)
  (ha : ∀ v, assign (.Subscript o i pos) X.env v = (do
   let ov <- holding [v]<|eval o X.env
   let iv <- holding [v,ov]<|eval i X.env
   standAt pos
   holding [v,ov,iv] (setItem ov iv v)
   release [v,ov,iv] []):=by intro _;rfl):PG X (.Subscript o i pos) (v9 to ti t):=by
 intro pins s σ H v u Q I r h;rw [ha];refine BP<|DG<|ay (ho pins s σ H _ I h) λov s1 ⟨x,H1,I1,r1,q1⟩=>?_;refine BP<|DG<|ay (hi pins s1 σ H1 _ I1 q1) λiv s2 ⟨y,H2,I2,r2,q2⟩=>?_;refine BP<|DR<|BP<|DG<|ay (hs pins s2 σ H2 x y v ov iv u _ I2 r1 r2 r q2) λ_ s3 ⟨H3,I3,q3⟩=>?_;exact wpAny_release ⟨σ,H3,I3,q3⟩
def pf(te:TE)(g:TG):TS:=λD σ H=>te σ H λx H1=>g x σ H1 D.nx
theorem K8{tg e:Expr}{te:TE}{g:TG}(he:PE X e te)(hg:PG X tg g)(hs:swapsWithSole [tg] e pos.line X.env=pure false:=by rfl)(hw:swappedStores [tg] e X.env=pure none:=by rfl)
  (h1:(assignEach [tg] X.env).map (·.2)=[assign tg X.env]:=by rfl):PS X (.Assign [tg] e pos) (pf te g):=by
 intro pins s σ H D I h;refine wpAny_Assign_stores (ay (he pins s σ H _ I h) λv s1 ⟨x,H1,I1,r1,q1⟩=>?_) hs hw;rw [h1];exact ay (hg pins s1 σ H1 x v _ I1 r1 q1) λ_ s2 q=>q
theorem K9{i:Nat}{x:Str}{e:Expr}{te:TE}{pos':Pos}(hN:X.N.Nodup)(hi:X.N[i]?=some x)(hx:Loc X.env.scope x)(he:PE X e te)(hs:swapsWith e (some<|.Name x pos') pos.line X.env=pure false:=by rfl)(hf:X.fn x=true\/X.env.scope.names.lookup x=some .local:=by first | exact .inl rfl | exact .inr rfl | assumption) :
  PS X (.Assign [.Name x pos'] e pos) (pf te<|A8 i):=by
 intro pins s σ H D I h;refine wpAny_Assign_Name (ay (he pins s σ H _ I h) λv s1 ⟨y,H1,I1,r1,q1⟩=>?_) hs;exact vR I1 hN hi hx r1 (λs2 I2=>⟨_,H1,I2,q1⟩) hf
def K'(to ti te:TE)(jC:V->V->Hp->VK->Prop)(lP:pc)(iC:iB):TS:=λD σ H=>to σ H λo H1=>ti σ H1 λi H2=>jC o i H2 λx H3=>te σ H3 λy H4=>lP x y H4 λz H5=>iC o i z H5 λH6=>D.nx σ H6
def ph(X:Cx)(t:V->V->Hp->VK->Prop):Prop:=
 ∀(pins:List<|Addr×Obj) (s:Shared) (σ:St) (H:Hp) (o i:V) (ov iv:Value) (Q:VK),Inv X pins σ H s->RelV o ov->RelV i iv->t o i H Q ->
  wpAny (model X.prog X.w) X.A (getItem ov iv) (EP X pins σ Q) X.xe s
theorem La{o i e:Expr}{to ti te:TE}{jC:V->V->Hp->VK->Prop}{lP:pc}{iC:iB}{op:Operator}{iD:Pos}(ho:PE X o to)(hi:PE X i ti)(hg:ph X jC)(he:PE X e te)(hp:tY X op lP)(hs:lN X iC)
  (ha:∀ ov iv new,augStore i ov iv new=(do holding [new,ov,iv] (setItem ov iv new);release [new,ov,iv] [];pure .next):=by intros;rfl):PS X (.AugAssign (.Subscript o i iD) op e pos) (K' to ti te jC lP iC):=by
 intro pins s σ H D I h;refine wpAny_AugAssign_SubscriptAny (ay (ho pins s σ H _ I h) λov s1 ⟨x1,H1,I1,r1,q1⟩=>?_) ha;refine ay (hi pins s1 σ H1 _ I1 q1) λiv s2 ⟨x2,H2,I2,r2,q2⟩=>?_;refine ay (hg pins s2 σ H2 x1 x2 ov iv _ I2 r1 r2 q2) λold s3 ⟨x3,H3,I3,r3,q3⟩=>?_;refine ay (he pins s3 σ H3 _ I3 q3) λv s4 ⟨x4,H4,I4,r4,q4⟩=>?_;refine ay (hp pins s4 σ H4 x3 x4 old v _ I4 r3 r4 q4) λnew s5 ⟨x5,H5,I5,r5,q5⟩=>?_;exact ay (hs pins s5 σ H5 x1 x2 x5 ov iv new _ I5 r1 r2 r5 q5) λ_ s6 ⟨H6,I6,q6⟩=>⟨σ,H6,I6,q6⟩
def BD(f:Int->Int->Int):pc:=λx y H Q=>∃ i j,x = .int i/\y = .int j/\Q (.int<|f i j) H
theorem Lb:tY X .Add (BD λi j=>i+j):=by
 intro pins s σ H x y v u Q I r1 r2 h;obtain⟨i,j,e1,e2,q⟩:=h;subst e1;subst e2;obtain⟨t,rfl⟩:=r1;obtain⟨t',rfl⟩:=r2;exact iadd_int ⟨.int _,H,I.tok _,⟨_,rfl⟩,q⟩
theorem Lc:tY X .Sub (BD λi j=>i - j):=by
 intro pins s σ H x y v u Q I r1 r2 h;obtain⟨i,j,e1,e2,q⟩:=h;subst e1;subst e2;obtain⟨t,rfl⟩:=r1;obtain⟨t',rfl⟩:=r2;exact isub_int ⟨.int _,H,I.tok _,⟨_,rfl⟩,q⟩
def Ld(c:TT)(tb:TS):TS:=λD σ H=>∃ W:Nat->St->Hp->Prop,(∃ m,W m σ H)/\∀ m σ H,W m σ H ->
 c σ H λb H1=>if b=true then ∃ N:St->Hp->Prop,(∀ σ' H',N σ' H'->∃ m',m' < m/\W m' σ' H')/\tb {D with nx:=N,ct:=N,bk:=D.nx} σ H1 else D.nx σ H1
theorem Le{c:Expr}{body:List Stmt}{tc:TT}{tb:TS}(hp:PassesOwn (model X.prog X.w) X.A X.env X.xe)(hc:PT X c tc)(hb:gI X body tb):PS X (.While c body [] pos) (Ld tc tb):=by
 intro pins s σ H D I h;obtain⟨W,⟨m0,w0⟩,turn⟩:=h;refine wpAny_While<|codeAny_whileLoop (λn s'=>∃ σ' H',Inv X pins σ' H' s'/\W n σ' H') ?_ m0 ⟨σ,H,I,w0⟩;rintro n s1 ⟨σ1,H1,I1,w1⟩;refine DQ hp<|ay (hc pins s1 σ1 H1 _ I1<|turn n σ1 H1 w1) λb s2 ⟨H2,I2,q2⟩=>?_;cases b with
 | true=>
  obtain⟨N,hN,q2⟩:=q2;rw [BK rfl];refine DQ hp<|ay (hb pins s2 σ1 H2 _ I2 q2) λf s3 q3=>?_;cases f with
  | next=>
   obtain⟨σ3,H3,I3,n3⟩:=q3;obtain⟨m',hm,w3⟩:=hN σ3 H3 n3;exact⟨m',hm,σ3,H3,I3,w3⟩
  | cont=>
   obtain⟨σ3,H3,I3,n3⟩:=q3;obtain⟨m',hm,w3⟩:=hN σ3 H3 n3;exact⟨m',hm,σ3,H3,I3,w3⟩
  | brk=>exact q3
  | ret v=>exact q3
 | false=>
  rw [BJ Aw];exact KH ⟨σ1,H2,I2,q2⟩
end
structure It where
 go:Nat->Hp->Prop
 pq:Nat->Hp->V->Hp->Prop
 stop:Nat->Hp->Prop
def bT(X:Cx)(pins:List<|Addr×Obj)(H:Hp)(b:Addr):Prop:=
 H b=none/\b≠X.env.locals/\b∉X.fs/\(b∈X.ex\/X.s₀.heap.objs.size<=b)/\(∀ x c,X.env.cells.lookup x=some c->c≠b)/\∀ p∈X.pn++pins,p.1≠b
theorem Inv.fE{X:Cx}{pins:List (Addr×Obj)}{σ:St}{H H':Hp}{s:Shared}{b:Addr}(I:Inv X pins σ H s)(hb:s.heap.objs.size<=b)(hn:H' b=none):bT X pins H' b:=by
 refine⟨hn,Er<|Bm I.lt hb,I.vO hb,.inr<|Dk I.sz hb,λx c e z=>?_,λp hp z=>?_⟩
 ·obtain⟨v,q⟩:=I.cell x c e;exact absurd (Bm q.lt<|by rw [z];exact hb)<|Cd _
 ·exact absurd (Bm (Bb (I.pin p hp).1)<|by rw [z];exact hb)<|Cd _
structure Turn(P:Program)(w:World)(K:PySem.W.Frag)(tg:Expr)(J:It)(fp:List Addr)(it:Addr)(tn:Nat->Heap->Prop):Prop where
 mem:it∈fp
 obj:∀ i h,tn i h->∀ b∈fp,∃ o,h.get? b=some o/\∀ v,o.data ≠ .cell v
 keep:∀ i h h',tn i h->(∀ b∈fp,∀ o,h.get? b=some o->h'.get? b=some o)->tn i h'
 item:∀(X:Cx),X.prog=P->X.w=w->X.K=K->X.calm=true->∀(i:Nat) (pins:List<|Addr×Obj) (s:Shared) (σ:St) (H:Hp) (E:Value->Shared->Prop),Inv X pins σ H s->(∀ b∈fp,bT X pins H b)->tn i s.heap->J.go i H ->
  wpAny (model P w) X.A (pyNext<|.ref it) (λr s1=>∃ u,r=some u /\
   wpAny (model P w) X.A (letOwnedTupleGo tg (.ref it) u) (λ_ s2=>∃ x H',Inv X pins σ H' s2/\RelV x u/\J.pq i H x H'/\tn (i+1) s2.heap/\∀ b∈fp,H' b=none) E s1) E s
 done:∀(X:Cx),X.prog=P->X.w=w->X.K=K->X.calm=true->∀(i:Nat) (pins:List<|Addr×Obj) (s:Shared) (σ:St) (H:Hp) (E:Value->Shared->Prop),Inv X pins σ H s->(∀ b∈fp,bT X pins H b)->tn i s.heap->J.stop i H ->
  wpAny (model P w) X.A (pyNext<|.ref it) (λr s1=>r=none/\Inv X pins σ H s1) E s
 self:∀(A:Around) (i:Nat) (s:Shared) (Q:Value->Shared->Prop) (E:Value->Shared->Prop),tn i s.heap->Q (.ref it) s->wpAny (model P w) A (pyIter<|.ref it) Q E s
abbrev TI:=St->Hp->(It->Hp->Prop)->Prop
def BE(X:Cx)(pins:List<|Addr×Obj)(σ:St)(tg:Expr)(R:It->Hp->Prop)(nU:Value)(s2:Shared):Prop:=
 ∃(it:Addr) (fp:List Addr) (tn:Nat->Heap->Prop) (J:It) (H':Hp),nU = .ref it/\Inv X pins σ H' s2/\Turn X.prog X.w X.K tg J fp it tn/\tn 0 s2.heap/\(∀ b∈fp,bT X pins H' b)/\R J H'
def PI(X:Cx)(tg iter:Expr)(wi:TI):Prop:=
 ∀(pins:List<|Addr×Obj) (s:Shared) (σ:St) (H:Hp) (R:It->Hp->Prop),Inv X pins σ H s->wi σ H R ->
  wpAny (model X.prog X.w) X.A (eval iter X.env) (λv s1=>wpAny (model X.prog X.w) X.A (pyIter v) (BE X pins σ tg R) X.xe s1) X.xe s
theorem pt{M:Model}{A:Around}{E:Value->Shared->Prop}{s:Shared}{tg:Expr}{it:Addr}{u:Value}{o:Obj}{n:String}{vs:Array Value}{Q:Unit->Shared->Prop}(ho:s.heap.get? it=some o)(hc:o.cls = .type n)(hd:o.data = .fields vs)
    (hn:["enumerate","zip","dict_itemiterator","dict_reverseitemiterator","odict_iterator","itertools.zip_longest","itertools.pairwise"].contains n=false) (hQ:Q () s):wpAny M A (letOwnedTupleGo tg (.ref it) u) Q E s:=by
  unfold letOwnedTupleGo;cases tg <;> first
    | exact BX hQ
    | (cases u <;> first
        | exact BX hQ
        | (refine BP<|wpAny_load ho ?_
           rw [hc,hd];show wpAny M A (if(["enumerate","zip","dict_itemiterator","dict_reverseitemiterator","odict_iterator","itertools.zip_longest","itertools.pairwise"].contains n && vs[0]? == some (rawInt _))=true then _ else _) Q E s;rw [BJ<|by intro h;rw [hn,Bool.false_and] at h;cases h];exact BX hQ))
def pv(K:PySem.W.Frag)(a:Addr):It:=
 ⟨λi H=>∃ xs x,av K H a xs/\xs[i]?=some x,λi H x H'=>H'=H/\∀ xs,av K H a xs->xs[i]?=some x,λi H=>∃ xs,av K H a xs/\xs.length<=i⟩
def px(K:PySem.W.Frag)(a:Addr):It:=
 ⟨λi H=>∃ xs x,bo K H a xs/\xs[i]?=some x,λi H x H'=>H'=H/\∀ xs,bo K H a xs->xs[i]?=some x,λi H=>∃ xs,bo K H a xs/\xs.length<=i⟩
def lQ(lo:Int)(n:Nat):It:=⟨λi _=>i < n,λi H x H'=>H'=H/\x = .int (lo+i),λi _=>n<=i⟩
theorem Lf{P:Program}{w:World}{K:PySem.W.Frag}{tg:Expr}(a it:Addr):Turn P w K tg (pv K a) [it] it (λi h=>h.IsListIter it a i) where
 mem:=by simp
 obj:=λi h st b hb=>by
  have e:b=it:=by simpa using hb
  subst e;obtain⟨o,e,c,d⟩:=st;exact⟨o,e,λv z=>by rw [d] at z;cases z⟩
 keep:=λi h h' st k=>st.at λo e=>k it (by simp) o e
 item:=by
  intro X hP hw hK hc i pins s σ H E I hf st hg;subst hP hw hK;obtain⟨xs,x,hq,hx⟩:=hg;obtain⟨its,rv,p,hz⟩:=I.list hq;obtain⟨u,hu,ru⟩:=rv.get hx;obtain⟨f0,f1,f2,f3,f4,f5⟩:=hf it (by simp);refine wpAny_pyNext_list_item st p.isList (x:=u) (by simpa using hu) λh' ag sb=>?_;have I1:Inv X pins σ H {s with heap:=h'}:=I.turned (t':=s.toks) (λb o hb e=>(sb.2 b hb).trans e) f0 f1 f3 f4 f5;obtain⟨o,e,c,d⟩:=id ag;exact⟨u,rfl,pt (s:={s with heap:=h'}) e c d (by decide) ⟨x,H,I1,ru,⟨rfl,λys hy=>by rw [I.eV hy hq];exact hx⟩,ag,λb hb=>(hf b hb).1⟩⟩
 done:=by
  intro X hP hw hK hc i pins s σ H E I hf st hg;subst hP hw hK;obtain⟨xs,hq,hx⟩:=hg;obtain⟨its,rv,p,hz⟩:=I.list hq;obtain⟨f0,f1,f2,f3,f4,f5⟩:=hf it (by simp);have hl:=rv.length;exact wpAny_pyNext_list_end (I.ok.hd hc) st p.isList (by simp;omega) λh' eb=>⟨rfl,I.turned (t':=s.toks) (λb o hb e=>eb b o hb e) f0 f1 f3 f4 f5⟩
 self:=λ_ _ _ _ _ st h=>wpAny_pyIter_listiter st h
theorem Lh{P:Program}{w:World}{K:PySem.W.Frag}{tg:Expr}(a it:Addr):Turn P w K tg (px K a) [it] it (λi h=>h.IsTupleIter it a i) where
 mem:=by simp
 obj:=λi h st b hb=>by
  have e:b=it:=by simpa using hb
  subst e;obtain⟨o,e,c,d⟩:=st;exact⟨o,e,λv z=>by rw [d] at z;cases z⟩
 keep:=λi h h' st k=>st.at λo e=>k it (by simp) o e
 item:=by
  intro X hP hw hK hc i pins s σ H E I hf st hg;subst hP hw hK;obtain⟨xs,x,hq,hx⟩:=hg;obtain⟨its,rv,p,hz⟩:=I.tuple hq;obtain⟨u,hu,ru⟩:=rv.get hx;obtain⟨f0,f1,f2,f3,f4,f5⟩:=hf it (by simp);refine wpAny_pyNext_tuple_item st (show s.heap.IsTuple a its.toArray from p) (x:=u) (by simpa using hu) λh' ag sb=>?_;have I1:Inv X pins σ H {s with heap:=h'}:=I.turned (t':=s.toks) (λb o hb e=>(sb.2 b hb).trans e) f0 f1 f3 f4 f5;obtain⟨o,e,c,d⟩:=id ag;exact⟨u,rfl,pt (s:={s with heap:=h'}) e c d (by decide) ⟨x,H,I1,ru,⟨rfl,λys hy=>by rw [I.gJ hy hq];exact hx⟩,ag,λb hb=>(hf b hb).1⟩⟩
 done:=by
  intro X hP hw hK hc i pins s σ H E I hf st hg;subst hP hw hK;obtain⟨xs,hq,hx⟩:=hg;obtain⟨its,rv,p,hz⟩:=I.tuple hq;obtain⟨f0,f1,f2,f3,f4,f5⟩:=hf it (by simp);have hl:=rv.length;exact wpAny_pyNext_tuple_end (I.ok.hd hc) st (show s.heap.IsTuple a its.toArray from p) (by simp;omega) λh' eb=>⟨rfl,I.turned (t':=s.toks) (λb o hb e=>eb b o hb e) f0 f1 f3 f4 f5⟩
 self:=λ_ _ _ _ _ st h=>wpAny_pyIter_tupleiter st h
theorem Li{P:Program}{w:World}{K:PySem.W.Frag}{tg:Expr}(it:Addr)(lo:Int)(n:Nat):Turn P w K tg (lQ lo n) [it] it (λi h=>IsRangeIter h it (lo+(i:Nat) * 1) ((n:Int) - (i:Nat)) 1) where
 mem:=by simp
 obj:=λi h st b hb=>by
  have e:b=it:=by simpa using hb
  subst e;exact⟨_,st,λv z=>by
   have z':Data.fields _=Data.cell v:=z;cases z'⟩
 keep:=λi h h' st k=>k it (by simp) _ st
 item:=by
  intro X hP hw hK hc i pins s σ H E I hf st hg;subst hP hw hK;obtain⟨f0,f1,f2,f3,f4,f5⟩:=hf it (by simp);have W:=Walks.range (prog:=X.prog) (w:=X.w) (I.ok.hd hc) it lo 1 n;refine W.item i s _ _ hg st λv h' tk hv ag kk=>?_;obtain⟨t,rfl⟩:=hv;have I1:Inv X pins σ H {s with heap:=h',toks:=tk}:=I.turned (λb o hb e=>kk b o (by simpa using hb) e) f0 f1 f3 f4 f5;refine⟨_,rfl,pt (s:={s with heap:=h',toks:=tk}) (n:= "range_iterator") ag rfl rfl (by decide) ⟨.int<|lo+i,H,I1,⟨t,?_⟩,⟨rfl,rfl⟩,ag,λb hb=>(hf b hb).1⟩⟩;rw [Int.mul_one]
 done:=by
  intro X hP hw hK hc i pins s σ H E I hf st hg;subst hP hw hK;obtain⟨f0,f1,f2,f3,f4,f5⟩:=hf it (by simp);exact wpAny_pyNext_range_end (I.ok.hd hc) st (by have:n<=i:=hg;omega) λh' eb=>⟨rfl,I.turned (t':=s.toks) (λb o hb e=>eb b o hb e) f0 f1 f3 f4 f5⟩
 self:=λ_ _ _ _ _ st h=>wpAny_pyIter_rangeiter st h
section
variable{X:Cx}{tg:Expr}
def Lj(K:PySem.W.Frag)(tl:TE):TI:=λσ H R=>tl σ H λx H1=>∃ a,x = .ref a/\(∃ xs,av K H1 a xs)/\R (pv K a) H1
def wa(K:PySem.W.Frag)(tl:TE):TI:=λσ H R=>tl σ H λx H1=>∃ a,x = .ref a/\(∃ xs,bo K H1 a xs)/\R (px K a) H1
theorem kA{l:Expr}{tl:TE}(hl:PE X l tl):PI X tg l (Lj X.K tl):=by
 intro pins s σ H R I h;refine ay (hl pins s σ H _ I h) λv s1 ⟨x,H1,I1,r1,q1⟩=>?_;obtain⟨a,e,⟨xs,hq⟩,q⟩:=q1;subst e;cases r1;obtain⟨its,rv,p,hz⟩:=I1.list hq;refine wpAny_pyIter_list p.isList ?_;refine⟨s1.heap.objs.size,[s1.heap.objs.size],_,_,H1,rfl,I1.kept (t':=s1.toks) λb o e=>Aj _ e,Lf a _,⟨_,Bt _ rfl,rfl,rfl⟩,λb hb=>?_,q⟩;have e:b=s1.heap.objs.size:=by simpa using hb
 subst e;exact I1.fE (Af _)<|I1.aw.fresh<|Af _
theorem Lq{l:Expr}{tl:TE}(hl:PE X l tl):PI X tg l (wa X.K tl):=by
 intro pins s σ H R I h;refine ay (hl pins s σ H _ I h) λv s1 ⟨x,H1,I1,r1,q1⟩=>?_;obtain⟨a,e,⟨xs,hq⟩,q⟩:=q1;subst e;cases r1;obtain⟨its,rv,p,hz⟩:=I1.tuple hq;refine wpAny_pyIter_tuple (show s1.heap.IsTuple a its.toArray from p) ?_;refine⟨s1.heap.objs.size,[s1.heap.objs.size],_,_,H1,rfl,I1.kept (t':=s1.toks) λb o e=>Aj _ e,Lh a _,⟨_,Bt _ rfl,rfl,rfl⟩,λb hb=>?_,q⟩;have e:b=s1.heap.objs.size:=by simpa using hb
 subst e;exact I1.fE (Af _)<|I1.aw.fresh<|Af _
theorem BF{pins:List (Addr×Obj)}{σ:St}{H:Hp}{s:Shared}{R:It->Hp->Prop}{E:Value->Shared->Prop}{lo hi:Int}{t u v:Tok}{tk:Nat}(I:Inv X pins σ H s)(h1:-(2 ^ 62)<=lo)(h2:lo < 2 ^ 62)(h3:-(2 ^ 62)<=hi)(h4:hi < 2 ^ 62)
  (q:R (lQ lo (hi - lo).toNat) H):wpAny (model X.prog X.w) X.A (pyIter<|.ref s.heap.objs.size) (BE X pins σ tg R) E {s with heap:=s.heap.push {cls:= .type "range",data:= .fields #[.int lo t,.int hi u,.int 1 v]},toks:=tk}:=by
 refine wpAny_pyIter_range (IsRange.new ..) (small_one h1 h2 h3 h4) ?_;have I1:Inv X pins σ H {s with heap:=s.heap.push {cls:= .type "range",data:= .fields #[.int lo t,.int hi u,.int 1 v]},toks:=tk}:=I.kept λb o e=>Aj _ e;refine⟨(s.heap.push {cls:= .type "range",data:= .fields #[.int lo t,.int hi u,.int 1 v]}).objs.size,[(s.heap.push {cls:= .type "range",data:= .fields #[.int lo t,.int hi u,.int 1 v]}).objs.size],_,_,H,rfl,
  I1.kept (t':=tk) λb o e=>Aj _ e,Li _ lo (hi - lo).toNat,?_,λb hb=>?_,q⟩
 ·have e1:lo+((0:Nat):Int) * 1=lo:=by simp
  have e2:(((hi - lo).toNat:Nat):Int) - ((0:Nat):Int)=Builtin.Range.rangeSize lo hi 1:=by rw [rangeSize_one];split <;> omega
  show IsRangeIter _ _ (lo+((0:Nat):Int) * 1) ((((hi - lo).toNat:Nat):Int) - ((0:Nat):Int)) 1;rw [e1,e2];exact Bt _ rfl
 ·have e:b=(s.heap.push {cls:= .type "range",data:= .fields #[.int lo t,.int hi u,.int 1 v]}).objs.size:=by simpa using hb
  subst e;exact I1.fE (Af _)<|I1.aw.fresh<|Af _
def BG(ta:TA):TI:=λσ H R=>ta σ H λvs H1=>∃ j:Int,vs=[.int j]/\-(2 ^ 62)<=j/\j < 2 ^ 62/\R (lQ 0 j.toNat) H1
def Lr(ta:TA):TI:=λσ H R=>ta σ H λvs H1=>∃ i j:Int,vs=[.int i,.int j]/\(-(2 ^ 62)<=i/\i < 2 ^ 62/\-(2 ^ 62)<=j/\j < 2 ^ 62)/\R (lQ i (j - i).toNat) H1
theorem wc{a:Expr}{ta:TA}{p pos:Pos}(hg:Gl X "range")(hm:X.mg "range" = none)(ha:PA X [a] ta)(hs:starEach [a] X.env=[(false,eval a X.env)]:=by rfl):PI X tg (.Call (.Name "range" p) [a] [] pos) (BG ta):=by
 intro pins s σ H R I h;refine Call_<|lJ I hg hm boot_range<|DN (ay (ha pos pins s σ H _ I h) λus s1 ⟨vs,H1,I1,r1,q1⟩=>?_) hs rfl;obtain⟨j,e,q1,q2,q⟩:=q1;subst e;cases r1 with
 | cons r rr=>
  cases rr;obtain⟨t,rfl⟩:=r;exact call_range_1<|BF I1 (by omega) (by omega) q1 q2<|by simpa using q
theorem Lv{a b:Expr}{ta:TA}{p pos:Pos}(hg:Gl X "range")(hm:X.mg "range" = none)(ha:PA X [a,b] ta)(hs:starEach [a,b] X.env=[(false,eval a X.env),(false,eval b X.env)]:=by rfl)(kB:starEach [b] X.env=[(false,eval b X.env)]:=by rfl) :
  PI X tg (.Call (.Name "range" p) [a,b] [] pos) (Lr ta):=by
 intro pins s σ H R I h;refine Call_ (lJ I hg hm boot_range<|DN (ay (ha pos pins s σ H _ I h) λus s1 ⟨vs,H1,I1,r1,q1⟩=>?_) (by rw [hs,kB])<|by rw [kB];rfl);obtain⟨i,j,e,⟨q1,q2,q3,q4⟩,q⟩:=q1;subst e;cases r1 with
 | cons r rr=>
  cases rr with
  | cons r' rr=>
   cases rr;obtain⟨t,rfl⟩:=r;obtain⟨t',rfl⟩:=r';exact call_range_2<|BF I1 q1 q2 q3 q4 q
def wd(wi:TI)(g:TG)(tb:TS):TS:=λD σ H=>wi σ H λJ H1=>∃ W:Nat->Nat->St->Hp->Prop,(∃ m,W 0 m σ H1)/\∀ i m σ H,W i m σ H ->
 (J.stop i H/\D.nx σ H)\/(J.go i H/\∃ N:St->Hp->Prop,(∀ σ' H',N σ' H'->∃ m',m' < m/\W (i+1) m' σ' H')/\∀ x H',J.pq i H x H'->g x σ H' λσ2 H2=>tb {D with nx:=N,ct:=N,bk:=D.nx} σ2 H2)
def pz(fp:List Addr)(h:Heap):List (Addr×Obj):=fp.filterMap λb=>(h.get? b).map λo=>(b,o)
theorem tZ{fp:List Addr}{h:Heap}{b:Addr}{o:Obj}(hb:b∈fp)(e:h.get? b=some o):(b,o)∈pz fp h:=List.mem_filterMap.mpr ⟨b,hb,by rw [e];rfl⟩
theorem Lw{fp:List Addr}{h:Heap}{p:Addr×Obj}(hp:p∈pz fp h):p.1∈fp/\h.get? p.1=some p.2:=by
 obtain⟨b,hb,e⟩:=List.mem_filterMap.mp hp;cases q:h.get? b with
 | none=>rw [q] at e;cases e
 | some o=>
  rw [q] at e;have e':(b,o)=p:=Option.some.inj e;subst e';exact⟨hb,q⟩
theorem Inv.pinned{pins:List (Addr×Obj)}{σ:St}{H:Hp}{s:Shared}{fp:List Addr}(I:Inv X pins σ H s)(hf:∀ b∈fp,bT X pins H b)(ho:∀ b∈fp,∃ o,s.heap.get? b=some o/\∀ v,o.data ≠ .cell v):Inv X (pins++pz fp s.heap) σ H s:=
 I.fV λp hp=>(An.mp hp).elim (λz=>I.pin p<|Ao _ z) λz=>by
  obtain⟨hb,e⟩:=Lw z;obtain⟨f0,f1,f2,_⟩:=hf p.1 hb;obtain⟨o,e',d⟩:=ho p.1 hb;rw [e] at e';cases e';exact⟨e,f0,f1,f2,d⟩
theorem Inv.ce{pins pl:List (Addr×Obj)}{σ:St}{H:Hp}{s:Shared}(I:Inv X (pins++pl) σ H s):Inv X pins σ H s:=I.fV λp hp=>I.pin p<|Ao _<|Ba _ hp
theorem Lx{iter:Expr}{body:List Stmt}{wi:TI}{g:TG}{tb:TS}{pos:Pos}(hp:PassesOwn (model X.prog X.w) X.A X.env X.xe)(hc:X.calm=true)(hi:PI X tg iter wi)(hg:PG X tg g)(hb:gI X body tb)
  (hs:∀ x,foldedSetIterable iter X.env x=pure x:=by intro _;rfl):PS X (.For tg iter body [] pos) (wd wi g tb):=by
 intro pins s σ H D I h;refine wpAny_For (ay (hi pins s σ H _ I h) λv s1 h1=>ay h1 λnU s2 h2=>?_) hs;obtain⟨it,fp,tn,J,H2,e,I2,T,aY,f2,W,⟨m0,w0⟩,turn⟩:=h2;subst e;have stat:∀{H':Hp},(∀ b∈fp,H' b=none)->∀ b∈fp,bT X pins H' b:=λhn b hb=>⟨hn b hb,(f2 b hb).2⟩;refine codeAny_forLoop_any (λn s'=>∃ i σ' H',Inv X pins σ' H' s'/\tn i s'.heap/\(∀ b∈fp,H' b=none)/\W i n σ' H') ?_ m0 ⟨0,σ,H2,I2,aY,λb hb=>(f2 b hb).1,w0⟩;rintro n s3 ⟨i,σ3,H3,I3,bg,BH,w3⟩
 rcases turn i n σ3 H3 w3 with ⟨stop,qn⟩ | ⟨go,N,hN,step⟩
 ·refine DQ hp<|ay (T.done X rfl rfl rfl hc i pins s3 σ3 H3 X.xe I3 (stat BH) bg stop) λr s4 ⟨hr,I4⟩=>?_;subst hr;exact KH ⟨σ3,H3,I4,qn⟩
 ·refine DQ hp<|ay (T.item X rfl rfl rfl hc i pins s3 σ3 H3 X.xe I3 (stat BH) bg go) λr s4 ⟨u,hr,h4⟩=>?_;subst hr;refine DQ hp<|ay h4 λ_ s5 ⟨x,H5,I5,r5,y5,we,Ly⟩=>?_;have Lz:=I5.pinned (stat Ly)<|T.obj _ _ we;refine DQ hp<|ay (hg _ s5 σ3 H5 x u _ Lz r5<|step x H5 y5) λ_ s6 ⟨σ6,H6,I6,q6⟩=>?_;refine DQ hp<|ay (hb _ s6 σ6 H6 _ I6 q6) λf s7 q7=>?_;have again:∀{σ7:St} {H7:Hp},Inv X (pins++pz fp s5.heap) σ7 H7 s7->N σ7 H7->∃ m,m < n/\∃ i σ' H',Inv X pins σ' H' s7/\tn i s7.heap/\(∀ b∈fp,H' b=none)/\W i m σ' H':=λ{σ7 H7} I7 n7=>by
   obtain⟨m',hm,w7⟩:=hN σ7 H7 n7;refine⟨m',hm,i+1,σ7,H7,I7.ce,T.keep _ _ _ we λb hb o e=>(I7.pin (b,o)<|Ao _<|Ao _<|tZ hb e).1,λb hb=>?_,w7⟩;obtain⟨o,e,d⟩:=T.obj _ _ we b hb;exact(I7.pin (b,o)<|Ao _<|Ao _<|tZ hb e).2.1
  cases f with
  | next=>obtain⟨σ7,H7,I7,n7⟩:=q7;exact again I7 n7
  | cont=>obtain⟨σ7,H7,I7,n7⟩:=q7;exact again I7 n7
  | brk=>obtain⟨σ7,H7,I7,q7⟩:=q7;exact⟨σ7,H7,I7.ce,q7⟩
  | ret v=>obtain⟨x7,σ7,H7,I7,r7,q7⟩:=q7;exact⟨x7,σ7,H7,I7.ce,r7,q7⟩
end
abbrev R2:=V->V->Hp->VK->Prop
def db(X:Cx)(f:Value->Value->Sem Value)(r:R2):Prop:=
 ∀(pins:List<|Addr×Obj) (s:Shared) (σ:St) (H:Hp) (x y:V) (v u:Value) (Q:VK),Inv X pins σ H s->RelV x v->RelV y u->r x y H Q ->
  wpAny (model X.prog X.w) X.A (f v u) (EP X pins σ Q) X.xe s
def t4(X:Cx)(f:Value->Sem Value)(r:V->Hp->VK->Prop):Prop:=
 ∀(pins:List<|Addr×Obj) (s:Shared) (σ:St) (H:Hp) (x:V) (v:Value) (Q:VK),Inv X pins σ H s->RelV x v->r x H Q ->
  wpAny (model X.prog X.w) X.A (f v) (EP X pins σ Q) X.xe s
def fF(X:Cx)(f:Value)(r:List V->Hp->VK->Prop):Prop:=
 ∀(pins:List<|Addr×Obj) (s:Shared) (σ:St) (H:Hp) (xs:List V) (us:List Value) (Q:VK),Inv X pins σ H s->aj xs us->r xs H Q ->
  wpAny (model X.prog X.w) X.A (call f us) (EP X pins σ Q) X.xe s
def wg(X:Cx)(r:V->Hp->(Bool->Hp->Prop)->Prop):Prop:=
 ∀(pins:List<|Addr×Obj) (s:Shared) (σ:St) (H:Hp) (x:V) (v:Value) (Q:Bool->Hp->Prop),Inv X pins σ H s->RelV x v->r x H Q ->
  wpAny (model X.prog X.w) X.A (truthy v) (TP X pins σ Q) X.xe s
def t5(r:R2)(ta tb:TE):TE:=λσ H Q=>ta σ H λx H1=>tb σ H1 λy H2=>r x y H2 Q
def LA(r:V->Hp->VK->Prop)(ta:TE):TE:=λσ H Q=>ta σ H λx H1=>r x H1 Q
def rI(C:Int->Int->Prop)(g:Int->Int->V):R2:=λx y H Q=>∃ i j,x = .int i/\y = .int j/\C i j/\Q (g i j) H
def nW(g:Int->Int->V):R2:=λx y H Q=>∃ i j,x = .int i/\y = .int j/\Q (g i j) H
def rU(g:Int->V):V->Hp->VK->Prop:=λx H Q=>∃ i,x = .int i/\Q (g i) H
section
variable{X:Cx}{a b c:Expr}{ta tb tc:TE}{pos:Pos}
theorem lR(ha:PE X a ta)(hb:PE X b tb){pins:List (Addr×Obj)}{s:Shared}{σ:St}{H:Hp}{R:V->V->Hp->Prop}(I:Inv X pins σ H s)
  (h:ta σ H λx H1=>tb σ H1 λy H2=>R x y H2) {Q:Value->Shared->Prop} {f:Value->Value->Sem Value}
  (hf:∀ v u s2 x y H2,Inv X pins σ H2 s2->RelV x v->RelV y u->R x y H2->wpAny (model X.prog X.w) X.A (f v u) Q X.xe s2) :
  wpAny (model X.prog X.w) X.A (eval a X.env) (λv s₁=>wpAny (model X.prog X.w) X.A (eval b X.env) (λu s₂=>wpAny (model X.prog X.w) X.A (f v u) Q X.xe s₂) X.xe s₁) X.xe s:=by
 refine ay (ha pins s σ H _ I h) λv s1 ⟨x,H1,I1,r1,q1⟩=>?_;refine ay (hb pins s1 σ H1 _ I1 q1) λu s2 ⟨y,H2,I2,r2,q2⟩=>?_;exact hf v u s2 x y H2 I2 r1 r2 q2
theorem LD{op:Operator}{r:R2}(ho:db X (binaryOp op) r)(ha:PE X a ta)(hb:PE X b tb):PE X (.BinOp a op b pos) (t5 r ta tb):=by
 intro pins s σ H Q I h;exact wpAny_BinOp<|lR ha hb I h λv u s2 x y H2 I2 rx ry q=>ho pins s2 σ H2 x y v u Q I2 rx ry q
theorem LI{op:UnaryOp}{r:V->Hp->VK->Prop}(ho:t4 X (unaryOp op) r)(ha:PE X a ta):PE X (.UnaryOp op a pos) (LA r ta):=by
 intro pins s σ H Q I h;exact UnaryOp_<|ay (ha pins s σ H _ I h) λv s1 ⟨x,H1,I1,r1,q1⟩=>ho pins s1 σ H1 x v Q I1 r1 q1
theorem pA{f:Value->Value->Sem Value}{C:Int->Int->Prop}{g:Int->Int->Int}
  (rule:∀(i j:Int) (t u:Tok) (s:Shared) (Q:Value->Shared->Prop) (E:Value->Shared->Prop),C i j->Q (.int (g i j) s.toks) {s with toks:=s.toks+1}->wpAny (model X.prog X.w) X.A (f (.int i t)<|.int j u) Q E s) :
  db X f (rI C λi j=> .int<|g i j):=by
 intro pins s σ H x y v u Q I rx ry h;obtain⟨i,j,rfl,rfl,hc,q⟩:=h;obtain⟨t,rfl⟩:=rx;obtain⟨t',rfl⟩:=ry;exact rule i j t t' s _ _ hc ⟨.int<|g i j,H,I.tok _,⟨_,rfl⟩,q⟩
theorem pB{f:Value->Value->Sem Value}{g:Int->Int->Int}
  (rule:∀(i j:Int) (t u:Tok) (s:Shared) (Q:Value->Shared->Prop) (E:Value->Shared->Prop),Q (.int (g i j) s.toks) {s with toks:=s.toks+1}->wpAny (model X.prog X.w) X.A (f (.int i t)<|.int j u) Q E s) :
  db X f (nW λi j=> .int<|g i j):=by
 intro pins s σ H x y v u Q I rx ry h;obtain⟨i,j,rfl,rfl,q⟩:=h;obtain⟨t,rfl⟩:=rx;obtain⟨t',rfl⟩:=ry;exact rule i j t t' s _ _ ⟨.int<|g i j,H,I.tok _,⟨_,rfl⟩,q⟩
theorem pC{f:Value->Value->Sem Value}{g:Int->Int->Bool}
  (rule:∀(i j:Int) (t u:Tok) (s:Shared) (Q:Value->Shared->Prop) (E:Value->Shared->Prop),Q (.bool<|g i j) s->wpAny (model X.prog X.w) X.A (f (.int i t)<|.int j u) Q E s) :
  db X f (nW λi j=> .bl<|g i j):=by
 intro pins s σ H x y v u Q I rx ry h;obtain⟨i,j,rfl,rfl,q⟩:=h;obtain⟨t,rfl⟩:=rx;obtain⟨t',rfl⟩:=ry;exact rule i j t t' s _ _ ⟨.bl<|g i j,H,I,rfl,q⟩
def wj(i j:Int):Prop:=0 < j/\j < 1073741824
def wk(i j:Int):Prop:=0<=j/\j<=1000000/\i.natAbs < 2 ^ 64
def lS(i j:Int):Prop:=(-(2 ^ 64) < i/\i < 2 ^ 64)\/(-(2 ^ 64) < j/\j < 2 ^ 64)
theorem lS.ok{i j:Int}(h:lS i j):IntMulOk i j:=by
 rcases h with ⟨h1,h2⟩ | ⟨h1,h2⟩
 ·exact .of_left<|intBits_le_64 h1 h2
 ·exact .of_right<|intBits_le_64 h1 h2
theorem dZ:db X (binaryOp .Add) (nW λi j=> .int<|i+j):=pB λ_ _ _ _ _ _ _ q=>add_int q
theorem lU:db X (binaryOp .Sub) (nW λi j=> .int<|i - j):=pB λ_ _ _ _ _ _ _ q=>sub_int q
theorem kC:db X (binaryOp .Mult) (rI lS λi j=> .int<|i * j):=pA λ_ _ _ _ _ _ _ hc q=>mul_int q hc.ok
theorem ji:db X (binaryOp .FloorDiv) (rI wj λi j=> .int<|i / j):=pA λi j _ _ _ _ _ hc q=>by
 have h1:(0:Int) < j:=hc.1;have h2:j < 1073741824:=hc.2;exact floordiv_int (by omega) (by rw [JD i<|by omega];exact q)<|.inl<|PyProof.noPylong_small<|by omega
theorem dD:db X (binaryOp .Mod) (rI (λ_ j=>0 < j) λi j=> .int<|i % j):=pA λi j _ _ _ _ _ hc q=>by
 have h1:(0:Int) < j:=hc;exact mod_int' (by omega)<|by rw [Int.fmod_eq_emod_of_nonneg i<|by omega];exact q
theorem wm:db X (binaryOp .Pow) (rI wk λi j=> .int<|i ^ j.toNat):=pA λ_ _ _ _ _ _ _ hc q=>pow_int_small hc.1 hc.2.1 hc.2.2 q
theorem LJ{f:Value->Sem Value}{g:Int->Int}
  (rule:∀(i:Int) (t:Tok) (s:Shared) (Q:Value->Shared->Prop) (E:Value->Shared->Prop),Q (.int (g i) s.toks) {s with toks:=s.toks+1}->wpAny (model X.prog X.w) X.A (f<|.int i t) Q E s) :
  t4 X f (rU λi=> .int<|g i):=by
 intro pins s σ H x v Q I rx h;obtain⟨i,rfl,q⟩:=h;obtain⟨t,rfl⟩:=rx;exact rule i t s _ _ ⟨.int<|g i,H,I.tok _,⟨_,rfl⟩,q⟩
theorem wn:t4 X (unaryOp .USub) (rU λi=> .int (-i)):=LJ λ_ _ _ _ _ q=>neg_int q
def pE:V->V->Bool
 | .non,.non=>true | .non,.int _=>true | .int _,.non=>true | .non,.bl _=>true | .bl _,.non=>true | .non,.str _=>true | .str _,.non=>true
 | .int _,.int _=>true | .bl _,.bl _=>true | .str _,.str _=>true | .gH _,.gH _=>true
 | .int _,.str _=>true | .str _,.int _=>true | .bl _,.str _=>true | .str _,.bl _=>true
 | _,_=>false
def LL:R2:=λx y H Q=>pE x y=true/\Q (.bl<|decide (x=y)) H
def LN:R2:=λx y H Q=>pE x y=true/\Q (.bl (!decide (x=y))) H
theorem BI{i j:Int}:decide (V.int i=V.int j)=(i == j):=by
 rw [Fy];simp
theorem wo{i j:Bool}:decide (V.bl i=V.bl j)=(i == j):=by
 rw [Fy];simp
theorem BM{i j:Str}:decide (V.str i=V.str j)=(i == j):=by
 rw [Fy];simp
theorem BO{i j:Array UInt8}:decide (V.gH i=V.gH j)=(i.toList == j.toList):=by
 rw [Fy];cases i;cases j;simp
theorem b9{pins:List (Addr×Obj)}{σ:St}{H:Hp}{s:Shared}{Q:VK}{k k':Bool}(I:Inv X pins σ H s)(q:Q (.bl k) H)(e:k=k'):EP X pins σ Q (.bool k') s:=by
 subst e;exact⟨.bl k,H,I,rfl,q⟩
theorem jj:db X (compareOp .Eq) LL:=by
 intro pins s σ H x y v u Q I rx ry h;obtain⟨hs,q⟩:=h;cases x with
 | non=>
  cases rx;cases y with
  | non=>cases ry;exact PySem.EqNone.eq_none_none<|b9 I q<|by simp
  | bl j=>cases ry;exact PySem.EqNone.eq_none_bool<|b9 I q<|by simp
  | int j=>obtain⟨t',rfl⟩:=ry;exact PySem.EqNone.eq_none_int<|b9 I q<|by simp
  | str j=>obtain⟨t',rfl⟩:=ry;exact PySem.EqNone.eq_none_str<|b9 I q<|by simp
  | _=>exact absurd (show false=true from hs) Aw
 | bl i=>
  cases rx;cases y with
  | non=>cases ry;exact PySem.EqNone.eq_bool_none<|b9 I q<|by simp
  | bl j=>cases ry;exact eq_bool<|b9 I q wo
  | str j=>obtain⟨t',rfl⟩:=ry;exact PySem.EqMixed.eq_bool_str<|b9 I q<|by simp
  | _=>exact absurd (show false=true from hs) Aw
 | int i=>
  obtain⟨t,rfl⟩:=rx;cases y with
  | non=>cases ry;exact PySem.EqNone.eq_int_none<|b9 I q<|by simp
  | int j=>obtain⟨t',rfl⟩:=ry;exact eq_int<|b9 I q BI
  | str j=>obtain⟨t',rfl⟩:=ry;exact PySem.EqMixed.eq_int_str<|b9 I q<|by simp
  | _=>exact absurd (show false=true from hs) Aw
 | str i=>
  obtain⟨t,rfl⟩:=rx;cases y with
  | non=>cases ry;exact PySem.EqNone.eq_str_none<|b9 I q<|by simp
  | bl j=>cases ry;exact PySem.EqMixed.eq_str_bool<|b9 I q<|by simp
  | int j=>obtain⟨t',rfl⟩:=ry;exact PySem.EqMixed.eq_str_int<|b9 I q<|by simp
  | str j=>obtain⟨t',rfl⟩:=ry;exact eq_str<|b9 I q BM
  | _=>exact absurd (show false=true from hs) Aw
 | gH i=>
  obtain⟨t,rfl⟩:=rx;cases y with
  | gH j=>obtain⟨t',rfl⟩:=ry;exact PySem.W.eq_bytes<|b9 I q BO
  | _=>exact absurd (show false=true from hs) Aw
 | _=>cases y <;> exact absurd (show false=true from hs) Aw
theorem wq:db X (compareOp .NotEq) LN:=by
 intro pins s σ H x y v u Q I rx ry h;obtain⟨hs,q⟩:=h;cases x with
 | non=>
  cases rx;cases y with
  | non=>cases ry;exact PySem.EqNone.ne_none_none<|b9 I q<|by simp
  | bl j=>cases ry;exact PySem.EqNone.ne_none_bool<|b9 I q<|by simp
  | int j=>obtain⟨t',rfl⟩:=ry;exact PySem.EqNone.ne_none_int<|b9 I q<|by simp
  | str j=>obtain⟨t',rfl⟩:=ry;exact PySem.EqNone.ne_none_str<|b9 I q<|by simp
  | _=>exact absurd (show false=true from hs) Aw
 | bl i=>
  cases rx;cases y with
  | non=>cases ry;exact PySem.EqNone.ne_bool_none<|b9 I q<|by simp
  | bl j=>cases ry;exact ne_bool<|b9 I q<|CJ not wo
  | str j=>obtain⟨t',rfl⟩:=ry;exact PySem.EqMixed.ne_bool_str<|b9 I q<|by simp
  | _=>exact absurd (show false=true from hs) Aw
 | int i=>
  obtain⟨t,rfl⟩:=rx;cases y with
  | non=>cases ry;exact PySem.EqNone.ne_int_none<|b9 I q<|by simp
  | int j=>obtain⟨t',rfl⟩:=ry;exact ne_int<|b9 I q<|CJ not BI
  | str j=>obtain⟨t',rfl⟩:=ry;exact PySem.EqMixed.ne_int_str<|b9 I q<|by simp
  | _=>exact absurd (show false=true from hs) Aw
 | str i=>
  obtain⟨t,rfl⟩:=rx;cases y with
  | non=>cases ry;exact PySem.EqNone.ne_str_none<|b9 I q<|by simp
  | bl j=>cases ry;exact PySem.EqMixed.ne_str_bool<|b9 I q<|by simp
  | int j=>obtain⟨t',rfl⟩:=ry;exact PySem.EqMixed.ne_str_int<|b9 I q<|by simp
  | str j=>obtain⟨t',rfl⟩:=ry;exact ne_str<|b9 I q<|CJ not BM
  | _=>exact absurd (show false=true from hs) Aw
 | gH i=>
  obtain⟨t,rfl⟩:=rx;cases y with
  | gH j=>obtain⟨t',rfl⟩:=ry;exact PySem.W.ne_bytes<|b9 I q<|CJ not BO
  | _=>exact absurd (show false=true from hs) Aw
 | _=>cases y <;> exact absurd (show false=true from hs) Aw
theorem BQ:db X (compareOp .Lt) (nW λi j=> .bl<|decide (i < j)):=pC λ_ _ _ _ _ _ _ q=>lt_int q
theorem wu:db X (compareOp .Gt) (nW λi j=> .bl<|decide (j < i)):=pC λ_ _ _ _ _ _ _ q=>gt_int q
theorem LO{op:CmpOp}{r:R2}(ho:db X (compareOp op) r)(ha:PE X a ta)(hb:PE X b tb)(hm:behindInMarks op b=false):PE X (.Compare a [op] [b] pos) (t5 r ta tb):=by
 intro pins s σ H Q I h;exact wpAny_Compare1 (lR ha hb I h λv u s2 x y H2 I2 rx ry q=>ho pins s2 σ H2 x y v u Q I2 rx ry q) hm
def LU(t:TE):TT:=λσ H Q=>t σ H λx H'=>∃ k,x = .bl k/\Q k H'
theorem LV{op:CmpOp}{r:R2}(ho:db X (compareOp op) r)(ha:PE X a ta)(hb:PE X b tb)(hm:behindInMarks op b=false):PT X (.Compare a [op] [b] pos) (LU<|t5 r ta tb):=by
 intro pins s σ H Q I h;refine wpAny_isTrue_Compare1 (ay (ha pins s σ H _ I h) λv s1 ⟨x,H1,I1,r1,q1⟩=>ay (hb pins s1 σ H1 _ I1 q1) λu s2 ⟨y,H2,I2,r2,q2⟩=>
  ay (ho pins s2 σ H2 x y v u _ I2 r1 r2 q2) λc s3 ⟨z,H3,I3,r3,k,e,q3⟩=>?_) hm
 subst e;cases r3;exact DX ⟨H3,I3,q3⟩
def lV(K:PySem.W.Frag)(x:V)(H:Hp)(k:Bool):Prop:=
 match x with
 | .non=>k=false
 | .bl b=>k=b
 | .int i=>k=(i != 0)
 | .str y=>y.length<=sizeLine/\k=((y.length:Int) != 0)
 | .gH y=>y.size<=sizeLine/\k=((y.size:Int) != 0)
 | .ref p=>(∃ xs,av K H p xs/\k = !xs.isEmpty)\/(∃ xs,bo K H p xs/\k = !xs.isEmpty)\/∃ kvs,H p=some (.dK kvs)/\k = !kvs.isEmpty
 | _=>False
theorem LW{κ:Type}{kvs:List (κ×V)}{vs:List (κ×Value)}(r:KV kvs vs):(!vs.isEmpty) = !kvs.isEmpty:=by
 cases r <;> rfl
theorem BU{xs:List V}{its:List Value}(r:aj xs its):(!its.toArray.isEmpty) = !xs.isEmpty:=by
 cases r <;> simp
theorem lW:(sizeLine:Nat) < 2 ^ 63:=by rw [DY];decide
theorem LX:wg X (λx H Q=>∃ k,lV X.K x H k/\Q k H):=by
 intro pins s σ H x v Q I rx h;obtain⟨k,e,q⟩:=h;have hl:=lW;have hs:sizeLine=16777216:=DY;cases x with
 | non=>
  cases rx;have e':k=false:=e;subst e';exact truthy_none ⟨H,I,q⟩
 | bl b=>
  cases rx;have e':k=b:=e;subst e';exact DX ⟨H,I,q⟩
 | int i=>
  obtain⟨t,rfl⟩:=rx;have e':k=(i != 0):=e;subst e';exact PySem.P.truthy_int ⟨H,I,q⟩
 | str y=>
  obtain⟨t,rfl⟩:=rx;obtain⟨hy,e'⟩:y.length<=sizeLine/\k=((y.length:Int) != 0):=e;subst e';exact PySem.P.truthy_str (by omega) ⟨H,I.tok _,q⟩
 | gH y=>
  obtain⟨t,rfl⟩:=rx;obtain⟨hy,e'⟩:y.size<=sizeLine/\k=((y.size:Int) != 0):=e;subst e';exact PySem.W.truthy_bytes (by omega) ⟨H,I.tok _,q⟩
 | ref p=>
  cases rx;have e':(∃ xs,av X.K H p xs/\k = !xs.isEmpty)\/(∃ xs,bo X.K H p xs/\k = !xs.isEmpty)\/∃ kvs,H p=some (.dK kvs)/\k = !kvs.isEmpty:=e
  rcases e' with ⟨xs,hx,e'⟩ | ⟨xs,hx,e'⟩ | ⟨kvs,hx,e'⟩
  ·subst e';obtain⟨its,r,pl,hz⟩:=I.list hx;have hlen:=r.length;exact wpAny_truthy_list pl.isList (by simp only [Av];omega) ⟨H,I.tok _,by rw [BU r];exact q⟩
  ·subst e';obtain⟨its,r,pl,hz⟩:=I.tuple hx;have hlen:=r.length;exact truthy_tuple pl (by simp only [Av];omega) ⟨H,I.tok _,by rw [BU r];exact q⟩
  ·subst e';obtain⟨hz,hS,vs,r,m⟩:kvs.length<=sizeLine/\(p == sysModules)=false/\∃ vs,KV kvs vs/\s.heap.DictOf (eS X.prog X.w) p vs:=I.aw p _ hx;have hlen:kvs.length=vs.length:=Paired.length r;exact wpAny_truthy_dict hS m (by omega) ⟨H,I.tok _,by rw [LW r];exact q⟩
 | _=>exact(show False from e).elim
theorem LY(ha:PE X a ta)(he:∀ whole,isTrue a X.env whole=(do let v <- whole;standAt a.pos;holding [v] (truthy v))) :
  PT X a (λσ H Q=>ta σ H λx H'=>∃ k,lV X.K x H' k/\Q k H'):=by
 intro pins s σ H Q I h;exact isTrue_plain (ay (ha pins s σ H _ I h) λv s1 ⟨x,H1,I1,r1,q1⟩=>LX pins s1 σ H1 x v Q I1 r1 q1)<|he _
theorem BV:db X (binaryOp .Add) (λx y H Q=>∃ i j,x = .str i/\y = .str j/\i.length+j.length<=sizeLine/\Q (.str<|i++j) H):=by
 intro pins s σ H x y v u Q I rx ry h;obtain⟨i,j,rfl,rfl,hz,q⟩:=h;obtain⟨t,rfl⟩:=rx;obtain⟨t',rfl⟩:=ry;exact add_str (λt' tk=>⟨.str<|i++j,H,I.tok _,⟨_,rfl⟩,q⟩) hz
theorem vals1{x:V}{us:List Value}(r:aj [x] us):∃ u,us=[u]/\RelV x u:=by
 cases r with
 | cons r1 r2=>cases r2;exact⟨_,rfl,r1⟩
theorem vals2{x y:V}{us:List Value}(r:aj [x,y] us):∃ u w',us=[u,w']/\RelV x u/\RelV y w':=by
 cases r with
 | cons r1 r2=>
  cases r2 with
  | cons r3 r4=>cases r4;exact⟨_,_,rfl,r1,r3⟩
theorem LZ(hc:X.calm=true):fF X (.builtin "min") (λxs H Q=>∃ i j,xs=[.int i,.int j]/\Q (.int (if j < i then j else i)) H):=by
 intro pins s σ H xs us Q I r h;obtain⟨i,j,rfl,q⟩:=h;obtain⟨u,w',rfl,⟨t,rfl⟩,⟨t',rfl⟩⟩:=vals2 r;refine min_two_ints (I.ok.hd hc) λh' tk k=>⟨_,H,I.kept k,?_,q⟩
 by_cases hj:j < i
 ·rw [BK hj,BK hj];exact⟨_,rfl⟩
 ·rw [BJ hj,BJ hj];exact⟨_,rfl⟩
end
structure lX(h:Heap)(x dx C:Addr)(mA:Str->Option Value):Prop where
 obj:h.get? x=some (PySem.W.instObj C dx)
 ns:h.Ns1 dx mA
 ne:dx≠x
theorem L4{h:Heap}{dx:Addr}{mA:Str->Option Value}(n:h.Ns1 dx mA):∃ od,h.get? dx=some od/\∀ name,PySem.W.lookIn name od=some (mA name):=by
 obtain⟨o,es,ep,ho,hd,hk,_,hm⟩:=n;refine⟨o,ho,λname=>?_⟩;have e:=hm name;unfold nsFind findBy at e;rw [<- Array.find?_toList] at e;unfold PySem.W.lookIn;rw [hd]
 dsimp only
 split
 ·rename_i y q;rw [q] at e;exact CJ some e
 ·rename_i q;rw [q] at e;have a:es.toList.any (·.refKey)=false:=by
   rw [List.any_eq_false];intro y hy;obtain⟨z,t,iE⟩:=hk y<|Array.mem_toList_iff.mp hy;simp [DictEntry.refKey,iE]
  have a':¬ es.toList.any (·.refKey)=true:=by rw [a];exact Aw
  rw [BJ a'];exact CJ some e
theorem lX.look{h:Heap}{x dx C:Addr}{mA:Str->Option Value}(I:lX h x dx C mA):∃ od,PySem.W.InstAt h x (PySem.W.instObj C dx) C (some od)/\∀ name,PySem.W.lookIn name od=some (mA name):=
 let ⟨od,ho,hl⟩:=L4 I.ns
 ⟨od,⟨I.obj,rfl,rfl,ho⟩,hl⟩
section
variable{prog:Program}{w:World}{A:Around}{E:Value->Shared->Prop}{s:Shared}{K:PySem.W.Frag}{x dx C f:Addr}{mA:Str->Option Value}{name:Str}{v:Value}
end
theorem di.some_of{v:V}{o:Option Value}(r:di (some v) o):∃ u,o=some u/\RelV v u:=by
 cases o with
 | none=>exact(show False from r).elim
 | some u=>exact⟨u,rfl,r⟩
section
variable{P:Program}{w:World}{H H':Hp}{h h':Heap}{a C dx:Addr}{fs Kr:List (Str×V)}
theorem L6(aw:bK P w H h)(e:H a=some (.ins C dx fs)):∃ mA,lX h a dx C mA/\(∀ f,di (fs.lookup f)<|mA f)/\PySem.Within mA (fs.map (·.1))/\fs.length<=1000/\H dx=some (.own a):=by
 obtain⟨d,z,ne,ob,mA,n,r,q⟩:=(show aq P w H h a (.ins C dx fs) from aw a _ e);exact⟨mA,⟨ob,n,ne⟩,r,q,z,d⟩
end
structure wv(K:PySem.W.Frag)(C:Addr):Prop where
 pg:PySem.W.plainGet K C Str.empty=true
 hd:PySem.W.hasDictIn K C=true
 po:PySem.W.plainOver K C=true
 sa:PySem.W.findIn K (.ref C) "__setattr__" = some (some<|.builtin "object.__setattr__")
theorem wv.get{K:PySem.W.Frag}{C:Addr}(c:wv K C)(f:Str):PySem.W.plainGet K C f=true:=c.pg
section
variable{X:Cx}{pins:List (Addr×Obj)}{σ:St}{H:Hp}{s:Shared}{a C dx:Addr}{fs:List (Str×V)}{f:Str}{v:V}{A:Around}{E:Value->Shared->Prop}
end
section
variable{X:Cx}{o e value:Expr}{f:Str}{pos pos' iD:Pos}{ta tv:TE}
end
section
variable{X:Cx}{pins:List (Addr×Obj)}{σ:St}{H:Hp}{s:Shared}{A:Around}{E:Value->Shared->Prop}{Q:Value->Shared->Prop}{c:Value}{b:Bool}
inductive cI (K:PySem.W.Frag) (H:Hp):V->Value->Prop where
 | non:cI K H .non<|.type "NoneType"
 | bl (x:Bool):cI K H (.bl x)<|.type "bool"
 | int (i:Int):cI K H (.int i)<|.type "int"
 | str (x:Str):cI K H (.str x)<|.type "str"
 | nM (x:UInt64):cI K H (.nM x)<|.type "float"
 | lst {a:Addr} {xs:List V} (e:H a=some (.lst xs)):cI K H (.ref a)<|.type "list"
 | b8 {a:Addr} {o:Obj} {xs:List V} (e:H a=some (.b8 o<|.lst xs)):cI K H (.ref a)<|.type "list"
 | tup {a:Addr} {xs:List V} (e:H a=some (.tup xs)):cI K H (.ref a)<|.type "tuple"
 | dK {a:Addr} {kvs:List (Key×V)} (e:H a=some (.dK kvs)):cI K H (.ref a)<|.type "dict"
 | dT {a:Addr} {kvs:List (List Key×V)} (e:H a=some (.dT kvs)):cI K H (.ref a)<|.type "dict"
 | ins {a C dx:Addr} {fs:List (Str×V)} (e:H a=some (.ins C dx fs)) (cl:wv K C) (ha:PySem.W.findIn K (.ref C) "__class__" = some (some<|.builtin "object.__class__"))
   (hn:PySem.W.specialIn K (.builtin "object.__class__") "__get__" = some (some<|.builtin "getset_descriptor.__get__")) (pF:PySem.W.takesIn K (.builtin "object.__class__")=some true)
   (hm:PySem.W.mroIn K C (.type "object")=some true):cI K H (.ref a)<|.ref C
theorem L7{x:V}{u t:Value}(I:Inv X pins σ H s)(rx:RelV x u)(ty:cI X.K H x t)(e:PySem.W.kitOne X.K t c=some b)(h:∀ tk,Q (.bool b) {s with toks:=tk}) :
  wpAny (model X.prog X.w) A (call (.builtin "isinstance") [u,c]) Q E s:=by
 cases ty with
 | non=>cases (show u=Value.none from rx);exact CW PySem.W.kitx_none I.dq True.intro e (λz=>nomatch z) h
 | bl y=>cases (show u=Value.bool y from rx);exact CW PySem.W.kitx_bool I.dq True.intro e (λz=>nomatch z) h
 | int i=>obtain⟨t,q⟩:=(show ∃ t,u=Value.int i t from rx);cases q;exact CW PySem.W.kitx_int I.dq True.intro e (λz=>nomatch z) h
 | str y=>obtain⟨t,q⟩:=(show ∃ t,u=Value.str y t from rx);cases q;exact CW PySem.W.kitx_str I.dq True.intro e (λz=>nomatch z) h
 | nM y=>obtain⟨t,q⟩:=(show ∃ t,u=Value.float y t from rx);cases q;exact CW PySem.W.kitx_float I.dq True.intro e (λz=>nomatch z) h
 | @lst a xs ea=>
  cases (show u=Value.ref a from rx);obtain⟨_,_,n,_,h1⟩:=(show aq X.prog X.w H s.heap a (.lst xs) from I.aw a _ ea);exact CW PySem.W.kitx_list I.dq ⟨_,h1,rfl⟩ e (λz=>nomatch z) h
 | @b8 a ob xs ea=>
  cases (show u=Value.ref a from rx);obtain⟨_,_,_,n,_,h1⟩:=(show aq X.prog X.w H s.heap a (.b8 ob<|.lst xs) from I.aw a _ ea);exact CW PySem.W.kitx_list I.dq ⟨_,h1,rfl⟩ e (λz=>nomatch z) h
 | @tup a xs ea=>
  cases (show u=Value.ref a from rx);obtain⟨_,_,_,p⟩:=(show aq X.prog X.w H s.heap a (.tup xs) from I.aw a _ ea);obtain⟨o,h1,h2,_⟩:=p;exact CW PySem.W.kitx_tuple I.dq ⟨o,h1,h2⟩ e (λz=>nomatch z) h
 | @dK a kvs ea=>
  cases (show u=Value.ref a from rx);obtain⟨_,_,vs,_,p⟩:=(show aq X.prog X.w H s.heap a (.dK kvs) from I.aw a _ ea);obtain⟨o,es,ep,h1,h2,_⟩:=p;exact CW PySem.W.kitx_dict I.dq ⟨o,h1,h2.1⟩ e (λz=>nomatch z) h
 | @dT a kvs ea=>
  cases (show u=Value.ref a from rx);obtain⟨_,_,xs,_,o,es,ep,h1,h2,_⟩:=(show aq X.prog X.w H s.heap a (.dT kvs) from I.aw a _ ea);exact CW PySem.W.kitx_dict I.dq ⟨o,h1,h2.1⟩ e (λz=>nomatch z) h
 | @ins a C dx fs ea cl ha hn pF hm=>
  cases (show u=Value.ref a from rx);obtain⟨mA,O,_⟩:=L6 I.aw ea;obtain⟨od,J,_⟩:=O.look;exact CW (PySem.W.kitx_own (cl.get _) cl.hd ha hn pF hm) I.dq J e (λz=>nomatch z) h
end
structure aL(k:Nat)(A:Around):Prop where
 hd:A.handled=none
 dp:A.depth+3 * k+5 < recursionLimit
 un:A.units+16 * k+200 < cLine
theorem aL.mono{j k:Nat}{A:Around}(r:aL k A)(h:j<=k):aL j A:=⟨r.hd,by have:=r.dp;omega,by have:=r.un;omega⟩
theorem aL.deeper{k:Nat}{A:Around}(r:aL (k+1) A)(env:Env):aL k (A.deeper env):=
 ⟨r.hd,by have:=r.dp;show A.depth+1+3 * k+5 < _;omega,by have:=r.un;show A.units+3+16 * k+200 < _;omega⟩
theorem aL.depth{k:Nat}{A:Around}(r:aL k A):A.depth < recursionLimit:=by have:=r.dp;omega
def wx:TA:=λ_ H Q=>Q [] H
def B0(ta:TE)(tr:TA):TA:=λσ H Q=>ta σ H λx H1=>tr σ H1 λxs H2=>Q (x :: xs) H2
section
variable{X:Cx}{e:Expr}{es:List Expr}{te:TE}{t:TA}{pos:Pos}
theorem L8:PA X [] wx:=λ_ _ _ _ H Q I h=>Calls.spliced_nil ⟨[],H,I,.nil,h⟩
theorem L9(ha:PE X e te)(hr:PA X es t)(hs:starEach (e :: es) X.env=(false,eval e X.env) :: starEach es X.env:=by rfl):PA X (e :: es) (B0 te t):=by
 intro pos pins s σ H Q I h;rw [hs];show wpAny _ _ (spliced<|(false,eval e X.env) :: backTo pos (starEach es X.env)) _ _ s;refine Calls.spliced_cons<|ay (ha pins s σ H _ I h) λu s1 ⟨x,H1,I1,r1,q1⟩=>?_;exact ay (hr pos pins s1 σ H1 _ I1 q1) λus s2 ⟨xs,H2,I2,r2,q2⟩=>⟨x :: xs,H2,I2,.cons r1 r2,q2⟩
def wy(t:TA):TE:=λσ H Q=>t σ H λxs H1=>xs.length<=sizeLine/\∀ p,H1 p=none->Q (.ref p) (upd H1 p<|.tup xs)
def wz(t:TA):TE:=λσ H Q=>t σ H λxs H1=>xs.length<=sizeLine/\∀ p,H1 p=none->Q (.ref p) (upd H1 p<|.lst xs)
theorem Ma{x1}(h:PA X es t):PE X (.Tuple es x1 pos) (wy t):=by
 intro pins s σ H Q I hq;refine wpAny_Tuple_spliced (ay (h pos pins s σ H _ I hq) λus s1 ⟨xs,H1,I1,r,z,q⟩=>⟨by rw [<- r.length];exact z,?_⟩);have hf:H1 s1.heap.objs.size=none:=I1.aw.fresh<|Af _;refine⟨.ref s1.heap.objs.size,upd H1 s1.heap.objs.size<|.tup xs,I1.laid (t':=s1.toks) (λb u e=>Aj _ e) (Af _) ?_,rfl,q _ hf⟩;exact⟨z,us,r,⟨_,Bt _ rfl,rfl,_,rfl⟩⟩
theorem Mb(h:PA X es t):PE X (.List es pos) (wz t):=by
 intro pins s σ H Q I hq;refine wpAny_List_spliced (ay (h pos pins s σ H _ I hq) λus s1 ⟨xs,H1,I1,r,z,q⟩=>⟨by rw [<- r.length];exact z,?_⟩);have hf:H1 s1.heap.objs.size=none:=I1.aw.fresh<|Af _;refine⟨.ref s1.heap.objs.size,upd H1 s1.heap.objs.size<|.lst xs,I1.laid (t':=s1.toks) (λb u e=>Aj _ e) (Af _) ?_,rfl,q _ hf⟩;exact⟨z,us,0,r,Bt _ rfl⟩
end
abbrev Sp:=List V->Hp->VK->XK->Prop
abbrev eW:=List Env->Hp->Shared->XK->Value->Shared->Prop
structure jD(P:Program)(w:World)(K:PySem.W.Frag)(mg:Str->Option Value)(base:Heap)(A:Around)(outer:List Env)(s:Shared)(H:Hp):Prop where
 frames:A.frames=some outer
 mod:Mod K mg base
 bs:∀ b o,base.get? b=some o->s.heap.get? b=some o/\H b=none
 g9:base.objs.size<=s.heap.objs.size
 bS:s.heap.FunFrames base outer
 jf:∀ b∈cF outer,H b=none
 aw:bK P w H s.heap
 bare:AllBare s.gens
def CE(outer:List Env)(P:Program)(w:World)(H:Hp)(s:Shared)(Q:VK)(u:Value)(s':Shared):Prop:=
 ∃ v H',s'.os=s.os/\AllBare s'.gens/\Un (cF outer) [] H H' s.heap s'.heap/\bK P w H' s'.heap/\RelV v u/\Q v H'
def CR(CX:eW)(outer:List Env)(P:Program)(w:World)(H:Hp)(s:Shared)(Q:VK)(E:XK)(r:Result)(s':Shared):Prop:=
 match r with
 | .ok (.ret u)=>CE outer P w H s Q u s'
 | .ok _=>False
 | .error e=>CX outer H s E e s'
structure aA(P:Program)(w:World)(K:PySem.W.Frag)(mg:Str->Option Value)(base:Heap)(CX:eW)(k:Nat)(f:Addr)(fd:FuncData)(ps:List Str)(sp:Sp):Prop where
 len:∀ vs H Q E,sp vs H Q E->vs.length=ps.length
 run:∀(A:Around) (outer:List Env) (s:Shared) (H:Hp) (args:Args) (us:List Value) (vs:List V) (Q:VK) (E:XK),aL k A->jD P w K mg base A outer s H->BindsTo s fd args (ps.zip us)->aj vs us->sp vs H Q E ->
  codeAny (model P w) A (.call (.ref f) args) (CR CX outer P w H s Q E) s
theorem aA.mono{P:Program}{w:World}{K:PySem.W.Frag}{mg:Str->Option Value}{base:Heap}{CX:eW}{j k:Nat}{f:Addr}{fd:FuncData}{ps:List Str}{sp:Sp}(F:aA P w K mg base CX j f fd ps sp)(h:j<=k) :
  aA P w K mg base CX k f fd ps sp:=⟨F.len,λA outer s H args us vs Q E hr=>F.run A outer s H args us vs Q E<|hr.mono h⟩
section
variable{X:Cx}{pins:List (Addr×Obj)}{σ:St}{H:Hp}{s s':Shared}
theorem Inv.pG(I:Inv X pins σ H s):jD X.prog X.w X.K X.mg X.base X.A X.stack s H:=
 ⟨I.ok.frames,I.ok.mod,I.bs,Dk I.ok.g9 I.sz,I.stack,I.c9,I.aw,I.bare⟩
theorem Inv.after{Q:VK}{u:Value}(I:Inv X pins σ H s)(h:CE X.stack X.prog X.w H s Q u s'):EP X pins σ Q u s':=by
 obtain⟨v,H',os,bare,un,aw,r,q⟩:=h;obtain⟨hh,g,d,t,Mf⟩:=s';obtain rfl:Mf=s.os:=os;exact⟨v,H',I.call (h':=hh) (g':=g) (d':=d) (t':=t) (ch:=[]) un aw bare (λb z=>absurd z<|by simp),r,q⟩
end
def B5(sp:Sp)(jE:List V)(E:XK)(t:TA):TE:=λσ H Q=>t σ H λvs H1=>sp (vs++jE) H1 Q E
def Binds(K:PySem.W.Frag)(fd:FuncData)(ps:List Str)(ds:List Value):Prop:=
 ∀(s:Shared) (us:List Value),K.In s.heap->(us++ds).length=ps.length->BindsTo s fd ⟨us,[]⟩ (ps.zip<|us++ds)
theorem Binds.all{K:PySem.W.Frag}{fd:FuncData}{ps:List Str}(h:∀ us:List Value,us.length=ps.length->bindArgs fd ⟨us,[]⟩=pure (ps.zip us)):Binds K fd ps []:=λs us _ hl=>by
 rw [Bg] at hl ⊢;exact .of_eq<|h us hl
def lY(CX:eW)(X:Cx)(E:XK):Prop:=∀(pins:List<|Addr×Obj) (σ:St) (H:Hp) (s:Shared) (e:Value) (s':Shared),Inv X pins σ H s->CX X.stack H s E e s'->X.xe e s'
section
variable{X:Cx}{CX:eW}{k:Nat}{f C:Addr}{fd:FuncData}{ps:List Str}{sp:Sp}{jE:List V}{ds:List Value}{E:XK}{x m:Str}{p pos apos:Pos}{e o:Expr}{es:List Expr}{ta:TE}{t:TA}
theorem Mg{pins:List (Addr×Obj)}{σ:St}{H:Hp}{s:Shared}{Q:VK}{us:List Value}{vs:List V}(F:aA X.prog X.w X.K X.mg X.base CX k f fd ps sp)(hr:aL k X.A)(hb:Binds X.K fd ps ds)(hd:aj jE ds)(hx:lY CX X E)
  (I:Inv X pins σ H s) (r:aj vs us) (h:sp (vs++jE) H Q E):wpAny (model X.prog X.w) X.A (call (.ref f) us) (EP X pins σ Q) X.xe s:=by
 have r2:aj (vs++jE) (us++ds):=r.append hd;have hl:(us++ds).length=ps.length:=by rw [<- r2.length];exact F.len _ _ _ _ h
 refine wpAny_call<|JN (F.run X.A X.stack s H ⟨us,[]⟩ (us++ds) (vs++jE) Q E hr I.pG (hb s us I.dq hl) r2 h) λr s' hq=>?_;cases r with
 | error e=>exact hx pins σ H s e s' I hq
 | ok fl=>
  cases fl with
  | ret u=>exact I.after hq
  | next=>exact False.elim hq
  | brk=>exact False.elim hq
  | cont=>exact False.elim hq
theorem Mh(F:aA X.prog X.w X.K X.mg X.base CX k f fd ps sp)(hr:aL k X.A)(hg:Gl X x)(hm:X.mg x=some (.ref f))(hk:PySem.W.keepIn X.K (.ref f)=true)(hb:Binds X.K fd ps ds)(hd:aj jE ds)(hx:lY CX X E)
  (ha:PA X (e :: es) t) (bY:(x == ("__debug__" : Str))=false:=by decide) (he:starEach (e :: es) X.env=(false,eval e X.env) :: starEach es X.env:=by rfl) (jk:(backTo pos<|starEach es X.env).any (·.1)=false:=by rfl) :
  PE X (.Call (.Name x p) (e :: es) [] pos) (B5 sp jE E t):=by
 intro pins s σ H Q I h;refine GQ<|nR I hg hm ?_ bY;refine PySem.W.callWith_K (h₀:=X.base) I.ok.mod.o6 hk (ay (ha pos pins s σ H _ I h) λus s1 ⟨vs,H1,I1,r,q⟩=>⟨I1.dq,?_⟩) he jk;exact Mg F hr hb hd hx I1 r q
end
section
variable{X:Cx}{CX:eW}{k:Nat}{f C:Addr}{fd:FuncData}{ps ks:List Str}{sp:Sp}{E:XK}{x m:Str}{p pos apos Mi:Pos}{e o:Expr}{es:List Expr}{Uy:List Keyword}{te ta:TE}{t tk:TA}{nm:Option Str}
variable{g:List Value->List Value->List Value}{gV:List V->List V->List V}
end
structure au(N P:List Str)(sc:Scope):Prop where
 kind:sc.kind = .function
 co:sc.isCoroutine=false
 gen:sc.isGenerator=false
 nd:N.Nodup
 pre:N.take P.length=P
 par:∀ x∈P,sc.names.lookup x=some .local\/sc.names.lookup x=some .cell
 lZ:∀ y∈sc.names,y.2 ≠ .free
theorem B6{kindOf:Str->Option NameKind}{x:Str}:∀{binds:List (Str×Value)} {m:Str->Option Value},(∀ v,(x,v)∉binds)->bindL kindOf binds m x=m x
 | [],_,_=>rfl
 | (n,v) :: r,m,h=>by
  unfold bindL;rw [B6 λw hw=>h w<|Ar _ hw]
  split
  ·have:x≠n:=by rintro rfl;exact h v Ah
   simp [this]
  ·rfl
theorem B7{kindOf:Str->Option NameKind}{x:Str}:∀{binds:List (Str×Value)} {m:Str->Option Value},(∀ v,(x,v)∉binds)->bindC kindOf binds m x=m x
 | [],_,_=>rfl
 | (n,v) :: r,m,h=>by
  unfold bindC;rw [B7 λw hw=>h w<|Ar _ hw]
  split
  ·rfl
  ·have:x≠n:=by rintro rfl;exact h v Ah
   simp [this]
theorem B8{kindOf:Str->Option NameKind}{x:Str}{v:Value}:∀{P:List Str} {vs:List Value} {i:Nat} {m:Str->Option Value},P.Nodup->P[i]?=some x->vs[i]?=some v->kindOf x=some .local ->
  bindL kindOf (P.zip vs) m x=some v
 | [],_,_,_,_,h,_,_=>by simp at h
 | _ :: _,[],_,_,_,_,h,_=>by simp at h
 | p :: P,w :: vs,0,m,nd,h1,h2,hk=>by
  simp at h1 h2;subst h1;subst h2;show bindL kindOf ((p,w) :: P.zip vs) m p=_;unfold bindL;rw [B6 λv hv=>(By.mp nd).1 (KJ hv).1,BK hk];simp
 | p :: P,w :: vs,i+1,m,nd,h1,h2,hk=>by
  show bindL kindOf ((p,w) :: P.zip vs) m x=_;unfold bindL;exact B8 (i:=i) (By.mp nd).2 (by simpa using h1) (by simpa using h2) hk
theorem B9{kindOf:Str->Option NameKind}{x:Str}{v:Value}:∀{P:List Str} {vs:List Value} {i:Nat} {m:Str->Option Value},P.Nodup->P[i]?=some x->vs[i]?=some v->kindOf x≠some .local ->
  bindC kindOf (P.zip vs) m x=some v
 | [],_,_,_,_,h,_,_=>by simp at h
 | _ :: _,[],_,_,_,_,h,_=>by simp at h
 | p :: P,w :: vs,0,m,nd,h1,h2,hk=>by
  simp at h1 h2;subst h1;subst h2;show bindC kindOf ((p,w) :: P.zip vs) m p=_;unfold bindC;rw [B7 λv hv=>(By.mp nd).1 (KJ hv).1,BJ hk];simp
 | p :: P,w :: vs,i+1,m,nd,h1,h2,hk=>by
  show bindC kindOf ((p,w) :: P.zip vs) m x=_;unfold bindC;exact B9 (i:=i) (By.mp nd).2 (by simpa using h1) (by simpa using h2) hk
def start(N:List Str)(vs:List V):St:=vs.map some++List.replicate (N.length - vs.length) none
def dH(CX:eW)(P:Program)(w:World)(K:PySem.W.Frag)(mg:Str->Option Value)(base:Heap)(N:List Str)(qual:Str)(scope:Scope)(f:Addr)(cd:Value)(A:Around)(outer:List Env)(s:Shared)(H:Hp)(E:XK):Cx where
 prog:=P
 w:=w
 K:=K
 mg:=mg
 base:=base
 A:=A.deeper<|envOfC qual scope s.heap.objs.size f cd
 N:=N
 s₀:=s
 H₀:=H
 env:=envOfC qual scope s.heap.objs.size f cd
 outer:=outer
 stack:=envOfC qual scope s.heap.objs.size f cd :: outer
 ex:=[]
 calm:=true
 fn:=λ_=>true
 pn:=[]
 xe:=λe s'=>wpAny (model P w) (A.deeper<|envOfC qual scope s.heap.objs.size f cd) (leaving (envOfC qual scope s.heap.objs.size f cd) e) (λ_ pH=>CX outer H s E e pH) (λe' pH=>CX outer H s E e' pH) s'
theorem CA{sc:Scope}{n:Nat}{x:Str}(h:sc.names.lookup x=some .cell):∃ c,(cellsFrom n sc.names []).lookup x=some c:=by
 have q:=FP sc.names n []<|.inl h;exact Ds.mp q
theorem Mj{CX:eW}{P:Program}{w:World}{K:PySem.W.Frag}{mg:Str->Option Value}{base:Heap}{N ps:List Str}{qual:Str}{scope:Scope}{f:Addr}{cd:Value}{A:Around}{outer:List Env}{s s1:Shared}{H:Hp}{E:XK}{us:List Value}{vs:List V}
  (S:au N ps scope) (hd:A.handled=none) (e0:jD P w K mg base A outer s H) (hl:vs.length=ps.length) (r:aj vs us)
  (x:InCallC s s.heap.objs.size (bindL (envOfC qual scope s.heap.objs.size f cd).kindOf (ps.zip us) λ_=>none) (cellsFrom (s.heap.objs.size+1) scope.names []) (bindC (envOfC qual scope s.heap.objs.size f cd).kindOf (ps.zip us) λ_=>none) s1) :
  Inv (dH CX P w K mg base N qual scope f cd A outer s H E) [] (start N vs) H s1:=by
 have jk:ps.length<=N.length:=by have:=CJ List.length S.pre;rw [Aq] at this;omega
 obtain⟨h1,tk,rfl,hk⟩:=x.done;have pI:∀ b:Addr,b∉(dH CX P w K mg base N qual scope f cd A outer s H E).ex:=λb z=>absurd (show b∈([]:List Addr) from z) (by simp);refine⟨⟨e0.mod,S.kind,rfl,rfl,Af _,λy z c h1 h2=>?_,λy hy=>?_,λy c _ h=>?_,λ_=>hd,Around.frames_deeper e0.frames,.inr ⟨rfl,rfl⟩,λb z=>absurd z<|pI b,e0.bs,e0.g9,λb _ _=>pI b,λb z=>absurd z<|pI b,e0.bS,e0.jf⟩,
  rfl,e0.bare,Un.kept hk,⟨_,x.toInCall.ns,λi y v h1 h2 h3=>?_⟩,λy c h=>⟨_,x.cell y c h⟩,e0.aw.fresh<|Af _,λy c h=>?_,λp hp=>absurd (show p∈([]:List<|Addr×Obj) from hp) (by simp),e0.aw.kept hk,?_⟩
 ·exact name_of_addr x.apart (CT h1)<|CT h2
 ·have hy:scope.names.lookup y=some .cell\/scope.names.lookup y=some .free:=hy
  rcases hy with hy | hy
  ·exact CA hy
  ·exact absurd rfl (S.lZ _<|CT hy)
 ·exact Gr<|x.above y c<|CT h
 ·have hi:i < vs.length:=by
   unfold start at h2
   by_cases hi:i < vs.length
   ·exact hi
   ·rw [Ay<|by simpa using hi] at h2;rw [Dh] at h2
    split at h2 <;> cases h2
  have ha:vs[i]?=some v:=by
   unfold start at h2;rw [Bc (by simpa using hi),Ad] at h2;cases e:vs[i]? with
   | none=>rw [e] at h2;cases h2
   | some a=>rw [e] at h2;cases h2;rfl
  obtain⟨u,hu,rv⟩:=r.get ha;have hp:ps[i]?=some y:=by
   rw [<- S.pre,JQ<|by omega];exact h1
  have CB:ps.Nodup:=by rw [<- S.pre];exact S.nd.sublist<|Dm _ _
  refine⟨u,rv,?_⟩
  rcases S.par y (Au hp) with k | k
  ·exact .inl ⟨k,B8 CB hp hu k⟩
  ·obtain⟨c,e⟩:=CA (n:=s.heap.objs.size+1) k;refine .inr ⟨.inl k,c,e,?_⟩;have q:=x.cell y c e;rw [B9 CB hp hu<|by show scope.names.lookup y≠_;rw [k];decide] at q;exact q
 ·exact e0.aw.fresh<|Gr<|x.above y c<|CT h
 ·unfold start;show _=N.length;rw [Ae,Ab,Db];omega
theorem CD{CX:eW}{P:Program}{w:World}{K:PySem.W.Frag}{mg:Str->Option Value}{base:Heap}{k:Nat}{f:Addr}{name qual:Str}{params:Arguments}{body:List Stmt}{scope:Scope}{dV kV doc pm a7 ct oc:Value}{an od:Option Addr}
  {iF:Array (Option Value)} {N ps:List Str} {sp:Sp} (lk:K.lookup f=some ⟨oc,od,.func<|PySem.W.fnOf name qual params body scope dV kV doc pm an a7 ct,iF⟩) (fW:PySem.W.codeIn K a7 qual=true) (S:au N ps scope)
  (len:∀ vs H Q E,sp vs H Q E->vs.length=ps.length)
  (cf : ∀ (A : Around) (outer : List Env) (s : Shared) (H : Hp) (vs : List V) (Q : VK) (E : XK), aL k (A.deeper<|envOfC qual scope s.heap.objs.size f a7) → sp vs H Q E →
   ∃ t,gI (dH CX P w K mg base N qual scope f a7 A outer s H E) body t/\t {nx:=λ_ H'=>Q .non H',rt:=Q} (start N vs) H) :
  aA P w K mg base CX (k+1) f (PySem.W.fnOf name qual params body scope dV kV doc pm an a7 ct) ps sp:=by
 refine⟨len,λA outer s H args us vs Q E hr e0 hb r fv=>?_⟩;have hl:=len _ _ _ _ fv;have KX:K.In s.heap:=e0.mod.o6.keeps λb o e=>(e0.bs b o e).1;have lim:s.heap.NoLimit:=e0.mod.nolimit.keeps λb o e=>(e0.bs b o e).1;have pJ:∀ y∈ps.zip us,scope.names.lookup y.1=some .local\/(scope.names.lookup y.1=some .cell/\((cellsFrom (s.heap.objs.size+1) scope.names []).lookup y.1).isSome=true):=λ⟨n,v⟩ hy=>by
  rcases S.par n (KJ hy).1 with q | q
  ·exact .inl q
  ·exact .inr ⟨q,FP _ _ _<|.inl q⟩
 refine codeAny_call_function hr.depth (KX _ _ lk) rfl S.co S.gen rfl (PySem.W.codeRec_of KX fW) (hb _ _ _ _ ?_);refine wpAny_newFunctionEnv_cells S.kind pJ λenv he s1 x=>?_;subst he;refine⟨lim.keeps x.toInCall.keep,codeAny_func ?_⟩;obtain⟨t,ht,hq⟩:=cf A outer s H vs Q E (hr.deeper _) fv;have I:Inv (dH CX P w K mg base N qual scope f a7 A outer s H E) [] (start N vs) H s1:=Mj S hr.hd e0 hl r x;refine CP (ht [] s1 (start N vs) H _ I hq) (λfl s' hs=>?_) λe s' hs=>hs;have fin:∀{σ':St} {H':Hp} {v:V} {u:Value},Inv (dH CX P w K mg base N qual scope f a7 A outer s H E) [] σ' H' s'->RelV v u->Q v H'->CE outer P w H s Q u s':=
  λ{σ' H' v u} J rv q=>⟨v,H',J.os,J.bare,J.base,J.aw,rv,q⟩
 cases fl with
 | ret u=>
  obtain⟨v,σ',H',J,rv,q⟩:=hs;exact fin J rv q
 | next=>
  obtain⟨σ',H',J,q⟩:=hs;exact fin (v:=V.non) (u:=Value.none) J rfl q
 | brk=>
  obtain⟨_,_,_,q⟩:=hs;exact False.elim q
 | cont=>
  obtain⟨_,_,_,q⟩:=hs;exact False.elim q
section
variable{X:Cx}{x:Str}{p pos:Pos}{e:Expr}{es:List Expr}{t:TA}{id T:String}{r:List V->Hp->VK->Prop}
def t6(r:List V->Hp->VK->Prop)(t:TA):TE:=λσ H Q=>t σ H λvs H1=>r vs H1 Q
theorem Mk(hc:fF X (.builtin id) r)(hg:Gl X x)(hm:X.mg x=none)(hv:bootBuiltins x=some (.builtin id))(ha:PA X (e :: es) t)(hn:x ≠ "__name__":=by decide)(bY:(x == ("__debug__" : Str))=false:=by decide)
  (he:starEach (e :: es) X.env=(false,eval e X.env) :: starEach es X.env:=by rfl) (jk:(backTo pos<|starEach es X.env).any (·.1)=false:=by rfl):PE X (.Call (.Name x p) (e :: es) [] pos) (t6 r t):=by
 intro pins s σ H Q I h;refine GQ<|lJ I hg hm hv ?_ hn bY;exact PyProof.Rows.callWith_builtin1 (ay (ha pos pins s σ H _ I h) λus s1 ⟨vs,H1,I1,r1,q1⟩=>hc pins s1 σ H1 vs us Q I1 r1 q1) he jk
theorem Ml(hc:fF X (.type T) r)(hg:Gl X x)(hm:X.mg x=none)(hv:bootBuiltins x=some (.type T))(ha:PA X (e :: es) t)(hn:x ≠ "__name__":=by decide)(bY:(x == ("__debug__" : Str))=false:=by decide)
  (he:starEach (e :: es) X.env=(false,eval e X.env) :: starEach es X.env:=by rfl) (jk:(backTo pos<|starEach es X.env).any (·.1)=false:=by rfl):PE X (.Call (.Name x p) (e :: es) [] pos) (t6 r t):=by
 intro pins s σ H Q I h;refine GQ<|lJ I hg hm hv ?_ hn bY;exact DN (ay (ha pos pins s σ H _ I h) λus s1 ⟨vs,H1,I1,r1,q1⟩=>hc pins s1 σ H1 vs us Q I1 r1 q1) he jk
end
end L2
namespace HT
open PySem PyProof.Rows
section
open PySem.SeqAt
open PySem.AutoSeq1 (wpAny_loadPart')
open PySem.MeetsSeq PySem.MeetsSeq2 PySem.MeetsSeq3
end
section
variable{prog:Program}{w:World}{A:Around}{E:Value->Shared->Prop}{s:Shared}
def eX(n d:Nat):Option Int->Nat
 | none=>d
 | some v=>if v < 0 then(v+(n:Int)).toNat else min v.toNat n
theorem dr(n d:Nat):eX n d none=d:=rfl
theorem cg(n d k:Nat):eX n d (some (k:Int))=min k n:=by
 show(if(k:Int) < 0 then((k:Int)+(n:Int)).toNat else min (k:Int).toNat n)=min k n;rw [BJ (by omega),Fg]
end
end HT
namespace L2
open PySem PySem.Spec PyProof.Rows
abbrev TO:=St->Hp->(Option Int->Hp->Prop)->Prop
def PO(X:Cx)(e:Option Expr)(t:TO):Prop:=
 ∀(pins:List<|Addr×Obj) (s:Shared) (σ:St) (H:Hp) (Q:Option Int->Hp->Prop),Inv X pins σ H s->t σ H Q ->
  wpAny (model X.prog X.w) X.A (evalPart e X.env) (λu s'=>∃ o H',Inv X pins σ H' s'/\IsPart u o/\Q o H') X.xe s
def Mm:TO:=λ_ H Q=>Q none H
def Mp(t:TE):TO:=λσ H Q=>t σ H λx H1=>∃ i,x = .int i/\Q (some i) H1
section
variable{X:Cx}{e:Expr}{te:TE}{lo hi:Option Expr}{tl th:TO}{pos p2:Pos}
theorem Mq:PO X none Mm:=by
 intro pins s σ H Q I h;rw [evalPart_none];exact BX ⟨none,H,I,.none,h⟩
theorem Mr(h:PE X e te):PO X (some e) (Mp te):=by
 intro pins s σ H Q I hw;rw [evalPart_some];refine ay (h pins s σ H _ I hw) λu s1 ⟨x,H1,I1,r1,q1⟩=>?_;obtain⟨i,rfl,q⟩:=q1;obtain⟨t,rfl⟩:=r1;exact⟨some i,H1,I1,.int i t,q⟩
def wA(X:Cx)(r:V->Option Int->Option Int->Hp->VK->Prop):Prop:=
 ∀(pins:List<|Addr×Obj) (s:Shared) (σ:St) (H:Hp) (x:V) (v vl vu:Value) (lo hi:Option Int) (sl:Addr) (Q:VK),Inv X pins σ H s->RelV x v->s.heap.IsSliceOf sl vl vu .none->IsPart vl lo->IsPart vu hi->r x lo hi H Q ->
  ∃ T id,typeLookup (.type T) "__getitem__" = pure (some<|.builtin id)/\s.TypeIs v T/\wpAny (model X.prog X.w) X.A (getItem v<|.ref sl) (EP X pins σ Q) X.xe s
def Ms(r:V->Option Int->Option Int->Hp->VK->Prop)(te:TE)(tl th:TO):TE:=λσ H Q=>te σ H λx H1=>tl σ H1 λl H2=>th σ H2 λu H3=>r x l u H3 Q
theorem Mt{r:V->Option Int->Option Int->Hp->VK->Prop}(hr:wA X r)(he:PE X e te)(hl:PO X lo tl)(hu:PO X hi th):PE X (.Subscript e (.Slice lo hi none p2) pos) (Ms r te tl th):=by
 intro pins s σ H Q I h;refine Subscript_<|ay (he pins s σ H _ I h) λv s1 ⟨x,H1,I1,r1,q1⟩=>?_;refine wpAny_Slice<|ay (hl pins s1 σ H1 _ I1 q1) λvl s2 ⟨l,H2,I2,pl,q2⟩=>ay (hu pins s2 σ H2 _ I2 q2) λvu s3 ⟨u,H3,I3,pu,q3⟩=>?_;rw [evalPart_none];refine BX ?_;have I4:Inv X pins σ H3 {s3 with heap:=s3.heap.push {cls:= .type "slice",data:= .fields #[vl,vu,.none]}}:=I3.kept (t':=s3.toks) λb ob q=>Aj _ q;obtain⟨T,id,hT,ht,hg⟩:=hr pins {s3 with heap:=s3.heap.push {cls:= .type "slice",data:= .fields #[vl,vu,.none]}} σ H3 x v vl vu l u s3.heap.objs.size Q I4 r1 (Heap.IsSliceOf.new ..) pl pu q3;show wpAny (model X.prog X.w) X.A (subscriptTail e (.Slice lo hi none p2) v<|.ref s3.heap.objs.size) (EP X pins σ Q) X.xe {s3 with heap:=s3.heap.push {cls:= .type "slice",data:= .fields #[vl,vu,.none]}};exact tail_any (ops:=[.ref s3.heap.objs.size,v]) ht hT hg<|by with_unfolding_all rfl
def bh(xs:List V)(lo hi:Option Int):List V:=(xs.drop<|HT.eX xs.length 0 lo).take<|HT.eX xs.length xs.length hi - HT.eX xs.length 0 lo
theorem Mu(xs:List V)(lo hi:Option Int):(bh xs lo hi).length<=xs.length:=by
 unfold bh;rw [Aq,Cb];omega
end
def fY(n:Nat)(i:Int):Option Nat:=if 0<=i then(if i < n then some i.toNat else none) else if -(n:Int)<=i then some (i+n).toNat else none
def cU{α:Type}(xs:List α)(i:Int):Option α:=(fY xs.length i).bind λj=>xs[j]?
theorem CF{n:Nat}{i:Int}{j:Nat}(h:fY n i=some j):seqIndex? i n=some j/\j < n/\-(n:Int)<=i/\i < n:=by
 unfold fY at h
 by_cases h0:0<=i
 ·rw [BK h0] at h
  by_cases h1:i < n
  ·rw [BK h1] at h;have e:i.toNat=j:=Option.some.inj h;exact⟨by rw [KZ h0 h1,e],by omega,by omega,h1⟩
  ·rw [BJ h1] at h;cases h
 ·rw [BJ h0] at h
  by_cases h1:-(n:Int)<=i
  ·rw [BK h1] at h;have e:(i+n).toNat=j:=Option.some.inj h;exact⟨by rw [JR (by omega) h1,e],by omega,h1,by omega⟩
  ·rw [BJ h1] at h;cases h
theorem t7{α:Type}{xs:List α}{i:Int}{v:α}(h:cU xs i=some v):∃ j,seqIndex? i xs.length=some j/\xs[j]?=some v/\j < xs.length/\-(xs.length:Int)<=i/\i < xs.length:=by
 unfold cU at h;cases e:fY xs.length i with
 | none=>rw [e] at h;cases h
 | some j=>
  rw [e] at h;obtain⟨h1,h2,h3,h4⟩:=CF e;exact⟨j,h1,h,h2,h3,h4⟩
theorem hG{α:Type}{xs:List α}{j:Nat}{v:α}(h:xs[j]?=some v):cU xs (j:Int)=some v:=by
 have hj:j < xs.length:=(Ac.mp h).1;have e:fY xs.length (j:Int)=some j:=by
  unfold fY;rw [BK (by omega),BK<|by omega];simp
 unfold cU;rw [e];exact h
def CI(b:Expr):Prop:=∀ o i,subscripted b false o i=operate [o,i] (getItem o i)
def nX(X:Cx)(r:R2):Prop:=
 ∀(value slice:Expr) (pins:List<|Addr×Obj) (s:Shared) (σ:St) (H:Hp) (x y:V) (v u:Value) (Q:VK),Inv X pins σ H s->RelV x v->RelV y u->r x y H Q ->
  subscripted slice false v u=operate [v,u] (getItem v u)->wpAny (model X.prog X.w) X.A (subscriptTail value slice v u) (EP X pins σ Q) X.xe s
def t8(X:Cx)(id:String)(r:V->List V->Hp->VK->Prop):Prop:=
 ∀(pins:List<|Addr×Obj) (s:Shared) (σ:St) (H:Hp) (x:V) (xs:List V) (v:Value) (us:List Value) (Q:VK),Inv X pins σ H s->RelV x v->aj xs us->r x xs H Q ->
  wpAny (model X.prog X.w) X.A (call (.builtin id)<|v :: us) (EP X pins σ Q) X.xe s
section
variable{X:Cx}{a b:Expr}{ta tb:TE}{pos:Pos}
theorem Mv{r:R2}(hr:nX X r)(ha:PE X a ta)(hb:PE X b tb)(hs:CI b):PE X (.Subscript a b pos) (t5 r ta tb):=by
 intro pins s σ H Q I h;exact Subscript_<|lR ha hb I h λv u s2 x y H2 I2 rx ry q=>hr a b pins s2 σ H2 x y v u Q I2 rx ry q<|hs _ _
def iG(K:PySem.W.Frag):R2:=λx y H Q=>∃ p xs i v,x = .ref p/\y = .int i/\av K H p xs/\cU xs i=some v/\Q v H
def l3(K:PySem.W.Frag):R2:=λx y H Q=>∃ p xs i v,x = .ref p/\y = .int i/\bo K H p xs/\cU xs i=some v/\Q v H
def wB:R2:=λx y H Q=>∃ z i c,x = .str z/\y = .int i/\z.length<=sizeLine/\cU z.cps.toList i=some c/\Q (.str ⟨#[c]⟩) H
theorem eI:nX X (iG X.K):=by
 intro value slice pins s σ H x y v u Q I rx ry h hs;obtain⟨p,xs,i,z,rfl,rfl,hq,he,q⟩:=h;cases rx;obtain⟨t,rfl⟩:=ry;obtain⟨its,r,pl,hz⟩:=I.list hq;obtain⟨j,h1,h2,h3,h4,h5⟩:=t7 he;obtain⟨w,ew,eY⟩:=r.get h2;have hl:=r.length;have hn:=lW;have fin:EP X pins σ Q w s:=⟨z,H,I,eY,q⟩
 by_cases h0:0<=i
 ·have hj:i.toNat=j:=by
   rw [KZ h0 h5] at h1;exact Option.some.inj h1
  exact item_listR pl.isList h0 (by omega) (by rw [hj];simpa using ew) fin hs
 ·have hj:(i+(its.toArray.size:Int)).toNat=j:=by
   rw [JR (by omega) h4] at h1;rw [Av,<- hl];exact Option.some.inj h1
  exact subscriptTail_builtinR (x:=w) pl.isList.typeIs slot_list_getitem.lookup
   (wpAny_getItem_list_neg (Q:=λr s'=>r=w/\EP X pins σ Q r s') pl.isList (by omega) (by rw [Av] <;> omega) (by omega) (by rw [hj];simpa using ew) ⟨rfl,fin⟩) hs
theorem t9:nX X (l3 X.K):=by
 intro value slice pins s σ H x y v u Q I rx ry h hs;obtain⟨p,xs,i,z,rfl,rfl,hq,he,q⟩:=h;cases rx;obtain⟨t,rfl⟩:=ry;obtain⟨its,r,pl,hz⟩:=I.tuple hq;obtain⟨j,h1,h2,h3,h4,h5⟩:=t7 he;obtain⟨w,ew,eY⟩:=r.get h2;have hl:=r.length;have hn:=lW;have fin:EP X pins σ Q w s:=⟨z,H,I,eY,q⟩;exact subscriptTail_builtinR (x:=w) pl.typeIs slot_tuple_getitem.lookup
  (getItem_tuple (j:=j) (Q:=λr s'=>r=w/\EP X pins σ Q r s') pl (by omega) (by omega) (by rw [Av,<- hl];exact h1) (by simpa using ew) ⟨rfl,fin⟩) hs
theorem CL:nX X wB:=by
 intro value slice pins s σ H x y v u Q I rx ry h hs;obtain⟨z,i,c,rfl,rfl,hz,he,q⟩:=h;obtain⟨t,rfl⟩:=rx;obtain⟨t',rfl⟩:=ry;obtain⟨j,h1,h2,h3,h4,h5⟩:=t7 he;have hl:z.cps.toList.length=z.length:=by simp [Str.length]
 rw [hl] at h1 h4 h5;have hn:=lW;exact tail_any (typeIs_str s z t) slot_str_getitem.lookup (getItem_str (c:=c) (by
  have e1:decide (i < -(2 ^ 63:Int))=false:=CG (by omega);have e2:decide (i>=2 ^ 63)=false:=CG (by omega);rw [e1,e2,Bool.or_false]) (by rw [h1];simpa using h2) ⟨.str ⟨#[c]⟩,H,I.tok _,⟨_,rfl⟩,q⟩) hs
theorem Mw(its:List Value)(n j:Nat)(u:Value):Obj.mapSeq (·.setIfInBounds j u) {cls:= .type "list",data:= .seq its.toArray n}={cls:= .type "list",data:= .seq (its.set j u).toArray n}:=by
 simp [Obj.mapSeq]
theorem Inv.lst{pins:List (Addr×Obj)}{σ:St}{H:Hp}{s:Shared}{p:Addr}{xs:List V}(I:Inv X pins σ H s)(h:H p=some (.lst xs)) :
  ∃(its:List Value) (n:Nat),aj xs its/\s.heap.get? p=some {cls:= .type "list",data:= .seq its.toArray n}/\xs.length<=sizeLine:=by
 obtain⟨z,its,n,r,e⟩:=I.aw p _ h;exact⟨its,n,r,e,z⟩
theorem Inv.l6{pins:List (Addr×Obj)}{σ:St}{H:Hp}{s:Shared}{p:Addr}{xs ys:List V}{its its':List Value}{n n':Nat}{f:Obj->Obj}(I:Inv X pins σ H s)(h:H p=some (.lst xs))
  (ho:s.heap.get? p=some {cls:= .type "list",data:= .seq its.toArray n}) (hf:f {cls:= .type "list",data:= .seq its.toArray n}={cls:= .type "list",data:= .seq its'.toArray n'}) (r:aj ys its') (hz:ys.length<=sizeLine) (t:Nat) :
  Inv X pins σ (upd H p<|.lst ys) {s with heap:=s.heap.update p f,toks:=t}:=by
 have e:(s.heap.update p f).get? p=some {cls:= .type "list",data:= .seq its'.toArray n'}:=by
  rw [Ee f ho (by rw [hf] <;> rfl),hf]
 refine I.write (x:=p) (e:=p) (by rw [h];trivial) (.inl rfl) (λb u hb q=>(Bx _ _<|Ne.symm hb).trans q) ⟨_,e⟩ ?_;exact⟨hz,its',n',r,e⟩
def wC:V->V->V->Hp->(Hp->Prop)->Prop:=λo i v H Q=>∃ p xs k j,o = .ref p/\i = .int k/\H p=some (.lst xs)/\fY xs.length k=some j/\Q (upd H p<|.lst<|xs.set j v)
theorem set_list:lN X wC:=by
 intro pins s σ H o i v ov iv u Q I ro ri rv h;obtain⟨p,xs,k,j,rfl,rfl,hp,hj,q⟩:=h;cases ro;obtain⟨t,rfl⟩:=ri;obtain⟨its,n,r,ho,hz⟩:=I.lst hp;obtain⟨h1,h2,h3,h4⟩:=CF hj;have hl:=r.length;have hn:=lW;have I':Inv X pins σ (upd H p<|.lst<|xs.set j v) {s with heap:=s.heap.update p (Obj.mapSeq (·.setIfInBounds j u))}:=
  I.l6 hp ho (Mw its n j u) (r.set rv j) (by rw [Cv];exact hz) s.toks
 by_cases h0:0<=k
 ·have hk:k.toNat=j:=by
   rw [KZ h0 h4] at h1;exact Option.some.inj h1
  exact PySem.W.ki_setAt ho h0 (by omega) (by rw [Av,<- hl];exact h4)<|by rw [hk];exact⟨_,I',q⟩
 ·have hk:(k+(its.toArray.size:Int)).toNat=j:=by
   rw [JR (by omega) h3] at h1;rw [Av,<- hl];exact Option.some.inj h1
  exact PySem.W.ki_setBack ho (by omega) (by rw [Av,<- hl];exact h3) (by omega)<|by rw [hk];exact⟨_,I',q⟩
theorem Mx(lo hi:Option Int)(n:Nat):(sliceBounds lo hi none n).1=((HT.eX n 0 lo:Nat):Int)/\(sliceBounds lo hi none n).2.1=((HT.eX n n hi:Nat):Int)/\(sliceBounds lo hi none n).2.2=1:=by
 refine⟨?_,?_,rfl⟩
 ·cases lo with
  | none=>simp [sliceBounds,HT.eX]
  | some i=>
   simp only [sliceBounds,HT.eX,Option.getD_none,show(1:Int) > 0 by decide,DP]
   by_cases h:i < 0
   ·simp only [h,DP] <;> omega
   ·simp only [h,DW] <;> omega
 ·cases hi with
  | none=>simp [sliceBounds,HT.eX]
  | some i=>
   simp only [sliceBounds,HT.eX,Option.getD_none,show(1:Int) > 0 by decide,DP]
   by_cases h:i < 0
   ·simp only [h,DP] <;> omega
   ·simp only [h,DW] <;> omega
theorem My(its:List Value)(lo hi:Option Int):slicePick its.toArray lo hi none=((its.drop<|HT.eX its.length 0 lo).take<|HT.eX its.length its.length hi - HT.eX its.length 0 lo).toArray:=by
 obtain⟨h1,h2,h3⟩:=Mx lo hi its.toArray.size;unfold slicePick;rw [h1,h2,h3];simp only [sliceRange_one,pick_run,Av] <;> rfl
def wD(K:PySem.W.Frag):V->Option Int->Option Int->Hp->VK->Prop:=λx lo hi H Q=>∃ a xs,x = .ref a/\av K H a xs/\∀ p,H p=none->Q (.ref p) (upd H p<|.lst<|bh xs lo hi)
theorem pK:wA X (wD X.K):=by
 intro pins s σ H x v vl vu lo hi sl Q I rx hs pl pu h;obtain⟨a,xs,rfl,hx,q⟩:=h;cases rx;obtain⟨its,r,ht,hz⟩:=I.list hx;have hlen:=r.length;refine⟨"list",_,slot_list_getitem.lookup,ht.isList.typeIs,?_⟩;refine wpAny_getItem_list_slice ht.isList hs pl pu .none (by simp) ?_ (by rw [Av] <;> omega);rw [My,<- hlen];refine⟨.ref s.heap.objs.size,_,I.laid (t':=s.toks) (o:= .lst<|bh xs lo hi) (λb ob q=>Aj _ q) (Af _) ?_,rfl,q _<|I.aw.fresh<|Af _⟩;exact⟨Dk (Mu xs lo hi) hz,_,0,(r.drop<|HT.eX xs.length 0 lo).take<|HT.eX xs.length xs.length hi - HT.eX xs.length 0 lo,Bt _ rfl⟩
def ua:V->Bool
 | .non=>true
 | .bl _=>true
 | .int _=>true
 | .str _=>true
 | _=>false
def wF:V->V->Bool
 | .non,.non=>true
 | .bl a,.bl b=>a == b
 | .bl a,.int b=>(if a then 1 else 0) == b
 | .int a,.bl b=>a == (if b then 1 else 0)
 | .int a,.int b=>a == b
 | .str a,.str b=>a == b
 | _,_=>false
theorem Mz{A:Around}{s:Shared}{y x:V}{u v:Value}(ry:RelV y u)(rx:RelV x v)(fy:ua y=true)(fx:ua x=true):SeqAt.EqAt A s u v (wF y x):=by
 cases y with
 | non=>
  cases ry;cases x with
  | non=>cases rx;exact SeqAt.EqAt.same _
  | bl b=>cases rx;exact SeqAt.EqAt.none_bool b
  | int b=>obtain⟨t,rfl⟩:=rx;exact SeqAt.EqAt.none_int b t
  | str b=>obtain⟨t,rfl⟩:=rx;exact SeqAt.EqAt.none_str b t
  | _=>exact absurd (show false=true from fx) Aw
 | bl a=>
  cases ry;cases x with
  | non=>cases rx;exact SeqAt.EqAt.bool_none a
  | bl b=>cases rx;exact SeqAt.EqAt.bool_bool a b
  | int b=>obtain⟨t,rfl⟩:=rx;exact SeqAt.EqAt.bool_int a b t
  | str b=>obtain⟨t,rfl⟩:=rx;exact SeqAt.EqAt.bool_str a b t
  | _=>exact absurd (show false=true from fx) Aw
 | int a=>
  obtain⟨t',rfl⟩:=ry;cases x with
  | non=>cases rx;exact SeqAt.EqAt.int_none a t'
  | bl b=>cases rx;exact SeqAt.EqAt.int_bool a t' b
  | int b=>obtain⟨t,rfl⟩:=rx;exact SeqAt.EqAt.int_int a t' b t
  | str b=>obtain⟨t,rfl⟩:=rx;exact SeqAt.EqAt.int_str a t' b t
  | _=>exact absurd (show false=true from fx) Aw
 | str a=>
  obtain⟨t',rfl⟩:=ry;cases x with
  | non=>cases rx;exact SeqAt.EqAt.str_none a t'
  | bl b=>cases rx;exact SeqAt.EqAt.str_bool a t' b
  | int b=>obtain⟨t,rfl⟩:=rx;exact SeqAt.EqAt.str_int a t' b t
  | str b=>obtain⟨t,rfl⟩:=rx;exact SeqAt.EqAt.str_str a t' b t
  | _=>exact absurd (show false=true from fx) Aw
 | _=>exact absurd (show false=true from fy) Aw
theorem l8:fF X (.builtin "len") (λxs H Q=>∃ p ys,xs=[.ref p]/\(av X.K H p ys\/bo X.K H p ys)/\Q (.int ys.length) H):=by
 intro pins s σ H xs us Q I r h;obtain⟨p,ys,rfl,hq,q⟩:=h;obtain⟨u,rfl,rx⟩:=vals1 r;cases rx;have hn:=lW
 rcases hq with hq | hq
 ·obtain⟨its,r',pl,hz⟩:=I.list hq;have hlen:=r'.length;exact Calls.call_len_list pl.isList (by simp only [Av] <;> omega) ⟨.int ys.length,H,I.tok _,⟨s.toks+1,by rw [Av,hlen]⟩,q⟩
 ·obtain⟨its,r',pl,hz⟩:=I.tuple hq;have hlen:=r'.length;exact len_tuple pl (by simp only [Av] <;> omega) ⟨.int ys.length,H,I.tok _,⟨s.toks+1,by rw [Av,hlen]⟩,q⟩
def pM(K:PySem.W.Frag)(T:String)(x:V)(H:Hp):Prop:=match x with
 | .str _=>T = "str"
 | .int _=>T = "int"
 | .ref p=>(T = "list"/\∃ xs,av K H p xs)\/(T = "tuple"/\∃ o,K.lookup p=some o/\o.cls = .type "tuple"/\o.dict=none) \/
   (T = "dict"/\((∃ kvs,H p=some (.dK kvs))\/∃ kvs,H p=some (.dT kvs)))\/(T = "set"/\∃ S n,H p=some (.set S n))
 | _=>False
theorem CM{pins:List (Addr×Obj)}{σ:St}{H:Hp}{s:Shared}{T:String}{x:V}{v:Value}(I:Inv X pins σ H s)(r:RelV x v)(ty:pM X.K T x H) :
  s.TypeIs v T/\∀ a,v = .ref a->∃ ob,s.heap.get? a=some ob/\ob.dict=none:=by
 cases x with
 | str z=>
  obtain⟨t,rfl⟩:=r;cases (show T = "str" from ty);exact⟨typeIs_str s z t,λ_ e=>nomatch e⟩
 | int i=>
  obtain⟨t,rfl⟩:=r;cases (show T = "int" from ty);exact⟨typeIs_int s i t,λ_ e=>nomatch e⟩
 | ref p=>
  cases r
  rcases ty with ⟨rfl,xs,hq⟩ | ⟨rfl,o,hk,hc,hd⟩ | ⟨rfl,hk⟩ | ⟨rfl,S,n,hk⟩
  ·obtain⟨its,_,pl,_⟩:=I.list hq;refine⟨pl.isList.typeIs,λa e=>?_⟩;cases e;obtain⟨o,n,e,c,hd,_⟩:=pl;exact⟨o,e,hd⟩
  ·refine⟨⟨o,I.dq p o hk,hc⟩,λa e=>?_⟩;cases e;exact⟨o,I.dq _ o hk,hd⟩
  ·have z:∃ o,s.heap.get? p=some o/\o.ExactDict:=by
    rcases hk with ⟨kvs,hk⟩ | ⟨kvs,hk⟩
    ·obtain⟨_,_,_,_,o,_,_,e,ex,_⟩:=I.aw p _ hk;exact⟨o,e,ex⟩
    ·obtain⟨_,_,_,_,o,_,_,e,ex,_⟩:=I.aw p _ hk;exact⟨o,e,ex⟩
   obtain⟨o,e,ex⟩:=z;refine⟨⟨o,e,ex.1⟩,λa e2=>?_⟩;cases e2;exact⟨o,e,ex.2.1⟩
  ·obtain⟨o,_,_,_,e,ex,_⟩:=I.aw p _ hk;refine⟨⟨o,e,ex.1⟩,λa e2=>?_⟩;cases e2;exact⟨o,e,ex.2.1⟩
 | _=>exact False.elim ty
def wG(K:PySem.W.Frag)(T:String)(r:V->List V->Hp->VK->Prop)(to:TE):TE:=λσ H Q=>to σ H λx H1=>pM K T x H1/\r x [] H1 Q
def MA(K:PySem.W.Frag)(T:String)(r:V->List V->Hp->VK->Prop)(to:TE)(t:TA):TE:=λσ H Q=>to σ H λx H1=>pM K T x H1/\t σ H1 λxs H2=>r x xs H2 Q
variable{o e:Expr}{es:List Expr}{to:TE}{t:TA}{name:Str}{apos dI:Pos}{T id:String}{r:V->List V->Hp->VK->Prop}
theorem MB(pa:PlainAttrs T)(slot:Slot T name id)(l9:typeOf (.builtin id)=pure (.type "method_descriptor"))(hm:t8 X id r)(ho:PE X o to)
  (cq:attributeBase o name X.env (eval o X.env)=eval o X.env:=by rfl) (hline:(apos.endLine == dI.line)=true:=by rfl):PE X (.Call (.Attribute o name apos) [] [] dI) (wG X.K T r to):=by
 intro pins s σ H Q I h;refine wpAny_Call_method0_late cq hline<|ay (ho pins s σ H _ I h) λv s1 ⟨x,H1,I1,r1,ty,q1⟩=>?_;obtain⟨h1,h2⟩:=CM I1 r1 ty;exact⟨T,id,pa,slot,l9,h1,h2,Calls.callWith_builtin rfl (PySem.evalArgs_none<|hm pins s1 σ H1 x [] v [] Q I1 r1 .nil q1)⟩
theorem CO(pa:PlainAttrs T)(slot:Slot T name id)(l9:typeOf (.builtin id)=pure (.type "method_descriptor"))(hm:t8 X id r)(ho:PE X o to)(ha:PA X (e :: es) t)
  (cq:attributeBase o name X.env (eval o X.env)=eval o X.env:=by rfl)
  (iH : ((backTo dI<|starEach (e :: es) X.env).all (λx => !x.1) && (backToKw dI<|keywordEach [] X.env).all (λx => x.1.isSome)
   && decide ((e :: es).length+([]:List Keyword).length+(if([]:List Keyword).isEmpty then 0 else 1) < 30))=true:=by rfl)
  (hline:(apos.endLine == dI.line)=true:=by rfl) (hs:starEach (e :: es) X.env=(false,eval e X.env) :: starEach es X.env:=by rfl) (du:(backTo dI<|starEach es X.env).any (·.1)=false:=by rfl) :
  PE X (.Call (.Attribute o name apos) (e :: es) [] dI) (MA X.K T r to t):=by
 intro pins s σ H Q I h;refine wpAny_Call_method_late cq iH hline rfl (ay (ho pins s σ H _ I h) λv s1 ⟨x,H1,I1,r1,ty,q1⟩=>?_);obtain⟨h1,h2⟩:=CM I1 r1 ty;refine⟨T,id,pa,slot,l9,h1,h2,?_⟩;have hA:=ha dI pins s1 σ H1 _ I1 q1;rw [hs] at hA ⊢;refine Calls.callWith_builtin (by show(false || (backTo dI<|starEach es X.env).any (·.1))=false;rw [du] <;> rfl)<|Calls.evalArgs_plain ?_;exact ay hA λus s2 ⟨vs,H2,I2,r2,q2⟩=>hm pins s2 σ H2 x vs v us Q I2 r1 r2 q2
end
def wH(X:Cx)(id:String)(r:V->List V->Hp->VK->Prop):Prop:=
 ∀(pins:List<|Addr×Obj) (s:Shared) (σ:St) (H:Hp) (x:V) (xs:List V) (v:Value) (us:List Value) (Q:VK),Inv X pins σ H s->RelV x v->aj xs us->r x xs H Q ->
  wpAny (model X.prog X.w) X.A (call (.builtin id)<|v :: us) (EP X pins σ Q) X.xe s
theorem aj.hd{x:V}{xs:List V}{us:List Value}(h:aj (x :: xs) us):∃ u vs,us=u :: vs/\RelV x u/\aj xs vs:=by
 cases h with
 | cons r t=>exact⟨_,_,rfl,r,t⟩
theorem aj.nl{us:List Value}(h:aj [] us):us=[]:=by
 cases h;rfl
theorem aj.one{x:V}{us:List Value}(h:aj [x] us):∃ u,us=[u]/\RelV x u:=by
 obtain⟨u,vs,rfl,r,t⟩:=h.hd;rw [t.nl];exact⟨u,rfl,r⟩
theorem aj.zero:∀{us:List Value},aj [] us->us=[]
 | _,.nil=>rfl
theorem aj.dropLast{xs:List V}{us:List Value}(h:aj xs us):aj xs.dropLast us.dropLast:=by
 induction h with
 | nil=>exact .nil
 | cons r t ih=>
  cases t with
  | nil=>exact .nil
  | cons q t'=>exact .cons r ih
theorem MC{α:Type}(l:List α):l.eraseIdx (l.length - 1)=l.dropLast:=by
 induction l with
 | nil=>rfl
 | cons a r ih=>
  cases r with
  | nil=>rfl
  | cons b r=>
   have e:(a :: b :: r).length - 1=((b :: r).length - 1)+1:=by
    have h1:(a :: b :: r).length=r.length+2:=rfl;have h2:(b :: r).length=r.length+1:=rfl;omega
   rw [e,List.eraseIdx_cons_succ,ih]
   all_goals rfl
section
variable{X:Cx}{pins:List (Addr×Obj)}{σ:St}{H:Hp}{s:Shared}{l b:Addr}{xs ys zs:List V}
theorem Inv.me{its its':List Value}{n:Nat}{f:Array Value->Array Value}{t':Nat}(I:Inv X pins σ H s)(hH:H l=some (.lst xs))
  (e:s.heap.get? l=some {cls:= .type "list",data:= .seq its.toArray n}) (hf:f its.toArray=its'.toArray) (hv:aj ys its') (hz:ys.length<=sizeLine) :
  Inv X pins σ (upd H l<|.lst ys) {s with heap:=s.heap.update l<|Obj.mapSeq f,toks:=t'}:=by
 have q:=PySem.IsL.update e f;rw [hf] at q;refine I.write (x:=l) (e:=l) (by rw [hH];exact trivial) (.inl rfl) (λb' u hb hu=>(Bx s.heap (Obj.mapSeq f)<|Ne.symm hb).trans hu) ⟨_,q⟩ ?_;exact⟨hz,its',_,hv,q⟩
theorem Inv.wI{its:List Value}{t':Nat}(I:Inv X pins σ H s)(hv:aj ys its)(hz:ys.length<=sizeLine) :
  Inv X pins σ (upd H s.heap.objs.size<|.lst ys) {s with heap:=s.heap.push {cls:= .type "list",data:= .seq its.toArray},toks:=t'}:=
 I.laid (λ_ _ q=>Aj _ q) (Af _) ⟨hz,its,0,hv,Bt _ rfl⟩
theorem Inv.fresh(I:Inv X pins σ H s):H s.heap.objs.size=none:=I.aw.fresh<|Af _
theorem Inv.gK(I:Inv X pins σ H s)(hH:H l=some (.lst xs)):xs.length<=sizeLine/\∃(its:List Value) (n:Nat),aj xs its/\xs.length=its.length/\s.heap.get? l=some {cls:= .type "list",data:= .seq its.toArray n}:=by
 obtain⟨z,its,n,r,e⟩:=I.aw l _ hH;exact⟨z,its,n,r,r.length,e⟩
theorem MD{n:Nat}(h:n<=sizeLine):Builtin.List.listTooLong n=false:=by
 unfold Builtin.List.listTooLong;exact CG<|by omega
end
section
variable{X:Cx}
def ME:V->List V->Hp->VK->Prop:=λx vs H Q=>∃ l xs y,x = .ref l/\vs=[y]/\H l=some (.lst xs)/\xs.length < sizeLine/\Q .non (upd H l<|.lst<|xs++[y])
theorem CU:wH X "list.append" ME:=by
 intro pins s σ H x vs v us Q I rx rv h;obtain⟨l,xs,y,rfl,rfl,hH,hz,q⟩:=h;cases rx;obtain⟨u,rfl,ru⟩:=rv.one;obtain⟨z,its,n,r,hl,e⟩:=I.gK hH;refine call_meets F.slot_list_append ⟨_,e,rfl⟩ F.entry_list_append (F.args_list_append_2 _ _) (PySem.list_append l its.toArray n u<|by rw [Av];omega) ⟨e,?_⟩;refine⟨.non,_,I.me (its':=its++[u]) hH e (by simp) (r.append<|.cons ru .nil) ?_,rfl,q⟩;rw [Ae,Ff];omega
def MG:V->List V->Hp->VK->Prop:=λx vs H Q=>∃ l b xs zs,x = .ref l/\vs=[.ref b]/\H l=some (.lst xs)/\H b=some (.lst zs)/\xs.length+zs.length<=sizeLine/\Q .non (upd H l<|.lst<|xs++zs)
theorem ML:wH X "list.extend" MG:=by
 intro pins s σ H x vs v us Q I rx rv h;obtain⟨l,b,xs,zs,rfl,rfl,hH,hB,hz,q⟩:=h;cases rx;obtain⟨u,rfl,ru⟩:=rv.one;cases ru;obtain⟨z,its,n,r,hl,e⟩:=I.gK hH;obtain⟨z2,fG,n2,r2,ub,e2⟩:=I.gK hB;have hsz:its.toArray.size+fG.toArray.size<=sizeLine:=by rw [Av,Av];omega
 have pN:¬(!its.toArray.isEmpty && Builtin.List.listTooLong (its.toArray.size+fG.toArray.size))=true:=by
  rw [MD hsz,Bool.and_false];exact Aw
 refine call_meets F.slot_list_extend ⟨_,e,rfl⟩ F.entry_list_extend (F.args_list_extend_2 _ _)
  (AutoSeq1.list_extend_list_list_0 l its.toArray n b fG.toArray n2 pN (by rw [Av];omega)<|by omega) ⟨e,e2,?_⟩
 refine⟨.non,_,I.me (its':=its++fG) hH e (by simp) (r.append r2) ?_,rfl,q⟩;rw [Ae];omega
def wJ:V->List V->Hp->VK->Prop:=λx vs H Q=>∃ l xs y,x = .ref l/\vs=[]/\H l=some (.lst xs)/\xs[xs.length - 1]?=some y/\Q y (upd H l<|.lst xs.dropLast)
theorem MO:wH X "list.pop" wJ:=by
 intro pins s σ H x vs v us Q I rx rv h;obtain⟨l,xs,y,rfl,rfl,hH,hy,q⟩:=h;cases rx;have MQ:=rv.zero;subst MQ;obtain⟨z,its,n,r,hl,e⟩:=I.gK hH;obtain⟨u,hu,ru⟩:=r.get hy;have fH:its.toArray[its.toArray.size - 1]?=some u:=by
  show its.toArray[its.length - 1]?=some u;rw [<- Ap,<- hl];exact hu
 refine call_meets F.slot_list_pop ⟨_,e,rfl⟩ F.entry_list_pop (F.args_list_pop_1 _) (MeetsSeq.list_pop_last l its.toArray n u fH<|by rw [Av];omega) ⟨e,?_⟩;refine⟨y,_,I.me (its':=its.dropLast) hH e ?_ r.dropLast ?_,ru,q⟩
 ·show its.toArray.eraseIdxIfInBounds (its.toArray.size - 1)=its.dropLast.toArray;rw [Av,List.eraseIdxIfInBounds_toArray,MC]
 ·rw [List.length_dropLast];omega
def wK:R2:=λx y H Q=>∃ l b xs zs,x = .ref l/\y = .ref b/\H l=some (.lst xs)/\H b=some (.lst zs)/\xs.length+zs.length<=sizeLine/\∀ p,H p=none->Q (.ref p) (upd H p<|.lst<|xs++zs)
theorem pO:db X (binaryOp .Add) wK:=by
 intro pins s σ H x y v u Q I rx ry h;obtain⟨l,b,xs,zs,rfl,rfl,hH,hB,hz,q⟩:=h;cases rx;cases ry;obtain⟨z,its,n,r,hl,e⟩:=I.gK hH;obtain⟨z2,fG,n2,r2,ub,e2⟩:=I.gK hB;refine PySem.P.add_list e e2 ?_ (by rw [Av,Av];omega);have ea:its.toArray++fG.toArray=(its++fG).toArray:=by simp
 rw [ea];exact⟨.ref _,_,I.wI (t':=s.toks) (r.append r2) (by rw [Ae];omega),rfl,q _ I.fresh⟩
end
section
variable{prog:Program}{w:World}{A:Around}{E:Value->Shared->Prop}{s:Shared}
end
section
variable{X:Cx}
end
end L2
namespace CY
open PySem PySem.W PySem.Calls PyProof.Rows
theorem MR{P:Params}{h:Heap}:∀(ns:List Int) (vs:List Value),WellAll P h vs (ns.map WData.int)->IntsAre vs ns:=by
 intro ns
 induction ns with
 | nil=>
  intro vs w;rw [Gd] at w;cases w;exact .nil
 | cons n ns ih=>
  intro vs w;rw [Bq] at w;cases w with
  | cons a b=>
   cases a;exact .cons _ _<|ih _ b
theorem MS{l:OpenLaw}{n:Nat}(hn:l.most=some n){P:Params}{h:Heap}{args:List WData}{vals:List Value}
  (jF:l.row.toRowW.claim.pre args=true) (wL:WellAll P h vals args) :
  ∃ a vs ns,vals=[Value.ref a]/\args=[WData.list<|ns.map WData.int]/\h.get? a=some {cls:= .type "list",data:= .seq vs.toArray}/\IntsAre vs ns/\ns.length<=n:=by
 have MT:WShape.hasAll [] args [.list .int]=true:=(pre_splitW jF).1;have hc:l.pre.holds [] {args:=args}=true:=(pre_splitW jF).2;obtain⟨d,r,rfl,h1,h2⟩:=hasAllW_cons MT;obtain rfl:=hasAllW_nil h2;obtain⟨xs,rfl,h3⟩:=hasW_list h1;obtain⟨ns,rfl⟩:=items_int h3;have hlen:ns.length<=n:=by
  unfold OpenLaw.pre at hc;have h4:(WTm.not<|.lt (.lit<|.int (n:Int))<|.len<|.arg 0).holds [] {args:=[.list<|ns.map .int]}=true:=by
   have h4:=(holds_andW hc).1;rw [hn] at h4;exact h4
  have h5:=condW_of h4<|w_not<|w_lt w_lit<|w_len_list<|w_arg rfl;rw [Ab] at h5;refine Nat.le_of_not_lt λq=>?_;have q':(n:Int) < ((ns.length:Nat):Int):=by omega
  first
   | (rw [CK q'] at h5;exact absurd h5<|by decide)
   | (simp at h5;omega)
 cases wL with
 | cons w1 w2=>
  cases w2;cases w1 with
  | list ho mn=>exact⟨_,_,ns,rfl,rfl,ho,MR ns _ mn,hlen⟩
theorem MU(l:OpenLaw)(args:List WData):l.row.toRowW.claim.post args (.bool true) args=true:=
 postW_of (r:=l.row.toRowW) (X:=(true == true))
  (show WShape.has [] (.bool true) .bool=true by first | rfl | decide | simp [WShape.has,WShape.arms,WShape.armsAll])
  (show(WTm.eq .res<|.lit<|.bool true).value [] {args:=args,res:=some<|.bool true,after:=args}=some (.bool<|true == true) from w_eq_bool (w_res rfl) w_lit) rfl
theorem eZ{l:OpenLaw}{n:Nat}{q:Program}{loose:List Str}{XP:(Str->Option Value)->Heap->Prop}{YP:World->Heap->Prop}{d:DefRec}
  (hn:l.most=some n) (pP:d.params.defaults=[])
  (call : ∀ (w : World) (s₀ s₁ : Shared) (mg mb : Str → Option Value) (fa : Addr) (o : Obj) (pm cd doc : Value) (a : Addr) (vs : List Value) (ns : List Int),
   Ground q loose [] XP w s₀ mg mb s₁.heap->YP w s₁.heap ->
   s₁.heap.get? fa=some o->o.data = .func (docDef d.name d.params d.body d.scope pm cd doc)->s₁.heap.CodeRec cd d.name->mg d.name=some (.ref fa) ->
   s₁.heap.get? a=some {cls:= .type "list",data:= .seq vs.toArray}->IntsAre vs ns->ns.length<=n->s₁.gens=#[] ->
   codeAny (model l.prog w) callerA (.call (.ref fa) ⟨[.ref a],[]⟩) (λr s'=>r = .ok (.ret<|.bool true)/\OldK s₁.heap s'.heap/\s'.os=s₁.os/\AllBare s'.gens) s₁) :
  WalkO q loose XP YP l.row.toRowW d [] (λf vs=>PySem.call f vs):=by
 intro w s₀ s₁ mg mb G Y fa o pm cd doc dV kV ho hd fW hD pQ hg args vals as jF hlay Uz wL UA;obtain rfl:dV = .none:=Dflts.none hD pP;obtain rfl:kV = .none:=Dflts.noKw hD;obtain⟨a,vs,ns,rfl,rfl,iI,hints,hlen⟩:=MS hn jF wL;refine enter_call<|JN (call w s₀ s₁ mg mb fa o pm cd doc a vs ns G Y ho (fd_plain hd) fW pQ iI hints hlen hg) λr s' hq=>?_;obtain⟨rfl,h2,h3,h4⟩:=hq;exact⟨.inl ⟨.bool true,.bool true,[],rfl,λ_=>rfl,.bool true,MU l _,λ_=>⟨List.Pairwise.nil,λ_ hm=>(nomatch hm)⟩⟩,h2,h3,h4⟩
section
variable{prog:Program}{w:World}{A:Around}{E:Value->Shared->Prop}{s:Shared}{K:Frag}
end
end CY
namespace L2
open PySem PySem.Spec PyProof.Rows
theorem C0:∀{vs:List Value} {ns:List Int},IntsAre vs ns->aj (ns.map V.int) vs
 | _,_,.nil=> .nil
 | _,_,.cons n t h=> .cons ⟨t,rfl⟩<|C0 h
def Only(H:Hp):Prop:=∀ b,H b=none\/∃ o xs,H b=some (.b8 o<|.lst xs)
theorem MV{P:Program}{w:World}{K:PySem.W.Frag}{mg mb:Str->Option Value}{CX:eW}{k:Nat}{fa a:Addr}{fd:FuncData}{x:Str}{sp:Sp}{s₁:Shared}{vs:List Value}{ns:List Int}
  (KX:K.In s₁.heap) (uc:s₁.heap.Ns mainGlobals mg) (hb:s₁.heap.Ns builtinsNs mb) (MX:∀ x:Str,x ≠ "__name__"->mb x=bootBuiltins x) (wM:s₁.heap.NoLimit) (hg:s₁.gens=#[])
  (ha:s₁.heap.get? a=some {cls:= .type "list",data:= .seq vs.toArray}) (hi:IntsAre vs ns) (hl:ns.length<=sizeLine) (hr:aL k callerA)
  (F:∀ base:Heap,K.In base->base.Ns mainGlobals mg->aA P w K mg base CX k fa fd [x] sp) (pR:∀(s:Shared) (u:Value),BindsTo s fd ⟨[u],[]⟩ [(x,u)])
  (fv:∀ H:Hp,Only H->av K H a (ns.map V.int)->sp [.ref a] H (λv _=>v = .bl true) λ_ _ _=>False)
  (wN:∀ H e s',CX [] H s₁ (λ_ _ _=>False) e s'->False) :
  codeAny (model P w) callerA (.call (.ref fa) ⟨[.ref a],[]⟩) (λr s'=>r = .ok (.ret<|.bool true)/\OldK s₁.heap s'.heap/\s'.os=s₁.os/\AllBare s'.gens) s₁:=by
 have rv:=C0 hi;have wO:=hi.length;have core:∀ H:Hp,Only H->av K H a (ns.map V.int)->bK P w H s₁.heap->(∀ b,H b≠none->b=a)->(H a≠none->K.lookup a=none) ->
   codeAny (model P w) callerA (.call (.ref fa) ⟨[.ref a],[]⟩) (λr s'=>r = .ok (.ret<|.bool true)/\OldK s₁.heap s'.heap/\s'.os=s₁.os/\AllBare s'.gens) s₁:=by
  intro H hO hS aw hA hK;have fZ:∀{b:Addr} {o:Obj},s₁.heap.get? b=some o->H b=none->(dX s₁.heap H).get? b=some o:=λe n=>Kt e n;have pI:∀{b:Addr} {o:Obj} {es:Array DictEntry} {ep:Nat},s₁.heap.get? b=some o->o.data = .dict es ep->H b=none:=λ{b o es ep} e d=>by
   cases q:H b with
   | none=>rfl
   | some u=>
    have e':b=a:=hA b (by rw [q];simp);subst e';rw [ha] at e;cases e;have d':Data.seq vs.toArray _=Data.dict es ep:=d;cases d'
  have ud:∀{b:Addr} {m:Str->Option Value},s₁.heap.Ns b m->(dX s₁.heap H).Ns b m:=λ{b m} ⟨o,es,ep,e,d,r⟩=>⟨o,es,ep,fZ e<|pI e d,d,r⟩;have C1:K.In (dX s₁.heap H):=λb o e=>fZ (KX b o e)<|by
   cases q:H b with
   | none=>rfl
   | some u=>
    have e':b=a:=hA b (by rw [q];simp);subst e';rw [hK<|by rw [q];simp] at e;cases e
  have hM:Mod K mg (dX s₁.heap H):=⟨C1,ud uc,⟨mb,ud hb,MX⟩,let ⟨mc,h1,h2⟩:=wM;⟨mc,ud h1,h2⟩⟩;have e0:jD P w K mg (dX s₁.heap H) callerA [] s₁ H:=⟨rfl,hM,λb o e=>Ku e,JT<|Ks _ _,trivial,λb hb=>absurd (show b∈([]:List Addr) from hb) (by simp),aw,.of_eq hg⟩;refine JN ((F _ C1<|ud uc).run callerA [] s₁ H ⟨[.ref a],[]⟩ [.ref a] [.ref a] _ _ hr e0 (pR s₁<|.ref a) (.cons rfl .nil)<|fv H hO hS) λr s' h=>?_;cases r with
  | error e=>exact(wN H e s' h).elim
  | ok fl=>
   cases fl with
   | next=>exact False.elim h
   | brk=>exact False.elim h
   | cont=>exact False.elim h
   | ret u=>
    obtain⟨v,H',os,bare,un,wQ,r',q⟩:=h;have q':v = .bl true:=q;subst q';obtain rfl:u=Value.bool true:=r';refine⟨rfl,OldK.of_keep λb o e=>?_,os,bare⟩;cases q:H b with
    | none=>exact un.keep b o e q (by intro z;exact absurd (show b∈([]:List Addr) from z)<|by simp)<|by simp
    | some u=>
     rcases hO b with z | ⟨ob,xs,z⟩
     ·rw [q] at z;cases z
     ·have z2:=un.cS b ob _ z;obtain⟨e1,_⟩:=aw b _ z;obtain⟨e2,_⟩:=wQ b _ z2;rw [e] at e1;cases e1;exact e2
 cases hk:K.lookup a with
 | some o=>
  have e:=KX a o hk;rw [ha] at e;cases e;refine core (λ_=>none) (λ_=> .inl rfl) (.inr ⟨_,vs.toArray,_,hk,rfl,rfl,rfl,by rw [Av,wO];exact hl,by simpa using rv⟩) (λb u z=>by have z':(none:Option HO)=some u:=z;cases z') (λb z=>absurd rfl z) λz=>absurd rfl z
 | none=>
  refine core (λb=>if b=a then some (.b8 {cls:= .type "list",data:= .seq vs.toArray}<|.lst<|ns.map V.int) else none) (λb=>?_) (.inl<|.inr ⟨{cls:= .type "list",data:= .seq vs.toArray},BK rfl⟩) (λb u z=>?_) (λb z=>?_) λ_=>hk
  ·by_cases hb:b=a
   ·exact .inr ⟨_,_,BK hb⟩
   ·exact .inl<|BJ hb
  ·by_cases hb:b=a
   ·have z':=(BK hb).symm.trans z;cases z';subst hb;exact⟨ha,by rw [Ab];exact hl,vs,_,rv,ha⟩
   ·have z':=(BJ hb).symm.trans z;cases z'
  ·by_cases hb:b=a
   ·exact hb
   ·exact absurd (BJ hb) z
theorem jG{l:PySem.W.OpenLaw}{n k:Nat}{q:Program}{loose:List Str}{XP:(Str->Option Value)->Heap->Prop}{YP:World->Heap->Prop}{d:DefRec}{K:Params->PySem.W.Frag}{CX:World->eW}{sp:World->Sp}{x:Str}
  (hn:l.most=some n) (MY:n<=sizeLine) (pP:d.params.defaults=[]) (hr:aL k callerA)
  (hY:∀(w:World) (h:Heap),YP w h->(K w.params).In h)
  (F : ∀ (w : World) (mg : Str → Option Value) (fa : Addr) (h : Heap), (K w.params).In h → h.Ns mainGlobals mg → mg d.name = some (.ref fa) →
   ∃ fd:FuncData,(∀(s:Shared) (u:Value),BindsTo s fd ⟨[u],[]⟩ [(x,u)]) /\
    ∀ base:Heap,(K w.params).In base->base.Ns mainGlobals mg->aA l.prog w (K w.params) mg base (CX w) k fa fd [x] (sp w))
  (fv:∀(w:World) (H:Hp) (a:Addr) (ns:List Int),ns.length<=n->Only H->av (K w.params) H a (ns.map V.int)->sp w [.ref a] H (λv _=>v = .bl true) λ_ _ _=>False)
  (wN:∀(w:World) (H:Hp) (s:Shared) (e:Value) (s':Shared),CX w [] H s (λ_ _ _=>False) e s'->False) :
  PySem.W.WalkO q loose XP YP l.row.toRowW d [] (λf vs=>PySem.call f vs):=by
 refine CY.eZ hn pP λw s₀ s₁ mg mb fa o pm cd doc a vs ns G Y ho hd fW pQ iI hints hlen hg=>?_;have KX:=hY w _ Y;obtain⟨fd,hb,hF⟩:=F w mg fa _ KX G.T.g pQ;exact MV KX G.T.g G.T.b G.T.builtins G.T.nolimit hg iI hints (Dk hlen MY) hr hF hb (λH hO hS=>fv w H a ns hlen hO hS) λH e s'=>wN w H s₁ e s'
def kD(s:Stmt):Arguments:=match s with
 | .FunctionDef _ a _ _ _ _ _ _ _ _=>a
 | _=>{posonlyargs:=[],args:=[],vararg:=none,kwonlyargs:=[],kw_defaults:=[],kwarg:=none,defaults:=[]}
def fI(s:Stmt):List Stmt:=match s with
 | .FunctionDef _ _ b _ _ _ _ _ _ _=>b
 | _=>[]
def aR(s:Stmt):Scope:=match s with
 | .FunctionDef _ _ _ _ _ _ sc _ _ _=>sc
 | _=>{kind:= .function,names:=[],isGenerator:=false,isCoroutine:=false}
abbrev bP:eW:=λ_ _ _ _ _ _=>False
abbrev E0:XK:=λ_ _ _=>False
theorem MZ{X:Cx}:lY bP X E0:=λ_ _ _ _ _ _ _ h=>h.elim
structure bL(K:PySem.W.Frag)(x qual:Str)(st:Stmt)(f:Addr)(fd:FuncData):Prop where
 ex:∃(oc:Value) (od:Option Addr) (kV doc pm:Value) (an:Option Addr) (a7 ct:Value) (iF:Array<|Option Value),
  fd=PySem.W.fnOf x qual (kD st) (fI st) (aR st) .none kV doc pm an a7 ct/\K.lookup f=some ⟨oc,od,.func fd,iF⟩/\PySem.W.codeIn K a7 qual=true
 kp:PySem.W.keepIn K (.ref f)=true
section
variable{P:Program}{w:World}{K:PySem.W.Frag}{mg:Str->Option Value}{base:Heap}
theorem bL.ok{x qual:Str}{st:Stmt}{f:Addr}{fd:FuncData}{N ps:List Str}{k:Nat}{sp:Sp}(F:bL K x qual st f fd)(S:au N ps<|aR st)(len:∀ vs H Q E,sp vs H Q E->vs.length=ps.length)
  (cf : ∀ (a7 : Value) (A : Around) (outer : List Env) (s : Shared) (H : Hp) (vs : List V) (Q : VK) (E : XK), aL k (A.deeper<|envOfC qual (aR st) s.heap.objs.size f a7) → sp vs H Q E →
   ∃ t,gI (dH bP P w K mg base N qual (aR st) f a7 A outer s H E).jB (fI st) t/\t {nx:=λ_ H'=>Q .non H',rt:=Q} (start N vs) H):aA P w K mg base bP (k+1) f fd ps sp:=by
 obtain⟨oc,od,kV,doc,pm,an,a7,ct,iF,rfl,lk,fW⟩:=F.ex;refine CD lk fW S len λA outer s H vs Q E hr fv=>?_;obtain⟨t,h,q⟩:=cf a7 A outer s H vs Q E hr fv;exact⟨t,h.jB,q⟩
theorem bL.binds{x qual:Str}{st:Stmt}{f:Addr}{fd:FuncData}{ps:List Str}(F:bL K x qual st f fd)
  (h:∀(kV doc pm:Value) (an:Option Addr) (a7 ct:Value) (us:List Value),us.length=ps.length->bindArgs (PySem.W.fnOf x qual (kD st) (fI st) (aR st) .none kV doc pm an a7 ct) ⟨us,[]⟩=pure (ps.zip us)):Binds K fd ps []:=by
 obtain⟨oc,od,kV,doc,pm,an,a7,ct,iF,rfl,lk,fW⟩:=F.ex;exact .all<|h kV doc pm an a7 ct
theorem M0{x qual:Str}{st:Stmt}{f:Addr}{oc:Value}{od an:Option Addr}{iF:Array (Option Value)}{kV doc pm a7 ct:Value}(l:K.lookup f=some ⟨oc,od,.func<|PySem.W.fnOf x qual (kD st) (fI st) (aR st) .none kV doc pm an a7 ct,iF⟩)
  (c:PySem.W.codeIn K a7 qual=true) (k:PySem.W.keepIn K (.ref f)=true):bL K x qual st f (PySem.W.fnOf x qual (kD st) (fI st) (aR st) .none kV doc pm an a7 ct):=⟨⟨oc,od,kV,doc,pm,an,a7,ct,iF,rfl,l,c⟩,k⟩
end
section
variable{X:Cx}
end
theorem d0{A B:Prop}(h:B):if false=true then A else B:=by
 rw [BJ Aw];exact h
theorem a8{A B:Prop}(h:A):if true=true then A else B:=by
 rw [BK rfl];exact h
theorem jH{c A B:Prop} [Decidable c] (h1:c->A) (h2:¬ c->B):if c then A else B:=by
 by_cases h:c
 ·rw [BK h];exact h1 h
 ·rw [BJ h];exact h2 h
def ah(H H':Hp):Prop:=∀ b o,H b=some o->H' b=some o
theorem ah.refl(H:Hp):ah H H:=λ_ _ h=>h
theorem ah.trans{H H1 H2:Hp}(a:ah H H1)(b:ah H1 H2):ah H H2:=λc o h=>b c o<|a c o h
theorem ah.free{H H':Hp}(e:ah H H'){l:Addr}(h:H' l=Option.none):H l=Option.none:=by
 cases q:H l with
 | none=>rfl
 | some o=>
  rw [e l o q] at h;cases h
theorem ah.seq{K:PySem.W.Frag}{H H':Hp}{a:Addr}{xs:List V}(e:ah H H')(h:av K H a xs):av K H' a xs:=by
 rcases h with (h | ⟨o,h⟩) | h
 ·exact .inl<|.inl<|e _ _ h
 ·exact .inl<|.inr ⟨o,e _ _ h⟩
 ·exact .inr h
section
variable{κ:Type} [DecidableEq κ]
def aH(kvs:List<|κ×V)(k:κ):Option V:=(kvs.find? λkv=>decide (kv.1=k)).map (·.2)
def putK(kvs:List<|κ×V)(k:κ)(v:V):List (κ×V):=
 if(kvs.any λkv=>decide (kv.1=k))=true then kvs.map (λkv=>if kv.1=k then(kv.1,v) else kv) else kvs++[(k,v)]
theorem hU{p:κ×V}{r:List (κ×V)}{k:κ}(e:p.1=k):aH (p :: r) k=some p.2:=by simp [aH,Fb,e]
theorem hW{p:κ×V}{r:List (κ×V)}{k:κ}(e:¬ p.1=k):aH (p :: r) k=aH r k:=by simp [aH,Fb,e]
theorem uf(k:κ):∀ kvs:List<|κ×V,(kvs.any λkv=>decide (kv.1=k))=(aH kvs k).isSome
 | []=>rfl
 | p :: r=>by
  rw [MJ]
  by_cases e:p.1=k
  ·simp only [hU e,CK e,Bool.true_or,Option.isSome_some]
  ·rw [hW e,CG e,Bool.false_or];exact uf k r
theorem C2(k j:κ)(y:V):∀ kvs:List<|κ×V,aH (kvs.map λkv=>if kv.1=k then(kv.1,y) else kv) j=(aH kvs j).map λx=>if j=k then y else x
 | []=>rfl
 | p :: r=>by
  have ih:=C2 k j y r;rw [Bq]
  by_cases h:p.1=k
  ·rw [BK h]
   by_cases e:p.1=j
   ·rw [hU (p:=(p.1,y)) e,hU e,Fc,BK<|e.symm.trans h]
   ·rw [hW (p:=(p.1,y)) e,hW e,ih]
  ·rw [BJ h]
   by_cases e:p.1=j
   ·rw [hU (p:=p) e,hU e,Fc,BJ λz=>h<|e.trans z]
   ·rw [hW (p:=p) e,hW e,ih]
theorem C3(k j:κ)(y:V):∀ kvs:List<|κ×V,aH kvs k=none->aH (kvs++[(k,y)]) j=if j=k then some y else aH kvs j
 | [],_=>by
  by_cases e:k=j
  ·rw [BK e.symm];exact hU (p:=(k,y)) e
  ·rw [BJ λz=>e z.symm];exact hW (p:=(k,y)) e
 | p :: r,hn=>by
  rw [List.cons_append];have hk:¬ p.1=k:=λz=>by rw [hU z] at hn;cases hn
  rw [hW hk] at hn;have ih:=C3 k j y r hn
  by_cases e:p.1=j
  ·rw [hU e,hU e,BJ λz=>hk<|e.trans z]
  ·rw [hW e,hW e,ih]
theorem iJ(kvs:List<|κ×V)(k j:κ)(y:V):aH (putK kvs k y) j=if j=k then some y else aH kvs j:=by
 unfold putK
 by_cases a:(kvs.any λkv=>decide (kv.1=k))=true
 ·rw [BK a,C2];rw [uf] at a
  by_cases e:j=k
  ·obtain⟨x,hx⟩:=Ds.mp a;rw [BK e,e,hx,Fc,BK rfl]
  ·rw [BJ e];cases aH kvs j with
   | none=>rfl
   | some x=>rw [Fc,BJ e]
 ·rw [BJ a];refine C3 k j y kvs ?_;rw [uf] at a;cases q:aH kvs k with
  | none=>rfl
  | some x=>rw [q] at a;exact(a rfl).elim
theorem pS(kvs:List<|κ×V)(k:κ)(v:V):(putK kvs k v).length<=kvs.length+1:=by
 unfold putK
 split
 ·rw [Ab];omega
 ·rw [Ae,As,Dp];omega
theorem di.bw{o:Option V}{u:Option Value}(r:di o u):o.isSome=u.isSome:=by
 cases o with
 | none=>cases u with
  | none=>rfl
  | some _=>exact(show False from r).elim
 | some _=>cases u with
  | none=>exact(show False from r).elim
  | some _=>rfl
theorem KV.val{kvs:List (κ×V)}{vs:List (κ×Value)}(r:KV kvs vs)(k:κ):di (aH kvs k) (valueAt vs k):=by
 unfold KV at r
 induction r with
 | nil=>exact True.intro
 | @cons p q ps qs h t ih=>
  obtain⟨h1,h2⟩:=h
  by_cases e:p.1=k
  ·have e':q.1=k:=h1.symm.trans e;have b:valueAt (q :: qs) k=some q.2:=by simp [valueAt,Fb,e']
   rw [hU e,b];exact h2
  ·have e':¬ q.1=k:=λz=>e<|h1.trans z;have b:valueAt (q :: qs) k=valueAt qs k:=by simp [valueAt,Fb,e']
   rw [hW e,b];exact ih
theorem KV.any{kvs:List (κ×V)}{vs:List (κ×Value)}(r:KV kvs vs)(k:κ):(kvs.any λkv=>decide (kv.1=k))=vs.any λkv=>decide (kv.1=k):=by
 unfold KV at r
 induction r with
 | nil=>rfl
 | cons h t ih=>rw [MJ,MJ,ih,h.1]
theorem KV.repl{kvs:List (κ×V)}{vs:List (κ×Value)}(r:KV kvs vs)(k:κ){y:V}{u:Value}(ry:RelV y u) :
  KV (kvs.map λkv=>if kv.1=k then(kv.1,y) else kv) (vs.map λkv=>if kv.1=k then(kv.1,u) else kv):=by
 unfold KV at r ⊢
 induction r with
 | nil=>exact .nil
 | @cons p q ps qs h t ih=>
  rw [Bq,Bq];refine .cons ?_ ih;obtain⟨h1,h2⟩:=h
  by_cases e:p.1=k
  ·rw [BK e,BK<|h1.symm.trans e];exact⟨h1,ry⟩
  ·rw [BJ e,BJ λz=>e<|h1.trans z];exact⟨h1,h2⟩
theorem KV.put{kvs:List (κ×V)}{vs:List (κ×Value)}(r:KV kvs vs)(k:κ){y:V}{u:Value}(ry:RelV y u):KV (putK kvs k y) (stored vs k u):=by
 unfold putK stored;rw [r.any k]
 by_cases e:(vs.any λkv=>decide (kv.1=k))=true
 ·rw [BK e,BK e];exact r.repl k ry
 ·rw [BJ e,BJ e];exact Paired.snoc r ⟨rfl,ry⟩
theorem KV.keys{kvs:List (κ×V)}{vs:List (κ×Value)}(r:KV kvs vs):kvs.map (·.1)=vs.map (·.1):=by
 unfold KV at r
 induction r with
 | nil=>rfl
 | cons h t ih=>rw [Bq,Bq,ih,h.1]
theorem KV.length{kvs:List (κ×V)}{vs:List (κ×Value)}(r:KV kvs vs):kvs.length=vs.length:=Paired.length r
end
theorem nY{P:Program}{w:World}{k:Key}{u:Value}(r:RelV (kV k) u):(eS P w).is k u=true:=by
 cases k with
 | inl i=>obtain⟨t,e⟩:=(show ∃ t,u=Value.int i t from r);subst e;exact Ko P w i t
 | inr x=>obtain⟨t,e⟩:=(show ∃ t,u=Value.str x t from r);subst e;exact Kq P w x t
theorem C4{P:Program}{w:World}:∀{ks:List Key} {us:List Value},aj (ks.map kV) us->ItemsAre (eS P w) ks us
 | [],_,r=>by rw [Gd] at r;cases r;exact .nil
 | k :: ks,_,r=>by
  rw [Bq] at r;cases r with
  | cons h t=>exact .cons (nY h)<|C4 t
abbrev KT(H:Hp):List (List Key×V)->List (List Key×Addr×Value)->Prop:=Paired λp q=>p.1=q.1/\H q.2.1=some (.tup<|p.1.map kV)/\RelV p.2 q.2.2
theorem KT.val{H:Hp}{kvs:List (List Key×V)}{xs:List (List Key×Addr×Value)}(r:KT H kvs xs)(k:List Key):di (aH kvs k) ((atKey xs k).map (·.2)):=by
 induction r with
 | nil=>exact True.intro
 | @cons p q ps qs h t ih=>
  obtain⟨h1,_,h2⟩:=h
  by_cases e:p.1=k
  ·have e':q.1=k:=h1.symm.trans e;have b:atKey (q :: qs) k=some q.2:=by simp [atKey,Fb,e']
   rw [hU e,b];exact h2
  ·have e':¬ q.1=k:=λz=>e<|h1.trans z;have b:atKey (q :: qs) k=atKey qs k:=by simp [atKey,Fb,e']
   rw [hW e,b];exact ih
theorem KT.repl{H:Hp}{kvs:List (List Key×V)}{xs:List (List Key×Addr×Value)}(r:KT H kvs xs)(k:List Key){y:V}{u:Value}(ry:RelV y u) :
  KT H (kvs.map λkv=>if kv.1=k then(kv.1,y) else kv) (xs.map<|putAt k u):=by
 induction r with
 | nil=>exact .nil
 | @cons p q ps qs h t ih=>
  rw [Bq,Bq];refine .cons ?_ ih;obtain⟨h1,h2,h3⟩:=h;unfold putAt
  by_cases e:p.1=k
  ·rw [BK e,BK<|h1.symm.trans e];exact⟨h1,h2,ry⟩
  ·rw [BJ e,BJ λz=>e<|h1.trans z];exact⟨h1,h2,h3⟩
theorem KT.put{H:Hp}{kvs:List (List Key×V)}{xs:List (List Key×Addr×Value)}(r:KT H kvs xs)(k:List Key){b:Addr}{y:V}{u:Value}(hb:H b=some (.tup<|k.map kV))(ry:RelV y u) :
  KT H (putK kvs k y) (storedH xs k b u):=by
 have e:(kvs.any λkv=>decide (kv.1=k))=(atKey xs k).isSome:=by
  rw [uf,(r.val k).bw,JK]
 unfold putK storedH;rw [e]
 by_cases q:(atKey xs k).isSome=true
 ·rw [BK q,BK q];exact r.repl k ry
 ·rw [BJ q,BJ q];exact Paired.snoc r ⟨rfl,hb,ry⟩
theorem KT.keeps{H H':Hp}{kvs:List (List Key×V)}{xs:List (List Key×Addr×Value)}(r:KT H kvs xs)(ht:∀ b ys,H b=some (.tup ys)->H' b=some (.tup ys)):KT H' kvs xs:=
 Paired.lF r λ_ _ z=>⟨z.1,ht _ _ z.2.1,z.2.2⟩
section
variable{P:Program}{w:World}{H:Hp}{h:Heap}{a:Addr}
theorem C5{u:HO}(ok:bK P w H h)(e:Rd H a u):aq P w H h a u:=e.ok ok
theorem pT{kvs:List (Key×V)}(ok:bK P w H h)(e:Rd H a<|.dK kvs):kvs.length<=sizeLine/\(a == sysModules)=false/\∃ vs,KV kvs vs/\h.DictOf (eS P w) a vs:=
 show aq P w H h a (.dK kvs) from C5 ok e
theorem ug{kvs:List (Key×V)}(ok:bK P w H h)(e:H a=some (.dK kvs)):kvs.length<=sizeLine/\(a == sysModules)=false/\∃ vs,KV kvs vs/\h.DictOf (eS P w) a vs:=pT ok<|.inl e
theorem nZ{ks:List Key}(ok:bK P w H h)(e:H a=some (.tup<|ks.map kV)):(tupleKind<|eS P w).is h ks a:=by
 obtain⟨_,its,r,o,h1,h2,n,h3⟩:=(show aq P w H h a (.tup<|ks.map kV) from ok a _ e);exact⟨o,its.toArray,n,h1,h2,h3,by simpa using C4 r⟩
theorem pU{kvs:List (List Key×V)}(ok:bK P w H h)(e:Rd H a<|.dT kvs):kvs.length<=sizeLine/\(a == sysModules)=false /\
  ∃ xs,KT H kvs xs/\h.DictOfH (tupleKind<|eS P w) a xs:=by
 obtain⟨z,y,xs,r,o,es,ep,h1,h2,h3,h4,h5⟩:=(show aq P w H h a (.dT kvs) from C5 ok e);refine⟨z,y,xs,r,o,es,ep,h1,h2,h3,h4,λx hx=>?_,h5⟩;have all:∀{l:List (List Key×V)} {m:List (List Key×Addr×Value)},KT H l m->∀ x∈m,(tupleKind<|eS P w).is h x.1 x.2.1:=by
  intro l m q
  induction q with
  | nil=>intro x hx;exact nomatch hx
  | @cons p q ps qs hq t ih=>
   intro x hx
   rcases Am.mp hx with e | hx
   ·subst e;exact nZ ok<|by rw [<- hq.1];exact hq.2.1
   ·exact ih x hx
 exact all r x hx
theorem C6{kvs:List (List Key×V)}(ok:bK P w H h)(e:H a=some (.dT kvs)):kvs.length<=sizeLine/\(a == sysModules)=false /\
  ∃ xs,KT H kvs xs/\h.DictOfH (tupleKind<|eS P w) a xs:=pU ok<|.inl e
end
def bM(H:Hp)(a:Addr)(y:V)(r:Option V):Prop:=
 (∃ kvs k,Rd H a (.dK kvs)/\y=kV k/\r=aH kvs k)\/∃ kvs k b,Rd H a (.dT kvs)/\y = .ref b/\H b=some (.tup<|k.map kV)/\r=aH kvs k
def cV(H:Hp)(a:Addr)(y v:V)(H':Hp):Prop:=
 (∃ kvs k,H a=some (.dK kvs)/\y=kV k/\kvs.length < sizeLine/\H'=upd H a (.dK<|putK kvs k v)) \/
 ∃ kvs k b,H a=some (.dT kvs)/\y = .ref b/\H b=some (.tup<|k.map kV)/\kvs.length < sizeLine/\H'=upd H a (.dT<|putK kvs k v)
theorem bM.k{H:Hp}{a:Addr}{kvs:List (Key×V)}{k:Key}(e:H a=some (.dK kvs)):bM H a (kV k) (aH kvs k):= .inl ⟨kvs,k,.inl e,rfl,rfl⟩
theorem cV.k{H:Hp}{a:Addr}{kvs:List (Key×V)}{k:Key}{v:V}(e:H a=some (.dK kvs))(hl:kvs.length < sizeLine):cV H a (kV k) v (upd H a<|.dK<|putK kvs k v):= .inl ⟨kvs,k,e,rfl,hl,rfl⟩
section
variable{X:Cx}{pins:List (Addr×Obj)}{σ:St}{H:Hp}{s:Shared}{a:Addr}{y v:V}{u r:Value}{o:Option V}{A:Around}{E:Value->Shared->Prop}
theorem Inv.big(I:Inv X pins σ H s):sysModules < s.heap.objs.size:=by
 have h:mainGlobals < s.heap.objs.size:=(I.mod.glob.keeps I.bk).lt;exact Nat.lt_trans (by decide) h
theorem M1{Q:Value->Shared->Prop}(hu:A.units+1 < cLine)(I:Inv X pins σ H s)(g:bM H a y<|some v)(ry:RelV y u)(h:∀ w' s',Inv X pins σ H s'->RelV v w'->Q w' s') :
  wpAny (model X.prog X.w) A (getItem (.ref a) u) Q E s:=by
 rcases g with ⟨kvs,k,e,ey,l⟩ | ⟨kvs,k,b,e,ey,eb,l⟩
 ·subst ey;obtain⟨z,hd,vs,rel,dd⟩:=pT I.aw e;obtain⟨w',hw,eY⟩:=di.some_of (v:=v) (o:=valueAt vs k) (by rw [l];exact rel.val k);exact wpAny_getItem_of (nY ry) dd.mapOf hw<|h w' _ (I.tok _) eY
 ·subst ey;cases (show u=Value.ref b from ry);obtain⟨z,hd,xs,rel,dd⟩:=pU I.aw e;obtain⟨w',hw,eY⟩:=di.some_of (v:=v) (o:=(atKey xs k).map (·.2)) (by rw [l];exact rel.val k);obtain⟨p,hp,d5⟩:=Ax.mp hw;refine wpAny_getItem_heap (GX hu) (nZ I.aw eb) dd hp ?_;rw [d5];exact h w' _ (I.tok _) eY
theorem wR{Q:Value->Shared->Prop}(hu:A.units+1 < cLine)(I:Inv X pins σ H s)(g:bM H a y o)(ry:RelV y u)(h:∀ s',Inv X pins σ H s'->Q (.bool o.isSome) s') :
  wpAny (model X.prog X.w) A (compareOp .In u<|.ref a) Q E s:=by
 rcases g with ⟨kvs,k,e,ey,l⟩ | ⟨kvs,k,b,e,ey,eb,l⟩
 ·subst ey;obtain⟨z,hd,vs,rel,dd⟩:=pT I.aw e;refine wpAny_in_of (nY ry) hd dd.mapOf ?_;rw [<- (rel.val k).bw,<- l];exact h _<|I.tok _
 ·subst ey;cases (show u=Value.ref b from ry);obtain⟨z,hd,xs,rel,dd⟩:=pU I.aw e;refine wpAny_in_heap (GX hu) (nZ I.aw eb) hd dd ?_;have q:=(rel.val k).bw;rw [JK] at q;rw [<- q,<- l];exact h _<|I.tok _
theorem M3{Q:Value->Shared->Prop}(hu:A.units+1 < cLine)(I:Inv X pins σ H s)(g:bM H a y o)(ry:RelV y u)(h:∀ s',Inv X pins σ H s'->Q (.bool (!o.isSome)) s') :
  wpAny (model X.prog X.w) A (compareOp .NotIn u<|.ref a) Q E s:=by
 rcases g with ⟨kvs,k,e,ey,l⟩ | ⟨kvs,k,b,e,ey,eb,l⟩
 ·subst ey;obtain⟨z,hd,vs,rel,dd⟩:=pT I.aw e;refine wpAny_notIn_of (nY ry) hd dd.mapOf ?_;rw [<- (rel.val k).bw,<- l];exact h _<|I.tok _
 ·subst ey;cases (show u=Value.ref b from ry);obtain⟨z,hd,xs,rel,dd⟩:=pU I.aw e;refine wpAny_notIn_heap (GX hu) (nZ I.aw eb) hd dd ?_;have q:=(rel.val k).bw;rw [JK] at q;rw [<- q,<- l];exact h _<|I.tok _
theorem pV{h':Heap}{t':Nat}{ob:HO}(I:Inv X pins σ H s)(mu:o1<|H a)(hs:Heap.SameBut a s.heap h')(he:∃ q,h'.get? a=some q)(new:aq X.prog X.w (upd H a ob) h' a ob) :
  Inv X pins σ (upd H a ob) {s with heap:=h',toks:=t'}:=
 I.write (x:=a) (e:=a) mu (.inl rfl) (λb q hb z=>(hs.2 b hb).trans z) he new
theorem C7{P:Program}{w:World}{H':Hp}{h':Heap}{kvs:List (Key×V)}{vs:List (Key×Value)}(z:kvs.length<=sizeLine)(hd:(a == sysModules)=false)(rel:KV kvs vs)(dd:h'.DictOf (eS P w) a vs) :
  aq P w H' h' a (.dK kvs):=⟨z,hd,vs,rel,dd⟩
theorem M4{H':Hp}{Q:Unit->Shared->Prop}(hu:A.units+1 < cLine)(I:Inv X pins σ H s)(g:cV H a y v H')(ry:RelV y u)(rv:RelV v r)(h:∀ s',Inv X pins σ H' s'->Q () s') :
  wpAny (model X.prog X.w) A (setItem (.ref a) u r) Q E s:=by
 rcases g with ⟨kvs,k,e,ey,l,eH⟩ | ⟨kvs,k,b,e,ey,eb,l,eH⟩
 ·subst ey eH;obtain⟨z,hd,vs,rel,dd⟩:=ug I.aw e;have hz:vs.length<=sizeLine:=by rw [<- rel.length];exact z
  have hl:(putK kvs k v).length<=sizeLine:=by have:=pS kvs k v;omega
  refine wpAny_setItem_pairs (hsz:=hz) (nY ry) dd λh' jm hs=>h _ ?_;have he:∃ q,h'.get? a=some q:=let ⟨q,_,_,hq,_⟩:=jm;⟨q,hq⟩
  exact pV I (by rw [e];exact True.intro) hs he<|C7 hl hd (rel.put k rv) jm
 ·subst ey eH;cases (show u=Value.ref b from ry);obtain⟨z,hd,xs,rel,dd⟩:=C6 I.aw e;have hz:xs.length<=sizeLine:=by rw [<- Paired.length rel];exact z
  have hl:(putK kvs k v).length<=sizeLine:=by have:=pS kvs k v;omega
  refine wpAny_setItem_heap (hsz:=hz) (GX hu) (nZ I.aw eb) dd λh' jm hs=>h _ ?_;obtain⟨q,es,ep,hq,h2,h3,h4,_,h5⟩:=jm;refine pV I (by rw [e];exact True.intro) hs ⟨q,hq⟩ ⟨hl,hd,_,(rel.put k eb rv).keeps λc ys ec=>?_,q,es,ep,hq,h2,h3,h4,h5⟩;rw [aG<|kt ec e λz=>nomatch z];exact ec
end
section
variable{X:Cx}{pins:List (Addr×Obj)}{σ:St}{H:Hp}{s:Shared}{a:Addr}{kvs:List (Key×V)}{k:Key}{u:Value}{A:Around}{E:Value->Shared->Prop}
end
def mq(i:Expr):Prop:=∀ ov iv,subscripted i false ov iv=operate [ov,iv] (getItem ov iv)
theorem M5{prog:Program}{w:World}{A:Around}{E:Value->Shared->Prop}{s:Shared}{env:Env}{value slice:Expr}{pos:Pos}{T id:String}{Q:Value->Shared->Prop}
  (hl:typeLookup (.type T) "__getitem__" = pure (some<|.builtin id)) (hs:mq slice)
  (h:wpAny (model prog w) A (eval value env) (λo s₁=>wpAny (model prog w) A (eval slice env) (λi s₂=>s₂.TypeIs o T/\wpAny (model prog w) A (getItem o i) Q E s₂) E s₁) E s) :
  wpAny (model prog w) A (eval (.Subscript value slice pos) env) Q E s:=by
 refine Subscript_<|CP h (λo s₁ h₁=>CP h₁ (λi s₂ h₂=>?_) λ_ _ x=>x) λ_ _ x=>x;obtain⟨hT,h₂⟩:=h₂;unfold subscriptTail;refine BP ?_;rw [getitemInPython_of_ne hT.not_modules];refine BP<|wpAny_specialOf hT hl ?_;have fin:wpAny (model prog w) A (subscripted slice false o i) (λr s₃=>wpAny (model prog w) A (letTemporaryGo value o r >>= λ_=>pure r) Q E s₃) E s₂:=by
  rw [hs o i];exact wpAny_operating<|CP h₂ (λr s₃ h₃=>BP<|wpAny_letTemporaryGo<|BX h₃) λ_ _ x=>x
 first
  | exact BX<|BP fin
  | exact BP<|BX<|BP fin
  | exact BP fin
theorem M6{X:Cx}{pins:List (Addr×Obj)}{σ:St}{H:Hp}{s:Shared}{a:Addr}{y:V}{o:Option V}(I:Inv X pins σ H s)(g:bM H a y o):s.TypeIs (.ref a) "dict":=by
 rcases g with ⟨kvs,k,e,_,_⟩ | ⟨kvs,k,b,e,_,_,_⟩
 ·obtain⟨_,_,vs,_,dd⟩:=pT I.aw e;exact dd.typeIs
 ·obtain⟨_,_,xs,_,dd⟩:=pU I.aw e;exact dd.typeIs
def M7(td ty:TE):TE:=λσ H Q=>td σ H λx H1=>ty σ H1 λy H2=>∃ a v,x = .ref a/\bM H2 a y (some v)/\Q v H2
def wU(ty td:TE):TE:=λσ H Q=>ty σ H λy H1=>td σ H1 λx H2=>∃ a o,x = .ref a/\bM H2 a y o/\Q (.bl o.isSome) H2
def M8(ty td:TE):TE:=λσ H Q=>ty σ H λy H1=>td σ H1 λx H2=>∃ a o,x = .ref a/\bM H2 a y o/\Q (.bl (!o.isSome)) H2
def M9(td ty tv:TE):TS:=λD σ H=>tv σ H λv H1=>td σ H1 λx H2=>ty σ H2 λy H3=>∃ a H4,x = .ref a/\cV H3 a y v H4/\D.nx σ H4
section
variable{X:Cx}{o i e value:Expr}{pos pos' iD:Pos}{td ty tv:TE}
theorem Nb(hu:X.A.units+1 < cLine)(ho:PE X o td)(hi:PE X i ty)(hs:mq i):PE X (.Subscript o i pos) (M7 td ty):=by
 intro pins s σ H Q I h;refine M5 PySem.F.slot_dict_getitem.lookup hs<|ay (ho pins s σ H _ I h) λu s1 ⟨x,H1,I1,rx,q1⟩=>ay (hi pins s1 σ H1 _ I1 q1) λiv s2 ⟨y,H2,I2,ry,a,v,ex,g,q2⟩=>?_;subst ex;obtain rfl:u=Value.ref a:=rx;exact⟨M6 I2 g,M1 hu I2 g ry λw' s3 I3 eY=>⟨v,H2,I3,eY,q2⟩⟩
theorem Nc(hu:X.A.units+1 < cLine)(hi:PE X i ty)(ho:PE X o td):PC X .In i o (wU ty td):=by
 intro pins s σ H Q I h;refine ay (hi pins s σ H _ I h) λiv s1 ⟨y,H1,I1,ry,q1⟩=>ay (ho pins s1 σ H1 _ I1 q1) λu s2 ⟨x,H2,I2,rx,a,ov,ex,g,q2⟩=>?_;subst ex;obtain rfl:u=Value.ref a:=rx;exact wR hu I2 g ry λs3 I3=>⟨.bl ov.isSome,H2,I3,rfl,q2⟩
theorem Nf(hu:X.A.units+1 < cLine)(hi:PE X i ty)(ho:PE X o td):PC X .NotIn i o (M8 ty td):=by
 intro pins s σ H Q I h;refine ay (hi pins s σ H _ I h) λiv s1 ⟨y,H1,I1,ry,q1⟩=>ay (ho pins s1 σ H1 _ I1 q1) λu s2 ⟨x,H2,I2,rx,a,ov,ex,g,q2⟩=>?_;subst ex;obtain rfl:u=Value.ref a:=rx;exact M3 hu I2 g ry λs3 I3=>⟨.bl (!ov.isSome),H2,I3,rfl,q2⟩
theorem Ng(hu:X.A.units+1 < cLine)(ho:PE X o td)(hi:PE X i ty)(hv:PE X value tv)(hs:swapsWith value (some<|.Subscript o i pos') pos.line X.env=pure false) :
  PS X (.Assign [.Subscript o i pos'] value pos) (M9 td ty tv):=by
 intro pins s σ H D I h;refine wpAny_Assign_Subscript (ay (hv pins s σ H _ I h) λr s1 ⟨v,H1,I1,rv,q1⟩=>ay (ho pins s1 σ H1 _ I1 q1) λu s2 ⟨x,H2,I2,rx,q2⟩=>ay (hi pins s2 σ H2 _ I2 q2) λiv s3 ⟨y,H3,I3,ry,a,H4,ex,g,q3⟩=>?_) hs;subst ex;obtain rfl:u=Value.ref a:=rx;exact M4 hu I3 g ry rv λs4 I4=>⟨σ,H4,I4,q3⟩
end
theorem wV{P:Program}{w:World}{H:Hp}(h:Heap)(hb:sysModules < h.objs.size):aq P w H (h.push {cls:= .type "dict",data:= .dict #[]}) h.objs.size (.dK []):=
 ⟨Bw _,beq_eq_false_iff_ne.mpr<|Ne.symm<|Co hb,[],.nil,Heap.DictOf.new h⟩
theorem Nh{P:Program}{w:World}{H:Hp}(h:Heap)(hb:sysModules < h.objs.size):aq P w H (h.push {cls:= .type "dict",data:= .dict #[]}) h.objs.size (.dT []):=
 ⟨Bw _,beq_eq_false_iff_ne.mpr<|Ne.symm<|Co hb,[],.nil,_,#[],0,Bt _ rfl,⟨rfl,rfl,rfl⟩,rfl,rfl,El⟩
def Ni:TE:=λ_ H Q=>∀ p,H p=none->Q (.ref p) (upd H p<|.dK [])
section
variable{X:Cx}{pos:Pos}
theorem Nj:PE X (.Dict [] [] pos) Ni:=λpins s σ H Q I h=>
 wpAny_Dict_empty ⟨.ref s.heap.objs.size,_,I.laid (a:=s.heap.objs.size) (o:= .dK []) (t':=s.toks) (λ_ _ q=>Aj _ q) (Af _)<|wV s.heap I.big,rfl,h _<|I.aw.fresh<|Af _⟩
end
section
variable{X:Cx}{pins:List (Addr×Obj)}{σ:St}{H:Hp}{s:Shared}{a:Addr}{y d:V}{u r:Value}{o:Option V}{A:Around}{E:Value->Shared->Prop}
end
section
variable{X:Cx}{o e f:Expr}{apos dI:Pos}{td ty tx:TE}
end
section
variable{X:Cx}{pins:List (Addr×Obj)}{σ:St}{H:Hp}{s:Shared}{a:Addr}{kvs:List (Key×V)}{A:Around}{E:Value->Shared->Prop}
end
section
variable{X:Cx}{pins:List (Addr×Obj)}{σ:St}{H:Hp}{s:Shared}{a:Addr}{y:V}{u:Value}{A:Around}{E:Value->Shared->Prop}
end
section
variable{X:Cx}
end
section
variable{κ:Type} [DecidableEq κ]
theorem n5:∀{l:List κ} {k:κ},l.Nodup->¬ k∈l->(l++[k]).Nodup
 | [],k,_,_=>by simp
 | a :: r,k,h,hk=>by
  obtain⟨h1,h2⟩:=By.mp h;show(a :: (r++[k])).Nodup;refine By.mpr ⟨λm=>?_,n5 h2 λm=>hk<|Am.mpr<|Or.inr m⟩
  rcases An.mp m with q | q
  ·exact h1 q
  ·exact hk<|Am.mpr<|Or.inl (Ag.mp q).symm
end
section
variable{X:Cx}{tg:Expr}
end
theorem C8{env:Env}:∀{names:List (Str×NameKind)} {x:Str} {k':NameKind},
  (names.map λ(n,k)=>if(k == NameKind.free && env.scope.kind == .function && env.kindOf n == some .cell) then(n,NameKind.cell) else(n,k)).lookup x=some k' ->
  ∃ k,names.lookup x=some k/\(k'=k\/(k = .free/\k' = .cell))
 | [],_,_,h=>by simp at h
 | (n,k) :: r,x,k',h=>by
  have ih:=@C8 env r x k'
  change List.lookup x ((if(k == NameKind.free && env.scope.kind == .function && env.kindOf n == some .cell)=true then(n,NameKind.cell) else(n,k)) :: _)=_ at h
  cases hx:x == n with
  | true=>
   by_cases hc:(k == NameKind.free && env.scope.kind == .function && env.kindOf n == some .cell)=true
   ·rw [BK hc] at h;simp only [Di,hx] at h;cases h;have hk:k = .free:=by
     have:=(Cg _ _ ▸ (Cg _ _ ▸ hc).1).1;cases k <;> first | rfl | (exact absurd this<|by decide)
    exact⟨k,by simp [Di,hx],.inr ⟨hk,rfl⟩⟩
   ·rw [BJ hc] at h;simp only [Di,hx] at h;cases h;exact⟨k,by simp [Di,hx],.inl rfl⟩
  | false=>
   have h2:∃ k,r.lookup x=some k/\(k'=k\/(k = .free/\k' = .cell)):=by
    by_cases hc:(k == NameKind.free && env.scope.kind == .function && env.kindOf n == some .cell)=true
    ·rw [BK hc] at h;simp only [Di,hx] at h;exact ih h
    ·rw [BJ hc] at h;simp only [Di,hx] at h;exact ih h
   obtain⟨k2,e2,r2⟩:=h2;exact⟨k2,by simp [Di,hx,e2],r2⟩
def bV(names:List<|Str×NameKind)(cells:List<|Str×Addr)(acc:List<|Str×Addr):List (Str×Addr):=
 names.foldl (λa x=>if x.2 == .free then(match cells.lookup x.1 with | some c=>(x.1,c) :: a | none=>a) else a) acc
theorem uh{scope:Scope}{env:Env}(h:∀ x∈scope.names,x.2 = .free->∃ c,env.cells.lookup x.1=some c):closureFor scope env=pure (bV scope.names env.cells []):=by
 have all:∀(l:List<|Str×NameKind) (acc:List<|Str×Addr),(∀ x∈l,x.2 = .free->∃ c,env.cells.lookup x.1=some c) ->
   (forIn l acc λ(x:Str×NameKind) (cs:List<|Str×Addr)=>(if x.2 == .free then(do let c <- cellOf env x.1;pure (ForInStep.yield<|(x.1,c) :: cs)) else pure (ForInStep.yield cs):Sem _))=pure (bV l env.cells acc):=by
  intro l
  induction l with
  | nil=>intro acc _;rfl
  | cons x r ih=>
   intro acc hl;rw [List.forIn_cons];have hr:∀ y∈r,y.2 = .free->∃ c,env.cells.lookup y.1=some c:=λy hy=>hl y<|Ar _ hy;cases hk:x.2 == .free with
   | true=>
    have mv:x.2 = .free:=by
     revert hk
     cases x.2 <;> intro hk <;> first | rfl | (exact absurd hk<|by decide)
    obtain⟨c,hc⟩:=hl x Ah mv;simp only [DP,cellOf,hc];rw [show bV (x :: r) env.cells acc=bV r env.cells ((x.1,c) :: acc) by unfold bV;rw [Go];simp [hk,hc]];exact ih _ hr
   | false=>
    simp only [Ec,DW];rw [show bV (x :: r) env.cells acc=bV r env.cells acc by unfold bV;rw [Go];simp [hk]];exact ih _ hr
 have q:=all scope.names [] h;simp only [closureFor];exact(CJ (· >>= λr=>pure r) q).trans rfl
theorem wW:∀(names:List<|Str×NameKind) (cells acc:List<|Str×Addr),(∀ x c,(x,c)∈acc->cells.lookup x=some c)->∀ x c,(x,c)∈bV names cells acc->cells.lookup x=some c
 | [],_,_,h=>h
 | y :: r,cells,acc,h=>by
  have e:bV (y :: r) cells acc=bV r cells (if y.2 == .free then(match cells.lookup y.1 with | some c=>(y.1,c) :: acc | none=>acc) else acc):=rfl;rw [e];refine wW r cells _ ?_;cases hk:y.2 == .free with
  | false=>simpa using h
  | true=>
   cases hc:cells.lookup y.1 with
   | none=>simpa using h
   | some c=>
    intro x d hx;simp only [DP] at hx
    rcases Am.mp hx with e | hx
    ·cases e;exact hc
    ·exact h x d hx
theorem C9:∀(names:List<|Str×NameKind) (cells acc:List<|Str×Addr) (x:Str) (c:Addr),(x,c)∈acc->(x,c)∈bV names cells acc
 | [],_,_,_,_,h=>h
 | y :: r,cells,acc,x,c,h=>by
  have e:bV (y :: r) cells acc=bV r cells (if y.2 == .free then(match cells.lookup y.1 with | some c=>(y.1,c) :: acc | none=>acc) else acc):=rfl;rw [e];refine C9 r cells _ x c ?_;cases hk:y.2 == .free with
  | false=>simpa using h
  | true=>
   cases hc:cells.lookup y.1 with
   | none=>simpa using h
   | some d=>simp only [DP];exact Ar _ h
theorem wX:∀(names:List<|Str×NameKind) (cells acc:List<|Str×Addr) (x:Str) (c:Addr),(x,NameKind.free)∈names->cells.lookup x=some c->(x,c)∈bV names cells acc
 | [],_,_,_,_,h,_=>by cases h
 | y :: r,cells,acc,x,c,h,hc=>by
  have e:bV (y :: r) cells acc=bV r cells (if y.2 == .free then(match cells.lookup y.1 with | some c=>(y.1,c) :: acc | none=>acc) else acc):=rfl;rw [e]
  rcases Am.mp h with e2 | h
  ·subst e2;refine C9 r cells _ x c ?_;have:(NameKind.free == NameKind.free)=true:=rfl;simp only [hc,this,DP];exact Ah
  ·exact wX r cells _ x c h hc
theorem wY{α:Type}:∀{l:List (Str×α)} {x:Str} {c:α},(x,c)∈l->∃ d,l.lookup x=some d
 | [],_,_,h=>by cases h
 | (n,d) :: r,x,c,h=>by
  cases hx:x == n with
  | true=>exact⟨d,by simp [Di,hx]⟩
  | false=>
   rcases Am.mp h with e | h
   ·cases e;simp at hx
   ·obtain⟨d',e⟩:=wY h;exact⟨d',by simp [Di,hx,e]⟩
section
variable{prog:Program}{w:World}{A:Around}{R:Result->Shared->Prop}{s:Shared}
theorem UB{elt target iter:Expr}{ifs:List Expr}{scope:Scope}{pos:Pos}{it acc:Value}{env:Env}(I:Nat->Shared->Prop)
  (turn : ∀ n s, I n s → wpAny (model prog w) A (pyNext it) (λr s₁ => match r with
   | none=>R (.ok .next) s₁
   | some v=>wpAny (model prog w) A (letOwnedTupleGo target it v) (λ_ s₁'=>wpAny (model prog w) A (assign target env v) (λ_ s₂=>
     wpAny (model prog w) A (forIn ifs true λc r=>if r=true then do let ok <- isTrue c env<|eval c env;pure (ForInStep.yield ok) else pure (ForInStep.yield r)) (λok s₃=>
      if ok=true then wpAny (model prog w) A (eval elt env) (λx s₄=>
       wpAny (model prog w) A (call (.builtin "list.append") [acc,x]) (λ_ s₅=>∃ m,m < n/\I m s₅) (notedBy (model prog w) A env λe s'=>R (.error e) s') s₄) (notedBy (model prog w) A env λe s'=>R (.error e) s') s₃
      else ∃ m,m < n/\I m s₃) (notedBy (model prog w) A env λe s'=>R (.error e) s') s₂) (notedBy (model prog w) A env λe s'=>R (.error e) s') s₁') (notedBy (model prog w) A env λe s'=>R (.error e) s') s₁) (notedBy (model prog w) A env λe s'=>R (.error e) s') s)
  (n:Nat) (h:I n s) :
  codeAny (model prog w) A (.compLoop (.ListComp elt [⟨target,iter,ifs,0⟩] scope pos) 0 it acc env) R s:=by
 refine codeAny_loop rfl I (λn s hI=>?_) n h;show wpAny _ A ((compTurn (.ListComp elt [⟨target,iter,ifs,0⟩] scope pos) 0 it acc env).onRaise λx=>do noteFrame x env;theTreesLotGoes x) _ _ s;refine wpAny_noted ?_;rw [compTurn_list];refine BP<|DR<|BP<|CP (turn n s hI) (λr s₁ h₁=>?_) λ_ _ h'=>h';cases r with
 | none=>exact BX h₁
 | some v=>
  refine BP<|CP h₁ (λ_ s₁' h₁'=>?_) λ_ _ h'=>h';refine BP<|CP h₁' (λ_ s₂ h₂=>BP<|CP h₂ (λok s₃ h₃=>?_) λ_ _ h'=>h') λ_ _ h'=>h';cases ok with
  | false=>exact BX ⟨rfl,h₃⟩
  | true=>
   exact BP<|BP<|CP h₃ (λx s₄ h₄=>BP<|CP h₄ (λ_ s₅ h₅=>BX<|BX ⟨rfl,h₅⟩) λ_ _ h'=>h') λ_ _ h'=>h'
end
def Nk(X:Cx)(ifs:List Expr)(t:TT):Prop:=
 ∀(pins:List<|Addr×Obj) (s:Shared) (σ:St) (H:Hp) (Q:Bool->Hp->Prop),Inv X pins σ H s->t σ H Q ->
  wpAny (model X.prog X.w) X.A (forIn ifs true λc r=>if r=true then do let ok <- isTrue c X.env<|eval c X.env;pure (ForInStep.yield ok) else pure (ForInStep.yield r)) (TP X pins σ Q) X.xe s
def wZ:TT:=λ_ H Q=>Q true H
theorem Nn{X:Cx}:Nk X [] wZ:=λ_ _ _ H _ I h=>wpAny_tests_nil ⟨H,I,h⟩
def f9(X:Cx)(N':List Str)(scope:Scope)(cl:List<|Str×Addr)(C:Addr)(s₀:Shared)(H₀:Hp)(ex:List Addr):Cx:=
 {prog:=X.prog,w:=X.w,K:=X.K,mg:=X.mg,base:=X.base,A:=X.A,N:=N',s₀:=s₀,H₀:=H₀,env:=compEnvC scope cl C X.env,outer:=X.stack,stack:=X.stack,ex:=ex,fn:=λx=>match scope.names.lookup x with | some .cell=>true | _=>false,calm:=X.calm,pn:=[],xe:=λ_ _=>False}
theorem gL{α:Type}{t:Sem α}{Q Q':α->Shared->Prop}{M:Model}{A:Around}{E:Value->Shared->Prop}{s:Shared}(h:wpAny M A t Q (λ_ _=>False) s)(hQ:∀ a s,Q a s->Q' a s):wpAny M A t Q' E s:=CP h hQ λ_ _ z=>z.elim
section
variable{X:Cx}
theorem Np:fF X (.builtin "isinstance") (λxs H Q=>∃ x t T b,xs=[x,.ty T]/\cI X.K H x t/\PySem.W.kitOne X.K t (.type T)=some b/\Q (.bl b) H):=by
 intro pins s σ H xs us Q I r h;obtain⟨x,t,T,b,rfl,ty,e,q⟩:=h;obtain⟨u,w',rfl,ru,eY⟩:=vals2 r;cases (show w'=Value.type T from eY);exact L7 I ru ty e λtk=>⟨.bl b,H,I.tok tk,rfl,q⟩
theorem Nq:db X (binaryOp .Mult) (λx y H Q=>∃ z i,x = .str z/\y = .int i/\0<=i/\i<=100000/\z.length * i.toNat<=100000/\Q (.str<|Txt.mul z i) H):=by
 intro pins s σ H x y v u Q I rx ry h;obtain⟨z,i,rfl,rfl,h0,h1,h2,q⟩:=h;obtain⟨t,rfl⟩:=rx;obtain⟨t',rfl⟩:=ry;have hsz:sizeLine=16777216:=DY;refine SB.mul ⟨?_,λh3 h4=>?_,λh3 h4=>?_⟩ λt' k=>⟨.str _,H,I.tok k,⟨_,rfl⟩,q⟩
 ·rw [CG (by omega),CG<|by omega];rfl
 ·have h5:(z.length:Int)<=100000:=by
   have h6:z.length * 1<=z.length * i.toNat:=Nat.mul_le_mul_left _ (by omega);omega
  have h7:(100000:Int)<=(2 ^ 63 - 1) / i:=by
   rw [Int.le_ediv_iff_mul_le<|by omega];have:(100000:Int) * i<=100000 * 100000:=Int.mul_le_mul_of_nonneg_left h1 (by decide);have e:(2:Int) ^ 63 - 1=9223372036854775807:=by decide
   omega
  omega
 ·unfold Builtin.Str.tooLong;rw [hsz];exact CG<|by omega
end
def isStar:Expr->Bool
 | .Starred _ _=>true
 | _=>false
def noStar(es:List Expr):Bool:=es.all λe=>!isStar e
theorem kE(e:Expr)(es:List Expr)(env:Env)(h:isStar e=false):starEach (e :: es) env=(false,eval e env) :: starEach es env:=by
 cases e <;> first | rfl | (exact absurd h<|by simp [isStar])
theorem ui(pos:Pos)(env:Env):∀ es:List Expr,noStar es=true->(backTo pos<|starEach es env).any (·.1)=false
 | [],_=>rfl
 | e :: es,h=>by
  have h':(!isStar e)=true/\noStar es=true:=by
   have:=h;unfold noStar at this ⊢;rw [List.all_cons,Cg] at this;exact this
  have hs:isStar e=false:=by
   have:=h'.1;cases q:isStar e with
   | true=>rw [q] at this;cases this
   | false=>rfl
  rw [kE e es env hs];show(false || (backTo pos<|starEach es env).any (·.1))=false;rw [ui pos env es h'.2];rfl
theorem n8{e:Expr}{es:List Expr}(h:noStar (e :: es)=true):isStar e=false/\noStar es=true:=by
 unfold noStar at h ⊢;rw [List.all_cons,Cg] at h;refine⟨?_,h.2⟩;cases q:isStar e with
 | true=>rw [q] at h;cases h.1
 | false=>rfl
section
variable{X:Cx}{CX:eW}{k:Nat}{f C:Addr}{fd:FuncData}{ps:List Str}{sp:Sp}{jE:List V}{ds:List Value}{E:XK}{x m:Str}{p pos apos:Pos}{e o:Expr}{es:List Expr}{ta te:TE}{t:TA}{id T:String}{r:List V->Hp->VK->Prop}
theorem Nr(ha:PE X e te)(hr:PA X es t)(hs:isStar e=false:=by rfl):PA X (e :: es) (B0 te t):=L9 ha hr<|kE _ _ _ hs
theorem Nu(F:aA X.prog X.w X.K X.mg X.base CX k f fd ps sp)(hr:aL k X.A)(hm:X.mg x=some (.ref f))(hk:PySem.W.keepIn X.K (.ref f)=true)(hb:Binds X.K fd ps [])(hx:lY CX X E)
  (ha:PA X (e :: es) t) (hg:Gl X x:=by rfl) (bY:(x == ("__debug__" : Str))=false:=by decide) (hs:noStar (e :: es)=true:=by rfl):PE X (.Call (.Name x p) (e :: es) [] pos) (B5 sp [] E t):=
 Mh F hr hg hm hk hb .nil hx ha bY (kE _ _ _ (n8 hs).1) (ui _ _ _ (n8 hs).2)
theorem w5(hc:fF X (.builtin id) r)(hm:X.mg x=none)(hv:bootBuiltins x=some (.builtin id))(ha:PA X (e :: es) t)(hg:Gl X x:=by rfl)(hn:x ≠ "__name__":=by decide)(bY:(x == ("__debug__" : Str))=false:=by decide)
  (hs:noStar (e :: es)=true:=by rfl):PE X (.Call (.Name x p) (e :: es) [] pos) (t6 r t):=
 Mk hc hg hm hv ha hn bY (kE _ _ _ (n8 hs).1) (ui _ _ _ (n8 hs).2)
theorem w6(hc:fF X (.type T) r)(hm:X.mg x=none)(hv:bootBuiltins x=some (.type T))(ha:PA X (e :: es) t)(hg:Gl X x:=by rfl)(hn:x ≠ "__name__":=by decide)(bY:(x == ("__debug__" : Str))=false:=by decide)
  (hs:noStar (e :: es)=true:=by rfl):PE X (.Call (.Name x p) (e :: es) [] pos) (t6 r t):=
 Ml hc hg hm hv ha hn bY (kE _ _ _ (n8 hs).1) (ui _ _ _ (n8 hs).2)
end
structure Ev(X:Cx)(e:Expr)(σ:St)(H:Hp)(Q:VK):Prop where
 run:∀(pins:List<|Addr×Obj) (s:Shared),Inv X pins σ H s->wpAny (model X.prog X.w) X.A (eval e X.env) (EP X pins σ Q) X.xe s
structure Et(X:Cx)(e:Expr)(σ:St)(H:Hp)(Q:Bool->Hp->Prop):Prop where
 run:∀(pins:List<|Addr×Obj) (s:Shared),Inv X pins σ H s->wpAny (model X.prog X.w) X.A (isTrue e X.env<|eval e X.env) (TP X pins σ Q) X.xe s
structure Ew(X:Cx)(e:Expr)(σ:St)(H:Hp)(Q:Bool->Hp->Prop):Prop where
 run:∀(whole:Sem Value) (pins:List<|Addr×Obj) (s:Shared),Inv X pins σ H s->wpAny (model X.prog X.w) X.A (isTrue e X.env whole) (TP X pins σ Q) X.xe s
structure Ea(X:Cx)(es:List Expr)(σ:St)(H:Hp)(Q:List V->Hp->Prop):Prop where
 run:∀(pos:Pos) (pins:List<|Addr×Obj) (s:Shared),Inv X pins σ H s->wpAny (model X.prog X.w) X.A (spliced<|backTo pos<|starEach es X.env) (AP X pins σ Q) X.xe s
structure Eo(X:Cx)(e:Option Expr)(σ:St)(H:Hp)(Q:Option Int->Hp->Prop):Prop where
 run:∀(pins:List<|Addr×Obj) (s:Shared),Inv X pins σ H s->wpAny (model X.prog X.w) X.A (evalPart e X.env) (λu s'=>∃ o H',Inv X pins σ H' s'/\IsPart u o/\Q o H') X.xe s
structure Eg(X:Cx)(e:Expr)(v:V)(σ:St)(H:Hp)(Q:St->Hp->Prop):Prop where
 run:∀(pins:List<|Addr×Obj) (s:Shared) (u:Value),Inv X pins σ H s->RelV v u->wpAny (model X.prog X.w) X.A (assign e X.env u) (λ_ s'=>∃ σ' H',Inv X pins σ' H' s'/\Q σ' H') X.xe s
structure Run(X:Cx)(l:List Stmt)(D:Ends)(σ:St)(H:Hp):Prop where
 run:∀(pins:List<|Addr×Obj) (s:Shared),Inv X pins σ H s->wpAny (model X.prog X.w) X.A (execs l X.env) (SP X pins D) X.xe s
def Nv(X:Cx)(e:Expr):TE:=λσ H Q=>Ev X e σ H Q
def Nw(X:Cx)(e:Expr):TT:=λσ H Q=>Et X e σ H Q
def Nx(X:Cx)(e:Expr):TT:=λσ H Q=>Ew X e σ H Q
def w8(X:Cx)(es:List Expr):TA:=λσ H Q=>Ea X es σ H Q
def Ny(X:Cx)(e:Option Expr):TO:=λσ H Q=>Eo X e σ H Q
def Nz(X:Cx)(e:Expr):TG:=λv σ H Q=>Eg X e v σ H Q
def w9(X:Cx)(l:List Stmt):TS:=λD σ H=>Run X l D σ H
section
variable{X:Cx}{e a b c o:Expr}{es:List Expr}{st:Stmt}{rest body mw:List Stmt}{σ:St}{H:Hp}{Q:VK}{T:Bool->Hp->Prop}{L:List V->Hp->Prop}{D:Ends}{pos p p2:Pos}
theorem aZ:PE X e (Nv X e):=λpins s _ _ _ I h=>h.run pins s I
theorem pW:PT X e (Nw X e):=λpins s _ _ _ I h=>h.run pins s I
theorem NA:PW X e (Nx X e):=λwh pins s _ _ _ I h=>h.run wh pins s I
theorem gg:PA X es (w8 X es):=λpos pins s _ _ _ I h=>h.run pos pins s I
theorem DA{e:Option Expr}:PO X e (Ny X e):=λpins s _ _ _ I h=>h.run pins s I
theorem my:PG X e (Nz X e):=λpins s _ _ _ u _ I r h=>h.run pins s u I r
theorem kF{l:List Stmt}:gI X l (w9 X l):=λpins s _ _ _ I h=>h.run pins s I
theorem cW{t:TE}(h1:PE X e t)(h2:t σ H Q):Ev X e σ H Q:=⟨λpins s I=>h1 pins s σ H Q I h2⟩
theorem uj{t:TT}(h1:PT X e t)(h2:t σ H T):Et X e σ H T:=⟨λpins s I=>h1 pins s σ H T I h2⟩
theorem DB{t:TT}(h1:PW X e t)(h2:t σ H T):Ew X e σ H T:=⟨λwh pins s I=>h1 wh pins s σ H T I h2⟩
theorem DC{t:TA}(h1:PA X es t)(h2:t σ H L):Ea X es σ H L:=⟨λpos pins s I=>h1 pos pins s σ H L I h2⟩
theorem DE{e:Option Expr}{t:TO}{R:Option Int->Hp->Prop}(h1:PO X e t)(h2:t σ H R):Eo X e σ H R:=⟨λpins s I=>h1 pins s σ H R I h2⟩
theorem uk{t:TG}{v:V}{R:St->Hp->Prop}(h1:PG X e t)(h2:t v σ H R):Eg X e v σ H R:=⟨λpins s u I r=>h1 pins s σ H v u R I r h2⟩
theorem gM{t:TS}(h1:PS X st t)(h2:t {D with nx:=λσ' H'=>Run X rest D σ' H'} σ H):Run X (st :: rest) D σ H:=⟨λpins s I=>K1 h1 kF pins s σ H D I h2⟩
theorem aS(h:D.nx σ H):Run X [] D σ H:=⟨λpins s I=>vW pins s σ H D I h⟩
theorem Ev.mono{Q':VK}(h:Ev X e σ H Q)(f:∀ v H',Q v H'->Q' v H'):Ev X e σ H Q':=⟨λpins s I=>ay (h.run pins s I) λ_ _ ⟨v,H',I',r,q⟩=>⟨v,H',I',r,f v H' q⟩⟩
theorem Et.mono{T':Bool->Hp->Prop}(h:Et X e σ H T)(f:∀ v H',T v H'->T' v H'):Et X e σ H T':=⟨λpins s I=>ay (h.run pins s I) λv _ ⟨H',I',q⟩=>⟨H',I',f v H' q⟩⟩
theorem Ea.mono{L':List V->Hp->Prop}(h:Ea X es σ H L)(f:∀ v H',L v H'->L' v H'):Ea X es σ H L':=⟨λpos pins s I=>ay (h.run pos pins s I) λ_ _ ⟨v,H',I',r,q⟩=>⟨v,H',I',r,f v H' q⟩⟩
theorem af(i:Nat){x:Str}{v:V}(h:Q v H)(hv:σ[i]?=some (some v):=by rfl)(hN:X.N[i]?=some x:=by rfl)(hs:vM X.env.scope x:=by first | exact Or.inl rfl | exact Or.inr (Or.inl rfl) | exact Or.inr<|Or.inr rfl)(hd:(x == ("__debug__" : Str))=false:=by decide)
  (fW:(x == ("__classdict__" : Str))=false:=by decide):Ev X (.Name x p) σ H Q:=cW (Kv (i:=i) hN hs hd fW) ⟨v,hv,h⟩
theorem ao{i:Int}{j:Nat}(h:Q (.int i) H):Ev X (.Constant (.int i) j p) σ H Q:=cW (Kw) h
theorem uo{i:Bool}{j:Nat}(h:Q (.bl i) H):Ev X (.Constant (.bool i) j p) σ H Q:=cW (Kx) h
theorem uq{i:Str}{j:Nat}(h:Q (.str i) H):Ev X (.Constant (.str i) j p) σ H Q:=cW (Ky) h
theorem xa{x:Str}{v:V}{u:Value}(hm:X.mg x=some u)(r:RelV v u)(h:Q v H)(hg:Gl X x:=by rfl)(hd:(x == ("__debug__" : Str))=false:=by decide):Ev X (.Name x p) σ H Q:=cW (Kz hg hm r hd) h
theorem DF{x:Str}(v:V){u:Value}(hm:X.mg x=none)(hv:bootBuiltins x=some u)(r:RelV v u)(h:Q v H)(hg:Gl X x:=by rfl)(hn:x ≠ "__name__":=by decide)(hd:(x == ("__debug__" : Str))=false:=by decide):Ev X (.Name x p) σ H Q:=cW (KA hg hm hv r hn hd) h
theorem aE{op:Operator}{r:R2}(ho:db X (binaryOp op) r)(h:Ev X a σ H λx H1=>Ev X b σ H1 λy H2=>r x y H2 Q):Ev X (.BinOp a op b pos) σ H Q:=cW (LD ho aZ aZ) h
theorem xc{op:UnaryOp}{r:V->Hp->VK->Prop}(ho:t4 X (unaryOp op) r)(h:Ev X a σ H λx H1=>r x H1 Q):Ev X (.UnaryOp op a pos) σ H Q:=cW (LI ho aZ) h
theorem DH{op:CmpOp}{r:R2}(ho:db X (compareOp op) r)(h:Ev X a σ H λx H1=>Ev X b σ H1 λy H2=>r x y H2 Q)(hm:behindInMarks op b=false:=by with_unfolding_all rfl):Ev X (.Compare a [op] [b] pos) σ H Q:=cW (LO ho aZ aZ hm) h
theorem NB(h:Ev X a σ H λx H1=>∃ k,x = .bl k/\Q (.bl (!k)) H1):Ev X (.UnaryOp .Not a pos) σ H Q:=cW (KS aZ) h
theorem xf(h:Ev X a σ H λx H1=>∃ k,x = .bl k/\if k=true then Ev X (.BoolOp .And (b :: es) pos) σ H1 Q else Q (.bl false) H1):Ev X (.BoolOp .And (a :: b :: es) pos) σ H Q:=cW (KP aZ aZ) h
theorem DI{op:BoolOp}(h:Ev X a σ H Q):Ev X (.BoolOp op [a] pos) σ H Q:=cW (KO aZ) h
theorem DJ(h:Et X c σ H λk H1=>if k=true then Ev X a σ H1 Q else Ev X b σ H1 Q):Ev X (.IfExp c a b pos) σ H Q:=cW (KW pW aZ aZ) h
theorem de{r:R2}(hr:nX X r)(h:Ev X a σ H λx H1=>Ev X b σ H1 λy H2=>r x y H2 Q)(hs:CI b:=by intro _ _;rfl):Ev X (.Subscript a b pos) σ H Q:=cW (Mv hr aZ aZ hs) h
theorem pX{r:V->Option Int->Option Int->Hp->VK->Prop}{lo hi:Option Expr}(hr:wA X r)(h:Ev X a σ H λx H1=>Eo X lo σ H1 λl H2=>Eo X hi σ H2 λu H3=>r x l u H3 Q):Ev X (.Subscript a (.Slice lo hi none p2) pos) σ H Q:=cW (Mt hr aZ DA DA) h
theorem xg{R:Option Int->Hp->Prop}(h:R none H):Eo X none σ H R:=DE (Mq) h
theorem mz{R:Option Int->Hp->Prop}(h:Ev X a σ H λx H1=>∃ i,x = .int i/\R (some i) H1):Eo X (some a) σ H R:=DE (Mr aZ) h
theorem aC(h:L [] H):Ea X [] σ H L:=DC (L8) h
theorem ai(h:Ev X e σ H λx H1=>Ea X es σ H1 λxs H2=>L (x :: xs) H2)(hs:isStar e=false:=by rfl):Ea X (e :: es) σ H L:=DC (Nr aZ gg hs) h
theorem dE{k:Nat}(h:Ea X es σ H λxs H1=>xs.length<=sizeLine/\∀ p,H1 p=none->Q (.ref p) (upd H1 p<|.tup xs)):Ev X (.Tuple es k pos) σ H Q:=cW (Ma gg) h
theorem gN(h:Ea X es σ H λxs H1=>xs.length<=sizeLine/\∀ p,H1 p=none->Q (.ref p) (upd H1 p<|.lst xs)):Ev X (.List es pos) σ H Q:=cW (Mb gg) h
theorem DL{CX:eW}{k:Nat}{f:Addr}{fd:FuncData}{ps:List Str}{sp:Sp}{E:XK}{x:Str}(F:aA X.prog X.w X.K X.mg X.base CX k f fd ps sp)(hr:aL k X.A)(hm:X.mg x=some (.ref f))(hk:PySem.W.keepIn X.K (.ref f)=true)(hb:Binds X.K fd ps [])(hx:lY CX X E)
  (h:Ea X (e :: es) σ H λvs H1=>sp vs H1 Q E) (hg:Gl X x:=by rfl) (bY:(x == ("__debug__" : Str))=false:=by decide) (hs:noStar (e :: es)=true:=by rfl):Ev X (.Call (.Name x p) (e :: es) [] pos) σ H Q:=
 cW (Nu F hr hm hk hb hx gg hg bY hs) (show Ea X (e :: es) σ H _ from h.mono λvs H1 q=>by rw [Bg];exact q)
theorem gj{id:String}{r:List V->Hp->VK->Prop}{x:Str}(hc:fF X (.builtin id) r)(hm:X.mg x=none)(hv:bootBuiltins x=some (.builtin id))(h:Ea X (e :: es) σ H λvs H1=>r vs H1 Q)(hg:Gl X x:=by rfl)(hn:x ≠ "__name__":=by decide)(bY:(x == ("__debug__" : Str))=false:=by decide)
  (hs:noStar (e :: es)=true:=by rfl):Ev X (.Call (.Name x p) (e :: es) [] pos) σ H Q:=cW (w5 hc hm hv gg hg hn bY hs) h
theorem NC{T:String}{r:List V->Hp->VK->Prop}{x:Str}(hc:fF X (.type T) r)(hm:X.mg x=none)(hv:bootBuiltins x=some (.type T))(h:Ea X (e :: es) σ H λvs H1=>r vs H1 Q)(hg:Gl X x:=by rfl)(hn:x ≠ "__name__":=by decide)(bY:(x == ("__debug__" : Str))=false:=by decide)
  (hs:noStar (e :: es)=true:=by rfl):Ev X (.Call (.Name x p) (e :: es) [] pos) σ H Q:=cW (w6 hc hm hv gg hg hn bY hs) h
theorem fb{op:CmpOp}{r:R2}(ho:db X (compareOp op) r)(h:Ev X a σ H λx H1=>Ev X b σ H1 λy H2=>r x y H2 λz H3=>∃ k,z = .bl k/\T k H3)(hm:behindInMarks op b=false:=by with_unfolding_all rfl):Et X (.Compare a [op] [b] pos) σ H T:=uj (LV ho aZ aZ hm) h
theorem DM(h:Ev X e σ H λx H1=>∃ k,lV X.K x H1 k/\T k H1)(he:∀ whole,isTrue e X.env whole=(do let v <- whole;standAt e.pos;holding [v] (truthy v)):=by intro _;rfl):Et X e σ H T:=uj (LY aZ he) h
theorem xh(h:Ew X e σ H T):Et X e σ H T:=⟨λpins s I=>h.run _ pins s I⟩
theorem xi(h:Et X a σ H λk H1=>if k=true then Ew X (.BoolOp .And (b :: es) pos) σ H1 T else T false H1):Ew X (.BoolOp .And (a :: b :: es) pos) σ H T:=DB (KG pW NA) h
theorem xj(h:Et X a σ H T):Ew X (.BoolOp .And [a] pos) σ H T:=DB (KE pW) h
theorem bb(i:Nat){x:Str}{v:V}{R:St->Hp->Prop}(hN:X.N.Nodup)(h:R (σ.set i<|some v) H)(hi:X.N[i]?=some x:=by rfl)(hx:Loc X.env.scope x:=by first | exact Or.inl rfl | exact Or.inr rfl)(hf:X.fn x=true\/X.env.scope.names.lookup x=some .local:=by first | exact .inl rfl | exact .inr rfl | assumption):Eg X (.Name x p) v σ H R:=uk (K6 hN hi hx hf) h
theorem run_set(i:Nat){x:Str}{pos':Pos}(hN:X.N.Nodup)(h:Ev X e σ H λv H1=>Run X rest D (σ.set i<|some v) H1)(hi:X.N[i]?=some x:=by rfl)(hx:Loc X.env.scope x:=by first | exact Or.inl rfl | exact Or.inr rfl)(hs:swapsWith e (some<|.Name x pos') pos.line X.env=pure false:=by rfl)
  (hf:X.fn x=true\/X.env.scope.names.lookup x=some .local:=by first | exact .inl rfl | exact .inr rfl | assumption):Run X (.Assign [.Name x pos'] e pos :: rest) D σ H:=gM (K9 hN hi hx aZ hs hf) h
theorem gn(h:Et X c σ H λk H1=>if k=true then Run X body {D with nx:=λσ' H'=>Run X rest D σ' H'} σ H1 else Run X mw {D with nx:=λσ' H'=>Run X rest D σ' H'} σ H1):Run X (.If c body mw pos :: rest) D σ H:=gM (K5 pW kF kF) h
theorem DS(φ ψ:Prop)(hc:∀ T:Bool->Hp->Prop,(∀ k:Bool,(k=true->φ)->(k=false->ψ)->T k H)->Et X c σ H T)(ht:φ->Run X body {D with nx:=λσ' H'=>Run X rest D σ' H'} σ H)(hu:ψ->Run X mw {D with nx:=λσ' H'=>Run X rest D σ' H'} σ H):Run X (.If c body mw pos :: rest) D σ H:=
 gn (hc _ λk p q=>by
  cases k with
  | true=>rw [BK rfl];exact ht<|p rfl
  | false=>rw [BJ Aw];exact hu<|q rfl)
theorem df(h:Ev X e σ H D.rt):Run X (.Return (some e) pos :: rest) D σ H:=gM (K4 aZ) h
theorem jI(h:Ev X e σ H λ_ H1=>Run X rest D σ H1)(hs:swapsWith e none pos.line X.env=pure false:=by rfl):Run X (.Expr e pos :: rest) D σ H:=gM (K3 aZ hs) h
theorem ur{tg:Expr}(h:Ev X e σ H λv H1=>Eg X tg v σ H1 λσ' H'=>Run X rest D σ' H')(hs:swapsWithSole [tg] e pos.line X.env=pure false:=by rfl)(hw:swappedStores [tg] e X.env=pure none:=by rfl)
  (h1:(assignEach [tg] X.env).map (·.2)=[assign tg X.env]:=by rfl):Run X (.Assign [tg] e pos :: rest) D σ H:=gM (K8 aZ my hs hw h1) h
def Loop(X:Cx)(tg:Expr)(body:List Stmt)(J:It)(D:Ends)(after:St->Hp->Prop)(σ:St)(H:Hp):Prop:=
 ∃ W:Nat->Nat->St->Hp->Prop,(∃ m,W 0 m σ H)/\∀ i m σ H,W i m σ H->(J.stop i H/\after σ H)\/(J.go i H/\∃ N:St->Hp->Prop,(∀ σ' H',N σ' H'->∃ m',m' < m/\W (i+1) m' σ' H') /\
  ∀ x H',J.pq i H x H'->Eg X tg x σ H' λσ2 H2=>Run X body {D with nx:=N,ct:=N,bk:=after} σ2 H2)
theorem xk{tg iter:Expr}{wi:TI}(hi:PI X tg iter wi)(h:wi σ H λJ H1=>Loop X tg body J D (λσ' H'=>Run X rest D σ' H') σ H1)(hp:PassesOwn (model X.prog X.w) X.A X.env X.xe:=by exact FJ)(hc:X.calm=true:=by rfl)
  (hs:∀ x,foldedSetIterable iter X.env x=pure x:=by intro _;rfl):Run X (.For tg iter body [] pos :: rest) D σ H:=gM (Lx hp hc hi my kF hs) h
theorem n9{tg:Expr}{q:Pos}(hm:X.mg "range" = none)(h:Ev X a σ H λx H1=>∃ j:Int,x = .int j/\-(2 ^ 62)<=j/\j < 2 ^ 62/\Loop X tg body (lQ 0 j.toNat) D (λσ' H'=>Run X rest D σ' H') σ H1)(hg:Gl X "range":=by rfl)(hp:PassesOwn (model X.prog X.w) X.A X.env X.xe:=by exact FJ)(hc:X.calm=true:=by rfl)(hs:isStar a=false:=by rfl) :
  Run X (.For tg (.Call (.Name "range" q) [a] [] p) body [] pos :: rest) D σ H:=
 xk (wi:=BG<|w8 X [a]) (wc hg hm gg<|kE a [] _ hs) (show Ea X [a] σ H _ from ai (h.mono λx H1 ⟨j,e,h1,h2,h3⟩=>aC ⟨j,by rw [e],h1,h2,h3⟩) hs) hp hc (by intro _;rfl)
theorem xm{tg iter:Expr}(h:Ev X iter σ H λx H1=>∃ a,x = .ref a/\(∃ xs,bo X.K H1 a xs)/\Loop X tg body (px X.K a) D (λσ' H'=>Run X rest D σ' H') σ H1)(hp:PassesOwn (model X.prog X.w) X.A X.env X.xe:=by exact FJ)(hc:X.calm=true:=by rfl)
  (hs:∀ x,foldedSetIterable iter X.env x=pure x:=by intro _;rfl):Run X (.For tg iter body [] pos :: rest) D σ H:=xk (Lq aZ) h hp hc hs
theorem mB{tg iter:Expr}(h:Ev X iter σ H λx H1=>∃ a,x = .ref a/\(∃ xs,av X.K H1 a xs)/\Loop X tg body (pv X.K a) D (λσ' H'=>Run X rest D σ' H') σ H1)(hp:PassesOwn (model X.prog X.w) X.A X.env X.xe:=by exact FJ)(hc:X.calm=true:=by rfl)
  (hs:∀ x,foldedSetIterable iter X.env x=pure x:=by intro _;rfl):Run X (.For tg iter body [] pos :: rest) D σ H:=xk (kA aZ) h hp hc hs
theorem oa{tg:Expr}{lo:Int}{n:Nat}{after:St->Hp->Prop}(Pv:Nat->St->Hp->Prop)(h0:Pv 0 σ H)
  (hs:∀ i σ H,i < n->Pv i σ H->Eg X tg (.int<|lo+i) σ H λσ2 H2=>Run X body {D with nx:=Pv<|i+1,ct:=Pv<|i+1,bk:=after} σ2 H2) (hd:∀ σ H,Pv n σ H->after σ H):Loop X tg body (lQ lo n) D after σ H:=by
 refine⟨λi m σ H=>m=n - i/\i<=n/\Pv i σ H,⟨n,by simp,Bw _,h0⟩,?_⟩;rintro i m σ H ⟨rfl,hi,p⟩
 by_cases az:i < n
 ·refine .inr ⟨az,Pv<|i+1,λσ' H' p'=>⟨n - (i+1),by omega,rfl,az,p'⟩,λx H' y=>?_⟩;obtain⟨e,y⟩:=y;subst e y;exact hs i σ _ az p
 ·have e:i=n:=by omega
  subst e;exact .inl ⟨Af _,hd σ H p⟩
theorem xn{tg:Expr}{at_:Addr}{xs:List V}{after:St->Hp->Prop}(Pv:Nat->St->Hp->Prop)(h0:Pv 0 σ H)(hl:∀ i σ H,i<=xs.length->Pv i σ H->bo X.K H at_ xs)
  (hs:∀ i x σ H,xs[i]?=some x->Pv i σ H->Eg X tg x σ H λσ2 H2=>Run X body {D with nx:=Pv<|i+1,ct:=Pv<|i+1,bk:=after} σ2 H2) (hd:∀ σ H,Pv xs.length σ H->after σ H):Loop X tg body (px X.K at_) D after σ H:=by
 refine⟨λi m σ H=>m=xs.length - i/\i<=xs.length/\Pv i σ H,⟨xs.length,by simp,Bw _,h0⟩,?_⟩;rintro i m σ H ⟨rfl,hi,p⟩;have q:=hl i σ H hi p
 by_cases az:i < xs.length
 ·refine .inr ⟨⟨xs,xs[i],q,by simp [az]⟩,Pv<|i+1,λσ' H' p'=>⟨xs.length - (i+1),by omega,rfl,az,p'⟩,λx H' y=>?_⟩;obtain⟨e,y⟩:=y;subst e;exact hs i x σ _ (y xs q) p
 ·have e:i=xs.length:=by omega
  subst e;exact .inl ⟨⟨xs,q,Af _⟩,hd σ H p⟩
theorem mC{tg:Expr}{at_:Addr}{xs:List V}{after:St->Hp->Prop}(Pv:Nat->St->Hp->Prop)(h0:Pv 0 σ H)(hl:∀ i σ H,i<=xs.length->Pv i σ H->av X.K H at_ xs)
  (hs:∀ i x σ H,xs[i]?=some x->Pv i σ H->Eg X tg x σ H λσ2 H2=>Run X body {D with nx:=Pv<|i+1,ct:=Pv<|i+1,bk:=after} σ2 H2) (hd:∀ σ H,Pv xs.length σ H->after σ H):Loop X tg body (pv X.K at_) D after σ H:=by
 refine⟨λi m σ H=>m=xs.length - i/\i<=xs.length/\Pv i σ H,⟨xs.length,by simp,Bw _,h0⟩,?_⟩;rintro i m σ H ⟨rfl,hi,p⟩;have q:=hl i σ H hi p
 by_cases az:i < xs.length
 ·refine .inr ⟨⟨xs,xs[i],q,by simp [az]⟩,Pv<|i+1,λσ' H' p'=>⟨xs.length - (i+1),by omega,rfl,az,p'⟩,λx H' y=>?_⟩;obtain⟨e,y⟩:=y;subst e;exact hs i x σ _ (y xs q) p
 ·have e:i=xs.length:=by omega
  subst e;exact .inl ⟨⟨xs,q,Af _⟩,hd σ H p⟩
theorem bL.go{P:Program}{w:World}{K:PySem.W.Frag}{mg:Str->Option Value}{base:Heap}{x qual:Str}{st:Stmt}{f:Addr}{fd:FuncData}{N ps:List Str}{k:Nat}{sp:Sp}(F:bL K x qual st f fd)(S:au N ps<|aR st)(len:∀ vs H Q E,sp vs H Q E->vs.length=ps.length)
  (cf : ∀ (a7 : Value) (A : Around) (outer : List Env) (s : Shared) (H : Hp) (vs : List V) (Q : VK) (E : XK), aL k (A.deeper<|envOfC qual (aR st) s.heap.objs.size f a7) → sp vs H Q E →
   Run (dH bP P w K mg base N qual (aR st) f a7 A outer s H E).jB (fI st) {nx:=λ_ H'=>Q .non H',rt:=Q} (start N vs) H):aA P w K mg base bP (k+1) f fd ps sp:=
 F.ok S len λa7 A outer s H vs Q E hr fv=>⟨_,kF,cf a7 A outer s H vs Q E hr fv⟩
end
structure Ei(X:Cx)(ifs:List Expr)(σ:St)(H:Hp)(Q:Bool->Hp->Prop):Prop where
 run:∀(pins:List<|Addr×Obj) (s:Shared),Inv X pins σ H s ->
  wpAny (model X.prog X.w) X.A (forIn ifs true λc r=>if r=true then do let ok <- isTrue c X.env<|eval c X.env;pure (ForInStep.yield ok) else pure (ForInStep.yield r)) (TP X pins σ Q) X.xe s
def pY(X:Cx)(N':List Str)(scope:Scope)(e:Expr)(σ:St)(H:Hp)(Q:VK):Prop:=∀ cl C s₀ H₀ ex,Ev (f9 X N' scope cl C s₀ H₀ ex) e σ H Q
def pZ(X:Cx)(N':List Str)(scope:Scope)(e:Expr)(v:V)(σ:St)(H:Hp)(Q:St->Hp->Prop):Prop:=∀ cl C s₀ H₀ ex,Eg (f9 X N' scope cl C s₀ H₀ ex) e v σ H Q
def qa(X:Cx)(N':List Str)(scope:Scope)(ifs:List Expr)(σ:St)(H:Hp)(Q:Bool->Hp->Prop):Prop:=∀ cl C s₀ H₀ ex,Ei (f9 X N' scope cl C s₀ H₀ ex) ifs σ H Q
def jJ(X:Cx)(N':List Str)(scope:Scope)(tg:Expr)(ifs:List Expr)(elt:Expr)(J:It)(D:Addr)(after:Hp->Prop)(σ:St)(H:Hp):Prop:=
 ∃ W:Nat->Nat->St->Hp->Prop,(∃ m,W 0 m σ H)/\∀ i m σ' H',W i m σ' H' ->
  (J.stop i H' ∧ after H') ∨ (J.go i H' ∧ ∃ N : St → Hp → Prop, (∀ σ' H', N σ' H' → ∃ m', m' < m ∧ W (i + 1) m' σ' H') ∧ ∀ x H2, J.pq i H' x H2 → pZ X N' scope tg x σ' H2 λσ2 H3 => qa X N' scope ifs σ2 H3 λb H4 =>
   if b=true then pY X N' scope elt σ2 H4 λv H5=>∃ ys,H5 D=some (.lst ys)/\ys.length < sizeLine/\N σ2 (upd H5 D<|.lst<|ys++[v]) else N σ2 H4)
theorem mD:∀(names:List<|Str×NameKind) (n:Nat) (acc:List<|Str×Addr),cellsFrom n names acc=cellsFrom n names []++acc
 | [],_,_=>rfl
 | (y,k) :: r,n,acc=>by
  unfold cellsFrom
  split
  ·rw [mD r (n+1)<|(y,n) :: acc,mD r (n+1) [(y,n)],Bf];rfl
  ·exact mD r n acc
theorem qb:∀(names:List<|Str×NameKind) (n:Nat) {x:Str} {c:Addr},(x,c)∈cellsFrom n names []->(x,NameKind.cell)∈names/\n<=c
 | [],_,_,_,h=>by cases h
 | (y,k) :: r,n,x,c,h=>by
  unfold cellsFrom at h
  split at h
  ·rename_i hk;rw [mD,An] at h
   rcases h with h | h
   ·obtain⟨a,b⟩:=qb r (n+1) h;exact⟨Ar _ a,by omega⟩
   ·cases Ag.mp h;have:k = .cell:=by cases k <;> first | rfl | exact absurd hk<|by decide
    subst this;exact⟨Ah,Af _⟩
  ·obtain⟨a,b⟩:=qb r n h;exact⟨Ar _ a,b⟩
theorem DT{names:List (Str×NameKind)}{n:Nat}{cl:List (Str×Addr)}{x:Str}{c:Addr}(h:(cellsFrom n names cl).lookup x=some c):((x,c)∈cellsFrom n names []/\n<=c)\/cl.lookup x=some c:=by
 rw [mD,JB] at h;cases e:(cellsFrom n names []).lookup x with
 | some d=>
  rw [e] at h;cases h;have hm:=CT e;exact .inl ⟨hm,(qb _ _ hm).2⟩
 | none=>
  rw [e] at h;exact .inr h
theorem ND{names:List (Str×NameKind)}{n:Nat}{cl:List (Str×Addr)}{x:Str}(h:(x,NameKind.cell)∉names):(cellsFrom n names cl).lookup x=cl.lookup x:=by
 rw [mD,JB];cases e:(cellsFrom n names []).lookup x with
 | some d=>exact absurd (qb _ _<|CT e).1 h
 | none=>rfl
section
variable{M:Model}{A:Around}{E:Value->Shared->Prop}{s:Shared}
theorem NF{scope:Scope}{globals:Addr}{closure:List (Str×Addr)}{qual:Str}{func:Option Addr}{code:Value}{outer:Env}{builtins:Addr}{Q:Env->Shared->Prop}
  (hQ : ∀ h', h'.Ns s.heap.objs.size (λ_ => none) → (∀ b o, s.heap.get? b = some o → h'.get? b = some o) → CellsOk h' (s.heap.objs.size + 1) (cellsFrom (s.heap.objs.size + 1) scope.names []) →
   Q (newEnv scope s.heap.objs.size globals (cellsFrom (s.heap.objs.size+1) scope.names closure) qual func code (some outer) builtins) {s with heap:=h'}) :
  wpAny M A (newFunctionEnv scope globals closure [] qual func code (some outer) builtins) Q E s:=by
 simp only [newFunctionEnv,Option.isSome_some,DP];refine BP<|wpAny_alloc ?_;refine BP (wpAny_layCells _ (λname kind cells=>by cases NI:kind == NameKind.cell <;> simp [NI]) _ _ _ _ ?_);have ok:=cellsFrom_ok scope.names (s.heap.push {cls:= .type "dict",data:= .dict #[]}) (s.heap.objs.size+1) [] ⟨λ_ _ hm=>(nomatch hm),List.Pairwise.nil⟩ (by rw [Gu];exact Af _);rw [Gu] at ok;rw [show({s with heap:=s.heap.push {cls:= .type "dict",data:= .dict #[]}}:Shared).heap.objs.size=s.heap.objs.size+1 from Gu ..];rw [List.forIn_nil];exact BP<|BX<|BX<|hQ _ ((Heap.Ns.new s.heap<|.type "dict").keeps<|pushCells_keeps _ _) (λb o e=>pushCells_keeps _ _ b o<|Aj _ e) ok
end
def og(sc scope:Scope)(N N':List Str):Bool:=
 (match scope.kind with | .function=>true | _=>false) &&
 scope.names.all (λy=>match y.2 with
  | .cell=>(match scope.names.lookup y.1 with | some .cell=>true | _=>false)
  | .local=>(match scope.names.lookup y.1 with | some .local=>true | _=>false)
  | .free=>(match sc.names.lookup y.1 with | some .cell=>true | some .free=>true | _=>false) && (match scope.names.lookup y.1 with | some .free=>true | _=>false)
  | _=>true) &&
 (List.range N'.length).all λi => match N'[i]? with
  | none=>true
  | some x=>match scope.names.lookup x with
   | some .local=>decide (N.length<=i)
   | some .cell=>decide (N.length<=i)
   | some .free=>decide (N[i]?=some x)
   | _=>true
structure bz(sc scope:Scope)(N N':List Str):Prop where
 kind:scope.kind = .function
 cell:∀ y∈scope.names,y.2 = .cell->scope.names.lookup y.1=some .cell
 names:∀ y∈scope.names,y.2 = .local->scope.names.lookup y.1=some .local
 free:∀ y∈scope.names,y.2 = .free->sc.names.lookup y.1=some .cell\/sc.names.lookup y.1=some .free
 DU:∀ y∈scope.names,y.2 = .free->scope.names.lookup y.1=some .free
 own:∀(i:Nat) x,N'[i]?=some x->scope.names.lookup x=some .local->N.length<=i
 xo:∀(i:Nat) x,N'[i]?=some x->scope.names.lookup x=some .cell->N.length<=i
 out:∀(i:Nat) x,N'[i]?=some x->scope.names.lookup x=some .free->N[i]?=some x
theorem bz.of{sc scope:Scope}{N N':List Str}(h:og sc scope N N'=true):bz sc scope N N':=by
 unfold og at h;rw [Cg,Cg] at h;obtain⟨⟨h1,h2⟩,h3⟩:=h;have jK:=Dj.mp h2;have xq:=Dj.mp h3;refine⟨?_,λy hy e=>?_,λy hy e=>?_,λy hy e=>?_,λy hy e=>?_,λi x hi e=>?_,λi x hi e=>?_,λi x hi e=>?_⟩
 ·revert h1;cases scope.kind <;> intro h1 <;> first | rfl | cases h1
 ·have q:=jK y hy;rw [e] at q;simp only at q
  split at q
  ·assumption
  ·cases q
 ·have q:=jK y hy;rw [e] at q;simp only at q
  split at q
  ·assumption
  ·cases q
 ·have q:=jK y hy;rw [e] at q;simp only at q;rw [Cg] at q;have q:=q.1
  split at q
  ·exact .inl<|by assumption
  ·exact .inr<|by assumption
  ·cases q
 ·have q:=jK y hy;rw [e] at q;simp only at q;rw [Cg] at q;have q:=q.2
  split at q
  ·assumption
  ·cases q
 ·have q:=xq i<|Ce.mpr (Ac.mp hi).1;rw [hi] at q;simp only [e] at q;exact CQ q
 ·have q:=xq i<|Ce.mpr (Ac.mp hi).1;rw [hi] at q;simp only [e] at q;exact CQ q
 ·have q:=xq i<|Ce.mpr (Ac.mp hi).1;rw [hi] at q;simp only [e] at q;exact CQ q
section
variable{X:Cx}{pins:List (Addr×Obj)}{σ:St}{H:Hp}{s:Shared}
theorem NM{N':List Str}{scope:Scope}{n:Nat}{fp:List Addr}{h₁:Heap}{t':Nat}{m:Str->Option Value}(I:Inv X pins σ H s)(ck:bz X.env.scope scope X.N N')(hl:N'.length=X.N.length+n)
  (uc:h₁.Ns s.heap.objs.size m) (old:∀ b o,s.heap.get? b=some o->h₁.get? b=some o) (DV:CellsOk h₁ (s.heap.objs.size+1)<|cellsFrom (s.heap.objs.size+1) scope.names [])
  (oh:∀ b∈fp,bT X pins H b/\b < s.heap.objs.size) :
  Inv (f9 X N' scope (cellsFrom (s.heap.objs.size+1) scope.names<|bV scope.names X.env.cells []) s.heap.objs.size s H fp) [] (σ++List.replicate n none) H {s with heap:=h₁,toks:=t'}:=by
 have sub:∀ x c,(bV scope.names X.env.cells []).lookup x=some c->X.env.cells.lookup x=some c:=λx c e=>wW _ _ _ (λ_ _ z=>by simp at z) x c<|CT e;have both:∀ x c,(cellsFrom (s.heap.objs.size+1) scope.names<|bV scope.names X.env.cells []).lookup x=some c->((x,c)∈cellsFrom (s.heap.objs.size+1) scope.names []/\s.heap.objs.size+1<=c)\/X.env.cells.lookup x=some c:=λx c e=>by
  rcases DT e with z | z
  ·exact .inl z
  ·exact .inr<|sub x c z
 have kG:∀ x c,X.env.cells.lookup x=some c->c < s.heap.objs.size:=λx c e=>by
  obtain⟨v,o,ho,_⟩:=I.cell x c e;exact Bb ho
 have NP:H s.heap.objs.size=none:=I.aw.fresh<|Af _;have kindOf:∀{x:Str} {k':NameKind},(relabel scope X.env).names.lookup x=some k'->∃ k,scope.names.lookup x=some k/\(k'=k\/(k = .free/\k' = .cell)):=λz=>C8 z;have DZ:∀ x,scope.names.lookup x=some .free->(cellsFrom (s.heap.objs.size+1) scope.names<|bV scope.names X.env.cells []).lookup x=(bV scope.names X.env.cells []).lookup x:=λx e=>ND λhm=>by
  have:=ck.cell _ hm rfl;rw [e] at this;cases this
 have xr:∀ x,scope.names.lookup x=some .cell->∃ c,(cellsFrom (s.heap.objs.size+1) scope.names<|bV scope.names X.env.cells []).lookup x=some c:=λx e=>Ds.mp<|FP _ _ _<|.inl e;have NQ:(f9 X N' scope (cellsFrom (s.heap.objs.size+1) scope.names<|bV scope.names X.env.cells []) s.heap.objs.size s H fp).Ok:=by
  refine⟨I.ok.mod,ck.kind,I.ok.glob,I.ok.blt,Af _,λx y c e1 e2=>?_,λx hx=>?_,λx c hf e=>?_,I.ok.hd,I.ok.frames,.inl rfl,λb hb=>⟨Co (oh b hb).2,λx c e=>?_⟩,
   I.bs,Dk I.ok.g9 I.sz,λb o e hb=>?_,λb hb hf=>?_,I.stack,I.c9⟩
  ·rcases both x c e1 with z1 | z1
   ·rcases both y c e2 with z2 | z2
    ·exact name_of_addr DV.apart z1.1 z2.1
    ·exact absurd (kG y c z2)<|Nat.not_lt.mpr<|Ef z1.2
   ·rcases both y c e2 with z2 | z2
    ·exact absurd (kG x c z1)<|Nat.not_lt.mpr<|Ef z2.2
    ·exact I.ok.inj x y c z1 z2
  ·have gO:(relabel scope X.env).names.lookup x=some .cell\/(relabel scope X.env).names.lookup x=some .free:=hx;have:∃ k,scope.names.lookup x=some k/\(k = .free\/k = .cell):=by
    rcases gO with z | z
    ·obtain⟨k,e,r⟩:=kindOf z
     rcases r with r | ⟨r,_⟩
     ·exact⟨k,e,.inr r.symm⟩
     ·exact⟨k,e,.inl r⟩
    ·obtain⟨k,e,r⟩:=kindOf z
     rcases r with r | ⟨r,_⟩
     ·exact⟨k,e,.inl r.symm⟩
     ·exact⟨k,e,.inl r⟩
   obtain⟨k,e,rfl | rfl⟩:=this
   ·have hm:=CT e;obtain⟨c,hc⟩:=I.ok.has x<|ck.free _ hm rfl;obtain⟨d,hd⟩:=wY<|wX scope.names X.env.cells [] x c hm hc;exact⟨d,(DZ x e).trans hd⟩
   ·exact xr x e
  ·have hx:scope.names.lookup x=some .cell:=by
    have D0:(match scope.names.lookup x with | some .cell=>true | _=>false)=true:=hf
    split at D0
    ·assumption
    ·cases D0
   have e':(cellsFrom (s.heap.objs.size+1) scope.names<|bV scope.names X.env.cells []).lookup x=some c:=e;have q1:=Ds.mp<|FP scope.names (s.heap.objs.size+1) []<|.inl hx;obtain⟨d,hd⟩:=q1;rw [mD,JB,hd] at e';have e2:d=c:=Option.some.inj e';have:=(qb _ _<|CT hd).2;rw [<- e2];exact Ef this
  ·have e':(cellsFrom (s.heap.objs.size+1) scope.names<|bV scope.names X.env.cells []).lookup x=some c:=e
   rcases both x c e' with z | z
   ·have h1:=(oh b hb).2;have h2:=z.2;exact λk=>absurd h1<|Nat.not_lt.mpr<|by rw [<- k];exact Ef h2
   ·exact(oh b hb).1.2.2.2.2.1 x c z
  ·have:=(oh b hb).1.2.2.2.1
   rcases this with z | z
   ·exact I.ok.dY b o e z
   ·exact absurd (Bm (Bb e)<|Dk I.ok.g9 z)<|Cd _
  ·rcases Am.mp (I.cG b hf) with z | z
   ·exact(oh b hb).1.2.1 z
   ·exact(oh b hb).1.2.2.1 z
 refine⟨NQ,rfl,I.bare,Un.kept old,⟨m,uc,λi x v e1 e2 e3=>?_⟩,λx c e=>?_,NP,λx c e=>?_,λp hp=>absurd hp (by simp [f9]),I.aw.kept old,?_⟩
 ·have hi:i < σ.length:=by
   by_cases hi:i < σ.length
   ·exact hi
   ·rw [Ay (by omega),Dh] at e2
    split at e2 <;> cases e2
  rw [Bc hi] at e2;have qd:N'[i]?=some x:=e1;have NR:∃ k',(relabel scope X.env).names.lookup x=some k'/\(k' = .local\/k' = .cell\/k' = .free):=by
   rcases e3 with z | z | z
   ·exact⟨_,z,.inl rfl⟩
   ·exact⟨_,z,.inr<|.inl rfl⟩
   ·exact⟨_,z,.inr<|.inr rfl⟩
  obtain⟨k',xt,NS⟩:=NR;obtain⟨k,ek,r⟩:=kindOf xt;have kf:k = .free:=by
   rcases r with r | ⟨r,_⟩
   ·subst r
    rcases NS with z | z | z
    ·subst z;have:=ck.own i x qd ek;rw [I.len] at hi;omega
    ·subst z;have:=ck.xo i x qd ek;rw [I.len] at hi;omega
    ·exact z
   ·exact r
  subst kf;have hm:=CT ek;have NT:=ck.out i x qd ek;obtain⟨m0,UC,NU⟩:=I.loc;have kx:=ck.free _ hm rfl;obtain⟨u,ru,lk⟩:=NU i x v NT e2 (by rcases kx with z | z;exact .inr<|.inl z;exact .inr<|.inr z);refine⟨u,ru,.inr ⟨?_,?_⟩⟩
  ·rcases r with r | ⟨_,r⟩
   ·subst r;exact .inr xt
   ·subst r;exact .inl xt
  ·rcases lk with ⟨k1,_⟩ | ⟨_,c,hc,fX⟩
   ·have xu:X.env.scope.names.lookup x=some .local:=k1
    rcases kx with z | z
    ·rw [xu] at z;cases z
    ·rw [xu] at z;cases z
   ·have ut:=wX scope.names X.env.cells [] x c hm hc;obtain⟨d,hd⟩:=wY ut;have:d=c:=Option.some.inj<|(sub x d hd).symm.trans hc;subst this;obtain⟨o,ho,mE⟩:=fX;exact⟨d,(DZ x ek).trans hd,o,old _ _ ho,mE⟩
 ·have e':(cellsFrom (s.heap.objs.size+1) scope.names<|bV scope.names X.env.cells []).lookup x=some c:=e
  rcases both x c e' with z | z
  ·exact⟨none,(DV.empty x c z.1).1⟩
  ·obtain⟨v,o,ho,mE⟩:=I.cell x c z;exact⟨v,o,old _ _ ho,mE⟩
 ·have e':(cellsFrom (s.heap.objs.size+1) scope.names<|bV scope.names X.env.cells []).lookup x=some c:=e
  rcases both x c e' with z | z
  ·exact I.aw.fresh<|Ef z.2
  ·exact I.aM x c z
 ·rw [Ae,Db,I.len];exact hl.symm
end
structure Clause(e:Expr)(d:Nat)(tg iter:Expr)(ifs:List Expr)(acc:Value)(env:Env)(inner:Sem Unit):Prop where
 at':(clausesOf e)[d]?=some ⟨tg,iter,ifs,0⟩
 quiet:∀ it,(Code.compLoop e d it acc env).quiet=true
 den:∀(prog:Program) (w:World) it,(model prog w).den (.compLoop e d it acc env)=(compTurn e d it acc env).onRaise (λx=>do noteFrame x env;theTreesLotGoes x)
 NV:∀(A:Around) it,A.under (.compLoop e d it acc env)=A
 xA:∀(prog:Program) (w:World) it,(model prog w).den (.compStart e d it acc env)=(compStart e d it acc env).onRaise (λx=>do noteFrame x env;standAt theWindowsPlace)
 xB:∀(A:Around) it,A.under (.compStart e d it acc env)=A
 turn:∀ it,compTurn e d it acc env=(do
   standAt iter.pos
   match <- pyNext it with
   | none=>pure<|.done .next
   | some v=>
    letOwnedTupleGo tg it v
    assign tg env v
    let mut ok:=true
    for c in ifs do
     if ok then ok <- isTrue c env<|eval c env
    if ok then
     inner
    again (.compLoop e d it acc env))
section
variable{prog:Program}{w:World}{A:Around}{R:Result->Shared->Prop}{s:Shared}
theorem NW{e:Expr}{d:Nat}{tg iter:Expr}{ifs:List Expr}{it acc:Value}{env:Env}{inner:Sem Unit}(C:Clause e d tg iter ifs acc env inner)(I:Nat->Shared->Prop)
  (turn : ∀ n s, I n s → wpAny (model prog w) A (pyNext it) (λr s₁ => match r with
   | none=>R (.ok .next) s₁
   | some v=>wpAny (model prog w) A (letOwnedTupleGo tg it v) (λ_ s₁'=>wpAny (model prog w) A (assign tg env v) (λ_ s₂=>
     wpAny (model prog w) A (forIn ifs true λc r=>if r=true then do let ok <- isTrue c env<|eval c env;pure (ForInStep.yield ok) else pure (ForInStep.yield r)) (λok s₃=>
      if ok=true then wpAny (model prog w) A inner (λ_ s₄=>∃ m,m < n/\I m s₄) (notedBy (model prog w) A env λe s'=>R (.error e) s') s₃
      else ∃ m,m < n/\I m s₃) (notedBy (model prog w) A env λe s'=>R (.error e) s') s₂) (notedBy (model prog w) A env λe s'=>R (.error e) s') s₁') (notedBy (model prog w) A env λe s'=>R (.error e) s') s₁) (notedBy (model prog w) A env λe s'=>R (.error e) s') s)
  (n:Nat) (h:I n s) :
  codeAny (model prog w) A (.compLoop e d it acc env) R s:=by
 refine codeAny_loop (C.quiet it) I (λn s hI=>?_) n h;rw [C.NV,C.den];refine wpAny_noted ?_;rw [C.turn];refine BP<|DR<|BP<|CP (turn n s hI) (λr s₁ h₁=>?_) λ_ _ h'=>h';cases r with
 | none=>exact BX h₁
 | some v=>
  refine BP<|CP h₁ (λ_ s₁' h₁'=>?_) λ_ _ h'=>h';refine BP<|CP h₁' (λ_ s₂ h₂=>BP<|CP h₂ (λok s₃ h₃=>?_) λ_ _ h'=>h') λ_ _ h'=>h';cases ok with
  | false=>exact BX ⟨rfl,h₃⟩
  | true=>exact BP<|CP h₃ (λ_ s₄ h₄=>BX ⟨rfl,h₄⟩) λ_ _ h'=>h'
theorem NX{e:Expr}{d:Nat}{tg iter:Expr}{ifs:List Expr}{it acc:Value}{env:Env}{inner:Sem Unit}(C:Clause e d tg iter ifs acc env inner)
  (h0:codeAny (model prog w) A (.compLoop e d it acc env) R s)
  (h:wpAny (model prog w) A (pyIter it) (λxC s'=>codeAny (model prog w) A (.compLoop e d xC acc env) R s') (notedBy (model prog w) A env λx s'=>R (.error x) s') s) :
  codeAny (model prog w) A (.compStart e d it acc env) R s:=by
 refine codeAny_of_tree ?_;rw [C.xB,C.xA];refine wpAny_notedAt ?_;unfold compStart;rw [C.at'];show wpAny _ _ (ask >>= _) _ _ s;refine BP<|wpAny_askSetting<|wpAny_ite ?_
 split
 ·first
   | exact BP<|BX<|BX<|And.intro (C.quiet _) h0
   | exact BX<|And.intro (C.quiet _) h0
 ·first
   | exact BP<|wpAny_rule<|BP<|DR<|BP<|CP h (λxC s' h'=>BX<|And.intro (C.quiet _) h') λ_ _ x=>x
   | (refine BP<|wpAny_rule ?_;show wpAny _ _ (standAt iter.pos >>= _) _ _ s;exact BP<|DR<|BP<|CP h (λxC s' h'=>BX<|And.intro (C.quiet _) h') λ_ _ x=>x)
end
structure qe(X:Cx)(m:Sem Unit)(σ:St)(H:Hp)(Q:St->Hp->Prop):Prop where
 run:∀(pins:List<|Addr×Obj) (s:Shared),Inv X pins σ H s->wpAny (model X.prog X.w) X.A m (λ_ s'=>∃ σ' H',Inv X pins σ' H' s'/\Q σ' H') X.xe s
def kH(X:Cx)(tg:Expr)(ifs:List Expr)(inner:Sem Unit)(J:It)(after:St->Hp->Prop)(σ:St)(H:Hp):Prop:=
 ∃ W:Nat->Nat->St->Hp->Prop,(∃ m,W 0 m σ H)/\∀ i m σ' H',W i m σ' H' ->
  (J.stop i H' ∧ after σ' H') ∨ (J.go i H' ∧ ∃ N : St → Hp → Prop, (∀ σ' H', N σ' H' → ∃ m', m' < m ∧ W (i + 1) m' σ' H') ∧ ∀ x H2, J.pq i H' x H2 → Eg X tg x σ' H2 λσ2 H3 => Ei X ifs σ2 H3 λb H4 =>
   if b=true then qe X inner σ2 H4 N else N σ2 H4)
theorem NY{X:Cx}(xD:X.xe=λ_ _=>False)(hc:X.calm=true){e:Expr}{d:Nat}{tg iter:Expr}{ifs:List Expr}{acc:Value}{inner:Sem Unit}(C:Clause e d tg iter ifs acc X.env inner){pins:List (Addr×Obj)}{σ:St}{H:Hp}{s:Shared}
  {it:Addr} {fp:List Addr} {tn:Nat->Heap->Prop} {J:It} {after:St->Hp->Prop} {R:Result->Shared->Prop} (I:Inv X pins σ H s) (T:Turn X.prog X.w X.K tg J fp it tn) (st:tn 0 s.heap) (hf:∀ b∈fp,bT X pins H b) (h:kH X tg ifs inner J after σ H)
  (hR:∀ σ' H' s',Inv X pins σ' H' s'->after σ' H'->R (.ok .next) s') :
  codeAny (model X.prog X.w) X.A (.compStart e d (.ref it) acc X.env) R s:=by
 obtain⟨W,⟨m0,w0⟩,turn⟩:=h;have stat:∀{H':Hp},(∀ b∈fp,H' b=none)->∀ b∈fp,bT X pins H' b:=λhn b hb=>⟨hn b hb,(hf b hb).2⟩;have loop:codeAny (model X.prog X.w) X.A (.compLoop e d (.ref it) acc X.env) R s:=by
  refine NW C (λk s'=>∃ i σ' H',Inv X pins σ' H' s'/\tn i s'.heap/\(∀ b∈fp,H' b=none)/\W i k σ' H') ?_ m0 ⟨0,σ,H,I,st,λb hb=>(hf b hb).1,w0⟩;rintro k s4 ⟨i,σ4,H4,J4,mF,D4,w4⟩
  rcases turn i k σ4 H4 w4 with ⟨stop,qn⟩ | ⟨go,N,hN,step⟩
  ·have d1:=T.done X rfl rfl rfl hc i pins s4 σ4 H4 (λ_ _=>False) J4 (stat D4) mF stop;refine gL d1 λr s5 ⟨hr,I5⟩=>?_;subst hr;exact hR _ _ _ I5 qn
  ·have d1:=T.item X rfl rfl rfl hc i pins s4 σ4 H4 (λ_ _=>False) J4 (stat D4) mF go;refine gL d1 λr s5 ⟨u,hr,h5⟩=>?_;subst hr;refine gL h5 λ_ s6 ⟨x,H6,I6,r6,y6,xE,NZ⟩=>?_;have N0:=I6.pinned (stat NZ)<|T.obj _ _ xE;have again:∀{σ7:St} {H7:Hp} {s7:Shared},Inv X (pins++pz fp s6.heap) σ7 H7 s7->N σ7 H7->∃ m,m < k/\∃ i σ' H',Inv X pins σ' H' s7/\tn i s7.heap/\(∀ b∈fp,H' b=none)/\W i m σ' H':=λ{σ7 H7 s7} I7 n7=>by
    obtain⟨m',hm,w7⟩:=hN σ7 H7 n7;refine⟨m',hm,i+1,σ7,H7,I7.ce,T.keep _ _ _ xE λb hb o e=>(I7.pin (b,o)<|Ao _<|Ao _<|tZ hb e).1,λb hb=>?_,w7⟩;obtain⟨o,e,d⟩:=T.obj _ _ xE b hb;exact(I7.pin (b,o)<|Ao _<|Ao _<|tZ hb e).2.1
   have a1:=(step x H6 y6).run _ s6 u N0 r6;rw [xD] at a1;refine gL a1 λ_ s7 ⟨σ7,H7,I7,q7⟩=>?_;have a2:=q7.run _ s7 I7;rw [xD] at a2;refine gL a2 λok s8 ⟨H8,I8,q8⟩=>?_;cases ok with
   | false=>
    rw [BJ Aw] at q8 ⊢;exact again I8 q8
   | true=>
    rw [BK rfl] at q8 ⊢;have a3:=q8.run _ s8 I8;rw [xD] at a3;exact gL a3 λ_ s9 ⟨σ9,H9,I9,q9⟩=>again I9 q9
 exact NX C loop<|T.self _ 0 _ _ _ st loop
theorem xF{X:Cx}{e:Expr}{tg iter:Expr}{ifs:List Expr}{scope:Scope}{N':List Str}{newAcc:Sem Value}{o0:Obj}{u0:Addr->HO}{n:Nat}{inner:Value->Env->Sem Unit}{pins:List (Addr×Obj)}{σ:St}{H2:Hp}{s2:Shared}{E:Value->Shared->Prop}{RR:Value->Addr->Result->Shared->Prop}{it:Addr}{fp:List Addr}{tn:Nat->Heap->Prop}{J:It}{Q:VK}
  (xG:∀(Q:Value->Shared->Prop) (E:Value->Shared->Prop) (s:Shared),Q (.ref s.heap.objs.size) {s with heap:=s.heap.push o0}->wpAny (model X.prog X.w) X.A newAcc Q E s) (iI:∀(H:Hp) (h:Heap),sysModules < h.objs.size->aq X.prog X.w H (h.push o0) h.objs.size (u0 h.objs.size))
  (hc:X.calm=true) (ck:bz X.env.scope scope X.N N') (hl:N'.length=X.N.length+n) (hC:∀ acc env,Clause e 0 tg iter ifs acc env<|inner acc env)
  (I2:Inv X pins σ H2 s2) (T:Turn X.prog X.w X.K tg J fp it tn) (aY:tn 0 s2.heap) (f2:∀ b∈fp,bT X pins H2 b)
  (q:∀ D,H2 D=none->∀ cl C s₀ H₀ ex,kH (f9 X N' scope cl C s₀ H₀ ex) tg ifs (inner (.ref D)<|compEnvC scope cl C X.env) J (λ_ H'=>Q (.ref D) H') (σ++List.replicate n none)<|upd H2 D<|u0 D)
  (xH:∀ D C H' s' m,Inv X pins σ H' s'->s'.heap.Ns C m->H' C=none->C≠X.env.locals->X.s₀.heap.objs.size<=C->(∀ x c,X.env.cells.lookup x=some c->c≠C)->(∀ p∈X.pn++pins,p.1≠C)->Q (.ref D) H'->RR (.ref D) C (.ok .next) s') :
  wpAny (model X.prog X.w) X.A newAcc (λacc s₃=>wpAny (model X.prog X.w) X.A (newFunctionEnv scope X.env.globals (bV scope.names X.env.cells []) [] X.env.qual none .none<|some X.env) (λiK s₄=>
   codeAny (model X.prog X.w) X.A (.compStart e 0 (.ref it) acc {iK with scope:=relabel scope X.env}) (RR acc iK.locals) s₄) E s₃) E s2:=by
 refine xG _ _ _<|NF λh₁ hns₁ old₁ hcs₁=>?_;have hD:H2 s2.heap.objs.size=none:=I2.aw.fresh<|Af _;have q0:=q s2.heap.objs.size hD;have fl:∀ b∈fp,b < s2.heap.objs.size:=λb hb=>by
  obtain⟨o,e,_⟩:=T.obj 0 _ aY b hb;exact Bb e
 have I3:Inv X pins σ (upd H2 s2.heap.objs.size<|u0 s2.heap.objs.size) {s2 with heap:=s2.heap.push o0}:=
  I2.laid (t':=s2.toks) (λb o e=>Aj _ e) (Af _) (iI _ _ I2.big)
 generalize uv:({s2 with heap:=s2.heap.push o0}:Shared)=s3 at I3 hns₁ old₁ hcs₁ ⊢;have N2:s3.heap.objs.size=s2.heap.objs.size+1:=by rw [<- uv];exact Gu ..
 have xI:∀ b o,s2.heap.get? b=some o->s3.heap.get? b=some o:=λb o e=>by rw [<- uv];exact Aj _ e
 have old:∀ b o,s3.heap.get? b=some o->h₁.get? b=some o:=old₁;have f3:∀ b∈fp,bT X pins (upd H2 s2.heap.objs.size<|u0 s2.heap.objs.size) b/\b < s3.heap.objs.size:=λb hb=>by
  refine⟨⟨?_,(f2 b hb).2⟩,by rw [N2];exact Nat.lt_succ_of_lt<|fl b hb⟩;rw [aG<|Co<|fl b hb];exact(f2 b hb).1
 have I4:=λ(t':Nat)=>NM (N':=N') (scope:=scope) (n:=n) (fp:=fp) (h₁:=h₁) (t':=t') I3 ck hl hns₁ old hcs₁ f3;generalize hX:f9 X N' scope (cellsFrom (s3.heap.objs.size+1) scope.names<|bV scope.names X.env.cells []) s3.heap.objs.size s3 (upd H2 s2.heap.objs.size<|u0 s2.heap.objs.size) fp=X' at I4;have eP:X'.prog=X.prog:=by rw [<- hX];rfl
 have ew:X'.w=X.w:=by rw [<- hX];rfl
 have eK:X'.K=X.K:=by rw [<- hX];rfl
 have eA:X'.A=X.A:=by rw [<- hX];rfl
 have eE:X'.env=compEnvC scope (cellsFrom (s3.heap.objs.size+1) scope.names<|bV scope.names X.env.cells []) s3.heap.objs.size X.env:=by rw [<- hX];rfl
 have ec:X'.calm=true:=by rw [<- hX];exact hc
 have A2:X'.xe=λ_ _=>False:=by rw [<- hX];rfl
 have stat:∀{H':Hp},(∀ b∈fp,H' b=none)->∀ b∈fp,bT X' [] H' b:=λhn b hb=>by
  refine⟨hn b hb,?_,?_,?_,?_,?_⟩
  ·rw [eE];exact Co (f3 b hb).2
  ·rw [<- hX];intro hf
   rcases Am.mp (I3.cG b hf) with z | z
   ·exact(f3 b hb).1.2.1 z
   ·exact(f3 b hb).1.2.2.1 z
  ·rw [<- hX];exact .inl hb
  ·rw [eE];intro x c e
   rcases DT e with z | z
   ·exact λk=>absurd (f3 b hb).2<|Nat.not_lt.mpr<|by rw [<- k];exact Ef z.2
   ·exact(f3 b hb).1.2.2.2.2.1 x c<|wW _ _ _ (λ_ _ z=>by simp at z) x c<|CT z
  ·rw [<- hX];intro p hp;exact absurd hp<|by simp [f9]
 have fin:∀{σ':St} {H':Hp} {s':Shared},Inv X' [] σ' H' s'->Q (.ref s2.heap.objs.size) H'->RR (.ref s2.heap.objs.size) s3.heap.objs.size (.ok .next) s':=λ{σ' H' s'} I' q'=>by
  obtain⟨m',jh,_⟩:=id I'.loc;rw [eE] at jh;have N3:s'.os=s3.os:=by have:=I'.os;rw [<- hX] at this;exact this
  have N4:Un (cF X.stack) fp (upd H2 s2.heap.objs.size<|u0 s2.heap.objs.size) H' s3.heap s'.heap:=by have:=I'.base;rw [<- hX] at this;exact this
  have aw:bK X.prog X.w H' s'.heap:=by have:=I'.aw;rw [eP,ew] at this;exact this
  have IX:Inv X pins σ H' s':=I3.call' (ch:=fp) N3 N4 aw I'.bare λb hb=>⟨(f3 b hb).1.2.2.2.1,(f3 b hb).1.2.1,(f3 b hb).1.2.2.2.2.1,(f3 b hb).1.2.2.2.2.2⟩;have hZ:=I'.free;rw [eE] at hZ;refine xH _ _ H' s' m' IX jh hZ (Er I3.lt) I3.sz (λx c e z=>?_) (λp hp z=>?_) q'
  ·obtain⟨v,o,ho,_⟩:=I3.cell x c e;exact absurd (Bb ho)<|by rw [z];exact Cd _
  ·exact absurd (Bb (I3.pin p hp).1)<|by rw [z];exact Cd _
 have N5:∀ b∈fp,bT X' [] (upd H2 s2.heap.objs.size<|u0 s2.heap.objs.size) b:=stat λb hb=>(f3 b hb).1.1;have q1:kH X' tg ifs (inner (.ref s2.heap.objs.size) X'.env) J (λ_ H'=>Q (.ref s2.heap.objs.size) H') (σ++List.replicate n none) (upd H2 s2.heap.objs.size<|u0 s2.heap.objs.size):=by
  rw [eE,<- hX];exact q0 _ _ _ _ _
 have T':Turn X'.prog X'.w X'.K tg J fp it tn:=by rw [eP,ew,eK];exact T
 have fin2:=NY (s:={s3 with heap:=h₁,toks:=s3.toks}) A2 ec (hC (.ref s2.heap.objs.size) X'.env) (I4 s3.toks) T' (T.keep 0 _ _ aY λb _ o e=>old b o<|xI b o e) N5 q1 (R:=RR (.ref s2.heap.objs.size) s3.heap.objs.size) λσ' H' s' I' a'=>fin I' a';rw [eP,ew,eA,eE] at fin2;exact fin2
def emit(elt:Expr)(acc:Value)(env:Env):Sem Unit:=do let _ <- call (.builtin "list.append") [acc,<- eval elt env]
section
variable{X:Cx}{elt tg iter:Expr}{ifs:List Expr}{scope:Scope}{pos:Pos}{σ:St}{H:Hp}{acc:Value}{env:Env}{N':List Str}{J:It}
theorem N6:Clause (.ListComp elt [⟨tg,iter,ifs,0⟩] scope pos) 0 tg iter ifs acc env (emit elt acc env):=⟨rfl,λ_=>rfl,λ_ _ _=>rfl,λ_ _=>rfl,λ_ _ _=>rfl,λ_ _=>rfl,λ_=>rfl⟩
theorem N7{D:Addr}{Q:St->Hp->Prop} (h:Ev X elt σ H λv H1=>∃ ys,H1 D=some (.lst ys)/\ys.length < sizeLine/\Q σ (upd H1 D<|.lst<|ys++[v])):qe X (emit elt (.ref D) X.env) σ H Q:=by
 refine⟨λpins s I=>?_⟩;unfold emit;refine BP<|ay (h.run pins s I) λv s1 ⟨x,H1,I1,r1,ys,hy,hz,q⟩=>?_;refine BP<|ay (CU (X:=X) _ s1 σ H1 (.ref D) [x] (.ref D) [v] (λ_ H'=>Q σ H') I1 rfl (.cons r1 .nil) ⟨_,ys,x,rfl,rfl,hy,hz,q⟩) λ_ s2 ⟨_,H2,I2,_,q2⟩=>BX ⟨σ,H2,I2,q2⟩
theorem Eg.mono{v:V}{R R':St->Hp->Prop}(h:Eg X elt v σ H R)(f:∀ σ' H',R σ' H'->R' σ' H'):Eg X elt v σ H R':=⟨λpins s u I r=>ay (h.run pins s u I r) λ_ _ ⟨σ',H',I',q⟩=>⟨σ',H',I',f _ _ q⟩⟩
theorem Ei.mono{T T':Bool->Hp->Prop}(h:Ei X ifs σ H T)(f:∀ b H',T b H'->T' b H'):Ei X ifs σ H T':=⟨λpins s I=>ay (h.run pins s I) λ_ _ ⟨H',I',q⟩=>⟨H',I',f _ _ q⟩⟩
theorem N8{D:Addr}{after:Hp->Prop}(h:jJ X N' scope tg ifs elt J D after σ H)(cl:List<|Str×Addr)(C:Addr)(s₀:Shared)(H₀:Hp)(ex:List Addr):kH (f9 X N' scope cl C s₀ H₀ ex) tg ifs (emit elt (.ref D)<|compEnvC scope cl C X.env) J (λ_ H'=>after H') σ H:=by
 obtain⟨W,w0,t⟩:=h;refine⟨W,w0,λi m σ' H' w=>(t i m σ' H' w).imp id λ⟨g,N,hN,st⟩=>⟨g,N,hN,λx H2 y=>(st x H2 y cl C s₀ H₀ ex).mono λσ2 H3 h3=>(h3 cl C s₀ H₀ ex).mono λb H4 h4=>?_⟩⟩;cases b with
 | true=>
  rw [BK rfl] at h4 ⊢;exact N7 (X:=f9 X N' scope cl C s₀ H₀ ex)<|h4 cl C s₀ H₀ ex
 | false=>
  rw [BJ Aw] at h4 ⊢;exact h4
theorem D6{n:Nat}{pins:List (Addr×Obj)}{H2:Hp}{s2:Shared}{E:Value->Shared->Prop}{RR:Value->Addr->Result->Shared->Prop}{it:Addr}{fp:List Addr}{tn:Nat->Heap->Prop}{Q:VK}
  (hc:X.calm=true) (ck:bz X.env.scope scope X.N N') (hl:N'.length=X.N.length+n) (I2:Inv X pins σ H2 s2) (T:Turn X.prog X.w X.K tg J fp it tn) (aY:tn 0 s2.heap) (f2:∀ b∈fp,bT X pins H2 b)
  (q:∀ D,H2 D=none->jJ X N' scope tg ifs elt J D (λH'=>Q (.ref D) H') (σ++List.replicate n none) (upd H2 D<|.lst []))
  (xH:∀ D C H' s' m,Inv X pins σ H' s'->s'.heap.Ns C m->H' C=none->C≠X.env.locals->X.s₀.heap.objs.size<=C->(∀ x c,X.env.cells.lookup x=some c->c≠C)->(∀ p∈X.pn++pins,p.1≠C)->Q (.ref D) H'->RR (.ref D) C (.ok .next) s') :
  wpAny (model X.prog X.w) X.A (newList []) (λacc s₃=>wpAny (model X.prog X.w) X.A (newFunctionEnv scope X.env.globals (bV scope.names X.env.cells []) [] X.env.qual none .none<|some X.env) (λiK s₄=>
   codeAny (model X.prog X.w) X.A (.compStart (.ListComp elt [⟨tg,iter,ifs,0⟩] scope pos) 0 (.ref it) acc {iK with scope:=relabel scope X.env}) (RR acc iK.locals) s₄) E s₃) E s2:=
 xF (newAcc:=newList []) (o0:={cls:= .type "list",dict:=none,data:= .seq ([]:List Value).toArray}) (u0:=λ_=> .lst []) (λ_ _ _ h=>HN h<|by show(0:Nat)<=sizeLine;exact Bw _) (λ_ _ _=>⟨Bw _,[],0,.nil,Bt _ rfl⟩) hc ck hl (λ_ _=>N6) I2 T aY f2 (λD hD=>N8<|q D hD) xH
end
section
variable{X:Cx}{elt tg iter c:Expr}{ifs:List Expr}{scope:Scope}{pos p:Pos}{wi:TI}{σ:St}{H:Hp}{Q:VK}{T:Bool->Hp->Prop}{rest:List Stmt}{D:Ends}
theorem gq(h:T true H):Ei X [] σ H T:=⟨λpins s I=>Nn pins s σ H T I h⟩
theorem iL(sc:Scope)(N N':List Str)(n:Nat)(hi:PI X tg iter wi)
  (h:wi σ H λJ H1=>∀ D,H1 D=none->jJ X N' scope tg ifs elt J D (λH'=>Q (.ref D) H') (σ++List.replicate n none) (upd H1 D<|.lst []))
  (hc:X.calm=true:=by rfl) (mG:X.env.scope=sc:=by rfl) (hN:X.N=N:=by rfl) (hk:og sc scope N N'=true:=by decide +kernel) (hl:N'.length=N.length+n:=by rfl)
  (hs:∀ x,foldedSetIterable iter X.env x=pure x:=by intro _;rfl):Ev X (.ListComp elt [⟨tg,iter,ifs,0⟩] scope pos) σ H Q:=by
 refine⟨λpins s I=>?_⟩;subst mG hN;have ck:=bz.of hk;rw [eval_ListComp];refine EY (use:=none) rfl hs (uh λx hx hf=>I.ok.has x.1<|ck.free x hx hf) ck.kind ck.names (ay (hi pins s σ H _ I h) λv s1 h1=>ay h1 λnU s2 h2=>?_);obtain⟨it,fp,tn,J,H2,e,I2,T,aY,f2,q⟩:=h2;subst e;refine D6 (RR:=λacc C=>compPost (model X.prog X.w) X.A X.xe none (EP X pins σ Q) acc C) hc ck hl I2 T aY f2 q ?_;intro D C H' s' m IX hn hC c1 c2 c3 c4 qq;exact⟨m,hn,λh' d6=>⟨.ref D,H',IX.turned (t':=s'.toks) (λb o hb e=>d6.extBut b o hb e) hC (Ne.symm<|Ne.symm c1) (.inr c2) c3 c4,rfl,qq⟩⟩
theorem D8(i:Nat){y:Str}{py qf:Pos}(sc:Scope)(N N':List Str)(n:Nat)(jL:X.N.Nodup)(hi:PI X tg iter wi)
  (h:wi σ H λJ H1=>∀ A,H1 A=none->jJ X N' scope tg ifs elt J A (λH'=>Run X rest D (σ.set i<|some<|.ref A) H') (σ++List.replicate n none) (upd H1 A<|.lst []))
  (N9:X.N[i]?=some y:=by rfl) (hy:Loc X.env.scope y:=by first | exact Or.inl rfl | exact Or.inr rfl)
  (Oa:swapsWith (.ListComp elt [⟨tg,iter,ifs,0⟩] scope pos) (some<|.Name y py) qf.line X.env=pure true:=by rfl)
  (hc:X.calm=true:=by rfl) (mG:X.env.scope=sc:=by rfl) (hN:X.N=N:=by rfl) (hk:og sc scope N N'=true:=by decide +kernel) (hl:N'.length=N.length+n:=by rfl)
  (hs:∀ x,foldedSetIterable iter X.env x=pure x:=by intro _;rfl) (hf:X.fn y=true\/X.env.scope.names.lookup y=some .local:=by first | exact .inl rfl | exact .inr rfl | assumption) :
  Run X (.Assign [.Name y py] (.ListComp elt [⟨tg,iter,ifs,0⟩] scope pos) qf :: rest) D σ H:=by
 refine gM (t:=λD' σ H=>wi σ H λJ H1=>∀ A,H1 A=none->jJ X N' scope tg ifs elt J A (λH'=>D'.nx (σ.set i<|some<|.ref A) H') (σ++List.replicate n none) (upd H1 A<|.lst [])) ?_ h;intro pins s σ H D I h;subst mG hN;have ck:=bz.of hk;rw [exec_Assign_Name_used _ _ _ _ Oa];refine BP<|DR<|BP ?_;show wpAny _ X.A (do let _ <- comprehension (.ListComp elt [⟨tg,iter,ifs,0⟩] scope pos) scope X.env _ (newList []) false (eval iter X.env)<|some<|assign (.Name y py) X.env) _ _ s;refine BP<|CP (EY (use:=some<|assign (.Name y py) X.env) (Q:=λ_ s'=>SP X pins D .next s') rfl hs (uh λx hx hf=>I.ok.has x.1<|ck.free x hx hf) ck.kind ck.names
  (ay (hi pins s σ H _ I h) λv s1 h1=>ay h1 λnU s2 h2=>?_)) (λ_ s' hq=>BX<|BX hq) λ_ _ e=>e
 obtain⟨it,fp,tn,J,H2,e,I2,T,aY,f2,q⟩:=h2;subst e;refine D6 (Q:=λx H1=>D.nx (σ.set i<|some x) H1) (RR:=λacc C=>compPost (model X.prog X.w) X.A X.xe (some<|assign (.Name y py) X.env) (λ_ s'=>SP X pins D .next s') acc C) hc ck hl I2 T aY f2 q ?_;intro D' C H' s' m IX hn hC c1 c2 c3 c4 qq;show wpAny _ X.A (assign (.Name y py) X.env<|.ref D') _ _ _;refine wpAny_assign_Name<|A3 IX jL N9 hy (v:= .ref D') rfl (λpH Ob uw=>?_) hf;obtain⟨a,uw,ha⟩:=uw;have Oc:C≠a:=by
  rcases ha with ha | ha
  ·rw [ha];exact c1
  ·exact Ne.symm<|c3 _ _ ha
 refine⟨m,hn.sameBut uw Oc,λh' d6=>⟨_,H',Ob.turned (t':=pH.toks) (λb o hb e=>d6.extBut b o hb e) hC c1 (.inr c2) c3 c4,qq⟩⟩
end
structure aN(P:Program)(w:World)(K:PySem.W.Frag)(mg:Str->Option Value)(base:Heap)(k:Nat)(x:Str)(ps:List Str)(sp:Sp):Prop where
 ex:∃ f fd,aA P w K mg base bP k f fd ps sp/\Binds K fd ps []/\PySem.W.keepIn K (.ref f)=true/\mg x=some (.ref f)
theorem aN.mono{P:Program}{w:World}{K:PySem.W.Frag}{mg:Str->Option Value}{base:Heap}{j k:Nat}{x:Str}{ps:List Str}{sp:Sp}(h:aN P w K mg base j x ps sp)(le:j<=k):aN P w K mg base k x ps sp:=
 let ⟨f,fd,F,r⟩:=h.ex;⟨f,fd,F.mono le,r⟩
theorem dF{X:Cx}{k:Nat}{ps:List Str}{sp:Sp}{x:Str}{e:Expr}{es:List Expr}{σ:St}{H:Hp}{Q:VK}{p pos:Pos}(G:aN X.prog X.w X.K X.mg X.base k x ps sp)(hr:aL k X.A)
  (h:Ea X (e :: es) σ H λvs H1=>sp vs H1 Q E0) (hg:Gl X x:=by rfl) (bY:(x == ("__debug__" : Str))=false:=by decide) (hs:noStar (e :: es)=true:=by rfl):Ev X (.Call (.Name x p) (e :: es) [] pos) σ H Q:=
 let ⟨_,_,F,b,kp,m⟩:=G.ex;DL F hr m kp b MZ h hg bY hs
theorem _root_.L2.aL.qg{k:Nat}{A:Around}(hr:aL k A):A.units+100 < cLine:=by have:=hr.un;omega
theorem _root_.L2.aL.u1{k:Nat}{A:Around}(hr:aL k A):A.units+1 < cLine:=by have:=hr.un;omega
def Df(K:PySem.W.Frag)(x:Str)(st:Stmt):Prop:=∃(f:Addr) (fd:FuncData),PySem.W.nsIn K mainGlobals x=some (some<|.ref f)/\bL K x x st f fd
theorem qh{K:PySem.W.Frag}{x:Str}{st:Stmt}{f:Addr}{oc kV doc pm a7 ct:Value}{od an:Option Addr}{sl:Array (Option Value)}(a:PySem.W.nsIn K mainGlobals x=some (some<|.ref f))
  (l:K.lookup f=some ⟨oc,od,.func<|PySem.W.fnOf x x (kD st) (fI st) (aR st) .none kV doc pm an a7 ct,sl⟩) (c:PySem.W.codeIn K a7 x=true) (k:PySem.W.keepIn K (.ref f)=true):Df K x st:=⟨f,_,a,M0 l c k⟩
structure qi where
 f:Addr
 a7:Value
 A:Around
 outer:List Env
 s:Shared
 H:Hp
 E:XK
def D9(N:List Str)(qual:Str)(scope:Scope)(P:Program)(w:World)(K:PySem.W.Frag)(mg:Str->Option Value)(base:Heap)(b:qi):Cx:=(dH bP P w K mg base N qual scope b.f b.a7 b.A b.outer b.s b.H b.E).jB
def En(Q:VK):Ends:={nx:=λ_ H'=>Q .non H',rt:=Q}
theorem bL.gb{P:Program}{w:World}{K:PySem.W.Frag}{mg:Str->Option Value}{base:Heap}{x qual:Str}{st:Stmt}{f:Addr}{fd:FuncData}{N ps:List Str}{k:Nat}{sp:Sp}(F:bL K x qual st f fd)(S:au N ps<|aR st)(len:∀ vs H Q E,sp vs H Q E->vs.length=ps.length)
  (cf:∀(b:qi) (H:Hp) (vs:List V) (Q:VK) (E:XK),aL k (b.A.deeper<|envOfC qual (aR st) b.s.heap.objs.size b.f b.a7)->sp vs H Q E->Run (D9 N qual (aR st) P w K mg base b) (fI st) (En Q) (start N vs) H):aA P w K mg base bP (k+1) f fd ps sp:=
 F.go S len λa7 A outer s H vs Q E hr fv=>cf ⟨f,a7,A,outer,s,H,E⟩ H vs Q E hr fv
theorem oj{us:List Value}{k:Nat}(h:us.length=k+1):∃ a r,us=a :: r/\r.length=k:=by
 cases us with
 | nil=>cases h
 | cons a r=>exact⟨a,r,rfl,Nat.succ.inj h⟩
theorem kI{fd:FuncData}{ps:List Str}(f:∀ a:Value,bindArgs fd ⟨[a],[]⟩=pure (ps.zip [a])):∀ us:List Value,us.length=1->bindArgs fd ⟨us,[]⟩=pure (ps.zip us):=λus h=>by
 obtain⟨a,r0,e0,h0⟩:=oj h;have z:=Ck.mp h0;subst z e0;exact f a
theorem mH{fd:FuncData}{ps:List Str}(f:∀ a b:Value,bindArgs fd ⟨[a,b],[]⟩=pure (ps.zip [a,b])):∀ us:List Value,us.length=2->bindArgs fd ⟨us,[]⟩=pure (ps.zip us):=λus h=>by
 obtain⟨a,r0,e0,h0⟩:=oj h;obtain⟨b,r1,e1,h1⟩:=oj h0;have z:=Ck.mp h1;subst z e1 e0;exact f a b
theorem EA{fd:FuncData}{ps:List Str}(f:∀ a b c:Value,bindArgs fd ⟨[a,b,c],[]⟩=pure (ps.zip [a,b,c])):∀ us:List Value,us.length=3->bindArgs fd ⟨us,[]⟩=pure (ps.zip us):=λus h=>by
 obtain⟨a,r0,e0,h0⟩:=oj h;obtain⟨b,r1,e1,h1⟩:=oj h0;obtain⟨c,r2,e2,h2⟩:=oj h1;have z:=Ck.mp h2;subst z e2 e1 e0;exact f a b c
theorem Df.has{P:Program}{w:World}{K:PySem.W.Frag}{mg:Str->Option Value}{h base:Heap}{k:Nat}{x:Str}{st:Stmt}{ps:List Str}{sp:Sp}(d:Df K x st)(X:K.In h)(G:h.Ns mainGlobals mg)
  (hb:∀(kV doc pm:Value) (an:Option Addr) (a7 ct:Value) (us:List Value),us.length=ps.length->bindArgs (PySem.W.fnOf x x (kD st) (fI st) (aR st) .none kV doc pm an a7 ct) ⟨us,[]⟩=pure (ps.zip us))
  (ok:∀{f:Addr} {fd:FuncData},bL K x x st f fd->aA P w K mg base bP k f fd ps sp):aN P w K mg base k x ps sp:=
 let ⟨f,fd,a,F⟩:=d;⟨f,fd,ok F,F.binds hb,F.kp,FW X G a⟩
theorem Df.law{P:Program}{w:World}{K:PySem.W.Frag}{mg:Str->Option Value}{h:Heap}{k:Nat}{x y:Str}{st:Stmt}{sp:Sp}{fa:Addr}(d:Df K x st)(X:K.In h)(G:h.Ns mainGlobals mg)(ol:mg x=some (.ref fa))
  (hb:∀(kV doc pm:Value) (an:Option Addr) (a7 ct:Value) (s:Shared) (v:Value),BindsTo s (PySem.W.fnOf x x (kD st) (fI st) (aR st) .none kV doc pm an a7 ct) ⟨[v],[]⟩ [(y,v)])
  (ok:∀(base:Heap) {f:Addr} {fd:FuncData},bL K x x st f fd->aA P w K mg base bP k f fd [y] sp) :
  ∃ fd:FuncData,(∀(s:Shared) (v:Value),BindsTo s fd ⟨[v],[]⟩ [(y,v)])/\∀ base:Heap,K.In base->base.Ns mainGlobals mg->aA P w K mg base bP k fa fd [y] sp:=by
 obtain⟨f,fd,a,F⟩:=d;have e:=ol.symm.trans<|FW X G a;cases e;obtain⟨oc,od,kV,doc,pm,an,a7,ct,iF,rfl,lk,fW⟩:=id F.ex;exact⟨_,hb kV doc pm an a7 ct,λbase _ _=>ok base F⟩
end L2
namespace bZ
open PySem
section
variable(prog:Program)(w:World)
end
section
variable{prog:Program}{w:World}{es:Array (Int×Value)}{t:SetTable}{zs:List Str}{h h':Heap}{a:Addr}
end
section
variable{prog:Program}{w:World}{A:Around}{E:Value->Shared->Prop}{s:Shared}{a:Addr}{zs:List Str}
theorem Od{n:Nat}(h:n < 1001):n<=sizeLine:=by rw [DY];omega
end
section
variable{prog:Program}{w:World}{A:Around}{E:Value->Shared->Prop}{s:Shared}{a:Addr}{zs:List Str}
variable{o:Obj}{es:Array (Int×Value)}{ep:Nat}{t:SetTable}
end
open Builtin.Frozenset
section
variable{prog:Program}{w:World}{A:Around}{E:Value->Shared->Prop}{s:Shared}{a:Addr}{zs:List Str}
variable{o:Obj}{ep:Nat}{t:SetTable}
end
section
variable{prog:Program}{w:World}{A:Around}{E:Value->Shared->Prop}{s:Shared}{a r:Addr}{za zr:List Str}
end
section
variable{prog:Program}{w:World}{A:Around}{E:Value->Shared->Prop}{s:Shared}
variable{R:Result->Shared->Prop}{I:Addr}{fp wr:List Addr}{G:Array GenState->Array GenState->Prop}{n:Nat}{P:Nat->Value->Prop}{St:Nat->Shared->Prop}
end
section
variable{prog:Program}{w:World}{A:Around}{E:Value->Shared->Prop}{s:Shared}{a tp it:Addr}{zs:List Str}{o:Obj}{es:Array (Int×Value)}{ep:Nat}{t:SetTable}{ws:List (Int×Value)}{i:Nat}{first:Value}
open PySem.Spec
end
end bZ
namespace bZ
open PySem PySem.Spec PyProof.Rows
theorem Oe(a b:List Nat):ltCps a b=decide (a < b):=ltCps_eq a b
theorem dv:∀(l:List Str) (p:Str),risingS p l=true->∀ x∈l,p.cps.toList<=x.cps.toList
 | [],_,_,x,hx=>by cases hx
 | y :: r,p,h,x,hx=>by
  unfold risingS at h;rw [Cg,Bool.not_eq_true',Oe,decide_eq_false_iff_not] at h;have h1:p.cps.toList<=y.cps.toList:=h.1
  rcases Am.mp hx with rfl | hx
  ·exact h1
  ·exact List.le_trans h1<|dv r y h.2 x hx
theorem dJ{p:Str}:∀{l:List Str},risingS p l=true->sortedS l=true
 | [],_=>rfl
 | y :: r,h=>by
  unfold risingS at h;rw [Cg] at h;exact h.2
theorem gu{a b:Str}(h:a.cps.toList=b.cps.toList):a=b:=by
 cases a;cases b;simp only at h;have:=Fq.mp h;rw [this]
section
variable{prog:Program}{w:World}{A:Around}{E:Value->Shared->Prop}{s:Shared}{a:Addr}{zs:List Str}
end
end bZ
namespace L2
open PySem PySem.Spec PyProof.Rows bZ
section
variable{X:Cx}{pins:List (Addr×Obj)}{σ:St}{H:Hp}{s s':Shared}{a:Addr}{zs:List Str}
theorem Inv.like(I:Inv X pins σ H s)(e1:s'.heap=s.heap)(e2:s'.gens=s.gens)(e3:s'.os=s.os):Inv X pins σ H s':=by
 obtain⟨h,g,d,t,o⟩:=s;obtain⟨h',g',d',t',o'⟩:=s';simp only at e1 e2 e3;subst e1 e2 e3;exact⟨I.ok,I.os,I.bare,I.base,I.loc,I.cell,I.free,I.aM,I.pin,I.aw,I.len⟩
theorem Inv.iM{o:HO}(I:Inv X pins σ H s)(k:∀ b u,s.heap.get? b=some u->s'.heap.get? b=some u)(e2:s'.gens=s.gens)(e3:s'.os=s.os)(hp:s.heap.objs.size<=a)(new:aq X.prog X.w (upd H a o) s'.heap a o):Inv X pins σ (upd H a o) s':=
 (I.laid (t':=s.toks) k hp new).like (s':=s') rfl e2 e3
theorem EB:∀{zs:List Str} {us:List Value},aj (zs.map V.str) us->StrsAre us zs
 | [],_,.nil=> .nil
 | z :: r,_,.cons q qs=>by
  obtain⟨t,rfl⟩:=q;exact .cons z t<|EB qs
theorem EC:∀{us:List Value} {zs:List Str},StrsAre us zs->aj (zs.map V.str) us
 | _,_,.nil=> .nil
 | _,_,.cons z t q=> .cons ⟨t,rfl⟩<|EC q
theorem Og:fF X (.builtin "sorted") (λxs H Q=>∃ p zs,xs=[.ref p]/\av X.K H p (zs.map V.str)/\zs.length < 64/\∀ l ss,H l=none->ss.Perm zs->sortedS ss=true->Q (.ref l) (upd H l<|.lst<|ss.map V.str)):=by
 intro pins s σ H xs us Q I r h;obtain⟨p,zs,rfl,hp,hl,q⟩:=h;obtain⟨u,rfl,ru⟩:=vals1 r;cases (show u=Value.ref p from ru);obtain⟨its,rv,pl,hz⟩:=I.list hp;have e1:=rv.length;rw [Ab] at e1;refine PyProof.Rows.sorted_strs pl.isList (EB rv) (by omega) λout ss hS ux xJ=>?_;obtain⟨e,he⟩:=sortedAll_at s.heap its out;have hlen:ss.length<=sizeLine:=by rw [ux.length_eq];exact Od<|by omega
 refine⟨.ref _,_,I.iM (s':={s with heap:=sortedAll s.heap its out}) (λb u hb=>sortedAll_old hb) rfl rfl (Gb _) (show aq X.prog X.w _ _ _ (.lst<|ss.map V.str) from⟨by rw [Ab];exact hlen,out.toList,e,EC hS,he⟩),rfl,q _ ss (I.aw.fresh<|Gb _) ux xJ⟩
end
end L2
namespace L2
open PySem PySem.Spec PyProof.Rows
section
variable{X:Cx}{o e:Expr}{σ:St}{H:Hp}{Q:VK}{ap cp:Pos}
theorem om (h:Ev X o σ H λx H1=>∃ l,x = .ref l/\(∃ xs,H1 l=some (.lst xs))/\Ev X e σ H1 λy H2=>∃ xs,H2 l=some (.lst xs)/\xs.length < sizeLine/\Q .non (upd H2 l<|.lst<|xs++[y]))
  (cq:attributeBase o "append" X.env (eval o X.env)=eval o X.env:=by rfl)
  (iH:((backTo cp<|starEach [e] X.env).all (λx=>!x.1) && (backToKw cp<|keywordEach [] X.env).all (λx=>x.1.isSome) && decide ([e].length+([]:List Keyword).length+(if([]:List Keyword).isEmpty then 0 else 1) < 30))=true:=by rfl)
  (hline:(ap.endLine == cp.line)=true:=by rfl) (hs:starEach [e] X.env=(false,eval e X.env) :: starEach [] X.env:=by rfl) (du:(backTo cp<|starEach [] X.env).any (·.1)=false:=by rfl) (cb:isStar e=false:=by rfl) :
  Ev X (.Call (.Attribute o "append" ap) [e] [] cp) σ H Q:=by
 refine cW (CO HJ PySem.F.slot_list_append PySem.F.type_list_append CU aZ (gg (es:=[e])) cq iH hline hs du)<|h.mono λx H1 ⟨l,ex,⟨xs,hl⟩,h2⟩=>?_;subst ex;refine⟨.inl ⟨rfl,xs,av.of hl⟩,?_⟩;exact ai (h2.mono λy H2 ⟨ys,hy,hz,q⟩=>aC ⟨l,ys,y,rfl,rfl,hy,hz,q⟩) cb
end
section
variable{X:Cx}{c:Expr}{body mw rest:List Stmt}{D:Ends}{σ:St}{H:Hp}{pos:Pos}
theorem Run.nx{M M':St->Hp->Prop}{l:List Stmt}(h:Run X l {D with nx:=M} σ H)(f:∀ σ' H',M σ' H'->M' σ' H'):Run X l {D with nx:=M'} σ H:=
 ⟨λpins s I => ay (h.run pins s I) λfl s' q => by
  cases fl with
  | next=>
   obtain⟨σ',H',I',m⟩:=q;exact⟨σ',H',I',f σ' H' m⟩
  | _=>exact q⟩
theorem xK(φ ψ:Prop)(M:St->Hp->Prop)(hc:∀ T:Bool->Hp->Prop,(∀ k:Bool,(k=true->φ)->(k=false->ψ)->T k H)->Et X c σ H T)(ht:φ->Run X body {D with nx:=M} σ H)(hu:ψ->Run X mw {D with nx:=M} σ H)
  (hr:∀ σ' H',M σ' H'->Run X rest D σ' H'):Run X (.If c body mw pos :: rest) D σ H:=
 DS φ ψ hc (λp=>(ht p).nx hr) (λp=>(hu p).nx hr)
end
def oo(X:Cx)(H:Hp)(k:Nat)(x y:V)(b:Bool):Prop:=∀(pins:List<|Addr×Obj) (σ:St) (s:Shared) (A:Around) (u v:Value),Inv X pins σ H s->A.units+k < cLine->RelV x u->RelV y v->SeqAt.EqAt A s u v b
def oq(X:Cx)(H:Hp)(k:Nat)(x y:V)(b:Bool):Prop:=∀(pins:List<|Addr×Obj) (σ:St) (s:Shared) (A:Around) (u v:Value),Inv X pins σ H s->A.units+k < cLine->RelV x u->RelV y v->SeqAt.RcAt A s u v b
section
variable{X:Cx}{H:Hp}{k:Nat}{a b:Addr}{xs ys:List V}
theorem Oh{x y:V}(fx:ua x=true)(fy:ua y=true):oo X H k x y (wF x y):=λ_ _ _ _ _ _ _ _ rx ry=>Mz rx ry fx fy
theorem Oi:oo X H k (.ref a) (.ref a) true:=λ_ _ _ _ u v _ _ rx ry=>by
 cases rx;cases ry;exact SeqAt.EqAt.same _
theorem Oj(bf:a≠b){c:Bool}(h:oq X H k (.ref a) (.ref b) c):oo X H k (.ref a) (.ref b) c:=λpins σ s A u v I hu rx ry=>by
 cases rx;cases ry;exact SeqAt.EqAt.of_refs bf<|h pins σ s A _ _ I hu rfl rfl
theorem ED{us:List Value}(r:aj xs us){j:Nat}(h:j < us.length):∃ x,xs[j]?=some x/\RelV x us[j]:=by
 have hl:=r.length;have hj:j < xs.length:=by omega
 obtain⟨u,e,q⟩:=r.get<|Aa hj;rw [Aa h] at e;cases e;exact⟨_,Aa hj,q⟩
theorem EE(e:Nat->Bool)(ha:av X.K H a xs)(hb:av X.K H b ys)(hl:xs.length=ys.length)(he:∀ j x y,xs[j]?=some x->ys[j]?=some y->oo X H k x y (e j)):oq X H (k+1) (.ref a) (.ref b) ((List.range xs.length).all e):=λpins σ s A u v I hu rx ry=>by
 cases rx;cases ry;obtain⟨i1,r1,p1,_⟩:=I.list ha;obtain⟨i2,r2,p2,_⟩:=I.list hb;have l1:=r1.length;have l2:=r2.length;have q:=SeqAt.RcAt.lists (A:=A) (e:=e) p1.isList p2.isList (by simp;omega) (by omega) λj h1 h2=>by
  obtain⟨x,ex,qx⟩:=ED r1 (j:=j) (by simpa using h1);obtain⟨y,ey,qy⟩:=ED r2 (j:=j) (by simpa using h2);exact he j x y ex ey pins σ s A.in1 _ _ I (by show A.units+1+k < cLine;omega) (by simpa using qx)<|by simpa using qy
 rw [Av,<- l1] at q;exact q
theorem EF(n:Nat):(List.range n).all (λ_=>true)=true:=by simp
theorem Ol(hu:X.A.units+100 < cLine):db X (compareOp .Eq) (λx y H Q=>∃ k c,k<=100/\oq X H k x y c/\Q (.bl c) H):=by
 intro pins s σ H x y v u Q I rx ry h;obtain⟨k,c,hk,hc,q⟩:=h;exact hc pins σ s X.A v u I (by omega) rx ry X.prog X.w X.xe _ ⟨.bl c,H,I,rfl,q⟩
end
section
variable{X:Cx}{o e f c:Expr}{σ:St}{H:Hp}{Q:VK}{T:Bool->Hp->Prop}{ap cp pos:Pos}{body rest:List Stmt}{D:Ends}
theorem Om{name:Str}{Ty id:String}{r:V->List V->Hp->VK->Prop}(pa:PlainAttrs Ty)(slot:Slot Ty name id)(l9:typeOf (.builtin id)=pure (.type "method_descriptor"))(hm:t8 X id r)
  (h:Ev X o σ H λx H1=>pM X.K Ty x H1/\r x [] H1 Q) (cq:attributeBase o name X.env (eval o X.env)=eval o X.env:=by rfl) (hline:(ap.endLine == cp.line)=true:=by rfl):Ev X (.Call (.Attribute o name ap) [] [] cp) σ H Q:=
 cW (MB pa slot l9 hm aZ cq hline) h
theorem Oo{name:Str}{Ty id:String}{r:V->List V->Hp->VK->Prop}(pa:PlainAttrs Ty)(slot:Slot Ty name id)(l9:typeOf (.builtin id)=pure (.type "method_descriptor"))(hm:t8 X id r)
  (h:Ev X o σ H λx H1=>pM X.K Ty x H1/\Ev X e σ H1 λy H2=>r x [y] H2 Q) (cq:attributeBase o name X.env (eval o X.env)=eval o X.env:=by rfl)
  (iH:((backTo cp<|starEach [e] X.env).all (λx=>!x.1) && (backToKw cp<|keywordEach [] X.env).all (λx=>x.1.isSome) && decide ([e].length+([]:List Keyword).length+(if([]:List Keyword).isEmpty then 0 else 1) < 30))=true:=by rfl)
  (hline:(ap.endLine == cp.line)=true:=by rfl) (hs:starEach [e] X.env=(false,eval e X.env) :: starEach [] X.env:=by rfl) (du:(backTo cp<|starEach [] X.env).any (·.1)=false:=by rfl) (cb:isStar e=false:=by rfl):Ev X (.Call (.Attribute o name ap) [e] [] cp) σ H Q:=
 cW (CO pa slot l9 hm aZ (gg (es:=[e])) cq iH hline hs du) (h.mono λx H1 ⟨t,h2⟩=>⟨t,ai (h2.mono λy H2 q=>aC q) cb⟩)
theorem EG(W:Nat->St->Hp->Prop){m0:Nat}(h0:W m0 σ H)
  (turn:∀ m σ H,W m σ H->Et X c σ H λb H1=>if b=true then Run X body {D with nx:=λσ' H'=>∃ m',m' < m/\W m' σ' H',ct:=λσ' H'=>∃ m',m' < m/\W m' σ' H',bk:=λσ' H'=>Run X rest D σ' H'} σ H1 else Run X rest D σ H1)
  (hp:PassesOwn (model X.prog X.w) X.A X.env X.xe:=by exact FJ):Run X (.While c body [] pos :: rest) D σ H:=by
 refine gM (Le hp pW kF) ⟨W,⟨m0,h0⟩,λm σ1 H1 w1=>(turn m σ1 H1 w1).mono λb H2 q=>?_⟩;cases b with
 | true=>
  rw [BK rfl] at q;exact⟨λσ' H'=>∃ m',m' < m/\W m' σ' H',λ_ _ h=>h,q⟩
 | false=>
  rw [BJ Aw] at q;exact q
theorem Oq(h:∀ p,H p=none->Q (.ref p) (upd H p<|.dK [])):Ev X (.Dict [] [] pos) σ H Q:=cW Nj h
theorem qj(hu:X.A.units+1 < cLine)(h:Ev X o σ H λx H1=>Ev X e σ H1 λy H2=>∃ a v,x = .ref a/\bM H2 a y (some v)/\Q v H2)(hs:mq e:=by intro _ _;rfl):Ev X (.Subscript o e pos) σ H Q:=cW (Nb hu aZ aZ hs) h
theorem uy(hu:X.A.units+1 < cLine)(h:Ev X e σ H λy H1=>Ev X o σ H1 λx H2=>∃ a r,x = .ref a/\bM H2 a y r/\T r.isSome H2)(hm:behindInMarks .In o=false:=by with_unfolding_all rfl):Et X (.Compare e [.In] [o] pos) σ H T:=
 uj (A6 (Nc hu aZ aZ) hm) (h.mono λy H1 h2=>h2.mono λx H2 ⟨a,r,h3,h4,h5⟩=>⟨a,r,h3,h4,_,rfl,h5⟩)
theorem Ot(hu:X.A.units+1 < cLine)(h:Ev X e σ H λy H1=>Ev X o σ H1 λx H2=>∃ a r,x = .ref a/\bM H2 a y r/\T (!r.isSome) H2)(hm:behindInMarks .NotIn o=false:=by with_unfolding_all rfl):Et X (.Compare e [.NotIn] [o] pos) σ H T:=
 uj (A6 (Nf hu aZ aZ) hm) (h.mono λy H1 h2=>h2.mono λx H2 ⟨a,r,h3,h4,h5⟩=>⟨a,r,h3,h4,_,rfl,h5⟩)
theorem EH{p2:Pos}(hu:X.A.units+1 < cLine)(h:Ev X f σ H λv H1=>Ev X o σ H1 λx H2=>Ev X e σ H2 λy H3=>∃ a H4,x = .ref a/\cV H3 a y v H4/\Run X rest D σ H4)(hs:swapsWith f (some<|.Subscript o e p2) pos.line X.env=pure false:=by rfl) :
  Run X (.Assign [.Subscript o e p2] f pos :: rest) D σ H:=gM (Ng hu aZ aZ aZ hs) h
end
end L2
namespace bG
open PySem PySem.Spec PyProof.Rows
section
variable{prog:Program}{w:World}{A:Around}{E:Value->Shared->Prop}{s:Shared}
end
end bG
namespace L2
open PySem PySem.Spec PyProof.Rows bG
section
variable{X:Cx}{e:Expr}{σ:St}{H:Hp}{Q:VK}{pos p kp cp:Pos}{j:Nat}
end
end L2
namespace Nt
open PySem
abbrev Net:=List<|Str×List Str
abbrev End:=Nat×Nat
def row(n:Net)(r:Nat):List Str:=((n[r]?).map (·.2)).getD []
def jM(n:Net)(e:End):Option Str:=(row n e.1)[e.2]?
def cQ(r:Nat)(ts:List Str)(p:Nat):List (Str×End):=(ts.zipIdx p).map λx=>(x.1,(r,x.2))
def fw(r:Nat):Net->List (Str×End)
 | []=>[]
 | a :: n=>cQ r a.2 0++fw (r+1) n
def dL(n:Net):List (Str×End):=fw 0 n
def ends(n:Net):List End:=(dL n).map (·.2)
def aD(n:Net):List Str:=n.flatMap (·.2)
def pos(n:Net)(z:Str):List End:=((dL n).filter λx=>decide (x.1=z)).map (·.2)
theorem cr{r:Nat}{ts:List Str}{p:Nat}{z:Str}{e:End}:(z,e)∈cQ r ts p↔e.1=r/\p<=e.2/\ts[e.2 - p]?=some z:=by
 unfold cQ;rw [Ak]
 constructor
 ·rintro ⟨⟨y,k⟩,hm,he⟩;cases he;have:=Fn.mp hm;exact⟨rfl,this.1,this.2⟩
 ·rintro ⟨h1,h2,h3⟩;refine⟨(z,e.2),Fn.mpr ⟨h2,h3⟩,?_⟩;rw [<- h1]
theorem bp:∀{n:Net} {k:Nat} {z:Str} {e:End},(z,e)∈fw k n↔k<=e.1/\(row n<|e.1 - k)[e.2]?=some z
 | [],k,z,e=>by
  constructor
  ·intro h;cases h
  ·rintro ⟨_,h⟩;simp [row] at h
 | a :: n,k,z,e=>by
  unfold fw;rw [An,cr,bp]
  constructor
  ·rintro (⟨h1,_,h3⟩ | ⟨h1,h2⟩)
   ·refine⟨by omega,?_⟩;rw [show e.1 - k=0 by omega]
    simpa [row] using h3
   ·refine⟨by omega,?_⟩;rw [show e.1 - k=(e.1 - (k+1))+1 by omega]
    simpa [row] using h2
  ·rintro ⟨h1,h2⟩
   rcases Nat.lt_or_ge k e.1 with h | h
   ·refine .inr ⟨h,?_⟩;rw [show e.1 - k=(e.1 - (k+1))+1 by omega] at h2
    simpa [row] using h2
   ·refine .inl ⟨by omega,Bw _,?_⟩;rw [show e.1 - k=0 by omega] at h2
    simpa [row] using h2
theorem cJ{n:Net}{z:Str}{e:End}:(z,e)∈dL n↔jM n e=some z:=by
 unfold dL jM;rw [bp];simp
theorem cu{n:Net}{z:Str}{e:End}:e∈pos n z↔jM n e=some z:=by
 unfold pos;rw [Ak]
 constructor
 ·rintro ⟨⟨y,e'⟩,h,rfl⟩;rw [Fa,decide_eq_true_eq] at h;obtain⟨h1,h2⟩:=h;subst h2;exact cJ.mp h1
 ·intro h;exact⟨(z,e),Fa.mpr ⟨cJ.mpr h,by simp⟩,rfl⟩
theorem Ou(r:Nat):∀(ts:List Str) (p:Nat),(cQ r ts p).map (·.1)=ts:=by
 intro ts p;unfold cQ;rw [Be];have:((λx:Str×End=>x.1) ∘ λx:Str×Nat=>(x.1,(r,x.2)))=Prod.fst:=rfl;rw [this,List.zipIdx_map_fst]
theorem uz:∀(n:Net) (k:Nat),(fw k n).map (·.1)=aD n
 | [],_=>rfl
 | a :: n,k=>by
  unfold fw aD;rw [Ai,Ou,uz n<|k+1,List.flatMap_cons];rfl
theorem Ov(r:Nat)(ts:List Str)(p:Nat):((cQ r ts p).map (·.2)).Nodup:=by
 unfold cQ;rw [Be];have e:((λx:Str×End=>x.2) ∘ λx:Str×Nat=>(x.1,(r,x.2)))=(λk:Nat=>(r,k)) ∘ Prod.snd:=rfl;rw [e,<- Be,List.zipIdx_map_snd];refine List.Pairwise.map _ (R:=(·≠·)) ?_ List.nodup_range';intro a b h dw;exact h (Prod.mk.inj dw).2
theorem EI:∀(n:Net) (k:Nat),((fw k n).map (·.2)).Nodup
 | [],_=>El
 | a :: n,k=>by
  unfold fw;rw [Ai,Da];refine⟨Ov _ _ _,EI n<|k+1,?_⟩;intro x hx y hy e;subst e;obtain⟨⟨z,e1⟩,h1,rfl⟩:=Ak.mp hx;obtain⟨⟨z2,e2⟩,h2,he⟩:=Ak.mp hy;simp only at he;subst he;have q1:=(cr.mp h1).1;have q2:=(bp.mp h2).1;omega
theorem Ow(n:Net):(ends n).Nodup:=EI n 0
theorem Ox(n:Net)(z:Str):(pos n z).Nodup:=by
 unfold pos;exact(Ow n).sublist<|List.Sublist.map _<|List.filter_sublist
theorem qk(n:Net)(z:Str):(pos n z).length=(aD n).count z:=by
 unfold pos;rw [Ab,<- uz n 0,<- List.countP_eq_length_filter,List.count,List.countP_map];rfl
def eJ(n:Net):Prop:=∀ z∈aD n,(aD n).count z=2
theorem xL{n:Net}{e:End}{z:Str}(h:jM n e=some z):z∈aD n:=by
 have:=cJ.mpr h;rw [<- uz n 0];exact Ak.mpr ⟨_,this,rfl⟩
theorem Oy{n:Net}(T:eJ n){e:End}{z:Str}(h:jM n e=some z):∃ a b,pos n z=[a,b]/\a≠b/\(e=a\/e=b):=by
 have hl:=qk n z;rw [T z<|xL h] at hl;have hn:=Ox n z;have hm:=cu.mpr h
 match hp:pos n z,hl with
 | [a,b],_=>
  rw [hp] at hn hm;refine⟨a,b,rfl,?_,?_⟩
  ·intro e;subst e;simp at hn
  ·simpa using hm
theorem bn{α:Type} [DecidableEq α]:∀{a b:List α},a.Nodup->(∀ z∈a,z∈b)->a.length<=b.length
 | [],b,_,_=>Bw _
 | x :: r,b,hn,hs=>by
  rw [By] at hn;have hx:=hs x Ah;have:=bn (a:=r) (b:=b.erase x) hn.2 λz hz=>by
   have bf:z≠x:=λe=>hn.1<|e ▸ hz;exact(Eh bf).mpr<|hs z<|Ar _ hz
  rw [Dc hx] at this;have hp:0 < b.length:=Es hx;rw [As];omega
open L2
abbrev Ls(zs:List Str):HO:= .lst<|zs.map V.str
structure a6(H:Hp)(R:Addr)(as:List<|Addr×Addr)(n:Net):Prop where
 len:as.length=n.length
 lst:H R=some (.lst<|as.map λa=> .ref a.1)
 tup:∀(i:Nat) a r,as[i]?=some a->n[i]?=some r->H a.1=some (.tup [.str r.1,.ref a.2])/\H a.2=some (Ls r.2)
 inj:(as.map (·.2)).Nodup
theorem a6.same{H H':Hp}{R:Addr}{as:List (Addr×Addr)}{n:Net}(h:a6 H R as n)(s:ah H H'):a6 H' R as n:=
 ⟨h.len,s _ _ h.lst,λi a r h1 h2=>⟨s _ _ (h.tup i a r h1 h2).1,s _ _ (h.tup i a r h1 h2).2⟩,h.inj⟩
theorem a6.at{H:Hp}{R:Addr}{as:List (Addr×Addr)}{n:Net}(h:a6 H R as n){i:Nat}(hi:i < n.length) :
  ∃ a,as[i]?=some a/\cU (as.map λa=>V.ref a.1) (i:Int)=some (.ref a.1)/\H a.1=some (.tup [.str n[i].1,.ref a.2])/\H a.2=some (Ls<|row n i)/\row n i=n[i].2:=by
 have hl:=h.len;have e:as[i]?=some as[i]:=Aa (by omega);have er:row n i=n[i].2:=by unfold row;rw [Aa hi];rfl
 have q:=h.tup i as[i] n[i] e<|Aa hi;refine⟨as[i],e,hG (by rw [Ad,e];rfl),q.1,?_,er⟩;rw [er];exact q.2
def fz(done:List<|Str×End)(z:Str):List End:=(done.filter λx=>decide (x.1=z)).map (·.2)
theorem jn(done:List<|Str×End)(y z:Str)(e:End):fz (done++[(y,e)]) z=fz done z++(if y=z then [e] else []):=by
 unfold fz;rw [Fz,Ai]
 congr 1
 by_cases h:y=z
 ·rw [BK h];simp [h]
 ·rw [BJ h];simp [h]
theorem xM:∀(n m:Net) (k:Nat),fw k (n++m)=fw k n++fw (k+n.length) m
 | [],m,k=>rfl
 | a :: n,m,k=>by
  show cQ k a.2 0++fw (k+1) (n++m)=(cQ k a.2 0++fw (k+1) n)++fw (k+(n.length+1)) m;rw [xM n m<|k+1,Bf,show k+1+n.length=k+(n.length+1) by omega]
theorem EJ{n:Net}{r:Nat}(h:r < n.length):dL (n.take<|r+1)=dL (n.take r)++cQ r (row n r) 0:=by
 unfold dL;rw [Bn,Aa h,xM];have e:(n.take r).length=r:=by rw [Aq];omega
 rw [e,MN];have er:row n r=n[r].2:=by unfold row;rw [Aa h];rfl
 rw [er];show _++(cQ r n[r].2 0++[])=_;rw [Bg]
theorem EK{r:Nat}{ts:List Str}{p:Nat}{z:Str}(h:ts[p]?=some z):cQ r (ts.take<|p+1) 0=cQ r (ts.take p) 0++[(z,(r,p))]:=by
 unfold cQ;have hp:=(Ac.mp h).1;rw [Bn,h,List.zipIdx_append,Ai];have e:(ts.take p).length=p:=by rw [Aq];omega
 rw [e,MN];rfl
section
variable{X:Cx}{H:Hp}{s t:Addr}{x y:End}
end
abbrev lets:Str:= "abcdefghijklmnopqrstuvwxyz0123456789"
theorem EL:lets.cps.toList.length=36:=by decide +kernel
theorem Oz:lets.cps.toList.Nodup:=by decide +kernel
def sgn(i:Int):Nat:=(cU lets.cps.toList<|i % 36).getD 0
theorem xN(i:Int):cU lets.cps.toList (i % 36)=some (sgn i):=by
 have h0:0<=i % 36:=Bz _ (by decide);have h1:i % 36 < 36:=Ch _ (by decide);have hj:(i % 36).toNat < lets.cps.toList.length:=by rw [EL];omega
 have q:=hG (xs:=lets.cps.toList) (j:=(i % 36).toNat) (v:=lets.cps.toList[(i % 36).toNat]) (by simp [hj]);rw [show(((i % 36).toNat:Nat):Int)=i % 36 by omega] at q;unfold sgn;rw [q];rfl
theorem ER{i j:Int}(h:sgn i=sgn j):i % 36=j % 36:=by
 have key:∀ k:Int,lets.cps.toList[(k % 36).toNat]?=some (sgn k):=λk=>by
  have h0:0<=k % 36:=Bz _ (by decide);have h1:k % 36 < 36:=Ch _ (by decide);have hj:(k % 36).toNat < lets.cps.toList.length:=by rw [EL];omega
  have q:=hG (xs:=lets.cps.toList) (j:=(k % 36).toNat) (v:=lets.cps.toList[(k % 36).toNat]) (by simp [hj]);rw [show(((k % 36).toNat:Nat):Int)=k % 36 by omega,xN] at q;rw [Aa hj,Option.some.inj q]
 have hi:=key i;have hj:=key j;rw [h] at hi;obtain⟨l1,e1⟩:=Ac.mp hi;obtain⟨l2,e2⟩:=Ac.mp hj;have:=(List.getElem_inj (xs:=lets.cps.toList) (h₀:=l1) (h₁:=l2) Oz).mp<|e1.trans e2.symm;have a0:0<=i % 36:=Bz _ (by decide);have b0:0<=j % 36:=Bz _ (by decide);omega
def turn(b:Int)(sp:Int)(v k:Nat):Int:=b / 64+(k:Int) * (b / 7 % 5)+(if(k:Int)=sp then(v:Int) else 0)
def nm(b sp:Int)(v:Nat):Nat->Str
 | 0=>⟨#[]⟩
 | k+1=>nm b sp v k++⟨#[sgn<|turn b sp v k]⟩
theorem app_list(x y:Str):(x++y).cps.toList=x.cps.toList++y.cps.toList:=by
 show(x.cps++y.cps).toList=_;simp
theorem uA(b sp:Int)(v:Nat):∀ k,(nm b sp v k).cps.toList=(List.range k).map λj=>sgn<|turn b sp v j
 | 0=>rfl
 | k+1=>by
  show(nm b sp v k++⟨#[sgn<|turn b sp v k]⟩).cps.toList=_;rw [app_list,uA b sp v k,Cj,Ai];rfl
theorem OA{b sp:Int}{u v k:Nat}(hu:u < 36)(hv:v < 36)(h0:0<=sp)(h1:sp < (k:Int))(h:nm b sp u k=nm b sp v k):u=v:=by
 have e:(nm b sp u k).cps.toList=(nm b sp v k).cps.toList:=by rw [h]
 rw [uA,uA] at e;have hk:sp.toNat < k:=by omega
 have q:((List.range k).map λj=>sgn<|turn b sp u j)[sp.toNat]?=((List.range k).map λj=>sgn<|turn b sp v j)[sp.toNat]?:=by rw [e]
 rw [Ad,Ad,Cr hk] at q;have q2:sgn (turn b sp u sp.toNat)=sgn (turn b sp v sp.toNat):=Option.some.inj q;have q3:=ER q2;unfold turn at q3;rw [show((sp.toNat:Nat):Int)=sp by omega,BK rfl,BK rfl] at q3;omega
theorem fold_list(c:Nat):∀(k:Nat) (acc:Array Nat),((List.replicate k (#[c]:Array Nat)).foldl (·++·) acc).toList=acc.toList++List.replicate k c
 | 0,acc=>by simp
 | k+1,acc=>by
  rw [List.replicate_succ,Go,fold_list c k,List.replicate_succ];simp
theorem mul_list(c:Nat){i:Int}(h:1<=i):(Txt.mul ⟨#[c]⟩ i).cps.toList=List.replicate i.toNat c:=by
 unfold Txt.mul;rw [BJ<|by omega]
 by_cases e:i=1
 ·subst e;rfl
 ·have e1:(i == 1 || (⟨#[c]⟩:Str).length == 0)=false:=by
   have:(i == 1)=false:=by simpa using e
   rw [this];rfl
  rw [e1];simp only [Ec,DW];have:=fold_list c i.toNat #[]
  simpa using this
def bq(b:Int)(v:Nat):Str:=if b % 3=2 then Txt.mul ⟨#[sgn<|b / 64+(v:Int) / 8]⟩ (1+(v:Int) % 8) else nm b (b / 8 % (1+b % 8)) v (1+b % 8).toNat
theorem OB{b:Int}{u v:Nat}(hu:u < 36)(hv:v < 36)(h:bq b u=bq b v):u=v:=by
 have s0:0<=b % 8:=Bz _ (by decide);unfold bq at h
 by_cases c:b % 3=2
 ·rw [BK c,BK c] at h;have u0:0<=(u:Int) % 8:=Bz _ (by decide);have v0:0<=(v:Int) % 8:=Bz _ (by decide);have e:(Txt.mul ⟨#[sgn<|b / 64+(u:Int) / 8]⟩<|1+(u:Int) % 8).cps.toList=(Txt.mul ⟨#[sgn<|b / 64+(v:Int) / 8]⟩<|1+(v:Int) % 8).cps.toList:=by rw [h]
  rw [mul_list _ (by omega),mul_list _<|by omega] at e;have l:=CJ List.length e;rw [Db,Db] at l;have hd:(List.replicate (1+(u:Int) % 8).toNat<|sgn<|b / 64+(u:Int) / 8)[0]?=(List.replicate (1+(v:Int) % 8).toNat<|sgn<|b / 64+(v:Int) / 8)[0]?:=by rw [e]
  rw [Dh,Dh,BK (by omega),BK<|by omega] at hd;have q:=ER<|Option.some.inj hd;omega
 ·rw [BJ c,BJ c] at h;refine OA hu hv (Bz _<|by omega) ?_ h;have:=Ch (b / 8) (show 0 < 1+b % 8 by omega);omega
def namesOf(b:Int)(m:Nat):List Str:=(List.range m).map<|bq b
theorem OC{b:Int}{m:Nat}(h:m<=36):(namesOf b m).Nodup:=by
 unfold namesOf;refine List.Pairwise.map _ (R:=λi j=>i < j/\j < m) ?_ ?_
 ·rintro i j ⟨h1,h2⟩ e;have:=OB (by omega) (by omega) e;omega
 ·rw [Bd];intro i j hi hj cX;simp only [List.getElem_range];simp at hj;exact⟨cX,hj⟩
theorem OD(b:Int)(m:Nat):namesOf b (m+1)=namesOf b m++[bq b m]:=by
 unfold namesOf;rw [Cj,Ai];rfl
theorem EV(b:Int)(m:Nat):(namesOf b m).length=m:=by unfold namesOf;simp
end Nt
namespace Y5
open PySem L2
def top(i:Nat):Stmt:=PySem.Challenge.pw_threewebs_k65_too_many_trees.main.body.getD i<|.Pass ⟨0,0,0,0⟩
abbrev uB:Stmt:=top 6
abbrev xO:Stmt:=top 7
abbrev xP:Stmt:=top 8
abbrev xQ:Stmt:=top 10
abbrev kJ:Stmt:=top 11
abbrev mI:Stmt:=top 12
abbrev uC:Stmt:=top 15
abbrev kK:Stmt:=top 16
abbrev uD:Stmt:=top 17
abbrev xR:Stmt:=top 19
abbrev mJ:Stmt:=top 20
abbrev xS:Stmt:=top 21
abbrev xT:Stmt:=top 22
abbrev kL:Stmt:=top 23
abbrev uE:Stmt:=top 24
abbrev uF:Stmt:=top 25
abbrev jN:Stmt:=top 26
structure Txt(mg:Str->Option Value):Prop where
 xU:mg "isinstance" = none
 xV:mg "tuple" = none
 xW:mg "str" = none
 OG:mg "int" = none
 EW:mg "bool" = none
 ql:mg "list" = none
 EX:mg "dict" = none
 iC:mg "set" = none
 enum:mg "enumerate" = none
 zip:mg "zip" = none
 len:mg "len" = none
 range:mg "range" = none
 sorted:mg "sorted" = none
 max:mg "max" = none
 all:mg "all" = none
 xX:mg "ValueError" = none
 rev:mg "reversed" = none
 min:mg "min" = none
 most:∃ u,mg "MOST_TREES" = some u/\RelV (.int 300) u
open Nt bG
theorem small{n:Nat}(h:n<=100000):n<=sizeLine:=by rw [DY];omega
theorem cY{n:Nat}(h:n<=100000):n < sizeLine:=by rw [DY];omega
theorem aI{H:Hp}{p:Addr}(h:H p=none)(o:HO):ah H (upd H p o):=λb u q=>by rw [aG<|lD q h];exact q
theorem cK{H1 H2:Hp}{r:Addr}{o:HO}(s:ah H1 H2)(h:H1 r=none):ah H1 (upd H2 r o):=λb u q=>by
 rw [aG<|lD q h];exact s _ _ q
theorem OH{H:Hp}{l:Addr}{zs:List Str}{y:Str}:upd H l (.lst<|zs.map V.str++[V.str y])=upd H l (Ls<|zs++[y]):=by
 show _=upd H l (.lst<|(zs++[y]).map V.str);rw [Ai];rfl
def qm(K:PySem.W.Frag):Sp:=λvs H Q _=>∃(a:Addr) (ns:List Int) (k:Int),vs=[.ref a,.int k]/\av K H a (ns.map V.int)/\0<=k/\∀ i,Q (.int i) H
def uG(K:PySem.W.Frag):Sp:=λvs H Q _=>∃(a:Addr) (ns:List Int) (k:Int),vs=[.ref a,.int k]/\av K H a (ns.map V.int)/\0<=k/\∀ i H',ah H H'->Q (.int i) H'
def uH:Sp:=λvs H Q _=>∃(b m:Int),vs=[.int b,.int m]/\0<=m/\m<=36/\∀ l H',ah H H'->H l=none->H' l=some (Ls<|namesOf b m.toNat)->Q (.ref l) H'
section
variable{P:Program}{w:World}{K:PySem.W.Frag}{mg:Str->Option Value}{base:Heap}
theorem OI:au ["_law_script","_law_k"] ["_law_script","_law_k"] (aR xR):=⟨rfl,rfl,rfl,by decide +kernel,rfl,by decide +kernel,by decide +kernel⟩
theorem OJ{ns:List Int}{k:Int}(h0:0<=k)(h1:k < (ns.length:Int)):∃ v:Int,cU (ns.map V.int) k=some (.int v):=by
 have hj:k.toNat < ns.length:=by omega
 have q:=hG (xs:=ns.map V.int) (j:=k.toNat) (v:= .int ns[k.toNat]) (by simp [hj]);rw [show((k.toNat:Nat):Int)=k by omega] at q;exact⟨_,q⟩
theorem OL{f:Addr}{fd:FuncData}(F:bL K "_law_cell_at" "_law_cell_at" xR f fd)(T:Txt mg):aA P w K mg base bP 1 f fd ["_law_script","_law_k"] (qm K):=by
 refine F.gb OI (λvs H Q E h=>?_) λb0 H vs Q E hr h=>?_
 ·obtain⟨a,ns,k,rfl,_⟩:=h;rfl
 obtain⟨a,ns,k,rfl,hS,h0,q⟩:=h;show Run _ _ _ [some<|.ref a,some<|.int k] H;refine gn<|fb BQ<|af 1<|gj l8 T.len IK<|ai<|af 0<|aC ⟨a,_,rfl,.inl hS,_,_,rfl,rfl,_,rfl,?_⟩;refine jH (λc=>?_) λc=>?_
 ·have c':=CQ c;obtain⟨v,hv⟩:=OJ (ns:=ns) h0 (by rw [Ab] at c';exact c');exact df<|de eI<|af 0<|af 1 ⟨a,_,_,.int v,rfl,rfl,hS,hv,q v⟩
 ·exact aS<|df<|ao<|q 0
abbrev mK:List V:=[.int 48271,.int 69621,.int 16807,.int 39373,.int 21401,.int 60493,.int 87721,.int 31337]
abbrev ou:List V:=[.int 99991,.int 99989,.int 99971,.int 99961,.int 99929,.int 99923,.int 99907,.int 99901]
theorem eight{i:Int}(h0:0<=i)(h1:i < 8):i=0\/i=1\/i=2\/i=3\/i=4\/i=5\/i=6\/i=7:=by
 obtain⟨k,rfl⟩:=Int.eq_ofNat_of_zero_le h0;exact(by decide:∀ k:Fin 8,(k.1:Int)=0\/(k.1:Int)=1\/(k.1:Int)=2\/(k.1:Int)=3\/(k.1:Int)=4\/(k.1:Int)=5\/(k.1:Int)=6\/(k.1:Int)=7) ⟨k,Int.ofNat_lt.mp h1⟩
theorem OM{i:Int}(h0:0<=i)(h1:i < 8):∃ m:Int,cU mK i=some (.int m)/\0 < m/\m < 100000:=by
 rcases eight h0 h1 with rfl | rfl | rfl | rfl | rfl | rfl | rfl | rfl <;> exact⟨_,rfl,by decide,by decide⟩
theorem OO{i:Int}(h0:0<=i)(h1:i < 8):∃ m:Int,cU ou i=some (.int m)/\0 < m/\m < 100000:=by
 rcases eight h0 h1 with rfl | rfl | rfl | rfl | rfl | rfl | rfl | rfl <;> exact⟨_,rfl,by decide,by decide⟩
theorem kN:au ["_law_script","_law_at","_law_by","_law_prime","_law_cell","_law_big_here","_law_k","_law_one"] ["_law_script","_law_at"] (aR mJ):=⟨rfl,rfl,rfl,by decide +kernel,rfl,by decide +kernel,by decide +kernel⟩
theorem OQ{f:Addr}{fd:FuncData}(F:bL K "_law_big" "_law_big" mJ f fd)(T:Txt mg)(G:aN P w K mg base 1 "_law_cell_at" ["_law_script","_law_k"]<|qm K) :
  aA P w K mg base bP 2 f fd ["_law_script","_law_at"] (uG K):=by
 refine F.gb kN (λvs H Q E h=>?_) λb0 H vs Q E hr h=>?_
 ·obtain⟨a,ns,k,rfl,_⟩:=h;rfl
 obtain⟨a,ns,k,rfl,hS,h0,q⟩:=h;have nd:=kN.nd;show Run _ _ _ [some<|.ref a,some<|.int k,none,none,none,none,none,none] H;refine run_set 2 nd<|dE<|ai<|ao<|ai<|ao<|ai<|ao<|ai<|ao<|ai<|ao<|ai<|ao<|ai<|ao<|ai<|ao<|aC ⟨Z8,λp hp=>?_⟩;refine run_set 3 nd<|dE<|ai<|ao<|ai<|ao<|ai<|ao<|ai<|ao<|ai<|ao<|ai<|ao<|ai<|ao<|ai<|ao<|aC ⟨Z8,λp2 d5=>?_⟩;have OS:p≠p2:=by
  intro e;rw [<- e,ae] at d5;cases d5
 have s1:ah H (upd H p<|.tup mK):=aI hp _;have s2:ah H (upd (upd H p<|.tup mK) p2<|.tup ou):=s1.trans<|aI d5 _;have e1:(upd (upd H p<|.tup mK) p2<|.tup ou) p=some (.tup mK):=by rw [aG OS,ae]
 have e2:(upd (upd H p<|.tup mK) p2<|.tup ou) p2=some (.tup ou):=ae;generalize upd (upd H p<|.tup mK) p2 (.tup ou)=H2 at s2 e1 e2 ⊢;refine run_set 4 nd<|dF G hr<|ai<|af 0<|ai<|af 1<|aC ⟨a,ns,k,rfl,s2.seq hS,h0,λb=>?_⟩;show Run _ _ _ [some<|.ref a,some<|.int k,some<|.ref p,some<|.ref p2,some<|.int b,none,none,none] H2;refine DS True True (λR qq=>?_) (λ_=>?_) λ_=>aS ?_
 ·refine xh (xi<|fb jj<|aE dD<|af 4<|ao ⟨_,_,rfl,rfl,(by show(0:Int) < 2;decide),ao ⟨rfl,_,rfl,?_⟩⟩);refine jH (λc=>?_) (λc=>qq false (λz=>nomatch z) λ_=>trivial);exact xj<|fb wu<|af 4<|aE wm<|ao<|ao ⟨_,_,rfl,rfl,⟨by decide,by decide,by decide⟩,_,_,rfl,rfl,_,rfl,qq _ (λ_=>trivial) λ_=>trivial⟩
 ·exact df<|aE ji<|af 4<|ao ⟨_,_,rfl,rfl,⟨by decide,by decide⟩,q _ _ s2⟩
 refine run_set 5 nd<|ao ?_;refine n9 T.range<|ao ⟨60,rfl,by decide,by decide,oa (n:=60) (λ_ σ H3=>H3=H2/\∃(x:Int) (u v:Option V),σ=[some<|.ref a,some<|.int k,some<|.ref p,some<|.ref p2,some<|.int b,some<|.int x,u,v]) ⟨rfl,0,_,_,rfl⟩ ?_ ?_⟩
 ·rintro i σ H3 hi ⟨rfl,x,u,v,rfl⟩;have i9:0<=(0+(i:Int)) % 9:=Bz _ (by decide);obtain⟨m1,f1,g1,g2⟩:=OM (i:=(0+(i:Int)) % 8) (Bz _<|by decide) (Ch _<|by decide);obtain⟨m2,f2,g3,g4⟩:=OO (i:=(0+(i:Int)) % 8) (Bz _<|by decide) (Ch _<|by decide);refine bb 6 nd ?_;refine run_set 7 nd<|aE dZ<|aE dZ<|aE dD<|dF G hr<|ai<|af 0<|ai<|aE dZ<|af 1<|aE dD<|af 6<|ao ?_;refine⟨_,_,rfl,rfl,(by show(0:Int) < 9;decide),_,_,rfl,rfl,aC ⟨a,ns,_,rfl,s2.seq hS,?_,λc=>?_⟩⟩
  ·show 0<=k+(0+(i:Int)) % 9;omega
  refine aE wm (ao<|ao ⟨_,_,rfl,rfl,⟨by decide,by decide,by decide⟩,_,_,rfl,rfl,(by show(0:Int) < 10 ^ (18:Int).toNat;decide),ao ⟨_,_,rfl,rfl,?_⟩⟩);refine aE kC<|af 6<|af 6 ?_;refine⟨_,_,rfl,rfl,.inl ⟨by omega,by omega⟩,_,_,rfl,rfl,?_⟩;refine run_set 5 nd (aE dZ<|aE kC<|af 5<|ao ⟨_,_,rfl,rfl,.inr ⟨by decide,by decide⟩,?_⟩);refine aE dD (aE dD<|aE kC<|af 7<|de t9<|af 2<|aE dD<|af 6<|ao ⟨_,_,rfl,rfl,(by show(0:Int) < 8;decide),p,_,_,_,rfl,rfl,bo.of e1,f1,_,_,rfl,rfl,.inr ⟨by omega,by omega⟩,?_⟩);refine de t9 (af 3<|aE dD<|af 6<|ao ⟨_,_,rfl,rfl,(by show(0:Int) < 8;decide),p2,_,_,_,rfl,rfl,bo.of e2,f2,_,_,rfl,rfl,g3,ao ⟨_,_,rfl,rfl,(by show(0:Int) < 7919;decide),_,_,rfl,rfl,?_⟩⟩);exact aS ⟨rfl,_,_,_,rfl⟩
 ·rintro σ H3 ⟨rfl,x,u,v,rfl⟩;exact df<|af 5<|q x _ s2
abbrev NN:List Str:=["_law_stem","_law_many","_law_signs","_law_size","_law_spot","_law_names_here","_law_v","_law_name","_law_k","_law_turn"]
theorem gw:au NN ["_law_stem","_law_many"] (aR xS):=⟨rfl,rfl,rfl,by decide +kernel,rfl,by decide +kernel,by decide +kernel⟩
theorem OT{f:Addr}{fd:FuncData}(F:bL K "_law_names" "_law_names" xS f fd)(T:Txt mg):aA P w K mg base bP 1 f fd ["_law_stem","_law_many"] uH:=by
 refine F.gb gw (λvs H Q E h=>?_) λb0 H vs Q E hr h=>?_
 ·obtain⟨b,m,rfl,_⟩:=h;rfl
 obtain⟨b,m,rfl,m0,m1,q⟩:=h;have nd:=gw.nd;have s0:0<=b % 8:=Bz _ (by decide);have s1:b % 8 < 8:=Ch _ (by decide);show Run _ _ _ [some<|.int b,some<|.int m,none,none,none,none,none,none,none,none] H;refine run_set 2 nd<|uq ?_;refine run_set 3 nd (aE dZ<|ao<|aE dD<|af 0<|ao ⟨_,_,rfl,rfl,(by show(0:Int) < 8;decide),_,_,rfl,rfl,?_⟩);refine run_set 4 nd (aE dD<|aE ji<|af 0<|ao ⟨_,_,rfl,rfl,⟨by decide,by decide⟩,af 3 ⟨_,_,rfl,rfl,(by show 0 < 1+b % 8;omega),?_⟩⟩);refine run_set 5 nd<|gN<|aC ⟨Z0,λl hl=>?_⟩;show Run _ _ _ [some<|.int b,some<|.int m,some<|.str lets,some<|.int<|1+b % 8,some<|.int<|b / 8 % (1+b % 8),some<|.ref l,none,none,none,none] _;have UD:b / 8 % (1+b % 8)=b / 8 % (1+b % 8):=rfl;refine n9 T.range<|af 1 ⟨m,rfl,by omega,by omega,oa (n:=m.toNat) (λi σ H3=>H3=upd H l (Ls<|namesOf b i)/\∃ u1 u2 u3 u4,σ=[some<|.int b,some<|.int m,some<|.str lets,some<|.int<|1+b % 8,some<|.int<|b / 8 % (1+b % 8),some<|.ref l,u1,u2,u3,u4]) ⟨rfl,_,_,_,_,rfl⟩ ?_ ?_⟩
 ·rintro i σ H3 hi ⟨rfl,u1,u2,u3,u4,rfl⟩;refine bb 6 nd ?_;refine run_set 7 nd<|uq ?_;refine n9 T.range<|af 3 ⟨_,rfl,by omega,by omega,oa (n:=(1+b % 8).toNat) (λj σ H4=>H4=upd H l (Ls<|namesOf b i)/\∃(u3 u4:Option V),σ=[some<|.int b,some<|.int m,some<|.str lets,some<|.int<|1+b % 8,some<|.int<|b / 8 % (1+b % 8),some<|.ref l,some<|.int<|0+(i:Int),some<|.str<|nm b (b / 8 % (1+b % 8)) i j,u3,u4]) ⟨rfl,_,_,rfl⟩ ?_ ?_⟩
  ·rintro j σ H4 hj ⟨rfl,v3,v4,rfl⟩;have t0:0<=b / 7 % 5:=Bz _ (by decide);have t1:b / 7 % 5 < 5:=Ch _ (by decide);have nl:(nm b (b / 8 % (1+b % 8)) i j).length=j:=by
    have:=CJ List.length<|uA b (b / 8 % (1+b % 8)) i j;show(nm b (b / 8 % (1+b % 8)) i j).cps.size=j
    simpa using this
   refine bb 8 nd ?_;refine run_set 9 nd (aE dZ<|aE ji<|af 0<|ao ⟨_,_,rfl,rfl,⟨by decide,by decide⟩,aE kC<|af 8<|aE dD<|aE ji<|af 0<|ao ⟨_,_,rfl,rfl,⟨by decide,by decide⟩,ao ⟨_,_,rfl,rfl,(by show(0:Int) < 5;decide),?_⟩⟩⟩);refine⟨_,_,rfl,rfl,.inr ⟨by omega,by omega⟩,_,_,rfl,rfl,?_⟩;refine xK ((0+(j:Int))=b / 8 % (1+b % 8)) (¬(0+(j:Int))=b / 8 % (1+b % 8)) (λσ' H'=>H'=upd H l (Ls<|namesOf b i)/\σ'=[some<|.int b,some<|.int m,some<|.str lets,some<|.int<|1+b % 8,some<|.int<|b / 8 % (1+b % 8),some<|.ref l,some<|.int<|0+(i:Int),some<|.str<|nm b (b / 8 % (1+b % 8)) i j,some<|.int<|0+(j:Int),some<|.int<|turn b (b / 8 % (1+b % 8)) i j]) (λR qq=>?_) (λhc=>?_) (λhc=>aS ⟨rfl,?_⟩) ?_
   ·refine fb jj<|af 8<|af 4 ⟨rfl,_,rfl,?_⟩
    by_cases hc:(0+(j:Int))=b / 8 % (1+b % 8)
    ·rw [CK (show V.int (0+(j:Int))=V.int (b / 8 % (1+b % 8)) by rw [hc])];exact qq true (λ_=>hc) λh=>by cases h
    ·rw [CG λh=>hc<|V.int.inj h];exact qq false (λh=>by cases h) λ_=>hc
   ·refine run_set 9 nd<|aE dZ<|af 9<|af 6 ⟨_,_,rfl,rfl,aS ⟨rfl,?_⟩⟩;have e:b / 64+(0+(j:Int)) * (b / 7 % 5)+(0+(i:Int))=turn b (b / 8 % (1+b % 8)) i j:=by
     unfold turn;rw [BK (by omega),Eu,Eu]
    rw [<- e];rfl
   ·have e:b / 64+(0+(j:Int)) * (b / 7 % 5)=turn b (b / 8 % (1+b % 8)) i j:=by
     unfold turn;rw [BJ (by omega),Eu,Int.add_zero]
    rw [<- e];rfl
   ·rintro σ' H' ⟨rfl,rfl⟩;refine run_set 7 nd<|aE BV<|af 7<|de CL<|af 2<|aE dD<|af 9<|ao ⟨_,_,rfl,rfl,(by show(0:Int) < 36;decide),lets,_,sgn<|turn b (b / 8 % (1+b % 8)) i j,rfl,rfl,by decide +kernel,xN _,_,_,rfl,rfl,small (by show(nm b (b / 8 % (1+b % 8)) i j).length+1<=100000;omega),aS ⟨rfl,_,_,rfl⟩⟩
  ·rintro σ H4 ⟨rfl,v3,v4,rfl⟩;refine xK (b % 3=2) (¬ b % 3=2) (λσ' H'=>H'=upd H l (Ls<|namesOf b i)/\σ'=[some<|.int b,some<|.int m,some<|.str lets,some<|.int<|1+b % 8,some<|.int<|b / 8 % (1+b % 8),some<|.ref l,some<|.int<|0+(i:Int),some<|.str<|bq b i,v3,v4]) (λR qq=>?_) (λhc=>?_) (λhc=>aS ⟨rfl,?_⟩) ?_
   ·refine fb jj<|aE dD<|af 0<|ao ⟨_,_,rfl,rfl,(by show(0:Int) < 3;decide),ao ⟨rfl,_,rfl,?_⟩⟩
    by_cases hc:b % 3=2
    ·rw [CK (show V.int (b % 3)=V.int 2 by rw [hc])];exact qq true (λ_=>hc) λh=>by cases h
    ·rw [CG λh=>hc<|V.int.inj h];exact qq false (λh=>by cases h) λ_=>hc
   ·have e0:0<=(0+(i:Int)) % 8:=Bz _ (by decide);have e1:(0+(i:Int)) % 8 < 8:=Ch _ (by decide);refine run_set 7 nd (aE Nq<|de CL<|af 2<|aE dD<|aE dZ<|aE ji<|af 0<|ao ⟨_,_,rfl,rfl,⟨by decide,by decide⟩,aE ji<|af 6<|ao ⟨_,_,rfl,rfl,⟨by decide,by decide⟩,_,_,rfl,rfl,ao ⟨_,_,rfl,rfl,(by show(0:Int) < 36;decide),lets,_,sgn<|b / 64+(0+(i:Int)) / 8,rfl,rfl,by decide +kernel,xN _,?_⟩⟩⟩);refine aE dZ (ao<|aE dD<|af 6<|ao ⟨_,_,rfl,rfl,(by show(0:Int) < 8;decide),_,_,rfl,rfl,?_⟩);refine⟨_,_,rfl,rfl,by omega,by omega,?_,aS ⟨rfl,?_⟩⟩
    ·show 1 * _<=_;omega
    ·have e:Txt.mul ⟨#[sgn<|b / 64+(0+(i:Int)) / 8]⟩ (1+(0+(i:Int)) % 8)=bq b i:=by
      unfold bq;rw [BK hc,Eu]
     rw [<- e];rfl
   ·have e:nm b (b / 8 % (1+b % 8)) i (1+b % 8).toNat=bq b i:=by
     unfold bq;rw [BJ hc]
    rw [<- e]
   ·rintro σ' H' ⟨rfl,rfl⟩;refine jI<|om<|af 5 ⟨l,rfl,⟨_,ae⟩,af 7 ⟨_,ae,?_,?_⟩⟩
    ·rw [Ab,EV];exact cY<|by omega
    ·rw [A1];refine aS ⟨?_,_,_,_,_,rfl⟩;rw [OD];exact OH
 ·rintro σ H3 ⟨rfl,u1,u2,u3,u4,rfl⟩;exact df<|af 5<|q l _ (aI hl _) hl ae
end
end Y5
namespace Nt
open PySem L2
theorem OU(zs:List Str)(i:Nat):bh (zs.map V.str) (some (i:Int)) none=(zs.drop i).map V.str:=by
 unfold bh;rw [HT.cg,HT.dr,Ab];rw [Cp (by rw [Cb,Ab];omega),MK]
 rcases Nat.le_total i zs.length with h | h
 ·rw [Dy h]
 ·rw [Nat.min_eq_right h,Cw (by simp),Cw<|by simpa using h]
def bt(n:Net)(r:Nat):Str:=((n[r]?).map (·.1)).getD ⟨#[]⟩
theorem kO{n:Net}{r:Nat}(h:r < n.length):bt n r=n[r].1:=by unfold bt;rw [Aa h];rfl
abbrev Lk:=Str×Str×Str
def iN(n:Net)(x:Lk):Prop:=∃ a b,pos n x.1=[a,b]/\x.2.1=bt n a.1/\x.2.2=bt n b.1
structure gy(n:Net)(done:List<|Str×End)(kM:List<|Key×V)(ls:List Lk):Prop where
 m0:∀ z,fz done z=[]->aH kM (Sum.inr z)=none
 m1:∀ z a rest,fz done z=a :: rest->aH kM (Sum.inr z)=some (.str<|bt n a.1)
 mem:∀ x:Lk,x∈ls↔∃ a b rest,fz done x.1=a :: b :: rest/\x.2.1=bt n a.1/\x.2.2=bt n b.1
 gA:(ls.map (·.1)).Nodup
 mL:kM.length<=done.length
 jO:ls.length<=done.length
theorem gy.start(n:Net):gy n [] [] []:=⟨λ_ _=>rfl,λz a rest h=>(by cases h),λx=>⟨λh=>(by cases h),λ⟨a,b,rest,h,_⟩=>(by cases h)⟩,El,Af _,Af _⟩
theorem gy.new{n:Net}{done:List (Str×End)}{kM:List (Key×V)}{ls:List Lk}(I:gy n done kM ls){z:Str}{e:End}(h0:fz done z=[]):gy n (done++[(z,e)]) (putK kM (Sum.inr z)<|.str<|bt n e.1) ls:=by
 refine⟨λy hy=>?_,λy a rest hy=>?_,λx=>?_,I.gA,?_,?_⟩
 ·rw [jn] at hy;obtain⟨h1,h2⟩:=Ge.mp hy;have bf:¬ z=y:=λq=>by rw [BK q] at h2;cases h2
  rw [iJ,BJ λq=>bf (Sum.inr.inj q).symm];exact I.m0 y h1
 ·rw [jn] at hy
  by_cases q:z=y
  ·subst q;rw [h0,BK rfl] at hy;cases hy;rw [iJ,BK rfl]
  ·rw [BJ q,Bg] at hy;rw [iJ,BJ λp=>q (Sum.inr.inj p).symm];exact I.m1 y a rest hy
 ·rw [I.mem x]
  by_cases q:z=x.1
  ·constructor
   ·rintro ⟨a,b,rest,h,_⟩;rw [<- q,h0] at h;cases h
   ·rintro ⟨a,b,rest,h,_⟩;rw [jn,<- q,h0,BK rfl] at h;cases h
  ·constructor
   ·rintro ⟨a,b,rest,h,r⟩;exact⟨a,b,rest,by rw [jn,BJ q,Bg];exact h,r⟩
   ·rintro ⟨a,b,rest,h,r⟩;rw [jn,BJ q,Bg] at h;exact⟨a,b,rest,h,r⟩
 ·have:=pS kM (Sum.inr z)<|.str<|bt n e.1;have:=I.mL;rw [Ae,Ff];omega
 ·have:=I.jO;rw [Ae,Ff];omega
theorem gy.old{n:Net}{done:List (Str×End)}{kM:List (Key×V)}{ls:List Lk}(I:gy n done kM ls){z:Str}{a e:End}(h1:fz done z=[a]):gy n (done++[(z,e)]) kM (ls++[(z,bt n a.1,bt n e.1)]):=by
 have hz:fz (done++[(z,e)]) z=[a,e]:=by rw [jn,h1,BK rfl];rfl
 have OV:z∉ls.map (·.1):=λh=>by
  obtain⟨x,hx,ex⟩:=Ak.mp h;obtain⟨b,c,rest,hp,_⟩:=(I.mem x).mp hx;have ex:x.1=z:=ex;rw [ex,h1] at hp;cases hp
 refine⟨λy hy=>?_,λy b rest hy=>?_,λx=>?_,?_,?_,?_⟩
 ·rw [jn] at hy;exact I.m0 y (Ge.mp hy).1
 ·by_cases q:z=y
  ·subst q;rw [hz] at hy;cases hy;exact I.m1 z a [] h1
  ·rw [jn,BJ q,Bg] at hy;exact I.m1 y b rest hy
 ·rw [An,Ag,I.mem x]
  by_cases q:z=x.1
  ·constructor
   ·rintro (⟨b,c,rest,h,_⟩ | h)
    ·rw [<- q,h1] at h;cases h
    ·subst h;exact⟨a,e,[],hz,rfl,rfl⟩
   ·rintro ⟨b,c,rest,h,r1,r2⟩;rw [<- q,hz] at h;cases h;obtain⟨x1,x2,x3⟩:=x;have q:z=x1:=q;have r1:x2=bt n a.1:=r1;have r2:x3=bt n e.1:=r2;subst q r1 r2;exact .inr rfl
  ·constructor
   ·rintro (⟨b,c,rest,h,r⟩ | h)
    ·exact⟨b,c,rest,by rw [jn,BJ q,Bg];exact h,r⟩
    ·subst h;exact absurd rfl q
   ·rintro ⟨b,c,rest,h,r⟩;rw [jn,BJ q,Bg] at h;exact .inl ⟨b,c,rest,h,r⟩
 ·rw [Ai];exact n5 I.gA OV
 ·have:=I.mL;rw [Ae,Ff];omega
 ·have:=I.jO;rw [Ae,Ae];show _+1<=_+1;omega
theorem gy.whole{n:Net}(T:eJ n){kM:List (Key×V)}{ls:List Lk}(I:gy n (dL n) kM ls)(x:Lk):x∈ls↔iN n x:=by
 rw [I.mem x]
 constructor
 ·rintro ⟨a,b,rest,h,r⟩;have hp:pos n x.1=a :: b :: rest:=h;have ha:jM n a=some x.1:=cu.mp (by rw [hp];exact Ah ..);have hl:=qk n x.1;rw [hp,T x.1<|xL ha] at hl;have:rest=[]:=by
   have:rest.length+1+1=2:=hl;exact Ck.mp<|by omega
  rw [this] at hp;exact⟨a,b,hp,r⟩
 ·rintro ⟨a,b,h,r⟩;exact⟨a,b,[],h,r⟩
inductive Way (ls:List<|Str×Str×Bool) (f:Str):Str->Bool->Prop where
 | here:Way ls f f false
 | there {x y:Str} {b o:Bool}:Way ls f x b->(x,y,o)∈ls->Way ls f y (b != o)
 | back {x y:Str} {b o:Bool}:Way ls f x b->(y,x,o)∈ls->Way ls f y (b != o)
end Nt
namespace L2
open PySem PySem.Spec PyProof.Rows
theorem OW{P:Program}{w:World}{k:Key}{u:Value}(h:(eS P w).is k u=true):RelV (kV k) u:=by
 rcases je h with ⟨i,t,rfl,rfl⟩ | ⟨x,t,rfl,rfl⟩ <;> exact⟨t,rfl⟩
section
variable{X:Cx}{pins:List (Addr×Obj)}{σ:St}{H:Hp}{s:Shared}
theorem OX{d:Addr}{kvs:List (Key×V)}(I:Inv X pins σ H s)(e:H d=some (.dK kvs)):∃ o,s.heap.get? d=some o/\Inv X pins σ (upd H d<|.b8 o<|.dK kvs) s:=by
 obtain⟨z,hd,vs,rel,dd⟩:=ug I.aw e;obtain⟨o,es,ep,ho,rest⟩:=id dd;refine⟨o,ho,?_⟩;exact pV (t':=s.toks) I (by rw [e];exact True.intro) ⟨rfl,λ_ _=>rfl⟩ ⟨o,ho⟩ (show aq X.prog X.w _ s.heap d (.b8 o<|.dK kvs) from⟨ho,z,hd,vs,rel,dd⟩)
def uI(d:Addr)(o:Obj)(kvs:List<|Key×V):It:=
 ⟨λi H=>H d=some (.b8 o<|.dK kvs)/\i < kvs.length,λi H x H'=>H'=H/\∃ p,kvs[i]?=some p/\x=kV p.1,λi H=>H d=some (.b8 o<|.dK kvs)/\kvs.length<=i⟩
theorem EZ{P:Program}{w:World}{h:Heap}{d:Addr}{o:Obj}{es:Array DictEntry}{ep:Nat}{kvs:List (Key×V)}(aw:bK P w H h)(e:H d=some (.b8 o<|.dK kvs))(hd:o.data = .dict es ep):∃ vs,KV kvs vs/\h.DictAt (eS P w) d vs ep:=by
 obtain⟨ho,z,_,vs,rel,dd⟩:=(show aq P w H h d (.b8 o<|.dK kvs) from aw d _ e);obtain⟨tW,o',aU,dC,r1,r2,r3⟩:=dd.dictAt;have:o=o':=Option.some.inj<|ho.symm.trans dC;subst this;rw [hd] at r2
 injection r2 with e1 e2
 subst e1;subst e2;exact⟨vs,rel,o,es,dC,r1,hd,r3⟩
theorem E1{P:Program}{w:World}{K:PySem.W.Frag}{tg:Expr}(d it:Addr)(o:Obj)(es:Array DictEntry)(ep:Nat)(kvs:List<|Key×V)(E2:o.data = .dict es ep):Turn P w K tg (uI d o kvs) [it] it (λi h=>h.IsKeyIter it d i kvs.length ep) where
 mem:=by simp
 obj:=λi h st b hb=>by
  have e:b=it:=by simpa using hb
  subst e;obtain⟨o,e,c,d⟩:=st;exact⟨o,e,λv z=>by rw [d] at z;cases z⟩
 keep:=λi h h' st k=>let ⟨o,ho,r⟩:=st;⟨o,k it (by simp) o ho,r⟩
 item:=by
  intro X hP hw hK hc i pins s σ H E I hf st hg;subst hP hw hK;obtain⟨f0,f1,f2,f3,f4,f5⟩:=hf it (by simp);obtain⟨hd,hi⟩:=hg;obtain⟨vs,rel,da⟩:=EZ I.aw hd E2;have hl:=rel.length;have d7:i < vs.length:=by omega
  have hx:vs[i]?=some vs[i]:=Aa d7;rw [hl] at st;refine wpAny_pyNext_dict_item (k:=vs[i].1) (v:=vs[i].2) st da hx λkey h' hk ag d6=>?_;have I1:Inv X pins σ H {s with heap:=h'}:=I.turned (t':=s.toks) (λb o hb e=>d6.extBut b o hb e) f0 f1 f3 f4 f5;obtain⟨o2,e2,c2,d2⟩:=id ag;refine⟨_,rfl,pt (s:={s with heap:=h'}) e2 c2 d2 (by decide) ⟨kV vs[i].1,H,I1,OW hk,⟨rfl,kvs[i],Aa hi,?_⟩,by rw [hl];exact ag,λb hb=>(hf b hb).1⟩⟩;have ek:=rel.keys;have e3:(kvs.map (·.1))[i]?=(vs.map (·.1))[i]?:=by rw [ek]
  rw [Ad,Ad,Aa hi,hx] at e3;have e4:kvs[i].1=vs[i].1:=Option.some.inj e3;rw [e4]
 done:=by
  intro X hP hw hK hc i pins s σ H E I hf st hg;subst hP hw hK;obtain⟨f0,f1,f2,f3,f4,f5⟩:=hf it (by simp);obtain⟨hd,hi⟩:=hg;obtain⟨vs,rel,da⟩:=EZ I.aw hd E2;have hl:=rel.length;rw [hl] at st;exact wpAny_pyNext_dict_end (I.ok.hd hc) st da (by rw [Br];omega) λh' eb=>⟨rfl,I.turned (t':=s.toks) (λb o hb e=>eb b o hb e) f0 f1 f3 f4 f5⟩
 self:=λ_ _ _ _ _ st h=>wpAny_pyIter_keyiter st h
def OY(tl:TE):TI:=λσ H R=>tl σ H λx H1=>∃ d kvs,x = .ref d/\H1 d=some (.dK kvs)/\∀ o,R (uI d o kvs)<|upd H1 d<|.b8 o<|.dK kvs
theorem OZ{tg l:Expr}{tl:TE}(hl:PE X l tl):PI X tg l (OY tl):=by
 intro pins s σ H R I h;refine ay (hl pins s σ H _ I h) λv s1 ⟨x,H1,I1,r1,q1⟩=>?_;obtain⟨d,kvs,e,hH,q⟩:=q1;subst e;cases (show v=Value.ref d from r1);obtain⟨o,ho,I2⟩:=OX I1 hH;obtain⟨z,ow,vs,rel,dd⟩:=ug I1.aw hH;obtain⟨ep,o',es,dC,r1,r2,r3⟩:=dd.dictAt;have:o=o':=Option.some.inj<|ho.symm.trans dC;subst this;refine wpAny_pyIter_dict ow ⟨o,es,dC,r1,r2,r3⟩ ?_;refine⟨s1.heap.objs.size,[s1.heap.objs.size],_,_,_,rfl,I2.kept (t':=s1.toks) λb o e=>Aj _ e,E1 d _ o es ep kvs r2,⟨_,Bt _ rfl,rfl,by rw [rel.length];rfl⟩,λb hb=>?_,q o⟩;have e:b=s1.heap.objs.size:=by simpa using hb
 subst e;exact I2.fE (Af _)<|I2.aw.fresh<|Af _
end
section
variable{X:Cx}{elt tg:Expr}{ifs:List Expr}{scope:Scope}{σ:St}{H:Hp}{N':List Str}{A a d:Addr}{xs:List V}{kvs:List (Key×V)}{after:Hp->Prop}
theorem mM(Pv:Nat->St->Hp->Prop)(h0:Pv 0 σ H)(hl:∀ i σ' H',i<=xs.length->Pv i σ' H'->av X.K H' a xs)
  (hs : ∀ i x σ' H', xs[i]? = some x → Pv i σ' H' → pZ X N' scope tg x σ' H' λσ2 H3 => qa X N' scope ifs σ2 H3 λb H4 =>
   if b=true then pY X N' scope elt σ2 H4 λv H5=>∃ ys,H5 A=some (.lst ys)/\ys.length < sizeLine/\Pv (i+1) σ2 (upd H5 A<|.lst<|ys++[v]) else Pv (i+1) σ2 H4)
  (hd:∀ σ' H',Pv xs.length σ' H'->after H'):jJ X N' scope tg ifs elt (pv X.K a) A after σ H:=by
 refine⟨λi m σ' H'=>m=xs.length - i/\i<=xs.length/\Pv i σ' H',⟨_,rfl,Bw _,h0⟩,?_⟩;rintro i m σ' H' ⟨rfl,hi,p⟩;have q:=hl i σ' H' hi p
 by_cases az:i < xs.length
 ·refine .inr ⟨⟨xs,xs[i],q,by simp [az]⟩,Pv<|i+1,λσ' H' p'=>⟨xs.length - (i+1),by omega,rfl,az,p'⟩,λx H2 y=>?_⟩;obtain⟨e,y⟩:=y;subst e;exact hs i x σ' _ (y xs q) p
 ·have e:i=xs.length:=by omega
  subst e;exact .inl ⟨⟨xs,q,Af _⟩,hd σ' H' p⟩
theorem E3{o:Obj}(Pv:Nat->St->Hp->Prop)(h0:Pv 0 σ H)(hl:∀ i σ' H',i<=kvs.length->Pv i σ' H'->H' d=some (.b8 o<|.dK kvs))
  (hs : ∀ i p σ' H', kvs[i]? = some p → Pv i σ' H' → pZ X N' scope tg (kV p.1) σ' H' λσ2 H3 => qa X N' scope ifs σ2 H3 λb H4 =>
   if b=true then pY X N' scope elt σ2 H4 λv H5=>∃ ys,H5 A=some (.lst ys)/\ys.length < sizeLine/\Pv (i+1) σ2 (upd H5 A<|.lst<|ys++[v]) else Pv (i+1) σ2 H4)
  (hd:∀ σ' H',Pv kvs.length σ' H'->after H'):jJ X N' scope tg ifs elt (uI d o kvs) A after σ H:=by
 refine⟨λi m σ' H'=>m=kvs.length - i/\i<=kvs.length/\Pv i σ' H',⟨_,rfl,Bw _,h0⟩,?_⟩;rintro i m σ' H' ⟨rfl,hi,p⟩;have q:=hl i σ' H' hi p
 by_cases az:i < kvs.length
 ·refine .inr ⟨⟨q,az⟩,Pv<|i+1,λσ' H' p'=>⟨kvs.length - (i+1),by omega,rfl,az,p'⟩,λx H2 y=>?_⟩;obtain⟨e,p',ep,y⟩:=y;subst e y;exact hs i p' σ' _ ep p
 ·have e:i=kvs.length:=by omega
  subst e;exact .inl ⟨⟨q,Af _⟩,hd σ' H' p⟩
theorem qo{e1 e2:Expr}{k:Nat}{pos:Pos}{t:Addr}{x y:V}{R:St->Hp->Prop}(hc:X.calm=true)(ht:bo X.K H t [x,y])(h:Eg X e1 x σ H λσ1 H1=>Eg X e2 y σ1 H1 R)
  (hn:(assignEach [e1,e2] X.env).length=2:=by rfl) (cb:(assignEach [e1,e2] X.env).findIdx? (·.1)=none:=by rfl)
  (gB:(assignEach [e1,e2] X.env).map (·.2)=assign e1 X.env :: (assignEach [e2] X.env).map (·.2):=by rfl) (kB:(assignEach [e2] X.env).map (·.2)=assign e2 X.env :: (assignEach [] X.env).map (·.2):=by rfl) :
  Eg X (.Tuple [e1,e2] k pos) (.ref t) σ H R:=
 uk (BA (t:=nS (λv σ H Q=>Eg X e1 v σ H Q)<|nS (λv σ H Q=>Eg X e2 v σ H Q) lO) hc (pd my (pd my A9 kB) gB) hn cb) ⟨t,_,rfl,ht,rfl,_,_,rfl,h.mono λσ1 H1 h1=>⟨_,_,rfl,h1.mono λσ2 H2 q=>⟨rfl,q⟩⟩⟩
end
end L2
namespace Nt
open PySem L2
abbrev Bl:=Str×Str×Bool
def has(kvs:List<|Key×V)(x:Str):Prop:=∃ v,aH kvs (Sum.inr x)=some v
def qp(ls:List Bl)(x y:Str)(o:Bool):Prop:=(x,y,o)∈ls\/(y,x,o)∈ls
def qt(ls:List Bl):List Str:=ls.flatMap λl=>[l.1,l.2.1]
theorem E4:∀ ls:List Bl,(qt ls).length=2 * ls.length
 | []=>rfl
 | l :: r=>by
  show(qt r).length+1+1=2 * (r.length+1);rw [E4 r];omega
theorem O0{ls:List Bl}{x y:Str}{o:Bool}(h:qp ls x y o):y∈qt ls:=by
 rcases h with h | h
 ·exact Gk.mpr ⟨_,h,by simp⟩
 ·exact Gk.mpr ⟨_,h,by simp⟩
theorem uJ{κ:Type} [DecidableEq κ] (kvs:List<|κ×V) (k:κ) (v:V):(putK kvs k v).map (·.1)=if k∈kvs.map (·.1) then kvs.map (·.1) else kvs.map (·.1)++[k]:=by
 have e:(kvs.any λkv=>decide (kv.1=k))=decide (k∈kvs.map (·.1)):=by
  rw [Fy,List.any_eq_true,FN,Ak];exact⟨λ⟨p,h1,h2⟩=>⟨p,h1,CQ h2⟩,λ⟨p,h1,h2⟩=>⟨p,h1,CK h2⟩⟩
 unfold putK;rw [e]
 by_cases h:k∈kvs.map (·.1)
 ·rw [BK<|CK h,BK h,Be];refine Bk λp _=>?_;show(if p.1=k then(p.1,v) else p).1=p.1
  split <;> rfl
 ·rw [BJ (by simpa using h),BJ h,Ai];rfl
structure cZ(ls:List Bl)(f:Str)(hr:Option Str)(kvs:List<|Key×V)(wt:List Str):Prop where
 gA:(kvs.map (·.1)).Nodup
 txt:∀ k∈kvs.map (·.1),∃ x,k=Sum.inr x/\x∈f :: qt ls
 val:∀ x v,aH kvs (Sum.inr x)=some v->∃ b,v = .bl b/\Way ls f x b
 fst:has kvs f
 uK:∀ x∈wt,has kvs x
 E5:∀ x,some x=hr->has kvs x
 cls:∀ x,has kvs x->x∈wt\/some x=hr\/∀ y o,qp ls x y o->has kvs y
theorem cZ.len{ls:List Bl}{f:Str}{hr:Option Str}{kvs:List (Key×V)}{wt:List Str}(I:cZ ls f hr kvs wt):kvs.length<=1+2 * ls.length:=by
 have:=bn I.gA (b:=(f :: qt ls).map Sum.inr) λk hk=>by
  obtain⟨x,e,hx⟩:=I.txt k hk;rw [e];exact Ak.mpr ⟨x,hx,rfl⟩
 rw [Ab,Ab,As,E4] at this;omega
theorem qu{kvs:List (Key×V)}{k:Key}{v:V}{x:Str}(h:has kvs x):has (putK kvs k v) x:=by
 obtain⟨u,hu⟩:=h;unfold has;rw [iJ]
 split
 ·exact⟨_,rfl⟩
 ·exact⟨u,hu⟩
theorem cZ.start(ls:List Bl)(f:Str):cZ ls f none (putK [] (Sum.inr f)<|.bl false) [f]:=by
 have e:putK ([]:List<|Key×V) (Sum.inr f) (.bl false)=[(Sum.inr f,.bl false)]:=rfl;have hv:∀ x,aH ([(Sum.inr f,.bl false)]:List<|Key×V) (Sum.inr x)=if x=f then some (.bl false) else none:=λx=>by
  rw [<- e,iJ]
  by_cases h:x=f
  ·rw [BK h,BK<|by rw [h]]
  ·rw [BJ h,BJ λq=>h<|Sum.inr.inj q];rfl
 rw [e];refine⟨by simp,λk hk=>⟨f,by simpa using hk,Ah ..⟩,λx v h=>?_,⟨.bl false,by rw [hv f,BK rfl]⟩,λx hx=>?_,λx hx=>by(cases hx),λx hx=>?_⟩
 ·rw [hv x] at h
  by_cases c:x=f
  ·rw [BK c] at h;cases h;subst c;exact⟨false,rfl,.here⟩
  ·rw [BJ c] at h;cases h
 ·rw [Ag.mp hx];exact⟨.bl false,by rw [hv f,BK rfl]⟩
 ·obtain⟨v,h⟩:=hx;rw [hv x] at h
  by_cases c:x=f
  ·exact .inl<|Ag.mpr c
  ·rw [BJ c] at h;cases h
theorem cZ.pop{ls:List Bl}{f h:Str}{kvs:List (Key×V)}{wt:List Str}(I:cZ ls f none kvs<|wt++[h]):cZ ls f (some h) kvs wt:=by
 refine⟨I.gA,I.txt,I.val,I.fst,λx hx=>I.uK x<|Ba _ hx,λx hx=>(by cases hx;exact I.uK h<|Ao _<|Ag.mpr rfl),λx hx=>?_⟩
 rcases I.cls x hx with c | c | c
 ·rcases An.mp c with c | c
  ·exact .inl c
  ·exact .inr<|.inl<|by rw [Ag.mp c]
 ·cases c
 ·exact .inr<|.inr c
theorem cZ.close{ls:List Bl}{f h:Str}{kvs:List (Key×V)}{wt:List Str}(I:cZ ls f (some h) kvs wt)(c:∀ y o,qp ls h y o->has kvs y):cZ ls f none kvs wt:=by
 refine⟨I.gA,I.txt,I.val,I.fst,I.uK,λx hx=>(by cases hx),λx hx=>?_⟩
 rcases I.cls x hx with d | d | d
 ·exact .inl d
 ·cases d;exact .inr<|.inr c
 ·exact .inr<|.inr d
theorem cZ.kP{ls:List Bl}{f:Str}{hr:Option Str}{kvs:List (Key×V)}{wt:List Str}(I:cZ ls f hr kvs wt){g:Str}(hg:aH kvs (Sum.inr g)=none):Sum.inr g∉kvs.map (·.1):=by
 intro hm;obtain⟨p,hp,e⟩:=Ak.mp hm;have:∃ i:Nat,kvs[i]?=some p:=At hp;obtain⟨i,hi⟩:=this;have:∀{l:List (Key×V)},(∃ q∈l,q.1=Sum.inr g)->aH l (Sum.inr g)≠none:=λ{l}=>by
  induction l with
  | nil=>rintro ⟨q,hq,_⟩;cases hq
  | cons c r ih=>
   rintro ⟨q,hq,e⟩ hn
   by_cases hc:c.1=Sum.inr g
   ·rw [hU hc] at hn;cases hn
   ·rw [hW hc] at hn
    rcases Am.mp hq with rfl | hq
    ·exact hc e
    ·exact ih ⟨q,hq,e⟩ hn
 exact this ⟨p,hp,e⟩ hg
theorem cZ.O1{ls:List Bl}{f h:Str}{kvs:List (Key×V)}{wt:List Str}(I:cZ ls f (some h) kvs wt):has kvs h:=I.E5 h rfl
theorem cZ.add{ls:List Bl}{f h g:Str}{kvs:List (Key×V)}{wt:List Str}{b o:Bool}(I:cZ ls f (some h) kvs wt)(hg:aH kvs (Sum.inr g)=none)(hh:aH kvs (Sum.inr h)=some (.bl b))(t:qp ls h g o) :
  cZ ls f (some h) (putK kvs (Sum.inr g)<|.bl<|b != o) (wt++[g]):=by
 have qv:=I.kP hg;have hw:Way ls f g (b != o):=by
  obtain⟨b',e,hw⟩:=I.val h _ hh;cases e
  rcases t with t | t
  ·exact .there hw t
  ·exact .back hw t
 refine⟨?_,λk hk=>?_,λx v hv=>?_,qu I.fst,λx hx=>?_,λx hx=>qu<|I.E5 x hx,λx hx=>?_⟩
 ·rw [uJ,BJ qv];exact n5 I.gA qv
 ·rw [uJ,BJ qv] at hk
  rcases An.mp hk with hk | hk
  ·exact I.txt k hk
  ·exact⟨g,Ag.mp hk,Ar _<|O0 t⟩
 ·rw [iJ] at hv
  by_cases c:Sum.inr x=(Sum.inr g:Key)
  ·rw [BK c] at hv;cases hv;rw [Sum.inr.inj c];exact⟨_,rfl,hw⟩
  ·rw [BJ c] at hv;exact I.val x v hv
 ·rcases An.mp hx with hx | hx
  ·exact qu<|I.uK x hx
  ·rw [Ag.mp hx];exact⟨_,by rw [iJ,BK rfl]⟩
 ·obtain⟨v,hv⟩:=hx;rw [iJ] at hv
  by_cases c:Sum.inr x=(Sum.inr g:Key)
  ·exact .inl<|Ao _<|Ag.mpr<|Sum.inr.inj c
  ·rw [BJ c] at hv
   rcases I.cls x ⟨v,hv⟩ with d | d | d
   ·exact .inl<|Ba _ d
   ·exact .inr<|.inl d
   ·exact .inr<|.inr λy o' ht=>qu<|d y o' ht
theorem cZ.whole{ls:List Bl}{f:Str}{kvs:List (Key×V)}(I:cZ ls f none kvs []):∀ x b,Way ls f x b->∃ b',aH kvs (Sum.inr x)=some (.bl b'):=by
 have mn:∀ x b,Way ls f x b->has kvs x:=λx b w=>by
  induction w with
  | here=>exact I.fst
  | there w hm ih=>
   rcases I.cls _ ih with d | d | d
   ·cases d
   ·cases d
   ·exact d _ _<|.inl hm
  | back w hm ih=>
   rcases I.cls _ ih with d | d | d
   ·cases d
   ·cases d
   ·exact d _ _<|.inr hm
 intro x b w;obtain⟨v,hv⟩:=mn x b w;obtain⟨b',e,_⟩:=I.val x v hv;exact⟨b',by rw [hv,e]⟩
open PyProof.Rows (sortedS)
def iO(n:Net):Prop:=∀ P:Str->Prop,(∃ r∈n,P r.1)->(∀ r∈n,∀ s∈n,∀ t,t∈r.2->t∈s.2->P r.1->P s.1)->∀ r∈n,P r.1
def aK(zs:List Str):Prop:=zs.Pairwise λa b=>a.cps.toList < b.cps.toList
theorem E6:∀{zs:List Str},sortedS zs=true->zs.Nodup->aK zs
 | [],_,_=>List.Pairwise.nil
 | z :: r,h,hn=>by
  rw [By] at hn;refine List.Pairwise.cons (λx hx=>?_)<|E6 (bZ.dJ h) hn.2;have h1:=bZ.dv r z h x hx
  rcases List.le_iff_lt_or_eq.mp h1 with q | q
  ·exact q
  ·exact absurd hx<|by rw [<- bZ.gu q];exact hn.1
theorem xY{zs:List Str}(h:aK zs):zs.Nodup:=h.imp λq e=>by rw [e] at q;exact Dv _ q
theorem qw:∀{a b:List Str},aK a->aK b->(∀ x,x∈a↔x∈b)->a=b
 | [],[],_,_,_=>rfl
 | [],y :: b,_,_,h=>by have:=(h y).mpr<|Ah ..;cases this
 | x :: a,[],_,_,h=>by have:=(h x).mp<|Ah ..;cases this
 | x :: a,y :: b,ha,hb,h=>by
  unfold aK at ha hb;rw [Cq] at ha hb;have qz:x=y:=by
   rcases Am.mp ((h x).mp<|Ah ..) with e | e
   ·exact e
   ·rcases Am.mp ((h y).mpr<|Ah ..) with e2 | e2
    ·exact e2.symm
    ·exact absurd (Fx (ha.1 y e2)<|hb.1 x e)<|Dv _
  subst qz;have nx:∀(l:List Str),(∀ z∈l,x.cps.toList < z.cps.toList)->x∉l:=λl hl hm=>Dv _<|hl x hm;have:a=b:=qw ha.2 hb.2 λz=>by
   constructor
   ·intro hz
    rcases Am.mp ((h z).mp<|Ar _ hz) with e | e
    ·exact absurd (e ▸ hz)<|nx a ha.1
    ·exact e
   ·intro hz
    rcases Am.mp ((h z).mpr<|Ar _ hz) with e | e
    ·exact absurd (e ▸ hz)<|nx b hb.1
    ·exact e
  rw [this]
end Nt
namespace PySem
section
variable{prog:Program}{w:World}{K:Type} [DecidableEq K] {knd:KeyKind prog w K} {A:Around} {R:Result->Shared->Prop}
end
end PySem
namespace L2
open PySem PySem.Spec PyProof.Rows
section
variable{X:Cx}{pins:List (Addr×Obj)}{σ:St}{H:Hp}{s:Shared}
end
section
variable{X:Cx}{pins:List (Addr×Obj)}{σ:St}{H:Hp}{s:Shared}{h':Heap}
theorem Inv.d8{t':Nat}{ch:List Addr}(I:Inv X pins σ H s)(hf:∀ b∈ch,bT X pins H b)(k:∀ b o,b∉ch->s.heap.get? b=some o->h'.get? b=some o):Inv X pins σ H {s with heap:=h',toks:=t'}:=by
 have o7:∀ b u,H b=some u->b∉ch:=λb u e z=>by rw [(hf b z).1] at e;cases e
 refine I.step (g':=s.gens) (d':=s.drawn) (ch:=ch) (λb hb=>?_) (λb o _ _ hc e _=>k b o hc e) (λb o _ _ hc e _=>⟨o.slots,k b o hc e⟩) (λ_ _ _ _ n=>n)
  (λb o hc e=>⟨o,k b o hc e⟩) (λ_ _ e=>e) (λ_ _ _ e=>e) (λb ps e=>⟨#[],by rw [e];simp⟩) (λm hm=>?_) (λb u e=>?_) I.bare
 ·obtain⟨f0,f1,f2,f3,f4,f5⟩:=hf b hb;exact⟨f3,f1,f4,f5⟩
 ·obtain⟨o,es,ep,ho,r⟩:=hm;exact⟨o,es,ep,k _ o (λz=>(hf _ z).2.1 rfl) ho,r⟩
 ·refine(I.aw b u e).dW (λc v hc q=>k c v ?_ q) (λ_ q=>q) λ_ _ q=>q
  rcases hc with z | z
  ·rw [z];exact o7 b u e
  ·exact o7 c _ z
end
section
variable{X:Cx}
end
section
variable{X:Cx}{elt t1 i1 t2 i2:Expr}{f1 f2:List Expr}{scope:Scope}{pos:Pos}{σ:St}{H:Hp}{acc:Value}{env:Env}
end
section
variable{X:Cx}{pins:List (Addr×Obj)}{σ:St}{H:Hp}{s:Shared}{a:Addr}{y v:V}{u r:Value}{A:Around}{E:Value->Shared->Prop}
theorem E7{H':Hp}{Q:Unit->Shared->Prop}(hu:A.units+1 < cLine)(I:Inv X pins σ H s)(g:cV H a y v H')(ry:RelV y u)(rv:RelV v r)(h:∀ s',Inv X pins σ H' s'->Q () s') :
  wpAny (model X.prog X.w) A (dictSet a u r) Q E s:=by
 rcases g with ⟨kvs,k,e,ey,l,eH⟩ | ⟨kvs,k,b,e,ey,eb,l,eH⟩
 ·subst ey eH;obtain⟨z,hd,vs,rel,dd⟩:=ug I.aw e;have hz:vs.length<=sizeLine:=by rw [<- rel.length];exact z
  have hl:(putK kvs k v).length<=sizeLine:=by have:=pS kvs k v;omega
  refine wpAny_dictSet_pairs (hsz:=hz) (nY ry) dd λh' jm hs=>h _ ?_;have he:∃ q,h'.get? a=some q:=let ⟨q,_,_,hq,_⟩:=jm;⟨q,hq⟩
  exact pV I (by rw [e];exact True.intro) hs he<|C7 hl hd (rel.put k rv) jm
 ·subst ey eH;cases (show u=Value.ref b from ry);obtain⟨z,hd,xs,rel,dd⟩:=C6 I.aw e;have hz:xs.length<=sizeLine:=by rw [<- Paired.length rel];exact z
  have hl:(putK kvs k v).length<=sizeLine:=by have:=pS kvs k v;omega
  have room:(tupleKind<|eS X.prog X.w).room A:=by first | exact hu | exact JL hu | exact JC (Gb _) hu
  refine wpAny_dictSet_heap (hsz:=hz) room (nZ I.aw eb) dd λh' jm hs=>h _ ?_;obtain⟨q,es,ep,hq,h2,h3,h4,_,h5⟩:=jm;refine pV I (by rw [e];exact True.intro) hs ⟨q,hq⟩ ⟨hl,hd,_,(rel.put k eb rv).keeps λc ys ec=>?_,q,es,ep,hq,h2,h3,h4,h5⟩;rw [aG<|kt ec e λz=>nomatch z];exact ec
end
def kQ(k v:Expr)(acc:Value)(env:Env):Sem Unit:=do
 let kv <- eval k env
 let vv <- holding [kv]<|eval v env
 match acc with
 | .ref d=>do
  standAt {k.pos with endLine:=v.pos.endLine,endCol:=v.pos.endCol}
  holding [kv,vv] (dictSet d kv vv)
 | _=>unsupported "internal:dictcomp"
section
variable{X:Cx}{k v t1 i1 t2 i2:Expr}{f1 f2:List Expr}{scope:Scope}{pos:Pos}{σ:St}{H:Hp}{acc:Value}{env:Env}
theorem E8:Clause (.DictComp k v [⟨t1,i1,f1,0⟩] scope pos) 0 t1 i1 f1 acc env (kQ k v acc env):=⟨rfl,λ_=>rfl,λ_ _ _=>rfl,λ_ _=>rfl,λ_ _ _=>rfl,λ_ _=>rfl,λit=>by
 unfold kQ;cases acc <;> first | rfl | (simp only [bind_assoc,pure_bind];rfl)⟩
theorem O2{D:Addr}{Q:St->Hp->Prop}(hu:X.A.units+1 < cLine)(h:Ev X k σ H λy H1=>Ev X v σ H1 λx H2=>∃ H3,cV H2 D y x H3/\Q σ H3):qe X (kQ k v (.ref D) X.env) σ H Q:=by
 refine⟨λpins s I=>?_⟩;unfold kQ;refine BP<|ay (h.run pins s I) λkv s1 ⟨y,H1,I1,r1,h1⟩=>?_;refine BP<|DG<|ay (h1.run pins s1 I1) λvv s2 ⟨x,H2,I2,r2,H3,dp,q⟩=>?_;show wpAny _ _ (standAt _ >>= λ_=>holding [kv,vv]<|dictSet D kv vv) _ _ _;exact BP<|DR<|DG<|E7 hu I2 dp r1 r2 λs' I'=>⟨σ,H3,I',q⟩
theorem UE{wi:TI}{Q:VK}(sc:Scope)(N N':List Str)(n:Nat)(hi:PI X t1 i1 wi)
  (h:wi σ H λJ H1=>∀ D,H1 D=none->∀ cl C s₀ H₀ ex,kH (f9 X N' scope cl C s₀ H₀ ex) t1 f1 (kQ k v (.ref D)<|compEnvC scope cl C X.env) J (λ_ H'=>Q (.ref D) H') (σ++List.replicate n none)<|upd H1 D<|.dT [])
  (hc:X.calm=true:=by rfl) (mG:X.env.scope=sc:=by rfl) (hN:X.N=N:=by rfl) (hk:og sc scope N N'=true:=by decide +kernel) (hl:N'.length=N.length+n:=by rfl)
  (hs:∀ x,foldedSetIterable i1 X.env x=pure x:=by intro _;rfl):Ev X (.DictComp k v [⟨t1,i1,f1,0⟩] scope pos) σ H Q:=by
 refine⟨λpins s I=>?_⟩;subst mG hN;have ck:=bz.of hk;show wpAny _ _ (comprehension (.DictComp k v [⟨t1,i1,f1,0⟩] scope pos) scope X.env (firstIterPos [⟨t1,i1,f1,0⟩] pos) newDict (firstAsync [⟨t1,i1,f1,0⟩])<|firstIter [⟨t1,i1,f1,0⟩] X.env) _ _ _;refine EY (use:=none) rfl hs (uh λx hx hf=>I.ok.has x.1<|ck.free x hx hf) ck.kind ck.names (ay (hi pins s σ H _ I h) λxv s1 h1=>ay h1 λnU s2 h2=>?_);obtain⟨it,fp,tn,J,H2,e,I2,T,aY,xZ,q⟩:=h2;subst e;refine xF (e:= .DictComp k v [⟨t1,i1,f1,0⟩] scope pos) (newAcc:=newDict) (o0:={cls:= .type "dict",data:= .dict #[]}) (u0:=λ_=> .dT []) (λ_ _ _ h=>HN h) (λ_ h hb=>Nh h hb) (Q:=Q) (RR:=λacc C=>compPost (model X.prog X.w) X.A X.xe none (EP X pins σ Q) acc C) hc ck hl (inner:=kQ k v) (λ_ _=>E8) I2 T aY xZ q ?_;intro D C H' s' m IX hn hC c1 c2 c3 c4 qq;exact⟨m,hn,λh' d6=>⟨.ref D,H',IX.turned (t':=s'.toks) (λb o hb e=>d6.extBut b o hb e) hC (Ne.symm<|Ne.symm c1) (.inr c2) c3 c4,rfl,qq⟩⟩
theorem O3{wi:TI}{Q:VK}(sc:Scope)(N N':List Str)(n:Nat)(hi:PI X t1 i1 wi)
  (h:wi σ H λJ H1=>∀ D,H1 D=none->∀ cl C s₀ H₀ ex,kH (f9 X N' scope cl C s₀ H₀ ex) t1 f1 (kQ k v (.ref D)<|compEnvC scope cl C X.env) J (λ_ H'=>Q (.ref D) H') (σ++List.replicate n none)<|upd H1 D<|.dK [])
  (hc:X.calm=true:=by rfl) (mG:X.env.scope=sc:=by rfl) (hN:X.N=N:=by rfl) (hk:og sc scope N N'=true:=by decide +kernel) (hl:N'.length=N.length+n:=by rfl)
  (hs:∀ x,foldedSetIterable i1 X.env x=pure x:=by intro _;rfl):Ev X (.DictComp k v [⟨t1,i1,f1,0⟩] scope pos) σ H Q:=by
 refine⟨λpins s I=>?_⟩;subst mG hN;have ck:=bz.of hk;show wpAny _ _ (comprehension (.DictComp k v [⟨t1,i1,f1,0⟩] scope pos) scope X.env (firstIterPos [⟨t1,i1,f1,0⟩] pos) newDict (firstAsync [⟨t1,i1,f1,0⟩])<|firstIter [⟨t1,i1,f1,0⟩] X.env) _ _ _;refine EY (use:=none) rfl hs (uh λx hx hf=>I.ok.has x.1<|ck.free x hx hf) ck.kind ck.names (ay (hi pins s σ H _ I h) λxv s1 h1=>ay h1 λnU s2 h2=>?_);obtain⟨it,fp,tn,J,H2,e,I2,T,aY,xZ,q⟩:=h2;subst e;refine xF (e:= .DictComp k v [⟨t1,i1,f1,0⟩] scope pos) (newAcc:=newDict) (o0:={cls:= .type "dict",data:= .dict #[]}) (u0:=λ_=> .dK []) (λ_ _ _ h=>HN h) (λ_ h hb=>wV h hb) (Q:=Q) (RR:=λacc C=>compPost (model X.prog X.w) X.A X.xe none (EP X pins σ Q) acc C) hc ck hl (inner:=kQ k v) (λ_ _=>E8) I2 T aY xZ q ?_;intro D C H' s' m IX hn hC c1 c2 c3 c4 qq;exact⟨m,hn,λh' d6=>⟨.ref D,H',IX.turned (t':=s'.toks) (λb o hb e=>d6.extBut b o hb e) hC (Ne.symm<|Ne.symm c1) (.inr c2) c3 c4,rfl,qq⟩⟩
end
open bZ
section
variable{X:Cx}{elt t1 i1 t2 i2:Expr}{f1 f2:List Expr}{scope:Scope}{pos:Pos}{σ:St}{H:Hp}{acc:Value}{env:Env}
end
end L2
namespace L2
open PySem PySem.Builtin PySem.Builtin.Str
section
variable{X:Cx}{σ:St}{H:Hp}{Q:VK}
end
end L2
namespace PySem
section
variable{P:Program}{w:World}{A:Around}{E:Value->Shared->Prop}{s:Shared}
end
end PySem
namespace L2
open PySem PySem.Spec PyProof.Rows
section
variable{X:Cx}{pins:List (Addr×Obj)}{σ:St}{H:Hp}{s:Shared}
end
section
variable{X:Cx}
end
section
variable{X:Cx}{tg:Expr}{ifs:List Expr}{inner:Sem Unit}{σ:St}{H:Hp}{d:Addr}{o:Obj}{kvs:List (List Key×V)}{after:St->Hp->Prop}
end
open bZ
section
variable{X:Cx}{σ:St}{H:Hp}{Q:VK}
end
section
variable{prog:Program}{w:World}{A:Around}{E:Value->Shared->Prop}{s:Shared}
end
section
variable{X:Cx}{σ:St}{H:Hp}{Q:VK}
end
end L2
namespace bW
open PySem PySem.W PyProof.Rows
section
variable{lt:Nat->Nat->Bool}{cmp:Nat->Nat->(Bool->Shared->Prop)->Shared->Prop}{J:Shared->Prop}{n:Nat}
structure dy(lt:Nat->Nat->Bool)(cmp:Nat->Nat->(Bool->Shared->Prop)->Shared->Prop)(J:Shared->Prop)(n:Nat):Prop where
 ask:∀(i j:Nat) (C:Bool->Shared->Prop) (s:Shared),i < n->j < n->i≠j->J s->(∀ s',J s'->C (lt i j) s')->cmp i j C s
 mO:∀ i j,i < n->j < n->i≠j->lt i j=true\/lt j i=true
 x0:∀ i j,lt i j=true->lt j i=false
 gC:∀ i j k,lt i j=true->lt j k=true->lt i k=true
def g(p:Array Nat)(i:Nat):Nat:=p.getD i 0
structure Pm(p:Array Nat)(n:Nat):Prop where
 size:p.size=n
 lt:∀ i,i < n->g p i < n
 inj:∀ i j,i < n->j < n->g p i=g p j->i=j
theorem gP{p:Array Nat}{i:Nat}{v:Nat}(h:p[i]?=some v):g p i=v:=by
 unfold g;rw [Fh,h];rfl
theorem iP{p q:Array Nat}{i j:Nat}(h:p[i]?=q[j]?):g p i=g q j:=by
 unfold g;rw [Fh,Fh,h]
theorem E9(n:Nat):Pm (List.toArray<|List.range n) n:=by
 have e:∀ i,i < n->g (List.toArray<|List.range n) i=i:=λi hi=>gP (by simp [hi]);exact⟨by simp,λi hi=>by rw [e i hi];exact hi,λi j hi hj h=>by rw [e i hi,e j hj] at h;exact h⟩
def Up(lt:Nat->Nat->Bool)(p:Array Nat)(m:Nat):Prop:=∀ i j,i < j->j < m->lt (g p i) (g p j)=true
def Dn(lt:Nat->Nat->Bool)(p:Array Nat)(m:Nat):Prop:=∀ i j,i < j->j < m->lt (g p j) (g p i)=true
theorem O4(p:Array Nat):Up lt p 1:=λi j h1 h2=>by omega
theorem O5(A:dy lt cmp J n){p:Array Nat}{m:Nat}(h1:1<=m)(h:Up lt p m)(hm:lt (g p<|m - 1) (g p m)=true):Up lt p (m+1):=λi j hi hj=>by
 by_cases c:j < m
 ·exact h i j hi c
 ·have:j=m:=by omega
  subst this
  by_cases d:i=j - 1
  ·rw [d];exact hm
  ·exact A.gC _ _ _ (h i (j - 1) (by omega)<|by omega) hm
theorem O6(A:dy lt cmp J n){p:Array Nat}{m:Nat}(h1:1<=m)(h:Dn lt p m)(hm:lt (g p m) (g p<|m - 1)=true):Dn lt p (m+1):=λi j hi hj=>by
 by_cases c:j < m
 ·exact h i j hi c
 ·have:j=m:=by omega
  subst this
  by_cases d:i=j - 1
  ·rw [d];exact hm
  ·exact A.gC _ _ _ hm<|h i (j - 1) (by omega)<|by omega
theorem x6(A:dy lt cmp J n){i j:Nat}(hi:i < n)(hj:j < n)(bf:i≠j)(h:lt i j=false):lt j i=true:=by
 rcases A.mO i j hi hj bf with q | q
 ·rw [h] at q;cases q
 ·exact q
theorem x8(A:dy lt cmp J n){p:Array Nat}(P:Pm p n):∀(f m:Nat) (Q:Nat->Shared->Prop) (s:Shared),1<=m->m+f<=n->Up lt p m->J s ->
  (∀ k s',J s'->m<=k->k<=m+f->Up lt p k->(k < m+f->lt (g p k) (g p<|k - 1)=true)->Q k s')->(kas_asc p f m).kasWp cmp Q s
 | 0,m,Q,s,h1,h2,hu,hJ,k=>k m s hJ (Af _) (Af _) hu λh=>by omega
 | f+1,m,Q,s,h1,h2,hu,hJ,k=>by
  have bf:g p m≠g p (m - 1):=λh=>by have:=P.inj m (m - 1) (by omega) (by omega) h;omega
  refine A.ask _ _ _ _ (P.lt m<|by omega) (P.lt (m - 1)<|by omega) bf hJ λs' fc=>?_;cases e:lt (p.getD m 0) (p.getD (m - 1) 0) with
  | true=>exact k m s' fc (Af _) (by omega) hu λ_=>e
  | false=>
   have dS:Up lt p (m+1):=O5 A h1 hu (x6 A (P.lt m<|by omega) (P.lt (m - 1)<|by omega) bf e);exact x8 A P f (m+1) Q s' (by omega) (by omega) dS fc λk' s2 j2 a b c d=>k k' s2 j2 (by omega) (by omega) c λh=>d<|by omega
theorem Fl(A:dy lt cmp J n){p:Array Nat}(P:Pm p n):∀(f m:Nat) (Q:Array Nat×Nat×Nat->Shared->Prop) (s:Shared),1<=m->m+f<=n->Dn lt p m->J s ->
  (∀ k s',J s'->m<=k->k<=m+f->Dn lt p k->Q (p,k,0) s')->(kas_desc f p m 0).kasWp cmp Q s
 | 0,m,Q,s,h1,h2,hd,hJ,k=>k m s hJ (Af _) (Af _) hd
 | f+1,m,Q,s,h1,h2,hd,hJ,k=>by
  have bf:g p m≠g p (m - 1):=λh=>by have:=P.inj m (m - 1) (by omega) (by omega) h;omega
  refine A.ask _ _ _ _ (P.lt m<|by omega) (P.lt (m - 1)<|by omega) bf hJ λs' fc=>?_;cases e:lt (p.getD m 0) (p.getD (m - 1) 0) with
  | true=>
   show(if true=true then(if 0 > 0 then _ else kas_desc f p (m+1) 0) else _:KasT _).kasWp cmp Q s';rw [BK rfl,BJ<|by omega];exact Fl A P f (m+1) Q s' (by omega) (by omega) (O6 A h1 hd e) fc λk' s2 j2 a b c=>k k' s2 j2 (by omega) (by omega) c
  | false=>
   refine A.ask _ _ _ _ (P.lt (m - 1)<|by omega) (P.lt m<|by omega) (Ne.symm bf) fc λs2 qA=>?_;have e2:lt (p.getD (m - 1) 0) (p.getD m 0)=true:=x6 A (P.lt m<|by omega) (P.lt (m - 1)<|by omega) bf e;rw [e2];exact k m s2 qA (Af _) (by omega) hd
theorem qB{p:Array Nat}{m k:Nat}(h:m<=p.size):g (kas_rev p 0 m) k=if k < m then g p (m - 1 - k) else g p k:=by
 have e:=HY (xs:=p) (i:=0) (j:=m) h k
 by_cases c:k < m
 ·rw [BK c];rw [BK ⟨Bw _,c⟩] at e;refine iP<|e.trans ?_
  congr 1
  omega
 ·rw [BJ c];rw [BJ λq=>c q.2] at e;exact iP e
theorem FA{p:Array Nat}{m:Nat}(P:Pm p n)(h:m<=n):Pm (kas_rev p 0 m) n:=by
 have hs:m<=p.size:=by rw [P.size];exact h
 refine⟨by rw [kas_rev_size];exact P.size,λi hi=>?_,λi j hi hj q=>?_⟩
 ·rw [qB hs]
  split
  ·exact P.lt _<|by omega
  ·exact P.lt _ hi
 ·rw [qB hs,qB hs] at q
  by_cases c:i < m <;> by_cases d:j < m
  ·rw [BK c,BK d] at q;have:=P.inj _ _ (by omega) (by omega) q;omega
  ·rw [BK c,BJ d] at q;have:=P.inj _ _ (by omega) hj q;omega
  ·rw [BJ c,BK d] at q;have:=P.inj _ _ hi (by omega) q;omega
  ·rw [BJ c,BJ d] at q;exact P.inj _ _ hi hj q
theorem O7{p:Array Nat}{m:Nat}(P:Pm p n)(h:m<=n)(hd:Dn lt p m):Up lt (kas_rev p 0 m) m:=λi j hi hj=>by
 have hs:m<=p.size:=by rw [P.size];exact h
 rw [qB hs,qB hs,BK (by omega),BK hj];exact hd (m - 1 - j) (m - 1 - i) (by omega)<|by omega
theorem O8(A:dy lt cmp J n){p:Array Nat}(P:Pm p n){m:Nat}{Q:Nat×Array Nat->Shared->Prop}{s:Shared}(h1:1<=m)(h2:m<=n)(hd:Dn lt p m)(hJ:J s)
  (k:∀ r q s',J s'->1<=r->r<=n->Pm q n->Up lt q r->Q (r,q) s'):(kas_tail3 m n p).kasWp cmp Q s:=by
 unfold kas_tail3;rw [GK];exact x8 A (FA P h2) (n - m) m _ s h1 (by omega) (O7 P h2 hd) hJ λr s' j a b c _=>k r _ s' j (by omega) (by omega) (FA P h2) c
theorem O9(A:dy lt cmp J n){p:Array Nat}(P:Pm p n){Q:Nat×Array Nat->Shared->Prop}{s:Shared}(h2:2<=n)(hJ:J s)
  (k:∀ r q s',J s'->1<=r->r<=n->Pm q n->Up lt q r->Q (r,q) s'):(kas_count n p).kasWp cmp Q s:=by
 unfold kas_count;rw [GK];refine x8 A P (n - 1) 1 _ s (Af _) (by omega) (O4 p) hJ λm s' fc m1 m2 hu iQ=>?_
 by_cases c:m=n
 ·subst c;rw [BK<|by simp];exact k m p s' fc m1 (Af _) P hu
 ·rw [BJ<|by simpa using c]
  by_cases d:m > 1
  ·rw [BK d];have bf:g p 0≠g p (m - 1):=λh=>by have:=P.inj 0 (m - 1) (by omega) (by omega) h;omega
   refine A.ask _ _ _ _ (P.lt 0<|by omega) (P.lt (m - 1)<|by omega) bf fc λs2 qA=>?_;have e:lt (p.getD 0 0) (p.getD (m - 1) 0)=true:=hu 0 (m - 1) (by omega) (by omega);rw [e];exact k m p s2 qA m1 (by omega) P hu
  ·rw [BJ d];have em:m=1:=by omega
   subst em;unfold kas_descPart;rw [GK];have hl:=iQ (by omega);have hd2:Dn lt p 2:=λi j hi hj=>by
    have:i=0/\j=1:=by omega
    rw [this.1,this.2];exact hl
   refine Fl A P (n - (1+1)) (1+1) _ s' (by omega) (by omega) hd2 fc λr s2 qA r1 r2 hd=>?_;show(if(0:Nat) > 0 then _ else kas_tail3 r n p:KasT _).kasWp cmp Q s2;rw [BJ<|by omega];exact O8 A P (by omega) (by omega) hd qA k
theorem x9(A:dy lt cmp J n){p:Array Nat}(P:Pm p n){k:Nat}(hk:k < n)(hu:Up lt p k):∀(f l r:Nat) (Q:Nat->Shared->Prop) (s:Shared),r<=k->l<=r->r - l<=f->J s->(∀ i,i < l->lt (g p i) (g p k)=true)->(∀ i,r<=i->i < k->lt (g p k) (g p i)=true) ->
  (∀ m s',J s'->m<=k->(∀ i,i < m->lt (g p i) (g p k)=true)->(∀ i,m<=i->i < k->lt (g p k) (g p i)=true)->Q m s')->(kas_place p k f l r).kasWp cmp Q s
 | 0,l,r,Q,s,h1,h2,h3,hJ,ha,hb,q=>q l s hJ (by omega) ha λi hi=>hb i<|by omega
 | f+1,l,r,Q,s,h1,h2,h3,hJ,ha,hb,q=>by
  unfold kas_place
  by_cases c:l>=r
  ·rw [BK c];exact q l s hJ (by omega) ha λi hi=>hb i<|by omega
  ·rw [BJ c];have O':(l+r) / 2 < k:=by omega
   have bf:g p k≠g p ((l+r) / 2):=λh=>by have:=P.inj k _ hk (by omega) h;omega
   refine A.ask _ _ _ _ (P.lt k hk) (P.lt _<|by omega) bf hJ λs' fc=>?_;cases e:lt (p.getD k 0) (p.getD ((l+r) / 2) 0) with
   | true=>
    show(kas_place p k f l<|(l+r) / 2).kasWp cmp Q s';refine x9 A P hk hu f l ((l+r) / 2) Q s' (by omega) (by omega) (by omega) fc ha (λi hi FC=>?_) q
    by_cases d:i=(l+r) / 2
    ·rw [d];exact e
    ·exact A.gC _ _ _ e<|hu _ _ (by omega) FC
   | false=>
    show(kas_place p k f ((l+r) / 2+1) r).kasWp cmp Q s';have e2:=x6 A (P.lt k hk) (P.lt _<|by omega) bf e;refine x9 A P hk hu f ((l+r) / 2+1) r Q s' h1 (by omega) (by omega) fc (λi hi=>?_) hb q
    by_cases d:i=(l+r) / 2
    ·rw [d];exact e2
    ·exact A.gC _ _ _ (hu _ _ (by omega) O') e2
theorem qC{p:Array Nat}{k m i:Nat}(hk:k < p.size)(hm:m<=k):g (bubble p k<|k - m) i=if i=m then g p k else if m < i/\i<=k then g p (i - 1) else g p i:=by
 have e:=getElem?_bubble (xs:=p) hk (k - m) (by omega) i;rw [show k - (k - m)=m by omega] at e
 by_cases c:i=m
 ·rw [BK c];rw [BK c] at e;exact iP e
 ·rw [BJ c];rw [BJ c] at e
  by_cases d:m < i/\i<=k
  ·rw [BK d];rw [BK d] at e;exact iP e
  ·rw [BJ d];rw [BJ d] at e;exact iP e
theorem Pa{p:Array Nat}{k m:Nat}(P:Pm p n)(hk:k < n)(hm:m<=k):Pm (bubble p k<|k - m) n:=by
 have hs:k < p.size:=by rw [P.size];exact hk
 refine⟨by rw [bubble_size];exact P.size,λi hi=>?_,λi j hi hj q=>?_⟩
 ·rw [qC hs hm]
  split
  ·exact P.lt k hk
  ·split
   ·exact P.lt _<|by omega
   ·exact P.lt _ hi
 ·rw [qC hs hm,qC hs hm] at q;have src:∀ a,a < n->∃ b,b < n/\(if a=m then g p k else if m < a/\a<=k then g p (a - 1) else g p a)=g p b/\((a=m/\b=k)\/(a≠m/\(m < a/\a<=k)/\b=a - 1)\/(a≠m/\¬(m < a/\a<=k)/\b=a)):=λa ha=>by
   by_cases c:a=m
   ·exact⟨k,hk,by rw [BK c],.inl ⟨c,rfl⟩⟩
   ·by_cases d:m < a/\a<=k
    ·exact⟨a - 1,by omega,by rw [BJ c,BK d],.inr<|.inl ⟨c,d,rfl⟩⟩
    ·exact⟨a,ha,by rw [BJ c,BJ d],.inr<|.inr ⟨c,d,rfl⟩⟩
  obtain⟨x,x1,x2,x3⟩:=src i hi;obtain⟨y,y1,y2,y3⟩:=src j hj;rw [x2,y2] at q;have e:=P.inj x y x1 y1 q;subst e
  rcases x3 with ⟨a1,a2⟩ | ⟨a1,a2,a3⟩ | ⟨a1,a2,a3⟩
  ·rcases y3 with ⟨b1,b2⟩ | ⟨b1,b2,b3⟩ | ⟨b1,b2,b3⟩
   ·exact a1.trans b1.symm
   ·exact absurd (a2.symm.trans b3)<|Er<|Bm (Nat.sub_lt (Gf b2.1) Nat.one_pos) b2.2
   ·exact absurd ⟨Ex (by rw [<- b3,a2];exact hm)<|Ne.symm b1,by rw [<- b3,a2];exact Af _⟩ b2
  ·rcases y3 with ⟨b1,b2⟩ | ⟨b1,b2,b3⟩ | ⟨b1,b2,b3⟩
   ·exact absurd (b2.symm.trans a3)<|Er<|Bm (Nat.sub_lt (Gf a2.1) Nat.one_pos) a2.2
   ·exact Nat.sub_one_cancel (Gf a2.1) (Gf b2.1)<|a3.symm.trans b3
   ·exact absurd ⟨Ex (by rw [<- b3,a3];exact Nat.le_sub_one_of_lt a2.1)<|Ne.symm b1,by rw [<- b3,a3];exact Dk (Nat.sub_le _ _) a2.2⟩ b2
  ·rcases y3 with ⟨b1,b2⟩ | ⟨b1,b2,b3⟩ | ⟨b1,b2,b3⟩
   ·exact absurd ⟨Ex (by rw [<- a3,b2];exact hm)<|Ne.symm a1,by rw [<- a3,b2];exact Af _⟩ a2
   ·exact absurd ⟨Ex (by rw [<- a3,b3];exact Nat.le_sub_one_of_lt b2.1)<|Ne.symm a1,by rw [<- a3,b3];exact Dk (Nat.sub_le _ _) b2.2⟩ a2
   ·exact a3.symm.trans b3
theorem Pb{p:Array Nat}{k m:Nat}(P:Pm p n)(hk:k < n)(hm:m<=k)(hu:Up lt p k)(ha:∀ i,i < m->lt (g p i) (g p k)=true)(hb:∀ i,m<=i->i < k->lt (g p k) (g p i)=true):Up lt (bubble p k<|k - m) (k+1):=λi j hi hj=>by
 have hs:k < p.size:=by rw [P.size];exact hk
 rw [qC hs hm,qC hs hm]
 by_cases c:i=m
 ·rw [BK c,BJ (by omega),BK<|by omega];exact hb _ (by omega)<|by omega
 ·rw [BJ c]
  by_cases d:j=m
  ·rw [BK d,BJ<|by omega];exact ha i<|by omega
  ·rw [BJ d]
   by_cases e:m < i/\i<=k
   ·rw [BK e,BK<|by omega];exact hu _ _ (by omega)<|by omega
   ·rw [BJ e]
    by_cases f:m < j/\j<=k
    ·rw [BK f];exact hu _ _ (by omega)<|by omega
    ·rw [BJ f];exact hu _ _ hi<|by omega
theorem FD(A:dy lt cmp J n):∀(f:Nat) (p:Array Nat) (k:Nat) (Q:Array Nat->Shared->Prop) (s:Shared),Pm p n->1<=k->k+f=n->Up lt p k->J s->(∀ q s',J s'->Pm q n->Up lt q n->Q q s')->(kas_bin f p k).kasWp cmp Q s
 | 0,p,k,Q,s,P,h1,h2,hu,hJ,q=>by
  have:k=n:=by omega
  subst this;exact q p s hJ P hu
 | f+1,p,k,Q,s,P,h1,h2,hu,hJ,q=>by
  unfold kas_bin;rw [GK];refine x9 A P (by omega) hu k 0 k _ s (Af _) (Bw _) (by omega) hJ (λi hi=>by omega) (λi hi FC=>by omega) λm s' fc hm ha hb=>?_;exact FD A f _ (k+1) Q s' (Pa P (by omega) hm) (by omega) (by omega) (Pb P (by omega) hm hu ha hb) fc q
theorem Pg(A:dy lt cmp J n){Q:Array Nat->Shared->Prop}{s:Shared}(h2:2<=n)(hJ:J s)(q:∀ p s',J s'->Pm p n->Up lt p n->Q p s'):(kas_sort n).kasWp cmp Q s:=by
 unfold kas_sort;rw [GK];refine O9 A (E9 n) h2 hJ λr p s' fc r1 r2 P hu=>?_;show(if r < n then kas_bin (n - max r 1) p (max r 1) else .ret p:KasT _).kasWp cmp Q s';have em:max r 1=r:=by omega
 rw [em]
 by_cases c:r < n
 ·rw [BK c];exact FD A (n - r) p r Q s' P r1 (by omega) hu fc q
 ·rw [BJ c];have:r=n:=by omega
  subst this;exact q p s' fc P hu
end
theorem FE{p:Array Nat}{n:Nat}(P:Pm p n):p.toList.Nodup:=by
 rw [Bj,Bd];intro i j hi hj cX e;have d7:i < n:=by rw [Al,P.size] at hi;exact hi
 have Ph:j < n:=by rw [Al,P.size] at hj;exact hj
 have e1:g p i=p.toList[i]:=gP (by rw [<- Ap];exact Aa hi);have e2:g p j=p.toList[j]:=gP (by rw [<- Ap];exact Aa hj);have:=P.inj i j d7 Ph (by rw [e1,e2,e]);omega
theorem ya{p:Array Nat}{n v:Nat}(P:Pm p n)(h:v∈p.toList):v < n:=by
 obtain⟨i,hi⟩:=At h;have hl:i < n:=by have:=(Ac.mp hi).1;rw [Al,P.size] at this;exact this
 have e1:g p i=v:=gP (by rw [<- Ap];exact hi);rw [<- e1];exact P.lt i hl
theorem Pj{p:Array Nat}{n:Nat}(P:Pm p n):p.toList.Perm (List.range n):=by
 rw [JF (FE P) Fr];intro v;rw [Ce];refine⟨λh=>ya P h,λh=>CN λhn=>?_⟩;have l1:p.toList.length<=((List.range n).erase v).length:=Nt.bn (FE P) λz hz=>by
  have bf:z≠v:=λe=>hn<|e ▸ hz;exact(Eh bf).mpr<|Ce.mpr<|ya P hz
 rw [Dc<|Ce.mpr h,Al,P.size,Bh] at l1;omega
def Hd(h:Heap)(v:Value)(z:Str):Prop:=∃ a o xs n t,v = .ref a/\h.get? a=some o/\o.cls = .type "tuple"/\o.data = .seq xs n/\xs[0]?=some (.str z t)
theorem Hd.keep{h h':Heap}{v:Value}{z:Str}(x:Hd h v z)(k:∀ a o,v = .ref a->h.get? a=some o->h'.get? a=some o):Hd h' v z:=by
 obtain⟨a,o,xs,n,t,e,h1,h2⟩:=x;exact⟨a,o,xs,n,t,e,k a o e h1,h2⟩
def mP(h:Heap)(vs:List Value)(zs:List Str):Prop:=vs.length=zs.length/\∀(i:Nat) v z,vs[i]?=some v->zs[i]?=some z->Hd h v z
def ltZ(zs:List Str)(i j:Nat):Bool:=decide ((zs.getD i ⟨#[]⟩).cps.toList < (zs.getD j ⟨#[]⟩).cps.toList)
section
variable{prog:Program}{w:World}{A:Around}{E:Value->Shared->Prop}{s:Shared}
theorem FG:∀{h:Heap} {vs:List Value} {zs:List Str},mP h vs zs->∃ fs,KatTups h vs fs/\fs.length=vs.length/\∀ f∈fs,∃ z t,f=Value.str z t
 | h,[],_,_=>⟨[],KatTups.nil,rfl,λf hf=>by cases hf⟩
 | h,v :: vs,[],hh=>by have:=hh.1;simp at this
 | h,v :: vs,z :: zs,hh=>by
  obtain⟨fs,k1,k2,k3⟩:=FG (h:=h) (vs:=vs) (zs:=zs) ⟨by have:=hh.1;simpa using this,λi a b h1 h2=>hh.2 (i+1) a b (by simpa using h1)<|by simpa using h2⟩;obtain⟨a,o,xs,n,t,rfl,h1,h2,h3,h4⟩:=hh.2 0 v z rfl rfl;refine⟨.str z t :: fs,KatTups.cons h1 h2 h3 h4 k1,by rw [As,As,k2],λf hf=>?_⟩
  rcases Am.mp hf with rfl | hf
  ·exact⟨z,t,rfl⟩
  ·exact k3 f hf
theorem Pk{x y:Value}{z u:Str}{Q:Bool->Shared->Prop}(hx:Hd s.heap x z)(hy:Hd s.heap y u)(bf:z≠u)(h:Q (decide (z.cps.toList < u.cps.toList)) s):wpAny (model prog w) A (keyLt' (tuples' true) x y) Q E s:=by
 obtain⟨a,o,xs,n,t,rfl,h1,h2,h3,h4⟩:=hx;obtain⟨b,o',ys,n',t',rfl,g1,g2,g3,g4⟩:=hy;refine kat_lt h1 h3 g1 g3 ?_;have ex:∃ r,xs.toList = .str z t :: r:=by
  have:xs.toList[0]?=some (.str z t):=by rw [Ap];exact h4
  cases e:xs.toList with
  | nil=>rw [e] at this;cases this
  | cons c r=>rw [e] at this;cases this;exact⟨r,rfl⟩
 have ey:∃ r,ys.toList = .str u t' :: r:=by
  have:ys.toList[0]?=some (.str u t'):=by rw [Ap];exact g4
  cases e:ys.toList with
  | nil=>rw [e] at this;cases this
  | cons c r=>rw [e] at this;cases this;exact⟨r,rfl⟩
 obtain⟨rx,ex⟩:=ex;obtain⟨ry,ey⟩:=ey;rw [ex,ey];show KatLex prog w A true _ Q ((.str z t,.str u t') :: rx.zip ry) 0 s;refine kat_cons<|eqBool_str ?_;have:(z == u)=false:=beq_eq_false_iff_ne.mpr bf;rw [this];exact kat_no<|oneLt_str h
theorem FH{a b:Str}(h:a.cps.toList=b.cps.toList):a=b:=by
 apply Str.ext';exact Fq.mp h
theorem Pl{vs:List Value}{zs:List Str}(hh:mP s.heap vs zs)(hn:zs.Nodup):dy (ltZ zs) (kas_ask prog w A (tuples' true) vs) (λs'=>s'=s) vs.length:=by
 have hl:=hh.1;have gz:∀ i,(hi:i < zs.length)->zs.getD i ⟨#[]⟩=zs[i]:=λi hi=>by simp [hi]
 have gv:∀ i,(hi:i < vs.length)->vs.getD i Value.none=vs[i]:=λi hi=>by simp [hi]
 have ne:∀ i j,(hi:i < zs.length)->(hj:j < zs.length)->i≠j->zs[i]≠zs[j]:=λi j hi hj cX e=>by
  rcases Nat.lt_or_gt_of_ne cX with c | c
  ·exact Bd.mp (Bj.mp hn) i j hi hj c e
  ·exact Bd.mp (Bj.mp hn) j i hj hi c e.symm
 refine⟨λi j C s' hi hj cX hs hC=>?_,λi j hi hj cX=>?_,λi j h=>?_,λi j k h1 h2=>?_⟩
 ·subst hs;unfold kas_ask;rw [gv i hi,gv j hj];have e:ltZ zs i j=decide (zs[i].cps.toList < zs[j].cps.toList):=by unfold ltZ;rw [gz i (by omega),gz j<|by omega]
  refine Pk (hh.2 i _ zs[i] (Aa hi)<|Aa<|by omega) (hh.2 j _ zs[j] (Aa hj)<|Aa<|by omega) (ne i j (by omega) (by omega) cX) ?_;rw [<- e];exact hC s' rfl
 ·unfold ltZ;rw [gz i (by omega),gz j (by omega),FN,FN]
  by_cases c:zs[i].cps.toList < zs[j].cps.toList
  ·exact .inl c
  ·by_cases d:zs[j].cps.toList < zs[i].cps.toList
   ·exact .inr d
   ·have:zs[i].cps.toList=zs[j].cps.toList:=List.le_antisymm (Gx.mp d)<|Gx.mp c;exact absurd (FH this)<|ne i j (by omega) (by omega) cX
 ·unfold ltZ at h ⊢;have:=CQ h;exact CG λq=>Dv _<|Fx this q
 ·unfold ltZ at h1 h2 ⊢;exact CK<|Fx (CQ h1)<|CQ h2
theorem map_range(vs:List Value):(List.range vs.length).map (λi=>vs.getD i Value.none)=vs:=by
 apply JV
 ·simp
 ·intro i h1 h2;simp [h2]
theorem Pn{a:Addr}{vs:List Value}{zs:List Str}{n:Nat}{P:Fin->Shared->Prop}(ho:s.heap.get? a=some (seqObj "list" vs.toArray n))(jP:∀ v∈vs,v ≠ .ref a)(hh:mP s.heap vs zs)(hn:zs.Nodup)(qD:vs.length < 64)
  (h:∀ p:Array Nat,Pm p vs.length->Up (ltZ zs) p vs.length->P (.done<|.ret .none) {s with heap:=sortedHeap s.heap a vs (List.toArray<|p.toList.map λi=>vs.getD i Value.none)}) :
  wpAny (model prog w) A (Builtin.«list.sort» ⟨[.ref a],[]⟩) P E s:=by
 rw [list_sort_plain];have ha:a < s.heap.objs.size:=Bb ho;have jQ:vs.length<=sizeLine:=by rw [DY];omega
 refine BP<|listItems_at ho rfl ?_;refine BP<|FZ ho rfl ?_;obtain⟨e1,qF⟩:∃ e1,(s.heap.update a<|Obj.mapSeq λ_=>#[]).get? a=some (seqObj "list" #[] e1):=⟨_,get?_update_seq ho λ_=>#[]⟩;refine BP<|HW qF rfl ?_;refine BP<|wpAny_newTuple ?_;refine BP<|JG ?_;refine DG ?_;have jR:(((s.heap.update a<|Obj.mapSeq λ_=>#[]).push<|seqObj "tuple" vs.toArray 0).push<|seqObj "list" #[] 0).get? a=some (seqObj "list" #[] e1):=Aj _<|Aj _ qF;show wpAny (model prog w) A _ P E {s with heap:=((s.heap.update a<|Obj.mapSeq λ_=>#[]).push<|seqObj "tuple" vs.toArray 0).push (seqObj "list" #[] 0)};have mQ:mP (((s.heap.update a<|Obj.mapSeq λ_=>#[]).push<|seqObj "tuple" vs.toArray 0).push<|seqObj "list" #[] 0) vs zs:=⟨hh.1,λi v z h1 h2=>(hh.2 i v z h1 h2).keep λb o e q=>by
  have hb:a≠b:=λe2=>jP v (Au h1) (by rw [e,e2]);exact Aj _<|Aj _<|(Bx _ _ hb).trans q⟩
 dsimp only
 have hsz:vs.toArray.size=vs.length:=by simp
 by_cases h2:vs.toArray.size < 2
 ·rw [BK h2,BK h2];refine BP<|BX ?_;rw [StateT.run_pure];refine BP<|BX ?_
  dsimp only
  have e5:(arrOf<|SortSt.mk' general' (vs.toArray.zip vs.toArray) #[] 7 none).map (·.2)=vs.toArray:=by
   show(vs.toArray.zip vs.toArray).map (·.2)=_;apply Fq.mp;simp [Fs]
  refine BP<|HW jR rfl ?_;refine BP (FZ jR rfl ?_ (hsz2:=by rw [e5,hsz];omega));simp only [HS,Ec,DW];refine BX ?_;rw [e5];have fin:=h (List.toArray<|List.range vs.length) (E9 _) λi j hi hj=>by rw [hsz] at h2;omega
  have e6:(List.toArray<|List.range vs.length).toList.map (λi=>vs.getD i Value.none)=vs:=map_range vs;rw [e6] at fin;exact fin
 ·rw [BJ h2,BJ h2];obtain⟨fs,k1,k2,k3⟩:=FG mQ;rw [hsz] at h2;refine BP<|kat_kind (T:= .type "str") k1 (by omega) (λf hf=>?_) (by decide) ?_
  ·obtain⟨z,t,rfl⟩:=k3 f hf;exact Looks.of_pure rfl
  refine BP<|CP (kat_run (prog:=prog) (w:=w) (A:=A) (E:=E) (κ:=tuples' true) (ks:=vs) (vs:=vs) (Q:=λag s'=>s'={s with heap:=((s.heap.update a<|Obj.mapSeq λ_=>#[]).push<|seqObj "tuple" vs.toArray 0).push (seqObj "list" #[] 0)}/\∃ p:Array Nat,Pm p vs.length/\Up (ltZ zs) p vs.length/\arrOf ag=p.map (kas_item<|vs.toArray.zip vs.toArray)/\failedOf ag=none)
   (G:=λp s'=>s'={s with heap:=((s.heap.update a<|Obj.mapSeq λ_=>#[]).push<|seqObj "tuple" vs.toArray 0).push (seqObj "list" #[] 0)}/\Pm p vs.length/\Up (ltZ zs) p vs.length) rfl (by omega) qD (λp ag s' _ a2 a3 a4=>⟨a4.1,p,a4.2.1,a4.2.2,a2,a3⟩)
   (Pg (Pl (s:={s with heap:=((s.heap.update a<|Obj.mapSeq λ_=>#[]).push<|seqObj "tuple" vs.toArray 0).push (seqObj "list" #[] 0)}) mQ hn) (by omega) rfl λp s' e P U=>⟨e,P,U⟩)) ?_ λ_ _ e=>e
  rintro ⟨⟨⟩,ag⟩ s' ⟨rfl,p,P,U,uL,hf⟩
  dsimp only
  have e3:=kat_snds (ks:=vs) (vs:=vs) rfl uL;refine BP<|HW jR rfl ?_;refine BP (FZ jR rfl ?_ (hsz2:=by rw [e3,Av,Ab,Al,P.size];omega));rw [hf];simp only [HS,Ec,DW];refine BX ?_;rw [e3];exact h p P U
theorem Pp{l:Addr}{vs:List Value}{zs:List Str}{Q:Value->Shared->Prop}(hl:s.heap.IsList l vs.toArray)(hh:mP s.heap vs zs)(hn:zs.Nodup)(qD:vs.length < 64)
  (h:∀(h':Heap) (e:Nat) (p:Array Nat),Pm p vs.length->Up (ltZ zs) p vs.length->(∀ b u,s.heap.get? b=some u->h'.get? b=some u)->h'.get? (s.heap.objs.size+1)=some (seqObj "list" (List.toArray<|p.toList.map λi=>vs.getD i Value.none) e)->Q (.ref<|s.heap.objs.size+1) {s with heap:=h'}) :
  wpAny (model prog w) A (call (.builtin "sorted") [.ref l]) Q E s:=by
 have jQ:vs.length<=sizeLine:=by rw [DY];omega
 refine Calls.call_function_entry kind_sorted plain_sorted entry_sorted (args_sorted1 _) ?_;unfold Builtin.«sorted»;refine BP (m:=checkCount "sorted" 1 1 _)<|BX ?_;refine BP<|collect_list (vs:=vs) hl ?_;refine BP<|JG ?_;have hsz:((s.heap.push<|seqObj "list" #[] 0).update s.heap.objs.size (Obj.mapSeq (·++vs.toArray))).objs.size=s.heap.objs.size+1:=by
  rw [Heap.size_update,size_push']
 have kz:(((s.heap.push<|seqObj "list" #[] 0).update s.heap.objs.size (Obj.mapSeq (·++vs.toArray))).push<|seqObj "list" vs.toArray 0).get? (s.heap.objs.size+1)=some (seqObj "list" vs.toArray 0):=by
  rw [<- hsz];exact Bt _ rfl
 have yb:mP (((s.heap.push<|seqObj "list" #[] 0).update s.heap.objs.size (Obj.mapSeq (·++vs.toArray))).push<|seqObj "list" vs.toArray 0) vs zs:=⟨hh.1,λi v z h1 h2=>(hh.2 i v z h1 h2).keep λb o e q=>
  Aj _ ((Bx _ _<|Er<|Bb q).trans<|Aj _ q)⟩
 have bf:∀ v∈vs,v ≠ .ref (s.heap.objs.size+1):=λv hv e=>by
  obtain⟨i,hi⟩:=At hv;have hl:=hh.1;have qG:i < zs.length:=by have:=(Ac.mp hi).1;omega
  obtain⟨b,o,xs,n,t,e2,h1,_⟩:=hh.2 i v zs[i] hi<|Aa qG;rw [e2] at e;cases e;exact absurd (JL<|Bb h1)<|Cd _
 show wpAny _ _ _ _ _ {s with heap:=((s.heap.push<|seqObj "list" #[] 0).update s.heap.objs.size (Obj.mapSeq (·++vs.toArray))).push (seqObj "list" vs.toArray 0)};rw [hsz];refine BP<|DG<|wpAny_call_entry slot_list_sort ⟨_,kz,rfl⟩ entry_list_sort (Pn kz bf yb hn qD λp P U=>⟨_,rfl,?_⟩)<|args_list_sort _;obtain⟨e,he⟩:=sortedAll_at s.heap vs<|List.toArray<|p.toList.map λi=>vs.getD i Value.none;exact BX ⟨_,rfl,h _ e p P U (λb u hb=>sortedAll_old hb) he⟩
end
end bW
namespace L2
open PySem PySem.Spec PyProof.Rows bW
theorem yc:∀{ts:List Addr} {its:List Value},aj (ts.map V.ref) its->its=ts.map Value.ref
 | [],its,r=>r.zero
 | t :: ts,its,r=>by
  cases r with
  | cons h1 h2=>
   rw [yc h2];have:_=Value.ref t:=h1;rw [this];rfl
theorem yd:∀(ts:List Addr),aj (ts.map V.ref)<|ts.map Value.ref
 | []=> .nil
 | t :: ts=> .cons rfl (yd ts)
theorem Pq{α β:Type}(xs:List α)(ys:List β)(h:xs.length=ys.length)(a:α)(b:β):(List.range xs.length).map (λi=>(xs.getD i a,ys.getD i b))=xs.zip ys:=by
 apply JV
 ·simp [h]
 ·intro i h1 h2;have hx:i < xs.length:=by simp at h1;exact h1
  have hy:i < ys.length:=by omega
  simp [hx,hy]
section
variable{X:Cx}{σ:St}{H:Hp}
theorem Pr:fF X (.builtin "sorted") (λxs H Q=>∃(l:Addr) (ts:List Addr) (zs:List Str),xs=[.ref l]/\av X.K H l (ts.map V.ref)/\ts.length=zs.length/\zs.Nodup/\ts.length < 64/\(∀(i:Nat) t z,ts[i]?=some t->zs[i]?=some z->∃ r,H t=some (.tup<|.str z :: r)) /\
  ∀(r:Addr) (ps:List<|Addr×Str),H r=none->ps.Perm (ts.zip zs)->ps.Pairwise (λa b=>a.2.cps.toList < b.2.cps.toList)->Q (.ref r) (upd H r<|.lst<|ps.map λp=> .ref p.1)):=by
 intro pins s σ H xs us Q I r h;obtain⟨l,ts,zs,rfl,hl,hlen,hn,qD,hd,q⟩:=h;obtain⟨u,rfl,ru⟩:=vals1 r;cases (show u=Value.ref l from ru);obtain⟨its,rv,pl,_⟩:=I.list hl;have ei:=yc rv;subst ei;have hh:mP s.heap (ts.map Value.ref) zs:=by
  refine⟨by rw [Ab];exact hlen,λi v z h1 h2=>?_⟩;rw [Ad,Ax] at h1;obtain⟨t,ht,rfl⟩:=h1;obtain⟨rr,hr⟩:=hd i t z ht h2;obtain⟨its,r3,tp,_⟩:=I.tuple<|bo.of hr;cases r3 with
  | cons a1 a2=>
   obtain⟨tk,rfl⟩:=a1;obtain⟨o,ho,hc,n,hd2⟩:=tp;exact⟨t,o,_,n,tk,rfl,ho,hc,hd2,rfl⟩
 refine Pp pl.isList hh hn (by rw [Ab];exact qD) λh' e p P U kp he=>?_;rw [Ab] at P U;have gp:∀ i,i < ts.length->g p i < ts.length:=P.lt;have ye:p.toList.length=ts.length:=by rw [Al];exact P.size
 have e1:(p.toList.map λi=>(ts.map Value.ref).getD i Value.none)=((p.toList.map λi=>(ts.getD i 0,zs.getD i ⟨#[]⟩)).map λx=>x.1).map Value.ref:=by
  rw [Be,Be];refine Bk λi hi=>?_;have az:=ya P hi;show(ts.map Value.ref).getD i Value.none=Value.ref (ts.getD i 0);simp [az]
 refine⟨.ref _,_,I.iM (s':={s with heap:=h'}) kp rfl rfl (Gb _) (show aq X.prog X.w _ h' _ (.lst<|(p.toList.map λi=>(ts.getD i 0,zs.getD i ⟨#[]⟩)).map λx=>V.ref x.1) from ?_),rfl,q _ (p.toList.map λi=>(ts.getD i 0,zs.getD i ⟨#[]⟩)) (I.aw.fresh<|Gb _) ?_ ?_⟩
 ·refine⟨by rw [Ab,Ab,ye,DY];omega,_,e,?_,he⟩;rw [e1];have:=yd<|(p.toList.map λi=>(ts.getD i 0,zs.getD i (⟨#[]⟩:Str))).map λx=>x.1;rw [Be] at this;exact this
 ·rw [<- Pq ts zs hlen 0 ⟨#[]⟩];exact(Pj P).map _
 ·rw [Bd];intro i j hi hj cX;rw [Ab] at hi hj;have:=U i j cX (by omega);have q1:g p i=p.toList[i]:=gP (by rw [<- Ap];exact Aa hi);have q2:g p j=p.toList[j]:=gP (by rw [<- Ap];exact Aa hj);rw [q1,q2] at this;rw [JW,JW];exact CQ this
theorem ox{e1 e2 e3:Expr}{k:Nat}{pos:Pos}{t:Addr}{x y z:V}{R:St->Hp->Prop}(hc:X.calm=true)(ht:bo X.K H t [x,y,z])(h:Eg X e1 x σ H λσ1 H1=>Eg X e2 y σ1 H1 λσ2 H2=>Eg X e3 z σ2 H2 R)
  (hn:(assignEach [e1,e2,e3] X.env).length=3:=by rfl) (cb:(assignEach [e1,e2,e3] X.env).findIdx? (·.1)=none:=by rfl)
  (gB:(assignEach [e1,e2,e3] X.env).map (·.2)=assign e1 X.env :: (assignEach [e2,e3] X.env).map (·.2):=by rfl) (kB:(assignEach [e2,e3] X.env).map (·.2)=assign e2 X.env :: (assignEach [e3] X.env).map (·.2):=by rfl) (uv:(assignEach [e3] X.env).map (·.2)=assign e3 X.env :: (assignEach [] X.env).map (·.2):=by rfl) :
  Eg X (.Tuple [e1,e2,e3] k pos) (.ref t) σ H R:=
 uk (BA (t:=nS (λv σ H Q=>Eg X e1 v σ H Q)<|nS (λv σ H Q=>Eg X e2 v σ H Q)<|nS (λv σ H Q=>Eg X e3 v σ H Q) lO) hc (pd my (pd my (pd my A9 uv) kB) gB) hn cb)
  ⟨t,_,rfl,ht,rfl,_,_,rfl,h.mono λσ1 H1 h1=>⟨_,_,rfl,h1.mono λσ2 H2 h2=>⟨_,_,rfl,h2.mono λσ3 H3 q=>⟨rfl,q⟩⟩⟩⟩
end
end L2
namespace Nt
open PySem L2
theorem Pu{X:Cx}{H:Hp}{k:Nat}(z:Str):oo X H k (.str z) (.str z) true:=by
 have:=Oh (X:=X) (H:=H) (k:=k) (x:= .str z) (y:= .str z) rfl rfl;have e:wF (.str z) (.str z)=true:=by show(z == z)=true;simp
 rw [e] at this;exact this
theorem Pw{X:Cx}{H:Hp}{a b:Addr}{zs:List Str}(ha:H a=some (Ls zs))(hb:H b=some (Ls zs)):oq X H 1 (.ref a) (.ref b) true:=by
 have q:=EE (X:=X) (k:=0) (λ_=>true) (av.of (K:=X.K) ha) (av.of (K:=X.K) hb) rfl λj x y hx hy=>by
  rw [hx] at hy;cases hy;rw [Ad,Ax] at hx;obtain⟨z,_,rfl⟩:=hx;exact Pu z
 rw [EF] at q;exact q
theorem Px{X:Cx}{H:Hp}{k:Nat}{a b:Addr}(h:oq X H k (.ref a) (.ref b) true):oo X H k (.ref a) (.ref b) true:=by
 by_cases e:a=b
 ·subst e;exact Oi
 ·exact Oj e h
open PyProof.Rows (sortedS)
theorem Py(a b c:List Str)(h:∀ z,z∈c↔(if z∈a then z∉b else z∈b)):∀ zs:List Str,(zs.filter λz=>c.contains z).length % 2=((zs.filter λz=>a.contains z).length+(zs.filter λz=>b.contains z).length) % 2
 | []=>rfl
 | z :: r=>by
  have ih:=Py a b c h r;have hz:=h z;have ca:=λ(l:List Str)=>(Gj (as:=l) (a:=z));simp only [Ft]
  by_cases ha:z∈a <;> by_cases hb:z∈b
  ·have hc:z∉c:=λq=>by have:=hz.mp q;rw [BK ha] at this;exact this hb
   rw [BK<|(ca a).mpr ha,BK<|(ca b).mpr hb,BJ λq=>hc<|(ca c).mp q,As,As];omega
  ·have hc:z∈c:=hz.mpr (by rw [BK ha];exact hb);rw [BK<|(ca a).mpr ha,BJ λq=>hb<|(ca b).mp q,BK<|(ca c).mpr hc,As,As];omega
  ·have hc:z∈c:=hz.mpr (by rw [BJ ha];exact hb);rw [BJ λq=>ha<|(ca a).mp q,BK<|(ca b).mpr hb,BK<|(ca c).mpr hc,As,As];omega
  ·have hc:z∉c:=λq=>by have:=hz.mp q;rw [BJ ha] at this;exact hb this
   rw [BJ λq=>ha<|(ca a).mp q,BJ λq=>hb<|(ca b).mp q,BJ λq=>hc<|(ca c).mp q];exact ih
theorem FI{a:List Str}(hn:a.Nodup):∀ l:List Str,(l.filter λz=>a.contains z).length=(a.map λz=>l.count z).sum
 | []=>by
  have:∀ a:List Str,(a.map λz=>([]:List Str).count z).sum=0:=λa=>by
   induction a with
   | nil=>rfl
   | cons x r ih=>rw [Bq,Dd,ih];rfl
  rw [this];rfl
 | y :: l=>by
  have ih:=FI hn l;have key:∀ a:List Str,(a.map λz=>(y :: l).count z).sum=(a.map λz=>l.count z).sum+a.count y:=λa=>by
   induction a with
   | nil=>rfl
   | cons x r ih=>
    rw [Bq,Dd,ih,Bq,Dd,KN,KN]
    by_cases h:y=x
    ·rw [BK (by simp [h]),BK<|by simp [h]];omega
    ·rw [BJ (by simpa using h),BJ<|by simpa using λq=>h<|Eq.symm q];omega
  rw [key,Ft,<- ih,hn.count]
  by_cases h:y∈a
  ·rw [BK<|Gj.mpr h,BK h,As]
  ·rw [BJ λq=>h<|Gj.mp q,BJ h];rfl
theorem yf{n:Net}(T:eJ n){ss:List Str}(hn:ss.Nodup)(hm:∀ z∈ss,z∈aD n):2 * ss.length<=(aD n).length:=by
 have h:=FI hn<|aD n;have e:∀ l:List Str,(∀ z∈l,z∈aD n)->(l.map λz=>(aD n).count z).sum=2 * l.length:=λl=>by
  induction l with
  | nil=>intro _;rfl
  | cons x r ih=>
   intro hl;rw [Bq,Dd,ih λz hz=>hl z<|Ar _ hz,T x<|hl x<|Ah ..,As];omega
 rw [e ss hm] at h;rw [<- h];exact List.length_filter_le _ _
theorem Pz{x y:Str}(h:x≠y):x.cps.toList < y.cps.toList\/y.cps.toList < x.cps.toList:=by
 by_cases q:x.cps.toList < y.cps.toList
 ·exact .inl q
 ·rcases List.le_iff_lt_or_eq.mp (Gx.mp q) with q | q
  ·exact .inr q
  ·exact absurd (bZ.gu q).symm h
theorem FK(x:Str):∀ sd:List Str,aK sd->∃ oy,aK oy/\∀ y,y∈oy↔y=x\/y∈sd
 | [],_=>⟨[x],KD _ _,λy=>by simp⟩
 | z :: r,h=>by
  have h:=Cq.mp h
  by_cases e:x=z
  ·subst e;exact⟨x :: r,Cq.mpr h,λy=>by simp⟩
  ·rcases Pz e with q | q
   ·refine⟨x :: z :: r,Cq.mpr ⟨λy hy=>?_,Cq.mpr h⟩,λy=>Am⟩
    rcases Am.mp hy with rfl | hy
    ·exact q
    ·exact Fx q<|h.1 y hy
   ·obtain⟨oy,hs,hm⟩:=FK x r h.2;refine⟨z :: oy,Cq.mpr ⟨λy hy=>?_,hs⟩,λy=>?_⟩
    ·rcases (hm y).mp hy with rfl | hy
     ·exact q
     ·exact h.1 y hy
    ·rw [Am,hm y,Am];exact⟨λk=>by rcases k with k | k | k <;> simp [k],λk=>by rcases k with k | k | k <;> simp [k]⟩
theorem uM:∀ l:List Str,∃ sd,aK sd/\∀ x,x∈sd↔x∈l
 | []=>⟨[],List.Pairwise.nil,λ_=>LK⟩
 | x :: r=>by
  obtain⟨sd,hs,hm⟩:=uM r;obtain⟨oy,d6,qH⟩:=FK x sd hs;exact⟨oy,d6,λy=>by rw [qH y,hm y,Am]⟩
end Nt
namespace Dt
variable{κ:Type}
def X(r:κ->Int):(List κ->Int)->List κ->Int
 | _,[]=>0
 | f,c :: cs=>r c * f cs - X r (λl=>f<|c :: l) cs
def one:List κ->Int
 | []=>1
 | _ :: _=>0
def dt:List (κ->Int)->List κ->Int
 | []=>one
 | r :: rs=>X r<|dt rs
theorem qI(r:κ->Int)(a b:Int):∀(cs:List κ) (f g:List κ->Int),X r (λl=>a * f l+b * g l) cs=a * X r f cs+b * X r g cs
 | [],_,_=>by simp [X]
 | c :: cs,f,g=>by
  show r c * (a * f cs+b * g cs) - X r (λl=>a * f (c :: l)+b * g (c :: l)) cs=_;rw [qI r a b cs (λl=>f<|c :: l) λl=>g<|c :: l];show _=a * (r c * f cs - _)+b * (r c * g cs - _)
  grind
theorem kR(r s:κ->Int)(a b:Int):∀(cs:List κ) (f:List κ->Int),X (λx=>a * r x+b * s x) f cs=a * X r f cs+b * X s f cs
 | [],_=>by simp [X]
 | c :: cs,f=>by
  show(a * r c+b * s c) * f cs - X (λx=>a * r x+b * s x) (λl=>f<|c :: l) cs=_;rw [kR r s a b cs λl=>f<|c :: l];show _=a * (r c * f cs - _)+b * (s c * f cs - _)
  grind
theorem FL(r:κ->Int)(f g:List κ->Int)(cs:List κ):X r (λl=>f l - g l) cs=X r f cs - X r g cs:=by
 have h:=qI r 1 (-1) cs f g;have e:(λl=>1 * f l+-1 * g l)=λl=>f l - g l:=by funext l;grind
 rw [e] at h;rw [h]
 grind
theorem oz(r:κ->Int)(a:Int)(f:List κ->Int)(cs:List κ):X r (λl=>a * f l) cs=a * X r f cs:=by
 have h:=qI r a 0 cs f f;have e:(λl=>a * f l+0 * f l)=λl=>a * f l:=by funext l;grind
 rw [e] at h;rw [h]
 grind
theorem mR(r s:κ->Int):∀(cs:List κ) (f:List κ->Int),X r (X s f) cs=- X s (X r f) cs
 | [],_=>rfl
 | c :: cs,f=>by
  have ih:=mR r s cs λl=>f<|c :: l;have h1:X r (X s f) (c :: cs)=r c * X s f cs - (s c * X r f cs - X r (X s λl=>f<|c :: l) cs):=by
   show r c * X s f cs - X r (λl=>s c * f l - X s (λl'=>f<|c :: l') l) cs=_;rw [FL,oz]
  have h2:X s (X r f) (c :: cs)=s c * X r f cs - (r c * X s f cs - X s (X r λl=>f<|c :: l) cs):=by
   show s c * X r f cs - X s (λl=>r c * f l - X r (λl'=>f<|c :: l') l) cs=_;rw [FL,oz]
  rw [h1,h2]
  grind
theorem FO(r:κ->Int)(cs:List κ)(f:List κ->Int):X r (X r f) cs=0:=by
 have:=mR r r cs f;omega
theorem qJ{r:κ->Int}:∀{cs:List κ},(∀ c∈cs,r c=0)->∀ f,X r f cs=0
 | [],_,_=>rfl
 | c :: cs,h,f=>by
  show r c * f cs - X r (λl=>f<|c :: l) cs=0;rw [h c<|Ah ..,qJ λd hd=>h d<|Ar _ hd];simp
section
variable(l:κ->κ->Int)
def mm(K:List κ):Int:=dt (K.map l) K
def MM(K:List κ)(i j:κ):Int:=X (l i) (dt<|K.map l)<|j :: K
structure Red(K:List κ)(i:κ)(c:Int)(R:κ->Int):Prop where
 eq:∀ cs,X R (dt<|K.map l) cs=c * X (l i) (dt<|K.map l) cs
 no:∀ k∈K,R k=0
 nz:c≠0
variable{l}
theorem Red.val{K:List κ}{i:κ}{c:Int}{R:κ->Int}(h:Red l K i c R)(j:κ):c * MM l K i j=mm l K * R j:=by
 have e:=h.eq<|j :: K;have e2:X R (dt<|K.map l) (j :: K)=R j * mm l K:=by
  show R j * dt (K.map l) K - X R _ K=_;rw [qJ h.no];show _=R j * dt (K.map l) K;omega
 rw [e2] at e;show c * X (l i) (dt<|K.map l) (j :: K)=_;rw [<- e,Int.mul_comm]
theorem Red.step{K:List κ}{i k:κ}{c d:Int}{R S:κ->Int}(h:Red l K i c R)(g:Red l K k d S)(hk:S k≠0):Red l (k :: K) i (S k * c) (λx=>S k * R x+(- R k) * S x):=by
 refine⟨λcs=>?_,λx hx=>?_,?_⟩
 ·show X _ (X (l k)<|dt<|K.map l) cs=S k * c * X (l i) (X (l k)<|dt<|K.map l) cs;rw [kR];have e1:X R (X (l k)<|dt<|K.map l) cs=c * X (l i) (X (l k)<|dt<|K.map l) cs:=by
   rw [mR,show X R (dt<|K.map l)=λcs=>c * X (l i) (dt<|K.map l) cs from funext h.eq,oz,mR (l i)<|l k]
   grind
  have e2:X S (X (l k)<|dt<|K.map l) cs=0:=by
   rw [mR,show X S (dt<|K.map l)=λcs=>d * X (l k) (dt<|K.map l) cs from funext g.eq,oz,FO]
   grind
  rw [e1,e2]
  grind
 ·rcases Am.mp hx with e | hx
  ·rw [e]
   grind
  ·show S k * R x+(- R k) * S x=0;rw [h.no x hx,g.no x hx];simp
 ·exact KQ hk h.nz
def Good(l:κ->κ->Int):List κ->Prop
 | []=>True
 | k :: K=>mm l (k :: K)≠0/\Good l K
theorem Good.ne{K:List κ}(h:Good l K):mm l K≠0:=by
 cases K with
 | nil=>exact λh=>(nomatch h)
 | cons k K=>exact h.1
theorem uN:∀{K:List κ},Good l K->∀ i,∃ c R,Red l K i c R
 | [],_,i=>⟨1,l i,λcs=>(by grind),λk hk=>(nomatch hk),by decide⟩
 | k :: K,h,i=>by
  obtain⟨c,R,hi⟩:=uN h.2 i;obtain⟨d,S,hk⟩:=uN h.2 k;refine⟨_,_,hi.step hk λz=>?_⟩;have e:=hk.val k;rw [z] at e;have:d * MM l K k k=0:=by omega
  rcases Int.mul_eq_zero.mp this with q | q
  ·exact hk.nz q
  ·exact h.1 q
theorem jS{K:List κ}{k:κ}(h:Good l<|k :: K)(i j:κ):MM l K i j * MM l K k k - MM l K i k * MM l K k j=mm l K * MM l (k :: K) i j:=by
 obtain⟨c,R,hi⟩:=uN h.2 i;obtain⟨d,S,hk⟩:=uN h.2 k;have hS:S k≠0:=λz=>by
  have e:=hk.val k;rw [z] at e;have:d * MM l K k k=0:=by omega
  rcases Int.mul_eq_zero.mp this with q | q
  ·exact hk.nz q
  ·exact h.1 q
 have e1:=hi.val j;have e2:=hi.val k;have e3:=hk.val k;have e4:=hk.val j;have e5:=(hi.step hk hS).val j;have e6:mm l (k :: K)=MM l K k k:=rfl;rw [e6] at e5;have hm:MM l K k k≠0:=h.1;have UG:=h.2.ne;refine JM (a:=c * d * MM l K k k) (KQ (KQ hi.nz hk.nz) hm) ?_;generalize MM l (k :: K) i j=z at *;generalize MM l K i j=a at *;generalize MM l K k k=b at *;generalize MM l K i k=p at *;generalize MM l K k j=q at *;generalize mm l K=m at *;generalize R j=r1 at *;generalize R k=r2 at *;generalize S k=s1 at *;generalize S j=s2 at *;have f1:c * d * (a * b - p * q)=m * m * (s1 * r1+-r2 * s2):=by grind
 have f2:c * d * b * (m * z)=m * m * (s1 * c * z):=by grind
 rw [f2,e5];have f3:c * d * b * (a * b - p * q)=b * (c * d * (a * b - p * q)):=by grind
 rw [f3,f1]
 grind
theorem uO(hl:∀ i j,l i j=l j i):∀{K:List κ},Good l K->∀ i j,MM l K i j=MM l K j i
 | [],_,i,j=>by
  show l i j * 1 - 0=l j i * 1 - 0;rw [hl i j]
 | k :: K,h,i,j=>by
  have e1:=jS h i j;have e2:=jS h j i;have s1:=uO hl h.2 i j;have s2:=uO hl h.2 i k;have s3:=uO hl h.2 j k;refine JM h.2.ne ?_;rw [<- e1,<- e2,s1,s2,s3]
  grind
end
def Alt(f:List κ->Int):Prop:=∀ p c d q,f (p++c :: d :: q)=- f (p++d :: c :: q)
theorem PB:Alt (one:List κ->Int):=λp c d q=>by
 cases p <;> rfl
theorem Alt.cons{f:List κ->Int}(h:Alt f)(c:κ):Alt λl=>f (c :: l):=λp a b q=>h (c :: p) a b q
theorem FR(r:κ->Int):∀(p:List κ) {f:List κ->Int},Alt f->∀ c d q,X r f (p++c :: d :: q)=- X r f (p++d :: c :: q)
 | [],f,h,c,d,q=>by
  have e:(λl=>f<|c :: d :: l)=λl=>(-1) * f (d :: c :: l):=by
   funext l
   have:=h [] c d l;show f (c :: d :: l)=-1 * f (d :: c :: l);have this:f (c :: d :: l)=- f (d :: c :: l):=this;omega
  show r c * f (d :: q) - (r d * f (c :: q) - X r (λl=>f<|c :: d :: l) q)=-(r d * f (c :: q) - (r c * f (d :: q) - X r (λl=>f<|d :: c :: l) q));rw [e,oz];omega
 | a :: p,f,h,c,d,q=>by
  have ih:=FR r p (h.cons a) c d q;have e:=h p c d q;show r a * f (p++c :: d :: q) - X r (λl=>f<|a :: l) (p++c :: d :: q)=-(r a * f (p++d :: c :: q) - X r (λl=>f<|a :: l) (p++d :: c :: q));rw [ih,e]
  grind
theorem FU:∀ rs:List<|κ->Int,Alt<|dt rs
 | []=>PB
 | r :: rs=>λp c d q=>FR r p (FU rs) c d q
theorem PD{C C':List κ}(h:C.Perm C'):∃ s:Int,s * s=1/\(∀(l:κ->κ->Int) cs,dt (C'.map l) cs=s * dt (C.map l) cs)/\∀ f:List κ->Int,Alt f->f C'=s * f C:=by
 induction h with
 | nil=>exact⟨1,rfl,λl cs=>(by grind),λf _=>(by grind)⟩
 | cons c _ ih=>
  obtain⟨s,hs,h1,h2⟩:=ih;refine⟨s,hs,λl cs=>?_,λf hf=>h2 _<|hf.cons c⟩;show X (l c) (dt<|List.map l _) cs=s * X (l c) (dt<|List.map l _) cs;rw [<- oz,show dt (List.map l _)=λcs=>s * dt (List.map l _) cs from funext (h1 l)]
 | swap a b q=>
  refine⟨-1,rfl,λl cs=>?_,λf hf=>?_⟩
  ·show X (l a) (X (l b) _) cs=-1 * X (l b) (X (l a) _) cs;rw [mR];omega
  ·have:=hf [] a b q;show f (a :: b :: q)=-1 * f (b :: a :: q);have this:f (a :: b :: q)=- f (b :: a :: q):=this;omega
 | trans _ _ yg iR=>
  obtain⟨s,hs,h1,h2⟩:=yg;obtain⟨t,ht,g1,g2⟩:=iR;refine⟨t * s,by grind,λl cs=>?_,λf hf=>?_⟩
  ·rw [g1,h1]
   grind
  ·rw [g2 f hf,h2 f hf]
   grind
theorem gD(l:κ->κ->Int){C C':List κ}(h:C.Perm C'):mm l C'=mm l C:=by
 obtain⟨s,hs,h1,h2⟩:=PD h;show dt (C'.map l) C'=dt (C.map l) C;rw [h1,h2 _<|FU _];have:s * (s * dt (C.map l) C)=s * s * dt (C.map l) C:=by grind
 rw [this,hs]
 grind
variable{κ:Type}
theorem yh{r r':κ->Int}{S:κ->Prop}(hr:∀ c,S c->r c=r' c):∀(cs:List κ) {f f':List κ->Int},(∀ l,(∀ c∈l,S c)->f l=f' l)->(∀ c∈cs,S c)->X r f cs=X r' f' cs
 | [],_,_,_,_=>rfl
 | c :: cs,f,f',hf,hs=>by
  have h1:=hs c<|Ah ..;have h2:∀ d∈cs,S d:=λd hd=>hs d<|Ar _ hd;show r c * f cs - X r (λl=>f<|c :: l) cs=r' c * f' cs - X r' (λl=>f'<|c :: l) cs;rw [hr c h1,hf cs h2,yh hr cs (f:=λl=>f<|c :: l) (f':=λl=>f'<|c :: l) (λl hl=>hf _ λd hd=>?_) h2]
  rcases Am.mp hd with e | hd
  ·rw [e];exact h1
  ·exact hl d hd
theorem FV{S:κ->Prop}{l l':κ->κ->Int}:∀(C:List κ),(∀ x∈C,∀ j,S j->l x j=l' x j)->∀ cs,(∀ c∈cs,S c)->dt (C.map l) cs=dt (C.map l') cs
 | [],_,_,_=>rfl
 | x :: C,h,cs,hs=>yh (h x<|Ah ..) cs (λk hk=>FV C (λy hy=>h y<|Ar _ hy) k hk) hs
theorem uP{l l':κ->κ->Int}{C:List κ}(h:∀ x∈C,∀ j∈C,l x j=l' x j):mm l C=mm l' C:=FV (S:=λj=>j∈C) C h C λ_ hc=>hc
def Lp(W:List<|κ->Int)(x j:κ):Int:=(W.map λw=>w x * w j).sum
theorem qK(w:κ->Int)(W:List<|κ->Int)(x j:κ):Lp (w :: W) x j=w x * w j+Lp W x j:=rfl
theorem PF(W:List<|κ->Int)(x j:κ):Lp W x j=Lp W j x:=by
 unfold Lp
 congr 1
 exact Bk λw _=>Int.mul_comm ..
def D(C:List κ)(W:List<|κ->Int):Int:=mm (Lp W) C
theorem PH(a:κ)(C:List κ):D (a :: C) []=0:=qJ (λ_ _=>rfl) _
theorem PJ{C:List κ}{w:κ->Int}{W:List (κ->Int)}(h:∀ x∈C,w x=0):D C (w :: W)=D C W:=uP λx hx j _=>by
 rw [qK,h x hx];omega
theorem FX{C:List κ}{w:κ->Int}{W:List (κ->Int)}(h:∀ x∈C,w x=0):C.map (Lp<|w :: W)=C.map (Lp W):=Bk λx hx=>by
 funext j
 rw [qK,h x hx];omega
theorem FY{a:κ}{C:List κ}{w:κ->Int}{W:List (κ->Int)}(h:∀ x∈C,w x=0)(ha:w a * w a=1):D (a :: C) (w :: W)=D (a :: C) W+D C W:=by
 show X (Lp (w :: W) a) (dt<|C.map<|Lp<|w :: W) (a :: C)=X (Lp W a) (dt<|C.map<|Lp W) (a :: C)+dt (C.map<|Lp W) C;rw [FX h,show Lp (w :: W) a=λj=>w a * w j+1 * Lp W a j by funext j;rw [qK];omega,kR];have e:X w (dt<|C.map<|Lp W) (a :: C)=w a * dt (C.map<|Lp W) C:=by
  show w a * dt (C.map<|Lp W) C - X w _ C=_;rw [qJ h];omega
 rw [e]
 grind
def cm [DecidableEq κ] (a b:κ) (r:κ->Int) (j:κ):Int:=if j=a then r a+r b else r j
section
variable [DecidableEq κ] {a b:κ}
structure Cm(a b:κ)(f f':List κ->Int):Prop where
 no:∀ l,a∉l->f' l=f l
 on:∀ p q,a∉p->a∉q->f' (p++a :: q)=f (p++a :: q)+f (p++b :: q)
theorem Cm.cons{f f':List κ->Int}(h:Cm a b f f'){c:κ}(hc:c≠a):Cm a b (λl=>f<|c :: l) λl=>f' (c :: l):=
 ⟨λl hl => h.no _ λhm => by
  rcases Am.mp hm with e | hm
  ·exact hc e.symm
  ·exact hl hm,λp q hp hq=>h.on (c :: p) q (λhm=>by
  rcases Am.mp hm with e | hm
  ·exact hc e.symm
  ·exact hp hm) hq⟩
theorem F1(r:κ->Int){f f':List κ->Int}(h:∀ l,a∉l->f' l=f l)(l:List κ)(hl:a∉l):X (cm a b r) f' l=X r f l:=
 yh (S:=λc=>c≠a) (λc hc=>BJ hc) l (λk hk=>h k λhm=>hk a hm rfl) λc hc e=>hl<|e ▸ hc
theorem F2(r:κ->Int):∀(p:List κ) {f f':List κ->Int},Cm a b f f'->∀ q,a∉p->a∉q->X (cm a b r) f' (p++a :: q)=X r f (p++a :: q)+X r f (p++b :: q)
 | [],f,f',h,q,_,hq=>by
  show cm a b r a * f' q - X (cm a b r) (λl=>f'<|a :: l) q=(r a * f q - X r (λl=>f<|a :: l) q)+(r b * f q - X r (λl=>f<|b :: l) q);rw [F1 r (f:=λl=>1 * f (a :: l)+1 * f (b :: l)) (λl hl=>by have:=h.on [] l Dr hl;show f' (a :: l)=_;have this:f' (a :: l)=f (a :: l)+f (b :: l):=this;rw [this];omega) q hq,qI,h.no q hq,show cm a b r a=r a+r b from BK rfl]
  grind
 | c :: p,f,f',h,q,hp,hq=>by
  have hc:c≠a:=λe=>hp<|e ▸ Ah ..;have iS:a∉p:=λhm=>hp<|Ar _ hm;show cm a b r c * f' (p++a :: q) - X (cm a b r) (λl=>f'<|c :: l) (p++a :: q)=(r c * f (p++a :: q) - X r (λl=>f<|c :: l) (p++a :: q))+(r c * f (p++b :: q) - X r (λl=>f<|c :: l) (p++b :: q));rw [F2 r p (h.cons hc) q iS hq,h.on p q iS hq,show cm a b r c=r c from BJ hc]
  grind
theorem yi:∀ rs:List<|κ->Int,Cm a b (dt rs)<|dt<|rs.map<|cm a b
 | []=>⟨λ_ _=>rfl,λp q _ _=>by cases p <;> rfl⟩
 | r :: rs=>⟨λl hl=>F1 r (yi rs).no l hl,λp q hp hq=>F2 r p (yi rs) q hp hq⟩
theorem PK{C:List κ}{w:κ->Int}{W:List (κ->Int)}(hC:∀ x∈C,w x=0)(ha:w a=1)(hb:w b=-1)(UH:a≠b)(na:a∉C):D (a :: b :: C) (w :: W)=D (a :: b :: C) W+D (a :: C) (W.map<|cm a b):=by
 have L':∀ x j,Lp (W.map<|cm a b) x j=cm a b (λj=>cm a b (λx=>Lp W x j) x) j:=λx j=>by
  unfold Lp cm;rw [Be]
  induction W with
  | nil=>by_cases h1:j=a <;> by_cases h2:x=a <;> simp [h1,h2]
  | cons v W ih=>
   simp only [Bq,Dd,Function.comp] at ih ⊢;rw [ih]
   by_cases h1:j=a <;> by_cases h2:x=a <;> simp only [h1,h2,DP,DW] <;> grind
 have e1:D (a :: C) (W.map<|cm a b)=dt (((λj=>1 * Lp W a j+1 * Lp W b j) :: C.map (Lp W)).map<|cm a b) (a :: C):=by
  show X (Lp (W.map<|cm a b) a) (dt<|C.map<|Lp<|W.map<|cm a b) (a :: C)=X (cm a b λj=>1 * Lp W a j+1 * Lp W b j) (dt<|(C.map<|Lp W).map<|cm a b) (a :: C);rw [Be,show C.map (Lp<|W.map<|cm a b)=C.map (cm a b ∘ Lp W) from Bk λx hx=>by
   funext j
   rw [L'];have nx:x≠a:=λe=>na<|e ▸ hx;simp only [cm,Function.comp,nx,DW],show Lp (W.map<|cm a b) a=cm a b λj=>1 * Lp W a j+1 * Lp W b j by
   funext j
   rw [L'];simp only [cm,DP]
   by_cases h:j=a <;> simp only [h,DP,DW] <;> omega]
 have e2:=(yi (a:=a) (b:=b)<|(λj=>1 * Lp W a j+1 * Lp W b j) :: C.map (Lp W)).on [] C Dr na;rw [e1];have e2:dt (((λj=>1 * Lp W a j+1 * Lp W b j) :: C.map (Lp W)).map<|cm a b) (a :: C)=X (λj=>1 * Lp W a j+1 * Lp W b j) (dt<|C.map<|Lp W) (a :: C)+X (λj=>1 * Lp W a j+1 * Lp W b j) (dt<|C.map<|Lp W) (b :: C):=e2;rw [e2];show X (Lp (w :: W) a) (X (Lp (w :: W) b)<|dt<|C.map<|Lp<|w :: W) (a :: b :: C)=X (Lp W a) (X (Lp W b)<|dt<|C.map<|Lp W) (a :: b :: C)+_;rw [FX hC,show Lp (w :: W) a=λj=>1 * w j+1 * Lp W a j by funext j;rw [qK,ha];omega,show Lp (w :: W) b=λj=>(-1) * w j+1 * Lp W b j by funext j;rw [qK,hb];omega];generalize dt (C.map<|Lp W)=ω;rw [show X (λj=>(-1) * w j+1 * Lp W b j) ω=λl=>(-1) * X w ω l+1 * X (Lp W b) ω l from funext λl=>kR ..,qI,kR,kR,FO,mR (Lp W a) w];have e3:∀ θ:List κ->Int,X w θ (a :: b :: C)=θ (b :: C)+θ (a :: C):=λθ=>by
  show w a * θ (b :: C) - (w b * θ (a :: C) - X w _ C)=_;rw [qJ hC,ha,hb];omega
 rw [e3,e3,kR,kR];omega
end
def ed [DecidableEq κ] (e:κ×κ) (x:κ):Int:=(if x=e.1 then 1 else 0) - (if x=e.2 then 1 else 0)
section
variable [DecidableEq κ]
def De(C:List κ)(E:List<|κ×κ):Int:=D C<|E.map ed
def rl(b a:κ)(e:κ×κ):κ×κ:=(if e.1=b then a else e.1,if e.2=b then a else e.2)
theorem PL{l l':List Int}(h:l.Perm l'):l.sum=l'.sum:=by
 induction h with
 | nil=>rfl
 | cons a _ ih=>simp only [Dd,ih]
 | swap a b l=>simp only [Dd];omega
 | trans _ _ h1 h2=>rw [h1,h2]
theorem PN{W W':List (κ->Int)}(h:W.Perm W')(x j:κ):Lp W x j=Lp W' x j:=PL<|h.map _
theorem kS{C C':List κ}{E E':List (κ×κ)}(h:C.Perm C')(g:E.Perm E'):De C E=De C' E':=by
 show mm _ C=mm _ C';rw [gD _ h];exact uP λx _ j _=>PN (g.map ed) x j
theorem yj(E:List<|κ×κ):De ([]:List κ) E=1:=rfl
theorem F3(a:κ)(C:List κ):De (a :: C) []=0:=PH a C
theorem F4{e:κ×κ}{x:κ}(h1:x≠e.1)(h2:x≠e.2):ed e x=0:=by
 unfold ed;rw [BJ h1,BJ h2];rfl
theorem yk{a b x:κ}{C:List κ}(ha:a∉C)(hb:b∉C)(hx:x∈C):ed (a,b) x=0:=F4 (e:=(a,b)) (λz:x=a=>ha<|z ▸ hx) λz:x=b=>hb<|z ▸ hx
theorem PQ{C:List κ}{e:κ×κ}{E:List (κ×κ)}(h:e.1=e.2\/(e.1∉C/\e.2∉C)):De C (e :: E)=De C E:=PJ λx hx=>by
 rcases h with h | ⟨h1,h2⟩
 ·unfold ed;rw [h];omega
 ·exact F4 (λz=>h1<|z ▸ hx) λz=>h2<|z ▸ hx
theorem F5{a b:κ}{C:List κ}{E:List (κ×κ)}(ha:a∉C)(hb:b∉C)(dw:a≠b):De (a :: C) ((a,b) :: E)=De (a :: C) E+De C E/\De (a :: C) ((b,a) :: E)=De (a :: C) E+De C E:=by
 refine⟨FY (λx hx=>yk ha hb hx) ?_,FY (λx hx=>yk hb ha hx) ?_⟩
 ·unfold ed;rw [BK rfl,BJ dw];rfl
 ·unfold ed;rw [BJ dw,BK rfl];rfl
theorem F6{a b:κ}(dw:a≠b)(e:κ×κ){x:κ}(hx:x≠b):cm a b (ed e) x=ed (rl b a e) x:=by
 obtain⟨p,q⟩:=e;unfold cm ed rl
 by_cases h0:x=a
 ·subst h0;simp only [DP]
  by_cases h1:p=b <;> by_cases h2:q=b <;> simp only [h1,h2,dw,Ne.symm dw,DP,DW] <;> first | omega | skip
  ·by_cases h3:x=q
   ·simp [h3,h2,Ne.symm h2]
   ·simp [h3,h2,Ne.symm h2]
  ·by_cases h3:x=p
   ·simp [h3,h1,Ne.symm h1]
   ·simp [h3,h1,Ne.symm h1]
  ·simp [Ne.symm h1,Ne.symm h2]
 ·simp only [h0,DW]
  by_cases h1:p=b <;> by_cases h2:q=b <;> simp [h0,h1,h2,hx]
theorem PR{a b:κ}{C:List κ}{E:List (κ×κ)}(ha:a∉C)(hb:b∉C)(dw:a≠b):De (a :: b :: C) ((a,b) :: E)=De (a :: b :: C) E+De (a :: C) (E.map<|rl b a):=by
 have h:=PK (W:=E.map ed) (C:=C) (w:=ed (a,b)) (a:=a) (b:=b) (λx hx=>yk ha hb hx) (by unfold ed;rw [BK rfl,BJ dw];rfl) (by unfold ed;rw [BJ<|Ne.symm dw,BK rfl];rfl) dw ha;have e:D (a :: C) ((E.map ed).map<|cm a b)=De (a :: C) (E.map<|rl b a):=uP λx hx j hj=>by
  have nb:∀ y∈a :: C,y≠b:=λy hy z=>by
   rcases Am.mp hy with k | k
   ·exact dw<|k.symm.trans z
   ·exact hb<|z ▸ k
  unfold Lp;rw [Be,Be,Be,Be]
  congr 1
  refine Bk λe _=>?_;show cm a b (ed e) x * cm a b (ed e) j=ed (rl b a e) x * ed (rl b a e) j;rw [F6 dw e<|nb x hx,F6 dw e<|nb j hj]
 rw [e] at h;exact h
end
variable{κ:Type} [DecidableEq κ]
def mg(C:List κ)(p q:κ)(E:List<|κ×κ):Int:=if p=q\/(p∉C/\q∉C) then 0 else if q∉C then De (C.erase p) E else if p∉C then De (C.erase q) E else De (C.erase q) (E.map<|rl q p)
theorem uQ{C:List κ}(hC:C.Nodup)(p q:κ)(E:List<|κ×κ):De C ((p,q) :: E)=De C E+mg C p q E:=by
 unfold mg
 by_cases h:p=q\/(p∉C/\q∉C)
 ·rw [BK h,PQ (e:=(p,q)) h];omega
 rw [BJ h];have mS:p≠q:=λz=>h<|.inl z
 by_cases hq:q∉C
 ·rw [BK hq];have hp:p∈C:=CN λz=>h<|.inr ⟨z,hq⟩;have pe:=Fp hp;rw [kS pe<|List.Perm.refl _,kS (E:=E) pe<|List.Perm.refl _];exact(F5 (λz=>((hC.mem_erase_iff).mp z).1 rfl) (λz=>hq<|Dq z) mS).1
 rw [BJ hq];have hq:q∈C:=CN hq;have pe:=Fp hq
 by_cases hp:p∉C
 ·rw [BK hp,kS pe<|List.Perm.refl _,kS (E:=E) pe<|List.Perm.refl _];exact(F5 (λz=>((hC.mem_erase_iff).mp z).1 rfl) (λz=>hp<|Dq z)<|Ne.symm mS).2
 rw [BJ hp];have hp:p∈C:=CN hp;have iS:p∈C.erase q:=(hC.mem_erase_iff).mpr ⟨mS,hp⟩;have F7:=Fp iS;have F8:C.Perm (p :: q :: (C.erase q).erase p):=pe.trans<|(F7.cons q).trans<|List.Perm.swap ..;have nq:q∉(C.erase q).erase p:=λz=>((hC.mem_erase_iff).mp<|Dq z).1 rfl;have np:p∉(C.erase q).erase p:=λz=>(((hC.erase q).mem_erase_iff).mp z).1 rfl;rw [kS F8<|List.Perm.refl _,kS (E:=E) F8<|List.Perm.refl _,kS (E:=E.map<|rl q p) F7<|List.Perm.refl _];exact PR np nq mS
theorem oA:∀(E:List<|κ×κ) (C:List κ),C.Nodup->0<=De C E/\De C E<=2 ^ E.length
 | [],[],_=>by rw [yj];exact⟨by decide,by show(1:Int)<=1;decide⟩
 | [],a :: C,_=>by rw [F3];exact⟨by decide,by show(0:Int)<=1;decide⟩
 | (p,q) :: E,C,hC=>by
  have h1:=oA E C hC;have h2:0<=mg C p q E/\mg C p q E<=2 ^ E.length:=by
   unfold mg
   split
   ·exact⟨Int.le_refl _,MP h1.1 h1.2⟩
   split
   ·exact oA E _<|hC.erase p
   split
   ·exact oA E _<|hC.erase q
   ·have:=oA (E.map<|rl q p) _<|hC.erase q;rw [Ab] at this;exact this
  rw [uQ hC,As,Int.pow_succ];omega
termination_by E=>E.length
decreasing_by all_goals simp [Ab]
inductive eN (C:List κ) (E:List<|κ×κ):κ->Prop
 | out {x:κ}:x∉C->eN C E x
 | on {x y:κ}:(x,y)∈E\/(y,x)∈E->eN C E y->eN C E x
theorem eN.cross{C:List κ}{E:List (κ×κ)}{x:κ}(h:eN C E x):x∈C->∃ p q,((p,q)∈E\/(q,p)∈E)/\p∈C/\q∉C:=by
 induction h with
 | out h=>exact λz=>absurd z h
 | @on x y e _ ih=>
  intro hx
  by_cases hy:y∈C
  ·exact ih hy
  ·exact⟨x,y,e,hx,hy⟩
theorem fJ:∀(n:Nat) (C:List κ),C.length=n->C.Nodup->∀ E:List<|κ×κ,(∀ x∈C,eN C E x)->0 < De C E
 | 0,C,hn,_,E,_=>by
  rw [Ck.mp hn,yj];decide
 | n+1,C,hn,hC,E,h=>by
  have bf:C≠[]:=λz=>by rw [z] at hn;cases hn
  obtain⟨x,hx⟩:=Fu C bf;obtain⟨p,q,he,hp,hq⟩:=(h x hx).cross hx;have mS:p≠q:=λz=>hq<|z ▸ hp;have rest:∀(e:κ×κ),e∈E->(e=(p,q)\/e=(q,p))->0 < De (C.erase p) (E.erase e):=λe yl qL=>by
   refine fJ n (C.erase p) (by rw [Dc hp,hn];rfl) (hC.erase p) _ λy hy=>?_;have fH:=(hC.mem_erase_iff).mp hy;have go:∀{z:κ},eN C E z->eN (C.erase p) (E.erase e) z:=by
    intro z hz
    induction hz with
    | out h=>exact .out λk=>h<|Dq k
    | @on u v k _ ih=>
     by_cases hu:u∈C.erase p
     ·have oB:=(hC.mem_erase_iff).mp hu;have F9:u≠q:=λz=>hq<|z ▸ oB.2;refine .on ?_ ih
      rcases k with k | k
      ·refine .inl<|(Eh λz=>?_).mpr k
       rcases qL with r | r <;> rw [r] at z <;> cases z
       ·exact oB.1 rfl
       ·exact F9 rfl
      ·refine .inr<|(Eh λz=>?_).mpr k
       rcases qL with r | r <;> rw [r] at z <;> cases z
       ·exact F9 rfl
       ·exact oB.1 rfl
     ·exact .out hu
   exact go<|h y fH.2
  have fin:∀ e,e∈E->(e=(p,q)\/e=(q,p))->0 < De C E:=λe yl qL=>by
   have r:=rest e yl qL;rw [kS (List.Perm.refl C)<|Fp yl];have b:=(oA (E.erase e) C hC).1
   rcases qL with rfl | rfl
   ·rw [uQ hC];have:mg C p q (E.erase (p,q))=De (C.erase p) (E.erase (p,q)):=by
     unfold mg;rw [BJ (λz=>by rcases z with z | z;exact mS z;exact z.1 hp),BK hq]
    omega
   ·rw [uQ hC];have:mg C q p (E.erase (q,p))=De (C.erase p) (E.erase (q,p)):=by
     unfold mg;rw [BJ (λz=>by rcases z with z | z;exact mS z.symm;exact z.2 hp),BJ λz=>z hp,BK hq]
    omega
  rcases he with he | he
  ·exact fin _ he<|.inl rfl
  ·exact fin _ he<|.inr rfl
theorem F'{a b:κ}{C:List κ}(ha:a∉C)(hb:b∉C)(E:List<|κ×κ):De C (E.map<|rl b a)=De C E:=uP λx hx j hj=>by
 have q:∀ y∈C,∀ e:κ×κ,ed (rl b a e) y=ed e y:=λy hy e=>by
  obtain⟨s,t⟩:=e;have na:y≠a:=λz=>ha<|z ▸ hy;have nb:y≠b:=λz=>hb<|z ▸ hy;unfold ed rl
  by_cases h1:s=b <;> by_cases h2:t=b <;> simp [h1,h2,na,nb]
 unfold Lp;rw [Be,Be,Be]
 congr 1
 refine Bk λe _=>?_;show ed (rl b a e) x * ed (rl b a e) j=ed e x * ed e j;rw [q x hx,q j hj]
def cn:List Nat->List (Nat×Nat)->Int
 | part,[]=>if part.all (λh=>h == part.headD 0)=true then 1 else 0
 | part,(x,y) :: es=>cn part es+if part.getD x 0=part.getD y 0 then 0 else cn (part.map λh=>if h=part.getD y 0 then part.getD x 0 else h) es
theorem ym:∀(es:List<|Nat×Nat) (part C:List Nat),part≠[]->(∀ e∈es,e.1 < part.length/\e.2 < part.length)->C.Nodup->(∀ a,a∈C↔a∈part/\a≠part.headD 0)->cn part es=De C (es.map λe=>(part.getD e.1 0,part.getD e.2 0))
 | [],part,C,h0,_,hC,hm=>by
  show(if part.all (λh=>h == part.headD 0)=true then(1:Int) else 0)=De C [];cases C with
  | nil=>
   rw [BK,yj];rw [Dj];intro a ha
   by_cases e:a=part.headD 0
   ·exact beq_iff_eq.mpr e
   ·exact nomatch (hm a).mpr ⟨ha,e⟩
  | cons a C=>
   rw [BJ,F3];intro h;obtain⟨h1,h2⟩:=(hm a).mp<|Ah ..;exact h2<|beq_iff_eq.mp<|Dj.mp h a h1
 | (x,y) :: es,part,C,h0,hb,hC,hm=>by
  obtain⟨hx,hy⟩:=hb _<|Ah ..;have hx:x < part.length:=hx;have hy:y < part.length:=hy;have mU:∀ e∈es,e.1 < part.length/\e.2 < part.length:=λe he=>hb e<|Ar _ he;have ma:part.getD x 0∈part:=by rw [Az,Aa hx];exact Bp hx
  have mb:part.getD y 0∈part:=by rw [Az,Aa hy];exact Bp hy
  show cn part es+(if part.getD x 0=part.getD y 0 then 0 else cn (part.map λh=>if h=part.getD y 0 then part.getD x 0 else h) es)=De C ((part.getD x 0,part.getD y 0) :: es.map λe=>(part.getD e.1 0,part.getD e.2 0));rw [uQ hC,ym es part C h0 mU hC hm]
  congr 1
  by_cases dw:part.getD x 0=part.getD y 0
  ·rw [BK dw];unfold mg;rw [BK<|.inl dw]
  rw [BJ dw];have lk:∀ k,k < part.length->(part.map λh=>if h=part.getD y 0 then part.getD x 0 else h).getD k 0=if part.getD k 0=part.getD y 0 then part.getD x 0 else part.getD k 0:=λk hk=>by
   simp only [Az,Ad,Aa hk,Fc,JX]
  have hd:(part.map λh=>if h=part.getD y 0 then part.getD x 0 else h).headD 0=if part.headD 0=part.getD y 0 then part.getD x 0 else part.headD 0:=by
   cases part with
   | nil=>exact absurd rfl h0
   | cons a r=>rfl
  have mh:part.headD 0∈part:=by
   cases part with
   | nil=>exact absurd rfl h0
   | cons a r=>exact Ah ..
  have yn:∀ c,c∈(part.map λh=>if h=part.getD y 0 then part.getD x 0 else h)↔c∈part/\c≠part.getD y 0:=λc=>by
   rw [Ak]
   constructor
   ·rintro ⟨d,hd,rfl⟩
    by_cases e:d=part.getD y 0
    ·rw [BK e];exact⟨ma,dw⟩
    ·rw [BJ e];exact⟨hd,e⟩
   ·rintro ⟨h1,h2⟩;exact⟨c,h1,BJ h2⟩
  have PU:(es.map λe=>((part.map λh=>if h=part.getD y 0 then part.getD x 0 else h).getD e.1 0,(part.map λh=>if h=part.getD y 0 then part.getD x 0 else h).getD e.2 0))=(es.map λe=>(part.getD e.1 0,part.getD e.2 0)).map (rl (part.getD y 0)<|part.getD x 0):=by
   rw [Be];refine Bk λe he=>?_;rw [lk e.1 (mU e he).1,lk e.2 (mU e he).2];rfl
  have use:∀ C',C'.Nodup->(∀ c,c∈C'↔(c∈part/\c≠part.getD y 0)/\c≠if part.headD 0=part.getD y 0 then part.getD x 0 else part.headD 0) ->
    cn (part.map λh=>if h=part.getD y 0 then part.getD x 0 else h) es=De C' ((es.map λe=>(part.getD e.1 0,part.getD e.2 0)).map<|rl (part.getD y 0)<|part.getD x 0):=λC' hn hc=>by
   rw [ym es _ C' (λz=>h0<|Dz.mp z) (λe he=>by rw [Ab];exact mU e he) hn λc=>by rw [hd,yn,hc],PU]
  generalize (es.map λe=>(part.getD e.1 0,part.getD e.2 0))=E at *;generalize part.getD x 0=a at *;generalize part.getD y 0=b at *;unfold mg
  by_cases oD:part.headD 0=b
  ·
   have nb:b∉C:=λz=>((hm b).mp z).2 oD.symm;have ha:a∈C:=(hm a).mpr ⟨ma,λz=>dw<|z.trans oD⟩;rw [BJ (λz=>by rcases z with z | z;exact dw z;exact z.1 ha),BK nb,use (C.erase a) (hC.erase a) λc=>by
    rw [hC.mem_erase_iff,hm c,BK oD,oD]
    constructor
    ·rintro ⟨h1,h2,h3⟩;exact⟨⟨h2,h3⟩,h1⟩
    ·rintro ⟨⟨h2,h3⟩,h1⟩;exact⟨h1,h2,h3⟩]
   exact F' (λz=>((hC.mem_erase_iff).mp z).1 rfl) (λz=>nb<|Dq z) E
  ·have qM:b∈C:=(hm b).mpr ⟨mb,λz=>oD z.symm⟩;have cc:∀ c,c∈C.erase b↔(c∈part/\c≠b)/\c≠if part.headD 0=b then a else part.headD 0:=λc=>by
    rw [hC.mem_erase_iff,hm c,BJ oD]
    constructor
    ·rintro ⟨h1,h2,h3⟩;exact⟨⟨h2,h1⟩,h3⟩
    ·rintro ⟨⟨h2,h1⟩,h3⟩;exact⟨h1,h2,h3⟩
   rw [BJ (λz=>by rcases z with z | z;exact dw z;exact z.2 qM),BJ λz=>z qM,use (C.erase b) (hC.erase b) cc]
   by_cases ha:a∉C
   ·rw [BK ha];exact F' (λz=>ha<|Dq z) (λz=>((hC.mem_erase_iff).mp z).1 rfl) E
   ·rw [BJ ha]
section
variable{κ:Type}
theorem Gy{l:κ->κ->Int}:∀{K:List κ},(∀ a b,K=a++b->mm l b≠0)->Good l K
 | [],_=>trivial
 | k :: K,h=>⟨h [] _ rfl,Gy λa b e=>h (k :: a) b<|by rw [e];rfl⟩
end
variable{κ:Type} [DecidableEq κ]
theorem eN.less{C p:List κ}{E:List (κ×κ)}(hp:∀ x∈p,x∈C){x:κ}(h:eN C E x):eN p E x:=by
 induction h with
 | out h=>exact .out λz=>h<|hp _ z
 | on k _ ih=>exact .on k ih
def hl(a b x j:κ):Int:=if a=b then 0 else if x=a then(if j=a then 1 else 0) - (if j=b then 1 else 0) else 0
theorem mV(a b x j:κ):ed (a,b) x * ed (a,b) j=hl a b x j+hl b a x j:=by
 unfold ed hl
 by_cases h0:a=b
 ·subst h0;simp
 ·by_cases h1:x=a <;> by_cases h2:x=b <;> by_cases h3:j=a <;> by_cases h4:j=b <;> simp_all
theorem jT(F:Nat->Nat->Int)(a y j:Nat):(if y=a then(if j=a then F a a+1 else F a j) else F y j)=F y j+hl (a+1) 0 (y+1) (j+1):=by
 unfold hl
 by_cases h1:y=a
 ·subst h1
  by_cases h2:j=y
  ·subst h2;simp
  ·simp [h2]
 ·simp [h1]
theorem jU(F:Nat->Nat->Int){a c:Nat}(h:c≠a)(y j:Nat):(if y=a then(if j=c then F a c - 1 else if j=a then F a a+1 else F a j) else F y j)=F y j+hl (a+1) (c+1) (y+1) (j+1):=by
 unfold hl
 by_cases h1:y=a
 ·subst h1
  by_cases h2:j=c
  ·subst h2;simp [h,Ne.symm h];omega
  ·by_cases h3:j=y
   ·subst h3;simp [h2]
   ·simp [h2,h3,Ne.symm h]
 ·simp [h1]
end Dt
namespace Nt
open PySem L2
theorem yo{α:Type}:∀{l:List α},l.Nodup->∀{i j:Nat} {x:α},l[i]?=some x->l[j]?=some x->i=j
 | [],_,i,j,x,h,_=>by simp at h
 | a :: l,hn,i,j,x,h1,h2=>by
  obtain⟨na,hl⟩:=By.mp hn;cases i with
  | zero=>
   cases j with
   | zero=>rfl
   | succ j=>
    cases h1;rw [Cu] at h2;exact absurd (Au h2) na
  | succ i=>
   cases j with
   | zero=>
    cases h2;rw [Cu] at h1;exact absurd (Au h1) na
   | succ j=>
    rw [Cu] at h1 h2;rw [yo hl h1 h2]
def rn(n:Net)(p:Str):Nat:=(n.map (·.1)).idxOf p
def bX(n:Net)(ls:List Lk):List (Nat×Nat):=ls.map λx=>(rn n x.2.1,rn n x.2.2)
theorem yp{n:Net}{p:Str}(h:p∈n.map (·.1)):rn n p < n.length/\(n.map (·.1))[rn n p]?=some p:=by
 have hl:rn n p < (n.map (·.1)).length:=List.idxOf_lt_length_iff.mpr h;refine⟨by rw [Ab] at hl;exact hl,?_⟩;rw [Aa hl]
 congr 1
 exact List.getElem_idxOf hl
theorem jo{n:Net}(hN:(n.map (·.1)).Nodup){r:Nat}(h:r < n.length):rn n (bt n r)=r:=by
 have e:(n.map (·.1))[r]?=some (bt n r):=by rw [Ad,Aa h,kO h];rfl
 exact yo hN (yp<|Au e).2 e
theorem gQ{n:Net}{z:Str}{e:End}(h:e∈pos n z):e.1 < n.length/\z∈row n e.1:=by
 have h:=cu.mp h;unfold jM at h;have hz:=Au h;refine⟨?_,hz⟩
 by_cases hl:e.1 < n.length
 ·exact hl
 ·unfold row at hz;rw [Br<|by omega] at hz;cases hz
theorem PV{n:Net}(T:eJ n)(hN:(n.map (·.1)).Nodup){x:Lk}(h:iN n x):(rn n x.2.1 < n.length/\(n.map (·.1))[rn n x.2.1]?=some x.2.1)/\(rn n x.2.2 < n.length/\(n.map (·.1))[rn n x.2.2]?=some x.2.2):=by
 obtain⟨a,b,hp,h1,h2⟩:=h;have la:=(gQ (n:=n) (z:=x.1) (e:=a)<|by rw [hp];simp).1;have lb:=(gQ (n:=n) (z:=x.1) (e:=b)<|by rw [hp];simp).1;have ma:bt n a.1∈n.map (·.1):=by rw [kO la];exact Ak.mpr ⟨_,Bp la,rfl⟩
 have mb:bt n b.1∈n.map (·.1):=by rw [kO lb];exact Ak.mpr ⟨_,Bp lb,rfl⟩
 rw [h1,h2];exact⟨yp ma,yp mb⟩
theorem uR{n:Net}{x:Lk}(h:iN n x):x.1∈aD n:=by
 obtain⟨a,b,hp,_⟩:=h;have:=qk n x.1;rw [hp] at this;exact Ga.mp<|by rw [<- this];exact Nat.succ_pos _
theorem PX{n:Net}(T:eJ n){ls:List Lk}(so:ls.Pairwise λx y=>x.1.cps.toList < y.1.cps.toList)(mem:∀ x,x∈ls↔iN n x):2 * ls.length<=(aD n).length:=by
 have hn:(ls.map (·.1)).Nodup:=List.Pairwise.map (λx:Lk=>x.1) (R:=λx y:Lk=>x.1.cps.toList < y.1.cps.toList) (λx y h e=>by
  rw [e] at h;exact Dv _ h) so
 have:=yf T hn λz hz=>by
  obtain⟨x,hx,rfl⟩:=Ak.mp hz;exact uR<|(mem x).mp hx
 rw [Ab] at this;omega
theorem bA(m:Nat):((List.range m).map (·+1)).Nodup:=by
 refine List.Pairwise.map _ (R:=λa b=>a≠b) (λa b h e=>h<|by omega) Fr
theorem b4{m x:Nat}:x∈(List.range m).map (·+1)↔1<=x/\x<=m:=by
 rw [Ak]
 constructor
 ·rintro ⟨a,ha,rfl⟩;have:=Ce.mp ha;omega
 ·rintro ⟨h1,h2⟩;exact⟨x - 1,Ce.mpr (by omega),by omega⟩
theorem PY{n:Net}(T:eJ n){ls:List Lk}(mem:∀ x,x∈ls↔iN n x)(hN:(n.map (·.1)).Nodup){r s:Nat}{t:Str}(hr:t∈row n r)(hs:t∈row n s)(UI:r < n.length)(jQ:s < n.length):r=s\/(r,s)∈bX n ls\/(s,r)∈bX n ls:=by
 obtain⟨i,hi⟩:=At hr;obtain⟨j,hj⟩:=At hs;have ti:jM n (r,i)=some t:=hi;have tj:jM n (s,j)=some t:=hj;obtain⟨a,b,hp,dw,he⟩:=Oy T ti;have uS:(s,j)∈pos n t:=cu.mpr tj;rw [hp] at uS;have lk:(t,bt n a.1,bt n b.1)∈ls:=(mem _).mpr ⟨a,b,hp,rfl,rfl⟩;have la:=(gQ (n:=n) (z:=t) (e:=a)<|by rw [hp];simp).1;have lb:=(gQ (n:=n) (z:=t) (e:=b)<|by rw [hp];simp).1;have ml:(a.1,b.1)∈bX n ls:=Ak.mpr ⟨_,lk,by show(rn n<|bt n a.1,rn n<|bt n b.1)=_;rw [jo hN la,jo hN lb]⟩;have uS:(s,j)=a\/(s,j)=b:=by simpa using uS
 rcases he with e1 | e1 <;> rcases uS with e2 | e2
 ·left
  have:=e1.trans e2.symm;exact CJ Prod.fst this
 ·right;left
  rw [<- e1,<- e2] at ml;exact ml
 ·right;right
  rw [<- e1,<- e2] at ml;exact ml
 ·left
  have:=e1.trans e2.symm;exact CJ Prod.fst this
theorem Gz{n:Net}(T:eJ n)(hN:(n.map (·.1)).Nodup)(hg:iO n)(h0:n≠[]){ls:List Lk}(mem:∀ x,x∈ls↔iN n x):∀ x∈(List.range<|n.length - 1).map (·+1),Dt.eN ((List.range<|n.length - 1).map (·+1)) (bX n ls) x:=by
 have cv:0 < n.length:=Gq.mpr h0;have key:=hg (λp=>Dt.eN ((List.range<|n.length - 1).map (·+1)) (bX n ls)<|rn n p) ⟨n[0],Bp cv,by
  have:rn n n[0].1=0:=by
   have:=jo hN cv;rw [kO cv] at this;exact this
  show Dt.eN _ _ (rn n n[0].1);rw [this];exact .out λz=>by have:=(b4.mp z).1;omega⟩ (λr hr s hs t h1 h2 e=>by
   obtain⟨i,hi,rfl⟩:=List.mem_iff_getElem.mp hr;obtain⟨j,hj,rfl⟩:=List.mem_iff_getElem.mp hs;have ei:=jo hN hi;have ej:=jo hN hj;rw [kO hi] at ei;rw [kO hj] at ej;show Dt.eN _ _ (rn n n[j].1);have e:Dt.eN _ _ (rn n n[i].1):=e;rw [ei] at e;rw [ej];have ri:row n i=n[i].2:=by unfold row;rw [Aa hi];rfl
   have rj:row n j=n[j].2:=by unfold row;rw [Aa hj];rfl
   rcases PY T mem hN (r:=i) (s:=j) (t:=t) (by rw [ri];exact h1) (by rw [rj];exact h2) hi hj with k | k | k
   ·rw [<- k];exact e
   ·exact .on (.inr k) e
   ·exact .on (.inl k) e)
 intro x hx;have jq:=b4.mp hx;have az:x < n.length:=by omega
 have:=key n[x]<|Bp az;have ex:=jo hN az;rw [kO az] at ex;have this:Dt.eN _ _ (rn n n[x].1):=this;rw [ex] at this;exact this
end Nt
namespace Dt
def ax(part:List Nat)(x y:Nat):List Nat:=part.map λh=>if h=part.getD y 0 then part.getD x 0 else h
def tr:List Nat->List (Nat×Nat)->Nat->Bool
 | part,[],_=>part.all λh=>h == part.headD 0
 | part,(x,y) :: es,k=>if k % 2=1 then(if part.getD x 0=part.getD y 0 then false else tr (ax part x y) es (k / 2)) else tr part es (k / 2)
theorem GA(f:Nat->Bool):∀ n,((List.range<|2 * n).filter f).length=((List.range n).filter λi=>f<|2 * i).length+((List.range n).filter λi=>f<|2 * i+1).length
 | 0=>rfl
 | n+1=>by
  have ih:=GA f n;rw [show 2 * (n+1)=2 * n+1+1 by omega,Cj,Cj,Cj];simp only [Fz,Ae,Ft,KR];rw [ih];cases f (2 * n) <;> cases f (2 * n+1) <;> simp <;> omega
theorem iT:∀(es:List<|Nat×Nat) (part:List Nat),(((List.range<|2 ^ es.length).filter<|tr part es).length:Int)=cn part es
 | [],part=>by
  show(((List.range 1).filter<|tr part []).length:Int)=if part.all (λh=>h == part.headD 0)=true then 1 else 0;have:tr part [] 0=part.all λh=>h == part.headD 0:=rfl;cases h:part.all λh=>h == part.headD 0 with
  | true=>rw [h] at this;simp [Cj,this]
  | false=>rw [h] at this;simp [Cj,this]
 | (x,y) :: es,part=>by
  rw [As,Nat.pow_succ,Nat.mul_comm,GA];have e1:(λi=>tr part ((x,y) :: es)<|2 * i)=tr part es:=by
   funext i
   show(if(2 * i) % 2=1 then _ else tr part es (2 * i / 2))=_;rw [BJ (by omega),show 2 * i / 2=i by omega]
  have e2:(λi=>tr part ((x,y) :: es)<|2 * i+1)=λi=>if part.getD x 0=part.getD y 0 then false else tr (ax part x y) es i:=by
   funext i
   show(if(2 * i+1) % 2=1 then(if part.getD x 0=part.getD y 0 then false else tr (ax part x y) es ((2 * i+1) / 2)) else _)=_;rw [BK (by omega),show(2 * i+1) / 2=i by omega]
  rw [e1,e2];show _=cn part es+if part.getD x 0=part.getD y 0 then 0 else cn (ax part x y) es;have ih:=iT es part
  by_cases h:part.getD x 0=part.getD y 0
  ·have e3:(List.range<|2 ^ es.length).filter (λi=>if part.getD x 0=part.getD y 0 then false else tr (ax part x y) es i)=[]:=List.filter_eq_nil_iff.mpr λa _=>by rw [BK h];decide
   rw [e3,BK h,Dp];omega
  ·have iR:=iT es<|ax part x y;have e3:(λi=>if part.getD x 0=part.getD y 0 then false else tr (ax part x y) es i)=tr (ax part x y) es:=funext λi=>BJ h;rw [e3,BJ h];omega
theorem mW{V:Nat}(hV:0 < V){es:List (Nat×Nat)}(h:∀ e∈es,e.1 < V/\e.2 < V):cn (List.range V) es=De ((List.range<|V - 1).map (·+1)) es:=by
 have hd:(List.range V).headD 0=0:=by
  cases V with
  | zero=>omega
  | succ V=>rw [List.range_succ_eq_map];rfl
 rw [ym es (List.range V) ((List.range<|V - 1).map (·+1)) (λz=>by have:=CJ List.length z;rw [Bh] at this;exact absurd this<|by simp;omega) (λe he=>by rw [Bh];exact h e he) (Nt.bA _) λa=>by
  rw [Nt.b4,hd,Ce];omega]
 congr 1
 refine(Bk λe he=>?_).trans<|Gc _;have g:∀ k,k < V->(List.range V).getD k 0=k:=λk hk=>by rw [Az,Cr hk];rfl
 rw [g _ (h e he).1,g _ (h e he).2];rfl
end Dt
namespace Nt
open PySem L2
def bB(n:Net)(z:Str):Nat×Nat:=match pos n z with
 | [a,b]=>(a.1,b.1)
 | _=>(0,0)
theorem qN{n:Net}{z:Str}{a b:End}(h:pos n z=[a,b]):bB n z=(a.1,b.1):=by
 unfold bB;rw [h]
theorem qO{n:Net}(T:eJ n){z:Str}(h:z∈aD n):∃ a b,pos n z=[a,b]:=by
 have:=qk n z;rw [T z h] at this
 match hp:pos n z,this with
 | [a,b],_=>exact⟨a,b,rfl⟩
theorem kU{n:Net}(T:eJ n){z:Str}(h:z∈aD n):(bB n z).1 < n.length/\(bB n z).2 < n.length:=by
 obtain⟨a,b,hp⟩:=qO T h;rw [qN hp];exact⟨(gQ (n:=n) (z:=z) (e:=a)<|by rw [hp];simp).1,(gQ (n:=n) (z:=z) (e:=b)<|by rw [hp];simp).1⟩
theorem GH{n:Net}(T:eJ n)(hN:(n.map (·.1)).Nodup){ls:List Lk}(so:ls.Pairwise λx y=>x.1.cps.toList < y.1.cps.toList)(mem:∀ x,x∈ls↔iN n x){ss:List Str}(hs:aK ss)(hm:∀ z,z∈ss↔z∈aD n):bX n ls=ss.map (bB n):=by
 have e:ls.map (·.1)=ss:=by
  refine qw (List.Pairwise.map (λx:Lk=>x.1) (R:=λx y:Lk=>x.1.cps.toList < y.1.cps.toList) (λx y h=>h) so) hs λz=>?_;rw [hm,Ak]
  constructor
  ·rintro ⟨x,hx,rfl⟩;exact uR<|(mem x).mp hx
  ·intro hz;obtain⟨a,b,hp⟩:=qO T hz;exact⟨(z,bt n a.1,bt n b.1),(mem _).mpr ⟨a,b,hp,rfl,rfl⟩,rfl⟩
 rw [<- e,Be];refine Bk λx hx=>?_;obtain⟨a,b,hp,h1,h2⟩:=(mem x).mp hx;have la:=(gQ (n:=n) (z:=x.1) (e:=a)<|by rw [hp];simp).1;have lb:=(gQ (n:=n) (z:=x.1) (e:=b)<|by rw [hp];simp).1;show(rn n x.2.1,rn n x.2.2)=bB n x.1;rw [qN hp,h1,h2,jo hN la,jo hN lb]
end Nt
namespace Y5
open PySem L2 Nt bG
theorem GI{n:Net}{r p:Nat}{z:Str}(hr:r < n.length)(hz:(row n r)[p]?=some z):∃ rest,dL n=(dL (n.take r)++cQ r ((row n r).take p) 0)++(z,(r,p)) :: rest:=by
 have e1:dL n=dL (n.take<|r+1)++fw (0+(n.take<|r+1).length) (n.drop<|r+1):=by
  have:=xM (n.take<|r+1) (n.drop<|r+1) 0;rw [Cc] at this;exact this
 have e2:cQ r (row n r) 0=cQ r ((row n r).take<|p+1) 0++cQ r ((row n r).drop<|p+1) (0+((row n r).take<|p+1).length):=by
  unfold cQ;rw [<- Ai,<- List.zipIdx_append,Cc]
 rw [e1,EJ hr,e2,EK hz];refine⟨cQ r ((row n r).drop<|p+1) (0+((row n r).take<|p+1).length)++fw (0+(n.take<|r+1).length) (n.drop<|r+1),?_⟩;simp only [Bf,List.cons_append,KY]
theorem qP{H H':Hp}{a:Addr}(s:ah H H')(h:H' a=none):H a=none:=ah.free s h
abbrev T3(x:Lk):HO:= .tup [.str x.1,.str x.2.1,.str x.2.2]
def fe(H:Hp)(us:List Addr)(ls:List Lk):Prop:=us.length=ls.length/\∀(j:Nat) u x,us[j]?=some u->ls[j]?=some x->H u=some (T3 x)
theorem fe.keep{H H':Hp}{us:List Addr}{ls:List Lk}(h:fe H us ls)(k:∀ t xs,H t=some (.tup xs)->H' t=some (.tup xs)):fe H' us ls:=⟨h.1,λj u x h1 h2=>k _ _<|h.2 j u x h1 h2⟩
theorem fe.snoc{H:Hp}{us:List Addr}{ls:List Lk}{u:Addr}{x:Lk}(h:fe H us ls)(hu:H u=some (T3 x)):fe H (us++[u]) (ls++[x]):=by
 refine⟨by rw [Ae,Ae,h.1];rfl,λj v y h1 h2=>?_⟩;have hl:=h.1
 by_cases hj:j < us.length
 ·rw [Bc hj] at h1;rw [Bc<|by omega] at h2;exact h.2 j v y h1 h2
 ·rw [Ay<|by omega] at h1 h2;have ie:j - us.length=0:=by
   have:=(Ac.mp h1).1;simp at this;omega
  rw [ie] at h1;rw [<- hl,ie] at h2;cases h1;cases h2;exact hu
def oE(ls:List Lk):Prop:=ls.Pairwise λx y=>x.1.cps.toList < y.1.cps.toList
def qQ:Sp:=λvs H Q _=>∃(R:Addr) (as:List<|Addr×Addr) (n:Net),vs=[.ref R]/\a6 H R as n/\eJ n/\n.length<=1000/\(aD n).length<=80 /\
 ∀(L:Addr) (us:List Addr) (ls:List Lk) (H':Hp),ah H H'->H L=none->H' L=some (.lst<|us.map V.ref)->fe H' us ls->oE ls->(∀ x,x∈ls↔iN n x)->ls.length<=60->Q (.ref L) H'
theorem PZ{n:Net}(T:eJ n){r p:Nat}{z:Str}(hr:r < n.length)(hz:(row n r)[p]?=some z):(fz (dL (n.take r)++cQ r ((row n r).take p) 0) z).length<=1:=by
 obtain⟨rest,h⟩:=GI hr hz;have h1:fz (dL n) z=fz (dL (n.take r)++cQ r ((row n r).take p) 0) z++(r,p) :: fz rest z:=by
  rw [h];unfold fz;rw [Fz,Ai,List.filter_cons_of_pos<|by simp];rfl
 have h2:(fz (dL n) z).length=2:=by
  have:=qk n z;rw [T z<|xL (e:=(r,p)) hz] at this;exact this
 rw [h1,Ae,As] at h2;omega
section
variable{P:Program}{w:World}{K:PySem.W.Frag}{mg:Str->Option Value}{base:Heap}
abbrev P0:List Str:=["rows","met","links","point","ties","tie"]
theorem qR:au P0 ["rows"] (aR xO):=⟨rfl,rfl,rfl,by decide +kernel,rfl,by decide +kernel,by decide +kernel⟩
theorem P4{f:Addr}{fd:FuncData}(F:bL K "links_of" "links_of" xO f fd)(T:Txt mg):aA P w K mg base bP 1 f fd ["rows"] qQ:=by
 refine F.gb qR (λvs H Q E h=>?_) λb0 H vs Q E hr h=>?_
 ·obtain⟨R,as,n,rfl,_⟩:=h;rfl
 obtain⟨R,as,n,rfl,hR,hT,hn,ig,q⟩:=h;have nd:=qR.nd;have jP:=hR.len;have hu:=hr.u1;show Run _ _ _ [some<|.ref R,none,none,none,none,none] H;refine run_set 1 nd<|Oq λdm ow=>?_;refine run_set 2 nd<|gN<|aC ⟨Z0,λM hM=>?_⟩;have jr:M≠dm:=λe=>by rw [e,ae] at hM;cases hM
 have qS:H M=none:=by rw [aG jr] at hM;exact hM
 have s0:ah H (upd (upd H dm<|.dK []) M<|.lst []):=(aI ow _).trans<|aI hM _;have qT:(upd (upd H dm<|.dK []) M<|.lst []) dm=some (.dK []):=by rw [aG<|Ne.symm jr,ae]
 have qU:(upd (upd H dm<|.dK []) M<|.lst []) M=some (.lst []):=ae;show Run _ _ _ [some<|.ref R,some<|.ref dm,some<|.ref M,none,none,none] (upd (upd H dm<|.dK []) M<|.lst []);generalize upd (upd H dm<|.dK []) M (.lst [])=H0 at s0 qT qU;have yq:(dL n).length=(aD n).length:=by rw [<- uz n 0,Ab];rfl
 refine mB<|af 0 ⟨R,rfl,⟨_,av.of<|s0 _ _ hR.lst⟩,mC (xs:=as.map λa=>V.ref a.1) (λr σ H'=>∃(kM:List<|Key×V) (us:List Addr) (ls:List Lk) (u1 u2 u3:Option V),ah H H'/\H' dm=some (.dK kM)/\H' M=some (.lst<|us.map V.ref)/\fe H' us ls/\gy n (dL<|n.take r) kM ls/\σ=[some<|.ref R,some<|.ref dm,some<|.ref M,u1,u2,u3])
  ⟨[],[],[],_,_,_,s0,qT,qU,⟨rfl,λj u x h=>by simp at h⟩,gy.start n,rfl⟩ ?_ ?_ ?_⟩
 ·rintro r σ H' _ ⟨_,_,_,_,_,_,sm,_⟩;exact av.of<|sm _ _ hR.lst
 ·rintro r x σ H' hx ⟨kM,us,ls,u1,u2,u3,sm,ed,eM,aW,I,rfl⟩;have hi:r < n.length:=by
   have:=(Ac.mp hx).1;rw [Ab] at this;omega
  obtain⟨a,ea,P5,et,el,er⟩:=(hR.same sm).at hi;rw [Ad,ea] at hx;cases hx;refine qo rfl (bo.of et) (bb 3 nd<|bb 4 nd ?_);refine mB<|af 4 ⟨a.2,rfl,⟨_,av.of el⟩,mC (xs:=(row n r).map V.str) (λp σ c6=>∃(kM:List<|Key×V) (us:List Addr) (ls:List Lk) (u3:Option V),ah H c6/\c6 a.2=some (Ls<|row n r)/\c6 dm=some (.dK kM)/\c6 M=some (.lst<|us.map V.ref)/\fe c6 us ls/\gy n (dL (n.take r)++cQ r ((row n r).take p) 0) kM ls/\σ=[some<|.ref R,some<|.ref dm,some<|.ref M,some<|.str n[r].1,some<|.ref a.2,u3])
   ⟨kM,us,ls,_,sm,el,ed,eM,aW,by simpa [cQ] using I,rfl⟩ ?_ ?_ ?_⟩
  ·rintro p σ c6 _ ⟨_,_,_,_,_,e,_⟩;exact av.of e
  ·rintro p x σ c6 hx ⟨kM,us,ls,u3,sm,el,ed,eM,aW,I,rfl⟩;have hp:p < (row n r).length:=by
    have:=(Ac.mp hx).1;rw [Ab] at this;exact this
   have hz:(row n r)[p]?=some (row n r)[p]:=Aa hp;rw [Ad,hz] at hx;cases hx;have gB:=EK (r:=r) hz;have hle:=PZ hT hi hz;have bH:(dL (n.take r)++cQ r ((row n r).take p) 0).length<=80:=by
    obtain⟨rest,qV⟩:=GI hi hz;have h1:=CJ List.length qV;simp only [Ae] at h1 ⊢;omega
   have lM:=I.mL;have lL:=I.jO;have lA:=aW.1;have GU:bt n r=n[r].1:=kO hi;have P6:a.2≠M:=λe=>by
    have:=(hR.tup r a n[r] ea<|Aa hi).2;rw [e,qS] at this;cases this
   generalize (row n r)[p]=z at hz gB hle;refine bb 5 nd ?_;refine gn<|uy hu<|af 5<|af 1 ⟨dm,_,rfl,bM.k (k:=Sum.inr z) ed,?_⟩;cases qW:fz (dL (n.take r)++cQ r ((row n r).take p) 0) z with
   | nil=>
    rw [I.m0 z qW];show if false=true then _ else _;rw [BJ<|by decide];refine EH hu<|af 3<|af 1<|af 5 ⟨dm,_,rfl,cV.k (k:=Sum.inr z) ed (cY<|by omega),aS<|aS ⟨_,us,ls,_,cK sm ow,?_,ae,?_,aW.keep λt xs h=>?_,?_,rfl⟩⟩
    ·rw [aG<|kt el ed λz=>nomatch z];exact el
    ·rw [aG jr];exact eM
    ·rw [aG<|kt h ed λz=>nomatch z];exact h
    ·rw [gB,<- Bf];have:=I.new (e:=(r,p)) qW;show gy n _ (putK kM (Sum.inr z)<|.str n[r].1) ls;rw [<- GU];exact this
   | cons b rest=>
    have qX:rest=[]:=by
     rw [qW] at hle;exact Ck.mp<|by have:rest.length+1<=1:=hle;omega
    subst qX;have vm:=I.m1 z b [] qW;rw [vm];show if true=true then _ else _;rw [BK rfl];refine jI (om<|af 2 ⟨M,rfl,⟨_,eM⟩,dE<|ai<|af 5<|ai<|qj hu<|af 1<|af 5 ⟨dm,.str<|bt n b.1,rfl,by rw [<- vm];exact bM.k (k:=Sum.inr z) ed,ai<|af 3<|aC ⟨Z3,λt ht=>?_⟩⟩⟩);have sT:=aI ht<|.tup [.str z,.str<|bt n b.1,.str n[r].1];have UJ:t≠M:=λe=>by rw [e,eM] at ht;cases ht
    have P7:(upd c6 t<|.tup [.str z,.str<|bt n b.1,.str n[r].1]) t=some (T3 (z,bt n b.1,bt n (r,p).1)):=by
     rw [ae];show _=some (HO.tup [.str z,.str<|bt n b.1,.str<|bt n r]);rw [GU]
    have kT:∀ c xs,(upd c6 t<|.tup [.str z,.str<|bt n b.1,.str n[r].1]) c=some (.tup xs)->(upd (upd c6 t<|.tup [.str z,.str<|bt n b.1,.str n[r].1]) M<|.lst<|us.map V.ref++[.ref t]) c=some (.tup xs):=λc xs h=>by
     rw [aG<|kt h (sT _ _ eM) λz=>nomatch z];exact h
    refine⟨_,sT _ _ eM,by rw [Ab];exact cY (by omega),aS<|aS ⟨kM,us++[t],ls++[(z,bt n b.1,bt n (r,p).1)],_,cK (sm.trans sT) qS,?_,?_,?_,?_,?_,rfl⟩⟩
    ·rw [aG P6];exact sT _ _ el
    ·rw [aG<|Ne.symm jr];exact sT _ _ ed
    ·rw [ae,Ai];rfl
    ·exact((aW.keep λc xs h=>sT _ _ h).snoc P7).keep kT
    ·rw [gB,<- Bf];exact I.old (e:=(r,p)) qW
  ·rintro σ c6 ⟨kM,us,ls,u3,sm,_,ed,eM,aW,I,rfl⟩;rw [Ab,Bi] at I;refine aS ⟨kM,us,ls,_,_,_,sm,ed,eM,aW,?_,rfl⟩;rw [EJ hi];exact I
 ·rintro σ H' ⟨kM,us,ls,u1,u2,u3,sm,ed,eM,aW,I,rfl⟩;rw [Ab,jP,Bi] at I;have lL:=I.jO;have lA:=aW.1;have UK:2 * ls.length<=(aD n).length:=by
   have:=yf hT I.gA λz hz=>by
    obtain⟨x,hx,rfl⟩:=Ak.mp hz;exact uR<|(I.whole hT x).mp hx
   rw [Ab] at this;exact this
  have az:us.length < 64:=by omega
  refine df (gj Pr T.sorted HB (ai (af 2 (aC ⟨M,us,ls.map (·.1),rfl,av.of eM,by rw [Ab];exact lA,I.gA,az,λi t z h1 h2=>?_,λL ps hL hp hs=>?_⟩))))
  ·rw [Ad,Ax] at h2;obtain⟨x,hx,rfl⟩:=h2;exact⟨_,aW.2 i t x h1 hx⟩
  have pick:∀ p∈ps,∃ x,x∈ls/\x.1=p.2/\H' p.1=some (T3 x):=λp ux=>by
   have hz:=hp.mem_iff.mp ux;obtain⟨i,hi⟩:=At hz;rw [Cy] at hi;obtain⟨h1,h2⟩:=hi;rw [Ad,Ax] at h2;obtain⟨x,hx,e⟩:=h2;exact⟨x,Au hx,e,aW.2 i _ x h1 hx⟩
  obtain⟨xs,ii⟩:∃ xs:List Lk,xs.length=ps.length/\∀(j:Nat) p x,ps[j]?=some p->xs[j]?=some x->x∈ls/\x.1=p.2/\H' p.1=some (T3 x):=by
   clear hs hp
   induction ps with
   | nil=>exact⟨[],rfl,λj p x h=>by simp at h⟩
   | cons p r ih=>
    obtain⟨x,q1,q2,q3⟩:=pick p<|Ah ..;obtain⟨xs,l1,l2⟩:=ih λc hc=>pick c<|Ar _ hc;refine⟨x :: xs,by rw [As,As,l1],λj c y h1 h2=>?_⟩;cases j with
    | zero=>
     cases h1;cases h2;exact⟨q1,q2,q3⟩
    | succ j=>exact l2 j c y (by simpa using h1)<|by simpa using h2
  obtain⟨lx,ii⟩:=ii;have lp:ps.length=ls.length:=by rw [hp.length_eq,Dg,Ab];omega
  have sL:=aI hL<|.lst<|ps.map λp=> .ref p.1;have GV:oE xs:=by
   unfold oE;rw [Bd];intro i j hi hj cX;have a1:=(ii i ps[i] xs[i] (Aa<|by omega)<|Aa hi).2.1;have a2:=(ii j ps[j] xs[j] (Aa<|by omega)<|Aa hj).2.1;rw [a1,a2];exact Bd.mp hs i j (by omega) (by omega) cX
  have mX:(xs.map (·.1)).Nodup:=by
   rw [Bj,Dw];exact GV.imp λh e=>by rw [e] at h;exact Dv _ h
  have fK:∀ x,x∈xs↔x∈ls:=λx=>by
   constructor
   ·intro h;obtain⟨j,hj⟩:=At h;have GW:=(Ac.mp hj).1;exact(ii j ps[j] x (Aa<|by omega) hj).1
   ·intro h;refine CN λhn=>?_;have yr:xs.Nodup:=by
     rw [Bj] at mX ⊢;rw [Dw] at mX;exact mX.imp λh e=>h<|by rw [e]
    have:=bn yr (b:=ls.erase x) λz hz=>by
     have P8:z∈ls:=by
      obtain⟨j,hj⟩:=At hz;have GW:=(Ac.mp hj).1;exact(ii j ps[j] z (Aa<|by omega) hj).1
     exact(Eh λe:z=x=>hn<|e ▸ hz).mpr P8
    rw [Dc h] at this;have:0 < ls.length:=Es h;omega
  refine q L (ps.map (·.1)) xs _ (sm.trans sL) (qP sm hL) (by rw [ae,Be];rfl) ⟨by rw [Ab];omega,λj u x h1 h2=>?_⟩ GV (λx=>by rw [fK x];exact I.whole hT x) (by omega);rw [Ad,Ax] at h1;obtain⟨p,ik,rfl⟩:=h1;exact sL _ _ (ii j p x ik h2).2.2
end
end Y5
namespace L2
open PySem PySem.Spec PyProof.Rows
section
variable{X:Cx}{σ:St}{H:Hp}{Q:VK}
theorem P9{k v:Expr}{pos:Pos}(hu:X.A.units+1 < cLine)(h:∀ d,H d=none->Ev X k σ (upd H d<|.dK []) λy H1=>Ev X v σ H1 λx H2=>∃ H3,cV H2 d y x H3/\Q (.ref d) H3):Ev X (.Dict [some k] [v] pos) σ H Q:=by
 refine⟨λpins s I=>wpAny_Dict_any rfl rfl (by simp) (by show 1<=15;decide) ?_⟩;have I0:Inv X pins σ (upd H s.heap.objs.size<|.dK []) {s with heap:=s.heap.push {cls:= .type "dict",data:= .dict #[]}}:=I.laid (a:=s.heap.objs.size) (o:= .dK []) (t':=s.toks) (λ_ _ q=>Aj _ q) (Af _)<|wV s.heap I.big;show wpAny _ _ (evalPairs [(eval k X.env,do let x <- eval v X.env;standAt pos;pure x)]) _ _ _;unfold evalPairs;refine BP<|ay ((h _ I.fresh).run pins _ I0) λkv s1 ⟨y,H1,I1,r1,h1⟩=>?_;refine BP<|DG<|BP<|ay (h1.run pins s1 I1) λvv s2 ⟨x,H2,I2,r2,H3,dp,q⟩=>?_;refine BP<|DR<|BX ?_;unfold evalPairs;refine BP<|DG<|BX<|BX ?_;unfold storeAll;rw [List.forIn_cons];refine BP<|BP<|E7 hu I2 dp r1 r2 λs' I'=>BX ?_;exact BX ⟨.ref _,H3,I',rfl,q⟩
end
open bZ
section
variable{prog:Program}{w:World}{A:Around}{E:Value->Shared->Prop}{s:Shared}{T:String}{r d:Addr}{n:Nat}{P:Nat->Value->Prop}{OK:Heap->Prop}
end
section
variable{X:Cx}
end
end L2
namespace L2
open PySem PySem.Spec PyProof.Rows
section
def yt(K:PySem.W.Frag)(l:Addr):It:=
  ⟨λi H => ∃ xs x, av K H l xs ∧ xs[i]? = some x,
   λi H v H'=>∃ T x,H T=none/\v = .ref T/\H'=upd H T (.tup [.int (i:Int),x])/\∀ xs,av K H l xs->xs[i]?=some x,
   λi H=>∃ xs,av K H l xs/\xs.length<=i⟩
def P'(m l:Addr)(i:Nat)(h:Heap):Prop:=(∃ old,IsEnum h (m+1) m (i:Int) old)/\h.IsListIter m l i
theorem Qa{P:Program}{w:World}{K:PySem.W.Frag}{elts:List Expr}{k:Nat}{tp:Pos}(m l:Addr):Turn P w K (.Tuple elts k tp) (yt K l) [m,m+1] (m+1) (P' m l) where
 mem:=by simp
 obj:=λi h st c hc=>by
  obtain⟨⟨old,z1⟩,⟨o4,e4,c4,d4⟩⟩:=st;simp only [Am,Dr,MF] at hc
  rcases hc with rfl | rfl
  ·exact⟨_,e4,λv z=>by rw [d4] at z;cases z⟩
  ·exact⟨_,z1,λv z=>by cases z⟩
 keep:=λi h h' st kp=>by
  obtain⟨⟨old,z1⟩,⟨o4,e4,r4⟩⟩:=st;exact⟨⟨old,kp _ (by simp) _ z1⟩,⟨o4,kp _ (by simp) _ e4,r4⟩⟩
 item:=by
  intro X hP hw hK hc i pins s σ H E I hf st hg;subst hP hw hK;obtain⟨xs,x,ii,hx⟩:=hg;obtain⟨iU,oF,p1,yu⟩:=I.list ii;obtain⟨u1,d9,Qb⟩:=oF.get hx;obtain⟨⟨old,z1⟩,z4⟩:=id st;refine wpAny_pyNext_enum_item z1 z4 p1.isList (x:=u1) (by simpa using d9) (by simp) λh' a1 a2 a3 a4 kp=>?_;have hT:H s.heap.objs.size=none:=I.aw.fresh<|Af _;have nT:∀ c∈[m,m+1],c≠s.heap.objs.size:=λc cT=>by
   have:∃ o,s.heap.get? c=some o:=by
    obtain⟨o4,e4,_⟩:=z4;simp only [Am,Dr,MF] at cT
    rcases cT with rfl | rfl
    ·exact⟨_,e4⟩
    ·exact⟨_,z1⟩
   obtain⟨o,e⟩:=this;exact Co<|Bb e
  have I1:Inv X pins σ (upd H s.heap.objs.size<|.tup [.int (i:Int),x]) {s with heap:=s.heap.push {cls:= .type "tuple",data:= .seq #[.int i s.toks,u1]},toks:=s.toks+1}:=
   I.laid (t':=s.toks+1) (λb o e=>Aj _ e) (Af _) (show aq X.prog X.w _ _ _ (.tup [.int (i:Int),x]) from⟨Z2,[.int i s.toks,u1],.cons ⟨_,rfl⟩<|.cons Qb .nil,⟨_,Bt _ rfl,rfl,_,rfl⟩⟩)
  have f1:∀ c∈[m,m+1],bT X pins (upd H s.heap.objs.size<|.tup [.int (i:Int),x]) c:=λc cT=>⟨by rw [aG<|nT c cT];exact(hf c cT).1,(hf c cT).2⟩;have Qc:∀ c o,c∉[m,m+1]->(s.heap.push {cls:= .type "tuple",data:= .seq #[.int i s.toks,u1]}).get? c=some o->h'.get? c=some o:=λc o cT e=>by
   rcases Heap.get?_push_cases e with ⟨ec,eo⟩ | e'
   ·rw [ec,eo];exact a3
   ·simp only [Am,Dr,MF,not_or] at cT;exact kp c o cT.2 cT.1 e'
  have I2:=Inv.d8 (h':=h') (t':=s.toks+1) I1 f1 Qc;refine⟨_,rfl,wpAny_letOwnedTupleGo_enum (s:={s with heap:=h',toks:=s.toks+1}) a1 λh2 b1 sb=>?_⟩;have GY:∀ c o,c∉[m+1]->h'.get? c=some o->h2.get? c=some o:=λc o cT e=>(sb.2 c<|by simpa using cT).trans e;have I3:=Inv.d8 (h':=h2) (t':=s.toks+1) I2 (ch:=[m+1]) (λc cT=>f1 c<|by simp at cT;simp [cT]) GY;refine⟨.ref s.heap.objs.size,_,I3,rfl,⟨_,x,hT,rfl,rfl,λzs hz=>by rw [I.eV hz ii];exact hx⟩,?_,λc cT=>(f1 c cT).1⟩;obtain⟨o3,e3,r3⟩:=a2;exact⟨⟨u1,b1⟩,⟨o3,GY _ _ (by simp) e3,r3⟩⟩
 done:=by
  intro X hP hw hK hc i pins s σ H E I hf st hg;subst hP hw hK;obtain⟨xs,ii,Qd⟩:=hg;obtain⟨iU,oF,p1,yu⟩:=I.list ii;have l1:=oF.length;obtain⟨⟨old,z1⟩,z4⟩:=id st;refine wpAny_pyNext_enum_end (I.ok.hd hc) z1 z4 p1.isList (by simp;omega) λh' kp=>⟨rfl,I.d8 (t':=s.toks) (ch:=[m,m+1]) hf λc o cT e=>?_⟩;simp only [Am,Dr,MF,not_or] at cT;exact kp c o cT.1 e
 self:=λ_ _ _ _ _ st h=>by
  obtain⟨⟨old,z1⟩,_⟩:=st;exact wpAny_pyIter_enum z1 h
end
section
variable{X:Cx}
def Qe(K:PySem.W.Frag)(ta:TA):TI:=λσ H R=>ta σ H λvs H1=>∃ a,vs=[.ref a]/\(∃ xs,av K H1 a xs)/\R (yt K a) H1
theorem Qf{elts:List Expr}{k:Nat}{tp:Pos}{a:Expr}{ta:TA}{p pos:Pos}(hg:Gl X "enumerate")(hm:X.mg "enumerate" = none)(ha:PA X [a] ta)(hs:starEach [a] X.env=[(false,eval a X.env)]:=by rfl) :
  PI X (.Tuple elts k tp) (.Call (.Name "enumerate" p) [a] [] pos) (Qe X.K ta):=by
 intro pins s σ H R I h;refine Call_<|lJ I hg hm boot_enumerate<|DN (ay (ha pos pins s σ H _ I h) λus s1 ⟨vs,H1,I1,r1,q1⟩=>?_) hs rfl;obtain⟨x,e,⟨xs,hx⟩,q⟩:=q1;subst e;obtain⟨u,rfl,ru⟩:=r1.one;cases (show u=Value.ref x from ru);obtain⟨iU,oF,p1,yu⟩:=I1.list hx;refine call_enumerate_list p1.isList λh' a1 a2 a3 kp=>?_;refine wpAny_pyIter_enum (s:={s1 with heap:=h'}) a1 ?_;refine⟨s1.heap.objs.size+1,[s1.heap.objs.size,s1.heap.objs.size+1],_,_,H1,rfl,I1.kept (t':=s1.toks) kp,Qa s1.heap.objs.size x,⟨⟨_,a1⟩,a2⟩,λb hb=>?_,q⟩;have hle:s1.heap.objs.size<=b:=by
  simp only [Am,Dr,MF] at hb
  rcases hb with rfl | rfl <;> omega
 exact I1.fE hle<|I1.aw.fresh hle
end
section
variable{X:Cx}{σ:St}{H:Hp}{D:Ends}{body:List Stmt}
def Qg(tl:TE):TI:=λσ H R=>tl σ H λx H1=>∃ d o kvs,x = .ref d/\H1 d=some (.b8 o<|.dK kvs)/\R (uI d o kvs) H1
theorem Qh{tg l:Expr}{tl:TE}(hl:PE X l tl):PI X tg l (Qg tl):=by
 intro pins s σ H R I h;refine ay (hl pins s σ H _ I h) λv s1 ⟨x,H1,I1,r1,q1⟩=>?_;obtain⟨d,o,kvs,e,hH,q⟩:=q1;subst e;cases (show v=Value.ref d from r1);obtain⟨ho,z,ow,vs,rel,dd⟩:=(show aq X.prog X.w H1 s1.heap d (.b8 o<|.dK kvs) from I1.aw d _ hH);obtain⟨ep,o',es,dC,r1,r2,r3⟩:=dd.dictAt;have:o=o':=Option.some.inj<|ho.symm.trans dC;subst this;refine wpAny_pyIter_dict ow ⟨o,es,dC,r1,r2,r3⟩ ?_;refine⟨s1.heap.objs.size,[s1.heap.objs.size],_,_,_,rfl,I1.kept (t':=s1.toks) λb o e=>Aj _ e,E1 d _ o es ep kvs r2,⟨_,Bt _ rfl,rfl,by rw [rel.length];rfl⟩,λb hb=>?_,q⟩;have e:b=s1.heap.objs.size:=by simpa using hb
 subst e;exact I1.fE (Af _)<|I1.aw.fresh<|Af _
end
section
variable{X:Cx}{σ:St}{H:Hp}{D:Ends}{body rest:List Stmt}{a b:Expr}
end
end L2
namespace bZ
open PySem SetTable
section
variable{t:SetTable}{es:Array (Int×Value)}{Z:List Ze}
end
section
variable{prog:Program}{w:World}{K:Type} [DecidableEq K]
variable{A:Around}{E:Value->Shared->Prop}{s:Shared}{a b:Addr}{knd:HeapKind prog w K}{k:K}{Y:List (Nat×K×Addr)}
end
section
variable{prog:Program}{w:World}{K:Type} [DecidableEq K] {knd:KeyKind prog w K}
end
end bZ
namespace L2
open PySem PySem.Spec PyProof.Rows bZ Classical
section
variable{prog:Program}{w:World}{A:Around}{E:Value->Shared->Prop}{s:Shared}{a b:Addr}{Y:List Yt}{k:List Key}
end
section
variable{X:Cx}{σ:St}{H:Hp}{Q:VK}{pins:List (Addr×Obj)}{s:Shared}{a b:Addr}{Y:List Yt}
end
end L2
namespace L2
open PySem PySem.Spec PyProof.Rows
section
variable{X:Cx}{σ:St}{H:Hp}{Q:VK}
theorem Qi:fF X (.type "str") (λxs H Q=>∃ i:Int,xs=[.int i]/\i.natAbs.log2 < 1920/\Q (.str<|Str.ofString<|toString i) H):=by
 intro pins s σ H xs us Q I r h;obtain⟨i,rfl,hd,q⟩:=h;obtain⟨u,rfl,ru⟩:=vals1 r;obtain⟨t,rfl⟩:=ru;exact PySem.P.str_of_int hd ⟨.str _,H,I.tok _,⟨_,rfl⟩,q⟩
end
section
variable{X:Cx}{elt tg:Expr}{ifs:List Expr}{scope:Scope}{σ:St}{H:Hp}{N':List Str}{A a:Addr}{xs:List V}{after:Hp->Prop}
end
section
variable{X:Cx}{σ:St}{H:Hp}{D:Ends}{rest:List Stmt}{o i e:Expr}{op:Operator}{lP:pc}{iD pos:Pos}
theorem Qj:ph X (iG X.K):=by
 intro pins s σ H x y v u Q I rx ry h;obtain⟨p,xs,i,z,rfl,rfl,hq,he,q⟩:=h;cases rx;obtain⟨t,rfl⟩:=ry;obtain⟨its,r,pl,hz⟩:=I.list hq;obtain⟨j,h1,h2,h3,h4,h5⟩:=t7 he;obtain⟨w,ew,eY⟩:=r.get h2;have hl:=r.length;have hn:=lW;have fin:EP X pins σ Q w s:=⟨z,H,I,eY,q⟩
 by_cases h0:0<=i
 ·have hj:i.toNat=j:=by
   rw [KZ h0 h5] at h1;exact Option.some.inj h1
  exact wpAny_getItem_list pl.isList h0 (by omega) (by rw [hj];simpa using ew) fin
 ·have hj:(i+(its.toArray.size:Int)).toNat=j:=by
   rw [JR (by omega) h4] at h1;rw [Av,<- hl];exact Option.some.inj h1
  exact wpAny_getItem_list_neg pl.isList (by omega) (by rw [Av] <;> omega) (by omega) (by rw [hj];simpa using ew) fin
theorem G0(hp:tY X op lP)(h:Ev X o σ H λx H1=>Ev X i σ H1 λy H2=>iG X.K x y H2 λa H3=>Ev X e σ H3 λb H4=>lP a b H4 λz H5=>wC x y z H5 λH6=>Run X rest D σ H6)
  (ha:∀ ov iv new,augStore i ov iv new=(do holding [new,ov,iv] (setItem ov iv new);release [new,ov,iv] [];pure .next):=by intros;rfl):Run X (.AugAssign (.Subscript o i iD) op e pos :: rest) D σ H:=
 gM (La aZ aZ Qj aZ hp set_list ha) h
end
section
variable{X:Cx}{σ:St}{H:Hp}
end
structure Xo(h:Heap)(e T:Addr)(C fl:Value):Prop where
 ex:∃ oe vs,h.get? e=some oe/\oe.cls=C/\oe.dict=none/\oe.data = .fields vs/\vs[1]?=some (.ref T)/\vs[2]?=some .none
 ne:T≠e
 tr:∃ oT ts,h.get? T=some oT/\oT.data = .fields ts/\ts[3]?=some fl
structure Kp(fs bad:List Addr)(h h':Heap):Prop where
 keep:∀ b o,h.get? b=some o->b∉fs->b∉bad->h'.get? b=some o
 slot:∀ b o,h.get? b=some o->b∈fs->∃ sl,h'.get? b=some {o with slots:=sl}
theorem Qk(o:Obj)(f:Array Value->Array Value):(o.mapFields f).dict=o.dict:=by
 obtain⟨c,d,dt,sl⟩:=o;cases dt <;> rfl
section
variable{M:Model}{A:Around}{E:Value->Shared->Prop}{s:Shared}
theorem G'{base:Heap}{env:Env}{outer:List Env}{L e:Addr}{oe:Obj}{vs:Array Value}{head:Value}{nx:Bool}{Q:Unit->Shared->Prop}(hZ:A.frames=some (env :: outer))(hl:s.heap.FunFrames base<|env :: outer)(hf:env.frame=some L)
  (he:s.heap.get? e=some oe) (hd:oe.data = .fields vs) (jV:oe.dict=none) (h1:1 < vs.size) (h2:vs[2]?=some .none)
  (h:∀ h' T,s.heap.get? T=none->Xo h' e T oe.cls .none->Kp (cF<|env :: outer) [e] s.heap h'->Q () {s with heap:=h'}) :
  wpAny M A (do let a <- frameOf env;let pl <- entryPlaceOf L nx;let b <- EntryCells.newEntry head a .none (rawInt L) .none pl;setField (.ref e) 1 b) (λ_ s'=>wpAny M A (setFlight (.ref e) none) Q E s') E s:=by
 have Hc:e∉cF (env :: outer):=λhm=>by
  obtain⟨_,o,ho,hn⟩:=hl.mem hm;rw [he] at ho;cases ho;exact hn vs hd
 refine BP<|wpAny_frameOf_fun hZ hl hf λha sa=>?_;refine BP<|wpAny_entryPlaceOf λpl ip=>?_;unfold EntryCells.newEntry newFields;refine BP<|HN ?_<|ip.sizeOk5 _ _ _ _ _;generalize hT:({cls:= .type "traceback",dict:=none,data:= .fields ([head,.ref L,.none,rawInt L,.none]++(if pl.isEmpty then List.replicate 6 Value.none else pl)).toArray}:Obj)=oT;have ea:ha.get? e=some oe:=(sa.2.1 e Hc).trans he;have eb:(ha.push oT).get? e=some oe:=Aj _ ea;have tb:(ha.push oT).get? ha.objs.size=some oT:=Bt ha (by rw [<- hT];rfl);have yv:ha.objs.size≠e:=Er<|Bb ea;refine IV eb hd h1 ?_;have dc:=HD hd (·.setIfInBounds 1 (Value.ref ha.objs.size));have ec:=Ee (Obj.mapFields (·.setIfInBounds 1 (Value.ref ha.objs.size))) eb<|FQ dc;have tc:((ha.push oT).update e (Obj.mapFields (·.setIfInBounds 1 (Value.ref ha.objs.size)))).get? ha.objs.size=some oT:=(Bx _ _<|Ne.symm yv).trans tb;unfold setFlight;refine BP (IW ec dc (x:= .ref ha.objs.size) (by simp [h1]) ?_);rw [BK (show(Value.ref ha.objs.size != Value.none)=true from by simp)];have dT:oT.data = .fields ([head,.ref L,.none,rawInt L,.none]++(if pl.isEmpty then List.replicate 6 Value.none else pl)).toArray:=by rw [<- hT]
 have sz:3 < ([head,.ref L,.none,rawInt L,.none]++(if pl.isEmpty then List.replicate 6 Value.none else pl)).toArray.size:=by
  simp only [Av,Ae,As,Dp];omega
 refine IV tc dT sz<|h _ ha.objs.size (by
  cases hq:s.heap.get? ha.objs.size with
  | none=>rfl
  | some o=>
   obtain⟨sl,z⟩:=sa.2.2 _ o hq;exact absurd (Bb z)<|Cd _) ?_ ?_
 ·have dd:=HD dT (·.setIfInBounds 3 ((none:Option Addr).elim Value.none λf=>rawInt f));refine⟨⟨_,_,(Bx _ _ yv).trans ec,Obj.cls_mapFields _ _,by rw [Qk];exact jV,dc,by simp [h1],by rw [Array.getElem?_setIfInBounds_ne<|by decide];exact h2⟩,yv,⟨_,_,Ee _ tc<|FQ dd,dd,?_⟩⟩;rw [Fo sz];rfl
 ·have kp:∀ b o,b≠e->ha.get? b=some o->(((ha.push oT).update e (Obj.mapFields (·.setIfInBounds 1 (Value.ref ha.objs.size)))).update ha.objs.size (Obj.mapFields (·.setIfInBounds 3 ((none:Option Addr).elim Value.none λf=>rawInt f)))).get? b=some o:=λb o hb q=>by
   rw [Bx _ _<|Er<|Bb q,Bx _ _<|Ne.symm hb];exact Aj _ q
  refine⟨λb o q nf nb=>kp b o (λz=>nb<|by simp [z])<|(sa.2.1 b nf).trans q,λb o q hb=>?_⟩;obtain⟨sl,z⟩:=sa.2.2 b o q;exact⟨sl,kp b _ (λy=>Hc<|y ▸ hb) z⟩
theorem Ql{base:Heap}{env:Env}{outer:List Env}{L e:Addr}{oe:Obj}{vs:Array Value}{Q:Unit->Shared->Prop}(hZ:A.frames=some (env :: outer))(hl:s.heap.FunFrames base<|env :: outer)(hf:env.frame=some L)
  (he:s.heap.get? e=some oe) (hd:oe.data = .fields vs) (jV:oe.dict=none) (h1:vs[1]?=some .none) (h2:vs[2]?=some .none)
  (h:∀ h' T,s.heap.get? T=none->Xo h' e T oe.cls .none->Kp (cF<|env :: outer) [e] s.heap h'->Q () {s with heap:=h'}) :
  wpAny M A (noteFrame (.ref e) env) (λ_ s'=>wpAny M A (setFlight (.ref e) none) Q E s') E s:=by
 unfold noteFrame;simp only [hf];refine BP<|IW he hd h1 ?_;rw [BJ<|by decide];exact G' hZ hl hf he hd jV (Ed.mp h1).1 h2 h
theorem He{base:Heap}{env:Env}{outer:List Env}{L e T:Addr}{C:Value}{Q:Unit->Shared->Prop}(hZ:A.frames=some (env :: outer))(hl:s.heap.FunFrames base<|env :: outer)(hf:env.frame=some L)(x:Xo s.heap e T C .none)
  (h:∀ h' T',s.heap.get? T'=none->Xo h' e T' C .none->Kp (cF<|env :: outer) [e,T] s.heap h'->Q () {s with heap:=h'}) :
  wpAny M A (noteFrame (.ref e) env) (λ_ s'=>wpAny M A (setFlight (.ref e) none) Q E s') E s:=by
 obtain⟨⟨oe,vs,he,hc,jV,hd,h1,h2⟩,bf,⟨oT,ts,hT,dT,h3⟩⟩:=x;subst hc;unfold noteFrame;simp only [hf];refine BP<|IW he hd h1 ?_;rw [BK (show(Value.ref T != Value.none)=true from by simp)];refine BP<|IW hT dT h3 ?_;rw [BJ (show ¬((Value.none == rawInt L)=true) from by simp [rawInt])];refine BP<|IV hT dT (Ed.mp h3).1 ?_;have nT:∀ b,b≠T->(s.heap.update T (Obj.mapFields (·.setIfInBounds 3 Value.none))).get? b=s.heap.get? b:=λb hb=>Bx _ _<|Ne.symm hb;have Hf:∀ b o,s.heap.get? b=some o->(∀ vs,o.data ≠ .fields vs)->b≠T:=λb o q hn z=>by
  rw [z,hT] at q;cases q;exact hn ts dT
 have nf:T∉cF (env :: outer):=λhm=>by
  obtain⟨_,o,ho,hn⟩:=hl.mem hm;exact Hf T o ho hn rfl
 refine G' hZ (hl.of_keeps λb o q hn=>⟨o,(nT b<|Hf b o q hn).trans q,rfl⟩) hf ((nT e<|Ne.symm bf).trans he) hd jV (Ed.mp h1).1 h2 λh' T' z x k=>h h' T' ?_ x ⟨λb o q n1 n2=>?_,λb o q hb=>?_⟩
 ·cases hq:s.heap.get? T' with
  | none=>rfl
  | some o=>
   by_cases y:T'=T
   ·have:=Ee (Obj.mapFields (·.setIfInBounds 3 Value.none)) hT<|FQ<|HD dT _;rw [y] at z;exact absurd (this.symm.trans z)<|by simp
   ·have:=(nT T' y).trans hq;exact absurd (this.symm.trans z)<|by simp
 ·have n3:b≠T:=λy=>n2 (by simp [y]);exact k.keep b o ((nT b n3).trans q) n1 λy=>n2<|by simp at y;simp [y]
 ·exact k.slot b o ((nT b λy=>nf<|y ▸ hb).trans q) hb
theorem Hg{e T:Addr}{C:Value}{Q:Unit->Shared->Prop}(x:Xo s.heap e T C .none)(h:∀ h',Xo h' e T C .none->(∀ b o,b≠T->s.heap.get? b=some o->h'.get? b=some o)->Q () {s with heap:=h'}):wpAny M A (setFlight (.ref e) none) Q E s:=by
 obtain⟨⟨oe,vs,he,hc,jV,hd,h1,h2⟩,bf,⟨oT,ts,hT,dT,h3⟩⟩:=x;unfold setFlight;refine BP<|IW he hd h1 ?_;rw [BK (show(Value.ref T != Value.none)=true from by simp)];have sz:=(Ed.mp h3).1;have dd:=HD dT (·.setIfInBounds 3 ((none:Option Addr).elim Value.none λf=>rawInt f));refine IV hT dT sz<|h _ ⟨⟨oe,vs,(Bx _ _ bf).trans he,hc,jV,hd,h1,h2⟩,bf,⟨_,_,Ee _ hT<|FQ dd,dd,?_⟩⟩ λb o hb q=>(Bx _ _<|Ne.symm hb).trans q;rw [Fo sz];rfl
end
theorem yw{fs f2 bad:List Addr}{H H':Hp}{h h1 h2:Heap}(u:Un fs [] H H' h h1)(k:Kp f2 bad h1 h2)(hf:∀ b o,h.get? b=some o->b∈f2->b∈fs)(hb:∀ b∈bad,h.get? b=none):Un fs [] H H' h h2:=by
 have nb:∀ b o,h.get? b=some o->b∉bad:=λb o q z=>by rw [hb b z] at q;cases q
 refine⟨λb o q n nf _=>k.keep b o (u.keep b o q n nf<|by simp) (λz=>nf<|hf b o q z)<|nb b o q,λb o q n hm _=>?_,u.free,λb o q _=>?_,u.dj,u.cS,u.dk⟩
 ·obtain⟨sl,z⟩:=u.slot b o q n hm<|by simp
  by_cases y:b∈f2
  ·obtain⟨tV,z'⟩:=k.slot b _ z y;exact⟨tV,z'⟩
  ·exact⟨sl,k.keep b _ z y<|nb b o q⟩
 ·obtain⟨o',z⟩:=u.there b o q<|by simp
  by_cases y:b∈f2
  ·obtain⟨tV,z'⟩:=k.slot b _ z y;exact⟨_,z'⟩
  ·exact⟨o',k.keep b _ z y<|nb b o q⟩
theorem Hh{P:Program}{w:World}{f2 bad:List Addr}{H:Hp}{h1 h2:Heap}(x:bK P w H h1)(k:Kp f2 bad h1 h2)(hf:∀ b∈f2,H b=none)(hb:∀ b∈bad,H b=none):bK P w H h2:=λa o e=>by
 refine(x a o e).dW (λb u hh q=>k.keep b u q (λz=>?_) λz=>?_) (λ_ q=>q) λ_ _ q=>q
 ·have:=hf b z
  rcases hh with y | y
  ·rw [y,e] at this;cases this
  ·rw [y] at this;cases this
 ·have:=hb b z
  rcases hh with y | y
  ·rw [y,e] at this;cases this
  ·rw [y] at this;cases this
theorem Qm{P:Program}{w:World}{H:Hp}{h:Heap}{a:Addr}{o:HO}(x:aq P w H h a o):∃ u,h.get? a=some u:=by
 cases o with
 | lst xs=>obtain⟨_,_,_,_,q⟩:=x;exact⟨_,q⟩
 | tup xs=>obtain⟨_,_,_,u,q,_⟩:=x;exact⟨_,q⟩
 | dK kvs=>obtain⟨_,_,_,_,u,_,_,q,_⟩:=x;exact⟨_,q⟩
 | dT kvs=>obtain⟨_,_,_,_,u,_,_,q,_⟩:=x;exact⟨_,q⟩
 | set S n=>obtain⟨u,_,_,_,q,_⟩:=x;exact⟨_,q⟩
 | ins C dx fs=>obtain⟨_,_,_,q,_⟩:=x;exact⟨_,q⟩
 | own y=>exact x
 | xd fs=>obtain⟨_,⟨_,_,_,q,_⟩,_⟩:=x;exact⟨_,q⟩
 | tR lo hi=>obtain⟨_,_,_,q⟩:=x;exact⟨_,q⟩
 | b8 ob u=>obtain⟨q,_⟩:=x;exact⟨_,q⟩
 | kr ps=>exact⟨_,x⟩
 | met f y=>exact⟨_,x⟩
 | ext φ=>obtain⟨_,q,_⟩:=x;exact q
def XF(P:Program)(w:World):eW:=λouter H s E e s'=>∃(ea T:Addr) (C:Value) (H':Hp),e = .ref ea/\E C none H'/\s'.os=s.os/\AllBare s'.gens/\Un (cF outer) [] H H' s.heap s'.heap/\bK P w H' s'.heap/\Xo s'.heap ea T C .none /\
 s.heap.get? ea=none/\s.heap.get? T=none/\H' ea=none/\H' T=none
section
variable{P:Program}{w:World}{K:PySem.W.Frag}{mg:Str->Option Value}{base:Heap}{N:List Str}{qual:Str}{scope:Scope}{f:Addr}{cd:Value}{A:Around}{outer:List Env}{s:Shared}{H:Hp}{E:XK}
theorem Qn:cF (envOfC qual scope s.heap.objs.size f cd :: outer)=s.heap.objs.size :: cF outer:=rfl
theorem yx{b:Addr}{fs ex:List Addr}{Ha Hb:Hp}{h h1:Heap}(u:Un fs ex Ha Hb h h1)(hx:b∉ex)(n:h1.get? b=none):h.get? b=none:=by
 cases q:h.get? b with
 | none=>rfl
 | some o=>obtain⟨o',z⟩:=u.there b o q hx;rw [n] at z;cases z
theorem uT{P:Program}{w:World}{Ha:Hp}{h1:Heap}{b:Addr}(x:bK P w Ha h1)(n:h1.get? b=none):Ha b=none:=by
 cases q:Ha b with
 | none=>rfl
 | some o=>
  exfalso
  obtain⟨u,z⟩:=Qm<|x b o q;rw [n] at z;cases z
end
abbrev jW:List Value:=[.type "ValueError",.type "Exception",.type "BaseException",.type "object"]
def XC(K:PySem.W.Frag)(C:Addr):Prop:=PySem.W.excIn K C jW "ValueError.__new__" = true
theorem XC.obj{K:PySem.W.Frag}{h:Heap}{C:Addr}(q:XC K C)(X:K.In h):∃ bm N nm qn bs hdct sn sub ab col dd k0 k1 k2 k3 k5 mN,h.get? C=some (excClassObj nm qn C N bs bm hdct sn sub ab col dd k0 k1 k2 k3 k5 "ValueError.__new__")/\h.Ns N mN/\mN "__init__" = none/\OwnTail h jW bm:=by
 unfold XC PySem.W.excIn at q
 split at q
 ·rename_i dd cd sl ho
  split at q
  ·rename_i D bm k0 k1 k2 k3 n k5 hm hs;simp only [Cg,beq_iff_eq,Bool.not_eq_true'] at q;obtain⟨⟨⟨⟨⟨eD,en⟩,qY⟩,ht⟩,aw⟩,Hi⟩:=q;obtain⟨nm,bs,mro,ns,qn,hd,sn,sub,ab,col,del⟩:=cd
   dsimp only at hm qY aw Hi
   subst eD en hm qY;have Qo:sl=#[k0,k1,k2,k3,some<|.builtin "ValueError.__new__",k5]:=by
    cases sl;simp only at hs;rw [hs]
   subst Qo;exact⟨bm,ns,nm,qn,bs,hd,sn,sub,ab,col,dd,k0,k1,k2,k3,k5,_,X _ _ ho,.of_isNs<|PySem.W.isNs_of_in X aw,PySem.W.nsMap_none_of_in X aw Hi,PySem.W.tail_of_in X ht⟩
  ·cases q
 ·cases q
section
variable{X:Cx}{σ:St}{H:Hp}{D:Ends}{rest:List Stmt}
def Rz(X:Cx)(E:St->XK):Prop:=∀(pins:List<|Addr×Obj) (σ:St) (H:Hp) (s:Shared) (h':Heap) (e C:Addr) (args:List Value),Inv X pins σ H s->Heap.MadeExcOf s.heap h' e (.ref C) args->E σ (.ref C) none H->X.xe (.ref e) {s with heap:=h'}
theorem Qp{E:St->XK}(hz:Rz X E){x:Str}{C:Addr}{a:Expr}{np cp pos:Pos}(hm:X.mg x=some (.ref C))(hC:XC X.K C)(hc:X.calm=true)(h:Ea X [a] σ H λvs H1=>vs.length<=sizeLine/\E σ (.ref C) none H1)(hg:Gl X x:=by rfl)(bY:(x == ("__debug__" : Str))=false:=by decide)
  (he:starEach [a] X.env=(false,eval a X.env) :: starEach [] X.env:=by rfl):Run X (.Raise (some<|.Call (.Name x np) [a] [] cp) none pos :: rest) D σ H:=by
 refine gM (t:=λD σ H=>Ea X [a] σ H λvs H1=>vs.length<=sizeLine/\E σ (.ref C) none H1) ?_ h;intro pins s σ H D I h;obtain⟨bm,N,nm,qn,bs,hdct,sn,sub,ab,col,dd,k0,k1,k2,k3,k5,mN,oC,oN,oi,oT⟩:=hC.obj I.ok.mod.o6;refine wpAny_Raise_call_subT (C:=C) (nm:=nm) (q:=qn) (N:=N) (bs:=bs) (bm:=bm) (hdct:=hdct) (sn:=sn) (sub:=sub) (ab:=ab) (col:=col) (dd:=dd) (k0:=k0) (k1:=k1) (k2:=k2) (k3:=k3) (k5:=k5) PySem.F.excBase_ValueError (mN:=mN) (oT.hasType PySem.F.excBase_ValueError.hasBase) (I.ok.hd hc) (by rw [he];rfl) oi<|nR I hg hm ⟨rfl,?_⟩ bY;have q:=h.run cp pins s I;rw [he] at q ⊢;refine Calls.evalArgs_plain<|ay q λus s2 ⟨vs,H2,I2,r,z2,q2⟩=>⟨rfl,by rw [<- r.length];exact z2,I2.bk _ _ oC,oN.keeps I2.bk,oT.keeps I2.bk,λh' e hx=>hz pins σ H2 s2 h' e C us I2 hx q2⟩
end
section
variable{P:Program}{w:World}{K:PySem.W.Frag}{mg:Str->Option Value}{base:Heap}{N:List Str}{qual:Str}{scope:Scope}{f:Addr}{cd:Value}{A:Around}{outer:List Env}{s:Shared}{H:Hp}{E:XK}
theorem Qq{h h':Heap}(k:∀ b o,h.get? b=some o->h'.get? b=some o):Kp [] [] h h':=⟨λb o q _ _=>k b o q,λb o q z=>absurd z<|by simp⟩
theorem Qr:Rz (dH (XF P w) P w K mg base N qual scope f cd A outer s H E) (λ_=>E):=by
 intro pins σ H1 s1 h' e C args I hx hE;obtain⟨t,he,_,_⟩:=hx.there;show wpAny (model P w) (A.deeper<|envOfC qual scope s.heap.objs.size f cd) (leaving (envOfC qual scope s.heap.objs.size f cd)<|.ref e) _ _ _;unfold leaving;have n0:H1 e=none:=uT I.aw hx.new;have k1:=Qq hx.keeps;refine BP<|Ql (s:={s1 with heap:=h'}) (base:=base) (outer:=outer) I.ok.frames (I.stack.of_keeps λb o q _=>⟨o,hx.keeps b o q,rfl⟩) rfl he rfl rfl rfl rfl λh2 T z x k=>?_;have yy:bK P w H1 h':=I.aw.kept hx.keeps;have Qs:Un (cF outer) [] H H1 s.heap h':=yw (H:=H) (h:=s.heap) I.base k1 (λb o q hb=>absurd hb<|by simp) λb hb=>absurd hb (by simp);have nT:s1.heap.get? T=none:=by
  cases q:s1.heap.get? T with
  | none=>rfl
  | some o=>have:=hx.keeps _ _ q;exact absurd (this.symm.trans z)<|by simp
 have ns:s.heap.get? e=none:=yx (ex:=[]) (Hb:=H1) I.base (by simp) hx.new;refine⟨e,T,.ref C,H1,rfl,hE,I.os,I.bare,yw Qs k (λb o q hb=>?_) λb hb=>?_,Hh yy k (λb hb=>I.c9 b hb) λb hb=>?_,x,ns,yx (ex:=[]) (Hb:=H1) I.base (by simp) nT,n0,uT I.aw nT⟩
 ·rw [Qn] at hb
  rcases Am.mp hb with y | y
  ·exact absurd (Bb q)<|by rw [y];exact Cd _
  ·exact y
 ·rw [Ag.mp hb];exact ns
 ·rw [Ag.mp hb];exact n0
def Hj(N:List Str)(qual:Str)(scope:Scope)(P:Program)(w:World)(K:PySem.W.Frag)(mg:Str->Option Value)(base:Heap)(b:qi):Cx:=dH (XF P w) P w K mg base N qual scope b.f b.a7 b.A b.outer b.s b.H b.E
theorem bL.gx{x:Str}{st:Stmt}{fd:FuncData}{ps:List Str}{k:Nat}{sp:Sp}(F:bL K x qual st f fd)(S:au N ps<|aR st)(len:∀ vs H Q E,sp vs H Q E->vs.length=ps.length)
  (cf:∀(b:qi) (H:Hp) (vs:List V) (Q:VK),aL k (b.A.deeper<|envOfC qual (aR st) b.s.heap.objs.size b.f b.a7)->sp vs H Q b.E->Run (Hj N qual (aR st) P w K mg base b) (fI st) (En Q) (start N vs) H):aA P w K mg base (XF P w) (k+1) f fd ps sp:=by
 obtain⟨oc,od,kV,doc,pm,an,a7,ct,iF,rfl,lk,fW⟩:=F.ex;refine CD lk fW S len λA outer s H vs Q E hr fv=>?_;exact⟨_,kF,cf ⟨f,a7,A,outer,s,H,E⟩ H vs Q hr fv⟩
theorem Qt{b:qi}:Rz (Hj N qual scope P w K mg base b) (λ_=>b.E):=Qr
end
structure dz(P:Program)(w:World)(K:PySem.W.Frag)(mg:Str->Option Value)(base:Heap)(k:Nat)(x:Str)(ps:List Str)(sp:Sp):Prop where
 ex:∃ f fd,aA P w K mg base (XF P w) k f fd ps sp/\Binds K fd ps []/\PySem.W.keepIn K (.ref f)=true/\mg x=some (.ref f)
theorem dz.mono{P:Program}{w:World}{K:PySem.W.Frag}{mg:Str->Option Value}{base:Heap}{j k:Nat}{x:Str}{ps:List Str}{sp:Sp}(h:dz P w K mg base j x ps sp)(le:j<=k):dz P w K mg base k x ps sp:=
 let ⟨f,fd,F,r⟩:=h.ex;⟨f,fd,F.mono le,r⟩
theorem Qu{X:Cx}{k:Nat}{ps:List Str}{sp:Sp}{x:Str}{e:Expr}{es:List Expr}{σ:St}{H:Hp}{Q:VK}{E:XK}{p pos:Pos}(G:dz X.prog X.w X.K X.mg X.base k x ps sp)(hr:aL k X.A)(hx:lY (XF X.prog X.w) X E)
  (h:Ea X (e :: es) σ H λvs H1=>sp vs H1 Q E) (hg:Gl X x:=by rfl) (bY:(x == ("__debug__" : Str))=false:=by decide) (hs:noStar (e :: es)=true:=by rfl):Ev X (.Call (.Name x p) (e :: es) [] pos) σ H Q:=
 let ⟨_,_,F,b,kp,m⟩:=G.ex;DL F hr m kp b hx h hg bY hs
theorem Df.yz{P:Program}{w:World}{K:PySem.W.Frag}{mg:Str->Option Value}{h base:Heap}{k:Nat}{x:Str}{st:Stmt}{ps:List Str}{sp:Sp}(d:Df K x st)(X:K.In h)(G:h.Ns mainGlobals mg)
  (hb:∀(kV doc pm:Value) (an:Option Addr) (a7 ct:Value) (us:List Value),us.length=ps.length->bindArgs (PySem.W.fnOf x x (kD st) (fI st) (aR st) .none kV doc pm an a7 ct) ⟨us,[]⟩=pure (ps.zip us))
  (ok:∀{f:Addr} {fd:FuncData},bL K x x st f fd->aA P w K mg base (XF P w) k f fd ps sp):dz P w K mg base k x ps sp:=
 let ⟨f,fd,a,F⟩:=d;⟨f,fd,ok F,F.binds hb,F.kp,FW X G a⟩
def yA(CX:eW)(X:Cx)(σ:St)(E:XK):Prop:=∀(pins:List<|Addr×Obj) (H:Hp) (s:Shared) (e:Value) (s':Shared),Inv X pins σ H s->CX X.stack H s E e s'->X.xe e s'
section
variable{X:Cx}{CX:eW}{k:Nat}{f:Addr}{fd:FuncData}{ps:List Str}{sp:Sp}{E:XK}{x:Str}{p pos:Pos}{e:Expr}{es:List Expr}{σ:St}{H:Hp}{Q:VK}
theorem Qv(F:aA X.prog X.w X.K X.mg X.base CX k f fd ps sp)(hr:aL k X.A)(hm:X.mg x=some (.ref f))(hk:PySem.W.keepIn X.K (.ref f)=true)(hb:Binds X.K fd ps [])(hx:yA CX X σ E)(h:Ea X (e :: es) σ H λvs H1=>sp vs H1 Q E)
  (hg:Gl X x:=by rfl) (bY:(x == ("__debug__" : Str))=false:=by decide) (he:starEach (e :: es) X.env=(false,eval e X.env) :: starEach es X.env:=by rfl) (jk:(backTo pos<|starEach es X.env).any (·.1)=false:=by rfl):Ev X (.Call (.Name x p) (e :: es) [] pos) σ H Q:=by
 refine⟨λpins s I=>GQ<|nR I hg hm ?_ bY⟩;refine PySem.W.callWith_K (h₀:=X.base) I.ok.mod.o6 hk (ay (h.run pos pins s I) λus s1 ⟨vs,H1,I1,r,q⟩=>⟨I1.dq,?_⟩) he jk;have hl:us.length=ps.length:=by rw [<- r.length];exact F.len _ _ _ _ q
 have ub:(us++[]).length=ps.length:=by rw [Bg];exact hl
 have qM:=hb s1 us I1.dq ub;rw [Bg] at qM;refine wpAny_call<|JN (F.run X.A X.stack s1 H1 ⟨us,[]⟩ us vs Q E hr I1.pG qM r q) λr s' hq=>?_;cases r with
 | error y=>exact hx pins H1 s1 y s' I1 hq
 | ok fl=>
  cases fl with
  | ret u=>exact I1.after hq
  | next=>exact False.elim hq
  | brk=>exact False.elim hq
  | cont=>exact False.elim hq
theorem Hk(G:dz X.prog X.w X.K X.mg X.base k x ps sp)(hr:aL k X.A)(hx:yA (XF X.prog X.w) X σ E)(h:Ea X (e :: es) σ H λvs H1=>sp vs H1 Q E)
  (hg:Gl X x:=by rfl) (bY:(x == ("__debug__" : Str))=false:=by decide) (he:starEach (e :: es) X.env=(false,eval e X.env) :: starEach es X.env:=by rfl) (jk:(backTo pos<|starEach es X.env).any (·.1)=false:=by rfl):Ev X (.Call (.Name x p) (e :: es) [] pos) σ H Q:=
 let ⟨_,_,F,b,kp,m⟩:=G.ex;Qv F hr m kp b hx h hg bY he jk
end
abbrev XO(oe:Obj):HO:= .b8 oe<|.own 0
structure qZ(oe:Obj)(C:Value):Prop where
 cls:oe.cls=C
 dict:oe.dict=none
 data:∃ vs,oe.data = .fields vs/\vs[2]?=some .none
abbrev Cx.aP(X:Cx)(p:List<|Addr×Obj):Cx:={X with pn:=X.pn++p}
structure rd(X:Cx)(pins:List<|Addr×Obj)(b:Addr):Prop where
 l:b≠X.env.locals
 c:∀ x c,X.env.cells.lookup x=some c->c≠b
 p:∀ q∈X.pn++pins,q.1≠b
 f:b∉X.fs
 s:X.s₀.heap.get? b=none
section
variable{X:Cx}{pins:List (Addr×Obj)}{σ:St}{H:Hp}{s:Shared}{b:Addr}
theorem uU(I:Inv X pins σ H s)(hex:X.ex=[])(n:s.heap.get? b=none):rd X pins b:=by
 refine⟨λz=>?_,λx c e z=>?_,λq hq z=>?_,λz=>?_,yx I.base (by rw [hex];simp) n⟩
 ·obtain⟨m,⟨o,_,_,ho,_⟩,_⟩:=I.loc;rw [<- z,n] at ho;cases ho
 ·obtain⟨v,o,ho,_⟩:=I.cell x c e;rw [z,n] at ho;cases ho
 ·have:=(I.pin q hq).1;rw [z,n] at this;cases this
 ·obtain⟨_,o,ho,_⟩:=I.bS.mem z;rw [n] at ho;cases ho
theorem Inv.kp{bad:List Addr}{h':Heap}{t':Nat}(I:Inv X pins σ H s)(hex:X.ex=[])(k:Kp (cF X.stack) bad s.heap h')(ha:∀ b∈bad,rd X pins b)(hn:∀ b∈bad,H b=none):Inv X pins σ H {s with heap:=h',toks:=t'}:=by
 have kc:∀ x c,X.env.cells.lookup x=some c->∀ v,s.heap.IsCell c v->h'.IsCell c v:=λx c e v ⟨o,ho,hd⟩=>by
  by_cases y:c∈cF X.stack
  ·obtain⟨sl,z⟩:=k.slot c o ho y;exact⟨_,z,hd⟩
  ·exact⟨o,k.keep c o ho y λw=>(ha c w).c x c e rfl,hd⟩
 have kl:∀ m,s.heap.Ns X.env.locals m->h'.Ns X.env.locals m:=λm hm=>by
  obtain⟨o,es,ep,ho,r⟩:=hm
  by_cases y:X.env.locals∈cF X.stack
  ·obtain⟨sl,z⟩:=k.slot _ o ho y;exact⟨_,es,ep,z,r⟩
  ·exact⟨o,es,ep,k.keep _ o ho y λw=>(ha _ w).l rfl,r⟩
 refine⟨I.ok,I.os,I.bare,?_,?_,λx c e=>?_,I.free,I.aM,λp hp=>?_,Hh I.aw k (λb hb=>I.c9 b hb) hn,I.len⟩
 ·have u:=I.base;rw [hex] at u ⊢;refine yw u k (λb o q hb=>?_) λb hb=>(ha b hb).s
  rcases Am.mp (I.cG b hb) with y | y
  ·exact absurd (Bm (Bb q) I.ok.above)<|by rw [y];exact Cd _
  ·exact y
 ·obtain⟨m,hm,hl⟩:=I.loc;refine⟨m,kl m hm,λi x v e1 e2 e3=>?_⟩;obtain⟨u,r,q⟩:=hl i x v e1 e2 e3;refine⟨u,r,?_⟩
  rcases q with q | ⟨y,c,e,z⟩
  ·exact .inl q
  ·exact .inr ⟨y,c,e,kc x c e _ z⟩
 ·obtain⟨v,z⟩:=I.cell x c e;exact⟨v,kc x c e v z⟩
 ·obtain⟨e,n,ne,nf,d⟩:=I.pin p hp;refine⟨k.keep _ _ e (λy=>?_) λw=>(ha _ w).p p hp rfl,n,ne,nf,d⟩
  rcases Am.mp (I.cG _ y) with z | z
  ·exact ne z
  ·exact nf z
theorem Inv.kW{o:HO}(I:Inv X pins σ H s)(hex:X.ex=[])(a:rd X pins b)(n:H b=none)(ho:aq X.prog X.w (upd H b o) s.heap b o):Inv X pins σ (upd H b o) s:=by
 have u:=I.base;have ne:∀ c o',H c=some o'->c≠b:=λc o' q z=>by rw [z,n] at q;cases q
 refine⟨I.ok,I.os,I.bare,⟨u.keep,u.slot,λc o' q n' hx=>?_,u.there,λc xs q=>?_,λc o' v q=>?_,λc ps q=>?_⟩,I.loc,I.cell,by rw [aG<|Ne.symm a.l];exact I.free,λx c e=>by rw [aG<|a.c x c e];exact I.aM x c e,λp hp=>?_,λc o' q=>?_,I.len⟩
 ·have:c≠b:=λz=>by rw [z,a.s] at q;cases q
  rw [aG this];exact u.free c o' q n' hx
 ·have q':=u.dj c xs q;rw [aG<|ne _ _ q'];exact q'
 ·have q':=u.cS c o' v q;rw [aG<|ne _ _ q'];exact q'
 ·obtain⟨m,q'⟩:=u.dk c ps q;exact⟨m,by rw [aG<|ne _ _ q'];exact q'⟩
 ·obtain⟨e,n',r⟩:=I.pin p hp;exact⟨e,by rw [aG<|a.p p hp];exact n',r⟩
 ·by_cases y:c=b
  ·subst y;rw [ae] at q;cases q;exact ho
  ·rw [aG y] at q;exact(I.aw c o' q).dW (λ_ _ _ z=>z) (λd z=>by rw [aG<|ne _ _ z];exact z) λd xs z=>by rw [aG<|ne _ _ z];exact z
end
def Qw(X:Cx)(Φ:Value->St->Hp->Prop)(e:Value)(s':Shared):Prop:=∃(pins:List<|Addr×Obj) (σ:St) (H:Hp) (ea T:Addr) (C:Value),e = .ref ea/\Inv X pins σ H s'/\Xo s'.heap ea T C .none/\rd X pins ea/\rd X pins T/\H ea=none/\H T=none/\Φ C σ H
abbrev mY(X:Cx)(p:List<|Addr×Obj)(Φ:Value->St->Hp->Prop):Cx:=(X.aP p).cH<|Qw (X.aP p) Φ
theorem Hl{X:Cx}{p:List (Addr×Obj)}{Φ:Value->St->Hp->Prop}{σ:St}(hex:X.ex=[]):yA (XF X.prog X.w) (mY X p Φ) σ (λC _ H'=>Φ C σ H'):=by
 rintro pins H s e s' I ⟨ea,T,C,H',rfl,hE,os,bare,un,aw,x,n1,n2,n3,n4⟩;have I2:=I.call' (ch:=[]) os un aw bare (λb z=>absurd z<|by simp);have J:Inv (X.aP p) pins σ H s:=I.aX;exact⟨pins,σ,H',ea,T,C,rfl,I2.aX,x,uU J hex n1,uU J hex n2,n3,n4,hE⟩
abbrev cL(X:Cx)(p:List<|Addr×Obj)(ea:Addr):Cx:={X with A:=X.A.mark<|some<|.ref ea,calm:=false,pn:=X.pn++p,xe:=λ_ _=>False}
theorem Inv.hd{X:Cx}{p pins:List (Addr×Obj)}{σ:St}{H:Hp}{s:Shared}{ea:Addr}(I:Inv (X.aP p) pins σ H s):Inv (cL X p ea) pins σ H s:=
 ⟨⟨I.ok.mod,I.ok.kind,I.ok.glob,I.ok.blt,I.ok.above,I.ok.inj,I.ok.has,I.ok.jz,(λz=>(nomatch z)),I.ok.frames,I.ok.g8,I.ok.nO,I.ok.bs,I.ok.g9,I.ok.dY,I.ok.eU,I.ok.bS,I.ok.jf⟩,I.os,I.bare,I.base,I.loc,I.cell,I.free,I.aM,I.pin,I.aw,I.len⟩
theorem Inv.rg{X:Cx}{p pins kX:List (Addr×Obj)}{σ:St}{H:Hp}{s:Shared}{ea:Addr}(I:Inv (cL X p ea) pins σ H s)(hc:X.calm=true->X.A.handled=none):Inv (X.aP p) pins σ H s:=
 ⟨⟨I.ok.mod,I.ok.kind,I.ok.glob,I.ok.blt,I.ok.above,I.ok.inj,I.ok.has,I.ok.jz,hc,I.ok.frames,I.ok.g8,I.ok.nO,I.ok.bs,I.ok.g9,I.ok.dY,I.ok.eU,I.ok.bS,I.ok.jf⟩,I.os,I.bare,I.base,I.loc,I.cell,I.free,I.aM,I.pin,I.aw,I.len⟩
theorem Inv.iV{X:Cx}{p pins:List (Addr×Obj)}{σ:St}{H:Hp}{s:Shared}(I:Inv X p σ H s):Inv (X.aP p) [] σ H s:=
 ⟨⟨I.ok.mod,I.ok.kind,I.ok.glob,I.ok.blt,I.ok.above,I.ok.inj,I.ok.has,I.ok.jz,I.ok.hd,I.ok.frames,I.ok.g8,I.ok.nO,I.ok.bs,I.ok.g9,I.ok.dY,I.ok.eU,I.ok.bS,I.ok.jf⟩,I.os,I.bare,I.base,I.loc,I.cell,I.free,I.aM,λq hq=>I.pin q (by simpa using hq),I.aw,I.len⟩
theorem Inv.dg{X:Cx}{p pins:List (Addr×Obj)}{σ:St}{H:Hp}{s:Shared}(I:Inv (X.aP p) pins σ H s):Inv X p σ H s:=
 ⟨⟨I.ok.mod,I.ok.kind,I.ok.glob,I.ok.blt,I.ok.above,I.ok.inj,I.ok.has,I.ok.jz,I.ok.hd,I.ok.frames,I.ok.g8,I.ok.nO,I.ok.bs,I.ok.g9,I.ok.dY,I.ok.eU,I.ok.bS,I.ok.jf⟩,I.os,I.bare,I.base,I.loc,I.cell,I.free,I.aM,λq hq=>I.pin q<|Ba _ hq,I.aw,I.len⟩
def jX(K:PySem.W.Frag)(C S:Addr):Bool:=match K.lookup C with
 | some ⟨_,_,.cls cd,_⟩=>cd.mro.contains<|.ref S
 | _=>false
theorem Qx{K:PySem.W.Frag}{h:Heap}{C S:Addr}(X:K.In h)(q:jX K C S=true){nm qn:Str}{N:Addr}{bs bm:List Value}{hdct:Bool}{sn:List Str}{sub:List Value}{ab:Bool}{col:Option Bool}{dd:Option Addr}{k0 k1 k2 k3 k5:Option Value}{nid:String}
  (oC:h.get? C=some (excClassObj nm qn C N bs bm hdct sn sub ab col dd k0 k1 k2 k3 k5 nid)):(Value.ref C :: bm).contains (.ref S)=true:=by
 unfold jX at q
 split at q
 ·rename_i ho;have:=(X _ _ ho).symm.trans oC;cases this;exact q
 ·cases q
section
variable{M:Model}{A:Around}{E:Value->Shared->Prop}{K:PySem.W.Frag}{s:Shared}
theorem Hm{e C S:Addr}{oe:Obj}{Q:Bool->Shared->Prop}(X:K.In s.heap)(hC:XC K C)(hS:XC K S)(hm:jX K C S=true)(he:s.heap.get? e=some oe)(hc:oe.cls = .ref C)(h:Q true s):wpAny M A (excMatches (.ref e)<|.ref S) Q E s:=by
 obtain⟨bm,N,nm,qn,bs,hdct,sn,sub,ab,col,dd,k0,k1,k2,k3,k5,mN,oC,oN,oi,oT⟩:=hC.obj X;obtain⟨Qy,N',UL,UM,UN,Hn,UO,Qz,UP,QA,jm,UQ,xu,UR,UT,UU,UW,oS,UX,UY,QB⟩:=hS.obj X;have c1:=Qx X hm oC;have c2:(Value.ref S :: Qy).contains (.type "BaseException")=true:=by rw [List.contains_cons,QB.hasType PySem.F.excBase_ValueError.hasBase,Bool.or_true]
 have f:=tc_notTuple;obtain⟨hh,g,d,tk,os⟩:=s;unfold excMatches
 repeat (first | (with_reducible refine wpAny_loadPart_at he ?_;rw [hc]) | with_reducible refine wpAny_loadPart_at oS ?_ | (with_reducible refine wpAny_isSubtype_exc oS ?_;rw [c2]) | (with_reducible refine wpAny_isSubtype_exc oC ?_;rw [c1]) | wp_step)
 exact h
end
section
variable{X:Cx}{pins:List (Addr×Obj)}{σ:St}{H:Hp}{s:Shared}
theorem Inv.bQ{M:Model}{A:Around}{E:Value->Shared->Prop}{Q:Unit->Shared->Prop}{i:Nat}{n:Str}{pos:Pos}(I:Inv X pins σ H s)(hN:X.N.Nodup)(hi:X.N[i]?=some n)(hl:X.env.scope.names.lookup n=some .local)
  (h:∀ s',Inv X pins (σ.set i none) H s'->Q () s'):wpAny M A (do bindName X.env n .none;unbindBehindTheSuite X.env n pos) Q E s:=by
 obtain⟨m,hn,yB⟩:=id I.loc;have lI:(X.env.scope.kind == .class || (X.env.scope.kind == .module && X.env.locals != X.env.globals))=false:=by rw [I.ok.kind];rfl
 have hiσ:i < σ.length:=by rw [I.len];exact(Ac.mp hi).1
 obtain⟨oL,_,_,kz,_⟩:=id hn;refine wpAny_nameGoes_keeps hl hn lI λh' v jh hs=>h _ ?_;have low:∀ b o,X.s₀.heap.get? b=some o->b≠X.env.locals:=λb o q=>Co<|Bm (Bb q) I.ok.above;refine⟨I.ok,I.os,I.bare,⟨λb o q n' hb hx=>(hs.2 b<|low b o q).trans<|I.base.keep b o q n' hb hx,λb o q n' hb hx=>?_,I.base.free,λb o q hx=>?_,I.base.dj,I.base.cS,I.base.dk⟩,⟨_,jh,λj y v' e1 e2 e3=>?_⟩,λy c q=>?_,I.free,I.aM,λp hp=>?_,λb u q=>?_,by rw [Cv];exact I.len⟩
 ·obtain⟨sl,z⟩:=I.base.slot b o q n' hb hx;exact⟨sl,(hs.2 b<|low b o q).trans z⟩
 ·obtain⟨o',z⟩:=I.base.there b o q hx;exact⟨o',(hs.2 b<|low b o q).trans z⟩
 ·by_cases hj:j=i
  ·subst hj;rw [Dl hiσ] at e2;cases e2
  ·rw [Du<|Ne.symm hj] at e2;obtain⟨u,r,q⟩:=yB j y v' e1 e2 e3;refine⟨u,r,?_⟩
   rcases q with ⟨k,z⟩ | ⟨k,c,z,w⟩
   ·have:y≠n:=λz=>hj<|nQ hN e1<|z ▸ hi;exact .inl ⟨k,by simp [this,z]⟩
   ·exact .inr ⟨k,c,z,w.sameBut hs<|I.jA y c z⟩
 ·obtain⟨v2,z⟩:=I.cell y c q;exact⟨v2,z.sameBut hs<|I.jA y c q⟩
 ·obtain⟨e,n',ne,nf,d⟩:=I.pin p hp;exact⟨(hs.2 p.1 ne).trans e,n',ne,nf,d⟩
 ·refine(I.aw b u q).dW (λc w' hc z=>(hs.2 c ?_).trans z) (λ_ z=>z) λ_ _ z=>z;rintro rfl
  rcases hc with hc | hc
  ·rw [<- hc,I.free] at q;cases q
  ·rw [I.free] at hc;cases hc
end
def QC(X:Cx)(D:Ends)(rest:List Stmt)(i:Nat):Ends:={nx:=λσ H=>Run X rest D (σ.set i none) H,rt:=D.rt,bk:=λσ H=>D.bk (σ.set i none) H,ct:=λσ H=>D.ct (σ.set i none) H}
theorem QD{X:Cx}{σ:St}{H:Hp}{D:Ends}{rest body fh:List Stmt}{b₀:Stmt}{x n:Str}{S:Addr}{np hp pos:Pos}(i:Nat)(Φ:Value->St->Hp->Prop)(hm:X.mg x=some (.ref S))(hS:XC X.K S)(hN:X.N.Nodup)
  (hb:∀ p,Run (mY X p Φ) body {D with nx:=λσ' H'=>Run X rest D σ' H'} σ H)
  (hh:∀ C σ' H',Φ C σ' H'->∃ Ca,C = .ref Ca/\XC X.K Ca/\jX X.K Ca S=true/\∀ p ea oe,qZ oe C->H' ea=none->Run (cL X p ea) (b₀ :: fh) (QC X D rest i) (σ'.set i<|some<|.ref ea) (upd H' ea<|XO oe))
  (hi:X.N[i]?=some n:=by rfl) (hl:X.env.scope.names.lookup n=some .local:=by rfl) (hex:X.ex=[]:=by rfl) (cb:X.stack=X.env :: X.outer:=by rfl) (hZ:X.env.frame=some X.env.locals:=by rfl)
  (o8:X.fn n=true\/X.env.scope.names.lookup n=some .local:=by first | exact .inl rfl | exact .inr rfl) (hg:Gl X x:=by rfl) (bY:(x == ("__debug__" : Str))=false:=by decide) :
  Run X (.Try body [.ExceptHandler (some<|.Name x np) (some n) (b₀ :: fh) hp] [] [] pos :: rest) D σ H:=by
 refine gM (t:=λD' σ H=>∀ p,Run (mY X p Φ) body {D with nx:=λσ' H'=>Run X rest D σ' H'} σ H/\D'={D with nx:=λσ' H'=>Run X rest D σ' H'}) ?_ λp=>⟨hb p,rfl⟩;intro p0 s σ H D' I h;obtain⟨hb,rfl⟩:=h p0;refine wpAny_Try_except<|CP (hb.run [] s<|(I.iV (pins:=[])).cH _) (λf s1 q=>?_) λe s1 q=>?_
 ·have out:∀{pp:List (Addr×Obj)} {σ':St} {H':Hp},Inv (mY X p0 Φ) pp σ' H' s1->Inv X p0 σ' H' s1:=λJ=>(J.aX).dg;cases f with
  | next=>
   obtain⟨σ',H',J,q⟩:=q;exact vW p0 s1 σ' H' _ (out J) q
  | brk=>obtain⟨σ',H',J,q⟩:=q;exact⟨σ',H',out J,q⟩
  | cont=>obtain⟨σ',H',J,q⟩:=q;exact⟨σ',H',out J,q⟩
  | ret u=>obtain⟨v,σ',H',J,r,q⟩:=q;exact⟨v,σ',H',out J,r,q⟩
 ·obtain⟨pp,σ',H',ea,T,C,rfl,J,x1,a1,a2,n1,n2,hΦ⟩:=q;obtain⟨Ca,rfl,hC,mZ,m4⟩:=hh C σ' H' hΦ;have fr:(X.aP p0).A.frames=some (X.env :: X.outer):=by rw [<- cb];exact J.ok.frames
  have g8:s1.heap.FunFrames X.base (X.env :: X.outer):=by rw [<- cb];exact J.stack
  refine He fr g8 hZ x1 λh2 T' z x2 k=>?_;have k':Kp (cF (X.aP p0).stack) [ea,T] s1.heap h2:=by
   show Kp (cF X.stack) [ea,T] s1.heap h2;rw [cb];exact k
  have J2:Inv (X.aP p0) pp σ' H' {s1 with heap:=h2}:=J.kp (t':=s1.toks) hex k' (λb hb=>by
   rcases Am.mp hb with y | y
   ·rw [y];exact a1
   ·rw [Ag.mp y];exact a2) (λb hb=>by
   rcases Am.mp hb with y | y
   ·rw [y];exact n1
   ·rw [Ag.mp y];exact n2)
  have a3:=uU J hex z;have n3:H' T'=none:=uT J.aw z;have J3:Inv (cL X p0 ea) pp σ' H' {s1 with heap:=h2}:=J2.hd;obtain⟨⟨oe,vs,he,hc,jV,hd,h1,jK⟩,bf,yC⟩:=id x2;refine wpAny_handleBy_cons (codeAny_handlers_test<|nR J3 hg hm ?_ bY) (by intro q;cases q);refine Hm J3.dq hC hS mZ he hc ?_;refine codeAny_handlers_suite_as<|Hg x2 λh3 x3 k3=>?_;have J4:Inv (cL X p0 ea) pp σ' H' {s1 with heap:=h3}:=J3.kp (s:={s1 with heap:=h2}) (t':=s1.toks) (bad:=[T']) hex ⟨λb o q _ nb=>k3 b o (λy=>nb<|by simp [y]) q,λb o q hb=>⟨o.slots,k3 b o (λy=>by
   obtain⟨_,o',dC,jh⟩:=J3.stack.mem hb;obtain⟨oT,ts,hT,dT,_⟩:=yC;rw [y] at dC;have:=dC.symm.trans hT;cases this;exact jh _ dT) q⟩⟩ (λb hb=>by rw [Ag.mp hb];exact⟨a3.l,a3.c,a3.p,a3.f,a3.s⟩) λb hb=>by rw [Ag.mp hb];exact n3
  obtain⟨⟨rh,yD,rk,yE,m5,yF,rp,yG⟩,_,_⟩:=x3;have J5:Inv (cL X p0 ea) pp σ' (upd H' ea<|XO rh) {s1 with heap:=h3}:=J4.kW hex ⟨a1.l,a1.c,a1.p,a1.f,a1.s⟩ n1 ⟨rk,⟨_,rk⟩⟩;refine vR (X:=cL X p0 ea) J5 hN hi (Or.inl hl) (v:= .ref ea) rfl (λs4 J6=>?_) o8;refine CP ((m4 p0 ea rh ⟨yE,m5,yD,yF,yG⟩ n1).run pp s4 J6) (λf s5 q=>?_) λ_ _ z=>z.elim;have out:∀{σ2:St} {H2:Hp} {s6:Shared},Inv (cL X p0 ea) pp σ2 H2 s6->Inv X p0 σ2 H2 s6:=λJ=>((J.rg (kX:=[]) J2.ok.hd).dg);cases f with
  | next=>
   obtain⟨σ2,H2,J7,q⟩:=q;exact J7.bQ hN hi hl λs6 J8=>⟨_,H2,out J8,q⟩
  | brk=>
   obtain⟨σ2,H2,J7,q⟩:=q;exact J7.bQ hN hi hl λs6 J8=>⟨_,H2,out J8,q⟩
  | cont=>
   obtain⟨σ2,H2,J7,q⟩:=q;exact J7.bQ hN hi hl λs6 J8=>⟨_,H2,out J8,q⟩
  | ret u=>
   obtain⟨v,σ2,H2,J7,r,q⟩:=q;exact J7.bQ hN hi hl λs6 J8=>⟨v,_,H2,out J8,r,q⟩
open PySem.W
section
variable{prog:Program}{w:World}{A:Around}{E:Value->Shared->Prop}{s:Shared}{K:Frag}{a C:Addr}{o:Obj}
def jY(K:Frag)(C:Addr):Bool:=findIn K (.ref C) "__getattribute__" == some (some<|.builtin "BaseException.__getattribute__") && findIn K (.ref C) "__getattr__" == some none && findIn K (.ref C) "__class__" == some (some<|.builtin "object.__class__") &&
 mroIn K C (.type "object") == some true && mroIn K C (.type "BaseException") == some true && (clsIn K C).isSome
theorem QE{Q:Option Value->Shared->Prop}(X:K.In s.heap)(I:InstAt s.heap a o C none)(q:jY K C=true)(hq:Q (some<|.ref C) {s with toks:=s.toks+1}):wpAny (model prog w) A (getAttr? (.ref a) "__class__") Q E s:=by
 unfold jY at q;simp only [Cg,beq_iff_eq] at q;obtain⟨⟨⟨⟨⟨h1,h2⟩,h3⟩,h4⟩,h5⟩,_⟩:=q;obtain⟨hh,g,d,t,os⟩:=s;have L0:=I.type (M:=model prog w);have L1:=looks_findIn (M:=model prog w) X h1;have L2:=looks_findIn (M:=model prog w) X h2;have L3:=looks_findIn (M:=model prog w) X h3;have L5:=looks_mroIn (M:=model prog w) X h5;unfold getAttr? getAttrBy? getAttrBy;refine BP<|wpAny_mkText<|BP<|wpAny_attempt<|DG<|BP<|L0.at (BP<|L1.at ?_);show wpAny _ _ (getAttrByItsOwn _ _ _ _ _ _) _ _ _;unfold getAttrByItsOwn hookBefore callGetattribute boundAndCalled;have f3:=F.attr_ValueError.ga.bind<|.ref a;refine BP ?_;show wpAny _ _ (typeLookup (.ref C) "__getattr__") _ _ _;refine L2.at ?_;refine BP<|wpAny_attempt<|DG ?_;rw [BJ<|by decide];rw [f3];refine BP<|BX ?_;refine wpAny_call<|codeAny_call_builtin F.attr_ValueError.ga.plain F.entry_bexc_ga ?_;have hk:builtinKind "BaseException.__getattribute__" = some .slot:=by decide +kernel
 have fv:splitId "BaseException.__getattribute__" = some ("BaseException","__getattribute__"):=by decide +kernel
 have ha:=F.args_bexc_ga (.ref a)<|.str "__class__" t;simp only [checkBuiltinCall,hk,fv];refine BP ?_;unfold isInstance;have LB:Looks (model prog w) hh (isSubtype (.ref C)<|.type "BaseException") true:=L5
 repeat lk
 have QF:(toString "getset_descriptor"++toString "."++toString (Str.ofString "__get__").toString:String) = "getset_descriptor.__get__":=by decide +kernel
 rw [QF];refine wpAny_run (c:= .call (.builtin "getset_descriptor.__get__") ⟨[.builtin "object.__class__",.ref a,.ref C],[]⟩) (h:=none) ?_;refine class_get (s:=⟨hh,g,d,t+1,os⟩) (K:=K) X I h4 ?_
 repeat lk
 exact hq
theorem Ho(q:jY K C=true):KitX K (.ref a) (.ref C) (λh=>∃ o,InstAt h a o C none) where
 ty:=λ_ _ _ ⟨_,I⟩=>I.type
 it:=λ_ _ X _=>by
  unfold jY at q;rw [Cg] at q;have z:=q.2;unfold clsIn at z
  split at z
  ·rename_i ho;intro A' Q' E' s' k r;unfold isType loadHead;exact BP<|wpAny_loadPart (k _ _<|X _ _ ho)<|BX r
  ·cases z
 ne:=λh tp dd its n sl X yH=>by
  unfold jY at q;rw [Cg] at q;have z:=q.2;refine Bool.eq_false_iff.mpr λy=>?_;have e:C=tp:=Value.ref.inj<|beq_iff_eq.mp y;subst e;unfold clsIn at z
  split at z
  ·rename_i ho;cases (X _ _ ho).symm.trans yH
  ·cases z
 ca:=λX ⟨_,I⟩ k=>QE X I q k
end
end L2
namespace L2
open PySem PySem.Spec PyProof.Rows
theorem Hq{h:Heap}{ea C:Addr}{oe:Obj}(he:h.get? ea=some oe)(x:qZ oe<|.ref C):PySem.W.InstAt h ea oe C none:=by
 obtain⟨vs,hd,_⟩:=x.data;refine⟨he,x.cls,?_,?_⟩
 ·unfold PySem.W.notCls;rw [hd]
 ·rw [x.dict];exact True.intro
theorem QG{X:Cx}:fF X (.builtin "isinstance") (λxs H Q=>∃ ea C oe c v b,xs=[.ref ea,v]/\(∀ u,RelV v u->u=c)/\H ea=some (XO oe)/\qZ oe (.ref C)/\jY X.K C=true/\PySem.W.kitOne X.K (.ref C) c=some b/\Q (.bl b) H):=by
 intro pins s σ H xs us Q I r h;obtain⟨ea,C,oe,c,v,b,rfl,hv,hH,ix,hl,e,q⟩:=h;obtain⟨u,w',rfl,ru,eY⟩:=vals2 r;cases (show u=Value.ref ea from ru);cases hv _ eY;have he:s.heap.get? ea=some oe:=(show aq X.prog X.w H s.heap ea (XO oe) from I.aw ea _ hH).1;exact CW (Ho hl) I.dq ⟨oe,Hq he ix⟩ e (λz=>nomatch z) λtk=>⟨.bl b,H,I.tok tk,rfl,q⟩
section
variable{prog:Program}{w:World}{A:Around}{E:Value->Shared->Prop}{s:Shared}
end
open bG
section
variable{X:Cx}{a b e:Expr}{es:List Expr}{σ:St}{H:Hp}{Q:VK}{pos p kp cp:Pos}{j:Nat}
theorem QH:fF X (.builtin "isinstance") (λxs H Q=>∃ ea C oe tp uV vs b,xs=[.ref ea,.ref tp]/\H tp=some (.tup uV)/\(∀ us,aj uV us->us=vs)/\H ea=some (XO oe)/\qZ oe (.ref C)/\jY X.K C=true/\PySem.W.kitAny X.K (.ref C) vs=some b/\Q (.bl b) H):=by
 intro pins s σ H xs us Q I r h;obtain⟨ea,C,oe,tp,uV,vs,b,rfl,yH,hv,hH,ix,hl,e,q⟩:=h;obtain⟨u,w',rfl,ru,eY⟩:=vals2 r;cases (show u=Value.ref ea from ru);cases (show w'=Value.ref tp from eY);obtain⟨its,r2,pl,_⟩:=I.tuple<|bo.of yH;obtain rfl:=hv its r2;obtain⟨o,ho,hc,n,hd⟩:=pl;obtain⟨oc,od,QI,iF⟩:=o;have hc:oc=_:=hc;have hd:QI=_:=hd;subst hc hd;have he:s.heap.get? ea=some oe:=(show aq X.prog X.w H s.heap ea (XO oe) from I.aw ea _ hH).1;exact PySem.W.kia_tup (Ho hl) I.dq ⟨oe,Hq he ix⟩ ho e (λz=>nomatch z) λtk=>⟨.bl b,H,I.tok tk,rfl,q⟩
end
end L2
namespace L2
open PySem PySem.Spec PyProof.Rows bZ
section
variable{X:Cx}{elt t1 i1 t2 i2 t3 i3:Expr}{f1 f2 f3:List Expr}{scope:Scope}{pos:Pos}{σ:St}{H:Hp}{acc:Value}{env:Env}
end
section
variable{X:Cx}{tg:Expr}{ifs:List Expr}{inner:Sem Unit}{σ:St}{H:Hp}{a:Addr}{xs:List V}{after:St->Hp->Prop}
theorem UZ(Pv:Nat->St->Hp->Prop)(h0:Pv 0 σ H)(hl:∀ i σ' H',i<=xs.length->Pv i σ' H'->bo X.K H' a xs)
  (hs:∀ i x σ' H',xs[i]?=some x->Pv i σ' H'->Eg X tg x σ' H' λσ2 H3=>Ei X ifs σ2 H3 λb H4=>if b=true then qe X inner σ2 H4 (Pv<|i+1) else Pv (i+1) σ2 H4)
  (hd:∀ σ' H',Pv xs.length σ' H'->after σ' H'):kH X tg ifs inner (px X.K a) after σ H:=by
 refine⟨λi m σ' H'=>m=xs.length - i/\i<=xs.length/\Pv i σ' H',⟨_,rfl,Bw _,h0⟩,?_⟩;rintro i m σ' H' ⟨rfl,hi,p⟩;have q:=hl i σ' H' hi p
 by_cases az:i < xs.length
 ·refine .inr ⟨⟨xs,xs[i],q,by simp [az]⟩,Pv<|i+1,λσ' H' p'=>⟨xs.length - (i+1),by omega,rfl,az,p'⟩,λx H2 y=>?_⟩;obtain⟨e,y⟩:=y;subst e;exact hs i x σ' _ (y xs q) p
 ·have e:i=xs.length:=by omega
  subst e;exact .inl ⟨⟨xs,q,Af _⟩,hd σ' H' p⟩
theorem QJ(Pv:Nat->St->Hp->Prop)(h0:Pv 0 σ H)(hl:∀ i σ' H',i<=xs.length->Pv i σ' H'->av X.K H' a xs)
  (hs:∀(i:Nat) x T σ' H',xs[i]?=some x->Pv i σ' H'->H' T=none->Eg X tg (.ref T) σ' (upd H' T<|.tup [.int (i:Int),x]) λσ2 H3=>Ei X ifs σ2 H3 λb H4=>if b=true then qe X inner σ2 H4 (Pv<|i+1) else Pv (i+1) σ2 H4)
  (hd:∀ σ' H',Pv xs.length σ' H'->after σ' H'):kH X tg ifs inner (yt X.K a) after σ H:=by
 refine⟨λi m σ' H'=>m=xs.length - i/\i<=xs.length/\Pv i σ' H',⟨_,rfl,Bw _,h0⟩,?_⟩;rintro i m σ' H' ⟨rfl,hi,p⟩;have q:=hl i σ' H' hi p
 by_cases az:i < xs.length
 ·refine .inr ⟨⟨xs,xs[i],q,by simp [az]⟩,Pv<|i+1,λσ' H' p'=>⟨xs.length - (i+1),by omega,rfl,az,p'⟩,λv H2 y=>?_⟩;obtain⟨T,x,hT,rfl,rfl,hx⟩:=y;exact hs i x T σ' _ (hx xs q) p hT
 ·have e:i=xs.length:=by omega
  subst e;exact .inl ⟨⟨xs,q,Af _⟩,hd σ' H' p⟩
end
section
variable{X:Cx}{σ:St}{H:Hp}{Q:VK}
end
end L2
namespace Dt
section
variable{κ:Type}
structure kY(l:κ->κ->Int)(C:List κ):Prop where
 good:∀ p q,C=p++q->Good l p.reverse
 pos:∀ p q,C=p++q->0 < mm l p.reverse/\mm l p.reverse < 2199023255552
 all:∀ p q,C=p++q->∀ i∈q,∀ j∈q,-(2 ^ 64) < MM l p.reverse i j/\MM l p.reverse i j < 2 ^ 64
end
variable{κ:Type} [DecidableEq κ]
theorem QK(n:Nat)(h:n<=40):(2:Int) ^ n < 2199023255552:=by
 have:∀ n,n < 41->(2:Int) ^ n < 2199023255552:=by decide
 exact this n<|by omega
theorem iW{C:List κ}{E:List (κ×κ)}(hC:C.Nodup)(hE:E.length<=40)(h:∀ x∈C,eN C E x):kY (Lp<|E.map ed) C:=by
 have nz:∀ K:List κ,K.Nodup->(∀ x∈K,x∈C)->0 < De K E:=λK hn hs=>fJ _ K rfl hn E λx hx=>(h x<|hs x hx).less hs;have bd:∀ K:List κ,K.Nodup->0<=De K E/\De K E < 2199023255552:=λK hn=>by
  have b:=oA E K hn;exact⟨b.1,Int.lt_of_le_of_lt b.2<|QK _ hE⟩
 have nd:∀ p q,C=p++q->p.reverse.Nodup/\∀ x∈p.reverse,x∈C:=λp q e=>by
  rw [e] at hC;exact⟨(List.reverse_perm p).nodup_iff.mpr (Da.mp hC).1,λx hx=>by rw [e];exact Ba _<|Em.mp hx⟩
 have gd:∀ K:List κ,K.Nodup->(∀ x∈K,x∈C)->Good (Lp<|E.map ed) K:=λK hn hs=>Gy λa b e=>by
  rw [e] at hn hs;exact Int.ne_of_gt<|nz b (Da.mp hn).2.1 λx hx=>hs x<|Ao _ hx
 refine⟨λp q e=>gd _ (nd p q e).1 (nd p q e).2,λp q e=>⟨nz _ (nd p q e).1 (nd p q e).2,(bd _ (nd p q e).1).2⟩,λp q e i hi j hj=>?_⟩;obtain⟨n1,n2⟩:=nd p q e;have im:=hC;rw [e] at im;have dis:=(Da.mp im).2.2;have ni:i∉p.reverse:=λz=>dis i (Em.mp z) i hi rfl;have nj:j∉p.reverse:=λz=>dis j (Em.mp z) j hj rfl;have ci:i∈C:=by rw [e];exact Ao _ hi
 have cj:j∈C:=by rw [e];exact Ao _ hj
 have bi:=bd (i :: p.reverse)<|By.mpr ⟨ni,n1⟩;have bj:=bd (j :: p.reverse)<|By.mpr ⟨nj,n1⟩
 by_cases cX:i=j
 ·subst cX;have:MM (Lp<|E.map ed) p.reverse i i=De (i :: p.reverse) E:=rfl;rw [this];omega
 have gi:Good (Lp<|E.map ed) (i :: p.reverse):=gd _ (By.mpr ⟨ni,n1⟩) λx hx=>by
  rcases Am.mp hx with r | r
  ·rw [r];exact ci
  ·exact n2 x r
 have s:=jS gi j j;have b2:=(bd (j :: i :: p.reverse) (By.mpr ⟨λz=>by
  rcases Am.mp z with r | r
  ·exact cX r.symm
  ·exact nj r,By.mpr ⟨ni,n1⟩⟩)).1
 have b3:=nz p.reverse n1 n2;have e1:MM (Lp<|E.map ed) p.reverse i i=De (i :: p.reverse) E:=rfl;have e2:MM (Lp<|E.map ed) p.reverse j j=De (j :: p.reverse) E:=rfl;have e3:MM (Lp<|E.map ed) (i :: p.reverse) j j=De (j :: i :: p.reverse) E:=rfl;have e4:mm (Lp<|E.map ed) p.reverse=De p.reverse E:=rfl;have sy:=uO (λa b=>PF _ a b) (gd _ n1 n2) j i;rw [e1,e2,e3,e4,sy] at s;generalize MM (Lp<|E.map ed) p.reverse i j=x at s ⊢;generalize De (i :: p.reverse) E=a at *;generalize De (j :: p.reverse) E=b at *;have pr:0<=De p.reverse E * De (j :: i :: p.reverse) E:=Int.mul_nonneg (by omega) b2;have ab:b * a<=2199023255552 * 2199023255552:=LQ (by omega) (by omega) bi.1 (by decide);have xx:x * x<=2199023255552 * 2199023255552:=by omega
 constructor
 ·refine Int.not_le.mp λz=>?_;have:(2 ^ 64:Int) * 2 ^ 64<=(-x) * (-x):=LQ (by omega) (by omega) (by decide) (by omega);have e:(-x) * (-x)=x * x:=by grind
  rw [e] at this;exact absurd (MP this xx)<|by decide
 ·refine Int.not_le.mp λz=>?_;have:(2 ^ 64:Int) * 2 ^ 64<=x * x:=LQ z z (by decide) (by omega);exact absurd (MP this xx)<|by decide
end Dt
namespace L2
open PySem PySem.Spec PyProof.Rows
variable{X:Cx}
def QL(i j:Int):Prop:=0 < j/\j < 2 ^ 64
theorem QM:db X (binaryOp .FloorDiv) (rI QL λi j=> .int<|i / j):=pA λi j _ _ _ _ _ hc q=>by
 have h1:(0:Int) < j:=hc.1;have h2:j < 2 ^ 64:=hc.2;refine floordiv_int (by omega) (by rw [JD i<|by omega];exact q)<|.inl<|PyProof.noPylong_of_log2 ?_;exact Nat.lt_trans ((Nat.log2_lt<|by omega).mpr (show j.natAbs < 2 ^ 64 by omega))<|by decide
theorem Hr:nX X (λx y H Q=>iG X.K x y H Q\/l3 X.K x y H Q):=by
 intro value slice pins s σ H x y v u Q I rx ry h hs
 rcases h with h | h
 ·exact eI value slice pins s σ H x y v u Q I rx ry h hs
 ·exact t9 value slice pins s σ H x y v u Q I rx ry h hs
theorem Hs{tg iter:Expr}{body rest:List Stmt}{D:Ends}{σ:St}{H:Hp}{pos:Pos}{a:Addr}{xs:List V}(Pv:Nat->St->Hp->Prop)(h:Ev X iter σ H λx H1=>x = .ref a/\Pv 0 σ H1)
  (hk:(∀ i σ H,Pv i σ H->av X.K H a xs)\/(∀ i σ H,Pv i σ H->bo X.K H a xs))
  (hs:∀ i x σ H,xs[i]?=some x->Pv i σ H->Eg X tg x σ H λσ2 H2=>Run X body {D with nx:=Pv<|i+1,ct:=Pv<|i+1,bk:=λσ' H'=>Run X rest D σ' H'} σ2 H2) (hd:∀ σ H,Pv xs.length σ H->Run X rest D σ H)
  (hp:PassesOwn (model X.prog X.w) X.A X.env X.xe:=by exact FJ) (hc:X.calm=true:=by rfl)
  (hf:∀ x,foldedSetIterable iter X.env x=pure x:=by intro _;rfl):Run X (.For tg iter body [] pos :: rest) D σ H:=by
 rcases hk with hk | hk
 ·exact mB (h.mono λv H' q=>⟨a,q.1,⟨_,hk 0 _ _ q.2⟩,mC Pv q.2 (λi σ H _ p=>hk i σ H p) hs hd⟩) hp hc hf
 ·exact xm (h.mono λv H' q=>⟨a,q.1,⟨_,hk 0 _ _ q.2⟩,xn Pv q.2 (λi σ H _ p=>hk i σ H p) hs hd⟩) hp hc hf
theorem yI{o i:Expr}{v:V}{σ:St}{H:Hp}{pos:Pos}{R:St->Hp->Prop}(h:Ev X o σ H λx H1=>Ev X i σ H1 λy H2=>wC x y v H2 λH3=>R σ H3)
  (ha : ∀ v, assign (.Subscript o i pos) X.env v = (do
   let ov <- holding [v]<|eval o X.env
   let iv <- holding [v,ov]<|eval i X.env
   standAt pos
   holding [v,ov,iv] (setItem ov iv v)
   release [v,ov,iv] []):=by intro _;rfl):Eg X (.Subscript o i pos) v σ H R:=uk (K7 aZ aZ set_list ha) h
end L2
namespace Y5
open PySem L2 Nt bG
structure TabAt(H:Hp)(tb:Addr)(ts:List Addr)(M:List<|List Int):Prop where
 len:ts.length=M.length
 lst:H tb=some (.lst<|ts.map V.ref)
 row:∀(i:Nat) a r,ts[i]?=some a->M[i]?=some r->H a=some (.lst<|r.map V.int)
 inj:ts.Nodup
theorem TabAt.same{H H':Hp}{tb:Addr}{ts:List Addr}{M:List (List Int)}(h:TabAt H tb ts M)(s:ah H H'):TabAt H' tb ts M:=⟨h.len,s _ _ h.lst,λi a r h1 h2=>s _ _<|h.row i a r h1 h2,h.inj⟩
theorem yJ{ts:List Addr}{i:Nat}{a:Addr}(h:ts[i]?=some a):cU (ts.map V.ref) (i:Int)=some (.ref a):=hG<|by rw [Ad,h];rfl
theorem oG{r:List Int}{i:Nat}{v:Int}(h:r[i]?=some v):cU (r.map V.int) (i:Int)=some (.int v):=hG<|by rw [Ad,h];rfl
theorem QN(ts:List Addr)(i:Nat):bh (ts.map V.ref) (some (i:Int)) none=(ts.drop i).map V.ref:=by
 unfold bh;rw [HT.cg,HT.dr,Ab];rw [Cp (by rw [Cb,Ab];omega),MK]
 rcases Nat.le_total i ts.length with h | h
 ·rw [Dy h]
 ·rw [Nat.min_eq_right h,Cw (by simp),Cw<|by simpa using h]
section
variable{X:Cx}{elt tg:Expr}{ifs:List Expr}{scope:Scope}{σ:St}{H:Hp}{N':List Str}{A:Addr}{after:Hp->Prop}
theorem yK{lo:Int}{n:Nat}(Pv:Nat->St->Hp->Prop)(h0:Pv 0 σ H)
  (hs : ∀ i σ' H', i < n → Pv i σ' H' → pZ X N' scope tg (.int<|lo + i) σ' H' λσ2 H3 => qa X N' scope ifs σ2 H3 λb H4 =>
   if b=true then pY X N' scope elt σ2 H4 λv H5=>∃ ys,H5 A=some (.lst ys)/\ys.length < sizeLine/\Pv (i+1) σ2 (upd H5 A<|.lst<|ys++[v]) else Pv (i+1) σ2 H4)
  (hd:∀ σ' H',Pv n σ' H'->after H'):jJ X N' scope tg ifs elt (lQ lo n) A after σ H:=by
 refine⟨λi m σ' H'=>m=n - i/\i<=n/\Pv i σ' H',⟨_,rfl,Bw _,h0⟩,?_⟩;rintro i m σ' H' ⟨rfl,hi,p⟩
 by_cases az:i < n
 ·refine .inr ⟨az,Pv<|i+1,λσ' H' p'=>⟨n - (i+1),by omega,rfl,az,p'⟩,λx H2 y=>?_⟩;obtain⟨e,y⟩:=y;subst e y;exact hs i σ' _ az p
 ·have e:i=n:=by omega
  subst e;exact .inl ⟨Af _,hd σ' H' p⟩
end
theorem QO(l:Nat->Nat->Int)(i j:Nat):Dt.MM l [] i j=l i j:=by
 show l i j * 1 - 0=l i j;omega
def yL:Sp:=λvs H Q _=>∃(tb:Addr) (ts:List Addr) (l:Nat->Nat->Int) (C:List Nat),vs=[.ref tb]/\TabAt H tb ts (C.map λi=>C.map<|l i)/\Dt.kY l C/\C.length<=60/\∀ H',ah H H'->Q (.int<|Dt.mm l C.reverse) H'
section
variable{P:Program}{w:World}{K:PySem.W.Frag}{mg:Str->Option Value}{base:Heap}
abbrev Ht:List Str:=["table","last","corner"]
abbrev m6:List Str:=["table","last","corner","line"]
abbrev rq:List Str:=["table","last","corner","line","place"]
theorem rz:au Ht ["table"] (aR mI):=⟨rfl,rfl,rfl,by decide +kernel,rfl,by decide +kernel,by decide +kernel⟩
theorem QP:m6.Nodup:=by decide +kernel
theorem QQ:rq.Nodup:=by decide +kernel
def QR:Scope:=match fI mI with
 | [_,.While _ [_,.Assign _ (.ListComp _ _ sc _) _,_] _ _,_]=>sc
 | _=>aR mI
def QS:Scope:=relabel QR<|PyProof.Rows.envOfC "determinant" (aR mI) 0 0 .none
theorem QT{f:Addr}{fd:FuncData}(F:bL K "determinant" "determinant" mI f fd)(T:Txt mg):aA P w K mg base bP 1 f fd ["table"] yL:=by
 refine F.gb rz (λvs H Q E h=>?_) λb0 H vs Q E hr h=>?_
 ·obtain⟨tb,ts,l,C,rfl,_⟩:=h;rfl
 obtain⟨tb,ts,l,C,rfl,hT,hF,hC,q⟩:=h;have nd:=rz.nd;show Run _ _ _ [some<|.ref tb,none,none] H;refine run_set 1 nd<|ao ?_;show Run _ _ _ [some<|.ref tb,some<|.int 1,none] H;refine EG (λm σ H'=>∃(p qq:List Nat) (tb:Addr) (ts:List Addr) (u:Option V),C=p++qq/\m=qq.length/\ah H H'/\TabAt H' tb ts (qq.map λi=>qq.map<|Dt.MM l p.reverse i)/\σ=[some<|.ref tb,some<|.int<|Dt.mm l p.reverse,u]) (m0:=C.length) ⟨[],C,tb,ts,_,rfl,rfl,ah.refl _,?_,rfl⟩ ?_
 ·rw [show(C.map λi=>C.map<|Dt.MM l ([]:List Nat).reverse i)=C.map λi=>C.map (l i) from Bk λi _=>Bk λj _=>QO l i j];exact hT
 rintro m σ H1 ⟨p,qq,tb,ts,u,im,hm,s1,oH,rfl⟩;have uW:=oH.len;rw [Ab] at uW;refine DM (af 0 (v:= .ref tb) ⟨!ts.isEmpty,Or.inl ⟨ts.map V.ref,av.of oH.lst,by cases ts <;> rfl⟩,?_⟩);cases qq with
 | nil=>
  have e:ts=[]:=Ck.mp uW;rw [e];rw [Bg] at im;refine d0<|df<|af 1 ?_;have:=q H1 s1;rw [im] at this;exact this
 | cons k q'=>
 cases ts with
 | nil=>cases uW
 | cons a0 jZ=>
 refine a8 ?_;have yM:jZ.length=q'.length:=Nat.succ.inj uW;have lC:q'.length<=59:=by
  have:=CJ List.length im;rw [Ae,As] at this;omega
 have e0:=oH.row 0 a0 _ rfl rfl;obtain⟨mp,ml⟩:=hF.pos p _ im;have Hu:C=(p++[k])++q':=by rw [im,Bf];rfl
 have gd:=hF.good (p++[k]) q' Hu;rw [Do] at gd;have gd:Dt.Good l (k :: p.reverse):=gd;have sv:=λi j=>Dt.jS gd i j;have bd:=hF.all p _ im;generalize Hv:p.reverse=KK at *;have mk:k∈k :: q':=Ah ..;show Run _ _ _ [some<|.ref tb,some<|.int<|Dt.mm l KK,u] H1;refine run_set 2 nd<|de eI<|de eI<|af 0<|ao ⟨tb,_,_,.ref a0,rfl,rfl,av.of oH.lst,yJ (i:=0) rfl,ao ⟨a0,_,_,.int<|Dt.MM l KK k k,rfl,rfl,av.of e0,oG (i:=0) rfl,?_⟩⟩;show Run _ _ _ [some<|.ref tb,some<|.int<|Dt.mm l KK,some<|.int<|Dt.MM l KK k k] H1;refine run_set 0 nd<|iL (aR mI) Ht m6 1 (kA aZ)<|pX pK<|af 0<|mz<|ao ⟨1,rfl,xg ⟨tb,_,rfl,av.of oH.lst,λp1 ik=>?_⟩⟩;rw [show bh ((a0 :: jZ).map V.ref) (some 1) none=jZ.map V.ref from QN (a0 :: jZ) 1];have sp:=aI ik<|.lst<|jZ.map V.ref;have ep:(upd H1 p1<|.lst<|jZ.map V.ref) p1=some (.lst<|jZ.map V.ref):=ae;have s2:=s1.trans sp;have uX:=oH.same sp;generalize upd H1 p1 (.lst<|jZ.map V.ref)=H2 at s2 ep uX ⊢;have QU:=uX.row 0 a0 _ rfl rfl;refine⟨p1,rfl,⟨_,av.of ep⟩,λA hA=>?_⟩;refine mM (xs:=jZ.map V.ref) (λi σ' H'=>(∃ v,σ'=[some<|.ref tb,some<|.int<|Dt.mm l KK,some<|.int<|Dt.MM l KK k k]++[v])/\∃ us:List Addr,us.length=i/\H' A=some (.lst<|us.map V.ref)/\(∀(j:Nat) a c,us[j]?=some a->q'[j]?=some c->H' a=some (.lst<|(q'.map<|Dt.MM l (k :: KK) c).map V.int))/\us.Nodup/\A∉us/\ah H2 H') ⟨⟨none,rfl⟩,[],rfl,ae,λj a c h=>by simp at h,El,Dr,aI hA _⟩ ?_ ?_ ?_
 ·rintro i σ' H' _ ⟨_,us,_,_,_,_,_,sm⟩;exact av.of<|sm _ _ ep
 ·rintro i x σ' H' hx ⟨⟨v,rfl⟩,us,hl,eA,j0,jL,yN,sm⟩;rw [Ad,Ax] at hx;obtain⟨a,ha,rfl⟩:=hx;have hi:i < q'.length:=by
   have:=(Ac.mp ha).1;omega
  obtain⟨c,hc⟩:∃ c,q'[i]?=some c:=⟨_,Aa hi⟩;have mc:c∈k :: q':=Ar _<|Au hc;have ea:=(uX.same sm).row (i+1) a _ (by rw [Cu];exact ha) (by rw [Ad,Cu,hc];rfl);have QV:=sm _ _ QU;have Hw:=sm _ _ uX.lst;intro cl C' s₀ H₀ ex;refine bb 3 QP ?_;intro cl C' s₀ H₀ ex;refine gq<|a8 ?_;intro cl C' s₀ H₀ ex;refine iL QS m6 rq 1 (Lv rfl T.range (ta:=w8 _ _) gg (kE _ [_] _ rfl) (kE _ [] _ rfl)) ?_;show Ea _ _ _ _ _;refine ai<|ao<|ai<|gj l8 T.len IK<|ai<|af 0<|aC ⟨tb,_,rfl,.inl<|av.of Hw,aC ⟨_,_,rfl,⟨by decide,by decide,?_,?_⟩,λD hD=>?_⟩⟩
  ·rw [Ab];omega
  ·rw [Ab,As];omega
  rw [Ab,As,yM,show(((q'.length+1:Nat):Int) - 1).toNat=q'.length by omega];refine yK (λt σ' c6=>(∃ v,σ'=[some<|.ref tb,some<|.int<|Dt.mm l KK,some<|.int<|Dt.MM l KK k k,some<|.ref a]++[v])/\ah H' c6/\c6 D=some (.lst<|((q'.take t).map<|Dt.MM l (k :: KK) c).map V.int)) ⟨⟨none,rfl⟩,aI hD _,ae⟩ ?_ ?_
  ·rintro t σ' c6 ht ⟨⟨v,rfl⟩,sn,eD⟩;obtain⟨j,hj⟩:∃ j,q'[t]?=some j:=⟨_,Aa ht⟩;have mj:j∈k :: q':=Ar _<|Au hj;have et:(1:Int)+(t:Int)=((t+1:Nat):Int):=by omega
   rw [et];intro cl C' s₀ H₀ ex;refine bb 4 QQ ?_;intro cl C' s₀ H₀ ex;refine gq<|a8 ?_;intro cl C' s₀ H₀ ex;refine aE QM (aE lU<|aE kC<|de eI<|af 3<|af 4 ⟨a,_,_,.int<|Dt.MM l KK c j,rfl,rfl,av.of<|sn _ _ ea,oG (i:=t+1) (by rw [Ad,Cu,hj];rfl),af 2 ⟨_,_,rfl,rfl,.inl<|bd c mc j mj,?_⟩⟩);refine aE kC<|de eI<|af 3<|ao ⟨a,_,_,.int<|Dt.MM l KK c k,rfl,rfl,av.of<|sn _ _ ea,oG (i:=0) rfl,?_⟩;refine de eI (de eI<|af 0<|ao ⟨tb,_,_,.ref a0,rfl,rfl,av.of<|sn _ _ Hw,yJ (i:=0) rfl,af 4 ⟨a0,_,_,.int<|Dt.MM l KK k j,rfl,rfl,av.of<|sn _ _ QV,oG (i:=t+1) (by rw [Ad,Cu,hj];rfl),?_⟩⟩);refine⟨_,_,rfl,rfl,.inl<|bd c mc k mk,_,_,rfl,rfl,af 1 ⟨_,_,rfl,rfl,⟨mp,Int.lt_trans ml<|by decide⟩,?_⟩⟩;have ev:=CJ V.int<|(CJ (λz=>z / Dt.mm l KK)<|sv c j).trans<|Int.mul_ediv_cancel_left _<|Int.ne_of_gt mp;refine⟨_,eD,?_,⟨_,rfl⟩,cK sn hD,?_⟩
   ·rw [Ab,Ab,Aq];exact cY<|by omega
   ·rw [ae,Bn,hj,Ai,Ai];exact CJ (λz=>some<|HO.lst<|(((q'.take t).map<|Dt.MM l (k :: KK) c).map V.int)++[z]) ev
  ·rintro σ' c6 ⟨_,sn,eD⟩;rw [Bi] at eD;have Hx:D≠A:=λe=>by rw [e,eA] at hD;cases hD
   have QW:D∉us:=λhm=>by
    obtain⟨j,hj⟩:=At hm;have jl:=(Ac.mp hj).1;have:=j0 j D _ hj (Aa<|by omega);rw [hD] at this;cases this
   refine⟨_,sn _ _ eA,?_,⟨_,rfl⟩,us++[D],by rw [Ae,hl];rfl,by rw [ae,Ai];rfl,λj b d hb hd=>?_,n5 jL QW,λhm=>?_,cK (sm.trans sn) hA⟩
   ·rw [Ab];exact cY<|by omega
   ·by_cases hj:j < us.length
    ·rw [Bc hj] at hb;rw [aG λe:b=A=>yN<|e ▸ Au hb];exact sn _ _<|j0 j b d hb hd
    ·rw [Ay<|by omega] at hb;have ie:j - us.length=0:=by
      have:=(Ac.mp hb).1;simp at this;omega
     have QX:j=i:=by omega
     rw [ie] at hb;cases hb;rw [QX,hc] at hd;cases hd;rw [aG Hx];exact eD
   ·rcases An.mp hm with h | h
    ·exact yN h
    ·exact Hx (Ag.mp h).symm
 ·rintro σ' H3 ⟨_,us,hl,eA,j0,jL,yN,sm⟩;rw [Ab] at hl;show Run _ _ _ [some<|.ref A,some<|.int<|Dt.mm l KK,some<|.int<|Dt.MM l KK k k] H3;refine run_set 1 nd<|af 2<|aS ⟨q'.length,by rw [hm];exact Nat.lt_succ_self _,p++[k],q',A,us,some<|.int<|Dt.MM l KK k k,Hu,rfl,s2.trans sm,⟨by rw [Ab];omega,eA,λi a r h1 h2=>?_,jL⟩,?_⟩
  ·rw [Ad,Ax] at h2;obtain⟨c,hc,rfl⟩:=h2;have:=j0 i a c h1 hc;rw [Do,Hv];exact this
  ·rw [Do,Hv];rfl
theorem uY{n j:Nat}(h:j < n):fY n (j:Int)=some j:=by
 unfold fY;rw [BK (by omega),BK<|by omega];rfl
def uZ(ts:List Addr)(H H':Hp):Prop:=∀ b o,b∉ts->H b=some o->H' b=some o
theorem TabAt.QY{H:Hp}{tb:Addr}{ts:List Addr}{M:List (List Int)}(h:TabAt H tb ts M):tb∉ts:=λhm=>by
 obtain⟨i,hi⟩:=At hm;have il:=(Ac.mp hi).1;have ll:=h.len;have e:=h.row i tb _ hi (Aa<|by omega);rw [h.lst] at e;have e:=HO.lst.inj<|Option.some.inj e;cases ts with
 | nil=>cases hm
 | cons a ts=>
  rw [Bq] at e;generalize M[i]'(by omega)=r at e;cases r with
  | nil=>cases e
  | cons v r=>cases (List.cons.inj e).1
theorem TabAt.put{H:Hp}{tb a:Addr}{ts:List Addr}{M:List (List Int)}(h:TabAt H tb ts M){i:Nat}(hi:ts[i]?=some a)(r:List Int):TabAt (upd H a<|.lst<|r.map V.int) tb ts (M.set i r):=by
 have ma:=Au hi;have il:=(Ac.mp hi).1;have ll:=h.len;refine⟨by rw [Cv];exact h.len,by rw [aG λe:tb=a=>h.QY<|e ▸ ma];exact h.lst,λk b s h1 h2=>?_,h.inj⟩
 by_cases e:k=i
 ·subst e;rw [hi] at h1;cases h1;rw [Dl<|by omega] at h2;cases h2;exact ae
 ·rw [Du<|Ne.symm e] at h2;have nb:b≠a:=λz=>e<|by
   subst z;exact yo h.inj h1 hi
  rw [aG nb];exact h.row k b s h1 h2
def tab(m:Nat)(F:Nat->Nat->Int):List (List Int):=(List.range m).map λi=>(List.range m).map<|F i
theorem oI{m:Nat}{F:Nat->Nat->Int}{i:Nat}(h:i < m):(tab m F)[i]?=some ((List.range m).map<|F i):=by
 unfold tab;rw [Ad,Cr h];rfl
theorem va{m:Nat}{g:Nat->Int}{i:Nat}(h:i < m):((List.range m).map g)[i]?=some (g i):=by
 rw [Ad,Cr h];rfl
theorem Hy{m:Nat}{F G:Nat->Nat->Int}{i:Nat}(h:i < m)(hg:∀ k,k≠i->∀ j,G k j=F k j):(tab m F).set i ((List.range m).map<|G i)=tab m G:=by
 refine Ct λk=>?_
 by_cases e:k=i
 ·subst e;rw [Dl (by unfold tab;rw [Ab,Bh];exact h),oI h]
 ·rw [Du<|Ne.symm e];unfold tab;rw [Ad,Ad];cases hk:(List.range m)[k]? with
  | none=>rfl
  | some x=>
   have:x=k:=by
    have hl:=(Ac.mp hk).1;rw [Bh] at hl;rw [Cr hl] at hk;exact(Option.some.inj hk).symm
   subst this;show some _=some _
   congr 1
   exact Bk λj _=>(hg x e j).symm
theorem yO{m:Nat}{g:Nat->Int}{i:Nat}{v:Int}(h:i < m):((List.range m).map g).set i v=(List.range m).map λj=>if j=i then v else g j:=by
 refine Ct λk=>?_
 by_cases e:k=i
 ·subst e;rw [Dl (by rw [Ab,Bh];exact h),va h,BK rfl]
 ·rw [Du<|Ne.symm e,Ad,Ad];cases hk:(List.range m)[k]? with
  | none=>rfl
  | some x=>
   have:x=k:=by
    have hl:=(Ac.mp hk).1;rw [Bh] at hl;rw [Cr hl] at hk;exact(Option.some.inj hk).symm
   subst this;show some (g x)=some (if x=i then v else g x);rw [BJ e]
def yP:Sp:=λvs H Q _=>∃(R:Addr) (as:List<|Addr×Addr) (n:Net),vs=[.ref R]/\a6 H R as n/\n.length<=1000/\∀ L H',ah H H'->H L=none->H' L=some (Ls (n.map (·.1)))->Q (.ref L) H'
def yQ:Sp:=λvs H Q _=>∃(R:Addr) (as:List<|Addr×Addr) (n:Net),vs=[.ref R]/\a6 H R as n/\eJ n/\(n.map (·.1)).Nodup/\n≠[]/\n.length<=60/\(aD n).length<=80 /\
 ∀(tb:Addr) (ts:List Addr) (ls:List Lk) (H':Hp),ah H H'->TabAt H' tb ts (tab (n.length - 1) λi j=>Dt.Lp ((bX n ls).map Dt.ed) (i+1)<|j+1)->oE ls->(∀ x,x∈ls↔iN n x)->Q (.ref tb) H'
def oJ:Sp:=λvs H Q _=>∃(R:Addr) (as:List<|Addr×Addr) (n:Net),vs=[.ref R]/\a6 H R as n/\eJ n/\(n.map (·.1)).Nodup/\n≠[]/\n.length<=60/\(aD n).length<=80/\iO n /\
 ∀(ls:List Lk) (H':Hp),ah H H'->oE ls->(∀ x,x∈ls↔iN n x)->Q (.int (Dt.De ((List.range<|n.length - 1).map (·+1))<|bX n ls)) H'
abbrev Hz:List Str:=["rows"]
abbrev rA:List Str:=["rows","point","ties"]
theorem yR:au Hz ["rows"] (aR uB):=⟨rfl,rfl,rfl,by decide +kernel,rfl,by decide +kernel,by decide +kernel⟩
theorem HA:rA.Nodup:=by decide +kernel
theorem QZ{f:Addr}{fd:FuncData}(F:bL K "points_of" "points_of" uB f fd)(T:Txt mg):aA P w K mg base bP 1 f fd ["rows"] yP:=by
 refine F.gb yR (λvs H Q E h=>?_) λb0 H vs Q E hr h=>?_
 ·obtain⟨R,as,n,rfl,_⟩:=h;rfl
 obtain⟨R,as,n,rfl,hR,hn,q⟩:=h;have jP:=hR.len;show Run _ _ _ [some<|.ref R] H;refine df<|iL (aR uB) Hz rA 2 (kA aZ)<|af 0 ⟨R,rfl,⟨_,av.of hR.lst⟩,λD hD=>?_⟩;refine mM (xs:=as.map λa=>V.ref a.1) (λi σ' H'=>(∃ v1 v2,σ'=[some<|.ref R]++[v1,v2])/\H' D=some (Ls ((n.take i).map (·.1)))/\ah H H') ⟨⟨none,none,rfl⟩,ae,aI hD _⟩ ?_ ?_ ?_
 ·rintro i σ' H' _ ⟨_,_,sm⟩;exact av.of<|sm _ _ hR.lst
 ·rintro i x σ' H' hx ⟨⟨v1,v2,rfl⟩,eD,sm⟩;have hi:i < n.length:=by
   have:=(Ac.mp hx).1;rw [Ab] at this;omega
  obtain⟨b,eb,P5,et,el,er⟩:=(hR.same sm).at hi;rw [Ad,eb] at hx;cases hx;intro cl C' s₀ H₀ ex;refine qo rfl (bo.of et) (bb 1 HA<|bb 2 HA ?_);intro cl C' s₀ H₀ ex;refine gq<|a8 ?_;intro cl C' s₀ H₀ ex;refine af 1 ⟨_,eD,?_,⟨_,_,rfl⟩,?_,cK sm hD⟩
  ·rw [Ab,Ab,Aq];exact cY<|by omega
  ·rw [ae,Bn,Aa hi,Ai];show _=some (HO.lst<|List.map V.str<|_++_);rw [Ai];rfl
 ·rintro σ' H' ⟨_,eD,sm⟩;rw [Ab,jP,Bi] at eD;exact q D H' sm hD eD
abbrev yS:List Str:=["rows","places","table","tie","one","two","start","goal","line"]
abbrev m7:List Str:=["rows","places","table","tie","one","two","start","goal","line","place","point"]
abbrev m8:List Str:=["rows","places","table","tie","one","two","start","goal","line","point"]
abbrev rB:List Str:=["rows","places","table","tie","one","two","start","goal","line","point","other"]
theorem rC:au yS ["rows"] (aR kJ):=⟨rfl,rfl,rfl,by decide +kernel,rfl,by decide +kernel,by decide +kernel⟩
theorem HC:m7.Nodup:=by decide +kernel
theorem Q0:m8.Nodup:=by decide +kernel
theorem Q1:rB.Nodup:=by decide +kernel
def Q2:Scope:=match fI kJ with
 | _ :: .Assign _ (.ListComp _ _ sc _) _ :: _=>sc
 | _=>aR kJ
def Q3:Scope:=relabel Q2<|PyProof.Rows.envOfC "tie_table" (aR kJ) 0 0 .none
theorem Q4{f:Addr}{fd:FuncData}(F:bL K "tie_table" "tie_table" kJ f fd)(T:Txt mg)(GP:aN P w K mg base 1 "points_of" ["rows"] yP)(GL:aN P w K mg base 1 "links_of" ["rows"] qQ):aA P w K mg base bP 2 f fd ["rows"] yQ:=by
 refine F.gb rC (λvs H Q E h=>?_) λb0 H vs Q E hr h=>?_
 ·obtain⟨R,as,n,rfl,_⟩:=h;rfl
 obtain⟨R,as,n,rfl,hR,hT,hN,h0,hn,ig,q⟩:=h;have nd:=rC.nd;have hu:=hr.u1;have cv:0 < n.length:=Gq.mpr h0;show Run _ _ _ [some<|.ref R,none,none,none,none,none,none,none,none] H;refine run_set 1 nd (O3 (aR kJ) yS m7 2 (Qf rfl T.enum gg)<|ai<|pX pK<|dF GP hr<|ai<|af 0<|aC ⟨R,as,n,rfl,hR,by omega,λL H1 s1 n1 e1=>mz<|ao ⟨1,rfl,xg ⟨L,_,rfl,av.of e1,λp1 ik=>aC ⟨p1,rfl,⟨_,av.of ae⟩,λD hD=>?_⟩⟩⟩⟩);have sp:=s1.trans (aI ik (.lst (bh ((n.map (·.1)).map V.str) (some 1) none)));have ep:(upd H1 p1 (.lst (bh ((n.map (·.1)).map V.str) (some 1) none))) p1=some (.lst (bh ((n.map (·.1)).map V.str) (some 1) none)):=ae;generalize upd H1 p1 (.lst (bh ((n.map (·.1)).map V.str) (some 1) none))=H2 at sp ep hD ⊢;rw [show bh ((n.map (·.1)).map V.str) (some 1) none=((n.map (·.1)).drop 1).map V.str from OU (n.map (·.1)) 1] at ep;have Q5:((n.map (·.1)).drop 1).length=n.length - 1:=by rw [Cb,Ab]
 have yT:((n.map (·.1)).drop 1).Nodup:=hN.sublist<|Fi ..;have yU:∀ k p,((n.map (·.1)).drop 1)[k]?=some p↔(n.map (·.1))[k+1]?=some p:=λk p=>by rw [List.getElem?_drop,NK]
 generalize (n.map (·.1)).drop 1=ps at ep Q5 yT yU;intro cl C s₀ H₀ ex;refine QJ (xs:=ps.map V.str) (λi σ' H'=>(∃ v1 v2,σ'=[some<|.ref R,none,none,none,none,none,none,none,none]++[v1,v2])/\ah H2 H'/\∃ kvs:List<|Key×V,H' D=some (.dK kvs)/\kvs.map (·.1)=(ps.take i).map Sum.inr/\(∀(k:Nat) p,k < i->ps[k]?=some p->aH kvs (Sum.inr p)=some (.int (k:Int)))/\∀ p,p∉ps.take i->aH kvs (Sum.inr p)=none)
  ⟨⟨none,none,rfl⟩,aI hD _,[],ae,rfl,λk p h=>absurd h<|Nat.not_lt_zero _,λp _=>rfl⟩ ?_ ?_ ?_
 ·rintro i σ' H' _ ⟨_,sm,_⟩;exact av.of<|sm _ _ ep
 ·rintro i x Tt σ' H' hx ⟨⟨v1,v2,rfl⟩,sm,kvs,eD,hk,hv,vb⟩ Q6;rw [Ad,Ax] at hx;obtain⟨p,hp,rfl⟩:=hx;have Q7:=(Ac.mp hp).1;have sT:=aI Q6<|.tup [.int (i:Int),.str p];have kl:kvs.length=i:=by
   have:=CJ List.length hk;rw [Ab,Ab,Aq] at this;omega
  have vd:p∉ps.take i:=λhm=>by
   obtain⟨k,mv⟩:=At hm;have ve:=(Ac.mp mv).1;rw [Aq] at ve;rw [JQ<|by omega] at mv;have:=nQ yT mv hp;omega
  refine qo rfl (bo.of ae) (bb 9 HC<|bb 10 HC ?_);refine gq<|a8<|O2 (X:=f9 _ m7 _ cl C s₀ H₀ ex) hu<|af 10<|af 9 ⟨_,cV.k (k:=Sum.inr p) (sT _ _ eD) (cY<|by omega),⟨_,_,rfl⟩,cK (sm.trans sT) hD,_,ae,?_,λk r h1 h2=>?_,λr rD=>?_⟩
  ·rw [uJ,hk,BJ λhm=>?_,Bn,hp,Ai]
   ·rfl
   ·obtain⟨y,hy,e⟩:=Ak.mp hm;cases e;exact vd hy
  ·rw [iJ]
   by_cases e:(Sum.inr r:Key)=Sum.inr p
   ·rw [BK e];cases e;rw [nQ yT h2 hp]
   ·rw [BJ e];refine hv k r ?_ h2;refine Ex (by omega) λz=>e ?_;rw [z,hp] at h2;cases h2;rfl
  ·rw [iJ,BJ λe=>?_]
   ·exact vb r λhm=>rD<|by rw [Bn];exact Ba _ hm
   ·cases e;exact rD<|by rw [Bn,hp];exact Ao _<|Ag.mpr rfl
 rintro σ' H3 ⟨_,sm3,kvs,eD,hk,hv,vb⟩;rw [Ab,Bi] at hk vb;rw [Ab] at hv;have kl:kvs.length=n.length - 1:=by
  have:=CJ List.length hk;rw [Ab,Ab] at this;omega
 have rE:=sp.trans sm3;have Q8:H D=none:=qP sp hD;show Run _ _ _ [some<|.ref R,some<|.ref D,none,none,none,none,none,none,none] H3;refine D8 2 (aR kJ) yS m8 1 nd (OZ aZ)<|af 1 ⟨D,kvs,rfl,eD,λo tb vf=>?_⟩;have ef:(upd H3 D<|.b8 o<|.dK kvs) D=some (.b8 o<|.dK kvs):=ae;have sF:ah H (upd H3 D<|.b8 o<|.dK kvs):=cK rE Q8;generalize upd H3 D (.b8 o<|.dK kvs)=H4 at ef sF vf ⊢;refine E3 (o:=o) (kvs:=kvs) (λi σ' H'=>(∃ v,σ'=[some<|.ref R,some<|.ref D,none,none,none,none,none,none,none]++[v])/\ah H4 H'/\∃ ts:List Addr,ts.length=i/\H' tb=some (.lst<|ts.map V.ref)/\(∀ a∈ts,H' a=some (.lst<|(List.replicate (n.length - 1) (0:Int)).map V.int)/\H4 a=none/\a≠tb)/\ts.Nodup) ⟨⟨none,rfl⟩,aI vf _,[],rfl,ae,λa h=>(nomatch h),El⟩ ?_ ?_ ?_
 ·rintro i σ' H' _ ⟨_,sm,_⟩;exact sm _ _ ef
 ·rintro i pr σ' H' Q9 ⟨⟨v,rfl⟩,sm,ts,hl,eT,iX,jL⟩;have Q7:=(Ac.mp Q9).1;intro cl C s₀ H₀ ex;refine bb 9 Q0 ?_;intro cl C s₀ H₀ ex;refine gq<|a8 ?_;intro cl C s₀ H₀ ex;refine iL Q3 m8 rB 1 (Qh aZ)<|af 1 ⟨D,o,kvs,rfl,sm _ _ ef,λD2 m9=>?_⟩;refine E3 (o:=o) (kvs:=kvs) (λj σ' c6=>(∃ v,σ'=[some<|.ref R,some<|.ref D,none,none,none,none,none,none,none,some<|kV pr.1]++[v])/\ah H' c6/\c6 D2=some (.lst<|(List.replicate j (0:Int)).map V.int)) ⟨⟨none,rfl⟩,aI m9 _,ae⟩ ?_ ?_ ?_
  ·rintro j σ' c6 _ ⟨_,sn,_⟩;exact sn _ _<|sm _ _ ef
  ·rintro j pj σ' c6 Ra ⟨⟨v,rfl⟩,sn,j4⟩;have GW:=(Ac.mp Ra).1;intro cl C s₀ H₀ ex;refine bb 10 Q1 ?_;intro cl C s₀ H₀ ex;refine gq<|a8 ?_;intro cl C s₀ H₀ ex;refine ao ⟨_,j4,?_,⟨_,rfl⟩,cK sn m9,?_⟩
   ·rw [Ab,Db];exact cY<|by omega
   ·rw [ae,List.replicate_succ',Ai];rfl
  ·rintro σ' c6 ⟨_,sn,j4⟩;rw [kl] at j4;have n2:D2≠tb:=λe=>by rw [e,eT] at m9;cases m9
   refine⟨_,sn _ _ eT,?_,⟨_,rfl⟩,cK (sm.trans sn) vf,ts++[D2],by rw [Ae,hl];rfl,by rw [ae,Ai];rfl,λa ha=>?_,n5 jL λhm=>?_⟩
   ·rw [Ab];exact cY<|by omega
   ·rcases An.mp ha with ha | ha
    ·obtain⟨h1,h2,h3⟩:=iX a ha;exact⟨by rw [aG h3];exact sn _ _ h1,h2,h3⟩
    ·rw [Ag.mp ha];exact⟨by rw [aG n2];exact j4,qP sm m9,n2⟩
   ·have:=(iX D2 hm).1;rw [m9] at this;cases this
 rintro σ' H5 ⟨_,HE,ts,hl,eT,iX,jL⟩;have hl:ts.length=n.length - 1:=by omega
 have U0:H tb=none:=qP sF vf;have T0:TabAt H5 tb ts (tab (n.length - 1) λ_ _=>0):=by
  refine⟨by unfold tab;rw [Ab,Bh];exact hl,eT,λi a r h1 h2=>?_,jL⟩;have il:=(Ac.mp h1).1;rw [oI<|by omega] at h2;cases h2;rw [(iX a<|Au h1).1]
  congr 2
  congr 1
  refine Ct λk=>?_
  by_cases hk:k < n.length - 1
  ·rw [va hk,Dh,BK hk]
  ·rw [Br (by rw [Db];omega),Br<|by rw [Ab,Bh];omega]
 have Rb:=HE _ _ ef;have fr:∀ a∈ts,H a=none:=λa ha=>qP sF (iX a ha).2.1;have HG:=sF.trans HE;have yV:D∉ts:=λhm=>by
  have:=(iX D hm).2.1;rw [ef] at this;cases this
 show Run _ _ _ [some<|.ref R,some<|.ref D,some<|.ref tb,none,none,none,none,none,none] H5;refine mB (dF GL hr<|ai<|af 0<|aC ⟨R,as,n,rfl,hR.same HG,hT,by omega,by omega,λL us ls H6 s6 n6 eL aW so mem U1=>⟨L,rfl,⟨_,av.of eL⟩,?_⟩⟩);have T6:=T0.same s6;have Rf:=s6 _ _ Rb;have js:=HG.trans s6;have Rg:L∉ts:=λhm=>by
  obtain⟨i,hi⟩:=At hm;have il:=(Ac.mp hi).1;have:=T0.row i L _ hi (oI<|by omega);rw [n6] at this;cases this
 have Rh:∀ x∈ls,(rn n x.2.1 < n.length/\(n.map (·.1))[rn n x.2.1]?=some x.2.1)/\(rn n x.2.2 < n.length/\(n.map (·.1))[rn n x.2.2]?=some x.2.2):=λx hx=>PV hT hN<|(mem x).mp hx;have vg:∀{p:Str} {r:Nat},(n.map (·.1))[r]?=some p->aH kvs (Sum.inr p)=if r=0 then none else some (.int ((r - 1:Nat):Int)):=λ{p r} h=>by
  by_cases e:r=0
  ·rw [BK e];refine vb p λhm=>?_;obtain⟨k,mv⟩:=At hm;have:=nQ hN ((yU k p).mp mv) h;omega
  ·rw [BJ e];have HH:ps[r - 1]?=some p:=(yU (r - 1) p).mpr (by rw [show r - 1+1=r by omega];exact h);exact hv (r - 1) p (Ac.mp HH).1 HH
 refine mC (xs:=us.map V.ref) (λk σ' H'=>(∃ v3 v4 v5 v6 v7 v8,σ'=[some<|.ref R,some<|.ref D,some<|.ref tb,v3,v4,v5,v6,v7,v8])/\uZ ts H6 H'/\TabAt H' tb ts (tab (n.length - 1) λi j=>Dt.Lp ((bX n<|ls.take k).map Dt.ed) (i+1)<|j+1)) ⟨⟨_,_,_,_,_,_,rfl⟩,λb o _ h=>h,T6⟩ ?_ ?_ ?_
 ·rintro k σ' H' _ ⟨_,sm,_⟩;exact av.of<|sm _ _ Rg eL
 ·rintro k x σ' H7 hx ⟨⟨v3,v4,v5,v6,v7,v8,rfl⟩,vh,T7⟩;rw [Ad,Ax] at hx;obtain⟨u,d9,rfl⟩:=hx;have hj:k < ls.length:=by
   have:=(Ac.mp d9).1;have:=aW.1;omega
  have rF:ls[k]?=some ls[k]:=Aa hj;have dS:=aW.2 k u _ d9 rF;have mx:ls[k]∈ls:=Bp hj;obtain⟨⟨a1,a2⟩,b1,b2⟩:=Rh _ mx;have tk:bX n (ls.take<|k+1)=bX n (ls.take k)++[(rn n ls[k].2.1,rn n ls[k].2.2)]:=by
   unfold bX;rw [Bn,rF,Ai];rfl
  rw [tk];generalize ls[k]=lx at dS a1 a2 b1 b2;obtain⟨z,on,tw⟩:=lx;have a2:(n.map (·.1))[rn n on]?=some on:=a2;have b2:(n.map (·.1))[rn n tw]?=some tw:=b2;have a1:rn n on < n.length:=a1;have b1:rn n tw < n.length:=b1;show Eg _ _ _ _ _ _;have Ri:u∉ts:=λhm=>by
   obtain⟨i,hi⟩:=At hm;have il:=(Ac.mp hi).1;have:=T6.row i u _ hi (oI<|by omega);rw [dS] at this;cases this
  refine ox rfl (bo.of<|vh _ _ Ri dS) (bb 3 nd<|bb 4 nd<|bb 5 nd ?_);show Run _ _ _ [some<|.ref R,some<|.ref D,some<|.ref tb,some<|.str z,some<|.str on,some<|.str tw,v6,v7,v8] H7;refine xm<|dE<|ai<|dE<|ai<|af 4<|ai<|af 5<|aC ⟨Z2,λt1 yW=>?_⟩;refine ai<|dE<|ai<|af 5<|ai<|af 4<|aC ⟨Z2,λt2 kZ=>aC ⟨Z2,λtt yX=>?_⟩⟩;have m1:=aI yW<|.tup [.str on,.str tw];have m2:=aI kZ<|.tup [.str tw,.str on];have m3:=aI yX<|.tup [.ref t1,.ref t2];have e1:=m3 _ _<|m2 _ _<|ae (H:=H7) (a:=t1) (o:= .tup [.str on,.str tw]);have e2:=m3 _ _<|ae (H:=upd H7 t1<|.tup [.str on,.str tw]) (a:=t2) (o:= .tup [.str tw,.str on]);have e3:=ae (H:=upd (upd H7 t1<|.tup [.str on,.str tw]) t2<|.tup [.str tw,.str on]) (a:=tt) (o:= .tup [.ref t1,.ref t2]);have m:=m1.trans<|m2.trans m3;refine⟨tt,rfl,⟨_,bo.of e3⟩,?_⟩;generalize upd (upd (upd H7 t1<|.tup [.str on,.str tw]) t2<|.tup [.str tw,.str on]) tt (.tup [.ref t1,.ref t2])=H8 at e1 e2 e3 m;have T8:=T7.same m;have HI:uZ ts H6 H8:=λb o nb h=>m _ _<|vh b o nb h;have HK:∀(t:Addr) (xs:List V),H8 t=some (.tup xs)->t∉ts:=λt xs ht hm=>by
   obtain⟨i,hi⟩:=At hm;have il:=(Ac.mp hi).1;have:=T8.row i t _ hi (oI<|by omega);rw [ht] at this;cases this
  have HL:=HI _ _ yV Rf;refine xn (xs:=[.ref t1,.ref t2]) (λi σ' H'=>(∃ v6 v7 v8,σ'=[some<|.ref R,some<|.ref D,some<|.ref tb,some<|.str z,some<|.str on,some<|.str tw,v6,v7,v8])/\uZ ts H8 H'/\TabAt H' tb ts (tab (n.length - 1) λx j=>Dt.Lp ((bX n<|ls.take k).map Dt.ed) (x+1) (j+1)+(if 0 < i then Dt.hl (rn n on) (rn n tw) (x+1) (j+1) else 0)+(if 1 < i then Dt.hl (rn n tw) (rn n on) (x+1) (j+1) else 0)))
   ⟨⟨_,_,_,rfl⟩,λb o _ h=>h,?_⟩ ?_ ?_ ?_
  ·have:(λx j=>Dt.Lp ((bX n<|ls.take k).map Dt.ed) (x+1) (j+1)+(if 0 < 0 then Dt.hl (rn n on) (rn n tw) (x+1) (j+1) else 0)+(if 1 < 0 then Dt.hl (rn n tw) (rn n on) (x+1) (j+1) else 0))=λx j=>Dt.Lp ((bX n<|ls.take k).map Dt.ed) (x+1) (j+1):=by
    funext x j
    rw [BJ<|Cd 0,BJ<|by decide];omega
   rw [this];exact T8
  ·rintro i σ' H' _ ⟨_,sn,_⟩;exact bo.of<|sn _ _ (HK _ _ e3) e3
  ·rintro i x σ' H9 hx ⟨⟨v6,v7,v8,rfl⟩,sn,T9⟩;obtain⟨st,gl,t,rfl,et,cb,rG,fi⟩:∃ st gl t,x = .ref t/\H8 t=some (.tup [.str st,.str gl])/\(n.map (·.1))[rn n st]?=some st/\(n.map (·.1))[rn n gl]?=some gl/\∀ y j:Nat,(if 0 < i then Dt.hl (rn n on) (rn n tw) (y+1) (j+1) else 0)+(if 1 < i then Dt.hl (rn n tw) (rn n on) (y+1) (j+1) else 0)+Dt.hl (rn n st) (rn n gl) (y+1) (j+1)=(if 0 < i+1 then Dt.hl (rn n on) (rn n tw) (y+1) (j+1) else 0)+(if 1 < i+1 then Dt.hl (rn n tw) (rn n on) (y+1) (j+1) else 0):=by
    match i with
    | 0=>
     cases hx;exact⟨on,tw,t1,rfl,e1,a2,b2,λy j=>by simp⟩
    | 1=>
     cases hx;exact⟨tw,on,t2,rfl,e2,b2,a2,λy j=>by simp⟩
    | i+2=>simp at hx
   have fin:∀{F:Nat->Nat->Int} {G:Nat->Nat->Int},(∀ y j,G y j=F y j+Dt.hl (rn n st) (rn n gl) (y+1) (j+1))->(∀ y j,F y j=Dt.Lp ((bX n<|ls.take k).map Dt.ed) (y+1) (j+1)+(if 0 < i then Dt.hl (rn n on) (rn n tw) (y+1) (j+1) else 0)+(if 1 < i then Dt.hl (rn n tw) (rn n on) (y+1) (j+1) else 0)) ->
     G=λy j=>Dt.Lp ((bX n<|ls.take k).map Dt.ed) (y+1) (j+1)+(if 0 < i+1 then Dt.hl (rn n on) (rn n tw) (y+1) (j+1) else 0)+(if 1 < i+1 then Dt.hl (rn n tw) (rn n on) (y+1) (j+1) else 0):=λ{F G} h1 h2=>by
    funext y j
    have:=fi y j;rw [h1,h2];omega
   generalize hF:(λx j=>Dt.Lp ((bX n<|ls.take k).map Dt.ed) (x+1) (j+1)+(if 0 < i then Dt.hl (rn n on) (rn n tw) (x+1) (j+1) else 0)+(if 1 < i then Dt.hl (rn n tw) (rn n on) (x+1) (j+1) else 0))=F at T9;have yY:∀ y j,F y j=Dt.Lp ((bX n<|ls.take k).map Dt.ed) (y+1) (j+1)+(if 0 < i then Dt.hl (rn n on) (rn n tw) (y+1) (j+1) else 0)+(if 1 < i then Dt.hl (rn n tw) (rn n on) (y+1) (j+1) else 0):=λy j=>by rw [<- hF]
   have skip:(∀ y j,Dt.hl (rn n st) (rn n gl) (y+1) (j+1)=0)->TabAt H9 tb ts (tab (n.length - 1) λx j=>Dt.Lp ((bX n<|ls.take k).map Dt.ed) (x+1) (j+1)+(if 0 < i+1 then Dt.hl (rn n on) (rn n tw) (x+1) (j+1) else 0)+(if 1 < i+1 then Dt.hl (rn n tw) (rn n on) (x+1) (j+1) else 0)):=λh=>by
    rw [<- fin (G:=F) (λy j=>by rw [h];omega) yY];exact T9
   have yZ:=sn _ _ yV HL;refine qo rfl (bo.of<|sn _ _ (HK _ _ et) et) (bb 6 nd<|bb 7 nd ?_);show Run _ _ _ [some<|.ref R,some<|.ref D,some<|.ref tb,some<|.str z,some<|.str on,some<|.str tw,some<|.str st,some<|.str gl,v8] H9;refine gn<|xh<|xi<|fb wq<|af 6<|af 7 ⟨rfl,_,rfl,?_⟩
   by_cases y4:st=gl
   ·subst y4;rw [show(!decide (V.str st=V.str st))=false by simp];refine d0<|d0<|aS<|aS ⟨⟨_,_,_,rfl⟩,sn,skip λy j=>?_⟩;unfold Dt.hl;rw [BK rfl]
   rw [show(!decide (V.str st=V.str gl))=true by simp [y4]];have vi:rn n st≠rn n gl:=λe=>by
    rw [e,rG] at cb;exact y4 (Option.some.inj cb).symm
   refine a8<|xj<|uy hu<|af 6<|af 1 ⟨D,_,rfl,.inl ⟨kvs,Sum.inr st,.inr ⟨o,yZ⟩,rfl,rfl⟩,?_⟩;rw [vg cb]
   by_cases r0:rn n st=0
   ·rw [BK r0];refine d0<|aS<|aS ⟨⟨_,_,_,rfl⟩,sn,skip λy j=>?_⟩;unfold Dt.hl;rw [r0,BJ (by rw [<- r0];exact vi),BJ<|by omega]
   rw [BJ r0];refine a8 ?_;have rl:rn n st < n.length:=by
    have:=(Ac.mp cb).1;rw [Ab] at this;exact this
   obtain⟨a0,qX⟩:∃ a0,rn n st=a0+1:=⟨rn n st - 1,by omega⟩;rw [qX] at cb r0 rl vi fin;have HM:aH kvs (Sum.inr st)=some (.int (a0:Int)):=by rw [vg cb,BJ<|by omega];rfl
   have al:a0 < n.length - 1:=by omega
   obtain⟨la,rH⟩:∃ la,ts[a0]?=some la:=⟨_,Aa<|by omega⟩;have Rj:=Au rH;have rJ:=T9.row a0 la _ rH<|oI al;refine run_set 8 nd<|de eI<|af 2<|qj hu<|af 1<|af 6 ⟨D,_,rfl,.inl ⟨kvs,Sum.inr st,.inr ⟨o,yZ⟩,rfl,HM.symm⟩,tb,_,_,.ref la,rfl,rfl,av.of T9.lst,yJ rH,?_⟩;show Run _ _ _ [some<|.ref R,some<|.ref D,some<|.ref tb,some<|.str z,some<|.str on,some<|.str tw,some<|.str st,some<|.str gl,some<|.ref la] H9;refine G0 Lb (af 8<|qj hu<|af 1<|af 6 ⟨D,_,rfl,.inl ⟨kvs,Sum.inr st,.inr ⟨o,yZ⟩,rfl,HM.symm⟩,la,_,_,.int<|F a0 a0,rfl,rfl,av.of rJ,oG<|va al,ao ⟨_,_,rfl,rfl,la,_,_,a0,rfl,rfl,rJ,uY (by rw [Ab,Ab,Bh];exact al),?_⟩⟩);have HP:∀ b,b∉ts->b≠la:=λb hb e=>hb<|e ▸ Rj;have vj:=T9.put rH<|((List.range<|n.length - 1).map<|F a0).set a0<|F a0 a0+1;have y7:upd H9 la (.lst<|(((List.range<|n.length - 1).map<|F a0).map V.int).set a0<|.int<|F a0 a0+1)=upd H9 la (.lst<|(((List.range<|n.length - 1).map<|F a0).set a0<|F a0 a0+1).map V.int):=by rw [Gs]
   rw [y7];rw [yO al] at vj ⊢;have vk:uZ ts H8 (upd H9 la<|.lst<|((List.range<|n.length - 1).map λj=>if j=a0 then F a0 a0+1 else F a0 j).map V.int):=λb o' nb h=>by rw [aG<|HP b nb];exact sn b o' nb h
   have y8:(upd H9 la<|.lst<|((List.range<|n.length - 1).map λj=>if j=a0 then F a0 a0+1 else F a0 j).map V.int) la=some (.lst<|((List.range<|n.length - 1).map λj=>if j=a0 then F a0 a0+1 else F a0 j).map V.int):=ae;generalize upd H9 la (.lst<|((List.range<|n.length - 1).map λj=>if j=a0 then F a0 a0+1 else F a0 j).map V.int)=HQ at vj vk y8 ⊢;have rK:=vk _ _ yV HL;refine gn<|uy hu<|af 7<|af 1 ⟨D,_,rfl,.inl ⟨kvs,Sum.inr gl,.inr ⟨o,rK⟩,rfl,rfl⟩,?_⟩;rw [vg rG]
   by_cases g0:rn n gl=0
   ·rw [BK g0];refine d0<|aS<|aS<|aS ⟨⟨_,_,_,rfl⟩,vk,?_⟩;rw [<- fin (F:=F) (G:=λy j=>if y=a0 then(if j=a0 then F a0 a0+1 else F a0 j) else F y j) (λy j=>?_) yY,<- Hy (F:=F) al λk hk j=>BJ hk]
    ·simp only [DP];exact vj
    ·rw [g0];exact Dt.jT F a0 y j
   rw [BJ g0];refine a8 ?_;have Rk:rn n gl < n.length:=by
    have:=(Ac.mp rG).1;rw [Ab] at this;exact this
   obtain⟨c0,Rl⟩:∃ c0,rn n gl=c0+1:=⟨rn n gl - 1,by omega⟩;rw [Rl] at rG g0 Rk vi fin;have Rm:aH kvs (Sum.inr gl)=some (.int (c0:Int)):=by rw [vg rG,BJ<|by omega];rfl
   have oK:c0 < n.length - 1:=by omega
   have HR:c0≠a0:=λe=>vi (by rw [e]);refine G0 Lc (af 8<|qj hu<|af 1<|af 7 ⟨D,_,rfl,.inl ⟨kvs,Sum.inr gl,.inr ⟨o,rK⟩,rfl,Rm.symm⟩,la,_,_,.int<|F a0 c0,rfl,rfl,av.of y8,oG (by rw [va oK,BJ HR]),ao ⟨_,_,rfl,rfl,la,_,_,c0,rfl,rfl,y8,uY (by rw [Ab,Ab,Bh];exact oK),?_⟩⟩);have HU:=vj.put rH<|((List.range<|n.length - 1).map λj=>if j=a0 then F a0 a0+1 else F a0 j).set c0<|F a0 c0 - 1;rw [show upd HQ la (.lst<|(((List.range<|n.length - 1).map λj=>if j=a0 then F a0 a0+1 else F a0 j).map V.int).set c0<|.int<|F a0 c0 - 1)=upd HQ la (.lst<|(((List.range<|n.length - 1).map λj=>if j=a0 then F a0 a0+1 else F a0 j).set c0<|F a0 c0 - 1).map V.int) by rw [Gs]];refine aS (aS<|aS ⟨⟨_,_,_,rfl⟩,λb o' nb h=>by rw [aG<|HP b nb];exact vk b o' nb h,?_⟩);rw [List.set_set,yO oK] at HU;rw [yO oK];rw [<- fin (F:=F) (G:=λy j=>if y=a0 then(if j=c0 then F a0 c0 - 1 else if j=a0 then F a0 a0+1 else F a0 j) else F y j) (λy j=>?_) yY,<- Hy (F:=F) al λk hk j=>BJ hk]
   ·simp only [DP];exact HU
   ·exact Dt.jU F HR y j
  ·rintro σ' H9 ⟨⟨v6,v7,v8,rfl⟩,sn,T9⟩;refine aS ⟨⟨_,_,_,_,_,_,rfl⟩,λb o' nb h=>sn b o' nb<|HI b o' nb h,?_⟩;have:(λi j=>Dt.Lp ((bX n (ls.take k)++[(rn n on,rn n tw)]).map Dt.ed) (i+1)<|j+1)=λx j=>Dt.Lp ((bX n<|ls.take k).map Dt.ed) (x+1) (j+1)+(if 0 < [V.ref t1,V.ref t2].length then Dt.hl (rn n on) (rn n tw) (x+1) (j+1) else 0)+(if 1 < [V.ref t1,V.ref t2].length then Dt.hl (rn n tw) (rn n on) (x+1) (j+1) else 0):=by
    funext x j
    rw [BK (by show 0 < 2;decide),BK (by show 1 < 2;decide),Int.add_assoc,<- Dt.mV,Ai];unfold Dt.Lp;rw [Ai,Fe];show _+(Dt.ed _ _ * Dt.ed _ _+0)=_;omega
   show TabAt _ _ _ (tab _ λi j=>Dt.Lp ((bX n (ls.take k)++[(rn n on,rn n tw)]).map Dt.ed) (i+1)<|j+1);rw [this];exact T9
 ·rintro σ' H7 ⟨⟨v3,v4,v5,v6,v7,v8,rfl⟩,vh,T7⟩;rw [Ab,aW.1,Bi] at T7;exact df<|af 2<|q tb ts ls H7 (λb o' h=>vh b o' (λhm=>by rw [fr b hm] at h;cases h)<|js _ _ h) T7 so mem
abbrev Rn:List Str:=["rows"]
theorem y9:au Rn ["rows"] (aR xQ):=⟨rfl,rfl,rfl,by decide +kernel,rfl,by decide +kernel,by decide +kernel⟩
theorem Ro{f:Addr}{fd:FuncData}(F:bL K "tree_count" "tree_count" xQ f fd)(T:Txt mg)(GT:aN P w K mg base 2 "tie_table" ["rows"] yQ)(GD:aN P w K mg base 2 "determinant" ["table"] yL):aA P w K mg base bP 3 f fd ["rows"] oJ:=by
 refine F.gb y9 (λvs H Q E h=>?_) λb0 H vs Q E hr h=>?_
 ·obtain⟨R,as,n,rfl,_⟩:=h;rfl
 obtain⟨R,as,n,rfl,hR,hT,hN,h0,hn,ig,hg,q⟩:=h;show Run _ _ _ [some<|.ref R] H;refine df (dF GD hr<|ai<|dF GT hr<|ai<|af 0<|aC ⟨R,as,n,rfl,hR,hT,hN,h0,hn,by omega,λtb ts ls H1 s1 Rp so mem=>?_⟩);have Rq:((List.range<|n.length - 1).map (·+1)).Nodup:=bA _;refine aC ⟨tb,ts,Dt.Lp<|(bX n ls).map Dt.ed,(List.range<|n.length - 1).map (·+1),rfl,?_,Dt.iW Rq (by unfold bX;rw [Ab];have:=PX hT so mem;omega)<|Gz hT hN hg h0 mem,by rw [Ab,Bh];omega,λH2 s2=>?_⟩
 ·rw [Be];have e:tab (n.length - 1) (λi j=>Dt.Lp ((bX n ls).map Dt.ed) (i+1)<|j+1)=(List.range<|n.length - 1).map ((λi=>((List.range<|n.length - 1).map (·+1)).map<|Dt.Lp ((bX n ls).map Dt.ed) i) ∘ (·+1)):=by
   unfold tab;refine Bk λi _=>?_;show _=((List.range<|n.length - 1).map (·+1)).map (Dt.Lp ((bX n ls).map Dt.ed)<|i+1);rw [Be];rfl
  rw [<- e];exact Rp
 ·have e:Dt.mm (Dt.Lp<|(bX n ls).map Dt.ed) ((List.range<|n.length - 1).map (·+1)).reverse=Dt.De ((List.range<|n.length - 1).map (·+1)) (bX n ls):=Dt.gD _ (List.reverse_perm _).symm;rw [e];exact q ls H2 (s1.trans s2) so mem
abbrev HV(x:Bl):HO:= .tup [.str x.1,.str x.2.1,.bl x.2.2]
def j5(H:Hp)(us:List Addr)(ls:List Bl):Prop:=us.length=ls.length/\∀(j:Nat) u x,us[j]?=some u->ls[j]?=some x->H u=some (HV x)
theorem j5.same{H H':Hp}{us:List Addr}{ls:List Bl}(h:j5 H us ls)(s:ah H H'):j5 H' us ls:=⟨h.1,λj u x h1 h2=>s _ _<|h.2 j u x h1 h2⟩
def rM:Sp:=λvs H Q _=>∃(f:Str) (L:Addr) (us:List Addr) (ls:List Bl),vs=[.str f,.ref L]/\H L=some (.lst<|us.map V.ref)/\j5 H us ls/\ls.length<=60 /\
 ∀(d:Addr) (kvs:List<|Key×V) (H':Hp),ah H H'->H d=none->H' d=some (.dK kvs)->cZ ls f none kvs []->Q (.ref d) H'
abbrev Rr:List Str:=["first","links","odds","waiting","here","one","other","odd","start","goal"]
theorem rN:au Rr ["first","links"] (aR xP):=⟨rfl,rfl,rfl,by decide +kernel,rfl,by decide +kernel,by decide +kernel⟩
theorem Rt(wt:List Str)(h:Str):(((wt++[h]).map V.str)[((wt++[h]).map V.str).length - 1]?=some (.str h))/\((wt++[h]).map V.str).dropLast=wt.map V.str:=by
 rw [Ai]
 constructor
 ·simp
 ·exact List.dropLast_concat
theorem Ru{f:Addr}{fd:FuncData}(F:bL K "spread" "spread" xP f fd)(T:Txt mg):aA P w K mg base bP 1 f fd ["first","links"] rM:=by
 refine F.gb rN (λvs H Q E h=>?_) λb0 H vs Q E hr h=>?_
 ·obtain⟨f,L,us,ls,rfl,_⟩:=h;rfl
 obtain⟨ft,L,us,ls,rfl,hL,aW,Rv,q⟩:=h;have nd:=rN.nd;have hu:=hr.u1;have eO:=aW.1;show Run _ _ _ [some<|.str ft,some<|.ref L,none,none,none,none,none,none,none,none] H;refine run_set 2 nd<|P9 hu λd hd=>af 0<|uo ⟨_,cV.k (k:=Sum.inr ft) ae<|cY<|Bw _,?_⟩;rw [A1];refine run_set 3 nd<|gN<|ai<|af 0<|aC ⟨Z1,λM hM=>?_⟩;have jr:M≠d:=λe=>by rw [e,ae] at hM;cases hM
 have qS:H M=none:=by rw [aG jr] at hM;exact hM
 have s0:ah H (upd (upd H d<|.dK<|putK [] (Sum.inr ft)<|.bl false) M<|.lst [.str ft]):=(aI hd _).trans<|aI hM _;have qT:(upd (upd H d<|.dK<|putK [] (Sum.inr ft)<|.bl false) M<|.lst [.str ft]) d=some (.dK<|putK [] (Sum.inr ft)<|.bl false):=by rw [aG<|Ne.symm jr,ae]
 have qU:(upd (upd H d<|.dK<|putK [] (Sum.inr ft)<|.bl false) M<|.lst [.str ft]) M=some (Ls [ft]):=ae;show Run _ _ _ [some<|.str ft,some<|.ref L,some<|.ref d,some<|.ref M,none,none,none,none,none,none] (upd (upd H d<|.dK<|putK [] (Sum.inr ft)<|.bl false) M<|.lst [.str ft]);generalize upd (upd H d<|.dK<|putK [] (Sum.inr ft)<|.bl false) M (.lst [.str ft])=H0 at s0 qT qU;refine EG (λm σ H'=>m<=1000/\∃(kvs:List<|Key×V) (wt:List Str) (u4 u5 u6 u7 u8 u9:Option V),ah H H'/\H' d=some (.dK kvs)/\H' M=some (Ls wt)/\cZ ls ft none kvs wt/\m=2 * (1+2 * ls.length - kvs.length)+wt.length /\
   σ=[some<|.str ft,some<|.ref L,some<|.ref d,some<|.ref M,u4,u5,u6,u7,u8,u9]) (m0:=2 * (1+2 * ls.length - 1)+1)
  ⟨by omega,_,[ft],_,_,_,_,_,_,s0,qT,qU,cZ.start ls ft,rfl,rfl⟩ ?_
 rintro m σ H1 ⟨hm,kvs,wt,u4,u5,u6,u7,u8,u9,s1,HZ,zb,I,em,rfl⟩;refine DM<|af 3 (v:= .ref M) ⟨!wt.isEmpty,Or.inl ⟨wt.map V.str,av.of zb,by cases wt <;> rfl⟩,?_⟩
 rcases List.eq_nil_or_concat wt with e | ⟨iY,hh,e⟩
 ·subst e;rw [BJ<|by decide];exact df<|af 2<|q d kvs H1 s1 hd HZ I
 rw [List.concat_eq_append] at e;subst e;rw [BK<|by cases iY <;> rfl];obtain⟨hy,Rw⟩:=Rt iY hh;refine run_set 4 nd<|Om HJ PySem.F.slot_list_pop PySem.F.type_list_pop MO<|af 3 (v:= .ref M) ⟨Or.inl ⟨rfl,_,av.of zb⟩,M,_,.str hh,rfl,rfl,zb,hy,?_⟩;rw [Rw];have I1:=I.pop;have lw:(iY++[hh]).length=iY.length+1:=by rw [Ae];rfl
 rw [lw] at em;have Ia:∀{H':Hp},ah H H'->H' L=some (.lst<|us.map V.ref):=λs=>s _ _ hL;show Run _ _ _ [some<|.str ft,some<|.ref L,some<|.ref d,some<|.ref M,some<|.str hh,u5,u6,u7,u8,u9] (upd H1 M<|Ls iY);have s2:ah H (upd H1 M<|Ls iY):=cK s1 qS;have Ib:(upd H1 M<|Ls iY) d=some (.dK kvs):=by rw [aG<|Ne.symm jr];exact HZ
 have Ic:(upd H1 M<|Ls iY) M=some (Ls iY):=ae;generalize upd H1 M (Ls iY)=H2 at s2 Ib Ic;refine mB<|af 1 ⟨L,rfl,⟨_,av.of<|Ia s2⟩,mC (xs:=us.map V.ref) (λj σ H'=>∃(kvs:List<|Key×V) (wt:List Str) (u5 u6 u7 u8 u9:Option V),ah H H'/\H' d=some (.dK kvs)/\H' M=some (Ls wt)/\cZ ls ft (some hh) kvs wt/\2 * (1+2 * ls.length - kvs.length)+wt.length < m /\
   (∀ l∈ls.take j,(l.1=hh->has kvs l.2.1)/\(l.2.1=hh->has kvs l.1))/\σ=[some<|.str ft,some<|.ref L,some<|.ref d,some<|.ref M,some<|.str hh,u5,u6,u7,u8,u9])
  ⟨kvs,iY,_,_,_,_,_,s2,Ib,Ic,I1,by omega,λl hl=>by simp at hl,rfl⟩ ?_ ?_ ?_⟩
 ·rintro j σ H' _ ⟨_,_,_,_,_,_,_,sm,_⟩;exact av.of<|Ia sm
 ·rintro j x σ H3 hx ⟨kvs,wt,u5,u6,u7,u8,u9,s3,ed,eM,I,az,bH,rfl⟩;rw [Ad,Ax] at hx;obtain⟨u,d9,rfl⟩:=hx;have hj:j < ls.length:=by
   have:=(Ac.mp d9).1;omega
  have rF:ls[j]?=some ls[j]:=Aa hj;have dS:=(aW.same s3).2 j u _ d9 rF;have fK:ls[j]∈ls:=Bp hj;have pF:∀ l∈ls.take (j+1),l∈ls.take j\/l=ls[j]:=λl hl=>by
   rw [Bn,rF] at hl
   rcases An.mp hl with q | q
   ·exact .inl q
   ·exact .inr<|by simpa using q
  generalize ls[j]=lx at dS fK pF;obtain⟨on,ot,od⟩:=lx;refine ox rfl (bo.of dS) (bb 5 nd<|bb 6 nd<|bb 7 nd ?_);show Run _ _ _ [some<|.str ft,some<|.ref L,some<|.ref d,some<|.ref M,some<|.str hh,some<|.str on,some<|.str ot,some<|.bl od,u8,u9] H3;refine xm<|dE<|ai<|dE<|ai<|af 5<|ai<|af 6<|aC ⟨Z2,λt1 yW=>?_⟩;refine ai<|dE<|ai<|af 6<|ai<|af 5<|aC ⟨Z2,λt2 kZ=>aC ⟨Z2,λtt yX=>?_⟩⟩;have n1:=aI yW<|.tup [.str on,.str ot];have n2:=aI kZ<|.tup [.str ot,.str on];have n3:=aI yX<|.tup [.ref t1,.ref t2];have e1:=n3 _ _<|n2 _ _<|ae (H:=H3) (a:=t1) (o:= .tup [.str on,.str ot]);have e2:=n3 _ _<|ae (H:=upd H3 t1<|.tup [.str on,.str ot]) (a:=t2) (o:= .tup [.str ot,.str on]);have e3:=ae (H:=upd (upd H3 t1<|.tup [.str on,.str ot]) t2<|.tup [.str ot,.str on]) (a:=tt) (o:= .tup [.ref t1,.ref t2]);have n:=n1.trans<|n2.trans n3;refine⟨tt,rfl,⟨_,bo.of e3⟩,?_⟩;generalize upd (upd (upd H3 t1<|.tup [.str on,.str ot]) t2<|.tup [.str ot,.str on]) tt (.tup [.ref t1,.ref t2])=H4 at e1 e2 e3 n;refine xn (xs:=[.ref t1,.ref t2]) (λi σ H'=>∃(kvs:List<|Key×V) (wt:List Str) (u8 u9:Option V),ah H H'/\H' d=some (.dK kvs)/\H' M=some (Ls wt)/\H' t1=some (.tup [.str on,.str ot])/\H' t2=some (.tup [.str ot,.str on])/\H' tt=some (.tup [.ref t1,.ref t2])/\cZ ls ft (some hh) kvs wt/\2 * (1+2 * ls.length - kvs.length)+wt.length < m /\
   (∀ l∈ls.take j,(l.1=hh->has kvs l.2.1)/\(l.2.1=hh->has kvs l.1))/\(0 < i->on=hh->has kvs ot)/\(1 < i->ot=hh->has kvs on)/\σ=[some<|.str ft,some<|.ref L,some<|.ref d,some<|.ref M,some<|.str hh,some<|.str on,some<|.str ot,some<|.bl od,u8,u9])
   ⟨kvs,wt,_,_,s3.trans n,n _ _ ed,n _ _ eM,e1,e2,e3,I,az,bH,λh=>absurd h (by decide),λh=>absurd h (by decide),rfl⟩ ?_ ?_ ?_
  ·rintro i σ H' _ ⟨_,_,_,_,_,_,_,_,_,e,_⟩;exact bo.of e
  ·rintro i x σ H5 hx ⟨kvs,wt,u8,u9,s5,ed,eM,e1,e2,e3,I,az,bH,d1,d2,rfl⟩;obtain⟨st,gl,t,rfl,et,zc,fi⟩:∃ st gl t,x = .ref t/\H5 t=some (.tup [.str st,.str gl])/\qp ls st gl od/\∀ gR,(∀ y,has kvs y->has gR y)->(st=hh->has gR gl)->(0 < i+1->on=hh->has gR ot)/\(1 < i+1->ot=hh->has gR on):=by
    match i with
    | 0=>
     cases hx;exact⟨on,ot,t1,rfl,e1,.inl fK,λgR mo h=>⟨λ_=>h,λh=>absurd h<|by decide⟩⟩
    | 1=>
     cases hx;exact⟨ot,on,t2,rfl,e2,.inr fK,λgR mo h=>⟨λ_ e=>mo _ (d1 (by decide) e),λ_=>h⟩⟩
    | i+2=>simp at hx
   refine qo rfl (bo.of et) (bb 8 nd<|bb 9 nd ?_);show Run _ _ _ [some<|.str ft,some<|.ref L,some<|.ref d,some<|.ref M,some<|.str hh,some<|.str on,some<|.str ot,some<|.bl od,some<|.str st,some<|.str gl] H5;have skip:(st=hh->has kvs gl)->∃(kvs:List<|Key×V) (wt:List Str) (u8 u9:Option V),ah H H5/\H5 d=some (.dK kvs)/\H5 M=some (Ls wt)/\H5 t1=some (.tup [.str on,.str ot])/\H5 t2=some (.tup [.str ot,.str on])/\H5 tt=some (.tup [.ref t1,.ref t2])/\cZ ls ft (some hh) kvs wt/\2 * (1+2 * ls.length - kvs.length)+wt.length < m /\
     (∀ l∈ls.take j,(l.1=hh->has kvs l.2.1)/\(l.2.1=hh->has kvs l.1))/\(0 < i+1->on=hh->has kvs ot)/\(1 < i+1->ot=hh->has kvs on)/\[some<|V.str ft,some<|.ref L,some<|.ref d,some<|.ref M,some<|.str hh,some<|.str on,some<|.str ot,some<|.bl od,some<|.str st,some<|.str gl]=[some<|.str ft,some<|.ref L,some<|.ref d,some<|.ref M,some<|.str hh,some<|.str on,some<|.str ot,some<|.bl od,u8,u9]:=λh=>
    ⟨kvs,wt,_,_,s5,ed,eM,e1,e2,e3,I,az,bH,(fi kvs (λ_ h=>h) h).1,(fi kvs (λ_ h=>h) h).2,rfl⟩
   refine gn<|xh<|xi<|fb jj<|af 8<|af 4 ⟨rfl,_,rfl,?_⟩
   by_cases cb:st=hh
   ·rw [BK<|CK<|by rw [cb]];refine xj<|Ot hu<|af 9<|af 2 ⟨d,_,rfl,bM.k (k:=Sum.inr gl) ed,?_⟩;cases hg:aH kvs (Sum.inr gl) with
    | some v=>
     show if false=true then _ else _;rw [BJ<|by decide];exact aS<|aS<|skip λ_=>⟨v,hg⟩
    | none=>
     show if true=true then _ else _;rw [BK rfl];have Rx:has kvs hh:=by
      rcases I.O1 with q
      exact q
     obtain⟨v,hv⟩:=Rx;obtain⟨b,rfl,_⟩:=I.val hh v hv;subst cb;have I':=I.add (o:=od) hg hv zc;have lk:=I.len;have Ry:=I'.len;have ve:(putK kvs (Sum.inr gl)<|.bl<|b != od).length=kvs.length+1:=by
      have qv:=I.kP hg;have:=CJ List.length<|uJ kvs (Sum.inr gl)<|.bl<|b != od;rw [BJ qv,Ae,Ab,Ab] at this;exact this
     refine EH hu (DH wq<|qj hu<|af 2<|af 4 ⟨d,.bl b,rfl,by rw [<- hv];exact bM.k (k:=Sum.inr st) ed,af 7 ⟨rfl,?_⟩⟩);rw [wo];refine af 2 (af 9 ⟨d,_,rfl,cV.k (k:=Sum.inr gl) ed (cY<|by omega),?_⟩);have Ie:(upd H5 d<|.dK<|putK kvs (Sum.inr gl)<|.bl<|b != od) M=some (Ls wt):=by rw [aG jr];exact eM
     refine jI (om<|af 3 ⟨M,rfl,⟨_,Ie⟩,af 9 ⟨_,Ie,by rw [Ab];exact cY (by omega),?_⟩⟩);have kT:∀ c xs,H5 c=some (.tup xs)->(upd (upd H5 d<|.dK<|putK kvs (Sum.inr gl)<|.bl<|b != od) M<|.lst<|wt.map V.str++[.str gl]) c=some (.tup xs):=λc xs h=>by
      rw [aG (kt h eM λz=>nomatch z),aG<|kt h ed λz=>nomatch z];exact h
     have mo:∀ y,has kvs y->has (putK kvs (Sum.inr gl)<|.bl<|b != od) y:=λy h=>qu h;have hn:=fi _ mo (λ_=>⟨.bl<|b != od,by rw [iJ,BK rfl]⟩);refine aS<|aS ⟨_,wt++[gl],_,_,cK (cK s5 hd) qS,?_,?_,kT _ _ e1,kT _ _ e2,kT _ _ e3,I',?_,λl hl=>⟨λe=>mo _<|(bH l hl).1 e,λe=>mo _<|(bH l hl).2 e⟩,hn.1,hn.2,rfl⟩
     ·rw [aG<|Ne.symm jr];exact ae
     ·rw [ae];show some (HO.lst<|wt.map V.str++[.str gl])=some (HO.lst<|(wt++[gl]).map V.str);rw [Ai];rfl
     ·rw [ve,Ae];rw [ve] at Ry;show _+(wt.length+1) < m;omega
   ·rw [BJ λh=>cb<|V.str.inj<|CQ h];show if false=true then _ else _;rw [BJ<|by decide];exact aS<|aS<|skip λh=>absurd h cb
  ·rintro σ H5 ⟨kvs,wt,u8,u9,s5,ed,eM,_,_,_,I,az,bH,d1,d2,rfl⟩;refine aS ⟨kvs,wt,_,_,_,_,_,s5,ed,eM,I,az,λl hl=>?_,rfl⟩
   rcases pF l hl with q | q
   ·exact bH l q
   ·subst q;exact⟨d1 (by show 0 < 2;decide),d2<|by show 1 < 2;decide⟩
 ·rintro σ H3 ⟨kvs,wt,u5,u6,u7,u8,u9,s3,ed,eM,I,az,bH,rfl⟩;rw [Ab,eO,Bi] at bH;refine aS ⟨_,az,by omega,kvs,wt,_,_,_,_,_,_,s3,ed,eM,I.close λy o ht=>?_,rfl,rfl⟩
  rcases ht with h | h
  ·exact(bH _ h).1 rfl
  ·exact(bH _ h).2 rfl
end
end Y5
namespace bW
open PySem PySem.W PyProof.Rows PySem.SeqAt
open PySem.AutoSeq1 (wpAny_loadPart')
open PySem.MeetsSeq PySem.MeetsSeq2 PySem.MeetsSeq3
def aJ:List Str->List Str->Bool
 | [],[]=>false
 | [],_ :: _=>true
 | _ :: _,[]=>false
 | x :: xs,y :: ys=>if x=y then aJ xs ys else decide (x.cps.toList < y.cps.toList)
theorem Ig:∀{a b:List Str},a≠b->aJ a b=true\/aJ b a=true
 | [],[],h=>absurd rfl h
 | [],_ :: _,_=> .inl rfl
 | _ :: _,[],_=> .inr rfl
 | x :: xs,y :: ys,h=>by
  show(if x=y then aJ xs ys else decide (x.cps.toList < y.cps.toList))=true\/(if y=x then aJ ys xs else decide (y.cps.toList < x.cps.toList))=true
  by_cases e:x=y
  ·rw [BK e,BK e.symm];exact Ig λq=>h<|by rw [e,q]
  ·rw [BJ e,BJ λq=>e q.symm,FN,FN]
   by_cases c:x.cps.toList < y.cps.toList
   ·exact .inl c
   ·refine .inr<|CN λd=>e<|FH<|List.le_antisymm (Gx.mp d)<|Gx.mp c
theorem rO:∀{a b:List Str},aJ a b=true->aJ b a=false
 | [],[],_=>rfl
 | [],_ :: _,_=>rfl
 | _ :: _,[],h=>by cases h
 | x :: xs,y :: ys,h=>by
  show(if y=x then aJ ys xs else decide (y.cps.toList < x.cps.toList))=false;have h2:(if x=y then aJ xs ys else decide (x.cps.toList < y.cps.toList))=true:=h
  by_cases e:x=y
  ·rw [BK e] at h2;rw [BK e.symm];exact rO h2
  ·rw [BJ e] at h2;rw [BJ λq=>e q.symm];exact CG λq=>Dv _<|Fx (CQ h2) q
theorem Ih:∀{a b c:List Str},aJ a b=true->aJ b c=true->aJ a c=true
 | [],[],_,h,_=>by cases h
 | [],_ :: _,[],_,h=>by cases h
 | [],_ :: _,_ :: _,_,_=>rfl
 | _ :: _,[],_,h,_=>by cases h
 | _ :: _,_ :: _,[],_,h=>by cases h
 | x :: xs,y :: ys,z :: zs,h,k=>by
  have h2:(if x=y then aJ xs ys else decide (x.cps.toList < y.cps.toList))=true:=h;have k2:(if y=z then aJ ys zs else decide (y.cps.toList < z.cps.toList))=true:=k;show(if x=z then aJ xs zs else decide (x.cps.toList < z.cps.toList))=true
  by_cases e:x=y
  ·rw [BK e] at h2
   by_cases d:y=z
   ·rw [BK d] at k2;rw [BK<|e.trans d];exact Ih h2 k2
   ·rw [BJ d] at k2;rw [e,BJ d];exact k2
  ·rw [BJ e] at h2;have l1:=CQ h2
   by_cases d:y=z
   ·rw [<- d,BJ e];exact h2
   ·rw [BJ d] at k2;have l2:=Fx l1<|CQ k2;rw [BJ λq=>Dv _<|by rw [q] at l2;exact l2];exact CK l2
def SX(xs:Array Value)(zs:List Str):Prop:=xs.size=zs.length/\∀(i:Nat) (h:i < xs.size) (k:i < zs.length),∃ t,xs[i]=Value.str zs[i] t
theorem RA(l b:Addr)(items aQ:Array Value)(n n2:Nat)(dd oM:Option Addr)(sl oO:Array<|Option Value)(zs us:List Str)(hz:SX items zs)(hu:SX aQ us)(k:Nat) :
  ∀ i:Nat,items.size - i=k->i<=items.size->i<=aQ.size->Meets (Builtin.«list.__eq__.loop» ⟨[.ref l,.ref b,rawInt i,rawInt 0],[]⟩)
   (λ_ R s => s.heap.get? l = some { cls := .type "list", dict := dd, data := .seq items n, slots := sl } ∧ s.heap.get? b = some { cls := .type "list", dict := oM, data := .seq aQ n2, slots := oO } ∧
    R (.ok<|.ret<|.bool<|aJ (zs.drop i)<|us.drop i) s):=by
 have z1:=hz.1;have z2:=hu.1
 induction k with
 | zero=>
  intro i hk g1 g2 prog w A R s h;obtain⟨hp,g,d,tk,os⟩:=s;obtain⟨hl,hb,h⟩:=h
  wp_walk using CZ hl,CZ hb
  have k4:items[((i:Nat):Int).toNat]?=none:=by simp;omega
  have hd:zs.drop i=[]:=by simp;omega
  rw [hd] at h;rw [k4];have e:aJ [] (us.drop i)=decide (items.size < aQ.size):=by
   cases q:us.drop i with
   | nil=>
    have:us.length<=i:=by simpa using q
    exact(CG<|by omega).symm
   | cons x y=>
    have:i < us.length:=by
     refine CN λc=>?_;rw [Cw<|by omega] at q;cases q
    exact(CK<|by omega).symm
  rw [e] at h
  wp_walk using CZ hl,CZ hb
  exact h
 | succ k ih=>
  intro i hk g1 g2 prog w A R s h;obtain⟨hp,g,d,tk,os⟩:=s;obtain⟨hl,hb,h⟩:=h
  wp_walk using CZ hl,CZ hb
  have az:i < items.size:=by omega
  have k4:items[((i:Nat):Int).toNat]?=some items[i]:=by simp [az]
  have Ii:i < zs.length:=by omega
  obtain⟨t,ht⟩:=hz.2 i az Ii;rw [Cn Ii] at h;rw [k4]
  by_cases c:i < aQ.size
  ·have gS:aQ[((i:Nat):Int).toNat]?=some aQ[i]:=by simp [c]
   have Ij:i < us.length:=by omega
   obtain⟨u,oB⟩:=hu.2 i c Ij;have hc:((i:Int)+1)=((i+1:Nat):Int):=by push_cast;rfl
   rw [Cn Ij] at h;rw [gS,ht,oB];have h2:R (.ok<|.ret<|.bool (if zs[i]=us[i] then aJ (zs.drop<|i+1) (us.drop<|i+1) else decide (zs[i].cps.toList < us[i].cps.toList))) ⟨hp,g,d,tk,os⟩:=h;refine BP<|EqAt.str_str (A:=A.in1) zs[i] t us[i] u prog w _ _ ?_;cases mU:(zs[i] == us[i]) with
   | true=>
    rw [BK<|beq_iff_eq.mp mU] at h2
    wp_walk
    rw [hc];exact⟨plainId_quiet plain_eq_loop _,codeAny_builtin entry_eq_loop<|by
     rw [Around.under_plainId plain_eq_loop _];exact ih (i+1) (by omega) (by omega) (by omega) prog w A R _ ⟨hl,hb,h2⟩⟩
   | false=>
    rw [BJ<|beq_eq_false_iff_ne.mp mU] at h2
    wp_walk using CZ hl,CZ hb
    rw [k4,gS,ht,oB];refine BP (show wpAny (model prog w) A.in1 (compareOp .Lt (.str zs[i] t)<|.str us[i] u) _ _ _ from lt_str ?_)
    wp_walk
    exact h2
  ·have gS:aQ[((i:Nat):Int).toNat]?=none:=by simp;omega
   have hd:us.drop i=[]:=by simp;omega
   rw [hd] at h;rw [gS];have e:aJ (zs[i] :: zs.drop (i+1)) []=decide (items.size < aQ.size):=(CG<|by omega).symm;rw [e] at h
   wp_walk using CZ hl,CZ hb
   exact h
theorem RB(l b:Addr)(items aQ:Array Value)(n n2:Nat)(dd oM:Option Addr)(sl oO:Array<|Option Value)(zs us:List Str)(hz:SX items zs)(hu:SX aQ us) :
  Meets (Builtin.«list.__lt__» ⟨[.ref l,.ref b],[]⟩)
   (λ_ R s => s.heap.get? l = some { cls := .type "list", dict := dd, data := .seq items n, slots := sl } ∧ s.heap.get? b = some { cls := .type "list", dict := oM, data := .seq aQ n2, slots := oO } ∧
    R (.ok<|.ret<|.bool<|aJ zs us) s):=by
 intro prog w A R s h;obtain⟨hp,g,d,tk,os⟩:=s;obtain⟨hl,hb,h⟩:=h;have f3:=AutoSeq1.sub_list_list
 wp_walk using CZ hl,CZ hb
 exact⟨plainId_quiet plain_eq_loop _,codeAny_builtin entry_eq_loop<|by
  rw [Around.under_plainId plain_eq_loop _];exact RA l b items aQ n n2 dd oM sl oO zs us hz hu _ 0 rfl (Bw _) (Bw _) prog w A R _ ⟨hl,hb,h⟩⟩
def j6(h:Heap)(v:Value)(z:List Str):Prop:=∃ a o xs n,v = .ref a/\h.get? a=some o/\o.cls = .type "list"/\o.data = .seq xs n/\SX xs z
theorem j6.keep{h h':Heap}{v:Value}{z:List Str}(x:j6 h v z)(k:∀ a o,v = .ref a->h.get? a=some o->h'.get? a=some o):j6 h' v z:=by
 obtain⟨a,o,xs,n,e,h1,h2⟩:=x;exact⟨a,o,xs,n,e,k a o e h1,h2⟩
def eg(h:Heap)(vs:List Value)(zs:List<|List Str):Prop:=vs.length=zs.length/\∀(i:Nat) v z,vs[i]?=some v->zs[i]?=some z->j6 h v z
section
variable{prog:Program}{w:World}{A:Around}{E:Value->Shared->Prop}{s:Shared}
theorem RC{x y:Value}{z u:List Str}{Q:Bool->Shared->Prop}(hA:A.units < cLine)(hx:j6 s.heap x z)(hy:j6 s.heap y u)(h:Q (aJ z u) s):wpAny (model prog w) A (keyLt' oneType' x y) Q E s:=by
 obtain⟨a,⟨cls,dd,data,sl⟩,xs,n,rfl,h1,h2,h3,h4⟩:=hx;obtain⟨b,⟨RD,oM,data2,oO⟩,ys,n',rfl,g1,g2,g3,g4⟩:=hy;simp only at h2 h3 g2 g3;subst h2 h3 g2 g3;rw [keyLt'_oneType,oneLt'_eq];simp only [DP];refine BP<|wpAny_cRoomFor hA ?_;refine BP<|wpAny_callSpecialIfBound?_slot ⟨_,h1,rfl⟩ PySem.F.slot_list_lt<|call_meets PySem.F.slot_list_lt ⟨_,h1,rfl⟩ PySem.F.entry_list_lt (PySem.F.args_list_lt_2 _ _) (RB a b xs ys n n' dd oM sl oO z u h4 g4) ⟨h1,g1,?_⟩;exact DX h
end
end bW
namespace L2
open PySem PySem.Spec PyProof.Rows bW
theorem RE:∀{zs:List Str} {its:List Value},aj (zs.map V.str) its->SX its.toArray zs:=λ{zs its} r=>by
 have hl:its.length=zs.length:=by have:=r.length;rw [Ab] at this;exact this.symm
 refine⟨by rw [Av];exact hl,λi h k=>?_⟩;have:∀{zs:List Str} {its:List Value},aj (zs.map V.str) its->∀(i:Nat) (h:i < its.length) (k:i < zs.length),∃ t,its[i]=Value.str zs[i] t:=by
  intro zs
  induction zs with
  | nil=>intro its r i h k;exact absurd k<|Nat.not_lt_zero _
  | cons z zs ih=>
   intro its r i h k;cases r with
   | cons a b=>
    obtain⟨t,rfl⟩:=a;cases i with
    | zero=>exact⟨t,rfl⟩
    | succ i=>exact ih b i (LC h)<|LC k
 simpa using this r i (by simpa using h) k
theorem RF{a b:List (List Str)}(ha:a.Pairwise λx y=>aJ x y=true)(hb:b.Pairwise λx y=>aJ x y=true)(h:a.Perm b):a=b:=
 List.Perm.eq_of_pairwise (le:=λx y=>aJ x y=true) (λx y _ _ h1 h2=>by rw [rO h1] at h2;cases h2) ha hb h
section
variable{X:Cx}{σ:St}{H:Hp}
end
end L2
namespace Ik
open PySem PyProof.Rows
def Il:Bool->Keyed->Array Keyed->Nat->Nat->Nat->StateT SortSt Sem (Option Nat):=sortPriv% PySem.Builtin.gallop
def Im:Array Keyed->Array Keyed->StateT SortSt Sem (Array Keyed):=sortPriv% PySem.Builtin.mergeLo
def Io:Array Keyed->Array Keyed->StateT SortSt Sem (Array Keyed):=sortPriv% PySem.Builtin.mergeHi
def RG:Nat->StateT SortSt Sem Unit:=sortPriv% PySem.Builtin.setMinGallop
structure Ord(prog:Program)(w:World)(A:Around)(E:Value->Shared->Prop)(s:Shared)(κ:SortKind)(a₀:List Keyed)(r:Keyed->Keyed->Bool):Prop where
 ask:∀(x y:Keyed) (st:SortSt) (Q:Option Bool->SortSt->Prop),x∈a₀->y∈a₀->x≠y->kindOf st=κ->Q (some<|r x y) st->wpS (model prog w) A E s (lt' x y) Q st
 mO:∀ x∈a₀,∀ y∈a₀,x≠y->r x y=true\/r y x=true
 x0:∀ x y,r x y=true->r y x=false
 gC:∀ x y z,r x y=true->r y z=true->r x z=true
section
variable{prog:Program}{w:World}{A:Around}{E:Value->Shared->Prop}{s:Shared}{κ:SortKind}{a₀:List Keyed}{r:Keyed->Keyed->Bool}
theorem Ord.not(O:Ord prog w A E s κ a₀ r){x y:Keyed}(hx:x∈a₀)(hy:y∈a₀)(ne:x≠y):(!r y x)=r x y:=by
 cases h:r x y with
 | true=>rw [O.x0 _ _ h];rfl
 | false=>
  rcases O.mO x hx y hy ne with q | q
  ·rw [h] at q;cases q
  ·rw [q];rfl
theorem dA{arr:Array Keyed}{i:Nat}{x:Keyed}{Q:Keyed->SortSt->Prop}{st:SortSt}(hx:arr[i]?=some x)(h:Q x st):wpS (model prog w) A E s (elem' arr i) Q st:=by
 rw [elem'_eq,hx];exact BW h
structure rP(r:Keyed->Keyed->Bool)(key:Keyed)(arr:Array Keyed)(base n k:Nat):Prop where
 le:k<=n
 lo:∀ i x,i < k->arr[base+i]?=some x->r x key=true
 hi:∀ i x,k<=i->i < n->arr[base+i]?=some x->r x key=false
def bU(r:Keyed->Keyed->Bool)(key:Keyed)(arr:Array Keyed)(base i:Nat):Bool:=match arr[base+i]? with
 | some x=>r x key
 | none=>false
theorem rQ{key x:Keyed}{arr:Array Keyed}{base i:Nat}(h:arr[base+i]?=some x):bU r key arr base i=r x key:=by unfold bU;rw [h]
theorem oP(O:Ord prog w A E s κ a₀ r){left:Bool}{key:Keyed}{arr:Array Keyed}{base n hint:Nat}{Q:Option Nat->SortSt->Prop}{st:SortSt}(hk:kindOf st=κ)(iE:key∈a₀)(hn:base+n<=arr.size)(hh:hint < n)
  (ha:∀ i x,i < n->arr[base+i]?=some x->x∈a₀/\x≠key) (mono:∀ i j x y,i < j->j < n->arr[base+i]?=some x->arr[base+j]?=some y->r x y=true)
  (hQ:∀ k,rP r key arr base n k->Q (some k) st):wpS (model prog w) A E s (Il left key arr base n hint) Q st:=by
 have at':∀ i,i < n->∃ x,arr[base+i]?=some x:=λi hi=>⟨_,Bo<|by omega⟩;have dn:∀ i j,i<=j->j < n->bU r key arr base j=true->bU r key arr base i=true:=λi j cX hj h=>by
  rcases Nat.lt_or_eq_of_le cX with c | rfl
  ·obtain⟨x,hx⟩:=at' i (by omega);obtain⟨y,hy⟩:=at' j hj;rw [rQ hy] at h;rw [rQ hx];exact O.gC _ _ _ (mono i j x y c hj hx hy) h
  ·exact h
 have up:∀ i j,i<=j->j < n->bU r key arr base i=false->bU r key arr base j=false:=λi j cX hj h=>by
  cases q:bU r key arr base j with
  | false=>rfl
  | true=>rw [dn i j cX hj q] at h;cases h
 have ask:∀(i:Nat) (R:Option Bool->SortSt->Prop),i < n->R (some<|bU r key arr base i) st ->
   wpS (model prog w) A E s (elem' arr (base+i) >>= λx=>if left=true then lt' x key else do return (<- lt' key x).map (!·)) R st:=λi R hi hR=>by
  obtain⟨x,hx⟩:=at' i hi;rw [rQ hx] at hR;obtain⟨h1,h2⟩:=ha i x hi hx;refine BR<|dA hx ?_;cases left with
  | true=>exact O.ask x key st _ h1 iE h2 hk hR
  | false=>
   refine BR<|O.ask key x st _ iE h1 (Ne.symm h2) hk<|BW ?_;show R (some (!r key x)) st;rw [O.not h1 iE h2];exact hR
 have fin:∀ k,k<=n->(∀ j,j < k->bU r key arr base j=true)->(∀ j,k<=j->j < n->bU r key arr base j=false)->Q (some k) st:=λk hk h1 h2=>hQ k ⟨hk,λi x hi hx=>(rQ hx).symm.trans<|h1 i hi,λi x h3 h4 hx=>(rQ hx).symm.trans<|h2 i h3 h4⟩;unfold Il;refine BR<|ask hint _ hh ?_;cases hb:bU r key arr base hint with
 | true=>
  dsimp only
  rw [BK rfl];refine BR<|DK (Q:=λc ag=>st=ag/\∃ l o,c=(none,l,o)/\l < o/\hint+l < n/\bU r key arr base (hint+l)=true/\(n - hint<=o\/bU r key arr base (hint+o)=false)) (CV (λi c ag=>st=ag/\∃ l o,c=(none,l,o)/\l < o/\i < o/\hint+l < n/\bU r key arr base (hint+l)=true) ?_ ?_ ?_) ?_
  ·rintro i c ag _ hi ⟨rfl,l,o,rfl,h1,h2,h3,h4⟩
   dsimp only
   by_cases c:o>=n - hint
   ·rw [BK c];exact BW ⟨rfl,l,o,rfl,h1,h3,h4,.inl c⟩
   ·rw [BJ c];refine BR (ask (hint+o) _ (by omega) ?_);cases hq:bU r key arr base (hint+o) with
    | true=>exact BW ⟨rfl,o,2 * o+1,rfl,by omega,by omega,by omega,hq⟩
    | false=>exact BW ⟨rfl,l,o,rfl,h1,h3,h4,.inr hq⟩
  ·rintro c ag ⟨rfl,l,o,rfl,h1,h2,h3,h4⟩;exact⟨rfl,l,o,rfl,h1,h3,h4,.inl<|by omega⟩
  ·exact⟨rfl,0,1,rfl,by omega,by omega,hh,hb⟩
  rintro c ag ⟨rfl,l,o,rfl,h1,h2,h3,h4⟩
  dsimp only
  have f1:∀ j,j < hint+l+1->bU r key arr base j=true:=λj hj=>dn j (hint+l) (by omega) h2 h3;have f2:∀ j,hint+min o (n - hint)<=j->j < n->bU r key arr base j=false:=λj h5 h6=>by
   rcases h4 with h4 | h4
   ·omega
   ·exact up (hint+o) j (by omega) h6 h4
  have f3:hint+l+1<=hint+min o (n - hint)/\hint+min o (n - hint)<=n:=by omega
  generalize hint+l+1=lo at f1 f3;generalize hint+min o (n - hint)=hi at f2 f3;refine BR<|DK (Q:=λc ag=>st=ag/\∃ h,c=(none,h,h)/\h<=n/\(∀ j,j < h->bU r key arr base j=true)/\(∀ j,h<=j->j < n->bU r key arr base j=false)) (CV (λi c ag=>st=ag/\∃ lo hi,c=(none,lo,hi)/\lo<=hi/\hi<=n/\hi - lo+i<=n/\(∀ j,j < lo->bU r key arr base j=true)/\(∀ j,hi<=j->j < n->bU r key arr base j=false)) ?_ ?_ ?_) ?_
  ·rintro i c ag _ d7 ⟨rfl,lo,hi,rfl,g1,g2,g3,g4,g5⟩
   dsimp only
   by_cases c:lo>=hi
   ·rw [BK c];obtain rfl:lo=hi:=by omega
    exact BW ⟨rfl,lo,rfl,g2,g4,g5⟩
   ·rw [BJ c];refine BR (ask (lo+(hi - lo) / 2) _ (by omega) ?_);cases hq:bU r key arr base (lo+(hi - lo) / 2) with
    | true=>exact BW ⟨rfl,lo+(hi - lo) / 2+1,hi,rfl,by omega,g2,by omega,λj hj=>dn j _ (by omega) (by omega) hq,g5⟩
    | false=>exact BW ⟨rfl,lo,lo+(hi - lo) / 2,rfl,by omega,by omega,by omega,g4,λj h5 h6=>up _ j h5 h6 hq⟩
  ·rintro c ag ⟨rfl,lo,hi,rfl,g1,g2,g3,g4,g5⟩;obtain rfl:lo=hi:=by omega
   exact⟨rfl,lo,rfl,g2,g4,g5⟩
  ·exact⟨rfl,lo,hi,rfl,f3.1,f3.2,by omega,f1,f2⟩
  rintro c ag ⟨rfl,h,rfl,g1,g2,g3⟩;exact BW<|fin h g1 g2 g3
 | false=>
  dsimp only
  rw [BJ Aw];refine BR<|DK (Q:=λc ag=>st=ag/\∃ l o,c=(none,l,o)/\l < o/\l<=hint/\bU r key arr base (hint - l)=false/\(hint+1<=o\/bU r key arr base (hint - o)=true)) (CV (λi c ag=>st=ag/\∃ l o,c=(none,l,o)/\l < o/\i < o/\l<=hint/\bU r key arr base (hint - l)=false) ?_ ?_ ?_) ?_
  ·rintro i c ag _ hi ⟨rfl,l,o,rfl,h1,h2,h3,h4⟩
   dsimp only
   by_cases c:o>=hint+1
   ·rw [BK c];exact BW ⟨rfl,l,o,rfl,h1,h3,h4,.inl c⟩
   ·rw [BJ c];refine BR (ask (hint - o) _ (by omega) ?_);cases hq:bU r key arr base (hint - o) with
    | true=>exact BW ⟨rfl,l,o,rfl,h1,h3,h4,.inr hq⟩
    | false=>exact BW ⟨rfl,o,2 * o+1,rfl,by omega,by omega,by omega,hq⟩
  ·rintro c ag ⟨rfl,l,o,rfl,h1,h2,h3,h4⟩;exact⟨rfl,l,o,rfl,h1,h3,h4,.inl<|by omega⟩
  ·exact⟨rfl,0,1,rfl,by omega,by omega,Bw _,hb⟩
  rintro c ag ⟨rfl,l,o,rfl,h1,h2,h3,h4⟩
  dsimp only
  have f1:∀ j,j < hint+1 - min o (hint+1)->bU r key arr base j=true:=λj hj=>by
   rcases h4 with h4 | h4
   ·omega
   ·exact dn j (hint - o) (by omega) (by omega) h4
  have f2:∀ j,hint - l<=j->j < n->bU r key arr base j=false:=λj h5 h6=>up (hint - l) j h5 h6 h3;have f3:hint+1 - min o (hint+1)<=hint - l/\hint - l<=n:=by omega
  generalize hint+1 - min o (hint+1)=lo at f1 f3;generalize hint - l=hi at f2 f3;refine BR<|DK (Q:=λc ag=>st=ag/\∃ h,c=(none,h,h)/\h<=n/\(∀ j,j < h->bU r key arr base j=true)/\(∀ j,h<=j->j < n->bU r key arr base j=false)) (CV (λi c ag=>st=ag/\∃ lo hi,c=(none,lo,hi)/\lo<=hi/\hi<=n/\hi - lo+i<=n/\(∀ j,j < lo->bU r key arr base j=true)/\(∀ j,hi<=j->j < n->bU r key arr base j=false)) ?_ ?_ ?_) ?_
  ·rintro i c ag _ d7 ⟨rfl,lo,hi,rfl,g1,g2,g3,g4,g5⟩
   dsimp only
   by_cases c:lo>=hi
   ·rw [BK c];obtain rfl:lo=hi:=by omega
    exact BW ⟨rfl,lo,rfl,g2,g4,g5⟩
   ·rw [BJ c];refine BR (ask (lo+(hi - lo) / 2) _ (by omega) ?_);cases hq:bU r key arr base (lo+(hi - lo) / 2) with
    | true=>exact BW ⟨rfl,lo+(hi - lo) / 2+1,hi,rfl,by omega,g2,by omega,λj hj=>dn j _ (by omega) (by omega) hq,g5⟩
    | false=>exact BW ⟨rfl,lo,lo+(hi - lo) / 2,rfl,by omega,by omega,by omega,g4,λj h5 h6=>up _ j h5 h6 hq⟩
  ·rintro c ag ⟨rfl,lo,hi,rfl,g1,g2,g3,g4,g5⟩;obtain rfl:lo=hi:=by omega
   exact⟨rfl,lo,rfl,g2,g4,g5⟩
  ·exact⟨rfl,lo,hi,rfl,f3.1,f3.2,by omega,f1,f2⟩
  rintro c ag ⟨rfl,h,rfl,g1,g2,g3⟩;exact BW<|fin h g1 g2 g3
end
structure MI(r:Keyed->Keyed->Bool)(la lb o:List Keyed)(ia ib:Nat):Prop where
 perm:o.Perm<|la.take ia++lb.take ib
 bI:o.Pairwise λx y=>r x y=true
 lt:∀ x∈o,∀ y∈la.drop ia++lb.drop ib,r x y=true
structure Pre(prog:Program)(w:World)(A:Around)(E:Value->Shared->Prop)(s:Shared)(κ:SortKind)(a₀:List Keyed)(r:Keyed->Keyed->Bool)(la lb:List Keyed):Prop where
 ord:Ord prog w A E s κ a₀ r
 mem:∀ x∈la++lb,x∈a₀
 nd:(la++lb).Nodup
 sa:la.Pairwise λx y=>r x y=true
 sb:lb.Pairwise λx y=>r x y=true
section
variable{prog:Program}{w:World}{A:Around}{E:Value->Shared->Prop}{s:Shared}{κ:SortKind}{a₀:List Keyed}{r:Keyed->Keyed->Bool}{la lb o:List Keyed}{ia ib k:Nat}
theorem Ip{α:Type}(l:List α)(i k:Nat):l.take (i+k)=l.take i++(l.drop i).take k:=List.take_add
theorem MI.eh(P:Pre prog w A E s κ a₀ r la lb)(h:MI r la lb o ia ib)(hx:∀ x∈(la.drop ia).take k,∀ y∈lb.drop ib,r x y=true):MI r la lb (o++(la.drop ia).take k) (ia+k) ib:=by
 have sd:(la.drop ia).Pairwise λx y=>r x y=true:=P.sa.sublist<|Fi _ _;have ed:la.drop (ia+k)=(la.drop ia).drop k:=(Gv ..).symm;have sp:=sd;rw [<- Cc k<|la.drop ia,Cf] at sp;refine⟨?_,Cf.mpr ⟨h.bI,sp.1,λx fL y hy=>h.lt x fL y<|Ba _<|Ci hy⟩,λx fL y hy=>?_⟩
 ·rw [Ip,Bf];refine(h.perm.append_right _).trans ?_;rw [Bf];exact List.perm_append_comm.append_left _
 ·rw [ed] at hy
  rcases An.mp fL with q | q
  ·rcases An.mp hy with p | p
   ·exact h.lt x q y<|Ba _<|Bv p
   ·exact h.lt x q y<|Ao _ p
  ·rcases An.mp hy with p | p
   ·exact sp.2.2 x q y p
   ·exact hx x q y p
theorem MI.dM(P:Pre prog w A E s κ a₀ r la lb)(h:MI r la lb o ia ib)(hx:∀ x∈(lb.drop ib).take k,∀ y∈la.drop ia,r x y=true):MI r la lb (o++(lb.drop ib).take k) ia (ib+k):=by
 have sd:(lb.drop ib).Pairwise λx y=>r x y=true:=P.sb.sublist<|Fi _ _;have ed:lb.drop (ib+k)=(lb.drop ib).drop k:=(Gv ..).symm;have sp:=sd;rw [<- Cc k<|lb.drop ib,Cf] at sp;refine⟨?_,Cf.mpr ⟨h.bI,sp.1,λx fL y hy=>h.lt x fL y<|Ao _<|Ci hy⟩,λx fL y hy=>?_⟩
 ·rw [Ip,<- Bf];exact h.perm.append_right _
 ·rw [ed] at hy
  rcases An.mp fL with q | q
  ·rcases An.mp hy with p | p
   ·exact h.lt x q y<|Ba _ p
   ·exact h.lt x q y<|Ao _<|Bv p
  ·rcases An.mp hy with p | p
   ·exact hx x q y p
   ·exact sp.2.2 x q y p
structure Md(r:Keyed->Keyed->Bool)(la lb o:List Keyed):Prop where
 perm:o.Perm<|la++lb
 bI:o.Pairwise λx y=>r x y=true
theorem MI.fin(h:MI r la lb o la.length lb.length):Md r la lb o:=⟨by have:=h.perm;rw [Bi,Bi] at this;exact this,h.bI⟩
theorem take_all(l:List Keyed)(i:Nat):(l.drop i).take (l.length - i)=l.drop i:=Cp<|by rw [Cb];exact Af _
theorem MI.dB(P:Pre prog w A E s κ a₀ r la lb)(h:MI r la lb o ia lb.length)(hi:ia<=la.length):Md r la lb (o++la.drop ia++lb.drop lb.length):=by
 have:=h.eh P (k:=la.length - ia) λx _ y hy=>by rw [Eb] at hy;cases hy
 rw [take_all,show ia+(la.length - ia)=la.length by omega] at this;rw [Eb,Bg];exact this.fin
theorem MI.dN(P:Pre prog w A E s κ a₀ r la lb)(h:MI r la lb o la.length ib)(hi:ib<=lb.length):Md r la lb (o++la.drop la.length++lb.drop ib):=by
 have:=h.dM P (k:=lb.length - ib) λx _ y hy=>by rw [Eb] at hy;cases hy
 rw [take_all,show ib+(lb.length - ib)=lb.length by omega] at this;rw [Eb,Bg];exact this.fin
theorem MI.gT(P:Pre prog w A E s κ a₀ r la lb)(h:MI r la lb o ia ib)(ha:ia+1=la.length)(hb:ib<=lb.length)(hl:∀ x,la[ia]?=some x->∀ y∈lb,r y x=true):Md r la lb (o++lb.drop ib++la.drop ia):=by
 have e1:la.drop ia=[la[ia]'(by omega)]:=by rw [Cn (by omega),Cw<|by omega]
 have h1:=h.dM P (k:=lb.length - ib) λx hx y hy=>by
  rw [e1,Ag] at hy;rw [hy];exact hl _ (Aa<|by omega) x<|Bv<|Ci hx
 rw [take_all,show ib+(lb.length - ib)=lb.length by omega] at h1;have h2:=h1.dB P (by omega);rw [Eb,Bg] at h2;exact h2
def aF(st ag:SortSt):Prop:=kindOf ag=kindOf st/\arrOf ag=arrOf st/\pendingOf ag=pendingOf st/\failedOf ag=failedOf st
theorem aF.refl(st:SortSt):aF st st:=⟨rfl,rfl,rfl,rfl⟩
theorem oQ{t:String}{Q:Unit->SortSt->Prop}{st:SortSt}(h:Q () st):wpS (model prog w) A E s (liftM (rule t):StateT SortSt Sem Unit) Q st:=wpS_lift<|wpAny_rule ⟨rfl,h⟩
theorem vn{g:Nat}{Q:Unit->SortSt->Prop}{st oR:SortSt}(h0:aF oR st)(h:∀ ag,aF oR ag->Q () ag):wpS (model prog w) A E s (RG g) Q st:=HF<|h _ h0
theorem Iq(a:Array Keyed)(i k:Nat):(a.extract i<|i+k).toList=(a.toList.drop i).take k:=by
 rw [Gn,Fv,Ep]
theorem oU(a:Array Keyed)(i:Nat):(a.extract i a.size).toList=a.toList.drop i:=by
 rw [Gn,Fv,Cp<|by rw [Cb,Al];exact Af _]
theorem jt{l:List Keyed}{i:Nat}{x:Keyed}(h:l[i]?=some x):(l.drop i).take 1=[x]:=by
 obtain⟨hi,e⟩:=Ac.mp h;rw [Cn hi,e];rfl
theorem RH{l:List Keyed}{i:Nat}{x y:Keyed}(h:l[i]?=some x)(sl:l.Pairwise λx y=>r x y=true)(hy:y∈l.drop i):y=x\/r x y=true:=by
 obtain⟨hi,e⟩:=Ac.mp h;have sd:(l.drop i).Pairwise λx y=>r x y=true:=sl.sublist<|Fi _ _;rw [Cn hi,e] at hy sd
 rcases Am.mp hy with q | q
 ·exact .inl q
 ·exact .inr<|(Cq.mp sd).1 y q
theorem ahead(O:Ord prog w A E s κ a₀ r){l:List Keyed}{i:Nat}{x y z:Keyed}(h:l[i]?=some y)(sl:l.Pairwise λx y=>r x y=true)(hx:r x y=true)(hz:z∈l.drop i):r x z=true:=by
 rcases RH h sl hz with rfl | q
 ·exact hx
 ·exact O.gC _ _ _ hx q
theorem ju{a:Array Keyed}{i:Nat}{x:Keyed}(h:a[i]?=some x):x∈a.toList:=by
 rw [<- Ap] at h;exact Au h
theorem pw{a:Array Keyed}{i j:Nat}{x y:Keyed}(h:a.toList.Pairwise λx y=>r x y=true)(cX:i < j)(hx:a[i]?=some x)(hy:a[j]?=some y):r x y=true:=by
 rw [<- Ap] at hx hy;obtain⟨h1,rfl⟩:=Ac.mp hx;obtain⟨h2,rfl⟩:=Ac.mp hy;exact Bd.mp h i j h1 h2 cX
theorem zf{key:Keyed}{a:Array Keyed}{base n k:Nat}(h:rP r key a base n k):∀ x∈(a.toList.drop base).take k,r x key=true:=λx hx=>by
 obtain⟨i,hi,e⟩:=Cs hx;rw [Aq] at hi;refine h.lo i x (by omega) ?_;rw [<- Ap,<- List.getElem?_drop,<- e,Fj];exact Aa _
theorem Ir{key:Keyed}{a:Array Keyed}{base n k:Nat}(h:rP r key a base n k)(hn:a.size<=base+n):∀ x∈a.toList.drop (base+k),r x key=false:=λx hx=>by
 obtain⟨i,hi,e⟩:=Cs hx;rw [Cb,Al] at hi;refine h.hi (k+i) x (by omega) (by omega) ?_;rw [<- Ap,<- e,Fk,<- Nat.add_assoc];exact Aa _
theorem RJ{a b:Array Keyed}{Q:Array Keyed->SortSt->Prop}{st:SortSt}(P:Pre prog w A E s κ a₀ r a.toList b.toList)(hk:kindOf st=κ)(ha:0 < a.size)(hb:0 < b.size)(h0:∀ x y,a[0]?=some x->b[0]?=some y->r y x=true)(hl:∀ x,a[a.size - 1]?=some x->∀ y∈b.toList,r y x=true)
  (hQ:∀ o ag,Md r a.toList b.toList o.toList->aF st ag->Q o ag):wpS (model prog w) A E s (Im a b) Q st:=by
 have O:=P.ord;have al:a.toList.length=a.size:=Al;have bl:b.toList.length=b.size:=Al;have k6:∀ i,i < a.size->∃ x,a[i]?=some x/\a.toList[i]?=some x/\x∈a₀/\x∈a.toList:=λi hi=>⟨a[i],Bo hi,by rw [Ap];exact Bo hi,P.mem _ (Ba _<|by simp),by simp⟩;have nc:∀ i,i < b.size->∃ x,b[i]?=some x/\b.toList[i]?=some x/\x∈a₀/\x∈b.toList:=λi hi=>⟨b[i],Bo hi,by rw [Ap];exact Bo hi,P.mem _ (Ao _<|by simp),by simp⟩;have apart:∀ x∈a.toList,∀ y∈b.toList,x≠y:=(Da.mp P.nd).2.2;have flip:∀{x y:Keyed},x∈a₀->y∈a₀->x≠y->r x y=false->r y x=true:=λ{x y} hx hy ne h=>by
  rcases O.mO x hx y hy ne with q | q
  ·rw [h] at q;cases q
  ·exact q
 have rR:∀{ia:Nat},ia+1=a.size->∀ x,a.toList[ia]?=some x->∀ y∈b.toList,r y x=true:=λ{ia} h x hx=>hl x (by rw [Ap] at hx;rw [show a.size - 1=ia by omega];exact hx);have dB:∀{o:Array Keyed} {ia:Nat},MI r a.toList b.toList o.toList ia b.size->ia<=a.size->Md r a.toList b.toList (o++a.extract ia a.size++b.extract b.size b.size).toList:=λ{o ia} h hi=>by
  rw [Bu,Bu,oU,oU,<- bl];exact MI.dB P (by rw [bl];exact h)<|by omega
 have dN:∀{o:Array Keyed} {ib:Nat},MI r a.toList b.toList o.toList a.size ib->ib<=b.size->Md r a.toList b.toList (o++a.extract a.size a.size++b.extract ib b.size).toList:=λ{o ib} h hi=>by
  rw [Bu,Bu,oU,oU,<- al];exact MI.dN P (by rw [al];exact h)<|by omega
 have gT:∀{o:Array Keyed} {ia ib:Nat},MI r a.toList b.toList o.toList ia ib->ia+1=a.size->ib<=b.size->Md r a.toList b.toList (o++b.extract ib b.size++a.extract ia a.size).toList:=λ{o ia ib} h h1 h2=>by
  rw [Bu,Bu,oU,oU];exact h.gT P (by omega) (by omega)<|rR h1
 have fj:∀{o:Array Keyed} {ia ib:Nat} {x y:Keyed},MI r a.toList b.toList o.toList ia ib->a.toList[ia]?=some x->b.toList[ib]?=some y->r x y=true->MI r a.toList b.toList (o.push x).toList (ia+1) ib:=λ{o ia ib x y} h hx hy hr=>by
  have:=h.eh P (k:=1) λu hu v hv=>by
   rw [jt hx,Ag] at hu;rw [hu];exact ahead O hy P.sb hr hv
  rw [jt hx] at this;rw [Dx];exact this
 have fk:∀{o:Array Keyed} {ia ib:Nat} {x y:Keyed},MI r a.toList b.toList o.toList ia ib->a.toList[ia]?=some x->b.toList[ib]?=some y->r y x=true->MI r a.toList b.toList (o.push y).toList ia (ib+1):=λ{o ia ib x y} h hx hy hr=>by
  have:=h.dM P (k:=1) λu hu v hv=>by
   rw [jt hy,Ag] at hu;rw [hu];exact ahead O hx P.sa hr hv
  rw [jt hy] at this;rw [Dx];exact this
 have ng:∀{o:Array Keyed} {ia ib:Nat} {x:Keyed},MI r a.toList b.toList o.toList ia ib->a.toList[ia]?=some x->(∀ y∈b.toList.drop ib,r x y=true)->MI r a.toList b.toList (o.push x).toList (ia+1) ib:=λ{o ia ib x} h hx hr=>by
  have:=h.eh P (k:=1) λu hu v hv=>by
   rw [jt hx,Ag] at hu;rw [hu];exact hr v hv
  rw [jt hx] at this;rw [Dx];exact this
 have nh:∀{o:Array Keyed} {ia ib:Nat} {y:Keyed},MI r a.toList b.toList o.toList ia ib->b.toList[ib]?=some y->(∀ x∈a.toList.drop ia,r y x=true)->MI r a.toList b.toList (o.push y).toList ia (ib+1):=λ{o ia ib y} h hy hr=>by
  have:=h.dM P (k:=1) λu hu v hv=>by
   rw [jt hy,Ag] at hu;rw [hu];exact hr v hv
  rw [jt hy] at this;rw [Dx];exact this
 unfold Im;refine BR<|oQ ?_;obtain⟨b0,oV,nn,_,_⟩:=nc 0 hb;obtain⟨a0,zg,nr,_,_⟩:=k6 0 ha;refine BR<|dA oV ?_;have start:MI r a.toList b.toList (#[b0]:Array Keyed).toList 0 1:=by
  have oR:MI r a.toList b.toList (#[]:Array Keyed).toList 0 0:=⟨List.Perm.refl _,List.Pairwise.nil,λx h=>by cases h⟩;exact fk oR nr nn<|h0 _ _ zg oV
 dsimp only
 by_cases c1:b.size=1
 ·rw [BK<|by rw [c1];rfl];refine BW<|hQ _ _ ?_<|aF.refl _;have:=dB (ia:=0) (by rw [c1];exact start)<|Bw _;rw [c1] at this ⊢;exact this
 rw [BJ<|by simpa using λh:1=b.size=>c1 h.symm]
 by_cases c2:a.size=1
 ·rw [BK<|by rw [c2];rfl];exact BW<|hQ _ _ (gT (ia:=0) start (by omega)<|by omega)<|aF.refl _
 rw [BJ<|by simpa using λh:1=a.size=>c2 h.symm];refine BR<|GJ ?_;refine BR<|DK (Q:=λc ag=>aF st ag/\∃ o x,c=(some o,x)/\Md r a.toList b.toList o.toList) (CV (λi c ag=>aF st ag/\∃ o ia ib mg,c=(none,o,ia,ib,mg)/\MI r a.toList b.toList o.toList ia ib/\ia+1 < a.size/\ib < b.size/\i < ia+ib) ?_ ?_ ?_) ?_
 ·rintro i c ag _ hi ⟨ss,o,ia,ib,mg,rfl,h,h1,h2,h3⟩
  dsimp only
  refine BR<|DK (Q:=λc ag=>aF st ag/\((∃ o x,c=(some o,x)/\Md r a.toList b.toList o.toList)\/∃ o bC bx ac bc,c=(none,o,bC,bx,ac,bc)/\MI r a.toList b.toList o.toList bC bx/\bC+1 < a.size/\bx < b.size/\ia+ib < bC+bx)) (CV (λj c ag=>aF st ag/\∃ o bC bx ac bc,c=(none,o,bC,bx,ac,bc)/\MI r a.toList b.toList o.toList bC bx/\bC+1 < a.size/\bx < b.size/\ia+ib+j<=bC+bx) ?_ ?_ ?_) ?_
  ·rintro j c aY _ hj ⟨s2,o,bC,bx,ac,bc,rfl,g,g1,g2,g3⟩
   dsimp only
   obtain⟨x,hx,gO,iZ,i0⟩:=k6 bC (by omega);obtain⟨y,hy,fH,i6,i7⟩:=nc bx (by omega);refine BR<|dA hy ?_;refine BR<|dA hx ?_;refine BR<|O.ask y x aY _ i6 iZ (Ne.symm<|apart x i0 y i7) (s2.1.trans hk) ?_;cases hr:r y x with
   | true=>
    dsimp only
    rw [BK rfl];refine BR<|dA hy ?_;have g':=fk g gO fH hr
    by_cases e:bx+1=b.size
    ·rw [BK<|by simpa using e];exact BW ⟨s2,.inl ⟨_,_,rfl,by rw [e];exact dB (by rw [<- e];exact g')<|by omega⟩⟩
    ·rw [BJ<|by simpa using e]
     by_cases e2:bc+1>=mg
     ·rw [BK e2];exact BW ⟨s2,.inr ⟨_,_,_,_,_,rfl,g',g1,by omega,by omega⟩⟩
     ·rw [BJ e2];exact BW ⟨s2,_,_,_,_,_,rfl,g',g1,by omega,by omega⟩
   | false=>
    dsimp only
    rw [BJ Aw];refine BR<|dA hx ?_;have g':=fj g gO fH<|flip i6 iZ (Ne.symm<|apart x i0 y i7) hr
    by_cases e:bC+1+1=a.size
    ·rw [BK<|by simpa using e];exact BW ⟨s2,.inl ⟨_,_,rfl,gT g' e<|by omega⟩⟩
    ·rw [BJ<|by simpa using e]
     by_cases e2:ac+1>=mg
     ·rw [BK e2];exact BW ⟨s2,.inr ⟨_,_,_,_,_,rfl,g',by omega,by omega,by omega⟩⟩
     ·rw [BJ e2];exact BW ⟨s2,_,_,_,_,_,rfl,g',by omega,by omega,by omega⟩
  ·rintro c aY ⟨s2,o,bC,bx,ac,bc,rfl,g,g1,g2,g3⟩;omega
  ·exact⟨ss,_,_,_,_,_,rfl,h,h1,h2,Af _⟩
  rintro c aY ⟨s2,⟨o,x,rfl,hm⟩ | ⟨o,bC,bx,ac,bc,rfl,g,g1,g2,g3⟩⟩
  ·exact BW ⟨s2,o,_,rfl,hm⟩
  dsimp only
  refine BR<|oQ ?_;refine BR<|DK (Q:=λc ag=>aF st ag/\((∃ o x,c=(some o,x)/\Md r a.toList b.toList o.toList)\/∃ o bC bx mg ac bc,c=(none,o,bC,bx,mg,ac,bc)/\MI r a.toList b.toList o.toList bC bx/\bC+1 < a.size/\bx < b.size/\ia+ib < bC+bx)) (CV (λj c ag=>aF st ag/\∃ o bC bx mg ac bc,c=(none,o,bC,bx,mg,ac,bc)/\MI r a.toList b.toList o.toList bC bx/\bC+1 < a.size/\bx < b.size/\ia+ib+j < bC+bx) ?_ ?_ ?_) ?_
  ·rintro j c bg _ hj ⟨s3,o,bC,bx,mg,ac,bc,rfl,g,g1,g2,g3⟩
   dsimp only
   obtain⟨y,hy,fH,i6,i7⟩:=nc bx<|by omega
   by_cases rS:mg > 1
   case' pos=>rw [BK rS]
   case' neg=>rw [BJ rS]
   all_goals
    refine BR<|vn s3 λmF s4=>?_;refine BR<|dA hy ?_;refine BR<|oP O (s4.1.trans hk) i6 (by omega) (by omega) (λi x h1 h2=>⟨P.mem _<|Ba _<|ju h2,apart x (ju h2) y i7⟩) (λi j x y h1 h2 h3 h4=>pw P.sa (by omega) h3 h4) λk ck=>?_
    dsimp only
    have lo:=zf ck;have hi:∀ x∈a.toList.drop (bC+k),r y x=true:=λx hx=>flip (P.mem _<|Ba _<|Bv hx) i6 (apart x (Bv hx) y i7) (Ir ck (by omega) x hx);have gk:MI r a.toList b.toList (o++a.extract bC (bC+k)).toList (bC+k) bx:=by
     rw [Bu,Iq];exact g.eh P λx hx v hv=>ahead O fH P.sb (lo x hx) hv
    have kle:=ck.le
    rcases Nat.eq_zero_or_pos k with ek | ek
    case' inl=>
     subst ek;rw [BJ<|Cd 0];obtain⟨o2,fM⟩:∃ o2,o2=o:=⟨_,rfl⟩;obtain⟨iq,j7⟩:∃ iq,iq=bC:=⟨_,rfl⟩;rw [<- fM,<- j7];rw [<- fM,<- j7] at g;rw [JZ,<- j7] at hi;have b1:iq+1 < a.size:=by omega
     have b3:bC<=iq:=by omega
     clear gk fM j7
    case' inr=>
     rw [BK ek]
     by_cases e1:bC+k+1=a.size
     case' pos=>
      rw [BK<|by simpa using e1];exact BW ⟨s4,.inl ⟨_,_,rfl,gT gk e1<|by omega⟩⟩
     case' neg=>
      rw [BJ<|by simpa using e1]
      by_cases e2:bC+k=a.size
      case' pos=>
       rw [BK<|by simpa using e2];exact BW ⟨s4,.inl ⟨_,_,rfl,by rw [e2];exact dN (by rw [e2] at gk;exact gk)<|by omega⟩⟩
      case' neg=>
       rw [BJ<|by simpa using e2];clear g;have g:=gk;clear gk;obtain⟨o2,fM⟩:∃ o2,o2=o++a.extract bC (bC+k):=⟨_,rfl⟩;obtain⟨iq,j7⟩:∃ iq,iq=bC+k:=⟨_,rfl⟩;rw [<- fM,<- j7];rw [<- fM,<- j7] at g;rw [<- j7] at hi;have b1:iq+1 < a.size:=by omega
       have b3:bC<=iq:=by omega
       clear fM j7
    all_goals
     refine BR<|dA hy ?_;have g5:=nh g fH hi
     by_cases e3:bx+1=b.size
     ·rw [BK<|by simpa using e3];exact BW ⟨s4,.inl ⟨_,_,rfl,by rw [e3];exact dB (by rw [<- e3];exact g5)<|by omega⟩⟩
     rw [BJ<|by simpa using e3];obtain⟨x,hx,gO,iZ,i0⟩:=k6 iq (by omega);refine BR<|dA hx ?_;refine BR<|oP O (s4.1.trans hk) iZ (by omega) (by omega) (λi y h1 h2=>⟨P.mem _<|Ao _<|ju h2,Ne.symm<|apart x i0 y<|ju h2⟩) (λi j x y h1 h2 h3 h4=>pw P.sb (by omega) h3 h4) λk2 nu=>?_
     dsimp only
     have fA:=zf nu;have gS:∀ y∈b.toList.drop (bx+1+k2),r x y=true:=λy hy=>flip (P.mem _<|Ao _<|Bv hy) iZ (Ne.symm<|apart x i0 y<|Bv hy) (Ir nu (by omega) y hy);have iu:MI r a.toList b.toList (o2.push y++b.extract (bx+1) (bx+1+k2)).toList iq (bx+1+k2):=by
      rw [Bu,Iq];exact g5.dM P λy hy v hv=>ahead O gO P.sa (fA y hy) hv
     have rT:=nu.le
     rcases Nat.eq_zero_or_pos k2 with oW | oW
     case' inl=>
      subst oW;rw [BJ<|Cd 0];obtain⟨o3,fN⟩:∃ o3,o3=o2.push y:=⟨_,rfl⟩;obtain⟨j8,j9⟩:∃ j8,j8=bx+1:=⟨_,rfl⟩;rw [<- fN,<- j9];rw [<- fN,<- j9] at g5;rw [JZ,<- j9] at gS;have b5:j8 < b.size:=by omega
      have b6:bx < j8:=by omega
      clear iu fN j9
     case' inr=>
      rw [BK oW]
      by_cases e1:bx+1+k2=b.size
      case' pos=>
       rw [BK<|by simpa using e1];exact BW ⟨s4,.inl ⟨_,_,rfl,by rw [e1];exact dB (by rw [e1] at iu;exact iu)<|by omega⟩⟩
      case' neg=>
       rw [BJ<|by simpa using e1];clear g5;have g5:=iu;clear iu;obtain⟨o3,fN⟩:∃ o3,o3=o2.push y++b.extract (bx+1) (bx+1+k2):=⟨_,rfl⟩;obtain⟨j8,j9⟩:∃ j8,j8=bx+1+k2:=⟨_,rfl⟩;rw [<- fN,<- j9];rw [<- fN,<- j9] at g5;rw [<- j9] at gS;have b5:j8 < b.size:=by omega
       have b6:bx < j8:=by omega
       clear fN j9
     all_goals
      refine BR<|dA hx ?_;have g6:=ng g5 gO gS
      by_cases e4:iq+1+1=a.size
      ·rw [BK<|by simpa using e4];exact BW ⟨s4,.inl ⟨_,_,rfl,gT g6 e4<|by omega⟩⟩
      rw [BJ<|by simpa using e4]
      split
      ·exact BW ⟨s4,.inr ⟨_,_,_,_,_,_,rfl,g6,by omega,by omega,by omega⟩⟩
      ·exact BW ⟨s4,_,_,_,_,_,_,rfl,g6,by omega,by omega,by omega⟩
  ·rintro c bg ⟨s3,o,bC,bx,mg,ac,bc,rfl,g,g1,g2,g3⟩;omega
  ·exact⟨s2,_,_,_,_,_,_,rfl,g,g1,g2,g3⟩
  rintro c bg ⟨s3,⟨o,x,rfl,hm⟩ | ⟨o,bC,bx,mg,ac,bc,rfl,g,g1,g2,g3⟩⟩
  ·exact BW ⟨s3,o,_,rfl,hm⟩
  dsimp only
  refine BR<|vn s3 λmF s4=>?_;exact BW ⟨s4,_,_,_,_,rfl,g,g1,g2,by omega⟩
 ·rintro c ag ⟨_,o,ia,ib,mg,rfl,h,h1,h2,h3⟩;omega
 ·exact⟨aF.refl _,_,_,_,_,rfl,start,by omega,by omega,by omega⟩
 ·rintro c ag ⟨ss,o,x,rfl,hm⟩;exact BW<|hQ _ _ hm ss
end
structure MH(r:Keyed->Keyed->Bool)(la lb o:List Keyed)(na nb:Nat):Prop where
 perm:o.Perm<|la.drop na++lb.drop nb
 bI:o.Pairwise λx y=>r x y=true
 lt:∀ x∈la.take na++lb.take nb,∀ y∈o,r x y=true
section
variable{prog:Program}{w:World}{A:Around}{E:Value->Shared->Prop}{s:Shared}{κ:SortKind}{a₀:List Keyed}{r:Keyed->Keyed->Bool}{la lb o:List Keyed}{na nb k:Nat}
theorem rV(l:List Keyed){k n:Nat}(hk:k<=n)(hn:n<=l.length):l.drop k=(l.take n).drop k++l.drop n:=by
 conv=>lhs;rw [<- Cc n l]
 rw [List.drop_append_of_le_length<|by rw [Aq];omega]
theorem oX(l:List Keyed){k n:Nat}(hk:k<=n):l.take n=l.take k++(l.take n).drop k:=by
 conv=>lhs;rw [<- Cc k<|l.take n,List.take_take,Dy hk]
theorem MH.eh(sa:la.Pairwise λx y=>r x y=true)(h:MH r la lb o na nb)(hk:k<=na)(hn:na<=la.length)(hx:∀ x∈(la.take na).drop k,∀ y∈lb.take nb,r y x=true):MH r la lb ((la.take na).drop k++o) k nb:=by
 have st:(la.take na).Pairwise λx y=>r x y=true:=sa.sublist<|Dm _ _;have sp:=st;rw [oX la hk,Cf] at sp;refine⟨?_,Cf.mpr ⟨sp.2.1,h.bI,λx fL y hy=>h.lt x (Ba _<|Bv fL) y hy⟩,λx fL y hy=>?_⟩
 ·rw [rV la hk hn,Bf];exact h.perm.append_left _
 ·rcases An.mp fL with q | q
  ·rcases An.mp hy with p | p
   ·exact sp.2.2 x q y p
   ·exact h.lt x (Ba _<|by rw [oX la hk];exact Ba _ q) y p
  ·rcases An.mp hy with p | p
   ·exact hx y p x q
   ·exact h.lt x (Ao _ q) y p
theorem MH.dM(sb:lb.Pairwise λx y=>r x y=true)(h:MH r la lb o na nb)(hk:k<=nb)(hn:nb<=lb.length)(hx:∀ x∈(lb.take nb).drop k,∀ y∈la.take na,r y x=true):MH r la lb ((lb.take nb).drop k++o) na k:=by
 have st:(lb.take nb).Pairwise λx y=>r x y=true:=sb.sublist<|Dm _ _;have sp:=st;rw [oX lb hk,Cf] at sp;refine⟨?_,Cf.mpr ⟨sp.2.1,h.bI,λx fL y hy=>h.lt x (Ao _<|Bv fL) y hy⟩,λx fL y hy=>?_⟩
 ·rw [rV lb hk hn];refine(h.perm.append_left _).trans ?_;rw [<- Bf,<- Bf];exact List.perm_append_comm.append_right _
 ·rcases An.mp fL with q | q
  ·rcases An.mp hy with p | p
   ·exact hx y p x q
   ·exact h.lt x (Ba _ q) y p
  ·rcases An.mp hy with p | p
   ·exact sp.2.2 x q y p
   ·exact h.lt x (Ao _<|by rw [oX lb hk];exact Ba _ q) y p
theorem MH.fin(h:MH r la lb o 0 0):Md r la lb o:=⟨h.perm,h.bI⟩
theorem MH.dN(sb:lb.Pairwise λx y=>r x y=true)(h:MH r la lb o 0 nb)(hn:nb<=lb.length):Md r la lb (la.take 0++lb.take nb++o):=(h.dM sb (k:=0) (Bw _) hn λx _ y hy=>by cases hy).fin
theorem MH.dB(sa:la.Pairwise λx y=>r x y=true)(h:MH r la lb o na 0)(hn:na<=la.length):Md r la lb (la.take na++lb.take 0++o):=by
 rw [List.take_zero,Bg];exact(h.eh sa (k:=0) (Bw _) hn λx _ y hy=>by cases hy).fin
theorem MH.gU(sa:la.Pairwise λx y=>r x y=true)(sb:lb.Pairwise λx y=>r x y=true)(h:MH r la lb o na 1)(hn:na<=la.length)(h1:1<=lb.length)(hf:∀ y∈lb.take 1,∀ x∈la,r y x=true):Md r la lb (lb.take 1++la.take na++o):=by
 have g:=h.eh sa (k:=0) (Bw _) hn λx hx y hy=>hf y hy x<|Ci hx;have g2:=(g.dM sb (k:=0) (Bw _) h1 λx _ y hy=>by cases hy).fin;rw [Bf];exact g2
theorem jv(a:Array Keyed)(k n:Nat):(a.extract k n).toList=(a.toList.take n).drop k:=by
 rw [Gn,Fv,List.drop_take]
theorem zh{l:List Keyed}{i:Nat}{x:Keyed}(h:l[i]?=some x):(l.take<|i+1).drop i=[x]:=by
 obtain⟨hi,e⟩:=Ac.mp h;rw [List.drop_take,show i+1 - i=1 by omega];exact jt h
theorem RK{l:List Keyed}{i:Nat}{x y:Keyed}(h:l[i]?=some x)(sl:l.Pairwise λx y=>r x y=true)(hy:y∈l.take (i+1)):y=x\/r y x=true:=by
 have e:=oX l (k:=i) (n:=i+1) (by omega);rw [zh h] at e;have sd:(l.take<|i+1).Pairwise λx y=>r x y=true:=sl.sublist<|Dm _ _;rw [e] at hy sd
 rcases An.mp hy with q | q
 ·exact .inr<|(Cf.mp sd).2.2 y q x<|Ag.mpr rfl
 ·exact .inl<|Ag.mp q
theorem behind(O:Ord prog w A E s κ a₀ r){l:List Keyed}{i:Nat}{x y z:Keyed}(h:l[i]?=some y)(sl:l.Pairwise λx y=>r x y=true)(hx:r y x=true)(hz:z∈l.take (i+1)):r z x=true:=by
 rcases RK h sl hz with rfl | q
 ·exact hx
 ·exact O.gC _ _ _ q hx
theorem Iu{key:Keyed}{a:Array Keyed}{n k:Nat}(h:rP r key a 0 n k):∀ x∈a.toList.take k,r x key=true:=λx hx=>zf h x hx
theorem Iv{key:Keyed}{a:Array Keyed}{n k:Nat}(h:rP r key a 0 n k):∀ x∈(a.toList.take n).drop k,r x key=false:=λx hx=>by
 obtain⟨i,hi,e⟩:=Cs hx;rw [Cb,Aq] at hi;refine h.hi (k+i) x (by omega) (by omega) ?_;rw [<- Ap,<- e,Fk,Fj,MN];exact Aa _
theorem RL{a b:Array Keyed}{Q:Array Keyed->SortSt->Prop}{st:SortSt}(P:Pre prog w A E s κ a₀ r a.toList b.toList)(hk:kindOf st=κ)(ha:0 < a.size)(hb:0 < b.size)(h0:∀ x y,a[0]?=some x->b[0]?=some y->r y x=true)(hl:∀ x,a[a.size - 1]?=some x->∀ y∈b.toList,r y x=true)
  (hQ:∀ o ag,Md r a.toList b.toList o.toList->aF st ag->Q o ag):wpS (model prog w) A E s (Io a b) Q st:=by
 have O:=P.ord;have al:a.toList.length=a.size:=Al;have bl:b.toList.length=b.size:=Al;have k6:∀ i,i < a.size->∃ x,a[i]?=some x/\a.toList[i]?=some x/\x∈a₀/\x∈a.toList:=λi hi=>⟨a[i],Bo hi,by rw [Ap];exact Bo hi,P.mem _ (Ba _<|by simp),by simp⟩;have nc:∀ i,i < b.size->∃ x,b[i]?=some x/\b.toList[i]?=some x/\x∈a₀/\x∈b.toList:=λi hi=>⟨b[i],Bo hi,by rw [Ap];exact Bo hi,P.mem _ (Ao _<|by simp),by simp⟩;have apart:∀ x∈a.toList,∀ y∈b.toList,x≠y:=(Da.mp P.nd).2.2;have flip:∀{x y:Keyed},x∈a₀->y∈a₀->x≠y->r x y=false->r y x=true:=λ{x y} hx hy ne h=>by
  rcases O.mO x hx y hy ne with q | q
  ·rw [h] at q;cases q
  ·exact q
 have nw:∀ y∈b.toList.take 1,∀ x∈a.toList,r y x=true:=λy hy x hx=>by
  obtain⟨b0,oV,nn,_,_⟩:=nc 0 hb;obtain⟨a0,zg,nr,_,_⟩:=k6 0 ha;rw [show b.toList.take 1=[b0] from jt nn,Ag] at hy;rw [hy];exact ahead O nr P.sa (h0 _ _ zg oV)<|by rw [LR];exact hx
 have dN:∀{o:Array Keyed} {nb:Nat},MH r a.toList b.toList o.toList.reverse 0 nb->nb<=b.size->Md r a.toList b.toList (a.extract 0 0++b.extract 0 nb++o.reverse).toList:=λ{o nb} h hi=>by
  rw [Bu,Bu,jv,jv,Ej];exact h.dN P.sb<|by omega
 have dB:∀{o:Array Keyed} {na:Nat},MH r a.toList b.toList o.toList.reverse na 0->na<=a.size->Md r a.toList b.toList (a.extract 0 na++b.extract 0 0++o.reverse).toList:=λ{o nb} h hi=>by
  rw [Bu,Bu,jv,jv,Ej];exact h.dB P.sa<|by omega
 have gU:∀{o:Array Keyed} {na nb:Nat},MH r a.toList b.toList o.toList.reverse na nb->nb=1->na<=a.size->Md r a.toList b.toList (b.extract 0 nb++a.extract 0 na++o.reverse).toList:=λ{o na nb} h e hi=>by
  subst e;rw [Bu,Bu,jv,jv,Ej];exact h.gU P.sa P.sb (by omega) (by omega) nw
 have fj:∀{o:Array Keyed} {na nb:Nat} {x:Keyed},MH r a.toList b.toList o.toList.reverse na nb->0 < na->na<=a.size->a.toList[na - 1]?=some x->(∀ y∈b.toList.take nb,r y x=true)->MH r a.toList b.toList (o.push x).toList.reverse (na - 1) nb:=λ{o na nb x} h h1 h2 hx hr=>by
  have e:(a.toList.take na).drop (na - 1)=[x]:=by
   have:=zh hx;rw [show na - 1+1=na by omega] at this;exact this
  have:=h.eh P.sa (k:=na - 1) (by omega) (by omega) λu hu v hv=>by
   rw [e,Ag] at hu;rw [hu];exact hr v hv
  rw [e] at this;rw [Dx,Do];exact this
 have fk:∀{o:Array Keyed} {na nb:Nat} {y:Keyed},MH r a.toList b.toList o.toList.reverse na nb->0 < nb->nb<=b.size->b.toList[nb - 1]?=some y->(∀ x∈a.toList.take na,r x y=true)->MH r a.toList b.toList (o.push y).toList.reverse na (nb - 1):=λ{o na nb y} h h1 h2 hy hr=>by
  have e:(b.toList.take nb).drop (nb - 1)=[y]:=by
   have:=zh hy;rw [show nb - 1+1=nb by omega] at this;exact this
  have:=h.dM P.sb (k:=nb - 1) (by omega) (by omega) λu hu v hv=>by
   rw [e,Ag] at hu;rw [hu];exact hr v hv
  rw [e] at this;rw [Dx,Do];exact this
 have rW:∀{na:Nat} {x y:Keyed},0 < na->a.toList[na - 1]?=some x->r x y=true->∀ z∈a.toList.take na,r z y=true:=λ{na x y} h1 hx hr z hz=>behind O hx P.sa hr (by rw [show na - 1+1=na by omega];exact hz);have rX:∀{nb:Nat} {x y:Keyed},0 < nb->b.toList[nb - 1]?=some y->r y x=true->∀ z∈b.toList.take nb,r z x=true:=λ{nb x y} h1 hx hr z hz=>behind O hx P.sb hr (by rw [show nb - 1+1=nb by omega];exact hz);unfold Io;refine BR<|oQ ?_;obtain⟨a1,Iw,zi,_,_⟩:=k6 (a.size - 1) (by omega);refine BR<|dA Iw ?_;have start:MH r a.toList b.toList (#[a1]:Array Keyed).toList.reverse (a.size - 1) b.size:=by
  have oR:MH r a.toList b.toList (#[]:Array Keyed).toList.reverse a.size b.size:=⟨by rw [<- al,<- bl,Eb,Eb];exact List.Perm.refl _,List.Pairwise.nil,λx _ y h=>by cases h⟩;exact fj oR ha (Af _) zi λy hy=>hl a1 Iw y<|Ci hy
 dsimp only
 by_cases c1:a.size - 1=0
 ·rw [BK<|by rw [c1];rfl];refine BW<|hQ _ _ ?_<|aF.refl _;rw [c1] at start ⊢;exact dN start<|Af _
 rw [BJ<|by simpa using c1]
 by_cases c2:b.size=1
 ·rw [BK<|by rw [c2];rfl];exact BW<|hQ _ _ (gU start c2<|by omega)<|aF.refl _
 rw [BJ<|by simpa using c2];refine BR<|GJ ?_;refine BR<|DK (Q:=λc ag=>aF st ag/\∃ o x,c=(some o,x)/\Md r a.toList b.toList o.toList) (CV (λi c ag=>aF st ag/\∃ na nb o mg,c=(none,na,nb,o,mg)/\MH r a.toList b.toList o.toList.reverse na nb/\0 < na/\na<=a.size/\1 < nb/\nb<=b.size/\na+nb+i < a.size+b.size) ?_ ?_ ?_) ?_
 ·rintro i c ag _ hi ⟨ss,na,nb,o,mg,rfl,h,h1,h2,h3,h4,h5⟩
  dsimp only
  refine BR<|DK (Q:=λc ag=>aF st ag/\((∃ o x,c=(some o,x)/\Md r a.toList b.toList o.toList)\/∃ bD bv o ac bc,c=(none,bD,bv,o,ac,bc)/\MH r a.toList b.toList o.toList.reverse bD bv/\0 < bD/\bD<=a.size/\1 < bv/\bv<=b.size/\bD+bv < na+nb)) (CV (λj c ag=>aF st ag/\∃ bD bv o ac bc,c=(none,bD,bv,o,ac,bc)/\MH r a.toList b.toList o.toList.reverse bD bv/\0 < bD/\bD<=a.size/\1 < bv/\bv<=b.size/\bD+bv+j<=na+nb) ?_ ?_ ?_) ?_
  ·rintro j c aY _ hj ⟨s2,bD,bv,o,ac,bc,rfl,g,g1,g2,g3,g4,g5⟩
   dsimp only
   obtain⟨x,hx,gO,iZ,i0⟩:=k6 (bD - 1) (by omega);obtain⟨y,hy,fH,i6,i7⟩:=nc (bv - 1) (by omega);refine BR<|dA hy ?_;refine BR<|dA hx ?_;refine BR<|O.ask y x aY _ i6 iZ (Ne.symm<|apart x i0 y i7) (s2.1.trans hk) ?_;cases hr:r y x with
   | true=>
    dsimp only
    rw [BK rfl];refine BR<|dA hx ?_;have g':=fj g g1 g2 gO<|rX (by omega) fH hr
    by_cases e:bD - 1=0
    ·rw [BK<|by simpa using e];exact BW ⟨s2,.inl ⟨_,_,rfl,by rw [e] at g' ⊢;exact dN g'<|by omega⟩⟩
    ·rw [BJ<|by simpa using e]
     by_cases e2:ac+1>=mg
     ·rw [BK e2];exact BW ⟨s2,.inr ⟨_,_,_,_,_,rfl,g',by omega,by omega,g3,g4,by omega⟩⟩
     ·rw [BJ e2];exact BW ⟨s2,_,_,_,_,_,rfl,g',by omega,by omega,g3,g4,by omega⟩
   | false=>
    dsimp only
    rw [BJ Aw];refine BR<|dA hy ?_;have g':=fk g (by omega) g4 fH<|rW g1 gO<|flip i6 iZ (Ne.symm<|apart x i0 y i7) hr
    by_cases e:bv - 1=1
    ·rw [BK<|by simpa using e];exact BW ⟨s2,.inl ⟨_,_,rfl,gU g' e<|by omega⟩⟩
    ·rw [BJ<|by simpa using e]
     by_cases e2:bc+1>=mg
     ·rw [BK e2];exact BW ⟨s2,.inr ⟨_,_,_,_,_,rfl,g',by omega,by omega,by omega,by omega,by omega⟩⟩
     ·rw [BJ e2];exact BW ⟨s2,_,_,_,_,_,rfl,g',by omega,by omega,by omega,by omega,by omega⟩
  ·rintro c aY ⟨s2,bD,bv,o,ac,bc,rfl,g,g1,g2,g3,g4,g5⟩;omega
  ·exact⟨ss,_,_,_,_,_,rfl,h,h1,h2,h3,h4,Af _⟩
  rintro c aY ⟨s2,⟨o,x,rfl,hm⟩ | ⟨bD,bv,o,ac,bc,rfl,g,g1,g2,g3,g4,g5⟩⟩
  ·exact BW ⟨s2,o,_,rfl,hm⟩
  dsimp only
  refine BR<|oQ ?_;refine BR<|DK (Q:=λc ag=>aF st ag/\((∃ o x,c=(some o,x)/\Md r a.toList b.toList o.toList)\/∃ bD bv o mg ac bc,c=(none,bD,bv,o,mg,ac,bc)/\MH r a.toList b.toList o.toList.reverse bD bv/\0 < bD/\bD<=a.size/\1 < bv/\bv<=b.size/\bD+bv < na+nb)) (CV (λj c ag=>aF st ag/\∃ bD bv o mg ac bc,c=(none,bD,bv,o,mg,ac,bc)/\MH r a.toList b.toList o.toList.reverse bD bv/\0 < bD/\bD<=a.size/\1 < bv/\bv<=b.size/\bD+bv+j < na+nb) ?_ ?_ ?_) ?_
  ·rintro j c bg _ hj ⟨s3,bD,bv,o,mg,ac,bc,rfl,g,g1,g2,g3,g4,g5⟩
   dsimp only
   obtain⟨y,hy,fH,i6,i7⟩:=nc (bv - 1)<|by omega
   by_cases rS:mg > 1
   case' pos=>rw [BK rS]
   case' neg=>rw [BJ rS]
   all_goals
    refine BR<|vn s3 λmF s4=>?_;refine BR<|dA hy ?_;refine BR<|oP O (s4.1.trans hk) i6 (by omega) (by omega) (λi x h1 h2=>⟨P.mem _<|Ba _<|ju h2,apart x (ju h2) y i7⟩) (λi j x y h1 h2 h3 h4=>pw P.sa (by omega) h3 h4) λk ck=>?_
    dsimp only
    have lo:=Iu ck;have hi:∀ x∈(a.toList.take bD).drop k,r y x=true:=λx hx=>flip (P.mem _<|Ba _<|Ci<|Bv hx) i6 (apart x (Ci<|Bv hx) y i7)<|Iv ck x hx;have kle:=ck.le;have gk:MH r a.toList b.toList (o++(a.extract k bD).reverse).toList.reverse k bv:=by
     rw [Bu,Ej,Do,List.reverse_reverse,jv];exact g.eh P.sa kle (by omega) λx hx v hv=>rX (by omega) fH (hi x hx) v hv
    by_cases ek:bD - k > 0
    case' neg=>
     rw [BJ ek];have RM:k=bD:=by omega
     rw [RM] at lo;obtain⟨o2,fM⟩:∃ o2,o2=o:=⟨_,rfl⟩;obtain⟨iw,i8⟩:∃ iw,iw=bD:=⟨_,rfl⟩;rw [<- fM,<- i8];rw [<- fM,<- i8] at g;rw [<- i8] at lo;have b1:0 < iw:=by omega
     have b3:iw<=bD:=by omega
     clear gk fM i8
    case' pos=>
     rw [BK ek]
     by_cases e1:k=0
     case' pos=>
      rw [BK<|by simpa using e1];exact BW ⟨s4,.inl ⟨_,_,rfl,by rw [e1] at gk ⊢;exact dN gk<|by omega⟩⟩
     case' neg=>
      rw [BJ<|by simpa using e1];clear g;have g:=gk;clear gk;obtain⟨o2,fM⟩:∃ o2,o2=o++(a.extract k bD).reverse:=⟨_,rfl⟩;obtain⟨iw,i8⟩:∃ iw,iw=k:=⟨_,rfl⟩;rw [<- fM,<- i8];rw [<- fM,<- i8] at g;rw [<- i8] at lo;have b1:0 < iw:=by omega
      have b3:iw<=bD:=by omega
      clear fM i8
    all_goals
     refine BR<|dA hy ?_;have g6:=fk g (by omega) g4 fH lo
     by_cases e3:bv - 1=1
     ·rw [BK<|by simpa using e3];exact BW ⟨s4,.inl ⟨_,_,rfl,gU g6 e3<|by omega⟩⟩
     rw [BJ<|by simpa using e3];obtain⟨x,hx,gO,iZ,i0⟩:=k6 (iw - 1) (by omega);refine BR<|dA hx ?_;refine BR<|oP O (s4.1.trans hk) iZ (by omega) (by omega) (λi y h1 h2=>⟨P.mem _<|Ao _<|ju h2,Ne.symm<|apart x i0 y<|ju h2⟩) (λi j x y h1 h2 h3 h4=>pw P.sb (by omega) h3 h4) λk2 nu=>?_
     dsimp only
     have fA:=Iu nu;have gS:∀ y∈(b.toList.take<|bv - 1).drop k2,r x y=true:=λy hy=>flip (P.mem _<|Ao _<|Ci<|Bv hy) iZ (Ne.symm<|apart x i0 y<|Ci<|Bv hy)<|Iv nu y hy;have rT:=nu.le;have iu:MH r a.toList b.toList (o2.push y++(b.extract k2<|bv - 1).reverse).toList.reverse iw k2:=by
      rw [Bu,Ej,Do,List.reverse_reverse,jv];exact g6.dM P.sb rT (by omega) λy hy v hv=>rW b1 gO (gS y hy) v hv
     by_cases oW:bv - 1 - k2 > 0
     case' neg=>
      rw [BJ oW];have zj:k2=bv - 1:=by omega
      rw [zj] at fA;obtain⟨o3,fN⟩:∃ o3,o3=o2.push y:=⟨_,rfl⟩;obtain⟨j',hnb⟩:∃ j',j'=bv - 1:=⟨_,rfl⟩;rw [<- fN,<- hnb];rw [<- fN,<- hnb] at g6;rw [<- hnb] at fA;have b5:1 < j':=by omega
      have b6:j' < bv:=by omega
      clear iu fN hnb
     case' pos=>
      rw [BK oW]
      by_cases e1:k2=1
      case' pos=>
       rw [BK<|by simpa using e1];exact BW ⟨s4,.inl ⟨_,_,rfl,gU iu e1<|by omega⟩⟩
      case' neg=>
       rw [BJ<|by simpa using e1]
       by_cases e5:k2=0
       case' pos=>
        rw [BK<|by simpa using e5];exact BW ⟨s4,.inl ⟨_,_,rfl,by rw [e5] at iu ⊢;exact dB iu<|by omega⟩⟩
       case' neg=>
        rw [BJ<|by simpa using e5];clear g6;have g6:=iu;clear iu;obtain⟨o3,fN⟩:∃ o3,o3=o2.push y++(b.extract k2<|bv - 1).reverse:=⟨_,rfl⟩;obtain⟨j',hnb⟩:∃ j',j'=k2:=⟨_,rfl⟩;rw [<- fN,<- hnb];rw [<- fN,<- hnb] at g6;rw [<- hnb] at fA;have b5:1 < j':=by omega
        have b6:j' < bv:=by omega
        clear fN hnb
     all_goals
      refine BR<|dA hx ?_;have g7:=fj g6 b1 (by omega) gO fA
      by_cases e4:iw - 1=0
      ·rw [BK<|by simpa using e4];exact BW ⟨s4,.inl ⟨_,_,rfl,by rw [e4] at g7 ⊢;exact dN g7<|by omega⟩⟩
      rw [BJ<|by simpa using e4]
      split
      ·exact BW ⟨s4,.inr ⟨_,_,_,_,_,_,rfl,g7,by omega,by omega,by omega,by omega,by omega⟩⟩
      ·exact BW ⟨s4,_,_,_,_,_,_,rfl,g7,by omega,by omega,by omega,by omega,by omega⟩
  ·rintro c bg ⟨s3,bD,bv,o,mg,ac,bc,rfl,g,g1,g2,g3,g4,g5⟩;omega
  ·exact⟨s2,_,_,_,_,_,_,rfl,g,g1,g2,g3,g4,g5⟩
  rintro c bg ⟨s3,⟨o,x,rfl,hm⟩ | ⟨bD,bv,o,mg,ac,bc,rfl,g,g1,g2,g3,g4,g5⟩⟩
  ·exact BW ⟨s3,o,_,rfl,hm⟩
  dsimp only
  refine BR<|vn s3 λmF s4=>?_;exact BW ⟨s4,_,_,_,_,rfl,g,g1,g2,g3,g4,by omega⟩
 ·rintro c ag ⟨_,na,nb,o,mg,rfl,h,h1,h2,h3,h4,h5⟩;omega
 ·exact⟨aF.refl _,_,_,_,_,rfl,start,by omega,by omega,by omega,by omega,by omega⟩
 ·rintro c ag ⟨ss,o,x,rfl,hm⟩;exact BW<|hQ _ _ hm ss
end
def aK(r:Keyed->Keyed->Bool)(a:Array Keyed)(lo hi:Nat):Prop:=∀ i j x y,lo<=i->i < j->j < hi->a[i]?=some x->a[j]?=some y->r x y=true
structure Upd(a a':Array Keyed)(lo hi:Nat):Prop where
 perm:a'.toList.Perm a.toList
 out:∀ i,i < lo\/hi<=i->a'[i]?=a[i]?
theorem Upd.refl(a:Array Keyed)(lo hi:Nat):Upd a a lo hi:=⟨List.Perm.refl _,λ_ _=>rfl⟩
theorem Upd.trans{a b c:Array Keyed}{lo hi:Nat}(h:Upd a b lo hi)(k:Upd b c lo hi):Upd a c lo hi:=⟨k.perm.trans h.perm,λi hi=>(k.out i hi).trans<|h.out i hi⟩
theorem Upd.size{a b:Array Keyed}{lo hi:Nat}(h:Upd a b lo hi):b.size=a.size:=by have:=h.perm.length_eq;rwa [Al,Al] at this
theorem Upd.wide{a b:Array Keyed}{lo hi jw d7:Nat}(h:Upd a b lo hi)(h1:jw<=lo)(h2:hi<=d7):Upd a b jw d7:=⟨h.perm,λi hi=>h.out i<|by omega⟩
theorem aK.upd{r:Keyed->Keyed->Bool}{a b:Array Keyed}{lo hi jw d7:Nat}(h:aK r a lo hi)(u:Upd a b jw d7)(d:hi<=jw\/d7<=lo):aK r b lo hi:=λi j x y h1 h2 h3 h4 h5=>h i j x y h1 h2 h3 (by rw [<- u.out i<|by omega];exact h4)<|by rw [<- u.out j<|by omega];exact h5
section
variable{prog:Program}{w:World}{A:Around}{E:Value->Shared->Prop}{s:Shared}{κ:SortKind}{a₀:List Keyed}{r:Keyed->Keyed->Bool}
structure Bs(κ:SortKind)(a₀:List Keyed)(st:SortSt):Prop where
 kind:kindOf st=κ
 failed:failedOf st=none
 perm:(arrOf st).toList.Perm a₀
theorem RN{st ag:SortSt}{Q:PUnit->SortSt->Prop}{M:Model}(h:Q ⟨⟩ ag):wpS M A E s (set ag:StateT SortSt Sem PUnit) Q st:=by
 unfold wpS;rw [StateT.run_set];exact BX ⟨rfl,h⟩
theorem aK.list{a:Array Keyed}{lo hi:Nat}(h:aK r a lo hi):((a.toList.take hi).drop lo).Pairwise λx y=>r x y=true:=by
 rw [Bd];intro i j h1 h2 cX;rw [Cb,Aq] at h1 h2;refine h (lo+i) (lo+j) _ _ (by omega) (by omega) (by omega) ?_ ?_
 ·rw [Fk,Fj,<- Ap];exact Aa _
 ·rw [Fk,Fj,<- Ap];exact Aa _
theorem aK.fO{a:Array Keyed}{l z t:List Keyed}(e:a.toList=l++z++t)(h:z.Pairwise λx y=>r x y=true):aK r a l.length (l.length+z.length):=by
 intro i j x y h1 h2 h3 h4 h5;rw [<- Ap,e,Bf,Ay (by omega),Bc<|by omega] at h4 h5;obtain⟨g1,rfl⟩:=Ac.mp h4;obtain⟨g2,rfl⟩:=Ac.mp h5;exact Bd.mp h _ _ g1 g2<|by omega
theorem Upd.fO{a b:Array Keyed}{l z z' t:List Keyed}(e:a.toList=l++z++t)(e':b.toList=l++z'++t)(h:z'.Perm z):Upd a b l.length (l.length+z.length):=by
 have hl:=h.length_eq;refine⟨by rw [e,e'];exact(h.append_left _).append_right _,λi hi=>?_⟩;rw [<- Ap,<- Ap,e,e',Bf,Bf]
 rcases hi with hi | hi
 ·rw [Bc hi,Bc hi]
 ·rw [Ay (by omega),Ay (by omega),Ay (by omega),Ay (by omega),hl]
theorem Iy:∀(m:List Keyed) (a:Array Keyed) (base n:Nat),base+n+m.length<=a.size ->
  ((m.zipIdx n).foldl (λa (x:Keyed×Nat)=>match x with | (p,j)=>a.setIfInBounds (base+j) p) a).toList=a.toList.take (base+n)++m++a.toList.drop (base+n+m.length)
 | [],a,base,n,_=>by
  rw [Bg,Dp,JZ,Cc];rfl
 | x :: m,a,base,n,h=>by
  rw [As] at h;rw [List.zipIdx_cons,Go];have ih:=Iy m (a.setIfInBounds (base+n) x) base (n+1) (by rw [Array.size_setIfInBounds];omega);refine ih.trans ?_;have hs:(a.setIfInBounds (base+n) x).toList=a.toList.take (base+n)++x :: a.toList.drop (base+n+1):=by
   rw [JH,List.set_eq_take_append_cons_drop,BK<|by rw [Al];omega]
  have tl:(a.toList.take<|base+n).length=base+n:=by rw [Aq,Al];omega
  rw [hs,<- Nat.add_assoc,As];have e1:List.take (base+n+1) (a.toList.take (base+n)++x :: a.toList.drop (base+n+1))=a.toList.take (base+n)++[x]:=by
   rw [List.take_append,tl,Cp (by omega),show base+n+1 - (base+n)=1 by omega];rfl
  have e2:List.drop (base+n+1+m.length) (a.toList.take (base+n)++x :: a.toList.drop (base+n+1))=a.toList.drop (base+n+(m.length+1)):=by
   rw [List.drop_append,tl,Cw (by omega),show base+n+1+m.length - (base+n)=m.length+1 by omega,List.drop_succ_cons,Gv,KY]
   congr 1
   omega
  rw [e1,e2,Bf,Bf,Bf];rfl
theorem seg_at{a:Array Keyed}{lo hi:Nat}{x:Keyed}(h:x∈(a.toList.take hi).drop lo):∃ i,lo<=i/\i < hi/\a[i]?=some x:=by
 obtain⟨i,d7,e⟩:=Cs h;rw [Cb,Aq] at d7;refine⟨lo+i,by omega,by omega,?_⟩;rw [<- Ap,<- e,Fk,Fj];exact Aa _
theorem RO(O:Ord prog w A E s κ a₀ r)(nd:a₀.Nodup){st:SortSt}(B:Bs κ a₀ st){i sa na pw sb nb vo:Nat}{Q:Bool->SortSt->Prop}(e1:(pendingOf st)[i]?=some (sa,na,pw))(e2:(pendingOf st)[i+1]?=some (sb,nb,vo))
  (uw:sb=sa+na) (i8:0 < na) (hnb:0 < nb) (hsz:sb+nb<=(arrOf st).size) (s1:aK r (arrOf st) sa sb) (s2:aK r (arrOf st) sb<|sb+nb)
  (hQ:∀ ag,Bs κ a₀ ag->pendingOf ag=((pendingOf st).setIfInBounds i (sa,na+nb,pw)).eraseIdxIfInBounds (i+1)->Upd (arrOf st) (arrOf ag) sa (sb+nb)->aK r (arrOf ag) sa (sb+nb)->Q true ag):wpS (model prog w) A E s (mergeAt' i) Q st:=by
 obtain⟨κ',a,p,g,f⟩:=st;obtain⟨rfl,rfl,perm⟩:=B;have Iz:a.toList.Nodup:=perm.nodup_iff.mpr nd;have eC:∀{i x},a[i]?=some x->x∈a₀:=λ{i x} h=>perm.mem_iff.mp<|ju h;have uniq:∀{i j x},a[i]?=some x->a[j]?=some x->i=j:=λ{i j x} h1 h2=>by
  rw [<- Ap] at h1 h2;obtain⟨g1,h1⟩:=Ac.mp h1;exact(Gg g1 Iz).mp<|by rw [h2];exact Ac.mpr ⟨g1,h1⟩
 have at':∀ i,i < a.size->∃ x,a[i]?=some x:=λi hi=>⟨_,Bo hi⟩;have flip:∀{x y:Keyed},x∈a₀->y∈a₀->x≠y->r x y=false->r y x=true:=λ{x y} hx hy ne h=>by
  rcases O.mO x hx y hy ne with q | q
  ·rw [h] at q;cases q
  ·exact q
 have sz:sb+nb<=a.size:=hsz;unfold mergeAt';refine BR<|GJ ?_;have qd:p[i]?=some (sa,na,pw):=e1;have RP:p[i+1]?=some (sb,nb,vo):=e2
 dsimp only
 rw [qd,RP]
 dsimp only
 refine BR<|RN ?_;obtain⟨y0,ka⟩:=at' sb (by omega);refine BR<|dA ka ?_;refine BR<|oP O rfl (eC ka) (by omega) i8 (λi x h1 h2=>⟨eC h2,λe=>by subst e;have:=uniq h2 ka;omega⟩) (λi j x y h1 h2 h3 h4=>s1 _ _ x y (by omega) (by omega) (by omega) h3 h4) λk ck=>?_
 dsimp only
 have kle:=ck.le;have lo1:∀ i x,sa<=i->i < sa+k->a[i]?=some x->r x y0=true:=λi x h1 h2 h3=>ck.lo (i - sa) x (by omega) (by rw [show sa+(i - sa)=i by omega];exact h3);have k4:∀ i x,sa+k<=i->i < sb->a[i]?=some x->r y0 x=true:=λi x h1 h2 h3=>flip (eC h3) (eC ka) (λe=>by subst e;have:=uniq h3 ka;omega) (ck.hi (i - sa) x (by omega) (by omega)<|by rw [show sa+(i - sa)=i by omega];exact h3);have zk:∀{j z},sb<=j->j < sb+nb->a[j]?=some z->z=y0\/r y0 z=true:=λ{j z} h1 h2 h3=>by
  rcases Nat.eq_or_lt_of_le h1 with e | l
  ·subst e;rw [ka] at h3;exact .inl (Option.some.inj h3).symm
  ·exact .inr<|s2 sb j y0 z (Af _) l h2 ka h3
 have zl:∀{x j z},r x y0=true->sb<=j->j < sb+nb->a[j]?=some z->r x z=true:=λ{x j z} h h1 h2 h3=>by
  rcases zk h1 h2 h3 with rfl | q
  ·exact h
  ·exact O.gC _ _ _ h q
 by_cases c1:na - k=0
 ·rw [BK<|by rw [c1];rfl];refine BW<|hQ _ ⟨rfl,rfl,perm⟩ rfl (Upd.refl _ _ _) λi j x y h1 h2 h3 h4 h5=>?_
  by_cases d1:j < sb
  ·exact s1 i j x y h1 h2 d1 h4 h5
  ·by_cases d2:sb<=i
   ·exact s2 i j x y d2 h2 h3 h4 h5
   ·exact zl (lo1 i x h1 (by omega) h4) (by omega) h3 h5
 rw [BJ<|by simpa using c1];obtain⟨xl,jq⟩:=at' (sb - 1) (by omega);refine BR (dA (x:=xl) (by rw [show sa+k+(na - k) - 1=sb - 1 by omega];exact jq) ?_);refine BR<|oP O rfl (eC jq) (by omega) (by omega) (λi x h1 h2=>⟨eC h2,λe=>by subst e;have:=uniq h2 jq;omega⟩) (λi j x y h1 h2 h3 h4=>s2 _ _ x y (by omega) (by omega) (by omega) h3 h4) λn2 cn=>?_
 dsimp only
 have U2:=cn.le;have fA:∀ i x,sb<=i->i < sb+n2->a[i]?=some x->r x xl=true:=λi x h1 h2 h3=>cn.lo (i - sb) x (by omega) (by rw [show sb+(i - sb)=i by omega];exact h3);have gS:∀ i x,sb+n2<=i->i < sb+nb->a[i]?=some x->r xl x=true:=λi x h1 h2 h3=>flip (eC h3) (eC jq) (λe=>by subst e;have:=uniq h3 jq;omega) (cn.hi (i - sb) x (by omega) (by omega)<|by rw [show sb+(i - sb)=i by omega];exact h3);have zn:r y0 xl=true:=k4 (sb - 1) xl (by omega) (by omega) jq
 by_cases c2:n2=0
 ·exfalso
  have:=gS sb y0 (by omega) (by omega) ka;rw [O.x0 _ _ zn] at this;cases this
 rw [BJ<|by simpa using c2];have ex:(a.extract (sa+k) sb).toList=(a.toList.take sb).drop (sa+k):=jv _ _ _;have ey:(a.extract sb<|sb+n2).toList=(a.toList.take<|sb+n2).drop sb:=jv _ _ _;have sx:(a.extract (sa+k) sb).size=na - k:=by rw [Array.size_extract];omega
 have sy:(a.extract sb<|sb+n2).size=n2:=by rw [Array.size_extract];omega
 have qz:(a.extract (sa+k) sb).toList++(a.extract sb<|sb+n2).toList=(a.toList.take<|sb+n2).drop (sa+k):=by
  rw [ex,ey,rV (a.toList.take<|sb+n2) (k:=sa+k) (n:=sb) (by omega) (by rw [Aq,Al];omega),List.take_take,Dy<|by omega]
 have P:Pre prog w A E s κ' a₀ r (a.extract (sa+k) sb).toList (a.extract sb<|sb+n2).toList:=by
  refine⟨O,λx hx=>?_,?_,?_,?_⟩
  ·rw [qz] at hx;exact perm.mem_iff.mp<|Ci<|Bv hx
  ·rw [qz];exact Iz.sublist<|(Fi _ _).trans<|Dm _ _
  ·rw [ex];exact aK.list λi j x y h1 h2 h3 h4 h5=>s1 i j x y (by omega) h2 h3 h4 h5
  ·rw [ey];exact aK.list λi j x y h1 h2 h3 h4 h5=>s2 i j x y (by omega) h2 (by omega) h4 h5
 have IA:∀ x y,(a.extract (sa+k) sb)[0]?=some x->(a.extract sb<|sb+n2)[0]?=some y->r y x=true:=λx y h1 h2=>by
  rw [Gh,BK<|by omega] at h1 h2;have jK:a[sb]?=some y:=h2;rw [ka] at jK;cases jK;exact k4 (sa+k) x (by omega) (by omega) h1
 have IB:∀ x,(a.extract (sa+k) sb)[(a.extract (sa+k) sb).size - 1]?=some x->∀ y∈(a.extract sb<|sb+n2).toList,r y x=true:=λx h1 y hy=>by
  rw [sx,Gh,BK (by omega),show sa+k+(na - k - 1)=sb - 1 by omega,jq] at h1;cases h1;obtain⟨j,hj,e⟩:=Cs hy;rw [Al,sy] at hj;refine fA (sb+j) y (by omega) (by omega) ?_;have:(a.extract sb<|sb+n2)[j]?=some y:=by rw [<- Ap,<- e];exact Aa _
  rw [Gh,BK<|by omega] at this;exact this
 have fin:∀(m:Array Keyed) (ag:SortSt),Md r (a.extract (sa+k) sb).toList (a.extract sb<|sb+n2).toList m.toList->aF (SortSt.mk' κ' a ((p.setIfInBounds i (sa,na+nb,pw)).eraseIdxIfInBounds<|i+1) g none) ag ->
   Q true (setArr ag<|m.toList.zipIdx.foldl (λa (x:Keyed×Nat)=>match x with | (p,j)=>a.setIfInBounds (sa+k+j) p)<|arrOf ag):=λm ag hm hs=>by
  obtain⟨q1,q2,q3,q4⟩:=hs;rw [show arrOf ag=a from q2];have ml:m.toList.length=na - k+n2:=by
   have:=hm.perm.length_eq;rw [Ae,Al,Al,Al,sx,sy] at this;rw [Al];exact this
  have ea:=Iy m.toList a (sa+k) 0 (by omega);generalize hb:m.toList.zipIdx.foldl (λa (x:Keyed×Nat)=>match x with | (p,j)=>a.setIfInBounds (sa+k+j) p) a=b at ea ⊢;rw [JZ,ml,show sa+k+(na - k+n2)=sb+n2 by omega] at ea;have tl:(a.toList.take sa).length=sa:=by rw [Aq,Al];omega
  have eT:a.toList.take (sa+k)=a.toList.take sa++(a.toList.take<|sa+k).drop sa:=oX _ (by omega);have eD:a.toList.drop (sb+n2)=(a.toList.take<|sb+nb).drop (sb+n2)++a.toList.drop (sb+nb):=rV _ (by omega) (by rw [Al];omega);have eM:a.toList=a.toList.take (sa+k)++((a.toList.take<|sb+n2).drop (sa+k)++a.toList.drop (sb+n2)):=by
   rw [<- rV _ (by omega) (by rw [Al];omega),Cc]
  have pm:m.toList.Perm ((a.toList.take<|sb+n2).drop<|sa+k):=by rw [<- qz];exact hm.perm
  have rY:∀ x∈(a.toList.take<|sa+k).drop sa,∃ i,sa<=i/\i < sa+k/\a[i]?=some x:=λx hx=>seg_at hx;have IC:∀ x∈m.toList,∃ i,sa+k<=i/\i < sb+n2/\a[i]?=some x:=λx hx=>seg_at<|pm.mem_iff.mp hx;have zo:∀ x∈(a.toList.take<|sb+nb).drop (sb+n2),∃ i,sb+n2<=i/\i < sb+nb/\a[i]?=some x:=λx hx=>seg_at hx;have RQ:((a.toList.take<|sa+k).drop sa).Pairwise λx y=>r x y=true:=aK.list λi j x y h1 h2 h3 h4 h5=>s1 i j x y (by omega) h2 (by omega) h4 h5;have RT:((a.toList.take<|sb+nb).drop<|sb+n2).Pairwise λx y=>r x y=true:=aK.list λi j x y h1 h2 h3 h4 h5=>s2 i j x y (by omega) h2 (by omega) h4 h5;have IE:((a.toList.take<|sa+k).drop sa).length=k:=by rw [Cb,Aq,Al];omega
  have IG:((a.toList.take<|sb+nb).drop<|sb+n2).length=nb - n2:=by rw [Cb,Aq,Al];omega
  have lM:((a.toList.take<|sb+n2).drop<|sa+k).length=na - k+n2:=by rw [<- pm.length_eq,ml]
  generalize (a.toList.take<|sa+k).drop sa=X1 at *;generalize (a.toList.take<|sb+nb).drop (sb+n2)=Y2 at *;generalize (a.toList.take<|sb+n2).drop (sa+k)=M at *;have eb:b.toList=a.toList.take sa++(X1++m.toList++Y2)++a.toList.drop (sb+nb):=by
   rw [ea,eT,eD];simp only [Bf]
  have RU:a.toList=a.toList.take sa++(X1++M++Y2)++a.toList.drop (sb+nb):=by
   refine eM.trans ?_;rw [eT,eD];simp only [Bf]
  have u:=Upd.fO RU eb<|(pm.append_left X1).append_right Y2;have so:=aK.fO (r:=r) eb (Cf.mpr ⟨Cf.mpr ⟨RQ,hm.bI,λx hx y hy=>by
   obtain⟨i,i1,i2,i3⟩:=rY x hx;obtain⟨j,j1,j2,j3⟩:=IC y hy
   by_cases d:j < sb
   ·exact s1 i j x y i1 (by omega) d i3 j3
   ·exact zl (lo1 i x i1 i2 i3) (by omega) (by omega) j3⟩,RT,λx hx y hy=>by
   obtain⟨j,j1,j2,j3⟩:=zo y hy
   rcases An.mp hx with hx | hx
   ·obtain⟨i,i1,i2,i3⟩:=rY x hx;exact zl (lo1 i x i1 i2 i3) (by omega) (by omega) j3
   ·obtain⟨i,i1,i2,i3⟩:=IC x hx
    by_cases d:i < sb
    ·have q:=gS j y j1 j2 j3
     by_cases d2:i=sb - 1
     ·subst d2;rw [jq] at i3;cases i3;exact q
     ·exact O.gC _ _ _ (s1 i (sb - 1) x xl (by omega) (by omega) (by omega) i3 jq) q
    ·exact s2 i j x y (by omega) (by omega) (by omega) i3 j3⟩)
  rw [Ae,Ae,IE,IG,lM,tl,show sa+(k+(na - k+n2)+(nb - n2))=sb+nb by omega] at u;rw [Ae,Ae,IE,IG,ml,tl,show sa+(k+(na - k+n2)+(nb - n2))=sb+nb by omega] at so;exact hQ _ ⟨q1,q4,u.perm.trans perm⟩ q3 u so
 by_cases c3:na - k<=n2
 ·rw [BK c3];refine BR (RJ P rfl (by omega) (by omega) IA IB λm ag hm hs=>?_);refine BR<|HF ?_;refine BR<|GJ ?_;refine BW ?_;have:=fin m ag hm hs;have q4:failedOf ag=none:=hs.2.2.2
  dsimp only
  rw [show(failedOf ag).isNone=true by rw [q4];rfl];exact this
 ·rw [BJ c3];refine BR (RL P rfl (by omega) (by omega) IA IB λm ag hm hs=>?_);refine BR<|HF ?_;refine BR<|GJ ?_;refine BW ?_;have:=fin m ag hm hs;have q4:failedOf ag=none:=hs.2.2.2
  dsimp only
  rw [show(failedOf ag).isNone=true by rw [q4];rfl];exact this
theorem Bs.eC{st:SortSt}(B:Bs κ a₀ st){i:Nat}{x:Keyed}(h:(arrOf st)[i]?=some x):x∈a₀:=B.perm.mem_iff.mp<|ju h
theorem Bs.uniq{st:SortSt}(B:Bs κ a₀ st)(nd:a₀.Nodup){i j:Nat}{x:Keyed}(h1:(arrOf st)[i]?=some x)(h2:(arrOf st)[j]?=some x):i=j:=by
 rw [<- Ap] at h1 h2;obtain⟨g1,h1⟩:=Ac.mp h1;exact(Gg g1<|B.perm.nodup_iff.mpr nd).mp<|by rw [h2];exact Ac.mpr ⟨g1,h1⟩
theorem Bs.upd{st:SortSt}(B:Bs κ a₀ st){b:Array Keyed}{lo hi:Nat}(u:Upd (arrOf st) b lo hi):Bs κ a₀ (setArr st b):=⟨B.kind,B.failed,u.perm.trans B.perm⟩
theorem oY(O:Ord prog w A E s κ a₀ r)(nd:a₀.Nodup){st:SortSt}(B:Bs κ a₀ st){i j:Nat}{x y:Keyed}{Q:Option Bool->SortSt->Prop}(hx:(arrOf st)[i]?=some x)(hy:(arrOf st)[j]?=some y)(ne:i≠j)(h:Q (some<|r x y) st):wpS (model prog w) A E s (ltAt' i j) Q st:=by
 rw [ltAt'_eq];refine BR<|GJ ?_;refine BR<|dA hx ?_;refine BR<|dA hy ?_;exact O.ask x y st Q (B.eC hx) (B.eC hy) (λe=>ne<|by subst e;exact B.uniq nd hx hy) B.kind h
theorem Ord.flip(O:Ord prog w A E s κ a₀ r){x y:Keyed}(hx:x∈a₀)(hy:y∈a₀)(ne:x≠y)(h:r x y=false):r y x=true:=by
 rcases O.mO x hx y hy ne with q | q
 ·rw [h] at q;cases q
 ·exact q
theorem aK.more(O:Ord prog w A E s κ a₀ r){a:Array Keyed}{lo n:Nat}{x y:Keyed}(h:aK r a lo n)(hn:lo < n)(hx:a[n - 1]?=some x)(hy:a[n]?=some y)(hr:r x y=true):aK r a lo (n+1):=by
 intro i j u v h1 h2 h3 h4 h5
 by_cases d:j < n
 ·exact h i j u v h1 h2 d h4 h5
 ·obtain rfl:j=n:=by omega
  rw [hy] at h5;cases h5
  by_cases d2:i=j - 1
  ·subst d2;rw [hx] at h4;cases h4;exact hr
  ·exact O.gC _ _ _ (h i (j - 1) u x h1 (by omega) (by omega) h4 hx) hr
def ny(r:Keyed->Keyed->Bool)(a:Array Keyed)(lo hi:Nat):Prop:=∀ i j x y,lo<=i->i < j->j < hi->a[i]?=some x->a[j]?=some y->r y x=true
theorem ny.more(O:Ord prog w A E s κ a₀ r){a:Array Keyed}{lo n:Nat}{x y:Keyed}(h:ny r a lo n)(hn:lo < n)(hx:a[n - 1]?=some x)(hy:a[n]?=some y)(hr:r y x=true):ny r a lo (n+1):=by
 intro i j u v h1 h2 h3 h4 h5
 by_cases d:j < n
 ·exact h i j u v h1 h2 d h4 h5
 ·obtain rfl:j=n:=by omega
  rw [hy] at h5;cases h5
  by_cases d2:i=j - 1
  ·subst d2;rw [hx] at h4;cases h4;exact hr
  ·exact O.gC _ _ _ hr<|h i (j - 1) u x h1 (by omega) (by omega) h4 hx
theorem RV(a:Array Keyed)(lo hi:Nat)(h:hi<=a.size):Upd a (mirror a lo hi<|(hi - lo) / 2) lo hi:=⟨(mirror_perm _ _ _ _).toList,λi d7=>by rw [HY h,BJ<|by omega]⟩
theorem ny.mirror{a:Array Keyed}{lo hi:Nat}(h:ny r a lo hi)(hs:hi<=a.size):aK r (mirror a lo hi<|(hi - lo) / 2) lo hi:=by
 intro i j x y h1 h2 h3 h4 h5;rw [HY hs,BK<|by omega] at h4 h5;exact h (lo+hi - 1 - j) (lo+hi - 1 - i) y x (by omega) (by omega) (by omega) h5 h4
theorem RW(O:Ord prog w A E s κ a₀ r)(nd:a₀.Nodup){st:SortSt}(B:Bs κ a₀ st){lo cw:Nat}{Q:Option Nat->SortSt->Prop}(h1:1<=cw)(hn:lo+cw<=(arrOf st).size)
  (hQ:∀ m b,1<=m->m<=cw->Upd (arrOf st) b lo (lo+cw)->aK r b lo (lo+m)->Q (some m) (setArr st b)):wpS (model prog w) A E s (countRun' lo cw) Q st:=by
 have at':∀ i,i < (arrOf st).size->∃ x,(arrOf st)[i]?=some x:=λi hi=>⟨_,Bo hi⟩;have rZ:∀ m,1<=m->m<=cw->aK r (arrOf st) lo (lo+m)->Q (some m) st:=λm m1 m2 hs=>hQ m (arrOf st) m1 m2 (Upd.refl _ _ _) hs;unfold countRun';refine BR<|DK (Q:=λc ag=>st=ag/\∃ n,c=(none,n)/\1<=n/\n<=cw/\aK r (arrOf st) lo (lo+n)/\(n=cw\/∀ x y,(arrOf st)[lo+n - 1]?=some x->(arrOf st)[lo+n]?=some y->r y x=true)) (CV (λi c ag=>st=ag/\c=(none,i)/\1<=i/\i<=cw/\aK r (arrOf st) lo (lo+i)) ?_ ?_ ?_) ?_
 ·rintro i c ag g1 g2 ⟨rfl,rfl,g3,g4,g5⟩
  dsimp only
  obtain⟨y,hy⟩:=at' (lo+i) (by omega);obtain⟨x,hx⟩:=at' (lo+i - 1) (by omega);refine BR (oY O nd B hy hx (by omega) ?_);cases hr:r y x with
  | true=>exact BW ⟨rfl,i,rfl,g3,g4,g5,.inr λu v hu hv=>by rw [hx] at hu;rw [hy] at hv;cases hu;cases hv;exact hr⟩
  | false=>exact BW ⟨rfl,rfl,by omega,by omega,g5.more O (by omega) hx hy<|O.flip (B.eC hy) (B.eC hx) (λe=>by subst e;have:=B.uniq nd hx hy;omega) hr⟩
 ·rintro c ag ⟨rfl,rfl,g3,g4,g5⟩;exact⟨rfl,_,rfl,g3,g4,g5,.inl<|by omega⟩
 ·exact⟨rfl,rfl,Af _,h1,λi j x y q1 q2 q3=>by omega⟩
 rintro c ag ⟨rfl,n,rfl,n1,n2,sn,RX⟩
 dsimp only
 by_cases c1:n=cw
 ·rw [BK<|by simpa using c1];exact BW<|rZ n n1 n2 sn
 rw [BJ<|by simpa using c1];have hd:=RX.resolve_left c1
 by_cases c2:n > 1
 ·rw [BK c2];obtain⟨x,hx⟩:=at' lo (by omega);obtain⟨y,hy⟩:=at' (lo+n - 1) (by omega);refine BR (oY O nd B hx hy (by omega) ?_);rw [sn lo (lo+n - 1) x y (Af _) (by omega) (by omega) hx hy];exact BW<|rZ n n1 n2 sn
 rw [BJ c2];obtain rfl:n=1:=by omega
 refine BR<|oQ ?_;refine BR<|DK (Q:=λc ag=>st=ag/\∃ n,c=(none,n,0)/\1<=n/\n<=cw/\ny r (arrOf st) lo (lo+n)) (CV (λi c ag=>st=ag/\c=(none,i,0)/\1<=i/\i<=cw/\ny r (arrOf st) lo (lo+i)) ?_ ?_ ?_) ?_
 ·rintro i c ag g1 g2 ⟨rfl,rfl,g3,g4,g5⟩
  dsimp only
  obtain⟨y,hy⟩:=at' (lo+i) (by omega);obtain⟨x,hx⟩:=at' (lo+i - 1) (by omega);refine BR (oY O nd B hy hx (by omega) ?_);cases hr:r y x with
  | true=>exact BW ⟨rfl,rfl,by omega,by omega,g5.more O (by omega) hx hy hr⟩
  | false=>
   dsimp only
   rw [BJ Aw];refine BR (oY O nd B hx hy (by omega) ?_);rw [O.flip (B.eC hy) (B.eC hx) (λe=>by subst e;have:=B.uniq nd hx hy;omega) hr];exact BW ⟨rfl,i,rfl,g3,g4,g5⟩
 ·rintro c ag ⟨rfl,rfl,g3,g4,g5⟩;exact⟨rfl,_,rfl,g3,g4,g5⟩
 ·refine⟨rfl,rfl,by omega,by omega,λi j x y q1 q2 q3 q4 q5=>?_⟩;obtain rfl:i=lo:=by omega
  obtain rfl:j=i+1:=by omega
  exact hd x y q4 q5
 rintro c ag ⟨rfl,n,rfl,RY,RZ,dn⟩
 dsimp only
 rw [BJ<|Cd 0];refine BR<|wpS_reverse ?_;have u:=RV (arrOf st) lo (lo+n) (by omega);have sm:=dn.mirror (by omega);generalize mirror (arrOf st) lo (lo+n) ((lo+n - lo) / 2)=b at u sm ⊢;have B':=B.upd u;have sz:=u.size;have at2:∀ i,i < b.size->∃ x,b[i]?=some x:=λi hi=>⟨_,Bo hi⟩;refine BR<|DK (Q:=λc ag=>setArr st b=ag/\∃ n,c=(none,n)/\1<=n/\n<=cw/\aK r b lo (lo+n)) (CV (λi c ag=>setArr st b=ag/\c=(none,i)/\1<=i/\i<=cw/\aK r b lo (lo+i)) ?_ ?_ ?_) ?_
 ·rintro i c ag g1 g2 ⟨rfl,rfl,g3,g4,g5⟩
  dsimp only
  obtain⟨y,hy⟩:=at2 (lo+i) (by omega);obtain⟨x,hx⟩:=at2 (lo+i - 1) (by omega);refine BR (oY O nd B' hy hx (by omega) ?_);cases hr:r y x with
  | true=>exact BW ⟨rfl,i,rfl,g3,g4,g5⟩
  | false=>exact BW ⟨rfl,rfl,by omega,by omega,g5.more O (by omega) hx hy<|O.flip (B'.eC hy) (B'.eC hx) (λe=>by subst e;have:=B'.uniq nd hx hy;omega) hr⟩
 ·rintro c ag ⟨rfl,rfl,g3,g4,g5⟩;exact⟨rfl,_,rfl,g3,g4,g5⟩
 ·exact⟨rfl,rfl,RY,RZ,sm⟩
 rintro c ag ⟨rfl,m,rfl,m1,m2,R0⟩;exact BW<|hQ m b m1 m2 (u.wide (Af _)<|by omega) R0
theorem R6(O:Ord prog w A E s κ a₀ r)(nd:a₀.Nodup){st:SortSt}(B:Bs κ a₀ st){lo n ok:Nat}{Q:Bool->SortSt->Prop}(h1:ok<=n)(hn:lo+n<=(arrOf st).size)(hs:aK r (arrOf st) lo<|lo+ok)
  (hQ:∀ b,Upd (arrOf st) b lo (lo+n)->aK r b lo (lo+n)->Q true (setArr st b)):wpS (model prog w) A E s (binarySort' lo n ok) Q st:=by
 unfold binarySort';refine BR<|DK (Q:=λc ag=>∃ b,setArr st b=ag/\c=(none,())/\Upd (arrOf st) b lo (lo+n)/\aK r b lo (lo+n)) (CV (λk c ag=>∃ b,setArr st b=ag/\c=(none,())/\Upd (arrOf st) b lo (lo+n)/\aK r b lo (lo+min k n)) ?_ ?_ ?_) ?_
 ·rintro k c ag k1 k2 ⟨b,rfl,rfl,u,sb⟩;rw [show min k n=k by omega] at sb;have B':=B.upd u;have sz:=u.size;have at2:∀ i,i < b.size->∃ x,b[i]?=some x:=λi hi=>⟨_,Bo hi⟩;obtain⟨y,hy⟩:=at2 (lo+k) (by omega);refine BR<|DK (Q:=λc ag=>setArr st b=ag/\∃ l,c=(none,l,l)/\l<=k/\(∀ i x,lo<=i->i < lo+l->b[i]?=some x->r x y=true)/\(∀ i x,lo+l<=i->i < lo+k->b[i]?=some x->r y x=true)) (CV (λi c ag=>setArr st b=ag/\∃ l h,c=(none,l,h)/\l<=h/\h<=k/\h - l+i<=k/\(∀ i x,lo<=i->i < lo+l->b[i]?=some x->r x y=true)/\(∀ i x,lo+h<=i->i < lo+k->b[i]?=some x->r y x=true)) ?_ ?_ ?_) ?_
  ·rintro i c ag g1 g2 ⟨rfl,l,h,rfl,g3,g4,g5,g6,g7⟩
   dsimp only
   by_cases c1:l>=h
   ·rw [BK c1];obtain rfl:l=h:=by omega
    exact BW ⟨rfl,l,rfl,g4,g6,g7⟩
   rw [BJ c1];obtain⟨x,hx⟩:=at2 (lo+(l+h) / 2) (by omega);refine BR (oY O nd B' hy hx (by omega) ?_);cases hr:r y x with
   | true=>
    refine BW ⟨rfl,l,(l+h) / 2,rfl,by omega,by omega,by omega,g6,λj z j1 j2 j3=>?_⟩
    by_cases d:j=lo+(l+h) / 2
    ·subst d;rw [hx] at j3;cases j3;exact hr
    ·exact O.gC _ _ _ hr<|sb _ j x z (by omega) (by omega) j2 hx j3
   | false=>
    have rD:=O.flip (B'.eC hy) (B'.eC hx) (λe=>by subst e;have:=B'.uniq nd hx hy;omega) hr;refine BW ⟨rfl,(l+h) / 2+1,h,rfl,by omega,by omega,by omega,λj z j1 j2 j3=>?_,g7⟩
    by_cases d:j=lo+(l+h) / 2
    ·subst d;rw [hx] at j3;cases j3;exact rD
    ·exact O.gC _ _ _ (sb j _ z x (by omega) (by omega) (by omega) j3 hx) rD
  ·rintro c ag ⟨rfl,l,h,rfl,g3,g4,g5,g6,g7⟩;obtain rfl:l=h:=by omega
   exact⟨rfl,l,rfl,g4,g6,g7⟩
  ·exact⟨rfl,0,k,rfl,by omega,by omega,by omega,λi x q1 q2=>by omega,λi x q1 q2=>by omega⟩
  rintro c ag ⟨rfl,l,rfl,g4,g6,g7⟩
  dsimp only
  have bu:Upd b (bubble b (lo+k)<|lo+k - (lo+l)) lo (lo+n):=⟨(bubble_perm _ _ _).toList,λi hi=>by rw [getElem?_bubble (by omega) _ (by omega),BJ (by omega),BJ<|by omega]⟩;have bs:aK r (bubble b (lo+k)<|lo+k - (lo+l)) lo (lo+(k+1)):=by
   intro i j x z i1 i2 i3 i4 i5;rw [getElem?_bubble (by omega) _<|by omega] at i4 i5;rw [show lo+k - (lo+k - (lo+l))=lo+l by omega] at i4 i5
   by_cases d1:i=lo+l
   ·rw [BK d1,hy] at i4;cases i4;rw [BJ (by omega),BK<|by omega] at i5;exact g7 (j - 1) z (by omega) (by omega) i5
   rw [BJ d1] at i4
   by_cases d2:j=lo+l
   ·rw [BK d2,hy] at i5;cases i5;rw [BJ<|by omega] at i4;exact g6 i x i1 (by omega) i4
   rw [BJ d2] at i5
   by_cases d3:lo+l < i
   ·rw [BK<|by omega] at i4 i5;exact sb (i - 1) (j - 1) x z (by omega) (by omega) (by omega) i4 i5
   rw [BJ<|by omega] at i4
   by_cases d4:lo+l < j
   ·rw [BK<|by omega] at i5;exact sb i (j - 1) x z (by omega) (by omega) (by omega) i4 i5
   ·rw [BJ<|by omega] at i5;exact sb i j x z (by omega) (by omega) (by omega) i4 i5
  refine BR<|HF ?_;exact BW ⟨_,rfl,rfl,u.trans bu,by rw [show min (k+1) n=k+1 by omega];exact bs⟩
 ·rintro c ag ⟨b,rfl,rfl,u,sb⟩;exact⟨b,rfl,rfl,u,by rw [show min (max (max ok 1) n) n=n by omega] at sb;exact sb⟩
 ·refine⟨arrOf st,rfl,rfl,Upd.refl _ _ _,λi j x y q1 q2 q3 q4 q5=>?_⟩
  by_cases d:ok=0
  ·omega
  ·exact hs i j x y q1 q2 (by omega) q4 q5
 ·rintro c ag ⟨b,rfl,rfl,u,sb⟩;exact BW<|hQ b u sb
end
def Runs(r:Keyed->Keyed->Bool)(a:Array Keyed):Nat->Nat->List (Nat×Nat×Nat)->Prop
 | lo,hi,[]=>lo=hi
 | lo,hi,x :: ps=>x.1=lo/\0 < x.2.1/\aK r a lo (lo+x.2.1)/\Runs r a (lo+x.2.1) hi ps
section
variable{prog:Program}{w:World}{A:Around}{E:Value->Shared->Prop}{s:Shared}{κ:SortKind}{a₀:List Keyed}{r:Keyed->Keyed->Bool}{a b:Array Keyed}
theorem Runs.le:∀{ps:List (Nat×Nat×Nat)} {lo hi:Nat},Runs r a lo hi ps->lo+ps.length<=hi
 | [],lo,hi,h=>JT h
 | x :: ps,lo,hi,h=>by
  have:=Runs.le h.2.2.2;have:=h.2.1;rw [As];omega
theorem Runs.app:∀{ps qs:List (Nat×Nat×Nat)} {lo hi:Nat},Runs r a lo hi (ps++qs)->∃ m,Runs r a lo m ps/\Runs r a m hi qs
 | [],qs,lo,hi,h=>⟨lo,rfl,h⟩
 | x :: ps,qs,lo,hi,h=>by
  obtain⟨m,h1,h2⟩:=Runs.app (ps:=ps) h.2.2.2;exact⟨m,⟨h.1,h.2.1,h.2.2.1,h1⟩,h2⟩
theorem Runs.cat:∀{ps qs:List (Nat×Nat×Nat)} {lo m hi:Nat},Runs r a lo m ps->Runs r a m hi qs->Runs r a lo hi (ps++qs)
 | [],qs,lo,m,hi,h,k=>by cases h;exact k
 | x :: ps,qs,lo,m,hi,h,k=>⟨h.1,h.2.1,h.2.2.1,Runs.cat h.2.2.2 k⟩
theorem Runs.upd:∀{ps:List (Nat×Nat×Nat)} {lo hi jw d7:Nat},Runs r a lo hi ps->Upd a b jw d7->hi<=jw\/d7<=lo->Runs r b lo hi ps
 | [],lo,hi,jw,d7,h,u,d=>h
 | x :: ps,lo,hi,jw,d7,h,u,d=>by
  have:=Runs.le h.2.2.2;exact⟨h.1,h.2.1,h.2.2.1.upd u (by omega),Runs.upd h.2.2.2 u<|by omega⟩
theorem Runs.same:∀{ps qs:List (Nat×Nat×Nat)} {lo hi:Nat},ps.map (λx=>(x.1,x.2.1))=qs.map (λx=>(x.1,x.2.1))->Runs r a lo hi ps->Runs r a lo hi qs
 | [],[],lo,hi,_,h=>h
 | [],_ :: _,_,_,e,_=>by cases e
 | _ :: _,[],_,_,e,_=>by cases e
 | x :: ps,y :: qs,lo,hi,e,h=>by
  obtain⟨e1,e2⟩:=List.cons.inj e;have q1:x.1=y.1:=(Prod.mk.inj e1).1;have q2:x.2.1=y.2.1:=(Prod.mk.inj e1).2;exact⟨q1 ▸ h.1,q2 ▸ h.2.1,q2 ▸ h.2.2.1,q2 ▸ Runs.same e2 h.2.2.2⟩
theorem Runs.zp{ps:List (Nat×Nat×Nat)}{n:Nat}(h:Runs r a 0 n ps)(hl:ps.length<=1):aK r a 0 n:=by
 match ps,h,hl with
 | [],h,_=>cases h;exact λi j x y h1 h2 h3=>by omega
 | [x],h,_=>
  have e:0+x.2.1=n:=h.2.2.2;have:=h.2.2.1;rw [e] at this;exact this
 | _ :: _ :: _,_,hl=>simp at hl
theorem IH(O:Ord prog w A E s κ a₀ r)(nd:a₀.Nodup){st:SortSt}(B:Bs κ a₀ st){i hi:Nat}{Q:Bool->SortSt->Prop}(k4:i+1 < (pendingOf st).size)(R:Runs r (arrOf st) 0 hi (pendingOf st).toList)(hh:hi<=(arrOf st).size)
  (hQ:∀ ag,Bs κ a₀ ag->Runs r (arrOf ag) 0 hi (pendingOf ag).toList->(pendingOf ag).size+1=(pendingOf st).size->Upd (arrOf st) (arrOf ag) 0 hi->Q true ag):wpS (model prog w) A E s (mergeAt' i) Q st:=by
 have pl:(pendingOf st).toList.length=(pendingOf st).size:=Al;obtain⟨P1,x,y,P2,e,el⟩:∃ P1 x y P2,(pendingOf st).toList=P1++x :: y :: P2/\P1.length=i:=by
  refine⟨(pendingOf st).toList.take i,(pendingOf st).toList[i]'(by omega),(pendingOf st).toList[i+1]'(by omega),(pendingOf st).toList.drop<|i+2,?_,by rw [Aq];omega⟩;rw [<- Cn,<- Cn,Cc]
 have eA:pendingOf st=List.toArray (P1++x :: y :: P2):=by rw [<- e]
 rw [e] at R;obtain⟨m,R1,rfl,x1,x2,y0,y1,y2,R2⟩:=R.app;obtain⟨sa,na,pw⟩:=x;obtain⟨sb,nb,vo⟩:=y;have l1:=R1.le;have l2:=R2.le
 dsimp only at x1 x2 y0 y1 y2 R2 l2 l1 R1
 have g1:(pendingOf st)[i]?=some (sa,na,pw):=by rw [<- Ap,e,Ay (by omega),el,Ey];rfl
 have g2:(pendingOf st)[i+1]?=some (sb,nb,vo):=by rw [<- Ap,e,Ay (by omega),el,Ep];rfl
 refine RO O nd B g1 g2 y0 x1 y1 (by omega) (by rw [y0];exact x2) (by rw [y0];exact y2) λag B' ep u so=>?_;have II:(pendingOf ag).toList=P1++(sa,na+nb,pw) :: P2:=by
  rw [ep,Array.toList_eraseIdxIfInBounds,JH,e];subst el;rw [List.set_append_right _ _<|Af _,Ey,List.set_cons_zero,List.eraseIdx_append_of_length_le (by omega),Ep];rfl
 refine hQ ag B' ?_ ?_<|u.wide (Bw _)<|by omega
 ·rw [II];refine Runs.cat (R1.upd u<|.inl<|Af _) ⟨rfl,by show 0 < na+nb;omega,?_,?_⟩
  ·show aK r (arrOf ag) sa (sa+(na+nb));rw [show sa+(na+nb)=sb+nb by omega];exact so
  ·show Runs r (arrOf ag) (sa+(na+nb)) hi P2;rw [show sa+(na+nb)=sa+na+nb by omega];exact R2.upd u<|.inr<|by omega
 ·rw [<- Al,II,<- pl,e,Ae,Ae,As,As,As];rfl
theorem ite_le(c:Prop) [Decidable c] (n:Nat):(if c then n - 1 else n)<=n:=by
 by_cases h:c
 ·rw [BK h];omega
 ·rw [BJ h];exact Af _
theorem R7{p:Array (Nat×Nat×Nat)}{i:Nat}{f:Nat×Nat×Nat->Nat×Nat×Nat}(hf:∀ x,((f x).1,(f x).2.1)=(x.1,x.2.1)):p.toList.map (λx=>(x.1,x.2.1))=(p.modify i f).toList.map (λx=>(x.1,x.2.1)):=by
 apply Ct;intro j;rw [Array.toList_modify,Ad,Ad,List.getElem?_modify];cases p.toList[j]? with
 | none=>by_cases c:i=j <;> simp [c]
 | some x=>
  by_cases c:i=j
  ·have:(λa:Nat×Nat×Nat=>if i=j then f a else a)=f:=funext λ_=>BK c;rw [this];exact CJ some (hf x).symm
  ·have:(λa:Nat×Nat×Nat=>if i=j then f a else a)=id:=funext λ_=>BJ c;rw [this];rfl
theorem R8(O:Ord prog w A E s κ a₀ r)(nd:a₀.Nodup){st:SortSt}(B:Bs κ a₀ st)(h0:pendingOf st=#[]){Q:Unit->SortSt->Prop}
  (hQ:∀ ag,Bs κ a₀ ag->aK r (arrOf ag) 0 (arrOf ag).size->Q () ag):wpS (model prog w) A E s sortRuns' Q st:=by
 unfold sortRuns';refine BR<|GJ ?_;have se:∀{ag},Bs κ a₀ ag->(arrOf ag).size=(arrOf st).size:=λ{ag} B'=>by
  have h1:=B'.perm.length_eq;have h2:=B.perm.length_eq;rw [Al] at h1 h2;omega
 generalize hN:(arrOf st).size=N at se
 dsimp only
 obtain⟨mr,IJ⟩:∃ mr,mr=minRun' N N 0:=⟨_,rfl⟩;unfold minRun' at IJ;rw [<- IJ];refine BR<|DK (Q:=λc ag=>c=(none,N)/\Bs κ a₀ ag/\Runs r (arrOf ag) 0 N (pendingOf ag).toList) (CV (λi c ag=>∃ lo,c=(none,lo)/\i<=lo/\lo<=N/\Bs κ a₀ ag/\Runs r (arrOf ag) 0 lo (pendingOf ag).toList) ?_ ?_ ?_) ?_
 ·rintro i c ag _ hi ⟨lo,rfl,g1,g2,B',R⟩;have sz:=se B'
  dsimp only
  by_cases c1:lo>=N
  ·rw [BK c1];obtain rfl:lo=N:=by omega
   exact BW ⟨rfl,B',R⟩
  rw [BJ c1];refine BR (RW O nd B' (by omega) (by omega) λm b m1 m2 u so=>?_);have B1:=B'.upd u;have R1:Runs r b 0 lo (pendingOf ag).toList:=R.upd u<|.inl<|Af _;have R9:b.size=N:=u.size.trans sz;obtain⟨k7,kb⟩:∃ k7,k7=setArr ag b:=⟨_,rfl⟩;have a1:arrOf k7=b:=by rw [kb]
  have p1:pendingOf k7=pendingOf ag:=by rw [kb]
  rw [<- kb] at B1 ⊢;rw [<- a1] at R1 so R9;rw [<- p1] at R1;clear kb a1 p1 u
  dsimp only
  by_cases c2:m < mr
  case' pos=>
   rw [BK c2];refine BR<|oQ ?_;refine BR (R6 O nd B1 (by omega) (by omega) so λb2 u2 IL=>?_);have S2:=IL;have n1:1<=min (N - lo) (mr):=by omega
   have n2:lo+min (N - lo) (mr)<=N:=by omega
   have B2:=B1.upd u2;have R2:Runs r b2 0 lo (pendingOf k7).toList:=R1.upd u2<|.inl<|Af _;obtain⟨aY,dO⟩:∃ aY,aY=setArr k7 b2:=⟨_,rfl⟩;have a2:arrOf aY=b2:=by rw [dO]
   have p2:pendingOf aY=pendingOf k7:=by rw [dO]
   rw [<- dO] at B2 ⊢;rw [<- a2,<- p2] at R2;rw [<- a2] at S2;clear dO a2 p2 u2 IL c2;generalize min (N - lo) (mr)=n at S2 n1 n2 ⊢;rw [BJ<|by decide]
  case' neg=>
   rw [BJ c2];obtain⟨n,hn⟩:∃ n,n=m:=⟨_,rfl⟩;have n1:1<=n:=by omega
   have n2:lo+n<=N:=by omega
   rw [<- hn] at so ⊢;obtain⟨aY,dO⟩:∃ aY,aY=k7:=⟨_,rfl⟩;have B2:Bs κ a₀ aY:=by rw [dO];exact B1
   have R2:Runs r (arrOf aY) 0 lo (pendingOf aY).toList:=by rw [dO];exact R1
   have S2:aK r (arrOf aY) lo (lo+n):=by rw [dO];exact so
   rw [<- dO];clear dO hn
  all_goals
   refine BR<|GJ ?_;have push:∀ bg:SortSt,Bs κ a₀ bg->Runs r (arrOf bg) 0 lo (pendingOf bg).toList->aK r (arrOf bg) lo (lo+n)->Runs r (arrOf bg) 0 (lo+n) ((pendingOf bg).push (lo,n,0)).toList:=λbg B3 R3 S3=>by
    rw [Dx];exact R3.cat ⟨rfl,n1,S3,rfl⟩
   cases hb:(pendingOf aY).back? with
   | none=>
    dsimp only
    exact BR<|HF<|BW ⟨lo+n,rfl,by omega,n2,⟨B2.kind,B2.failed,B2.perm⟩,push aY B2 R2 S2⟩
   | some q=>
    obtain⟨s1,zq,U3⟩:=q
    dsimp only
    obtain⟨pw,IM⟩:∃ pw,pw=power' N (2 * s1+zq) (2 * s1+zq+zq+n) N:=⟨_,rfl⟩;unfold power' at IM;rw [<- IM];refine BR<|DK (Q:=λc bg=>c=(none,())/\Bs κ a₀ bg/\Runs r (arrOf bg) 0 lo (pendingOf bg).toList/\aK r (arrOf bg) lo (lo+n)) (CV (λi c bg=>c=(none,())/\Bs κ a₀ bg/\Runs r (arrOf bg) 0 lo (pendingOf bg).toList/\aK r (arrOf bg) lo (lo+n)) ?_ ?_ ?_) ?_
    ·rintro i c bg _ _ ⟨rfl,B3,R3,S3⟩;refine BR<|GJ ?_
     by_cases c3:(pendingOf bg).size > 1
     ·rw [BK c3];cases hq:(pendingOf bg)[(pendingOf bg).size - 2]? with
      | none=>exact BW ⟨rfl,B3,R3,S3⟩
      | some q=>
       obtain⟨q1,q2,sf⟩:=q
       dsimp only
       by_cases c4:sf<=pw
       ·rw [BK c4];exact BW ⟨rfl,B3,R3,S3⟩
       ·rw [BJ c4];refine BR (IH O nd B3 (show(pendingOf bg).size - 2+1 < (pendingOf bg).size by omega) R3 (by rw [se B3];omega) λmF B4 R4 _ u4=>?_);rw [BJ<|by decide];exact BW ⟨rfl,B4,R4,S3.upd u4<|.inr<|Af _⟩
     ·rw [BJ c3];exact BW ⟨rfl,B3,R3,S3⟩
    ·rintro c bg h;exact h
    ·exact⟨rfl,B2,R2,S2⟩
    rintro c bg ⟨rfl,B3,R3,S3⟩
    dsimp only
    refine BR<|HF ?_;refine BR (HF<|BW ⟨lo+n,rfl,by omega,n2,⟨B3.kind,B3.failed,B3.perm⟩,?_⟩);have R5:Runs r (arrOf bg) 0 lo ((pendingOf bg).modify ((pendingOf bg).size - 1) λ(x:Nat×Nat×Nat)=>match x with | (st,len,_)=>(st,len,pw)).toList:=Runs.same (R7 λx=>rfl) R3;exact push (setPending bg<|(pendingOf bg).modify ((pendingOf bg).size - 1) λ(x:Nat×Nat×Nat)=>match x with | (st,len,_)=>(st,len,pw)) ⟨B3.kind,B3.failed,B3.perm⟩ R5 S3
 ·rintro c ag ⟨lo,rfl,g1,g2,B',R⟩;obtain rfl:lo=N:=by omega
  exact⟨rfl,B',R⟩
 ·exact⟨0,rfl,Af _,Bw _,B,by rw [h0];rfl⟩
 rintro c ag ⟨rfl,B',R⟩
 dsimp only
 refine BR<|DK (Q:=λc ag=>c=(none,())/\Bs κ a₀ ag/\Runs r (arrOf ag) 0 N (pendingOf ag).toList/\(pendingOf ag).size<=1) (CV (λi c ag=>c=(none,())/\Bs κ a₀ ag/\Runs r (arrOf ag) 0 N (pendingOf ag).toList/\(pendingOf ag).size+i<=N) ?_ ?_ ?_) ?_
 ·rintro i c aY _ hi ⟨rfl,B2,R2,l2⟩;have U4:=se B2;refine BR<|GJ ?_
  by_cases c2:(pendingOf aY).size<=1
  ·rw [BK c2];exact BW ⟨rfl,B2,R2,c2⟩
  rw [BJ c2];have go:∀ k,k+1 < (pendingOf aY).size->wpS (model prog w) A E s (mergeAt' k) (λb bg=>b=true/\Bs κ a₀ bg/\Runs r (arrOf bg) 0 N (pendingOf bg).toList/\(pendingOf bg).size+1=(pendingOf aY).size) aY:=λk hk=>IH O nd B2 hk R2 (by omega) λbg B3 R3 e3 _=>⟨rfl,B3,R3,e3⟩;refine BR<|DK (go _ ?_) ?_
  ·exact JC (Nat.add_le_add_right (ite_le _ _) 1) (show(pendingOf aY).size - 2+1 < (pendingOf aY).size by omega)
  ·rintro b bg ⟨rfl,B3,R3,e3⟩;exact BW ⟨rfl,B3,R3,by omega⟩
 ·rintro c aY ⟨rfl,B2,R2,l2⟩;exact⟨rfl,B2,R2,by omega⟩
 ·refine⟨rfl,B',R,?_⟩;have:=R.le;rw [Al] at this;omega
 rintro c aY ⟨rfl,B2,R2,l2⟩;refine BW<|hQ _ B2 ?_;rw [se B2];exact R2.zp<|by rw [Al];exact l2
end
end Ik
namespace bW
open PySem PySem.W PyProof.Rows PySem.SeqAt Ik
theorem IP{α β:Type}{f:α->β}{l k:List β}(h:l.Perm k):∀ m:List α,k=m.map f->∃ m':List α,m'.Perm m/\l=m'.map f:=by
 induction h with
 | nil=>exact λm e=>⟨m,List.Perm.refl _,e⟩
 | cons x _ ih=>
  intro m e;cases m with
  | nil=>cases e
  | cons y m=>
   obtain⟨e1,e2⟩:=List.cons.inj e;obtain⟨m',p,q⟩:=ih m e2;exact⟨y :: m',p.cons y,by rw [Bq,<- e1,<- q]⟩
 | swap x y l=>
  intro m e
  match m,e with
  | p :: q :: m,e=>
   obtain⟨e1,e2⟩:=List.cons.inj e;obtain⟨e3,e4⟩:=List.cons.inj e2;exact⟨q :: p :: m,List.Perm.swap _ _ _,by rw [Bq,Bq,<- e1,<- e3,<- e4]⟩
 | trans _ _ yg iR=>
  intro m e;obtain⟨m1,p1,q1⟩:=iR m e;obtain⟨m2,p2,q2⟩:=yg m1 q1;exact⟨m2,p2.trans p1,q2⟩
theorem Sb{xs:Array Value}{z u:List Str}(h:SX xs z)(k:SX xs u):z=u:=by
 refine JV (by rw [<- h.1,<- k.1]) λi h1 h2=>?_;obtain⟨t,e⟩:=h.2 i (by rw [h.1];exact h1) h1;obtain⟨t',e'⟩:=k.2 i (by rw [h.1];exact h1) h2;rw [e] at e';exact(Value.str.inj e').1
theorem vp{h:Heap}{v:Value}{z u:List Str}(a:j6 h v z)(b:j6 h v u):z=u:=by
 obtain⟨a,o,xs,n,rfl,h1,h2,h3,h4⟩:=a;obtain⟨a',o',uV,n',e,g1,g2,g3,g4⟩:=b;cases e;rw [h1] at g1;cases g1;rw [h3] at g3;cases g3;exact Sb h4 g4
theorem k8{h:Heap}{vs:List Value}{zs:List (List Str)}(hh:eg h vs zs){v:Value}{z:List Str}(m:(v,z)∈vs.zip zs):j6 h v z:=by
 obtain⟨i,hi⟩:=At m;rw [Cy] at hi;exact hh.2 i v z hi.1 hi.2
noncomputable def rL(vs:List Value)(zs:List<|List Str)(x y:Keyed):Bool:=@decide (∃ z u,(x.1,z)∈vs.zip zs/\(y.1,u)∈vs.zip zs/\aJ z u=true) (Classical.propDecidable _)
theorem cM{vs:List Value}{zs:List (List Str)}{x y:Keyed}:rL vs zs x y=true↔∃ z u,(x.1,z)∈vs.zip zs/\(y.1,u)∈vs.zip zs/\aJ z u=true:=by
 unfold rL;exact @decide_eq_true_iff _<|Classical.propDecidable _
section
variable{prog:Program}{w:World}{A:Around}{E:Value->Shared->Prop}{s:Shared}
theorem sh{h:Heap}{vs:List Value}{zs:List (List Str)}(hh:eg h vs zs){x y:Keyed}{z u:List Str}(hx:(x.1,z)∈vs.zip zs)(hy:(y.1,u)∈vs.zip zs):rL vs zs x y=aJ z u:=by
 cases c:aJ z u with
 | true=>exact cM.mpr ⟨z,u,hx,hy,c⟩
 | false=>
  refine Bool.eq_false_iff.mpr λq=>?_;obtain⟨z',u',a,b,e⟩:=cM.mp q;rw [vp (k8 hh a)<|k8 hh hx,vp (k8 hh b)<|k8 hh hy,c] at e;cases e
theorem IQ{vs:List Value}{zs:List (List Str)}(hl:vs.length=zs.length):vs.zip vs=(vs.zip zs).map λq=>(q.1,q.1):=by
 apply Ct;intro i
 by_cases c:i < vs.length
 ·rw [Aa (by rw [Dg];omega),Aa (by rw [Ab,Dg];omega),Gm,JW,Gm]
 ·rw [Br (by rw [Dg];omega),Br<|by rw [Ab,Dg];omega]
theorem Sd{vs:List Value}{zs:List (List Str)}(hA:A.units < cLine)(hh:eg s.heap vs zs)(hn:zs.Nodup):Ord prog w A E s oneType' (vs.zip vs) (rL vs zs):=by
 have mem:∀{x:Keyed},x∈vs.zip vs->∃ z,(x.1,z)∈vs.zip zs/\x=(x.1,x.1):=λ{x} hx=>by
  rw [IQ hh.1] at hx;obtain⟨q,hq,rfl⟩:=Ak.mp hx;exact⟨q.2,hq,rfl⟩
 have inj:∀{v u:Value} {z:List Str},(v,z)∈vs.zip zs->(u,z)∈vs.zip zs->v=u:=λ{v u z} h1 h2=>by
  obtain⟨i,hi⟩:=At h1;obtain⟨j,hj⟩:=At h2;rw [Cy] at hi hj;have:i=j:=(Gg (Ac.mp hi.2).1 hn).mp (by rw [hi.2,hj.2]);subst this;exact Option.some.inj<|hi.1.symm.trans hj.1
 refine⟨λx y st Q hx hy ne hk hQ=>?_,λx hx y hy ne=>?_,λx y h=>?_,λx y z h1 h2=>?_⟩
 ·obtain⟨z,hz,ex⟩:=mem hx;obtain⟨u,hu,ey⟩:=mem hy;rw [sh hh hz hu] at hQ;rw [lt'_eq];refine BR<|GJ ?_;rw [hk];refine BR<|wpS_lift<|wpAny_attempt<|RC hA (k8 hh hz) (k8 hh hu) ⟨rfl,?_⟩;exact BW hQ
 ·obtain⟨z,hz,ex⟩:=mem hx;obtain⟨u,hu,ey⟩:=mem hy;rw [sh hh hz hu,sh hh hu hz];exact Ig λe=>ne<|by subst e;rw [ex,ey,inj hz hu]
 ·obtain⟨z,u,a,b,c⟩:=cM.mp h;rw [sh hh b a];exact rO c
 ·obtain⟨p,q,a,b,c⟩:=cM.mp h1;obtain⟨q',t,a',b',c'⟩:=cM.mp h2;rw [vp (k8 hh a')<|k8 hh b] at c';exact cM.mpr ⟨p,t,a,b',Ih c c'⟩
theorem Se{h:Heap}{vs:List Value}{zs:List (List Str)}(hh:eg h vs zs)(hn:zs.Nodup):(vs.zip vs).Nodup:=by
 rw [Bj,Bd];intro i j hi hj cX e;rw [Dg] at hi hj;have hl:=hh.1;rw [Gm,Gm] at e;have e1:vs[i]'(by omega)=vs[j]'(by omega):=(Prod.mk.inj e).1;have a:=hh.2 i _ _ (Aa<|by omega) (Aa<|by omega);have b:=hh.2 j _ _ (Aa<|by omega) (Aa<|by omega);rw [e1] at a;exact Bd.mp (Bj.mp hn) i j (by omega) (by omega) cX<|vp a b
theorem Sf{a:Addr}{vs:List Value}{zs:List (List Str)}{n:Nat}{P:PySem.Fin->Shared->Prop}(hA:A.units < cLine)(ho:s.heap.get? a=some (seqObj "list" vs.toArray n))(jP:∀ v∈vs,v ≠ .ref a)(hh:eg s.heap vs zs)(hn:zs.Nodup)(jQ:vs.length<=sizeLine)
  (h:∀ us:List<|Value×List Str,us.Perm (vs.zip zs)->us.Pairwise (λx y=>aJ x.2 y.2=true)->P (.done<|.ret .none) {s with heap:=sortedHeap s.heap a vs (List.toArray<|us.map λx=>x.1)}) :
  wpAny (model prog w) A (Builtin.«list.sort» ⟨[.ref a],[]⟩) P E s:=by
 rw [list_sort_plain];have ha:a < s.heap.objs.size:=Bb ho;refine BP<|listItems_at ho rfl ?_;refine BP<|FZ ho rfl ?_;obtain⟨e1,qF⟩:∃ e1,(s.heap.update a<|Obj.mapSeq λ_=>#[]).get? a=some (seqObj "list" #[] e1):=⟨_,get?_update_seq ho λ_=>#[]⟩;refine BP<|HW qF rfl ?_;refine BP<|wpAny_newTuple ?_;refine BP<|JG ?_;refine DG ?_;have jR:(((s.heap.update a<|Obj.mapSeq λ_=>#[]).push<|seqObj "tuple" vs.toArray 0).push<|seqObj "list" #[] 0).get? a=some (seqObj "list" #[] e1):=Aj _<|Aj _ qF;show wpAny (model prog w) A _ P E {s with heap:=((s.heap.update a<|Obj.mapSeq λ_=>#[]).push<|seqObj "tuple" vs.toArray 0).push (seqObj "list" #[] 0)};have mQ:eg (((s.heap.update a<|Obj.mapSeq λ_=>#[]).push<|seqObj "tuple" vs.toArray 0).push<|seqObj "list" #[] 0) vs zs:=⟨hh.1,λi v z h1 h2=>(hh.2 i v z h1 h2).keep λb o e q=>by
  have hb:a≠b:=λe2=>jP v (Au h1) (by rw [e,e2]);exact Aj _<|Aj _<|(Bx _ _ hb).trans q⟩
 dsimp only
 have hsz:vs.toArray.size=vs.length:=by simp
 have zm:(vs.zip zs).map (λx=>x.1)=vs:=KC<|JT hh.1
 by_cases h2:vs.toArray.size < 2
 ·rw [BK h2,BK h2];refine BP<|BX ?_;rw [StateT.run_pure];refine BP<|BX ?_
  dsimp only
  have e5:(arrOf<|SortSt.mk' general' (vs.toArray.zip vs.toArray) #[] 7 none).map (·.2)=vs.toArray:=by
   show(vs.toArray.zip vs.toArray).map (·.2)=_;apply Fq.mp;simp [Fs]
  refine BP<|HW jR rfl ?_;refine BP (FZ jR rfl ?_ (hsz2:=by rw [e5,hsz];omega));simp only [HS,Ec,DW];refine BX ?_;rw [e5];have fin:=h (vs.zip zs) (List.Perm.refl _)<|by
   rw [Bd];intro i j hi hj cX;rw [Dg] at hi hj;rw [hsz] at h2;omega
  rw [zm] at fin;exact fin
 ·rw [BJ h2,BJ h2];rw [hsz] at h2;refine BP<|kas_kind (T:= .type "list") (by omega) (λv hv=>?_) (by decide) (by decide) ?_
  ·obtain⟨i,hi⟩:=At hv;have qG:i < zs.length:=by have:=(Ac.mp hi).1;have:=hh.1;omega
   obtain⟨b,o,xs,n,rfl,q1,q2,_⟩:=mQ.2 i v zs[i] hi<|Aa qG;have lk:Looks (model prog w) (((s.heap.update a<|Obj.mapSeq λ_=>#[]).push<|seqObj "tuple" vs.toArray 0).push<|seqObj "list" #[] 0) (typeOf<|.ref b) o.cls:=(Looks.ld q1).andThen .now;rw [q2] at lk;exact lk
  have ez:(vs.toArray.zip vs.toArray).toList=vs.zip vs:=by rw [Array.toList_zip]
  have bI:=R8 (prog:=prog) (w:=w) (A:=A) (E:=E) (s:={s with heap:=((s.heap.update a<|Obj.mapSeq λ_=>#[]).push<|seqObj "tuple" vs.toArray 0).push (seqObj "list" #[] 0)}) (Sd hA mQ hn) (Se mQ hn) (st:=SortSt.mk' oneType' (vs.toArray.zip vs.toArray) #[] 7 none) ⟨rfl,rfl,by show(vs.toArray.zip vs.toArray).toList.Perm _;rw [ez]⟩ rfl
   (Q := λ_ ag => failedOf ag = none ∧ ∃ us : List<|Value × List Str, us.Perm (vs.zip zs) ∧ us.Pairwise (λx y => aJ x.2 y.2 = true) ∧ (arrOf ag).toList = us.map λq => (q.1, q.1)) (λag B S => by
    refine⟨B.failed,?_⟩;obtain⟨us,p,e⟩:=IP B.perm (vs.zip zs)<|IQ hh.1;refine⟨us,p,?_,e⟩;have sl:=S.list;rw [<- Al,Bi,LR,e,Dw] at sl;exact sl.imp_of_mem λ{x y} hx hy q=>by
     rw [sh (x:=(x.1,x.1)) (y:=(y.1,y.1)) mQ (p.mem_iff.mp hx)<|p.mem_iff.mp hy] at q;exact q)
  refine BP<|CP bI ?_ λ_ _ e=>e;rintro ⟨⟨⟩,ag⟩ s' ⟨rfl,hf,us,p,sp,uL⟩
  dsimp only at uL hf ⊢
  have e3:(arrOf ag).map (·.2)=List.toArray (us.map λx=>x.1):=by
   apply Fq.mp;rw [Array.toList_map,uL,Be];rfl
  have ul:us.length=vs.length:=by rw [p.length_eq,Dg,<- hh.1,Nat.min_self]
  refine BP<|HW jR rfl ?_;refine BP (FZ jR rfl ?_ (hsz2:=by rw [e3,Av,Ab,ul];omega));rw [hf];simp only [HS,Ec,DW];refine BX ?_;rw [e3];exact h us p sp
theorem Sg{l:Addr}{vs:List Value}{zs:List (List Str)}{Q:Value->Shared->Prop}(hA:A.units+8 < cLine)(hl:s.heap.IsList l vs.toArray)(hh:eg s.heap vs zs)(hn:zs.Nodup)(jQ:vs.length<=sizeLine)
  (h:∀(h':Heap) (e:Nat) (us:List<|Value×List Str),us.Perm (vs.zip zs)->us.Pairwise (λx y=>aJ x.2 y.2=true)->(∀ b u,s.heap.get? b=some u->h'.get? b=some u)->h'.get? (s.heap.objs.size+1)=some (seqObj "list" (List.toArray<|us.map λx=>x.1) e)->Q (.ref<|s.heap.objs.size+1) {s with heap:=h'}) :
  wpAny (model prog w) A (call (.builtin "sorted") [.ref l]) Q E s:=by
 refine Calls.call_function_entry kind_sorted plain_sorted entry_sorted (args_sorted1 _) ?_;unfold Builtin.«sorted»;refine BP (m:=checkCount "sorted" 1 1 _)<|BX ?_;refine BP<|collect_list (vs:=vs) hl ?_;refine BP<|JG ?_;have hsz:((s.heap.push<|seqObj "list" #[] 0).update s.heap.objs.size (Obj.mapSeq (·++vs.toArray))).objs.size=s.heap.objs.size+1:=by
  rw [Heap.size_update,size_push']
 have kz:(((s.heap.push<|seqObj "list" #[] 0).update s.heap.objs.size (Obj.mapSeq (·++vs.toArray))).push<|seqObj "list" vs.toArray 0).get? (s.heap.objs.size+1)=some (seqObj "list" vs.toArray 0):=by
  rw [<- hsz];exact Bt _ rfl
 have yb:eg (((s.heap.push<|seqObj "list" #[] 0).update s.heap.objs.size (Obj.mapSeq (·++vs.toArray))).push<|seqObj "list" vs.toArray 0) vs zs:=⟨hh.1,λi v z h1 h2=>(hh.2 i v z h1 h2).keep λb o e q=>
  Aj _ ((Bx _ _<|Er<|Bb q).trans<|Aj _ q)⟩
 have bf:∀ v∈vs,v ≠ .ref (s.heap.objs.size+1):=λv hv e=>by
  obtain⟨i,hi⟩:=At hv;have hl:=hh.1;have qG:i < zs.length:=by have:=(Ac.mp hi).1;omega
  obtain⟨b,o,xs,n,e2,h1,_⟩:=hh.2 i v zs[i] hi<|Aa qG;rw [e2] at e;cases e;exact absurd (JL<|Bb h1)<|Cd _
 show wpAny _ _ _ _ _ {s with heap:=((s.heap.push<|seqObj "list" #[] 0).update s.heap.objs.size (Obj.mapSeq (·++vs.toArray))).push (seqObj "list" vs.toArray 0)};rw [hsz];refine BP (DG<|wpAny_call_entry slot_list_sort ⟨_,kz,rfl⟩ entry_list_sort (Sf (by show A.units+1+1 < cLine;omega) kz bf yb hn jQ λus p sp=>⟨_,rfl,?_⟩)<|args_list_sort _);obtain⟨e,he⟩:=sortedAll_at s.heap vs<|List.toArray<|us.map λx=>x.1;exact BX ⟨_,rfl,h _ e us p sp (λb u hb=>sortedAll_old hb) he⟩
end
end bW
namespace L2
open PySem PySem.Spec PyProof.Rows bW
section
variable{X:Cx}{σ:St}{H:Hp}
theorem Sh(hu:X.A.units+8 < cLine):fF X (.builtin "sorted") (λxs H Q=>∃(l:Addr) (ts:List Addr) (zs:List<|List Str),xs=[.ref l]/\av X.K H l (ts.map V.ref)/\ts.length=zs.length/\zs.Nodup/\(∀(i:Nat) t z,ts[i]?=some t->zs[i]?=some z->H t=some (.lst<|z.map V.str)) /\
  ∀(r:Addr) (ps:List<|Addr×List Str),H r=none->ps.Perm (ts.zip zs)->ps.Pairwise (λa b=>aJ a.2 b.2=true)->Q (.ref r) (upd H r<|.lst<|ps.map λp=> .ref p.1)):=by
 intro pins s σ H xs us Q I r h;obtain⟨l,ts,zs,rfl,hl,hlen,hn,hd,q⟩:=h;obtain⟨u,rfl,ru⟩:=vals1 r;cases (show u=Value.ref l from ru);obtain⟨its,rv,pl,jQ⟩:=I.list hl;rw [Ab] at jQ;have ei:=yc rv;subst ei;have hh:eg s.heap (ts.map Value.ref) zs:=by
  refine⟨by rw [Ab];exact hlen,λi v z h1 h2=>?_⟩;rw [Ad,Ax] at h1;obtain⟨t,ht,rfl⟩:=h1;obtain⟨its,r3,tp,_⟩:=I.list<|av.of<|hd i t z ht h2;obtain⟨o,ho,hc,n,hd2⟩:=tp.isList;exact⟨t,o,_,n,rfl,ho,hc,hd2,RE r3⟩
 refine Sg hu pl.isList hh hn (by rw [Ab];exact jQ) λh' e us p sp kp he=>?_;have ez:(ts.map Value.ref).zip zs=(ts.zip zs).map λx=>(Value.ref x.1,x.2):=by
  have:=List.zip_map (f:=Value.ref) (g:=id) (l₁:=ts) (l₂:=zs);rw [Gc] at this;rw [this];rfl
 obtain⟨ps,p2,rfl⟩:=IP (f:=λx:Addr×List Str=>(Value.ref x.1,x.2)) p (ts.zip zs) ez;have ye:ps.length=ts.length:=by rw [p2.length_eq,Dg,<- hlen,Nat.min_self]
 rw [Be] at he;refine⟨.ref _,_,I.iM (s':={s with heap:=h'}) kp rfl rfl (Gb _) (show aq X.prog X.w _ h' _ (.lst<|ps.map λx=>V.ref x.1) from ?_),rfl,q _ ps (I.aw.fresh<|Gb _) p2 ?_⟩
 ·refine⟨by rw [Ab,ye];exact jQ,_,e,?_,he⟩;have:=yd<|ps.map λx=>x.1;rw [Be,Be] at this;exact this
 ·rw [Dw] at sp;exact sp
end
end L2
namespace Dt
open PySem bW
def fP:List Str->Nat->List Str
 | [],_=>[]
 | z :: zs,k=>if k % 2=1 then z :: fP zs (k / 2) else fP zs (k / 2)
abbrev bJ:=Str×Nat×Nat
def TL:List Nat->List bJ->List (List Str)
 | part,[]=>if part.all (λh=>h == part.headD 0)=true then [[]] else []
 | part,(z,x,y) :: es=>if part.getD x 0=part.getD y 0 then TL part es else(TL (ax part x y) es).map (z :: ·)++TL part es
theorem IT(f:Nat->Bool):∀ n,((List.range<|2 * n).filter f).Perm<|(((List.range n).filter λi=>f<|2 * i+1).map λi=>2 * i+1)++(((List.range n).filter λi=>f<|2 * i).map λi=>2 * i)
 | 0=>List.Perm.refl _
 | n+1=>by
  have ih:=IT f n;rw [show 2 * (n+1)=2 * n+1+1 by omega,Cj,Cj,Cj];simp only [Fz,Ai];refine((ih.append_right _).append_right _).trans ?_;generalize ((List.range n).filter λi=>f<|2 * i+1).map (λi=>2 * i+1)=A;generalize ((List.range n).filter λi=>f<|2 * i).map (λi=>2 * i)=B;have e1:(List.filter f [2 * n])=(List.filter (λi=>f<|2 * i) [n]).map λi=>2 * i:=by
   simp only [Ft,KR];cases f (2 * n) <;> rfl
  have e2:(List.filter f [2 * n+1])=(List.filter (λi=>f<|2 * i+1) [n]).map λi=>2 * i+1:=by
   simp only [Ft,KR];cases f (2 * n+1) <;> rfl
  rw [e1,e2];generalize (List.filter (λi=>f<|2 * i) [n]).map (λi=>2 * i)=C;generalize (List.filter (λi=>f<|2 * i+1) [n]).map (λi=>2 * i+1)=D;rw [Bf,Bf,Bf,<- Bf B C D];exact List.perm_append_comm.append_left A
theorem cx:∀(es:List bJ) (part:List Nat),(((List.range<|2 ^ es.length).filter (tr part (es.map (·.2)))).map (fP (es.map (·.1)))).Perm<|TL part es
 | [],part=>by
  have:tr part [] 0=part.all λh=>h == part.headD 0:=rfl;show(((List.range 1).filter<|tr part []).map<|fP []).Perm (if part.all (λh=>h == part.headD 0)=true then [[]] else []);cases h:part.all λh=>h == part.headD 0 with
  | true=>rw [h] at this;simp [Cj,this,fP]
  | false=>rw [h] at this;simp [Cj,this]
 | (z,x,y) :: es,part=>by
  rw [As,Nat.pow_succ,Nat.mul_comm];refine((IT _ _).map _).trans ?_;have e1:(λi=>tr part (((z,x,y) :: es).map (·.2))<|2 * i)=tr part (es.map (·.2)):=by
   funext i
   show(if(2 * i) % 2=1 then _ else tr part (es.map (·.2)) (2 * i / 2))=_;rw [BJ (by omega),show 2 * i / 2=i by omega]
  have e2:(λi=>tr part (((z,x,y) :: es).map (·.2))<|2 * i+1)=λi=>if part.getD x 0=part.getD y 0 then false else tr (ax part x y) (es.map (·.2)) i:=by
   funext i
   show(if(2 * i+1) % 2=1 then(if part.getD x 0=part.getD y 0 then false else tr (ax part x y) (es.map (·.2)) ((2 * i+1) / 2)) else _)=_;rw [BK (by omega),show(2 * i+1) / 2=i by omega]
  rw [e1,e2,Ai,Be,Be];have n1:(fP (((z,x,y) :: es).map (·.1)) ∘ λi=>2 * i)=fP (es.map (·.1)):=by
   funext i
   show(if(2 * i) % 2=1 then z :: fP (es.map (·.1)) (2 * i / 2) else fP (es.map (·.1)) (2 * i / 2))=_;rw [BJ (by omega),show 2 * i / 2=i by omega]
  have n2:(fP (((z,x,y) :: es).map (·.1)) ∘ λi=>2 * i+1)=(z :: ·) ∘ fP (es.map (·.1)):=by
   funext i
   show(if(2 * i+1) % 2=1 then z :: fP (es.map (·.1)) ((2 * i+1) / 2) else fP (es.map (·.1)) ((2 * i+1) / 2))=z :: fP (es.map (·.1)) i;rw [BK (by omega),show(2 * i+1) / 2=i by omega]
  rw [n1,n2];show List.Perm _ (if part.getD x 0=part.getD y 0 then TL part es else(TL (ax part x y) es).map (z :: ·)++TL part es);have ih:=cx es part
  by_cases h:part.getD x 0=part.getD y 0
  ·have e3:(List.range<|2 ^ es.length).filter (λi=>if part.getD x 0=part.getD y 0 then false else tr (ax part x y) (es.map (·.2)) i)=[]:=List.filter_eq_nil_iff.mpr λa _=>by rw [BK h];decide
   rw [e3,BK h,Gd,KY];exact ih
  ·have iR:=(cx es<|ax part x y).map (z :: ·);have e3:(λi=>if part.getD x 0=part.getD y 0 then false else tr (ax part x y) (es.map (·.2)) i)=tr (ax part x y) (es.map (·.2)):=funext λi=>BJ h;rw [e3,BJ h];rw [Be] at iR;exact iR.append ih
def iy(part C:List Nat):Prop:=C.Nodup/\∀ a,a∈C↔a∈part
theorem dG{part:List Nat}{x:Nat}(h:x < part.length):part.getD x 0∈part:=by
 rw [Az,Aa h];exact Bp h
theorem iy.merge{part C:List Nat}{x y:Nat}(h:iy part C)(hx:x < part.length)(bf:part.getD x 0≠part.getD y 0):iy (ax part x y) (C.erase<|part.getD y 0):=by
 refine⟨h.1.erase _,λa=>?_⟩;rw [h.1.mem_erase_iff,h.2];unfold ax;rw [Ak]
 constructor
 ·rintro ⟨h1,h2⟩;exact⟨a,h2,BJ h1⟩
 ·rintro ⟨b,hb,e⟩
  by_cases c:b=part.getD y 0
  ·rw [BK c] at e;subst e;exact⟨bf,dG hx⟩
  ·rw [BJ c] at e;subst e;exact⟨c,hb⟩
theorem IU:∀ part:List Nat,∃ C,iy part C
 | []=>⟨[],El,λ_=>LK⟩
 | p :: ps=>by
  obtain⟨C,h1,h2⟩:=IU ps
  by_cases c:p∈C
  ·refine⟨C,h1,λa=>?_⟩;rw [h2,Am];exact⟨.inr,λq=>q.elim (λe=>e ▸ (h2 p).mp c) id⟩
  ·refine⟨p :: C,By.mpr ⟨c,h1⟩,λa=>?_⟩;rw [Am,Am,h2]
theorem cy(part:List Nat)(x y:Nat):(ax part x y).length=part.length:=Ab _
theorem b7:∀(es:List bJ) (part C:List Nat),part≠[]->(∀ e∈es,e.2.1 < part.length/\e.2.2 < part.length)->iy part C->∀ t∈TL part es,t.length+1=C.length
 | [],part,C,h0,_,hC,t,ht=>by
  have cz:t∈(if part.all (λh=>h == part.headD 0)=true then [[]] else []):=ht
  by_cases c:part.all (λh=>h == part.headD 0)=true
  ·rw [BK c,Ag] at cz;subst cz;have all:∀ a∈C,a=part.headD 0:=λa ha=>by
    have:=Dj.mp c a<|(hC.2 a).mp ha;exact beq_iff_eq.mp this
   have hm:part.headD 0∈C:=(hC.2 _).mpr<|by
    cases part with
    | nil=>exact absurd rfl h0
    | cons p ps=>exact Ah
   match C,hC.1,all,hm with
   | [],_,_,hm=>cases hm
   | [c],_,_,_=>rfl
   | c :: d :: C,nd,all,_=>
    have e1:=all c Ah;have e2:=all d<|Ar _ Ah;exact absurd (by rw [e1,e2];exact Ah) (By.mp nd).1
  ·rw [BJ c] at cz;cases cz
 | (z,x,y) :: es,part,C,h0,az,hC,t,ht=>by
  have cz:t∈(if part.getD x 0=part.getD y 0 then TL part es else(TL (ax part x y) es).map (z :: ·)++TL part es):=ht;have aV:∀ e∈es,e.2.1 < part.length/\e.2.2 < part.length:=λe he=>az e<|Ar _ he;obtain⟨lx,ly⟩:=az _ Ah
  by_cases c:part.getD x 0=part.getD y 0
  ·rw [BK c] at cz;exact b7 es part C h0 aV hC t cz
  ·rw [BJ c] at cz
   rcases An.mp cz with q | q
   ·obtain⟨t',kZ,rfl⟩:=Ak.mp q;have:=b7 es (ax part x y) (C.erase<|part.getD y 0) (λe=>h0<|Dz.mp e) (by rw [cy];exact aV) (hC.merge lx c) t' kZ;rw [Dc<|(hC.2 _).mpr<|dG ly] at this;have:0 < C.length:=Es<|(hC.2 _).mpr<|dG ly;rw [As];omega
   ·exact b7 es part C h0 aV hC t q
theorem bE:∀(es:List bJ) (part:List Nat),∀ t∈TL part es,t.Sublist (es.map (·.1))
 | [],part,t,ht=>by
  have cz:t∈(if part.all (λh=>h == part.headD 0)=true then [[]] else []):=ht
  split at cz
  ·rw [Ag] at cz;subst cz;exact List.Sublist.refl _
  ·cases cz
 | (z,x,y) :: es,part,t,ht=>by
  have cz:t∈(if part.getD x 0=part.getD y 0 then TL part es else(TL (ax part x y) es).map (z :: ·)++TL part es):=ht
  by_cases c:part.getD x 0=part.getD y 0
  ·rw [BK c] at cz;exact(bE es part t cz).cons _
  ·rw [BJ c] at cz
   rcases An.mp cz with q | q
   ·obtain⟨t',kZ,rfl⟩:=Ak.mp q;exact(bE es _ t' kZ).cons₂ z
   ·exact(bE es part t q).cons _
theorem cN:∀(es:List bJ) (part:List Nat),part≠[]->(∀ e∈es,e.2.1 < part.length/\e.2.2 < part.length)->(es.map (·.1)).Pairwise (λa b=>a.cps.toList < b.cps.toList)->(TL part es).Pairwise λa b=>aJ a b=true
 | [],part,_,_,_=>by
  show(if part.all (λh=>h == part.headD 0)=true then [[]] else []).Pairwise _
  split
  ·exact KD _ _
  ·exact List.Pairwise.nil
 | (z,x,y) :: es,part,h0,az,hs=>by
  have aV:∀ e∈es,e.2.1 < part.length/\e.2.2 < part.length:=λe he=>az e<|Ar _ he;obtain⟨lx,ly⟩:=az _ Ah;obtain⟨hz,d6⟩:=Cq.mp hs;show(if part.getD x 0=part.getD y 0 then TL part es else(TL (ax part x y) es).map (z :: ·)++TL part es).Pairwise _
  by_cases c:part.getD x 0=part.getD y 0
  ·rw [BK c];exact cN es part h0 aV d6
  ·rw [BJ c,Cf];refine⟨?_,cN es part h0 aV d6,λa ha b hb=>?_⟩
   ·rw [Dw];refine(cN es (ax part x y) (λe=>h0<|Dz.mp e) (by rw [cy];exact aV) d6).imp λ{a b} h=>?_;show(if z=z then aJ a b else _)=true;rw [BK rfl];exact h
   ·obtain⟨a',_,rfl⟩:=Ak.mp ha;obtain⟨C,hC⟩:=IU part;have hl:=b7 es part _ h0 aV hC b hb;have h2:2<=C.length:=by
     have m1:=(hC.2 _).mpr<|dG lx;have m2:=(hC.2 _).mpr<|dG ly
     match C,m1,m2 with
     | [],m1,_=>cases m1
     | [q],m1,m2=>exact absurd ((Ag.mp m1).trans (Ag.mp m2).symm) c
     | _ :: _ :: _,_,_=>simp
    cases b with
    | nil=>simp at hl;omega
    | cons b0 b'=>
     have oV:b0∈es.map (·.1):=(bE es part _ hb).subset Ah;have lt:=hz b0 oV;show(if z=b0 then aJ a' b' else decide (z.cps.toList < b0.cps.toList))=true;rw [BJ λe=>Dv _<|by rw [e] at lt;exact lt];exact CK lt
theorem i'{es:List bJ}{part C:List Nat}(h0:part≠[])(az:∀ e∈es,e.2.1 < part.length/\e.2.2 < part.length)(hs:(es.map (·.1)).Pairwise λa b=>a.cps.toList < b.cps.toList)(hC:iy part C)(hl:es.length+1=C.length)(bf:TL part es≠[]):TL part es=[es.map (·.1)]:=by
 have all:∀ t∈TL part es,t=es.map (·.1):=λt ht=>(bE es part t ht).eq_of_length<|by
  have:=b7 es part C h0 az hC t ht;rw [Ab];omega
 have sr:=cN es part h0 az hs
 revert bf all sr
 generalize TL part es=T;intro bf all sr
 match T,bf,all,sr with
 | [],bf,_,_=>exact absurd rfl bf
 | [t],_,all,_=>rw [all t Ah]
 | a :: b :: r,_,all,sr=>
  have e1:=all a Ah;have e2:=all b<|Ar _ Ah;have:=(Cq.mp sr).1 b Ah;rw [e1,e2] at this;have q:=rO this;rw [this] at q;cases q
inductive Rc (ls:List<|Nat×Nat) (a:Nat):Nat->Prop where
 | here:Rc ls a a
 | step {b c:Nat}:Rc ls a b->(b,c)∈ls\/(c,b)∈ls->Rc ls a c
theorem Rc.trans{ls:List (Nat×Nat)}{a b c:Nat}(h:Rc ls a b)(k:Rc ls b c):Rc ls a c:=by
 induction k with
 | here=>exact h
 | step _ q ih=>exact .step ih q
theorem Rc.symm{ls:List (Nat×Nat)}{a b:Nat}(h:Rc ls a b):Rc ls b a:=by
 induction h with
 | here=>exact .here
 | step _ q ih=>exact(Rc.step .here q.symm).trans ih
theorem Rc.mono{ls si:List (Nat×Nat)}{a b:Nat}(h:Rc ls a b)(k:∀ e∈ls,Rc si e.1 e.2):Rc si a b:=by
 induction h with
 | here=>exact .here
 | step _ q ih=>exact ih.trans<|q.elim (λq=>k _ q) λq=>(k _ q).symm
theorem Rc.map{ls si:List (Nat×Nat)}{f:Nat->Nat}{a b:Nat}(h:Rc ls a b)(k:∀ e∈ls,Rc si (f e.1)<|f e.2):Rc si (f a) (f b):=by
 induction h with
 | here=>exact .here
 | step _ q ih=>exact ih.trans<|q.elim (λq=>k _ q) λq=>(k _ q).symm
def lb(part:List Nat)(es:List bJ):List (Nat×Nat):=es.map λe=>(part.getD e.2.1 0,part.getD e.2.2 0)
def AR(part:List Nat)(es:List bJ):Prop:=∀ c∈part,∀ d∈part,Rc (lb part es) c d
def eQ(b a h:Nat):Nat:=if h=b then a else h
theorem zt{part:List Nat}{x y i:Nat}(h:i < part.length):(ax part x y).getD i 0=eQ (part.getD y 0) (part.getD x 0) (part.getD i 0):=by
 have e:part.getD i 0=part[i]:=by rw [Az,Aa h,JX]
 rw [e];unfold ax eQ;rw [Az,Ad,Aa h,Fc,JX]
theorem gE{part:List Nat}{es:List bJ}{z:Str}{x y:Nat}(hx:x < part.length)(hy:y < part.length)(az:∀ e∈es,e.2.1 < part.length/\e.2.2 < part.length):AR (ax part x y) es↔AR part ((z,x,y) :: es):=by
 generalize ha:part.getD x 0=a;generalize hb:part.getD y 0=b;have eL:lb part ((z,x,y) :: es)=(a,b) :: lb part es:=by rw [<- ha,<- hb];rfl
 have eM:lb (ax part x y) es=(lb part es).map λe=>(eQ b a e.1,eQ b a e.2):=by
  unfold lb;rw [Be];refine Bk λe he=>?_;obtain⟨q1,q2⟩:=az e he;show((ax part x y).getD e.2.1 0,(ax part x y).getD e.2.2 0)=(eQ b a<|part.getD e.2.1 0,eQ b a<|part.getD e.2.2 0);rw [zt q1,zt q2,ha,hb]
 have rm:ax part x y=part.map (eQ b a):=by
  unfold ax eQ;rw [ha,hb]
 unfold AR;rw [eL,eM,rm];have vq:∀ h,Rc ((a,b) :: lb part es) h (eQ b a h):=λh=>by
  unfold eQ
  by_cases c:h=b
  ·rw [BK c,c];exact .step .here<|.inr Ah
  ·rw [BJ c];exact .here
 constructor
 ·intro h c hc d hd;have q:=h _ (Ak.mpr ⟨c,hc,rfl⟩) _<|Ak.mpr ⟨d,hd,rfl⟩;have q2:Rc ((a,b) :: lb part es) (eQ b a c) (eQ b a d):=q.mono λe he=>by
   obtain⟨e',sj,rfl⟩:=Ak.mp he;exact((vq e'.1).symm.trans<|.step .here<|.inl<|Ar _ sj).trans<|vq e'.2
  exact((vq c).trans q2).trans (vq d).symm
 ·intro h c' cT d' vP;obtain⟨c,hc,rfl⟩:=Ak.mp cT;obtain⟨d,hd,rfl⟩:=Ak.mp vP;refine(h c hc d hd).map λe he=>?_
  rcases Am.mp he with rfl | he
  ·show Rc _ (eQ b a a) (eQ b a b);have e1:eQ b a b=a:=BK rfl;have e2:eQ b a a=a:=by unfold eQ;split <;> rfl
   rw [e1,e2];exact .here
  ·exact .step .here<|.inl<|Ak.mpr ⟨e,he,rfl⟩
theorem aT:∀(es:List bJ) (part:List Nat),part≠[]->(∀ e∈es,e.2.1 < part.length/\e.2.2 < part.length)->(TL part es≠[]↔AR part es)
 | [],part,h0,_=>by
  show(if part.all (λh=>h == part.headD 0)=true then [[]] else([]:List<|List Str))≠[]↔_;have no:∀ c d,Rc [] c d->c=d:=λc d h=>by
   induction h with
   | here=>rfl
   | step _ q ih=>rcases q with q | q <;> cases q
  have hm:part.headD 0∈part:=by
   cases part with
   | nil=>exact absurd rfl h0
   | cons p ps=>exact Ah
  constructor
  ·intro h c hc d hd;have ha:part.all (λh=>h == part.headD 0)=true:=CN λq=>h<|BJ q;have e1:=beq_iff_eq.mp<|Dj.mp ha c hc;have e2:=beq_iff_eq.mp<|Dj.mp ha d hd;rw [e1,e2];exact .here
  ·intro h;rw [BK<|Dj.mpr λc hc=>beq_iff_eq.mpr<|no _ _<|h c hc _ hm];exact List.cons_ne_nil _ _
 | (z,x,y) :: es,part,h0,az=>by
  have aV:∀ e∈es,e.2.1 < part.length/\e.2.2 < part.length:=λe he=>az e<|Ar _ he;obtain⟨lx,ly⟩:=az _ Ah;have ih:=aT es part h0 aV;show(if part.getD x 0=part.getD y 0 then TL part es else(TL (ax part x y) es).map (z :: ·)++TL part es)≠[]↔_;have up:AR part es->AR part ((z,x,y) :: es):=λh c hc d hd=>(h c hc d hd).mono λe he=> .step .here<|.inl<|Ar _ he
  by_cases c:part.getD x 0=part.getD y 0
  ·rw [BK c,ih];refine⟨up,λh a ha b hb=>(h a ha b hb).mono λe he=>?_⟩;have sj:e∈(part.getD x 0,part.getD y 0) :: lb part es:=he
   rcases Am.mp sj with rfl | q
   ·show Rc _ (part.getD x 0) (part.getD y 0);rw [c];exact .here
   ·exact .step .here<|.inl q
  ·rw [BJ c];have iR:=aT es (ax part x y) (λe=>h0<|Dz.mp e) (by rw [cy];exact aV);rw [gE (z:=z) lx ly aV] at iR;refine⟨λh=>?_,λh q=>iR.mpr h<|Dz.mp (Ge.mp q).1⟩
   by_cases d:TL part es=[]
   ·refine iR.mp λq=>h ?_;rw [q,d];rfl
   ·exact up<|ih.mp d
theorem kd{part:List Nat}{es:List bJ}{z:Str}{x y:Nat}(hx:x < part.length)(hy:y < part.length)(h:AR part<|(z,x,y) :: es):AR part es↔Rc (lb part es) (part.getD x 0) (part.getD y 0):=by
 refine⟨λq=>q _ (dG hx) _<|dG hy,λq c hc d hd=>(h c hc d hd).mono λe he=>?_⟩;have sj:e∈(part.getD x 0,part.getD y 0) :: lb part es:=he
 rcases Am.mp sj with rfl | p
 ·exact q
 ·exact .step .here<|.inl p
end Dt
namespace Y5
open PySem L2 Nt bG
def zu(one other:Str)(x:Lk):Lk:=(x.1,if x.2.1=other then one else x.2.1,if x.2.2=other then one else x.2.2)
def sk:Sp:=λvs H Q _=>∃(L:Addr) (us:List Addr) (ls:List Lk) (one other:Str),vs=[.ref L,.str one,.str other]/\H L=some (.lst<|us.map V.ref)/\fe H us ls/\ls.length<=60 /\
 ∀(D:Addr) (ws:List Addr) (H':Hp),ah H H'->H D=none->H' D=some (.lst<|ws.map V.ref)->fe H' ws (ls.map<|zu one other)->Q (.ref D) H'
section
variable{P:Program}{w:World}{K:PySem.W.Frag}{mg:Str->Option Value}{base:Heap}
abbrev IY:List Str:=["links","one","other"]
abbrev su:List Str:=["links","one","other","tie","start","goal"]
theorem sw:au IY ["links","one","other"] (aR uD):=⟨rfl,rfl,rfl,by decide +kernel,rfl,by decide +kernel,by decide +kernel⟩
theorem zv:su.Nodup:=by decide
theorem Si{f:Addr}{fd:FuncData}(F:bL K "merged" "merged" uD f fd)(T:Txt mg):aA P w K mg base bP 1 f fd ["links","one","other"] sk:=by
 refine F.gb sw (λvs H Q E h=>?_) λb0 H vs Q E hr h=>?_
 ·obtain⟨L,us,ls,one,other,rfl,_⟩:=h;rfl
 obtain⟨L,us,ls,one,other,rfl,eL,aW,Rv,q⟩:=h;have nd:=sw.nd;have eO:=aW.1;show Run _ _ _ [some<|.ref L,some<|.str one,some<|.str other] H;refine df<|iL (aR uD) IY su 3 (kA aZ)<|af 0 ⟨L,rfl,⟨_,av.of eL⟩,λD hD=>?_⟩;refine mM (xs:=us.map V.ref) (λi σ' H'=>(∃ v1 v2 v3,σ'=[some<|.ref L,some<|.str one,some<|.str other]++[v1,v2,v3])/\∃ ws:List Addr,ah H H'/\H' D=some (.lst<|ws.map V.ref)/\fe H' ws ((ls.take i).map<|zu one other)) ⟨⟨_,_,_,rfl⟩,[],aI hD _,ae,rfl,λj u x h=>by simp at h⟩ ?_ ?_ ?_
 ·rintro i σ' H' _ ⟨_,ws,sm,_⟩;exact av.of<|sm _ _ eL
 ·rintro i x σ' H' hx ⟨⟨v1,v2,v3,rfl⟩,ws,sm,eD,cA⟩;rw [Ad,Ax] at hx;obtain⟨u,d9,rfl⟩:=hx;have hi:i < ls.length:=by
   have:=(Ac.mp d9).1;omega
  have dS:=sm _ _<|aW.2 i u _ d9<|Aa hi;rw [Gw,Aa hi,Ez,Ai,Bq,Gd];have lw:ws.length<=i:=by
   have:=cA.1;rw [Ab,Aq] at this;omega
  generalize ls[i]=lx at dS;obtain⟨ti,st,go⟩:=lx;intro cl C' s₀ H₀ ex;refine ox rfl (bo.of dS) (bb 3 zv<|bb 4 zv<|bb 5 zv ?_);intro cl C' s₀ H₀ ex;refine gq<|a8 ?_;intro cl C' s₀ H₀ ex;refine dE<|ai<|af 3<|ai<|DJ<|fb jj<|af 4<|af 2 ⟨rfl,_,rfl,?_⟩
  by_cases c1:st=other
  case' pos=>
   rw [BK<|CK<|by rw [c1]];have h1:(if st=other then one else st)=one:=BK c1;refine af 1 ?_
  case' neg=>
   rw [BJ<|by simpa using c1];have h1:(if st=other then one else st)=st:=BJ c1;refine af 4 ?_
  all_goals
   refine ai<|DJ<|fb jj<|af 5<|af 2 ⟨rfl,_,rfl,?_⟩
   by_cases c2:go=other
   case' pos=>
    rw [BK<|CK<|by rw [c2]];have h2:(if go=other then one else go)=one:=BK c2;refine af 1 ?_
   case' neg=>
    rw [BJ<|by simpa using c2];have h2:(if go=other then one else go)=go:=BJ c2;refine af 5 ?_
   all_goals
    refine aC ⟨Z3,λt cz=>?_⟩;have em:=CJ T3<|CJ (Prod.mk ti)<|congr (CJ Prod.mk h1) h2;have zx:t≠D:=λe=>by rw [e,eD] at cz;cases cz
    have sT:=λv=>aI cz v;refine⟨_,sT _ _ _ eD,by rw [Ab];exact cY (by omega),⟨_,_,_,rfl⟩,ws++[t],cK (sm.trans<|sT _) hD,?_,?_⟩
    ·rw [ae,Ai];rfl
    ·refine fe.snoc ⟨cA.1,λj v y h1 h2=>?_⟩ ?_
     ·have vD:v≠D:=λe=>by
       have q:=cA.2 j v y h1 h2;rw [e,eD] at q;cases q
      rw [aG vD];exact sT _ _ _<|cA.2 j v y h1 h2
     ·rw [aG zx];exact ae.trans<|CJ some em.symm
 ·rintro σ' H2 ⟨_,ws,s2,eD,cA⟩;rw [Ab,eO,Bi] at cA;exact q D ws H2 s2 hD eD cA
end
end Y5
namespace Nt
open PySem L2 Dt
def cO(nm:Nat->Str)(part:List Nat)(es:List bJ):List Lk:=es.map λe=>(e.1,nm<|part.getD e.2.1 0,nm<|part.getD e.2.2 0)
def Inj(nm:Nat->Str)(part:List Nat):Prop:=∀ a∈part,∀ b∈part,nm a=nm b->a=b
theorem Inj.merge{nm:Nat->Str}{part:List Nat}(h:Inj nm part){x y:Nat}(hx:x < part.length):Inj nm (ax part x y):=by
 have sub:∀ a∈ax part x y,a∈part:=λa ha=>by
  unfold ax at ha;obtain⟨b,hb,rfl⟩:=Ak.mp ha
  by_cases c:b=part.getD y 0
  ·rw [BK c];exact dG hx
  ·rw [BJ c];exact hb
 exact λa ha b hb=>h a (sub a ha) b<|sub b hb
theorem Sj{nm:Nat->Str}{part:List Nat}(h:Inj nm part){es:List bJ}{x y:Nat}(hy:y < part.length)(az:∀ e∈es,e.2.1 < part.length/\e.2.2 < part.length) :
  ((cO nm part es).map λz=>(z.1,if z.2.1=nm (part.getD y 0) then nm (part.getD x 0) else z.2.1,if z.2.2=nm (part.getD y 0) then nm (part.getD x 0) else z.2.2))=cO nm (ax part x y) es:=by
 unfold cO;rw [Be];refine Bk λe he=>?_;obtain⟨q1,q2⟩:=az e he;have one:∀ i,i < part.length->(if nm (part.getD i 0)=nm (part.getD y 0) then nm (part.getD x 0) else nm (part.getD i 0))=nm ((ax part x y).getD i 0):=λi hi=>by
  rw [zt hi];unfold eQ
  by_cases c:part.getD i 0=part.getD y 0
  ·rw [BK c,BK<|by rw [c]]
  ·rw [BJ c,BJ λz=>c<|h _ (dG hi) _ (dG hy) z]
 show(e.1,(if nm (part.getD e.2.1 0)=nm (part.getD y 0) then nm (part.getD x 0) else nm (part.getD e.2.1 0)),(if nm (part.getD e.2.2 0)=nm (part.getD y 0) then nm (part.getD x 0) else nm (part.getD e.2.2 0)))=_;rw [one _ q1,one _ q2]
def c7(ls:List Lk):List Bl:=ls.map λz=>(z.2.1,z.2.2,false)
theorem Sl{nm:Nat->Str}{part:List Nat}(h:Inj nm part){es:List bJ}(az:∀ e∈es,e.2.1 < part.length/\e.2.2 < part.length){a b:Nat}(ha:a∈part)(hb:b∈part) :
  (∃ o,Way (c7<|cO nm part es) (nm a) (nm b) o)↔Rc (lb part es) a b:=by
 have mem:∀{X Y:Str} {o:Bool},(X,Y,o)∈c7 (cO nm part es)->∃ e∈es,X=nm (part.getD e.2.1 0)/\Y=nm (part.getD e.2.2 0):=λ{X Y o} q=>by
  unfold c7 cO at q;rw [Be] at q;obtain⟨e,he,q⟩:=Ak.mp q;obtain⟨q1,q2⟩:=Prod.mk.inj q;exact⟨e,he,q1.symm,(Prod.mk.inj q2).1.symm⟩
 have IZ:∀{c d:Nat},(c,d)∈lb part es->(nm c,nm d,false)∈c7 (cO nm part es)/\c∈part/\d∈part:=λ{c d} q=>by
  obtain⟨e,he,q⟩:=Ak.mp q;obtain⟨q1,q2⟩:=Prod.mk.inj q;obtain⟨l1,l2⟩:=az e he;subst q1 q2;refine⟨?_,dG l1,dG l2⟩;unfold c7 cO;rw [Be];exact Ak.mpr ⟨e,he,rfl⟩
 constructor
 ·rintro ⟨o,w⟩;have key:∀{X:Str} {o:Bool},Way (c7<|cO nm part es) (nm a) X o->∃ c∈part,X=nm c/\Rc (lb part es) a c:=λ{X o} w=>by
   induction w with
   | here=>exact⟨a,ha,rfl,.here⟩
   | there _ q ih=>
    obtain⟨c,hc,e1,rc⟩:=ih;obtain⟨e,he,e2,e3⟩:=mem q;obtain⟨l1,l2⟩:=az e he;have:c=part.getD e.2.1 0:=h _ hc _ (dG l1)<|e1.symm.trans e2;subst this;exact⟨_,dG l2,e3,.step rc<|.inl<|Ak.mpr ⟨e,he,rfl⟩⟩
   | back _ q ih=>
    obtain⟨c,hc,e1,rc⟩:=ih;obtain⟨e,he,e2,e3⟩:=mem q;obtain⟨l1,l2⟩:=az e he;have:c=part.getD e.2.2 0:=h _ hc _ (dG l2)<|e1.symm.trans e3;subst this;exact⟨_,dG l1,e2,.step rc<|.inr<|Ak.mpr ⟨e,he,rfl⟩⟩
  obtain⟨c,hc,e,rc⟩:=key w;rw [h _ hb _ hc e];exact rc
 ·intro rc
  induction rc with
  | here=>exact⟨_,.here⟩
  | step _ q ih=>
   rcases q with q | q
   ·obtain⟨q1,q2,q3⟩:=IZ q;obtain⟨o,w⟩:=ih q2;exact⟨_,.there w q1⟩
   ·obtain⟨q1,q2,q3⟩:=IZ q;obtain⟨o,w⟩:=ih q3;exact⟨_,.back w q1⟩
end Nt
namespace Y5
open PySem L2 Nt bG
open Dt (bJ TL AR iy ax)
def aB(H:Hp)(ts:List Addr)(zs:List<|List Str):Prop:=ts.length=zs.length/\∀(j:Nat) t z,ts[j]?=some t->zs[j]?=some z->H t=some (Ls z)
theorem aB.snoc{H:Hp}{us:List Addr}{ls:List (List Str)}{u:Addr}{x:List Str}(h:aB H us ls)(hu:H u=some (Ls x)):aB H (us++[u]) (ls++[x]):=by
 refine⟨by rw [Ae,Ae,h.1];rfl,λj v y h1 h2=>?_⟩;have hl:=h.1
 by_cases hj:j < us.length
 ·rw [Bc hj] at h1;rw [Bc<|by omega] at h2;exact h.2 j v y h1 h2
 ·rw [Ay<|by omega] at h1 h2;have ie:j - us.length=0:=by
   have:=(Ac.mp h1).1;simp at this;omega
  rw [ie] at h1;rw [<- hl,ie] at h2;cases h1;cases h2;exact hu
theorem aB.cat{H:Hp}{us vs:List Addr}{ls ms:List (List Str)}(h:aB H us ls)(k:aB H vs ms):aB H (us++vs) (ls++ms):=by
 refine⟨by rw [Ae,Ae,h.1,k.1],λj v y h1 h2=>?_⟩;have hl:=h.1
 by_cases hj:j < us.length
 ·rw [Bc hj] at h1;rw [Bc<|by omega] at h2;exact h.2 j v y h1 h2
 ·rw [Ay<|by omega] at h1 h2;rw [<- hl] at h2;exact k.2 _ v y h1 h2
theorem aB.keep{H H':Hp}{us:List Addr}{ls:List (List Str)}(h:aB H us ls)(k:∀ t∈us,∀ o,H t=some o->H' t=some o):aB H' us ls:=⟨h.1,λj t z h1 h2=>k t (Au h1) _<|h.2 j t z h1 h2⟩
def ke(m:Nat):Sp:=λvs H Q _=>∃(L:Addr) (us:List Addr) (nm:Nat->Str) (part C:List Nat) (es:List bJ) (k:Nat),vs=[.ref L,.int (k:Int)]/\H L=some (.lst<|us.map V.ref)/\fe H us (cO nm part es)/\es.length<=m/\es.length<=40/\(TL part es).length<=1000/\part≠[]/\Inj nm part /\
 (∀ e∈es,e.2.1 < part.length/\e.2.2 < part.length)/\(es.map (·.1)).Pairwise (λa b=>a.cps.toList < b.cps.toList)/\AR part es/\iy part C/\k+1=C.length /\
 ∀(D:Addr) (ts:List Addr) (H':Hp),ah H H'->H D=none->(∀ t∈ts,H t=none)->H' D=some (.lst<|ts.map V.ref)->aB H' ts (TL part es)->Q (.ref D) H'
section
variable{P:Program}{w:World}{K:PySem.W.Frag}{mg:Str->Option Value}{base:Heap}
abbrev vt:List Str:=["links","many","tie","one","other","rest","trees"]
abbrev sA:List Str:=["links","many","a1","a2","a3","rest","trees","tie","one","other"]
abbrev sC:List Str:=["links","many","tie","one","other","rest","trees","tree"]
abbrev sD:List Str:=["links","many","tie","one","other","rest","trees","each","start","goal"]
theorem sG:au vt ["links","many"] (aR kK):=⟨rfl,rfl,rfl,by decide +kernel,rfl,by decide +kernel,by decide +kernel⟩
theorem zy:sD.Nodup:=by decide
theorem j5.snoc{H:Hp}{us:List Addr}{ls:List Bl}{u:Addr}{x:Bl}(h:j5 H us ls)(hu:H u=some (HV x)):j5 H (us++[u]) (ls++[x]):=by
 refine⟨by rw [Ae,Ae,h.1];rfl,λj v y h1 h2=>?_⟩;have hl:=h.1
 by_cases hj:j < us.length
 ·rw [Bc hj] at h1;rw [Bc<|by omega] at h2;exact h.2 j v y h1 h2
 ·rw [Ay<|by omega] at h1 h2;have ie:j - us.length=0:=by
   have:=(Ac.mp h1).1;simp at this;omega
  rw [ie] at h1;rw [<- hl,ie] at h2;cases h1;cases h2;exact hu
theorem Sn:sC.Nodup:=by decide
theorem zA:sA.Nodup:=by decide
theorem zB(u:Addr)(us:List Addr):bh ((u :: us).map V.ref) (some (1:Int)) none=us.map V.ref:=by
 unfold bh;rw [show(1:Int)=((1:Nat):Int) from rfl,HT.cg,HT.dr,Ab,As,Dy (by omega),Bq,List.drop_succ_cons,LR,Cp<|by rw [Ab];omega]
theorem Ja{f:Addr}{fd:FuncData}{m c:Nat}(F:bL K "trees_by" "trees_by" kK f fd)(T:Txt mg)(hc:1<=c)(GM:aN P w K mg base 1 "merged" ["links","one","other"] sk)(GS:aN P w K mg base 1 "spread" ["first","links"] rM)
  (GT:∀ m',m=m'+1->aN P w K mg base c "trees_by" ["links","many"] (ke m')):aA P w K mg base bP (c+1) f fd ["links","many"] (ke m):=by
 refine F.gb sG (λvs H Q E h=>?_) λb0 H vs Q E hr h=>?_
 ·obtain⟨L,us,nm,part,C,es,k,rfl,_⟩:=h;rfl
 obtain⟨L,us,nm,part,C,es,k,rfl,eL,aW,hm,h9,Sq,h0,inj,az,hs,ar,hC,hk,q⟩:=h;have nd:=sG.nd;have eO:=aW.1;have ll:(cO nm part es).length=es.length:=Ab _;show Run _ _ _ [some<|.ref L,some<|.int k,none,none,none,none,none] H;refine gn<|fb jj<|gj l8 T.len IK<|ai<|af 0<|aC ⟨L,_,rfl,.inl<|av.of eL,?_⟩;refine af 1 ⟨rfl,_,rfl,?_⟩;rw [Ab,eO,ll]
 by_cases c1:es.length=k
 ·rw [BK<|CK<|by rw [c1]];have one:=Dt.i' h0 az hs hC (by omega)<|(Dt.aT es part h0 az).mpr ar;refine df<|gN<|ai<|iL (aR kK) vt sA 3 (kA aZ)<|af 0 ⟨L,rfl,⟨_,av.of eL⟩,λD hD=>?_⟩;refine mM (xs:=us.map V.ref) (λi σ' H'=>(∃ v1 v2 v3,σ'=[some<|.ref L,some<|.int k,none,none,none,none,none]++[v1,v2,v3])/\ah H H'/\H' D=some (Ls ((es.take i).map (·.1)))) ⟨⟨_,_,_,rfl⟩,aI hD _,ae⟩ ?_ ?_ ?_
  ·rintro i σ' H' _ ⟨_,sm,_⟩;exact av.of<|sm _ _ eL
  ·rintro i x σ' H' hx ⟨⟨v1,v2,v3,rfl⟩,sm,eD⟩;rw [Ad,Ax] at hx;obtain⟨u,d9,rfl⟩:=hx;have hi:i < es.length:=by
    have:=(Ac.mp d9).1;omega
   have dS:=sm _ _ (aW.2 i u _ d9<|by unfold cO;rw [Ad,Aa hi];rfl);rw [Gw,Aa hi,Ez,Ai,Bq,Gd];generalize es[i]=lx at dS;obtain⟨ti,st,go⟩:=lx;intro cl C' s₀ H₀ ex;refine ox rfl (bo.of dS) (bb 7 zA<|bb 8 zA<|bb 9 zA ?_);intro cl C' s₀ H₀ ex;refine gq<|a8 ?_;intro cl C' s₀ H₀ ex;refine af 7 ⟨_,eD,by rw [Ab];exact cY (by rw [Ab,Aq];omega),⟨_,_,_,rfl⟩,cK sm hD,?_⟩;rw [ae];show some (HO.lst _)=some (HO.lst _);rw [Ai];rfl
  ·rintro σ' H2 ⟨_,s2,eD⟩;rw [Ab,eO,ll,Bi] at eD;refine aC ⟨Z1,λM hM=>q M [D] _ (s2.trans<|aI hM _) ?_ ?_ ae ?_⟩
   ·exact ah.free s2 hM
   ·intro t ht;rw [Ag.mp ht];exact hD
   ·rw [one];refine⟨rfl,λj t z h1 h2=>?_⟩
    match j with
    | 0=>
     cases h1;cases h2;exact aI hM _ _ _ eD
    | j+1=>simp at h1
 rw [BJ<|by simpa using λe:(es.length:Int)=k=>c1<|by omega];refine aS ?_;obtain⟨e0,aU,rfl⟩:∃ e aU,es=e :: aU:=by
  cases es with
  | cons e aU=>exact⟨e,aU,rfl⟩
  | nil=>
   exfalso
   obtain⟨t,ht⟩:=Fu _<|(Dt.aT [] part h0 az).mpr ar;have h1:=Dt.b7 [] part C h0 az hC t ht;have h2:=(Dt.bE [] part t ht).length_le;rw [Ab] at h2;rw [Dp] at c1 h2;omega
 obtain⟨z,x,y⟩:=e0;obtain⟨u0,fB,rfl⟩:∃ u fB,us=u :: fB:=by
  cases us with
  | cons u fB=>exact⟨u,fB,rfl⟩
  | nil=>rw [ll] at eO;simp at eO
 obtain⟨lx,ly⟩:=az _ Ah;have aV:∀ e∈aU,e.2.1 < part.length/\e.2.2 < part.length:=λe he=>az e<|Ar _ he;have Sr:H u0=some (T3 (z,nm<|part.getD x 0,nm<|part.getD y 0)):=aW.2 0 u0 _ rfl rfl;have sI:fe H fB (cO nm part aU):=⟨Nat.succ.inj aW.1,λj v w h1 h2=>aW.2 (j+1) v w h1 h2⟩;have d6:=(Cq.mp hs).2;obtain⟨m',rfl⟩:∃ m',m=m'+1:=⟨m - 1,by rw [As] at hm;omega⟩;have zC:=GT m' rfl;have qH:aU.length<=m':=by rw [As] at hm;omega
 have zD:aU.length<=40:=by rw [As] at h9;omega
 refine ur<|de eI<|af 0<|ao ⟨L,_,_,.ref u0,rfl,rfl,av.of eL,hG (j:=0) rfl,?_⟩;refine ox rfl (bo.of Sr) (bb 2 nd<|bb 3 nd<|bb 4 nd ?_);refine run_set 5 nd<|pX pK<|af 0<|mz<|ao ⟨_,rfl,xg ⟨L,_,rfl,av.of eL,λR hR=>?_⟩⟩;rw [zB];have sR:=aI hR<|.lst<|fB.map V.ref;have eR:(upd H R<|.lst<|fB.map V.ref) R=some (.lst<|fB.map V.ref):=ae;show Run _ _ _ [some<|.ref L,some<|.int k,some<|.str z,some<|.str<|nm<|part.getD x 0,some<|.str<|nm<|part.getD y 0,some<|.ref R,none] (upd H R<|.lst<|fB.map V.ref);generalize upd H R (.lst<|fB.map V.ref)=H1 at sR eR;have fQ:fe H1 fB (cO nm part aU):=sI.keep λt xs h=>sR _ _ h;refine gn<|fb jj<|af 3<|af 4 ⟨rfl,_,rfl,?_⟩
 by_cases c2:part.getD x 0=part.getD y 0
 ·rw [BK<|CK<|by rw [c2]];have eT:TL part ((z,x,y) :: aU)=TL part aU:=by
   show(if part.getD x 0=part.getD y 0 then _ else _)=_;rw [BK c2]
  have zE:(TL part aU).length<=1000:=by rw [<- eT];exact Sq
  have zF:AR part aU:=(Dt.aT aU part h0 aV).mp (by rw [<- eT];exact(Dt.aT _ part h0 az).mpr ar);refine df<|dF zC (hr.mono ?_)<|ai<|af 5<|ai<|af 1<|aC ⟨R,fB,nm,part,C,aU,k,rfl,eR,fQ,qH,zD,zE,h0,inj,aV,d6,zF,hC,hk,λD ts H2 s2 hD ht eD ls=>?_⟩
  ·omega
  ·exact q D ts H2 (sR.trans s2) (ah.free sR hD) (λt h=>ah.free sR<|ht t h) eD<|by rw [eT];exact ls
 have Ss:nm (part.getD x 0)≠nm (part.getD y 0):=λe=>c2<|inj _ (Dt.dG lx) _ (Dt.dG ly) e;rw [BJ<|by simpa using Ss];refine aS ?_;have ub:aU.length+1=((z,x,y) :: aU).length:=rfl;have Sv:part.getD y 0∈C:=(hC.2 _).mpr<|Dt.dG ly;have im:=hC.merge lx c2;have lC:(C.erase<|part.getD y 0).length=k:=by rw [Dc Sv];omega
 have Sw:part.getD x 0∈C.erase (part.getD y 0):=(im.2 _).mpr<|by
  unfold Dt.ax;exact Ak.mpr ⟨_,Dt.dG lx,BJ c2⟩
 have k1:1<=k:=by
  have:=Es Sw;omega
 have ek:((k:Int) - 1)=((k - 1:Nat):Int):=by omega
 have Sx:=(Dt.gE (z:=z) lx ly aV).mpr ar;have eT:TL part ((z,x,y) :: aU)=(TL (ax part x y) aU).map (z :: ·)++TL part aU:=by
  show(if part.getD x 0=part.getD y 0 then _ else _)=_;rw [BJ c2]
 have lT:(TL part<|(z,x,y) :: aU).length=(TL (ax part x y) aU).length+(TL part aU).length:=by rw [eT,Ae,Ab]
 have Sy:(TL (ax part x y) aU).length<=1000:=by omega
 have Sz:(TL part aU).length<=1000:=by omega
 refine D8 6 (aR kK) vt sC 1 nd (kA aZ) (dF zC (hr.mono<|Af _)<|ai<|dF GM (hr.mono hc)<|ai<|af 5<|ai<|af 3<|ai<|af 4<|aC ⟨R,fB,_,_,_,rfl,eR,fQ,by(show(aU.map _).length<=60;rw [Ab];omega),λD1 SA H2 s2 U5 SD kg=>?_⟩);have em:(cO nm part aU).map (zu (nm<|part.getD x 0)<|nm<|part.getD y 0)=cO nm (ax part x y) aU:=Sj inj ly aV;rw [em] at kg;refine ai<|aE lU<|af 1<|ao ⟨_,_,rfl,rfl,?_⟩;refine aC ⟨D1,SA,nm,ax part x y,_,aU,k - 1,CJ (λi=>[V.ref D1,V.int i]) ek,SD,kg,qH,zD,Sy,λe=>h0<|Dz.mp e,inj.merge lx,by rw [Dt.cy];exact aV,d6,Sx,im,by omega,λD2 Jb H3 s3 m9 kZ j4 zG=>?_⟩;have rE:ah H H3:=(sR.trans s2).trans s3;have SE:=zG.1;refine⟨D2,rfl,⟨_,av.of j4⟩,λD3 zH=>?_⟩;have nA:H D3=none:=ah.free rE zH;refine mM (xs:=Jb.map V.ref) (λi σ' H'=>(∃ v1,σ'=[some<|.ref L,some<|.int k,some<|.str z,some<|.str<|nm<|part.getD x 0,some<|.str<|nm<|part.getD y 0,some<|.ref R,none]++[v1])/\∃ ws:List Addr,ah H3 H'/\(∀ t∈ws,H t=none/\t≠D3)/\H' D3=some (.lst<|ws.map V.ref)/\aB H' ws (((TL (ax part x y) aU).take i).map (z :: ·))) ⟨⟨_,rfl⟩,[],aI zH _,(λt h=>by cases h),ae,rfl,λj u x h=>by simp at h⟩ ?_ ?_ ?_
 ·rintro i σ' H' _ ⟨_,ws,sm,_⟩;exact av.of<|sm _ _ j4
 ·rintro i v σ' H' hx ⟨⟨v1,rfl⟩,ws,sm,fr,sJ,k9⟩;rw [Ad,Ax] at hx;obtain⟨u,d9,rfl⟩:=hx;have hi:i < (TL (ax part x y) aU).length:=by
   have:=(Ac.mp d9).1;omega
  have dS:=sm _ _<|zG.2 i u _ d9<|Aa hi;rw [Gw,Aa hi,Ez,Ai,Bq,Gd];have lw:ws.length<=i:=by
   have:=k9.1;rw [Ab,Aq] at this;omega
  have SF:((TL (ax part x y) aU)[i]).length<=40:=by
   have:=(Dt.bE aU (ax part x y) _<|Bp hi).length_le;rw [Ab] at this;omega
  generalize (TL (ax part x y) aU)[i]=tr at dS SF;intro cl C' s₀ H₀ ex;refine bb 7 Sn ?_;intro cl C' s₀ H₀ ex;refine gq<|a8 ?_;intro cl C' s₀ H₀ ex;refine aE pO<|gN<|ai<|af 2<|aC ⟨Z1,λp1 ik=>?_⟩;refine af 7 ⟨p1,u,[.str z],tr.map V.str,rfl,rfl,ae,aI ik _ _ _ dS,by(rw [Ab];exact Gr<|cY<|by show 1+tr.length<=100000;omega),λp2 d5=>?_⟩;have s1:=aI ik<|.lst [V.str z];have zI:=s1.trans<|aI d5<|.lst<|[V.str z]++tr.map V.str;have n2:p2≠D3:=λe=>by rw [e] at d5;rw [s1 _ _ sJ] at d5;cases d5
  refine⟨_,zI _ _ sJ,by rw [Ab];exact cY (by omega),⟨_,rfl⟩,ws++[p2],cK (sm.trans zI) zH,?_,?_,?_⟩
  ·intro t ht
   rcases An.mp ht with q | q
   ·exact fr t q
   ·rw [Ag.mp q];exact⟨ah.free (rE.trans<|sm.trans s1) d5,n2⟩
  ·rw [ae,Ai];rfl
  ·refine aB.snoc ⟨k9.1,λj v y h1 h2=>?_⟩ ?_
   ·rw [aG (fr v<|Au h1).2];exact zI _ _<|k9.2 j v y h1 h2
   ·rw [aG n2];exact ae
 ·rintro σ' H4 ⟨_,ws,s4,fr,sJ,k9⟩;rw [Ab,SE,Bi] at k9;have zJ:ah H H4:=rE.trans s4;have vw:ah H1 H4:=(s2.trans s3).trans s4;show Run _ _ _ [some<|.ref L,some<|.int k,some<|.str z,some<|.str<|nm<|part.getD x 0,some<|.str<|nm<|part.getD y 0,some<|.ref R,some<|.ref D3] H4;have eG:fe H4 fB (cO nm part aU):=fQ.keep λt xs h=>vw _ _ h;refine gn<|uy hr.u1<|af 4<|dF GS (hr.mono hc)<|ai<|af 3<|ai<|iL (aR kK) vt sD 3 (kA aZ)<|af 5 ⟨R,rfl,⟨_,av.of<|vw _ _ eR⟩,λD5 Jc=>?_⟩;have SG:=vw _ _ eR;have U6:(cO nm part aU).length=aU.length:=Ab _;have zK:=sI.1;refine mM (xs:=fB.map V.ref) (λi σ' H'=>(∃ v1 v2 v3,σ'=[some<|.ref L,some<|.int k,some<|.str z,some<|.str<|nm<|part.getD x 0,some<|.str<|nm<|part.getD y 0,some<|.ref R,some<|.ref D3]++[v1,v2,v3])/\∃ ws:List Addr,ah H4 H'/\H' D5=some (.lst<|ws.map V.ref)/\j5 H' ws (c7<|(cO nm part aU).take i)) ⟨⟨_,_,_,rfl⟩,[],aI Jc _,ae,rfl,λj u x h=>by simp at h⟩ ?_ ?_ ?_
  ·rintro i σ' H' _ ⟨_,ws,sm,_⟩;exact av.of<|sm _ _ SG
  ·rintro i x' σ' H' hx ⟨⟨v1,v2,v3,rfl⟩,vx,sm,sK,cA⟩;rw [Ad,Ax] at hx;obtain⟨u,d9,rfl⟩:=hx;have hi:i < (cO nm part aU).length:=by
    have:=(Ac.mp d9).1;omega
   have dS:=sm _ _<|eG.2 i u _ d9<|Aa hi;have SH:c7 ((cO nm part aU).take<|i+1)=c7 ((cO nm part aU).take i)++[((cO nm part aU)[i].2.1,(cO nm part aU)[i].2.2,false)]:=by
    unfold c7;rw [Gw,Aa hi,Ez,Ai];rfl
   rw [SH];have lw:vx.length<=i:=by
    have:=cA.1;unfold c7 at this;rw [Ab,Aq] at this;omega
   generalize (cO nm part aU)[i]=lx at dS;obtain⟨ti,on,ot⟩:=lx;intro cl C' s₀ H₀ ex;refine ox rfl (bo.of dS) (bb 7 zy<|bb 8 zy<|bb 9 zy ?_);intro cl C' s₀ H₀ ex;refine gq<|a8 ?_;intro cl C' s₀ H₀ ex;refine dE<|ai<|af 8<|ai<|af 9<|ai<|uo<|aC ⟨Z3,λt cz=>?_⟩;have zx:t≠D5:=λe=>by rw [e,sK] at cz;cases cz
   have sT:=aI cz<|.tup [.str on,.str ot,.bl false];refine⟨_,sT _ _ sK,by rw [Ab];exact cY (by omega),⟨_,_,_,rfl⟩,vx++[t],cK (sm.trans sT) Jc,?_,?_⟩
   ·rw [ae,Ai];rfl
   ·refine j5.snoc ⟨cA.1,λj v y h1 h2=>?_⟩ ?_
    ·have e:=sT _ _<|cA.2 j v y h1 h2;rw [aG<|kt e (sT _ _ sK) λz=>nomatch z];exact e
    ·rw [aG zx];exact ae
  ·rintro σ' H5 ⟨_,vx,s5,sK,cA⟩;rw [Ab,zK,Bi] at cA;refine aC ⟨_,D5,vx,_,rfl,sK,cA,by(unfold c7;rw [Ab];omega),λd kvs H6 s6 hd ed I=>?_⟩;refine⟨d,_,rfl,bM.k (k:=Sum.inr<|nm<|part.getD y 0) ed,?_⟩;have ut:(aH kvs<|Sum.inr<|nm<|part.getD y 0).isSome=true↔AR part aU:=by
    rw [Dt.kd (z:=z) lx ly ar,<- Sl inj aV (Dt.dG lx)<|Dt.dG ly]
    constructor
    ·intro h;obtain⟨v,hv⟩:=Ds.mp h;obtain⟨b,_,w⟩:=I.val _ v hv;exact⟨b,w⟩
    ·rintro ⟨o,w⟩;obtain⟨b,hb⟩:=I.whole _ _ w;rw [hb];rfl
   have js:ah H4 H6:=s5.trans s6;refine jH (λc5=>?_) λc5=>?_
   ·have zF:=ut.mp c5;have zL:=js _ _ sJ;have Jd:ah H1 H6:=vw.trans js;have lw:=k9.1;rw [Ab] at lw;refine jI<|Oo HJ PySem.F.slot_list_extend PySem.F.type_list_extend ML<|af 6 (v:= .ref D3) ⟨Or.inl ⟨rfl,_,av.of zL⟩,dF zC (hr.mono<|Af _)<|ai<|af 5<|ai<|af 1<|aC ⟨R,fB,nm,part,C,aU,k,rfl,Jd _ _ eR,fQ.keep λt xs h=>Jd _ _ h,qH,zD,Sz,h0,inj,aV,d6,zF,hC,hk,λD7 zM H7 s7 U7 Je SJ Jf=>?_⟩⟩;have l7:=Jf.1;have n7:∀ t∈zM,t≠D3:=λt ht e=>by
     have:=Je t ht;rw [e,zL] at this;cases this
    refine⟨D3,D7,ws.map V.ref,zM.map V.ref,rfl,rfl,s7 _ _ zL,SJ,Gr (cY<|by rw [Ab,Ab];omega),?_⟩;refine aS<|df<|af 6<|q D3 (ws++zM) _ (cK (zJ.trans<|js.trans s7) nA) nA (λt h=>?_) (by rw [ae,Ai]) ?_
    ·rcases An.mp h with h | h
     ·exact(fr t h).1
     ·exact ah.free (zJ.trans js)<|Je t h
    ·rw [eT];refine aB.cat (k9.keep λt ht o h=>?_)<|Jf.keep λt ht o h=>?_
     ·rw [aG (fr t ht).2];exact s7 _ _<|js _ _ h
     ·rw [aG<|n7 t ht];exact h
   ·have e0:TL part aU=[]:=CN λh=>c5<|ut.mpr<|(Dt.aT aU part h0 aV).mp h;refine aS<|df<|af 6<|q D3 ws H6 (zJ.trans js) nA (λt h=>(fr t h).1) (js _ _ sJ) ?_;rw [eT,e0,Bg];exact k9.keep λt _ o h=>js _ _ h
end
end Y5
namespace Dt
open PySem bW
theorem SK{es:List bJ}{part:List Nat}(h0:part≠[])(az:∀ e∈es,e.2.1 < part.length/\e.2.2 < part.length)(hs:(es.map (·.1)).Pairwise λa b=>a.cps.toList < b.cps.toList):(((List.range<|2 ^ es.length).filter (tr part (es.map (·.2)))).map (fP (es.map (·.1)))).Nodup:=
 (cx es part).nodup_iff.mpr ((cN es part h0 az hs).imp λ{a b} h e => by
  subst e;have q:=rO h;rw [h] at q;cases q)
open Nt
theorem SL:∀{fs es:List bJ},fs.Sublist es->∀ part,(es.map (·.1)).Nodup->(fs.map (·.1)∈TL part es↔fs.map (·.1)∈TL part fs):=by
 intro fs es h
 induction h with
 | slnil=>exact λ_ _=>LK
 | @cons fs es a h ih=>
  intro part nd;obtain⟨z,x,y⟩:=a;rw [Bq,By] at nd;rw [<- ih part nd.2];show _∈(if part.getD x 0=part.getD y 0 then TL part es else(TL (ax part x y) es).map (z :: ·)++TL part es)↔_
  by_cases c:part.getD x 0=part.getD y 0
  ·rw [BK c]
  ·rw [BJ c,An];refine⟨λk=>k.resolve_left λk=>?_,.inr⟩;obtain⟨t,_,e⟩:=Ak.mp k;have:z∈fs.map (·.1):=by rw [<- e];exact Ah ..
   exact nd.1<|(h.map _).subset this
 | @cons_cons fs es a h ih=>
  intro part nd;obtain⟨z,x,y⟩:=a;have U8:=nd;rw [Bq,By] at nd;have no:∀{gs:List bJ},gs.Sublist es->∀ p,¬(z :: fs.map (·.1))∈TL p gs:=λhg p k=>nd.1<|(hg.map _).subset<|(bE _ _ _ k).subset<|Ah ..;show(z :: fs.map (·.1))∈(if part.getD x 0=part.getD y 0 then TL part es else(TL (ax part x y) es).map (z :: ·)++TL part es)↔(z :: fs.map (·.1))∈(if part.getD x 0=part.getD y 0 then TL part fs else(TL (ax part x y) fs).map (z :: ·)++TL part fs)
  by_cases c:part.getD x 0=part.getD y 0
  ·rw [BK c,BK c];exact⟨λk=>absurd k<|no (List.Sublist.refl _) _,λk=>absurd k<|no h _⟩
  ·rw [BJ c,BJ c,An,An];have e:∀ L:List<|List Str,(z :: fs.map (·.1))∈L.map (z :: ·)↔fs.map (·.1)∈L:=λL=>by
    rw [Ak];exact⟨λ⟨t,h1,h2⟩=>by cases h2;exact h1,λh=>⟨_,h,rfl⟩⟩
   rw [e,e];exact⟨λk=> .inl<|(ih _ nd.2).mp<|k.resolve_right<|no (List.Sublist.refl _) _,λk=> .inl<|(ih _ nd.2).mpr<|k.resolve_right<|no h _⟩
theorem SM{fs es:List bJ}{part C:List Nat}(h:fs.Sublist es)(h0:part≠[])(az:∀ e∈es,e.2.1 < part.length/\e.2.2 < part.length)(hs:(es.map (·.1)).Pairwise λa b=>a.cps.toList < b.cps.toList)(nd:(es.map (·.1)).Nodup)(hC:iy part C) :
  fs.map (·.1)∈TL part es↔AR part fs/\fs.length+1=C.length:=by
 have aV:∀ e∈fs,e.2.1 < part.length/\e.2.2 < part.length:=λe he=>az e<|h.subset he;rw [SL h part nd]
 constructor
 ·intro k;have l:=b7 fs part C h0 aV hC _ k;rw [Ab] at l;exact⟨(aT fs part h0 aV).mp (λe=>by rw [e] at k;cases k),l⟩
 ·rintro ⟨ar,l⟩;rw [i' h0 aV (HX (h.map _) hs) hC l<|(aT fs part h0 aV).mpr ar];exact Ag.mpr rfl
def fC(acc:List<|List Str)(b:List Str):List (List Str):=acc.flatMap λs=>b.map λz=>s++[z]
def CH(bs:List<|List Str):List (List Str):=bs.foldl fC [[]]
theorem cB{bs:List (List Str)}{k:Nat}{b:List Str}(h:bs[k]?=some b):CH (bs.take<|k+1)=fC (CH<|bs.take k) b:=by
 unfold CH;rw [Bn,h,Gi];rfl
def dP(bs:List<|List Str)(c:List Str):Prop:=c.length=bs.length/\∀(k:Nat) z b,c[k]?=some z->bs[k]?=some b->z∈b
theorem fR(bs:List<|List Str):∀ k,k<=bs.length->∀ c,c∈CH (bs.take k)↔dP (bs.take k) c
 | 0,_,c=>by
  show c∈[[]]↔_;rw [Ag]
  constructor
  ·rintro rfl;exact⟨rfl,λk z b h=>by simp at h⟩
  ·intro h;have:=h.1;rw [List.take_zero] at this;exact Ck.mp this
 | k+1,hk,c=>by
  have hb:=Aa (show k < bs.length from hk);generalize bs[k]=b at hb;have ih:=fR bs k (by omega);have l0:(bs.take k).length=k:=by rw [Aq];omega
  have l1:(bs.take<|k+1).length=k+1:=by rw [Aq];omega
  have et:bs.take (k+1)=bs.take k++[b]:=by rw [Bn,hb];rfl
  rw [cB hb];unfold fC;rw [Gk]
  constructor
  ·rintro ⟨s,hs,hc⟩;obtain⟨z,hz,rfl⟩:=Ak.mp hc;obtain⟨p1,p2⟩:=(ih s).mp hs;refine⟨by rw [Ae,p1,l0,l1];rfl,λj y d h1 h2=>?_⟩;rw [et] at h2
   by_cases hj:j < k
   ·rw [Bc<|by omega] at h1 h2;exact p2 j y d h1 h2
   ·have ie:j=k:=by
     have:=(Ac.mp h1).1;rw [Ae,p1,l0] at this;have:j < k+1:=this;omega
    subst ie;rw [Ay<|by omega] at h1 h2;rw [p1,l0,Ey] at h1;rw [l0,Ey] at h2;cases h1;cases h2;exact hz
  ·rintro ⟨p1,p2⟩;rw [l1] at p1;have ck:=Aa (show k < c.length by omega);have ec:c=c.take k++[c[k]]:=by
    have:=Bn (l:=c) (i:=k);rw [ck,Cp<|by omega] at this;exact this
   refine⟨c.take k,(ih _).mpr ⟨by rw [Aq,l0];omega,λj y d h1 h2=>?_⟩,Ak.mpr ⟨c[k],p2 k _ b ck (by rw [et,Ay (by omega),l0,Ey];rfl),ec.symm⟩⟩;have hj:j < k:=by
    have:=(Ac.mp h2).1;omega
   refine p2 j y d ?_ (by rw [et,Bc<|by omega];exact h2);rw [List.getElem?_take,BK hj] at h1;exact h1
theorem fS(bs:List<|List Str):∀ k,k<=bs.length->(CH<|bs.take k).length=((bs.take k).map (·.length)).foldl (· * ·) 1
 | 0,_=>rfl
 | k+1,hk=>by
  have hb:=Aa (show k < bs.length from hk);generalize bs[k]=b at hb;have ih:=fS bs k (by omega);have et:bs.take (k+1)=bs.take k++[b]:=by rw [Bn,hb];rfl
  rw [cB hb,et,Ai,Gi,<- ih];unfold fC;rw [List.length_flatMap];generalize CH (bs.take k)=L;show _=L.length * b.length
  induction L with
  | nil=>simp
  | cons s L ih=>rw [Bq,Dd,ih,Ab,As,Nat.succ_mul,NK]
theorem Jg(bs:List<|List Str)(nd:∀ b∈bs,b.Nodup):∀ k,k<=bs.length->(CH<|bs.take k).Nodup
 | 0,_=>by
  show [[]].Nodup;simp
 | k+1,hk=>by
  have hb:=Aa (show k < bs.length from hk);generalize bs[k]=b at hb;have ih:=Jg bs nd k (by omega);have nb:=nd b<|Au hb;rw [cB hb];unfold fC;refine List.pairwise_flatMap.mpr ⟨λs _=>?_,ih.imp λ{s t} ne x h1 y h2 e=>?_⟩
  ·refine List.Pairwise.map _ (λx y h e=>h ?_) nb;exact(List.cons.inj<|List.append_cancel_left e).1
  ·obtain⟨z,_,rfl⟩:=Ak.mp h1;obtain⟨y,_,rfl⟩:=Ak.mp h2;exact ne<|List.append_inj_left' e rfl
def fT:List Str->List (List Str)->List Str->List (List Str)
 | c,[],l=>[c++l]
 | c,b :: bs,l=>(c++b) :: fT b.reverse bs l
theorem bR:∀(bs:List<|List Str) (c l:List Str),(fT c bs l).length=bs.length+1
 | [],_,_=>rfl
 | b :: bs,c,l=>by
  show(fT b.reverse bs l).length+1=_;rw [bR bs];rfl
theorem zN:∀(bs:List<|List Str) (c l:List Str) (j:Nat),j<=bs.length->(fT c bs l)[j]?=some ((if j=0 then c else(bs.getD (j - 1) []).reverse)++bs.getD j []++(if j=bs.length then l else []))
 | [],c,l,j,hj=>by
  have:j=0:=by simpa using hj
  subst this;show some (c++l)=some (c++[]++l);rw [Bg]
 | b :: bs,c,l,0,_=>by
  show some (c++b)=some (c++b++[]);rw [Bg]
 | b :: bs,c,l,j+1,hj=>by
  show(fT b.reverse bs l)[j]?=_;rw [zN bs _ l j (by simpa using hj),BJ (show j+1≠0 by omega)];have e2:(if j=bs.length then l else [])=if j+1=(b :: bs).length then l else []:=by
   by_cases h:j=bs.length
   ·rw [BK h,BK<|by rw [h];rfl]
   ·rw [BJ h,BJ<|by rw [As];omega]
  rw [e2]
  congr 3
  cases j with
  | zero=>rfl
  | succ j=>rw [BJ<|by omega];rfl
theorem Jh(z:Str):∀(bs:List<|List Str) (c l:List Str),(fT c bs l).flatten.count z=c.count z+2 * bs.flatten.count z+l.count z
 | [],c,l=>by
  show(c++l++[]).count z=_;rw [Bg,Fm];show _=_+2 * 0+_;omega
 | b :: bs,c,l=>by
  show((c++b)++(fT b.reverse bs l).flatten).count z=c.count z+2 * (b++bs.flatten).count z+l.count z;rw [Fm,Jh z bs,Fm,Fm,List.count_reverse];omega
def fA:Option Str->List Str
 | none=>[]
 | some z=>[z,z]
structure ak(n:Net)(bs:List<|List Str)(lo:Option Str):Prop where
 rows:n.map (·.2)=fT [] bs (fA lo)
 gA:(bs.flatten++lo.toList).Nodup
 ne:∀ b∈bs,b≠[]
theorem Ji:∀(bs:List<|List Str) (c l:List Str),(fT c bs l).flatten.length=c.length+2 * bs.flatten.length+l.length
 | [],c,l=>by
  show(c++l++[]).length=_;rw [Bg,Ae];show _=_+2 * 0+_;omega
 | b :: bs,c,l=>by
  show((c++b)++(fT b.reverse bs l).flatten).length=c.length+2 * (b++bs.flatten).length+l.length;rw [Ae,Ji bs,Ae,Ae,Cz];omega
section
variable{n:Net}{bs:List (List Str)}{lo:Option Str}
theorem ak.len(h:ak n bs lo):n.length=bs.length+1:=by
 rw [<- Ab (·.2),h.rows,bR]
theorem Jj(n:Net):aD n=(n.map (·.2)).flatten:=by
 unfold aD;rw [List.flatMap_def]
theorem ak.zO(h:ak n bs lo):(aD n).length=2 * (bs.flatten.length+lo.toList.length):=by
 rw [Jj,h.rows,Ji];cases lo with
 | none=>show 0+_+0=2 * (_+0);omega
 | some z=>show 0+_+2=2 * (_+1);omega
theorem ak.cnt(h:ak n bs lo)(z:Str):(aD n).count z=2 * (bs.flatten++lo.toList).count z:=by
 rw [Jj,h.rows,Jh,Fm];cases lo with
 | none=>show 0+_+0=2 * (_+0);omega
 | some y=>
  show 0+_+[y,y].count z=2 * (_+[y].count z);rw [KN]
  by_cases e:y=z
  ·subst e;simp;omega
  ·have e':(y == z)=false:=by simpa using e
   rw [e',List.count_singleton,e'];simp
theorem ak.mem(h:ak n bs lo){z:Str}:z∈aD n↔z∈bs.flatten\/lo=some z:=by
 rw [<- Ga,h.cnt];have:0 < 2 * (bs.flatten++lo.toList).count z↔z∈bs.flatten++lo.toList:=by
  rw [<- Ga];omega
 rw [this,An,Option.mem_toList]
theorem ak.twice(h:ak n bs lo):eJ n:=λz hz=>by
 have h1:=List.nodup_iff_count.mp h.gA z;have h2:=Ga.mpr hz;rw [h.cnt] at h2 ⊢;omega
theorem ak.row(h:ak n bs lo){j:Nat}(hj:j<=bs.length):row n j=(if j=0 then [] else(bs.getD (j - 1) []).reverse)++bs.getD j []++(if j=bs.length then fA lo else []):=by
 have:=zN bs [] (fA lo) j hj;rw [<- h.rows,Ad] at this;unfold Nt.row;rw [this];rfl
theorem vy(h:ak n bs lo){i j:Nat}{b d:List Str}{z:Str}(hb:bs[i]?=some b)(hd:bs[j]?=some d)(h1:z∈b)(h2:z∈d):i=j:=by
 have hp:=(List.pairwise_flatten.mp (Da.mp h.gA).1).2;rw [Bd] at hp;obtain⟨li,ei⟩:=Ac.mp hb;obtain⟨lj,ej⟩:=Ac.mp hd;subst ei ej
 rcases Nat.lt_trichotomy i j with c | c | c
 ·exact absurd rfl (hp i j li lj c z h1 z h2)
 ·exact c
 ·exact absurd rfl (hp j i lj li c z h2 z h1)
theorem ak.ja(h:ak n bs lo){k:Nat}{b:List Str}{z:Str}(hb:bs[k]?=some b)(hz:z∈b):z∈bs.flatten:=List.mem_flatten.mpr ⟨b,Au hb,hz⟩
theorem ak.nB(h:ak n bs lo){z:Str}(hz:z∈bs.flatten)(e:lo=some z):False:=(Da.mp h.gA).2.2 z hz z (by rw [e];simp) rfl
theorem Jk{z:Str}{j:Nat}(hz:z∈row n j):∃ p,(j,p)∈pos n z:=by
 obtain⟨p,hp⟩:=At hz;exact⟨p,cu.mpr hp⟩
theorem ak.lh(h:ak n bs lo){k j:Nat}{b:List Str}{z:Str}(hb:bs[k]?=some b)(hz:z∈b)(hj:j<=bs.length)(hr:z∈Nt.row n j):j=k\/j=k+1:=by
 rw [h.row hj] at hr
 rcases An.mp hr with q | q
 ·rcases An.mp q with q | q
  ·by_cases e:j=0
   ·rw [BK e] at q;cases q
   rw [BJ e,Em,Az] at q;cases hd:bs[j - 1]? with
   | none=>rw [hd] at q;cases q
   | some d=>
    rw [hd] at q;have:=vy h hb hd hz q;omega
  ·rw [Az] at q;cases hd:bs[j]? with
   | none=>rw [hd] at q;cases q
   | some d=>
    rw [hd] at q;exact .inl (vy h hb hd hz q).symm
 ·exfalso
  by_cases e:j=bs.length
  ·rw [BK e] at q;cases lo with
   | none=>cases q
   | some y=>
    have:z=y:=by
     have q:z∈[y,y]:=q
     simpa using q
    exact h.nB (h.ja hb hz)<|by rw [this]
  ·rw [BJ e] at q;cases q
theorem ak.left(h:ak n bs lo){k:Nat}{b:List Str}{z:Str}(hb:bs[k]?=some b)(hz:z∈b):z∈Nt.row n k:=by
 have hk:=(Ac.mp hb).1;rw [h.row (by omega),Az (l:=bs) (i:=k),hb];exact Ba _<|Ao _ hz
theorem ak.right(h:ak n bs lo){k:Nat}{b:List Str}{z:Str}(hb:bs[k]?=some b)(hz:z∈b):z∈Nt.row n (k+1):=by
 have hk:=(Ac.mp hb).1;rw [h.row (by omega),BJ (by omega),show k+1 - 1=k by omega,Az (l:=bs) (i:=k),hb];exact Ba _<|Ba _<|Em.mpr hz
theorem ak.ends(h:ak n bs lo){k:Nat}{b:List Str}{z:Str}(hb:bs[k]?=some b)(hz:z∈b):bB n z=(k,k+1)\/bB n z=(k+1,k):=by
 have hk:=(Ac.mp hb).1;obtain⟨a,c,hp⟩:=qO h.twice<|h.mem.mpr<|.inl<|h.ja hb hz;rw [qN hp];obtain⟨p,h1⟩:=Jk<|h.left hb hz;obtain⟨q,h2⟩:=Jk<|h.right hb hz;have ra:=gQ (n:=n) (z:=z) (e:=a) (by rw [hp];simp);have rc:=gQ (n:=n) (z:=z) (e:=c) (by rw [hp];simp);have hn:=h.len;have ia:=h.lh hb hz (by omega) ra.2;have ic:=h.lh hb hz (by omega) rc.2;rw [hp] at h1 h2;have e1:k=a.1\/k=c.1:=by
  rcases Am.mp h1 with e | e
  ·exact .inl<|by rw [<- e]
  ·exact .inr<|by rw [<- Ag.mp e]
 have e2:k+1=a.1\/k+1=c.1:=by
  rcases Am.mp h2 with e | e
  ·exact .inl<|by rw [<- e]
  ·exact .inr<|by rw [<- Ag.mp e]
 rcases ia with ia | ia
 ·exact .inl<|by rw [ia,show c.1=k+1 by omega]
 ·exact .inr<|by rw [ia,show c.1=k by omega]
theorem ak.loop(h:ak n bs lo){z:Str}(e:lo=some z):(bB n z).1=(bB n z).2:=by
 have ht:=h.mem.mpr<|.inr e;have hn:=h.len;have only:∀ x∈pos n z,x.1=bs.length:=λx hx=>by
  obtain⟨r1,r2⟩:=gQ hx;rw [h.row<|by omega] at r2
  rcases An.mp r2 with q | q
  ·exfalso
   rcases An.mp q with q | q
   ·by_cases c:x.1=0
    ·rw [BK c] at q;cases q
    rw [BJ c,Em,Az] at q;cases hd:bs[x.1 - 1]? with
    | none=>rw [hd] at q;cases q
    | some d=>rw [hd] at q;exact h.nB (h.ja hd q) e
   ·rw [Az] at q;cases hd:bs[x.1]? with
    | none=>rw [hd] at q;cases q
    | some d=>rw [hd] at q;exact h.nB (h.ja hd q) e
  ·by_cases c:x.1=bs.length
   ·exact c
   ·rw [BJ c] at q;cases q
 obtain⟨a,b,hp⟩:=qO h.twice ht;rw [qN hp,only a (by rw [hp];simp),only b (by rw [hp];simp)]
theorem ak.zP(h:ak n bs lo):iO n:=by
 intro P ⟨r0,qX,p0⟩ st;have hn:=h.len;have nb:∀ j (hj:j+1 < n.length),(P (n[j]'(by omega)).1↔P n[j+1].1):=λj hj=>by
  have hb:=Aa (show j < bs.length by omega);obtain⟨z,hz⟩:=Fu _<|h.ne _<|Au hb;have l:=h.left hb hz;have r:=h.right hb hz;have e1:Nt.row n j=(n[j]'(by omega)).2:=by unfold Nt.row;rw [Aa<|by omega];rfl
  have e2:Nt.row n (j+1)=n[j+1].2:=by unfold Nt.row;rw [Aa hj];rfl
  rw [e1] at l;rw [e2] at r;exact⟨st _ (Bp _) _ (Bp _) z l r,st _ (Bp _) _ (Bp _) z r l⟩
 have all:∀ j (hj:j < n.length),(P (n[0]'(by omega)).1↔P n[j].1):=λj=>by
  induction j with
  | zero=>exact λ_=>LK
  | succ j ih=>exact λhj=>(ih<|by omega).trans<|nb j hj
 obtain⟨i,hi,e⟩:=Cs qX;intro r hr;obtain⟨j,hj,rfl⟩:=Cs hr;subst e;exact(all j hj).mp<|(all i hi).mpr p0
theorem Jl{V:Nat}{fs:List bJ}(az:∀ e∈fs,e.2.1 < V/\e.2.2 < V):lb (List.range V) fs=fs.map (·.2):=by
 unfold lb;refine Bk λe he=>?_;have ra:∀{i:Nat},i < V->(List.range V).getD i 0=i:=λh=>by rw [Az,Cr h];rfl
 rw [ra (az e he).1,ra (az e he).2]
theorem ak.cross(h:ak n bs lo){fs:List bJ}(hf:∀ e∈fs,e.1∈aD n/\e.2=bB n e.1)(ar:AR (List.range n.length) fs){k:Nat}{b:List Str}(hb:bs[k]?=some b):∃ z∈b,z∈fs.map (·.1):=by
 refine CN λno=>?_;have hk:=(Ac.mp hb).1;have hn:=h.len;have az:∀ e∈fs,e.2.1 < n.length/\e.2.2 < n.length:=λe he=>by rw [(hf e he).2];exact kU h.twice (hf e he).1
 have w:=ar 0 (Ce.mpr<|by omega) (k+1) (Ce.mpr<|by omega);rw [Jl az] at w;have key:∀{x:Nat},Rc (fs.map (·.2)) 0 x->x<=k:=λ{x} w=>by
  induction w with
  | here=>omega
  | @step b' c _ hs ih=>
   have fin:∀ e∈fs,(e.2=(b',c)\/e.2=(c,b'))->c<=k:=λe he hc=>by
    obtain⟨t1,t2⟩:=hf e he
    rcases h.mem.mp t1 with q | q
    ·obtain⟨d,hd,hz⟩:=List.mem_flatten.mp q;obtain⟨j,hj⟩:=At hd;have nk:j≠k:=λe'=>by
      rw [e',hb] at hj;cases hj;exact no ⟨e.1,hz,Ak.mpr ⟨e,he,rfl⟩⟩
     have en:=h.ends hj hz;rw [<- t2] at en
     rcases en with en | en <;> rcases hc with hc | hc <;> rw [en] at hc <;> cases hc <;> omega
    ·have:=h.loop q;rw [<- t2] at this
     rcases hc with hc | hc <;> rw [hc] at this <;> (have this:_=_:=this;simp only at this;omega)
   rcases hs with hs | hs
   ·obtain⟨e,he,e2⟩:=Ak.mp hs;exact fin e he<|.inl e2
   ·obtain⟨e,he,e2⟩:=Ak.mp hs;exact fin e he<|.inr e2
 have:=key w;omega
theorem ak.reach(h:ak n bs lo){fs:List bJ}(hf:∀ e∈fs,e.1∈aD n/\e.2=bB n e.1)(hc:∀(k:Nat) b,bs[k]?=some b->∃ z∈b,z∈fs.map (·.1)):AR (List.range n.length) fs:=by
 have hn:=h.len;have az:∀ e∈fs,e.2.1 < n.length/\e.2.2 < n.length:=λe he=>by rw [(hf e he).2];exact kU h.twice (hf e he).1
 have w0:∀ j,j < n.length->Rc (lb (List.range n.length) fs) 0 j:=λj=>by
  rw [Jl az]
  induction j with
  | zero=>exact λ_=> .here
  | succ j ih=>
   intro hj;have hb:=Aa (show j < bs.length by omega);obtain⟨z,hz,hm⟩:=hc j _ hb;obtain⟨e,he,rfl⟩:=Ak.mp hm;have en:=h.ends hb hz;rw [<- (hf e he).2] at en;refine(ih<|by omega).step ?_
   rcases en with en | en
   ·exact .inl<|by rw [<- en];exact Ak.mpr ⟨e,he,rfl⟩
   ·exact .inr<|by rw [<- en];exact Ak.mpr ⟨e,he,rfl⟩
 exact λc hc d hd=>(w0 c<|Ce.mp hc).symm.trans<|w0 d<|Ce.mp hd
theorem dP.nodup(h:ak n bs lo){c:List Str}(p:dP bs c):c.Nodup:=by
 rw [Bj,Bd];intro i j hi hj lt e;have l:=p.1;have b1:=Aa (show i < bs.length by omega);have b2:=Aa (show j < bs.length by omega);have m1:=p.2 i _ _ (Aa hi) b1;have m2:=p.2 j _ _ (Aa hj) b2;rw [e] at m1;have:=vy h b1 b2 m1 m2;omega
theorem dP.eq(h:ak n bs lo){c d:List Str}(p:dP bs c)(q:dP bs d)(m:∀ z∈c,z∈d):c=d:=by
 refine Ct λi=>?_;have l:=p.1;have l':=q.1
 by_cases hi:i < bs.length
 ·have c1:=Aa (show i < c.length by omega);have b1:=Aa hi;obtain⟨j,hj⟩:=At (m _<|Bp (show i < c.length by omega));have lj:=(Ac.mp hj).1;have b2:=Aa (show j < bs.length by omega);have:=vy h b1 b2 (p.2 i _ _ c1 b1)<|q.2 j _ _ hj b2;subst this;rw [c1,hj]
 ·rw [Br (by omega),Br<|by omega]
theorem dP.sub(h:ak n bs lo){c:List Str}(p:dP bs c){z:Str}(hz:z∈c):z∈aD n:=by
 obtain⟨i,hi⟩:=At hz;have l:=p.1;have li:=(Ac.mp hi).1;have b1:=Aa (show i < bs.length by omega);exact h.mem.mpr<|.inl<|h.ja b1<|p.2 i _ _ hi b1
theorem cC(bs:List<|List Str)(c:List Str):c∈CH bs↔dP bs c:=by
 have:=fR bs bs.length (Af _) c;rw [Bi] at this;exact this
theorem ak.tree(h:ak n bs lo){ss:List Str}(bI:aK ss)(mem:∀ z,z∈ss↔z∈aD n)(t:List Str):t∈TL (List.range n.length) (ss.map λz=>(z,bB n z))↔aK t/\∃ c∈CH bs,∀ z,z∈t↔z∈c:=by
 have hn:=h.len;have e1:(ss.map λz=>((z,bB n z):bJ)).map (·.1)=ss:=by rw [Be];exact Gc _
 have snd:=xY bI;have r0:List.range n.length≠[]:=λe=>by
  have:=CJ List.length e;rw [Bh,Dp] at this;omega
 have hC:iy (List.range n.length) (List.range n.length):=⟨Fr,λ_=>LK⟩;have fm:∀ e∈(ss.map λz=>((z,bB n z):bJ)),e.2.1 < (List.range n.length).length/\e.2.2 < (List.range n.length).length:=λe he=>by
  obtain⟨z,hz,rfl⟩:=Ak.mp he;rw [Bh];exact kU h.twice<|(mem z).mp hz
 have ol:∀ e∈(ss.map λz=>((z,bB n z):bJ)),e.1∈aD n/\e.2=bB n e.1:=λe he=>by
  obtain⟨z,hz,rfl⟩:=Ak.mp he;exact⟨(mem z).mp hz,rfl⟩
 have tm:∀ fs:List bJ,fs.Sublist (ss.map λz=>(z,bB n z))->(fs.map (·.1)∈TL (List.range n.length) (ss.map λz=>(z,bB n z))↔AR (List.range n.length) fs/\fs.length+1=n.length):=λfs hs=>by
  have:=SM hs r0 fm (by rw [e1];exact bI) (by rw [e1];exact snd) hC;rw [Bh] at this;exact this
 constructor
 ·intro ht;have nC:=bE _ _ t ht;obtain⟨fs,hs,rfl⟩:=List.sublist_map_iff.mp nC;obtain⟨ar,lf⟩:=(tm fs hs).mp ht;have hf:=λe he=>ol e<|hs.subset he;have st:aK (fs.map (·.1)):=by rw [e1] at nC;exact HX nC bI
  refine⟨st,?_⟩;have ex:∀ k,k<=bs.length->∃ c∈CH (bs.take k),∀ z∈c,z∈fs.map (·.1):=λk=>by
   induction k with
   | zero=>exact λ_=>⟨[],by show []∈[[]];simp,λz hz=>by cases hz⟩
   | succ k ih=>
    intro hk;obtain⟨c,hc,hm⟩:=ih (by omega);have hb:=Aa (show k < bs.length from hk);obtain⟨z,hz,SN⟩:=h.cross hf ar hb;refine⟨c++[z],?_,λy hy=>?_⟩
    ·rw [cB hb];exact Gk.mpr ⟨c,hc,Ak.mpr ⟨z,hz,rfl⟩⟩
    ·rcases An.mp hy with q | q
     ·exact hm y q
     ·rw [Ag.mp q];exact SN
  obtain⟨c,hc,hm⟩:=ex bs.length<|Af _;rw [Bi] at hc;have pk:=(cC bs c).mp hc;refine⟨c,hc,λz=>⟨λhz=>?_,hm z⟩⟩;refine CN λno=>?_;have:=bn (a:=z :: c) (b:=fs.map (·.1)) (By.mpr ⟨no,pk.nodup h⟩) λy hy=>by
   rcases Am.mp hy with q | q
   ·rw [q];exact hz
   ·exact hm y q
  rw [As,Ab,pk.1] at this;omega
 ·rintro ⟨st,c,hc,hm⟩;have pk:=(cC bs c).mp hc;have hs:((ss.map λz=>((z,bB n z):bJ)).filter λe=>decide (e.1∈c)).Sublist (ss.map λz=>(z,bB n z)):=List.filter_sublist;have e2:((ss.map λz=>((z,bB n z):bJ)).filter λe=>decide (e.1∈c)).map (·.1)=t:=by
   refine qw ?_ st λz=>?_
   ·have:=hs.map (·.1);rw [e1] at this;exact HX this bI
   ·rw [hm,Ak]
    constructor
    ·rintro ⟨e,he,rfl⟩;exact CQ (Fa.mp he).2
    ·intro hz;exact⟨(z,bB n z),Fa.mpr ⟨Ak.mpr ⟨z,(mem z).mpr<|pk.sub h hz,rfl⟩,CK hz⟩,rfl⟩
  rw [<- e2];refine(tm _ hs).mpr ⟨h.reach (λe he=>ol e<|hs.subset he) λk b hb=>?_,?_⟩
  ·rw [e2];have l:=pk.1;have hk:=(Ac.mp hb).1;have ck:=Aa (show k < c.length by omega);exact⟨c[k],pk.2 k _ b ck hb,(hm _).mpr<|Bp _⟩
  ·have l1:=CJ List.length e2;rw [Ab] at l1;rw [l1];have g1:=bn (xY st) λz hz=>(hm z).mp hz;have g2:=bn (pk.nodup h) λz hz=>(hm z).mpr hz;have:=pk.1;omega
theorem ak.due(h:ak n bs lo){ss:List Str}(bI:aK ss)(mem:∀ z,z∈ss↔z∈aD n){D:List (List Str)}(hl:D.length=(CH bs).length)(hD:∀(j:Nat) c t,(CH bs)[j]?=some c->D[j]?=some t->aK t/\∀ z,z∈t↔z∈c) :
  D.Nodup/\D.Perm (TL (List.range n.length)<|ss.map λz=>(z,bB n z)):=by
 have hn:=h.len;have e1:(ss.map λz=>((z,bB n z):bJ)).map (·.1)=ss:=by rw [Be];exact Gc _
 have r0:List.range n.length≠[]:=λe=>by
  have:=CJ List.length e;rw [Bh,Dp] at this;omega
 have fm:∀ e∈(ss.map λz=>((z,bB n z):bJ)),e.2.1 < (List.range n.length).length/\e.2.2 < (List.range n.length).length:=λe he=>by
  obtain⟨z,hz,rfl⟩:=Ak.mp he;rw [Bh];exact kU h.twice<|(mem z).mp hz
 have lH:(CH bs).Nodup:=by
  have:=Jg bs (λb hb=>(List.pairwise_flatten.mp (Da.mp h.gA).1).1 b hb) bs.length<|Af _;rw [Bi] at this;exact this
 have at':∀{j:Nat} (hj:j < D.length),∃ c,(CH bs)[j]?=some c/\aK D[j]/\∀ z,z∈D[j]↔z∈c:=λ{j} hj=>by
  have hc:=Aa (show j < (CH bs).length by omega);exact⟨_,hc,hD j _ _ hc<|Aa hj⟩
 have nD:D.Nodup:=by
  rw [Bj,Bd];intro i j hi hj lt e;obtain⟨c,c1,_,c3⟩:=at' hi;obtain⟨d,d1,_,d3⟩:=at' hj;have:c=d:=dP.eq h ((cC bs c).mp<|Au c1) ((cC bs d).mp<|Au d1) λz hz=>(d3 z).mp (by rw [<- e];exact(c3 z).mpr hz);subst this;have:=(Gg (show i < (CH bs).length by omega) lH).mp<|c1.trans d1.symm;omega
 have nT:(TL (List.range n.length)<|ss.map λz=>((z,bB n z):bJ)).Nodup:=(cx _ _).nodup_iff.mp (SK r0 fm<|by rw [e1];exact bI);refine⟨nD,(JF nD nT).mpr λt=>?_⟩;rw [h.tree bI mem t]
 constructor
 ·intro ht;obtain⟨j,hj,rfl⟩:=Cs ht;obtain⟨c,c1,c2,c3⟩:=at' hj;exact⟨c2,c,Au c1,c3⟩
 ·rintro ⟨st,c,hc,hm⟩;obtain⟨j,hj,rfl⟩:=Cs hc;obtain⟨d,d1,d2,d3⟩:=at' (show j < D.length by omega);rw [Aa hj] at d1;cases d1;rw [qw st d2 λz=>(hm z).trans (d3 z).symm];exact Bp _
theorem ak.many(h:ak n bs lo){ss:List Str}(bI:aK ss)(mem:∀ z,z∈ss↔z∈aD n):(TL (List.range n.length)<|ss.map λz=>(z,bB n z)).length=(bs.map (·.length)).foldl (· * ·) 1:=by
 obtain⟨D,hl,hD⟩:∃ D:List<|List Str,D.length=(CH bs).length/\∀(j:Nat) c t,(CH bs)[j]?=some c->D[j]?=some t->aK t/\∀ z,z∈t↔z∈c:=by
  refine⟨(CH bs).map λc=>Classical.choose<|uM c,Ab _,λj c t h1 h2=>?_⟩;rw [Ad,h1] at h2;cases h2;exact Classical.choose_spec<|uM c
 rw [<- (h.due bI mem hl hD).2.length_eq,hl];have:=fS bs bs.length<|Af _;rw [Bi] at this;exact this
end
end Dt
namespace L2
open PySem PySem.Spec PyProof.Rows bG
section
variable{X:Cx}
theorem SQ{l:List Stmt}{D:Ends}{σ:St}{H:Hp}(h:Run X.jB l D σ H):Run X l D σ H:=⟨λpins s I=>(kF (X:=X.jB)).jB pins s σ H D I h⟩
end
end L2
namespace L2
open PySem PySem.Spec PyProof.Rows
section
variable{X:Cx}{tg:Expr}
end
section
variable{X:Cx}{elt tg iter:Expr}{ifs:List Expr}{scope:Scope}{pos:Pos}{N':List Str}{n:Nat}{wi:TI}{g:TG}{tc:TT}{te:TE}
end
section
variable{X:Cx}{elt tg iter c:Expr}{ifs:List Expr}{scope:Scope}{pos p:Pos}{wi:TI}{σ:St}{H:Hp}{Q:VK}{T:Bool->Hp->Prop}{rest:List Stmt}{D:Ends}
end
section
variable{X:Cx}{k:Nat}{ps:List Str}{sp:Addr->Obj->Sp}{E:XK}{x:Str}{p pos:Pos}{e:Expr}{es:List Expr}{σ:St}{H:Hp}{Q:VK}
end
theorem SR{X:Cx}{σ:St}{H:Hp}{D:Ends}{rest body fh:List Stmt}{b₀:Stmt}{x:Str}{S:Addr}{np hp pos:Pos}(Φ:Value->St->Hp->Prop)(hm:X.mg x=some (.ref S))(hS:XC X.K S)
  (hb:∀ p,Run (mY X p Φ) body {D with nx:=λσ' H'=>Run X rest D σ' H'} σ H)
  (hh:∀ C σ' H',Φ C σ' H'->∃ Ca,C = .ref Ca/\XC X.K Ca/\jX X.K Ca S=true/\∀ p ea oe,qZ oe C->H' ea=none->Run (cL X p ea) (b₀ :: fh) {D with nx:=λσ' H'=>Run X rest D σ' H'} σ' (upd H' ea<|XO oe))
  (hex:X.ex=[]:=by rfl) (cb:X.stack=X.env :: X.outer:=by rfl) (hZ:X.env.frame=some X.env.locals:=by rfl)
  (hg:Gl X x:=by rfl) (bY:(x == ("__debug__" : Str))=false:=by decide) :
  Run X (.Try body [.ExceptHandler (some<|.Name x np) none (b₀ :: fh) hp] [] [] pos :: rest) D σ H:=by
 refine gM (t:=λD' σ H=>∀ p,Run (mY X p Φ) body {D with nx:=λσ' H'=>Run X rest D σ' H'} σ H/\D'={D with nx:=λσ' H'=>Run X rest D σ' H'}) ?_ λp=>⟨hb p,rfl⟩;intro p0 s σ H D' I h;obtain⟨hb,rfl⟩:=h p0;refine wpAny_Try_except<|CP (hb.run [] s<|(I.iV (pins:=[])).cH _) (λf s1 q=>?_) λe s1 q=>?_
 ·have out:∀{pp:List (Addr×Obj)} {σ':St} {H':Hp},Inv (mY X p0 Φ) pp σ' H' s1->Inv X p0 σ' H' s1:=λJ=>(J.aX).dg;cases f with
  | next=>
   obtain⟨σ',H',J,q⟩:=q;exact vW p0 s1 σ' H' _ (out J) q
  | brk=>obtain⟨σ',H',J,q⟩:=q;exact⟨σ',H',out J,q⟩
  | cont=>obtain⟨σ',H',J,q⟩:=q;exact⟨σ',H',out J,q⟩
  | ret u=>obtain⟨v,σ',H',J,r,q⟩:=q;exact⟨v,σ',H',out J,r,q⟩
 ·obtain⟨pp,σ',H',ea,T,C,rfl,J,x1,a1,a2,n1,n2,hΦ⟩:=q;obtain⟨Ca,rfl,hC,mZ,m4⟩:=hh C σ' H' hΦ;have fr:(X.aP p0).A.frames=some (X.env :: X.outer):=by rw [<- cb];exact J.ok.frames
  have g8:s1.heap.FunFrames X.base (X.env :: X.outer):=by rw [<- cb];exact J.stack
  refine He fr g8 hZ x1 λh2 T' z x2 k=>?_;have k':Kp (cF (X.aP p0).stack) [ea,T] s1.heap h2:=by
   show Kp (cF X.stack) [ea,T] s1.heap h2;rw [cb];exact k
  have J2:Inv (X.aP p0) pp σ' H' {s1 with heap:=h2}:=J.kp (t':=s1.toks) hex k' (λb hb=>by
   rcases Am.mp hb with y | y
   ·rw [y];exact a1
   ·rw [Ag.mp y];exact a2) (λb hb=>by
   rcases Am.mp hb with y | y
   ·rw [y];exact n1
   ·rw [Ag.mp y];exact n2)
  have a3:=uU J hex z;have n3:H' T'=none:=uT J.aw z;have J3:Inv (cL X p0 ea) pp σ' H' {s1 with heap:=h2}:=J2.hd;obtain⟨⟨oe,vs,he,hc,jV,hd,h1,jK⟩,bf,yC⟩:=id x2;refine wpAny_handleBy_cons (codeAny_handlers_test<|nR J3 hg hm ?_ bY) (by intro q;cases q);refine Hm J3.dq hC hS mZ he hc ?_;refine codeAny_handlers_suite<|Hg x2 λh3 x3 k3=>?_;have J4:Inv (cL X p0 ea) pp σ' H' {s1 with heap:=h3}:=J3.kp (s:={s1 with heap:=h2}) (t':=s1.toks) (bad:=[T']) hex ⟨λb o q _ nb=>k3 b o (λy=>nb<|by simp [y]) q,λb o q hb=>⟨o.slots,k3 b o (λy=>by
   obtain⟨_,o',dC,jh⟩:=J3.stack.mem hb;obtain⟨oT,ts,hT,dT,_⟩:=yC;rw [y] at dC;have:=dC.symm.trans hT;cases this;exact jh _ dT) q⟩⟩ (λb hb=>by rw [Ag.mp hb];exact⟨a3.l,a3.c,a3.p,a3.f,a3.s⟩) λb hb=>by rw [Ag.mp hb];exact n3
  obtain⟨⟨rh,yD,rk,yE,m5,yF,rp,yG⟩,_,_⟩:=x3;have J5:Inv (cL X p0 ea) pp σ' (upd H' ea<|XO rh) {s1 with heap:=h3}:=J4.kW hex ⟨a1.l,a1.c,a1.p,a1.f,a1.s⟩ n1 ⟨rk,⟨_,rk⟩⟩;refine CP ((m4 p0 ea rh ⟨yE,m5,yD,yF,yG⟩ n1).run pp _ J5) (λf s5 q=>?_) λ_ _ z=>z.elim;have out:∀{σ2:St} {H2:Hp} {s6:Shared},Inv (cL X p0 ea) pp σ2 H2 s6->Inv X p0 σ2 H2 s6:=λJ=>((J.rg (kX:=[]) J2.ok.hd).dg);cases f with
  | next=>
   obtain⟨σ2,H2,J7,q⟩:=q;exact⟨σ2,H2,out J7,q⟩
  | brk=>
   obtain⟨σ2,H2,J7,q⟩:=q;exact⟨σ2,H2,out J7,q⟩
  | cont=>
   obtain⟨σ2,H2,J7,q⟩:=q;exact⟨σ2,H2,out J7,q⟩
  | ret u=>
   obtain⟨v,σ2,H2,J7,r,q⟩:=q;exact⟨v,σ2,H2,out J7,r,q⟩
end L2
namespace Y5
open PySem L2 Nt bG
open Dt (bJ TL AR iy ax)
noncomputable def fD(n:Net)(ss:List Str):List bJ:=ss.map λz=>(z,bB n z)
theorem Jm{V i:Nat}(h:i < V):(List.range V).getD i 0=i:=by rw [Az,Cr h];rfl
theorem ls_eq{n:Net}(T:eJ n){ls:List Lk}(so:oE ls)(mem:∀ x,x∈ls↔iN n x){ss:List Str}(hs:aK ss)(hm:∀ z,z∈ss↔z∈aD n):ls=cO (bt n) (List.range n.length) (fD n ss):=by
 have e:ls.map (·.1)=ss:=by
  refine qw (List.Pairwise.map (λx:Lk=>x.1) (R:=λx y:Lk=>x.1.cps.toList < y.1.cps.toList) (λx y h=>h) so) hs λz=>?_;rw [hm,Ak]
  constructor
  ·rintro ⟨x,hx,rfl⟩;exact uR<|(mem x).mp hx
  ·intro hz;obtain⟨a,b,hp⟩:=qO T hz;exact⟨(z,bt n a.1,bt n b.1),(mem _).mpr ⟨a,b,hp,rfl,rfl⟩,rfl⟩
 unfold cO fD;rw [Be,<- e,Be];refine(Gc ls).symm.trans<|Bk λx hx=>?_;obtain⟨a,b,hp,h1,h2⟩:=(mem x).mp hx;have la:=(gQ (n:=n) (z:=x.1) (e:=a)<|by rw [hp];simp).1;have lb:=(gQ (n:=n) (z:=x.1) (e:=b)<|by rw [hp];simp).1;show x=(x.1,bt n<|(List.range n.length).getD (bB n x.1).1 0,bt n<|(List.range n.length).getD (bB n x.1).2 0);rw [qN hp,Jm la,Jm lb,<- h1,<- h2]
theorem Jn(n:Net)(ss:List Str):(fD n ss).map (·.1)=ss:=by
 unfold fD;rw [Be];exact Gc _
theorem SU(n:Net)(ss:List Str):(fD n ss).map (·.2)=ss.map (bB n):=by
 unfold fD;rw [Be];rfl
theorem Jo{n:Net}(cv:0 < n.length){ss:List Str}(az:∀ e∈ss.map (bB n),e.1 < n.length/\e.2 < n.length):(((TL (List.range n.length)<|fD n ss).length:Nat):Int)=Dt.De ((List.range<|n.length - 1).map (·+1)) (ss.map<|bB n):=by
 rw [<- (Dt.cx (fD n ss)<|List.range n.length).length_eq,Ab,SU];have:=Dt.iT (ss.map<|bB n)<|List.range n.length;rw [Ab] at this;have el:(fD n ss).length=ss.length:=Ab _;rw [el,this];exact Dt.mW cv az
def bN:List Str:=["TooMany","NoNet","NoTie"]
structure Cl(K:PySem.W.Frag)(mg:Str->Option Value)(c:Str->Addr):Prop where
 SV:mg "NetError" = some (.ref<|c "NetError")
 zQ:XC K<|c "NetError"
 at':∀ x∈bN,mg x=some (.ref<|c x)/\XC K (c x)/\jX K (c x) (c "NetError")=true/\jY K (c x)=true/\PySem.W.kitOne K (.ref<|c x) (.type "ValueError")=some true
 Jp:∀ x∈bN,∀ y∈bN,PySem.W.kitOne K (.ref<|c x) (.ref<|c y)=some (decide (x=y))
 own:∀ x∈bN,jX K (c x) (c x)=true
def gF(K:PySem.W.Frag)(x:Str):Addr:=match PySem.W.nsIn K mainGlobals x with
 | some (some<|.ref a)=>a
 | _=>0
def zR(K:PySem.W.Frag):Bool:=(PySem.W.nsIn K mainGlobals "NetError" == some (some<|.ref<|gF K "NetError")) && PySem.W.excIn K (gF K "NetError") jW "ValueError.__new__" &&
 bN.all λx=>(PySem.W.nsIn K mainGlobals x == some (some<|.ref<|gF K x)) && PySem.W.excIn K (gF K x) jW "ValueError.__new__" && jX K (gF K x) (gF K "NetError") && jY K (gF K x) && (PySem.W.kitOne K (.ref<|gF K x) (.type "ValueError") == some true) && jX K (gF K x) (gF K x) &&
  bN.all λy=>PySem.W.kitOne K (.ref<|gF K x) (.ref<|gF K y) == some (decide (x=y))
theorem SW{K:PySem.W.Frag}{h:Heap}{mg:Str->Option Value}(X:K.In h)(G:h.Ns mainGlobals mg)(q:zR K=true):Cl K mg (gF K):=by
 unfold zR at q;simp only [Cg,Dj,beq_iff_eq] at q;obtain⟨⟨q1,q2⟩,q3⟩:=q;exact⟨FW X G q1,q2,λx hx=>by obtain⟨⟨⟨⟨⟨⟨a1,a2⟩,a3⟩,a4⟩,a5⟩,_⟩,_⟩:=q3 x hx;exact⟨FW X G a1,a2,a3,a4,a5⟩,λx hx y hy=>(q3 x hx).2 y hy,λx hx=>(q3 x hx).1.2⟩
noncomputable def nE(n:Net)(ss:List Str):List (List Str):=TL (List.range n.length)<|fD n ss
def nF(c:Str->Addr):Sp:=λvs H Q E=>∃(R:Addr) (as:List<|Addr×Addr) (n:Net) (ss:List Str),vs=[.ref R]/\a6 H R as n/\eJ n/\(n.map (·.1)).Nodup/\n≠[]/\n.length<=60/\(aD n).length<=80/\iO n/\aK ss/\(∀ z,z∈ss↔z∈aD n) /\
 (300 < (nE n ss).length->∀ H',ah H H'->E (.ref<|c "TooMany") none H') /\
 ((nE n ss).length<=300->∀(D:Addr) (ts:List Addr) (H':Hp),ah H H'->H D=none->(∀ t∈ts,H t=none)->H' D=some (.lst<|ts.map V.ref)->aB H' ts (nE n ss)->Q (.ref D) H')
section
variable{P:Program}{w:World}{K:PySem.W.Frag}{mg:Str->Option Value}{base:Heap}
abbrev SY:List Str:=["rows"]
theorem sM:au SY ["rows"] (aR uC):=⟨rfl,rfl,rfl,by decide +kernel,rfl,by decide +kernel,by decide +kernel⟩
theorem SZ{f:Addr}{fd:FuncData}{c:Nat}{cc:Str->Addr}(F:bL K "trees_of" "trees_of" uC f fd)(T:Txt mg)(cl:Cl K mg cc)(hc:3<=c)(GC:aN P w K mg base 3 "tree_count" ["rows"] oJ)(GL:aN P w K mg base 1 "links_of" ["rows"] qQ)(GT:aN P w K mg base c "trees_by" ["links","many"]<|ke 40):aA P w K mg base (XF P w) (c+1) f fd ["rows"] (nF cc):=by
 refine F.gx sM (λvs H Q E h=>?_) λb0 H vs Q hr h=>?_
 ·obtain⟨R,as,n,ss,rfl,_⟩:=h;rfl
 obtain⟨R,as,n,ss,rfl,hR,hT,hN,h0,hn,ig,hH,bI,mem,qE,q⟩:=h;have nd:=sM.nd;have jP:=hR.len;have cv:0 < n.length:=Gq.mpr h0;have ssl:2 * ss.length<=80:=by
  have:=yf hT (xY bI) λz hz=>(mem z).mp hz;omega
 have az:∀ e∈ss.map (bB n),e.1 < n.length/\e.2 < n.length:=λe he=>by
  obtain⟨z,hz,rfl⟩:=Ak.mp he;exact kU hT<|(mem z).mp hz
 have fm:∀ e∈fD n ss,e.2.1 < (List.range n.length).length/\e.2.2 < (List.range n.length).length:=λe he=>by
  obtain⟨z,hz,rfl⟩:=Ak.mp he;rw [Bh];exact kU hT<|(mem z).mp hz
 have r0:List.range n.length≠[]:=λe=>by
  have:=CJ List.length e;rw [Bh,Dp] at this;omega
 have hC:iy (List.range n.length) (List.range n.length):=⟨Fr,λ_=>LK⟩;have Jq:(fD n ss).length<=40:=by
  show(ss.map _).length<=40;rw [Ab];omega
 have mN:("TooMany" : Str)∈bN:=by decide
 have cnt:=Jo cv az;obtain⟨um,hm,rm⟩:=T.most;show Run _ _ _ [some<|.ref R] H;refine gn (fb wu<|dF GC (hr.mono hc)<|ai<|af 0<|aC ⟨R,as,n,rfl,hR,hT,hN,h0,hn,by omega,hH,λls H1 s1 so lm=>xa hm rm ⟨_,_,rfl,rfl,_,rfl,?_⟩⟩);have pos:0 < Dt.De ((List.range<|n.length - 1).map (·+1)) (bX n ls):=Dt.fJ _ _ rfl (bA<|n.length - 1) (bX n ls) (Gz hT hN hH h0 lm);have el:=GH hT hN so lm bI mem;rw [el] at pos ⊢;rw [<- cnt] at pos ⊢
 by_cases big:300 < (TL (List.range n.length)<|fD n ss).length
 ·rw [CK<|by omega];exact a8<|Qp Qt (cl.at' _ mN).1 (cl.at' _ mN).2.1 rfl (ai<|uq<|aC ⟨Z1,qE big _ s1⟩)
 rw [CG<|by omega];refine d0<|aS<|SQ ?_;have bf:TL (List.range n.length) (fD n ss)≠[]:=λe=>by rw [e] at pos;simp at pos
 have ar:=(Dt.aT _ _ r0 fm).mp bf;have inj:Inj (bt n) (List.range n.length):=λa ha b hb e=>by
  have:=CJ (rn n) e;rw [jo hN<|Ce.mp ha,jo hN<|Ce.mp hb] at this;exact this
 refine df (dF GT (hr.mono<|Af _)<|ai<|dF GL (hr.mono<|by omega)<|ai<|af 0<|aC ⟨R,as,n,rfl,hR.same s1,hT,by omega,by omega,λL us zG H2 s2 n2 eL aW xJ fK hlen=>?_⟩);rw [ls_eq hT xJ fK bI mem] at aW;refine ai<|aE lU<|gj l8 T.len IK<|ai<|af 0<|aC ⟨R,_,rfl,.inl<|av.of<|s2 _ _<|s1 _ _ hR.lst,ao ⟨_,_,rfl,rfl,?_⟩⟩;refine aC ⟨L,us,bt n,List.range n.length,List.range n.length,fD n ss,n.length - 1,?_,eL,aW,Jq,Jq,(by omega),r0,inj,fm,by rw [Jn];exact bI,ar,hC,by rw [Bh];omega,λD ts H3 s3 hD ht eD S0=>?_⟩
 ·rw [Ab,jP];have:((n.length:Int) - 1)=((n.length - 1:Nat):Int):=by omega
  exact CJ (λi=>[V.ref L,V.int i]) this
 ·exact q (by show(TL _ _).length<=300;omega) D ts H3 ((s1.trans s2).trans s3) (ah.free (s1.trans s2) hD) (λt h=>ah.free (s1.trans s2)<|ht t h) eD S0
abbrev nV(zs:List Nat):List V:=zs.map λn:Nat=>V.int (n:Int)
def dQ(H:Hp)(a:Addr)(zs:List Nat):Prop:=H a=some (.lst<|nV zs)\/H a=some (.tup<|nV zs)
theorem dQ.same{H H':Hp}{a:Addr}{zs:List Nat}(h:dQ H a zs)(s:ah H H'):dQ H' a zs:=h.imp (s _ _)<|s _ _
structure kh(zs:List Nat):Prop where
 len:zs.length<=20
 sum:zs.sum<=40
 pos:∀ z∈zs,1<=z
def ki:Sp:=λvs H Q _=>∃ b:Int,vs=[.int b]/\∀(a:Addr) (zs:List Nat) (H':Hp),ah H H'->dQ H' a zs->kh zs->Q (.ref a) H'
abbrev S1:List Str:=["_law_big_here","_law_menu","_law_rest","_law_many","_law_left","_law_sizes","_law_k","_law_most"]
theorem sN:au S1 ["_law_big_here"] (aR xT):=⟨rfl,rfl,rfl,by decide +kernel,rfl,by decide +kernel,by decide +kernel⟩
theorem S4{f:Addr}{fd:FuncData}(F:bL K "_law_sizes_by" "_law_sizes_by" xT f fd)(T:Txt mg):aA P w K mg base bP 1 f fd ["_law_big_here"] ki:=by
 refine F.gb sN (λvs H Q E h=>?_) λb0 H vs Q E hr h=>?_
 ·obtain⟨b,rfl,_⟩:=h;rfl
 obtain⟨b,rfl,q⟩:=h;have nd:=sN.nd;show Run _ _ _ [some<|.int b,none,none,none,none,none,none,none] H;refine run_set 1 nd (dE<|ai<|dE<|ai<|ao<|ai<|ao<|ai<|ao<|ai<|ao<|aC ⟨(by show 4<=sizeLine;decide),λp1 h1=>?_⟩);have s1:=aI h1<|.tup<|nV [3,4,5,5];have e1:(upd H p1<|.tup<|nV [3,4,5,5]) p1=some (.tup<|nV [3,4,5,5]):=ae;generalize S5:upd H p1 (.tup<|nV [3,4,5,5])=H1 at s1 e1;have zS:upd H p1 (.tup [.int 3,.int 4,.int 5,.int 5])=H1:=S5;rw [zS];refine ai<|dE<|ai<|ao<|ai<|ao<|ai<|ao<|aC ⟨Z3,λp2 h2=>?_⟩;have s2:=aI h2<|.tup<|nV [4,7,11];have e2:(upd H1 p2<|.tup<|nV [4,7,11]) p2=some (.tup<|nV [4,7,11]):=ae;generalize S6:upd H1 p2 (.tup<|nV [4,7,11])=H2 at s2 e2;have zT:upd H1 p2 (.tup [.int 4,.int 7,.int 11])=H2:=S6;rw [zT];refine ai<|dE<|ai<|ao<|ai<|ao<|aC ⟨Z2,λp3 h3=>?_⟩;have s3:=aI h3<|.tup<|nV [13,23];have e3:(upd H2 p3<|.tup<|nV [13,23]) p3=some (.tup<|nV [13,23]):=ae;generalize S7:upd H2 p3 (.tup<|nV [13,23])=H3 at s3 e3;have zU:upd H2 p3 (.tup [.int 13,.int 23])=H3:=S7;rw [zU];refine ai (dE<|ai<|ao<|ai<|ao<|ai<|ao<|ai<|ao<|aC ⟨(by show 4<=sizeLine;decide),λp4 h4=>?_⟩);have s4:=aI h4<|.tup<|nV [2,3,5,10];have e4:(upd H3 p4<|.tup<|nV [2,3,5,10]) p4=some (.tup<|nV [2,3,5,10]):=ae;generalize S8:upd H3 p4 (.tup<|nV [2,3,5,10])=H4 at s4 e4;have zV:upd H3 p4 (.tup [.int 2,.int 3,.int 5,.int 10])=H4:=S8;rw [zV];refine ai<|dE<|ai<|ao<|ai<|ao<|aC ⟨Z2,λp5 h5=>?_⟩;have s5:=aI h5<|.tup<|nV [17,18];have e5:(upd H4 p5<|.tup<|nV [17,18]) p5=some (.tup<|nV [17,18]):=ae;generalize S9:upd H4 p5 (.tup<|nV [17,18])=H5 at s5 e5;have zW:upd H4 p5 (.tup [.int 17,.int 18])=H5:=S9;rw [zW];refine ai<|dE<|ai<|ao<|ai<|ao<|ai<|ao<|aC ⟨Z3,λp6 h6=>?_⟩;have s6:=aI h6<|.tup<|nV [7,6,7];have e6:(upd H5 p6<|.tup<|nV [7,6,7]) p6=some (.tup<|nV [7,6,7]):=ae;generalize S':upd H5 p6 (.tup<|nV [7,6,7])=H6 at s6 e6;have zX:upd H5 p6 (.tup [.int 7,.int 6,.int 7])=H6:=S';rw [zX];refine ai (dE<|ai<|ao<|ai<|ao<|ai<|ao<|ai<|ao<|ai<|ao<|aC ⟨(by show 5<=sizeLine;decide),λp7 h7=>?_⟩);have s7:=aI h7<|.tup<|nV [2,2,3,5,5];have e7:(upd H6 p7<|.tup<|nV [2,2,3,5,5]) p7=some (.tup<|nV [2,2,3,5,5]):=ae;generalize Ta:upd H6 p7 (.tup<|nV [2,2,3,5,5])=H7 at s7 e7;have zY:upd H6 p7 (.tup [.int 2,.int 2,.int 3,.int 5,.int 5])=H7:=Ta;rw [zY];refine ai<|dE<|ai<|ao<|ai<|ao<|ai<|ao<|aC ⟨Z3,λp8 h8=>?_⟩;have s8:=aI h8<|.tup<|nV [4,4,19];have e8:(upd H7 p8<|.tup<|nV [4,4,19]) p8=some (.tup<|nV [4,4,19]):=ae;generalize Tb:upd H7 p8 (.tup<|nV [4,4,19])=H8 at s8 e8;have zZ:upd H7 p8 (.tup [.int 4,.int 4,.int 19])=H8:=Tb;rw [zZ];refine aC ⟨Z8,λp9 h9=>?_⟩;have s9:=aI h9<|.tup [.ref p1,.ref p2,.ref p3,.ref p4,.ref p5,.ref p6,.ref p7,.ref p8];have e9:(upd H8 p9<|.tup [.ref p1,.ref p2,.ref p3,.ref p4,.ref p5,.ref p6,.ref p7,.ref p8]) p9=some (.tup [.ref p1,.ref p2,.ref p3,.ref p4,.ref p5,.ref p6,.ref p7,.ref p8]):=ae;generalize upd H8 p9 (.tup [.ref p1,.ref p2,.ref p3,.ref p4,.ref p5,.ref p6,.ref p7,.ref p8])=H9 at s9 e9;have f1:=(s9 _ _<|s8 _ _<|s7 _ _<|s6 _ _<|s5 _ _<|s4 _ _<|s3 _ _<|s2 _ _ e1);have f2:=(s9 _ _<|s8 _ _<|s7 _ _<|s6 _ _<|s5 _ _<|s4 _ _<|s3 _ _ e2);have f3:=(s9 _ _<|s8 _ _<|s7 _ _<|s6 _ _<|s5 _ _<|s4 _ _ e3);have f4:=(s9 _ _<|s8 _ _<|s7 _ _<|s6 _ _<|s5 _ _ e4);have f5:=(s9 _ _<|s8 _ _<|s7 _ _<|s6 _ _ e5);have f6:=(s9 _ _<|s8 _ _<|s7 _ _ e6);have f7:=(s9 _ _<|s8 _ _ e7);have f8:=(s9 _ _ e8);have sH:ah H H9:=s1.trans<|s2.trans<|s3.trans<|s4.trans<|s5.trans<|s6.trans<|s7.trans<|s8.trans<|s9;have key:∀ r:Int,0<=r->r < 8->∃ a zs,cU ([.ref p1,.ref p2,.ref p3,.ref p4,.ref p5,.ref p6,.ref p7,.ref p8]:List V) r=some (.ref a)/\H9 a=some (.tup<|nV zs)/\kh zs:=λr h0 h1=>by
  rcases eight h0 h1 with rfl | rfl | rfl | rfl | rfl | rfl | rfl | rfl
  ·exact⟨p1,[3,4,5,5],rfl,f1,by decide,by decide,by decide⟩
  ·exact⟨p2,[4,7,11],rfl,f2,by decide,by decide,by decide⟩
  ·exact⟨p3,[13,23],rfl,f3,by decide,by decide,by decide⟩
  ·exact⟨p4,[2,3,5,10],rfl,f4,by decide,by decide,by decide⟩
  ·exact⟨p5,[17,18],rfl,f5,by decide,by decide,by decide⟩
  ·exact⟨p6,[7,6,7],rfl,f6,by decide,by decide,by decide⟩
  ·exact⟨p7,[2,2,3,5,5],rfl,f7,by decide,by decide,by decide⟩
  ·exact⟨p8,[4,4,19],rfl,f8,by decide,by decide,by decide⟩
 show Run _ _ _ [some<|.int b,some<|.ref p9,none,none,none,none,none,none] H9;refine run_set 2 nd (aE ji<|af 0<|ao ⟨_,_,rfl,rfl,⟨by decide,by decide⟩,?_⟩);show Run _ _ _ [some<|.int b,some<|.ref p9,some<|.int<|b / 3,none,none,none,none,none] H9;generalize b / 3=rs;refine gn (fb jj<|aE dD<|af 0<|ao ⟨_,_,rfl,rfl,(by show(0:Int) < 3;decide),ao ⟨rfl,_,rfl,?_⟩⟩);refine jH (λc=>?_) λc=>aS ?_
 ·obtain⟨a,zs,k1,k2,k3⟩:=key (rs % 8) (Bz _<|by decide) (Ch _<|by decide);exact df<|de t9<|af 1<|aE dD<|af 2<|ao ⟨_,_,rfl,rfl,(by show(0:Int) < 8;decide),p9,_,_,.ref a,rfl,rfl,bo.of e9,k1,q a zs H9 sH (.inr k2) k3⟩
 refine run_set 3 nd (aE dD<|af 2<|ao ⟨_,_,rfl,rfl,(by show(0:Int) < 5;decide),?_⟩);show Run _ _ _ [some<|.int b,some<|.ref p9,some<|.int rs,some<|.int<|rs % 5,none,none,none,none] H9;refine xK True True (λσ' H'=>H'=H9/\∃ m:Nat,m<=20/\σ'=[some<|.int b,some<|.ref p9,some<|.int rs,some<|.int (m:Int),none,none,none,none]) (λR qq=>?_) (λ_=>?_) (λ_=>aS ?_) ?_
 ·exact fb jj<|aE dD<|af 0<|ao ⟨_,_,rfl,rfl,(by show(0:Int) < 3;decide),ao ⟨rfl,_,rfl,qq _ (λ_=>trivial) λ_=>trivial⟩⟩
 ·refine run_set 3 nd<|aE dZ<|ao<|aE dD<|af 2<|ao ⟨_,_,rfl,rfl,(by show(0:Int) < 15;decide),_,_,rfl,rfl,aS ⟨rfl,(6+rs % 15).toNat,?_,?_⟩⟩
  ·have:=Ch rs (show(0:Int) < 15 by decide);omega
  ·have:=Bz rs (show(15:Int)≠0 by decide);rw [Fw<|by omega];rfl
 ·refine⟨rfl,(rs % 5).toNat,?_,?_⟩
  ·have:=Ch rs (show(0:Int) < 5 by decide);omega
  ·rw [Fw<|Bz rs (show(5:Int)≠0 by decide)]
 rintro σ' H' ⟨rfl,m,hm,rfl⟩;refine run_set 2 nd (aE ji<|af 2<|ao ⟨_,_,rfl,rfl,⟨by decide,by decide⟩,?_⟩);refine run_set 4 nd<|ao ?_;refine run_set 5 nd<|gN<|aC ⟨Z0,λL hL=>?_⟩;show Run _ _ _ [some<|.int b,some<|.ref p9,some<|.int<|rs / 15,some<|.int (m:Int),some<|.int 40,some<|.ref L,none,none] (upd H' L<|.lst []);have Tc:H L=none:=ah.free sH hL;refine n9 T.range (af 3 ⟨(m:Int),rfl,by omega,by omega,?_⟩);rw [Fg];refine oa (n:=m) (λk σ c6=>∃(zs:List Nat) (r:Int) (u6 u7:Option V),ah H c6/\c6 L=some (.lst<|nV zs)/\zs.length=k/\zs.sum+(m - k)<=40/\(∀ z∈zs,1<=z)/\σ=[some<|.int b,some<|.ref p9,some<|.int r,some<|.int (m:Int),some<|.int<|40 - (zs.sum:Int),some<|.ref L,u6,u7])
  ⟨[],_,_,_,sH.trans<|aI hL _,ae,rfl,by show 0+(m - 0)<=40;omega,λz hz=>(by cases hz),rfl⟩ ?_ ?_
 ·rintro k σ nG hk ⟨zs,r,u6,u7,sm,eL,lz,z0,cv,rfl⟩;rw [Eu];refine bb 6 nd ?_;show Run _ _ _ [some<|.int b,some<|.ref p9,some<|.int r,some<|.int (m:Int),some<|.int<|40 - (zs.sum:Int),some<|.ref L,some<|.int (k:Int),u7] nG;refine run_set 7 nd<|gj (LZ rfl) T.min PyProof.Rows.boot_min<|ai<|ao<|ai<|aE lU<|af 4<|aE lU<|aE lU<|af 3<|ao ⟨_,_,rfl,rfl,af 6 ⟨_,_,rfl,rfl,_,_,rfl,rfl,aC ⟨_,_,rfl,?_⟩⟩⟩;obtain⟨mo,Td,U9⟩:∃ mo:Nat,(if 40 - (zs.sum:Int) - ((m:Int) - 1 - (k:Int)) < 8 then 40 - (zs.sum:Int) - ((m:Int) - 1 - (k:Int)) else 8)=(mo:Int)/\0 < mo/\zs.sum+mo+(m - (k+1))<=40/\mo<=8:=by
   by_cases c8:40 - (zs.sum:Int) - ((m:Int) - 1 - (k:Int)) < 8
   ·rw [BK c8];exact⟨(40 - (zs.sum:Int) - ((m:Int) - 1 - (k:Int))).toNat,by omega,by omega,by omega,by omega⟩
   ·rw [BJ c8];exact⟨8,rfl,by omega,by omega,by omega⟩
  rw [Td];show Run _ _ _ [some<|.int b,some<|.ref p9,some<|.int r,some<|.int (m:Int),some<|.int<|40 - (zs.sum:Int),some<|.ref L,some<|.int (k:Int),some<|.int (mo:Int)] nG;have r0:=Bz r (show(mo:Int)≠0 by omega);have r1:=Ch r (show(0:Int) < mo by omega);obtain⟨x,ex⟩:∃ x:Nat,1+r % (mo:Int)=(x:Int):=⟨(1+r % (mo:Int)).toNat,by omega⟩;refine jI (om<|af 5 ⟨L,rfl,⟨_,eL⟩,aE dZ<|ao<|aE dD<|af 2<|af 7 ⟨_,_,rfl,rfl,(by show(0:Int) < mo;omega),_,_,rfl,rfl,_,eL,by rw [Ab];exact cY (by omega),?_⟩⟩);show Run _ _ _ [some<|.int b,some<|.ref p9,some<|.int r,some<|.int (m:Int),some<|.int<|40 - (zs.sum:Int),some<|.ref L,some<|.int (k:Int),some<|.int (mo:Int)] (upd nG L<|.lst<|nV zs++[.int<|1+r % (mo:Int)]);rw [ex];have Te:nV zs++[V.int (x:Int)]=nV (zs++[x]):=by
   show _=(zs++[x]).map _;rw [Ai];rfl
  rw [Te];have jx:(upd nG L<|.lst<|nV<|zs++[x]) L=some (.lst<|nV<|zs++[x]):=ae;have s2:=cK (r:=L) (o:= .lst<|nV<|zs++[x]) sm Tc;generalize upd nG L (.lst<|nV<|zs++[x])=U' at jx s2;have Jr:(zs++[x]).length=k+1:=by rw [Ae,lz];rfl
  have iQ:cU (nV<|zs++[x]) (-1)=some (.int (x:Int)):=by
   unfold cU fY;rw [BJ (by decide),BK<|by rw [Ab];omega];show(nV<|zs++[x])[_]?=_;rw [Ab,Jr,show((-1:Int)+((k+1:Nat):Int)).toNat=k by omega,Ad,Ay (by omega),lz,Ey];rfl
  have z3:(zs++[x]).sum=zs.sum+x:=by rw [Fe];simp
  refine run_set 4 nd<|aE lU<|af 4<|de eI<|af 5<|xc wn<|ao ⟨1,rfl,L,_,_,.int (x:Int),rfl,rfl,av.of jx,iQ,_,_,rfl,rfl,?_⟩;refine run_set 2 nd<|aE ji<|af 2<|af 7 ⟨r,(mo:Int),rfl,rfl,⟨by omega,by omega⟩,aS ⟨zs++[x],r / (mo:Int),some<|.int (k:Int),some<|.int (mo:Int),s2,jx,Jr,by omega,λz hz=>?_,?_⟩⟩
  ·rcases An.mp hz with h | h
   ·exact cv z h
   ·rw [Ag.mp h];omega
  ·rw [z3,show 40 - ((zs.sum+x:Nat):Int)=40 - (zs.sum:Int) - (x:Int) by omega];rfl
 ·rintro σ nG ⟨zs,r,u6,u7,sm,eL,lz,z0,cv,rfl⟩;exact df<|af 5<|q L zs nG sm (.inl eL) ⟨by omega,by omega,cv⟩
end
end Y5
namespace Dt
open PySem Nt
def aO:List Nat->List Str->List (List Str)
 | [],_=>[]
 | z :: zs,nm=>nm.take z :: aO zs (nm.drop z)
theorem cD:∀(zs:List Nat) (nm:List Str) (k:Nat),(aO zs nm)[k]?=(zs[k]?).map λz=>(nm.drop (zs.take k).sum).take z
 | [],nm,k=>by simp [aO]
 | z :: zs,nm,0=>by simp [aO]
 | z :: zs,nm,k+1=>by
  show(aO zs<|nm.drop z)[k]?=_;rw [cD zs,Gv];rfl
theorem bF:∀(zs:List Nat) (nm:List Str),(aO zs nm).length=zs.length
 | [],_=>rfl
 | z :: zs,nm=>by
  show(aO zs<|nm.drop z).length+1=_;rw [bF zs];rfl
theorem z5:∀(zs:List Nat) (nm:List Str),(aO zs nm).flatten=nm.take zs.sum
 | [],nm=>by simp [aO]
 | z :: zs,nm=>by
  show nm.take z++(aO zs<|nm.drop z).flatten=_;rw [z5 zs,Dd,List.take_add]
theorem cE:∀(zs:List Nat) (nm:List Str),zs.sum<=nm.length->(aO zs nm).map (·.length)=zs
 | [],_,_=>rfl
 | z :: zs,nm,h=>by
  rw [Dd] at h;show(nm.take z).length :: (aO zs<|nm.drop z).map (·.length)=_;rw [cE zs _ (by rw [Cb];omega),Aq,Dy<|by omega]
def gW(zs:List Nat)(nm:List Str):Option Str:=if zs.sum < 40 then nm[zs.sum]? else none
def cP(cR:List Str)(zs:List Nat)(nm:List Str):Net:=(cR.take<|zs.length+1).zip<|fT [] (aO zs nm)<|fA<|gW zs nm
section
variable{cR nm:List Str}{zs:List Nat}
theorem fq(hp:zs.length+1<=cR.length):(cP cR zs nm).map (·.1)=cR.take (zs.length+1):=by
 unfold cP;exact KC<|by rw [bR,bF,Aq];omega
theorem dU(hp:zs.length+1<=cR.length)(hn:nm.Nodup)(hl:nm.length=41)(hs:zs.sum<=40)(h1:∀ z∈zs,1<=z):ak (cP cR zs nm) (aO zs nm) (gW zs nm):=by
 refine⟨?_,?_,λb hb e=>?_⟩
 ·unfold cP;exact Fs<|by rw [bR,bF,Aq];omega
 ·rw [z5];have:(nm.take zs.sum++(gW zs nm).toList).Sublist nm:=by
   unfold gW
   by_cases c:zs.sum < 40
   ·rw [BK c,<- Bn];exact Dm _ _
   ·rw [BJ c];show(nm.take zs.sum++[]).Sublist nm;rw [Bg];exact Dm _ _
  exact hn.sublist this
 ·have:b.length∈(aO zs nm).map (·.length):=Ak.mpr ⟨b,hb,rfl⟩;rw [cE zs nm<|by omega] at this;have:=h1 _ this;rw [e] at this;exact absurd this<|by decide
theorem gX(hp:zs.length+1<=cR.length)(hn:nm.Nodup)(hl:nm.length=41)(hs:zs.sum<=40)(h1:∀ z∈zs,1<=z):(aD<|cP cR zs nm).length<=80:=by
 rw [(dU hp hn hl hs h1).zO,z5,Aq];unfold gW
 by_cases c:zs.sum < 40
 ·rw [BK c];have:(nm[zs.sum]?).toList.length<=1:=by cases nm[zs.sum]? <;> simp
  omega
 ·rw [BJ c];show 2 * (_+0)<=80;omega
end
def cell(bs:List<|List Str)(k j:Nat):List Str:=(if j=0 then [] else if j<=k then(bs.getD (j - 1) []).reverse else [])++(if j < k then bs.getD j [] else [])
def fU(bs:List<|List Str)(m k:Nat):List (List Str):=(List.range<|m+1).map<|cell bs k
theorem bO{bs:List (List Str)}{m k j:Nat}(h:j<=m):(fU bs m k)[j]?=some (cell bs k j):=by
 unfold fU;rw [Ad,Cr<|by omega];rfl
theorem a9(bs:List<|List Str)(m k:Nat):(fU bs m k).length=m+1:=by
 unfold fU;rw [Ab,Bh]
theorem sO(bs:List<|List Str)(m:Nat):fU bs m 0=List.replicate (m+1) []:=by
 refine Ct λj=>?_
 by_cases h:j<=m
 ·rw [bO h,Dh,BK<|by omega];unfold cell;rw [BJ (show ¬ j < 0 by omega)]
  by_cases c:j=0
  ·rw [BK c];rfl
  ·rw [BJ c,BJ<|by omega];rfl
 ·rw [Br (by rw [a9];omega),Br<|by rw [Db];omega]
theorem jb{bs:List (List Str)}{m k:Nat}{b:List Str}(hk:k < m)(hb:bs[k]?=some b):((fU bs m k).set k<|cell bs k k++b).set (k+1) (cell bs k (k+1)++b.reverse)=fU bs m (k+1):=by
 have gb:bs.getD k []=b:=by rw [Az,hb];rfl
 refine Ct λj=>?_
 by_cases h:j<=m
 ·rw [bO h,Ek,Ek,Cv,a9]
  by_cases c1:k+1=j
  ·subst c1;rw [BK rfl,BK<|by omega];unfold cell;rw [BJ (by omega),BJ (show ¬ k+1<=k by omega),BJ (show ¬ k+1 < k by omega),BJ (by omega),BK<|Af _,BJ<|Cd _,show k+1 - 1=k by omega,gb];simp
  ·rw [BJ c1]
   by_cases c2:k=j
   ·subst c2;rw [BK rfl,BK<|by omega];unfold cell;rw [BJ (show ¬ k < k by omega),BK (show k < k+1 by omega),gb,Bg]
    congr 2
    by_cases c:k=0
    ·rw [BK c,BK c]
    ·rw [BJ c,BJ c,BK<|Af _,BK<|by omega]
   ·rw [BJ c2,bO h];unfold cell;have e1:(j<=k)=(j<=k+1):=propext (by omega);have e2:(j < k)=(j < k+1):=propext (by omega);simp only [e1,e2]
 ·rw [Br (by rw [Cv,Cv,a9];omega),Br<|by rw [a9];omega]
theorem fu{bs:List (List Str)}{m:Nat}(hm:bs.length=m)(l:List Str):(fU bs m m).set m (cell bs m m++l)=fT [] bs l:=by
 refine Ct λj=>?_;have gm:bs.getD m []=[]:=by rw [Az,Br<|by omega];rfl
 by_cases h:j<=m
 ·rw [zN bs [] l j (by omega),Ek,a9]
  by_cases c:m=j
  ·subst c;rw [BK rfl,BK (by omega),BK hm.symm,gm];unfold cell;rw [BJ<|Cd m,BK<|Af m]
  ·rw [BJ c,bO h,BJ (show ¬ j=bs.length by omega),Bg];unfold cell;rw [BK h,BK (show j < m by omega)]
 ·rw [Br (by rw [Cv,a9];omega),Br<|by rw [bR];omega]
theorem kj{bs:List (List Str)}{m:Nat}(hm:bs.length=m):fU bs m m=fT [] bs []:=by
 rw [<- fu hm,Bg];refine Ct λj=>?_;rw [Ek,a9]
 by_cases c:m=j
 ·subst c;rw [BK rfl,BK (by omega),bO<|Af _]
 ·rw [BJ c]
end Dt
namespace L2
open PySem PySem.Spec PyProof.Rows
def z6(K:PySem.W.Frag)(a:Addr)(xs:List V):It:=⟨λi H=>i < xs.length/\av K H a xs,λi H x H'=>H'=H/\xs[xs.length - 1 - i]?=some x,λi H=>xs.length<=i/\av K H a xs⟩
theorem Tf{P:Program}{w:World}{K:PySem.W.Frag}{tg:Expr}(a it:Addr)(xs:List V):Turn P w K tg (z6 K a xs) [it] it (λi h=>i<=xs.length/\h.IsRevIter it a ((xs.length:Int) - 1 - (i:Int))) where
 mem:=by simp
 obj:=λi h st b hb=>by
  have e:b=it:=by simpa using hb
  subst e;obtain⟨_,o,e,c,d⟩:=st;exact⟨o,e,λv z=>by rw [d] at z;cases z⟩
 keep:=λi h h' st k=>⟨st.1,st.2.at λo e=>k it (by simp) o e⟩
 item:=by
  intro X hP hw hK hc i pins s σ H E I hf st hg;subst hP hw hK;obtain⟨hi,hq⟩:=hg;obtain⟨its,rv,p,hz⟩:=I.list hq;have hx:xs[xs.length - 1 - i]?=some (xs[xs.length - 1 - i]'(by omega)):=Aa (by omega);obtain⟨u,hu,ru⟩:=rv.get hx;obtain⟨f0,f1,f2,f3,f4,f5⟩:=hf it (by simp);have e1:(xs.length:Int) - 1 - (i:Int)=((xs.length - 1 - i:Nat):Int):=by omega
  have aY:=st.2;rw [e1] at aY;refine wpAny_pyNext_rev_item aY p.isList (x:=u) (by simpa using hu) λh' ag sb=>?_;have I1:Inv X pins σ H {s with heap:=h'}:=I.turned (t':=s.toks) (λb o hb e=>(sb.2 b hb).trans e) f0 f1 f3 f4 f5;obtain⟨o,e,c,d⟩:=id ag;have e2:((xs.length - 1 - i:Nat):Int) - 1=(xs.length:Int) - 1 - ((i+1:Nat):Int):=by omega
  rw [e2] at ag;exact⟨u,rfl,pt (s:={s with heap:=h'}) e c d (by decide) ⟨_,H,I1,ru,⟨rfl,hx⟩,⟨hi,ag⟩,λb hb=>(hf b hb).1⟩⟩
 done:=by
  intro X hP hw hK hc i pins s σ H E I hf st hg;subst hP hw hK;obtain⟨hi,hq⟩:=hg;obtain⟨f0,f1,f2,f3,f4,f5⟩:=hf it (by simp);have aY:=st.2;rw [show(xs.length:Int) - 1 - (i:Int)=-1 by have:=st.1;omega] at aY;exact wpAny_pyNext_rev_end (I.ok.hd hc) aY λh' eb=>⟨rfl,I.turned (t':=s.toks) (λb o hb e=>eb b o hb e) f0 f1 f3 f4 f5⟩
 self:=λ_ _ _ _ _ st h=>wpAny_pyIter_revIter st.2 h
section
variable{X:Cx}
theorem boot_reversed:bootBuiltins "reversed" = some (.type "reversed"):=by decide +kernel
def z7(K:PySem.W.Frag)(ta:TA):TI:=λσ H R=>ta σ H λvs H1=>∃ a xs,vs=[.ref a]/\av K H1 a xs/\R (z6 K a xs) H1
theorem Tg{tg a:Expr}{ta:TA}{p pos:Pos}(hg:Gl X "reversed")(hm:X.mg "reversed" = none)(ha:PA X [a] ta)(hs:starEach [a] X.env=[(false,eval a X.env)]:=by rfl) :
  PI X tg (.Call (.Name "reversed" p) [a] [] pos) (z7 X.K ta):=by
 intro pins s σ H R I h;refine Call_<|lJ I hg hm boot_reversed<|DN (ay (ha pos pins s σ H _ I h) λus s1 ⟨vs,H1,I1,r1,q1⟩=>?_) hs rfl;obtain⟨x,xs,e,hx,q⟩:=q1;subst e;obtain⟨u,rfl,ru⟩:=r1.one;cases (show u=Value.ref x from ru);obtain⟨iU,oF,p1,yu⟩:=I1.list hx;have l1:=oF.length;refine call_reversed_list p1.isList ?_;have hit:(s1.heap.push<|revObj x<|(iU.toArray.size:Int) - 1).IsRevIter s1.heap.objs.size x ((xs.length:Int) - 1 - ((0:Nat):Int)):=⟨_,Bt _ rfl,rfl,by
  show Data.fields #[Value.ref x,rawInt<|(iU.toArray.size:Int) - 1]=_;rw [Av,<- l1];simp⟩
 refine wpAny_pyIter_revIter (s:={s1 with heap:=_}) hit ?_;refine⟨s1.heap.objs.size,[s1.heap.objs.size],_,_,H1,rfl,I1.kept (t':=s1.toks) λb o e=>Aj _ e,Tf x _ xs,⟨Bw _,hit⟩,λb hb=>?_,q⟩;have e:b=s1.heap.objs.size:=by simpa using hb
 subst e;exact I1.fE (Af _)<|I1.aw.fresh<|Af _
end
section
variable{X:Cx}{elt tg:Expr}{ifs:List Expr}{scope:Scope}{σ:St}{H:Hp}{N':List Str}{A a:Addr}{xs:List V}{after:Hp->Prop}
theorem Ti(Pv:Nat->St->Hp->Prop)(h0:Pv 0 σ H)(hl:∀ i σ' H',i<=xs.length->Pv i σ' H'->av X.K H' a xs)
  (hs : ∀ i x σ' H', i < xs.length → xs[xs.length - 1 - i]? = some x → Pv i σ' H' → pZ X N' scope tg x σ' H' λσ2 H3 => qa X N' scope ifs σ2 H3 λb H4 =>
   if b=true then pY X N' scope elt σ2 H4 λv H5=>∃ ys,H5 A=some (.lst ys)/\ys.length < sizeLine/\Pv (i+1) σ2 (upd H5 A<|.lst<|ys++[v]) else Pv (i+1) σ2 H4)
  (hd:∀ σ' H',Pv xs.length σ' H'->after H'):jJ X N' scope tg ifs elt (z6 X.K a xs) A after σ H:=by
 refine⟨λi m σ' H'=>m=xs.length - i/\i<=xs.length/\Pv i σ' H',⟨_,rfl,Bw _,h0⟩,?_⟩;rintro i m σ' H' ⟨rfl,hi,p⟩;have q:=hl i σ' H' hi p
 by_cases az:i < xs.length
 ·refine .inr ⟨⟨az,q⟩,Pv<|i+1,λσ' H' p'=>⟨xs.length - (i+1),by omega,rfl,az,p'⟩,λv H2 y=>?_⟩;obtain⟨rfl,hx⟩:=y;exact hs i v σ' _ az hx p
 ·have e:i=xs.length:=by omega
  subst e;exact .inl ⟨⟨Af _,q⟩,hd σ' H' p⟩
end
end L2
namespace Y5
open PySem L2 Nt bG
open Dt (aO gW cP fU cell fT fA)
theorem dQ.sq{K:PySem.W.Frag}{H:Hp}{a:Addr}{zs:List Nat}(h:dQ H a zs):av K H a (nV zs)\/bo K H a (nV zs):=h.imp (λe=>av.of e) λe=>bo.of e
theorem Js{zs:List Nat}{k z:Nat}(h:zs[k]?=some z):cU (nV zs) (k:Int)=some (.int (z:Int)):=hG<|by rw [Ad,h];rfl
theorem dQ.ix{K:PySem.W.Frag}{H:Hp}{a:Addr}{zs:List Nat}{k z:Nat}{Q:VK}(h:dQ H a zs)(hz:zs[k]?=some z)(q:Q (.int (z:Int)) H):iG K (.ref a) (.int (k:Int)) H Q\/l3 K (.ref a) (.int (k:Int)) H Q:=
 h.imp (λe=>⟨a,_,_,_,rfl,rfl,av.of e,Js hz,q⟩) λe=>⟨a,_,_,_,rfl,rfl,bo.of e,Js hz,q⟩
theorem z8{zs:List Str}{i:Nat}{z:Str}(h:zs[i]?=some z):cU (zs.map V.str) (i:Int)=some (.str z):=hG<|by rw [Ad,h];rfl
theorem Jt(xs:List Str){a z:Nat}(h:a+z<=xs.length):bh (xs.map V.str) (some (a:Int)) (some<|(a:Int)+(z:Int))=((xs.drop a).take z).map V.str:=by
 unfold bh;rw [show((a:Int)+(z:Int))=((a+z:Nat):Int) from rfl,HT.cg,HT.cg,Ab,Dy h,Dy (show a<=xs.length by omega),Ep,<- MK,<- List.map_take]
theorem aB.tT{H:Hp}{us:List Addr}{zs:List (List Str)}{L:Addr}(h:aB H us zs)(eL:H L=some (.lst<|us.map V.ref)):∀ u∈us,u≠L:=λu hu e=>by
 obtain⟨j,hj⟩:=At hu;have hl:=h.1;have lj:=(Ac.mp hj).1;have e1:=h.2 j u _ hj (Aa<|by omega);rw [e,eL] at e1;have e2:us.map V.ref=(zs[j]'(by omega)).map V.str:=HO.lst.inj<|Option.some.inj e1;cases us with
 | nil=>cases hu
 | cons t ts=>
  generalize zs[j]'(by omega)=zz at e2;cases zz with
  | nil=>cases e2
  | cons z zz=>cases (List.cons.inj e2).1
theorem aB.got{H:Hp}{us:List Addr}{zs:List (List Str)}(h:aB H us zs){u:Addr}(hu:u∈us):H u≠none:=λe=>by
 obtain⟨j,hj⟩:=At hu;have hl:=h.1;have lj:=(Ac.mp hj).1;have e1:=h.2 j u _ hj (Aa<|by omega);rw [e] at e1;cases e1
theorem aB.put{H:Hp}{us:List Addr}{zs:List (List Str)}{L p:Addr}{x:List Str}{i:Nat}(h:aB H us zs)(nd:us.Nodup)(eL:H L=some (.lst<|us.map V.ref))(hp:H p=none)(hi:i < us.length) :
  aB (upd (upd H p<|Ls x) L<|.lst<|(us.set i p).map V.ref) (us.set i p) (zs.set i x)/\(us.set i p).Nodup:=by
 have pL:p≠L:=λe=>by rw [e,eL] at hp;cases hp
 have hl:=h.1;have np:p∉us:=λhm=>h.got hm hp
 constructor
 ·refine⟨by rw [Cv,Cv];exact hl,λj t z h1 h2=>?_⟩;rw [Ek] at h1 h2
  by_cases c:i=j
  ·subst c;rw [BK rfl,BK hi] at h1;rw [BK rfl,BK<|by omega] at h2;cases h1;cases h2;rw [aG pL,ae]
  ·rw [BJ c] at h1 h2;have hm:=Au h1;rw [aG<|h.tT eL t hm,aG λe:t=p=>np<|by rw [<- e];exact hm];exact h.2 j t z h1 h2
 ·rw [Bj,Bd];intro a b ha hb lt e;rw [Cv] at ha hb;rw [List.getElem_set,List.getElem_set] at e
  by_cases c1:i=a
  ·rw [BK c1,BJ<|by omega] at e;exact np<|e ▸ Bp hb
  ·rw [BJ c1] at e
   by_cases c2:i=b
   ·rw [BK c2] at e;exact np<|e ▸ Bp ha
   ·rw [BJ c2] at e;rw [Bj,Bd] at nd;exact nd a b ha hb lt e
def vz:Sp:=λvs H Q _=>∃(A Nm Pt:Addr) (zs:List Nat) (nm cR:List Str),vs=[.ref A,.ref Nm,.ref Pt]/\dQ H A zs/\kh zs/\H Nm=some (Ls nm)/\nm.length=41/\H Pt=some (Ls cR)/\cR.length=21 /\
 ∀(R:Addr) (as:List<|Addr×Addr) (H':Hp),ah H H'->a6 H' R as (cP cR zs nm)->Q (.ref R) H'
section
variable{P:Program}{w:World}{K:PySem.W.Frag}{mg:Str->Option Value}{base:Heap}
abbrev sP:List Str:=["_law_sizes","_law_names_here","_law_points","_law_lists","_law_at","_law_k","_law_bundle"]
abbrev nH:List Str:=["_law_sizes","_law_names_here","_law_points","_law_lists","_law_at","a1","_law_bundle","_law_k"]
abbrev sQ:List Str:=["_law_sizes","_law_names_here","_law_points","_law_lists","_law_at","_law_k","_law_bundle","_law_name"]
theorem sS:au sP ["_law_sizes","_law_names_here","_law_points"] (aR kL):=⟨rfl,rfl,rfl,by decide +kernel,rfl,by decide +kernel,by decide +kernel⟩
theorem Ju:nH.Nodup:=by decide
theorem Tj:sQ.Nodup:=by decide
theorem Tl{f:Addr}{fd:FuncData}(F:bL K "_law_rows" "_law_rows" kL f fd)(T:Txt mg):aA P w K mg base bP 1 f fd ["_law_sizes","_law_names_here","_law_points"] vz:=by
 refine F.gb sS (λvs H Q E h=>?_) λb0 H vs Q E hr h=>?_
 ·obtain⟨A,Nm,Pt,zs,nm,cR,rfl,_⟩:=h;rfl
 obtain⟨A,Nm,Pt,zs,nm,cR,rfl,hA,hz,sU,ln,Tn,lp,q⟩:=h;have nd:=sS.nd;have lz:=hz.len;have sz:=hz.sum;have lb:(aO zs nm).length=zs.length:=Dt.bF zs nm;have oZ:(nV zs).length=zs.length:=Ab _;show Run _ _ _ [some<|.ref A,some<|.ref Nm,some<|.ref Pt,none,none,none,none] H;refine run_set 3 nd<|iL (aR kL) sP nH 1 (wc rfl T.range gg)<|ai<|aE dZ<|gj l8 T.len IK<|ai<|af 0<|aC ⟨A,_,rfl,hA.sq,ao ⟨_,_,rfl,rfl,?_⟩⟩;refine aC ⟨((zs.length+1:Nat):Int),by rw [oZ];rfl,by omega,by omega,λL hL=>?_⟩;rw [Fg];refine yK (λi σ' H'=>(∃ v,σ'=[some<|.ref A,some<|.ref Nm,some<|.ref Pt,none,none,none,none]++[v])/\∃ us:List Addr,us.length=i/\us.Nodup/\ah H H'/\H' L=some (.lst<|us.map V.ref)/\aB H' us (List.replicate i [])/\∀ u∈us,u≠L) ⟨⟨_,rfl⟩,[],rfl,El,aI hL _,ae,⟨rfl,λj t z h=>by simp at h⟩,λu h=>by cases h⟩ ?_ ?_
 ·rintro i σ' H' hi ⟨⟨v,rfl⟩,us,lu,lq,sm,eL,aW,nL⟩;intro cl C s₀ H₀ ex;refine bb 7 Ju ?_;intro cl C s₀ H₀ ex;refine gq<|a8 ?_;intro cl C s₀ H₀ ex;refine gN<|aC ⟨Z0,λp hp=>?_⟩;have sp:=aI hp<|.lst [];have pL:p≠L:=λe=>by rw [e,eL] at hp;cases hp
  refine⟨_,sp _ _ eL,by rw [Ab];exact cY (by omega),⟨_,rfl⟩,us++[p],by rw [Ae,lu];rfl,n5 lq λhm=>aW.got hm hp,cK (sm.trans sp) hL,?_,?_,λu hu=>?_⟩
  ·rw [ae,Ai];rfl
  ·rw [List.replicate_succ'];refine aB.snoc (aW.keep λt ht o h=>?_) ?_
   ·rw [aG<|nL t ht];exact sp _ _ h
   ·rw [aG pL];exact ae
  ·rcases An.mp hu with h | h
   ·exact nL u h
   ·rw [Ag.mp h];exact pL
 rintro σ' H1 ⟨_,To,Va,z9,s1,Tp,fQ,_⟩;rw [<- Dt.sO<|aO zs nm] at fQ;show Run _ _ _ [some<|.ref A,some<|.ref Nm,some<|.ref Pt,some<|.ref L,none,none,none] H1;refine run_set 4 nd<|ao ?_;show Run _ _ _ [some<|.ref A,some<|.ref Nm,some<|.ref Pt,some<|.ref L,some<|.int 0,none,none] H1;refine n9 T.range (gj l8 T.len IK<|ai<|af 0<|aC ⟨A,_,rfl,(hA.same s1).sq,((zs.length:Nat):Int),by rw [oZ],by omega,by omega,?_⟩);rw [Fg];refine oa (n:=zs.length) (λk σ H'=>∃(us:List Addr) (u5 u6:Option V),us.Nodup/\ah H H'/\H' L=some (.lst<|us.map V.ref)/\aB H' us (fU (aO zs nm) zs.length k)/\σ=[some<|.ref A,some<|.ref Nm,some<|.ref Pt,some<|.ref L,some<|.int (((zs.take k).sum:Nat):Int),u5,u6]) ⟨To,_,_,z9,s1,Tp,fQ,rfl⟩ ?_ ?_
 ·rintro k σ H2 hk ⟨us,u5,u6,lq,s2,jx,aW,rfl⟩;rw [Eu];refine bb 5 nd ?_;show Run _ _ _ [some<|.ref A,some<|.ref Nm,some<|.ref Pt,some<|.ref L,some<|.int (((zs.take k).sum:Nat):Int),some<|.int (k:Int),u6] H2;have iz:=Aa hk;have gG:=Dt.cD zs nm k;rw [iz] at gG;have gG:(aO zs nm)[k]?=some ((nm.drop (zs.take k).sum).take zs[k]):=gG;have gB:(zs.take<|k+1).sum=(zs.take k).sum+zs[k]:=by
   rw [Bn,iz,Fe];simp
  have kB:(zs.take<|k+1).sum<=zs.sum:=by
   have:=CJ List.sum<|Cc (k+1) zs;rw [Fe] at this;omega
  generalize zs[k]=z at iz gG gB;generalize (zs.take k).sum=dh at gG gB;have gY:=Jt nm (a:=dh) (z:=z) (by omega);generalize hb:(nm.drop dh).take z=b at gG gY;have Jv:b.length<=41:=by rw [<- hb,Aq,Cb];omega
  refine run_set 6 nd<|pX pK<|af 1<|mz<|af 4 ⟨_,rfl,mz<|aE dZ<|af 4<|de Hr<|af 0<|af 5<|(hA.same s2).ix iz ⟨_,_,rfl,rfl,_,rfl,Nm,_,rfl,av.of<|s2 _ _ sU,λB hB=>?_⟩⟩;have Jw:bh (nm.map V.str) (some (dh:Int)) (some<|(λi j:Int=>i+j) (dh:Int) (z:Int))=b.map V.str:=gY;have eH:upd H2 B (.lst<|bh (nm.map V.str) (some (dh:Int))<|some<|(dh:Int)+(z:Int))=upd H2 B (Ls b):=by rw [gY]
  show Run _ _ _ [some<|.ref A,some<|.ref Nm,some<|.ref Pt,some<|.ref L,some<|.int (dh:Int),some<|.int (k:Int),some<|.ref B] (upd H2 B<|.lst<|bh (nm.map V.str) (some (dh:Int))<|some<|(dh:Int)+(z:Int));rw [eH];have sB:=aI hB<|Ls b;have eB:(upd H2 B<|Ls b) B=some (Ls b):=ae;have s3:=s2.trans sB;have iA:=sB _ _ jx;have dR:aB (upd H2 B<|Ls b) us (fU (aO zs nm) zs.length k):=aW.keep λt _ o h=>sB _ _ h;generalize upd H2 B (Ls b)=H3 at sB eB s3 iA dR;refine run_set 4 nd<|aE dZ<|af 4<|de Hr<|af 0<|af 5<|(hA.same s3).ix iz ⟨_,_,rfl,rfl,?_⟩;have eO:=dR.1;rw [Dt.a9] at eO;obtain⟨u,hu⟩:∃ u,us[k]?=some u:=⟨_,Aa<|by omega⟩;have eu:=dR.2 k u _ hu (Dt.bO<|by omega);have vA:(cell (aO zs nm) k k).length<=1000/\(cell (aO zs nm) k<|k+1).length<=1000:=by
   have g:∀ j,((aO zs nm).getD j []).length<=41:=λj=>by
    rw [Az,Dt.cD];cases zs[j]? with
    | none=>show 0<=41;omega
    | some y=>
     show((nm.drop _).take y).length<=41;rw [Aq,Cb];omega
   have all:∀ j,(cell (aO zs nm) k j).length<=1000:=λj=>by
    unfold cell;rw [Ae];have g1:=g<|j - 1;have g2:=g j;have a1:(if j=0 then([]:List Str) else if j<=k then((aO zs nm).getD (j - 1) []).reverse else []).length<=41:=by
     split
     ·show 0<=41;omega
     ·split
      ·rw [Cz];exact g1
      ·show 0<=41;omega
    have a2:(if j < k then(aO zs nm).getD j [] else []).length<=41:=by
     split
     ·exact g2
     ·show 0<=41;omega
    omega
   exact⟨all k,all<|k+1⟩
  have gZ:=Dt.jb (m:=zs.length) hk gG;generalize Tq:cell (aO zs nm) k k=c1 at eu vA gZ;have sV:(fU (aO zs nm) zs.length k)[k+1]?=some (cell (aO zs nm) k<|k+1):=Dt.bO (by omega);generalize Vb:cell (aO zs nm) k (k+1)=c2 at vA gZ sV;have a1:cU (us.map V.ref) (k:Int)=some (.ref u):=hG (by rw [Ad,hu];rfl);show Run _ _ _ [some<|.ref A,some<|.ref Nm,some<|.ref Pt,some<|.ref L,some<|.int<|(dh:Int)+(z:Int),some<|.int (k:Int),some<|.ref B] H3;refine ur (aE pO<|de eI<|af 3<|af 5 ⟨L,_,_,.ref u,rfl,rfl,av.of iA,a1,af 6 ⟨u,B,_,_,rfl,rfl,eu,eB,by rw [Ab,Ab];exact small (by omega),λp hp=>?_⟩⟩);have jc:c1.map V.str++b.map V.str=(c1++b).map V.str:=Ai.symm;rw [jc];have sp:=aI hp<|Ls<|c1++b;have pL:p≠L:=λe=>by rw [e,iA] at hp;cases hp
  refine yI (af 3<|af 5 ⟨L,_,_,k,rfl,rfl,sp _ _ iA,uY (by rw [Ab];omega),?_⟩);rw [<- Gs];obtain⟨eG,vB⟩:=dR.put (x:=c1++b) (i:=k) lq iA hp (by omega);have s4:ah H (upd (upd H3 p<|Ls<|c1++b) L<|.lst<|(us.set k p).map V.ref):=cK (s3.trans sp) hL;have vC:(upd (upd H3 p<|Ls<|c1++b) L<|.lst<|(us.set k p).map V.ref) L=some (.lst<|(us.set k p).map V.ref):=ae;have BL:B≠L:=λe=>by rw [e,jx] at hB;cases hB
  have AA:(upd (upd H3 p<|Ls<|c1++b) L<|.lst<|(us.set k p).map V.ref) B=some (Ls b):=by rw [aG BL];exact sp _ _ eB
  show Run _ _ _ [some<|.ref A,some<|.ref Nm,some<|.ref Pt,some<|.ref L,some<|.int<|(dh:Int)+(z:Int),some<|.int (k:Int),some<|.ref B] (upd (upd H3 p<|Ls<|c1++b) L<|.lst<|(us.set k p).map V.ref);generalize upd (upd H3 p<|Ls<|c1++b) L (.lst<|(us.set k p).map V.ref)=H4 at eG s4 vC AA;have l4:(us.set k p).length=zs.length+1:=by rw [Cv];exact eO
  generalize us.set k p=sW at eG vB vC l4;obtain⟨v,hv⟩:∃ v,sW[k+1]?=some v:=⟨_,Aa<|by omega⟩;have Tr:=eG.2 (k+1) v c2 hv (by rw [Ek,BJ<|by omega];exact sV);have a2:cU (sW.map V.ref) ((k:Int)+1)=some (.ref v):=hG (j:=k+1) (by rw [Ad,hv];rfl);refine ur<|aE pO<|de eI<|af 3<|aE dZ<|af 5<|ao ⟨_,_,rfl,rfl,L,_,_,.ref v,rfl,rfl,av.of vC,a2,iL (aR kL) sP sQ 1 (Tg rfl T.rev gg)<|ai<|af 6<|aC ⟨B,_,rfl,av.of AA,λD hD=>?_⟩⟩;have Jx:(b.map V.str).length=b.length:=Ab _;refine Ti (λi σ' H'=>(∃ v,σ'=[some<|.ref A,some<|.ref Nm,some<|.ref Pt,some<|.ref L,some<|.int<|(dh:Int)+(z:Int),some<|.int (k:Int),some<|.ref B]++[v])/\ah H4 H'/\H' D=some (Ls<|b.reverse.take i)) ⟨⟨none,rfl⟩,aI hD _,ae⟩ ?_ ?_ ?_
  ·rintro i σ' H' _ ⟨_,sm,_⟩;exact av.of<|sm _ _ AA
  ·rintro i x σ' H' hi hx ⟨⟨v,rfl⟩,sm,eD⟩;rw [Jx] at hi hx;have Jy:b.reverse[i]?=some (b.reverse[i]'(by rw [Cz];exact hi)):=Aa _;rw [Ad,<- List.getElem?_reverse hi,Jy] at hx;cases hx;rw [Bn,Jy,Ez];generalize b.reverse[i]'(by rw [Cz];exact hi)=y;intro cl C s₀ H₀ ex;refine bb 7 Tj ?_;intro cl C s₀ H₀ ex;refine gq<|a8 ?_;intro cl C s₀ H₀ ex;refine af 7 ⟨_,eD,by rw [Ab];exact cY (by rw [Aq,Cz];omega),⟨_,rfl⟩,cK sm hD,?_⟩;rw [ae];show some (HO.lst _)=some (HO.lst _);rw [Ai];rfl
  rintro σ' H5 ⟨_,s5,eD⟩;rw [Jx,<- Cz,Bi] at eD;refine⟨v,D,_,_,rfl,rfl,s5 _ _ Tr,eD,by rw [Ab,Ab,Cz];exact small (by omega),λp5 Jz=>?_⟩;have sX:c2.map V.str++b.reverse.map V.str=(c2++b.reverse).map V.str:=Ai.symm;rw [sX];have vE:=s5 _ _ vC;have AB:aB H5 sW ((fU (aO zs nm) zs.length k).set k<|c1++b):=eG.keep λt _ o h=>s5 _ _ h;have JA:=aI Jz<|Ls<|c2++b.reverse;have Ts:fY (sW.map V.ref).length ((k:Int)+1)=some (k+1):=uY (j:=k+1) (by rw [Ab];omega);refine yI<|af 3<|aE dZ<|af 5<|ao ⟨_,_,rfl,rfl,L,_,_,k+1,rfl,rfl,JA _ _ vE,Ts,?_⟩;rw [<- Gs];obtain⟨sY,Tv⟩:=AB.put (x:=c2++b.reverse) (i:=k+1) vB vE Jz (by omega);rw [gZ] at sY;refine aS ⟨sW.set (k+1) p5,some<|.int (k:Int),some<|.ref B,Tv,cK ((s4.trans s5).trans JA) hL,ae,sY,?_⟩;rw [gB];rfl
 rintro σ H2 ⟨us,u5,u6,lq,s2,jx,aW,rfl⟩;rw [Bi];have eO:=aW.1;rw [Dt.a9] at eO;have JE:∀{l:List Str} {us:List Addr} {H3:Hp} {u5 u6:Option V},l=fA (gW zs nm)->us.Nodup->ah H H3->H3 L=some (.lst<|us.map V.ref)->aB H3 us (fT [] (aO zs nm) l)->Run (D9 sP "_law_rows" (aR kL) P w K mg base b0) ((fI kL).drop 4) (En Q) [some<|.ref A,some<|.ref Nm,some<|.ref Pt,some<|.ref L,some<|.int ((zs.sum:Nat):Int),u5,u6] H3:=by
  rintro l us H3 u5 u6 rfl lq s3 iA dR;have sZ:=dR.1;rw [Dt.bR,lb] at sZ;refine df (iL (aR kL) sP nH 1 (wc rfl T.range gg)<|ai<|gj l8 T.len IK<|ai<|af 3<|aC ⟨L,_,rfl,.inl<|av.of iA,aC ⟨((zs.length+1:Nat):Int),by rw [Ab,sZ],by omega,by omega,λD hD=>?_⟩⟩);rw [Fg];have AF:∀{i:Nat},i < zs.length+1->i < cR.length:=λh=>by omega
  refine yK (λi σ' H'=>(∃ v,σ'=[some<|.ref A,some<|.ref Nm,some<|.ref Pt,some<|.ref L,some<|.int ((zs.sum:Nat):Int),u5,u6]++[v])/\∃ ts:List Addr,ts.length=i/\ah H3 H'/\H' D=some (.lst<|ts.map V.ref)/\∀(j:Nat) t u y,ts[j]?=some t->us[j]?=some u->cR[j]?=some y->H' t=some (.tup [.str y,.ref u])) ⟨⟨_,rfl⟩,[],rfl,aI hD _,ae,λj t u y h=>by simp at h⟩ ?_ ?_
  ·rintro i σ' H' hi ⟨⟨v,rfl⟩,ts,lt,sm,eD,iX⟩;rw [Eu];obtain⟨u,hu⟩:∃ u,us[i]?=some u:=⟨_,Aa<|by omega⟩;obtain⟨y,hy⟩:∃ y,cR[i]?=some y:=⟨_,Aa<|by omega⟩;have a1:cU (us.map V.ref) (i:Int)=some (.ref u):=hG (by rw [Ad,hu];rfl);intro cl C s₀ H₀ ex;refine bb 7 Ju ?_;intro cl C s₀ H₀ ex;refine gq<|a8 ?_;intro cl C s₀ H₀ ex;refine dE<|ai<|de eI<|af 2<|af 7 ⟨Pt,_,_,.str y,rfl,rfl,av.of<|sm _ _<|s3 _ _ Tn,z8 hy,ai<|de eI<|af 3<|af 7 ⟨L,_,_,.ref u,rfl,rfl,av.of<|sm _ _ iA,a1,aC ⟨Z2,λt ht=>?_⟩⟩⟩;have sT:=aI ht<|.tup [.str y,.ref u];have tD:t≠D:=λe=>by rw [e,eD] at ht;cases ht
   refine⟨_,sT _ _ eD,by rw [Ab];exact cY (by omega),⟨_,rfl⟩,ts++[t],by rw [Ae,lt];rfl,cK (sm.trans sT) hD,?_,λj t' u' y' h1 h2 h3=>?_⟩
   ·rw [ae,Ai];rfl
   ·by_cases c:j < ts.length
    ·rw [Bc c] at h1;have e1:=iX j t' u' y' h1 h2 h3;rw [aG λe=>by rw [e,eD] at e1;cases e1];exact sT _ _ e1
    ·have:j=i:=by
      have:=(Ac.mp h1).1;rw [Ae,lt] at this;have:j < i+1:=this;omega
     subst this;rw [Ay (by omega),lt,Ey] at h1;cases h1;rw [hu] at h2;rw [hy] at h3;cases h2;cases h3;rw [aG tD,ae]
  ·rintro σ' H4 ⟨_,ts,lt,sm,eD,iX⟩;have Vc:ts.length=us.length:=by omega
   have tf:(cP cR zs nm).length=zs.length+1:=by
    have:=CJ List.length (Dt.fq (nm:=nm) (show zs.length+1<=cR.length by omega));rw [Ab,Aq] at this;omega
   refine q D (ts.zip us) H4 (s3.trans sm) ⟨?_,?_,λi a r h1 h2=>?_,?_⟩
   ·rw [Dg,tf];omega
   ·have e0:((ts.zip us).map Prod.fst).map V.ref=ts.map V.ref:=by rw [KC<|by omega]
    rw [Be] at e0;rw [eD,<- e0];rfl
   ·obtain⟨g1,g2⟩:=Cy.mp h1;unfold cP at h2;obtain⟨g3,g4⟩:=Cy.mp h2;rw [List.getElem?_take] at g3
    split at g3
    ·exact⟨iX i _ _ _ g1 g2 g3,sm _ _<|dR.2 i _ _ g2 g4⟩
    ·cases g3
   ·rw [Fs<|by omega];exact lq
 show Run _ _ _ [some<|.ref A,some<|.ref Nm,some<|.ref Pt,some<|.ref L,some<|.int ((zs.sum:Nat):Int),u5,u6] H2;refine gn<|fb BQ<|af 4<|ao ⟨_,_,rfl,rfl,_,rfl,?_⟩
 by_cases c:zs.sum < 40
 ·rw [CK (show((zs.sum:Nat):Int) < 40 by omega)];refine a8 ?_;obtain⟨y,hy⟩:∃ y,nm[zs.sum]?=some y:=⟨_,Aa<|by omega⟩;have Tw:[y,y]=fA (gW zs nm):=by
   unfold gW;rw [BK c,hy];rfl
  obtain⟨u,hu⟩:∃ u,us[zs.length]?=some u:=⟨_,Aa<|by omega⟩;have eu:=aW.2 zs.length u _ hu<|Dt.bO<|Af _;have vA:(cell (aO zs nm) zs.length zs.length).length<=1000:=by
   have g:∀ j,((aO zs nm).getD j []).length<=41:=λj=>by
    rw [Az,Dt.cD];cases zs[j]? with
    | none=>show 0<=41;omega
    | some y=>
     show((nm.drop _).take y).length<=41;rw [Aq,Cb];omega
   unfold cell;rw [BJ<|Cd _,Bg]
   split
   ·show 0<=1000;omega
   ·rw [BK<|Af _,Cz];have:=g<|zs.length - 1;omega
  have gZ:=Dt.fu lb [y,y];generalize Tq:cell (aO zs nm) zs.length zs.length=c1 at eu vA gZ;have AG:cU (us.map V.ref) (-1)=some (.ref u):=by
   unfold cU fY;rw [BJ (by decide),BK<|by rw [Ab];omega];show(us.map V.ref)[_]?=_;rw [Ab,eO,show((-1:Int)+((zs.length+1:Nat):Int)).toNat=zs.length by omega,Ad,hu];rfl
  refine ur<|aE pO<|de eI<|af 3<|xc wn<|ao ⟨1,rfl,L,_,_,.ref u,rfl,rfl,av.of jx,AG,?_⟩;refine gN<|ai<|de eI<|af 1<|af 4 ⟨Nm,_,_,.str y,rfl,rfl,av.of<|s2 _ _ sU,z8 hy,ai<|de eI<|af 1<|af 4 ⟨Nm,_,_,.str y,rfl,rfl,av.of<|s2 _ _ sU,z8 hy,aC ⟨Z2,λp1 ik=>?_⟩⟩⟩;have lr:=aI ik<|.lst [.str y,.str y];refine⟨u,p1,_,_,rfl,rfl,lr _ _ eu,ae,by rw [Ab];exact small (by show c1.length+2<=100000;omega),λp2 d5=>?_⟩;have jc:c1.map V.str++[.str y,.str y]=(c1++[y,y]).map V.str:=(Ai (l₁:=c1) (l₂:=[y,y])).symm;rw [jc];have s3:=s2.trans lr;have iA:=lr _ _ jx;have dR:aB (upd H2 p1<|.lst [.str y,.str y]) us (fU (aO zs nm) zs.length zs.length):=aW.keep λt _ o h=>lr _ _ h;generalize upd H2 p1 (.lst [.str y,.str y])=H3 at s3 iA dR d5;have lv:=aI d5<|Ls<|c1++[y,y];have Tx:fY (us.map V.ref).length (-1)=some zs.length:=by
   unfold fY;rw [BJ (by decide),BK (by rw [Ab];omega),Ab,eO,show((-1:Int)+((zs.length+1:Nat):Int)).toNat=zs.length by omega]
  refine yI<|af 3<|xc wn<|ao ⟨1,rfl,L,_,_,zs.length,rfl,rfl,lv _ _ iA,Tx,aS ?_⟩;rw [<- Gs];obtain⟨eG,vB⟩:=dR.put (x:=c1++[y,y]) (i:=zs.length) lq iA d5 (by omega);rw [gZ] at eG;exact JE Tw vB (cK (s3.trans lv) hL) ae eG
 ·rw [CG (show ¬((zs.sum:Nat):Int) < 40 by omega)];refine d0<|aS ?_;refine JE (l:=[]) ?_ lq s2 jx (by rw [<- Dt.kj lb];exact aW);unfold gW;rw [BJ c];rfl
open PyProof.Rows (sortedS)
open Dt (aO gW cP CH fC ak TL bJ)
def pr(zs:List Nat):Nat:=zs.foldl (· * ·) 1
theorem vF:∀(zs:List Nat) (x:Nat),zs.foldl (· * ·) x=x * zs.foldl (· * ·) 1
 | [],x=>(Nat.mul_one x).symm
 | z :: zs,x=>by
  show zs.foldl (· * ·) (x * z)=x * zs.foldl (· * ·) (1 * z);rw [vF zs<|x * z,vF zs<|1 * z,Nat.one_mul,Nat.mul_assoc]
theorem JI:∀{zs:List Nat},(∀ z∈zs,1<=z)->1<=pr zs
 | [],_=>Af 1
 | z :: zs,h=>by
  show 1<=zs.foldl (· * ·) (1 * z);rw [vF,Nat.one_mul];exact Nat.mul_le_mul (h z Ah)<|JI λy hy=>h y<|Ar _ hy
theorem Tz{zs:List Nat}(h:∀ z∈zs,1<=z)(k:Nat):pr (zs.take k)<=pr zs:=by
 have e:pr zs=pr (zs.take k) * pr (zs.drop k):=by
  unfold pr;rw [<- vF,<- Gi,Cc]
 have:=JI (zs:=zs.drop k) λz hz=>h z<|Bv hz;rw [e];exact Nat.le_mul_of_pos_right _ this
theorem TB{zs:List Nat}{k z:Nat}(h:zs[k]?=some z):pr (zs.take<|k+1)=pr (zs.take k) * z:=by
 unfold pr;rw [Bn,h,Gi];rfl
theorem JO{zs:List Nat}{nm:List Str}(hs:zs.sum<=nm.length){k:Nat}(hk:k<=zs.length):(CH<|(aO zs nm).take k).length=pr (zs.take k):=by
 have:=Dt.fS (aO zs nm) k (by rw [Dt.bF];exact hk);rw [List.map_take,Dt.cE zs nm hs] at this;exact this
theorem TC{C:List (List Str)}{i:Nat}{s:List Str}(h:C[i]?=some s)(b:List Str):fC (C.take<|i+1) b=fC (C.take i) b++b.map λz=>s++[z]:=by
 unfold Dt.fC;rw [Bn,h,List.flatMap_append];simp
theorem TD(C:List<|List Str)(b:List Str):(fC C b).length=C.length * b.length:=by
 unfold Dt.fC;rw [List.length_flatMap]
 induction C with
 | nil=>simp
 | cons s L ih=>rw [Bq,Dd,ih,Ab,As,Nat.succ_mul,NK]
def vG:Sp:=λvs H Q _=>∃(A Nm:Addr) (zs:List Nat) (nm:List Str) (n:Net) (lo:Option Str) (ss:List Str),vs=[.ref A,.ref Nm]/\dQ H A zs/\kh zs/\H Nm=some (Ls nm)/\nm.length=41/\pr zs<=300/\ak n (aO zs nm) lo/\aK ss/\(∀ z,z∈ss↔z∈aD n) /\
 ∀(D:Addr) (ts:List Addr) (H':Hp),ah H H'->H' D=some (.lst<|ts.map V.ref)->aB H' ts (nE n ss)->Q (.ref D) H'
abbrev JP:List Str:=["_law_sizes","_law_names_here","_law_found","_law_at","_law_size","_law_longer","_law_some","_law_name"]
abbrev tu:List Str:=["_law_sizes","_law_names_here","_law_found","_law_at","_law_size","_law_longer","a1","_law_name","_law_some"]
theorem tE:au JP ["_law_sizes","_law_names_here"] (aR uE):=⟨rfl,rfl,rfl,by decide +kernel,rfl,by decide +kernel,by decide +kernel⟩
theorem TF:tu.Nodup:=by decide
theorem TH{f:Addr}{fd:FuncData}(F:bL K "_law_due" "_law_due" uE f fd)(T:Txt mg):aA P w K mg base bP 1 f fd ["_law_sizes","_law_names_here"] vG:=by
 refine F.gb tE (λvs H Q E h=>?_) λb0 H vs Q E hr h=>?_
 ·obtain⟨A,Nm,zs,nm,n,lo,ss,rfl,_⟩:=h;rfl
 obtain⟨A,Nm,zs,nm,n,lo,ss,rfl,hA,hz,sU,ln,AH,hp,bI,mem,q⟩:=h;have nd:=tE.nd;have TJ:=JC (Nat.add_le_add_left (by decide:8<=100) _) hr.qg;have lz:=hz.len;have sz:=hz.sum;have lb:(aO zs nm).length=zs.length:=Dt.bF zs nm;have oZ:(nV zs).length=zs.length:=Ab _;show Run _ _ _ [some<|.ref A,some<|.ref Nm,none,none,none,none,none,none] H;refine run_set 2 nd<|gN<|ai<|gN<|aC ⟨Z0,λe0 TK=>aC ⟨Z1,λF0 JS=>?_⟩⟩;have s1:=(aI TK<|.lst []).trans<|aI JS<|.lst [.ref e0];have JU:(upd (upd H e0<|.lst []) F0<|.lst [.ref e0]) F0=some (.lst<|[e0].map V.ref):=ae;have JY:(upd (upd H e0<|.lst []) F0<|.lst [.ref e0]) e0=some (Ls []):=aI JS _ _ _ ae;generalize upd (upd H e0<|.lst []) F0 (.lst [.ref e0])=H1 at s1 JU JY;refine run_set 3 nd<|ao ?_;show Run _ _ _ [some<|.ref A,some<|.ref Nm,some<|.ref F0,some<|.int 0,none,none,none,none] H1;refine Hs (a:=A) (xs:=nV zs) (λk σ H'=>∃(Fd:Addr) (us:List Addr) (u4 u5 u6 u7:Option V),ah H H'/\H' Fd=some (.lst<|us.map V.ref)/\aB H' us (CH<|(aO zs nm).take k)/\σ=[some<|.ref A,some<|.ref Nm,some<|.ref Fd,some<|.int (((zs.take k).sum:Nat):Int),u4,u5,u6,u7]) (af 0 ⟨rfl,F0,[e0],_,_,_,_,s1,JU,⟨rfl,λj t z h1 h2=>?_⟩,rfl⟩) ?_ ?_ ?_
 ·have h2:[([]:List Str)][j]?=some z:=h2
  match j with
  | 0=>
   cases h1;cases h2;exact JY
  | j+1=>simp at h1
 ·rcases hA with h | h
  ·exact .inl λi σ H' ⟨_,_,_,_,_,_,sm,_⟩=>av.of<|sm _ _ h
  ·exact .inr λi σ H' ⟨_,_,_,_,_,_,sm,_⟩=>bo.of<|sm _ _ h
 ·rintro k x σ H2 hx ⟨Fd,us,u4,u5,u6,u7,s2,eF,aW,rfl⟩;rw [Ad,Ax] at hx;obtain⟨z,iz,rfl⟩:=hx;have hk:=(Ac.mp iz).1;have gG:=Dt.cD zs nm k;rw [iz] at gG;have gG:(aO zs nm)[k]?=some ((nm.drop (zs.take k).sum).take z):=gG;have gB:(zs.take<|k+1).sum=(zs.take k).sum+z:=by
   rw [Bn,iz,Fe];simp
  have kB:(zs.take<|k+1).sum<=zs.sum:=by
   have:=CJ List.sum<|Cc (k+1) zs;rw [Fe] at this;omega
  have AI:(CH<|(aO zs nm).take k).length<=300:=by
   rw [JO (by omega)<|by omega];exact Dk (Tz hz.pos k) AH
  have km:∀ c∈CH ((aO zs nm).take k),c.length<=20:=λc hc=>by
   have:=((Dt.fR (aO zs nm) k (by omega) c).mp hc).1;rw [Aq] at this;omega
  rw [Dt.cB gG];generalize (zs.take k).sum=dh at gG gB;have gY:=Jt nm (a:=dh) (z:=z) (by omega);generalize hb:(nm.drop dh).take z=b at gG gY;have Jv:b.length<=41:=by rw [<- hb,Aq,Cb];omega
  generalize CH ((aO zs nm).take k)=C at aW AI km;have eO:=aW.1;refine bb 4 nd ?_;refine run_set 5 nd<|gN<|aC ⟨Z0,λLg AJ=>?_⟩;have sg:=aI AJ<|.lst [];have J0:(upd H2 Lg<|.lst []) Lg=some (.lst<|([]:List Addr).map V.ref):=ae;show Run _ _ _ [some<|.ref A,some<|.ref Nm,some<|.ref Fd,some<|.int (dh:Int),some<|.int (z:Int),some<|.ref Lg,u6,u7] (upd H2 Lg<|.lst []);generalize upd H2 Lg (.lst [])=H3 at sg J0;refine mB<|af 2 ⟨Fd,rfl,⟨_,av.of<|sg _ _ eF⟩,?_⟩;refine mC (xs:=us.map V.ref) (λi σ H'=>∃(vs:List Addr) (u6 u7:Option V),ah H2 H'/\H' Lg=some (.lst<|vs.map V.ref)/\(∀ v∈vs,v≠Lg)/\aB H' vs (fC (C.take i) b)/\σ=[some<|.ref A,some<|.ref Nm,some<|.ref Fd,some<|.int (dh:Int),some<|.int (z:Int),some<|.ref Lg,u6,u7]) ⟨[],_,_,sg,J0,(λv h=>by cases h),⟨rfl,λj t z h=>by simp at h⟩,rfl⟩ ?_ ?_ ?_
  ·rintro i σ H' _ ⟨_,_,_,sm,_⟩;exact av.of<|sm _ _ eF
  ·rintro i x σ H4 hx ⟨vs,u6,u7,s4,vH,J1,vI,rfl⟩;rw [Ad,Ax] at hx;obtain⟨u,hu,rfl⟩:=hx;have hi:i < C.length:=by
    have:=(Ac.mp hu).1;omega
   have kn:=Aa hi;have ko:=km _<|Bp hi;generalize C[i]=s at kn ko;have eu:=s4 _ _<|aW.2 i u s hu kn;rw [TC kn b];refine bb 6 nd ?_;show Run _ _ _ [some<|.ref A,some<|.ref Nm,some<|.ref Fd,some<|.int (dh:Int),some<|.int (z:Int),some<|.ref Lg,some<|.ref u,u7] H4;refine mB<|pX pK<|af 1<|mz<|af 3 ⟨_,rfl,mz<|aE dZ<|af 3<|af 4 ⟨_,_,rfl,rfl,_,rfl,Nm,_,rfl,av.of<|s4 _ _<|s2 _ _ sU,λB hB=>?_⟩⟩;have eH:upd H4 B (.lst<|bh (nm.map V.str) (some (dh:Int))<|some<|(λi j:Int=>i+j) (dh:Int) (z:Int))=upd H4 B (Ls b):=by
    show upd H4 B (.lst<|bh (nm.map V.str) (some (dh:Int))<|some<|(dh:Int)+(z:Int))=_;rw [gY]
   rw [eH];have sB:=aI hB<|Ls b;have eB:(upd H4 B<|Ls b) B=some (Ls b):=ae;have s5:=s4.trans sB;have TN:B≠Lg:=λe=>by rw [e,vH] at hB;cases hB
   have tF:=sB _ _ vH;have tG:aB (upd H4 B<|Ls b) vs (fC (C.take i) b):=vI.keep λt _ o h=>sB _ _ h;have TQ:=sB _ _ eu;generalize upd H4 B (Ls b)=H5 at sB eB s5 tF tG TQ;refine⟨B,rfl,⟨_,av.of eB⟩,?_⟩;have Vd:u≠Lg:=λe=>by
    have:=aW.2 i u s hu kn;rw [e,AJ] at this;cases this
   refine mC (xs:=b.map V.str) (λj σ H'=>∃(vs:List Addr) (u7:Option V),ah H2 H'/\H' Lg=some (.lst<|vs.map V.ref)/\H' B=some (Ls b)/\(∀ v∈vs,v≠Lg)/\aB H' vs (fC (C.take i) b++(b.take j).map λz=>s++[z])/\σ=[some<|.ref A,some<|.ref Nm,some<|.ref Fd,some<|.int (dh:Int),some<|.int (z:Int),some<|.ref Lg,some<|.ref u,u7]) ⟨vs,_,s5,tF,eB,J1,?_,rfl⟩ ?_ ?_ ?_
   ·show aB H5 vs (fC (C.take i) b++[]);rw [Bg];exact tG
   ·rintro j σ H' _ ⟨_,_,_,_,e,_⟩;exact av.of e
   ·rintro j x σ H6 hx ⟨ws,v7,s6,jd,J9,kq,tH,rfl⟩;rw [Ad,Ax] at hx;obtain⟨y,hy,rfl⟩:=hx;have hj:=(Ac.mp hy).1;have law:=tH.1;rw [Ae,Ab,TD,Aq,Aq] at law;have lw:ws.length<=20000:=by
     have:min i C.length * b.length<=300 * 41:=Nat.mul_le_mul (by omega) Jv;omega
    have TR:=s6 _ _<|aW.2 i u s hu kn;refine bb 7 nd ?_;show Run _ _ _ [some<|.ref A,some<|.ref Nm,some<|.ref Fd,some<|.int (dh:Int),some<|.int (z:Int),some<|.ref Lg,some<|.ref u,some<|.str y] H6;refine jI<|om<|af 5 ⟨Lg,rfl,⟨_,jd⟩,aE pO<|af 6<|gN<|ai<|af 7<|aC ⟨Z1,λp1 ik=>?_⟩⟩;have lr:=aI ik<|.lst [.str y];refine⟨u,p1,_,_,rfl,rfl,lr _ _ TR,ae,by rw [Ab];exact small (by show s.length+1<=100000;omega),λp2 d5=>?_⟩;have jc:s.map V.str++[.str y]=(s++[y]).map V.str:=(Ai (l₁:=s) (l₂:=[y])).symm;rw [jc];have lv:=lr.trans<|aI d5<|Ls<|s++[y];have tI:=lv _ _ jd;have n2:p2≠Lg:=λe=>by rw [e,lr _ _ jd] at d5;cases d5
    have e2:(upd (upd H6 p1<|.lst [.str y]) p2<|Ls<|s++[y]) p2=some (Ls<|s++[y]):=ae;have TU:B≠Lg:=TN;have s7:=s6.trans lv;have J':=lv _ _ J9;have tJ:=tH.keep (H':=upd (upd H6 p1<|.lst [.str y]) p2<|Ls<|s++[y]) λt _ o h=>lv _ _ h;generalize upd (upd H6 p1<|.lst [.str y]) p2 (Ls<|s++[y])=H7 at lv tI e2 s7 J' tJ;refine⟨_,tI,by rw [Ab];exact cY (by omega),aS ⟨ws++[p2],_,cK s7 AJ,?_,?_,?_,?_,rfl⟩⟩
    ·rw [ae,Ai];rfl
    ·rw [aG TU];exact J'
    ·intro v hv
     rcases An.mp hv with h | h
     ·exact kq v h
     ·rw [Ag.mp h];exact n2
    ·rw [Bn,hy,Ai,<- Bf];refine aB.snoc (tJ.keep λt ht o h=>?_) ?_
     ·rw [aG<|kq t ht];exact h
     ·rw [aG n2];exact e2
   ·rintro σ H6 ⟨ws,v7,s6,jd,J9,kq,tH,rfl⟩;rw [Ab,Bi] at tH;exact aS ⟨ws,_,_,s6,jd,kq,tH,rfl⟩
  ·rintro σ H4 ⟨vs,u6,u7,s4,vH,J1,vI,rfl⟩;rw [Ab,eO,Bi] at vI;refine run_set 2 nd<|af 5 ?_;refine run_set 3 nd<|aE dZ<|af 3<|af 4 ⟨_,_,rfl,rfl,aS ⟨Lg,vs,some<|.int (z:Int),some<|.ref Lg,u6,u7,s2.trans s4,vH,vI,?_⟩⟩;rw [gB];rfl
 rintro σ H2 ⟨Fd,us,u4,u5,u6,u7,s2,eF,aW,rfl⟩;have tk:(aO zs nm).take zs.length=aO zs nm:=Cp (by omega);rw [oZ,tk] at aW;have eO:=aW.1;have oK:=JO (zs:=zs) (nm:=nm) (by omega)<|Af _;rw [tk,Bi] at oK;have km:∀ c∈CH (aO zs nm),c.length<=20/\c.Nodup:=λc hc=>by
  have pk:=(Dt.cC (aO zs nm) c).mp hc;have:=pk.1;exact⟨by omega,pk.nodup hp⟩
 refine df<|gj (Sh TJ) T.sorted HB<|ai<|iL (aR uE) JP tu 1 (kA aZ)<|af 2 ⟨Fd,rfl,⟨_,av.of eF⟩,λD hD=>?_⟩;refine mM (xs:=us.map V.ref) (λi σ' H'=>(∃ v,σ'=[some<|.ref A,some<|.ref Nm,some<|.ref Fd,some<|.int (((zs.take (nV zs).length).sum:Nat):Int),u4,u5,u6,u7]++[v])/\∃(ts:List Addr) (E:List<|List Str),ah H2 H'/\H' D=some (.lst<|ts.map V.ref)/\(∀ t∈ts,t≠D)/\aB H' ts E/\E.length=i/\∀(j:Nat) c t,(CH<|aO zs nm)[j]?=some c->E[j]?=some t->aK t/\∀ z,z∈t↔z∈c) ⟨⟨_,rfl⟩,[],[],aI hD _,ae,(λt h=>by cases h),⟨rfl,λj t z h=>by simp at h⟩,rfl,λj c t h1 h2=>by simp at h2⟩ ?_ ?_ ?_
 ·rintro i σ' H' _ ⟨_,_,_,sm,_⟩;exact av.of<|sm _ _ eF
 ·rintro i x σ' H' hx ⟨⟨v,rfl⟩,ts,E',sm,eD,nD,nI,lE,hE⟩;rw [Ad,Ax] at hx;obtain⟨u,hu,rfl⟩:=hx;have hi:i < (CH<|aO zs nm).length:=by
   have:=(Ac.mp hu).1;omega
  have kn:=Aa hi;have ko:=km _<|Bp hi;generalize (CH<|aO zs nm)[i]=s at kn ko;have eu:=sm _ _<|aW.2 i u s hu kn;have Ve:=nI.1;intro cl C' s₀ H₀ ex;refine bb 8 TF ?_;intro cl C' s₀ H₀ ex;refine gq<|a8 ?_;intro cl C' s₀ H₀ ex;refine gj Og T.sorted HB (ai<|af 8<|aC ⟨u,s,rfl,av.of eu,by omega,λp t iS pm so=>?_⟩);have sp:=aI iS<|.lst<|t.map V.str;have pD:p≠D:=λe=>by rw [e,eD] at iS;cases iS
  refine⟨_,sp _ _ eD,by rw [Ab];exact cY (by omega),⟨_,rfl⟩,ts++[p],E'++[t],cK (sm.trans sp) hD,?_,?_,?_,by rw [Ae,lE];rfl,?_⟩
  ·rw [ae,Ai];rfl
  ·intro v hv
   rcases An.mp hv with h | h
   ·exact nD v h
   ·rw [Ag.mp h];exact pD
  ·refine aB.snoc (nI.keep λt' cz o h=>?_) ?_
   ·rw [aG<|nD t' cz];exact sp _ _ h
   ·rw [aG pD];exact ae
  ·intro j c t' h1 h2
   by_cases cj:j < E'.length
   ·rw [Bc cj] at h2;exact hE j c t' h1 h2
   ·have:j=i:=by
     have:=(Ac.mp h2).1;rw [Ae,lE] at this;have:j < i+1:=this;omega
    subst this;rw [Ay (by omega),lE,Ey] at h2;cases h2;rw [kn] at h1;cases h1;exact⟨E6 so<|pm.nodup_iff.mpr ko.2,λz=>pm.mem_iff⟩
 ·rintro σ' H3 ⟨_,ts,E',s3,eD,nD,nI,lE,hE⟩;rw [Ab] at lE;obtain⟨TV,TX⟩:=hp.due bI mem (D:=E') (by omega) hE;refine aC ⟨D,ts,E',rfl,av.of eD,nI.1,TV,λj t z h1 h2=>nI.2 j t z h1 h2,λR ps hR pp ps2=>?_⟩;have hn:=hp.len;have e1:(ss.map λz=>((z,bB n z):bJ)).map (·.1)=ss:=by rw [Be];exact Gc _
  have r0:List.range n.length≠[]:=λe=>by
   have:=CJ List.length e;rw [Bh,Dp] at this;omega
  have fm:∀ e∈(ss.map λz=>((z,bB n z):bJ)),e.2.1 < (List.range n.length).length/\e.2.2 < (List.range n.length).length:=λe he=>by
   obtain⟨z,hz,rfl⟩:=Ak.mp he;rw [Bh];exact kU hp.twice<|(mem z).mp hz
  have e7:ps.map (·.2)=nE n ss:=RF (Dw.mpr ps2) (Dt.cN _ _ r0 fm<|by rw [Jn];exact bI) (by
   have:=pp.map (·.2);rw [Fs<|JT nI.1.symm] at this;exact this.trans TX)
  refine q R (ps.map (·.1)) _ ((s2.trans s3).trans<|aI hR _) (by rw [ae,Be];rfl) ?_;rw [<- e7];refine⟨by rw [Ab,Ab],λj t z h1 h2=>?_⟩;rw [Ad,Ax] at h1 h2;obtain⟨p,iS,rfl⟩:=h1;obtain⟨p',tK,rfl⟩:=h2;rw [iS] at tK;cases tK;have pm:=pp.mem_iff.mp<|Au iS;obtain⟨i,hi⟩:=At pm;rw [Cy] at hi;exact aI hR _ _ _<|nI.2 i _ _ hi.1 hi.2
end
end Y5
namespace Nt
open PySem L2
theorem TY{k:Nat}(h:k<=1000):((k:Int)).natAbs.log2 < 1920:=by
 have e:((k:Int)).natAbs=k:=by omega
 rw [e];have:k.log2<=k:=Nat.log2_le_self k;omega
end Nt
namespace Y5
open PySem L2 Nt bG
open Dt (aO gW cP CH fC ak TL bJ)
theorem T1{X:Cx}{P:Program}{w:World}:lY (XF P w) X (λ_ _ _=>False):=λ_ _ _ _ _ _ _ h=>by
 obtain⟨_,_,_,_,_,h,_⟩:=h;exact h.elim
theorem AK(K:PySem.W.Frag):PySem.W.kitOne K (.type "list") (.type "list")=some true:=by rfl
theorem T2:bootBuiltins "ValueError" = some (.type "ValueError"):=by decide +kernel
theorem aB.same{H H':Hp}{us:List Addr}{ls:List (List Str)}(h:aB H us ls)(s:ah H H'):aB H' us ls:=h.keep λt _ o e=>s _ _ e
theorem T4{X:Cx}{H:Hp}{L M:Addr}{us vs:List Addr}{cs:List (List Str)}(eL:H L=some (.lst<|us.map V.ref))(eM:H M=some (.lst<|vs.map V.ref))(h:aB H us cs)(g:aB H vs cs):oq X H 2 (.ref L) (.ref M) true:=by
 have hl:=h.1;have gl:=g.1;have q:=EE (X:=X) (k:=1) (λ_=>true) (av.of (K:=X.K) eL) (av.of (K:=X.K) eM) (by rw [Ab,Ab];omega) λj x y hx hy=>by
  rw [Ad,Ax] at hx hy;obtain⟨a,ea,rfl⟩:=hx;obtain⟨b,eb,rfl⟩:=hy;have hj:=(Ac.mp ea).1;obtain⟨c,hc⟩:∃ c,cs[j]?=some c:=⟨_,Aa<|by omega⟩;exact Px<|Pw (h.2 j a c ea hc)<|g.2 j b c eb hc
 rw [EF] at q;exact q
theorem Ka:∀{zs:List Nat} {z:Nat},z∈zs->z<=zs.sum
 | y :: zs,z,h=>by
  rw [Dd]
  rcases Am.mp h with e | e
  ·omega
  ·have:=Ka e;omega
def tq(k:Nat):Str:=Str.ofString "t"++Str.ofString (toString (k:Int))
def vJ(d:Int)(i:Nat):Str:=tq ((d+(i:Int) * 17) % 41).toNat
def jy(d:Int)(k:Nat):List Str:=(List.range k).map<|vJ d
theorem T5:∀ i:Fin 41,∀ j:Fin 41,tq i.1=tq j.1->i.1=j.1:=by decide +kernel
theorem Ua(d:Int):(jy d 41).Nodup:=by
 unfold jy;rw [Bj,Dw];refine(Bj.mp Fr).imp_of_mem λ{a b} ha hb bf k=>bf ?_;have la:=Ce.mp ha;have lb:=Ce.mp hb;have e:=T5 ⟨((d+(a:Int) * 17) % 41).toNat,by omega⟩ ⟨((d+(b:Int) * 17) % 41).toNat,by omega⟩ k;simp only at e;omega
theorem Kb(d:Int)(k:Nat):(jy d k).length=k:=by unfold jy;rw [Ab,Bh]
theorem Ub(d:Int)(k:Nat):jy d (k+1)=jy d k++[vJ d k]:=by
 unfold jy;rw [Cj,Ai];rfl
def tL:Sp:=λvs H Q _=>∃(R:Addr) (as:List<|Addr×Addr) (n:Net) (ss:List Str),vs=[.ref R]/\a6 H R as n/\eJ n/\(n.map (·.1)).Nodup/\n≠[]/\n.length<=60/\(aD n).length<=80/\iO n/\aK ss/\(∀ z,z∈ss↔z∈aD n)/\300 < (nE n ss).length/\∀ H',ah H H'->Q (.bl true) H'
def tM(K:PySem.W.Frag):Sp:=λvs H Q _=>∃(a:Addr) (ns:List Int),vs=[.ref a]/\av K H a (ns.map V.int)/\ns.length<=63/\∀ H',Q (.bl true) H'
section
variable{P:Program}{w:World}{K:PySem.W.Frag}{mg:Str->Option Value}{base:Heap}
abbrev Uc:List Str:=["_law_rows_here","_law_own","e"]
theorem tN:au Uc ["_law_rows_here"] (aR uF):=⟨rfl,rfl,rfl,by decide +kernel,rfl,by decide +kernel,by decide +kernel⟩
theorem Ud{f:Addr}{fd:FuncData}{c:Str->Addr}{k:Nat}(F:bL K "_law_refused" "_law_refused" uF f fd)(T:Txt mg)(cl:Cl K mg c)(GP:dz P w K mg base k "trees_of" ["rows"]<|nF c) :
  aA P w K mg base bP (k+1) f fd ["_law_rows_here"] tL:=by
 refine F.gb tN (λvs H Q E h=>?_) λb0 H vs Q E hr h=>?_
 ·obtain⟨R,as,n,ss,rfl,_⟩:=h;rfl
 obtain⟨R,as,n,ss,rfl,hR,hT,hN,h0,hn,ig,hH,bI,mem,big,q⟩:=h;have nd:=tN.nd;have mx:("TooMany" : Str)∈bN:=by decide
 show Run _ _ _ [some<|.ref R,none,none] H;refine run_set 1 nd<|uo ?_;show Run _ _ _ [some<|.ref R,some<|.bl false,none] H;refine SR (λC σ' H'=>C = .ref (c "TooMany")/\σ'=[some<|.ref R,some<|.bl false,none]/\ah H H') (cl.at' _ mx).1 (cl.at' _ mx).2.1 (λpp=>?_) ?_
 ·exact jI<|Hk GP hr (Hl rfl)<|ai<|af 0<|aC ⟨R,as,n,ss,rfl,hR,hT,hN,h0,hn,ig,hH,bI,mem,λ_ H' s'=>⟨rfl,rfl,s'⟩,λk=>absurd k<|by omega⟩
 rintro C σ' H' ⟨rfl,rfl,s'⟩;refine⟨c "TooMany",rfl,(cl.at' _ mx).2.1,cl.own _ mx,λpp ea oe ix AO=>?_⟩;have sE:=s'.trans<|aI AO<|XO oe;generalize upd H' ea (XO oe)=H1 at sE;refine run_set 1 nd<|uo<|aS ?_;show Run _ _ _ [some<|.ref R,some<|.bl true,none] H1;refine QD 2 (λC σ' H'=>C = .ref (c "TooMany")/\σ'=[some<|.ref R,some<|.bl true,none]/\ah H H') cl.SV cl.zQ nd (λpp=>?_) ?_
 ·exact jI<|Hk GP hr (Hl rfl)<|ai<|af 0<|aC ⟨R,as,n,ss,rfl,hR.same sE,hT,hN,h0,hn,ig,hH,bI,mem,λ_ H' s'=>⟨rfl,rfl,sE.trans s'⟩,λk=>absurd k<|by omega⟩
 rintro C σ' H' ⟨rfl,rfl,s'⟩;refine⟨c "TooMany",rfl,(cl.at' _ mx).2.1,(cl.at' _ mx).2.2.1,λpp ea oe ix AO=>?_⟩;have s1:=aI AO<|XO oe;have hE:(upd H' ea<|XO oe) ea=some (XO oe):=ae;have sE:=s'.trans s1;show Run _ _ _ [some<|.ref R,some<|.bl true,some<|.ref ea] (upd H' ea<|XO oe);generalize upd H' ea (XO oe)=H6 at s1 hE sE;refine df<|xf<|af 1 ⟨true,rfl,a8<|xf<|gj QG T.xU FT<|ai<|af 2<|ai<|DF (.ty "ValueError") T.xX T2 rfl (aC ⟨ea,c "TooMany",oe,.type "ValueError",.ty "ValueError",true,rfl,λu r=>r,hE,ix,(cl.at' _ mx).2.2.2.1,(cl.at' _ mx).2.2.2.2,true,rfl,a8 ?_⟩)⟩;refine DI (NB<|gj QH T.xU FT<|ai<|af 2<|ai<|dE<|ai<|xa (cl.at' "NoNet" (by decide)).1 (v:= .ref<|c "NoNet") rfl (ai<|xa (cl.at' "NoTie" (by decide)).1 (v:= .ref<|c "NoTie") rfl (aC ⟨Z2,λt ht=>?_⟩)));have s2:=aI ht<|.tup [.ref<|c "NoNet",.ref<|c "NoTie"];refine aC ⟨ea,c "TooMany",oe,t,_,[.ref<|c "NoNet",.ref<|c "NoTie"],false,rfl,ae,λus r=>?_,s2 _ _ hE,ix,(cl.at' _ mx).2.2.2.1,?_,false,rfl,?_⟩
 ·obtain⟨u,v,rfl,r1,r2⟩:=vals2 r;cases r1;cases r2;rfl
 ·have k1:=cl.Jp _ mx "NoNet" (by decide);have k2:=cl.Jp _ mx "NoTie" (by decide);rw [show decide (("TooMany" : Str) = "NoNet")=false by decide] at k1;rw [show decide (("TooMany" : Str) = "NoTie")=false by decide] at k2;show PySem.W.kitAny K _ _=some false;unfold PySem.W.kitAny;rw [k1];show PySem.W.kitAny K _ _=_;unfold PySem.W.kitAny;rw [k2];rfl
 exact q _<|sE.trans s2
abbrev Ue:List Str:=["_law_script","_law_sizes","_law_drawn","_law_names_here","_law_k","_law_rows_here","_law_many","_law_size","_law_told"]
theorem lB:au Ue ["_law_script"] (aR jN):=⟨rfl,rfl,rfl,by decide +kernel,rfl,by decide +kernel,by decide +kernel⟩
theorem Ug{f:Addr}{fd:FuncData}{c:Str->Addr}{k:Nat}(F:bL K "law" "law" jN f fd)(T:Txt mg)(hk:5<=k)(GC:aN P w K mg base 5 "_law_cell_at" ["_law_script","_law_k"]<|qm K)(GB:aN P w K mg base 5 "_law_big" ["_law_script","_law_at"]<|uG K)
  (GN:aN P w K mg base 5 "_law_names" ["_law_stem","_law_many"] uH) (GZ:aN P w K mg base 5 "_law_sizes_by" ["_law_big_here"] ki) (GR:aN P w K mg base 5 "_law_rows" ["_law_sizes","_law_names_here","_law_points"] vz) (GD:aN P w K mg base 5 "_law_due" ["_law_sizes","_law_names_here"] vG)
  (GO:aN P w K mg base 5 "tree_count" ["rows"] oJ) (GF:aN P w K mg base k "_law_refused" ["_law_rows_here"] tL) (GT:dz P w K mg base k "trees_of" ["rows"]<|nF c):aA P w K mg base bP (k+1) f fd ["_law_script"] (tM K):=by
 refine F.gb lB (λvs H Q E h=>?_) λb0 H vs Q E hr h=>?_
 ·obtain⟨a,ns,rfl,_⟩:=h;rfl
 obtain⟨a,ns,rfl,hS,Vf,q⟩:=h;have nd:=lB.nd;have nJ:=hr.mono hk;have un:=hr.qg;show Run _ _ _ [some<|.ref a,none,none,none,none,none,none,none,none] H;refine run_set 1 nd (dF GZ nJ<|ai<|dF GB nJ<|ai<|af 0<|ai<|ao<|aC ⟨a,ns,1,rfl,hS,by decide,λb H1 s1=>aC ⟨b,rfl,λA zs H2 s2 hA hz=>?_⟩⟩);have AQ:=s1.trans s2;refine run_set 2 nd (aE dD<|dF GC nJ<|ai<|af 0<|ai<|ao<|aC ⟨a,ns,0,rfl,AQ.seq hS,by decide,λc0=>?_⟩);refine aE wm (ao<|ao ⟨_,_,rfl,rfl,⟨by decide,by decide,by decide⟩,_,_,rfl,rfl,(by show(0:Int) < 10 ^ (18:Int).toNat;decide),?_⟩);show Run _ _ _ [some<|.ref a,some<|.ref A,some<|.int<|c0 % 10 ^ (18:Int).toNat,none,none,none,none,none,none] H2;generalize c0 % 10 ^ (18:Int).toNat=d;refine run_set 3 nd<|gN<|aC ⟨Z0,λLn AT=>?_⟩;have Uh:H Ln=none:=ah.free AQ AT;show Run _ _ _ [some<|.ref a,some<|.ref A,some<|.int d,some<|.ref Ln,none,none,none,none,none] (upd H2 Ln<|.lst []);refine n9 T.range<|ao ⟨41,rfl,by decide,by decide,oa (n:=41) (λi σ H'=>∃ u4,ah H2 H'/\H' Ln=some (Ls<|jy d i)/\σ=[some<|.ref a,some<|.ref A,some<|.int d,some<|.ref Ln,u4,none,none,none,none]) ⟨_,aI AT _,ae,rfl⟩ ?_ ?_⟩
 ·rintro i σ H3 hi ⟨u4,s3,eL,rfl⟩;rw [Eu];refine bb 4 nd ?_;show Run _ _ _ [some<|.ref a,some<|.ref A,some<|.int d,some<|.ref Ln,some<|.int (i:Int),none,none,none,none] H3;have h1:=Bz (d+(i:Int) * 17) (show(41:Int)≠0 by decide);have h2:=Ch (d+(i:Int) * 17) (show(0:Int) < 41 by decide);have lg:=TY (k:=((d+(i:Int) * 17) % 41).toNat) (by omega);rw [Fw h1] at lg;have el:=PySem.int_text_length_le10 (a:=(d+(i:Int) * 17) % 41) (k:=4) (by decide) (by omega);have l5:(Str.ofString "t").length=1:=by decide
  have lt:=Kb d i;refine jI<|om<|af 3 ⟨Ln,rfl,⟨_,eL⟩,aE BV<|uq<|NC Qi T.xW PyProof.Rows.boot_str<|ai<|aE dD<|aE dZ<|af 2<|aE kC<|af 4<|ao ⟨_,_,rfl,rfl,.inr ⟨by decide,by decide⟩,_,_,rfl,rfl,ao ⟨_,_,rfl,rfl,(by show(0:Int) < 41;decide),aC ⟨_,rfl,lg,_,_,rfl,rfl,?_,_,eL,by rw [Ab];exact cY (by omega),aS ⟨some<|.int (i:Int),cK s3 AT,?_,rfl⟩⟩⟩⟩⟩
  ·rw [l5,PySem.ofString_length];exact small<|by omega
  ·rw [ae,Ub];show some (HO.lst _)=some (HO.lst<|(jy d i++[vJ d i]).map V.str);rw [Ai];unfold vJ tq;rw [Fw h1];rfl
 rintro σ H3 ⟨u4,s3,eL,rfl⟩;have Ui:=AQ.trans s3;have Kc:=hA.same s3;have lz:=hz.len;have tO:=Kb d 41;have AU:=Ua d;generalize jy d 41=nm at eL tO AU;refine run_set 5 nd (dF GR nJ<|ai<|af 1<|ai<|af 3<|ai<|dF GN nJ<|ai<|aE ji<|af 2<|ao ⟨_,_,rfl,rfl,⟨by decide,by decide⟩,ai<|ao<|aC ⟨_,21,rfl,by decide,by decide,λPt H4 s4 nP Kd=>?_⟩⟩);have Uj:((21:Int)).toNat=21:=rfl;rw [Uj] at Kd;have AF:=EV (d / 41) 21;have vd:=OC (b:=d / 41) (show 21<=36 by decide);refine aC ⟨A,Ln,Pt,zs,nm,namesOf (d / 41) 21,rfl,Kc.same s4,hz,s4 _ _ eL,tO,Kd,AF,λR as H5 s5 hR=>?_⟩;have Vg:=(Ui.trans s4).trans s5;have Ke:=s4.trans s5;have Kf:=Kc.same Ke;have vE:=Ke _ _ eL;have hp:=Dt.dU (cR:=namesOf (d / 41) 21) (zs:=zs) (nm:=nm) (by omega) AU tO hz.sum hz.pos;have ig:=Dt.gX (cR:=namesOf (d / 41) 21) (zs:=zs) (nm:=nm) (by omega) AU tO hz.sum hz.pos;have tP:=Dt.fq (cR:=namesOf (d / 41) 21) (zs:=zs) (nm:=nm) (by omega);generalize namesOf (d / 41) 21=cR at hp ig tP hR AF vd;have hN:((cP cR zs nm).map (·.1)).Nodup:=by
  rw [tP];exact vd.sublist<|Dm _ _
 generalize cP cR zs nm=n at hp ig hR hN;have tf:=hp.len;rw [Dt.bF] at tf;have h0:n≠[]:=λe=>by rw [e] at tf;simp at tf
 have hT:=hp.twice;have hH:=hp.zP;obtain⟨ss,bI,mem⟩:=uM<|aD n;have many:=hp.many bI mem;rw [Dt.cE zs nm<|by have:=hz.sum;omega] at many;have many:(nE n ss).length=pr zs:=many;show Run _ _ _ [some<|.ref a,some<|.ref A,some<|.int d,some<|.ref Ln,u4,some<|.ref R,none,none,none] H5;refine run_set 6 nd<|ao ?_;show Run _ _ _ [some<|.ref a,some<|.ref A,some<|.int d,some<|.ref Ln,u4,some<|.ref R,some<|.int 1,none,none] H5;refine Hs (a:=A) (xs:=nV zs) (λk σ H'=>H'=H5/\∃ u7,σ=[some<|.ref a,some<|.ref A,some<|.int d,some<|.ref Ln,u4,some<|.ref R,some<|.int ((pr (zs.take k):Nat):Int),u7,none]) (af 1 ⟨rfl,rfl,_,rfl⟩) ?_ ?_ ?_
 ·rcases Kf with h | h
  ·exact .inl λi σ H' ⟨e,_⟩=>by rw [e];exact av.of h
  ·exact .inr λi σ H' ⟨e,_⟩=>by rw [e];exact bo.of h
 ·rintro i x σ H' hx ⟨rfl,u7,rfl⟩;rw [Ad,Ax] at hx;obtain⟨z,iz,rfl⟩:=hx;have Vh:z<=40:=by
   have h1:=Au iz;have h2:=Ka h1;have h3:=hz.sum;omega
  refine bb 7 nd ?_;refine run_set 6 nd (aE kC<|af 6<|af 7 ⟨((pr (zs.take i):Nat):Int),(z:Int),rfl,rfl,.inr ⟨by omega,by omega⟩,aS ⟨rfl,some<|.int (z:Int),?_⟩⟩);rw [TB iz];show [some<|V.ref a,some<|.ref A,some<|.int d,some<|.ref Ln,u4,some<|.ref R,some<|.int<|(pr (zs.take i):Nat) * (z:Int),some<|.int (z:Int),none]=_;rw [<- Int.natCast_mul]
 rintro σ H' ⟨rfl,u7,rfl⟩;have oZ:(nV zs).length=zs.length:=Ab _;rw [oZ,Bi];have cv:0 < n.length:=by omega
 have az:∀ e∈ss.map (bB n),e.1 < n.length/\e.2 < n.length:=λe he=>by
  obtain⟨z,hz,rfl⟩:=Ak.mp he;exact kU hT<|(mem z).mp hz
 have cnt:=Jo cv az;refine gn (fb wq<|dF GO nJ<|ai<|af 5<|aC ⟨R,as,n,rfl,hR,hT,hN,h0,by omega,ig,hH,λls H6 s6 so lm=>af 6 ⟨rfl,_,rfl,?_⟩⟩);rw [GH hT hN so lm bI mem,<- cnt];have tQ:(TL (List.range n.length)<|fD n ss).length=pr zs:=many;rw [tQ,CK rfl];refine d0<|aS ?_;have Kg:=hR.same s6;refine gn<|fb wu<|af 6<|ao ⟨_,_,rfl,rfl,_,rfl,?_⟩
 by_cases big:300 < pr zs
 ·rw [CK (show((pr zs:Nat):Int) > 300 by omega)];exact a8<|df<|dF GF (hr.mono<|Af _)<|ai<|af 5<|aC ⟨R,as,n,ss,rfl,Kg,hT,hN,h0,by omega,ig,hH,bI,mem,by omega,λH7 s7=>q H7⟩
 rw [CG (show ¬((pr zs:Nat):Int) > 300 by omega)];refine d0<|aS ?_;refine run_set 8 nd (Qu GT (hr.mono<|Af _) T1<|ai<|af 5<|aC ⟨R,as,n,ss,rfl,Kg,hT,hN,h0,by omega,ig,hH,bI,mem,λk=>absurd k (by omega),λ_ D ts H7 s7 hD iX eD aW=>?_⟩);show Run _ _ _ [some<|.ref a,some<|.ref A,some<|.int d,some<|.ref Ln,u4,some<|.ref R,some<|.int ((pr zs:Nat):Int),u7,some<|.ref D] H7;refine df<|xf<|gj Np T.xU FT<|ai<|af 8<|ai<|DF (.ty "list") T.ql PyProof.Rows.boot_list rfl (aC ⟨_,_,_,true,rfl,.lst eD,AK K,true,rfl,a8 ?_⟩);refine DI (DH (Ol un)<|af 8<|dF GD nJ<|ai<|af 1<|ai<|af 3<|aC ⟨A,Ln,zs,nm,n,gW zs nm,ss,rfl,(Kf.same s6).same s7,hz,s7 _ _<|s6 _ _ vE,tO,by omega,hp,bI,mem,λD2 Jb H8 s8 j4 kg=>?_⟩);exact⟨2,true,by decide,T4 (s8 _ _ eD) j4 (aW.same s8) kg,q H8⟩
end
section
variable{P:Program}{w:World}{K:PySem.W.Frag}{mg:Str->Option Value}{base:Heap}{f:Addr}{fd:FuncData}{c:Str->Addr}
theorem Uk(F:bL K "trees_by" "trees_by" kK f fd)(T:Txt mg)(GM:aN P w K mg base 1 "merged" ["links","one","other"] sk)(GS:aN P w K mg base 1 "spread" ["first","links"] rM):aA P w K mg base bP 2 f fd ["links","many"] (ke 0):=
 Ja F T (Af 1) GM GS λm' e=>by omega
theorem Ul{m:Nat}(F:bL K "trees_by" "trees_by" kK f fd)(T:Txt mg)(GM:aN P w K mg base 1 "merged" ["links","one","other"] sk)(GS:aN P w K mg base 1 "spread" ["first","links"] rM)(GT:aN P w K mg base (m+2) "trees_by" ["links","many"]<|ke m):aA P w K mg base bP (m+1+2) f fd ["links","many"] (ke<|m+1):=
 Ja F T (by omega) GM GS λm' e=>by cases e;exact GT
theorem Um(F:bL K "trees_of" "trees_of" uC f fd)(T:Txt mg)(cl:Cl K mg c)(GC:aN P w K mg base 3 "tree_count" ["rows"] oJ)(GL:aN P w K mg base 1 "links_of" ["rows"] qQ)(GT:aN P w K mg base 42 "trees_by" ["links","many"]<|ke 40):aA P w K mg base (XF P w) 43 f fd ["rows"] (nF c):=SZ F T cl (by decide) GC GL GT
theorem Uo(F:bL K "_law_refused" "_law_refused" uF f fd)(T:Txt mg)(cl:Cl K mg c)(GP:dz P w K mg base 43 "trees_of" ["rows"]<|nF c):aA P w K mg base bP 44 f fd ["_law_rows_here"] tL:=Ud F T cl GP
theorem Uq(F:bL K "law" "law" jN f fd)(T:Txt mg)(GC:aN P w K mg base 5 "_law_cell_at" ["_law_script","_law_k"]<|qm K)(GB:aN P w K mg base 5 "_law_big" ["_law_script","_law_at"]<|uG K)
  (GN:aN P w K mg base 5 "_law_names" ["_law_stem","_law_many"] uH) (GZ:aN P w K mg base 5 "_law_sizes_by" ["_law_big_here"] ki) (GR:aN P w K mg base 5 "_law_rows" ["_law_sizes","_law_names_here","_law_points"] vz) (GD:aN P w K mg base 5 "_law_due" ["_law_sizes","_law_names_here"] vG)
  (GO:aN P w K mg base 5 "tree_count" ["rows"] oJ) (GF:aN P w K mg base 44 "_law_refused" ["_law_rows_here"] tL) (GT:dz P w K mg base 44 "trees_of" ["rows"]<|nF c):aA P w K mg base bP 45 f fd ["_law_script"] (tM K):=Ug F T (by decide) GC GB GN GZ GR GD GO GF GT
end
end Y5
namespace Y5
open PySem L2
theorem all_mk{l:PySem.W.OpenLaw}{w:World}{K:PySem.W.Frag}{h:Heap}{mg:Str->Option Value}{fa:Addr}(X:K.In h)(G:h.Ns mainGlobals mg)(ol:mg "law" = some (.ref fa))
  (h1:Df K "points_of" uB) (h2:Df K "links_of" xO) (h3:Df K "spread" xP) (h4:Df K "tree_count" xQ) (h5:Df K "tie_table" kJ) (h6:Df K "determinant" mI) (h7:Df K "trees_of" uC) (h8:Df K "trees_by" kK) (h9:Df K "merged" uD) (AV:Df K "_law_cell_at" xR) (AW:Df K "_law_big" mJ) (AX:Df K "_law_names" xS) (rp:Df K "_law_sizes_by" xT) (AY:Df K "_law_rows" kL) (AZ:Df K "_law_due" uE) (A0:Df K "_law_refused" uF) (hl:Df K "law" jN)
  {Ur:Tok} (s1:PySem.W.nsIn K mainGlobals "MOST_TREES" = some (some<|.int 300 Ur))
  (qc:zR K=true)
  (z:∀ x∈(["isinstance","tuple","str","int","bool","list","dict","set","enumerate","zip","len","range","sorted","max","all","ValueError","reversed","min"]:List Str),PySem.W.nsIn K mainGlobals x=some none) :
  ∃ fd:FuncData,(∀(s:Shared) (v:Value),BindsTo s fd ⟨[v],[]⟩ [("_law_script",v)])/\∀ base:Heap,K.In base->base.Ns mainGlobals mg->aA l.prog w K mg base bP 45 fa fd ["_law_script"] (tM K):=by
 have T:Txt mg:=⟨BZ X G (z _<|by simp),BZ X G (z _<|by simp),BZ X G (z _<|by simp),BZ X G (z _<|by simp),BZ X G (z _<|by simp),BZ X G (z _<|by simp),BZ X G (z _<|by simp),BZ X G (z _<|by simp),BZ X G (z _<|by simp),BZ X G (z _<|by simp),BZ X G (z _<|by simp),BZ X G (z _<|by simp),BZ X G (z _<|by simp),BZ X G (z _<|by simp),BZ X G (z _<|by simp),BZ X G (z _<|by simp),BZ X G (z _<|by simp),BZ X G (z _<|by simp),⟨_,FW X G s1,_,rfl⟩⟩;have cl:=SW X G qc;refine hl.law X G ol (λ_ _ _ _ _ _ s v=> .of_eq rfl) λbase f fd F=>?_;have G1:aN l.prog w K mg base 1 "points_of" ["rows"] yP:=h1.has X G (λ_ _ _ _ _ _=>kI λ_=>rfl) λF=>QZ F T;have G2:aN l.prog w K mg base 1 "links_of" ["rows"] qQ:=h2.has X G (λ_ _ _ _ _ _=>kI λ_=>rfl) λF=>P4 F T;have G3:aN l.prog w K mg base 1 "spread" ["first","links"] rM:=h3.has X G (λ_ _ _ _ _ _=>mH λ_ _=>rfl) λF=>Ru F T;have G5:aN l.prog w K mg base 2 "tie_table" ["rows"] yQ:=h5.has X G (λ_ _ _ _ _ _=>kI λ_=>rfl) λF=>Q4 F T (G1.mono<|by decide) (G2.mono<|by decide);have G6:aN l.prog w K mg base 1 "determinant" ["table"] yL:=h6.has X G (λ_ _ _ _ _ _=>kI λ_=>rfl) λF=>QT F T;have G4:aN l.prog w K mg base 3 "tree_count" ["rows"] oJ:=h4.has X G (λ_ _ _ _ _ _=>kI λ_=>rfl) λF=>Ro F T (G5.mono<|by decide) (G6.mono<|by decide);have G9:aN l.prog w K mg base 1 "merged" ["links","one","other"] sk:=h9.has X G (λ_ _ _ _ _ _=>EA λ_ _ _=>rfl) λF=>Si F T;have G8:aN l.prog w K mg base 42 "trees_by" ["links","many"] (ke 40):=by
  have go:∀ m,aN l.prog w K mg base (m+2) "trees_by" ["links","many"] (ke m):=λm=>by
   induction m with
   | zero=>exact h8.has X G (λ_ _ _ _ _ _=>mH λ_ _=>rfl) λF=>Uk F T (G9.mono<|by decide)<|G3.mono<|by decide
   | succ m ih=>exact h8.has X G (λ_ _ _ _ _ _=>mH λ_ _=>rfl) λF=>Ul F T (G9.mono<|by decide) (G3.mono<|by decide) ih
  exact go 40
 have G7:dz l.prog w K mg base 43 "trees_of" ["rows"] (nF<|gF K):=h7.yz X G (λ_ _ _ _ _ _=>kI λ_=>rfl) λF=>Um F T cl (G4.mono<|by decide) (G2.mono<|by decide) (G8.mono<|by decide);have Kh:aN l.prog w K mg base 1 "_law_cell_at" ["_law_script","_law_k"] (qm K):=AV.has X G (λ_ _ _ _ _ _=>mH λ_ _=>rfl) λF=>OL F T;have Us:aN l.prog w K mg base 2 "_law_big" ["_law_script","_law_at"] (uG K):=AW.has X G (λ_ _ _ _ _ _=>mH λ_ _=>rfl) λF=>OQ F T (Kh.mono<|by decide);have Ut:aN l.prog w K mg base 1 "_law_names" ["_law_stem","_law_many"] uH:=AX.has X G (λ_ _ _ _ _ _=>mH λ_ _=>rfl) λF=>OT F T;have Uu:aN l.prog w K mg base 1 "_law_sizes_by" ["_law_big_here"] ki:=rp.has X G (λ_ _ _ _ _ _=>kI λ_=>rfl) λF=>S4 F T;have Uv:aN l.prog w K mg base 1 "_law_rows" ["_law_sizes","_law_names_here","_law_points"] vz:=AY.has X G (λ_ _ _ _ _ _=>EA λ_ _ _=>rfl) λF=>Tl F T;have Uw:aN l.prog w K mg base 1 "_law_due" ["_law_sizes","_law_names_here"] vG:=AZ.has X G (λ_ _ _ _ _ _=>mH λ_ _=>rfl) λF=>TH F T;have Ux:aN l.prog w K mg base 44 "_law_refused" ["_law_rows_here"] tL:=A0.has X G (λ_ _ _ _ _ _=>kI λ_=>rfl) λF=>Uo F T cl (G7.mono<|by decide);exact Uq F T (Kh.mono<|by decide) (Us.mono<|by decide) (Ut.mono<|by decide) (Uu.mono<|by decide) (Uv.mono<|by decide) (Uw.mono<|by decide) (G4.mono<|by decide) (Ux.mono<|by decide)<|G7.mono<|by decide
theorem walk{l:PySem.W.OpenLaw}{q:Program}{loose:List Str}{XP:(Str->Option Value)->Heap->Prop}{YP:World->Heap->Prop}{d:DefRec}{K:Params->PySem.W.Frag}(hn:l.most=some 63)(pP:d.params.defaults=[])
  (hY:∀(w:World) (h:Heap),YP w h->(K w.params).In h)
  (F : ∀ (w : World) (mg : Str → Option Value) (fa : Addr) (h : Heap), (K w.params).In h → h.Ns mainGlobals mg → mg d.name = some (.ref fa) →
   ∃ fd:FuncData,(∀(s:Shared) (u:Value),BindsTo s fd ⟨[u],[]⟩ [("_law_script",u)])/\∀ base:Heap,(K w.params).In base->base.Ns mainGlobals mg->aA l.prog w (K w.params) mg base bP 45 fa fd ["_law_script"] (tM<|K w.params)) :
  PySem.W.WalkO q loose XP YP l.row.toRowW d [] (λf vs=>PySem.call f vs):=
 L2.jG (n:=63) (k:=45) (x:= "_law_script") (CX:=λ_=>bP) (sp:=λw=>tM<|K w.params) hn (by decide) pP ⟨rfl,by decide,by decide⟩ hY F (λ_ _ a ns hl _ hS=>⟨a,ns,rfl,hS,hl,λ_=>rfl⟩) λ_ _ _ _ _ z=>z
end Y5
-- see NOTE.md
namespace PySem.W.Fast
def tw12839203303956349567:=()
def tw9976145038974113085:=()
def tw9332622366232470907:=()
def tw15743684899149415652:=()
def tw3195561415829579137:=()
def tw5002450905842931962:=()
def tw7978113032315964038:=()
def tw12492569691219642839:=()
def tw7047316262277346742:=()
def tw10323176584594173356:=()
def tw14293264695370206711:=()
def tw11857297005804649038:=()
def tw5416448063201987453:=()
def tw15502378359512043429:=()
def tw6631144904759425276:=()
def tw11989825119788216887:=()
end PySem.W.Fast
open PySem PySem.W PyProof.Rows
set_option maxRecDepth 100000 in
set_option maxHeartbeats 0 in
theorem PySem.Challenge.cw_threewebs_k65_too_many_trees_holds : PySem.Challenge.rw_threewebs_k65_too_many_trees.Holds := by
 w_on;o_law;k_head;(case hw=>w_witness2)
 k_fill
 refine Y5.walk (l:=PySem.Challenge.rw_threewebs_k65_too_many_trees) rfl rfl (λw h Y=>PySem.W.kIn_of Y) ?F
 case F=>
  intro w mg fa h KX G pQ;refine' Y5.all_mk KX G pQ ?h1 ?h2 ?h3 ?h4 ?h5 ?h6 ?h7 ?h8 ?h9 ?AV ?AW ?AX ?rp ?AY ?AZ ?A0 ?h0 ?s1 ?qc ?zz
  case h1 | h2 | h3 | h4 | h5 | h6 | h7 | h8 | h9 | AV | AW | AX | rp | AY | AZ | A0 | h0=>refine' L2.qh ?a ?l ?c ?k;(case a=>k_is);(case l=>k_is);(case c=>k_is);(case k=>k_is)
  case s1=>k_is
  case qc=>kernel_rfl
  case zz=>
   refine' List.forall_mem_cons.mpr ⟨?_,?_⟩;k_is
   iterate 17 (refine' List.forall_mem_cons.mpr ⟨?_,?_⟩;k_is)
   exact λx hx=>nomatch hx

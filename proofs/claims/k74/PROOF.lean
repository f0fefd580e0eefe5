import PyProof.Rows.All
import Wide.All
import OpenK.AllK
import Wide.FinOn
import Lean
import PyProof.EqAt
import PyProof.EqKinds
import PyProof.TupleCall
import KE.KDictLaws
import KE.KDictList
import KE.KDictSum
import KE.KIsAll
import KE.KSortTup
import KE.KUnpack
import KE.KUnpackStar
import PyProof.AttrMissSeq
import PyProof.CallStr
import PyProof.Conv_int_bool
import PyProof.DictItems
import PyProof.DictIter
import PyProof.DictList
import PyProof.EnumFor
import PyProof.EnumMake
import PyProof.EnumStmt
import PyProof.ExcArgsOwn
import PyProof.ExcAttrAll.ValueError
import PyProof.ExcBaseAll.ValueError
import PyProof.NeKinds
import PyProof.NsDelKeeps
import PyProof.Rows.CatchOwn
import PyProof.Rows.CountFlat
import PyProof.Rows.EnumRows
import PyProof.Rows.FStr
import PyProof.Rows.SortRev
import PyProof.Rows.StrSplitJoin
import PyProof.Rows.StrWeight2
import PyProof.Rows.TupDisplay
import PyProof.RulesTry
import PyProof.SetNew
import PyProof.SetRoads
import PyProof.StationsW
import PyProof.TupleKey
import PyProof.WalkInts
import PyProof.ZipIter
import PySem.Challenge.RW_threewebs_k74_there_and_back
abbrev Aa:=@List.length_map
abbrev Ab:=@List.getElem?_eq_getElem
abbrev Ac:=@List.getElem?_eq_some_iff
abbrev Ad:=@List.getElem?_map
abbrev Ae:=@PySem.Heap.get?_push_of_some
abbrev Af:=@List.length_append
abbrev Ag:=@List.mem_singleton
abbrev Ah:=@Nat.le_refl
abbrev Ai:=@List.map_append
abbrev Aj:=@PySem.Heap.lt_size
abbrev Ak:=@List.mem_map
abbrev Al:=@Bool.false_ne_true
abbrev Am:=@PySem.Heap.get?_push_size
abbrev An:=@List.length_cons
abbrev Ao:=@List.mem_cons_of_mem
abbrev Ap:=@List.mem_cons
abbrev Aq:=@List.size_toArray
abbrev Ar:=@List.getElem?_append_left
abbrev As:=@List.mem_append_right
abbrev At:=@List.mem_append
abbrev Au:=@List.mem_cons_self
abbrev Av:=@List.mem_of_getElem?
abbrev Aw:=@Option.map_eq_some_iff
abbrev Ax:=@Bool.false_eq_true
abbrev Ay:=@List.getElem?_append_right
abbrev Az:=@List.getElem?_of_mem
abbrev Ba:=@List.append_nil
abbrev Bb:=@Array.getElem?_toList
abbrev Bc:=@List.map_cons
abbrev Bd:=@Int.toNat_natCast
abbrev Be:=@List.length_eq_zero_iff
abbrev Bf:=@List.pairwise_iff_getElem
abbrev Bg:=@Nat.ne_of_lt
abbrev Bh:=@List.length_take
abbrev Bi:=@Nat.lt_of_lt_of_le
abbrev Bj:=@List.mem_range
abbrev Bk:=@List.filter_cons
abbrev Bm:=@List.append_assoc
abbrev Bn:=@Nat.zero_le
abbrev Bo:=@Int.emod_nonneg
abbrev Bp:=@List.take_length
abbrev Bq:=@List.forall_mem_cons
abbrev Br:=@Int.emod_lt_of_pos
abbrev Bs:=@List.mem_append_left
abbrev Bt:=@List.take_add_one
abbrev Bu:=@Bool.and_eq_true
abbrev Bv:=@Nat.le_trans
abbrev Bw:=@Array.length_toList
abbrev Bx:=@Array.getElem?_eq_getElem
abbrev By:=@Nat.lt_irrefl
abbrev Bz:=@PySem.Heap.get?_update_other
abbrev Ca:=@Nat.lt_succ_of_lt
abbrev Cb:=@List.map_map
abbrev Cc:=@List.getElem_mem
abbrev Cd:=@List.filter_append
abbrev Ce:=@List.mem_iff_getElem
abbrev Cf:=@List.mem_filter
abbrev Cg:=@List.nodup_iff_pairwise_ne
abbrev Ch:=@List.length_filter_le
abbrev Ci:=@Nat.ne_of_gt
abbrev Cj:=@Nat.lt_or_ge
abbrev Ck:=@Array.getD_eq_getD_getElem?
abbrev Cm:=@PySem.Heap.get?_update_self
abbrev Cn:=@List.take_append_drop
abbrev Co:=@List.length_pos_iff
abbrev Cp:=@List.nodup_cons
abbrev Cq:=@List.take_of_length_le
abbrev Cr:=@Bool.eq_iff_iff
abbrev Cs:=@List.nodup_nil
abbrev Ct:=@List.getElem_map
abbrev Cu:=@List.length_singleton
abbrev Cv:=@List.getElem?_eq_none
abbrev Cw:=@List.length_range
abbrev Cy:=@List.nodup_append
abbrev Cz:=@PySem.Heap.size_push
abbrev Da:=@List.getD_eq_getElem?_getD
abbrev Db:=@List.range_succ
abbrev Dc:=@List.length_drop
abbrev Dd:=@Array.getElem?_eq_none
abbrev De:=@Int.zero_add
abbrev Dg:=@List.flatMap_append
abbrev Dh:=@List.foldl_cons
abbrev Di:=@List.any_eq_true
abbrev Dj:=@List.lookup_cons
abbrev Dk:=@List.all_eq_true
abbrev Dl:=@List.length_replicate
abbrev Dm:=@List.contains_iff_mem
abbrev Do:=@List.perm_append_comm
abbrev Dp:=@List.getElem?_replicate
abbrev Dq:=@Nat.not_lt_zero
abbrev Dr:=@List.filterMap_cons
abbrev Ds:=@List.any_cons
abbrev Dt:=@Bool.not_true
abbrev Du:=@List.getElem_range
abbrev Dv:=@Nat.le_succ
abbrev Dw:=@List.length_eraseIdx
abbrev Dx:=@List.ext_getElem?
abbrev Dy:=@List.flatMap_cons
abbrev Dz:=@List.getElem?_modify
abbrev Eb:=@Nat.le_of_succ_le
abbrev Ec:=@Option.isSome_iff_exists
abbrev Ed:=@List.length_erase_of_mem
abbrev Ee:=@List.getElem?_range
abbrev Ef:=@List.not_mem_nil
abbrev Eh:=@Nat.succ_pos
abbrev Ej:=@List.append_eq_nil_iff
abbrev Ek:=@List.find?_cons
abbrev El:=@Array.getElem?_setIfInBounds
abbrev Em:=@Bool.eq_false_iff
abbrev Ep:=@List.pairwise_map
abbrev Er:=@List.mem_zipIdx_iff_le_and_getElem?_sub
abbrev Es:=@List.mem_erase_of_ne
abbrev Eu:=@Array.getElem?_eq_some_iff
abbrev Ex:=@Nat.lt_succ_self
abbrev Ey:=@List.nodup_range
abbrev Ez:=@List.ext_getElem
abbrev Fa:=@List.map_congr_left
abbrev Fb:=@List.getElem?_take_of_lt
abbrev Fc:=@Array.getElem?_replicate
abbrev Fd:=@List.mem_of_mem_eraseIdx
abbrev Fe:=@List.length_nil
abbrev Ff:=@List.count_cons
abbrev Fg:=@List.nil_append
abbrev Fh:=@List.mem_filterMap
abbrev Fi:=@List.count_pos_iff
abbrev Fj:=@Nat.lt_of_le_of_ne
abbrev Fk:=@List.length_pos_of_mem
abbrev Fl:=@List.drop_of_length_le
abbrev Fm:=@Nat.lt_trichotomy
abbrev Fn:=@Nat.zero_lt_of_lt
abbrev Fo:=@List.getElem_inj
abbrev Fp:=@Nat.mod_lt
abbrev Fq:=@List.isEmpty_nil
abbrev Fr:=@Nat.mod_eq_of_lt
abbrev Fs:=@List.mem_flatMap
abbrev Ft:=@Nat.one_pos
abbrev Fu:=@Option.map_some
abbrev Fv:=@List.forIn_cons
abbrev Fw:=@Nat.zero_lt_one
abbrev Fx:=@Nat.le_of_lt
abbrev Fy:=@Nat.zero_add
abbrev Fz:=@Bool.not_false
abbrev Ga:=@List.all_cons
abbrev Gb:=@List.map_take
abbrev Gc:=@List.map_drop
abbrev Gd:=@List.sum_cons
set_option Elab.async false
set_option linter.all false
set_option maxRecDepth 100000
namespace L2
open PySem PySem.Spec PyProof.Rows
abbrev Key:=Sum Int Str
def k2y:Key->Value->Bool
 | .inl k,v=>Value.isInt k v
 | .inr x,v=>Value.isStrOf x v
def keyH(w:World):Key->Int
 | .inl k=>hashInt k
 | .inr x=>hashStr w x
theorem j1f:∀{k:Key} {v:Value},k2y k v=true->(∃ i t,k=Sum.inl i/\v=Value.int i t)\/(∃ x t,k=Sum.inr x/\v=Value.str x t)
 | .inl i,v,h=>by
  obtain⟨t,e⟩:=Value.isInt_shape (k:=i) (v:=v) h;exact .inl ⟨i,t,rfl,e⟩
 | .inr x,v,h=>by
  obtain⟨t,e⟩:=Value.isStrOf_shape (x:=x) (v:=v) h;exact .inr ⟨x,t,rfl,e⟩
theorem k4h(i:Int)(t:Tok):k2y (.inl i) (.int i t)=true:=by simp [k2y,Value.isInt]
theorem k4o(x:Str)(t:Tok):k2y (.inr x) (.str x t)=true:=by simp [k2y,Value.isStrOf]
theorem q5y(a b:Int):decide ((Sum.inl a:Key)=Sum.inl b)=(a == b):=by
 by_cases e:a=b
 ·subst e;simp
 ·have h:¬(Sum.inl a:Key)=Sum.inl b:=fun q=>e (Sum.inl.inj q);rw [decide_eq_false h];exact(beq_eq_false_iff_ne.mpr e).symm
theorem q4i(a b:Str):decide ((Sum.inr a:Key)=Sum.inr b)=decide (a=b):=by
 by_cases e:a=b
 ·subst e;simp
 ·have h:¬(Sum.inr a:Key)=Sum.inr b:=fun q=>e (Sum.inr.inj q);rw [decide_eq_false h,decide_eq_false e]
theorem q45(a:Int)(b:Str):decide ((Sum.inl a:Key)=Sum.inr b)=false:=decide_eq_false (fun q=>nomatch q)
theorem q6g(a:Str)(b:Int):decide ((Sum.inr a:Key)=Sum.inl b)=false:=decide_eq_false (fun q=>nomatch q)
def j0p(prog:Program)(w:World):PySem.KeyKind prog w Key where
 is:=k2y
 hash:=keyH w
 inj:=fun v a b ha hb=>by
  rcases j1f ha with ⟨i,t,rfl,rfl⟩ | ⟨x,t,rfl,rfl⟩
  ·rcases j1f hb with ⟨j,u,rfl,e⟩ | ⟨y,u,rfl,e⟩
   ·injection e with e1 _;rw [e1]
   ·exact nomatch e
  ·rcases j1f hb with ⟨j,u,rfl,e⟩ | ⟨y,u,rfl,e⟩
   ·exact nomatch e
   ·injection e with e1 _;rw [e1]
 byValue:=fun k v h=>by
  rcases j1f h with ⟨i,t,rfl,rfl⟩ | ⟨x,t,rfl,rfl⟩ <;> rfl
 pyHash:=fun hv h=>by
  rcases j1f hv with ⟨i,t,rfl,rfl⟩ | ⟨x,t,rfl,rfl⟩
  ·exact wpAny_pyHash_int h
  ·exact wpAny_pyHash_str h
 eqBool:=fun hu hv h=>by
  rcases j1f hu with ⟨i,t,rfl,rfl⟩ | ⟨x,t,rfl,rfl⟩
  ·rcases j1f hv with ⟨j,u,rfl,rfl⟩ | ⟨y,u,rfl,rfl⟩
   ·rw [q5y] at h;exact wpAny_eqBool_int h
   ·rw [q45] at h;exact SeqAt.EqAt.int_str i t y u _ _ _ _ h
  ·rcases j1f hv with ⟨j,u,rfl,rfl⟩ | ⟨y,u,rfl,rfl⟩
   ·rw [q6g] at h;exact SeqAt.EqAt.str_int x t j u _ _ _ _ h
   ·rw [q4i] at h;exact wpAny_eqBool_str h
 «strs»:=fun k x t v h=>by
  rcases j1f h with ⟨i,u,rfl,e⟩ | ⟨y,u,rfl,e⟩
  ·exact nomatch e
  ·injection e with e1 _
   subst e1;cases v <;> rfl
theorem k0l(prog:Program)(w:World)(i:Int)(t:Tok):(j0p prog w).is (.inl i) (.int i t)=true:=k4h i t
theorem k0t(prog:Program)(w:World)(x:Str)(t:Tok):(j0p prog w).is (.inr x) (.str x t)=true:=k4o x t
end L2
namespace L2
open PySem PySem.Spec PyProof.Rows
inductive V where
 | non | bl (b:Bool) | int (i:Int) | str (x:Str) | byt (b:Array UInt8) | flt (b:UInt64) | ref (a:Addr) | ty (n:String)
 deriving DecidableEq
def RelV:V->Value->Prop
 | .non,u=>u=Value.none
 | .bl b,u=>u=Value.bool b
 | .int i,u=>∃ t,u=Value.int i t
 | .str x,u=>∃ t,u=Value.str x t
 | .byt b,u=>∃ t,u=Value.bytes b t
 | .flt b,u=>∃ t,u=Value.float b t
 | .ref a,u=>u=Value.ref a
 | .ty n,u=>u=Value.type n
abbrev Vals:List V->List Value->Prop:=Paired RelV
theorem Vals.length{xs:List V}{us:List Value}(r:Vals xs us):xs.length=us.length:=Paired.length r
theorem Vals.get:∀{xs:List V} {us:List Value} {i:Nat} {x:V},Vals xs us->xs[i]?=some x->∃ u,us[i]?=some u/\RelV x u
 | _,_,_,_,.nil,e=>by simp at e
 | _,_,0,_,.cons r _,e=>by simp at e;subst e;exact⟨_,rfl,r⟩
 | _,_,i+1,x,.cons _ t,e=>by
  obtain⟨u,h1,h2⟩:=Vals.get (i:=i) (x:=x) t (by simpa using e);exact⟨u,by simpa using h1,h2⟩
theorem Vals.set{x:V}{u:Value}(r:RelV x u):∀{xs:List V} {us:List Value} (i:Nat),Vals xs us->Vals (xs.set i x) (us.set i u)
 | _,_,_,.nil=> .nil
 | _,_,0,.cons _ t=> .cons r t
 | _,_,i+1,.cons q t=> .cons q (Vals.set r i t)
theorem Vals.append:∀{xs ys:List V} {us ws:List Value},Vals xs us->Vals ys ws->Vals (xs++ys) (us++ws)
 | _,_,_,_,.nil,s=>s
 | _,_,_,_,.cons r t,s=> .cons r (Vals.append t s)
theorem Vals.take:∀{xs:List V} {us:List Value} (n:Nat),Vals xs us->Vals (xs.take n) (us.take n)
 | _,_,0,_=> .nil
 | _,_,_+1,.nil=> .nil
 | _,_,n+1,.cons r t=> .cons r (Vals.take n t)
theorem Vals.drop:∀{xs:List V} {us:List Value} (n:Nat),Vals xs us->Vals (xs.drop n) (us.drop n)
 | _,_,0,r=>r
 | _,_,_+1,.nil=> .nil
 | _,_,n+1,.cons _ t=>Vals.drop n t
def RelO:Option V->Option Value->Prop
 | some v,some u=>RelV v u
 | none,none=>True
 | _,_=>False
def KV{κ:Type}:List (κ×V)->List (κ×Value)->Prop:=Paired fun(p:κ×V) (q:κ×Value)=>p.1=q.1/\RelV p.2 q.2
def kV:Key->V
 | .inl i=> .int i
 | .inr x=> .str x
inductive HO where
 | lst (xs:List V)
 | tup (xs:List V)
 | dK (kvs:List (Key×V)) | dT (kvs:List (List Key×V))
 | set (S:Int->Bool) (n:Nat)
 | ins (C dx:Addr) (fs:List (Str×V))
 | own (x:Addr)
 | xd (fs:List (Str×V))
 | met (f x:Addr)
 | rng (lo hi:Int)
 | frz (o:Obj) (u:HO)
 | tbl (ps:Array Value)
 | ext (φ:Heap->Prop)
abbrev Hp:=Addr->Option HO
def upd(H:Hp)(a:Addr)(o:HO):Hp:=fun b=>if b=a then some o else H b
theorem j0b{H:Hp}{a:Addr}{o:HO}:upd H a o a=some o:=by unfold upd;rw [if_pos rfl]
theorem j0d{H:Hp}{a b:Addr}{o:HO}(h:b≠a):upd H a o b=H b:=by unfold upd;rw [if_neg h]
theorem j5t{H:Hp}{a:Addr}{o u:HO}:upd (upd H a o) a u=upd H a u:=by
 funext b;unfold upd;split <;> rfl
theorem j1s{H:Hp}{a b:Addr}{o u:HO}(h:H a=some o)(h':H b=some u)(d:o≠u):a≠b:=by
 intro e;subst e;rw [h] at h';exact d (Option.some.inj h')
theorem j0f{H:Hp}{a b:Addr}{o:HO}(h:H a=some o)(h':H b=none):a≠b:=by
 intro e;subst e;rw [h] at h';cases h'
section
variable(P:Program)(w:World)
def ObjOk(H:Hp)(h:Heap)(a:Addr):HO->Prop
 | .lst xs=>xs.length<=sizeLine/\∃(its:List Value) (n:Nat),Vals xs its/\h.get? a=some {cls:= .type "list",data:= .seq its.toArray n}
 | .tup xs=>xs.length<=sizeLine/\∃ its:List Value,Vals xs its/\IsTup h a its.toArray
 | .dK kvs=>kvs.length<=sizeLine/\(a == sysModules)=false/\∃ vs,KV kvs vs/\h.DictOf (j0p P w) a vs
 | .dT kvs=>kvs.length<=sizeLine/\(a == sysModules)=false/\∃ xs:List (List Key×Addr×Value),
   Paired (fun(p:List Key×V) (q:List Key×Addr×Value)=>p.1=q.1/\H q.2.1=some (.tup (p.1.map kV))/\RelV p.2 q.2.2) kvs xs /\
   ∃ o es ep,h.get? a=some o/\o.ExactDict/\o.data = .dict es ep/\es.toList=xs.map (entryOfKey (tupleKind (j0p P w)))/\(xs.map (·.1)).Nodup
 | .set S n=>h.SetOf (intKind P w) a S n
 | .ins C dx fs=>H dx=some (.own a)/\fs.length<=1000/\dx≠a/\h.get? a=some (PySem.W.instObj C dx) /\
   ∃ mA,h.Ns1 dx mA/\(∀ f,RelO (fs.lookup f) (mA f))/\PySem.Within mA (fs.map (·.1))
 | .own _=>∃ o,h.get? a=some o
 | .xd fs=>∃ mA,h.Ns1 a mA/\∀ f,RelO (fs.lookup f) (mA f)
 | .rng lo hi=>∃ t u v,h.get? a=some {cls:= .type "range",data:= .fields #[.int lo t,.int hi u,.int 1 v]}
 | .frz o u=>h.get? a=some o/\ObjOk H h a u
 | .tbl ps=>h.get? a=some {cls:= .none,data:= .fields ps}
 | .met f x=>h.get? a=some (PySem.W.methodObj (.ref f) (.ref x))
 | .ext φ=>φ h/\(∃ o,h.get? a=some o)/\∀ h1 h2:Heap,φ h1->(∀ o,h1.get? a=some o->h2.get? a=some o)->φ h2
def HOk(H:Hp)(h:Heap):Prop:=∀ a o,H a=some o->ObjOk P w H h a o
end
section
variable{P:Program}{w:World}{H H':Hp}{h h':Heap}{a:Addr}{o:HO}
theorem ObjOk.lt(x:ObjOk P w H h a o):a < h.objs.size:=by
 cases o with
 | lst xs=>obtain⟨_,_,_,_,e⟩:=x;exact Aj e
 | tup xs=>obtain⟨_,_,_,p⟩:=x;exact p.lt
 | dK kvs=>obtain⟨_,_,_,_,o,_,_,e,_⟩:=x;exact Aj e
 | dT kvs=>obtain⟨_,_,_,_,o,_,_,e,_⟩:=x;exact Aj e
 | set S n=>obtain⟨o,_,_,_,e,_⟩:=x;exact Aj e
 | ins C dx fs=>obtain⟨_,_,_,e,_⟩:=x;exact Aj e
 | own y=>obtain⟨_,e⟩:=x;exact Aj e
 | xd fs=>obtain⟨_,⟨_,_,_,e,_⟩,_⟩:=x;exact Aj e
 | rng lo hi=>obtain⟨_,_,_,e⟩:=x;exact Aj e
 | frz ob u=>obtain⟨e,_⟩:=x;exact Aj e
 | tbl ps=>exact Aj (show h.get? a=some _ from x)
 | met f y=>exact Aj (show h.get? a=some _ from x)
 | ext φ=>obtain⟨_,⟨_,e⟩,_⟩:=x;exact Aj e
theorem Paired.mapP{α β:Type}{F G:α->β->Prop}:∀{l₁:List α} {l₂:List β},Paired F l₁ l₂->(∀ a b,F a b->G a b)->Paired G l₁ l₂
 | _,_,.nil,_=> .nil
 | _,_,.cons r t,f=> .cons (f _ _ r) (Paired.mapP t f)
theorem ObjOk.stay(x:ObjOk P w H h a o)(k:∀ b u,(b=a\/H b=some (.own a))->h.get? b=some u->h'.get? b=some u)
  (ho:∀ b,H b=some (.own a)->H' b=some (.own a)) (ht:∀ b xs,H b=some (.tup xs)->H' b=some (.tup xs)):ObjOk P w H' h' a o:=by
 induction o with
 | lst xs=>obtain⟨z,its,n,r,e⟩:=x;exact⟨z,its,n,r,k _ _ (.inl rfl) e⟩
 | tup xs=>obtain⟨z,its,r,ob,e,c⟩:=x;exact⟨z,its,r,ob,k _ _ (.inl rfl) e,c⟩
 | dK kvs=>obtain⟨z,y,vs,r,ob,es,ep,e,c⟩:=x;exact⟨z,y,vs,r,ob,es,ep,k _ _ (.inl rfl) e,c⟩
 | dT kvs=>
  obtain⟨z,y,xs,r,ob,es,ep,e,c⟩:=x;exact⟨z,y,xs,Paired.mapP r fun p q z=>⟨z.1,ht _ _ z.2.1,z.2.2⟩,ob,es,ep,k _ _ (.inl rfl) e,c⟩
 | set S n=>obtain⟨ob,es,ep,t,e,c⟩:=x;exact⟨ob,es,ep,t,k _ _ (.inl rfl) e,c⟩
 | ins C dx fs=>
  obtain⟨d,z,ne,e,mA,⟨od,es,ep,e2,c⟩,r⟩:=x;exact⟨ho _ d,z,ne,k _ _ (.inl rfl) e,mA,⟨od,es,ep,k _ _ (.inr d) e2,c⟩,r⟩
 | own y=>obtain⟨ob,e⟩:=x;exact⟨ob,k _ _ (.inl rfl) e⟩
 | xd fs=>obtain⟨mA,⟨od,es,ep,e,c⟩,r⟩:=x;exact⟨mA,⟨od,es,ep,k _ _ (.inl rfl) e,c⟩,r⟩
 | rng lo hi=>obtain⟨t,u,v,e⟩:=x;exact⟨t,u,v,k _ _ (.inl rfl) e⟩
 | frz ob u ih=>obtain⟨e,q⟩:=x;exact⟨k _ _ (.inl rfl) e,ih q⟩
 | tbl ps=>
  have e:h.get? a=some {cls:= .none,data:= .fields ps}:=x;show h'.get? a=some {cls:= .none,data:= .fields ps};exact k a _ (.inl rfl) e
 | met f y=>
  have e:h.get? a=some (PySem.W.methodObj (.ref f) (.ref y)):=x;show h'.get? a=some (PySem.W.methodObj (.ref f) (.ref y));exact k a _ (.inl rfl) e
 | ext φ=>obtain⟨p,⟨o,e⟩,st⟩:=x;exact⟨st _ _ p fun o q=>k _ _ (.inl rfl) q,⟨o,k _ _ (.inl rfl) e⟩,st⟩
theorem HOk.lt(x:HOk P w H h)(e:H a=some o):a < h.objs.size:=(x a o e).lt
theorem HOk.fresh(x:HOk P w H h)(e:h.objs.size<=a):H a=none:=by
 cases q:H a with
 | none=>rfl
 | some u=>exact absurd (Bi (x.lt q) e) (By _)
theorem HOk.kept(x:HOk P w H h)(k:∀ b u,h.get? b=some u->h'.get? b=some u):HOk P w H h':=fun a o e=>
 (x a o e).stay (fun b u _ q=>k b u q) (fun _ q=>q) fun _ _ q=>q
theorem HOk.laid(x:HOk P w H h)(k:∀ b u,h.get? b=some u->h'.get? b=some u)(hp:h.objs.size<=a)(new:ObjOk P w (upd H a o) h' a o):HOk P w (upd H a o) h':=fun b u e=>by
 have hn:=x.fresh hp
 by_cases hb:b=a
 ·subst hb;rw [j0b] at e;cases e;exact new
 ·rw [j0d hb] at e;exact(x b u e).stay (fun c v _ q=>k c v q) (fun c q=>by rw [j0d (j0f q hn)];exact q) fun c xs q=>by rw [j0d (j0f q hn)];exact q
end
def Rd(H:Hp)(a:Addr)(u:HO):Prop:=H a=some u\/∃ o,H a=some (.frz o u)
theorem Rd.ok{P:Program}{w:World}{H:Hp}{h:Heap}{a:Addr}{u:HO}(r:Rd H a u)(x:HOk P w H h):ObjOk P w H h a u:=by
 rcases r with r | ⟨o,r⟩
 ·exact x a u r
 ·obtain⟨_,q⟩:=x a _ r;exact q
def Mut:Option HO->Prop
 | some (.lst _)=>True
 | some (.dK _)=>True
 | some (.dT _)=>True
 | some (.set _ _)=>True
 | some (.ins _ _ _)=>True
 | some (.ext _)=>True
 | _=>False
section
variable{P:Program}{w:World}{H:Hp}{h h':Heap}{x e:Addr}{o':HO}
theorem HOk.write(ok:HOk P w H h)(mu:Mut (H x))(he:e=x\/H e=some (.own x))(k:∀ b u,b≠e->h.get? b=some u->h'.get? b=some u)(heo:∃ u,h'.get? e=some u)
  (new:ObjOk P w (upd H x o') h' x o'):HOk P w (upd H x o') h':=fun b u q=>by
 have nown:∀ c y,H c=some (.own y)->c≠x:=fun c y r z=>by subst z;rw [r] at mu;exact mu
 have ntup:∀ c xs,H c=some (.tup xs)->c≠x:=fun c xs r z=>by subst z;rw [r] at mu;exact mu
 by_cases hb:b=x
 ·subst hb;rw [j0b] at q;cases q;exact new
 ·rw [j0d hb] at q
  by_cases hbe:b=e
  ·have q':H b=some (.own x):=by
    rcases he with z | z
    ·exact absurd (hbe.trans z) hb
    ·rw [hbe];exact z
   rw [q] at q';cases q';obtain⟨v,hv⟩:=heo;exact⟨v,by rw [hbe];exact hv⟩
  ·refine(ok b u q).stay (fun c v hc r=>k c v ?_ r) (fun c r=>by rw [j0d (nown c b r)];exact r) fun c xs r=>by rw [j0d (ntup c xs r)];exact r
   rcases hc with rfl | hc
   ·exact hbe
   ·rintro rfl
    rcases he with z | z
    ·exact nown c b hc z
    ·rw [hc] at z;cases z;exact hb rfl
end
structure Un(fs ex:List Addr)(H H':Hp)(h h':Heap):Prop where
 keep:∀ b o,h.get? b=some o->H b=none->b∉fs->b∉ex->h'.get? b=some o
 slot:∀ b o,h.get? b=some o->H b=none->b∈fs->b∉ex->∃ sl,h'.get? b=some {o with slots:=sl}
 free:∀ b o,h.get? b=some o->H b=none->b∉ex->H' b=none
 there:∀ b o,h.get? b=some o->b∉ex->∃ o',h'.get? b=some o'
 tups:∀ b xs,H b=some (.tup xs)->H' b=some (.tup xs)
 frzs:∀ b o u,H b=some (.frz o u)->H' b=some (.frz o u)
 tbls:∀ b ps,H b=some (.tbl ps)->∃ more,H' b=some (.tbl (ps++more))
section
variable{fs fs' ex ex':List Addr}{H H1 H2:Hp}{h h1 h2 h':Heap}{a x e:Addr}{o:HO}
theorem Un.any(u:Un fs ex H H1 h h1){b:Addr}{ob:Obj}(q:h.get? b=some ob)(n:H b=none)(hx:b∉ex):∃ sl,h1.get? b=some {ob with slots:=sl}:=by
 by_cases hb:b∈fs
 ·exact u.slot b ob q n hb hx
 ·exact⟨ob.slots,u.keep b ob q n hb hx⟩
theorem Un.kept(k:∀ b u,h.get? b=some u->h'.get? b=some u):Un fs ex H H h h':=
 ⟨fun b ob q _ _ _=>k b ob q,fun b ob q _ _ _=>⟨ob.slots,k b ob q⟩,fun _ _ _ n _=>n,fun b ob q _=>⟨ob,k b ob q⟩,fun _ _ q=>q,fun _ _ _ q=>q,fun _ ps q=>⟨#[],by rw [q];simp⟩⟩
theorem Un.refl:Un fs ex H H h h:=Un.kept fun _ _ q=>q
theorem Un.laid(k:∀ b u,h.get? b=some u->h'.get? b=some u)(hp:h.objs.size<=a)(hn:H a=none):Un fs ex H (upd H a o) h h' where
 keep:=fun b u q _ _ _=>k b u q
 slot:=fun b u q _ _ _=>⟨u.slots,k b u q⟩
 free:=fun b u q n _=>by rw [j0d (Bg (Bi (Aj q) hp))];exact n
 there:=fun b u q _=>⟨u,k b u q⟩
 tups:=fun b xs q=>by rw [j0d (j0f q hn)];exact q
 frzs:=fun b u xs q=>by rw [j0d (j0f q hn)];exact q
 tbls:=fun b ps q=>⟨#[],by rw [j0d (j0f q hn),q];simp⟩
theorem Un.write(mu:Mut (H x))(he:e=x\/H e=some (.own x))(k:∀ b u,b≠e->h.get? b=some u->h'.get? b=some u)(heo:∃ u,h'.get? e=some u):Un fs ex H (upd H x o) h h':=by
 have hx:∀ b,H b=none->b≠x:=fun b n z=>by subst z;rw [n] at mu;exact mu
 have hb:∀ b,H b=none->b≠e:=fun b n z=>by
  subst z
  rcases he with r | r
  ·exact hx b n r
  ·rw [n] at r;cases r
 have hm:∀ b u,H b=some u->¬ Mut (some u)->b≠x:=fun b u q nm z=>by subst z;rw [q] at mu;exact nm mu
 refine⟨fun b u q n _ _=>k b u (hb b n) q,fun b u q n _ _=>⟨u.slots,k b u (hb b n) q⟩,fun b u q n _=>by rw [j0d (hx b n)];exact n,fun b u q _=>?_,
  fun b xs q=>by rw [j0d (hm b _ q fun z=>z)];exact q,fun b u xs q=>by rw [j0d (hm b _ q fun z=>z)];exact q,fun b ps q=>⟨#[],by rw [j0d (hm b _ q fun z=>z),q];simp⟩⟩
 by_cases hbe:b=e
 ·subst hbe;exact heo
 ·exact⟨u,k b u hbe q⟩
end
def trk(h:Heap)(H:Hp):List Addr:=(List.range h.objs.size).filter fun a=>(H a).isSome
def hidT(h:Heap)(H:Hp):Heap:=PySem.W.hideAll h (trk h H)
theorem k3v(h:Heap)(H:Hp):(hidT h H).objs.size=h.objs.size:=PySem.W.hideAll_size _ _
theorem k71{h:Heap}{H:Hp}{b:Addr}{o:Obj}(e:h.get? b=some o)(n:H b=none):(hidT h H).get? b=some o:=
 PySem.W.hideAll_get _ e fun hm=>by
  have q:(H b).isSome=true:=(Cf.mp hm).2;rw [n] at q;simp at q
theorem q2g{h:Heap}{H:Hp}{b:Addr}{o:Obj}(e:(hidT h H).get? b=some o):h.get? b=some o/\H b=none:=by
 have e':h.get? b=some o:=PySem.W.of_hideAll (trk h H) e;refine⟨e',?_⟩;cases q:H b with
 | none=>rfl
 | some x=>
  have hm:b∈trk h H:=Cf.mpr ⟨Bj.mpr (Aj e'),by simp [q]⟩;have z:(hidT h H).get? b=none:=PySem.W.hideAll_none (trk h H) hm;rw [z] at e;cases e
end L2
namespace L2
open PySem PySem.Spec PyProof.Rows
structure Mod(K:PySem.W.Frag)(mg:Str->Option Value)(base:Heap):Prop where
 kin:K.In base
 glob:base.Ns mainGlobals mg
 blt:∃ mb,base.Ns builtinsNs mb/\∀ x:Str,x ≠ "__name__"->mb x=bootBuiltins x
 nolimit:base.NoLimit
structure Cx where
 prog:Program
 w:World
 K:PySem.W.Frag
 mg:Str->Option Value
 base:Heap
 A:Around
 N:List Str
 s₀:Shared
 H₀:Hp
 env:Env
 outer:List Env
 stack:List Env
 ex:List Addr
 fn:Str->Bool
 calm:Bool
 pn:List (Addr×Obj)
 xe:Value->Shared->Prop
def frs(l:List Env):List Addr:=l.filterMap (·.frame)
abbrev Cx.fs(X:Cx):List Addr:=frs X.outer
def Vis(sc:Scope)(x:Str):Prop:=sc.names.lookup x=some .local\/sc.names.lookup x=some .cell\/sc.names.lookup x=some .free
def Loc(sc:Scope)(x:Str):Prop:=sc.names.lookup x=some .local\/sc.names.lookup x=some .cell
def Look(env:Env)(h:Heap)(m:Str->Option Value)(x:Str)(u:Value):Prop:=
 (env.kindOf x=some .local/\m x=some u)\/((env.kindOf x=some .cell\/env.kindOf x=some .free)/\∃ c,env.cells.lookup x=some c/\h.IsCell c (some u))
structure Cx.Ok(X:Cx):Prop where
 mod:Mod X.K X.mg X.base
 kind:X.env.scope.kind = .function
 glob:X.env.globals=mainGlobals
 blt:X.env.builtins=builtinsNs
 above:X.s₀.heap.objs.size<=X.env.locals
 inj:∀ x y c,X.env.cells.lookup x=some c->X.env.cells.lookup y=some c->x=y
 has:∀ x,(X.env.kindOf x=some .cell\/X.env.kindOf x=some .free)->∃ c,X.env.cells.lookup x=some c
 cab:∀ x c,X.fn x=true->X.env.cells.lookup x=some c->X.s₀.heap.objs.size<=c
 hd:X.calm=true->X.A.handled=none
 frames:X.A.frames=some X.stack
 stk:X.stack=X.outer\/(X.stack=X.env :: X.outer/\X.env.frame=some X.env.locals)
 exf:∀ b∈X.ex,b≠X.env.locals/\∀ x c,X.env.cells.lookup x=some c->c≠b
 bs:∀ b o,X.base.get? b=some o->X.s₀.heap.get? b=some o/\X.H₀ b=none
 bsz:X.base.objs.size<=X.s₀.heap.objs.size
 noex:∀ b o,X.base.get? b=some o->b∉X.ex
 exfs:∀ b∈X.ex,b∉X.fs
 funs:X.s₀.heap.FunFrames X.base X.outer
 frf:∀ b∈X.fs,X.H₀ b=none
structure Inv(X:Cx)(pins:List (Addr×Obj))(σ:List (Option V))(H:Hp)(s:Shared):Prop where
 ok:X.Ok
 os:s.os=X.s₀.os
 bare:AllBare s.gens
 base:Un X.fs X.ex X.H₀ H X.s₀.heap s.heap
 loc:∃ m,s.heap.Ns X.env.locals m/\∀(i:Nat) (x:Str) (v:V),X.N[i]?=some x->σ[i]?=some (some v)->Vis X.env.scope x->∃ u,RelV v u/\Look X.env s.heap m x u
 cell:∀ x c,X.env.cells.lookup x=some c->∃ v,s.heap.IsCell c v
 free:H X.env.locals=none
 freeC:∀ x c,X.env.cells.lookup x=some c->H c=none
 pin:∀ p∈X.pn++pins,s.heap.get? p.1=some p.2/\H p.1=none/\p.1≠X.env.locals/\p.1∉X.fs/\∀ v,p.2.data ≠ .cell v
 hok:HOk X.prog X.w H s.heap
 len:σ.length=X.N.length
section
variable{X:Cx}{pins:List (Addr×Obj)}{σ:List (Option V)}{H H':Hp}{s:Shared}{h':Heap}
theorem Cx.Ok.nofr(ok:X.Ok){b:Addr}{o:Obj}(e:X.base.get? b=some o):b∉X.fs:=fun hb=>by
 have:=(ok.funs.mem hb).1;rw [e] at this;cases this
theorem Inv.bs(I:Inv X pins σ H s):∀ b o,X.base.get? b=some o->s.heap.get? b=some o/\H b=none:=fun b o e=>
 ⟨I.base.keep b o (I.ok.bs b o e).1 (I.ok.bs b o e).2 (I.ok.nofr e) (I.ok.noex b o e),I.base.free b o (I.ok.bs b o e).1 (I.ok.bs b o e).2 (I.ok.noex b o e)⟩
theorem Inv.bk(I:Inv X pins σ H s):∀ b o,X.base.get? b=some o->s.heap.get? b=some o:=fun b o e=>(I.bs b o e).1
theorem Inv.mod(I:Inv X pins σ H s):Mod X.K X.mg X.base:=I.ok.mod
theorem Inv.kIn(I:Inv X pins σ H s):X.K.In s.heap:=I.ok.mod.kin.keeps I.bk
theorem Inv.lt(I:Inv X pins σ H s):X.env.locals < s.heap.objs.size:=let ⟨_,hn,_⟩:=I.loc;hn.lt
theorem Inv.sz(I:Inv X pins σ H s):X.s₀.heap.objs.size<=s.heap.objs.size:=Bv I.ok.above (Fx I.lt)
theorem Inv.nofs(I:Inv X pins σ H s){a:Addr}(h:s.heap.objs.size<=a):a∉X.fs:=fun hb=>by
 obtain⟨_,o,ho,_⟩:=I.ok.funs.mem hb;exact absurd (Bi (Aj ho) (Bv I.sz h)) (By _)
theorem Inv.cne(I:Inv X pins σ H s):∀ x c,X.env.cells.lookup x=some c->c≠X.env.locals:=fun x c e z=>by
 obtain⟨v,o,ho,hd⟩:=I.cell x c e;obtain⟨m,⟨o',es,ep,ho',hd',_⟩,_⟩:=I.loc;rw [z,ho'] at ho;cases ho;rw [hd'] at hd;cases hd
theorem Inv.funs(I:Inv X pins σ H s):s.heap.FunFrames X.base X.outer:=by
 have all:∀(l:List Env),(∀ b∈frs l,b∈X.fs)->X.s₀.heap.FunFrames X.base l->s.heap.FunFrames X.base l:=by
  intro l
  induction l with
  | nil=>intro _ _;trivial
  | cons env r ih=>
   intro hs hl;obtain⟨hk,⟨L,o,hf,hn,ho,hd⟩,hr⟩:=hl;have hL:L∈X.fs:=hs L (by unfold frs;rw [Dr,hf];exact Au);obtain⟨sl,e⟩:=I.base.slot L o ho (I.ok.frf L hL) hL fun z=>I.ok.exfs L z hL;exact⟨hk,⟨L,_,hf,hn,e,hd⟩,ih (fun b hb=>hs b (by unfold frs;rw [Dr,hf];exact Ao _ hb)) hr⟩
 exact all X.outer (fun _ hb=>hb) I.ok.funs
theorem Inv.stack(I:Inv X pins σ H s):s.heap.FunFrames X.base X.stack:=by
 rcases I.ok.stk with e | ⟨e,hf⟩
 ·rw [e];exact I.funs
 ·rw [e];obtain⟨m,hn,_⟩:=I.loc;refine .cons (by rw [I.ok.kind];decide) hf hn ?_ I.funs;exact Heap.get?_none_of_le (Bv I.ok.bsz I.ok.above)
theorem Inv.stkSub(I:Inv X pins σ H s):∀ b∈frs X.stack,b∈X.env.locals :: X.fs:=fun b hb=>by
 rcases I.ok.stk with e | ⟨e,hf⟩
 ·rw [e] at hb;exact Ao _ hb
 ·rw [e] at hb;unfold frs at hb;rw [Dr,hf] at hb;exact hb
theorem Inv.stkFree(I:Inv X pins σ H s):∀ b∈frs X.stack,H b=none:=fun b hb=>by
 rcases Ap.mp (I.stkSub b hb) with e | hb
 ·rw [e];exact I.free
 ·obtain⟨_,o,ho,_⟩:=I.ok.funs.mem hb;exact I.base.free b o ho (I.ok.frf b hb) fun z=>I.ok.exfs b z hb
theorem Inv.step{g':Array GenState}{t':Nat}{d':Drawn}{ch:List Addr}(I:Inv X pins σ H s)
  (hch:∀ b∈ch,(b∈X.ex\/X.s₀.heap.objs.size<=b)/\b≠X.env.locals/\(∀ x c,X.env.cells.lookup x=some c->c≠b)/\∀ p∈X.pn++pins,p.1≠b)
  (keep:∀ b o,b≠X.env.locals->b∉X.fs->b∉ch->s.heap.get? b=some o->H b=none->h'.get? b=some o)
  (slot:∀ b o,b≠X.env.locals->b∈X.fs->b∉ch->s.heap.get? b=some o->H b=none->∃ sl,h'.get? b=some {o with slots:=sl}) (free:∀ b o,b∉ch->s.heap.get? b=some o->H b=none->H' b=none)
  (there:∀ b o,b∉ch->s.heap.get? b=some o->∃ o',h'.get? b=some o')
  (tups:∀ b xs,H b=some (.tup xs)->H' b=some (.tup xs)) (frzs:∀ b o u,H b=some (.frz o u)->H' b=some (.frz o u)) (tbls:∀ b ps,H b=some (.tbl ps)->∃ more,H' b=some (.tbl (ps++more)))
  (ns:∀ m,s.heap.Ns X.env.locals m->h'.Ns X.env.locals m) (hok:HOk X.prog X.w H' h') (hg:AllBare g') :
  Inv X pins σ H' {s with heap:=h',gens:=g',drawn:=d',toks:=t'}:=by
 have neL:∀ b o,X.s₀.heap.get? b=some o->b≠X.env.locals:=fun b o e=>Bg (Bi (Aj e) I.ok.above);have neC:∀ b o,X.s₀.heap.get? b=some o->b∉X.ex->b∉ch:=fun b o e hx hb=>by
  rcases (hch b hb).1 with z | z
  ·exact hx z
  ·exact absurd (Bi (Aj e) z) (By _)
 have cellK:∀ x c,X.env.cells.lookup x=some c->∀ v,s.heap.IsCell c v->h'.IsCell c v:=fun x c e v ⟨o,ho,hd⟩=>by
  have nch:c∉ch:=fun z=>(hch c z).2.2.1 x c e rfl
  by_cases hc:c∈X.fs
  ·obtain⟨sl,q⟩:=slot c o (I.cne x c e) hc nch ho (I.freeC x c e);exact⟨_,q,hd⟩
  ·exact⟨o,keep c o (I.cne x c e) hc nch ho (I.freeC x c e),hd⟩
 refine⟨I.ok,I.os,hg,⟨fun b o e n hb hx=>?_,fun b o e n hb hx=>?_,fun b o e n hx=>?_,fun b o e hx=>?_,fun b xs e=>tups b xs (I.base.tups b xs e),fun b o xs e=>frzs b o xs (I.base.frzs b o xs e),fun b ps e=>?_⟩,?_,fun x c e=>?_,?_,fun x c e=>?_,fun p hp=>?_,hok,I.len⟩
 ·exact keep b o (neL b o e) hb (neC b o e hx) (I.base.keep b o e n hb hx) (I.base.free b o e n hx)
 ·obtain⟨sl,e1⟩:=I.base.slot b o e n hb hx;obtain⟨sl',e2⟩:=slot b _ (neL b o e) hb (neC b o e hx) e1 (I.base.free b o e n hx);exact⟨sl',e2⟩
 ·obtain⟨o',e1⟩:=I.base.there b o e hx;exact free b o' (neC b o e hx) e1 (I.base.free b o e n hx)
 ·obtain⟨o',e1⟩:=I.base.there b o e hx;exact there b o' (neC b o e hx) e1
 ·obtain⟨m1,e1⟩:=I.base.tbls b ps e;obtain⟨m2,e2⟩:=tbls b _ e1;exact⟨m1++m2,by rw [e2,Array.append_assoc]⟩
 ·obtain⟨m,hn,hl⟩:=I.loc;refine⟨m,ns m hn,fun i x v e1 e2 e3=>?_⟩;obtain⟨u,r,l⟩:=hl i x v e1 e2 e3;refine⟨u,r,?_⟩
  rcases l with l | ⟨k,c,e,z⟩
  ·exact .inl l
  ·exact .inr ⟨k,c,e,cellK x c e _ z⟩
 ·obtain⟨v,z⟩:=I.cell x c e;exact⟨v,cellK x c e v z⟩
 ·obtain⟨m,⟨o,_,_,ho,_⟩,_⟩:=I.loc;exact free _ o (fun z=>(hch _ z).2.1 rfl) ho I.free
 ·obtain⟨v,o,ho,hd⟩:=I.cell x c e;exact free c o (fun z=>(hch c z).2.2.1 x c e rfl) ho (I.freeC x c e)
 ·obtain⟨e,n,ne,nf,d⟩:=I.pin p hp;have nch:p.1∉ch:=fun z=>(hch p.1 z).2.2.2 p hp rfl;exact⟨keep p.1 p.2 ne nf nch e n,free p.1 p.2 nch e n,ne,nf,d⟩
theorem Inv.un{t':Nat}(I:Inv X pins σ H s)(u:Un X.fs [] H H' s.heap h')(hok:HOk X.prog X.w H' h'):Inv X pins σ H' {s with heap:=h',toks:=t'}:=by
 obtain⟨m,⟨o,es,ep,ho,r⟩,_⟩:=id I.loc;obtain⟨sl,hL⟩:=u.any ho I.free (by simp);exact I.step (g':=s.gens) (d':=s.drawn) (ch:=[]) (fun _ z=>nomatch z) (fun b o _ hb _ e n=>u.keep b o e n hb (by simp)) (fun b o _ hb _ e n=>u.slot b o e n hb (by simp)) (fun b o _ e n=>u.free b o e n (by simp)) (fun b o _ e=>u.there b o e (by simp)) u.tups u.frzs u.tbls (fun m' hm=>by
  obtain⟨o',es',ep',ho',r'⟩:=hm;rw [ho] at ho';cases ho';exact⟨_,es',ep',hL,r'⟩) hok I.bare
theorem Inv.call{g':Array GenState}{t':Nat}{d':Drawn}{ch:List Addr}(I:Inv X pins σ H s)(u:Un (frs X.stack) ch H H' s.heap h')(hok:HOk X.prog X.w H' h')(hg:AllBare g')
  (hch:∀ b∈ch,(b∈X.ex\/X.s₀.heap.objs.size<=b)/\b≠X.env.locals/\(∀ x c,X.env.cells.lookup x=some c->c≠b)/\∀ p∈X.pn++pins,p.1≠b) :
  Inv X pins σ H' {s with heap:=h',gens:=g',drawn:=d',toks:=t'}:=by
 obtain⟨m,⟨o,es,ep,ho,r⟩,_⟩:=id I.loc;obtain⟨sl,hL⟩:=u.any ho I.free fun z=>(hch _ z).2.1 rfl;exact I.step (ch:=ch) hch (fun b o hL hb hc e n=>u.keep b o e n (fun z=>(Ap.mp (I.stkSub b z)).elim hL hb) hc) (fun b o _ _ hc e n=>u.any e n hc) (fun b o hc e n=>u.free b o e n hc) (fun b o hc e=>u.there b o e hc) u.tups u.frzs u.tbls (fun m' hm=>by
  obtain⟨o',es',ep',ho',r'⟩:=hm;rw [ho] at ho';cases ho';exact⟨_,es',ep',hL,r'⟩) hok hg
theorem Inv.turned{t':Nat}{it:Addr}(I:Inv X pins σ H s)(k:∀ b o,b≠it->s.heap.get? b=some o->h'.get? b=some o)(hn:H it=none)(hL:it≠X.env.locals)
  (h1:it∈X.ex\/X.s₀.heap.objs.size<=it) (h2:∀ x c,X.env.cells.lookup x=some c->c≠it) (h3:∀ p∈X.pn++pins,p.1≠it):Inv X pins σ H {s with heap:=h',toks:=t'}:=by
 have nit:∀ b u,H b=some u->b≠it:=fun b u e z=>by rw [z,hn] at e;cases e
 refine I.step (g':=s.gens) (d':=s.drawn) (ch:=[it]) (fun b hb=>?_) (fun b o _ _ hc e _=>k b o (fun z=>hc (by simp [z])) e) (fun b o _ _ hc e _=>⟨o.slots,k b o (fun z=>hc (by simp [z])) e⟩) (fun _ _ _ _ n=>n)
  (fun b o hc e=>⟨o,k b o (fun z=>hc (by simp [z])) e⟩) (fun _ _ e=>e) (fun _ _ _ e=>e) (fun b ps e=>⟨#[],by rw [e];simp⟩) (fun m hm=>?_) (fun b u e=>?_) I.bare
 ·have e:b=it:=by simpa using hb
  subst e;exact⟨h1,hL,h2,h3⟩
 ·obtain⟨o,es,ep,ho,r⟩:=hm;exact⟨o,es,ep,k _ o (Ne.symm hL) ho,r⟩
 ·refine(I.hok b u e).stay (fun c v hc q=>k c v ?_ q) (fun _ q=>q) fun _ _ q=>q
  rcases hc with z | z
  ·rw [z];exact nit b u e
  ·exact nit c _ z
theorem Inv.tok(I:Inv X pins σ H s)(t:Nat):Inv X pins σ H {s with toks:=t}:=I.un (h':=s.heap) (t':=t) Un.refl I.hok
theorem Inv.kept{t':Nat}(I:Inv X pins σ H s)(k:∀ b u,s.heap.get? b=some u->h'.get? b=some u):Inv X pins σ H {s with heap:=h',toks:=t'}:=I.un (Un.kept k) (I.hok.kept k)
theorem Inv.laid{a:Addr}{o:HO}{t':Nat}(I:Inv X pins σ H s)(k:∀ b u,s.heap.get? b=some u->h'.get? b=some u)(hp:s.heap.objs.size<=a)(new:ObjOk X.prog X.w (upd H a o) h' a o) :
  Inv X pins σ (upd H a o) {s with heap:=h',toks:=t'}:=I.un (Un.laid k hp (I.hok.fresh hp)) (I.hok.laid k hp new)
theorem Inv.write{x e:Addr}{o:HO}{t':Nat}(I:Inv X pins σ H s)(mu:Mut (H x))(he:e=x\/H e=some (.own x))(k:∀ b u,b≠e->s.heap.get? b=some u->h'.get? b=some u)(heo:∃ u,h'.get? e=some u)
  (new:ObjOk X.prog X.w (upd H x o) h' x o):Inv X pins σ (upd H x o) {s with heap:=h',toks:=t'}:=I.un (Un.write mu he k heo) (I.hok.write mu he k heo new)
theorem Inv.pins_of{pins':List (Addr×Obj)}(I:Inv X pins σ H s)(h:∀ p∈pins',s.heap.get? p.1=some p.2/\H p.1=none/\p.1≠X.env.locals/\p.1∉X.fs/\∀ v,p.2.data ≠ .cell v):Inv X pins' σ H s:=
 ⟨I.ok,I.os,I.bare,I.base,I.loc,I.cell,I.free,I.freeC,fun p hp=>(At.mp hp).elim (fun z=>I.pin p (Bs _ z)) (h p),I.hok,I.len⟩
theorem k1n{N:List Str}(hN:N.Nodup){i j:Nat}{x:Str}(a:N[i]?=some x)(b:N[j]?=some x):i=j:=by
 obtain⟨h1,e1⟩:=Ac.mp a;obtain⟨h2,e2⟩:=Ac.mp b;exact(Fo hN).mp (e1.trans e2.symm)
theorem j9b{M:Model}{A:Around}{E:Value->Shared->Prop}{i:Nat}{x:Str}{v:V}{u:Value}{Q:Unit->Shared->Prop}(I:Inv X pins σ H s)(hN:X.N.Nodup)(hi:X.N[i]?=some x)(hx:Loc X.env.scope x)(r:RelV v u)
  (h:∀ s',Inv X pins (σ.set i (some v)) H s'->(∃ a,Heap.SameBut a s.heap s'.heap/\(a=X.env.locals\/X.env.cells.lookup x=some a))->Q () s') (hf:X.fn x=true\/X.env.scope.names.lookup x=some .local:=by first | exact .inl rfl | exact .inr rfl | assumption):wpAny M A (storeName X.env x u) Q E s:=by
 obtain⟨m,hn,hl⟩:=id I.loc;have hcls:(X.env.scope.kind == .class || (X.env.scope.kind == .module && X.env.locals != X.env.globals))=false:=by rw [I.ok.kind];rfl
 have hiσ:i < σ.length:=by rw [I.len];exact(Ac.mp hi).1
 have cne:=I.cne;have tracked:∀{a:Addr} {h':Heap},(∃ o,s.heap.get? a=some o/\H a=none)->Heap.SameBut a s.heap h'->HOk X.prog X.w H h':=fun{a h'} ha hs b ob e=>by
  obtain⟨_,_,hfree⟩:=ha;refine(I.hok b ob e).stay (fun c w' hc q=>(hs.2 c ?_).trans q) (fun _ q=>q) fun _ _ q=>q;rintro rfl
  rcases hc with rfl | hc
  ·rw [hfree] at e;cases e
  ·rw [hfree] at hc;cases hc
 rcases hx with hk | hk
 ·refine wpAny_storeName_local hk hn (fun h' hn' hs=>?_) hcls;obtain⟨oL,_,_,hoL,_⟩:=id hn;refine h _ ⟨I.ok,I.os,I.bare,⟨fun b o e n hb hx=>?_,fun b o e n hb hx=>?_,I.base.free,fun b o e hx=>?_,I.base.tups,I.base.frzs,I.base.tbls⟩,⟨_,hn',fun j y v' e1 e2 e3=>?_⟩,fun y c e=>?_,I.free,I.freeC,fun p hp=>?_,tracked ⟨oL,hoL,I.free⟩ hs,by simpa using I.len⟩ ⟨_,hs,.inl rfl⟩
  ·exact(hs.2 b (Bg (Bi (Aj e) I.ok.above))).trans (I.base.keep b o e n hb hx)
  ·obtain⟨sl,e1⟩:=I.base.slot b o e n hb hx;exact⟨sl,(hs.2 b (Bg (Bi (Aj e) I.ok.above))).trans e1⟩
  ·obtain⟨o',e1⟩:=I.base.there b o e hx;exact⟨o',(hs.2 b (Bg (Bi (Aj e) I.ok.above))).trans e1⟩
  ·by_cases hj:j=i
   ·subst hj;rw [hi] at e1;cases e1;rw [List.getElem?_set_self hiσ] at e2;cases e2;exact⟨u,r,.inl ⟨hk,by simp⟩⟩
   ·rw [List.getElem?_set_ne (Ne.symm hj)] at e2;obtain⟨u',r',q⟩:=hl j y v' e1 e2 e3;refine⟨u',r',?_⟩
    rcases q with ⟨k,e⟩ | ⟨k,c,e,z⟩
    ·refine .inl ⟨k,?_⟩;have:y≠x:=fun e=>hj (k1n hN e1 (e ▸ hi));simp [this,e]
    ·exact .inr ⟨k,c,e,z.sameBut hs (cne y c e)⟩
  ·obtain⟨w',z⟩:=I.cell y c e;exact⟨w',z.sameBut hs (cne y c e)⟩
  ·obtain⟨e,n,ne,nf,d⟩:=I.pin p hp;exact⟨(hs.2 p.1 ne).trans e,n,ne,nf,d⟩
 ·have hfn:X.fn x=true:=by
   rcases hf with z | z
   ·exact z
   ·rw [z] at hk;cases hk
  obtain⟨c,hc⟩:=I.ok.has x (.inl hk);obtain⟨w',z⟩:=I.cell x c hc;refine wpAny_storeName_cell I.ok.kind hk hc z (fun h' hc' hs=>?_);obtain⟨oc,hoc,hocd⟩:=id z;refine h {s with heap:=h'} ⟨I.ok,I.os,I.bare,⟨fun b o e n hb hx=>?_,fun b o e n hb hx=>?_,I.base.free,fun b o e hx=>?_,I.base.tups,I.base.frzs,I.base.tbls⟩,⟨m,hn.sameBut hs (Ne.symm (cne x c hc)),fun j y v' e1 e2 e3=>?_⟩,fun y c' e=>?_,I.free,I.freeC,fun p hp=>?_,tracked ⟨oc,hoc,I.freeC x c hc⟩ hs,by simpa using I.len⟩ ⟨c,hs,.inr hc⟩
  ·exact(hs.2 b (Bg (Bi (Aj e) (I.ok.cab x c hfn hc)))).trans (I.base.keep b o e n hb hx)
  ·obtain⟨sl,e1⟩:=I.base.slot b o e n hb hx;exact⟨sl,(hs.2 b (Bg (Bi (Aj e) (I.ok.cab x c hfn hc)))).trans e1⟩
  ·obtain⟨o',e1⟩:=I.base.there b o e hx;exact⟨o',(hs.2 b (Bg (Bi (Aj e) (I.ok.cab x c hfn hc)))).trans e1⟩
  ·by_cases hj:j=i
   ·subst hj;rw [hi] at e1;cases e1;rw [List.getElem?_set_self hiσ] at e2;cases e2;exact⟨u,r,.inr ⟨.inl hk,c,hc,hc'⟩⟩
   ·rw [List.getElem?_set_ne (Ne.symm hj)] at e2;obtain⟨u',r',q⟩:=hl j y v' e1 e2 e3;refine⟨u',r',?_⟩
    rcases q with q | ⟨k,c',e,z'⟩
    ·exact .inl q
    ·refine .inr ⟨k,c',e,z'.sameBut hs ?_⟩;rintro rfl;exact hj (k1n hN e1 (I.ok.inj _ _ _ e hc ▸ hi))
  ·by_cases hcc:c'=c
   ·subst hcc;exact⟨_,hc'⟩
   ·obtain⟨w2,z2⟩:=I.cell y c' e;exact⟨w2,z2.sameBut hs hcc⟩
  ·obtain⟨e,n,ne,nf,d⟩:=I.pin p hp;refine⟨(hs.2 p.1 ?_).trans e,n,ne,nf,d⟩;intro q;rw [q,hoc] at e;have q':oc=p.2:=Option.some.inj e;exact d w' (by rw [<- q'];exact hocd)
theorem k2e{M:Model}{A:Around}{E:Value->Shared->Prop}{i:Nat}{x:Str}{v:V}{u:Value}{Q:Unit->Shared->Prop}(I:Inv X pins σ H s)(hN:X.N.Nodup)(hi:X.N[i]?=some x)(hx:Loc X.env.scope x)(r:RelV v u)
  (h:∀ s',Inv X pins (σ.set i (some v)) H s'->Q () s') (hf:X.fn x=true\/X.env.scope.names.lookup x=some .local:=by first | exact .inl rfl | exact .inr rfl | assumption):wpAny M A (storeName X.env x u) Q E s:=
 j9b I hN hi hx r (fun s' I' _=>h s' I') hf
theorem Inv.call'{s':Shared}{ch:List Addr}(I:Inv X pins σ H s)(ho:s'.os=s.os)(u:Un (frs X.stack) ch H H' s.heap s'.heap)(hok:HOk X.prog X.w H' s'.heap)(hg:AllBare s'.gens)
  (hch:∀ b∈ch,(b∈X.ex\/X.s₀.heap.objs.size<=b)/\b≠X.env.locals/\(∀ x c,X.env.cells.lookup x=some c->c≠b)/\∀ p∈X.pn++pins,p.1≠b):Inv X pins σ H' s':=by
 obtain⟨h',g',d',t',o'⟩:=s';have e:o'=s.os:=ho;subst e;exact I.call (g':=g') (t':=t') (d':=d') u hok hg hch
end
abbrev XK:=Value->Option Addr->Hp->Prop
abbrev St:=List (Option V)
abbrev VK:=V->Hp->Prop
abbrev TE:=St->Hp->VK->Prop
abbrev TT:=St->Hp->(Bool->Hp->Prop)->Prop
abbrev TA:=St->Hp->(List V->Hp->Prop)->Prop
structure Ends where
 nx:St->Hp->Prop
 rt:VK
 bk:St->Hp->Prop:=fun _ _=>False
 ct:St->Hp->Prop:=fun _ _=>False
abbrev TS:=Ends->St->Hp->Prop
def EP(X:Cx)(pins:List (Addr×Obj))(σ:St)(Q:VK)(u:Value)(s':Shared):Prop:=∃ v H',Inv X pins σ H' s'/\RelV v u/\Q v H'
def TP(X:Cx)(pins:List (Addr×Obj))(σ:St)(Q:Bool->Hp->Prop)(b:Bool)(s':Shared):Prop:=∃ H',Inv X pins σ H' s'/\Q b H'
def AP(X:Cx)(pins:List (Addr×Obj))(σ:St)(Q:List V->Hp->Prop)(us:List Value)(s':Shared):Prop:=∃ vs H',Inv X pins σ H' s'/\Vals vs us/\Q vs H'
def SP(X:Cx)(pins:List (Addr×Obj))(D:Ends)(f:Flow)(s':Shared):Prop:=
 match f with
 | .next=>∃ σ' H',Inv X pins σ' H' s'/\D.nx σ' H'
 | .brk=>∃ σ' H',Inv X pins σ' H' s'/\D.bk σ' H'
 | .cont=>∃ σ' H',Inv X pins σ' H' s'/\D.ct σ' H'
 | .ret u=>∃ v σ' H',Inv X pins σ' H' s'/\RelV v u/\D.rt v H'
def PE(X:Cx)(e:Expr)(t:TE):Prop:=
 ∀(pins:List (Addr×Obj)) (s:Shared) (σ:St) (H:Hp) (Q:VK),Inv X pins σ H s->t σ H Q->wpAny (model X.prog X.w) X.A (eval e X.env) (EP X pins σ Q) X.xe s
def PT(X:Cx)(e:Expr)(t:TT):Prop:=
 ∀(pins:List (Addr×Obj)) (s:Shared) (σ:St) (H:Hp) (Q:Bool->Hp->Prop),Inv X pins σ H s->t σ H Q->wpAny (model X.prog X.w) X.A (isTrue e X.env (eval e X.env)) (TP X pins σ Q) X.xe s
def PW(X:Cx)(e:Expr)(t:TT):Prop:=
 ∀(whole:Sem Value) (pins:List (Addr×Obj)) (s:Shared) (σ:St) (H:Hp) (Q:Bool->Hp->Prop),Inv X pins σ H s->t σ H Q->wpAny (model X.prog X.w) X.A (isTrue e X.env whole) (TP X pins σ Q) X.xe s
def PA(X:Cx)(es:List Expr)(t:TA):Prop:=
 ∀(pos:Pos) (pins:List (Addr×Obj)) (s:Shared) (σ:St) (H:Hp) (Q:List V->Hp->Prop),Inv X pins σ H s->t σ H Q->wpAny (model X.prog X.w) X.A (spliced (backTo pos (starEach es X.env))) (AP X pins σ Q) X.xe s
def PS(X:Cx)(st:Stmt)(t:TS):Prop:=
 ∀(pins:List (Addr×Obj)) (s:Shared) (σ:St) (H:Hp) (D:Ends),Inv X pins σ H s->t D σ H->wpAny (model X.prog X.w) X.A (exec st X.env) (SP X pins D) X.xe s
def PSs(X:Cx)(st:List Stmt)(t:TS):Prop:=
 ∀(pins:List (Addr×Obj)) (s:Shared) (σ:St) (H:Hp) (D:Ends),Inv X pins σ H s->t D σ H->wpAny (model X.prog X.w) X.A (execs st X.env) (SP X pins D) X.xe s
theorem thn{α:Type}{t:Sem α}{Q Q':α->Shared->Prop}{M:Model}{A:Around}{E:Value->Shared->Prop}{s:Shared}(h:wpAny M A t Q E s)(hQ:∀ a s,Q a s->Q' a s):wpAny M A t Q' E s:=wpAny_mono h hQ fun _ _ x=>x
end L2
namespace L2
open PySem PySem.Spec PyProof.Rows
section
variable{X:Cx}
theorem bin{a b:Expr}{ta tb:TE}(ha:PE X a ta)(hb:PE X b tb){pins:List (Addr×Obj)}{s:Shared}{σ:St}{H:Hp}{R:V->V->Hp->Prop}(I:Inv X pins σ H s)(h:ta σ H fun x H1=>tb σ H1 fun y H2=>R x y H2)
  {α:Type} {Q:α->Shared->Prop} {f:Value->Value->Sem α}
  (hf:∀ v u s2 x y H2,Inv X pins σ H2 s2->RelV x v->RelV y u->R x y H2->wpAny (model X.prog X.w) X.A (f v u) Q X.xe s2) :
  wpAny (model X.prog X.w) X.A (eval a X.env) (fun v s₁=>wpAny (model X.prog X.w) X.A (eval b X.env) (fun u s₂=>wpAny (model X.prog X.w) X.A (f v u) Q X.xe s₂) X.xe s₁) X.xe s:=by
 refine thn (ha pins s σ H _ I h) fun v s1 ⟨x,H1,I1,r1,q1⟩=>?_;refine thn (hb pins s1 σ H1 _ I1 q1) fun u s2 ⟨y,H2,I2,r2,q2⟩=>?_;exact hf v u s2 x y H2 I2 r1 r2 q2
def tVar(i:Nat):TE:=fun σ H Q=>∃ v,σ[i]?=some (some v)/\Q v H
def tC(v:V):TE:=fun _ H Q=>Q v H
theorem q4g{i:Nat}{x:Str}{pos:Pos}(hN:X.N[i]?=some x)(hv:Vis X.env.scope x)(hd:(x == ("__debug__" : Str))=false:=by decide)(hcd:(x == ("__classdict__" : Str))=false:=by decide):PE X (.Name x pos) (tVar i):=by
 intro pins s σ H Q I h;obtain⟨v,e,h⟩:=h;obtain⟨m,hn,hl⟩:=I.loc;obtain⟨u,r,l⟩:=hl i x v hN e hv;have fin:EP X pins σ Q u s:=⟨v,H,I,r,h⟩
 rcases l with ⟨hk,hm⟩ | ⟨hk,c,hc,hcell⟩
 ·exact wpAny_Name (wpAny_loadName_local I.ok.kind hk hn hm fin) hd
 ·rcases hk with hk | hk
  ·exact wpAny_Name (wpAny_loadName_cell I.ok.kind hk hc hcell fin) hd
  ·exact wpAny_Name (wpAny_loadName_free I.ok.kind hk hc hcell fin hcd) hd
theorem q6t{i j pos}:PE X (.Constant (.int i) j pos) (tC (.int i)):=fun _ _ _ H _ I h=>wpAny_Constant_int ⟨.int i,H,I.tok _,⟨_,rfl⟩,h⟩
theorem q7o{b j pos}:PE X (.Constant (.bool b) j pos) (tC (.bl b)):=fun _ _ _ H _ I h=>Constant_bool ⟨.bl b,H,I,rfl,h⟩
theorem q56{x j pos}:PE X (.Constant (.str x) j pos) (tC (.str x)):=fun _ _ _ H _ I h=>Calls.Constant_str ⟨.str x,H,I.tok _,⟨_,rfl⟩,h⟩
def Gl(X:Cx)(x:Str):Prop:=X.env.kindOf x=some .globalImplicit
theorem k0i{E:Value->Shared->Prop}{pins:List (Addr×Obj)}{s:Shared}{σ:St}{H:Hp}{x:Str}{u:Value}{pos:Pos}{Q:Value->Shared->Prop}(I:Inv X pins σ H s)(hg:Gl X x)(hm:X.mg x=some u)(h:Q u s)
  (hd:(x == ("__debug__" : Str))=false:=by decide):wpAny (model X.prog X.w) X.A (eval (.Name x pos) X.env) Q E s:=
 Calls.Name_function_global I.ok.kind hg (Calls.loadGlobal_global (by rw [I.ok.glob];exact I.mod.glob.keeps I.bk) hm h) hd
theorem j44{E:Value->Shared->Prop}{pins:List (Addr×Obj)}{s:Shared}{σ:St}{H:Hp}{x:Str}{u:Value}{pos:Pos}{Q:Value->Shared->Prop}(I:Inv X pins σ H s)(hg:Gl X x)(hm:X.mg x=none)(hv:bootBuiltins x=some u)(h:Q u s)
  (hn:x ≠ "__name__":=by decide) (hd:(x == ("__debug__" : Str))=false:=by decide):wpAny (model X.prog X.w) X.A (eval (.Name x pos) X.env) Q E s:=by
 obtain⟨mb,h1,h2⟩:=I.mod.blt;exact Calls.Name_function_global I.ok.kind hg (Calls.loadGlobal_builtin (by rw [I.ok.glob];exact I.mod.glob.keeps I.bk) hm (by rw [I.ok.blt];exact h1.keeps I.bk) ((h2 x hn).trans hv) h) hd
theorem q11{x:Str}{v:V}{u:Value}{pos:Pos}(hg:Gl X x)(hm:X.mg x=some u)(r:RelV v u)(hd:(x == ("__debug__" : Str))=false:=by decide):PE X (.Name x pos) (tC v):=
 fun _ _ _ H _ I h=>k0i I hg hm ⟨v,H,I,r,h⟩ hd
theorem q2y{x:Str}{v:V}{u:Value}{pos:Pos}(hg:Gl X x)(hm:X.mg x=none)(hv:bootBuiltins x=some u)(r:RelV v u)(hn:x ≠ "__name__":=by decide)(hd:(x == ("__debug__" : Str))=false:=by decide):PE X (.Name x pos) (tC v):=
 fun _ _ _ H _ I h=>j44 I hg hm hv ⟨v,H,I,r,h⟩ hn hd
variable{a b:Expr}{ta tb:TE}{pos:Pos}
def PC(X:Cx)(op:CmpOp)(a b:Expr)(t:TE):Prop:=
 ∀(pins:List (Addr×Obj)) (s:Shared) (σ:St) (H:Hp) (Q:VK),Inv X pins σ H s->t σ H Q ->
  wpAny (model X.prog X.w) X.A (eval a X.env) (fun v s₁=>wpAny (model X.prog X.w) X.A (eval b X.env) (fun u s₂=>wpAny (model X.prog X.w) X.A (compareOp op v u) (EP X pins σ Q) X.xe s₂) X.xe s₁) X.xe s
def tB(t:TE):TT:=fun σ H Q=>t σ H fun x H1=>∃ c,x = .bl c/\Q c H1
theorem k96{op:CmpOp}{t:TE}(h:PC X op a b t)(h1:behindInMarks op b=false:=by first | exact nobehind _ (by decide) (by decide) | rfl):PT X (.Compare a [op] [b] pos) (tB t):=by
 intro pins s σ H Q I hw;refine wpAny_isTrue_Compare1 (thn (h pins s σ H _ I hw) fun v s1 h1=>thn h1 fun u s2 h2=>thn h2 fun c s3 ⟨x,H1,I1,r1,q1⟩=>?_) h1;obtain⟨d,rfl,q⟩:=q1;cases r1;exact wpAny_truthy_bool ⟨H1,I1,q⟩
theorem q4b{e:Expr}{t:TE}(h:PE X e t)(he:∀ whole,isTrue e X.env whole=(do let v <- whole;standAt e.pos;holding [v] (truthy v)):=by intro _;rfl):PT X e (tB t):=by
 intro pins s σ H Q I hw;refine isTrue_plain (thn (h pins s σ H _ I hw) fun v s1 ⟨x,H1,I1,r1,q1⟩=>?_) (he _);obtain⟨d,rfl,q⟩:=q1;cases r1;exact wpAny_truthy_bool ⟨H1,I1,q⟩
variable{tA tB':TT}{rest:List Expr}
def tAnd(t u:TT):TT:=fun σ H Q=>t σ H fun c H1=>if c=true then u σ H1 Q else Q false H1
def tOr(t u:TT):TT:=fun σ H Q=>t σ H fun c H1=>if c=true then Q true H1 else u σ H1 Q
def tNot(t:TT):TT:=fun σ H Q=>t σ H fun c H1=>Q (!c) H1
theorem q1z(ha:PT X a tA):PW X (.BoolOp .And [a] pos) tA:=by
 intro wh pins s σ H Q I h;refine isTrue_and (thn (ha pins s σ H Q I h) fun c s1 e=>?_);cases c with
 | true=>exact isTrue_and_nil e
 | false=>exact e
theorem q5g(ha:PT X a tA):PW X (.BoolOp .Or [a] pos) tA:=by
 intro wh pins s σ H Q I h;refine isTrue_or (thn (ha pins s σ H Q I h) fun c s1 e=>?_);cases c with
 | false=>exact isTrue_or_nil e
 | true=>exact e
theorem q4j(ha:PT X a tA)(hb:PW X (.BoolOp .And (b :: rest) pos) tB'):PW X (.BoolOp .And (a :: b :: rest) pos) (tAnd tA tB'):=by
 intro wh pins s σ H Q I h;refine isTrue_and (thn (ha pins s σ H _ I h) fun c s1 ⟨H1,I1,q1⟩=>?_);cases c with
 | true=>exact hb wh pins s1 σ H1 Q I1 q1
 | false=>exact⟨H1,I1,q1⟩
theorem q7a(ha:PT X a tA)(hb:PW X (.BoolOp .Or (b :: rest) pos) tB'):PW X (.BoolOp .Or (a :: b :: rest) pos) (tOr tA tB'):=by
 intro wh pins s σ H Q I h;refine isTrue_or (thn (ha pins s σ H _ I h) fun c s1 ⟨H1,I1,q1⟩=>?_);cases c with
 | true=>exact⟨H1,I1,q1⟩
 | false=>exact hb wh pins s1 σ H1 Q I1 q1
theorem q6r(ha:PT X a tA):PT X (.UnaryOp .Not a pos) (tNot tA):=by
 intro pins s σ H Q I h;exact isTrue_not (ha pins s σ H (fun c H1=>Q (!c) H1) I h)
def q7s(ta tb:TE):TE:=fun σ H Q=>ta σ H fun x H1=>∃ c,x = .bl c/\if c=true then tb σ H1 Q else Q (.bl false) H1
theorem q41{op}{t:TE}(h:PE X a t):PE X (.BoolOp op [a] pos) t:=fun pins s σ H Q I hw=>BoolOp_one (h pins s σ H Q I hw)
theorem q5m(ha:PE X a ta)(hb:PE X (.BoolOp .And (b :: rest) pos) tb):PE X (.BoolOp .And (a :: b :: rest) pos) (q7s ta tb):=by
 intro pins s σ H Q I h;refine BoolOp_and (thn (ha pins s σ H _ I h) fun v s1 ⟨x,H1,I1,r1,q1⟩=>?_);obtain⟨c,rfl,q1⟩:=q1;cases r1;refine wpAny_truthy_bool ?_;cases c with
 | true=>exact hb pins s1 σ H1 Q I1 q1
 | false=>exact⟨.bl false,H1,I1,rfl,q1⟩
def tIf(t:TT)(ta tb:TE):TE:=fun σ H Q=>t σ H fun c H1=>if c=true then ta σ H1 Q else tb σ H1 Q
theorem k8h{c:Expr}(hc:PT X c tA)(ha:PE X a ta)(hb:PE X b tb):PE X (.IfExp c a b pos) (tIf tA ta tb):=by
 intro pins s σ H Q I h;refine wpAny_IfExp (thn (hc pins s σ H _ I h) fun d s1 ⟨H1,I1,q1⟩=>?_);cases d with
 | true=>exact ha pins s1 σ H1 Q I1 q1
 | false=>exact hb pins s1 σ H1 Q I1 q1
end
end L2
namespace L2
open PySem PySem.Spec PyProof.Rows
def SqL(K:PySem.W.Frag)(H:Hp)(a:Addr)(xs:List V):Prop:=
 Rd H a (.lst xs) \/
  ∃(o:Obj) (its:Array Value) (n:Nat),K.lookup a=some o/\o.cls = .type "list"/\o.dict=none/\o.data = .seq its n/\its.size<=sizeLine/\Vals xs its.toList
def SqT(K:PySem.W.Frag)(H:Hp)(a:Addr)(xs:List V):Prop:=
 Rd H a (.tup xs) \/
  ∃(o:Obj) (its:Array Value) (n:Nat),K.lookup a=some o/\o.cls = .type "tuple"/\o.data = .seq its n/\its.size<=sizeLine/\Vals xs its.toList
def absV:Value->Option V
 | .none=>some .non
 | .bool b=>some (.bl b)
 | .int i _=>some (.int i)
 | .str x _=>some (.str x)
 | .bytes b _=>some (.byt b)
 | .float b _=>some (.flt b)
 | .ref a=>some (.ref a)
 | .type n=>some (.ty n)
 | _=>none
theorem RelV.abs{x:V}{u:Value}(r:RelV x u):absV u=some x:=by
 cases x with
 | non=>cases r;rfl
 | bl _=>cases r;rfl
 | int _=>obtain⟨t,rfl⟩:=r;rfl
 | str _=>obtain⟨t,rfl⟩:=r;rfl
 | byt _=>obtain⟨t,rfl⟩:=r;rfl
 | flt _=>obtain⟨t,rfl⟩:=r;rfl
 | ref _=>cases r;rfl
 | ty _=>cases r;rfl
theorem RelV.inj{x y:V}{u:Value}(r:RelV x u)(q:RelV y u):x=y:=Option.some.inj (r.abs.symm.trans q.abs)
theorem Vals.inj:∀{xs ys:List V} {us:List Value},Vals xs us->Vals ys us->xs=ys
 | _,_,_,.nil,.nil=>rfl
 | _,_,_,.cons r t,.cons r' t'=>by rw [r.inj r',Vals.inj t t']
section
variable{X:Cx}{pins:List (Addr×Obj)}{σ:St}{H:Hp}{s:Shared}{a:Addr}{xs ys:List V}
theorem SqL.of{K:PySem.W.Frag}(h:H a=some (.lst xs)):SqL K H a xs:= .inl (.inl h)
theorem SqT.of{K:PySem.W.Frag}(h:H a=some (.tup xs)):SqT K H a xs:= .inl (.inl h)
theorem Inv.list(I:Inv X pins σ H s)(h:SqL X.K H a xs):∃ its:List Value,Vals xs its/\PlainL s.heap a its.toArray/\xs.length<=sizeLine:=by
 rcases h with h | ⟨o,its,n,hk,hc,hd,hs,hz,r⟩
 ·obtain⟨z,its,n,r,e⟩:=h.ok I.hok;exact⟨its,r,⟨_,n,e,rfl,rfl,rfl⟩,z⟩
 ·refine⟨its.toList,r,⟨o,n,I.kIn a o hk,hc,hd,by simpa using hs⟩,?_⟩;have e:=r.length;simp only [Bw] at e;omega
theorem Inv.tuple(I:Inv X pins σ H s)(h:SqT X.K H a xs):∃ its:List Value,Vals xs its/\IsTup s.heap a its.toArray/\xs.length<=sizeLine:=by
 rcases h with h | ⟨o,its,n,hk,hc,hs,hz,r⟩
 ·obtain⟨z,its,r,p⟩:=h.ok I.hok;exact⟨its,r,p,z⟩
 ·refine⟨its.toList,r,⟨o,I.kIn a o hk,hc,n,by simpa using hs⟩,?_⟩;have e:=r.length;simp only [Bw] at e;omega
theorem Inv.list_inj(I:Inv X pins σ H s)(h:SqL X.K H a xs)(h':SqL X.K H a ys):xs=ys:=by
 obtain⟨its,r,⟨o,n,e,_,_,d⟩,_⟩:=I.list h;obtain⟨its',r',⟨o',n',e',_,_,d'⟩,_⟩:=I.list h';rw [e] at e';cases e';rw [d] at d'
 injection d' with d1 _
 have:its=its':=by simpa using congrArg Array.toList d1
 subst this;exact r.inj r'
theorem Inv.tuple_inj(I:Inv X pins σ H s)(h:SqT X.K H a xs)(h':SqT X.K H a ys):xs=ys:=by
 obtain⟨its,r,⟨o,e,_,n,d⟩,_⟩:=I.tuple h;obtain⟨its',r',⟨o',e',_,n',d'⟩,_⟩:=I.tuple h';rw [e] at e';cases e';rw [d] at d'
 injection d' with d1 _
 have:its=its':=by simpa using congrArg Array.toList d1
 subst this;exact r.inj r'
end
abbrev Cx.wish(X:Cx)(E:Value->Shared->Prop):Cx:={X with xe:=E}
abbrev Cx.nox(X:Cx):Cx:=X.wish fun _ _=>False
theorem Cx.Ok.wish{X:Cx}(ok:X.Ok)(E:Value->Shared->Prop):(X.wish E).Ok:=
 ⟨ok.mod,ok.kind,ok.glob,ok.blt,ok.above,ok.inj,ok.has,ok.cab,ok.hd,ok.frames,ok.stk,ok.exf,ok.bs,ok.bsz,ok.noex,ok.exfs,ok.funs,ok.frf⟩
theorem Cx.Ok.unwish{X:Cx}{E:Value->Shared->Prop}(ok:(X.wish E).Ok):X.Ok:=
 ⟨ok.mod,ok.kind,ok.glob,ok.blt,ok.above,ok.inj,ok.has,ok.cab,ok.hd,ok.frames,ok.stk,ok.exf,ok.bs,ok.bsz,ok.noex,ok.exfs,ok.funs,ok.frf⟩
section
variable{X:Cx}{pins:List (Addr×Obj)}{σ:St}{H:Hp}{s:Shared}{E:Value->Shared->Prop}
theorem Inv.wish(I:Inv X pins σ H s)(E:Value->Shared->Prop):Inv (X.wish E) pins σ H s:=⟨I.ok.wish E,I.os,I.bare,I.base,I.loc,I.cell,I.free,I.freeC,I.pin,I.hok,I.len⟩
theorem Inv.unwish(I:Inv (X.wish E) pins σ H s):Inv X pins σ H s:=⟨I.ok.unwish,I.os,I.bare,I.base,I.loc,I.cell,I.free,I.freeC,I.pin,I.hok,I.len⟩
theorem SP.unwish{D:Ends}{f:Flow}{s':Shared}(h:SP (X.wish E) pins D f s'):SP X pins D f s':=by
 cases f with
 | next=>obtain⟨σ',H',I,q⟩:=h;exact⟨σ',H',I.unwish,q⟩
 | brk=>obtain⟨σ',H',I,q⟩:=h;exact⟨σ',H',I.unwish,q⟩
 | cont=>obtain⟨σ',H',I,q⟩:=h;exact⟨σ',H',I.unwish,q⟩
 | ret u=>obtain⟨v,σ',H',I,r,q⟩:=h;exact⟨v,σ',H',I.unwish,r,q⟩
theorem PSs.nox{st:List Stmt}{t:TS}(h:PSs X.nox st t):PSs X st t:=fun pins s σ H D I hw=>
 wpAny_mono (h pins s σ H D (I.wish _) hw) (fun _ _ q=>q.unwish) fun _ _ z=>False.elim z
end
section
variable{X:Cx}{st:Stmt}{rest:List Stmt}{t u:TS}{e:Expr}{te:TE}{pos:Pos}
def q7e:TS:=fun D σ H=>D.nx σ H
def tSeq(t u:TS):TS:=fun D σ H=>t {D with nx:=u D} σ H
theorem q2d:PSs X [] q7e:=fun _ _ σ H _ I h=>wpAny_execs_nil ⟨σ,H,I,h⟩
theorem k82(h1:PS X st t)(h2:PSs X rest u):PSs X (st :: rest) (tSeq t u):=by
 intro pins s σ H D I h;refine wpAny_execs_cons (thn (h1 pins s σ H {D with nx:=u D} I h) fun f s1 q=>?_);cases f with
 | next=>
  obtain⟨σ',H',I',q⟩:=q;exact h2 pins s1 σ' H' D I' q
 | ret v=>exact q
 | brk=>exact q
 | cont=>exact q
theorem Inv.quiet{pins:List (Addr×Obj)}{σ:St}{H:Hp}{s:Shared}(I:Inv X pins σ H s):interactive X.env=false:=by simp [interactive,I.ok.kind]
def q7c(te:TE):TS:=fun D σ H=>te σ H fun _ H1=>D.nx σ H1
theorem q1m(he:PE X e te)(hs:swapsWith e none pos.line X.env=pure false:=by rfl):PS X (.Expr e pos) (q7c te):=by
 intro pins s σ H D I h;exact wpAny_Expr_any (thn (he pins s σ H _ I h) fun v s1 ⟨x,H1,I1,r1,q1⟩=>⟨σ,H1,I1,q1⟩) I.quiet hs
def tRet(te:TE):TS:=fun D σ H=>te σ H D.rt
theorem q5e(he:PE X e te):PS X (.Return (some e) pos) (tRet te):=by
 intro pins s σ H D I h;exact wpAny_Return_some (thn (he pins s σ H _ I h) fun v s1 ⟨x,H1,I1,r1,q1⟩=>⟨x,σ,H1,I1,r1,q1⟩)
def tIfS(c:TT)(t u:TS):TS:=fun D σ H=>c σ H fun b H1=>if b=true then t D σ H1 else u D σ H1
theorem q65{c:Expr}{a b:List Stmt}{tc:TT}(hc:PT X c tc)(ha:PSs X a t)(hb:PSs X b u):PS X (.If c a b pos) (tIfS tc t u):=by
 intro pins s σ H D I h;refine wpAny_If (thn (hc pins s σ H _ I h) fun d s1 ⟨H1,I1,q1⟩=>?_);cases d with
 | true=>exact ha pins s1 σ H1 D I1 q1
 | false=>exact hb pins s1 σ H1 D I1 q1
end
abbrev TG:=V->St->Hp->(St->Hp->Prop)->Prop
abbrev TGs:=List V->St->Hp->(St->Hp->Prop)->Prop
def PG(X:Cx)(target:Expr)(t:TG):Prop:=
 ∀(pins:List (Addr×Obj)) (s:Shared) (σ:St) (H:Hp) (v:V) (u:Value) (Q:St->Hp->Prop),Inv X pins σ H s->RelV v u->t v σ H Q ->
  wpAny (model X.prog X.w) X.A (assign target X.env u) (fun _ s'=>∃ σ' H',Inv X pins σ' H' s'/\Q σ' H') X.xe s
def PGs(X:Cx)(ts:List Expr)(t:TGs):Prop:=
 ∀(pins:List (Addr×Obj)) (s:Shared) (σ:St) (H:Hp) (vs:List V) (us:List Value) (Q:St->Hp->Prop),Inv X pins σ H s->Vals vs us->t vs σ H Q ->
  wpAny (model X.prog X.w) X.A (assignInOrder ((assignEach ts X.env).map (·.2)) us) (fun _ s'=>∃ σ' H',Inv X pins σ' H' s'/\Q σ' H') X.xe s
section
variable{X:Cx}{pos:Pos}
def k9l(i:Nat):TG:=fun v σ H Q=>Q (σ.set i (some v)) H
theorem q2t{i:Nat}{x:Str}(hN:X.N.Nodup)(hi:X.N[i]?=some x)(hx:Loc X.env.scope x)(hf:X.fn x=true\/X.env.scope.names.lookup x=some .local:=by first | exact .inl rfl | exact .inr rfl | assumption):PG X (.Name x pos) (k9l i):=by
 intro pins s σ H v u Q I r h;exact wpAny_assign_Name (k2e I hN hi hx r (fun s' I'=>⟨_,H,I',h⟩) hf)
def gNil:TGs:=fun vs σ H Q=>vs=[]/\Q σ H
def k3m(t:TG)(u:TGs):TGs:=fun vs σ H Q=>∃ v r,vs=v :: r/\t v σ H fun σ' H'=>u r σ' H' Q
theorem k49:PGs X [] gNil:=by
 intro pins s σ H vs us Q I r h;obtain⟨e,h⟩:=h;subst e;cases r;exact assignInOrder_nil ⟨σ,H,I,h⟩
theorem j4g{e:Expr}{es:List Expr}{t:TG}{u:TGs}(h1:PG X e t)(h2:PGs X es u)
  (hs:(assignEach (e :: es) X.env).map (·.2)=assign e X.env :: (assignEach es X.env).map (·.2):=by rfl):PGs X (e :: es) (k3m t u):=by
 intro pins s σ H vs us Q I r h;obtain⟨v,vr,e1,h⟩:=h;subst e1;cases r with
 | cons r rr=>
  rw [hs];refine assignInOrder_cons (thn (h1 pins s σ H _ _ _ I r h) fun _ s1 ⟨σ1,H1,I1,q1⟩=>?_);exact h2 pins s1 σ1 H1 _ _ Q I1 rr q1
def gTup(K:PySem.W.Frag)(n:Nat)(t:TGs):TG:=fun v σ H Q=>∃ a xs,v = .ref a/\SqT K H a xs/\xs.length=n/\t xs σ H Q
theorem k99{es:List Expr}{k:Nat}{t:TGs}{n:Nat}(hc:X.calm=true)(h:PGs X es t)
  (hn:(assignEach es X.env).length=n:=by rfl) (hst:(assignEach es X.env).findIdx? (·.1)=none:=by rfl):PG X (.Tuple es k pos) (gTup X.K n t):=by
 intro pins s σ H v u Q I r hw;obtain⟨a,xs,e1,hq,hl,hw⟩:=hw;subst e1;cases r;obtain⟨its,rv,ht,hz⟩:=I.tuple hq;refine assign_Tuple_tuple (I.ok.hd hc) ht (by simp [hn,<- hl,rv.length]) hst fun h' hx=>?_;have I1:Inv X pins σ H {s with heap:=h'}:=I.kept (t':=s.toks) fun b o e=>hx b o (Bg (Aj e)) e;exact h pins _ σ H xs _ Q I1 (by simpa using rv) hw
def tAsg(te:TE)(g:TG):TS:=fun D σ H=>te σ H fun x H1=>g x σ H1 D.nx
theorem q37{tg e:Expr}{te:TE}{g:TG}(he:PE X e te)(hg:PG X tg g)(hs:swapsWithSole [tg] e pos.line X.env=pure false:=by rfl)(hw:swappedStores [tg] e X.env=pure none:=by rfl)
  (h1:(assignEach [tg] X.env).map (·.2)=[assign tg X.env]:=by rfl):PS X (.Assign [tg] e pos) (tAsg te g):=by
 intro pins s σ H D I h;refine wpAny_Assign_stores (thn (he pins s σ H _ I h) fun v s1 ⟨x,H1,I1,r1,q1⟩=>?_) hs hw;rw [h1];exact thn (hg pins s1 σ H1 x v _ I1 r1 q1) fun _ s2 q=>q
theorem q30{i:Nat}{x:Str}{e:Expr}{te:TE}{pos':Pos}(hN:X.N.Nodup)(hi:X.N[i]?=some x)(hx:Loc X.env.scope x)(he:PE X e te)(hs:swapsWith e (some (.Name x pos')) pos.line X.env=pure false:=by rfl)(hf:X.fn x=true\/X.env.scope.names.lookup x=some .local:=by first | exact .inl rfl | exact .inr rfl | assumption) :
  PS X (.Assign [.Name x pos'] e pos) (tAsg te (k9l i)):=by
 intro pins s σ H D I h;refine wpAny_Assign_Name (thn (he pins s σ H _ I h) fun v s1 ⟨y,H1,I1,r1,q1⟩=>?_) hs;exact k2e I1 hN hi hx r1 (fun s2 I2=>⟨_,H1,I2,q1⟩) hf
end
section
variable{X:Cx}{pos:Pos}
def q5b(c:TT)(tb:TS):TS:=fun D σ H=>∃ W:Nat->St->Hp->Prop,(∃ m,W m σ H)/\∀ m σ H,W m σ H ->
 c σ H fun b H1=>if b=true then ∃ N:St->Hp->Prop,(∀ σ' H',N σ' H'->∃ m',m' < m/\W m' σ' H')/\tb {D with nx:=N,ct:=N,bk:=D.nx} σ H1 else D.nx σ H1
theorem k7z{c:Expr}{body:List Stmt}{tc:TT}{tb:TS}(hp:PassesOwn (model X.prog X.w) X.A X.env X.xe)(hc:PT X c tc)(hb:PSs X body tb):PS X (.While c body [] pos) (q5b tc tb):=by
 intro pins s σ H D I h;obtain⟨W,⟨m0,w0⟩,turn⟩:=h;refine wpAny_While (codeAny_whileLoop (fun n s'=>∃ σ' H',Inv X pins σ' H' s'/\W n σ' H') ?_ m0 ⟨σ,H,I,w0⟩);rintro n s1 ⟨σ1,H1,I1,w1⟩;refine wpAny_passesOwn hp (thn (hc pins s1 σ1 H1 _ I1 (turn n σ1 H1 w1)) fun b s2 ⟨H2,I2,q2⟩=>?_);cases b with
 | true=>
  obtain⟨N,hN,q2⟩:=q2;rw [if_pos rfl];refine wpAny_passesOwn hp (thn (hb pins s2 σ1 H2 _ I2 q2) fun f s3 q3=>?_);cases f with
  | next=>
   obtain⟨σ3,H3,I3,n3⟩:=q3;obtain⟨m',hm,w3⟩:=hN σ3 H3 n3;exact⟨m',hm,σ3,H3,I3,w3⟩
  | cont=>
   obtain⟨σ3,H3,I3,n3⟩:=q3;obtain⟨m',hm,w3⟩:=hN σ3 H3 n3;exact⟨m',hm,σ3,H3,I3,w3⟩
  | brk=>exact q3
  | ret v=>exact q3
 | false=>
  rw [if_neg Al];exact wpAny_execs_nil ⟨σ1,H2,I2,q2⟩
end
structure It where
 go:Nat->Hp->Prop
 yld:Nat->Hp->V->Hp->Prop
 stop:Nat->Hp->Prop
def FpOk(X:Cx)(pins:List (Addr×Obj))(H:Hp)(b:Addr):Prop:=
 H b=none/\b≠X.env.locals/\b∉X.fs/\(b∈X.ex\/X.s₀.heap.objs.size<=b)/\(∀ x c,X.env.cells.lookup x=some c->c≠b)/\∀ p∈X.pn++pins,p.1≠b
theorem Inv.fpOk{X:Cx}{pins:List (Addr×Obj)}{σ:St}{H H':Hp}{s:Shared}{b:Addr}(I:Inv X pins σ H s)(hb:s.heap.objs.size<=b)(hn:H' b=none):FpOk X pins H' b:=by
 refine⟨hn,Ci (Bi I.lt hb),I.nofs hb,.inr (Bv I.sz hb),fun x c e z=>?_,fun p hp z=>?_⟩
 ·obtain⟨v,q⟩:=I.cell x c e;exact absurd (Bi q.lt (by rw [z];exact hb)) (By _)
 ·exact absurd (Bi (Aj (I.pin p hp).1) (by rw [z];exact hb)) (By _)
structure Turn(P:Program)(w:World)(K:PySem.W.Frag)(tg:Expr)(J:It)(fp:List Addr)(it:Addr)(tn:Nat->Heap->Prop):Prop where
 mem:it∈fp
 obj:∀ i h,tn i h->∀ b∈fp,∃ o,h.get? b=some o/\∀ v,o.data ≠ .cell v
 keep:∀ i h h',tn i h->(∀ b∈fp,∀ o,h.get? b=some o->h'.get? b=some o)->tn i h'
 item:∀(X:Cx),X.prog=P->X.w=w->X.K=K->X.calm=true->∀(i:Nat) (pins:List (Addr×Obj)) (s:Shared) (σ:St) (H:Hp) (E:Value->Shared->Prop),Inv X pins σ H s->(∀ b∈fp,FpOk X pins H b)->tn i s.heap->J.go i H ->
  wpAny (model P w) X.A (pyNext (.ref it)) (fun r s1=>∃ u,r=some u /\
   wpAny (model P w) X.A (letOwnedTupleGo tg (.ref it) u) (fun _ s2=>∃ x H',Inv X pins σ H' s2/\RelV x u/\J.yld i H x H'/\tn (i+1) s2.heap/\∀ b∈fp,H' b=none) E s1) E s
 done:∀(X:Cx),X.prog=P->X.w=w->X.K=K->X.calm=true->∀(i:Nat) (pins:List (Addr×Obj)) (s:Shared) (σ:St) (H:Hp) (E:Value->Shared->Prop),Inv X pins σ H s->(∀ b∈fp,FpOk X pins H b)->tn i s.heap->J.stop i H ->
  wpAny (model P w) X.A (pyNext (.ref it)) (fun r s1=>r=none/\Inv X pins σ H s1) E s
 self:∀(A:Around) (i:Nat) (s:Shared) (Q:Value->Shared->Prop) (E:Value->Shared->Prop),tn i s.heap->Q (.ref it) s->wpAny (model P w) A (pyIter (.ref it)) Q E s
abbrev TI:=St->Hp->(It->Hp->Prop)->Prop
def PIE(X:Cx)(pins:List (Addr×Obj))(σ:St)(tg:Expr)(R:It->Hp->Prop)(itv:Value)(s2:Shared):Prop:=
 ∃(it:Addr) (fp:List Addr) (tn:Nat->Heap->Prop) (J:It) (H':Hp),itv = .ref it/\Inv X pins σ H' s2/\Turn X.prog X.w X.K tg J fp it tn/\tn 0 s2.heap/\(∀ b∈fp,FpOk X pins H' b)/\R J H'
def PI(X:Cx)(tg iter:Expr)(wi:TI):Prop:=
 ∀(pins:List (Addr×Obj)) (s:Shared) (σ:St) (H:Hp) (R:It->Hp->Prop),Inv X pins σ H s->wi σ H R ->
  wpAny (model X.prog X.w) X.A (eval iter X.env) (fun v s1=>wpAny (model X.prog X.w) X.A (pyIter v) (PIE X pins σ tg R) X.xe s1) X.xe s
theorem k31{M:Model}{A:Around}{E:Value->Shared->Prop}{s:Shared}{tg:Expr}{it:Addr}{u:Value}{o:Obj}{n:String}{vs:Array Value}{Q:Unit->Shared->Prop}(ho:s.heap.get? it=some o)(hc:o.cls = .type n)(hd:o.data = .fields vs)
    (hn:["enumerate","zip","dict_itemiterator","dict_reverseitemiterator","odict_iterator","itertools.zip_longest","itertools.pairwise"].contains n=false) (hQ:Q () s):wpAny M A (letOwnedTupleGo tg (.ref it) u) Q E s:=by
  unfold letOwnedTupleGo;cases tg <;> first
    | exact wpAny_pure hQ
    | (cases u <;> first
        | exact wpAny_pure hQ
        | (refine wpAny_bind (wpAny_load ho ?_)
           rw [hc,hd];show wpAny M A (if(["enumerate","zip","dict_itemiterator","dict_reverseitemiterator","odict_iterator","itertools.zip_longest","itertools.pairwise"].contains n && vs[0]? == some (rawInt _))=true then _ else _) Q E s;rw [if_neg (by intro h;rw [hn,Bool.false_and] at h;cases h)];exact wpAny_pure hQ))
def Itl(K:PySem.W.Frag)(a:Addr):It:=
 ⟨fun i H=>∃ xs x,SqL K H a xs/\xs[i]?=some x,fun i H x H'=>H'=H/\∀ xs,SqL K H a xs->xs[i]?=some x,fun i H=>∃ xs,SqL K H a xs/\xs.length<=i⟩
def Itt(K:PySem.W.Frag)(a:Addr):It:=
 ⟨fun i H=>∃ xs x,SqT K H a xs/\xs[i]?=some x,fun i H x H'=>H'=H/\∀ xs,SqT K H a xs->xs[i]?=some x,fun i H=>∃ xs,SqT K H a xs/\xs.length<=i⟩
def Itr(lo:Int)(n:Nat):It:=⟨fun i _=>i < n,fun i H x H'=>H'=H/\x = .int (lo+i),fun i _=>n<=i⟩
theorem k6c{P:Program}{w:World}{K:PySem.W.Frag}{tg:Expr}(a it:Addr):Turn P w K tg (Itl K a) [it] it (fun i h=>h.IsListIter it a i) where
 mem:=by simp
 obj:=fun i h st b hb=>by
  have e:b=it:=by simpa using hb
  subst e;obtain⟨o,e,c,d⟩:=st;exact⟨o,e,fun v z=>by rw [d] at z;cases z⟩
 keep:=fun i h h' st k=>st.at fun o e=>k it (by simp) o e
 item:=by
  intro X hP hw hK hc i pins s σ H E I hf st hg;subst hP hw hK;obtain⟨xs,x,hq,hx⟩:=hg;obtain⟨its,rv,p,hz⟩:=I.list hq;obtain⟨u,hu,ru⟩:=rv.get hx;obtain⟨f0,f1,f2,f3,f4,f5⟩:=hf it (by simp);refine wpAny_pyNext_list_item st p.isList (x:=u) (by simpa using hu) fun h' st' sb=>?_;have I1:Inv X pins σ H {s with heap:=h'}:=I.turned (t':=s.toks) (fun b o hb e=>(sb.2 b hb).trans e) f0 f1 f3 f4 f5;obtain⟨o,e,c,d⟩:=id st';exact⟨u,rfl,k31 (s:={s with heap:=h'}) e c d (by decide) ⟨x,H,I1,ru,⟨rfl,fun ys hy=>by rw [I.list_inj hy hq];exact hx⟩,st',fun b hb=>(hf b hb).1⟩⟩
 done:=by
  intro X hP hw hK hc i pins s σ H E I hf st hg;subst hP hw hK;obtain⟨xs,hq,hx⟩:=hg;obtain⟨its,rv,p,hz⟩:=I.list hq;obtain⟨f0,f1,f2,f3,f4,f5⟩:=hf it (by simp);have hl:=rv.length;exact wpAny_pyNext_list_end (I.ok.hd hc) st p.isList (by simp;omega) fun h' eb=>⟨rfl,I.turned (t':=s.toks) (fun b o hb e=>eb b o hb e) f0 f1 f3 f4 f5⟩
 self:=fun _ _ _ _ _ st h=>wpAny_pyIter_listiter st h
theorem k3k{P:Program}{w:World}{K:PySem.W.Frag}{tg:Expr}(a it:Addr):Turn P w K tg (Itt K a) [it] it (fun i h=>h.IsTupleIter it a i) where
 mem:=by simp
 obj:=fun i h st b hb=>by
  have e:b=it:=by simpa using hb
  subst e;obtain⟨o,e,c,d⟩:=st;exact⟨o,e,fun v z=>by rw [d] at z;cases z⟩
 keep:=fun i h h' st k=>st.at fun o e=>k it (by simp) o e
 item:=by
  intro X hP hw hK hc i pins s σ H E I hf st hg;subst hP hw hK;obtain⟨xs,x,hq,hx⟩:=hg;obtain⟨its,rv,p,hz⟩:=I.tuple hq;obtain⟨u,hu,ru⟩:=rv.get hx;obtain⟨f0,f1,f2,f3,f4,f5⟩:=hf it (by simp);refine wpAny_pyNext_tuple_item st (show s.heap.IsTuple a its.toArray from p) (x:=u) (by simpa using hu) fun h' st' sb=>?_;have I1:Inv X pins σ H {s with heap:=h'}:=I.turned (t':=s.toks) (fun b o hb e=>(sb.2 b hb).trans e) f0 f1 f3 f4 f5;obtain⟨o,e,c,d⟩:=id st';exact⟨u,rfl,k31 (s:={s with heap:=h'}) e c d (by decide) ⟨x,H,I1,ru,⟨rfl,fun ys hy=>by rw [I.tuple_inj hy hq];exact hx⟩,st',fun b hb=>(hf b hb).1⟩⟩
 done:=by
  intro X hP hw hK hc i pins s σ H E I hf st hg;subst hP hw hK;obtain⟨xs,hq,hx⟩:=hg;obtain⟨its,rv,p,hz⟩:=I.tuple hq;obtain⟨f0,f1,f2,f3,f4,f5⟩:=hf it (by simp);have hl:=rv.length;exact wpAny_pyNext_tuple_end (I.ok.hd hc) st (show s.heap.IsTuple a its.toArray from p) (by simp;omega) fun h' eb=>⟨rfl,I.turned (t':=s.toks) (fun b o hb e=>eb b o hb e) f0 f1 f3 f4 f5⟩
 self:=fun _ _ _ _ _ st h=>wpAny_pyIter_tupleiter st h
theorem k3n{P:Program}{w:World}{K:PySem.W.Frag}{tg:Expr}(it:Addr)(lo:Int)(n:Nat):Turn P w K tg (Itr lo n) [it] it (fun i h=>IsRangeIter h it (lo+(i:Nat) * 1) ((n:Int) - (i:Nat)) 1) where
 mem:=by simp
 obj:=fun i h st b hb=>by
  have e:b=it:=by simpa using hb
  subst e;exact⟨_,st,fun v z=>by
   have z':Data.fields _=Data.cell v:=z;cases z'⟩
 keep:=fun i h h' st k=>k it (by simp) _ st
 item:=by
  intro X hP hw hK hc i pins s σ H E I hf st hg;subst hP hw hK;obtain⟨f0,f1,f2,f3,f4,f5⟩:=hf it (by simp);have W:=Walks.range (prog:=X.prog) (w:=X.w) (I.ok.hd hc) it lo 1 n;refine W.item i s _ _ hg st fun v h' tk hv st' kk=>?_;obtain⟨t,rfl⟩:=hv;have I1:Inv X pins σ H {s with heap:=h',toks:=tk}:=I.turned (fun b o hb e=>kk b o (by simpa using hb) e) f0 f1 f3 f4 f5;refine⟨_,rfl,k31 (s:={s with heap:=h',toks:=tk}) (n:= "range_iterator") st' rfl rfl (by decide) ⟨.int (lo+i),H,I1,⟨t,?_⟩,⟨rfl,rfl⟩,st',fun b hb=>(hf b hb).1⟩⟩;rw [Int.mul_one]
 done:=by
  intro X hP hw hK hc i pins s σ H E I hf st hg;subst hP hw hK;obtain⟨f0,f1,f2,f3,f4,f5⟩:=hf it (by simp);exact wpAny_pyNext_range_end (I.ok.hd hc) st (by have:n<=i:=hg;omega) fun h' eb=>⟨rfl,I.turned (t':=s.toks) (fun b o hb e=>eb b o hb e) f0 f1 f3 f4 f5⟩
 self:=fun _ _ _ _ _ st h=>wpAny_pyIter_rangeiter st h
end L2
namespace L2
open PySem PySem.Spec PyProof.Rows
section
variable{X:Cx}{tg:Expr}
def q7p(K:PySem.W.Frag)(tl:TE):TI:=fun σ H R=>tl σ H fun x H1=>∃ a,x = .ref a/\(∃ xs,SqL K H1 a xs)/\R (Itl K a) H1
def iTup(K:PySem.W.Frag)(tl:TE):TI:=fun σ H R=>tl σ H fun x H1=>∃ a,x = .ref a/\(∃ xs,SqT K H1 a xs)/\R (Itt K a) H1
theorem j1u{l:Expr}{tl:TE}(hl:PE X l tl):PI X tg l (q7p X.K tl):=by
 intro pins s σ H R I h;refine thn (hl pins s σ H _ I h) fun v s1 ⟨x,H1,I1,r1,q1⟩=>?_;obtain⟨a,e,⟨xs,hq⟩,q⟩:=q1;subst e;cases r1;obtain⟨its,rv,p,hz⟩:=I1.list hq;refine wpAny_pyIter_list p.isList ?_;refine⟨s1.heap.objs.size,[s1.heap.objs.size],_,_,H1,rfl,I1.kept (t':=s1.toks) fun b o e=>Ae _ e,k6c a _,⟨_,Am _ rfl,rfl,rfl⟩,fun b hb=>?_,q⟩;have e:b=s1.heap.objs.size:=by simpa using hb
 subst e;exact I1.fpOk (Ah _) (I1.hok.fresh (Ah _))
theorem q4x{l:Expr}{tl:TE}(hl:PE X l tl):PI X tg l (iTup X.K tl):=by
 intro pins s σ H R I h;refine thn (hl pins s σ H _ I h) fun v s1 ⟨x,H1,I1,r1,q1⟩=>?_;obtain⟨a,e,⟨xs,hq⟩,q⟩:=q1;subst e;cases r1;obtain⟨its,rv,p,hz⟩:=I1.tuple hq;refine wpAny_pyIter_tuple (show s1.heap.IsTuple a its.toArray from p) ?_;refine⟨s1.heap.objs.size,[s1.heap.objs.size],_,_,H1,rfl,I1.kept (t':=s1.toks) fun b o e=>Ae _ e,k3k a _,⟨_,Am _ rfl,rfl,rfl⟩,fun b hb=>?_,q⟩;have e:b=s1.heap.objs.size:=by simpa using hb
 subst e;exact I1.fpOk (Ah _) (I1.hok.fresh (Ah _))
theorem k7d{pins:List (Addr×Obj)}{σ:St}{H:Hp}{s:Shared}{R:It->Hp->Prop}{E:Value->Shared->Prop}{lo hi:Int}{t u v:Tok}{tk:Nat}(I:Inv X pins σ H s)(h1:-(2 ^ 62)<=lo)(h2:lo < 2 ^ 62)(h3:-(2 ^ 62)<=hi)(h4:hi < 2 ^ 62)
  (q:R (Itr lo (hi - lo).toNat) H):wpAny (model X.prog X.w) X.A (pyIter (.ref s.heap.objs.size)) (PIE X pins σ tg R) E {s with heap:=s.heap.push {cls:= .type "range",data:= .fields #[.int lo t,.int hi u,.int 1 v]},toks:=tk}:=by
 refine wpAny_pyIter_range (IsRange.new ..) (small_one h1 h2 h3 h4) ?_;have I1:Inv X pins σ H {s with heap:=s.heap.push {cls:= .type "range",data:= .fields #[.int lo t,.int hi u,.int 1 v]},toks:=tk}:=I.kept fun b o e=>Ae _ e;refine⟨(s.heap.push {cls:= .type "range",data:= .fields #[.int lo t,.int hi u,.int 1 v]}).objs.size,[(s.heap.push {cls:= .type "range",data:= .fields #[.int lo t,.int hi u,.int 1 v]}).objs.size],_,_,H,rfl,
  I1.kept (t':=tk) fun b o e=>Ae _ e,k3n _ lo (hi - lo).toNat,?_,fun b hb=>?_,q⟩
 ·have e1:lo+((0:Nat):Int) * 1=lo:=by simp
  have e2:(((hi - lo).toNat:Nat):Int) - ((0:Nat):Int)=Builtin.Range.rangeSize lo hi 1:=by rw [rangeSize_one];split <;> omega
  show IsRangeIter _ _ (lo+((0:Nat):Int) * 1) ((((hi - lo).toNat:Nat):Int) - ((0:Nat):Int)) 1;rw [e1,e2];exact Am _ rfl
 ·have e:b=(s.heap.push {cls:= .type "range",data:= .fields #[.int lo t,.int hi u,.int 1 v]}).objs.size:=by simpa using hb
  subst e;exact I1.fpOk (Ah _) (I1.hok.fresh (Ah _))
def q3z(ta:TA):TI:=fun σ H R=>ta σ H fun vs H1=>∃ j:Int,vs=[.int j]/\-(2 ^ 62)<=j/\j < 2 ^ 62/\R (Itr 0 j.toNat) H1
theorem j6m{a:Expr}{ta:TA}{p pos:Pos}(hg:Gl X "range")(hm:X.mg "range" = none)(ha:PA X [a] ta)(hs:starEach [a] X.env=[(false,eval a X.env)]:=by rfl):PI X tg (.Call (.Name "range" p) [a] [] pos) (q3z ta):=by
 intro pins s σ H R I h;refine Call_ (j44 I hg hm boot_range (PyProof.Rows.callWith_type1 (thn (ha pos pins s σ H _ I h) fun us s1 ⟨vs,H1,I1,r1,q1⟩=>?_) hs rfl));obtain⟨j,e,q1,q2,q⟩:=q1;subst e;cases r1 with
 | cons r rr=>
  cases rr;obtain⟨t,rfl⟩:=r;exact call_range_1 (k7d I1 (by omega) (by omega) q1 q2 (by simpa using q))
def tFor(wi:TI)(g:TG)(tb:TS):TS:=fun D σ H=>wi σ H fun J H1=>∃ W:Nat->Nat->St->Hp->Prop,(∃ m,W 0 m σ H1)/\∀ i m σ H,W i m σ H ->
 (J.stop i H/\D.nx σ H)\/(J.go i H/\∃ N:St->Hp->Prop,(∀ σ' H',N σ' H'->∃ m',m' < m/\W (i+1) m' σ' H')/\∀ x H',J.yld i H x H'->g x σ H' fun σ2 H2=>tb {D with nx:=N,ct:=N,bk:=D.nx} σ2 H2)
def j6j(fp:List Addr)(h:Heap):List (Addr×Obj):=fp.filterMap fun b=>(h.get? b).map fun o=>(b,o)
theorem j10{fp:List Addr}{h:Heap}{b:Addr}{o:Obj}(hb:b∈fp)(e:h.get? b=some o):(b,o)∈j6j fp h:=Fh.mpr ⟨b,hb,by rw [e];rfl⟩
theorem k4f{fp:List Addr}{h:Heap}{p:Addr×Obj}(hp:p∈j6j fp h):p.1∈fp/\h.get? p.1=some p.2:=by
 obtain⟨b,hb,e⟩:=Fh.mp hp;cases q:h.get? b with
 | none=>rw [q] at e;cases e
 | some o=>
  rw [q] at e;have e':(b,o)=p:=Option.some.inj e;subst e';exact⟨hb,q⟩
theorem Inv.pinned{pins:List (Addr×Obj)}{σ:St}{H:Hp}{s:Shared}{fp:List Addr}(I:Inv X pins σ H s)(hf:∀ b∈fp,FpOk X pins H b)(ho:∀ b∈fp,∃ o,s.heap.get? b=some o/\∀ v,o.data ≠ .cell v):Inv X (pins++j6j fp s.heap) σ H s:=
 I.pins_of fun p hp=>(At.mp hp).elim (fun z=>I.pin p (As _ z)) fun z=>by
  obtain⟨hb,e⟩:=k4f z;obtain⟨f0,f1,f2,_⟩:=hf p.1 hb;obtain⟨o,e',d⟩:=ho p.1 hb;rw [e] at e';cases e';exact⟨e,f0,f1,f2,d⟩
theorem Inv.unpinned{pins pl:List (Addr×Obj)}{σ:St}{H:Hp}{s:Shared}(I:Inv X (pins++pl) σ H s):Inv X pins σ H s:=I.pins_of fun p hp=>I.pin p (As _ (Bs _ hp))
theorem q5p{iter:Expr}{body:List Stmt}{wi:TI}{g:TG}{tb:TS}{pos:Pos}(hp:PassesOwn (model X.prog X.w) X.A X.env X.xe)(hc:X.calm=true)(hi:PI X tg iter wi)(hg:PG X tg g)(hb:PSs X body tb)
  (hs:∀ x,foldedSetIterable iter X.env x=pure x:=by intro _;rfl):PS X (.For tg iter body [] pos) (tFor wi g tb):=by
 intro pins s σ H D I h;refine wpAny_For (thn (hi pins s σ H _ I h) fun v s1 h1=>thn h1 fun itv s2 h2=>?_) hs;obtain⟨it,fp,tn,J,H2,e,I2,T,st2,f2,W,⟨m0,w0⟩,turn⟩:=h2;subst e;have stat:∀{H':Hp},(∀ b∈fp,H' b=none)->∀ b∈fp,FpOk X pins H' b:=fun hn b hb=>⟨hn b hb,(f2 b hb).2⟩;refine codeAny_forLoop_any (fun n s'=>∃ i σ' H',Inv X pins σ' H' s'/\tn i s'.heap/\(∀ b∈fp,H' b=none)/\W i n σ' H') ?_ m0 ⟨0,σ,H2,I2,st2,fun b hb=>(f2 b hb).1,w0⟩;rintro n s3 ⟨i,σ3,H3,I3,st3,fr3,w3⟩
 rcases turn i n σ3 H3 w3 with ⟨stop,qn⟩ | ⟨go,N,hN,step⟩
 ·refine wpAny_passesOwn hp (thn (T.done X rfl rfl rfl hc i pins s3 σ3 H3 X.xe I3 (stat fr3) st3 stop) fun r s4 ⟨hr,I4⟩=>?_);subst hr;exact wpAny_execs_nil ⟨σ3,H3,I4,qn⟩
 ·refine wpAny_passesOwn hp (thn (T.item X rfl rfl rfl hc i pins s3 σ3 H3 X.xe I3 (stat fr3) st3 go) fun r s4 ⟨u,hr,h4⟩=>?_);subst hr;refine wpAny_passesOwn hp (thn h4 fun _ s5 ⟨x,H5,I5,r5,y5,st5,fr5⟩=>?_);have I5':=I5.pinned (stat fr5) (T.obj _ _ st5);refine wpAny_passesOwn hp (thn (hg _ s5 σ3 H5 x u _ I5' r5 (step x H5 y5)) fun _ s6 ⟨σ6,H6,I6,q6⟩=>?_);refine wpAny_passesOwn hp (thn (hb _ s6 σ6 H6 _ I6 q6) fun f s7 q7=>?_);have again:∀{σ7:St} {H7:Hp},Inv X (pins++j6j fp s5.heap) σ7 H7 s7->N σ7 H7->∃ m,m < n/\∃ i σ' H',Inv X pins σ' H' s7/\tn i s7.heap/\(∀ b∈fp,H' b=none)/\W i m σ' H':=fun{σ7 H7} I7 n7=>by
   obtain⟨m',hm,w7⟩:=hN σ7 H7 n7;refine⟨m',hm,i+1,σ7,H7,I7.unpinned,T.keep _ _ _ st5 fun b hb o e=>(I7.pin (b,o) (As _ (As _ (j10 hb e)))).1,fun b hb=>?_,w7⟩;obtain⟨o,e,d⟩:=T.obj _ _ st5 b hb;exact(I7.pin (b,o) (As _ (As _ (j10 hb e)))).2.1
  cases f with
  | next=>obtain⟨σ7,H7,I7,n7⟩:=q7;exact again I7 n7
  | cont=>obtain⟨σ7,H7,I7,n7⟩:=q7;exact again I7 n7
  | brk=>obtain⟨σ7,H7,I7,q7⟩:=q7;exact⟨σ7,H7,I7.unpinned,q7⟩
  | ret v=>obtain⟨x7,σ7,H7,I7,r7,q7⟩:=q7;exact⟨x7,σ7,H7,I7.unpinned,r7,q7⟩
end
end L2
namespace L2
open PySem PySem.Spec PyProof.Rows
abbrev R2:=V->V->Hp->VK->Prop
def OpR(X:Cx)(f:Value->Value->Sem Value)(r:R2):Prop:=
 ∀(pins:List (Addr×Obj)) (s:Shared) (σ:St) (H:Hp) (x y:V) (v u:Value) (Q:VK),Inv X pins σ H s->RelV x v->RelV y u->r x y H Q ->
  wpAny (model X.prog X.w) X.A (f v u) (EP X pins σ Q) X.xe s
def j2z(X:Cx)(f:Value)(r:List V->Hp->VK->Prop):Prop:=
 ∀(pins:List (Addr×Obj)) (s:Shared) (σ:St) (H:Hp) (xs:List V) (us:List Value) (Q:VK),Inv X pins σ H s->Vals xs us->r xs H Q ->
  wpAny (model X.prog X.w) X.A (call f us) (EP X pins σ Q) X.xe s
def TruR(X:Cx)(r:V->Hp->(Bool->Hp->Prop)->Prop):Prop:=
 ∀(pins:List (Addr×Obj)) (s:Shared) (σ:St) (H:Hp) (x:V) (v:Value) (Q:Bool->Hp->Prop),Inv X pins σ H s->RelV x v->r x H Q ->
  wpAny (model X.prog X.w) X.A (truthy v) (TP X pins σ Q) X.xe s
def tOp(r:R2)(ta tb:TE):TE:=fun σ H Q=>ta σ H fun x H1=>tb σ H1 fun y H2=>r x y H2 Q
def rI(C:Int->Int->Prop)(g:Int->Int->V):R2:=fun x y H Q=>∃ i j,x = .int i/\y = .int j/\C i j/\Q (g i j) H
def rI0(g:Int->Int->V):R2:=fun x y H Q=>∃ i j,x = .int i/\y = .int j/\Q (g i j) H
section
variable{X:Cx}{a b c:Expr}{ta tb tc:TE}{pos:Pos}
theorem binT(ha:PE X a ta)(hb:PE X b tb){pins:List (Addr×Obj)}{s:Shared}{σ:St}{H:Hp}{R:V->V->Hp->Prop}(I:Inv X pins σ H s)
  (h:ta σ H fun x H1=>tb σ H1 fun y H2=>R x y H2) {Q:Value->Shared->Prop} {f:Value->Value->Sem Value}
  (hf:∀ v u s2 x y H2,Inv X pins σ H2 s2->RelV x v->RelV y u->R x y H2->wpAny (model X.prog X.w) X.A (f v u) Q X.xe s2) :
  wpAny (model X.prog X.w) X.A (eval a X.env) (fun v s₁=>wpAny (model X.prog X.w) X.A (eval b X.env) (fun u s₂=>wpAny (model X.prog X.w) X.A (f v u) Q X.xe s₂) X.xe s₁) X.xe s:=by
 refine thn (ha pins s σ H _ I h) fun v s1 ⟨x,H1,I1,r1,q1⟩=>?_;refine thn (hb pins s1 σ H1 _ I1 q1) fun u s2 ⟨y,H2,I2,r2,q2⟩=>?_;exact hf v u s2 x y H2 I2 r1 r2 q2
theorem q6x{op:Operator}{r:R2}(ho:OpR X (binaryOp op) r)(ha:PE X a ta)(hb:PE X b tb):PE X (.BinOp a op b pos) (tOp r ta tb):=by
 intro pins s σ H Q I h;exact wpAny_BinOp (binT ha hb I h fun v u s2 x y H2 I2 rx ry q=>ho pins s2 σ H2 x y v u Q I2 rx ry q)
theorem opI{f:Value->Value->Sem Value}{C:Int->Int->Prop}{g:Int->Int->Int}
  (rule:∀(i j:Int) (t u:Tok) (s:Shared) (Q:Value->Shared->Prop) (E:Value->Shared->Prop),C i j->Q (.int (g i j) s.toks) {s with toks:=s.toks+1}->wpAny (model X.prog X.w) X.A (f (.int i t) (.int j u)) Q E s) :
  OpR X f (rI C fun i j=> .int (g i j)):=by
 intro pins s σ H x y v u Q I rx ry h;obtain⟨i,j,rfl,rfl,hc,q⟩:=h;obtain⟨t,rfl⟩:=rx;obtain⟨t',rfl⟩:=ry;exact rule i j t t' s _ _ hc ⟨.int (g i j),H,I.tok _,⟨_,rfl⟩,q⟩
theorem opI0{f:Value->Value->Sem Value}{g:Int->Int->Int}
  (rule:∀(i j:Int) (t u:Tok) (s:Shared) (Q:Value->Shared->Prop) (E:Value->Shared->Prop),Q (.int (g i j) s.toks) {s with toks:=s.toks+1}->wpAny (model X.prog X.w) X.A (f (.int i t) (.int j u)) Q E s) :
  OpR X f (rI0 fun i j=> .int (g i j)):=by
 intro pins s σ H x y v u Q I rx ry h;obtain⟨i,j,rfl,rfl,q⟩:=h;obtain⟨t,rfl⟩:=rx;obtain⟨t',rfl⟩:=ry;exact rule i j t t' s _ _ ⟨.int (g i j),H,I.tok _,⟨_,rfl⟩,q⟩
theorem opB0{f:Value->Value->Sem Value}{g:Int->Int->Bool}
  (rule:∀(i j:Int) (t u:Tok) (s:Shared) (Q:Value->Shared->Prop) (E:Value->Shared->Prop),Q (.bool (g i j)) s->wpAny (model X.prog X.w) X.A (f (.int i t) (.int j u)) Q E s) :
  OpR X f (rI0 fun i j=> .bl (g i j)):=by
 intro pins s σ H x y v u Q I rx ry h;obtain⟨i,j,rfl,rfl,q⟩:=h;obtain⟨t,rfl⟩:=rx;obtain⟨t',rfl⟩:=ry;exact rule i j t t' s _ _ ⟨.bl (g i j),H,I,rfl,q⟩
def CDiv(i j:Int):Prop:=0 < j/\j < 1073741824
def CPow(i j:Int):Prop:=0<=j/\j<=1000000/\i.natAbs < 2 ^ 64
def CMul(i j:Int):Prop:=(-(2 ^ 64) < i/\i < 2 ^ 64)\/(-(2 ^ 64) < j/\j < 2 ^ 64)
theorem CMul.ok{i j:Int}(h:CMul i j):IntMulOk i j:=by
 rcases h with ⟨h1,h2⟩ | ⟨h1,h2⟩
 ·exact .of_left (intBits_le_64 h1 h2)
 ·exact .of_right (intBits_le_64 h1 h2)
theorem j2i:OpR X (binaryOp .Add) (rI0 fun i j=> .int (i+j)):=opI0 fun _ _ _ _ _ _ _ q=>add_int q
theorem k1b:OpR X (binaryOp .Mult) (rI CMul fun i j=> .int (i * j)):=opI fun _ _ _ _ _ _ _ hc q=>mul_int q hc.ok
theorem j2d:OpR X (binaryOp .FloorDiv) (rI CDiv fun i j=> .int (i / j)):=opI fun i j _ _ _ _ _ hc q=>by
 have h1:(0:Int) < j:=hc.1;have h2:j < 1073741824:=hc.2;exact floordiv_int (by omega) (by rw [Int.fdiv_eq_ediv_of_nonneg i (by omega)];exact q) (.inl (PyProof.noPylong_small (by omega)))
theorem j1i:OpR X (binaryOp .Mod) (rI (fun _ j=>0 < j) fun i j=> .int (i % j)):=opI fun i j _ _ _ _ _ hc q=>by
 have h1:(0:Int) < j:=hc;exact mod_int' (by omega) (by rw [Int.fmod_eq_emod_of_nonneg i (by omega)];exact q)
theorem k48:OpR X (binaryOp .Pow) (rI CPow fun i j=> .int (i ^ j.toNat)):=opI fun _ _ _ _ _ _ _ hc q=>pow_int_small hc.1 hc.2.1 hc.2.2 q
end
def scal:V->V->Bool
 | .non,.non=>true | .non,.int _=>true | .int _,.non=>true | .non,.bl _=>true | .bl _,.non=>true | .non,.str _=>true | .str _,.non=>true
 | .int _,.int _=>true | .bl _,.bl _=>true | .str _,.str _=>true | .byt _,.byt _=>true
 | .int _,.str _=>true | .str _,.int _=>true | .bl _,.str _=>true | .str _,.bl _=>true
 | _,_=>false
def rEq:R2:=fun x y H Q=>scal x y=true/\Q (.bl (decide (x=y))) H
def rNe:R2:=fun x y H Q=>scal x y=true/\Q (.bl (!decide (x=y))) H
theorem k6z{i j:Int}:decide (V.int i=V.int j)=(i == j):=by
 rw [Cr];simp
theorem k47{i j:Bool}:decide (V.bl i=V.bl j)=(i == j):=by
 rw [Cr];simp
theorem k34{i j:Str}:decide (V.str i=V.str j)=(i == j):=by
 rw [Cr];simp
theorem k4d{i j:Array UInt8}:decide (V.byt i=V.byt j)=(i.toList == j.toList):=by
 rw [Cr];cases i;cases j;simp
section
variable{X:Cx}{a b c:Expr}{ta tb tc:TE}{pos:Pos}
theorem j1a{pins:List (Addr×Obj)}{σ:St}{H:Hp}{s:Shared}{Q:VK}{k k':Bool}(I:Inv X pins σ H s)(q:Q (.bl k) H)(e:k=k'):EP X pins σ Q (.bool k') s:=by
 subst e;exact⟨.bl k,H,I,rfl,q⟩
theorem j6y:OpR X (compareOp .Eq) rEq:=by
 intro pins s σ H x y v u Q I rx ry h;obtain⟨hs,q⟩:=h;cases x with
 | non=>
  cases rx;cases y with
  | non=>cases ry;exact PySem.EqNone.eq_none_none (j1a I q (by simp))
  | bl j=>cases ry;exact PySem.EqNone.eq_none_bool (j1a I q (by simp))
  | int j=>obtain⟨t',rfl⟩:=ry;exact PySem.EqNone.eq_none_int (j1a I q (by simp))
  | str j=>obtain⟨t',rfl⟩:=ry;exact PySem.EqNone.eq_none_str (j1a I q (by simp))
  | _=>exact absurd (show false=true from hs) Al
 | bl i=>
  cases rx;cases y with
  | non=>cases ry;exact PySem.EqNone.eq_bool_none (j1a I q (by simp))
  | bl j=>cases ry;exact eq_bool (j1a I q k47)
  | str j=>obtain⟨t',rfl⟩:=ry;exact PySem.EqMixed.eq_bool_str (j1a I q (by simp))
  | _=>exact absurd (show false=true from hs) Al
 | int i=>
  obtain⟨t,rfl⟩:=rx;cases y with
  | non=>cases ry;exact PySem.EqNone.eq_int_none (j1a I q (by simp))
  | int j=>obtain⟨t',rfl⟩:=ry;exact eq_int (j1a I q k6z)
  | str j=>obtain⟨t',rfl⟩:=ry;exact PySem.EqMixed.eq_int_str (j1a I q (by simp))
  | _=>exact absurd (show false=true from hs) Al
 | str i=>
  obtain⟨t,rfl⟩:=rx;cases y with
  | non=>cases ry;exact PySem.EqNone.eq_str_none (j1a I q (by simp))
  | bl j=>cases ry;exact PySem.EqMixed.eq_str_bool (j1a I q (by simp))
  | int j=>obtain⟨t',rfl⟩:=ry;exact PySem.EqMixed.eq_str_int (j1a I q (by simp))
  | str j=>obtain⟨t',rfl⟩:=ry;exact eq_str (j1a I q k34)
  | _=>exact absurd (show false=true from hs) Al
 | byt i=>
  obtain⟨t,rfl⟩:=rx;cases y with
  | byt j=>obtain⟨t',rfl⟩:=ry;exact PySem.W.eq_bytes (j1a I q k4d)
  | _=>exact absurd (show false=true from hs) Al
 | _=>cases y <;> exact absurd (show false=true from hs) Al
theorem k3d:OpR X (compareOp .NotEq) rNe:=by
 intro pins s σ H x y v u Q I rx ry h;obtain⟨hs,q⟩:=h;cases x with
 | non=>
  cases rx;cases y with
  | non=>cases ry;exact PySem.EqNone.ne_none_none (j1a I q (by simp))
  | bl j=>cases ry;exact PySem.EqNone.ne_none_bool (j1a I q (by simp))
  | int j=>obtain⟨t',rfl⟩:=ry;exact PySem.EqNone.ne_none_int (j1a I q (by simp))
  | str j=>obtain⟨t',rfl⟩:=ry;exact PySem.EqNone.ne_none_str (j1a I q (by simp))
  | _=>exact absurd (show false=true from hs) Al
 | bl i=>
  cases rx;cases y with
  | non=>cases ry;exact PySem.EqNone.ne_bool_none (j1a I q (by simp))
  | bl j=>cases ry;exact ne_bool (j1a I q (congrArg not k47))
  | str j=>obtain⟨t',rfl⟩:=ry;exact PySem.EqMixed.ne_bool_str (j1a I q (by simp))
  | _=>exact absurd (show false=true from hs) Al
 | int i=>
  obtain⟨t,rfl⟩:=rx;cases y with
  | non=>cases ry;exact PySem.EqNone.ne_int_none (j1a I q (by simp))
  | int j=>obtain⟨t',rfl⟩:=ry;exact ne_int (j1a I q (congrArg not k6z))
  | str j=>obtain⟨t',rfl⟩:=ry;exact PySem.EqMixed.ne_int_str (j1a I q (by simp))
  | _=>exact absurd (show false=true from hs) Al
 | str i=>
  obtain⟨t,rfl⟩:=rx;cases y with
  | non=>cases ry;exact PySem.EqNone.ne_str_none (j1a I q (by simp))
  | bl j=>cases ry;exact PySem.EqMixed.ne_str_bool (j1a I q (by simp))
  | int j=>obtain⟨t',rfl⟩:=ry;exact PySem.EqMixed.ne_str_int (j1a I q (by simp))
  | str j=>obtain⟨t',rfl⟩:=ry;exact ne_str (j1a I q (congrArg not k34))
  | _=>exact absurd (show false=true from hs) Al
 | byt i=>
  obtain⟨t,rfl⟩:=rx;cases y with
  | byt j=>obtain⟨t',rfl⟩:=ry;exact PySem.W.ne_bytes (j1a I q (congrArg not k4d))
  | _=>exact absurd (show false=true from hs) Al
 | _=>cases y <;> exact absurd (show false=true from hs) Al
theorem q42:OpR X (compareOp .Lt) (rI0 fun i j=> .bl (decide (i < j))):=opB0 fun _ _ _ _ _ _ _ q=>lt_int q
theorem q47:OpR X (compareOp .Gt) (rI0 fun i j=> .bl (decide (j < i))):=opB0 fun _ _ _ _ _ _ _ q=>gt_int q
theorem q73:OpR X (compareOp .GtE) (rI0 fun i j=> .bl (decide (j<=i))):=opB0 fun _ _ _ _ _ _ _ q=>ge_int q
theorem k66:OpR X (compareOp .In) (fun x y H Q=>∃ i j,x = .str i/\y = .str j/\Q (.bl (!(Builtin.Str.occurrences j i 0 j.length 1).isEmpty)) H):=by
 intro pins s σ H x y v u Q I rx ry h;obtain⟨i,j,rfl,rfl,q⟩:=h;obtain⟨t,rfl⟩:=rx;obtain⟨t',rfl⟩:=ry;exact in_str (j1a I q rfl)
theorem q21{op:CmpOp}{r:R2}(ho:OpR X (compareOp op) r)(ha:PE X a ta)(hb:PE X b tb)(hm:behindInMarks op b=false):PE X (.Compare a [op] [b] pos) (tOp r ta tb):=by
 intro pins s σ H Q I h;exact wpAny_Compare1 (binT ha hb I h fun v u s2 x y H2 I2 rx ry q=>ho pins s2 σ H2 x y v u Q I2 rx ry q) hm
def q60(t:TE):TT:=fun σ H Q=>t σ H fun x H'=>∃ k,x = .bl k/\Q k H'
theorem q2e{op:CmpOp}{r:R2}(ho:OpR X (compareOp op) r)(ha:PE X a ta)(hb:PE X b tb)(hm:behindInMarks op b=false):PT X (.Compare a [op] [b] pos) (q60 (tOp r ta tb)):=by
 intro pins s σ H Q I h;refine wpAny_isTrue_Compare1 (thn (ha pins s σ H _ I h) fun v s1 ⟨x,H1,I1,r1,q1⟩=>thn (hb pins s1 σ H1 _ I1 q1) fun u s2 ⟨y,H2,I2,r2,q2⟩=>
  thn (ho pins s2 σ H2 x y v u _ I2 r1 r2 q2) fun c s3 ⟨z,H3,I3,r3,k,e,q3⟩=>?_) hm
 subst e;cases r3;exact wpAny_truthy_bool ⟨H3,I3,q3⟩
def TruV(K:PySem.W.Frag)(x:V)(H:Hp)(k:Bool):Prop:=
 match x with
 | .non=>k=false
 | .bl b=>k=b
 | .int i=>k=(i != 0)
 | .str y=>y.length<=sizeLine/\k=((y.length:Int) != 0)
 | .byt y=>y.size<=sizeLine/\k=((y.size:Int) != 0)
 | .ref p=>(∃ xs,SqL K H p xs/\k = !xs.isEmpty)\/(∃ xs,SqT K H p xs/\k = !xs.isEmpty)\/∃ kvs,H p=some (.dK kvs)/\k = !kvs.isEmpty
 | _=>False
theorem k2m{κ:Type}{kvs:List (κ×V)}{vs:List (κ×Value)}(r:KV kvs vs):(!vs.isEmpty) = !kvs.isEmpty:=by
 cases r <;> rfl
theorem j67{xs:List V}{its:List Value}(r:Vals xs its):(!its.toArray.isEmpty) = !xs.isEmpty:=by
 cases r <;> simp
theorem j63:(sizeLine:Nat) < 2 ^ 63:=by rw [sizeLine_eq];decide
theorem q0t:TruR X (fun x H Q=>∃ k,TruV X.K x H k/\Q k H):=by
 intro pins s σ H x v Q I rx h;obtain⟨k,e,q⟩:=h;have hl:=j63;have hs:sizeLine=16777216:=sizeLine_eq;cases x with
 | non=>
  cases rx;have e':k=false:=e;subst e';exact truthy_none ⟨H,I,q⟩
 | bl b=>
  cases rx;have e':k=b:=e;subst e';exact wpAny_truthy_bool ⟨H,I,q⟩
 | int i=>
  obtain⟨t,rfl⟩:=rx;have e':k=(i != 0):=e;subst e';exact PySem.P.truthy_int ⟨H,I,q⟩
 | str y=>
  obtain⟨t,rfl⟩:=rx;obtain⟨hy,e'⟩:y.length<=sizeLine/\k=((y.length:Int) != 0):=e;subst e';exact PySem.P.truthy_str (by omega) ⟨H,I.tok _,q⟩
 | byt y=>
  obtain⟨t,rfl⟩:=rx;obtain⟨hy,e'⟩:y.size<=sizeLine/\k=((y.size:Int) != 0):=e;subst e';exact PySem.W.truthy_bytes (by omega) ⟨H,I.tok _,q⟩
 | ref p=>
  cases rx;have e':(∃ xs,SqL X.K H p xs/\k = !xs.isEmpty)\/(∃ xs,SqT X.K H p xs/\k = !xs.isEmpty)\/∃ kvs,H p=some (.dK kvs)/\k = !kvs.isEmpty:=e
  rcases e' with ⟨xs,hx,e'⟩ | ⟨xs,hx,e'⟩ | ⟨kvs,hx,e'⟩
  ·subst e';obtain⟨its,r,pl,hz⟩:=I.list hx;have hlen:=r.length;exact wpAny_truthy_list pl.isList (by simp only [Aq];omega) ⟨H,I.tok _,by rw [j67 r];exact q⟩
  ·subst e';obtain⟨its,r,pl,hz⟩:=I.tuple hx;have hlen:=r.length;exact truthy_tuple pl (by simp only [Aq];omega) ⟨H,I.tok _,by rw [j67 r];exact q⟩
  ·subst e';obtain⟨hz,hS,vs,r,m⟩:kvs.length<=sizeLine/\(p == sysModules)=false/\∃ vs,KV kvs vs/\s.heap.DictOf (j0p X.prog X.w) p vs:=I.hok p _ hx;have hlen:kvs.length=vs.length:=Paired.length r;exact wpAny_truthy_dict hS m (by omega) ⟨H,I.tok _,by rw [k2m r];exact q⟩
 | _=>exact(show False from e).elim
theorem k9e(ha:PE X a ta)(he:∀ whole,isTrue a X.env whole=(do let v <- whole;standAt a.pos;holding [v] (truthy v))) :
  PT X a (fun σ H Q=>ta σ H fun x H'=>∃ k,TruV X.K x H' k/\Q k H'):=by
 intro pins s σ H Q I h;exact isTrue_plain (thn (ha pins s σ H _ I h) fun v s1 ⟨x,H1,I1,r1,q1⟩=>q0t pins s1 σ H1 x v Q I1 r1 q1) (he _)
theorem j4v:OpR X (binaryOp .Add) (fun x y H Q=>∃ i j,x = .str i/\y = .str j/\i.length+j.length<=sizeLine/\Q (.str (i++j)) H):=by
 intro pins s σ H x y v u Q I rx ry h;obtain⟨i,j,rfl,rfl,hz,q⟩:=h;obtain⟨t,rfl⟩:=rx;obtain⟨t',rfl⟩:=ry;exact add_str (fun t' tk=>⟨.str (i++j),H,I.tok _,⟨_,rfl⟩,q⟩) hz
theorem vals1{x:V}{us:List Value}(r:Vals [x] us):∃ u,us=[u]/\RelV x u:=by
 cases r with
 | cons r1 r2=>cases r2;exact⟨_,rfl,r1⟩
theorem vals2{x y:V}{us:List Value}(r:Vals [x,y] us):∃ u w',us=[u,w']/\RelV x u/\RelV y w':=by
 cases r with
 | cons r1 r2=>
  cases r2 with
  | cons r3 r4=>cases r4;exact⟨_,_,rfl,r1,r3⟩
theorem j55(hc:X.calm=true):j2z X (.builtin "max") (fun xs H Q=>∃ i j,xs=[.int i,.int j]/\Q (.int (if j > i then j else i)) H):=by
 intro pins s σ H xs us Q I r h;obtain⟨i,j,rfl,q⟩:=h;obtain⟨u,w',rfl,⟨t,rfl⟩,⟨t',rfl⟩⟩:=vals2 r;refine max_two_ints (I.ok.hd hc) fun h' tk k=>⟨_,H,I.kept k,?_,q⟩
 by_cases hj:j > i
 ·rw [if_pos hj,if_pos hj];exact⟨_,rfl⟩
 ·rw [if_neg hj,if_neg hj];exact⟨_,rfl⟩
end
end L2
namespace L2
open PySem PySem.Spec PyProof.Rows
structure ObjM(h:Heap)(x dx C:Addr)(mA:Str->Option Value):Prop where
 obj:h.get? x=some (PySem.W.instObj C dx)
 ns:h.Ns1 dx mA
 ne:dx≠x
theorem k6k{h:Heap}{dx:Addr}{mA:Str->Option Value}(n:h.Ns1 dx mA):∃ od,h.get? dx=some od/\∀ name,PySem.W.lookIn name od=some (mA name):=by
 obtain⟨o,es,ep,ho,hd,hk,_,hm⟩:=n;refine⟨o,ho,fun name=>?_⟩;have e:=hm name;unfold nsFind findBy at e;rw [<- Array.find?_toList] at e;unfold PySem.W.lookIn;rw [hd]
 dsimp only
 split
 ·rename_i y q;rw [q] at e;exact congrArg some e
 ·rename_i q;rw [q] at e;have a:es.toList.any (·.refKey)=false:=by
   rw [List.any_eq_false];intro y hy;obtain⟨z,t,hkey⟩:=hk y (Array.mem_toList_iff.mp hy);simp [DictEntry.refKey,hkey]
  have a':¬ es.toList.any (·.refKey)=true:=by rw [a];exact Al
  rw [if_neg a'];exact congrArg some e
theorem ObjM.look{h:Heap}{x dx C:Addr}{mA:Str->Option Value}(I:ObjM h x dx C mA):∃ od,PySem.W.InstAt h x (PySem.W.instObj C dx) C (some od)/\∀ name,PySem.W.lookIn name od=some (mA name):=
 let ⟨od,ho,hl⟩:=k6k I.ns
 ⟨od,⟨I.obj,rfl,rfl,ho⟩,hl⟩
section
variable{prog:Program}{w:World}{A:Around}{E:Value->Shared->Prop}{s:Shared}{K:PySem.W.Frag}{x dx C f:Addr}{mA:Str->Option Value}{name:Str}{v:Value}
end
theorem RelO.some_of{v:V}{o:Option Value}(r:RelO (some v) o):∃ u,o=some u/\RelV v u:=by
 cases o with
 | none=>exact(show False from r).elim
 | some u=>exact⟨u,rfl,r⟩
section
variable{P:Program}{w:World}{H H':Hp}{h h':Heap}{a C dx:Addr}{fs fs':List (Str×V)}
theorem q1g(hok:HOk P w H h)(e:H a=some (.ins C dx fs)):∃ mA,ObjM h a dx C mA/\(∀ f,RelO (fs.lookup f) (mA f))/\PySem.Within mA (fs.map (·.1))/\fs.length<=1000/\H dx=some (.own a):=by
 obtain⟨d,z,ne,ob,mA,n,r,q⟩:=(show ObjOk P w H h a (.ins C dx fs) from hok a _ e);exact⟨mA,⟨ob,n,ne⟩,r,q,z,d⟩
end
structure Cls(K:PySem.W.Frag)(C:Addr):Prop where
 pg:PySem.W.plainGet K C Str.empty=true
 hd:PySem.W.hasDictIn K C=true
 po:PySem.W.plainOver K C=true
 sa:PySem.W.findIn K (.ref C) "__setattr__" = some (some (.builtin "object.__setattr__"))
theorem Cls.get{K:PySem.W.Frag}{C:Addr}(c:Cls K C)(f:Str):PySem.W.plainGet K C f=true:=c.pg
section
variable{X:Cx}{pins:List (Addr×Obj)}{σ:St}{H:Hp}{s:Shared}{a C dx:Addr}{fs:List (Str×V)}{f:Str}{v:V}{A:Around}{E:Value->Shared->Prop}
end
section
variable{X:Cx}{o e value:Expr}{f:Str}{pos pos' tpos:Pos}{ta tv:TE}
end
section
variable{X:Cx}{pins:List (Addr×Obj)}{σ:St}{H:Hp}{s:Shared}{A:Around}{E:Value->Shared->Prop}{Q:Value->Shared->Prop}{c:Value}{b:Bool}
inductive TyOf (K:PySem.W.Frag) (H:Hp):V->Value->Prop where
 | non:TyOf K H .non (.type "NoneType")
 | bl (x:Bool):TyOf K H (.bl x) (.type "bool")
 | int (i:Int):TyOf K H (.int i) (.type "int")
 | str (x:Str):TyOf K H (.str x) (.type "str")
 | flt (x:UInt64):TyOf K H (.flt x) (.type "float")
 | lst {a:Addr} {xs:List V} (e:H a=some (.lst xs)):TyOf K H (.ref a) (.type "list")
 | frz {a:Addr} {o:Obj} {xs:List V} (e:H a=some (.frz o (.lst xs))):TyOf K H (.ref a) (.type "list")
 | tup {a:Addr} {xs:List V} (e:H a=some (.tup xs)):TyOf K H (.ref a) (.type "tuple")
 | dK {a:Addr} {kvs:List (Key×V)} (e:H a=some (.dK kvs)):TyOf K H (.ref a) (.type "dict")
 | dT {a:Addr} {kvs:List (List Key×V)} (e:H a=some (.dT kvs)):TyOf K H (.ref a) (.type "dict")
 | ins {a C dx:Addr} {fs:List (Str×V)} (e:H a=some (.ins C dx fs)) (cl:Cls K C) (ha:PySem.W.findIn K (.ref C) "__class__" = some (some (.builtin "object.__class__")))
   (hn:PySem.W.specialIn K (.builtin "object.__class__") "__get__" = some (some (.builtin "getset_descriptor.__get__"))) (htk:PySem.W.takesIn K (.builtin "object.__class__")=some true)
   (hm:PySem.W.mroIn K C (.type "object")=some true):TyOf K H (.ref a) (.ref C)
theorem k5j{x:V}{u t:Value}(I:Inv X pins σ H s)(rx:RelV x u)(ty:TyOf X.K H x t)(e:PySem.W.kitOne X.K t c=some b)(h:∀ tk,Q (.bool b) {s with toks:=tk}) :
  wpAny (model X.prog X.w) A (call (.builtin "isinstance") [u,c]) Q E s:=by
 cases ty with
 | non=>cases (show u=Value.none from rx);exact PySem.W.kia_one PySem.W.kitx_none I.kIn True.intro e (fun z=>nomatch z) h
 | bl y=>cases (show u=Value.bool y from rx);exact PySem.W.kia_one PySem.W.kitx_bool I.kIn True.intro e (fun z=>nomatch z) h
 | int i=>obtain⟨t,q⟩:=(show ∃ t,u=Value.int i t from rx);cases q;exact PySem.W.kia_one PySem.W.kitx_int I.kIn True.intro e (fun z=>nomatch z) h
 | str y=>obtain⟨t,q⟩:=(show ∃ t,u=Value.str y t from rx);cases q;exact PySem.W.kia_one PySem.W.kitx_str I.kIn True.intro e (fun z=>nomatch z) h
 | flt y=>obtain⟨t,q⟩:=(show ∃ t,u=Value.float y t from rx);cases q;exact PySem.W.kia_one PySem.W.kitx_float I.kIn True.intro e (fun z=>nomatch z) h
 | @lst a xs ea=>
  cases (show u=Value.ref a from rx);obtain⟨_,_,n,_,h1⟩:=(show ObjOk X.prog X.w H s.heap a (.lst xs) from I.hok a _ ea);exact PySem.W.kia_one PySem.W.kitx_list I.kIn ⟨_,h1,rfl⟩ e (fun z=>nomatch z) h
 | @frz a ob xs ea=>
  cases (show u=Value.ref a from rx);obtain⟨_,_,_,n,_,h1⟩:=(show ObjOk X.prog X.w H s.heap a (.frz ob (.lst xs)) from I.hok a _ ea);exact PySem.W.kia_one PySem.W.kitx_list I.kIn ⟨_,h1,rfl⟩ e (fun z=>nomatch z) h
 | @tup a xs ea=>
  cases (show u=Value.ref a from rx);obtain⟨_,_,_,p⟩:=(show ObjOk X.prog X.w H s.heap a (.tup xs) from I.hok a _ ea);obtain⟨o,h1,h2,_⟩:=p;exact PySem.W.kia_one PySem.W.kitx_tuple I.kIn ⟨o,h1,h2⟩ e (fun z=>nomatch z) h
 | @dK a kvs ea=>
  cases (show u=Value.ref a from rx);obtain⟨_,_,vs,_,p⟩:=(show ObjOk X.prog X.w H s.heap a (.dK kvs) from I.hok a _ ea);obtain⟨o,es,ep,h1,h2,_⟩:=p;exact PySem.W.kia_one PySem.W.kitx_dict I.kIn ⟨o,h1,h2.1⟩ e (fun z=>nomatch z) h
 | @dT a kvs ea=>
  cases (show u=Value.ref a from rx);obtain⟨_,_,xs,_,o,es,ep,h1,h2,_⟩:=(show ObjOk X.prog X.w H s.heap a (.dT kvs) from I.hok a _ ea);exact PySem.W.kia_one PySem.W.kitx_dict I.kIn ⟨o,h1,h2.1⟩ e (fun z=>nomatch z) h
 | @ins a C dx fs ea cl ha hn htk hm=>
  cases (show u=Value.ref a from rx);obtain⟨mA,O,_⟩:=q1g I.hok ea;obtain⟨od,J,_⟩:=O.look;exact PySem.W.kia_one (PySem.W.kitx_own (cl.get _) cl.hd ha hn htk hm) I.kIn J e (fun z=>nomatch z) h
end
end L2
namespace L2
open PySem PySem.Spec PyProof.Rows
structure Room(k:Nat)(A:Around):Prop where
 hd:A.handled=none
 dp:A.depth+3 * k+5 < recursionLimit
 un:A.units+16 * k+200 < cLine
theorem Room.mono{j k:Nat}{A:Around}(r:Room k A)(h:j<=k):Room j A:=⟨r.hd,by have:=r.dp;omega,by have:=r.un;omega⟩
theorem Room.deeper{k:Nat}{A:Around}(r:Room (k+1) A)(env:Env):Room k (A.deeper env):=
 ⟨r.hd,by have:=r.dp;show A.depth+1+3 * k+5 < _;omega,by have:=r.un;show A.units+3+16 * k+200 < _;omega⟩
theorem Room.depth{k:Nat}{A:Around}(r:Room k A):A.depth < recursionLimit:=by have:=r.dp;omega
def tNil:TA:=fun _ H Q=>Q [] H
def q4w(ta:TE)(tr:TA):TA:=fun σ H Q=>ta σ H fun x H1=>tr σ H1 fun xs H2=>Q (x :: xs) H2
section
variable{X:Cx}{e:Expr}{es:List Expr}{te:TE}{t:TA}{pos:Pos}
theorem q4h:PA X [] tNil:=fun _ _ _ _ H Q I h=>Calls.spliced_nil ⟨[],H,I,.nil,h⟩
theorem q3f(ha:PE X e te)(hr:PA X es t)(hs:starEach (e :: es) X.env=(false,eval e X.env) :: starEach es X.env:=by rfl):PA X (e :: es) (q4w te t):=by
 intro pos pins s σ H Q I h;rw [hs];show wpAny _ _ (spliced ((false,eval e X.env) :: backTo pos (starEach es X.env))) _ _ s;refine Calls.spliced_cons (thn (ha pins s σ H _ I h) fun u s1 ⟨x,H1,I1,r1,q1⟩=>?_);exact thn (hr pos pins s1 σ H1 _ I1 q1) fun us s2 ⟨xs,H2,I2,r2,q2⟩=>⟨x :: xs,H2,I2,.cons r1 r2,q2⟩
def tTup(t:TA):TE:=fun σ H Q=>t σ H fun xs H1=>xs.length<=sizeLine/\∀ p,H1 p=none->Q (.ref p) (upd H1 p (.tup xs))
def tLst(t:TA):TE:=fun σ H Q=>t σ H fun xs H1=>xs.length<=sizeLine/\∀ p,H1 p=none->Q (.ref p) (upd H1 p (.lst xs))
theorem q34{x1}(h:PA X es t):PE X (.Tuple es x1 pos) (tTup t):=by
 intro pins s σ H Q I hq;refine wpAny_Tuple_spliced (thn (h pos pins s σ H _ I hq) fun us s1 ⟨xs,H1,I1,r,z,q⟩=>⟨by rw [<- r.length];exact z,?_⟩);have hf:H1 s1.heap.objs.size=none:=I1.hok.fresh (Ah _);refine⟨.ref s1.heap.objs.size,upd H1 s1.heap.objs.size (.tup xs),I1.laid (t':=s1.toks) (fun b u e=>Ae _ e) (Ah _) ?_,rfl,q _ hf⟩;exact⟨z,us,r,⟨_,Am _ rfl,rfl,_,rfl⟩⟩
theorem q5n(h:PA X es t):PE X (.List es pos) (tLst t):=by
 intro pins s σ H Q I hq;refine wpAny_List_spliced (thn (h pos pins s σ H _ I hq) fun us s1 ⟨xs,H1,I1,r,z,q⟩=>⟨by rw [<- r.length];exact z,?_⟩);have hf:H1 s1.heap.objs.size=none:=I1.hok.fresh (Ah _);refine⟨.ref s1.heap.objs.size,upd H1 s1.heap.objs.size (.lst xs),I1.laid (t':=s1.toks) (fun b u e=>Ae _ e) (Ah _) ?_,rfl,q _ hf⟩;exact⟨z,us,0,r,Am _ rfl⟩
end
abbrev Sp:=List V->Hp->VK->XK->Prop
abbrev CXT:=List Env->Hp->Shared->XK->Value->Shared->Prop
structure Env0(P:Program)(w:World)(K:PySem.W.Frag)(mg:Str->Option Value)(base:Heap)(A:Around)(outer:List Env)(s:Shared)(H:Hp):Prop where
 frames:A.frames=some outer
 mod:Mod K mg base
 bs:∀ b o,base.get? b=some o->s.heap.get? b=some o/\H b=none
 bsz:base.objs.size<=s.heap.objs.size
 funs:s.heap.FunFrames base outer
 frf:∀ b∈frs outer,H b=none
 hok:HOk P w H s.heap
 bare:AllBare s.gens
def CE(outer:List Env)(P:Program)(w:World)(H:Hp)(s:Shared)(Q:VK)(u:Value)(s':Shared):Prop:=
 ∃ v H',s'.os=s.os/\AllBare s'.gens/\Un (frs outer) [] H H' s.heap s'.heap/\HOk P w H' s'.heap/\RelV v u/\Q v H'
def CR(CX:CXT)(outer:List Env)(P:Program)(w:World)(H:Hp)(s:Shared)(Q:VK)(E:XK)(r:Result)(s':Shared):Prop:=
 match r with
 | .ok (.ret u)=>CE outer P w H s Q u s'
 | .ok _=>False
 | .error e=>CX outer H s E e s'
structure FnOk(P:Program)(w:World)(K:PySem.W.Frag)(mg:Str->Option Value)(base:Heap)(CX:CXT)(k:Nat)(f:Addr)(fd:FuncData)(ps:List Str)(sp:Sp):Prop where
 len:∀ vs H Q E,sp vs H Q E->vs.length=ps.length
 run:∀(A:Around) (outer:List Env) (s:Shared) (H:Hp) (args:Args) (us:List Value) (vs:List V) (Q:VK) (E:XK),Room k A->Env0 P w K mg base A outer s H->BindsTo s fd args (ps.zip us)->Vals vs us->sp vs H Q E ->
  codeAny (model P w) A (.call (.ref f) args) (CR CX outer P w H s Q E) s
theorem FnOk.mono{P:Program}{w:World}{K:PySem.W.Frag}{mg:Str->Option Value}{base:Heap}{CX:CXT}{j k:Nat}{f:Addr}{fd:FuncData}{ps:List Str}{sp:Sp}(F:FnOk P w K mg base CX j f fd ps sp)(h:j<=k) :
  FnOk P w K mg base CX k f fd ps sp:=⟨F.len,fun A outer s H args us vs Q E hr=>F.run A outer s H args us vs Q E (hr.mono h)⟩
section
variable{X:Cx}{pins:List (Addr×Obj)}{σ:St}{H:Hp}{s s':Shared}
theorem Inv.env0(I:Inv X pins σ H s):Env0 X.prog X.w X.K X.mg X.base X.A X.stack s H:=
 ⟨I.ok.frames,I.ok.mod,I.bs,Bv I.ok.bsz I.sz,I.stack,I.stkFree,I.hok,I.bare⟩
theorem Inv.after{Q:VK}{u:Value}(I:Inv X pins σ H s)(h:CE X.stack X.prog X.w H s Q u s'):EP X pins σ Q u s':=by
 obtain⟨v,H',os,bare,un,hok,r,q⟩:=h;obtain⟨hh,g,d,t,os'⟩:=s';obtain rfl:os'=s.os:=os;exact⟨v,H',I.call (h':=hh) (g':=g) (d':=d) (t':=t) (ch:=[]) un hok bare (fun b z=>absurd z (by simp)),r,q⟩
end
def q52(sp:Sp)(dvs:List V)(E:XK)(t:TA):TE:=fun σ H Q=>t σ H fun vs H1=>sp (vs++dvs) H1 Q E
def Binds(K:PySem.W.Frag)(fd:FuncData)(ps:List Str)(ds:List Value):Prop:=
 ∀(s:Shared) (us:List Value),K.In s.heap->(us++ds).length=ps.length->BindsTo s fd ⟨us,[]⟩ (ps.zip (us++ds))
theorem Binds.all{K:PySem.W.Frag}{fd:FuncData}{ps:List Str}(h:∀ us:List Value,us.length=ps.length->bindArgs fd ⟨us,[]⟩=pure (ps.zip us)):Binds K fd ps []:=fun s us _ hl=>by
 rw [Ba] at hl ⊢;exact .of_eq (h us hl)
def j4h(CX:CXT)(X:Cx)(E:XK):Prop:=∀(pins:List (Addr×Obj)) (σ:St) (H:Hp) (s:Shared) (e:Value) (s':Shared),Inv X pins σ H s->CX X.stack H s E e s'->X.xe e s'
section
variable{X:Cx}{CX:CXT}{k:Nat}{f C:Addr}{fd:FuncData}{ps:List Str}{sp:Sp}{dvs:List V}{ds:List Value}{E:XK}{x m:Str}{p pos apos:Pos}{e o:Expr}{es:List Expr}{ta:TE}{t:TA}
theorem q43{pins:List (Addr×Obj)}{σ:St}{H:Hp}{s:Shared}{Q:VK}{us:List Value}{vs:List V}(F:FnOk X.prog X.w X.K X.mg X.base CX k f fd ps sp)(hr:Room k X.A)(hb:Binds X.K fd ps ds)(hd:Vals dvs ds)(hx:j4h CX X E)
  (I:Inv X pins σ H s) (r:Vals vs us) (h:sp (vs++dvs) H Q E):wpAny (model X.prog X.w) X.A (call (.ref f) us) (EP X pins σ Q) X.xe s:=by
 have r2:Vals (vs++dvs) (us++ds):=r.append hd;have hl:(us++ds).length=ps.length:=by rw [<- r2.length];exact F.len _ _ _ _ h
 refine wpAny_call (codeAny_mono (F.run X.A X.stack s H ⟨us,[]⟩ (us++ds) (vs++dvs) Q E hr I.env0 (hb s us I.kIn hl) r2 h) fun r s' hq=>?_);cases r with
 | error e=>exact hx pins σ H s e s' I hq
 | ok fl=>
  cases fl with
  | ret u=>exact I.after hq
  | next=>exact False.elim hq
  | brk=>exact False.elim hq
  | cont=>exact False.elim hq
theorem q1w(F:FnOk X.prog X.w X.K X.mg X.base CX k f fd ps sp)(hr:Room k X.A)(hg:Gl X x)(hm:X.mg x=some (.ref f))(hk:PySem.W.keepIn X.K (.ref f)=true)(hb:Binds X.K fd ps ds)(hd:Vals dvs ds)(hx:j4h CX X E)
  (ha:PA X (e :: es) t) (hdb:(x == ("__debug__" : Str))=false:=by decide) (he:starEach (e :: es) X.env=(false,eval e X.env) :: starEach es X.env:=by rfl) (hpl:(backTo pos (starEach es X.env)).any (·.1)=false:=by rfl) :
  PE X (.Call (.Name x p) (e :: es) [] pos) (q52 sp dvs E t):=by
 intro pins s σ H Q I h;refine wpAny_Call_Name_kw (k0i I hg hm ?_ hdb);refine PySem.W.callWith_K (h₀:=X.base) I.ok.mod.kin hk (thn (ha pos pins s σ H _ I h) fun us s1 ⟨vs,H1,I1,r,q⟩=>⟨I1.kIn,?_⟩) he hpl;exact q43 F hr hb hd hx I1 r q
end
section
variable{X:Cx}{CX:CXT}{k:Nat}{f C:Addr}{fd:FuncData}{ps ks:List Str}{sp:Sp}{E:XK}{x m:Str}{p pos apos kpos:Pos}{e o:Expr}{es:List Expr}{kws:List Keyword}{te ta:TE}{t tk:TA}{nm:Option Str}
variable{g:List Value->List Value->List Value}{gV:List V->List V->List V}
end
structure FnScope(N P:List Str)(sc:Scope):Prop where
 kind:sc.kind = .function
 co:sc.isCoroutine=false
 gen:sc.isGenerator=false
 nd:N.Nodup
 pre:N.take P.length=P
 par:∀ x∈P,sc.names.lookup x=some .local\/sc.names.lookup x=some .cell
 nofree:∀ y∈sc.names,y.2 ≠ .free
theorem j8s{kindOf:Str->Option NameKind}{x:Str}:∀{binds:List (Str×Value)} {m:Str->Option Value},(∀ v,(x,v)∉binds)->bindL kindOf binds m x=m x
 | [],_,_=>rfl
 | (n,v) :: r,m,h=>by
  unfold bindL;rw [j8s fun w hw=>h w (Ao _ hw)]
  split
  ·have:x≠n:=by rintro rfl;exact h v Au
   simp [this]
  ·rfl
theorem j9p{kindOf:Str->Option NameKind}{x:Str}:∀{binds:List (Str×Value)} {m:Str->Option Value},(∀ v,(x,v)∉binds)->bindC kindOf binds m x=m x
 | [],_,_=>rfl
 | (n,v) :: r,m,h=>by
  unfold bindC;rw [j9p fun w hw=>h w (Ao _ hw)]
  split
  ·rfl
  ·have:x≠n:=by rintro rfl;exact h v Au
   simp [this]
theorem j8n{kindOf:Str->Option NameKind}{x:Str}{v:Value}:∀{P:List Str} {vs:List Value} {i:Nat} {m:Str->Option Value},P.Nodup->P[i]?=some x->vs[i]?=some v->kindOf x=some .local ->
  bindL kindOf (P.zip vs) m x=some v
 | [],_,_,_,_,h,_,_=>by simp at h
 | _ :: _,[],_,_,_,_,h,_=>by simp at h
 | p :: P,w :: vs,0,m,nd,h1,h2,hk=>by
  simp at h1 h2;subst h1;subst h2;show bindL kindOf ((p,w) :: P.zip vs) m p=_;unfold bindL;rw [j8s fun v hv=>(Cp.mp nd).1 (List.of_mem_zip hv).1,if_pos hk];simp
 | p :: P,w :: vs,i+1,m,nd,h1,h2,hk=>by
  show bindL kindOf ((p,w) :: P.zip vs) m x=_;unfold bindL;exact j8n (i:=i) (Cp.mp nd).2 (by simpa using h1) (by simpa using h2) hk
theorem j9k{kindOf:Str->Option NameKind}{x:Str}{v:Value}:∀{P:List Str} {vs:List Value} {i:Nat} {m:Str->Option Value},P.Nodup->P[i]?=some x->vs[i]?=some v->kindOf x≠some .local ->
  bindC kindOf (P.zip vs) m x=some v
 | [],_,_,_,_,h,_,_=>by simp at h
 | _ :: _,[],_,_,_,_,h,_=>by simp at h
 | p :: P,w :: vs,0,m,nd,h1,h2,hk=>by
  simp at h1 h2;subst h1;subst h2;show bindC kindOf ((p,w) :: P.zip vs) m p=_;unfold bindC;rw [j9p fun v hv=>(Cp.mp nd).1 (List.of_mem_zip hv).1,if_neg hk];simp
 | p :: P,w :: vs,i+1,m,nd,h1,h2,hk=>by
  show bindC kindOf ((p,w) :: P.zip vs) m x=_;unfold bindC;exact j9k (i:=i) (Cp.mp nd).2 (by simpa using h1) (by simpa using h2) hk
def start(N:List Str)(vs:List V):St:=vs.map some++List.replicate (N.length - vs.length) none
def cxOf(CX:CXT)(P:Program)(w:World)(K:PySem.W.Frag)(mg:Str->Option Value)(base:Heap)(N:List Str)(qual:Str)(scope:Scope)(f:Addr)(cd:Value)(A:Around)(outer:List Env)(s:Shared)(H:Hp)(E:XK):Cx where
 prog:=P
 w:=w
 K:=K
 mg:=mg
 base:=base
 A:=A.deeper (envOfC qual scope s.heap.objs.size f cd)
 N:=N
 s₀:=s
 H₀:=H
 env:=envOfC qual scope s.heap.objs.size f cd
 outer:=outer
 stack:=envOfC qual scope s.heap.objs.size f cd :: outer
 ex:=[]
 calm:=true
 fn:=fun _=>true
 pn:=[]
 xe:=fun e s'=>wpAny (model P w) (A.deeper (envOfC qual scope s.heap.objs.size f cd)) (leaving (envOfC qual scope s.heap.objs.size f cd) e) (fun _ s''=>CX outer H s E e s'') (fun e' s''=>CX outer H s E e' s'') s'
theorem k1f{sc:Scope}{n:Nat}{x:Str}(h:sc.names.lookup x=some .cell):∃ c,(cellsFrom n sc.names []).lookup x=some c:=by
 have q:=PySem.W.cellsFrom_some sc.names n [] (.inl h);exact Ec.mp q
theorem k6a{CX:CXT}{P:Program}{w:World}{K:PySem.W.Frag}{mg:Str->Option Value}{base:Heap}{N ps:List Str}{qual:Str}{scope:Scope}{f:Addr}{cd:Value}{A:Around}{outer:List Env}{s s1:Shared}{H:Hp}{E:XK}{us:List Value}{vs:List V}
  (S:FnScope N ps scope) (hd:A.handled=none) (e0:Env0 P w K mg base A outer s H) (hl:vs.length=ps.length) (r:Vals vs us)
  (x:InCallC s s.heap.objs.size (bindL (envOfC qual scope s.heap.objs.size f cd).kindOf (ps.zip us) fun _=>none) (cellsFrom (s.heap.objs.size+1) scope.names []) (bindC (envOfC qual scope s.heap.objs.size f cd).kindOf (ps.zip us) fun _=>none) s1) :
  Inv (cxOf CX P w K mg base N qual scope f cd A outer s H E) [] (start N vs) H s1:=by
 have hpl:ps.length<=N.length:=by have:=congrArg List.length S.pre;rw [Bh] at this;omega
 obtain⟨h1,tk,rfl,hk⟩:=x.done;have noA:∀ b:Addr,b∉(cxOf CX P w K mg base N qual scope f cd A outer s H E).ex:=fun b z=>absurd (show b∈([]:List Addr) from z) (by simp);refine⟨⟨e0.mod,S.kind,rfl,rfl,Ah _,fun y z c h1 h2=>?_,fun y hy=>?_,fun y c _ h=>?_,fun _=>hd,Around.frames_deeper e0.frames,.inr ⟨rfl,rfl⟩,fun b z=>absurd z (noA b),e0.bs,e0.bsz,fun b _ _=>noA b,fun b z=>absurd z (noA b),e0.funs,e0.frf⟩,
  rfl,e0.bare,Un.kept hk,⟨_,x.toInCall.ns,fun i y v h1 h2 h3=>?_⟩,fun y c h=>⟨_,x.cell y c h⟩,e0.hok.fresh (Ah _),fun y c h=>?_,fun p hp=>absurd (show p∈([]:List (Addr×Obj)) from hp) (by simp),e0.hok.kept hk,?_⟩
 ·exact name_of_addr x.apart (PySem.mem_of_lookup h1) (PySem.mem_of_lookup h2)
 ·have hy:scope.names.lookup y=some .cell\/scope.names.lookup y=some .free:=hy
  rcases hy with hy | hy
  ·exact k1f hy
  ·exact absurd rfl (S.nofree _ (PySem.mem_of_lookup hy))
 ·exact Fx (x.above y c (PySem.mem_of_lookup h))
 ·have hi:i < vs.length:=by
   unfold start at h2
   by_cases hi:i < vs.length
   ·exact hi
   ·rw [Ay (by simpa using hi)] at h2;rw [Dp] at h2
    split at h2 <;> cases h2
  have ha:vs[i]?=some v:=by
   unfold start at h2;rw [Ar (by simpa using hi),Ad] at h2;cases e:vs[i]? with
   | none=>rw [e] at h2;cases h2
   | some a=>rw [e] at h2;cases h2;rfl
  obtain⟨u,hu,rv⟩:=r.get ha;have hp:ps[i]?=some y:=by
   rw [<- S.pre,Fb (by omega)];exact h1
  have ndP:ps.Nodup:=by rw [<- S.pre];exact S.nd.sublist (List.take_sublist _ _)
  refine⟨u,rv,?_⟩
  rcases S.par y (Av hp) with k | k
  ·exact .inl ⟨k,j8n ndP hp hu k⟩
  ·obtain⟨c,e⟩:=k1f (n:=s.heap.objs.size+1) k;refine .inr ⟨.inl k,c,e,?_⟩;have q:=x.cell y c e;rw [j9k ndP hp hu (by show scope.names.lookup y≠_;rw [k];decide)] at q;exact q
 ·exact e0.hok.fresh (Fx (x.above y c (PySem.mem_of_lookup h)))
 ·unfold start;show _=N.length;rw [Af,Aa,Dl];omega
theorem q6m{CX:CXT}{P:Program}{w:World}{K:PySem.W.Frag}{mg:Str->Option Value}{base:Heap}{k:Nat}{f:Addr}{name qual:Str}{params:Arguments}{body:List Stmt}{scope:Scope}{dV kV doc pm cdv ct oc:Value}{an od:Option Addr}
  {osl:Array (Option Value)} {N ps:List Str} {sp:Sp} (lk:K.lookup f=some ⟨oc,od,.func (PySem.W.fnOf name qual params body scope dV kV doc pm an cdv ct),osl⟩) (hcd:PySem.W.codeIn K cdv qual=true) (S:FnScope N ps scope)
  (len:∀ vs H Q E,sp vs H Q E->vs.length=ps.length)
  (hbody : ∀ (A : Around) (outer : List Env) (s : Shared) (H : Hp) (vs : List V) (Q : VK) (E : XK), Room k (A.deeper (envOfC qual scope s.heap.objs.size f cdv)) → sp vs H Q E →
   ∃ t,PSs (cxOf CX P w K mg base N qual scope f cdv A outer s H E) body t/\t {nx:=fun _ H'=>Q .non H',rt:=Q} (start N vs) H) :
  FnOk P w K mg base CX (k+1) f (PySem.W.fnOf name qual params body scope dV kV doc pm an cdv ct) ps sp:=by
 refine⟨len,fun A outer s H args us vs Q E hr e0 hb r hsp=>?_⟩;have hl:=len _ _ _ _ hsp;have KX:K.In s.heap:=e0.mod.kin.keeps fun b o e=>(e0.bs b o e).1;have lim:s.heap.NoLimit:=e0.mod.nolimit.keeps fun b o e=>(e0.bs b o e).1;have hkind:∀ y∈ps.zip us,scope.names.lookup y.1=some .local\/(scope.names.lookup y.1=some .cell/\((cellsFrom (s.heap.objs.size+1) scope.names []).lookup y.1).isSome=true):=fun⟨n,v⟩ hy=>by
  rcases S.par n (List.of_mem_zip hy).1 with q | q
  ·exact .inl q
  ·exact .inr ⟨q,PySem.W.cellsFrom_some _ _ _ (.inl q)⟩
 refine codeAny_call_function hr.depth (KX _ _ lk) rfl S.co S.gen rfl (PySem.W.codeRec_of KX hcd) (hb _ _ _ _ ?_);refine wpAny_newFunctionEnv_cells S.kind hkind fun env he s1 x=>?_;subst he;refine⟨lim.keeps x.toInCall.keep,codeAny_func ?_⟩;obtain⟨t,ht,hq⟩:=hbody A outer s H vs Q E (hr.deeper _) hsp;have I:Inv (cxOf CX P w K mg base N qual scope f cdv A outer s H E) [] (start N vs) H s1:=k6a S hr.hd e0 hl r x;refine wpAny_mono (ht [] s1 (start N vs) H _ I hq) (fun fl s' hs=>?_) fun e s' hs=>hs;have fin:∀{σ':St} {H':Hp} {v:V} {u:Value},Inv (cxOf CX P w K mg base N qual scope f cdv A outer s H E) [] σ' H' s'->RelV v u->Q v H'->CE outer P w H s Q u s':=
  fun{σ' H' v u} J rv q=>⟨v,H',J.os,J.bare,J.base,J.hok,rv,q⟩
 cases fl with
 | ret u=>
  obtain⟨v,σ',H',J,rv,q⟩:=hs;exact fin J rv q
 | next=>
  obtain⟨σ',H',J,q⟩:=hs;exact fin (v:=V.non) (u:=Value.none) J rfl q
 | brk=>
  obtain⟨_,_,_,q⟩:=hs;exact False.elim q
 | cont=>
  obtain⟨_,_,_,q⟩:=hs;exact False.elim q
end L2
namespace L2
open PySem PySem.Spec PyProof.Rows
section
variable{X:Cx}{x:Str}{p pos:Pos}{e:Expr}{es:List Expr}{t:TA}{id T:String}{r:List V->Hp->VK->Prop}
def tCB(r:List V->Hp->VK->Prop)(t:TA):TE:=fun σ H Q=>t σ H fun vs H1=>r vs H1 Q
theorem k9o(hc:j2z X (.builtin id) r)(hg:Gl X x)(hm:X.mg x=none)(hv:bootBuiltins x=some (.builtin id))(ha:PA X (e :: es) t)(hn:x ≠ "__name__":=by decide)(hdb:(x == ("__debug__" : Str))=false:=by decide)
  (he:starEach (e :: es) X.env=(false,eval e X.env) :: starEach es X.env:=by rfl) (hpl:(backTo pos (starEach es X.env)).any (·.1)=false:=by rfl):PE X (.Call (.Name x p) (e :: es) [] pos) (tCB r t):=by
 intro pins s σ H Q I h;refine wpAny_Call_Name_kw (j44 I hg hm hv ?_ hn hdb);exact PyProof.Rows.callWith_builtin1 (thn (ha pos pins s σ H _ I h) fun us s1 ⟨vs,H1,I1,r1,q1⟩=>hc pins s1 σ H1 vs us Q I1 r1 q1) he hpl
theorem k30(hc:j2z X (.type T) r)(hg:Gl X x)(hm:X.mg x=none)(hv:bootBuiltins x=some (.type T))(ha:PA X (e :: es) t)(hn:x ≠ "__name__":=by decide)(hdb:(x == ("__debug__" : Str))=false:=by decide)
  (he:starEach (e :: es) X.env=(false,eval e X.env) :: starEach es X.env:=by rfl) (hpl:(backTo pos (starEach es X.env)).any (·.1)=false:=by rfl):PE X (.Call (.Name x p) (e :: es) [] pos) (tCB r t):=by
 intro pins s σ H Q I h;refine wpAny_Call_Name_kw (j44 I hg hm hv ?_ hn hdb);exact PyProof.Rows.callWith_type1 (thn (ha pos pins s σ H _ I h) fun us s1 ⟨vs,H1,I1,r1,q1⟩=>hc pins s1 σ H1 vs us Q I1 r1 q1) he hpl
end
end L2
namespace HT
open PySem PyProof.Rows
section
open PySem.SeqAt
open PySem.AutoSeq1 (wpAny_loadPart')
open PySem.MeetsSeq PySem.MeetsSeq2 PySem.MeetsSeq3
end
section
variable{prog:Program}{w:World}{A:Around}{E:Value->Shared->Prop}{s:Shared}
def sIx(n d:Nat):Option Int->Nat
 | none=>d
 | some v=>if v < 0 then(v+(n:Int)).toNat else min v.toNat n
theorem sIx_none(n d:Nat):sIx n d none=d:=rfl
theorem sIx_nat(n d k:Nat):sIx n d (some (k:Int))=min k n:=by
 show(if(k:Int) < 0 then((k:Int)+(n:Int)).toNat else min (k:Int).toNat n)=min k n;rw [if_neg (by omega),Bd]
end
end HT
namespace L2
open PySem PySem.Spec PyProof.Rows
abbrev TO:=St->Hp->(Option Int->Hp->Prop)->Prop
def PO(X:Cx)(e:Option Expr)(t:TO):Prop:=
 ∀(pins:List (Addr×Obj)) (s:Shared) (σ:St) (H:Hp) (Q:Option Int->Hp->Prop),Inv X pins σ H s->t σ H Q ->
  wpAny (model X.prog X.w) X.A (evalPart e X.env) (fun u s'=>∃ o H',Inv X pins σ H' s'/\IsPart u o/\Q o H') X.xe s
def q05:TO:=fun _ H Q=>Q none H
def q7y(t:TE):TO:=fun σ H Q=>t σ H fun x H1=>∃ i,x = .int i/\Q (some i) H1
section
variable{X:Cx}{e:Expr}{te:TE}{lo hi:Option Expr}{tl th:TO}{pos p2:Pos}
theorem q3b:PO X none q05:=by
 intro pins s σ H Q I h;rw [evalPart_none];exact wpAny_pure ⟨none,H,I,.none,h⟩
theorem q2j(h:PE X e te):PO X (some e) (q7y te):=by
 intro pins s σ H Q I hw;rw [evalPart_some];refine thn (h pins s σ H _ I hw) fun u s1 ⟨x,H1,I1,r1,q1⟩=>?_;obtain⟨i,rfl,q⟩:=q1;obtain⟨t,rfl⟩:=r1;exact⟨some i,H1,I1,.int i t,q⟩
def SlR(X:Cx)(r:V->Option Int->Option Int->Hp->VK->Prop):Prop:=
 ∀(pins:List (Addr×Obj)) (s:Shared) (σ:St) (H:Hp) (x:V) (v vl vu:Value) (lo hi:Option Int) (sl:Addr) (Q:VK),Inv X pins σ H s->RelV x v->s.heap.IsSliceOf sl vl vu .none->IsPart vl lo->IsPart vu hi->r x lo hi H Q ->
  ∃ T id,typeLookup (.type T) "__getitem__" = pure (some (.builtin id))/\s.TypeIs v T/\wpAny (model X.prog X.w) X.A (getItem v (.ref sl)) (EP X pins σ Q) X.xe s
def tSl(r:V->Option Int->Option Int->Hp->VK->Prop)(te:TE)(tl th:TO):TE:=fun σ H Q=>te σ H fun x H1=>tl σ H1 fun l H2=>th σ H2 fun u H3=>r x l u H3 Q
theorem k9y{r:V->Option Int->Option Int->Hp->VK->Prop}(hr:SlR X r)(he:PE X e te)(hl:PO X lo tl)(hu:PO X hi th):PE X (.Subscript e (.Slice lo hi none p2) pos) (tSl r te tl th):=by
 intro pins s σ H Q I h;refine Subscript_ (thn (he pins s σ H _ I h) fun v s1 ⟨x,H1,I1,r1,q1⟩=>?_);refine wpAny_Slice (thn (hl pins s1 σ H1 _ I1 q1) fun vl s2 ⟨l,H2,I2,pl,q2⟩=>thn (hu pins s2 σ H2 _ I2 q2) fun vu s3 ⟨u,H3,I3,pu,q3⟩=>?_);rw [evalPart_none];refine wpAny_pure ?_;have I4:Inv X pins σ H3 {s3 with heap:=s3.heap.push {cls:= .type "slice",data:= .fields #[vl,vu,.none]}}:=I3.kept (t':=s3.toks) fun b ob q=>Ae _ q;obtain⟨T,id,hT,ht,hg⟩:=hr pins {s3 with heap:=s3.heap.push {cls:= .type "slice",data:= .fields #[vl,vu,.none]}} σ H3 x v vl vu l u s3.heap.objs.size Q I4 r1 (Heap.IsSliceOf.new ..) pl pu q3;show wpAny (model X.prog X.w) X.A (subscriptTail e (.Slice lo hi none p2) v (.ref s3.heap.objs.size)) (EP X pins σ Q) X.xe {s3 with heap:=s3.heap.push {cls:= .type "slice",data:= .fields #[vl,vu,.none]}};exact tail_any (ops:=[.ref s3.heap.objs.size,v]) ht hT hg (by with_unfolding_all rfl)
def cutV(xs:List V)(lo hi:Option Int):List V:=(xs.drop (HT.sIx xs.length 0 lo)).take (HT.sIx xs.length xs.length hi - HT.sIx xs.length 0 lo)
theorem j9z(xs:List V)(lo hi:Option Int):(cutV xs lo hi).length<=xs.length:=by
 unfold cutV;rw [Bh,Dc];omega
end
end L2
namespace L2
open PySem PySem.Spec PyProof.Rows
def ixN(n:Nat)(i:Int):Option Nat:=if 0<=i then(if i < n then some i.toNat else none) else if -(n:Int)<=i then some (i+n).toNat else none
def atI{α:Type}(xs:List α)(i:Int):Option α:=(ixN xs.length i).bind fun j=>xs[j]?
theorem q1y{n:Nat}{i:Int}{j:Nat}(h:ixN n i=some j):seqIndex? i n=some j/\j < n/\-(n:Int)<=i/\i < n:=by
 unfold ixN at h
 by_cases h0:0<=i
 ·rw [if_pos h0] at h
  by_cases h1:i < n
  ·rw [if_pos h1] at h;have e:i.toNat=j:=Option.some.inj h;exact⟨by rw [seqIndex_of h0 h1,e],by omega,by omega,h1⟩
  ·rw [if_neg h1] at h;cases h
 ·rw [if_neg h0] at h
  by_cases h1:-(n:Int)<=i
  ·rw [if_pos h1] at h;have e:(i+n).toNat=j:=Option.some.inj h;exact⟨by rw [seqIndex_neg (by omega) h1,e],by omega,h1,by omega⟩
  ·rw [if_neg h1] at h;cases h
theorem k0f{α:Type}{xs:List α}{i:Int}{v:α}(h:atI xs i=some v):∃ j,seqIndex? i xs.length=some j/\xs[j]?=some v/\j < xs.length/\-(xs.length:Int)<=i/\i < xs.length:=by
 unfold atI at h;cases e:ixN xs.length i with
 | none=>rw [e] at h;cases h
 | some j=>
  rw [e] at h;obtain⟨h1,h2,h3,h4⟩:=q1y e;exact⟨j,h1,h,h2,h3,h4⟩
theorem j4q{α:Type}{xs:List α}{j:Nat}{v:α}(h:xs[j]?=some v):atI xs (j:Int)=some v:=by
 have hj:j < xs.length:=(Ac.mp h).1;have e:ixN xs.length (j:Int)=some j:=by
  unfold ixN;rw [if_pos (by omega),if_pos (by omega)];simp
 unfold atI;rw [e];exact h
def k61(b:Expr):Prop:=∀ o i,subscripted b false o i=operate [o,i] (getItem o i)
def IxR(X:Cx)(r:R2):Prop:=
 ∀(value slice:Expr) (pins:List (Addr×Obj)) (s:Shared) (σ:St) (H:Hp) (x y:V) (v u:Value) (Q:VK),Inv X pins σ H s->RelV x v->RelV y u->r x y H Q ->
  subscripted slice false v u=operate [v,u] (getItem v u)->wpAny (model X.prog X.w) X.A (subscriptTail value slice v u) (EP X pins σ Q) X.xe s
def MtR(X:Cx)(id:String)(r:V->List V->Hp->VK->Prop):Prop:=
 ∀(pins:List (Addr×Obj)) (s:Shared) (σ:St) (H:Hp) (x:V) (xs:List V) (v:Value) (us:List Value) (Q:VK),Inv X pins σ H s->RelV x v->Vals xs us->r x xs H Q ->
  wpAny (model X.prog X.w) X.A (call (.builtin id) (v :: us)) (EP X pins σ Q) X.xe s
section
variable{X:Cx}{a b:Expr}{ta tb:TE}{pos:Pos}
theorem q74{r:R2}(hr:IxR X r)(ha:PE X a ta)(hb:PE X b tb)(hs:k61 b):PE X (.Subscript a b pos) (tOp r ta tb):=by
 intro pins s σ H Q I h;exact Subscript_ (binT ha hb I h fun v u s2 x y H2 I2 rx ry q=>hr a b pins s2 σ H2 x y v u Q I2 rx ry q (hs _ _))
def rIxL(K:PySem.W.Frag):R2:=fun x y H Q=>∃ p xs i v,x = .ref p/\y = .int i/\SqL K H p xs/\atI xs i=some v/\Q v H
def rIxT(K:PySem.W.Frag):R2:=fun x y H Q=>∃ p xs i v,x = .ref p/\y = .int i/\SqT K H p xs/\atI xs i=some v/\Q v H
def rIxS:R2:=fun x y H Q=>∃ z i c,x = .str z/\y = .int i/\z.length<=sizeLine/\atI z.cps.toList i=some c/\Q (.str ⟨#[c]⟩) H
theorem j0s:IxR X (rIxL X.K):=by
 intro value slice pins s σ H x y v u Q I rx ry h hs;obtain⟨p,xs,i,z,rfl,rfl,hq,he,q⟩:=h;cases rx;obtain⟨t,rfl⟩:=ry;obtain⟨its,r,pl,hz⟩:=I.list hq;obtain⟨j,h1,h2,h3,h4,h5⟩:=k0f he;obtain⟨w,ew,rw'⟩:=r.get h2;have hl:=r.length;have hn:=j63;have fin:EP X pins σ Q w s:=⟨z,H,I,rw',q⟩
 by_cases h0:0<=i
 ·have hj:i.toNat=j:=by
   rw [seqIndex_of h0 h5] at h1;exact Option.some.inj h1
  exact item_listR pl.isList h0 (by omega) (by rw [hj];simpa using ew) fin hs
 ·have hj:(i+(its.toArray.size:Int)).toNat=j:=by
   rw [seqIndex_neg (by omega) h4] at h1;rw [Aq,<- hl];exact Option.some.inj h1
  exact subscriptTail_builtinR (x:=w) pl.isList.typeIs slot_list_getitem.lookup
   (wpAny_getItem_list_neg (Q:=fun r s'=>r=w/\EP X pins σ Q r s') pl.isList (by omega) (by rw [Aq] <;> omega) (by omega) (by rw [hj];simpa using ew) ⟨rfl,fin⟩) hs
theorem j0x:IxR X (rIxT X.K):=by
 intro value slice pins s σ H x y v u Q I rx ry h hs;obtain⟨p,xs,i,z,rfl,rfl,hq,he,q⟩:=h;cases rx;obtain⟨t,rfl⟩:=ry;obtain⟨its,r,pl,hz⟩:=I.tuple hq;obtain⟨j,h1,h2,h3,h4,h5⟩:=k0f he;obtain⟨w,ew,rw'⟩:=r.get h2;have hl:=r.length;have hn:=j63;have fin:EP X pins σ Q w s:=⟨z,H,I,rw',q⟩;exact subscriptTail_builtinR (x:=w) pl.typeIs slot_tuple_getitem.lookup
  (getItem_tuple (j:=j) (Q:=fun r s'=>r=w/\EP X pins σ Q r s') pl (by omega) (by omega) (by rw [Aq,<- hl];exact h1) (by simpa using ew) ⟨rfl,fin⟩) hs
theorem q0h:IxR X rIxS:=by
 intro value slice pins s σ H x y v u Q I rx ry h hs;obtain⟨z,i,c,rfl,rfl,hz,he,q⟩:=h;obtain⟨t,rfl⟩:=rx;obtain⟨t',rfl⟩:=ry;obtain⟨j,h1,h2,h3,h4,h5⟩:=k0f he;have hl:z.cps.toList.length=z.length:=by simp [Str.length]
 rw [hl] at h1 h4 h5;have hn:=j63;exact tail_any (typeIs_str s z t) slot_str_getitem.lookup (getItem_str (c:=c) (by
  have e1:decide (i < -(2 ^ 63:Int))=false:=decide_eq_false (by omega);have e2:decide (i>=2 ^ 63)=false:=decide_eq_false (by omega);rw [e1,e2,Bool.or_false]) (by rw [h1];simpa using h2) ⟨.str ⟨#[c]⟩,H,I.tok _,⟨_,rfl⟩,q⟩) hs
theorem j9v(lo hi:Option Int)(n:Nat):(sliceBounds lo hi none n).1=((HT.sIx n 0 lo:Nat):Int)/\(sliceBounds lo hi none n).2.1=((HT.sIx n n hi:Nat):Int)/\(sliceBounds lo hi none n).2.2=1:=by
 refine⟨?_,?_,rfl⟩
 ·cases lo with
  | none=>simp [sliceBounds,HT.sIx]
  | some i=>
   simp only [sliceBounds,HT.sIx,Option.getD_none,show(1:Int) > 0 by decide,if_true]
   by_cases h:i < 0
   ·simp only [h,if_true] <;> omega
   ·simp only [h,if_false] <;> omega
 ·cases hi with
  | none=>simp [sliceBounds,HT.sIx]
  | some i=>
   simp only [sliceBounds,HT.sIx,Option.getD_none,show(1:Int) > 0 by decide,if_true]
   by_cases h:i < 0
   ·simp only [h,if_true] <;> omega
   ·simp only [h,if_false] <;> omega
theorem j7m(its:List Value)(lo hi:Option Int):slicePick its.toArray lo hi none=((its.drop (HT.sIx its.length 0 lo)).take (HT.sIx its.length its.length hi - HT.sIx its.length 0 lo)).toArray:=by
 obtain⟨h1,h2,h3⟩:=j9v lo hi its.toArray.size;unfold slicePick;rw [h1,h2,h3];simp only [sliceRange_one,pick_run,Aq] <;> rfl
def rSlL(K:PySem.W.Frag):V->Option Int->Option Int->Hp->VK->Prop:=fun x lo hi H Q=>∃ a xs,x = .ref a/\SqL K H a xs/\∀ p,H p=none->Q (.ref p) (upd H p (.lst (cutV xs lo hi)))
theorem j8d:SlR X (rSlL X.K):=by
 intro pins s σ H x v vl vu lo hi sl Q I rx hs pl pu h;obtain⟨a,xs,rfl,hx,q⟩:=h;cases rx;obtain⟨its,r,ht,hz⟩:=I.list hx;have hlen:=r.length;refine⟨"list",_,slot_list_getitem.lookup,ht.isList.typeIs,?_⟩;refine wpAny_getItem_list_slice ht.isList hs pl pu .none (by simp) ?_ (by rw [Aq] <;> omega);rw [j7m,<- hlen];refine⟨.ref s.heap.objs.size,_,I.laid (t':=s.toks) (o:= .lst (cutV xs lo hi)) (fun b ob q=>Ae _ q) (Ah _) ?_,rfl,q _ (I.hok.fresh (Ah _))⟩;exact⟨Bv (j9z xs lo hi) hz,_,0,(r.drop (HT.sIx xs.length 0 lo)).take (HT.sIx xs.length xs.length hi - HT.sIx xs.length 0 lo),Am _ rfl⟩
def j6s:V->Bool
 | .non=>true
 | .bl _=>true
 | .int _=>true
 | .str _=>true
 | _=>false
def eqV:V->V->Bool
 | .non,.non=>true
 | .bl a,.bl b=>a == b
 | .bl a,.int b=>(if a then 1 else 0) == b
 | .int a,.bl b=>a == (if b then 1 else 0)
 | .int a,.int b=>a == b
 | .str a,.str b=>a == b
 | _,_=>false
theorem q0r{A:Around}{s:Shared}{y x:V}{u v:Value}(ry:RelV y u)(rx:RelV x v)(fy:j6s y=true)(fx:j6s x=true):SeqAt.EqAt A s u v (eqV y x):=by
 cases y with
 | non=>
  cases ry;cases x with
  | non=>cases rx;exact SeqAt.EqAt.same _
  | bl b=>cases rx;exact SeqAt.EqAt.none_bool b
  | int b=>obtain⟨t,rfl⟩:=rx;exact SeqAt.EqAt.none_int b t
  | str b=>obtain⟨t,rfl⟩:=rx;exact SeqAt.EqAt.none_str b t
  | _=>exact absurd (show false=true from fx) Al
 | bl a=>
  cases ry;cases x with
  | non=>cases rx;exact SeqAt.EqAt.bool_none a
  | bl b=>cases rx;exact SeqAt.EqAt.bool_bool a b
  | int b=>obtain⟨t,rfl⟩:=rx;exact SeqAt.EqAt.bool_int a b t
  | str b=>obtain⟨t,rfl⟩:=rx;exact SeqAt.EqAt.bool_str a b t
  | _=>exact absurd (show false=true from fx) Al
 | int a=>
  obtain⟨t',rfl⟩:=ry;cases x with
  | non=>cases rx;exact SeqAt.EqAt.int_none a t'
  | bl b=>cases rx;exact SeqAt.EqAt.int_bool a t' b
  | int b=>obtain⟨t,rfl⟩:=rx;exact SeqAt.EqAt.int_int a t' b t
  | str b=>obtain⟨t,rfl⟩:=rx;exact SeqAt.EqAt.int_str a t' b t
  | _=>exact absurd (show false=true from fx) Al
 | str a=>
  obtain⟨t',rfl⟩:=ry;cases x with
  | non=>cases rx;exact SeqAt.EqAt.str_none a t'
  | bl b=>cases rx;exact SeqAt.EqAt.str_bool a t' b
  | int b=>obtain⟨t,rfl⟩:=rx;exact SeqAt.EqAt.str_int a t' b t
  | str b=>obtain⟨t,rfl⟩:=rx;exact SeqAt.EqAt.str_str a t' b t
  | _=>exact absurd (show false=true from fx) Al
 | _=>exact absurd (show false=true from fy) Al
def eqU(x:V)(u:Value):Bool:=match u with
 | .none=>eqV .non x
 | .bool b=>eqV (.bl b) x
 | .int i _=>eqV (.int i) x
 | .str z _=>eqV (.str z) x
 | _=>false
theorem q0i{x y:V}{u:Value}(r:RelV y u)(f:j6s y=true):eqU x u=eqV y x:=by
 cases y with
 | non=>cases r;rfl
 | bl b=>cases r;rfl
 | int i=>obtain⟨t,rfl⟩:=r;rfl
 | str z=>obtain⟨t,rfl⟩:=r;rfl
 | _=>exact absurd (show false=true from f) Al
theorem j58{x:V}:∀{xs:List V} {us:List Value},Vals xs us->xs.all j6s=true->us.any (eqU x)=xs.any fun y=>eqV y x
 | _,_,.nil,_=>rfl
 | y :: xs,u :: us,.cons r t,f=>by
  rw [Ga,Bu] at f;rw [Ds,Ds,q0i r f.1,j58 t f.2]
theorem j3z{A:Around}{s:Shared}{x:V}{v:Value}(rx:RelV x v)(fx:j6s x=true):∀{xs:List V} {us:List Value},Vals xs us->xs.all j6s=true->∀ u∈us,SeqAt.EqAt A s u v (eqU x u)
 | _,_,.nil,_=>fun u hu=>by cases hu
 | y :: xs,u :: us,.cons r t,f=>fun u' hu=>by
  rw [Ga,Bu] at f
  rcases Ap.mp hu with rfl | hu
  ·rw [q0i r f.1];exact q0r r rx f.1 fx
  ·exact j3z rx fx t f.2 u' hu
def inV(x:V)(xs:List V):Bool:=xs.any fun y=>eqV y x
def rIn(K:PySem.W.Frag)(neg:Bool):R2:=fun x y H Q=>∃ p xs,y = .ref p/\(SqL K H p xs\/SqT K H p xs)/\j6s x=true/\xs.all j6s=true/\Q (.bl (if neg then !inV x xs else inV x xs)) H
theorem j9o:OpR X (compareOp .In) (rIn X.K false):=by
 intro pins s σ H x y v u Q I rx ry h;obtain⟨p,xs,rfl,hq,fx,fs,q⟩:=h;cases ry
 rcases hq with hq | hq
 ·obtain⟨its,r,pl,hz⟩:=I.list hq;refine SeqAt.in_listAt (eqU x) pl.isList (fun w hw=>j3z rx fx r fs w (by simpa using hw)) ⟨.bl _,H,I,rfl,?_⟩;rw [show its.toArray.any (eqU x)=its.any (eqU x) by simp,j58 r fs];exact q
 ·obtain⟨its,r,pl,hz⟩:=I.tuple hq;refine SeqAt.in_tupleAt (eqU x) pl (fun w hw=>j3z rx fx r fs w (by simpa using hw)) ⟨.bl _,H,I,rfl,?_⟩;rw [show its.toArray.any (eqU x)=its.any (eqU x) by simp,j58 r fs];exact q
theorem j42:OpR X (compareOp .NotIn) (rIn X.K true):=by
 intro pins s σ H x y v u Q I rx ry h;obtain⟨p,xs,rfl,hq,fx,fs,q⟩:=h;cases ry
 rcases hq with hq | hq
 ·obtain⟨its,r,pl,hz⟩:=I.list hq;refine SeqAt.notIn_listAt (eqU x) pl.isList (fun w hw=>j3z rx fx r fs w (by simpa using hw)) ⟨.bl _,H,I,rfl,?_⟩;rw [show its.toArray.any (eqU x)=its.any (eqU x) by simp,j58 r fs];exact q
 ·obtain⟨its,r,pl,hz⟩:=I.tuple hq;refine SeqAt.notIn_tupleAt (eqU x) pl (fun w hw=>j3z rx fx r fs w (by simpa using hw)) ⟨.bl _,H,I,rfl,?_⟩;rw [show its.toArray.any (eqU x)=its.any (eqU x) by simp,j58 r fs];exact q
theorem j0l:j2z X (.builtin "len") (fun xs H Q=>∃ p ys,xs=[.ref p]/\(SqL X.K H p ys\/SqT X.K H p ys)/\Q (.int ys.length) H):=by
 intro pins s σ H xs us Q I r h;obtain⟨p,ys,rfl,hq,q⟩:=h;obtain⟨u,rfl,rx⟩:=vals1 r;cases rx;have hn:=j63
 rcases hq with hq | hq
 ·obtain⟨its,r',pl,hz⟩:=I.list hq;have hlen:=r'.length;exact Calls.call_len_list pl.isList (by simp only [Aq] <;> omega) ⟨.int ys.length,H,I.tok _,⟨s.toks+1,by rw [Aq,hlen]⟩,q⟩
 ·obtain⟨its,r',pl,hz⟩:=I.tuple hq;have hlen:=r'.length;exact len_tuple pl (by simp only [Aq] <;> omega) ⟨.int ys.length,H,I.tok _,⟨s.toks+1,by rw [Aq,hlen]⟩,q⟩
theorem j5a:j2z X (.builtin "len") (fun xs H Q=>∃ z,xs=[.str z]/\z.length<=sizeLine/\Q (.int z.length) H):=by
 intro pins s σ H xs us Q I r h;obtain⟨z,rfl,hz,q⟩:=h;obtain⟨u,rfl,t,rfl⟩:=vals1 r;have hn:=j63;exact len_str (by omega) ⟨.int z.length,H,I.tok _,⟨_,rfl⟩,q⟩
theorem j3e:j2z X (.type "list") (fun xs H Q=>∃ p ys,xs=[.ref p]/\(SqL X.K H p ys\/SqT X.K H p ys)/\∀ l,H l=none->Q (.ref l) (upd H l (.lst ys))):=by
 intro pins s σ H xs us Q I r h;obtain⟨p,ys,rfl,hq,q⟩:=h;obtain⟨u,rfl,rx⟩:=vals1 r;cases rx;have fin:∀(its:List Value),Vals ys its->ys.length<=sizeLine->∀(h':Heap) (c':Nat),(∀ b o',s.heap.get? b=some o'->h'.get? b=some o') ->
   h'.get? s.heap.objs.size=some {cls:= .type "list",dict:=none,data:= .seq its.toArray c',slots:=#[]}->EP X pins σ Q (.ref s.heap.objs.size) {s with heap:=h'}:=fun its r' hz h' c' kp e=>
  ⟨.ref s.heap.objs.size,_,I.laid (t':=s.toks) kp (Ah _) (show ObjOk X.prog X.w _ h' _ (.lst ys) from⟨hz,its,c',r',e⟩),rfl,q _ (I.hok.fresh (Ah _))⟩
 rcases hq with hq | hq
 ·obtain⟨its,r',pl,hz⟩:=I.list hq;have hlen:=r'.length;obtain⟨o,ho,hc,n,hd⟩:=pl.isList;exact call_list_seq p (.inl rfl) ho hc hd (fun h' c' kp e=>fin its r' hz h' c' kp e) (by simp only [Aq] <;> omega)
 ·obtain⟨its,r',pl,hz⟩:=I.tuple hq;have hlen:=r'.length;obtain⟨o,ho,hc,n,hd⟩:=pl;exact call_list_seq p (.inr rfl) ho hc hd (fun h' c' kp e=>fin its r' hz h' c' kp e) (by simp only [Aq] <;> omega)
def tyV(K:PySem.W.Frag)(T:String)(x:V)(H:Hp):Prop:=match x with
 | .str _=>T = "str"
 | .int _=>T = "int"
 | .ref p=>(T = "list"/\∃ xs,SqL K H p xs)\/(T = "tuple"/\∃ o,K.lookup p=some o/\o.cls = .type "tuple"/\o.dict=none) \/
   (T = "dict"/\((∃ kvs,H p=some (.dK kvs))\/∃ kvs,H p=some (.dT kvs)))\/(T = "set"/\∃ S n,H p=some (.set S n))
 | _=>False
theorem q0n{pins:List (Addr×Obj)}{σ:St}{H:Hp}{s:Shared}{T:String}{x:V}{v:Value}(I:Inv X pins σ H s)(r:RelV x v)(ty:tyV X.K T x H) :
  s.TypeIs v T/\∀ a,v = .ref a->∃ ob,s.heap.get? a=some ob/\ob.dict=none:=by
 cases x with
 | str z=>
  obtain⟨t,rfl⟩:=r;cases (show T = "str" from ty);exact⟨typeIs_str s z t,fun _ e=>nomatch e⟩
 | int i=>
  obtain⟨t,rfl⟩:=r;cases (show T = "int" from ty);exact⟨typeIs_int s i t,fun _ e=>nomatch e⟩
 | ref p=>
  cases r
  rcases ty with ⟨rfl,xs,hq⟩ | ⟨rfl,o,hk,hc,hd⟩ | ⟨rfl,hk⟩ | ⟨rfl,S,n,hk⟩
  ·obtain⟨its,_,pl,_⟩:=I.list hq;refine⟨pl.isList.typeIs,fun a e=>?_⟩;cases e;obtain⟨o,n,e,c,hd,_⟩:=pl;exact⟨o,e,hd⟩
  ·refine⟨⟨o,I.kIn p o hk,hc⟩,fun a e=>?_⟩;cases e;exact⟨o,I.kIn _ o hk,hd⟩
  ·have z:∃ o,s.heap.get? p=some o/\o.ExactDict:=by
    rcases hk with ⟨kvs,hk⟩ | ⟨kvs,hk⟩
    ·obtain⟨_,_,_,_,o,_,_,e,ex,_⟩:=I.hok p _ hk;exact⟨o,e,ex⟩
    ·obtain⟨_,_,_,_,o,_,_,e,ex,_⟩:=I.hok p _ hk;exact⟨o,e,ex⟩
   obtain⟨o,e,ex⟩:=z;refine⟨⟨o,e,ex.1⟩,fun a e2=>?_⟩;cases e2;exact⟨o,e,ex.2.1⟩
  ·obtain⟨o,_,_,_,e,ex,_⟩:=I.hok p _ hk;refine⟨⟨o,e,ex.1⟩,fun a e2=>?_⟩;cases e2;exact⟨o,e,ex.2.1⟩
 | _=>exact False.elim ty
def tBM0(K:PySem.W.Frag)(T:String)(r:V->List V->Hp->VK->Prop)(to:TE):TE:=fun σ H Q=>to σ H fun x H1=>tyV K T x H1/\r x [] H1 Q
def tBM(K:PySem.W.Frag)(T:String)(r:V->List V->Hp->VK->Prop)(to:TE)(t:TA):TE:=fun σ H Q=>to σ H fun x H1=>tyV K T x H1/\t σ H1 fun xs H2=>r x xs H2 Q
variable{o e:Expr}{es:List Expr}{to:TE}{t:TA}{name:Str}{apos cpos:Pos}{T id:String}{r:V->List V->Hp->VK->Prop}
theorem q4m(pa:PlainAttrs T)(slot:Slot T name id)(hty:typeOf (.builtin id)=pure (.type "method_descriptor"))(hm:MtR X id r)(ho:PE X o to)
  (hbase:attributeBase o name X.env (eval o X.env)=eval o X.env:=by rfl) (hline:(apos.endLine == cpos.line)=true:=by rfl):PE X (.Call (.Attribute o name apos) [] [] cpos) (tBM0 X.K T r to):=by
 intro pins s σ H Q I h;refine wpAny_Call_method0_late hbase hline (thn (ho pins s σ H _ I h) fun v s1 ⟨x,H1,I1,r1,ty,q1⟩=>?_);obtain⟨h1,h2⟩:=q0n I1 r1 ty;exact⟨T,id,pa,slot,hty,h1,h2,Calls.callWith_builtin rfl (PySem.evalArgs_none (hm pins s1 σ H1 x [] v [] Q I1 r1 .nil q1))⟩
theorem q3d(pa:PlainAttrs T)(slot:Slot T name id)(hty:typeOf (.builtin id)=pure (.type "method_descriptor"))(hm:MtR X id r)(ho:PE X o to)(ha:PA X (e :: es) t)
  (hbase:attributeBase o name X.env (eval o X.env)=eval o X.env:=by rfl)
  (hfew : ((backTo cpos (starEach (e :: es) X.env)).all (fun x => !x.1) && (backToKw cpos (keywordEach [] X.env)).all (fun x => x.1.isSome)
   && decide ((e :: es).length+([]:List Keyword).length+(if([]:List Keyword).isEmpty then 0 else 1) < 30))=true:=by rfl)
  (hline:(apos.endLine == cpos.line)=true:=by rfl) (hs:starEach (e :: es) X.env=(false,eval e X.env) :: starEach es X.env:=by rfl) (hplain:(backTo cpos (starEach es X.env)).any (·.1)=false:=by rfl) :
  PE X (.Call (.Attribute o name apos) (e :: es) [] cpos) (tBM X.K T r to t):=by
 intro pins s σ H Q I h;refine wpAny_Call_method_late hbase hfew hline rfl (thn (ho pins s σ H _ I h) fun v s1 ⟨x,H1,I1,r1,ty,q1⟩=>?_);obtain⟨h1,h2⟩:=q0n I1 r1 ty;refine⟨T,id,pa,slot,hty,h1,h2,?_⟩;have hA:=ha cpos pins s1 σ H1 _ I1 q1;rw [hs] at hA ⊢;refine Calls.callWith_builtin (by show(false || (backTo cpos (starEach es X.env)).any (·.1))=false;rw [hplain] <;> rfl) (Calls.evalArgs_plain ?_);exact thn hA fun us s2 ⟨vs,H2,I2,r2,q2⟩=>hm pins s2 σ H2 x vs v us Q I2 r1 r2 q2
end
end L2
namespace L2
open PySem PySem.Spec PyProof.Rows
def MtM(X:Cx)(id:String)(r:V->List V->Hp->VK->Prop):Prop:=
 ∀(pins:List (Addr×Obj)) (s:Shared) (σ:St) (H:Hp) (x:V) (xs:List V) (v:Value) (us:List Value) (Q:VK),Inv X pins σ H s->RelV x v->Vals xs us->r x xs H Q ->
  wpAny (model X.prog X.w) X.A (call (.builtin id) (v :: us)) (EP X pins σ Q) X.xe s
theorem Vals.hd{x:V}{xs:List V}{us:List Value}(h:Vals (x :: xs) us):∃ u vs,us=u :: vs/\RelV x u/\Vals xs vs:=by
 cases h with
 | cons r t=>exact⟨_,_,rfl,r,t⟩
theorem Vals.nl{us:List Value}(h:Vals [] us):us=[]:=by
 cases h;rfl
theorem Vals.one{x:V}{us:List Value}(h:Vals [x] us):∃ u,us=[u]/\RelV x u:=by
 obtain⟨u,vs,rfl,r,t⟩:=h.hd;rw [t.nl];exact⟨u,rfl,r⟩
theorem Vals.two{x y:V}{us:List Value}(h:Vals [x,y] us):∃ u v,us=[u,v]/\RelV x u/\RelV y v:=by
 obtain⟨u,vs,rfl,r,t⟩:=h.hd;obtain⟨v,ws,rfl,q,t⟩:=t.hd;rw [t.nl];exact⟨u,v,rfl,r,q⟩
theorem Vals.zero:∀{us:List Value},Vals [] us->us=[]
 | _,.nil=>rfl
theorem Vals.dropLast{xs:List V}{us:List Value}(h:Vals xs us):Vals xs.dropLast us.dropLast:=by
 induction h with
 | nil=>exact .nil
 | cons r t ih=>
  cases t with
  | nil=>exact .nil
  | cons q t'=>exact .cons r ih
theorem Vals.eraseIdx:∀{xs:List V} {us:List Value} (i:Nat),Vals xs us->Vals (xs.eraseIdx i) (us.eraseIdx i)
 | _,_,_,.nil=> .nil
 | _,_,0,.cons _ t=>t
 | _,_,i+1,.cons r t=> .cons r (Vals.eraseIdx i t)
theorem k28{α:Type}(l:List α):l.eraseIdx (l.length - 1)=l.dropLast:=by
 induction l with
 | nil=>rfl
 | cons a r ih=>
  cases r with
  | nil=>rfl
  | cons b r=>
   have e:(a :: b :: r).length - 1=((b :: r).length - 1)+1:=by
    have h1:(a :: b :: r).length=r.length+2:=rfl;have h2:(b :: r).length=r.length+1:=rfl;omega
   rw [e,List.eraseIdx_cons_succ,ih]
   all_goals rfl
theorem j81{α:Type}:∀(l:List α) (i:Nat),(l.eraseIdx i).length<=l.length
 | [],_=>Ah _
 | _ :: _,0=>Dv _
 | _ :: r,i+1=>Nat.succ_le_succ (j81 r i)
section
variable{X:Cx}{pins:List (Addr×Obj)}{σ:St}{H:Hp}{s:Shared}{l b:Addr}{xs ys zs:List V}
theorem Inv.lset{its its':List Value}{n:Nat}{f:Array Value->Array Value}{t':Nat}(I:Inv X pins σ H s)(hH:H l=some (.lst xs))
  (e:s.heap.get? l=some {cls:= .type "list",data:= .seq its.toArray n}) (hf:f its.toArray=its'.toArray) (hv:Vals ys its') (hz:ys.length<=sizeLine) :
  Inv X pins σ (upd H l (.lst ys)) {s with heap:=s.heap.update l (Obj.mapSeq f),toks:=t'}:=by
 have q:=PySem.IsL.update e f;rw [hf] at q;refine I.write (x:=l) (e:=l) (by rw [hH];exact trivial) (.inl rfl) (fun b' u hb hu=>(Bz s.heap (Obj.mapSeq f) (Ne.symm hb)).trans hu) ⟨_,q⟩ ?_;exact⟨hz,its',_,hv,q⟩
theorem Inv.lnew{its:List Value}{t':Nat}(I:Inv X pins σ H s)(hv:Vals ys its)(hz:ys.length<=sizeLine) :
  Inv X pins σ (upd H s.heap.objs.size (.lst ys)) {s with heap:=s.heap.push {cls:= .type "list",data:= .seq its.toArray},toks:=t'}:=
 I.laid (fun _ _ q=>Ae _ q) (Ah _) ⟨hz,its,0,hv,Am _ rfl⟩
theorem Inv.fresh(I:Inv X pins σ H s):H s.heap.objs.size=none:=I.hok.fresh (Ah _)
theorem Inv.lstM(I:Inv X pins σ H s)(hH:H l=some (.lst xs)):xs.length<=sizeLine/\∃(its:List Value) (n:Nat),Vals xs its/\xs.length=its.length/\s.heap.get? l=some {cls:= .type "list",data:= .seq its.toArray n}:=by
 obtain⟨z,its,n,r,e⟩:=I.hok l _ hH;exact⟨z,its,n,r,r.length,e⟩
theorem k8c{n:Nat}(h:n<=sizeLine):Builtin.List.listTooLong n=false:=by
 unfold Builtin.List.listTooLong;exact decide_eq_false (by omega)
end
section
variable{X:Cx}
def q23:V->List V->Hp->VK->Prop:=fun x vs H Q=>∃ l xs y,x = .ref l/\vs=[y]/\H l=some (.lst xs)/\xs.length < sizeLine/\Q .non (upd H l (.lst (xs++[y])))
theorem j4b:MtM X "list.append" q23:=by
 intro pins s σ H x vs v us Q I rx rv h;obtain⟨l,xs,y,rfl,rfl,hH,hz,q⟩:=h;cases rx;obtain⟨u,rfl,ru⟩:=rv.one;obtain⟨z,its,n,r,hl,e⟩:=I.lstM hH;refine call_meets F.slot_list_append ⟨_,e,rfl⟩ F.entry_list_append (F.args_list_append_2 _ _) (PySem.list_append l its.toArray n u (by rw [Aq];omega)) ⟨e,?_⟩;refine⟨.non,_,I.lset (its':=its++[u]) hH e (by simp) (r.append (.cons ru .nil)) ?_,rfl,q⟩;rw [Af,Cu];omega
def q08:V->List V->Hp->VK->Prop:=fun x vs H Q=>∃ l b xs zs,x = .ref l/\vs=[.ref b]/\H l=some (.lst xs)/\H b=some (.lst zs)/\xs.length+zs.length<=sizeLine/\Q .non (upd H l (.lst (xs++zs)))
theorem q5x:MtM X "list.extend" q08:=by
 intro pins s σ H x vs v us Q I rx rv h;obtain⟨l,b,xs,zs,rfl,rfl,hH,hB,hz,q⟩:=h;cases rx;obtain⟨u,rfl,ru⟩:=rv.one;cases ru;obtain⟨z,its,n,r,hl,e⟩:=I.lstM hH;obtain⟨z2,its2,n2,r2,hl2,e2⟩:=I.lstM hB;have hsz:its.toArray.size+its2.toArray.size<=sizeLine:=by rw [Aq,Aq];omega
 have hlong:¬(!its.toArray.isEmpty && Builtin.List.listTooLong (its.toArray.size+its2.toArray.size))=true:=by
  rw [k8c hsz,Bool.and_false];exact Al
 refine call_meets F.slot_list_extend ⟨_,e,rfl⟩ F.entry_list_extend (F.args_list_extend_2 _ _)
  (AutoSeq1.list_extend_list_list_0 l its.toArray n b its2.toArray n2 hlong (by rw [Aq];omega) (by omega)) ⟨e,e2,?_⟩
 refine⟨.non,_,I.lset (its':=its++its2) hH e (by simp) (r.append r2) ?_,rfl,q⟩;rw [Af];omega
def rPop:V->List V->Hp->VK->Prop:=fun x vs H Q=>∃ l xs y,x = .ref l/\vs=[]/\H l=some (.lst xs)/\xs[xs.length - 1]?=some y/\Q y (upd H l (.lst xs.dropLast))
theorem q36:MtM X "list.pop" rPop:=by
 intro pins s σ H x vs v us Q I rx rv h;obtain⟨l,xs,y,rfl,rfl,hH,hy,q⟩:=h;cases rx;have hus:=rv.zero;subst hus;obtain⟨z,its,n,r,hl,e⟩:=I.lstM hH;obtain⟨u,hu,ru⟩:=r.get hy;have hy':its.toArray[its.toArray.size - 1]?=some u:=by
  show its.toArray[its.length - 1]?=some u;rw [<- Bb,<- hl];exact hu
 refine call_meets F.slot_list_pop ⟨_,e,rfl⟩ F.entry_list_pop (F.args_list_pop_1 _) (MeetsSeq.list_pop_last l its.toArray n u hy' (by rw [Aq];omega)) ⟨e,?_⟩;refine⟨y,_,I.lset (its':=its.dropLast) hH e ?_ r.dropLast ?_,ru,q⟩
 ·show its.toArray.eraseIdxIfInBounds (its.toArray.size - 1)=its.dropLast.toArray;rw [Aq,List.eraseIdxIfInBounds_toArray,k28]
 ·rw [List.length_dropLast];omega
def q4q:V->List V->Hp->VK->Prop:=fun x vs H Q=>∃ l xs i k y,x = .ref l/\vs=[.int i]/\H l=some (.lst xs)/\-(2 ^ 63)<=i/\i < 2 ^ 63/\seqIndex? i xs.length=some k/\xs[k]?=some y/\Q y (upd H l (.lst (xs.eraseIdx k)))
theorem k7n:MtM X "list.pop" q4q:=by
 intro pins s σ H x vs v us Q I rx rv h;obtain⟨l,xs,i,k,y,rfl,rfl,hH,h1,h2,hk,hy,q⟩:=h;cases rx;obtain⟨u,rfl,ru⟩:=rv.one;obtain⟨t,rfl⟩:=ru;obtain⟨z,its,n,r,hl,e⟩:=I.lstM hH;obtain⟨w,hw,rw'⟩:=r.get hy;refine call_meets F.slot_list_pop ⟨_,e,rfl⟩ F.entry_list_pop (F.args_list_pop_2 _ _)
  (MeetsSeq.list_pop_at l its.toArray n i t k w (fitsIndex_both h1 h2) (by rw [Aq,<- hl];exact hk) (by rw [<- Bb];exact hw) (by rw [Aq];omega)) ⟨e,?_⟩
 refine⟨y,_,I.lset (its':=its.eraseIdx k) hH e ?_ (r.eraseIdx k) ?_,rw',q⟩
 ·show its.toArray.eraseIdxIfInBounds k=(its.eraseIdx k).toArray;rw [List.eraseIdxIfInBounds_toArray]
 ·have:=j81 xs k;omega
def rCat:R2:=fun x y H Q=>∃ l b xs zs,x = .ref l/\y = .ref b/\H l=some (.lst xs)/\H b=some (.lst zs)/\xs.length+zs.length<=sizeLine/\∀ p,H p=none->Q (.ref p) (upd H p (.lst (xs++zs)))
theorem j7c:OpR X (binaryOp .Add) rCat:=by
 intro pins s σ H x y v u Q I rx ry h;obtain⟨l,b,xs,zs,rfl,rfl,hH,hB,hz,q⟩:=h;cases rx;cases ry;obtain⟨z,its,n,r,hl,e⟩:=I.lstM hH;obtain⟨z2,its2,n2,r2,hl2,e2⟩:=I.lstM hB;refine PySem.P.add_list e e2 ?_ (by rw [Aq,Aq];omega);have ea:its.toArray++its2.toArray=(its++its2).toArray:=by simp
 rw [ea];exact⟨.ref _,_,I.lnew (t':=s.toks) (r.append r2) (by rw [Af];omega),rfl,q _ I.fresh⟩
end
section
variable{prog:Program}{w:World}{A:Around}{E:Value->Shared->Prop}{s:Shared}
end
section
variable{X:Cx}
end
end L2
namespace Att
open PySem PySem.W PySem.Calls PyProof.Rows
theorem j5y{P:Params}{h:Heap}:∀(ns:List Int) (vs:List Value),WellAll P h vs (ns.map WData.int)->IntsAre vs ns:=by
 intro ns
 induction ns with
 | nil=>
  intro vs w;rw [List.map_nil] at w;cases w;exact .nil
 | cons n ns ih=>
  intro vs w;rw [Bc] at w;cases w with
  | cons a b=>
   cases a;exact .cons _ _ (ih _ b)
theorem k4r{l:OpenLaw}{n:Nat}(hn:l.most=some n){P:Params}{h:Heap}{args:List WData}{vals:List Value}
  (hpre:l.row.toRowW.claim.pre args=true) (hwl:WellAll P h vals args) :
  ∃ a vs ns,vals=[Value.ref a]/\args=[WData.list (ns.map WData.int)]/\h.get? a=some {cls:= .type "list",data:= .seq vs.toArray}/\IntsAre vs ns/\ns.length<=n:=by
 have hsh:WShape.hasAll [] args [.list .int]=true:=(pre_splitW hpre).1;have hc:l.pre.holds [] {args:=args}=true:=(pre_splitW hpre).2;obtain⟨d,r,rfl,h1,h2⟩:=hasAllW_cons hsh;obtain rfl:=hasAllW_nil h2;obtain⟨xs,rfl,h3⟩:=hasW_list h1;obtain⟨ns,rfl⟩:=items_int h3;have hlen:ns.length<=n:=by
  unfold OpenLaw.pre at hc;have h4:(WTm.not (.lt (.lit (.int (n:Int))) (.len (.arg 0)))).holds [] {args:=[.list (ns.map .int)]}=true:=by
   have h4:=(holds_andW hc).1;rw [hn] at h4;exact h4
  have h5:=condW_of h4 (w_not (w_lt w_lit (w_len_list (w_arg rfl))));rw [Aa] at h5;refine Nat.le_of_not_lt fun q=>?_;have q':(n:Int) < ((ns.length:Nat):Int):=by omega
  first
   | (rw [decide_eq_true q'] at h5;exact absurd h5 (by decide))
   | (simp at h5;omega)
 cases hwl with
 | cons w1 w2=>
  cases w2;cases w1 with
  | list ho hall=>exact⟨_,_,ns,rfl,rfl,ho,j5y ns _ hall,hlen⟩
theorem k4a(l:OpenLaw)(args:List WData):l.row.toRowW.claim.post args (.bool true) args=true:=
 postW_of (r:=l.row.toRowW) (X:=(true == true))
  (show WShape.has [] (.bool true) .bool=true by first | rfl | decide | simp [WShape.has,WShape.arms,WShape.armsAll])
  (show(WTm.eq .res (.lit (.bool true))).value [] {args:=args,res:=some (.bool true),after:=args}=some (.bool (true == true)) from w_eq_bool (w_res rfl) w_lit) rfl
theorem attach_call{l:OpenLaw}{n:Nat}{q:Program}{loose:List Str}{XP:(Str->Option Value)->Heap->Prop}{YP:World->Heap->Prop}{d:DefRec}
  (hn:l.most=some n) (hdf:d.params.defaults=[])
  (call : ∀ (w : World) (s₀ s₁ : Shared) (mg mb : Str → Option Value) (fa : Addr) (o : Obj) (pm cd doc : Value) (a : Addr) (vs : List Value) (ns : List Int),
   Ground q loose [] XP w s₀ mg mb s₁.heap->YP w s₁.heap ->
   s₁.heap.get? fa=some o->o.data = .func (docDef d.name d.params d.body d.scope pm cd doc)->s₁.heap.CodeRec cd d.name->mg d.name=some (.ref fa) ->
   s₁.heap.get? a=some {cls:= .type "list",data:= .seq vs.toArray}->IntsAre vs ns->ns.length<=n->s₁.gens=#[] ->
   codeAny (model l.prog w) callerA (.call (.ref fa) ⟨[.ref a],[]⟩) (fun r s'=>r = .ok (.ret (.bool true))/\OldK s₁.heap s'.heap/\s'.os=s₁.os/\AllBare s'.gens) s₁) :
  WalkO q loose XP YP l.row.toRowW d [] (fun f vs=>PySem.call f vs):=by
 intro w s₀ s₁ mg mb G Y fa o pm cd doc dV kV ho hd hcd hD hmg hg args vals as hpre hlay hrd hwl hlo;obtain rfl:dV = .none:=Dflts.none hD hdf;obtain rfl:kV = .none:=Dflts.noKw hD;obtain⟨a,vs,ns,rfl,rfl,hobj,hints,hlen⟩:=k4r hn hpre hwl;refine enter_call (codeAny_mono (call w s₀ s₁ mg mb fa o pm cd doc a vs ns G Y ho (fd_plain hd) hcd hmg hobj hints hlen hg) fun r s' hq=>?_);obtain⟨rfl,h2,h3,h4⟩:=hq;exact⟨.inl ⟨.bool true,.bool true,[],rfl,fun _=>rfl,.bool true,k4a l _,fun _=>⟨List.Pairwise.nil,fun _ hm=>(nomatch hm)⟩⟩,h2,h3,h4⟩
section
variable{prog:Program}{w:World}{A:Around}{E:Value->Shared->Prop}{s:Shared}{K:Frag}
end
end Att
namespace L2
open PySem PySem.Spec PyProof.Rows
theorem j8m:∀{vs:List Value} {ns:List Int},IntsAre vs ns->Vals (ns.map V.int) vs
 | _,_,.nil=> .nil
 | _,_,.cons n t h=> .cons ⟨t,rfl⟩ (j8m h)
def Only(H:Hp):Prop:=∀ b,H b=none\/∃ o xs,H b=some (.frz o (.lst xs))
theorem k9x{P:Program}{w:World}{K:PySem.W.Frag}{mg mb:Str->Option Value}{CX:CXT}{k:Nat}{fa a:Addr}{fd:FuncData}{x:Str}{sp:Sp}{s₁:Shared}{vs:List Value}{ns:List Int}
  (KX:K.In s₁.heap) (hns:s₁.heap.Ns mainGlobals mg) (hb:s₁.heap.Ns builtinsNs mb) (hbb:∀ x:Str,x ≠ "__name__"->mb x=bootBuiltins x) (hlim:s₁.heap.NoLimit) (hg:s₁.gens=#[])
  (ha:s₁.heap.get? a=some {cls:= .type "list",data:= .seq vs.toArray}) (hi:IntsAre vs ns) (hl:ns.length<=sizeLine) (hr:Room k callerA)
  (F:∀ base:Heap,K.In base->base.Ns mainGlobals mg->FnOk P w K mg base CX k fa fd [x] sp) (hbind:∀(s:Shared) (u:Value),BindsTo s fd ⟨[u],[]⟩ [(x,u)])
  (hsp:∀ H:Hp,Only H->SqL K H a (ns.map V.int)->sp [.ref a] H (fun v _=>v = .bl true) fun _ _ _=>False)
  (hCX:∀ H e s',CX [] H s₁ (fun _ _ _=>False) e s'->False) :
  codeAny (model P w) callerA (.call (.ref fa) ⟨[.ref a],[]⟩) (fun r s'=>r = .ok (.ret (.bool true))/\OldK s₁.heap s'.heap/\s'.os=s₁.os/\AllBare s'.gens) s₁:=by
 have rv:=j8m hi;have lenV:=hi.length;have core:∀ H:Hp,Only H->SqL K H a (ns.map V.int)->HOk P w H s₁.heap->(∀ b,H b≠none->b=a)->(H a≠none->K.lookup a=none) ->
   codeAny (model P w) callerA (.call (.ref fa) ⟨[.ref a],[]⟩) (fun r s'=>r = .ok (.ret (.bool true))/\OldK s₁.heap s'.heap/\s'.os=s₁.os/\AllBare s'.gens) s₁:=by
  intro H hO hS hok hA hK;have base_of:∀{b:Addr} {o:Obj},s₁.heap.get? b=some o->H b=none->(hidT s₁.heap H).get? b=some o:=fun e n=>k71 e n;have noA:∀{b:Addr} {o:Obj} {es:Array DictEntry} {ep:Nat},s₁.heap.get? b=some o->o.data = .dict es ep->H b=none:=fun{b o es ep} e d=>by
   cases q:H b with
   | none=>rfl
   | some u=>
    have e':b=a:=hA b (by rw [q];simp);subst e';rw [ha] at e;cases e;have d':Data.seq vs.toArray _=Data.dict es ep:=d;cases d'
  have nsK:∀{b:Addr} {m:Str->Option Value},s₁.heap.Ns b m->(hidT s₁.heap H).Ns b m:=fun{b m} ⟨o,es,ep,e,d,r⟩=>⟨o,es,ep,base_of e (noA e d),d,r⟩;have hKb:K.In (hidT s₁.heap H):=fun b o e=>base_of (KX b o e) (by
   cases q:H b with
   | none=>rfl
   | some u=>
    have e':b=a:=hA b (by rw [q];simp);subst e';rw [hK (by rw [q];simp)] at e;cases e)
  have hM:Mod K mg (hidT s₁.heap H):=⟨hKb,nsK hns,⟨mb,nsK hb,hbb⟩,let ⟨mc,h1,h2⟩:=hlim;⟨mc,nsK h1,h2⟩⟩;have e0:Env0 P w K mg (hidT s₁.heap H) callerA [] s₁ H:=⟨rfl,hM,fun b o e=>q2g e,Nat.le_of_eq (k3v _ _),trivial,fun b hb=>absurd (show b∈([]:List Addr) from hb) (by simp),hok,.of_eq hg⟩;refine codeAny_mono ((F _ hKb (nsK hns)).run callerA [] s₁ H ⟨[.ref a],[]⟩ [.ref a] [.ref a] _ _ hr e0 (hbind s₁ (.ref a)) (.cons rfl .nil) (hsp H hO hS)) fun r s' h=>?_;cases r with
  | error e=>exact(hCX H e s' h).elim
  | ok fl=>
   cases fl with
   | next=>exact False.elim h
   | brk=>exact False.elim h
   | cont=>exact False.elim h
   | ret u=>
    obtain⟨v,H',os,bare,un,hok',r',q⟩:=h;have q':v = .bl true:=q;subst q';obtain rfl:u=Value.bool true:=r';refine⟨rfl,OldK.of_keep fun b o e=>?_,os,bare⟩;cases q:H b with
    | none=>exact un.keep b o e q (by intro z;exact absurd (show b∈([]:List Addr) from z) (by simp)) (by simp)
    | some u=>
     rcases hO b with z | ⟨ob,xs,z⟩
     ·rw [q] at z;cases z
     ·have z2:=un.frzs b ob _ z;obtain⟨e1,_⟩:=hok b _ z;obtain⟨e2,_⟩:=hok' b _ z2;rw [e] at e1;cases e1;exact e2
 cases hk:K.lookup a with
 | some o=>
  have e:=KX a o hk;rw [ha] at e;cases e;refine core (fun _=>none) (fun _=> .inl rfl) (.inr ⟨_,vs.toArray,_,hk,rfl,rfl,rfl,by rw [Aq,lenV];exact hl,by simpa using rv⟩) (fun b u z=>by have z':(none:Option HO)=some u:=z;cases z') (fun b z=>absurd rfl z) fun z=>absurd rfl z
 | none=>
  refine core (fun b=>if b=a then some (.frz {cls:= .type "list",data:= .seq vs.toArray} (.lst (ns.map V.int))) else none) (fun b=>?_) (.inl (.inr ⟨{cls:= .type "list",data:= .seq vs.toArray},if_pos rfl⟩)) (fun b u z=>?_) (fun b z=>?_) fun _=>hk
  ·by_cases hb:b=a
   ·exact .inr ⟨_,_,if_pos hb⟩
   ·exact .inl (if_neg hb)
  ·by_cases hb:b=a
   ·have z':=(if_pos hb).symm.trans z;cases z';subst hb;exact⟨ha,by rw [Aa];exact hl,vs,_,rv,ha⟩
   ·have z':=(if_neg hb).symm.trans z;cases z'
  ·by_cases hb:b=a
   ·exact hb
   ·exact absurd (if_neg hb) z
end L2
namespace L2
open PySem PySem.Spec PyProof.Rows
theorem walk_of{l:PySem.W.OpenLaw}{n k:Nat}{q:Program}{loose:List Str}{XP:(Str->Option Value)->Heap->Prop}{YP:World->Heap->Prop}{d:DefRec}{K:Params->PySem.W.Frag}{CX:World->CXT}{sp:World->Sp}{x:Str}
  (hn:l.most=some n) (hn2:n<=sizeLine) (hdf:d.params.defaults=[]) (hr:Room k callerA)
  (hY:∀(w:World) (h:Heap),YP w h->(K w.params).In h)
  (F : ∀ (w : World) (mg : Str → Option Value) (fa : Addr) (h : Heap), (K w.params).In h → h.Ns mainGlobals mg → mg d.name = some (.ref fa) →
   ∃ fd:FuncData,(∀(s:Shared) (u:Value),BindsTo s fd ⟨[u],[]⟩ [(x,u)]) /\
    ∀ base:Heap,(K w.params).In base->base.Ns mainGlobals mg->FnOk l.prog w (K w.params) mg base (CX w) k fa fd [x] (sp w))
  (hsp:∀(w:World) (H:Hp) (a:Addr) (ns:List Int),ns.length<=n->Only H->SqL (K w.params) H a (ns.map V.int)->sp w [.ref a] H (fun v _=>v = .bl true) fun _ _ _=>False)
  (hCX:∀(w:World) (H:Hp) (s:Shared) (e:Value) (s':Shared),CX w [] H s (fun _ _ _=>False) e s'->False) :
  PySem.W.WalkO q loose XP YP l.row.toRowW d [] (fun f vs=>PySem.call f vs):=by
 refine Att.attach_call hn hdf fun w s₀ s₁ mg mb fa o pm cd doc a vs ns G Y ho hd hcd hmg hobj hints hlen hg=>?_;have KX:=hY w _ Y;obtain⟨fd,hb,hF⟩:=F w mg fa _ KX G.T.g hmg;exact k9x KX G.T.g G.T.b G.T.builtins G.T.nolimit hg hobj hints (Bv hlen hn2) hr hF hb (fun H hO hS=>hsp w H a ns hlen hO hS) fun H e s'=>hCX w H s₁ e s'
end L2
namespace L2
open PySem PySem.Spec PyProof.Rows
def j3t(s:Stmt):Arguments:=match s with
 | .FunctionDef _ a _ _ _ _ _ _ _ _=>a
 | _=>{posonlyargs:=[],args:=[],vararg:=none,kwonlyargs:=[],kw_defaults:=[],kwarg:=none,defaults:=[]}
def j17(s:Stmt):List Stmt:=match s with
 | .FunctionDef _ _ b _ _ _ _ _ _ _=>b
 | _=>[]
def j0g(s:Stmt):Scope:=match s with
 | .FunctionDef _ _ _ _ _ _ sc _ _ _=>sc
 | _=>{kind:= .function,names:=[],isGenerator:=false,isCoroutine:=false}
abbrev CX0:CXT:=fun _ _ _ _ _ _=>False
abbrev E0:XK:=fun _ _ _=>False
theorem q7f{X:Cx}:j4h CX0 X E0:=fun _ _ _ _ _ _ _ h=>h.elim
structure Fun(K:PySem.W.Frag)(x qual:Str)(st:Stmt)(f:Addr)(fd:FuncData):Prop where
 ex:∃(oc:Value) (od:Option Addr) (kV doc pm:Value) (an:Option Addr) (cdv ct:Value) (osl:Array (Option Value)),
  fd=PySem.W.fnOf x qual (j3t st) (j17 st) (j0g st) .none kV doc pm an cdv ct/\K.lookup f=some ⟨oc,od,.func fd,osl⟩/\PySem.W.codeIn K cdv qual=true
 kp:PySem.W.keepIn K (.ref f)=true
section
variable{P:Program}{w:World}{K:PySem.W.Frag}{mg:Str->Option Value}{base:Heap}
theorem Fun.ok{x qual:Str}{st:Stmt}{f:Addr}{fd:FuncData}{N ps:List Str}{k:Nat}{sp:Sp}(F:Fun K x qual st f fd)(S:FnScope N ps (j0g st))(len:∀ vs H Q E,sp vs H Q E->vs.length=ps.length)
  (hbody : ∀ (cdv : Value) (A : Around) (outer : List Env) (s : Shared) (H : Hp) (vs : List V) (Q : VK) (E : XK), Room k (A.deeper (envOfC qual (j0g st) s.heap.objs.size f cdv)) → sp vs H Q E →
   ∃ t,PSs (cxOf CX0 P w K mg base N qual (j0g st) f cdv A outer s H E).nox (j17 st) t/\t {nx:=fun _ H'=>Q .non H',rt:=Q} (start N vs) H):FnOk P w K mg base CX0 (k+1) f fd ps sp:=by
 obtain⟨oc,od,kV,doc,pm,an,cdv,ct,osl,rfl,lk,hcd⟩:=F.ex;refine q6m lk hcd S len fun A outer s H vs Q E hr hsp=>?_;obtain⟨t,h,q⟩:=hbody cdv A outer s H vs Q E hr hsp;exact⟨t,h.nox,q⟩
theorem Fun.binds{x qual:Str}{st:Stmt}{f:Addr}{fd:FuncData}{ps:List Str}(F:Fun K x qual st f fd)
  (h:∀(kV doc pm:Value) (an:Option Addr) (cdv ct:Value) (us:List Value),us.length=ps.length->bindArgs (PySem.W.fnOf x qual (j3t st) (j17 st) (j0g st) .none kV doc pm an cdv ct) ⟨us,[]⟩=pure (ps.zip us)):Binds K fd ps []:=by
 obtain⟨oc,od,kV,doc,pm,an,cdv,ct,osl,rfl,lk,hcd⟩:=F.ex;exact .all (h kV doc pm an cdv ct)
theorem q4s{x qual:Str}{st:Stmt}{f:Addr}{oc:Value}{od an:Option Addr}{osl:Array (Option Value)}{kV doc pm cdv ct:Value}(l:K.lookup f=some ⟨oc,od,.func (PySem.W.fnOf x qual (j3t st) (j17 st) (j0g st) .none kV doc pm an cdv ct),osl⟩)
  (c:PySem.W.codeIn K cdv qual=true) (k:PySem.W.keepIn K (.ref f)=true):Fun K x qual st f (PySem.W.fnOf x qual (j3t st) (j17 st) (j0g st) .none kV doc pm an cdv ct):=⟨⟨oc,od,kV,doc,pm,an,cdv,ct,osl,rfl,l,c⟩,k⟩
end
section
variable{X:Cx}
end
theorem iteF{A B:Prop}(h:B):if false=true then A else B:=by
 rw [if_neg Al];exact h
theorem iteT{A B:Prop}(h:A):if true=true then A else B:=by
 rw [if_pos rfl];exact h
theorem ite2{c A B:Prop} [Decidable c] (h1:c->A) (h2:¬ c->B):if c then A else B:=by
 by_cases h:c
 ·rw [if_pos h];exact h1 h
 ·rw [if_neg h];exact h2 h
def Same(H H':Hp):Prop:=∀ b o,H b=some o->H' b=some o
theorem Same.refl(H:Hp):Same H H:=fun _ _ h=>h
theorem Same.trans{H H1 H2:Hp}(a:Same H H1)(b:Same H1 H2):Same H H2:=fun c o h=>b c o (a c o h)
theorem Same.free{H H':Hp}(e:Same H H'){l:Addr}(h:H' l=Option.none):H l=Option.none:=by
 cases q:H l with
 | none=>rfl
 | some o=>
  rw [e l o q] at h;cases h
theorem Same.seq{K:PySem.W.Frag}{H H':Hp}{a:Addr}{xs:List V}(e:Same H H')(h:SqL K H a xs):SqL K H' a xs:=by
 rcases h with (h | ⟨o,h⟩) | h
 ·exact .inl (.inl (e _ _ h))
 ·exact .inl (.inr ⟨o,e _ _ h⟩)
 ·exact .inr h
end L2
namespace L2
open PySem PySem.Spec PyProof.Rows
section
variable{κ:Type} [DecidableEq κ]
def valV(kvs:List (κ×V))(k:κ):Option V:=(kvs.find? fun kv=>decide (kv.1=k)).map (·.2)
def putK(kvs:List (κ×V))(k:κ)(v:V):List (κ×V):=
 if(kvs.any fun kv=>decide (kv.1=k))=true then kvs.map (fun kv=>if kv.1=k then(kv.1,v) else kv) else kvs++[(k,v)]
theorem j1k{p:κ×V}{r:List (κ×V)}{k:κ}(e:p.1=k):valV (p :: r) k=some p.2:=by simp [valV,Ek,e]
theorem j1g{p:κ×V}{r:List (κ×V)}{k:κ}(e:¬ p.1=k):valV (p :: r) k=valV r k:=by simp [valV,Ek,e]
theorem j3w(k:κ):∀ kvs:List (κ×V),(kvs.any fun kv=>decide (kv.1=k))=(valV kvs k).isSome
 | []=>rfl
 | p :: r=>by
  rw [Ds]
  by_cases e:p.1=k
  ·simp only [j1k e,decide_eq_true e,Bool.true_or,Option.isSome_some]
  ·rw [j1g e,decide_eq_false e,Bool.false_or];exact j3w k r
theorem k1k(k j:κ)(y:V):∀ kvs:List (κ×V),valV (kvs.map fun kv=>if kv.1=k then(kv.1,y) else kv) j=(valV kvs j).map fun x=>if j=k then y else x
 | []=>rfl
 | p :: r=>by
  have ih:=k1k k j y r;rw [Bc]
  by_cases h:p.1=k
  ·rw [if_pos h]
   by_cases e:p.1=j
   ·rw [j1k (p:=(p.1,y)) e,j1k e,Fu,if_pos (e.symm.trans h)]
   ·rw [j1g (p:=(p.1,y)) e,j1g e,ih]
  ·rw [if_neg h]
   by_cases e:p.1=j
   ·rw [j1k (p:=p) e,j1k e,Fu,if_neg (fun z=>h (e.trans z))]
   ·rw [j1g (p:=p) e,j1g e,ih]
theorem j9i(k j:κ)(y:V):∀ kvs:List (κ×V),valV kvs k=none->valV (kvs++[(k,y)]) j=if j=k then some y else valV kvs j
 | [],_=>by
  by_cases e:k=j
  ·rw [if_pos e.symm];exact j1k (p:=(k,y)) e
  ·rw [if_neg (fun z=>e z.symm)];exact j1g (p:=(k,y)) e
 | p :: r,hn=>by
  rw [List.cons_append];have hk:¬ p.1=k:=fun z=>by rw [j1k z] at hn;cases hn
  rw [j1g hk] at hn;have ih:=j9i k j y r hn
  by_cases e:p.1=j
  ·rw [j1k e,j1k e,if_neg (fun z=>hk (e.trans z))]
  ·rw [j1g e,j1g e,ih]
theorem j03(kvs:List (κ×V))(k j:κ)(y:V):valV (putK kvs k y) j=if j=k then some y else valV kvs j:=by
 unfold putK
 by_cases a:(kvs.any fun kv=>decide (kv.1=k))=true
 ·rw [if_pos a,k1k];rw [j3w] at a
  by_cases e:j=k
  ·obtain⟨x,hx⟩:=Ec.mp a;rw [if_pos e,e,hx,Fu,if_pos rfl]
  ·rw [if_neg e];cases valV kvs j with
   | none=>rfl
   | some x=>rw [Fu,if_neg e]
 ·rw [if_neg a];refine j9i k j y kvs ?_;rw [j3w] at a;cases q:valV kvs k with
  | none=>rfl
  | some x=>rw [q] at a;exact(a rfl).elim
theorem j06(kvs:List (κ×V))(k:κ)(v:V):(putK kvs k v).length<=kvs.length+1:=by
 unfold putK
 split
 ·rw [Aa];omega
 ·rw [Af,An,Fe];omega
theorem k07{kvs:List (κ×V)}{k:κ}(v:V)(h:valV kvs k=none):putK kvs k v=kvs++[(k,v)]:=by
 unfold putK;rw [j3w,h];exact if_neg (by decide)
theorem RelO.isSome_eq{o:Option V}{u:Option Value}(r:RelO o u):o.isSome=u.isSome:=by
 cases o with
 | none=>cases u with
  | none=>rfl
  | some _=>exact(show False from r).elim
 | some _=>cases u with
  | none=>exact(show False from r).elim
  | some _=>rfl
theorem KV.val{kvs:List (κ×V)}{vs:List (κ×Value)}(r:KV kvs vs)(k:κ):RelO (valV kvs k) (valueAt vs k):=by
 unfold KV at r
 induction r with
 | nil=>exact True.intro
 | @cons p q ps qs h t ih=>
  obtain⟨h1,h2⟩:=h
  by_cases e:p.1=k
  ·have e':q.1=k:=h1.symm.trans e;have b:valueAt (q :: qs) k=some q.2:=by simp [valueAt,Ek,e']
   rw [j1k e,b];exact h2
  ·have e':¬ q.1=k:=fun z=>e (h1.trans z);have b:valueAt (q :: qs) k=valueAt qs k:=by simp [valueAt,Ek,e']
   rw [j1g e,b];exact ih
theorem KV.any{kvs:List (κ×V)}{vs:List (κ×Value)}(r:KV kvs vs)(k:κ):(kvs.any fun kv=>decide (kv.1=k))=vs.any fun kv=>decide (kv.1=k):=by
 unfold KV at r
 induction r with
 | nil=>rfl
 | cons h t ih=>rw [Ds,Ds,ih,h.1]
theorem KV.repl{kvs:List (κ×V)}{vs:List (κ×Value)}(r:KV kvs vs)(k:κ){y:V}{u:Value}(ry:RelV y u) :
  KV (kvs.map fun kv=>if kv.1=k then(kv.1,y) else kv) (vs.map fun kv=>if kv.1=k then(kv.1,u) else kv):=by
 unfold KV at r ⊢
 induction r with
 | nil=>exact .nil
 | @cons p q ps qs h t ih=>
  rw [Bc,Bc];refine .cons ?_ ih;obtain⟨h1,h2⟩:=h
  by_cases e:p.1=k
  ·rw [if_pos e,if_pos (h1.symm.trans e)];exact⟨h1,ry⟩
  ·rw [if_neg e,if_neg (fun z=>e (h1.trans z))];exact⟨h1,h2⟩
theorem KV.put{kvs:List (κ×V)}{vs:List (κ×Value)}(r:KV kvs vs)(k:κ){y:V}{u:Value}(ry:RelV y u):KV (putK kvs k y) (stored vs k u):=by
 unfold putK stored;rw [r.any k]
 by_cases e:(vs.any fun kv=>decide (kv.1=k))=true
 ·rw [if_pos e,if_pos e];exact r.repl k ry
 ·rw [if_neg e,if_neg e];exact Paired.snoc r ⟨rfl,ry⟩
theorem KV.keys{kvs:List (κ×V)}{vs:List (κ×Value)}(r:KV kvs vs):kvs.map (·.1)=vs.map (·.1):=by
 unfold KV at r
 induction r with
 | nil=>rfl
 | cons h t ih=>rw [Bc,Bc,ih,h.1]
theorem KV.length{kvs:List (κ×V)}{vs:List (κ×Value)}(r:KV kvs vs):kvs.length=vs.length:=Paired.length r
end
theorem j8y{P:Program}{w:World}{k:Key}{u:Value}(r:RelV (kV k) u):(j0p P w).is k u=true:=by
 cases k with
 | inl i=>obtain⟨t,e⟩:=(show ∃ t,u=Value.int i t from r);subst e;exact k0l P w i t
 | inr x=>obtain⟨t,e⟩:=(show ∃ t,u=Value.str x t from r);subst e;exact k0t P w x t
theorem j8u{P:Program}{w:World}:∀{ks:List Key} {us:List Value},Vals (ks.map kV) us->ItemsAre (j0p P w) ks us
 | [],_,r=>by rw [List.map_nil] at r;cases r;exact .nil
 | k :: ks,_,r=>by
  rw [Bc] at r;cases r with
  | cons h t=>exact .cons (j8y h) (j8u t)
abbrev KT(H:Hp):List (List Key×V)->List (List Key×Addr×Value)->Prop:=Paired fun p q=>p.1=q.1/\H q.2.1=some (.tup (p.1.map kV))/\RelV p.2 q.2.2
theorem KT.val{H:Hp}{kvs:List (List Key×V)}{xs:List (List Key×Addr×Value)}(r:KT H kvs xs)(k:List Key):RelO (valV kvs k) ((atKey xs k).map (·.2)):=by
 induction r with
 | nil=>exact True.intro
 | @cons p q ps qs h t ih=>
  obtain⟨h1,_,h2⟩:=h
  by_cases e:p.1=k
  ·have e':q.1=k:=h1.symm.trans e;have b:atKey (q :: qs) k=some q.2:=by simp [atKey,Ek,e']
   rw [j1k e,b];exact h2
  ·have e':¬ q.1=k:=fun z=>e (h1.trans z);have b:atKey (q :: qs) k=atKey qs k:=by simp [atKey,Ek,e']
   rw [j1g e,b];exact ih
theorem KT.repl{H:Hp}{kvs:List (List Key×V)}{xs:List (List Key×Addr×Value)}(r:KT H kvs xs)(k:List Key){y:V}{u:Value}(ry:RelV y u) :
  KT H (kvs.map fun kv=>if kv.1=k then(kv.1,y) else kv) (xs.map (putAt k u)):=by
 induction r with
 | nil=>exact .nil
 | @cons p q ps qs h t ih=>
  rw [Bc,Bc];refine .cons ?_ ih;obtain⟨h1,h2,h3⟩:=h;unfold putAt
  by_cases e:p.1=k
  ·rw [if_pos e,if_pos (h1.symm.trans e)];exact⟨h1,h2,ry⟩
  ·rw [if_neg e,if_neg (fun z=>e (h1.trans z))];exact⟨h1,h2,h3⟩
theorem KT.put{H:Hp}{kvs:List (List Key×V)}{xs:List (List Key×Addr×Value)}(r:KT H kvs xs)(k:List Key){b:Addr}{y:V}{u:Value}(hb:H b=some (.tup (k.map kV)))(ry:RelV y u) :
  KT H (putK kvs k y) (storedH xs k b u):=by
 have e:(kvs.any fun kv=>decide (kv.1=k))=(atKey xs k).isSome:=by
  rw [j3w,(r.val k).isSome_eq,Option.isSome_map]
 unfold putK storedH;rw [e]
 by_cases q:(atKey xs k).isSome=true
 ·rw [if_pos q,if_pos q];exact r.repl k ry
 ·rw [if_neg q,if_neg q];exact Paired.snoc r ⟨rfl,hb,ry⟩
theorem KT.keeps{H H':Hp}{kvs:List (List Key×V)}{xs:List (List Key×Addr×Value)}(r:KT H kvs xs)(ht:∀ b ys,H b=some (.tup ys)->H' b=some (.tup ys)):KT H' kvs xs:=
 Paired.mapP r fun _ _ z=>⟨z.1,ht _ _ z.2.1,z.2.2⟩
section
variable{P:Program}{w:World}{H:Hp}{h:Heap}{a:Addr}
theorem q48{u:HO}(ok:HOk P w H h)(e:Rd H a u):ObjOk P w H h a u:=e.ok ok
theorem j91{kvs:List (Key×V)}(ok:HOk P w H h)(e:Rd H a (.dK kvs)):kvs.length<=sizeLine/\(a == sysModules)=false/\∃ vs,KV kvs vs/\h.DictOf (j0p P w) a vs:=
 show ObjOk P w H h a (.dK kvs) from q48 ok e
theorem q2h{kvs:List (Key×V)}(ok:HOk P w H h)(e:H a=some (.dK kvs)):kvs.length<=sizeLine/\(a == sysModules)=false/\∃ vs,KV kvs vs/\h.DictOf (j0p P w) a vs:=j91 ok (.inl e)
theorem j33{ks:List Key}(ok:HOk P w H h)(e:H a=some (.tup (ks.map kV))):(tupleKind (j0p P w)).is h ks a:=by
 obtain⟨_,its,r,o,h1,h2,n,h3⟩:=(show ObjOk P w H h a (.tup (ks.map kV)) from ok a _ e);exact⟨o,its.toArray,n,h1,h2,h3,by simpa using j8u r⟩
theorem k6q{kvs:List (List Key×V)}(ok:HOk P w H h)(e:Rd H a (.dT kvs)):kvs.length<=sizeLine/\(a == sysModules)=false /\
  ∃ xs,KT H kvs xs/\h.DictOfH (tupleKind (j0p P w)) a xs:=by
 obtain⟨z,y,xs,r,o,es,ep,h1,h2,h3,h4,h5⟩:=(show ObjOk P w H h a (.dT kvs) from q48 ok e);refine⟨z,y,xs,r,o,es,ep,h1,h2,h3,h4,fun x hx=>?_,h5⟩;have all:∀{l:List (List Key×V)} {m:List (List Key×Addr×Value)},KT H l m->∀ x∈m,(tupleKind (j0p P w)).is h x.1 x.2.1:=by
  intro l m q
  induction q with
  | nil=>intro x hx;exact nomatch hx
  | @cons p q ps qs hq t ih=>
   intro x hx
   rcases Ap.mp hx with e | hx
   ·subst e;exact j33 ok (by rw [<- hq.1];exact hq.2.1)
   ·exact ih x hx
 exact all r x hx
theorem q6l{kvs:List (List Key×V)}(ok:HOk P w H h)(e:H a=some (.dT kvs)):kvs.length<=sizeLine/\(a == sysModules)=false /\
  ∃ xs,KT H kvs xs/\h.DictOfH (tupleKind (j0p P w)) a xs:=k6q ok (.inl e)
end
def DGet(H:Hp)(a:Addr)(y:V)(r:Option V):Prop:=
 (∃ kvs k,Rd H a (.dK kvs)/\y=kV k/\r=valV kvs k)\/∃ kvs k b,Rd H a (.dT kvs)/\y = .ref b/\H b=some (.tup (k.map kV))/\r=valV kvs k
def DPut(H:Hp)(a:Addr)(y v:V)(H':Hp):Prop:=
 (∃ kvs k,H a=some (.dK kvs)/\y=kV k/\kvs.length < sizeLine/\H'=upd H a (.dK (putK kvs k v))) \/
 ∃ kvs k b,H a=some (.dT kvs)/\y = .ref b/\H b=some (.tup (k.map kV))/\kvs.length < sizeLine/\H'=upd H a (.dT (putK kvs k v))
theorem DGet.k{H:Hp}{a:Addr}{kvs:List (Key×V)}{k:Key}(e:H a=some (.dK kvs)):DGet H a (kV k) (valV kvs k):= .inl ⟨kvs,k,.inl e,rfl,rfl⟩
theorem DGet.t{H:Hp}{a b:Addr}{kvs:List (List Key×V)}{k:List Key}(e:H a=some (.dT kvs))(eb:H b=some (.tup (k.map kV))):DGet H a (.ref b) (valV kvs k):= .inr ⟨kvs,k,b,.inl e,rfl,eb,rfl⟩
theorem DPut.k{H:Hp}{a:Addr}{kvs:List (Key×V)}{k:Key}{v:V}(e:H a=some (.dK kvs))(hl:kvs.length < sizeLine):DPut H a (kV k) v (upd H a (.dK (putK kvs k v))):= .inl ⟨kvs,k,e,rfl,hl,rfl⟩
theorem DPut.t{H:Hp}{a b:Addr}{kvs:List (List Key×V)}{k:List Key}{v:V}(e:H a=some (.dT kvs))(eb:H b=some (.tup (k.map kV)))(hl:kvs.length < sizeLine) :
  DPut H a (.ref b) v (upd H a (.dT (putK kvs k v))):= .inr ⟨kvs,k,b,e,rfl,eb,hl,rfl⟩
section
variable{X:Cx}{pins:List (Addr×Obj)}{σ:St}{H:Hp}{s:Shared}{a:Addr}{y v:V}{u r:Value}{o:Option V}{A:Around}{E:Value->Shared->Prop}
theorem Inv.big(I:Inv X pins σ H s):sysModules < s.heap.objs.size:=by
 have h:mainGlobals < s.heap.objs.size:=(I.mod.glob.keeps I.bk).lt;exact Nat.lt_trans (by decide) h
theorem k3z{Q:Value->Shared->Prop}(hu:A.units+1 < cLine)(I:Inv X pins σ H s)(g:DGet H a y (some v))(ry:RelV y u)(h:∀ w' s',Inv X pins σ H s'->RelV v w'->Q w' s') :
  wpAny (model X.prog X.w) A (getItem (.ref a) u) Q E s:=by
 rcases g with ⟨kvs,k,e,ey,l⟩ | ⟨kvs,k,b,e,ey,eb,l⟩
 ·subst ey;obtain⟨z,hd,vs,rel,dd⟩:=j91 I.hok e;obtain⟨w',hw,rw'⟩:=RelO.some_of (v:=v) (o:=valueAt vs k) (by rw [l];exact rel.val k);exact wpAny_getItem_of (j8y ry) dd.mapOf hw (h w' _ (I.tok _) rw')
 ·subst ey;cases (show u=Value.ref b from ry);obtain⟨z,hd,xs,rel,dd⟩:=k6q I.hok e;obtain⟨w',hw,rw'⟩:=RelO.some_of (v:=v) (o:=(atKey xs k).map (·.2)) (by rw [l];exact rel.val k);obtain⟨p,hp,hp2⟩:=Aw.mp hw;refine wpAny_getItem_heap (tupleKind_room_in1 hu) (j33 I.hok eb) dd hp ?_;rw [hp2];exact h w' _ (I.tok _) rw'
theorem d_in{Q:Value->Shared->Prop}(hu:A.units+1 < cLine)(I:Inv X pins σ H s)(g:DGet H a y o)(ry:RelV y u)(h:∀ s',Inv X pins σ H s'->Q (.bool o.isSome) s') :
  wpAny (model X.prog X.w) A (compareOp .In u (.ref a)) Q E s:=by
 rcases g with ⟨kvs,k,e,ey,l⟩ | ⟨kvs,k,b,e,ey,eb,l⟩
 ·subst ey;obtain⟨z,hd,vs,rel,dd⟩:=j91 I.hok e;refine wpAny_in_of (j8y ry) hd dd.mapOf ?_;rw [<- (rel.val k).isSome_eq,<- l];exact h _ (I.tok _)
 ·subst ey;cases (show u=Value.ref b from ry);obtain⟨z,hd,xs,rel,dd⟩:=k6q I.hok e;refine wpAny_in_heap (tupleKind_room_in1 hu) (j33 I.hok eb) hd dd ?_;have q:=(rel.val k).isSome_eq;rw [Option.isSome_map] at q;rw [<- q,<- l];exact h _ (I.tok _)
theorem q1u{Q:Value->Shared->Prop}(hu:A.units+1 < cLine)(I:Inv X pins σ H s)(g:DGet H a y o)(ry:RelV y u)(h:∀ s',Inv X pins σ H s'->Q (.bool (!o.isSome)) s') :
  wpAny (model X.prog X.w) A (compareOp .NotIn u (.ref a)) Q E s:=by
 rcases g with ⟨kvs,k,e,ey,l⟩ | ⟨kvs,k,b,e,ey,eb,l⟩
 ·subst ey;obtain⟨z,hd,vs,rel,dd⟩:=j91 I.hok e;refine wpAny_notIn_of (j8y ry) hd dd.mapOf ?_;rw [<- (rel.val k).isSome_eq,<- l];exact h _ (I.tok _)
 ·subst ey;cases (show u=Value.ref b from ry);obtain⟨z,hd,xs,rel,dd⟩:=k6q I.hok e;refine wpAny_notIn_heap (tupleKind_room_in1 hu) (j33 I.hok eb) hd dd ?_;have q:=(rel.val k).isSome_eq;rw [Option.isSome_map] at q;rw [<- q,<- l];exact h _ (I.tok _)
theorem j3i{h':Heap}{t':Nat}{ob:HO}(I:Inv X pins σ H s)(mu:Mut (H a))(hs:Heap.SameBut a s.heap h')(he:∃ q,h'.get? a=some q)(new:ObjOk X.prog X.w (upd H a ob) h' a ob) :
  Inv X pins σ (upd H a ob) {s with heap:=h',toks:=t'}:=
 I.write (x:=a) (e:=a) mu (.inl rfl) (fun b q hb z=>(hs.2 b hb).trans z) he new
theorem k5o{P:Program}{w:World}{H':Hp}{h':Heap}{kvs:List (Key×V)}{vs:List (Key×Value)}(z:kvs.length<=sizeLine)(hd:(a == sysModules)=false)(rel:KV kvs vs)(dd:h'.DictOf (j0p P w) a vs) :
  ObjOk P w H' h' a (.dK kvs):=⟨z,hd,vs,rel,dd⟩
theorem k46{H':Hp}{Q:Unit->Shared->Prop}(hu:A.units+1 < cLine)(I:Inv X pins σ H s)(g:DPut H a y v H')(ry:RelV y u)(rv:RelV v r)(h:∀ s',Inv X pins σ H' s'->Q () s') :
  wpAny (model X.prog X.w) A (setItem (.ref a) u r) Q E s:=by
 rcases g with ⟨kvs,k,e,ey,l,eH⟩ | ⟨kvs,k,b,e,ey,eb,l,eH⟩
 ·subst ey eH;obtain⟨z,hd,vs,rel,dd⟩:=q2h I.hok e;have hz:vs.length<=sizeLine:=by rw [<- rel.length];exact z
  have hl:(putK kvs k v).length<=sizeLine:=by have:=j06 kvs k v;omega
  refine wpAny_setItem_pairs (hsz:=hz) (j8y ry) dd fun h' dd' hs=>h _ ?_;have he:∃ q,h'.get? a=some q:=let ⟨q,_,_,hq,_⟩:=dd';⟨q,hq⟩
  exact j3i I (by rw [e];exact True.intro) hs he (k5o hl hd (rel.put k rv) dd')
 ·subst ey eH;cases (show u=Value.ref b from ry);obtain⟨z,hd,xs,rel,dd⟩:=q6l I.hok e;have hz:xs.length<=sizeLine:=by rw [<- Paired.length rel];exact z
  have hl:(putK kvs k v).length<=sizeLine:=by have:=j06 kvs k v;omega
  refine wpAny_setItem_heap (hsz:=hz) (tupleKind_room_in1 hu) (j33 I.hok eb) dd fun h' dd' hs=>h _ ?_;obtain⟨q,es,ep,hq,h2,h3,h4,_,h5⟩:=dd';refine j3i I (by rw [e];exact True.intro) hs ⟨q,hq⟩ ⟨hl,hd,_,(rel.put k eb rv).keeps fun c ys ec=>?_,q,es,ep,hq,h2,h3,h4,h5⟩;rw [j0d (j1s ec e (fun z=>nomatch z))];exact ec
end
section
variable{X:Cx}{pins:List (Addr×Obj)}{σ:St}{H:Hp}{s:Shared}{a:Addr}{kvs:List (Key×V)}{k:Key}{u:Value}{A:Around}{E:Value->Shared->Prop}
theorem q63{Q:Value->Shared->Prop}(I:Inv X pins σ H s)(e:Rd H a (.dK kvs))(h:∀ t s',Inv X pins σ H s'->Q (.int kvs.length t) s'):wpAny (model X.prog X.w) A (call (.builtin "len") [.ref a]) Q E s:=by
 obtain⟨z,hd,vs,rel,dd⟩:=j91 I.hok e;refine call_len_dict hd dd (by rw [<- rel.length];rw [sizeLine_eq] at z;omega) ?_;rw [<- rel.length];exact h _ _ (I.tok _)
end
def NoSl(i:Expr):Prop:=∀ ov iv,subscripted i false ov iv=operate [ov,iv] (getItem ov iv)
theorem q29{prog:Program}{w:World}{A:Around}{E:Value->Shared->Prop}{s:Shared}{env:Env}{value slice:Expr}{pos:Pos}{T id:String}{Q:Value->Shared->Prop}
  (hl:typeLookup (.type T) "__getitem__" = pure (some (.builtin id))) (hs:NoSl slice)
  (h:wpAny (model prog w) A (eval value env) (fun o s₁=>wpAny (model prog w) A (eval slice env) (fun i s₂=>s₂.TypeIs o T/\wpAny (model prog w) A (getItem o i) Q E s₂) E s₁) E s) :
  wpAny (model prog w) A (eval (.Subscript value slice pos) env) Q E s:=by
 refine Subscript_ (wpAny_mono h (fun o s₁ h₁=>wpAny_mono h₁ (fun i s₂ h₂=>?_) fun _ _ x=>x) fun _ _ x=>x);obtain⟨hT,h₂⟩:=h₂;unfold subscriptTail;refine wpAny_bind ?_;rw [getitemInPython_of_ne hT.not_modules];refine wpAny_bind (wpAny_specialOf hT hl ?_);have fin:wpAny (model prog w) A (subscripted slice false o i) (fun r s₃=>wpAny (model prog w) A (letTemporaryGo value o r >>= fun _=>pure r) Q E s₃) E s₂:=by
  rw [hs o i];exact wpAny_operating (wpAny_mono h₂ (fun r s₃ h₃=>wpAny_bind (wpAny_letTemporaryGo (wpAny_pure h₃))) fun _ _ x=>x)
 first
  | exact wpAny_pure (wpAny_bind fin)
  | exact wpAny_bind (wpAny_pure (wpAny_bind fin))
  | exact wpAny_bind fin
theorem k0s{X:Cx}{pins:List (Addr×Obj)}{σ:St}{H:Hp}{s:Shared}{a:Addr}{y:V}{o:Option V}(I:Inv X pins σ H s)(g:DGet H a y o):s.TypeIs (.ref a) "dict":=by
 rcases g with ⟨kvs,k,e,_,_⟩ | ⟨kvs,k,b,e,_,_,_⟩
 ·obtain⟨_,_,vs,_,dd⟩:=j91 I.hok e;exact dd.typeIs
 ·obtain⟨_,_,xs,_,dd⟩:=k6q I.hok e;exact dd.typeIs
def q7t(td ty:TE):TE:=fun σ H Q=>td σ H fun x H1=>ty σ H1 fun y H2=>∃ a v,x = .ref a/\DGet H2 a y (some v)/\Q v H2
def tDIn(ty td:TE):TE:=fun σ H Q=>ty σ H fun y H1=>td σ H1 fun x H2=>∃ a o,x = .ref a/\DGet H2 a y o/\Q (.bl o.isSome) H2
def q3q(ty td:TE):TE:=fun σ H Q=>ty σ H fun y H1=>td σ H1 fun x H2=>∃ a o,x = .ref a/\DGet H2 a y o/\Q (.bl (!o.isSome)) H2
def q7h(td ty tv:TE):TS:=fun D σ H=>tv σ H fun v H1=>td σ H1 fun x H2=>ty σ H2 fun y H3=>∃ a H4,x = .ref a/\DPut H3 a y v H4/\D.nx σ H4
section
variable{X:Cx}{o i e value:Expr}{pos pos' tpos:Pos}{td ty tv:TE}
theorem q3x(hu:X.A.units+1 < cLine)(ho:PE X o td)(hi:PE X i ty)(hs:NoSl i):PE X (.Subscript o i pos) (q7t td ty):=by
 intro pins s σ H Q I h;refine q29 PySem.F.slot_dict_getitem.lookup hs (thn (ho pins s σ H _ I h) fun u s1 ⟨x,H1,I1,rx,q1⟩=>thn (hi pins s1 σ H1 _ I1 q1) fun iv s2 ⟨y,H2,I2,ry,a,v,ex,g,q2⟩=>?_);subst ex;obtain rfl:u=Value.ref a:=rx;exact⟨k0s I2 g,k3z hu I2 g ry fun w' s3 I3 rw'=>⟨v,H2,I3,rw',q2⟩⟩
theorem q40(hu:X.A.units+1 < cLine)(hi:PE X i ty)(ho:PE X o td):PC X .In i o (tDIn ty td):=by
 intro pins s σ H Q I h;refine thn (hi pins s σ H _ I h) fun iv s1 ⟨y,H1,I1,ry,q1⟩=>thn (ho pins s1 σ H1 _ I1 q1) fun u s2 ⟨x,H2,I2,rx,a,ov,ex,g,q2⟩=>?_;subst ex;obtain rfl:u=Value.ref a:=rx;exact d_in hu I2 g ry fun s3 I3=>⟨.bl ov.isSome,H2,I3,rfl,q2⟩
theorem k6g(hu:X.A.units+1 < cLine)(hi:PE X i ty)(ho:PE X o td):PC X .NotIn i o (q3q ty td):=by
 intro pins s σ H Q I h;refine thn (hi pins s σ H _ I h) fun iv s1 ⟨y,H1,I1,ry,q1⟩=>thn (ho pins s1 σ H1 _ I1 q1) fun u s2 ⟨x,H2,I2,rx,a,ov,ex,g,q2⟩=>?_;subst ex;obtain rfl:u=Value.ref a:=rx;exact q1u hu I2 g ry fun s3 I3=>⟨.bl (!ov.isSome),H2,I3,rfl,q2⟩
theorem q3r(hu:X.A.units+1 < cLine)(ho:PE X o td)(hi:PE X i ty)(hv:PE X value tv)(hs:swapsWith value (some (.Subscript o i pos')) pos.line X.env=pure false) :
  PS X (.Assign [.Subscript o i pos'] value pos) (q7h td ty tv):=by
 intro pins s σ H D I h;refine wpAny_Assign_Subscript (thn (hv pins s σ H _ I h) fun r s1 ⟨v,H1,I1,rv,q1⟩=>thn (ho pins s1 σ H1 _ I1 q1) fun u s2 ⟨x,H2,I2,rx,q2⟩=>thn (hi pins s2 σ H2 _ I2 q2) fun iv s3 ⟨y,H3,I3,ry,a,H4,ex,g,q3⟩=>?_) hs;subst ex;obtain rfl:u=Value.ref a:=rx;exact k46 hu I3 g ry rv fun s4 I4=>⟨σ,H4,I4,q3⟩
end
theorem k15{P:Program}{w:World}{H:Hp}(h:Heap)(hb:sysModules < h.objs.size):ObjOk P w H (h.push {cls:= .type "dict",data:= .dict #[]}) h.objs.size (.dK []):=
 ⟨Bn _,beq_eq_false_iff_ne.mpr (Ne.symm (Bg hb)),[],.nil,Heap.DictOf.new h⟩
theorem k09{P:Program}{w:World}{H:Hp}(h:Heap)(hb:sysModules < h.objs.size):ObjOk P w H (h.push {cls:= .type "dict",data:= .dict #[]}) h.objs.size (.dT []):=
 ⟨Bn _,beq_eq_false_iff_ne.mpr (Ne.symm (Bg hb)),[],.nil,_,#[],0,Am _ rfl,⟨rfl,rfl,rfl⟩,rfl,rfl,Cs⟩
def q33:TE:=fun _ H Q=>∀ p,H p=none->Q (.ref p) (upd H p (.dK []))
def q4u:TE:=fun _ H Q=>∀ p,H p=none->Q (.ref p) (upd H p (.dT []))
section
variable{X:Cx}{pos:Pos}
theorem k9t:PE X (.Dict [] [] pos) q33:=fun pins s σ H Q I h=>
 wpAny_Dict_empty ⟨.ref s.heap.objs.size,_,I.laid (a:=s.heap.objs.size) (o:= .dK []) (t':=s.toks) (fun _ _ q=>Ae _ q) (Ah _) (k15 s.heap I.big),rfl,h _ (I.hok.fresh (Ah _))⟩
theorem k8a:PE X (.Dict [] [] pos) q4u:=fun pins s σ H Q I h=>
 wpAny_Dict_empty ⟨.ref s.heap.objs.size,_,I.laid (a:=s.heap.objs.size) (o:= .dT []) (t':=s.toks) (fun _ _ q=>Ae _ q) (Ah _) (k09 s.heap I.big),rfl,h _ (I.hok.fresh (Ah _))⟩
end
section
variable{X:Cx}{pins:List (Addr×Obj)}{σ:St}{H:Hp}{s:Shared}{a:Addr}{y d:V}{u r:Value}{o:Option V}{A:Around}{E:Value->Shared->Prop}
end
section
variable{X:Cx}{o e f:Expr}{apos cpos:Pos}{td ty tx:TE}
end
section
variable{X:Cx}{pins:List (Addr×Obj)}{σ:St}{H:Hp}{s:Shared}{a:Addr}{kvs:List (Key×V)}{A:Around}{E:Value->Shared->Prop}
end
section
variable{X:Cx}{pins:List (Addr×Obj)}{σ:St}{H:Hp}{s:Shared}{a:Addr}{y:V}{u:Value}{A:Around}{E:Value->Shared->Prop}
end
end L2
namespace L2
open PySem PySem.Spec PyProof.Rows
section
variable{X:Cx}
theorem k5u:j2z X (.builtin "len") (fun xs H Q=>∃ a kvs,xs=[V.ref a]/\H a=some (.dK kvs)/\Q (.int kvs.length) H):=by
 intro pins s σ H xs us Q I r h;obtain⟨a,kvs,rfl,ha,q⟩:=h;obtain⟨u,rfl,ru⟩:=vals1 r;cases ru;exact q63 I (.inl ha) fun t s' I'=>⟨.int kvs.length,H,I',⟨t,rfl⟩,q⟩
end
section
variable{κ:Type} [DecidableEq κ]
theorem k4b{kvs:List (κ×V)}{k:κ}{v:V}(h:valV kvs k=some v):k∈kvs.map (·.1):=by
 have q:(kvs.any fun kv=>decide (kv.1=k))=true:=by
  rw [j3w,h]
  all_goals rfl
 obtain⟨p,hp,e⟩:=Di.mp q;exact Ak.mpr ⟨p,hp,of_decide_eq_true e⟩
theorem j3r:∀{l:List κ} {k:κ},l.Nodup->¬ k∈l->(l++[k]).Nodup
 | [],k,_,_=>by simp
 | a :: r,k,h,hk=>by
  obtain⟨h1,h2⟩:=Cp.mp h;show(a :: (r++[k])).Nodup;refine Cp.mpr ⟨fun m=>?_,j3r h2 fun m=>hk (Ap.mpr (Or.inr m))⟩
  rcases At.mp m with q | q
  ·exact h1 q
  ·exact hk (Ap.mpr (Or.inl (Ag.mp q).symm))
end
end L2
set_option maxHeartbeats 4000000
namespace L2
open PySem PySem.Spec PyProof.Rows
def Its(z:Str):It:=⟨fun i _=>i < z.cps.size,fun i H x H'=>H'=H/\∃ c,z.cps[i]?=some c/\x = .str ⟨#[c]⟩,fun i _=>z.cps.size<=i⟩
theorem k4n{P:Program}{w:World}{K:PySem.W.Frag}{tg:Expr}(it:Addr)(z:Str)(t:Tok):Turn P w K tg (Its z) [it] it (fun i h=>h.IsStrIter it "str_ascii_iterator" z t i) where
 mem:=by simp
 obj:=fun i h st b hb=>by
  have e:b=it:=by simpa using hb
  subst e;obtain⟨o,e,c,d⟩:=st;exact⟨o,e,fun v z=>by rw [d] at z;cases z⟩
 keep:=fun i h h' st k=>let ⟨o,ho,r⟩:=st;⟨o,k it (by simp) o ho,r⟩
 item:=by
  intro X hP hw hK hc i pins s σ H E I hf st hg;subst hP hw hK;obtain⟨f0,f1,f2,f3,f4,f5⟩:=hf it (by simp);have hi:i < z.cps.size:=hg;refine wpAny_pyNext_ascii_item st (c:=z.cps[i]) (by simp [hi]) fun h' st' hs'=>?_;have I1:Inv X pins σ H {s with heap:=h',toks:=s.toks+1}:=I.turned (fun b o hb e=>hs'.extBut b o hb e) f0 f1 f3 f4 f5;obtain⟨o,e,c,d⟩:=id st';exact⟨_,rfl,k31 (s:={s with heap:=h',toks:=s.toks+1}) e c d (by decide) ⟨.str ⟨#[z.cps[i]]⟩,H,I1,⟨_,rfl⟩,⟨rfl,z.cps[i],by simp [hi],rfl⟩,st',fun b hb=>(hf b hb).1⟩⟩
 done:=by
  intro X hP hw hK hc i pins s σ H E I hf st hg;subst hP hw hK;obtain⟨f0,f1,f2,f3,f4,f5⟩:=hf it (by simp);have hi:z.cps.size<=i:=hg;exact wpAny_pyNext_ascii_end (I.ok.hd hc) st (by simp;exact hi) fun h' eb=>⟨rfl,I.turned (t':=s.toks) (fun b o hb e=>eb b o hb e) f0 f1 f3 f4 f5⟩
 self:=fun _ _ _ _ _ st h=>wpAny_pyIter_striter_ascii st h
theorem k6v{P:Program}{w:World}{K:PySem.W.Frag}{tg:Expr}(it:Addr)(z:Str)(t:Tok):Turn P w K tg (Its z) [it] it (fun i h=>h.IsStrIter it "str_iterator" z t i) where
 mem:=by simp
 obj:=fun i h st b hb=>by
  have e:b=it:=by simpa using hb
  subst e;obtain⟨o,e,c,d⟩:=st;exact⟨o,e,fun v z=>by rw [d] at z;cases z⟩
 keep:=fun i h h' st k=>let ⟨o,ho,r⟩:=st;⟨o,k it (by simp) o ho,r⟩
 item:=by
  intro X hP hw hK hc i pins s σ H E I hf st hg;subst hP hw hK;obtain⟨f0,f1,f2,f3,f4,f5⟩:=hf it (by simp);have hi:i < z.cps.size:=hg;refine wpAny_pyNext_wide_item st (c:=z.cps[i]) (by simp [hi]) fun h' st' hs'=>?_;have I1:Inv X pins σ H {s with heap:=h',toks:=s.toks+1}:=I.turned (fun b o hb e=>hs'.extBut b o hb e) f0 f1 f3 f4 f5;obtain⟨o,e,c,d⟩:=id st';exact⟨_,rfl,k31 (s:={s with heap:=h',toks:=s.toks+1}) e c d (by decide) ⟨.str ⟨#[z.cps[i]]⟩,H,I1,⟨_,rfl⟩,⟨rfl,z.cps[i],by simp [hi],rfl⟩,st',fun b hb=>(hf b hb).1⟩⟩
 done:=by
  intro X hP hw hK hc i pins s σ H E I hf st hg;subst hP hw hK;obtain⟨f0,f1,f2,f3,f4,f5⟩:=hf it (by simp);have hi:z.cps.size<=i:=hg;exact wpAny_pyNext_wide_end (I.ok.hd hc) st (by simp;exact hi) fun h' eb=>⟨rfl,I.turned (t':=s.toks) (fun b o hb e=>eb b o hb e) f0 f1 f3 f4 f5⟩
 self:=fun _ _ _ _ _ st h=>wpAny_pyIter_striter_wide st h
def iStr(tl:TE):TI:=fun σ H R=>tl σ H fun x H1=>∃ z,x = .str z/\R (Its z) H1
section
variable{X:Cx}{tg:Expr}
theorem q6j{l:Expr}{tl:TE}(hl:PE X l tl):PI X tg l (iStr tl):=by
 intro pins s σ H R I h;refine thn (hl pins s σ H _ I h) fun v s1 ⟨x,H1,I1,r1,q1⟩=>?_;obtain⟨z,e,q⟩:=q1;subst e;obtain⟨t,rfl⟩:=r1;have fp:∀ b∈[s1.heap.objs.size],FpOk X pins H1 b:=fun b hb=>by
  have e:b=s1.heap.objs.size:=by simpa using hb
  subst e;exact I1.fpOk (Ah _) (I1.hok.fresh (Ah _))
 cases ha:z.cps.all (· < 128)
 ·exact wpAny_pyIter_wide ha ⟨s1.heap.objs.size,[s1.heap.objs.size],_,_,H1,rfl,I1.kept (t':=s1.toks) fun b o e=>Ae _ e,k6v _ z t,⟨_,Am _ rfl,rfl,rfl⟩,fp,q⟩
 ·exact wpAny_pyIter_ascii ha ⟨s1.heap.objs.size,[s1.heap.objs.size],_,_,H1,rfl,I1.kept (t':=s1.toks) fun b o e=>Ae _ e,k4n _ z t,⟨_,Am _ rfl,rfl,rfl⟩,fp,q⟩
end
theorem q75{z:Str}{g:TG}{tb:TS}{D:Ends}{σ:St}{H:Hp}(Pv:Nat->St->Hp->Prop)(h0:Pv 0 σ H)
  (hs:∀ i c σ H,z.cps[i]?=some c->Pv i σ H->g (.str ⟨#[c]⟩) σ H fun σ2 H2=>tb {D with nx:=Pv (i+1),ct:=Pv (i+1),bk:=D.nx} σ2 H2) (hd:∀ σ H,Pv z.cps.size σ H->D.nx σ H) :
  ∃ W:Nat->Nat->St->Hp->Prop,(∃ m,W 0 m σ H)/\∀ i m σ H,W i m σ H ->
   ((Its z).stop i H/\D.nx σ H)\/((Its z).go i H/\∃ N:St->Hp->Prop,(∀ σ' H',N σ' H'->∃ m',m' < m/\W (i+1) m' σ' H')/\∀ x H',(Its z).yld i H x H'->g x σ H' fun σ2 H2=>tb {D with nx:=N,ct:=N,bk:=D.nx} σ2 H2):=by
 refine⟨fun i m σ H=>m=z.cps.size - i/\i<=z.cps.size/\Pv i σ H,⟨z.cps.size,by simp,Bn _,h0⟩,?_⟩;rintro i m σ H ⟨rfl,hi,p⟩
 by_cases hlt:i < z.cps.size
 ·refine .inr ⟨hlt,Pv (i+1),fun σ' H' p'=>⟨z.cps.size - (i+1),by omega,rfl,hlt,p'⟩,fun x H' y=>?_⟩;obtain⟨e,c,hc,y⟩:=y;subst e y;exact hs i c σ _ hc p
 ·have e:i=z.cps.size:=by omega
  subst e;exact .inl ⟨Ah _,hd σ H p⟩
theorem j1b{env:Env}:∀{names:List (Str×NameKind)} {x:Str} {k':NameKind},
  (names.map fun(n,k)=>if(k == NameKind.free && env.scope.kind == .function && env.kindOf n == some .cell) then(n,NameKind.cell) else(n,k)).lookup x=some k' ->
  ∃ k,names.lookup x=some k/\(k'=k\/(k = .free/\k' = .cell))
 | [],_,_,h=>by simp at h
 | (n,k) :: r,x,k',h=>by
  have ih:=@j1b env r x k'
  change List.lookup x ((if(k == NameKind.free && env.scope.kind == .function && env.kindOf n == some .cell)=true then(n,NameKind.cell) else(n,k)) :: _)=_ at h
  cases hx:x == n with
  | true=>
   by_cases hc:(k == NameKind.free && env.scope.kind == .function && env.kindOf n == some .cell)=true
   ·rw [if_pos hc] at h;simp only [Dj,hx] at h;cases h;have hk:k = .free:=by
     have:=(Bu _ _ ▸ (Bu _ _ ▸ hc).1).1;cases k <;> first | rfl | (exact absurd this (by decide))
    exact⟨k,by simp [Dj,hx],.inr ⟨hk,rfl⟩⟩
   ·rw [if_neg hc] at h;simp only [Dj,hx] at h;cases h;exact⟨k,by simp [Dj,hx],.inl rfl⟩
  | false=>
   have h2:∃ k,r.lookup x=some k/\(k'=k\/(k = .free/\k' = .cell)):=by
    by_cases hc:(k == NameKind.free && env.scope.kind == .function && env.kindOf n == some .cell)=true
    ·rw [if_pos hc] at h;simp only [Dj,hx] at h;exact ih h
    ·rw [if_neg hc] at h;simp only [Dj,hx] at h;exact ih h
   obtain⟨k2,e2,r2⟩:=h2;exact⟨k2,by simp [Dj,hx,e2],r2⟩
def j0z(names:List (Str×NameKind))(cells:List (Str×Addr))(acc:List (Str×Addr)):List (Str×Addr):=
 names.foldl (fun a x=>if x.2 == .free then(match cells.lookup x.1 with | some c=>(x.1,c) :: a | none=>a) else a) acc
theorem j2o{scope:Scope}{env:Env}(h:∀ x∈scope.names,x.2 = .free->∃ c,env.cells.lookup x.1=some c):closureFor scope env=pure (j0z scope.names env.cells []):=by
 have all:∀(l:List (Str×NameKind)) (acc:List (Str×Addr)),(∀ x∈l,x.2 = .free->∃ c,env.cells.lookup x.1=some c) ->
   (forIn l acc fun(x:Str×NameKind) (cs:List (Str×Addr))=>(if x.2 == .free then(do let c <- cellOf env x.1;pure (ForInStep.yield ((x.1,c) :: cs))) else pure (ForInStep.yield cs):Sem _))=pure (j0z l env.cells acc):=by
  intro l
  induction l with
  | nil=>intro acc _;rfl
  | cons x r ih=>
   intro acc hl;rw [Fv];have hr:∀ y∈r,y.2 = .free->∃ c,env.cells.lookup y.1=some c:=fun y hy=>hl y (Ao _ hy);cases hk:x.2 == .free with
   | true=>
    have hkk:x.2 = .free:=by
     revert hk
     cases x.2 <;> intro hk <;> first | rfl | (exact absurd hk (by decide))
    obtain⟨c,hc⟩:=hl x Au hkk;simp only [if_true,cellOf,hc];rw [show j0z (x :: r) env.cells acc=j0z r env.cells ((x.1,c) :: acc) by unfold j0z;rw [Dh];simp [hk,hc]];exact ih _ hr
   | false=>
    simp only [Ax,if_false];rw [show j0z (x :: r) env.cells acc=j0z r env.cells acc by unfold j0z;rw [Dh];simp [hk]];exact ih _ hr
 have q:=all scope.names [] h;simp only [closureFor];exact(congrArg (· >>= fun r=>pure r) q).trans rfl
end L2
namespace L2
open PySem PySem.Spec PyProof.Rows
theorem j2n:∀(names:List (Str×NameKind)) (cells acc:List (Str×Addr)),(∀ x c,(x,c)∈acc->cells.lookup x=some c)->∀ x c,(x,c)∈j0z names cells acc->cells.lookup x=some c
 | [],_,_,h=>h
 | y :: r,cells,acc,h=>by
  have e:j0z (y :: r) cells acc=j0z r cells (if y.2 == .free then(match cells.lookup y.1 with | some c=>(y.1,c) :: acc | none=>acc) else acc):=rfl;rw [e];refine j2n r cells _ ?_;cases hk:y.2 == .free with
  | false=>simpa using h
  | true=>
   cases hc:cells.lookup y.1 with
   | none=>simpa using h
   | some c=>
    intro x d hx;simp only [if_true] at hx
    rcases Ap.mp hx with e | hx
    ·cases e;exact hc
    ·exact h x d hx
theorem j57:∀(names:List (Str×NameKind)) (cells acc:List (Str×Addr)) (x:Str) (c:Addr),(x,c)∈acc->(x,c)∈j0z names cells acc
 | [],_,_,_,_,h=>h
 | y :: r,cells,acc,x,c,h=>by
  have e:j0z (y :: r) cells acc=j0z r cells (if y.2 == .free then(match cells.lookup y.1 with | some c=>(y.1,c) :: acc | none=>acc) else acc):=rfl;rw [e];refine j57 r cells _ x c ?_;cases hk:y.2 == .free with
  | false=>simpa using h
  | true=>
   cases hc:cells.lookup y.1 with
   | none=>simpa using h
   | some d=>simp only [if_true];exact Ao _ h
theorem j24:∀(names:List (Str×NameKind)) (cells acc:List (Str×Addr)) (x:Str) (c:Addr),(x,NameKind.free)∈names->cells.lookup x=some c->(x,c)∈j0z names cells acc
 | [],_,_,_,_,h,_=>by cases h
 | y :: r,cells,acc,x,c,h,hc=>by
  have e:j0z (y :: r) cells acc=j0z r cells (if y.2 == .free then(match cells.lookup y.1 with | some c=>(y.1,c) :: acc | none=>acc) else acc):=rfl;rw [e]
  rcases Ap.mp h with e2 | h
  ·subst e2;refine j57 r cells _ x c ?_;have:(NameKind.free == NameKind.free)=true:=rfl;simp only [hc,this,if_true];exact Au
  ·exact j24 r cells _ x c h hc
theorem j1c{α:Type}:∀{l:List (Str×α)} {x:Str} {c:α},(x,c)∈l->∃ d,l.lookup x=some d
 | [],_,_,h=>by cases h
 | (n,d) :: r,x,c,h=>by
  cases hx:x == n with
  | true=>exact⟨d,by simp [Dj,hx]⟩
  | false=>
   rcases Ap.mp h with e | h
   ·cases e;simp at hx
   ·obtain⟨d',e⟩:=j1c h;exact⟨d',by simp [Dj,hx,e]⟩
section
variable{prog:Program}{w:World}{A:Around}{R:Result->Shared->Prop}{s:Shared}
theorem j2l{elt target iter:Expr}{ifs:List Expr}{scope:Scope}{pos:Pos}{it acc:Value}{env:Env}(I:Nat->Shared->Prop)
  (turn : ∀ n s, I n s → wpAny (model prog w) A (pyNext it) (fun r s₁ => match r with
   | none=>R (.ok .next) s₁
   | some v=>wpAny (model prog w) A (letOwnedTupleGo target it v) (fun _ s₁'=>wpAny (model prog w) A (assign target env v) (fun _ s₂=>
     wpAny (model prog w) A (forIn ifs true fun c r=>if r=true then do let ok <- isTrue c env (eval c env);pure (ForInStep.yield ok) else pure (ForInStep.yield r)) (fun ok s₃=>
      if ok=true then wpAny (model prog w) A (eval elt env) (fun x s₄=>
       wpAny (model prog w) A (call (.builtin "list.append") [acc,x]) (fun _ s₅=>∃ m,m < n/\I m s₅) (notedBy (model prog w) A env fun e s'=>R (.error e) s') s₄) (notedBy (model prog w) A env fun e s'=>R (.error e) s') s₃
      else ∃ m,m < n/\I m s₃) (notedBy (model prog w) A env fun e s'=>R (.error e) s') s₂) (notedBy (model prog w) A env fun e s'=>R (.error e) s') s₁') (notedBy (model prog w) A env fun e s'=>R (.error e) s') s₁) (notedBy (model prog w) A env fun e s'=>R (.error e) s') s)
  (n:Nat) (h:I n s) :
  codeAny (model prog w) A (.compLoop (.ListComp elt [⟨target,iter,ifs,0⟩] scope pos) 0 it acc env) R s:=by
 refine codeAny_loop rfl I (fun n s hI=>?_) n h;show wpAny _ A ((compTurn (.ListComp elt [⟨target,iter,ifs,0⟩] scope pos) 0 it acc env).onRaise (fun x=>do noteFrame x env;theTreesLotGoes x)) _ _ s;refine wpAny_noted ?_;rw [compTurn_list];refine wpAny_bind (wpAny_standAt (wpAny_bind (wpAny_mono (turn n s hI) (fun r s₁ h₁=>?_) fun _ _ h'=>h')));cases r with
 | none=>exact wpAny_pure h₁
 | some v=>
  refine wpAny_bind (wpAny_mono h₁ (fun _ s₁' h₁'=>?_) fun _ _ h'=>h');refine wpAny_bind (wpAny_mono h₁' (fun _ s₂ h₂=>wpAny_bind (wpAny_mono h₂ (fun ok s₃ h₃=>?_) fun _ _ h'=>h')) fun _ _ h'=>h');cases ok with
  | false=>exact wpAny_pure ⟨rfl,h₃⟩
  | true=>
   exact wpAny_bind (wpAny_bind (wpAny_mono h₃ (fun x s₄ h₄=>wpAny_bind (wpAny_mono h₄ (fun _ s₅ h₅=>wpAny_pure (wpAny_pure ⟨rfl,h₅⟩)) fun _ _ h'=>h')) fun _ _ h'=>h'))
end
def PIf(X:Cx)(ifs:List Expr)(t:TT):Prop:=
 ∀(pins:List (Addr×Obj)) (s:Shared) (σ:St) (H:Hp) (Q:Bool->Hp->Prop),Inv X pins σ H s->t σ H Q ->
  wpAny (model X.prog X.w) X.A (forIn ifs true fun c r=>if r=true then do let ok <- isTrue c X.env (eval c X.env);pure (ForInStep.yield ok) else pure (ForInStep.yield r)) (TP X pins σ Q) X.xe s
def tYes:TT:=fun _ H Q=>Q true H
theorem q1e{X:Cx}:PIf X [] tYes:=fun _ _ _ H _ I h=>wpAny_tests_nil ⟨H,I,h⟩
theorem q1p{X:Cx}{c:Expr}{t:TT}(h:PT X c t):PIf X [c] t:=fun pins s σ H Q I hq=>wpAny_tests_one (h pins s σ H Q I hq)
def j08(X:Cx)(N':List Str)(scope:Scope)(cl:List (Str×Addr))(C:Addr)(s₀:Shared)(H₀:Hp)(ex:List Addr):Cx:=
 {prog:=X.prog,w:=X.w,K:=X.K,mg:=X.mg,base:=X.base,A:=X.A,N:=N',s₀:=s₀,H₀:=H₀,env:=compEnvC scope cl C X.env,outer:=X.stack,stack:=X.stack,ex:=ex,fn:=fun _=>false,calm:=X.calm,pn:=[],xe:=fun _ _=>False}
def j4j(sc scope:Scope)(N N':List Str):Bool:=
 (match scope.kind with | .function=>true | _=>false) &&
 scope.names.all (fun y=>match y.2 with
  | .cell=>false
  | .local=>(match scope.names.lookup y.1 with | some .local=>true | _=>false)
  | .free=>(match sc.names.lookup y.1 with | some .cell=>true | some .free=>true | _=>false)
  | _=>true) &&
 (List.range N'.length).all fun i => match N'[i]? with
  | none=>true
  | some x=>match scope.names.lookup x with
   | some .local=>decide (N.length<=i)
   | some .free=>decide (N[i]?=some x)
   | _=>true
structure CompOk(sc scope:Scope)(N N':List Str):Prop where
 kind:scope.kind = .function
 cell:∀ y∈scope.names,y.2 ≠ .cell
 names:∀ y∈scope.names,y.2 = .local->scope.names.lookup y.1=some .local
 free:∀ y∈scope.names,y.2 = .free->sc.names.lookup y.1=some .cell\/sc.names.lookup y.1=some .free
 own:∀(i:Nat) x,N'[i]?=some x->scope.names.lookup x=some .local->N.length<=i
 out:∀(i:Nat) x,N'[i]?=some x->scope.names.lookup x=some .free->N[i]?=some x
theorem CompOk.of{sc scope:Scope}{N N':List Str}(h:j4j sc scope N N'=true):CompOk sc scope N N':=by
 unfold j4j at h;rw [Bu,Bu] at h;obtain⟨⟨h1,h2⟩,h3⟩:=h;have h2':=Dk.mp h2;have h3':=Dk.mp h3;refine⟨?_,fun y hy e=>?_,fun y hy e=>?_,fun y hy e=>?_,fun i x hi e=>?_,fun i x hi e=>?_⟩
 ·revert h1;cases scope.kind <;> intro h1 <;> first | rfl | cases h1
 ·have q:=h2' y hy;rw [e] at q;cases q
 ·have q:=h2' y hy;rw [e] at q;simp only at q
  split at q
  ·assumption
  ·cases q
 ·have q:=h2' y hy;rw [e] at q;simp only at q
  split at q
  ·exact .inl (by assumption)
  ·exact .inr (by assumption)
  ·cases q
 ·have q:=h3' i (Bj.mpr (Ac.mp hi).1);rw [hi] at q;simp only [e] at q;exact of_decide_eq_true q
 ·have q:=h3' i (Bj.mpr (Ac.mp hi).1);rw [hi] at q;simp only [e] at q;exact of_decide_eq_true q
section
variable{X:Cx}{pins:List (Addr×Obj)}{σ:St}{H:Hp}{s:Shared}
theorem k2a{N':List Str}{scope:Scope}{n:Nat}{fp:List Addr}{h₁:Heap}{t':Nat}{m:Str->Option Value}(I:Inv X pins σ H s)(ck:CompOk X.env.scope scope X.N N')(hl:N'.length=X.N.length+n)
  (hns:h₁.Ns s.heap.objs.size m) (old:∀ b o,s.heap.get? b=some o->h₁.get? b=some o) (hfp:∀ b∈fp,FpOk X pins H b/\b < s.heap.objs.size) :
  Inv (j08 X N' scope (j0z scope.names X.env.cells []) s.heap.objs.size s H fp) [] (σ++List.replicate n none) H {s with heap:=h₁,toks:=t'}:=by
 have sub:∀ x c,(j0z scope.names X.env.cells []).lookup x=some c->X.env.cells.lookup x=some c:=fun x c e=>j2n _ _ _ (fun _ _ z=>by simp at z) x c (PySem.mem_of_lookup e);have fre:H s.heap.objs.size=none:=I.hok.fresh (Ah _);have ok':(j08 X N' scope (j0z scope.names X.env.cells []) s.heap.objs.size s H fp).Ok:=by
  refine⟨I.ok.mod,ck.kind,I.ok.glob,I.ok.blt,Ah _,fun x y c e1 e2=>I.ok.inj x y c (sub x c e1) (sub y c e2),fun x hx=>?_,fun x c hf _=>?_,I.ok.hd,I.ok.frames,.inl rfl,fun b hb=>⟨Bg (hfp b hb).2,fun x c e=>(hfp b hb).1.2.2.2.2.1 x c (sub x c e)⟩,
   I.bs,Bv I.ok.bsz I.sz,fun b o e hb=>?_,fun b hb hf=>?_,I.stack,I.stkFree⟩
  ·have hx':(relabel scope X.env).names.lookup x=some .cell\/(relabel scope X.env).names.lookup x=some .free:=hx;have:∃ k,scope.names.lookup x=some k/\k = .free:=by
    rcases hx' with z | z
    ·obtain⟨k,e,r⟩:=j1b z
     rcases r with r | ⟨r,_⟩
     ·exact absurd (r.symm ▸ rfl:k = .cell) (ck.cell (x,k) (PySem.mem_of_lookup e))
     ·exact⟨k,e,r⟩
    ·obtain⟨k,e,r⟩:=j1b z
     rcases r with r | ⟨r,_⟩
     ·exact⟨k,e,r.symm⟩
     ·exact⟨k,e,r⟩
   obtain⟨k,e,rfl⟩:=this;have hm:=PySem.mem_of_lookup e;obtain⟨c,hc⟩:=I.ok.has x (ck.free _ hm rfl);exact j1c (j24 scope.names X.env.cells [] x c hm hc)
  ·cases hf
  ·have:=(hfp b hb).1.2.2.2.1
   rcases this with z | z
   ·exact I.ok.noex b o e z
   ·exact absurd (Bi (Aj e) (Bv I.ok.bsz z)) (By _)
  ·rcases Ap.mp (I.stkSub b hf) with z | z
   ·exact(hfp b hb).1.2.1 z
   ·exact(hfp b hb).1.2.2.1 z
 refine⟨ok',rfl,I.bare,Un.kept old,⟨m,hns,fun i x v e1 e2 e3=>?_⟩,fun x c e=>?_,fre,fun x c e=>I.freeC x c (sub x c e),fun p hp=>absurd hp (by simp [j08]),I.hok.kept old,?_⟩
 ·have hi:i < σ.length:=by
   by_cases hi:i < σ.length
   ·exact hi
   ·rw [Ay (by omega),Dp] at e2
    split at e2 <;> cases e2
  rw [Ar hi] at e2;have e1':N'[i]?=some x:=e1;have vis:∃ k',(relabel scope X.env).names.lookup x=some k'/\(k' = .local\/k' = .cell\/k' = .free):=by
   rcases e3 with z | z | z
   ·exact⟨_,z,.inl rfl⟩
   ·exact⟨_,z,.inr (.inl rfl)⟩
   ·exact⟨_,z,.inr (.inr rfl)⟩
  obtain⟨k',ek',hk'⟩:=vis;obtain⟨k,ek,r⟩:=j1b ek';have kf:k = .free:=by
   rcases r with r | ⟨r,_⟩
   ·subst r
    rcases hk' with z | z | z
    ·subst z;have:=ck.own i x e1' ek;rw [I.len] at hi;omega
    ·subst z;exact absurd rfl (ck.cell _ (PySem.mem_of_lookup ek))
    ·exact z
   ·exact r
  subst kf;have hm:=PySem.mem_of_lookup ek;have hxN:=ck.out i x e1' ek;obtain⟨m0,hn0,hl0⟩:=I.loc;have kx:=ck.free _ hm rfl;obtain⟨u,ru,lk⟩:=hl0 i x v hxN e2 (by rcases kx with z | z;exact .inr (.inl z);exact .inr (.inr z));refine⟨u,ru,.inr ⟨?_,?_⟩⟩
  ·rcases r with r | ⟨_,r⟩
   ·subst r;exact .inr ek'
   ·subst r;exact .inl ek'
  ·rcases lk with ⟨k1,_⟩ | ⟨_,c,hc,hcell⟩
   ·have k1':X.env.scope.names.lookup x=some .local:=k1
    rcases kx with z | z
    ·rw [k1'] at z;cases z
    ·rw [k1'] at z;cases z
   ·have hin:=j24 scope.names X.env.cells [] x c hm hc;obtain⟨d,hd⟩:=j1c hin;have:d=c:=Option.some.inj ((sub x d hd).symm.trans hc);subst this;obtain⟨o,ho,hdat⟩:=hcell;exact⟨d,hd,o,old _ _ ho,hdat⟩
 ·obtain⟨v,o,ho,hdat⟩:=I.cell x c (sub x c e);exact⟨v,o,old _ _ ho,hdat⟩
 ·rw [Af,Dl,I.len];exact hl.symm
end
def q3g(n:Nat)(wi:TI)(g:TG)(tc:TT)(te:TE):TE:=fun σ H Q=>wi σ H fun J H1=>∀ D,H1 D=none->∃ W:Nat->Nat->St->Hp->Prop,(∃ m,W 0 m (σ++List.replicate n none) (upd H1 D (.lst [])))/\∀ i m σ' H',W i m σ' H' ->
 (J.stop i H' ∧ Q (.ref D) H') ∨ (J.go i H' ∧ ∃ N : St → Hp → Prop, (∀ σ' H', N σ' H' → ∃ m', m' < m ∧ W (i + 1) m' σ' H') ∧ ∀ x H2, J.yld i H' x H2 → g x σ' H2 fun σ2 H3 => tc σ2 H3 fun b H4 =>
  if b=true then te σ2 H4 fun v H5=>∃ ys,H5 D=some (.lst ys)/\ys.length < sizeLine/\N σ2 (upd H5 D (.lst (ys++[v]))) else N σ2 H4)
theorem thnF{α:Type}{t:Sem α}{Q Q':α->Shared->Prop}{M:Model}{A:Around}{E:Value->Shared->Prop}{s:Shared}(h:wpAny M A t Q (fun _ _=>False) s)(hQ:∀ a s,Q a s->Q' a s):wpAny M A t Q' E s:=wpAny_mono h hQ fun _ _ z=>z.elim
section
variable{X:Cx}{elt tg iter:Expr}{ifs:List Expr}{scope:Scope}{pos:Pos}{N':List Str}{n:Nat}{wi:TI}{g:TG}{tc:TT}{te:TE}
theorem j89{pins:List (Addr×Obj)}{σ:St}{H2:Hp}{s2:Shared}{E:Value->Shared->Prop}{RR:Value->Addr->Result->Shared->Prop}{it:Addr}{fp:List Addr}{tn:Nat->Heap->Prop}{J:It}{Q:VK}
  (hc:X.calm=true) (ck:CompOk X.env.scope scope X.N N') (hl:N'.length=X.N.length+n)
  (hg:∀ cl C s₀ H₀ ex,PG (j08 X N' scope cl C s₀ H₀ ex) tg g) (hif:∀ cl C s₀ H₀ ex,PIf (j08 X N' scope cl C s₀ H₀ ex) ifs tc) (he:∀ cl C s₀ H₀ ex,PE (j08 X N' scope cl C s₀ H₀ ex) elt te)
  (I2:Inv X pins σ H2 s2) (T:Turn X.prog X.w X.K tg J fp it tn) (st2:tn 0 s2.heap) (f2:∀ b∈fp,FpOk X pins H2 b)
  (q : ∀ D, H2 D = none → ∃ W : Nat → Nat → St → Hp → Prop, (∃ m, W 0 m (σ ++ List.replicate n none) (upd H2 D (.lst []))) ∧ ∀ i m σ' H', W i m σ' H' →
   (J.stop i H' ∧ Q (.ref D) H') ∨ (J.go i H' ∧ ∃ N : St → Hp → Prop, (∀ σ' H', N σ' H' → ∃ m', m' < m ∧ W (i + 1) m' σ' H') ∧ ∀ x H2, J.yld i H' x H2 → g x σ' H2 fun σ2 H3 => tc σ2 H3 fun b H4 =>
    if b=true then te σ2 H4 fun v H5=>∃ ys,H5 D=some (.lst ys)/\ys.length < sizeLine/\N σ2 (upd H5 D (.lst (ys++[v]))) else N σ2 H4))
  (hRR:∀ D C H' s' m,Inv X pins σ H' s'->s'.heap.Ns C m->H' C=none->C≠X.env.locals->X.s₀.heap.objs.size<=C->(∀ x c,X.env.cells.lookup x=some c->c≠C)->(∀ p∈X.pn++pins,p.1≠C)->Q (.ref D) H'->RR (.ref D) C (.ok .next) s') :
  wpAny (model X.prog X.w) X.A (newList []) (fun acc s₃=>wpAny (model X.prog X.w) X.A (newFunctionEnv scope X.env.globals (j0z scope.names X.env.cells []) [] X.env.qual none .none (some X.env)) (fun cenv s₄=>
   codeAny (model X.prog X.w) X.A (.compStart (.ListComp elt [⟨tg,iter,ifs,0⟩] scope pos) 0 (.ref it) acc {cenv with scope:=relabel scope X.env}) (RR acc cenv.locals) s₄) E s₃) E s2:=by
 refine wpAny_newObj_type (wpAny_newFunctionEnv ck.cell (by intro y hy;simp at hy) (fun h₁ hns₁ hsb₁=>?_) ck.kind) (by show(0:Nat)<=sizeLine;exact Bn _);have hD:H2 s2.heap.objs.size=none:=I2.hok.fresh (Ah _);obtain⟨W,⟨m0,w0⟩,turn⟩:=q s2.heap.objs.size hD;have fl:∀ b∈fp,b < s2.heap.objs.size:=fun b hb=>by
  obtain⟨o,e,_⟩:=T.obj 0 _ st2 b hb;exact Aj e
 have I3:Inv X pins σ (upd H2 s2.heap.objs.size (.lst [])) {s2 with heap:=s2.heap.push {cls:= .type "list",dict:=none,data:= .seq ([]:List Value).toArray}}:=
  I2.laid (t':=s2.toks) (fun b o e=>Ae _ e) (Ah _) (show ObjOk X.prog X.w _ _ _ (.lst []) from⟨Bn _,[],0,.nil,Am _ rfl⟩)
 generalize hs3:({s2 with heap:=s2.heap.push {cls:= .type "list",dict:=none,data:= .seq ([]:List Value).toArray}}:Shared)=s3 at I3 hns₁ hsb₁ ⊢;have hz3:s3.heap.objs.size=s2.heap.objs.size+1:=by rw [<- hs3];exact Cz ..
 have old2:∀ b o,s2.heap.get? b=some o->s3.heap.get? b=some o:=fun b o e=>by rw [<- hs3];exact Ae _ e
 have old:∀ b o,s3.heap.get? b=some o->h₁.get? b=some o:=fun b o e=>
  hsb₁.extBut b o (Bg (Aj e)) (Ae _ e)
 have f3:∀ b∈fp,FpOk X pins (upd H2 s2.heap.objs.size (.lst [])) b/\b < s3.heap.objs.size:=fun b hb=>by
  refine⟨⟨?_,(f2 b hb).2⟩,by rw [hz3];exact Ca (fl b hb)⟩;rw [j0d (Bg (fl b hb))];exact(f2 b hb).1
 have I4:=fun(t':Nat)=>k2a (N':=N') (scope:=scope) (n:=n) (fp:=fp) (h₁:=h₁) (t':=t') I3 ck hl hns₁ old f3;generalize hX:j08 X N' scope (j0z scope.names X.env.cells []) s3.heap.objs.size s3 (upd H2 s2.heap.objs.size (.lst [])) fp=X' at I4;have eP:X'.prog=X.prog:=by rw [<- hX];rfl
 have ew:X'.w=X.w:=by rw [<- hX];rfl
 have eK:X'.K=X.K:=by rw [<- hX];rfl
 have eA:X'.A=X.A:=by rw [<- hX];rfl
 have eE:X'.env=compEnvC scope (j0z scope.names X.env.cells []) s3.heap.objs.size X.env:=by rw [<- hX];rfl
 have ec:X'.calm=true:=by rw [<- hX];exact hc
 have ex':X'.xe=fun _ _=>False:=by rw [<- hX];rfl
 have hg':PG X' tg g:=by rw [<- hX];exact hg _ _ _ _ _
 have hif':PIf X' ifs tc:=by rw [<- hX];exact hif _ _ _ _ _
 have he':PE X' elt te:=by rw [<- hX];exact he _ _ _ _ _
 have stat:∀{H':Hp},(∀ b∈fp,H' b=none)->∀ b∈fp,FpOk X' [] H' b:=fun hn b hb=>by
  refine⟨hn b hb,?_,?_,?_,?_,?_⟩
  ·rw [eE];exact Bg (f3 b hb).2
  ·rw [<- hX];intro hf
   rcases Ap.mp (I3.stkSub b hf) with z | z
   ·exact(f3 b hb).1.2.1 z
   ·exact(f3 b hb).1.2.2.1 z
  ·rw [<- hX];exact .inl hb
  ·rw [eE];intro x c e;exact(f3 b hb).1.2.2.2.2.1 x c (j2n _ _ _ (fun _ _ z=>by simp at z) x c (PySem.mem_of_lookup e))
  ·rw [<- hX];intro p hp;exact absurd hp (by simp [j08])
 have fin:∀{σ':St} {H':Hp} {s':Shared},Inv X' [] σ' H' s'->Q (.ref s2.heap.objs.size) H'->RR (.ref s2.heap.objs.size) s3.heap.objs.size (.ok .next) s':=fun{σ' H' s'} I' q'=>by
  obtain⟨m',hn',_⟩:=id I'.loc;rw [eE] at hn';have hos:s'.os=s3.os:=by have:=I'.os;rw [<- hX] at this;exact this
  have hun:Un (frs X.stack) fp (upd H2 s2.heap.objs.size (.lst [])) H' s3.heap s'.heap:=by have:=I'.base;rw [<- hX] at this;exact this
  have hok:HOk X.prog X.w H' s'.heap:=by have:=I'.hok;rw [eP,ew] at this;exact this
  have IX:Inv X pins σ H' s':=I3.call' (ch:=fp) hos hun hok I'.bare fun b hb=>⟨(f3 b hb).1.2.2.2.1,(f3 b hb).1.2.1,(f3 b hb).1.2.2.2.2.1,(f3 b hb).1.2.2.2.2.2⟩;have hfr:=I'.free;rw [eE] at hfr;refine hRR _ _ H' s' m' IX hn' hfr (Ci I3.lt) I3.sz (fun x c e z=>?_) (fun p hp z=>?_) q'
  ·obtain⟨v,o,ho,_⟩:=I3.cell x c e;exact absurd (Aj ho) (by rw [z];exact By _)
  ·exact absurd (Aj (I3.pin p hp).1) (by rw [z];exact By _)
 have loop:∀ t',codeAny (model X.prog X.w) X.A (.compLoop (.ListComp elt [⟨tg,iter,ifs,0⟩] scope pos) 0 (.ref it) (.ref s2.heap.objs.size) (compEnvC scope (j0z scope.names X.env.cells []) s3.heap.objs.size X.env)) (RR (.ref s2.heap.objs.size) s3.heap.objs.size) {s3 with heap:=h₁,toks:=t'}:=fun t'=>by
  refine j2l (fun k s'=>∃ i σ' H',Inv X' [] σ' H' s'/\tn i s'.heap/\(∀ b∈fp,H' b=none)/\W i k σ' H') ?_ m0
   ⟨0,_,_,I4 t',T.keep 0 _ _ st2 fun b _ o e=>old b o (old2 b o e),fun b hb=>(f3 b hb).1.1,w0⟩
  rintro k s4 ⟨i,σ4,H4,J4,st4,fr4,w4⟩;rw [<- eP,<- ew,<- eA,<- eE]
  rcases turn i k σ4 H4 w4 with ⟨stop,qn⟩ | ⟨go,N,hN,step⟩
  ·have d1:=T.done X' eP ew eK ec i [] s4 σ4 H4 (fun _ _=>False) J4 (stat fr4) st4 stop;rw [<- eP,<- ew] at d1;refine thnF d1 fun r s5 ⟨hr,I5⟩=>?_;subst hr;exact fin I5 qn
  ·have d1:=T.item X' eP ew eK ec i [] s4 σ4 H4 (fun _ _=>False) J4 (stat fr4) st4 go;rw [<- eP,<- ew] at d1;refine thnF d1 fun r s5 ⟨u,hr,h5⟩=>?_;subst hr;refine thnF h5 fun _ s6 ⟨x,H6,I6,r6,y6,st6,fr6⟩=>?_;have I6':=I6.pinned (stat fr6) (T.obj _ _ st6);have again:∀{σ7:St} {H7:Hp} {s7:Shared},Inv X' ([]++j6j fp s6.heap) σ7 H7 s7->N σ7 H7->∃ m,m < k/\∃ i σ' H',Inv X' [] σ' H' s7/\tn i s7.heap/\(∀ b∈fp,H' b=none)/\W i m σ' H':=fun{σ7 H7 s7} I7 n7=>by
    obtain⟨m',hm,w7⟩:=hN σ7 H7 n7;refine⟨m',hm,i+1,σ7,H7,I7.unpinned,T.keep _ _ _ st6 fun b hb o e=>(I7.pin (b,o) (As _ (As _ (j10 hb e)))).1,fun b hb=>?_,w7⟩;obtain⟨o,e,d⟩:=T.obj _ _ st6 b hb;exact(I7.pin (b,o) (As _ (As _ (j10 hb e)))).2.1
   have a1:=hg' _ s6 σ4 H6 x u _ I6' r6 (step x H6 y6);rw [ex'] at a1;refine thnF a1 fun _ s7 ⟨σ7,H7,I7,q7⟩=>?_;have a2:=hif' _ s7 σ7 H7 _ I7 q7;rw [ex'] at a2;refine thnF a2 fun ok s8 ⟨H8,I8,q8⟩=>?_;cases ok with
   | false=>
    rw [if_neg Al] at q8 ⊢;exact again I8 q8
   | true=>
    rw [if_pos rfl] at q8 ⊢;have a3:=he' _ s8 σ7 H8 _ I8 q8;rw [ex'] at a3;refine thnF a3 fun v s9 ⟨vv,H9,I9,r9,ys,hy,hz,q9⟩=>?_;have a4:=j4b (X:=X') _ s9 σ7 H9 (.ref s2.heap.objs.size) [vv] (.ref s2.heap.objs.size) [v] (fun _ H'=>N σ7 H') I9 rfl (.cons r9 .nil) ⟨_,ys,vv,rfl,rfl,hy,hz,q9⟩;rw [ex'] at a4;exact thnF a4 fun _ s10 ⟨_,H10,I10,_,q10⟩=>again I10 q10
 refine codeAny_compStart_list (loop _) (T.self _ 0 _ _ _ ?_ (loop _));exact T.keep 0 _ _ st2 fun b _ o e=>old b o (old2 b o e)
theorem q3y(sc:Scope)(N N':List Str)(n:Nat)(hi:PI X tg iter wi)
  (hg:∀ cl C s₀ H₀ ex,PG (j08 X N' scope cl C s₀ H₀ ex) tg g) (hif:∀ cl C s₀ H₀ ex,PIf (j08 X N' scope cl C s₀ H₀ ex) ifs tc) (he:∀ cl C s₀ H₀ ex,PE (j08 X N' scope cl C s₀ H₀ ex) elt te)
  (hc:X.calm=true:=by rfl) (hsc:X.env.scope=sc:=by rfl) (hN:X.N=N:=by rfl) (hk:j4j sc scope N N'=true:=by decide +kernel) (hl:N'.length=N.length+n:=by rfl)
  (hs:∀ x,foldedSetIterable iter X.env x=pure x:=by intro _;rfl):PE X (.ListComp elt [⟨tg,iter,ifs,0⟩] scope pos) (q3g n wi g tc te):=by
 intro pins s σ H Q I h;subst hsc hN;have ck:=CompOk.of hk;rw [eval_ListComp];refine wpAny_comprehension_free (use:=none) rfl hs (j2o fun x hx hf=>I.ok.has x.1 (ck.free x hx hf)) ck.kind ck.names (thn (hi pins s σ H _ I h) fun v s1 h1=>thn h1 fun itv s2 h2=>?_);obtain⟨it,fp,tn,J,H2,e,I2,T,st2,f2,q⟩:=h2;subst e;refine j89 (RR:=fun acc C=>compPost (model X.prog X.w) X.A X.xe none (EP X pins σ Q) acc C) hc ck hl hg hif he I2 T st2 f2 q ?_;intro D C H' s' m IX hn hC c1 c2 c3 c4 qq;exact⟨m,hn,fun h' hs'=>⟨.ref D,H',IX.turned (t':=s'.toks) (fun b o hb e=>hs'.extBut b o hb e) hC (Ne.symm (Ne.symm c1)) (.inr c2) c3 c4,rfl,qq⟩⟩
theorem q1c{y:Str}{py spos:Pos}{i:Nat}(sc:Scope)(N N':List Str)(n:Nat)(hnd:X.N.Nodup)(hiN:X.N[i]?=some y)(hy:Loc X.env.scope y)(hi:PI X tg iter wi)
  (hg:∀ cl C s₀ H₀ ex,PG (j08 X N' scope cl C s₀ H₀ ex) tg g) (hif:∀ cl C s₀ H₀ ex,PIf (j08 X N' scope cl C s₀ H₀ ex) ifs tc) (he:∀ cl C s₀ H₀ ex,PE (j08 X N' scope cl C s₀ H₀ ex) elt te)
  (hsw:swapsWith (.ListComp elt [⟨tg,iter,ifs,0⟩] scope pos) (some (.Name y py)) spos.line X.env=pure true:=by rfl)
  (hc:X.calm=true:=by rfl) (hsc:X.env.scope=sc:=by rfl) (hN:X.N=N:=by rfl) (hk:j4j sc scope N N'=true:=by decide +kernel) (hl:N'.length=N.length+n:=by rfl)
  (hs:∀ x,foldedSetIterable iter X.env x=pure x:=by intro _;rfl) (hf:X.fn y=true\/X.env.scope.names.lookup y=some .local:=by first | exact .inl rfl | exact .inr rfl | assumption) :
  PS X (.Assign [.Name y py] (.ListComp elt [⟨tg,iter,ifs,0⟩] scope pos) spos) (tAsg (q3g n wi g tc te) (k9l i)):=by
 intro pins s σ H D I h;subst hsc hN;have ck:=CompOk.of hk;rw [exec_Assign_Name_used _ _ _ _ hsw];refine wpAny_bind (wpAny_standAt (wpAny_bind ?_));show wpAny _ X.A (do let _ <- comprehension (.ListComp elt [⟨tg,iter,ifs,0⟩] scope pos) scope X.env _ (newList []) false (eval iter X.env) (some (assign (.Name y py) X.env))) _ _ s;refine wpAny_bind (wpAny_mono (wpAny_comprehension_free (use:=some (assign (.Name y py) X.env)) (Q:=fun _ s'=>SP X pins D .next s') rfl hs (j2o fun x hx hf=>I.ok.has x.1 (ck.free x hx hf)) ck.kind ck.names
  (thn (hi pins s σ H _ I h) fun v s1 h1=>thn h1 fun itv s2 h2=>?_)) (fun _ s' hq=>wpAny_pure (wpAny_pure hq)) fun _ _ e=>e)
 obtain⟨it,fp,tn,J,H2,e,I2,T,st2,f2,q⟩:=h2;subst e;refine j89 (Q:=fun x H1=>k9l i x σ H1 D.nx) (RR:=fun acc C=>compPost (model X.prog X.w) X.A X.xe (some (assign (.Name y py) X.env)) (fun _ s'=>SP X pins D .next s') acc C) hc ck hl hg hif he I2 T st2 f2 q ?_;intro D' C H' s' m IX hn hC c1 c2 c3 c4 qq;show wpAny _ X.A (assign (.Name y py) X.env (.ref D')) _ _ _;refine wpAny_assign_Name (j9b IX hnd hiN hy (v:= .ref D') rfl (fun s'' I'' hsb=>?_) hf);obtain⟨a,hsb,ha⟩:=hsb;have hCa:C≠a:=by
  rcases ha with ha | ha
  ·rw [ha];exact c1
  ·exact Ne.symm (c3 _ _ ha)
 refine⟨m,hn.sameBut hsb hCa,fun h' hs'=>⟨_,H',I''.turned (t':=s''.toks) (fun b o hb e=>hs'.extBut b o hb e) hC c1 (.inr c2) c3 c4,qq⟩⟩
end
end L2
namespace L2
open PySem PySem.Spec PyProof.Rows
section
variable{X:Cx}
theorem j4f:j2z X (.builtin "isinstance") (fun xs H Q=>∃ x t T b,xs=[x,.ty T]/\TyOf X.K H x t/\PySem.W.kitOne X.K t (.type T)=some b/\Q (.bl b) H):=by
 intro pins s σ H xs us Q I r h;obtain⟨x,t,T,b,rfl,ty,e,q⟩:=h;obtain⟨u,w',rfl,ru,rw'⟩:=vals2 r;cases (show w'=Value.type T from rw');exact k5j I ru ty e fun tk=>⟨.bl b,H,I.tok tk,rfl,q⟩
theorem j7y:∀{bs:List Bool} {its:List Value},Vals (bs.map V.bl) its->its=bs.map Value.bool
 | [],_,r=>by cases r;rfl
 | b :: bs,_,r=>by
  cases r with
  | cons r1 r2=>
   cases (show _=Value.bool b from r1);rw [j7y r2,Bc]
theorem range_all(bs:List Bool):(List.range bs.length).all (fun i=>bs.getD i true)=bs.all id:=by
 rw [Cr,Dk,Dk]
 constructor
 ·intro h x hx;obtain⟨i,hi,rfl⟩:=Ce.mp hx;have:=h i (Bj.mpr hi)
  simpa [Da,hi] using this
 ·intro h i hi;have hi':=Bj.mp hi;have:=h bs[i] (Cc hi')
  simpa [Da,hi'] using this
theorem range_any(bs:List Bool):(List.range bs.length).any (fun i=>bs.getD i true)=bs.any id:=by
 rw [Cr,Di,Di]
 constructor
 ·rintro ⟨i,hi,h⟩;have hi':=Bj.mp hi;exact⟨bs[i],Cc hi',by simpa [Da,hi'] using h⟩
 ·rintro ⟨x,hx,h⟩;obtain⟨i,hi,rfl⟩:=Ce.mp hx;exact⟨i,Bj.mpr hi,by simpa [Da,hi] using h⟩
theorem k58(hc:X.calm=true):j2z X (.builtin "all") (fun xs H Q=>∃(p:Addr) (bs:List Bool),xs=[.ref p]/\SqL X.K H p (bs.map V.bl)/\Q (.bl (bs.all id)) H):=by
 intro pins s σ H xs us Q I r h;obtain⟨p,bs,rfl,hp,q⟩:=h;obtain⟨u,rfl,ru⟩:=vals1 r;cases (show u=Value.ref p from ru);obtain⟨its,rv,pl,hz⟩:=I.list hp;have hits:=j7y rv;obtain⟨o,_,ho,_⟩:=id pl;have hpl:p < s.heap.objs.size:=Aj ho;refine call_all_walk (wpAny_pyIter_list pl.isList ⟨s.heap.objs.size,_,_,_,_,_,fun i=>bs.getD i true,rfl,Walks.list (A:=X.A.in1) (show X.A.in1.handled=none from I.ok.hd hc) s.heap.objs.size p (Bg hpl) its.toArray,
  ⟨⟨_,Am _ rfl,rfl,rfl⟩,pl.isList.push _⟩,?_,fun h' tk hk=>?_⟩)
 ·intro i v s' Q' E' hv hQ;have hv':its[i]?=some v:=by simpa using hv
  rw [hits,Ad] at hv';cases e:bs[i]? with
  | none=>rw [e] at hv';cases hv'
  | some b=>
   rw [e] at hv';cases hv';refine wpAny_truthy_bool ?_;have:bs.getD i true=b:=by rw [Da,e];rfl
   have hQ':Q' (bs.getD i true) s':=hQ;rw [this] at hQ';exact hQ'
 ·have e:its.toArray.size=bs.length:=by rw [Aq,hits,Aa]
  rw [e,range_all];refine⟨.bl (bs.all id),H,I.kept (t':=tk) fun b o e=>hk b o ?_ (Ae _ e),rfl,q⟩;intro hb;have:b=s.heap.objs.size:=by simpa using hb
  exact absurd (Aj e) (by rw [this];exact By _)
theorem k4c(hc:X.calm=true):j2z X (.builtin "any") (fun xs H Q=>∃(p:Addr) (bs:List Bool),xs=[.ref p]/\SqL X.K H p (bs.map V.bl)/\Q (.bl (bs.any id)) H):=by
 intro pins s σ H xs us Q I r h;obtain⟨p,bs,rfl,hp,q⟩:=h;obtain⟨u,rfl,ru⟩:=vals1 r;cases (show u=Value.ref p from ru);obtain⟨its,rv,pl,hz⟩:=I.list hp;have hits:=j7y rv;obtain⟨o,_,ho,_⟩:=id pl;have hpl:p < s.heap.objs.size:=Aj ho;refine call_any_walk (wpAny_pyIter_list pl.isList ⟨s.heap.objs.size,_,_,_,_,_,fun i=>bs.getD i true,rfl,Walks.list (A:=X.A.in1) (show X.A.in1.handled=none from I.ok.hd hc) s.heap.objs.size p (Bg hpl) its.toArray,
  ⟨⟨_,Am _ rfl,rfl,rfl⟩,pl.isList.push _⟩,?_,fun h' tk hk=>?_⟩)
 ·intro i v s' Q' E' hv hQ;have hv':its[i]?=some v:=by simpa using hv
  rw [hits,Ad] at hv';cases e:bs[i]? with
  | none=>rw [e] at hv';cases hv'
  | some b=>
   rw [e] at hv';cases hv';refine wpAny_truthy_bool ?_;have:bs.getD i true=b:=by rw [Da,e];rfl
   have hQ':Q' (bs.getD i true) s':=hQ;rw [this] at hQ';exact hQ'
 ·have e:its.toArray.size=bs.length:=by rw [Aq,hits,Aa]
  rw [e,range_any];refine⟨.bl (bs.any id),H,I.kept (t':=tk) fun b o e=>hk b o ?_ (Ae _ e),rfl,q⟩;intro hb;have:b=s.heap.objs.size:=by simpa using hb
  exact absurd (Aj e) (by rw [this];exact By _)
theorem q2a:OpR X (binaryOp .Mult) (fun x y H Q=>∃ z i,x = .str z/\y = .int i/\0<=i/\i<=100000/\z.length * i.toNat<=100000/\Q (.str (Txt.mul z i)) H):=by
 intro pins s σ H x y v u Q I rx ry h;obtain⟨z,i,rfl,rfl,h0,h1,h2,q⟩:=h;obtain⟨t,rfl⟩:=rx;obtain⟨t',rfl⟩:=ry;have hsz:sizeLine=16777216:=sizeLine_eq;refine SB.mul ⟨?_,fun h3 h4=>?_,fun h3 h4=>?_⟩ fun t' k=>⟨.str _,H,I.tok k,⟨_,rfl⟩,q⟩
 ·rw [decide_eq_false (by omega),decide_eq_false (by omega)];rfl
 ·have h5:(z.length:Int)<=100000:=by
   have h6:z.length * 1<=z.length * i.toNat:=Nat.mul_le_mul_left _ (by omega);omega
  have h7:(100000:Int)<=(2 ^ 63 - 1) / i:=by
   rw [Int.le_ediv_iff_mul_le (by omega)];have:(100000:Int) * i<=100000 * 100000:=Int.mul_le_mul_of_nonneg_left h1 (by decide);have e:(2:Int) ^ 63 - 1=9223372036854775807:=by decide
   omega
  omega
 ·unfold Builtin.Str.tooLong;rw [hsz];exact decide_eq_false (by omega)
end
end L2
namespace L2
open PySem PySem.Spec PyProof.Rows
def isStar:Expr->Bool
 | .Starred _ _=>true
 | _=>false
def noStar(es:List Expr):Bool:=es.all fun e=>!isStar e
theorem j3c(e:Expr)(es:List Expr)(env:Env)(h:isStar e=false):starEach (e :: es) env=(false,eval e env) :: starEach es env:=by
 cases e <;> first | rfl | (exact absurd h (by simp [isStar]))
theorem j5k(pos:Pos)(env:Env):∀ es:List Expr,noStar es=true->(backTo pos (starEach es env)).any (·.1)=false
 | [],_=>rfl
 | e :: es,h=>by
  have h':(!isStar e)=true/\noStar es=true:=by
   have:=h;unfold noStar at this ⊢;rw [Ga,Bu] at this;exact this
  have hs:isStar e=false:=by
   have:=h'.1;cases q:isStar e with
   | true=>rw [q] at this;cases this
   | false=>rfl
  rw [j3c e es env hs];show(false || (backTo pos (starEach es env)).any (·.1))=false;rw [j5k pos env es h'.2];rfl
theorem j2b{e:Expr}{es:List Expr}(h:noStar (e :: es)=true):isStar e=false/\noStar es=true:=by
 unfold noStar at h ⊢;rw [Ga,Bu] at h;refine⟨?_,h.2⟩;cases q:isStar e with
 | true=>rw [q] at h;cases h.1
 | false=>rfl
section
variable{X:Cx}{CX:CXT}{k:Nat}{f C:Addr}{fd:FuncData}{ps:List Str}{sp:Sp}{dvs:List V}{ds:List Value}{E:XK}{x m:Str}{p pos apos:Pos}{e o:Expr}{es:List Expr}{ta te:TE}{t:TA}{id T:String}{r:List V->Hp->VK->Prop}
theorem pac(ha:PE X e te)(hr:PA X es t)(hs:isStar e=false:=by rfl):PA X (e :: es) (q4w te t):=q3f ha hr (j3c _ _ _ hs)
theorem q7i(F:FnOk X.prog X.w X.K X.mg X.base CX k f fd ps sp)(hr:Room k X.A)(hm:X.mg x=some (.ref f))(hk:PySem.W.keepIn X.K (.ref f)=true)(hb:Binds X.K fd ps [])(hx:j4h CX X E)
  (ha:PA X (e :: es) t) (hg:Gl X x:=by rfl) (hdb:(x == ("__debug__" : Str))=false:=by decide) (hs:noStar (e :: es)=true:=by rfl):PE X (.Call (.Name x p) (e :: es) [] pos) (q52 sp [] E t):=
 q1w F hr hg hm hk hb .nil hx ha hdb (j3c _ _ _ (j2b hs).1) (j5k _ _ _ (j2b hs).2)
theorem pblt(hc:j2z X (.builtin id) r)(hm:X.mg x=none)(hv:bootBuiltins x=some (.builtin id))(ha:PA X (e :: es) t)(hg:Gl X x:=by rfl)(hn:x ≠ "__name__":=by decide)(hdb:(x == ("__debug__" : Str))=false:=by decide)
  (hs:noStar (e :: es)=true:=by rfl):PE X (.Call (.Name x p) (e :: es) [] pos) (tCB r t):=
 k9o hc hg hm hv ha hn hdb (j3c _ _ _ (j2b hs).1) (j5k _ _ _ (j2b hs).2)
theorem ptyp(hc:j2z X (.type T) r)(hm:X.mg x=none)(hv:bootBuiltins x=some (.type T))(ha:PA X (e :: es) t)(hg:Gl X x:=by rfl)(hn:x ≠ "__name__":=by decide)(hdb:(x == ("__debug__" : Str))=false:=by decide)
  (hs:noStar (e :: es)=true:=by rfl):PE X (.Call (.Name x p) (e :: es) [] pos) (tCB r t):=
 k30 hc hg hm hv ha hn hdb (j3c _ _ _ (j2b hs).1) (j5k _ _ _ (j2b hs).2)
end
end L2
namespace L2
open PySem PySem.Spec PyProof.Rows
structure Ev(X:Cx)(e:Expr)(σ:St)(H:Hp)(Q:VK):Prop where
 run:∀(pins:List (Addr×Obj)) (s:Shared),Inv X pins σ H s->wpAny (model X.prog X.w) X.A (eval e X.env) (EP X pins σ Q) X.xe s
structure Et(X:Cx)(e:Expr)(σ:St)(H:Hp)(Q:Bool->Hp->Prop):Prop where
 run:∀(pins:List (Addr×Obj)) (s:Shared),Inv X pins σ H s->wpAny (model X.prog X.w) X.A (isTrue e X.env (eval e X.env)) (TP X pins σ Q) X.xe s
structure Ew(X:Cx)(e:Expr)(σ:St)(H:Hp)(Q:Bool->Hp->Prop):Prop where
 run:∀(whole:Sem Value) (pins:List (Addr×Obj)) (s:Shared),Inv X pins σ H s->wpAny (model X.prog X.w) X.A (isTrue e X.env whole) (TP X pins σ Q) X.xe s
structure Ea(X:Cx)(es:List Expr)(σ:St)(H:Hp)(Q:List V->Hp->Prop):Prop where
 run:∀(pos:Pos) (pins:List (Addr×Obj)) (s:Shared),Inv X pins σ H s->wpAny (model X.prog X.w) X.A (spliced (backTo pos (starEach es X.env))) (AP X pins σ Q) X.xe s
structure Eo(X:Cx)(e:Option Expr)(σ:St)(H:Hp)(Q:Option Int->Hp->Prop):Prop where
 run:∀(pins:List (Addr×Obj)) (s:Shared),Inv X pins σ H s->wpAny (model X.prog X.w) X.A (evalPart e X.env) (fun u s'=>∃ o H',Inv X pins σ H' s'/\IsPart u o/\Q o H') X.xe s
structure Eg(X:Cx)(e:Expr)(v:V)(σ:St)(H:Hp)(Q:St->Hp->Prop):Prop where
 run:∀(pins:List (Addr×Obj)) (s:Shared) (u:Value),Inv X pins σ H s->RelV v u->wpAny (model X.prog X.w) X.A (assign e X.env u) (fun _ s'=>∃ σ' H',Inv X pins σ' H' s'/\Q σ' H') X.xe s
structure Run(X:Cx)(l:List Stmt)(D:Ends)(σ:St)(H:Hp):Prop where
 run:∀(pins:List (Addr×Obj)) (s:Shared),Inv X pins σ H s->wpAny (model X.prog X.w) X.A (execs l X.env) (SP X pins D) X.xe s
def tEv(X:Cx)(e:Expr):TE:=fun σ H Q=>Ev X e σ H Q
def tEt(X:Cx)(e:Expr):TT:=fun σ H Q=>Et X e σ H Q
def tEw(X:Cx)(e:Expr):TT:=fun σ H Q=>Ew X e σ H Q
def tEa(X:Cx)(es:List Expr):TA:=fun σ H Q=>Ea X es σ H Q
def tEo(X:Cx)(e:Option Expr):TO:=fun σ H Q=>Eo X e σ H Q
def tEg(X:Cx)(e:Expr):TG:=fun v σ H Q=>Eg X e v σ H Q
def tRun(X:Cx)(l:List Stmt):TS:=fun D σ H=>Run X l D σ H
section
variable{X:Cx}{e a b c o:Expr}{es:List Expr}{st:Stmt}{rest body els:List Stmt}{σ:St}{H:Hp}{Q:VK}{T:Bool->Hp->Prop}{L:List V->Hp->Prop}{D:Ends}{pos p p2:Pos}
theorem j05:PE X e (tEv X e):=fun pins s _ _ _ I h=>h.run pins s I
theorem j74:PT X e (tEt X e):=fun pins s _ _ _ I h=>h.run pins s I
theorem q6h:PW X e (tEw X e):=fun wh pins s _ _ _ I h=>h.run wh pins s I
theorem j4u:PA X es (tEa X es):=fun pos pins s _ _ _ I h=>h.run pos pins s I
theorem q4p{e:Option Expr}:PO X e (tEo X e):=fun pins s _ _ _ I h=>h.run pins s I
theorem k0n:PG X e (tEg X e):=fun pins s _ _ _ u _ I r h=>h.run pins s u I r
theorem j39{l:List Stmt}:PSs X l (tRun X l):=fun pins s _ _ _ I h=>h.run pins s I
theorem j2e{t:TE}(h1:PE X e t)(h2:t σ H Q):Ev X e σ H Q:=⟨fun pins s I=>h1 pins s σ H Q I h2⟩
theorem k3b{t:TT}(h1:PT X e t)(h2:t σ H T):Et X e σ H T:=⟨fun pins s I=>h1 pins s σ H T I h2⟩
theorem k9r{t:TT}(h1:PW X e t)(h2:t σ H T):Ew X e σ H T:=⟨fun wh pins s I=>h1 wh pins s σ H T I h2⟩
theorem q6c{t:TA}(h1:PA X es t)(h2:t σ H L):Ea X es σ H L:=⟨fun pos pins s I=>h1 pos pins s σ H L I h2⟩
theorem q4d{e:Option Expr}{t:TO}{R:Option Int->Hp->Prop}(h1:PO X e t)(h2:t σ H R):Eo X e σ H R:=⟨fun pins s I=>h1 pins s σ H R I h2⟩
theorem q1b{t:TG}{v:V}{R:St->Hp->Prop}(h1:PG X e t)(h2:t v σ H R):Eg X e v σ H R:=⟨fun pins s u I r=>h1 pins s σ H v u R I r h2⟩
theorem j2g{t:TS}(h1:PS X st t)(h2:t {D with nx:=fun σ' H'=>Run X rest D σ' H'} σ H):Run X (st :: rest) D σ H:=⟨fun pins s I=>k82 h1 j39 pins s σ H D I h2⟩
theorem j0i(h:D.nx σ H):Run X [] D σ H:=⟨fun pins s I=>q2d pins s σ H D I h⟩
theorem Ev.mono{Q':VK}(h:Ev X e σ H Q)(f:∀ v H',Q v H'->Q' v H'):Ev X e σ H Q':=⟨fun pins s I=>thn (h.run pins s I) fun _ _ ⟨v,H',I',r,q⟩=>⟨v,H',I',r,f v H' q⟩⟩
theorem Et.mono{T':Bool->Hp->Prop}(h:Et X e σ H T)(f:∀ v H',T v H'->T' v H'):Et X e σ H T':=⟨fun pins s I=>thn (h.run pins s I) fun v _ ⟨H',I',q⟩=>⟨H',I',f v H' q⟩⟩
theorem Ea.mono{L':List V->Hp->Prop}(h:Ea X es σ H L)(f:∀ v H',L v H'->L' v H'):Ea X es σ H L':=⟨fun pos pins s I=>thn (h.run pos pins s I) fun _ _ ⟨v,H',I',r,q⟩=>⟨v,H',I',r,f v H' q⟩⟩
theorem ev_v(i:Nat){x:Str}{v:V}(h:Q v H)(hv:σ[i]?=some (some v):=by rfl)(hN:X.N[i]?=some x:=by rfl)(hs:Vis X.env.scope x:=by first | exact Or.inl rfl | exact Or.inr (Or.inl rfl) | exact Or.inr (Or.inr rfl))(hd:(x == ("__debug__" : Str))=false:=by decide)
  (hcd:(x == ("__classdict__" : Str))=false:=by decide):Ev X (.Name x p) σ H Q:=j2e (q4g (i:=i) hN hs hd hcd) ⟨v,hv,h⟩
theorem j0h{i:Int}{j:Nat}(h:Q (.int i) H):Ev X (.Constant (.int i) j p) σ H Q:=j2e (q6t) h
theorem k0q{i:Bool}{j:Nat}(h:Q (.bl i) H):Ev X (.Constant (.bool i) j p) σ H Q:=j2e (q7o) h
theorem j25{i:Str}{j:Nat}(h:Q (.str i) H):Ev X (.Constant (.str i) j p) σ H Q:=j2e (q56) h
theorem k0p{x:Str}{v:V}{u:Value}(hm:X.mg x=some u)(r:RelV v u)(h:Q v H)(hg:Gl X x:=by rfl)(hd:(x == ("__debug__" : Str))=false:=by decide):Ev X (.Name x p) σ H Q:=j2e (q11 hg hm r hd) h
theorem j6c{x:Str}(v:V){u:Value}(hm:X.mg x=none)(hv:bootBuiltins x=some u)(r:RelV v u)(h:Q v H)(hg:Gl X x:=by rfl)(hn:x ≠ "__name__":=by decide)(hd:(x == ("__debug__" : Str))=false:=by decide):Ev X (.Name x p) σ H Q:=j2e (q2y hg hm hv r hn hd) h
theorem j0t{op:Operator}{r:R2}(ho:OpR X (binaryOp op) r)(h:Ev X a σ H fun x H1=>Ev X b σ H1 fun y H2=>r x y H2 Q):Ev X (.BinOp a op b pos) σ H Q:=j2e (q6x ho j05 j05) h
theorem j59{op:CmpOp}{r:R2}(ho:OpR X (compareOp op) r)(h:Ev X a σ H fun x H1=>Ev X b σ H1 fun y H2=>r x y H2 Q)(hm:behindInMarks op b=false:=by with_unfolding_all rfl):Ev X (.Compare a [op] [b] pos) σ H Q:=j2e (q21 ho j05 j05 hm) h
theorem q31(h:Ev X a σ H fun x H1=>∃ k,x = .bl k/\if k=true then Ev X (.BoolOp .And (b :: es) pos) σ H1 Q else Q (.bl false) H1):Ev X (.BoolOp .And (a :: b :: es) pos) σ H Q:=j2e (q5m j05 j05) h
theorem k42{op:BoolOp}(h:Ev X a σ H Q):Ev X (.BoolOp op [a] pos) σ H Q:=j2e (q41 j05) h
theorem k9h(h:Et X c σ H fun k H1=>if k=true then Ev X a σ H1 Q else Ev X b σ H1 Q):Ev X (.IfExp c a b pos) σ H Q:=j2e (k8h j74 j05 j05) h
theorem j0q{r:R2}(hr:IxR X r)(h:Ev X a σ H fun x H1=>Ev X b σ H1 fun y H2=>r x y H2 Q)(hs:k61 b:=by intro _ _;rfl):Ev X (.Subscript a b pos) σ H Q:=j2e (q74 hr j05 j05 hs) h
theorem j5f{r:V->Option Int->Option Int->Hp->VK->Prop}{lo hi:Option Expr}(hr:SlR X r)(h:Ev X a σ H fun x H1=>Eo X lo σ H1 fun l H2=>Eo X hi σ H2 fun u H3=>r x l u H3 Q):Ev X (.Subscript a (.Slice lo hi none p2) pos) σ H Q:=j2e (k9y hr j05 q4p q4p) h
theorem j7i{R:Option Int->Hp->Prop}(h:R none H):Eo X none σ H R:=q4d (q3b) h
theorem j71{R:Option Int->Hp->Prop}(h:Ev X a σ H fun x H1=>∃ i,x = .int i/\R (some i) H1):Eo X (some a) σ H R:=q4d (q2j j05) h
theorem j0c(h:L [] H):Ea X [] σ H L:=q6c (q4h) h
theorem j0a(h:Ev X e σ H fun x H1=>Ea X es σ H1 fun xs H2=>L (x :: xs) H2)(hs:isStar e=false:=by rfl):Ea X (e :: es) σ H L:=q6c (pac j05 j4u hs) h
theorem j1n{k:Nat}(h:Ea X es σ H fun xs H1=>xs.length<=sizeLine/\∀ p,H1 p=none->Q (.ref p) (upd H1 p (.tup xs))):Ev X (.Tuple es k pos) σ H Q:=j2e (q34 j4u) h
theorem j1h(h:Ea X es σ H fun xs H1=>xs.length<=sizeLine/\∀ p,H1 p=none->Q (.ref p) (upd H1 p (.lst xs))):Ev X (.List es pos) σ H Q:=j2e (q5n j4u) h
theorem k6y{CX:CXT}{k:Nat}{f:Addr}{fd:FuncData}{ps:List Str}{sp:Sp}{E:XK}{x:Str}(F:FnOk X.prog X.w X.K X.mg X.base CX k f fd ps sp)(hr:Room k X.A)(hm:X.mg x=some (.ref f))(hk:PySem.W.keepIn X.K (.ref f)=true)(hb:Binds X.K fd ps [])(hx:j4h CX X E)
  (h:Ea X (e :: es) σ H fun vs H1=>sp vs H1 Q E) (hg:Gl X x:=by rfl) (hdb:(x == ("__debug__" : Str))=false:=by decide) (hs:noStar (e :: es)=true:=by rfl):Ev X (.Call (.Name x p) (e :: es) [] pos) σ H Q:=
 j2e (q7i F hr hm hk hb hx j4u hg hdb hs) (show Ea X (e :: es) σ H _ from h.mono fun vs H1 q=>by rw [Ba];exact q)
theorem j0y{id:String}{r:List V->Hp->VK->Prop}{x:Str}(hc:j2z X (.builtin id) r)(hm:X.mg x=none)(hv:bootBuiltins x=some (.builtin id))(h:Ea X (e :: es) σ H fun vs H1=>r vs H1 Q)(hg:Gl X x:=by rfl)(hn:x ≠ "__name__":=by decide)(hdb:(x == ("__debug__" : Str))=false:=by decide)
  (hs:noStar (e :: es)=true:=by rfl):Ev X (.Call (.Name x p) (e :: es) [] pos) σ H Q:=j2e (pblt hc hm hv j4u hg hn hdb hs) h
theorem j34{T:String}{r:List V->Hp->VK->Prop}{x:Str}(hc:j2z X (.type T) r)(hm:X.mg x=none)(hv:bootBuiltins x=some (.type T))(h:Ea X (e :: es) σ H fun vs H1=>r vs H1 Q)(hg:Gl X x:=by rfl)(hn:x ≠ "__name__":=by decide)(hdb:(x == ("__debug__" : Str))=false:=by decide)
  (hs:noStar (e :: es)=true:=by rfl):Ev X (.Call (.Name x p) (e :: es) [] pos) σ H Q:=j2e (ptyp hc hm hv j4u hg hn hdb hs) h
theorem j09{op:CmpOp}{r:R2}(ho:OpR X (compareOp op) r)(h:Ev X a σ H fun x H1=>Ev X b σ H1 fun y H2=>r x y H2 fun z H3=>∃ k,z = .bl k/\T k H3)(hm:behindInMarks op b=false:=by with_unfolding_all rfl):Et X (.Compare a [op] [b] pos) σ H T:=k3b (q2e ho j05 j05 hm) h
theorem j3l(h:Et X a σ H fun k H1=>T (!k) H1):Et X (.UnaryOp .Not a pos) σ H T:=k3b (q6r j74) h
theorem j32(h:Ev X e σ H fun x H1=>∃ k,x = .bl k/\T k H1)(he:∀ whole,isTrue e X.env whole=(do let v <- whole;standAt e.pos;holding [v] (truthy v)):=by intro _;rfl):Et X e σ H T:=k3b (q4b j05 he) h
theorem k16(h:Ev X e σ H fun x H1=>∃ k,TruV X.K x H1 k/\T k H1)(he:∀ whole,isTrue e X.env whole=(do let v <- whole;standAt e.pos;holding [v] (truthy v)):=by intro _;rfl):Et X e σ H T:=k3b (k9e j05 he) h
theorem j3q(h:Ew X e σ H T):Et X e σ H T:=⟨fun pins s I=>h.run _ pins s I⟩
theorem k4l(h:Et X a σ H fun k H1=>if k=true then Ew X (.BoolOp .And (b :: es) pos) σ H1 T else T false H1):Ew X (.BoolOp .And (a :: b :: es) pos) σ H T:=k9r (q4j j74 q6h) h
theorem k0y(h:Et X a σ H fun k H1=>if k=true then T true H1 else Ew X (.BoolOp .Or (b :: es) pos) σ H1 T):Ew X (.BoolOp .Or (a :: b :: es) pos) σ H T:=k9r (q7a j74 q6h) h
theorem j95(h:Et X a σ H T):Ew X (.BoolOp .And [a] pos) σ H T:=k9r (q1z j74) h
theorem j9j(h:Et X a σ H T):Ew X (.BoolOp .Or [a] pos) σ H T:=k9r (q5g j74) h
theorem j0k(i:Nat){x:Str}{v:V}{R:St->Hp->Prop}(hN:X.N.Nodup)(h:R (σ.set i (some v)) H)(hi:X.N[i]?=some x:=by rfl)(hx:Loc X.env.scope x:=by first | exact Or.inl rfl | exact Or.inr rfl)(hf:X.fn x=true\/X.env.scope.names.lookup x=some .local:=by first | exact .inl rfl | exact .inr rfl | assumption):Eg X (.Name x p) v σ H R:=q1b (q2t hN hi hx hf) h
theorem j0j(i:Nat){x:Str}{pos':Pos}(hN:X.N.Nodup)(h:Ev X e σ H fun v H1=>Run X rest D (σ.set i (some v)) H1)(hi:X.N[i]?=some x:=by rfl)(hx:Loc X.env.scope x:=by first | exact Or.inl rfl | exact Or.inr rfl)(hs:swapsWith e (some (.Name x pos')) pos.line X.env=pure false:=by rfl)
  (hf:X.fn x=true\/X.env.scope.names.lookup x=some .local:=by first | exact .inl rfl | exact .inr rfl | assumption):Run X (.Assign [.Name x pos'] e pos :: rest) D σ H:=j2g (q30 hN hi hx j05 hs hf) h
theorem j11(h:Et X c σ H fun k H1=>if k=true then Run X body {D with nx:=fun σ' H'=>Run X rest D σ' H'} σ H1 else Run X els {D with nx:=fun σ' H'=>Run X rest D σ' H'} σ H1):Run X (.If c body els pos :: rest) D σ H:=j2g (q65 j74 j39 j39) h
theorem k3q(φ ψ:Prop)(hc:∀ T:Bool->Hp->Prop,(∀ k:Bool,(k=true->φ)->(k=false->ψ)->T k H)->Et X c σ H T)(ht:φ->Run X body {D with nx:=fun σ' H'=>Run X rest D σ' H'} σ H)(hu:ψ->Run X els {D with nx:=fun σ' H'=>Run X rest D σ' H'} σ H):Run X (.If c body els pos :: rest) D σ H:=
 j11 (hc _ fun k p q=>by
  cases k with
  | true=>rw [if_pos rfl];exact ht (p rfl)
  | false=>rw [if_neg Al];exact hu (q rfl))
theorem j0r(h:Ev X e σ H D.rt):Run X (.Return (some e) pos :: rest) D σ H:=j2g (q5e j05) h
theorem j0v(h:Ev X e σ H fun _ H1=>Run X rest D σ H1)(hs:swapsWith e none pos.line X.env=pure false:=by rfl):Run X (.Expr e pos :: rest) D σ H:=j2g (q1m j05 hs) h
theorem k06{tg:Expr}(h:Ev X e σ H fun v H1=>Eg X tg v σ H1 fun σ' H'=>Run X rest D σ' H')(hs:swapsWithSole [tg] e pos.line X.env=pure false:=by rfl)(hw:swappedStores [tg] e X.env=pure none:=by rfl)
  (h1:(assignEach [tg] X.env).map (·.2)=[assign tg X.env]:=by rfl):Run X (.Assign [tg] e pos :: rest) D σ H:=j2g (q37 j05 k0n hs hw h1) h
def Loop(X:Cx)(tg:Expr)(body:List Stmt)(J:It)(D:Ends)(after:St->Hp->Prop)(σ:St)(H:Hp):Prop:=
 ∃ W:Nat->Nat->St->Hp->Prop,(∃ m,W 0 m σ H)/\∀ i m σ H,W i m σ H->(J.stop i H/\after σ H)\/(J.go i H/\∃ N:St->Hp->Prop,(∀ σ' H',N σ' H'->∃ m',m' < m/\W (i+1) m' σ' H') /\
  ∀ x H',J.yld i H x H'->Eg X tg x σ H' fun σ2 H2=>Run X body {D with nx:=N,ct:=N,bk:=after} σ2 H2)
theorem j75{tg iter:Expr}{wi:TI}(hi:PI X tg iter wi)(h:wi σ H fun J H1=>Loop X tg body J D (fun σ' H'=>Run X rest D σ' H') σ H1)(hp:PassesOwn (model X.prog X.w) X.A X.env X.xe:=by exact PassesOwn.never)(hc:X.calm=true:=by rfl)
  (hs:∀ x,foldedSetIterable iter X.env x=pure x:=by intro _;rfl):Run X (.For tg iter body [] pos :: rest) D σ H:=j2g (q5p hp hc hi k0n j39 hs) h
theorem j1q{tg:Expr}{q:Pos}(hm:X.mg "range" = none)(h:Ev X a σ H fun x H1=>∃ j:Int,x = .int j/\-(2 ^ 62)<=j/\j < 2 ^ 62/\Loop X tg body (Itr 0 j.toNat) D (fun σ' H'=>Run X rest D σ' H') σ H1)(hg:Gl X "range":=by rfl)(hp:PassesOwn (model X.prog X.w) X.A X.env X.xe:=by exact PassesOwn.never)(hc:X.calm=true:=by rfl)(hs:isStar a=false:=by rfl) :
  Run X (.For tg (.Call (.Name "range" q) [a] [] p) body [] pos :: rest) D σ H:=
 j75 (wi:=q3z (tEa X [a])) (j6m hg hm j4u (j3c a [] _ hs)) (show Ea X [a] σ H _ from j0a (h.mono fun x H1 ⟨j,e,h1,h2,h3⟩=>j0c ⟨j,by rw [e],h1,h2,h3⟩) hs) hp hc (by intro _;rfl)
theorem k9c{tg iter:Expr}(h:Ev X iter σ H fun x H1=>∃ a,x = .ref a/\(∃ xs,SqT X.K H1 a xs)/\Loop X tg body (Itt X.K a) D (fun σ' H'=>Run X rest D σ' H') σ H1)(hp:PassesOwn (model X.prog X.w) X.A X.env X.xe:=by exact PassesOwn.never)(hc:X.calm=true:=by rfl)
  (hs:∀ x,foldedSetIterable iter X.env x=pure x:=by intro _;rfl):Run X (.For tg iter body [] pos :: rest) D σ H:=j75 (q4x j05) h hp hc hs
theorem j2f{tg iter:Expr}(h:Ev X iter σ H fun x H1=>∃ a,x = .ref a/\(∃ xs,SqL X.K H1 a xs)/\Loop X tg body (Itl X.K a) D (fun σ' H'=>Run X rest D σ' H') σ H1)(hp:PassesOwn (model X.prog X.w) X.A X.env X.xe:=by exact PassesOwn.never)(hc:X.calm=true:=by rfl)
  (hs:∀ x,foldedSetIterable iter X.env x=pure x:=by intro _;rfl):Run X (.For tg iter body [] pos :: rest) D σ H:=j75 (j1u j05) h hp hc hs
theorem j1j{tg:Expr}{lo:Int}{n:Nat}{after:St->Hp->Prop}(Pv:Nat->St->Hp->Prop)(h0:Pv 0 σ H)
  (hs:∀ i σ H,i < n->Pv i σ H->Eg X tg (.int (lo+i)) σ H fun σ2 H2=>Run X body {D with nx:=Pv (i+1),ct:=Pv (i+1),bk:=after} σ2 H2) (hd:∀ σ H,Pv n σ H->after σ H):Loop X tg body (Itr lo n) D after σ H:=by
 refine⟨fun i m σ H=>m=n - i/\i<=n/\Pv i σ H,⟨n,by simp,Bn _,h0⟩,?_⟩;rintro i m σ H ⟨rfl,hi,p⟩
 by_cases hlt:i < n
 ·refine .inr ⟨hlt,Pv (i+1),fun σ' H' p'=>⟨n - (i+1),by omega,rfl,hlt,p'⟩,fun x H' y=>?_⟩;obtain⟨e,y⟩:=y;subst e y;exact hs i σ _ hlt p
 ·have e:i=n:=by omega
  subst e;exact .inl ⟨Ah _,hd σ H p⟩
theorem k8l{tg:Expr}{at_:Addr}{xs:List V}{after:St->Hp->Prop}(Pv:Nat->St->Hp->Prop)(h0:Pv 0 σ H)(hl:∀ i σ H,i<=xs.length->Pv i σ H->SqT X.K H at_ xs)
  (hs:∀ i x σ H,xs[i]?=some x->Pv i σ H->Eg X tg x σ H fun σ2 H2=>Run X body {D with nx:=Pv (i+1),ct:=Pv (i+1),bk:=after} σ2 H2) (hd:∀ σ H,Pv xs.length σ H->after σ H):Loop X tg body (Itt X.K at_) D after σ H:=by
 refine⟨fun i m σ H=>m=xs.length - i/\i<=xs.length/\Pv i σ H,⟨xs.length,by simp,Bn _,h0⟩,?_⟩;rintro i m σ H ⟨rfl,hi,p⟩;have q:=hl i σ H hi p
 by_cases hlt:i < xs.length
 ·refine .inr ⟨⟨xs,xs[i],q,by simp [hlt]⟩,Pv (i+1),fun σ' H' p'=>⟨xs.length - (i+1),by omega,rfl,hlt,p'⟩,fun x H' y=>?_⟩;obtain⟨e,y⟩:=y;subst e;exact hs i x σ _ (y xs q) p
 ·have e:i=xs.length:=by omega
  subst e;exact .inl ⟨⟨xs,q,Ah _⟩,hd σ H p⟩
theorem j1v{tg:Expr}{at_:Addr}{xs:List V}{after:St->Hp->Prop}(Pv:Nat->St->Hp->Prop)(h0:Pv 0 σ H)(hl:∀ i σ H,i<=xs.length->Pv i σ H->SqL X.K H at_ xs)
  (hs:∀ i x σ H,xs[i]?=some x->Pv i σ H->Eg X tg x σ H fun σ2 H2=>Run X body {D with nx:=Pv (i+1),ct:=Pv (i+1),bk:=after} σ2 H2) (hd:∀ σ H,Pv xs.length σ H->after σ H):Loop X tg body (Itl X.K at_) D after σ H:=by
 refine⟨fun i m σ H=>m=xs.length - i/\i<=xs.length/\Pv i σ H,⟨xs.length,by simp,Bn _,h0⟩,?_⟩;rintro i m σ H ⟨rfl,hi,p⟩;have q:=hl i σ H hi p
 by_cases hlt:i < xs.length
 ·refine .inr ⟨⟨xs,xs[i],q,by simp [hlt]⟩,Pv (i+1),fun σ' H' p'=>⟨xs.length - (i+1),by omega,rfl,hlt,p'⟩,fun x H' y=>?_⟩;obtain⟨e,y⟩:=y;subst e;exact hs i x σ _ (y xs q) p
 ·have e:i=xs.length:=by omega
  subst e;exact .inl ⟨⟨xs,q,Ah _⟩,hd σ H p⟩
theorem Fun.go{P:Program}{w:World}{K:PySem.W.Frag}{mg:Str->Option Value}{base:Heap}{x qual:Str}{st:Stmt}{f:Addr}{fd:FuncData}{N ps:List Str}{k:Nat}{sp:Sp}(F:Fun K x qual st f fd)(S:FnScope N ps (j0g st))(len:∀ vs H Q E,sp vs H Q E->vs.length=ps.length)
  (hbody : ∀ (cdv : Value) (A : Around) (outer : List Env) (s : Shared) (H : Hp) (vs : List V) (Q : VK) (E : XK), Room k (A.deeper (envOfC qual (j0g st) s.heap.objs.size f cdv)) → sp vs H Q E →
   Run (cxOf CX0 P w K mg base N qual (j0g st) f cdv A outer s H E).nox (j17 st) {nx:=fun _ H'=>Q .non H',rt:=Q} (start N vs) H):FnOk P w K mg base CX0 (k+1) f fd ps sp:=
 F.ok S len fun cdv A outer s H vs Q E hr hsp=>⟨_,j39,hbody cdv A outer s H vs Q E hr hsp⟩
end
end L2
namespace L2
open PySem PySem.Spec PyProof.Rows
structure Ei(X:Cx)(ifs:List Expr)(σ:St)(H:Hp)(Q:Bool->Hp->Prop):Prop where
 run:∀(pins:List (Addr×Obj)) (s:Shared),Inv X pins σ H s ->
  wpAny (model X.prog X.w) X.A (forIn ifs true fun c r=>if r=true then do let ok <- isTrue c X.env (eval c X.env);pure (ForInStep.yield ok) else pure (ForInStep.yield r)) (TP X pins σ Q) X.xe s
def CEv(X:Cx)(N':List Str)(scope:Scope)(e:Expr)(σ:St)(H:Hp)(Q:VK):Prop:=∀ cl C s₀ H₀ ex,Ev (j08 X N' scope cl C s₀ H₀ ex) e σ H Q
def CEg(X:Cx)(N':List Str)(scope:Scope)(e:Expr)(v:V)(σ:St)(H:Hp)(Q:St->Hp->Prop):Prop:=∀ cl C s₀ H₀ ex,Eg (j08 X N' scope cl C s₀ H₀ ex) e v σ H Q
def CEi(X:Cx)(N':List Str)(scope:Scope)(ifs:List Expr)(σ:St)(H:Hp)(Q:Bool->Hp->Prop):Prop:=∀ cl C s₀ H₀ ex,Ei (j08 X N' scope cl C s₀ H₀ ex) ifs σ H Q
def j93(X:Cx)(N':List Str)(scope:Scope)(tg:Expr)(ifs:List Expr)(elt:Expr)(J:It)(D:Addr)(after:Hp->Prop)(σ:St)(H:Hp):Prop:=
 ∃ W:Nat->Nat->St->Hp->Prop,(∃ m,W 0 m σ H)/\∀ i m σ' H',W i m σ' H' ->
  (J.stop i H' ∧ after H') ∨ (J.go i H' ∧ ∃ N : St → Hp → Prop, (∀ σ' H', N σ' H' → ∃ m', m' < m ∧ W (i + 1) m' σ' H') ∧ ∀ x H2, J.yld i H' x H2 → CEg X N' scope tg x σ' H2 fun σ2 H3 => CEi X N' scope ifs σ2 H3 fun b H4 =>
   if b=true then CEv X N' scope elt σ2 H4 fun v H5=>∃ ys,H5 D=some (.lst ys)/\ys.length < sizeLine/\N σ2 (upd H5 D (.lst (ys++[v]))) else N σ2 H4)
section
variable{X:Cx}{elt tg iter c:Expr}{ifs:List Expr}{scope:Scope}{pos p:Pos}{wi:TI}{σ:St}{H:Hp}{Q:VK}{T:Bool->Hp->Prop}{rest:List Stmt}{D:Ends}
theorem j2v(h:T true H):Ei X [] σ H T:=⟨fun pins s I=>q1e pins s σ H T I h⟩
theorem j83(h:Et X c σ H T):Ei X [c] σ H T:=⟨fun pins s I=>q1p j74 pins s σ H T I h⟩
theorem j3a(sc:Scope)(N N':List Str)(n:Nat)(hi:PI X tg iter wi)
  (h:wi σ H fun J H1=>∀ D,H1 D=none->j93 X N' scope tg ifs elt J D (fun H'=>Q (.ref D) H') (σ++List.replicate n none) (upd H1 D (.lst [])))
  (hc:X.calm=true:=by rfl) (hsc:X.env.scope=sc:=by rfl) (hN:X.N=N:=by rfl) (hk:j4j sc scope N N'=true:=by decide +kernel) (hl:N'.length=N.length+n:=by rfl)
  (hs:∀ x,foldedSetIterable iter X.env x=pure x:=by intro _;rfl):Ev X (.ListComp elt [⟨tg,iter,ifs,0⟩] scope pos) σ H Q:=
 j2e (q3y (g:=fun v σ H Q=>CEg X N' scope tg v σ H Q) (tc:=fun σ H Q=>CEi X N' scope ifs σ H Q) (te:=fun σ H Q=>CEv X N' scope elt σ H Q) sc N N' n hi
  (fun cl C s₀ H₀ ex pins s σ H v u Q I r h=>(h cl C s₀ H₀ ex).run pins s u I r) (fun cl C s₀ H₀ ex pins s σ H Q I h=>(h cl C s₀ H₀ ex).run pins s I) (fun cl C s₀ H₀ ex pins s σ H Q I h=>(h cl C s₀ H₀ ex).run pins s I) hc hsc hN hk hl hs) h
theorem j5i(i:Nat){y:Str}{py spos:Pos}(sc:Scope)(N N':List Str)(n:Nat)(hnd:X.N.Nodup)(hi:PI X tg iter wi)
  (h:wi σ H fun J H1=>∀ A,H1 A=none->j93 X N' scope tg ifs elt J A (fun H'=>Run X rest D (σ.set i (some (.ref A))) H') (σ++List.replicate n none) (upd H1 A (.lst [])))
  (hiN:X.N[i]?=some y:=by rfl) (hy:Loc X.env.scope y:=by first | exact Or.inl rfl | exact Or.inr rfl)
  (hsw:swapsWith (.ListComp elt [⟨tg,iter,ifs,0⟩] scope pos) (some (.Name y py)) spos.line X.env=pure true:=by rfl)
  (hc:X.calm=true:=by rfl) (hsc:X.env.scope=sc:=by rfl) (hN:X.N=N:=by rfl) (hk:j4j sc scope N N'=true:=by decide +kernel) (hl:N'.length=N.length+n:=by rfl)
  (hs:∀ x,foldedSetIterable iter X.env x=pure x:=by intro _;rfl) (hf:X.fn y=true\/X.env.scope.names.lookup y=some .local:=by first | exact .inl rfl | exact .inr rfl | assumption) :
  Run X (.Assign [.Name y py] (.ListComp elt [⟨tg,iter,ifs,0⟩] scope pos) spos :: rest) D σ H:=
 j2g (q1c (g:=fun v σ H Q=>CEg X N' scope tg v σ H Q) (tc:=fun σ H Q=>CEi X N' scope ifs σ H Q) (te:=fun σ H Q=>CEv X N' scope elt σ H Q) sc N N' n hnd hiN hy hi
  (fun cl C s₀ H₀ ex pins s σ H v u Q I r h=>(h cl C s₀ H₀ ex).run pins s u I r) (fun cl C s₀ H₀ ex pins s σ H Q I h=>(h cl C s₀ H₀ ex).run pins s I) (fun cl C s₀ H₀ ex pins s σ H Q I h=>(h cl C s₀ H₀ ex).run pins s I) hsw hc hsc hN hk hl hs hf) h
theorem k4y{N':List Str}{x:Str}{z:Str}{A:Addr}{after:Hp->Prop}(f:Nat->V)(hz:z.cps.size < sizeLine)(hg:∀ cl C s₀ H₀ ex v v0 H' R,R (σ++[some v]) H'->Eg (j08 X N' scope cl C s₀ H₀ ex) tg v (σ++[v0]) H' R)
  (he:∀ cl C s₀ H₀ ex c H' R,(∃ j:Nat,z.cps[j]?=some c)->R (f c) H'->Ev (j08 X N' scope cl C s₀ H₀ ex) elt (σ++[some (.str ⟨#[c]⟩)]) H' R) (q:after (upd H A (.lst (z.cps.toList.map f)))) :
  j93 X N' scope tg [] elt (Its z) A after (σ++List.replicate 1 none) (upd H A (.lst [])):=by
 refine⟨fun k m σ' H'=>m=z.cps.size - k/\k<=z.cps.size/\(∃ v,σ'=σ++[v])/\H'=upd H A (.lst ((z.cps.toList.take k).map f)),⟨_,rfl,Bn _,⟨none,rfl⟩,by simp⟩,?_⟩;rintro k m σ' H' ⟨rfl,hk,⟨v,rfl⟩,rfl⟩
 by_cases hlt:k < z.cps.size
 ·refine .inr ⟨hlt,fun σ' H'=>(∃ v,σ'=σ++[v])/\H'=upd H A (.lst ((z.cps.toList.take (k+1)).map f)),fun σ' H' hh=>⟨z.cps.size - (k+1),by omega,rfl,hlt,hh⟩,?_⟩;rintro x H2 ⟨rfl,c,hc,rfl⟩;intro cl C s₀ H₀ ex;refine hg cl C s₀ H₀ ex _ _ _ _ ?_;intro cl C s₀ H₀ ex;refine j2v ?_;rw [if_pos rfl];intro cl C s₀ H₀ ex;refine he cl C s₀ H₀ ex c _ _ ⟨k,hc⟩ ⟨_,j0b,?_,⟨_,rfl⟩,?_⟩
  ·rw [Aa,Bh];have:z.cps.toList.length=z.cps.size:=by simp
   omega
  ·rw [j5t]
   congr 2
   have hc':z.cps.toList[k]?=some c:=by simpa using hc
   rw [Bt,hc',Ai];rfl
 ·have e:k=z.cps.size:=by omega
  subst e;refine .inl ⟨Ah _,?_⟩;have e2:z.cps.toList.take z.cps.size=z.cps.toList:=Cq (by simp);rw [e2];exact q
end
end L2
namespace L2
open PySem PySem.Spec PyProof.Rows
structure Has(P:Program)(w:World)(K:PySem.W.Frag)(mg:Str->Option Value)(base:Heap)(k:Nat)(x:Str)(ps:List Str)(sp:Sp):Prop where
 ex:∃ f fd,FnOk P w K mg base CX0 k f fd ps sp/\Binds K fd ps []/\PySem.W.keepIn K (.ref f)=true/\mg x=some (.ref f)
theorem Has.mono{P:Program}{w:World}{K:PySem.W.Frag}{mg:Str->Option Value}{base:Heap}{j k:Nat}{x:Str}{ps:List Str}{sp:Sp}(h:Has P w K mg base j x ps sp)(le:j<=k):Has P w K mg base k x ps sp:=
 let ⟨f,fd,F,r⟩:=h.ex;⟨f,fd,F.mono le,r⟩
theorem j0u{X:Cx}{k:Nat}{ps:List Str}{sp:Sp}{x:Str}{e:Expr}{es:List Expr}{σ:St}{H:Hp}{Q:VK}{p pos:Pos}(G:Has X.prog X.w X.K X.mg X.base k x ps sp)(hr:Room k X.A)
  (h:Ea X (e :: es) σ H fun vs H1=>sp vs H1 Q E0) (hg:Gl X x:=by rfl) (hdb:(x == ("__debug__" : Str))=false:=by decide) (hs:noStar (e :: es)=true:=by rfl):Ev X (.Call (.Name x p) (e :: es) [] pos) σ H Q:=
 let ⟨_,_,F,b,kp,m⟩:=G.ex;k6y F hr m kp b q7f h hg hdb hs
theorem _root_.L2.Room.u100{k:Nat}{A:Around}(hr:Room k A):A.units+100 < cLine:=by have:=hr.un;omega
theorem _root_.L2.Room.u1{k:Nat}{A:Around}(hr:Room k A):A.units+1 < cLine:=by have:=hr.un;omega
def Df(K:PySem.W.Frag)(x:Str)(st:Stmt):Prop:=∃(f:Addr) (fd:FuncData),PySem.W.nsIn K mainGlobals x=some (some (.ref f))/\Fun K x x st f fd
theorem df_mk{K:PySem.W.Frag}{x:Str}{st:Stmt}{f:Addr}{oc kV doc pm cdv ct:Value}{od an:Option Addr}{sl:Array (Option Value)}(a:PySem.W.nsIn K mainGlobals x=some (some (.ref f)))
  (l:K.lookup f=some ⟨oc,od,.func (PySem.W.fnOf x x (j3t st) (j17 st) (j0g st) .none kV doc pm an cdv ct),sl⟩) (c:PySem.W.codeIn K cdv x=true) (k:PySem.W.keepIn K (.ref f)=true):Df K x st:=⟨f,_,a,q4s l c k⟩
structure Bun where
 f:Addr
 cdv:Value
 A:Around
 outer:List Env
 s:Shared
 H:Hp
 E:XK
def cxB(N:List Str)(qual:Str)(scope:Scope)(P:Program)(w:World)(K:PySem.W.Frag)(mg:Str->Option Value)(base:Heap)(b:Bun):Cx:=(cxOf CX0 P w K mg base N qual scope b.f b.cdv b.A b.outer b.s b.H b.E).nox
def En(Q:VK):Ends:={nx:=fun _ H'=>Q .non H',rt:=Q}
theorem Fun.gb{P:Program}{w:World}{K:PySem.W.Frag}{mg:Str->Option Value}{base:Heap}{x qual:Str}{st:Stmt}{f:Addr}{fd:FuncData}{N ps:List Str}{k:Nat}{sp:Sp}(F:Fun K x qual st f fd)(S:FnScope N ps (j0g st))(len:∀ vs H Q E,sp vs H Q E->vs.length=ps.length)
  (hbody:∀(b:Bun) (H:Hp) (vs:List V) (Q:VK) (E:XK),Room k (b.A.deeper (envOfC qual (j0g st) b.s.heap.objs.size b.f b.cdv))->sp vs H Q E->Run (cxB N qual (j0g st) P w K mg base b) (j17 st) (En Q) (start N vs) H):FnOk P w K mg base CX0 (k+1) f fd ps sp:=
 F.go S len fun cdv A outer s H vs Q E hr hsp=>hbody ⟨f,cdv,A,outer,s,H,E⟩ H vs Q E hr hsp
theorem j6v{us:List Value}{k:Nat}(h:us.length=k+1):∃ a r,us=a :: r/\r.length=k:=by
 cases us with
 | nil=>cases h
 | cons a r=>exact⟨a,r,rfl,Nat.succ.inj h⟩
theorem bd1{fd:FuncData}{ps:List Str}(f:∀ a:Value,bindArgs fd ⟨[a],[]⟩=pure (ps.zip [a])):∀ us:List Value,us.length=1->bindArgs fd ⟨us,[]⟩=pure (ps.zip us):=fun us h=>by
 obtain⟨a,r0,e0,h0⟩:=j6v h;have z:=Be.mp h0;subst z e0;exact f a
theorem bd2{fd:FuncData}{ps:List Str}(f:∀ a b:Value,bindArgs fd ⟨[a,b],[]⟩=pure (ps.zip [a,b])):∀ us:List Value,us.length=2->bindArgs fd ⟨us,[]⟩=pure (ps.zip us):=fun us h=>by
 obtain⟨a,r0,e0,h0⟩:=j6v h;obtain⟨b,r1,e1,h1⟩:=j6v h0;have z:=Be.mp h1;subst z e1 e0;exact f a b
theorem bd3{fd:FuncData}{ps:List Str}(f:∀ a b c:Value,bindArgs fd ⟨[a,b,c],[]⟩=pure (ps.zip [a,b,c])):∀ us:List Value,us.length=3->bindArgs fd ⟨us,[]⟩=pure (ps.zip us):=fun us h=>by
 obtain⟨a,r0,e0,h0⟩:=j6v h;obtain⟨b,r1,e1,h1⟩:=j6v h0;obtain⟨c,r2,e2,h2⟩:=j6v h1;have z:=Be.mp h2;subst z e2 e1 e0;exact f a b c
theorem bd4{fd:FuncData}{ps:List Str}(f:∀ a b c d:Value,bindArgs fd ⟨[a,b,c,d],[]⟩=pure (ps.zip [a,b,c,d])):∀ us:List Value,us.length=4->bindArgs fd ⟨us,[]⟩=pure (ps.zip us):=fun us h=>by
 obtain⟨a,r0,e0,h0⟩:=j6v h;obtain⟨b,r1,e1,h1⟩:=j6v h0;obtain⟨c,r2,e2,h2⟩:=j6v h1;obtain⟨d,r3,e3,h3⟩:=j6v h2;have z:=Be.mp h3;subst z e3 e2 e1 e0;exact f a b c d
theorem Df.has{P:Program}{w:World}{K:PySem.W.Frag}{mg:Str->Option Value}{h base:Heap}{k:Nat}{x:Str}{st:Stmt}{ps:List Str}{sp:Sp}(d:Df K x st)(X:K.In h)(G:h.Ns mainGlobals mg)
  (hb:∀(kV doc pm:Value) (an:Option Addr) (cdv ct:Value) (us:List Value),us.length=ps.length->bindArgs (PySem.W.fnOf x x (j3t st) (j17 st) (j0g st) .none kV doc pm an cdv ct) ⟨us,[]⟩=pure (ps.zip us))
  (ok:∀{f:Addr} {fd:FuncData},Fun K x x st f fd->FnOk P w K mg base CX0 k f fd ps sp):Has P w K mg base k x ps sp:=
 let ⟨f,fd,a,F⟩:=d;⟨f,fd,ok F,F.binds hb,F.kp,PySem.W.mg_of X G a⟩
theorem Df.law{P:Program}{w:World}{K:PySem.W.Frag}{mg:Str->Option Value}{h:Heap}{k:Nat}{x y:Str}{st:Stmt}{sp:Sp}{fa:Addr}(d:Df K x st)(X:K.In h)(G:h.Ns mainGlobals mg)(hfa:mg x=some (.ref fa))
  (hb:∀(kV doc pm:Value) (an:Option Addr) (cdv ct:Value) (s:Shared) (v:Value),BindsTo s (PySem.W.fnOf x x (j3t st) (j17 st) (j0g st) .none kV doc pm an cdv ct) ⟨[v],[]⟩ [(y,v)])
  (ok:∀(base:Heap) {f:Addr} {fd:FuncData},Fun K x x st f fd->FnOk P w K mg base CX0 k f fd [y] sp) :
  ∃ fd:FuncData,(∀(s:Shared) (v:Value),BindsTo s fd ⟨[v],[]⟩ [(y,v)])/\∀ base:Heap,K.In base->base.Ns mainGlobals mg->FnOk P w K mg base CX0 k fa fd [y] sp:=by
 obtain⟨f,fd,a,F⟩:=d;have e:=hfa.symm.trans (PySem.W.mg_of X G a);cases e;obtain⟨oc,od,kV,doc,pm,an,cdv,ct,osl,rfl,lk,hcd⟩:=id F.ex;exact⟨_,hb kV doc pm an cdv ct,fun base _ _=>ok base F⟩
end L2
namespace SetT
open PySem
def lcg(m i:Nat):Nat:=(i * 5+1) % m
def orb(m:Nat):Nat->Nat->List Nat
 | 0,_=>[]
 | n+1,i=>i :: orb m n (lcg m i)
def itr(m:Nat):Nat->Nat->Nat
 | 0,i=>i
 | n+1,i=>itr m n (lcg m i)
theorem j7w(m:Nat):∀ a b i,itr m (a+b) i=itr m b (itr m a i)
 | 0,b,i=>by rw [Fy];rfl
 | a+1,b,i=>by
  rw [show a+1+b=(a+b)+1 by omega];exact j7w m a b (lcg m i)
theorem j94(m:Nat):∀ n t i,t < n->itr m t i∈orb m n i
 | 0,_,_,h=>by omega
 | n+1,0,i,_=>Au
 | n+1,t+1,i,h=>Ao _ (j94 m n t (lcg m i) (by omega))
theorem k6p(m:Nat):∀ n i j,j∈orb m n i->∃ t,t < n/\itr m t i=j
 | 0,_,_,h=>by cases h
 | n+1,i,j,h=>by
  rcases Ap.mp h with rfl | h
  ·exact⟨0,Eh _,rfl⟩
  ·obtain⟨t,ht,e⟩:=k6p m n (lcg m i) j h;exact⟨t+1,Nat.succ_lt_succ ht,e⟩
def covers(m:Nat):Bool:=itr m m 0 == 0 && (List.range m).all fun j=>(orb m m 0).contains j
theorem q28:covers 8=true:=by decide +kernel
theorem k8o:covers 16=true:=by decide +kernel
theorem k8u:covers 32=true:=by decide +kernel
theorem k8k:covers 64=true:=by decide +kernel
theorem k4s:covers 128=true:=by decide +kernel
theorem k3y:covers 512=true:=by decide +kernel
def Pow(m:Nat):Prop:=m=8\/m=16\/m=32\/m=64\/m=128\/m=512
theorem Pow.covers{m:Nat}(h:Pow m):SetT.covers m=true:=by
 rcases h with rfl | rfl | rfl | rfl | rfl | rfl
 ·exact q28
 ·exact k8o
 ·exact k8u
 ·exact k8k
 ·exact k4s
 ·exact k3y
theorem Pow.pos{m:Nat}(h:Pow m):8<=m/\m<=512:=by rcases h with rfl | rfl | rfl | rfl | rfl | rfl <;> decide
theorem Pow.mem{m i j:Nat}(h:Pow m)(hi:i < m)(hj:j < m):j∈orb m m i:=by
 have q:=h.covers;unfold SetT.covers at q;rw [Bu,Dk,beq_iff_eq] at q;obtain⟨z,q⟩:=q;obtain⟨a,ha,ea⟩:=k6p m m 0 i (Dm.mp (q i (Bj.mpr hi)));obtain⟨b,hb,eb⟩:=k6p m m 0 j (Dm.mp (q j (Bj.mpr hj)))
 rcases Cj b a with c | c
 ·have e:itr m (b+m - a) i=j:=by
   rw [<- ea,<- j7w,show a+(b+m - a)=m+b by omega,j7w,z,eb]
  rw [<- e];exact j94 m m _ i (by omega)
 ·have e:itr m (b - a) i=j:=by
   rw [<- ea,<- j7w,show a+(b - a)=b by omega,eb]
  rw [<- e];exact j94 m m _ i (by omega)
def j97(mask:Nat):Nat->Nat->Nat->List Nat
 | 0,_,_=>[]
 | n+1,i,p=>i :: j97 mask n (SetTable.leap mask i p).1 (SetTable.leap mask i p).2
theorem j7e(mask:Nat):∀ n i,j97 mask n i 0=orb (mask+1) n i
 | 0,_=>rfl
 | n+1,i=>by
  show i :: j97 mask n ((i * 5+1+0 / 32) % (mask+1)) (0 / 32)=i :: orb (mask+1) n (lcg (mask+1) i);rw [show(0 / 32:Nat)=0 by decide,Nat.add_zero,j7e mask n];rfl
theorem k6x{mask i p:Nat}:(SetTable.leap mask i p).1 < mask+1:=Fp _ (Eh _)
theorem j7g{mask:Nat}:∀(t n i p:Nat),i < mask+1->p < 32 ^ t->∃ i',i' < mask+1/\∀ j∈orb (mask+1) n i',j∈j97 mask (t+n) i p
 | 0,n,i,p,hi,hp=>by
  have e:p=0:=by simpa using hp
  subst e;refine⟨i,hi,fun j hj=>?_⟩;rw [Fy,j7e];exact hj
 | t+1,n,i,p,hi,hp=>by
  have h2:p / 32 < 32 ^ t:=by
   rw [Nat.div_lt_iff_lt_mul (by decide)];rw [Nat.pow_succ] at hp;exact hp
  obtain⟨i',h',q⟩:=j7g t n (SetTable.leap mask i p).1 (p / 32) k6x h2;refine⟨i',h',fun j hj=>?_⟩;rw [show t+1+n=(t+n)+1 by omega];exact Ao _ (q j hj)
theorem j9g{mask i p j:Nat}(hm:Pow (mask+1))(hi:i < mask+1)(hp:p < 2 ^ 64)(hj:j < mask+1):j∈j97 mask (mask+15) i p:=by
 obtain⟨i',h',q⟩:=j7g (mask:=mask) 14 (mask+1) i p hi (Bi hp (by decide));have:=q j (hm.mem h' hj);rwa [show 14+(mask+1)=mask+15 by omega] at this
abbrev Own:=Array (Option Nat)
def nil?(owner:Own)(j:Nat):Bool:=(owner.getD j (some 0)).isNone
theorem j7x(mask i:Nat):i<=SetTable.runEnd mask i:=by unfold SetTable.runEnd;split <;> omega
theorem j8r{mask:Nat}{owner:Own}:∀{fuel i p:Nat},SetTable.layClean.free mask owner fuel i p=none->∀ j∈j97 mask fuel i p,nil? owner j=false
 | 0,_,_,_,j,hj=>by cases hj
 | fuel+1,i,p,h,j,hj=>by
  unfold SetTable.layClean.free at h
  split at h
  ·cases h
  ·rename_i hf
   rcases Ap.mp hj with rfl | hj
   ·have:=List.find?_eq_none.mp hf 0 (Bj.mpr (by have:=j7x mask j;omega));rw [Nat.add_zero] at this;exact Em.mpr this
   ·exact j8r (fuel:=fuel) h j hj
theorem j8w{mask:Nat}{owner:Own}:∀{fuel i p j:Nat},SetTable.layClean.free mask owner fuel i p=some j->nil? owner j=true
 | 0,_,_,_,h=>by cases h
 | fuel+1,i,p,j,h=>by
  unfold SetTable.layClean.free at h
  split at h
  ·rename_i k hf;cases h;have:=List.find?_some hf;exact this
  ·exact j8w (fuel:=fuel) h
theorem nil?_iff{owner:Own}{j:Nat}:nil? owner j=true↔owner[j]?=some none:=by
 unfold nil?;rw [Ck];cases h:owner[j]? with
 | none=>simp
 | some v=>cases v <;> simp
structure Lies(m:Nat)(owner:Own)(k:Nat):Prop where
 size:owner.size=m
 lt:∀(j v:Nat),owner[j]?=some (some v)->v < k
 has:∀ v:Nat,v < k->∃ j:Nat,owner[j]?=some (some v)
 inj:∀(i j v:Nat),owner[i]?=some (some v)->owner[j]?=some (some v)->i=j
theorem Lies.start(m:Nat):Lies m (Array.replicate m none) 0 where
 size:=by simp
 lt:=fun j v h=>by
  rw [Fc] at h
  split at h <;> cases h
 has:=fun v h=>by omega
 inj:=fun i j v h=>by
  rw [Fc] at h
  split at h <;> cases h
theorem Lies.put{m k j:Nat}{owner:Own}(L:Lies m owner k)(hj:owner[j]?=some none):Lies m (owner.setIfInBounds j (some k)) (k+1):=by
 have hlt:j < owner.size:=by
  rcases Cj j owner.size with h | h
  ·exact h
  ·rw [Dd h] at hj;cases hj
 have at':∀ i:Nat,(owner.setIfInBounds j (some k))[i]?=if j=i then some (some k) else owner[i]?:=by
  intro i;rw [El]
  split
  ·rename_i e;subst e;first | rfl | rw [if_pos hlt]
  ·rfl
 refine⟨by rw [Array.size_setIfInBounds];exact L.size,fun i v h=>?_,fun v h=>?_,fun a b v ha hb=>?_⟩
 ·rw [at'] at h
  split at h
  ·cases h;exact Ex _
  ·exact Ca (L.lt i v h)
 ·rcases Nat.lt_succ_iff_lt_or_eq.mp h with h | rfl
  ·obtain⟨i,hi⟩:=L.has v h;refine⟨i,?_⟩;rw [at',if_neg (fun e=>by subst e;rw [hj] at hi;cases hi)];exact hi
  ·exact⟨j,by rw [at',if_pos rfl]⟩
 ·rw [at'] at ha hb
  split at ha
  ·rename_i e;cases ha
   split at hb
   ·rename_i e2;exact e.symm.trans e2
   ·have:=L.lt b k hb;omega
  ·split at hb
   ·cases hb;have:=L.lt a k ha;omega
   ·exact L.inj a b v ha hb
def live(m:Nat)(owner:Own):List (Nat×Nat):=(List.range m).filterMap fun j=>(owner.getD j none).map (j,·)
theorem getD_some{owner:Own}{j v:Nat}:owner.getD j none=some v↔owner[j]?=some (some v):=by
 rw [Ck];cases h:owner[j]? with
 | none=>simp
 | some x=>simp
theorem mem_live{m:Nat}{owner:Own}{p:Nat×Nat}:p∈live m owner↔p.1 < m/\owner[p.1]?=some (some p.2):=by
 unfold live;rw [Fh]
 constructor
 ·rintro ⟨j,hj,e⟩;cases hv:owner.getD j none with
  | none=>rw [hv] at e;cases e
  | some v=>
   rw [hv] at e;cases e;exact⟨Bj.mp hj,getD_some.mp hv⟩
 ·rintro ⟨h1,h2⟩;exact⟨p.1,Bj.mpr h1,by rw [getD_some.mpr h2];rfl⟩
theorem Lies.nodup{m k:Nat}{owner:Own}(L:Lies m owner k):((live m owner).map (·.2)).Nodup:=by
 have q:∀ l:List Nat,l.Nodup->((l.filterMap fun j=>(owner.getD j none).map (j,·)).map (·.2)).Nodup:=by
  intro l
  induction l with
  | nil=>intro _;exact Cs
  | cons a r ih=>
   intro hn;rw [Cp] at hn;rw [Dr];cases hv:owner.getD a none with
   | none=>exact ih hn.2
   | some v=>
    show(v :: (r.filterMap fun j=>(owner.getD j none).map (j,·)).map (·.2)).Nodup;rw [Cp];refine⟨fun h=>?_,ih hn.2⟩;obtain⟨p,hp,e⟩:=Ak.mp h;obtain⟨j,hj,e2⟩:=Fh.mp hp;cases hw:owner.getD j none with
    | none=>rw [hw] at e2;cases e2
    | some u=>
     rw [hw] at e2;cases e2;have e3:u=v:=e;subst e3;have:=L.inj a j u (getD_some.mp hv) (getD_some.mp hw);subst this;exact hn.1 hj
 exact q _ Ey
theorem Lies.perm{m k:Nat}{owner:Own}(L:Lies m owner k):((live m owner).map (·.2)).Perm (List.range k):=by
 rw [List.perm_ext_iff_of_nodup L.nodup Ey];intro v;rw [Bj,Ak]
 constructor
 ·rintro ⟨p,hp,rfl⟩;exact L.lt _ _ (mem_live.mp hp).2
 ·intro h;obtain⟨j,hj⟩:=L.has v h;have hlt:j < m:=by
   rw [<- L.size]
   rcases Cj j owner.size with h | h
   ·exact h
   ·rw [Dd h] at hj;cases hj
  exact⟨(j,v),mem_live.mpr ⟨hlt,hj⟩,rfl⟩
theorem Lies.length{m k:Nat}{owner:Own}(L:Lies m owner k):(live m owner).length=k:=by
 have:=L.perm.length_eq;rwa [Aa,Cw] at this
theorem Lies.room{m k:Nat}{owner:Own}(L:Lies m owner k)(h:k < m):∃ j,j < m/\nil? owner j=true:=by
 refine Classical.byContradiction fun hn=>?_;have all:∀ j,j < m->∃ v,owner.getD j none=some v:=by
  intro j hj;have hs:j < owner.size:=by rw [L.size];exact hj
  cases hv:owner[j] with
  | none=>exact absurd ⟨j,hj,nil?_iff.mpr (by rw [Bx hs,hv])⟩ hn
  | some v=>exact⟨v,getD_some.mpr (by rw [Bx hs,hv])⟩
 have len:∀ l:List Nat,(∀ j∈l,j < m)->(l.filterMap fun j=>(owner.getD j none).map (j,·)).length=l.length:=by
  intro l
  induction l with
  | nil=>intro _;rfl
  | cons a r ih=>
   intro hl;obtain⟨v,hv⟩:=all a (hl a Au);rw [Dr,hv];show(_ :: _).length=_;rw [An,An,ih fun j hj=>hl j (Ao _ hj)]
 have e:=len (List.range m) fun j hj=>Bj.mp hj;have e2:=L.length;unfold live at e2;rw [e,Cw] at e2;omega
theorem k4z(h:Int):SetTable.bits h < 2 ^ 64:=by
 unfold SetTable.bits;have h1:0<=h % (2 ^ 64:Int):=Bo _ (by decide);have h2:h % (2 ^ 64:Int) < 2 ^ 64:=Br _ (by decide);omega
theorem Lies.free{mask k:Nat}{owner:Own}(L:Lies (mask+1) owner k)(hm:Pow (mask+1))(h:k < mask+1)(x:Int) :
  ∃ j,SetTable.layClean.free mask owner (SetTable.turns mask) (SetTable.bits x % (mask+1)) (SetTable.bits x)=some j/\owner[j]?=some none:=by
 cases e:SetTable.layClean.free mask owner (SetTable.turns mask) (SetTable.bits x % (mask+1)) (SetTable.bits x) with
 | some j=>exact⟨j,rfl,nil?_iff.mp (j8w e)⟩
 | none=>
  obtain⟨j,hj,q⟩:=L.room h;have:=j8r e j (j9g hm (Fp _ (Eh _)) (k4z x) hj);rw [q] at this;cases this
def j76(mask:Nat)(acc:Option (Own×Nat))(h:Int):Option (Own×Nat):=do
 let (owner,k) <- acc
 let j <- SetTable.layClean.free mask owner (SetTable.turns mask) (SetTable.bits h % (mask+1)) (SetTable.bits h)
 pure (owner.setIfInBounds j (some k),k+1)
end SetT
namespace SetT
open PySem
def byTx(w:World):Bool:=w.params.followText "set-order"
def keyOf(e:Int×Value):Str:=match e.2 with
 | .str x _=>x
 | _=>⟨#[]⟩
section
variable(prog:Program)(w:World)
def Elt(e:Int×Value):Prop:=∃ z t,e=((strKind prog w).hash z,Value.str z t)
structure Tab(es:Array (Int×Value))(t:SetTable)(zs:List Str):Prop where
 elts:∀ e∈es.toList,Elt prog w e
 keys:(es.toList.map keyOf).Perm zs
 nodup:zs.Nodup
 few:zs.length < 1000
 fits:t.fits es.size=true
 led:t.led = !byTx w
 plain:es=#[]\/t.plain=false
def SetAt(h:Heap)(a:Addr)(zs:List Str):Prop:=∃ o es ep t,h.get? a=some o/\o.ExactSet/\o.data = .set es ep t/\Tab prog w es t zs
end
section
variable{prog:Program}{w:World}{es:Array (Int×Value)}{t:SetTable}{zs:List Str}{h h':Heap}{a:Addr}
theorem Tab.elems(T:Tab prog w es t zs):ElemsOf (strKind prog w) es.toList:=fun e he=>by
 obtain⟨z,u,rfl⟩:=T.elts e he;exact⟨⟨z,strKind_is _ _ _ _,rfl⟩,rfl⟩
theorem Tab.size(T:Tab prog w es t zs):es.size=zs.length:=by
 have:=T.keys.length_eq;rw [Aa,Bw] at this;exact this
theorem Tab.few'(T:Tab prog w es t zs):es.size < 1000:=by rw [T.size];exact T.few
theorem Tab.scan(T:Tab prog w es t zs):es.size < scanBound:=by have:=T.few';unfold scanBound;omega
theorem Tab.perm{es':Array (Int×Value)}{t':SetTable}(T:Tab prog w es t zs)(p:es'.toList.Perm es.toList)(hf:t'.fits es'.size=true)(hl:t'.led=t.led)(hp:es'=#[]\/t'.plain=false):Tab prog w es' t' zs:=
 ⟨fun e he=>T.elts e (p.mem_iff.mp he),(p.map keyOf).trans T.keys,T.nodup,T.few,hf,hl.trans T.led,hp⟩
theorem SetAt.keep(S:SetAt prog w h a zs)(k:∀ o,h.get? a=some o->h'.get? a=some o):SetAt prog w h' a zs:=let ⟨o,es,ep,t,h1,h2⟩:=S;⟨o,es,ep,t,k o h1,h2⟩
theorem k63{o:Obj}{ep:Nat}{es':Array (Int×Value)}{t':SetTable}{zs':List Str}(ho:h.get? a=some o)(hx:o.ExactSet)(hd:o.data = .set es ep t)(T':Tab prog w es' t' zs') :
  (h.update a (Obj.putSet es' t')).get? a=some {o with data:= .set es' (ep+1) t'}/\SetAt prog w (h.update a (Obj.putSet es' t')) a zs':=by
 have q:=Cm (Obj.putSet es' t') ho (by rw [putSet_of es' t' hd];rfl);rw [putSet_of es' t' hd] at q;exact⟨q,_,es',ep+1,t',q,hx,rfl,T'⟩
theorem k5y{e:Int×Value}(he:Elt prog w e)(z:Str):(strKind prog w).is z e.2=decide (z=keyOf e):=by
 obtain⟨y,u,rfl⟩:=he;exact KeyKind.is_eq_decide (strKind_is prog w y u) z
theorem find_none(T:Tab prog w es t zs){z:Str}(hz:z∉zs):es.toList.findIdx? (fun e=>(strKind prog w).is z e.2)=none:=by
 rw [List.findIdx?_eq_none_iff];intro e he;rw [k5y (T.elts e he),decide_eq_false_iff_not];rintro rfl;exact hz (T.keys.mem_iff.mp (List.mem_map_of_mem he))
theorem find_some(T:Tab prog w es t zs){z:Str}(hz:z∈zs):∃ j,∃ hj:j < es.toList.length,es.toList.findIdx? (fun e=>(strKind prog w).is z e.2)=some j/\keyOf es.toList[j]=z:=by
 obtain⟨e,he,e2⟩:=Ak.mp (T.keys.mem_iff.mpr hz);cases q:es.toList.findIdx? (fun e=>(strKind prog w).is z e.2) with
 | none=>
  have:=List.findIdx?_eq_none_iff.mp q e he;rw [k5y (T.elts e he),decide_eq_false_iff_not] at this;exact absurd e2.symm this
 | some j=>
  obtain⟨hj,p,_⟩:=List.findIdx?_eq_some_iff_getElem.mp q;rw [k5y (T.elts _ (Cc hj)),decide_eq_true_eq] at p;exact⟨j,hj,rfl,p.symm⟩
theorem k9s(t:SetTable)(n:Nat):(t.orStandIn n).led=t.led/\((t.orStandIn n).plain=true->t.plain=true):=by
 unfold SetTable.orStandIn
 split
 ·exact⟨rfl,id⟩
 ·exact⟨rfl,fun h=>by cases h⟩
theorem k25(t:SetTable)(es:Array (Int×Value))(x:Int)(v:Value):(layNew t es x v).2.1.led=t.led:=by
 unfold layNew
 split
 ·exact(k9s _ _).1
 ·rfl
theorem k8y{mask f m:Nat}{l p:Bool}{hs:Array Int}{t':SetTable}{o:Array Nat}(e:SetTable.laid mask f m l p hs=some (t',o)):t'.led=l/\t'.plain=p:=by
 unfold SetTable.laid at e;cases c:SetTable.layClean mask hs with
 | none=>rw [c] at e;cases e
 | some ow=>rw [c] at e;cases e;exact⟨rfl,rfl⟩
theorem j8x(t:SetTable)(es:Array (Int×Value))(n:Nat)(hp:t.plain=false):(relayAll t es n).2.1.led=t.led/\(relayAll t es n).2.1.plain=false:=by
 unfold relayAll
 split
 ·rename_i t' o e;have q:=k8y e
  dsimp only
  split
  ·exact⟨q.1,q.2.trans hp⟩
  ·exact⟨rfl,rfl⟩
 ·exact⟨rfl,rfl⟩
end
section
variable{prog:Program}{w:World}{A:Around}{E:Value->Shared->Prop}{s:Shared}{a:Addr}{zs:List Str}
theorem j8b{n:Nat}(h:n < 1001):n<=sizeLine:=by rw [sizeLine_eq];omega
theorem k5k{g:Bool->Sem Unit}(hg:∀(b:Bool) (s₁:Shared) (Q':Unit->Shared->Prop),Q' () s₁->wpAny (model prog w) A (g b) Q' E s₁)
  {o:Obj} {es:Array (Int×Value)} {ep:Nat} {t:SetTable} (ho:s.heap.get? a=some o) (hx:o.ExactSet) (hd:o.data = .set es ep t)
  {es1:Array (Int×Value)} {t2:SetTable} (T:Tab prog w es1 t2 zs) (hp:t2.plain=false) {c:Bool} {R:Option Bool->Shared->Prop}
  (k:∀ h',Heap.SameBut a s.heap h'->SetAt prog w h' a zs->R (some true) {s with heap:=h'}) :
  wpAny (model prog w) A (do
   storeSet a es1 t2
   if c=true then do
     g (relayAll t2 es1 (SetTable.grown es1.size)).2.2
     storeSet a (relayAll t2 es1 (SetTable.grown es1.size)).1 (relayAll t2 es1 (SetTable.grown es1.size)).2.1
     pure (some true)
    else pure (some true)) R E s:=by
 refine wpAny_bind (wpAny_storeSet_of ho hd ?_ (j8b (Ca T.few')));obtain⟨q1,q2⟩:=k63 ho hx hd T;have sb:=Heap.SameBut.update s.heap a (Obj.putSet es1 t2);cases c with
 | false=>exact wpAny_pure (k _ sb q2)
 | true=>
  have p:=relayAll_perm t2 es1 (SetTable.grown es1.size);have T3:=T.perm p (relayAll_fits t2 es1 (SetTable.grown es1.size)) (j8x t2 es1 _ hp).1 (.inr (j8x t2 es1 _ hp).2);refine wpAny_bind (hg _ _ _ ?_);refine wpAny_bind (wpAny_storeSet_of q1 rfl ?_ (j8b (Ca T3.few')));exact wpAny_pure (k _ (sb.trans (Heap.SameBut.update _ a _)) (k63 q1 hx rfl T3).2)
def added(zs:List Str)(z:Str):List Str:=if z∈zs then zs else zs++[z]
theorem q6o{z:Str}{tk:Tok}{Q:Bool->Shared->Prop}(S:SetAt prog w s.heap a zs)(hb:zs.length+1 < 1000)
  (k:∀(b:Bool) h',Heap.SameBut a s.heap h'->SetAt prog w h' a (added zs z)->Q b {s with heap:=h'}) :
  wpAny (model prog w) A (setAddHashed a (.str z tk) ((strKind prog w).hash z)) Q E s:=by
 obtain⟨o,es,ep,t,ho,hx,hd,T⟩:=S;unfold setAddHashed setAddHashedIn;refine wpAny_holding (wpAny_bind (wpAny_setState_of ho hd T.fits ?_))
 dsimp only
 rw [byScan_of (knd:=strKind prog w) (x:= .str z tk) rfl T.scan T.elems];simp only [↓reduceIte];unfold setAddByScan;refine wpAny_bind (wpAny_bind (wpAny_rule (wpAny_bind (wpAny_setScan_of (knd:=strKind prog w) (k:=z) (strKind_is _ _ _ _) ho hd T.fits T.elems ?_))))
 by_cases hz:z∈zs
 ·obtain⟨j,hj,e,_⟩:=find_some T hz;rw [e]
  dsimp only
  refine wpAny_pure (wpAny_pure (k false s.heap (Heap.SameBut.refl a s.heap) ?_));unfold added;rw [if_pos hz];exact⟨o,es,ep,t,ho,hx,hd,T⟩
 ·rw [find_none T hz]
  dsimp only
  have gw:∀(b:Bool) (s₁:Shared) (Q':Unit->Shared->Prop),Q' () s₁->wpAny (model prog w) A (match b with | true=>rule "set.scan.the-table-gave-way" | false=>pure ()) Q' E s₁:=
   fun b s₁ Q' q=>by cases b <;> first | exact wpAny_pure q | exact wpAny_rule q
  have p:=layNew_perm t es ((strKind prog w).hash z) (.str z tk);have f:=layNew_fits t es ((strKind prog w).hash z) (.str z tk);have l:=k25 t es ((strKind prog w).hash z) (.str z tk);generalize layNew t es ((strKind prog w).hash z) (.str z tk)=L at p f l ⊢;obtain⟨es1,t1,wd,gv⟩:=L
  dsimp only at p f l ⊢
  rw [Array.toList_push] at p;have tab:∀ t2:SetTable,t2.fits es1.size=true->t2.led=t1.led->t2.plain=false->Tab prog w es1 t2 (zs++[z]):=fun t2 h1 h2 h3=>{
   elts:=fun e he=>by
    rcases At.mp (p.mem_iff.mp he) with he | he
    ·exact T.elts e he
    ·exact⟨z,tk,Ag.mp he⟩
   keys:=by
    refine(p.map keyOf).trans ?_;rw [Ai];exact T.keys.append (List.Perm.refl _)
   nodup:=by
    rw [Cy];refine⟨T.nodup,by simp,fun x hx y hy e=>?_⟩;rw [Ag] at hy;subst hy e;exact hz hx
   few:=by rw [Af];exact hb
   fits:=h1
   led:=h2.trans (l.trans T.led)
   plain:= .inr h3}
  have fin:∀ h',Heap.SameBut a s.heap h'->SetAt prog w h' a (zs++[z])->Q true {s with heap:=h'}:=fun h' q1 q2=>k true h' q1 (by unfold added;rw [if_neg hz];exact q2);refine wpAny_bind (gw _ _ _ ?_)
  split
  ·rename_i hp;refine wpAny_bind ?_;rw [hashByValue_scannable 8 rfl];refine wpAny_pure ?_;refine k5k gw ho hx hd (tab {t1 with plain:=false} (SetTable.fits_plain_off f) rfl rfl) rfl fun h' q1 q2=>?_
   dsimp only
   exact wpAny_pure (fin h' q1 q2)
  ·rename_i hp;refine wpAny_bind (wpAny_pure ?_);simp only [↓reduceIte];refine k5k gw ho hx hd (tab t1 f rfl (Em.mpr hp)) (Em.mpr hp) fun h' q1 q2=>?_
   dsimp only
   exact wpAny_pure (fin h' q1 q2)
theorem pick_perm{α:Type}:∀(l:List α) (j:Nat) (hj:j < l.length),(l[j] :: l.eraseIdx j).Perm l
 | [],_,h=>by simp at h
 | x :: r,0,_=>List.Perm.refl _
 | x :: r,j+1,h=>(List.Perm.swap x _ _).trans ((pick_perm r j (Nat.lt_of_succ_lt_succ h)).cons x)
end
end SetT
namespace SetT
open PySem
theorem k35{α:Type}(next:Nat->Nat):∀(fuel k:Nat) (left:List α) (out:Array α),left.length<=fuel->(pickOrder.go next fuel k left out).toList.Perm (out.toList++left)
 | 0,k,left,out,h=>by
  have:left=[]:=Be.mp (by omega);subst this;unfold pickOrder.go;simp
 | fuel+1,k,left,out,h=>by
  unfold pickOrder.go;cases e:left[next k % left.length]? with
  | none=>
   have:left=[]:=by
    cases left with
    | nil=>rfl
    | cons x r=>
     have hl:next k % (x :: r).length < (x :: r).length:=Fp _ (by simp);rw [Ab hl] at e;cases e
   subst this;simp
  | some x=>
   dsimp only
   obtain⟨hl,e2⟩:=Ac.mp e;refine(k35 next fuel (k+1) _ _ (by rw [Dw,if_pos hl];omega)).trans ?_;rw [Array.toList_push,Bm];refine List.Perm.append_left _ ?_;have:=pick_perm left _ hl;rw [e2] at this;exact this
theorem q2v{α:Type}(next:Nat->Nat)(xs:Array α):(pickOrder next xs).toList.Perm xs.toList:=by
 have:=k35 next xs.size 0 xs.toList #[] (by simp)
 simpa [pickOrder] using this
section
variable{prog:Program}{w:World}{A:Around}{E:Value->Shared->Prop}{s:Shared}{a:Addr}{zs:List Str}
theorem wp_choose{src:Source}{n:Nat}{Q:Nat->Shared->Prop}(hn:n≠0)(h:∀ i d,i < n->Q i {s with drawn:=d}):wpAny (model prog w) A (choose src n) Q E s:=
 fun Γ p _=>⟨hn,h _ _ (Fp _ (Nat.pos_of_ne_zero hn))⟩
theorem k6s{α:Type}:∀(n:Nat) (xs:List α) (s:Shared) (Q:List α->Shared->Prop),xs.length<=n->(∀ ys d,ys.Perm xs->Q ys {s with drawn:=d})->wpAny (model prog w) A (drawOrder n xs) Q E s
 | 0,xs,s,Q,h,k=>by
  have:xs=[]:=Be.mp (by omega);subst this;unfold drawOrder;exact wpAny_pure (k [] s.drawn (List.Perm.refl _))
 | n+1,[],s,Q,h,k=>by
  unfold drawOrder;exact wpAny_pure (k [] s.drawn (List.Perm.refl _))
 | n+1,x :: r,s,Q,h,k=>by
  unfold drawOrder;refine wpAny_bind (wp_choose (by simp) fun i d hi=>?_);rw [Ab hi]
  dsimp only
  refine wpAny_bind (k6s n _ _ _ (by rw [Dw,if_pos hi];omega) fun ys d2 p=>?_);exact wpAny_pure (k _ d2 ((p.cons _).trans (pick_perm _ i hi)))
theorem wp_text{Q:Bool->Shared->Prop}(k:Q (byTx w) s):wpAny (model prog w) A setsByText Q E s:=by
 unfold setsByText;exact wpAny_bind (wpAny_askSetting (wpAny_pure k))
variable{o:Obj}{es:Array (Int×Value)}{ep:Nat}{t:SetTable}
end
end SetT
namespace SetT
open PySem
open Builtin.Frozenset
section
variable{prog:Program}{w:World}{A:Around}{E:Value->Shared->Prop}{s:Shared}{a:Addr}{zs:List Str}
structure Bare(w:World)(t:SetTable):Prop where
 place:t.place=#[]
 dummies:t.dummies=#[]
 led:t.led = !byTx w
 plain:t.plain=true
theorem Bare.tab{t:SetTable}(B:Bare w t):Tab prog w #[] t []:=
 ⟨fun e he=>by simp at he,by simp,Cs,by decide,by unfold SetTable.fits SetTable.fill;rw [B.place,B.dummies];simp,B.led,.inl rfl⟩
variable{o:Obj}{ep:Nat}{t:SetTable}
end
end SetT
namespace SetT
open PySem
open Builtin.Frozenset
section
variable{prog:Program}{w:World}{A:Around}{E:Value->Shared->Prop}{s:Shared}{a r:Addr}{za zr:List Str}
end
end SetT
namespace SetT
open PySem
open Builtin.Frozenset
section
variable{prog:Program}{w:World}{A:Around}{E:Value->Shared->Prop}{s:Shared}
def j47(w:World):Obj:={cls:= .type "set",dict:=none,data:= .set #[] 0 (.fresh 0 0 (!byTx w))}
theorem k4u{h:Heap}{a:Addr}(e:h.get? a=some (j47 w)):SetAt prog w h a []:=⟨_,_,_,_,e,⟨rfl,rfl,rfl⟩,rfl,Bare.tab ⟨rfl,rfl,rfl,rfl⟩⟩
variable{R:Result->Shared->Prop}{I:Addr}{fp wr:List Addr}{G:Array GenState->Array GenState->Prop}{n:Nat}{P:Nat->Value->Prop}{St:Nat->Shared->Prop}
end
end SetT
namespace SetT
open PySem
open Builtin.Frozenset
theorem slot_next:Slot "set_iterator" "__next__" "set_iterator.__next__":=
 .of (owner:= "set_iterator") (n:= "__next__") (by rw [typeLookup_type,builtinLookup_eq_fast];kernel_rfl) (by decide +kernel) (by decide +kernel) (by decide +kernel)
  (by first | exact .inl (by decide +kernel) | exact .inr (by decide +kernel)) (by rw [isSubtype_type];kernel_rfl)
theorem entry_next:entryFor table "set_iterator.__next__" = some Builtin.«set_iterator.__next__»:=entryFor_of_fast (by kernel_rfl)
theorem args_next(a:Value):argsOk "set_iterator.__next__" ⟨[a],[]⟩:=by unfold argsOk;kernel_rfl
theorem k3j:entryFor table "set.__iter__" = some Builtin.«frozenset.__iter__»:=
 entryFor_alias (id':= "frozenset.__iter__") (by kernel_rfl) rfl (by decide +kernel) (by kernel_rfl)
def itO(first:Value)(i:Nat)(a:Addr)(n ep:Nat):Obj:={cls:= .type "set_iterator",data:= .fields #[first,.int i 0,.ref a,.int n 0,.int ep 0]}
def tupO(ys:List Nat):Obj:={cls:= .type "tuple",data:= .seq (ys.map fun(i:Nat)=>rawInt i).toArray}
inductive Way (w:World) (h:Heap) (a tp:Addr) (es:Array (Int×Value)) (ep:Nat) (t:SetTable) (ws:List (Int×Value)) (i:Nat):Value->Prop where
 | drawn (ys:List Nat) (ht:h.get? tp=some (tupO ys)) (hl:ys.length=es.size) (hw:∀ j:Nat,∀ y,ys[j]?=some y->es[y]?=ws[j]?):Way w h a tp es ep t ws i (.ref tp)
 | text (c:Int) (hb:byTx w=true) (hw:ws=(pickOrder (w.params.setOrder a ep) es).toList):Way w h a tp es ep t ws i (.int c 0)
 | one (c:Nat) (hb:byTx w=false) (hs:es.size<=1) (hw:ws=es.toList) (hc:SetTable.below t.place c=i):Way w h a tp es ep t ws i (.int c 0)
section
variable{prog:Program}{w:World}{A:Around}{E:Value->Shared->Prop}{s:Shared}{a tp it:Addr}{zs:List Str}{o:Obj}{es:Array (Int×Value)}{ep:Nat}{t:SetTable}{ws:List (Int×Value)}{i:Nat}{first:Value}
theorem j8p(j c:Nat):SetTable.below #[j] c=if j < c then 1 else 0:=by
 unfold SetTable.below;show SetTable.below.go #[j] c 1 0 1=_;unfold SetTable.below.go;simp only [Fw,if_true];show(if(#[j]:Array Nat).getD 0 c < c then SetTable.below.go #[j] c 0 1 1 else SetTable.below.go #[j] c 0 0 0)=_;rw [show(#[j]:Array Nat).getD 0 c=j by rfl]
 split <;> rfl
theorem Way.keep{h h':Heap}(W:Way w h a tp es ep t ws i first)(k:∀ o,h.get? tp=some o->h'.get? tp=some o):Way w h' a tp es ep t ws i first:=by
 cases W with
 | drawn ys ht hl hw=>exact .drawn ys (k _ ht) hl hw
 | text c hb hw=>exact .text c hb hw
 | one c hb hs hw hc=>exact .one c hb hs hw hc
theorem up0{h:Heap}{n:Nat}(x:Value)(e:h.get? it=some (itO first i a n ep)):(h.update it (Obj.mapFields (·.setIfInBounds 0 x))).get? it=some (itO x i a n ep):=Cm _ e rfl
theorem up1{h:Heap}{n:Nat}(e:h.get? it=some (itO first i a n ep)):(h.update it (Obj.mapFields (·.setIfInBounds 1 (rawInt ((i:Int)+1))))).get? it=some (itO first (i+1) a n ep):=Cm _ e rfl
theorem q0b{p:Array Nat}(h:p.size=1):∃ j,p=#[j]:=by
 obtain⟨l⟩:=p
 match l,h with
 | [j],_=>exact⟨j,rfl⟩
theorem j60(T:Tab prog w es t zs):t.place.size=es.size:=by
 have:=T.fits;unfold SetTable.fits at this;rw [Bu,beq_iff_eq] at this;exact this.1
theorem j82{Q:Option Value->Shared->Prop}(hi:s.heap.get? it=some (itO first i a es.size ep))(ho:s.heap.get? a=some o)(hd:o.data = .set es ep t)(T:Tab prog w es t zs)(hW:Way w s.heap a tp es ep t ws i first)
  (hne:tp≠it) (hp:ws.Perm es.toList) {e:Int×Value} (he:ws[i]?=some e) (k:∀ h' first',Heap.SameBut it s.heap h'->h'.get? it=some (itO first' (i+1) a es.size ep)->Way w h' a tp es ep t ws (i+1) first'->Q (some e.2) {s with heap:=h'}) :
  wpAny (model prog w) A (pyNext (.ref it)) Q E s:=by
 have hT:s.TypeIs (.ref it) "set_iterator":=⟨_,hi,rfl⟩;unfold pyNext;refine wpAny_bind (wpAny_attempt (wpAny_callSpecial?_slot (name:=Str.ofString "__next__") hT slot_next (wpAny_call_entry slot_next hT entry_next ?_ (args_next _))));unfold Builtin.«set_iterator.__next__»;refine wpAny_bind (wpAny_pure ?_);refine wpAny_bind (wpAny_fieldsOf hi rfl ?_)
 dsimp only
 refine wpAny_bind (wpAny_setEntries_of ho hd T.fits ?_);rw [if_neg (by simp)];have sb0:∀ x,Heap.SameBut it s.heap ((s.heap.update it (Obj.mapFields (·.setIfInBounds 0 x))).update it (Obj.mapFields (·.setIfInBounds 1 (rawInt ((i:Int)+1))))):=fun x=>(Heap.SameBut.update ..).trans (Heap.SameBut.update ..);have hil:i < es.size:=by
  have h1:ws.length=es.size:=by simpa using hp.length_eq
  rcases Cj i ws.length with h | h
  ·omega
  ·rw [Cv h] at he;cases he
 have sb1:Heap.SameBut it s.heap (s.heap.update it (Obj.mapFields (·.setIfInBounds 1 (rawInt ((i:Int)+1))))):=Heap.SameBut.update ..;cases hW with
 | drawn ys ht hl hw=>
  dsimp only
  have hy:ys[i]?=some (ys[i]'(by omega)):=Ab _;generalize ys[i]'(by omega)=y at hy;refine wpAny_bind (wpAny_seqItems ht rfl ?_)
  dsimp only
  have e1:(ys.map fun(i:Nat)=>rawInt i).toArray[(i:Int).toNat]?=some (.int y 0):=by
   rw [Bd,List.getElem?_toArray,Ad,hy];rfl
  rw [e1]
  dsimp only
  unfold setNextDrawn;refine wpAny_bind (wpAny_bind (wpAny_setState_of ho hd T.fits ?_))
  dsimp only
  rw [if_neg (by simp)];have e2:es[(y:Int).toNat]?=some e:=by
   rw [Bd,hw i y hy];exact he
  rw [e2]
  dsimp only
  refine wpAny_pure (wpAny_bind (wpAny_setField hi rfl (by simp) ?_));refine wpAny_pure ⟨_,rfl,wpAny_pure (k _ _ sb1 (up1 hi) (.drawn ys ?_ hl hw))⟩;rw [sb1.2 tp hne];exact ht
 | text c hb hw=>
  dsimp only
  unfold setNext;refine wpAny_bind (wpAny_bind (wpAny_setState_of ho hd T.fits ?_))
  dsimp only
  refine wpAny_bind (wp_text ?_);rw [hb];simp only [if_true];rw [if_neg (by simp)];unfold setWalk;refine wpAny_bind (wpAny_bind (wpAny_setState_of ho hd T.fits ?_))
  dsimp only
  refine wpAny_bind (wp_text ?_);rw [hb];simp only [if_true];refine wpAny_bind (wpAny_askSetting ?_);refine wpAny_pure ?_;have e1:(pickOrder ((model prog w).w.params.setOrder a ep) es)[(i:Int).toNat]?=some e:=by
   rw [Bd,<- Bb];show(pickOrder (w.params.setOrder a ep) es).toList[i]?=_;rw [<- hw];exact he
  rw [e1];refine wpAny_pure ?_
  dsimp only [Option.map]
  refine wpAny_bind (wpAny_setField hi rfl (by simp) ?_);refine wpAny_bind (wpAny_setField (up0 _ hi) rfl (by simp) ?_);exact wpAny_pure ⟨_,rfl,wpAny_pure (k _ _ (sb0 _) (up1 (up0 _ hi)) (.text _ hb hw))⟩
 | one c hb hs hw hc=>
  have hi0:i=0:=by omega
  have hs1:es.size=1:=by omega
  subst hi0;have hps:t.place.size=1:=(j60 T).trans hs1;obtain⟨j,hj⟩:=q0b hps
  dsimp only
  unfold setNext;refine wpAny_bind (wpAny_bind (wpAny_setState_of ho hd T.fits ?_))
  dsimp only
  refine wpAny_bind (wp_text ?_);rw [hb];simp only [Ax,if_false];show wpAny _ _ (if(!t.plain && decide (es.size > 1))=true then _ else _) _ _ _;rw [if_neg (by rw [hs1];simp)];refine wpAny_bind ?_;show wpAny _ _ (if(!t.led && !es.isEmpty)=true then _ else _) _ _ _;rw [if_neg (by rw [T.led,hb];simp)];refine wpAny_pure ?_;rw [Bd,hc];have e1:es[0]?=some e:=by
   rw [<- Bb,<- hw];exact he
  have e2:t.place[0]?=some j:=by rw [hj];rfl
  rw [e1,e2];refine wpAny_pure ?_
  dsimp only
  refine wpAny_bind (wpAny_setField hi rfl (by simp) ?_);refine wpAny_bind (wpAny_setField (up0 _ hi) rfl (by simp) ?_);refine wpAny_pure ⟨_,rfl,wpAny_pure (k _ _ (sb0 _) (up1 (up0 _ hi)) (.one (j+1) hb hs hw ?_))⟩;rw [hj,j8p,if_pos (Ex _)]
theorem k0z{Q:Option Value->Shared->Prop}(hh:A.handled=none)(hi:s.heap.get? it=some (itO first i a es.size ep))(ho:s.heap.get? a=some o)(hd:o.data = .set es ep t)(T:Tab prog w es t zs)(hW:Way w s.heap a tp es ep t ws i first)
  (hp:ws.Perm es.toList) (he:i=es.size) (k:∀ h',Heap.ExtBut it s.heap h'->Q none {s with heap:=h'}) :
  wpAny (model prog w) A (pyNext (.ref it)) Q E s:=by
 have hT:s.TypeIs (.ref it) "set_iterator":=⟨_,hi,rfl⟩;have wl:ws.length=es.size:=by simpa using hp.length_eq
 unfold pyNext;refine wpAny_bind (wpAny_attempt (wpAny_callSpecial?_slot (name:=Str.ofString "__next__") hT slot_next (wpAny_call_entry slot_next hT entry_next ?_ (args_next _))));unfold Builtin.«set_iterator.__next__»;refine wpAny_bind (wpAny_pure ?_);refine wpAny_bind (wpAny_fieldsOf hi rfl ?_)
 dsimp only
 refine wpAny_bind (wpAny_setEntries_of ho hd T.fits ?_);rw [if_neg (by simp)];have fin:∀ h2:Heap,Heap.SameBut it s.heap h2->wpAny (model prog w) A.in1 (newExc (Value.type "StopIteration") [] >>= fun x=>(raiseNew x:Sem Fin)) (fun fin s'=>∃ v,fin=Fin.done (Flow.ret v)/\wpAny (model prog w) A (pure (some v)) Q E s')
   (fun e s'=>wpAny (model prog w) A (isInstance e (Value.type "StopIteration") >>= fun b=>if b=true then pure none else throw e) Q E s') {s with heap:=h2}:=by
  intro h2 sb;refine wpAny_bind ?_;simp only [newExc,newTuple];refine wpAny_bind (wpAny_newObj_type ?_ (by size_fits));refine wpAny_bind (m:=firstArgMember _ _) (wpAny_of_eq (a:=Value.none) (by first | rfl | (simp only [firstArgMember];rfl)) ?_);refine wpAny_newObj_type ?_ (by size_fits);simp only [raiseNew];refine wpAny_bind (wpAny_handled ?_);rw [show A.in1.handled=none from hh];refine wpAny_bind (wpAny_pure (wpAny_throw ?_));refine wpAny_bind (wpAny_isInstance (T:= "StopIteration") (b:=true) ⟨_,Am _ rfl,rfl⟩ isSubtype_stop ?_);exact wpAny_pure (k _ ((sb.extBut.push _).push _))
 cases hW with
 | drawn ys ht hl hw=>
  dsimp only
  refine wpAny_bind (wpAny_seqItems ht rfl ?_)
  dsimp only
  have e1:(ys.map fun(i:Nat)=>rawInt i).toArray[(i:Int).toNat]?=none:=by
   rw [Bd,List.getElem?_toArray,Cv];rw [Aa];omega
  rw [e1]
  dsimp only
  refine wpAny_bind (wpAny_setField hi rfl (by simp) ?_);refine wpAny_bind (wpAny_setField (up0 _ hi) rfl (by simp) ?_);exact fin _ ((Heap.SameBut.update ..).trans (Heap.SameBut.update ..))
 | text c hb hw=>
  dsimp only
  unfold setNext;refine wpAny_bind (wpAny_bind (wpAny_setState_of ho hd T.fits ?_))
  dsimp only
  refine wpAny_bind (wp_text ?_);rw [hb];simp only [if_true];rw [if_neg (by simp)];unfold setWalk;refine wpAny_bind (wpAny_bind (wpAny_setState_of ho hd T.fits ?_))
  dsimp only
  refine wpAny_bind (wp_text ?_);rw [hb];simp only [if_true];refine wpAny_bind (wpAny_askSetting ?_);refine wpAny_pure ?_;have e1:(pickOrder ((model prog w).w.params.setOrder a ep) es)[(i:Int).toNat]?=none:=by
   rw [Bd,<- Bb];show(pickOrder (w.params.setOrder a ep) es).toList[i]?=_;rw [<- hw,Cv];omega
  rw [e1];refine wpAny_pure ?_
  dsimp only [Option.map]
  refine wpAny_bind (wpAny_setField hi rfl (by simp) ?_);exact fin _ (Heap.SameBut.update ..)
 | one c hb hs hw hc=>
  dsimp only
  unfold setNext;refine wpAny_bind (wpAny_bind (wpAny_setState_of ho hd T.fits ?_))
  dsimp only
  refine wpAny_bind (wp_text ?_);rw [hb];simp only [Ax,if_false];show wpAny _ _ (if(!t.plain && decide (es.size > 1))=true then _ else _) _ _ _;rw [if_neg (by rw [decide_eq_false (by omega)];simp)];refine wpAny_bind ?_;show wpAny _ _ (if(!t.led && !es.isEmpty)=true then _ else _) _ _ _;rw [if_neg (by rw [T.led,hb];simp)];refine wpAny_pure ?_;rw [Bd,hc];have e1:es[i]?=none:=Dd (by omega);rw [e1];refine wpAny_pure ?_
  dsimp only
  refine wpAny_bind (wpAny_setField hi rfl (by simp) ?_);exact fin _ (Heap.SameBut.update ..)
end
end SetT
namespace SetT
open PySem PySem.Spec
open Builtin.Frozenset
theorem j66:Slot "set_iterator" "__iter__" "set_iterator.__iter__":=
 .of (owner:= "set_iterator") (n:= "__iter__") (by rw [typeLookup_type,builtinLookup_eq_fast];kernel_rfl) (by decide +kernel) (by decide +kernel) (by decide +kernel)
  (by first | exact .inl (by decide +kernel) | exact .inr (by decide +kernel)) (by rw [isSubtype_type];kernel_rfl)
theorem j92:entryFor table "set_iterator.__iter__" = some Builtin.«dict_keyiterator.__iter__»:=
 entryFor_alias (id':= "dict_keyiterator.__iter__") (by kernel_rfl) rfl (by decide +kernel) (by kernel_rfl)
theorem k2r(a:Value):argsOk "set_iterator.__iter__" ⟨[a],[]⟩:=by unfold argsOk;kernel_rfl
section
variable{prog:Program}{w:World}{A:Around}{E:Value->Shared->Prop}{s:Shared}{a tp it:Addr}{zs:List Str}{o:Obj}{es:Array (Int×Value)}{ep:Nat}{t:SetTable}{ws:List (Int×Value)}{i:Nat}{first:Value}
theorem k6l(hh:A.handled=none)(h1:a≠it)(h2:tp≠it)(hd:o.data = .set es ep t)(T:Tab prog w es t zs)(hp:ws.Perm es.toList) :
  Walks prog w A it [it,a,tp] [it] es.size (fun i v=>∃ e,ws[i]?=some e/\v=e.2) (fun i h=>∃ first,h.get? it=some (itO first i a es.size ep)/\h.get? a=some o/\Way w h a tp es ep t ws i first) where
 sub:=fun b hb=>by simp at hb;simp [hb]
 frame:=fun i h h' ⟨first,q1,q2,q3⟩ k=>⟨first,k it (by simp) _ q1,k a (by simp) _ q2,q3.keep (k tp (by simp))⟩
 item:=fun i s Q E hi ⟨first,q1,q2,q3⟩ k=>by
  have wl:ws.length=es.size:=by simpa using hp.length_eq
  obtain⟨e,he⟩:∃ e,ws[i]?=some e:=⟨ws[i]'(by omega),Ab _⟩;refine j82 q1 q2 hd T q3 h2 hp he fun h' f' sb g1 g2=>?_;exact k _ h' s.toks ⟨e,he,rfl⟩ ⟨f',g1,by rw [sb.2 a h1];exact q2,g2⟩ fun b o hb e=>by rw [sb.2 b fun h=>hb (by simp [h])];exact e
 done:=fun s Q E ⟨first,q1,q2,q3⟩ k=>k0z hh q1 q2 hd T q3 hp rfl fun h' e=>k h' s.toks fun b o hb e2=>e b o (fun h=>hb (by simp [h])) e2
 self:=fun i s Q E ⟨first,q1,q2,q3⟩ k=>by
  have hT:s.TypeIs (.ref it) "set_iterator":=⟨_,q1,rfl⟩;refine wpAny_pyIter_slot hT j66 (wpAny_call_entry j66 hT j92 ?_ (k2r _));show wpAny _ _ (ret (.ref it)) _ _ s;exact wpAny_pure ⟨_,rfl,"set_iterator",_,hT,slot_next.lookup,k⟩
theorem k62(es:Array (Int×Value)):(List.range es.size).map (fun y=>(es[y]?).getD (0,Value.none))=es.toList:=by
 refine Ez (by simp) fun j h1 h2=>?_;rw [Ct,Du];have:j < es.size:=by simpa using h2
 rw [Bx this];simp
theorem q3o{Q:Value->Shared->Prop}(ho:s.heap.get? a=some o)(hx:o.ExactSet)(hd:o.data = .set es ep t)(T:Tab prog w es t zs)
  (k:∀ h' d it tp ws first,(∀ b u,s.heap.get? b=some u->h'.get? b=some u)->s.heap.objs.size<=it->it < h'.objs.size->tp < h'.objs.size->(tp=a\/s.heap.objs.size<=tp)->tp≠it->h'.get? it=some (itO first 0 a es.size ep)->Way w h' a tp es ep t ws 0 first->ws.Perm es.toList->Q (.ref it) {s with heap:=h',drawn:=d}) :
  wpAny (model prog w) A (pyIter (.ref a)) Q E s:=by
 have hT:s.TypeIs (.ref a) "set":=⟨o,ho,hx.1⟩;have hlt:a < s.heap.objs.size:=Aj ho;refine wpAny_pyIter_slot hT F.slot_set_iter (wpAny_call_entry F.slot_set_iter hT k3j ?_ (F.args_set_iter_1 _));unfold Builtin.«frozenset.__iter__» slot0 slotArgs;simp only [Fq,Dt,Ax,↓reduceIte,bind_assoc,Fe,bne_self_eq_false];unfold addrOf Builtin.Frozenset.sizeOf;refine wpAny_bind (wpAny_pure ?_);refine wpAny_bind (wpAny_pure ?_);refine wpAny_bind (wpAny_bind (wpAny_setEntries_of ho hd T.fits (wpAny_pure ?_)));unfold setDrawn;refine wpAny_bind (wpAny_bind (wpAny_setState_of ho hd T.fits ?_))
 dsimp only
 refine wpAny_bind (wp_text ?_);refine wpAny_pure ?_
 by_cases c:(!byTx w && (!t.plain && decide (es.size > 1)))=true
 ·show wpAny _ _ (if(!byTx w && (!t.plain && decide (es.size > 1)))=true then _ else _) _ _ _;rw [if_pos c];refine wpAny_bind (k6s _ _ _ _ (by simp) fun ys d p=>?_);have ylen:ys.length=es.size:=by simpa using p.length_eq
  refine wpAny_bind (wpAny_newTuple ?_ (by rw [Aa,ylen];exact j8b (Ca T.few')));have o1:(s.heap.push (tupO ys)).get? a=some o:=Ae _ ho;refine wpAny_bind (wpAny_setEpoch_of (s:={s with heap:=s.heap.push (tupO ys),drawn:=d}) o1 hd T.fits ?_);refine wpAny_bind (wpAny_newObj_type (wpAny_pure ⟨_,rfl,"set_iterator",_,⟨_,Am _ rfl,rfl⟩,slot_next.lookup,?_⟩));have hs1:(s.heap.push (tupO ys)).objs.size=s.heap.objs.size+1:=Cz ..;refine k _ d _ s.heap.objs.size (ys.map fun y=>(es[y]?).getD (0,Value.none)) (.ref s.heap.objs.size) (fun b u e=>Ae _ (Ae _ e)) (by show s.heap.objs.size<=(s.heap.push (tupO ys)).objs.size;omega) ?_ ?_ (.inr (Ah _)) ?_ (Am _ rfl) ?_ ?_
  ·show(s.heap.push (tupO ys)).objs.size < ((s.heap.push (tupO ys)).push _).objs.size;simp only [Cz];omega
  ·show s.heap.objs.size < ((s.heap.push (tupO ys)).push _).objs.size;rw [Cz,hs1];omega
  ·show s.heap.objs.size≠(s.heap.push (tupO ys)).objs.size;omega
  ·refine .drawn ys (Ae _ (Am _ rfl)) ylen fun j y hy=>?_;have hm:y < es.size:=by
    have:=p.mem_iff.mp (Av hy)
    simpa using this
   rw [Ad,hy];show _=some ((es[y]?).getD (0,Value.none));rw [Bx hm];rfl
  ·have:=p.map fun y=>(es[y]?).getD (0,Value.none);rwa [k62] at this
 ·show wpAny _ _ (if(!byTx w && (!t.plain && decide (es.size > 1)))=true then _ else _) _ _ _;rw [if_neg c];refine wpAny_bind (wpAny_pure ?_);refine wpAny_bind (wpAny_setEpoch_of ho hd T.fits ?_);refine wpAny_bind (wpAny_newObj_type (wpAny_pure ⟨_,rfl,"set_iterator",_,⟨_,Am _ rfl,rfl⟩,slot_next.lookup,?_⟩));have kk:=fun ws hW hp=>k (s.heap.push (itO (.int 0 0) 0 a es.size ep)) s.drawn s.heap.objs.size a ws (.int 0 0) (fun b u e=>Ae _ e) (Ah _) (by rw [Cz];exact Ex _) (by rw [Cz];exact Ca hlt) (.inl rfl) (Bg hlt) (Am _ rfl) hW hp;cases hb:byTx w with
  | true=>exact kk _ (.text 0 hb rfl) (q2v _ _)
  | false=>
   have h1:es.size<=1:=by
    rcases T.plain with q | q
    ·rw [q];simp
    ·rw [hb,q] at c;simp at c;exact c
   refine kk es.toList (.one 0 hb h1 rfl ?_) (List.Perm.refl _);have hps:=j60 T
   rcases Cj es.size 1 with h | h
   ·have:t.place=#[]:=Array.eq_empty_of_size_eq_zero (by omega);rw [this];rfl
   ·obtain⟨j,hj⟩:=q0b (p:=t.place) (by omega);rw [hj,j8p,if_neg (Dq _)]
theorem q2q:typeLookup (.type "set") "__len__" = pure (some (.builtin "set.__len__")):=F.slot_set_len.lookup
theorem q07{Q:Bool->Shared->Prop}(hT:s.TypeIs (.ref a) "set")(k:Q false s):wpAny (model prog w) A (Builtin.List.listLengthHint (.ref a)) Q E s:=by
 unfold Builtin.List.listLengthHint;refine wpAny_bind (wpAny_specialOf hT q2q ?_)
 dsimp only
 have e1:splitId "set.__len__" = some ("set","__len__"):=by kernel_rfl
 rw [e1]
 dsimp only
 refine wpAny_bind (wpAny_isInstance hT sub_set_self ?_);simp only [Dt,Ax,if_false];rw [if_pos]
 ·exact wpAny_bind (wpAny_typeOf hT (wpAny_pure k))
 ·decide +kernel
theorem k29{Q:List Value->Shared->Prop}(hh:A.handled=none)(ho:s.heap.get? a=some o)(hx:o.ExactSet)(hd:o.data = .set es ep t)(T:Tab prog w es t zs)
  (k:∀ s' (acc:List (Int×Value)),(∀ b u,s.heap.get? b=some u->s'.heap.get? b=some u)->s'.gens=s.gens->s'.os=s.os->s.heap.objs.size < s'.heap.objs.size->acc.Perm es.toList->Q (acc.map (·.2)) s'):wpAny (model prog w) A (collect (.ref a)) Q E s:=by
 have hlt:a < s.heap.objs.size:=Aj ho;unfold collect;refine wpAny_bind (wpAny_runValue (codeAny_builtin F.entry_proto_collect ?_));rw [Around.under_plainId F.plain_proto_collect _];show wpAny _ A.in1 (newList [] >>= fun l=>again (.builtin "list.__iadd__" ⟨[l,.ref a],[]⟩)) _ _ s;refine wpAny_bind (wpAny_newList ?_);refine wpAny_pure ⟨plainId_quiet F.plain_list_iadd _,codeAny_builtin F.entry_list_iadd ?_⟩;rw [Around.under_plainId F.plain_list_iadd _];generalize hL:s.heap.objs.size=L;have ho1:(s.heap.push {cls:= .type "list",data:= .seq ([]:List Value).toArray}).get? a=some o:=Ae _ ho;have hS1:(s.heap.push {cls:= .type "list",data:= .seq ([]:List Value).toArray}).get? L=some {cls:= .type "list",data:= .seq ([]:List Value).toArray}:=by rw [<- hL];exact Am _ rfl
 have hT:Shared.TypeIs {s with heap:=s.heap.push {cls:= .type "list",data:= .seq ([]:List Value).toArray}} (.ref a) "set":=⟨o,ho1,hx.1⟩;show wpAny _ A.in1 (Builtin.List.listExtendWith (.ref L) (.ref a) (.ref L)) _ _ _;unfold Builtin.List.listExtendWith;refine wpAny_bind (wpAny_typeOf hT ?_);have n1:Builtin.List.listSameRef (.ref L) (.ref a)=false:=by
  have:L≠a:=by rw [<- hL];exact Ci hlt
  simp [Builtin.List.listSameRef,this]
 have n2:(Value.type "set" == Value.type "list")=false:=by decide
 have n3:(Value.type "set" == Value.type "tuple")=false:=by decide
 simp only [n1,n2,n3,Bool.or_false,Ax,if_false];refine wpAny_bind (q3o ho1 hx hd T fun h2 d it tp ws first kp2 hge hi2 ht2 hor hne gi W p=>?_);have ho2:=kp2 a o ho1;have hS2:=kp2 L _ hS1;have hszp:(s.heap.push {cls:= .type "list",data:= .seq ([]:List Value).toArray}).objs.size=L+1:=by rw [Cz,hL]
 refine wpAny_bind (wpAny_holding (q07 (a:=a) (s:={s with heap:=h2,drawn:=d}) ⟨o,ho2,hx.1⟩ ?_));show wpAny _ A.in1 (rule "list.extend.makes-room" >>= fun _=>Builtin.List.listTouch (.ref L) >>= fun _=>again (.builtin "list.extend.loop" ⟨[.ref L,.ref it,.ref L],[]⟩)) _ _ _;refine wpAny_bind (wpAny_rule ?_);refine wpAny_bind ?_;show wpAny _ A.in1 (updateSeq L (·.push .none) >>= fun _=>updateSeq L (·.pop)) _ _ _;refine wpAny_bind (wpAny_updateSeq hS2 rfl ?_);have hS3:=Cm (Obj.mapSeq (·.push Value.none)) hS2 rfl;refine wpAny_updateSeq hS3 rfl ?_;have hS4:=Cm (Obj.mapSeq (·.pop)) hS3 rfl;have oth:∀ b u,b≠L->h2.get? b=some u->((h2.update L (Obj.mapSeq (·.push Value.none))).update L (Obj.mapSeq (·.pop))).get? b=some u:=
  fun b u hb e=>(Bz _ _ (Ne.symm hb)).trans ((Bz _ _ (Ne.symm hb)).trans e)
 have hitL:it≠L:=by
  have hge':L+1<=it:=by rw [<- hszp];exact hge
  exact Ci hge'
 have haL:a≠L:=by rw [<- hL];exact Bg hlt
 have hai:a≠it:=by
  have hge':L+1<=it:=by rw [<- hszp];exact hge
  intro e;rw [<- hL,<- e] at hge';exact absurd hge' (Nat.not_le.mpr (Ca hlt))
 have htL:tp≠L:=by
  rcases hor with h | h
  ·rw [h];exact haL
  ·have h':L+1<=tp:=by rw [<- hszp];exact h
   exact Ci h'
 have hfp:L∉[it,a,tp]:=by
  intro h
  rcases Ap.mp h with h | h
  ·exact hitL h.symm
  ·rcases Ap.mp h with h | h
   ·exact haL h.symm
   ·exact htL (Ag.mp h).symm
 refine wpAny_pure ⟨plainId_quiet F.plain_extend_loop _,codeAny_extend_loopS ((k6l (by simp [hh]) hai hne hd T p).toS) (j8b (Ca T.few')) L hfp (.ref L) es.size 0 _ _ _ rfl (Bn _) ⟨first,oth it _ hitL gi,oth a _ haL ho2,W.keep fun u e=>oth tp u htL e⟩ hS4 (ItemsOf.nil _) fun s' acc c m hS' hI=>?_⟩;show wpAny _ A (load L >>= _) _ _ s';refine wpAny_bind (wpAny_load hS' ?_);have wl:ws.length=es.size:=by simpa using p.length_eq
 have el:acc.toList=ws.map (·.2):=by
  refine Dx fun j=>?_;rw [Bb,Ad];cases hj:acc[j]? with
  | none=>
   have:ws[j]?=none:=by
    rw [Cv];rw [wl,<- hI.1];exact Array.getElem?_eq_none_iff.mp hj
   rw [this];rfl
  | some v=>
   obtain⟨e,h1,h2⟩:=hI.2 j v hj;rw [h1,h2];rfl
 refine wpAny_pure ?_;rw [el];refine k s' ws (fun b u e=>?_) m.gens m.os (by rw [hL];exact Aj hS') p;have hb:b < s.heap.objs.size:=Aj e;have hbL:b≠L:=by rw [<- hL];exact Bg hb
 have hbi:b≠it:=by
  intro q;have hge':L+1<=it:=by rw [<- hszp];exact hge
  rw [<- hL,<- q] at hge';exact absurd hge' (Nat.not_le.mpr (Ca hb))
 refine m.heap b u (fun h=>?_) (oth b u hbL (kp2 b u (Ae _ e)))
 rcases Ap.mp h with h | h
 ·exact hbL h
 ·exact hbi (Ag.mp h)
end
end SetT
namespace SetT
open PySem PySem.Spec PyProof.Rows
theorem j64{prog:Program}{w:World}:∀(l:List (Int×Value)),(∀ e∈l,Elt prog w e)->StrsAre (l.map (·.2)) (l.map keyOf)
 | [],_=> .nil
 | e :: r,h=>by
  obtain⟨z,t,rfl⟩:=h e Au;exact .cons z t (j64 r fun x hx=>h x (Ao _ hx))
section
variable{prog:Program}{w:World}{A:Around}{E:Value->Shared->Prop}{s:Shared}{a:Addr}{zs:List Str}
theorem k2s{Q:Value->Shared->Prop}(hh:A.handled=none)(S:SetAt prog w s.heap a zs)(h64:zs.length < 64)
  (k:∀(s':Shared) (l:Addr) (out:Array Value) (e:Nat) (ss:List Str),(∀ b u,s.heap.get? b=some u->s'.heap.get? b=some u)->s'.gens=s.gens->s'.os=s.os->s.heap.objs.size<=l->s'.heap.get? l=some (seqObj "list" out e)->StrsAre out.toList ss->ss.Perm zs->sortedS ss=true->Q (.ref l) s') :
  wpAny (model prog w) A (call (.builtin "sorted") [.ref a]) Q E s:=by
 obtain⟨o,es,ep,t,ho,hx,hd,T⟩:=S;refine Calls.call_function_entry kind_sorted plain_sorted entry_sorted (args_sorted1 _) ?_;unfold Builtin.«sorted»;refine wpAny_bind (m:=checkCount "sorted" 1 1 _) (wpAny_pure ?_);refine wpAny_bind (k29 (by simp [hh]) ho hx hd T fun s1 acc kp g1 o1 z1 p=>?_);have hS:=j64 (prog:=prog) (w:=w) acc fun e he=>T.elts e (p.mem_iff.mp he);have hlen:(acc.map (·.2)).length=zs.length:=by
  rw [Aa,p.length_eq,Bw,T.size]
 refine wpAny_bind (wpAny_newList ?_ (by rw [hlen];exact j8b (by omega)));have hoL:(s1.heap.push (seqObj "list" (acc.map (·.2)).toArray 0)).get? s1.heap.objs.size=some (seqObj "list" (acc.map (·.2)).toArray 0):=Am _ rfl;have hsz:s.heap.objs.size<=s1.heap.objs.size:=Fx z1;refine wpAny_bind (wpAny_holding (wpAny_call_entry slot_list_sort ⟨_,hoL,rfl⟩ entry_list_sort (list_sort_treeK strKind_oneLt hoL hS.keysOf (fun v₁ v₂ rest e=>keyKind_strs (by rw [<- e];exact hS)) (by rw [hlen];exact h64) fun st' a1 a2=>⟨_,rfl,?_⟩) (args_list_sort _)));obtain⟨ss,q1,q2,q3⟩:=sorted_out_str hS a1 a2;obtain⟨e,he⟩:=sortedHeap_at (out:=(arrOf st').map (·.2)) hoL;refine wpAny_pure ⟨_,rfl,k _ _ _ e ss (fun b u hb=>?_) g1 o1 hsz he q1 (q2.trans ((p.map keyOf).trans T.keys)) q3⟩;have hb1:=kp b u hb;have hlt:=Aj hb1;show(sortedHeap (s1.heap.push _) s1.heap.objs.size _ _).get? b=some u;rw [sortedHeap_old (Bg hlt) (by rw [size_push'];exact Ca hlt)];exact Ae _ hb1
end
end SetT
namespace L2
open PySem PySem.Spec PyProof.Rows SetT
def SetO(prog:Program)(w:World)(a:Addr)(zs:List Str):HO:= .ext fun h=>SetAt prog w h a zs
section
variable{X:Cx}{pins:List (Addr×Obj)}{σ:St}{H:Hp}{s s':Shared}{a:Addr}{zs:List Str}
theorem Inv.like(I:Inv X pins σ H s)(e1:s'.heap=s.heap)(e2:s'.gens=s.gens)(e3:s'.os=s.os):Inv X pins σ H s':=by
 obtain⟨h,g,d,t,o⟩:=s;obtain⟨h',g',d',t',o'⟩:=s';simp only at e1 e2 e3;subst e1 e2 e3;exact⟨I.ok,I.os,I.bare,I.base,I.loc,I.cell,I.free,I.freeC,I.pin,I.hok,I.len⟩
theorem Inv.laid'{o:HO}(I:Inv X pins σ H s)(k:∀ b u,s.heap.get? b=some u->s'.heap.get? b=some u)(e2:s'.gens=s.gens)(e3:s'.os=s.os)(hp:s.heap.objs.size<=a)(new:ObjOk X.prog X.w (upd H a o) s'.heap a o):Inv X pins σ (upd H a o) s':=
 (I.laid (t':=s.toks) k hp new).like (s':=s') rfl e2 e3
theorem k39{h:Heap}(S:SetAt X.prog X.w h a zs):ObjOk X.prog X.w H h a (SetO X.prog X.w a zs):=by
 refine⟨S,?_,fun h1 h2 q k=>q.keep k⟩;obtain⟨o,_,_,_,ho,_⟩:=S;exact⟨o,ho⟩
theorem Inv.set(I:Inv X pins σ H s)(h:H a=some (SetO X.prog X.w a zs)):SetAt X.prog X.w s.heap a zs:=(I.hok a _ h).1
theorem j41:∀{zs:List Str} {us:List Value},Vals (zs.map V.str) us->StrsAre us zs
 | [],_,.nil=> .nil
 | z :: r,_,.cons q qs=>by
  obtain⟨t,rfl⟩:=q;exact .cons z t (j41 qs)
theorem j3p:∀{us:List Value} {zs:List Str},StrsAre us zs->Vals (zs.map V.str) us
 | _,_,.nil=> .nil
 | _,_,.cons z t q=> .cons ⟨t,rfl⟩ (j3p q)
theorem j52(hc:X.calm=true):j2z X (.builtin "sorted") (fun xs H Q=>∃ p zs,xs=[.ref p]/\H p=some (SetO X.prog X.w p zs)/\zs.length < 64/\∀ l ss,H l=none->ss.Perm zs->sortedS ss=true->Q (.ref l) (upd H l (.lst (ss.map V.str)))):=by
 intro pins s σ H xs us Q I r h;obtain⟨p,zs,rfl,hp,hl,q⟩:=h;obtain⟨u,rfl,ru⟩:=vals1 r;cases (show u=Value.ref p from ru);refine k2s (I.ok.hd hc) (I.set hp) hl fun s' l out e ss kp e2 e3 hge he hS hpm hso=>?_;have hlen:ss.length<=sizeLine:=by rw [hpm.length_eq];exact j8b (by omega)
 refine⟨.ref _,_,I.laid' (s':=s') kp e2 e3 hge (show ObjOk X.prog X.w _ s'.heap l (.lst (ss.map V.str)) from⟨by rw [Aa];exact hlen,out.toList,e,j3p hS,he⟩),rfl,q _ ss (I.hok.fresh hge) hpm hso⟩
theorem j5d:j2z X (.builtin "sorted") (fun xs H Q=>∃ p zs,xs=[.ref p]/\SqL X.K H p (zs.map V.str)/\zs.length < 64/\∀ l ss,H l=none->ss.Perm zs->sortedS ss=true->Q (.ref l) (upd H l (.lst (ss.map V.str)))):=by
 intro pins s σ H xs us Q I r h;obtain⟨p,zs,rfl,hp,hl,q⟩:=h;obtain⟨u,rfl,ru⟩:=vals1 r;cases (show u=Value.ref p from ru);obtain⟨its,rv,pl,hz⟩:=I.list hp;have e1:=rv.length;rw [Aa] at e1;refine PyProof.Rows.sorted_strs pl.isList (j41 rv) (by omega) fun out ss hS hpm hso=>?_;obtain⟨e,he⟩:=sortedAll_at s.heap its out;have hlen:ss.length<=sizeLine:=by rw [hpm.length_eq];exact j8b (by omega)
 refine⟨.ref _,_,I.laid' (s':={s with heap:=sortedAll s.heap its out}) (fun b u hb=>sortedAll_old hb) rfl rfl (Dv _) (show ObjOk X.prog X.w _ _ _ (.lst (ss.map V.str)) from⟨by rw [Aa];exact hlen,out.toList,e,j3p hS,he⟩),rfl,q _ ss (I.hok.fresh (Dv _)) hpm hso⟩
end
end L2
namespace L2
open PySem PySem.Spec PyProof.Rows
section
variable{X:Cx}{o e:Expr}{σ:St}{H:Hp}{Q:VK}{ap cp:Pos}
theorem j1r (h:Ev X o σ H fun x H1=>∃ l,x = .ref l/\(∃ xs,H1 l=some (.lst xs))/\Ev X e σ H1 fun y H2=>∃ xs,H2 l=some (.lst xs)/\xs.length < sizeLine/\Q .non (upd H2 l (.lst (xs++[y]))))
  (hbase:attributeBase o "append" X.env (eval o X.env)=eval o X.env:=by rfl)
  (hfew:((backTo cp (starEach [e] X.env)).all (fun x=>!x.1) && (backToKw cp (keywordEach [] X.env)).all (fun x=>x.1.isSome) && decide ([e].length+([]:List Keyword).length+(if([]:List Keyword).isEmpty then 0 else 1) < 30))=true:=by rfl)
  (hline:(ap.endLine == cp.line)=true:=by rfl) (hs:starEach [e] X.env=(false,eval e X.env) :: starEach [] X.env:=by rfl) (hplain:(backTo cp (starEach [] X.env)).any (·.1)=false:=by rfl) (hst:isStar e=false:=by rfl) :
  Ev X (.Call (.Attribute o "append" ap) [e] [] cp) σ H Q:=by
 refine j2e (q3d PySem.F.plainAttrs_list PySem.F.slot_list_append PySem.F.type_list_append j4b j05 (j4u (es:=[e])) hbase hfew hline hs hplain) (h.mono fun x H1 ⟨l,ex,⟨xs,hl⟩,h2⟩=>?_);subst ex;refine⟨.inl ⟨rfl,xs,SqL.of hl⟩,?_⟩;exact j0a (h2.mono fun y H2 ⟨ys,hy,hz,q⟩=>j0c ⟨l,ys,y,rfl,rfl,hy,hz,q⟩) hst
end
section
variable{X:Cx}{c:Expr}{body els rest:List Stmt}{D:Ends}{σ:St}{H:Hp}{pos:Pos}
theorem Run.nx{M M':St->Hp->Prop}{l:List Stmt}(h:Run X l {D with nx:=M} σ H)(f:∀ σ' H',M σ' H'->M' σ' H'):Run X l {D with nx:=M'} σ H:=
 ⟨fun pins s I => thn (h.run pins s I) fun fl s' q => by
  cases fl with
  | next=>
   obtain⟨σ',H',I',m⟩:=q;exact⟨σ',H',I',f σ' H' m⟩
  | _=>exact q⟩
theorem k51(φ ψ:Prop)(M:St->Hp->Prop)(hc:∀ T:Bool->Hp->Prop,(∀ k:Bool,(k=true->φ)->(k=false->ψ)->T k H)->Et X c σ H T)(ht:φ->Run X body {D with nx:=M} σ H)(hu:ψ->Run X els {D with nx:=M} σ H)
  (hr:∀ σ' H',M σ' H'->Run X rest D σ' H'):Run X (.If c body els pos :: rest) D σ H:=
 k3q φ ψ hc (fun p=>(ht p).nx hr) (fun p=>(hu p).nx hr)
end
def EqD(X:Cx)(H:Hp)(k:Nat)(x y:V)(b:Bool):Prop:=∀(pins:List (Addr×Obj)) (σ:St) (s:Shared) (A:Around) (u v:Value),Inv X pins σ H s->A.units+k < cLine->RelV x u->RelV y v->SeqAt.EqAt A s u v b
def RcD(X:Cx)(H:Hp)(k:Nat)(x y:V)(b:Bool):Prop:=∀(pins:List (Addr×Obj)) (σ:St) (s:Shared) (A:Around) (u v:Value),Inv X pins σ H s->A.units+k < cLine->RelV x u->RelV y v->SeqAt.RcAt A s u v b
def RnD(X:Cx)(H:Hp)(k:Nat)(x y:V)(b:Bool):Prop:=∀(pins:List (Addr×Obj)) (σ:St) (s:Shared) (A:Around) (u v:Value),Inv X pins σ H s->A.units+k < cLine->RelV x u->RelV y v->SeqAt.RcNeAt A s u v (!b)
section
variable{X:Cx}{H:Hp}{k:Nat}{a b:Addr}{xs ys:List V}
theorem j4e{x y:V}(fx:j6s x=true)(fy:j6s y=true):EqD X H k x y (eqV x y):=fun _ _ _ _ _ _ _ _ rx ry=>q0r rx ry fx fy
theorem k8g:EqD X H k (.ref a) (.ref a) true:=fun _ _ _ _ u v _ _ rx ry=>by
 cases rx;cases ry;exact SeqAt.EqAt.same _
theorem q6n(hne:a≠b){c:Bool}(h:RcD X H k (.ref a) (.ref b) c):EqD X H k (.ref a) (.ref b) c:=fun pins σ s A u v I hu rx ry=>by
 cases rx;cases ry;exact SeqAt.EqAt.of_refs hne (h pins σ s A _ _ I hu rfl rfl)
theorem j3s{us:List Value}(r:Vals xs us){j:Nat}(h:j < us.length):∃ x,xs[j]?=some x/\RelV x us[j]:=by
 have hl:=r.length;have hj:j < xs.length:=by omega
 obtain⟨u,e,q⟩:=r.get (Ab hj);rw [Ab h] at e;cases e;exact⟨_,Ab hj,q⟩
theorem q6v(e:Nat->Bool)(ha:SqL X.K H a xs)(hb:SqL X.K H b ys)(hl:xs.length=ys.length)(he:∀ j x y,xs[j]?=some x->ys[j]?=some y->EqD X H k x y (e j)):RcD X H (k+1) (.ref a) (.ref b) ((List.range xs.length).all e):=fun pins σ s A u v I hu rx ry=>by
 cases rx;cases ry;obtain⟨i1,r1,p1,_⟩:=I.list ha;obtain⟨i2,r2,p2,_⟩:=I.list hb;have l1:=r1.length;have l2:=r2.length;have q:=SeqAt.RcAt.lists (A:=A) (e:=e) p1.isList p2.isList (by simp;omega) (by omega) fun j h1 h2=>by
  obtain⟨x,ex,qx⟩:=j3s r1 (j:=j) (by simpa using h1);obtain⟨y,ey,qy⟩:=j3s r2 (j:=j) (by simpa using h2);exact he j x y ex ey pins σ s A.in1 _ _ I (by show A.units+1+k < cLine;omega) (by simpa using qx) (by simpa using qy)
 rw [Aq,<- l1] at q;exact q
theorem j5h(e:Nat->Bool)(ha:SqL X.K H a xs)(hb:SqL X.K H b ys)(hl:xs.length=ys.length)(he:∀ j x y,xs[j]?=some x->ys[j]?=some y->EqD X H k x y (e j)):RnD X H (k+1) (.ref a) (.ref b) ((List.range xs.length).all e):=fun pins σ s A u v I hu rx ry=>by
 cases rx;cases ry;obtain⟨i1,r1,p1,_⟩:=I.list ha;obtain⟨i2,r2,p2,_⟩:=I.list hb;have l1:=r1.length;have l2:=r2.length;have q:=SeqAt.RcNeAt.lists (A:=A) (e:=e) p1.isList p2.isList (by simp;omega) (by omega) fun j h1 h2=>by
  obtain⟨x,ex,qx⟩:=j3s r1 (j:=j) (by simpa using h1);obtain⟨y,ey,qy⟩:=j3s r2 (j:=j) (by simpa using h2);exact he j x y ex ey pins σ s A.in1 _ _ I (by show A.units+1+k < cLine;omega) (by simpa using qx) (by simpa using qy)
 rw [Aq,<- l1] at q;exact q
theorem q6w(ha:SqL X.K H a xs)(hb:SqL X.K H b ys)(hl:xs.length≠ys.length):RcD X H k (.ref a) (.ref b) false:=fun pins σ s A u v I hu rx ry=>by
 cases rx;cases ry;obtain⟨i1,r1,p1,_⟩:=I.list ha;obtain⟨i2,r2,p2,_⟩:=I.list hb;have l1:=r1.length;have l2:=r2.length;exact SeqAt.RcAt.lists_lengths p1.isList p2.isList (by simp;omega) (by omega)
theorem j7s(ha:SqL X.K H a xs)(hb:SqL X.K H b ys)(hl:xs.length≠ys.length):RnD X H k (.ref a) (.ref b) false:=fun pins σ s A u v I hu rx ry=>by
 cases rx;cases ry;obtain⟨i1,r1,p1,_⟩:=I.list ha;obtain⟨i2,r2,p2,_⟩:=I.list hb;have l1:=r1.length;have l2:=r2.length;exact SeqAt.RcNeAt.lists_lengths p1.isList p2.isList (by simp;omega) (by omega)
theorem k5f(e:Nat->Bool)(ha:SqT X.K H a xs)(hb:SqT X.K H b ys)(hl:xs.length=ys.length)(he:∀ j x y,xs[j]?=some x->ys[j]?=some y->EqD X H k x y (e j)):RcD X H (k+1) (.ref a) (.ref b) ((List.range xs.length).all e):=fun pins σ s A u v I hu rx ry=>by
 cases rx;cases ry;obtain⟨i1,r1,p1,_⟩:=I.tuple ha;obtain⟨i2,r2,p2,_⟩:=I.tuple hb;have l1:=r1.length;have l2:=r2.length;have q:=SeqAt.RcAt.tuples (A:=A) (e:=e) p1 p2 (by omega) fun j h1 h2=>by
  obtain⟨x,ex,qx⟩:=j3s r1 (j:=j) (by simpa using h1);obtain⟨y,ey,qy⟩:=j3s r2 (j:=j) (by simpa using h2);exact he j x y ex ey pins σ s A.in1 _ _ I (by show A.units+1+k < cLine;omega) (by simpa using qx) (by simpa using qy)
 rw [Aq,Aq,<- l1,<- l2,hl,Nat.min_self,<- hl] at q
 simpa using q
theorem k8n(n:Nat):(List.range n).all (fun _=>true)=true:=by simp
theorem q6u(hu:X.A.units+100 < cLine):OpR X (compareOp .Eq) (fun x y H Q=>∃ k c,k<=100/\RcD X H k x y c/\Q (.bl c) H):=by
 intro pins s σ H x y v u Q I rx ry h;obtain⟨k,c,hk,hc,q⟩:=h;exact hc pins σ s X.A v u I (by omega) rx ry X.prog X.w X.xe _ ⟨.bl c,H,I,rfl,q⟩
theorem j5w(hu:X.A.units+100 < cLine):OpR X (compareOp .NotEq) (fun x y H Q=>∃ k c,k<=100/\RnD X H k x y c/\Q (.bl (!c)) H):=by
 intro pins s σ H x y v u Q I rx ry h;obtain⟨k,c,hk,hc,q⟩:=h;exact hc pins σ s X.A v u I (by omega) rx ry X.prog X.w X.xe _ ⟨.bl (!c),H,I,rfl,q⟩
end
end L2
namespace L2
open PySem PySem.Spec PyProof.Rows
section
variable{X:Cx}{H:Hp}{k:Nat}{a b:Addr}{xs ys:List V}
theorem k5h(e:Nat->Bool)(ha:SqT X.K H a xs)(hb:SqT X.K H b ys)(hl:xs.length=ys.length)(he:∀ j x y,xs[j]?=some x->ys[j]?=some y->EqD X H k x y (e j)):RnD X H (k+1) (.ref a) (.ref b) ((List.range xs.length).all e):=fun pins σ s A u v I hu rx ry=>by
 cases rx;cases ry;obtain⟨i1,r1,p1,_⟩:=I.tuple ha;obtain⟨i2,r2,p2,_⟩:=I.tuple hb;have l1:=r1.length;have l2:=r2.length;have q:=SeqAt.RcNeAt.tuples (A:=A) (e:=e) p1 p2 (by omega) fun j h1 h2=>by
  obtain⟨x,ex,qx⟩:=j3s r1 (j:=j) (by simpa using h1);obtain⟨y,ey,qy⟩:=j3s r2 (j:=j) (by simpa using h2);exact he j x y ex ey pins σ s A.in1 _ _ I (by show A.units+1+k < cLine;omega) (by simpa using qx) (by simpa using qy)
 rw [Aq,Aq,<- l1,<- l2,hl,Nat.min_self,<- hl] at q
 simpa using q
end
section
variable{X:Cx}{o e f c:Expr}{σ:St}{H:Hp}{Q:VK}{T:Bool->Hp->Prop}{ap cp pos:Pos}{body rest:List Stmt}{D:Ends}
theorem q7x{name:Str}{Ty id:String}{r:V->List V->Hp->VK->Prop}(pa:PlainAttrs Ty)(slot:Slot Ty name id)(hty:typeOf (.builtin id)=pure (.type "method_descriptor"))(hm:MtR X id r)
  (h:Ev X o σ H fun x H1=>tyV X.K Ty x H1/\r x [] H1 Q) (hbase:attributeBase o name X.env (eval o X.env)=eval o X.env:=by rfl) (hline:(ap.endLine == cp.line)=true:=by rfl):Ev X (.Call (.Attribute o name ap) [] [] cp) σ H Q:=
 j2e (q4m pa slot hty hm j05 hbase hline) h
theorem q5f{name:Str}{Ty id:String}{r:V->List V->Hp->VK->Prop}(pa:PlainAttrs Ty)(slot:Slot Ty name id)(hty:typeOf (.builtin id)=pure (.type "method_descriptor"))(hm:MtR X id r)
  (h:Ev X o σ H fun x H1=>tyV X.K Ty x H1/\Ev X e σ H1 fun y H2=>r x [y] H2 Q) (hbase:attributeBase o name X.env (eval o X.env)=eval o X.env:=by rfl)
  (hfew:((backTo cp (starEach [e] X.env)).all (fun x=>!x.1) && (backToKw cp (keywordEach [] X.env)).all (fun x=>x.1.isSome) && decide ([e].length+([]:List Keyword).length+(if([]:List Keyword).isEmpty then 0 else 1) < 30))=true:=by rfl)
  (hline:(ap.endLine == cp.line)=true:=by rfl) (hs:starEach [e] X.env=(false,eval e X.env) :: starEach [] X.env:=by rfl) (hplain:(backTo cp (starEach [] X.env)).any (·.1)=false:=by rfl) (hst:isStar e=false:=by rfl):Ev X (.Call (.Attribute o name ap) [e] [] cp) σ H Q:=
 j2e (q3d pa slot hty hm j05 (j4u (es:=[e])) hbase hfew hline hs hplain) (h.mono fun x H1 ⟨t,h2⟩=>⟨t,j0a (h2.mono fun y H2 q=>j0c q) hst⟩)
theorem k79{name:Str}{Ty id:String}{r:V->List V->Hp->VK->Prop}(pa:PlainAttrs Ty)(slot:Slot Ty name id)(hty:typeOf (.builtin id)=pure (.type "method_descriptor"))(hm:MtR X id r)
  (h:Ev X o σ H fun x H1=>tyV X.K Ty x H1/\Ev X e σ H1 fun y H2=>Ev X f σ H2 fun z H3=>r x [y,z] H3 Q) (hbase:attributeBase o name X.env (eval o X.env)=eval o X.env:=by rfl)
  (hfew:((backTo cp (starEach [e,f] X.env)).all (fun x=>!x.1) && (backToKw cp (keywordEach [] X.env)).all (fun x=>x.1.isSome) && decide ([e,f].length+([]:List Keyword).length+(if([]:List Keyword).isEmpty then 0 else 1) < 30))=true:=by rfl)
  (hline:(ap.endLine == cp.line)=true:=by rfl) (hs:starEach [e,f] X.env=(false,eval e X.env) :: starEach [f] X.env:=by rfl) (hplain:(backTo cp (starEach [f] X.env)).any (·.1)=false:=by rfl) (hst:isStar e=false:=by rfl) (hsf:isStar f=false:=by rfl):Ev X (.Call (.Attribute o name ap) [e,f] [] cp) σ H Q:=
 j2e (q3d pa slot hty hm j05 (j4u (es:=[e,f])) hbase hfew hline hs hplain) (h.mono fun x H1 ⟨t,h2⟩=>⟨t,j0a (h2.mono fun y H2 h3=>j0a (h3.mono fun z H3 q=>j0c q) hsf) hst⟩)
def insertAt(xs:List V)(i:Nat)(y:V):List V:=xs.take i++y :: xs.drop i
def q1s:V->List V->Hp->VK->Prop:=fun x vs H Q=>∃ l xs i y,x = .ref l/\vs=[.int i,y]/\H l=some (.lst xs)/\0<=i/\i.toNat<=xs.length/\xs.length < sizeLine/\Q .non (upd H l (.lst (insertAt xs i.toNat y)))
theorem q0z{i:Int}(h0:0<=i)(h:i<=16777216):¬(!Builtin.List.listFitsIndex i)=true:=by
 have e:Builtin.List.listFitsIndex i=true:=by
  unfold Builtin.List.listFitsIndex;rw [Bu,decide_eq_true_eq,decide_eq_true_eq];omega
 rw [e];exact Al
theorem j6h:MtM X "list.insert" q1s:=by
 intro pins s σ H x vs v us Q I rx rv h;obtain⟨l,xs,i,y,rfl,rfl,hH,h0,hi,hz,q⟩:=h;cases rx;obtain⟨u,w',rfl,ru,rw'⟩:=rv.two;obtain⟨tk,rfl⟩:=ru;obtain⟨z,its,n,r,hl,e⟩:=I.lstM hH;have hs:sizeLine=16777216:=sizeLine_eq;have z2:its.toArray.size<=sizeLine:=by rw [Aq,<- hl];exact z
 have mm:=AutoSeq1.list_insert_list_int_val_1 l its.toArray n i tk w' (q0z h0 (by omega)) z2;refine call_meets F.slot_list_insert ⟨_,e,rfl⟩ F.entry_list_insert (F.args_list_insert_3 _ _ _) mm ⟨e,?_⟩;have ef:(fun xs:Array Value=>have k:=if i < 0 then(i+(xs.size:Int)).toNat else min i.toNat xs.size;(xs.extract 0 k).push w'++xs.extract k) its.toArray=(its.take i.toNat++w' :: its.drop i.toNat).toArray:=by
  have hn:¬ i < 0:=by omega
  have hm:min i.toNat its.length=i.toNat:=by omega
  simp only [hn,if_false,Aq,hm];apply Array.ext';simp;exact Cq (by simp)
 refine⟨.non,_,I.lset (its':=its.take i.toNat++w' :: its.drop i.toNat) hH e ef ((r.take i.toNat).append (.cons rw' (r.drop i.toNat))) ?_,rfl,q⟩;rw [Af,An,Bh,Dc];omega
def q1a:V->List V->Hp->VK->Prop:=fun x vs H Q=>∃ a kvs k y,x = .ref a/\vs=[kV k,y]/\H a=some (.dK kvs)/\kvs.length < sizeLine /\
 ((∃ v,valV kvs k=some v/\Q v H)\/(valV kvs k=none/\Q y (upd H a (.dK (putK kvs k y)))))
theorem k5n:MtM X "dict.setdefault" q1a:=by
 intro pins s σ H x vs v us Q I rx rv h;obtain⟨a,kvs,k,y,rfl,rfl,hH,hz,q⟩:=h;cases rx;obtain⟨u,w',rfl,ru,rw'⟩:=rv.two;obtain⟨z,hd,rs,rel,dd⟩:=q2h I.hok hH;have hl:=rel.length;refine call_meetsIn F.slot_dict_setdefault dd.typeIs F.entry_dict_setdefault (F.args_dict_setdefault_3 _ _ _) (kt_meets_setdefault (j0p X.prog X.w) a (j8y ru) hd w') ⟨rs,dd,by omega,fun v hv=>?_,fun hn h' dd' hs=>?_⟩
 ·have rv2:=rel.val k;rw [hv] at rv2
  rcases q with ⟨v',e',q⟩ | ⟨e',_⟩
  ·rw [e'] at rv2;exact⟨v',H,I.tok _,rv2,q⟩
  ·rw [e'] at rv2;exact rv2.elim
 ·have rv2:=rel.val k;rw [hn] at rv2
  rcases q with ⟨v',e',_⟩ | ⟨e',q⟩
  ·rw [e'] at rv2;exact rv2.elim
  ·have he:∃ q,h'.get? a=some q:=let ⟨q,_,_,hq,_⟩:=dd';⟨q,hq⟩
   have hl2:(putK kvs k y).length<=sizeLine:=by have:=j06 kvs k y;omega
   exact⟨y,_,j3i I (by rw [hH];exact True.intro) hs he (k5o hl2 hd (rel.put k rw') dd'),rw',q⟩
theorem j8j:j2z X (.type "int") (fun xs H Q=>∃ b:Bool,xs=[.bl b]/\Q (.int (if b then 1 else 0)) H):=by
 intro pins s σ H xs us Q I r h;obtain⟨b,rfl,q⟩:=h;obtain⟨u,rfl,ru⟩:=vals1 r;cases (show u=Value.bool b from ru);exact call_int_bool ⟨.int (if b then 1 else 0),H,I.tok _,⟨_,rfl⟩,q⟩
theorem j6o{els:List Stmt}(Φ:Bool->Hp->Prop)(M:St->Hp->Prop)(hc:Et X c σ H Φ)(ht:∀ H1,Φ true H1->Run X body {D with nx:=M} σ H1)(hu:∀ H1,Φ false H1->Run X els {D with nx:=M} σ H1)
  (hr:∀ σ' H',M σ' H'->Run X rest D σ' H'):Run X (.If c body els pos :: rest) D σ H:=
 j11 (hc.mono fun k H1 p=>by
  cases k with
  | true=>rw [if_pos rfl];exact(ht H1 p).nx hr
  | false=>rw [if_neg Al];exact(hu H1 p).nx hr)
theorem j4c(W:Nat->St->Hp->Prop){m0:Nat}(h0:W m0 σ H)
  (turn:∀ m σ H,W m σ H->Et X c σ H fun b H1=>if b=true then Run X body {D with nx:=fun σ' H'=>∃ m',m' < m/\W m' σ' H',ct:=fun σ' H'=>∃ m',m' < m/\W m' σ' H',bk:=fun σ' H'=>Run X rest D σ' H'} σ H1 else Run X rest D σ H1)
  (hp:PassesOwn (model X.prog X.w) X.A X.env X.xe:=by exact PassesOwn.never):Run X (.While c body [] pos :: rest) D σ H:=by
 refine j2g (k7z hp j74 j39) ⟨W,⟨m0,h0⟩,fun m σ1 H1 w1=>(turn m σ1 H1 w1).mono fun b H2 q=>?_⟩;cases b with
 | true=>
  rw [if_pos rfl] at q;exact⟨fun σ' H'=>∃ m',m' < m/\W m' σ' H',fun _ _ h=>h,q⟩
 | false=>
  rw [if_neg Al] at q;exact q
theorem j5g(h:∀ p,H p=none->Q (.ref p) (upd H p (.dK []))):Ev X (.Dict [] [] pos) σ H Q:=j2e k9t h
theorem k9k(h:∀ p,H p=none->Q (.ref p) (upd H p (.dT []))):Ev X (.Dict [] [] pos) σ H Q:=j2e k8a h
theorem j21(hu:X.A.units+1 < cLine)(h:Ev X o σ H fun x H1=>Ev X e σ H1 fun y H2=>∃ a v,x = .ref a/\DGet H2 a y (some v)/\Q v H2)(hs:NoSl e:=by intro _ _;rfl):Ev X (.Subscript o e pos) σ H Q:=j2e (q3x hu j05 j05 hs) h
theorem q0c(hu:X.A.units+1 < cLine)(h:Ev X e σ H fun y H1=>Ev X o σ H1 fun x H2=>∃ a r,x = .ref a/\DGet H2 a y r/\T r.isSome H2)(hm:behindInMarks .In o=false:=by with_unfolding_all rfl):Et X (.Compare e [.In] [o] pos) σ H T:=
 k3b (k96 (q40 hu j05 j05) hm) (h.mono fun y H1 h2=>h2.mono fun x H2 ⟨a,r,h3,h4,h5⟩=>⟨a,r,h3,h4,_,rfl,h5⟩)
theorem k3t(hu:X.A.units+1 < cLine)(h:Ev X e σ H fun y H1=>Ev X o σ H1 fun x H2=>∃ a r,x = .ref a/\DGet H2 a y r/\T (!r.isSome) H2)(hm:behindInMarks .NotIn o=false:=by with_unfolding_all rfl):Et X (.Compare e [.NotIn] [o] pos) σ H T:=
 k3b (k96 (k6g hu j05 j05) hm) (h.mono fun y H1 h2=>h2.mono fun x H2 ⟨a,r,h3,h4,h5⟩=>⟨a,r,h3,h4,_,rfl,h5⟩)
theorem j30{p2:Pos}(hu:X.A.units+1 < cLine)(h:Ev X f σ H fun v H1=>Ev X o σ H1 fun x H2=>Ev X e σ H2 fun y H3=>∃ a H4,x = .ref a/\DPut H3 a y v H4/\Run X rest D σ H4)(hs:swapsWith f (some (.Subscript o e p2)) pos.line X.env=pure false:=by rfl) :
  Run X (.Assign [.Subscript o e p2] f pos :: rest) D σ H:=j2g (q3r hu j05 j05 j05 hs) h
end
end L2
namespace Sort2
open PySem PySem.Spec PyProof.Rows
def lexLt(a b:Int×Int):Bool:=if a.1=b.1 then decide (a.2 < b.2) else decide (a.1 < b.1)
theorem j8h(b:Bool)(x y:Value):keyLt' (tuples' b) x y=(do
  let xs <- Builtin.List.listItems x
  let ys <- Builtin.List.listItems y
  for ((p,q),i) in (xs.toList.zip ys.toList).zipIdx do
   if !(<- eqBool p q) then return <- oneLt' (b && i == 0) p q
  return xs.size < ys.size):=rfl
section
variable{prog:Program}{w:World}{A:Around}{E:Value->Shared->Prop}{s:Shared}
def Pr(h:Heap)(a:Addr)(p:Int×Int):Prop:=∃ o n t u,h.get? a=some o/\o.cls = .type "tuple"/\o.data = .seq #[.int p.1 t,.int p.2 u] n
theorem k1w{a b:Int}{t u:Tok}{Q:Bool->Shared->Prop}(h:Q (decide (a=b)) s):wpAny (model prog w) A (eqBool (.int a t) (.int b u)) Q E s:=by
 refine SeqAt.EqAt.int_int a t b u prog w E Q ?_;have e:(a == b)=decide (a=b):=rfl;rw [e];exact h
theorem q5i{a b:Int}{t u:Tok}{Q:Bool->Shared->Prop}(h:Q (decide (a < b)) s):wpAny (model prog w) A (oneLt' false (.int a t) (.int b u)) Q E s:=by
 rw [oneLt'_eq];simp only [Ax,if_false];refine wpAny_bind ?_;show wpAny _ _ (compareOp .Lt (.int a t) (.int b u)) _ _ _;exact lt_int (wpAny_truthy_bool h)
theorem k8d{x y:Addr}{p q:Int×Int}{Q:Bool->Shared->Prop}(hx:Pr s.heap x p)(hy:Pr s.heap y q)(h:Q (lexLt p q) s):wpAny (model prog w) A (keyLt' (tuples' true) (.ref x) (.ref y)) Q E s:=by
 obtain⟨ox,nx,tx,ux,hox,cx,dx⟩:=hx;obtain⟨oy,ny,ty,uy,hoy,cy,dy⟩:=hy;rw [j8h];refine wpAny_bind (listItems_at hox dx ?_);refine wpAny_bind (listItems_at hoy dy ?_);show wpAny _ _ (forIn [((Value.int p.1 tx,Value.int q.1 ty),0),((Value.int p.2 ux,Value.int q.2 uy),1)] _ _ >>= _) _ _ _;rw [Fv];refine wpAny_bind (wpAny_bind ?_)
 dsimp only
 refine wpAny_bind (k1w ?_)
 by_cases c:p.1=q.1
 ·rw [decide_eq_true c];simp only [Dt,Ax,if_false];refine wpAny_pure ?_
  dsimp only
  rw [Fv];refine wpAny_bind ?_
  dsimp only
  refine wpAny_bind (k1w ?_)
  by_cases c2:p.2=q.2
  ·rw [decide_eq_true c2];simp only [Dt,Ax,if_false];refine wpAny_pure ?_
   dsimp only
   rw [List.forIn_nil];refine wpAny_pure (wpAny_pure ?_);have e:lexLt p q=false:=by unfold lexLt;rw [if_pos c,c2];simp
   rw [e] at h
   simpa using h
  ·rw [decide_eq_false c2];simp only [Fz,if_true];refine wpAny_bind (q5i (wpAny_pure ?_))
   dsimp only
   refine wpAny_pure (wpAny_pure ?_);have e:lexLt p q=decide (p.2 < q.2):=by unfold lexLt;rw [if_pos c]
   rw [e] at h;exact h
 ·rw [decide_eq_false c];simp only [Fz,if_true];refine wpAny_bind (oneLt_int (wpAny_pure ?_))
  dsimp only
  refine wpAny_pure (wpAny_pure ?_);have e:lexLt p q=decide (p.1 < q.1):=by unfold lexLt;rw [if_neg c]
  rw [e] at h;exact h
theorem sz2{x y:Value}:(#[x,y]:Array Value).size<=sizeLine+1:=by
 rw [sizeLine_eq];show 2<=_;decide
theorem k7e(v:Value):firstOfTuple' v=(do
  if(<- typeOf v) != .type "tuple" then return none
  return (<- Builtin.List.listItems v)[0]?):=rfl
theorem k1e{x:Addr}{p:Int×Int}{Q:Option Value->Shared->Prop}(hx:Pr s.heap x p)(h:∀ t,Q (some (.int p.1 t)) s):wpAny (model prog w) A (firstOfTuple' (.ref x)) Q E s:=by
 obtain⟨ox,nx,tx,ux,hox,cx,dx⟩:=hx;rw [k7e];refine wpAny_bind (wpAny_typeOf (T:= "tuple") ⟨ox,hox,cx⟩ ?_);rw [show(Value.type "tuple" != Value.type "tuple")=false by decide];simp only [Ax,if_false];refine wpAny_bind (listItems_at hox dx ?_);exact wpAny_pure (h tx)
theorem q3v{x y:Addr}{p q:Int×Int}{Q:SortKind->Shared->Prop}(hx:Pr s.heap x p)(hy:Pr s.heap y q)(h:Q (tuples' true) s):wpAny (model prog w) A (keyKind' #[.ref x,.ref y]) Q E s:=by
 rw [keyKind'_eq,show(#[.ref x,.ref y]:Array Value)=[.ref x,.ref y].toArray from rfl,List.mapM_toArray];refine wpAny_bind (wpAny_map ?_);rw [List.mapM_cons];refine wpAny_bind (k1e hx fun t=>?_);rw [List.mapM_cons];refine wpAny_bind (wpAny_bind (k1e hy fun u=>?_));rw [List.mapM_nil];refine wpAny_bind (wpAny_pure (wpAny_pure (wpAny_pure ?_)));rw [if_pos (by simp)];refine wpAny_bind (wpAny_rule ?_);rw [oneTypeOnly'_eq];show wpAny _ _ ((Array.mapM typeOf [Value.int p.1 t,Value.int q.1 u].toArray >>= _) >>= _) _ _ _;rw [List.mapM_toArray];have e1:[Value.int p.1 t,Value.int q.1 u].mapM typeOf=(pure [Value.type "int",Value.type "int"]:Sem _):=rfl;rw [e1];refine wpAny_pure ?_;have e2:(if((#[Value.type "int",Value.type "int"]:Array Value).all fun x=>x == (#[Value.type "int",Value.type "int"]:Array Value)[0])=true then some (#[Value.type "int",Value.type "int"]:Array Value)[0] else none)=some (Value.type "int"):=by
  rw [if_pos]
  ·rfl
  ·simp
 show Q (tuples' (Option.any (fun x=>x != Value.type "tuple") _)) s;rw [e2];exact h
theorem wp_at{st:SortSt}{x y:Addr}{p q:Int×Int}{i j:Nat}{Q:Option Bool->SortSt->Prop}(hk:kindOf st=tuples' true)(hi:(arrOf st)[i]?=some (.ref x,.ref x))(hj:(arrOf st)[j]?=some (.ref y,.ref y))(hx:Pr s.heap x p)(hy:Pr s.heap y q)(h:Q (some (lexLt p q)) st) :
  wpS (model prog w) A E s (ltAt' i j) Q st:=by
 rw [ltAt'_eq];refine wpS_bind (wpS_get ?_);show wpS _ _ _ _ (elem' (arrOf st) i >>= fun a=>elem' (arrOf st) j >>= fun b=>lt' a b) Q st;rw [elem'_eq,elem'_eq,hi,hj];refine wpS_bind (wpS_pure (wpS_bind (wpS_pure ?_)));rw [lt'_eq];refine wpS_bind (wpS_get ?_);rw [hk];refine wpS_bind (wpS_lift (wpAny_attempt (k8d hx hy ⟨rfl,?_⟩)));exact wpS_pure h
def j22(x y:Addr)(p q:Int×Int):Array Keyed:=if lexLt q p then #[(.ref y,.ref y),(.ref x,.ref x)] else #[(.ref x,.ref x),(.ref y,.ref y)]
theorem k8j{x y:Addr}{p q:Int×Int}{Q:Option Nat->SortSt->Prop}(hx:Pr s.heap x p)(hy:Pr s.heap y q)
  (h:Q (some 2) (SortSt.mk' (tuples' true) (j22 x y p q) #[] 7 none)):wpS (model prog w) A E s (countRun' 0 2) Q (SortSt.mk' (tuples' true) #[(.ref x,.ref x),(.ref y,.ref y)] #[] 7 none):=by
 rw [countRun0_eq];refine wpS_bind ?_;unfold ascLoop;refine wpS_mono (wpS_forRange (I:=fun i c st=>st=SortSt.mk' (tuples' true) #[(.ref x,.ref x),(.ref y,.ref y)] #[] 7 none/\c=(none,i)/\(i=2->lexLt q p=false))
  (Q:=fun c st=>st=SortSt.mk' (tuples' true) #[(.ref x,.ref x),(.ref y,.ref y)] #[] 7 none/\((c=(none,1)/\lexLt q p=true)\/(c=(none,2)/\lexLt q p=false))) ?_ ?_ ⟨rfl,rfl,fun h=>by cases h⟩) ?_
 ·rintro i c st h1 h2 ⟨rfl,rfl,hI⟩;have e:i=1:=by omega
  subst e;refine wpS_bind (wp_at rfl rfl rfl hy hx ?_)
  dsimp only
  cases hb:lexLt q p with
  | true=>
   rw [if_pos rfl];exact wpS_pure ⟨rfl,.inl ⟨rfl,rfl⟩⟩
  | false=>
   rw [if_neg Al];exact wpS_pure ⟨rfl,rfl,fun _=>rfl⟩
 ·rintro c st ⟨rfl,rfl,hI⟩;exact⟨rfl,.inr ⟨rfl,hI rfl⟩⟩
 ·rintro c st ⟨rfl,⟨rfl,hb⟩ | ⟨rfl,hb⟩⟩
  ·dsimp only
   rw [if_neg (by decide),if_neg (by decide)];unfold descPart;refine wpS_bind (wpS_lift (wpAny_rule ⟨rfl,?_⟩));unfold descLoop;refine wpS_bind (wpS_mono (wpS_forRange (I:=fun i c st=>c=(none,2,0)/\st=SortSt.mk' (tuples' true) #[(.ref x,.ref x),(.ref y,.ref y)] #[] 7 none) (Q:=fun c st=>c=(none,2,0)/\st=SortSt.mk' (tuples' true) #[(.ref x,.ref x),(.ref y,.ref y)] #[] 7 none) (fun i c st h1 h2 _=>by omega) (fun c st h=>h) ⟨rfl,rfl⟩) ?_);rintro c st ⟨rfl,rfl⟩
   dsimp only
   rw [if_neg (by decide)];unfold tail3;refine wpS_bind (wpS_reverse ?_);unfold ascLoop;refine wpS_bind (wpS_mono (wpS_forRange (I:=fun i c st=>c=(none,2)/\st=SortSt.mk' (tuples' true) #[(.ref y,.ref y),(.ref x,.ref x)] #[] 7 none) (Q:=fun c st=>c=(none,2)/\st=SortSt.mk' (tuples' true) #[(.ref y,.ref y),(.ref x,.ref x)] #[] 7 none) (fun i c st h1 h2 _=>by omega) (fun c st h=>h) ⟨rfl,rfl⟩) ?_);rintro c st ⟨rfl,rfl⟩
   dsimp only
   refine wpS_pure ?_;unfold j22 at h;rw [if_pos hb] at h;exact h
  ·dsimp only
   rw [if_pos (by decide)];refine wpS_pure ?_;unfold j22 at h;rw [if_neg (by rw [hb];exact Al)] at h;exact h
theorem q26{x y:Addr}{p q:Int×Int}{Q:Unit->SortSt->Prop}(hx:Pr s.heap x p)(hy:Pr s.heap y q)(h:∀ st,arrOf st=j22 x y p q->failedOf st=none->Q () st) :
  wpS (model prog w) A E s sortRuns' Q (SortSt.mk' (tuples' true) #[(.ref x,.ref x),(.ref y,.ref y)] #[] 7 none):=by
 rw [sortRuns'_eq];refine wpS_bind (wpS_get ?_)
 dsimp only
 have hmr:minRun' 2 2 0=2:=by rw [minRun'_succ,if_pos (by decide)]
 show wpS _ _ _ _ ((forIn [0:2] _ _) >>= _) _ _;have sz:(#[(Value.ref x,Value.ref x),(Value.ref y,Value.ref y)]:Array Keyed).size=2:=rfl;refine wpS_bind (wpS_mono (wpS_forRange (I:=fun i c st=>(i=0/\c=(none,0)/\st=SortSt.mk' (tuples' true) #[(.ref x,.ref x),(.ref y,.ref y)] #[] 7 none)\/(1<=i/\c=(none,2)/\st=SortSt.mk' (tuples' true) (j22 x y p q) #[(0,2,0)] 7 none))
  (Q:=fun c st=>c=(none,2)/\st=SortSt.mk' (tuples' true) (j22 x y p q) #[(0,2,0)] 7 none) ?_ ?_ (.inl ⟨rfl,rfl,rfl⟩)) ?_)
 ·rintro i c st h1 h2 (⟨rfl,rfl,rfl⟩ | ⟨hi,rfl,rfl⟩)
  ·dsimp only
   rw [if_neg (by show ¬(0>=2);decide)];refine wpS_bind ?_;show wpS _ _ _ _ (countRun' 0 2) _ _;refine k8j hx hy ?_
   dsimp only
   rw [if_neg (by show ¬(2 < minRun' 2 2 0);rw [hmr];decide)];refine wpS_bind (wpS_get ?_);show wpS _ _ _ _ (modify _ >>= _) _ _;exact wpS_bind (wpS_modify (wpS_pure (.inr ⟨Ah _,rfl,rfl⟩)))
  ·dsimp only
   rw [if_pos (by show 2>=2;decide)];exact wpS_pure ⟨rfl,rfl⟩
 ·rintro c st (⟨h1,_,_⟩ | ⟨_,hc,hs⟩)
  ·exact absurd h1 (by decide)
  ·exact⟨hc,hs⟩
 ·rintro c st ⟨rfl,rfl⟩
  dsimp only
  refine wpS_bind (wpS_mono (wpS_forRange (I:=fun _ c st=>st=SortSt.mk' (tuples' true) (j22 x y p q) #[(0,2,0)] 7 none/\c=(none,())) (Q:=fun c st=>st=SortSt.mk' (tuples' true) (j22 x y p q) #[(0,2,0)] 7 none/\c=(none,())) ?_ (fun _ _ hh=>hh) ⟨rfl,rfl⟩) ?_)
  ·rintro i c st _ _ ⟨rfl,rfl⟩;refine wpS_bind (wpS_get ?_);rw [if_pos (by show 1<=1;decide)];exact wpS_pure ⟨rfl,rfl⟩
  ·rintro c st ⟨rfl,rfl⟩;exact wpS_pure (h _ rfl rfl)
theorem k78{a x y:Addr}{p q:Int×Int}{n:Nat}{P:Fin->Shared->Prop}(ho:s.heap.get? a=some (seqObj "list" #[.ref x,.ref y] n))(hax:a≠x)(hay:a≠y)(hx:Pr s.heap x p)(hy:Pr s.heap y q)
  (h:P (.done (.ret .none)) {s with heap:=sortedHeap s.heap a [.ref x,.ref y] (if lexLt p q then #[.ref y,.ref x] else #[.ref x,.ref y])}) :
  wpAny (model prog w) A (Builtin.«list.sort» ⟨[.ref a],[(Str.ofString "reverse",.bool true)]⟩) P E s:=by
 rw [list_sort_rev];have ha:a < s.heap.objs.size:=Aj ho;refine wpAny_bind (listItems_at ho rfl ?_);refine wpAny_bind (listUpdate_at ho rfl ?_);obtain⟨e1,ho1⟩:∃ e1,(s.heap.update a (Obj.mapSeq fun _=>#[])).get? a=some (seqObj "list" #[] e1):=⟨_,get?_update_seq ho (fun _=>#[])⟩;refine wpAny_bind (seqEpoch_at ho1 rfl ?_);refine wpAny_bind (wpAny_newTuple ?_);refine wpAny_bind (wpAny_newList ?_);refine wpAny_holding ?_;have ho6:(((s.heap.update a (Obj.mapSeq fun _=>#[])).push (seqObj "tuple" [Value.ref x,Value.ref y].toArray 0)).push (seqObj "list" #[] 0)).get? a=some (seqObj "list" #[] e1):=
  Ae _ (Ae _ ho1)
 show wpAny (model prog w) A _ P E {s with heap:=((s.heap.update a (Obj.mapSeq fun _=>#[])).push (seqObj "tuple" [Value.ref x,Value.ref y].toArray 0)).push (seqObj "list" #[] 0)};have keep:∀ z r,a≠z->Pr s.heap z r->Pr (((s.heap.update a (Obj.mapSeq fun _=>#[])).push (seqObj "tuple" [Value.ref x,Value.ref y].toArray 0)).push (seqObj "list" #[] 0)) z r:=by
  rintro z r hz ⟨o,m,t,u,q1,q2⟩;exact⟨o,m,t,u,Ae _ (Ae _ ((Bz _ _ hz).trans q1)),q2⟩
 have kx:=keep x p hax hx;have ky:=keep y q hay hy
 dsimp only
 rw [if_pos rfl];refine wpAny_bind (wpAny_rule ?_);rw [if_neg (by show ¬(2 < 2);decide)];refine wpAny_bind (q3v kx ky ?_);rw [if_neg (by show ¬(2 < 2);decide)];have e2:(if true=true then((#[Value.ref x,Value.ref y]:Array Value).zip #[Value.ref x,Value.ref y]).reverse else(#[Value.ref x,Value.ref y]:Array Value).zip #[Value.ref x,Value.ref y])=#[(Value.ref y,Value.ref y),(Value.ref x,Value.ref x)]:=by
  rw [if_pos rfl];simp
 rw [e2];refine wpAny_bind (wpAny_mono (q26 (Q:=fun _ st=>arrOf st=j22 y x q p/\failedOf st=none) ky kx fun st h1 h2=>⟨h1,h2⟩) ?_ fun _ _ e=>e);rintro ⟨⟨⟩,st'⟩ s' ⟨rfl,hs,hf⟩
 dsimp only
 have e3:(if true=true then((arrOf st').map (·.2)).reverse else(arrOf st').map (·.2))=(if lexLt p q then #[.ref y,.ref x] else #[.ref x,.ref y]):=by
  rw [if_pos rfl,hs];unfold j22
  split <;> simp
 refine wpAny_bind (seqEpoch_at ho6 rfl ?_);refine wpAny_bind (listUpdate_at ho6 rfl ?_ (hsz2:=by rw [e3];split <;> exact sz2));rw [hf];simp only [bne_self_eq_false,Ax,if_false];refine wpAny_pure ?_;have e4:(fun _:Array Value=>if True then((arrOf st').map (·.2)).reverse else(arrOf st').map (·.2))=fun _=>(if lexLt p q then #[.ref y,.ref x] else #[.ref x,.ref y]):=by
  funext _
  rw [if_pos trivial];rw [if_pos rfl] at e3;exact e3
 rw [e4];exact h
theorem k0g{l x y:Addr}{p q:Int×Int}{Q:Value->Shared->Prop}(hl:s.heap.IsList l #[.ref x,.ref y])(hx:Pr s.heap x p)(hy:Pr s.heap y q)
  (h:∀(h':Heap) (e:Nat),(∀ b u,s.heap.get? b=some u->h'.get? b=some u)->h'.get? (s.heap.objs.size+1)=some (seqObj "list" (if lexLt p q then #[.ref y,.ref x] else #[.ref x,.ref y]) e)->Q (.ref (s.heap.objs.size+1)) {s with heap:=h'}) :
  wpAny (model prog w) A (call (.builtin "sorted") [.ref l] [(Str.ofString "reverse",.bool true)]) Q E s:=by
 refine call_function_entry_kw kind_sorted plain_sorted entry_sorted (args_sorted_rev _ _) ?_;unfold Builtin.«sorted»;refine wpAny_bind (m:=checkCount "sorted" 1 1 _) (wpAny_pure ?_);refine wpAny_bind (collect_list (vs:=[.ref x,.ref y]) hl ?_);refine wpAny_bind (wpAny_newList ?_);have hsz:((s.heap.push (seqObj "list" #[] 0)).update s.heap.objs.size (Obj.mapSeq (·++[Value.ref x,Value.ref y].toArray))).objs.size=s.heap.objs.size+1:=by
  rw [Heap.size_update,size_push']
 have hoL:(((s.heap.push (seqObj "list" #[] 0)).update s.heap.objs.size (Obj.mapSeq (·++[Value.ref x,Value.ref y].toArray))).push (seqObj "list" [Value.ref x,Value.ref y].toArray 0)).get? (s.heap.objs.size+1)=some (seqObj "list" [Value.ref x,Value.ref y].toArray 0):=by
  rw [<- hsz];exact Am _ rfl
 have lx:x < s.heap.objs.size:=let ⟨_,_,_,_,e,_⟩:=hx;Aj e
 have ly:y < s.heap.objs.size:=let ⟨_,_,_,_,e,_⟩:=hy;Aj e
 have keep:∀ z r,Pr s.heap z r->Pr (((s.heap.push (seqObj "list" #[] 0)).update s.heap.objs.size (Obj.mapSeq (·++[Value.ref x,Value.ref y].toArray))).push (seqObj "list" [Value.ref x,Value.ref y].toArray 0)) z r:=by
  rintro z r ⟨o,m,t,u,q1,q2⟩;have hz:=Aj q1;exact⟨o,m,t,u,Ae _ ((Bz _ _ (Ci hz)).trans (Ae _ q1)),q2⟩
 show wpAny _ _ _ _ _ {s with heap:=((s.heap.push (seqObj "list" #[] 0)).update s.heap.objs.size (Obj.mapSeq (·++[Value.ref x,Value.ref y].toArray))).push (seqObj "list" [Value.ref x,Value.ref y].toArray 0)};rw [hsz];refine wpAny_bind (wpAny_holding (wpAny_call_entry_kw slot_list_sort ⟨_,hoL,rfl⟩ entry_list_sort (k78 hoL (Ci (Ca lx)) (Ci (Ca ly)) (keep x p hx) (keep y q hy) ⟨_,rfl,?_⟩) (args_list_sort_rev _ _)));obtain⟨e,he⟩:=sortedAll_at s.heap [Value.ref x,Value.ref y] (if lexLt p q then #[.ref y,.ref x] else #[.ref x,.ref y]);exact wpAny_pure ⟨_,rfl,h _ e (fun b u hb=>sortedAll_old hb) he⟩
end
end Sort2
namespace L2
open PySem PySem.Spec PyProof.Rows Sort2
section
variable{X:Cx}{e:Expr}{σ:St}{H:Hp}{Q:VK}{pos p kp cp:Pos}{j:Nat}
theorem q5r{pins:List (Addr×Obj)}{s:Shared}{a:Addr}{i j:Int}(I:Inv X pins σ H s)(h:H a=some (.tup [.int i,.int j])):Pr s.heap a (i,j):=by
 obtain⟨its,r,pl,_⟩:=I.tuple (SqT.of h);obtain⟨u,v,rfl,⟨t,rfl⟩,⟨t',rfl⟩⟩:=vals2 r;obtain⟨o,ho,hc,n,hd⟩:=pl;exact⟨o,n,t,t',ho,hc,hd⟩
theorem k20(hm:X.mg "sorted" = none) (h:Ev X e σ H fun v H1=>∃ l x y a b c d,v = .ref l/\H1 l=some (.lst [.ref x,.ref y])/\H1 x=some (.tup [.int a,.int b])/\H1 y=some (.tup [.int c,.int d]) /\
   ∀ r,H1 r=none->Q (.ref r) (upd H1 r (.lst (if lexLt (a,b) (c,d) then [.ref y,.ref x] else [.ref x,.ref y])))) (hg:Gl X "sorted":=by rfl)
  (he:backTo pos (starEach [e] X.env)=(false,eval e X.env) :: backTo pos (starEach [] X.env):=by rfl) (hplain:(backTo pos (starEach [e] X.env)).any (·.1)=false:=by rfl) (hst:isStar e=false:=by rfl) :
  Ev X (.Call (.Name "sorted" p) [e] [⟨some "reverse",.Constant (.bool true) j cp,kp⟩] pos) σ H Q:=by
 refine⟨fun pins s I=>?_⟩;refine wpAny_Call_Name_kw (j44 I hg hm PyProof.Rows.boot_sorted ?_);have hE:Ea X [e] σ H fun vs H1=>∃ l x y a b c d,vs=[.ref l]/\H1 l=some (.lst [.ref x,.ref y])/\H1 x=some (.tup [.int a,.int b])/\H1 y=some (.tup [.int c,.int d]) /\
   ∀ r,H1 r=none->Q (.ref r) (upd H1 r (.lst (if lexLt (a,b) (c,d) then [.ref y,.ref x] else [.ref x,.ref y]))):=
  j0a (h.mono fun v H1 ⟨l,x,y,a,b,c,d,e1,r1⟩=>j0c ⟨l,x,y,a,b,c,d,by rw [e1],r1⟩) hst
 refine callWith_kw (thn (hE.run pos pins s I) fun us s1 ⟨vs,H1,I1,r1,l,x,y,a,b,c,d,ev,hl,hx,hy,q⟩=>?_) he hplain;subst ev;obtain⟨u,rfl,ru⟩:=vals1 r1;cases (show u=Value.ref l from ru);refine kws_cons (wpAny_pure (kws_nil ?_));obtain⟨its,r2,pl,_⟩:=I1.list (SqL.of hl);obtain⟨u,v,rfl,ru,rv⟩:=vals2 r2;cases (show u=Value.ref x from ru);cases (show v=Value.ref y from rv);refine k0g pl.isList (q5r I1 hx) (q5r I1 hy) fun h' e kp he=>?_;refine⟨.ref _,_,I1.laid' (s':={s1 with heap:=h'}) kp rfl rfl (Dv _) (show ObjOk X.prog X.w _ h' _ (.lst (if lexLt (a,b) (c,d) then [.ref y,.ref x] else [.ref x,.ref y])) from ?_),rfl,q _ (I1.hok.fresh (Dv _))⟩
 split at he
 ·rename_i hb;rw [if_pos hb];exact⟨by show 2<=sizeLine;rw [sizeLine_eq];decide,[.ref y,.ref x],e,.cons rfl (.cons rfl .nil),he⟩
 ·rename_i hb;rw [if_neg hb];exact⟨by show 2<=sizeLine;rw [sizeLine_eq];decide,[.ref x,.ref y],e,.cons rfl (.cons rfl .nil),he⟩
end
end L2
namespace Nt
open PySem
abbrev Net:=List (Str×List Str)
abbrev End:=Nat×Nat
def row(n:Net)(r:Nat):List Str:=((n[r]?).map (·.2)).getD []
def j1d(n:Net)(e:End):Option Str:=(row n e.1)[e.2]?
def j0m(r:Nat)(ts:List Str)(p:Nat):List (Str×End):=(ts.zipIdx p).map fun x=>(x.1,(r,x.2))
def j07(r:Nat):Net->List (Str×End)
 | []=>[]
 | a :: n=>j0m r a.2 0++j07 (r+1) n
def j01(n:Net):List (Str×End):=j07 0 n
def ends(n:Net):List End:=(j01 n).map (·.2)
def ties(n:Net):List Str:=n.flatMap (·.2)
def pos(n:Net)(z:Str):List End:=((j01 n).filter fun x=>decide (x.1=z)).map (·.2)
theorem mem_rowSeats{r:Nat}{ts:List Str}{p:Nat}{z:Str}{e:End}:(z,e)∈j0m r ts p↔e.1=r/\p<=e.2/\ts[e.2 - p]?=some z:=by
 unfold j0m;rw [Ak]
 constructor
 ·rintro ⟨⟨y,k⟩,hm,he⟩;cases he;have:=Er.mp hm;exact⟨rfl,this.1,this.2⟩
 ·rintro ⟨h1,h2,h3⟩;refine⟨(z,e.2),Er.mpr ⟨h2,h3⟩,?_⟩;rw [<- h1]
theorem mem_seatsFrom:∀{n:Net} {k:Nat} {z:Str} {e:End},(z,e)∈j07 k n↔k<=e.1/\(row n (e.1 - k))[e.2]?=some z
 | [],k,z,e=>by
  constructor
  ·intro h;cases h
  ·rintro ⟨_,h⟩;simp [row] at h
 | a :: n,k,z,e=>by
  unfold j07;rw [At,mem_rowSeats,mem_seatsFrom]
  constructor
  ·rintro (⟨h1,_,h3⟩ | ⟨h1,h2⟩)
   ·refine⟨by omega,?_⟩;rw [show e.1 - k=0 by omega]
    simpa [row] using h3
   ·refine⟨by omega,?_⟩;rw [show e.1 - k=(e.1 - (k+1))+1 by omega]
    simpa [row] using h2
  ·rintro ⟨h1,h2⟩
   rcases Cj k e.1 with h | h
   ·refine .inr ⟨h,?_⟩;rw [show e.1 - k=(e.1 - (k+1))+1 by omega] at h2
    simpa [row] using h2
   ·refine .inl ⟨by omega,Bn _,?_⟩;rw [show e.1 - k=0 by omega] at h2
    simpa [row] using h2
theorem mem_seats{n:Net}{z:Str}{e:End}:(z,e)∈j01 n↔j1d n e=some z:=by
 unfold j01 j1d;rw [mem_seatsFrom];simp
theorem mem_ends{n:Net}{e:End}:e∈ends n↔∃ z,j1d n e=some z:=by
 unfold ends;rw [Ak]
 constructor
 ·rintro ⟨⟨z,e'⟩,h,rfl⟩;exact⟨z,mem_seats.mp h⟩
 ·rintro ⟨z,h⟩;exact⟨(z,e),mem_seats.mpr h,rfl⟩
theorem mem_pos{n:Net}{z:Str}{e:End}:e∈pos n z↔j1d n e=some z:=by
 unfold pos;rw [Ak]
 constructor
 ·rintro ⟨⟨y,e'⟩,h,rfl⟩;rw [Cf,decide_eq_true_eq] at h;obtain⟨h1,h2⟩:=h;subst h2;exact mem_seats.mp h1
 ·intro h;exact⟨(z,e),Cf.mpr ⟨mem_seats.mpr h,by simp⟩,rfl⟩
theorem j5x(r:Nat):∀(ts:List Str) (p:Nat),(j0m r ts p).map (·.1)=ts:=by
 intro ts p;unfold j0m;rw [Cb];have:((fun x:Str×End=>x.1) ∘ fun x:Str×Nat=>(x.1,(r,x.2)))=Prod.fst:=rfl;rw [this,List.zipIdx_map_fst]
theorem j1m:∀(n:Net) (k:Nat),(j07 k n).map (·.1)=ties n
 | [],_=>rfl
 | a :: n,k=>by
  unfold j07 ties;rw [Ai,j5x,j1m n (k+1),Dy];rfl
theorem j6w(r:Nat)(ts:List Str)(p:Nat):((j0m r ts p).map (·.2)).Nodup:=by
 unfold j0m;rw [Cb];have e:((fun x:Str×End=>x.2) ∘ fun x:Str×Nat=>(x.1,(r,x.2)))=(fun k:Nat=>(r,k)) ∘ Prod.snd:=rfl;rw [e,<- Cb,List.zipIdx_map_snd];refine List.Pairwise.map _ (R:=(·≠·)) ?_ List.nodup_range';intro a b h hab;exact h (Prod.mk.inj hab).2
theorem j3j:∀(n:Net) (k:Nat),((j07 k n).map (·.2)).Nodup
 | [],_=>Cs
 | a :: n,k=>by
  unfold j07;rw [Ai,Cy];refine⟨j6w _ _ _,j3j n (k+1),?_⟩;intro x hx y hy e;subst e;obtain⟨⟨z,e1⟩,h1,rfl⟩:=Ak.mp hx;obtain⟨⟨z2,e2⟩,h2,he⟩:=Ak.mp hy;simp only at he;subst he;have q1:=(mem_rowSeats.mp h1).1;have q2:=(mem_seatsFrom.mp h2).1;omega
theorem j61(n:Net):(ends n).Nodup:=j3j n 0
theorem j8i(n:Net)(z:Str):(pos n z).Nodup:=by
 unfold pos;exact(j61 n).sublist (List.Sublist.map _ (List.filter_sublist))
theorem j5z(n:Net)(z:Str):(pos n z).length=(ties n).count z:=by
 unfold pos;rw [Aa,<- j1m n 0,<- List.countP_eq_length_filter,List.count,List.countP_map];rfl
def j04(n:Net):Prop:=∀ z∈ties n,(ties n).count z=2
theorem j3h{n:Net}{e:End}{z:Str}(h:j1d n e=some z):z∈ties n:=by
 have:=mem_seats.mpr h;rw [<- j1m n 0];exact Ak.mpr ⟨_,this,rfl⟩
def other(n:Net)(e:End):End:=match j1d n e with
 | some z=>(match pos n z with
  | [a,b]=>if a=e then b else a
  | _=>e)
 | none=>e
theorem j5u{n:Net}(T:j04 n){e:End}{z:Str}(h:j1d n e=some z):∃ a b,pos n z=[a,b]/\a≠b/\(e=a\/e=b):=by
 have hl:=j5z n z;rw [T z (j3h h)] at hl;have hn:=j8i n z;have hm:=mem_pos.mpr h
 match hp:pos n z,hl with
 | [a,b],_=>
  rw [hp] at hn hm;refine⟨a,b,rfl,?_,?_⟩
  ·intro e;subst e;simp at hn
  ·simpa using hm
theorem j2p{n:Net}(T:j04 n){e:End}{z:Str}(h:j1d n e=some z):j1d n (other n e)=some z/\other n (other n e)=e/\other n e≠e:=by
 obtain⟨a,b,hp,hab,he⟩:=j5u T h;have ha:j1d n a=some z:=mem_pos.mp (by rw [hp];simp);have hb:j1d n b=some z:=mem_pos.mp (by rw [hp];simp)
 rcases he with rfl | rfl
 ·have e1:other n e=b:=by unfold other;simp only [h,hp];simp
  have e2:other n b=e:=by unfold other;simp only [hb,hp];simp [hab]
  rw [e1];exact⟨hb,e2,hab.symm⟩
 ·have e1:other n e=a:=by unfold other;simp only [h,hp];simp [hab]
  have e2:other n a=e:=by unfold other;simp only [ha,hp];simp
  rw [e1];exact⟨ha,e2,hab⟩
def left(n:Net)(e:End):End:=(e.1,(e.2+1) % (row n e.1).length)
def step(n:Net)(e:End):End:=left n (other n e)
theorem j46{n:Net}{e:End}{z:Str}(h:j1d n e=some z):e.2 < (row n e.1).length:=(Ac.mp h).1
theorem j2a{n:Net}{e:End}{z:Str}(h:j1d n e=some z):e.1 < n.length:=by
 rcases Cj e.1 n.length with c | c
 ·exact c
 ·have:=j46 h;unfold row at this;rw [Cv c] at this;simp at this
theorem q0p{n:Net}{e:End}(h:e.2 < (row n e.1).length):∃ z,j1d n e=some z:=⟨_,Ab h⟩
theorem k7q{n:Net}{e:End}(h:e∈ends n):left n e∈ends n:=by
 obtain⟨z,h⟩:=mem_ends.mp h;have:=j46 h;exact mem_ends.mpr (q0p (show(e.2+1) % (row n e.1).length < (row n e.1).length from Fp _ (by omega)))
theorem j26{n:Net}(T:j04 n){e:End}(h:e∈ends n):other n e∈ends n:=by
 obtain⟨z,h⟩:=mem_ends.mp h;exact mem_ends.mpr ⟨z,(j2p T h).1⟩
theorem j4n{n:Net}(T:j04 n){e:End}(h:e∈ends n):step n e∈ends n:=k7q (j26 T h)
theorem k7i{n:Net}{a b:End}(ha:a∈ends n)(hb:b∈ends n)(h:left n a=left n b):a=b:=by
 obtain⟨z,ha⟩:=mem_ends.mp ha;obtain⟨y,hb⟩:=mem_ends.mp hb;have la:=j46 ha;have lb:=j46 hb;unfold left at h;obtain⟨h1,h2⟩:=Prod.mk.inj h;rw [h1] at la h2;have:a.2=b.2:=by
  rcases Cj (a.2+1) (row n b.1).length with c | c <;> rcases Cj (b.2+1) (row n b.1).length with d | d
  ·rw [Fr c,Fr d] at h2;omega
  ·have e:b.2+1=(row n b.1).length:=by omega
   rw [Fr c,e,Nat.mod_self] at h2;omega
  ·have e:a.2+1=(row n b.1).length:=by omega
   rw [Fr d,e,Nat.mod_self] at h2;omega
  ·omega
 exact Prod.ext h1 this
theorem k6f{n:Net}(T:j04 n){a b:End}(ha:a∈ends n)(hb:b∈ends n)(h:other n a=other n b):a=b:=by
 obtain⟨z,ha⟩:=mem_ends.mp ha;obtain⟨y,hb⟩:=mem_ends.mp hb;rw [<- (j2p T ha).2.1,h,(j2p T hb).2.1]
theorem k1x{n:Net}(T:j04 n){a b:End}(ha:a∈ends n)(hb:b∈ends n)(h:step n a=step n b):a=b:=
 k6f T ha hb (k7i (j26 T ha) (j26 T hb) h)
theorem nodup_le{α:Type} [DecidableEq α]:∀{a b:List α},a.Nodup->(∀ z∈a,z∈b)->a.length<=b.length
 | [],b,_,_=>Bn _
 | x :: r,b,hn,hs=>by
  rw [Cp] at hn;have hx:=hs x Au;have:=nodup_le (a:=r) (b:=b.erase x) hn.2 fun z hz=>by
   have hne:z≠x:=fun e=>hn.1 (e ▸ hz);exact(Es hne).mpr (hs z (Ao _ hz))
  rw [Ed hx] at this;have hp:0 < b.length:=Fk hx;rw [An];omega
def it{α:Type}(f:α->α):Nat->α->α
 | 0,a=>a
 | k+1,a=>f (it f k a)
theorem j6a{α:Type}{f:α->α}{S:List α}(hf:∀ a∈S,f a∈S){a:α}(h:a∈S):∀ k,it f k a∈S
 | 0=>h
 | k+1=>hf _ (j6a hf h k)
theorem j68{α:Type} [DecidableEq α] {f:α->α} {S:List α} (hf:∀ a∈S,f a∈S) (inj:∀ a∈S,∀ b∈S,f a=f b->a=b) {a:α} (h:a∈S):∃ k,0 < k/\k<=S.length/\it f k a=a:=by
 have cancel:∀ i j,it f i a=it f (i+j) a->it f j a=a:=by
  intro i
  induction i with
  | zero=>intro j e;rw [Fy] at e;exact e.symm
  | succ i ih=>
   intro j e;refine ih j ?_;rw [show i+1+j=(i+j)+1 by omega] at e;exact inj _ (j6a hf h i) _ (j6a hf h (i+j)) e
 refine Classical.byContradiction fun hn=>?_;have nd:((List.range (S.length+1)).map fun i=>it f i a).Nodup:=by
  refine List.Pairwise.map _ (R:=fun i j=>i < j/\j < S.length+1) ?_ ?_
  ·rintro i j ⟨h1,h2⟩ e;refine hn ⟨j - i,by omega,by omega,cancel i (j - i) ?_⟩;rw [show i+(j - i)=j by omega];exact e
  ·rw [Bf];intro i j hi hj hij;simp only [Du];simp at hj;exact⟨hij,hj⟩
 have:=nodup_le nd fun z hz=>by
  obtain⟨i,_,rfl⟩:=Ak.mp hz;exact j6a hf h i
 simp at this;omega
theorem j28:∀(n:Net) (r:Nat),(row n r).length<=(ties n).length
 | [],r=>by simp [row,ties]
 | a :: n,0=>by simp [row,ties]
 | a :: n,r+1=>by
  have:=j28 n r;simp [row,ties] at this ⊢;omega
theorem j48:∀(n:Net) (r:Nat),(ties (n.take r)).length<=(ties n).length
 | [],r=>by simp [ties]
 | a :: n,0=>by simp [ties]
 | a :: n,r+1=>by
  have:=j48 n r;simp [ties] at this ⊢;omega
structure IsFace(n:Net)(e:Nt.End)(fs:List End):Prop where
 pos:0 < fs.length
 len:fs.length<=(ends n).length
 at':∀ i,i < fs.length->fs[i]?=some (it (step n) i e)
 back:it (step n) fs.length e=e
 first:∀ i,0 < i->i < fs.length->it (step n) i e≠e
end Nt
namespace Nt
open PySem L2
abbrev Ls(zs:List Str):HO:= .lst (zs.map V.str)
abbrev Tp(e:End):HO:= .tup [.int e.1,.int e.2]
structure RowsAt(H:Hp)(R:Addr)(as:List (Addr×Addr))(n:Net):Prop where
 len:as.length=n.length
 lst:H R=some (.lst (as.map fun a=> .ref a.1))
 tup:∀(i:Nat) a r,as[i]?=some a->n[i]?=some r->H a.1=some (.tup [.str r.1,.ref a.2])/\H a.2=some (Ls r.2)
 inj:(as.map (·.2)).Nodup
theorem RowsAt.same{H H':Hp}{R:Addr}{as:List (Addr×Addr)}{n:Net}(h:RowsAt H R as n)(s:Same H H'):RowsAt H' R as n:=
 ⟨h.len,s _ _ h.lst,fun i a r h1 h2=>⟨s _ _ (h.tup i a r h1 h2).1,s _ _ (h.tup i a r h1 h2).2⟩,h.inj⟩
theorem RowsAt.at{H:Hp}{R:Addr}{as:List (Addr×Addr)}{n:Net}(h:RowsAt H R as n){i:Nat}(hi:i < n.length) :
  ∃ a,as[i]?=some a/\atI (as.map fun a=>V.ref a.1) (i:Int)=some (.ref a.1)/\H a.1=some (.tup [.str n[i].1,.ref a.2])/\H a.2=some (Ls (row n i))/\row n i=n[i].2:=by
 have hl:=h.len;have e:as[i]?=some as[i]:=Ab (by omega);have er:row n i=n[i].2:=by unfold row;rw [Ab hi];rfl
 have q:=h.tup i as[i] n[i] e (Ab hi);refine⟨as[i],e,j4q (by rw [Ad,e];rfl),q.1,?_,er⟩;rw [er];exact q.2
theorem j40{zs:List Str}{j:Nat}{z:Str}(h:zs[j]?=some z):atI (zs.map V.str) (j:Int)=some (.str z):=j4q (by rw [Ad,h];rfl)
inductive Pd (H:Hp):List Addr->List End->Prop where
 | nil:Pd H [] []
 | cons {t:Addr} {e:End} {ts:List Addr} {es:List End}:H t=some (Tp e)->Pd H ts es->Pd H (t :: ts) (e :: es)
theorem Pd.append{H:Hp}{ts us:List Addr}{es fs:List End}(h:Pd H ts es)(g:Pd H us fs):Pd H (ts++us) (es++fs):=by
 induction h with
 | nil=>exact g
 | cons h1 _ ih=>exact .cons h1 ih
theorem Pd.keep{H H':Hp}{ts:List Addr}{es:List End}(h:Pd H ts es)(k:∀ t e,H t=some (Tp e)->H' t=some (Tp e)):Pd H' ts es:=by
 induction h with
 | nil=>exact .nil
 | cons h1 _ ih=>exact .cons (k _ _ h1) ih
theorem Pd.length{H:Hp}{ts:List Addr}{es:List End}(h:Pd H ts es):ts.length=es.length:=by
 induction h with
 | nil=>rfl
 | cons _ _ ih=>rw [An,An,ih]
theorem Pd.at{H:Hp}{ts:List Addr}{es:List End}(h:Pd H ts es):∀{i:Nat} {e:End},es[i]?=some e->∃ t,ts[i]?=some t/\H t=some (Tp e):=by
 induction h with
 | nil=>intro i e h;simp at h
 | cons h1 _ ih=>
  intro i e h;cases i with
  | zero=>simp at h;subst h;exact⟨_,rfl,h1⟩
  | succ i=>simp only [List.getElem?_cons_succ] at h ⊢;exact ih h
def j1l(done:List (Str×End))(z:Str):List End:=(done.filter fun x=>decide (x.1=z)).map (·.2)
theorem j0o(done:List (Str×End))(y z:Str)(e:End):j1l (done++[(y,e)]) z=j1l done z++(if y=z then [e] else []):=by
 unfold j1l;rw [Cd,Ai]
 congr 1
 by_cases h:y=z
 ·rw [if_pos h];simp [h]
 ·rw [if_neg h];simp [h]
structure SeatsOn(H0 H:Hp)(d:Addr)(done:List (Str×End))(kvs:List (Key×V))(ks:List Str)(A:Str->Option (Addr×List Addr)):Prop where
 same:Same H0 H
 free:H0 d=none
 dict:H d=some (.dK kvs)
 keys:kvs.map (·.1)=ks.map Sum.inr
 nodup:ks.Nodup
 mem:∀ z,z∈ks↔(A z).isSome=true
 val:∀ z,valV kvs (Sum.inr z)=(A z).map fun a=> .ref a.1
 at':∀ z a ts,A z=some (a,ts)->H0 a=none/\a≠d/\H a=some (.lst (ts.map V.ref))/\Pd H ts (j1l done z)
 inj:∀ z y a ts us,A z=some (a,ts)->A y=some (a,us)->z=y
 none':∀ z,A z=none->j1l done z=[]
 some':∀ z a ts,A z=some (a,ts)->j1l done z≠[]
theorem SeatsOn.start{H:Hp}{d:Addr}(h:H d=none):SeatsOn H (upd H d (.dK [])) d [] [] [] (fun _=>none) where
 same:=fun b u q=>by rw [j0d (j0f q h)];exact q
 free:=h
 dict:=j0b
 keys:=rfl
 nodup:=Cs
 mem:=fun z=>by simp
 val:=fun z=>rfl
 at':=fun z a ts h=>by cases h
 inj:=fun z y a ts us h=>by cases h
 none':=fun z _=>rfl
 some':=fun z a ts h=>by cases h
theorem j27{H:Hp}{t a:Addr}{e:End}{xs:List V}(h:H t=some (Tp e))(g:H a=some (.lst xs)):t≠a:=j1s h g fun z=>nomatch z
theorem SeatsOn.old{H0 H:Hp}{d:Addr}{done:List (Str×End)}{kvs:List (Key×V)}{ks:List Str}{A:Str->Option (Addr×List Addr)}(S:SeatsOn H0 H d done kvs ks A){z:Str}{e:End}{a l0 t:Addr}{ts:List Addr}
  (hA:A z=some (a,ts)) (hl:H l0=none) (ht:(upd H l0 (.lst [])) t=none) :
  SeatsOn H0 (upd (upd (upd H l0 (.lst [])) t (Tp e)) a (.lst (ts.map V.ref++[.ref t]))) d (done++[(z,e)]) kvs ks (fun y=>if y=z then some (a,ts++[t]) else A y):=by
 obtain⟨q1,q2,q3,q4⟩:=S.at' z a ts hA;have htH:H t=none:=by
  by_cases c:t=l0
  ·rw [c,j0b] at ht;cases ht
  ·rwa [j0d c] at ht
 have hla:l0≠a:=(j0f q3 hl).symm;have hta:t≠a:=(j0f q3 htH).symm;have hat:a≠t:=hta.symm;have keep:∀ b u,b≠a->H b=some u->(upd (upd (upd H l0 (.lst [])) t (Tp e)) a (.lst (ts.map V.ref++[.ref t]))) b=some u:=fun b u h1 h2=>by
  rw [j0d h1,j0d (j0f h2 htH),j0d (j0f h2 hl)];exact h2
 have kt:∀ b f,H b=some (Tp f)->(upd (upd (upd H l0 (.lst [])) t (Tp e)) a (.lst (ts.map V.ref++[.ref t]))) b=some (Tp f):=fun b f h=>keep b _ (j27 h q3) h;have et:(upd (upd (upd H l0 (.lst [])) t (Tp e)) a (.lst (ts.map V.ref++[.ref t]))) t=some (Tp e):=by rw [j0d hta,j0b]
 refine⟨fun b u h=>?_,S.free,keep d _ (Ne.symm q2) S.dict,S.keys,S.nodup,fun y=>?_,fun y=>?_,fun y a' ts' h=>?_,fun y y' a' ts' us h1 h2=>?_,fun y h=>?_,fun y a' ts' h=>?_⟩
 ·exact keep b u (j0f h q1) (S.same _ _ h)
 ·rw [S.mem y]
  by_cases c:y=z
  ·rw [if_pos c,c,hA];simp
  ·rw [if_neg c]
 ·rw [S.val y]
  by_cases c:y=z
  ·rw [if_pos c,c,hA];rfl
  ·rw [if_neg c]
 ·by_cases c:y=z
  ·rw [if_pos c] at h;cases h;refine⟨q1,q2,by rw [j0b,Ai];rfl,?_⟩;rw [j0o,c,if_pos rfl];exact(q4.keep kt).append (.cons et .nil)
  ·rw [if_neg c] at h;obtain⟨r1,r2,r3,r4⟩:=S.at' y a' ts' h;have hne:a'≠a:=fun e2=>c (S.inj y z a ts' ts (e2 ▸ h) hA);refine⟨r1,r2,keep _ _ hne r3,?_⟩;rw [j0o,if_neg (fun h=>c h.symm),Ba];exact r4.keep kt
 ·by_cases c:y=z <;> by_cases c':y'=z
  ·rw [c,c']
  ·rw [if_pos c] at h1;rw [if_neg c'] at h2;cases h1;exact absurd (S.inj y' z a us ts h2 hA) c'
  ·rw [if_neg c] at h1;rw [if_pos c'] at h2;cases h2;exact absurd (S.inj y z a ts' ts h1 hA) c
  ·rw [if_neg c] at h1;rw [if_neg c'] at h2;exact S.inj y y' a' ts' us h1 h2
 ·by_cases c:y=z
  ·rw [if_pos c] at h;cases h
  ·rw [if_neg c] at h;rw [j0o,if_neg (fun h=>c h.symm),Ba];exact S.none' y h
 ·by_cases c:y=z
  ·rw [j0o,if_pos c.symm];simp
  ·rw [if_neg c] at h;rw [j0o,if_neg (fun h=>c h.symm),Ba];exact S.some' y a' ts' h
theorem SeatsOn.new{H0 H:Hp}{d:Addr}{done:List (Str×End)}{kvs:List (Key×V)}{ks:List Str}{A:Str->Option (Addr×List Addr)}(S:SeatsOn H0 H d done kvs ks A){z:Str}{e:End}{l0 t:Addr}
  (hA:A z=none) (hl:H l0=none) (ht:(upd (upd H l0 (.lst [])) d (.dK (putK kvs (Sum.inr z) (.ref l0)))) t=none) :
  SeatsOn H0 (upd (upd (upd (upd H l0 (.lst [])) d (.dK (putK kvs (Sum.inr z) (.ref l0)))) t (Tp e)) l0 (.lst [.ref t])) d (done++[(z,e)]) (putK kvs (Sum.inr z) (.ref l0)) (ks++[z]) (fun y=>if y=z then some (l0,[t]) else A y):=by
 have hdl:d≠l0:=j0f S.dict hl;have htd:t≠d:=fun c=>by rw [c,j0b] at ht;cases ht
 have htl:t≠l0:=fun c=>by rw [j0d htd,c,j0b] at ht;cases ht
 have htH:H t=none:=by rwa [j0d htd,j0d htl] at ht
 have vn:valV kvs (Sum.inr z)=none:=by rw [S.val z,hA];rfl
 have keep:∀ b u,b≠d->H b=some u->(upd (upd (upd (upd H l0 (.lst [])) d (.dK (putK kvs (Sum.inr z) (.ref l0)))) t (Tp e)) l0 (.lst [.ref t])) b=some u:=fun b u h1 h2=>by
  rw [j0d (j0f h2 hl),j0d (j0f h2 htH),j0d h1,j0d (j0f h2 hl)];exact h2
 have kt:∀ b f,H b=some (Tp f)->(upd (upd (upd (upd H l0 (.lst [])) d (.dK (putK kvs (Sum.inr z) (.ref l0)))) t (Tp e)) l0 (.lst [.ref t])) b=some (Tp f):=fun b f h=>keep b _ (j1s h S.dict fun z=>nomatch z) h;have h0l:H0 l0=none:=S.same.free hl;have zk:z∉ks:=fun h=>by
  have:=(S.mem z).mp h;rw [hA] at this;cases this
 refine⟨fun b u h=>?_,S.free,?_,?_,?_,fun y=>?_,fun y=>?_,fun y a' ts' h=>?_,fun y y' a' ts' us h1 h2=>?_,fun y h=>?_,fun y a' ts' h=>?_⟩
 ·exact keep b u (j0f h S.free) (S.same _ _ h)
 ·rw [j0d hdl,j0d htd.symm,j0b]
 ·rw [k07 _ vn,Ai,S.keys,Ai];rfl
 ·rw [Cy];exact⟨S.nodup,by simp,fun x hx y hy e=>by rw [Ag] at hy;subst hy e;exact zk hx⟩
 ·rw [At,Ag,S.mem y]
  by_cases c:y=z
  ·rw [if_pos c];simp [c]
  ·rw [if_neg c];simp [c]
 ·rw [j03]
  by_cases c:y=z
  ·rw [if_pos (by rw [c]),if_pos c];rfl
  ·rw [if_neg (fun h=>c (Sum.inr.inj h)),if_neg c,S.val y]
 ·by_cases c:y=z
  ·rw [if_pos c] at h;cases h;refine⟨h0l,hdl.symm,by rw [j0b];rfl,?_⟩;rw [j0o,c,if_pos rfl,S.none' z hA];exact .cons (by rw [j0d htl,j0b]) .nil
  ·rw [if_neg c] at h;obtain⟨r1,r2,r3,r4⟩:=S.at' y a' ts' h;refine⟨r1,r2,keep _ _ r2 r3,?_⟩;rw [j0o,if_neg (fun h=>c h.symm),Ba];exact r4.keep kt
 ·by_cases c:y=z <;> by_cases c':y'=z
  ·rw [c,c']
  ·rw [if_pos c] at h1;rw [if_neg c'] at h2;cases h1;exact absurd hl (by rw [(S.at' y' l0 us h2).2.2.1];exact fun h=>nomatch h)
  ·rw [if_neg c] at h1;rw [if_pos c'] at h2;cases h2;exact absurd hl (by rw [(S.at' y l0 ts' h1).2.2.1];exact fun h=>nomatch h)
  ·rw [if_neg c] at h1;rw [if_neg c'] at h2;exact S.inj y y' a' ts' us h1 h2
 ·by_cases c:y=z
  ·rw [if_pos c] at h;cases h
  ·rw [if_neg c] at h;rw [j0o,if_neg (fun h=>c h.symm),Ba];exact S.none' y h
 ·by_cases c:y=z
  ·rw [j0o,if_pos c.symm];simp
  ·rw [if_neg c] at h;rw [j0o,if_neg (fun h=>c h.symm),Ba];exact S.some' y a' ts' h
theorem j2j:∀(n m:Net) (k:Nat),j07 k (n++m)=j07 k n++j07 (k+n.length) m
 | [],m,k=>rfl
 | a :: n,m,k=>by
  show j0m k a.2 0++j07 (k+1) (n++m)=(j0m k a.2 0++j07 (k+1) n)++j07 (k+(n.length+1)) m;rw [j2j n m (k+1),Bm,show k+1+n.length=k+(n.length+1) by omega]
theorem j23{n:Net}{r:Nat}(h:r < n.length):j01 (n.take (r+1))=j01 (n.take r)++j0m r (row n r) 0:=by
 unfold j01;rw [Bt,Ab h,j2j];have e:(n.take r).length=r:=by rw [Bh];omega
 rw [e,Fy];have er:row n r=n[r].2:=by unfold row;rw [Ab h];rfl
 rw [er];show _++(j0m r n[r].2 0++[])=_;rw [Ba]
theorem j14{r:Nat}{ts:List Str}{p:Nat}{z:Str}(h:ts[p]?=some z):j0m r (ts.take (p+1)) 0=j0m r (ts.take p) 0++[(z,(r,p))]:=by
 unfold j0m;have hp:=(Ac.mp h).1;rw [Bt,h,List.zipIdx_append,Ai];have e:(ts.take p).length=p:=by rw [Bh];omega
 rw [e,Fy];rfl
structure SeatsAt(H:Hp)(d:Addr)(n:Net)(ks:List Str):Prop where
 dict:∃ kvs,H d=some (.dK kvs)/\kvs.map (·.1)=ks.map Sum.inr/\∀ z∈ties n,∃ a ts,valV kvs (Sum.inr z)=some (.ref a)/\H a=some (.lst (ts.map V.ref))/\Pd H ts (pos n z)
 nodup:ks.Nodup
 mem:∀ z,z∈ks↔z∈ties n
theorem SeatsAt.same{H H':Hp}{d:Addr}{n:Net}{ks:List Str}(S:SeatsAt H d n ks)(s:Same H H'):SeatsAt H' d n ks:=by
 obtain⟨kvs,h1,h2,h3⟩:=S.dict;refine⟨⟨kvs,s _ _ h1,h2,fun z hz=>?_⟩,S.nodup,S.mem⟩;obtain⟨a,ts,q1,q2,q3⟩:=h3 z hz;exact⟨a,ts,q1,s _ _ q2,q3.keep fun t e h=>s _ _ h⟩
theorem k89{n:Net}{z:Str}:z∈ties n↔pos n z≠[]:=by
 rw [<- Fi,<- j5z,Co]
theorem SeatsOn.whole{H0 H:Hp}{d:Addr}{n:Net}{kvs:List (Key×V)}{ks:List Str}{A:Str->Option (Addr×List Addr)}(S:SeatsOn H0 H d (j01 n) kvs ks A):SeatsAt H d n ks:=by
 have mem:∀ z,z∈ks↔z∈ties n:=fun z=>by
  rw [S.mem z,k89];cases h:A z with
  | none=>simp;exact S.none' z h
  | some p=>
   obtain⟨a,ts⟩:=p;simp;exact S.some' z a ts h
 refine⟨⟨kvs,S.dict,S.keys,fun z hz=>?_⟩,S.nodup,mem⟩;have:=(S.mem z).mp ((mem z).mpr hz);cases h:A z with
 | none=>rw [h] at this;cases this
 | some p=>
  obtain⟨a,ts⟩:=p;obtain⟨q1,q2,q3,q4⟩:=S.at' z a ts h;exact⟨a,ts,by rw [S.val z,h];rfl,q3,q4⟩
theorem all2(e:Nat->Bool):(List.range 2).all e=(e 0 && e 1):=by
 show(([0,1]:List Nat).all e)=_;simp
theorem k50(x y:End):(eqV (.int x.1) (.int y.1) && eqV (.int x.2) (.int y.2))=decide (x=y):=by
 obtain⟨a,b⟩:=x;obtain⟨c,d⟩:=y
 by_cases h:a=c <;> by_cases h2:b=d
 ·subst h h2;simp [eqV]
 ·have:¬(b:Int)=(d:Int):=fun e=>h2 (by omega);simp [eqV,h2,this]
 ·have:¬(a:Int)=(c:Int):=fun e=>h (by omega);simp [eqV,h,this]
 ·have:¬(a:Int)=(c:Int):=fun e=>h (by omega);simp [eqV,h,this]
section
variable{X:Cx}{H:Hp}{s t:Addr}{x y:End}
theorem k97:∀(j:Nat) (u v:V),[V.int x.1,.int x.2][j]?=some u->[V.int y.1,.int y.2][j]?=some v->EqD X H 0 u v (if j=0 then eqV (.int x.1) (.int y.1) else eqV (.int x.2) (.int y.2))
 | 0,u,v,h1,h2=>by
  cases h1;cases h2;exact j4e rfl rfl
 | 1,u,v,h1,h2=>by
  cases h1;cases h2;exact j4e rfl rfl
 | j+2,u,v,h1,h2=>by simp at h1
theorem q5o(hs:H s=some (Tp x))(ht:H t=some (Tp y)):RcD X H 1 (.ref s) (.ref t) (decide (x=y)):=by
 have:=k5f (X:=X) (k:=0) (fun j=>if j=0 then eqV (.int x.1) (.int y.1) else eqV (.int x.2) (.int y.2)) (SqT.of hs) (SqT.of ht) rfl k97;rw [show([V.int (x.1:Int),.int x.2].length)=2 from rfl,all2] at this;have e:=k50 x y;simp only [if_true] at this;rw [if_neg (by decide),e] at this;exact this
theorem q4y(hs:H s=some (Tp x))(ht:H t=some (Tp y)):RnD X H 1 (.ref s) (.ref t) (decide (x=y)):=by
 have:=k5h (X:=X) (k:=0) (fun j=>if j=0 then eqV (.int x.1) (.int y.1) else eqV (.int x.2) (.int y.2)) (SqT.of hs) (SqT.of ht) rfl k97;rw [show([V.int (x.1:Int),.int x.2].length)=2 from rfl,all2] at this;have e:=k50 x y;simp only [if_true] at this;rw [if_neg (by decide),e] at this;exact this
end
end Nt
namespace Nt
open PySem L2
abbrev lets:Str:= "abcdefghijklmnopqrstuvwxyz0123456789"
theorem k1u:lets.cps.toList.length=36:=by decide +kernel
theorem k3c:lets.cps.toList.Nodup:=by decide +kernel
def sgn(i:Int):Nat:=(atI lets.cps.toList (i % 36)).getD 0
theorem k5l(i:Int):atI lets.cps.toList (i % 36)=some (sgn i):=by
 have h0:0<=i % 36:=Bo _ (by decide);have h1:i % 36 < 36:=Br _ (by decide);have hj:(i % 36).toNat < lets.cps.toList.length:=by rw [k1u];omega
 have q:=j4q (xs:=lets.cps.toList) (j:=(i % 36).toNat) (v:=lets.cps.toList[(i % 36).toNat]) (by simp [hj]);rw [show(((i % 36).toNat:Nat):Int)=i % 36 by omega] at q;unfold sgn;rw [q];rfl
theorem k64{i j:Int}(h:sgn i=sgn j):i % 36=j % 36:=by
 have key:∀ k:Int,lets.cps.toList[(k % 36).toNat]?=some (sgn k):=fun k=>by
  have h0:0<=k % 36:=Bo _ (by decide);have h1:k % 36 < 36:=Br _ (by decide);have hj:(k % 36).toNat < lets.cps.toList.length:=by rw [k1u];omega
  have q:=j4q (xs:=lets.cps.toList) (j:=(k % 36).toNat) (v:=lets.cps.toList[(k % 36).toNat]) (by simp [hj]);rw [show(((k % 36).toNat:Nat):Int)=k % 36 by omega,k5l] at q;rw [Ab hj,Option.some.inj q]
 have hi:=key i;have hj:=key j;rw [h] at hi;obtain⟨l1,e1⟩:=Ac.mp hi;obtain⟨l2,e2⟩:=Ac.mp hj;have:=(Fo (xs:=lets.cps.toList) (h₀:=l1) (h₁:=l2) k3c).mp (e1.trans e2.symm);have a0:0<=i % 36:=Bo _ (by decide);have b0:0<=j % 36:=Bo _ (by decide);omega
def turn(b:Int)(sp:Int)(v k:Nat):Int:=b / 64+(k:Int) * (b / 7 % 5)+(if(k:Int)=sp then(v:Int) else 0)
def nm(b sp:Int)(v:Nat):Nat->Str
 | 0=>⟨#[]⟩
 | k+1=>nm b sp v k++⟨#[sgn (turn b sp v k)]⟩
theorem app_list(x y:Str):(x++y).cps.toList=x.cps.toList++y.cps.toList:=by
 show(x.cps++y.cps).toList=_;simp
theorem j5q(b sp:Int)(v:Nat):∀ k,(nm b sp v k).cps.toList=(List.range k).map fun j=>sgn (turn b sp v j)
 | 0=>rfl
 | k+1=>by
  show(nm b sp v k++⟨#[sgn (turn b sp v k)]⟩).cps.toList=_;rw [app_list,j5q b sp v k,Db,Ai];rfl
theorem q5h{b sp:Int}{u v k:Nat}(hu:u < 36)(hv:v < 36)(h0:0<=sp)(h1:sp < (k:Int))(h:nm b sp u k=nm b sp v k):u=v:=by
 have e:(nm b sp u k).cps.toList=(nm b sp v k).cps.toList:=by rw [h]
 rw [j5q,j5q] at e;have hk:sp.toNat < k:=by omega
 have q:((List.range k).map fun j=>sgn (turn b sp u j))[sp.toNat]?=((List.range k).map fun j=>sgn (turn b sp v j))[sp.toNat]?:=by rw [e]
 rw [Ad,Ad,Ee hk] at q;have q2:sgn (turn b sp u sp.toNat)=sgn (turn b sp v sp.toNat):=Option.some.inj q;have q3:=k64 q2;unfold turn at q3;rw [show((sp.toNat:Nat):Int)=sp by omega,if_pos rfl,if_pos rfl] at q3;omega
theorem fold_list(c:Nat):∀(k:Nat) (acc:Array Nat),((List.replicate k (#[c]:Array Nat)).foldl (·++·) acc).toList=acc.toList++List.replicate k c
 | 0,acc=>by simp
 | k+1,acc=>by
  rw [List.replicate_succ,Dh,fold_list c k,List.replicate_succ];simp
theorem mul_list(c:Nat){i:Int}(h:1<=i):(Txt.mul ⟨#[c]⟩ i).cps.toList=List.replicate i.toNat c:=by
 unfold Txt.mul;rw [if_neg (by omega)]
 by_cases e:i=1
 ·subst e;rfl
 ·have e1:(i == 1 || (⟨#[c]⟩:Str).length == 0)=false:=by
   have:(i == 1)=false:=by simpa using e
   rw [this];rfl
  rw [e1];simp only [Ax,if_false];have:=fold_list c i.toNat #[]
  simpa using this
def nameOf(b:Int)(v:Nat):Str:=if b % 3=2 then Txt.mul ⟨#[sgn (b / 64+(v:Int) / 8)]⟩ (1+(v:Int) % 8) else nm b (b / 8 % (1+b % 8)) v (1+b % 8).toNat
theorem k2n{b:Int}{u v:Nat}(hu:u < 36)(hv:v < 36)(h:nameOf b u=nameOf b v):u=v:=by
 have s0:0<=b % 8:=Bo _ (by decide);unfold nameOf at h
 by_cases c:b % 3=2
 ·rw [if_pos c,if_pos c] at h;have u0:0<=(u:Int) % 8:=Bo _ (by decide);have v0:0<=(v:Int) % 8:=Bo _ (by decide);have e:(Txt.mul ⟨#[sgn (b / 64+(u:Int) / 8)]⟩ (1+(u:Int) % 8)).cps.toList=(Txt.mul ⟨#[sgn (b / 64+(v:Int) / 8)]⟩ (1+(v:Int) % 8)).cps.toList:=by rw [h]
  rw [mul_list _ (by omega),mul_list _ (by omega)] at e;have l:=congrArg List.length e;rw [Dl,Dl] at l;have hd:(List.replicate (1+(u:Int) % 8).toNat (sgn (b / 64+(u:Int) / 8)))[0]?=(List.replicate (1+(v:Int) % 8).toNat (sgn (b / 64+(v:Int) / 8)))[0]?:=by rw [e]
  rw [Dp,Dp,if_pos (by omega),if_pos (by omega)] at hd;have q:=k64 (Option.some.inj hd);omega
 ·rw [if_neg c,if_neg c] at h;refine q5h hu hv (Bo _ (by omega)) ?_ h;have:=Br (b / 8) (show 0 < 1+b % 8 by omega);omega
def namesOf(b:Int)(m:Nat):List Str:=(List.range m).map (nameOf b)
theorem j2m{b:Int}{m:Nat}(h:m<=36):(namesOf b m).Nodup:=by
 unfold namesOf;refine List.Pairwise.map _ (R:=fun i j=>i < j/\j < m) ?_ ?_
 ·rintro i j ⟨h1,h2⟩ e;have:=k2n (by omega) (by omega) e;omega
 ·rw [Bf];intro i j hi hj hij;simp only [Du];simp at hj;exact⟨hij,hj⟩
theorem j2x(b:Int)(m:Nat):namesOf b (m+1)=namesOf b m++[nameOf b m]:=by
 unfold namesOf;rw [Db,Ai];rfl
theorem j4a(b:Int)(m:Nat):(namesOf b m).length=m:=by unfold namesOf;simp
theorem k2k{b:Int}{m i:Nat}(h:i < m):(namesOf b m)[i]?=some (nameOf b i):=by
 unfold namesOf;rw [Ad,Ee h];rfl
end Nt
namespace Nt
open PySem L2
def Short(n:Net):Prop:=(∀ z∈ties n,z.length<=8)/\∀ p∈n.map (·.1),p.length<=8
theorem len_list(z:Str):z.length=z.cps.toList.length:=rfl
theorem k2u(b:Int)(v:Nat):(nameOf b v).length<=8:=by
 unfold nameOf;have h0:0<=(v:Int) % 8:=Bo _ (by decide);have h1:(v:Int) % 8 < 8:=Br _ (by decide);have h2:b % 8 < 8:=Br _ (by decide)
 split
 ·rw [len_list,mul_list _ (by omega),Dl];omega
 ·rw [len_list,j5q,Aa,Cw];omega
theorem j5v{b:Int}{m:Nat}{z:Str}(h:z∈namesOf b m):z.length<=8:=by
 unfold namesOf at h;obtain⟨v,_,rfl⟩:=Ak.mp h;exact k2u b v
end Nt
namespace R4
open PySem L2
def top(i:Nat):Stmt:=PySem.Challenge.pw_threewebs_k74_there_and_back.main.body.getD i (.Pass ⟨0,0,0,0⟩)
abbrev k75:Stmt:=top 10
abbrev k1q:Stmt:=top 11
abbrev q1l:Stmt:=top 12
abbrev k0h:Stmt:=top 13
abbrev sLS:Stmt:=top 14
abbrev k5m:Stmt:=top 16
abbrev k4x:Stmt:=top 17
abbrev j3u:Stmt:=top 21
abbrev j1w:Stmt:=top 23
abbrev j2r:Stmt:=top 24
abbrev j4l:Stmt:=top 25
abbrev j4w:Stmt:=top 26
abbrev j53:Stmt:=top 27
abbrev k38:Stmt:=top 28
abbrev k0r:Stmt:=top 29
abbrev k59:Stmt:=top 32
abbrev j7r:Stmt:=top 33
abbrev j1y:Stmt:=top 34
abbrev j4o:Stmt:=top 35
abbrev j8c:Stmt:=top 36
abbrev j1z:Stmt:=top 37
abbrev j79:Stmt:=top 38
abbrev j3b:Stmt:=top 39
abbrev j12:Stmt:=top 40
abbrev j2k:Stmt:=top 41
abbrev j36:Stmt:=top 42
abbrev q1h:Stmt:=top 44
abbrev sBig:Stmt:=top 45
abbrev k55:Stmt:=top 46
abbrev k4p:Stmt:=top 47
abbrev k4g:Stmt:=top 48
abbrev q3e:Stmt:=top 49
abbrev q00:Stmt:=top 50
abbrev sPut:Stmt:=top 51
abbrev sNet:Stmt:=top 52
abbrev k9v:Stmt:=top 53
abbrev j7v:Stmt:=top 54
abbrev j7z:Stmt:=top 55
abbrev sLaw:Stmt:=top 56
structure Txt(mg:Str->Option Value):Prop where
 isi:mg "isinstance" = none
 ttuple:mg "tuple" = none
 tstr:mg "str" = none
 tint:mg "int" = none
 tbool:mg "bool" = none
 tlist:mg "list" = none
 tdict:mg "dict" = none
 tset:mg "set" = none
 enum:mg "enumerate" = none
 zip:mg "zip" = none
 len:mg "len" = none
 range:mg "range" = none
 sorted:mg "sorted" = none
 max:mg "max" = none
 all:mg "all" = none
 any:mg "any" = none
 signs:∃ u,mg "SIGNS" = some u/\RelV (.str Nt.lets) u
 most:∃ u,mg "LONGEST" = some u/\RelV (.int 8) u
 forty:∃ u,mg "MOST_TIES" = some u/\RelV (.int 40) u
end R4
namespace R4
open PySem L2 Nt Sort2
theorem small{n:Nat}(h:n<=100000):n<=sizeLine:=by rw [sizeLine_eq];omega
theorem j00{n:Nat}(h:n<=100000):n < sizeLine:=by rw [sizeLine_eq];omega
theorem j0e{H:Hp}{p:Addr}(h:H p=none)(o:HO):Same H (upd H p o):=fun b u q=>by rw [j0d (j0f q h)];exact q
theorem j02{H1 H2:Hp}{r:Addr}{o:HO}(s:Same H1 H2)(h:H1 r=none):Same H1 (upd H2 r o):=fun b u q=>by
 rw [j0d (j0f q h)];exact s _ _ q
theorem len_app(x y:Str):(x++y).length=x.length+y.length:=by
 show(x.cps++y.cps).size=x.cps.size+y.cps.size;exact Array.size_append ..
theorem q0a{H:Hp}{l:Addr}{zs:List Str}{y:Str}:upd H l (.lst (zs.map V.str++[V.str y]))=upd H l (Ls (zs++[y])):=by
 show _=upd H l (.lst ((zs++[y]).map V.str));rw [Ai];rfl
def k1h(K:PySem.W.Frag):Sp:=fun vs H Q _=>∃(a:Addr) (ns:List Int) (k:Int),vs=[.ref a,.int k]/\SqL K H a (ns.map V.int)/\0<=k/\∀ i,Q (.int i) H
def q13(K:PySem.W.Frag):Sp:=fun vs H Q _=>∃(a:Addr) (ns:List Int) (k:Int),vs=[.ref a,.int k]/\SqL K H a (ns.map V.int)/\0<=k/\∀ i H',Same H H'->Q (.int i) H'
def k03:Sp:=fun vs H Q _=>∃(b m:Int),vs=[.int b,.int m]/\0<=m/\m<=36/\∀ l H',Same H H'->H l=none->H' l=some (Ls (namesOf b m.toNat))->Q (.ref l) H'
def j7u:Sp:=fun vs H Q _=>∃(R:Addr) (as:List (Addr×Addr)) (n:Net),vs=[.ref R]/\RowsAt H R as n/\n.length<=1000/\(ties n).length<=1000/\∀ d ks H',Same H H'->H d=none->SeatsAt H' d n ks->Q (.ref d) H'
def j96:Sp:=fun vs H Q _=>∃(R d t:Addr) (as:List (Addr×Addr)) (n:Net) (ks:List Str) (e:Nt.End),vs=[.ref R,.ref d,.ref t]/\RowsAt H R as n/\SeatsAt H d n ks/\j04 n/\H t=some (Tp e)/\e∈ends n/\∀ u,H u=some (Tp (other n e))->Q (.ref u) H
def k52:Sp:=fun vs H Q _=>∃(R d t:Addr) (as:List (Addr×Addr)) (n:Net) (ks:List Str) (e:Nt.End),vs=[.ref R,.ref d,.ref t,.int 1]/\RowsAt H R as n/\SeatsAt H d n ks/\j04 n/\H t=some (Tp e)/\e∈ends n/\∀ u H',Same H H'->H u=none->H' u=some (Tp (step n e))->Q (.ref u) H'
def k1p:Sp:=fun vs H Q _=>∃(R d t:Addr) (as:List (Addr×Addr)) (n:Net) (ks:List Str) (e:Nt.End),vs=[.ref R,.ref d,.ref t]/\RowsAt H R as n/\SeatsAt H d n ks/\j04 n/\H t=some (Tp e)/\e∈ends n/\(ends n).length<=1000 /\
 ∀ l ts fs H',Same H H'->H l=none->H' l=some (.lst (ts.map V.ref))->Pd H' ts fs->IsFace n e fs->Q (.ref l) H'
section
variable{P:Program}{w:World}{K:PySem.W.Frag}{mg:Str->Option Value}{base:Heap}
theorem q58:FnScope ["_law_script","_law_k"] ["_law_script","_law_k"] (j0g q1h):=⟨rfl,rfl,rfl,by decide +kernel,rfl,by decide +kernel,by decide +kernel⟩
theorem q18{ns:List Int}{k:Int}(h0:0<=k)(h1:k < (ns.length:Int)):∃ v:Int,atI (ns.map V.int) k=some (.int v):=by
 have hj:k.toNat < ns.length:=by omega
 have q:=j4q (xs:=ns.map V.int) (j:=k.toNat) (v:= .int ns[k.toNat]) (by simp [hj]);rw [show((k.toNat:Nat):Int)=k by omega] at q;exact⟨_,q⟩
theorem q2i{f:Addr}{fd:FuncData}(F:Fun K "_law_cell_at" "_law_cell_at" q1h f fd)(T:Txt mg):FnOk P w K mg base CX0 1 f fd ["_law_script","_law_k"] (k1h K):=by
 refine F.gb q58 (fun vs H Q E h=>?_) (fun b0 H vs Q E hr h=>?_)
 ·obtain⟨a,ns,k,rfl,_⟩:=h;rfl
 obtain⟨a,ns,k,rfl,hS,h0,q⟩:=h;show Run _ _ _ [some (.ref a),some (.int k)] H;refine j11 (j09 q42 (ev_v 1 (j0y j0l T.len boot_len (j0a (ev_v 0 (j0c ⟨a,_,rfl,.inl hS,_,_,rfl,rfl,_,rfl,?_⟩))))));refine ite2 (fun c=>?_) (fun c=>?_)
 ·have c':=of_decide_eq_true c;obtain⟨v,hv⟩:=q18 (ns:=ns) h0 (by rw [Aa] at c';exact c');exact j0r (j0q j0s (ev_v 0 (ev_v 1 ⟨a,_,_,.int v,rfl,rfl,hS,hv,q v⟩)))
 ·exact j0i (j0r (j0h (q 0)))
abbrev bys:List V:=[.int 48271,.int 69621,.int 16807,.int 39373,.int 21401,.int 60493,.int 87721,.int 31337]
abbrev prs:List V:=[.int 99991,.int 99989,.int 99971,.int 99961,.int 99929,.int 99923,.int 99907,.int 99901]
theorem eight{i:Int}(h0:0<=i)(h1:i < 8):i=0\/i=1\/i=2\/i=3\/i=4\/i=5\/i=6\/i=7:=by
 obtain⟨k,rfl⟩:=Int.eq_ofNat_of_zero_le h0;exact(by decide:∀ k:Fin 8,(k.1:Int)=0\/(k.1:Int)=1\/(k.1:Int)=2\/(k.1:Int)=3\/(k.1:Int)=4\/(k.1:Int)=5\/(k.1:Int)=6\/(k.1:Int)=7) ⟨k,Int.ofNat_lt.mp h1⟩
theorem q5v{i:Int}(h0:0<=i)(h1:i < 8):∃ m:Int,atI bys i=some (.int m)/\0 < m/\m < 100000:=by
 rcases eight h0 h1 with rfl | rfl | rfl | rfl | rfl | rfl | rfl | rfl <;> exact⟨_,rfl,by decide,by decide⟩
theorem q4e{i:Int}(h0:0<=i)(h1:i < 8):∃ m:Int,atI prs i=some (.int m)/\0 < m/\m < 100000:=by
 rcases eight h0 h1 with rfl | rfl | rfl | rfl | rfl | rfl | rfl | rfl <;> exact⟨_,rfl,by decide,by decide⟩
theorem scBig:FnScope ["_law_script","_law_at","_law_by","_law_prime","_law_cell","_law_big_here","_law_k","_law_one"] ["_law_script","_law_at"] (j0g sBig):=⟨rfl,rfl,rfl,by decide +kernel,rfl,by decide +kernel,by decide +kernel⟩
theorem q4c{f:Addr}{fd:FuncData}(F:Fun K "_law_big" "_law_big" sBig f fd)(T:Txt mg)(G:Has P w K mg base 1 "_law_cell_at" ["_law_script","_law_k"] (k1h K)) :
  FnOk P w K mg base CX0 2 f fd ["_law_script","_law_at"] (q13 K):=by
 refine F.gb scBig (fun vs H Q E h=>?_) (fun b0 H vs Q E hr h=>?_)
 ·obtain⟨a,ns,k,rfl,_⟩:=h;rfl
 obtain⟨a,ns,k,rfl,hS,h0,q⟩:=h;have nd:=scBig.nd;show Run _ _ _ [some (.ref a),some (.int k),none,none,none,none,none,none] H;refine j0j 2 nd (j1n (j0a (j0h (j0a (j0h (j0a (j0h (j0a (j0h (j0a (j0h (j0a (j0h (j0a (j0h (j0a (j0h (j0c ⟨(by show 8<=sizeLine;decide),fun p hp=>?_⟩))))))))))))))))));refine j0j 3 nd (j1n (j0a (j0h (j0a (j0h (j0a (j0h (j0a (j0h (j0a (j0h (j0a (j0h (j0a (j0h (j0a (j0h (j0c ⟨(by show 8<=sizeLine;decide),fun p2 hp2=>?_⟩))))))))))))))))));have npp:p≠p2:=by
  intro e;rw [<- e,j0b] at hp2;cases hp2
 have s1:Same H (upd H p (.tup bys)):=j0e hp _;have s2:Same H (upd (upd H p (.tup bys)) p2 (.tup prs)):=s1.trans (j0e hp2 _);have e1:(upd (upd H p (.tup bys)) p2 (.tup prs)) p=some (.tup bys):=by rw [j0d npp,j0b]
 have e2:(upd (upd H p (.tup bys)) p2 (.tup prs)) p2=some (.tup prs):=j0b;generalize upd (upd H p (.tup bys)) p2 (.tup prs)=H2 at s2 e1 e2 ⊢;refine j0j 4 nd (j0u G hr (j0a (ev_v 0 (j0a (ev_v 1 (j0c ⟨a,ns,k,rfl,s2.seq hS,h0,fun b=>?_⟩))))));show Run _ _ _ [some (.ref a),some (.int k),some (.ref p),some (.ref p2),some (.int b),none,none,none] H2;refine k3q True True (fun R qq=>?_) (fun _=>?_) (fun _=>j0i ?_)
 ·refine j3q (k4l (j09 j6y (j0t j1i (ev_v 4 (j0h ⟨_,_,rfl,rfl,(by show(0:Int) < 2;decide),j0h ⟨rfl,_,rfl,?_⟩⟩)))));refine ite2 (fun c=>?_) (fun c=>qq false (fun z=>nomatch z) fun _=>trivial);exact j95 (j09 q47 (ev_v 4 (j0t k48 (j0h (j0h ⟨_,_,rfl,rfl,⟨by decide,by decide,by decide⟩,_,_,rfl,rfl,_,rfl,qq _ (fun _=>trivial) fun _=>trivial⟩)))))
 ·exact j0r (j0t j2d (ev_v 4 (j0h ⟨_,_,rfl,rfl,⟨by decide,by decide⟩,q _ _ s2⟩)))
 refine j0j 5 nd (j0h ?_);refine j1q T.range (j0h ⟨60,rfl,by decide,by decide,j1j (n:=60) (fun _ σ H3=>H3=H2/\∃(x:Int) (u v:Option V),σ=[some (.ref a),some (.int k),some (.ref p),some (.ref p2),some (.int b),some (.int x),u,v]) ⟨rfl,0,_,_,rfl⟩ ?_ ?_⟩)
 ·rintro i σ H3 hi ⟨rfl,x,u,v,rfl⟩;have i9:0<=(0+(i:Int)) % 9:=Bo _ (by decide);obtain⟨m1,f1,g1,g2⟩:=q5v (i:=(0+(i:Int)) % 8) (Bo _ (by decide)) (Br _ (by decide));obtain⟨m2,f2,g3,g4⟩:=q4e (i:=(0+(i:Int)) % 8) (Bo _ (by decide)) (Br _ (by decide));refine j0k 6 nd ?_;refine j0j 7 nd (j0t j2i (j0t j2i (j0t j1i (j0u G hr (j0a (ev_v 0 (j0a (j0t j2i (ev_v 1 (j0t j1i (ev_v 6 (j0h ?_))))))))))));refine⟨_,_,rfl,rfl,(by show(0:Int) < 9;decide),_,_,rfl,rfl,j0c ⟨a,ns,_,rfl,s2.seq hS,?_,fun c=>?_⟩⟩
  ·show 0<=k+(0+(i:Int)) % 9;omega
  refine j0t k48 (j0h (j0h ⟨_,_,rfl,rfl,⟨by decide,by decide,by decide⟩,_,_,rfl,rfl,(by show(0:Int) < 10 ^ (18:Int).toNat;decide),j0h ⟨_,_,rfl,rfl,?_⟩⟩));refine j0t k1b (ev_v 6 (ev_v 6 ?_));refine⟨_,_,rfl,rfl,.inl ⟨by omega,by omega⟩,_,_,rfl,rfl,?_⟩;refine j0j 5 nd (j0t j2i (j0t k1b (ev_v 5 (j0h ⟨_,_,rfl,rfl,.inr ⟨by decide,by decide⟩,?_⟩))));refine j0t j1i (j0t j1i (j0t k1b (ev_v 7 (j0q j0x (ev_v 2 (j0t j1i (ev_v 6 (j0h ⟨_,_,rfl,rfl,(by show(0:Int) < 8;decide),p,_,_,_,rfl,rfl,SqT.of e1,f1,_,_,rfl,rfl,.inr ⟨by omega,by omega⟩,?_⟩))))))));refine j0q j0x (ev_v 3 (j0t j1i (ev_v 6 (j0h ⟨_,_,rfl,rfl,(by show(0:Int) < 8;decide),p2,_,_,_,rfl,rfl,SqT.of e2,f2,_,_,rfl,rfl,g3,j0h ⟨_,_,rfl,rfl,(by show(0:Int) < 7919;decide),_,_,rfl,rfl,?_⟩⟩))));exact j0i ⟨rfl,_,_,_,rfl⟩
 ·rintro σ H3 ⟨rfl,x,u,v,rfl⟩;exact j0r (ev_v 5 (q x _ s2))
abbrev NN:List Str:=["_law_stem","_law_many","_law_signs","_law_size","_law_spot","_law_names_here","_law_v","_law_name","_law_k","_law_turn"]
theorem scNames:FnScope NN ["_law_stem","_law_many"] (j0g k55):=⟨rfl,rfl,rfl,by decide +kernel,rfl,by decide +kernel,by decide +kernel⟩
theorem k7u{f:Addr}{fd:FuncData}(F:Fun K "_law_names" "_law_names" k55 f fd)(T:Txt mg):FnOk P w K mg base CX0 1 f fd ["_law_stem","_law_many"] k03:=by
 refine F.gb scNames (fun vs H Q E h=>?_) (fun b0 H vs Q E hr h=>?_)
 ·obtain⟨b,m,rfl,_⟩:=h;rfl
 obtain⟨b,m,rfl,m0,m1,q⟩:=h;have nd:=scNames.nd;have s0:0<=b % 8:=Bo _ (by decide);have s1:b % 8 < 8:=Br _ (by decide);show Run _ _ _ [some (.int b),some (.int m),none,none,none,none,none,none,none,none] H;refine j0j 2 nd (j25 ?_);refine j0j 3 nd (j0t j2i (j0h (j0t j1i (ev_v 0 (j0h ⟨_,_,rfl,rfl,(by show(0:Int) < 8;decide),_,_,rfl,rfl,?_⟩)))));refine j0j 4 nd (j0t j1i (j0t j2d (ev_v 0 (j0h ⟨_,_,rfl,rfl,⟨by decide,by decide⟩,ev_v 3 ⟨_,_,rfl,rfl,(by show 0 < 1+b % 8;omega),?_⟩⟩))));refine j0j 5 nd (j1h (j0c ⟨(by show 0<=sizeLine;decide),fun l hl=>?_⟩));show Run _ _ _ [some (.int b),some (.int m),some (.str lets),some (.int (1+b % 8)),some (.int (b / 8 % (1+b % 8))),some (.ref l),none,none,none,none] _;have spE:b / 8 % (1+b % 8)=b / 8 % (1+b % 8):=rfl;refine j1q T.range (ev_v 1 ⟨m,rfl,by omega,by omega,j1j (n:=m.toNat) (fun i σ H3=>H3=upd H l (Ls (namesOf b i))/\∃ u1 u2 u3 u4,σ=[some (.int b),some (.int m),some (.str lets),some (.int (1+b % 8)),some (.int (b / 8 % (1+b % 8))),some (.ref l),u1,u2,u3,u4]) ⟨rfl,_,_,_,_,rfl⟩ ?_ ?_⟩)
 ·rintro i σ H3 hi ⟨rfl,u1,u2,u3,u4,rfl⟩;refine j0k 6 nd ?_;refine j0j 7 nd (j25 ?_);refine j1q T.range (ev_v 3 ⟨_,rfl,by omega,by omega,j1j (n:=(1+b % 8).toNat) (fun j σ H4=>H4=upd H l (Ls (namesOf b i))/\∃(u3 u4:Option V),σ=[some (.int b),some (.int m),some (.str lets),some (.int (1+b % 8)),some (.int (b / 8 % (1+b % 8))),some (.ref l),some (.int (0+(i:Int))),some (.str (nm b (b / 8 % (1+b % 8)) i j)),u3,u4]) ⟨rfl,_,_,rfl⟩ ?_ ?_⟩)
  ·rintro j σ H4 hj ⟨rfl,v3,v4,rfl⟩;have t0:0<=b / 7 % 5:=Bo _ (by decide);have t1:b / 7 % 5 < 5:=Br _ (by decide);have nl:(nm b (b / 8 % (1+b % 8)) i j).length=j:=by
    have:=congrArg List.length (j5q b (b / 8 % (1+b % 8)) i j);show(nm b (b / 8 % (1+b % 8)) i j).cps.size=j
    simpa using this
   refine j0k 8 nd ?_;refine j0j 9 nd (j0t j2i (j0t j2d (ev_v 0 (j0h ⟨_,_,rfl,rfl,⟨by decide,by decide⟩,j0t k1b (ev_v 8 (j0t j1i (j0t j2d (ev_v 0 (j0h ⟨_,_,rfl,rfl,⟨by decide,by decide⟩,j0h ⟨_,_,rfl,rfl,(by show(0:Int) < 5;decide),?_⟩⟩)))))⟩))));refine⟨_,_,rfl,rfl,.inr ⟨by omega,by omega⟩,_,_,rfl,rfl,?_⟩;refine k51 ((0+(j:Int))=b / 8 % (1+b % 8)) (¬(0+(j:Int))=b / 8 % (1+b % 8)) (fun σ' H'=>H'=upd H l (Ls (namesOf b i))/\σ'=[some (.int b),some (.int m),some (.str lets),some (.int (1+b % 8)),some (.int (b / 8 % (1+b % 8))),some (.ref l),some (.int (0+(i:Int))),some (.str (nm b (b / 8 % (1+b % 8)) i j)),some (.int (0+(j:Int))),some (.int (turn b (b / 8 % (1+b % 8)) i j))]) (fun R qq=>?_) (fun hc=>?_) (fun hc=>j0i ⟨rfl,?_⟩) ?_
   ·refine j09 j6y (ev_v 8 (ev_v 4 ⟨rfl,_,rfl,?_⟩))
    by_cases hc:(0+(j:Int))=b / 8 % (1+b % 8)
    ·rw [decide_eq_true (show V.int (0+(j:Int))=V.int (b / 8 % (1+b % 8)) by rw [hc])];exact qq true (fun _=>hc) fun h=>by cases h
    ·rw [decide_eq_false fun h=>hc (V.int.inj h)];exact qq false (fun h=>by cases h) fun _=>hc
   ·refine j0j 9 nd (j0t j2i (ev_v 9 (ev_v 6 ⟨_,_,rfl,rfl,j0i ⟨rfl,?_⟩⟩)));have e:b / 64+(0+(j:Int)) * (b / 7 % 5)+(0+(i:Int))=turn b (b / 8 % (1+b % 8)) i j:=by
     unfold turn;rw [if_pos (by omega),De,De]
    rw [<- e];rfl
   ·have e:b / 64+(0+(j:Int)) * (b / 7 % 5)=turn b (b / 8 % (1+b % 8)) i j:=by
     unfold turn;rw [if_neg (by omega),De,Int.add_zero]
    rw [<- e];rfl
   ·rintro σ' H' ⟨rfl,rfl⟩;refine j0j 7 nd (j0t j4v (ev_v 7 (j0q q0h (ev_v 2 (j0t j1i (ev_v 9 (j0h ⟨_,_,rfl,rfl,(by show(0:Int) < 36;decide),lets,_,sgn (turn b (b / 8 % (1+b % 8)) i j),rfl,rfl,by decide +kernel,k5l _,_,_,rfl,rfl,small (by show(nm b (b / 8 % (1+b % 8)) i j).length+1<=100000;omega),j0i ⟨rfl,_,_,rfl⟩⟩)))))))
  ·rintro σ H4 ⟨rfl,v3,v4,rfl⟩;refine k51 (b % 3=2) (¬ b % 3=2) (fun σ' H'=>H'=upd H l (Ls (namesOf b i))/\σ'=[some (.int b),some (.int m),some (.str lets),some (.int (1+b % 8)),some (.int (b / 8 % (1+b % 8))),some (.ref l),some (.int (0+(i:Int))),some (.str (nameOf b i)),v3,v4]) (fun R qq=>?_) (fun hc=>?_) (fun hc=>j0i ⟨rfl,?_⟩) ?_
   ·refine j09 j6y (j0t j1i (ev_v 0 (j0h ⟨_,_,rfl,rfl,(by show(0:Int) < 3;decide),j0h ⟨rfl,_,rfl,?_⟩⟩)))
    by_cases hc:b % 3=2
    ·rw [decide_eq_true (show V.int (b % 3)=V.int 2 by rw [hc])];exact qq true (fun _=>hc) fun h=>by cases h
    ·rw [decide_eq_false fun h=>hc (V.int.inj h)];exact qq false (fun h=>by cases h) fun _=>hc
   ·have e0:0<=(0+(i:Int)) % 8:=Bo _ (by decide);have e1:(0+(i:Int)) % 8 < 8:=Br _ (by decide);refine j0j 7 nd (j0t q2a (j0q q0h (ev_v 2 (j0t j1i (j0t j2i (j0t j2d (ev_v 0 (j0h ⟨_,_,rfl,rfl,⟨by decide,by decide⟩,j0t j2d (ev_v 6 (j0h ⟨_,_,rfl,rfl,⟨by decide,by decide⟩,_,_,rfl,rfl,j0h ⟨_,_,rfl,rfl,(by show(0:Int) < 36;decide),lets,_,sgn (b / 64+(0+(i:Int)) / 8),rfl,rfl,by decide +kernel,k5l _,?_⟩⟩))⟩))))))));refine j0t j2i (j0h (j0t j1i (ev_v 6 (j0h ⟨_,_,rfl,rfl,(by show(0:Int) < 8;decide),_,_,rfl,rfl,?_⟩))));refine⟨_,_,rfl,rfl,by omega,by omega,?_,j0i ⟨rfl,?_⟩⟩
    ·show 1 * _<=_;omega
    ·have e:Txt.mul ⟨#[sgn (b / 64+(0+(i:Int)) / 8)]⟩ (1+(0+(i:Int)) % 8)=nameOf b i:=by
      unfold nameOf;rw [if_pos hc,De]
     rw [<- e];rfl
   ·have e:nm b (b / 8 % (1+b % 8)) i (1+b % 8).toNat=nameOf b i:=by
     unfold nameOf;rw [if_neg hc]
    rw [<- e]
   ·rintro σ' H' ⟨rfl,rfl⟩;refine j0v (j1r (ev_v 5 ⟨l,rfl,⟨_,j0b⟩,ev_v 7 ⟨_,j0b,?_,?_⟩⟩))
    ·rw [Aa,j4a];exact j00 (by omega)
    ·rw [j5t];refine j0i ⟨?_,_,_,_,_,rfl⟩;rw [j2x];exact q0a
 ·rintro σ H3 ⟨rfl,u1,u2,u3,u4,rfl⟩;exact j0r (ev_v 5 (q l _ (j0e hl _) hl j0b))
end
end R4
namespace R4
open PySem L2 Nt Sort2
section
variable{P:Program}{w:World}{K:PySem.W.Frag}{mg:Str->Option Value}{base:Heap}
theorem q66{H:Hp}{d:Addr}{kvs:List (Key×V)}(h:H d=some (.dK kvs)):tyV K "dict" (.ref d) H:=Or.inr (Or.inr (Or.inl ⟨rfl,Or.inl ⟨kvs,h⟩⟩))
abbrev NS:List Str:=["_law_rows","_law_seats_here","_law_r","_law_place"]
theorem scSeats:FnScope NS ["_law_rows"] (j0g k4p):=⟨rfl,rfl,rfl,by decide +kernel,rfl,by decide +kernel,by decide +kernel⟩
theorem k9u{f:Addr}{fd:FuncData}(F:Fun K "_law_seats" "_law_seats" k4p f fd)(T:Txt mg):FnOk P w K mg base CX0 1 f fd ["_law_rows"] j7u:=by
 refine F.gb scSeats (fun vs H Q E h=>?_) (fun b0 H vs Q E hr h=>?_)
 ·obtain⟨R,as,n,rfl,_⟩:=h;rfl
 obtain⟨R,as,n,rfl,hR,hn,ht,q⟩:=h;have nd:=scSeats.nd;have hal:=hR.len;show Run _ _ _ [some (.ref R),none,none,none] H;refine j0j 1 nd (j5g fun d hd=>?_);refine j1q T.range (j0y j0l T.len boot_len (j0a (ev_v 0 (j0c ⟨R,_,rfl,.inl (SqL.of (j0e hd _ _ _ hR.lst)),_,rfl,by omega,by rw [Aa];omega,?_⟩))));rw [Aa,hal,Bd];refine j1j (fun r σ H3=>∃ kvs ks A u1 u2,SeatsOn H H3 d (j01 (n.take r)) kvs ks A/\σ=[some (.ref R),some (.ref d),u1,u2]) ⟨_,_,_,_,_,SeatsOn.start hd,rfl⟩ ?_ ?_
 ·rintro r σ H3 hi ⟨kvs,ks,A',u1,u2,S,rfl⟩;rw [De];refine j0k 2 nd ?_;obtain⟨a,ea,eat,et,el,er⟩:=(hR.same S.same).at hi;refine j1q T.range (j0y j0l T.len boot_len (j0a (j0q j0x (j0q j0s (ev_v 0 (ev_v 2 ⟨R,_,_,.ref a.1,rfl,rfl,SqL.of (S.same _ _ hR.lst),eat,j0h ⟨a.1,_,_,.ref a.2,rfl,rfl,SqT.of et,rfl,j0c ⟨a.2,_,rfl,.inl (SqL.of el),_,rfl,by omega,?_,?_⟩⟩⟩))))))
  ·have:(row n r).length<=1000:=by
    have h1:(row n r).length<=(ties n).length:=by
     exact j28 n r
    omega
   rw [Aa];omega
  rw [Aa,Bd];refine j1j (fun p σ H4=>∃ kvs ks A u2,SeatsOn H H4 d (j01 (n.take r)++j0m r ((row n r).take p) 0) kvs ks A/\σ=[some (.ref R),some (.ref d),some (.int (r:Int)),u2]) ⟨kvs,ks,A',_,by simpa [j0m] using S,rfl⟩ ?_ ?_
  ·rintro p σ H4 hp ⟨kvs,ks,A',u2,S,rfl⟩;rw [De];refine j0k 3 nd ?_;obtain⟨a,ea,eat,et,el,er⟩:=(hR.same S.same).at hi;have hz:(row n r)[p]?=some (row n r)[p]:=Ab hp;generalize (row n r)[p]=z at hz;have next:j01 (n.take r)++j0m r ((row n r).take (p+1)) 0=(j01 (n.take r)++j0m r ((row n r).take p) 0)++[(z,(r,p))]:=by
    rw [j14 hz,Bm]
   have hlen:kvs.length < sizeLine:=by
    have h1:ks.length<=1000:=by
     refine Bv (nodup_le (b:=ties n) S.nodup fun y hy=>?_) ht;have h2:=(S.mem y).mp hy;cases hA:A' y with
     | none=>rw [hA] at h2;cases h2
     | some pr=>
      obtain⟨a2,ts2⟩:=pr;have h3:=S.some' y a2 ts2 hA;unfold j1l at h3;obtain⟨x,hx⟩:=List.exists_mem_of_ne_nil _ h3;obtain⟨⟨y2,e2⟩,hm,_⟩:=Ak.mp hx;rw [Cf,decide_eq_true_eq] at hm;obtain⟨hm,rfl⟩:=hm;have:(y2,e2)∈j01 n:=by
       rcases At.mp hm with hm | hm
       ·have q1:=mem_seats.mp hm;refine mem_seats.mpr ?_;have q2:=j2a q1;unfold j1d row at q1 ⊢;rw [Bh] at q2;rwa [Fb (by omega)] at q1
       ·have q1:=mem_rowSeats.mp hm;refine mem_seats.mpr ?_;unfold j1d;rw [q1.1];have q3:=q1.2.2;rw [Nat.sub_zero] at q3;have q4:=(Ac.mp q3).1;rw [Bh] at q4;rwa [Fb (by omega)] at q3
      exact j3h (mem_seats.mp this)
    have h2:=congrArg List.length S.keys;rw [Aa,Aa] at h2;exact j00 (by omega)
   refine j0v (j1r (k79 PySem.F.plainAttrs_dict PySem.F.slot_dict_setdefault PySem.F.type_dict_setdefault k5n (ev_v 1 ⟨q66 S.dict,j0q j0s (j0q j0x (j0q j0s (ev_v 0 (ev_v 2 ⟨R,_,_,.ref a.1,rfl,rfl,SqL.of (S.same _ _ hR.lst),eat,j0h ⟨a.1,_,_,.ref a.2,rfl,rfl,SqT.of et,rfl,ev_v 3 ⟨a.2,_,_,.str z,rfl,rfl,SqL.of el,j40 hz,?_⟩⟩⟩))))⟩)));refine j1h (j0c ⟨(by show 0<=sizeLine;decide),fun l0 hl0=>?_⟩);have hdl:d≠l0:=j0f S.dict hl0;refine⟨d,kvs,Sum.inr z,.ref l0,rfl,rfl,by rw [j0d hdl];exact S.dict,hlen,?_⟩;cases hA:A' z with
   | some pr=>
    obtain⟨a2,ts2⟩:=pr;obtain⟨q1,q2,q3,q4⟩:=S.at' z a2 ts2 hA;have hla:a2≠l0:=j0f q3 hl0;refine .inl ⟨.ref a2,by rw [S.val z,hA];rfl,a2,rfl,⟨_,by rw [j0d hla];exact q3⟩,?_⟩;refine j1n (j0a (ev_v 2 (j0a (ev_v 3 (j0c ⟨(by show 2<=sizeLine;decide),fun t ht2=>?_⟩)))));have hta:a2≠t:=fun e=>by rw [<- e,j0d hla,q3] at ht2;cases ht2
    refine⟨ts2.map V.ref,by rw [j0d hta,j0d hla];exact q3,?_,?_⟩
    ·rw [Aa,q4.length];have h1:(j1l (j01 (n.take r)++j0m r ((row n r).take p) 0) z).length<=100000:=by
      unfold j1l;rw [Aa];refine Bv (Ch _ _) ?_;rw [Af];have h2:(j01 (n.take r)).length<=1000:=by
       have:=congrArg List.length (j1m (n.take r) 0);rw [Aa] at this;unfold j01;rw [this];exact Bv (j48 n r) ht
      have h3:(j0m r ((row n r).take p) 0).length<=1000:=by
       unfold j0m;rw [Aa,List.length_zipIdx,Bh];have h1:(row n r).length<=(ties n).length:=by
        exact j28 n r
       omega
      omega
     exact j00 h1
    ·refine j0i ⟨kvs,ks,(fun y=>if y=z then some (a2,ts2++[t]) else A' y),_,?_,rfl⟩;rw [next];exact S.old (e:=(r,p)) hA hl0 ht2
   | none=>
    refine .inr ⟨by rw [S.val z,hA];rfl,l0,rfl,⟨_,by rw [j0d hdl.symm];exact j0b⟩,?_⟩;refine j1n (j0a (ev_v 2 (j0a (ev_v 3 (j0c ⟨(by show 2<=sizeLine;decide),fun t ht2=>?_⟩)))));have htl:l0≠t:=fun e=>by rw [<- e,j0d hdl.symm,j0b] at ht2;cases ht2
    refine⟨[],by rw [j0d htl,j0d hdl.symm,j0b],by show 0 < sizeLine;decide,?_⟩;refine j0i ⟨putK kvs (Sum.inr z) (.ref l0),ks++[z],(fun y=>if y=z then some (l0,[t]) else A' y),_,?_,rfl⟩;rw [next];exact S.new (e:=(r,p)) hA hl0 ht2
  ·rintro σ H4 ⟨kvs,ks,A',u2,S,rfl⟩;refine j0i ⟨kvs,ks,A',_,_,?_,rfl⟩;rw [j23 hi];rwa [Bp] at S
 ·rintro σ H3 ⟨kvs,ks,A',u1,u2,S,rfl⟩;rw [Bp] at S;exact j0r (ev_v 1 (q d ks H3 S.same S.free S.whole))
abbrev NO:List Str:=["_law_rows","_law_seats_here","_law_end","_law_pair"]
theorem scOther:FnScope NO ["_law_rows","_law_seats_here","_law_end"] (j0g k4g):=⟨rfl,rfl,rfl,by decide +kernel,rfl,by decide +kernel,by decide +kernel⟩
theorem k7h{f:Addr}{fd:FuncData}(F:Fun K "_law_other" "_law_other" k4g f fd)(T:Txt mg):FnOk P w K mg base CX0 1 f fd ["_law_rows","_law_seats_here","_law_end"] j96:=by
 refine F.gb scOther (fun vs H Q E h=>?_) (fun b0 H vs Q E hr h=>?_)
 ·obtain⟨R,d,t,as,n,ks,e,rfl,_⟩:=h;rfl
 obtain⟨R,d,t,as,n,ks,e,rfl,hR,hS,hT,ht,he,q⟩:=h;have nd:=scOther.nd;have hu:=hr.u100;obtain⟨z,hz⟩:=mem_ends.mp he;have hlt:=j2a hz;obtain⟨a,ea,eat,et,el,er⟩:=hR.at hlt;obtain⟨kvs,h1,h2,h3⟩:=hS.dict;obtain⟨pa,ts,v1,v2,v3⟩:=h3 z (j3h hz);obtain⟨x,y,hp,hxy,hor⟩:=j5u hT hz;rw [hp] at v3;cases v3 with
 | cons x1 v3=>
 cases v3 with
 | cons y1 v3=>
 cases v3;rename_i tx ty;show Run _ _ _ [some (.ref R),some (.ref d),some (.ref t),none] H;have hu1:=hr.u1;refine j0j 3 nd (j21 hu1 (ev_v 1 (j0q j0s (j0q j0x (j0q j0s (ev_v 0 (j0q j0x (ev_v 2 (j0h ⟨t,_,_,.int (e.1:Int),rfl,rfl,SqT.of ht,rfl,R,_,_,.ref a.1,rfl,rfl,SqL.of hR.lst,eat,j0h ⟨a.1,_,_,.ref a.2,rfl,rfl,SqT.of et,rfl,?_⟩⟩)))))))));refine j0q j0x (ev_v 2 (j0h ⟨t,_,_,.int (e.2:Int),rfl,rfl,SqT.of ht,rfl,a.2,_,_,.str z,rfl,rfl,SqL.of el,j40 hz,d,.ref pa,rfl,by rw [<- v1];exact DGet.k (k:=Sum.inr z) h1,?_⟩));show Run _ _ _ [some (.ref R),some (.ref d),some (.ref t),some (.ref pa)] H;refine j0r (j0q j0s (ev_v 3 (j34 j8j T.tint PyProof.Rows.boot_int (j0a (j59 (q6u hu) (j0q j0s (ev_v 3 (j0h ⟨pa,_,_,.ref tx,rfl,rfl,SqL.of v2,rfl,ev_v 2 ⟨1,_,by decide,q5o x1 ht,?_⟩⟩))))))))
 by_cases c:x=e
 ·rw [decide_eq_true c];refine j0c ⟨_,rfl,pa,[.ref tx,.ref ty],1,.ref ty,rfl,rfl,SqL.of v2,rfl,q ty ?_⟩;have e1:other n e=y:=by unfold other;simp only [hz,hp];simp [c]
  rw [e1];exact y1
 ·rw [decide_eq_false c];refine j0c ⟨_,rfl,pa,[.ref tx,.ref ty],0,.ref tx,rfl,rfl,SqL.of v2,rfl,q tx ?_⟩;have e1:other n e=x:=by unfold other;simp only [hz,hp];simp [c]
  rw [e1];exact x1
abbrev NT:List Str:=["_law_rows","_law_seats_here","_law_end","_law_turn","_law_other_here"]
theorem scStep:FnScope NT ["_law_rows","_law_seats_here","_law_end","_law_turn"] (j0g q3e):=⟨rfl,rfl,rfl,by decide +kernel,rfl,by decide +kernel,by decide +kernel⟩
theorem q1k{f:Addr}{fd:FuncData}(F:Fun K "_law_step" "_law_step" q3e f fd)(T:Txt mg)(G:Has P w K mg base 1 "_law_other" ["_law_rows","_law_seats_here","_law_end"] j96) :
  FnOk P w K mg base CX0 2 f fd ["_law_rows","_law_seats_here","_law_end","_law_turn"] k52:=by
 refine F.gb scStep (fun vs H Q E h=>?_) (fun b0 H vs Q E hr h=>?_)
 ·obtain⟨R,d,t,as,n,ks,e,rfl,_⟩:=h;rfl
 obtain⟨R,d,t,as,n,ks,e,rfl,hR,hS,hT,ht,he,q⟩:=h;have nd:=scStep.nd;have ho:=j26 hT he;obtain⟨z,hz⟩:=mem_ends.mp ho;have hlt:=j2a hz;have hpl:=j46 hz;obtain⟨a,ea,eat,et,el,er⟩:=hR.at hlt;show Run _ _ _ [some (.ref R),some (.ref d),some (.ref t),some (.int 1),none] H;refine j0j 4 nd (j0u G hr (j0a (ev_v 0 (j0a (ev_v 1 (j0a (ev_v 2 (j0c ⟨R,d,t,as,n,ks,e,rfl,hR,hS,hT,ht,he,fun u hu=>?_⟩))))))));show Run _ _ _ [some (.ref R),some (.ref d),some (.ref t),some (.int 1),some (.ref u)] H;refine j0r (j1n (j0a (j0q j0x (ev_v 4 (j0h ⟨u,_,_,.int ((other n e).1:Int),rfl,rfl,SqT.of hu,rfl,?_⟩)))));refine j0a (j0t j1i (j0t j2i (j0q j0x (ev_v 4 (j0h ⟨u,_,_,.int ((other n e).2:Int),rfl,rfl,SqT.of hu,rfl,ev_v 3 ⟨_,_,rfl,rfl,?_⟩⟩)))));refine j0y j0l T.len boot_len (j0a (j0q j0x (j0q j0s (ev_v 0 (j0q j0x (ev_v 4 (j0h ⟨u,_,_,.int ((other n e).1:Int),rfl,rfl,SqT.of hu,rfl,R,_,_,.ref a.1,rfl,rfl,SqL.of hR.lst,eat,j0h ⟨a.1,_,_,.ref a.2,rfl,rfl,SqT.of et,rfl,j0c ⟨a.2,_,rfl,.inl (SqL.of el),?_⟩⟩⟩)))))));rw [Aa];refine⟨_,_,rfl,rfl,by omega,j0c ⟨(by show 2<=sizeLine;decide),fun p hp=>?_⟩⟩;refine q p _ (j0e hp _) hp ?_;rw [j0b];unfold Nt.step Nt.left;show some (HO.tup [.int ((other n e).1:Int),.int ((((other n e).2:Int)+1) % ((row n (other n e).1).length:Int))])=some (HO.tup [.int ((other n e).1:Int),.int ((((other n e).2+1) % (row n (other n e).1).length:Nat):Int)]);rw [Int.natCast_emod];rfl
abbrev NF:List Str:=["_law_rows","_law_seats_here","_law_end","_law_face_here","_law_here"]
theorem scFace:FnScope NF ["_law_rows","_law_seats_here","_law_end"] (j0g q00):=⟨rfl,rfl,rfl,by decide +kernel,rfl,by decide +kernel,by decide +kernel⟩
def orb(n:Net)(e:Nt.End)(j:Nat):List Nt.End:=(List.range j).map fun i=>it (step n) i e
theorem k9z(n:Net)(e:Nt.End)(j:Nat):orb n e (j+1)=orb n e j++[it (step n) j e]:=by
 unfold orb;rw [Db,Ai];rfl
theorem q2r{f:Addr}{fd:FuncData}(F:Fun K "_law_face" "_law_face" q00 f fd)(T:Txt mg)(G:Has P w K mg base 2 "_law_step" ["_law_rows","_law_seats_here","_law_end","_law_turn"] k52) :
  FnOk P w K mg base CX0 3 f fd ["_law_rows","_law_seats_here","_law_end"] k1p:=by
 refine F.gb scFace (fun vs H Q E h=>?_) (fun b0 H vs Q E hr h=>?_)
 ·obtain⟨R,d,t,as,n,ks,e,rfl,_⟩:=h;rfl
 obtain⟨R,d,t,as,n,ks,e,rfl,hR,hS,hT,ht,he,hb,q⟩:=h;have nd:=scFace.nd;have hu:=hr.u100;obtain⟨k,k0,k1,k2⟩:=j68 (f:=step n) (S:=ends n) (fun a ha=>j4n hT ha) (fun a ha b hb=>k1x hT ha hb) he;show Run _ _ _ [some (.ref R),some (.ref d),some (.ref t),none,none] H;refine j0j 3 nd (j1h (j0a (ev_v 2 (j0c ⟨(by show 1<=sizeLine;decide),fun l hl=>?_⟩))));have g1:=j0e hl (.lst [.ref t]);refine j0j 4 nd (j0u G hr (j0a (ev_v 0 (j0a (ev_v 1 (j0a (ev_v 2 (j0a (j0h (j0c ⟨R,d,t,as,n,ks,e,rfl,hR.same g1,hS.same g1,hT,g1 _ _ ht,he,fun u H1 s1 nu eu=>?_⟩))))))))));show Run _ _ _ [some (.ref R),some (.ref d),some (.ref t),some (.ref l),some (.ref u)] H1;refine j4c (fun m σ H2=>∃(j:Nat) (ts:List Addr) (u:Addr),m=k - j/\0 < j/\j<=k/\Same H H2/\H2 l=some (.lst (ts.map V.ref))/\Pd H2 ts (orb n e j)/\H2 u=some (Tp (it (step n) j e))/\(∀ i,0 < i->i < j->it (step n) i e≠e)/\σ=[some (.ref R),some (.ref d),some (.ref t),some (.ref l),some (.ref u)])
  (m0:=k - 1) ⟨1,[t],u,rfl,Ft,k0,g1.trans s1,s1 _ _ j0b,.cons (s1 _ _ (g1 _ _ ht)) .nil,eu,fun i h1 h2=>by omega,rfl⟩ ?_
 rintro m σ H2 ⟨j,ts,u,rfl,j0,j1,sH,el,ep,eu,hf,rfl⟩;refine j09 (j5w hu) (ev_v 4 (ev_v 2 ⟨1,_,by decide,q4y eu (sH _ _ ht),_,rfl,?_⟩));have pl:=ep.length;have ol:(orb n e j).length=j:=by unfold orb;simp
 by_cases c:it (step n) j e=e
 ·rw [decide_eq_true c];refine iteF (j0r (ev_v 3 (q l ts (orb n e j) H2 sH hl el ep ⟨by omega,by omega,fun i hi=>?_,by rw [ol];exact c,fun i h1 h2=>hf i h1 (by omega)⟩)));unfold orb;rw [Ad,Ee (by omega)];rfl
 ·rw [decide_eq_false c];have jk:j < k:=by
   rcases Cj j k with h | h
   ·exact h
   ·have:j=k:=by omega
    subst this;exact absurd k2 c
  refine iteT (j0v (j1r (ev_v 3 ⟨l,rfl,⟨_,el⟩,ev_v 4 ⟨_,el,by rw [Aa];exact j00 (by omega),?_⟩⟩)));have s2:Same H (upd H2 l (.lst (ts.map V.ref++[.ref u]))):=j02 sH hl;have kt:∀ b f,H2 b=some (Tp f)->(upd H2 l (.lst (ts.map V.ref++[.ref u]))) b=some (Tp f):=fun b f h=>by
   rw [j0d (j27 h el)];exact h
  have eu2:=kt u _ eu;refine j0j 4 nd (j0u G hr (j0a (ev_v 0 (j0a (ev_v 1 (j0a (ev_v 4 (j0a (j0h (j0c ⟨R,d,u,as,n,ks,it (step n) j e,rfl,hR.same s2,hS.same s2,hT,eu2,j6a (fun a ha=>j4n hT ha) he j,fun v H3 s3 nv ev=>?_⟩))))))))));refine j0i ⟨k - (j+1),by omega,j+1,ts++[u],v,rfl,Eh _,jk,s2.trans s3,?_,?_,ev,fun i h1 h2=>?_,rfl⟩
  ·rw [Ai];exact s3 _ _ j0b
  ·rw [k9z];exact(ep.keep fun b f h=>s3 _ _ (kt b f h)).append (.cons (s3 _ _ eu2) .nil)
  ·rcases Nat.lt_succ_iff_lt_or_eq.mp h2 with h | h
   ·exact hf i h1 h
   ·rw [h];exact c
end
end R4
namespace Nt
open PySem L2
def Full(n:Net):Prop:=(∃ nm,n=[(nm,[])])\/(n≠[]/\∀ i,i < n.length->row n i≠[])
def j1t(n:Net)(c:End):Prop:=c.1 < n.length/\c.2 < max 1 (row n c.1).length
def ins(n:Net)(c:End)(z:Str):Net:=n.modify c.1 fun r=>(r.1,r.2.take c.2++z :: r.2.drop c.2)
theorem j1e(n:Net)(c:End)(z:Str):(ins n c z).length=n.length:=by unfold ins;rw [List.length_modify]
theorem j2h(n:Net)(c:End)(z:Str):(ins n c z).map (·.1)=n.map (·.1):=by
 unfold ins;refine Dx fun i=>?_;rw [Ad,Ad,Dz];cases n[i]? with
 | none=>rfl
 | some r=>by_cases h:c.1=i <;> simp [h]
theorem j1x(n:Net)(c:End)(z:Str)(i:Nat)(hc:c.1 < n.length):row (ins n c z) i=if c.1=i then(row n i).take c.2++z :: (row n i).drop c.2 else row n i:=by
 unfold row ins;rw [Dz]
 by_cases h:c.1=i
 ·subst h;rw [Ab hc];simp
 ·rw [if_neg h];cases n[i]? with
  | none=>simp [h]
  | some r=>simp [h]
theorem j18:∀(n:Net) (c:End) (z:Str),c.1 < n.length->(ties (ins n c z)).Perm (z :: ties n)
 | [],c,z,h=>by simp at h
 | a :: n,(0,p),z,h=>by
  unfold ins ties;simp only [List.modify_zero_cons,Dy];have:(a.2.take p++z :: a.2.drop p).Perm (z :: a.2):=by
   refine List.perm_middle.trans ?_;rw [Cn]
  exact this.append_right _
 | a :: n,(i+1,p),z,h=>by
  have ih:=j18 n (i,p) z (by simpa using h);unfold ins ties at ih ⊢;simp only [List.modify_succ_cons,Dy];refine(ih.append_left a.2).trans ?_;exact List.perm_middle
theorem j5l{n:Net}{c:End}{z:Str}(F:Full n)(hc:c.1 < n.length):n.length=1\/(∀ i,i < n.length->row n i≠[])->(∀ i,i < (ins n c z).length->row (ins n c z) i≠[])/\ins n c z≠[]:=by
 intro h;have hl:=j1e n c z;refine⟨fun i hi=>?_,fun e=>?_⟩
 ·rw [j1x n c z i hc]
  by_cases q:c.1=i
  ·rw [if_pos q];simp
  ·rw [if_neg q]
   rcases h with h | h
   ·rw [hl] at hi;omega
   ·exact h i (by omega)
 ·rw [e] at hl;simp at hl;omega
theorem Full.some{n:Net}(F:Full n):n≠[]:=by
 rcases F with ⟨nm,rfl⟩ | h
 ·simp
 ·exact h.1
theorem Full.either{n:Net}(F:Full n):n.length=1\/(∀ i,i < n.length->row n i≠[]):=by
 rcases F with ⟨nm,rfl⟩ | h
 ·exact .inl rfl
 ·exact .inr h.2
theorem Full.corner{n:Net}(F:Full n)(h0:row n 0≠[]){c:End}(hc:j1t n c):c∈ends n:=by
 rcases F with ⟨nm,rfl⟩ | h
 ·exact absurd rfl h0
 ·have:=h.2 c.1 hc.1;have hp:0 < (row n c.1).length:=Co.mpr this;have hlt:c.2 < (row n c.1).length:=by
   have:=hc.2;omega
  exact mem_ends.mpr (q0p hlt)
theorem j4k{n:Net}{e:End}(h:e∈ends n):j1t n e:=by
 obtain⟨z,h⟩:=mem_ends.mp h;have:=j46 h;exact⟨j2a h,by omega⟩
def Keep(H H':Hp)(bad:List Addr):Prop:=∀ b o,H b=some o->b∉bad->H' b=some o
theorem k4e(zs:List Str)(i:Nat)(z:Str):insertAt (zs.map V.str) i (.str z)=(zs.take i++z :: zs.drop i).map V.str:=by
 unfold insertAt;rw [Ai,Bc,Gb,Gc]
theorem RowsAt.ins{H:Hp}{R:Addr}{as:List (Addr×Addr)}{n:Net}(h:RowsAt H R as n){c:End}{z:Str}{a:Addr×Addr}(ha:as[c.1]?=some a)(hc:c.1 < n.length) :
  RowsAt (upd H a.2 (Ls ((row n c.1).take c.2++z :: (row n c.1).drop c.2))) R as (Nt.ins n c z):=by
 have q0:=h.tup c.1 a n[c.1] ha (Ab hc);have hRa:R≠a.2:=by
  intro e;have h1:=h.lst;rw [e,q0.2] at h1;have h2:=HO.lst.inj (Option.some.inj h1);have h3:=congrArg List.length h2;cases hm:n[c.1].2 with
  | nil=>
   rw [hm] at h2;have:as.map (fun a=>V.ref a.1)=[]:=h2.symm;have hl:=congrArg List.length this;rw [Aa,h.len] at hl;rw [hl] at hc;exact absurd hc (Dq _)
  | cons y r=>
   rw [hm] at h2;cases as with
   | nil=>simp at h2
   | cons b bs=>
    simp at h2
 have er:row n c.1=n[c.1].2:=by unfold row;rw [Ab hc];rfl
 refine⟨by rw [j1e];exact h.len,by rw [j0d hRa];exact h.lst,fun i b r hb hr=>?_,h.inj⟩;unfold Nt.ins at hr;rw [Dz] at hr;cases hn:n[i]? with
 | none=>rw [hn] at hr;by_cases q:c.1=i <;> simp [q] at hr
 | some r0=>
  rw [hn] at hr;have q1:=h.tup i b r0 hb hn;have t1:b.1≠a.2:=j1s q1.1 q0.2 fun e=>nomatch e
  by_cases q:c.1=i
  ·subst q;rw [Ab hc] at hn;cases hn;rw [ha] at hb;cases hb;simp at hr;subst hr;refine⟨by rw [j0d t1];exact q1.1,?_⟩;rw [j0b,er]
  ·simp [q] at hr;subst hr;have t2:b.2≠a.2:=fun e=>by
    have l1:i < as.length:=(Ac.mp hb).1;have l2:c.1 < as.length:=(Ac.mp ha).1;have x1:(as.map (·.2))[i]?=some b.2:=by rw [Ad,hb];rfl
    have x2:(as.map (·.2))[c.1]?=some a.2:=by rw [Ad,ha];rfl
    obtain⟨y1,z1⟩:=Ac.mp x1;obtain⟨y2,z2⟩:=Ac.mp x2;exact q ((Fo (h₀:=y2) (h₁:=y1) h.inj).mp (z2.trans (e.symm.trans z1.symm)))
   exact⟨by rw [j0d t1];exact q1.1,by rw [j0d t2];exact q1.2⟩
theorem RowsAt.more{H:Hp}{R t l:Addr}{as:List (Addr×Addr)}{n:Net}{pt:Str}{zs:List Str}(h:RowsAt H R as n)(ht:H t=some (.tup [.str pt,.ref l]))(hl:H l=some (Ls zs))(hn:l∉as.map (·.2))(hR:l≠R) :
  RowsAt (upd H R (.lst (as.map (fun a=>V.ref a.1)++[.ref t]))) R (as++[(t,l)]) (n++[(pt,zs)]):=by
 have hal:=h.len;refine⟨by rw [Af,Af,hal];rfl,by rw [j0b,Ai];rfl,fun i b r hb hr=>?_,?_⟩
 ·rcases Cj i as.length with c | c
  ·rw [Ar c] at hb;rw [Ar (by omega)] at hr;have q:=h.tup i b r hb hr;have t1:b.1≠R:=j1s q.1 h.lst fun e=>nomatch e;have t2:b.2≠R:=by
    intro e;have h1:=h.lst;rw [<- e,q.2] at h1;have h2:=HO.lst.inj (Option.some.inj h1);cases as with
    | nil=>simp at c
    | cons b' bs=>
     cases hm:r.2 with
     | nil=>rw [hm] at h2;simp at h2
     | cons y r=>rw [hm] at h2;simp at h2
   exact⟨by rw [j0d t1];exact q.1,by rw [j0d t2];exact q.2⟩
  ·have e:i=as.length:=by
    have:=(Ac.mp hb).1;rw [Af] at this;simp at this;omega
   subst e;rw [Ay (Ah _)] at hb;rw [hal,Ay (Ah _)] at hr;simp at hb hr;subst hb hr;have t1:t≠R:=j1s ht h.lst fun e=>nomatch e;exact⟨by rw [j0d t1];exact ht,by rw [j0d hR];exact hl⟩
 ·rw [Ai,Cy];exact⟨h.inj,by simp,fun x hx y hy e=>by simp at hy;subst hy e;exact hn hx⟩
theorem RowsAt.lists{H:Hp}{R:Addr}{as:List (Addr×Addr)}{n:Net}(h:RowsAt H R as n){x:Addr×Addr}(hx:x∈as):∃ zs,H x.2=some (Ls zs):=by
 obtain⟨i,hi,e⟩:=Ce.mp hx;have hl:=h.len;exact⟨_,(h.tup i x (n[i]'(by omega)) (by rw [<- e];exact Ab hi) (Ab (by omega))).2⟩
theorem RowsAt.fresh{H:Hp}{R l:Addr}{as:List (Addr×Addr)}{n:Net}(h:RowsAt H R as n)(hl:H l=none){x:Addr×Addr}(hx:x∈as):l≠x.2:=by
 obtain⟨zs,e⟩:=h.lists hx;exact(j0f e hl).symm
theorem j4m(n:Net):(ends n).length=(ties n).length:=by
 unfold ends j01;rw [Aa,<- j1m n 0,Aa]
theorem IsFace.ends{n:Net}(T:j04 n){e:End}{fs:List End}(h:IsFace n e fs)(he:e∈ends n):∀ c∈fs,c∈Nt.ends n:=by
 intro c hc;obtain⟨i,hi,e2⟩:=Ce.mp hc;have:=h.at' i hi;rw [Ab hi,e2] at this;rw [Option.some.inj this];exact j6a (fun a ha=>j4n T ha) he i
theorem j2c{n:Net}{c k:End}{z:Str}(hc:j1t n c)(hk:k.1 < n.length):j1t (ins n k z) c:=by
 refine⟨by rw [j1e];exact hc.1,?_⟩;rw [j1x n k z c.1 hk];have:=hc.2
 split
 ·rw [Af,An,Bh,Dc];omega
 ·exact this
end Nt
namespace Nt
open PySem L2
def dbl(zs:List Str):List Str:=zs.flatMap fun z=>[z,z]
theorem j5o(y:Str):∀ zs:List Str,(dbl zs).count y=2 * zs.count y
 | []=>rfl
 | z :: r=>by
  unfold dbl;rw [Dy];have ih:=j5o y r;unfold dbl at ih;rw [List.count_append,ih,Ff,Ff,Ff,List.count_nil];omega
theorem dbl_mem{y:Str}{zs:List Str}:y∈dbl zs↔y∈zs:=by
 rw [<- Fi,j5o,<- Fi];omega
theorem k0o:∀ zs:List Str,(dbl zs).length=2 * zs.length
 | []=>rfl
 | z :: r=>by
  unfold dbl;rw [Dy,Af];have ih:=k0o r;unfold dbl at ih;rw [ih,An];simp;omega
theorem k69(zs:List Str)(z:Str):dbl (zs++[z])=dbl zs++[z,z]:=by
 unfold dbl;rw [Dg];rfl
theorem k1s{n:Net}{zs:List Str}(hn:zs.Nodup)(p:(ties n).Perm (dbl zs)):j04 n:=fun z hz=>by
 rw [p.count_eq,j5o];have h1:z∈zs:=dbl_mem.mp (p.mem_iff.mp hz);rw [hn.count,if_pos h1]
def NE(n:Net):Prop:=∀ r∈n,r.2≠[]
theorem j3f{n:Net}{i:Nat}(h:i < n.length):row n i=n[i].2:=by unfold row;rw [Ab h];rfl
theorem q1r{n:Net}(h:NE n)(h0:n≠[]):Full n:= .inr ⟨h0,fun i hi=>by rw [j3f hi];exact h _ (Cc hi)⟩
theorem Full.ne{n:Net}(h:Full n):(∃ nm,n=[(nm,[])])\/NE n:=by
 rcases h with h | ⟨_,h⟩
 ·exact .inl h
 ·refine .inr fun r hr=>?_;obtain⟨i,hi,rfl⟩:=Ce.mp hr;have:=h i hi;rwa [j3f hi] at this
theorem j7f:∀(n:Net) (k:Nat) (h:k < n.length),(ties n).Perm (n[k].2++ties (n.eraseIdx k))
 | [],k,h=>by simp at h
 | a :: n,0,h=>by unfold ties;simp
 | a :: n,k+1,h=>by
  have ih:=j7f n k (by simpa using h);unfold ties at ih ⊢;simp only [Dy,List.getElem_cons_succ,List.eraseIdx_cons_succ];refine(ih.append_left a.2).trans ?_;rw [<- Bm,<- Bm];exact List.perm_append_comm.append_right _
theorem k0c(n:Net)(k:Nat)(h:k < n.length):(n.map (·.1)).Perm (n[k].1 :: (n.eraseIdx k).map (·.1)):=by
 have:=(SetT.pick_perm n k h).map (·.1);exact this.symm
theorem j7t(zs:List Str)(i:Nat):(zs.drop i++zs.take i).Perm zs:=by
 refine Do.trans ?_;rw [Cn]
theorem RowsAt.upd{H:Hp}{R x:Addr}{as:List (Addr×Addr)}{n:Net}(h:RowsAt H R as n){xs:List V}{o:HO}(hx:H x=some (.lst xs))(hR:R≠x)(ha:∀ a∈as,a.2≠x):RowsAt (upd H x o) R as n:=by
 refine⟨h.len,by rw [j0d hR];exact h.lst,fun i a r h1 h2=>?_,h.inj⟩;have q:=h.tup i a r h1 h2;exact⟨by rw [j0d (j1s q.1 hx fun e=>nomatch e)];exact q.1,by rw [j0d (ha a (Av h1))];exact q.2⟩
theorem j7n{α:Type}(l:List α)(k i:Nat):(l.eraseIdx k)[i]?=if i < k then l[i]? else l[i+1]?:=by
 rw [List.getElem?_eraseIdx]
theorem RowsAt.erase{H:Hp}{R:Addr}{as:List (Addr×Addr)}{n:Net}(h:RowsAt H R as n){k:Nat}(hk:k < n.length) :
  RowsAt (L2.upd H R (.lst ((as.map fun a=>V.ref a.1).eraseIdx k))) R (as.eraseIdx k) (n.eraseIdx k):=by
 have hl:=h.len;refine⟨by rw [Dw,Dw,hl],?_,fun i a r h1 h2=>?_,?_⟩
 ·rw [j0b]
  congr 2
  refine Dx fun i=>?_;rw [j7n,Ad,Ad,Ad,j7n]
  split <;> rfl
 ·rw [j7n] at h1 h2;have q:H a.1=some (.tup [.str r.1,.ref a.2])/\H a.2=some (Ls r.2):=by
   by_cases c:i < k
   ·rw [if_pos c] at h1 h2;exact h.tup i a r h1 h2
   ·rw [if_neg c] at h1 h2;exact h.tup (i+1) a r h1 h2
  have t2:a.2≠R:=by
   intro e;have h3:=h.lst;rw [<- e,q.2] at h3;have h4:=HO.lst.inj (Option.some.inj h3);cases as with
   | nil=>simp at hl;simp [<- hl] at hk
   | cons b bs=>
    cases hm:r.2 with
    | nil=>rw [hm] at h4;simp at h4
    | cons y r=>rw [hm] at h4;simp at h4
  exact⟨by rw [j0d (j1s q.1 h.lst fun e=>nomatch e)];exact q.1,by rw [j0d t2];exact q.2⟩
 ·have:((as.eraseIdx k).map (·.2)).Sublist (as.map (·.2)):=(List.eraseIdx_sublist as k).map _;exact h.inj.sublist this
theorem k1r(zs:List Str)(i:Nat):cutV (zs.map V.str) (some (i:Int)) none=(zs.drop i).map V.str:=by
 unfold cutV;rw [HT.sIx_nat,HT.sIx_none,Aa];rw [Cq (by rw [Dc,Aa];omega),Gc]
 rcases Nat.le_total i zs.length with h | h
 ·rw [Nat.min_eq_left h]
 ·rw [Nat.min_eq_right h,Fl (by simp),Fl (by simpa using h)]
theorem q0u(zs:List Str)(i:Nat):cutV (zs.map V.str) none (some (i:Int))=(zs.take i).map V.str:=by
 unfold cutV;rw [HT.sIx_nat,HT.sIx_none,Aa,List.drop_zero,Nat.sub_zero,Gb]
 rcases Nat.le_total i zs.length with h | h
 ·rw [Nat.min_eq_left h]
 ·rw [Nat.min_eq_right h,Cq (by simp),Cq (by simpa using h)]
end Nt
namespace Nt
open PySem L2
def nmA(n:Net)(r:Nat):Str:=((n[r]?).map (·.1)).getD ⟨#[]⟩
theorem j13{n:Net}{r:Nat}(h:r < n.length):nmA n r=n[r].1:=by unfold nmA;rw [Ab h];rfl
abbrev Lk:=Str×Str×Str
def j6r(n:Net)(x:Lk):Prop:=∃ a b,pos n x.1=[a,b]/\x.2.1=nmA n a.1/\x.2.2=nmA n b.1
structure LkI(n:Net)(done:List (Str×End))(kM:List (Key×V))(ls:List Lk):Prop where
 m0:∀ z,j1l done z=[]->valV kM (Sum.inr z)=none
 m1:∀ z a rest,j1l done z=a :: rest->valV kM (Sum.inr z)=some (.str (nmA n a.1))
 mem:∀ x:Lk,x∈ls↔∃ a b rest,j1l done x.1=a :: b :: rest/\x.2.1=nmA n a.1/\x.2.2=nmA n b.1
 nod:(ls.map (·.1)).Nodup
 lenM:kM.length<=done.length
 lenL:ls.length<=done.length
theorem LkI.start(n:Net):LkI n [] [] []:=⟨fun _ _=>rfl,fun z a rest h=>(by cases h),fun x=>⟨fun h=>(by cases h),fun⟨a,b,rest,h,_⟩=>(by cases h)⟩,Cs,Ah _,Ah _⟩
theorem LkI.new{n:Net}{done:List (Str×End)}{kM:List (Key×V)}{ls:List Lk}(I:LkI n done kM ls){z:Str}{e:End}(h0:j1l done z=[]):LkI n (done++[(z,e)]) (putK kM (Sum.inr z) (.str (nmA n e.1))) ls:=by
 refine⟨fun y hy=>?_,fun y a rest hy=>?_,fun x=>?_,I.nod,?_,?_⟩
 ·rw [j0o] at hy;obtain⟨h1,h2⟩:=Ej.mp hy;have hne:¬ z=y:=fun q=>by rw [if_pos q] at h2;cases h2
  rw [j03,if_neg (fun q=>hne (Sum.inr.inj q).symm)];exact I.m0 y h1
 ·rw [j0o] at hy
  by_cases q:z=y
  ·subst q;rw [h0,if_pos rfl] at hy;cases hy;rw [j03,if_pos rfl]
  ·rw [if_neg q,Ba] at hy;rw [j03,if_neg (fun p=>q (Sum.inr.inj p).symm)];exact I.m1 y a rest hy
 ·rw [I.mem x]
  by_cases q:z=x.1
  ·constructor
   ·rintro ⟨a,b,rest,h,_⟩;rw [<- q,h0] at h;cases h
   ·rintro ⟨a,b,rest,h,_⟩;rw [j0o,<- q,h0,if_pos rfl] at h;cases h
  ·constructor
   ·rintro ⟨a,b,rest,h,r⟩;exact⟨a,b,rest,by rw [j0o,if_neg q,Ba];exact h,r⟩
   ·rintro ⟨a,b,rest,h,r⟩;rw [j0o,if_neg q,Ba] at h;exact⟨a,b,rest,h,r⟩
 ·have:=j06 kM (Sum.inr z) (.str (nmA n e.1));have:=I.lenM;rw [Af,Cu];omega
 ·have:=I.lenL;rw [Af,Cu];omega
theorem LkI.old{n:Net}{done:List (Str×End)}{kM:List (Key×V)}{ls:List Lk}(I:LkI n done kM ls){z:Str}{a e:End}(h1:j1l done z=[a]):LkI n (done++[(z,e)]) kM (ls++[(z,nmA n a.1,nmA n e.1)]):=by
 have hz:j1l (done++[(z,e)]) z=[a,e]:=by rw [j0o,h1,if_pos rfl];rfl
 have hnz:z∉ls.map (·.1):=fun h=>by
  obtain⟨x,hx,ex⟩:=Ak.mp h;obtain⟨b,c,rest,hp,_⟩:=(I.mem x).mp hx;have ex:x.1=z:=ex;rw [ex,h1] at hp;cases hp
 refine⟨fun y hy=>?_,fun y b rest hy=>?_,fun x=>?_,?_,?_,?_⟩
 ·rw [j0o] at hy;exact I.m0 y (Ej.mp hy).1
 ·by_cases q:z=y
  ·subst q;rw [hz] at hy;cases hy;exact I.m1 z a [] h1
  ·rw [j0o,if_neg q,Ba] at hy;exact I.m1 y b rest hy
 ·rw [At,Ag,I.mem x]
  by_cases q:z=x.1
  ·constructor
   ·rintro (⟨b,c,rest,h,_⟩ | h)
    ·rw [<- q,h1] at h;cases h
    ·subst h;exact⟨a,e,[],hz,rfl,rfl⟩
   ·rintro ⟨b,c,rest,h,r1,r2⟩;rw [<- q,hz] at h;cases h;obtain⟨x1,x2,x3⟩:=x;have q:z=x1:=q;have r1:x2=nmA n a.1:=r1;have r2:x3=nmA n e.1:=r2;subst q r1 r2;exact .inr rfl
  ·constructor
   ·rintro (⟨b,c,rest,h,r⟩ | h)
    ·exact⟨b,c,rest,by rw [j0o,if_neg q,Ba];exact h,r⟩
    ·subst h;exact absurd rfl q
   ·rintro ⟨b,c,rest,h,r⟩;rw [j0o,if_neg q,Ba] at h;exact .inl ⟨b,c,rest,h,r⟩
 ·rw [Ai];exact j3r I.nod hnz
 ·have:=I.lenM;rw [Af,Cu];omega
 ·have:=I.lenL;rw [Af,Af];show _+1<=_+1;omega
theorem LkI.whole{n:Net}(T:j04 n){kM:List (Key×V)}{ls:List Lk}(I:LkI n (j01 n) kM ls)(x:Lk):x∈ls↔j6r n x:=by
 rw [I.mem x]
 constructor
 ·rintro ⟨a,b,rest,h,r⟩;have hp:pos n x.1=a :: b :: rest:=h;have ha:j1d n a=some x.1:=mem_pos.mp (by rw [hp];exact Au ..);have hl:=j5z n x.1;rw [hp,T x.1 (j3h ha)] at hl;have:rest=[]:=by
   have:rest.length+1+1=2:=hl;exact Be.mp (by omega)
  rw [this] at hp;exact⟨a,b,hp,r⟩
 ·rintro ⟨a,b,h,r⟩;exact⟨a,b,[],h,r⟩
inductive Way (ls:List (Str×Str×Bool)) (f:Str):Str->Bool->Prop where
 | here:Way ls f f false
 | there {x y:Str} {b o:Bool}:Way ls f x b->(x,y,o)∈ls->Way ls f y (b != o)
 | back {x y:Str} {b o:Bool}:Way ls f x b->(y,x,o)∈ls->Way ls f y (b != o)
end Nt
namespace L2
open PySem PySem.Spec PyProof.Rows
theorem q68{P:Program}{w:World}{k:Key}{u:Value}(h:(j0p P w).is k u=true):RelV (kV k) u:=by
 rcases j1f h with ⟨i,t,rfl,rfl⟩ | ⟨x,t,rfl,rfl⟩ <;> exact⟨t,rfl⟩
section
variable{X:Cx}{pins:List (Addr×Obj)}{σ:St}{H:Hp}{s:Shared}
theorem q1q{xs:List V}:∀{vs:List Value},vs.length=xs.length->(∀(j:Nat) u,vs[j]?=some u->∃ x,xs[j]?=some x/\RelV x u)->Vals xs vs:=by
 induction xs with
 | nil=>
  intro vs h _;cases vs with
  | nil=>exact .nil
  | cons a b=>simp at h
 | cons x r ih=>
  intro vs h g;cases vs with
  | nil=>simp at h
  | cons u q=>
   obtain⟨x',e,ru⟩:=g 0 u rfl;simp only [List.getElem?_cons_zero,Option.some.injEq] at e;subst e;exact .cons ru (ih (by simpa using h) fun j u hu=>by simpa using g (j+1) u (by simpa using hu))
theorem j6x(hc:X.calm=true):j2z X (.type "list") (fun xs H Q=>∃ a kvs,xs=[.ref a]/\Rd H a (.dK kvs)/\∀ l,H l=none->Q (.ref l) (upd H l (.lst (kvs.map fun p=>kV p.1)))):=by
 intro pins s σ H xs us Q I r h;obtain⟨a,kvs,rfl,hH,q⟩:=h;obtain⟨u,rfl,ru⟩:=vals1 r;cases (show u=Value.ref a from ru);obtain⟨z,hd,vs,rel,dd⟩:=j91 I.hok hH;obtain⟨ep,da⟩:=dd.dictAt;have hl:=rel.length;refine PySem.W.kdl_call (PySem.W.kdl_dict (knd:=j0p X.prog X.w) (kvs:=vs) (ep:=ep) hd) (I.ok.hd hc) da (by omega) fun h' tk acc c' hk hS hacc=>?_;have rv:Vals (kvs.map fun p=>kV p.1) acc.toList:=by
  refine q1q (by rw [Bw,hacc.1,Aa];omega) fun j u hu=>?_;obtain⟨k,x,e,g⟩:=hacc.2 j u (by rw [<- Bb];exact hu);refine⟨kV k,?_,q68 g⟩;have e2:(kvs.map (·.1))[j]?=some k:=by rw [rel.keys,Ad,e];rfl
  rw [Ad,Aw] at e2;obtain⟨p,e3,e4⟩:=e2;rw [Ad,e3,<- e4];rfl
 exact⟨.ref s.heap.objs.size,_,I.laid (t':=tk) hk (Ah _) (show ObjOk X.prog X.w _ h' _ (.lst (kvs.map fun p=>kV p.1)) from⟨by rw [Aa];exact z,acc.toList,c',rv,by rw [Array.toArray_toList];exact hS⟩),rfl,q _ (I.hok.fresh (Ah _))⟩
end
section
variable{X:Cx}{elt tg:Expr}{ifs:List Expr}{scope:Scope}{σ:St}{H:Hp}{N':List Str}{A a d:Addr}{xs:List V}{kvs:List (Key×V)}{after:Hp->Prop}
theorem j1o(Pv:Nat->St->Hp->Prop)(h0:Pv 0 σ H)(hl:∀ i σ' H',i<=xs.length->Pv i σ' H'->SqL X.K H' a xs)
  (hs : ∀ i x σ' H', xs[i]? = some x → Pv i σ' H' → CEg X N' scope tg x σ' H' fun σ2 H3 => CEi X N' scope ifs σ2 H3 fun b H4 =>
   if b=true then CEv X N' scope elt σ2 H4 fun v H5=>∃ ys,H5 A=some (.lst ys)/\ys.length < sizeLine/\Pv (i+1) σ2 (upd H5 A (.lst (ys++[v]))) else Pv (i+1) σ2 H4)
  (hd:∀ σ' H',Pv xs.length σ' H'->after H'):j93 X N' scope tg ifs elt (Itl X.K a) A after σ H:=by
 refine⟨fun i m σ' H'=>m=xs.length - i/\i<=xs.length/\Pv i σ' H',⟨_,rfl,Bn _,h0⟩,?_⟩;rintro i m σ' H' ⟨rfl,hi,p⟩;have q:=hl i σ' H' hi p
 by_cases hlt:i < xs.length
 ·refine .inr ⟨⟨xs,xs[i],q,by simp [hlt]⟩,Pv (i+1),fun σ' H' p'=>⟨xs.length - (i+1),by omega,rfl,hlt,p'⟩,fun x H2 y=>?_⟩;obtain⟨e,y⟩:=y;subst e;exact hs i x σ' _ (y xs q) p
 ·have e:i=xs.length:=by omega
  subst e;exact .inl ⟨⟨xs,q,Ah _⟩,hd σ' H' p⟩
theorem k4j{zs:List Str}(f:Str->Bool)(hz:zs.length < sizeLine)(ha:H a=some (.lst (zs.map V.str)))(hA:H A=none)
  (hg:∀ cl C s₀ H₀ ex v v0 H' R,R (σ++[some v]) H'->Eg (j08 X N' scope cl C s₀ H₀ ex) tg v (σ++[v0]) H' R)
  (hi:∀ cl C s₀ H₀ ex z ys T,T (f z) (upd H A (.lst ys))->Ei (j08 X N' scope cl C s₀ H₀ ex) ifs (σ++[some (.str z)]) (upd H A (.lst ys)) T)
  (he:∀ cl C s₀ H₀ ex z H' R,R (V.str z) H'->Ev (j08 X N' scope cl C s₀ H₀ ex) elt (σ++[some (.str z)]) H' R) (q:after (upd H A (.lst ((zs.filter f).map V.str)))) :
  j93 X N' scope tg ifs elt (Itl X.K a) A after (σ++List.replicate 1 none) (upd H A (.lst [])):=by
 have ne:a≠A:=j0f ha hA;refine j1o (xs:=zs.map V.str) (fun k σ' H'=>(∃ v,σ'=σ++[v])/\H'=upd H A (.lst (((zs.take k).filter f).map V.str))) ⟨⟨none,rfl⟩,by simp⟩ ?_ ?_ ?_
 ·rintro i σ' H' _ ⟨_,rfl⟩;exact SqL.of (by rw [j0d ne];exact ha)
 ·rintro i x σ' H' hx ⟨⟨v,rfl⟩,rfl⟩;rw [Ad,Aw] at hx;obtain⟨z,hz',rfl⟩:=hx;intro cl C s₀ H₀ ex;refine hg cl C s₀ H₀ ex _ _ _ _ ?_;intro cl C s₀ H₀ ex;refine hi cl C s₀ H₀ ex z _ _ ?_;have e:(zs.take (i+1)).filter f=(zs.take i).filter f++(if f z=true then [z] else []):=by
   rw [Bt,hz',Cd]
   congr 1
   cases hf:f z <;> simp [hf]
  have hlen:((zs.take i).filter f).length<=zs.length:=Bv (Ch _ _) (by rw [Bh];omega)
  by_cases hf:f z=true
  ·rw [if_pos hf];intro cl C s₀ H₀ ex;refine he cl C s₀ H₀ ex z _ _ ⟨_,j0b,by rw [Aa];omega,⟨_,rfl⟩,?_⟩;rw [j5t,e,if_pos hf,Ai];rfl
  ·rw [if_neg hf];refine⟨⟨_,rfl⟩,?_⟩;rw [e,if_neg hf,Ba]
 ·rintro σ' H' ⟨_,rfl⟩;have e2:zs.take (zs.map V.str).length=zs:=Cq (by simp);rw [e2];exact q
theorem j5m(z:Str)(zs:List Str):inV (.str z) (zs.map V.str)=zs.contains z:=by
 unfold inV
 induction zs with
 | nil=>rfl
 | cons y r ih=>
  rw [Bc,Ds,ih,List.contains_cons]
  congr 1
  show eqV (.str y) (.str z)=(z == y)
  by_cases h:y=z
  ·subst h;simp [eqV]
  ·have h':z≠y:=fun q=>h q.symm;show(y == z)=(z == y);rw [beq_eq_false_iff_ne.mpr h,beq_eq_false_iff_ne.mpr h']
theorem j3n(zs:List Str):(zs.map V.str).all j6s=true:=by
 rw [Dk];intro x hx;obtain⟨z,_,rfl⟩:=Ak.mp hx;rfl
theorem Eg.mono{e:Expr}{v:V}{R R':St->Hp->Prop}(h:Eg X e v σ H R)(f:∀ σ' H',R σ' H'->R' σ' H'):Eg X e v σ H R':=
 ⟨fun pins s u I r=>thn (h.run pins s u I r) fun _ s' ⟨σ',H',I',q⟩=>⟨σ',H',I',f σ' H' q⟩⟩
theorem j15{e1 e2:Expr}{k:Nat}{pos:Pos}{t:Addr}{x y:V}{R:St->Hp->Prop}(hc:X.calm=true)(ht:SqT X.K H t [x,y])(h:Eg X e1 x σ H fun σ1 H1=>Eg X e2 y σ1 H1 R)
  (hn:(assignEach [e1,e2] X.env).length=2:=by rfl) (hst:(assignEach [e1,e2] X.env).findIdx? (·.1)=none:=by rfl)
  (hs1:(assignEach [e1,e2] X.env).map (·.2)=assign e1 X.env :: (assignEach [e2] X.env).map (·.2):=by rfl) (hs2:(assignEach [e2] X.env).map (·.2)=assign e2 X.env :: (assignEach [] X.env).map (·.2):=by rfl) :
  Eg X (.Tuple [e1,e2] k pos) (.ref t) σ H R:=
 q1b (k99 (t:=k3m (fun v σ H Q=>Eg X e1 v σ H Q) (k3m (fun v σ H Q=>Eg X e2 v σ H Q) gNil)) hc (j4g k0n (j4g k0n k49 hs2) hs1) hn hst) ⟨t,_,rfl,ht,rfl,_,_,rfl,h.mono fun σ1 H1 h1=>⟨_,_,rfl,h1.mono fun σ2 H2 q=>⟨rfl,q⟩⟩⟩
end
end L2
namespace Nt
open PySem L2
theorem j4z{n:Net}(T:j04 n){e x:End}{z:Str}(h:j1d n e=some z):j1d n x=some z↔x=e\/x=other n e:=by
 obtain⟨o1,o2,o3⟩:=j2p T h;refine⟨fun hx=>?_,fun hx=>?_⟩
 ·obtain⟨a,b,hp,hab,he⟩:=j5u T h;have mx:x∈pos n z:=mem_pos.mpr hx;have mo:other n e∈pos n z:=mem_pos.mpr o1;rw [hp] at mx mo;simp only [Ap,Ef,or_false] at mx mo
  rcases he with he | he
  ·rcases mx with m | m
   ·exact .inl (m.trans he.symm)
   ·rcases mo with m2 | m2
    ·exact absurd (m2.trans he.symm) o3
    ·exact .inr (m.trans m2.symm)
  ·rcases mx with m | m
   ·rcases mo with m2 | m2
    ·exact .inr (m.trans m2.symm)
    ·exact absurd (m2.trans he.symm) o3
   ·exact .inl (m.trans he.symm)
 ·rcases hx with rfl | rfl
  ·exact h
  ·exact o1
end Nt
namespace Nt
open PySem L2
abbrev Bl:=Str×Str×Bool
def has(kvs:List (Key×V))(x:Str):Prop:=∃ v,valV kvs (Sum.inr x)=some v
def k24(ls:List Bl)(x y:Str)(o:Bool):Prop:=(x,y,o)∈ls\/(y,x,o)∈ls
def k5w(ls:List Bl):List Str:=ls.flatMap fun l=>[l.1,l.2.1]
theorem j9s:∀ ls:List Bl,(k5w ls).length=2 * ls.length
 | []=>rfl
 | l :: r=>by
  show(k5w r).length+1+1=2 * (r.length+1);rw [j9s r];omega
theorem k76{ls:List Bl}{x y:Str}{o:Bool}(h:k24 ls x y o):y∈k5w ls:=by
 rcases h with h | h
 ·exact Fs.mpr ⟨_,h,by simp⟩
 ·exact Fs.mpr ⟨_,h,by simp⟩
theorem k7g{κ:Type} [DecidableEq κ] (kvs:List (κ×V)) (k:κ) (v:V):(putK kvs k v).map (·.1)=if k∈kvs.map (·.1) then kvs.map (·.1) else kvs.map (·.1)++[k]:=by
 have e:(kvs.any fun kv=>decide (kv.1=k))=decide (k∈kvs.map (·.1)):=by
  rw [Cr,Di,decide_eq_true_iff,Ak];exact⟨fun⟨p,h1,h2⟩=>⟨p,h1,of_decide_eq_true h2⟩,fun⟨p,h1,h2⟩=>⟨p,h1,decide_eq_true h2⟩⟩
 unfold putK;rw [e]
 by_cases h:k∈kvs.map (·.1)
 ·rw [if_pos (decide_eq_true h),if_pos h,Cb];refine Fa fun p _=>?_;show(if p.1=k then(p.1,v) else p).1=p.1
  split <;> rfl
 ·rw [if_neg (by simpa using h),if_neg h,Ai];rfl
structure SpI(ls:List Bl)(f:Str)(hr:Option Str)(kvs:List (Key×V))(wt:List Str):Prop where
 nod:(kvs.map (·.1)).Nodup
 txt:∀ k∈kvs.map (·.1),∃ x,k=Sum.inr x/\x∈f :: k5w ls
 val:∀ x v,valV kvs (Sum.inr x)=some v->∃ b,v = .bl b/\Way ls f x b
 fst:has kvs f
 wtk:∀ x∈wt,has kvs x
 hrh:∀ x,some x=hr->has kvs x
 cls:∀ x,has kvs x->x∈wt\/some x=hr\/∀ y o,k24 ls x y o->has kvs y
theorem SpI.len{ls:List Bl}{f:Str}{hr:Option Str}{kvs:List (Key×V)}{wt:List Str}(I:SpI ls f hr kvs wt):kvs.length<=1+2 * ls.length:=by
 have:=nodup_le I.nod (b:=(f :: k5w ls).map Sum.inr) fun k hk=>by
  obtain⟨x,e,hx⟩:=I.txt k hk;rw [e];exact Ak.mpr ⟨x,hx,rfl⟩
 rw [Aa,Aa,An,j9s] at this;omega
theorem j6f{kvs:List (Key×V)}{k:Key}{v:V}{x:Str}(h:has kvs x):has (putK kvs k v) x:=by
 obtain⟨u,hu⟩:=h;unfold has;rw [j03]
 split
 ·exact⟨_,rfl⟩
 ·exact⟨u,hu⟩
theorem SpI.start(ls:List Bl)(f:Str):SpI ls f none (putK [] (Sum.inr f) (.bl false)) [f]:=by
 have e:putK ([]:List (Key×V)) (Sum.inr f) (.bl false)=[(Sum.inr f,.bl false)]:=rfl;have hv:∀ x,valV ([(Sum.inr f,.bl false)]:List (Key×V)) (Sum.inr x)=if x=f then some (.bl false) else none:=fun x=>by
  rw [<- e,j03]
  by_cases h:x=f
  ·rw [if_pos h,if_pos (by rw [h])]
  ·rw [if_neg h,if_neg (fun q=>h (Sum.inr.inj q))];rfl
 rw [e];refine⟨by simp,fun k hk=>⟨f,by simpa using hk,Au ..⟩,fun x v h=>?_,⟨.bl false,by rw [hv f,if_pos rfl]⟩,fun x hx=>?_,fun x hx=>by(cases hx),fun x hx=>?_⟩
 ·rw [hv x] at h
  by_cases c:x=f
  ·rw [if_pos c] at h;cases h;subst c;exact⟨false,rfl,.here⟩
  ·rw [if_neg c] at h;cases h
 ·rw [Ag.mp hx];exact⟨.bl false,by rw [hv f,if_pos rfl]⟩
 ·obtain⟨v,h⟩:=hx;rw [hv x] at h
  by_cases c:x=f
  ·exact .inl (Ag.mpr c)
  ·rw [if_neg c] at h;cases h
theorem SpI.pop{ls:List Bl}{f h:Str}{kvs:List (Key×V)}{wt:List Str}(I:SpI ls f none kvs (wt++[h])):SpI ls f (some h) kvs wt:=by
 refine⟨I.nod,I.txt,I.val,I.fst,fun x hx=>I.wtk x (Bs _ hx),fun x hx=>(by cases hx;exact I.wtk h (As _ (Ag.mpr rfl))),fun x hx=>?_⟩
 rcases I.cls x hx with c | c | c
 ·rcases At.mp c with c | c
  ·exact .inl c
  ·exact .inr (.inl (by rw [Ag.mp c]))
 ·cases c
 ·exact .inr (.inr c)
theorem SpI.close{ls:List Bl}{f h:Str}{kvs:List (Key×V)}{wt:List Str}(I:SpI ls f (some h) kvs wt)(c:∀ y o,k24 ls h y o->has kvs y):SpI ls f none kvs wt:=by
 refine⟨I.nod,I.txt,I.val,I.fst,I.wtk,fun x hx=>(by cases hx),fun x hx=>?_⟩
 rcases I.cls x hx with d | d | d
 ·exact .inl d
 ·cases d;exact .inr (.inr c)
 ·exact .inr (.inr d)
theorem SpI.notin{ls:List Bl}{f:Str}{hr:Option Str}{kvs:List (Key×V)}{wt:List Str}(I:SpI ls f hr kvs wt){g:Str}(hg:valV kvs (Sum.inr g)=none):Sum.inr g∉kvs.map (·.1):=by
 intro hm;obtain⟨p,hp,e⟩:=Ak.mp hm;have:∃ i:Nat,kvs[i]?=some p:=Az hp;obtain⟨i,hi⟩:=this;have:∀{l:List (Key×V)},(∃ q∈l,q.1=Sum.inr g)->valV l (Sum.inr g)≠none:=fun{l}=>by
  induction l with
  | nil=>rintro ⟨q,hq,_⟩;cases hq
  | cons c r ih=>
   rintro ⟨q,hq,e⟩ hn
   by_cases hc:c.1=Sum.inr g
   ·rw [j1k hc] at hn;cases hn
   ·rw [j1g hc] at hn
    rcases Ap.mp hq with rfl | hq
    ·exact hc e
    ·exact ih ⟨q,hq,e⟩ hn
 exact this ⟨p,hp,e⟩ hg
theorem SpI.hrk{ls:List Bl}{f h:Str}{kvs:List (Key×V)}{wt:List Str}(I:SpI ls f (some h) kvs wt):has kvs h:=I.hrh h rfl
theorem SpI.add{ls:List Bl}{f h g:Str}{kvs:List (Key×V)}{wt:List Str}{b o:Bool}(I:SpI ls f (some h) kvs wt)(hg:valV kvs (Sum.inr g)=none)(hh:valV kvs (Sum.inr h)=some (.bl b))(t:k24 ls h g o) :
  SpI ls f (some h) (putK kvs (Sum.inr g) (.bl (b != o))) (wt++[g]):=by
 have hng:=I.notin hg;have hw:Way ls f g (b != o):=by
  obtain⟨b',e,hw⟩:=I.val h _ hh;cases e
  rcases t with t | t
  ·exact .there hw t
  ·exact .back hw t
 refine⟨?_,fun k hk=>?_,fun x v hv=>?_,j6f I.fst,fun x hx=>?_,fun x hx=>j6f (I.hrh x hx),fun x hx=>?_⟩
 ·rw [k7g,if_neg hng];exact j3r I.nod hng
 ·rw [k7g,if_neg hng] at hk
  rcases At.mp hk with hk | hk
  ·exact I.txt k hk
  ·exact⟨g,Ag.mp hk,Ao _ (k76 t)⟩
 ·rw [j03] at hv
  by_cases c:Sum.inr x=(Sum.inr g:Key)
  ·rw [if_pos c] at hv;cases hv;rw [Sum.inr.inj c];exact⟨_,rfl,hw⟩
  ·rw [if_neg c] at hv;exact I.val x v hv
 ·rcases At.mp hx with hx | hx
  ·exact j6f (I.wtk x hx)
  ·rw [Ag.mp hx];exact⟨_,by rw [j03,if_pos rfl]⟩
 ·obtain⟨v,hv⟩:=hx;rw [j03] at hv
  by_cases c:Sum.inr x=(Sum.inr g:Key)
  ·exact .inl (As _ (Ag.mpr (Sum.inr.inj c)))
  ·rw [if_neg c] at hv
   rcases I.cls x ⟨v,hv⟩ with d | d | d
   ·exact .inl (Bs _ d)
   ·exact .inr (.inl d)
   ·exact .inr (.inr fun y o' ht=>j6f (d y o' ht))
theorem SpI.whole{ls:List Bl}{f:Str}{kvs:List (Key×V)}(I:SpI ls f none kvs []):∀ x b,Way ls f x b->∃ b',valV kvs (Sum.inr x)=some (.bl b'):=by
 have hall:∀ x b,Way ls f x b->has kvs x:=fun x b w=>by
  induction w with
  | here=>exact I.fst
  | there w hm ih=>
   rcases I.cls _ ih with d | d | d
   ·cases d
   ·cases d
   ·exact d _ _ (.inl hm)
  | back w hm ih=>
   rcases I.cls _ ih with d | d | d
   ·cases d
   ·cases d
   ·exact d _ _ (.inr hm)
 intro x b w;obtain⟨v,hv⟩:=hall x b w;obtain⟨b',e,_⟩:=I.val x v hv;exact⟨b',by rw [hv,e]⟩
end Nt
namespace Nt
open PySem L2
open PyProof.Rows (sortedS)
def Hang(n:Net):Prop:=∀ P:Str->Prop,(∃ r∈n,P r.1)->(∀ r∈n,∀ s∈n,∀ t,t∈r.2->t∈s.2->P r.1->P s.1)->∀ r∈n,P r.1
theorem k3o{n m:Net}(h1:∀ r∈n,∃ s∈m,s.1=r.1/\∀ t∈r.2,t∈s.2)(h2:∀ s∈m,∃ r∈n,r.1=s.1)(h:Hang n):Hang m:=by
 rintro P ⟨s,hs,ps⟩ cl s' hs';obtain⟨r,hr,er⟩:=h2 s hs;obtain⟨r',hr',er'⟩:=h2 s' hs';rw [<- er'];refine h P ⟨r,hr,by rw [er];exact ps⟩ (fun a ha b hb t ta tb pa=>?_) r' hr';obtain⟨a',ha',ea,sa⟩:=h1 a ha;obtain⟨b',hb',eb,sb⟩:=h1 b hb;rw [<- eb];exact cl a' ha' b' hb' t (sa t ta) (sb t tb) (by rw [ea];exact pa)
theorem k7f(r:Str×List Str):Hang [r]:=by
 rintro P ⟨s,hs,ps⟩ _ x hx;rw [Ag] at hs hx;rw [hx,<- hs];exact ps
theorem k5d(n:Net)(c:End)(z:Str)(i:Nat):(ins n c z)[i]?=(n[i]?).map fun r=>if c.1=i then(r.1,r.2.take c.2++z :: r.2.drop c.2) else r:=by
 unfold ins;rw [Dz]
 by_cases h:c.1=i
 ·simp [h]
 ·simp [h]
theorem j70{n:Net}{c:End}{z:Str}(h:Hang n):Hang (ins n c z):=by
 refine k3o (fun r hr=>?_) (fun s hs=>?_) h
 ·obtain⟨i,hi⟩:=Az hr;have e:=k5d n c z i;rw [hi] at e;refine⟨_,Av e,?_,fun t ht=>?_⟩
  ·split <;> rfl
  ·split
   ·show t∈r.2.take c.2++z :: r.2.drop c.2;rw [<- Cn c.2 r.2] at ht
    rcases At.mp ht with q | q
    ·exact Bs _ q
    ·exact As _ (Ao _ q)
   ·exact ht
 ·obtain⟨i,hi⟩:=Az hs;rw [k5d,Aw] at hi;obtain⟨r,hr,e⟩:=hi;refine⟨r,Av hr,?_⟩;rw [<- e]
  split <;> rfl
theorem q3i{n:Net}{c:End}{z:Str}(hc:c.1 < n.length):∃ r∈ins n c z,z∈r.2:=by
 have e:=k5d n c z c.1;rw [Ab hc] at e;refine⟨_,Av e,?_⟩;show z∈(if c.1=c.1 then((n[c.1].1,n[c.1].2.take c.2++z :: n[c.1].2.drop c.2):Str×List Str) else n[c.1]).2;rw [if_pos rfl];exact As _ (Au ..)
theorem k45{n:Net}{z pt:Str}(h:Hang n)(hz:∃ r∈n,z∈r.2):Hang (n++[(pt,[z])]):=by
 obtain⟨r,hr,zr⟩:=hz;rintro P ⟨s,hs,ps⟩ cl x hx;have mn:((pt,[z]):Str×List Str)∈n++[(pt,[z])]:=As _ (Ag.mpr rfl);have ml:∀{y},y∈n->y∈n++[(pt,[z])]:=fun hy=>Bs _ hy;have all:∀ y∈n,P y.1:=by
  refine h P ?_ (fun a ha b hb t ta tb pa=>cl a (ml ha) b (ml hb) t ta tb pa)
  rcases At.mp hs with q | q
  ·exact⟨s,q,ps⟩
  ·rw [Ag] at q;subst q;exact⟨r,hr,cl _ mn r (ml hr) z (Ag.mpr rfl) zr ps⟩
 rcases At.mp hx with q | q
 ·exact all x q
 ·rw [Ag] at q;subst q;exact cl r (ml hr) _ mn z zr (Ag.mpr rfl) (all r hr)
theorem k9f{n:Net}(T:j04 n){x:Lk}(h:j6r n x):∃ e,j1d n e=some x.1/\x.2.1=nmA n e.1/\x.2.2=nmA n (other n e).1:=by
 obtain⟨a,b,hp,h1,h2⟩:=h;have ha:j1d n a=some x.1:=mem_pos.mp (by rw [hp];exact Au ..);have hb:j1d n b=some x.1:=mem_pos.mp (by rw [hp];simp);have hnd:=j8i n x.1;rw [hp] at hnd;have hab:b≠a:=fun q=>by rw [q] at hnd;simp at hnd
 rcases (j4z T ha).mp hb with q | q
 ·exact absurd q hab
 ·exact⟨a,ha,h1,by rw [h2,q]⟩
theorem k8v{n:Net}(T:j04 n){e:End}{z:Str}(h:j1d n e=some z):j6r n (z,nmA n e.1,nmA n (other n e).1)\/j6r n (z,nmA n (other n e).1,nmA n e.1):=by
 obtain⟨a,b,hp,hab,hh⟩:=j5u T h;have ha:j1d n a=some z:=mem_pos.mp (by rw [hp];exact Au ..);have hb:j1d n b=some z:=mem_pos.mp (by rw [hp];simp)
 rcases hh with q | q
 ·subst q;refine .inl ⟨e,b,hp,rfl,?_⟩
  rcases (j4z T h).mp hb with q | q
  ·exact absurd q.symm hab
  ·show nmA n (other n e).1=nmA n b.1;rw [q]
 ·subst q;refine .inr ⟨a,e,hp,?_,rfl⟩
  rcases (j4z T h).mp ha with q | q
  ·exact absurd q hab
  ·show nmA n (other n e).1=nmA n a.1;rw [q]
def fstN(n:Net):Str:=nmA n 0
theorem j4p{n:Net}{i:Nat}(h:i < n.length):nmA n i∈n.map (·.1):=by
 rw [j13 h];exact Ak.mpr ⟨_,Cc h,rfl⟩
theorem k7p{n:Net}(T:j04 n){e:End}{z:Str}(h:j1d n e=some z):(other n e).1 < n.length:=j2a (j2p T h).1
end Nt
namespace R4
open PySem L2 Nt Sort2
def q3j:Sp:=fun vs H Q _=>∃(R:Addr) (as:List (Addr×Addr)) (n:Net) (b:Int) (z pt:Str),vs=[.ref R,.int b,.str z,.str pt]/\RowsAt H R as n/\j04 n/\Full n/\z∉ties n/\n.length<=100/\(ties n).length<=100 /\
 ∀ i as' n' H',RowsAt H' R as' n'->Keep H H' (R :: as.map (·.2))->(∀ a∈as',a∈as\/H a.2=none)->(ties n').Perm (z :: z :: ties n)->(n'.map (·.1)=n.map (·.1)\/n'.map (·.1)=n.map (·.1)++[pt])->Full n'->(Hang n->Hang n')->Q (.int i) H'
section
variable{P:Program}{w:World}{K:PySem.W.Frag}{mg:Str->Option Value}{base:Heap}
abbrev NP:List Str:=["_law_rows","_law_big_here","_law_tie","_law_point","_law_corners","_law_r","_law_place","_law_one","_law_kind","_law_face_here","_law_other_here","_law_spot"]
theorem scPut:FnScope NP ["_law_rows","_law_big_here","_law_tie","_law_point"] (j0g sPut):=⟨rfl,rfl,rfl,by decide +kernel,rfl,by decide +kernel,by decide +kernel⟩
theorem j7l{ts:List Addr}{j:Nat}{t:Addr}(h:ts[j]?=some t):atI (ts.map V.ref) (j:Int)=some (.ref t):=j4q (by rw [Ad,h];rfl)
theorem q44{f:Addr}{fd:FuncData}(F:Fun K "_law_put" "_law_put" sPut f fd)(T:Txt mg)
  (GS:Has P w K mg base 3 "_law_seats" ["_law_rows"] j7u)
  (GF:Has P w K mg base 3 "_law_face" ["_law_rows","_law_seats_here","_law_end"] k1p) :
  FnOk P w K mg base CX0 4 f fd ["_law_rows","_law_big_here","_law_tie","_law_point"] q3j:=by
 refine F.gb scPut (fun vs H Q E h=>?_) (fun b0 H vs Q E hr h=>?_)
 ·obtain⟨R,as,n,b,z,pt,rfl,_⟩:=h;rfl
 obtain⟨R,as,n,b,z,pt,rfl,hR,hT,hF,hz,hn,htn,q⟩:=h;have nd:=scPut.nd;have hu:=hr.u100;have hal:=hR.len;show Run _ _ _ [some (.ref R),some (.int b),some (.str z),some (.str pt),none,none,none,none,none,none,none,none] H;refine j0j 4 nd (j1h (j0c ⟨(by show 0<=sizeLine;decide),fun lc hlc=>?_⟩));have g0:=j0e hlc (.lst []);refine j1q T.range (j0y j0l T.len boot_len (j0a (ev_v 0 (j0c ⟨R,_,rfl,.inl (SqL.of (g0 _ _ hR.lst)),_,rfl,by omega,by rw [Aa];omega,?_⟩))));rw [Aa,hal,Bd];refine j1j (fun r σ H3=>∃(ts:List Addr) (cs:List Nt.End) (u1 u2:Option V),Same H H3/\H3 lc=some (.lst (ts.map V.ref))/\Pd H3 ts cs/\(∀ c∈cs,j1t n c)/\(0 < r->cs≠[])/\cs.length<=101 * r/\σ=[some (.ref R),some (.int b),some (.str z),some (.str pt),some (.ref lc),u1,u2,none,none,none,none,none]) ⟨[],[],_,_,g0,j0b,.nil,fun c hc=>(nomatch hc),fun h=>absurd h (by decide),Ah _,rfl⟩ ?_ ?_
 ·rintro r σ H3 hi ⟨ts,cs,u1,u2,sH,el,ep,hc,hne,hlen,rfl⟩;rw [De];refine j0k 5 nd ?_;obtain⟨a,ea,eat,et,ell,er⟩:=(hR.same sH).at hi;have hrl:=j28 n r;refine j1q T.range (j0y (j55 rfl) T.max PyProof.Rows.boot_max (j0a (j0h (j0a (j0y j0l T.len boot_len (j0a (j0q j0x (j0q j0s (ev_v 0 (ev_v 5 ⟨R,_,_,.ref a.1,rfl,rfl,SqL.of (sH _ _ hR.lst),eat,j0h ⟨a.1,_,_,.ref a.2,rfl,rfl,SqT.of et,rfl,j0c ⟨a.2,_,rfl,.inl (SqL.of ell),?_⟩⟩⟩))))))))));rw [Aa];have em:(if((row n r).length:Int) > 1 then((row n r).length:Int) else 1)=((max 1 (row n r).length:Nat):Int):=by
   split <;> omega
  refine j0c ⟨1,_,rfl,((max 1 (row n r).length:Nat):Int),by rw [em],by omega,by omega,?_⟩;rw [Bd];refine j1j (fun p σ H4=>∃(ts:List Addr) (cs:List Nt.End) (u2:Option V),Same H H4/\H4 lc=some (.lst (ts.map V.ref))/\Pd H4 ts cs/\(∀ c∈cs,j1t n c)/\(0 < r+p->cs≠[])/\cs.length<=101 * r+p/\σ=[some (.ref R),some (.int b),some (.str z),some (.str pt),some (.ref lc),some (.int (r:Int)),u2,none,none,none,none,none]) ⟨ts,cs,_,sH,el,ep,hc,hne,hlen,rfl⟩ ?_ ?_
  ·rintro p σ H4 hp ⟨ts,cs,u2,sH,el,ep,hc,hne,hlen,rfl⟩;rw [De];refine j0k 6 nd ?_;refine j0v (j1r (ev_v 4 ⟨lc,rfl,⟨_,el⟩,j1n (j0a (ev_v 5 (j0a (ev_v 6 (j0c ⟨(by show 2<=sizeLine;decide),fun t ht=>?_⟩)))))⟩));have htl:lc≠t:=j0f el ht;have s2:=j0e ht (Tp (r,p));have epl:=ep.length;refine⟨ts.map V.ref,by rw [j0d htl];exact el,by rw [Aa];exact j00 (by omega),?_⟩;refine j0i ⟨ts++[t],cs++[(r,p)],_,j02 (sH.trans s2) hlc,by rw [j0b,Ai];rfl,?_,fun c h=>?_,fun _=>by simp,by rw [Af];simp;omega,rfl⟩
   ·refine Pd.append (ep.keep fun x e h=>?_) (.cons ?_ .nil)
    ·rw [j0d (j27 h el)];exact s2 _ _ h
    ·rw [j0d htl.symm,j0b]
   ·rcases At.mp h with h | h
    ·exact hc c h
    ·rw [Ag] at h;subst h;exact⟨hi,hp⟩
  ·rintro σ H4 ⟨ts,cs,u2,sH,el,ep,hc,hne,hlen,rfl⟩;refine j0i ⟨ts,cs,_,_,sH,el,ep,hc,fun _=>hne (by omega),by omega,rfl⟩
 rintro σ H3 ⟨ts,cs,u1,u2,sH,el,ep,hc,hne,hlen,rfl⟩;have hn0:0 < n.length:=Co.mpr hF.some;have cne:=hne hn0;have cpos:0 < cs.length:=Co.mpr cne;have epl:=ep.length;have m0:0<=b % (cs.length:Int):=Bo _ (by omega);have m1:b % (cs.length:Int) < cs.length:=Br _ (by omega);obtain⟨j,hj⟩:∃ j:Nat,b % (cs.length:Int)=j:=⟨(b % (cs.length:Int)).toNat,by omega⟩;have hjl:j < cs.length:=by omega
 have hce:cs[j]?=some cs[j]:=Ab hjl;obtain⟨t1,et1,e1⟩:=ep.at hce;have hcc:j1t n cs[j]:=hc _ (Cc hjl);generalize cs[j]=c1 at e1 hcc;refine j0j 7 nd (j0q j0s (ev_v 4 (j0t j1i (ev_v 1 (j0y j0l T.len boot_len (j0a (ev_v 4 (j0c ⟨lc,_,rfl,.inl (SqL.of el),?_⟩))))))));rw [Aa,epl];refine⟨_,_,rfl,rfl,by omega,lc,_,_,.ref t1,rfl,rfl,SqL.of el,by rw [hj];exact j7l et1,?_⟩;refine j0j 1 nd (j0t j2d (ev_v 1 (j0y j0l T.len boot_len (j0a (ev_v 4 (j0c ⟨lc,_,rfl,.inl (SqL.of el),?_⟩))))));rw [Aa,epl];refine⟨_,_,rfl,rfl,⟨by omega,by omega⟩,?_⟩;show Run _ _ _ [some (.ref R),some (.int (b / (cs.length:Int))),some (.str z),some (.str pt),some (.ref lc),u1,u2,some (.ref t1),none,none,none,none] H3;generalize b / (cs.length:Int)=b2;refine j0j 8 nd (j0t j1i (ev_v 1 (j0h ⟨_,_,rfl,rfl,(by show(0:Int) < 3;decide),?_⟩)));refine j0j 1 nd (j0t j2d (ev_v 1 (j0h ⟨_,_,rfl,rfl,⟨by decide,by decide⟩,?_⟩)));show Run _ _ _ [some (.ref R),some (.int (b2 / 3)),some (.str z),some (.str pt),some (.ref lc),u1,u2,some (.ref t1),some (.int (b2 % 3)),none,none,none] H3;generalize b2 / 3=b3;have hR3:=hR.same sH;obtain⟨a,ea,eat,eta,ela,era⟩:=hR3.at hcc.1;have insOk:∀(m:Net),(ties m).length<=200->∀ i,(row m i).length<=200:=fun m h i=>Bv (j28 m i) h;have cin:c1.2<=(row n c1.1).length:=by
  have:=hcc.2;omega
 refine j11 (j09 j6y (ev_v 8 (j0h ⟨rfl,_,rfl,?_⟩)));refine ite2 (fun _=>?_) (fun _=>j0i ?_)
 ·
  have rl:=j28 n c1.1;refine j0v (k79 PySem.F.plainAttrs_list PySem.F.slot_list_insert PySem.F.type_list_insert j6h (j0q j0x (j0q j0s (ev_v 0 (j0q j0x (ev_v 7 (j0h ⟨t1,_,_,.int (c1.1:Int),rfl,rfl,SqT.of e1,rfl,R,_,_,.ref a.1,rfl,rfl,SqL.of hR3.lst,eat,j0h ⟨a.1,_,_,.ref a.2,rfl,rfl,SqT.of eta,rfl,Or.inl ⟨rfl,_,SqL.of ela⟩,?_⟩⟩)))))));refine j0q j0x (ev_v 7 (j0h ⟨t1,_,_,.int (c1.2:Int),rfl,rfl,SqT.of e1,rfl,ev_v 2 ⟨a.2,_,_,_,rfl,rfl,ela,by omega,by rw [Bd,Aa];exact cin,by rw [Aa];exact j00 (by omega),?_⟩⟩));rw [Bd,k4e];have R4:=hR3.ins (z:=z) ea hcc.1;refine j0v (j1r (ev_v 0 ⟨R,rfl,⟨_,R4.lst⟩,j1n (j0a (ev_v 3 (j0a (j1h (j0a (ev_v 2 (j0c ⟨(by show 1<=sizeLine;decide),fun l1 hl1=>?_⟩)))))))⟩));refine j0c ⟨(by show 2<=sizeLine;decide),fun t2 ht2=>?_⟩;have s5:=j0e hl1 (Ls [z]);have s6:=j0e ht2 (.tup [.str pt,.ref l1]);have R6:=(R4.same s5).same s6;refine⟨_,R6.lst,by rw [Aa];exact j00 (by omega),?_⟩;have l1f:H3 l1=none:=by
   by_cases q1:l1=a.2
   ·rw [q1,j0b] at hl1;cases hl1
   ·rwa [j0d q1] at hl1
  have l1n:l1∉as.map (·.2):=fun hm=>by
   obtain⟨x,hx,e⟩:=Ak.mp hm;exact R4.fresh hl1 hx e.symm
  have l1R:l1≠R:=fun e=>by rw [e,R4.lst] at hl1;cases hl1
  have R7:=R6.more (t:=t2) (l:=l1) (pt:=pt) (zs:=[z]) j0b (s6 _ _ j0b) l1n l1R;refine j0r (ev_v 1 (q _ _ _ _ R7 (fun x o hx hbad=>?_) (fun x hx=>?_) ?_ (.inr ?_) ?_ fun hh=>k45 (j70 hh) (q3i hcc.1)))
  ·have x1:x≠R:=fun e=>hbad (by rw [e];exact Au);have x2:x≠a.2:=fun e=>hbad (Ao _ (by rw [e];exact Ak.mpr ⟨a,Av ea,rfl⟩));rw [j0d x1];refine s6 _ _ (s5 _ _ ?_);rw [j0d x2];exact sH _ _ hx
  ·rcases At.mp hx with hx | hx
   ·exact .inl hx
   ·rw [Ag] at hx;subst hx;exact .inr (sH.free l1f)
  ·unfold ties;rw [Dg];show(ties (ins n c1 z)++[z]).Perm _;refine(Do).trans ?_;exact(j18 n c1 z hcc.1).cons z
  ·rw [Ai,j2h];rfl
  ·refine .inr ⟨by simp,fun i hi=>?_⟩;have hfi:=(j5l (z:=z) hF hcc.1 hF.either).1;rw [Af] at hi;simp at hi
   rcases Cj i (ins n c1 z).length with h | h
   ·have:=hfi i h;unfold row at this ⊢;rw [Ar h];exact this
   ·unfold row;rw [Ay h,show i - (ins n c1 z).length=0 by omega];simp
 ·
  refine j0j 9 nd (j1h (j0a (ev_v 7 (j0c ⟨(by show 1<=sizeLine;decide),fun lf hlf=>?_⟩))));have s4:=j0e hlf (.lst [.ref t1]);have sH4:=sH.trans s4;have hR4:=hR3.same s4;obtain⟨a0,ea0,eat0,et0,el0,er0⟩:=hR4.at hn0;have lf0:∀ x∈as,lf≠x.2:=fun x hx=>hR3.fresh hlf hx;show Run _ _ _ [some (.ref R),some (.int b3),some (.str z),some (.str pt),some (.ref lc),u1,u2,some (.ref t1),some (.int (b2 % 3)),some (.ref lf),none,none] (upd H3 lf (.lst [.ref t1]));refine j6o (fun k H'=>Same (upd H3 lf (.lst [.ref t1])) H'/\(k=true->row n 0≠[])) (fun σ' H'=>∃(lf:Addr) (ts2:List Addr) (fs:List Nt.End),Same H3 H'/\(∀ x∈as,lf≠x.2)/\H' lf=some (.lst (ts2.map V.ref))/\Pd H' ts2 fs/\0 < fs.length/\fs.length<=1000/\(∀ c∈fs,j1t n c) /\
   σ'=[some (.ref R),some (.int b3),some (.str z),some (.str pt),some (.ref lc),u1,u2,some (.ref t1),some (.int (b2 % 3)),some (.ref lf),none,none]) ?_ ?_ (fun H5 ⟨s5,_⟩=>j0i ⟨lf,[t1],[c1],s4.trans s5,lf0,s5 _ _ j0b,.cons (s5 _ _ (s4 _ _ e1)) .nil,Ft,by show 1<=1000;decide,fun c hcm=>by rw [Ag] at hcm;rw [hcm];exact hcc,rfl⟩) ?_
  ·refine j09 (j5w hu) (j0q j0x (j0q j0s (ev_v 0 (j0h ⟨R,_,_,.ref a0.1,rfl,rfl,SqL.of hR4.lst,eat0,j0h ⟨a0.1,_,_,.ref a0.2,rfl,rfl,SqT.of et0,rfl,j1h (j0c ⟨(by show 0<=sizeLine;decide),fun p hp=>?_⟩)⟩⟩))));have s5:=j0e hp (.lst [])
   by_cases h0:row n 0=[]
   ·refine⟨1,_,by decide,j5h (k:=0) (xs:=[]) (ys:=[]) (fun _=>true) (SqL.of (by rw [s5 _ _ el0,h0];rfl)) (SqL.of j0b) rfl (fun j x y hx _=>by simp at hx),_,rfl,s5,fun h=>by cases h⟩
   ·refine⟨1,_,by decide,j7s (k:=1) (SqL.of (s5 _ _ el0)) (SqL.of (xs:=[]) j0b) (by rw [Aa];intro h;exact h0 (Be.mp h)),_,rfl,s5,fun _=>h0⟩
  ·rintro H4 ⟨s45,h0⟩;have h0:=h0 rfl;have hR4:=hR4.same s45;have he1:=hF.corner h0 hcc;have hel:=j4m n;refine j0j 9 nd (j0u GF hr (j0a (ev_v 0 (j0a (j0u GS hr (j0a (ev_v 0 (j0c ⟨R,as,n,rfl,hR4,by omega,by omega,fun d ks H5 s5 n5 S5=>?_⟩))))))));refine j0a (ev_v 7 (j0c ⟨R,d,t1,as,n,ks,c1,rfl,hR4.same s5,S5,hT,s5 _ _ (s45 _ _ (s4 _ _ e1)),he1,by omega,fun l6 ts6 fs6 H6 s6 n6 e6 p6 f6=>?_⟩));exact j0i ⟨l6,ts6,fs6,s4.trans (s45.trans (s5.trans s6)),fun x hx=>(hR4.same s5).fresh n6 hx,e6,p6,f6.pos,by have:=f6.len;omega,fun c hcm=>j4k (f6.ends hT he1 c hcm),rfl⟩
  ·rintro σ' H5 ⟨lf,ts2,fs,s5,lfn,elf,epf,fpos,flen,fcor,rfl⟩;have epl2:=epf.length;have n0:0<=b3 % (fs.length:Int):=Bo _ (by omega);have n1:b3 % (fs.length:Int) < fs.length:=Br _ (by omega);obtain⟨j2,hj2⟩:∃ j:Nat,b3 % (fs.length:Int)=j:=⟨(b3 % (fs.length:Int)).toNat,by omega⟩;have hjl2:j2 < fs.length:=by omega
   have hce2:fs[j2]?=some fs[j2]:=Ab hjl2;obtain⟨t2,et2,e2⟩:=epf.at hce2;have hcc2:j1t n fs[j2]:=fcor _ (Cc hjl2);generalize fs[j2]=c2 at e2 hcc2;have e1':=s5 _ _ e1;refine j0j 10 nd (j0q j0s (ev_v 9 (j0t j1i (ev_v 1 (j0y j0l T.len boot_len (j0a (ev_v 9 (j0c ⟨lf,_,rfl,.inl (SqL.of elf),?_⟩))))))));rw [Aa,epl2];refine⟨_,_,rfl,rfl,by omega,lf,_,_,.ref t2,rfl,rfl,SqL.of elf,by rw [hj2];exact j7l et2,?_⟩;have hR5:=hR3.same s5;show Run _ _ _ [some (.ref R),some (.int b3),some (.str z),some (.str pt),some (.ref lc),u1,u2,some (.ref t1),some (.int (b2 % 3)),some (.ref lf),some (.ref t2),none] H5;refine j2f (k20 T.sorted (j1h (j0a (ev_v 7 (j0a (ev_v 10 (j0c ⟨(by show 2<=sizeLine;decide),fun l2 hl2=>?_⟩)))))));have s6:=j0e hl2 (.lst [.ref t1,.ref t2]);refine⟨l2,t1,t2,(c1.1:Int),(c1.2:Int),(c2.1:Int),(c2.2:Int),rfl,j0b,s6 _ _ e1',s6 _ _ e2,fun rr hrr=>?_⟩;have rn:∀ x∈as,rr≠x.2:=fun x hx=>(hR5.same s6).fresh hrr hx;obtain⟨x1,x2,k1,k2,hxs,f1,f2,q1,q2⟩:∃ x1 x2 k1 k2,(if lexLt ((c1.1:Int),(c1.2:Int)) ((c2.1:Int),(c2.2:Int))=true then [V.ref t2,.ref t1] else [.ref t1,.ref t2])=[.ref x1,.ref x2]/\(upd H5 l2 (.lst [.ref t1,.ref t2])) x1=some (Tp k1)/\(upd H5 l2 (.lst [.ref t1,.ref t2])) x2=some (Tp k2)/\j1t n k1/\j1t n k2:=by
    cases lexLt ((c1.1:Int),(c1.2:Int)) ((c2.1:Int),(c2.2:Int)) with
    | true=>exact⟨t2,t1,c2,c1,rfl,s6 _ _ e2,s6 _ _ e1',hcc2,hcc⟩
    | false=>exact⟨t1,t2,c1,c2,rfl,s6 _ _ e1',s6 _ _ e2,hcc,hcc2⟩
   rw [hxs];have s7:=j0e hrr (.lst [.ref x1,.ref x2]);have f1:=s7 _ _ f1;have f2:=s7 _ _ f2;have s6:=s6.trans s7;have fr:=j0b (H:=upd H5 l2 (.lst [.ref t1,.ref t2])) (a:=rr) (o:= .lst [.ref x1,.ref x2]);generalize upd (upd H5 l2 (.lst [.ref t1,.ref t2])) rr (.lst [.ref x1,.ref x2])=H6 at f1 f2 s6 fr ⊢;have sH6:Same H H6:=sH.trans (s5.trans s6);have hR6:=hR5.same s6;have keep0:Keep H H6 (R :: as.map (·.2)):=fun x o hx _=>sH6 _ _ hx;refine⟨rr,rfl,⟨_,SqL.of fr⟩,j1v (xs:=[.ref x1,.ref x2]) (fun i σ H7=>∃(m:Net) (u:Option V),RowsAt H7 R as m/\Keep H H7 (R :: as.map (·.2))/\H7 rr=some (.lst [.ref x1,.ref x2])/\H7 lf=some (.lst (ts2.map V.ref))/\H7 x1=some (Tp k1)/\H7 x2=some (Tp k2) /\
    ((i=0/\m=n)\/(i=1/\m=ins n k1 z)\/(i=2/\m=ins (ins n k1 z) k2 z))/\σ=[some (.ref R),some (.int b3),some (.str z),some (.str pt),some (.ref lc),u1,u2,some (.ref t1),some (.int (b2 % 3)),some (.ref lf),some (.ref t2),u]) ⟨n,_,hR6,keep0,fr,s6 _ _ elf,f1,f2,.inl ⟨rfl,rfl⟩,rfl⟩ ?_ ?_ ?_⟩
   ·rintro i σ H7 _ ⟨m,u,_,_,fr7,_⟩;exact SqL.of fr7
   ·rintro i v σ H7 hv ⟨m,u,hR7,kp7,fr7,fl7,g1,g2,hm,rfl⟩;have ti1:=(j18 n k1 z q1.1).length_eq;rw [An] at ti1;obtain⟨y,k,rfl,hy,hk,hnext,hml⟩:∃ y k,v = .ref y/\H7 y=some (Tp k)/\j1t m k/\((i+1=0/\ins m k z=n)\/(i+1=1/\ins m k z=ins n k1 z)\/(i+1=2/\ins m k z=ins (ins n k1 z) k2 z))/\(ties m).length<=200:=by
     rcases hm with ⟨rfl,rfl⟩ | ⟨rfl,rfl⟩ | ⟨rfl,rfl⟩
     ·cases hv;exact⟨x1,k1,rfl,g1,q1,.inr (.inl ⟨rfl,rfl⟩),by omega⟩
     ·cases hv;exact⟨x2,k2,rfl,g2,j2c q2 q1.1,.inr (.inr ⟨rfl,rfl⟩),by omega⟩
     ·simp at hv
    refine j0k 11 nd ?_;obtain⟨a',ea',eat',eta',ela',era'⟩:=hR7.at hk.1;have rl:=j28 m k.1;have kin:k.2<=(row m k.1).length:=by
     have:=hk.2;omega
    refine j0v (k79 PySem.F.plainAttrs_list PySem.F.slot_list_insert PySem.F.type_list_insert j6h (j0q j0x (j0q j0s (ev_v 0 (j0q j0x (ev_v 11 (j0h ⟨y,_,_,.int (k.1:Int),rfl,rfl,SqT.of hy,rfl,R,_,_,.ref a'.1,rfl,rfl,SqL.of hR7.lst,eat',j0h ⟨a'.1,_,_,.ref a'.2,rfl,rfl,SqT.of eta',rfl,Or.inl ⟨rfl,_,SqL.of ela'⟩,?_⟩⟩)))))));refine j0q j0x (ev_v 11 (j0h ⟨y,_,_,.int (k.2:Int),rfl,rfl,SqT.of hy,rfl,ev_v 2 ⟨a'.2,_,_,_,rfl,rfl,ela',by omega,by rw [Bd,Aa];exact kin,by rw [Aa];exact j00 (by omega),?_⟩⟩));rw [Bd,k4e];have am:a'∈as:=Av ea';refine j0i ⟨ins m k z,_,hR7.ins ea' hk.1,fun x o hx hbad=>?_,by rw [j0d (rn a' am)];exact fr7,by rw [j0d (lfn a' am)];exact fl7,by rw [j0d (j27 g1 ela')];exact g1,by rw [j0d (j27 g2 ela')];exact g2,hnext,rfl⟩;have x2:x≠a'.2:=fun e=>hbad (Ao _ (by rw [e];exact Ak.mpr ⟨a',am,rfl⟩));rw [j0d x2];exact kp7 x o hx hbad
   ·rintro σ H7 ⟨m,u,hR7,kp7,fr7,fl7,g1,g2,hm,rfl⟩;have em:m=ins (ins n k1 z) k2 z:=by
     rcases hm with ⟨h,_⟩ | ⟨h,_⟩ | ⟨_,h⟩
     ·exact absurd h (by show ¬(2=0);decide)
     ·exact absurd h (by show ¬(2=1);decide)
     ·exact h
    refine j0r (j0t j2d (ev_v 1 (j0y j0l T.len boot_len (j0a (ev_v 9 (j0c ⟨lf,_,rfl,.inl (SqL.of fl7),?_⟩))))));rw [Aa,epl2];refine⟨_,_,rfl,rfl,⟨by omega,by omega⟩,?_⟩;have fi:=j5l (z:=z) hF q1.1 hF.either;have F2:Full (ins n k1 z):= .inr ⟨fi.2,fi.1⟩;have fi2:=j5l (z:=z) F2 (j2c (z:=z) q2 q1.1).1 F2.either;subst em;exact q _ as _ H7 hR7 kp7 (fun x hx=> .inl hx) ((j18 _ k2 z (j2c (z:=z) q2 q1.1).1).trans ((j18 n k1 z q1.1).cons z)) (.inl (by rw [j2h,j2h])) (.inr ⟨fi2.2,fi2.1⟩) fun hh=>j70 (j70 hh)
end
end R4
namespace R4
open PySem L2 Nt Sort2
def q2f:Sp:=fun vs H Q _=>∃(b m sm:Int),vs=[.int b,.int m,.int sm]/\0<=m/\m<=35 /\
 ∀ L as n H',Same H H'->H L=none->RowsAt H' L as n->j04 n->(n.map (·.1)).Nodup->Full n->Hang n->(ties n).length<=2 * m.toNat->n.length<=m.toNat+1->(∀ a∈as,H a.2=none)->Short n->Q (.ref L) H'
section
variable{P:Program}{w:World}{K:PySem.W.Frag}{mg:Str->Option Value}{base:Heap}
abbrev NB:List Str:=["_law_big_here","_law_most","_law_stem","_law_many","_law_ties_here","_law_points","_law_rows","_law_k","_law_told","_law_row","_law_size"]
theorem scNet:FnScope NB ["_law_big_here","_law_most","_law_stem"] (j0g sNet):=⟨rfl,rfl,rfl,by decide +kernel,rfl,by decide +kernel,by decide +kernel⟩
theorem q5d{H:Hp}{d:Addr}{xs:List V}(h:H d=some (.lst xs)):tyV K "list" (.ref d) H:=Or.inl ⟨rfl,xs,SqL.of h⟩
theorem j4p{b:Int}{m i:Nat}(h:i < m):atI ((namesOf b m).map V.str) (i:Int)=some (.str (nameOf b i)):=j40 (k2k h)
theorem q35{f:Addr}{fd:FuncData}(F:Fun K "_law_net_by" "_law_net_by" sNet f fd)(T:Txt mg)
  (GN:Has P w K mg base 4 "_law_names" ["_law_stem","_law_many"] k03)
  (GP:Has P w K mg base 4 "_law_put" ["_law_rows","_law_big_here","_law_tie","_law_point"] q3j) :
  FnOk P w K mg base CX0 5 f fd ["_law_big_here","_law_most","_law_stem"] q2f:=by
 refine F.gb scNet (fun vs H Q E h=>?_) (fun b0 H vs Q E hr h=>?_)
 ·obtain⟨b,m,sm,rfl,_⟩:=h;rfl
 obtain⟨b,m,sm,rfl,m0,m35,q⟩:=h;have nd:=scNet.nd;have hu:=hr.u100;have k0:0<=b % (m+1):=Bo _ (by omega);have k1:b % (m+1) < m+1:=Br _ (by omega);obtain⟨mn,hmn⟩:∃ k:Nat,b % (m+1)=k:=⟨(b % (m+1)).toNat,by omega⟩;have hmm:mn<=m.toNat:=by omega
 show Run _ _ _ [some (.int b),some (.int m),some (.int sm),none,none,none,none,none,none,none,none] H;refine j0j 3 nd (j0t j1i (ev_v 0 (j0t j2i (ev_v 1 (j0h ⟨_,_,rfl,rfl,?_⟩)))));refine⟨_,_,rfl,rfl,(by show 0 < m+1;omega),?_⟩;refine j0j 0 nd (j0t j2d (ev_v 0 (j0t j2i (ev_v 1 (j0h ⟨_,_,rfl,rfl,?_⟩)))));refine⟨_,_,rfl,rfl,(by show CDiv b (m+1);exact⟨by omega,by omega⟩),?_⟩;show Run _ _ _ [some (.int (b / (m+1))),some (.int m),some (.int sm),some (.int (b % (m+1))),none,none,none,none,none,none,none] H;rw [hmn];generalize b / (m+1)=b1;refine j0j 4 nd (j0u GN hr (j0a (ev_v 2 (j0a (ev_v 3 (j0c ⟨sm,(mn:Int),rfl,by omega,by omega,fun lt H1 s1 n1 e1=>?_⟩))))));rw [Bd] at e1;refine j0j 5 nd (j0u GN hr (j0a (j0q j0s (j1h (j0a (j0t j2i (j0t j2d (ev_v 2 (j0h ⟨_,_,rfl,rfl,⟨by decide,by decide⟩,j0h ⟨_,_,rfl,rfl,j0a (ev_v 2 (j0c ⟨(by show 2<=sizeLine;decide),fun p hp=>?_⟩))⟩⟩)))))))));refine j34 j8j T.tint PyProof.Rows.boot_int (j0a (j59 j6y (j0t j1i (ev_v 2 (j0h ⟨_,_,rfl,rfl,(by show(0:Int) < 4;decide),j0h ⟨rfl,j0c ⟨_,rfl,?_⟩⟩⟩)))));have s2:=j0e hp (.lst [.int (sm / 3+1),.int sm]);obtain⟨s2m,ex⟩:∃ s2m:Int,atI [V.int (sm / 3+1),.int sm] (if decide (V.int (sm % 4)=V.int 1)=true then 1 else 0)=some (.int s2m):=by
  cases decide (V.int (sm % 4)=V.int 1) with
  | true=>exact⟨sm,rfl⟩
  | false=>exact⟨sm / 3+1,rfl⟩
 refine⟨p,_,_,.int s2m,rfl,rfl,SqL.of j0b,ex,?_⟩;refine j0a (j0t j2i (ev_v 3 (j0h ⟨_,_,rfl,rfl,j0c ⟨s2m,(mn:Int)+1,rfl,by omega,by omega,fun lp H2 s3 n3 e3=>?_⟩⟩)));have em:((mn:Int)+1).toNat=mn+1:=by omega
 rw [em] at e3;have sH2:Same H H2:=s1.trans (s2.trans s3);have e1:H2 lt=some (Ls (namesOf sm mn)):=s3 _ _ (s2 _ _ e1);show Run _ _ _ [some (.int b1),some (.int m),some (.int sm),some (.int (mn:Int)),some (.ref lt),some (.ref lp),none,none,none,none,none] H2;refine j0j 6 nd (j1h (j0a (j1n (j0a (j0q j0s (ev_v 5 (j0h ⟨lp,_,_,.str (nameOf s2m 0),rfl,rfl,SqL.of e3,j4p (Eh _),j0a (j1h (j0c ⟨(by show 0<=sizeLine;decide),fun l1 hl1=>?_⟩))⟩)))))));refine j0c ⟨(by show 2<=sizeLine;decide),fun t1 ht1=>j0c ⟨(by show 1<=sizeLine;decide),fun R hRn=>?_⟩⟩;have s4:=j0e hl1 (Ls []);have s5:=j0e ht1 (.tup [.str (nameOf s2m 0),.ref l1]);have s6:=j0e hRn (.lst [.ref t1]);have hR0:RowsAt (upd (upd (upd H2 l1 (.lst [])) t1 (.tup [.str (nameOf s2m 0),.ref l1])) R (.lst [.ref t1])) R [(t1,l1)] [(nameOf s2m 0,[])]:=by
  refine⟨rfl,j0b,fun i a r h1 h2=>?_,by simp⟩;cases i with
  | zero=>
   cases h1;cases h2;exact⟨s6 _ _ j0b,s6 _ _ (s5 _ _ j0b)⟩
  | succ i=>simp at h1
 have fR:H2 R=none:=s4.free (s5.free hRn);show Run _ _ _ [some (.int b1),some (.int m),some (.int sm),some (.int (mn:Int)),some (.ref lt),some (.ref lp),some (.ref R),none,none,none,none] (upd (upd (upd H2 l1 (.lst [])) t1 (.tup [.str (nameOf s2m 0),.ref l1])) R (.lst [.ref t1]));refine j1q T.range (ev_v 3 ⟨(mn:Int),rfl,by omega,by omega,?_⟩);rw [Bd];refine j1j (fun k σ H3=>∃(as:List (Addr×Addr)) (n:Net) (b:Int) (u:Option V),RowsAt H3 R as n/\Same H2 H3/\(∀ a∈as,H2 a.2=none)/\Full n/\Hang n/\(ties n).Perm (dbl (namesOf sm k))/\n.map (·.1)=namesOf s2m n.length/\n.length<=k+1 /\
  σ=[some (.int b),some (.int m),some (.int sm),some (.int (mn:Int)),some (.ref lt),some (.ref lp),some (.ref R),u,none,none,none]) ⟨_,_,b1,_,hR0,s4.trans (s5.trans s6),fun a ha=>by rw [Ag] at ha;rw [ha];exact hl1,.inl ⟨_,rfl⟩,k7f _,List.Perm.refl _,rfl,Ah _,rfl⟩ ?_ ?_
 ·rintro k σ H3 hk ⟨as,n,b,u,hR,sH,hfr,hF,hHg,hp,hnm,hlen,rfl⟩;rw [De];refine j0k 7 nd ?_;have hal:=hR.len;have tl:=hp.length_eq;rw [k0o,j4a] at tl;have nz:nameOf sm k∉ties n:=fun h=>by
   have h1:=dbl_mem.mp (hp.mem_iff.mp h);have h2:=j2m (b:=sm) (m:=k+1) (by omega);rw [j2x,Cy] at h2;exact h2.2.2 _ h1 _ (Ag.mpr rfl) rfl
  have n0:0 < n.length:=Co.mpr hF.some;refine j0j 0 nd (j0u GP hr (j0a (ev_v 6 (j0a (ev_v 0 (j0a (j0q j0s (ev_v 4 (ev_v 7 ⟨lt,_,_,.str (nameOf sm k),rfl,rfl,SqL.of (sH _ _ e1),j4p hk,?_⟩)))))))));refine j0a (j0q j0s (ev_v 5 (j0y j0l T.len boot_len (j0a (ev_v 6 (j0c ⟨R,_,rfl,.inl (SqL.of hR.lst),?_⟩))))));rw [Aa,hal];refine⟨lp,_,_,.str (nameOf s2m n.length),rfl,rfl,SqL.of (sH _ _ e3),j4p (by omega),?_⟩;refine j0c ⟨R,as,n,b,nameOf sm k,nameOf s2m n.length,rfl,hR,k1s (j2m (by omega)) hp,hF,nz,by omega,by omega,fun i as' n' H' hR' kp hfr' hp' hnm' hF' hHg'=>?_⟩;have sH':Same H2 H':=fun x o hx=>by
   refine kp x o (sH _ _ hx) fun hm=>?_
   rcases Ap.mp hm with h | h
   ·rw [h,fR] at hx;cases hx
   ·obtain⟨y,hy,e⟩:=Ak.mp h;rw [<- e,hfr y hy] at hx;cases hx
  refine j0i ⟨as',n',i,_,hR',sH',fun y hy=>?_,hF',hHg' hHg,?_,?_,?_,rfl⟩
  ·rcases hfr' y hy with h | h
   ·exact hfr y h
   ·exact sH.free h
  ·refine hp'.trans ?_;rw [j2x,k69];refine List.Perm.trans ?_ Do;exact((hp.cons _).cons _)
  ·rcases hnm' with h | h
   ·have hl:=congrArg List.length h;rw [Aa,Aa] at hl;rw [h,hl];exact hnm
   ·have hl:=congrArg List.length h;rw [Aa,Af,Aa] at hl;have hl':n'.length=n.length+1:=hl;rw [h,hl',j2x,hnm]
  ·rcases hnm' with h | h
   ·have hl:=congrArg List.length h;rw [Aa,Aa] at hl;omega
   ·have hl:=congrArg List.length h;rw [Aa,Af,Aa] at hl;have hl':n'.length=n.length+1:=hl;omega
 rintro σ H3 ⟨as0,n0,b,u,hR,sH,hfr,hF,hHg,hp,hnm,hlen,rfl⟩;have tl:=hp.length_eq;rw [k0o,j4a] at tl;have hT0:j04 n0:=k1s (j2m (by omega)) hp;have hN0:(n0.map (·.1)).Nodup:=by rw [hnm];exact j2m (by omega)
 refine j0j 8 nd (j1h (j0c ⟨(by show 0<=sizeLine;decide),fun L hL=>?_⟩));have s7:=j0e hL (.lst []);have hRL:R≠L:=j0f hR.lst hL;have fL:H2 L=none:=sH.free hL;have hL0:RowsAt (upd H3 L (.lst [])) L [] []:=⟨rfl,j0b,fun i a r h1=>by simp at h1,by simp⟩;refine j4c (fun k σ H4=>∃(as as2:List (Addr×Addr)) (n n2:Net) (b:Int) (u9 u10:Option V),k=n.length/\RowsAt H4 R as n/\RowsAt H4 L as2 n2/\Same H2 H4/\(∀ a∈as,a.2≠L)/\(∀ a∈as2,a.2≠R)/\(∀ a∈as2,H2 a.2=none)/\n.length+n2.length=n0.length /\
   (ties n++ties n2).Perm (ties n0)/\(n.map (·.1)++n2.map (·.1)).Perm (n0.map (·.1))/\(NE n0->NE n/\NE n2)/\(∀ r∈n0,∃ x∈n++n2,x.1=r.1/\∀ t∈r.2,t∈x.2)/\(∀ x∈n++n2,∃ r∈n0,r.1=x.1) /\
   σ=[some (.int b),some (.int m),some (.int sm),some (.int (mn:Int)),some (.ref lt),some (.ref lp),some (.ref R),u,some (.ref L),u9,u10])
  (m0:=n0.length) ⟨as0,[],n0,[],b,_,_,rfl,hR.same s7,hL0,sH.trans s7,fun a ha=>(hR.fresh hL ha).symm,fun a ha=>(nomatch ha),fun a ha=>(nomatch ha),rfl,by simp [ties],by simp,fun h=>⟨h,fun r hr=>(nomatch hr)⟩,fun r hr=>⟨r,by rw [Ba];exact hr,rfl,fun t ht=>ht⟩,fun x hx=>⟨x,by rw [Ba] at hx;exact hx,rfl⟩,rfl⟩ ?_
 rintro k σ H4 ⟨as,as2,n,n2,b,u9,u10,rfl,hR,hL2,sH,aL,aR,fr2,hlen2,pt,pn,hne,hg1,hg2,rfl⟩;have hal:=hR.len;have hal2:=hL2.len;have tlen:(ties n).length<=70:=by
  have:=pt.length_eq;rw [Af] at this;omega
 refine j09 (j5w hu) (ev_v 6 (j1h (j0c ⟨(by show 0<=sizeLine;decide),fun p hp2=>?_⟩)));have s8:=j0e hp2 (.lst [])
 by_cases h0:n=[]
 ·subst h0;have ea:as=[]:=Be.mp (by simpa using hal);subst ea;refine⟨1,_,by decide,j5h (k:=0) (xs:=[]) (ys:=[]) (fun _=>true) (SqL.of (s8 _ _ hR.lst)) (SqL.of j0b) rfl (fun j x y hx _=>by simp at hx),_,rfl,iteF (j0r (ev_v 8 ?_))⟩;have pt':(ties n2).Perm (ties n0):=pt;have pn':(n2.map (·.1)).Perm (n0.map (·.1)):=pn;have l2:n2.length=n0.length:=by simpa using hlen2
  refine q L as2 n2 _ (sH2.trans (sH.trans s8)) (sH2.free fL) (hL2.same s8) (fun z hz=>?_) (pn'.nodup_iff.mpr hN0) ?_ (k3o hg1 hg2 hHg) (by rw [pt'.length_eq];omega) (by omega) (fun a ha=>sH2.free (fr2 a ha)) ⟨fun z hz=>j5v (dbl_mem.mp (hp.mem_iff.mp (pt'.mem_iff.mp hz))),fun p hp'=>j5v (by rw [<- hnm];exact pn'.mem_iff.mp hp')⟩
  ·rw [pt'.count_eq];exact hT0 z (pt'.mem_iff.mp hz)
  ·rcases hF.ne with ⟨nm,h⟩ | h
   ·subst h;have t0:ties n2=[]:=List.Perm.eq_nil pt'
    match n2,l2,t0 with
    | [(nm2,zs)],_,t0=>
     have:zs=[]:=by simpa [ties] using t0
     subst this;exact .inl ⟨_,rfl⟩
   ·refine q1r (hne h).2 fun e=>?_;rw [e] at l2;exact hF.some (Be.mp l2.symm)
 ·have np:0 < n.length:=Co.mpr h0;refine⟨1,_,by decide,j7s (k:=1) (SqL.of (s8 _ _ hR.lst)) (SqL.of (xs:=[]) j0b) (by rw [Aa,hal];exact Ci np),_,rfl,iteT ?_⟩;have hR:=hR.same s8;have hL2:=hL2.same s8;have sH:=sH.trans s8;generalize upd H4 p (.lst [])=H5 at hR hL2 sH ⊢;have r0:0<=b % (n.length:Int):=Bo _ (by omega);have r1:b % (n.length:Int) < n.length:=Br _ (by omega);obtain⟨j,hj⟩:∃ k:Nat,b % (n.length:Int)=k:=⟨(b % (n.length:Int)).toNat,by omega⟩;have hjn:j < n.length:=by omega
  obtain⟨a,ea,eat,et,el,er⟩:=hR.at hjn;refine j0j 9 nd (q5f PySem.F.plainAttrs_list PySem.F.slot_list_pop PySem.F.type_list_pop k7n (ev_v 6 ⟨q5d hR.lst,j0t j1i (ev_v 0 (j0y j0l T.len boot_len (j0a (ev_v 6 (j0c ⟨R,_,rfl,.inl (SqL.of hR.lst),?_⟩)))))⟩));rw [Aa,hal];refine⟨_,_,rfl,rfl,by omega,R,_,_,j,.ref a.1,rfl,rfl,hR.lst,by rw [hj];omega,by rw [hj];omega,?_,?_,?_⟩
  ·rw [hj,Aa,hal];unfold seqIndex?;have c1:¬((j:Int) < 0):=by omega
   simp only [c1,if_false];have c2:(decide (0<=(j:Int)) && decide ((j:Int) < (n.length:Int)))=true:=by
    rw [Bu,decide_eq_true_eq,decide_eq_true_eq];omega
   rw [if_pos c2,Bd]
  ·rw [Ad,ea];rfl
  have R6:=hR.erase hjn;have am:a∈as:=Av ea;have lneR:∀ x∈as,x.2≠R:=fun x hx e=>by
   obtain⟨zs,e2⟩:=hR.lists hx;have h3:=hR.lst;rw [<- e,e2] at h3;have h4:=HO.lst.inj (Option.some.inj h3);cases as with
   | nil=>cases hx
   | cons b' bs=>
    cases zs with
    | nil=>simp at h4
    | cons y r=>simp at h4
  have L6:=hL2.upd (o:= .lst ((as.map fun a=>V.ref a.1).eraseIdx j)) hR.lst hRL.symm aR;have et6:(upd H5 R (.lst ((as.map fun a=>V.ref a.1).eraseIdx j))) a.1=some (.tup [.str n[j].1,.ref a.2]):=by rw [j0d (j1s et hR.lst fun e=>nomatch e)];exact et
  have el6:(upd H5 R (.lst ((as.map fun a=>V.ref a.1).eraseIdx j))) a.2=some (Ls (row n j)):=by rw [j0d (lneR a am)];exact el
  have sH6:Same H2 (upd H5 R (.lst ((as.map fun a=>V.ref a.1).eraseIdx j))):=j02 sH fR;generalize upd H5 R (.lst ((as.map fun a=>V.ref a.1).eraseIdx j))=H6 at R6 L6 et6 el6 sH6 ⊢;have le6:=R6.len;have len6:(n.eraseIdx j).length=n.length - 1:=by rw [Dw,if_pos hjn]
  refine j0j 0 nd (j0t j2d (ev_v 0 (j0t j2i (j0y j0l T.len boot_len (j0a (ev_v 6 (j0c ⟨R,_,rfl,.inl (SqL.of R6.lst),j0h ⟨_,_,rfl,rfl,?_⟩⟩)))))));rw [Aa,le6,len6];refine⟨_,_,rfl,rfl,⟨by omega,by omega⟩,?_⟩;have rlen:=j28 n j;refine j0j 10 nd (j0y (j55 rfl) T.max PyProof.Rows.boot_max (j0a (j0h (j0a (j0y j0l T.len boot_len (j0a (j0q j0x (ev_v 9 (j0h ⟨a.1,_,_,.ref a.2,rfl,rfl,SqT.of et6,rfl,j0c ⟨a.2,_,rfl,.inl (SqL.of el6),?_⟩⟩)))))))));rw [Aa];refine j0c ⟨1,_,rfl,?_⟩;have emx:(if((row n j).length:Int) > 1 then((row n j).length:Int) else 1)=((max 1 (row n j).length:Nat):Int):=by
   split <;> omega
  rw [emx];show Run _ _ _ [some (.int (b / ((n.length - 1:Nat)+1:Int))),some (.int m),some (.int sm),some (.int (mn:Int)),some (.ref lt),some (.ref lp),some (.ref R),u,some (.ref L),some (.ref a.1),some (.int ((max 1 (row n j).length:Nat):Int))] H6;generalize b / ((n.length - 1:Nat)+1:Int)=b2;have z0:0<=b2 % ((max 1 (row n j).length:Nat):Int):=Bo _ (by omega);obtain⟨i,hi⟩:∃ k:Nat,b2 % ((max 1 (row n j).length:Nat):Int)=k:=⟨(b2 % ((max 1 (row n j).length:Nat):Int)).toNat,by omega⟩;refine j0v (j1r (ev_v 8 ⟨L,rfl,⟨_,L6.lst⟩,j1n (j0a (j0q j0x (ev_v 9 (j0h ⟨a.1,_,_,.str n[j].1,rfl,rfl,SqT.of et6,rfl,?_⟩))))⟩));refine j0a (j0t j7c (j5f j8d (j0q j0x (ev_v 9 (j0h ⟨a.1,_,_,.ref a.2,rfl,rfl,SqT.of et6,rfl,j71 (j0t j1i (ev_v 0 (ev_v 10 ⟨b2,((max 1 (row n j).length:Nat):Int),rfl,rfl,by omega,_,rfl,j7i ⟨a.2,_,rfl,SqL.of el6,fun p1 hp1=>?_⟩⟩)))⟩)))));rw [hi,k1r];have t1:=j0e hp1 (Ls ((row n j).drop i));refine j5f j8d (j0q j0x (ev_v 9 (j0h ⟨a.1,_,_,.ref a.2,rfl,rfl,SqT.of (t1 _ _ et6),rfl,j7i (j71 (j0t j1i (ev_v 0 (ev_v 10 ⟨b2,((max 1 (row n j).length:Nat):Int),rfl,rfl,by omega,_,rfl,a.2,_,rfl,SqL.of (t1 _ _ el6),fun p2 hp2=>?_⟩))))⟩)));rw [hi,q0u];have t2:=j0e hp2 (Ls ((row n j).take i));refine⟨p1,p2,_,_,rfl,rfl,t2 _ _ j0b,j0b,?_,fun p3 hp3=>?_⟩
  ·rw [Aa,Aa,Dc,Bh];exact small (by omega)
  rw [<- Ai];have t3:=j0e hp3 (Ls ((row n j).drop i++(row n j).take i));refine j0c ⟨(by show 2<=sizeLine;decide),fun t4 ht4=>?_⟩;have s4:=j0e ht4 (.tup [.str n[j].1,.ref p3]);have sAll:=t1.trans (t2.trans (t3.trans s4));have L7:=L6.same sAll;have R7:=R6.same sAll;have p3L:p3≠L:=fun e=>by rw [e,(t1.trans t2) _ _ L6.lst] at hp3;cases hp3
  have p3R:p3≠R:=fun e=>by rw [e,(t1.trans t2) _ _ R6.lst] at hp3;cases hp3
  have p3n:p3∉as2.map (·.2):=fun hm=>by
   obtain⟨y,hy,e⟩:=Ak.mp hm;exact(L6.same (t1.trans t2)).fresh hp3 hy e.symm
  have L8:=L7.more (t:=t4) (l:=p3) (pt:=n[j].1) (zs:=(row n j).drop i++(row n j).take i) j0b (s4 _ _ j0b) p3n p3L;refine⟨_,L7.lst,by rw [Aa,hal2];exact j00 (by omega),?_⟩;have aL6:∀ x∈as.eraseIdx j,x.2≠L:=fun x hx=>aL x (Fd hx);have R8:=R7.upd (o:= .lst (as2.map (fun a=>V.ref a.1)++[.ref t4])) L7.lst hRL aL6;refine j0j 0 nd (j0t j2d (ev_v 0 (ev_v 10 ⟨b2,((max 1 (row n j).length:Nat):Int),rfl,rfl,⟨by omega,by omega⟩,?_⟩)));have pe:=j7f n j hjn;have ne:=k0c n j hjn;refine j0i ⟨n.length - 1,by omega,as.eraseIdx j,as2++[(t4,p3)],n.eraseIdx j,n2++[(n[j].1,(row n j).drop i++(row n j).take i)],_,_,_,len6.symm,R8,L8,j02 (sH6.trans sAll) fL,aL6,fun x hx=>?_,fun x hx=>?_,?_,?_,?_,fun h=>⟨fun r hr=>?_,fun r hr=>?_⟩,fun r hr=>?_,fun x hx=>?_,rfl⟩
  ·rcases At.mp hx with hx | hx
   ·exact aR x hx
   ·rw [Ag] at hx;rw [hx];exact p3R
  ·rcases At.mp hx with hx | hx
   ·exact fr2 x hx
   ·rw [Ag] at hx;rw [hx];exact sH6.free (t1.free (t2.free hp3))
  ·rw [Af,len6];simp;omega
  ·refine List.Perm.trans ?_ pt;unfold ties;rw [Dg];show(ties (n.eraseIdx j)++(ties n2++(((row n j).drop i++(row n j).take i)++[]))).Perm _;rw [Ba,er];have w1:(n[j].2.drop i++n[j].2.take i).Perm n[j].2:=j7t _ _;refine((w1.append_left _).append_left _).trans ?_;have w2:(ties n++ties n2).Perm ((n[j].2++ties (n.eraseIdx j))++ties n2):=pe.append_right _;refine List.Perm.trans ?_ w2.symm;rw [Bm];refine List.Perm.trans ?_ (Do (l₁:=ties (n.eraseIdx j)++ties n2));rw [Bm]
  ·refine List.Perm.trans ?_ pn;rw [Ai];show((n.eraseIdx j).map (·.1)++(n2.map (·.1)++[n[j].1])).Perm _;refine List.Perm.trans ?_ (ne.append_right _).symm;rw [<- Bm];exact Do
  ·exact(hne h).1 r (Fd hr)
  ·rcases At.mp hr with hr | hr
   ·exact(hne h).2 r hr
   ·rw [Ag] at hr;rw [hr];intro e;have w1:=(j7t (row n j) i).length_eq;have e':(row n j).drop i++(row n j).take i=[]:=e;rw [e'] at w1;have:=(hne h).1 n[j] (Cc hjn);rw [er] at w1;exact this (Be.mp w1.symm)
  ·obtain⟨x,hx,e1,e2⟩:=hg1 r hr
   rcases At.mp hx with hx | hx
   ·rcases (SetT.pick_perm n j hjn).symm.mem_iff.mp hx |> Ap.mp with q | q
    ·refine⟨(n[j].1,(row n j).drop i++(row n j).take i),As _ (As _ (Ag.mpr rfl)),by rw [<- e1,q],fun t ht=>?_⟩;refine(j7t (row n j) i).mem_iff.mpr ?_;rw [er,<- q];exact e2 t ht
    ·exact⟨x,Bs _ q,e1,e2⟩
   ·exact⟨x,As _ (Bs _ hx),e1,e2⟩
  ·rcases At.mp hx with hx | hx
   ·exact hg2 x (Bs _ (Fd hx))
   ·rcases At.mp hx with hx | hx
    ·exact hg2 x (As _ hx)
    ·rw [Ag] at hx;obtain⟨r,hr,e⟩:=hg2 n[j] (Bs _ (Cc hjn));exact⟨r,hr,by rw [e,hx]⟩
end
end R4
namespace PySem
theorem getAttr?_miss_list{prog:Program}{w:World}{A:Around}{E:Value->Shared->Prop}{s:Shared}{a:Addr}{o:Obj}{xs:Array Value}{k:Nat}{name:Str}{Q:Option Value->Shared->Prop}
  (hx:s.heap.get? a=some o) (hc:o.cls = .type "list") (hdat:o.data = .seq xs k) (hd:o.dict=none) (hmiss:typeLookup (.type "list") name=pure none) (hname:(["__module__","__name__","__qualname__","__doc__","__annotations__"]:List Str).contains name=false) (hA:A.handled=none)
  (h:∀ h' tk e,Heap.NewExcOf s.heap h' e "AttributeError"->Q none {s with heap:=h',toks:=tk}) (hsz:name.length+100<=sizeLine:=by size_fits) :
  wpAny (model prog w) A (getAttr? (.ref a) name) Q E s:=by
 obtain⟨c,dct,dat,sl⟩:=o;simp only at hc hdat hd;subst hc hdat hd;obtain⟨hp,g,d,tk,os⟩:=s;have hT:∀ tk',(⟨hp,g,d,tk',os⟩:Shared).TypeIs (.ref a) "list":=fun _=>⟨_,hx,rfl⟩;have f1:=sub_AttributeError;have f3:=F.slot_list_getattribute.lookup;have f4:=F.slot_list_getattribute.bind (.ref a);have f5:=am_list_getattr_none;unfold getAttr? getAttrBy? getAttrBy
 repeat (any_goals (first | assumption | exact hT _ | ((with_reducible show wpAny _ _ (call (Value.builtin "list.__getattribute__") _ _) _ _ _);refine call_meets F.slot_list_getattribute (hT _) am_entry_list_getattribute (F.args_list_getattribute_2 _ _) (meets_getattribute_miss_list a xs k sl name _ hmiss hname hsz) ⟨hx,hA,fun h' tk' e hx'=>?_⟩) | wp_step))
 obtain⟨t',u',he⟩:=hx'.there;show wpAny _ _ (getattributeRaised _ _ _ _ _ _ _) _ _ _;unfold getattributeRaised
 repeat (any_goals (first | assumption | wp_step))
 exact h _ _ _ hx'.of
end PySem
namespace PySem
namespace F
theorem entry_dict_update_loop:entryFor table "dict.update.loop" = some Builtin.«dict.update.loop»:=entryFor_of_tree (by kernel_rfl)
theorem plain_dict_update_loop:plainId "dict.update.loop" = true:=by decide +kernel
theorem list_no_keys:typeLookup (.type "list") "keys" = pure none:=by rw [typeLookup_type,builtinLookup_eq_fast];kernel_rfl
end F
section
variable{prog:Program}{w:World}{K:Type} [DecidableEq K] {knd:KeyKind prog w K} {A:Around} {R:Result->Shared->Prop}
def k0m(knd:KeyKind prog w K)(h:Heap)(items:List Value)(prs:List (K×Value)):Prop:=
 items.length=prs.length/\∀(j:Nat) it,items[j]?=some it->∃ T key k v o n,it = .ref T/\prs[j]?=some (k,v)/\knd.is k key=true/\h.get? T=some o/\o.cls = .type "tuple"/\o.data = .seq #[key,v] n
theorem j7j(kvs:List (K×Value))(k:K)(v:Value):(stored kvs k v).length<=kvs.length+1:=by
 unfold stored
 split
 ·rw [Aa];omega
 ·rw [Af];simp
theorem k2t{hB:Heap}{d I l:Addr}{items:List Value}{prs:List (K×Value)}(hd:hB.objs.size<=d)(hI:hB.objs.size<=I)(hdI:d≠I)(hl:hB.IsList l items.toArray)(hp:k0m knd hB items prs)(hn:items.length < sizeLine)(hh:A.handled=none) :
  ∀(k i:Nat) (s:Shared) (acc:List (K×Value)),items.length - i=k->i<=items.length->(∀ b o,hB.get? b=some o->s.heap.get? b=some o)->s.heap.IsListIter I l i->s.heap.DictOf knd d acc->acc.length<=i ->
   (∀ h' tk,(∀ b o,b≠I->b≠d->s.heap.get? b=some o->h'.get? b=some o)->h'.DictOf knd d ((prs.drop i).foldl (fun a p=>stored a p.1 p.2) acc)->R (.ok (.ret .none)) {s with heap:=h',toks:=tk}) ->
   codeAny (model prog w) A (.builtin "dict.update.loop" ⟨[.ref d,.ref I,rawInt i,.none],[]⟩) R s:=by
 have nb:∀ b o,hB.get? b=some o->b≠I/\b≠d:=fun b o e=>⟨Bg (Bi (Aj e) hI),Bg (Bi (Aj e) hd)⟩;intro k
 induction k with
 | zero=>
  intro i s acc hk hi hkeep hst hD hal hR;have hin:i=items.length:=by omega
  refine codeAny_builtin F.entry_dict_update_loop ?_;rw [Around.under_plainId F.plain_dict_update_loop _];show wpAny _ A.in1 (pyNext (.ref I) >>= _) _ _ s;have hl':s.heap.IsList l items.toArray:=let ⟨o,ho,r⟩:=hl;⟨o,hkeep _ _ ho,r⟩
  refine wpAny_bind (wpAny_pyNext_list_end hh hst hl' (by simp;omega) fun h' eb=>?_);show wpAny _ A.in1 (Builtin.Dict.addKeywords d [] >>= _) _ _ _;refine wpAny_bind (wpAny_pure (wpAny_pure ?_));refine hR h' s.toks (fun b o hb _ e=>eb b o hb e) ?_;rw [List.drop_eq_nil_of_le (by have:=hp.1;omega)];exact hD.extBut eb hdI
 | succ k ih=>
  intro i s acc hk hi hkeep hst hD hal hR;have hlt:i < items.length:=by omega
  have hx:items[i]?=some items[i]:=Ab hlt;obtain⟨T,key,kk,v,o,n,e1,e2,e3,e4,e5,e6⟩:=hp.2 i _ hx;rw [e1] at hx;refine codeAny_builtin F.entry_dict_update_loop ?_;rw [Around.under_plainId F.plain_dict_update_loop _];show wpAny _ A.in1 (pyNext (.ref I) >>= _) _ _ s;have hl':s.heap.IsList l items.toArray:=let ⟨o,ho,r⟩:=hl;⟨o,hkeep _ _ ho,r⟩
  refine wpAny_bind (wpAny_pyNext_list_item hst hl' (x:= .ref T) (by simpa using hx) fun h' st' sb=>?_);have eT:h'.get? T=some o:=(sb.2 T (nb T o e4).1).trans (hkeep _ _ e4);refine wpAny_bind (wpAny_holding (wpAny_bind (wpAny_tryCatch ?_)));unfold Builtin.Dict.pairItems;refine wpAny_bind (wpAny_typeOf (T:= "tuple") ⟨o,eT,e5⟩ ?_);rw [if_pos (by decide)];refine wpAny_bind (wpAny_seqItems (s:={s with heap:=h'}) eT e6 (wpAny_pure ?_));show wpAny _ _ (holding [key,v] (dictSet d key v)) _ _ _;refine wpAny_holding (wpAny_dictSet_pairs (knd:=knd) (s:={s with heap:=h'}) (k:=kk) e3 (hD.extBut sb.extBut hdI) (fun h2 D2 sb2=>?_) (by omega));refine wpAny_pure ⟨plainId_quiet F.plain_dict_update_loop _,?_⟩;have hki:∀ b o,b≠I->b≠d->s.heap.get? b=some o->h2.get? b=some o:=fun b o h1 h3 e=>(sb2.2 b h3).trans ((sb.2 b h1).trans e);refine ih (i+1) {s with heap:=h2,toks:=s.toks+1} (stored acc kk v) (by omega) hlt (fun b o e=>hki b o (nb b o e).1 (nb b o e).2 (hkeep _ _ e)) (st'.extBut sb2.extBut (Ne.symm hdI)) D2 (by have:=j7j acc kk v;omega) fun h3 tk k3 D3=>?_;refine hR h3 tk (fun b o h1 h2' e=>k3 b o h1 h2' (hki b o h1 h2' e)) ?_;have e7:prs.drop i=(kk,v) :: prs.drop (i+1):=by
   obtain⟨hj,e8⟩:=Ac.mp e2;rw [List.drop_eq_getElem_cons hj,e8]
  rw [e7];exact D3
theorem j6i{E:Value->Shared->Prop}{s:Shared}{Q:Value->Shared->Prop}{l:Addr}{ol:Obj}{nl:Nat}{items:List Value}{prs:List (K×Value)}(ho:s.heap.get? l=some ol)(hc:ol.cls = .type "list")(hod:ol.dict=none)(hdt:ol.data = .seq items.toArray nl)(hp:k0m knd s.heap items prs)(hn:items.length < sizeLine)(hh:A.handled=none)
  (h:∀ h' tk,(∀ b o,s.heap.get? b=some o->h'.get? b=some o)->h'.DictOf knd s.heap.objs.size (prs.foldl (fun a p=>stored a p.1 p.2) [])->Q (.ref s.heap.objs.size) {s with heap:=h',toks:=tk}) :
  wpAny (model prog w) A (call (.type "dict") [.ref l]) Q E s:=by
 refine callType_codes (Q₁:=fun obj s₁=>obj = .ref s.heap.objs.size/\s₁={s with heap:=s.heap.push {cls:= .type "dict",data:= .dict #[]}}) F.kt_called_dict (F.kt_typeCall_dict_1 _) F.entry_dict_init (kt_code_dict_new _ ⟨rfl,rfl⟩) ?_;rintro obj s₁ ⟨rfl,rfl⟩;have hnew:(s.heap.push {cls:= .type "dict",data:= .dict #[]}).DictOf knd s.heap.objs.size []:=Heap.DictOf.new s.heap;have ho':(s.heap.push {cls:= .type "dict",data:= .dict #[]}).get? l=some ol:=Ae _ ho;refine⟨hnew.typeIs,F.args_dict_init_2 _ _,?_⟩;unfold Builtin.«dict.__init__»;refine wpAny_bind ?_;unfold Builtin.Dict.selfAndRest;refine wpAny_bind (wpAny_notOrdered_dict hnew.typeIs ?_);show wpAny _ _ (pure (s.heap.objs.size,[Value.ref l])) _ _ _;refine wpAny_pure ?_;show wpAny _ _ (Builtin.Dict.updateFrom "dict.__init__" s.heap.objs.size (.ref l) [] .none) _ _ _;unfold Builtin.Dict.updateFrom;refine wpAny_bind (wpAny_typeOf (T:= "list") ⟨ol,ho',hc⟩ ?_);rw [if_pos (by decide)];refine wpAny_bind (getAttr?_miss_list ho' hc hdt hod F.list_no_keys (by decide) (by exact hh) (fun h' tk e ne=>?_));rw [if_pos (show(none:Option Value).isNone=true from rfl)];have kp:∀ b o,s.heap.get? b=some o->h'.get? b=some o:=fun b o e=>ne.keeps b o (Ae _ e);refine wpAny_bind (wpAny_rule ?_);have hL:h'.IsList l items.toArray:=⟨ol,kp _ _ ho,hc,nl,hdt⟩;refine wpAny_bind (wpAny_pyIter_list hL ?_);refine wpAny_pure ⟨plainId_quiet F.plain_dict_update_loop _,?_⟩;have hD':h'.DictOf knd s.heap.objs.size []:=let ⟨o,es,ep,ho,r⟩:=hnew;⟨o,es,ep,ne.keeps _ _ ho,r⟩
 have hlt:s.heap.objs.size < h'.objs.size:=let ⟨o,es,ep,ho,r⟩:=hD';Aj ho
 refine k2t (hB:=s.heap) (d:=s.heap.objs.size) (I:=h'.objs.size) (l:=l) (Ah _) (Fx hlt) (Bg hlt) ⟨ol,ho,hc,nl,hdt⟩ hp hn (by exact hh) _ 0 _ [] rfl (Bn _) (fun b o e=>Ae _ (kp b o e)) ⟨_,Am _ rfl,rfl,rfl⟩ (hD'.push _) (Bn _) fun h2 tk2 k2 D2=>?_;refine⟨rfl,h h2 tk2 (fun b o e=>k2 b o (Bg (Aj (kp b o e))) (Bg (Aj e)) (Ae _ (kp b o e))) D2⟩
end
end PySem
namespace L2
open PySem PySem.Spec PyProof.Rows
section
variable{X:Cx}{pins:List (Addr×Obj)}{σ:St}{H:Hp}{s:Shared}
theorem k05{kvs:List (Key×V)}:∀{ps:List (Key×V)} {acc:List (Key×Value)} {rs:List (Key×Value)},KV ps acc->KV kvs rs->KV (kvs.foldl (fun a p=>putK a p.1 p.2) ps) (rs.foldl (fun a p=>stored a p.1 p.2) acc):=by
 induction kvs with
 | nil=>intro ps acc rs h g;cases g;exact h
 | cons p r ih=>
  intro ps acc rs h g;cases g with
  | @cons _ q _ r' hq hr=>
   obtain⟨e1,e2⟩:=hq;rw [Dh,Dh];refine ih ?_ hr;rw [<- e1];exact h.put p.1 e2
theorem k1y{P:Program}{w:World}{h:Heap}:∀{kvs:List (Key×V)} {ts:List Addr},ts.length=kvs.length->(∀(j:Nat) t kv,ts[j]?=some t->kvs[j]?=some kv->∃ key v o m,(j0p P w).is kv.1 key=true/\RelV kv.2 v/\h.get? t=some o/\o.cls = .type "tuple"/\o.data = .seq #[key,v] m) ->
  ∃ rs:List (Key×Value),KV kvs rs/\∀(j:Nat) t,ts[j]?=some t->∃ key k v o m,rs[j]?=some (k,v)/\(j0p P w).is k key=true/\h.get? t=some o/\o.cls = .type "tuple"/\o.data = .seq #[key,v] m
 | [],ts,hl,_=>by
  have:ts=[]:=Be.mp hl;subst this;exact⟨[],.nil,fun j t h=>by simp at h⟩
 | kv :: r,[],hl,_=>by simp at hl
 | kv :: r,t :: ts,hl,hp=>by
  obtain⟨key,v,o,m,q1,q2,q3,q4,q5⟩:=hp 0 t kv rfl rfl;obtain⟨rs,hk,hr⟩:=k1y (kvs:=r) (ts:=ts) (by simpa using hl) fun j t kv h1 h2=>hp (j+1) t kv (by simpa using h1) (by simpa using h2);refine⟨(kv.1,v) :: rs,.cons ⟨rfl,q2⟩ hk,fun j t' ht=>?_⟩;cases j with
  | zero=>
   cases ht;exact⟨key,kv.1,v,o,m,rfl,q1,q3,q4,q5⟩
  | succ j=>
   obtain⟨key,k,v,o,m,e,z⟩:=hr j t' (by simpa using ht);exact⟨key,k,v,o,m,by simpa using e,z⟩
theorem j35(hc:X.calm=true):j2z X (.type "dict") (fun xs H Q=>∃(a:Addr) (ts:List Addr) (kvs:List (Key×V)),xs=[.ref a]/\H a=some (.lst (ts.map V.ref))/\ts.length=kvs.length/\ts.length < sizeLine/\(∀(j:Nat) t kv,ts[j]?=some t->kvs[j]?=some kv->H t=some (.tup [kV kv.1,kv.2])) /\
  ∀ d,H d=none->Q (.ref d) (upd H d (.dK (kvs.foldl (fun a p=>putK a p.1 p.2) [])))):=by
 intro pins s σ H xs us Q I r h;obtain⟨a,ts,kvs,rfl,hH,hl,hz,ht,q⟩:=h;obtain⟨u,rfl,ru⟩:=vals1 r;cases (show u=Value.ref a from ru);obtain⟨z,its,n,rv,e⟩:=(show ObjOk X.prog X.w H s.heap a (.lst (ts.map V.ref)) from I.hok a _ hH);have hil:=rv.length;rw [Aa] at hil;have its_at:∀(j:Nat) t,ts[j]?=some t->its[j]?=some (.ref t):=fun j t hj=>by
  obtain⟨u,hu,ru⟩:=rv.get (i:=j) (x:= .ref t) (by rw [Ad,hj];rfl);cases (show u=Value.ref t from ru);exact hu
 have pair:∀(j:Nat) t kv,ts[j]?=some t->kvs[j]?=some kv->∃ key v o m,(j0p X.prog X.w).is kv.1 key=true/\RelV kv.2 v/\s.heap.get? t=some o/\o.cls = .type "tuple"/\o.data = .seq #[key,v] m:=fun j t kv h1 h2=>by
  obtain⟨z2,its2,rv2,o,eo,co,m,dm⟩:=(show ObjOk X.prog X.w H s.heap t (.tup [kV kv.1,kv.2]) from I.hok t _ (ht j t kv h1 h2));obtain⟨key,v,e3,r1,r2⟩:=rv2.two;refine⟨key,v,o,m,j8y r1,r2,eo,co,?_⟩;rw [dm,e3]
 obtain⟨rs,hk,hr⟩:=k1y hl pair;have hkl:=hk.length;have hP:k0m (j0p X.prog X.w) s.heap its rs:=by
  refine⟨by omega,fun j it hj=>?_⟩;have hjl:j < ts.length:=by have:=(Ac.mp hj).1;omega
  have htj:ts[j]?=some ts[j]:=Ab hjl;have e2:=its_at j _ htj;rw [hj] at e2;obtain⟨key,k,v,o,m,q1,q2,q3,q4,q5⟩:=hr j _ htj;exact⟨ts[j],key,k,v,o,m,Option.some.inj e2,q1,q2,q3,q4,q5⟩
 refine j6i (knd:=j0p X.prog X.w) e rfl rfl rfl hP (by omega) (I.ok.hd hc) fun h' tk kp D=>?_;have hlen:∀(l:List (Key×V)) (a:List (Key×V)),(l.foldl (fun a p=>putK a p.1 p.2) a).length<=a.length+l.length:=by
  intro l
  induction l with
  | nil=>intro a;exact Ah _
  | cons p r ih=>
   intro a;rw [Dh,An];have h1:=ih (putK a p.1 p.2);have h2:=j06 a p.1 p.2;omega
 have hb:=I.big;refine⟨.ref s.heap.objs.size,_,I.laid (t':=tk) kp (Ah _) (show ObjOk X.prog X.w _ h' _ (.dK (kvs.foldl (fun a p=>putK a p.1 p.2) [])) from⟨?_,?_,_,k05 (kvs:=kvs) (ps:=[]) (acc:=[]) .nil hk,D⟩),rfl,q _ (I.hok.fresh (Ah _))⟩
 ·have:=hlen kvs [];rw [Fe] at this;omega
 ·exact beq_eq_false_iff_ne.mpr (Ci hb)
end
end L2
namespace L2
open PySem PySem.Spec PyProof.Rows
section
variable{X:Cx}{pins:List (Addr×Obj)}{σ:St}{H:Hp}{s:Shared}{h':Heap}
theorem Inv.turnedL{t':Nat}{ch:List Addr}(I:Inv X pins σ H s)(hf:∀ b∈ch,FpOk X pins H b)(k:∀ b o,b∉ch->s.heap.get? b=some o->h'.get? b=some o):Inv X pins σ H {s with heap:=h',toks:=t'}:=by
 have nit:∀ b u,H b=some u->b∉ch:=fun b u e z=>by rw [(hf b z).1] at e;cases e
 refine I.step (g':=s.gens) (d':=s.drawn) (ch:=ch) (fun b hb=>?_) (fun b o _ _ hc e _=>k b o hc e) (fun b o _ _ hc e _=>⟨o.slots,k b o hc e⟩) (fun _ _ _ _ n=>n)
  (fun b o hc e=>⟨o,k b o hc e⟩) (fun _ _ e=>e) (fun _ _ _ e=>e) (fun b ps e=>⟨#[],by rw [e];simp⟩) (fun m hm=>?_) (fun b u e=>?_) I.bare
 ·obtain⟨f0,f1,f2,f3,f4,f5⟩:=hf b hb;exact⟨f3,f1,f4,f5⟩
 ·obtain⟨o,es,ep,ho,r⟩:=hm;exact⟨o,es,ep,k _ o (fun z=>(hf _ z).2.1 rfl) ho,r⟩
 ·refine(I.hok b u e).stay (fun c v hc q=>k c v ?_ q) (fun _ q=>q) fun _ _ q=>q
  rcases hc with z | z
  ·rw [z];exact nit b u e
  ·exact nit c _ z
def Itz(K:PySem.W.Frag)(a b:Addr):It:=
  ⟨fun i H => ∃ xs ys x y, SqL K H a xs ∧ SqL K H b ys ∧ xs[i]? = some x ∧ ys[i]? = some y,
   fun i H v H'=>∃ T x y,H T=none/\v = .ref T/\H'=upd H T (.tup [x,y])/\(∀ xs,SqL K H a xs->xs[i]?=some x)/\∀ ys,SqL K H b ys->ys[i]?=some y,
   fun i H=>∃ xs ys,SqL K H a xs/\SqL K H b ys/\(xs.length<=i\/ys.length<=i)⟩
def q4t(m a b:Addr)(i:Nat)(h:Heap):Prop:=
 IsZip h (m+4) (m+2) (m+3) .none/\IsPair h (m+2) (.ref m) (.ref (m+1))/\(∃ x y,IsPair h (m+3) x y)/\h.IsListIter m a i/\h.IsListIter (m+1) b i
theorem j8k{h:Heap}{m a b:Addr}{i:Nat}{xs ys:Array Value}(z:q4t m a b i h)(ha:h.IsList a xs)(hb:h.IsList b ys):ZipApart (m+4) (m+2) (m+3) m (m+1) a b:=by
  obtain⟨z1,z2,⟨x,y,z3⟩,⟨o4,e4,c4,_⟩,⟨o5,e5,c5,_⟩⟩:=z;have cls:∀{l:Addr} {vs:Array Value} {c:Addr} {o:Obj},h.IsList l vs->h.get? c=some o->o.cls ≠ .type "list"->l≠c:=fun hl hc hn e=>by
    obtain⟨ol,hol,hcl,_⟩:=hl;rw [e,hc] at hol;cases hol;exact hn hcl
  exact { TIz := by simp, TOz := by simp, i1z := by simp, i2z := by simp, TITO := by simp, TIi1 := by simp, TIi2 := by simp, TOi1 := by simp, TOi2 := by simp, i12 := by simp
          l1z:=cls ha z1 (by show Value.type "zip"≠Value.type "list";decide),l1TO:=cls ha z3 (by show Value.type "tuple"≠Value.type "list";decide),l1i1:=cls ha e4 (by rw [c4];decide),l1i2:=cls ha e5 (by rw [c5];decide)
          l2z:=cls hb z1 (by show Value.type "zip"≠Value.type "list";decide),l2TO:=cls hb z3 (by show Value.type "tuple"≠Value.type "list";decide),l2i1:=cls hb e4 (by rw [c4];decide),l2i2:=cls hb e5 (by rw [c5];decide)}
theorem k8f{P:Program}{w:World}{K:PySem.W.Frag}{elts:List Expr}{k:Nat}{tp:Pos}(m a b:Addr):Turn P w K (.Tuple elts k tp) (Itz K a b) [m,m+1,m+2,m+3,m+4] (m+4) (q4t m a b) where
 mem:=by simp
 obj:=fun i h st c hc=>by
  obtain⟨z1,z2,⟨x,y,z3⟩,⟨o4,e4,c4,d4⟩,⟨o5,e5,c5,d5⟩⟩:=st;simp only [Ap,Ef,or_false] at hc
  rcases hc with rfl | rfl | rfl | rfl | rfl
  ·exact⟨_,e4,fun v z=>by rw [d4] at z;cases z⟩
  ·exact⟨_,e5,fun v z=>by rw [d5] at z;cases z⟩
  ·exact⟨_,z2,fun v z=>by cases z⟩
  ·exact⟨_,z3,fun v z=>by cases z⟩
  ·exact⟨_,z1,fun v z=>by cases z⟩
 keep:=fun i h h' st kp=>by
  obtain⟨z1,z2,⟨x,y,z3⟩,⟨o4,e4,r4⟩,⟨o5,e5,r5⟩⟩:=st;exact⟨kp _ (by simp) _ z1,kp _ (by simp) _ z2,⟨x,y,kp _ (by simp) _ z3⟩,⟨o4,kp _ (by simp) _ e4,r4⟩,⟨o5,kp _ (by simp) _ e5,r5⟩⟩
 item:=by
  intro X hP hw hK hc i pins s σ H E I hf st hg;subst hP hw hK;obtain⟨xs,ys,x,y,hxs,hys,hx,hy⟩:=hg;obtain⟨its1,rv1,p1,hz1⟩:=I.list hxs;obtain⟨its2,rv2,p2,hz2⟩:=I.list hys;obtain⟨u1,hu1,ru1⟩:=rv1.get hx;obtain⟨u2,hu2,ru2⟩:=rv2.get hy;have D:=j8k st p1.isList p2.isList;obtain⟨z1,z2,⟨x0,y0,z3⟩,z4,z5⟩:=id st;refine wpAny_pyNext_zip_item D z1 z2 z3 z4 z5 p1.isList p2.isList (x:=u1) (y:=u2) (by simpa using hu1) (by simpa using hu2) fun h' a1 a2 a3 a4 a5 a6 kp=>?_;have hT:H s.heap.objs.size=none:=I.hok.fresh (Ah _);have nT:∀ c∈[m,m+1,m+2,m+3,m+4],c≠s.heap.objs.size:=fun c hc'=>by
   have:∃ o,s.heap.get? c=some o:=by
    obtain⟨o4,e4,_⟩:=z4;obtain⟨o5,e5,_⟩:=z5;simp only [Ap,Ef,or_false] at hc'
    rcases hc' with rfl | rfl | rfl | rfl | rfl
    ·exact⟨_,e4⟩
    ·exact⟨_,e5⟩
    ·exact⟨_,z2⟩
    ·exact⟨_,z3⟩
    ·exact⟨_,z1⟩
   obtain⟨o,e⟩:=this;exact Bg (Aj e)
  have I1:Inv X pins σ (upd H s.heap.objs.size (.tup [x,y])) {s with heap:=s.heap.push {cls:= .type "tuple",data:= .seq #[u1,u2]}}:=
   I.laid (t':=s.toks) (fun b o e=>Ae _ e) (Ah _) (show ObjOk X.prog X.w _ _ _ (.tup [x,y]) from⟨(by show 2<=sizeLine;decide),[u1,u2],.cons ru1 (.cons ru2 .nil),⟨_,Am _ rfl,rfl,_,rfl⟩⟩)
  have f1:∀ c∈[m,m+1,m+2,m+3,m+4],FpOk X pins (upd H s.heap.objs.size (.tup [x,y])) c:=fun c hc'=>⟨by rw [j0d (nT c hc')];exact(hf c hc').1,(hf c hc').2⟩;have kp2:∀ c o,c∉[m,m+1,m+2,m+3,m+4]->(s.heap.push {cls:= .type "tuple",data:= .seq #[u1,u2]}).get? c=some o->h'.get? c=some o:=fun c o hc' e=>by
   rcases Heap.get?_push_cases e with ⟨ec,eo⟩ | e'
   ·rw [ec,eo];exact a5
   ·simp only [Ap,Ef,or_false,not_or] at hc';exact kp c o hc'.2.2.2.2 hc'.2.2.2.1 hc'.1 hc'.2.1 e'
  have I2:=Inv.turnedL (h':=h') (t':=s.toks) I1 f1 kp2;refine⟨_,rfl,wpAny_letOwnedTupleGo_zip (s:={s with heap:=h'}) a1 fun h2 b1 sb=>?_⟩;have z2':IsPair h' (m+2) (.ref m) (.ref (m+1)):=kp _ _ (by simp) (by simp) (by simp) (by simp) z2;have kp3:∀ c o,c∉[m+4]->h'.get? c=some o->h2.get? c=some o:=fun c o hc' e=>(sb.2 c (by simpa using hc')).trans e;have I3:=Inv.turnedL (h':=h2) (t':=s.toks) I2 (ch:=[m+4]) (fun c hc'=>f1 c (by simp at hc';simp [hc'])) kp3;refine⟨.ref s.heap.objs.size,_,I3,rfl,⟨_,x,y,hT,rfl,rfl,fun zs hz=>by rw [I.list_inj hz hxs];exact hx,fun zs hz=>by rw [I.list_inj hz hys];exact hy⟩,?_,fun c hc'=>(f1 c hc').1⟩;have sx:∀ c o,c≠m+4->h'.get? c=some o->h2.get? c=some o:=fun c o hc' e=>(sb.2 c hc').trans e;obtain⟨o3,e3,r3⟩:=a3;obtain⟨o4,e4,r4⟩:=a4;exact⟨b1,sx _ _ (by simp) z2',⟨u1,u2,sx _ _ (by simp) a2⟩,⟨o3,sx _ _ (by simp) e3,r3⟩,⟨o4,sx _ _ (by simp) e4,r4⟩⟩
 done:=by
  intro X hP hw hK hc i pins s σ H E I hf st hg;subst hP hw hK;obtain⟨xs,ys,hxs,hys,hend⟩:=hg;obtain⟨its1,rv1,p1,hz1⟩:=I.list hxs;obtain⟨its2,rv2,p2,hz2⟩:=I.list hys;have l1:=rv1.length;have l2:=rv2.length;have D:=j8k st p1.isList p2.isList;obtain⟨z1,z2,⟨x0,y0,z3⟩,z4,z5⟩:=id st;refine wpAny_pyNext_zip_end (I.ok.hd hc) D z1 z2 z3 z4 z5 p1.isList p2.isList ?_ fun h' kp=>⟨rfl,I.turnedL (t':=s.toks) (ch:=[m,m+1,m+2,m+3,m+4]) hf fun c o hc' e=>?_⟩
  ·rcases hend with h | h
   ·exact .inl (by simp;omega)
   ·exact .inr (by simp;omega)
  ·simp only [Ap,Ef,or_false,not_or] at hc';exact kp c o hc'.2.2.2.2 hc'.2.2.2.1 hc'.1 hc'.2.1 e
 self:=fun _ _ _ _ _ st h=>wpAny_pyIter_zip st.1 h
end
section
variable{X:Cx}
def iZip(K:PySem.W.Frag)(ta:TA):TI:=fun σ H R=>ta σ H fun vs H1=>∃ a b,vs=[.ref a,.ref b]/\(∃ xs,SqL K H1 a xs)/\(∃ ys,SqL K H1 b ys)/\R (Itz K a b) H1
theorem q5u{elts:List Expr}{k:Nat}{tp:Pos}{a b:Expr}{ta:TA}{p pos:Pos}(hg:Gl X "zip")(hm:X.mg "zip" = none)(ha:PA X [a,b] ta)(hs:starEach [a,b] X.env=[(false,eval a X.env),(false,eval b X.env)]:=by rfl)(hs2:starEach [b] X.env=[(false,eval b X.env)]:=by rfl) :
  PI X (.Tuple elts k tp) (.Call (.Name "zip" p) [a,b] [] pos) (iZip X.K ta):=by
 intro pins s σ H R I h;refine Call_ (j44 I hg hm boot_zip (PyProof.Rows.callWith_type1 (thn (ha pos pins s σ H _ I h) fun us s1 ⟨vs,H1,I1,r1,q1⟩=>?_) (by rw [hs,hs2]) (by rw [hs2];rfl)));obtain⟨x,y,e,⟨xs,hx⟩,⟨ys,hy⟩,q⟩:=q1;subst e;obtain⟨u,v,rfl,ru,rv⟩:=r1.two;cases (show u=Value.ref x from ru);cases (show v=Value.ref y from rv);obtain⟨its1,rv1,p1,hz1⟩:=I1.list hx;obtain⟨its2,rv2,p2,hz2⟩:=I1.list hy;refine call_zip_2 p1.isList p2.isList fun h' a1 a2 a3 a4 a5 a6 kp=>?_;refine wpAny_pyIter_zip (s:={s1 with heap:=h'}) a1 ?_;refine⟨s1.heap.objs.size+4,[s1.heap.objs.size,s1.heap.objs.size+1,s1.heap.objs.size+2,s1.heap.objs.size+3,s1.heap.objs.size+4],_,_,H1,rfl,I1.kept (t':=s1.toks) kp,k8f s1.heap.objs.size x y,⟨a1,a2,⟨_,_,a3⟩,a4,a5⟩,fun b hb=>?_,q⟩;have hle:s1.heap.objs.size<=b:=by
  simp only [Ap,Ef,or_false] at hb
  rcases hb with rfl | rfl | rfl | rfl | rfl <;> omega
 exact I1.fpOk hle (I1.hok.fresh hle)
end
end L2
namespace L2
open PySem PySem.Spec PyProof.Rows
structure Clause(e:Expr)(d:Nat)(tg iter:Expr)(ifs:List Expr)(acc:Value)(env:Env)(inner:Sem Unit):Prop where
 at':(clausesOf e)[d]?=some ⟨tg,iter,ifs,0⟩
 quiet:∀ it,(Code.compLoop e d it acc env).quiet=true
 den:∀(prog:Program) (w:World) it,(model prog w).den (.compLoop e d it acc env)=(compTurn e d it acc env).onRaise (fun x=>do noteFrame x env;theTreesLotGoes x)
 und:∀(A:Around) it,A.under (.compLoop e d it acc env)=A
 denS:∀(prog:Program) (w:World) it,(model prog w).den (.compStart e d it acc env)=(compStart e d it acc env).onRaise (fun x=>do noteFrame x env;standAt theWindowsPlace)
 undS:∀(A:Around) it,A.under (.compStart e d it acc env)=A
 turn:∀ it,compTurn e d it acc env=(do
   standAt iter.pos
   match <- pyNext it with
   | none=>pure (.done .next)
   | some v=>
    letOwnedTupleGo tg it v
    assign tg env v
    let mut ok:=true
    for c in ifs do
     if ok then ok <- isTrue c env (eval c env)
    if ok then
     inner
    again (.compLoop e d it acc env))
section
variable{prog:Program}{w:World}{A:Around}{R:Result->Shared->Prop}{s:Shared}
theorem j31{e:Expr}{d:Nat}{tg iter:Expr}{ifs:List Expr}{it acc:Value}{env:Env}{inner:Sem Unit}(C:Clause e d tg iter ifs acc env inner)(I:Nat->Shared->Prop)
  (turn : ∀ n s, I n s → wpAny (model prog w) A (pyNext it) (fun r s₁ => match r with
   | none=>R (.ok .next) s₁
   | some v=>wpAny (model prog w) A (letOwnedTupleGo tg it v) (fun _ s₁'=>wpAny (model prog w) A (assign tg env v) (fun _ s₂=>
     wpAny (model prog w) A (forIn ifs true fun c r=>if r=true then do let ok <- isTrue c env (eval c env);pure (ForInStep.yield ok) else pure (ForInStep.yield r)) (fun ok s₃=>
      if ok=true then wpAny (model prog w) A inner (fun _ s₄=>∃ m,m < n/\I m s₄) (notedBy (model prog w) A env fun e s'=>R (.error e) s') s₃
      else ∃ m,m < n/\I m s₃) (notedBy (model prog w) A env fun e s'=>R (.error e) s') s₂) (notedBy (model prog w) A env fun e s'=>R (.error e) s') s₁') (notedBy (model prog w) A env fun e s'=>R (.error e) s') s₁) (notedBy (model prog w) A env fun e s'=>R (.error e) s') s)
  (n:Nat) (h:I n s) :
  codeAny (model prog w) A (.compLoop e d it acc env) R s:=by
 refine codeAny_loop (C.quiet it) I (fun n s hI=>?_) n h;rw [C.und,C.den];refine wpAny_noted ?_;rw [C.turn];refine wpAny_bind (wpAny_standAt (wpAny_bind (wpAny_mono (turn n s hI) (fun r s₁ h₁=>?_) fun _ _ h'=>h')));cases r with
 | none=>exact wpAny_pure h₁
 | some v=>
  refine wpAny_bind (wpAny_mono h₁ (fun _ s₁' h₁'=>?_) fun _ _ h'=>h');refine wpAny_bind (wpAny_mono h₁' (fun _ s₂ h₂=>wpAny_bind (wpAny_mono h₂ (fun ok s₃ h₃=>?_) fun _ _ h'=>h')) fun _ _ h'=>h');cases ok with
  | false=>exact wpAny_pure ⟨rfl,h₃⟩
  | true=>exact wpAny_bind (wpAny_mono h₃ (fun _ s₄ h₄=>wpAny_pure ⟨rfl,h₄⟩) fun _ _ h'=>h')
theorem j3k{e:Expr}{d:Nat}{tg iter:Expr}{ifs:List Expr}{it acc:Value}{env:Env}{inner:Sem Unit}(C:Clause e d tg iter ifs acc env inner)
  (h0:codeAny (model prog w) A (.compLoop e d it acc env) R s)
  (h:wpAny (model prog w) A (pyIter it) (fun it' s'=>codeAny (model prog w) A (.compLoop e d it' acc env) R s') (notedBy (model prog w) A env fun x s'=>R (.error x) s') s) :
  codeAny (model prog w) A (.compStart e d it acc env) R s:=by
 refine codeAny_of_tree ?_;rw [C.undS,C.denS];refine wpAny_notedAt ?_;unfold compStart;rw [C.at'];show wpAny _ _ (ask >>= _) _ _ s;refine wpAny_bind (wpAny_askSetting (wpAny_ite ?_))
 split
 ·first
   | exact wpAny_bind (wpAny_pure (wpAny_pure (And.intro (C.quiet _) h0)))
   | exact wpAny_pure (And.intro (C.quiet _) h0)
 ·first
   | exact wpAny_bind (wpAny_rule (wpAny_bind (wpAny_standAt (wpAny_bind (wpAny_mono h (fun it' s' h'=>wpAny_pure (And.intro (C.quiet _) h')) fun _ _ x=>x)))))
   | (refine wpAny_bind (wpAny_rule ?_);show wpAny _ _ (standAt iter.pos >>= _) _ _ s;exact wpAny_bind (wpAny_standAt (wpAny_bind (wpAny_mono h (fun it' s' h'=>wpAny_pure (And.intro (C.quiet _) h')) fun _ _ x=>x))))
end
structure Ein(X:Cx)(m:Sem Unit)(σ:St)(H:Hp)(Q:St->Hp->Prop):Prop where
 run:∀(pins:List (Addr×Obj)) (s:Shared),Inv X pins σ H s->wpAny (model X.prog X.w) X.A m (fun _ s'=>∃ σ' H',Inv X pins σ' H' s'/\Q σ' H') X.xe s
def j20(X:Cx)(tg:Expr)(ifs:List Expr)(inner:Sem Unit)(J:It)(after:St->Hp->Prop)(σ:St)(H:Hp):Prop:=
 ∃ W:Nat->Nat->St->Hp->Prop,(∃ m,W 0 m σ H)/\∀ i m σ' H',W i m σ' H' ->
  (J.stop i H' ∧ after σ' H') ∨ (J.go i H' ∧ ∃ N : St → Hp → Prop, (∀ σ' H', N σ' H' → ∃ m', m' < m ∧ W (i + 1) m' σ' H') ∧ ∀ x H2, J.yld i H' x H2 → Eg X tg x σ' H2 fun σ2 H3 => Ei X ifs σ2 H3 fun b H4 =>
   if b=true then Ein X inner σ2 H4 N else N σ2 H4)
theorem j37{X:Cx}(hxe:X.xe=fun _ _=>False)(hc:X.calm=true){e:Expr}{d:Nat}{tg iter:Expr}{ifs:List Expr}{acc:Value}{inner:Sem Unit}(C:Clause e d tg iter ifs acc X.env inner){pins:List (Addr×Obj)}{σ:St}{H:Hp}{s:Shared}
  {it:Addr} {fp:List Addr} {tn:Nat->Heap->Prop} {J:It} {after:St->Hp->Prop} {R:Result->Shared->Prop} (I:Inv X pins σ H s) (T:Turn X.prog X.w X.K tg J fp it tn) (st:tn 0 s.heap) (hf:∀ b∈fp,FpOk X pins H b) (h:j20 X tg ifs inner J after σ H)
  (hR:∀ σ' H' s',Inv X pins σ' H' s'->after σ' H'->R (.ok .next) s') :
  codeAny (model X.prog X.w) X.A (.compStart e d (.ref it) acc X.env) R s:=by
 obtain⟨W,⟨m0,w0⟩,turn⟩:=h;have stat:∀{H':Hp},(∀ b∈fp,H' b=none)->∀ b∈fp,FpOk X pins H' b:=fun hn b hb=>⟨hn b hb,(hf b hb).2⟩;have loop:codeAny (model X.prog X.w) X.A (.compLoop e d (.ref it) acc X.env) R s:=by
  refine j31 C (fun k s'=>∃ i σ' H',Inv X pins σ' H' s'/\tn i s'.heap/\(∀ b∈fp,H' b=none)/\W i k σ' H') ?_ m0 ⟨0,σ,H,I,st,fun b hb=>(hf b hb).1,w0⟩;rintro k s4 ⟨i,σ4,H4,J4,st4,fr4,w4⟩
  rcases turn i k σ4 H4 w4 with ⟨stop,qn⟩ | ⟨go,N,hN,step⟩
  ·have d1:=T.done X rfl rfl rfl hc i pins s4 σ4 H4 (fun _ _=>False) J4 (stat fr4) st4 stop;refine thnF d1 fun r s5 ⟨hr,I5⟩=>?_;subst hr;exact hR _ _ _ I5 qn
  ·have d1:=T.item X rfl rfl rfl hc i pins s4 σ4 H4 (fun _ _=>False) J4 (stat fr4) st4 go;refine thnF d1 fun r s5 ⟨u,hr,h5⟩=>?_;subst hr;refine thnF h5 fun _ s6 ⟨x,H6,I6,r6,y6,st6,fr6⟩=>?_;have I6':=I6.pinned (stat fr6) (T.obj _ _ st6);have again:∀{σ7:St} {H7:Hp} {s7:Shared},Inv X (pins++j6j fp s6.heap) σ7 H7 s7->N σ7 H7->∃ m,m < k/\∃ i σ' H',Inv X pins σ' H' s7/\tn i s7.heap/\(∀ b∈fp,H' b=none)/\W i m σ' H':=fun{σ7 H7 s7} I7 n7=>by
    obtain⟨m',hm,w7⟩:=hN σ7 H7 n7;refine⟨m',hm,i+1,σ7,H7,I7.unpinned,T.keep _ _ _ st6 fun b hb o e=>(I7.pin (b,o) (As _ (As _ (j10 hb e)))).1,fun b hb=>?_,w7⟩;obtain⟨o,e,d⟩:=T.obj _ _ st6 b hb;exact(I7.pin (b,o) (As _ (As _ (j10 hb e)))).2.1
   have a1:=(step x H6 y6).run _ s6 u I6' r6;rw [hxe] at a1;refine thnF a1 fun _ s7 ⟨σ7,H7,I7,q7⟩=>?_;have a2:=q7.run _ s7 I7;rw [hxe] at a2;refine thnF a2 fun ok s8 ⟨H8,I8,q8⟩=>?_;cases ok with
   | false=>
    rw [if_neg Al] at q8 ⊢;exact again I8 q8
   | true=>
    rw [if_pos rfl] at q8 ⊢;have a3:=q8.run _ s8 I8;rw [hxe] at a3;exact thnF a3 fun _ s9 ⟨σ9,H9,I9,q9⟩=>again I9 q9
 exact j3k C loop (T.self _ 0 _ _ _ st loop)
end L2
namespace L2
open PySem PySem.Spec PyProof.Rows
theorem j29{X:Cx}{e:Expr}{tg iter:Expr}{ifs:List Expr}{scope:Scope}{N':List Str}{newAcc:Sem Value}{o0:Obj}{u0:Addr->HO}{n:Nat}{inner:Value->Env->Sem Unit}{pins:List (Addr×Obj)}{σ:St}{H2:Hp}{s2:Shared}{E:Value->Shared->Prop}{RR:Value->Addr->Result->Shared->Prop}{it:Addr}{fp:List Addr}{tn:Nat->Heap->Prop}{J:It}{Q:VK}
  (hnew:∀(Q:Value->Shared->Prop) (E:Value->Shared->Prop) (s:Shared),Q (.ref s.heap.objs.size) {s with heap:=s.heap.push o0}->wpAny (model X.prog X.w) X.A newAcc Q E s) (hobj:∀(H:Hp) (h:Heap),sysModules < h.objs.size->ObjOk X.prog X.w H (h.push o0) h.objs.size (u0 h.objs.size))
  (hc:X.calm=true) (ck:CompOk X.env.scope scope X.N N') (hl:N'.length=X.N.length+n) (hC:∀ acc env,Clause e 0 tg iter ifs acc env (inner acc env))
  (I2:Inv X pins σ H2 s2) (T:Turn X.prog X.w X.K tg J fp it tn) (st2:tn 0 s2.heap) (f2:∀ b∈fp,FpOk X pins H2 b)
  (q:∀ D,H2 D=none->∀ cl C s₀ H₀ ex,j20 (j08 X N' scope cl C s₀ H₀ ex) tg ifs (inner (.ref D) (compEnvC scope cl C X.env)) J (fun _ H'=>Q (.ref D) H') (σ++List.replicate n none) (upd H2 D (u0 D)))
  (hRR:∀ D C H' s' m,Inv X pins σ H' s'->s'.heap.Ns C m->H' C=none->C≠X.env.locals->X.s₀.heap.objs.size<=C->(∀ x c,X.env.cells.lookup x=some c->c≠C)->(∀ p∈X.pn++pins,p.1≠C)->Q (.ref D) H'->RR (.ref D) C (.ok .next) s') :
  wpAny (model X.prog X.w) X.A newAcc (fun acc s₃=>wpAny (model X.prog X.w) X.A (newFunctionEnv scope X.env.globals (j0z scope.names X.env.cells []) [] X.env.qual none .none (some X.env)) (fun cenv s₄=>
   codeAny (model X.prog X.w) X.A (.compStart e 0 (.ref it) acc {cenv with scope:=relabel scope X.env}) (RR acc cenv.locals) s₄) E s₃) E s2:=by
 refine hnew _ _ _ (wpAny_newFunctionEnv ck.cell (by intro y hy;simp at hy) (fun h₁ hns₁ hsb₁=>?_) ck.kind);have hD:H2 s2.heap.objs.size=none:=I2.hok.fresh (Ah _);have q0:=q s2.heap.objs.size hD (j0z scope.names X.env.cells []);have fl:∀ b∈fp,b < s2.heap.objs.size:=fun b hb=>by
  obtain⟨o,e,_⟩:=T.obj 0 _ st2 b hb;exact Aj e
 have I3:Inv X pins σ (upd H2 s2.heap.objs.size (u0 s2.heap.objs.size)) {s2 with heap:=s2.heap.push o0}:=
  I2.laid (t':=s2.toks) (fun b o e=>Ae _ e) (Ah _) (hobj _ _ I2.big)
 generalize hs3:({s2 with heap:=s2.heap.push o0}:Shared)=s3 at I3 hns₁ hsb₁ ⊢;have hz3:s3.heap.objs.size=s2.heap.objs.size+1:=by rw [<- hs3];exact Cz ..
 have old2:∀ b o,s2.heap.get? b=some o->s3.heap.get? b=some o:=fun b o e=>by rw [<- hs3];exact Ae _ e
 have old:∀ b o,s3.heap.get? b=some o->h₁.get? b=some o:=fun b o e=>
  hsb₁.extBut b o (Bg (Aj e)) (Ae _ e)
 have f3:∀ b∈fp,FpOk X pins (upd H2 s2.heap.objs.size (u0 s2.heap.objs.size)) b/\b < s3.heap.objs.size:=fun b hb=>by
  refine⟨⟨?_,(f2 b hb).2⟩,by rw [hz3];exact Ca (fl b hb)⟩;rw [j0d (Bg (fl b hb))];exact(f2 b hb).1
 have I4:=fun(t':Nat)=>k2a (N':=N') (scope:=scope) (n:=n) (fp:=fp) (h₁:=h₁) (t':=t') I3 ck hl hns₁ old f3;generalize hX:j08 X N' scope (j0z scope.names X.env.cells []) s3.heap.objs.size s3 (upd H2 s2.heap.objs.size (u0 s2.heap.objs.size)) fp=X' at I4;have eP:X'.prog=X.prog:=by rw [<- hX];rfl
 have ew:X'.w=X.w:=by rw [<- hX];rfl
 have eK:X'.K=X.K:=by rw [<- hX];rfl
 have eA:X'.A=X.A:=by rw [<- hX];rfl
 have eE:X'.env=compEnvC scope (j0z scope.names X.env.cells []) s3.heap.objs.size X.env:=by rw [<- hX];rfl
 have ec:X'.calm=true:=by rw [<- hX];exact hc
 have ex':X'.xe=fun _ _=>False:=by rw [<- hX];rfl
 have stat:∀{H':Hp},(∀ b∈fp,H' b=none)->∀ b∈fp,FpOk X' [] H' b:=fun hn b hb=>by
  refine⟨hn b hb,?_,?_,?_,?_,?_⟩
  ·rw [eE];exact Bg (f3 b hb).2
  ·rw [<- hX];intro hf
   rcases Ap.mp (I3.stkSub b hf) with z | z
   ·exact(f3 b hb).1.2.1 z
   ·exact(f3 b hb).1.2.2.1 z
  ·rw [<- hX];exact .inl hb
  ·rw [eE];intro x c e;exact(f3 b hb).1.2.2.2.2.1 x c (j2n _ _ _ (fun _ _ z=>by simp at z) x c (PySem.mem_of_lookup e))
  ·rw [<- hX];intro p hp;exact absurd hp (by simp [j08])
 have fin:∀{σ':St} {H':Hp} {s':Shared},Inv X' [] σ' H' s'->Q (.ref s2.heap.objs.size) H'->RR (.ref s2.heap.objs.size) s3.heap.objs.size (.ok .next) s':=fun{σ' H' s'} I' q'=>by
  obtain⟨m',hn',_⟩:=id I'.loc;rw [eE] at hn';have hos:s'.os=s3.os:=by have:=I'.os;rw [<- hX] at this;exact this
  have hun:Un (frs X.stack) fp (upd H2 s2.heap.objs.size (u0 s2.heap.objs.size)) H' s3.heap s'.heap:=by have:=I'.base;rw [<- hX] at this;exact this
  have hok:HOk X.prog X.w H' s'.heap:=by have:=I'.hok;rw [eP,ew] at this;exact this
  have IX:Inv X pins σ H' s':=I3.call' (ch:=fp) hos hun hok I'.bare fun b hb=>⟨(f3 b hb).1.2.2.2.1,(f3 b hb).1.2.1,(f3 b hb).1.2.2.2.2.1,(f3 b hb).1.2.2.2.2.2⟩;have hfr:=I'.free;rw [eE] at hfr;refine hRR _ _ H' s' m' IX hn' hfr (Ci I3.lt) I3.sz (fun x c e z=>?_) (fun p hp z=>?_) q'
  ·obtain⟨v,o,ho,_⟩:=I3.cell x c e;exact absurd (Aj ho) (by rw [z];exact By _)
  ·exact absurd (Aj (I3.pin p hp).1) (by rw [z];exact By _)
 have fs0:∀ b∈fp,FpOk X' [] (upd H2 s2.heap.objs.size (u0 s2.heap.objs.size)) b:=stat fun b hb=>(f3 b hb).1.1;have q1:j20 X' tg ifs (inner (.ref s2.heap.objs.size) X'.env) J (fun _ H'=>Q (.ref s2.heap.objs.size) H') (σ++List.replicate n none) (upd H2 s2.heap.objs.size (u0 s2.heap.objs.size)):=by
  rw [eE,<- hX];exact q0 _ _ _ _
 have T':Turn X'.prog X'.w X'.K tg J fp it tn:=by rw [eP,ew,eK];exact T
 have fin2:=j37 (s:={s3 with heap:=h₁,toks:=s3.toks}) ex' ec (hC (.ref s2.heap.objs.size) X'.env) (I4 s3.toks) T' (T.keep 0 _ _ st2 fun b _ o e=>old b o (old2 b o e)) fs0 q1 (R:=RR (.ref s2.heap.objs.size) s3.heap.objs.size) fun σ' H' s' I' a'=>fin I' a';rw [eP,ew,eA,eE] at fin2;exact fin2
end L2
namespace L2
open PySem PySem.Spec PyProof.Rows
def k2v(elt t1 i1:Expr)(f1:List Expr)(t2 i2:Expr)(f2:List Expr)(scope:Scope)(pos:Pos)(acc:Value)(env:Env):Sem Unit:=do
 let x <- eval i2 env
 standAt i2.pos
 let x <- foldedSetIterable i2 env x
 let _ <- runOwn (.compStart (.ListComp elt [⟨t1,i1,f1,0⟩,⟨t2,i2,f2,0⟩] scope pos) 1 (<- holding [x] (pyIter x)) acc env) env
def emit(elt:Expr)(acc:Value)(env:Env):Sem Unit:=do let _ <- call (.builtin "list.append") [acc,<- eval elt env]
section
variable{X:Cx}{elt t1 i1 t2 i2:Expr}{f1 f2:List Expr}{scope:Scope}{pos:Pos}{σ:St}{H:Hp}{acc:Value}{env:Env}
theorem q1j:Clause (.ListComp elt [⟨t1,i1,f1,0⟩,⟨t2,i2,f2,0⟩] scope pos) 0 t1 i1 f1 acc env (k2v elt t1 i1 f1 t2 i2 f2 scope pos acc env):=⟨rfl,fun _=>rfl,fun _ _ _=>rfl,fun _ _=>rfl,fun _ _ _=>rfl,fun _ _=>rfl,fun it=>by
 unfold k2v;simp only [bind_assoc,pure_bind];rfl⟩
theorem q27:Clause (.ListComp elt [⟨t1,i1,f1,0⟩,⟨t2,i2,f2,0⟩] scope pos) 1 t2 i2 f2 acc env (emit elt acc env):=⟨rfl,fun _=>rfl,fun _ _ _=>rfl,fun _ _=>rfl,fun _ _ _=>rfl,fun _ _=>rfl,fun _=>rfl⟩
theorem k8r{D:Addr}{Q:St->Hp->Prop} (h:Ev X elt σ H fun v H1=>∃ ys,H1 D=some (.lst ys)/\ys.length < sizeLine/\Q σ (upd H1 D (.lst (ys++[v])))):Ein X (emit elt (.ref D) X.env) σ H Q:=by
 refine⟨fun pins s I=>?_⟩;unfold emit;refine wpAny_bind (thn (h.run pins s I) fun v s1 ⟨x,H1,I1,r1,ys,hy,hz,q⟩=>?_);refine wpAny_bind (thn (j4b (X:=X) _ s1 σ H1 (.ref D) [x] (.ref D) [v] (fun _ H'=>Q σ H') I1 rfl (.cons r1 .nil) ⟨_,ys,x,rfl,rfl,hy,hz,q⟩) fun _ s2 ⟨_,H2,I2,_,q2⟩=>wpAny_pure ⟨σ,H2,I2,q2⟩)
theorem k8q{wi:TI}{Q:St->Hp->Prop}(hxe:X.xe=fun _ _=>False)(hc:X.calm=true)(hi:PI X t2 i2 wi)(h:wi σ H fun J H1=>j20 X t2 f2 (emit elt acc X.env) J Q σ H1)
  (hs:∀ x,foldedSetIterable i2 X.env x=pure x:=by intro _;rfl):Ein X (k2v elt t1 i1 f1 t2 i2 f2 scope pos acc X.env) σ H Q:=by
 refine⟨fun pins s I=>?_⟩;unfold k2v;refine wpAny_bind (thn (hi pins s σ H _ I h) fun x s1 h1=>?_);refine wpAny_bind (wpAny_standAt (wpAny_bind (wpAny_of_eq (hs x) (wpAny_bind (wpAny_holding (wpAny_mono h1 (fun itv s2 h2=>?_) fun _ _ e=>e))))));obtain⟨it,fp,tn,J,H2,e,I2,T,st2,f2',q⟩:=h2;subst e;refine wpAny_bind (wpAny_runOwn (Q:=fun _ s'=>wpAny (model X.prog X.w) X.A (pure ()) (fun _ s'=>∃ σ' H',Inv X pins σ' H' s'/\Q σ' H') X.xe s') ?_);exact j37 hxe hc q27 I2 T st2 f2' q fun σ' H' s' I' q'=>wpAny_pure ⟨σ',H',I',q'⟩
theorem k8i{wi:TI}{Q:VK}(sc:Scope)(N N':List Str)(n:Nat)(hi:PI X t1 i1 wi)
  (h:wi σ H fun J H1=>∀ D,H1 D=none->∀ cl C s₀ H₀ ex,j20 (j08 X N' scope cl C s₀ H₀ ex) t1 f1 (k2v elt t1 i1 f1 t2 i2 f2 scope pos (.ref D) (compEnvC scope cl C X.env)) J (fun _ H'=>Q (.ref D) H') (σ++List.replicate n none) (upd H1 D (.lst [])))
  (hc:X.calm=true:=by rfl) (hsc:X.env.scope=sc:=by rfl) (hN:X.N=N:=by rfl) (hk:j4j sc scope N N'=true:=by decide +kernel) (hl:N'.length=N.length+n:=by rfl)
  (hs:∀ x,foldedSetIterable i1 X.env x=pure x:=by intro _;rfl):Ev X (.ListComp elt [⟨t1,i1,f1,0⟩,⟨t2,i2,f2,0⟩] scope pos) σ H Q:=by
 refine⟨fun pins s I=>?_⟩;subst hsc hN;have ck:=CompOk.of hk;rw [eval_ListComp];refine wpAny_comprehension_free (use:=none) rfl hs (j2o fun x hx hf=>I.ok.has x.1 (ck.free x hx hf)) ck.kind ck.names (thn (hi pins s σ H _ I h) fun v s1 h1=>thn h1 fun itv s2 h2=>?_);obtain⟨it,fp,tn,J,H2,e,I2,T,st2,f2',q⟩:=h2;subst e;refine j29 (e:= .ListComp elt [⟨t1,i1,f1,0⟩,⟨t2,i2,f2,0⟩] scope pos) (newAcc:=newList []) (o0:={cls:= .type "list",dict:=none,data:= .seq ([]:List Value).toArray}) (u0:=fun _=> .lst []) (fun _ _ _ h=>wpAny_newObj_type h (by show(0:Nat)<=sizeLine;exact Bn _)) (fun _ _ _=>⟨Bn _,[],0,.nil,Am _ rfl⟩) (Q:=Q) (RR:=fun acc C=>compPost (model X.prog X.w) X.A X.xe none (EP X pins σ Q) acc C) hc ck hl (inner:=k2v elt t1 i1 f1 t2 i2 f2 scope pos) (fun _ _=>q1j) I2 T st2 f2' q ?_;intro D C H' s' m IX hn hC c1 c2 c3 c4 qq;exact⟨m,hn,fun h' hs'=>⟨.ref D,H',IX.turned (t':=s'.toks) (fun b o hb e=>hs'.extBut b o hb e) hC (Ne.symm (Ne.symm c1)) (.inr c2) c3 c4,rfl,qq⟩⟩
end
end L2
namespace L2
open PySem PySem.Spec PyProof.Rows
section
variable{X:Cx}{pins:List (Addr×Obj)}{σ:St}{H:Hp}{s:Shared}{a:Addr}{y v:V}{u r:Value}{A:Around}{E:Value->Shared->Prop}
theorem j9l{H':Hp}{Q:Unit->Shared->Prop}(hu:A.units+1 < cLine)(I:Inv X pins σ H s)(g:DPut H a y v H')(ry:RelV y u)(rv:RelV v r)(h:∀ s',Inv X pins σ H' s'->Q () s') :
  wpAny (model X.prog X.w) A (dictSet a u r) Q E s:=by
 rcases g with ⟨kvs,k,e,ey,l,eH⟩ | ⟨kvs,k,b,e,ey,eb,l,eH⟩
 ·subst ey eH;obtain⟨z,hd,vs,rel,dd⟩:=q2h I.hok e;have hz:vs.length<=sizeLine:=by rw [<- rel.length];exact z
  have hl:(putK kvs k v).length<=sizeLine:=by have:=j06 kvs k v;omega
  refine wpAny_dictSet_pairs (hsz:=hz) (j8y ry) dd fun h' dd' hs=>h _ ?_;have he:∃ q,h'.get? a=some q:=let ⟨q,_,_,hq,_⟩:=dd';⟨q,hq⟩
  exact j3i I (by rw [e];exact True.intro) hs he (k5o hl hd (rel.put k rv) dd')
 ·subst ey eH;cases (show u=Value.ref b from ry);obtain⟨z,hd,xs,rel,dd⟩:=q6l I.hok e;have hz:xs.length<=sizeLine:=by rw [<- Paired.length rel];exact z
  have hl:(putK kvs k v).length<=sizeLine:=by have:=j06 kvs k v;omega
  have room:(tupleKind (j0p X.prog X.w)).room A:=by first | exact hu | exact Nat.lt_of_succ_lt hu | exact Nat.lt_of_le_of_lt (Dv _) hu
  refine wpAny_dictSet_heap (hsz:=hz) room (j33 I.hok eb) dd fun h' dd' hs=>h _ ?_;obtain⟨q,es,ep,hq,h2,h3,h4,_,h5⟩:=dd';refine j3i I (by rw [e];exact True.intro) hs ⟨q,hq⟩ ⟨hl,hd,_,(rel.put k eb rv).keeps fun c ys ec=>?_,q,es,ep,hq,h2,h3,h4,h5⟩;rw [j0d (j1s ec e (fun z=>nomatch z))];exact ec
end
def k3f(k v:Expr)(acc:Value)(env:Env):Sem Unit:=do
 let kv <- eval k env
 let vv <- holding [kv] (eval v env)
 match acc with
 | .ref d=>do
  standAt {k.pos with endLine:=v.pos.endLine,endCol:=v.pos.endCol}
  holding [kv,vv] (dictSet d kv vv)
 | _=>unsupported "internal:dictcomp"
section
variable{X:Cx}{k v t1 i1 t2 i2:Expr}{f1 f2:List Expr}{scope:Scope}{pos:Pos}{σ:St}{H:Hp}{acc:Value}{env:Env}
theorem q01:Clause (.DictComp k v [⟨t1,i1,f1,0⟩] scope pos) 0 t1 i1 f1 acc env (k3f k v acc env):=⟨rfl,fun _=>rfl,fun _ _ _=>rfl,fun _ _=>rfl,fun _ _ _=>rfl,fun _ _=>rfl,fun it=>by
 unfold k3f;cases acc <;> first | rfl | (simp only [bind_assoc,pure_bind];rfl)⟩
theorem k3p{D:Addr}{Q:St->Hp->Prop}(hu:X.A.units+1 < cLine)(h:Ev X k σ H fun y H1=>Ev X v σ H1 fun x H2=>∃ H3,DPut H2 D y x H3/\Q σ H3):Ein X (k3f k v (.ref D) X.env) σ H Q:=by
 refine⟨fun pins s I=>?_⟩;unfold k3f;refine wpAny_bind (thn (h.run pins s I) fun kv s1 ⟨y,H1,I1,r1,h1⟩=>?_);refine wpAny_bind (wpAny_holding (thn (h1.run pins s1 I1) fun vv s2 ⟨x,H2,I2,r2,H3,dp,q⟩=>?_));show wpAny _ _ (standAt _ >>= fun _=>holding [kv,vv] (dictSet D kv vv)) _ _ _;exact wpAny_bind (wpAny_standAt (wpAny_holding (j9l hu I2 dp r1 r2 fun s' I'=>⟨σ,H3,I',q⟩)))
theorem k44{wi:TI}{Q:VK}(sc:Scope)(N N':List Str)(n:Nat)(hi:PI X t1 i1 wi)
  (h:wi σ H fun J H1=>∀ D,H1 D=none->∀ cl C s₀ H₀ ex,j20 (j08 X N' scope cl C s₀ H₀ ex) t1 f1 (k3f k v (.ref D) (compEnvC scope cl C X.env)) J (fun _ H'=>Q (.ref D) H') (σ++List.replicate n none) (upd H1 D (.dT [])))
  (hc:X.calm=true:=by rfl) (hsc:X.env.scope=sc:=by rfl) (hN:X.N=N:=by rfl) (hk:j4j sc scope N N'=true:=by decide +kernel) (hl:N'.length=N.length+n:=by rfl)
  (hs:∀ x,foldedSetIterable i1 X.env x=pure x:=by intro _;rfl):Ev X (.DictComp k v [⟨t1,i1,f1,0⟩] scope pos) σ H Q:=by
 refine⟨fun pins s I=>?_⟩;subst hsc hN;have ck:=CompOk.of hk;show wpAny _ _ (comprehension (.DictComp k v [⟨t1,i1,f1,0⟩] scope pos) scope X.env (firstIterPos [⟨t1,i1,f1,0⟩] pos) newDict (firstAsync [⟨t1,i1,f1,0⟩]) (firstIter [⟨t1,i1,f1,0⟩] X.env)) _ _ _;refine wpAny_comprehension_free (use:=none) rfl hs (j2o fun x hx hf=>I.ok.has x.1 (ck.free x hx hf)) ck.kind ck.names (thn (hi pins s σ H _ I h) fun xv s1 h1=>thn h1 fun itv s2 h2=>?_);obtain⟨it,fp,tn,J,H2,e,I2,T,st2,f2',q⟩:=h2;subst e;refine j29 (e:= .DictComp k v [⟨t1,i1,f1,0⟩] scope pos) (newAcc:=newDict) (o0:={cls:= .type "dict",data:= .dict #[]}) (u0:=fun _=> .dT []) (fun _ _ _ h=>wpAny_newObj_type h) (fun _ h hb=>k09 h hb) (Q:=Q) (RR:=fun acc C=>compPost (model X.prog X.w) X.A X.xe none (EP X pins σ Q) acc C) hc ck hl (inner:=k3f k v) (fun _ _=>q01) I2 T st2 f2' q ?_;intro D C H' s' m IX hn hC c1 c2 c3 c4 qq;exact⟨m,hn,fun h' hs'=>⟨.ref D,H',IX.turned (t':=s'.toks) (fun b o hb e=>hs'.extBut b o hb e) hC (Ne.symm (Ne.symm c1)) (.inr c2) c3 c4,rfl,qq⟩⟩
end
end L2
namespace L2
open PySem PySem.Spec PyProof.Rows SetT
theorem k9p{prog:Program}{w:World}{A:Around}{E:Value->Shared->Prop}{s:Shared}{a:Addr}{zs:List Str}{z:Str}{tk:Tok}{Q:Value->Shared->Prop}(S:SetAt prog w s.heap a zs)(hb:zs.length+1 < 1000)
  (h:∀ h',Heap.SameBut a s.heap h'->SetAt prog w h' a (added zs z)->Q .none {s with heap:=h',toks:=s.toks+1}) :
  wpAny (model prog w) A (call (.builtin "set.add") [.ref a,.str z tk]) Q E s:=by
 have hT:s.TypeIs (.ref a) "set":=let ⟨o,_,_,_,ho,hx,_⟩:=S;⟨o,ho,hx.1⟩
 refine wpAny_call_entry F.slot_set_add hT F.entry_set_add ?_ (F.args_set_add_2 _ _);unfold Builtin.«set.add» Builtin.Frozenset.oneOther;simp only [Fq,bind_assoc];unfold Builtin.Frozenset.addrOf setAdd;refine wpAny_bind (wpAny_pure ?_)
 try dsimp only
 refine wpAny_bind (wpAny_pure ?_)
 try dsimp only
 refine wpAny_bind ?_;refine wpAny_holding ?_;refine wpAny_bind ((PySem.strKind prog w).pyHash (k:=z) (v:= .str z tk) (by simp [PySem.strKind,Value.isStrOf]) ?_);refine q6o (s:={s with toks:=s.toks+1}) S hb fun b h' sb S'=>?_;show wpAny _ _ (ret Value.none) _ _ _;exact wpAny_pure ⟨_,rfl,h h' sb S'⟩
theorem q3t{prog:Program}{w:World}{A:Around}{E:Value->Shared->Prop}{s:Shared}{Q:Value->Shared->Prop}(k:Q (.ref s.heap.objs.size) {s with heap:=s.heap.push (j47 w)}):wpAny (model prog w) A (newSet (.type "set")) Q E s:=by
 unfold newSet;refine wpAny_bind (wp_text ?_)
 dsimp only
 simp only [newObj];exact wpAny_bind (wpAny_alloc (wpAny_pure k))
def k5g(elt:Expr)(acc:Value)(env:Env):Sem Unit:=do let v <- eval elt env;standAt elt.pos;let _ <- call (.builtin "set.add") [acc,v]
def k2w(elt t1 i1:Expr)(f1:List Expr)(t2 i2:Expr)(f2:List Expr)(scope:Scope)(pos:Pos)(acc:Value)(env:Env):Sem Unit:=do
 let x <- eval i2 env
 standAt i2.pos
 let x <- foldedSetIterable i2 env x
 let _ <- runOwn (.compStart (.SetComp elt [⟨t1,i1,f1,0⟩,⟨t2,i2,f2,0⟩] scope pos) 1 (<- holding [x] (pyIter x)) acc env) env
section
variable{X:Cx}{elt t1 i1 t2 i2:Expr}{f1 f2:List Expr}{scope:Scope}{pos:Pos}{σ:St}{H:Hp}{acc:Value}{env:Env}
theorem k8p:Clause (.SetComp elt [⟨t1,i1,f1,0⟩,⟨t2,i2,f2,0⟩] scope pos) 0 t1 i1 f1 acc env (k2w elt t1 i1 f1 t2 i2 f2 scope pos acc env):=⟨rfl,fun _=>rfl,fun _ _ _=>rfl,fun _ _=>rfl,fun _ _ _=>rfl,fun _ _=>rfl,fun it=>by
 unfold k2w;simp only [bind_assoc,pure_bind];rfl⟩
theorem k7l:Clause (.SetComp elt [⟨t1,i1,f1,0⟩,⟨t2,i2,f2,0⟩] scope pos) 1 t2 i2 f2 acc env (k5g elt acc env):=⟨rfl,fun _=>rfl,fun _ _ _=>rfl,fun _ _=>rfl,fun _ _ _=>rfl,fun _ _=>rfl,fun it=>by
 unfold k5g
 first | rfl | (simp only [bind_assoc,pure_bind];rfl)⟩
theorem k40{D:Addr}{Q:St->Hp->Prop} (h:Ev X elt σ H fun v H1=>∃ z zs,v = .str z/\H1 D=some (SetO X.prog X.w D zs)/\zs.length+1 < 1000/\Q σ (upd H1 D (SetO X.prog X.w D (added zs z)))):Ein X (k5g elt (.ref D) X.env) σ H Q:=by
 refine⟨fun pins s I=>?_⟩;unfold k5g;refine wpAny_bind (thn (h.run pins s I) fun v s1 ⟨x,H1,I1,r1,z,zs,e,hD,hl,q⟩=>?_);subst e;obtain⟨tk,rfl⟩:=r1;refine wpAny_bind (wpAny_standAt (wpAny_bind (k9p (I1.set hD) hl fun h' sb S'=>wpAny_pure ⟨σ,_,j3i (t':=s1.toks+1) I1 (by rw [hD];exact True.intro) sb ?_ (k39 S'),q⟩)));obtain⟨o,_,_,_,ho,_⟩:=S';exact⟨o,ho⟩
theorem k5x{wi:TI}{Q:St->Hp->Prop}(hxe:X.xe=fun _ _=>False)(hc:X.calm=true)(hi:PI X t2 i2 wi)(h:wi σ H fun J H1=>j20 X t2 f2 (k5g elt acc X.env) J Q σ H1)
  (hs:∀ x,foldedSetIterable i2 X.env x=pure x:=by intro _;rfl):Ein X (k2w elt t1 i1 f1 t2 i2 f2 scope pos acc X.env) σ H Q:=by
 refine⟨fun pins s I=>?_⟩;unfold k2w;refine wpAny_bind (thn (hi pins s σ H _ I h) fun x s1 h1=>?_);refine wpAny_bind (wpAny_standAt (wpAny_bind (wpAny_of_eq (hs x) (wpAny_bind (wpAny_holding (wpAny_mono h1 (fun itv s2 h2=>?_) fun _ _ e=>e))))));obtain⟨it,fp,tn,J,H2,e,I2,T,st2,f2',q⟩:=h2;subst e;refine wpAny_bind (wpAny_runOwn (Q:=fun _ s'=>wpAny (model X.prog X.w) X.A (pure ()) (fun _ s'=>∃ σ' H',Inv X pins σ' H' s'/\Q σ' H') X.xe s') ?_);exact j37 hxe hc k7l I2 T st2 f2' q fun σ' H' s' I' q'=>wpAny_pure ⟨σ',H',I',q'⟩
theorem k5t{wi:TI}{Q:VK}(sc:Scope)(N N':List Str)(n:Nat)(hi:PI X t1 i1 wi)
  (h:wi σ H fun J H1=>∀ D,H1 D=none->∀ cl C s₀ H₀ ex,j20 (j08 X N' scope cl C s₀ H₀ ex) t1 f1 (k2w elt t1 i1 f1 t2 i2 f2 scope pos (.ref D) (compEnvC scope cl C X.env)) J (fun _ H'=>Q (.ref D) H') (σ++List.replicate n none) (upd H1 D (SetO X.prog X.w D [])))
  (hc:X.calm=true:=by rfl) (hsc:X.env.scope=sc:=by rfl) (hN:X.N=N:=by rfl) (hk:j4j sc scope N N'=true:=by decide +kernel) (hl:N'.length=N.length+n:=by rfl)
  (hs:∀ x,foldedSetIterable i1 X.env x=pure x:=by intro _;rfl):Ev X (.SetComp elt [⟨t1,i1,f1,0⟩,⟨t2,i2,f2,0⟩] scope pos) σ H Q:=by
 refine⟨fun pins s I=>?_⟩;subst hsc hN;have ck:=CompOk.of hk;show wpAny _ _ (comprehension (.SetComp elt [⟨t1,i1,f1,0⟩,⟨t2,i2,f2,0⟩] scope pos) scope X.env (firstIterPos [⟨t1,i1,f1,0⟩,⟨t2,i2,f2,0⟩] pos) (newSet (.type "set")) (firstAsync [⟨t1,i1,f1,0⟩,⟨t2,i2,f2,0⟩]) (firstIter [⟨t1,i1,f1,0⟩,⟨t2,i2,f2,0⟩] X.env)) _ _ _;refine wpAny_comprehension_free (use:=none) rfl hs (j2o fun x hx hf=>I.ok.has x.1 (ck.free x hx hf)) ck.kind ck.names (thn (hi pins s σ H _ I h) fun xv s1 h1=>thn h1 fun itv s2 h2=>?_);obtain⟨it,fp,tn,J,H2,e,I2,T,st2,f2',q⟩:=h2;subst e;refine j29 (e:= .SetComp elt [⟨t1,i1,f1,0⟩,⟨t2,i2,f2,0⟩] scope pos) (newAcc:=newSet (.type "set")) (o0:=j47 X.w) (u0:=fun D=>SetO X.prog X.w D []) (fun _ _ _ h=>q3t h) (fun _ h _=>k39 (k4u (Am _ rfl))) (Q:=Q) (RR:=fun acc C=>compPost (model X.prog X.w) X.A X.xe none (EP X pins σ Q) acc C) hc ck hl (inner:=k2w elt t1 i1 f1 t2 i2 f2 scope pos) (fun _ _=>k8p) I2 T st2 f2' q ?_;intro D C H' s' m IX hn hC c1 c2 c3 c4 qq;exact⟨m,hn,fun h' hs'=>⟨.ref D,H',IX.turned (t':=s'.toks) (fun b o hb e=>hs'.extBut b o hb e) hC (Ne.symm (Ne.symm c1)) (.inr c2) c3 c4,rfl,qq⟩⟩
end
end L2
namespace Spl
open PySem PySem.Builtin PySem.Builtin.Str PySem.StrLaws
end Spl
namespace L2
open PySem PySem.Builtin PySem.Builtin.Str
section
variable{X:Cx}{σ:St}{H:Hp}{Q:VK}
end
end L2
namespace PySem
def Plain(h:Heap)(d:Addr)(es:Array DictEntry)(ep:Nat):Prop:=∃ o,h.get? d=some o/\o.ExactDict/\o.data = .dict es ep
section
variable{P:Program}{w:World}{A:Around}{E:Value->Shared->Prop}{s:Shared}
theorem k3l(d:Addr)(hd:(d == sysModules)=false):MeetsIn P w (Builtin.«dict.items» ⟨[.ref d],[]⟩) (fun _ R u=>u.TypeIs (.ref d) "dict" /\
  R (.ok (.ret (.ref u.heap.objs.size))) {u with heap:=u.heap.push {cls:= .type "dict_items",data:= .fields #[.ref d]}}):=by
 refine .of_wp fun B R u ⟨hT,k⟩=>?_;unfold Builtin.«dict.items» Builtin.Dict.noArgs;refine wpAny_bind (wpAny_bind (wpAny_notOrdered_dict hT ?_));show wpAny _ _ (pure d) _ _ u;refine wpAny_pure ?_;show wpAny _ _ (Builtin.Dict.showsAll d >>= _) _ _ u;unfold Builtin.Dict.showsAll;rw [if_neg (by rw [hd];exact Al)];exact wpAny_bind (wpAny_pure (wpAny_bind (wpAny_newObj_type (wpAny_pure ⟨_,rfl,k⟩))))
theorem k3h{v d:Addr}{es:Array DictEntry}{ep:Nat}{Q:Value->Shared->Prop}(hv:s.heap.IsItemsView v d)(hm:Plain s.heap d es ep)
  (k:Q (.ref s.heap.objs.size) {s with heap:=s.heap.push {cls:= .type "dict_itemiterator",data:= .fields #[.none,.bool false,.ref d,.int 0 0,.int es.size 0,.int ep 0,.none,.none]}}) :
  wpAny (model P w) A (pyIter (.ref v)) Q E s:=by
 obtain⟨vo,e1,e2,e3⟩:=id hv;obtain⟨o,f1,f2,f3⟩:=hm;refine wpAny_pyIter_slot hv.typeIs F.slot_dict_items_iter (wpAny_call_entry F.slot_dict_items_iter hv.typeIs F.entry_dict_items_iter ?_ (F.args_dict_items_iter_1 _));unfold Builtin.«dict_items.__iter__» Builtin.Dict_items.dictOf Builtin.Dict_items.newIterator;refine wpAny_bind (wpAny_pure (wpAny_bind (wpAny_bind (wpAny_field e1 e3 (x:= .ref d) rfl (wpAny_pure ?_)))));refine wpAny_bind (wpAny_bind (wpAny_dictEntries f1 f3 (wpAny_bind (wpAny_dictEpoch f1 f3 ?_))));have ow:Builtin.Dict_items.ownsTuple "dict_itemiterator" = true:=by decide
 simp only [ow,if_true];refine wpAny_newObj_type (wpAny_pure ⟨_,rfl,"dict_itemiterator",_,⟨_,Am _ rfl,rfl⟩,F.slot_dict_itemiterator_next.lookup,?_⟩) ?_
 ·simpa [rawInt,Builtin.Dict_items.ownedTupleFields] using k
 ·simp only [sizeOk,Builtin.Dict_items.ownedTupleFields,Aq,Af,An,Fe,sizeLine_eq];omega
theorem k2l{it d:Addr}{i ep:Nat}{es:Array DictEntry}{en:DictEntry}{y z:Value}{Q:Option Value->Shared->Prop}(hit:IsItemIter s.heap it d i es.size ep y z)(hm:Plain s.heap d es ep)(hx:es[i]?=some en)
  (k : ∀ h', IsItemIterOut h' it d (i + 1) es.size ep en.key en.val s.heap.objs.size → h'.get? s.heap.objs.size = some { cls := .type "tuple", data := .seq #[en.key, en.val] } →
   (∀ b o,b≠it->s.heap.get? b=some o->h'.get? b=some o)->Q (some (.ref s.heap.objs.size)) {s with heap:=h'}):wpAny (model P w) A (pyNext (.ref it)) Q E s:=by
 obtain⟨hp,g,dr,tk,os⟩:=s;obtain⟨o,f1,f2,f3⟩:=hm;have ty:Shared.TypeIs ⟨hp,g,dr,tk,os⟩ (.ref it) "dict_itemiterator":=⟨_,hit,rfl⟩;have lt:i < es.size:=by
  rcases Cj i es.size with h | h
  ·exact h
  ·rw [Dd h] at hx;cases hx
 have ow:Builtin.Dict_items.ownsTuple "dict_itemiterator" = true:=by decide
 unfold pyNext;refine wpAny_bind (wpAny_attempt (wpAny_callSpecial?_slot (name:=Str.ofString "__next__") ty F.slot_dict_itemiterator_next (wpAny_call_entry F.slot_dict_itemiterator_next ty F.entry_dict_itemiterator_next ?_ (F.args_dict_itemiterator_next_1 _))));refine wpAny_bind (wpAny_pure (wpAny_bind (wpAny_bind ?_)))
 first | refine wpAny_bind (wpAny_typeNameOfWhole_itemiter ty (wpAny_pure ?_)) | refine wpAny_bind (wpAny_typeNameOf_itemiter ty (wpAny_pure ?_))
 refine wpAny_bind (wpAny_fieldsOf hit rfl ?_);simp only [ow,if_true];show wpAny _ _ (if(Value.ref d == Value.none)=true then _ else _) _ _ _;rw [if_neg (show ¬((Value.ref d == Value.none)=true) from Al)];refine wpAny_bind (wpAny_pure (wpAny_bind (wpAny_dictEntries f1 f3 ?_)));rw [if_neg (by simp)];refine wpAny_bind (wpAny_pure (wpAny_bind (wpAny_dictEpoch f1 f3 ?_)));rw [if_neg (by simp)];refine wpAny_pure ?_;have ee:es[i]=en:=Option.some.inj ((Bx lt).symm.trans hx);simp only [show ¬((i:Int) < 0) from by omega,if_false,Bd,hx];refine wpAny_bind ?_
 first | refine wpAny_bind (wpAny_typeNameOfWhole_itemiter ty (wpAny_pure ?_)) | refine wpAny_bind (wpAny_typeNameOf_itemiter ty (wpAny_pure ?_))
 refine wpAny_bind (wpAny_isOneOf_itemiter ty ?_);show wpAny _ _ (setField (.ref it) 3 (rawInt ((i:Int)+1)) >>= _) _ _ ⟨hp,g,dr,tk,os⟩;refine wpAny_bind (wpAny_setField_rec hit (by simp) fun ha ea sa=>?_);replace sa:Heap.SameBut it hp ha:=sa;replace ea:IsItemIter ha it d (i+1) es.size ep y z:=by
  have e:((i+1:Nat):Int)=(i:Int)+1:=by omega
  unfold IsItemIter;rw [e]
  simpa [rawInt] using ea
 have tya:Shared.TypeIs ⟨ha,g,dr,tk,os⟩ (.ref it) "dict_itemiterator":=⟨_,ea,rfl⟩;refine wpAny_bind (wpAny_holding (wpAny_bind (wpAny_isOneOf_itemiter tya (wpAny_bind (wpAny_isOneOf_itemiter tya ?_)))));show wpAny _ _ (Builtin.Dict_items.pairFromOwner (.ref it) 6 en.key en.val) _ _ ⟨ha,g,dr,tk,os⟩;unfold Builtin.Dict_items.pairFromOwner Builtin.Dict_items.ownedTupleIsFree;refine wpAny_bind (wpAny_newTuple ?_);have eb:IsItemIter (ha.push {cls:= .type "tuple",data:= .seq #[en.key,en.val]}) it d (i+1) es.size ep y z:=Ae _ ea;have za:ha.objs.size=hp.objs.size:=sa.1;have il:it < hp.objs.size:=Aj hit;have tb:(ha.push {cls:= .type "tuple",data:= .seq #[en.key,en.val]}).get? hp.objs.size=some {cls:= .type "tuple",data:= .seq #[en.key,en.val]}:=by rw [<- za];exact Am _ rfl
 have kb:∀ b u,b≠it->hp.get? b=some u->(ha.push {cls:= .type "tuple",data:= .seq #[en.key,en.val]}).get? b=some u:=fun b u hb e=>Ae _ (sa.extBut b u hb e);rw [za];generalize ha.push {cls:= .type "tuple",data:= .seq #[en.key,en.val]}=hb at eb tb kb;refine wpAny_bind (wpAny_bind (wpAny_field (s:=⟨hb,g,dr,tk,os⟩) eb rfl (x:= .none) rfl (wpAny_pure ?_)));simp only [if_true];refine wpAny_bind (wpAny_field (s:=⟨hb,g,dr,tk,os⟩) eb rfl (x:=y) rfl (wpAny_bind (wpAny_field (s:=⟨hb,g,dr,tk,os⟩) eb rfl (x:=z) rfl ?_)));refine wpAny_bind (wpAny_setField_rec eb (by simp) fun h3 e3 s3=>?_);replace s3:Heap.SameBut it hb h3:=s3;replace e3:IsItemIter h3 it d (i+1) es.size ep en.key z:=e3;refine wpAny_bind (wpAny_setField_rec e3 (by simp) fun h4 e4 s4=>?_);replace s4:Heap.SameBut it h3 h4:=s4;replace e4:IsItemIter h4 it d (i+1) es.size ep en.key en.val:=e4;refine wpAny_bind (wpAny_setField_rec e4 (by simp) fun h5 e5 s5=>?_);replace s5:Heap.SameBut it h4 h5:=s5;replace e5:IsItemIterOut h5 it d (i+1) es.size ep en.key en.val hp.objs.size:=e5;refine wpAny_bind (wpAny_setField_rec e5 (by simp) fun h6 e6 s6=>?_);replace s6:Heap.SameBut it h5 h6:=s6;replace e6:IsItemIterOut h6 it d (i+1) es.size ep en.key en.val hp.objs.size:=e6;have all:=((s3.trans s4).trans s5).trans s6;exact wpAny_bind (wpAny_letGo (wpAny_pure (wpAny_pure ⟨_,rfl,wpAny_pure (k h6 e6 (all.extBut _ _ (Ci il) tb) fun b u hb' e=>all.extBut b u hb' (kb b u hb' e))⟩)))
theorem k5v{it d:Addr}{i ep:Nat}{es:Array DictEntry}{y z:Value}{Q:Option Value->Shared->Prop}(hh:A.handled=none)(hit:IsItemIter s.heap it d i es.size ep y z)(hm:Plain s.heap d es ep)(hx:es.size<=i)
  (k:∀ h',Heap.ExtBut it s.heap h'->Q none {s with heap:=h'}):wpAny (model P w) A (pyNext (.ref it)) Q E s:=by
 obtain⟨o,f1,f2,f3⟩:=hm;have ty:s.TypeIs (.ref it) "dict_itemiterator":=⟨_,hit,rfl⟩;have ow:Builtin.Dict_items.ownsTuple "dict_itemiterator" = true:=by decide
 unfold pyNext;refine wpAny_bind (wpAny_attempt (wpAny_callSpecial?_slot (name:=Str.ofString "__next__") ty F.slot_dict_itemiterator_next (wpAny_call_entry F.slot_dict_itemiterator_next ty F.entry_dict_itemiterator_next ?_ (F.args_dict_itemiterator_next_1 _))));refine wpAny_bind (wpAny_pure (wpAny_bind (wpAny_bind ?_)))
 first | refine wpAny_bind (wpAny_typeNameOfWhole_itemiter ty (wpAny_pure ?_)) | refine wpAny_bind (wpAny_typeNameOf_itemiter ty (wpAny_pure ?_))
 refine wpAny_bind (wpAny_fieldsOf hit rfl ?_);simp only [ow,if_true];show wpAny _ _ (if(Value.ref d == Value.none)=true then _ else _) _ _ s;rw [if_neg (show ¬((Value.ref d == Value.none)=true) from Al)];refine wpAny_bind (wpAny_pure (wpAny_bind (wpAny_dictEntries f1 f3 ?_)));rw [if_neg (by simp)];refine wpAny_bind (wpAny_pure (wpAny_bind (wpAny_dictEpoch f1 f3 ?_)));rw [if_neg (by simp)];refine wpAny_pure ?_;simp only [show ¬((i:Int) < 0) from by omega,if_false,Bd,Dd hx];refine wpAny_bind ?_
 first | refine wpAny_bind (wpAny_typeNameOfWhole_itemiter ty (wpAny_pure ?_)) | refine wpAny_bind (wpAny_typeNameOf_itemiter ty (wpAny_pure ?_))
 show wpAny _ _ (setField (.ref it) 2 .none >>= _) _ _ s;refine wpAny_bind (wpAny_setField hit rfl (by simp) ?_);show wpAny _ _ (newExc (.type "StopIteration") [] >>= _) _ _ _;refine wpAny_bind ?_;simp only [newExc,newTuple];refine wpAny_bind (wpAny_newObj_type ?_ (by size_fits));refine wpAny_bind (m:=firstArgMember _ _) (wpAny_of_eq (a:=Value.none) (by first | rfl | (simp only [firstArgMember];rfl)) ?_);refine wpAny_newObj_type ?_ (by size_fits);simp only [raiseNew];refine wpAny_bind (wpAny_handled ?_);rw [show A.in1.handled=none from hh];refine wpAny_bind (wpAny_pure (wpAny_throw ?_));exact wpAny_bind (wpAny_isInstance (T:= "StopIteration") (b:=true) ⟨_,Am _ rfl,rfl⟩ isSubtype_stop (wpAny_pure (k _ (((Heap.SameBut.update ..).extBut.push _).push _))))
theorem j6t:entryFor table "dict_itemiterator.__iter__" = some Builtin.«dict_keyiterator.__iter__»:=
 entryFor_alias (id':= "dict_keyiterator.__iter__") (by kernel_rfl) rfl (by decide +kernel) (by kernel_rfl)
theorem k3i{it d:Addr}{i n ep:Nat}{y z:Value}{Q:Value->Shared->Prop}(e:IsItemIter s.heap it d i n ep y z)(h:Q (.ref it) s):wpAny (model P w) A (pyIter (.ref it)) Q E s:=by
 have ty:s.TypeIs (.ref it) "dict_itemiterator":=⟨_,e,rfl⟩;refine wpAny_pyIter_slot ty F.slot_dict_itemiterator_iter (wpAny_call_entry F.slot_dict_itemiterator_iter ty j6t ?_ (F.args_dict_itemiterator_iter_1 _));show wpAny _ _ (ret (.ref it)) _ _ s;exact wpAny_pure ⟨_,rfl,"dict_itemiterator",_,ty,F.slot_dict_itemiterator_next.lookup,h⟩
end
end PySem
namespace L2
open PySem PySem.Spec PyProof.Rows
section
variable{X:Cx}{pins:List (Addr×Obj)}{σ:St}{H:Hp}{s:Shared}
theorem k0v{d:Addr}{kvs:List (List Key×V)}(I:Inv X pins σ H s)(e:H d=some (.dT kvs)):∃ o,s.heap.get? d=some o/\Inv X pins σ (upd H d (.frz o (.dT kvs))) s:=by
 obtain⟨z,hd,xs,r,o,es,ep,ho,h2,h3,h4,h5⟩:=(show ObjOk X.prog X.w H s.heap d (.dT kvs) from I.hok d _ e);refine⟨o,ho,?_⟩;have r':KT (upd H d (.frz o (.dT kvs))) kvs xs:=KT.keeps r fun b ys q=>by
  rw [j0d (j1s q e fun z=>nomatch z)];exact q
 exact j3i (t':=s.toks) I (by rw [e];exact True.intro) ⟨rfl,fun _ _=>rfl⟩ ⟨o,ho⟩ (show ObjOk X.prog X.w _ s.heap d (.frz o (.dT kvs)) from⟨ho,z,hd,xs,r',o,es,ep,ho,h2,h3,h4,h5⟩)
def Itm(d:Addr)(o:Obj)(kvs:List (List Key×V)):It:=
  ⟨fun i H => H d = some (.frz o (.dT kvs)) ∧ i < kvs.length,
   fun i H v H'=>∃ T b k x,kvs[i]?=some (k,x)/\H b=some (.tup (k.map kV))/\H T=none/\v = .ref T/\H'=upd H T (.tup [.ref b,x]),
   fun i H=>H d=some (.frz o (.dT kvs))/\kvs.length<=i⟩
theorem k3s{P:Program}{w:World}{h:Heap}{d:Addr}{o:Obj}{es:Array DictEntry}{ep:Nat}{kvs:List (List Key×V)}(hok:HOk P w H h)(e:H d=some (.frz o (.dT kvs)))(hd:o.data = .dict es ep) :
  Plain h d es ep/\∃ xs,KT H kvs xs/\es.toList=xs.map (entryOfKey (tupleKind (j0p P w))):=by
 obtain⟨ho,z,_,xs,r,o',es',ep',ho',h2,h3,h4,h5⟩:=(show ObjOk P w H h d (.frz o (.dT kvs)) from hok d _ e);have:o=o':=Option.some.inj (ho.symm.trans ho');subst this;rw [hd] at h3
 injection h3 with e1 e2
 subst e1;subst e2;exact⟨⟨o,ho,h2,hd⟩,xs,r,h4⟩
theorem kt_len{H:Hp}:∀{kvs:List (List Key×V)} {xs:List (List Key×Addr×Value)},KT H kvs xs->kvs.length=xs.length:=fun r=>by
 induction r with
 | nil=>rfl
 | cons _ _ ih=>simp only [An,ih]
theorem kt_at{H:Hp}:∀{kvs:List (List Key×V)} {xs:List (List Key×Addr×Value)},KT H kvs xs->∀{i:Nat} {k:List Key} {x:V},kvs[i]?=some (k,x)->∃ b u,xs[i]?=some (k,b,u)/\H b=some (.tup (k.map kV))/\RelV x u:=fun r=>by
 induction r with
 | nil=>intro i k x h;simp at h
 | @cons p q ps qs hq t ih=>
  intro i k x h;cases i with
  | zero=>
   simp only [List.getElem?_cons_zero,Option.some.injEq] at h;subst h;obtain⟨a,b,c⟩:=q;obtain⟨q1,q2,q3⟩:=hq;have q1:k=a:=q1;subst q1;exact⟨b,c,rfl,q2,q3⟩
  | succ i=>exact ih (by simpa using h)
theorem k26{P:Program}{w:World}{K:PySem.W.Frag}{elts:List Expr}{kk:Nat}{tp:Pos}(d it:Addr)(o:Obj)(es:Array DictEntry)(ep:Nat)(kvs:List (List Key×V))(hod:o.data = .dict es ep) :
  Turn P w K (.Tuple elts kk tp) (Itm d o kvs) [it] it (fun i h=>∃ y z,IsItemIter h it d i es.size ep y z) where
 mem:=by simp
 obj:=fun i h st b hb=>by
  have e:b=it:=by simpa using hb
  subst e;obtain⟨y,z,e⟩:=st;exact⟨_,e,fun v z=>by cases z⟩
 keep:=fun i h h' st k=>let ⟨y,z,e⟩:=st;⟨y,z,k it (by simp) _ e⟩
 item:=by
  intro X hP hw hK hc i pins s σ H E I hf st hg;subst hP hw hK;obtain⟨f0,f1,f2,f3,f4,f5⟩:=hf it (by simp);obtain⟨hd,hi⟩:=hg;obtain⟨pd,xs,r,hes⟩:=k3s I.hok hd hod;obtain⟨y,z,st⟩:=st;have hx:kvs[i]?=some (kvs[i].1,kvs[i].2):=Ab hi;obtain⟨b,u,hxs,hb,ru⟩:=kt_at r hx;have hen:=entry_at hes i;rw [hxs] at hen;refine k2l st pd (en:=entryOfKey (tupleKind (j0p X.prog X.w)) (kvs[i].1,b,u)) hen fun h' q1 q2 kp=>?_;have hT:H s.heap.objs.size=none:=I.hok.fresh (Ah _);have nT:it≠s.heap.objs.size:=Bg (Aj st);have I1:Inv X pins σ (upd H s.heap.objs.size (.tup [.ref b,kvs[i].2])) {s with heap:=s.heap.push {cls:= .type "tuple",data:= .seq #[Value.ref b,u]}}:=
   I.laid (t':=s.toks) (fun b o e=>Ae _ e) (Ah _) (show ObjOk X.prog X.w _ _ _ (.tup [.ref b,kvs[i].2]) from⟨(by show 2<=sizeLine;decide),[Value.ref b,u],.cons rfl (.cons ru .nil),⟨_,Am _ rfl,rfl,_,rfl⟩⟩)
  have fp:∀ c∈[it],FpOk X pins (upd H s.heap.objs.size (.tup [.ref b,kvs[i].2])) c:=fun c hc'=>by
   have e:c=it:=by simpa using hc'
   subst e;exact⟨by rw [j0d nT];exact f0,f1,f2,f3,f4,f5⟩
  have I2:=Inv.turnedL (h':=h') (t':=s.toks) I1 fp fun c v hc' e=>by
   have nc:c≠it:=by simpa using hc'
   rcases Heap.get?_push_cases e with ⟨ec,eo⟩ | e'
   ·rw [ec,eo];exact q2
   ·exact kp c v nc e'
  refine⟨_,rfl,wpAny_letOwnedTupleGo_items (s:={s with heap:=h'}) q1 fun h2 b1 sb=>?_⟩;have I3:=Inv.turnedL (h':=h2) (t':=s.toks) I2 fp fun c v hc' e=>(sb.2 c (by simpa using hc')).trans e;exact⟨.ref s.heap.objs.size,_,I3,rfl,⟨_,b,kvs[i].1,kvs[i].2,hx,hb,hT,rfl,rfl⟩,⟨_,_,b1⟩,fun c hc'=>(fp c hc').1⟩
 done:=by
  intro X hP hw hK hc i pins s σ H E I hf st hg;subst hP hw hK;obtain⟨hd,hi⟩:=hg;obtain⟨pd,xs,r,hes⟩:=k3s I.hok hd hod;obtain⟨y,z,st⟩:=st;have hl:es.size=kvs.length:=by rw [kt_len r,<- Bw,hes,Aa]
  exact k5v (I.ok.hd hc) st pd (by omega) fun h' eb=>⟨rfl,I.turnedL (t':=s.toks) hf fun c v hc' e=>eb c v (by simpa using hc') e⟩
 self:=fun _ _ _ _ _ st h=>let ⟨y,z,e⟩:=st;k3i e h
end
section
variable{X:Cx}
def q5a(to:TE):TI:=fun σ H R=>to σ H fun x H1=>∃ d kvs,x = .ref d/\H1 d=some (.dT kvs)/\∀ o,R (Itm d o kvs) (upd H1 d (.frz o (.dT kvs)))
theorem k7a{elts:List Expr}{kk:Nat}{tp ap cp:Pos}{l:Expr}{to:TE}(ho:PE X l to)(hbase:attributeBase l "items" X.env (eval l X.env)=eval l X.env:=by rfl)(hline:(ap.endLine == cp.line)=true:=by rfl) :
  PI X (.Tuple elts kk tp) (.Call (.Attribute l "items" ap) [] [] cp) (q5a to):=by
 intro pins s σ H R I h;refine wpAny_Call_method0_late hbase hline (thn (ho pins s σ H _ I h) fun v s1 ⟨x,H1,I1,r1,q1⟩=>?_);obtain⟨d,kvs,e,hd,q⟩:=q1;subst e;cases (show v=Value.ref d from r1);obtain⟨_,hsy,_,_,o,es,ep,e1,e2,e3,_⟩:=(show ObjOk X.prog X.w H1 s1.heap d (.dT kvs) from I1.hok d _ hd);have ty:s1.TypeIs (.ref d) "dict":=⟨o,e1,e2.1⟩;refine⟨"dict","dict.items",F.plainAttrs_dict,F.slot_dict_items,F.type_dict_items,ty,fun a ea=>?_,Calls.callWith_builtin rfl (PySem.evalArgs_none ?_)⟩
 ·cases ea;exact⟨o,e1,e2.2.1⟩
 refine call_meetsIn F.slot_dict_items ty F.entry_dict_items (F.args_dict_items_1 _) (k3l d hsy) ⟨ty,?_⟩;obtain⟨o',eo,I2⟩:=k0v I1 hd;have:o=o':=Option.some.inj (e1.symm.trans eo);subst this;have I3:=I2.kept (t':=s1.toks) (h':=s1.heap.push {cls:= .type "dict_items",data:= .fields #[.ref d]}) fun b u e=>Ae _ e;refine k3h (s:={s1 with heap:=s1.heap.push {cls:= .type "dict_items",data:= .fields #[.ref d]}}) (d:=d) (es:=es) (ep:=ep) ⟨_,Am _ rfl,rfl,rfl⟩ ⟨o,Ae _ e1,e2,e3⟩ ?_;refine⟨_,[(s1.heap.push {cls:= .type "dict_items",data:= .fields #[.ref d]}).objs.size],_,_,_,rfl,I3.kept (t':=s1.toks) fun b u e=>Ae _ e,k26 d _ o es ep kvs e3,⟨_,_,Am _ rfl⟩,fun b hb=>?_,q o⟩;have e:b=(s1.heap.push {cls:= .type "dict_items",data:= .fields #[.ref d]}).objs.size:=by simpa using hb
 subst e;exact I3.fpOk (Ah _) (I3.hok.fresh (Ah _))
end
section
variable{X:Cx}{tg:Expr}{ifs:List Expr}{inner:Sem Unit}{σ:St}{H:Hp}{d:Addr}{o:Obj}{kvs:List (List Key×V)}{after:St->Hp->Prop}
theorem j73(Pv:Nat->St->Hp->Prop)(h0:Pv 0 σ H)(hl:∀ i σ' H',i<=kvs.length->Pv i σ' H'->H' d=some (.frz o (.dT kvs)))
  (hs:∀ i k x b T σ' H',kvs[i]?=some (k,x)->Pv i σ' H'->H' b=some (.tup (k.map kV))->H' T=none->Eg X tg (.ref T) σ' (upd H' T (.tup [.ref b,x])) fun σ2 H3=>Ei X ifs σ2 H3 fun c H4=>if c=true then Ein X inner σ2 H4 (Pv (i+1)) else Pv (i+1) σ2 H4)
  (hd:∀ σ' H',Pv kvs.length σ' H'->after σ' H'):j20 X tg ifs inner (Itm d o kvs) after σ H:=by
 refine⟨fun i m σ' H'=>m=kvs.length - i/\i<=kvs.length/\Pv i σ' H',⟨_,rfl,Bn _,h0⟩,?_⟩;rintro i m σ' H' ⟨rfl,hi,p⟩;have q:=hl i σ' H' hi p
 by_cases hlt:i < kvs.length
 ·refine .inr ⟨⟨q,hlt⟩,Pv (i+1),fun σ' H' p'=>⟨kvs.length - (i+1),by omega,rfl,hlt,p'⟩,fun v H2 y=>?_⟩;obtain⟨T,b,k,x,hx,hb,hT,rfl,rfl⟩:=y;exact hs i k x b T σ' _ hx p hb hT
 ·have e:i=kvs.length:=by omega
  subst e;exact .inl ⟨⟨q,Ah _⟩,hd σ' H' p⟩
end
end L2
namespace R4
open PySem L2 Nt Sort2
def k6e:Sp:=fun vs H Q _=>∃(R:Addr) (as:List (Addr×Addr)) (n:Net),vs=[.ref R]/\RowsAt H R as n/\n.length<=1000/\∀ L as' H',Same H H'->H L=none->(∀ a∈as',H a.1=none/\H a.2=none)->RowsAt H' L as' n->Q (.ref L) H'
section
variable{P:Program}{w:World}{K:PySem.W.Frag}{mg:Str->Option Value}{base:Heap}
theorem j0n{H H':Hp}{l:Addr}(s:Same H H')(h:H' l=none):H l=none:=by
 cases e:H l with
 | none=>rfl
 | some v=>rw [s _ _ e] at h;cases h
abbrev NC:List Str:=["_law_rows"]
abbrev NC':List Str:=["_law_rows","_law_row"]
theorem scCopy:FnScope NC ["_law_rows"] (j0g k9v):=⟨rfl,rfl,rfl,by decide +kernel,rfl,by decide +kernel,by decide +kernel⟩
theorem nd_c:NC'.Nodup:=by decide +kernel
theorem q2n{f:Addr}{fd:FuncData}(F:Fun K "_law_copy" "_law_copy" k9v f fd)(T:Txt mg):FnOk P w K mg base CX0 1 f fd ["_law_rows"] k6e:=by
 refine F.gb scCopy (fun vs H Q E h=>?_) (fun b0 H vs Q E hr h=>?_)
 ·obtain⟨R,as,n,rfl,_⟩:=h;rfl
 obtain⟨R,as,n,rfl,hR,hn,q⟩:=h;have nd:=scCopy.nd;have hal:=hR.len;show Run _ _ _ [some (.ref R)] H;refine j0r (j3a (j0g k9v) NC NC' 1 (j1u j05) (ev_v 0 ⟨R,rfl,⟨_,SqL.of hR.lst⟩,fun D hD=>?_⟩));refine j1o (xs:=as.map fun a=>V.ref a.1) (fun i σ' H'=>(∃ v,σ'=[some (.ref R)]++[v])/\∃ bs:List (Addr×Addr),bs.length=i/\H' D=some (.lst (bs.map fun a=> .ref a.1)) /\
  (∀(j:Nat) a r,bs[j]?=some a->n[j]?=some r->H' a.1=some (.tup [.str r.1,.ref a.2])/\H' a.2=some (Ls r.2))/\(bs.map (·.2)).Nodup/\(∀ a∈bs,a.2≠D/\H a.1=none/\H a.2=none/\∃ zs,H' a.2=some (Ls zs))/\Same H H')
  ⟨⟨none,rfl⟩,[],rfl,j0b,fun j a r h=>by simp at h,Cs,fun a h=>by simp at h,j0e hD _⟩ ?_ ?_ ?_
 ·rintro i σ' H' _ ⟨_,bs,_,_,_,_,_,sm⟩;exact SqL.of (sm _ _ hR.lst)
 ·rintro i x σ' H' hx ⟨⟨v,rfl⟩,bs,hb1,hb2,hb3,hb4,hb5,sm⟩;have hi:i < n.length:=by
   have:=(Ac.mp hx).1;rw [Aa] at this;omega
  obtain⟨a,ea,eat,et,el,er⟩:=(hR.same sm).at hi;rw [Ad,ea] at hx;cases hx;intro cl C' s₀ H₀ ex;refine j0k 1 nd_c ?_;intro cl C' s₀ H₀ ex;refine j2v ?_;rw [if_pos rfl];intro cl C' s₀ H₀ ex;refine j1n (j0a (j0q j0x (ev_v 1 (j0h ⟨a.1,_,_,.str n[i].1,rfl,rfl,SqT.of et,rfl,?_⟩))));refine j0a (j34 j3e T.tlist PyProof.Rows.boot_list (j0a (j0q j0x (ev_v 1 (j0h ⟨a.1,_,_,.ref a.2,rfl,rfl,SqT.of et,rfl,?_⟩)))));refine j0c ⟨a.2,_,rfl,.inl (SqL.of el),fun l hl=>j0c ⟨(by show 2<=sizeLine;decide),fun t ht=>?_⟩⟩;have hl0:=j0n sm hl;have ntl:t≠l:=fun e=>by rw [e,j0b] at ht;cases ht
  have ht':H' t=none:=by rw [j0d ntl] at ht;exact ht
  have ht0:=j0n sm ht';have nlD:l≠D:=fun e=>by rw [e] at hl;rw [hl] at hb2;cases hb2
  have ntD:t≠D:=fun e=>by rw [e] at ht';rw [ht'] at hb2;cases hb2
  refine⟨bs.map fun a=> .ref a.1,?_,?_,⟨_,rfl⟩,bs++[(t,l)],by rw [Af,hb1];rfl,?_,?_,?_,?_,?_⟩
  ·rw [j0d (Ne.symm ntD),j0d (Ne.symm nlD)];exact hb2
  ·rw [Aa];exact j00 (by omega)
  ·rw [j0b,Ai];rfl
  ·intro j b r hb hr'
   by_cases hj:j < bs.length
   ·rw [Ar hj] at hb;obtain⟨q1,q2⟩:=hb3 j b r hb hr';have hbD:=(hb5 b (Av hb)).1;have n1:b.1≠D:=j1s q1 hb2 fun z=>nomatch z;refine⟨?_,?_⟩
    ·rw [j0d n1,j0d (j0f q1 ht'),j0d (j0f q1 hl)];exact q1
    ·rw [j0d hbD,j0d (j0f q2 ht'),j0d (j0f q2 hl)];exact q2
   ·rw [Ay (by omega)] at hb;have hj2:j - bs.length=0:=by
     have:=(Ac.mp hb).1;simp at this;omega
    have hji:j=i:=by omega
    rw [hj2] at hb;cases hb;rw [hji,Ab hi] at hr';cases hr';refine⟨?_,?_⟩
    ·rw [j0d ntD,j0b]
    ·rw [j0d nlD,j0d (Ne.symm ntl),j0b,er]
  ·rw [Ai];refine j3r hb4 fun hm=>?_;obtain⟨b,hb,e⟩:=Ak.mp hm;obtain⟨_,_,_,zs,q⟩:=hb5 b hb;have e':b.2=l:=e;rw [e',hl] at q;cases q
  ·intro b hb
   rcases At.mp hb with hb | hb
   ·obtain⟨q1,q2,q3,zs,q4⟩:=hb5 b hb;refine⟨q1,q2,q3,zs,?_⟩;rw [j0d q1,j0d (j0f q4 ht'),j0d (j0f q4 hl)];exact q4
   ·rw [Ag.mp hb];refine⟨nlD,ht0,hl0,row n i,?_⟩;rw [j0d nlD,j0d (Ne.symm ntl),j0b]
  ·intro c o hc;rw [j0d (j0f hc hD),j0d (j0f hc ht0),j0d (j0f hc hl0)];exact sm _ _ hc
 ·rintro σ' H' ⟨_,bs,hb1,hb2,hb3,hb4,hb5,sm⟩;rw [Aa] at hb1;exact q D bs H' sm hD (fun a ha=>⟨(hb5 a ha).2.1,(hb5 a ha).2.2.1⟩) ⟨by omega,hb2,hb3,hb4⟩
end
abbrev Tn(p:Str)(j:Int):HO:= .tup [.str p,.int j]
def k1o:Sp:=fun vs H Q _=>∃(t l:Addr) (p:Str) (zs:List Str),vs=[.ref t]/\H t=some (.tup [.str p,.ref l])/\H l=some (Ls zs)/\zs.length<=1000 /\
 ∀(L:Addr) (ts:List Addr) (H':Hp),Same H H'->H L=none->H' L=some (.lst (ts.map V.ref))->ts.length=zs.length->(∀(j:Nat) t,ts[j]?=some t->H' t=some (Tn p j))->Q (.ref L) H'
section
variable{X:Cx}{elt tg:Expr}{ifs:List Expr}{scope:Scope}{σ:St}{H:Hp}{N':List Str}{A:Addr}{after:Hp->Prop}
theorem k0k{lo:Int}{n:Nat}(Pv:Nat->St->Hp->Prop)(h0:Pv 0 σ H)
  (hs : ∀ i σ' H', i < n → Pv i σ' H' → CEg X N' scope tg (.int (lo + i)) σ' H' fun σ2 H3 => CEi X N' scope ifs σ2 H3 fun b H4 =>
   if b=true then CEv X N' scope elt σ2 H4 fun v H5=>∃ ys,H5 A=some (.lst ys)/\ys.length < sizeLine/\Pv (i+1) σ2 (upd H5 A (.lst (ys++[v]))) else Pv (i+1) σ2 H4)
  (hd:∀ σ' H',Pv n σ' H'->after H'):j93 X N' scope tg ifs elt (Itr lo n) A after σ H:=by
 refine⟨fun i m σ' H'=>m=n - i/\i<=n/\Pv i σ' H',⟨_,rfl,Bn _,h0⟩,?_⟩;rintro i m σ' H' ⟨rfl,hi,p⟩
 by_cases hlt:i < n
 ·refine .inr ⟨hlt,Pv (i+1),fun σ' H' p'=>⟨n - (i+1),by omega,rfl,hlt,p'⟩,fun x H2 y=>?_⟩;obtain⟨e,y⟩:=y;subst e y;exact hs i σ' _ hlt p
 ·have e:i=n:=by omega
  subst e;exact .inl ⟨Ah _,hd σ' H' p⟩
end
section
variable{P:Program}{w:World}{K:PySem.W.Frag}{mg:Str->Option Value}{base:Heap}
abbrev NE1:List Str:=["row","point","ties"]
abbrev NE2:List Str:=["row","point","ties","place"]
theorem scEnds:FnScope NE1 ["row"] (j0g k75):=⟨rfl,rfl,rfl,by decide +kernel,rfl,by decide +kernel,by decide +kernel⟩
theorem q61:NE2.Nodup:=by decide +kernel
theorem q19{f:Addr}{fd:FuncData}(F:Fun K "ends_round" "ends_round" k75 f fd)(T:Txt mg):FnOk P w K mg base CX0 1 f fd ["row"] k1o:=by
 refine F.gb scEnds (fun vs H Q E h=>?_) (fun b0 H vs Q E hr h=>?_)
 ·obtain⟨t,l,p,zs,rfl,_⟩:=h;rfl
 obtain⟨t,l,p,zs,rfl,ht,hl,hz,q⟩:=h;have nd:=scEnds.nd;show Run _ _ _ [some (.ref t),none,none] H;refine k06 (ev_v 0 (j15 rfl (SqT.of ht) (j0k 1 nd (j0k 2 nd ?_))));show Run _ _ _ [some (.ref t),some (.str p),some (.ref l)] H;refine j0r (j3a (j0g k75) NE1 NE2 1 (j6m rfl T.range (ta:=tEa _ _) j4u (j3c _ [] _ rfl)) ?_);show Ea _ _ _ _ _;refine j0a (j0y j0l T.len boot_len (j0a (ev_v 2 (j0c ⟨l,_,rfl,.inl (SqL.of hl),j0c ⟨_,rfl,by omega,by rw [Aa];omega,fun D hD=>?_⟩⟩))));rw [Aa,Bd];refine k0k (fun i σ' H'=>(∃ v,σ'=[some (.ref t),some (.str p),some (.ref l)]++[v])/\∃ ts:List Addr,ts.length=i/\H' D=some (.lst (ts.map V.ref))/\(∀(j:Nat) t,ts[j]?=some t->H' t=some (Tn p j))/\Same H H')
  ⟨⟨none,rfl⟩,[],rfl,j0b,fun j t h=>by simp at h,j0e hD _⟩ ?_ ?_
 ·rintro i σ' H' hi ⟨⟨v,rfl⟩,ts,hl1,eD,hts,sm⟩;rw [De];intro cl C' s₀ H₀ ex;refine j0k 3 q61 ?_;intro cl C' s₀ H₀ ex;refine j2v ?_;rw [if_pos rfl];intro cl C' s₀ H₀ ex;refine j1n (j0a (ev_v 1 (j0a (ev_v 3 (j0c ⟨(by show 2<=sizeLine;decide),fun u hu=>?_⟩)))));have nu:u≠D:=fun e=>by rw [e,eD] at hu;cases hu
  have hu0:=j0n sm hu;refine⟨ts.map V.ref,by rw [j0d (Ne.symm nu)];exact eD,by rw [Aa];exact j00 (by omega),⟨_,rfl⟩,ts++[u],by rw [Af,hl1];rfl,by rw [j0b,Ai];rfl,?_,?_⟩
  ·intro j t' ht'
   by_cases hj:j < ts.length
   ·rw [Ar hj] at ht';have e:=hts j t' ht';have n1:t'≠D:=j1s e eD fun z=>nomatch z;rw [j0d n1,j0d (j0f e hu)];exact e
   ·rw [Ay (by omega)] at ht';have hj2:j - ts.length=0:=by
     have:=(Ac.mp ht').1;simp at this;omega
    rw [hj2] at ht';cases ht';have:j=i:=by omega
    rw [this,j0d nu,j0b]
  ·intro c o hc;rw [j0d (j0f hc hD),j0d (j0f hc hu0)];exact sm _ _ hc
 ·rintro σ' H' ⟨_,ts,hl1,eD,hts,sm⟩;exact q D ts H' sm hD eD hl1 hts
end
end R4
namespace R4
open PySem L2 Nt Sort2
def spTL(g:Int->Int):Sp:=fun vs H Q _=>∃(e:Addr) (p:Str) (j m:Int),vs=[.ref e,.int m]/\H e=some (Tn p j)/\0 < m/\∀ t H',Same H H'->H' t=some (Tn p (g j % m))->Q (.ref t) H'
section
variable{P:Program}{w:World}{K:PySem.W.Frag}{mg:Str->Option Value}{base:Heap}
abbrev NT1:List Str:=["end","many","point","place"]
theorem scLeft:FnScope NT1 ["end","many"] (j0g q1l):=⟨rfl,rfl,rfl,by decide +kernel,rfl,by decide +kernel,by decide +kernel⟩
theorem q3u{f:Addr}{fd:FuncData}(F:Fun K "turned_left" "turned_left" q1l f fd)(T:Txt mg):FnOk P w K mg base CX0 1 f fd ["end","many"] (spTL fun j=>j+1):=by
 refine F.gb scLeft (fun vs H Q E h=>?_) (fun b0 H vs Q E hr h=>?_)
 ·obtain⟨e,p,j,m,rfl,_⟩:=h;rfl
 obtain⟨e,p,j,m,rfl,he,hm,q⟩:=h;have nd:=scLeft.nd;show Run _ _ _ [some (.ref e),some (.int m),none,none] H;refine k06 (ev_v 0 (j15 rfl (SqT.of he) (j0k 2 nd (j0k 3 nd ?_))));refine j0r (j1n (j0a (ev_v 2 (j0a (j0t j1i (j0t j2i (ev_v 3 (j0h ⟨_,_,rfl,rfl,ev_v 1 ⟨_,_,rfl,rfl,(by show 0 < m;exact hm),j0c ⟨(by show 2<=sizeLine;decide),fun t ht=>?_⟩⟩⟩))))))));exact q t _ (j0e ht _) j0b
theorem k90{kvs:List (Key×V)}:∀{acc:List (Key×V)},((acc++kvs).map (·.1)).Nodup->kvs.foldl (fun a p=>putK a p.1 p.2) acc=acc++kvs:=by
 induction kvs with
 | nil=>intro acc _;simp
 | cons p r ih=>
  intro acc h;have hn:valV acc p.1=none:=by
   cases e:valV acc p.1 with
   | none=>rfl
   | some v=>
    have hm:=k4b e;rw [Ai,Bc] at h;exact absurd rfl ((Cy.mp h).2.2 _ hm _ Au)
  rw [Dh,k07 _ hn,ih (by rw [Bm];exact h),Bm];rfl
theorem k5s:∀{kvs:List (Key×V)} {i:Nat} {p:Key×V},(kvs.map (·.1)).Nodup->kvs[i]?=some p->valV kvs p.1=some p.2
 | [],_,_,_,h=>by simp at h
 | q :: r,0,p,_,h=>by
  cases h;exact j1k rfl
 | q :: r,i+1,p,hn,h=>by
  rw [Bc,Cp] at hn;have hm:r[i]?=some p:=by simpa using h
  rw [j1g fun e=>hn.1 (by rw [e];exact Ak.mpr ⟨p,Av hm,rfl⟩)];exact k5s hn.2 hm
def j2t(n:Net)(as:List (Addr×Addr)):List (Key×V):=List.zipWith (fun r a=>(Sum.inr r.1,V.ref a.2)) n as
theorem j6p:∀(n:Net) (as:List (Addr×Addr)),as.length=n.length->(j2t n as).map (·.1)=(n.map (·.1)).map Sum.inr
 | [],[],_=>rfl
 | [],_ :: _,h=>by simp at h
 | _ :: _,[],h=>by simp at h
 | r :: n,a :: as,h=>by
  have:=j6p n as (by simpa using h);show Sum.inr r.1 :: (j2t n as).map (·.1)=_;rw [this];rfl
theorem j9w{n:Net}{as:List (Addr×Addr)}{i:Nat}{r:Str×List Str}{a:Addr×Addr}(h1:n[i]?=some r)(h2:as[i]?=some a):(j2t n as)[i]?=some (Sum.inr r.1,.ref a.2):=by
 unfold j2t;rw [List.getElem?_zipWith,h1,h2]
theorem k60{l:List Str}(h:l.Nodup):(l.map (Sum.inr:Str->Key)).Nodup:=by
 rw [Cg,Ep];exact(Cg.mp h).imp fun h q=>h (Sum.inr.inj q)
end
def nameAt(n:Net)(r:Nat):Str:=((n[r]?).map (·.1)).getD ⟨#[]⟩
def key(n:Net)(e:Nt.End):List Key:=[Sum.inr (nameAt n e.1),Sum.inl (e.2:Int)]
abbrev TN(n:Net)(e:Nt.End):HO:=Tn (nameAt n e.1) (e.2:Int)
theorem j3m{n:Net}{r:Nat}(h:r < n.length):nameAt n r=n[r].1:=by unfold nameAt;rw [Ab h];rfl
theorem j4y{n:Net}(hN:(n.map (·.1)).Nodup){a b:Nt.End}(ha:a.1 < n.length)(hb:b.1 < n.length)(h:key n a=key n b):a=b:=by
 unfold key at h
 injection h with h1 h2
 injection h2 with h2 _
 have e1:=Sum.inr.inj h1;have e2:=Sum.inl.inj h2;rw [j3m ha,j3m hb] at e1;have e3:a.1=b.1:=by
  have la:a.1 < (n.map (·.1)).length:=by rw [Aa];exact ha
  have lb:b.1 < (n.map (·.1)).length:=by rw [Aa];exact hb
  refine(Fo (i:=a.1) (j:=b.1) (h₀:=la) (h₁:=lb) hN).mp ?_;rw [Ct,Ct];exact e1
 exact Prod.ext e3 (by omega)
theorem j3d{n:Net}{r p:Nat}{z:Str}(hr:r < n.length)(hz:(row n r)[p]?=some z):∃ rest,j01 n=(j01 (n.take r)++j0m r ((row n r).take p) 0)++(z,(r,p)) :: rest:=by
 have e1:j01 n=j01 (n.take (r+1))++j07 (0+(n.take (r+1)).length) (n.drop (r+1)):=by
  have:=j2j (n.take (r+1)) (n.drop (r+1)) 0;rw [Cn] at this;exact this
 have e2:j0m r (row n r) 0=j0m r ((row n r).take (p+1)) 0++j0m r ((row n r).drop (p+1)) (0+((row n r).take (p+1)).length):=by
  unfold j0m;rw [<- Ai,<- List.zipIdx_append,Cn]
 rw [e1,j23 hr,e2,j14 hz];refine⟨j0m r ((row n r).drop (p+1)) (0+((row n r).take (p+1)).length)++j07 (0+(n.take (r+1)).length) (n.drop (r+1)),?_⟩;simp only [Bm,List.cons_append,Fg]
theorem j84{κ:Type} [DecidableEq κ] (kvs:List (κ×V)) (k:κ) (v:V):(putK kvs k v).map (·.1)=if k∈kvs.map (·.1) then kvs.map (·.1) else kvs.map (·.1)++[k]:=by
 have e:(kvs.any fun kv=>decide (kv.1=k))=decide (k∈kvs.map (·.1)):=by
  rw [Cr,Di,decide_eq_true_iff,Ak];exact⟨fun⟨p,h1,h2⟩=>⟨p,h1,of_decide_eq_true h2⟩,fun⟨p,h1,h2⟩=>⟨p,h1,decide_eq_true h2⟩⟩
 unfold putK;rw [e]
 by_cases h:k∈kvs.map (·.1)
 ·rw [if_pos (decide_eq_true h),if_pos h,Cb];refine Fa fun p _=>?_;show(if p.1=k then(p.1,v) else p).1=p.1
  split <;> rfl
 ·rw [if_neg (by simpa using h),if_neg h,Ai];rfl
theorem mem_putK{κ:Type} [DecidableEq κ] {kvs:List (κ×V)} {k j:κ} {v:V}:j∈(putK kvs k v).map (·.1)↔j∈kvs.map (·.1)\/j=k:=by
 rw [j84]
 split
 ·exact⟨.inl,fun h=>h.elim id fun e=>by rw [e];assumption⟩
 ·rw [At,Ag]
theorem j62{κ:Type} [DecidableEq κ] {kvs:List (κ×V)} {k:κ} {v:V} (h:(kvs.map (·.1)).Nodup):((putK kvs k v).map (·.1)).Nodup:=by
 rw [j84]
 split
 ·exact h
 ·rename_i hn;exact j3r h hn
structure OEI(n:Net)(done:List (Str×Nt.End))(H:Hp)(kM:List (Key×V))(kO:List (List Key×V)):Prop where
 m0:∀ z,j1l done z=[]->valV kM (Sum.inr z)=none
 m1:∀ z a rest,j1l done z=a :: rest->∃ t,valV kM (Sum.inr z)=some (.ref t)/\H t=some (TN n a)
 o:∀ z a b rest,j1l done z=a :: b :: rest->(∃ u,valV kO (key n a)=some (.ref u)/\H u=some (TN n b))/\∃ u,valV kO (key n b)=some (.ref u)/\H u=some (TN n a)
 sub:∀ p∈done,j1d n p.2=some p.1
 lenM:kM.length<=done.length
 lenO:kO.length<=2 * done.length
 ks:∀ k∈kO.map (·.1),∃ p∈done,k=key n p.2
 nd:(kO.map (·.1)).Nodup
theorem OEI.keep{n:Net}{done:List (Str×Nt.End)}{H H':Hp}{kM:List (Key×V)}{kO:List (List Key×V)}(I:OEI n done H kM kO)(k:∀ t p j,H t=some (Tn p j)->H' t=some (Tn p j)):OEI n done H' kM kO where
 m0:=I.m0
 m1:=fun z a rest h=>let ⟨t,e1,e2⟩:=I.m1 z a rest h;⟨t,e1,k _ _ _ e2⟩
 o:=fun z a b rest h=>let ⟨⟨u,e1,e2⟩,⟨v,e3,e4⟩⟩:=I.o z a b rest h;⟨⟨u,e1,k _ _ _ e2⟩,⟨v,e3,k _ _ _ e4⟩⟩
 sub:=I.sub
 lenM:=I.lenM
 lenO:=I.lenO
 ks:=I.ks
 nd:=I.nd
theorem j3g{done:List (Str×Nt.End)}{z:Str}{a:Nt.End}(h:a∈j1l done z):(z,a)∈done:=by
 unfold j1l at h;obtain⟨⟨y,b⟩,hm,rfl⟩:=Ak.mp h;obtain⟨h1,h2⟩:=Cf.mp hm;have:y=z:=of_decide_eq_true h2;subst this;exact h1
theorem OEI.new{n:Net}{done:List (Str×Nt.End)}{H:Hp}{kM:List (Key×V)}{kO:List (List Key×V)}(I:OEI n done H kM kO){z:Str}{e:Nt.End}{t:Addr}(ht:H t=some (TN n e))(hz:j1d n e=some z)(h0:j1l done z=[]) :
  OEI n (done++[(z,e)]) H (putK kM (Sum.inr z) (.ref t)) kO where
 m0:=fun y hy=>by
  rw [j0o] at hy;obtain⟨h1,h2⟩:=Ej.mp hy;have hne:¬ z=y:=fun q=>by rw [if_pos q] at h2;cases h2
  rw [j03,if_neg (fun q=>hne (Sum.inr.inj q).symm)];exact I.m0 y h1
 m1:=fun y a rest hy=>by
  rw [j0o] at hy
  by_cases q:z=y
  ·subst q;rw [h0,if_pos rfl] at hy;cases hy;exact⟨t,by rw [j03,if_pos rfl],ht⟩
  ·rw [if_neg q,Ba] at hy;obtain⟨u,e1,e2⟩:=I.m1 y a rest hy;exact⟨u,by rw [j03,if_neg (fun p=>q (Sum.inr.inj p).symm)];exact e1,e2⟩
 o:=fun y a b rest hy=>by
  rw [j0o] at hy
  by_cases q:z=y
  ·subst q;rw [h0,if_pos rfl] at hy;cases hy
  ·rw [if_neg q,Ba] at hy;exact I.o y a b rest hy
 sub:=fun p hp=>by
  rcases At.mp hp with h | h
  ·exact I.sub p h
  ·rw [Ag.mp h];exact hz
 lenM:=by
  have:=j06 kM (Sum.inr z) (.ref t);have:=I.lenM;rw [Af,Cu];omega
 lenO:=by
  have:=I.lenO;rw [Af,Cu];omega
 ks:=fun k hk=>let ⟨p,hp,e⟩:=I.ks k hk;⟨p,Bs _ hp,e⟩
 nd:=I.nd
theorem OEI.old{n:Net}(hN:(n.map (·.1)).Nodup){done:List (Str×Nt.End)}{H:Hp}{kM:List (Key×V)}{kO:List (List Key×V)}(I:OEI n done H kM kO){z:Str}{e a:Nt.End}{te tm:Addr}(ht:H te=some (TN n e))(hm:H tm=some (TN n a))(hz:j1d n e=some z)(h1:j1l done z=[a])(hae:a≠e) :
  OEI n (done++[(z,e)]) H kM (putK (putK kO (key n e) (.ref tm)) (key n a) (.ref te)) where
 m0:=fun y hy=>by
  rw [j0o] at hy;exact I.m0 y (Ej.mp hy).1
 m1:=fun y c rest hy=>by
  rw [j0o] at hy
  by_cases q:z=y
  ·subst q;rw [h1,if_pos rfl] at hy;cases hy;exact I.m1 z a [] h1
  ·rw [if_neg q,Ba] at hy;exact I.m1 y c rest hy
 o:=fun y c b rest hy=>by
  rw [j0o] at hy;have ta:j1d n a=some z:=I.sub (z,a) (j3g (by rw [h1];exact Ag.mpr rfl))
  by_cases q:z=y
  ·subst q;rw [h1,if_pos rfl] at hy;cases hy;refine⟨⟨te,by rw [j03,if_pos rfl],ht⟩,⟨tm,?_,hm⟩⟩;rw [j03,if_neg (fun p=>hae (j4y hN (j2a hz) (j2a ta) p).symm),j03,if_pos rfl]
  ·rw [if_neg q,Ba] at hy;have tc:j1d n c=some y:=I.sub (y,c) (j3g (by rw [hy];exact Au));have tb:j1d n b=some y:=I.sub (y,b) (j3g (by rw [hy];exact Ao _ Au));have ne:∀ x:Nt.End,j1d n x=some y->¬ key n x=key n a/\¬ key n x=key n e:=fun x hx=>by
    refine⟨fun p=>?_,fun p=>?_⟩
    ·have:=j4y hN (j2a hx) (j2a ta) p;rw [this,ta] at hx;exact q (Option.some.inj hx)
    ·have:=j4y hN (j2a hx) (j2a hz) p;rw [this,hz] at hx;exact q (Option.some.inj hx)
   obtain⟨⟨u,e1,e2⟩,⟨v,e3,e4⟩⟩:=I.o y c b rest hy;refine⟨⟨u,?_,e2⟩,⟨v,?_,e4⟩⟩
   ·rw [j03,if_neg (ne c tc).1,j03,if_neg (ne c tc).2];exact e1
   ·rw [j03,if_neg (ne b tb).1,j03,if_neg (ne b tb).2];exact e3
 sub:=fun p hp=>by
  rcases At.mp hp with h | h
  ·exact I.sub p h
  ·rw [Ag.mp h];exact hz
 lenM:=by
  have:=I.lenM;rw [Af,Cu];omega
 lenO:=by
  have h1:=j06 (putK kO (key n e) (.ref tm)) (key n a) (.ref te);have h2:=j06 kO (key n e) (.ref tm);have:=I.lenO;rw [Af,Cu];omega
 ks:=fun k hk=>by
  rcases mem_putK.mp hk with hk | rfl
  ·rcases mem_putK.mp hk with hk | rfl
   ·obtain⟨p,hp,e⟩:=I.ks k hk;exact⟨p,Bs _ hp,e⟩
   ·exact⟨(z,e),As _ (Ag.mpr rfl),rfl⟩
  ·exact⟨(z,a),Bs _ (j3g (by rw [h1];exact Ag.mpr rfl)),rfl⟩
 nd:=j62 (j62 I.nd)
theorem OEI.whole{n:Net}(T:j04 n){H:Hp}{kM:List (Key×V)}{kO:List (List Key×V)}(I:OEI n (j01 n) H kM kO){e:Nt.End}(he:e∈ends n):∃ u,valV kO (key n e)=some (.ref u)/\H u=some (TN n (other n e)):=by
 obtain⟨z,hz⟩:=mem_ends.mp he;obtain⟨a,b,hp,hab,hor⟩:=j5u T hz;have hp':j1l (j01 n) z=a :: b :: []:=hp;have ta:j1d n a=some z:=mem_pos.mp (by rw [hp];simp);have tb:j1d n b=some z:=mem_pos.mp (by rw [hp];simp);obtain⟨o1,o2⟩:=I.o z a b [] hp'
 rcases hor with rfl | rfl
 ·have:b=other n e:=((j4z T hz).mp tb).resolve_left (Ne.symm hab);rw [<- this];exact o1
 ·have:a=other n e:=((j4z T hz).mp ta).resolve_left hab;rw [<- this];exact o2
def spOE:Sp:=fun vs H Q _=>∃(R:Addr) (as:List (Addr×Addr)) (n:Net),vs=[.ref R]/\RowsAt H R as n/\(n.map (·.1)).Nodup/\j04 n/\n.length<=1000/\(ties n).length<=1000 /\
 ∀(d:Addr) (kvs:List (List Key×V)) (H':Hp),Same H H'->H d=none->H' d=some (.dT kvs)->(∀ e∈ends n,∃ u,valV kvs (key n e)=some (.ref u)/\H' u=some (TN n (other n e)))->(kvs.map (·.1)).Nodup->(∀ k∈kvs.map (·.1),∃ e∈ends n,k=key n e)->kvs.length<=2000->Q (.ref d) H'
section
variable{X:Cx}{D:Ends}{σ:St}{H:Hp}{body:List Stmt}
theorem k9b{tg:Expr}{a b:Addr}{xs ys:List V}{after:St->Hp->Prop}(hlen:xs.length=ys.length)(Pv:Nat->St->Hp->Prop)(h0:Pv 0 σ H)(hl:∀ i σ H,i<=xs.length->Pv i σ H->SqL X.K H a xs/\SqL X.K H b ys)
  (hs:∀ i x y T σ H,xs[i]?=some x->ys[i]?=some y->Pv i σ H->H T=none->Eg X tg (.ref T) σ (upd H T (.tup [x,y])) fun σ2 H2=>Run X body {D with nx:=Pv (i+1),ct:=Pv (i+1),bk:=after} σ2 H2) (hd:∀ σ H,Pv xs.length σ H->after σ H):Loop X tg body (Itz X.K a b) D after σ H:=by
 refine⟨fun i m σ H=>m=xs.length - i/\i<=xs.length/\Pv i σ H,⟨xs.length,by simp,Bn _,h0⟩,?_⟩;rintro i m σ H ⟨rfl,hi,p⟩;obtain⟨q1,q2⟩:=hl i σ H hi p
 by_cases hlt:i < xs.length
 ·refine .inr ⟨⟨xs,ys,xs[i],ys[i],q1,q2,Ab hlt,Ab (by omega)⟩,Pv (i+1),fun σ' H' p'=>⟨xs.length - (i+1),by omega,rfl,hlt,p'⟩,fun v H' y=>?_⟩;obtain⟨T,x,y,hT,rfl,rfl,y1,y2⟩:=y;exact hs i x y T σ _ (y1 xs q1) (y2 ys q2) p hT
 ·have e:i=xs.length:=by omega
  subst e;exact .inl ⟨⟨xs,ys,q1,q2,.inl (Ah _)⟩,hd σ H p⟩
end
end R4
namespace R4
open PySem L2 Nt Sort2
section
variable{P:Program}{w:World}{K:PySem.W.Frag}{mg:Str->Option Value}{base:Heap}
abbrev NOE:List Str:=["rows","met","others","row","end","tie"]
theorem scOE:FnScope NOE ["rows"] (j0g k0h):=⟨rfl,rfl,rfl,by decide +kernel,rfl,by decide +kernel,by decide +kernel⟩
theorem j9e{H:Hp}{t d:Addr}{xs:List V}{kvs:List (Key×V)}(h:H t=some (.tup xs))(g:H d=some (.dK kvs)):t≠d:=j1s h g fun z=>nomatch z
theorem j2s{H:Hp}{t d:Addr}{xs:List V}{kvs:List (List Key×V)}(h:H t=some (.tup xs))(g:H d=some (.dT kvs)):t≠d:=j1s h g fun z=>nomatch z
theorem q7l{f:Addr}{fd:FuncData}(F:Fun K "other_ends" "other_ends" k0h f fd)(T:Txt mg)
  (GE:Has P w K mg base 1 "ends_round" ["row"] k1o) :
  FnOk P w K mg base CX0 2 f fd ["rows"] spOE:=by
 refine F.gb scOE (fun vs H Q E h=>?_) (fun b0 H vs Q E hr h=>?_)
 ·obtain⟨R,as,n,rfl,_⟩:=h;rfl
 obtain⟨R,as,n,rfl,hR,hN,hT,hn,ht,q⟩:=h;have nd:=scOE.nd;have hal:=hR.len;have hu:=hr.u1;show Run _ _ _ [some (.ref R),none,none,none,none,none] H;refine j0j 1 nd (j5g fun dm hdm=>?_);refine j0j 2 nd (k9k fun dO hdO=>?_);show Run _ _ _ [some (.ref R),some (.ref dm),some (.ref dO),none,none,none] (upd (upd H dm (.dK [])) dO (.dT []));have ndd:dO≠dm:=fun e=>by rw [e,j0b] at hdO;cases hdO
 have hdO0:H dO=none:=by rw [j0d ndd] at hdO;exact hdO
 have em:(upd (upd H dm (.dK [])) dO (.dT [])) dm=some (.dK []):=by rw [j0d (Ne.symm ndd),j0b]
 have eo:(upd (upd H dm (.dK [])) dO (.dT [])) dO=some (.dT []):=j0b;have s0:Same H (upd (upd H dm (.dK [])) dO (.dT [])):=fun b o h=>by rw [j0d (j0f h hdO0),j0d (j0f h hdm)];exact h
 generalize upd (upd H dm (.dK [])) dO (.dT [])=H1 at em eo s0 ⊢;refine j2f (ev_v 0 ⟨R,rfl,⟨_,SqL.of (s0 _ _ hR.lst)⟩,j1v (xs:=as.map fun a=>V.ref a.1) (fun r σ H'=>∃ kM kO u1 u2 u3,Same H H'/\H' dm=some (.dK kM)/\H' dO=some (.dT kO)/\OEI n (j01 (n.take r)) H' kM kO/\σ=[some (.ref R),some (.ref dm),some (.ref dO),u1,u2,u3])
  ⟨[],[],_,_,_,s0,em,eo,⟨fun _ _=>rfl,fun z a rest h=>(by cases h),fun z a b rest h=>(by cases h),fun p h=>(by cases h),Bn _,Bn _,fun k h=>(by cases h),Cs⟩,rfl⟩ ?_ ?_ ?_⟩)
 ·rintro r σ H' _ ⟨kM,kO,u1,u2,u3,sm,_⟩;exact SqL.of (sm _ _ hR.lst)
 ·rintro r x σ H' hx ⟨kM,kO,u1,u2,u3,sm,em',eo',I,rfl⟩;have hi:r < n.length:=by
   have:=(Ac.mp hx).1;rw [Aa] at this;omega
  obtain⟨a,ea,eat,et,el,er⟩:=(hR.same sm).at hi;rw [Ad,ea] at hx;cases hx;have hrl:(row n r).length<=1000:=Bv (j28 n r) ht;have enm:nameAt n r=n[r].1:=j3m hi;refine j0k 3 nd ?_;refine j75 (q5u rfl T.zip (ta:=tEa _ _) j4u) ?_;show Ea _ _ _ _ _;refine j0a (j0u GE hr (j0a (ev_v 3 (j0c ⟨a.1,a.2,n[r].1,row n r,rfl,et,el,hrl,fun L ts H5 s5 n5 e5 l5 t5=>?_⟩))));refine j0a (j0q j0x (ev_v 3 (j0h ⟨a.1,_,_,.ref a.2,rfl,rfl,SqT.of (s5 _ _ et),rfl,j0c ⟨L,a.2,rfl,⟨_,SqL.of e5⟩,⟨_,SqL.of (s5 _ _ el)⟩,?_⟩⟩)));have em5:=s5 _ _ em';have eo5:=s5 _ _ eo';have el5:=s5 _ _ el;refine k9b (xs:=ts.map V.ref) (ys:=(row n r).map V.str) (by rw [Aa,Aa,l5]) (fun p σ' H''=>∃ kM kO u2 u3,(∀ b o,b≠dm->b≠dO->H5 b=some o->H'' b=some o)/\H'' dm=some (.dK kM)/\H'' dO=some (.dT kO)/\OEI n (j01 (n.take r)++j0m r ((row n r).take p) 0) H'' kM kO/\σ'=[some (.ref R),some (.ref dm),some (.ref dO),some (.ref a.1),u2,u3])
   ⟨kM,kO,_,_,fun b o _ _ h=>h,em5,eo5,?_,rfl⟩ ?_ ?_ ?_
  ·have:j0m r ((row n r).take 0) 0=[]:=by simp [j0m]
   rw [this,Ba];exact I.keep fun t p j h=>s5 _ _ h
  ·rintro p σ' H'' _ ⟨kM,kO,u2,u3,kb,_,_,_,rfl⟩;exact⟨SqL.of (kb _ _ (j1s e5 em5 fun z=>nomatch z) (j1s e5 eo5 fun z=>nomatch z) e5),SqL.of (kb _ _ (j1s el5 em5 fun z=>nomatch z) (j1s el5 eo5 fun z=>nomatch z) el5)⟩
  ·rintro p x y Tt σ' H'' hx hy ⟨kM,kO,u2,u3,kb,em6,eo6,I6,rfl⟩ hTt;rw [Ad,Aw] at hx hy;obtain⟨te,hte,rfl⟩:=hx;obtain⟨z,hz,rfl⟩:=hy;have e5t:=t5 p te hte;have ete:H'' te=some (Tn n[r].1 p):=kb _ _ (j9e e5t em5) (j2s e5t eo5) e5t;have htz:j1d n (r,p)=some z:=hz;obtain⟨rest,hsp⟩:=j3d hi hz;have hlen:(j01 (n.take r)++j0m r ((row n r).take p) 0).length < 1000:=by
    have h1:(j01 n).length=(ties n).length:=by
     have:=congrArg List.length (j1m n 0);rw [Aa] at this;exact this
    have h2:=congrArg List.length hsp;rw [Af,An] at h2;omega
   have hnext:j01 (n.take r)++j0m r ((row n r).take (p+1)) 0=(j01 (n.take r)++j0m r ((row n r).take p) 0)++[(z,(r,p))]:=by
    rw [j14 hz,Bm]
   have hfresh:∀ b,b∈j1l (j01 (n.take r)++j0m r ((row n r).take p) 0) z->b≠(r,p):=fun b hb e=>by
    have hm:=j3g hb;have hnd:=j61 n;unfold ends at hnd;rw [hsp,Ai,Bc] at hnd;exact(Cy.mp hnd).2.2 _ (Ak.mpr ⟨_,hm,rfl⟩) _ Au e
   have hcnt:(j1l (j01 (n.take r)++j0m r ((row n r).take p) 0) z).length<=1:=by
    have h1:(pos n z).length=2:=by rw [j5z];exact hT z (j3h htz)
    have h2:pos n z=j1l (j01 (n.take r)++j0m r ((row n r).take p) 0) z++j1l ((z,(r,p)) :: rest) z:=by
     show j1l (j01 n) z=_;rw [hsp];unfold j1l;rw [Cd,Ai]
    have h3:1<=(j1l ((z,(r,p)) :: rest) z).length:=by
     unfold j1l;rw [Bk,if_pos (by simp)];simp
    rw [h2,Af] at h1;omega
   generalize j01 (n.take r)++j0m r ((row n r).take p) 0=done at I6 hlen hnext hfresh hcnt;rw [hnext];have hTm:Tt≠dm:=fun e=>by rw [e,em6] at hTt;cases hTt
   have hTo:Tt≠dO:=fun e=>by rw [e,eo6] at hTt;cases hTt
   have s7:=j0e hTt (.tup [.ref te,.str z]);have kb7:∀ b o,b≠dm->b≠dO->H5 b=some o->(upd H'' Tt (.tup [.ref te,.str z])) b=some o:=fun b o h1 h2 h=>s7 _ _ (kb b o h1 h2 h);have em7:=s7 _ _ em6;have eo7:=s7 _ _ eo6;have I7:=I6.keep (H':=upd H'' Tt (.tup [.ref te,.str z])) fun t p j h=>s7 _ _ h;have ete7:=s7 _ _ ete;refine j15 rfl (SqT.of j0b) (j0k 4 nd (j0k 5 nd ?_));show Run _ _ _ [some (.ref R),some (.ref dm),some (.ref dO),some (.ref a.1),some (.ref te),some (.str z)] _;generalize upd H'' Tt (.tup [.ref te,.str z])=H7 at kb7 em7 eo7 I7 ete7;have ete8:H7 te=some (TN n (r,p)):=by
    show H7 te=some (Tn (nameAt n r) p);rw [enm];exact ete7
   have hM:kM.length < sizeLine:=j00 (by have:=I7.lenM;omega);have hO:kO.length < sizeLine:=j00 (by have:=I7.lenO;omega);refine j11 (q0c hu (ev_v 5 (ev_v 1 ⟨dm,_,rfl,DGet.k (k:=Sum.inr z) em7,?_⟩)))
   match hpz:j1l done z with
   | []=>
    rw [I7.m0 z hpz];show if false=true then _ else _;rw [if_neg Al];refine j30 hu (ev_v 4 (ev_v 1 (ev_v 5 ⟨dm,_,rfl,DPut.k (k:=Sum.inr z) em7 hM,j0i (j0i ⟨_,kO,_,_,fun b o h1 h2 h=>?_,j0b,?_,?_,rfl⟩)⟩)))
    ·rw [j0d h1];exact kb7 b o h1 h2 h
    ·rw [j0d ndd];exact eo7
    ·exact(I7.new ete8 htz hpz).keep fun t p j h=>by rw [j0d (j9e h em7)];exact h
   | b :: more=>
    have hmore:more=[]:=by
     rw [hpz,An] at hcnt;exact Be.mp (by omega)
    subst hmore;obtain⟨tm,vm,etm⟩:=I7.m1 z b [] hpz;rw [vm];show if true=true then _ else _;rw [if_pos rfl];have hbe:b≠(r,p):=hfresh b (by rw [hpz];exact Ag.mpr rfl);refine j30 hu (j21 hu (ev_v 1 (ev_v 5 ⟨dm,.ref tm,rfl,by rw [<- vm];exact DGet.k (k:=Sum.inr z) em7,ev_v 2 (ev_v 4 ⟨dO,_,rfl,DPut.t (k:=key n (r,p)) eo7 ete8 hO,?_⟩)⟩)));have hO2:=j06 kO (key n (r,p)) (.ref tm);have hO3:=I7.lenO;have em8:(upd H7 dO (.dT (putK kO (key n (r,p)) (.ref tm)))) dm=some (.dK kM):=by rw [j0d (Ne.symm ndd)];exact em7
    have etm8:(upd H7 dO (.dT (putK kO (key n (r,p)) (.ref tm)))) tm=some (TN n b):=by rw [j0d (j2s etm eo7)];exact etm
    refine j30 hu (ev_v 4 (ev_v 2 (j21 hu (ev_v 1 (ev_v 5 ⟨dm,.ref tm,rfl,by rw [<- vm];exact DGet.k (k:=Sum.inr z) em8,dO,_,rfl,DPut.t (k:=key n b) j0b etm8 (j00 (by omega)),j0i (j0i ⟨kM,_,_,_,fun b o h1 h2 h=>?_,?_,j0b,?_,rfl⟩)⟩)))))
    ·rw [j0d h2,j0d h2];exact kb7 b o h1 h2 h
    ·rw [j0d (Ne.symm ndd)];exact em8
    ·exact(I7.old hN ete8 etm htz hpz hbe).keep fun t p j h=>by rw [j0d (j2s h eo7),j0d (j2s h eo7)];exact h
  ·rintro σ' H'' ⟨kM,kO,u2,u3,kb,em6,eo6,I6,rfl⟩;refine j0i ⟨kM,kO,_,_,_,fun b o h=>?_,em6,eo6,?_,rfl⟩
   ·exact kb b o (j0f h hdm) (j0f h hdO0) (s5 _ _ (sm _ _ h))
   ·rw [Aa,l5,Bp] at I6;rw [j23 hi];exact I6
 ·rintro σ H' ⟨kM,kO,u1,u2,u3,sm,em',eo',I,rfl⟩;rw [Aa,hal,Bp] at I;have lO:=I.lenO;have ls:(j01 n).length=(ties n).length:=by rw [<- j1m n 0,Aa];rfl
  exact j0r (ev_v 2 (q dO kO H' sm hdO0 eo' (fun e he=>I.whole hT he) I.nd (fun k hk=>let ⟨p,hp,e⟩:=I.ks k hk;⟨p.2,Ak.mpr ⟨p,hp,rfl⟩,e⟩) (by omega)))
end
end R4
namespace R4
open PySem L2 Nt Sort2
def AtN(n:Net)(H:Hp)(us:List Addr)(done:List (Str×Nt.End)):Prop:=us.length=done.length/\∀(j:Nat) u p,us[j]?=some u->done[j]?=some p->H u=some (TN n p.2)
theorem AtN.keep{n:Net}{H H':Hp}{us:List Addr}{done:List (Str×Nt.End)}(h:AtN n H us done)(k:∀ t p j,H t=some (Tn p j)->H' t=some (Tn p j)):AtN n H' us done:=⟨h.1,fun j u p h1 h2=>k _ _ _ (h.2 j u p h1 h2)⟩
theorem AtN.snoc{n:Net}{H H':Hp}{us:List Addr}{done:List (Str×Nt.End)}{u:Addr}{p:Str×Nt.End}(h:AtN n H us done)(k:∀ t p j,H t=some (Tn p j)->H' t=some (Tn p j))(hu:H' u=some (TN n p.2)):AtN n H' (us++[u]) (done++[p]):=by
 obtain⟨hl,ha⟩:=h;refine⟨by rw [Af,Af,hl];rfl,fun j v x hv hx=>?_⟩
 by_cases hj:j < us.length
 ·rw [Ar hj] at hv;rw [Ar (by omega)] at hx;exact k _ _ _ (ha j v x hv hx)
 ·rw [Ay (by omega)] at hv hx;have hj2:j - us.length=0:=by
   have:=(Ac.mp hv).1;simp at this;omega
  have hj3:j - done.length=0:=by omega
  rw [hj2] at hv;rw [hj3] at hx;cases hv;cases hx;exact hu
section
variable{X:Cx}{tg:Expr}{ifs:List Expr}{inner:Sem Unit}{σ:St}{H:Hp}{a b:Addr}{xs ys:List V}{after:St->Hp->Prop}
theorem j2w(Pv:Nat->St->Hp->Prop)(h0:Pv 0 σ H)(hl:∀ i σ' H',i<=xs.length->Pv i σ' H'->SqL X.K H' a xs)
  (hs:∀ i x σ' H',xs[i]?=some x->Pv i σ' H'->Eg X tg x σ' H' fun σ2 H3=>Ei X ifs σ2 H3 fun b H4=>if b=true then Ein X inner σ2 H4 (Pv (i+1)) else Pv (i+1) σ2 H4)
  (hd:∀ σ' H',Pv xs.length σ' H'->after σ' H'):j20 X tg ifs inner (Itl X.K a) after σ H:=by
 refine⟨fun i m σ' H'=>m=xs.length - i/\i<=xs.length/\Pv i σ' H',⟨_,rfl,Bn _,h0⟩,?_⟩;rintro i m σ' H' ⟨rfl,hi,p⟩;have q:=hl i σ' H' hi p
 by_cases hlt:i < xs.length
 ·refine .inr ⟨⟨xs,xs[i],q,by simp [hlt]⟩,Pv (i+1),fun σ' H' p'=>⟨xs.length - (i+1),by omega,rfl,hlt,p'⟩,fun x H2 y=>?_⟩;obtain⟨e,y⟩:=y;subst e;exact hs i x σ' _ (y xs q) p
 ·have e:i=xs.length:=by omega
  subst e;exact .inl ⟨⟨xs,q,Ah _⟩,hd σ' H' p⟩
end
def k0b:Sp:=fun vs H Q _=>∃(R:Addr) (as:List (Addr×Addr)) (n:Net),vs=[.ref R]/\RowsAt H R as n/\n.length<=1000/\(ties n).length<=1000 /\
 ∀(L:Addr) (ts:List Addr) (H':Hp),Same H H'->H L=none->H' L=some (.lst (ts.map V.ref))->AtN n H' ts (j01 n)->Q (.ref L) H'
section
variable{P:Program}{w:World}{K:PySem.W.Frag}{mg:Str->Option Value}{base:Heap}
abbrev NO1:List Str:=["rows"]
abbrev NO2:List Str:=["rows","row","end"]
theorem scOrder:FnScope NO1 ["rows"] (j0g k1q):=⟨rfl,rfl,rfl,by decide +kernel,rfl,by decide +kernel,by decide +kernel⟩
theorem q54:NO2.Nodup:=by decide +kernel
theorem k9j{f:Addr}{fd:FuncData}(F:Fun K "ends_in_order" "ends_in_order" k1q f fd)(T:Txt mg)
  (GE:Has P w K mg base 1 "ends_round" ["row"] k1o) :
  FnOk P w K mg base CX0 2 f fd ["rows"] k0b:=by
 refine F.gb scOrder (fun vs H Q E h=>?_) (fun b0 H vs Q E hr h=>?_)
 ·obtain⟨R,as,n,rfl,_⟩:=h;rfl
 obtain⟨R,as,n,rfl,hR,hn,ht,q⟩:=h;have nd:=scOrder.nd;have hal:=hR.len;show Run _ _ _ [some (.ref R)] H;refine j0r (k8i (j0g k1q) NO1 NO2 2 (j1u j05) (ev_v 0 ⟨R,rfl,⟨_,SqL.of hR.lst⟩,fun D hD cl C s₀ H₀ ex=>?_⟩));refine j2w (xs:=as.map fun a=>V.ref a.1) (fun r σ' H'=>(∃ v1 v2,σ'=[some (.ref R)]++[v1,v2])/\∃ ts:List Addr,Same H H'/\H' D=some (.lst (ts.map V.ref))/\AtN n H' ts (j01 (n.take r))) ⟨⟨none,none,rfl⟩,[],j0e hD _,j0b,⟨rfl,fun j u p h=>(by cases h)⟩⟩ ?_ ?_ ?_
 ·rintro r σ' H' _ ⟨_,ts,sm,_⟩;exact SqL.of (sm _ _ hR.lst)
 ·rintro r x σ' H' hx ⟨⟨v1,v2,rfl⟩,ts,sm,eD,AN⟩;have hi:r < n.length:=by
   have:=(Ac.mp hx).1;rw [Aa] at this;omega
  obtain⟨a,ea,eat,et,el,er⟩:=(hR.same sm).at hi;rw [Ad,ea] at hx;cases hx;have hrl:(row n r).length<=1000:=Bv (j28 n r) ht;refine j0k 1 q54 ?_;refine j2v ?_;rw [if_pos rfl];refine k8q rfl rfl (j1u j05) (j0u GE hr (j0a (ev_v 1 (j0c ⟨a.1,a.2,n[r].1,row n r,rfl,et,el,hrl,fun L us H5 s5 n5 e5 l5 t5=>⟨L,rfl,⟨_,SqL.of e5⟩,?_⟩⟩))));have nLD:L≠D:=fun e=>by rw [e,eD] at n5;cases n5
  refine j2w (xs:=us.map V.ref) (fun p σ' H''=>(∃ v2,σ'=[some (.ref R)]++[some (.ref a.1),v2])/\∃ ts:List Addr,(∀ b o,b≠D->H5 b=some o->H'' b=some o)/\H'' D=some (.lst (ts.map V.ref))/\AtN n H'' ts (j01 (n.take r)++j0m r ((row n r).take p) 0))
   ⟨⟨_,rfl⟩,ts,fun b o _ h=>h,s5 _ _ eD,by simpa [j0m] using AN.keep (H':=H5) fun t p j h=>s5 _ _ h⟩ ?_ ?_ ?_
  ·rintro p σ' H'' _ ⟨_,ts,kb,_⟩;exact SqL.of (kb _ _ nLD e5)
  ·rintro p x σ' H'' hx ⟨⟨v2,rfl⟩,ts,kb,eD6,AN6⟩;rw [Ad,Aw] at hx;obtain⟨te,hte,rfl⟩:=hx;have hp:p < (row n r).length:=by have:=(Ac.mp hte).1;omega
   have hz:(row n r)[p]?=some (row n r)[p]:=Ab hp;generalize (row n r)[p]=z at hz;have e5t:=t5 p te hte;have nte:te≠D:=j1s e5t (s5 _ _ eD) fun z=>nomatch z;have ete:=kb _ _ nte e5t;obtain⟨rest,hsp⟩:=j3d hi hz;have hlen:ts.length < 1000:=by
    have h1:(j01 n).length=(ties n).length:=by
     have:=congrArg List.length (j1m n 0);rw [Aa] at this;exact this
    have h2:=congrArg List.length hsp;rw [Af,An] at h2;have:=AN6.1;omega
   refine j0k 2 q54 ?_;refine j2v ?_;rw [if_pos rfl];refine k8r (ev_v 2 ⟨ts.map V.ref,eD6,by rw [Aa];exact j00 (by omega),⟨_,rfl⟩,ts++[te],fun b o hb h=>by rw [j0d hb];exact kb b o hb h,by rw [j0b,Ai];rfl,?_⟩);rw [j14 hz,<- Bm];refine AN6.snoc (fun t p j h=>by rw [j0d (j1s h eD6 fun z=>nomatch z)];exact h) ?_;rw [j0d nte];show H'' te=some (Tn (nameAt n r) p);rw [j3m hi];exact ete
  ·rintro σ' H'' ⟨⟨v2,rfl⟩,ts,kb,eD6,AN6⟩;refine⟨⟨_,_,rfl⟩,ts,fun b o h=>kb b o (j0f h hD) (s5 _ _ (sm _ _ h)),eD6,?_⟩;rw [Aa,l5,Bp,<- j23 hi] at AN6;exact AN6
 ·rintro σ' H' ⟨_,ts,sm,eD,AN⟩;rw [Aa,hal,Bp] at AN;exact q D ts H' sm hD eD AN
end
section
variable{X:Cx}{H:Hp}
theorem q1o{k:Nat}(z:Str):EqD X H k (.str z) (.str z) true:=by
 have:=j4e (X:=X) (H:=H) (k:=k) (x:= .str z) (y:= .str z) rfl rfl;have e:eqV (.str z) (.str z)=true:=by show(z == z)=true;simp
 rw [e] at this;exact this
theorem q0o{p p':Str}{j j':Int}:∀(i:Nat) (u v:V),[V.str p,.int j][i]?=some u->[V.str p',.int j'][i]?=some v->EqD X H 0 u v (if i=0 then eqV (.str p) (.str p') else eqV (.int j) (.int j'))
 | 0,u,v,h1,h2=>by
  cases h1;cases h2;exact j4e rfl rfl
 | 1,u,v,h1,h2=>by
  cases h1;cases h2;exact j4e rfl rfl
 | i+2,u,v,h1,h2=>by simp at h1
theorem q0x(p p':Str)(j j':Int):(eqV (.str p) (.str p') && eqV (.int j) (.int j'))=decide (p=p'/\j=j'):=by
 show((p == p') && (j == j'))=_
 by_cases h:p=p' <;> by_cases h2:j=j' <;> simp [h,h2]
theorem q38{s t:Addr}{p p':Str}{j j':Int}(hs:H s=some (Tn p j))(ht:H t=some (Tn p' j')):RcD X H 1 (.ref s) (.ref t) (decide (p=p'/\j=j')):=by
 have:=k5f (X:=X) (k:=0) (fun i=>if i=0 then eqV (.str p) (.str p') else eqV (.int j) (.int j')) (SqT.of hs) (SqT.of ht) rfl q0o;rw [show([V.str p,.int j].length)=2 from rfl,all2] at this;have e:=q0x p p' j j';simp only [if_true] at this;rw [if_neg (by decide),e] at this;exact this
theorem q0m{s t:Addr}{p p':Str}{j j':Int}(hs:H s=some (Tn p j))(ht:H t=some (Tn p' j')):RnD X H 1 (.ref s) (.ref t) (decide (p=p'/\j=j')):=by
 have:=k5h (X:=X) (k:=0) (fun i=>if i=0 then eqV (.str p) (.str p') else eqV (.int j) (.int j')) (SqT.of hs) (SqT.of ht) rfl q0o;rw [show([V.str p,.int j].length)=2 from rfl,all2] at this;have e:=q0x p p' j j';simp only [if_true] at this;rw [if_neg (by decide),e] at this;exact this
end
theorem k7x{X:Cx}{H:Hp}{a b:Addr}{zs:List Str}(ha:H a=some (Ls zs))(hb:H b=some (Ls zs)):RnD X H 1 (.ref a) (.ref b) true:=by
 have q:=j5h (X:=X) (k:=0) (fun _=>true) (SqL.of (K:=X.K) ha) (SqL.of (K:=X.K) hb) rfl fun j x y hx hy=>by
  rw [hx] at hy;cases hy;rw [Ad,Aw] at hx;obtain⟨z,_,rfl⟩:=hx;exact q1o z
 rw [k8n] at q;exact q
end R4
namespace L2
open PySem PySem.Spec PyProof.Rows SetT
section
variable{X:Cx}{σ:St}{H:Hp}{Q:VK}
end
section
variable{prog:Program}{w:World}{A:Around}{E:Value->Shared->Prop}{s:Shared}
theorem k32{Q:Value->Shared->Prop}(k:Q (.ref s.heap.objs.size) {s with heap:=s.heap.push (j47 w)}):codeAny (model prog w) A (.call (.builtin "set.__new__") ⟨[.type "set"],[]⟩) (wants Q E) s:=by
 refine codeAny_of_tree ?_;show wpAny _ A.in1 (checkBuiltinCall "set.__new__" ⟨[.type "set"],[]⟩ >>= fun _=>again (.builtin "set.__new__" ⟨[.type "set"],[]⟩)) _ _ s;refine wpAny_bind (wpAny_of_eq PySem.F.newCall_set_0 (wpAny_pure ⟨plainId_quiet PySem.F.plain_set_new _,codeAny_builtin PySem.F.entry_set_new ?_⟩));rw [Around.under_plainId PySem.F.plain_set_new _];unfold Builtin.«set.__new__» Builtin.Frozenset.newClass
 dsimp only
 refine wpAny_bind (wpAny_bind (wpAny_of_eq (show isType (.type "set")=pure true from rfl) (wpAny_pure ?_)));simp only [Dt,Ax,if_false];unfold newSet;refine wpAny_bind (wpAny_bind (wp_text ?_))
 dsimp only
 simp only [newObj];exact wpAny_bind (wpAny_alloc (wpAny_pure (wpAny_pure k)))
theorem k5b{Q:Value->Shared->Prop}(k:Q (.ref s.heap.objs.size) {s with heap:=s.heap.push (j47 w)}):wpAny (model prog w) A (call (.type "set") []) Q E s:=by
 obtain⟨c,tl,hmro⟩:=PySem.F.called_set.mro;have hmade:=PySem.F.called_set.made;have hsub:=PySem.F.called_set.sub;refine wpAny_call (codeAny_of_tree ?_);show wpAny _ _ (callAny (.type "set") _) _ _ _;refine wpAny_pure ⟨Code.quiet_builtin _ (by decide +kernel),codeAny_builtin PySem.F.entry_type_call ?_⟩;rw [Around.under_plain (weight_type_call_type "set" [] []) rfl];have h1:=PySem.F.called_set.notType;have h2:=PySem.F.called_set.canCreate;have h3:=PySem.F.typeCall_set_0
 repeat (any_goals (first | assumption | wp_step))
 refine codeAny_mono (k32 (E:=E) (Q:=fun v u=>v = .ref s.heap.objs.size/\u={s with heap:=s.heap.push (j47 w)}) ⟨rfl,rfl⟩) fun r u hr=>?_;cases r with
 | error e=>exact hr
 | ok fl=>
  cases fl with
  | ret v=>
   obtain⟨rfl,rfl⟩:=hr;have hT:Shared.TypeIs {s with heap:=s.heap.push (j47 w)} (.ref s.heap.objs.size) "set":=⟨_,Am _ rfl,rfl⟩;have hli:=PySem.F.called_set.init.lookup;have hbi:=PySem.F.called_set.init.bind (.ref s.heap.objs.size)
   repeat (any_goals (first | assumption | wp_step))
   refine codeAny_mono (codeAny_call_builtin (R:=wants (fun r u=>r = .none/\Q (.ref s.heap.objs.size) u) E) PySem.F.called_set.init.plain PySem.F.entry_set_init (check_set_init hT ?_)) fun r2 u2 hr2=>?_
   ·unfold Builtin.«set.__init__» noKeywords
    wp_walk
    exact⟨rfl,k⟩
   ·cases r2 with
    | error e=>exact hr2
    | ok f2=>
     cases f2 with
     | ret r=>
      obtain⟨rfl,hq⟩:=hr2
      repeat (any_goals (first | assumption | wp_step))
     | _=>exact hr2.elim
  | _=>exact hr.elim
end
section
variable{X:Cx}{σ:St}{H:Hp}{Q:VK}
end
end L2
namespace Nt
open PySem L2
def rnd(c:Int)(n:Net)(e:End):End:=(e.1,(((e.2:Int)+c) % ((row n e.1).length:Int)).toNat)
theorem k68{c:Int}{n:Net}{e:End}(h:e∈ends n):(((rnd c n e).2:Nat):Int)=((e.2:Int)+c) % ((row n e.1).length:Int):=by
 obtain⟨z,hz⟩:=mem_ends.mp h;have:=j46 hz;exact Int.toNat_of_nonneg (Bo _ (by omega))
theorem k93{n:Net}{e:End}(h:e∈ends n):left n e=rnd 1 n e:=by
 have h2:=k68 (c:=1) h;refine Prod.ext rfl ?_;show(e.2+1) % (row n e.1).length=(rnd 1 n e).2;have:(((e.2+1) % (row n e.1).length:Nat):Int)=((e.2:Int)+1) % ((row n e.1).length:Int):=by simp
 omega
def go(c:Int)(n:Net)(e:End):End:=rnd c n (other n e)
theorem q12{n:Net}(T:j04 n){e:End}(h:e∈ends n):step n e=go 1 n e:=k93 (j26 T h)
end Nt
namespace R4
open PySem L2 Nt Sort2
theorem k2d{κ:Type} [DecidableEq κ]:∀{kvs:List (κ×V)} {i:Nat} {p:κ×V},(kvs.map (·.1)).Nodup->kvs[i]?=some p->valV kvs p.1=some p.2
 | [],_,_,_,h=>by simp at h
 | q :: r,0,p,_,h=>by
  cases h;exact j1k rfl
 | q :: r,i+1,p,hn,h=>by
  rw [Bc,Cp] at hn;have hm:r[i]?=some p:=by simpa using h
  rw [j1g fun e=>hn.1 (by rw [e];exact Ak.mpr ⟨p,Av hm,rfl⟩)];exact k2d hn.2 hm
theorem q59{κ:Type}{l:List κ}(h:l.Nodup){i j:Nat}{a:κ}(hi:l[i]?=some a)(hj:l[j]?=some a):i=j:=by
 have h1:=(Ac.mp hi).1;have h2:=(Ac.mp hj).1;have e1:=(Ac.mp hi).2;have e2:=(Ac.mp hj).2
 rcases Fm i j with c | c | c
 ·exact absurd (e1.trans e2.symm) (Bf.mp h i j h1 h2 c)
 ·exact c
 ·exact absurd (e2.trans e1.symm) (Bf.mp h j i h2 h1 c)
def spLS(c:Int):Sp:=fun vs H Q _=>∃(R:Addr) (as:List (Addr×Addr)) (n:Net),vs=[.ref R]/\RowsAt H R as n/\(n.map (·.1)).Nodup/\j04 n/\n.length<=1000/\(ties n).length<=1000 /\
 ∀(d:Addr) (kvs:List (List Key×V)) (H':Hp),Same H H'->H d=none->H' d=some (.dT kvs)->(∀ e∈ends n,∃ u,valV kvs (key n e)=some (.ref u)/\H' u=some (TN n (go c n e)))->Q (.ref d) H'
section
variable{P:Program}{w:World}{K:PySem.W.Frag}{mg:Str->Option Value}{base:Heap}
abbrev NLs1:List Str:=["rows","lists"]
abbrev NLs2:List Str:=["rows","lists","end","other"]
theorem q0w:NLs2.Nodup:=by decide +kernel
theorem scLS:FnScope NLs1 ["rows"] (j0g sLS):=⟨rfl,rfl,rfl,by decide +kernel,rfl,by decide +kernel,by decide +kernel⟩
theorem q77{f:Addr}{fd:FuncData}(F:Fun K "left_steps" "left_steps" sLS f fd)(T:Txt mg)
  (GO:Has P w K mg base 2 "other_ends" ["rows"] spOE)
  (GT:Has P w K mg base 2 "turned_left" ["end","many"] (spTL fun j=>j+1)) :
  FnOk P w K mg base CX0 3 f fd ["rows"] (spLS (1)):=by
 refine F.gb scLS (fun vs H Q E h=>?_) (fun b0 H vs Q E hr h=>?_)
 ·obtain⟨R,as,n,rfl,_⟩:=h;rfl
 obtain⟨R,as,n,rfl,hR,hN,hT,hn,ht,q⟩:=h;have nd:=scLS.nd;have hal:=hR.len;have hu:=hr.u1;show Run _ _ _ [some (.ref R),none] H;have keys:=j6p n as hal;have knd:((j2t n as).map (·.1)).Nodup:=by rw [keys];exact k60 hN
 have klen:(j2t n as).length=n.length:=by have:=congrArg List.length keys;simpa using this
 refine j0j 1 nd (j34 (j35 rfl) T.tdict PyProof.Rows.boot_dict (j0a (ev_v 0 (j0c ⟨R,as.map (·.1),j2t n as,rfl,?_,?_,?_,?_,fun dl hdl=>?_⟩))))
 ·rw [Cb];exact hR.lst
 ·rw [Aa,klen,hal]
 ·rw [Aa];exact j00 (by omega)
 ·intro j t kv h1 h2;rw [Ad,Aw] at h1;obtain⟨a,ea,rfl⟩:=h1;have hj:j < n.length:=by have:=(Ac.mp ea).1;omega
  have e:=j9w (Ab hj) ea;rw [h2] at e;cases e;exact(hR.tup j a n[j] ea (Ab hj)).1
 have ef:(j2t n as).foldl (fun a p=>putK a p.1 p.2) []=j2t n as:=by
  rw [k90 (acc:=[]) (by rw [Fg];exact knd),Fg]
 rw [ef];have s1:=j0e hdl (.dK (j2t n as));have el:(upd H dl (.dK (j2t n as))) dl=some (.dK (j2t n as)):=j0b;generalize upd H dl (.dK (j2t n as))=H1 at s1 el;show Run _ _ _ [some (.ref R),some (.ref dl)] H1;refine j0r (k44 (j0g sLS) NLs1 NLs2 2 (k7a j05) ?_);refine j0u GO hr (j0a (ev_v 0 (j0c ⟨R,as,n,rfl,hR.same s1,hN,hT,hn,ht,fun d kvs H2 s2 nd2 ed val knd2 kks klen2=>?_⟩)));refine⟨d,kvs,rfl,ed,fun o D hD cl C s₀ H₀ ex=>?_⟩;have nDd:D≠d:=fun e=>by rw [e,j0b] at hD;cases hD
 have hD2:H2 D=none:=by rw [j0d nDd] at hD;exact hD
 have hd0:H d=none:=j0n s1 nd2;have sB:Same H (upd H2 d (.frz o (.dT kvs))):=j02 (s1.trans s2) hd0;have kB:∀ b o',b≠d->H2 b=some o'->(upd H2 d (.frz o (.dT kvs))) b=some o':=fun b o' hb h=>by rw [j0d hb];exact h
 have tB:∀ b p j,H2 b=some (Tn p j)->(upd H2 d (.frz o (.dT kvs))) b=some (Tn p j):=fun b p j h=>kB b _ (j2s h ed) h;have edB:(upd H2 d (.frz o (.dT kvs))) d=some (.frz o (.dT kvs)):=j0b;have elB:(upd H2 d (.frz o (.dT kvs))) dl=some (.dK (j2t n as)):=kB _ _ (fun e=>by rw [e,nd2] at el;cases el) (s2 _ _ el);have hRB:=hR.same sB;generalize upd H2 d (.frz o (.dT kvs))=HB at hD sB tB edB elB hRB;have hD0:=j0n sB hD;refine j73 (fun i σ' H'=>(∃ v1 v2,σ'=[some (.ref R),some (.ref dl)]++[v1,v2])/\∃ kv2:List (List Key×V),H' D=some (.dT kv2)/\kv2.length<=i/\Same HB H' /\
  (∀ j k x e,j < i->kvs[j]?=some (k,x)->e∈ends n->k=key n e->∃ u,valV kv2 (key n e)=some (.ref u)/\H' u=some (TN n (go (1) n e))))
  ⟨⟨none,none,rfl⟩,[],j0b,Ah _,j0e hD _,fun j k x e h=>absurd h (Dq _)⟩ ?_ ?_ ?_
 ·rintro i σ' H' _ ⟨_,_,_,_,sm,_⟩;exact sm _ _ edB
 ·rintro i k x b Tt σ' H' hx ⟨⟨v1,v2,rfl⟩,kv2,eD,l2,sm,all⟩ hb hTt;have hi:i < kvs.length:=(Ac.mp hx).1;obtain⟨e,he,rfl⟩:=kks k (Ak.mpr ⟨_,Av hx,rfl⟩);obtain⟨u,hv,hu2⟩:=val e he;have hx2:valV kvs (key n e)=some x:=k2d knd2 hx;rw [hv] at hx2;cases hx2;have hob:=j26 hT he;obtain⟨zo,hzo⟩:=mem_ends.mp hob;have hrl:=j2a hzo;have hel:=j46 hzo;have nmE:nameAt n (other n e).1=n[(other n e).1].1:=j3m hrl;have sT:=j0e hTt (.tup [.ref b,.ref u]);have huT:=sT _ _ (sm _ _ (tB _ _ _ hu2));refine j15 rfl (SqT.of j0b) (j0k 2 q0w (j0k 3 q0w ?_));refine j2v ?_;rw [if_pos rfl];have eai:as[(other n e).1]?=some (as[(other n e).1]'(by omega)):=Ab (by omega);have hni:n[(other n e).1]?=some n[(other n e).1]:=Ab hrl;have ev:valV (j2t n as) (Sum.inr (nameAt n (other n e).1))=some (.ref (as[(other n e).1]'(by omega)).2):=by rw [nmE];exact k5s knd (j9w hni eai)
  have hrow:=(hR.tup _ _ _ eai hni).2;have erow:row n (other n e).1=n[(other n e).1].2:=j3f hrl;refine k3p hu (ev_v 2 (j0u GT hr (j0a (ev_v 3 (j0a (j0y j0l T.len boot_len (j0a (j21 hu (ev_v 1 (j0q j0x (ev_v 3 (j0h ⟨u,_,_,.str (nameAt n (other n e).1),rfl,rfl,SqT.of huT,rfl,?_⟩))))))))))));refine⟨dl,.ref (as[(other n e).1]'(by omega)).2,rfl,by rw [<- ev];exact DGet.k (k:=Sum.inr (nameAt n (other n e).1)) (sT _ _ (sm _ _ elB)),j0c ⟨_,_,rfl,.inl (SqL.of (sT _ _ (sm _ _ (sB _ _ hrow)))),j0c ⟨u,_,_,_,rfl,huT,?_,fun t2 H4 s4 et2=>?_⟩⟩⟩
  ·rw [Aa,<- erow];omega
  rw [Aa,<- erow] at et2;have et3:H4 t2=some (TN n (go (1) n e)):=by
   rw [et2];have:=k68 (c:=1) hob;show some (Tn _ _)=some (Tn _ (((go (1) n e).2:Nat):Int));unfold go;rw [this];rfl
  have hb4:=s4 _ _ (sT _ _ hb);refine⟨_,DPut.t (k:=key n e) (s4 _ _ (sT _ _ eD)) hb4 (j00 (by omega)),⟨_,_,rfl⟩,_,j0b,?_,j02 ((sm.trans sT).trans s4) hD,fun j k' x' e' hj hx' he' hk'=>?_⟩
  ·have:=j06 kv2 (key n e) (.ref t2);omega
  ·subst hk'
   by_cases hji:j=i
   ·subst hji;rw [hx] at hx';have hke:key n e=key n e':=congrArg Prod.fst (Option.some.inj hx');obtain⟨z1,hz1⟩:=mem_ends.mp he;obtain⟨z2,hz2⟩:=mem_ends.mp he';have:=j4y hN (j2a hz1) (j2a hz2) hke;subst this;exact⟨t2,by rw [j03,if_pos rfl],by rw [j0d (j2s et3 (s4 _ _ (sT _ _ eD)))];exact et3⟩
   ·obtain⟨u3,hu3,hu4⟩:=all j _ x' e' (by omega) hx' he' rfl;refine⟨u3,?_,?_⟩
    ·rw [j03,if_neg,hu3];intro hk;have h1:(kvs.map (·.1))[j]?=some (key n e'):=by rw [Ad,hx'];rfl
     have h2:(kvs.map (·.1))[i]?=some (key n e'):=by rw [Ad,hx,hk];rfl
     exact hji (q59 knd2 h1 h2)
    ·have q4:=s4 _ _ (sT _ _ hu4);rw [j0d (j2s q4 (s4 _ _ (sT _ _ eD)))];exact q4
 ·rintro σ' H' ⟨_,kv2,eD,_,sm,all⟩;refine q D kv2 H' (sB.trans sm) hD0 eD fun e he=>?_;obtain⟨u,hv,_⟩:=val e he;obtain⟨i,hi⟩:∃ i:Nat,(kvs.map (·.1))[i]?=some (key n e):=Az (k4b hv);rw [Ad,Aw] at hi;obtain⟨⟨k,x⟩,hx,hk⟩:=hi;exact all i k x e (Ac.mp hx).1 hx he hk
end
end R4
namespace Nt
open PySem L2
end Nt
namespace Nt
open PySem L2
structure PerF(n:Net)(e:End)(k:Nat):Prop where
 pos:0 < k
 back:it (step n) k e=e
 first:∀ i,0 < i->i < k->it (step n) i e≠e
theorem PerF.unique{n:Net}{e:End}{k l:Nat}(a:PerF n e k)(b:PerF n e l):k=l:=by
 rcases Fm k l with h | h | h
 ·exact absurd a.back (b.first k a.pos h)
 ·exact h
 ·exact absurd b.back (a.first l b.pos h)
noncomputable def perF(n:Net)(e:End):Nat:=by classical exact if h:∃ k,PerF n e k then h.choose else 0
theorem j90{n:Net}{e:End}{k:Nat}(h:PerF n e k):perF n e=k:=by
 have hx:∃ k,PerF n e k:=⟨k,h⟩;unfold perF;rw [dif_pos hx];exact hx.choose_spec.unique h
theorem j9c{n:Net}(T:j04 n){e:End}(h:e∈ends n):∃ k,PerF n e k/\k<=(ends n).length:=by
 obtain⟨k,k0,k1,k2⟩:=j68 (f:=step n) (S:=ends n) (fun a ha=>j4n T ha) (fun a ha b hb=>k1x T ha hb) h;have aux:∀ m,∀ k,k<=m->0 < k->it (step n) k e=e->∃ j,j<=k/\PerF n e j:=by
  intro m
  induction m with
  | zero=>intro k h1 h2;omega
  | succ m ih=>
   intro k h1 h2 h3
   by_cases c:∃ i,0 < i/\i < k/\it (step n) i e=e
   ·obtain⟨i,i1,i2,i3⟩:=c;obtain⟨j,j1,j2⟩:=ih i (by omega) i1 i3;exact⟨j,by omega,j2⟩
   ·exact⟨k,Ah _,h2,h3,fun i i1 i2 i3=>c ⟨i,i1,i2,i3⟩⟩
 obtain⟨j,j1,j2⟩:=aux k k (Ah _) k0 k2;exact⟨j,j2,by omega⟩
def fl(n:Net)(e:End)(k:Nat):List End:=(List.range k).map fun i=>it (step n) i e
theorem q1f(n:Net)(e:End)(k:Nat):fl n e (k+1)=fl n e k++[it (step n) k e]:=by
 unfold fl;rw [Db,Ai];rfl
theorem j51(n:Net)(e:End)(k:Nat):(fl n e k).length=k:=by unfold fl;simp
theorem q4r(n:Net)(e:End){k i:Nat}(h:i < k):(fl n e k)[i]?=some (it (step n) i e):=by
 unfold fl;rw [Ad,Ee h];rfl
noncomputable def face(n:Net)(e:End):List End:=fl n e (perF n e)
theorem k5i{n:Net}{e:End}{k:Nat}(p:PerF n e k)(hk:k<=(ends n).length):IsFace n e (fl n e k):=
 ⟨by rw [j51];exact p.pos,by rw [j51];exact hk,fun i hi=>q4r n e (by rw [j51] at hi;exact hi),by rw [j51];exact p.back,by rw [j51];exact p.first⟩
theorem j6q{n:Net}(T:j04 n){e:End}(h:e∈ends n):IsFace n e (face n e):=by
 obtain⟨k,p,hk⟩:=j9c T h;unfold face;rw [j90 p];exact k5i p hk
theorem IsFace.eq{n:Net}{e:End}{fs:List End}(f:IsFace n e fs):fs=face n e:=by
 have p:PerF n e fs.length:=⟨f.pos,f.back,f.first⟩;unfold face;rw [j90 p];apply Dx;intro i
 by_cases h:i < fs.length
 ·rw [f.at' i h,q4r n e h]
 ·rw [Cv (by omega),Cv (by rw [j51];omega)]
theorem j50{n:Net}(T:j04 n){e:End}(h:e∈ends n):∀ c∈face n e,c∈ends n:=(j6q T h).ends T h
noncomputable def fcs(n:Net):List End->List End->List (List End)
 | [],_=>[]
 | e :: r,told=>if e∈told then fcs n r told else face n e :: fcs n r (told++face n e)
theorem j8f{n:Net}(T:j04 n):∀(es:List End) (told:List End),(∀ e∈es,e∈ends n)->∀ w∈fcs n es told,∃ e∈es,w=face n e/\e∉told
 | [],_,_,w,hw=>by cases hw
 | e :: r,told,h,w,hw=>by
  unfold fcs at hw
  split at hw
  ·obtain⟨e',h1,h2⟩:=j8f T r told (fun a ha=>h a (Ao _ ha)) w hw;exact⟨e',Ao _ h1,h2⟩
  ·rename_i hn
   rcases Ap.mp hw with rfl | hw
   ·exact⟨e,Au ..,rfl,hn⟩
   ·obtain⟨e',h1,h2,h3⟩:=j8f T r _ (fun a ha=>h a (Ao _ ha)) w hw;exact⟨e',Ao _ h1,h2,fun q=>h3 (Bs _ q)⟩
theorem k00(n:Net):∀(es:List End) (told:List End),(fcs n es told).length<=es.length
 | [],_=>Ah _
 | e :: r,told=>by
  unfold fcs
  split
  ·have:=k00 n r told;show _<=r.length+1;omega
  ·have:=k00 n r (told++face n e);show _+1<=r.length+1;omega
noncomputable def fac(n:Net):List (List End):=if ends n=[] then [[]] else fcs n (ends n) []
theorem q17(n:Net):(fac n).length<=(ends n).length+1:=by
 unfold fac
 split
 ·show 1<=_;omega
 ·have:=k00 n (ends n) [];omega
theorem k9w{n:Net}(T:j04 n):∀ w∈fac n,w.length<=(ends n).length/\∀ c∈w,c∈ends n:=fun w hw=>by
 unfold fac at hw
 split at hw
 ·rw [Ag.mp hw];exact⟨Bn _,fun c h=>by cases h⟩
 ·obtain⟨e,he,rfl,_⟩:=j8f T (ends n) [] (fun e he=>he) w hw;exact⟨(j6q T he).len,j50 T he⟩
end Nt
namespace Sort3
open PySem PySem.W PyProof.Rows
section
variable{lt:Nat->Nat->Bool}{cmp:Nat->Nat->(Bool->Shared->Prop)->Shared->Prop}{J:Shared->Prop}{n:Nat}
structure Asks(lt:Nat->Nat->Bool)(cmp:Nat->Nat->(Bool->Shared->Prop)->Shared->Prop)(J:Shared->Prop)(n:Nat):Prop where
 ask:∀(i j:Nat) (C:Bool->Shared->Prop) (s:Shared),i < n->j < n->i≠j->J s->(∀ s',J s'->C (lt i j) s')->cmp i j C s
 tot:∀ i j,i < n->j < n->i≠j->lt i j=true\/lt j i=true
 asy:∀ i j,lt i j=true->lt j i=false
 tra:∀ i j k,lt i j=true->lt j k=true->lt i k=true
def g(p:Array Nat)(i:Nat):Nat:=p.getD i 0
structure Pm(p:Array Nat)(n:Nat):Prop where
 size:p.size=n
 lt:∀ i,i < n->g p i < n
 inj:∀ i j,i < n->j < n->g p i=g p j->i=j
theorem g_eq{p:Array Nat}{i:Nat}{v:Nat}(h:p[i]?=some v):g p i=v:=by
 unfold g;rw [Ck,h];rfl
theorem g_of{p q:Array Nat}{i j:Nat}(h:p[i]?=q[j]?):g p i=g q j:=by
 unfold g;rw [Ck,Ck,h]
theorem k1c(n:Nat):Pm (List.toArray (List.range n)) n:=by
 have e:∀ i,i < n->g (List.toArray (List.range n)) i=i:=fun i hi=>g_eq (by simp [hi]);exact⟨by simp,fun i hi=>by rw [e i hi];exact hi,fun i j hi hj h=>by rw [e i hi,e j hj] at h;exact h⟩
def Up(lt:Nat->Nat->Bool)(p:Array Nat)(m:Nat):Prop:=∀ i j,i < j->j < m->lt (g p i) (g p j)=true
def Dn(lt:Nat->Nat->Bool)(p:Array Nat)(m:Nat):Prop:=∀ i j,i < j->j < m->lt (g p j) (g p i)=true
theorem q6e(p:Array Nat):Up lt p 1:=fun i j h1 h2=>by omega
theorem q3p(A:Asks lt cmp J n){p:Array Nat}{m:Nat}(h1:1<=m)(h:Up lt p m)(hm:lt (g p (m - 1)) (g p m)=true):Up lt p (m+1):=fun i j hi hj=>by
 by_cases c:j < m
 ·exact h i j hi c
 ·have:j=m:=by omega
  subst this
  by_cases d:i=j - 1
  ·rw [d];exact hm
  ·exact A.tra _ _ _ (h i (j - 1) (by omega) (by omega)) hm
theorem q3w(A:Asks lt cmp J n){p:Array Nat}{m:Nat}(h1:1<=m)(h:Dn lt p m)(hm:lt (g p m) (g p (m - 1))=true):Dn lt p (m+1):=fun i j hi hj=>by
 by_cases c:j < m
 ·exact h i j hi c
 ·have:j=m:=by omega
  subst this
  by_cases d:i=j - 1
  ·rw [d];exact hm
  ·exact A.tra _ _ _ hm (h i (j - 1) (by omega) (by omega))
theorem j6b(A:Asks lt cmp J n){i j:Nat}(hi:i < n)(hj:j < n)(hne:i≠j)(h:lt i j=false):lt j i=true:=by
 rcases A.tot i j hi hj hne with q | q
 ·rw [h] at q;cases q
 ·exact q
theorem k5q(A:Asks lt cmp J n){p:Array Nat}(P:Pm p n):∀(f m:Nat) (Q:Nat->Shared->Prop) (s:Shared),1<=m->m+f<=n->Up lt p m->J s ->
  (∀ k s',J s'->m<=k->k<=m+f->Up lt p k->(k < m+f->lt (g p k) (g p (k - 1))=true)->Q k s')->(kas_asc p f m).kasWp cmp Q s
 | 0,m,Q,s,h1,h2,hu,hJ,k=>k m s hJ (Ah _) (Ah _) hu fun h=>by omega
 | f+1,m,Q,s,h1,h2,hu,hJ,k=>by
  have hne:g p m≠g p (m - 1):=fun h=>by have:=P.inj m (m - 1) (by omega) (by omega) h;omega
  refine A.ask _ _ _ _ (P.lt m (by omega)) (P.lt (m - 1) (by omega)) hne hJ fun s' hJ'=>?_;cases e:lt (p.getD m 0) (p.getD (m - 1) 0) with
  | true=>exact k m s' hJ' (Ah _) (by omega) hu fun _=>e
  | false=>
   have hup:Up lt p (m+1):=q3p A h1 hu (j6b A (P.lt m (by omega)) (P.lt (m - 1) (by omega)) hne e);exact k5q A P f (m+1) Q s' (by omega) (by omega) hup hJ' fun k' s2 j2 a b c d=>k k' s2 j2 (by omega) (by omega) c fun h=>d (by omega)
theorem k6o(A:Asks lt cmp J n){p:Array Nat}(P:Pm p n):∀(f m:Nat) (Q:Array Nat×Nat×Nat->Shared->Prop) (s:Shared),1<=m->m+f<=n->Dn lt p m->J s ->
  (∀ k s',J s'->m<=k->k<=m+f->Dn lt p k->Q (p,k,0) s')->(kas_desc f p m 0).kasWp cmp Q s
 | 0,m,Q,s,h1,h2,hd,hJ,k=>k m s hJ (Ah _) (Ah _) hd
 | f+1,m,Q,s,h1,h2,hd,hJ,k=>by
  have hne:g p m≠g p (m - 1):=fun h=>by have:=P.inj m (m - 1) (by omega) (by omega) h;omega
  refine A.ask _ _ _ _ (P.lt m (by omega)) (P.lt (m - 1) (by omega)) hne hJ fun s' hJ'=>?_;cases e:lt (p.getD m 0) (p.getD (m - 1) 0) with
  | true=>
   show(if true=true then(if 0 > 0 then _ else kas_desc f p (m+1) 0) else _:KasT _).kasWp cmp Q s';rw [if_pos rfl,if_neg (by omega)];exact k6o A P f (m+1) Q s' (by omega) (by omega) (q3w A h1 hd e) hJ' fun k' s2 j2 a b c=>k k' s2 j2 (by omega) (by omega) c
  | false=>
   refine A.ask _ _ _ _ (P.lt (m - 1) (by omega)) (P.lt m (by omega)) (Ne.symm hne) hJ' fun s2 hJ2=>?_;have e2:lt (p.getD (m - 1) 0) (p.getD m 0)=true:=j6b A (P.lt m (by omega)) (P.lt (m - 1) (by omega)) hne e;rw [e2];exact k m s2 hJ2 (Ah _) (by omega) hd
theorem j8e{p:Array Nat}{m k:Nat}(h:m<=p.size):g (kas_rev p 0 m) k=if k < m then g p (m - 1 - k) else g p k:=by
 have e:=getElem?_mirror_all (xs:=p) (i:=0) (j:=m) h k
 by_cases c:k < m
 ·rw [if_pos c];rw [if_pos ⟨Bn _,c⟩] at e;refine g_of (e.trans ?_)
  congr 1
  omega
 ·rw [if_neg c];rw [if_neg (fun q=>c q.2)] at e;exact g_of e
theorem q0g{p:Array Nat}{m:Nat}(P:Pm p n)(h:m<=n):Pm (kas_rev p 0 m) n:=by
 have hs:m<=p.size:=by rw [P.size];exact h
 refine⟨by rw [kas_rev_size];exact P.size,fun i hi=>?_,fun i j hi hj q=>?_⟩
 ·rw [j8e hs]
  split
  ·exact P.lt _ (by omega)
  ·exact P.lt _ hi
 ·rw [j8e hs,j8e hs] at q
  by_cases c:i < m <;> by_cases d:j < m
  ·rw [if_pos c,if_pos d] at q;have:=P.inj _ _ (by omega) (by omega) q;omega
  ·rw [if_pos c,if_neg d] at q;have:=P.inj _ _ (by omega) hj q;omega
  ·rw [if_neg c,if_pos d] at q;have:=P.inj _ _ hi (by omega) q;omega
  ·rw [if_neg c,if_neg d] at q;exact P.inj _ _ hi hj q
theorem q53{p:Array Nat}{m:Nat}(P:Pm p n)(h:m<=n)(hd:Dn lt p m):Up lt (kas_rev p 0 m) m:=fun i j hi hj=>by
 have hs:m<=p.size:=by rw [P.size];exact h
 rw [j8e hs,j8e hs,if_pos (by omega),if_pos hj];exact hd (m - 1 - j) (m - 1 - i) (by omega) (by omega)
theorem k9m(A:Asks lt cmp J n){p:Array Nat}(P:Pm p n){m:Nat}{Q:Nat×Array Nat->Shared->Prop}{s:Shared}(h1:1<=m)(h2:m<=n)(hd:Dn lt p m)(hJ:J s)
  (k:∀ r q s',J s'->1<=r->r<=n->Pm q n->Up lt q r->Q (r,q) s'):(kas_tail3 m n p).kasWp cmp Q s:=by
 unfold kas_tail3;rw [KasT.kasWp_bind];exact k5q A (q0g P h2) (n - m) m _ s h1 (by omega) (q53 P h2 hd) hJ fun r s' j a b c _=>k r _ s' j (by omega) (by omega) (q0g P h2) c
theorem k7j(A:Asks lt cmp J n){p:Array Nat}(P:Pm p n){Q:Nat×Array Nat->Shared->Prop}{s:Shared}(h2:2<=n)(hJ:J s)
  (k:∀ r q s',J s'->1<=r->r<=n->Pm q n->Up lt q r->Q (r,q) s'):(kas_count n p).kasWp cmp Q s:=by
 unfold kas_count;rw [KasT.kasWp_bind];refine k5q A P (n - 1) 1 _ s (Ah _) (by omega) (q6e p) hJ fun m s' hJ' m1 m2 hu hlast=>?_
 by_cases c:m=n
 ·subst c;rw [if_pos (by simp)];exact k m p s' hJ' m1 (Ah _) P hu
 ·rw [if_neg (by simpa using c)]
  by_cases d:m > 1
  ·rw [if_pos d];have hne:g p 0≠g p (m - 1):=fun h=>by have:=P.inj 0 (m - 1) (by omega) (by omega) h;omega
   refine A.ask _ _ _ _ (P.lt 0 (by omega)) (P.lt (m - 1) (by omega)) hne hJ' fun s2 hJ2=>?_;have e:lt (p.getD 0 0) (p.getD (m - 1) 0)=true:=hu 0 (m - 1) (by omega) (by omega);rw [e];exact k m p s2 hJ2 m1 (by omega) P hu
  ·rw [if_neg d];have em:m=1:=by omega
   subst em;unfold kas_descPart;rw [KasT.kasWp_bind];have hl:=hlast (by omega);have hd2:Dn lt p 2:=fun i j hi hj=>by
    have:i=0/\j=1:=by omega
    rw [this.1,this.2];exact hl
   refine k6o A P (n - (1+1)) (1+1) _ s' (by omega) (by omega) hd2 hJ' fun r s2 hJ2 r1 r2 hd=>?_;show(if(0:Nat) > 0 then _ else kas_tail3 r n p:KasT _).kasWp cmp Q s2;rw [if_neg (by omega)];exact k9m A P (by omega) (by omega) hd hJ2 k
theorem j77(A:Asks lt cmp J n){p:Array Nat}(P:Pm p n){k:Nat}(hk:k < n)(hu:Up lt p k):∀(f l r:Nat) (Q:Nat->Shared->Prop) (s:Shared),r<=k->l<=r->r - l<=f->J s->(∀ i,i < l->lt (g p i) (g p k)=true)->(∀ i,r<=i->i < k->lt (g p k) (g p i)=true) ->
  (∀ m s',J s'->m<=k->(∀ i,i < m->lt (g p i) (g p k)=true)->(∀ i,m<=i->i < k->lt (g p k) (g p i)=true)->Q m s')->(kas_place p k f l r).kasWp cmp Q s
 | 0,l,r,Q,s,h1,h2,h3,hJ,ha,hb,q=>q l s hJ (by omega) ha fun i hi=>hb i (by omega)
 | f+1,l,r,Q,s,h1,h2,h3,hJ,ha,hb,q=>by
  unfold kas_place
  by_cases c:l>=r
  ·rw [if_pos c];exact q l s hJ (by omega) ha fun i hi=>hb i (by omega)
  ·rw [if_neg c];have hmk:(l+r) / 2 < k:=by omega
   have hne:g p k≠g p ((l+r) / 2):=fun h=>by have:=P.inj k _ hk (by omega) h;omega
   refine A.ask _ _ _ _ (P.lt k hk) (P.lt _ (by omega)) hne hJ fun s' hJ'=>?_;cases e:lt (p.getD k 0) (p.getD ((l+r) / 2) 0) with
   | true=>
    show(kas_place p k f l ((l+r) / 2)).kasWp cmp Q s';refine j77 A P hk hu f l ((l+r) / 2) Q s' (by omega) (by omega) (by omega) hJ' ha (fun i hi hik=>?_) q
    by_cases d:i=(l+r) / 2
    ·rw [d];exact e
    ·exact A.tra _ _ _ e (hu _ _ (by omega) hik)
   | false=>
    show(kas_place p k f ((l+r) / 2+1) r).kasWp cmp Q s';have e2:=j6b A (P.lt k hk) (P.lt _ (by omega)) hne e;refine j77 A P hk hu f ((l+r) / 2+1) r Q s' h1 (by omega) (by omega) hJ' (fun i hi=>?_) hb q
    by_cases d:i=(l+r) / 2
    ·rw [d];exact e2
    ·exact A.tra _ _ _ (hu _ _ (by omega) hmk) e2
theorem j8q{p:Array Nat}{k m i:Nat}(hk:k < p.size)(hm:m<=k):g (bubble p k (k - m)) i=if i=m then g p k else if m < i/\i<=k then g p (i - 1) else g p i:=by
 have e:=getElem?_bubble (xs:=p) hk (k - m) (by omega) i;rw [show k - (k - m)=m by omega] at e
 by_cases c:i=m
 ·rw [if_pos c];rw [if_pos c] at e;exact g_of e
 ·rw [if_neg c];rw [if_neg c] at e
  by_cases d:m < i/\i<=k
  ·rw [if_pos d];rw [if_pos d] at e;exact g_of e
  ·rw [if_neg d];rw [if_neg d] at e;exact g_of e
theorem q57{p:Array Nat}{k m:Nat}(P:Pm p n)(hk:k < n)(hm:m<=k):Pm (bubble p k (k - m)) n:=by
 have hs:k < p.size:=by rw [P.size];exact hk
 refine⟨by rw [bubble_size];exact P.size,fun i hi=>?_,fun i j hi hj q=>?_⟩
 ·rw [j8q hs hm]
  split
  ·exact P.lt k hk
  ·split
   ·exact P.lt _ (by omega)
   ·exact P.lt _ hi
 ·rw [j8q hs hm,j8q hs hm] at q;have src:∀ a,a < n->∃ b,b < n/\(if a=m then g p k else if m < a/\a<=k then g p (a - 1) else g p a)=g p b/\((a=m/\b=k)\/(a≠m/\(m < a/\a<=k)/\b=a - 1)\/(a≠m/\¬(m < a/\a<=k)/\b=a)):=fun a ha=>by
   by_cases c:a=m
   ·exact⟨k,hk,by rw [if_pos c],.inl ⟨c,rfl⟩⟩
   ·by_cases d:m < a/\a<=k
    ·exact⟨a - 1,by omega,by rw [if_neg c,if_pos d],.inr (.inl ⟨c,d,rfl⟩)⟩
    ·exact⟨a,ha,by rw [if_neg c,if_neg d],.inr (.inr ⟨c,d,rfl⟩)⟩
  obtain⟨x,x1,x2,x3⟩:=src i hi;obtain⟨y,y1,y2,y3⟩:=src j hj;rw [x2,y2] at q;have e:=P.inj x y x1 y1 q;subst e
  rcases x3 with ⟨a1,a2⟩ | ⟨a1,a2,a3⟩ | ⟨a1,a2,a3⟩
  ·rcases y3 with ⟨b1,b2⟩ | ⟨b1,b2,b3⟩ | ⟨b1,b2,b3⟩
   ·exact a1.trans b1.symm
   ·exact absurd (a2.symm.trans b3) (Ci (Bi (Nat.sub_lt (Fn b2.1) Ft) b2.2))
   ·exact absurd ⟨Fj (by rw [<- b3,a2];exact hm) (Ne.symm b1),by rw [<- b3,a2];exact Ah _⟩ b2
  ·rcases y3 with ⟨b1,b2⟩ | ⟨b1,b2,b3⟩ | ⟨b1,b2,b3⟩
   ·exact absurd (b2.symm.trans a3) (Ci (Bi (Nat.sub_lt (Fn a2.1) Ft) a2.2))
   ·exact Nat.sub_one_cancel (Fn a2.1) (Fn b2.1) (a3.symm.trans b3)
   ·exact absurd ⟨Fj (by rw [<- b3,a3];exact Nat.le_sub_one_of_lt a2.1) (Ne.symm b1),by rw [<- b3,a3];exact Bv (Nat.sub_le _ _) a2.2⟩ b2
  ·rcases y3 with ⟨b1,b2⟩ | ⟨b1,b2,b3⟩ | ⟨b1,b2,b3⟩
   ·exact absurd ⟨Fj (by rw [<- a3,b2];exact hm) (Ne.symm a1),by rw [<- a3,b2];exact Ah _⟩ a2
   ·exact absurd ⟨Fj (by rw [<- a3,b3];exact Nat.le_sub_one_of_lt b2.1) (Ne.symm a1),by rw [<- a3,b3];exact Bv (Nat.sub_le _ _) b2.2⟩ a2
   ·exact a3.symm.trans b3
theorem q5j{p:Array Nat}{k m:Nat}(P:Pm p n)(hk:k < n)(hm:m<=k)(hu:Up lt p k)(ha:∀ i,i < m->lt (g p i) (g p k)=true)(hb:∀ i,m<=i->i < k->lt (g p k) (g p i)=true):Up lt (bubble p k (k - m)) (k+1):=fun i j hi hj=>by
 have hs:k < p.size:=by rw [P.size];exact hk
 rw [j8q hs hm,j8q hs hm]
 by_cases c:i=m
 ·rw [if_pos c,if_neg (by omega),if_pos (by omega)];exact hb _ (by omega) (by omega)
 ·rw [if_neg c]
  by_cases d:j=m
  ·rw [if_pos d,if_neg (by omega)];exact ha i (by omega)
  ·rw [if_neg d]
   by_cases e:m < i/\i<=k
   ·rw [if_pos e,if_pos (by omega)];exact hu _ _ (by omega) (by omega)
   ·rw [if_neg e]
    by_cases f:m < j/\j<=k
    ·rw [if_pos f];exact hu _ _ (by omega) (by omega)
    ·rw [if_neg f];exact hu _ _ hi (by omega)
theorem q0s(A:Asks lt cmp J n):∀(f:Nat) (p:Array Nat) (k:Nat) (Q:Array Nat->Shared->Prop) (s:Shared),Pm p n->1<=k->k+f=n->Up lt p k->J s->(∀ q s',J s'->Pm q n->Up lt q n->Q q s')->(kas_bin f p k).kasWp cmp Q s
 | 0,p,k,Q,s,P,h1,h2,hu,hJ,q=>by
  have:k=n:=by omega
  subst this;exact q p s hJ P hu
 | f+1,p,k,Q,s,P,h1,h2,hu,hJ,q=>by
  unfold kas_bin;rw [KasT.kasWp_bind];refine j77 A P (by omega) hu k 0 k _ s (Ah _) (Bn _) (by omega) hJ (fun i hi=>by omega) (fun i hi hik=>by omega) fun m s' hJ' hm ha hb=>?_;exact q0s A f _ (k+1) Q s' (q57 P (by omega) hm) (by omega) (by omega) (q5j P (by omega) hm hu ha hb) hJ' q
theorem q2l(A:Asks lt cmp J n){Q:Array Nat->Shared->Prop}{s:Shared}(h2:2<=n)(hJ:J s)(q:∀ p s',J s'->Pm p n->Up lt p n->Q p s'):(kas_sort n).kasWp cmp Q s:=by
 unfold kas_sort;rw [KasT.kasWp_bind];refine k7j A (k1c n) h2 hJ fun r p s' hJ' r1 r2 P hu=>?_;show(if r < n then kas_bin (n - max r 1) p (max r 1) else .ret p:KasT _).kasWp cmp Q s';have em:max r 1=r:=by omega
 rw [em]
 by_cases c:r < n
 ·rw [if_pos c];exact q0s A (n - r) p r Q s' P r1 (by omega) hu hJ' q
 ·rw [if_neg c];have:r=n:=by omega
  subst this;exact q p s' hJ' P hu
end
end Sort3
namespace Sort3
open PySem PySem.W PyProof.Rows
theorem k2j{p:Array Nat}{n:Nat}(P:Pm p n):p.toList.Nodup:=by
 rw [Cg,Bf];intro i j hi hj hij e;have hi':i < n:=by rw [Bw,P.size] at hi;exact hi
 have hj':j < n:=by rw [Bw,P.size] at hj;exact hj
 have e1:g p i=p.toList[i]:=g_eq (by rw [<- Bb];exact Ab hi);have e2:g p j=p.toList[j]:=g_eq (by rw [<- Bb];exact Ab hj);have:=P.inj i j hi' hj' (by rw [e1,e2,e]);omega
theorem k5a{p:Array Nat}{n v:Nat}(P:Pm p n)(h:v∈p.toList):v < n:=by
 obtain⟨i,hi⟩:=Az h;have hl:i < n:=by have:=(Ac.mp hi).1;rw [Bw,P.size] at this;exact this
 have e1:g p i=v:=g_eq (by rw [<- Bb];exact hi);rw [<- e1];exact P.lt i hl
theorem q24{p:Array Nat}{n:Nat}(P:Pm p n):p.toList.Perm (List.range n):=by
 rw [List.perm_ext_iff_of_nodup (k2j P) Ey];intro v;rw [Bj];refine⟨fun h=>k5a P h,fun h=>Classical.byContradiction fun hn=>?_⟩;have l1:p.toList.length<=((List.range n).erase v).length:=Nt.nodup_le (k2j P) fun z hz=>by
  have hne:z≠v:=fun e=>hn (e ▸ hz);exact(Es hne).mpr (Bj.mpr (k5a P hz))
 rw [Ed (Bj.mpr h),Bw,P.size,Cw] at l1;omega
def Hd(h:Heap)(v:Value)(z:Str):Prop:=∃ a o xs n t,v = .ref a/\h.get? a=some o/\o.cls = .type "tuple"/\o.data = .seq xs n/\xs[0]?=some (.str z t)
theorem Hd.keep{h h':Heap}{v:Value}{z:Str}(x:Hd h v z)(k:∀ a o,v = .ref a->h.get? a=some o->h'.get? a=some o):Hd h' v z:=by
 obtain⟨a,o,xs,n,t,e,h1,h2⟩:=x;exact⟨a,o,xs,n,t,e,k a o e h1,h2⟩
def Hds(h:Heap)(vs:List Value)(zs:List Str):Prop:=vs.length=zs.length/\∀(i:Nat) v z,vs[i]?=some v->zs[i]?=some z->Hd h v z
def ltZ(zs:List Str)(i j:Nat):Bool:=decide ((zs.getD i ⟨#[]⟩).cps.toList < (zs.getD j ⟨#[]⟩).cps.toList)
section
variable{prog:Program}{w:World}{A:Around}{E:Value->Shared->Prop}{s:Shared}
theorem j69:∀{h:Heap} {vs:List Value} {zs:List Str},Hds h vs zs->∃ fs,KatTups h vs fs/\fs.length=vs.length/\∀ f∈fs,∃ z t,f=Value.str z t
 | h,[],_,_=>⟨[],KatTups.nil,rfl,fun f hf=>by cases hf⟩
 | h,v :: vs,[],hh=>by have:=hh.1;simp at this
 | h,v :: vs,z :: zs,hh=>by
  obtain⟨fs,k1,k2,k3⟩:=j69 (h:=h) (vs:=vs) (zs:=zs) ⟨by have:=hh.1;simpa using this,fun i a b h1 h2=>hh.2 (i+1) a b (by simpa using h1) (by simpa using h2)⟩;obtain⟨a,o,xs,n,t,rfl,h1,h2,h3,h4⟩:=hh.2 0 v z rfl rfl;refine⟨.str z t :: fs,KatTups.cons h1 h2 h3 h4 k1,by rw [An,An,k2],fun f hf=>?_⟩
  rcases Ap.mp hf with rfl | hf
  ·exact⟨z,t,rfl⟩
  ·exact k3 f hf
theorem q46{x y:Value}{z u:Str}{Q:Bool->Shared->Prop}(hx:Hd s.heap x z)(hy:Hd s.heap y u)(hne:z≠u)(h:Q (decide (z.cps.toList < u.cps.toList)) s):wpAny (model prog w) A (keyLt' (tuples' true) x y) Q E s:=by
 obtain⟨a,o,xs,n,t,rfl,h1,h2,h3,h4⟩:=hx;obtain⟨b,o',ys,n',t',rfl,g1,g2,g3,g4⟩:=hy;refine kat_lt h1 h3 g1 g3 ?_;have ex:∃ r,xs.toList = .str z t :: r:=by
  have:xs.toList[0]?=some (.str z t):=by rw [Bb];exact h4
  cases e:xs.toList with
  | nil=>rw [e] at this;cases this
  | cons c r=>rw [e] at this;cases this;exact⟨r,rfl⟩
 have ey:∃ r,ys.toList = .str u t' :: r:=by
  have:ys.toList[0]?=some (.str u t'):=by rw [Bb];exact g4
  cases e:ys.toList with
  | nil=>rw [e] at this;cases this
  | cons c r=>rw [e] at this;cases this;exact⟨r,rfl⟩
 obtain⟨rx,ex⟩:=ex;obtain⟨ry,ey⟩:=ey;rw [ex,ey];show KatLex prog w A true _ Q ((.str z t,.str u t') :: rx.zip ry) 0 s;refine kat_cons (eqBool_str ?_);have:(z == u)=false:=beq_eq_false_iff_ne.mpr hne;rw [this];exact kat_no (oneLt_str h)
theorem q2s{a b:Str}(h:a.cps.toList=b.cps.toList):a=b:=by
 apply Str.ext';exact Array.toList_inj.mp h
theorem k7v{vs:List Value}{zs:List Str}(hh:Hds s.heap vs zs)(hn:zs.Nodup):Asks (ltZ zs) (kas_ask prog w A (tuples' true) vs) (fun s'=>s'=s) vs.length:=by
 have hl:=hh.1;have gz:∀ i,(hi:i < zs.length)->zs.getD i ⟨#[]⟩=zs[i]:=fun i hi=>by simp [hi]
 have gv:∀ i,(hi:i < vs.length)->vs.getD i Value.none=vs[i]:=fun i hi=>by simp [hi]
 have ne:∀ i j,(hi:i < zs.length)->(hj:j < zs.length)->i≠j->zs[i]≠zs[j]:=fun i j hi hj hij e=>by
  rcases Nat.lt_or_gt_of_ne hij with c | c
  ·exact Bf.mp (Cg.mp hn) i j hi hj c e
  ·exact Bf.mp (Cg.mp hn) j i hj hi c e.symm
 refine⟨fun i j C s' hi hj hij hs hC=>?_,fun i j hi hj hij=>?_,fun i j h=>?_,fun i j k h1 h2=>?_⟩
 ·subst hs;unfold kas_ask;rw [gv i hi,gv j hj];have e:ltZ zs i j=decide (zs[i].cps.toList < zs[j].cps.toList):=by unfold ltZ;rw [gz i (by omega),gz j (by omega)]
  refine q46 (hh.2 i _ zs[i] (Ab hi) (Ab (by omega))) (hh.2 j _ zs[j] (Ab hj) (Ab (by omega))) (ne i j (by omega) (by omega) hij) ?_;rw [<- e];exact hC s' rfl
 ·unfold ltZ;rw [gz i (by omega),gz j (by omega),decide_eq_true_iff,decide_eq_true_iff]
  by_cases c:zs[i].cps.toList < zs[j].cps.toList
  ·exact .inl c
  ·by_cases d:zs[j].cps.toList < zs[i].cps.toList
   ·exact .inr d
   ·have:zs[i].cps.toList=zs[j].cps.toList:=List.le_antisymm (List.not_lt.mp d) (List.not_lt.mp c);exact absurd (q2s this) (ne i j (by omega) (by omega) hij)
 ·unfold ltZ at h ⊢;have:=of_decide_eq_true h;exact decide_eq_false fun q=>List.lt_irrefl _ (List.lt_trans this q)
 ·unfold ltZ at h1 h2 ⊢;exact decide_eq_true (List.lt_trans (of_decide_eq_true h1) (of_decide_eq_true h2))
theorem map_range(vs:List Value):(List.range vs.length).map (fun i=>vs.getD i Value.none)=vs:=by
 apply Ez
 ·simp
 ·intro i h1 h2;simp [h2]
theorem k7s{a:Addr}{vs:List Value}{zs:List Str}{n:Nat}{P:Fin->Shared->Prop}(ho:s.heap.get? a=some (seqObj "list" vs.toArray n))(hal:∀ v∈vs,v ≠ .ref a)(hh:Hds s.heap vs zs)(hn:zs.Nodup)(h64:vs.length < 64)
  (h:∀ p:Array Nat,Pm p vs.length->Up (ltZ zs) p vs.length->P (.done (.ret .none)) {s with heap:=sortedHeap s.heap a vs (List.toArray (p.toList.map fun i=>vs.getD i Value.none))}) :
  wpAny (model prog w) A (Builtin.«list.sort» ⟨[.ref a],[]⟩) P E s:=by
 rw [list_sort_plain];have ha:a < s.heap.objs.size:=Aj ho;have hsl:vs.length<=sizeLine:=by rw [sizeLine_eq];omega
 refine wpAny_bind (listItems_at ho rfl ?_);refine wpAny_bind (listUpdate_at ho rfl ?_);obtain⟨e1,ho1⟩:∃ e1,(s.heap.update a (Obj.mapSeq fun _=>#[])).get? a=some (seqObj "list" #[] e1):=⟨_,get?_update_seq ho (fun _=>#[])⟩;refine wpAny_bind (seqEpoch_at ho1 rfl ?_);refine wpAny_bind (wpAny_newTuple ?_);refine wpAny_bind (wpAny_newList ?_);refine wpAny_holding ?_;have ho6:(((s.heap.update a (Obj.mapSeq fun _=>#[])).push (seqObj "tuple" vs.toArray 0)).push (seqObj "list" #[] 0)).get? a=some (seqObj "list" #[] e1):=Ae _ (Ae _ ho1);show wpAny (model prog w) A _ P E {s with heap:=((s.heap.update a (Obj.mapSeq fun _=>#[])).push (seqObj "tuple" vs.toArray 0)).push (seqObj "list" #[] 0)};have hh6:Hds (((s.heap.update a (Obj.mapSeq fun _=>#[])).push (seqObj "tuple" vs.toArray 0)).push (seqObj "list" #[] 0)) vs zs:=⟨hh.1,fun i v z h1 h2=>(hh.2 i v z h1 h2).keep fun b o e q=>by
  have hb:a≠b:=fun e2=>hal v (Av h1) (by rw [e,e2]);exact Ae _ (Ae _ ((Bz _ _ hb).trans q))⟩
 dsimp only
 have hsz:vs.toArray.size=vs.length:=by simp
 by_cases h2:vs.toArray.size < 2
 ·rw [if_pos h2,if_pos h2];refine wpAny_bind (wpAny_pure ?_);rw [StateT.run_pure];refine wpAny_bind (wpAny_pure ?_)
  dsimp only
  have e5:(arrOf (SortSt.mk' general' (vs.toArray.zip vs.toArray) #[] 7 none)).map (·.2)=vs.toArray:=by
   show(vs.toArray.zip vs.toArray).map (·.2)=_;apply Array.toList_inj.mp;simp [List.map_snd_zip]
  refine wpAny_bind (seqEpoch_at ho6 rfl ?_);refine wpAny_bind (listUpdate_at ho6 rfl ?_ (hsz2:=by rw [e5,hsz];omega));simp only [bne_self_eq_false,Ax,if_false];refine wpAny_pure ?_;rw [e5];have fin:=h (List.toArray (List.range vs.length)) (k1c _) fun i j hi hj=>by rw [hsz] at h2;omega
  have e6:(List.toArray (List.range vs.length)).toList.map (fun i=>vs.getD i Value.none)=vs:=map_range vs;rw [e6] at fin;exact fin
 ·rw [if_neg h2,if_neg h2];obtain⟨fs,k1,k2,k3⟩:=j69 hh6;rw [hsz] at h2;refine wpAny_bind (kat_kind (T:= .type "str") k1 (by omega) (fun f hf=>?_) (by decide) ?_)
  ·obtain⟨z,t,rfl⟩:=k3 f hf;exact Looks.of_pure rfl
  refine wpAny_bind (wpAny_mono (kat_run (prog:=prog) (w:=w) (A:=A) (E:=E) (κ:=tuples' true) (ks:=vs) (vs:=vs) (Q:=fun st' s'=>s'={s with heap:=((s.heap.update a (Obj.mapSeq fun _=>#[])).push (seqObj "tuple" vs.toArray 0)).push (seqObj "list" #[] 0)}/\∃ p:Array Nat,Pm p vs.length/\Up (ltZ zs) p vs.length/\arrOf st'=p.map (kas_item (vs.toArray.zip vs.toArray))/\failedOf st'=none)
   (G:=fun p s'=>s'={s with heap:=((s.heap.update a (Obj.mapSeq fun _=>#[])).push (seqObj "tuple" vs.toArray 0)).push (seqObj "list" #[] 0)}/\Pm p vs.length/\Up (ltZ zs) p vs.length) rfl (by omega) h64 (fun p st' s' _ a2 a3 a4=>⟨a4.1,p,a4.2.1,a4.2.2,a2,a3⟩)
   (q2l (k7v (s:={s with heap:=((s.heap.update a (Obj.mapSeq fun _=>#[])).push (seqObj "tuple" vs.toArray 0)).push (seqObj "list" #[] 0)}) hh6 hn) (by omega) rfl fun p s' e P U=>⟨e,P,U⟩)) ?_ fun _ _ e=>e)
  rintro ⟨⟨⟩,st'⟩ s' ⟨rfl,p,P,U,har,hf⟩
  dsimp only
  have e3:=kat_snds (ks:=vs) (vs:=vs) rfl har;refine wpAny_bind (seqEpoch_at ho6 rfl ?_);refine wpAny_bind (listUpdate_at ho6 rfl ?_ (hsz2:=by rw [e3,Aq,Aa,Bw,P.size];omega));rw [hf];simp only [bne_self_eq_false,Ax,if_false];refine wpAny_pure ?_;rw [e3];exact h p P U
theorem q3n{l:Addr}{vs:List Value}{zs:List Str}{Q:Value->Shared->Prop}(hl:s.heap.IsList l vs.toArray)(hh:Hds s.heap vs zs)(hn:zs.Nodup)(h64:vs.length < 64)
  (h:∀(h':Heap) (e:Nat) (p:Array Nat),Pm p vs.length->Up (ltZ zs) p vs.length->(∀ b u,s.heap.get? b=some u->h'.get? b=some u)->h'.get? (s.heap.objs.size+1)=some (seqObj "list" (List.toArray (p.toList.map fun i=>vs.getD i Value.none)) e)->Q (.ref (s.heap.objs.size+1)) {s with heap:=h'}) :
  wpAny (model prog w) A (call (.builtin "sorted") [.ref l]) Q E s:=by
 have hsl:vs.length<=sizeLine:=by rw [sizeLine_eq];omega
 refine Calls.call_function_entry kind_sorted plain_sorted entry_sorted (args_sorted1 _) ?_;unfold Builtin.«sorted»;refine wpAny_bind (m:=checkCount "sorted" 1 1 _) (wpAny_pure ?_);refine wpAny_bind (collect_list (vs:=vs) hl ?_);refine wpAny_bind (wpAny_newList ?_);have hsz:((s.heap.push (seqObj "list" #[] 0)).update s.heap.objs.size (Obj.mapSeq (·++vs.toArray))).objs.size=s.heap.objs.size+1:=by
  rw [Heap.size_update,size_push']
 have hoL:(((s.heap.push (seqObj "list" #[] 0)).update s.heap.objs.size (Obj.mapSeq (·++vs.toArray))).push (seqObj "list" vs.toArray 0)).get? (s.heap.objs.size+1)=some (seqObj "list" vs.toArray 0):=by
  rw [<- hsz];exact Am _ rfl
 have hhL:Hds (((s.heap.push (seqObj "list" #[] 0)).update s.heap.objs.size (Obj.mapSeq (·++vs.toArray))).push (seqObj "list" vs.toArray 0)) vs zs:=⟨hh.1,fun i v z h1 h2=>(hh.2 i v z h1 h2).keep fun b o e q=>
  Ae _ ((Bz _ _ (Ci (Aj q))).trans (Ae _ q))⟩
 have hne:∀ v∈vs,v ≠ .ref (s.heap.objs.size+1):=fun v hv e=>by
  obtain⟨i,hi⟩:=Az hv;have hl:=hh.1;have hiz:i < zs.length:=by have:=(Ac.mp hi).1;omega
  obtain⟨b,o,xs,n,t,e2,h1,_⟩:=hh.2 i v zs[i] hi (Ab hiz);rw [e2] at e;cases e;exact absurd (Nat.lt_of_succ_lt (Aj h1)) (By _)
 show wpAny _ _ _ _ _ {s with heap:=((s.heap.push (seqObj "list" #[] 0)).update s.heap.objs.size (Obj.mapSeq (·++vs.toArray))).push (seqObj "list" vs.toArray 0)};rw [hsz];refine wpAny_bind (wpAny_holding (wpAny_call_entry slot_list_sort ⟨_,hoL,rfl⟩ entry_list_sort (k7s hoL hne hhL hn h64 fun p P U=>⟨_,rfl,?_⟩) (args_list_sort _)));obtain⟨e,he⟩:=sortedAll_at s.heap vs (List.toArray (p.toList.map fun i=>vs.getD i Value.none));exact wpAny_pure ⟨_,rfl,h _ e p P U (fun b u hb=>sortedAll_old hb) he⟩
end
end Sort3
namespace L2
open PySem PySem.Spec PyProof.Rows Sort3
theorem j8z:∀{ts:List Addr} {its:List Value},Vals (ts.map V.ref) its->its=ts.map Value.ref
 | [],its,r=>r.zero
 | t :: ts,its,r=>by
  cases r with
  | cons h1 h2=>
   rw [j8z h2];have:_=Value.ref t:=h1;rw [this];rfl
theorem j80:∀(ts:List Addr),Vals (ts.map V.ref) (ts.map Value.ref)
 | []=> .nil
 | t :: ts=> .cons rfl (j80 ts)
theorem k3u{α β:Type}(xs:List α)(ys:List β)(h:xs.length=ys.length)(a:α)(b:β):(List.range xs.length).map (fun i=>(xs.getD i a,ys.getD i b))=xs.zip ys:=by
 apply Ez
 ·simp [h]
 ·intro i h1 h2;have hx:i < xs.length:=by simp at h1;exact h1
  have hy:i < ys.length:=by omega
  simp [hx,hy]
section
variable{X:Cx}{σ:St}{H:Hp}
theorem j9a:j2z X (.builtin "sorted") (fun xs H Q=>∃(l:Addr) (ts:List Addr) (zs:List Str),xs=[.ref l]/\SqL X.K H l (ts.map V.ref)/\ts.length=zs.length/\zs.Nodup/\ts.length < 64/\(∀(i:Nat) t z,ts[i]?=some t->zs[i]?=some z->∃ r,H t=some (.tup (.str z :: r))) /\
  ∀(r:Addr) (ps:List (Addr×Str)),H r=none->ps.Perm (ts.zip zs)->ps.Pairwise (fun a b=>a.2.cps.toList < b.2.cps.toList)->Q (.ref r) (upd H r (.lst (ps.map fun p=> .ref p.1)))):=by
 intro pins s σ H xs us Q I r h;obtain⟨l,ts,zs,rfl,hl,hlen,hn,h64,hd,q⟩:=h;obtain⟨u,rfl,ru⟩:=vals1 r;cases (show u=Value.ref l from ru);obtain⟨its,rv,pl,_⟩:=I.list hl;have ei:=j8z rv;subst ei;have hh:Hds s.heap (ts.map Value.ref) zs:=by
  refine⟨by rw [Aa];exact hlen,fun i v z h1 h2=>?_⟩;rw [Ad,Aw] at h1;obtain⟨t,ht,rfl⟩:=h1;obtain⟨rr,hr⟩:=hd i t z ht h2;obtain⟨its,r3,tp,_⟩:=I.tuple (SqT.of hr);cases r3 with
  | cons a1 a2=>
   obtain⟨tk,rfl⟩:=a1;obtain⟨o,ho,hc,n,hd2⟩:=tp;exact⟨t,o,_,n,tk,rfl,ho,hc,hd2,rfl⟩
 refine q3n pl.isList hh hn (by rw [Aa];exact h64) fun h' e p P U kp he=>?_;rw [Aa] at P U;have gp:∀ i,i < ts.length->g p i < ts.length:=P.lt;have pl2:p.toList.length=ts.length:=by rw [Bw];exact P.size
 have e1:(p.toList.map fun i=>(ts.map Value.ref).getD i Value.none)=((p.toList.map fun i=>(ts.getD i 0,zs.getD i ⟨#[]⟩)).map fun x=>x.1).map Value.ref:=by
  rw [Cb,Cb];refine Fa fun i hi=>?_;have hlt:=k5a P hi;show(ts.map Value.ref).getD i Value.none=Value.ref (ts.getD i 0);simp [hlt]
 refine⟨.ref _,_,I.laid' (s':={s with heap:=h'}) kp rfl rfl (Dv _) (show ObjOk X.prog X.w _ h' _ (.lst ((p.toList.map fun i=>(ts.getD i 0,zs.getD i ⟨#[]⟩)).map fun x=>V.ref x.1)) from ?_),rfl,q _ (p.toList.map fun i=>(ts.getD i 0,zs.getD i ⟨#[]⟩)) (I.hok.fresh (Dv _)) ?_ ?_⟩
 ·refine⟨by rw [Aa,Aa,pl2,sizeLine_eq];omega,_,e,?_,he⟩;rw [e1];have:=j80 ((p.toList.map fun i=>(ts.getD i 0,zs.getD i (⟨#[]⟩:Str))).map fun x=>x.1);rw [Cb] at this;exact this
 ·rw [<- k3u ts zs hlen 0 ⟨#[]⟩];exact(q24 P).map _
 ·rw [Bf];intro i j hi hj hij;rw [Aa] at hi hj;have:=U i j hij (by omega);have q1:g p i=p.toList[i]:=g_eq (by rw [<- Bb];exact Ab hi);have q2:g p j=p.toList[j]:=g_eq (by rw [<- Bb];exact Ab hj);rw [q1,q2] at this;rw [Ct,Ct];exact of_decide_eq_true this
theorem j8g{e1 e2 e3:Expr}{k:Nat}{pos:Pos}{t:Addr}{x y z:V}{R:St->Hp->Prop}(hc:X.calm=true)(ht:SqT X.K H t [x,y,z])(h:Eg X e1 x σ H fun σ1 H1=>Eg X e2 y σ1 H1 fun σ2 H2=>Eg X e3 z σ2 H2 R)
  (hn:(assignEach [e1,e2,e3] X.env).length=3:=by rfl) (hst:(assignEach [e1,e2,e3] X.env).findIdx? (·.1)=none:=by rfl)
  (hs1:(assignEach [e1,e2,e3] X.env).map (·.2)=assign e1 X.env :: (assignEach [e2,e3] X.env).map (·.2):=by rfl) (hs2:(assignEach [e2,e3] X.env).map (·.2)=assign e2 X.env :: (assignEach [e3] X.env).map (·.2):=by rfl) (hs3:(assignEach [e3] X.env).map (·.2)=assign e3 X.env :: (assignEach [] X.env).map (·.2):=by rfl) :
  Eg X (.Tuple [e1,e2,e3] k pos) (.ref t) σ H R:=
 q1b (k99 (t:=k3m (fun v σ H Q=>Eg X e1 v σ H Q) (k3m (fun v σ H Q=>Eg X e2 v σ H Q) (k3m (fun v σ H Q=>Eg X e3 v σ H Q) gNil))) hc (j4g k0n (j4g k0n (j4g k0n k49 hs3) hs2) hs1) hn hst)
  ⟨t,_,rfl,ht,rfl,_,_,rfl,h.mono fun σ1 H1 h1=>⟨_,_,rfl,h1.mono fun σ2 H2 h2=>⟨_,_,rfl,h2.mono fun σ3 H3 q=>⟨rfl,q⟩⟩⟩⟩
end
end L2
namespace L2
open PySem PySem.Spec PyProof.Rows
section
variable{X:Cx}{σ:St}{H:Hp}{Q:VK}
theorem k81{k v:Expr}{pos:Pos}(hu:X.A.units+1 < cLine)(h:∀ d,H d=none->Ev X k σ (upd H d (.dK [])) fun y H1=>Ev X v σ H1 fun x H2=>∃ H3,DPut H2 d y x H3/\Q (.ref d) H3):Ev X (.Dict [some k] [v] pos) σ H Q:=by
 refine⟨fun pins s I=>wpAny_Dict_any rfl rfl (by simp) (by show 1<=15;decide) ?_⟩;have I0:Inv X pins σ (upd H s.heap.objs.size (.dK [])) {s with heap:=s.heap.push {cls:= .type "dict",data:= .dict #[]}}:=I.laid (a:=s.heap.objs.size) (o:= .dK []) (t':=s.toks) (fun _ _ q=>Ae _ q) (Ah _) (k15 s.heap I.big);show wpAny _ _ (evalPairs [(eval k X.env,do let x <- eval v X.env;standAt pos;pure x)]) _ _ _;unfold evalPairs;refine wpAny_bind (thn ((h _ I.fresh).run pins _ I0) fun kv s1 ⟨y,H1,I1,r1,h1⟩=>?_);refine wpAny_bind (wpAny_holding (wpAny_bind (thn (h1.run pins s1 I1) fun vv s2 ⟨x,H2,I2,r2,H3,dp,q⟩=>?_)));refine wpAny_bind (wpAny_standAt (wpAny_pure ?_));unfold evalPairs;refine wpAny_bind (wpAny_holding (wpAny_pure (wpAny_pure ?_)));unfold storeAll;rw [Fv];refine wpAny_bind (wpAny_bind (j9l hu I2 dp r1 r2 fun s' I'=>wpAny_pure ?_));exact wpAny_pure ⟨.ref _,H3,I',rfl,q⟩
end
end L2
namespace L2
open PySem PySem.Spec PyProof.Rows SetT
section
variable{prog:Program}{w:World}{A:Around}{E:Value->Shared->Prop}{s:Shared}{T:String}{r d:Addr}{n:Nat}{P:Nat->Value->Prop}{OK:Heap->Prop}
end
section
variable{X:Cx}
end
end L2
namespace L2
open PySem PySem.Spec PyProof.Rows
section
end
section
variable{X:Cx}
end
end L2
namespace L2
open PySem PySem.Spec PyProof.Rows
section
variable{X:Cx}
end
end L2
namespace L2
open PySem PySem.Spec PyProof.Rows
section
variable{X:Cx}{σ:St}{H:Hp}{D:Ends}{body:List Stmt}
end
end L2
namespace L2
open PySem PySem.Spec PyProof.Rows
theorem j2q:∀(names:List (Str×NameKind)) (n:Nat) (acc:List (Str×Addr)),cellsFrom n names acc=cellsFrom n names []++acc
 | [],_,_=>rfl
 | (y,k) :: r,n,acc=>by
  unfold cellsFrom
  split
  ·rw [j2q r (n+1) ((y,n) :: acc),j2q r (n+1) [(y,n)],Bm];rfl
  ·exact j2q r n acc
theorem j3v:∀(names:List (Str×NameKind)) (n:Nat) {x:Str} {c:Addr},(x,c)∈cellsFrom n names []->(x,NameKind.cell)∈names/\n<=c
 | [],_,_,_,h=>by cases h
 | (y,k) :: r,n,x,c,h=>by
  unfold cellsFrom at h
  split at h
  ·rename_i hk;rw [j2q,At] at h
   rcases h with h | h
   ·obtain⟨a,b⟩:=j3v r (n+1) h;exact⟨Ao _ a,by omega⟩
   ·cases Ag.mp h;have:k = .cell:=by cases k <;> first | rfl | exact absurd hk (by decide)
    subst this;exact⟨Au,Ah _⟩
  ·obtain⟨a,b⟩:=j3v r n h;exact⟨Ao _ a,b⟩
theorem j5s{names:List (Str×NameKind)}{n:Nat}{cl:List (Str×Addr)}{x:Str}{c:Addr}(h:(cellsFrom n names cl).lookup x=some c):((x,c)∈cellsFrom n names []/\n<=c)\/cl.lookup x=some c:=by
 rw [j2q,List.lookup_append] at h;cases e:(cellsFrom n names []).lookup x with
 | some d=>
  rw [e] at h;cases h;have hm:=PySem.mem_of_lookup e;exact .inl ⟨hm,(j3v _ _ hm).2⟩
 | none=>
  rw [e] at h;exact .inr h
theorem k57{names:List (Str×NameKind)}{n:Nat}{cl:List (Str×Addr)}{x:Str}(h:(x,NameKind.cell)∉names):(cellsFrom n names cl).lookup x=cl.lookup x:=by
 rw [j2q,List.lookup_append];cases e:(cellsFrom n names []).lookup x with
 | some d=>exact absurd (j3v _ _ (PySem.mem_of_lookup e)).1 h
 | none=>rfl
section
variable{M:Model}{A:Around}{E:Value->Shared->Prop}{s:Shared}
theorem j9r{scope:Scope}{globals:Addr}{closure:List (Str×Addr)}{qual:Str}{func:Option Addr}{code:Value}{outer:Env}{builtins:Addr}{Q:Env->Shared->Prop}
  (hQ : ∀ h', h'.Ns s.heap.objs.size (fun _ => none) → (∀ b o, s.heap.get? b = some o → h'.get? b = some o) → CellsOk h' (s.heap.objs.size + 1) (cellsFrom (s.heap.objs.size + 1) scope.names []) →
   Q (newEnv scope s.heap.objs.size globals (cellsFrom (s.heap.objs.size+1) scope.names closure) qual func code (some outer) builtins) {s with heap:=h'}) :
  wpAny M A (newFunctionEnv scope globals closure [] qual func code (some outer) builtins) Q E s:=by
 simp only [newFunctionEnv,Option.isSome_some,if_true];refine wpAny_bind (wpAny_alloc ?_);refine wpAny_bind (wpAny_layCells _ (fun name kind cells=>by cases hkc:kind == NameKind.cell <;> simp [hkc]) _ _ _ _ ?_);have ok:=cellsFrom_ok scope.names (s.heap.push {cls:= .type "dict",data:= .dict #[]}) (s.heap.objs.size+1) [] ⟨fun _ _ hm=>(nomatch hm),List.Pairwise.nil⟩ (by rw [Cz];exact Ah _);rw [Cz] at ok;rw [show({s with heap:=s.heap.push {cls:= .type "dict",data:= .dict #[]}}:Shared).heap.objs.size=s.heap.objs.size+1 from Cz ..];rw [List.forIn_nil];exact wpAny_bind (wpAny_pure (wpAny_pure (hQ _ ((Heap.Ns.new s.heap (.type "dict")).keeps (pushCells_keeps _ _)) (fun b o e=>pushCells_keeps _ _ b o (Ae _ e)) ok)))
end
def j19(X:Cx)(N':List Str)(scope:Scope)(cl:List (Str×Addr))(C:Addr)(s₀:Shared)(H₀:Hp)(ex:List Addr):Cx:=
 {j08 X N' scope cl C s₀ H₀ ex with fn:=fun x=>match scope.names.lookup x with | some .cell=>true | _=>false}
def j7k(sc scope:Scope)(N N':List Str):Bool:=
 (match scope.kind with | .function=>true | _=>false) &&
 scope.names.all (fun y=>match y.2 with
  | .cell=>(match scope.names.lookup y.1 with | some .cell=>true | _=>false)
  | .local=>(match scope.names.lookup y.1 with | some .local=>true | _=>false)
  | .free=>(match sc.names.lookup y.1 with | some .cell=>true | some .free=>true | _=>false) && (match scope.names.lookup y.1 with | some .free=>true | _=>false)
  | _=>true) &&
 (List.range N'.length).all fun i => match N'[i]? with
  | none=>true
  | some x=>match scope.names.lookup x with
   | some .local=>decide (N.length<=i)
   | some .cell=>decide (N.length<=i)
   | some .free=>decide (N[i]?=some x)
   | _=>true
structure CompOkC(sc scope:Scope)(N N':List Str):Prop where
 kind:scope.kind = .function
 cell:∀ y∈scope.names,y.2 = .cell->scope.names.lookup y.1=some .cell
 names:∀ y∈scope.names,y.2 = .local->scope.names.lookup y.1=some .local
 free:∀ y∈scope.names,y.2 = .free->sc.names.lookup y.1=some .cell\/sc.names.lookup y.1=some .free
 freeL:∀ y∈scope.names,y.2 = .free->scope.names.lookup y.1=some .free
 own:∀(i:Nat) x,N'[i]?=some x->scope.names.lookup x=some .local->N.length<=i
 ownC:∀(i:Nat) x,N'[i]?=some x->scope.names.lookup x=some .cell->N.length<=i
 out:∀(i:Nat) x,N'[i]?=some x->scope.names.lookup x=some .free->N[i]?=some x
theorem CompOkC.of{sc scope:Scope}{N N':List Str}(h:j7k sc scope N N'=true):CompOkC sc scope N N':=by
 unfold j7k at h;rw [Bu,Bu] at h;obtain⟨⟨h1,h2⟩,h3⟩:=h;have h2':=Dk.mp h2;have h3':=Dk.mp h3;refine⟨?_,fun y hy e=>?_,fun y hy e=>?_,fun y hy e=>?_,fun y hy e=>?_,fun i x hi e=>?_,fun i x hi e=>?_,fun i x hi e=>?_⟩
 ·revert h1;cases scope.kind <;> intro h1 <;> first | rfl | cases h1
 ·have q:=h2' y hy;rw [e] at q;simp only at q
  split at q
  ·assumption
  ·cases q
 ·have q:=h2' y hy;rw [e] at q;simp only at q
  split at q
  ·assumption
  ·cases q
 ·have q:=h2' y hy;rw [e] at q;simp only at q;rw [Bu] at q;have q:=q.1
  split at q
  ·exact .inl (by assumption)
  ·exact .inr (by assumption)
  ·cases q
 ·have q:=h2' y hy;rw [e] at q;simp only at q;rw [Bu] at q;have q:=q.2
  split at q
  ·assumption
  ·cases q
 ·have q:=h3' i (Bj.mpr (Ac.mp hi).1);rw [hi] at q;simp only [e] at q;exact of_decide_eq_true q
 ·have q:=h3' i (Bj.mpr (Ac.mp hi).1);rw [hi] at q;simp only [e] at q;exact of_decide_eq_true q
 ·have q:=h3' i (Bj.mpr (Ac.mp hi).1);rw [hi] at q;simp only [e] at q;exact of_decide_eq_true q
section
variable{X:Cx}{pins:List (Addr×Obj)}{σ:St}{H:Hp}{s:Shared}
theorem k6i{N':List Str}{scope:Scope}{n:Nat}{fp:List Addr}{h₁:Heap}{t':Nat}{m:Str->Option Value}(I:Inv X pins σ H s)(ck:CompOkC X.env.scope scope X.N N')(hl:N'.length=X.N.length+n)
  (hns:h₁.Ns s.heap.objs.size m) (old:∀ b o,s.heap.get? b=some o->h₁.get? b=some o) (hcs:CellsOk h₁ (s.heap.objs.size+1) (cellsFrom (s.heap.objs.size+1) scope.names []))
  (hfp:∀ b∈fp,FpOk X pins H b/\b < s.heap.objs.size) :
  Inv (j19 X N' scope (cellsFrom (s.heap.objs.size+1) scope.names (j0z scope.names X.env.cells [])) s.heap.objs.size s H fp) [] (σ++List.replicate n none) H {s with heap:=h₁,toks:=t'}:=by
 have sub:∀ x c,(j0z scope.names X.env.cells []).lookup x=some c->X.env.cells.lookup x=some c:=fun x c e=>j2n _ _ _ (fun _ _ z=>by simp at z) x c (PySem.mem_of_lookup e);have both:∀ x c,(cellsFrom (s.heap.objs.size+1) scope.names (j0z scope.names X.env.cells [])).lookup x=some c->((x,c)∈cellsFrom (s.heap.objs.size+1) scope.names []/\s.heap.objs.size+1<=c)\/X.env.cells.lookup x=some c:=fun x c e=>by
  rcases j5s e with z | z
  ·exact .inl z
  ·exact .inr (sub x c z)
 have oldlt:∀ x c,X.env.cells.lookup x=some c->c < s.heap.objs.size:=fun x c e=>by
  obtain⟨v,o,ho,_⟩:=I.cell x c e;exact Aj ho
 have fre:H s.heap.objs.size=none:=I.hok.fresh (Ah _);have kindOf:∀{x:Str} {k':NameKind},(relabel scope X.env).names.lookup x=some k'->∃ k,scope.names.lookup x=some k/\(k'=k\/(k = .free/\k' = .cell)):=fun z=>j1b z;have frl:∀ x,scope.names.lookup x=some .free->(cellsFrom (s.heap.objs.size+1) scope.names (j0z scope.names X.env.cells [])).lookup x=(j0z scope.names X.env.cells []).lookup x:=fun x e=>k57 fun hm=>by
  have:=ck.cell _ hm rfl;rw [e] at this;cases this
 have hasC:∀ x,scope.names.lookup x=some .cell->∃ c,(cellsFrom (s.heap.objs.size+1) scope.names (j0z scope.names X.env.cells [])).lookup x=some c:=fun x e=>Ec.mp (PySem.W.cellsFrom_some _ _ _ (.inl e));have ok':(j19 X N' scope (cellsFrom (s.heap.objs.size+1) scope.names (j0z scope.names X.env.cells [])) s.heap.objs.size s H fp).Ok:=by
  refine⟨I.ok.mod,ck.kind,I.ok.glob,I.ok.blt,Ah _,fun x y c e1 e2=>?_,fun x hx=>?_,fun x c hf e=>?_,I.ok.hd,I.ok.frames,.inl rfl,fun b hb=>⟨Bg (hfp b hb).2,fun x c e=>?_⟩,
   I.bs,Bv I.ok.bsz I.sz,fun b o e hb=>?_,fun b hb hf=>?_,I.stack,I.stkFree⟩
  ·rcases both x c e1 with z1 | z1
   ·rcases both y c e2 with z2 | z2
    ·exact name_of_addr hcs.apart z1.1 z2.1
    ·exact absurd (oldlt y c z2) (Nat.not_lt.mpr (Eb z1.2))
   ·rcases both y c e2 with z2 | z2
    ·exact absurd (oldlt x c z1) (Nat.not_lt.mpr (Eb z2.2))
    ·exact I.ok.inj x y c z1 z2
  ·have hx':(relabel scope X.env).names.lookup x=some .cell\/(relabel scope X.env).names.lookup x=some .free:=hx;have:∃ k,scope.names.lookup x=some k/\(k = .free\/k = .cell):=by
    rcases hx' with z | z
    ·obtain⟨k,e,r⟩:=kindOf z
     rcases r with r | ⟨r,_⟩
     ·exact⟨k,e,.inr r.symm⟩
     ·exact⟨k,e,.inl r⟩
    ·obtain⟨k,e,r⟩:=kindOf z
     rcases r with r | ⟨r,_⟩
     ·exact⟨k,e,.inl r.symm⟩
     ·exact⟨k,e,.inl r⟩
   obtain⟨k,e,rfl | rfl⟩:=this
   ·have hm:=PySem.mem_of_lookup e;obtain⟨c,hc⟩:=I.ok.has x (ck.free _ hm rfl);obtain⟨d,hd⟩:=j1c (j24 scope.names X.env.cells [] x c hm hc);exact⟨d,(frl x e).trans hd⟩
   ·exact hasC x e
  ·have hx:scope.names.lookup x=some .cell:=by
    have hf':(match scope.names.lookup x with | some .cell=>true | _=>false)=true:=hf
    split at hf'
    ·assumption
    ·cases hf'
   have e':(cellsFrom (s.heap.objs.size+1) scope.names (j0z scope.names X.env.cells [])).lookup x=some c:=e;have q1:=Ec.mp (PySem.W.cellsFrom_some scope.names (s.heap.objs.size+1) [] (.inl hx));obtain⟨d,hd⟩:=q1;rw [j2q,List.lookup_append,hd] at e';have e2:d=c:=Option.some.inj e';have:=(j3v _ _ (PySem.mem_of_lookup hd)).2;rw [<- e2];exact Eb this
  ·have e':(cellsFrom (s.heap.objs.size+1) scope.names (j0z scope.names X.env.cells [])).lookup x=some c:=e
   rcases both x c e' with z | z
   ·have h1:=(hfp b hb).2;have h2:=z.2;exact fun k=>absurd h1 (Nat.not_lt.mpr (by rw [<- k];exact Eb h2))
   ·exact(hfp b hb).1.2.2.2.2.1 x c z
  ·have:=(hfp b hb).1.2.2.2.1
   rcases this with z | z
   ·exact I.ok.noex b o e z
   ·exact absurd (Bi (Aj e) (Bv I.ok.bsz z)) (By _)
  ·rcases Ap.mp (I.stkSub b hf) with z | z
   ·exact(hfp b hb).1.2.1 z
   ·exact(hfp b hb).1.2.2.1 z
 refine⟨ok',rfl,I.bare,Un.kept old,⟨m,hns,fun i x v e1 e2 e3=>?_⟩,fun x c e=>?_,fre,fun x c e=>?_,fun p hp=>absurd hp (by simp [j19,j08]),I.hok.kept old,?_⟩
 ·have hi:i < σ.length:=by
   by_cases hi:i < σ.length
   ·exact hi
   ·rw [Ay (by omega),Dp] at e2
    split at e2 <;> cases e2
  rw [Ar hi] at e2;have e1':N'[i]?=some x:=e1;have vis:∃ k',(relabel scope X.env).names.lookup x=some k'/\(k' = .local\/k' = .cell\/k' = .free):=by
   rcases e3 with z | z | z
   ·exact⟨_,z,.inl rfl⟩
   ·exact⟨_,z,.inr (.inl rfl)⟩
   ·exact⟨_,z,.inr (.inr rfl)⟩
  obtain⟨k',ek',hk'⟩:=vis;obtain⟨k,ek,r⟩:=kindOf ek';have kf:k = .free:=by
   rcases r with r | ⟨r,_⟩
   ·subst r
    rcases hk' with z | z | z
    ·subst z;have:=ck.own i x e1' ek;rw [I.len] at hi;omega
    ·subst z;have:=ck.ownC i x e1' ek;rw [I.len] at hi;omega
    ·exact z
   ·exact r
  subst kf;have hm:=PySem.mem_of_lookup ek;have hxN:=ck.out i x e1' ek;obtain⟨m0,hn0,hl0⟩:=I.loc;have kx:=ck.free _ hm rfl;obtain⟨u,ru,lk⟩:=hl0 i x v hxN e2 (by rcases kx with z | z;exact .inr (.inl z);exact .inr (.inr z));refine⟨u,ru,.inr ⟨?_,?_⟩⟩
  ·rcases r with r | ⟨_,r⟩
   ·subst r;exact .inr ek'
   ·subst r;exact .inl ek'
  ·rcases lk with ⟨k1,_⟩ | ⟨_,c,hc,hcell⟩
   ·have k1':X.env.scope.names.lookup x=some .local:=k1
    rcases kx with z | z
    ·rw [k1'] at z;cases z
    ·rw [k1'] at z;cases z
   ·have hin:=j24 scope.names X.env.cells [] x c hm hc;obtain⟨d,hd⟩:=j1c hin;have:d=c:=Option.some.inj ((sub x d hd).symm.trans hc);subst this;obtain⟨o,ho,hdat⟩:=hcell;exact⟨d,(frl x ek).trans hd,o,old _ _ ho,hdat⟩
 ·have e':(cellsFrom (s.heap.objs.size+1) scope.names (j0z scope.names X.env.cells [])).lookup x=some c:=e
  rcases both x c e' with z | z
  ·exact⟨none,(hcs.empty x c z.1).1⟩
  ·obtain⟨v,o,ho,hdat⟩:=I.cell x c z;exact⟨v,o,old _ _ ho,hdat⟩
 ·have e':(cellsFrom (s.heap.objs.size+1) scope.names (j0z scope.names X.env.cells [])).lookup x=some c:=e
  rcases both x c e' with z | z
  ·exact I.hok.fresh (Eb z.2)
  ·exact I.freeC x c z
 ·rw [Af,Dl,I.len];exact hl.symm
end
section
variable{X:Cx}{elt tg iter:Expr}{ifs:List Expr}{scope:Scope}{pos:Pos}{N':List Str}{n:Nat}{wi:TI}{g:TG}{tc:TT}{te:TE}
theorem k3e{pins:List (Addr×Obj)}{σ:St}{H2:Hp}{s2:Shared}{E:Value->Shared->Prop}{RR:Value->Addr->Result->Shared->Prop}{it:Addr}{fp:List Addr}{tn:Nat->Heap->Prop}{J:It}{Q:VK}
  (hc:X.calm=true) (ck:CompOkC X.env.scope scope X.N N') (hl:N'.length=X.N.length+n)
  (hg:∀ cl C s₀ H₀ ex,PG (j19 X N' scope cl C s₀ H₀ ex) tg g) (hif:∀ cl C s₀ H₀ ex,PIf (j19 X N' scope cl C s₀ H₀ ex) ifs tc) (he:∀ cl C s₀ H₀ ex,PE (j19 X N' scope cl C s₀ H₀ ex) elt te)
  (I2:Inv X pins σ H2 s2) (T:Turn X.prog X.w X.K tg J fp it tn) (st2:tn 0 s2.heap) (f2:∀ b∈fp,FpOk X pins H2 b)
  (q : ∀ D, H2 D = none → ∃ W : Nat → Nat → St → Hp → Prop, (∃ m, W 0 m (σ ++ List.replicate n none) (upd H2 D (.lst []))) ∧ ∀ i m σ' H', W i m σ' H' →
   (J.stop i H' ∧ Q (.ref D) H') ∨ (J.go i H' ∧ ∃ N : St → Hp → Prop, (∀ σ' H', N σ' H' → ∃ m', m' < m ∧ W (i + 1) m' σ' H') ∧ ∀ x H2, J.yld i H' x H2 → g x σ' H2 fun σ2 H3 => tc σ2 H3 fun b H4 =>
    if b=true then te σ2 H4 fun v H5=>∃ ys,H5 D=some (.lst ys)/\ys.length < sizeLine/\N σ2 (upd H5 D (.lst (ys++[v]))) else N σ2 H4))
  (hRR:∀ D C H' s' m,Inv X pins σ H' s'->s'.heap.Ns C m->H' C=none->C≠X.env.locals->X.s₀.heap.objs.size<=C->(∀ x c,X.env.cells.lookup x=some c->c≠C)->(∀ p∈X.pn++pins,p.1≠C)->Q (.ref D) H'->RR (.ref D) C (.ok .next) s') :
  wpAny (model X.prog X.w) X.A (newList []) (fun acc s₃=>wpAny (model X.prog X.w) X.A (newFunctionEnv scope X.env.globals (j0z scope.names X.env.cells []) [] X.env.qual none .none (some X.env)) (fun cenv s₄=>
   codeAny (model X.prog X.w) X.A (.compStart (.ListComp elt [⟨tg,iter,ifs,0⟩] scope pos) 0 (.ref it) acc {cenv with scope:=relabel scope X.env}) (RR acc cenv.locals) s₄) E s₃) E s2:=by
 refine wpAny_newObj_type (j9r (fun h₁ hns₁ old₁ hcs₁=>?_)) (by show(0:Nat)<=sizeLine;exact Bn _);have hD:H2 s2.heap.objs.size=none:=I2.hok.fresh (Ah _);obtain⟨W,⟨m0,w0⟩,turn⟩:=q s2.heap.objs.size hD;have fl:∀ b∈fp,b < s2.heap.objs.size:=fun b hb=>by
  obtain⟨o,e,_⟩:=T.obj 0 _ st2 b hb;exact Aj e
 have I3:Inv X pins σ (upd H2 s2.heap.objs.size (.lst [])) {s2 with heap:=s2.heap.push {cls:= .type "list",dict:=none,data:= .seq ([]:List Value).toArray}}:=
  I2.laid (t':=s2.toks) (fun b o e=>Ae _ e) (Ah _) (show ObjOk X.prog X.w _ _ _ (.lst []) from⟨Bn _,[],0,.nil,Am _ rfl⟩)
 generalize hs3:({s2 with heap:=s2.heap.push {cls:= .type "list",dict:=none,data:= .seq ([]:List Value).toArray}}:Shared)=s3 at I3 hns₁ old₁ hcs₁ ⊢;have hz3:s3.heap.objs.size=s2.heap.objs.size+1:=by rw [<- hs3];exact Cz ..
 have old2:∀ b o,s2.heap.get? b=some o->s3.heap.get? b=some o:=fun b o e=>by rw [<- hs3];exact Ae _ e
 have old:∀ b o,s3.heap.get? b=some o->h₁.get? b=some o:=old₁;have f3:∀ b∈fp,FpOk X pins (upd H2 s2.heap.objs.size (.lst [])) b/\b < s3.heap.objs.size:=fun b hb=>by
  refine⟨⟨?_,(f2 b hb).2⟩,by rw [hz3];exact Ca (fl b hb)⟩;rw [j0d (Bg (fl b hb))];exact(f2 b hb).1
 have I4:=fun(t':Nat)=>k6i (N':=N') (scope:=scope) (n:=n) (fp:=fp) (h₁:=h₁) (t':=t') I3 ck hl hns₁ old hcs₁ f3;generalize hX:j19 X N' scope (cellsFrom (s3.heap.objs.size+1) scope.names (j0z scope.names X.env.cells [])) s3.heap.objs.size s3 (upd H2 s2.heap.objs.size (.lst [])) fp=X' at I4;have eP:X'.prog=X.prog:=by rw [<- hX];rfl
 have ew:X'.w=X.w:=by rw [<- hX];rfl
 have eK:X'.K=X.K:=by rw [<- hX];rfl
 have eA:X'.A=X.A:=by rw [<- hX];rfl
 have eE:X'.env=compEnvC scope (cellsFrom (s3.heap.objs.size+1) scope.names (j0z scope.names X.env.cells [])) s3.heap.objs.size X.env:=by rw [<- hX];rfl
 have ec:X'.calm=true:=by rw [<- hX];exact hc
 have ex':X'.xe=fun _ _=>False:=by rw [<- hX];rfl
 have hg':PG X' tg g:=by rw [<- hX];exact hg _ _ _ _ _
 have hif':PIf X' ifs tc:=by rw [<- hX];exact hif _ _ _ _ _
 have he':PE X' elt te:=by rw [<- hX];exact he _ _ _ _ _
 have stat:∀{H':Hp},(∀ b∈fp,H' b=none)->∀ b∈fp,FpOk X' [] H' b:=fun hn b hb=>by
  refine⟨hn b hb,?_,?_,?_,?_,?_⟩
  ·rw [eE];exact Bg (f3 b hb).2
  ·rw [<- hX];intro hf
   rcases Ap.mp (I3.stkSub b hf) with z | z
   ·exact(f3 b hb).1.2.1 z
   ·exact(f3 b hb).1.2.2.1 z
  ·rw [<- hX];exact .inl hb
  ·rw [eE];intro x c e
   rcases j5s e with z | z
   ·exact fun k=>absurd (f3 b hb).2 (Nat.not_lt.mpr (by rw [<- k];exact Eb z.2))
   ·exact(f3 b hb).1.2.2.2.2.1 x c (j2n _ _ _ (fun _ _ z=>by simp at z) x c (PySem.mem_of_lookup z))
  ·rw [<- hX];intro p hp;exact absurd hp (by simp [j19,j08])
 have fin:∀{σ':St} {H':Hp} {s':Shared},Inv X' [] σ' H' s'->Q (.ref s2.heap.objs.size) H'->RR (.ref s2.heap.objs.size) s3.heap.objs.size (.ok .next) s':=fun{σ' H' s'} I' q'=>by
  obtain⟨m',hn',_⟩:=id I'.loc;rw [eE] at hn';have hos:s'.os=s3.os:=by have:=I'.os;rw [<- hX] at this;exact this
  have hun:Un (frs X.stack) fp (upd H2 s2.heap.objs.size (.lst [])) H' s3.heap s'.heap:=by have:=I'.base;rw [<- hX] at this;exact this
  have hok:HOk X.prog X.w H' s'.heap:=by have:=I'.hok;rw [eP,ew] at this;exact this
  have IX:Inv X pins σ H' s':=I3.call' (ch:=fp) hos hun hok I'.bare fun b hb=>⟨(f3 b hb).1.2.2.2.1,(f3 b hb).1.2.1,(f3 b hb).1.2.2.2.2.1,(f3 b hb).1.2.2.2.2.2⟩;have hfr:=I'.free;rw [eE] at hfr;refine hRR _ _ H' s' m' IX hn' hfr (Ci I3.lt) I3.sz (fun x c e z=>?_) (fun p hp z=>?_) q'
  ·obtain⟨v,o,ho,_⟩:=I3.cell x c e;exact absurd (Aj ho) (by rw [z];exact By _)
  ·exact absurd (Aj (I3.pin p hp).1) (by rw [z];exact By _)
 have loop:∀ t',codeAny (model X.prog X.w) X.A (.compLoop (.ListComp elt [⟨tg,iter,ifs,0⟩] scope pos) 0 (.ref it) (.ref s2.heap.objs.size) (compEnvC scope (cellsFrom (s3.heap.objs.size+1) scope.names (j0z scope.names X.env.cells [])) s3.heap.objs.size X.env)) (RR (.ref s2.heap.objs.size) s3.heap.objs.size) {s3 with heap:=h₁,toks:=t'}:=fun t'=>by
  refine j2l (fun k s'=>∃ i σ' H',Inv X' [] σ' H' s'/\tn i s'.heap/\(∀ b∈fp,H' b=none)/\W i k σ' H') ?_ m0
   ⟨0,_,_,I4 t',T.keep 0 _ _ st2 fun b _ o e=>old b o (old2 b o e),fun b hb=>(f3 b hb).1.1,w0⟩
  rintro k s4 ⟨i,σ4,H4,J4,st4,fr4,w4⟩;rw [<- eP,<- ew,<- eA,<- eE]
  rcases turn i k σ4 H4 w4 with ⟨stop,qn⟩ | ⟨go,N,hN,step⟩
  ·have d1:=T.done X' eP ew eK ec i [] s4 σ4 H4 (fun _ _=>False) J4 (stat fr4) st4 stop;rw [<- eP,<- ew] at d1;refine thnF d1 fun r s5 ⟨hr,I5⟩=>?_;subst hr;exact fin I5 qn
  ·have d1:=T.item X' eP ew eK ec i [] s4 σ4 H4 (fun _ _=>False) J4 (stat fr4) st4 go;rw [<- eP,<- ew] at d1;refine thnF d1 fun r s5 ⟨u,hr,h5⟩=>?_;subst hr;refine thnF h5 fun _ s6 ⟨x,H6,I6,r6,y6,st6,fr6⟩=>?_;have I6':=I6.pinned (stat fr6) (T.obj _ _ st6);have again:∀{σ7:St} {H7:Hp} {s7:Shared},Inv X' ([]++j6j fp s6.heap) σ7 H7 s7->N σ7 H7->∃ m,m < k/\∃ i σ' H',Inv X' [] σ' H' s7/\tn i s7.heap/\(∀ b∈fp,H' b=none)/\W i m σ' H':=fun{σ7 H7 s7} I7 n7=>by
    obtain⟨m',hm,w7⟩:=hN σ7 H7 n7;refine⟨m',hm,i+1,σ7,H7,I7.unpinned,T.keep _ _ _ st6 fun b hb o e=>(I7.pin (b,o) (As _ (As _ (j10 hb e)))).1,fun b hb=>?_,w7⟩;obtain⟨o,e,d⟩:=T.obj _ _ st6 b hb;exact(I7.pin (b,o) (As _ (As _ (j10 hb e)))).2.1
   have a1:=hg' _ s6 σ4 H6 x u _ I6' r6 (step x H6 y6);rw [ex'] at a1;refine thnF a1 fun _ s7 ⟨σ7,H7,I7,q7⟩=>?_;have a2:=hif' _ s7 σ7 H7 _ I7 q7;rw [ex'] at a2;refine thnF a2 fun ok s8 ⟨H8,I8,q8⟩=>?_;cases ok with
   | false=>
    rw [if_neg Al] at q8 ⊢;exact again I8 q8
   | true=>
    rw [if_pos rfl] at q8 ⊢;have a3:=he' _ s8 σ7 H8 _ I8 q8;rw [ex'] at a3;refine thnF a3 fun v s9 ⟨vv,H9,I9,r9,ys,hy,hz,q9⟩=>?_;have a4:=j4b (X:=X') _ s9 σ7 H9 (.ref s2.heap.objs.size) [vv] (.ref s2.heap.objs.size) [v] (fun _ H'=>N σ7 H') I9 rfl (.cons r9 .nil) ⟨_,ys,vv,rfl,rfl,hy,hz,q9⟩;rw [ex'] at a4;exact thnF a4 fun _ s10 ⟨_,H10,I10,_,q10⟩=>again I10 q10
 refine codeAny_compStart_list (loop _) (T.self _ 0 _ _ _ ?_ (loop _));exact T.keep 0 _ _ st2 fun b _ o e=>old b o (old2 b o e)
theorem k8w(sc:Scope)(N N':List Str)(n:Nat)(hi:PI X tg iter wi)
  (hg:∀ cl C s₀ H₀ ex,PG (j19 X N' scope cl C s₀ H₀ ex) tg g) (hif:∀ cl C s₀ H₀ ex,PIf (j19 X N' scope cl C s₀ H₀ ex) ifs tc) (he:∀ cl C s₀ H₀ ex,PE (j19 X N' scope cl C s₀ H₀ ex) elt te)
  (hc:X.calm=true:=by rfl) (hsc:X.env.scope=sc:=by rfl) (hN:X.N=N:=by rfl) (hk:j7k sc scope N N'=true:=by decide +kernel) (hl:N'.length=N.length+n:=by rfl)
  (hs:∀ x,foldedSetIterable iter X.env x=pure x:=by intro _;rfl):PE X (.ListComp elt [⟨tg,iter,ifs,0⟩] scope pos) (q3g n wi g tc te):=by
 intro pins s σ H Q I h;subst hsc hN;have ck:=CompOkC.of hk;rw [eval_ListComp];refine wpAny_comprehension_free (use:=none) rfl hs (j2o fun x hx hf=>I.ok.has x.1 (ck.free x hx hf)) ck.kind ck.names (thn (hi pins s σ H _ I h) fun v s1 h1=>thn h1 fun itv s2 h2=>?_);obtain⟨it,fp,tn,J,H2,e,I2,T,st2,f2,q⟩:=h2;subst e;refine k3e (RR:=fun acc C=>compPost (model X.prog X.w) X.A X.xe none (EP X pins σ Q) acc C) hc ck hl hg hif he I2 T st2 f2 q ?_;intro D C H' s' m IX hn hC c1 c2 c3 c4 qq;exact⟨m,hn,fun h' hs'=>⟨.ref D,H',IX.turned (t':=s'.toks) (fun b o hb e=>hs'.extBut b o hb e) hC (Ne.symm (Ne.symm c1)) (.inr c2) c3 c4,rfl,qq⟩⟩
end
def CEvC(X:Cx)(N':List Str)(scope:Scope)(e:Expr)(σ:St)(H:Hp)(Q:VK):Prop:=∀ cl C s₀ H₀ ex,Ev (j19 X N' scope cl C s₀ H₀ ex) e σ H Q
def CEgC(X:Cx)(N':List Str)(scope:Scope)(e:Expr)(v:V)(σ:St)(H:Hp)(Q:St->Hp->Prop):Prop:=∀ cl C s₀ H₀ ex,Eg (j19 X N' scope cl C s₀ H₀ ex) e v σ H Q
def CEiC(X:Cx)(N':List Str)(scope:Scope)(ifs:List Expr)(σ:St)(H:Hp)(Q:Bool->Hp->Prop):Prop:=∀ cl C s₀ H₀ ex,Ei (j19 X N' scope cl C s₀ H₀ ex) ifs σ H Q
def q0e(X:Cx)(N':List Str)(scope:Scope)(tg:Expr)(ifs:List Expr)(elt:Expr)(J:It)(D:Addr)(after:Hp->Prop)(σ:St)(H:Hp):Prop:=
 ∃ W:Nat->Nat->St->Hp->Prop,(∃ m,W 0 m σ H)/\∀ i m σ' H',W i m σ' H' ->
  (J.stop i H' ∧ after H') ∨ (J.go i H' ∧ ∃ N : St → Hp → Prop, (∀ σ' H', N σ' H' → ∃ m', m' < m ∧ W (i + 1) m' σ' H') ∧ ∀ x H2, J.yld i H' x H2 → CEgC X N' scope tg x σ' H2 fun σ2 H3 => CEiC X N' scope ifs σ2 H3 fun b H4 =>
   if b=true then CEvC X N' scope elt σ2 H4 fun v H5=>∃ ys,H5 D=some (.lst ys)/\ys.length < sizeLine/\N σ2 (upd H5 D (.lst (ys++[v]))) else N σ2 H4)
section
variable{X:Cx}{elt tg iter c:Expr}{ifs:List Expr}{scope:Scope}{pos p:Pos}{wi:TI}{σ:St}{H:Hp}{Q:VK}{T:Bool->Hp->Prop}{rest:List Stmt}{D:Ends}
theorem k8t(sc:Scope)(N N':List Str)(n:Nat)(hi:PI X tg iter wi)
  (h:wi σ H fun J H1=>∀ D,H1 D=none->q0e X N' scope tg ifs elt J D (fun H'=>Q (.ref D) H') (σ++List.replicate n none) (upd H1 D (.lst [])))
  (hc:X.calm=true:=by rfl) (hsc:X.env.scope=sc:=by rfl) (hN:X.N=N:=by rfl) (hk:j7k sc scope N N'=true:=by decide +kernel) (hl:N'.length=N.length+n:=by rfl)
  (hs:∀ x,foldedSetIterable iter X.env x=pure x:=by intro _;rfl):Ev X (.ListComp elt [⟨tg,iter,ifs,0⟩] scope pos) σ H Q:=
 j2e (k8w (g:=fun v σ H Q=>CEgC X N' scope tg v σ H Q) (tc:=fun σ H Q=>CEiC X N' scope ifs σ H Q) (te:=fun σ H Q=>CEvC X N' scope elt σ H Q) sc N N' n hi
  (fun cl C s₀ H₀ ex pins s σ H v u Q I r h=>(h cl C s₀ H₀ ex).run pins s u I r) (fun cl C s₀ H₀ ex pins s σ H Q I h=>(h cl C s₀ H₀ ex).run pins s I) (fun cl C s₀ H₀ ex pins s σ H Q I h=>(h cl C s₀ H₀ ex).run pins s I) hc hsc hN hk hl hs) h
end
section
variable{X:Cx}{elt tg:Expr}{ifs:List Expr}{scope:Scope}{σ:St}{H:Hp}{N':List Str}{A a d:Addr}{xs:List V}{kvs:List (Key×V)}{after:Hp->Prop}
theorem k0w(Pv:Nat->St->Hp->Prop)(h0:Pv 0 σ H)(hl:∀ i σ' H',i<=xs.length->Pv i σ' H'->SqL X.K H' a xs)
  (hs : ∀ i x σ' H', xs[i]? = some x → Pv i σ' H' → CEgC X N' scope tg x σ' H' fun σ2 H3 => CEiC X N' scope ifs σ2 H3 fun b H4 =>
   if b=true then CEvC X N' scope elt σ2 H4 fun v H5=>∃ ys,H5 A=some (.lst ys)/\ys.length < sizeLine/\Pv (i+1) σ2 (upd H5 A (.lst (ys++[v]))) else Pv (i+1) σ2 H4)
  (hd:∀ σ' H',Pv xs.length σ' H'->after H'):q0e X N' scope tg ifs elt (Itl X.K a) A after σ H:=by
 refine⟨fun i m σ' H'=>m=xs.length - i/\i<=xs.length/\Pv i σ' H',⟨_,rfl,Bn _,h0⟩,?_⟩;rintro i m σ' H' ⟨rfl,hi,p⟩;have q:=hl i σ' H' hi p
 by_cases hlt:i < xs.length
 ·refine .inr ⟨⟨xs,xs[i],q,by simp [hlt]⟩,Pv (i+1),fun σ' H' p'=>⟨xs.length - (i+1),by omega,rfl,hlt,p'⟩,fun x H2 y=>?_⟩;obtain⟨e,y⟩:=y;subst e;exact hs i x σ' _ (y xs q) p
 ·have e:i=xs.length:=by omega
  subst e;exact .inl ⟨⟨xs,q,Ah _⟩,hd σ' H' p⟩
end
end L2
namespace L2
open PySem PySem.Spec PyProof.Rows
section
variable{X:Cx}{σ:St}{H:Hp}{D:Ends}{body rest:List Stmt}{a b:Expr}
end
end L2
namespace SetT
open PySem SetTable
def adv(mask:Nat)(p:Probe):Probe:=if p.more > 0 then{p with j:=p.j+1,more:=p.more - 1} else
 {p with j:=(leap mask p.i p.perturb).1,more:=runEnd mask (leap mask p.i p.perturb).1 - (leap mask p.i p.perturb).1,i:=(leap mask p.i p.perturb).1,perturb:=(leap mask p.i p.perturb).2}
def P0(mask i q:Nat):Probe:={j:=i,more:=runEnd mask i - i,i:=i,perturb:=q,dummy:=none}
def itn(mask:Nat)(p:Probe):Nat->Probe
 | 0=>p
 | n+1=>adv mask (itn mask p n)
def pr(mask:Nat)(h:Int)(n:Nat):Probe:=itn mask (P0 mask (bits h % (mask+1)) (bits h)) n
theorem k1m(t:SetTable)(h:Int):t.probeStart h=pr t.mask h 0:=rfl
theorem j5r(mask:Nat)(p:Probe)(a:Nat):∀ b,itn mask p (a+b)=itn mask (itn mask p a) b
 | 0=>rfl
 | b+1=>by
  show adv mask (itn mask p (a+b))=adv mask (itn mask (itn mask p a) b);rw [j5r mask p a b]
theorem j4x(mask i q:Nat):∀ k,k<=runEnd mask i - i->itn mask (P0 mask i q) k={j:=i+k,more:=runEnd mask i - i - k,i:=i,perturb:=q,dummy:=none}
 | 0,_=>rfl
 | k+1,h=>by
  show adv mask (itn mask (P0 mask i q) k)=_;rw [j4x mask i q k (by omega)];unfold adv;rw [if_pos (by show runEnd mask i - i - k > 0;omega)];show(⟨i+k+1,runEnd mask i - i - k - 1,i,q,none⟩:Probe)=_
  congr 1
theorem j5n(mask i q:Nat):itn mask (P0 mask i q) (runEnd mask i - i+1)=P0 mask (leap mask i q).1 (leap mask i q).2:=by
 show adv mask (itn mask (P0 mask i q) (runEnd mask i - i))=_;rw [j4x mask i q _ (Ah _)];unfold adv;rw [if_neg (by show ¬ runEnd mask i - i - (runEnd mask i - i) > 0;omega)];rfl
theorem q6i(mask i:Nat):runEnd mask i - i<=9:=by unfold runEnd;split <;> omega
theorem q03{mask i:Nat}(h:i<=mask):runEnd mask i<=mask:=by unfold runEnd;split <;> omega
theorem j88{mask j:Nat}:∀(fuel i q:Nat),j∈j97 mask fuel i q->∃ n,n < 10 * fuel/\(itn mask (P0 mask i q) n).j=j
 | 0,_,_,h=>by cases h
 | fuel+1,i,q,h=>by
  rcases Ap.mp h with e | h
  ·exact⟨0,by omega,e.symm⟩
  ·obtain⟨n,hn,e⟩:=j88 fuel _ _ h;refine⟨runEnd mask i - i+1+n,by have:=q6i mask i;omega,?_⟩;rw [j5r,j5n];exact e
theorem k9n{mask:Nat}(hm:Pow (mask+1))(h:Int){j:Nat}(hj:j < mask+1):∃ n,n < 10 * turns mask/\(pr mask h n).j=j:=
 j88 _ _ _ (j9g hm (Fp _ (Eh _)) (k4z h) hj)
theorem q6b{mask:Nat}:∀(n i q:Nat),i<=mask->(itn mask (P0 mask i q) n).j<=mask:=by
 intro n
 induction n using Nat.strongRecOn with
 | _ n ih=>
  intro i q hi
  by_cases c:n<=runEnd mask i - i
  ·rw [j4x mask i q n c];have:=q03 hi;show i+n<=mask;omega
  ·have e:n=runEnd mask i - i+1+(n - (runEnd mask i - i+1)):=by omega
   rw [e,j5r,j5n];exact ih _ (by omega) _ _ (Nat.le_of_lt_succ k6x)
theorem q39(mask:Nat)(h:Int)(n:Nat):(pr mask h n).j<=mask:=q6b n _ _ (Nat.le_of_lt_succ (Fp _ (Eh _)))
def Reach(mask:Nat)(occ:Nat->Prop)(h:Int)(j:Nat):Prop:=∃ n,(pr mask h n).j=j/\∀ m,m < n->occ (pr mask h m).j
theorem Reach.mono{mask:Nat}{occ occ':Nat->Prop}{h:Int}{j:Nat}(r:Reach mask occ h j)(k:∀ i,i<=mask->occ i->occ' i):Reach mask occ' h j:=
 let ⟨n,e,f⟩:=r;⟨n,e,fun m hm=>k _ (q39 _ _ _) (f m hm)⟩
theorem j7a{mask:Nat}{owner:Own}:∀{fuel i q j:Nat},layClean.free mask owner fuel i q=some j->∃ n,(itn mask (P0 mask i q) n).j=j/\∀ m,m < n->nil? owner (itn mask (P0 mask i q) m).j=false
 | 0,_,_,_,h=>by cases h
 | fuel+1,i,q,j,h=>by
  unfold layClean.free at h
  split at h
  ·rename_i k hf;cases h;rw [List.find?_range_eq_some] at hf;have hk:k<=runEnd mask i - i:=by have:=Bj.mp hf.2.1;have:=j7x mask i;omega
   refine⟨k,by rw [j4x mask i q k hk],fun m hm=>?_⟩;rw [j4x mask i q m (by omega)];have:=hf.2.2 m hm
   simpa [nil?] using this
  ·rename_i hf;obtain⟨n,e,g⟩:=j7a (fuel:=fuel) h;refine⟨runEnd mask i - i+1+n,by rw [j5r,j5n];exact e,fun m hm=>?_⟩
   by_cases c:m<=runEnd mask i - i
   ·rw [j4x mask i q m c];have:=List.find?_eq_none.mp hf m (Bj.mpr (by have:=j7x mask i;omega));exact Em.mpr this
   ·have e2:m=runEnd mask i - i+1+(m - (runEnd mask i - i+1)):=by omega
    rw [e2,j5r,j5n];exact g _ (by omega)
theorem k53{owner:Own}{j k i:Nat}(h:nil? owner i=false):nil? (owner.setIfInBounds j (some k)) i=false:=by
 unfold nil? at h ⊢;rw [Ck] at h ⊢;rw [El]
 split
 ·split <;> rfl
 ·exact h
def LayR(mask:Nat)(hs:List Int)(owner:Own):Prop:=∀ v j x,owner[j]?=some (some v)->hs[v]?=some x->Reach mask (fun i=>nil? owner i=false) x j
theorem j8v{mask:Nat}(hm:Pow (mask+1))(all:List Int):∀(hs done:List Int) (owner:Own),all=done++hs->Lies (mask+1) owner done.length->LayR mask all owner->all.length < mask+1+1 ->
  ∃ owner',hs.foldl (j76 mask) (some (owner,done.length))=some (owner',all.length)/\Lies (mask+1) owner' all.length/\LayR mask all owner'
 | [],done,owner,e,L,R,_=>by
  rw [Ba] at e;subst e;exact⟨owner,rfl,L,R⟩
 | h :: r,done,owner,e,L,R,hk=>by
  have el:all.length=done.length+(r.length+1):=by rw [e,Af,An]
  obtain⟨j,ej,hj⟩:=L.free hm (by omega) h;have Lp:=L.put hj;have Rp:LayR mask all (owner.setIfInBounds j (some done.length)):=by
   intro v i x hv hx;rw [El] at hv
   by_cases c:j=i
   ·subst c;rw [if_pos rfl] at hv
    split at hv
    ·cases hv;rw [e,Ay (Ah _),Nat.sub_self] at hx;cases hx;obtain⟨n,e1,e2⟩:=j7a ej;exact⟨n,e1,fun m hm'=>k53 (e2 m hm')⟩
    ·cases hv
   ·rw [if_neg c] at hv;exact(R v i x hv hx).mono fun _ _=>k53
  obtain⟨o',e',L',R'⟩:=j8v hm all r (done++[h]) (owner.setIfInBounds j (some done.length)) (by rw [e,Bm];rfl) (by rw [Af];exact Lp) Rp hk;refine⟨o',?_,L',R'⟩;rw [Dh,show j76 mask (some (owner,done.length)) h=some (owner.setIfInBounds j (some done.length),done.length+1) by unfold j76;simp [ej]];rw [Af] at e';exact e'
theorem q06{mask:Nat}(hm:Pow (mask+1))(hs:Array Int)(hl:hs.size < mask+1+1):∃ owner,layClean mask hs=some owner/\Lies (mask+1) owner hs.size/\LayR mask hs.toList owner:=by
 obtain⟨o',e,L,R⟩:=j8v hm hs.toList hs.toList [] (Array.replicate (mask+1) none) rfl (Lies.start (mask+1)) (fun v j x hv=>by
  rw [Fc] at hv
  split at hv <;> cases hv) (by simpa using hl)
 refine⟨o',?_,by simpa using L,R⟩;have e2:layClean mask hs=(hs.foldl (j76 mask) (some (Array.replicate (mask+1) none,0))).map (·.1):=rfl;rw [e2,<- Array.foldl_toList];have e3:([]:List Int).length=0:=rfl;rw [e3] at e;rw [e];rfl
theorem k80{xs:Array Nat}{j:Nat}(hs:xs.toList.Pairwise (· < ·)):∀(fuel lo hi:Nat),hi<=xs.size->lo<=hi->hi - lo<=fuel->(∀ i v,i < lo->xs[i]?=some v->v < j)->(∀ i v,hi<=i->xs[i]?=some v->j<=v) ->
  (below.go xs j fuel lo hi)<=xs.size/\(∀ i v,i < below.go xs j fuel lo hi->xs[i]?=some v->v < j)/\(∀ i v,below.go xs j fuel lo hi<=i->xs[i]?=some v->j<=v):=by
 have mono:∀{i k:Nat} {u v:Nat},i < k->xs[i]?=some u->xs[k]?=some v->u < v:=fun{i k u v} hik hi hk=>by
  rw [<- Bb] at hi hk;obtain⟨h1,e1⟩:=Ac.mp hi;obtain⟨h2,e2⟩:=Ac.mp hk;rw [<- e1,<- e2];exact Bf.mp hs i k h1 h2 hik
 intro fuel
 induction fuel with
 | zero=>
  intro lo hi h1 h2 h3 h4 h5;have e:lo=hi:=by omega
  subst e;exact⟨h1,h4,h5⟩
 | succ fuel ih=>
  intro lo hi h1 h2 h3 h4 h5;unfold below.go
  by_cases c:lo < hi
  ·rw [if_pos c];have hmid:(lo+hi) / 2 < xs.size:=by omega
   have hm:xs[(lo+hi) / 2]?=some xs[(lo+hi) / 2]:=Bx hmid;have hgd:xs.getD ((lo+hi) / 2) j=xs[(lo+hi) / 2]:=by rw [Ck,hm];rfl
   simp only;rw [hgd]
   by_cases d:xs[(lo+hi) / 2] < j
   ·rw [if_pos d];refine ih _ _ h1 (by omega) (by omega) (fun i v hi' hv=>?_) h5
    by_cases k:i=(lo+hi) / 2
    ·subst k;rw [hm] at hv;cases hv;exact d
    ·exact Nat.lt_trans (mono (by omega) hv hm) d
   ·rw [if_neg d];refine ih _ _ (by omega) (by omega) (by omega) h4 (fun i v hi' hv=>?_)
    by_cases k:i=(lo+hi) / 2
    ·subst k;rw [hm] at hv;cases hv;omega
    ·have:=mono (show(lo+hi) / 2 < i by omega) hm hv;omega
  ·rw [if_neg c];have e:lo=hi:=by omega
   subst e;exact⟨h1,h4,h5⟩
theorem k1d{xs:Array Nat}(hs:xs.toList.Pairwise (· < ·))(j:Nat):below xs j<=xs.size/\(∀ i v,i < below xs j->xs[i]?=some v->v < j)/\(∀ i v,below xs j<=i->xs[i]?=some v->j<=v):=
 k80 hs xs.size 0 xs.size (Ah _) (Bn _) (by omega) (fun i v h=>absurd h (Dq _)) fun i v h hv=>by
  rw [Dd h] at hv;cases hv
end SetT
namespace SetT
open PySem SetTable
theorem q2p{p:Nat->Prop}:∀ n,p n->∃ m,m<=n/\p m/\∀ k,k < m->¬ p k:=by
 intro n
 induction n using Nat.strongRecOn with
 | _ n ih=>
  intro h
  by_cases c:∃ k,k < n/\p k
  ·obtain⟨k,hk,pk⟩:=c;obtain⟨m,h1,h2⟩:=ih k hk pk;exact⟨m,by omega,h2⟩
  ·exact⟨n,Ah _,h,fun k hk pk=>c ⟨k,hk,pk⟩⟩
abbrev Ze:=Nat×(Int×Value)
structure Wf(t:SetTable)(es:Array (Int×Value))(Z:List Ze):Prop where
 place:t.place.toList=Z.map (·.1)
 ents:es.toList=Z.map (·.2)
 srt:Z.Pairwise (fun a b=>a.1 < b.1)
 le:∀ z∈Z,z.1<=t.mask
 few:Z.length<=t.mask
 dum:t.dummies=#[]
 pow:Pow (t.mask+1)
 rch:∀ z∈Z,Reach t.mask (fun j=>j∈Z.map (·.1)) z.2.1 z.1
section
variable{t:SetTable}{es:Array (Int×Value)}{Z:List Ze}
theorem Wf.sorted(W:Wf t es Z):t.place.toList.Pairwise (· < ·):=by
 rw [W.place,Ep];exact W.srt
theorem Wf.len(W:Wf t es Z):es.size=Z.length:=by rw [<- Bw,W.ents,Aa]
theorem Wf.plen(W:Wf t es Z):t.place.size=Z.length:=by rw [<- Bw,W.place,Aa]
theorem Wf.at(W:Wf t es Z){i:Nat}{z:Ze}(h:Z[i]?=some z):t.place[i]?=some z.1/\es[i]?=some z.2:=by
 rw [<- Bb,<- Bb,W.place,W.ents,Ad,Ad,h];exact⟨rfl,rfl⟩
theorem Wf.of(W:Wf t es Z){i v:Nat}(h:t.place[i]?=some v):∃ z,Z[i]?=some z/\z.1=v:=by
 rw [<- Bb,W.place,Ad,Aw] at h;exact h
theorem Wf.inj(W:Wf t es Z){i k:Nat}{y z:Ze}(hi:Z[i]?=some y)(hk:Z[k]?=some z)(e:y.1=z.1):i=k:=by
 obtain⟨h1,e1⟩:=Ac.mp hi;obtain⟨h2,e2⟩:=Ac.mp hk
 rcases Fm i k with c | c | c
 ·have:=Bf.mp W.srt i k h1 h2 c;rw [e1,e2] at this;omega
 ·exact c
 ·have:=Bf.mp W.srt k i h2 h1 c;rw [e1,e2] at this;omega
theorem Wf.below_live(W:Wf t es Z){i:Nat}{z:Ze}(h:Z[i]?=some z):below t.place z.1=i:=by
 obtain⟨b1,b2,b3⟩:=k1d W.sorted z.1;have hp:=(W.at h).1;have c1:¬ i < below t.place z.1:=fun c=>By _ (b2 i _ c hp)
 rcases Cj (below t.place z.1) i with c | c
 ·have hi:i < Z.length:=(Ac.mp h).1;have hb:below t.place z.1 < Z.length:=by omega
  have h2:Z[below t.place z.1]?=some Z[below t.place z.1]:=Ab hb;have h3:=b3 _ _ (Ah _) (W.at h2).1;have h4:=Bf.mp W.srt _ i hb hi c;rw [(Ac.mp h).2] at h4;omega
 ·omega
theorem Wf.slot_live(W:Wf t es Z){i:Nat}{z:Ze}(h:Z[i]?=some z):t.slot z.1 = .live i:=by
 unfold slot;simp only;rw [W.below_live h,(W.at h).1,if_pos (beq_self_eq_true _)]
theorem Wf.slot_empty(W:Wf t es Z){j:Nat}(h:j∉Z.map (·.1)):t.slot j = .empty:=by
 unfold slot;simp only;have h1:(t.place[below t.place j]? == some j)=false:=by
  rw [beq_eq_false_iff_ne];intro e;obtain⟨z,hz,ez⟩:=W.of e;exact h (Ak.mpr ⟨z,Av hz,ez⟩)
 rw [if_neg (by rw [h1];exact Al),W.dum];rfl
theorem Wf.fits(W:Wf t es Z):t.fits es.size=true:=by
 unfold SetTable.fits fill;have:=W.few;rw [W.len,W.plen,W.dum];simp only [beq_self_eq_true,Bool.true_and,decide_eq_true_eq];show Z.length+0<=t.mask;omega
structure Stop(mask:Nat)(Z:List Ze)(h:Int)(N:Nat):Prop where
 out:(pr mask h N).j∉Z.map (·.1)
 inn:∀ m,m < N->(pr mask h m).j∈Z.map (·.1)
 lt:N < 10 * turns mask
theorem Wf.stop(W:Wf t es Z)(h:Int):∃ N,Stop t.mask Z h N:=by
 have:∃ j,j < t.mask+1/\j∉Z.map (·.1):=by
  refine Classical.byContradiction fun hn=>?_;have all:∀ j∈List.range (t.mask+1),j∈Z.map (·.1):=fun j hj=>Classical.byContradiction fun k=>hn ⟨j,Bj.mp hj,k⟩;have:=(Ey (n:=t.mask+1)).length_le_of_subset all;rw [Cw,Aa] at this;have:=W.few;omega
 obtain⟨j,hj,hz⟩:=this;obtain⟨n,hn,e⟩:=k9n W.pow h hj;obtain⟨N,h1,h2,h3⟩:=q2p (p:=fun n=>(pr t.mask h n).j∉Z.map (·.1)) n (by rw [e];exact hz);exact⟨N,h2,fun m hm=>Classical.byContradiction fun k=>h3 m hm k,by omega⟩
theorem j5p{mask:Nat}{p:Probe}(h:p.dummy=none):∀ n,(itn mask p n).dummy=none
 | 0=>h
 | n+1=>by
  show(adv mask (itn mask p n)).dummy=none;unfold adv
  split
  ·exact j5p h n
  ·exact j5p h n
theorem k7b(mask:Nat)(h:Int)(n:Nat):(pr mask h n).dummy=none:=j5p rfl n
theorem Wf.go(W:Wf t es Z){hashAt:Nat->Int}(hh:∀ i e,es[i]?=some e->hashAt i=e.1){h:Int}{N:Nat}(S:Stop t.mask Z h N):∀ fuel m,m<=N->N - m < fuel ->
  (∃ m' i z,m<=m'/\m' < N/\Z[i]?=some z/\z.1=(pr t.mask h m').j/\z.2.1=h/\(∀ k,m<=k->k < m'->∀ z∈Z,z.1=(pr t.mask h k).j->z.2.1≠h)/\probe.go t hashAt h fuel (pr t.mask h m)=some (.candidate (pr t.mask h m').j i (pr t.mask h (m'+1)))) \/
  ((∀ k,m<=k->k < N->∀ z∈Z,z.1=(pr t.mask h k).j->z.2.1≠h)/\probe.go t hashAt h fuel (pr t.mask h m)=some (.empty (pr t.mask h N).j none))
 | 0,m,_,hf=>absurd hf (Dq _)
 | fuel+1,m,hm,hf=>by
  unfold probe.go
  by_cases c:m=N
  ·subst c;refine .inr ⟨fun k h1 h2=>by omega,?_⟩;rw [W.slot_empty S.out];simp only;rw [k7b]
  ·obtain⟨z,hz,ez⟩:=Ak.mp (S.inn m (by omega));obtain⟨i,hi⟩:=Az hz;have uniq:∀ y∈Z,y.1=(pr t.mask h m).j->y=z:=fun y hy e=>by
    obtain⟨k,hk⟩:=Az hy;have:=W.inj hk hi (by rw [e,ez]);subst this;rw [hk] at hi;exact Option.some.inj hi
   rw [<- ez,W.slot_live hi];simp only;rw [hh i _ (W.at hi).2]
   by_cases d:z.2.1=h
   ·rw [if_pos (by rw [d];exact beq_self_eq_true _)];exact .inl ⟨m,i,z,Ah _,by omega,hi,ez,d,fun k h1 h2=>by omega,by rw [ez];rfl⟩
   ·rw [if_neg (by rw [beq_iff_eq];exact d)]
    rcases W.go hh S fuel (m+1) (by omega) (by omega) with ⟨m',k,y,a1,a2,a3,a4,a5,a6,a7⟩ | ⟨a1,a2⟩
    ·refine .inl ⟨m',k,y,by omega,a2,a3,a4,a5,fun l h1 h2 x hx ex=>?_,a7⟩
     by_cases e:l=m
     ·subst e;rw [uniq x hx ex];exact d
     ·exact a6 l (by omega) h2 x hx ex
    ·refine .inr ⟨fun l h1 h2 x hx ex=>?_,a2⟩
     by_cases e:l=m
     ·subst e;rw [uniq x hx ex];exact d
     ·exact a1 l (by omega) h2 x hx ex
theorem Wf.put(W:Wf t es Z){h:Int}{x:Value}{N:Nat}(S:Stop t.mask Z h N){t':SetTable}(e1:t'.mask=t.mask)(e2:t'.place=(t.put (pr t.mask h N).j).1.place)(e3:t'.dummies=#[])(hf:Z.length+1<=t.mask) :
  ∃ Z',Wf t' (insertAt es (t.put (pr t.mask h N).j).2 (h,x)) Z'/\Z'.Perm (((pr t.mask h N).j,(h,x)) :: Z):=by
 obtain⟨b1,b2,b3⟩:=k1d W.sorted (pr t.mask h N).j;have ep:(t.put (pr t.mask h N).j).2=below t.place (pr t.mask h N).j:=rfl;have eP:(t.put (pr t.mask h N).j).1.place=insertAt t.place (below t.place (pr t.mask h N).j) (pr t.mask h N).j:=rfl;rw [eP] at e2;rw [ep];generalize hb:below t.place (pr t.mask h N).j=p at b1 b2 b3 e2;have hj:=q39 t.mask h N;have sN:=S.out;have sI:=S.inn;have rN:Reach t.mask (fun j=>j∈Z.map (·.1)) h (pr t.mask h N).j:=⟨N,rfl,sI⟩;clear hb eP ep;generalize (pr t.mask h N).j=j at b2 b3 e2 hj sN rN ⊢;have pm:(Z.take p++(j,(h,x)) :: Z.drop p).Perm ((j,(h,x)) :: Z):=by
  refine List.perm_middle.trans ?_;rw [Cn]
 refine⟨Z.take p++(j,(h,x)) :: Z.drop p,⟨?_,?_,?_,fun z hz=>?_,?_,e3,by rw [e1];exact W.pow,fun z hz=>?_⟩,pm⟩
 ·rw [e2,toList_insertAt,W.place,Ai,Bc,Gb,Gc]
 ·rw [toList_insertAt,W.ents,Ai,Bc,Gb,Gc]
 ·rw [List.pairwise_append];have tk:∀ a∈Z.take p,a.1 < j:=fun a ha=>by
   obtain⟨i,hi⟩:=Az ha;rw [List.getElem?_take] at hi
   split at hi
   ·exact b2 i _ (by assumption) (W.at hi).1
   ·cases hi
  have dr:∀ a∈Z.drop p,j < a.1:=fun a ha=>by
   obtain⟨i,hi⟩:=Az ha;rw [List.getElem?_drop] at hi;have:=b3 (p+i) _ (by omega) (W.at hi).1;have ne:a.1≠j:=fun e=>sN (by rw [<- e];exact Ak.mpr ⟨a,Av hi,rfl⟩);omega
  refine⟨W.srt.sublist (List.take_sublist _ _),List.pairwise_cons.mpr ⟨dr,W.srt.sublist (List.drop_sublist _ _)⟩,fun a ha b hb=>?_⟩
  rcases Ap.mp hb with e | hb
  ·rw [e];exact tk a ha
  ·exact Nat.lt_trans (tk a ha) (dr b hb)
 ·rw [e1]
  rcases Ap.mp (pm.mem_iff.mp hz) with e | hz
  ·rw [e];exact hj
  ·exact W.le z hz
 ·rw [pm.length_eq,e1];exact hf
 ·have up:∀{h':Int} {k:Nat},Reach t.mask (fun j=>j∈Z.map (·.1)) h' k->Reach t'.mask (fun i=>i∈(Z.take p++(j,(h,x)) :: Z.drop p).map (·.1)) h' k:=fun r=>by
   rw [e1];refine r.mono fun i _ hi=>?_;rw [(pm.map (·.1)).mem_iff];exact Ao _ hi
  rcases Ap.mp (pm.mem_iff.mp hz) with e | hz
  ·rw [e];exact up rN
  ·exact up (W.rch z hz)
theorem q04(m:Nat)(owner:Own):(live m owner).Pairwise (fun a b=>a.1 < b.1):=by
 unfold live;rw [List.pairwise_filterMap];refine List.Pairwise.imp (fun{a b} hab x hx y hy=>?_) List.pairwise_lt_range;rw [Aw] at hx hy;obtain⟨u,_,rfl⟩:=hx;obtain⟨v,_,rfl⟩:=hy;exact hab
theorem k87{t:SetTable}{es:Array (Int×Value)}{wanted:Nat}(hm:Pow (sizeAbove wanted))(hl:es.size<=sizeAbove wanted - 1) :
  ∃ t2 order Z,t.relaid (es.map (·.1)) wanted=some (t2,order)/\(order.filterMap (es[·]?)).size=es.size/\Wf t2 (order.filterMap (es[·]?)) Z/\(Z.map (·.2)).Perm es.toList/\t2.mask=sizeAbove wanted - 1:=by
 have hp:8<=sizeAbove wanted:=by rcases hm with h | h | h | h | h | h <;> omega
 have em:sizeAbove wanted - 1+1=sizeAbove wanted:=by omega
 obtain⟨o,e,L,R⟩:=q06 (mask:=sizeAbove wanted - 1) (by rw [em];exact hm) (es.map (·.1)) (by rw [Array.size_map];omega);rw [Array.size_map] at L;rw [show t.relaid (es.map (·.1)) wanted=laid (sizeAbove wanted - 1) t.finger (t.movedTo (sizeAbove wanted - 1)) t.led t.plain (es.map (·.1)) from rfl];generalize sizeAbove wanted - 1=mask at e L R em hl ⊢;have he:∀ p∈live (mask+1) o,p.2 < es.size/\p.1 < mask+1/\o[p.1]?=some (some p.2):=fun p hp=>by
  have:=mem_live.mp hp;exact⟨L.lt _ _ this.2,this.1,this.2⟩
 have ef:∀ l:List (Nat×Nat),(∀ p∈l,p.2 < es.size)->(l.map (·.2)).filterMap (es[·]?)=l.map fun p=>(es[p.2]?).getD (0,.none):=fun l=>by
  induction l with
  | nil=>intro _;rfl
  | cons p r ih=>
   intro hl;rw [Bc,Bc,Dr,Bx (hl p Au),ih fun q hq=>hl q (Ao _ hq)];rfl
 have ee:(((live (mask+1) o).map (·.2)).toArray.filterMap (es[·]?)).toList=(live (mask+1) o).map fun p=>(es[p.2]?).getD (0,.none):=by
  rw [Array.toList_filterMap];exact ef _ fun p hp=>(he p hp).1
 have es2:(((live (mask+1) o).map (·.2)).toArray.filterMap (es[·]?)).size=es.size:=by
  rw [<- Bw,ee,Aa,L.length]
 refine⟨_,_,(live (mask+1) o).map fun p=>(p.1,(es[p.2]?).getD (0,.none)),by unfold laid;rw [e];rfl,es2,⟨?_,?_,?_,fun z hz=>?_,?_,rfl,by show Pow (mask+1);rw [em];exact hm,fun z hz=>?_⟩,?_,rfl⟩
 ·show(live (mask+1) o).map (·.1)=_;rw [Cb];rfl
 ·rw [ee,Cb];rfl
 ·rw [Ep];exact q04 _ _
 ·obtain⟨p,hp,rfl⟩:=Ak.mp hz;show p.1<=mask;have:=(he p hp).2.1;omega
 ·rw [Aa,L.length];exact hl
 ·obtain⟨p,hp,rfl⟩:=Ak.mp hz;obtain⟨h1,h2,h3⟩:=he p hp;have hx:(es.map (·.1)).toList[p.2]?=some (es[p.2]).1:=by rw [Bb,Array.getElem?_map,Bx h1];rfl
  have eg:(es[p.2]?).getD (0,.none)=es[p.2]:=by rw [Bx h1];rfl
  show Reach mask _ ((es[p.2]?).getD (0,.none)).1 p.1;rw [eg];refine(R p.2 p.1 _ h3 hx).mono fun i hi hn=>?_;rw [Cb];have his:i < o.size:=by rw [L.size];omega
  have h4:o[i]?=some o[i]:=Bx his;cases h5:o[i] with
  | none=>
   rw [h5] at h4;have:=nil?_iff.mpr h4;rw [hn] at this;cases this
  | some v=>
   rw [h5] at h4;exact Ak.mpr ⟨(i,v),mem_live.mpr ⟨by omega,h4⟩,rfl⟩
 ·rw [Cb];have p1:((live (mask+1) o).map fun p=>(es[p.2]?).getD (0,.none))=((live (mask+1) o).map (·.2)).map fun v=>(es[v]?).getD (0,.none):=by rw [Cb];rfl
  show((live (mask+1) o).map fun p=>(es[p.2]?).getD (0,.none)).Perm _;rw [p1];refine(L.perm.map _).trans (List.Perm.of_eq ?_);apply Dx;intro i;rw [Ad]
  by_cases c:i < es.size
  ·rw [Ee c];show some ((es[i]?).getD (0,.none))=es.toList[i]?;rw [Bb,Bx c];rfl
  ·rw [Cv (by rw [Cw];omega),Bb,Dd (by omega)];rfl
end
end SetT
namespace SetT
open PySem SetTable
section
variable{prog:Program}{w:World}{K:Type} [DecidableEq K]
def ent(knd:HeapKind prog w K)(y:Nat×K×Addr):Ze:=(y.1,(knd.hash y.2.1,Value.ref y.2.2))
def j9f(knd:HeapKind prog w K):Prop:=∀{A:Around} {E:Value->Shared->Prop} {s:Shared} {k:K} {a:Addr} {Q:Bool->Shared->Prop},knd.is s.heap k a->Q false s->wpAny (model prog w) A (ofAClassStatement 8 (.ref a)) Q E s
variable{A:Around}{E:Value->Shared->Prop}{s:Shared}{a b:Addr}{knd:HeapKind prog w K}{k:K}{Y:List (Nat×K×Addr)}
theorem q1n{Q:Bool->Shared->Prop}(U:j9f knd)(hb:knd.is s.heap k b)(l:List Value)(hl:∀ v∈l,∃ k' c,v=Value.ref c/\knd.is s.heap k' c)(q:Q false s):wpAny (model prog w) A (searchCouldBeSeen (.ref b) l) Q E s:=by
 unfold searchCouldBeSeen;refine wpAny_bind (wpAny_forIn_list _ (fun rest r s'=>r.1=none/\s'=s/\∀ v∈rest,∃ k' c,v=Value.ref c/\knd.is s.heap k' c) _ ?_ ?_ l _ ⟨rfl,rfl,hl⟩)
 ·rintro v rest r s' ⟨hr,rfl,hv⟩;obtain⟨k',c,rfl,hc⟩:=hv v Au;have hrest:∀ v∈rest,∃ k' c,v=Value.ref c/\knd.is s'.heap k' c:=fun v h=>hv v (Ao _ h)
  dsimp only
  split
  ·exact wpAny_pure ⟨rfl,rfl,hrest⟩
  ·refine wpAny_bind (knd.quiet hb ?_);simp only [Dt,Ax,if_false];refine wpAny_bind (knd.quiet hc ?_);simp only [Dt,Ax,if_false];refine wpAny_bind (U hb ?_);simp only [Ax,if_false];refine wpAny_bind (U hc ?_);simp only [Ax,if_false];exact wpAny_pure ⟨rfl,rfl,hrest⟩
 ·rintro ⟨_,_⟩ s' ⟨rfl,rfl,_⟩;exact wpAny_pure q
theorem k8x{m:Nat}(h:Pow (m+1)):(m % 2 == 0)=false:=by
 rw [beq_eq_false_iff_ne]
 rcases h with h | h | h | h | h | h <;> omega
theorem j6g{adding:Bool}{o:Obj}{es:Array (Int×Value)}{ep:Nat}{t:SetTable}{N:Nat}{Q:SetFound->Shared->Prop}(U:j9f knd)(hA:knd.room A)(ho:s.heap.get? a=some o)(hd:o.data = .set es ep t)(W:Wf t es (Y.map (ent knd)))
  (hY:∀ y∈Y,knd.is s.heap y.2.1 y.2.2) (hb:knd.is s.heap k b) (S:Stop t.mask (Y.map (ent knd)) (knd.hash k) N)
  (k0:k∉Y.map (·.2.1)->Q (.free (pr t.mask (knd.hash k) N).j false) s) (k1:∀ oi,k∈Y.map (·.2.1)->(adding=false->oi.isSome=true)->Q (.there oi) s) :
  ∀(fuel m:Nat) (stand:Option Probe),stand.getD (t.probeStart (knd.hash k))=pr t.mask (knd.hash k) m->m<=N->N - m < fuel->(∀ l,l < m->∀ y∈Y,y.1=(pr t.mask (knd.hash k) l).j->y.2.1≠k) ->
   wpAny (model prog w) A (setSearchFrom a (.ref b) (knd.hash k) adding fuel stand) Q E s
 | 0,m,stand,_,_,hf,_=>absurd hf (Dq _)
 | fuel+1,m,stand,hs,hm,hf,hn=>by
  unfold setSearchFrom;refine wpAny_bind (wpAny_setState_of ho hd W.fits ?_)
  dsimp only
  rw [hs];have gw:t.gaveWay=false:=k8x W.pow;rw [gw];simp only [Ax,if_false];have hl:=S.lt;have G:=W.go (hashAt:=fun i=>(es[i]?.map (·.1)).getD 0) (fun i e he=>by show(es[i]?.map (·.1)).getD 0=e.1;rw [he];rfl) S (10 * turns t.mask) m hm (by omega)
  split
  ·rename_i met hmet
   rcases G with ⟨m',i,z,a1,a2,a3,a4,a5,a6,a7⟩ | ⟨a1,a2⟩
   ·have e2:=Option.some.inj (hmet.symm.trans a7);subst e2;rw [Ad,Aw] at a3;obtain⟨y,hy,rfl⟩:=a3;have hyY:y∈Y:=Av hy;have hZ:(Y.map (ent knd))[i]?=some (ent knd y):=by rw [Ad,hy];rfl
    have hsl:t.slot (pr t.mask (knd.hash k) m').j = .live i:=by rw [<- a4];exact W.slot_live hZ
    have hei:es[i]?=some (knd.hash y.2.1,Value.ref y.2.2):=(W.at hZ).2;have hsm:t.sameMemory t.moves t.mask=some true:=by unfold sameMemory;rw [if_pos (beq_self_eq_true _)]
    have hsame:∀(Q':Bool->Shared->Prop),Q' true s->wpAny (model prog w) A (isSame (.ref y.2.2) (.ref y.2.2)) Q' E s:=fun Q' q=>by
     unfold isSame;simp only;rw [if_pos (beq_self_eq_true _)];exact wpAny_pure q
    have again:y.2.1≠k->wpAny (model prog w) A (setSearchFrom a (.ref b) (knd.hash k) adding fuel (some (pr t.mask (knd.hash k) (m'+1)))) Q E s:=fun ne=>
     j6g U hA ho hd W hY hb S k0 k1 fuel (m'+1) (some (pr t.mask (knd.hash k) (m'+1))) rfl (by omega) (by omega) fun l hl' y' hy' ey'=>by
      by_cases c:l < m
      ·exact hn l c y' hy' ey'
      ·by_cases d:l=m'
       ·subst d;have:(ent knd y')=ent knd y:=by
         obtain⟨i',hi'⟩:=Az hy';have hZ':(Y.map (ent knd))[i']?=some (ent knd y'):=by rw [Ad,hi'];rfl
         have:=W.inj hZ' hZ (by show y'.1=(ent knd y).1;rw [a4];exact ey');subst this;rw [hZ] at hZ';exact(Option.some.inj hZ').symm
        have e3:y'.2.2=y.2.2:=by
         have:=congrArg (fun z:Ze=>z.2.2) this;exact Value.ref.inj this
        have h1:=hY y' hy';rw [e3] at h1;rw [knd.inj h1 (hY y hyY)];exact ne
       ·intro ek;refine a6 l (by omega) (by omega) (ent knd y') (Ak.mpr ⟨y',hy',rfl⟩) ey' ?_;show knd.hash y'.2.1=knd.hash k;rw [ek]
    dsimp only
    split
    all_goals
     try
      refine wpAny_bind (q1n U hb _ ?hm ?_)
      case hm=>
       intro v hv;obtain⟨e,he,rfl⟩:=Ak.mp hv;rw [Array.toList_filter,Cf,W.ents] at he;obtain⟨z,hz,rfl⟩:=Ak.mp he.1;obtain⟨y',hy',rfl⟩:=Ak.mp hz;exact⟨y'.2.1,y'.2.2,rfl,hY y' hy'⟩
      simp only [Ax,if_false]
     rw [hei]
     dsimp only
     refine wpAny_bind (wpAny_holding (knd.eqBool hA (hY y hyY) hb ?_));refine wpAny_bind (wpAny_setState_of ho hd W.fits ?_)
     dsimp only
     rw [hsm,hsl]
     dsimp only
     rw [if_pos (rfl:true=true)]
     dsimp only
     rw [hei]
     dsimp only
     by_cases ek:y.2.1=k
     ·have hin:k∈Y.map (·.2.1):=Ak.mpr ⟨y,hyY,ek⟩;rw [decide_eq_true ek];cases adding with
      | true=>
       simp only [Bool.and_self,if_true];exact wpAny_pure (k1 none hin fun z=>nomatch z)
      | false=>
       simp only [Bool.false_and,Ax,if_false,if_true];refine wpAny_bind (hsame _ ?_);refine wpAny_bind (wpAny_pure ?_);simp only [if_true];exact wpAny_pure (k1 (some i) hin fun _=>rfl)
     ·rw [decide_eq_false ek];simp only [Bool.and_false,Ax,if_false,if_true];refine wpAny_bind (hsame _ ?_);refine wpAny_bind (wpAny_pure ?_);simp only [if_true];exact again ek
   ·have e2:=Option.some.inj (hmet.symm.trans a2);subst e2
    dsimp only
    refine wpAny_pure (k0 fun hk=>?_);obtain⟨y,hy,ey⟩:=Ak.mp hk;have hz:ent knd y∈Y.map (ent knd):=Ak.mpr ⟨y,hy,rfl⟩;obtain⟨n,e1,e2⟩:=W.rch _ hz;have eh:(ent knd y).2.1=knd.hash k:=by show knd.hash y.2.1=_;rw [ey]
    rw [eh] at e1 e2;have hnN:n < N:=by
     refine Classical.byContradiction fun c=>?_
     rcases Cj N n with d | d
     ·exact S.out (e2 N d)
     ·have:n=N:=by omega
      subst this;exact S.out (by rw [e1];exact Ak.mpr ⟨_,hz,rfl⟩)
    by_cases c:n < m
    ·exact hn n c y hy e1.symm ey
    ·exact a1 n (by omega) hnN _ hz e1.symm eh
  ·rename_i hno
   rcases G with ⟨m',i,z,a1,a2,a3,a4,a5,a6,a7⟩ | ⟨a1,a2⟩
   ·exact absurd a7 (hno _)
   ·exact absurd a2 (hno _)
end
end SetT
namespace SetT
open PySem SetTable
section
variable{prog:Program}{w:World}{K:Type} [DecidableEq K]
def Way3(m:Nat):Prop:=m=7\/m=31\/m=127\/m=511
def j4r(knd:HeapKind prog w K)(h:Heap)(a:Addr)(Y:List (Nat×K×Addr)):Prop:=
 ∃ o es ep t,h.get? a=some o/\o.ExactSet/\o.data = .set es ep t/\Wf t es (Y.map (ent knd))/\Y.length * 5 < t.mask * 3/\Way3 t.mask
def q0d(knd:HeapKind prog w K):Prop:=∀{A:Around} {E:Value->Shared->Prop} {s:Shared} {k:K} {a:Addr} {Q:Bool->Shared->Prop},knd.is s.heap k a->(∀ b,Q b s)->wpAny (model prog w) A (hashByValue 8 (.ref a)) Q E s
variable{A:Around}{E:Value->Shared->Prop}{s:Shared}{a b:Addr}{knd:HeapKind prog w K}{k:K}{Y:List (Nat×K×Addr)}
theorem k1g{es:Array (Int×Value)}:byScan (.ref b) es=false:=by
 unfold byScan;rfl
theorem k8z{Q:Option Nat->Shared->Prop}(U:j9f knd)(hA:knd.room A)(S:j4r knd s.heap a Y)(hY:∀ y∈Y,knd.is s.heap y.2.1 y.2.2)(hb:knd.is s.heap k b)
  (k0:k∉Y.map (·.2.1)->Q none s) (k1:∀ i,k∈Y.map (·.2.1)->Q (some i) s):wpAny (model prog w) A (setFind a (.ref b) (knd.hash k)) Q E s:=by
 obtain⟨o,es,ep,t,ho,hx,hd,W,_⟩:=S;obtain⟨N,SN⟩:=W.stop (knd.hash k);have hl:=SN.lt;have hm:=W.pow.pos.2;unfold setFind setFindIn;refine wpAny_bind (wpAny_setState_of ho hd W.fits ?_)
 dsimp only
 rw [k1g];simp only [Ax,if_false];refine wpAny_bind ?_;refine j6g (adding:=false) U hA ho hd W hY hb SN (fun hk=>?_) (fun oi hk hs=>?_) 100000 0 none (k1m t _) (Bn _) (by unfold turns at hl;omega) (fun l hl'=>absurd hl' (Dq _))
 ·exact wpAny_pure (k0 hk)
 ·cases oi with
  | none=>exact absurd (hs rfl) Al
  | some i=>exact wpAny_pure (k1 i hk)
theorem q1t{m:Nat}(h:Way3 m):Pow (m+1):=by
 unfold Way3 at h;unfold Pow
 rcases h with rfl | rfl | rfl | rfl <;> decide
theorem q1d{m n:Nat}(hw:Way3 m)(h1:(n - 1) * 5 < m * 3)(h2:n * 5>=m * 3)(h0:1<=n)(h3:n<=300):Way3 (sizeAbove (grown n) - 1)/\n<=sizeAbove (grown n) - 1/\n * 5 < (sizeAbove (grown n) - 1) * 3:=by
 rcases hw with h | h | h | h
 ·have:n=5:=by omega
  subst this;unfold Way3;decide +kernel
 ·have:n=19:=by omega
  subst this;unfold Way3;decide +kernel
 ·have:n=77:=by omega
  subst this;unfold Way3;decide +kernel
 ·omega
theorem k6j{o:Obj}{ep:Nat}{es es':Array (Int×Value)}{t t':SetTable}{h:Heap}{Y':List (Nat×K×Addr)}(ho:h.get? a=some o)(hx:o.ExactSet)(hd:o.data = .set es ep t)(W':Wf t' es' (Y'.map (ent knd))) :
  (h.update a (Obj.putSet es' t')).get? a=some {o with data:= .set es' (ep+1) t'}:=by
 have q:=Cm (Obj.putSet es' t') ho (by rw [putSet_of es' t' hd];rfl);rw [putSet_of es' t' hd] at q;exact q
theorem j9n{α β:Type}{f:α->β}{L M:List β}(h:L.Perm M):∀{Y':List α},Y'.map f=M->∃ Y2:List α,L=Y2.map f/\Y2.Perm Y':=by
 induction h with
 | nil=>
  intro Y' hM;have:Y'=[]:=by simpa using hM
  subst this;exact⟨[],rfl,.refl _⟩
 | cons x p ih=>
  intro Y' hM;cases Y' with
  | nil=>cases hM
  | cons y r=>
   rw [Bc] at hM
   injection hM with e1 e2
   subst e1;obtain⟨Y2,e3,p2⟩:=ih e2;exact⟨y :: Y2,by rw [e3];rfl,p2.cons y⟩
 | swap x y l=>
  intro Y' hM;cases Y' with
  | nil=>cases hM
  | cons u r=>
   cases r with
   | nil=>cases hM
   | cons v r=>
    rw [Bc,Bc] at hM
    injection hM with e1 e2
    injection e2 with e2 e3
    subst e1 e2 e3;exact⟨v :: u :: r,rfl,.swap _ _ _⟩
 | trans p1 p2 ih1 ih2=>
  intro Y' hM;obtain⟨Y2,e2,q2⟩:=ih2 hM;obtain⟨Y3,e3,q3⟩:=ih1 e2.symm;exact⟨Y3,e3,q3.trans q2⟩
theorem glue:∀{Z:List Ze} {Y:List (Nat×K×Addr)},Z.map (·.2)=Y.map (fun y=>(ent knd y).2)->∃ Y2:List (Nat×K×Addr),Z=Y2.map (ent knd)/\Y2.map (·.2)=Y.map (·.2)
 | [],[],_=>⟨[],rfl,rfl⟩
 | [],_ :: _,h=>by cases h
 | _ :: _,[],h=>by cases h
 | z :: Z,y :: Y,h=>by
  rw [Bc,Bc] at h
  injection h with h1 h2
  obtain⟨Y2,e1,e2⟩:=glue h2;refine⟨(z.1,y.2) :: Y2,?_,by rw [Bc,Bc,e2]⟩;rw [Bc,<- e1]
  congr 1
  show z=(z.1,(ent knd y).2);rw [<- h1]
theorem q3s{Q:Bool->Shared->Prop}(U:j9f knd)(HB:q0d knd)(hA:knd.room A)(S:j4r knd s.heap a Y)(hY:∀ y∈Y,knd.is s.heap y.2.1 y.2.2)(hb:knd.is s.heap k b)(hl:Y.length+1<=300)
    (q0:k∈Y.map (·.2.1)->Q false s) (q1:∀ h' Y',k∉Y.map (·.2.1)->Heap.SameBut a s.heap h'->j4r knd h' a Y'->(Y'.map (·.2)).Perm ((k,b) :: Y.map (·.2))->Q true {s with heap:=h'}) :
    wpAny (model prog w) A (setAddHashed a (.ref b) (knd.hash k)) Q E s:=by
  obtain⟨o,es,ep,t,ho,hx,hd,W,slack,hw⟩:=S;obtain⟨N,SN⟩:=W.stop (knd.hash k);have hlt:=SN.lt;have hm:=W.pow.pos;have eZ:(Y.map (ent knd)).length=Y.length:=Aa ..;unfold setAddHashed setAddHashedIn;refine wpAny_holding (wpAny_bind (wpAny_setState_of ho hd W.fits ?_))
  dsimp only
  rw [k1g];simp only [Ax,if_false];refine wpAny_bind ?_;refine j6g (adding:=true) U hA ho hd W hY hb SN (fun hk=>?_) (fun oi hk hs=>?_) 100000 0 none (k1m t _) (Bn _) (by unfold turns at hlt;omega) (fun l hl'=>absurd hl' (Dq _))
  · dsimp only
    refine wpAny_bind (wpAny_setState_of ho hd W.fits ?_)
    dsimp only
    have put:=fun(t':SetTable) e1 e2 e3=>W.put (x:= .ref b) SN (t':=t') e1 e2 e3 (by rw [eZ];omega);have fin:∀ t':SetTable,t'.mask=t.mask->t'.place=(t.put (pr t.mask (knd.hash k) N).j).1.place->t'.dummies=#[]->wpAny (model prog w) A (do
        storeSet a (insertAt es (t.put (pr t.mask (knd.hash k) N).j).2 (knd.hash k,.ref b)) t'
        if (!false && t'.tooFull) = true then do
            setRelay a (grown (es.size+1))
            pure true
          else pure true) Q E s:=fun t' e1 e2 e3=>by
      obtain⟨Z',W',pZ⟩:=put t' e1 e2 e3;obtain⟨Y2,eY2,pY2⟩:=j9n pZ (f:=ent knd) (Y':=((pr t.mask (knd.hash k) N).j,k,b) :: Y) rfl;subst eY2;have lY2:Y2.length=Y.length+1:=pY2.length_eq;have lE:=W'.len;rw [Aa] at lE;have pk:(Y2.map (·.2)).Perm ((k,b) :: Y.map (·.2)):=pY2.map (·.2);generalize insertAt es (t.put (pr t.mask (knd.hash k) N).j).2 (knd.hash k,.ref b)=es1 at W' lE ⊢;refine wpAny_bind (wpAny_storeSet_of ho hd ?_ (j8b (by omega)));have g1:=k6j (knd:=knd) (Y':=Y2) ho hx hd W';have sb:=Heap.SameBut.update s.heap a (Obj.putSet es1 t');have hfill:t'.fill=Y2.length:=by
        unfold fill;rw [W'.plen,e3,Aa];rfl
      by_cases full:t'.tooFull=true
      · rw [full];simp only [Fz,Bool.and_self,if_true];unfold tooFull at full;rw [decide_eq_true_eq,hfill,e1] at full;obtain⟨w1,w2,w3⟩:=q1d (n:=es.size+1) hw (by rw [W.len,eZ];omega) (by rw [W.len,eZ];omega) (by omega) (by rw [W.len,eZ];omega);have en:es.size+1=es1.size:=by rw [lE,lY2,W.len,eZ]
        rw [en] at w1 w2 w3 ⊢;have hp8:sizeAbove (grown es1.size) - 1+1=sizeAbove (grown es1.size):=by unfold Way3 at w1;omega
        have pw:=q1t w1;rw [hp8] at pw;obtain⟨t2,order,Z3,r1,r2,r3,r4,r5⟩:=k87 (t:=t') (es:=es1) pw w2;refine wpAny_bind ?_;unfold setRelay;refine wpAny_bind (wpAny_setState_of g1 rfl W'.fits ?_)
        dsimp only
        have hbig:¬(sizeAbove (grown es1.size) > sizeLine):=by
          have:=pw.pos.2;rw [sizeLine_eq];omega
        rw [if_neg hbig,r1];refine wpAny_bind ?_;show wpAny _ _ (if((order.filterMap (es1[·]?)).size != es1.size)=true then _ else _) _ _ _;rw [if_neg (by rw [r2];simp)];refine wpAny_pure ?_;refine wpAny_storeSet_of g1 rfl ?_ (by rw [r2];exact j8b (by omega));refine wpAny_pure ?_;rw [W'.ents,Cb] at r4;obtain⟨Y4,eY4,pY4⟩:=j9n r4 (f:=fun y=>(ent knd y).2) (Y':=Y2) rfl;obtain⟨Y5,eY5,pY5⟩:=glue eY4;subst eY5;have hx2:({o with data:= .set es1 (ep+1) t'}:Obj).ExactSet:=hx;have g2:=k6j (knd:=knd) (Y':=Y5) g1 hx2 rfl r3;have lY5:Y5.length=Y2.length:=by
          have:=congrArg List.length pY5;rw [Aa,Aa,pY4.length_eq] at this;exact this
        refine q1 _ Y5 hk (sb.trans (Heap.SameBut.update _ a _)) ⟨_,_,_,t2,g2,hx2,rfl,r3,by rw [r5,lY5,<- lE];exact w3,by rw [r5];exact w1⟩ ?_;rw [pY5];exact(pY4.map (·.2)).trans pk
      · rw [Bool.not_eq_true] at full;rw [full];simp only [Bool.and_false,Ax,if_false];refine wpAny_pure (q1 _ Y2 hk sb ⟨_,es1,ep+1,t',g1,hx,rfl,W',?_,by rw [e1];exact hw⟩ pk);unfold tooFull at full;rw [decide_eq_false_iff_not,hfill] at full;omega
    have dm:(t.put (pr t.mask (knd.hash k) N).j).1.dummies=#[]:=by
      show(if has t.dummies _=true then _ else t.dummies)=#[];rw [W.dum];rfl
    split
    · refine wpAny_bind (HB hb fun bv=>?_);cases bv with
      | true=>exact fin (t.put (pr t.mask (knd.hash k) N).j).1 rfl rfl dm
      | false=>exact fin {(t.put (pr t.mask (knd.hash k) N).j).1 with plain:=false} rfl rfl dm
    · exact wpAny_bind (wpAny_pure (fin (t.put (pr t.mask (knd.hash k) N).j).1 rfl rfl dm))
  · dsimp only
    exact wpAny_pure (q0 hk)
end
section
variable{prog:Program}{w:World}{K:Type} [DecidableEq K] {knd:KeyKind prog w K}
theorem k9q{v:Value}(h:carriedByValue v=true):ofAClassStatement 7 v=pure false:=by
 cases v <;> first | rfl | exact absurd h (by decide) | (unfold carriedByValue at h;cases h)
theorem k9i{v:Value}(h:carriedByValue v=true):∃ b,hashByValue 7 v=pure b:=by
 cases v <;> first | exact⟨_,rfl⟩ | exact absurd h (by decide) | (unfold carriedByValue at h;cases h)
theorem j45:j9f (tupleKind knd):=by
 intro A E s k a Q hk q;have hT:=IsTupleKey.typeIs hk;obtain⟨o,items,n,ho,hc,hd,hi⟩:=hk;unfold ofAClassStatement;refine wpAny_bind (wpAny_typeOf hT ?_)
 dsimp only
 refine wpAny_bind (wpAny_pure ?_);simp only [Dt,Ax,if_false];refine wpAny_bind (wpAny_seqItems ho hd ?_)
 dsimp only
 refine wpAny_bind ?_;rw [<- Array.forIn_toList];refine wpAny_forIn_list _ (fun rest r s'=>r.1=none/\s'=s/\∀ v∈rest,carriedByValue v=true) _ ?_ ?_ _ _ ⟨rfl,rfl,hi.byValue⟩
 ·rintro v rest r s' ⟨hr,rfl,hall⟩;rw [k9q (hall v Au)];refine wpAny_bind (wpAny_pure ?_);simp only [Ax,if_false];exact wpAny_pure ⟨rfl,rfl,fun u hu=>hall u (Ao _ hu)⟩
 ·rintro ⟨r1,r2⟩ s' ⟨hr,rfl,_⟩;simp only at hr;subst hr;exact wpAny_pure q
theorem j9t:q0d (tupleKind knd):=by
 intro A E s k a Q hk q;have hT:=IsTupleKey.typeIs hk;obtain⟨o,items,n,ho,hc,hd,hi⟩:=hk;unfold hashByValue;refine wpAny_bind (wpAny_specialOf hT F.slot_tuple_hash.lookup ?_)
 dsimp only
 refine wpAny_bind (wpAny_seqItems ho hd ?_);refine wpAny_bind ?_;show wpAny _ _ (forIn items _ _) _ _ s;rw [<- Array.forIn_toList];refine wpAny_forIn_list _ (fun rest r s'=>s'=s/\∀ v∈rest,carriedByValue v=true) _ ?_ ?_ _ _ ⟨rfl,hi.byValue⟩
 ·rintro v rest r s' ⟨rfl,hall⟩;obtain⟨b,eb⟩:=k9i (hall v Au);rw [eb];refine wpAny_bind (wpAny_pure ?_);cases b with
  | true=>
   simp only [Dt,Ax,if_false];exact wpAny_pure ⟨rfl,fun u hu=>hall u (Ao _ hu)⟩
  | false=>
   simp only [Fz,if_true];exact wpAny_pure (by first | exact wpAny_pure (q _) | trace_state)
 ·rintro ⟨r1,r2⟩ s' ⟨rfl,_⟩;cases r1 with
  | none=>exact wpAny_pure (q _)
  | some r=>exact wpAny_pure (q _)
end
end SetT
namespace L2
open PySem PySem.Spec PyProof.Rows SetT
open Classical
abbrev Yt:=Nat×List Key×Addr
def j5b(prog:Program)(w:World)(a:Addr)(Y:List Yt):HO:= .ext fun h=>j4r (tupleKind (j0p prog w)) h a Y
section
variable{prog:Program}{w:World}{A:Around}{E:Value->Shared->Prop}{s:Shared}{a b:Addr}{Y:List Yt}{k:List Key}
theorem q3h{h h':Heap}(S:j4r (tupleKind (j0p prog w)) h a Y)(q:∀ o,h.get? a=some o->h'.get? a=some o):j4r (tupleKind (j0p prog w)) h' a Y:=let ⟨o,es,ep,t,h1,h2⟩:=S;⟨o,es,ep,t,q o h1,h2⟩
theorem j99(S:j4r (tupleKind (j0p prog w)) s.heap a Y):s.TypeIs (.ref a) "set":=let ⟨o,_,_,_,h1,h2,_⟩:=S;⟨o,h1,h2.1⟩
theorem q5q{h:Heap}(e:h.get? a=some (j47 w)):j4r (tupleKind (j0p prog w)) h a []:=
 ⟨_,#[],0,_,e,⟨rfl,rfl,rfl⟩,rfl,⟨rfl,rfl,List.Pairwise.nil,fun z hz=>(by cases hz),by show 0<=7;decide,rfl,.inl rfl,fun z hz=>(by cases hz)⟩,by show 0 * 5 < 7 * 3;decide,.inl rfl⟩
theorem k23{Q:Value->Shared->Prop}(hu:A.units+1 < cLine)(S:j4r (tupleKind (j0p prog w)) s.heap a Y)(hY:∀ y∈Y,(tupleKind (j0p prog w)).is s.heap y.2.1 y.2.2)(hb:(tupleKind (j0p prog w)).is s.heap k b)
  (h:∀ tk,Q (.bool (decide (k∉Y.map (·.2.1)))) {s with toks:=tk}):wpAny (model prog w) A (compareOp .NotIn (.ref b) (.ref a)) Q E s:=by
 have hT:=j99 S;show wpAny _ _ (do return .bool (!(<- contains (.ref a) (.ref b)))) Q E s;refine wpAny_bind ?_;unfold contains
 try with_reducible refine wpAny_holding ?_
 refine wpAny_bind (wpAny_specialOf hT PySem.F.slot_set_contains.lookup ?_);show wpAny _ _ (if(some (Value.builtin "set.__contains__") == some Value.none)=true then _ else _) _ E s;rw [if_neg (by rw [beq_builtin_none];exact Al)];refine wpAny_bind (wpAny_callSpecialUnlessNone?_slot (name:=Str.ofString "__contains__") hT PySem.F.slot_set_contains (wpAny_call_entry PySem.F.slot_set_contains hT entry_set_contains ?_ (PySem.F.args_set_contains_2 _ _)));unfold Builtin.«frozenset.__contains__» Builtin.Frozenset.oneOther;simp only [Fq,bind_assoc];unfold Builtin.Frozenset.addrOf Builtin.Frozenset.withSetAsKey setContains;refine wpAny_bind (wpAny_pure ?_)
 try dsimp only
 refine wpAny_bind (wpAny_pure ?_)
 try dsimp only
 refine wpAny_bind (wpAny_tryCatch (wpAny_holding ?_));refine wpAny_bind ((tupleKind (j0p prog w)).pyHash (k:=k) (tupleKind_room_in1 hu) hb ?_);refine wpAny_bind (k8z (s:={s with toks:=s.toks+(tupleKind (j0p prog w)).draws k}) j45 (tupleKind_room_in1 hu) S hY hb (fun hz=>?_) (fun j hz=>?_))
 ·refine wpAny_pure ?_;show wpAny _ _ (ret (Value.bool false)) _ _ _;have h:=h (s.toks+(tupleKind (j0p prog w)).draws k);rw [decide_eq_true hz] at h;exact wpAny_pure ⟨_,rfl,wpAny_truthy_bool (wpAny_pure h)⟩
 ·refine wpAny_pure ?_;show wpAny _ _ (ret (Value.bool true)) _ _ _;have h:=h (s.toks+(tupleKind (j0p prog w)).draws k);rw [decide_eq_false (not_not_intro hz)] at h;exact wpAny_pure ⟨_,rfl,wpAny_truthy_bool (wpAny_pure h)⟩
theorem k36{Q:Value->Shared->Prop}(hu:A.units+1 < cLine)(S:j4r (tupleKind (j0p prog w)) s.heap a Y)(hY:∀ y∈Y,(tupleKind (j0p prog w)).is s.heap y.2.1 y.2.2)(hb:(tupleKind (j0p prog w)).is s.heap k b)(hl:Y.length+1<=300)
  (h:∀ h' tk Y',Heap.SameBut a s.heap h'->j4r (tupleKind (j0p prog w)) h' a Y'->(Y'.map (·.2)).Perm (if k∈Y.map (·.2.1) then Y.map (·.2) else(k,b) :: Y.map (·.2))->Q .none {s with heap:=h',toks:=tk}) :
  wpAny (model prog w) A (call (.builtin "set.add") [.ref a,.ref b]) Q E s:=by
 have hT:=j99 S;refine wpAny_call_entry F.slot_set_add hT F.entry_set_add ?_ (F.args_set_add_2 _ _);unfold Builtin.«set.add» Builtin.Frozenset.oneOther;simp only [Fq,bind_assoc];unfold Builtin.Frozenset.addrOf setAdd;refine wpAny_bind (wpAny_pure ?_)
 try dsimp only
 refine wpAny_bind (wpAny_pure ?_)
 try dsimp only
 refine wpAny_bind ?_;refine wpAny_holding ?_;refine wpAny_bind ((tupleKind (j0p prog w)).pyHash (k:=k) (tupleKind_room_in1 hu) hb ?_);refine q3s (s:={s with toks:=s.toks+(tupleKind (j0p prog w)).draws k}) j45 j9t (tupleKind_room_in1 hu) S hY hb hl (fun hk=>?_) (fun h' Y' hk sb S' p=>?_)
 ·show wpAny _ _ (ret Value.none) _ _ _;exact wpAny_pure ⟨_,rfl,h s.heap _ Y (Heap.SameBut.refl a s.heap) S (by rw [if_pos hk])⟩
 ·show wpAny _ _ (ret Value.none) _ _ _;exact wpAny_pure ⟨_,rfl,h h' _ Y' sb S' (by rw [if_neg hk];exact p)⟩
end
section
variable{X:Cx}{σ:St}{H:Hp}{Q:VK}{pins:List (Addr×Obj)}{s:Shared}{a b:Addr}{Y:List Yt}
theorem k1l{h:Heap}(S:j4r (tupleKind (j0p X.prog X.w)) h a Y):ObjOk X.prog X.w H h a (j5b X.prog X.w a Y):=by
 refine⟨S,?_,fun h1 h2 q k=>q3h q k⟩;obtain⟨o,_,_,_,ho,_⟩:=S;exact⟨o,ho⟩
theorem Inv.setT(I:Inv X pins σ H s)(h:H a=some (j5b X.prog X.w a Y)):j4r (tupleKind (j0p X.prog X.w)) s.heap a Y:=(I.hok a _ h).1
structure TsAt(prog:Program)(w:World)(H:Hp)(a:Addr)(ks:List (List Key)):Prop where
 ex:∃ Y,H a=some (j5b prog w a Y)/\(∀ y∈Y,H y.2.2=some (.tup (y.2.1.map kV)))/\(Y.map (·.2.1)).Perm ks
theorem TsAt.same{prog:Program}{w:World}{H H':Hp}{ks:List (List Key)}(h:TsAt prog w H a ks)(s:Same H H'):TsAt prog w H' a ks:=let ⟨Y,h1,h2,h3⟩:=h.ex;⟨Y,s _ _ h1,fun y hy=>s _ _ (h2 y hy),h3⟩
theorem TsAt.keep{prog:Program}{w:World}{H H':Hp}{ks:List (List Key)}(h:TsAt prog w H a ks)(k1:H' a=H a)(k2:∀ b xs,H b=some (.tup xs)->H' b=some (.tup xs)):TsAt prog w H' a ks:=let ⟨Y,h1,h2,h3⟩:=h.ex;⟨Y,by rw [k1];exact h1,fun y hy=>k2 _ _ (h2 y hy),h3⟩
theorem TsAt.ne{prog:Program}{w:World}{H:Hp}{ks:List (List Key)}{o:HO}(h:TsAt prog w H a ks)(e:H b=some o)(ho:∀ φ,o ≠ .ext φ):b≠a:=fun q=>by
 obtain⟨Y,h1,_⟩:=h.ex;rw [q,h1] at e;exact ho _ (Option.some.inj e).symm
theorem TsAt.some{prog:Program}{w:World}{H:Hp}{ks:List (List Key)}(h:TsAt prog w H a ks):H a≠none:=fun q=>by
 obtain⟨Y,h1,_⟩:=h.ex;rw [q] at h1;cases h1
theorem k9d{p pos:Pos}(hm:X.mg "set" = none)(h:∀ D,H D=none->Q (.ref D) (upd H D (j5b X.prog X.w D [])))(hg:Gl X "set":=by rfl):Ev X (.Call (.Name "set" p) [] [] pos) σ H Q:=by
 refine⟨fun pins s I=>Call_ (j44 I hg hm PyProof.Rows.boot_set (PyProof.Rows.callWith_type0 (k5b ?_)))⟩;exact⟨.ref s.heap.objs.size,_,I.laid (t':=s.toks) (fun b o e=>Ae _ e) (Ah _) (k1l (q5q (Am _ rfl))),rfl,h _ I.fresh⟩
theorem ts_new{prog:Program}{w:World}{D:Addr}:TsAt prog w (upd H D (j5b prog w D [])) D []:=⟨[],j0b,fun y hy=>(by cases hy),.refl _⟩
theorem j8a(hu:X.A.units+1 < cLine):OpR X (compareOp .NotIn) (fun x y H Q=>∃ k b a ks,x = .ref b/\y = .ref a/\H b=some (.tup (k.map kV))/\TsAt X.prog X.w H a ks/\Q (.bl (decide (k∉ks))) H):=by
 intro pins s σ H x y v u Q I rx ry h;obtain⟨k,b,a,ks,rfl,rfl,hb,T,q⟩:=h;obtain⟨Y,h1,h2,h3⟩:=T.ex;cases (show v=Value.ref b from rx);cases (show u=Value.ref a from ry);refine k23 hu (Inv.setT I h1) (fun y hy=>j33 I.hok (h2 y hy)) (j33 I.hok hb) fun tk=>⟨.bl (decide (k∉ks)),H,I.tok _,?_,q⟩;show Value.bool _=Value.bool _
 congr 1
 exact decide_eq_decide.mpr (not_congr h3.mem_iff)
theorem q3c{o e:Expr}{ap cp:Pos}(hu:X.A.units+1 < cLine) (h:Ev X o σ H fun x H1=>∃ a,x = .ref a/\(∃ ks,TsAt X.prog X.w H1 a ks)/\Ev X e σ H1 fun y H2=>∃ k b ks,y = .ref b/\H2 b=some (.tup (k.map kV))/\TsAt X.prog X.w H2 a ks/\ks.length+1<=300 /\
   ∀ oo,TsAt X.prog X.w (upd H2 a oo) a (if k∈ks then ks else k :: ks)->Q .non (upd H2 a oo))
  (hbase:attributeBase o "add" X.env (eval o X.env)=eval o X.env:=by rfl)
  (hfew:((backTo cp (starEach [e] X.env)).all (fun x=>!x.1) && (backToKw cp (keywordEach [] X.env)).all (fun x=>x.1.isSome) && decide ([e].length+([]:List Keyword).length+(if([]:List Keyword).isEmpty then 0 else 1) < 30))=true:=by rfl)
  (hline:(ap.endLine == cp.line)=true:=by rfl) (hs:starEach [e] X.env=(false,eval e X.env) :: starEach [] X.env:=by rfl) (hst:isStar e=false:=by rfl):Ev X (.Call (.Attribute o "add" ap) [e] [] cp) σ H Q:=by
 refine⟨fun pins s I=>wpAny_Call_method_late hbase hfew hline rfl (thn (h.run pins s I) fun v s1 ⟨x,H1,I1,r1,a,ex,⟨ks,hA⟩,h2⟩=>?_)⟩;subst ex;cases (show v=Value.ref a from r1);obtain⟨Y0,g1,_⟩:=hA.ex;have S:=Inv.setT I1 g1;refine⟨"set","set.add",PySem.F.plainAttrs_set,PySem.F.slot_set_add,PySem.F.type_set_add,j99 S,fun b eb=>?_,?_⟩
 ·cases eb;obtain⟨o,_,_,_,ho,hx,_⟩:=S;exact⟨o,ho,hx.2.1⟩
 have hE:Ea X [e] σ H1 (fun ys H2=>∃ k b ks,ys=[.ref b]/\H2 b=some (.tup (k.map kV))/\TsAt X.prog X.w H2 a ks/\ks.length+1<=300/\∀ oo,TsAt X.prog X.w (upd H2 a oo) a (if k∈ks then ks else k :: ks)->Q .non (upd H2 a oo)):=
  j0a (h2.mono fun y H2 ⟨k,b,ks,ey,q⟩=>j0c ⟨k,b,ks,by rw [ey],q⟩) hst
 have hA2:=hE.run cp pins s1 I1;rw [hs] at hA2 ⊢;refine Calls.callWith_builtin rfl (Calls.evalArgs_plain ?_);refine thn hA2 fun us s2 ⟨vs,H2,I2,r2,k,b,ks,ev,hb,T,hl,q⟩=>?_;subst ev;obtain⟨u,rfl,ru⟩:=vals1 r2;cases (show u=Value.ref b from ru);obtain⟨Y,g1,g2,g3⟩:=T.ex;have hlY:Y.length=ks.length:=by
  have:=g3.length_eq;rw [Aa] at this;exact this
 refine k36 hu (Inv.setT I2 g1) (fun y hy=>j33 I2.hok (g2 y hy)) (j33 I2.hok hb) (by omega) fun h' tk Y' sb S' p=>?_;refine⟨.non,_,j3i (t':=tk) I2 (by rw [g1];exact True.intro) sb ?_ (k1l S'),rfl,q _ ?_⟩
 ·obtain⟨o,_,_,_,ho,_⟩:=S';exact⟨o,ho⟩
 ·have nt:∀{c:Addr} {xs:List V},H2 c=some (.tup xs)->c≠a:=fun e z=>by
   rw [z,g1] at e;cases e
  refine⟨Y',j0b,fun y hy=>?_,?_⟩
  ·have hm:y.2∈(if k∈Y.map (·.2.1) then Y.map (·.2) else(k,b) :: Y.map (·.2)):=p.mem_iff.mp (Ak.mpr ⟨y,hy,rfl⟩);have old:y.2∈Y.map (·.2)->(upd H2 a (j5b X.prog X.w a Y')) y.2.2=some (.tup (y.2.1.map kV)):=fun hm=>by
    obtain⟨z,hz,ez⟩:=Ak.mp hm;rw [<- ez,j0d (nt (g2 z hz))];exact g2 z hz
   split at hm
   ·exact old hm
   ·rcases Ap.mp hm with e | hm
    ·rw [e,j0d (nt hb)];exact hb
    ·exact old hm
  ·have p2:=p.map (·.1);rw [Cb] at p2;refine p2.trans ?_
   by_cases c:k∈Y.map (·.2.1)
   ·rw [if_pos c,if_pos (g3.mem_iff.mp c),Cb];exact g3
   ·rw [if_neg c,if_neg (fun z=>c (g3.mem_iff.mpr z)),Bc,Cb];exact g3.cons k
end
end L2
namespace R4
open PySem L2 Nt Sort2 SetT
def AtE(n:Net)(H:Hp)(ts:List Addr)(es:List Nt.End):Prop:=ts.length=es.length/\∀(j:Nat) t e,ts[j]?=some t->es[j]?=some e->H t=some (TN n e)
theorem AtE.keep{n:Net}{H H':Hp}{ts:List Addr}{es:List Nt.End}(h:AtE n H ts es)(k:∀ t p j,H t=some (Tn p j)->H' t=some (Tn p j)):AtE n H' ts es:=⟨h.1,fun j t e h1 h2=>k _ _ _ (h.2 j t e h1 h2)⟩
theorem AtE.same{n:Net}{H H':Hp}{ts:List Addr}{es:List Nt.End}(h:AtE n H ts es)(s:Same H H'):AtE n H' ts es:=h.keep fun _ _ _ q=>s _ _ q
theorem AtE.append{n:Net}{H:Hp}{ts us:List Addr}{es fs:List Nt.End}(h:AtE n H ts es)(g:AtE n H us fs):AtE n H (ts++us) (es++fs):=by
 refine⟨by rw [Af,Af,h.1,g.1],fun j t e h1 h2=>?_⟩;have hl:=h.1
 by_cases hj:j < ts.length
 ·rw [Ar hj] at h1;rw [Ar (by omega)] at h2;exact h.2 j t e h1 h2
 ·rw [Ay (by omega)] at h1 h2;rw [<- hl] at h2;exact g.2 _ t e h1 h2
theorem q7z{n:Net}(hN:(n.map (·.1)).Nodup){a b:Nt.End}(ha:a∈ends n)(hb:b∈ends n):decide (nameAt n a.1=nameAt n b.1/\(a.2:Int)=(b.2:Int))=decide (a=b):=by
 obtain⟨z1,h1⟩:=mem_ends.mp ha;obtain⟨z2,h2⟩:=mem_ends.mp hb;refine decide_eq_decide.mpr ⟨fun⟨p,q⟩=>j4y hN (j2a h1) (j2a h2) (by unfold key;rw [p,q]),fun e=>by rw [e];exact⟨rfl,rfl⟩⟩
def StepAt(n:Net)(H:Hp)(d:Addr)(c:Int):Prop:=∃ kvs,H d=some (.dT kvs)/\∀ e∈ends n,∃ u,valV kvs (key n e)=some (.ref u)/\H u=some (TN n (go c n e))
theorem StepAt.same{n:Net}{H H':Hp}{d:Addr}{c:Int}(h:StepAt n H d c)(s:Same H H'):StepAt n H' d c:=let ⟨kvs,h1,h2⟩:=h;⟨kvs,s _ _ h1,fun e he=>let ⟨u,a,b⟩:=h2 e he;⟨u,a,s _ _ b⟩⟩
theorem StepAt.get{n:Net}{H:Hp}{d t:Addr}{c:Int}{e:Nt.End}(h:StepAt n H d c)(he:e∈ends n)(ht:H t=some (TN n e)):∃ u,DGet H d (.ref t) (some (.ref u))/\H u=some (TN n (go c n e)):=by
 obtain⟨kvs,h1,h2⟩:=h;obtain⟨u,a,b⟩:=h2 e he;exact⟨u,by rw [<- a];exact DGet.t (k:=key n e) h1 ht,b⟩
structure WAt(n:Net)(H:Hp)(L:Addr)(ls:List Addr)(ws:List (List Nt.End)):Prop where
 lst:H L=some (.lst (ls.map V.ref))
 len:ls.length=ws.length
 nod:ls.Nodup
 out:L∉ls
 at':∀(j:Nat) l w,ls[j]?=some l->ws[j]?=some w->∃ ts,H l=some (.lst (ts.map V.ref))/\AtE n H ts w
theorem WAt.same{n:Net}{H H':Hp}{L:Addr}{ls:List Addr}{ws:List (List Nt.End)}(h:WAt n H L ls ws)(s:Same H H'):WAt n H' L ls ws:=
 ⟨s _ _ h.lst,h.len,h.nod,h.out,fun j l w h1 h2=>let ⟨ts,a,b⟩:=h.at' j l w h1 h2;⟨ts,s _ _ a,b.same s⟩⟩
theorem WAt.keep{n:Net}{H H':Hp}{L:Addr}{ls:List Addr}{ws:List (List Nt.End)}(h:WAt n H L ls ws)(hL:H' L=H L)(kl:∀ l∈ls,∀ o,H l=some o->H' l=some o)(kt:∀ t p j,H t=some (Tn p j)->H' t=some (Tn p j)):WAt n H' L ls ws:=
 ⟨by rw [hL];exact h.lst,h.len,h.nod,h.out,fun j l w h1 h2=>let ⟨ts,a,b⟩:=h.at' j l w h1 h2;⟨ts,kl l (Av h1) _ a,b.keep kt⟩⟩
theorem WAt.snoc{n:Net}{H H':Hp}{L l:Addr}{ls ts:List Addr}{ws:List (List Nt.End)}{v:List Nt.End}(h:WAt n H L ls ws)(hL:H' L=some (.lst (ls.map V.ref++[.ref l])))(kl:∀ l∈ls,∀ o,H l=some o->H' l=some o)(kt:∀ t p j,H t=some (Tn p j)->H' t=some (Tn p j))
  (hl:H' l=some (.lst (ts.map V.ref))) (hv:AtE n H' ts v) (hn:l∉ls) (hLl:L≠l):WAt n H' L (ls++[l]) (ws++[v]):=by
 refine⟨by rw [hL,Ai];rfl,by rw [Af,Af,h.len];rfl,j3r h.nod hn,fun hm=>?_,fun j a x h1 h2=>?_⟩
 ·rcases At.mp hm with hm | hm
  ·exact h.out hm
  ·exact hLl (Ag.mp hm)
 ·have hlen:=h.len
  by_cases hj:j < ls.length
  ·rw [Ar hj] at h1;rw [Ar (by omega)] at h2;obtain⟨us,q1,q2⟩:=h.at' j a x h1 h2;exact⟨us,kl a (Av h1) _ q1,q2.keep kt⟩
  ·rw [Ay (by omega)] at h1 h2;have hj2:j - ls.length=0:=by
    have:=(Ac.mp h1).1;simp at this;omega
   rw [hj2] at h1;rw [<- hlen,hj2] at h2;cases h1;cases h2;exact⟨ts,hl,hv⟩
theorem q2m{n:Net}{i:Nat}{p:Str×Nt.End}(h:(j01 n)[i]?=some p):(ends n)[i]?=some p.2:=by unfold ends;rw [Ad,h];rfl
def spFF:Sp:=fun vs H Q _=>∃(dl t:Addr) (n:Net) (e:Nt.End),vs=[.ref dl,.ref t]/\StepAt n H dl 1/\(n.map (·.1)).Nodup/\j04 n/\(ties n).length<=1000/\e∈ends n/\H t=some (TN n e) /\
 ∀(l:Addr) (ts:List Addr) (H':Hp),Same H H'->H l=none->H' l=some (.lst (ts.map V.ref))->AtE n H' ts (face n e)->Q (.ref l) H'
def k0d:Sp:=fun vs H Q _=>∃(R:Addr) (as:List (Addr×Addr)) (n:Net),vs=[.ref R]/\RowsAt H R as n/\(n.map (·.1)).Nodup/\j04 n/\n.length<=1000/\(ties n).length<=200 /\
 ∀(L:Addr) (ls:List Addr) (H':Hp),Same H H'->H L=none->WAt n H' L ls (fac n)->(∀ l∈ls,H l=none)->Q (.ref L) H'
section
variable{P:Program}{w:World}{K:PySem.W.Frag}{mg:Str->Option Value}{base:Heap}
abbrev NFf:List Str:=["steps","first","face","end"]
theorem scFF:FnScope NFf ["steps","first"] (j0g k4x):=⟨rfl,rfl,rfl,by decide +kernel,rfl,by decide +kernel,by decide +kernel⟩
theorem q7u{f:Addr}{fd:FuncData}(F:Fun K "face_from" "face_from" k4x f fd)(T:Txt mg):FnOk P w K mg base CX0 1 f fd ["steps","first"] spFF:=by
 refine F.gb scFF (fun vs H Q E h=>?_) (fun b0 H vs Q E hr h=>?_)
 ·obtain⟨dl,t,n,e,rfl,_⟩:=h;rfl
 obtain⟨dl,t,n,e,rfl,hL,hN,hT,hti,he,ht,q⟩:=h;have nd:=scFF.nd;have hel:=j4m n;have hu:=hr.u1;have un:=hr.u100;obtain⟨k,pk,hk⟩:=j9c hT he;have k0:=pk.pos;have stp:∀{H':Hp} {c:Nt.End} {u:Addr},Same H H'->c∈ends n->H' u=some (TN n c)->∃ v,DGet H' dl (.ref u) (some (.ref v))/\H' v=some (TN n (step n c)):=fun{H' c u} sm hc hu'=>by
  obtain⟨v,g,e⟩:=(hL.same sm).get hc hu';rw [<- q12 hT hc] at e;exact⟨v,g,e⟩
 show Run _ _ _ [some (.ref dl),some (.ref t),none,none] H;refine j0j 2 nd (j1h (j0a (ev_v 1 (j0c ⟨(by show 1<=sizeLine;decide),fun l hl=>?_⟩))));have s1:=j0e hl (.lst [.ref t]);have el:(upd H l (.lst [.ref t])) l=some (.lst ([t].map V.ref)):=j0b;generalize upd H l (.lst [.ref t])=H1 at s1 el;obtain⟨u1,g1,e1⟩:=stp s1 he (s1 _ _ ht);refine j0j 3 nd (j21 hu (ev_v 0 (ev_v 1 ⟨dl,.ref u1,rfl,g1,?_⟩)));show Run _ _ _ [some (.ref dl),some (.ref t),some (.ref l),some (.ref u1)] H1;refine j4c (fun m σ H2=>∃(j:Nat) (ts:List Addr) (u:Addr),m=k - j/\0 < j/\j<=k/\Same H H2/\H2 l=some (.lst (ts.map V.ref))/\AtE n H2 ts (fl n e j)/\H2 u=some (TN n (it (step n) j e))/\σ=[some (.ref dl),some (.ref t),some (.ref l),some (.ref u)])
  (m0:=k - 1) ⟨1,[t],u1,rfl,Ft,k0,s1,el,⟨rfl,fun j x c h1 h2=>?_⟩,e1,rfl⟩ ?_
 ·match j with
  | 0=>cases h1;cases h2;exact s1 _ _ ht
  | j+1=>simp at h1
 rintro m σ H2 ⟨j,ts,u,rfl,j0,j1,sH,el2,at2,eu,rfl⟩;have hje:it (step n) j e∈ends n:=j6a (fun a ha=>j4n hT ha) he j;refine j09 (j5w un) (ev_v 3 (ev_v 1 ⟨1,_,by decide,q0m eu (sH _ _ ht),_,rfl,?_⟩));rw [q7z hN hje he];have tl:=at2.1;rw [j51] at tl
 by_cases c:it (step n) j e=e
 ·rw [decide_eq_true c];have jk:j=k:=by
   rcases Cj j k with h | h
   ·exact absurd c (pk.first j j0 h)
   ·omega
  subst jk;refine iteF (j0r (ev_v 2 (q l ts H2 sH hl el2 ?_)));unfold face;rw [j90 pk];exact at2
 ·rw [decide_eq_false c];have jk:j < k:=by
   rcases Cj j k with h | h
   ·exact h
   ·have:j=k:=by omega
    subst this;exact absurd pk.back c
  refine iteT (j0v (j1r (ev_v 2 ⟨l,rfl,⟨_,el2⟩,ev_v 3 ⟨_,el2,by rw [Aa];exact j00 (by omega),?_⟩⟩)));have sH3:Same H (upd H2 l (.lst (ts.map V.ref++[.ref u]))):=j02 sH hl;have el3:(upd H2 l (.lst (ts.map V.ref++[.ref u]))) l=some (.lst ((ts++[u]).map V.ref)):=by rw [j0b,Ai];rfl
  have kt:∀ b p' j',H2 b=some (Tn p' j')->(upd H2 l (.lst (ts.map V.ref++[.ref u]))) b=some (Tn p' j'):=fun b p' j' h=>by
   rw [j0d (j1s h el2 fun z=>nomatch z)];exact h
  generalize upd H2 l (.lst (ts.map V.ref++[.ref u]))=H3 at sH3 el3 kt;obtain⟨v2,g4,e4⟩:=stp sH3 hje (kt _ _ _ eu);refine j0j 3 nd (j21 hu (ev_v 0 (ev_v 3 ⟨dl,.ref v2,rfl,g4,?_⟩)));refine j0i ⟨k - (j+1),by omega,j+1,ts++[u],v2,rfl,Eh _,jk,sH3,el3,?_,e4,rfl⟩;rw [q1f];refine(at2.keep kt).append ⟨rfl,fun j x c h1 h2=>?_⟩
  match j with
  | 0=>cases h1;cases h2;exact kt _ _ _ eu
  | j+1=>simp at h1
abbrev NFs:List Str:=["rows","ends","steps","told","faces","first","face","end"]
theorem scFs:FnScope NFs ["rows"] (j0g k5m):=⟨rfl,rfl,rfl,by decide +kernel,rfl,by decide +kernel,by decide +kernel⟩
structure Told(n:Net)(ks:List (List Key))(tl:List Nt.End):Prop where
 nod:ks.Nodup
 mem:∀ e∈ends n,key n e∈ks↔e∈tl
 of:∀ k∈ks,∃ e∈ends n,k=key n e
theorem Told.len{n:Net}{ks:List (List Key)}{tl:List Nt.End}(h:Told n ks tl):ks.length<=(ends n).length:=by
 have:=h.nod.length_le_of_subset (l₂:=(ends n).map (key n)) fun k hk=>by
  obtain⟨e,he,rfl⟩:=h.of k hk;exact Ak.mpr ⟨e,he,rfl⟩
 rw [Aa] at this;exact this
open Classical in
theorem Told.add{n:Net}(hN:(n.map (·.1)).Nodup){ks:List (List Key)}{tl:List Nt.End}(h:Told n ks tl){e:Nt.End}(he:e∈ends n):Told n (if key n e∈ks then ks else key n e :: ks) (tl++[e]):=by
 have inj:∀{a b:Nt.End},a∈ends n->b∈ends n->key n a=key n b->a=b:=fun{a b} ha hb k=>by
  obtain⟨z1,h1⟩:=mem_ends.mp ha;obtain⟨z2,h2⟩:=mem_ends.mp hb;exact j4y hN (j2a h1) (j2a h2) k
 by_cases c:key n e∈ks
 ·rw [if_pos c];refine⟨h.nod,fun a ha=>?_,h.of⟩;rw [h.mem a ha,At,Ag];exact⟨fun k=> .inl k,fun k=>by
   rcases k with k | k
   ·exact k
   ·rw [k];exact(h.mem e he).mp c⟩
 ·rw [if_neg c];refine⟨Cp.mpr ⟨c,h.nod⟩,fun a ha=>?_,fun k hk=>?_⟩
  ·rw [Ap,h.mem a ha,At,Ag]
   constructor
   ·rintro (k | k)
    ·exact .inr (inj ha he k)
    ·exact .inl k
   ·rintro (k | k)
    ·exact .inr k
    ·exact .inl (by rw [k])
  ·rcases Ap.mp hk with k1 | k1
   ·exact⟨e,he,k1⟩
   ·exact h.of k k1
open Classical in
theorem k85{f:Addr}{fd:FuncData}(F:Fun K "faces_of" "faces_of" k5m f fd)(T:Txt mg)
  (GO:Has P w K mg base 3 "ends_in_order" ["rows"] k0b)
  (GL:Has P w K mg base 3 "left_steps" ["rows"] (spLS 1))
  (GF:Has P w K mg base 3 "face_from" ["steps","first"] spFF) :
  FnOk P w K mg base CX0 4 f fd ["rows"] k0d:=by
 refine F.gb scFs (fun vs H Q E h=>?_) (fun b0 H vs Q E hr h=>?_)
 ·obtain⟨R,as,n,rfl,_⟩:=h;rfl
 obtain⟨R,as,n,rfl,hR,hN,hT,hn,hti,q⟩:=h;have nd:=scFs.nd;have hel:=j4m n;have hu:=hr.u1;show Run _ _ _ [some (.ref R),none,none,none,none,none,none,none] H;refine j0j 1 nd (j0u GO hr (j0a (ev_v 0 (j0c ⟨R,as,n,rfl,hR,hn,by omega,fun U us H1 s1 n1 e1 at1=>?_⟩))));have lus:us.length=(ends n).length:=by rw [at1.1];unfold ends;rw [Aa]
 refine j11 (j3l (k16 (ev_v 1 (v:= .ref U) ⟨!(us.map V.ref).isEmpty,Or.inl ⟨_,SqL.of e1,rfl⟩,?_⟩)));rw [Bool.not_not]
 by_cases hb:ends n=[]
 ·have hus:us=[]:=Be.mp (by rw [lus,hb];rfl);subst hus;refine iteT (j0r (j1h (j0a (j1h (j0c ⟨(by show 0<=sizeLine;decide),fun l hl=>j0c ⟨(by show 1<=sizeLine;decide),fun L hL=>?_⟩⟩)))));have s2:=j0e hl (.lst []);have s3:=j0e hL (.lst [.ref l]);refine q L [l] _ ((s1.trans s2).trans s3) ((s1.trans s2).free hL) ?_ fun l' hl'=>by rw [Ag.mp hl'];exact s1.free hl
  unfold fac;rw [if_pos hb];refine⟨j0b,rfl,by simp,fun hm=>?_,fun j l' w h1 h2=>?_⟩
  ·rw [Ag.mp hm,j0b] at hL;cases hL
  ·match j with
   | 0=>cases h1;cases h2;exact⟨[],s3 _ _ j0b,rfl,fun j t e h=>by simp at h⟩
   | j+1=>simp at h1
 have hne:us.map V.ref≠[]:=fun h=>hb (Be.mp (by have:=congrArg List.length h;rw [Aa,lus] at this;exact this));have hem:(us.map V.ref).isEmpty=false:=by
  cases h:us.map V.ref with
  | nil=>exact absurd h hne
  | cons a r=>rfl
 rw [hem];refine iteF (j0i ?_);refine j0j 2 nd (j0u GL hr (j0a (ev_v 0 (j0c ⟨R,as,n,rfl,hR.same s1,hN,hT,hn,by omega,fun dl kl H2 s2 n2 e2 v2=>?_⟩))));refine j0j 3 nd (k9d T.tset fun D hD=>?_);refine j0j 4 nd (j1h (j0c ⟨(by show 0<=sizeLine;decide),fun L hL=>?_⟩));have hSL:StepAt n H2 dl 1:=⟨kl,e2,v2⟩;have s12:=s1.trans s2;have hLD:L≠D:=fun e=>by rw [e,j0b] at hL;cases hL
 have hL2:H2 L=none:=by rw [j0d hLD] at hL;exact hL
 have hD0:=j0n s12 hD;have hL0:=j0n s12 hL2;have sB:Same H2 (upd (upd H2 D (j5b P w D [])) L (.lst [])):=(j0e hD _).trans (j0e hL _);have tD0:TsAt P w (upd (upd H2 D (j5b P w D [])) L (.lst [])) D []:=ts_new.same (j0e hL _);have eL0:(upd (upd H2 D (j5b P w D [])) L (.lst [])) L=some (.lst []):=j0b;have hSLB:=hSL.same sB;have e1B:=sB _ _ (s2 _ _ e1);have at1B:∀(j:Nat) (t:Addr) (p:Str×Nt.End),us[j]?=some t->(j01 n)[j]?=some p->(upd (upd H2 D (j5b P w D [])) L (.lst [])) t=some (TN n p.2):=fun j t p h1 h2=>sB _ _ (s2 _ _ (at1.2 j t p h1 h2));show Run _ _ _ [some (.ref R),some (.ref U),some (.ref dl),some (.ref D),some (.ref L),none,none,none] (upd (upd H2 D (j5b P w D [])) L (.lst []));generalize upd (upd H2 D (j5b P w D [])) L (.lst [])=H5 at sB tD0 eL0 hSLB e1B at1B;have sH5:=s12.trans sB;have nUL:U≠L:=j0f (s2 _ _ e1) hL2;have nUD:U≠D:=j0f (s2 _ _ e1) hD;have tnD:∀{b p j},H5 b=some (Tn p j)->b≠D:=fun h=>tD0.ne h fun φ z=>nomatch z;refine j2f (ev_v 1 ⟨U,rfl,⟨_,SqL.of e1B⟩,?_⟩);refine j1v (xs:=us.map V.ref) (fun i σ H'=>∃(ks:List (List Key)) (tl:List Nt.End) (ls:List Addr) (ws:List (List Nt.End)) (u1 u2 u3:Option V),(∀ b o,b≠D->b≠L->H5 b=some o->H' b=some o)/\TsAt P w H' D ks/\Told n ks tl /\
  WAt n H' L ls ws/\(∀ l∈ls,H5 l=none)/\ls.length<=i/\fcs n (ends n) []=ws++fcs n ((ends n).drop i) tl/\σ=[some (.ref R),some (.ref U),some (.ref dl),some (.ref D),some (.ref L),u1,u2,u3])
  ⟨[],[],[],[],_,_,_,fun b o _ _ h=>h,tD0,⟨Cs,fun e _=>by simp,fun k h=>by simp at h⟩,⟨eL0,rfl,Cs,by simp,fun j l w h=>by simp at h⟩,fun l h=>by simp at h,Ah _,rfl,rfl⟩ ?_ ?_ ?_
 ·rintro i σ H' _ ⟨_,_,_,_,_,_,_,kp,_⟩;exact SqL.of (kp _ _ nUD nUL e1B)
 ·rintro i x σ H' hx ⟨ks,tl,ls,ws,u1,u2,u3,kp,tD,told,hW,hf,hli,hwk,rfl⟩;have hi:i < us.length:=by
   have:=(Ac.mp hx).1;rw [Aa] at this;exact this
  rw [Ad,Ab hi] at hx;cases hx;have hsi:i < (j01 n).length:=by have:=at1.1;omega
  have ht5:H5 us[i]=some (TN n (j01 n)[i].2):=at1B i us[i] (j01 n)[i] (Ab hi) (Ab hsi);have hee:=q2m (Ab hsi);generalize (j01 n)[i].2=e at ht5 hee;have he:e∈ends n:=Av hee;have hdrop:(ends n).drop i=e :: (ends n).drop (i+1):=by
   have hie:i < (ends n).length:=by omega
   rw [List.drop_eq_getElem_cons hie]
   congr 1
   have:=Ab hie;rw [hee] at this;exact(Option.some.inj this).symm
  have ktn:∀{b p j},H5 b=some (Tn p j)->H' b=some (Tn p j):=fun{b p j} h=>kp _ _ (tnD h) (j1s h eL0 fun z=>nomatch z) h;have ht':=ktn ht5;have hst:StepAt n H' dl 1:=by
   obtain⟨kvs,a,b⟩:=hSLB;exact⟨kvs,kp _ _ (tD0.ne a fun φ z=>nomatch z) (j1s a eL0 fun z=>nomatch z) a,fun e he=>let ⟨u,p,r⟩:=b e he;⟨u,p,ktn r⟩⟩
  refine j0k 5 nd ?_;refine j11 (j09 (j8a hu) (ev_v 5 (ev_v 3 ⟨key n e,us[i],D,ks,rfl,rfl,ht',tD,_,rfl,?_⟩)));refine ite2 (fun c=>?_) (fun c=>?_)
  ·have hz:key n e∉ks:=of_decide_eq_true c;have hzt:e∉tl:=fun h=>hz ((told.mem e he).mpr h);refine j0j 6 nd (j0u GF hr (j0a (ev_v 2 (j0a (ev_v 5 (j0c ⟨dl,us[i],n,e,rfl,hst,hN,hT,by omega,he,ht',fun l ts H6 s6 n6 e6 at6=>?_⟩))))));have eL6:=s6 _ _ hW.lst;have tD6:=tD.same s6;have nlL:L≠l:=j0f hW.lst n6;have nlD:D≠l:=fun k=>tD.some (by rw [k];exact n6);refine j0v (j1r (ev_v 4 ⟨L,rfl,⟨_,eL6⟩,ev_v 6 ⟨_,eL6,by rw [Aa];exact j00 (by omega),?_⟩⟩));have k7:∀ b o,b≠L->H6 b=some o->(upd H6 L (.lst (ls.map V.ref++[.ref l]))) b=some o:=fun b o hb h=>by rw [j0d hb];exact h
   have eL7:(upd H6 L (.lst (ls.map V.ref++[.ref l]))) L=some (.lst (ls.map V.ref++[.ref l])):=j0b;have tD7:TsAt P w (upd H6 L (.lst (ls.map V.ref++[.ref l]))) D ks:=tD6.keep (by rw [j0d (Ne.symm hLD)]) fun b xs h=>by rw [j0d (j1s h eL6 fun z=>nomatch z)];exact h
   generalize upd H6 L (.lst (ls.map V.ref++[.ref l]))=H7 at k7 eL7 tD7;have kt7:∀ t p j,H6 t=some (Tn p j)->H7 t=some (Tn p j):=fun t p j h=>k7 _ _ (j1s h eL6 fun z=>nomatch z) h;have e7:=k7 _ _ (Ne.symm nlL) e6;have at7:=at6.keep kt7;have hnl:l∉ls:=fun hm=>by
    obtain⟨j,hj⟩:=Az hm;have hlen:=hW.len;have hjw:j < ws.length:=by have:=(Ac.mp hj).1;omega
    obtain⟨_,a,_⟩:=hW.at' j l ws[j] hj (Ab hjw);rw [n6] at a;cases a
   have hW7:WAt n H7 L (ls++[l]) (ws++[face n e]):=hW.snoc eL7 (fun a ha o ho=>k7 _ _ (fun q=>hW.out (q ▸ ha)) (s6 _ _ ho)) (fun t p j h=>kt7 _ _ _ (s6 _ _ h)) e7 at7 hnl nlL;have l57:H5 l=none:=by
    cases q5:H5 l with
    | none=>rfl
    | some o=>rw [kp _ _ (Ne.symm nlD) (Ne.symm nlL) q5] at n6;cases n6
   have hf7:∀ a∈ls++[l],H5 a=none:=fun a ha=>by
    rcases At.mp ha with ha | ha
    ·exact hf a ha
    ·rw [Ag.mp ha];exact l57
   have kp7:∀ b o,b≠D->b≠L->H5 b=some o->H7 b=some o:=fun b o h1 h2 h=>k7 _ _ h2 (s6 _ _ (kp b o h1 h2 h));have hll:(ls++[l]).length<=i+1:=by rw [Af];show ls.length+1<=_;omega
   have hwk7:fcs n (ends n) []=(ws++[face n e])++fcs n ((ends n).drop (i+1)) (tl++face n e):=by
    rw [hwk,hdrop];show ws++(if e∈tl then _ else _)=_;rw [if_neg hzt,Bm];rfl
   have hev:=j50 hT he;have lts:=at7.1;refine j2f (ev_v 6 ⟨l,rfl,⟨_,SqL.of e7⟩,?_⟩);refine j1v (xs:=ts.map V.ref) (fun m σ H9=>∃(ks':List (List Key)) (u3:Option V),(∀ b o,b≠D->H7 b=some o->H9 b=some o)/\TsAt P w H9 D ks'/\Told n ks' (tl++(face n e).take m) /\
    σ=[some (.ref R),some (.ref U),some (.ref dl),some (.ref D),some (.ref L),some (.ref us[i]),some (.ref l),u3]) ⟨ks,_,fun b o _ h=>h,tD7,by rw [List.take_zero,Ba];exact told,rfl⟩ ?_ ?_ ?_
   ·rintro m σ H9 _ ⟨_,_,k9,_⟩;exact SqL.of (k9 _ _ (Ne.symm nlD) e7)
   ·rintro m x σ H9 hx ⟨ks',u3,k9,tD9,told9,rfl⟩;rw [Ad,Aw] at hx;obtain⟨t,htm,rfl⟩:=hx;have hmf:m < (face n e).length:=by have:=(Ac.mp htm).1;omega
    have hfm:(face n e)[m]?=some (face n e)[m]:=Ab hmf;have hc:=hev _ (Av hfm);have etk:(face n e).take (m+1)=(face n e).take m++[(face n e)[m]]:=by rw [Bt,hfm];rfl
    have ht7:=at7.2 m t _ htm hfm;generalize (face n e)[m]=c9 at hfm hc etk ht7;have nD9:t≠D:=fun k=>by rw [k] at ht7;exact(tD7.ne ht7 fun φ z=>nomatch z) rfl
    have ht9:=k9 _ _ nD9 ht7;have hle:=told9.len;refine j0k 7 nd ?_;refine j0v (q3c hu (ev_v 3 ⟨D,rfl,⟨_,tD9⟩,ev_v 7 ⟨key n c9,t,ks',rfl,ht9,tD9,by omega,fun oo tD10=>j0i ⟨_,_,fun b o hb h=>by rw [j0d hb];exact k9 b o hb h,tD10,?_,rfl⟩⟩⟩));rw [etk,<- Bm];exact told9.add hN hc
   ·rintro σ H9 ⟨ks',u3,k9,tD9,told9,rfl⟩;rw [Aa,lts,Bp] at told9;refine j0i (j0i ⟨ks',tl++face n e,ls++[l],ws++[face n e],_,_,_,fun b o h1 h2 h=>k9 b o h1 (kp7 b o h1 h2 h),tD9,told9,?_,hf7,hll,hwk7,rfl⟩);have nd9:∀{b o},H7 b=some o->(∀ φ,o≠HO.ext φ)->b≠D:=fun h ho=>tD7.ne h ho;refine hW7.keep ?_ (fun a ha o ho=>k9 a o ?_ ho) fun t p j h=>k9 _ _ (nd9 h fun φ z=>nomatch z) h
    ·rw [hW7.lst];exact k9 _ _ (Ne.symm (Ne.symm hLD)) hW7.lst
    ·intro k;have:=hf7 a ha;rw [k] at this;exact tD0.some this
  ·have hz:key n e∈ks:=Classical.byContradiction fun h=>c (decide_eq_true h);have hzt:e∈tl:=(told.mem e he).mp hz;refine j0i (j0i ⟨ks,tl,ls,ws,_,_,_,kp,tD,told,hW,hf,by omega,?_,rfl⟩);rw [hwk,hdrop];show ws++(if e∈tl then _ else _)=_;rw [if_pos hzt]
 ·rintro σ H' ⟨ks,tl,ls,ws,u1,u2,u3,kp,tD,told,hW,hf,hli,hwk,rfl⟩;rw [Aa,lus,List.drop_length] at hwk;have hw2:fac n=ws:=by
   unfold fac;rw [if_neg hb,hwk];exact Ba _
  have sF:Same H H':=fun b o h=>kp b o (j0f h hD0) (j0f h hL0) (sH5 _ _ h);refine j0r (ev_v 4 (q L ls H' sF hL0 (by rw [hw2];exact hW) fun l hl=>?_));exact sH5.free (hf l hl)
end
end R4
namespace Nt
open PySem L2
end Nt
namespace L2
open PySem PySem.Spec PyProof.Rows
section
variable{X:Cx}{σ:St}{H:Hp}
def q49(K:PySem.W.Frag):V->List V->Hp->VK->Prop:=fun x vs H Q=>∃(l:Addr) (zs:List Str) (z:Str) (j:Nat),x = .ref l/\vs=[.str z]/\SqL K H l (zs.map V.str)/\zs[j]?=some z/\z∉zs.take j/\j < 100000/\Q (.int (j:Int)) H
theorem k8s:MtM X "list.index" (q49 X.K):=by
 intro pins s σ H x vs v us Q I rx rv h;obtain⟨l,zs,z,j,rfl,rfl,hH,hj,hno,hsm,q⟩:=h;cases rx;obtain⟨u,rfl,ru⟩:=rv.one;obtain⟨tk,rfl⟩:=ru;obtain⟨its,r,pl,hz⟩:=I.list hH;have hlen:=r.length;rw [Aa] at hlen;have hjl:=(Ac.mp hj).1;have val:∀(m:Nat) (hm:m < its.length),∃ y t,zs[m]?=some y/\its[m]=Value.str y t:=fun m hm=>by
  obtain⟨w,hw,rw'⟩:=r.get (i:=m) (x:= .str (zs[m]'(by omega))) (by rw [Ad,Ab (by omega)];rfl);rw [Ab hm] at hw;obtain⟨t,rfl⟩:=rw';exact⟨_,t,Ab (by omega),Option.some.inj hw⟩
 obtain⟨⟨cls,dd,data,sl⟩,ho,hc,n,hd⟩:=id pl.isList;simp only at hc hd;subst hc hd;refine call_meets PySem.F.slot_list_index ⟨_,ho,rfl⟩ PySem.F.entry_list_index (PySem.F.args_list_index_2 _ _) (SeqAt.list_indexAt l its.toArray n dd sl (.str z tk) (eqU (.str z)) j (by simp;omega) (by omega) ?_ fun m hm hlt=>?_) ⟨ho,fun y hy=>j3z (show RelV (.str z) (.str z tk) from⟨tk,rfl⟩) rfl r (j3n zs) y (by simpa using hy),?_⟩
 ·obtain⟨y,t,e1,e2⟩:=val j (by omega);rw [hj] at e1;cases e1;show eqU (.str z) its[j]=true;rw [e2];show(z == z)=true;simp
 ·obtain⟨y,t,e1,e2⟩:=val m (by simpa using hm);show eqU (.str z) (its[m]'(by simpa using hm))=false;rw [e2];show(y == z)=false;refine beq_eq_false_iff_ne.mpr fun k=>hno ?_;rw [<- k];exact Av (i:=m) (by rw [List.getElem?_take,if_pos hlt];exact e1)
 ·exact⟨.int (j:Int),H,I.tok _,⟨_,rfl⟩,q⟩
theorem k77{e1 e2:Expr}{k:Nat}{pos:Pos}{l:Addr}{x y:V}{R:St->Hp->Prop}(hc:X.calm=true)(hl:SqL X.K H l [x,y])(h:Eg X e1 x σ H fun σ1 H1=>Eg X e2 y σ1 H1 R)
  (hn:(assignEach [e1,e2] X.env).length=2:=by rfl) (hst:(assignEach [e1,e2] X.env).findIdx? (·.1)=none:=by rfl)
  (hs:(assignEach [e1,e2] X.env).map (·.2)=[assign e1 X.env,assign e2 X.env]:=by rfl):Eg X (.Tuple [e1,e2] k pos) (.ref l) σ H R:=by
 refine⟨fun pins s u I r=>?_⟩;cases r;obtain⟨its,rv,pl,_⟩:=I.list hl;cases rv with
 | cons r0 rv=>
 cases rv with
 | cons r1 rv=>
 cases rv;rename_i u0 u1;rw [assign_Tuple];refine wpAny_bind (wpAny_standAt ?_);unfold unpack;rw [hn,hst,hs];refine wpAny_bind (wpAny_holding (PySem.W.kun_itemsOf (items:=#[u0,u1]) (I.ok.hd hc) pl.isList fun h' eb=>?_));have I1:Inv X pins σ H {s with heap:=h'}:=I.kept (t':=s.toks) fun b o e=>eb b o (Bg (Aj e)) e;refine PyProof.Rows.assignInOrder_cons (thn (h.run pins _ _ I1 r0) fun _ s3 ⟨σ3,H3,I3,q3⟩=>?_);refine PyProof.Rows.assignInOrder_cons (thn (q3.run pins _ _ I3 r1) fun _ s4 ⟨σ4,H4,I4,q4⟩=>?_);exact wpAny_pure ⟨σ4,H4,I4,q4⟩
end
end L2
namespace L2
open PySem PySem.Spec PyProof.Rows
structure Xo(h:Heap)(e T:Addr)(C fl:Value):Prop where
 ex:∃ oe vs,h.get? e=some oe/\oe.cls=C/\oe.dict=none/\oe.data = .fields vs/\vs[1]?=some (.ref T)/\vs[2]?=some .none
 ne:T≠e
 tr:∃ oT ts,h.get? T=some oT/\oT.data = .fields ts/\ts[3]?=some fl
structure Kp(fs bad:List Addr)(h h':Heap):Prop where
 keep:∀ b o,h.get? b=some o->b∉fs->b∉bad->h'.get? b=some o
 slot:∀ b o,h.get? b=some o->b∈fs->∃ sl,h'.get? b=some {o with slots:=sl}
theorem j6z(o:Obj)(f:Array Value->Array Value):(o.mapFields f).dict=o.dict:=by
 obtain⟨c,d,dt,sl⟩:=o;cases dt <;> rfl
section
variable{M:Model}{A:Around}{E:Value->Shared->Prop}{s:Shared}
theorem j9h{base:Heap}{env:Env}{outer:List Env}{L e:Addr}{oe:Obj}{vs:Array Value}{head:Value}{nx:Bool}{Q:Unit->Shared->Prop}(hfr:A.frames=some (env :: outer))(hl:s.heap.FunFrames base (env :: outer))(hf:env.frame=some L)
  (he:s.heap.get? e=some oe) (hd:oe.data = .fields vs) (hdi:oe.dict=none) (h1:1 < vs.size) (h2:vs[2]?=some .none)
  (h:∀ h' T,s.heap.get? T=none->Xo h' e T oe.cls .none->Kp (frs (env :: outer)) [e] s.heap h'->Q () {s with heap:=h'}) :
  wpAny M A (do let a <- frameOf env;let pl <- entryPlaceOf L nx;let b <- EntryCells.newEntry head a .none (rawInt L) .none pl;setField (.ref e) 1 b) (fun _ s'=>wpAny M A (setFlight (.ref e) none) Q E s') E s:=by
 have nef:e∉frs (env :: outer):=fun hm=>by
  obtain⟨_,o,ho,hn⟩:=hl.mem hm;rw [he] at ho;cases ho;exact hn vs hd
 refine wpAny_bind (wpAny_frameOf_fun hfr hl hf fun ha sa=>?_);refine wpAny_bind (wpAny_entryPlaceOf fun pl ip=>?_);unfold EntryCells.newEntry newFields;refine wpAny_bind (wpAny_newObj_type ?_ (ip.sizeOk5 _ _ _ _ _));generalize hT:({cls:= .type "traceback",dict:=none,data:= .fields ([head,.ref L,.none,rawInt L,.none]++(if pl.isEmpty then List.replicate 6 Value.none else pl)).toArray}:Obj)=oT;have ea:ha.get? e=some oe:=(sa.2.1 e nef).trans he;have eb:(ha.push oT).get? e=some oe:=Ae _ ea;have tb:(ha.push oT).get? ha.objs.size=some oT:=Am ha (by rw [<- hT];rfl);have hTe:ha.objs.size≠e:=Ci (Aj ea);refine wpAny_setField eb hd h1 ?_;have dc:=Obj.data_mapFields hd (·.setIfInBounds 1 (Value.ref ha.objs.size));have ec:=Cm (Obj.mapFields (·.setIfInBounds 1 (Value.ref ha.objs.size))) eb (Obj.isFreed_of_fields dc);have tc:((ha.push oT).update e (Obj.mapFields (·.setIfInBounds 1 (Value.ref ha.objs.size)))).get? ha.objs.size=some oT:=(Bz _ _ (Ne.symm hTe)).trans tb;unfold setFlight;refine wpAny_bind (wpAny_field ec dc (x:= .ref ha.objs.size) (by simp [h1]) ?_);rw [if_pos (show(Value.ref ha.objs.size != Value.none)=true from by simp)];have dT:oT.data = .fields ([head,.ref L,.none,rawInt L,.none]++(if pl.isEmpty then List.replicate 6 Value.none else pl)).toArray:=by rw [<- hT]
 have sz:3 < ([head,.ref L,.none,rawInt L,.none]++(if pl.isEmpty then List.replicate 6 Value.none else pl)).toArray.size:=by
  simp only [Aq,Af,An,Fe];omega
 refine wpAny_setField tc dT sz (h _ ha.objs.size (by
  cases hq:s.heap.get? ha.objs.size with
  | none=>rfl
  | some o=>
   obtain⟨sl,z⟩:=sa.2.2 _ o hq;exact absurd (Aj z) (By _)) ?_ ?_)
 ·have dd:=Obj.data_mapFields dT (·.setIfInBounds 3 ((none:Option Addr).elim Value.none fun f=>rawInt f));refine⟨⟨_,_,(Bz _ _ hTe).trans ec,Obj.cls_mapFields _ _,by rw [j6z];exact hdi,dc,by simp [h1],by rw [Array.getElem?_setIfInBounds_ne (by decide)];exact h2⟩,hTe,⟨_,_,Cm _ tc (Obj.isFreed_of_fields dd),dd,?_⟩⟩;rw [Array.getElem?_setIfInBounds_self_of_lt sz];rfl
 ·have kp:∀ b o,b≠e->ha.get? b=some o->(((ha.push oT).update e (Obj.mapFields (·.setIfInBounds 1 (Value.ref ha.objs.size)))).update ha.objs.size (Obj.mapFields (·.setIfInBounds 3 ((none:Option Addr).elim Value.none fun f=>rawInt f)))).get? b=some o:=fun b o hb q=>by
   rw [Bz _ _ (Ci (Aj q)),Bz _ _ (Ne.symm hb)];exact Ae _ q
  refine⟨fun b o q nf nb=>kp b o (fun z=>nb (by simp [z])) ((sa.2.1 b nf).trans q),fun b o q hb=>?_⟩;obtain⟨sl,z⟩:=sa.2.2 b o q;exact⟨sl,kp b _ (fun y=>nef (y ▸ hb)) z⟩
theorem k7r{base:Heap}{env:Env}{outer:List Env}{L e:Addr}{oe:Obj}{vs:Array Value}{Q:Unit->Shared->Prop}(hfr:A.frames=some (env :: outer))(hl:s.heap.FunFrames base (env :: outer))(hf:env.frame=some L)
  (he:s.heap.get? e=some oe) (hd:oe.data = .fields vs) (hdi:oe.dict=none) (h1:vs[1]?=some .none) (h2:vs[2]?=some .none)
  (h:∀ h' T,s.heap.get? T=none->Xo h' e T oe.cls .none->Kp (frs (env :: outer)) [e] s.heap h'->Q () {s with heap:=h'}) :
  wpAny M A (noteFrame (.ref e) env) (fun _ s'=>wpAny M A (setFlight (.ref e) none) Q E s') E s:=by
 unfold noteFrame;simp only [hf];refine wpAny_bind (wpAny_field he hd h1 ?_);rw [if_neg (by decide)];exact j9h hfr hl hf he hd hdi (Eu.mp h1).1 h2 h
theorem q14{base:Heap}{env:Env}{outer:List Env}{L e T:Addr}{C:Value}{Q:Unit->Shared->Prop}(hfr:A.frames=some (env :: outer))(hl:s.heap.FunFrames base (env :: outer))(hf:env.frame=some L)(x:Xo s.heap e T C .none)
  (h:∀ h' T',s.heap.get? T'=none->Xo h' e T' C .none->Kp (frs (env :: outer)) [e,T] s.heap h'->Q () {s with heap:=h'}) :
  wpAny M A (noteFrame (.ref e) env) (fun _ s'=>wpAny M A (setFlight (.ref e) none) Q E s') E s:=by
 obtain⟨⟨oe,vs,he,hc,hdi,hd,h1,h2⟩,hne,⟨oT,ts,hT,dT,h3⟩⟩:=x;subst hc;unfold noteFrame;simp only [hf];refine wpAny_bind (wpAny_field he hd h1 ?_);rw [if_pos (show(Value.ref T != Value.none)=true from by simp)];refine wpAny_bind (wpAny_field hT dT h3 ?_);rw [if_neg (show ¬((Value.none == rawInt L)=true) from by simp [rawInt])];refine wpAny_bind (wpAny_setField hT dT (Eu.mp h3).1 ?_);have nT:∀ b,b≠T->(s.heap.update T (Obj.mapFields (·.setIfInBounds 3 Value.none))).get? b=s.heap.get? b:=fun b hb=>Bz _ _ (Ne.symm hb);have rcd:∀ b o,s.heap.get? b=some o->(∀ vs,o.data ≠ .fields vs)->b≠T:=fun b o q hn z=>by
  rw [z,hT] at q;cases q;exact hn ts dT
 have nf:T∉frs (env :: outer):=fun hm=>by
  obtain⟨_,o,ho,hn⟩:=hl.mem hm;exact rcd T o ho hn rfl
 refine j9h hfr (hl.of_keeps fun b o q hn=>⟨o,(nT b (rcd b o q hn)).trans q,rfl⟩) hf ((nT e (Ne.symm hne)).trans he) hd hdi (Eu.mp h1).1 h2 fun h' T' z x k=>h h' T' ?_ x ⟨fun b o q n1 n2=>?_,fun b o q hb=>?_⟩
 ·cases hq:s.heap.get? T' with
  | none=>rfl
  | some o=>
   by_cases y:T'=T
   ·have:=Cm (Obj.mapFields (·.setIfInBounds 3 Value.none)) hT (Obj.isFreed_of_fields (Obj.data_mapFields dT _));rw [y] at z;exact absurd (this.symm.trans z) (by simp)
   ·have:=(nT T' y).trans hq;exact absurd (this.symm.trans z) (by simp)
 ·have n3:b≠T:=fun y=>n2 (by simp [y]);exact k.keep b o ((nT b n3).trans q) n1 (fun y=>n2 (by simp at y;simp [y]))
 ·exact k.slot b o ((nT b fun y=>nf (y ▸ hb)).trans q) hb
end
end L2
namespace L2
open PySem PySem.Spec PyProof.Rows
theorem q15{fs f2 bad:List Addr}{H H':Hp}{h h1 h2:Heap}(u:Un fs [] H H' h h1)(k:Kp f2 bad h1 h2)(hf:∀ b o,h.get? b=some o->b∈f2->b∈fs)(hb:∀ b∈bad,h.get? b=none):Un fs [] H H' h h2:=by
 have nb:∀ b o,h.get? b=some o->b∉bad:=fun b o q z=>by rw [hb b z] at q;cases q
 refine⟨fun b o q n nf _=>k.keep b o (u.keep b o q n nf (by simp)) (fun z=>nf (hf b o q z)) (nb b o q),fun b o q n hm _=>?_,u.free,fun b o q _=>?_,u.tups,u.frzs,u.tbls⟩
 ·obtain⟨sl,z⟩:=u.slot b o q n hm (by simp)
  by_cases y:b∈f2
  ·obtain⟨sl',z'⟩:=k.slot b _ z y;exact⟨sl',z'⟩
  ·exact⟨sl,k.keep b _ z y (nb b o q)⟩
 ·obtain⟨o',z⟩:=u.there b o q (by simp)
  by_cases y:b∈f2
  ·obtain⟨sl',z'⟩:=k.slot b _ z y;exact⟨_,z'⟩
  ·exact⟨o',k.keep b _ z y (nb b o q)⟩
theorem k98{P:Program}{w:World}{f2 bad:List Addr}{H:Hp}{h1 h2:Heap}(x:HOk P w H h1)(k:Kp f2 bad h1 h2)(hf:∀ b∈f2,H b=none)(hb:∀ b∈bad,H b=none):HOk P w H h2:=fun a o e=>by
 refine(x a o e).stay (fun b u hh q=>k.keep b u q (fun z=>?_) (fun z=>?_)) (fun _ q=>q) fun _ _ q=>q
 ·have:=hf b z
  rcases hh with y | y
  ·rw [y,e] at this;cases this
  ·rw [y] at this;cases this
 ·have:=hb b z
  rcases hh with y | y
  ·rw [y,e] at this;cases this
  ·rw [y] at this;cases this
theorem q6q{P:Program}{w:World}{H:Hp}{h:Heap}{a:Addr}{o:HO}(x:ObjOk P w H h a o):∃ u,h.get? a=some u:=by
 cases o with
 | lst xs=>obtain⟨_,_,_,_,q⟩:=x;exact⟨_,q⟩
 | tup xs=>obtain⟨_,_,_,u,q,_⟩:=x;exact⟨_,q⟩
 | dK kvs=>obtain⟨_,_,_,_,u,_,_,q,_⟩:=x;exact⟨_,q⟩
 | dT kvs=>obtain⟨_,_,_,_,u,_,_,q,_⟩:=x;exact⟨_,q⟩
 | set S n=>obtain⟨u,_,_,_,q,_⟩:=x;exact⟨_,q⟩
 | ins C dx fs=>obtain⟨_,_,_,q,_⟩:=x;exact⟨_,q⟩
 | own y=>exact x
 | xd fs=>obtain⟨_,⟨_,_,_,q,_⟩,_⟩:=x;exact⟨_,q⟩
 | rng lo hi=>obtain⟨_,_,_,q⟩:=x;exact⟨_,q⟩
 | frz ob u=>obtain⟨q,_⟩:=x;exact⟨_,q⟩
 | tbl ps=>exact⟨_,x⟩
 | met f y=>exact⟨_,x⟩
 | ext φ=>obtain⟨_,q,_⟩:=x;exact q
def XF(P:Program)(w:World):CXT:=fun outer H s E e s'=>∃(ea T:Addr) (C:Value) (H':Hp),e = .ref ea/\E C none H'/\s'.os=s.os/\AllBare s'.gens/\Un (frs outer) [] H H' s.heap s'.heap/\HOk P w H' s'.heap/\Xo s'.heap ea T C .none /\
 s.heap.get? ea=none/\s.heap.get? T=none/\H' ea=none/\H' T=none
section
variable{P:Program}{w:World}{K:PySem.W.Frag}{mg:Str->Option Value}{base:Heap}{N:List Str}{qual:Str}{scope:Scope}{f:Addr}{cd:Value}{A:Around}{outer:List Env}{s:Shared}{H:Hp}{E:XK}
theorem k4i:frs (envOfC qual scope s.heap.objs.size f cd :: outer)=s.heap.objs.size :: frs outer:=rfl
theorem j6d{b:Addr}{fs ex:List Addr}{Ha Hb:Hp}{h h1:Heap}(u:Un fs ex Ha Hb h h1)(hx:b∉ex)(n:h1.get? b=none):h.get? b=none:=by
 cases q:h.get? b with
 | none=>rfl
 | some o=>obtain⟨o',z⟩:=u.there b o q hx;rw [n] at z;cases z
theorem j7p{P:Program}{w:World}{Ha:Hp}{h1:Heap}{b:Addr}(x:HOk P w Ha h1)(n:h1.get? b=none):Ha b=none:=by
 cases q:Ha b with
 | none=>rfl
 | some o=>
  exfalso
  obtain⟨u,z⟩:=q6q (x b o q);rw [n] at z;cases z
theorem q1v{pins:List (Addr×Obj)}{σ:St}{H1:Hp}{s1:Shared}{e T:Addr}{C:Value}(I:Inv (cxOf (XF P w) P w K mg base N qual scope f cd A outer s H E) pins σ H1 s1)(x:Xo s1.heap e T C .none)(hE:E C none H1)
  (n1:s.heap.get? e=none) (n2:s.heap.get? T=none) (n3:H1 e=none) (n4:H1 T=none):(cxOf (XF P w) P w K mg base N qual scope f cd A outer s H E).xe (.ref e) s1:=by
 show wpAny (model P w) (A.deeper (envOfC qual scope s.heap.objs.size f cd)) (leaving (envOfC qual scope s.heap.objs.size f cd) (.ref e)) _ _ s1;unfold leaving;refine wpAny_bind (q14 (base:=base) (outer:=outer) I.ok.frames I.stack rfl x fun h' T' z x' k=>?_);refine⟨e,T',C,H1,rfl,hE,I.os,I.bare,q15 (H:=H) (h:=s.heap) I.base k (fun b o q hb=>?_) (fun b hb=>?_),k98 I.hok k (fun b hb=>I.stkFree b hb) (fun b hb=>?_),x',n1,j6d (ex:=[]) (Hb:=H1) I.base (by simp) z,n3,j7p I.hok z⟩
 ·rw [k4i] at hb
  rcases Ap.mp hb with y | y
  ·exact absurd (Aj q) (by rw [y];exact By _)
  ·exact y
 ·rcases Ap.mp hb with y | y
  ·rw [y];exact n1
  ·rw [Ag.mp y];exact n2
 ·rcases Ap.mp hb with y | y
  ·rw [y];exact n3
  ·rw [Ag.mp y];exact n4
theorem q7g:j4h (XF P w) (cxOf (XF P w) P w K mg base N qual scope f cd A outer s H E) E:=by
 rintro pins σ H1 s1 e s2 I ⟨ea,T,C,H',rfl,hE,os,bare,un,hok,x,n1,n2,n3,n4⟩;have I2:=I.call' (ch:=[]) os un hok bare (fun b z=>absurd z (by simp));exact q1v I2 x hE (j6d (ex:=[]) (Hb:=H1) I.base (by simp) n1) (j6d (ex:=[]) (Hb:=H1) I.base (by simp) n2) n3 n4
end
abbrev vmro:List Value:=[.type "ValueError",.type "Exception",.type "BaseException",.type "object"]
def XC(K:PySem.W.Frag)(C:Addr):Prop:=PySem.W.excIn K C vmro "ValueError.__new__" = true
theorem XC.obj{K:PySem.W.Frag}{h:Heap}{C:Addr}(q:XC K C)(X:K.In h):∃ bm N nm qn bs hdct sn sub ab col dd k0 k1 k2 k3 k5 mN,h.get? C=some (excClassObj nm qn C N bs bm hdct sn sub ab col dd k0 k1 k2 k3 k5 "ValueError.__new__")/\h.Ns N mN/\mN "__init__" = none/\OwnTail h vmro bm:=by
 unfold XC PySem.W.excIn at q
 split at q
 ·rename_i dd cd sl ho
  split at q
  ·rename_i D bm k0 k1 k2 k3 n k5 hm hs;simp only [Bu,beq_iff_eq,Bool.not_eq_true'] at q;obtain⟨⟨⟨⟨⟨eD,en⟩,hdel⟩,ht⟩,hok⟩,hni⟩:=q;obtain⟨nm,bs,mro,ns,qn,hd,sn,sub,ab,col,del⟩:=cd
   dsimp only at hm hdel hok hni
   subst eD en hm hdel;have esl:sl=#[k0,k1,k2,k3,some (.builtin "ValueError.__new__"),k5]:=by
    cases sl;simp only at hs;rw [hs]
   subst esl;exact⟨bm,ns,nm,qn,bs,hd,sn,sub,ab,col,dd,k0,k1,k2,k3,k5,_,X _ _ ho,.of_isNs (PySem.W.isNs_of_in X hok),PySem.W.nsMap_none_of_in X hok hni,PySem.W.tail_of_in X ht⟩
  ·cases q
 ·cases q
section
variable{X:Cx}{σ:St}{H:Hp}{D:Ends}{rest:List Stmt}
def Rz(X:Cx)(E:St->XK):Prop:=∀(pins:List (Addr×Obj)) (σ:St) (H:Hp) (s:Shared) (h':Heap) (e C:Addr) (args:List Value),Inv X pins σ H s->Heap.MadeExcOf s.heap h' e (.ref C) args->E σ (.ref C) none H->X.xe (.ref e) {s with heap:=h'}
theorem j16{E:St->XK}(hz:Rz X E){x:Str}{C:Addr}{a:Expr}{np cp pos:Pos}(hm:X.mg x=some (.ref C))(hC:XC X.K C)(hc:X.calm=true)(h:Ea X [a] σ H fun vs H1=>vs.length<=sizeLine/\E σ (.ref C) none H1)(hg:Gl X x:=by rfl)(hdb:(x == ("__debug__" : Str))=false:=by decide)
  (he:starEach [a] X.env=(false,eval a X.env) :: starEach [] X.env:=by rfl):Run X (.Raise (some (.Call (.Name x np) [a] [] cp)) none pos :: rest) D σ H:=by
 refine j2g (t:=fun D σ H=>Ea X [a] σ H fun vs H1=>vs.length<=sizeLine/\E σ (.ref C) none H1) ?_ h;intro pins s σ H D I h;obtain⟨bm,N,nm,qn,bs,hdct,sn,sub,ab,col,dd,k0,k1,k2,k3,k5,mN,oC,oN,oi,oT⟩:=hC.obj I.ok.mod.kin;refine wpAny_Raise_call_subT (C:=C) (nm:=nm) (q:=qn) (N:=N) (bs:=bs) (bm:=bm) (hdct:=hdct) (sn:=sn) (sub:=sub) (ab:=ab) (col:=col) (dd:=dd) (k0:=k0) (k1:=k1) (k2:=k2) (k3:=k3) (k5:=k5) PySem.F.excBase_ValueError (mN:=mN) (oT.hasType PySem.F.excBase_ValueError.hasBase) (I.ok.hd hc) (by rw [he];rfl) oi (k0i I hg hm ⟨rfl,?_⟩ hdb);have q:=h.run cp pins s I;rw [he] at q ⊢;refine Calls.evalArgs_plain (thn q fun us s2 ⟨vs,H2,I2,r,z2,q2⟩=>⟨rfl,by rw [<- r.length];exact z2,I2.bk _ _ oC,oN.keeps I2.bk,oT.keeps I2.bk,fun h' e hx=>hz pins σ H2 s2 h' e C us I2 hx q2⟩)
end
section
variable{P:Program}{w:World}{K:PySem.W.Frag}{mg:Str->Option Value}{base:Heap}{N:List Str}{qual:Str}{scope:Scope}{f:Addr}{cd:Value}{A:Around}{outer:List Env}{s:Shared}{H:Hp}{E:XK}
theorem q5c{h h':Heap}(k:∀ b o,h.get? b=some o->h'.get? b=some o):Kp [] [] h h':=⟨fun b o q _ _=>k b o q,fun b o q z=>absurd z (by simp)⟩
theorem q6y:Rz (cxOf (XF P w) P w K mg base N qual scope f cd A outer s H E) (fun _=>E):=by
 intro pins σ H1 s1 h' e C args I hx hE;obtain⟨t,he,_,_⟩:=hx.there;show wpAny (model P w) (A.deeper (envOfC qual scope s.heap.objs.size f cd)) (leaving (envOfC qual scope s.heap.objs.size f cd) (.ref e)) _ _ _;unfold leaving;have n0:H1 e=none:=j7p I.hok hx.new;have k1:=q5c hx.keeps;refine wpAny_bind (k7r (s:={s1 with heap:=h'}) (base:=base) (outer:=outer) I.ok.frames (I.stack.of_keeps fun b o q _=>⟨o,hx.keeps b o q,rfl⟩) rfl he rfl rfl rfl rfl fun h2 T z x k=>?_);have hok1:HOk P w H1 h':=I.hok.kept hx.keeps;have un1:Un (frs outer) [] H H1 s.heap h':=q15 (H:=H) (h:=s.heap) I.base k1 (fun b o q hb=>absurd hb (by simp)) fun b hb=>absurd hb (by simp);have nT:s1.heap.get? T=none:=by
  cases q:s1.heap.get? T with
  | none=>rfl
  | some o=>have:=hx.keeps _ _ q;exact absurd (this.symm.trans z) (by simp)
 have ns:s.heap.get? e=none:=j6d (ex:=[]) (Hb:=H1) I.base (by simp) hx.new;refine⟨e,T,.ref C,H1,rfl,hE,I.os,I.bare,q15 un1 k (fun b o q hb=>?_) (fun b hb=>?_),k98 hok1 k (fun b hb=>I.stkFree b hb) (fun b hb=>?_),x,ns,j6d (ex:=[]) (Hb:=H1) I.base (by simp) nT,n0,j7p I.hok nT⟩
 ·rw [k4i] at hb
  rcases Ap.mp hb with y | y
  ·exact absurd (Aj q) (by rw [y];exact By _)
  ·exact y
 ·rw [Ag.mp hb];exact ns
 ·rw [Ag.mp hb];exact n0
def cxX(N:List Str)(qual:Str)(scope:Scope)(P:Program)(w:World)(K:PySem.W.Frag)(mg:Str->Option Value)(base:Heap)(b:Bun):Cx:=cxOf (XF P w) P w K mg base N qual scope b.f b.cdv b.A b.outer b.s b.H b.E
theorem Fun.gx{x:Str}{st:Stmt}{fd:FuncData}{ps:List Str}{k:Nat}{sp:Sp}(F:Fun K x qual st f fd)(S:FnScope N ps (j0g st))(len:∀ vs H Q E,sp vs H Q E->vs.length=ps.length)
  (hbody:∀(b:Bun) (H:Hp) (vs:List V) (Q:VK),Room k (b.A.deeper (envOfC qual (j0g st) b.s.heap.objs.size b.f b.cdv))->sp vs H Q b.E->Run (cxX N qual (j0g st) P w K mg base b) (j17 st) (En Q) (start N vs) H):FnOk P w K mg base (XF P w) (k+1) f fd ps sp:=by
 obtain⟨oc,od,kV,doc,pm,an,cdv,ct,osl,rfl,lk,hcd⟩:=F.ex;refine q6m lk hcd S len fun A outer s H vs Q E hr hsp=>?_;exact⟨_,j39,hbody ⟨f,cdv,A,outer,s,H,E⟩ H vs Q hr hsp⟩
theorem j6e{b:Bun}:j4h (XF P w) (cxX N qual scope P w K mg base b) b.E:=q7g
theorem rzX{b:Bun}:Rz (cxX N qual scope P w K mg base b) (fun _=>b.E):=q6y
end
structure HasX(P:Program)(w:World)(K:PySem.W.Frag)(mg:Str->Option Value)(base:Heap)(k:Nat)(x:Str)(ps:List Str)(sp:Sp):Prop where
 ex:∃ f fd,FnOk P w K mg base (XF P w) k f fd ps sp/\Binds K fd ps []/\PySem.W.keepIn K (.ref f)=true/\mg x=some (.ref f)
theorem HasX.mono{P:Program}{w:World}{K:PySem.W.Frag}{mg:Str->Option Value}{base:Heap}{j k:Nat}{x:Str}{ps:List Str}{sp:Sp}(h:HasX P w K mg base j x ps sp)(le:j<=k):HasX P w K mg base k x ps sp:=
 let ⟨f,fd,F,r⟩:=h.ex;⟨f,fd,F.mono le,r⟩
theorem j1p{X:Cx}{k:Nat}{ps:List Str}{sp:Sp}{x:Str}{e:Expr}{es:List Expr}{σ:St}{H:Hp}{Q:VK}{E:XK}{p pos:Pos}(G:HasX X.prog X.w X.K X.mg X.base k x ps sp)(hr:Room k X.A)(hx:j4h (XF X.prog X.w) X E)
  (h:Ea X (e :: es) σ H fun vs H1=>sp vs H1 Q E) (hg:Gl X x:=by rfl) (hdb:(x == ("__debug__" : Str))=false:=by decide) (hs:noStar (e :: es)=true:=by rfl):Ev X (.Call (.Name x p) (e :: es) [] pos) σ H Q:=
 let ⟨_,_,F,b,kp,m⟩:=G.ex;k6y F hr m kp b hx h hg hdb hs
theorem Df.hasX{P:Program}{w:World}{K:PySem.W.Frag}{mg:Str->Option Value}{h base:Heap}{k:Nat}{x:Str}{st:Stmt}{ps:List Str}{sp:Sp}(d:Df K x st)(X:K.In h)(G:h.Ns mainGlobals mg)
  (hb:∀(kV doc pm:Value) (an:Option Addr) (cdv ct:Value) (us:List Value),us.length=ps.length->bindArgs (PySem.W.fnOf x x (j3t st) (j17 st) (j0g st) .none kV doc pm an cdv ct) ⟨us,[]⟩=pure (ps.zip us))
  (ok:∀{f:Addr} {fd:FuncData},Fun K x x st f fd->FnOk P w K mg base (XF P w) k f fd ps sp):HasX P w K mg base k x ps sp:=
 let ⟨f,fd,a,F⟩:=d;⟨f,fd,ok F,F.binds hb,F.kp,PySem.W.mg_of X G a⟩
section
variable{X:Cx}{CX:CXT}{k:Nat}{f:Addr}{fd:FuncData}{ps:List Str}{sp:Sp}{E:XK}{x:Str}{p pos:Pos}{e:Expr}{es:List Expr}{σ:St}{H:Hp}{Q:VK}
end
end L2
namespace L2
open PySem PySem.Spec PyProof.Rows
section
variable{X:Cx}{pins:List (Addr×Obj)}{σ:St}{H:Hp}{s:Shared}{b:Addr}
end
def k95(K:PySem.W.Frag)(C S:Addr):Bool:=match K.lookup C with
 | some ⟨_,_,.cls cd,_⟩=>cd.mro.contains (.ref S)
 | _=>false
section
variable{M:Model}{A:Around}{E:Value->Shared->Prop}{K:PySem.W.Frag}{s:Shared}
end
end L2
namespace L2
open PySem PySem.Spec PyProof.Rows
section
variable{X:Cx}{pins:List (Addr×Obj)}{σ:St}{H:Hp}{s:Shared}
end
end L2
namespace L2
open PySem PySem.Spec PyProof.Rows PySem.W
section
variable{prog:Program}{w:World}{A:Around}{E:Value->Shared->Prop}{s:Shared}{K:Frag}{a C:Addr}{o:Obj}
def q50(K:Frag)(C:Addr):Bool:=findIn K (.ref C) "__getattribute__" == some (some (.builtin "BaseException.__getattribute__")) && findIn K (.ref C) "__getattr__" == some none && findIn K (.ref C) "__class__" == some (some (.builtin "object.__class__")) &&
 mroIn K C (.type "object") == some true && mroIn K C (.type "BaseException") == some true && (clsIn K C).isSome
end
end L2
namespace L2
open PySem PySem.Spec PyProof.Rows
section
variable{prog:Program}{w:World}{A:Around}{E:Value->Shared->Prop}{s:Shared}
end
end L2
namespace L2
open PySem PySem.Spec PyProof.Rows
section
variable{X:Cx}{tg:Expr}
end
section
variable{X:Cx}{elt tg iter:Expr}{ifs:List Expr}{scope:Scope}{pos:Pos}{N':List Str}{n:Nat}{wi:TI}{g:TG}{tc:TT}{te:TE}
end
section
variable{X:Cx}{elt tg iter c:Expr}{ifs:List Expr}{scope:Scope}{pos p:Pos}{wi:TI}{σ:St}{H:Hp}{Q:VK}{T:Bool->Hp->Prop}{rest:List Stmt}{D:Ends}
end
end L2
namespace L2
open PySem PySem.Spec PyProof.Rows
section
variable{X:Cx}{k:Nat}{ps:List Str}{sp:Addr->Obj->Sp}{E:XK}{x:Str}{p pos:Pos}{e:Expr}{es:List Expr}{σ:St}{H:Hp}{Q:VK}
end
end L2
namespace R4
open PySem L2 Nt Sort2 SetT
open PyProof.Rows (sortedS)
def spTs:Sp:=fun vs H Q _=>∃(R:Addr) (as:List (Addr×Addr)) (n:Net),vs=[.ref R]/\RowsAt H R as n/\n.length<=1000/\(ties n).length<=900/\(∀ zs:List Str,zs.Nodup->(∀ z∈zs,z∈ties n)->zs.length < 64) /\
 ∀(L:Addr) (ss:List Str) (H':Hp),Same H H'->H L=none->H' L=some (Ls ss)->ss.Nodup->sortedS ss=true->(∀ z,z∈ss↔z∈ties n)->Q (.ref L) H'
theorem j56{zs:List Str}{z:Str}(h:zs.Nodup):(added zs z).Nodup:=by
 unfold added
 split
 ·exact h
 ·rename_i hz;exact j3r h hz
theorem j8t{zs:List Str}{z y:Str}:y∈added zs z↔y∈zs\/y=z:=by
 unfold added
 split
 ·rename_i hz;refine⟨.inl,fun h=>h.elim id fun e=>?_⟩;rw [e];exact hz
 ·rw [At,Ag]
theorem j9q{n:Net}{r:Nat}(h:r < n.length):ties (n.take (r+1))=ties (n.take r)++row n r:=by
 rw [j3f h];unfold ties;rw [Bt,Ab h,Dg];simp
theorem k_ll(K:PySem.W.Frag):PySem.W.kitOne K (.type "list") (.type "list")=some true:=by rfl
theorem k_tt(K:PySem.W.Frag):PySem.W.kitOne K (.type "tuple") (.type "tuple")=some true:=by rfl
theorem k_ss(K:PySem.W.Frag):PySem.W.kitOne K (.type "str") (.type "str")=some true:=by rfl
def k4m:Sp:=fun vs H Q _=>∃(R R':Addr) (as bs:List (Addr×Addr)) (n:Net),vs=[.ref R,.ref R']/\RowsAt H R as n/\RowsAt H R' bs n/\n.length<=1000/\Q (.bl true) H
def xNames:List Str:=["TooMany","NoTie","NoCorner","NoFace","Taken","Bridge","Loop"]
structure Cl(K:PySem.W.Frag)(mg:Str->Option Value)(c:Str->Addr):Prop where
 net:mg "NetError" = some (.ref (c "NetError"))
 xnet:XC K (c "NetError")
 at':∀ x∈xNames,mg x=some (.ref (c x))/\XC K (c x)/\k95 K (c x) (c "NetError")=true/\q50 K (c x)=true/\PySem.W.kitOne K (.ref (c x)) (.type "ValueError")=some true
 kit:∀ x∈xNames,∀ y∈xNames,PySem.W.kitOne K (.ref (c x)) (.ref (c y))=some (decide (x=y))
def cAd(K:PySem.W.Frag)(x:Str):Addr:=match PySem.W.nsIn K mainGlobals x with
 | some (some (.ref a))=>a
 | _=>0
def clB(K:PySem.W.Frag):Bool:=(PySem.W.nsIn K mainGlobals "NetError" == some (some (.ref (cAd K "NetError")))) && PySem.W.excIn K (cAd K "NetError") vmro "ValueError.__new__" &&
 xNames.all fun x=>(PySem.W.nsIn K mainGlobals x == some (some (.ref (cAd K x)))) && PySem.W.excIn K (cAd K x) vmro "ValueError.__new__" && k95 K (cAd K x) (cAd K "NetError") && q50 K (cAd K x) && (PySem.W.kitOne K (.ref (cAd K x)) (.type "ValueError") == some true) &&
  xNames.all fun y=>PySem.W.kitOne K (.ref (cAd K x)) (.ref (cAd K y)) == some (decide (x=y))
theorem q7b{K:PySem.W.Frag}{h:Heap}{mg:Str->Option Value}(X:K.In h)(G:h.Ns mainGlobals mg)(q:clB K=true):Cl K mg (cAd K):=by
 unfold clB at q;simp only [Bu,Dk,beq_iff_eq] at q;obtain⟨⟨q1,q2⟩,q3⟩:=q;exact⟨PySem.W.mg_of X G q1,q2,fun x hx=>by obtain⟨⟨⟨⟨⟨a1,a2⟩,a3⟩,a4⟩,a5⟩,_⟩:=q3 x hx;exact⟨PySem.W.mg_of X G a1,a2,a3,a4,a5⟩,fun x hx y hy=>(q3 x hx).2 y hy⟩
section
variable{P:Program}{w:World}{K:PySem.W.Frag}{mg:Str->Option Value}{base:Heap}
abbrev NTi1:List Str:=["rows"]
abbrev NTi2:List Str:=["rows","point","ties","tie"]
theorem scTies:FnScope NTi1 ["rows"] (j0g j4l):=⟨rfl,rfl,rfl,by decide +kernel,rfl,by decide +kernel,by decide +kernel⟩
theorem k33:NTi2.Nodup:=by decide +kernel
theorem q3a{f:Addr}{fd:FuncData}(F:Fun K "ties_of" "ties_of" j4l f fd)(T:Txt mg):FnOk P w K mg base CX0 1 f fd ["rows"] spTs:=by
 refine F.gb scTies (fun vs H Q E h=>?_) (fun b0 H vs Q E hr h=>?_)
 ·obtain⟨R,as,n,rfl,_⟩:=h;rfl
 obtain⟨R,as,n,rfl,hR,hn,ht,hfew,q⟩:=h;have nd:=scTies.nd;have hal:=hR.len;have sub:∀(zs:List Str) (r:Nat) (ys:List Str),zs.Nodup->(∀ z,z∈zs->z∈ties n)->zs.length < 64:=fun zs r ys h1 h2=>hfew zs h1 h2;have tsub:∀ r,r < n.length->∀ z,z∈ties (n.take r)\/z∈row n r->z∈ties n:=fun r hr' z hz=>by
  have e:ties n=ties (n.take (r+1))++ties (n.drop (r+1)):=by
   unfold ties;rw [<- Dg,Cn]
  rw [e,j9q hr']
  rcases hz with h | h <;> simp [h]
 show Run _ _ _ [some (.ref R)] H;refine j0r (j0y (j52 rfl) T.sorted PyProof.Rows.boot_sorted (j0a (k5t (j0g j4l) NTi1 NTi2 3 (j1u j05) (ev_v 0 ⟨R,rfl,⟨_,SqL.of hR.lst⟩,fun D hD cl C s₀ H₀ ex=>?_⟩))));refine j2w (xs:=as.map fun a=>V.ref a.1) (fun r σ' H'=>(∃ v1 v2 v3,σ'=[some (.ref R)]++[v1,v2,v3])/\∃ zs:List Str,Same H H'/\H' D=some (SetO P w D zs)/\zs.Nodup/\∀ z,z∈zs↔z∈ties (n.take r)) ⟨⟨none,none,none,rfl⟩,[],j0e hD _,j0b,Cs,fun z=>Iff.rfl⟩ ?_ ?_ ?_
 ·rintro r σ' H' _ ⟨_,zs,sm,_⟩;exact SqL.of (sm _ _ hR.lst)
 ·rintro r x σ' H' hx ⟨⟨v1,v2,v3,rfl⟩,zs,sm,eD,zn,zm⟩;have hi:r < n.length:=by
   have:=(Ac.mp hx).1;rw [Aa] at this;omega
  obtain⟨a,ea,eat,et,el,er⟩:=(hR.same sm).at hi;rw [Ad,ea] at hx;cases hx;refine j15 rfl (SqT.of et) (j0k 1 k33 (j0k 2 k33 ?_));refine j2v ?_;rw [if_pos rfl];refine k5x rfl rfl (j1u j05) (ev_v 2 ⟨a.2,rfl,⟨_,SqL.of el⟩,?_⟩);have naD:a.2≠D:=j1s el eD fun z=>nomatch z;refine j2w (xs:=(row n r).map V.str) (fun p σ' H''=>(∃ v3,σ'=[some (.ref R)]++[some (.str n[r].1),some (.ref a.2),v3])/\∃ zs:List Str,(∀ b o,b≠D->H' b=some o->H'' b=some o)/\H'' D=some (SetO P w D zs)/\zs.Nodup/\∀ z,z∈zs↔z∈ties (n.take r)\/z∈(row n r).take p)
   ⟨⟨_,rfl⟩,zs,fun b o _ h=>h,eD,zn,fun z=>by rw [zm z];simp⟩ ?_ ?_ ?_
  ·rintro p σ' H'' _ ⟨_,zs,kb,_⟩;exact SqL.of (kb _ _ naD el)
  ·rintro p x σ' H'' hx ⟨⟨v3,rfl⟩,zs,kb,eD6,zn6,zm6⟩;rw [Ad,Aw] at hx;obtain⟨z,hz,rfl⟩:=hx;refine j0k 3 k33 ?_;refine j2v ?_;rw [if_pos rfl];have hl:zs.length < 64:=hfew zs zn6 fun y hy=>tsub r hi y (((zm6 y).mp hy).imp id fun h=>List.mem_of_mem_take h);refine k40 (ev_v 3 ⟨z,zs,rfl,eD6,by omega,⟨_,rfl⟩,added zs z,fun b o hb h=>by rw [j0d hb];exact kb b o hb h,j0b,j56 zn6,fun y=>?_⟩);rw [j8t,zm6 y,Bt,hz,or_assoc];simp
  ·rintro σ' H'' ⟨⟨v3,rfl⟩,zs,kb,eD6,zn6,zm6⟩;refine⟨⟨_,_,_,rfl⟩,zs,fun b o h=>kb b o (j0f h hD) (sm _ _ h),eD6,zn6,fun z=>?_⟩;rw [zm6 z,Aa,Bp,j9q hi,At]
 ·rintro σ' H' ⟨_,zs,sm,eD,zn,zm⟩;rw [Aa,hal,Bp] at zm;refine j0c ⟨D,zs,rfl,eD,hfew zs zn fun y hy=>(zm y).mp hy,fun l ss hl hp hs=>?_⟩;exact q l ss _ (sm.trans (j0e hl _)) (j0n sm hl) j0b (hp.nodup_iff.mpr zn) hs fun z=>by rw [hp.mem_iff,zm z]
abbrev NSm:List Str:=["_law_told","_law_due","_law_k","_law_row"]
theorem scSame:FnScope NSm ["_law_told","_law_due"] (j0g j7z):=⟨rfl,rfl,rfl,by decide +kernel,rfl,by decide +kernel,by decide +kernel⟩
theorem q2u{f:Addr}{fd:FuncData}(F:Fun K "_law_same" "_law_same" j7z f fd)(T:Txt mg):FnOk P w K mg base CX0 1 f fd ["_law_told","_law_due"] k4m:=by
 refine F.gb scSame (fun vs H Q E h=>?_) (fun b0 H vs Q E hr h=>?_)
 ·obtain⟨R,R',as,bs,n,rfl,_⟩:=h;rfl
 obtain⟨R,R',as,bs,n,rfl,hR,hR',hn,q⟩:=h;have nd:=scSame.nd;have la:=hR.len;have lb:=hR'.len;have un:=hr.u100;show Run _ _ _ [some (.ref R),some (.ref R'),none,none] H;refine j6o (fun k H4=>k=false/\H4=H) (fun σ' H'=>H'=H/\σ'=[some (.ref R),some (.ref R'),none,none]) ?_ (fun H4 h=>by cases h.1) (fun H4 h=>j0i ⟨h.2,rfl⟩) ?_
 ·refine j3q (k0y (j3l (j32 (j0y j4f T.isi PyProof.Rows.boot_isinstance (j0a (ev_v 0 (j0a (j6c (.ty "list") T.tlist PyProof.Rows.boot_list rfl (j0c ⟨_,_,_,true,rfl,.lst hR.lst,k_ll K,true,rfl,?_⟩)))))))));rw [if_neg (show ¬(!true)=true by simp)];refine j9j (j09 k3d (j0y j0l T.len boot_len (j0a (ev_v 0 (j0c ⟨R,_,rfl,.inl (SqL.of hR.lst),j0y j0l T.len boot_len (j0a (ev_v 1 (j0c ⟨R',_,rfl,.inl (SqL.of hR'.lst),?_⟩)))⟩)))));rw [Aa,Aa,la,lb];exact⟨rfl,_,rfl,by show(!(V.int _ == V.int _))=false;simp,rfl⟩
 ·rintro σ' H' ⟨rfl,rfl⟩;refine j1q T.range (j0y j0l T.len boot_len (j0a (ev_v 1 (j0c ⟨R',_,rfl,.inl (SqL.of hR'.lst),?_⟩))));rw [Aa,lb];refine⟨(n.length:Int),rfl,by omega,by omega,j1j (n:=n.length) (fun i σ H3=>H3=H'/\∃(u v:Option V),σ=[some (.ref R),some (.ref R'),u,v]) ⟨rfl,_,_,rfl⟩ ?_ ?_⟩
  ·rintro i σ H3 hi ⟨rfl,u,v,rfl⟩;obtain⟨a,ea,eat,et,el,er⟩:=hR.at hi;obtain⟨b,eb,ebt,et',el',er'⟩:=hR'.at hi;have e0:(0:Int)+(i:Int)=(i:Int):=De _;refine j0k 2 nd ?_;rw [e0];refine j0j 3 nd (j0q j0s (ev_v 0 (ev_v 2 ⟨R,_,_,.ref a.1,rfl,rfl,SqL.of hR.lst,eat,?_⟩)));show Run _ _ _ [some (.ref R),some (.ref R'),some (.int i),some (.ref a.1)] H3;refine j6o (fun k H4=>k=false/\H4=H3) (fun σ' H'=>H'=H3/\σ'=[some (.ref R),some (.ref R'),some (.int i),some (.ref a.1)]) ?_ (fun H4 h=>by cases h.1) (fun H4 h=>j0i ⟨h.2,rfl⟩) ?_
   ·refine j3q (k0y (j3l (j32 (j0y j4f T.isi PyProof.Rows.boot_isinstance (j0a (ev_v 3 (j0a (j6c (.ty "tuple") T.ttuple PyProof.Rows.boot_tuple rfl (j0c ⟨_,_,_,true,rfl,.tup et,k_tt K,true,rfl,?_⟩)))))))));rw [if_neg (show ¬(!true)=true by simp)];refine k0y (j09 k3d (j0y j0l T.len boot_len (j0a (ev_v 3 (j0c ⟨a.1,_,rfl,.inr (SqT.of et),j0h ⟨rfl,_,rfl,?_⟩⟩)))));rw [if_neg (by simp)];refine k0y (j3l (j32 (j0y j4f T.isi PyProof.Rows.boot_isinstance (j0a (j0q j0x (ev_v 3 (j0h ⟨a.1,_,_,.str n[i].1,rfl,rfl,SqT.of et,rfl,j0a (j6c (.ty "str") T.tstr PyProof.Rows.boot_str rfl (j0c ⟨_,_,_,true,rfl,.str _,k_ss K,true,rfl,?_⟩))⟩)))))));rw [if_neg (show ¬(!true)=true by simp)];refine j9j (j3l (j32 (j0y j4f T.isi PyProof.Rows.boot_isinstance (j0a (j0q j0x (ev_v 3 (j0h ⟨a.1,_,_,.ref a.2,rfl,rfl,SqT.of et,rfl,j0a (j6c (.ty "list") T.tlist PyProof.Rows.boot_list rfl (j0c ⟨_,_,_,true,rfl,.lst el,k_ll K,true,rfl,rfl,rfl⟩))⟩)))))))
   ·rintro σ' H' ⟨rfl,rfl⟩;refine j6o (fun k H4=>k=false/\H4=H') (fun σ' H''=>H''=H'/\σ'=[some (.ref R),some (.ref R'),some (.int i),some (.ref a.1)]) ?_ (fun H4 h=>by cases h.1) (fun H4 h=>j0i ⟨h.2,rfl⟩) ?_
    ·refine j3q (k0y (j09 k3d (j0q j0x (ev_v 3 (j0h ⟨a.1,_,_,.str n[i].1,rfl,rfl,SqT.of et,rfl,j0q j0x (j0q j0s (ev_v 1 (ev_v 2 ⟨R',_,_,.ref b.1,rfl,rfl,SqL.of hR'.lst,ebt,j0h ⟨b.1,_,_,.str n[i].1,rfl,rfl,SqT.of et',rfl,rfl,_,rfl,?_⟩⟩)))⟩)))));rw [if_neg (by simp)];refine j9j (j09 (j5w un) (j0q j0x (ev_v 3 (j0h ⟨a.1,_,_,.ref a.2,rfl,rfl,SqT.of et,rfl,j0q j0x (j0q j0s (ev_v 1 (ev_v 2 ⟨R',_,_,.ref b.1,rfl,rfl,SqL.of hR'.lst,ebt,j0h ⟨b.1,_,_,.ref b.2,rfl,rfl,SqT.of et',rfl,1,true,by decide,k7x el el',_,rfl,rfl,rfl⟩⟩)))⟩))))
    ·rintro σ' H'' ⟨rfl,rfl⟩;exact j0i ⟨rfl,_,_,rfl⟩
  ·rintro σ H3 ⟨rfl,u,v,rfl⟩;exact j0r (k0q q)
end
end R4
namespace Nt
open PySem L2
section
variable{n:Net}{z:Str}{r k:Nat}
def hldK(n:Net)(z:Str)(k:Nat):List Nat:=(List.range k).filter fun r=>decide (z∈row n r)
abbrev hld(n:Net)(z:Str):List Nat:=hldK n z n.length
theorem j6l:hldK n z (k+1)=hldK n z k++(if z∈row n k then [k] else []):=by
 unfold hldK;rw [Db,Cd]
 congr 1
 by_cases h:z∈row n k
 ·rw [if_pos h,Bk,if_pos (decide_eq_true h)];rfl
 ·rw [if_neg h,Bk,if_neg (by simpa using h)];rfl
theorem hld_mem:r∈hldK n z k↔r < k/\z∈row n r:=by
 unfold hldK;rw [Cf,Bj,decide_eq_true_iff]
theorem k6b:(hldK n z k).Nodup:=List.Pairwise.filter _ Ey
theorem k2f(h:r < n.length):row n r=n[r].2:=by unfold row;rw [Ab h];rfl
theorem j8o(h:r < n.length):ties (n.take (r+1))=ties (n.take r)++row n r:=by
 rw [k2f h];unfold ties;rw [Bt,Ab h,Dg];simp
theorem j4t:ties n=ties (n.take k)++ties (n.drop k):=by
 unfold ties;rw [<- Dg,Cn]
theorem k6h(h:r < n.length)(q:z∈row n r):z∈ties n:=by
 rw [j4t (k:=r+1),j8o h];simp [q]
theorem j8l(h:r < n.length):(row n r).length<=(ties n).length:=by
 rw [j4t (k:=r+1),j8o h];simp only [Af];omega
theorem q0y(q:z∈ties n):∃ r,r < n.length/\z∈row n r:=by
 unfold ties at q;obtain⟨x,hx,hz⟩:=Fs.mp q;obtain⟨r,hr,e⟩:=Ce.mp hx;exact⟨r,hr,by rw [k2f hr,e];exact hz⟩
theorem j85:∀{k:Nat},k<=n.length->(hldK n z k).length<=(ties (n.take k)).count z
 | 0,_=>Bn _
 | k+1,h=>by
  have ih:=j85 (k:=k) (by omega);rw [j6l,j8o (by omega),Af,List.count_append]
  by_cases c:z∈row n k
  ·rw [if_pos c];have:=Fi.mpr c;show _+1<=_;omega
  ·rw [if_neg c];show _+0<=_;omega
theorem k43(T:j04 n)(hz:z∈ties n):(∃ r,hld n z=[r])\/∃ r0 r1,hld n z=[r0,r1]:=by
 have h1:(hldK n z n.length).length<=_:=j85 (Ah n.length);rw [Bp,T z hz] at h1;obtain⟨r,hr,q⟩:=q0y hz;have h2:r∈hld n z:=hld_mem.mpr ⟨hr,q⟩
 match h:hld n z,h1,h2 with
 | [],_,h2=>exact nomatch h2
 | [a],_,_=>exact .inl ⟨a,rfl⟩
 | [a,b],_,_=>exact .inr ⟨a,b,rfl⟩
 | a :: b :: c :: l,h1,_=>rw [show hldK n z n.length=_ from h] at h1;simp only [An] at h1;omega
structure Two(n:Net)(z:Str)(r0 r1:Nat):Prop where
 ne:r0≠r1
 l0:r0 < n.length
 l1:r1 < n.length
 m0:z∈row n r0
 m1:z∈row n r1
 only:∀ r,r < n.length->z∈row n r->r=r0\/r=r1
theorem q4z{r0 r1:Nat}(h:hld n z=[r0,r1]):Two n z r0 r1:=by
 have nd:(hld n z).Nodup:=k6b;have m0:r0∈hld n z:=by rw [h];simp
 have m1:r1∈hld n z:=by rw [h];simp
 have a0:=hld_mem.mp m0;have a1:=hld_mem.mp m1;refine⟨fun e=>?_,a0.1,a1.1,a0.2,a1.2,fun r hr q=>?_⟩
 ·rw [h,e] at nd;simp at nd
 ·have:r∈hld n z:=hld_mem.mpr ⟨hr,q⟩;rw [h] at this
  simpa using this
def ixOf:List Str->Str->Nat
 | [],_=>0
 | y :: ys,z=>if y=z then 0 else ixOf ys z+1
theorem k37:∀{zs:List Str},z∈zs->zs[ixOf zs z]?=some z/\z∉zs.take (ixOf zs z)
 | [],h=>nomatch h
 | y :: ys,h=>by
  unfold ixOf
  by_cases e:y=z
  ·rw [if_pos e];exact⟨by rw [e];rfl,by simp⟩
  ·rw [if_neg e];obtain⟨h1,h2⟩:=k37 (zs:=ys) (by
    rcases Ap.mp h with q | q
    ·exact absurd q.symm e
    ·exact q)
   refine⟨h1,fun q=>?_⟩;rw [List.take_succ_cons] at q
   rcases Ap.mp q with q | q
   ·exact e q.symm
   ·exact h2 q
def j6u(a b:List Str)(z:Str):List Str:=a.take (ixOf a z)++(b.drop (ixOf b z+1)++b.take (ixOf b z))++a.drop (ixOf a z+1)
def shrR(n:Net)(z:Str)(r0 r1 r:Nat):Str×List Str:=(nmA n r,if r=r0 then j6u (row n r0) (row n r1) z else row n r)
def shrK(n:Net)(z:Str)(r0 r1 k:Nat):Net:=((List.range k).filter fun r=>decide (r≠r1)).map (shrR n z r0 r1)
abbrev shr(n:Net)(z:Str)(r0 r1:Nat):Net:=shrK n z r0 r1 n.length
theorem j9m{r0 r1:Nat}:shrK n z r0 r1 (k+1)=shrK n z r0 r1 k++(if k=r1 then [] else [shrR n z r0 r1 k]):=by
 unfold shrK;rw [Db,Cd,Ai]
 congr 1
 by_cases h:k=r1
 ·rw [if_pos h,Bk,if_neg (by simpa using h)];rfl
 ·rw [if_neg h,Bk,if_pos (decide_eq_true h)];rfl
theorem j7o{r0 r1:Nat}:(shrK n z r0 r1 k).length<=k:=by
 unfold shrK;rw [Aa];exact Bv (Ch ..) (by rw [Cw];exact Ah _)
end
abbrev Out:=Str ⊕ Net
def outS(n:Net)(z:Str):Out:=match hld n z with
 | []=> .inl "NoTie"
 | [_]=> .inl "Loop"
 | r0 :: r1 :: _=> .inr (shr n z r0 r1)
theorem q4v{n:Net}{z:Str}(h:z∉ties n):outS n z = .inl "NoTie":=by
 have:hld n z=[]:=List.eq_nil_iff_forall_not_mem.mpr fun r q=>h (k6h (hld_mem.mp q).1 (hld_mem.mp q).2);unfold outS;rw [this]
theorem k8e{n:Net}{z:Str}{r:Nat}(h:hld n z=[r]):outS n z = .inl "Loop":=by
 unfold outS;rw [h]
theorem k6w{n:Net}{z:Str}{r0 r1:Nat}(h:hld n z=[r0,r1]):outS n z = .inr (shr n z r0 r1):=by
 unfold outS;rw [h]
structure Bld(H0 H:Hp)(D:Addr)(bs:List (Addr×Addr))(m:Net):Prop where
 rows:RowsAt H D bs m
 new:∀ a∈bs,H0 a.1=none/\H0 a.2=none
 nD:∀ a∈bs,a.1≠D/\a.2≠D
theorem Bld.same{H0 H H':Hp}{D:Addr}{bs:List (Addr×Addr)}{m:Net}(b:Bld H0 H D bs m)(s:Same H H'):Bld H0 H' D bs m:=⟨b.rows.same s,b.new,b.nD⟩
theorem Bld.nil{H0 H:Hp}{D:Addr}(h:H D=some (.lst [])):Bld H0 H D [] []:=⟨⟨rfl,h,fun i a r h=>(by simp at h),Cs⟩,fun a h=>(by simp at h),fun a h=>(by simp at h)⟩
theorem Bld.in_heap{H0 H:Hp}{D:Addr}{bs:List (Addr×Addr)}{m:Net}(b:Bld H0 H D bs m){a:Addr×Addr}(h:a∈bs):H a.1≠none/\H a.2≠none:=by
 obtain⟨i,hi⟩:=Az h;have hl:=(Ac.mp hi).1;have:=b.rows.len;obtain⟨q1,q2⟩:=b.rows.tup i a _ hi (Ab (by omega));exact⟨by rw [q1];simp,by rw [q2];simp⟩
theorem Bld.add{H0 H:Hp}{D t l:Addr}{bs:List (Addr×Addr)}{m:Net}{p:Str}{zs:List Str}(b:Bld H0 H D bs m)(hl:H l=some (Ls zs))(l0:H0 l=none)(ln:l∉bs.map (·.2))(nl:l≠D)(ht:H t=none)(t0:H0 t=none) :
  Bld H0 (upd (upd H t (.tup [.str p,.ref l])) D (.lst ((bs.map fun a=>V.ref a.1)++[.ref t]))) D (bs++[(t,l)]) (m++[(p,zs)]):=by
 have ntD:t≠D:=fun e=>by rw [e,b.rows.lst] at ht;cases ht
 have ntl:t≠l:=fun e=>by rw [e,hl] at ht;cases ht
 have len:=b.rows.len;have keep:∀ x o,x≠D->H x=some o->(upd (upd H t (.tup [.str p,.ref l])) D (.lst ((bs.map fun a=>V.ref a.1)++[.ref t]))) x=some o:=fun x o h1 h2=>by
  rw [j0d h1,j0d (j0f h2 ht)];exact h2
 refine⟨⟨by rw [Af,Af,len];rfl,by rw [j0b,Ai];rfl,fun i a r h1 h2=>?_,?_⟩,fun a ha=>?_,fun a ha=>?_⟩
 ·by_cases hi:i < bs.length
  ·rw [Ar hi] at h1;rw [Ar (by omega)] at h2;have nn:=b.nD a (Av h1);obtain⟨q1,q2⟩:=b.rows.tup i a r h1 h2;exact⟨keep _ _ nn.1 q1,keep _ _ nn.2 q2⟩
  ·rw [Ay (by omega)] at h1;rw [Ay (by omega)] at h2;have e:i - bs.length=0:=by
    have:=(Ac.mp h1).1;simp at this;omega
   rw [e] at h1;rw [<- len,e] at h2;cases h1;cases h2;exact⟨by rw [j0d ntD,j0b],keep _ _ nl hl⟩
 ·rw [Ai];refine Cy.mpr ⟨b.rows.inj,by simp,fun x hx y hy e=>?_⟩;have hy:=Ag.mp hy;exact ln (by rw [<- show y=l from hy,<- e];exact hx)
 ·rcases At.mp ha with h | h
  ·exact b.new a h
  ·rw [Ag.mp h];exact⟨t0,l0⟩
 ·rcases At.mp ha with h | h
  ·exact b.nD a h
  ·rw [Ag.mp h];exact⟨ntD,nl⟩
def rwKv(n:Net)(as:List (Addr×Addr)):List (Key×V):=List.zipWith (fun r a=>(Sum.inr r.1,V.ref a.2)) n as
theorem j6k:∀(n:Net) (as:List (Addr×Addr)),as.length=n.length->(rwKv n as).map (·.1)=(n.map (·.1)).map Sum.inr
 | [],_,_=>by simp [rwKv]
 | r :: n,[],h=>by simp at h
 | r :: n,a :: as,h=>by
  have:=j6k n as (by simpa using h);show Sum.inr r.1 :: (rwKv n as).map (·.1)=_;rw [this];rfl
theorem k56{n:Net}{as:List (Addr×Addr)}{i:Nat}{r:Str×List Str}{a:Addr×Addr}(h1:n[i]?=some r)(h2:as[i]?=some a):(rwKv n as)[i]?=some (Sum.inr r.1,.ref a.2):=by
 unfold rwKv;rw [List.getElem?_zipWith,h1,h2]
theorem q6a{κ:Type} [DecidableEq κ]:∀{kvs:List (κ×V)} {i:Nat} {p:κ×V},(kvs.map (·.1)).Nodup->kvs[i]?=some p->valV kvs p.1=some p.2
 | [],_,_,_,h=>by simp at h
 | q :: r,0,p,_,h=>by
  cases h;exact j1k rfl
 | q :: r,i+1,p,hn,h=>by
  rw [Bc,Cp] at hn;have hm:r[i]?=some p:=by simpa using h
  rw [j1g fun e=>hn.1 (by rw [e];exact Ak.mpr ⟨p,Av hm,rfl⟩)];exact q6a hn.2 hm
theorem q09{kvs:List (Key×V)}{k:Key}{v:V}(h:k∉kvs.map (·.1)):putK kvs k v=kvs++[(k,v)]:=by
 unfold putK;rw [if_neg];intro q;rw [Di] at q;obtain⟨x,hx,e⟩:=q;exact h (Ak.mpr ⟨x,hx,of_decide_eq_true e⟩)
theorem k2c:∀{kvs acc:List (Key×V)},((acc++kvs).map (·.1)).Nodup->kvs.foldl (fun a p=>putK a p.1 p.2) acc=acc++kvs
 | [],acc,_=>by simp
 | p :: kvs,acc,h=>by
  rw [Dh,q09 (v:=p.2) (k:=p.1) (by
   rw [Ai,Bc] at h;exact fun q=>(Cy.mp h).2.2 _ q _ (Au ..) rfl),k2c (by rw [Bm];exact h),Bm]
  rfl
theorem k2o{n:Net}{as:List (Addr×Addr)}(hl:as.length=n.length)(hN:(n.map (·.1)).Nodup):((rwKv n as).map (·.1)).Nodup:=by
 rw [j6k n as hl];exact List.Pairwise.map _ (fun a b h e=>h (Sum.inr.inj e)) hN
end Nt
namespace R4
open PySem L2 Nt Sort2 SetT
open PyProof.Rows (sortedS)
def Few(n:Net):Prop:=∀ zs:List Str,zs.Nodup->(∀ z∈zs,z∈ties n)->zs.length < 64
def k1j(c:Str->Addr):Sp:=fun vs H Q E=>∃(R:Addr) (as:List (Addr×Addr)) (n:Net) (z:Str),vs=[.ref R,.str z]/\RowsAt H R as n/\n.length<=1000/\(ties n).length<=900/\Few n /\
 (z∉ties n->∀ H',Same H H'->E (.ref (c "NoTie")) none H')/\(z∈ties n->∀ H',Same H H'->Q .non H')
def Sm(m:Net):Prop:=m.length<=1000/\∀ r∈m,r.2.length<=5000
def j7d(c:Str->Addr)(out:Net->Str->Out):Sp:=fun vs H Q E=>∃(R:Addr) (as:List (Addr×Addr)) (n:Net) (z:Str),vs=[.ref R,.str z]/\RowsAt H R as n/\j04 n/\(n.map (·.1)).Nodup/\n.length<=60/\(ties n).length<=60/\Few n /\
 (∀ x,out n z = .inl x->∀ H',Same H H'->E (.ref (c x)) none H') /\
 ∀ m,out n z = .inr m->∀ L bs H',Same H H'->H L=none->(∀ a∈bs,H a.1=none/\H a.2=none)->RowsAt H' L bs m->Sm m->Q (.ref L) H'
section
variable{P:Program}{w:World}{K:PySem.W.Frag}{mg:Str->Option Value}{base:Heap}
theorem j2u(zs:List Str)(z:Str):zs.contains z=decide (z∈zs):=by
 rw [Cr,decide_eq_true_iff,Dm]
abbrev NNd:List Str:=["rows","tie"]
theorem scNeed:FnScope NNd ["rows","tie"] (j0g j4w):=⟨rfl,rfl,rfl,by decide +kernel,rfl,by decide +kernel,by decide +kernel⟩
theorem q2w{f:Addr}{fd:FuncData}{c:Str->Addr}(F:Fun K "need_tie" "need_tie" j4w f fd)(T:Txt mg)(cl:Cl K mg c)(GT:Has P w K mg base 1 "ties_of" ["rows"] spTs):FnOk P w K mg base (XF P w) 2 f fd ["rows","tie"] (k1j c):=by
 refine F.gx scNeed (fun vs H Q E h=>?_) (fun b0 H vs Q hr h=>?_)
 ·obtain⟨R,as,n,z,rfl,_⟩:=h;rfl
 obtain⟨R,as,n,z,rfl,hR,hn,ht,hfew,qE,qQ⟩:=h;have nd:=scNeed.nd;have mN:("NoTie" : Str)∈xNames:=by decide
 show Run _ _ _ [some (.ref R),some (.str z)] H;refine j11 (j09 j42 (ev_v 1 (j0u GT hr (j0a (ev_v 0 (j0c ⟨R,as,n,rfl,hR,hn,ht,hfew,fun L ss H1 s1 n1 e1 snd so mem=>⟨L,_,rfl,.inl (SqL.of e1),rfl,j3n _,_,rfl,?_⟩⟩))))));rw [if_pos rfl,j5m,j2u]
 by_cases hz:z∈ties n
 ·rw [decide_eq_true ((mem z).mpr hz)];exact iteF (j0i (j0i (qQ hz _ s1)))
 ·rw [decide_eq_false (fun k=>hz ((mem z).mp k))];refine iteT (j16 rzX (cl.at' _ mN).1 (cl.at' _ mN).2.1 rfl (j0a (j25 (j0c ⟨(by show 1<=sizeLine;decide),qE hz _ s1⟩))))
abbrev NLt:List Str:=["_law_rows","_law_found","_law_point","_law_row","_law_tie"]
theorem scLt:FnScope NLt ["_law_rows"] (j0g j7v):=⟨rfl,rfl,rfl,by decide +kernel,rfl,by decide +kernel,by decide +kernel⟩
theorem k4w{kvs:List (Key×V)}{zs:List Str}(h:kvs.map (·.1)=zs.map Sum.inr)(z:Str)(v:V):(putK kvs (Sum.inr z) v).map (·.1)=(added zs z).map Sum.inr:=by
 rw [k7g,h];unfold added
 by_cases q:z∈zs
 ·rw [if_pos (Ak.mpr ⟨z,q,rfl⟩),if_pos q]
 ·rw [if_neg,if_neg q,Ai]
  ·rfl
  ·intro k;obtain⟨y,hy,e⟩:=Ak.mp k;cases e;exact q hy
theorem k7w{f:Addr}{fd:FuncData}(F:Fun K "_law_ties" "_law_ties" j7v f fd)(T:Txt mg):FnOk P w K mg base CX0 1 f fd ["_law_rows"] spTs:=by
 refine F.gb scLt (fun vs H Q E h=>?_) (fun b0 H vs Q E hr h=>?_)
 ·obtain⟨R,as,n,rfl,_⟩:=h;rfl
 obtain⟨R,as,n,rfl,hR,hn,ht,hfew,q⟩:=h;have nd:=scLt.nd;have hal:=hR.len;have hu:=hr.u1;show Run _ _ _ [some (.ref R),none,none,none,none] H;refine j0j 1 nd (j5g fun d hd=>?_);have s0:=j0e hd (.dK []);have tsub:∀ r,r < n.length->∀ z,z∈ties (n.take r)\/z∈row n r->z∈ties n:=fun r hr' z hz=>by
  rw [j4t (k:=r+1),j8o hr']
  rcases hz with h | h <;> simp [h]
 refine j2f (ev_v 0 ⟨R,rfl,⟨_,SqL.of (s0 _ _ hR.lst)⟩,j1v (xs:=as.map fun a=>V.ref a.1) (fun r σ' H'=>(∃ v2 v3 v4,σ'=[some (.ref R),some (.ref d),v2,v3,v4])/\∃(kvs:List (Key×V)) (zs:List Str),Same H H'/\H' d=some (.dK kvs)/\kvs.map (·.1)=zs.map Sum.inr/\zs.Nodup/\∀ z,z∈zs↔z∈ties (n.take r)) ⟨⟨none,none,none,rfl⟩,[],[],s0,j0b,rfl,Cs,fun z=>Iff.rfl⟩ ?_ ?_ ?_⟩)
 ·rintro r σ' H' _ ⟨_,_,_,sm,_⟩;exact SqL.of (sm _ _ hR.lst)
 ·rintro r x σ' H' hx ⟨⟨v2,v3,v4,rfl⟩,kvs,zs,sm,eD,ek,zn,zm⟩;have hi:r < n.length:=by
   have:=(Ac.mp hx).1;rw [Aa] at this;omega
  obtain⟨a,ea,eat,et,el,er⟩:=(hR.same sm).at hi;rw [Ad,ea] at hx;cases hx;refine j15 rfl (SqT.of et) (j0k 2 nd (j0k 3 nd ?_));have naD:a.2≠d:=j1s el eD fun z=>nomatch z;show Run _ _ _ [some (.ref R),some (.ref d),some (.str n[r].1),some (.ref a.2),v4] H';refine j2f (ev_v 3 ⟨a.2,rfl,⟨_,SqL.of el⟩,j1v (xs:=(row n r).map V.str) (fun p σ' H''=>(∃ v4,σ'=[some (.ref R),some (.ref d),some (.str n[r].1),some (.ref a.2),v4])/\∃(kvs:List (Key×V)) (zs:List Str),(∀ b o,b≠d->H' b=some o->H'' b=some o)/\H'' d=some (.dK kvs)/\kvs.map (·.1)=zs.map Sum.inr/\zs.Nodup/\∀ z,z∈zs↔z∈ties (n.take r)\/z∈(row n r).take p) ⟨⟨_,rfl⟩,kvs,zs,fun b o _ h=>h,eD,ek,zn,fun z=>by rw [zm z];simp⟩ ?_ ?_ ?_⟩)
  ·rintro p σ' H'' _ ⟨_,_,_,kb,_⟩;exact SqL.of (kb _ _ naD el)
  ·rintro p x σ' H'' hx ⟨⟨v4,rfl⟩,kvs,zs,kb,eD6,ek6,zn6,zm6⟩;rw [Ad,Aw] at hx;obtain⟨z,hz,rfl⟩:=hx;have hl:zs.length < 64:=hfew zs zn6 fun y hy=>tsub r hi y (((zm6 y).mp hy).imp id fun h=>List.mem_of_mem_take h);have lk:kvs.length=zs.length:=by have:=congrArg List.length ek6;simpa using this
   refine j0k 4 nd ?_;refine j30 hu (k0q (ev_v 1 (ev_v 4 ⟨d,_,rfl,DPut.k (k:=Sum.inr z) eD6 (j00 (by omega)),j0i ⟨⟨_,rfl⟩,_,added zs z,fun b o hb h=>by rw [j0d hb];exact kb b o hb h,j0b,k4w ek6 z _,j56 zn6,fun y=>?_⟩⟩)));rw [j8t,zm6 y,Bt,hz,or_assoc];simp
  ·rintro σ' H'' ⟨⟨v4,rfl⟩,kvs,zs,kb,eD6,ek6,zn6,zm6⟩;refine j0i ⟨⟨_,_,_,rfl⟩,kvs,zs,fun b o h=>kb b o (j0f h hd) (sm _ _ h),eD6,ek6,zn6,fun z=>?_⟩;rw [zm6 z,Aa,Bp,j8o hi,At]
 ·rintro σ' H' ⟨⟨v2,v3,v4,rfl⟩,kvs,zs,sm,eD,ek,zn,zm⟩;rw [Aa,hal,Bp] at zm;refine j0r (j0y j5d T.sorted PyProof.Rows.boot_sorted (j0a (j34 (j6x rfl) T.tlist PyProof.Rows.boot_list (j0a (ev_v 1 (j0c ⟨d,kvs,rfl,.inl eD,fun l hl=>?_⟩))))));have ekv:(kvs.map fun p=>kV p.1)=zs.map V.str:=by
   rw [show(kvs.map fun p=>kV p.1)=(kvs.map (·.1)).map kV by rw [Cb];rfl,ek,Cb];rfl
  rw [ekv];have s2:=j0e hl (.lst (zs.map V.str));refine j0c ⟨l,zs,rfl,SqL.of j0b,hfew zs zn fun y hy=>(zm y).mp hy,fun l2 ss hl2 hp hs=>?_⟩;have s3:=j0e hl2 (.lst (ss.map V.str));exact q l2 ss _ (sm.trans (s2.trans s3)) (j0n (sm.trans s2) hl2) j0b (hp.nodup_iff.mpr zn) hs fun z=>by rw [hp.mem_iff,zm z]
end
end R4
namespace R4
open PySem L2 Nt Sort2
abbrev T3(x:Lk):HO:= .tup [.str x.1,.str x.2.1,.str x.2.2]
def AtL(H:Hp)(us:List Addr)(ls:List Lk):Prop:=us.length=ls.length/\∀(j:Nat) u x,us[j]?=some u->ls[j]?=some x->H u=some (T3 x)
theorem AtL.keep{H H':Hp}{us:List Addr}{ls:List Lk}(h:AtL H us ls)(k:∀ t xs,H t=some (.tup xs)->H' t=some (.tup xs)):AtL H' us ls:=⟨h.1,fun j u x h1 h2=>k _ _ (h.2 j u x h1 h2)⟩
theorem AtL.snoc{H:Hp}{us:List Addr}{ls:List Lk}{u:Addr}{x:Lk}(h:AtL H us ls)(hu:H u=some (T3 x)):AtL H (us++[u]) (ls++[x]):=by
 refine⟨by rw [Af,Af,h.1];rfl,fun j v y h1 h2=>?_⟩;have hl:=h.1
 by_cases hj:j < us.length
 ·rw [Ar hj] at h1;rw [Ar (by omega)] at h2;exact h.2 j v y h1 h2
 ·rw [Ay (by omega)] at h1 h2;have hj2:j - us.length=0:=by
   have:=(Ac.mp h1).1;simp at this;omega
  rw [hj2] at h1;rw [<- hl,hj2] at h2;cases h1;cases h2;exact hu
def k0u(ls:List Lk):Prop:=ls.Pairwise (fun x y=>x.1.cps.toList < y.1.cps.toList)
def k01:Sp:=fun vs H Q _=>∃(R:Addr) (as:List (Addr×Addr)) (n:Net),vs=[.ref R]/\RowsAt H R as n/\j04 n/\n.length<=1000/\(ties n).length<=60 /\
 ∀(L:Addr) (us:List Addr) (ls:List Lk) (H':Hp),Same H H'->H L=none->H' L=some (.lst (us.map V.ref))->AtL H' us ls->k0u ls->(∀ x,x∈ls↔j6r n x)->ls.length<=60->Q (.ref L) H'
theorem k9a{n:Net}(T:j04 n){r p:Nat}{z:Str}(hr:r < n.length)(hz:(row n r)[p]?=some z):(j1l (j01 (n.take r)++j0m r ((row n r).take p) 0) z).length<=1:=by
 obtain⟨rest,h⟩:=j3d hr hz;have h1:j1l (j01 n) z=j1l (j01 (n.take r)++j0m r ((row n r).take p) 0) z++(r,p) :: j1l rest z:=by
  rw [h];unfold j1l;rw [Cd,Ai,List.filter_cons_of_pos (by simp)];rfl
 have h2:(j1l (j01 n) z).length=2:=by
  have:=j5z n z;rw [T z (j3h (e:=(r,p)) hz)] at this;exact this
 rw [h1,Af,An] at h2;omega
section
variable{P:Program}{w:World}{K:PySem.W.Frag}{mg:Str->Option Value}{base:Heap}
abbrev NLk:List Str:=["rows","met","links","point","ties","tie"]
theorem scLk:FnScope NLk ["rows"] (j0g k38):=⟨rfl,rfl,rfl,by decide +kernel,rfl,by decide +kernel,by decide +kernel⟩
theorem k7t{f:Addr}{fd:FuncData}(F:Fun K "links_of" "links_of" k38 f fd)(T:Txt mg):FnOk P w K mg base CX0 1 f fd ["rows"] k01:=by
 refine F.gb scLk (fun vs H Q E h=>?_) (fun b0 H vs Q E hr h=>?_)
 ·obtain⟨R,as,n,rfl,_⟩:=h;rfl
 obtain⟨R,as,n,rfl,hR,hT,hn,hti,q⟩:=h;have nd:=scLk.nd;have hal:=hR.len;have hu:=hr.u1;show Run _ _ _ [some (.ref R),none,none,none,none,none] H;refine j0j 1 nd (j5g fun dm hdm=>?_);refine j0j 2 nd (j1h (j0c ⟨(by show 0<=sizeLine;decide),fun M hM=>?_⟩));have nMd:M≠dm:=fun e=>by rw [e,j0b] at hM;cases hM
 have hM0:H M=none:=by rw [j0d nMd] at hM;exact hM
 have s0:Same H (upd (upd H dm (.dK [])) M (.lst [])):=(j0e hdm _).trans (j0e hM _);have ed0:(upd (upd H dm (.dK [])) M (.lst [])) dm=some (.dK []):=by rw [j0d (Ne.symm nMd),j0b]
 have eM0:(upd (upd H dm (.dK [])) M (.lst [])) M=some (.lst []):=j0b;show Run _ _ _ [some (.ref R),some (.ref dm),some (.ref M),none,none,none] (upd (upd H dm (.dK [])) M (.lst []));generalize upd (upd H dm (.dK [])) M (.lst [])=H0 at s0 ed0 eM0;have lseats:(j01 n).length=(ties n).length:=by rw [<- j1m n 0,Aa];rfl
 refine j2f (ev_v 0 ⟨R,rfl,⟨_,SqL.of (s0 _ _ hR.lst)⟩,j1v (xs:=as.map fun a=>V.ref a.1) (fun r σ H'=>∃(kM:List (Key×V)) (us:List Addr) (ls:List Lk) (u1 u2 u3:Option V),Same H H'/\H' dm=some (.dK kM)/\H' M=some (.lst (us.map V.ref))/\AtL H' us ls/\LkI n (j01 (n.take r)) kM ls/\σ=[some (.ref R),some (.ref dm),some (.ref M),u1,u2,u3])
  ⟨[],[],[],_,_,_,s0,ed0,eM0,⟨rfl,fun j u x h=>by simp at h⟩,LkI.start n,rfl⟩ ?_ ?_ ?_⟩)
 ·rintro r σ H' _ ⟨_,_,_,_,_,_,sm,_⟩;exact SqL.of (sm _ _ hR.lst)
 ·rintro r x σ H' hx ⟨kM,us,ls,u1,u2,u3,sm,ed,eM,hat,I,rfl⟩;have hi:r < n.length:=by
   have:=(Ac.mp hx).1;rw [Aa] at this;omega
  obtain⟨a,ea,eat,et,el,er⟩:=(hR.same sm).at hi;rw [Ad,ea] at hx;cases hx;refine j15 rfl (SqT.of et) (j0k 3 nd (j0k 4 nd ?_));refine j2f (ev_v 4 ⟨a.2,rfl,⟨_,SqL.of el⟩,j1v (xs:=(row n r).map V.str) (fun p σ H''=>∃(kM:List (Key×V)) (us:List Addr) (ls:List Lk) (u3:Option V),Same H H''/\H'' a.2=some (Ls (row n r))/\H'' dm=some (.dK kM)/\H'' M=some (.lst (us.map V.ref))/\AtL H'' us ls/\LkI n (j01 (n.take r)++j0m r ((row n r).take p) 0) kM ls/\σ=[some (.ref R),some (.ref dm),some (.ref M),some (.str n[r].1),some (.ref a.2),u3])
   ⟨kM,us,ls,_,sm,el,ed,eM,hat,by simpa [j0m] using I,rfl⟩ ?_ ?_ ?_⟩)
  ·rintro p σ H'' _ ⟨_,_,_,_,_,e,_⟩;exact SqL.of e
  ·rintro p x σ H'' hx ⟨kM,us,ls,u3,sm,el,ed,eM,hat,I,rfl⟩;have hp:p < (row n r).length:=by
    have:=(Ac.mp hx).1;rw [Aa] at this;exact this
   have hz:(row n r)[p]?=some (row n r)[p]:=Ab hp;rw [Ad,hz] at hx;cases hx;have hs1:=j14 (r:=r) hz;have hle:=k9a hT hi hz;have hdone:(j01 (n.take r)++j0m r ((row n r).take p) 0).length<=60:=by
    obtain⟨rest,hrest⟩:=j3d hi hz;have h1:=congrArg List.length hrest;simp only [Af] at h1 ⊢;omega
   have lM:=I.lenM;have lL:=I.lenL;have lA:=hat.1;have nmr:nmA n r=n[r].1:=j13 hi;have naM:a.2≠M:=fun e=>by
    have:=(hR.tup r a n[r] ea (Ab hi)).2;rw [e,hM0] at this;cases this
   generalize (row n r)[p]=z at hz hs1 hle;refine j0k 5 nd ?_;refine j11 (q0c hu (ev_v 5 (ev_v 1 ⟨dm,_,rfl,DGet.k (k:=Sum.inr z) ed,?_⟩)));cases hpz:j1l (j01 (n.take r)++j0m r ((row n r).take p) 0) z with
   | nil=>
    rw [I.m0 z hpz];show if false=true then _ else _;rw [if_neg (by decide)];refine j30 hu (ev_v 3 (ev_v 1 (ev_v 5 ⟨dm,_,rfl,DPut.k (k:=Sum.inr z) ed (j00 (by omega)),j0i (j0i ⟨_,us,ls,_,j02 sm hdm,?_,j0b,?_,hat.keep fun t xs h=>?_,?_,rfl⟩)⟩)))
    ·rw [j0d (j1s el ed fun z=>nomatch z)];exact el
    ·rw [j0d nMd];exact eM
    ·rw [j0d (j1s h ed fun z=>nomatch z)];exact h
    ·rw [hs1,<- Bm];have:=I.new (e:=(r,p)) hpz;show LkI n _ (putK kM (Sum.inr z) (.str n[r].1)) ls;rw [<- nmr];exact this
   | cons b rest=>
    have hr0:rest=[]:=by
     rw [hpz] at hle;exact Be.mp (by have:rest.length+1<=1:=hle;omega)
    subst hr0;have vm:=I.m1 z b [] hpz;rw [vm];show if true=true then _ else _;rw [if_pos rfl];refine j0v (j1r (ev_v 2 ⟨M,rfl,⟨_,eM⟩,j1n (j0a (ev_v 5 (j0a (j21 hu (ev_v 1 (ev_v 5 ⟨dm,.str (nmA n b.1),rfl,by rw [<- vm];exact DGet.k (k:=Sum.inr z) ed,j0a (ev_v 3 (j0c ⟨(by show 3<=sizeLine;decide),fun t ht=>?_⟩))⟩))))))⟩));have sT:=j0e ht (.tup [.str z,.str (nmA n b.1),.str n[r].1]);have ntM:t≠M:=fun e=>by rw [e,eM] at ht;cases ht
    have et3:(upd H'' t (.tup [.str z,.str (nmA n b.1),.str n[r].1])) t=some (T3 (z,nmA n b.1,nmA n (r,p).1)):=by
     rw [j0b];show _=some (HO.tup [.str z,.str (nmA n b.1),.str (nmA n r)]);rw [nmr]
    have kT:∀ c xs,(upd H'' t (.tup [.str z,.str (nmA n b.1),.str n[r].1])) c=some (.tup xs)->(upd (upd H'' t (.tup [.str z,.str (nmA n b.1),.str n[r].1])) M (.lst (us.map V.ref++[.ref t]))) c=some (.tup xs):=fun c xs h=>by
     rw [j0d (j1s h (sT _ _ eM) fun z=>nomatch z)];exact h
    refine⟨_,sT _ _ eM,by rw [Aa];exact j00 (by omega),j0i (j0i ⟨kM,us++[t],ls++[(z,nmA n b.1,nmA n (r,p).1)],_,j02 (sm.trans sT) hM0,?_,?_,?_,?_,?_,rfl⟩)⟩
    ·rw [j0d naM];exact sT _ _ el
    ·rw [j0d (Ne.symm nMd)];exact sT _ _ ed
    ·rw [j0b,Ai];rfl
    ·exact((hat.keep fun c xs h=>sT _ _ h).snoc et3).keep kT
    ·rw [hs1,<- Bm];exact I.old (e:=(r,p)) hpz
  ·rintro σ H'' ⟨kM,us,ls,u3,sm,_,ed,eM,hat,I,rfl⟩;rw [Aa,Bp] at I;refine j0i ⟨kM,us,ls,_,_,_,sm,ed,eM,hat,?_,rfl⟩;rw [j23 hi];exact I
 ·rintro σ H' ⟨kM,us,ls,u1,u2,u3,sm,ed,eM,hat,I,rfl⟩;rw [Aa,hal,Bp] at I;have lL:=I.lenL;have lA:=hat.1;have hlt:us.length < 64:=by omega
  refine j0r (j0y j9a T.sorted PyProof.Rows.boot_sorted (j0a (ev_v 2 (j0c ⟨M,us,ls.map (·.1),rfl,SqL.of eM,by rw [Aa];exact lA,I.nod,hlt,fun i t z h1 h2=>?_,fun L ps hL hp hs=>?_⟩))))
  ·rw [Ad,Aw] at h2;obtain⟨x,hx,rfl⟩:=h2;exact⟨_,hat.2 i t x h1 hx⟩
  have pick:∀ p∈ps,∃ x,x∈ls/\x.1=p.2/\H' p.1=some (T3 x):=fun p hpm=>by
   have hz:=hp.mem_iff.mp hpm;obtain⟨i,hi⟩:=Az hz;rw [List.getElem?_zip_eq_some] at hi;obtain⟨h1,h2⟩:=hi;rw [Ad,Aw] at h2;obtain⟨x,hx,e⟩:=h2;exact⟨x,Av hx,e,hat.2 i _ x h1 hx⟩
  obtain⟨xs,hxs⟩:∃ xs:List Lk,xs.length=ps.length/\∀(j:Nat) p x,ps[j]?=some p->xs[j]?=some x->x∈ls/\x.1=p.2/\H' p.1=some (T3 x):=by
   clear hs hp
   induction ps with
   | nil=>exact⟨[],rfl,fun j p x h=>by simp at h⟩
   | cons p r ih=>
    obtain⟨x,q1,q2,q3⟩:=pick p (Au ..);obtain⟨xs,l1,l2⟩:=ih (fun c hc=>pick c (Ao _ hc));refine⟨x :: xs,by rw [An,An,l1],fun j c y h1 h2=>?_⟩;cases j with
    | zero=>
     cases h1;cases h2;exact⟨q1,q2,q3⟩
    | succ j=>exact l2 j c y (by simpa using h1) (by simpa using h2)
  obtain⟨lx,hxs⟩:=hxs;have lp:ps.length=ls.length:=by rw [hp.length_eq,List.length_zip,Aa];omega
  have sL:=j0e hL (.lst (ps.map fun p=> .ref p.1));have hsx:k0u xs:=by
   unfold k0u;rw [Bf];intro i j hi hj hij;have a1:=(hxs i ps[i] xs[i] (Ab (by omega)) (Ab hi)).2.1;have a2:=(hxs j ps[j] xs[j] (Ab (by omega)) (Ab hj)).2.1;rw [a1,a2];exact Bf.mp hs i j (by omega) (by omega) hij
  have xnod:(xs.map (·.1)).Nodup:=by
   rw [Cg,Ep];exact hsx.imp fun h e=>by rw [e] at h;exact List.lt_irrefl _ h
  have hmem:∀ x,x∈xs↔x∈ls:=fun x=>by
   constructor
   ·intro h;obtain⟨j,hj⟩:=Az h;have hjl:=(Ac.mp hj).1;exact(hxs j ps[j] x (Ab (by omega)) hj).1
   ·intro h;refine Classical.byContradiction fun hn=>?_;have nodx:xs.Nodup:=by
     rw [Cg] at xnod ⊢;rw [Ep] at xnod;exact xnod.imp fun h e=>h (by rw [e])
    have:=nodup_le nodx (b:=ls.erase x) fun z hz=>by
     have hzl:z∈ls:=by
      obtain⟨j,hj⟩:=Az hz;have hjl:=(Ac.mp hj).1;exact(hxs j ps[j] z (Ab (by omega)) hj).1
     exact(Es (fun e:z=x=>hn (e ▸ hz))).mpr hzl
    rw [Ed h] at this;have:0 < ls.length:=Fk h;omega
  refine q L (ps.map (·.1)) xs _ (sm.trans sL) (j0n sm hL) (by rw [j0b,Cb];rfl) ⟨by rw [Aa];omega,fun j u x h1 h2=>?_⟩ hsx (fun x=>by rw [hmem x];exact I.whole hT x) (by omega);rw [Ad,Aw] at h1;obtain⟨p,hp1,rfl⟩:=h1;exact sL _ _ (hxs j p x hp1 h2).2.2
end
end R4
namespace R4
open PySem L2 Nt Sort2
abbrev T3b(x:Bl):HO:= .tup [.str x.1,.str x.2.1,.bl x.2.2]
def AtB(H:Hp)(us:List Addr)(ls:List Bl):Prop:=us.length=ls.length/\∀(j:Nat) u x,us[j]?=some u->ls[j]?=some x->H u=some (T3b x)
theorem AtB.same{H H':Hp}{us:List Addr}{ls:List Bl}(h:AtB H us ls)(s:Same H H'):AtB H' us ls:=⟨h.1,fun j u x h1 h2=>s _ _ (h.2 j u x h1 h2)⟩
def j72:Sp:=fun vs H Q _=>∃(f:Str) (L:Addr) (us:List Addr) (ls:List Bl),vs=[.str f,.ref L]/\H L=some (.lst (us.map V.ref))/\AtB H us ls/\ls.length<=60 /\
 ∀(d:Addr) (kvs:List (Key×V)) (H':Hp),Same H H'->H d=none->H' d=some (.dK kvs)->SpI ls f none kvs []->Q (.ref d) H'
section
variable{P:Program}{w:World}{K:PySem.W.Frag}{mg:Str->Option Value}{base:Heap}
abbrev NSp:List Str:=["first","links","odds","waiting","here","one","other","odd","start","goal"]
theorem scSp:FnScope NSp ["first","links"] (j0g k0r):=⟨rfl,rfl,rfl,by decide +kernel,rfl,by decide +kernel,by decide +kernel⟩
theorem k4q(wt:List Str)(h:Str):(((wt++[h]).map V.str)[((wt++[h]).map V.str).length - 1]?=some (.str h))/\((wt++[h]).map V.str).dropLast=wt.map V.str:=by
 rw [Ai]
 constructor
 ·simp
 ·exact List.dropLast_concat
theorem k5z{f:Addr}{fd:FuncData}(F:Fun K "spread" "spread" k0r f fd)(T:Txt mg):FnOk P w K mg base CX0 1 f fd ["first","links"] j72:=by
 refine F.gb scSp (fun vs H Q E h=>?_) (fun b0 H vs Q E hr h=>?_)
 ·obtain⟨f,L,us,ls,rfl,_⟩:=h;rfl
 obtain⟨ft,L,us,ls,rfl,hL,hat,h60,q⟩:=h;have nd:=scSp.nd;have hu:=hr.u1;have lus:=hat.1;show Run _ _ _ [some (.str ft),some (.ref L),none,none,none,none,none,none,none,none] H;refine j0j 2 nd (k81 hu fun d hd=>ev_v 0 (k0q ⟨_,DPut.k (k:=Sum.inr ft) j0b (j00 (Bn _)),?_⟩));rw [j5t];refine j0j 3 nd (j1h (j0a (ev_v 0 (j0c ⟨(by show 1<=sizeLine;decide),fun M hM=>?_⟩))));have nMd:M≠d:=fun e=>by rw [e,j0b] at hM;cases hM
 have hM0:H M=none:=by rw [j0d nMd] at hM;exact hM
 have s0:Same H (upd (upd H d (.dK (putK [] (Sum.inr ft) (.bl false)))) M (.lst [.str ft])):=(j0e hd _).trans (j0e hM _);have ed0:(upd (upd H d (.dK (putK [] (Sum.inr ft) (.bl false)))) M (.lst [.str ft])) d=some (.dK (putK [] (Sum.inr ft) (.bl false))):=by rw [j0d (Ne.symm nMd),j0b]
 have eM0:(upd (upd H d (.dK (putK [] (Sum.inr ft) (.bl false)))) M (.lst [.str ft])) M=some (Ls [ft]):=j0b;show Run _ _ _ [some (.str ft),some (.ref L),some (.ref d),some (.ref M),none,none,none,none,none,none] (upd (upd H d (.dK (putK [] (Sum.inr ft) (.bl false)))) M (.lst [.str ft]));generalize upd (upd H d (.dK (putK [] (Sum.inr ft) (.bl false)))) M (.lst [.str ft])=H0 at s0 ed0 eM0;refine j4c (fun m σ H'=>m<=1000/\∃(kvs:List (Key×V)) (wt:List Str) (u4 u5 u6 u7 u8 u9:Option V),Same H H'/\H' d=some (.dK kvs)/\H' M=some (Ls wt)/\SpI ls ft none kvs wt/\m=2 * (1+2 * ls.length - kvs.length)+wt.length /\
   σ=[some (.str ft),some (.ref L),some (.ref d),some (.ref M),u4,u5,u6,u7,u8,u9]) (m0:=2 * (1+2 * ls.length - 1)+1)
  ⟨by omega,_,[ft],_,_,_,_,_,_,s0,ed0,eM0,SpI.start ls ft,rfl,rfl⟩ ?_
 rintro m σ H1 ⟨hm,kvs,wt,u4,u5,u6,u7,u8,u9,s1,ed1,eM1,I,em,rfl⟩;refine k16 (ev_v 3 (v:= .ref M) ⟨!wt.isEmpty,Or.inl ⟨wt.map V.str,SqL.of eM1,by cases wt <;> rfl⟩,?_⟩)
 rcases List.eq_nil_or_concat wt with e | ⟨wt',hh,e⟩
 ·subst e;rw [if_neg (by decide)];exact j0r (ev_v 2 (q d kvs H1 s1 hd ed1 I))
 rw [List.concat_eq_append] at e;subst e;rw [if_pos (by cases wt' <;> rfl)];obtain⟨hy,hdl⟩:=k4q wt' hh;refine j0j 4 nd (q7x PySem.F.plainAttrs_list PySem.F.slot_list_pop PySem.F.type_list_pop q36 (ev_v 3 (v:= .ref M) ⟨Or.inl ⟨rfl,_,SqL.of eM1⟩,M,_,.str hh,rfl,rfl,eM1,hy,?_⟩));rw [hdl];have I1:=I.pop;have lw:(wt'++[hh]).length=wt'.length+1:=by rw [Af];rfl
 rw [lw] at em;have hL1:∀{H':Hp},Same H H'->H' L=some (.lst (us.map V.ref)):=fun s=>s _ _ hL;show Run _ _ _ [some (.str ft),some (.ref L),some (.ref d),some (.ref M),some (.str hh),u5,u6,u7,u8,u9] (upd H1 M (Ls wt'));have s2:Same H (upd H1 M (Ls wt')):=j02 s1 hM0;have ed2:(upd H1 M (Ls wt')) d=some (.dK kvs):=by rw [j0d (Ne.symm nMd)];exact ed1
 have eM2:(upd H1 M (Ls wt')) M=some (Ls wt'):=j0b;generalize upd H1 M (Ls wt')=H2 at s2 ed2 eM2;refine j2f (ev_v 1 ⟨L,rfl,⟨_,SqL.of (hL1 s2)⟩,j1v (xs:=us.map V.ref) (fun j σ H'=>∃(kvs:List (Key×V)) (wt:List Str) (u5 u6 u7 u8 u9:Option V),Same H H'/\H' d=some (.dK kvs)/\H' M=some (Ls wt)/\SpI ls ft (some hh) kvs wt/\2 * (1+2 * ls.length - kvs.length)+wt.length < m /\
   (∀ l∈ls.take j,(l.1=hh->has kvs l.2.1)/\(l.2.1=hh->has kvs l.1))/\σ=[some (.str ft),some (.ref L),some (.ref d),some (.ref M),some (.str hh),u5,u6,u7,u8,u9])
  ⟨kvs,wt',_,_,_,_,_,s2,ed2,eM2,I1,by omega,fun l hl=>by simp at hl,rfl⟩ ?_ ?_ ?_⟩)
 ·rintro j σ H' _ ⟨_,_,_,_,_,_,_,sm,_⟩;exact SqL.of (hL1 sm)
 ·rintro j x σ H3 hx ⟨kvs,wt,u5,u6,u7,u8,u9,s3,ed,eM,I,hlt,hdone,rfl⟩;rw [Ad,Aw] at hx;obtain⟨u,hu1,rfl⟩:=hx;have hj:j < ls.length:=by
   have:=(Ac.mp hu1).1;omega
  have hlj:ls[j]?=some ls[j]:=Ab hj;have hup:=(hat.same s3).2 j u _ hu1 hlj;have hmem:ls[j]∈ls:=Cc hj;have htk:∀ l∈ls.take (j+1),l∈ls.take j\/l=ls[j]:=fun l hl=>by
   rw [Bt,hlj] at hl
   rcases At.mp hl with q | q
   ·exact .inl q
   ·exact .inr (by simpa using q)
  generalize ls[j]=lx at hup hmem htk;obtain⟨on,ot,od⟩:=lx;refine j8g rfl (SqT.of hup) (j0k 5 nd (j0k 6 nd (j0k 7 nd ?_)));show Run _ _ _ [some (.str ft),some (.ref L),some (.ref d),some (.ref M),some (.str hh),some (.str on),some (.str ot),some (.bl od),u8,u9] H3;refine k9c (j1n (j0a (j1n (j0a (ev_v 5 (j0a (ev_v 6 (j0c ⟨(by show 2<=sizeLine;decide),fun t1 ht1=>?_⟩))))))));refine j0a (j1n (j0a (ev_v 6 (j0a (ev_v 5 (j0c ⟨(by show 2<=sizeLine;decide),fun t2 ht2=>j0c ⟨(by show 2<=sizeLine;decide),fun tt htt=>?_⟩⟩))))));have n1:=j0e ht1 (.tup [.str on,.str ot]);have n2:=j0e ht2 (.tup [.str ot,.str on]);have n3:=j0e htt (.tup [.ref t1,.ref t2]);have e1:=n3 _ _ (n2 _ _ (j0b (H:=H3) (a:=t1) (o:= .tup [.str on,.str ot])));have e2:=n3 _ _ (j0b (H:=upd H3 t1 (.tup [.str on,.str ot])) (a:=t2) (o:= .tup [.str ot,.str on]));have e3:=j0b (H:=upd (upd H3 t1 (.tup [.str on,.str ot])) t2 (.tup [.str ot,.str on])) (a:=tt) (o:= .tup [.ref t1,.ref t2]);have n:=n1.trans (n2.trans n3);refine⟨tt,rfl,⟨_,SqT.of e3⟩,?_⟩;generalize upd (upd (upd H3 t1 (.tup [.str on,.str ot])) t2 (.tup [.str ot,.str on])) tt (.tup [.ref t1,.ref t2])=H4 at e1 e2 e3 n;refine k8l (xs:=[.ref t1,.ref t2]) (fun i σ H'=>∃(kvs:List (Key×V)) (wt:List Str) (u8 u9:Option V),Same H H'/\H' d=some (.dK kvs)/\H' M=some (Ls wt)/\H' t1=some (.tup [.str on,.str ot])/\H' t2=some (.tup [.str ot,.str on])/\H' tt=some (.tup [.ref t1,.ref t2])/\SpI ls ft (some hh) kvs wt/\2 * (1+2 * ls.length - kvs.length)+wt.length < m /\
   (∀ l∈ls.take j,(l.1=hh->has kvs l.2.1)/\(l.2.1=hh->has kvs l.1))/\(0 < i->on=hh->has kvs ot)/\(1 < i->ot=hh->has kvs on)/\σ=[some (.str ft),some (.ref L),some (.ref d),some (.ref M),some (.str hh),some (.str on),some (.str ot),some (.bl od),u8,u9])
   ⟨kvs,wt,_,_,s3.trans n,n _ _ ed,n _ _ eM,e1,e2,e3,I,hlt,hdone,fun h=>absurd h (by decide),fun h=>absurd h (by decide),rfl⟩ ?_ ?_ ?_
  ·rintro i σ H' _ ⟨_,_,_,_,_,_,_,_,_,e,_⟩;exact SqT.of e
  ·rintro i x σ H5 hx ⟨kvs,wt,u8,u9,s5,ed,eM,e1,e2,e3,I,hlt,hdone,d1,d2,rfl⟩;obtain⟨st,gl,t,rfl,et,htch,hnext⟩:∃ st gl t,x = .ref t/\H5 t=some (.tup [.str st,.str gl])/\k24 ls st gl od/\∀ kvs',(∀ y,has kvs y->has kvs' y)->(st=hh->has kvs' gl)->(0 < i+1->on=hh->has kvs' ot)/\(1 < i+1->ot=hh->has kvs' on):=by
    match i with
    | 0=>
     cases hx;exact⟨on,ot,t1,rfl,e1,.inl hmem,fun kvs' mo h=>⟨fun _=>h,fun h=>absurd h (by decide)⟩⟩
    | 1=>
     cases hx;exact⟨ot,on,t2,rfl,e2,.inr hmem,fun kvs' mo h=>⟨fun _ e=>mo _ (d1 (by decide) e),fun _=>h⟩⟩
    | i+2=>simp at hx
   refine j15 rfl (SqT.of et) (j0k 8 nd (j0k 9 nd ?_));show Run _ _ _ [some (.str ft),some (.ref L),some (.ref d),some (.ref M),some (.str hh),some (.str on),some (.str ot),some (.bl od),some (.str st),some (.str gl)] H5;have skip:(st=hh->has kvs gl)->∃(kvs:List (Key×V)) (wt:List Str) (u8 u9:Option V),Same H H5/\H5 d=some (.dK kvs)/\H5 M=some (Ls wt)/\H5 t1=some (.tup [.str on,.str ot])/\H5 t2=some (.tup [.str ot,.str on])/\H5 tt=some (.tup [.ref t1,.ref t2])/\SpI ls ft (some hh) kvs wt/\2 * (1+2 * ls.length - kvs.length)+wt.length < m /\
     (∀ l∈ls.take j,(l.1=hh->has kvs l.2.1)/\(l.2.1=hh->has kvs l.1))/\(0 < i+1->on=hh->has kvs ot)/\(1 < i+1->ot=hh->has kvs on)/\[some (V.str ft),some (.ref L),some (.ref d),some (.ref M),some (.str hh),some (.str on),some (.str ot),some (.bl od),some (.str st),some (.str gl)]=[some (.str ft),some (.ref L),some (.ref d),some (.ref M),some (.str hh),some (.str on),some (.str ot),some (.bl od),u8,u9]:=fun h=>
    ⟨kvs,wt,_,_,s5,ed,eM,e1,e2,e3,I,hlt,hdone,(hnext kvs (fun _ h=>h) h).1,(hnext kvs (fun _ h=>h) h).2,rfl⟩
   refine j11 (j3q (k4l (j09 j6y (ev_v 8 (ev_v 4 ⟨rfl,_,rfl,?_⟩)))))
   by_cases hst:st=hh
   ·rw [if_pos (decide_eq_true (by rw [hst]))];refine j95 (k3t hu (ev_v 9 (ev_v 2 ⟨d,_,rfl,DGet.k (k:=Sum.inr gl) ed,?_⟩)));cases hg:valV kvs (Sum.inr gl) with
    | some v=>
     show if false=true then _ else _;rw [if_neg (by decide)];exact j0i (j0i (skip fun _=>⟨v,hg⟩))
    | none=>
     show if true=true then _ else _;rw [if_pos rfl];have hhh:has kvs hh:=by
      rcases I.hrk with q
      exact q
     obtain⟨v,hv⟩:=hhh;obtain⟨b,rfl,_⟩:=I.val hh v hv;subst hst;have I':=I.add (o:=od) hg hv htch;have lk:=I.len;have lk':=I'.len;have hkl:(putK kvs (Sum.inr gl) (.bl (b != od))).length=kvs.length+1:=by
      have hng:=I.notin hg;have:=congrArg List.length (k7g kvs (Sum.inr gl) (.bl (b != od)));rw [if_neg hng,Af,Aa,Aa] at this;exact this
     refine j30 hu (j59 k3d (j21 hu (ev_v 2 (ev_v 4 ⟨d,.bl b,rfl,by rw [<- hv];exact DGet.k (k:=Sum.inr st) ed,ev_v 7 ⟨rfl,?_⟩⟩))));rw [k47];refine ev_v 2 (ev_v 9 ⟨d,_,rfl,DPut.k (k:=Sum.inr gl) ed (j00 (by omega)),?_⟩);have eM':(upd H5 d (.dK (putK kvs (Sum.inr gl) (.bl (b != od))))) M=some (Ls wt):=by rw [j0d nMd];exact eM
     refine j0v (j1r (ev_v 3 ⟨M,rfl,⟨_,eM'⟩,ev_v 9 ⟨_,eM',by rw [Aa];exact j00 (by omega),?_⟩⟩));have kT:∀ c xs,H5 c=some (.tup xs)->(upd (upd H5 d (.dK (putK kvs (Sum.inr gl) (.bl (b != od))))) M (.lst (wt.map V.str++[.str gl]))) c=some (.tup xs):=fun c xs h=>by
      rw [j0d (j1s h eM fun z=>nomatch z),j0d (j1s h ed fun z=>nomatch z)];exact h
     have mo:∀ y,has kvs y->has (putK kvs (Sum.inr gl) (.bl (b != od))) y:=fun y h=>j6f h;have hn:=hnext _ mo (fun _=>⟨.bl (b != od),by rw [j03,if_pos rfl]⟩);refine j0i (j0i ⟨_,wt++[gl],_,_,j02 (j02 s5 hd) hM0,?_,?_,kT _ _ e1,kT _ _ e2,kT _ _ e3,I',?_,fun l hl=>⟨fun e=>mo _ ((hdone l hl).1 e),fun e=>mo _ ((hdone l hl).2 e)⟩,hn.1,hn.2,rfl⟩)
     ·rw [j0d (Ne.symm nMd)];exact j0b
     ·rw [j0b];show some (HO.lst (wt.map V.str++[.str gl]))=some (HO.lst ((wt++[gl]).map V.str));rw [Ai];rfl
     ·rw [hkl,Af];rw [hkl] at lk';show _+(wt.length+1) < m;omega
   ·rw [if_neg (fun h=>hst (V.str.inj (of_decide_eq_true h)))];show if false=true then _ else _;rw [if_neg (by decide)];exact j0i (j0i (skip fun h=>absurd h hst))
  ·rintro σ H5 ⟨kvs,wt,u8,u9,s5,ed,eM,_,_,_,I,hlt,hdone,d1,d2,rfl⟩;refine j0i ⟨kvs,wt,_,_,_,_,_,s5,ed,eM,I,hlt,fun l hl=>?_,rfl⟩
   rcases htk l hl with q | q
   ·exact hdone l q
   ·subst q;exact⟨d1 (by show 0 < 2;decide),d2 (by show 1 < 2;decide)⟩
 ·rintro σ H3 ⟨kvs,wt,u5,u6,u7,u8,u9,s3,ed,eM,I,hlt,hdone,rfl⟩;rw [Aa,lus,Bp] at hdone;refine j0i ⟨_,hlt,by omega,kvs,wt,_,_,_,_,_,_,s3,ed,eM,I.close fun y o ht=>?_,rfl,rfl⟩
  rcases ht with h | h
  ·exact(hdone _ h).1 rfl
  ·exact(hdone _ h).2 rfl
end
end R4
namespace Nt
open PySem L2
open PyProof.Rows (sortedS)
theorem k72{kvs:List (Key×V)}{k:Key}{v:V}(hg:valV kvs k=some v):k∈kvs.map (·.1):=by
 refine Classical.byContradiction fun hn=>?_
 induction kvs with
 | nil=>cases hg
 | cons c r ih=>
  rw [Bc,Ap] at hn;rw [j1g (fun q=>hn (.inl q.symm))] at hg;exact ih hg fun q=>hn (.inr q)
theorem j3o{n:Net}(hn:(n.map (·.1)).Nodup){i j:Nat}(hi:i < n.length)(hj:j < n.length)(h:nmA n i=nmA n j):i=j:=by
 rw [j13 hi,j13 hj] at h;have:=(Cg.mp hn);rw [Bf] at this
 rcases Fm i j with q | q | q
 ·exact absurd (by rw [Ct,Ct];exact h) (this i j (by simpa using hi) (by simpa using hj) q)
 ·exact q
 ·exact absurd (by rw [Ct,Ct];exact h.symm) (this j i (by simpa using hj) (by simpa using hi) q)
end Nt
namespace L2
open PySem Nt
section
variable{X:Cx}{elt tg:Expr}{ifs:List Expr}{scope:Scope}{σ:St}{H:Hp}{N':List Str}{A:Addr}{after:Hp->Prop}
theorem k7k{lo:Int}{n:Nat}(Pv:Nat->St->Hp->Prop)(h0:Pv 0 σ H)
  (hs : ∀ i σ' H', i < n → Pv i σ' H' → CEg X N' scope tg (.int (lo + i)) σ' H' fun σ2 H3 => CEi X N' scope ifs σ2 H3 fun b H4 =>
   if b=true then CEv X N' scope elt σ2 H4 fun v H5=>∃ ys,H5 A=some (.lst ys)/\ys.length < sizeLine/\Pv (i+1) σ2 (upd H5 A (.lst (ys++[v]))) else Pv (i+1) σ2 H4)
  (hd:∀ σ' H',Pv n σ' H'->after H'):j93 X N' scope tg ifs elt (Itr lo n) A after σ H:=by
 refine⟨fun i m σ' H'=>m=n - i/\i<=n/\Pv i σ' H',⟨_,rfl,Bn _,h0⟩,?_⟩;rintro i m σ' H' ⟨rfl,hi,p⟩
 by_cases hlt:i < n
 ·refine .inr ⟨hlt,Pv (i+1),fun σ' H' p'=>⟨n - (i+1),by omega,rfl,hlt,p'⟩,fun x H2 y=>?_⟩;obtain⟨e,y⟩:=y;subst e y;exact hs i σ' _ hlt p
 ·have e:i=n:=by omega
  subst e;exact .inl ⟨Ah _,hd σ' H' p⟩
end
section
variable{X:Cx}{σ:St}{H:Hp}{Q:VK}{o e e1:Expr}{pos p1 p2 p3 p4:Pos}{j1:Nat}
theorem q6p{a:Addr}{zs:List Str}{i:Nat}(ha:H a=some (Ls zs))(ho:∀ R:VK,R (.ref a) H->Ev X o σ H R)(he:∀ R:VK,R (.int (i:Int)) H->Ev X e σ H R) (h:∀ p,H p=none->Q (.ref p) (upd H p (Ls (zs.take i)))):Ev X (.Subscript o (.Slice none (some e) none p2) pos) σ H Q:=by
 refine j5f j8d (ho _ (j7i (j71 (he _ ⟨_,rfl,a,_,rfl,SqL.of ha,fun p hp=>?_⟩))));rw [q0u];exact h p hp
theorem q0j{a:Addr}{zs:List Str}{i:Nat}(ha:H a=some (Ls zs))(ho:∀ R:VK,R (.ref a) H->Ev X o σ H R)(he:∀ R:VK,R (.int (i:Int)) H->Ev X e σ H R) (h:∀ p,H p=none->Q (.ref p) (upd H p (Ls (zs.drop (i+1))))):Ev X (.Subscript o (.Slice (some (.BinOp e .Add (.Constant (.int 1) j1 p3) p4)) none none p2) pos) σ H Q:=by
 refine j5f j8d (ho _ (j71 (j0t j2i (he _ (j0h ⟨_,_,rfl,rfl,_,rfl,j7i ⟨a,_,rfl,SqL.of ha,fun p hp=>?_⟩⟩)))));rw [show((i:Int)+1)=((i+1:Nat):Int) by omega,k1r];exact h p hp
theorem j5e{p q:Addr}{ys zs:List Str}(hp:H p=some (Ls ys))(hq:H q=some (Ls zs))(hl:ys.length+zs.length<=100000) (h:∀ r,H r=none->Q (.ref r) (upd H r (Ls (ys++zs)))):rCat (.ref p) (.ref q) H Q:=by
 refine⟨p,q,_,_,rfl,rfl,hp,hq,?_,fun r hr=>?_⟩
 ·rw [Aa,Aa,sizeLine_eq];omega
 ·rw [<- Ai];exact h r hr
theorem k1i{a:Addr}{zs:List Str}{z:Str}{ap:Pos}(ha:H a=some (Ls zs))(hz:z∈zs)(hl:zs.length<=1000)(ho:∀ R:VK,R (.ref a) H->Ev X o σ H R)(he:∀ R:VK,R (.str z) H->Ev X e σ H R)(h:Q (.int (ixOf zs z:Int)) H)
  (hbase:attributeBase o "index" X.env (eval o X.env)=eval o X.env:=by rfl)
  (hfew:((backTo pos (starEach [e] X.env)).all (fun x=>!x.1) && (backToKw pos (keywordEach [] X.env)).all (fun x=>x.1.isSome) && decide ([e].length+([]:List Keyword).length+(if([]:List Keyword).isEmpty then 0 else 1) < 30))=true:=by rfl)
  (hline:(ap.endLine == pos.line)=true:=by rfl) (hs:starEach [e] X.env=(false,eval e X.env) :: starEach [] X.env:=by rfl) (hplain:(backTo pos (starEach [] X.env)).any (·.1)=false:=by rfl) (hst:isStar e=false:=by rfl):Ev X (.Call (.Attribute o "index" ap) [e] [] pos) σ H Q:=by
 obtain⟨h1,h2⟩:=k37 hz;have h3:=(Ac.mp h1).1;exact q5f PySem.F.plainAttrs_list PySem.F.slot_list_index PySem.F.type_list_index k8s (ho _ ⟨Or.inl ⟨rfl,_,SqL.of ha⟩,he _ ⟨a,zs,z,ixOf zs z,rfl,rfl,SqL.of ha,h1,h2,by omega,h⟩⟩) hbase hfew hline hs hplain hst
end
end L2
namespace Nt
open PySem L2
open PyProof.Rows (sortedS)
theorem k22(a b c:List Str)(h:∀ z,z∈c↔(if z∈a then z∉b else z∈b)):∀ zs:List Str,(zs.filter fun z=>c.contains z).length % 2=((zs.filter fun z=>a.contains z).length+(zs.filter fun z=>b.contains z).length) % 2
 | []=>rfl
 | z :: r=>by
  have ih:=k22 a b c h r;have hz:=h z;have ca:=fun(l:List Str)=>(Dm (as:=l) (a:=z));simp only [Bk]
  by_cases ha:z∈a <;> by_cases hb:z∈b
  ·have hc:z∉c:=fun q=>by have:=hz.mp q;rw [if_pos ha] at this;exact this hb
   rw [if_pos ((ca a).mpr ha),if_pos ((ca b).mpr hb),if_neg (fun q=>hc ((ca c).mp q)),An,An];omega
  ·have hc:z∈c:=hz.mpr (by rw [if_pos ha];exact hb);rw [if_pos ((ca a).mpr ha),if_neg (fun q=>hb ((ca b).mp q)),if_pos ((ca c).mpr hc),An,An];omega
  ·have hc:z∈c:=hz.mpr (by rw [if_neg ha];exact hb);rw [if_neg (fun q=>ha ((ca a).mp q)),if_pos ((ca b).mpr hb),if_pos ((ca c).mpr hc),An,An];omega
  ·have hc:z∉c:=fun q=>by have:=hz.mp q;rw [if_neg ha] at this;exact hb this
   rw [if_neg (fun q=>ha ((ca a).mp q)),if_neg (fun q=>hb ((ca b).mp q)),if_neg (fun q=>hc ((ca c).mp q))];exact ih
theorem j9u{a:List Str}(hn:a.Nodup):∀ l:List Str,(l.filter fun z=>a.contains z).length=(a.map fun z=>l.count z).sum
 | []=>by
  have:∀ a:List Str,(a.map fun z=>([]:List Str).count z).sum=0:=fun a=>by
   induction a with
   | nil=>rfl
   | cons x r ih=>rw [Bc,Gd,ih];rfl
  rw [this];rfl
 | y :: l=>by
  have ih:=j9u hn l;have key:∀ a:List Str,(a.map fun z=>(y :: l).count z).sum=(a.map fun z=>l.count z).sum+a.count y:=fun a=>by
   induction a with
   | nil=>rfl
   | cons x r ih=>
    rw [Bc,Gd,ih,Bc,Gd,Ff,Ff]
    by_cases h:y=x
    ·rw [if_pos (by simp [h]),if_pos (by simp [h])];omega
    ·rw [if_neg (by simpa using h),if_neg (by simpa using fun q=>h (Eq.symm q))];omega
  rw [key,Bk,<- ih,hn.count]
  by_cases h:y∈a
  ·rw [if_pos (Dm.mpr h),if_pos h,An]
  ·rw [if_neg (fun q=>h (Dm.mp q)),if_neg h];rfl
theorem k2i{n:Net}(T:j04 n){ss:List Str}(hn:ss.Nodup)(hm:∀ z∈ss,z∈ties n):2 * ss.length<=(ties n).length:=by
 have h:=j9u hn (ties n);have e:∀ l:List Str,(∀ z∈l,z∈ties n)->(l.map fun z=>(ties n).count z).sum=2 * l.length:=fun l=>by
  induction l with
  | nil=>intro _;rfl
  | cons x r ih=>
   intro hl;rw [Bc,Gd,ih fun z hz=>hl z (Ao _ hz),T x (hl x (Au ..)),An];omega
 rw [e ss hm] at h;rw [<- h];exact Ch _ _
end Nt
namespace Nt
open PySem L2
open Classical
theorem k5p{ls:List Bl}{f x y:Str}{b c:Bool}(h:Way ls f x b)(g:Way ls x y c):∃ d,Way ls f y d:=by
 induction g with
 | here=>exact⟨b,h⟩
 | there _ m ih=>obtain⟨d,hd⟩:=ih;exact⟨_,.there hd m⟩
 | back _ m ih=>obtain⟨d,hd⟩:=ih;exact⟨_,.back hd m⟩
theorem k18{l1 l2:List Bl}(hm:∀ x y o,(x,y,o)∈l1->∃ o',k24 l2 x y o'){f x:Str}{b:Bool}(h:Way l1 f x b):∃ d,Way l2 f x d:=by
 induction h with
 | here=>exact⟨_,.here⟩
 | there _ m ih=>
  obtain⟨d,hd⟩:=ih;obtain⟨o',t | t⟩:=hm _ _ _ m
  ·exact⟨_,.there hd t⟩
  ·exact⟨_,.back hd t⟩
 | back _ m ih=>
  obtain⟨d,hd⟩:=ih;obtain⟨o',t | t⟩:=hm _ _ _ m
  ·exact⟨_,.back hd t⟩
  ·exact⟨_,.there hd t⟩
noncomputable def lkT(n:Net)(T:List Str):List Bl:=((ends n).filter fun e=>decide (∃ z,j1d n e=some z/\z∈T)).map fun e=>(nmA n e.1,nmA n (other n e).1,false)
theorem lkT_mem{n:Net}{T:List Str}{x y:Str}{o:Bool}:(x,y,o)∈lkT n T↔∃ e z,j1d n e=some z/\z∈T/\x=nmA n e.1/\y=nmA n (other n e).1/\o=false:=by
 unfold lkT;rw [Ak]
 constructor
 ·rintro ⟨e,he,q⟩;obtain⟨z,hz,ht⟩:=of_decide_eq_true (Cf.mp he).2;exact⟨e,z,hz,ht,(congrArg (·.1) q).symm,(congrArg (·.2.1) q).symm,(congrArg (·.2.2) q).symm⟩
 ·rintro ⟨e,z,hz,ht,rfl,rfl,rfl⟩;exact⟨e,Cf.mpr ⟨mem_ends.mpr ⟨z,hz⟩,decide_eq_true ⟨z,hz,ht⟩⟩,rfl⟩
def Rt(n:Net)(T:List Str)(x y:Str):Prop:=∃ b,Way (lkT n T) x y b
theorem Rt.refl(n:Net)(T:List Str)(x:Str):Rt n T x x:=⟨_,.here⟩
theorem Rt.trans{n:Net}{T:List Str}{x y z:Str}(h:Rt n T x y)(g:Rt n T y z):Rt n T x z:=by
 obtain⟨_,h⟩:=h;obtain⟨_,g⟩:=g;exact k5p h g
theorem Rt.step{n:Net}{T:List Str}{e:End}{z:Str}(h:j1d n e=some z)(hz:z∈T):Rt n T (nmA n e.1) (nmA n (other n e).1):=⟨_,.there .here (lkT_mem.mpr ⟨e,z,h,hz,rfl,rfl,rfl⟩)⟩
theorem Rt.ind{n:Net}(Tw:j04 n){T:List Str}{P:Str->Prop}{x y:Str}(h:Rt n T x y)(hx:P x)(hs:∀ e z,j1d n e=some z->z∈T->P (nmA n e.1)->P (nmA n (other n e).1)):P y:=by
 obtain⟨b,h⟩:=h
 induction h with
 | here=>exact hx
 | there _ m ih=>
  obtain⟨e,z,he,hz,rfl,rfl,rfl⟩:=lkT_mem.mp m;exact hs e z he hz ih
 | back _ m ih=>
  obtain⟨e,z,he,hz,rfl,rfl,rfl⟩:=lkT_mem.mp m;have o:=j2p Tw he;have:=hs (other n e) z o.1 hz ih;rw [o.2.1] at this;exact this
theorem q2b{n:Net}(Tw:j04 n)(hg:Hang n)(h0:0 < n.length){T:List Str}(h:∀ e z,j1d n e=some z->Rt n T (nmA n e.1) (nmA n (other n e).1)):∀ x∈n.map (·.1),Rt n T (fstN n) x:=by
 intro x hx;obtain⟨r,hr,rfl⟩:=Ak.mp hx;refine hg (fun x=>Rt n T (fstN n) x) ⟨n[0],Cc h0,?_⟩ (fun r hr s hs z zr zs w=>?_) r hr
 ·have:fstN n=n[0].1:=j13 h0;rw [<- this];exact Rt.refl ..
 ·obtain⟨i,hi,rfl⟩:=Ce.mp hr;obtain⟨j,hj,rfl⟩:=Ce.mp hs;obtain⟨p,hp⟩:=Az zr;obtain⟨q,hq⟩:=Az zs;have h1:j1d n (i,p)=some z:=by show(row n i)[p]?=_;rw [j3f hi];exact hp
  have h2:j1d n (j,q)=some z:=by show(row n j)[q]?=_;rw [j3f hj];exact hq
  rcases (j4z Tw h1).mp h2 with e | e
  ·have:j=i:=congrArg (·.1) e;subst this;exact w
  ·have:=h (i,p) z h1;rw [<- e] at this;rw [show nmA n ((i,p):End).1=n[i].1 from j13 hi,show nmA n ((j,q):End).1=n[j].1 from j13 hj] at this;exact w.trans this
end Nt
namespace Nt
open PySem L2
open Classical
theorem k92{α:Type} [DecidableEq α] {a b:List α} (ha:a.Nodup) (hb:b.Nodup) (hs:∀ x∈a,x∈b):a.length=b.length↔∀ x∈b,x∈a:=by
 constructor
 ·intro h x hx;refine Classical.byContradiction fun hn=>?_;have:=nodup_le (b:=b.erase x) ha fun z hz=>(Es (fun e:z=x=>hn (e ▸ hz))).mpr (hs z hz);rw [Ed hx] at this;have:0 < b.length:=Fk hx;omega
 ·intro h;have h1:=nodup_le ha hs;have h2:=nodup_le hb h;omega
end Nt
namespace Nt
open PySem L2
open Classical
section
variable{n:Net}{z:Str}
def outN(n:Net)(z:Str):Net:=n.map fun r=>(r.1,r.2.filter fun y=>decide (y≠z))
theorem j5j:(outN n z).length=n.length:=Aa ..
theorem k3a:(outN n z).map (·.1)=n.map (·.1):=by
 unfold outN;rw [Cb];rfl
theorem j9d:ties (outN n z)=(ties n).filter fun y=>decide (y≠z):=by
 unfold ties outN;rw [List.flatMap_map,List.filter_flatMap]
theorem q25:(ties (outN n z)).length<=(ties n).length:=by
 rw [j9d];exact Ch ..
theorem k2q(T:j04 n):j04 (outN n z):=fun y hy=>by
 rw [j9d] at hy ⊢;obtain⟨h1,h2⟩:=Cf.mp hy;rw [List.count_filter (p:=fun y=>decide (y≠z)) (a:=y) h2];exact T y h1
theorem k3r(h:(ties n).length<=900):∀ r∈outN n z,r.2.length<=5000:=fun r hr=>by
 obtain⟨s,hs,rfl⟩:=Ak.mp hr;have h1:(s.2.filter fun y=>decide (y≠z)).length<=s.2.length:=Ch ..;obtain⟨i,hi,e⟩:=Ce.mp hs;have h2:=j8l hi;rw [k2f hi,e] at h2;show(s.2.filter fun y=>decide (y≠z)).length<=5000;omega
theorem k5c{i:Nat}(h:i < n.length):outN (n.take (i+1)) z=outN (n.take i) z++[(nmA n i,(row n i).filter fun y=>decide (y≠z))]:=by
 unfold outN;rw [Bt,Ab h,Ai,j13 h,k2f h];rfl
def Whl(n:Net):Prop:=∀ x∈n.map (·.1),Rt n (ties n) (fstN n) x
noncomputable def outO(n:Net)(z:Str):Out:=if z∈ties n then(if Whl (outN n z) then .inr (outN n z) else .inl "Bridge") else .inl "NoTie"
theorem q22(h:z∉ties n):outO n z = .inl "NoTie":=by unfold outO;rw [if_neg h]
theorem q2z(h:z∈ties n)(k:¬ Whl (outN n z)):outO n z = .inl "Bridge":=by unfold outO;rw [if_pos h,if_neg k]
theorem k08(h:z∈ties n)(k:Whl (outN n z)):outO n z = .inr (outN n z):=by unfold outO;rw [if_pos h,if_pos k]
end
def allL(ls:List Lk):List Bl:=ls.map fun x=>(x.2.1,x.2.2,false)
theorem q16{n:Net}(T:j04 n){ls:List Lk}(h:∀ x,x∈ls↔j6r n x){f x:Str}:(∃ b,Way (allL ls) f x b)↔Rt n (ties n) f x:=by
 have mem:∀{x y:Str} {o:Bool},(x,y,o)∈allL ls↔∃ l∈ls,x=l.2.1/\y=l.2.2/\o=false:=fun{x y o}=>by
  unfold allL;rw [Ak]
  constructor
  ·rintro ⟨l,hl,q⟩;exact⟨l,hl,(congrArg (·.1) q).symm,(congrArg (·.2.1) q).symm,(congrArg (·.2.2) q).symm⟩
  ·rintro ⟨l,hl,rfl,rfl,rfl⟩;exact⟨l,hl,rfl⟩
 constructor
 ·rintro ⟨b,w⟩;refine k18 (fun x y o hm=>?_) w;obtain⟨l,hl,rfl,rfl,rfl⟩:=mem.mp hm;obtain⟨e,he,h1,h2⟩:=k9f T ((h l).mp hl);exact⟨false,.inl (lkT_mem.mpr ⟨e,l.1,he,j3h he,h1,h2,rfl⟩)⟩
 ·rintro ⟨b,w⟩;refine k18 (fun x y o hm=>?_) w;obtain⟨e,z,he,hz,rfl,rfl,rfl⟩:=lkT_mem.mp hm
  rcases k8v T he with q | q
  ·exact⟨false,.inl (mem.mpr ⟨_,(h _).mpr q,rfl,rfl,rfl⟩)⟩
  ·exact⟨false,.inr (mem.mpr ⟨_,(h _).mpr q,rfl,rfl,rfl⟩)⟩
theorem k2p{n:Net}(T:j04 n)(hN:(n.map (·.1)).Nodup)(h0:0 < n.length){ls:List Lk}(h:∀ x,x∈ls↔j6r n x){kvs:List (Key×V)}(I:SpI (allL ls) (fstN n) none kvs []):kvs.length=n.length↔Whl n:=by
 have key:∀ x,Sum.inr x∈kvs.map (·.1)↔Rt n (ties n) (fstN n) x:=fun x=>by
  rw [<- q16 T h]
  constructor
  ·intro hx;cases hv:valV kvs (Sum.inr x) with
   | none=>exact absurd hx (I.notin hv)
   | some v=>
    obtain⟨b,_,w⟩:=I.val x v hv;exact⟨b,w⟩
  ·rintro ⟨b,w⟩;obtain⟨b',hb'⟩:=I.whole x b w;exact k72 hb'
 have names:∀ x,Rt n (ties n) (fstN n) x->x∈n.map (·.1):=fun x hx=>hx.ind T (P:=fun x=>x∈n.map (·.1)) (j4p h0) fun e z he _ _=>j4p (k7p T he);have nd2:((n.map (·.1)).map (Sum.inr:Str->Key)).Nodup:=List.Pairwise.map _ (fun a b h e=>h (Sum.inr.inj e)) hN;have k:=k92 I.nod nd2 fun k hk=>by
  obtain⟨x,rfl,_⟩:=I.txt k hk;exact Ak.mpr ⟨x,names x ((key x).mp hk),rfl⟩
 rw [Aa,Aa,Aa] at k;rw [k]
 constructor
 ·exact fun q x hx=>(key x).mp (q _ (Ak.mpr ⟨x,hx,rfl⟩))
 ·intro q y hy;obtain⟨x,hx,rfl⟩:=Ak.mp hy;exact(key x).mpr (q x hx)
section
variable{H0 H:Hp}{d l0 a:Addr}{done:List (Str×End)}{kvs:List (Key×V)}{ks:List Str}{z:Str}{e:End}
end
end Nt
namespace R4
open PySem L2 Nt Sort2 SetT
open PyProof.Rows (sortedS)
open Classical
theorem AtB.snoc{H:Hp}{us:List Addr}{ls:List Bl}{u:Addr}{x:Bl}(h:AtB H us ls)(hu:H u=some (T3b x)):AtB H (us++[u]) (ls++[x]):=by
 refine⟨by rw [Af,Af,h.1];rfl,fun j v y h1 h2=>?_⟩;have hl:=h.1
 by_cases hj:j < us.length
 ·rw [Ar hj] at h1;rw [Ar (by omega)] at h2;exact h.2 j v y h1 h2
 ·rw [Ay (by omega)] at h1 h2;have hj2:j - us.length=0:=by
   have:=(Ac.mp h1).1;simp at this;omega
  rw [hj2] at h1;rw [<- hl,hj2] at h2;cases h1;cases h2;exact hu
noncomputable def spHt:Sp:=fun vs H Q _=>∃(R:Addr) (as:List (Addr×Addr)) (n:Net),vs=[.ref R]/\RowsAt H R as n/\j04 n/\(n.map (·.1)).Nodup/\0 < n.length/\n.length<=60/\(ties n).length<=60/\∀ H',Same H H'->Q (.bl (decide (Whl n))) H'
theorem k5e{ls:List Lk}{i:Nat}(h:i < ls.length):allL (ls.take (i+1))=allL (ls.take i)++[((ls[i]).2.1,(ls[i]).2.2,false)]:=by
 unfold allL;rw [Bt,Ab h,Ai];rfl
theorem ne_str(y z:Str):(!decide (V.str y=V.str z))=decide (y≠z):=by
 by_cases c:y=z
 ·rw [c,decide_eq_true rfl,decide_eq_false (fun k=>k rfl)];rfl
 ·rw [decide_eq_false (fun k=>c (V.str.inj k)),decide_eq_true c];rfl
theorem q3m{n:Net}{z:Str}(hn:n.length<=1000)(ht:(ties n).length<=900):Sm (outN n z):=⟨by rw [j5j];exact hn,k3r ht⟩
section
variable{P:Program}{w:World}{K:PySem.W.Frag}{mg:Str->Option Value}{base:Heap}
abbrev NHt:List Str:=["rows","links"]
abbrev NHt':List Str:=["rows","links","tie","one","other"]
theorem scHt:FnScope NHt ["rows"] (j0g j1w):=⟨rfl,rfl,rfl,by decide +kernel,rfl,by decide +kernel,by decide +kernel⟩
theorem q2o:NHt'.Nodup:=by decide +kernel
theorem q7w{f:Addr}{fd:FuncData}(F:Fun K "hangs_together" "hangs_together" j1w f fd)(T:Txt mg)(GL:Has P w K mg base 1 "links_of" ["rows"] k01)(GS:Has P w K mg base 1 "spread" ["first","links"] j72) :
  FnOk P w K mg base CX0 2 f fd ["rows"] spHt:=by
 refine F.gb scHt (fun vs H Q E h=>?_) (fun b0 H vs Q E hr h=>?_)
 ·obtain⟨R,as,n,rfl,_⟩:=h;rfl
 obtain⟨R,as,n,rfl,hR,hT,hN,h0,hn,hti,q⟩:=h;have nd:=scHt.nd;have hal:=hR.len;show Run _ _ _ [some (.ref R),none] H;refine j5i 1 (j0g j1w) NHt NHt' 3 nd (j1u j05) (j0u GL hr (j0a (ev_v 0 (j0c ⟨R,as,n,rfl,hR,hT,by omega,hti,fun L us ls H1 s1 n1 eL hat hso hmem hlen=>?_⟩))));refine⟨L,rfl,⟨_,SqL.of eL⟩,fun D hD=>?_⟩;have lus:=hat.1;refine j1o (xs:=us.map V.ref) (fun i σ' H'=>(∃ v1 v2 v3,σ'=[some (.ref R),none]++[v1,v2,v3])/\∃ ws:List Addr,Same H1 H'/\H' D=some (.lst (ws.map V.ref))/\AtB H' ws (allL (ls.take i))) ⟨⟨_,_,_,rfl⟩,[],j0e hD _,j0b,rfl,fun j u x h=>by simp at h⟩ ?_ ?_ ?_
 ·rintro i σ' H' _ ⟨_,ws,sm,_⟩;exact SqL.of (sm _ _ eL)
 ·rintro i x σ' H' hx ⟨⟨v1,v2,v3,rfl⟩,ws,sm,eD,hatb⟩;rw [Ad,Aw] at hx;obtain⟨u,hu1,rfl⟩:=hx;have hi:i < ls.length:=by
   have:=(Ac.mp hu1).1;omega
  have hup:=sm _ _ (hat.2 i u _ hu1 (Ab hi));rw [k5e hi];have lw:ws.length<=i:=by
   have:=hatb.1;unfold allL at this;rw [Aa,Bh] at this;omega
  generalize ls[i]=lx at hup;obtain⟨ti,on,ot⟩:=lx;intro cl C' s₀ H₀ ex;refine j8g rfl (SqT.of hup) (j0k 2 q2o (j0k 3 q2o (j0k 4 q2o ?_)));intro cl C' s₀ H₀ ex;refine j2v (iteT ?_);intro cl C' s₀ H₀ ex;refine j1n (j0a (ev_v 3 (j0a (ev_v 4 (j0a (k0q (j0c ⟨(by show 3<=sizeLine;decide),fun t ht'=>?_⟩)))))));have ntD:t≠D:=fun e=>by rw [e,eD] at ht';cases ht'
  have sT:=j0e ht' (.tup [.str on,.str ot,.bl false]);refine⟨_,sT _ _ eD,by rw [Aa];exact j00 (by omega),⟨_,_,_,rfl⟩,ws++[t],j02 (sm.trans sT) hD,?_,?_⟩
  ·rw [j0b,Ai];rfl
  ·refine AtB.snoc ⟨hatb.1,fun j v y h1 h2=>?_⟩ ?_
   ·have e:=sT _ _ (hatb.2 j v y h1 h2);rw [j0d (j1s e (sT _ _ eD) fun z=>nomatch z)];exact e
   ·rw [j0d ntD];exact j0b
 ·rintro σ' H2 ⟨_,ws,s2,eD,hatb⟩;rw [Aa,lus,Bp] at hatb;have sH2:Same H H2:=s1.trans s2;have hR2:=hR.same sH2;obtain⟨a0,ea0,eat0,et0,el0,er0⟩:=hR2.at h0;rw [<- j13 h0] at et0;show Run _ _ _ [some (.ref R),some (.ref D)] H2;refine j0r (j59 j6y (j0y k5u T.len boot_len (j0a (j0u GS hr (j0a (j0q j0x (j0q j0s (ev_v 0 (j0h ⟨R,_,_,.ref a0.1,rfl,rfl,SqL.of hR2.lst,eat0,j0h ⟨a0.1,_,_,.str (nmA n 0),rfl,rfl,SqT.of et0,rfl,?_⟩⟩)))))))));refine j0a (ev_v 1 (j0c ⟨fstN n,D,ws,allL ls,rfl,eD,hatb,by unfold allL;rw [Aa];omega,fun d kvs H3 s3 nd3 ed3 I=>j0c ⟨d,kvs,rfl,ed3,?_⟩⟩));refine j0y j0l T.len boot_len (j0a (ev_v 0 (j0c ⟨R,_,rfl,.inl (SqL.of (s3 _ _ hR2.lst)),rfl,?_⟩)));rw [Aa,hal];have k:=k2p hT hN h0 hmem I;have e:decide (V.int (kvs.length:Int)=V.int (n.length:Int))=decide (Whl n):=by
   rw [decide_eq_decide,<- k]
   constructor
   ·intro h;have:=V.int.inj h;omega
   ·intro h;rw [h]
  rw [e];exact q H3 (sH2.trans s3)
abbrev NOt1:List Str:=["rows","tie","rest"]
abbrev NOt2:List Str:=["rows","tie","rest","point","ties"]
abbrev NOt3:List Str:=["rows","tie","rest","point","ties","each"]
theorem scTo:FnScope NOt1 ["rows","tie"] (j0g j1y):=⟨rfl,rfl,rfl,by decide +kernel,rfl,by decide +kernel,by decide +kernel⟩
theorem q0l:NOt2.Nodup:=by decide +kernel
theorem q4o:NOt3.Nodup:=by decide +kernel
def q6d:Scope:=match j17 j1y with
 | _ :: .Assign _ (.ListComp _ _ sc _) _ :: _=>sc
 | _=>j0g j1y
def q67:Scope:=relabel q6d (PyProof.Rows.envOfC "taken_out" (j0g j1y) 0 0 .none)
theorem q7m{f:Addr}{fd:FuncData}{c:Str->Addr}(F:Fun K "taken_out" "taken_out" j1y f fd)(T:Txt mg)(cl:Cl K mg c)(GN:HasX P w K mg base 2 "need_tie" ["rows","tie"] (k1j c))(GH:Has P w K mg base 2 "hangs_together" ["rows"] spHt) :
  FnOk P w K mg base (XF P w) 3 f fd ["rows","tie"] (j7d c outO):=by
 refine F.gx scTo (fun vs H Q E h=>?_) (fun b0 H vs Q hr h=>?_)
 ·obtain⟨R,as,n,z,rfl,_⟩:=h;rfl
 obtain⟨R,as,n,z,rfl,hR,hT,hN,hn0,ht0,hfew,qE,qQ⟩:=h;have hn:n.length<=1000:=by omega
 have ht:(ties n).length<=900:=by omega
 have nd:=scTo.nd;have hal:=hR.len;have mB:("Bridge" : Str)∈xNames:=by decide
 show Run _ _ _ [some (.ref R),some (.str z),none] H;refine j0v (j1p GN hr j6e (j0a (ev_v 0 (j0a (ev_v 1 (j0c ⟨R,as,n,z,rfl,hR,hn,ht,hfew,fun hz=>qE _ (q22 hz),fun hz H1 s1=>?_⟩))))));have hR1:=hR.same s1;refine j5i 2 (j0g j1y) NOt1 NOt2 2 nd (j1u j05) (ev_v 0 ⟨R,rfl,⟨_,SqL.of hR1.lst⟩,fun D hD=>?_⟩);have nD0:=j0n s1 hD;refine j1o (xs:=as.map fun a=>V.ref a.1) (fun i σ' H'=>(∃ v1 v2,σ'=[some (.ref R),some (.str z),none]++[v1,v2])/\Same H1 H'/\∃ bs,Bld H H' D bs (outN (n.take i) z)) ⟨⟨none,none,rfl⟩,j0e hD _,[],Bld.nil j0b⟩ ?_ ?_ ?_
 ·rintro i σ' H' _ ⟨_,sm,_⟩;exact SqL.of (sm _ _ hR1.lst)
 ·rintro i x σ' H' hx ⟨⟨v1,v2,rfl⟩,sm,bs,hB⟩;have hi:i < n.length:=by
   have:=(Ac.mp hx).1;rw [Aa] at this;omega
  obtain⟨a,ea,eat,et,el,er⟩:=(hR1.same sm).at hi;rw [Ad,ea] at hx;cases hx;rw [<- j13 hi] at et;have bl:=hB.rows.len;rw [j5j,Bh] at bl;have hrl:=j8l hi;rw [k5c hi];intro cl' C' s₀ H₀ ex;refine j15 rfl (SqT.of et) (j0k 3 q0l (j0k 4 q0l ?_));intro cl' C' s₀ H₀ ex;refine j2v (iteT ?_);intro cl' C' s₀ H₀ ex;refine j1n (j0a (ev_v 3 (j0a (j3a q67 NOt2 NOt3 1 (j1u j05) (ev_v 4 ⟨a.2,rfl,⟨_,SqL.of el⟩,fun D2 hD2=>?_⟩)))));refine k4j (σ:=[some (.ref R),some (.str z),none,some (.str (nmA n i)),some (.ref a.2)]) (fun y=>decide (y≠z)) (j00 (by omega)) el hD2 (fun cl C s₀ H₀ ex v v0 H' R' h=>j0k 5 q4o h) (fun cl C s₀ H₀ ex y ys T' h=>?_) (fun cl C s₀ H₀ ex y H' R' h=>ev_v 5 h) ?_
  ·refine j83 (j09 k3d (ev_v 5 (ev_v 1 ⟨rfl,_,rfl,?_⟩)));rw [ne_str];exact h
  ·have s2:=j0e hD2 (Ls ((row n i).filter fun y=>decide (y≠z)));have hB2:=hB.same s2;have e2:(upd H' D2 (Ls ((row n i).filter fun y=>decide (y≠z)))) D2=some (Ls ((row n i).filter fun y=>decide (y≠z))):=j0b;refine j0c ⟨(by show 2<=sizeLine;decide),fun t ht2=>⟨bs.map fun a=>V.ref a.1,?_,?_,⟨_,_,rfl⟩,?_,bs++[(t,D2)],?_⟩⟩
   ·rw [j0d (fun e=>by rw [<- e] at ht2;exact absurd (hB2.rows.lst.symm.trans ht2) (by simp))];exact hB2.rows.lst
   ·rw [Aa];exact j00 (by omega)
   ·exact j02 (sm.trans (s2.trans (j0e ht2 _))) hD
   ·exact hB2.add (p:=nmA n i) e2 (j0n (s1.trans sm) hD2) (fun k=>by
     obtain⟨a',ha',e'⟩:=Ak.mp k;have:=(hB.in_heap ha').2;rw [e',hD2] at this;exact this rfl) (fun e=>by rw [e,hB.rows.lst] at hD2;cases hD2) ht2 (j0n (s1.trans (sm.trans s2)) ht2)
 rintro σ' H2 ⟨_,s2,bs,hB⟩;rw [Aa,hal,Bp] at hB;have s12:=s1.trans s2;show Run _ _ _ [some (.ref R),some (.str z),some (.ref D)] H2;have h0:0 < n.length:=by
  obtain⟨r,hr',_⟩:=q0y hz;omega
 have lo:=q25 (n:=n) (z:=z);refine j11 (j3l (j32 (j0u GH hr (j0a (ev_v 2 (j0c ⟨D,bs,_,rfl,hB.rows,k2q hT,by rw [k3a];exact hN,by rw [j5j];exact h0,by rw [j5j];omega,by omega,fun H3 s3=>⟨_,rfl,?_⟩⟩))))));have s13:=s12.trans s3
 by_cases hw:Whl (outN n z)
 ·rw [decide_eq_true hw];exact iteF (j0i (j0r (ev_v 2 (qQ _ (k08 hz hw) D bs H3 s13 nD0 hB.new (hB.rows.same s3) (q3m hn ht)))))
 ·rw [decide_eq_false hw];exact iteT (j16 rzX (cl.at' _ mB).1 (cl.at' _ mB).2.1 rfl (j0a (j25 (j0c ⟨(by show 1<=sizeLine;decide),qE _ (q2z hz hw) _ s13⟩))))
end
end R4
namespace R4
open PySem L2 Nt Sort2 SetT
open PyProof.Rows (sortedS)
def k65:Sp:=fun vs H Q _=>∃(a b:Addr) (xs ys:List Str) (z:Str),vs=[.ref a,.ref b,.str z]/\H a=some (Ls xs)/\H b=some (Ls ys)/\z∈xs/\z∈ys/\xs.length<=1000/\ys.length<=1000/\∀ l H',Same H H'->H l=none->H' l=some (Ls (j6u xs ys z))->Q (.ref l) H'
section
variable{P:Program}{w:World}{K:PySem.W.Frag}{mg:Str->Option Value}{base:Heap}
abbrev NJ:List Str:=["ties","others","tie","place","turn"]
theorem scJ:FnScope NJ ["ties","others","tie"] (j0g j8c):=⟨rfl,rfl,rfl,by decide +kernel,rfl,by decide +kernel,by decide +kernel⟩
theorem q2c{f:Addr}{fd:FuncData}(F:Fun K "joined" "joined" j8c f fd)(T:Txt mg):FnOk P w K mg base CX0 1 f fd ["ties","others","tie"] k65:=by
 refine F.gb scJ (fun vs H Q E h=>?_) (fun b0 H vs Q E hr h=>?_)
 ·obtain⟨a,b,xs,ys,z,rfl,_⟩:=h;rfl
 obtain⟨a,b,xs,ys,z,rfl,ha,hb,hx,hy,lx,ly,q⟩:=h;have nd:=scJ.nd;show Run _ _ _ [some (.ref a),some (.ref b),some (.str z),none,none] H;refine j0j 3 nd (k1i ha hx lx (fun R h=>ev_v 0 h) (fun R h=>ev_v 2 h) ?_);show Run _ _ _ [some (.ref a),some (.ref b),some (.str z),some (.int (ixOf xs z:Int)),none] H;refine j0j 4 nd (k1i hb hy ly (fun R h=>ev_v 1 h) (fun R h=>ev_v 2 h) ?_);show Run _ _ _ [some (.ref a),some (.ref b),some (.str z),some (.int (ixOf xs z:Int)),some (.int (ixOf ys z:Int))] H;refine j0r (j0t j7c (j0t j7c (j0t j7c (q6p ha (fun R h=>ev_v 0 h) (fun R h=>ev_v 3 h) fun p1 h1=>?_))));have s1:=j0e h1 (Ls (xs.take (ixOf xs z)));have e1:(upd H p1 (Ls (xs.take (ixOf xs z)))) p1=some (Ls (xs.take (ixOf xs z))):=j0b;generalize upd H p1 (Ls (xs.take (ixOf xs z)))=H1 at s1 e1;refine q0j (s1 _ _ hb) (fun R h=>ev_v 1 h) (fun R h=>ev_v 4 h) fun p2 h2=>?_;have s2:=j0e h2 (Ls (ys.drop (ixOf ys z+1)));refine j5e (s2 _ _ e1) j0b (by simp only [Bh,Dc];omega) fun p3 h3=>?_;have s3:=j0e h3 (Ls (xs.take (ixOf xs z)++ys.drop (ixOf ys z+1)));have e3:(upd (upd H1 p2 (Ls (ys.drop (ixOf ys z+1)))) p3 (Ls (xs.take (ixOf xs z)++ys.drop (ixOf ys z+1)))) p3=some (Ls (xs.take (ixOf xs z)++ys.drop (ixOf ys z+1))):=j0b;have s13:=s1.trans (s2.trans s3);generalize upd (upd H1 p2 (Ls (ys.drop (ixOf ys z+1)))) p3 (Ls (xs.take (ixOf xs z)++ys.drop (ixOf ys z+1)))=H3 at s13 e3;refine q6p (s13 _ _ hb) (fun R h=>ev_v 1 h) (fun R h=>ev_v 4 h) fun p4 h4=>?_;have s4:=j0e h4 (Ls (ys.take (ixOf ys z)));refine j5e (s4 _ _ e3) j0b (by simp only [Af,Bh,Dc];omega) fun p5 h5=>?_;have s5:=j0e h5 (Ls (xs.take (ixOf xs z)++ys.drop (ixOf ys z+1)++ys.take (ixOf ys z)));have e5:(upd (upd H3 p4 (Ls (ys.take (ixOf ys z)))) p5 (Ls (xs.take (ixOf xs z)++ys.drop (ixOf ys z+1)++ys.take (ixOf ys z)))) p5=some (Ls (xs.take (ixOf xs z)++ys.drop (ixOf ys z+1)++ys.take (ixOf ys z))):=j0b;have s15:=s13.trans (s4.trans s5);generalize upd (upd H3 p4 (Ls (ys.take (ixOf ys z)))) p5 (Ls (xs.take (ixOf xs z)++ys.drop (ixOf ys z+1)++ys.take (ixOf ys z)))=H5 at s15 e5;refine q0j (s15 _ _ ha) (fun R h=>ev_v 0 h) (fun R h=>ev_v 3 h) fun p6 h6=>?_;have s6:=j0e h6 (Ls (xs.drop (ixOf xs z+1)));refine j5e (s6 _ _ e5) j0b (by simp only [Af,Bh,Dc];omega) fun p7 h7=>?_;have s7:=j0e h7 (Ls (xs.take (ixOf xs z)++ys.drop (ixOf ys z+1)++ys.take (ixOf ys z)++xs.drop (ixOf xs z+1)));refine q p7 _ (s15.trans (s6.trans s7)) (j0n (s15.trans s6) h7) ?_;rw [j0b];unfold j6u;rw [Bm (xs.take (ixOf xs z))]
abbrev NSr:List Str:=["rows","tie","holders","stays","goes","lists","both"]
abbrev NSr':List Str:=["rows","tie","holders","stays","goes","lists","both","point","ties"]
theorem scShr:FnScope NSr ["rows","tie"] (j0g j4o):=⟨rfl,rfl,rfl,by decide +kernel,rfl,by decide +kernel,by decide +kernel⟩
theorem k88:NSr'.Nodup:=by decide +kernel
theorem k70{a b:List Str}{z:Str}(la:a.length<=900)(lb:b.length<=900):(j6u a b z).length<=5000:=by
 unfold j6u;simp only [Af,Bh,Dc];omega
theorem q5s{n:Net}{z:Str}{r0 r1:Nat}(tw:Two n z r0 r1)(hn:n.length<=1000)(ht:(ties n).length<=900):Sm (shr n z r0 r1):=by
 refine⟨Bv j7o hn,fun r hr=>?_⟩;unfold shr shrK at hr;obtain⟨i,hi,rfl⟩:=Ak.mp hr;have hil:=Bj.mp (Cf.mp hi).1;show(if i=r0 then j6u (row n r0) (row n r1) z else row n i).length<=5000;have l0:=j8l tw.l0;have l1:=j8l tw.l1;have li:=j8l hil
 split
 ·exact k70 (by omega) (by omega)
 ·omega
theorem q6f{n:Net}{z:Str}{i:Nat}:((hldK n z i).map (nmA n)).length<=i:=by
 rw [Aa];unfold hldK;exact Bv (Ch ..) (by rw [Cw];exact Ah _)
theorem q51{f:Addr}{fd:FuncData}{c:Str->Addr}(F:Fun K "shrunk" "shrunk" j4o f fd)(T:Txt mg)(cl:Cl K mg c)(GN:HasX P w K mg base 2 "need_tie" ["rows","tie"] (k1j c))(GJ:Has P w K mg base 2 "joined" ["ties","others","tie"] k65) :
  FnOk P w K mg base (XF P w) 3 f fd ["rows","tie"] (j7d c outS):=by
 refine F.gx scShr (fun vs H Q E h=>?_) (fun b0 H vs Q hr h=>?_)
 ·obtain⟨R,as,n,z,rfl,_⟩:=h;rfl
 obtain⟨R,as,n,z,rfl,hR,hT,hN,hn0,ht0,hfew,qE,qQ⟩:=h;have hn:n.length<=1000:=by omega
 have ht:(ties n).length<=900:=by omega
 have nd:=scShr.nd;have hal:=hR.len;have hu:=hr.u1;have mL:("Loop" : Str)∈xNames:=by decide
 show Run _ _ _ [some (.ref R),some (.str z),none,none,none,none,none] H;refine j0v (j1p GN hr j6e (j0a (ev_v 0 (j0a (ev_v 1 (j0c ⟨R,as,n,z,rfl,hR,hn,ht,hfew,fun hz=>qE _ (q4v hz),fun hz H1 s1=>?_⟩))))));have hR1:=hR.same s1;refine j5i 2 (j0g j4o) NSr NSr' 2 nd (j1u j05) (ev_v 0 ⟨R,rfl,⟨_,SqL.of hR1.lst⟩,fun D hD=>?_⟩);refine j1o (xs:=as.map fun a=>V.ref a.1) (fun i σ' H'=>(∃ v1 v2,σ'=[some (.ref R),some (.str z),none,none,none,none,none]++[v1,v2])/\Same H1 H'/\H' D=some (Ls ((hldK n z i).map (nmA n)))) ⟨⟨none,none,rfl⟩,j0e hD _,j0b⟩ ?_ ?_ ?_
 ·rintro i σ' H' _ ⟨_,sm,_⟩;exact SqL.of (sm _ _ hR1.lst)
 ·rintro i x σ' H' hx ⟨⟨v1,v2,rfl⟩,sm,eD⟩;have hi:i < n.length:=by
   have:=(Ac.mp hx).1;rw [Aa] at this;omega
  obtain⟨a,ea,eat,et,el,er⟩:=(hR1.same sm).at hi;rw [Ad,ea] at hx;cases hx;rw [<- j13 hi] at et;intro cl' C' s₀ H₀ ex;refine j15 rfl (SqT.of et) (j0k 7 k88 (j0k 8 k88 ?_));intro cl' C' s₀ H₀ ex;refine j83 (j09 j9o (ev_v 1 (ev_v 8 ⟨a.2,_,rfl,.inl (SqL.of el),rfl,j3n _,_,rfl,?_⟩)));rw [if_neg Al,j5m,j2u];refine ite2 (fun k=>?_) (fun k=>⟨⟨_,_,rfl⟩,sm,?_⟩)
  ·intro cl' C' s₀ H₀ ex;have:=q6f (n:=n) (z:=z) (i:=i);refine ev_v 7 ⟨_,eD,j00 (by rw [Aa];omega),⟨_,_,rfl⟩,j02 sm hD,?_⟩;rw [j6l,if_pos (of_decide_eq_true k),j0b,Ai];show _=some (HO.lst (List.map V.str (_++_)));rw [Ai];rfl
  ·rw [j6l,if_neg (fun y=>k (decide_eq_true y)),Ba];exact eD
 rintro σ' H2 ⟨_,s2,eD⟩;rw [Aa,hal] at eD;have hR2:=hR1.same s2;have s12:=s1.trans s2;show Run _ _ _ [some (.ref R),some (.str z),some (.ref D),none,none,none,none] H2;refine j11 (j09 j6y (j0y j0l T.len boot_len (j0a (ev_v 2 (j0c ⟨D,_,rfl,.inl (SqL.of eD),j0h ⟨rfl,_,rfl,?_⟩⟩)))));rw [Aa,Aa]
 rcases k43 hT hz with ⟨r,h1⟩ | ⟨r0,r1,h2⟩
 ·rw [show hldK n z n.length=[r] from h1];exact iteT (j16 rzX (cl.at' _ mL).1 (cl.at' _ mL).2.1 rfl (j0a (j25 (j0c ⟨(by show 1<=sizeLine;decide),qE _ (k8e h1) _ s12⟩))))
 rw [show hldK n z n.length=[r0,r1] from h2];rw [show hldK n z n.length=[r0,r1] from h2] at eD;have tw:=q4z h2;refine iteF (j0i (k06 (ev_v 2 (k77 rfl (SqL.of (xs:=[.str (nmA n r0),.str (nmA n r1)]) eD) (j0k 3 nd (j0k 4 nd ?_))))));show Run _ _ _ [some (.ref R),some (.str z),some (.ref D),some (.str (nmA n r0)),some (.str (nmA n r1)),none,none] H2;have knd:=k2o hal hN;have klen:(rwKv n as).length=n.length:=by have:=congrArg List.length (j6k n as hal);simpa using this
 refine j0j 5 nd (j34 (j35 rfl) T.tdict PyProof.Rows.boot_dict (j0a (ev_v 0 (j0c ⟨R,as.map (·.1),rwKv n as,rfl,?_,?_,?_,?_,fun dl hdl=>?_⟩))))
 ·rw [Cb];exact hR2.lst
 ·rw [Aa,klen,hal]
 ·rw [Aa];exact j00 (by omega)
 ·intro j t kv h1 h2;rw [Ad,Aw] at h1;obtain⟨a,ea,rfl⟩:=h1;have hj:j < n.length:=by have:=(Ac.mp ea).1;omega
  have e:=k56 (Ab hj) ea;rw [h2] at e;cases e;exact(hR2.tup j a n[j] ea (Ab hj)).1
 rw [k2c (acc:=[]) (by rw [Fg];exact knd),Fg];have s3:=j0e hdl (.dK (rwKv n as));have el:(upd H2 dl (.dK (rwKv n as))) dl=some (.dK (rwKv n as)):=j0b;generalize upd H2 dl (.dK (rwKv n as))=H3 at s3 el;have hR3:=hR2.same s3;show Run _ _ _ [some (.ref R),some (.str z),some (.ref D),some (.str (nmA n r0)),some (.str (nmA n r1)),some (.ref dl),none] H3;obtain⟨a0,ea0,_,et0,el0,er0⟩:=hR3.at tw.l0;obtain⟨a1,ea1,_,et1,el1,er1⟩:=hR3.at tw.l1;have val:∀{r:Nat} {a:Addr×Addr} (hr:r < n.length),as[r]?=some a->valV (rwKv n as) (Sum.inr (nmA n r))=some (.ref a.2):=fun{r a} hr ha=>by
  have:=q6a knd (k56 (Ab hr) ha);rw [j13 hr];exact this
 have l0:=j8l tw.l0;have l1:=j8l tw.l1;refine j0j 6 nd (j0u GJ hr (j0a (j21 hu (ev_v 5 (ev_v 3 ⟨dl,.ref a0.2,rfl,by rw [<- val tw.l0 ea0];exact DGet.k (k:=Sum.inr (nmA n r0)) el,?_⟩)))));refine j0a (j21 hu (ev_v 5 (ev_v 4 ⟨dl,.ref a1.2,rfl,by rw [<- val tw.l1 ea1];exact DGet.k (k:=Sum.inr (nmA n r1)) el,?_⟩)));refine j0a (ev_v 1 (j0c ⟨a0.2,a1.2,_,_,z,rfl,el0,el1,tw.m0,tw.m1,by omega,by omega,fun lb H4 s4 nb eb=>?_⟩));show Run _ _ _ [some (.ref R),some (.str z),some (.ref D),some (.str (nmA n r0)),some (.str (nmA n r1)),some (.ref dl),some (.ref lb)] H4;have s14:=s12.trans (s3.trans s4);have hR4:=hR.same s14;have nb0:H lb=none:=j0n (s12.trans s3) nb;refine j0r (j3a (j0g j4o) NSr NSr' 2 (j1u j05) (ev_v 0 ⟨R,rfl,⟨_,SqL.of hR4.lst⟩,fun M hM=>?_⟩));have nM0:=j0n s14 hM;have nbM:lb≠M:=j0f eb hM;refine j1o (xs:=as.map fun a=>V.ref a.1) (fun i σ' H'=>(∃ v1 v2,σ'=[some (.ref R),some (.str z),some (.ref D),some (.str (nmA n r0)),some (.str (nmA n r1)),some (.ref dl),some (.ref lb)]++[v1,v2])/\Same H4 H'/\∃ bs,Bld H H' M bs (shrK n z r0 r1 i)/\∀ a∈bs,a.2=lb->r0 < i)
  ⟨⟨none,none,rfl⟩,j0e hM _,[],Bld.nil j0b,fun a h=>(by simp at h)⟩ ?_ ?_ ?_
 ·rintro i σ' H' _ ⟨_,sm,_⟩;exact SqL.of (sm _ _ hR4.lst)
 ·rintro i x σ' H' hx ⟨⟨v1,v2,rfl⟩,sm,bs,hB,hlb⟩;have hi:i < n.length:=by
   have:=(Ac.mp hx).1;rw [Aa] at this;omega
  obtain⟨a,ea,eat,et,el,er⟩:=(hR4.same sm).at hi;rw [Ad,ea] at hx;cases hx;rw [<- j13 hi] at et;have bl:=hB.rows.len;have kl:=j7o (n:=n) (z:=z) (r0:=r0) (r1:=r1) (k:=i);have ebk:=sm _ _ eb;intro cl' C' s₀ H₀ ex;refine j15 rfl (SqT.of et) (j0k 7 k88 (j0k 8 k88 ?_));intro cl' C' s₀ H₀ ex;refine j83 (j09 k3d (ev_v 7 (ev_v 4 ⟨rfl,_,rfl,?_⟩)))
  by_cases c1:i=r1
  ·subst c1;rw [decide_eq_true (rfl:V.str (nmA n i)=V.str (nmA n i))];refine iteF ⟨⟨_,_,rfl⟩,sm,bs,?_,fun a ha e=>Ca (hlb a ha e)⟩;rw [j9m,if_pos rfl,Ba];exact hB
  rw [decide_eq_false (fun k:V.str (nmA n i)=V.str (nmA n r1)=>c1 (j3o hN hi tw.l1 (V.str.inj k)))];rw [j9m,if_neg c1];refine iteT ?_;intro cl' C' s₀ H₀ ex;refine j1n (j0a (ev_v 7 (j0a (k9h (j09 j6y (ev_v 7 (ev_v 3 ⟨rfl,_,rfl,?_⟩)))))))
  by_cases c0:i=r0
  ·subst c0;rw [decide_eq_true (rfl:V.str (nmA n i)=V.str (nmA n i))];refine iteT (ev_v 6 (j0c ⟨(by show 2<=sizeLine;decide),fun t ht=>⟨bs.map fun a=>V.ref a.1,?_,?_,⟨_,_,rfl⟩,?_,bs++[(t,lb)],?_,fun a ha e=>Ex _⟩⟩))
   ·rw [j0d (fun e=>by rw [<- e,hB.rows.lst] at ht;cases ht)];exact hB.rows.lst
   ·rw [Aa];exact j00 (by omega)
   ·exact j02 (sm.trans (j0e ht _)) hM
   ·have:=hB.add (p:=nmA n i) (l:=lb) (t:=t) (zs:=j6u (row n i) (row n r1) z) ebk nb0 (fun k=>by
     obtain⟨a',ha',e'⟩:=Ak.mp k;exact absurd (hlb a' ha' e') (By _)) nbM ht (j0n (s14.trans sm) ht)
    unfold shrR;rw [if_pos rfl];exact this
  ·rw [decide_eq_false (fun k:V.str (nmA n i)=V.str (nmA n r0)=>c0 (j3o hN hi tw.l0 (V.str.inj k)))];refine iteF (j34 j3e T.tlist PyProof.Rows.boot_list (j0a (ev_v 8 (j0c ⟨a.2,_,rfl,.inl (SqL.of el),fun l hl=>j0c ⟨(by show 2<=sizeLine;decide),fun t ht=>?_⟩⟩))));have s5:=j0e hl (Ls (row n i));have hB5:=hB.same s5;have hl0:=j0n (s14.trans sm) hl;refine⟨bs.map fun a=>V.ref a.1,?_,?_,⟨_,_,rfl⟩,?_,bs++[(t,l)],?_,fun a ha e=>?_⟩
   ·rw [j0d (fun e=>by rw [<- e,hB5.rows.lst] at ht;cases ht)];exact hB5.rows.lst
   ·rw [Aa];exact j00 (by omega)
   ·exact j02 (sm.trans (s5.trans (j0e ht _))) hM
   ·have:=hB5.add (p:=nmA n i) (l:=l) (t:=t) (zs:=row n i) j0b hl0 (fun k=>by
     obtain⟨a',ha',e'⟩:=Ak.mp k;have:=(hB.in_heap ha').2;rw [e',hl] at this;exact this rfl) (fun e=>by rw [e,hB.rows.lst] at hl;cases hl) ht (j0n (s14.trans (sm.trans s5)) ht)
    unfold shrR;rw [if_neg c0];exact this
   ·rcases At.mp ha with k | k
    ·exact Ca (hlb a k e)
    ·rw [Ag.mp k] at e;have e:l=lb:=e;rw [e,ebk] at hl;cases hl
 ·rintro σ' H' ⟨_,sm,bs,hB,_⟩;rw [Aa,hal] at hB;have:=j7o (n:=n) (z:=z) (r0:=r0) (r1:=r1) (k:=n.length);exact qQ _ (k6w h2) M bs H' (s14.trans sm) nM0 hB.new hB.rows (q5s tw hn ht)
end
end R4
namespace Nt
open PySem L2
open Classical
def okc(c:Nat):Bool:=decide (c∈lets.cps.toList)
def isNm(z:Str):Bool:=decide (1<=z.length/\z.length<=8) && z.cps.toList.all okc
def AtC(n:Net)(p:Str)(j:Int)(e:End):Prop:=j1t n e/\nmA n e.1=p/\(e.2:Int)=j
theorem AtC.one{n:Net}(hN:(n.map (·.1)).Nodup){p:Str}{j:Int}{e g:End}(h:AtC n p j e)(k:AtC n p j g):e=g:=by
 obtain⟨h1,h2,h3⟩:=h;obtain⟨k1,k2,k3⟩:=k;exact Prod.ext (j3o hN h1.1 k1.1 (h2.trans k2.symm)) (by omega)
def j5c(n:Net):Prop:=∃ ss:List Str,ss.Nodup/\(∀ z,z∈ss↔z∈ties n)/\40<=ss.length
theorem k41{n:Net}{ss:List Str}(h:ss.Nodup)(m:∀ z,z∈ss↔z∈ties n):j5c n↔40<=ss.length:=by
 refine⟨fun⟨ts,t1,t2,t3⟩=>?_,fun k=>⟨ss,h,m,k⟩⟩;have:=nodup_le t1 fun z hz=>(m z).mpr ((t2 z).mp hz);omega
theorem corner_bare{nm:Str}{e:End}:j1t [(nm,[])] e↔e=(0,0):=by
 refine⟨fun h=>?_,fun h=>?_⟩
 ·obtain⟨h1,h2⟩:=h;have e1:e.1=0:=by have:e.1 < 1:=h1;omega
  rw [e1] at h2;have:e.2 < 1:=h2;exact Prod.ext e1 (by show e.2=0;omega)
 ·rw [h];exact⟨Fw,Fw⟩
theorem j7h{n:Net}(F:Full n):(∃ nm,n=[(nm,[])])\/(∀ e,j1t n e↔e∈ends n)/\ends n≠[]:=by
 rcases F with ⟨nm,h⟩ | ⟨h0,h1⟩
 ·exact .inl ⟨nm,h⟩
 ·have hp:0 < n.length:=Co.mpr h0;have hr:=h1 0 hp;refine .inr ⟨fun e=>⟨fun h=>Full.corner (.inr ⟨h0,h1⟩) hr h,j4k⟩,fun k=>?_⟩;have:((0,0):End)∈ends n:=Full.corner (.inr ⟨h0,h1⟩) hr ⟨hp,by show 0 < max 1 _;omega⟩;rw [k] at this;cases this
noncomputable def outI(n:Net)(p:Str)(j:Int)(z q:Str):Out:=
 if h:∃ e,AtC n p j e then
  if z∈ties n\/isNm z=false then .inl "Taken" else if q∈n.map (·.1)\/isNm q=false then .inl "Taken" else if j5c n then .inl "TooMany" else .inr (ins n h.choose z++[(q,[z])])
 else .inl "NoCorner"
theorem q02{n:Net}{p:Str}{j:Int}{z q:Str}(h:¬ ∃ e,AtC n p j e):outI n p j z q = .inl "NoCorner":=by unfold outI;rw [dif_neg h]
theorem k9g{n:Net}{p:Str}{j:Int}{z q:Str}(h:∃ e,AtC n p j e)(k:z∈ties n\/isNm z=false):outI n p j z q = .inl "Taken":=by unfold outI;rw [dif_pos h,if_pos k]
theorem q2x{n:Net}{p:Str}{j:Int}{z q:Str}(h:∃ e,AtC n p j e)(k:¬(z∈ties n\/isNm z=false))(k2:q∈n.map (·.1)\/isNm q=false):outI n p j z q = .inl "Taken":=by unfold outI;rw [dif_pos h,if_neg k,if_pos k2]
theorem k67{n:Net}{p:Str}{j:Int}{z q:Str}(h:∃ e,AtC n p j e)(k:¬(z∈ties n\/isNm z=false))(k2:¬(q∈n.map (·.1)\/isNm q=false))(k3:j5c n):outI n p j z q = .inl "TooMany":=by unfold outI;rw [dif_pos h,if_neg k,if_neg k2,if_pos k3]
theorem j7q{n:Net}(hN:(n.map (·.1)).Nodup){p:Str}{j:Int}{z q:Str}{e:End}(h:AtC n p j e)(k:¬(z∈ties n\/isNm z=false))(k2:¬(q∈n.map (·.1)\/isNm q=false))(k3:¬ j5c n):outI n p j z q = .inr (ins n e z++[(q,[z])]):=by
 have h':∃ e,AtC n p j e:=⟨e,h⟩;unfold outI;rw [dif_pos h',if_neg k,if_neg k2,if_neg k3,AtC.one hN h'.choose_spec h]
def insL(n:Net)(e:End)(z:Str)(r:Nat):List Str:=if e.1=r then(row n r).take e.2++z :: (row n r).drop e.2 else row n r
theorem k83{n:Net}{e:End}{z:Str}{i:Nat}(h:i < n.length)(he:e.1 < n.length):(ins n e z).take (i+1)=(ins n e z).take i++[(nmA n i,insL n e z i)]:=by
 have hi:i < (ins n e z).length:=by rw [j1e];exact h
 have e1:(ins n e z)[i].2=insL n e z i:=by
  have:=j1x n e z i he;rw [j3f hi] at this;exact this
 have e2:(ins n e z)[i].1=nmA n i:=by
  have:=j2h n e z;have h1:((ins n e z).map (·.1))[i]?=(n.map (·.1))[i]?:=by rw [this]
  rw [Ad,Ad,Ab hi,Ab h] at h1;rw [j13 h];exact Option.some.inj h1
 rw [Bt,Ab hi];show _++[_]=_;rw [show(ins n e z)[i]=(nmA n i,insL n e z i) from Prod.ext e2 e1]
end Nt
namespace L2
open PySem PySem.Spec PyProof.Rows Sort2
section
variable{X:Cx}{a b e:Expr}{es:List Expr}{σ:St}{H:Hp}{Q:VK}{pos p kp cp:Pos}{j:Nat}
theorem q32(h:Ev X a σ H fun x H1=>∃ k,TruV X.K x H1 k/\if k=true then Q x H1 else Ev X (.BoolOp .Or (b :: es) pos) σ H1 Q):Ev X (.BoolOp .Or (a :: b :: es) pos) σ H Q:=by
 refine⟨fun pins s I=>?_⟩;refine BoolOp_or (thn (h.run pins s I) fun v s1 ⟨x,H1,I1,r1,k,tk,q1⟩=>?_);refine thn (q0t pins s1 σ H1 x v (fun c H2=>c=k/\H2=H1) I1 r1 ⟨k,tk,rfl,rfl⟩) fun c s2 ⟨H2,I2,ec,eH⟩=>?_;subst ec eH;cases c with
 | true=>exact⟨x,H2,I2,r1,q1⟩
 | false=>exact(show Ev X _ σ H2 Q from q1).run pins s2 I2
theorem j49:∀{ns:List Int} {us:List Value},Vals (ns.map V.int) us->IntsAre us ns
 | [],[],.nil=> .nil
 | n :: ns,u :: us,.cons r t=>by
  obtain⟨tk,rfl⟩:=(show ∃ t,u=Value.int n t from r);exact .cons _ _ (j49 t)
theorem j43:∀{ns:List Int} {us:List Value},IntsAre us ns->Vals (ns.map V.int) us
 | [],[],.nil=> .nil
 | n :: ns,_ :: us,.cons _ _ t=> .cons ⟨_,rfl⟩ (j43 t)
theorem k2x(hm:X.mg "sorted" = none) (h:Ev X e σ H fun v H1=>∃ l ns,v = .ref l/\SqL X.K H1 l (ns.map V.int)/\ns.length < 64 /\
   ∀ r ns',H1 r=none->List.Perm ns' ns->ns'.Pairwise (·>=·)->Q (.ref r) (upd H1 r (.lst (ns'.map V.int)))) (hg:Gl X "sorted":=by rfl)
  (he:backTo pos (starEach [e] X.env)=(false,eval e X.env) :: backTo pos (starEach [] X.env):=by rfl) (hplain:(backTo pos (starEach [e] X.env)).any (·.1)=false:=by rfl) (hst:isStar e=false:=by rfl) :
  Ev X (.Call (.Name "sorted" p) [e] [⟨some "reverse",.Constant (.bool true) j cp,kp⟩] pos) σ H Q:=by
 refine⟨fun pins s I=>?_⟩;refine wpAny_Call_Name_kw (j44 I hg hm PyProof.Rows.boot_sorted ?_);have hE:Ea X [e] σ H fun vs H1=>∃ l ns,vs=[.ref l]/\SqL X.K H1 l (ns.map V.int)/\ns.length < 64 /\
   ∀ r ns',H1 r=none->List.Perm ns' ns->ns'.Pairwise (·>=·)->Q (.ref r) (upd H1 r (.lst (ns'.map V.int))):=
  j0a (h.mono fun v H1 ⟨l,ns,e1,r1⟩=>j0c ⟨l,ns,by rw [e1],r1⟩) hst
 refine callWith_kw (thn (hE.run pos pins s I) fun us s1 ⟨vs,H1,I1,r1,l,ns,ev,hl,h64,q⟩=>?_) he hplain;subst ev;obtain⟨u,rfl,ru⟩:=vals1 r1;cases (show u=Value.ref l from ru);refine kws_cons (wpAny_pure (kws_nil ?_));obtain⟨its,r2,pl,_⟩:=I1.list hl;have e1:=r2.length;rw [Aa] at e1;refine sorted_ints_rev pl.isList (j49 r2) (by omega) fun out ns' hO hpm hso=>?_;obtain⟨e,he⟩:=sortedAll_at s1.heap its out;have hlen:ns'.length<=sizeLine:=by rw [hpm.length_eq];rw [sizeLine_eq];omega
 exact⟨.ref _,_,I1.laid' (s':={s1 with heap:=sortedAll s1.heap its out}) (fun b u hb=>sortedAll_old hb) rfl rfl (Dv _) (show ObjOk X.prog X.w _ _ _ (.lst (ns'.map V.int)) from⟨by rw [Aa];exact hlen,out.toList,e,j43 hO,he⟩),rfl,q _ ns' (I1.hok.fresh (Dv _)) hpm hso⟩
end
end L2
namespace PySem
section
variable{prog:Program}{w:World}{K:Type} [DecidableEq K] {knd:HeapKind prog w K} {A:Around} {E:Value->Shared->Prop} {s:Shared}
end
end PySem
namespace L2
open PySem PySem.Spec PyProof.Rows
end L2
namespace L2
open PySem PySem.Spec PyProof.Rows
section
variable{X:Cx}{σ:St}{H:Hp}{Q:VK}{o e:Expr}{pos:Pos}
def eqR(c:Addr->Bool)(u:Value):Bool:=match u with
 | .ref a=>c a
 | _=>false
theorem k04{c:Addr->Bool}:∀{as:List Addr} {us:List Value},Vals (as.map V.ref) us->us.any (eqR c)=as.any c
 | [],[],.nil=>rfl
 | a :: as,u :: us,.cons r t=>by
  cases (show u=Value.ref a from r);rw [Ds,Ds,k04 t];rfl
theorem j98{k:Nat}{x:V}{c:Addr->Bool}{pins:List (Addr×Obj)}{s:Shared}{A:Around}{v:Value}(I:Inv X pins σ H s)(hA:A.units+k < cLine)(rx:RelV x v) :
  ∀{as:List Addr} {us:List Value},Vals (as.map V.ref) us->(∀ a∈as,EqD X H k (.ref a) x (c a))->∀ u∈us,SeqAt.EqAt A s u v (eqR c u)
 | [],[],.nil,_=>fun u hu=>by cases hu
 | a :: as,u :: us,.cons r t,h=>fun u' hu=>by
  rcases Ap.mp hu with rfl | hu
  ·cases (show u'=Value.ref a from r);exact h a (Au ..) pins σ s A _ _ I hA r rx
  ·exact j98 I hA rx t (fun b hb=>h b (Ao _ hb)) u' hu
theorem q0v(hu:X.A.units+100 < cLine):OpR X (compareOp .In) (fun x y H Q=>∃(p:Addr) (as:List Addr) (k:Nat) (c:Addr->Bool),y = .ref p/\SqL X.K H p (as.map V.ref)/\k < 99/\(∀ a∈as,EqD X H k (.ref a) x (c a))/\Q (.bl (as.any c)) H):=by
 intro pins s σ H x y v u Q I rx ry h;obtain⟨p,as,k,c,rfl,hq,hk,he,q⟩:=h;cases ry;obtain⟨its,r,pl,hz⟩:=I.list hq;refine SeqAt.in_listAt (eqR c) pl.isList (fun w hw=>j98 I (by show X.A.units+1+k < cLine;omega) rx r he w (by simpa using hw)) ⟨.bl _,H,I,rfl,?_⟩;rw [show its.toArray.any (eqR c)=its.any (eqR c) by simp,k04 r];exact q
theorem k5r(hu:X.A.units+100 < cLine):OpR X (compareOp .NotIn) (fun x y H Q=>∃(p:Addr) (as:List Addr) (k:Nat) (c:Addr->Bool),y = .ref p/\SqL X.K H p (as.map V.ref)/\k < 99/\(∀ a∈as,EqD X H k (.ref a) x (c a))/\Q (.bl (!(as.any c))) H):=by
 intro pins s σ H x y v u Q I rx ry h;obtain⟨p,as,k,c,rfl,hq,hk,he,q⟩:=h;cases ry;obtain⟨its,r,pl,hz⟩:=I.list hq;refine SeqAt.notIn_listAt (eqR c) pl.isList (fun w hw=>j98 I (by show X.A.units+1+k < cLine;omega) rx r he w (by simpa using hw)) ⟨.bl _,H,I,rfl,?_⟩;rw [show its.toArray.any (eqR c)=its.any (eqR c) by simp,k04 r];exact q
end
end L2
namespace R4
open PySem L2 Nt Sort2 SetT
open PyProof.Rows (sortedS)
open Classical
def spIs(K:PySem.W.Frag):Sp:=fun vs H Q _=>∃ v,vs=[v] /\
 ((∃ z,v = .str z/\z.length<=100000/\∀ H',Same H H'->Q (.bl (isNm z)) H')\/∃ t,TyOf K H v t/\PySem.W.kitOne K t (.type "str")=some false/\Q (.bl false) H)
theorem q1x(K:PySem.W.Frag):PySem.W.kitOne K (.type "str") (.type "str")=some true:=by rfl
def q1i:Sp:=fun vs H Q _=>∃(R:Addr) (as:List (Addr×Addr)) (n:Net),vs=[.ref R]/\RowsAt H R as n/\n.length<=1000/\∀(L:Addr) (H':Hp),Same H H'->H L=none->H' L=some (Ls (n.map (·.1)))->Q (.ref L) H'
def spNC(c:Str->Addr):Sp:=fun vs H Q E=>∃(R t:Addr) (as:List (Addr×Addr)) (n:Net) (p:Str) (j:Int),vs=[.ref R,.ref t]/\RowsAt H R as n/\Full n/\n.length<=60/\(ties n).length<=100/\H t=some (Tn p j) /\
 ((¬ ∃ e,AtC n p j e)->∀ H',Same H H'->E (.ref (c "NoCorner")) none H')/\((∃ e,AtC n p j e)->∀ H',Same H H'->Q .non H')
def spNF(c:Str->Addr):Sp:=fun vs H Q E=>∃(L:Addr) (ss:List Str) (z:Str),vs=[.ref L,.str z]/\H L=some (Ls ss)/\ss.length<=1000/\z.length<=1000 /\
 ((z∈ss\/isNm z=false)->∀ H',Same H H'->E (.ref (c "Taken")) none H')/\(¬(z∈ss\/isNm z=false)->∀ H',Same H H'->Q .non H')
def spNR(c:Str->Addr):Sp:=fun vs H Q E=>∃(R:Addr) (as:List (Addr×Addr)) (n:Net),vs=[.ref R]/\RowsAt H R as n/\n.length<=60/\(ties n).length<=100/\Few n /\
 (j5c n->∀ H',Same H H'->E (.ref (c "TooMany")) none H')/\(¬ j5c n->∀ H',Same H H'->Q .non H')
def insA(z:Str)(l:List Str)(i:Int):List Str:=l.take i.toNat++z :: l.drop i.toNat
def dsc:List Int->List Int
 | [a,b]=>if b<=a then [a,b] else [b,a]
 | l=>l
theorem q6k{ns ms:List Int}(h2:ns.length<=2)(p:ms.Perm ns)(s:ms.Pairwise (·>=·)):ms=dsc ns:=by
 match ns,h2 with
 | [],_=>exact List.perm_nil.mp p
 | [a],_=>exact List.perm_singleton.mp p
 | [a,b],_=>
  have l:=p.length_eq
  match ms,l with
  | [c,d],_=>
   have h1:c>=d:=by
    have:=List.pairwise_cons.mp s;exact this.1 d (by simp)
   have m1:=p.mem_iff (a:=a);have m2:=p.mem_iff (a:=b);have m3:=p.mem_iff (a:=c);have m4:=p.mem_iff (a:=d);simp at m1 m2 m3 m4;show _=if b<=a then [a,b] else [b,a]
   split
   ·have:c=a/\d=b:=by omega
    rw [this.1,this.2]
   ·have:c=b/\d=a:=by omega
    rw [this.1,this.2]
def spPI:Sp:=fun vs H Q _=>∃(a b:Addr) (xs:List Str) (ns:List Int) (z:Str),vs=[.ref a,.ref b,.str z]/\H a=some (Ls xs)/\H b=some (.lst (ns.map V.int))/\ns.length<=2/\xs.length<=1000/\(∀ i∈ns,0<=i/\i<=xs.length) /\
 ∀ L H',Same H H'->H L=none->H' L=some (Ls ((dsc ns).foldl (insA z) xs))->Q (.ref L) H'
theorem k7m(z:Str)(l:List Str)(i:Int):(insA z l i).length=l.length+1:=by
 unfold insA;rw [Af,An,Bh,Dc];omega
theorem k19(z:Str):∀(ns:List Int) (l:List Str),(ns.foldl (insA z) l).length=l.length+ns.length
 | [],l=>rfl
 | i :: ns,l=>by
  rw [Dh,k19 z ns,k7m,An];omega
def plC(cs:List (Str×Int))(x:Str):List Int:=(cs.filter fun c=>decide (c.1=x)).map (·.2)
def weR(n:Net)(cs:List (Str×Int))(z:Str)(i:Nat):Str×List Str:=(nmA n i,(dsc (plC cs (nmA n i))).foldl (insA z) (row n i))
def weK(n:Net)(cs:List (Str×Int))(z:Str)(k:Nat):Net:=(List.range k).map (weR n cs z)
theorem k17{n:Net}{cs:List (Str×Int)}{z:Str}{k:Nat}:weK n cs z (k+1)=weK n cs z k++[weR n cs z k]:=by
 unfold weK;rw [Db,Ai];rfl
theorem k54{n:Net}{cs:List (Str×Int)}{z:Str}{k:Nat}:(weK n cs z k).length=k:=by unfold weK;rw [Aa,Cw]
def CsAt(H:Hp)(C:Addr)(ts:List Addr)(cs:List (Str×Int)):Prop:=H C=some (.lst (ts.map V.ref))/\ts.length=cs.length/\∀(i:Nat) t c,ts[i]?=some t->cs[i]?=some c->H t=some (Tn c.1 c.2)
theorem CsAt.same{H H':Hp}{C:Addr}{ts:List Addr}{cs:List (Str×Int)}(h:CsAt H C ts cs)(s:Same H H'):CsAt H' C ts cs:=⟨s _ _ h.1,h.2.1,fun i t c a b=>s _ _ (h.2.2 i t c a b)⟩
def spWE:Sp:=fun vs H Q _=>∃(R C:Addr) (as:List (Addr×Addr)) (n:Net) (ts:List Addr) (cs:List (Str×Int)) (z:Str),vs=[.ref R,.ref C,.str z]/\RowsAt H R as n/\CsAt H C ts cs/\cs.length<=2/\n.length<=60/\(ties n).length<=100 /\
 (∀ c∈cs,∀ r,r < n.length->nmA n r=c.1->0<=c.2/\c.2<=((row n r).length:Int)) /\
 ∀ L bs H',Same H H'->H L=none->(∀ a∈bs,H a.1=none/\H a.2=none)->RowsAt H' L bs (weK n cs z n.length)->Q (.ref L) H'
theorem k6r{X:Cx}{H:Hp}{a t:Addr}{p p':Str}{j j':Int}(ha:H a=some (Tn p' j'))(ht:H t=some (Tn p j)):EqD X H 1 (.ref a) (.ref t) (decide (H a=some (Tn p j))):=by
 by_cases e:a=t
 ·subst e;rw [decide_eq_true ht];exact k8g
 ·have q:=q6n e (q38 (X:=X) ha ht);have e2:decide (p'=p/\j'=j)=decide (H a=some (Tn p j)):=by
   refine decide_eq_decide.mpr ⟨fun k=>by rw [ha,k.1,k.2],fun k=>?_⟩;rw [ha] at k;cases k;exact⟨rfl,rfl⟩
  rw [e2] at q;exact q
section
variable{P:Program}{w:World}{K:PySem.W.Frag}{mg:Str->Option Value}{base:Heap}
theorem scIs:FnScope ["thing"] ["thing"] (j0g j3u):=⟨rfl,rfl,rfl,by decide +kernel,rfl,by decide +kernel,by decide +kernel⟩
theorem q71{f:Addr}{fd:FuncData}(F:Fun K "is_name" "is_name" j3u f fd)(T:Txt mg):FnOk P w K mg base CX0 1 f fd ["thing"] (spIs K):=by
 refine F.gb scIs (fun vs H Q E h=>?_) (fun b0 H vs Q E hr h=>?_)
 ·obtain⟨v,rfl,_⟩:=h;rfl
 obtain⟨us,hs,rs⟩:=T.signs;obtain⟨um,hm,rm⟩:=T.most;obtain⟨v,rfl,h⟩:=h
 let X:Cx:=cxB ["thing"] "is_name" (j0g j3u) P w K mg base b0
 show Run X _ _ [some v] H;refine j11 (j3l (j32 (j0y j4f T.isi PyProof.Rows.boot_isinstance (j0a (ev_v 0 (j0a (j6c (.ty "str") T.tstr PyProof.Rows.boot_str rfl (j0c ?_))))))))
 rcases h with ⟨z,rfl,hz,q⟩ | ⟨t,ty,e,q⟩
 ·refine⟨_,_,_,true,rfl,.str z,q1x K,true,rfl,iteF (j0i ?_)⟩;refine j11 (j3q (k0y (j09 q42 (j0y j5a T.len boot_len (j0a (ev_v 0 (j0c ⟨z,rfl,small hz,j0h ⟨_,_,rfl,rfl,_,rfl,?_⟩⟩)))))));refine ite2 (fun c=>?_) (fun c=>?_)
  ·have c':=of_decide_eq_true c;have e:isNm z=false:=by
    unfold isNm;rw [decide_eq_false (by omega)];rfl
   refine iteT (j0r (k0q ?_));have:=q H (Same.refl H);rw [e] at this;exact this
  ·have c':¬((z.length:Int) < 1):=fun h=>c (decide_eq_true h);refine j9j (j09 q47 (j0y j5a T.len boot_len (j0a (ev_v 0 (j0c ⟨z,rfl,small hz,k0p hm rm ⟨_,_,rfl,rfl,_,rfl,?_⟩⟩)))));refine ite2 (fun d=>?_) (fun d=>?_)
   ·have d':=of_decide_eq_true d;have e:isNm z=false:=by
     unfold isNm;rw [decide_eq_false (by omega)];rfl
    refine j0r (k0q ?_);have:=q H (Same.refl H);rw [e] at this;exact this
   ·have d':¬((8:Int) < (z.length:Int)):=fun h=>d (decide_eq_true h);refine j0i (j0r (j0y (k58 rfl) T.all PyProof.Rows.boot_all (j0a (j3a (j0g j3u) ["thing"] ["thing","sign"] 1 (q6j j05) ?_))));refine ev_v 0 ⟨z,rfl,fun D hD=>?_⟩;refine k4y (x:= "sign") (σ:=[some (.str z)]) (fun c=> .bl (okc c)) (j00 (n:=z.cps.size) (by have:z.cps.size=z.length:=rfl;omega)) (fun _ _ _ _ _ v v0 H' R hR=>j0k 1 (show(["thing","sign"]:List Str).Nodup by decide +kernel) hR) (fun _ _ _ _ _ c H' R _ hR=>?_) ?_
    ·refine j59 k66 (ev_v 1 (k0p hs rs ⟨_,_,rfl,rfl,?_⟩));rw [StrLaws.found_one];exact hR
    ·refine j0c ⟨D,z.cps.toList.map okc,rfl,SqL.of (by rw [j0b,Cb];rfl),?_⟩;have e:isNm z=(z.cps.toList.map okc).all id:=by
      unfold isNm;rw [decide_eq_true (by omega),Bool.true_and,List.all_map];rfl
     have:=q _ (j0e hD (.lst (z.cps.toList.map fun c=>V.bl (okc c))));rw [e] at this;exact this
 ·exact⟨_,t,_,false,rfl,ty,e,false,rfl,iteT (j0r (k0q q))⟩
abbrev NPt1:List Str:=["rows"]
abbrev NPt2:List Str:=["rows","point","ties"]
theorem q7n:FnScope NPt1 ["rows"] (j0g j2r):=⟨rfl,rfl,rfl,by decide +kernel,rfl,by decide +kernel,by decide +kernel⟩
theorem q0k:NPt2.Nodup:=by decide +kernel
theorem k6t{f:Addr}{fd:FuncData}(F:Fun K "points_of" "points_of" j2r f fd)(T:Txt mg):FnOk P w K mg base CX0 1 f fd ["rows"] q1i:=by
 refine F.gb q7n (fun vs H Q E h=>?_) (fun b0 H vs Q E hr h=>?_)
 ·obtain⟨R,as,n,rfl,_⟩:=h;rfl
 obtain⟨R,as,n,rfl,hR,hn,q⟩:=h;have hal:=hR.len
 let X:Cx:=cxB NPt1 "points_of" (j0g j2r) P w K mg base b0
 show Run X _ _ [some (.ref R)] H;refine j0r (j3a (j0g j2r) NPt1 NPt2 2 (j1u j05) (ev_v 0 ⟨R,rfl,⟨_,SqL.of hR.lst⟩,fun D hD=>?_⟩));refine j1o (xs:=as.map fun a=>V.ref a.1) (fun i σ' H'=>(∃ v1 v2,σ'=[some (.ref R)]++[v1,v2])/\H'=upd H D (Ls ((n.take i).map (·.1)))) ⟨⟨none,none,rfl⟩,rfl⟩ ?_ ?_ ?_
 ·rintro i σ' H' _ ⟨_,rfl⟩;exact SqL.of (j0e hD _ _ _ hR.lst)
 ·rintro i x σ' H' hx ⟨⟨v1,v2,rfl⟩,rfl⟩;have hi:i < n.length:=by
   have:=(Ac.mp hx).1;rw [Aa] at this;omega
  obtain⟨a,ea,eat,et,el,er⟩:=(hR.same (j0e hD (Ls ((n.take i).map (·.1))))).at hi;rw [Ad,ea] at hx;cases hx;intro cl C' s₀ H₀ ex;refine j15 rfl (SqT.of et) (j0k 1 q0k (j0k 2 q0k ?_));intro cl C' s₀ H₀ ex;refine j2v ?_;rw [if_pos rfl];intro cl C' s₀ H₀ ex;refine ev_v 1 ⟨_,j0b,?_,⟨_,_,rfl⟩,?_⟩
  ·rw [Aa,Aa,Bh];exact j00 (by omega)
  ·rw [j5t,Bt,Ab hi,Ai];exact q0a
 ·rintro σ' H' ⟨_,rfl⟩;rw [Aa,hal,Bp];exact q D _ (j0e hD _) hD j0b
theorem q62:FnScope ["rows"] ["rows"] (j0g j53):=⟨rfl,rfl,rfl,by decide +kernel,rfl,by decide +kernel,by decide +kernel⟩
theorem q4f{f:Addr}{fd:FuncData}(F:Fun K "ends_of" "ends_of" j53 f fd)(T:Txt mg)(GO:Has P w K mg base 2 "ends_in_order" ["rows"] k0b):FnOk P w K mg base CX0 3 f fd ["rows"] k0b:=by
 refine F.gb q62 (fun vs H Q E h=>?_) (fun b0 H vs Q E hr h=>?_)
 ·obtain⟨R,as,n,rfl,_⟩:=h;rfl
 obtain⟨R,as,n,rfl,h⟩:=h;show Run _ _ _ [some (.ref R)] H;exact j0r (j0u GO hr (j0a (ev_v 0 (j0c ⟨R,as,n,rfl,h⟩))))
abbrev NNC:List Str:=["rows","corner"]
theorem scNC:FnScope NNC ["rows","corner"] (j0g j3b):=⟨rfl,rfl,rfl,by decide +kernel,rfl,by decide +kernel,by decide +kernel⟩
theorem q7v{f:Addr}{fd:FuncData}{c:Str->Addr}(F:Fun K "need_corner" "need_corner" j3b f fd)(T:Txt mg)(cl:Cl K mg c)(GE:Has P w K mg base 3 "ends_of" ["rows"] k0b):FnOk P w K mg base (XF P w) 4 f fd ["rows","corner"] (spNC c):=by
 refine F.gx scNC (fun vs H Q E h=>?_) (fun b0 H vs Q hr h=>?_)
 ·obtain⟨R,t,as,n,p,j,rfl,_⟩:=h;rfl
 obtain⟨R,t,as,n,p,j,rfl,hR,hF,hn,hti,ht,qE,qQ⟩:=h;have un:=hr.u100;have mN:("NoCorner" : Str)∈xNames:=by decide
 show Run _ _ _ [some (.ref R),some (.ref t)] H;refine j11 (j09 (k5r un) (ev_v 1 (q32 (j0u GE hr (j0a (ev_v 0 (j0c ⟨R,as,n,rfl,hR,by omega,by omega,fun L ts H1 s1 n1 e1 at1=>⟨_,.inl ⟨_,SqL.of e1,rfl⟩,?_⟩⟩)))))));have lt1:=at1.1
 rcases j7h hF with ⟨nm,rfl⟩ | ⟨hC,hne⟩
 ·have e0:ts=[]:=Be.mp lt1;subst e0;have hR1:=hR.same s1;obtain⟨a,ea,eat,et,el,er⟩:=hR1.at (i:=0) Fw;refine iteF (k42 (j1h (j0a (j1n (j0a (j0q j0x (j0q j0s (ev_v 0 (j0h ⟨R,_,_,.ref a.1,rfl,rfl,SqL.of hR1.lst,eat,j0h ⟨a.1,_,_,.str nm,rfl,rfl,SqT.of et,rfl,?_⟩⟩)))))))));refine j0a (j0h (j0c ⟨(by show 2<=sizeLine;decide),fun u hu=>j0c ⟨(by show 1<=sizeLine;decide),fun D hD=>?_⟩⟩));have s2:=j0e hu (Tn nm 0);have s3:=j0e hD (.lst [.ref u]);have eu:=s3 _ _ (show(upd H1 u (Tn nm 0)) u=some (Tn nm 0) from j0b);have s13:=s1.trans (s2.trans s3);refine⟨D,[u],1,fun b=>decide ((upd (upd H1 u (Tn nm 0)) D (.lst [.ref u])) b=some (Tn p j)),rfl,SqL.of j0b,by decide,fun b hb=>?_,_,rfl,?_⟩
  ·rw [Ag.mp hb];exact k6r eu (s13 _ _ ht)
  ·have key:([u].any fun b=>decide ((upd (upd H1 u (Tn nm 0)) D (.lst [.ref u])) b=some (Tn p j)))=decide (∃ e,AtC [(nm,[])] p j e):=by
    rw [Ds,List.any_nil,Bool.or_false,eu];refine decide_eq_decide.mpr ⟨fun k=>?_,fun⟨e,k1,k2,k3⟩=>?_⟩
    ·cases k;exact⟨(0,0),corner_bare.mpr rfl,rfl,rfl⟩
    ·rw [corner_bare.mp k1] at k2 k3;rw [<- k2,<- k3];rfl
   rw [key]
   by_cases ex:∃ e,AtC [(nm,[])] p j e
   ·rw [decide_eq_true ex];exact iteF (j0i (j0i (qQ ex _ s13)))
   ·rw [decide_eq_false ex];exact iteT (j16 rzX (cl.at' _ mN).1 (cl.at' _ mN).2.1 rfl (j0a (j25 (j0c ⟨(by show 1<=sizeLine;decide),qE ex _ s13⟩))))
 ·have sl:(j01 n).length=(ends n).length:=by unfold ends;rw [Aa]
  have hl0:0 < ts.length:=by
   have:=Co.mpr hne;omega
  have e0:(!(ts.map V.ref).isEmpty)=true:=by
   cases ts with
   | nil=>cases hl0
   | cons x r=>rfl
  rw [e0];have sat:∀ u∈ts,∃ e,e∈ends n/\H1 u=some (TN n e):=fun u hu=>by
   obtain⟨i,hi⟩:=Az hu;have hil:i < (j01 n).length:=by have:=(Ac.mp hi).1;omega
   exact⟨_,Av (by unfold ends;rw [Ad,Ab hil];rfl),at1.2 i u _ hi (Ab hil)⟩
  refine iteT ⟨L,ts,1,fun b=>decide (H1 b=some (Tn p j)),rfl,SqL.of e1,by decide,fun b hb=>?_,_,rfl,?_⟩
  ·obtain⟨e,_,he⟩:=sat b hb;exact k6r he (s1 _ _ ht)
  ·have nmEq:∀ e:Nt.End,nameAt n e.1=nmA n e.1:=fun e=>rfl;have key:(ts.any fun b=>decide (H1 b=some (Tn p j)))=decide (∃ e,AtC n p j e):=by
    rw [Cr,Di,decide_eq_true_iff];refine⟨fun⟨b,hb,k⟩=>?_,fun⟨e,k1,k2,k3⟩=>?_⟩
    ·have k:=of_decide_eq_true k;obtain⟨e,he,q⟩:=sat b hb;rw [q] at k;have k2:=List.cons.inj (HO.tup.inj (Option.some.inj k));exact⟨e,(hC e).mpr he,V.str.inj k2.1,V.int.inj (List.cons.inj k2.2).1⟩
    ·have he:=(hC e).mp k1;obtain⟨i,hi⟩:=Az he;have hil:i < ts.length:=by have:=(Ac.mp hi).1;omega
     have hi2:(j01 n)[i]?=some (j01 n)[i]:=Ab (by omega);have q:=at1.2 i ts[i] _ (Ab hil) hi2;unfold ends at hi;rw [Ad,hi2] at hi;have hi:(j01 n)[i].2=e:=Option.some.inj hi;rw [hi] at q;refine⟨ts[i],Cc hil,decide_eq_true ?_⟩;rw [q];show some (Tn (nmA n e.1) (e.2:Int))=_;rw [k2,k3]
   rw [key]
   by_cases ex:∃ e,AtC n p j e
   ·rw [decide_eq_true ex];exact iteF (j0i (j0i (qQ ex _ s1)))
   ·rw [decide_eq_false ex];exact iteT (j16 rzX (cl.at' _ mN).1 (cl.at' _ mN).2.1 rfl (j0a (j25 (j0c ⟨(by show 1<=sizeLine;decide),qE ex _ s1⟩))))
theorem scNF:FnScope ["names","new"] ["names","new"] (j0g j2k):=⟨rfl,rfl,rfl,by decide +kernel,rfl,by decide +kernel,by decide +kernel⟩
theorem q76{f:Addr}{fd:FuncData}{c:Str->Addr}(F:Fun K "need_free_name" "need_free_name" j2k f fd)(T:Txt mg)(cl:Cl K mg c)(GI:Has P w K mg base 1 "is_name" ["thing"] (spIs K)):FnOk P w K mg base (XF P w) 2 f fd ["names","new"] (spNF c):=by
 refine F.gx scNF (fun vs H Q E h=>?_) (fun b0 H vs Q hr h=>?_)
 ·obtain⟨L,ss,z,rfl,_⟩:=h;rfl
 obtain⟨L,ss,z,rfl,hL,hs,hz,qE,qQ⟩:=h;have mN:("Taken" : Str)∈xNames:=by decide
 show Run _ _ _ [some (.ref L),some (.str z)] H;refine j11 (j3q (k0y (j09 j9o (ev_v 1 (ev_v 0 ⟨L,_,rfl,.inl (SqL.of hL),rfl,j3n _,_,rfl,?_⟩)))));rw [if_neg Al,j5m,j2u];refine ite2 (fun k=>?_) (fun k=>?_)
 ·exact iteT (j16 rzX (cl.at' _ mN).1 (cl.at' _ mN).2.1 rfl (j0a (j25 (j0c ⟨(by show 1<=sizeLine;decide),qE (.inl (of_decide_eq_true k)) _ (Same.refl H)⟩))))
 ·have k:z∉ss:=fun y=>k (decide_eq_true y);refine j9j (j3l (j32 (j0u GI hr (j0a (ev_v 1 (j0c ⟨_,rfl,.inl ⟨z,rfl,by omega,fun H' s=>⟨_,rfl,?_⟩⟩⟩))))));cases hg:isNm z with
  | true=>exact iteF (j0i (j0i (qQ (fun y=>y.elim k fun q=>by rw [hg] at q;cases q) _ s)))
  | false=>exact iteT (j16 rzX (cl.at' _ mN).1 (cl.at' _ mN).2.1 rfl (j0a (j25 (j0c ⟨(by show 1<=sizeLine;decide),qE (.inr hg) _ s⟩))))
theorem scNR:FnScope ["rows"] ["rows"] (j0g j36):=⟨rfl,rfl,rfl,by decide +kernel,rfl,by decide +kernel,by decide +kernel⟩
theorem q7k{f:Addr}{fd:FuncData}{c:Str->Addr}(F:Fun K "need_room" "need_room" j36 f fd)(T:Txt mg)(cl:Cl K mg c)(GT:Has P w K mg base 1 "ties_of" ["rows"] spTs):FnOk P w K mg base (XF P w) 2 f fd ["rows"] (spNR c):=by
 refine F.gx scNR (fun vs H Q E h=>?_) (fun b0 H vs Q hr h=>?_)
 ·obtain⟨R,as,n,rfl,_⟩:=h;rfl
 obtain⟨R,as,n,rfl,hR,hn,ht,hfew,qE,qQ⟩:=h;obtain⟨um,hm,rm⟩:=T.forty;have mN:("TooMany" : Str)∈xNames:=by decide
 show Run _ _ _ [some (.ref R)] H;refine j11 (j09 q73 (j0y j0l T.len boot_len (j0a (j0u GT hr (j0a (ev_v 0 (j0c ⟨R,as,n,rfl,hR,by omega,by omega,hfew,fun L ss H1 s1 n1 e1 snd so mem=>j0c ⟨L,_,rfl,.inl (SqL.of e1),k0p hm rm ⟨_,_,rfl,rfl,_,rfl,?_⟩⟩⟩)))))));rw [Aa];have fi:=k41 snd mem
 by_cases k:j5c n
 ·have k2:(40:Int)<=(ss.length:Int):=by have:=fi.mp k;omega
  rw [decide_eq_true k2];exact iteT (j16 rzX (cl.at' _ mN).1 (cl.at' _ mN).2.1 rfl (j0a (j25 (j0c ⟨(by show 1<=sizeLine;decide),qE k _ s1⟩))))
 ·have k2:¬(40:Int)<=(ss.length:Int):=fun q=>k (fi.mpr (by omega));rw [decide_eq_false k2];exact iteF (j0i (j0i (qQ k _ s1)))
abbrev NPI:List Str:=["ties","places","tie","longer","place"]
theorem scPI:FnScope NPI ["ties","places","tie"] (j0g j79):=⟨rfl,rfl,rfl,by decide +kernel,rfl,by decide +kernel,by decide +kernel⟩
theorem q6z{f:Addr}{fd:FuncData}(F:Fun K "put_in" "put_in" j79 f fd)(T:Txt mg):FnOk P w K mg base CX0 1 f fd ["ties","places","tie"] spPI:=by
 refine F.gb scPI (fun vs H Q E h=>?_) (fun b0 H vs Q E hr h=>?_)
 ·obtain⟨a,b,xs,ns,z,rfl,_⟩:=h;rfl
 obtain⟨a,b,xs,ns,z,rfl,ha,hb,h2,hx,hin,q⟩:=h;have nd:=scPI.nd;show Run _ _ _ [some (.ref a),some (.ref b),some (.str z),none,none] H;refine j0j 3 nd (j34 j3e T.tlist PyProof.Rows.boot_list (j0a (ev_v 0 (j0c ⟨a,_,rfl,.inl (SqL.of ha),fun l hl=>?_⟩))));have s1:=j0e hl (Ls xs);have e1:(upd H l (Ls xs)) l=some (Ls xs):=j0b;show Run _ _ _ [some (.ref a),some (.ref b),some (.str z),some (.ref l),none] (upd H l (Ls xs));generalize upd H l (Ls xs)=H1 at s1 e1;refine j2f (k2x T.sorted (ev_v 1 ⟨b,ns,rfl,SqL.of (s1 _ _ hb),by omega,fun r ms hr2 pm pw=>⟨r,rfl,⟨_,SqL.of j0b⟩,?_⟩⟩));have s2:=j0e hr2 (.lst (ms.map V.int));have em:=q6k h2 pm pw;have lm:ms.length<=2:=by rw [pm.length_eq];exact h2
 have nrl:l≠r:=j0f e1 hr2;have er:(upd H1 r (.lst (ms.map V.int))) r=some (.lst (ms.map V.int)):=j0b;have el2:=s2 _ _ e1;generalize upd H1 r (.lst (ms.map V.int))=H2 at s2 er el2;refine j1v (xs:=ms.map V.int) (fun i σ H'=>(∃ u,σ=[some (.ref a),some (.ref b),some (.str z),some (.ref l),u])/\(∀ b o,b≠l->H2 b=some o->H' b=some o)/\H' l=some (Ls ((ms.take i).foldl (insA z) xs))) ⟨⟨_,rfl⟩,fun _ _ _ h=>h,el2⟩ ?_ ?_ ?_
 ·rintro i σ H' _ ⟨_,kb,_⟩;exact SqL.of (kb _ _ (Ne.symm nrl) er)
 ·rintro i x σ H' hx2 ⟨⟨u,rfl⟩,kb,el⟩;rw [Ad,Aw] at hx2;obtain⟨k,hk,rfl⟩:=hx2;have hil:i < ms.length:=(Ac.mp hk).1;obtain⟨k0,k1⟩:=hin k (pm.mem_iff.mp (Av hk));have fl:=k19 z (ms.take i) xs;have lt:=Bh (i:=i) (l:=ms);refine j0k 4 nd ?_;refine j0v (k79 PySem.F.plainAttrs_list PySem.F.slot_list_insert PySem.F.type_list_insert j6h (ev_v 3 (v:= .ref l) ⟨Or.inl ⟨rfl,_,SqL.of el⟩,ev_v 4 (ev_v 2 ⟨l,_,k,.str z,rfl,rfl,el,k0,?_,?_,j0i ⟨⟨_,rfl⟩,fun b o hb h=>by rw [j0d hb];exact kb b o hb h,?_⟩⟩)⟩))
  ·rw [Aa,fl];omega
  ·rw [Aa,fl];exact j00 (by omega)
  ·rw [j0b,k4e,Bt,hk,List.foldl_append];rfl
 ·rintro σ H' ⟨⟨u,rfl⟩,kb,el⟩;rw [Aa,Bp,em] at el;exact j0r (ev_v 3 (q l H' (fun b o h=>kb b o (j0f h hl) (s2 _ _ (s1 _ _ h))) hl el))
abbrev NWE:List Str:=["rows","corners","tie"]
abbrev NWE1:List Str:=["rows","corners","tie","point","ties"]
abbrev NWE2:List Str:=["rows","corners","tie","point","ties","at","place"]
theorem scWE:FnScope NWE ["rows","corners","tie"] (j0g j1z):=⟨rfl,rfl,rfl,by decide +kernel,rfl,by decide +kernel,by decide +kernel⟩
theorem k94:NWE1.Nodup:=by decide +kernel
theorem q0q:NWE2.Nodup:=by decide +kernel
def q69:Scope:=match j17 j1z with
 | .Return (some (.ListComp _ _ sc _)) _ :: _=>sc
 | _=>j0g j1z
def q64:Scope:=relabel q69 (PyProof.Rows.envOfC "with_ends" (j0g j1z) 0 0 .none)
theorem q7q{f:Addr}{fd:FuncData}(F:Fun K "with_ends" "with_ends" j1z f fd)(T:Txt mg)(GP:Has P w K mg base 1 "put_in" ["ties","places","tie"] spPI):FnOk P w K mg base CX0 2 f fd ["rows","corners","tie"] spWE:=by
 refine F.gb scWE (fun vs H Q E h=>?_) (fun b0 H vs Q E hr h=>?_)
 ·obtain⟨R,C,as,n,ts,cs,z,rfl,_⟩:=h;rfl
 obtain⟨R,C,as,n,ts,cs,z,rfl,hR,hC,h2,hn,hti,hin,q⟩:=h;have hal:=hR.len;have lc:=hC.2.1;show Run _ _ _ [some (.ref R),some (.ref C),some (.str z)] H;refine j0r (k8t (j0g j1z) NWE NWE1 2 (j1u j05) (ev_v 0 ⟨R,rfl,⟨_,SqL.of hR.lst⟩,fun M hM=>?_⟩));refine k0w (xs:=as.map fun a=>V.ref a.1) (fun i σ' H'=>(∃ v1 v2,σ'=[some (.ref R),some (.ref C),some (.str z)]++[v1,v2])/\Same H H'/\∃ bs,Bld H H' M bs (weK n cs z i)) ⟨⟨none,none,rfl⟩,j0e hM _,[],Bld.nil j0b⟩ ?_ ?_ ?_
 ·rintro i σ' H' _ ⟨_,sm,_⟩;exact SqL.of (sm _ _ hR.lst)
 ·rintro i x σ' H' hx ⟨⟨v1,v2,rfl⟩,sm,bs,hB⟩;have hi:i < n.length:=by
   have:=(Ac.mp hx).1;rw [Aa] at this;omega
  obtain⟨a,ea,eat,et,el,er⟩:=(hR.same sm).at hi;rw [Ad,ea] at hx;cases hx;rw [<- j13 hi] at et;have bl:=hB.rows.len;have kl:=k54 (n:=n) (cs:=cs) (z:=z) (k:=i);have li:=j8l hi;intro cl' C' s₀ H₀ ex;refine j15 rfl (SqT.of et) (j0k 3 k94 (j0k 4 k94 ?_));intro cl' C' s₀ H₀ ex;refine j2v (iteT ?_);intro cl' C' s₀ H₀ ex;refine j1n (j0a (ev_v 3 (j0a (j0u GP hr (j0a (ev_v 4 (j0a (j3a q64 NWE1 NWE2 2 (j1u j05) (ev_v 1 ⟨C,rfl,⟨_,SqL.of (hC.same sm).1⟩,fun D hD=>?_⟩)))))))));refine j1o (xs:=ts.map V.ref) (fun k σ' H2=>(∃ v1 v2,σ'=[some (.ref R),some (.ref C),some (.str z),some (.str (nmA n i)),some (.ref a.2)]++[v1,v2])/\Same H' H2/\H2 D=some (.lst ((plC (cs.take k) (nmA n i)).map V.int))) ⟨⟨none,none,rfl⟩,j0e hD _,j0b⟩ ?_ ?_ ?_
  ·rintro k σ' H2 _ ⟨_,sm2,_⟩;exact SqL.of (hC.same (sm.trans sm2)).1
  ·rintro k x σ' H2 hx ⟨⟨v1,v2,rfl⟩,sm2,eD⟩;rw [Ad,Aw] at hx;obtain⟨t,ht,rfl⟩:=hx;have hk:k < cs.length:=by have:=(Ac.mp ht).1;omega
   have hck:cs[k]?=some cs[k]:=Ab hk;have etk:cs.take (k+1)=cs.take k++[cs[k]]:=by rw [Bt,hck];rfl
   have htc:=(hC.same (sm.trans sm2)).2.2 k t _ ht hck;generalize cs[k]=c at htc etk;have lp:(plC (cs.take k) (nmA n i)).length<=2:=by
    unfold plC;rw [Aa];exact Bv (Ch ..) (by rw [Bh];omega)
   intro cl' C' s₀ H₀ ex;refine j15 rfl (SqT.of htc) (j0k 5 q0q (j0k 6 q0q ?_));intro cl' C' s₀ H₀ ex;refine j83 (j09 j6y (ev_v 5 (ev_v 3 ⟨rfl,_,rfl,?_⟩)));have ek:decide (V.str c.1=V.str (nmA n i))=decide (c.1=nmA n i):=decide_eq_decide.mpr ⟨fun k=>V.str.inj k,fun k=>by rw [k]⟩;show if decide (V.str c.1=V.str (nmA n i))=true then _ else _;rw [ek,etk];unfold plC at eD lp ⊢;rw [Cd,Ai,Ai];refine ite2 (fun y=>?_) (fun y=>⟨⟨_,_,rfl⟩,sm2,?_⟩)
   ·intro cl' C' s₀ H₀ ex;refine ev_v 6 ⟨_,eD,by rw [Aa];exact j00 (by omega),⟨_,_,rfl⟩,j02 sm2 hD,?_⟩;rw [j0b,Bk,if_pos y];rfl
   ·rw [Bk,if_neg y];show _=some (HO.lst (_++[]));rw [Ba];exact eD
  ·rintro σ' H2 ⟨_,sm2,eD⟩;rw [Aa,lc,Bp] at eD;have lp:(plC cs (nmA n i)).length<=2:=by
    unfold plC;rw [Aa];exact Bv (Ch ..) h2
   have pin:∀ k∈plC cs (nmA n i),0<=k/\k<=((row n i).length:Int):=fun k hk=>by
    unfold plC at hk;obtain⟨c,hc,rfl⟩:=Ak.mp hk;obtain⟨hc1,hc2⟩:=Cf.mp hc;exact hin c hc1 i hi (of_decide_eq_true hc2).symm
   refine j0a (ev_v 2 (j0c ⟨a.2,D,row n i,_,z,rfl,sm2 _ _ el,eD,lp,by omega,pin,fun l H3 s3 nl e3=>j0c ⟨(by show 2<=sizeLine;decide),fun t ht=>?_⟩⟩));have sA:=sm.trans sm2;have sB:=sA.trans s3;have hB3:=hB.same (sm2.trans s3);have nl':H' l=none:=j0n sm2 nl;refine⟨bs.map fun a=>V.ref a.1,?_,?_,⟨_,_,rfl⟩,?_,bs++[(t,l)],?_⟩
   ·rw [j0d (fun e=>by rw [<- e,hB3.rows.lst] at ht;cases ht)];exact hB3.rows.lst
   ·rw [Aa];exact j00 (by omega)
   ·exact j02 (sB.trans (j0e ht _)) hM
   ·rw [k17];exact hB3.add (p:=nmA n i) (l:=l) (t:=t) (zs:=(dsc (plC cs (nmA n i))).foldl (insA z) (row n i)) e3 (j0n sm nl') (fun k=>by
     obtain⟨a',ha',e'⟩:=Ak.mp k;have:=(hB.in_heap ha').2;rw [e',nl'] at this;exact this rfl) (fun e=>by rw [e,hB.rows.lst] at nl';cases nl') ht (j0n sB ht)
 ·rintro σ' H' ⟨_,sm,bs,hB⟩;rw [Aa,hal] at hB;exact q M bs H' sm hM hB.new hB.rows
end
end R4
namespace Nt
open PySem L2
open Classical
theorem k3w{α:Type}(f:α->α)(a:α)(i:Nat):∀ j,it f (i+j) a=it f j (it f i a)
 | 0=>rfl
 | j+1=>by
  show f (it f (i+j) a)=f (it f j (it f i a));rw [k3w f a i j]
theorem q2k{n:Net}(T:j04 n){e:End}(h:e∈ends n):∀ i,it (step n) i e∈face n e:=by
 have F:=j6q T h;intro i
 induction i using Nat.strongRecOn with
 | _ i ih=>
  by_cases c:i < (face n e).length
  ·exact Av (F.at' i c)
  ·have e1:i=(face n e).length+(i - (face n e).length):=by omega
   rw [e1,k3w,F.back];have:=F.pos;exact ih _ (by omega)
theorem j3x{n:Net}(T:j04 n){e x:End}(h:e∈ends n):x∈face n e↔∃ i,it (step n) i e=x:=by
 refine⟨fun k=>?_,fun⟨i,k⟩=>by rw [<- k];exact q2k T h i⟩;obtain⟨i,hi⟩:=Az k;have hl:=(Ac.mp hi).1;rw [(j6q T h).at' i hl] at hi;exact⟨i,Option.some.inj hi⟩
theorem k6u{n:Net}(T:j04 n){e:End}(h:e∈ends n):e∈face n e:=(j3x T h).mpr ⟨0,rfl⟩
theorem k6m{n:Net}(T:j04 n){e x y:End}(h:e∈ends n)(hx:x∈face n e)(hy:y∈face n e):y∈face n x:=by
 have F:=j6q T h;have xe:=j50 T h x hx;obtain⟨i,hi⟩:=Az hx;have hl:=(Ac.mp hi).1;rw [F.at' i hl] at hi;have hi:=Option.some.inj hi;obtain⟨j,hj⟩:=(j3x T h).mp hy;refine(j3x T xe).mpr ⟨((face n e).length - i)+j,?_⟩;rw [<- hi,<- k3w,show i+((face n e).length - i+j)=(face n e).length+j by omega,k3w,F.back,hj]
theorem j9y{n:Net}(T:j04 n):∀(es told:List End),(∀ e∈es,e∈ends n)->∀ x∈es,x∈told\/∃ w∈fcs n es told,x∈w
 | [],_,_,x,hx=>by cases hx
 | e :: r,told,h,x,hx=>by
  have hr:∀ a∈r,a∈ends n:=fun a ha=>h a (Ao _ ha);unfold fcs
  split
  ·rename_i c
   rcases Ap.mp hx with rfl | hx
   ·exact .inl c
   ·exact j9y T r told hr x hx
  ·rcases Ap.mp hx with rfl | hx
   ·exact .inr ⟨_,Au ..,k6u T (h x (Au ..))⟩
   ·rcases j9y T r (told++face n e) hr x hx with k | ⟨w,k1,k2⟩
    ·rcases At.mp k with k | k
     ·exact .inl k
     ·exact .inr ⟨_,Au ..,k⟩
    ·exact .inr ⟨w,Ao _ k1,k2⟩
def OneF(n:Net)(e g:End):Prop:=e=g\/g∈face n e
theorem q20{n:Net}(T:j04 n){e g:End}(he:e∈ends n)(ne:e≠g):(∃ w∈fac n,e∈w/\g∈w)↔OneF n e g:=by
 have h0:ends n≠[]:=fun k=>by rw [k] at he;cases he
 unfold fac;rw [if_neg h0];refine⟨fun⟨w,hw,h1,h2⟩=>?_,fun k=>?_⟩
 ·obtain⟨x,hx,rfl,_⟩:=j8f T (ends n) [] (fun _ h=>h) w hw;exact .inr (k6m T hx h1 h2)
 ·rcases k with k | k
  ·exact absurd k ne
  ·rcases j9y T (ends n) [] (fun _ h=>h) e he with q | ⟨w,hw,hew⟩
   ·cases q
   ·refine⟨w,hw,hew,?_⟩;obtain⟨x,hx,rfl,_⟩:=j8f T (ends n) [] (fun _ h=>h) w hw;obtain⟨i,hi⟩:=(j3x T hx).mp hew;obtain⟨j,hj⟩:=(j3x T he).mp k;exact(j3x T hx).mpr ⟨i+j,by rw [k3w,hi,hj]⟩
def lexE(e g:End):Bool:=if e.1=g.1 then decide (e.2 < g.2) else decide (e.1 < g.1)
def j0w(n:Net)(e g:End)(z:Str):Net:=if lexE e g=true then ins (ins n g z) e z else ins (ins n e z) g z
theorem j4s{n:Net}{e g:End}{z:Str}:(j0w n e g z).length=n.length:=by
 unfold j0w
 split <;> rw [j1e,j1e]
theorem j2y{n:Net}{e g:End}{z:Str}:(j0w n e g z).map (·.1)=n.map (·.1):=by
 unfold j0w
 split <;> rw [j2h,j2h]
theorem j6n{n:Net}{e g:End}{z:Str}(he:e.1 < n.length)(hg:g.1 < n.length):(ties (j0w n e g z)).Perm (z :: z :: ties n):=by
 unfold j0w
 split
 ·exact(j18 _ e z (by rw [j1e];exact he)).trans ((j18 n g z hg).cons z)
 ·exact(j18 _ g z (by rw [j1e];exact hg)).trans ((j18 n e z he).cons z)
noncomputable def outT(n:Net)(p:Str)(j:Int)(p':Str)(j':Int)(z:Str):Out:=
 if h:∃ e,AtC n p j e then
  if k:∃ g,AtC n p' j' g then
   if OneF n h.choose k.choose then if z∈ties n\/isNm z=false then .inl "Taken" else if j5c n then .inl "TooMany" else .inr (j0w n h.choose k.choose z)
   else .inl "NoFace"
  else .inl "NoCorner"
 else .inl "NoCorner"
section
variable{n:Net}{p p':Str}{j j':Int}{z:Str}{e g:End}
theorem k8b(h:¬ ∃ e,AtC n p j e):outT n p j p' j' z = .inl "NoCorner":=by unfold outT;rw [dif_neg h]
theorem k91(h:∃ e,AtC n p j e)(k:¬ ∃ e,AtC n p' j' e):outT n p j p' j' z = .inl "NoCorner":=by unfold outT;rw [dif_pos h,dif_neg k]
theorem j78(hN:(n.map (·.1)).Nodup)(he:AtC n p j e)(hg:AtC n p' j' g):outT n p j p' j' z=if OneF n e g then if z∈ties n\/isNm z=false then .inl "Taken" else if j5c n then .inl "TooMany" else .inr (j0w n e g z) else .inl "NoFace":=by
 have h:∃ e,AtC n p j e:=⟨e,he⟩;have k:∃ e,AtC n p' j' e:=⟨g,hg⟩;unfold outT;rw [dif_pos h,dif_pos k,AtC.one hN h.choose_spec he,AtC.one hN k.choose_spec hg]
theorem k6n(hN:(n.map (·.1)).Nodup)(he:AtC n p j e)(hg:AtC n p' j' g)(h:¬ OneF n e g):outT n p j p' j' z = .inl "NoFace":=by rw [j78 hN he hg,if_neg h]
theorem k84(hN:(n.map (·.1)).Nodup)(he:AtC n p j e)(hg:AtC n p' j' g)(h:OneF n e g)(k:z∈ties n\/isNm z=false):outT n p j p' j' z = .inl "Taken":=by rw [j78 hN he hg,if_pos h,if_pos k]
theorem k4t(hN:(n.map (·.1)).Nodup)(he:AtC n p j e)(hg:AtC n p' j' g)(h:OneF n e g)(k:¬(z∈ties n\/isNm z=false))(f:j5c n):outT n p j p' j' z = .inl "TooMany":=by rw [j78 hN he hg,if_pos h,if_neg k,if_pos f]
theorem k1a(hN:(n.map (·.1)).Nodup)(he:AtC n p j e)(hg:AtC n p' j' g)(h:OneF n e g)(k:¬(z∈ties n\/isNm z=false))(f:¬ j5c n):outT n p j p' j' z = .inr (j0w n e g z):=by rw [j78 hN he hg,if_pos h,if_neg k,if_neg f]
end
end Nt
namespace R4
open PySem L2 Nt Sort2 SetT
open PyProof.Rows (sortedS)
open Classical
theorem j3y(z:Str)(l:List Str)(i:Nat):insA z l (i:Int)=l.take i++z :: l.drop i:=by
 unfold insA;rw [Bd]
theorem q5t{n:Net}(hN:(n.map (·.1)).Nodup){p p':Str}{j j':Int}{z:Str}{e g:Nt.End}(h:AtC n p j e)(k:AtC n p' j' g):weK n [(p,j),(p',j')] z n.length=j0w n e g z:=by
 obtain⟨h1,h2,h3⟩:=h;obtain⟨k1,k2,k3⟩:=k;have lw:(weK n [(p,j),(p',j')] z n.length).length=n.length:=k54;refine Ez (by rw [lw,j4s]) fun i hi hi2=>?_;have hin:i < n.length:=by rw [lw] at hi;exact hi
 have e1:(weK n [(p,j),(p',j')] z n.length)[i]=weR n [(p,j),(p',j')] z i:=by
  simp only [weK,Ct,Du]
 rw [e1];have nme:(j0w n e g z)[i].1=nmA n i:=by
  have:=j2y (n:=n) (e:=e) (g:=g) (z:=z);have h1:((j0w n e g z).map (·.1))[i]?=(n.map (·.1))[i]?:=by rw [this]
  rw [Ad,Ad,Ab hi2,Ab hin] at h1;rw [j13 hin];exact Option.some.inj h1
 have rwe:(j0w n e g z)[i].2=row (j0w n e g z) i:=(j3f hi2).symm;have key:(dsc (plC [(p,j),(p',j')] (nmA n i))).foldl (insA z) (row n i)=row (j0w n e g z) i:=by
  have ce:(p=nmA n i)↔e.1=i:=⟨fun q=>j3o hN h1.1 hin (h2.trans q),fun q=>by rw [<- h2,q]⟩;have cg:(p'=nmA n i)↔g.1=i:=⟨fun q=>j3o hN k1.1 hin (k2.trans q),fun q=>by rw [<- k2,q]⟩;have r1:∀(c d:Nt.End),c.1 < n.length->d.1 < n.length->row (ins (ins n c z) d z) i=if d.1=i then(row (ins n c z) i).take d.2++z :: (row (ins n c z) i).drop d.2 else row (ins n c z) i:=fun c d hc hd=>j1x (ins n c z) d z i (by rw [j1e];exact hd);unfold plC j0w;subst h3 k3
  by_cases c1:e.1=i <;> by_cases c2:g.1=i
  ·have q1:=ce.mpr c1;have q2:=cg.mpr c2;have f1:([(p,(e.2:Int)),(p',(g.2:Int))].filter fun c=>decide (c.1=nmA n i)).map (·.2)=[(e.2:Int),(g.2:Int)]:=by simp [q1,q2]
   rw [f1]
   by_cases lt:e.2 < g.2
   ·have l1:lexE e g=true:=by
     unfold lexE;rw [if_pos (c1.trans c2.symm)];exact decide_eq_true lt
    have d1:dsc [(e.2:Int),(g.2:Int)]=[(g.2:Int),(e.2:Int)]:=by
     show(if(g.2:Int)<=(e.2:Int) then _ else _)=_;rw [if_neg (by omega)]
    rw [d1,if_pos l1,r1 g e k1.1 h1.1,if_pos c1,j1x n g z i k1.1,if_pos c2];show insA z (insA z (row n i) (g.2:Int)) (e.2:Int)=_;rw [j3y,j3y]
   ·have l1:¬ lexE e g=true:=by
     unfold lexE;rw [if_pos (c1.trans c2.symm)];exact fun q=>lt (of_decide_eq_true q)
    have d1:dsc [(e.2:Int),(g.2:Int)]=[(e.2:Int),(g.2:Int)]:=by
     show(if(g.2:Int)<=(e.2:Int) then _ else _)=_;rw [if_pos (by omega)]
    rw [d1,if_neg l1,r1 e g h1.1 k1.1,if_pos c2,j1x n e z i h1.1,if_pos c1];show insA z (insA z (row n i) (e.2:Int)) (g.2:Int)=_;rw [j3y,j3y]
  ·have q1:=ce.mpr c1;have q2:¬ p'=nmA n i:=fun q=>c2 (cg.mp q);have f1:([(p,(e.2:Int)),(p',(g.2:Int))].filter fun c=>decide (c.1=nmA n i)).map (·.2)=[(e.2:Int)]:=by
    rw [Bk,if_pos (decide_eq_true q1),Bk,if_neg (by simpa using q2)];rfl
   rw [f1];show insA z (row n i) (e.2:Int)=_;rw [j3y]
   split
   ·rw [r1 g e k1.1 h1.1,if_pos c1,j1x n g z i k1.1,if_neg c2]
   ·rw [r1 e g h1.1 k1.1,if_neg c2,j1x n e z i h1.1,if_pos c1]
  ·have q1:¬ p=nmA n i:=fun q=>c1 (ce.mp q);have q2:=cg.mpr c2;have f1:([(p,(e.2:Int)),(p',(g.2:Int))].filter fun c=>decide (c.1=nmA n i)).map (·.2)=[(g.2:Int)]:=by
    rw [Bk,if_neg (by simpa using q1),Bk,if_pos (decide_eq_true q2)];rfl
   rw [f1];show insA z (row n i) (g.2:Int)=_;rw [j3y]
   split
   ·rw [r1 g e k1.1 h1.1,if_neg c1,j1x n g z i k1.1,if_pos c2]
   ·rw [r1 e g h1.1 k1.1,if_pos c2,j1x n e z i h1.1,if_neg c1]
  ·have q1:¬ p=nmA n i:=fun q=>c1 (ce.mp q);have q2:¬ p'=nmA n i:=fun q=>c2 (cg.mp q);have f1:([(p,(e.2:Int)),(p',(g.2:Int))].filter fun c=>decide (c.1=nmA n i)).map (·.2)=[]:=by
    rw [Bk,if_neg (by simpa using q1),Bk,if_neg (by simpa using q2)];rfl
   rw [f1];show row n i=_
   split
   ·rw [r1 g e k1.1 h1.1,if_neg c1,j1x n g z i k1.1,if_neg c2]
   ·rw [r1 e g h1.1 k1.1,if_neg c2,j1x n e z i h1.1,if_neg c1]
 exact Prod.ext nme.symm (by rw [rwe,<- key];rfl)
theorem q6s{n:Net}{e g:Nt.End}{z:Str}(he:e.1 < n.length)(hg:g.1 < n.length)(hn:n.length<=60)(ht:(ties n).length<=100):Sm (j0w n e g z):=by
 refine⟨by rw [j4s];omega,fun r hr=>?_⟩;have h1:r.2.length<=(ties (j0w n e g z)).length:=by
  obtain⟨i,hi,e1⟩:=Ce.mp hr;have:=j28 (j0w n e g z) i;rw [j3f hi,e1] at this;exact this
 have h2:=(j6n (z:=z) he hg).length_eq;rw [An,An] at h2;omega
def spOF(c:Str->Addr):Sp:=fun vs H Q E=>∃(R t u:Addr) (as:List (Addr×Addr)) (n:Net) (p p':Str) (j j':Int) (e g:Nt.End),vs=[.ref R,.ref t,.ref u]/\RowsAt H R as n/\(n.map (·.1)).Nodup/\j04 n/\Full n/\n.length<=60/\(ties n).length<=100/\H t=some (Tn p j)/\H u=some (Tn p' j')/\AtC n p j e/\AtC n p' j' g /\
 (¬ OneF n e g->∀ H',Same H H'->E (.ref (c "NoFace")) none H')/\(OneF n e g->∀ H',Same H H'->Q .non H')
def k6d(c:Str->Addr):Sp:=fun vs H Q E=>∃(R t u:Addr) (as:List (Addr×Addr)) (n:Net) (p p':Str) (j j':Int) (z:Str),vs=[.ref R,.ref t,.ref u,.str z]/\RowsAt H R as n/\(n.map (·.1)).Nodup/\j04 n/\Full n/\n.length<=60/\(ties n).length<=100/\Few n/\H t=some (Tn p j)/\H u=some (Tn p' j')/\z.length<=1000 /\
 (∀ x,outT n p j p' j' z = .inl x->∀ H',Same H H'->E (.ref (c x)) none H') /\
 ∀ m,outT n p j p' j' z = .inr m->∀ L bs H',Same H H'->H L=none->(∀ a∈bs,H a.1=none/\H a.2=none)->RowsAt H' L bs m->Sm m->Q (.ref L) H'
theorem k3x{n:Net}(hN:(n.map (·.1)).Nodup){H:Hp}{ts:List Addr}{w:List Nt.End}{p:Str}{j:Int}{e:Nt.End}(hE:AtE n H ts w)(hw:∀ c∈w,c∈ends n)(he:AtC n p j e) :
  (ts.any fun b=>decide (H b=some (Tn p j)))=decide (e∈w):=by
 have hl:=hE.1;rw [Cr,Di,decide_eq_true_iff];refine⟨fun⟨b,hb,k⟩=>?_,fun k=>?_⟩
 ·have k:=of_decide_eq_true k;obtain⟨i,hi⟩:=Az hb;have hil:i < w.length:=by have:=(Ac.mp hi).1;omega
  have hwi:=Ab hil;have q:=hE.2 i b _ hi hwi;rw [q] at k;have k2:=List.cons.inj (HO.tup.inj (Option.some.inj k));have mw:=Av hwi;have a:AtC n p j w[i]:=⟨j4k (hw _ mw),V.str.inj k2.1,V.int.inj (List.cons.inj k2.2).1⟩;rw [AtC.one hN he a];exact mw
 ·obtain⟨i,hi⟩:=Az k;have hil:i < ts.length:=by have:=(Ac.mp hi).1;omega
  have q:=hE.2 i ts[i] e (Ab hil) hi;refine⟨ts[i],Cc hil,decide_eq_true ?_⟩;rw [q];show some (Tn (nmA n e.1) (e.2:Int))=_;rw [he.2.1,he.2.2]
section
variable{P:Program}{w:World}{K:PySem.W.Frag}{mg:Str->Option Value}{base:Heap}
abbrev NOf:List Str:=["rows","one","other"]
abbrev NOf':List Str:=["rows","one","other","face"]
theorem scOf:FnScope NOf ["rows","one","other"] (j0g j12):=⟨rfl,rfl,rfl,by decide +kernel,rfl,by decide +kernel,by decide +kernel⟩
theorem q5k:NOf'.Nodup:=by decide +kernel
theorem q7j{f:Addr}{fd:FuncData}{c:Str->Addr}(F:Fun K "need_one_face" "need_one_face" j12 f fd)(T:Txt mg)(cl:Cl K mg c)(GF:Has P w K mg base 4 "faces_of" ["rows"] k0d):FnOk P w K mg base (XF P w) 5 f fd ["rows","one","other"] (spOF c):=by
 refine F.gx scOf (fun vs H Q E h=>?_) (fun b0 H vs Q hr h=>?_)
 ·obtain⟨R,t,u,as,n,p,p',j,j',e,g,rfl,_⟩:=h;rfl
 obtain⟨R,t,u,as,n,p,p',j,j',e,g,rfl,hR,hN,hT,hF,hn,hti,ht,hu,he,hg,qE,qQ⟩:=h;have un:=hr.u100;have mN:("NoFace" : Str)∈xNames:=by decide
 show Run _ _ _ [some (.ref R),some (.ref t),some (.ref u)] H;refine j11 (j3q (k4l (j09 (j5w un) (ev_v 1 (ev_v 2 ⟨1,_,by decide,q0m ht hu,_,rfl,?_⟩)))))
 by_cases eq:p=p'/\j=j'
 ·rw [decide_eq_true eq];have:e=g:=by
   rw [<- eq.1,<- eq.2] at hg;exact AtC.one hN he hg
  exact iteF (iteF (j0i (j0i (qQ (.inl this) _ (Same.refl H)))))
 rw [decide_eq_false eq];have ne:e≠g:=fun q=>eq (by rw [<- he.2.1,<- hg.2.1,<- he.2.2,<- hg.2.2,q];exact⟨rfl,rfl⟩);have hee:e∈ends n:=by
  rcases j7h hF with ⟨nm,rfl⟩ | ⟨hC,_⟩
  ·exact absurd ((corner_bare.mp he.1).trans (corner_bare.mp hg.1).symm) ne
  ·exact(hC e).mp he.1
 have fl:=q17 n;have el:=j4m n;refine iteT (j95 (j3l (j32 (j0y (k4c rfl) T.any PyProof.Rows.boot_any (j0a (j3a (j0g j12) NOf NOf' 1 (j1u j05) (j0u GF hr (j0a (ev_v 0 (j0c ⟨R,as,n,rfl,hR,hN,hT,by omega,by omega,fun L ls H1 s1 nL hL fL=>⟨L,rfl,⟨_,SqL.of hL.lst⟩,fun D hD=>?_⟩⟩))))))))));have ll:=hL.len;refine j1o (xs:=ls.map V.ref) (fun i σ' H'=>(∃ v,σ'=[some (.ref R),some (.ref t),some (.ref u)]++[v])/\Same H1 H'/\H' D=some (.lst ((((fac n).take i).map fun w=>decide (e∈w) && decide (g∈w)).map V.bl))) ⟨⟨none,rfl⟩,j0e hD _,j0b⟩ ?_ ?_ ?_
 ·rintro i σ' H' _ ⟨_,sm,_⟩;exact SqL.of (sm _ _ hL.lst)
 ·rintro i x σ' H' hx ⟨⟨v,rfl⟩,sm,eD⟩;rw [Ad,Aw] at hx;obtain⟨l,hl,rfl⟩:=hx;have hil:i < (fac n).length:=by have:=(Ac.mp hl).1;omega
  have hwi:=Ab hil;have etk:(fac n).take (i+1)=(fac n).take i++[(fac n)[i]]:=by rw [Bt,hwi];rfl
  obtain⟨ts,elt,hE⟩:=(hL.same sm).at' i l _ hl hwi;have hwe:=(k9w hT _ (Av hwi)).2;generalize (fac n)[i]=w at etk hE hwe;have ht1:=sm _ _ (s1 _ _ ht);have hu1:=sm _ _ (s1 _ _ hu);have eqs:∀{X:Cx} {q:Str} {k:Int} {r:Addr},H' r=some (Tn q k)->∀ b∈ts,EqD X H' 1 (.ref b) (.ref r) (decide (H' b=some (Tn q k))):=fun{X q k r} hr b hb=>by
   obtain⟨m,hm⟩:=Az hb;have hl:=hE.1;have hml:m < w.length:=by have:=(Ac.mp hm).1;omega
   exact k6r (hE.2 m b _ hm (Ab hml)) hr
  intro cl' C' s₀ H₀ ex;refine j0k 3 q5k ?_;intro cl' C' s₀ H₀ ex;refine j2v (iteT ?_);intro cl' C' s₀ H₀ ex;refine q31 (j59 (q0v un) (ev_v 1 (ev_v 3 ⟨l,ts,1,_,rfl,SqL.of elt,by decide,eqs ht1,_,rfl,?_⟩)));rw [k3x hN hE hwe he];have fin:∀ b:Bool,b=(decide (e∈w) && decide (g∈w))->∃ ys,H' D=some (.lst ys)/\ys.length < sizeLine/\(∃ v,[some (V.ref R),some (.ref t),some (.ref u)]++[some (V.ref l)]=[some (V.ref R),some (.ref t),some (.ref u)]++[v])/\Same H1 (upd H' D (.lst (ys++[V.bl b])))/\(upd H' D (.lst (ys++[V.bl b]))) D=some (.lst ((((fac n).take (i+1)).map fun w=>decide (e∈w) && decide (g∈w)).map V.bl)):=fun b hb=>by
   refine⟨_,eD,by rw [Aa,Aa,Bh];exact j00 (by omega),⟨_,rfl⟩,j02 sm hD,?_⟩;rw [j0b,etk,Ai,Ai,hb];rfl
  refine ite2 (fun c1=>?_) (fun c1=>?_)
  ·refine k42 (j59 (q0v un) (ev_v 2 (ev_v 3 ⟨l,ts,1,_,rfl,SqL.of elt,by decide,eqs hu1,?_⟩)));rw [k3x hN hE hwe hg];exact fin _ (by rw [c1,Bool.true_and])
  ·exact fin _ (by rw [Em.mpr c1,Bool.false_and])
 ·rintro σ' H' ⟨_,sm,eD⟩;rw [Aa,ll,Bp] at eD;refine j0c ⟨D,_,rfl,SqL.of eD,_,rfl,?_⟩;have key:((fac n).map fun w=>decide (e∈w) && decide (g∈w)).any id=decide (OneF n e g):=by
   rw [Cr,decide_eq_true_iff,<- q20 hT hee ne,List.any_map,Di];refine⟨fun⟨w,h1,h2⟩=>?_,fun⟨w,h1,h2,h3⟩=>⟨w,h1,?_⟩⟩
   ·have h2:(decide (e∈w) && decide (g∈w))=true:=h2;rw [Bu] at h2;exact⟨w,h1,of_decide_eq_true h2.1,of_decide_eq_true h2.2⟩
   ·show(decide (e∈w) && decide (g∈w))=true;rw [decide_eq_true h2,decide_eq_true h3];rfl
  rw [key]
  by_cases o:OneF n e g
  ·rw [decide_eq_true o];exact iteF (j0i (j0i (qQ o _ (s1.trans sm))))
  ·rw [decide_eq_false o];exact iteT (j16 rzX (cl.at' _ mN).1 (cl.at' _ mN).2.1 rfl (j0a (j25 (j0c ⟨(by show 1<=sizeLine;decide),qE o _ (s1.trans sm)⟩))))
abbrev NTd:List Str:=["rows","one","other","tie"]
theorem scTd:FnScope NTd ["rows","one","other","tie"] (j0g k59):=⟨rfl,rfl,rfl,by decide +kernel,rfl,by decide +kernel,by decide +kernel⟩
theorem q70{f:Addr}{fd:FuncData}{c:Str->Addr}(F:Fun K "tied" "tied" k59 f fd)(T:Txt mg)(cl:Cl K mg c)
  (GC:HasX P w K mg base 5 "need_corner" ["rows","corner"] (spNC c)) (GO:HasX P w K mg base 5 "need_one_face" ["rows","one","other"] (spOF c)) (GF:HasX P w K mg base 5 "need_free_name" ["names","new"] (spNF c)) (GR:HasX P w K mg base 5 "need_room" ["rows"] (spNR c))
  (GT:Has P w K mg base 5 "ties_of" ["rows"] spTs) (GW:Has P w K mg base 5 "with_ends" ["rows","corners","tie"] spWE) :
  FnOk P w K mg base (XF P w) 6 f fd ["rows","one","other","tie"] (k6d c):=by
 refine F.gx scTd (fun vs H Q E h=>?_) (fun b0 H vs Q hr h=>?_)
 ·obtain⟨R,t,u,as,n,p,p',j,j',z,rfl,_⟩:=h;rfl
 obtain⟨R,t,u,as,n,p,p',j,j',z,rfl,hR,hN,hT,hF,hn,hti,hfew,ht,hu,hz,qE,qQ⟩:=h;show Run _ _ _ [some (.ref R),some (.ref t),some (.ref u),some (.str z)] H;refine j0v (j1p GC hr j6e (j0a (ev_v 0 (j0a (ev_v 1 (j0c ⟨R,t,as,n,p,j,rfl,hR,hF,hn,hti,ht,fun ex=>qE _ (k8b ex),fun ex H1 s1=>?_⟩))))));refine j0v (j1p GC hr j6e (j0a (ev_v 0 (j0a (ev_v 2 (j0c ⟨R,u,as,n,p',j',rfl,hR.same s1,hF,hn,hti,s1 _ _ hu,fun ex2 H' s=>qE _ (k91 ex ex2) _ (s1.trans s),fun ex2 H2 s2=>?_⟩))))));obtain⟨e,he⟩:=ex;obtain⟨g,hg⟩:=ex2;have s12:=s1.trans s2;refine j0v (j1p GO hr j6e (j0a (ev_v 0 (j0a (ev_v 1 (j0a (ev_v 2 (j0c ⟨R,t,u,as,n,p,p',j,j',e,g,rfl,hR.same s12,hN,hT,hF,hn,hti,s12 _ _ ht,s12 _ _ hu,he,hg,fun o H' s=>qE _ (k6n hN he hg o) _ (s12.trans s),fun o H3 s3=>?_⟩))))))));have s13:=s12.trans s3;refine j0v (j1p GF hr j6e (j0a (j0u GT hr (j0a (ev_v 0 (j0c ⟨R,as,n,rfl,hR.same s13,by omega,by omega,hfew,fun L1 ss H4 s4 n4 e4 snd so mem=>?_⟩))))));have s14:=s13.trans s4;have lss:=hfew ss snd fun y hy=>(mem y).mp hy;refine j0a (ev_v 3 (j0c ⟨L1,ss,z,rfl,e4,by omega,hz,fun k H' s=>qE _ (k84 hN he hg o (k.imp (mem z).mp id)) _ (s14.trans s),fun k H5 s5=>?_⟩));have k1:¬(z∈ties n\/isNm z=false):=fun y=>k (y.imp (mem z).mpr id);have s15:=s14.trans s5;refine j0v (j1p GR hr j6e (j0a (ev_v 0 (j0c ⟨R,as,n,rfl,hR.same s15,hn,hti,hfew,fun k H' s=>qE _ (k4t hN he hg o k1 k) _ (s15.trans s),fun k3 H6 s6=>?_⟩))));have s16:=s15.trans s6;refine j0r (j0u GW hr (j0a (ev_v 0 (j0a (j1h (j0a (ev_v 1 (j0a (ev_v 2 (j0c ⟨(by show 2<=sizeLine;decide),fun C hC=>?_⟩))))))))));have s7:=j0e hC (.lst [.ref t,.ref u]);have s17:=s16.trans s7;have hCs:CsAt (upd H6 C (.lst [.ref t,.ref u])) C [t,u] [(p,j),(p',j')]:=⟨j0b,rfl,fun i x d h1 h2=>by
  match i with
  | 0=>cases h1;cases h2;exact s17 _ _ ht
  | 1=>cases h1;cases h2;exact s17 _ _ hu
  | i+2=>simp at h1⟩
 refine j0a (ev_v 3 (j0c ⟨R,C,as,n,[t,u],[(p,j),(p',j')],z,rfl,hR.same s17,hCs,by show 2<=2;omega,hn,hti,fun d hd r hr2 ed=>?_,fun L bs H8 s8 nL hnew hL=>?_⟩))
 ·have aux:∀{x:Str} {k:Int} {y:Nt.End},AtC n x k y->nmA n r=x->0<=k/\k<=((row n r).length:Int):=fun{x k y} hy er=>by
   have er:r=y.1:=j3o hN hr2 hy.1.1 (er.trans hy.2.1.symm);subst er;have h3:=hy.2.2;have h4:=hy.1.2;omega
  rcases Ap.mp hd with q | q
  ·rw [q] at ed ⊢;exact aux he ed
  ·rw [Ag.mp q] at ed ⊢;exact aux hg ed
 rw [q5t hN he hg] at hL;exact qQ _ (k1a hN he hg o k1 k3) L bs H8 (s17.trans s8) (j0n s17 nL) (fun a ha=>⟨j0n s17 (hnew a ha).1,j0n s17 (hnew a ha).2⟩) hL (q6s he.1.1 hg.1.1 hn hti)
end
end R4
namespace R4
open PySem L2 Nt Sort2 SetT
open PyProof.Rows (sortedS)
open Classical
theorem k8m{H:Hp}{R M t l:Addr}{as:List (Addr×Addr)}{n:Net}{pt:Str}{zs:List Str}(h:RowsAt H R as n)(ht:H t=some (.tup [.str pt,.ref l]))(hl:H l=some (Ls zs))(hn:l∉as.map (·.2))(hM:H M=none) :
  RowsAt (upd H M (.lst (as.map (fun a=>V.ref a.1)++[.ref t]))) M (as++[(t,l)]) (n++[(pt,zs)]):=by
 have hal:=h.len;refine⟨by rw [Af,Af,hal];rfl,by rw [j0b,Ai];rfl,fun i b r hb hr=>?_,?_⟩
 ·rcases Cj i as.length with c | c
  ·rw [Ar c] at hb;rw [Ar (by omega)] at hr;have q:=h.tup i b r hb hr;exact⟨by rw [j0d (j0f q.1 hM)];exact q.1,by rw [j0d (j0f q.2 hM)];exact q.2⟩
  ·have e:i=as.length:=by
    have:=(Ac.mp hb).1;rw [Af] at this;simp at this;omega
   subst e;rw [Ay (Ah _)] at hb;rw [hal,Ay (Ah _)] at hr;simp at hb hr;subst hb hr;exact⟨by rw [j0d (j0f ht hM)];exact ht,by rw [j0d (j0f hl hM)];exact hl⟩
 ·rw [Ai,Cy];exact⟨h.inj,by simp,fun x hx y hy e=>by simp at hy;subst hy e;exact hn hx⟩
theorem q0f{n:Net}(hN:(n.map (·.1)).Nodup){p:Str}{j:Int}{z:Str}{e:Nt.End}(h:AtC n p j e):∀ k,k<=n.length->weK n [(p,j)] z k=(ins n e z).take k
 | 0,_=>rfl
 | k+1,hk=>by
  obtain⟨h1,h2,h3⟩:=h;rw [k17,q0f hN ⟨h1,h2,h3⟩ k (by omega),k83 hk h1.1]
  congr 2
  unfold weR plC insL
  by_cases c:e.1=k
  ·have c2:p=nmA n k:=by rw [<- h2,c]
   rw [if_pos c,Bk,if_pos (decide_eq_true c2)];show(nmA n k,insA z (row n k) j)=_;unfold insA;rw [<- h3,Bd]
  ·have c2:¬ p=nmA n k:=fun q=>c (j3o hN h1.1 hk (h2.trans q));rw [if_neg c,Bk,if_neg (by simpa using c2)];rfl
theorem q4k{n:Net}{e:Nt.End}{z q:Str}(hc:e.1 < n.length)(hn:n.length<=60)(ht:(ties n).length<=100):Sm (ins n e z++[(q,[z])]):=by
 refine⟨by rw [Af,j1e];show n.length+1<=1000;omega,fun r hr=>?_⟩
 rcases At.mp hr with h | h
 ·have h1:r.2.length<=(ties (ins n e z)).length:=by
   obtain⟨i,hi,e1⟩:=Ce.mp h;have:=j28 (ins n e z) i;rw [j3f hi,e1] at this;exact this
  have h2:=(j18 n e z hc).length_eq;rw [An] at h2;omega
 ·rw [Ag.mp h];show 1<=5000;omega
def q3k(c:Str->Addr):Sp:=fun vs H Q E=>∃(R t:Addr) (as:List (Addr×Addr)) (n:Net) (p:Str) (j:Int) (z q:Str),vs=[.ref R,.ref t,.str z,.str q]/\RowsAt H R as n/\(n.map (·.1)).Nodup/\Full n/\n.length<=60/\(ties n).length<=100/\Few n/\H t=some (Tn p j)/\z.length<=1000/\q.length<=1000 /\
 (∀ x,outI n p j z q = .inl x->∀ H',Same H H'->E (.ref (c x)) none H') /\
 ∀ m,outI n p j z q = .inr m->∀ L bs H',Same H H'->H L=none->(∀ a∈bs,H a.1=none/\H a.2=none)->RowsAt H' L bs m->Sm m->Q (.ref L) H'
section
variable{P:Program}{w:World}{K:PySem.W.Frag}{mg:Str->Option Value}{base:Heap}
abbrev NSpk:List Str:=["rows","one","tie","point"]
theorem q7r:FnScope NSpk ["rows","one","tie","point"] (j0g j7r):=⟨rfl,rfl,rfl,by decide +kernel,rfl,by decide +kernel,by decide +kernel⟩
theorem q4l{f:Addr}{fd:FuncData}{c:Str->Addr}(F:Fun K "spiked" "spiked" j7r f fd)(T:Txt mg)(cl:Cl K mg c)
  (GC:HasX P w K mg base 4 "need_corner" ["rows","corner"] (spNC c)) (GF:HasX P w K mg base 4 "need_free_name" ["names","new"] (spNF c)) (GR:HasX P w K mg base 4 "need_room" ["rows"] (spNR c))
  (GT:Has P w K mg base 4 "ties_of" ["rows"] spTs) (GP:Has P w K mg base 4 "points_of" ["rows"] q1i) (GW:Has P w K mg base 4 "with_ends" ["rows","corners","tie"] spWE) :
  FnOk P w K mg base (XF P w) 5 f fd ["rows","one","tie","point"] (q3k c):=by
 refine F.gx q7r (fun vs H Q E h=>?_) (fun b0 H vs Q hr h=>?_)
 ·obtain⟨R,t,as,n,p,j,z,q,rfl,_⟩:=h;rfl
 obtain⟨R,t,as,n,p,j,z,q,rfl,hR,hN,hF,hn,hti,hfew,ht,hz,hq,qE,qQ⟩:=h;have hal:=hR.len;show Run _ _ _ [some (.ref R),some (.ref t),some (.str z),some (.str q)] H;refine j0v (j1p GC hr j6e (j0a (ev_v 0 (j0a (ev_v 1 (j0c ⟨R,t,as,n,p,j,rfl,hR,hF,hn,hti,ht,fun ex=>qE _ (q02 ex),fun ex H1 s1=>?_⟩))))));refine j0v (j1p GF hr j6e (j0a (j0u GT hr (j0a (ev_v 0 (j0c ⟨R,as,n,rfl,hR.same s1,by omega,by omega,hfew,fun L1 ss H2 s2 n2 e2 snd so mem=>?_⟩))))));have s12:=s1.trans s2;have lss:=hfew ss snd fun y hy=>(mem y).mp hy;refine j0a (ev_v 2 (j0c ⟨L1,ss,z,rfl,e2,by omega,hz,fun k H' s=>qE _ (k9g ex (k.imp (mem z).mp id)) _ (s12.trans s),fun k H3 s3=>?_⟩));have k1:¬(z∈ties n\/isNm z=false):=fun y=>k (y.imp (mem z).mpr id);have s13:=s12.trans s3;refine j0v (j1p GF hr j6e (j0a (j0u GP hr (j0a (ev_v 0 (j0c ⟨R,as,n,rfl,hR.same s13,by omega,fun L2 H4 s4 n4 e4=>?_⟩))))));have s14:=s13.trans s4;refine j0a (ev_v 3 (j0c ⟨L2,_,q,rfl,e4,by rw [Aa];omega,hq,fun k H' s=>qE _ (q2x ex k1 k) _ (s14.trans s),fun k2 H5 s5=>?_⟩));have s15:=s14.trans s5;refine j0v (j1p GR hr j6e (j0a (ev_v 0 (j0c ⟨R,as,n,rfl,hR.same s15,hn,hti,hfew,fun k H' s=>qE _ (k67 ex k1 k2 k) _ (s15.trans s),fun k3 H6 s6=>?_⟩))));have s16:=s15.trans s6;obtain⟨e,he⟩:=ex;have e1:=he.1;refine j0r (j0t j7c (j0u GW hr (j0a (ev_v 0 (j0a (j1h (j0a (ev_v 1 (j0c ⟨(by show 1<=sizeLine;decide),fun C hC=>?_⟩)))))))));have s7:=j0e hC (.lst [.ref t]);have s17:=s16.trans s7;have hCs:CsAt (upd H6 C (.lst [.ref t])) C [t] [(p,j)]:=⟨j0b,rfl,fun i u d h1 h2=>by
  match i with
  | 0=>cases h1;cases h2;exact s17 _ _ ht
  | i+1=>simp at h1⟩
 refine j0a (ev_v 2 (j0c ⟨R,C,as,n,[t],[(p,j)],z,rfl,hR.same s17,hCs,by show 1<=2;omega,hn,hti,fun d hd r hr2 ed=>?_,fun L bs H8 s8 nL hnew hL=>?_⟩))
 ·rw [Ag.mp hd] at ed ⊢;have er:r=e.1:=j3o hN hr2 e1.1 (ed.trans he.2.1.symm);subst er;have h3:=he.2.2;have h4:=e1.2;have:(e.2:Int)<=((row n e.1).length:Int):=by omega
  show 0<=j/\j<=_;omega
 rw [q0f hN he n.length (Ah _),Cq (by rw [j1e];omega)] at hL;have s18:=s17.trans s8;refine j1h (j0a (j1n (j0a (ev_v 3 (j0a (j1h (j0a (ev_v 2 (j0c ⟨(by show 1<=sizeLine;decide),fun l hl=>j0c ⟨(by show 2<=sizeLine;decide),fun u hu=>j0c ⟨(by show 1<=sizeLine;decide),fun D hD=>?_⟩⟩⟩)))))))));have t1:=j0e hl (.lst [.str z]);have t2:=j0e hu (.tup [.str q,.ref l]);have t3:=j0e hD (.lst [.ref u]);have t13:=t1.trans (t2.trans t3);have hL3:=hL.same t13;have el:(upd (upd (upd H8 l (.lst [.str z])) u (.tup [.str q,.ref l])) D (.lst [.ref u])) l=some (Ls [z]):=t3 _ _ (t2 _ _ j0b);have eu:(upd (upd (upd H8 l (.lst [.str z])) u (.tup [.str q,.ref l])) D (.lst [.ref u])) u=some (.tup [.str q,.ref l]):=t3 _ _ j0b;have eD:(upd (upd (upd H8 l (.lst [.str z])) u (.tup [.str q,.ref l])) D (.lst [.ref u])) D=some (.lst [.ref u]):=j0b;have hu8:H8 u=none:=j0n t1 hu;generalize upd (upd (upd H8 l (.lst [.str z])) u (.tup [.str q,.ref l])) D (.lst [.ref u])=H9 at t13 hL3 el eu eD;have lb:=hL.len;rw [j1e] at lb;refine⟨L,D,_,_,rfl,rfl,hL3.lst,eD,?_,fun M hM=>?_⟩
 ·rw [Aa];show bs.length+1<=sizeLine;exact small (by omega)
 ·have s19:=s18.trans t13;refine qQ _ (j7q hN he k1 k2 k3) M (bs++[(u,l)]) _ (s19.trans (j0e hM _)) (j0n s19 hM) (fun a ha=>?_) (k8m hL3 eu el (fun k=>?_) hM) (q4k e1.1 hn hti)
  ·rcases At.mp ha with h | h
   ·exact⟨j0n s17 (hnew a h).1,j0n s17 (hnew a h).2⟩
   ·rw [Ag.mp h];exact⟨j0n s18 hu8,j0n s18 hl⟩
  ·obtain⟨a',ha',e'⟩:=Ak.mp k;exact hL.fresh hl ha' e'.symm
end
end R4
namespace Nt
open PySem L2
open Classical
theorem k7o{n:Net}(T:j04 n)(hg:Hang n)(h0:0 < n.length):Whl n:=q2b T hg h0 fun e z h=>Rt.step h (j3h h)
def k21(z:Str)(r:Str×List Str):Str×List Str:=(r.1,r.2.filter fun y=>decide (y≠z))
theorem k2h{n:Net}{c:End}{z:Str}:outN (ins n c z) z=outN n z:=by
 show(ins n c z).map (k21 z)=n.map (k21 z);apply Dx;intro i;unfold ins;rw [Ad,Ad,Dz]
 by_cases h:c.1=i
 ·cases hi:n[i]? with
  | none=>simp [h]
  | some r=>
   have e:(r.2.take c.2++z :: r.2.drop c.2).filter (fun y=>decide (y≠z))=r.2.filter fun y=>decide (y≠z):=by
    rw [Cd,Bk,if_neg (by simp),<- Cd,Cn]
   simp [h,k21]
   simpa using e
 ·simp [h]
theorem k4v{n:Net}{z:Str}(h:z∉ties n):outN n z=n:=by
 show n.map (k21 z)=n;have:∀ r∈n,k21 z r=r:=fun r hr=>by
  unfold k21;have e:r.2.filter (fun y=>decide (y≠z))=r.2:=by
   rw [List.filter_eq_self];intro y hy;refine decide_eq_true fun q=>h ?_;rw [<- q];exact Fs.mpr ⟨r,hr,hy⟩
  rw [e]
 exact(Fa this).trans (List.map_id' n)
theorem k1t{n:Net}{e g:End}{z:Str}(h:z∉ties n):outN (j0w n e g z) z=n:=by
 unfold j0w
 split <;> rw [k2h,k2h,k4v h]
theorem k1z{n m:Net}(T:j04 n){z:Str}(h:z∉ties n)(p:(ties m).Perm (z :: z :: ties n)):j04 m:=fun y hy=>by
 rw [p.count_eq]
 by_cases q:y=z
 ·subst q;rw [List.count_cons_self,List.count_cons_self,List.count_eq_zero_of_not_mem h]
 ·rw [List.count_cons_of_ne (fun k=>q k.symm),List.count_cons_of_ne (fun k=>q k.symm)];have:=p.mem_iff.mp hy
  rcases Ap.mp this with k | k
  ·exact absurd k q
  ·rcases Ap.mp k with k | k
   ·exact absurd k q
   ·exact T y k
theorem q4a{n m:Net}{z:Str}(p:(ties m).Perm (z :: z :: ties n)):z∈ties m:=p.mem_iff.mpr (Au ..)
theorem j4i{n:Net}(F:Full n){c:End}{z:Str}(hc:c.1 < n.length):Full (ins n c z):=by
 obtain⟨h1,h2⟩:=j5l (z:=z) F hc F.either;exact .inr ⟨h2,h1⟩
theorem k86{n:Net}(F:Full n){e g:End}{z:Str}(he:e.1 < n.length)(hg:g.1 < n.length):Full (j0w n e g z):=by
 unfold j0w
 split
 ·exact j4i (j4i F hg) (by rw [j1e];exact he)
 ·exact j4i (j4i F he) (by rw [j1e];exact hg)
theorem k3g{n:Net}{e g c:End}{z:Str}(he:e.1 < n.length)(hg:g.1 < n.length)(hc:j1t n c):j1t (j0w n e g z) c:=by
 unfold j0w
 split
 ·exact j2c (j2c hc hg) (by rw [j1e];exact he)
 ·exact j2c (j2c hc he) (by rw [j1e];exact hg)
theorem j9x{n m:Net}(h:n.map (·.1)=m.map (·.1))(i:Nat):nmA n i=nmA m i:=by
 unfold nmA;have:(n.map (·.1))[i]?=(m.map (·.1))[i]?:=by rw [h]
 rw [Ad,Ad] at this;rw [this]
def spk(n:Net)(e:End)(z q:Str):Net:=ins n e z++[(q,[z])]
section
variable{n:Net}{e:End}{z q:Str}
theorem k0x:(spk n e z q).length=n.length+1:=by unfold spk;rw [Af,j1e];rfl
theorem k73(he:e.1 < n.length):(ties (spk n e z q)).Perm (z :: z :: ties n):=by
 have e1:ties (spk n e z q)=ties (ins n e z)++[z]:=by unfold spk ties;rw [Dg];simp
 rw [e1];exact Do.trans ((j18 n e z he).cons z)
theorem k4k:(spk n e z q).map (·.1)=n.map (·.1)++[q]:=by unfold spk;rw [Ai,j2h];rfl
theorem k0j{i:Nat}(hi:i < n.length):row (spk n e z q) i=row (ins n e z) i:=by
 unfold row spk;rw [Ar (by rw [j1e];exact hi)]
theorem k2g:row (spk n e z q) n.length=[z]:=by
 unfold row spk;rw [Ay (by rw [j1e];exact Ah _),j1e,Nat.sub_self];rfl
theorem q55{i:Nat}(hi:i < n.length):nmA (spk n e z q) i=nmA n i:=by
 rw [<- j9x (j2h n e z) i];unfold nmA spk;rw [Ar (by rw [j1e];exact hi)]
theorem j7b(a:Nat):∀ k,((List.range k).filter fun r=>decide (r=a))=if a < k then [a] else []
 | 0=>rfl
 | k+1=>by
  rw [Db,Cd,j7b a k,Bk]
  by_cases h:k=a
  ·subst h;rw [if_neg (By _),if_pos (decide_eq_true rfl),if_pos (Ex _)];rfl
  ·have e:¬ decide (k=a)=true:=fun q=>h (of_decide_eq_true q)
   by_cases l:a < k
   ·rw [if_pos l,if_neg e,if_pos (by omega)];rfl
   ·rw [if_neg l,if_neg e,if_neg (by omega)];rfl
theorem q3l(hz:z∉ties n)(he:e.1 < n.length):hld (spk n e z q) z=[e.1,n.length]:=by
 unfold hld hldK;rw [k0x,Db,Cd];have e1:((List.range n.length).filter fun r=>decide (z∈row (spk n e z q) r))=(List.range n.length).filter fun r=>decide (r=e.1):=by
  refine List.filter_congr fun r hr=>decide_eq_decide.mpr ?_;have hrl:=Bj.mp hr;rw [k0j hrl,j1x n e z r he]
  by_cases c:e.1=r
  ·rw [if_pos c];exact⟨fun _=>c.symm,fun _=>by simp⟩
  ·rw [if_neg c];exact⟨fun k=>absurd (k6h hrl k) hz,fun k=>absurd k.symm c⟩
 rw [e1,j7b,if_pos he,Bk,if_pos (decide_eq_true (by rw [k2g];simp))];rfl
theorem k2b:∀{l:List Str} {k:Nat},z∉l->k<=l.length->ixOf (l.take k++z :: l.drop k) z=k
 | l,0,_,_=>by
  show ixOf (z :: l.drop 0) z=0;unfold ixOf;rw [if_pos rfl]
 | [],k+1,_,h=>by simp at h
 | y :: l,k+1,hz,h=>by
  show ixOf (y :: (l.take k++z :: l.drop k)) z=k+1;unfold ixOf;rw [if_neg (fun q=>hz (by rw [q];exact Au ..)),k2b (fun q=>hz (Ao _ q)) (by simpa using h)]
theorem k7y{l:List Str}{k:Nat}(hz:z∉l)(h:k<=l.length):j6u (l.take k++z :: l.drop k) [z] z=l:=by
 unfold j6u;have e0:ixOf [z] z=0:=by unfold ixOf;rw [if_pos rfl]
 have lt:(l.take k).length=k:=by rw [Bh];omega
 rw [k2b hz h,e0];have a:(l.take k++z :: l.drop k).take k=l.take k:=by
  rw [List.take_append_of_le_length (by omega),Cq (by omega)]
 have b:(l.take k++z :: l.drop k).drop (k+1)=l.drop k:=by
  rw [List.drop_append,Fl (by omega),lt,show k+1 - k=1 by omega];rfl
 rw [a,b];simp
theorem j54(hz:z∉ties n)(he:e.1 < n.length)(hc:e.2<=(row n e.1).length):outS (spk n e z q) z = .inr n:=by
 rw [k6w (q3l hz he)]
 congr 1
 unfold shr shrK;rw [k0x];have e1:((List.range (n.length+1)).filter fun r=>decide (r≠n.length))=List.range n.length:=by
  rw [Db,Cd,Bk,if_neg (by simp)];rw [List.filter_eq_self.mpr (fun r hr=>decide_eq_true (Bg (Bj.mp hr)))];simp
 rw [e1];apply Ez (by rw [Aa,Cw]);intro i h1 h2;rw [Ct,Du];unfold shrR;have e2:(if i=e.1 then j6u (row (spk n e z q) e.1) (row (spk n e z q) n.length) z else row (spk n e z q) i)=row n i:=by
  by_cases c:i=e.1
  ·subst c;rw [if_pos rfl,k0j he,k2g,j1x n e z e.1 he,if_pos rfl];exact k7y (fun k=>hz (k6h he k)) hc
  ·rw [if_neg c,k0j h2,j1x n e z i he,if_neg (fun k=>c k.symm)]
 rw [e2,q55 h2,j13 h2,j3f h2]
end
def xnm(k:Nat):Str:=("x" : Str)++Str.ofString (toString ((k:Nat):Int))
theorem q5l:∀ i:Fin 70,isNm (xnm i.1)=true/\(xnm i.1).length<=8:=by decide +kernel
theorem q4n:∀ i:Fin 70,∀ j:Fin 70,xnm i.1=xnm j.1->i=j:=by decide +kernel
def xnms(m:Nat):List Str:=(List.range m).map xnm
theorem j65:(xnms 70).Nodup:=by
 unfold xnms;refine List.Pairwise.map _ (R:=fun i j=>i < j/\j < 70) ?_ ?_
 ·rintro i j ⟨h1,h2⟩ e;have:=q4n ⟨i,by omega⟩ ⟨j,h2⟩ e;have:=congrArg Fin.val this;have:i=j:=this;omega
 ·rw [Bf];intro i j hi hj hij;simp only [Du];simp at hj;exact⟨hij,hj⟩
def j38(us:List Str)(m:Nat):List Str:=(xnms m).filter fun z=>decide (z∉us)
theorem k1v{α:Type}(p:α->Bool):∀ l:List α,l.length=(l.filter p).length+(l.filter fun z=>!p z).length
 | []=>rfl
 | a :: l=>by
  have:=k1v p l;rw [Bk,Bk,An];cases p a with
  | true=>simp;omega
  | false=>simp;omega
theorem k27{us:List Str}(h:us.length<=60):∃ a b c r,j38 us 70=a :: b :: c :: r:=by
 have l1:(xnms 70).length=70:=by unfold xnms;simp
 have l2:((xnms 70).filter fun z=>decide (z∈us)).length<=us.length:=nodup_le (List.Pairwise.filter _ j65) fun z hz=>of_decide_eq_true (Cf.mp hz).2;have l3:=k1v (fun z=>decide (z∈us)) (xnms 70);have e:((xnms 70).filter fun z=>!decide (z∈us))=j38 us 70:=List.filter_congr fun z _=>by simp
 rw [e] at l3
 match hf:j38 us 70 with
 | []=>rw [hf] at l3;simp at l3;omega
 | [_]=>rw [hf] at l3;simp at l3;omega
 | [_,_]=>rw [hf] at l3;simp at l3;omega
 | a :: b :: c :: r=>exact⟨a,b,c,r,rfl⟩
theorem k02{us:List Str}{z:Str}(h:z∈j38 us 70):z∉us/\isNm z=true/\z.length<=8:=by
 obtain⟨h1,h2⟩:=Cf.mp h;unfold xnms at h1;obtain⟨k,hk,rfl⟩:=Ak.mp h1;have:=q5l ⟨k,Bj.mp hk⟩;exact⟨of_decide_eq_true h2,this.1,this.2⟩
theorem k2z{us:List Str}:(j38 us 70).Nodup:=List.Pairwise.filter _ j65
end Nt
namespace L2
open PySem PySem.Spec PyProof.Rows
section
variable{X:Cx}{σ:St}{H:Hp}{Q:VK}
theorem j86:j2z X (.type "str") (fun xs H Q=>∃ i:Int,xs=[.int i]/\i.natAbs.log2 < 1920/\Q (.str (Str.ofString (toString i))) H):=by
 intro pins s σ H xs us Q I r h;obtain⟨i,rfl,hd,q⟩:=h;obtain⟨u,rfl,ru⟩:=vals1 r;obtain⟨t,rfl⟩:=ru;exact PySem.P.str_of_int hd ⟨.str _,H,I.tok _,⟨_,rfl⟩,q⟩
end
section
variable{X:Cx}{elt tg:Expr}{ifs:List Expr}{scope:Scope}{σ:St}{H:Hp}{N':List Str}{A a:Addr}{xs:List V}{after:Hp->Prop}
end
end L2
namespace R4
open PySem L2 Nt Sort2 SetT
open PyProof.Rows (sortedS)
open Classical
def k74(K:PySem.W.Frag):Sp:=fun vs H Q _=>∃(a:Addr) (ns:List Int),vs=[.ref a]/\SqL K H a (ns.map V.int)/\ns.length<=63/\∀ H',Q (.bl true) H'
theorem k0a{X:Cx}{P:Program}{w:World}:j4h (XF P w) X (fun _ _ _=>False):=fun _ _ _ _ _ _ _ h=>by
 obtain⟨_,_,_,_,_,h,_⟩:=h;exact h.elim
theorem nmK{n:Net}{i:Nat}(hi:i < n.length):(n.take (i+1)).map (·.1)=(n.take i).map (·.1)++[n[i].1]:=by
 rw [Bt,Ab hi,Ai];rfl
theorem j87(us:List Str)(k:Nat):j38 us (k+1)=j38 us k++(if xnm k∉us then [xnm k] else []):=by
 unfold j38 xnms;rw [Db,Ai,Cd];show _++([xnm k].filter _)=_;rw [Bk]
 by_cases h:xnm k∉us
 ·rw [if_pos (decide_eq_true h),if_pos h];rfl
 ·rw [if_neg (fun q=>h (of_decide_eq_true q)),if_neg h];rfl
theorem k7c(us:List Str)(k:Nat):(j38 us k).length<=k:=by
 unfold j38 xnms;exact Bv (Ch ..) (by simp)
theorem j4d{n:Net}(h:(ties n).length<=60):Few n:=fun zs h1 h2=>by
 have:=nodup_le h1 h2;omega
theorem q5z{n:Net}(T:j04 n)(h:(ties n).length<=60):¬ j5c n:=fun⟨ss,h1,h2,h3⟩=>by
 have:=k2i T h1 fun z hz=>(h2 z).mp hz;omega
theorem inlr{x:Str}{m:Net}{o:Out}(h:o = .inr m):o = .inl x->False:=fun k=>by rw [h] at k;cases k
section
variable{P:Program}{w:World}{K:PySem.W.Frag}{mg:Str->Option Value}{base:Heap}
abbrev NW:List Str:=["_law_script","_law_rows","_law_corners","_law_r","_law_place","_law_one","_law_face_here","_law_far","_law_used","_law_names_here","_law_near","_law_other_here","_law_put_here","_law_spike","_law_both"]
abbrev NWr:List Str:=["_law_script","_law_rows","_law_corners","_law_r","_law_place","_law_one","_law_face_here","_law_far","_law_used","_law_names_here","_law_near","_law_other_here","_law_put_here","_law_spike","_law_both","_law_row"]
abbrev NWk:List Str:=["_law_script","_law_rows","_law_corners","_law_r","_law_place","_law_one","_law_face_here","_law_far","_law_used","_law_names_here","_law_near","_law_other_here","_law_put_here","_law_spike","_law_both","_law_k"]
theorem scLaw:FnScope NW ["_law_script"] (j0g sLaw):=⟨rfl,rfl,rfl,by decide +kernel,rfl,by decide +kernel,by decide +kernel⟩
theorem q7d:NWr.Nodup:=by decide +kernel
theorem q72:NWk.Nodup:=by decide +kernel
theorem q5w{f:Addr}{fd:FuncData}{c:Str->Addr}(F:Fun K "law" "law" sLaw f fd)(T:Txt mg)(cl:Cl K mg c)
  (GC:Has P w K mg base 6 "_law_cell_at" ["_law_script","_law_k"] (k1h K)) (GB:Has P w K mg base 6 "_law_big" ["_law_script","_law_at"] (q13 K))
  (GN:Has P w K mg base 6 "_law_net_by" ["_law_big_here","_law_most","_law_stem"] q2f) (GY:Has P w K mg base 6 "_law_copy" ["_law_rows"] k6e)
  (GT:Has P w K mg base 6 "_law_ties" ["_law_rows"] spTs) (GS:Has P w K mg base 6 "_law_seats" ["_law_rows"] j7u) (GF:Has P w K mg base 6 "_law_face" ["_law_rows","_law_seats_here","_law_end"] k1p)
  (GM:Has P w K mg base 6 "_law_same" ["_law_told","_law_due"] k4m) (GX:HasX P w K mg base 6 "tied" ["rows","one","other","tie"] (k6d c)) (GI:HasX P w K mg base 6 "spiked" ["rows","one","tie","point"] (q3k c))
  (GO:HasX P w K mg base 6 "taken_out" ["rows","tie"] (j7d c outO)) (GU:HasX P w K mg base 6 "shrunk" ["rows","tie"] (j7d c outS)) :
  FnOk P w K mg base CX0 7 f fd ["_law_script"] (k74 K):=by
 refine F.gb scLaw (fun vs H Q E h=>?_) (fun b0 H vs Q E hr h=>?_)
 ·obtain⟨a,ns,rfl,_⟩:=h;rfl
 obtain⟨a,ns,rfl,hS,h63,q⟩:=h;have nd:=scLaw.nd;have hu:=hr.u100;show Run _ _ _ [some (.ref a),none,none,none,none,none,none,none,none,none,none,none,none,none,none] H;refine j0j 1 nd (j0u GN hr (j0a (j0u GB hr (j0a (ev_v 0 (j0a (j0h (j0c ⟨a,ns,1,rfl,hS,by decide,fun b H1 s1=>?_⟩))))))));refine j0a (j0h (j0a (j0t j1i (j0u GC hr (j0a (ev_v 0 (j0a (j0h (j0c ⟨a,ns,0,rfl,s1.seq hS,by decide,fun c0=>?_⟩)))))))));refine j0t k48 (j0h (j0h ⟨_,_,rfl,rfl,⟨by decide,by decide,by decide⟩,_,_,rfl,rfl,(by show(0:Int) < 10 ^ (18:Int).toNat;decide),?_⟩));refine j0c ⟨_,24,_,rfl,by decide,by decide,fun R as n H2 s2 n2 hR hT hN hF hHg hti hnl has hsh=>?_⟩;have e24:((24:Int)).toNat=24:=rfl;rw [e24] at hti hnl;have sS:=s1.trans s2;have hal:=hR.len;have hn0:0 < n.length:=Co.mpr hF.some;show Run _ _ _ [some (.ref a),some (.ref R),none,none,none,none,none,none,none,none,none,none,none,none,none] H2;refine j0j 2 nd (j1h (j0c ⟨(by show 0<=sizeLine;decide),fun lc hlc=>?_⟩));have g0:=j0e hlc (.lst []);refine j1q T.range (j0y j0l T.len boot_len (j0a (ev_v 1 (j0c ⟨R,_,rfl,.inl (SqL.of (g0 _ _ hR.lst)),_,rfl,by omega,by rw [Aa];omega,?_⟩))));rw [Aa,hal,Bd];refine j1j (fun r σ H3=>∃(ts:List Addr) (cs:List Nt.End) (u1 u2:Option V),Same H2 H3/\H3 lc=some (.lst (ts.map V.ref))/\Pd H3 ts cs/\(∀ c∈cs,j1t n c)/\(0 < r->cs≠[])/\cs.length<=101 * r/\σ=[some (.ref a),some (.ref R),some (.ref lc),u1,u2,none,none,none,none,none,none,none,none,none,none]) ⟨[],[],_,_,g0,j0b,.nil,fun c hc=>(nomatch hc),fun h=>by omega,Ah _,rfl⟩ ?_ ?_
 ·rintro r σ H3 hi ⟨ts,cs,u1,u2,sH,el,ep,hc,hne,hlen,rfl⟩;rw [De];refine j0k 3 nd ?_;obtain⟨x,ea,eat,et,ell,er⟩:=(hR.same sH).at hi;have hrl:=j28 n r;refine j1q T.range (j0y (j55 rfl) T.max PyProof.Rows.boot_max (j0a (j0h (j0a (j0y j0l T.len boot_len (j0a (j0q j0x (j0q j0s (ev_v 1 (ev_v 3 ⟨R,_,_,.ref x.1,rfl,rfl,SqL.of (sH _ _ hR.lst),eat,j0h ⟨x.1,_,_,.ref x.2,rfl,rfl,SqT.of et,rfl,j0c ⟨x.2,_,rfl,.inl (SqL.of ell),?_⟩⟩⟩))))))))));rw [Aa];have em:(if((row n r).length:Int) > 1 then((row n r).length:Int) else 1)=((max 1 (row n r).length:Nat):Int):=by
   split <;> omega
  refine j0c ⟨1,_,rfl,((max 1 (row n r).length:Nat):Int),by rw [em],by omega,by omega,?_⟩;rw [Bd];refine j1j (fun p σ H4=>∃(ts:List Addr) (cs:List Nt.End) (u2:Option V),Same H2 H4/\H4 lc=some (.lst (ts.map V.ref))/\Pd H4 ts cs/\(∀ c∈cs,j1t n c)/\(0 < r+p->cs≠[])/\cs.length<=101 * r+p/\σ=[some (.ref a),some (.ref R),some (.ref lc),some (.int (r:Int)),u2,none,none,none,none,none,none,none,none,none,none]) ⟨ts,cs,_,sH,el,ep,hc,fun h=>hne (by omega),by omega,rfl⟩ ?_ ?_
  ·rintro p σ H4 hp ⟨ts,cs,u2,sH,el,ep,hc,hne,hlen,rfl⟩;rw [De];refine j0k 4 nd ?_;refine j0v (j1r (ev_v 2 ⟨lc,rfl,⟨_,el⟩,j1n (j0a (ev_v 3 (j0a (ev_v 4 (j0c ⟨(by show 2<=sizeLine;decide),fun t ht=>?_⟩)))))⟩));have htl:lc≠t:=j0f el ht;have s2:=j0e ht (Tp (r,p));have epl:=ep.length;refine⟨ts.map V.ref,by rw [j0d htl];exact el,by rw [Aa];exact j00 (by omega),?_⟩;refine j0i ⟨ts++[t],cs++[(r,p)],_,j02 (sH.trans s2) hlc,by rw [j0b,Ai];rfl,?_,fun c h=>?_,fun _=>by simp,by rw [Af];simp;omega,rfl⟩
   ·refine Pd.append (ep.keep fun x e h=>?_) (.cons ?_ .nil)
    ·rw [j0d (j27 h el)];exact s2 _ _ h
    ·rw [j0d htl.symm,j0b]
   ·rcases At.mp h with h | h
    ·exact hc c h
    ·rw [Ag] at h;subst h;exact⟨hi,hp⟩
  ·rintro σ H4 ⟨ts,cs,u2,sH,el,ep,hc,hne,hlen,rfl⟩;exact j0i ⟨ts,cs,_,_,sH,el,ep,hc,fun _=>hne (by omega),by omega,rfl⟩
 rintro σ H3 ⟨ts,cs,u1,u2,sH,el,ep,hc,hne,hlen,rfl⟩;have cne:=hne hn0;have cpos:0 < cs.length:=Co.mpr cne;have epl:=ep.length;refine j0j 5 nd (j0q j0s (ev_v 2 (j0t j1i (j0u GB hr (j0a (ev_v 0 (j0a (j0h (j0c ⟨a,ns,2,rfl,(sS.trans sH).seq hS,by decide,fun b H4 s4=>?_⟩)))))))));have m0:0<=b % (cs.length:Int):=Bo _ (by omega);have m1:b % (cs.length:Int) < cs.length:=Br _ (by omega);obtain⟨j,hj⟩:∃ j:Nat,b % (cs.length:Int)=j:=⟨(b % (cs.length:Int)).toNat,by omega⟩;have hjl:j < cs.length:=by omega
 obtain⟨t1,et1,e1⟩:=ep.at (Ab hjl);have hcc:j1t n cs[j]:=hc _ (Cc hjl);generalize cs[j]=c1 at e1 hcc;have el4:=s4 _ _ el;refine j0y j0l T.len boot_len (j0a (ev_v 2 (j0c ⟨lc,_,rfl,.inl (SqL.of el4),?_⟩)));rw [Aa,epl];refine⟨_,_,rfl,rfl,by omega,lc,_,_,.ref t1,rfl,rfl,SqL.of el4,by rw [hj];exact j7l et1,?_⟩;have sH4:=sH.trans s4;have e14:=s4 _ _ e1;have hR3:=hR.same sH4;clear hne;show Run _ _ _ [some (.ref a),some (.ref R),some (.ref lc),u1,u2,some (.ref t1),none,none,none,none,none,none,none,none,none] H4;refine j0j 6 nd (j1h (j0a (ev_v 5 (j0c ⟨(by show 1<=sizeLine;decide),fun lf hlf=>?_⟩))));have t4:=j0e hlf (.lst [.ref t1]);have hR4:=hR3.same t4;obtain⟨a0,ea0,eat0,et0,el0,er0⟩:=hR4.at hn0;show Run _ _ _ [some (.ref a),some (.ref R),some (.ref lc),u1,u2,some (.ref t1),some (.ref lf),none,none,none,none,none,none,none,none] (upd H4 lf (.lst [.ref t1]));refine j6o (fun k H'=>Same (upd H4 lf (.lst [.ref t1])) H'/\(k=true->row n 0≠[])) (fun σ' H'=>∃(lf:Addr) (ts2:List Addr) (fs:List Nt.End),Same H4 H'/\H' lf=some (.lst (ts2.map V.ref))/\Pd H' ts2 fs/\0 < fs.length/\fs.length<=1000/\(∀ c∈fs,j1t n c/\OneF n c1 c) /\
   σ'=[some (.ref a),some (.ref R),some (.ref lc),u1,u2,some (.ref t1),some (.ref lf),none,none,none,none,none,none,none,none]) ?_ ?_ (fun H5 ⟨s5,_⟩=>j0i ⟨lf,[t1],[c1],t4.trans s5,s5 _ _ j0b,.cons (s5 _ _ (t4 _ _ e14)) .nil,Ft,by show 1<=1000;decide,fun c hcm=>by rw [Ag] at hcm;rw [hcm];exact⟨hcc,.inl rfl⟩,rfl⟩) ?_
 ·refine j09 (j5w hu) (j0q j0x (j0q j0s (ev_v 1 (j0h ⟨R,_,_,.ref a0.1,rfl,rfl,SqL.of hR4.lst,eat0,j0h ⟨a0.1,_,_,.ref a0.2,rfl,rfl,SqT.of et0,rfl,j1h (j0c ⟨(by show 0<=sizeLine;decide),fun p hp=>?_⟩)⟩⟩))));have s5:=j0e hp (.lst [])
  by_cases h0:row n 0=[]
  ·refine⟨1,_,by decide,j5h (k:=0) (xs:=[]) (ys:=[]) (fun _=>true) (SqL.of (by rw [s5 _ _ el0,h0];rfl)) (SqL.of j0b) rfl (fun j x y hx _=>by simp at hx),_,rfl,s5,fun h=>by cases h⟩
  ·refine⟨1,_,by decide,j7s (k:=1) (SqL.of (s5 _ _ el0)) (SqL.of (xs:=[]) j0b) (by rw [Aa];intro h;exact h0 (Be.mp h)),_,rfl,s5,fun _=>h0⟩
 ·rintro H5 ⟨s45,h0⟩;have h0:=h0 rfl;have hR4:=hR4.same s45;have he1:=hF.corner h0 hcc;have hel:=j4m n;refine j0j 6 nd (j0u GF hr (j0a (ev_v 1 (j0a (j0u GS hr (j0a (ev_v 1 (j0c ⟨R,as,n,rfl,hR4,by omega,by omega,fun d ks H6 s6 n6 S6=>?_⟩))))))));refine j0a (ev_v 5 (j0c ⟨R,d,t1,as,n,ks,c1,rfl,hR4.same s6,S6,hT,s6 _ _ (s45 _ _ (t4 _ _ e14)),he1,by omega,fun l7 ts7 fs7 H7 s7 n7 e7 p7 f7=>?_⟩));exact j0i ⟨l7,ts7,fs7,t4.trans (s45.trans (s6.trans s7)),e7,p7,f7.pos,by have:=f7.len;omega,fun c hcm=>⟨j4k (f7.ends hT he1 c hcm),.inr (by rw [<- f7.eq];exact hcm)⟩,rfl⟩
 rintro σ' H5 ⟨lf,ts2,fs,s5,elf,epf,fpos,flen,fcor,rfl⟩;have epl2:=epf.length;refine j0j 7 nd (j0q j0s (ev_v 6 (j0t j1i (j0u GB hr (j0a (ev_v 0 (j0a (j0h (j0c ⟨a,ns,3,rfl,(sS.trans (sH4.trans s5)).seq hS,by decide,fun b3 H6 s6=>?_⟩)))))))));have n0:0<=b3 % (fs.length:Int):=Bo _ (by omega);have n1:b3 % (fs.length:Int) < fs.length:=Br _ (by omega);obtain⟨j2,hj2⟩:∃ j:Nat,b3 % (fs.length:Int)=j:=⟨(b3 % (fs.length:Int)).toNat,by omega⟩;have hjl2:j2 < fs.length:=by omega
 obtain⟨t2,et2,e2⟩:=epf.at (Ab hjl2);obtain⟨hcc2,one⟩:=fcor _ (Cc hjl2);generalize fs[j2]=c2 at e2 hcc2 one;have elf6:=s6 _ _ elf;refine j0y j0l T.len boot_len (j0a (ev_v 6 (j0c ⟨lf,_,rfl,.inl (SqL.of elf6),?_⟩)));rw [Aa,epl2];refine⟨_,_,rfl,rfl,by omega,lf,_,_,.ref t2,rfl,rfl,SqL.of elf6,by rw [hj2];exact j7l et2,?_⟩;have s26:=sH4.trans (s5.trans s6);have e16:=(s5.trans s6) _ _ e14;have e26:=s6 _ _ e2;have hR6:=hR.same s26;show Run _ _ _ [some (.ref a),some (.ref R),some (.ref lc),u1,u2,some (.ref t1),some (.ref lf),some (.ref t2),none,none,none,none,none,none,none] H6;generalize some (V.ref lf)=v6;refine j0j 8 nd (j0t j7c (j0u GT hr (j0a (ev_v 1 (j0c ⟨R,as,n,rfl,hR6,by omega,by omega,j4d (by omega),fun Ln ss H7 s7 n7 e7 snd so mem=>?_⟩)))));have hR7:=hR6.same s7;have lss:=j4d (n:=n) (by omega) ss snd fun y hy=>(mem y).mp hy;refine j3a (j0g sLaw) NW NWr 1 (j1u j05) (ev_v 1 ⟨R,rfl,⟨_,SqL.of hR7.lst⟩,fun D hD=>?_⟩);refine j1o (xs:=as.map fun a=>V.ref a.1) (fun i σ' H'=>(∃ v,σ'=[some (.ref a),some (.ref R),some (.ref lc),u1,u2,some (.ref t1),v6,some (.ref t2),none,none,none,none,none,none,none]++[v])/\Same H7 H'/\H' D=some (Ls ((n.take i).map (·.1)))) ⟨⟨none,rfl⟩,j0e hD _,j0b⟩ ?_ ?_ ?_
 ·rintro i σ' H' _ ⟨_,sm,_⟩;exact SqL.of (sm _ _ hR7.lst)
 ·rintro i x σ' H' hx ⟨⟨v,rfl⟩,sm,eD⟩;have hi:i < n.length:=by
   have:=(Ac.mp hx).1;rw [Aa] at this;omega
  obtain⟨b,eb,ebt,et,el,er⟩:=(hR7.same sm).at hi;rw [Ad,eb] at hx;cases hx;intro cl' C' s₀ H₀ ex;refine j0k 15 q7d ?_;intro cl' C' s₀ H₀ ex;refine j2v (iteT ?_);intro cl' C' s₀ H₀ ex;refine j0q j0x (ev_v 15 (j0h ⟨b.1,_,_,.str n[i].1,rfl,rfl,SqT.of et,rfl,_,eD,?_,⟨_,rfl⟩,j02 sm hD,?_⟩))
  ·rw [Aa,Aa,Bh];exact j00 (by omega)
  ·rw [j0b,nmK hi];show _=some (HO.lst (List.map V.str (_++_)));rw [Ai];rfl
 rintro σ' H8 ⟨_,s8,eD⟩;rw [Aa,hal,Bp] at eD;have lnm:(n.map (·.1)).length=n.length:=Aa ..;have lus:ss.length<=24:=by
  have:=k2i hT snd fun z hz=>(mem z).mp hz;omega
 refine j5e (s8 _ _ e7) eD (by omega) fun U hU=>?_;have s9:=j0e hU (Ls (ss++n.map (·.1)));have eU:(upd H8 U (Ls (ss++n.map (·.1)))) U=some (Ls (ss++n.map (·.1))):=j0b;show Run _ _ _ [some (.ref a),some (.ref R),some (.ref lc),u1,u2,some (.ref t1),v6,some (.ref t2),some (.ref U),none,none,none,none,none,none] (upd H8 U (Ls (ss++n.map (·.1))));have lU:(ss++n.map (·.1)).length<=60:=by rw [Af];omega
 have s69:=s7.trans (s8.trans s9);generalize upd H8 U (Ls (ss++n.map (·.1)))=H9 at s69 eU;have inT:∀{z:Str},z∉ss++n.map (·.1)->z∉ties n/\z∉n.map (·.1):=fun{z} hz=>⟨fun k=>hz (Bs _ ((mem z).mpr k)),fun k=>hz (As _ k)⟩;generalize ss++n.map (·.1)=us at eU lU inT;refine j5i 9 (j0g sLaw) NW NWk 1 nd (j6m rfl T.range j4u) (j0a (j0h (j0c ⟨_,rfl,by omega,by omega,fun N hN'=>?_⟩)));refine k7k (n:=70) (fun i σ' H'=>(∃ v,σ'=[some (.ref a),some (.ref R),some (.ref lc),u1,u2,some (.ref t1),v6,some (.ref t2),some (.ref U),none,none,none,none,none,none]++[v])/\Same H9 H'/\H' N=some (Ls (j38 us i))) ⟨⟨_,rfl⟩,j0e hN' _,j0b⟩ ?_ ?_
 ·rintro i σ' H' hi ⟨⟨v,rfl⟩,sm,eN⟩;rw [De];have l2:((i:Int)).natAbs.log2 < 1920:=by
   have h2:((i:Int)).natAbs < 2 ^ 10:=by omega
   by_cases z:((i:Int)).natAbs=0
   ·rw [z];decide
   ·have:=(Nat.log2_lt (k:=10) z).mpr h2;omega
  have xl:=(q5l ⟨i,hi⟩).2;have xl:(xnm i).length<=8:=xl;have xl2:("x" : Str).length+(Str.ofString (toString ((i:Nat):Int))).length<=8:=by unfold xnm at xl;rw [len_app] at xl;exact xl
  intro cl' C' s₀ H₀ ex;refine j0k 15 q72 ?_;intro cl' C' s₀ H₀ ex;refine j83 (j09 j42 (j0t j4v (j25 (j34 j86 T.tstr PyProof.Rows.boot_str (j0a (ev_v 15 (j0c ⟨_,rfl,l2,_,_,rfl,rfl,small (by omega),ev_v 8 ⟨U,_,rfl,.inl (SqL.of (sm _ _ eU)),rfl,j3n _,_,rfl,?_⟩⟩)))))));rw [if_pos rfl,j5m,j2u];show if(!decide (xnm i∈us))=true then _ else _
  by_cases hx:xnm i∈us
  ·have fs:j38 us (i+1)=j38 us i:=by rw [j87,if_neg (fun k=>k hx),Ba]
   rw [decide_eq_true hx,fs];exact iteF ⟨⟨_,rfl⟩,sm,eN⟩
  ·have fs:j38 us (i+1)=j38 us i++[xnm i]:=by rw [j87,if_pos hx]
   rw [decide_eq_false hx,fs];refine iteT ?_;intro cl' C' s₀ H₀ ex;have fl:=k7c us i;refine j0t j4v (j25 (j34 j86 T.tstr PyProof.Rows.boot_str (j0a (ev_v 15 (j0c ⟨_,rfl,l2,_,_,rfl,rfl,small (by omega),_,eN,by rw [Aa];exact j00 (by omega),⟨_,rfl⟩,j02 sm hN',?_⟩)))));rw [j0b];show _=some (HO.lst (List.map V.str (_++_)));rw [Ai];rfl
 rintro σ' H10 ⟨_,s10,eN⟩;obtain⟨z0,z1,z2,rest,hfree⟩:=k27 lU;have fnd:=k2z (us:=us);have f0:=k02 (us:=us) (z:=z0) (by rw [hfree];simp);have f1:=k02 (us:=us) (z:=z1) (by rw [hfree];simp);have f2:=k02 (us:=us) (z:=z2) (by rw [hfree];simp);rw [hfree] at fnd eN;have zA0:atI ((z0 :: z1 :: z2 :: rest).map V.str) (0:Int)=some (.str z0):=j40 (j:=0) rfl;have zA1:atI ((z0 :: z1 :: z2 :: rest).map V.str) (1:Int)=some (.str z1):=j40 (j:=1) rfl;have zA2:atI ((z0 :: z1 :: z2 :: rest).map V.str) (2:Int)=some (.str z2):=j40 (j:=2) rfl;have z01:z0≠z1:=fun k=>by rw [k] at fnd;simp at fnd
 have z0t:=inT f0.1;have z1t:=inT f1.1;have z2t:=inT f2.1;have s6A:=s69.trans s10;have hRA:=hR6.same s6A;have e1A:=s6A _ _ e16;have e2A:=s6A _ _ e26;show Run _ _ _ [some (.ref a),some (.ref R),some (.ref lc),u1,u2,some (.ref t1),v6,some (.ref t2),some (.ref U),some (.ref N),none,none,none,none,none] H10;obtain⟨x1,ex1,ext1,xt1,xl1,xr1⟩:=hRA.at hcc.1;rw [<- j13 hcc.1] at xt1;refine j0j 10 nd (j1n (j0a (j0q j0x (j0q j0s (ev_v 1 (j0q j0x (ev_v 5 (j0h ⟨t1,_,_,.int (c1.1:Int),rfl,rfl,SqT.of e1A,rfl,R,_,_,.ref x1.1,rfl,rfl,SqL.of hRA.lst,ext1,j0h ⟨x1.1,_,_,.str (nmA n c1.1),rfl,rfl,SqT.of xt1,rfl,j0a (j0q j0x (ev_v 5 (j0h ⟨t1,_,_,.int (c1.2:Int),rfl,rfl,SqT.of e1A,rfl,j0c ⟨(by show 2<=sizeLine;decide),fun p1 hp1=>?_⟩⟩)))⟩⟩))))))));have sB:=j0e hp1 (Tn (nmA n c1.1) (c1.2:Int));have ep1:(upd H10 p1 (Tn (nmA n c1.1) (c1.2:Int))) p1=some (Tn (nmA n c1.1) (c1.2:Int)):=j0b;have hRB:=hRA.same sB;have e2B:=sB _ _ e2A;have eNB:=sB _ _ eN;show Run _ _ _ [some (.ref a),some (.ref R),some (.ref lc),u1,u2,some (.ref t1),v6,some (.ref t2),some (.ref U),some (.ref N),some (.ref p1),none,none,none,none] (upd H10 p1 (Tn (nmA n c1.1) (c1.2:Int)));generalize upd H10 p1 (Tn (nmA n c1.1) (c1.2:Int))=HB at sB ep1 hRB e2B eNB;obtain⟨x2,ex2,ext2,xt2,xl2,xr2⟩:=hRB.at hcc2.1;rw [<- j13 hcc2.1] at xt2;refine j0j 11 nd (j1n (j0a (j0q j0x (j0q j0s (ev_v 1 (j0q j0x (ev_v 7 (j0h ⟨t2,_,_,.int (c2.1:Int),rfl,rfl,SqT.of e2B,rfl,R,_,_,.ref x2.1,rfl,rfl,SqL.of hRB.lst,ext2,j0h ⟨x2.1,_,_,.str (nmA n c2.1),rfl,rfl,SqT.of xt2,rfl,j0a (j0q j0x (ev_v 7 (j0h ⟨t2,_,_,.int (c2.2:Int),rfl,rfl,SqT.of e2B,rfl,j0c ⟨(by show 2<=sizeLine;decide),fun p2 hp2=>?_⟩⟩)))⟩⟩))))))));have sC:=j0e hp2 (Tn (nmA n c2.1) (c2.2:Int));have ep2:(upd HB p2 (Tn (nmA n c2.1) (c2.2:Int))) p2=some (Tn (nmA n c2.1) (c2.2:Int)):=j0b;have hRC:=hRB.same sC;have ep1C:=sC _ _ ep1;have eNC:=sC _ _ eNB;show Run _ _ _ [some (.ref a),some (.ref R),some (.ref lc),u1,u2,some (.ref t1),v6,some (.ref t2),some (.ref U),some (.ref N),some (.ref p1),some (.ref p2),none,none,none] (upd HB p2 (Tn (nmA n c2.1) (c2.2:Int)));generalize upd HB p2 (Tn (nmA n c2.1) (c2.2:Int))=HC at sC ep2 hRC ep1C eNC;generalize some (V.ref lc)=v2;generalize some (V.ref U)=v8;have aC1:AtC n (nmA n c1.1) (c1.2:Int) c1:=⟨hcc,rfl,rfl⟩;have aC2:AtC n (nmA n c2.1) (c2.2:Int) c2:=⟨hcc2,rfl,rfl⟩;have n40:=q5z hT (by omega:(ties n).length<=60);have nm0:¬(z0∈ties n\/isNm z0=false):=fun k=>k.elim z0t.1 fun k=>by rw [f0.2.1] at k;cases k
 have out1:=k1a hN aC1 aC2 one nm0 n40;have cin:c1.2<=(row n c1.1).length:=by have:=hcc.2;omega
 refine j0j 12 nd (j1p GX hr k0a (j0a (j0u GY hr (j0a (ev_v 1 (j0c ⟨R,as,n,rfl,hRC,by omega,fun M cs HD sD nD fD hM=>?_⟩))))));refine j0a (ev_v 10 (j0a (ev_v 11 (j0a (j0q j0s (ev_v 9 (j0h ⟨N,_,_,.str z0,rfl,rfl,SqL.of (sD _ _ eNC),zA0,?_⟩)))))));refine j0c ⟨M,p1,p2,cs,n,_,_,_,_,z0,rfl,hM,hN,hT,hF,by omega,by omega,j4d (by omega),sD _ _ ep1C,sD _ _ ep2,by omega,fun x hx=>(inlr out1 hx).elim,fun m hm L bs HE sE nE fE hL _=>?_⟩;obtain rfl:j0w n c1 c2 z0=m:=Sum.inr.inj (out1.symm.trans hm);have sCE:=sD.trans sE;have hRE:=hRC.same sCE;have eNE:=sCE _ _ eNC;have ep1E:=sCE _ _ ep1C;have pm:=j6n (z:=z0) hcc.1 hcc2.1;have lm:=pm.length_eq;rw [An,An] at lm;have hTm:=k1z hT z0t.1 pm;have hNm:((j0w n c1 c2 z0).map (·.1)).Nodup:=by rw [j2y];exact hN
 have lmn:(j0w n c1 c2 z0).length=n.length:=j4s;have back:outO (j0w n c1 c2 z0) z0 = .inr n:=by
  have h:=k08 (n:=j0w n c1 c2 z0) (q4a pm) (by rw [k1t z0t.1];exact k7o hT hHg hn0);rw [k1t z0t.1] at h;exact h
 show Run _ _ _ [some (.ref a),some (.ref R),v2,u1,u2,some (.ref t1),v6,some (.ref t2),v8,some (.ref N),some (.ref p1),some (.ref p2),some (.ref L),none,none] HE;refine j11 (j3l (j32 (j0u GM hr (j0a (j1p GO hr k0a (j0a (ev_v 12 (j0a (j0q j0s (ev_v 9 (j0h ⟨N,_,_,.str z0,rfl,rfl,SqL.of eNE,zA0,?_⟩)))))))))));refine j0c ⟨L,bs,_,z0,rfl,hL,hTm,hNm,by omega,by omega,j4d (by omega),fun x hx=>(inlr back hx).elim,fun m hm L2 bs2 HF sF nF fF hL2 _=>?_⟩;obtain rfl:n=m:=Sum.inr.inj (back.symm.trans hm);refine j0a (ev_v 1 (j0c ⟨L2,R,bs2,as,n,rfl,hL2,hRE.same sF,by omega,true,rfl,iteF (j0i ?_)⟩));have eNF:=sF _ _ eNE;have ep1F:=sF _ _ ep1E;have hRF:=hRE.same sF;have hLF:=hL.same sF;have nm1:¬(z1∈ties n\/isNm z1=false):=fun k=>k.elim z1t.1 fun k=>by rw [f1.2.1] at k;cases k
 have nq2:¬(z2∈n.map (·.1)\/isNm z2=false):=fun k=>k.elim z2t.2 fun k=>by rw [f2.2.1] at k;cases k
 have out2:outI n (nmA n c1.1) (c1.2:Int) z1 z2 = .inr (spk n c1 z1 z2):=j7q hN aC1 nm1 nq2 n40;refine j0j 13 nd (j1p GI hr k0a (j0a (j0u GY hr (j0a (ev_v 1 (j0c ⟨R,as,n,rfl,hRF,by omega,fun M2 cs2 HG sG nG fG hM2=>?_⟩))))));have eNG:=sG _ _ eNF;refine j0a (ev_v 10 (j0a (j0q j0s (ev_v 9 (j0h ⟨N,_,_,.str z1,rfl,rfl,SqL.of eNG,zA1,j0a (j0q j0s (ev_v 9 (j0h ⟨N,_,_,.str z2,rfl,rfl,SqL.of eNG,zA2,?_⟩)))⟩)))));refine j0c ⟨M2,p1,cs2,n,_,_,z1,z2,rfl,hM2,hN,hF,by omega,by omega,j4d (by omega),sG _ _ ep1F,by omega,by omega,fun x hx=>(inlr out2 hx).elim,fun m hm L3 bs3 HH sI nH fH hL3 _=>?_⟩;obtain rfl:spk n c1 z1 z2=m:=Sum.inr.inj (out2.symm.trans hm);have sFH:=sG.trans sI;have eNH:=sFH _ _ eNF;have ep1H:=sFH _ _ ep1F;have hRH:=hRF.same sFH;have hLH:=hLF.same sFH;have spo:∀{m:Net},j04 m->(m.map (·.1)).Nodup->m.length<=26->(ties m).length<=52->z1∉ties m->z2∉m.map (·.1)->c1.1 < m.length->j04 (spk m c1 z1 z2)/\((spk m c1 z1 z2).map (·.1)).Nodup/\(spk m c1 z1 z2).length<=60/\(ties (spk m c1 z1 z2)).length<=60:=fun{m} h1 h2 h3 h4 h5 h6 h7=>by
  have p:=k73 (z:=z1) (q:=z2) h7;have l:=p.length_eq;rw [An,An] at l;refine⟨k1z h1 h5 p,?_,by rw [k0x];omega,by omega⟩;rw [k4k];exact j3r h2 h6
 obtain⟨w1,w2,w3,w4⟩:=spo hT hN (by omega) (by omega) z1t.1 z2t.2 hcc.1;have back2:outS (spk n c1 z1 z2) z1 = .inr n:=j54 z1t.1 hcc.1 cin;show Run _ _ _ [some (.ref a),some (.ref R),v2,u1,u2,some (.ref t1),v6,some (.ref t2),v8,some (.ref N),some (.ref p1),some (.ref p2),some (.ref L),some (.ref L3),none] HH;refine j11 (j3l (j32 (j0u GM hr (j0a (j1p GU hr k0a (j0a (ev_v 13 (j0a (j0q j0s (ev_v 9 (j0h ⟨N,_,_,.str z1,rfl,rfl,SqL.of eNH,zA1,?_⟩)))))))))));refine j0c ⟨L3,bs3,_,z1,rfl,hL3,w1,w2,w3,w4,j4d w4,fun x hx=>(inlr back2 hx).elim,fun m hm L4 bs4 HJ sJ nJ fJ hL4 _=>?_⟩;obtain rfl:n=m:=Sum.inr.inj (back2.symm.trans hm);refine j0a (ev_v 1 (j0c ⟨L4,R,bs4,as,n,rfl,hL4,hRH.same sJ,by omega,true,rfl,iteF (j0i ?_)⟩));have eNJ:=sJ _ _ eNH;have ep1J:=sJ _ _ ep1H;have hRJ:=hRH.same sJ;have hLJ:=hLH.same sJ;have cc3:j1t (j0w n c1 c2 z0) c1:=k3g hcc.1 hcc2.1 hcc;have nmI:nmA (j0w n c1 c2 z0) c1.1=nmA n c1.1:=j9x j2y _;have aC3:AtC (j0w n c1 c2 z0) (nmA n c1.1) (c1.2:Int) c1:=⟨cc3,nmI,rfl⟩;have z1m:z1∉ties (j0w n c1 c2 z0):=fun k=>by
  rcases Ap.mp (pm.mem_iff.mp k) with k | k
  ·exact z01 k.symm
  ·rcases Ap.mp k with k | k
   ·exact z01 k.symm
   ·exact z1t.1 k
 have z2m:z2∉(j0w n c1 c2 z0).map (·.1):=by rw [j2y];exact z2t.2
 have nm3:¬(z1∈ties (j0w n c1 c2 z0)\/isNm z1=false):=fun k=>k.elim z1m fun k=>by rw [f1.2.1] at k;cases k
 have nq3:¬(z2∈(j0w n c1 c2 z0).map (·.1)\/isNm z2=false):=fun k=>k.elim z2m fun k=>by rw [f2.2.1] at k;cases k
 have out3:outI (j0w n c1 c2 z0) (nmA n c1.1) (c1.2:Int) z1 z2 = .inr (spk (j0w n c1 c2 z0) c1 z1 z2):=j7q hNm aC3 nm3 nq3 (q5z hTm (by omega));have cin3:c1.2<=(row (j0w n c1 c2 z0) c1.1).length:=by have:=cc3.2;omega
 refine j0j 14 nd (j1p GI hr k0a (j0a (ev_v 12 (j0a (ev_v 10 (j0a (j0q j0s (ev_v 9 (j0h ⟨N,_,_,.str z1,rfl,rfl,SqL.of eNJ,zA1,j0a (j0q j0s (ev_v 9 (j0h ⟨N,_,_,.str z2,rfl,rfl,SqL.of eNJ,zA2,?_⟩)))⟩)))))))));refine j0c ⟨L,p1,bs,_,_,_,z1,z2,rfl,hLJ,hNm,k86 hF hcc.1 hcc2.1,by omega,by omega,j4d (by omega),ep1J,by omega,by omega,fun x hx=>(inlr out3 hx).elim,fun m hm L5 bs5 HK sK nK fK hL5 _=>?_⟩;obtain rfl:spk (j0w n c1 c2 z0) c1 z1 z2=m:=Sum.inr.inj (out3.symm.trans hm);obtain⟨y1,y2,y3,y4⟩:=spo hTm hNm (by omega) (by omega) z1m z2m (by rw [lmn];exact hcc.1);have back3:outS (spk (j0w n c1 c2 z0) c1 z1 z2) z1 = .inr (j0w n c1 c2 z0):=j54 z1m (by rw [lmn];exact hcc.1) cin3;have eNK:=sK _ _ eNJ;have hRK:=hRJ.same sK;show Run _ _ _ [some (.ref a),some (.ref R),v2,u1,u2,some (.ref t1),v6,some (.ref t2),v8,some (.ref N),some (.ref p1),some (.ref p2),some (.ref L),some (.ref L3),some (.ref L5)] HK;refine j0r (j0u GM hr (j0a (j1p GO hr k0a (j0a (j1p GU hr k0a (j0a (ev_v 14 (j0a (j0q j0s (ev_v 9 (j0h ⟨N,_,_,.str z1,rfl,rfl,SqL.of eNK,zA1,?_⟩)))))))))));refine j0c ⟨L5,bs5,_,z1,rfl,hL5,y1,y2,y3,y4,j4d y4,fun x hx=>(inlr back3 hx).elim,fun m hm L6 bs6 HL sL nL fL hL6 _=>?_⟩;obtain rfl:j0w n c1 c2 z0=m:=Sum.inr.inj (back3.symm.trans hm);refine j0a (j0q j0s (ev_v 9 (j0h ⟨N,_,_,.str z0,rfl,rfl,SqL.of (sL _ _ eNK),zA0,?_⟩)));refine j0c ⟨L6,bs6,_,z0,rfl,hL6,hTm,hNm,by omega,by omega,j4d (by omega),fun x hx=>(inlr back hx).elim,fun m hm L7 bs7 HM sM nM fM hL7 _=>?_⟩;obtain rfl:n=m:=Sum.inr.inj (back.symm.trans hm);exact j0a (ev_v 1 (j0c ⟨L7,R,bs7,as,n,rfl,hL7,(hRK.same sL).same sM,by omega,q _⟩))
end
end R4
namespace R4
open PySem L2
theorem all_mk{l:PySem.W.OpenLaw}{w:World}{K:PySem.W.Frag}{h:Heap}{mg:Str->Option Value}{fa:Addr}(X:K.In h)(G:h.Ns mainGlobals mg)(hfa:mg "law" = some (.ref fa))
  (h1:Df K "ends_round" k75) (h2:Df K "ends_in_order" k1q) (h3:Df K "turned_left" q1l) (h4:Df K "other_ends" k0h) (h5:Df K "left_steps" sLS) (h6:Df K "faces_of" k5m) (h7:Df K "face_from" k4x) (h8:Df K "is_name" j3u) (h9:Df K "hangs_together" j1w) (h10:Df K "points_of" j2r) (h11:Df K "ties_of" j4l) (h12:Df K "need_tie" j4w) (h13:Df K "ends_of" j53) (h14:Df K "links_of" k38) (h15:Df K "spread" k0r) (h16:Df K "tied" k59) (h17:Df K "spiked" j7r) (h18:Df K "taken_out" j1y) (h19:Df K "shrunk" j4o) (h20:Df K "joined" j8c) (h21:Df K "with_ends" j1z) (h22:Df K "put_in" j79) (h23:Df K "need_corner" j3b) (h24:Df K "need_one_face" j12) (h25:Df K "need_free_name" j2k) (h26:Df K "need_room" j36) (h27:Df K "_law_cell_at" q1h) (h28:Df K "_law_big" sBig) (h29:Df K "_law_names" k55) (h30:Df K "_law_seats" k4p) (h31:Df K "_law_other" k4g) (h32:Df K "_law_step" q3e) (h33:Df K "_law_face" q00) (h34:Df K "_law_put" sPut) (h35:Df K "_law_net_by" sNet) (h36:Df K "_law_copy" k9v) (h37:Df K "_law_ties" j7v) (h38:Df K "_law_same" j7z) (hl:Df K "law" sLaw)
  {tk1 tk2 tk3:Tok} (s1:PySem.W.nsIn K mainGlobals "SIGNS" = some (some (.str Nt.lets tk1))) (s2:PySem.W.nsIn K mainGlobals "LONGEST" = some (some (.int 8 tk2))) (s3:PySem.W.nsIn K mainGlobals "MOST_TIES" = some (some (.int 40 tk3)))
  (qc:clB K=true)
  (z:∀ x∈(["isinstance","tuple","str","int","bool","list","dict","set","enumerate","zip","len","range","sorted","max","all","any"]:List Str),PySem.W.nsIn K mainGlobals x=some none) :
  ∃ fd:FuncData,(∀(s:Shared) (v:Value),BindsTo s fd ⟨[v],[]⟩ [("_law_script",v)])/\∀ base:Heap,K.In base->base.Ns mainGlobals mg->FnOk l.prog w K mg base CX0 7 fa fd ["_law_script"] (k74 K):=by
 have T:Txt mg:=⟨PySem.W.mg_none_of X G (z _ (by simp)),PySem.W.mg_none_of X G (z _ (by simp)),PySem.W.mg_none_of X G (z _ (by simp)),PySem.W.mg_none_of X G (z _ (by simp)),PySem.W.mg_none_of X G (z _ (by simp)),PySem.W.mg_none_of X G (z _ (by simp)),PySem.W.mg_none_of X G (z _ (by simp)),PySem.W.mg_none_of X G (z _ (by simp)),PySem.W.mg_none_of X G (z _ (by simp)),PySem.W.mg_none_of X G (z _ (by simp)),PySem.W.mg_none_of X G (z _ (by simp)),PySem.W.mg_none_of X G (z _ (by simp)),PySem.W.mg_none_of X G (z _ (by simp)),PySem.W.mg_none_of X G (z _ (by simp)),PySem.W.mg_none_of X G (z _ (by simp)),PySem.W.mg_none_of X G (z _ (by simp)),⟨_,PySem.W.mg_of X G s1,_,rfl⟩,⟨_,PySem.W.mg_of X G s2,_,rfl⟩,⟨_,PySem.W.mg_of X G s3,_,rfl⟩⟩;have cl:=q7b X G qc;refine hl.law X G hfa (fun _ _ _ _ _ _ s v=> .of_eq rfl) fun base f fd F=>?_;have G1:Has l.prog w K mg base 1 "ends_round" ["row"] k1o:=h1.has X G (fun _ _ _ _ _ _=>bd1 fun _=>rfl) fun F=>q19 F T;have G2:Has l.prog w K mg base 2 "ends_in_order" ["rows"] k0b:=h2.has X G (fun _ _ _ _ _ _=>bd1 fun _=>rfl) fun F=>k9j F T (G1.mono (by decide));have G3:Has l.prog w K mg base 1 "turned_left" ["end","many"] (spTL fun j=>j+1):=h3.has X G (fun _ _ _ _ _ _=>bd2 fun _ _=>rfl) fun F=>q3u F T;have G4:Has l.prog w K mg base 2 "other_ends" ["rows"] spOE:=h4.has X G (fun _ _ _ _ _ _=>bd1 fun _=>rfl) fun F=>q7l F T (G1.mono (by decide));have G5:Has l.prog w K mg base 3 "left_steps" ["rows"] (spLS 1):=h5.has X G (fun _ _ _ _ _ _=>bd1 fun _=>rfl) fun F=>q77 F T (G4.mono (by decide)) (G3.mono (by decide));have G7:Has l.prog w K mg base 1 "face_from" ["steps","first"] spFF:=h7.has X G (fun _ _ _ _ _ _=>bd2 fun _ _=>rfl) fun F=>q7u F T;have G6:Has l.prog w K mg base 4 "faces_of" ["rows"] k0d:=h6.has X G (fun _ _ _ _ _ _=>bd1 fun _=>rfl) fun F=>k85 F T (G2.mono (by decide)) (G5.mono (by decide)) (G7.mono (by decide));have G8:Has l.prog w K mg base 1 "is_name" ["thing"] (spIs K):=h8.has X G (fun _ _ _ _ _ _=>bd1 fun _=>rfl) fun F=>q71 F T;have G14:Has l.prog w K mg base 1 "links_of" ["rows"] k01:=h14.has X G (fun _ _ _ _ _ _=>bd1 fun _=>rfl) fun F=>k7t F T;have G15:Has l.prog w K mg base 1 "spread" ["first","links"] j72:=h15.has X G (fun _ _ _ _ _ _=>bd2 fun _ _=>rfl) fun F=>k5z F T;have G9:Has l.prog w K mg base 2 "hangs_together" ["rows"] spHt:=h9.has X G (fun _ _ _ _ _ _=>bd1 fun _=>rfl) fun F=>q7w F T (G14.mono (by decide)) (G15.mono (by decide));have G10:Has l.prog w K mg base 1 "points_of" ["rows"] q1i:=h10.has X G (fun _ _ _ _ _ _=>bd1 fun _=>rfl) fun F=>k6t F T;have G11:Has l.prog w K mg base 1 "ties_of" ["rows"] spTs:=h11.has X G (fun _ _ _ _ _ _=>bd1 fun _=>rfl) fun F=>q3a F T;have G12:HasX l.prog w K mg base 2 "need_tie" ["rows","tie"] (k1j (cAd K)):=h12.hasX X G (fun _ _ _ _ _ _=>bd2 fun _ _=>rfl) fun F=>q2w F T cl (G11.mono (by decide));have G13:Has l.prog w K mg base 3 "ends_of" ["rows"] k0b:=h13.has X G (fun _ _ _ _ _ _=>bd1 fun _=>rfl) fun F=>q4f F T (G2.mono (by decide));have G22:Has l.prog w K mg base 1 "put_in" ["ties","places","tie"] spPI:=h22.has X G (fun _ _ _ _ _ _=>bd3 fun _ _ _=>rfl) fun F=>q6z F T;have G21:Has l.prog w K mg base 2 "with_ends" ["rows","corners","tie"] spWE:=h21.has X G (fun _ _ _ _ _ _=>bd3 fun _ _ _=>rfl) fun F=>q7q F T (G22.mono (by decide));have G23:HasX l.prog w K mg base 4 "need_corner" ["rows","corner"] (spNC (cAd K)):=h23.hasX X G (fun _ _ _ _ _ _=>bd2 fun _ _=>rfl) fun F=>q7v F T cl (G13.mono (by decide));have G24:HasX l.prog w K mg base 5 "need_one_face" ["rows","one","other"] (spOF (cAd K)):=h24.hasX X G (fun _ _ _ _ _ _=>bd3 fun _ _ _=>rfl) fun F=>q7j F T cl (G6.mono (by decide));have G25:HasX l.prog w K mg base 2 "need_free_name" ["names","new"] (spNF (cAd K)):=h25.hasX X G (fun _ _ _ _ _ _=>bd2 fun _ _=>rfl) fun F=>q76 F T cl (G8.mono (by decide));have G26:HasX l.prog w K mg base 2 "need_room" ["rows"] (spNR (cAd K)):=h26.hasX X G (fun _ _ _ _ _ _=>bd1 fun _=>rfl) fun F=>q7k F T cl (G11.mono (by decide));have G16:HasX l.prog w K mg base 6 "tied" ["rows","one","other","tie"] (k6d (cAd K)):=h16.hasX X G (fun _ _ _ _ _ _=>bd4 fun _ _ _ _=>rfl) fun F=>q70 F T cl (G23.mono (by decide)) (G24.mono (by decide)) (G25.mono (by decide)) (G26.mono (by decide)) (G11.mono (by decide)) (G21.mono (by decide));have G17:HasX l.prog w K mg base 5 "spiked" ["rows","one","tie","point"] (q3k (cAd K)):=h17.hasX X G (fun _ _ _ _ _ _=>bd4 fun _ _ _ _=>rfl) fun F=>q4l F T cl (G23.mono (by decide)) (G25.mono (by decide)) (G26.mono (by decide)) (G11.mono (by decide)) (G10.mono (by decide)) (G21.mono (by decide));have G18:HasX l.prog w K mg base 3 "taken_out" ["rows","tie"] (j7d (cAd K) Nt.outO):=h18.hasX X G (fun _ _ _ _ _ _=>bd2 fun _ _=>rfl) fun F=>q7m F T cl (G12.mono (by decide)) (G9.mono (by decide));have G20:Has l.prog w K mg base 1 "joined" ["ties","others","tie"] k65:=h20.has X G (fun _ _ _ _ _ _=>bd3 fun _ _ _=>rfl) fun F=>q2c F T;have G19:HasX l.prog w K mg base 3 "shrunk" ["rows","tie"] (j7d (cAd K) Nt.outS):=h19.hasX X G (fun _ _ _ _ _ _=>bd2 fun _ _=>rfl) fun F=>q51 F T cl (G12.mono (by decide)) (G20.mono (by decide));have G27:Has l.prog w K mg base 1 "_law_cell_at" ["_law_script","_law_k"] (k1h K):=h27.has X G (fun _ _ _ _ _ _=>bd2 fun _ _=>rfl) fun F=>q2i F T;have G28:Has l.prog w K mg base 2 "_law_big" ["_law_script","_law_at"] (q13 K):=h28.has X G (fun _ _ _ _ _ _=>bd2 fun _ _=>rfl) fun F=>q4c F T (G27.mono (by decide));have G29:Has l.prog w K mg base 1 "_law_names" ["_law_stem","_law_many"] k03:=h29.has X G (fun _ _ _ _ _ _=>bd2 fun _ _=>rfl) fun F=>k7u F T;have G30:Has l.prog w K mg base 1 "_law_seats" ["_law_rows"] j7u:=h30.has X G (fun _ _ _ _ _ _=>bd1 fun _=>rfl) fun F=>k9u F T;have G31:Has l.prog w K mg base 1 "_law_other" ["_law_rows","_law_seats_here","_law_end"] j96:=h31.has X G (fun _ _ _ _ _ _=>bd3 fun _ _ _=>rfl) fun F=>k7h F T;have G32:Has l.prog w K mg base 2 "_law_step" ["_law_rows","_law_seats_here","_law_end","_law_turn"] k52:=h32.has X G (fun _ _ _ _ _ _=>bd4 fun _ _ _ _=>rfl) fun F=>q1k F T (G31.mono (by decide));have G33:Has l.prog w K mg base 3 "_law_face" ["_law_rows","_law_seats_here","_law_end"] k1p:=h33.has X G (fun _ _ _ _ _ _=>bd3 fun _ _ _=>rfl) fun F=>q2r F T (G32.mono (by decide));have G34:Has l.prog w K mg base 4 "_law_put" ["_law_rows","_law_big_here","_law_tie","_law_point"] q3j:=h34.has X G (fun _ _ _ _ _ _=>bd4 fun _ _ _ _=>rfl) fun F=>q44 F T (G30.mono (by decide)) (G33.mono (by decide));have G35:Has l.prog w K mg base 5 "_law_net_by" ["_law_big_here","_law_most","_law_stem"] q2f:=h35.has X G (fun _ _ _ _ _ _=>bd3 fun _ _ _=>rfl) fun F=>q35 F T (G29.mono (by decide)) (G34.mono (by decide));have G36:Has l.prog w K mg base 1 "_law_copy" ["_law_rows"] k6e:=h36.has X G (fun _ _ _ _ _ _=>bd1 fun _=>rfl) fun F=>q2n F T;have G37:Has l.prog w K mg base 1 "_law_ties" ["_law_rows"] spTs:=h37.has X G (fun _ _ _ _ _ _=>bd1 fun _=>rfl) fun F=>k7w F T;have G38:Has l.prog w K mg base 1 "_law_same" ["_law_told","_law_due"] k4m:=h38.has X G (fun _ _ _ _ _ _=>bd2 fun _ _=>rfl) fun F=>q2u F T;exact q5w F T cl (G27.mono (by decide)) (G28.mono (by decide)) (G35.mono (by decide)) (G36.mono (by decide)) (G37.mono (by decide)) (G30.mono (by decide)) (G33.mono (by decide)) (G38.mono (by decide)) (G16.mono (by decide)) (G17.mono (by decide)) (G18.mono (by decide)) (G19.mono (by decide))
theorem walk{l:PySem.W.OpenLaw}{q:Program}{loose:List Str}{XP:(Str->Option Value)->Heap->Prop}{YP:World->Heap->Prop}{d:DefRec}{K:Params->PySem.W.Frag}(hn:l.most=some 63)(hdf:d.params.defaults=[])
  (hY:∀(w:World) (h:Heap),YP w h->(K w.params).In h)
  (F : ∀ (w : World) (mg : Str → Option Value) (fa : Addr) (h : Heap), (K w.params).In h → h.Ns mainGlobals mg → mg d.name = some (.ref fa) →
   ∃ fd:FuncData,(∀(s:Shared) (u:Value),BindsTo s fd ⟨[u],[]⟩ [("_law_script",u)])/\∀ base:Heap,(K w.params).In base->base.Ns mainGlobals mg->FnOk l.prog w (K w.params) mg base CX0 7 fa fd ["_law_script"] (k74 (K w.params))) :
  PySem.W.WalkO q loose XP YP l.row.toRowW d [] (fun f vs=>PySem.call f vs):=
 L2.walk_of (n:=63) (k:=7) (x:= "_law_script") (CX:=fun _=>CX0) (sp:=fun w=>k74 (K w.params)) hn (by decide) hdf ⟨rfl,by decide,by decide⟩ hY F (fun _ _ a ns hl _ hS=>⟨a,ns,rfl,hS,hl,fun _=>rfl⟩) fun _ _ _ _ _ z=>z
end R4
-- taken names: the head leaves its twins of these out, so that the compiled file stays small (NOTE.md)
namespace PySem.W.Fast
def tw6951718162060538273:Unit:=()
def tw5487769956629955055:Unit:=()
def tw16869074154506376757:Unit:=()
def tw17742598606812861360:Unit:=()
def tw596955480315445927:Unit:=()
def tw15139453026742345810:Unit:=()
def tw12620480633073834915:Unit:=()
def tw5387130249261194793:Unit:=()
def tw11875741172735143698:Unit:=()
def tw5649713474094755493:Unit:=()
def tw3934872562936500558:Unit:=()
def tw15216793249931200070:Unit:=()
def tw3255592497209388297:Unit:=()
def tw1300908283188897914:Unit:=()
def tw10847224545297985385:Unit:=()
def tw14715986610287698450:Unit:=()
def tw17459579072179759754:Unit:=()
def tw13704072686877570655:Unit:=()
def tw2120938987177803344:Unit:=()
def tw1920915744899375492:Unit:=()
def tw2212280796129666356:Unit:=()
def tw6130688666707568367:Unit:=()
def tw11902495572825067875:Unit:=()
def tw16740231662021877095:Unit:=()
def tw8735906120521277129:Unit:=()
def tw3765588268643113008:Unit:=()
def tw6569945485780073199:Unit:=()
def tw10711470620932359803:Unit:=()
def tw13011257248445044515:Unit:=()
def tw13304748791555026575:Unit:=()
def tw6127332658689884054:Unit:=()
def tw10302078706621548262:Unit:=()
def tw2396778243720274489:Unit:=()
def tw4072095429161667729:Unit:=()
def tw11357144247333996457:Unit:=()
def tw7540966870974994787:Unit:=()
def tw11142451706757137641:Unit:=()
def tw13735190462991116067:Unit:=()
def tw17247907136156469039:Unit:=()
def tw2395973346313051593:Unit:=()
def tw11520975599390843448:Unit:=()
def tw7659806214044822307:Unit:=()
def tw771141333553628625:Unit:=()
def tw18138051639739306893:Unit:=()
def tw3794538785881418679:Unit:=()
def tw6850009060042316469:Unit:=()
def tw3100853634869551207:Unit:=()
def tw1390344512623526668:Unit:=()
def tw18334345486723282264:Unit:=()
def tw14490555288383710927:Unit:=()
def tw8381233825042120382:Unit:=()
def tw5193999814684703902:Unit:=()
def tw3493315414207195986:Unit:=()
def tw5046812813833681129:Unit:=()
def tw6454715695764943632:Unit:=()
def tw12254580014810798183:Unit:=()
def tw406030942131982582:Unit:=()
def tw3740884515591035823:Unit:=()
def tw15640786698088746248:Unit:=()
def tw17845724242255256900:Unit:=()
def tw5312963499026542720:Unit:=()
def tw13340221597558531104:Unit:=()
def tw5566391806134712726:Unit:=()
def tw1389353581575750337:Unit:=()
def tw10966340357052455564:Unit:=()
def tw6109426926903141407:Unit:=()
def tw1432758804277630901:Unit:=()
def tw2071616488427825189:Unit:=()
def tw2803762521565788632:Unit:=()
def tw564165392550442748:Unit:=()
def tw5477921824060768768:Unit:=()
def tw15906492704607124570:Unit:=()
def tw7127705879003834724:Unit:=()
end PySem.W.Fast
open PySem PySem.W PyProof.Rows
set_option maxRecDepth 100000 in
set_option maxHeartbeats 0 in
theorem PySem.Challenge.cw_threewebs_k74_there_and_back_holds : PySem.Challenge.rw_threewebs_k74_there_and_back.Holds := by
 w_on;o_law;k_head;(case hw=>w_witness2)
 k_fill
 refine R4.walk (l:=PySem.Challenge.rw_threewebs_k74_there_and_back) rfl rfl (fun w h Y=>PySem.W.kIn_of Y) ?F
 case F=>
  intro w mg fa h KX G hmg;refine' R4.all_mk KX G hmg ?h1 ?h2 ?h3 ?h4 ?h5 ?h6 ?h7 ?h8 ?h9 ?h10 ?h11 ?h12 ?h13 ?h14 ?h15 ?h16 ?h17 ?h18 ?h19 ?h20 ?h21 ?h22 ?h23 ?h24 ?h25 ?h26 ?h27 ?h28 ?h29 ?h30 ?h31 ?h32 ?h33 ?h34 ?h35 ?h36 ?h37 ?h38 ?h0 ?s1 ?s2 ?s3 ?qc ?zz
  case h1=>refine' L2.df_mk ?a ?l ?c ?k;(case a=>k_is);(case l=>k_is);(case c=>k_is);(case k=>k_is)
  case h2=>refine' L2.df_mk ?a ?l ?c ?k;(case a=>k_is);(case l=>k_is);(case c=>k_is);(case k=>k_is)
  case h3=>refine' L2.df_mk ?a ?l ?c ?k;(case a=>k_is);(case l=>k_is);(case c=>k_is);(case k=>k_is)
  case h4=>refine' L2.df_mk ?a ?l ?c ?k;(case a=>k_is);(case l=>k_is);(case c=>k_is);(case k=>k_is)
  case h5=>refine' L2.df_mk ?a ?l ?c ?k;(case a=>k_is);(case l=>k_is);(case c=>k_is);(case k=>k_is)
  case h6=>refine' L2.df_mk ?a ?l ?c ?k;(case a=>k_is);(case l=>k_is);(case c=>k_is);(case k=>k_is)
  case h7=>refine' L2.df_mk ?a ?l ?c ?k;(case a=>k_is);(case l=>k_is);(case c=>k_is);(case k=>k_is)
  case h8=>refine' L2.df_mk ?a ?l ?c ?k;(case a=>k_is);(case l=>k_is);(case c=>k_is);(case k=>k_is)
  case h9=>refine' L2.df_mk ?a ?l ?c ?k;(case a=>k_is);(case l=>k_is);(case c=>k_is);(case k=>k_is)
  case h10=>refine' L2.df_mk ?a ?l ?c ?k;(case a=>k_is);(case l=>k_is);(case c=>k_is);(case k=>k_is)
  case h11=>refine' L2.df_mk ?a ?l ?c ?k;(case a=>k_is);(case l=>k_is);(case c=>k_is);(case k=>k_is)
  case h12=>refine' L2.df_mk ?a ?l ?c ?k;(case a=>k_is);(case l=>k_is);(case c=>k_is);(case k=>k_is)
  case h13=>refine' L2.df_mk ?a ?l ?c ?k;(case a=>k_is);(case l=>k_is);(case c=>k_is);(case k=>k_is)
  case h14=>refine' L2.df_mk ?a ?l ?c ?k;(case a=>k_is);(case l=>k_is);(case c=>k_is);(case k=>k_is)
  case h15=>refine' L2.df_mk ?a ?l ?c ?k;(case a=>k_is);(case l=>k_is);(case c=>k_is);(case k=>k_is)
  case h16=>refine' L2.df_mk ?a ?l ?c ?k;(case a=>k_is);(case l=>k_is);(case c=>k_is);(case k=>k_is)
  case h17=>refine' L2.df_mk ?a ?l ?c ?k;(case a=>k_is);(case l=>k_is);(case c=>k_is);(case k=>k_is)
  case h18=>refine' L2.df_mk ?a ?l ?c ?k;(case a=>k_is);(case l=>k_is);(case c=>k_is);(case k=>k_is)
  case h19=>refine' L2.df_mk ?a ?l ?c ?k;(case a=>k_is);(case l=>k_is);(case c=>k_is);(case k=>k_is)
  case h20=>refine' L2.df_mk ?a ?l ?c ?k;(case a=>k_is);(case l=>k_is);(case c=>k_is);(case k=>k_is)
  case h21=>refine' L2.df_mk ?a ?l ?c ?k;(case a=>k_is);(case l=>k_is);(case c=>k_is);(case k=>k_is)
  case h22=>refine' L2.df_mk ?a ?l ?c ?k;(case a=>k_is);(case l=>k_is);(case c=>k_is);(case k=>k_is)
  case h23=>refine' L2.df_mk ?a ?l ?c ?k;(case a=>k_is);(case l=>k_is);(case c=>k_is);(case k=>k_is)
  case h24=>refine' L2.df_mk ?a ?l ?c ?k;(case a=>k_is);(case l=>k_is);(case c=>k_is);(case k=>k_is)
  case h25=>refine' L2.df_mk ?a ?l ?c ?k;(case a=>k_is);(case l=>k_is);(case c=>k_is);(case k=>k_is)
  case h26=>refine' L2.df_mk ?a ?l ?c ?k;(case a=>k_is);(case l=>k_is);(case c=>k_is);(case k=>k_is)
  case h27=>refine' L2.df_mk ?a ?l ?c ?k;(case a=>k_is);(case l=>k_is);(case c=>k_is);(case k=>k_is)
  case h28=>refine' L2.df_mk ?a ?l ?c ?k;(case a=>k_is);(case l=>k_is);(case c=>k_is);(case k=>k_is)
  case h29=>refine' L2.df_mk ?a ?l ?c ?k;(case a=>k_is);(case l=>k_is);(case c=>k_is);(case k=>k_is)
  case h30=>refine' L2.df_mk ?a ?l ?c ?k;(case a=>k_is);(case l=>k_is);(case c=>k_is);(case k=>k_is)
  case h31=>refine' L2.df_mk ?a ?l ?c ?k;(case a=>k_is);(case l=>k_is);(case c=>k_is);(case k=>k_is)
  case h32=>refine' L2.df_mk ?a ?l ?c ?k;(case a=>k_is);(case l=>k_is);(case c=>k_is);(case k=>k_is)
  case h33=>refine' L2.df_mk ?a ?l ?c ?k;(case a=>k_is);(case l=>k_is);(case c=>k_is);(case k=>k_is)
  case h34=>refine' L2.df_mk ?a ?l ?c ?k;(case a=>k_is);(case l=>k_is);(case c=>k_is);(case k=>k_is)
  case h35=>refine' L2.df_mk ?a ?l ?c ?k;(case a=>k_is);(case l=>k_is);(case c=>k_is);(case k=>k_is)
  case h36=>refine' L2.df_mk ?a ?l ?c ?k;(case a=>k_is);(case l=>k_is);(case c=>k_is);(case k=>k_is)
  case h37=>refine' L2.df_mk ?a ?l ?c ?k;(case a=>k_is);(case l=>k_is);(case c=>k_is);(case k=>k_is)
  case h38=>refine' L2.df_mk ?a ?l ?c ?k;(case a=>k_is);(case l=>k_is);(case c=>k_is);(case k=>k_is)
  case h0=>refine' L2.df_mk ?a ?l ?c ?k;(case a=>k_is);(case l=>k_is);(case c=>k_is);(case k=>k_is)
  case s1=>k_is
  case s2=>k_is
  case s3=>k_is
  case qc=>kernel_rfl
  case zz=>
   refine' Bq.mpr ⟨?_,?_⟩;k_is;refine' Bq.mpr ⟨?_,?_⟩;k_is;refine' Bq.mpr ⟨?_,?_⟩;k_is;refine' Bq.mpr ⟨?_,?_⟩;k_is;refine' Bq.mpr ⟨?_,?_⟩;k_is;refine' Bq.mpr ⟨?_,?_⟩;k_is;refine' Bq.mpr ⟨?_,?_⟩;k_is;refine' Bq.mpr ⟨?_,?_⟩;k_is;refine' Bq.mpr ⟨?_,?_⟩;k_is;refine' Bq.mpr ⟨?_,?_⟩;k_is;refine' Bq.mpr ⟨?_,?_⟩;k_is;refine' Bq.mpr ⟨?_,?_⟩;k_is;refine' Bq.mpr ⟨?_,?_⟩;k_is;refine' Bq.mpr ⟨?_,?_⟩;k_is;refine' Bq.mpr ⟨?_,?_⟩;k_is;refine' Bq.mpr ⟨?_,?_⟩;k_is;exact fun x hx=>nomatch hx

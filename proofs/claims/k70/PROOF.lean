import PyProof.Rows.All
import Wide.All
import OpenK.AllK
import Wide.FinOn
import Lean
import PyProof.EqAt
import PyProof.EqKinds
import PyProof.TupleCall
import KE.KDictLaws
import KE.KDictList
import KE.KDictSum
import KE.KIsAll
import KE.KSortTup
import KE.KUnpack
import KE.KUnpackStar
import PyProof.AttrMissSeq
import PyProof.CallStr
import PyProof.Conv_int_bool
import PyProof.DictItems
import PyProof.DictIter
import PyProof.DictList
import PyProof.EnumFor
import PyProof.EnumMake
import PyProof.EnumStmt
import PyProof.ExcArgsOwn
import PyProof.ExcAttrAll.ValueError
import PyProof.ExcBaseAll.ValueError
import PyProof.NeKinds
import PyProof.NsDelKeeps
import PyProof.Rows.CatchOwn
import PyProof.Rows.CountFlat
import PyProof.Rows.EnumRows
import PyProof.Rows.FStr
import PyProof.Rows.SortRev
import PyProof.Rows.StrSplitJoin
import PyProof.Rows.StrWeight2
import PyProof.Rows.TupDisplay
import PyProof.RulesTry
import PyProof.SetNew
import PyProof.SetRoads
import PyProof.StationsW
import PyProof.TupleKey
import PyProof.WalkInts
import PyProof.ZipIter
import PySem.Challenge.RW_threewebs_k70_ties_put_in
abbrev Aa:=@List.length_map
abbrev Ab:=@List.getElem?_eq_some_iff
abbrev Ac:=@List.getElem?_eq_getElem
abbrev Ad:=@PySem.Heap.get?_push_of_some
abbrev Ae:=@List.getElem?_map
abbrev Af:=@List.length_append
abbrev Ag:=@Nat.le_refl
abbrev Ah:=@List.mem_singleton
abbrev Ai:=@PySem.Heap.lt_size
abbrev Aj:=@PySem.Heap.get?_push_size
abbrev Ak:=@Bool.false_ne_true
abbrev Al:=@List.map_append
abbrev Am:=@List.mem_map
abbrev An:=@List.mem_of_getElem?
abbrev Ao:=@List.mem_cons
abbrev Ap:=@List.size_toArray
abbrev Aq:=@List.mem_cons_of_mem
abbrev Ar:=@Option.map_eq_some_iff
abbrev As:=@List.mem_append_right
abbrev At:=@Bool.false_eq_true
abbrev Au:=@Int.toNat_natCast
abbrev Av:=@Int.emod_nonneg
abbrev Aw:=@List.mem_cons_self
abbrev Ax:=@List.getElem?_append_left
abbrev Ay:=@Nat.ne_of_lt
abbrev Az:=@Int.emod_lt_of_pos
abbrev Ba:=@List.mem_append
abbrev Bb:=@List.getElem?_append_right
abbrev Bc:=@List.getElem?_of_mem
abbrev Bd:=@List.length_cons
abbrev Be:=@List.map_cons
abbrev Bf:=@Nat.lt_of_lt_of_le
abbrev Bg:=@List.length_eq_zero_iff
abbrev Bh:=@Bool.and_eq_true
abbrev Bi:=@Nat.zero_le
abbrev Bj:=@List.forall_mem_cons
abbrev Bk:=@List.append_nil
abbrev Bl:=@List.append_assoc
abbrev Bm:=@PySem.Heap.get?_update_other
abbrev Bn:=@Array.getElem?_toList
abbrev Bo:=@Nat.lt_irrefl
abbrev Bp:=@Array.getElem?_eq_getElem
abbrev Bq:=@List.pairwise_iff_getElem
abbrev Br:=@List.mem_range
abbrev Bs:=@Nat.le_trans
abbrev Bt:=@List.length_take
abbrev Bu:=@Nat.lt_succ_of_lt
abbrev Bv:=@List.length_pos_iff
abbrev Bw:=@List.take_length
abbrev Bx:=@PySem.Heap.get?_update_self
abbrev By:=@Bool.eq_iff_iff
abbrev Bz:=@List.take_add_one
abbrev Cb:=@List.getElem?_eq_none
abbrev Cc:=@List.map_map
abbrev Cd:=@Nat.ne_of_gt
abbrev Ce:=@Nat.lt_or_ge
abbrev Cf:=@List.nodup_cons
abbrev Cg:=@List.getElem_mem
abbrev Ch:=@PySem.Heap.size_push
abbrev Ci:=@List.all_eq_true
abbrev Cj:=@Array.length_toList
abbrev Ck:=@List.take_append_drop
abbrev Cm:=@List.nodup_nil
abbrev Cn:=@List.getD_eq_getElem?_getD
abbrev Co:=@List.any_eq_true
abbrev Cp:=@Array.getElem?_eq_none
abbrev Cq:=@Int.zero_add
abbrev Cr:=@List.nodup_append
abbrev Cs:=@List.foldl_cons
abbrev Ct:=@List.mem_append_left
abbrev Cu:=@List.lookup_cons
abbrev Cv:=@List.filter_cons
abbrev Cw:=@List.take_of_length_le
abbrev Cy:=@List.flatMap_append
abbrev Cz:=@List.length_replicate
abbrev Da:=@List.perm_append_comm
abbrev Db:=@List.getElem_map
abbrev Dc:=@List.mem_iff_getElem
abbrev Dd:=@List.getElem?_replicate
abbrev De:=@Bool.eq_false_iff
abbrev Dg:=@List.mem_filter
abbrev Dh:=@Nat.not_lt_zero
abbrev Di:=@List.filterMap_cons
abbrev Dj:=@Array.getD_eq_getD_getElem?
abbrev Dk:=@List.any_cons
abbrev Dl:=@Bool.not_true
abbrev Dm:=@List.length_drop
abbrev Dn:=@Array.getElem?_eq_some_iff
abbrev Do:=@List.length_singleton
abbrev Dp:=@List.length_range
abbrev Dq:=@List.length_eraseIdx
abbrev Dr:=@List.ext_getElem?
abbrev Ds:=@List.flatMap_cons
abbrev Dt:=@Nat.le_of_succ_le
abbrev Du:=@Option.isSome_iff_exists
abbrev Dv:=@List.getElem?_range
abbrev Dw:=@List.not_mem_nil
abbrev Dx:=@Nat.succ_pos
abbrev Dy:=@List.getElem_range
abbrev Dz:=@List.find?_cons
abbrev Eb:=@Array.getElem?_setIfInBounds
abbrev Ec:=@List.range_succ
abbrev Ed:=@Nat.lt_trichotomy
abbrev Ee:=@List.mem_zipIdx_iff_le_and_getElem?_sub
abbrev Ef:=@Array.getElem?_setIfInBounds_self_of_lt
abbrev Eh:=@Nat.le_succ
abbrev Ej:=@List.nodup_iff_pairwise_ne
abbrev Ek:=@List.getElem?_take_of_lt
abbrev El:=@Array.getElem?_replicate
abbrev Em:=@List.length_nil
abbrev Ep:=@List.nil_append
abbrev Er:=@List.mem_filterMap
abbrev Es:=@List.getElem?_set_self
abbrev Eu:=@List.contains_iff_mem
abbrev Ex:=@List.length_filter_le
abbrev Ey:=@List.getElem_inj
abbrev Ez:=@Nat.mod_lt
abbrev Fa:=@Nat.lt_succ_self
abbrev Fb:=@List.isEmpty_nil
abbrev Fc:=@Nat.mod_eq_of_lt
abbrev Fd:=@List.perm_middle
abbrev Fe:=@List.getElem?_set_ne
abbrev Ff:=@List.getElem?_modify
abbrev Fg:=@List.of_mem_zip
abbrev Fh:=@Option.map_some
abbrev Fi:=@Nat.zero_lt_one
abbrev Fj:=@Nat.le_of_lt
abbrev Fk:=@Nat.zero_add
abbrev Fl:=@Bool.not_false
abbrev Fm:=@List.all_cons
abbrev Fn:=@List.map_take
abbrev Fo:=@List.map_drop
set_option Elab.async false
set_option linter.all false
set_option maxRecDepth 100000
namespace L2
open PySem PySem.Spec PyProof.Rows
abbrev Key:=Sum Int Str
def k2e:Key->Value->Bool
 | .inl k,v=>Value.isInt k v
 | .inr x,v=>Value.isStrOf x v
def keyH(w:World):Key->Int
 | .inl k=>hashInt k
 | .inr x=>hashStr w x
theorem j1e:∀{k:Key} {v:Value},k2e k v=true->(∃ i t,k=Sum.inl i/\v=Value.int i t)\/(∃ x t,k=Sum.inr x/\v=Value.str x t)
 | .inl i,v,h=>by
  obtain⟨t,e⟩:=Value.isInt_shape (k:=i) (v:=v) h;exact .inl ⟨i,t,rfl,e⟩
 | .inr x,v,h=>by
  obtain⟨t,e⟩:=Value.isStrOf_shape (x:=x) (v:=v) h;exact .inr ⟨x,t,rfl,e⟩
theorem k3c(i:Int)(t:Tok):k2e (.inl i) (.int i t)=true:=by simp [k2e,Value.isInt]
theorem k5d(x:Str)(t:Tok):k2e (.inr x) (.str x t)=true:=by simp [k2e,Value.isStrOf]
theorem q25(a b:Int):decide ((Sum.inl a:Key)=Sum.inl b)=(a == b):=by
 by_cases e:a=b
 ·subst e;simp
 ·have h:¬(Sum.inl a:Key)=Sum.inl b:=fun q=>e (Sum.inl.inj q);rw [decide_eq_false h];exact(beq_eq_false_iff_ne.mpr e).symm
theorem q4b(a b:Str):decide ((Sum.inr a:Key)=Sum.inr b)=decide (a=b):=by
 by_cases e:a=b
 ·subst e;simp
 ·have h:¬(Sum.inr a:Key)=Sum.inr b:=fun q=>e (Sum.inr.inj q);rw [decide_eq_false h,decide_eq_false e]
theorem q2c(a:Int)(b:Str):decide ((Sum.inl a:Key)=Sum.inr b)=false:=decide_eq_false (fun q=>nomatch q)
theorem q17(a:Str)(b:Int):decide ((Sum.inr a:Key)=Sum.inl b)=false:=decide_eq_false (fun q=>nomatch q)
def j0r(prog:Program)(w:World):PySem.KeyKind prog w Key where
 is:=k2e
 hash:=keyH w
 inj:=fun v a b ha hb=>by
  rcases j1e ha with ⟨i,t,rfl,rfl⟩ | ⟨x,t,rfl,rfl⟩
  ·rcases j1e hb with ⟨j,u,rfl,e⟩ | ⟨y,u,rfl,e⟩
   ·injection e with e1 _;rw [e1]
   ·exact nomatch e
  ·rcases j1e hb with ⟨j,u,rfl,e⟩ | ⟨y,u,rfl,e⟩
   ·exact nomatch e
   ·injection e with e1 _;rw [e1]
 byValue:=fun k v h=>by
  rcases j1e h with ⟨i,t,rfl,rfl⟩ | ⟨x,t,rfl,rfl⟩ <;> rfl
 pyHash:=fun hv h=>by
  rcases j1e hv with ⟨i,t,rfl,rfl⟩ | ⟨x,t,rfl,rfl⟩
  ·exact wpAny_pyHash_int h
  ·exact wpAny_pyHash_str h
 eqBool:=fun hu hv h=>by
  rcases j1e hu with ⟨i,t,rfl,rfl⟩ | ⟨x,t,rfl,rfl⟩
  ·rcases j1e hv with ⟨j,u,rfl,rfl⟩ | ⟨y,u,rfl,rfl⟩
   ·rw [q25] at h;exact wpAny_eqBool_int h
   ·rw [q2c] at h;exact SeqAt.EqAt.int_str i t y u _ _ _ _ h
  ·rcases j1e hv with ⟨j,u,rfl,rfl⟩ | ⟨y,u,rfl,rfl⟩
   ·rw [q17] at h;exact SeqAt.EqAt.str_int x t j u _ _ _ _ h
   ·rw [q4b] at h;exact wpAny_eqBool_str h
 «strs»:=fun k x t v h=>by
  rcases j1e h with ⟨i,u,rfl,e⟩ | ⟨y,u,rfl,e⟩
  ·exact nomatch e
  ·injection e with e1 _
   subst e1;cases v <;> rfl
theorem k0g(prog:Program)(w:World)(i:Int)(t:Tok):(j0r prog w).is (.inl i) (.int i t)=true:=k3c i t
theorem k0o(prog:Program)(w:World)(x:Str)(t:Tok):(j0r prog w).is (.inr x) (.str x t)=true:=k5d x t
end L2
namespace L2
open PySem PySem.Spec PyProof.Rows
inductive V where
 | non | bl (b:Bool) | int (i:Int) | str (x:Str) | byt (b:Array UInt8) | flt (b:UInt64) | ref (a:Addr) | ty (n:String)
 deriving DecidableEq
def RelV:V->Value->Prop
 | .non,u=>u=Value.none
 | .bl b,u=>u=Value.bool b
 | .int i,u=>∃ t,u=Value.int i t
 | .str x,u=>∃ t,u=Value.str x t
 | .byt b,u=>∃ t,u=Value.bytes b t
 | .flt b,u=>∃ t,u=Value.float b t
 | .ref a,u=>u=Value.ref a
 | .ty n,u=>u=Value.type n
abbrev Vals:List V->List Value->Prop:=Paired RelV
theorem Vals.length{xs:List V}{us:List Value}(r:Vals xs us):xs.length=us.length:=Paired.length r
theorem Vals.get:∀{xs:List V} {us:List Value} {i:Nat} {x:V},Vals xs us->xs[i]?=some x->∃ u,us[i]?=some u/\RelV x u
 | _,_,_,_,.nil,e=>by simp at e
 | _,_,0,_,.cons r _,e=>by simp at e;subst e;exact⟨_,rfl,r⟩
 | _,_,i+1,x,.cons _ t,e=>by
  obtain⟨u,h1,h2⟩:=Vals.get (i:=i) (x:=x) t (by simpa using e);exact⟨u,by simpa using h1,h2⟩
theorem Vals.set{x:V}{u:Value}(r:RelV x u):∀{xs:List V} {us:List Value} (i:Nat),Vals xs us->Vals (xs.set i x) (us.set i u)
 | _,_,_,.nil=> .nil
 | _,_,0,.cons _ t=> .cons r t
 | _,_,i+1,.cons q t=> .cons q (Vals.set r i t)
theorem Vals.append:∀{xs ys:List V} {us ws:List Value},Vals xs us->Vals ys ws->Vals (xs++ys) (us++ws)
 | _,_,_,_,.nil,s=>s
 | _,_,_,_,.cons r t,s=> .cons r (Vals.append t s)
theorem Vals.take:∀{xs:List V} {us:List Value} (n:Nat),Vals xs us->Vals (xs.take n) (us.take n)
 | _,_,0,_=> .nil
 | _,_,_+1,.nil=> .nil
 | _,_,n+1,.cons r t=> .cons r (Vals.take n t)
theorem Vals.drop:∀{xs:List V} {us:List Value} (n:Nat),Vals xs us->Vals (xs.drop n) (us.drop n)
 | _,_,0,r=>r
 | _,_,_+1,.nil=> .nil
 | _,_,n+1,.cons _ t=>Vals.drop n t
def RelO:Option V->Option Value->Prop
 | some v,some u=>RelV v u
 | none,none=>True
 | _,_=>False
def KV{κ:Type}:List (κ×V)->List (κ×Value)->Prop:=Paired fun(p:κ×V) (q:κ×Value)=>p.1=q.1/\RelV p.2 q.2
def kV:Key->V
 | .inl i=> .int i
 | .inr x=> .str x
inductive HO where
 | lst (xs:List V)
 | tup (xs:List V)
 | dK (kvs:List (Key×V)) | dT (kvs:List (List Key×V))
 | set (S:Int->Bool) (n:Nat)
 | ins (C dx:Addr) (fs:List (Str×V))
 | own (x:Addr)
 | xd (fs:List (Str×V))
 | met (f x:Addr)
 | rng (lo hi:Int)
 | frz (o:Obj) (u:HO)
 | tbl (ps:Array Value)
 | ext (φ:Heap->Prop)
abbrev Hp:=Addr->Option HO
def upd(H:Hp)(a:Addr)(o:HO):Hp:=fun b=>if b=a then some o else H b
theorem j0b{H:Hp}{a:Addr}{o:HO}:upd H a o a=some o:=by unfold upd;rw [if_pos rfl]
theorem j0e{H:Hp}{a b:Addr}{o:HO}(h:b≠a):upd H a o b=H b:=by unfold upd;rw [if_neg h]
theorem k3d{H:Hp}{a:Addr}{o u:HO}:upd (upd H a o) a u=upd H a u:=by
 funext b;unfold upd;split <;> rfl
theorem j11{H:Hp}{a b:Addr}{o u:HO}(h:H a=some o)(h':H b=some u)(d:o≠u):a≠b:=by
 intro e;subst e;rw [h] at h';exact d (Option.some.inj h')
theorem j0h{H:Hp}{a b:Addr}{o:HO}(h:H a=some o)(h':H b=none):a≠b:=by
 intro e;subst e;rw [h] at h';cases h'
section
variable(P:Program)(w:World)
def ObjOk(H:Hp)(h:Heap)(a:Addr):HO->Prop
 | .lst xs=>xs.length<=sizeLine/\∃(its:List Value) (n:Nat),Vals xs its/\h.get? a=some {cls:= .type "list",data:= .seq its.toArray n}
 | .tup xs=>xs.length<=sizeLine/\∃ its:List Value,Vals xs its/\IsTup h a its.toArray
 | .dK kvs=>kvs.length<=sizeLine/\(a == sysModules)=false/\∃ vs,KV kvs vs/\h.DictOf (j0r P w) a vs
 | .dT kvs=>kvs.length<=sizeLine/\(a == sysModules)=false/\∃ xs:List (List Key×Addr×Value),
   Paired (fun(p:List Key×V) (q:List Key×Addr×Value)=>p.1=q.1/\H q.2.1=some (.tup (p.1.map kV))/\RelV p.2 q.2.2) kvs xs /\
   ∃ o es ep,h.get? a=some o/\o.ExactDict/\o.data = .dict es ep/\es.toList=xs.map (entryOfKey (tupleKind (j0r P w)))/\(xs.map (·.1)).Nodup
 | .set S n=>h.SetOf (intKind P w) a S n
 | .ins C dx fs=>H dx=some (.own a)/\fs.length<=1000/\dx≠a/\h.get? a=some (PySem.W.instObj C dx) /\
   ∃ mA,h.Ns1 dx mA/\(∀ f,RelO (fs.lookup f) (mA f))/\PySem.Within mA (fs.map (·.1))
 | .own _=>∃ o,h.get? a=some o
 | .xd fs=>∃ mA,h.Ns1 a mA/\∀ f,RelO (fs.lookup f) (mA f)
 | .rng lo hi=>∃ t u v,h.get? a=some {cls:= .type "range",data:= .fields #[.int lo t,.int hi u,.int 1 v]}
 | .frz o u=>h.get? a=some o/\ObjOk H h a u
 | .tbl ps=>h.get? a=some {cls:= .none,data:= .fields ps}
 | .met f x=>h.get? a=some (PySem.W.methodObj (.ref f) (.ref x))
 | .ext φ=>φ h/\(∃ o,h.get? a=some o)/\∀ h1 h2:Heap,φ h1->(∀ o,h1.get? a=some o->h2.get? a=some o)->φ h2
def HOk(H:Hp)(h:Heap):Prop:=∀ a o,H a=some o->ObjOk P w H h a o
end
section
variable{P:Program}{w:World}{H H':Hp}{h h':Heap}{a:Addr}{o:HO}
theorem ObjOk.lt(x:ObjOk P w H h a o):a < h.objs.size:=by
 cases o with
 | lst xs=>obtain⟨_,_,_,_,e⟩:=x;exact Ai e
 | tup xs=>obtain⟨_,_,_,p⟩:=x;exact p.lt
 | dK kvs=>obtain⟨_,_,_,_,o,_,_,e,_⟩:=x;exact Ai e
 | dT kvs=>obtain⟨_,_,_,_,o,_,_,e,_⟩:=x;exact Ai e
 | set S n=>obtain⟨o,_,_,_,e,_⟩:=x;exact Ai e
 | ins C dx fs=>obtain⟨_,_,_,e,_⟩:=x;exact Ai e
 | own y=>obtain⟨_,e⟩:=x;exact Ai e
 | xd fs=>obtain⟨_,⟨_,_,_,e,_⟩,_⟩:=x;exact Ai e
 | rng lo hi=>obtain⟨_,_,_,e⟩:=x;exact Ai e
 | frz ob u=>obtain⟨e,_⟩:=x;exact Ai e
 | tbl ps=>exact Ai (show h.get? a=some _ from x)
 | met f y=>exact Ai (show h.get? a=some _ from x)
 | ext φ=>obtain⟨_,⟨_,e⟩,_⟩:=x;exact Ai e
theorem Paired.mapP{α β:Type}{F G:α->β->Prop}:∀{l₁:List α} {l₂:List β},Paired F l₁ l₂->(∀ a b,F a b->G a b)->Paired G l₁ l₂
 | _,_,.nil,_=> .nil
 | _,_,.cons r t,f=> .cons (f _ _ r) (Paired.mapP t f)
theorem ObjOk.stay(x:ObjOk P w H h a o)(k:∀ b u,(b=a\/H b=some (.own a))->h.get? b=some u->h'.get? b=some u)
  (ho:∀ b,H b=some (.own a)->H' b=some (.own a)) (ht:∀ b xs,H b=some (.tup xs)->H' b=some (.tup xs)):ObjOk P w H' h' a o:=by
 induction o with
 | lst xs=>obtain⟨z,its,n,r,e⟩:=x;exact⟨z,its,n,r,k _ _ (.inl rfl) e⟩
 | tup xs=>obtain⟨z,its,r,ob,e,c⟩:=x;exact⟨z,its,r,ob,k _ _ (.inl rfl) e,c⟩
 | dK kvs=>obtain⟨z,y,vs,r,ob,es,ep,e,c⟩:=x;exact⟨z,y,vs,r,ob,es,ep,k _ _ (.inl rfl) e,c⟩
 | dT kvs=>
  obtain⟨z,y,xs,r,ob,es,ep,e,c⟩:=x;exact⟨z,y,xs,Paired.mapP r fun p q z=>⟨z.1,ht _ _ z.2.1,z.2.2⟩,ob,es,ep,k _ _ (.inl rfl) e,c⟩
 | set S n=>obtain⟨ob,es,ep,t,e,c⟩:=x;exact⟨ob,es,ep,t,k _ _ (.inl rfl) e,c⟩
 | ins C dx fs=>
  obtain⟨d,z,ne,e,mA,⟨od,es,ep,e2,c⟩,r⟩:=x;exact⟨ho _ d,z,ne,k _ _ (.inl rfl) e,mA,⟨od,es,ep,k _ _ (.inr d) e2,c⟩,r⟩
 | own y=>obtain⟨ob,e⟩:=x;exact⟨ob,k _ _ (.inl rfl) e⟩
 | xd fs=>obtain⟨mA,⟨od,es,ep,e,c⟩,r⟩:=x;exact⟨mA,⟨od,es,ep,k _ _ (.inl rfl) e,c⟩,r⟩
 | rng lo hi=>obtain⟨t,u,v,e⟩:=x;exact⟨t,u,v,k _ _ (.inl rfl) e⟩
 | frz ob u ih=>obtain⟨e,q⟩:=x;exact⟨k _ _ (.inl rfl) e,ih q⟩
 | tbl ps=>
  have e:h.get? a=some {cls:= .none,data:= .fields ps}:=x;show h'.get? a=some {cls:= .none,data:= .fields ps};exact k a _ (.inl rfl) e
 | met f y=>
  have e:h.get? a=some (PySem.W.methodObj (.ref f) (.ref y)):=x;show h'.get? a=some (PySem.W.methodObj (.ref f) (.ref y));exact k a _ (.inl rfl) e
 | ext φ=>obtain⟨p,⟨o,e⟩,st⟩:=x;exact⟨st _ _ p fun o q=>k _ _ (.inl rfl) q,⟨o,k _ _ (.inl rfl) e⟩,st⟩
theorem HOk.lt(x:HOk P w H h)(e:H a=some o):a < h.objs.size:=(x a o e).lt
theorem HOk.fresh(x:HOk P w H h)(e:h.objs.size<=a):H a=none:=by
 cases q:H a with
 | none=>rfl
 | some u=>exact absurd (Bf (x.lt q) e) (Bo _)
theorem HOk.kept(x:HOk P w H h)(k:∀ b u,h.get? b=some u->h'.get? b=some u):HOk P w H h':=fun a o e=>
 (x a o e).stay (fun b u _ q=>k b u q) (fun _ q=>q) fun _ _ q=>q
theorem HOk.laid(x:HOk P w H h)(k:∀ b u,h.get? b=some u->h'.get? b=some u)(hp:h.objs.size<=a)(new:ObjOk P w (upd H a o) h' a o):HOk P w (upd H a o) h':=fun b u e=>by
 have hn:=x.fresh hp
 by_cases hb:b=a
 ·subst hb;rw [j0b] at e;cases e;exact new
 ·rw [j0e hb] at e;exact(x b u e).stay (fun c v _ q=>k c v q) (fun c q=>by rw [j0e (j0h q hn)];exact q) fun c xs q=>by rw [j0e (j0h q hn)];exact q
end
def Rd(H:Hp)(a:Addr)(u:HO):Prop:=H a=some u\/∃ o,H a=some (.frz o u)
theorem Rd.ok{P:Program}{w:World}{H:Hp}{h:Heap}{a:Addr}{u:HO}(r:Rd H a u)(x:HOk P w H h):ObjOk P w H h a u:=by
 rcases r with r | ⟨o,r⟩
 ·exact x a u r
 ·obtain⟨_,q⟩:=x a _ r;exact q
def Mut:Option HO->Prop
 | some (.lst _)=>True
 | some (.dK _)=>True
 | some (.dT _)=>True
 | some (.set _ _)=>True
 | some (.ins _ _ _)=>True
 | some (.ext _)=>True
 | _=>False
section
variable{P:Program}{w:World}{H:Hp}{h h':Heap}{x e:Addr}{o':HO}
theorem HOk.write(ok:HOk P w H h)(mu:Mut (H x))(he:e=x\/H e=some (.own x))(k:∀ b u,b≠e->h.get? b=some u->h'.get? b=some u)(heo:∃ u,h'.get? e=some u)
  (new:ObjOk P w (upd H x o') h' x o'):HOk P w (upd H x o') h':=fun b u q=>by
 have nown:∀ c y,H c=some (.own y)->c≠x:=fun c y r z=>by subst z;rw [r] at mu;exact mu
 have ntup:∀ c xs,H c=some (.tup xs)->c≠x:=fun c xs r z=>by subst z;rw [r] at mu;exact mu
 by_cases hb:b=x
 ·subst hb;rw [j0b] at q;cases q;exact new
 ·rw [j0e hb] at q
  by_cases hbe:b=e
  ·have q':H b=some (.own x):=by
    rcases he with z | z
    ·exact absurd (hbe.trans z) hb
    ·rw [hbe];exact z
   rw [q] at q';cases q';obtain⟨v,hv⟩:=heo;exact⟨v,by rw [hbe];exact hv⟩
  ·refine(ok b u q).stay (fun c v hc r=>k c v ?_ r) (fun c r=>by rw [j0e (nown c b r)];exact r) fun c xs r=>by rw [j0e (ntup c xs r)];exact r
   rcases hc with rfl | hc
   ·exact hbe
   ·rintro rfl
    rcases he with z | z
    ·exact nown c b hc z
    ·rw [hc] at z;cases z;exact hb rfl
end
structure Un(fs ex:List Addr)(H H':Hp)(h h':Heap):Prop where
 keep:∀ b o,h.get? b=some o->H b=none->b∉fs->b∉ex->h'.get? b=some o
 slot:∀ b o,h.get? b=some o->H b=none->b∈fs->b∉ex->∃ sl,h'.get? b=some {o with slots:=sl}
 free:∀ b o,h.get? b=some o->H b=none->b∉ex->H' b=none
 there:∀ b o,h.get? b=some o->b∉ex->∃ o',h'.get? b=some o'
 tups:∀ b xs,H b=some (.tup xs)->H' b=some (.tup xs)
 frzs:∀ b o u,H b=some (.frz o u)->H' b=some (.frz o u)
 tbls:∀ b ps,H b=some (.tbl ps)->∃ more,H' b=some (.tbl (ps++more))
section
variable{fs fs' ex ex':List Addr}{H H1 H2:Hp}{h h1 h2 h':Heap}{a x e:Addr}{o:HO}
theorem Un.any(u:Un fs ex H H1 h h1){b:Addr}{ob:Obj}(q:h.get? b=some ob)(n:H b=none)(hx:b∉ex):∃ sl,h1.get? b=some {ob with slots:=sl}:=by
 by_cases hb:b∈fs
 ·exact u.slot b ob q n hb hx
 ·exact⟨ob.slots,u.keep b ob q n hb hx⟩
theorem Un.kept(k:∀ b u,h.get? b=some u->h'.get? b=some u):Un fs ex H H h h':=
 ⟨fun b ob q _ _ _=>k b ob q,fun b ob q _ _ _=>⟨ob.slots,k b ob q⟩,fun _ _ _ n _=>n,fun b ob q _=>⟨ob,k b ob q⟩,fun _ _ q=>q,fun _ _ _ q=>q,fun _ ps q=>⟨#[],by rw [q];simp⟩⟩
theorem Un.refl:Un fs ex H H h h:=Un.kept fun _ _ q=>q
theorem Un.laid(k:∀ b u,h.get? b=some u->h'.get? b=some u)(hp:h.objs.size<=a)(hn:H a=none):Un fs ex H (upd H a o) h h' where
 keep:=fun b u q _ _ _=>k b u q
 slot:=fun b u q _ _ _=>⟨u.slots,k b u q⟩
 free:=fun b u q n _=>by rw [j0e (Ay (Bf (Ai q) hp))];exact n
 there:=fun b u q _=>⟨u,k b u q⟩
 tups:=fun b xs q=>by rw [j0e (j0h q hn)];exact q
 frzs:=fun b u xs q=>by rw [j0e (j0h q hn)];exact q
 tbls:=fun b ps q=>⟨#[],by rw [j0e (j0h q hn),q];simp⟩
theorem Un.write(mu:Mut (H x))(he:e=x\/H e=some (.own x))(k:∀ b u,b≠e->h.get? b=some u->h'.get? b=some u)(heo:∃ u,h'.get? e=some u):Un fs ex H (upd H x o) h h':=by
 have hx:∀ b,H b=none->b≠x:=fun b n z=>by subst z;rw [n] at mu;exact mu
 have hb:∀ b,H b=none->b≠e:=fun b n z=>by
  subst z
  rcases he with r | r
  ·exact hx b n r
  ·rw [n] at r;cases r
 have hm:∀ b u,H b=some u->¬ Mut (some u)->b≠x:=fun b u q nm z=>by subst z;rw [q] at mu;exact nm mu
 refine⟨fun b u q n _ _=>k b u (hb b n) q,fun b u q n _ _=>⟨u.slots,k b u (hb b n) q⟩,fun b u q n _=>by rw [j0e (hx b n)];exact n,fun b u q _=>?_,
  fun b xs q=>by rw [j0e (hm b _ q fun z=>z)];exact q,fun b u xs q=>by rw [j0e (hm b _ q fun z=>z)];exact q,fun b ps q=>⟨#[],by rw [j0e (hm b _ q fun z=>z),q];simp⟩⟩
 by_cases hbe:b=e
 ·subst hbe;exact heo
 ·exact⟨u,k b u hbe q⟩
end
def trk(h:Heap)(H:Hp):List Addr:=(List.range h.objs.size).filter fun a=>(H a).isSome
def hidT(h:Heap)(H:Hp):Heap:=PySem.W.hideAll h (trk h H)
theorem k4t(h:Heap)(H:Hp):(hidT h H).objs.size=h.objs.size:=PySem.W.hideAll_size _ _
theorem k6b{h:Heap}{H:Hp}{b:Addr}{o:Obj}(e:h.get? b=some o)(n:H b=none):(hidT h H).get? b=some o:=
 PySem.W.hideAll_get _ e fun hm=>by
  have q:(H b).isSome=true:=(Dg.mp hm).2;rw [n] at q;simp at q
theorem k95{h:Heap}{H:Hp}{b:Addr}{o:Obj}(e:(hidT h H).get? b=some o):h.get? b=some o/\H b=none:=by
 have e':h.get? b=some o:=PySem.W.of_hideAll (trk h H) e;refine⟨e',?_⟩;cases q:H b with
 | none=>rfl
 | some x=>
  have hm:b∈trk h H:=Dg.mpr ⟨Br.mpr (Ai e'),by simp [q]⟩;have z:(hidT h H).get? b=none:=PySem.W.hideAll_none (trk h H) hm;rw [z] at e;cases e
end L2
namespace L2
open PySem PySem.Spec PyProof.Rows
structure Mod(K:PySem.W.Frag)(mg:Str->Option Value)(base:Heap):Prop where
 kin:K.In base
 glob:base.Ns mainGlobals mg
 blt:∃ mb,base.Ns builtinsNs mb/\∀ x:Str,x ≠ "__name__"->mb x=bootBuiltins x
 nolimit:base.NoLimit
structure Cx where
 prog:Program
 w:World
 K:PySem.W.Frag
 mg:Str->Option Value
 base:Heap
 A:Around
 N:List Str
 s₀:Shared
 H₀:Hp
 env:Env
 outer:List Env
 stack:List Env
 ex:List Addr
 fn:Str->Bool
 calm:Bool
 pn:List (Addr×Obj)
 xe:Value->Shared->Prop
def frs(l:List Env):List Addr:=l.filterMap (·.frame)
abbrev Cx.fs(X:Cx):List Addr:=frs X.outer
def Vis(sc:Scope)(x:Str):Prop:=sc.names.lookup x=some .local\/sc.names.lookup x=some .cell\/sc.names.lookup x=some .free
def Loc(sc:Scope)(x:Str):Prop:=sc.names.lookup x=some .local\/sc.names.lookup x=some .cell
def Look(env:Env)(h:Heap)(m:Str->Option Value)(x:Str)(u:Value):Prop:=
 (env.kindOf x=some .local/\m x=some u)\/((env.kindOf x=some .cell\/env.kindOf x=some .free)/\∃ c,env.cells.lookup x=some c/\h.IsCell c (some u))
structure Cx.Ok(X:Cx):Prop where
 mod:Mod X.K X.mg X.base
 kind:X.env.scope.kind = .function
 glob:X.env.globals=mainGlobals
 blt:X.env.builtins=builtinsNs
 above:X.s₀.heap.objs.size<=X.env.locals
 inj:∀ x y c,X.env.cells.lookup x=some c->X.env.cells.lookup y=some c->x=y
 has:∀ x,(X.env.kindOf x=some .cell\/X.env.kindOf x=some .free)->∃ c,X.env.cells.lookup x=some c
 cab:∀ x c,X.fn x=true->X.env.cells.lookup x=some c->X.s₀.heap.objs.size<=c
 hd:X.calm=true->X.A.handled=none
 frames:X.A.frames=some X.stack
 stk:X.stack=X.outer\/(X.stack=X.env :: X.outer/\X.env.frame=some X.env.locals)
 exf:∀ b∈X.ex,b≠X.env.locals/\∀ x c,X.env.cells.lookup x=some c->c≠b
 bs:∀ b o,X.base.get? b=some o->X.s₀.heap.get? b=some o/\X.H₀ b=none
 bsz:X.base.objs.size<=X.s₀.heap.objs.size
 noex:∀ b o,X.base.get? b=some o->b∉X.ex
 exfs:∀ b∈X.ex,b∉X.fs
 funs:X.s₀.heap.FunFrames X.base X.outer
 frf:∀ b∈X.fs,X.H₀ b=none
structure Inv(X:Cx)(pins:List (Addr×Obj))(σ:List (Option V))(H:Hp)(s:Shared):Prop where
 ok:X.Ok
 os:s.os=X.s₀.os
 bare:AllBare s.gens
 base:Un X.fs X.ex X.H₀ H X.s₀.heap s.heap
 loc:∃ m,s.heap.Ns X.env.locals m/\∀(i:Nat) (x:Str) (v:V),X.N[i]?=some x->σ[i]?=some (some v)->Vis X.env.scope x->∃ u,RelV v u/\Look X.env s.heap m x u
 cell:∀ x c,X.env.cells.lookup x=some c->∃ v,s.heap.IsCell c v
 free:H X.env.locals=none
 freeC:∀ x c,X.env.cells.lookup x=some c->H c=none
 pin:∀ p∈X.pn++pins,s.heap.get? p.1=some p.2/\H p.1=none/\p.1≠X.env.locals/\p.1∉X.fs/\∀ v,p.2.data ≠ .cell v
 hok:HOk X.prog X.w H s.heap
 len:σ.length=X.N.length
section
variable{X:Cx}{pins:List (Addr×Obj)}{σ:List (Option V)}{H H':Hp}{s:Shared}{h':Heap}
theorem Cx.Ok.nofr(ok:X.Ok){b:Addr}{o:Obj}(e:X.base.get? b=some o):b∉X.fs:=fun hb=>by
 have:=(ok.funs.mem hb).1;rw [e] at this;cases this
theorem Inv.bs(I:Inv X pins σ H s):∀ b o,X.base.get? b=some o->s.heap.get? b=some o/\H b=none:=fun b o e=>
 ⟨I.base.keep b o (I.ok.bs b o e).1 (I.ok.bs b o e).2 (I.ok.nofr e) (I.ok.noex b o e),I.base.free b o (I.ok.bs b o e).1 (I.ok.bs b o e).2 (I.ok.noex b o e)⟩
theorem Inv.bk(I:Inv X pins σ H s):∀ b o,X.base.get? b=some o->s.heap.get? b=some o:=fun b o e=>(I.bs b o e).1
theorem Inv.mod(I:Inv X pins σ H s):Mod X.K X.mg X.base:=I.ok.mod
theorem Inv.kIn(I:Inv X pins σ H s):X.K.In s.heap:=I.ok.mod.kin.keeps I.bk
theorem Inv.lt(I:Inv X pins σ H s):X.env.locals < s.heap.objs.size:=let ⟨_,hn,_⟩:=I.loc;hn.lt
theorem Inv.sz(I:Inv X pins σ H s):X.s₀.heap.objs.size<=s.heap.objs.size:=Bs I.ok.above (Fj I.lt)
theorem Inv.nofs(I:Inv X pins σ H s){a:Addr}(h:s.heap.objs.size<=a):a∉X.fs:=fun hb=>by
 obtain⟨_,o,ho,_⟩:=I.ok.funs.mem hb;exact absurd (Bf (Ai ho) (Bs I.sz h)) (Bo _)
theorem Inv.cne(I:Inv X pins σ H s):∀ x c,X.env.cells.lookup x=some c->c≠X.env.locals:=fun x c e z=>by
 obtain⟨v,o,ho,hd⟩:=I.cell x c e;obtain⟨m,⟨o',es,ep,ho',hd',_⟩,_⟩:=I.loc;rw [z,ho'] at ho;cases ho;rw [hd'] at hd;cases hd
theorem Inv.funs(I:Inv X pins σ H s):s.heap.FunFrames X.base X.outer:=by
 have all:∀(l:List Env),(∀ b∈frs l,b∈X.fs)->X.s₀.heap.FunFrames X.base l->s.heap.FunFrames X.base l:=by
  intro l
  induction l with
  | nil=>intro _ _;trivial
  | cons env r ih=>
   intro hs hl;obtain⟨hk,⟨L,o,hf,hn,ho,hd⟩,hr⟩:=hl;have hL:L∈X.fs:=hs L (by unfold frs;rw [Di,hf];exact Aw);obtain⟨sl,e⟩:=I.base.slot L o ho (I.ok.frf L hL) hL fun z=>I.ok.exfs L z hL;exact⟨hk,⟨L,_,hf,hn,e,hd⟩,ih (fun b hb=>hs b (by unfold frs;rw [Di,hf];exact Aq _ hb)) hr⟩
 exact all X.outer (fun _ hb=>hb) I.ok.funs
theorem Inv.stack(I:Inv X pins σ H s):s.heap.FunFrames X.base X.stack:=by
 rcases I.ok.stk with e | ⟨e,hf⟩
 ·rw [e];exact I.funs
 ·rw [e];obtain⟨m,hn,_⟩:=I.loc;refine .cons (by rw [I.ok.kind];decide) hf hn ?_ I.funs;exact Heap.get?_none_of_le (Bs I.ok.bsz I.ok.above)
theorem Inv.stkSub(I:Inv X pins σ H s):∀ b∈frs X.stack,b∈X.env.locals :: X.fs:=fun b hb=>by
 rcases I.ok.stk with e | ⟨e,hf⟩
 ·rw [e] at hb;exact Aq _ hb
 ·rw [e] at hb;unfold frs at hb;rw [Di,hf] at hb;exact hb
theorem Inv.stkFree(I:Inv X pins σ H s):∀ b∈frs X.stack,H b=none:=fun b hb=>by
 rcases Ao.mp (I.stkSub b hb) with e | hb
 ·rw [e];exact I.free
 ·obtain⟨_,o,ho,_⟩:=I.ok.funs.mem hb;exact I.base.free b o ho (I.ok.frf b hb) fun z=>I.ok.exfs b z hb
theorem Inv.step{g':Array GenState}{t':Nat}{d':Drawn}{ch:List Addr}(I:Inv X pins σ H s)
  (hch:∀ b∈ch,(b∈X.ex\/X.s₀.heap.objs.size<=b)/\b≠X.env.locals/\(∀ x c,X.env.cells.lookup x=some c->c≠b)/\∀ p∈X.pn++pins,p.1≠b)
  (keep:∀ b o,b≠X.env.locals->b∉X.fs->b∉ch->s.heap.get? b=some o->H b=none->h'.get? b=some o)
  (slot:∀ b o,b≠X.env.locals->b∈X.fs->b∉ch->s.heap.get? b=some o->H b=none->∃ sl,h'.get? b=some {o with slots:=sl}) (free:∀ b o,b∉ch->s.heap.get? b=some o->H b=none->H' b=none)
  (there:∀ b o,b∉ch->s.heap.get? b=some o->∃ o',h'.get? b=some o')
  (tups:∀ b xs,H b=some (.tup xs)->H' b=some (.tup xs)) (frzs:∀ b o u,H b=some (.frz o u)->H' b=some (.frz o u)) (tbls:∀ b ps,H b=some (.tbl ps)->∃ more,H' b=some (.tbl (ps++more)))
  (ns:∀ m,s.heap.Ns X.env.locals m->h'.Ns X.env.locals m) (hok:HOk X.prog X.w H' h') (hg:AllBare g') :
  Inv X pins σ H' {s with heap:=h',gens:=g',drawn:=d',toks:=t'}:=by
 have neL:∀ b o,X.s₀.heap.get? b=some o->b≠X.env.locals:=fun b o e=>Ay (Bf (Ai e) I.ok.above);have neC:∀ b o,X.s₀.heap.get? b=some o->b∉X.ex->b∉ch:=fun b o e hx hb=>by
  rcases (hch b hb).1 with z | z
  ·exact hx z
  ·exact absurd (Bf (Ai e) z) (Bo _)
 have cellK:∀ x c,X.env.cells.lookup x=some c->∀ v,s.heap.IsCell c v->h'.IsCell c v:=fun x c e v ⟨o,ho,hd⟩=>by
  have nch:c∉ch:=fun z=>(hch c z).2.2.1 x c e rfl
  by_cases hc:c∈X.fs
  ·obtain⟨sl,q⟩:=slot c o (I.cne x c e) hc nch ho (I.freeC x c e);exact⟨_,q,hd⟩
  ·exact⟨o,keep c o (I.cne x c e) hc nch ho (I.freeC x c e),hd⟩
 refine⟨I.ok,I.os,hg,⟨fun b o e n hb hx=>?_,fun b o e n hb hx=>?_,fun b o e n hx=>?_,fun b o e hx=>?_,fun b xs e=>tups b xs (I.base.tups b xs e),fun b o xs e=>frzs b o xs (I.base.frzs b o xs e),fun b ps e=>?_⟩,?_,fun x c e=>?_,?_,fun x c e=>?_,fun p hp=>?_,hok,I.len⟩
 ·exact keep b o (neL b o e) hb (neC b o e hx) (I.base.keep b o e n hb hx) (I.base.free b o e n hx)
 ·obtain⟨sl,e1⟩:=I.base.slot b o e n hb hx;obtain⟨sl',e2⟩:=slot b _ (neL b o e) hb (neC b o e hx) e1 (I.base.free b o e n hx);exact⟨sl',e2⟩
 ·obtain⟨o',e1⟩:=I.base.there b o e hx;exact free b o' (neC b o e hx) e1 (I.base.free b o e n hx)
 ·obtain⟨o',e1⟩:=I.base.there b o e hx;exact there b o' (neC b o e hx) e1
 ·obtain⟨m1,e1⟩:=I.base.tbls b ps e;obtain⟨m2,e2⟩:=tbls b _ e1;exact⟨m1++m2,by rw [e2,Array.append_assoc]⟩
 ·obtain⟨m,hn,hl⟩:=I.loc;refine⟨m,ns m hn,fun i x v e1 e2 e3=>?_⟩;obtain⟨u,r,l⟩:=hl i x v e1 e2 e3;refine⟨u,r,?_⟩
  rcases l with l | ⟨k,c,e,z⟩
  ·exact .inl l
  ·exact .inr ⟨k,c,e,cellK x c e _ z⟩
 ·obtain⟨v,z⟩:=I.cell x c e;exact⟨v,cellK x c e v z⟩
 ·obtain⟨m,⟨o,_,_,ho,_⟩,_⟩:=I.loc;exact free _ o (fun z=>(hch _ z).2.1 rfl) ho I.free
 ·obtain⟨v,o,ho,hd⟩:=I.cell x c e;exact free c o (fun z=>(hch c z).2.2.1 x c e rfl) ho (I.freeC x c e)
 ·obtain⟨e,n,ne,nf,d⟩:=I.pin p hp;have nch:p.1∉ch:=fun z=>(hch p.1 z).2.2.2 p hp rfl;exact⟨keep p.1 p.2 ne nf nch e n,free p.1 p.2 nch e n,ne,nf,d⟩
theorem Inv.un{t':Nat}(I:Inv X pins σ H s)(u:Un X.fs [] H H' s.heap h')(hok:HOk X.prog X.w H' h'):Inv X pins σ H' {s with heap:=h',toks:=t'}:=by
 obtain⟨m,⟨o,es,ep,ho,r⟩,_⟩:=id I.loc;obtain⟨sl,hL⟩:=u.any ho I.free (by simp);exact I.step (g':=s.gens) (d':=s.drawn) (ch:=[]) (fun _ z=>nomatch z) (fun b o _ hb _ e n=>u.keep b o e n hb (by simp)) (fun b o _ hb _ e n=>u.slot b o e n hb (by simp)) (fun b o _ e n=>u.free b o e n (by simp)) (fun b o _ e=>u.there b o e (by simp)) u.tups u.frzs u.tbls (fun m' hm=>by
  obtain⟨o',es',ep',ho',r'⟩:=hm;rw [ho] at ho';cases ho';exact⟨_,es',ep',hL,r'⟩) hok I.bare
theorem Inv.call{g':Array GenState}{t':Nat}{d':Drawn}{ch:List Addr}(I:Inv X pins σ H s)(u:Un (frs X.stack) ch H H' s.heap h')(hok:HOk X.prog X.w H' h')(hg:AllBare g')
  (hch:∀ b∈ch,(b∈X.ex\/X.s₀.heap.objs.size<=b)/\b≠X.env.locals/\(∀ x c,X.env.cells.lookup x=some c->c≠b)/\∀ p∈X.pn++pins,p.1≠b) :
  Inv X pins σ H' {s with heap:=h',gens:=g',drawn:=d',toks:=t'}:=by
 obtain⟨m,⟨o,es,ep,ho,r⟩,_⟩:=id I.loc;obtain⟨sl,hL⟩:=u.any ho I.free fun z=>(hch _ z).2.1 rfl;exact I.step (ch:=ch) hch (fun b o hL hb hc e n=>u.keep b o e n (fun z=>(Ao.mp (I.stkSub b z)).elim hL hb) hc) (fun b o _ _ hc e n=>u.any e n hc) (fun b o hc e n=>u.free b o e n hc) (fun b o hc e=>u.there b o e hc) u.tups u.frzs u.tbls (fun m' hm=>by
  obtain⟨o',es',ep',ho',r'⟩:=hm;rw [ho] at ho';cases ho';exact⟨_,es',ep',hL,r'⟩) hok hg
theorem Inv.turned{t':Nat}{it:Addr}(I:Inv X pins σ H s)(k:∀ b o,b≠it->s.heap.get? b=some o->h'.get? b=some o)(hn:H it=none)(hL:it≠X.env.locals)
  (h1:it∈X.ex\/X.s₀.heap.objs.size<=it) (h2:∀ x c,X.env.cells.lookup x=some c->c≠it) (h3:∀ p∈X.pn++pins,p.1≠it):Inv X pins σ H {s with heap:=h',toks:=t'}:=by
 have nit:∀ b u,H b=some u->b≠it:=fun b u e z=>by rw [z,hn] at e;cases e
 refine I.step (g':=s.gens) (d':=s.drawn) (ch:=[it]) (fun b hb=>?_) (fun b o _ _ hc e _=>k b o (fun z=>hc (by simp [z])) e) (fun b o _ _ hc e _=>⟨o.slots,k b o (fun z=>hc (by simp [z])) e⟩) (fun _ _ _ _ n=>n)
  (fun b o hc e=>⟨o,k b o (fun z=>hc (by simp [z])) e⟩) (fun _ _ e=>e) (fun _ _ _ e=>e) (fun b ps e=>⟨#[],by rw [e];simp⟩) (fun m hm=>?_) (fun b u e=>?_) I.bare
 ·have e:b=it:=by simpa using hb
  subst e;exact⟨h1,hL,h2,h3⟩
 ·obtain⟨o,es,ep,ho,r⟩:=hm;exact⟨o,es,ep,k _ o (Ne.symm hL) ho,r⟩
 ·refine(I.hok b u e).stay (fun c v hc q=>k c v ?_ q) (fun _ q=>q) fun _ _ q=>q
  rcases hc with z | z
  ·rw [z];exact nit b u e
  ·exact nit c _ z
theorem Inv.tok(I:Inv X pins σ H s)(t:Nat):Inv X pins σ H {s with toks:=t}:=I.un (h':=s.heap) (t':=t) Un.refl I.hok
theorem Inv.kept{t':Nat}(I:Inv X pins σ H s)(k:∀ b u,s.heap.get? b=some u->h'.get? b=some u):Inv X pins σ H {s with heap:=h',toks:=t'}:=I.un (Un.kept k) (I.hok.kept k)
theorem Inv.laid{a:Addr}{o:HO}{t':Nat}(I:Inv X pins σ H s)(k:∀ b u,s.heap.get? b=some u->h'.get? b=some u)(hp:s.heap.objs.size<=a)(new:ObjOk X.prog X.w (upd H a o) h' a o) :
  Inv X pins σ (upd H a o) {s with heap:=h',toks:=t'}:=I.un (Un.laid k hp (I.hok.fresh hp)) (I.hok.laid k hp new)
theorem Inv.write{x e:Addr}{o:HO}{t':Nat}(I:Inv X pins σ H s)(mu:Mut (H x))(he:e=x\/H e=some (.own x))(k:∀ b u,b≠e->s.heap.get? b=some u->h'.get? b=some u)(heo:∃ u,h'.get? e=some u)
  (new:ObjOk X.prog X.w (upd H x o) h' x o):Inv X pins σ (upd H x o) {s with heap:=h',toks:=t'}:=I.un (Un.write mu he k heo) (I.hok.write mu he k heo new)
theorem Inv.pins_of{pins':List (Addr×Obj)}(I:Inv X pins σ H s)(h:∀ p∈pins',s.heap.get? p.1=some p.2/\H p.1=none/\p.1≠X.env.locals/\p.1∉X.fs/\∀ v,p.2.data ≠ .cell v):Inv X pins' σ H s:=
 ⟨I.ok,I.os,I.bare,I.base,I.loc,I.cell,I.free,I.freeC,fun p hp=>(Ba.mp hp).elim (fun z=>I.pin p (Ct _ z)) (h p),I.hok,I.len⟩
theorem j74{N:List Str}(hN:N.Nodup){i j:Nat}{x:Str}(a:N[i]?=some x)(b:N[j]?=some x):i=j:=by
 obtain⟨h1,e1⟩:=Ab.mp a;obtain⟨h2,e2⟩:=Ab.mp b;exact(Ey hN).mp (e1.trans e2.symm)
theorem j50{M:Model}{A:Around}{E:Value->Shared->Prop}{i:Nat}{x:Str}{v:V}{u:Value}{Q:Unit->Shared->Prop}(I:Inv X pins σ H s)(hN:X.N.Nodup)(hi:X.N[i]?=some x)(hx:Loc X.env.scope x)(r:RelV v u)
  (h:∀ s',Inv X pins (σ.set i (some v)) H s'->(∃ a,Heap.SameBut a s.heap s'.heap/\(a=X.env.locals\/X.env.cells.lookup x=some a))->Q () s') (hf:X.fn x=true\/X.env.scope.names.lookup x=some .local:=by first | exact .inl rfl | exact .inr rfl | assumption):wpAny M A (storeName X.env x u) Q E s:=by
 obtain⟨m,hn,hl⟩:=id I.loc;have hcls:(X.env.scope.kind == .class || (X.env.scope.kind == .module && X.env.locals != X.env.globals))=false:=by rw [I.ok.kind];rfl
 have hiσ:i < σ.length:=by rw [I.len];exact(Ab.mp hi).1
 have cne:=I.cne;have tracked:∀{a:Addr} {h':Heap},(∃ o,s.heap.get? a=some o/\H a=none)->Heap.SameBut a s.heap h'->HOk X.prog X.w H h':=fun{a h'} ha hs b ob e=>by
  obtain⟨_,_,hfree⟩:=ha;refine(I.hok b ob e).stay (fun c w' hc q=>(hs.2 c ?_).trans q) (fun _ q=>q) fun _ _ q=>q;rintro rfl
  rcases hc with rfl | hc
  ·rw [hfree] at e;cases e
  ·rw [hfree] at hc;cases hc
 rcases hx with hk | hk
 ·refine wpAny_storeName_local hk hn (fun h' hn' hs=>?_) hcls;obtain⟨oL,_,_,hoL,_⟩:=id hn;refine h _ ⟨I.ok,I.os,I.bare,⟨fun b o e n hb hx=>?_,fun b o e n hb hx=>?_,I.base.free,fun b o e hx=>?_,I.base.tups,I.base.frzs,I.base.tbls⟩,⟨_,hn',fun j y v' e1 e2 e3=>?_⟩,fun y c e=>?_,I.free,I.freeC,fun p hp=>?_,tracked ⟨oL,hoL,I.free⟩ hs,by simpa using I.len⟩ ⟨_,hs,.inl rfl⟩
  ·exact(hs.2 b (Ay (Bf (Ai e) I.ok.above))).trans (I.base.keep b o e n hb hx)
  ·obtain⟨sl,e1⟩:=I.base.slot b o e n hb hx;exact⟨sl,(hs.2 b (Ay (Bf (Ai e) I.ok.above))).trans e1⟩
  ·obtain⟨o',e1⟩:=I.base.there b o e hx;exact⟨o',(hs.2 b (Ay (Bf (Ai e) I.ok.above))).trans e1⟩
  ·by_cases hj:j=i
   ·subst hj;rw [hi] at e1;cases e1;rw [Es hiσ] at e2;cases e2;exact⟨u,r,.inl ⟨hk,by simp⟩⟩
   ·rw [Fe (Ne.symm hj)] at e2;obtain⟨u',r',q⟩:=hl j y v' e1 e2 e3;refine⟨u',r',?_⟩
    rcases q with ⟨k,e⟩ | ⟨k,c,e,z⟩
    ·refine .inl ⟨k,?_⟩;have:y≠x:=fun e=>hj (j74 hN e1 (e ▸ hi));simp [this,e]
    ·exact .inr ⟨k,c,e,z.sameBut hs (cne y c e)⟩
  ·obtain⟨w',z⟩:=I.cell y c e;exact⟨w',z.sameBut hs (cne y c e)⟩
  ·obtain⟨e,n,ne,nf,d⟩:=I.pin p hp;exact⟨(hs.2 p.1 ne).trans e,n,ne,nf,d⟩
 ·have hfn:X.fn x=true:=by
   rcases hf with z | z
   ·exact z
   ·rw [z] at hk;cases hk
  obtain⟨c,hc⟩:=I.ok.has x (.inl hk);obtain⟨w',z⟩:=I.cell x c hc;refine wpAny_storeName_cell I.ok.kind hk hc z (fun h' hc' hs=>?_);obtain⟨oc,hoc,hocd⟩:=id z;refine h {s with heap:=h'} ⟨I.ok,I.os,I.bare,⟨fun b o e n hb hx=>?_,fun b o e n hb hx=>?_,I.base.free,fun b o e hx=>?_,I.base.tups,I.base.frzs,I.base.tbls⟩,⟨m,hn.sameBut hs (Ne.symm (cne x c hc)),fun j y v' e1 e2 e3=>?_⟩,fun y c' e=>?_,I.free,I.freeC,fun p hp=>?_,tracked ⟨oc,hoc,I.freeC x c hc⟩ hs,by simpa using I.len⟩ ⟨c,hs,.inr hc⟩
  ·exact(hs.2 b (Ay (Bf (Ai e) (I.ok.cab x c hfn hc)))).trans (I.base.keep b o e n hb hx)
  ·obtain⟨sl,e1⟩:=I.base.slot b o e n hb hx;exact⟨sl,(hs.2 b (Ay (Bf (Ai e) (I.ok.cab x c hfn hc)))).trans e1⟩
  ·obtain⟨o',e1⟩:=I.base.there b o e hx;exact⟨o',(hs.2 b (Ay (Bf (Ai e) (I.ok.cab x c hfn hc)))).trans e1⟩
  ·by_cases hj:j=i
   ·subst hj;rw [hi] at e1;cases e1;rw [Es hiσ] at e2;cases e2;exact⟨u,r,.inr ⟨.inl hk,c,hc,hc'⟩⟩
   ·rw [Fe (Ne.symm hj)] at e2;obtain⟨u',r',q⟩:=hl j y v' e1 e2 e3;refine⟨u',r',?_⟩
    rcases q with q | ⟨k,c',e,z'⟩
    ·exact .inl q
    ·refine .inr ⟨k,c',e,z'.sameBut hs ?_⟩;rintro rfl;exact hj (j74 hN e1 (I.ok.inj _ _ _ e hc ▸ hi))
  ·by_cases hcc:c'=c
   ·subst hcc;exact⟨_,hc'⟩
   ·obtain⟨w2,z2⟩:=I.cell y c' e;exact⟨w2,z2.sameBut hs hcc⟩
  ·obtain⟨e,n,ne,nf,d⟩:=I.pin p hp;refine⟨(hs.2 p.1 ?_).trans e,n,ne,nf,d⟩;intro q;rw [q,hoc] at e;have q':oc=p.2:=Option.some.inj e;exact d w' (by rw [<- q'];exact hocd)
theorem j7k{M:Model}{A:Around}{E:Value->Shared->Prop}{i:Nat}{x:Str}{v:V}{u:Value}{Q:Unit->Shared->Prop}(I:Inv X pins σ H s)(hN:X.N.Nodup)(hi:X.N[i]?=some x)(hx:Loc X.env.scope x)(r:RelV v u)
  (h:∀ s',Inv X pins (σ.set i (some v)) H s'->Q () s') (hf:X.fn x=true\/X.env.scope.names.lookup x=some .local:=by first | exact .inl rfl | exact .inr rfl | assumption):wpAny M A (storeName X.env x u) Q E s:=
 j50 I hN hi hx r (fun s' I' _=>h s' I') hf
theorem Inv.call'{s':Shared}{ch:List Addr}(I:Inv X pins σ H s)(ho:s'.os=s.os)(u:Un (frs X.stack) ch H H' s.heap s'.heap)(hok:HOk X.prog X.w H' s'.heap)(hg:AllBare s'.gens)
  (hch:∀ b∈ch,(b∈X.ex\/X.s₀.heap.objs.size<=b)/\b≠X.env.locals/\(∀ x c,X.env.cells.lookup x=some c->c≠b)/\∀ p∈X.pn++pins,p.1≠b):Inv X pins σ H' s':=by
 obtain⟨h',g',d',t',o'⟩:=s';have e:o'=s.os:=ho;subst e;exact I.call (g':=g') (t':=t') (d':=d') u hok hg hch
end
abbrev XK:=Value->Option Addr->Hp->Prop
abbrev St:=List (Option V)
abbrev VK:=V->Hp->Prop
abbrev TE:=St->Hp->VK->Prop
abbrev TT:=St->Hp->(Bool->Hp->Prop)->Prop
abbrev TA:=St->Hp->(List V->Hp->Prop)->Prop
structure Ends where
 nx:St->Hp->Prop
 rt:VK
 bk:St->Hp->Prop:=fun _ _=>False
 ct:St->Hp->Prop:=fun _ _=>False
abbrev TS:=Ends->St->Hp->Prop
def EP(X:Cx)(pins:List (Addr×Obj))(σ:St)(Q:VK)(u:Value)(s':Shared):Prop:=∃ v H',Inv X pins σ H' s'/\RelV v u/\Q v H'
def TP(X:Cx)(pins:List (Addr×Obj))(σ:St)(Q:Bool->Hp->Prop)(b:Bool)(s':Shared):Prop:=∃ H',Inv X pins σ H' s'/\Q b H'
def AP(X:Cx)(pins:List (Addr×Obj))(σ:St)(Q:List V->Hp->Prop)(us:List Value)(s':Shared):Prop:=∃ vs H',Inv X pins σ H' s'/\Vals vs us/\Q vs H'
def SP(X:Cx)(pins:List (Addr×Obj))(D:Ends)(f:Flow)(s':Shared):Prop:=
 match f with
 | .next=>∃ σ' H',Inv X pins σ' H' s'/\D.nx σ' H'
 | .brk=>∃ σ' H',Inv X pins σ' H' s'/\D.bk σ' H'
 | .cont=>∃ σ' H',Inv X pins σ' H' s'/\D.ct σ' H'
 | .ret u=>∃ v σ' H',Inv X pins σ' H' s'/\RelV v u/\D.rt v H'
def PE(X:Cx)(e:Expr)(t:TE):Prop:=
 ∀(pins:List (Addr×Obj)) (s:Shared) (σ:St) (H:Hp) (Q:VK),Inv X pins σ H s->t σ H Q->wpAny (model X.prog X.w) X.A (eval e X.env) (EP X pins σ Q) X.xe s
def PT(X:Cx)(e:Expr)(t:TT):Prop:=
 ∀(pins:List (Addr×Obj)) (s:Shared) (σ:St) (H:Hp) (Q:Bool->Hp->Prop),Inv X pins σ H s->t σ H Q->wpAny (model X.prog X.w) X.A (isTrue e X.env (eval e X.env)) (TP X pins σ Q) X.xe s
def PW(X:Cx)(e:Expr)(t:TT):Prop:=
 ∀(whole:Sem Value) (pins:List (Addr×Obj)) (s:Shared) (σ:St) (H:Hp) (Q:Bool->Hp->Prop),Inv X pins σ H s->t σ H Q->wpAny (model X.prog X.w) X.A (isTrue e X.env whole) (TP X pins σ Q) X.xe s
def PA(X:Cx)(es:List Expr)(t:TA):Prop:=
 ∀(pos:Pos) (pins:List (Addr×Obj)) (s:Shared) (σ:St) (H:Hp) (Q:List V->Hp->Prop),Inv X pins σ H s->t σ H Q->wpAny (model X.prog X.w) X.A (spliced (backTo pos (starEach es X.env))) (AP X pins σ Q) X.xe s
def PS(X:Cx)(st:Stmt)(t:TS):Prop:=
 ∀(pins:List (Addr×Obj)) (s:Shared) (σ:St) (H:Hp) (D:Ends),Inv X pins σ H s->t D σ H->wpAny (model X.prog X.w) X.A (exec st X.env) (SP X pins D) X.xe s
def PSs(X:Cx)(st:List Stmt)(t:TS):Prop:=
 ∀(pins:List (Addr×Obj)) (s:Shared) (σ:St) (H:Hp) (D:Ends),Inv X pins σ H s->t D σ H->wpAny (model X.prog X.w) X.A (execs st X.env) (SP X pins D) X.xe s
theorem thn{α:Type}{t:Sem α}{Q Q':α->Shared->Prop}{M:Model}{A:Around}{E:Value->Shared->Prop}{s:Shared}(h:wpAny M A t Q E s)(hQ:∀ a s,Q a s->Q' a s):wpAny M A t Q' E s:=wpAny_mono h hQ fun _ _ x=>x
end L2
namespace L2
open PySem PySem.Spec PyProof.Rows
section
variable{X:Cx}
theorem bin{a b:Expr}{ta tb:TE}(ha:PE X a ta)(hb:PE X b tb){pins:List (Addr×Obj)}{s:Shared}{σ:St}{H:Hp}{R:V->V->Hp->Prop}(I:Inv X pins σ H s)(h:ta σ H fun x H1=>tb σ H1 fun y H2=>R x y H2)
  {α:Type} {Q:α->Shared->Prop} {f:Value->Value->Sem α}
  (hf:∀ v u s2 x y H2,Inv X pins σ H2 s2->RelV x v->RelV y u->R x y H2->wpAny (model X.prog X.w) X.A (f v u) Q X.xe s2) :
  wpAny (model X.prog X.w) X.A (eval a X.env) (fun v s₁=>wpAny (model X.prog X.w) X.A (eval b X.env) (fun u s₂=>wpAny (model X.prog X.w) X.A (f v u) Q X.xe s₂) X.xe s₁) X.xe s:=by
 refine thn (ha pins s σ H _ I h) fun v s1 ⟨x,H1,I1,r1,q1⟩=>?_;refine thn (hb pins s1 σ H1 _ I1 q1) fun u s2 ⟨y,H2,I2,r2,q2⟩=>?_;exact hf v u s2 x y H2 I2 r1 r2 q2
def tVar(i:Nat):TE:=fun σ H Q=>∃ v,σ[i]?=some (some v)/\Q v H
def tC(v:V):TE:=fun _ H Q=>Q v H
theorem q3z{i:Nat}{x:Str}{pos:Pos}(hN:X.N[i]?=some x)(hv:Vis X.env.scope x)(hd:(x == ("__debug__" : Str))=false:=by decide)(hcd:(x == ("__classdict__" : Str))=false:=by decide):PE X (.Name x pos) (tVar i):=by
 intro pins s σ H Q I h;obtain⟨v,e,h⟩:=h;obtain⟨m,hn,hl⟩:=I.loc;obtain⟨u,r,l⟩:=hl i x v hN e hv;have fin:EP X pins σ Q u s:=⟨v,H,I,r,h⟩
 rcases l with ⟨hk,hm⟩ | ⟨hk,c,hc,hcell⟩
 ·exact wpAny_Name (wpAny_loadName_local I.ok.kind hk hn hm fin) hd
 ·rcases hk with hk | hk
  ·exact wpAny_Name (wpAny_loadName_cell I.ok.kind hk hc hcell fin) hd
  ·exact wpAny_Name (wpAny_loadName_free I.ok.kind hk hc hcell fin hcd) hd
theorem q19{i j pos}:PE X (.Constant (.int i) j pos) (tC (.int i)):=fun _ _ _ H _ I h=>wpAny_Constant_int ⟨.int i,H,I.tok _,⟨_,rfl⟩,h⟩
theorem q45{b j pos}:PE X (.Constant (.bool b) j pos) (tC (.bl b)):=fun _ _ _ H _ I h=>Constant_bool ⟨.bl b,H,I,rfl,h⟩
theorem q32{j pos}:PE X (.Constant .none j pos) (tC .non):=fun _ _ _ H _ I h=>Constant_none ⟨.non,H,I,rfl,h⟩
theorem q4a{x j pos}:PE X (.Constant (.str x) j pos) (tC (.str x)):=fun _ _ _ H _ I h=>Calls.Constant_str ⟨.str x,H,I.tok _,⟨_,rfl⟩,h⟩
def Gl(X:Cx)(x:Str):Prop:=X.env.kindOf x=some .globalImplicit
theorem j4m{E:Value->Shared->Prop}{pins:List (Addr×Obj)}{s:Shared}{σ:St}{H:Hp}{x:Str}{u:Value}{pos:Pos}{Q:Value->Shared->Prop}(I:Inv X pins σ H s)(hg:Gl X x)(hm:X.mg x=some u)(h:Q u s)
  (hd:(x == ("__debug__" : Str))=false:=by decide):wpAny (model X.prog X.w) X.A (eval (.Name x pos) X.env) Q E s:=
 Calls.Name_function_global I.ok.kind hg (Calls.loadGlobal_global (by rw [I.ok.glob];exact I.mod.glob.keeps I.bk) hm h) hd
theorem j47{E:Value->Shared->Prop}{pins:List (Addr×Obj)}{s:Shared}{σ:St}{H:Hp}{x:Str}{u:Value}{pos:Pos}{Q:Value->Shared->Prop}(I:Inv X pins σ H s)(hg:Gl X x)(hm:X.mg x=none)(hv:bootBuiltins x=some u)(h:Q u s)
  (hn:x ≠ "__name__":=by decide) (hd:(x == ("__debug__" : Str))=false:=by decide):wpAny (model X.prog X.w) X.A (eval (.Name x pos) X.env) Q E s:=by
 obtain⟨mb,h1,h2⟩:=I.mod.blt;exact Calls.Name_function_global I.ok.kind hg (Calls.loadGlobal_builtin (by rw [I.ok.glob];exact I.mod.glob.keeps I.bk) hm (by rw [I.ok.blt];exact h1.keeps I.bk) ((h2 x hn).trans hv) h) hd
theorem q0q{x:Str}{v:V}{u:Value}{pos:Pos}(hg:Gl X x)(hm:X.mg x=some u)(r:RelV v u)(hd:(x == ("__debug__" : Str))=false:=by decide):PE X (.Name x pos) (tC v):=
 fun _ _ _ H _ I h=>j4m I hg hm ⟨v,H,I,r,h⟩ hd
theorem q0m{x:Str}{v:V}{u:Value}{pos:Pos}(hg:Gl X x)(hm:X.mg x=none)(hv:bootBuiltins x=some u)(r:RelV v u)(hn:x ≠ "__name__":=by decide)(hd:(x == ("__debug__" : Str))=false:=by decide):PE X (.Name x pos) (tC v):=
 fun _ _ _ H _ I h=>j47 I hg hm hv ⟨v,H,I,r,h⟩ hn hd
variable{a b:Expr}{ta tb:TE}{pos:Pos}
def PC(X:Cx)(op:CmpOp)(a b:Expr)(t:TE):Prop:=
 ∀(pins:List (Addr×Obj)) (s:Shared) (σ:St) (H:Hp) (Q:VK),Inv X pins σ H s->t σ H Q ->
  wpAny (model X.prog X.w) X.A (eval a X.env) (fun v s₁=>wpAny (model X.prog X.w) X.A (eval b X.env) (fun u s₂=>wpAny (model X.prog X.w) X.A (compareOp op v u) (EP X pins σ Q) X.xe s₂) X.xe s₁) X.xe s
def tB(t:TE):TT:=fun σ H Q=>t σ H fun x H1=>∃ c,x = .bl c/\Q c H1
theorem q2o{op:CmpOp}{t:TE}(h:PC X op a b t)(h1:behindInMarks op b=false:=by first | exact nobehind _ (by decide) (by decide) | rfl):PT X (.Compare a [op] [b] pos) (tB t):=by
 intro pins s σ H Q I hw;refine wpAny_isTrue_Compare1 (thn (h pins s σ H _ I hw) fun v s1 h1=>thn h1 fun u s2 h2=>thn h2 fun c s3 ⟨x,H1,I1,r1,q1⟩=>?_) h1;obtain⟨d,rfl,q⟩:=q1;cases r1;exact wpAny_truthy_bool ⟨H1,I1,q⟩
theorem q39{e:Expr}{t:TE}(h:PE X e t)(he:∀ whole,isTrue e X.env whole=(do let v <- whole;standAt e.pos;holding [v] (truthy v)):=by intro _;rfl):PT X e (tB t):=by
 intro pins s σ H Q I hw;refine isTrue_plain (thn (h pins s σ H _ I hw) fun v s1 ⟨x,H1,I1,r1,q1⟩=>?_) (he _);obtain⟨d,rfl,q⟩:=q1;cases r1;exact wpAny_truthy_bool ⟨H1,I1,q⟩
variable{tA tB':TT}{rest:List Expr}
def tAnd(t u:TT):TT:=fun σ H Q=>t σ H fun c H1=>if c=true then u σ H1 Q else Q false H1
def tOr(t u:TT):TT:=fun σ H Q=>t σ H fun c H1=>if c=true then Q true H1 else u σ H1 Q
def tNot(t:TT):TT:=fun σ H Q=>t σ H fun c H1=>Q (!c) H1
theorem k9f(ha:PT X a tA):PW X (.BoolOp .And [a] pos) tA:=by
 intro wh pins s σ H Q I h;refine isTrue_and (thn (ha pins s σ H Q I h) fun c s1 e=>?_);cases c with
 | true=>exact isTrue_and_nil e
 | false=>exact e
theorem q35(ha:PT X a tA):PW X (.BoolOp .Or [a] pos) tA:=by
 intro wh pins s σ H Q I h;refine isTrue_or (thn (ha pins s σ H Q I h) fun c s1 e=>?_);cases c with
 | false=>exact isTrue_or_nil e
 | true=>exact e
theorem q3a(ha:PT X a tA)(hb:PW X (.BoolOp .And (b :: rest) pos) tB'):PW X (.BoolOp .And (a :: b :: rest) pos) (tAnd tA tB'):=by
 intro wh pins s σ H Q I h;refine isTrue_and (thn (ha pins s σ H _ I h) fun c s1 ⟨H1,I1,q1⟩=>?_);cases c with
 | true=>exact hb wh pins s1 σ H1 Q I1 q1
 | false=>exact⟨H1,I1,q1⟩
theorem q5r(ha:PT X a tA)(hb:PW X (.BoolOp .Or (b :: rest) pos) tB'):PW X (.BoolOp .Or (a :: b :: rest) pos) (tOr tA tB'):=by
 intro wh pins s σ H Q I h;refine isTrue_or (thn (ha pins s σ H _ I h) fun c s1 ⟨H1,I1,q1⟩=>?_);cases c with
 | true=>exact⟨H1,I1,q1⟩
 | false=>exact hb wh pins s1 σ H1 Q I1 q1
theorem q3k(ha:PT X a tA):PT X (.UnaryOp .Not a pos) (tNot tA):=by
 intro pins s σ H Q I h;exact isTrue_not (ha pins s σ H (fun c H1=>Q (!c) H1) I h)
def q5u(ta tb:TE):TE:=fun σ H Q=>ta σ H fun x H1=>∃ c,x = .bl c/\if c=true then tb σ H1 Q else Q (.bl false) H1
def tOrV(ta tb:TE):TE:=fun σ H Q=>ta σ H fun x H1=>∃ c,x = .bl c/\if c=true then Q (.bl true) H1 else tb σ H1 Q
theorem q26{op}{t:TE}(h:PE X a t):PE X (.BoolOp op [a] pos) t:=fun pins s σ H Q I hw=>BoolOp_one (h pins s σ H Q I hw)
theorem q3m(ha:PE X a ta)(hb:PE X (.BoolOp .And (b :: rest) pos) tb):PE X (.BoolOp .And (a :: b :: rest) pos) (q5u ta tb):=by
 intro pins s σ H Q I h;refine BoolOp_and (thn (ha pins s σ H _ I h) fun v s1 ⟨x,H1,I1,r1,q1⟩=>?_);obtain⟨c,rfl,q1⟩:=q1;cases r1;refine wpAny_truthy_bool ?_;cases c with
 | true=>exact hb pins s1 σ H1 Q I1 q1
 | false=>exact⟨.bl false,H1,I1,rfl,q1⟩
theorem q4s(ha:PE X a ta)(hb:PE X (.BoolOp .Or (b :: rest) pos) tb):PE X (.BoolOp .Or (a :: b :: rest) pos) (tOrV ta tb):=by
 intro pins s σ H Q I h;refine BoolOp_or (thn (ha pins s σ H _ I h) fun v s1 ⟨x,H1,I1,r1,q1⟩=>?_);obtain⟨c,rfl,q1⟩:=q1;cases r1;refine wpAny_truthy_bool ?_;cases c with
 | false=>exact hb pins s1 σ H1 Q I1 q1
 | true=>exact⟨.bl true,H1,I1,rfl,q1⟩
end
end L2
namespace L2
open PySem PySem.Spec PyProof.Rows
def SqL(K:PySem.W.Frag)(H:Hp)(a:Addr)(xs:List V):Prop:=
 Rd H a (.lst xs) \/
  ∃(o:Obj) (its:Array Value) (n:Nat),K.lookup a=some o/\o.cls = .type "list"/\o.dict=none/\o.data = .seq its n/\its.size<=sizeLine/\Vals xs its.toList
def SqT(K:PySem.W.Frag)(H:Hp)(a:Addr)(xs:List V):Prop:=
 Rd H a (.tup xs) \/
  ∃(o:Obj) (its:Array Value) (n:Nat),K.lookup a=some o/\o.cls = .type "tuple"/\o.data = .seq its n/\its.size<=sizeLine/\Vals xs its.toList
def absV:Value->Option V
 | .none=>some .non
 | .bool b=>some (.bl b)
 | .int i _=>some (.int i)
 | .str x _=>some (.str x)
 | .bytes b _=>some (.byt b)
 | .float b _=>some (.flt b)
 | .ref a=>some (.ref a)
 | .type n=>some (.ty n)
 | _=>none
theorem RelV.abs{x:V}{u:Value}(r:RelV x u):absV u=some x:=by
 cases x with
 | non=>cases r;rfl
 | bl _=>cases r;rfl
 | int _=>obtain⟨t,rfl⟩:=r;rfl
 | str _=>obtain⟨t,rfl⟩:=r;rfl
 | byt _=>obtain⟨t,rfl⟩:=r;rfl
 | flt _=>obtain⟨t,rfl⟩:=r;rfl
 | ref _=>cases r;rfl
 | ty _=>cases r;rfl
theorem RelV.inj{x y:V}{u:Value}(r:RelV x u)(q:RelV y u):x=y:=Option.some.inj (r.abs.symm.trans q.abs)
theorem Vals.inj:∀{xs ys:List V} {us:List Value},Vals xs us->Vals ys us->xs=ys
 | _,_,_,.nil,.nil=>rfl
 | _,_,_,.cons r t,.cons r' t'=>by rw [r.inj r',Vals.inj t t']
section
variable{X:Cx}{pins:List (Addr×Obj)}{σ:St}{H:Hp}{s:Shared}{a:Addr}{xs ys:List V}
theorem SqL.of{K:PySem.W.Frag}(h:H a=some (.lst xs)):SqL K H a xs:= .inl (.inl h)
theorem SqT.of{K:PySem.W.Frag}(h:H a=some (.tup xs)):SqT K H a xs:= .inl (.inl h)
theorem Inv.list(I:Inv X pins σ H s)(h:SqL X.K H a xs):∃ its:List Value,Vals xs its/\PlainL s.heap a its.toArray/\xs.length<=sizeLine:=by
 rcases h with h | ⟨o,its,n,hk,hc,hd,hs,hz,r⟩
 ·obtain⟨z,its,n,r,e⟩:=h.ok I.hok;exact⟨its,r,⟨_,n,e,rfl,rfl,rfl⟩,z⟩
 ·refine⟨its.toList,r,⟨o,n,I.kIn a o hk,hc,hd,by simpa using hs⟩,?_⟩;have e:=r.length;simp only [Cj] at e;omega
theorem Inv.tuple(I:Inv X pins σ H s)(h:SqT X.K H a xs):∃ its:List Value,Vals xs its/\IsTup s.heap a its.toArray/\xs.length<=sizeLine:=by
 rcases h with h | ⟨o,its,n,hk,hc,hs,hz,r⟩
 ·obtain⟨z,its,r,p⟩:=h.ok I.hok;exact⟨its,r,p,z⟩
 ·refine⟨its.toList,r,⟨o,I.kIn a o hk,hc,n,by simpa using hs⟩,?_⟩;have e:=r.length;simp only [Cj] at e;omega
theorem Inv.list_inj(I:Inv X pins σ H s)(h:SqL X.K H a xs)(h':SqL X.K H a ys):xs=ys:=by
 obtain⟨its,r,⟨o,n,e,_,_,d⟩,_⟩:=I.list h;obtain⟨its',r',⟨o',n',e',_,_,d'⟩,_⟩:=I.list h';rw [e] at e';cases e';rw [d] at d'
 injection d' with d1 _
 have:its=its':=by simpa using congrArg Array.toList d1
 subst this;exact r.inj r'
end
abbrev Cx.wish(X:Cx)(E:Value->Shared->Prop):Cx:={X with xe:=E}
abbrev Cx.nox(X:Cx):Cx:=X.wish fun _ _=>False
theorem Cx.Ok.wish{X:Cx}(ok:X.Ok)(E:Value->Shared->Prop):(X.wish E).Ok:=
 ⟨ok.mod,ok.kind,ok.glob,ok.blt,ok.above,ok.inj,ok.has,ok.cab,ok.hd,ok.frames,ok.stk,ok.exf,ok.bs,ok.bsz,ok.noex,ok.exfs,ok.funs,ok.frf⟩
theorem Cx.Ok.unwish{X:Cx}{E:Value->Shared->Prop}(ok:(X.wish E).Ok):X.Ok:=
 ⟨ok.mod,ok.kind,ok.glob,ok.blt,ok.above,ok.inj,ok.has,ok.cab,ok.hd,ok.frames,ok.stk,ok.exf,ok.bs,ok.bsz,ok.noex,ok.exfs,ok.funs,ok.frf⟩
section
variable{X:Cx}{pins:List (Addr×Obj)}{σ:St}{H:Hp}{s:Shared}{E:Value->Shared->Prop}
theorem Inv.wish(I:Inv X pins σ H s)(E:Value->Shared->Prop):Inv (X.wish E) pins σ H s:=⟨I.ok.wish E,I.os,I.bare,I.base,I.loc,I.cell,I.free,I.freeC,I.pin,I.hok,I.len⟩
theorem Inv.unwish(I:Inv (X.wish E) pins σ H s):Inv X pins σ H s:=⟨I.ok.unwish,I.os,I.bare,I.base,I.loc,I.cell,I.free,I.freeC,I.pin,I.hok,I.len⟩
theorem SP.unwish{D:Ends}{f:Flow}{s':Shared}(h:SP (X.wish E) pins D f s'):SP X pins D f s':=by
 cases f with
 | next=>obtain⟨σ',H',I,q⟩:=h;exact⟨σ',H',I.unwish,q⟩
 | brk=>obtain⟨σ',H',I,q⟩:=h;exact⟨σ',H',I.unwish,q⟩
 | cont=>obtain⟨σ',H',I,q⟩:=h;exact⟨σ',H',I.unwish,q⟩
 | ret u=>obtain⟨v,σ',H',I,r,q⟩:=h;exact⟨v,σ',H',I.unwish,r,q⟩
theorem PSs.nox{st:List Stmt}{t:TS}(h:PSs X.nox st t):PSs X st t:=fun pins s σ H D I hw=>
 wpAny_mono (h pins s σ H D (I.wish _) hw) (fun _ _ q=>q.unwish) fun _ _ z=>False.elim z
end
section
variable{X:Cx}{st:Stmt}{rest:List Stmt}{t u:TS}{e:Expr}{te:TE}{pos:Pos}
def q5o:TS:=fun D σ H=>D.nx σ H
def tSeq(t u:TS):TS:=fun D σ H=>t {D with nx:=u D} σ H
theorem k4i:PSs X [] q5o:=fun _ _ σ H _ I h=>wpAny_execs_nil ⟨σ,H,I,h⟩
theorem k7g(h1:PS X st t)(h2:PSs X rest u):PSs X (st :: rest) (tSeq t u):=by
 intro pins s σ H D I h;refine wpAny_execs_cons (thn (h1 pins s σ H {D with nx:=u D} I h) fun f s1 q=>?_);cases f with
 | next=>
  obtain⟨σ',H',I',q⟩:=q;exact h2 pins s1 σ' H' D I' q
 | ret v=>exact q
 | brk=>exact q
 | cont=>exact q
theorem Inv.quiet{pins:List (Addr×Obj)}{σ:St}{H:Hp}{s:Shared}(I:Inv X pins σ H s):interactive X.env=false:=by simp [interactive,I.ok.kind]
def q4t(te:TE):TS:=fun D σ H=>te σ H fun _ H1=>D.nx σ H1
theorem q0e(he:PE X e te)(hs:swapsWith e none pos.line X.env=pure false:=by rfl):PS X (.Expr e pos) (q4t te):=by
 intro pins s σ H D I h;exact wpAny_Expr_any (thn (he pins s σ H _ I h) fun v s1 ⟨x,H1,I1,r1,q1⟩=>⟨σ,H1,I1,q1⟩) I.quiet hs
def tRet(te:TE):TS:=fun D σ H=>te σ H D.rt
theorem q1s(he:PE X e te):PS X (.Return (some e) pos) (tRet te):=by
 intro pins s σ H D I h;exact wpAny_Return_some (thn (he pins s σ H _ I h) fun v s1 ⟨x,H1,I1,r1,q1⟩=>⟨x,σ,H1,I1,r1,q1⟩)
def tIfS(c:TT)(t u:TS):TS:=fun D σ H=>c σ H fun b H1=>if b=true then t D σ H1 else u D σ H1
theorem q4x{c:Expr}{a b:List Stmt}{tc:TT}(hc:PT X c tc)(ha:PSs X a t)(hb:PSs X b u):PS X (.If c a b pos) (tIfS tc t u):=by
 intro pins s σ H D I h;refine wpAny_If (thn (hc pins s σ H _ I h) fun d s1 ⟨H1,I1,q1⟩=>?_);cases d with
 | true=>exact ha pins s1 σ H1 D I1 q1
 | false=>exact hb pins s1 σ H1 D I1 q1
end
abbrev TG:=V->St->Hp->(St->Hp->Prop)->Prop
abbrev TGs:=List V->St->Hp->(St->Hp->Prop)->Prop
def PG(X:Cx)(target:Expr)(t:TG):Prop:=
 ∀(pins:List (Addr×Obj)) (s:Shared) (σ:St) (H:Hp) (v:V) (u:Value) (Q:St->Hp->Prop),Inv X pins σ H s->RelV v u->t v σ H Q ->
  wpAny (model X.prog X.w) X.A (assign target X.env u) (fun _ s'=>∃ σ' H',Inv X pins σ' H' s'/\Q σ' H') X.xe s
def PGs(X:Cx)(ts:List Expr)(t:TGs):Prop:=
 ∀(pins:List (Addr×Obj)) (s:Shared) (σ:St) (H:Hp) (vs:List V) (us:List Value) (Q:St->Hp->Prop),Inv X pins σ H s->Vals vs us->t vs σ H Q ->
  wpAny (model X.prog X.w) X.A (assignInOrder ((assignEach ts X.env).map (·.2)) us) (fun _ s'=>∃ σ' H',Inv X pins σ' H' s'/\Q σ' H') X.xe s
section
variable{X:Cx}{pos:Pos}
def k2j(i:Nat):TG:=fun v σ H Q=>Q (σ.set i (some v)) H
theorem k9g{i:Nat}{x:Str}(hN:X.N.Nodup)(hi:X.N[i]?=some x)(hx:Loc X.env.scope x)(hf:X.fn x=true\/X.env.scope.names.lookup x=some .local:=by first | exact .inl rfl | exact .inr rfl | assumption):PG X (.Name x pos) (k2j i):=by
 intro pins s σ H v u Q I r h;exact wpAny_assign_Name (j7k I hN hi hx r (fun s' I'=>⟨_,H,I',h⟩) hf)
def gNil:TGs:=fun vs σ H Q=>vs=[]/\Q σ H
def q09(t:TG)(u:TGs):TGs:=fun vs σ H Q=>∃ v r,vs=v :: r/\t v σ H fun σ' H'=>u r σ' H' Q
theorem q1g:PGs X [] gNil:=by
 intro pins s σ H vs us Q I r h;obtain⟨e,h⟩:=h;subst e;cases r;exact assignInOrder_nil ⟨σ,H,I,h⟩
theorem k1c{e:Expr}{es:List Expr}{t:TG}{u:TGs}(h1:PG X e t)(h2:PGs X es u)
  (hs:(assignEach (e :: es) X.env).map (·.2)=assign e X.env :: (assignEach es X.env).map (·.2):=by rfl):PGs X (e :: es) (q09 t u):=by
 intro pins s σ H vs us Q I r h;obtain⟨v,vr,e1,h⟩:=h;subst e1;cases r with
 | cons r rr=>
  rw [hs];refine assignInOrder_cons (thn (h1 pins s σ H _ _ _ I r h) fun _ s1 ⟨σ1,H1,I1,q1⟩=>?_);exact h2 pins s1 σ1 H1 _ _ Q I1 rr q1
def gTup(K:PySem.W.Frag)(n:Nat)(t:TGs):TG:=fun v σ H Q=>∃ a xs,v = .ref a/\SqT K H a xs/\xs.length=n/\t xs σ H Q
theorem q2q{es:List Expr}{k:Nat}{t:TGs}{n:Nat}(hc:X.calm=true)(h:PGs X es t)
  (hn:(assignEach es X.env).length=n:=by rfl) (hst:(assignEach es X.env).findIdx? (·.1)=none:=by rfl):PG X (.Tuple es k pos) (gTup X.K n t):=by
 intro pins s σ H v u Q I r hw;obtain⟨a,xs,e1,hq,hl,hw⟩:=hw;subst e1;cases r;obtain⟨its,rv,ht,hz⟩:=I.tuple hq;refine assign_Tuple_tuple (I.ok.hd hc) ht (by simp [hn,<- hl,rv.length]) hst fun h' hx=>?_;have I1:Inv X pins σ H {s with heap:=h'}:=I.kept (t':=s.toks) fun b o e=>hx b o (Ay (Ai e)) e;exact h pins _ σ H xs _ Q I1 (by simpa using rv) hw
def tAsg(te:TE)(g:TG):TS:=fun D σ H=>te σ H fun x H1=>g x σ H1 D.nx
theorem q2w{tg e:Expr}{te:TE}{g:TG}(he:PE X e te)(hg:PG X tg g)(hs:swapsWithSole [tg] e pos.line X.env=pure false:=by rfl)(hw:swappedStores [tg] e X.env=pure none:=by rfl)
  (h1:(assignEach [tg] X.env).map (·.2)=[assign tg X.env]:=by rfl):PS X (.Assign [tg] e pos) (tAsg te g):=by
 intro pins s σ H D I h;refine wpAny_Assign_stores (thn (he pins s σ H _ I h) fun v s1 ⟨x,H1,I1,r1,q1⟩=>?_) hs hw;rw [h1];exact thn (hg pins s1 σ H1 x v _ I1 r1 q1) fun _ s2 q=>q
theorem q1o{i:Nat}{x:Str}{e:Expr}{te:TE}{pos':Pos}(hN:X.N.Nodup)(hi:X.N[i]?=some x)(hx:Loc X.env.scope x)(he:PE X e te)(hs:swapsWith e (some (.Name x pos')) pos.line X.env=pure false:=by rfl)(hf:X.fn x=true\/X.env.scope.names.lookup x=some .local:=by first | exact .inl rfl | exact .inr rfl | assumption) :
  PS X (.Assign [.Name x pos'] e pos) (tAsg te (k2j i)):=by
 intro pins s σ H D I h;refine wpAny_Assign_Name (thn (he pins s σ H _ I h) fun v s1 ⟨y,H1,I1,r1,q1⟩=>?_) hs;exact j7k I1 hN hi hx r1 (fun s2 I2=>⟨_,H1,I2,q1⟩) hf
end
section
variable{X:Cx}{pos:Pos}
def q3q(c:TT)(tb:TS):TS:=fun D σ H=>∃ W:Nat->St->Hp->Prop,(∃ m,W m σ H)/\∀ m σ H,W m σ H ->
 c σ H fun b H1=>if b=true then ∃ N:St->Hp->Prop,(∀ σ' H',N σ' H'->∃ m',m' < m/\W m' σ' H')/\tb {D with nx:=N,ct:=N,bk:=D.nx} σ H1 else D.nx σ H1
theorem k76{c:Expr}{body:List Stmt}{tc:TT}{tb:TS}(hp:PassesOwn (model X.prog X.w) X.A X.env X.xe)(hc:PT X c tc)(hb:PSs X body tb):PS X (.While c body [] pos) (q3q tc tb):=by
 intro pins s σ H D I h;obtain⟨W,⟨m0,w0⟩,turn⟩:=h;refine wpAny_While (codeAny_whileLoop (fun n s'=>∃ σ' H',Inv X pins σ' H' s'/\W n σ' H') ?_ m0 ⟨σ,H,I,w0⟩);rintro n s1 ⟨σ1,H1,I1,w1⟩;refine wpAny_passesOwn hp (thn (hc pins s1 σ1 H1 _ I1 (turn n σ1 H1 w1)) fun b s2 ⟨H2,I2,q2⟩=>?_);cases b with
 | true=>
  obtain⟨N,hN,q2⟩:=q2;rw [if_pos rfl];refine wpAny_passesOwn hp (thn (hb pins s2 σ1 H2 _ I2 q2) fun f s3 q3=>?_);cases f with
  | next=>
   obtain⟨σ3,H3,I3,n3⟩:=q3;obtain⟨m',hm,w3⟩:=hN σ3 H3 n3;exact⟨m',hm,σ3,H3,I3,w3⟩
  | cont=>
   obtain⟨σ3,H3,I3,n3⟩:=q3;obtain⟨m',hm,w3⟩:=hN σ3 H3 n3;exact⟨m',hm,σ3,H3,I3,w3⟩
  | brk=>exact q3
  | ret v=>exact q3
 | false=>
  rw [if_neg Ak];exact wpAny_execs_nil ⟨σ1,H2,I2,q2⟩
end
structure It where
 go:Nat->Hp->Prop
 yld:Nat->Hp->V->Hp->Prop
 stop:Nat->Hp->Prop
def FpOk(X:Cx)(pins:List (Addr×Obj))(H:Hp)(b:Addr):Prop:=
 H b=none/\b≠X.env.locals/\b∉X.fs/\(b∈X.ex\/X.s₀.heap.objs.size<=b)/\(∀ x c,X.env.cells.lookup x=some c->c≠b)/\∀ p∈X.pn++pins,p.1≠b
theorem Inv.fpOk{X:Cx}{pins:List (Addr×Obj)}{σ:St}{H H':Hp}{s:Shared}{b:Addr}(I:Inv X pins σ H s)(hb:s.heap.objs.size<=b)(hn:H' b=none):FpOk X pins H' b:=by
 refine⟨hn,Cd (Bf I.lt hb),I.nofs hb,.inr (Bs I.sz hb),fun x c e z=>?_,fun p hp z=>?_⟩
 ·obtain⟨v,q⟩:=I.cell x c e;exact absurd (Bf q.lt (by rw [z];exact hb)) (Bo _)
 ·exact absurd (Bf (Ai (I.pin p hp).1) (by rw [z];exact hb)) (Bo _)
structure Turn(P:Program)(w:World)(K:PySem.W.Frag)(tg:Expr)(J:It)(fp:List Addr)(it:Addr)(tn:Nat->Heap->Prop):Prop where
 mem:it∈fp
 obj:∀ i h,tn i h->∀ b∈fp,∃ o,h.get? b=some o/\∀ v,o.data ≠ .cell v
 keep:∀ i h h',tn i h->(∀ b∈fp,∀ o,h.get? b=some o->h'.get? b=some o)->tn i h'
 item:∀(X:Cx),X.prog=P->X.w=w->X.K=K->X.calm=true->∀(i:Nat) (pins:List (Addr×Obj)) (s:Shared) (σ:St) (H:Hp) (E:Value->Shared->Prop),Inv X pins σ H s->(∀ b∈fp,FpOk X pins H b)->tn i s.heap->J.go i H ->
  wpAny (model P w) X.A (pyNext (.ref it)) (fun r s1=>∃ u,r=some u /\
   wpAny (model P w) X.A (letOwnedTupleGo tg (.ref it) u) (fun _ s2=>∃ x H',Inv X pins σ H' s2/\RelV x u/\J.yld i H x H'/\tn (i+1) s2.heap/\∀ b∈fp,H' b=none) E s1) E s
 done:∀(X:Cx),X.prog=P->X.w=w->X.K=K->X.calm=true->∀(i:Nat) (pins:List (Addr×Obj)) (s:Shared) (σ:St) (H:Hp) (E:Value->Shared->Prop),Inv X pins σ H s->(∀ b∈fp,FpOk X pins H b)->tn i s.heap->J.stop i H ->
  wpAny (model P w) X.A (pyNext (.ref it)) (fun r s1=>r=none/\Inv X pins σ H s1) E s
 self:∀(A:Around) (i:Nat) (s:Shared) (Q:Value->Shared->Prop) (E:Value->Shared->Prop),tn i s.heap->Q (.ref it) s->wpAny (model P w) A (pyIter (.ref it)) Q E s
abbrev TI:=St->Hp->(It->Hp->Prop)->Prop
def PIE(X:Cx)(pins:List (Addr×Obj))(σ:St)(tg:Expr)(R:It->Hp->Prop)(itv:Value)(s2:Shared):Prop:=
 ∃(it:Addr) (fp:List Addr) (tn:Nat->Heap->Prop) (J:It) (H':Hp),itv = .ref it/\Inv X pins σ H' s2/\Turn X.prog X.w X.K tg J fp it tn/\tn 0 s2.heap/\(∀ b∈fp,FpOk X pins H' b)/\R J H'
def PI(X:Cx)(tg iter:Expr)(wi:TI):Prop:=
 ∀(pins:List (Addr×Obj)) (s:Shared) (σ:St) (H:Hp) (R:It->Hp->Prop),Inv X pins σ H s->wi σ H R ->
  wpAny (model X.prog X.w) X.A (eval iter X.env) (fun v s1=>wpAny (model X.prog X.w) X.A (pyIter v) (PIE X pins σ tg R) X.xe s1) X.xe s
theorem k3s{M:Model}{A:Around}{E:Value->Shared->Prop}{s:Shared}{tg:Expr}{it:Addr}{u:Value}{o:Obj}{n:String}{vs:Array Value}{Q:Unit->Shared->Prop}(ho:s.heap.get? it=some o)(hc:o.cls = .type n)(hd:o.data = .fields vs)
    (hn:["enumerate","zip","dict_itemiterator","dict_reverseitemiterator","odict_iterator","itertools.zip_longest","itertools.pairwise"].contains n=false) (hQ:Q () s):wpAny M A (letOwnedTupleGo tg (.ref it) u) Q E s:=by
  unfold letOwnedTupleGo;cases tg <;> first
    | exact wpAny_pure hQ
    | (cases u <;> first
        | exact wpAny_pure hQ
        | (refine wpAny_bind (wpAny_load ho ?_)
           rw [hc,hd];show wpAny M A (if(["enumerate","zip","dict_itemiterator","dict_reverseitemiterator","odict_iterator","itertools.zip_longest","itertools.pairwise"].contains n && vs[0]? == some (rawInt _))=true then _ else _) Q E s;rw [if_neg (by intro h;rw [hn,Bool.false_and] at h;cases h)];exact wpAny_pure hQ))
def Itl(K:PySem.W.Frag)(a:Addr):It:=
 ⟨fun i H=>∃ xs x,SqL K H a xs/\xs[i]?=some x,fun i H x H'=>H'=H/\∀ xs,SqL K H a xs->xs[i]?=some x,fun i H=>∃ xs,SqL K H a xs/\xs.length<=i⟩
def Itt(K:PySem.W.Frag)(a:Addr):It:=
 ⟨fun i H=>∃ xs x,SqT K H a xs/\xs[i]?=some x,fun i H x H'=>H'=H/\∀ xs,SqT K H a xs->xs[i]?=some x,fun i H=>∃ xs,SqT K H a xs/\xs.length<=i⟩
def Itr(lo:Int)(n:Nat):It:=⟨fun i _=>i < n,fun i H x H'=>H'=H/\x = .int (lo+i),fun i _=>n<=i⟩
theorem k36{P:Program}{w:World}{K:PySem.W.Frag}{tg:Expr}(a it:Addr):Turn P w K tg (Itl K a) [it] it (fun i h=>h.IsListIter it a i) where
 mem:=by simp
 obj:=fun i h st b hb=>by
  have e:b=it:=by simpa using hb
  subst e;obtain⟨o,e,c,d⟩:=st;exact⟨o,e,fun v z=>by rw [d] at z;cases z⟩
 keep:=fun i h h' st k=>st.at fun o e=>k it (by simp) o e
 item:=by
  intro X hP hw hK hc i pins s σ H E I hf st hg;subst hP hw hK;obtain⟨xs,x,hq,hx⟩:=hg;obtain⟨its,rv,p,hz⟩:=I.list hq;obtain⟨u,hu,ru⟩:=rv.get hx;obtain⟨f0,f1,f2,f3,f4,f5⟩:=hf it (by simp);refine wpAny_pyNext_list_item st p.isList (x:=u) (by simpa using hu) fun h' st' sb=>?_;have I1:Inv X pins σ H {s with heap:=h'}:=I.turned (t':=s.toks) (fun b o hb e=>(sb.2 b hb).trans e) f0 f1 f3 f4 f5;obtain⟨o,e,c,d⟩:=id st';exact⟨u,rfl,k3s (s:={s with heap:=h'}) e c d (by decide) ⟨x,H,I1,ru,⟨rfl,fun ys hy=>by rw [I.list_inj hy hq];exact hx⟩,st',fun b hb=>(hf b hb).1⟩⟩
 done:=by
  intro X hP hw hK hc i pins s σ H E I hf st hg;subst hP hw hK;obtain⟨xs,hq,hx⟩:=hg;obtain⟨its,rv,p,hz⟩:=I.list hq;obtain⟨f0,f1,f2,f3,f4,f5⟩:=hf it (by simp);have hl:=rv.length;exact wpAny_pyNext_list_end (I.ok.hd hc) st p.isList (by simp;omega) fun h' eb=>⟨rfl,I.turned (t':=s.toks) (fun b o hb e=>eb b o hb e) f0 f1 f3 f4 f5⟩
 self:=fun _ _ _ _ _ st h=>wpAny_pyIter_listiter st h
theorem k2i{P:Program}{w:World}{K:PySem.W.Frag}{tg:Expr}(it:Addr)(lo:Int)(n:Nat):Turn P w K tg (Itr lo n) [it] it (fun i h=>IsRangeIter h it (lo+(i:Nat) * 1) ((n:Int) - (i:Nat)) 1) where
 mem:=by simp
 obj:=fun i h st b hb=>by
  have e:b=it:=by simpa using hb
  subst e;exact⟨_,st,fun v z=>by
   have z':Data.fields _=Data.cell v:=z;cases z'⟩
 keep:=fun i h h' st k=>k it (by simp) _ st
 item:=by
  intro X hP hw hK hc i pins s σ H E I hf st hg;subst hP hw hK;obtain⟨f0,f1,f2,f3,f4,f5⟩:=hf it (by simp);have W:=Walks.range (prog:=X.prog) (w:=X.w) (I.ok.hd hc) it lo 1 n;refine W.item i s _ _ hg st fun v h' tk hv st' kk=>?_;obtain⟨t,rfl⟩:=hv;have I1:Inv X pins σ H {s with heap:=h',toks:=tk}:=I.turned (fun b o hb e=>kk b o (by simpa using hb) e) f0 f1 f3 f4 f5;refine⟨_,rfl,k3s (s:={s with heap:=h',toks:=tk}) (n:= "range_iterator") st' rfl rfl (by decide) ⟨.int (lo+i),H,I1,⟨t,?_⟩,⟨rfl,rfl⟩,st',fun b hb=>(hf b hb).1⟩⟩;rw [Int.mul_one]
 done:=by
  intro X hP hw hK hc i pins s σ H E I hf st hg;subst hP hw hK;obtain⟨f0,f1,f2,f3,f4,f5⟩:=hf it (by simp);exact wpAny_pyNext_range_end (I.ok.hd hc) st (by have:n<=i:=hg;omega) fun h' eb=>⟨rfl,I.turned (t':=s.toks) (fun b o hb e=>eb b o hb e) f0 f1 f3 f4 f5⟩
 self:=fun _ _ _ _ _ st h=>wpAny_pyIter_rangeiter st h
end L2
namespace L2
open PySem PySem.Spec PyProof.Rows
section
variable{X:Cx}{tg:Expr}
def q1p(K:PySem.W.Frag)(tl:TE):TI:=fun σ H R=>tl σ H fun x H1=>∃ a,x = .ref a/\(∃ xs,SqL K H1 a xs)/\R (Itl K a) H1
theorem j22{l:Expr}{tl:TE}(hl:PE X l tl):PI X tg l (q1p X.K tl):=by
 intro pins s σ H R I h;refine thn (hl pins s σ H _ I h) fun v s1 ⟨x,H1,I1,r1,q1⟩=>?_;obtain⟨a,e,⟨xs,hq⟩,q⟩:=q1;subst e;cases r1;obtain⟨its,rv,p,hz⟩:=I1.list hq;refine wpAny_pyIter_list p.isList ?_;refine⟨s1.heap.objs.size,[s1.heap.objs.size],_,_,H1,rfl,I1.kept (t':=s1.toks) fun b o e=>Ad _ e,k36 a _,⟨_,Aj _ rfl,rfl,rfl⟩,fun b hb=>?_,q⟩;have e:b=s1.heap.objs.size:=by simpa using hb
 subst e;exact I1.fpOk (Ag _) (I1.hok.fresh (Ag _))
theorem k7j{pins:List (Addr×Obj)}{σ:St}{H:Hp}{s:Shared}{R:It->Hp->Prop}{E:Value->Shared->Prop}{lo hi:Int}{t u v:Tok}{tk:Nat}(I:Inv X pins σ H s)(h1:-(2 ^ 62)<=lo)(h2:lo < 2 ^ 62)(h3:-(2 ^ 62)<=hi)(h4:hi < 2 ^ 62)
  (q:R (Itr lo (hi - lo).toNat) H):wpAny (model X.prog X.w) X.A (pyIter (.ref s.heap.objs.size)) (PIE X pins σ tg R) E {s with heap:=s.heap.push {cls:= .type "range",data:= .fields #[.int lo t,.int hi u,.int 1 v]},toks:=tk}:=by
 refine wpAny_pyIter_range (IsRange.new ..) (small_one h1 h2 h3 h4) ?_;have I1:Inv X pins σ H {s with heap:=s.heap.push {cls:= .type "range",data:= .fields #[.int lo t,.int hi u,.int 1 v]},toks:=tk}:=I.kept fun b o e=>Ad _ e;refine⟨(s.heap.push {cls:= .type "range",data:= .fields #[.int lo t,.int hi u,.int 1 v]}).objs.size,[(s.heap.push {cls:= .type "range",data:= .fields #[.int lo t,.int hi u,.int 1 v]}).objs.size],_,_,H,rfl,
  I1.kept (t':=tk) fun b o e=>Ad _ e,k2i _ lo (hi - lo).toNat,?_,fun b hb=>?_,q⟩
 ·have e1:lo+((0:Nat):Int) * 1=lo:=by simp
  have e2:(((hi - lo).toNat:Nat):Int) - ((0:Nat):Int)=Builtin.Range.rangeSize lo hi 1:=by rw [rangeSize_one];split <;> omega
  show IsRangeIter _ _ (lo+((0:Nat):Int) * 1) ((((hi - lo).toNat:Nat):Int) - ((0:Nat):Int)) 1;rw [e1,e2];exact Aj _ rfl
 ·have e:b=(s.heap.push {cls:= .type "range",data:= .fields #[.int lo t,.int hi u,.int 1 v]}).objs.size:=by simpa using hb
  subst e;exact I1.fpOk (Ag _) (I1.hok.fresh (Ag _))
def q4c(ta:TA):TI:=fun σ H R=>ta σ H fun vs H1=>∃ j:Int,vs=[.int j]/\-(2 ^ 62)<=j/\j < 2 ^ 62/\R (Itr 0 j.toNat) H1
theorem j6f{a:Expr}{ta:TA}{p pos:Pos}(hg:Gl X "range")(hm:X.mg "range" = none)(ha:PA X [a] ta)(hs:starEach [a] X.env=[(false,eval a X.env)]:=by rfl):PI X tg (.Call (.Name "range" p) [a] [] pos) (q4c ta):=by
 intro pins s σ H R I h;refine Call_ (j47 I hg hm boot_range (PyProof.Rows.callWith_type1 (thn (ha pos pins s σ H _ I h) fun us s1 ⟨vs,H1,I1,r1,q1⟩=>?_) hs rfl));obtain⟨j,e,q1,q2,q⟩:=q1;subst e;cases r1 with
 | cons r rr=>
  cases rr;obtain⟨t,rfl⟩:=r;exact call_range_1 (k7j I1 (by omega) (by omega) q1 q2 (by simpa using q))
def tFor(wi:TI)(g:TG)(tb:TS):TS:=fun D σ H=>wi σ H fun J H1=>∃ W:Nat->Nat->St->Hp->Prop,(∃ m,W 0 m σ H1)/\∀ i m σ H,W i m σ H ->
 (J.stop i H/\D.nx σ H)\/(J.go i H/\∃ N:St->Hp->Prop,(∀ σ' H',N σ' H'->∃ m',m' < m/\W (i+1) m' σ' H')/\∀ x H',J.yld i H x H'->g x σ H' fun σ2 H2=>tb {D with nx:=N,ct:=N,bk:=D.nx} σ2 H2)
def j5a(fp:List Addr)(h:Heap):List (Addr×Obj):=fp.filterMap fun b=>(h.get? b).map fun o=>(b,o)
theorem j1j{fp:List Addr}{h:Heap}{b:Addr}{o:Obj}(hb:b∈fp)(e:h.get? b=some o):(b,o)∈j5a fp h:=Er.mpr ⟨b,hb,by rw [e];rfl⟩
theorem k4w{fp:List Addr}{h:Heap}{p:Addr×Obj}(hp:p∈j5a fp h):p.1∈fp/\h.get? p.1=some p.2:=by
 obtain⟨b,hb,e⟩:=Er.mp hp;cases q:h.get? b with
 | none=>rw [q] at e;cases e
 | some o=>
  rw [q] at e;have e':(b,o)=p:=Option.some.inj e;subst e';exact⟨hb,q⟩
theorem Inv.pinned{pins:List (Addr×Obj)}{σ:St}{H:Hp}{s:Shared}{fp:List Addr}(I:Inv X pins σ H s)(hf:∀ b∈fp,FpOk X pins H b)(ho:∀ b∈fp,∃ o,s.heap.get? b=some o/\∀ v,o.data ≠ .cell v):Inv X (pins++j5a fp s.heap) σ H s:=
 I.pins_of fun p hp=>(Ba.mp hp).elim (fun z=>I.pin p (As _ z)) fun z=>by
  obtain⟨hb,e⟩:=k4w z;obtain⟨f0,f1,f2,_⟩:=hf p.1 hb;obtain⟨o,e',d⟩:=ho p.1 hb;rw [e] at e';cases e';exact⟨e,f0,f1,f2,d⟩
theorem Inv.unpinned{pins pl:List (Addr×Obj)}{σ:St}{H:Hp}{s:Shared}(I:Inv X (pins++pl) σ H s):Inv X pins σ H s:=I.pins_of fun p hp=>I.pin p (As _ (Ct _ hp))
theorem q3g{iter:Expr}{body:List Stmt}{wi:TI}{g:TG}{tb:TS}{pos:Pos}(hp:PassesOwn (model X.prog X.w) X.A X.env X.xe)(hc:X.calm=true)(hi:PI X tg iter wi)(hg:PG X tg g)(hb:PSs X body tb)
  (hs:∀ x,foldedSetIterable iter X.env x=pure x:=by intro _;rfl):PS X (.For tg iter body [] pos) (tFor wi g tb):=by
 intro pins s σ H D I h;refine wpAny_For (thn (hi pins s σ H _ I h) fun v s1 h1=>thn h1 fun itv s2 h2=>?_) hs;obtain⟨it,fp,tn,J,H2,e,I2,T,st2,f2,W,⟨m0,w0⟩,turn⟩:=h2;subst e;have stat:∀{H':Hp},(∀ b∈fp,H' b=none)->∀ b∈fp,FpOk X pins H' b:=fun hn b hb=>⟨hn b hb,(f2 b hb).2⟩;refine codeAny_forLoop_any (fun n s'=>∃ i σ' H',Inv X pins σ' H' s'/\tn i s'.heap/\(∀ b∈fp,H' b=none)/\W i n σ' H') ?_ m0 ⟨0,σ,H2,I2,st2,fun b hb=>(f2 b hb).1,w0⟩;rintro n s3 ⟨i,σ3,H3,I3,st3,fr3,w3⟩
 rcases turn i n σ3 H3 w3 with ⟨stop,qn⟩ | ⟨go,N,hN,step⟩
 ·refine wpAny_passesOwn hp (thn (T.done X rfl rfl rfl hc i pins s3 σ3 H3 X.xe I3 (stat fr3) st3 stop) fun r s4 ⟨hr,I4⟩=>?_);subst hr;exact wpAny_execs_nil ⟨σ3,H3,I4,qn⟩
 ·refine wpAny_passesOwn hp (thn (T.item X rfl rfl rfl hc i pins s3 σ3 H3 X.xe I3 (stat fr3) st3 go) fun r s4 ⟨u,hr,h4⟩=>?_);subst hr;refine wpAny_passesOwn hp (thn h4 fun _ s5 ⟨x,H5,I5,r5,y5,st5,fr5⟩=>?_);have I5':=I5.pinned (stat fr5) (T.obj _ _ st5);refine wpAny_passesOwn hp (thn (hg _ s5 σ3 H5 x u _ I5' r5 (step x H5 y5)) fun _ s6 ⟨σ6,H6,I6,q6⟩=>?_);refine wpAny_passesOwn hp (thn (hb _ s6 σ6 H6 _ I6 q6) fun f s7 q7=>?_);have again:∀{σ7:St} {H7:Hp},Inv X (pins++j5a fp s5.heap) σ7 H7 s7->N σ7 H7->∃ m,m < n/\∃ i σ' H',Inv X pins σ' H' s7/\tn i s7.heap/\(∀ b∈fp,H' b=none)/\W i m σ' H':=fun{σ7 H7} I7 n7=>by
   obtain⟨m',hm,w7⟩:=hN σ7 H7 n7;refine⟨m',hm,i+1,σ7,H7,I7.unpinned,T.keep _ _ _ st5 fun b hb o e=>(I7.pin (b,o) (As _ (As _ (j1j hb e)))).1,fun b hb=>?_,w7⟩;obtain⟨o,e,d⟩:=T.obj _ _ st5 b hb;exact(I7.pin (b,o) (As _ (As _ (j1j hb e)))).2.1
  cases f with
  | next=>obtain⟨σ7,H7,I7,n7⟩:=q7;exact again I7 n7
  | cont=>obtain⟨σ7,H7,I7,n7⟩:=q7;exact again I7 n7
  | brk=>obtain⟨σ7,H7,I7,q7⟩:=q7;exact⟨σ7,H7,I7.unpinned,q7⟩
  | ret v=>obtain⟨x7,σ7,H7,I7,r7,q7⟩:=q7;exact⟨x7,σ7,H7,I7.unpinned,r7,q7⟩
end
end L2
namespace L2
open PySem PySem.Spec PyProof.Rows
abbrev R2:=V->V->Hp->VK->Prop
def OpR(X:Cx)(f:Value->Value->Sem Value)(r:R2):Prop:=
 ∀(pins:List (Addr×Obj)) (s:Shared) (σ:St) (H:Hp) (x y:V) (v u:Value) (Q:VK),Inv X pins σ H s->RelV x v->RelV y u->r x y H Q ->
  wpAny (model X.prog X.w) X.A (f v u) (EP X pins σ Q) X.xe s
def UnR(X:Cx)(f:Value->Sem Value)(r:V->Hp->VK->Prop):Prop:=
 ∀(pins:List (Addr×Obj)) (s:Shared) (σ:St) (H:Hp) (x:V) (v:Value) (Q:VK),Inv X pins σ H s->RelV x v->r x H Q ->
  wpAny (model X.prog X.w) X.A (f v) (EP X pins σ Q) X.xe s
def j2s(X:Cx)(f:Value)(r:List V->Hp->VK->Prop):Prop:=
 ∀(pins:List (Addr×Obj)) (s:Shared) (σ:St) (H:Hp) (xs:List V) (us:List Value) (Q:VK),Inv X pins σ H s->Vals xs us->r xs H Q ->
  wpAny (model X.prog X.w) X.A (call f us) (EP X pins σ Q) X.xe s
def TruR(X:Cx)(r:V->Hp->(Bool->Hp->Prop)->Prop):Prop:=
 ∀(pins:List (Addr×Obj)) (s:Shared) (σ:St) (H:Hp) (x:V) (v:Value) (Q:Bool->Hp->Prop),Inv X pins σ H s->RelV x v->r x H Q ->
  wpAny (model X.prog X.w) X.A (truthy v) (TP X pins σ Q) X.xe s
def tOp(r:R2)(ta tb:TE):TE:=fun σ H Q=>ta σ H fun x H1=>tb σ H1 fun y H2=>r x y H2 Q
def tUn(r:V->Hp->VK->Prop)(ta:TE):TE:=fun σ H Q=>ta σ H fun x H1=>r x H1 Q
def rI(C:Int->Int->Prop)(g:Int->Int->V):R2:=fun x y H Q=>∃ i j,x = .int i/\y = .int j/\C i j/\Q (g i j) H
def rI0(g:Int->Int->V):R2:=fun x y H Q=>∃ i j,x = .int i/\y = .int j/\Q (g i j) H
def rU(g:Int->V):V->Hp->VK->Prop:=fun x H Q=>∃ i,x = .int i/\Q (g i) H
section
variable{X:Cx}{a b c:Expr}{ta tb tc:TE}{pos:Pos}
theorem binT(ha:PE X a ta)(hb:PE X b tb){pins:List (Addr×Obj)}{s:Shared}{σ:St}{H:Hp}{R:V->V->Hp->Prop}(I:Inv X pins σ H s)
  (h:ta σ H fun x H1=>tb σ H1 fun y H2=>R x y H2) {Q:Value->Shared->Prop} {f:Value->Value->Sem Value}
  (hf:∀ v u s2 x y H2,Inv X pins σ H2 s2->RelV x v->RelV y u->R x y H2->wpAny (model X.prog X.w) X.A (f v u) Q X.xe s2) :
  wpAny (model X.prog X.w) X.A (eval a X.env) (fun v s₁=>wpAny (model X.prog X.w) X.A (eval b X.env) (fun u s₂=>wpAny (model X.prog X.w) X.A (f v u) Q X.xe s₂) X.xe s₁) X.xe s:=by
 refine thn (ha pins s σ H _ I h) fun v s1 ⟨x,H1,I1,r1,q1⟩=>?_;refine thn (hb pins s1 σ H1 _ I1 q1) fun u s2 ⟨y,H2,I2,r2,q2⟩=>?_;exact hf v u s2 x y H2 I2 r1 r2 q2
theorem q5d{op:Operator}{r:R2}(ho:OpR X (binaryOp op) r)(ha:PE X a ta)(hb:PE X b tb):PE X (.BinOp a op b pos) (tOp r ta tb):=by
 intro pins s σ H Q I h;exact wpAny_BinOp (binT ha hb I h fun v u s2 x y H2 I2 rx ry q=>ho pins s2 σ H2 x y v u Q I2 rx ry q)
theorem q4v{op:UnaryOp}{r:V->Hp->VK->Prop}(ho:UnR X (unaryOp op) r)(ha:PE X a ta):PE X (.UnaryOp op a pos) (tUn r ta):=by
 intro pins s σ H Q I h;exact UnaryOp_ (thn (ha pins s σ H _ I h) fun v s1 ⟨x,H1,I1,r1,q1⟩=>ho pins s1 σ H1 x v Q I1 r1 q1)
theorem opI{f:Value->Value->Sem Value}{C:Int->Int->Prop}{g:Int->Int->Int}
  (rule:∀(i j:Int) (t u:Tok) (s:Shared) (Q:Value->Shared->Prop) (E:Value->Shared->Prop),C i j->Q (.int (g i j) s.toks) {s with toks:=s.toks+1}->wpAny (model X.prog X.w) X.A (f (.int i t) (.int j u)) Q E s) :
  OpR X f (rI C fun i j=> .int (g i j)):=by
 intro pins s σ H x y v u Q I rx ry h;obtain⟨i,j,rfl,rfl,hc,q⟩:=h;obtain⟨t,rfl⟩:=rx;obtain⟨t',rfl⟩:=ry;exact rule i j t t' s _ _ hc ⟨.int (g i j),H,I.tok _,⟨_,rfl⟩,q⟩
theorem opI0{f:Value->Value->Sem Value}{g:Int->Int->Int}
  (rule:∀(i j:Int) (t u:Tok) (s:Shared) (Q:Value->Shared->Prop) (E:Value->Shared->Prop),Q (.int (g i j) s.toks) {s with toks:=s.toks+1}->wpAny (model X.prog X.w) X.A (f (.int i t) (.int j u)) Q E s) :
  OpR X f (rI0 fun i j=> .int (g i j)):=by
 intro pins s σ H x y v u Q I rx ry h;obtain⟨i,j,rfl,rfl,q⟩:=h;obtain⟨t,rfl⟩:=rx;obtain⟨t',rfl⟩:=ry;exact rule i j t t' s _ _ ⟨.int (g i j),H,I.tok _,⟨_,rfl⟩,q⟩
theorem opB0{f:Value->Value->Sem Value}{g:Int->Int->Bool}
  (rule:∀(i j:Int) (t u:Tok) (s:Shared) (Q:Value->Shared->Prop) (E:Value->Shared->Prop),Q (.bool (g i j)) s->wpAny (model X.prog X.w) X.A (f (.int i t) (.int j u)) Q E s) :
  OpR X f (rI0 fun i j=> .bl (g i j)):=by
 intro pins s σ H x y v u Q I rx ry h;obtain⟨i,j,rfl,rfl,q⟩:=h;obtain⟨t,rfl⟩:=rx;obtain⟨t',rfl⟩:=ry;exact rule i j t t' s _ _ ⟨.bl (g i j),H,I,rfl,q⟩
def CDiv(i j:Int):Prop:=0 < j/\j < 1073741824
def CPow(i j:Int):Prop:=0<=j/\j<=1000000/\i.natAbs < 2 ^ 64
def CMul(i j:Int):Prop:=(-(2 ^ 64) < i/\i < 2 ^ 64)\/(-(2 ^ 64) < j/\j < 2 ^ 64)
theorem CMul.ok{i j:Int}(h:CMul i j):IntMulOk i j:=by
 rcases h with ⟨h1,h2⟩ | ⟨h1,h2⟩
 ·exact .of_left (intBits_le_64 h1 h2)
 ·exact .of_right (intBits_le_64 h1 h2)
theorem j1z:OpR X (binaryOp .Add) (rI0 fun i j=> .int (i+j)):=opI0 fun _ _ _ _ _ _ _ q=>add_int q
theorem q34:OpR X (binaryOp .Sub) (rI0 fun i j=> .int (i - j)):=opI0 fun _ _ _ _ _ _ _ q=>sub_int q
theorem j6r:OpR X (binaryOp .Mult) (rI CMul fun i j=> .int (i * j)):=opI fun _ _ _ _ _ _ _ hc q=>mul_int q hc.ok
theorem j07:OpR X (binaryOp .FloorDiv) (rI CDiv fun i j=> .int (i / j)):=opI fun i j _ _ _ _ _ hc q=>by
 have h1:(0:Int) < j:=hc.1;have h2:j < 1073741824:=hc.2;exact floordiv_int (by omega) (by rw [Int.fdiv_eq_ediv_of_nonneg i (by omega)];exact q) (.inl (PyProof.noPylong_small (by omega)))
theorem j0x:OpR X (binaryOp .Mod) (rI (fun _ j=>0 < j) fun i j=> .int (i % j)):=opI fun i j _ _ _ _ _ hc q=>by
 have h1:(0:Int) < j:=hc;exact mod_int' (by omega) (by rw [Int.fmod_eq_emod_of_nonneg i (by omega)];exact q)
theorem k0s:OpR X (binaryOp .Pow) (rI CPow fun i j=> .int (i ^ j.toNat)):=opI fun _ _ _ _ _ _ _ hc q=>pow_int_small hc.1 hc.2.1 hc.2.2 q
theorem unI{f:Value->Sem Value}{g:Int->Int}
  (rule:∀(i:Int) (t:Tok) (s:Shared) (Q:Value->Shared->Prop) (E:Value->Shared->Prop),Q (.int (g i) s.toks) {s with toks:=s.toks+1}->wpAny (model X.prog X.w) X.A (f (.int i t)) Q E s) :
  UnR X f (rU fun i=> .int (g i)):=by
 intro pins s σ H x v Q I rx h;obtain⟨i,rfl,q⟩:=h;obtain⟨t,rfl⟩:=rx;exact rule i t s _ _ ⟨.int (g i),H,I.tok _,⟨_,rfl⟩,q⟩
theorem q1q:UnR X (unaryOp .USub) (rU fun i=> .int (-i)):=unI fun _ _ _ _ _ q=>neg_int q
end
def scal:V->V->Bool
 | .non,.non=>true | .non,.int _=>true | .int _,.non=>true | .non,.bl _=>true | .bl _,.non=>true | .non,.str _=>true | .str _,.non=>true
 | .int _,.int _=>true | .bl _,.bl _=>true | .str _,.str _=>true | .byt _,.byt _=>true
 | .int _,.str _=>true | .str _,.int _=>true | .bl _,.str _=>true | .str _,.bl _=>true
 | _,_=>false
def rEq:R2:=fun x y H Q=>scal x y=true/\Q (.bl (decide (x=y))) H
def rNe:R2:=fun x y H Q=>scal x y=true/\Q (.bl (!decide (x=y))) H
theorem k33{i j:Int}:decide (V.int i=V.int j)=(i == j):=by
 rw [By];simp
theorem k81{i j:Bool}:decide (V.bl i=V.bl j)=(i == j):=by
 rw [By];simp
theorem k5e{i j:Str}:decide (V.str i=V.str j)=(i == j):=by
 rw [By];simp
theorem k4r{i j:Array UInt8}:decide (V.byt i=V.byt j)=(i.toList == j.toList):=by
 rw [By];cases i;cases j;simp
section
variable{X:Cx}{a b c:Expr}{ta tb tc:TE}{pos:Pos}
theorem j08{pins:List (Addr×Obj)}{σ:St}{H:Hp}{s:Shared}{Q:VK}{k k':Bool}(I:Inv X pins σ H s)(q:Q (.bl k) H)(e:k=k'):EP X pins σ Q (.bool k') s:=by
 subst e;exact⟨.bl k,H,I,rfl,q⟩
theorem j3a:OpR X (compareOp .Eq) rEq:=by
 intro pins s σ H x y v u Q I rx ry h;obtain⟨hs,q⟩:=h;cases x with
 | non=>
  cases rx;cases y with
  | non=>cases ry;exact PySem.EqNone.eq_none_none (j08 I q (by simp))
  | bl j=>cases ry;exact PySem.EqNone.eq_none_bool (j08 I q (by simp))
  | int j=>obtain⟨t',rfl⟩:=ry;exact PySem.EqNone.eq_none_int (j08 I q (by simp))
  | str j=>obtain⟨t',rfl⟩:=ry;exact PySem.EqNone.eq_none_str (j08 I q (by simp))
  | _=>exact absurd (show false=true from hs) Ak
 | bl i=>
  cases rx;cases y with
  | non=>cases ry;exact PySem.EqNone.eq_bool_none (j08 I q (by simp))
  | bl j=>cases ry;exact eq_bool (j08 I q k81)
  | str j=>obtain⟨t',rfl⟩:=ry;exact PySem.EqMixed.eq_bool_str (j08 I q (by simp))
  | _=>exact absurd (show false=true from hs) Ak
 | int i=>
  obtain⟨t,rfl⟩:=rx;cases y with
  | non=>cases ry;exact PySem.EqNone.eq_int_none (j08 I q (by simp))
  | int j=>obtain⟨t',rfl⟩:=ry;exact eq_int (j08 I q k33)
  | str j=>obtain⟨t',rfl⟩:=ry;exact PySem.EqMixed.eq_int_str (j08 I q (by simp))
  | _=>exact absurd (show false=true from hs) Ak
 | str i=>
  obtain⟨t,rfl⟩:=rx;cases y with
  | non=>cases ry;exact PySem.EqNone.eq_str_none (j08 I q (by simp))
  | bl j=>cases ry;exact PySem.EqMixed.eq_str_bool (j08 I q (by simp))
  | int j=>obtain⟨t',rfl⟩:=ry;exact PySem.EqMixed.eq_str_int (j08 I q (by simp))
  | str j=>obtain⟨t',rfl⟩:=ry;exact eq_str (j08 I q k5e)
  | _=>exact absurd (show false=true from hs) Ak
 | byt i=>
  obtain⟨t,rfl⟩:=rx;cases y with
  | byt j=>obtain⟨t',rfl⟩:=ry;exact PySem.W.eq_bytes (j08 I q k4r)
  | _=>exact absurd (show false=true from hs) Ak
 | _=>cases y <;> exact absurd (show false=true from hs) Ak
theorem k1l:OpR X (compareOp .NotEq) rNe:=by
 intro pins s σ H x y v u Q I rx ry h;obtain⟨hs,q⟩:=h;cases x with
 | non=>
  cases rx;cases y with
  | non=>cases ry;exact PySem.EqNone.ne_none_none (j08 I q (by simp))
  | bl j=>cases ry;exact PySem.EqNone.ne_none_bool (j08 I q (by simp))
  | int j=>obtain⟨t',rfl⟩:=ry;exact PySem.EqNone.ne_none_int (j08 I q (by simp))
  | str j=>obtain⟨t',rfl⟩:=ry;exact PySem.EqNone.ne_none_str (j08 I q (by simp))
  | _=>exact absurd (show false=true from hs) Ak
 | bl i=>
  cases rx;cases y with
  | non=>cases ry;exact PySem.EqNone.ne_bool_none (j08 I q (by simp))
  | bl j=>cases ry;exact ne_bool (j08 I q (congrArg not k81))
  | str j=>obtain⟨t',rfl⟩:=ry;exact PySem.EqMixed.ne_bool_str (j08 I q (by simp))
  | _=>exact absurd (show false=true from hs) Ak
 | int i=>
  obtain⟨t,rfl⟩:=rx;cases y with
  | non=>cases ry;exact PySem.EqNone.ne_int_none (j08 I q (by simp))
  | int j=>obtain⟨t',rfl⟩:=ry;exact ne_int (j08 I q (congrArg not k33))
  | str j=>obtain⟨t',rfl⟩:=ry;exact PySem.EqMixed.ne_int_str (j08 I q (by simp))
  | _=>exact absurd (show false=true from hs) Ak
 | str i=>
  obtain⟨t,rfl⟩:=rx;cases y with
  | non=>cases ry;exact PySem.EqNone.ne_str_none (j08 I q (by simp))
  | bl j=>cases ry;exact PySem.EqMixed.ne_str_bool (j08 I q (by simp))
  | int j=>obtain⟨t',rfl⟩:=ry;exact PySem.EqMixed.ne_str_int (j08 I q (by simp))
  | str j=>obtain⟨t',rfl⟩:=ry;exact ne_str (j08 I q (congrArg not k5e))
  | _=>exact absurd (show false=true from hs) Ak
 | byt i=>
  obtain⟨t,rfl⟩:=rx;cases y with
  | byt j=>obtain⟨t',rfl⟩:=ry;exact PySem.W.ne_bytes (j08 I q (congrArg not k4r))
  | _=>exact absurd (show false=true from hs) Ak
 | _=>cases y <;> exact absurd (show false=true from hs) Ak
theorem k17:OpR X (compareOp .Lt) (rI0 fun i j=> .bl (decide (i < j))):=opB0 fun _ _ _ _ _ _ _ q=>lt_int q
theorem q5h:OpR X (compareOp .LtE) (rI0 fun i j=> .bl (decide (i<=j))):=opB0 fun _ _ _ _ _ _ _ q=>le_int q
theorem k67:OpR X (compareOp .Gt) (rI0 fun i j=> .bl (decide (j < i))):=opB0 fun _ _ _ _ _ _ _ q=>gt_int q
theorem q4r:OpR X (compareOp .GtE) (rI0 fun i j=> .bl (decide (j<=i))):=opB0 fun _ _ _ _ _ _ _ q=>ge_int q
theorem k4n:OpR X (compareOp .In) (fun x y H Q=>∃ i j,x = .str i/\y = .str j/\Q (.bl (!(Builtin.Str.occurrences j i 0 j.length 1).isEmpty)) H):=by
 intro pins s σ H x y v u Q I rx ry h;obtain⟨i,j,rfl,rfl,q⟩:=h;obtain⟨t,rfl⟩:=rx;obtain⟨t',rfl⟩:=ry;exact in_str (j08 I q rfl)
theorem j43:OpR X (compareOp .Is) (fun x y H Q=>y = .non/\Q (.bl (decide (x = .non))) H):=by
 intro pins s σ H x y v u Q I rx ry h;obtain⟨rfl,q⟩:=h;cases ry;refine is_none_gen (j08 I q ?_);cases x <;> first
  | (cases rx;rfl)
  | (obtain⟨t,rfl⟩:=rx;rfl)
theorem k9q{op:CmpOp}{r:R2}(ho:OpR X (compareOp op) r)(ha:PE X a ta)(hb:PE X b tb)(hm:behindInMarks op b=false):PE X (.Compare a [op] [b] pos) (tOp r ta tb):=by
 intro pins s σ H Q I h;exact wpAny_Compare1 (binT ha hb I h fun v u s2 x y H2 I2 rx ry q=>ho pins s2 σ H2 x y v u Q I2 rx ry q) hm
def q2p(t:TE):TT:=fun σ H Q=>t σ H fun x H'=>∃ k,x = .bl k/\Q k H'
theorem q1e{op:CmpOp}{r:R2}(ho:OpR X (compareOp op) r)(ha:PE X a ta)(hb:PE X b tb)(hm:behindInMarks op b=false):PT X (.Compare a [op] [b] pos) (q2p (tOp r ta tb)):=by
 intro pins s σ H Q I h;refine wpAny_isTrue_Compare1 (thn (ha pins s σ H _ I h) fun v s1 ⟨x,H1,I1,r1,q1⟩=>thn (hb pins s1 σ H1 _ I1 q1) fun u s2 ⟨y,H2,I2,r2,q2⟩=>
  thn (ho pins s2 σ H2 x y v u _ I2 r1 r2 q2) fun c s3 ⟨z,H3,I3,r3,k,e,q3⟩=>?_) hm
 subst e;cases r3;exact wpAny_truthy_bool ⟨H3,I3,q3⟩
def k8v(r r':R2)(ta tb tc:TE):TE:=fun σ H Q=>ta σ H fun x H1=>tb σ H1 fun y H2=>r x y H2 fun z H3=>∃ k,z = .bl k /\
 (if k=true then tc σ H3 fun w' H4=>r' y w' H4 Q else Q (.bl false) H3)
theorem k7b{op op':CmpOp}{r r':R2}(ho:OpR X (compareOp op) r)(ho':OpR X (compareOp op') r')(ha:PE X a ta)(hb:PE X b tb)(hc:PE X c tc)
  (hm:lastMarks [op,op'] [b,c]=false:=by with_unfolding_all rfl):PE X (.Compare a [op,op'] [b,c] pos) (k8v r r' ta tb tc):=by
 intro pins s σ H Q I h;refine Compare_chain (thn (ha pins s σ H _ I h) fun v s1 ⟨x,H1,I1,r1,q1⟩=>chain_link (thn (hb pins s1 σ H1 _ I1 q1) fun u s2 ⟨y,H2,I2,r2,q2⟩=>
  thn (ho pins s2 σ H2 x y v u _ I2 r1 r2 q2) fun d s3 ⟨z,H3,I3,r3,k,e,q3⟩=>?_)) hm
 subst e;cases r3;refine wpAny_truthy_bool ?_;cases k with
 | false=>exact ite_ff ⟨.bl false,H3,I3,rfl,q3⟩
 | true=>exact ite_tt (chain_last (thn (hc pins s3 σ H3 _ I3 q3) fun w' s4 ⟨z',H4,I4,r4,q4⟩=>ho' pins s4 σ H4 y z' u w' Q I4 r2 r4 q4))
theorem k7m{op op':CmpOp}{r r':R2}(ho:OpR X (compareOp op) r)(ho':OpR X (compareOp op') r')(ha:PE X a ta)(hb:PE X b tb)(hc:PE X c tc)
  (hm:lastMarks [op,op'] [b,c]=false:=by with_unfolding_all rfl):PT X (.Compare a [op,op'] [b,c] pos) (q2p (k8v r r' ta tb tc)):=by
 intro pins s σ H Q I h;refine isTrue_chain (thn (ha pins s σ H _ I h) fun v s1 ⟨x,H1,I1,r1,q1⟩=>test_link (thn (hb pins s1 σ H1 _ I1 q1) fun u s2 ⟨y,H2,I2,r2,q2⟩=>
  thn (ho pins s2 σ H2 x y v u _ I2 r1 r2 q2) fun d s3 ⟨z,H3,I3,r3,k,e,q3⟩=>?_)) hm
 subst e;cases r3;refine wpAny_truthy_bool ?_;cases k with
 | false=>
  obtain⟨k',e',q'⟩:=q3;cases e';exact ite_ff ⟨H3,I3,q'⟩
 | true=>
  refine ite_tt (test_last (thn (hc pins s3 σ H3 _ I3 q3) fun w' s4 ⟨z',H4,I4,r4,q4⟩=>thn (ho' pins s4 σ H4 y z' u w' _ I4 r2 r4 q4) fun d' s5 ⟨z2,H5,I5,r5,k2,e2,q5⟩=>?_));subst e2;cases r5;exact wpAny_truthy_bool ⟨H5,I5,q5⟩
def TruV(K:PySem.W.Frag)(x:V)(H:Hp)(k:Bool):Prop:=
 match x with
 | .non=>k=false
 | .bl b=>k=b
 | .int i=>k=(i != 0)
 | .str y=>y.length<=sizeLine/\k=((y.length:Int) != 0)
 | .byt y=>y.size<=sizeLine/\k=((y.size:Int) != 0)
 | .ref p=>(∃ xs,SqL K H p xs/\k = !xs.isEmpty)\/(∃ xs,SqT K H p xs/\k = !xs.isEmpty)\/∃ kvs,H p=some (.dK kvs)/\k = !kvs.isEmpty
 | _=>False
theorem k2n{κ:Type}{kvs:List (κ×V)}{vs:List (κ×Value)}(r:KV kvs vs):(!vs.isEmpty) = !kvs.isEmpty:=by
 cases r <;> rfl
theorem j6w{xs:List V}{its:List Value}(r:Vals xs its):(!its.toArray.isEmpty) = !xs.isEmpty:=by
 cases r <;> simp
theorem j6x:(sizeLine:Nat) < 2 ^ 63:=by rw [sizeLine_eq];decide
theorem k8t:TruR X (fun x H Q=>∃ k,TruV X.K x H k/\Q k H):=by
 intro pins s σ H x v Q I rx h;obtain⟨k,e,q⟩:=h;have hl:=j6x;have hs:sizeLine=16777216:=sizeLine_eq;cases x with
 | non=>
  cases rx;have e':k=false:=e;subst e';exact truthy_none ⟨H,I,q⟩
 | bl b=>
  cases rx;have e':k=b:=e;subst e';exact wpAny_truthy_bool ⟨H,I,q⟩
 | int i=>
  obtain⟨t,rfl⟩:=rx;have e':k=(i != 0):=e;subst e';exact PySem.P.truthy_int ⟨H,I,q⟩
 | str y=>
  obtain⟨t,rfl⟩:=rx;obtain⟨hy,e'⟩:y.length<=sizeLine/\k=((y.length:Int) != 0):=e;subst e';exact PySem.P.truthy_str (by omega) ⟨H,I.tok _,q⟩
 | byt y=>
  obtain⟨t,rfl⟩:=rx;obtain⟨hy,e'⟩:y.size<=sizeLine/\k=((y.size:Int) != 0):=e;subst e';exact PySem.W.truthy_bytes (by omega) ⟨H,I.tok _,q⟩
 | ref p=>
  cases rx;have e':(∃ xs,SqL X.K H p xs/\k = !xs.isEmpty)\/(∃ xs,SqT X.K H p xs/\k = !xs.isEmpty)\/∃ kvs,H p=some (.dK kvs)/\k = !kvs.isEmpty:=e
  rcases e' with ⟨xs,hx,e'⟩ | ⟨xs,hx,e'⟩ | ⟨kvs,hx,e'⟩
  ·subst e';obtain⟨its,r,pl,hz⟩:=I.list hx;have hlen:=r.length;exact wpAny_truthy_list pl.isList (by simp only [Ap];omega) ⟨H,I.tok _,by rw [j6w r];exact q⟩
  ·subst e';obtain⟨its,r,pl,hz⟩:=I.tuple hx;have hlen:=r.length;exact truthy_tuple pl (by simp only [Ap];omega) ⟨H,I.tok _,by rw [j6w r];exact q⟩
  ·subst e';obtain⟨hz,hS,vs,r,m⟩:kvs.length<=sizeLine/\(p == sysModules)=false/\∃ vs,KV kvs vs/\s.heap.DictOf (j0r X.prog X.w) p vs:=I.hok p _ hx;have hlen:kvs.length=vs.length:=Paired.length r;exact wpAny_truthy_dict hS m (by omega) ⟨H,I.tok _,by rw [k2n r];exact q⟩
 | _=>exact(show False from e).elim
theorem k6u(ha:PE X a ta)(he:∀ whole,isTrue a X.env whole=(do let v <- whole;standAt a.pos;holding [v] (truthy v))) :
  PT X a (fun σ H Q=>ta σ H fun x H'=>∃ k,TruV X.K x H' k/\Q k H'):=by
 intro pins s σ H Q I h;exact isTrue_plain (thn (ha pins s σ H _ I h) fun v s1 ⟨x,H1,I1,r1,q1⟩=>k8t pins s1 σ H1 x v Q I1 r1 q1) (he _)
theorem j3x:OpR X (binaryOp .Add) (fun x y H Q=>∃ i j,x = .str i/\y = .str j/\i.length+j.length<=sizeLine/\Q (.str (i++j)) H):=by
 intro pins s σ H x y v u Q I rx ry h;obtain⟨i,j,rfl,rfl,hz,q⟩:=h;obtain⟨t,rfl⟩:=rx;obtain⟨t',rfl⟩:=ry;exact add_str (fun t' tk=>⟨.str (i++j),H,I.tok _,⟨_,rfl⟩,q⟩) hz
theorem vals1{x:V}{us:List Value}(r:Vals [x] us):∃ u,us=[u]/\RelV x u:=by
 cases r with
 | cons r1 r2=>cases r2;exact⟨_,rfl,r1⟩
theorem vals2{x y:V}{us:List Value}(r:Vals [x,y] us):∃ u w',us=[u,w']/\RelV x u/\RelV y w':=by
 cases r with
 | cons r1 r2=>
  cases r2 with
  | cons r3 r4=>cases r4;exact⟨_,_,rfl,r1,r3⟩
theorem j3h(hc:X.calm=true):j2s X (.builtin "max") (fun xs H Q=>∃ i j,xs=[.int i,.int j]/\Q (.int (if j > i then j else i)) H):=by
 intro pins s σ H xs us Q I r h;obtain⟨i,j,rfl,q⟩:=h;obtain⟨u,w',rfl,⟨t,rfl⟩,⟨t',rfl⟩⟩:=vals2 r;refine max_two_ints (I.ok.hd hc) fun h' tk k=>⟨_,H,I.kept k,?_,q⟩
 by_cases hj:j > i
 ·rw [if_pos hj,if_pos hj];exact⟨_,rfl⟩
 ·rw [if_neg hj,if_neg hj];exact⟨_,rfl⟩
end
end L2
namespace L2
open PySem PySem.Spec PyProof.Rows
structure ObjM(h:Heap)(x dx C:Addr)(mA:Str->Option Value):Prop where
 obj:h.get? x=some (PySem.W.instObj C dx)
 ns:h.Ns1 dx mA
 ne:dx≠x
theorem k3v{h:Heap}{dx:Addr}{mA:Str->Option Value}(n:h.Ns1 dx mA):∃ od,h.get? dx=some od/\∀ name,PySem.W.lookIn name od=some (mA name):=by
 obtain⟨o,es,ep,ho,hd,hk,_,hm⟩:=n;refine⟨o,ho,fun name=>?_⟩;have e:=hm name;unfold nsFind findBy at e;rw [<- Array.find?_toList] at e;unfold PySem.W.lookIn;rw [hd]
 dsimp only
 split
 ·rename_i y q;rw [q] at e;exact congrArg some e
 ·rename_i q;rw [q] at e;have a:es.toList.any (·.refKey)=false:=by
   rw [List.any_eq_false];intro y hy;obtain⟨z,t,hkey⟩:=hk y (Array.mem_toList_iff.mp hy);simp [DictEntry.refKey,hkey]
  have a':¬ es.toList.any (·.refKey)=true:=by rw [a];exact Ak
  rw [if_neg a'];exact congrArg some e
theorem ObjM.look{h:Heap}{x dx C:Addr}{mA:Str->Option Value}(I:ObjM h x dx C mA):∃ od,PySem.W.InstAt h x (PySem.W.instObj C dx) C (some od)/\∀ name,PySem.W.lookIn name od=some (mA name):=
 let ⟨od,ho,hl⟩:=k3v I.ns
 ⟨od,⟨I.obj,rfl,rfl,ho⟩,hl⟩
section
variable{prog:Program}{w:World}{A:Around}{E:Value->Shared->Prop}{s:Shared}{K:PySem.W.Frag}{x dx C f:Addr}{mA:Str->Option Value}{name:Str}{v:Value}
end
theorem RelO.some_of{v:V}{o:Option Value}(r:RelO (some v) o):∃ u,o=some u/\RelV v u:=by
 cases o with
 | none=>exact(show False from r).elim
 | some u=>exact⟨u,rfl,r⟩
section
variable{P:Program}{w:World}{H H':Hp}{h h':Heap}{a C dx:Addr}{fs fs':List (Str×V)}
theorem q08(hok:HOk P w H h)(e:H a=some (.ins C dx fs)):∃ mA,ObjM h a dx C mA/\(∀ f,RelO (fs.lookup f) (mA f))/\PySem.Within mA (fs.map (·.1))/\fs.length<=1000/\H dx=some (.own a):=by
 obtain⟨d,z,ne,ob,mA,n,r,q⟩:=(show ObjOk P w H h a (.ins C dx fs) from hok a _ e);exact⟨mA,⟨ob,n,ne⟩,r,q,z,d⟩
end
structure Cls(K:PySem.W.Frag)(C:Addr):Prop where
 pg:PySem.W.plainGet K C Str.empty=true
 hd:PySem.W.hasDictIn K C=true
 po:PySem.W.plainOver K C=true
 sa:PySem.W.findIn K (.ref C) "__setattr__" = some (some (.builtin "object.__setattr__"))
theorem Cls.get{K:PySem.W.Frag}{C:Addr}(c:Cls K C)(f:Str):PySem.W.plainGet K C f=true:=c.pg
section
variable{X:Cx}{pins:List (Addr×Obj)}{σ:St}{H:Hp}{s:Shared}{a C dx:Addr}{fs:List (Str×V)}{f:Str}{v:V}{A:Around}{E:Value->Shared->Prop}
end
section
variable{X:Cx}{o e value:Expr}{f:Str}{pos pos' tpos:Pos}{ta tv:TE}
end
section
variable{X:Cx}{pins:List (Addr×Obj)}{σ:St}{H:Hp}{s:Shared}{A:Around}{E:Value->Shared->Prop}{Q:Value->Shared->Prop}{c:Value}{b:Bool}
inductive TyOf (K:PySem.W.Frag) (H:Hp):V->Value->Prop where
 | non:TyOf K H .non (.type "NoneType")
 | bl (x:Bool):TyOf K H (.bl x) (.type "bool")
 | int (i:Int):TyOf K H (.int i) (.type "int")
 | str (x:Str):TyOf K H (.str x) (.type "str")
 | flt (x:UInt64):TyOf K H (.flt x) (.type "float")
 | lst {a:Addr} {xs:List V} (e:H a=some (.lst xs)):TyOf K H (.ref a) (.type "list")
 | frz {a:Addr} {o:Obj} {xs:List V} (e:H a=some (.frz o (.lst xs))):TyOf K H (.ref a) (.type "list")
 | tup {a:Addr} {xs:List V} (e:H a=some (.tup xs)):TyOf K H (.ref a) (.type "tuple")
 | dK {a:Addr} {kvs:List (Key×V)} (e:H a=some (.dK kvs)):TyOf K H (.ref a) (.type "dict")
 | dT {a:Addr} {kvs:List (List Key×V)} (e:H a=some (.dT kvs)):TyOf K H (.ref a) (.type "dict")
 | ins {a C dx:Addr} {fs:List (Str×V)} (e:H a=some (.ins C dx fs)) (cl:Cls K C) (ha:PySem.W.findIn K (.ref C) "__class__" = some (some (.builtin "object.__class__")))
   (hn:PySem.W.specialIn K (.builtin "object.__class__") "__get__" = some (some (.builtin "getset_descriptor.__get__"))) (htk:PySem.W.takesIn K (.builtin "object.__class__")=some true)
   (hm:PySem.W.mroIn K C (.type "object")=some true):TyOf K H (.ref a) (.ref C)
theorem k45{x:V}{u t:Value}(I:Inv X pins σ H s)(rx:RelV x u)(ty:TyOf X.K H x t)(e:PySem.W.kitOne X.K t c=some b)(h:∀ tk,Q (.bool b) {s with toks:=tk}) :
  wpAny (model X.prog X.w) A (call (.builtin "isinstance") [u,c]) Q E s:=by
 cases ty with
 | non=>cases (show u=Value.none from rx);exact PySem.W.kia_one PySem.W.kitx_none I.kIn True.intro e (fun z=>nomatch z) h
 | bl y=>cases (show u=Value.bool y from rx);exact PySem.W.kia_one PySem.W.kitx_bool I.kIn True.intro e (fun z=>nomatch z) h
 | int i=>obtain⟨t,q⟩:=(show ∃ t,u=Value.int i t from rx);cases q;exact PySem.W.kia_one PySem.W.kitx_int I.kIn True.intro e (fun z=>nomatch z) h
 | str y=>obtain⟨t,q⟩:=(show ∃ t,u=Value.str y t from rx);cases q;exact PySem.W.kia_one PySem.W.kitx_str I.kIn True.intro e (fun z=>nomatch z) h
 | flt y=>obtain⟨t,q⟩:=(show ∃ t,u=Value.float y t from rx);cases q;exact PySem.W.kia_one PySem.W.kitx_float I.kIn True.intro e (fun z=>nomatch z) h
 | @lst a xs ea=>
  cases (show u=Value.ref a from rx);obtain⟨_,_,n,_,h1⟩:=(show ObjOk X.prog X.w H s.heap a (.lst xs) from I.hok a _ ea);exact PySem.W.kia_one PySem.W.kitx_list I.kIn ⟨_,h1,rfl⟩ e (fun z=>nomatch z) h
 | @frz a ob xs ea=>
  cases (show u=Value.ref a from rx);obtain⟨_,_,_,n,_,h1⟩:=(show ObjOk X.prog X.w H s.heap a (.frz ob (.lst xs)) from I.hok a _ ea);exact PySem.W.kia_one PySem.W.kitx_list I.kIn ⟨_,h1,rfl⟩ e (fun z=>nomatch z) h
 | @tup a xs ea=>
  cases (show u=Value.ref a from rx);obtain⟨_,_,_,p⟩:=(show ObjOk X.prog X.w H s.heap a (.tup xs) from I.hok a _ ea);obtain⟨o,h1,h2,_⟩:=p;exact PySem.W.kia_one PySem.W.kitx_tuple I.kIn ⟨o,h1,h2⟩ e (fun z=>nomatch z) h
 | @dK a kvs ea=>
  cases (show u=Value.ref a from rx);obtain⟨_,_,vs,_,p⟩:=(show ObjOk X.prog X.w H s.heap a (.dK kvs) from I.hok a _ ea);obtain⟨o,es,ep,h1,h2,_⟩:=p;exact PySem.W.kia_one PySem.W.kitx_dict I.kIn ⟨o,h1,h2.1⟩ e (fun z=>nomatch z) h
 | @dT a kvs ea=>
  cases (show u=Value.ref a from rx);obtain⟨_,_,xs,_,o,es,ep,h1,h2,_⟩:=(show ObjOk X.prog X.w H s.heap a (.dT kvs) from I.hok a _ ea);exact PySem.W.kia_one PySem.W.kitx_dict I.kIn ⟨o,h1,h2.1⟩ e (fun z=>nomatch z) h
 | @ins a C dx fs ea cl ha hn htk hm=>
  cases (show u=Value.ref a from rx);obtain⟨mA,O,_⟩:=q08 I.hok ea;obtain⟨od,J,_⟩:=O.look;exact PySem.W.kia_one (PySem.W.kitx_own (cl.get _) cl.hd ha hn htk hm) I.kIn J e (fun z=>nomatch z) h
end
end L2
namespace L2
open PySem PySem.Spec PyProof.Rows
structure Room(k:Nat)(A:Around):Prop where
 hd:A.handled=none
 dp:A.depth+3 * k+5 < recursionLimit
 un:A.units+16 * k+200 < cLine
theorem Room.mono{j k:Nat}{A:Around}(r:Room k A)(h:j<=k):Room j A:=⟨r.hd,by have:=r.dp;omega,by have:=r.un;omega⟩
theorem Room.deeper{k:Nat}{A:Around}(r:Room (k+1) A)(env:Env):Room k (A.deeper env):=
 ⟨r.hd,by have:=r.dp;show A.depth+1+3 * k+5 < _;omega,by have:=r.un;show A.units+3+16 * k+200 < _;omega⟩
theorem Room.depth{k:Nat}{A:Around}(r:Room k A):A.depth < recursionLimit:=by have:=r.dp;omega
def tNil:TA:=fun _ H Q=>Q [] H
def q2f(ta:TE)(tr:TA):TA:=fun σ H Q=>ta σ H fun x H1=>tr σ H1 fun xs H2=>Q (x :: xs) H2
section
variable{X:Cx}{e:Expr}{es:List Expr}{te:TE}{t:TA}{pos:Pos}
theorem q1n:PA X [] tNil:=fun _ _ _ _ H Q I h=>Calls.spliced_nil ⟨[],H,I,.nil,h⟩
theorem q04(ha:PE X e te)(hr:PA X es t)(hs:starEach (e :: es) X.env=(false,eval e X.env) :: starEach es X.env:=by rfl):PA X (e :: es) (q2f te t):=by
 intro pos pins s σ H Q I h;rw [hs];show wpAny _ _ (spliced ((false,eval e X.env) :: backTo pos (starEach es X.env))) _ _ s;refine Calls.spliced_cons (thn (ha pins s σ H _ I h) fun u s1 ⟨x,H1,I1,r1,q1⟩=>?_);exact thn (hr pos pins s1 σ H1 _ I1 q1) fun us s2 ⟨xs,H2,I2,r2,q2⟩=>⟨x :: xs,H2,I2,.cons r1 r2,q2⟩
def tTup(t:TA):TE:=fun σ H Q=>t σ H fun xs H1=>xs.length<=sizeLine/\∀ p,H1 p=none->Q (.ref p) (upd H1 p (.tup xs))
def tLst(t:TA):TE:=fun σ H Q=>t σ H fun xs H1=>xs.length<=sizeLine/\∀ p,H1 p=none->Q (.ref p) (upd H1 p (.lst xs))
theorem q1m{x1}(h:PA X es t):PE X (.Tuple es x1 pos) (tTup t):=by
 intro pins s σ H Q I hq;refine wpAny_Tuple_spliced (thn (h pos pins s σ H _ I hq) fun us s1 ⟨xs,H1,I1,r,z,q⟩=>⟨by rw [<- r.length];exact z,?_⟩);have hf:H1 s1.heap.objs.size=none:=I1.hok.fresh (Ag _);refine⟨.ref s1.heap.objs.size,upd H1 s1.heap.objs.size (.tup xs),I1.laid (t':=s1.toks) (fun b u e=>Ad _ e) (Ag _) ?_,rfl,q _ hf⟩;exact⟨z,us,r,⟨_,Aj _ rfl,rfl,_,rfl⟩⟩
theorem q1r(h:PA X es t):PE X (.List es pos) (tLst t):=by
 intro pins s σ H Q I hq;refine wpAny_List_spliced (thn (h pos pins s σ H _ I hq) fun us s1 ⟨xs,H1,I1,r,z,q⟩=>⟨by rw [<- r.length];exact z,?_⟩);have hf:H1 s1.heap.objs.size=none:=I1.hok.fresh (Ag _);refine⟨.ref s1.heap.objs.size,upd H1 s1.heap.objs.size (.lst xs),I1.laid (t':=s1.toks) (fun b u e=>Ad _ e) (Ag _) ?_,rfl,q _ hf⟩;exact⟨z,us,0,r,Aj _ rfl⟩
end
abbrev Sp:=List V->Hp->VK->XK->Prop
abbrev CXT:=List Env->Hp->Shared->XK->Value->Shared->Prop
structure Env0(P:Program)(w:World)(K:PySem.W.Frag)(mg:Str->Option Value)(base:Heap)(A:Around)(outer:List Env)(s:Shared)(H:Hp):Prop where
 frames:A.frames=some outer
 mod:Mod K mg base
 bs:∀ b o,base.get? b=some o->s.heap.get? b=some o/\H b=none
 bsz:base.objs.size<=s.heap.objs.size
 funs:s.heap.FunFrames base outer
 frf:∀ b∈frs outer,H b=none
 hok:HOk P w H s.heap
 bare:AllBare s.gens
def CE(outer:List Env)(P:Program)(w:World)(H:Hp)(s:Shared)(Q:VK)(u:Value)(s':Shared):Prop:=
 ∃ v H',s'.os=s.os/\AllBare s'.gens/\Un (frs outer) [] H H' s.heap s'.heap/\HOk P w H' s'.heap/\RelV v u/\Q v H'
def CR(CX:CXT)(outer:List Env)(P:Program)(w:World)(H:Hp)(s:Shared)(Q:VK)(E:XK)(r:Result)(s':Shared):Prop:=
 match r with
 | .ok (.ret u)=>CE outer P w H s Q u s'
 | .ok _=>False
 | .error e=>CX outer H s E e s'
structure FnOk(P:Program)(w:World)(K:PySem.W.Frag)(mg:Str->Option Value)(base:Heap)(CX:CXT)(k:Nat)(f:Addr)(fd:FuncData)(ps:List Str)(sp:Sp):Prop where
 len:∀ vs H Q E,sp vs H Q E->vs.length=ps.length
 run:∀(A:Around) (outer:List Env) (s:Shared) (H:Hp) (args:Args) (us:List Value) (vs:List V) (Q:VK) (E:XK),Room k A->Env0 P w K mg base A outer s H->BindsTo s fd args (ps.zip us)->Vals vs us->sp vs H Q E ->
  codeAny (model P w) A (.call (.ref f) args) (CR CX outer P w H s Q E) s
theorem FnOk.mono{P:Program}{w:World}{K:PySem.W.Frag}{mg:Str->Option Value}{base:Heap}{CX:CXT}{j k:Nat}{f:Addr}{fd:FuncData}{ps:List Str}{sp:Sp}(F:FnOk P w K mg base CX j f fd ps sp)(h:j<=k) :
  FnOk P w K mg base CX k f fd ps sp:=⟨F.len,fun A outer s H args us vs Q E hr=>F.run A outer s H args us vs Q E (hr.mono h)⟩
section
variable{X:Cx}{pins:List (Addr×Obj)}{σ:St}{H:Hp}{s s':Shared}
theorem Inv.env0(I:Inv X pins σ H s):Env0 X.prog X.w X.K X.mg X.base X.A X.stack s H:=
 ⟨I.ok.frames,I.ok.mod,I.bs,Bs I.ok.bsz I.sz,I.stack,I.stkFree,I.hok,I.bare⟩
theorem Inv.after{Q:VK}{u:Value}(I:Inv X pins σ H s)(h:CE X.stack X.prog X.w H s Q u s'):EP X pins σ Q u s':=by
 obtain⟨v,H',os,bare,un,hok,r,q⟩:=h;obtain⟨hh,g,d,t,os'⟩:=s';obtain rfl:os'=s.os:=os;exact⟨v,H',I.call (h':=hh) (g':=g) (d':=d) (t':=t) (ch:=[]) un hok bare (fun b z=>absurd z (by simp)),r,q⟩
end
def q3i(sp:Sp)(dvs:List V)(E:XK)(t:TA):TE:=fun σ H Q=>t σ H fun vs H1=>sp (vs++dvs) H1 Q E
def Binds(K:PySem.W.Frag)(fd:FuncData)(ps:List Str)(ds:List Value):Prop:=
 ∀(s:Shared) (us:List Value),K.In s.heap->(us++ds).length=ps.length->BindsTo s fd ⟨us,[]⟩ (ps.zip (us++ds))
theorem Binds.all{K:PySem.W.Frag}{fd:FuncData}{ps:List Str}(h:∀ us:List Value,us.length=ps.length->bindArgs fd ⟨us,[]⟩=pure (ps.zip us)):Binds K fd ps []:=fun s us _ hl=>by
 rw [Bk] at hl ⊢;exact .of_eq (h us hl)
def j44(CX:CXT)(X:Cx)(E:XK):Prop:=∀(pins:List (Addr×Obj)) (σ:St) (H:Hp) (s:Shared) (e:Value) (s':Shared),Inv X pins σ H s->CX X.stack H s E e s'->X.xe e s'
section
variable{X:Cx}{CX:CXT}{k:Nat}{f C:Addr}{fd:FuncData}{ps:List Str}{sp:Sp}{dvs:List V}{ds:List Value}{E:XK}{x m:Str}{p pos apos:Pos}{e o:Expr}{es:List Expr}{ta:TE}{t:TA}
theorem q21{pins:List (Addr×Obj)}{σ:St}{H:Hp}{s:Shared}{Q:VK}{us:List Value}{vs:List V}(F:FnOk X.prog X.w X.K X.mg X.base CX k f fd ps sp)(hr:Room k X.A)(hb:Binds X.K fd ps ds)(hd:Vals dvs ds)(hx:j44 CX X E)
  (I:Inv X pins σ H s) (r:Vals vs us) (h:sp (vs++dvs) H Q E):wpAny (model X.prog X.w) X.A (call (.ref f) us) (EP X pins σ Q) X.xe s:=by
 have r2:Vals (vs++dvs) (us++ds):=r.append hd;have hl:(us++ds).length=ps.length:=by rw [<- r2.length];exact F.len _ _ _ _ h
 refine wpAny_call (codeAny_mono (F.run X.A X.stack s H ⟨us,[]⟩ (us++ds) (vs++dvs) Q E hr I.env0 (hb s us I.kIn hl) r2 h) fun r s' hq=>?_);cases r with
 | error e=>exact hx pins σ H s e s' I hq
 | ok fl=>
  cases fl with
  | ret u=>exact I.after hq
  | next=>exact False.elim hq
  | brk=>exact False.elim hq
  | cont=>exact False.elim hq
theorem k93(F:FnOk X.prog X.w X.K X.mg X.base CX k f fd ps sp)(hr:Room k X.A)(hg:Gl X x)(hm:X.mg x=some (.ref f))(hk:PySem.W.keepIn X.K (.ref f)=true)(hb:Binds X.K fd ps ds)(hd:Vals dvs ds)(hx:j44 CX X E)
  (ha:PA X (e :: es) t) (hdb:(x == ("__debug__" : Str))=false:=by decide) (he:starEach (e :: es) X.env=(false,eval e X.env) :: starEach es X.env:=by rfl) (hpl:(backTo pos (starEach es X.env)).any (·.1)=false:=by rfl) :
  PE X (.Call (.Name x p) (e :: es) [] pos) (q3i sp dvs E t):=by
 intro pins s σ H Q I h;refine wpAny_Call_Name_kw (j4m I hg hm ?_ hdb);refine PySem.W.callWith_K (h₀:=X.base) I.ok.mod.kin hk (thn (ha pos pins s σ H _ I h) fun us s1 ⟨vs,H1,I1,r,q⟩=>⟨I1.kIn,?_⟩) he hpl;exact q21 F hr hb hd hx I1 r q
end
section
variable{X:Cx}{CX:CXT}{k:Nat}{f C:Addr}{fd:FuncData}{ps ks:List Str}{sp:Sp}{E:XK}{x m:Str}{p pos apos kpos:Pos}{e o:Expr}{es:List Expr}{kws:List Keyword}{te ta:TE}{t tk:TA}{nm:Option Str}
variable{g:List Value->List Value->List Value}{gV:List V->List V->List V}
end
structure FnScope(N P:List Str)(sc:Scope):Prop where
 kind:sc.kind = .function
 co:sc.isCoroutine=false
 gen:sc.isGenerator=false
 nd:N.Nodup
 pre:N.take P.length=P
 par:∀ x∈P,sc.names.lookup x=some .local\/sc.names.lookup x=some .cell
 nofree:∀ y∈sc.names,y.2 ≠ .free
theorem j8d{kindOf:Str->Option NameKind}{x:Str}:∀{binds:List (Str×Value)} {m:Str->Option Value},(∀ v,(x,v)∉binds)->bindL kindOf binds m x=m x
 | [],_,_=>rfl
 | (n,v) :: r,m,h=>by
  unfold bindL;rw [j8d fun w hw=>h w (Aq _ hw)]
  split
  ·have:x≠n:=by rintro rfl;exact h v Aw
   simp [this]
  ·rfl
theorem j82{kindOf:Str->Option NameKind}{x:Str}:∀{binds:List (Str×Value)} {m:Str->Option Value},(∀ v,(x,v)∉binds)->bindC kindOf binds m x=m x
 | [],_,_=>rfl
 | (n,v) :: r,m,h=>by
  unfold bindC;rw [j82 fun w hw=>h w (Aq _ hw)]
  split
  ·rfl
  ·have:x≠n:=by rintro rfl;exact h v Aw
   simp [this]
theorem j9b{kindOf:Str->Option NameKind}{x:Str}{v:Value}:∀{P:List Str} {vs:List Value} {i:Nat} {m:Str->Option Value},P.Nodup->P[i]?=some x->vs[i]?=some v->kindOf x=some .local ->
  bindL kindOf (P.zip vs) m x=some v
 | [],_,_,_,_,h,_,_=>by simp at h
 | _ :: _,[],_,_,_,_,h,_=>by simp at h
 | p :: P,w :: vs,0,m,nd,h1,h2,hk=>by
  simp at h1 h2;subst h1;subst h2;show bindL kindOf ((p,w) :: P.zip vs) m p=_;unfold bindL;rw [j8d fun v hv=>(Cf.mp nd).1 (Fg hv).1,if_pos hk];simp
 | p :: P,w :: vs,i+1,m,nd,h1,h2,hk=>by
  show bindL kindOf ((p,w) :: P.zip vs) m x=_;unfold bindL;exact j9b (i:=i) (Cf.mp nd).2 (by simpa using h1) (by simpa using h2) hk
theorem j9c{kindOf:Str->Option NameKind}{x:Str}{v:Value}:∀{P:List Str} {vs:List Value} {i:Nat} {m:Str->Option Value},P.Nodup->P[i]?=some x->vs[i]?=some v->kindOf x≠some .local ->
  bindC kindOf (P.zip vs) m x=some v
 | [],_,_,_,_,h,_,_=>by simp at h
 | _ :: _,[],_,_,_,_,h,_=>by simp at h
 | p :: P,w :: vs,0,m,nd,h1,h2,hk=>by
  simp at h1 h2;subst h1;subst h2;show bindC kindOf ((p,w) :: P.zip vs) m p=_;unfold bindC;rw [j82 fun v hv=>(Cf.mp nd).1 (Fg hv).1,if_neg hk];simp
 | p :: P,w :: vs,i+1,m,nd,h1,h2,hk=>by
  show bindC kindOf ((p,w) :: P.zip vs) m x=_;unfold bindC;exact j9c (i:=i) (Cf.mp nd).2 (by simpa using h1) (by simpa using h2) hk
def start(N:List Str)(vs:List V):St:=vs.map some++List.replicate (N.length - vs.length) none
def cxOf(CX:CXT)(P:Program)(w:World)(K:PySem.W.Frag)(mg:Str->Option Value)(base:Heap)(N:List Str)(qual:Str)(scope:Scope)(f:Addr)(cd:Value)(A:Around)(outer:List Env)(s:Shared)(H:Hp)(E:XK):Cx where
 prog:=P
 w:=w
 K:=K
 mg:=mg
 base:=base
 A:=A.deeper (envOfC qual scope s.heap.objs.size f cd)
 N:=N
 s₀:=s
 H₀:=H
 env:=envOfC qual scope s.heap.objs.size f cd
 outer:=outer
 stack:=envOfC qual scope s.heap.objs.size f cd :: outer
 ex:=[]
 calm:=true
 fn:=fun _=>true
 pn:=[]
 xe:=fun e s'=>wpAny (model P w) (A.deeper (envOfC qual scope s.heap.objs.size f cd)) (leaving (envOfC qual scope s.heap.objs.size f cd) e) (fun _ s''=>CX outer H s E e s'') (fun e' s''=>CX outer H s E e' s'') s'
theorem k1f{sc:Scope}{n:Nat}{x:Str}(h:sc.names.lookup x=some .cell):∃ c,(cellsFrom n sc.names []).lookup x=some c:=by
 have q:=PySem.W.cellsFrom_some sc.names n [] (.inl h);exact Du.mp q
theorem j8u{CX:CXT}{P:Program}{w:World}{K:PySem.W.Frag}{mg:Str->Option Value}{base:Heap}{N ps:List Str}{qual:Str}{scope:Scope}{f:Addr}{cd:Value}{A:Around}{outer:List Env}{s s1:Shared}{H:Hp}{E:XK}{us:List Value}{vs:List V}
  (S:FnScope N ps scope) (hd:A.handled=none) (e0:Env0 P w K mg base A outer s H) (hl:vs.length=ps.length) (r:Vals vs us)
  (x:InCallC s s.heap.objs.size (bindL (envOfC qual scope s.heap.objs.size f cd).kindOf (ps.zip us) fun _=>none) (cellsFrom (s.heap.objs.size+1) scope.names []) (bindC (envOfC qual scope s.heap.objs.size f cd).kindOf (ps.zip us) fun _=>none) s1) :
  Inv (cxOf CX P w K mg base N qual scope f cd A outer s H E) [] (start N vs) H s1:=by
 have hpl:ps.length<=N.length:=by have:=congrArg List.length S.pre;rw [Bt] at this;omega
 obtain⟨h1,tk,rfl,hk⟩:=x.done;have noA:∀ b:Addr,b∉(cxOf CX P w K mg base N qual scope f cd A outer s H E).ex:=fun b z=>absurd (show b∈([]:List Addr) from z) (by simp);refine⟨⟨e0.mod,S.kind,rfl,rfl,Ag _,fun y z c h1 h2=>?_,fun y hy=>?_,fun y c _ h=>?_,fun _=>hd,Around.frames_deeper e0.frames,.inr ⟨rfl,rfl⟩,fun b z=>absurd z (noA b),e0.bs,e0.bsz,fun b _ _=>noA b,fun b z=>absurd z (noA b),e0.funs,e0.frf⟩,
  rfl,e0.bare,Un.kept hk,⟨_,x.toInCall.ns,fun i y v h1 h2 h3=>?_⟩,fun y c h=>⟨_,x.cell y c h⟩,e0.hok.fresh (Ag _),fun y c h=>?_,fun p hp=>absurd (show p∈([]:List (Addr×Obj)) from hp) (by simp),e0.hok.kept hk,?_⟩
 ·exact name_of_addr x.apart (PySem.mem_of_lookup h1) (PySem.mem_of_lookup h2)
 ·have hy:scope.names.lookup y=some .cell\/scope.names.lookup y=some .free:=hy
  rcases hy with hy | hy
  ·exact k1f hy
  ·exact absurd rfl (S.nofree _ (PySem.mem_of_lookup hy))
 ·exact Fj (x.above y c (PySem.mem_of_lookup h))
 ·have hi:i < vs.length:=by
   unfold start at h2
   by_cases hi:i < vs.length
   ·exact hi
   ·rw [Bb (by simpa using hi)] at h2;rw [Dd] at h2
    split at h2 <;> cases h2
  have ha:vs[i]?=some v:=by
   unfold start at h2;rw [Ax (by simpa using hi),Ae] at h2;cases e:vs[i]? with
   | none=>rw [e] at h2;cases h2
   | some a=>rw [e] at h2;cases h2;rfl
  obtain⟨u,hu,rv⟩:=r.get ha;have hp:ps[i]?=some y:=by
   rw [<- S.pre,Ek (by omega)];exact h1
  have ndP:ps.Nodup:=by rw [<- S.pre];exact S.nd.sublist (List.take_sublist _ _)
  refine⟨u,rv,?_⟩
  rcases S.par y (An hp) with k | k
  ·exact .inl ⟨k,j9b ndP hp hu k⟩
  ·obtain⟨c,e⟩:=k1f (n:=s.heap.objs.size+1) k;refine .inr ⟨.inl k,c,e,?_⟩;have q:=x.cell y c e;rw [j9c ndP hp hu (by show scope.names.lookup y≠_;rw [k];decide)] at q;exact q
 ·exact e0.hok.fresh (Fj (x.above y c (PySem.mem_of_lookup h)))
 ·unfold start;show _=N.length;rw [Af,Aa,Cz];omega
theorem q3t{CX:CXT}{P:Program}{w:World}{K:PySem.W.Frag}{mg:Str->Option Value}{base:Heap}{k:Nat}{f:Addr}{name qual:Str}{params:Arguments}{body:List Stmt}{scope:Scope}{dV kV doc pm cdv ct oc:Value}{an od:Option Addr}
  {osl:Array (Option Value)} {N ps:List Str} {sp:Sp} (lk:K.lookup f=some ⟨oc,od,.func (PySem.W.fnOf name qual params body scope dV kV doc pm an cdv ct),osl⟩) (hcd:PySem.W.codeIn K cdv qual=true) (S:FnScope N ps scope)
  (len:∀ vs H Q E,sp vs H Q E->vs.length=ps.length)
  (hbody : ∀ (A : Around) (outer : List Env) (s : Shared) (H : Hp) (vs : List V) (Q : VK) (E : XK), Room k (A.deeper (envOfC qual scope s.heap.objs.size f cdv)) → sp vs H Q E →
   ∃ t,PSs (cxOf CX P w K mg base N qual scope f cdv A outer s H E) body t/\t {nx:=fun _ H'=>Q .non H',rt:=Q} (start N vs) H) :
  FnOk P w K mg base CX (k+1) f (PySem.W.fnOf name qual params body scope dV kV doc pm an cdv ct) ps sp:=by
 refine⟨len,fun A outer s H args us vs Q E hr e0 hb r hsp=>?_⟩;have hl:=len _ _ _ _ hsp;have KX:K.In s.heap:=e0.mod.kin.keeps fun b o e=>(e0.bs b o e).1;have lim:s.heap.NoLimit:=e0.mod.nolimit.keeps fun b o e=>(e0.bs b o e).1;have hkind:∀ y∈ps.zip us,scope.names.lookup y.1=some .local\/(scope.names.lookup y.1=some .cell/\((cellsFrom (s.heap.objs.size+1) scope.names []).lookup y.1).isSome=true):=fun⟨n,v⟩ hy=>by
  rcases S.par n (Fg hy).1 with q | q
  ·exact .inl q
  ·exact .inr ⟨q,PySem.W.cellsFrom_some _ _ _ (.inl q)⟩
 refine codeAny_call_function hr.depth (KX _ _ lk) rfl S.co S.gen rfl (PySem.W.codeRec_of KX hcd) (hb _ _ _ _ ?_);refine wpAny_newFunctionEnv_cells S.kind hkind fun env he s1 x=>?_;subst he;refine⟨lim.keeps x.toInCall.keep,codeAny_func ?_⟩;obtain⟨t,ht,hq⟩:=hbody A outer s H vs Q E (hr.deeper _) hsp;have I:Inv (cxOf CX P w K mg base N qual scope f cdv A outer s H E) [] (start N vs) H s1:=j8u S hr.hd e0 hl r x;refine wpAny_mono (ht [] s1 (start N vs) H _ I hq) (fun fl s' hs=>?_) fun e s' hs=>hs;have fin:∀{σ':St} {H':Hp} {v:V} {u:Value},Inv (cxOf CX P w K mg base N qual scope f cdv A outer s H E) [] σ' H' s'->RelV v u->Q v H'->CE outer P w H s Q u s':=
  fun{σ' H' v u} J rv q=>⟨v,H',J.os,J.bare,J.base,J.hok,rv,q⟩
 cases fl with
 | ret u=>
  obtain⟨v,σ',H',J,rv,q⟩:=hs;exact fin J rv q
 | next=>
  obtain⟨σ',H',J,q⟩:=hs;exact fin (v:=V.non) (u:=Value.none) J rfl q
 | brk=>
  obtain⟨_,_,_,q⟩:=hs;exact False.elim q
 | cont=>
  obtain⟨_,_,_,q⟩:=hs;exact False.elim q
end L2
namespace L2
open PySem PySem.Spec PyProof.Rows
section
variable{X:Cx}{x:Str}{p pos:Pos}{e:Expr}{es:List Expr}{t:TA}{id T:String}{r:List V->Hp->VK->Prop}
def tCB(r:List V->Hp->VK->Prop)(t:TA):TE:=fun σ H Q=>t σ H fun vs H1=>r vs H1 Q
theorem k69(hc:j2s X (.builtin id) r)(hg:Gl X x)(hm:X.mg x=none)(hv:bootBuiltins x=some (.builtin id))(ha:PA X (e :: es) t)(hn:x ≠ "__name__":=by decide)(hdb:(x == ("__debug__" : Str))=false:=by decide)
  (he:starEach (e :: es) X.env=(false,eval e X.env) :: starEach es X.env:=by rfl) (hpl:(backTo pos (starEach es X.env)).any (·.1)=false:=by rfl):PE X (.Call (.Name x p) (e :: es) [] pos) (tCB r t):=by
 intro pins s σ H Q I h;refine wpAny_Call_Name_kw (j47 I hg hm hv ?_ hn hdb);exact PyProof.Rows.callWith_builtin1 (thn (ha pos pins s σ H _ I h) fun us s1 ⟨vs,H1,I1,r1,q1⟩=>hc pins s1 σ H1 vs us Q I1 r1 q1) he hpl
theorem k5u(hc:j2s X (.type T) r)(hg:Gl X x)(hm:X.mg x=none)(hv:bootBuiltins x=some (.type T))(ha:PA X (e :: es) t)(hn:x ≠ "__name__":=by decide)(hdb:(x == ("__debug__" : Str))=false:=by decide)
  (he:starEach (e :: es) X.env=(false,eval e X.env) :: starEach es X.env:=by rfl) (hpl:(backTo pos (starEach es X.env)).any (·.1)=false:=by rfl):PE X (.Call (.Name x p) (e :: es) [] pos) (tCB r t):=by
 intro pins s σ H Q I h;refine wpAny_Call_Name_kw (j47 I hg hm hv ?_ hn hdb);exact PyProof.Rows.callWith_type1 (thn (ha pos pins s σ H _ I h) fun us s1 ⟨vs,H1,I1,r1,q1⟩=>hc pins s1 σ H1 vs us Q I1 r1 q1) he hpl
end
end L2
namespace HT
open PySem PyProof.Rows
section
open PySem.SeqAt
open PySem.AutoSeq1 (wpAny_loadPart')
open PySem.MeetsSeq PySem.MeetsSeq2 PySem.MeetsSeq3
end
section
variable{prog:Program}{w:World}{A:Around}{E:Value->Shared->Prop}{s:Shared}
def sIx(n d:Nat):Option Int->Nat
 | none=>d
 | some v=>if v < 0 then(v+(n:Int)).toNat else min v.toNat n
theorem sIx_none(n d:Nat):sIx n d none=d:=rfl
theorem sIx_nat(n d k:Nat):sIx n d (some (k:Int))=min k n:=by
 show(if(k:Int) < 0 then((k:Int)+(n:Int)).toNat else min (k:Int).toNat n)=min k n;rw [if_neg (by omega),Au]
end
end HT
namespace L2
open PySem PySem.Spec PyProof.Rows
abbrev TO:=St->Hp->(Option Int->Hp->Prop)->Prop
def PO(X:Cx)(e:Option Expr)(t:TO):Prop:=
 ∀(pins:List (Addr×Obj)) (s:Shared) (σ:St) (H:Hp) (Q:Option Int->Hp->Prop),Inv X pins σ H s->t σ H Q ->
  wpAny (model X.prog X.w) X.A (evalPart e X.env) (fun u s'=>∃ o H',Inv X pins σ H' s'/\IsPart u o/\Q o H') X.xe s
def k9m:TO:=fun _ H Q=>Q none H
def q5j(t:TE):TO:=fun σ H Q=>t σ H fun x H1=>∃ i,x = .int i/\Q (some i) H1
section
variable{X:Cx}{e:Expr}{te:TE}{lo hi:Option Expr}{tl th:TO}{pos p2:Pos}
theorem k86:PO X none k9m:=by
 intro pins s σ H Q I h;rw [evalPart_none];exact wpAny_pure ⟨none,H,I,.none,h⟩
theorem k91(h:PE X e te):PO X (some e) (q5j te):=by
 intro pins s σ H Q I hw;rw [evalPart_some];refine thn (h pins s σ H _ I hw) fun u s1 ⟨x,H1,I1,r1,q1⟩=>?_;obtain⟨i,rfl,q⟩:=q1;obtain⟨t,rfl⟩:=r1;exact⟨some i,H1,I1,.int i t,q⟩
def SlR(X:Cx)(r:V->Option Int->Option Int->Hp->VK->Prop):Prop:=
 ∀(pins:List (Addr×Obj)) (s:Shared) (σ:St) (H:Hp) (x:V) (v vl vu:Value) (lo hi:Option Int) (sl:Addr) (Q:VK),Inv X pins σ H s->RelV x v->s.heap.IsSliceOf sl vl vu .none->IsPart vl lo->IsPart vu hi->r x lo hi H Q ->
  ∃ T id,typeLookup (.type T) "__getitem__" = pure (some (.builtin id))/\s.TypeIs v T/\wpAny (model X.prog X.w) X.A (getItem v (.ref sl)) (EP X pins σ Q) X.xe s
def tSl(r:V->Option Int->Option Int->Hp->VK->Prop)(te:TE)(tl th:TO):TE:=fun σ H Q=>te σ H fun x H1=>tl σ H1 fun l H2=>th σ H2 fun u H3=>r x l u H3 Q
theorem k7s{r:V->Option Int->Option Int->Hp->VK->Prop}(hr:SlR X r)(he:PE X e te)(hl:PO X lo tl)(hu:PO X hi th):PE X (.Subscript e (.Slice lo hi none p2) pos) (tSl r te tl th):=by
 intro pins s σ H Q I h;refine Subscript_ (thn (he pins s σ H _ I h) fun v s1 ⟨x,H1,I1,r1,q1⟩=>?_);refine wpAny_Slice (thn (hl pins s1 σ H1 _ I1 q1) fun vl s2 ⟨l,H2,I2,pl,q2⟩=>thn (hu pins s2 σ H2 _ I2 q2) fun vu s3 ⟨u,H3,I3,pu,q3⟩=>?_);rw [evalPart_none];refine wpAny_pure ?_;have I4:Inv X pins σ H3 {s3 with heap:=s3.heap.push {cls:= .type "slice",data:= .fields #[vl,vu,.none]}}:=I3.kept (t':=s3.toks) fun b ob q=>Ad _ q;obtain⟨T,id,hT,ht,hg⟩:=hr pins {s3 with heap:=s3.heap.push {cls:= .type "slice",data:= .fields #[vl,vu,.none]}} σ H3 x v vl vu l u s3.heap.objs.size Q I4 r1 (Heap.IsSliceOf.new ..) pl pu q3;show wpAny (model X.prog X.w) X.A (subscriptTail e (.Slice lo hi none p2) v (.ref s3.heap.objs.size)) (EP X pins σ Q) X.xe {s3 with heap:=s3.heap.push {cls:= .type "slice",data:= .fields #[vl,vu,.none]}};exact tail_any (ops:=[.ref s3.heap.objs.size,v]) ht hT hg (by with_unfolding_all rfl)
def cutV(xs:List V)(lo hi:Option Int):List V:=(xs.drop (HT.sIx xs.length 0 lo)).take (HT.sIx xs.length xs.length hi - HT.sIx xs.length 0 lo)
theorem j97(xs:List V)(lo hi:Option Int):(cutV xs lo hi).length<=xs.length:=by
 unfold cutV;rw [Bt,Dm];omega
end
end L2
namespace L2
open PySem PySem.Spec PyProof.Rows
def ixN(n:Nat)(i:Int):Option Nat:=if 0<=i then(if i < n then some i.toNat else none) else if -(n:Int)<=i then some (i+n).toNat else none
def atI{α:Type}(xs:List α)(i:Int):Option α:=(ixN xs.length i).bind fun j=>xs[j]?
theorem q1j{n:Nat}{i:Int}{j:Nat}(h:ixN n i=some j):seqIndex? i n=some j/\j < n/\-(n:Int)<=i/\i < n:=by
 unfold ixN at h
 by_cases h0:0<=i
 ·rw [if_pos h0] at h
  by_cases h1:i < n
  ·rw [if_pos h1] at h;have e:i.toNat=j:=Option.some.inj h;exact⟨by rw [seqIndex_of h0 h1,e],by omega,by omega,h1⟩
  ·rw [if_neg h1] at h;cases h
 ·rw [if_neg h0] at h
  by_cases h1:-(n:Int)<=i
  ·rw [if_pos h1] at h;have e:(i+n).toNat=j:=Option.some.inj h;exact⟨by rw [seqIndex_neg (by omega) h1,e],by omega,h1,by omega⟩
  ·rw [if_neg h1] at h;cases h
theorem k0a{α:Type}{xs:List α}{i:Int}{v:α}(h:atI xs i=some v):∃ j,seqIndex? i xs.length=some j/\xs[j]?=some v/\j < xs.length/\-(xs.length:Int)<=i/\i < xs.length:=by
 unfold atI at h;cases e:ixN xs.length i with
 | none=>rw [e] at h;cases h
 | some j=>
  rw [e] at h;obtain⟨h1,h2,h3,h4⟩:=q1j e;exact⟨j,h1,h,h2,h3,h4⟩
theorem j4n{α:Type}{xs:List α}{j:Nat}{v:α}(h:xs[j]?=some v):atI xs (j:Int)=some v:=by
 have hj:j < xs.length:=(Ab.mp h).1;have e:ixN xs.length (j:Int)=some j:=by
  unfold ixN;rw [if_pos (by omega),if_pos (by omega)];simp
 unfold atI;rw [e];exact h
def k5n(b:Expr):Prop:=∀ o i,subscripted b false o i=operate [o,i] (getItem o i)
def IxR(X:Cx)(r:R2):Prop:=
 ∀(value slice:Expr) (pins:List (Addr×Obj)) (s:Shared) (σ:St) (H:Hp) (x y:V) (v u:Value) (Q:VK),Inv X pins σ H s->RelV x v->RelV y u->r x y H Q ->
  subscripted slice false v u=operate [v,u] (getItem v u)->wpAny (model X.prog X.w) X.A (subscriptTail value slice v u) (EP X pins σ Q) X.xe s
def MtR(X:Cx)(id:String)(r:V->List V->Hp->VK->Prop):Prop:=
 ∀(pins:List (Addr×Obj)) (s:Shared) (σ:St) (H:Hp) (x:V) (xs:List V) (v:Value) (us:List Value) (Q:VK),Inv X pins σ H s->RelV x v->Vals xs us->r x xs H Q ->
  wpAny (model X.prog X.w) X.A (call (.builtin id) (v :: us)) (EP X pins σ Q) X.xe s
section
variable{X:Cx}{a b:Expr}{ta tb:TE}{pos:Pos}
theorem q4l{r:R2}(hr:IxR X r)(ha:PE X a ta)(hb:PE X b tb)(hs:k5n b):PE X (.Subscript a b pos) (tOp r ta tb):=by
 intro pins s σ H Q I h;exact Subscript_ (binT ha hb I h fun v u s2 x y H2 I2 rx ry q=>hr a b pins s2 σ H2 x y v u Q I2 rx ry q (hs _ _))
def rIxL(K:PySem.W.Frag):R2:=fun x y H Q=>∃ p xs i v,x = .ref p/\y = .int i/\SqL K H p xs/\atI xs i=some v/\Q v H
def rIxT(K:PySem.W.Frag):R2:=fun x y H Q=>∃ p xs i v,x = .ref p/\y = .int i/\SqT K H p xs/\atI xs i=some v/\Q v H
def rIxS:R2:=fun x y H Q=>∃ z i c,x = .str z/\y = .int i/\z.length<=sizeLine/\atI z.cps.toList i=some c/\Q (.str ⟨#[c]⟩) H
theorem j0y:IxR X (rIxL X.K):=by
 intro value slice pins s σ H x y v u Q I rx ry h hs;obtain⟨p,xs,i,z,rfl,rfl,hq,he,q⟩:=h;cases rx;obtain⟨t,rfl⟩:=ry;obtain⟨its,r,pl,hz⟩:=I.list hq;obtain⟨j,h1,h2,h3,h4,h5⟩:=k0a he;obtain⟨w,ew,rw'⟩:=r.get h2;have hl:=r.length;have hn:=j6x;have fin:EP X pins σ Q w s:=⟨z,H,I,rw',q⟩
 by_cases h0:0<=i
 ·have hj:i.toNat=j:=by
   rw [seqIndex_of h0 h5] at h1;exact Option.some.inj h1
  exact item_listR pl.isList h0 (by omega) (by rw [hj];simpa using ew) fin hs
 ·have hj:(i+(its.toArray.size:Int)).toNat=j:=by
   rw [seqIndex_neg (by omega) h4] at h1;rw [Ap,<- hl];exact Option.some.inj h1
  exact subscriptTail_builtinR (x:=w) pl.isList.typeIs slot_list_getitem.lookup
   (wpAny_getItem_list_neg (Q:=fun r s'=>r=w/\EP X pins σ Q r s') pl.isList (by omega) (by rw [Ap] <;> omega) (by omega) (by rw [hj];simpa using ew) ⟨rfl,fin⟩) hs
theorem j0p:IxR X (rIxT X.K):=by
 intro value slice pins s σ H x y v u Q I rx ry h hs;obtain⟨p,xs,i,z,rfl,rfl,hq,he,q⟩:=h;cases rx;obtain⟨t,rfl⟩:=ry;obtain⟨its,r,pl,hz⟩:=I.tuple hq;obtain⟨j,h1,h2,h3,h4,h5⟩:=k0a he;obtain⟨w,ew,rw'⟩:=r.get h2;have hl:=r.length;have hn:=j6x;have fin:EP X pins σ Q w s:=⟨z,H,I,rw',q⟩;exact subscriptTail_builtinR (x:=w) pl.typeIs slot_tuple_getitem.lookup
  (getItem_tuple (j:=j) (Q:=fun r s'=>r=w/\EP X pins σ Q r s') pl (by omega) (by omega) (by rw [Ap,<- hl];exact h1) (by simpa using ew) ⟨rfl,fin⟩) hs
theorem k3o:IxR X rIxS:=by
 intro value slice pins s σ H x y v u Q I rx ry h hs;obtain⟨z,i,c,rfl,rfl,hz,he,q⟩:=h;obtain⟨t,rfl⟩:=rx;obtain⟨t',rfl⟩:=ry;obtain⟨j,h1,h2,h3,h4,h5⟩:=k0a he;have hl:z.cps.toList.length=z.length:=by simp [Str.length]
 rw [hl] at h1 h4 h5;have hn:=j6x;exact tail_any (typeIs_str s z t) slot_str_getitem.lookup (getItem_str (c:=c) (by
  have e1:decide (i < -(2 ^ 63:Int))=false:=decide_eq_false (by omega);have e2:decide (i>=2 ^ 63)=false:=decide_eq_false (by omega);rw [e1,e2,Bool.or_false]) (by rw [h1];simpa using h2) ⟨.str ⟨#[c]⟩,H,I.tok _,⟨_,rfl⟩,q⟩) hs
theorem j9a(lo hi:Option Int)(n:Nat):(sliceBounds lo hi none n).1=((HT.sIx n 0 lo:Nat):Int)/\(sliceBounds lo hi none n).2.1=((HT.sIx n n hi:Nat):Int)/\(sliceBounds lo hi none n).2.2=1:=by
 refine⟨?_,?_,rfl⟩
 ·cases lo with
  | none=>simp [sliceBounds,HT.sIx]
  | some i=>
   simp only [sliceBounds,HT.sIx,Option.getD_none,show(1:Int) > 0 by decide,if_true]
   by_cases h:i < 0
   ·simp only [h,if_true] <;> omega
   ·simp only [h,if_false] <;> omega
 ·cases hi with
  | none=>simp [sliceBounds,HT.sIx]
  | some i=>
   simp only [sliceBounds,HT.sIx,Option.getD_none,show(1:Int) > 0 by decide,if_true]
   by_cases h:i < 0
   ·simp only [h,if_true] <;> omega
   ·simp only [h,if_false] <;> omega
theorem j8a(its:List Value)(lo hi:Option Int):slicePick its.toArray lo hi none=((its.drop (HT.sIx its.length 0 lo)).take (HT.sIx its.length its.length hi - HT.sIx its.length 0 lo)).toArray:=by
 obtain⟨h1,h2,h3⟩:=j9a lo hi its.toArray.size;unfold slicePick;rw [h1,h2,h3];simp only [sliceRange_one,pick_run,Ap] <;> rfl
def rSlL(K:PySem.W.Frag):V->Option Int->Option Int->Hp->VK->Prop:=fun x lo hi H Q=>∃ a xs,x = .ref a/\SqL K H a xs/\∀ p,H p=none->Q (.ref p) (upd H p (.lst (cutV xs lo hi)))
theorem k5l:SlR X (rSlL X.K):=by
 intro pins s σ H x v vl vu lo hi sl Q I rx hs pl pu h;obtain⟨a,xs,rfl,hx,q⟩:=h;cases rx;obtain⟨its,r,ht,hz⟩:=I.list hx;have hlen:=r.length;refine⟨"list",_,slot_list_getitem.lookup,ht.isList.typeIs,?_⟩;refine wpAny_getItem_list_slice ht.isList hs pl pu .none (by simp) ?_ (by rw [Ap] <;> omega);rw [j8a,<- hlen];refine⟨.ref s.heap.objs.size,_,I.laid (t':=s.toks) (o:= .lst (cutV xs lo hi)) (fun b ob q=>Ad _ q) (Ag _) ?_,rfl,q _ (I.hok.fresh (Ag _))⟩;exact⟨Bs (j97 xs lo hi) hz,_,0,(r.drop (HT.sIx xs.length 0 lo)).take (HT.sIx xs.length xs.length hi - HT.sIx xs.length 0 lo),Aj _ rfl⟩
def j6h:V->Bool
 | .non=>true
 | .bl _=>true
 | .int _=>true
 | .str _=>true
 | _=>false
def eqV:V->V->Bool
 | .non,.non=>true
 | .bl a,.bl b=>a == b
 | .bl a,.int b=>(if a then 1 else 0) == b
 | .int a,.bl b=>a == (if b then 1 else 0)
 | .int a,.int b=>a == b
 | .str a,.str b=>a == b
 | _,_=>false
theorem k8z{A:Around}{s:Shared}{y x:V}{u v:Value}(ry:RelV y u)(rx:RelV x v)(fy:j6h y=true)(fx:j6h x=true):SeqAt.EqAt A s u v (eqV y x):=by
 cases y with
 | non=>
  cases ry;cases x with
  | non=>cases rx;exact SeqAt.EqAt.same _
  | bl b=>cases rx;exact SeqAt.EqAt.none_bool b
  | int b=>obtain⟨t,rfl⟩:=rx;exact SeqAt.EqAt.none_int b t
  | str b=>obtain⟨t,rfl⟩:=rx;exact SeqAt.EqAt.none_str b t
  | _=>exact absurd (show false=true from fx) Ak
 | bl a=>
  cases ry;cases x with
  | non=>cases rx;exact SeqAt.EqAt.bool_none a
  | bl b=>cases rx;exact SeqAt.EqAt.bool_bool a b
  | int b=>obtain⟨t,rfl⟩:=rx;exact SeqAt.EqAt.bool_int a b t
  | str b=>obtain⟨t,rfl⟩:=rx;exact SeqAt.EqAt.bool_str a b t
  | _=>exact absurd (show false=true from fx) Ak
 | int a=>
  obtain⟨t',rfl⟩:=ry;cases x with
  | non=>cases rx;exact SeqAt.EqAt.int_none a t'
  | bl b=>cases rx;exact SeqAt.EqAt.int_bool a t' b
  | int b=>obtain⟨t,rfl⟩:=rx;exact SeqAt.EqAt.int_int a t' b t
  | str b=>obtain⟨t,rfl⟩:=rx;exact SeqAt.EqAt.int_str a t' b t
  | _=>exact absurd (show false=true from fx) Ak
 | str a=>
  obtain⟨t',rfl⟩:=ry;cases x with
  | non=>cases rx;exact SeqAt.EqAt.str_none a t'
  | bl b=>cases rx;exact SeqAt.EqAt.str_bool a t' b
  | int b=>obtain⟨t,rfl⟩:=rx;exact SeqAt.EqAt.str_int a t' b t
  | str b=>obtain⟨t,rfl⟩:=rx;exact SeqAt.EqAt.str_str a t' b t
  | _=>exact absurd (show false=true from fx) Ak
 | _=>exact absurd (show false=true from fy) Ak
def eqU(x:V)(u:Value):Bool:=match u with
 | .none=>eqV .non x
 | .bool b=>eqV (.bl b) x
 | .int i _=>eqV (.int i) x
 | .str z _=>eqV (.str z) x
 | _=>false
theorem k8i{x y:V}{u:Value}(r:RelV y u)(f:j6h y=true):eqU x u=eqV y x:=by
 cases y with
 | non=>cases r;rfl
 | bl b=>cases r;rfl
 | int i=>obtain⟨t,rfl⟩:=r;rfl
 | str z=>obtain⟨t,rfl⟩:=r;rfl
 | _=>exact absurd (show false=true from f) Ak
theorem j9q{x:V}:∀{xs:List V} {us:List Value},Vals xs us->xs.all j6h=true->us.any (eqU x)=xs.any fun y=>eqV y x
 | _,_,.nil,_=>rfl
 | y :: xs,u :: us,.cons r t,f=>by
  rw [Fm,Bh] at f;rw [Dk,Dk,k8i r f.1,j9q t f.2]
theorem j7d{A:Around}{s:Shared}{x:V}{v:Value}(rx:RelV x v)(fx:j6h x=true):∀{xs:List V} {us:List Value},Vals xs us->xs.all j6h=true->∀ u∈us,SeqAt.EqAt A s u v (eqU x u)
 | _,_,.nil,_=>fun u hu=>by cases hu
 | y :: xs,u :: us,.cons r t,f=>fun u' hu=>by
  rw [Fm,Bh] at f
  rcases Ao.mp hu with rfl | hu
  ·rw [k8i r f.1];exact k8z r rx f.1 fx
  ·exact j7d rx fx t f.2 u' hu
def inV(x:V)(xs:List V):Bool:=xs.any fun y=>eqV y x
def rIn(K:PySem.W.Frag)(neg:Bool):R2:=fun x y H Q=>∃ p xs,y = .ref p/\(SqL K H p xs\/SqT K H p xs)/\j6h x=true/\xs.all j6h=true/\Q (.bl (if neg then !inV x xs else inV x xs)) H
theorem j8k:OpR X (compareOp .In) (rIn X.K false):=by
 intro pins s σ H x y v u Q I rx ry h;obtain⟨p,xs,rfl,hq,fx,fs,q⟩:=h;cases ry
 rcases hq with hq | hq
 ·obtain⟨its,r,pl,hz⟩:=I.list hq;refine SeqAt.in_listAt (eqU x) pl.isList (fun w hw=>j7d rx fx r fs w (by simpa using hw)) ⟨.bl _,H,I,rfl,?_⟩;rw [show its.toArray.any (eqU x)=its.any (eqU x) by simp,j9q r fs];exact q
 ·obtain⟨its,r,pl,hz⟩:=I.tuple hq;refine SeqAt.in_tupleAt (eqU x) pl (fun w hw=>j7d rx fx r fs w (by simpa using hw)) ⟨.bl _,H,I,rfl,?_⟩;rw [show its.toArray.any (eqU x)=its.any (eqU x) by simp,j9q r fs];exact q
theorem j9e:OpR X (compareOp .NotIn) (fun x y H Q=>∃ i j,x = .str i/\y = .str j/\Q (.bl (!(!(Builtin.Str.occurrences j i 0 j.length 1).isEmpty))) H):=by
 intro pins s σ H x y v u Q I rx ry h;obtain⟨i,j,rfl,rfl,q⟩:=h;obtain⟨t,rfl⟩:=rx;obtain⟨t',rfl⟩:=ry;exact notIn_str ⟨.bl _,H,I,rfl,q⟩
theorem j0k:j2s X (.builtin "len") (fun xs H Q=>∃ p ys,xs=[.ref p]/\(SqL X.K H p ys\/SqT X.K H p ys)/\Q (.int ys.length) H):=by
 intro pins s σ H xs us Q I r h;obtain⟨p,ys,rfl,hq,q⟩:=h;obtain⟨u,rfl,rx⟩:=vals1 r;cases rx;have hn:=j6x
 rcases hq with hq | hq
 ·obtain⟨its,r',pl,hz⟩:=I.list hq;have hlen:=r'.length;exact Calls.call_len_list pl.isList (by simp only [Ap] <;> omega) ⟨.int ys.length,H,I.tok _,⟨s.toks+1,by rw [Ap,hlen]⟩,q⟩
 ·obtain⟨its,r',pl,hz⟩:=I.tuple hq;have hlen:=r'.length;exact len_tuple pl (by simp only [Ap] <;> omega) ⟨.int ys.length,H,I.tok _,⟨s.toks+1,by rw [Ap,hlen]⟩,q⟩
theorem j3k:j2s X (.builtin "len") (fun xs H Q=>∃ z,xs=[.str z]/\z.length<=sizeLine/\Q (.int z.length) H):=by
 intro pins s σ H xs us Q I r h;obtain⟨z,rfl,hz,q⟩:=h;obtain⟨u,rfl,t,rfl⟩:=vals1 r;have hn:=j6x;exact len_str (by omega) ⟨.int z.length,H,I.tok _,⟨_,rfl⟩,q⟩
theorem j4y:j2s X (.type "list") (fun xs H Q=>∃ p ys,xs=[.ref p]/\(SqL X.K H p ys\/SqT X.K H p ys)/\∀ l,H l=none->Q (.ref l) (upd H l (.lst ys))):=by
 intro pins s σ H xs us Q I r h;obtain⟨p,ys,rfl,hq,q⟩:=h;obtain⟨u,rfl,rx⟩:=vals1 r;cases rx;have fin:∀(its:List Value),Vals ys its->ys.length<=sizeLine->∀(h':Heap) (c':Nat),(∀ b o',s.heap.get? b=some o'->h'.get? b=some o') ->
   h'.get? s.heap.objs.size=some {cls:= .type "list",dict:=none,data:= .seq its.toArray c',slots:=#[]}->EP X pins σ Q (.ref s.heap.objs.size) {s with heap:=h'}:=fun its r' hz h' c' kp e=>
  ⟨.ref s.heap.objs.size,_,I.laid (t':=s.toks) kp (Ag _) (show ObjOk X.prog X.w _ h' _ (.lst ys) from⟨hz,its,c',r',e⟩),rfl,q _ (I.hok.fresh (Ag _))⟩
 rcases hq with hq | hq
 ·obtain⟨its,r',pl,hz⟩:=I.list hq;have hlen:=r'.length;obtain⟨o,ho,hc,n,hd⟩:=pl.isList;exact call_list_seq p (.inl rfl) ho hc hd (fun h' c' kp e=>fin its r' hz h' c' kp e) (by simp only [Ap] <;> omega)
 ·obtain⟨its,r',pl,hz⟩:=I.tuple hq;have hlen:=r'.length;obtain⟨o,ho,hc,n,hd⟩:=pl;exact call_list_seq p (.inr rfl) ho hc hd (fun h' c' kp e=>fin its r' hz h' c' kp e) (by simp only [Ap] <;> omega)
def tyV(K:PySem.W.Frag)(T:String)(x:V)(H:Hp):Prop:=match x with
 | .str _=>T = "str"
 | .int _=>T = "int"
 | .ref p=>(T = "list"/\∃ xs,SqL K H p xs)\/(T = "tuple"/\∃ o,K.lookup p=some o/\o.cls = .type "tuple"/\o.dict=none) \/
   (T = "dict"/\((∃ kvs,H p=some (.dK kvs))\/∃ kvs,H p=some (.dT kvs)))\/(T = "set"/\∃ S n,H p=some (.set S n))
 | _=>False
theorem q2k{pins:List (Addr×Obj)}{σ:St}{H:Hp}{s:Shared}{T:String}{x:V}{v:Value}(I:Inv X pins σ H s)(r:RelV x v)(ty:tyV X.K T x H) :
  s.TypeIs v T/\∀ a,v = .ref a->∃ ob,s.heap.get? a=some ob/\ob.dict=none:=by
 cases x with
 | str z=>
  obtain⟨t,rfl⟩:=r;cases (show T = "str" from ty);exact⟨typeIs_str s z t,fun _ e=>nomatch e⟩
 | int i=>
  obtain⟨t,rfl⟩:=r;cases (show T = "int" from ty);exact⟨typeIs_int s i t,fun _ e=>nomatch e⟩
 | ref p=>
  cases r
  rcases ty with ⟨rfl,xs,hq⟩ | ⟨rfl,o,hk,hc,hd⟩ | ⟨rfl,hk⟩ | ⟨rfl,S,n,hk⟩
  ·obtain⟨its,_,pl,_⟩:=I.list hq;refine⟨pl.isList.typeIs,fun a e=>?_⟩;cases e;obtain⟨o,n,e,c,hd,_⟩:=pl;exact⟨o,e,hd⟩
  ·refine⟨⟨o,I.kIn p o hk,hc⟩,fun a e=>?_⟩;cases e;exact⟨o,I.kIn _ o hk,hd⟩
  ·have z:∃ o,s.heap.get? p=some o/\o.ExactDict:=by
    rcases hk with ⟨kvs,hk⟩ | ⟨kvs,hk⟩
    ·obtain⟨_,_,_,_,o,_,_,e,ex,_⟩:=I.hok p _ hk;exact⟨o,e,ex⟩
    ·obtain⟨_,_,_,_,o,_,_,e,ex,_⟩:=I.hok p _ hk;exact⟨o,e,ex⟩
   obtain⟨o,e,ex⟩:=z;refine⟨⟨o,e,ex.1⟩,fun a e2=>?_⟩;cases e2;exact⟨o,e,ex.2.1⟩
  ·obtain⟨o,_,_,_,e,ex,_⟩:=I.hok p _ hk;refine⟨⟨o,e,ex.1⟩,fun a e2=>?_⟩;cases e2;exact⟨o,e,ex.2.1⟩
 | _=>exact False.elim ty
def tBM(K:PySem.W.Frag)(T:String)(r:V->List V->Hp->VK->Prop)(to:TE)(t:TA):TE:=fun σ H Q=>to σ H fun x H1=>tyV K T x H1/\t σ H1 fun xs H2=>r x xs H2 Q
variable{o e:Expr}{es:List Expr}{to:TE}{t:TA}{name:Str}{apos cpos:Pos}{T id:String}{r:V->List V->Hp->VK->Prop}
theorem k87(pa:PlainAttrs T)(slot:Slot T name id)(hty:typeOf (.builtin id)=pure (.type "method_descriptor"))(hm:MtR X id r)(ho:PE X o to)(ha:PA X (e :: es) t)
  (hbase:attributeBase o name X.env (eval o X.env)=eval o X.env:=by rfl)
  (hfew : ((backTo cpos (starEach (e :: es) X.env)).all (fun x => !x.1) && (backToKw cpos (keywordEach [] X.env)).all (fun x => x.1.isSome)
   && decide ((e :: es).length+([]:List Keyword).length+(if([]:List Keyword).isEmpty then 0 else 1) < 30))=true:=by rfl)
  (hline:(apos.endLine == cpos.line)=true:=by rfl) (hs:starEach (e :: es) X.env=(false,eval e X.env) :: starEach es X.env:=by rfl) (hplain:(backTo cpos (starEach es X.env)).any (·.1)=false:=by rfl) :
  PE X (.Call (.Attribute o name apos) (e :: es) [] cpos) (tBM X.K T r to t):=by
 intro pins s σ H Q I h;refine wpAny_Call_method_late hbase hfew hline rfl (thn (ho pins s σ H _ I h) fun v s1 ⟨x,H1,I1,r1,ty,q1⟩=>?_);obtain⟨h1,h2⟩:=q2k I1 r1 ty;refine⟨T,id,pa,slot,hty,h1,h2,?_⟩;have hA:=ha cpos pins s1 σ H1 _ I1 q1;rw [hs] at hA ⊢;refine Calls.callWith_builtin (by show(false || (backTo cpos (starEach es X.env)).any (·.1))=false;rw [hplain] <;> rfl) (Calls.evalArgs_plain ?_);exact thn hA fun us s2 ⟨vs,H2,I2,r2,q2⟩=>hm pins s2 σ H2 x vs v us Q I2 r1 r2 q2
end
end L2
namespace L2
open PySem PySem.Spec PyProof.Rows
def MtM(X:Cx)(id:String)(r:V->List V->Hp->VK->Prop):Prop:=
 ∀(pins:List (Addr×Obj)) (s:Shared) (σ:St) (H:Hp) (x:V) (xs:List V) (v:Value) (us:List Value) (Q:VK),Inv X pins σ H s->RelV x v->Vals xs us->r x xs H Q ->
  wpAny (model X.prog X.w) X.A (call (.builtin id) (v :: us)) (EP X pins σ Q) X.xe s
theorem Vals.hd{x:V}{xs:List V}{us:List Value}(h:Vals (x :: xs) us):∃ u vs,us=u :: vs/\RelV x u/\Vals xs vs:=by
 cases h with
 | cons r t=>exact⟨_,_,rfl,r,t⟩
theorem Vals.nl{us:List Value}(h:Vals [] us):us=[]:=by
 cases h;rfl
theorem Vals.one{x:V}{us:List Value}(h:Vals [x] us):∃ u,us=[u]/\RelV x u:=by
 obtain⟨u,vs,rfl,r,t⟩:=h.hd;rw [t.nl];exact⟨u,rfl,r⟩
theorem Vals.two{x y:V}{us:List Value}(h:Vals [x,y] us):∃ u v,us=[u,v]/\RelV x u/\RelV y v:=by
 obtain⟨u,vs,rfl,r,t⟩:=h.hd;obtain⟨v,ws,rfl,q,t⟩:=t.hd;rw [t.nl];exact⟨u,v,rfl,r,q⟩
theorem Vals.eraseIdx:∀{xs:List V} {us:List Value} (i:Nat),Vals xs us->Vals (xs.eraseIdx i) (us.eraseIdx i)
 | _,_,_,.nil=> .nil
 | _,_,0,.cons _ t=>t
 | _,_,i+1,.cons r t=> .cons r (Vals.eraseIdx i t)
theorem j87{α:Type}:∀(l:List α) (i:Nat),(l.eraseIdx i).length<=l.length
 | [],_=>Ag _
 | _ :: _,0=>Eh _
 | _ :: r,i+1=>Nat.succ_le_succ (j87 r i)
section
variable{X:Cx}{pins:List (Addr×Obj)}{σ:St}{H:Hp}{s:Shared}{l b:Addr}{xs ys zs:List V}
theorem Inv.lset{its its':List Value}{n:Nat}{f:Array Value->Array Value}{t':Nat}(I:Inv X pins σ H s)(hH:H l=some (.lst xs))
  (e:s.heap.get? l=some {cls:= .type "list",data:= .seq its.toArray n}) (hf:f its.toArray=its'.toArray) (hv:Vals ys its') (hz:ys.length<=sizeLine) :
  Inv X pins σ (upd H l (.lst ys)) {s with heap:=s.heap.update l (Obj.mapSeq f),toks:=t'}:=by
 have q:=PySem.IsL.update e f;rw [hf] at q;refine I.write (x:=l) (e:=l) (by rw [hH];exact trivial) (.inl rfl) (fun b' u hb hu=>(Bm s.heap (Obj.mapSeq f) (Ne.symm hb)).trans hu) ⟨_,q⟩ ?_;exact⟨hz,its',_,hv,q⟩
theorem Inv.lnew{its:List Value}{t':Nat}(I:Inv X pins σ H s)(hv:Vals ys its)(hz:ys.length<=sizeLine) :
  Inv X pins σ (upd H s.heap.objs.size (.lst ys)) {s with heap:=s.heap.push {cls:= .type "list",data:= .seq its.toArray},toks:=t'}:=
 I.laid (fun _ _ q=>Ad _ q) (Ag _) ⟨hz,its,0,hv,Aj _ rfl⟩
theorem Inv.fresh(I:Inv X pins σ H s):H s.heap.objs.size=none:=I.hok.fresh (Ag _)
theorem Inv.lstM(I:Inv X pins σ H s)(hH:H l=some (.lst xs)):xs.length<=sizeLine/\∃(its:List Value) (n:Nat),Vals xs its/\xs.length=its.length/\s.heap.get? l=some {cls:= .type "list",data:= .seq its.toArray n}:=by
 obtain⟨z,its,n,r,e⟩:=I.hok l _ hH;exact⟨z,its,n,r,r.length,e⟩
theorem k63{n:Nat}(h:n<=sizeLine):Builtin.List.listTooLong n=false:=by
 unfold Builtin.List.listTooLong;exact decide_eq_false (by omega)
end
section
variable{X:Cx}
def k9d:V->List V->Hp->VK->Prop:=fun x vs H Q=>∃ l xs y,x = .ref l/\vs=[y]/\H l=some (.lst xs)/\xs.length < sizeLine/\Q .non (upd H l (.lst (xs++[y])))
theorem j3p:MtM X "list.append" k9d:=by
 intro pins s σ H x vs v us Q I rx rv h;obtain⟨l,xs,y,rfl,rfl,hH,hz,q⟩:=h;cases rx;obtain⟨u,rfl,ru⟩:=rv.one;obtain⟨z,its,n,r,hl,e⟩:=I.lstM hH;refine call_meets F.slot_list_append ⟨_,e,rfl⟩ F.entry_list_append (F.args_list_append_2 _ _) (PySem.list_append l its.toArray n u (by rw [Ap];omega)) ⟨e,?_⟩;refine⟨.non,_,I.lset (its':=its++[u]) hH e (by simp) (r.append (.cons ru .nil)) ?_,rfl,q⟩;rw [Af,Do];omega
def k98:V->List V->Hp->VK->Prop:=fun x vs H Q=>∃ l b xs zs,x = .ref l/\vs=[.ref b]/\H l=some (.lst xs)/\H b=some (.lst zs)/\xs.length+zs.length<=sizeLine/\Q .non (upd H l (.lst (xs++zs)))
theorem q2j:MtM X "list.extend" k98:=by
 intro pins s σ H x vs v us Q I rx rv h;obtain⟨l,b,xs,zs,rfl,rfl,hH,hB,hz,q⟩:=h;cases rx;obtain⟨u,rfl,ru⟩:=rv.one;cases ru;obtain⟨z,its,n,r,hl,e⟩:=I.lstM hH;obtain⟨z2,its2,n2,r2,hl2,e2⟩:=I.lstM hB;have hsz:its.toArray.size+its2.toArray.size<=sizeLine:=by rw [Ap,Ap];omega
 have hlong:¬(!its.toArray.isEmpty && Builtin.List.listTooLong (its.toArray.size+its2.toArray.size))=true:=by
  rw [k63 hsz,Bool.and_false];exact Ak
 refine call_meets F.slot_list_extend ⟨_,e,rfl⟩ F.entry_list_extend (F.args_list_extend_2 _ _)
  (AutoSeq1.list_extend_list_list_0 l its.toArray n b its2.toArray n2 hlong (by rw [Ap];omega) (by omega)) ⟨e,e2,?_⟩
 refine⟨.non,_,I.lset (its':=its++its2) hH e (by simp) (r.append r2) ?_,rfl,q⟩;rw [Af];omega
def q3l:V->List V->Hp->VK->Prop:=fun x vs H Q=>∃ l xs i k y,x = .ref l/\vs=[.int i]/\H l=some (.lst xs)/\-(2 ^ 63)<=i/\i < 2 ^ 63/\seqIndex? i xs.length=some k/\xs[k]?=some y/\Q y (upd H l (.lst (xs.eraseIdx k)))
theorem k8f:MtM X "list.pop" q3l:=by
 intro pins s σ H x vs v us Q I rx rv h;obtain⟨l,xs,i,k,y,rfl,rfl,hH,h1,h2,hk,hy,q⟩:=h;cases rx;obtain⟨u,rfl,ru⟩:=rv.one;obtain⟨t,rfl⟩:=ru;obtain⟨z,its,n,r,hl,e⟩:=I.lstM hH;obtain⟨w,hw,rw'⟩:=r.get hy;refine call_meets F.slot_list_pop ⟨_,e,rfl⟩ F.entry_list_pop (F.args_list_pop_2 _ _)
  (MeetsSeq.list_pop_at l its.toArray n i t k w (fitsIndex_both h1 h2) (by rw [Ap,<- hl];exact hk) (by rw [<- Bn];exact hw) (by rw [Ap];omega)) ⟨e,?_⟩
 refine⟨y,_,I.lset (its':=its.eraseIdx k) hH e ?_ (r.eraseIdx k) ?_,rw',q⟩
 ·show its.toArray.eraseIdxIfInBounds k=(its.eraseIdx k).toArray;rw [List.eraseIdxIfInBounds_toArray]
 ·have:=j87 xs k;omega
def rCat:R2:=fun x y H Q=>∃ l b xs zs,x = .ref l/\y = .ref b/\H l=some (.lst xs)/\H b=some (.lst zs)/\xs.length+zs.length<=sizeLine/\∀ p,H p=none->Q (.ref p) (upd H p (.lst (xs++zs)))
theorem k80:OpR X (binaryOp .Add) rCat:=by
 intro pins s σ H x y v u Q I rx ry h;obtain⟨l,b,xs,zs,rfl,rfl,hH,hB,hz,q⟩:=h;cases rx;cases ry;obtain⟨z,its,n,r,hl,e⟩:=I.lstM hH;obtain⟨z2,its2,n2,r2,hl2,e2⟩:=I.lstM hB;refine PySem.P.add_list e e2 ?_ (by rw [Ap,Ap];omega);have ea:its.toArray++its2.toArray=(its++its2).toArray:=by simp
 rw [ea];exact⟨.ref _,_,I.lnew (t':=s.toks) (r.append r2) (by rw [Af];omega),rfl,q _ I.fresh⟩
end
section
variable{prog:Program}{w:World}{A:Around}{E:Value->Shared->Prop}{s:Shared}
end
section
variable{X:Cx}
end
end L2
namespace Att
open PySem PySem.W PySem.Calls PyProof.Rows
theorem j53{P:Params}{h:Heap}:∀(ns:List Int) (vs:List Value),WellAll P h vs (ns.map WData.int)->IntsAre vs ns:=by
 intro ns
 induction ns with
 | nil=>
  intro vs w;rw [List.map_nil] at w;cases w;exact .nil
 | cons n ns ih=>
  intro vs w;rw [Be] at w;cases w with
  | cons a b=>
   cases a;exact .cons _ _ (ih _ b)
theorem k3k{l:OpenLaw}{n:Nat}(hn:l.most=some n){P:Params}{h:Heap}{args:List WData}{vals:List Value}
  (hpre:l.row.toRowW.claim.pre args=true) (hwl:WellAll P h vals args) :
  ∃ a vs ns,vals=[Value.ref a]/\args=[WData.list (ns.map WData.int)]/\h.get? a=some {cls:= .type "list",data:= .seq vs.toArray}/\IntsAre vs ns/\ns.length<=n:=by
 have hsh:WShape.hasAll [] args [.list .int]=true:=(pre_splitW hpre).1;have hc:l.pre.holds [] {args:=args}=true:=(pre_splitW hpre).2;obtain⟨d,r,rfl,h1,h2⟩:=hasAllW_cons hsh;obtain rfl:=hasAllW_nil h2;obtain⟨xs,rfl,h3⟩:=hasW_list h1;obtain⟨ns,rfl⟩:=items_int h3;have hlen:ns.length<=n:=by
  unfold OpenLaw.pre at hc;have h4:(WTm.not (.lt (.lit (.int (n:Int))) (.len (.arg 0)))).holds [] {args:=[.list (ns.map .int)]}=true:=by
   have h4:=(holds_andW hc).1;rw [hn] at h4;exact h4
  have h5:=condW_of h4 (w_not (w_lt w_lit (w_len_list (w_arg rfl))));rw [Aa] at h5;refine Nat.le_of_not_lt fun q=>?_;have q':(n:Int) < ((ns.length:Nat):Int):=by omega
  first
   | (rw [decide_eq_true q'] at h5;exact absurd h5 (by decide))
   | (simp at h5;omega)
 cases hwl with
 | cons w1 w2=>
  cases w2;cases w1 with
  | list ho hall=>exact⟨_,_,ns,rfl,rfl,ho,j53 ns _ hall,hlen⟩
theorem k5j(l:OpenLaw)(args:List WData):l.row.toRowW.claim.post args (.bool true) args=true:=
 postW_of (r:=l.row.toRowW) (X:=(true == true))
  (show WShape.has [] (.bool true) .bool=true by first | rfl | decide | simp [WShape.has,WShape.arms,WShape.armsAll])
  (show(WTm.eq .res (.lit (.bool true))).value [] {args:=args,res:=some (.bool true),after:=args}=some (.bool (true == true)) from w_eq_bool (w_res rfl) w_lit) rfl
theorem attach_call{l:OpenLaw}{n:Nat}{q:Program}{loose:List Str}{XP:(Str->Option Value)->Heap->Prop}{YP:World->Heap->Prop}{d:DefRec}
  (hn:l.most=some n) (hdf:d.params.defaults=[])
  (call : ∀ (w : World) (s₀ s₁ : Shared) (mg mb : Str → Option Value) (fa : Addr) (o : Obj) (pm cd doc : Value) (a : Addr) (vs : List Value) (ns : List Int),
   Ground q loose [] XP w s₀ mg mb s₁.heap->YP w s₁.heap ->
   s₁.heap.get? fa=some o->o.data = .func (docDef d.name d.params d.body d.scope pm cd doc)->s₁.heap.CodeRec cd d.name->mg d.name=some (.ref fa) ->
   s₁.heap.get? a=some {cls:= .type "list",data:= .seq vs.toArray}->IntsAre vs ns->ns.length<=n->s₁.gens=#[] ->
   codeAny (model l.prog w) callerA (.call (.ref fa) ⟨[.ref a],[]⟩) (fun r s'=>r = .ok (.ret (.bool true))/\OldK s₁.heap s'.heap/\s'.os=s₁.os/\AllBare s'.gens) s₁) :
  WalkO q loose XP YP l.row.toRowW d [] (fun f vs=>PySem.call f vs):=by
 intro w s₀ s₁ mg mb G Y fa o pm cd doc dV kV ho hd hcd hD hmg hg args vals as hpre hlay hrd hwl hlo;obtain rfl:dV = .none:=Dflts.none hD hdf;obtain rfl:kV = .none:=Dflts.noKw hD;obtain⟨a,vs,ns,rfl,rfl,hobj,hints,hlen⟩:=k3k hn hpre hwl;refine enter_call (codeAny_mono (call w s₀ s₁ mg mb fa o pm cd doc a vs ns G Y ho (fd_plain hd) hcd hmg hobj hints hlen hg) fun r s' hq=>?_);obtain⟨rfl,h2,h3,h4⟩:=hq;exact⟨.inl ⟨.bool true,.bool true,[],rfl,fun _=>rfl,.bool true,k5j l _,fun _=>⟨List.Pairwise.nil,fun _ hm=>(nomatch hm)⟩⟩,h2,h3,h4⟩
section
variable{prog:Program}{w:World}{A:Around}{E:Value->Shared->Prop}{s:Shared}{K:Frag}
end
end Att
namespace L2
open PySem PySem.Spec PyProof.Rows
theorem j8w:∀{vs:List Value} {ns:List Int},IntsAre vs ns->Vals (ns.map V.int) vs
 | _,_,.nil=> .nil
 | _,_,.cons n t h=> .cons ⟨t,rfl⟩ (j8w h)
def Only(H:Hp):Prop:=∀ b,H b=none\/∃ o xs,H b=some (.frz o (.lst xs))
theorem k7p{P:Program}{w:World}{K:PySem.W.Frag}{mg mb:Str->Option Value}{CX:CXT}{k:Nat}{fa a:Addr}{fd:FuncData}{x:Str}{sp:Sp}{s₁:Shared}{vs:List Value}{ns:List Int}
  (KX:K.In s₁.heap) (hns:s₁.heap.Ns mainGlobals mg) (hb:s₁.heap.Ns builtinsNs mb) (hbb:∀ x:Str,x ≠ "__name__"->mb x=bootBuiltins x) (hlim:s₁.heap.NoLimit) (hg:s₁.gens=#[])
  (ha:s₁.heap.get? a=some {cls:= .type "list",data:= .seq vs.toArray}) (hi:IntsAre vs ns) (hl:ns.length<=sizeLine) (hr:Room k callerA)
  (F:∀ base:Heap,K.In base->base.Ns mainGlobals mg->FnOk P w K mg base CX k fa fd [x] sp) (hbind:∀(s:Shared) (u:Value),BindsTo s fd ⟨[u],[]⟩ [(x,u)])
  (hsp:∀ H:Hp,Only H->SqL K H a (ns.map V.int)->sp [.ref a] H (fun v _=>v = .bl true) fun _ _ _=>False)
  (hCX:∀ H e s',CX [] H s₁ (fun _ _ _=>False) e s'->False) :
  codeAny (model P w) callerA (.call (.ref fa) ⟨[.ref a],[]⟩) (fun r s'=>r = .ok (.ret (.bool true))/\OldK s₁.heap s'.heap/\s'.os=s₁.os/\AllBare s'.gens) s₁:=by
 have rv:=j8w hi;have lenV:=hi.length;have core:∀ H:Hp,Only H->SqL K H a (ns.map V.int)->HOk P w H s₁.heap->(∀ b,H b≠none->b=a)->(H a≠none->K.lookup a=none) ->
   codeAny (model P w) callerA (.call (.ref fa) ⟨[.ref a],[]⟩) (fun r s'=>r = .ok (.ret (.bool true))/\OldK s₁.heap s'.heap/\s'.os=s₁.os/\AllBare s'.gens) s₁:=by
  intro H hO hS hok hA hK;have base_of:∀{b:Addr} {o:Obj},s₁.heap.get? b=some o->H b=none->(hidT s₁.heap H).get? b=some o:=fun e n=>k6b e n;have noA:∀{b:Addr} {o:Obj} {es:Array DictEntry} {ep:Nat},s₁.heap.get? b=some o->o.data = .dict es ep->H b=none:=fun{b o es ep} e d=>by
   cases q:H b with
   | none=>rfl
   | some u=>
    have e':b=a:=hA b (by rw [q];simp);subst e';rw [ha] at e;cases e;have d':Data.seq vs.toArray _=Data.dict es ep:=d;cases d'
  have nsK:∀{b:Addr} {m:Str->Option Value},s₁.heap.Ns b m->(hidT s₁.heap H).Ns b m:=fun{b m} ⟨o,es,ep,e,d,r⟩=>⟨o,es,ep,base_of e (noA e d),d,r⟩;have hKb:K.In (hidT s₁.heap H):=fun b o e=>base_of (KX b o e) (by
   cases q:H b with
   | none=>rfl
   | some u=>
    have e':b=a:=hA b (by rw [q];simp);subst e';rw [hK (by rw [q];simp)] at e;cases e)
  have hM:Mod K mg (hidT s₁.heap H):=⟨hKb,nsK hns,⟨mb,nsK hb,hbb⟩,let ⟨mc,h1,h2⟩:=hlim;⟨mc,nsK h1,h2⟩⟩;have e0:Env0 P w K mg (hidT s₁.heap H) callerA [] s₁ H:=⟨rfl,hM,fun b o e=>k95 e,Nat.le_of_eq (k4t _ _),trivial,fun b hb=>absurd (show b∈([]:List Addr) from hb) (by simp),hok,.of_eq hg⟩;refine codeAny_mono ((F _ hKb (nsK hns)).run callerA [] s₁ H ⟨[.ref a],[]⟩ [.ref a] [.ref a] _ _ hr e0 (hbind s₁ (.ref a)) (.cons rfl .nil) (hsp H hO hS)) fun r s' h=>?_;cases r with
  | error e=>exact(hCX H e s' h).elim
  | ok fl=>
   cases fl with
   | next=>exact False.elim h
   | brk=>exact False.elim h
   | cont=>exact False.elim h
   | ret u=>
    obtain⟨v,H',os,bare,un,hok',r',q⟩:=h;have q':v = .bl true:=q;subst q';obtain rfl:u=Value.bool true:=r';refine⟨rfl,OldK.of_keep fun b o e=>?_,os,bare⟩;cases q:H b with
    | none=>exact un.keep b o e q (by intro z;exact absurd (show b∈([]:List Addr) from z) (by simp)) (by simp)
    | some u=>
     rcases hO b with z | ⟨ob,xs,z⟩
     ·rw [q] at z;cases z
     ·have z2:=un.frzs b ob _ z;obtain⟨e1,_⟩:=hok b _ z;obtain⟨e2,_⟩:=hok' b _ z2;rw [e] at e1;cases e1;exact e2
 cases hk:K.lookup a with
 | some o=>
  have e:=KX a o hk;rw [ha] at e;cases e;refine core (fun _=>none) (fun _=> .inl rfl) (.inr ⟨_,vs.toArray,_,hk,rfl,rfl,rfl,by rw [Ap,lenV];exact hl,by simpa using rv⟩) (fun b u z=>by have z':(none:Option HO)=some u:=z;cases z') (fun b z=>absurd rfl z) fun z=>absurd rfl z
 | none=>
  refine core (fun b=>if b=a then some (.frz {cls:= .type "list",data:= .seq vs.toArray} (.lst (ns.map V.int))) else none) (fun b=>?_) (.inl (.inr ⟨{cls:= .type "list",data:= .seq vs.toArray},if_pos rfl⟩)) (fun b u z=>?_) (fun b z=>?_) fun _=>hk
  ·by_cases hb:b=a
   ·exact .inr ⟨_,_,if_pos hb⟩
   ·exact .inl (if_neg hb)
  ·by_cases hb:b=a
   ·have z':=(if_pos hb).symm.trans z;cases z';subst hb;exact⟨ha,by rw [Aa];exact hl,vs,_,rv,ha⟩
   ·have z':=(if_neg hb).symm.trans z;cases z'
  ·by_cases hb:b=a
   ·exact hb
   ·exact absurd (if_neg hb) z
end L2
namespace L2
open PySem PySem.Spec PyProof.Rows
theorem walk_of{l:PySem.W.OpenLaw}{n k:Nat}{q:Program}{loose:List Str}{XP:(Str->Option Value)->Heap->Prop}{YP:World->Heap->Prop}{d:DefRec}{K:Params->PySem.W.Frag}{CX:World->CXT}{sp:World->Sp}{x:Str}
  (hn:l.most=some n) (hn2:n<=sizeLine) (hdf:d.params.defaults=[]) (hr:Room k callerA)
  (hY:∀(w:World) (h:Heap),YP w h->(K w.params).In h)
  (F : ∀ (w : World) (mg : Str → Option Value) (fa : Addr) (h : Heap), (K w.params).In h → h.Ns mainGlobals mg → mg d.name = some (.ref fa) →
   ∃ fd:FuncData,(∀(s:Shared) (u:Value),BindsTo s fd ⟨[u],[]⟩ [(x,u)]) /\
    ∀ base:Heap,(K w.params).In base->base.Ns mainGlobals mg->FnOk l.prog w (K w.params) mg base (CX w) k fa fd [x] (sp w))
  (hsp:∀(w:World) (H:Hp) (a:Addr) (ns:List Int),ns.length<=n->Only H->SqL (K w.params) H a (ns.map V.int)->sp w [.ref a] H (fun v _=>v = .bl true) fun _ _ _=>False)
  (hCX:∀(w:World) (H:Hp) (s:Shared) (e:Value) (s':Shared),CX w [] H s (fun _ _ _=>False) e s'->False) :
  PySem.W.WalkO q loose XP YP l.row.toRowW d [] (fun f vs=>PySem.call f vs):=by
 refine Att.attach_call hn hdf fun w s₀ s₁ mg mb fa o pm cd doc a vs ns G Y ho hd hcd hmg hobj hints hlen hg=>?_;have KX:=hY w _ Y;obtain⟨fd,hb,hF⟩:=F w mg fa _ KX G.T.g hmg;exact k7p KX G.T.g G.T.b G.T.builtins G.T.nolimit hg hobj hints (Bs hlen hn2) hr hF hb (fun H hO hS=>hsp w H a ns hlen hO hS) fun H e s'=>hCX w H s₁ e s'
end L2
namespace L2
open PySem PySem.Spec PyProof.Rows
def j2x(s:Stmt):Arguments:=match s with
 | .FunctionDef _ a _ _ _ _ _ _ _ _=>a
 | _=>{posonlyargs:=[],args:=[],vararg:=none,kwonlyargs:=[],kw_defaults:=[],kwarg:=none,defaults:=[]}
def j1v(s:Stmt):List Stmt:=match s with
 | .FunctionDef _ _ b _ _ _ _ _ _ _=>b
 | _=>[]
def j0f(s:Stmt):Scope:=match s with
 | .FunctionDef _ _ _ _ _ _ sc _ _ _=>sc
 | _=>{kind:= .function,names:=[],isGenerator:=false,isCoroutine:=false}
abbrev CX0:CXT:=fun _ _ _ _ _ _=>False
abbrev E0:XK:=fun _ _ _=>False
theorem q5q{X:Cx}:j44 CX0 X E0:=fun _ _ _ _ _ _ _ h=>h.elim
structure Fun(K:PySem.W.Frag)(x qual:Str)(st:Stmt)(f:Addr)(fd:FuncData):Prop where
 ex:∃(oc:Value) (od:Option Addr) (kV doc pm:Value) (an:Option Addr) (cdv ct:Value) (osl:Array (Option Value)),
  fd=PySem.W.fnOf x qual (j2x st) (j1v st) (j0f st) .none kV doc pm an cdv ct/\K.lookup f=some ⟨oc,od,.func fd,osl⟩/\PySem.W.codeIn K cdv qual=true
 kp:PySem.W.keepIn K (.ref f)=true
section
variable{P:Program}{w:World}{K:PySem.W.Frag}{mg:Str->Option Value}{base:Heap}
theorem Fun.ok{x qual:Str}{st:Stmt}{f:Addr}{fd:FuncData}{N ps:List Str}{k:Nat}{sp:Sp}(F:Fun K x qual st f fd)(S:FnScope N ps (j0f st))(len:∀ vs H Q E,sp vs H Q E->vs.length=ps.length)
  (hbody : ∀ (cdv : Value) (A : Around) (outer : List Env) (s : Shared) (H : Hp) (vs : List V) (Q : VK) (E : XK), Room k (A.deeper (envOfC qual (j0f st) s.heap.objs.size f cdv)) → sp vs H Q E →
   ∃ t,PSs (cxOf CX0 P w K mg base N qual (j0f st) f cdv A outer s H E).nox (j1v st) t/\t {nx:=fun _ H'=>Q .non H',rt:=Q} (start N vs) H):FnOk P w K mg base CX0 (k+1) f fd ps sp:=by
 obtain⟨oc,od,kV,doc,pm,an,cdv,ct,osl,rfl,lk,hcd⟩:=F.ex;refine q3t lk hcd S len fun A outer s H vs Q E hr hsp=>?_;obtain⟨t,h,q⟩:=hbody cdv A outer s H vs Q E hr hsp;exact⟨t,h.nox,q⟩
theorem Fun.binds{x qual:Str}{st:Stmt}{f:Addr}{fd:FuncData}{ps:List Str}(F:Fun K x qual st f fd)
  (h:∀(kV doc pm:Value) (an:Option Addr) (cdv ct:Value) (us:List Value),us.length=ps.length->bindArgs (PySem.W.fnOf x qual (j2x st) (j1v st) (j0f st) .none kV doc pm an cdv ct) ⟨us,[]⟩=pure (ps.zip us)):Binds K fd ps []:=by
 obtain⟨oc,od,kV,doc,pm,an,cdv,ct,osl,rfl,lk,hcd⟩:=F.ex;exact .all (h kV doc pm an cdv ct)
theorem q33{x qual:Str}{st:Stmt}{f:Addr}{oc:Value}{od an:Option Addr}{osl:Array (Option Value)}{kV doc pm cdv ct:Value}(l:K.lookup f=some ⟨oc,od,.func (PySem.W.fnOf x qual (j2x st) (j1v st) (j0f st) .none kV doc pm an cdv ct),osl⟩)
  (c:PySem.W.codeIn K cdv qual=true) (k:PySem.W.keepIn K (.ref f)=true):Fun K x qual st f (PySem.W.fnOf x qual (j2x st) (j1v st) (j0f st) .none kV doc pm an cdv ct):=⟨⟨oc,od,kV,doc,pm,an,cdv,ct,osl,rfl,l,c⟩,k⟩
end
section
variable{X:Cx}
end
theorem iteF{A B:Prop}(h:B):if false=true then A else B:=by
 rw [if_neg Ak];exact h
theorem iteT{A B:Prop}(h:A):if true=true then A else B:=by
 rw [if_pos rfl];exact h
theorem ite2{c A B:Prop} [Decidable c] (h1:c->A) (h2:¬ c->B):if c then A else B:=by
 by_cases h:c
 ·rw [if_pos h];exact h1 h
 ·rw [if_neg h];exact h2 h
def Same(H H':Hp):Prop:=∀ b o,H b=some o->H' b=some o
theorem Same.refl(H:Hp):Same H H:=fun _ _ h=>h
theorem Same.trans{H H1 H2:Hp}(a:Same H H1)(b:Same H1 H2):Same H H2:=fun c o h=>b c o (a c o h)
theorem Same.free{H H':Hp}(e:Same H H'){l:Addr}(h:H' l=Option.none):H l=Option.none:=by
 cases q:H l with
 | none=>rfl
 | some o=>
  rw [e l o q] at h;cases h
theorem Same.seq{K:PySem.W.Frag}{H H':Hp}{a:Addr}{xs:List V}(e:Same H H')(h:SqL K H a xs):SqL K H' a xs:=by
 rcases h with (h | ⟨o,h⟩) | h
 ·exact .inl (.inl (e _ _ h))
 ·exact .inl (.inr ⟨o,e _ _ h⟩)
 ·exact .inr h
end L2
namespace L2
open PySem PySem.Spec PyProof.Rows
section
variable{κ:Type} [DecidableEq κ]
def valV(kvs:List (κ×V))(k:κ):Option V:=(kvs.find? fun kv=>decide (kv.1=k)).map (·.2)
def putK(kvs:List (κ×V))(k:κ)(v:V):List (κ×V):=
 if(kvs.any fun kv=>decide (kv.1=k))=true then kvs.map (fun kv=>if kv.1=k then(kv.1,v) else kv) else kvs++[(k,v)]
theorem j1m{p:κ×V}{r:List (κ×V)}{k:κ}(e:p.1=k):valV (p :: r) k=some p.2:=by simp [valV,Dz,e]
theorem j1l{p:κ×V}{r:List (κ×V)}{k:κ}(e:¬ p.1=k):valV (p :: r) k=valV r k:=by simp [valV,Dz,e]
theorem j31(k:κ):∀ kvs:List (κ×V),(kvs.any fun kv=>decide (kv.1=k))=(valV kvs k).isSome
 | []=>rfl
 | p :: r=>by
  rw [Dk]
  by_cases e:p.1=k
  ·simp only [j1m e,decide_eq_true e,Bool.true_or,Option.isSome_some]
  ·rw [j1l e,decide_eq_false e,Bool.false_or];exact j31 k r
theorem k07(k j:κ)(y:V):∀ kvs:List (κ×V),valV (kvs.map fun kv=>if kv.1=k then(kv.1,y) else kv) j=(valV kvs j).map fun x=>if j=k then y else x
 | []=>rfl
 | p :: r=>by
  have ih:=k07 k j y r;rw [Be]
  by_cases h:p.1=k
  ·rw [if_pos h]
   by_cases e:p.1=j
   ·rw [j1m (p:=(p.1,y)) e,j1m e,Fh,if_pos (e.symm.trans h)]
   ·rw [j1l (p:=(p.1,y)) e,j1l e,ih]
  ·rw [if_neg h]
   by_cases e:p.1=j
   ·rw [j1m (p:=p) e,j1m e,Fh,if_neg (fun z=>h (e.trans z))]
   ·rw [j1l (p:=p) e,j1l e,ih]
theorem j8v(k j:κ)(y:V):∀ kvs:List (κ×V),valV kvs k=none->valV (kvs++[(k,y)]) j=if j=k then some y else valV kvs j
 | [],_=>by
  by_cases e:k=j
  ·rw [if_pos e.symm];exact j1m (p:=(k,y)) e
  ·rw [if_neg (fun z=>e z.symm)];exact j1l (p:=(k,y)) e
 | p :: r,hn=>by
  rw [List.cons_append];have hk:¬ p.1=k:=fun z=>by rw [j1m z] at hn;cases hn
  rw [j1l hk] at hn;have ih:=j8v k j y r hn
  by_cases e:p.1=j
  ·rw [j1m e,j1m e,if_neg (fun z=>hk (e.trans z))]
  ·rw [j1l e,j1l e,ih]
theorem j1t(kvs:List (κ×V))(k j:κ)(y:V):valV (putK kvs k y) j=if j=k then some y else valV kvs j:=by
 unfold putK
 by_cases a:(kvs.any fun kv=>decide (kv.1=k))=true
 ·rw [if_pos a,k07];rw [j31] at a
  by_cases e:j=k
  ·obtain⟨x,hx⟩:=Du.mp a;rw [if_pos e,e,hx,Fh,if_pos rfl]
  ·rw [if_neg e];cases valV kvs j with
   | none=>rfl
   | some x=>rw [Fh,if_neg e]
 ·rw [if_neg a];refine j8v k j y kvs ?_;rw [j31] at a;cases q:valV kvs k with
  | none=>rfl
  | some x=>rw [q] at a;exact(a rfl).elim
theorem j09(kvs:List (κ×V))(k:κ)(v:V):(putK kvs k v).length<=kvs.length+1:=by
 unfold putK
 split
 ·rw [Aa];omega
 ·rw [Af,Bd,Em];omega
theorem k1b{kvs:List (κ×V)}{k:κ}(v:V)(h:valV kvs k=none):putK kvs k v=kvs++[(k,v)]:=by
 unfold putK;rw [j31,h];exact if_neg (by decide)
theorem RelO.isSome_eq{o:Option V}{u:Option Value}(r:RelO o u):o.isSome=u.isSome:=by
 cases o with
 | none=>cases u with
  | none=>rfl
  | some _=>exact(show False from r).elim
 | some _=>cases u with
  | none=>exact(show False from r).elim
  | some _=>rfl
theorem KV.val{kvs:List (κ×V)}{vs:List (κ×Value)}(r:KV kvs vs)(k:κ):RelO (valV kvs k) (valueAt vs k):=by
 unfold KV at r
 induction r with
 | nil=>exact True.intro
 | @cons p q ps qs h t ih=>
  obtain⟨h1,h2⟩:=h
  by_cases e:p.1=k
  ·have e':q.1=k:=h1.symm.trans e;have b:valueAt (q :: qs) k=some q.2:=by simp [valueAt,Dz,e']
   rw [j1m e,b];exact h2
  ·have e':¬ q.1=k:=fun z=>e (h1.trans z);have b:valueAt (q :: qs) k=valueAt qs k:=by simp [valueAt,Dz,e']
   rw [j1l e,b];exact ih
theorem KV.any{kvs:List (κ×V)}{vs:List (κ×Value)}(r:KV kvs vs)(k:κ):(kvs.any fun kv=>decide (kv.1=k))=vs.any fun kv=>decide (kv.1=k):=by
 unfold KV at r
 induction r with
 | nil=>rfl
 | cons h t ih=>rw [Dk,Dk,ih,h.1]
theorem KV.repl{kvs:List (κ×V)}{vs:List (κ×Value)}(r:KV kvs vs)(k:κ){y:V}{u:Value}(ry:RelV y u) :
  KV (kvs.map fun kv=>if kv.1=k then(kv.1,y) else kv) (vs.map fun kv=>if kv.1=k then(kv.1,u) else kv):=by
 unfold KV at r ⊢
 induction r with
 | nil=>exact .nil
 | @cons p q ps qs h t ih=>
  rw [Be,Be];refine .cons ?_ ih;obtain⟨h1,h2⟩:=h
  by_cases e:p.1=k
  ·rw [if_pos e,if_pos (h1.symm.trans e)];exact⟨h1,ry⟩
  ·rw [if_neg e,if_neg (fun z=>e (h1.trans z))];exact⟨h1,h2⟩
theorem KV.put{kvs:List (κ×V)}{vs:List (κ×Value)}(r:KV kvs vs)(k:κ){y:V}{u:Value}(ry:RelV y u):KV (putK kvs k y) (stored vs k u):=by
 unfold putK stored;rw [r.any k]
 by_cases e:(vs.any fun kv=>decide (kv.1=k))=true
 ·rw [if_pos e,if_pos e];exact r.repl k ry
 ·rw [if_neg e,if_neg e];exact Paired.snoc r ⟨rfl,ry⟩
theorem KV.keys{kvs:List (κ×V)}{vs:List (κ×Value)}(r:KV kvs vs):kvs.map (·.1)=vs.map (·.1):=by
 unfold KV at r
 induction r with
 | nil=>rfl
 | cons h t ih=>rw [Be,Be,ih,h.1]
theorem KV.length{kvs:List (κ×V)}{vs:List (κ×Value)}(r:KV kvs vs):kvs.length=vs.length:=Paired.length r
end
theorem j9p{P:Program}{w:World}{k:Key}{u:Value}(r:RelV (kV k) u):(j0r P w).is k u=true:=by
 cases k with
 | inl i=>obtain⟨t,e⟩:=(show ∃ t,u=Value.int i t from r);subst e;exact k0g P w i t
 | inr x=>obtain⟨t,e⟩:=(show ∃ t,u=Value.str x t from r);subst e;exact k0o P w x t
theorem j8e{P:Program}{w:World}:∀{ks:List Key} {us:List Value},Vals (ks.map kV) us->ItemsAre (j0r P w) ks us
 | [],_,r=>by rw [List.map_nil] at r;cases r;exact .nil
 | k :: ks,_,r=>by
  rw [Be] at r;cases r with
  | cons h t=>exact .cons (j9p h) (j8e t)
abbrev KT(H:Hp):List (List Key×V)->List (List Key×Addr×Value)->Prop:=Paired fun p q=>p.1=q.1/\H q.2.1=some (.tup (p.1.map kV))/\RelV p.2 q.2.2
theorem KT.val{H:Hp}{kvs:List (List Key×V)}{xs:List (List Key×Addr×Value)}(r:KT H kvs xs)(k:List Key):RelO (valV kvs k) ((atKey xs k).map (·.2)):=by
 induction r with
 | nil=>exact True.intro
 | @cons p q ps qs h t ih=>
  obtain⟨h1,_,h2⟩:=h
  by_cases e:p.1=k
  ·have e':q.1=k:=h1.symm.trans e;have b:atKey (q :: qs) k=some q.2:=by simp [atKey,Dz,e']
   rw [j1m e,b];exact h2
  ·have e':¬ q.1=k:=fun z=>e (h1.trans z);have b:atKey (q :: qs) k=atKey qs k:=by simp [atKey,Dz,e']
   rw [j1l e,b];exact ih
theorem KT.repl{H:Hp}{kvs:List (List Key×V)}{xs:List (List Key×Addr×Value)}(r:KT H kvs xs)(k:List Key){y:V}{u:Value}(ry:RelV y u) :
  KT H (kvs.map fun kv=>if kv.1=k then(kv.1,y) else kv) (xs.map (putAt k u)):=by
 induction r with
 | nil=>exact .nil
 | @cons p q ps qs h t ih=>
  rw [Be,Be];refine .cons ?_ ih;obtain⟨h1,h2,h3⟩:=h;unfold putAt
  by_cases e:p.1=k
  ·rw [if_pos e,if_pos (h1.symm.trans e)];exact⟨h1,h2,ry⟩
  ·rw [if_neg e,if_neg (fun z=>e (h1.trans z))];exact⟨h1,h2,h3⟩
theorem KT.put{H:Hp}{kvs:List (List Key×V)}{xs:List (List Key×Addr×Value)}(r:KT H kvs xs)(k:List Key){b:Addr}{y:V}{u:Value}(hb:H b=some (.tup (k.map kV)))(ry:RelV y u) :
  KT H (putK kvs k y) (storedH xs k b u):=by
 have e:(kvs.any fun kv=>decide (kv.1=k))=(atKey xs k).isSome:=by
  rw [j31,(r.val k).isSome_eq,Option.isSome_map]
 unfold putK storedH;rw [e]
 by_cases q:(atKey xs k).isSome=true
 ·rw [if_pos q,if_pos q];exact r.repl k ry
 ·rw [if_neg q,if_neg q];exact Paired.snoc r ⟨rfl,hb,ry⟩
theorem KT.keeps{H H':Hp}{kvs:List (List Key×V)}{xs:List (List Key×Addr×Value)}(r:KT H kvs xs)(ht:∀ b ys,H b=some (.tup ys)->H' b=some (.tup ys)):KT H' kvs xs:=
 Paired.mapP r fun _ _ z=>⟨z.1,ht _ _ z.2.1,z.2.2⟩
section
variable{P:Program}{w:World}{H:Hp}{h:Heap}{a:Addr}
theorem q1y{u:HO}(ok:HOk P w H h)(e:Rd H a u):ObjOk P w H h a u:=e.ok ok
theorem k2x{kvs:List (Key×V)}(ok:HOk P w H h)(e:Rd H a (.dK kvs)):kvs.length<=sizeLine/\(a == sysModules)=false/\∃ vs,KV kvs vs/\h.DictOf (j0r P w) a vs:=
 show ObjOk P w H h a (.dK kvs) from q1y ok e
theorem k92{kvs:List (Key×V)}(ok:HOk P w H h)(e:H a=some (.dK kvs)):kvs.length<=sizeLine/\(a == sysModules)=false/\∃ vs,KV kvs vs/\h.DictOf (j0r P w) a vs:=k2x ok (.inl e)
theorem j4j{ks:List Key}(ok:HOk P w H h)(e:H a=some (.tup (ks.map kV))):(tupleKind (j0r P w)).is h ks a:=by
 obtain⟨_,its,r,o,h1,h2,n,h3⟩:=(show ObjOk P w H h a (.tup (ks.map kV)) from ok a _ e);exact⟨o,its.toArray,n,h1,h2,h3,by simpa using j8e r⟩
theorem k7e{kvs:List (List Key×V)}(ok:HOk P w H h)(e:Rd H a (.dT kvs)):kvs.length<=sizeLine/\(a == sysModules)=false /\
  ∃ xs,KT H kvs xs/\h.DictOfH (tupleKind (j0r P w)) a xs:=by
 obtain⟨z,y,xs,r,o,es,ep,h1,h2,h3,h4,h5⟩:=(show ObjOk P w H h a (.dT kvs) from q1y ok e);refine⟨z,y,xs,r,o,es,ep,h1,h2,h3,h4,fun x hx=>?_,h5⟩;have all:∀{l:List (List Key×V)} {m:List (List Key×Addr×Value)},KT H l m->∀ x∈m,(tupleKind (j0r P w)).is h x.1 x.2.1:=by
  intro l m q
  induction q with
  | nil=>intro x hx;exact nomatch hx
  | @cons p q ps qs hq t ih=>
   intro x hx
   rcases Ao.mp hx with e | hx
   ·subst e;exact j4j ok (by rw [<- hq.1];exact hq.2.1)
   ·exact ih x hx
 exact all r x hx
theorem q3j{kvs:List (List Key×V)}(ok:HOk P w H h)(e:H a=some (.dT kvs)):kvs.length<=sizeLine/\(a == sysModules)=false /\
  ∃ xs,KT H kvs xs/\h.DictOfH (tupleKind (j0r P w)) a xs:=k7e ok (.inl e)
end
def DGet(H:Hp)(a:Addr)(y:V)(r:Option V):Prop:=
 (∃ kvs k,Rd H a (.dK kvs)/\y=kV k/\r=valV kvs k)\/∃ kvs k b,Rd H a (.dT kvs)/\y = .ref b/\H b=some (.tup (k.map kV))/\r=valV kvs k
def DPut(H:Hp)(a:Addr)(y v:V)(H':Hp):Prop:=
 (∃ kvs k,H a=some (.dK kvs)/\y=kV k/\kvs.length < sizeLine/\H'=upd H a (.dK (putK kvs k v))) \/
 ∃ kvs k b,H a=some (.dT kvs)/\y = .ref b/\H b=some (.tup (k.map kV))/\kvs.length < sizeLine/\H'=upd H a (.dT (putK kvs k v))
theorem DGet.k{H:Hp}{a:Addr}{kvs:List (Key×V)}{k:Key}(e:H a=some (.dK kvs)):DGet H a (kV k) (valV kvs k):= .inl ⟨kvs,k,.inl e,rfl,rfl⟩
theorem DGet.t{H:Hp}{a b:Addr}{kvs:List (List Key×V)}{k:List Key}(e:H a=some (.dT kvs))(eb:H b=some (.tup (k.map kV))):DGet H a (.ref b) (valV kvs k):= .inr ⟨kvs,k,b,.inl e,rfl,eb,rfl⟩
theorem DPut.k{H:Hp}{a:Addr}{kvs:List (Key×V)}{k:Key}{v:V}(e:H a=some (.dK kvs))(hl:kvs.length < sizeLine):DPut H a (kV k) v (upd H a (.dK (putK kvs k v))):= .inl ⟨kvs,k,e,rfl,hl,rfl⟩
theorem DPut.t{H:Hp}{a b:Addr}{kvs:List (List Key×V)}{k:List Key}{v:V}(e:H a=some (.dT kvs))(eb:H b=some (.tup (k.map kV)))(hl:kvs.length < sizeLine) :
  DPut H a (.ref b) v (upd H a (.dT (putK kvs k v))):= .inr ⟨kvs,k,b,e,rfl,eb,hl,rfl⟩
section
variable{X:Cx}{pins:List (Addr×Obj)}{σ:St}{H:Hp}{s:Shared}{a:Addr}{y v:V}{u r:Value}{o:Option V}{A:Around}{E:Value->Shared->Prop}
theorem Inv.big(I:Inv X pins σ H s):sysModules < s.heap.objs.size:=by
 have h:mainGlobals < s.heap.objs.size:=(I.mod.glob.keeps I.bk).lt;exact Nat.lt_trans (by decide) h
theorem k5g{Q:Value->Shared->Prop}(hu:A.units+1 < cLine)(I:Inv X pins σ H s)(g:DGet H a y (some v))(ry:RelV y u)(h:∀ w' s',Inv X pins σ H s'->RelV v w'->Q w' s') :
  wpAny (model X.prog X.w) A (getItem (.ref a) u) Q E s:=by
 rcases g with ⟨kvs,k,e,ey,l⟩ | ⟨kvs,k,b,e,ey,eb,l⟩
 ·subst ey;obtain⟨z,hd,vs,rel,dd⟩:=k2x I.hok e;obtain⟨w',hw,rw'⟩:=RelO.some_of (v:=v) (o:=valueAt vs k) (by rw [l];exact rel.val k);exact wpAny_getItem_of (j9p ry) dd.mapOf hw (h w' _ (I.tok _) rw')
 ·subst ey;cases (show u=Value.ref b from ry);obtain⟨z,hd,xs,rel,dd⟩:=k7e I.hok e;obtain⟨w',hw,rw'⟩:=RelO.some_of (v:=v) (o:=(atKey xs k).map (·.2)) (by rw [l];exact rel.val k);obtain⟨p,hp,hp2⟩:=Ar.mp hw;refine wpAny_getItem_heap (tupleKind_room_in1 hu) (j4j I.hok eb) dd hp ?_;rw [hp2];exact h w' _ (I.tok _) rw'
theorem d_in{Q:Value->Shared->Prop}(hu:A.units+1 < cLine)(I:Inv X pins σ H s)(g:DGet H a y o)(ry:RelV y u)(h:∀ s',Inv X pins σ H s'->Q (.bool o.isSome) s') :
  wpAny (model X.prog X.w) A (compareOp .In u (.ref a)) Q E s:=by
 rcases g with ⟨kvs,k,e,ey,l⟩ | ⟨kvs,k,b,e,ey,eb,l⟩
 ·subst ey;obtain⟨z,hd,vs,rel,dd⟩:=k2x I.hok e;refine wpAny_in_of (j9p ry) hd dd.mapOf ?_;rw [<- (rel.val k).isSome_eq,<- l];exact h _ (I.tok _)
 ·subst ey;cases (show u=Value.ref b from ry);obtain⟨z,hd,xs,rel,dd⟩:=k7e I.hok e;refine wpAny_in_heap (tupleKind_room_in1 hu) (j4j I.hok eb) hd dd ?_;have q:=(rel.val k).isSome_eq;rw [Option.isSome_map] at q;rw [<- q,<- l];exact h _ (I.tok _)
theorem j3m{h':Heap}{t':Nat}{ob:HO}(I:Inv X pins σ H s)(mu:Mut (H a))(hs:Heap.SameBut a s.heap h')(he:∃ q,h'.get? a=some q)(new:ObjOk X.prog X.w (upd H a ob) h' a ob) :
  Inv X pins σ (upd H a ob) {s with heap:=h',toks:=t'}:=
 I.write (x:=a) (e:=a) mu (.inl rfl) (fun b q hb z=>(hs.2 b hb).trans z) he new
theorem k2w{P:Program}{w:World}{H':Hp}{h':Heap}{kvs:List (Key×V)}{vs:List (Key×Value)}(z:kvs.length<=sizeLine)(hd:(a == sysModules)=false)(rel:KV kvs vs)(dd:h'.DictOf (j0r P w) a vs) :
  ObjOk P w H' h' a (.dK kvs):=⟨z,hd,vs,rel,dd⟩
theorem k3q{H':Hp}{Q:Unit->Shared->Prop}(hu:A.units+1 < cLine)(I:Inv X pins σ H s)(g:DPut H a y v H')(ry:RelV y u)(rv:RelV v r)(h:∀ s',Inv X pins σ H' s'->Q () s') :
  wpAny (model X.prog X.w) A (setItem (.ref a) u r) Q E s:=by
 rcases g with ⟨kvs,k,e,ey,l,eH⟩ | ⟨kvs,k,b,e,ey,eb,l,eH⟩
 ·subst ey eH;obtain⟨z,hd,vs,rel,dd⟩:=k92 I.hok e;have hz:vs.length<=sizeLine:=by rw [<- rel.length];exact z
  have hl:(putK kvs k v).length<=sizeLine:=by have:=j09 kvs k v;omega
  refine wpAny_setItem_pairs (hsz:=hz) (j9p ry) dd fun h' dd' hs=>h _ ?_;have he:∃ q,h'.get? a=some q:=let ⟨q,_,_,hq,_⟩:=dd';⟨q,hq⟩
  exact j3m I (by rw [e];exact True.intro) hs he (k2w hl hd (rel.put k rv) dd')
 ·subst ey eH;cases (show u=Value.ref b from ry);obtain⟨z,hd,xs,rel,dd⟩:=q3j I.hok e;have hz:xs.length<=sizeLine:=by rw [<- Paired.length rel];exact z
  have hl:(putK kvs k v).length<=sizeLine:=by have:=j09 kvs k v;omega
  refine wpAny_setItem_heap (hsz:=hz) (tupleKind_room_in1 hu) (j4j I.hok eb) dd fun h' dd' hs=>h _ ?_;obtain⟨q,es,ep,hq,h2,h3,h4,_,h5⟩:=dd';refine j3m I (by rw [e];exact True.intro) hs ⟨q,hq⟩ ⟨hl,hd,_,(rel.put k eb rv).keeps fun c ys ec=>?_,q,es,ep,hq,h2,h3,h4,h5⟩;rw [j0e (j11 ec e (fun z=>nomatch z))];exact ec
end
section
variable{X:Cx}{pins:List (Addr×Obj)}{σ:St}{H:Hp}{s:Shared}{a:Addr}{kvs:List (Key×V)}{k:Key}{u:Value}{A:Around}{E:Value->Shared->Prop}
end
def NoSl(i:Expr):Prop:=∀ ov iv,subscripted i false ov iv=operate [ov,iv] (getItem ov iv)
theorem q05{prog:Program}{w:World}{A:Around}{E:Value->Shared->Prop}{s:Shared}{env:Env}{value slice:Expr}{pos:Pos}{T id:String}{Q:Value->Shared->Prop}
  (hl:typeLookup (.type T) "__getitem__" = pure (some (.builtin id))) (hs:NoSl slice)
  (h:wpAny (model prog w) A (eval value env) (fun o s₁=>wpAny (model prog w) A (eval slice env) (fun i s₂=>s₂.TypeIs o T/\wpAny (model prog w) A (getItem o i) Q E s₂) E s₁) E s) :
  wpAny (model prog w) A (eval (.Subscript value slice pos) env) Q E s:=by
 refine Subscript_ (wpAny_mono h (fun o s₁ h₁=>wpAny_mono h₁ (fun i s₂ h₂=>?_) fun _ _ x=>x) fun _ _ x=>x);obtain⟨hT,h₂⟩:=h₂;unfold subscriptTail;refine wpAny_bind ?_;rw [getitemInPython_of_ne hT.not_modules];refine wpAny_bind (wpAny_specialOf hT hl ?_);have fin:wpAny (model prog w) A (subscripted slice false o i) (fun r s₃=>wpAny (model prog w) A (letTemporaryGo value o r >>= fun _=>pure r) Q E s₃) E s₂:=by
  rw [hs o i];exact wpAny_operating (wpAny_mono h₂ (fun r s₃ h₃=>wpAny_bind (wpAny_letTemporaryGo (wpAny_pure h₃))) fun _ _ x=>x)
 first
  | exact wpAny_pure (wpAny_bind fin)
  | exact wpAny_bind (wpAny_pure (wpAny_bind fin))
  | exact wpAny_bind fin
theorem k0n{X:Cx}{pins:List (Addr×Obj)}{σ:St}{H:Hp}{s:Shared}{a:Addr}{y:V}{o:Option V}(I:Inv X pins σ H s)(g:DGet H a y o):s.TypeIs (.ref a) "dict":=by
 rcases g with ⟨kvs,k,e,_,_⟩ | ⟨kvs,k,b,e,_,_,_⟩
 ·obtain⟨_,_,vs,_,dd⟩:=k2x I.hok e;exact dd.typeIs
 ·obtain⟨_,_,xs,_,dd⟩:=k7e I.hok e;exact dd.typeIs
def q42(td ty:TE):TE:=fun σ H Q=>td σ H fun x H1=>ty σ H1 fun y H2=>∃ a v,x = .ref a/\DGet H2 a y (some v)/\Q v H2
def tDIn(ty td:TE):TE:=fun σ H Q=>ty σ H fun y H1=>td σ H1 fun x H2=>∃ a o,x = .ref a/\DGet H2 a y o/\Q (.bl o.isSome) H2
def q48(td ty tv:TE):TS:=fun D σ H=>tv σ H fun v H1=>td σ H1 fun x H2=>ty σ H2 fun y H3=>∃ a H4,x = .ref a/\DPut H3 a y v H4/\D.nx σ H4
section
variable{X:Cx}{o i e value:Expr}{pos pos' tpos:Pos}{td ty tv:TE}
theorem q1f(hu:X.A.units+1 < cLine)(ho:PE X o td)(hi:PE X i ty)(hs:NoSl i):PE X (.Subscript o i pos) (q42 td ty):=by
 intro pins s σ H Q I h;refine q05 PySem.F.slot_dict_getitem.lookup hs (thn (ho pins s σ H _ I h) fun u s1 ⟨x,H1,I1,rx,q1⟩=>thn (hi pins s1 σ H1 _ I1 q1) fun iv s2 ⟨y,H2,I2,ry,a,v,ex,g,q2⟩=>?_);subst ex;obtain rfl:u=Value.ref a:=rx;exact⟨k0n I2 g,k5g hu I2 g ry fun w' s3 I3 rw'=>⟨v,H2,I3,rw',q2⟩⟩
theorem q3h(hu:X.A.units+1 < cLine)(hi:PE X i ty)(ho:PE X o td):PC X .In i o (tDIn ty td):=by
 intro pins s σ H Q I h;refine thn (hi pins s σ H _ I h) fun iv s1 ⟨y,H1,I1,ry,q1⟩=>thn (ho pins s1 σ H1 _ I1 q1) fun u s2 ⟨x,H2,I2,rx,a,ov,ex,g,q2⟩=>?_;subst ex;obtain rfl:u=Value.ref a:=rx;exact d_in hu I2 g ry fun s3 I3=>⟨.bl ov.isSome,H2,I3,rfl,q2⟩
theorem k9a(hu:X.A.units+1 < cLine)(ho:PE X o td)(hi:PE X i ty)(hv:PE X value tv)(hs:swapsWith value (some (.Subscript o i pos')) pos.line X.env=pure false) :
  PS X (.Assign [.Subscript o i pos'] value pos) (q48 td ty tv):=by
 intro pins s σ H D I h;refine wpAny_Assign_Subscript (thn (hv pins s σ H _ I h) fun r s1 ⟨v,H1,I1,rv,q1⟩=>thn (ho pins s1 σ H1 _ I1 q1) fun u s2 ⟨x,H2,I2,rx,q2⟩=>thn (hi pins s2 σ H2 _ I2 q2) fun iv s3 ⟨y,H3,I3,ry,a,H4,ex,g,q3⟩=>?_) hs;subst ex;obtain rfl:u=Value.ref a:=rx;exact k3q hu I3 g ry rv fun s4 I4=>⟨σ,H4,I4,q3⟩
end
theorem k68{P:Program}{w:World}{H:Hp}(h:Heap)(hb:sysModules < h.objs.size):ObjOk P w H (h.push {cls:= .type "dict",data:= .dict #[]}) h.objs.size (.dK []):=
 ⟨Bi _,beq_eq_false_iff_ne.mpr (Ne.symm (Ay hb)),[],.nil,Heap.DictOf.new h⟩
theorem k0x{P:Program}{w:World}{H:Hp}(h:Heap)(hb:sysModules < h.objs.size):ObjOk P w H (h.push {cls:= .type "dict",data:= .dict #[]}) h.objs.size (.dT []):=
 ⟨Bi _,beq_eq_false_iff_ne.mpr (Ne.symm (Ay hb)),[],.nil,_,#[],0,Aj _ rfl,⟨rfl,rfl,rfl⟩,rfl,rfl,Cm⟩
def q28:TE:=fun _ H Q=>∀ p,H p=none->Q (.ref p) (upd H p (.dK []))
def q38:TE:=fun _ H Q=>∀ p,H p=none->Q (.ref p) (upd H p (.dT []))
section
variable{X:Cx}{pos:Pos}
theorem k8d:PE X (.Dict [] [] pos) q28:=fun pins s σ H Q I h=>
 wpAny_Dict_empty ⟨.ref s.heap.objs.size,_,I.laid (a:=s.heap.objs.size) (o:= .dK []) (t':=s.toks) (fun _ _ q=>Ad _ q) (Ag _) (k68 s.heap I.big),rfl,h _ (I.hok.fresh (Ag _))⟩
theorem k7y:PE X (.Dict [] [] pos) q38:=fun pins s σ H Q I h=>
 wpAny_Dict_empty ⟨.ref s.heap.objs.size,_,I.laid (a:=s.heap.objs.size) (o:= .dT []) (t':=s.toks) (fun _ _ q=>Ad _ q) (Ag _) (k0x s.heap I.big),rfl,h _ (I.hok.fresh (Ag _))⟩
end
section
variable{X:Cx}{pins:List (Addr×Obj)}{σ:St}{H:Hp}{s:Shared}{a:Addr}{y d:V}{u r:Value}{o:Option V}{A:Around}{E:Value->Shared->Prop}
end
section
variable{X:Cx}{o e f:Expr}{apos cpos:Pos}{td ty tx:TE}
end
section
variable{X:Cx}{pins:List (Addr×Obj)}{σ:St}{H:Hp}{s:Shared}{a:Addr}{kvs:List (Key×V)}{A:Around}{E:Value->Shared->Prop}
end
section
variable{X:Cx}{pins:List (Addr×Obj)}{σ:St}{H:Hp}{s:Shared}{a:Addr}{y:V}{u:Value}{A:Around}{E:Value->Shared->Prop}
end
end L2
namespace L2
open PySem PySem.Spec PyProof.Rows
section
variable{X:Cx}
end
section
variable{κ:Type} [DecidableEq κ]
theorem k3p{kvs:List (κ×V)}{k:κ}{v:V}(h:valV kvs k=some v):k∈kvs.map (·.1):=by
 have q:(kvs.any fun kv=>decide (kv.1=k))=true:=by
  rw [j31,h]
  all_goals rfl
 obtain⟨p,hp,e⟩:=Co.mp q;exact Am.mpr ⟨p,hp,of_decide_eq_true e⟩
theorem j5v:∀{l:List κ} {k:κ},l.Nodup->¬ k∈l->(l++[k]).Nodup
 | [],k,_,_=>by simp
 | a :: r,k,h,hk=>by
  obtain⟨h1,h2⟩:=Cf.mp h;show(a :: (r++[k])).Nodup;refine Cf.mpr ⟨fun m=>?_,j5v h2 fun m=>hk (Ao.mpr (Or.inr m))⟩
  rcases Ba.mp m with q | q
  ·exact h1 q
  ·exact hk (Ao.mpr (Or.inl (Ah.mp q).symm))
end
end L2
set_option maxHeartbeats 4000000
namespace L2
open PySem PySem.Spec PyProof.Rows
def Its(z:Str):It:=⟨fun i _=>i < z.cps.size,fun i H x H'=>H'=H/\∃ c,z.cps[i]?=some c/\x = .str ⟨#[c]⟩,fun i _=>z.cps.size<=i⟩
theorem k4e{P:Program}{w:World}{K:PySem.W.Frag}{tg:Expr}(it:Addr)(z:Str)(t:Tok):Turn P w K tg (Its z) [it] it (fun i h=>h.IsStrIter it "str_ascii_iterator" z t i) where
 mem:=by simp
 obj:=fun i h st b hb=>by
  have e:b=it:=by simpa using hb
  subst e;obtain⟨o,e,c,d⟩:=st;exact⟨o,e,fun v z=>by rw [d] at z;cases z⟩
 keep:=fun i h h' st k=>let ⟨o,ho,r⟩:=st;⟨o,k it (by simp) o ho,r⟩
 item:=by
  intro X hP hw hK hc i pins s σ H E I hf st hg;subst hP hw hK;obtain⟨f0,f1,f2,f3,f4,f5⟩:=hf it (by simp);have hi:i < z.cps.size:=hg;refine wpAny_pyNext_ascii_item st (c:=z.cps[i]) (by simp [hi]) fun h' st' hs'=>?_;have I1:Inv X pins σ H {s with heap:=h',toks:=s.toks+1}:=I.turned (fun b o hb e=>hs'.extBut b o hb e) f0 f1 f3 f4 f5;obtain⟨o,e,c,d⟩:=id st';exact⟨_,rfl,k3s (s:={s with heap:=h',toks:=s.toks+1}) e c d (by decide) ⟨.str ⟨#[z.cps[i]]⟩,H,I1,⟨_,rfl⟩,⟨rfl,z.cps[i],by simp [hi],rfl⟩,st',fun b hb=>(hf b hb).1⟩⟩
 done:=by
  intro X hP hw hK hc i pins s σ H E I hf st hg;subst hP hw hK;obtain⟨f0,f1,f2,f3,f4,f5⟩:=hf it (by simp);have hi:z.cps.size<=i:=hg;exact wpAny_pyNext_ascii_end (I.ok.hd hc) st (by simp;exact hi) fun h' eb=>⟨rfl,I.turned (t':=s.toks) (fun b o hb e=>eb b o hb e) f0 f1 f3 f4 f5⟩
 self:=fun _ _ _ _ _ st h=>wpAny_pyIter_striter_ascii st h
theorem k5h{P:Program}{w:World}{K:PySem.W.Frag}{tg:Expr}(it:Addr)(z:Str)(t:Tok):Turn P w K tg (Its z) [it] it (fun i h=>h.IsStrIter it "str_iterator" z t i) where
 mem:=by simp
 obj:=fun i h st b hb=>by
  have e:b=it:=by simpa using hb
  subst e;obtain⟨o,e,c,d⟩:=st;exact⟨o,e,fun v z=>by rw [d] at z;cases z⟩
 keep:=fun i h h' st k=>let ⟨o,ho,r⟩:=st;⟨o,k it (by simp) o ho,r⟩
 item:=by
  intro X hP hw hK hc i pins s σ H E I hf st hg;subst hP hw hK;obtain⟨f0,f1,f2,f3,f4,f5⟩:=hf it (by simp);have hi:i < z.cps.size:=hg;refine wpAny_pyNext_wide_item st (c:=z.cps[i]) (by simp [hi]) fun h' st' hs'=>?_;have I1:Inv X pins σ H {s with heap:=h',toks:=s.toks+1}:=I.turned (fun b o hb e=>hs'.extBut b o hb e) f0 f1 f3 f4 f5;obtain⟨o,e,c,d⟩:=id st';exact⟨_,rfl,k3s (s:={s with heap:=h',toks:=s.toks+1}) e c d (by decide) ⟨.str ⟨#[z.cps[i]]⟩,H,I1,⟨_,rfl⟩,⟨rfl,z.cps[i],by simp [hi],rfl⟩,st',fun b hb=>(hf b hb).1⟩⟩
 done:=by
  intro X hP hw hK hc i pins s σ H E I hf st hg;subst hP hw hK;obtain⟨f0,f1,f2,f3,f4,f5⟩:=hf it (by simp);have hi:z.cps.size<=i:=hg;exact wpAny_pyNext_wide_end (I.ok.hd hc) st (by simp;exact hi) fun h' eb=>⟨rfl,I.turned (t':=s.toks) (fun b o hb e=>eb b o hb e) f0 f1 f3 f4 f5⟩
 self:=fun _ _ _ _ _ st h=>wpAny_pyIter_striter_wide st h
def iStr(tl:TE):TI:=fun σ H R=>tl σ H fun x H1=>∃ z,x = .str z/\R (Its z) H1
section
variable{X:Cx}{tg:Expr}
theorem k8k{l:Expr}{tl:TE}(hl:PE X l tl):PI X tg l (iStr tl):=by
 intro pins s σ H R I h;refine thn (hl pins s σ H _ I h) fun v s1 ⟨x,H1,I1,r1,q1⟩=>?_;obtain⟨z,e,q⟩:=q1;subst e;obtain⟨t,rfl⟩:=r1;have fp:∀ b∈[s1.heap.objs.size],FpOk X pins H1 b:=fun b hb=>by
  have e:b=s1.heap.objs.size:=by simpa using hb
  subst e;exact I1.fpOk (Ag _) (I1.hok.fresh (Ag _))
 cases ha:z.cps.all (· < 128)
 ·exact wpAny_pyIter_wide ha ⟨s1.heap.objs.size,[s1.heap.objs.size],_,_,H1,rfl,I1.kept (t':=s1.toks) fun b o e=>Ad _ e,k5h _ z t,⟨_,Aj _ rfl,rfl,rfl⟩,fp,q⟩
 ·exact wpAny_pyIter_ascii ha ⟨s1.heap.objs.size,[s1.heap.objs.size],_,_,H1,rfl,I1.kept (t':=s1.toks) fun b o e=>Ad _ e,k4e _ z t,⟨_,Aj _ rfl,rfl,rfl⟩,fp,q⟩
end
theorem q40{z:Str}{g:TG}{tb:TS}{D:Ends}{σ:St}{H:Hp}(Pv:Nat->St->Hp->Prop)(h0:Pv 0 σ H)
  (hs:∀ i c σ H,z.cps[i]?=some c->Pv i σ H->g (.str ⟨#[c]⟩) σ H fun σ2 H2=>tb {D with nx:=Pv (i+1),ct:=Pv (i+1),bk:=D.nx} σ2 H2) (hd:∀ σ H,Pv z.cps.size σ H->D.nx σ H) :
  ∃ W:Nat->Nat->St->Hp->Prop,(∃ m,W 0 m σ H)/\∀ i m σ H,W i m σ H ->
   ((Its z).stop i H/\D.nx σ H)\/((Its z).go i H/\∃ N:St->Hp->Prop,(∀ σ' H',N σ' H'->∃ m',m' < m/\W (i+1) m' σ' H')/\∀ x H',(Its z).yld i H x H'->g x σ H' fun σ2 H2=>tb {D with nx:=N,ct:=N,bk:=D.nx} σ2 H2):=by
 refine⟨fun i m σ H=>m=z.cps.size - i/\i<=z.cps.size/\Pv i σ H,⟨z.cps.size,by simp,Bi _,h0⟩,?_⟩;rintro i m σ H ⟨rfl,hi,p⟩
 by_cases hlt:i < z.cps.size
 ·refine .inr ⟨hlt,Pv (i+1),fun σ' H' p'=>⟨z.cps.size - (i+1),by omega,rfl,hlt,p'⟩,fun x H' y=>?_⟩;obtain⟨e,c,hc,y⟩:=y;subst e y;exact hs i c σ _ hc p
 ·have e:i=z.cps.size:=by omega
  subst e;exact .inl ⟨Ag _,hd σ H p⟩
theorem j1d{env:Env}:∀{names:List (Str×NameKind)} {x:Str} {k':NameKind},
  (names.map fun(n,k)=>if(k == NameKind.free && env.scope.kind == .function && env.kindOf n == some .cell) then(n,NameKind.cell) else(n,k)).lookup x=some k' ->
  ∃ k,names.lookup x=some k/\(k'=k\/(k = .free/\k' = .cell))
 | [],_,_,h=>by simp at h
 | (n,k) :: r,x,k',h=>by
  have ih:=@j1d env r x k'
  change List.lookup x ((if(k == NameKind.free && env.scope.kind == .function && env.kindOf n == some .cell)=true then(n,NameKind.cell) else(n,k)) :: _)=_ at h
  cases hx:x == n with
  | true=>
   by_cases hc:(k == NameKind.free && env.scope.kind == .function && env.kindOf n == some .cell)=true
   ·rw [if_pos hc] at h;simp only [Cu,hx] at h;cases h;have hk:k = .free:=by
     have:=(Bh _ _ ▸ (Bh _ _ ▸ hc).1).1;cases k <;> first | rfl | (exact absurd this (by decide))
    exact⟨k,by simp [Cu,hx],.inr ⟨hk,rfl⟩⟩
   ·rw [if_neg hc] at h;simp only [Cu,hx] at h;cases h;exact⟨k,by simp [Cu,hx],.inl rfl⟩
  | false=>
   have h2:∃ k,r.lookup x=some k/\(k'=k\/(k = .free/\k' = .cell)):=by
    by_cases hc:(k == NameKind.free && env.scope.kind == .function && env.kindOf n == some .cell)=true
    ·rw [if_pos hc] at h;simp only [Cu,hx] at h;exact ih h
    ·rw [if_neg hc] at h;simp only [Cu,hx] at h;exact ih h
   obtain⟨k2,e2,r2⟩:=h2;exact⟨k2,by simp [Cu,hx,e2],r2⟩
def j0w(names:List (Str×NameKind))(cells:List (Str×Addr))(acc:List (Str×Addr)):List (Str×Addr):=
 names.foldl (fun a x=>if x.2 == .free then(match cells.lookup x.1 with | some c=>(x.1,c) :: a | none=>a) else a) acc
theorem j18{scope:Scope}{env:Env}(h:∀ x∈scope.names,x.2 = .free->∃ c,env.cells.lookup x.1=some c):closureFor scope env=pure (j0w scope.names env.cells []):=by
 have all:∀(l:List (Str×NameKind)) (acc:List (Str×Addr)),(∀ x∈l,x.2 = .free->∃ c,env.cells.lookup x.1=some c) ->
   (forIn l acc fun(x:Str×NameKind) (cs:List (Str×Addr))=>(if x.2 == .free then(do let c <- cellOf env x.1;pure (ForInStep.yield ((x.1,c) :: cs))) else pure (ForInStep.yield cs):Sem _))=pure (j0w l env.cells acc):=by
  intro l
  induction l with
  | nil=>intro acc _;rfl
  | cons x r ih=>
   intro acc hl;rw [List.forIn_cons];have hr:∀ y∈r,y.2 = .free->∃ c,env.cells.lookup y.1=some c:=fun y hy=>hl y (Aq _ hy);cases hk:x.2 == .free with
   | true=>
    have hkk:x.2 = .free:=by
     revert hk
     cases x.2 <;> intro hk <;> first | rfl | (exact absurd hk (by decide))
    obtain⟨c,hc⟩:=hl x Aw hkk;simp only [if_true,cellOf,hc];rw [show j0w (x :: r) env.cells acc=j0w r env.cells ((x.1,c) :: acc) by unfold j0w;rw [Cs];simp [hk,hc]];exact ih _ hr
   | false=>
    simp only [At,if_false];rw [show j0w (x :: r) env.cells acc=j0w r env.cells acc by unfold j0w;rw [Cs];simp [hk]];exact ih _ hr
 have q:=all scope.names [] h;simp only [closureFor];exact(congrArg (· >>= fun r=>pure r) q).trans rfl
end L2
namespace L2
open PySem PySem.Spec PyProof.Rows
theorem j17:∀(names:List (Str×NameKind)) (cells acc:List (Str×Addr)),(∀ x c,(x,c)∈acc->cells.lookup x=some c)->∀ x c,(x,c)∈j0w names cells acc->cells.lookup x=some c
 | [],_,_,h=>h
 | y :: r,cells,acc,h=>by
  have e:j0w (y :: r) cells acc=j0w r cells (if y.2 == .free then(match cells.lookup y.1 with | some c=>(y.1,c) :: acc | none=>acc) else acc):=rfl;rw [e];refine j17 r cells _ ?_;cases hk:y.2 == .free with
  | false=>simpa using h
  | true=>
   cases hc:cells.lookup y.1 with
   | none=>simpa using h
   | some c=>
    intro x d hx;simp only [if_true] at hx
    rcases Ao.mp hx with e | hx
    ·cases e;exact hc
    ·exact h x d hx
theorem j56:∀(names:List (Str×NameKind)) (cells acc:List (Str×Addr)) (x:Str) (c:Addr),(x,c)∈acc->(x,c)∈j0w names cells acc
 | [],_,_,_,_,h=>h
 | y :: r,cells,acc,x,c,h=>by
  have e:j0w (y :: r) cells acc=j0w r cells (if y.2 == .free then(match cells.lookup y.1 with | some c=>(y.1,c) :: acc | none=>acc) else acc):=rfl;rw [e];refine j56 r cells _ x c ?_;cases hk:y.2 == .free with
  | false=>simpa using h
  | true=>
   cases hc:cells.lookup y.1 with
   | none=>simpa using h
   | some d=>simp only [if_true];exact Aq _ h
theorem j2t:∀(names:List (Str×NameKind)) (cells acc:List (Str×Addr)) (x:Str) (c:Addr),(x,NameKind.free)∈names->cells.lookup x=some c->(x,c)∈j0w names cells acc
 | [],_,_,_,_,h,_=>by cases h
 | y :: r,cells,acc,x,c,h,hc=>by
  have e:j0w (y :: r) cells acc=j0w r cells (if y.2 == .free then(match cells.lookup y.1 with | some c=>(y.1,c) :: acc | none=>acc) else acc):=rfl;rw [e]
  rcases Ao.mp h with e2 | h
  ·subst e2;refine j56 r cells _ x c ?_;have:(NameKind.free == NameKind.free)=true:=rfl;simp only [hc,this,if_true];exact Aw
  ·exact j2t r cells _ x c h hc
theorem j1c{α:Type}:∀{l:List (Str×α)} {x:Str} {c:α},(x,c)∈l->∃ d,l.lookup x=some d
 | [],_,_,h=>by cases h
 | (n,d) :: r,x,c,h=>by
  cases hx:x == n with
  | true=>exact⟨d,by simp [Cu,hx]⟩
  | false=>
   rcases Ao.mp h with e | h
   ·cases e;simp at hx
   ·obtain⟨d',e⟩:=j1c h;exact⟨d',by simp [Cu,hx,e]⟩
section
variable{prog:Program}{w:World}{A:Around}{R:Result->Shared->Prop}{s:Shared}
theorem j1u{elt target iter:Expr}{ifs:List Expr}{scope:Scope}{pos:Pos}{it acc:Value}{env:Env}(I:Nat->Shared->Prop)
  (turn : ∀ n s, I n s → wpAny (model prog w) A (pyNext it) (fun r s₁ => match r with
   | none=>R (.ok .next) s₁
   | some v=>wpAny (model prog w) A (letOwnedTupleGo target it v) (fun _ s₁'=>wpAny (model prog w) A (assign target env v) (fun _ s₂=>
     wpAny (model prog w) A (forIn ifs true fun c r=>if r=true then do let ok <- isTrue c env (eval c env);pure (ForInStep.yield ok) else pure (ForInStep.yield r)) (fun ok s₃=>
      if ok=true then wpAny (model prog w) A (eval elt env) (fun x s₄=>
       wpAny (model prog w) A (call (.builtin "list.append") [acc,x]) (fun _ s₅=>∃ m,m < n/\I m s₅) (notedBy (model prog w) A env fun e s'=>R (.error e) s') s₄) (notedBy (model prog w) A env fun e s'=>R (.error e) s') s₃
      else ∃ m,m < n/\I m s₃) (notedBy (model prog w) A env fun e s'=>R (.error e) s') s₂) (notedBy (model prog w) A env fun e s'=>R (.error e) s') s₁') (notedBy (model prog w) A env fun e s'=>R (.error e) s') s₁) (notedBy (model prog w) A env fun e s'=>R (.error e) s') s)
  (n:Nat) (h:I n s) :
  codeAny (model prog w) A (.compLoop (.ListComp elt [⟨target,iter,ifs,0⟩] scope pos) 0 it acc env) R s:=by
 refine codeAny_loop rfl I (fun n s hI=>?_) n h;show wpAny _ A ((compTurn (.ListComp elt [⟨target,iter,ifs,0⟩] scope pos) 0 it acc env).onRaise (fun x=>do noteFrame x env;theTreesLotGoes x)) _ _ s;refine wpAny_noted ?_;rw [compTurn_list];refine wpAny_bind (wpAny_standAt (wpAny_bind (wpAny_mono (turn n s hI) (fun r s₁ h₁=>?_) fun _ _ h'=>h')));cases r with
 | none=>exact wpAny_pure h₁
 | some v=>
  refine wpAny_bind (wpAny_mono h₁ (fun _ s₁' h₁'=>?_) fun _ _ h'=>h');refine wpAny_bind (wpAny_mono h₁' (fun _ s₂ h₂=>wpAny_bind (wpAny_mono h₂ (fun ok s₃ h₃=>?_) fun _ _ h'=>h')) fun _ _ h'=>h');cases ok with
  | false=>exact wpAny_pure ⟨rfl,h₃⟩
  | true=>
   exact wpAny_bind (wpAny_bind (wpAny_mono h₃ (fun x s₄ h₄=>wpAny_bind (wpAny_mono h₄ (fun _ s₅ h₅=>wpAny_pure (wpAny_pure ⟨rfl,h₅⟩)) fun _ _ h'=>h')) fun _ _ h'=>h'))
end
def PIf(X:Cx)(ifs:List Expr)(t:TT):Prop:=
 ∀(pins:List (Addr×Obj)) (s:Shared) (σ:St) (H:Hp) (Q:Bool->Hp->Prop),Inv X pins σ H s->t σ H Q ->
  wpAny (model X.prog X.w) X.A (forIn ifs true fun c r=>if r=true then do let ok <- isTrue c X.env (eval c X.env);pure (ForInStep.yield ok) else pure (ForInStep.yield r)) (TP X pins σ Q) X.xe s
def tYes:TT:=fun _ H Q=>Q true H
theorem k9p{X:Cx}:PIf X [] tYes:=fun _ _ _ H _ I h=>wpAny_tests_nil ⟨H,I,h⟩
theorem k9x{X:Cx}{c:Expr}{t:TT}(h:PT X c t):PIf X [c] t:=fun pins s σ H Q I hq=>wpAny_tests_one (h pins s σ H Q I hq)
def j01(X:Cx)(N':List Str)(scope:Scope)(cl:List (Str×Addr))(C:Addr)(s₀:Shared)(H₀:Hp)(ex:List Addr):Cx:=
 {prog:=X.prog,w:=X.w,K:=X.K,mg:=X.mg,base:=X.base,A:=X.A,N:=N',s₀:=s₀,H₀:=H₀,env:=compEnvC scope cl C X.env,outer:=X.stack,stack:=X.stack,ex:=ex,fn:=fun _=>false,calm:=X.calm,pn:=[],xe:=fun _ _=>False}
def j3i(sc scope:Scope)(N N':List Str):Bool:=
 (match scope.kind with | .function=>true | _=>false) &&
 scope.names.all (fun y=>match y.2 with
  | .cell=>false
  | .local=>(match scope.names.lookup y.1 with | some .local=>true | _=>false)
  | .free=>(match sc.names.lookup y.1 with | some .cell=>true | some .free=>true | _=>false)
  | _=>true) &&
 (List.range N'.length).all fun i => match N'[i]? with
  | none=>true
  | some x=>match scope.names.lookup x with
   | some .local=>decide (N.length<=i)
   | some .free=>decide (N[i]?=some x)
   | _=>true
structure CompOk(sc scope:Scope)(N N':List Str):Prop where
 kind:scope.kind = .function
 cell:∀ y∈scope.names,y.2 ≠ .cell
 names:∀ y∈scope.names,y.2 = .local->scope.names.lookup y.1=some .local
 free:∀ y∈scope.names,y.2 = .free->sc.names.lookup y.1=some .cell\/sc.names.lookup y.1=some .free
 own:∀(i:Nat) x,N'[i]?=some x->scope.names.lookup x=some .local->N.length<=i
 out:∀(i:Nat) x,N'[i]?=some x->scope.names.lookup x=some .free->N[i]?=some x
theorem CompOk.of{sc scope:Scope}{N N':List Str}(h:j3i sc scope N N'=true):CompOk sc scope N N':=by
 unfold j3i at h;rw [Bh,Bh] at h;obtain⟨⟨h1,h2⟩,h3⟩:=h;have h2':=Ci.mp h2;have h3':=Ci.mp h3;refine⟨?_,fun y hy e=>?_,fun y hy e=>?_,fun y hy e=>?_,fun i x hi e=>?_,fun i x hi e=>?_⟩
 ·revert h1;cases scope.kind <;> intro h1 <;> first | rfl | cases h1
 ·have q:=h2' y hy;rw [e] at q;cases q
 ·have q:=h2' y hy;rw [e] at q;simp only at q
  split at q
  ·assumption
  ·cases q
 ·have q:=h2' y hy;rw [e] at q;simp only at q
  split at q
  ·exact .inl (by assumption)
  ·exact .inr (by assumption)
  ·cases q
 ·have q:=h3' i (Br.mpr (Ab.mp hi).1);rw [hi] at q;simp only [e] at q;exact of_decide_eq_true q
 ·have q:=h3' i (Br.mpr (Ab.mp hi).1);rw [hi] at q;simp only [e] at q;exact of_decide_eq_true q
section
variable{X:Cx}{pins:List (Addr×Obj)}{σ:St}{H:Hp}{s:Shared}
theorem j7e{N':List Str}{scope:Scope}{n:Nat}{fp:List Addr}{h₁:Heap}{t':Nat}{m:Str->Option Value}(I:Inv X pins σ H s)(ck:CompOk X.env.scope scope X.N N')(hl:N'.length=X.N.length+n)
  (hns:h₁.Ns s.heap.objs.size m) (old:∀ b o,s.heap.get? b=some o->h₁.get? b=some o) (hfp:∀ b∈fp,FpOk X pins H b/\b < s.heap.objs.size) :
  Inv (j01 X N' scope (j0w scope.names X.env.cells []) s.heap.objs.size s H fp) [] (σ++List.replicate n none) H {s with heap:=h₁,toks:=t'}:=by
 have sub:∀ x c,(j0w scope.names X.env.cells []).lookup x=some c->X.env.cells.lookup x=some c:=fun x c e=>j17 _ _ _ (fun _ _ z=>by simp at z) x c (PySem.mem_of_lookup e);have fre:H s.heap.objs.size=none:=I.hok.fresh (Ag _);have ok':(j01 X N' scope (j0w scope.names X.env.cells []) s.heap.objs.size s H fp).Ok:=by
  refine⟨I.ok.mod,ck.kind,I.ok.glob,I.ok.blt,Ag _,fun x y c e1 e2=>I.ok.inj x y c (sub x c e1) (sub y c e2),fun x hx=>?_,fun x c hf _=>?_,I.ok.hd,I.ok.frames,.inl rfl,fun b hb=>⟨Ay (hfp b hb).2,fun x c e=>(hfp b hb).1.2.2.2.2.1 x c (sub x c e)⟩,
   I.bs,Bs I.ok.bsz I.sz,fun b o e hb=>?_,fun b hb hf=>?_,I.stack,I.stkFree⟩
  ·have hx':(relabel scope X.env).names.lookup x=some .cell\/(relabel scope X.env).names.lookup x=some .free:=hx;have:∃ k,scope.names.lookup x=some k/\k = .free:=by
    rcases hx' with z | z
    ·obtain⟨k,e,r⟩:=j1d z
     rcases r with r | ⟨r,_⟩
     ·exact absurd (r.symm ▸ rfl:k = .cell) (ck.cell (x,k) (PySem.mem_of_lookup e))
     ·exact⟨k,e,r⟩
    ·obtain⟨k,e,r⟩:=j1d z
     rcases r with r | ⟨r,_⟩
     ·exact⟨k,e,r.symm⟩
     ·exact⟨k,e,r⟩
   obtain⟨k,e,rfl⟩:=this;have hm:=PySem.mem_of_lookup e;obtain⟨c,hc⟩:=I.ok.has x (ck.free _ hm rfl);exact j1c (j2t scope.names X.env.cells [] x c hm hc)
  ·cases hf
  ·have:=(hfp b hb).1.2.2.2.1
   rcases this with z | z
   ·exact I.ok.noex b o e z
   ·exact absurd (Bf (Ai e) (Bs I.ok.bsz z)) (Bo _)
  ·rcases Ao.mp (I.stkSub b hf) with z | z
   ·exact(hfp b hb).1.2.1 z
   ·exact(hfp b hb).1.2.2.1 z
 refine⟨ok',rfl,I.bare,Un.kept old,⟨m,hns,fun i x v e1 e2 e3=>?_⟩,fun x c e=>?_,fre,fun x c e=>I.freeC x c (sub x c e),fun p hp=>absurd hp (by simp [j01]),I.hok.kept old,?_⟩
 ·have hi:i < σ.length:=by
   by_cases hi:i < σ.length
   ·exact hi
   ·rw [Bb (by omega),Dd] at e2
    split at e2 <;> cases e2
  rw [Ax hi] at e2;have e1':N'[i]?=some x:=e1;have vis:∃ k',(relabel scope X.env).names.lookup x=some k'/\(k' = .local\/k' = .cell\/k' = .free):=by
   rcases e3 with z | z | z
   ·exact⟨_,z,.inl rfl⟩
   ·exact⟨_,z,.inr (.inl rfl)⟩
   ·exact⟨_,z,.inr (.inr rfl)⟩
  obtain⟨k',ek',hk'⟩:=vis;obtain⟨k,ek,r⟩:=j1d ek';have kf:k = .free:=by
   rcases r with r | ⟨r,_⟩
   ·subst r
    rcases hk' with z | z | z
    ·subst z;have:=ck.own i x e1' ek;rw [I.len] at hi;omega
    ·subst z;exact absurd rfl (ck.cell _ (PySem.mem_of_lookup ek))
    ·exact z
   ·exact r
  subst kf;have hm:=PySem.mem_of_lookup ek;have hxN:=ck.out i x e1' ek;obtain⟨m0,hn0,hl0⟩:=I.loc;have kx:=ck.free _ hm rfl;obtain⟨u,ru,lk⟩:=hl0 i x v hxN e2 (by rcases kx with z | z;exact .inr (.inl z);exact .inr (.inr z));refine⟨u,ru,.inr ⟨?_,?_⟩⟩
  ·rcases r with r | ⟨_,r⟩
   ·subst r;exact .inr ek'
   ·subst r;exact .inl ek'
  ·rcases lk with ⟨k1,_⟩ | ⟨_,c,hc,hcell⟩
   ·have k1':X.env.scope.names.lookup x=some .local:=k1
    rcases kx with z | z
    ·rw [k1'] at z;cases z
    ·rw [k1'] at z;cases z
   ·have hin:=j2t scope.names X.env.cells [] x c hm hc;obtain⟨d,hd⟩:=j1c hin;have:d=c:=Option.some.inj ((sub x d hd).symm.trans hc);subst this;obtain⟨o,ho,hdat⟩:=hcell;exact⟨d,hd,o,old _ _ ho,hdat⟩
 ·obtain⟨v,o,ho,hdat⟩:=I.cell x c (sub x c e);exact⟨v,o,old _ _ ho,hdat⟩
 ·rw [Af,Cz,I.len];exact hl.symm
end
def k7x(n:Nat)(wi:TI)(g:TG)(tc:TT)(te:TE):TE:=fun σ H Q=>wi σ H fun J H1=>∀ D,H1 D=none->∃ W:Nat->Nat->St->Hp->Prop,(∃ m,W 0 m (σ++List.replicate n none) (upd H1 D (.lst [])))/\∀ i m σ' H',W i m σ' H' ->
 (J.stop i H' ∧ Q (.ref D) H') ∨ (J.go i H' ∧ ∃ N : St → Hp → Prop, (∀ σ' H', N σ' H' → ∃ m', m' < m ∧ W (i + 1) m' σ' H') ∧ ∀ x H2, J.yld i H' x H2 → g x σ' H2 fun σ2 H3 => tc σ2 H3 fun b H4 =>
  if b=true then te σ2 H4 fun v H5=>∃ ys,H5 D=some (.lst ys)/\ys.length < sizeLine/\N σ2 (upd H5 D (.lst (ys++[v]))) else N σ2 H4)
theorem thnF{α:Type}{t:Sem α}{Q Q':α->Shared->Prop}{M:Model}{A:Around}{E:Value->Shared->Prop}{s:Shared}(h:wpAny M A t Q (fun _ _=>False) s)(hQ:∀ a s,Q a s->Q' a s):wpAny M A t Q' E s:=wpAny_mono h hQ fun _ _ z=>z.elim
section
variable{X:Cx}{elt tg iter:Expr}{ifs:List Expr}{scope:Scope}{pos:Pos}{N':List Str}{n:Nat}{wi:TI}{g:TG}{tc:TT}{te:TE}
theorem j8q{pins:List (Addr×Obj)}{σ:St}{H2:Hp}{s2:Shared}{E:Value->Shared->Prop}{RR:Value->Addr->Result->Shared->Prop}{it:Addr}{fp:List Addr}{tn:Nat->Heap->Prop}{J:It}{Q:VK}
  (hc:X.calm=true) (ck:CompOk X.env.scope scope X.N N') (hl:N'.length=X.N.length+n)
  (hg:∀ cl C s₀ H₀ ex,PG (j01 X N' scope cl C s₀ H₀ ex) tg g) (hif:∀ cl C s₀ H₀ ex,PIf (j01 X N' scope cl C s₀ H₀ ex) ifs tc) (he:∀ cl C s₀ H₀ ex,PE (j01 X N' scope cl C s₀ H₀ ex) elt te)
  (I2:Inv X pins σ H2 s2) (T:Turn X.prog X.w X.K tg J fp it tn) (st2:tn 0 s2.heap) (f2:∀ b∈fp,FpOk X pins H2 b)
  (q : ∀ D, H2 D = none → ∃ W : Nat → Nat → St → Hp → Prop, (∃ m, W 0 m (σ ++ List.replicate n none) (upd H2 D (.lst []))) ∧ ∀ i m σ' H', W i m σ' H' →
   (J.stop i H' ∧ Q (.ref D) H') ∨ (J.go i H' ∧ ∃ N : St → Hp → Prop, (∀ σ' H', N σ' H' → ∃ m', m' < m ∧ W (i + 1) m' σ' H') ∧ ∀ x H2, J.yld i H' x H2 → g x σ' H2 fun σ2 H3 => tc σ2 H3 fun b H4 =>
    if b=true then te σ2 H4 fun v H5=>∃ ys,H5 D=some (.lst ys)/\ys.length < sizeLine/\N σ2 (upd H5 D (.lst (ys++[v]))) else N σ2 H4))
  (hRR:∀ D C H' s' m,Inv X pins σ H' s'->s'.heap.Ns C m->H' C=none->C≠X.env.locals->X.s₀.heap.objs.size<=C->(∀ x c,X.env.cells.lookup x=some c->c≠C)->(∀ p∈X.pn++pins,p.1≠C)->Q (.ref D) H'->RR (.ref D) C (.ok .next) s') :
  wpAny (model X.prog X.w) X.A (newList []) (fun acc s₃=>wpAny (model X.prog X.w) X.A (newFunctionEnv scope X.env.globals (j0w scope.names X.env.cells []) [] X.env.qual none .none (some X.env)) (fun cenv s₄=>
   codeAny (model X.prog X.w) X.A (.compStart (.ListComp elt [⟨tg,iter,ifs,0⟩] scope pos) 0 (.ref it) acc {cenv with scope:=relabel scope X.env}) (RR acc cenv.locals) s₄) E s₃) E s2:=by
 refine wpAny_newObj_type (wpAny_newFunctionEnv ck.cell (by intro y hy;simp at hy) (fun h₁ hns₁ hsb₁=>?_) ck.kind) (by show(0:Nat)<=sizeLine;exact Bi _);have hD:H2 s2.heap.objs.size=none:=I2.hok.fresh (Ag _);obtain⟨W,⟨m0,w0⟩,turn⟩:=q s2.heap.objs.size hD;have fl:∀ b∈fp,b < s2.heap.objs.size:=fun b hb=>by
  obtain⟨o,e,_⟩:=T.obj 0 _ st2 b hb;exact Ai e
 have I3:Inv X pins σ (upd H2 s2.heap.objs.size (.lst [])) {s2 with heap:=s2.heap.push {cls:= .type "list",dict:=none,data:= .seq ([]:List Value).toArray}}:=
  I2.laid (t':=s2.toks) (fun b o e=>Ad _ e) (Ag _) (show ObjOk X.prog X.w _ _ _ (.lst []) from⟨Bi _,[],0,.nil,Aj _ rfl⟩)
 generalize hs3:({s2 with heap:=s2.heap.push {cls:= .type "list",dict:=none,data:= .seq ([]:List Value).toArray}}:Shared)=s3 at I3 hns₁ hsb₁ ⊢;have hz3:s3.heap.objs.size=s2.heap.objs.size+1:=by rw [<- hs3];exact Ch ..
 have old2:∀ b o,s2.heap.get? b=some o->s3.heap.get? b=some o:=fun b o e=>by rw [<- hs3];exact Ad _ e
 have old:∀ b o,s3.heap.get? b=some o->h₁.get? b=some o:=fun b o e=>
  hsb₁.extBut b o (Ay (Ai e)) (Ad _ e)
 have f3:∀ b∈fp,FpOk X pins (upd H2 s2.heap.objs.size (.lst [])) b/\b < s3.heap.objs.size:=fun b hb=>by
  refine⟨⟨?_,(f2 b hb).2⟩,by rw [hz3];exact Bu (fl b hb)⟩;rw [j0e (Ay (fl b hb))];exact(f2 b hb).1
 have I4:=fun(t':Nat)=>j7e (N':=N') (scope:=scope) (n:=n) (fp:=fp) (h₁:=h₁) (t':=t') I3 ck hl hns₁ old f3;generalize hX:j01 X N' scope (j0w scope.names X.env.cells []) s3.heap.objs.size s3 (upd H2 s2.heap.objs.size (.lst [])) fp=X' at I4;have eP:X'.prog=X.prog:=by rw [<- hX];rfl
 have ew:X'.w=X.w:=by rw [<- hX];rfl
 have eK:X'.K=X.K:=by rw [<- hX];rfl
 have eA:X'.A=X.A:=by rw [<- hX];rfl
 have eE:X'.env=compEnvC scope (j0w scope.names X.env.cells []) s3.heap.objs.size X.env:=by rw [<- hX];rfl
 have ec:X'.calm=true:=by rw [<- hX];exact hc
 have ex':X'.xe=fun _ _=>False:=by rw [<- hX];rfl
 have hg':PG X' tg g:=by rw [<- hX];exact hg _ _ _ _ _
 have hif':PIf X' ifs tc:=by rw [<- hX];exact hif _ _ _ _ _
 have he':PE X' elt te:=by rw [<- hX];exact he _ _ _ _ _
 have stat:∀{H':Hp},(∀ b∈fp,H' b=none)->∀ b∈fp,FpOk X' [] H' b:=fun hn b hb=>by
  refine⟨hn b hb,?_,?_,?_,?_,?_⟩
  ·rw [eE];exact Ay (f3 b hb).2
  ·rw [<- hX];intro hf
   rcases Ao.mp (I3.stkSub b hf) with z | z
   ·exact(f3 b hb).1.2.1 z
   ·exact(f3 b hb).1.2.2.1 z
  ·rw [<- hX];exact .inl hb
  ·rw [eE];intro x c e;exact(f3 b hb).1.2.2.2.2.1 x c (j17 _ _ _ (fun _ _ z=>by simp at z) x c (PySem.mem_of_lookup e))
  ·rw [<- hX];intro p hp;exact absurd hp (by simp [j01])
 have fin:∀{σ':St} {H':Hp} {s':Shared},Inv X' [] σ' H' s'->Q (.ref s2.heap.objs.size) H'->RR (.ref s2.heap.objs.size) s3.heap.objs.size (.ok .next) s':=fun{σ' H' s'} I' q'=>by
  obtain⟨m',hn',_⟩:=id I'.loc;rw [eE] at hn';have hos:s'.os=s3.os:=by have:=I'.os;rw [<- hX] at this;exact this
  have hun:Un (frs X.stack) fp (upd H2 s2.heap.objs.size (.lst [])) H' s3.heap s'.heap:=by have:=I'.base;rw [<- hX] at this;exact this
  have hok:HOk X.prog X.w H' s'.heap:=by have:=I'.hok;rw [eP,ew] at this;exact this
  have IX:Inv X pins σ H' s':=I3.call' (ch:=fp) hos hun hok I'.bare fun b hb=>⟨(f3 b hb).1.2.2.2.1,(f3 b hb).1.2.1,(f3 b hb).1.2.2.2.2.1,(f3 b hb).1.2.2.2.2.2⟩;have hfr:=I'.free;rw [eE] at hfr;refine hRR _ _ H' s' m' IX hn' hfr (Cd I3.lt) I3.sz (fun x c e z=>?_) (fun p hp z=>?_) q'
  ·obtain⟨v,o,ho,_⟩:=I3.cell x c e;exact absurd (Ai ho) (by rw [z];exact Bo _)
  ·exact absurd (Ai (I3.pin p hp).1) (by rw [z];exact Bo _)
 have loop:∀ t',codeAny (model X.prog X.w) X.A (.compLoop (.ListComp elt [⟨tg,iter,ifs,0⟩] scope pos) 0 (.ref it) (.ref s2.heap.objs.size) (compEnvC scope (j0w scope.names X.env.cells []) s3.heap.objs.size X.env)) (RR (.ref s2.heap.objs.size) s3.heap.objs.size) {s3 with heap:=h₁,toks:=t'}:=fun t'=>by
  refine j1u (fun k s'=>∃ i σ' H',Inv X' [] σ' H' s'/\tn i s'.heap/\(∀ b∈fp,H' b=none)/\W i k σ' H') ?_ m0
   ⟨0,_,_,I4 t',T.keep 0 _ _ st2 fun b _ o e=>old b o (old2 b o e),fun b hb=>(f3 b hb).1.1,w0⟩
  rintro k s4 ⟨i,σ4,H4,J4,st4,fr4,w4⟩;rw [<- eP,<- ew,<- eA,<- eE]
  rcases turn i k σ4 H4 w4 with ⟨stop,qn⟩ | ⟨go,N,hN,step⟩
  ·have d1:=T.done X' eP ew eK ec i [] s4 σ4 H4 (fun _ _=>False) J4 (stat fr4) st4 stop;rw [<- eP,<- ew] at d1;refine thnF d1 fun r s5 ⟨hr,I5⟩=>?_;subst hr;exact fin I5 qn
  ·have d1:=T.item X' eP ew eK ec i [] s4 σ4 H4 (fun _ _=>False) J4 (stat fr4) st4 go;rw [<- eP,<- ew] at d1;refine thnF d1 fun r s5 ⟨u,hr,h5⟩=>?_;subst hr;refine thnF h5 fun _ s6 ⟨x,H6,I6,r6,y6,st6,fr6⟩=>?_;have I6':=I6.pinned (stat fr6) (T.obj _ _ st6);have again:∀{σ7:St} {H7:Hp} {s7:Shared},Inv X' ([]++j5a fp s6.heap) σ7 H7 s7->N σ7 H7->∃ m,m < k/\∃ i σ' H',Inv X' [] σ' H' s7/\tn i s7.heap/\(∀ b∈fp,H' b=none)/\W i m σ' H':=fun{σ7 H7 s7} I7 n7=>by
    obtain⟨m',hm,w7⟩:=hN σ7 H7 n7;refine⟨m',hm,i+1,σ7,H7,I7.unpinned,T.keep _ _ _ st6 fun b hb o e=>(I7.pin (b,o) (As _ (As _ (j1j hb e)))).1,fun b hb=>?_,w7⟩;obtain⟨o,e,d⟩:=T.obj _ _ st6 b hb;exact(I7.pin (b,o) (As _ (As _ (j1j hb e)))).2.1
   have a1:=hg' _ s6 σ4 H6 x u _ I6' r6 (step x H6 y6);rw [ex'] at a1;refine thnF a1 fun _ s7 ⟨σ7,H7,I7,q7⟩=>?_;have a2:=hif' _ s7 σ7 H7 _ I7 q7;rw [ex'] at a2;refine thnF a2 fun ok s8 ⟨H8,I8,q8⟩=>?_;cases ok with
   | false=>
    rw [if_neg Ak] at q8 ⊢;exact again I8 q8
   | true=>
    rw [if_pos rfl] at q8 ⊢;have a3:=he' _ s8 σ7 H8 _ I8 q8;rw [ex'] at a3;refine thnF a3 fun v s9 ⟨vv,H9,I9,r9,ys,hy,hz,q9⟩=>?_;have a4:=j3p (X:=X') _ s9 σ7 H9 (.ref s2.heap.objs.size) [vv] (.ref s2.heap.objs.size) [v] (fun _ H'=>N σ7 H') I9 rfl (.cons r9 .nil) ⟨_,ys,vv,rfl,rfl,hy,hz,q9⟩;rw [ex'] at a4;exact thnF a4 fun _ s10 ⟨_,H10,I10,_,q10⟩=>again I10 q10
 refine codeAny_compStart_list (loop _) (T.self _ 0 _ _ _ ?_ (loop _));exact T.keep 0 _ _ st2 fun b _ o e=>old b o (old2 b o e)
theorem q0n(sc:Scope)(N N':List Str)(n:Nat)(hi:PI X tg iter wi)
  (hg:∀ cl C s₀ H₀ ex,PG (j01 X N' scope cl C s₀ H₀ ex) tg g) (hif:∀ cl C s₀ H₀ ex,PIf (j01 X N' scope cl C s₀ H₀ ex) ifs tc) (he:∀ cl C s₀ H₀ ex,PE (j01 X N' scope cl C s₀ H₀ ex) elt te)
  (hc:X.calm=true:=by rfl) (hsc:X.env.scope=sc:=by rfl) (hN:X.N=N:=by rfl) (hk:j3i sc scope N N'=true:=by decide +kernel) (hl:N'.length=N.length+n:=by rfl)
  (hs:∀ x,foldedSetIterable iter X.env x=pure x:=by intro _;rfl):PE X (.ListComp elt [⟨tg,iter,ifs,0⟩] scope pos) (k7x n wi g tc te):=by
 intro pins s σ H Q I h;subst hsc hN;have ck:=CompOk.of hk;rw [eval_ListComp];refine wpAny_comprehension_free (use:=none) rfl hs (j18 fun x hx hf=>I.ok.has x.1 (ck.free x hx hf)) ck.kind ck.names (thn (hi pins s σ H _ I h) fun v s1 h1=>thn h1 fun itv s2 h2=>?_);obtain⟨it,fp,tn,J,H2,e,I2,T,st2,f2,q⟩:=h2;subst e;refine j8q (RR:=fun acc C=>compPost (model X.prog X.w) X.A X.xe none (EP X pins σ Q) acc C) hc ck hl hg hif he I2 T st2 f2 q ?_;intro D C H' s' m IX hn hC c1 c2 c3 c4 qq;exact⟨m,hn,fun h' hs'=>⟨.ref D,H',IX.turned (t':=s'.toks) (fun b o hb e=>hs'.extBut b o hb e) hC (Ne.symm (Ne.symm c1)) (.inr c2) c3 c4,rfl,qq⟩⟩
theorem q07{y:Str}{py spos:Pos}{i:Nat}(sc:Scope)(N N':List Str)(n:Nat)(hnd:X.N.Nodup)(hiN:X.N[i]?=some y)(hy:Loc X.env.scope y)(hi:PI X tg iter wi)
  (hg:∀ cl C s₀ H₀ ex,PG (j01 X N' scope cl C s₀ H₀ ex) tg g) (hif:∀ cl C s₀ H₀ ex,PIf (j01 X N' scope cl C s₀ H₀ ex) ifs tc) (he:∀ cl C s₀ H₀ ex,PE (j01 X N' scope cl C s₀ H₀ ex) elt te)
  (hsw:swapsWith (.ListComp elt [⟨tg,iter,ifs,0⟩] scope pos) (some (.Name y py)) spos.line X.env=pure true:=by rfl)
  (hc:X.calm=true:=by rfl) (hsc:X.env.scope=sc:=by rfl) (hN:X.N=N:=by rfl) (hk:j3i sc scope N N'=true:=by decide +kernel) (hl:N'.length=N.length+n:=by rfl)
  (hs:∀ x,foldedSetIterable iter X.env x=pure x:=by intro _;rfl) (hf:X.fn y=true\/X.env.scope.names.lookup y=some .local:=by first | exact .inl rfl | exact .inr rfl | assumption) :
  PS X (.Assign [.Name y py] (.ListComp elt [⟨tg,iter,ifs,0⟩] scope pos) spos) (tAsg (k7x n wi g tc te) (k2j i)):=by
 intro pins s σ H D I h;subst hsc hN;have ck:=CompOk.of hk;rw [exec_Assign_Name_used _ _ _ _ hsw];refine wpAny_bind (wpAny_standAt (wpAny_bind ?_));show wpAny _ X.A (do let _ <- comprehension (.ListComp elt [⟨tg,iter,ifs,0⟩] scope pos) scope X.env _ (newList []) false (eval iter X.env) (some (assign (.Name y py) X.env))) _ _ s;refine wpAny_bind (wpAny_mono (wpAny_comprehension_free (use:=some (assign (.Name y py) X.env)) (Q:=fun _ s'=>SP X pins D .next s') rfl hs (j18 fun x hx hf=>I.ok.has x.1 (ck.free x hx hf)) ck.kind ck.names
  (thn (hi pins s σ H _ I h) fun v s1 h1=>thn h1 fun itv s2 h2=>?_)) (fun _ s' hq=>wpAny_pure (wpAny_pure hq)) fun _ _ e=>e)
 obtain⟨it,fp,tn,J,H2,e,I2,T,st2,f2,q⟩:=h2;subst e;refine j8q (Q:=fun x H1=>k2j i x σ H1 D.nx) (RR:=fun acc C=>compPost (model X.prog X.w) X.A X.xe (some (assign (.Name y py) X.env)) (fun _ s'=>SP X pins D .next s') acc C) hc ck hl hg hif he I2 T st2 f2 q ?_;intro D' C H' s' m IX hn hC c1 c2 c3 c4 qq;show wpAny _ X.A (assign (.Name y py) X.env (.ref D')) _ _ _;refine wpAny_assign_Name (j50 IX hnd hiN hy (v:= .ref D') rfl (fun s'' I'' hsb=>?_) hf);obtain⟨a,hsb,ha⟩:=hsb;have hCa:C≠a:=by
  rcases ha with ha | ha
  ·rw [ha];exact c1
  ·exact Ne.symm (c3 _ _ ha)
 refine⟨m,hn.sameBut hsb hCa,fun h' hs'=>⟨_,H',I''.turned (t':=s''.toks) (fun b o hb e=>hs'.extBut b o hb e) hC c1 (.inr c2) c3 c4,qq⟩⟩
end
end L2
namespace L2
open PySem PySem.Spec PyProof.Rows
section
variable{X:Cx}
theorem j4g:j2s X (.builtin "isinstance") (fun xs H Q=>∃ x t T b,xs=[x,.ty T]/\TyOf X.K H x t/\PySem.W.kitOne X.K t (.type T)=some b/\Q (.bl b) H):=by
 intro pins s σ H xs us Q I r h;obtain⟨x,t,T,b,rfl,ty,e,q⟩:=h;obtain⟨u,w',rfl,ru,rw'⟩:=vals2 r;cases (show w'=Value.type T from rw');exact k45 I ru ty e fun tk=>⟨.bl b,H,I.tok tk,rfl,q⟩
theorem j79:∀{bs:List Bool} {its:List Value},Vals (bs.map V.bl) its->its=bs.map Value.bool
 | [],_,r=>by cases r;rfl
 | b :: bs,_,r=>by
  cases r with
  | cons r1 r2=>
   cases (show _=Value.bool b from r1);rw [j79 r2,Be]
theorem range_all(bs:List Bool):(List.range bs.length).all (fun i=>bs.getD i true)=bs.all id:=by
 rw [By,Ci,Ci]
 constructor
 ·intro h x hx;obtain⟨i,hi,rfl⟩:=Dc.mp hx;have:=h i (Br.mpr hi)
  simpa [Cn,hi] using this
 ·intro h i hi;have hi':=Br.mp hi;have:=h bs[i] (Cg hi')
  simpa [Cn,hi'] using this
theorem range_any(bs:List Bool):(List.range bs.length).any (fun i=>bs.getD i true)=bs.any id:=by
 rw [By,Co,Co]
 constructor
 ·rintro ⟨i,hi,h⟩;have hi':=Br.mp hi;exact⟨bs[i],Cg hi',by simpa [Cn,hi'] using h⟩
 ·rintro ⟨x,hx,h⟩;obtain⟨i,hi,rfl⟩:=Dc.mp hx;exact⟨i,Br.mpr hi,by simpa [Cn,hi] using h⟩
theorem k3g(hc:X.calm=true):j2s X (.builtin "all") (fun xs H Q=>∃(p:Addr) (bs:List Bool),xs=[.ref p]/\SqL X.K H p (bs.map V.bl)/\Q (.bl (bs.all id)) H):=by
 intro pins s σ H xs us Q I r h;obtain⟨p,bs,rfl,hp,q⟩:=h;obtain⟨u,rfl,ru⟩:=vals1 r;cases (show u=Value.ref p from ru);obtain⟨its,rv,pl,hz⟩:=I.list hp;have hits:=j79 rv;obtain⟨o,_,ho,_⟩:=id pl;have hpl:p < s.heap.objs.size:=Ai ho;refine call_all_walk (wpAny_pyIter_list pl.isList ⟨s.heap.objs.size,_,_,_,_,_,fun i=>bs.getD i true,rfl,Walks.list (A:=X.A.in1) (show X.A.in1.handled=none from I.ok.hd hc) s.heap.objs.size p (Ay hpl) its.toArray,
  ⟨⟨_,Aj _ rfl,rfl,rfl⟩,pl.isList.push _⟩,?_,fun h' tk hk=>?_⟩)
 ·intro i v s' Q' E' hv hQ;have hv':its[i]?=some v:=by simpa using hv
  rw [hits,Ae] at hv';cases e:bs[i]? with
  | none=>rw [e] at hv';cases hv'
  | some b=>
   rw [e] at hv';cases hv';refine wpAny_truthy_bool ?_;have:bs.getD i true=b:=by rw [Cn,e];rfl
   have hQ':Q' (bs.getD i true) s':=hQ;rw [this] at hQ';exact hQ'
 ·have e:its.toArray.size=bs.length:=by rw [Ap,hits,Aa]
  rw [e,range_all];refine⟨.bl (bs.all id),H,I.kept (t':=tk) fun b o e=>hk b o ?_ (Ad _ e),rfl,q⟩;intro hb;have:b=s.heap.objs.size:=by simpa using hb
  exact absurd (Ai e) (by rw [this];exact Bo _)
theorem k3f(hc:X.calm=true):j2s X (.builtin "any") (fun xs H Q=>∃(p:Addr) (bs:List Bool),xs=[.ref p]/\SqL X.K H p (bs.map V.bl)/\Q (.bl (bs.any id)) H):=by
 intro pins s σ H xs us Q I r h;obtain⟨p,bs,rfl,hp,q⟩:=h;obtain⟨u,rfl,ru⟩:=vals1 r;cases (show u=Value.ref p from ru);obtain⟨its,rv,pl,hz⟩:=I.list hp;have hits:=j79 rv;obtain⟨o,_,ho,_⟩:=id pl;have hpl:p < s.heap.objs.size:=Ai ho;refine call_any_walk (wpAny_pyIter_list pl.isList ⟨s.heap.objs.size,_,_,_,_,_,fun i=>bs.getD i true,rfl,Walks.list (A:=X.A.in1) (show X.A.in1.handled=none from I.ok.hd hc) s.heap.objs.size p (Ay hpl) its.toArray,
  ⟨⟨_,Aj _ rfl,rfl,rfl⟩,pl.isList.push _⟩,?_,fun h' tk hk=>?_⟩)
 ·intro i v s' Q' E' hv hQ;have hv':its[i]?=some v:=by simpa using hv
  rw [hits,Ae] at hv';cases e:bs[i]? with
  | none=>rw [e] at hv';cases hv'
  | some b=>
   rw [e] at hv';cases hv';refine wpAny_truthy_bool ?_;have:bs.getD i true=b:=by rw [Cn,e];rfl
   have hQ':Q' (bs.getD i true) s':=hQ;rw [this] at hQ';exact hQ'
 ·have e:its.toArray.size=bs.length:=by rw [Ap,hits,Aa]
  rw [e,range_any];refine⟨.bl (bs.any id),H,I.kept (t':=tk) fun b o e=>hk b o ?_ (Ad _ e),rfl,q⟩;intro hb;have:b=s.heap.objs.size:=by simpa using hb
  exact absurd (Ai e) (by rw [this];exact Bo _)
def rSlS:V->Option Int->Option Int->Hp->VK->Prop:=fun x lo hi H Q=>∃ z,x = .str z/\z.length<=sizeLine/\Q (.str (Txt.slice z lo hi)) H
theorem q12:SlR X rSlS:=by
 intro pins s σ H x v vl vu lo hi sl Q I rx hs pl pu h;obtain⟨z,rfl,hz,q⟩:=h;obtain⟨t,rfl⟩:=rx;refine⟨"str",_,F.slot_str_getitem.lookup,typeIs_str _ _ _,?_⟩;have fin:∀ t' k,EP X pins σ Q (.str (Txt.slice z lo hi) t') {s with toks:=k}:=fun t' k=>⟨.str _,H,I.tok k,⟨_,rfl⟩,q⟩;cases pl with
 | none=>
  cases pu with
  | none=>exact wpAny_getItem_str_slice (l:=none) (u:=none) (st:=none) hs rfl (post_val_or_str ⟨Bs (Txt.slice_le z _ _) hz,fin⟩)
  | int j uj=>exact wpAny_getItem_str_slice (l:=none) (u:=some (j,uj)) (st:=none) hs rfl (post_val_or_str ⟨Bs (Txt.slice_le z _ _) hz,fin⟩)
 | int i ui=>
  cases pu with
  | none=>exact wpAny_getItem_str_slice (l:=some (i,ui)) (u:=none) (st:=none) hs rfl (post_val_or_str ⟨Bs (Txt.slice_le z _ _) hz,fin⟩)
  | int j uj=>exact wpAny_getItem_str_slice (l:=some (i,ui)) (u:=some (j,uj)) (st:=none) hs rfl (post_val_or_str ⟨Bs (Txt.slice_le z _ _) hz,fin⟩)
theorem k2v:OpR X (binaryOp .Mult) (fun x y H Q=>∃ z i,x = .str z/\y = .int i/\0<=i/\i<=100000/\z.length * i.toNat<=100000/\Q (.str (Txt.mul z i)) H):=by
 intro pins s σ H x y v u Q I rx ry h;obtain⟨z,i,rfl,rfl,h0,h1,h2,q⟩:=h;obtain⟨t,rfl⟩:=rx;obtain⟨t',rfl⟩:=ry;have hsz:sizeLine=16777216:=sizeLine_eq;refine SB.mul ⟨?_,fun h3 h4=>?_,fun h3 h4=>?_⟩ fun t' k=>⟨.str _,H,I.tok k,⟨_,rfl⟩,q⟩
 ·rw [decide_eq_false (by omega),decide_eq_false (by omega)];rfl
 ·have h5:(z.length:Int)<=100000:=by
   have h6:z.length * 1<=z.length * i.toNat:=Nat.mul_le_mul_left _ (by omega);omega
  have h7:(100000:Int)<=(2 ^ 63 - 1) / i:=by
   rw [Int.le_ediv_iff_mul_le (by omega)];have:(100000:Int) * i<=100000 * 100000:=Int.mul_le_mul_of_nonneg_left h1 (by decide);have e:(2:Int) ^ 63 - 1=9223372036854775807:=by decide
   omega
  omega
 ·unfold Builtin.Str.tooLong;rw [hsz];exact decide_eq_false (by omega)
end
end L2
namespace L2
open PySem PySem.Spec PyProof.Rows
def isStar:Expr->Bool
 | .Starred _ _=>true
 | _=>false
def noStar(es:List Expr):Bool:=es.all fun e=>!isStar e
theorem j20(e:Expr)(es:List Expr)(env:Env)(h:isStar e=false):starEach (e :: es) env=(false,eval e env) :: starEach es env:=by
 cases e <;> first | rfl | (exact absurd h (by simp [isStar]))
theorem j5g(pos:Pos)(env:Env):∀ es:List Expr,noStar es=true->(backTo pos (starEach es env)).any (·.1)=false
 | [],_=>rfl
 | e :: es,h=>by
  have h':(!isStar e)=true/\noStar es=true:=by
   have:=h;unfold noStar at this ⊢;rw [Fm,Bh] at this;exact this
  have hs:isStar e=false:=by
   have:=h'.1;cases q:isStar e with
   | true=>rw [q] at this;cases this
   | false=>rfl
  rw [j20 e es env hs];show(false || (backTo pos (starEach es env)).any (·.1))=false;rw [j5g pos env es h'.2];rfl
theorem j19{e:Expr}{es:List Expr}(h:noStar (e :: es)=true):isStar e=false/\noStar es=true:=by
 unfold noStar at h ⊢;rw [Fm,Bh] at h;refine⟨?_,h.2⟩;cases q:isStar e with
 | true=>rw [q] at h;cases h.1
 | false=>rfl
section
variable{X:Cx}{CX:CXT}{k:Nat}{f C:Addr}{fd:FuncData}{ps:List Str}{sp:Sp}{dvs:List V}{ds:List Value}{E:XK}{x m:Str}{p pos apos:Pos}{e o:Expr}{es:List Expr}{ta te:TE}{t:TA}{id T:String}{r:List V->Hp->VK->Prop}
theorem pac(ha:PE X e te)(hr:PA X es t)(hs:isStar e=false:=by rfl):PA X (e :: es) (q2f te t):=q04 ha hr (j20 _ _ _ hs)
theorem q49(F:FnOk X.prog X.w X.K X.mg X.base CX k f fd ps sp)(hr:Room k X.A)(hm:X.mg x=some (.ref f))(hk:PySem.W.keepIn X.K (.ref f)=true)(hb:Binds X.K fd ps [])(hx:j44 CX X E)
  (ha:PA X (e :: es) t) (hg:Gl X x:=by rfl) (hdb:(x == ("__debug__" : Str))=false:=by decide) (hs:noStar (e :: es)=true:=by rfl):PE X (.Call (.Name x p) (e :: es) [] pos) (q3i sp [] E t):=
 k93 F hr hg hm hk hb .nil hx ha hdb (j20 _ _ _ (j19 hs).1) (j5g _ _ _ (j19 hs).2)
theorem pblt(hc:j2s X (.builtin id) r)(hm:X.mg x=none)(hv:bootBuiltins x=some (.builtin id))(ha:PA X (e :: es) t)(hg:Gl X x:=by rfl)(hn:x ≠ "__name__":=by decide)(hdb:(x == ("__debug__" : Str))=false:=by decide)
  (hs:noStar (e :: es)=true:=by rfl):PE X (.Call (.Name x p) (e :: es) [] pos) (tCB r t):=
 k69 hc hg hm hv ha hn hdb (j20 _ _ _ (j19 hs).1) (j5g _ _ _ (j19 hs).2)
theorem ptyp(hc:j2s X (.type T) r)(hm:X.mg x=none)(hv:bootBuiltins x=some (.type T))(ha:PA X (e :: es) t)(hg:Gl X x:=by rfl)(hn:x ≠ "__name__":=by decide)(hdb:(x == ("__debug__" : Str))=false:=by decide)
  (hs:noStar (e :: es)=true:=by rfl):PE X (.Call (.Name x p) (e :: es) [] pos) (tCB r t):=
 k5u hc hg hm hv ha hn hdb (j20 _ _ _ (j19 hs).1) (j5g _ _ _ (j19 hs).2)
end
end L2
namespace L2
open PySem PySem.Spec PyProof.Rows
structure Ev(X:Cx)(e:Expr)(σ:St)(H:Hp)(Q:VK):Prop where
 run:∀(pins:List (Addr×Obj)) (s:Shared),Inv X pins σ H s->wpAny (model X.prog X.w) X.A (eval e X.env) (EP X pins σ Q) X.xe s
structure Et(X:Cx)(e:Expr)(σ:St)(H:Hp)(Q:Bool->Hp->Prop):Prop where
 run:∀(pins:List (Addr×Obj)) (s:Shared),Inv X pins σ H s->wpAny (model X.prog X.w) X.A (isTrue e X.env (eval e X.env)) (TP X pins σ Q) X.xe s
structure Ew(X:Cx)(e:Expr)(σ:St)(H:Hp)(Q:Bool->Hp->Prop):Prop where
 run:∀(whole:Sem Value) (pins:List (Addr×Obj)) (s:Shared),Inv X pins σ H s->wpAny (model X.prog X.w) X.A (isTrue e X.env whole) (TP X pins σ Q) X.xe s
structure Ea(X:Cx)(es:List Expr)(σ:St)(H:Hp)(Q:List V->Hp->Prop):Prop where
 run:∀(pos:Pos) (pins:List (Addr×Obj)) (s:Shared),Inv X pins σ H s->wpAny (model X.prog X.w) X.A (spliced (backTo pos (starEach es X.env))) (AP X pins σ Q) X.xe s
structure Eo(X:Cx)(e:Option Expr)(σ:St)(H:Hp)(Q:Option Int->Hp->Prop):Prop where
 run:∀(pins:List (Addr×Obj)) (s:Shared),Inv X pins σ H s->wpAny (model X.prog X.w) X.A (evalPart e X.env) (fun u s'=>∃ o H',Inv X pins σ H' s'/\IsPart u o/\Q o H') X.xe s
structure Eg(X:Cx)(e:Expr)(v:V)(σ:St)(H:Hp)(Q:St->Hp->Prop):Prop where
 run:∀(pins:List (Addr×Obj)) (s:Shared) (u:Value),Inv X pins σ H s->RelV v u->wpAny (model X.prog X.w) X.A (assign e X.env u) (fun _ s'=>∃ σ' H',Inv X pins σ' H' s'/\Q σ' H') X.xe s
structure Run(X:Cx)(l:List Stmt)(D:Ends)(σ:St)(H:Hp):Prop where
 run:∀(pins:List (Addr×Obj)) (s:Shared),Inv X pins σ H s->wpAny (model X.prog X.w) X.A (execs l X.env) (SP X pins D) X.xe s
def tEv(X:Cx)(e:Expr):TE:=fun σ H Q=>Ev X e σ H Q
def tEt(X:Cx)(e:Expr):TT:=fun σ H Q=>Et X e σ H Q
def tEw(X:Cx)(e:Expr):TT:=fun σ H Q=>Ew X e σ H Q
def tEa(X:Cx)(es:List Expr):TA:=fun σ H Q=>Ea X es σ H Q
def tEo(X:Cx)(e:Option Expr):TO:=fun σ H Q=>Eo X e σ H Q
def tEg(X:Cx)(e:Expr):TG:=fun v σ H Q=>Eg X e v σ H Q
def tRun(X:Cx)(l:List Stmt):TS:=fun D σ H=>Run X l D σ H
section
variable{X:Cx}{e a b c o:Expr}{es:List Expr}{st:Stmt}{rest body els:List Stmt}{σ:St}{H:Hp}{Q:VK}{T:Bool->Hp->Prop}{L:List V->Hp->Prop}{D:Ends}{pos p p2:Pos}
theorem j02:PE X e (tEv X e):=fun pins s _ _ _ I h=>h.run pins s I
theorem j83:PT X e (tEt X e):=fun pins s _ _ _ I h=>h.run pins s I
theorem q2m:PW X e (tEw X e):=fun wh pins s _ _ _ I h=>h.run wh pins s I
theorem j4o:PA X es (tEa X es):=fun pos pins s _ _ _ I h=>h.run pos pins s I
theorem q27{e:Option Expr}:PO X e (tEo X e):=fun pins s _ _ _ I h=>h.run pins s I
theorem k6p:PG X e (tEg X e):=fun pins s _ _ _ u _ I r h=>h.run pins s u I r
theorem j4b{l:List Stmt}:PSs X l (tRun X l):=fun pins s _ _ _ I h=>h.run pins s I
theorem j12{t:TE}(h1:PE X e t)(h2:t σ H Q):Ev X e σ H Q:=⟨fun pins s I=>h1 pins s σ H Q I h2⟩
theorem k2a{t:TT}(h1:PT X e t)(h2:t σ H T):Et X e σ H T:=⟨fun pins s I=>h1 pins s σ H T I h2⟩
theorem k6q{t:TT}(h1:PW X e t)(h2:t σ H T):Ew X e σ H T:=⟨fun wh pins s I=>h1 wh pins s σ H T I h2⟩
theorem q29{t:TA}(h1:PA X es t)(h2:t σ H L):Ea X es σ H L:=⟨fun pos pins s I=>h1 pos pins s σ H L I h2⟩
theorem q2u{e:Option Expr}{t:TO}{R:Option Int->Hp->Prop}(h1:PO X e t)(h2:t σ H R):Eo X e σ H R:=⟨fun pins s I=>h1 pins s σ H R I h2⟩
theorem q3y{t:TG}{v:V}{R:St->Hp->Prop}(h1:PG X e t)(h2:t v σ H R):Eg X e v σ H R:=⟨fun pins s u I r=>h1 pins s σ H v u R I r h2⟩
theorem j1w{t:TS}(h1:PS X st t)(h2:t {D with nx:=fun σ' H'=>Run X rest D σ' H'} σ H):Run X (st :: rest) D σ H:=⟨fun pins s I=>k7g h1 j4b pins s σ H D I h2⟩
theorem j0j(h:D.nx σ H):Run X [] D σ H:=⟨fun pins s I=>k4i pins s σ H D I h⟩
theorem Ev.mono{Q':VK}(h:Ev X e σ H Q)(f:∀ v H',Q v H'->Q' v H'):Ev X e σ H Q':=⟨fun pins s I=>thn (h.run pins s I) fun _ _ ⟨v,H',I',r,q⟩=>⟨v,H',I',r,f v H' q⟩⟩
theorem Et.mono{T':Bool->Hp->Prop}(h:Et X e σ H T)(f:∀ v H',T v H'->T' v H'):Et X e σ H T':=⟨fun pins s I=>thn (h.run pins s I) fun v _ ⟨H',I',q⟩=>⟨H',I',f v H' q⟩⟩
theorem Ea.mono{L':List V->Hp->Prop}(h:Ea X es σ H L)(f:∀ v H',L v H'->L' v H'):Ea X es σ H L':=⟨fun pos pins s I=>thn (h.run pos pins s I) fun _ _ ⟨v,H',I',r,q⟩=>⟨v,H',I',r,f v H' q⟩⟩
theorem ev_v(i:Nat){x:Str}{v:V}(h:Q v H)(hv:σ[i]?=some (some v):=by rfl)(hN:X.N[i]?=some x:=by rfl)(hs:Vis X.env.scope x:=by first | exact Or.inl rfl | exact Or.inr (Or.inl rfl) | exact Or.inr (Or.inr rfl))(hd:(x == ("__debug__" : Str))=false:=by decide)
  (hcd:(x == ("__classdict__" : Str))=false:=by decide):Ev X (.Name x p) σ H Q:=j12 (q3z (i:=i) hN hs hd hcd) ⟨v,hv,h⟩
theorem j0d{i:Int}{j:Nat}(h:Q (.int i) H):Ev X (.Constant (.int i) j p) σ H Q:=j12 (q19) h
theorem k1w{i:Bool}{j:Nat}(h:Q (.bl i) H):Ev X (.Constant (.bool i) j p) σ H Q:=j12 (q45) h
theorem j3n{j:Nat}(h:Q .non H):Ev X (.Constant .none j p) σ H Q:=j12 (q32) h
theorem j04{i:Str}{j:Nat}(h:Q (.str i) H):Ev X (.Constant (.str i) j p) σ H Q:=j12 (q4a) h
theorem j7r{x:Str}{v:V}{u:Value}(hm:X.mg x=some u)(r:RelV v u)(h:Q v H)(hg:Gl X x:=by rfl)(hd:(x == ("__debug__" : Str))=false:=by decide):Ev X (.Name x p) σ H Q:=j12 (q0q hg hm r hd) h
theorem j4w{x:Str}(v:V){u:Value}(hm:X.mg x=none)(hv:bootBuiltins x=some u)(r:RelV v u)(h:Q v H)(hg:Gl X x:=by rfl)(hn:x ≠ "__name__":=by decide)(hd:(x == ("__debug__" : Str))=false:=by decide):Ev X (.Name x p) σ H Q:=j12 (q0m hg hm hv r hn hd) h
theorem j0m{op:Operator}{r:R2}(ho:OpR X (binaryOp op) r)(h:Ev X a σ H fun x H1=>Ev X b σ H1 fun y H2=>r x y H2 Q):Ev X (.BinOp a op b pos) σ H Q:=j12 (q5d ho j02 j02) h
theorem q5b{op:UnaryOp}{r:V->Hp->VK->Prop}(ho:UnR X (unaryOp op) r)(h:Ev X a σ H fun x H1=>r x H1 Q):Ev X (.UnaryOp op a pos) σ H Q:=j12 (q4v ho j02) h
theorem j33{op:CmpOp}{r:R2}(ho:OpR X (compareOp op) r)(h:Ev X a σ H fun x H1=>Ev X b σ H1 fun y H2=>r x y H2 Q)(hm:behindInMarks op b=false:=by with_unfolding_all rfl):Ev X (.Compare a [op] [b] pos) σ H Q:=j12 (k9q ho j02 j02 hm) h
theorem k78{op op':CmpOp}{r r':R2}(ho:OpR X (compareOp op) r)(ho':OpR X (compareOp op') r')(h:Ev X a σ H fun x H1=>Ev X b σ H1 fun y H2=>r x y H2 fun z H3=>∃ k,z = .bl k/\(if k=true then Ev X c σ H3 fun w' H4=>r' y w' H4 Q else Q (.bl false) H3))
  (hm:lastMarks [op,op'] [b,c]=false:=by with_unfolding_all rfl):Ev X (.Compare a [op,op'] [b,c] pos) σ H Q:=j12 (k7b ho ho' j02 j02 j02 hm) h
theorem k29(h:Ev X a σ H fun x H1=>∃ k,x = .bl k/\if k=true then Ev X (.BoolOp .And (b :: es) pos) σ H1 Q else Q (.bl false) H1):Ev X (.BoolOp .And (a :: b :: es) pos) σ H Q:=j12 (q3m j02 j02) h
theorem q4j(h:Ev X a σ H fun x H1=>∃ k,x = .bl k/\if k=true then Q (.bl true) H1 else Ev X (.BoolOp .Or (b :: es) pos) σ H1 Q):Ev X (.BoolOp .Or (a :: b :: es) pos) σ H Q:=j12 (q4s j02 j02) h
theorem j6i{op:BoolOp}(h:Ev X a σ H Q):Ev X (.BoolOp op [a] pos) σ H Q:=j12 (q26 j02) h
theorem j0o{r:R2}(hr:IxR X r)(h:Ev X a σ H fun x H1=>Ev X b σ H1 fun y H2=>r x y H2 Q)(hs:k5n b:=by intro _ _;rfl):Ev X (.Subscript a b pos) σ H Q:=j12 (q4l hr j02 j02 hs) h
theorem j7o{r:V->Option Int->Option Int->Hp->VK->Prop}{lo hi:Option Expr}(hr:SlR X r)(h:Ev X a σ H fun x H1=>Eo X lo σ H1 fun l H2=>Eo X hi σ H2 fun u H3=>r x l u H3 Q):Ev X (.Subscript a (.Slice lo hi none p2) pos) σ H Q:=j12 (k7s hr j02 q27 q27) h
theorem j9x{R:Option Int->Hp->Prop}(h:R none H):Eo X none σ H R:=q2u (k86) h
theorem j9s{R:Option Int->Hp->Prop}(h:Ev X a σ H fun x H1=>∃ i,x = .int i/\R (some i) H1):Eo X (some a) σ H R:=q2u (k91 j02) h
theorem j0c(h:L [] H):Ea X [] σ H L:=q29 (q1n) h
theorem j0a(h:Ev X e σ H fun x H1=>Ea X es σ H1 fun xs H2=>L (x :: xs) H2)(hs:isStar e=false:=by rfl):Ea X (e :: es) σ H L:=q29 (pac j02 j4o hs) h
theorem j1b{k:Nat}(h:Ea X es σ H fun xs H1=>xs.length<=sizeLine/\∀ p,H1 p=none->Q (.ref p) (upd H1 p (.tup xs))):Ev X (.Tuple es k pos) σ H Q:=j12 (q1m j4o) h
theorem j1f(h:Ea X es σ H fun xs H1=>xs.length<=sizeLine/\∀ p,H1 p=none->Q (.ref p) (upd H1 p (.lst xs))):Ev X (.List es pos) σ H Q:=j12 (q1r j4o) h
theorem k3t{CX:CXT}{k:Nat}{f:Addr}{fd:FuncData}{ps:List Str}{sp:Sp}{E:XK}{x:Str}(F:FnOk X.prog X.w X.K X.mg X.base CX k f fd ps sp)(hr:Room k X.A)(hm:X.mg x=some (.ref f))(hk:PySem.W.keepIn X.K (.ref f)=true)(hb:Binds X.K fd ps [])(hx:j44 CX X E)
  (h:Ea X (e :: es) σ H fun vs H1=>sp vs H1 Q E) (hg:Gl X x:=by rfl) (hdb:(x == ("__debug__" : Str))=false:=by decide) (hs:noStar (e :: es)=true:=by rfl):Ev X (.Call (.Name x p) (e :: es) [] pos) σ H Q:=
 j12 (q49 F hr hm hk hb hx j4o hg hdb hs) (show Ea X (e :: es) σ H _ from h.mono fun vs H1 q=>by rw [Bk];exact q)
theorem j0u{id:String}{r:List V->Hp->VK->Prop}{x:Str}(hc:j2s X (.builtin id) r)(hm:X.mg x=none)(hv:bootBuiltins x=some (.builtin id))(h:Ea X (e :: es) σ H fun vs H1=>r vs H1 Q)(hg:Gl X x:=by rfl)(hn:x ≠ "__name__":=by decide)(hdb:(x == ("__debug__" : Str))=false:=by decide)
  (hs:noStar (e :: es)=true:=by rfl):Ev X (.Call (.Name x p) (e :: es) [] pos) σ H Q:=j12 (pblt hc hm hv j4o hg hn hdb hs) h
theorem j48{T:String}{r:List V->Hp->VK->Prop}{x:Str}(hc:j2s X (.type T) r)(hm:X.mg x=none)(hv:bootBuiltins x=some (.type T))(h:Ea X (e :: es) σ H fun vs H1=>r vs H1 Q)(hg:Gl X x:=by rfl)(hn:x ≠ "__name__":=by decide)(hdb:(x == ("__debug__" : Str))=false:=by decide)
  (hs:noStar (e :: es)=true:=by rfl):Ev X (.Call (.Name x p) (e :: es) [] pos) σ H Q:=j12 (ptyp hc hm hv j4o hg hn hdb hs) h
theorem j0v{op:CmpOp}{r:R2}(ho:OpR X (compareOp op) r)(h:Ev X a σ H fun x H1=>Ev X b σ H1 fun y H2=>r x y H2 fun z H3=>∃ k,z = .bl k/\T k H3)(hm:behindInMarks op b=false:=by with_unfolding_all rfl):Et X (.Compare a [op] [b] pos) σ H T:=k2a (q1e ho j02 j02 hm) h
theorem j25(h:Et X a σ H fun k H1=>T (!k) H1):Et X (.UnaryOp .Not a pos) σ H T:=k2a (q3k j83) h
theorem j24(h:Ev X e σ H fun x H1=>∃ k,x = .bl k/\T k H1)(he:∀ whole,isTrue e X.env whole=(do let v <- whole;standAt e.pos;holding [v] (truthy v)):=by intro _;rfl):Et X e σ H T:=k2a (q39 j02 he) h
theorem k79(h:Ev X e σ H fun x H1=>∃ k,TruV X.K x H1 k/\T k H1)(he:∀ whole,isTrue e X.env whole=(do let v <- whole;standAt e.pos;holding [v] (truthy v)):=by intro _;rfl):Et X e σ H T:=k2a (k6u j02 he) h
theorem j1k(h:Ew X e σ H T):Et X e σ H T:=⟨fun pins s I=>h.run _ pins s I⟩
theorem j8t(h:Et X a σ H fun k H1=>if k=true then Ew X (.BoolOp .And (b :: es) pos) σ H1 T else T false H1):Ew X (.BoolOp .And (a :: b :: es) pos) σ H T:=k6q (q3a j83 q2m) h
theorem j3l(h:Et X a σ H fun k H1=>if k=true then T true H1 else Ew X (.BoolOp .Or (b :: es) pos) σ H1 T):Ew X (.BoolOp .Or (a :: b :: es) pos) σ H T:=k6q (q5r j83 q2m) h
theorem j7y(h:Et X a σ H T):Ew X (.BoolOp .And [a] pos) σ H T:=k6q (k9f j83) h
theorem j3g(h:Et X a σ H T):Ew X (.BoolOp .Or [a] pos) σ H T:=k6q (q35 j83) h
theorem j0n(i:Nat){x:Str}{v:V}{R:St->Hp->Prop}(hN:X.N.Nodup)(h:R (σ.set i (some v)) H)(hi:X.N[i]?=some x:=by rfl)(hx:Loc X.env.scope x:=by first | exact Or.inl rfl | exact Or.inr rfl)(hf:X.fn x=true\/X.env.scope.names.lookup x=some .local:=by first | exact .inl rfl | exact .inr rfl | assumption):Eg X (.Name x p) v σ H R:=q3y (k9g hN hi hx hf) h
theorem j0i(i:Nat){x:Str}{pos':Pos}(hN:X.N.Nodup)(h:Ev X e σ H fun v H1=>Run X rest D (σ.set i (some v)) H1)(hi:X.N[i]?=some x:=by rfl)(hx:Loc X.env.scope x:=by first | exact Or.inl rfl | exact Or.inr rfl)(hs:swapsWith e (some (.Name x pos')) pos.line X.env=pure false:=by rfl)
  (hf:X.fn x=true\/X.env.scope.names.lookup x=some .local:=by first | exact .inl rfl | exact .inr rfl | assumption):Run X (.Assign [.Name x pos'] e pos :: rest) D σ H:=j1w (q1o hN hi hx j02 hs hf) h
theorem j1g(h:Et X c σ H fun k H1=>if k=true then Run X body {D with nx:=fun σ' H'=>Run X rest D σ' H'} σ H1 else Run X els {D with nx:=fun σ' H'=>Run X rest D σ' H'} σ H1):Run X (.If c body els pos :: rest) D σ H:=j1w (q4x j83 j4b j4b) h
theorem j4c(φ ψ:Prop)(hc:∀ T:Bool->Hp->Prop,(∀ k:Bool,(k=true->φ)->(k=false->ψ)->T k H)->Et X c σ H T)(ht:φ->Run X body {D with nx:=fun σ' H'=>Run X rest D σ' H'} σ H)(hu:ψ->Run X els {D with nx:=fun σ' H'=>Run X rest D σ' H'} σ H):Run X (.If c body els pos :: rest) D σ H:=
 j1g (hc _ fun k p q=>by
  cases k with
  | true=>rw [if_pos rfl];exact ht (p rfl)
  | false=>rw [if_neg Ak];exact hu (q rfl))
theorem j0l(h:Ev X e σ H D.rt):Run X (.Return (some e) pos :: rest) D σ H:=j1w (q1s j02) h
theorem j0z(h:Ev X e σ H fun _ H1=>Run X rest D σ H1)(hs:swapsWith e none pos.line X.env=pure false:=by rfl):Run X (.Expr e pos :: rest) D σ H:=j1w (q0e j02 hs) h
theorem k4q{tg:Expr}(h:Ev X e σ H fun v H1=>Eg X tg v σ H1 fun σ' H'=>Run X rest D σ' H')(hs:swapsWithSole [tg] e pos.line X.env=pure false:=by rfl)(hw:swappedStores [tg] e X.env=pure none:=by rfl)
  (h1:(assignEach [tg] X.env).map (·.2)=[assign tg X.env]:=by rfl):Run X (.Assign [tg] e pos :: rest) D σ H:=j1w (q2w j02 k6p hs hw h1) h
def Loop(X:Cx)(tg:Expr)(body:List Stmt)(J:It)(D:Ends)(after:St->Hp->Prop)(σ:St)(H:Hp):Prop:=
 ∃ W:Nat->Nat->St->Hp->Prop,(∃ m,W 0 m σ H)/\∀ i m σ H,W i m σ H->(J.stop i H/\after σ H)\/(J.go i H/\∃ N:St->Hp->Prop,(∀ σ' H',N σ' H'->∃ m',m' < m/\W (i+1) m' σ' H') /\
  ∀ x H',J.yld i H x H'->Eg X tg x σ H' fun σ2 H2=>Run X body {D with nx:=N,ct:=N,bk:=after} σ2 H2)
theorem j7c{tg iter:Expr}{wi:TI}(hi:PI X tg iter wi)(h:wi σ H fun J H1=>Loop X tg body J D (fun σ' H'=>Run X rest D σ' H') σ H1)(hp:PassesOwn (model X.prog X.w) X.A X.env X.xe:=by exact PassesOwn.never)(hc:X.calm=true:=by rfl)
  (hs:∀ x,foldedSetIterable iter X.env x=pure x:=by intro _;rfl):Run X (.For tg iter body [] pos :: rest) D σ H:=j1w (q3g hp hc hi k6p j4b hs) h
theorem j1i{tg:Expr}{q:Pos}(hm:X.mg "range" = none)(h:Ev X a σ H fun x H1=>∃ j:Int,x = .int j/\-(2 ^ 62)<=j/\j < 2 ^ 62/\Loop X tg body (Itr 0 j.toNat) D (fun σ' H'=>Run X rest D σ' H') σ H1)(hg:Gl X "range":=by rfl)(hp:PassesOwn (model X.prog X.w) X.A X.env X.xe:=by exact PassesOwn.never)(hc:X.calm=true:=by rfl)(hs:isStar a=false:=by rfl) :
  Run X (.For tg (.Call (.Name "range" q) [a] [] p) body [] pos :: rest) D σ H:=
 j7c (wi:=q4c (tEa X [a])) (j6f hg hm j4o (j20 a [] _ hs)) (show Ea X [a] σ H _ from j0a (h.mono fun x H1 ⟨j,e,h1,h2,h3⟩=>j0c ⟨j,by rw [e],h1,h2,h3⟩) hs) hp hc (by intro _;rfl)
theorem j13{tg iter:Expr}(h:Ev X iter σ H fun x H1=>∃ a,x = .ref a/\(∃ xs,SqL X.K H1 a xs)/\Loop X tg body (Itl X.K a) D (fun σ' H'=>Run X rest D σ' H') σ H1)(hp:PassesOwn (model X.prog X.w) X.A X.env X.xe:=by exact PassesOwn.never)(hc:X.calm=true:=by rfl)
  (hs:∀ x,foldedSetIterable iter X.env x=pure x:=by intro _;rfl):Run X (.For tg iter body [] pos :: rest) D σ H:=j7c (j22 j02) h hp hc hs
theorem k7o{tg iter:Expr}(h:Ev X iter σ H fun x H1=>∃ z,x = .str z/\Loop X tg body (Its z) D (fun σ' H'=>Run X rest D σ' H') σ H1)(hp:PassesOwn (model X.prog X.w) X.A X.env X.xe:=by exact PassesOwn.never)(hc:X.calm=true:=by rfl)
  (hs:∀ x,foldedSetIterable iter X.env x=pure x:=by intro _;rfl):Run X (.For tg iter body [] pos :: rest) D σ H:=j7c (k8k j02) h hp hc hs
theorem j1a{tg:Expr}{lo:Int}{n:Nat}{after:St->Hp->Prop}(Pv:Nat->St->Hp->Prop)(h0:Pv 0 σ H)
  (hs:∀ i σ H,i < n->Pv i σ H->Eg X tg (.int (lo+i)) σ H fun σ2 H2=>Run X body {D with nx:=Pv (i+1),ct:=Pv (i+1),bk:=after} σ2 H2) (hd:∀ σ H,Pv n σ H->after σ H):Loop X tg body (Itr lo n) D after σ H:=by
 refine⟨fun i m σ H=>m=n - i/\i<=n/\Pv i σ H,⟨n,by simp,Bi _,h0⟩,?_⟩;rintro i m σ H ⟨rfl,hi,p⟩
 by_cases hlt:i < n
 ·refine .inr ⟨hlt,Pv (i+1),fun σ' H' p'=>⟨n - (i+1),by omega,rfl,hlt,p'⟩,fun x H' y=>?_⟩;obtain⟨e,y⟩:=y;subst e y;exact hs i σ _ hlt p
 ·have e:i=n:=by omega
  subst e;exact .inl ⟨Ag _,hd σ H p⟩
theorem q4d{tg:Expr}{at_:Addr}{xs:List V}{after:St->Hp->Prop}(Pv:Nat->St->Hp->Prop)(h0:Pv 0 σ H)(hl:∀ i σ H,i<=xs.length->Pv i σ H->SqT X.K H at_ xs)
  (hs:∀ i x σ H,xs[i]?=some x->Pv i σ H->Eg X tg x σ H fun σ2 H2=>Run X body {D with nx:=Pv (i+1),ct:=Pv (i+1),bk:=after} σ2 H2) (hd:∀ σ H,Pv xs.length σ H->after σ H):Loop X tg body (Itt X.K at_) D after σ H:=by
 refine⟨fun i m σ H=>m=xs.length - i/\i<=xs.length/\Pv i σ H,⟨xs.length,by simp,Bi _,h0⟩,?_⟩;rintro i m σ H ⟨rfl,hi,p⟩;have q:=hl i σ H hi p
 by_cases hlt:i < xs.length
 ·refine .inr ⟨⟨xs,xs[i],q,by simp [hlt]⟩,Pv (i+1),fun σ' H' p'=>⟨xs.length - (i+1),by omega,rfl,hlt,p'⟩,fun x H' y=>?_⟩;obtain⟨e,y⟩:=y;subst e;exact hs i x σ _ (y xs q) p
 ·have e:i=xs.length:=by omega
  subst e;exact .inl ⟨⟨xs,q,Ag _⟩,hd σ H p⟩
theorem j1o{tg:Expr}{at_:Addr}{xs:List V}{after:St->Hp->Prop}(Pv:Nat->St->Hp->Prop)(h0:Pv 0 σ H)(hl:∀ i σ H,i<=xs.length->Pv i σ H->SqL X.K H at_ xs)
  (hs:∀ i x σ H,xs[i]?=some x->Pv i σ H->Eg X tg x σ H fun σ2 H2=>Run X body {D with nx:=Pv (i+1),ct:=Pv (i+1),bk:=after} σ2 H2) (hd:∀ σ H,Pv xs.length σ H->after σ H):Loop X tg body (Itl X.K at_) D after σ H:=by
 refine⟨fun i m σ H=>m=xs.length - i/\i<=xs.length/\Pv i σ H,⟨xs.length,by simp,Bi _,h0⟩,?_⟩;rintro i m σ H ⟨rfl,hi,p⟩;have q:=hl i σ H hi p
 by_cases hlt:i < xs.length
 ·refine .inr ⟨⟨xs,xs[i],q,by simp [hlt]⟩,Pv (i+1),fun σ' H' p'=>⟨xs.length - (i+1),by omega,rfl,hlt,p'⟩,fun x H' y=>?_⟩;obtain⟨e,y⟩:=y;subst e;exact hs i x σ _ (y xs q) p
 ·have e:i=xs.length:=by omega
  subst e;exact .inl ⟨⟨xs,q,Ag _⟩,hd σ H p⟩
theorem k6f{tg:Expr}{z:Str}{after:St->Hp->Prop}(Pv:Nat->St->Hp->Prop)(h0:Pv 0 σ H)
  (hs:∀ i c σ H,z.cps[i]?=some c->Pv i σ H->Eg X tg (.str ⟨#[c]⟩) σ H fun σ2 H2=>Run X body {D with nx:=Pv (i+1),ct:=Pv (i+1),bk:=after} σ2 H2) (hd:∀ σ H,Pv z.cps.size σ H->after σ H):Loop X tg body (Its z) D after σ H:=by
 refine⟨fun i m σ H=>m=z.cps.size - i/\i<=z.cps.size/\Pv i σ H,⟨z.cps.size,by simp,Bi _,h0⟩,?_⟩;rintro i m σ H ⟨rfl,hi,p⟩
 by_cases hlt:i < z.cps.size
 ·refine .inr ⟨hlt,Pv (i+1),fun σ' H' p'=>⟨z.cps.size - (i+1),by omega,rfl,hlt,p'⟩,fun x H' y=>?_⟩;obtain⟨e,c,hc,y⟩:=y;subst e y;exact hs i c σ _ hc p
 ·have e:i=z.cps.size:=by omega
  subst e;exact .inl ⟨Ag _,hd σ H p⟩
theorem Fun.go{P:Program}{w:World}{K:PySem.W.Frag}{mg:Str->Option Value}{base:Heap}{x qual:Str}{st:Stmt}{f:Addr}{fd:FuncData}{N ps:List Str}{k:Nat}{sp:Sp}(F:Fun K x qual st f fd)(S:FnScope N ps (j0f st))(len:∀ vs H Q E,sp vs H Q E->vs.length=ps.length)
  (hbody : ∀ (cdv : Value) (A : Around) (outer : List Env) (s : Shared) (H : Hp) (vs : List V) (Q : VK) (E : XK), Room k (A.deeper (envOfC qual (j0f st) s.heap.objs.size f cdv)) → sp vs H Q E →
   Run (cxOf CX0 P w K mg base N qual (j0f st) f cdv A outer s H E).nox (j1v st) {nx:=fun _ H'=>Q .non H',rt:=Q} (start N vs) H):FnOk P w K mg base CX0 (k+1) f fd ps sp:=
 F.ok S len fun cdv A outer s H vs Q E hr hsp=>⟨_,j4b,hbody cdv A outer s H vs Q E hr hsp⟩
end
end L2
namespace L2
open PySem PySem.Spec PyProof.Rows
structure Ei(X:Cx)(ifs:List Expr)(σ:St)(H:Hp)(Q:Bool->Hp->Prop):Prop where
 run:∀(pins:List (Addr×Obj)) (s:Shared),Inv X pins σ H s ->
  wpAny (model X.prog X.w) X.A (forIn ifs true fun c r=>if r=true then do let ok <- isTrue c X.env (eval c X.env);pure (ForInStep.yield ok) else pure (ForInStep.yield r)) (TP X pins σ Q) X.xe s
def CEv(X:Cx)(N':List Str)(scope:Scope)(e:Expr)(σ:St)(H:Hp)(Q:VK):Prop:=∀ cl C s₀ H₀ ex,Ev (j01 X N' scope cl C s₀ H₀ ex) e σ H Q
def CEg(X:Cx)(N':List Str)(scope:Scope)(e:Expr)(v:V)(σ:St)(H:Hp)(Q:St->Hp->Prop):Prop:=∀ cl C s₀ H₀ ex,Eg (j01 X N' scope cl C s₀ H₀ ex) e v σ H Q
def CEi(X:Cx)(N':List Str)(scope:Scope)(ifs:List Expr)(σ:St)(H:Hp)(Q:Bool->Hp->Prop):Prop:=∀ cl C s₀ H₀ ex,Ei (j01 X N' scope cl C s₀ H₀ ex) ifs σ H Q
def j9v(X:Cx)(N':List Str)(scope:Scope)(tg:Expr)(ifs:List Expr)(elt:Expr)(J:It)(D:Addr)(after:Hp->Prop)(σ:St)(H:Hp):Prop:=
 ∃ W:Nat->Nat->St->Hp->Prop,(∃ m,W 0 m σ H)/\∀ i m σ' H',W i m σ' H' ->
  (J.stop i H' ∧ after H') ∨ (J.go i H' ∧ ∃ N : St → Hp → Prop, (∀ σ' H', N σ' H' → ∃ m', m' < m ∧ W (i + 1) m' σ' H') ∧ ∀ x H2, J.yld i H' x H2 → CEg X N' scope tg x σ' H2 fun σ2 H3 => CEi X N' scope ifs σ2 H3 fun b H4 =>
   if b=true then CEv X N' scope elt σ2 H4 fun v H5=>∃ ys,H5 D=some (.lst ys)/\ys.length < sizeLine/\N σ2 (upd H5 D (.lst (ys++[v]))) else N σ2 H4)
section
variable{X:Cx}{elt tg iter c:Expr}{ifs:List Expr}{scope:Scope}{pos p:Pos}{wi:TI}{σ:St}{H:Hp}{Q:VK}{T:Bool->Hp->Prop}{rest:List Stmt}{D:Ends}
theorem j3c(h:T true H):Ei X [] σ H T:=⟨fun pins s I=>k9p pins s σ H T I h⟩
theorem k8y(h:Et X c σ H T):Ei X [c] σ H T:=⟨fun pins s I=>k9x j83 pins s σ H T I h⟩
theorem j5q(sc:Scope)(N N':List Str)(n:Nat)(hi:PI X tg iter wi)
  (h:wi σ H fun J H1=>∀ D,H1 D=none->j9v X N' scope tg ifs elt J D (fun H'=>Q (.ref D) H') (σ++List.replicate n none) (upd H1 D (.lst [])))
  (hc:X.calm=true:=by rfl) (hsc:X.env.scope=sc:=by rfl) (hN:X.N=N:=by rfl) (hk:j3i sc scope N N'=true:=by decide +kernel) (hl:N'.length=N.length+n:=by rfl)
  (hs:∀ x,foldedSetIterable iter X.env x=pure x:=by intro _;rfl):Ev X (.ListComp elt [⟨tg,iter,ifs,0⟩] scope pos) σ H Q:=
 j12 (q0n (g:=fun v σ H Q=>CEg X N' scope tg v σ H Q) (tc:=fun σ H Q=>CEi X N' scope ifs σ H Q) (te:=fun σ H Q=>CEv X N' scope elt σ H Q) sc N N' n hi
  (fun cl C s₀ H₀ ex pins s σ H v u Q I r h=>(h cl C s₀ H₀ ex).run pins s u I r) (fun cl C s₀ H₀ ex pins s σ H Q I h=>(h cl C s₀ H₀ ex).run pins s I) (fun cl C s₀ H₀ ex pins s σ H Q I h=>(h cl C s₀ H₀ ex).run pins s I) hc hsc hN hk hl hs) h
theorem k7a(i:Nat){y:Str}{py spos:Pos}(sc:Scope)(N N':List Str)(n:Nat)(hnd:X.N.Nodup)(hi:PI X tg iter wi)
  (h:wi σ H fun J H1=>∀ A,H1 A=none->j9v X N' scope tg ifs elt J A (fun H'=>Run X rest D (σ.set i (some (.ref A))) H') (σ++List.replicate n none) (upd H1 A (.lst [])))
  (hiN:X.N[i]?=some y:=by rfl) (hy:Loc X.env.scope y:=by first | exact Or.inl rfl | exact Or.inr rfl)
  (hsw:swapsWith (.ListComp elt [⟨tg,iter,ifs,0⟩] scope pos) (some (.Name y py)) spos.line X.env=pure true:=by rfl)
  (hc:X.calm=true:=by rfl) (hsc:X.env.scope=sc:=by rfl) (hN:X.N=N:=by rfl) (hk:j3i sc scope N N'=true:=by decide +kernel) (hl:N'.length=N.length+n:=by rfl)
  (hs:∀ x,foldedSetIterable iter X.env x=pure x:=by intro _;rfl) (hf:X.fn y=true\/X.env.scope.names.lookup y=some .local:=by first | exact .inl rfl | exact .inr rfl | assumption) :
  Run X (.Assign [.Name y py] (.ListComp elt [⟨tg,iter,ifs,0⟩] scope pos) spos :: rest) D σ H:=
 j1w (q07 (g:=fun v σ H Q=>CEg X N' scope tg v σ H Q) (tc:=fun σ H Q=>CEi X N' scope ifs σ H Q) (te:=fun σ H Q=>CEv X N' scope elt σ H Q) sc N N' n hnd hiN hy hi
  (fun cl C s₀ H₀ ex pins s σ H v u Q I r h=>(h cl C s₀ H₀ ex).run pins s u I r) (fun cl C s₀ H₀ ex pins s σ H Q I h=>(h cl C s₀ H₀ ex).run pins s I) (fun cl C s₀ H₀ ex pins s σ H Q I h=>(h cl C s₀ H₀ ex).run pins s I) hsw hc hsc hN hk hl hs hf) h
theorem k23{N':List Str}{x:Str}{z:Str}{A:Addr}{after:Hp->Prop}(f:Nat->V)(hz:z.cps.size < sizeLine)(hg:∀ cl C s₀ H₀ ex v v0 H' R,R (σ++[some v]) H'->Eg (j01 X N' scope cl C s₀ H₀ ex) tg v (σ++[v0]) H' R)
  (he:∀ cl C s₀ H₀ ex c H' R,(∃ j:Nat,z.cps[j]?=some c)->R (f c) H'->Ev (j01 X N' scope cl C s₀ H₀ ex) elt (σ++[some (.str ⟨#[c]⟩)]) H' R) (q:after (upd H A (.lst (z.cps.toList.map f)))) :
  j9v X N' scope tg [] elt (Its z) A after (σ++List.replicate 1 none) (upd H A (.lst [])):=by
 refine⟨fun k m σ' H'=>m=z.cps.size - k/\k<=z.cps.size/\(∃ v,σ'=σ++[v])/\H'=upd H A (.lst ((z.cps.toList.take k).map f)),⟨_,rfl,Bi _,⟨none,rfl⟩,by simp⟩,?_⟩;rintro k m σ' H' ⟨rfl,hk,⟨v,rfl⟩,rfl⟩
 by_cases hlt:k < z.cps.size
 ·refine .inr ⟨hlt,fun σ' H'=>(∃ v,σ'=σ++[v])/\H'=upd H A (.lst ((z.cps.toList.take (k+1)).map f)),fun σ' H' hh=>⟨z.cps.size - (k+1),by omega,rfl,hlt,hh⟩,?_⟩;rintro x H2 ⟨rfl,c,hc,rfl⟩;intro cl C s₀ H₀ ex;refine hg cl C s₀ H₀ ex _ _ _ _ ?_;intro cl C s₀ H₀ ex;refine j3c ?_;rw [if_pos rfl];intro cl C s₀ H₀ ex;refine he cl C s₀ H₀ ex c _ _ ⟨k,hc⟩ ⟨_,j0b,?_,⟨_,rfl⟩,?_⟩
  ·rw [Aa,Bt];have:z.cps.toList.length=z.cps.size:=by simp
   omega
  ·rw [k3d]
   congr 2
   have hc':z.cps.toList[k]?=some c:=by simpa using hc
   rw [Bz,hc',Al];rfl
 ·have e:k=z.cps.size:=by omega
  subst e;refine .inl ⟨Ag _,?_⟩;have e2:z.cps.toList.take z.cps.size=z.cps.toList:=Cw (by simp);rw [e2];exact q
end
end L2
namespace L2
open PySem PySem.Spec PyProof.Rows
structure Has(P:Program)(w:World)(K:PySem.W.Frag)(mg:Str->Option Value)(base:Heap)(k:Nat)(x:Str)(ps:List Str)(sp:Sp):Prop where
 ex:∃ f fd,FnOk P w K mg base CX0 k f fd ps sp/\Binds K fd ps []/\PySem.W.keepIn K (.ref f)=true/\mg x=some (.ref f)
theorem Has.mono{P:Program}{w:World}{K:PySem.W.Frag}{mg:Str->Option Value}{base:Heap}{j k:Nat}{x:Str}{ps:List Str}{sp:Sp}(h:Has P w K mg base j x ps sp)(le:j<=k):Has P w K mg base k x ps sp:=
 let ⟨f,fd,F,r⟩:=h.ex;⟨f,fd,F.mono le,r⟩
theorem j0s{X:Cx}{k:Nat}{ps:List Str}{sp:Sp}{x:Str}{e:Expr}{es:List Expr}{σ:St}{H:Hp}{Q:VK}{p pos:Pos}(G:Has X.prog X.w X.K X.mg X.base k x ps sp)(hr:Room k X.A)
  (h:Ea X (e :: es) σ H fun vs H1=>sp vs H1 Q E0) (hg:Gl X x:=by rfl) (hdb:(x == ("__debug__" : Str))=false:=by decide) (hs:noStar (e :: es)=true:=by rfl):Ev X (.Call (.Name x p) (e :: es) [] pos) σ H Q:=
 let ⟨_,_,F,b,kp,m⟩:=G.ex;k3t F hr m kp b q5q h hg hdb hs
theorem _root_.L2.Room.u100{k:Nat}{A:Around}(hr:Room k A):A.units+100 < cLine:=by have:=hr.un;omega
theorem _root_.L2.Room.u1{k:Nat}{A:Around}(hr:Room k A):A.units+1 < cLine:=by have:=hr.un;omega
def Df(K:PySem.W.Frag)(x:Str)(st:Stmt):Prop:=∃(f:Addr) (fd:FuncData),PySem.W.nsIn K mainGlobals x=some (some (.ref f))/\Fun K x x st f fd
theorem df_mk{K:PySem.W.Frag}{x:Str}{st:Stmt}{f:Addr}{oc kV doc pm cdv ct:Value}{od an:Option Addr}{sl:Array (Option Value)}(a:PySem.W.nsIn K mainGlobals x=some (some (.ref f)))
  (l:K.lookup f=some ⟨oc,od,.func (PySem.W.fnOf x x (j2x st) (j1v st) (j0f st) .none kV doc pm an cdv ct),sl⟩) (c:PySem.W.codeIn K cdv x=true) (k:PySem.W.keepIn K (.ref f)=true):Df K x st:=⟨f,_,a,q33 l c k⟩
structure Bun where
 f:Addr
 cdv:Value
 A:Around
 outer:List Env
 s:Shared
 H:Hp
 E:XK
def cxB(N:List Str)(qual:Str)(scope:Scope)(P:Program)(w:World)(K:PySem.W.Frag)(mg:Str->Option Value)(base:Heap)(b:Bun):Cx:=(cxOf CX0 P w K mg base N qual scope b.f b.cdv b.A b.outer b.s b.H b.E).nox
def En(Q:VK):Ends:={nx:=fun _ H'=>Q .non H',rt:=Q}
theorem Fun.gb{P:Program}{w:World}{K:PySem.W.Frag}{mg:Str->Option Value}{base:Heap}{x qual:Str}{st:Stmt}{f:Addr}{fd:FuncData}{N ps:List Str}{k:Nat}{sp:Sp}(F:Fun K x qual st f fd)(S:FnScope N ps (j0f st))(len:∀ vs H Q E,sp vs H Q E->vs.length=ps.length)
  (hbody:∀(b:Bun) (H:Hp) (vs:List V) (Q:VK) (E:XK),Room k (b.A.deeper (envOfC qual (j0f st) b.s.heap.objs.size b.f b.cdv))->sp vs H Q E->Run (cxB N qual (j0f st) P w K mg base b) (j1v st) (En Q) (start N vs) H):FnOk P w K mg base CX0 (k+1) f fd ps sp:=
 F.go S len fun cdv A outer s H vs Q E hr hsp=>hbody ⟨f,cdv,A,outer,s,H,E⟩ H vs Q E hr hsp
theorem j6o{us:List Value}{k:Nat}(h:us.length=k+1):∃ a r,us=a :: r/\r.length=k:=by
 cases us with
 | nil=>cases h
 | cons a r=>exact⟨a,r,rfl,Nat.succ.inj h⟩
theorem bd1{fd:FuncData}{ps:List Str}(f:∀ a:Value,bindArgs fd ⟨[a],[]⟩=pure (ps.zip [a])):∀ us:List Value,us.length=1->bindArgs fd ⟨us,[]⟩=pure (ps.zip us):=fun us h=>by
 obtain⟨a,r0,e0,h0⟩:=j6o h;have z:=Bg.mp h0;subst z e0;exact f a
theorem bd2{fd:FuncData}{ps:List Str}(f:∀ a b:Value,bindArgs fd ⟨[a,b],[]⟩=pure (ps.zip [a,b])):∀ us:List Value,us.length=2->bindArgs fd ⟨us,[]⟩=pure (ps.zip us):=fun us h=>by
 obtain⟨a,r0,e0,h0⟩:=j6o h;obtain⟨b,r1,e1,h1⟩:=j6o h0;have z:=Bg.mp h1;subst z e1 e0;exact f a b
theorem bd3{fd:FuncData}{ps:List Str}(f:∀ a b c:Value,bindArgs fd ⟨[a,b,c],[]⟩=pure (ps.zip [a,b,c])):∀ us:List Value,us.length=3->bindArgs fd ⟨us,[]⟩=pure (ps.zip us):=fun us h=>by
 obtain⟨a,r0,e0,h0⟩:=j6o h;obtain⟨b,r1,e1,h1⟩:=j6o h0;obtain⟨c,r2,e2,h2⟩:=j6o h1;have z:=Bg.mp h2;subst z e2 e1 e0;exact f a b c
theorem bd4{fd:FuncData}{ps:List Str}(f:∀ a b c d:Value,bindArgs fd ⟨[a,b,c,d],[]⟩=pure (ps.zip [a,b,c,d])):∀ us:List Value,us.length=4->bindArgs fd ⟨us,[]⟩=pure (ps.zip us):=fun us h=>by
 obtain⟨a,r0,e0,h0⟩:=j6o h;obtain⟨b,r1,e1,h1⟩:=j6o h0;obtain⟨c,r2,e2,h2⟩:=j6o h1;obtain⟨d,r3,e3,h3⟩:=j6o h2;have z:=Bg.mp h3;subst z e3 e2 e1 e0;exact f a b c d
theorem Df.has{P:Program}{w:World}{K:PySem.W.Frag}{mg:Str->Option Value}{h base:Heap}{k:Nat}{x:Str}{st:Stmt}{ps:List Str}{sp:Sp}(d:Df K x st)(X:K.In h)(G:h.Ns mainGlobals mg)
  (hb:∀(kV doc pm:Value) (an:Option Addr) (cdv ct:Value) (us:List Value),us.length=ps.length->bindArgs (PySem.W.fnOf x x (j2x st) (j1v st) (j0f st) .none kV doc pm an cdv ct) ⟨us,[]⟩=pure (ps.zip us))
  (ok:∀{f:Addr} {fd:FuncData},Fun K x x st f fd->FnOk P w K mg base CX0 k f fd ps sp):Has P w K mg base k x ps sp:=
 let ⟨f,fd,a,F⟩:=d;⟨f,fd,ok F,F.binds hb,F.kp,PySem.W.mg_of X G a⟩
theorem Df.law{P:Program}{w:World}{K:PySem.W.Frag}{mg:Str->Option Value}{h:Heap}{k:Nat}{x y:Str}{st:Stmt}{sp:Sp}{fa:Addr}(d:Df K x st)(X:K.In h)(G:h.Ns mainGlobals mg)(hfa:mg x=some (.ref fa))
  (hb:∀(kV doc pm:Value) (an:Option Addr) (cdv ct:Value) (s:Shared) (v:Value),BindsTo s (PySem.W.fnOf x x (j2x st) (j1v st) (j0f st) .none kV doc pm an cdv ct) ⟨[v],[]⟩ [(y,v)])
  (ok:∀(base:Heap) {f:Addr} {fd:FuncData},Fun K x x st f fd->FnOk P w K mg base CX0 k f fd [y] sp) :
  ∃ fd:FuncData,(∀(s:Shared) (v:Value),BindsTo s fd ⟨[v],[]⟩ [(y,v)])/\∀ base:Heap,K.In base->base.Ns mainGlobals mg->FnOk P w K mg base CX0 k fa fd [y] sp:=by
 obtain⟨f,fd,a,F⟩:=d;have e:=hfa.symm.trans (PySem.W.mg_of X G a);cases e;obtain⟨oc,od,kV,doc,pm,an,cdv,ct,osl,rfl,lk,hcd⟩:=id F.ex;exact⟨_,hb kV doc pm an cdv ct,fun base _ _=>ok base F⟩
end L2
namespace SetT
open PySem
def lcg(m i:Nat):Nat:=(i * 5+1) % m
def orb(m:Nat):Nat->Nat->List Nat
 | 0,_=>[]
 | n+1,i=>i :: orb m n (lcg m i)
def itr(m:Nat):Nat->Nat->Nat
 | 0,i=>i
 | n+1,i=>itr m n (lcg m i)
theorem j7w(m:Nat):∀ a b i,itr m (a+b) i=itr m b (itr m a i)
 | 0,b,i=>by rw [Fk];rfl
 | a+1,b,i=>by
  rw [show a+1+b=(a+b)+1 by omega];exact j7w m a b (lcg m i)
theorem j9z(m:Nat):∀ n t i,t < n->itr m t i∈orb m n i
 | 0,_,_,h=>by omega
 | n+1,0,i,_=>Aw
 | n+1,t+1,i,h=>Aq _ (j9z m n t (lcg m i) (by omega))
theorem k39(m:Nat):∀ n i j,j∈orb m n i->∃ t,t < n/\itr m t i=j
 | 0,_,_,h=>by cases h
 | n+1,i,j,h=>by
  rcases Ao.mp h with rfl | h
  ·exact⟨0,Dx _,rfl⟩
  ·obtain⟨t,ht,e⟩:=k39 m n (lcg m i) j h;exact⟨t+1,Nat.succ_lt_succ ht,e⟩
def covers(m:Nat):Bool:=itr m m 0 == 0 && (List.range m).all fun j=>(orb m m 0).contains j
theorem q0x:covers 8=true:=by decide +kernel
theorem k73:covers 16=true:=by decide +kernel
theorem k51:covers 32=true:=by decide +kernel
theorem k56:covers 64=true:=by decide +kernel
theorem k5q:covers 128=true:=by decide +kernel
theorem k3h:covers 512=true:=by decide +kernel
def Pow(m:Nat):Prop:=m=8\/m=16\/m=32\/m=64\/m=128\/m=512
theorem Pow.covers{m:Nat}(h:Pow m):SetT.covers m=true:=by
 rcases h with rfl | rfl | rfl | rfl | rfl | rfl
 ·exact q0x
 ·exact k73
 ·exact k51
 ·exact k56
 ·exact k5q
 ·exact k3h
theorem Pow.pos{m:Nat}(h:Pow m):8<=m/\m<=512:=by rcases h with rfl | rfl | rfl | rfl | rfl | rfl <;> decide
theorem Pow.mem{m i j:Nat}(h:Pow m)(hi:i < m)(hj:j < m):j∈orb m m i:=by
 have q:=h.covers;unfold SetT.covers at q;rw [Bh,Ci,beq_iff_eq] at q;obtain⟨z,q⟩:=q;obtain⟨a,ha,ea⟩:=k39 m m 0 i (Eu.mp (q i (Br.mpr hi)));obtain⟨b,hb,eb⟩:=k39 m m 0 j (Eu.mp (q j (Br.mpr hj)))
 rcases Ce b a with c | c
 ·have e:itr m (b+m - a) i=j:=by
   rw [<- ea,<- j7w,show a+(b+m - a)=m+b by omega,j7w,z,eb]
  rw [<- e];exact j9z m m _ i (by omega)
 ·have e:itr m (b - a) i=j:=by
   rw [<- ea,<- j7w,show a+(b - a)=b by omega,eb]
  rw [<- e];exact j9z m m _ i (by omega)
def j93(mask:Nat):Nat->Nat->Nat->List Nat
 | 0,_,_=>[]
 | n+1,i,p=>i :: j93 mask n (SetTable.leap mask i p).1 (SetTable.leap mask i p).2
theorem j6q(mask:Nat):∀ n i,j93 mask n i 0=orb (mask+1) n i
 | 0,_=>rfl
 | n+1,i=>by
  show i :: j93 mask n ((i * 5+1+0 / 32) % (mask+1)) (0 / 32)=i :: orb (mask+1) n (lcg (mask+1) i);rw [show(0 / 32:Nat)=0 by decide,Nat.add_zero,j6q mask n];rfl
theorem k4h{mask i p:Nat}:(SetTable.leap mask i p).1 < mask+1:=Ez _ (Dx _)
theorem j61{mask:Nat}:∀(t n i p:Nat),i < mask+1->p < 32 ^ t->∃ i',i' < mask+1/\∀ j∈orb (mask+1) n i',j∈j93 mask (t+n) i p
 | 0,n,i,p,hi,hp=>by
  have e:p=0:=by simpa using hp
  subst e;refine⟨i,hi,fun j hj=>?_⟩;rw [Fk,j6q];exact hj
 | t+1,n,i,p,hi,hp=>by
  have h2:p / 32 < 32 ^ t:=by
   rw [Nat.div_lt_iff_lt_mul (by decide)];rw [Nat.pow_succ] at hp;exact hp
  obtain⟨i',h',q⟩:=j61 t n (SetTable.leap mask i p).1 (p / 32) k4h h2;refine⟨i',h',fun j hj=>?_⟩;rw [show t+1+n=(t+n)+1 by omega];exact Aq _ (q j hj)
theorem j88{mask i p j:Nat}(hm:Pow (mask+1))(hi:i < mask+1)(hp:p < 2 ^ 64)(hj:j < mask+1):j∈j93 mask (mask+15) i p:=by
 obtain⟨i',h',q⟩:=j61 (mask:=mask) 14 (mask+1) i p hi (Bf hp (by decide));have:=q j (hm.mem h' hj);rwa [show 14+(mask+1)=mask+15 by omega] at this
abbrev Own:=Array (Option Nat)
def nil?(owner:Own)(j:Nat):Bool:=(owner.getD j (some 0)).isNone
theorem j7s(mask i:Nat):i<=SetTable.runEnd mask i:=by unfold SetTable.runEnd;split <;> omega
theorem j9l{mask:Nat}{owner:Own}:∀{fuel i p:Nat},SetTable.layClean.free mask owner fuel i p=none->∀ j∈j93 mask fuel i p,nil? owner j=false
 | 0,_,_,_,j,hj=>by cases hj
 | fuel+1,i,p,h,j,hj=>by
  unfold SetTable.layClean.free at h
  split at h
  ·cases h
  ·rename_i hf
   rcases Ao.mp hj with rfl | hj
   ·have:=List.find?_eq_none.mp hf 0 (Br.mpr (by have:=j7s mask j;omega));rw [Nat.add_zero] at this;exact De.mpr this
   ·exact j9l (fuel:=fuel) h j hj
theorem j80{mask:Nat}{owner:Own}:∀{fuel i p j:Nat},SetTable.layClean.free mask owner fuel i p=some j->nil? owner j=true
 | 0,_,_,_,h=>by cases h
 | fuel+1,i,p,j,h=>by
  unfold SetTable.layClean.free at h
  split at h
  ·rename_i k hf;cases h;have:=List.find?_some hf;exact this
  ·exact j80 (fuel:=fuel) h
theorem nil?_iff{owner:Own}{j:Nat}:nil? owner j=true↔owner[j]?=some none:=by
 unfold nil?;rw [Dj];cases h:owner[j]? with
 | none=>simp
 | some v=>cases v <;> simp
structure Lies(m:Nat)(owner:Own)(k:Nat):Prop where
 size:owner.size=m
 lt:∀(j v:Nat),owner[j]?=some (some v)->v < k
 has:∀ v:Nat,v < k->∃ j:Nat,owner[j]?=some (some v)
 inj:∀(i j v:Nat),owner[i]?=some (some v)->owner[j]?=some (some v)->i=j
theorem Lies.start(m:Nat):Lies m (Array.replicate m none) 0 where
 size:=by simp
 lt:=fun j v h=>by
  rw [El] at h
  split at h <;> cases h
 has:=fun v h=>by omega
 inj:=fun i j v h=>by
  rw [El] at h
  split at h <;> cases h
theorem Lies.put{m k j:Nat}{owner:Own}(L:Lies m owner k)(hj:owner[j]?=some none):Lies m (owner.setIfInBounds j (some k)) (k+1):=by
 have hlt:j < owner.size:=by
  rcases Ce j owner.size with h | h
  ·exact h
  ·rw [Cp h] at hj;cases hj
 have at':∀ i:Nat,(owner.setIfInBounds j (some k))[i]?=if j=i then some (some k) else owner[i]?:=by
  intro i;rw [Eb]
  split
  ·rename_i e;subst e;first | rfl | rw [if_pos hlt]
  ·rfl
 refine⟨by rw [Array.size_setIfInBounds];exact L.size,fun i v h=>?_,fun v h=>?_,fun a b v ha hb=>?_⟩
 ·rw [at'] at h
  split at h
  ·cases h;exact Fa _
  ·exact Bu (L.lt i v h)
 ·rcases Nat.lt_succ_iff_lt_or_eq.mp h with h | rfl
  ·obtain⟨i,hi⟩:=L.has v h;refine⟨i,?_⟩;rw [at',if_neg (fun e=>by subst e;rw [hj] at hi;cases hi)];exact hi
  ·exact⟨j,by rw [at',if_pos rfl]⟩
 ·rw [at'] at ha hb
  split at ha
  ·rename_i e;cases ha
   split at hb
   ·rename_i e2;exact e.symm.trans e2
   ·have:=L.lt b k hb;omega
  ·split at hb
   ·cases hb;have:=L.lt a k ha;omega
   ·exact L.inj a b v ha hb
def live(m:Nat)(owner:Own):List (Nat×Nat):=(List.range m).filterMap fun j=>(owner.getD j none).map (j,·)
theorem getD_some{owner:Own}{j v:Nat}:owner.getD j none=some v↔owner[j]?=some (some v):=by
 rw [Dj];cases h:owner[j]? with
 | none=>simp
 | some x=>simp
theorem mem_live{m:Nat}{owner:Own}{p:Nat×Nat}:p∈live m owner↔p.1 < m/\owner[p.1]?=some (some p.2):=by
 unfold live;rw [Er]
 constructor
 ·rintro ⟨j,hj,e⟩;cases hv:owner.getD j none with
  | none=>rw [hv] at e;cases e
  | some v=>
   rw [hv] at e;cases e;exact⟨Br.mp hj,getD_some.mp hv⟩
 ·rintro ⟨h1,h2⟩;exact⟨p.1,Br.mpr h1,by rw [getD_some.mpr h2];rfl⟩
theorem Lies.nodup{m k:Nat}{owner:Own}(L:Lies m owner k):((live m owner).map (·.2)).Nodup:=by
 have q:∀ l:List Nat,l.Nodup->((l.filterMap fun j=>(owner.getD j none).map (j,·)).map (·.2)).Nodup:=by
  intro l
  induction l with
  | nil=>intro _;exact Cm
  | cons a r ih=>
   intro hn;rw [Cf] at hn;rw [Di];cases hv:owner.getD a none with
   | none=>exact ih hn.2
   | some v=>
    show(v :: (r.filterMap fun j=>(owner.getD j none).map (j,·)).map (·.2)).Nodup;rw [Cf];refine⟨fun h=>?_,ih hn.2⟩;obtain⟨p,hp,e⟩:=Am.mp h;obtain⟨j,hj,e2⟩:=Er.mp hp;cases hw:owner.getD j none with
    | none=>rw [hw] at e2;cases e2
    | some u=>
     rw [hw] at e2;cases e2;have e3:u=v:=e;subst e3;have:=L.inj a j u (getD_some.mp hv) (getD_some.mp hw);subst this;exact hn.1 hj
 exact q _ List.nodup_range
theorem Lies.perm{m k:Nat}{owner:Own}(L:Lies m owner k):((live m owner).map (·.2)).Perm (List.range k):=by
 rw [List.perm_ext_iff_of_nodup L.nodup List.nodup_range];intro v;rw [Br,Am]
 constructor
 ·rintro ⟨p,hp,rfl⟩;exact L.lt _ _ (mem_live.mp hp).2
 ·intro h;obtain⟨j,hj⟩:=L.has v h;have hlt:j < m:=by
   rw [<- L.size]
   rcases Ce j owner.size with h | h
   ·exact h
   ·rw [Cp h] at hj;cases hj
  exact⟨(j,v),mem_live.mpr ⟨hlt,hj⟩,rfl⟩
theorem Lies.length{m k:Nat}{owner:Own}(L:Lies m owner k):(live m owner).length=k:=by
 have:=L.perm.length_eq;rwa [Aa,Dp] at this
theorem Lies.room{m k:Nat}{owner:Own}(L:Lies m owner k)(h:k < m):∃ j,j < m/\nil? owner j=true:=by
 refine Classical.byContradiction fun hn=>?_;have all:∀ j,j < m->∃ v,owner.getD j none=some v:=by
  intro j hj;have hs:j < owner.size:=by rw [L.size];exact hj
  cases hv:owner[j] with
  | none=>exact absurd ⟨j,hj,nil?_iff.mpr (by rw [Bp hs,hv])⟩ hn
  | some v=>exact⟨v,getD_some.mpr (by rw [Bp hs,hv])⟩
 have len:∀ l:List Nat,(∀ j∈l,j < m)->(l.filterMap fun j=>(owner.getD j none).map (j,·)).length=l.length:=by
  intro l
  induction l with
  | nil=>intro _;rfl
  | cons a r ih=>
   intro hl;obtain⟨v,hv⟩:=all a (hl a Aw);rw [Di,hv];show(_ :: _).length=_;rw [Bd,Bd,ih fun j hj=>hl j (Aq _ hj)]
 have e:=len (List.range m) fun j hj=>Br.mp hj;have e2:=L.length;unfold live at e2;rw [e,Dp] at e2;omega
theorem k35(h:Int):SetTable.bits h < 2 ^ 64:=by
 unfold SetTable.bits;have h1:0<=h % (2 ^ 64:Int):=Av _ (by decide);have h2:h % (2 ^ 64:Int) < 2 ^ 64:=Az _ (by decide);omega
theorem Lies.free{mask k:Nat}{owner:Own}(L:Lies (mask+1) owner k)(hm:Pow (mask+1))(h:k < mask+1)(x:Int) :
  ∃ j,SetTable.layClean.free mask owner (SetTable.turns mask) (SetTable.bits x % (mask+1)) (SetTable.bits x)=some j/\owner[j]?=some none:=by
 cases e:SetTable.layClean.free mask owner (SetTable.turns mask) (SetTable.bits x % (mask+1)) (SetTable.bits x) with
 | some j=>exact⟨j,rfl,nil?_iff.mp (j80 e)⟩
 | none=>
  obtain⟨j,hj,q⟩:=L.room h;have:=j9l e j (j88 hm (Ez _ (Dx _)) (k35 x) hj);rw [q] at this;cases this
def j7b(mask:Nat)(acc:Option (Own×Nat))(h:Int):Option (Own×Nat):=do
 let (owner,k) <- acc
 let j <- SetTable.layClean.free mask owner (SetTable.turns mask) (SetTable.bits h % (mask+1)) (SetTable.bits h)
 pure (owner.setIfInBounds j (some k),k+1)
end SetT
namespace SetT
open PySem
def byTx(w:World):Bool:=w.params.followText "set-order"
def keyOf(e:Int×Value):Str:=match e.2 with
 | .str x _=>x
 | _=>⟨#[]⟩
section
variable(prog:Program)(w:World)
def Elt(e:Int×Value):Prop:=∃ z t,e=((strKind prog w).hash z,Value.str z t)
structure Tab(es:Array (Int×Value))(t:SetTable)(zs:List Str):Prop where
 elts:∀ e∈es.toList,Elt prog w e
 keys:(es.toList.map keyOf).Perm zs
 nodup:zs.Nodup
 few:zs.length < 1000
 fits:t.fits es.size=true
 led:t.led = !byTx w
 plain:es=#[]\/t.plain=false
def SetAt(h:Heap)(a:Addr)(zs:List Str):Prop:=∃ o es ep t,h.get? a=some o/\o.ExactSet/\o.data = .set es ep t/\Tab prog w es t zs
end
section
variable{prog:Program}{w:World}{es:Array (Int×Value)}{t:SetTable}{zs:List Str}{h h':Heap}{a:Addr}
theorem Tab.elems(T:Tab prog w es t zs):ElemsOf (strKind prog w) es.toList:=fun e he=>by
 obtain⟨z,u,rfl⟩:=T.elts e he;exact⟨⟨z,strKind_is _ _ _ _,rfl⟩,rfl⟩
theorem Tab.size(T:Tab prog w es t zs):es.size=zs.length:=by
 have:=T.keys.length_eq;rw [Aa,Cj] at this;exact this
theorem Tab.few'(T:Tab prog w es t zs):es.size < 1000:=by rw [T.size];exact T.few
theorem Tab.scan(T:Tab prog w es t zs):es.size < scanBound:=by have:=T.few';unfold scanBound;omega
theorem Tab.perm{es':Array (Int×Value)}{t':SetTable}(T:Tab prog w es t zs)(p:es'.toList.Perm es.toList)(hf:t'.fits es'.size=true)(hl:t'.led=t.led)(hp:es'=#[]\/t'.plain=false):Tab prog w es' t' zs:=
 ⟨fun e he=>T.elts e (p.mem_iff.mp he),(p.map keyOf).trans T.keys,T.nodup,T.few,hf,hl.trans T.led,hp⟩
theorem SetAt.keep(S:SetAt prog w h a zs)(k:∀ o,h.get? a=some o->h'.get? a=some o):SetAt prog w h' a zs:=let ⟨o,es,ep,t,h1,h2⟩:=S;⟨o,es,ep,t,k o h1,h2⟩
theorem k48{o:Obj}{ep:Nat}{es':Array (Int×Value)}{t':SetTable}{zs':List Str}(ho:h.get? a=some o)(hx:o.ExactSet)(hd:o.data = .set es ep t)(T':Tab prog w es' t' zs') :
  (h.update a (Obj.putSet es' t')).get? a=some {o with data:= .set es' (ep+1) t'}/\SetAt prog w (h.update a (Obj.putSet es' t')) a zs':=by
 have q:=Bx (Obj.putSet es' t') ho (by rw [putSet_of es' t' hd];rfl);rw [putSet_of es' t' hd] at q;exact⟨q,_,es',ep+1,t',q,hx,rfl,T'⟩
theorem k49{e:Int×Value}(he:Elt prog w e)(z:Str):(strKind prog w).is z e.2=decide (z=keyOf e):=by
 obtain⟨y,u,rfl⟩:=he;exact KeyKind.is_eq_decide (strKind_is prog w y u) z
theorem find_none(T:Tab prog w es t zs){z:Str}(hz:z∉zs):es.toList.findIdx? (fun e=>(strKind prog w).is z e.2)=none:=by
 rw [List.findIdx?_eq_none_iff];intro e he;rw [k49 (T.elts e he),decide_eq_false_iff_not];rintro rfl;exact hz (T.keys.mem_iff.mp (List.mem_map_of_mem he))
theorem find_some(T:Tab prog w es t zs){z:Str}(hz:z∈zs):∃ j,∃ hj:j < es.toList.length,es.toList.findIdx? (fun e=>(strKind prog w).is z e.2)=some j/\keyOf es.toList[j]=z:=by
 obtain⟨e,he,e2⟩:=Am.mp (T.keys.mem_iff.mpr hz);cases q:es.toList.findIdx? (fun e=>(strKind prog w).is z e.2) with
 | none=>
  have:=List.findIdx?_eq_none_iff.mp q e he;rw [k49 (T.elts e he),decide_eq_false_iff_not] at this;exact absurd e2.symm this
 | some j=>
  obtain⟨hj,p,_⟩:=List.findIdx?_eq_some_iff_getElem.mp q;rw [k49 (T.elts _ (Cg hj)),decide_eq_true_eq] at p;exact⟨j,hj,rfl,p.symm⟩
theorem k6v(t:SetTable)(n:Nat):(t.orStandIn n).led=t.led/\((t.orStandIn n).plain=true->t.plain=true):=by
 unfold SetTable.orStandIn
 split
 ·exact⟨rfl,id⟩
 ·exact⟨rfl,fun h=>by cases h⟩
theorem k1n(t:SetTable)(es:Array (Int×Value))(x:Int)(v:Value):(layNew t es x v).2.1.led=t.led:=by
 unfold layNew
 split
 ·exact(k6v _ _).1
 ·rfl
theorem k62{mask f m:Nat}{l p:Bool}{hs:Array Int}{t':SetTable}{o:Array Nat}(e:SetTable.laid mask f m l p hs=some (t',o)):t'.led=l/\t'.plain=p:=by
 unfold SetTable.laid at e;cases c:SetTable.layClean mask hs with
 | none=>rw [c] at e;cases e
 | some ow=>rw [c] at e;cases e;exact⟨rfl,rfl⟩
theorem j85(t:SetTable)(es:Array (Int×Value))(n:Nat)(hp:t.plain=false):(relayAll t es n).2.1.led=t.led/\(relayAll t es n).2.1.plain=false:=by
 unfold relayAll
 split
 ·rename_i t' o e;have q:=k62 e
  dsimp only
  split
  ·exact⟨q.1,q.2.trans hp⟩
  ·exact⟨rfl,rfl⟩
 ·exact⟨rfl,rfl⟩
end
section
variable{prog:Program}{w:World}{A:Around}{E:Value->Shared->Prop}{s:Shared}{a:Addr}{zs:List Str}
theorem j7m{n:Nat}(h:n < 1001):n<=sizeLine:=by rw [sizeLine_eq];omega
theorem k3u{g:Bool->Sem Unit}(hg:∀(b:Bool) (s₁:Shared) (Q':Unit->Shared->Prop),Q' () s₁->wpAny (model prog w) A (g b) Q' E s₁)
  {o:Obj} {es:Array (Int×Value)} {ep:Nat} {t:SetTable} (ho:s.heap.get? a=some o) (hx:o.ExactSet) (hd:o.data = .set es ep t)
  {es1:Array (Int×Value)} {t2:SetTable} (T:Tab prog w es1 t2 zs) (hp:t2.plain=false) {c:Bool} {R:Option Bool->Shared->Prop}
  (k:∀ h',Heap.SameBut a s.heap h'->SetAt prog w h' a zs->R (some true) {s with heap:=h'}) :
  wpAny (model prog w) A (do
   storeSet a es1 t2
   if c=true then do
     g (relayAll t2 es1 (SetTable.grown es1.size)).2.2
     storeSet a (relayAll t2 es1 (SetTable.grown es1.size)).1 (relayAll t2 es1 (SetTable.grown es1.size)).2.1
     pure (some true)
    else pure (some true)) R E s:=by
 refine wpAny_bind (wpAny_storeSet_of ho hd ?_ (j7m (Bu T.few')));obtain⟨q1,q2⟩:=k48 ho hx hd T;have sb:=Heap.SameBut.update s.heap a (Obj.putSet es1 t2);cases c with
 | false=>exact wpAny_pure (k _ sb q2)
 | true=>
  have p:=relayAll_perm t2 es1 (SetTable.grown es1.size);have T3:=T.perm p (relayAll_fits t2 es1 (SetTable.grown es1.size)) (j85 t2 es1 _ hp).1 (.inr (j85 t2 es1 _ hp).2);refine wpAny_bind (hg _ _ _ ?_);refine wpAny_bind (wpAny_storeSet_of q1 rfl ?_ (j7m (Bu T3.few')));exact wpAny_pure (k _ (sb.trans (Heap.SameBut.update _ a _)) (k48 q1 hx rfl T3).2)
def added(zs:List Str)(z:Str):List Str:=if z∈zs then zs else zs++[z]
theorem q31{z:Str}{tk:Tok}{Q:Bool->Shared->Prop}(S:SetAt prog w s.heap a zs)(hb:zs.length+1 < 1000)
  (k:∀(b:Bool) h',Heap.SameBut a s.heap h'->SetAt prog w h' a (added zs z)->Q b {s with heap:=h'}) :
  wpAny (model prog w) A (setAddHashed a (.str z tk) ((strKind prog w).hash z)) Q E s:=by
 obtain⟨o,es,ep,t,ho,hx,hd,T⟩:=S;unfold setAddHashed setAddHashedIn;refine wpAny_holding (wpAny_bind (wpAny_setState_of ho hd T.fits ?_))
 dsimp only
 rw [byScan_of (knd:=strKind prog w) (x:= .str z tk) rfl T.scan T.elems];simp only [↓reduceIte];unfold setAddByScan;refine wpAny_bind (wpAny_bind (wpAny_rule (wpAny_bind (wpAny_setScan_of (knd:=strKind prog w) (k:=z) (strKind_is _ _ _ _) ho hd T.fits T.elems ?_))))
 by_cases hz:z∈zs
 ·obtain⟨j,hj,e,_⟩:=find_some T hz;rw [e]
  dsimp only
  refine wpAny_pure (wpAny_pure (k false s.heap (Heap.SameBut.refl a s.heap) ?_));unfold added;rw [if_pos hz];exact⟨o,es,ep,t,ho,hx,hd,T⟩
 ·rw [find_none T hz]
  dsimp only
  have gw:∀(b:Bool) (s₁:Shared) (Q':Unit->Shared->Prop),Q' () s₁->wpAny (model prog w) A (match b with | true=>rule "set.scan.the-table-gave-way" | false=>pure ()) Q' E s₁:=
   fun b s₁ Q' q=>by cases b <;> first | exact wpAny_pure q | exact wpAny_rule q
  have p:=layNew_perm t es ((strKind prog w).hash z) (.str z tk);have f:=layNew_fits t es ((strKind prog w).hash z) (.str z tk);have l:=k1n t es ((strKind prog w).hash z) (.str z tk);generalize layNew t es ((strKind prog w).hash z) (.str z tk)=L at p f l ⊢;obtain⟨es1,t1,wd,gv⟩:=L
  dsimp only at p f l ⊢
  rw [Array.toList_push] at p;have tab:∀ t2:SetTable,t2.fits es1.size=true->t2.led=t1.led->t2.plain=false->Tab prog w es1 t2 (zs++[z]):=fun t2 h1 h2 h3=>{
   elts:=fun e he=>by
    rcases Ba.mp (p.mem_iff.mp he) with he | he
    ·exact T.elts e he
    ·exact⟨z,tk,Ah.mp he⟩
   keys:=by
    refine(p.map keyOf).trans ?_;rw [Al];exact T.keys.append (List.Perm.refl _)
   nodup:=by
    rw [Cr];refine⟨T.nodup,by simp,fun x hx y hy e=>?_⟩;rw [Ah] at hy;subst hy e;exact hz hx
   few:=by rw [Af];exact hb
   fits:=h1
   led:=h2.trans (l.trans T.led)
   plain:= .inr h3}
  have fin:∀ h',Heap.SameBut a s.heap h'->SetAt prog w h' a (zs++[z])->Q true {s with heap:=h'}:=fun h' q1 q2=>k true h' q1 (by unfold added;rw [if_neg hz];exact q2);refine wpAny_bind (gw _ _ _ ?_)
  split
  ·rename_i hp;refine wpAny_bind ?_;rw [hashByValue_scannable 8 rfl];refine wpAny_pure ?_;refine k3u gw ho hx hd (tab {t1 with plain:=false} (SetTable.fits_plain_off f) rfl rfl) rfl fun h' q1 q2=>?_
   dsimp only
   exact wpAny_pure (fin h' q1 q2)
  ·rename_i hp;refine wpAny_bind (wpAny_pure ?_);simp only [↓reduceIte];refine k3u gw ho hx hd (tab t1 f rfl (De.mpr hp)) (De.mpr hp) fun h' q1 q2=>?_
   dsimp only
   exact wpAny_pure (fin h' q1 q2)
theorem pick_perm{α:Type}:∀(l:List α) (j:Nat) (hj:j < l.length),(l[j] :: l.eraseIdx j).Perm l
 | [],_,h=>by simp at h
 | x :: r,0,_=>List.Perm.refl _
 | x :: r,j+1,h=>(List.Perm.swap x _ _).trans ((pick_perm r j (Nat.lt_of_succ_lt_succ h)).cons x)
end
end SetT
namespace SetT
open PySem
theorem k5o{α:Type}(next:Nat->Nat):∀(fuel k:Nat) (left:List α) (out:Array α),left.length<=fuel->(pickOrder.go next fuel k left out).toList.Perm (out.toList++left)
 | 0,k,left,out,h=>by
  have:left=[]:=Bg.mp (by omega);subst this;unfold pickOrder.go;simp
 | fuel+1,k,left,out,h=>by
  unfold pickOrder.go;cases e:left[next k % left.length]? with
  | none=>
   have:left=[]:=by
    cases left with
    | nil=>rfl
    | cons x r=>
     have hl:next k % (x :: r).length < (x :: r).length:=Ez _ (by simp);rw [Ac hl] at e;cases e
   subst this;simp
  | some x=>
   dsimp only
   obtain⟨hl,e2⟩:=Ab.mp e;refine(k5o next fuel (k+1) _ _ (by rw [Dq,if_pos hl];omega)).trans ?_;rw [Array.toList_push,Bl];refine List.Perm.append_left _ ?_;have:=pick_perm left _ hl;rw [e2] at this;exact this
theorem k9v{α:Type}(next:Nat->Nat)(xs:Array α):(pickOrder next xs).toList.Perm xs.toList:=by
 have:=k5o next xs.size 0 xs.toList #[] (by simp)
 simpa [pickOrder] using this
section
variable{prog:Program}{w:World}{A:Around}{E:Value->Shared->Prop}{s:Shared}{a:Addr}{zs:List Str}
theorem wp_choose{src:Source}{n:Nat}{Q:Nat->Shared->Prop}(hn:n≠0)(h:∀ i d,i < n->Q i {s with drawn:=d}):wpAny (model prog w) A (choose src n) Q E s:=
 fun Γ p _=>⟨hn,h _ _ (Ez _ (Nat.pos_of_ne_zero hn))⟩
theorem k41{α:Type}:∀(n:Nat) (xs:List α) (s:Shared) (Q:List α->Shared->Prop),xs.length<=n->(∀ ys d,ys.Perm xs->Q ys {s with drawn:=d})->wpAny (model prog w) A (drawOrder n xs) Q E s
 | 0,xs,s,Q,h,k=>by
  have:xs=[]:=Bg.mp (by omega);subst this;unfold drawOrder;exact wpAny_pure (k [] s.drawn (List.Perm.refl _))
 | n+1,[],s,Q,h,k=>by
  unfold drawOrder;exact wpAny_pure (k [] s.drawn (List.Perm.refl _))
 | n+1,x :: r,s,Q,h,k=>by
  unfold drawOrder;refine wpAny_bind (wp_choose (by simp) fun i d hi=>?_);rw [Ac hi]
  dsimp only
  refine wpAny_bind (k41 n _ _ _ (by rw [Dq,if_pos hi];omega) fun ys d2 p=>?_);exact wpAny_pure (k _ d2 ((p.cons _).trans (pick_perm _ i hi)))
theorem wp_text{Q:Bool->Shared->Prop}(k:Q (byTx w) s):wpAny (model prog w) A setsByText Q E s:=by
 unfold setsByText;exact wpAny_bind (wpAny_askSetting (wpAny_pure k))
variable{o:Obj}{es:Array (Int×Value)}{ep:Nat}{t:SetTable}
end
end SetT
namespace SetT
open PySem
open Builtin.Frozenset
section
variable{prog:Program}{w:World}{A:Around}{E:Value->Shared->Prop}{s:Shared}{a:Addr}{zs:List Str}
structure Bare(w:World)(t:SetTable):Prop where
 place:t.place=#[]
 dummies:t.dummies=#[]
 led:t.led = !byTx w
 plain:t.plain=true
theorem Bare.tab{t:SetTable}(B:Bare w t):Tab prog w #[] t []:=
 ⟨fun e he=>by simp at he,by simp,Cm,by decide,by unfold SetTable.fits SetTable.fill;rw [B.place,B.dummies];simp,B.led,.inl rfl⟩
variable{o:Obj}{ep:Nat}{t:SetTable}
end
end SetT
namespace SetT
open PySem
open Builtin.Frozenset
section
variable{prog:Program}{w:World}{A:Around}{E:Value->Shared->Prop}{s:Shared}{a r:Addr}{za zr:List Str}
end
end SetT
namespace SetT
open PySem
open Builtin.Frozenset
section
variable{prog:Program}{w:World}{A:Around}{E:Value->Shared->Prop}{s:Shared}
def j46(w:World):Obj:={cls:= .type "set",dict:=none,data:= .set #[] 0 (.fresh 0 0 (!byTx w))}
theorem k34{h:Heap}{a:Addr}(e:h.get? a=some (j46 w)):SetAt prog w h a []:=⟨_,_,_,_,e,⟨rfl,rfl,rfl⟩,rfl,Bare.tab ⟨rfl,rfl,rfl,rfl⟩⟩
variable{R:Result->Shared->Prop}{I:Addr}{fp wr:List Addr}{G:Array GenState->Array GenState->Prop}{n:Nat}{P:Nat->Value->Prop}{St:Nat->Shared->Prop}
end
end SetT
namespace SetT
open PySem
open Builtin.Frozenset
theorem slot_next:Slot "set_iterator" "__next__" "set_iterator.__next__":=
 .of (owner:= "set_iterator") (n:= "__next__") (by rw [typeLookup_type,builtinLookup_eq_fast];kernel_rfl) (by decide +kernel) (by decide +kernel) (by decide +kernel)
  (by first | exact .inl (by decide +kernel) | exact .inr (by decide +kernel)) (by rw [isSubtype_type];kernel_rfl)
theorem entry_next:entryFor table "set_iterator.__next__" = some Builtin.«set_iterator.__next__»:=entryFor_of_fast (by kernel_rfl)
theorem args_next(a:Value):argsOk "set_iterator.__next__" ⟨[a],[]⟩:=by unfold argsOk;kernel_rfl
theorem k1t:entryFor table "set.__iter__" = some Builtin.«frozenset.__iter__»:=
 entryFor_alias (id':= "frozenset.__iter__") (by kernel_rfl) rfl (by decide +kernel) (by kernel_rfl)
def itO(first:Value)(i:Nat)(a:Addr)(n ep:Nat):Obj:={cls:= .type "set_iterator",data:= .fields #[first,.int i 0,.ref a,.int n 0,.int ep 0]}
def tupO(ys:List Nat):Obj:={cls:= .type "tuple",data:= .seq (ys.map fun(i:Nat)=>rawInt i).toArray}
inductive Way (w:World) (h:Heap) (a tp:Addr) (es:Array (Int×Value)) (ep:Nat) (t:SetTable) (ws:List (Int×Value)) (i:Nat):Value->Prop where
 | drawn (ys:List Nat) (ht:h.get? tp=some (tupO ys)) (hl:ys.length=es.size) (hw:∀ j:Nat,∀ y,ys[j]?=some y->es[y]?=ws[j]?):Way w h a tp es ep t ws i (.ref tp)
 | text (c:Int) (hb:byTx w=true) (hw:ws=(pickOrder (w.params.setOrder a ep) es).toList):Way w h a tp es ep t ws i (.int c 0)
 | one (c:Nat) (hb:byTx w=false) (hs:es.size<=1) (hw:ws=es.toList) (hc:SetTable.below t.place c=i):Way w h a tp es ep t ws i (.int c 0)
section
variable{prog:Program}{w:World}{A:Around}{E:Value->Shared->Prop}{s:Shared}{a tp it:Addr}{zs:List Str}{o:Obj}{es:Array (Int×Value)}{ep:Nat}{t:SetTable}{ws:List (Int×Value)}{i:Nat}{first:Value}
theorem j8s(j c:Nat):SetTable.below #[j] c=if j < c then 1 else 0:=by
 unfold SetTable.below;show SetTable.below.go #[j] c 1 0 1=_;unfold SetTable.below.go;simp only [Fi,if_true];show(if(#[j]:Array Nat).getD 0 c < c then SetTable.below.go #[j] c 0 1 1 else SetTable.below.go #[j] c 0 0 0)=_;rw [show(#[j]:Array Nat).getD 0 c=j by rfl]
 split <;> rfl
theorem Way.keep{h h':Heap}(W:Way w h a tp es ep t ws i first)(k:∀ o,h.get? tp=some o->h'.get? tp=some o):Way w h' a tp es ep t ws i first:=by
 cases W with
 | drawn ys ht hl hw=>exact .drawn ys (k _ ht) hl hw
 | text c hb hw=>exact .text c hb hw
 | one c hb hs hw hc=>exact .one c hb hs hw hc
theorem up0{h:Heap}{n:Nat}(x:Value)(e:h.get? it=some (itO first i a n ep)):(h.update it (Obj.mapFields (·.setIfInBounds 0 x))).get? it=some (itO x i a n ep):=Bx _ e rfl
theorem up1{h:Heap}{n:Nat}(e:h.get? it=some (itO first i a n ep)):(h.update it (Obj.mapFields (·.setIfInBounds 1 (rawInt ((i:Int)+1))))).get? it=some (itO first (i+1) a n ep):=Bx _ e rfl
theorem k8h{p:Array Nat}(h:p.size=1):∃ j,p=#[j]:=by
 obtain⟨l⟩:=p
 match l,h with
 | [j],_=>exact⟨j,rfl⟩
theorem j67(T:Tab prog w es t zs):t.place.size=es.size:=by
 have:=T.fits;unfold SetTable.fits at this;rw [Bh,beq_iff_eq] at this;exact this.1
theorem j9g{Q:Option Value->Shared->Prop}(hi:s.heap.get? it=some (itO first i a es.size ep))(ho:s.heap.get? a=some o)(hd:o.data = .set es ep t)(T:Tab prog w es t zs)(hW:Way w s.heap a tp es ep t ws i first)
  (hne:tp≠it) (hp:ws.Perm es.toList) {e:Int×Value} (he:ws[i]?=some e) (k:∀ h' first',Heap.SameBut it s.heap h'->h'.get? it=some (itO first' (i+1) a es.size ep)->Way w h' a tp es ep t ws (i+1) first'->Q (some e.2) {s with heap:=h'}) :
  wpAny (model prog w) A (pyNext (.ref it)) Q E s:=by
 have hT:s.TypeIs (.ref it) "set_iterator":=⟨_,hi,rfl⟩;unfold pyNext;refine wpAny_bind (wpAny_attempt (wpAny_callSpecial?_slot (name:=Str.ofString "__next__") hT slot_next (wpAny_call_entry slot_next hT entry_next ?_ (args_next _))));unfold Builtin.«set_iterator.__next__»;refine wpAny_bind (wpAny_pure ?_);refine wpAny_bind (wpAny_fieldsOf hi rfl ?_)
 dsimp only
 refine wpAny_bind (wpAny_setEntries_of ho hd T.fits ?_);rw [if_neg (by simp)];have sb0:∀ x,Heap.SameBut it s.heap ((s.heap.update it (Obj.mapFields (·.setIfInBounds 0 x))).update it (Obj.mapFields (·.setIfInBounds 1 (rawInt ((i:Int)+1))))):=fun x=>(Heap.SameBut.update ..).trans (Heap.SameBut.update ..);have hil:i < es.size:=by
  have h1:ws.length=es.size:=by simpa using hp.length_eq
  rcases Ce i ws.length with h | h
  ·omega
  ·rw [Cb h] at he;cases he
 have sb1:Heap.SameBut it s.heap (s.heap.update it (Obj.mapFields (·.setIfInBounds 1 (rawInt ((i:Int)+1))))):=Heap.SameBut.update ..;cases hW with
 | drawn ys ht hl hw=>
  dsimp only
  have hy:ys[i]?=some (ys[i]'(by omega)):=Ac _;generalize ys[i]'(by omega)=y at hy;refine wpAny_bind (wpAny_seqItems ht rfl ?_)
  dsimp only
  have e1:(ys.map fun(i:Nat)=>rawInt i).toArray[(i:Int).toNat]?=some (.int y 0):=by
   rw [Au,List.getElem?_toArray,Ae,hy];rfl
  rw [e1]
  dsimp only
  unfold setNextDrawn;refine wpAny_bind (wpAny_bind (wpAny_setState_of ho hd T.fits ?_))
  dsimp only
  rw [if_neg (by simp)];have e2:es[(y:Int).toNat]?=some e:=by
   rw [Au,hw i y hy];exact he
  rw [e2]
  dsimp only
  refine wpAny_pure (wpAny_bind (wpAny_setField hi rfl (by simp) ?_));refine wpAny_pure ⟨_,rfl,wpAny_pure (k _ _ sb1 (up1 hi) (.drawn ys ?_ hl hw))⟩;rw [sb1.2 tp hne];exact ht
 | text c hb hw=>
  dsimp only
  unfold setNext;refine wpAny_bind (wpAny_bind (wpAny_setState_of ho hd T.fits ?_))
  dsimp only
  refine wpAny_bind (wp_text ?_);rw [hb];simp only [if_true];rw [if_neg (by simp)];unfold setWalk;refine wpAny_bind (wpAny_bind (wpAny_setState_of ho hd T.fits ?_))
  dsimp only
  refine wpAny_bind (wp_text ?_);rw [hb];simp only [if_true];refine wpAny_bind (wpAny_askSetting ?_);refine wpAny_pure ?_;have e1:(pickOrder ((model prog w).w.params.setOrder a ep) es)[(i:Int).toNat]?=some e:=by
   rw [Au,<- Bn];show(pickOrder (w.params.setOrder a ep) es).toList[i]?=_;rw [<- hw];exact he
  rw [e1];refine wpAny_pure ?_
  dsimp only [Option.map]
  refine wpAny_bind (wpAny_setField hi rfl (by simp) ?_);refine wpAny_bind (wpAny_setField (up0 _ hi) rfl (by simp) ?_);exact wpAny_pure ⟨_,rfl,wpAny_pure (k _ _ (sb0 _) (up1 (up0 _ hi)) (.text _ hb hw))⟩
 | one c hb hs hw hc=>
  have hi0:i=0:=by omega
  have hs1:es.size=1:=by omega
  subst hi0;have hps:t.place.size=1:=(j67 T).trans hs1;obtain⟨j,hj⟩:=k8h hps
  dsimp only
  unfold setNext;refine wpAny_bind (wpAny_bind (wpAny_setState_of ho hd T.fits ?_))
  dsimp only
  refine wpAny_bind (wp_text ?_);rw [hb];simp only [At,if_false];show wpAny _ _ (if(!t.plain && decide (es.size > 1))=true then _ else _) _ _ _;rw [if_neg (by rw [hs1];simp)];refine wpAny_bind ?_;show wpAny _ _ (if(!t.led && !es.isEmpty)=true then _ else _) _ _ _;rw [if_neg (by rw [T.led,hb];simp)];refine wpAny_pure ?_;rw [Au,hc];have e1:es[0]?=some e:=by
   rw [<- Bn,<- hw];exact he
  have e2:t.place[0]?=some j:=by rw [hj];rfl
  rw [e1,e2];refine wpAny_pure ?_
  dsimp only
  refine wpAny_bind (wpAny_setField hi rfl (by simp) ?_);refine wpAny_bind (wpAny_setField (up0 _ hi) rfl (by simp) ?_);refine wpAny_pure ⟨_,rfl,wpAny_pure (k _ _ (sb0 _) (up1 (up0 _ hi)) (.one (j+1) hb hs hw ?_))⟩;rw [hj,j8s,if_pos (Fa _)]
theorem k0f{Q:Option Value->Shared->Prop}(hh:A.handled=none)(hi:s.heap.get? it=some (itO first i a es.size ep))(ho:s.heap.get? a=some o)(hd:o.data = .set es ep t)(T:Tab prog w es t zs)(hW:Way w s.heap a tp es ep t ws i first)
  (hp:ws.Perm es.toList) (he:i=es.size) (k:∀ h',Heap.ExtBut it s.heap h'->Q none {s with heap:=h'}) :
  wpAny (model prog w) A (pyNext (.ref it)) Q E s:=by
 have hT:s.TypeIs (.ref it) "set_iterator":=⟨_,hi,rfl⟩;have wl:ws.length=es.size:=by simpa using hp.length_eq
 unfold pyNext;refine wpAny_bind (wpAny_attempt (wpAny_callSpecial?_slot (name:=Str.ofString "__next__") hT slot_next (wpAny_call_entry slot_next hT entry_next ?_ (args_next _))));unfold Builtin.«set_iterator.__next__»;refine wpAny_bind (wpAny_pure ?_);refine wpAny_bind (wpAny_fieldsOf hi rfl ?_)
 dsimp only
 refine wpAny_bind (wpAny_setEntries_of ho hd T.fits ?_);rw [if_neg (by simp)];have fin:∀ h2:Heap,Heap.SameBut it s.heap h2->wpAny (model prog w) A.in1 (newExc (Value.type "StopIteration") [] >>= fun x=>(raiseNew x:Sem Fin)) (fun fin s'=>∃ v,fin=Fin.done (Flow.ret v)/\wpAny (model prog w) A (pure (some v)) Q E s')
   (fun e s'=>wpAny (model prog w) A (isInstance e (Value.type "StopIteration") >>= fun b=>if b=true then pure none else throw e) Q E s') {s with heap:=h2}:=by
  intro h2 sb;refine wpAny_bind ?_;simp only [newExc,newTuple];refine wpAny_bind (wpAny_newObj_type ?_ (by size_fits));refine wpAny_bind (m:=firstArgMember _ _) (wpAny_of_eq (a:=Value.none) (by first | rfl | (simp only [firstArgMember];rfl)) ?_);refine wpAny_newObj_type ?_ (by size_fits);simp only [raiseNew];refine wpAny_bind (wpAny_handled ?_);rw [show A.in1.handled=none from hh];refine wpAny_bind (wpAny_pure (wpAny_throw ?_));refine wpAny_bind (wpAny_isInstance (T:= "StopIteration") (b:=true) ⟨_,Aj _ rfl,rfl⟩ isSubtype_stop ?_);exact wpAny_pure (k _ ((sb.extBut.push _).push _))
 cases hW with
 | drawn ys ht hl hw=>
  dsimp only
  refine wpAny_bind (wpAny_seqItems ht rfl ?_)
  dsimp only
  have e1:(ys.map fun(i:Nat)=>rawInt i).toArray[(i:Int).toNat]?=none:=by
   rw [Au,List.getElem?_toArray,Cb];rw [Aa];omega
  rw [e1]
  dsimp only
  refine wpAny_bind (wpAny_setField hi rfl (by simp) ?_);refine wpAny_bind (wpAny_setField (up0 _ hi) rfl (by simp) ?_);exact fin _ ((Heap.SameBut.update ..).trans (Heap.SameBut.update ..))
 | text c hb hw=>
  dsimp only
  unfold setNext;refine wpAny_bind (wpAny_bind (wpAny_setState_of ho hd T.fits ?_))
  dsimp only
  refine wpAny_bind (wp_text ?_);rw [hb];simp only [if_true];rw [if_neg (by simp)];unfold setWalk;refine wpAny_bind (wpAny_bind (wpAny_setState_of ho hd T.fits ?_))
  dsimp only
  refine wpAny_bind (wp_text ?_);rw [hb];simp only [if_true];refine wpAny_bind (wpAny_askSetting ?_);refine wpAny_pure ?_;have e1:(pickOrder ((model prog w).w.params.setOrder a ep) es)[(i:Int).toNat]?=none:=by
   rw [Au,<- Bn];show(pickOrder (w.params.setOrder a ep) es).toList[i]?=_;rw [<- hw,Cb];omega
  rw [e1];refine wpAny_pure ?_
  dsimp only [Option.map]
  refine wpAny_bind (wpAny_setField hi rfl (by simp) ?_);exact fin _ (Heap.SameBut.update ..)
 | one c hb hs hw hc=>
  dsimp only
  unfold setNext;refine wpAny_bind (wpAny_bind (wpAny_setState_of ho hd T.fits ?_))
  dsimp only
  refine wpAny_bind (wp_text ?_);rw [hb];simp only [At,if_false];show wpAny _ _ (if(!t.plain && decide (es.size > 1))=true then _ else _) _ _ _;rw [if_neg (by rw [decide_eq_false (by omega)];simp)];refine wpAny_bind ?_;show wpAny _ _ (if(!t.led && !es.isEmpty)=true then _ else _) _ _ _;rw [if_neg (by rw [T.led,hb];simp)];refine wpAny_pure ?_;rw [Au,hc];have e1:es[i]?=none:=Cp (by omega);rw [e1];refine wpAny_pure ?_
  dsimp only
  refine wpAny_bind (wpAny_setField hi rfl (by simp) ?_);exact fin _ (Heap.SameBut.update ..)
end
end SetT
namespace SetT
open PySem PySem.Spec
open Builtin.Frozenset
theorem j6y:Slot "set_iterator" "__iter__" "set_iterator.__iter__":=
 .of (owner:= "set_iterator") (n:= "__iter__") (by rw [typeLookup_type,builtinLookup_eq_fast];kernel_rfl) (by decide +kernel) (by decide +kernel) (by decide +kernel)
  (by first | exact .inl (by decide +kernel) | exact .inr (by decide +kernel)) (by rw [isSubtype_type];kernel_rfl)
theorem k0b:entryFor table "set_iterator.__iter__" = some Builtin.«dict_keyiterator.__iter__»:=
 entryFor_alias (id':= "dict_keyiterator.__iter__") (by kernel_rfl) rfl (by decide +kernel) (by kernel_rfl)
theorem k2p(a:Value):argsOk "set_iterator.__iter__" ⟨[a],[]⟩:=by unfold argsOk;kernel_rfl
section
variable{prog:Program}{w:World}{A:Around}{E:Value->Shared->Prop}{s:Shared}{a tp it:Addr}{zs:List Str}{o:Obj}{es:Array (Int×Value)}{ep:Nat}{t:SetTable}{ws:List (Int×Value)}{i:Nat}{first:Value}
theorem k3b(hh:A.handled=none)(h1:a≠it)(h2:tp≠it)(hd:o.data = .set es ep t)(T:Tab prog w es t zs)(hp:ws.Perm es.toList) :
  Walks prog w A it [it,a,tp] [it] es.size (fun i v=>∃ e,ws[i]?=some e/\v=e.2) (fun i h=>∃ first,h.get? it=some (itO first i a es.size ep)/\h.get? a=some o/\Way w h a tp es ep t ws i first) where
 sub:=fun b hb=>by simp at hb;simp [hb]
 frame:=fun i h h' ⟨first,q1,q2,q3⟩ k=>⟨first,k it (by simp) _ q1,k a (by simp) _ q2,q3.keep (k tp (by simp))⟩
 item:=fun i s Q E hi ⟨first,q1,q2,q3⟩ k=>by
  have wl:ws.length=es.size:=by simpa using hp.length_eq
  obtain⟨e,he⟩:∃ e,ws[i]?=some e:=⟨ws[i]'(by omega),Ac _⟩;refine j9g q1 q2 hd T q3 h2 hp he fun h' f' sb g1 g2=>?_;exact k _ h' s.toks ⟨e,he,rfl⟩ ⟨f',g1,by rw [sb.2 a h1];exact q2,g2⟩ fun b o hb e=>by rw [sb.2 b fun h=>hb (by simp [h])];exact e
 done:=fun s Q E ⟨first,q1,q2,q3⟩ k=>k0f hh q1 q2 hd T q3 hp rfl fun h' e=>k h' s.toks fun b o hb e2=>e b o (fun h=>hb (by simp [h])) e2
 self:=fun i s Q E ⟨first,q1,q2,q3⟩ k=>by
  have hT:s.TypeIs (.ref it) "set_iterator":=⟨_,q1,rfl⟩;refine wpAny_pyIter_slot hT j6y (wpAny_call_entry j6y hT k0b ?_ (k2p _));show wpAny _ _ (ret (.ref it)) _ _ s;exact wpAny_pure ⟨_,rfl,"set_iterator",_,hT,slot_next.lookup,k⟩
theorem k27(es:Array (Int×Value)):(List.range es.size).map (fun y=>(es[y]?).getD (0,Value.none))=es.toList:=by
 refine List.ext_getElem (by simp) fun j h1 h2=>?_;rw [Db,Dy];have:j < es.size:=by simpa using h2
 rw [Bp this];simp
theorem k85{Q:Value->Shared->Prop}(ho:s.heap.get? a=some o)(hx:o.ExactSet)(hd:o.data = .set es ep t)(T:Tab prog w es t zs)
  (k:∀ h' d it tp ws first,(∀ b u,s.heap.get? b=some u->h'.get? b=some u)->s.heap.objs.size<=it->it < h'.objs.size->tp < h'.objs.size->(tp=a\/s.heap.objs.size<=tp)->tp≠it->h'.get? it=some (itO first 0 a es.size ep)->Way w h' a tp es ep t ws 0 first->ws.Perm es.toList->Q (.ref it) {s with heap:=h',drawn:=d}) :
  wpAny (model prog w) A (pyIter (.ref a)) Q E s:=by
 have hT:s.TypeIs (.ref a) "set":=⟨o,ho,hx.1⟩;have hlt:a < s.heap.objs.size:=Ai ho;refine wpAny_pyIter_slot hT F.slot_set_iter (wpAny_call_entry F.slot_set_iter hT k1t ?_ (F.args_set_iter_1 _));unfold Builtin.«frozenset.__iter__» slot0 slotArgs;simp only [Fb,Dl,At,↓reduceIte,bind_assoc,Em,bne_self_eq_false];unfold addrOf Builtin.Frozenset.sizeOf;refine wpAny_bind (wpAny_pure ?_);refine wpAny_bind (wpAny_pure ?_);refine wpAny_bind (wpAny_bind (wpAny_setEntries_of ho hd T.fits (wpAny_pure ?_)));unfold setDrawn;refine wpAny_bind (wpAny_bind (wpAny_setState_of ho hd T.fits ?_))
 dsimp only
 refine wpAny_bind (wp_text ?_);refine wpAny_pure ?_
 by_cases c:(!byTx w && (!t.plain && decide (es.size > 1)))=true
 ·show wpAny _ _ (if(!byTx w && (!t.plain && decide (es.size > 1)))=true then _ else _) _ _ _;rw [if_pos c];refine wpAny_bind (k41 _ _ _ _ (by simp) fun ys d p=>?_);have ylen:ys.length=es.size:=by simpa using p.length_eq
  refine wpAny_bind (wpAny_newTuple ?_ (by rw [Aa,ylen];exact j7m (Bu T.few')));have o1:(s.heap.push (tupO ys)).get? a=some o:=Ad _ ho;refine wpAny_bind (wpAny_setEpoch_of (s:={s with heap:=s.heap.push (tupO ys),drawn:=d}) o1 hd T.fits ?_);refine wpAny_bind (wpAny_newObj_type (wpAny_pure ⟨_,rfl,"set_iterator",_,⟨_,Aj _ rfl,rfl⟩,slot_next.lookup,?_⟩));have hs1:(s.heap.push (tupO ys)).objs.size=s.heap.objs.size+1:=Ch ..;refine k _ d _ s.heap.objs.size (ys.map fun y=>(es[y]?).getD (0,Value.none)) (.ref s.heap.objs.size) (fun b u e=>Ad _ (Ad _ e)) (by show s.heap.objs.size<=(s.heap.push (tupO ys)).objs.size;omega) ?_ ?_ (.inr (Ag _)) ?_ (Aj _ rfl) ?_ ?_
  ·show(s.heap.push (tupO ys)).objs.size < ((s.heap.push (tupO ys)).push _).objs.size;simp only [Ch];omega
  ·show s.heap.objs.size < ((s.heap.push (tupO ys)).push _).objs.size;rw [Ch,hs1];omega
  ·show s.heap.objs.size≠(s.heap.push (tupO ys)).objs.size;omega
  ·refine .drawn ys (Ad _ (Aj _ rfl)) ylen fun j y hy=>?_;have hm:y < es.size:=by
    have:=p.mem_iff.mp (An hy)
    simpa using this
   rw [Ae,hy];show _=some ((es[y]?).getD (0,Value.none));rw [Bp hm];rfl
  ·have:=p.map fun y=>(es[y]?).getD (0,Value.none);rwa [k27] at this
 ·show wpAny _ _ (if(!byTx w && (!t.plain && decide (es.size > 1)))=true then _ else _) _ _ _;rw [if_neg c];refine wpAny_bind (wpAny_pure ?_);refine wpAny_bind (wpAny_setEpoch_of ho hd T.fits ?_);refine wpAny_bind (wpAny_newObj_type (wpAny_pure ⟨_,rfl,"set_iterator",_,⟨_,Aj _ rfl,rfl⟩,slot_next.lookup,?_⟩));have kk:=fun ws hW hp=>k (s.heap.push (itO (.int 0 0) 0 a es.size ep)) s.drawn s.heap.objs.size a ws (.int 0 0) (fun b u e=>Ad _ e) (Ag _) (by rw [Ch];exact Fa _) (by rw [Ch];exact Bu hlt) (.inl rfl) (Ay hlt) (Aj _ rfl) hW hp;cases hb:byTx w with
  | true=>exact kk _ (.text 0 hb rfl) (k9v _ _)
  | false=>
   have h1:es.size<=1:=by
    rcases T.plain with q | q
    ·rw [q];simp
    ·rw [hb,q] at c;simp at c;exact c
   refine kk es.toList (.one 0 hb h1 rfl ?_) (List.Perm.refl _);have hps:=j67 T
   rcases Ce es.size 1 with h | h
   ·have:t.place=#[]:=Array.eq_empty_of_size_eq_zero (by omega);rw [this];rfl
   ·obtain⟨j,hj⟩:=k8h (p:=t.place) (by omega);rw [hj,j8s,if_neg (Dh _)]
theorem k84:typeLookup (.type "set") "__len__" = pure (some (.builtin "set.__len__")):=F.slot_set_len.lookup
theorem q0g{Q:Bool->Shared->Prop}(hT:s.TypeIs (.ref a) "set")(k:Q false s):wpAny (model prog w) A (Builtin.List.listLengthHint (.ref a)) Q E s:=by
 unfold Builtin.List.listLengthHint;refine wpAny_bind (wpAny_specialOf hT k84 ?_)
 dsimp only
 have e1:splitId "set.__len__" = some ("set","__len__"):=by kernel_rfl
 rw [e1]
 dsimp only
 refine wpAny_bind (wpAny_isInstance hT sub_set_self ?_);simp only [Dl,At,if_false];rw [if_pos]
 ·exact wpAny_bind (wpAny_typeOf hT (wpAny_pure k))
 ·decide +kernel
theorem k19{Q:List Value->Shared->Prop}(hh:A.handled=none)(ho:s.heap.get? a=some o)(hx:o.ExactSet)(hd:o.data = .set es ep t)(T:Tab prog w es t zs)
  (k:∀ s' (acc:List (Int×Value)),(∀ b u,s.heap.get? b=some u->s'.heap.get? b=some u)->s'.gens=s.gens->s'.os=s.os->s.heap.objs.size < s'.heap.objs.size->acc.Perm es.toList->Q (acc.map (·.2)) s'):wpAny (model prog w) A (collect (.ref a)) Q E s:=by
 have hlt:a < s.heap.objs.size:=Ai ho;unfold collect;refine wpAny_bind (wpAny_runValue (codeAny_builtin F.entry_proto_collect ?_));rw [Around.under_plainId F.plain_proto_collect _];show wpAny _ A.in1 (newList [] >>= fun l=>again (.builtin "list.__iadd__" ⟨[l,.ref a],[]⟩)) _ _ s;refine wpAny_bind (wpAny_newList ?_);refine wpAny_pure ⟨plainId_quiet F.plain_list_iadd _,codeAny_builtin F.entry_list_iadd ?_⟩;rw [Around.under_plainId F.plain_list_iadd _];generalize hL:s.heap.objs.size=L;have ho1:(s.heap.push {cls:= .type "list",data:= .seq ([]:List Value).toArray}).get? a=some o:=Ad _ ho;have hS1:(s.heap.push {cls:= .type "list",data:= .seq ([]:List Value).toArray}).get? L=some {cls:= .type "list",data:= .seq ([]:List Value).toArray}:=by rw [<- hL];exact Aj _ rfl
 have hT:Shared.TypeIs {s with heap:=s.heap.push {cls:= .type "list",data:= .seq ([]:List Value).toArray}} (.ref a) "set":=⟨o,ho1,hx.1⟩;show wpAny _ A.in1 (Builtin.List.listExtendWith (.ref L) (.ref a) (.ref L)) _ _ _;unfold Builtin.List.listExtendWith;refine wpAny_bind (wpAny_typeOf hT ?_);have n1:Builtin.List.listSameRef (.ref L) (.ref a)=false:=by
  have:L≠a:=by rw [<- hL];exact Cd hlt
  simp [Builtin.List.listSameRef,this]
 have n2:(Value.type "set" == Value.type "list")=false:=by decide
 have n3:(Value.type "set" == Value.type "tuple")=false:=by decide
 simp only [n1,n2,n3,Bool.or_false,At,if_false];refine wpAny_bind (k85 ho1 hx hd T fun h2 d it tp ws first kp2 hge hi2 ht2 hor hne gi W p=>?_);have ho2:=kp2 a o ho1;have hS2:=kp2 L _ hS1;have hszp:(s.heap.push {cls:= .type "list",data:= .seq ([]:List Value).toArray}).objs.size=L+1:=by rw [Ch,hL]
 refine wpAny_bind (wpAny_holding (q0g (a:=a) (s:={s with heap:=h2,drawn:=d}) ⟨o,ho2,hx.1⟩ ?_));show wpAny _ A.in1 (rule "list.extend.makes-room" >>= fun _=>Builtin.List.listTouch (.ref L) >>= fun _=>again (.builtin "list.extend.loop" ⟨[.ref L,.ref it,.ref L],[]⟩)) _ _ _;refine wpAny_bind (wpAny_rule ?_);refine wpAny_bind ?_;show wpAny _ A.in1 (updateSeq L (·.push .none) >>= fun _=>updateSeq L (·.pop)) _ _ _;refine wpAny_bind (wpAny_updateSeq hS2 rfl ?_);have hS3:=Bx (Obj.mapSeq (·.push Value.none)) hS2 rfl;refine wpAny_updateSeq hS3 rfl ?_;have hS4:=Bx (Obj.mapSeq (·.pop)) hS3 rfl;have oth:∀ b u,b≠L->h2.get? b=some u->((h2.update L (Obj.mapSeq (·.push Value.none))).update L (Obj.mapSeq (·.pop))).get? b=some u:=
  fun b u hb e=>(Bm _ _ (Ne.symm hb)).trans ((Bm _ _ (Ne.symm hb)).trans e)
 have hitL:it≠L:=by
  have hge':L+1<=it:=by rw [<- hszp];exact hge
  exact Cd hge'
 have haL:a≠L:=by rw [<- hL];exact Ay hlt
 have hai:a≠it:=by
  have hge':L+1<=it:=by rw [<- hszp];exact hge
  intro e;rw [<- hL,<- e] at hge';exact absurd hge' (Nat.not_le.mpr (Bu hlt))
 have htL:tp≠L:=by
  rcases hor with h | h
  ·rw [h];exact haL
  ·have h':L+1<=tp:=by rw [<- hszp];exact h
   exact Cd h'
 have hfp:L∉[it,a,tp]:=by
  intro h
  rcases Ao.mp h with h | h
  ·exact hitL h.symm
  ·rcases Ao.mp h with h | h
   ·exact haL h.symm
   ·exact htL (Ah.mp h).symm
 refine wpAny_pure ⟨plainId_quiet F.plain_extend_loop _,codeAny_extend_loopS ((k3b (by simp [hh]) hai hne hd T p).toS) (j7m (Bu T.few')) L hfp (.ref L) es.size 0 _ _ _ rfl (Bi _) ⟨first,oth it _ hitL gi,oth a _ haL ho2,W.keep fun u e=>oth tp u htL e⟩ hS4 (ItemsOf.nil _) fun s' acc c m hS' hI=>?_⟩;show wpAny _ A (load L >>= _) _ _ s';refine wpAny_bind (wpAny_load hS' ?_);have wl:ws.length=es.size:=by simpa using p.length_eq
 have el:acc.toList=ws.map (·.2):=by
  refine Dr fun j=>?_;rw [Bn,Ae];cases hj:acc[j]? with
  | none=>
   have:ws[j]?=none:=by
    rw [Cb];rw [wl,<- hI.1];exact Array.getElem?_eq_none_iff.mp hj
   rw [this];rfl
  | some v=>
   obtain⟨e,h1,h2⟩:=hI.2 j v hj;rw [h1,h2];rfl
 refine wpAny_pure ?_;rw [el];refine k s' ws (fun b u e=>?_) m.gens m.os (by rw [hL];exact Ai hS') p;have hb:b < s.heap.objs.size:=Ai e;have hbL:b≠L:=by rw [<- hL];exact Ay hb
 have hbi:b≠it:=by
  intro q;have hge':L+1<=it:=by rw [<- hszp];exact hge
  rw [<- hL,<- q] at hge';exact absurd hge' (Nat.not_le.mpr (Bu hb))
 refine m.heap b u (fun h=>?_) (oth b u hbL (kp2 b u (Ad _ e)))
 rcases Ao.mp h with h | h
 ·exact hbL h
 ·exact hbi (Ah.mp h)
end
end SetT
namespace SetT
open PySem PySem.Spec PyProof.Rows
theorem j65{prog:Program}{w:World}:∀(l:List (Int×Value)),(∀ e∈l,Elt prog w e)->StrsAre (l.map (·.2)) (l.map keyOf)
 | [],_=> .nil
 | e :: r,h=>by
  obtain⟨z,t,rfl⟩:=h e Aw;exact .cons z t (j65 r fun x hx=>h x (Aq _ hx))
section
variable{prog:Program}{w:World}{A:Around}{E:Value->Shared->Prop}{s:Shared}{a:Addr}{zs:List Str}
theorem k1s{Q:Value->Shared->Prop}(hh:A.handled=none)(S:SetAt prog w s.heap a zs)(h64:zs.length < 64)
  (k:∀(s':Shared) (l:Addr) (out:Array Value) (e:Nat) (ss:List Str),(∀ b u,s.heap.get? b=some u->s'.heap.get? b=some u)->s'.gens=s.gens->s'.os=s.os->s.heap.objs.size<=l->s'.heap.get? l=some (seqObj "list" out e)->StrsAre out.toList ss->ss.Perm zs->sortedS ss=true->Q (.ref l) s') :
  wpAny (model prog w) A (call (.builtin "sorted") [.ref a]) Q E s:=by
 obtain⟨o,es,ep,t,ho,hx,hd,T⟩:=S;refine Calls.call_function_entry kind_sorted plain_sorted entry_sorted (args_sorted1 _) ?_;unfold Builtin.«sorted»;refine wpAny_bind (m:=checkCount "sorted" 1 1 _) (wpAny_pure ?_);refine wpAny_bind (k19 (by simp [hh]) ho hx hd T fun s1 acc kp g1 o1 z1 p=>?_);have hS:=j65 (prog:=prog) (w:=w) acc fun e he=>T.elts e (p.mem_iff.mp he);have hlen:(acc.map (·.2)).length=zs.length:=by
  rw [Aa,p.length_eq,Cj,T.size]
 refine wpAny_bind (wpAny_newList ?_ (by rw [hlen];exact j7m (by omega)));have hoL:(s1.heap.push (seqObj "list" (acc.map (·.2)).toArray 0)).get? s1.heap.objs.size=some (seqObj "list" (acc.map (·.2)).toArray 0):=Aj _ rfl;have hsz:s.heap.objs.size<=s1.heap.objs.size:=Fj z1;refine wpAny_bind (wpAny_holding (wpAny_call_entry slot_list_sort ⟨_,hoL,rfl⟩ entry_list_sort (list_sort_treeK strKind_oneLt hoL hS.keysOf (fun v₁ v₂ rest e=>keyKind_strs (by rw [<- e];exact hS)) (by rw [hlen];exact h64) fun st' a1 a2=>⟨_,rfl,?_⟩) (args_list_sort _)));obtain⟨ss,q1,q2,q3⟩:=sorted_out_str hS a1 a2;obtain⟨e,he⟩:=sortedHeap_at (out:=(arrOf st').map (·.2)) hoL;refine wpAny_pure ⟨_,rfl,k _ _ _ e ss (fun b u hb=>?_) g1 o1 hsz he q1 (q2.trans ((p.map keyOf).trans T.keys)) q3⟩;have hb1:=kp b u hb;have hlt:=Ai hb1;show(sortedHeap (s1.heap.push _) s1.heap.objs.size _ _).get? b=some u;rw [sortedHeap_old (Ay hlt) (by rw [size_push'];exact Bu hlt)];exact Ad _ hb1
end
end SetT
namespace L2
open PySem PySem.Spec PyProof.Rows SetT
def SetO(prog:Program)(w:World)(a:Addr)(zs:List Str):HO:= .ext fun h=>SetAt prog w h a zs
section
variable{X:Cx}{pins:List (Addr×Obj)}{σ:St}{H:Hp}{s s':Shared}{a:Addr}{zs:List Str}
theorem Inv.like(I:Inv X pins σ H s)(e1:s'.heap=s.heap)(e2:s'.gens=s.gens)(e3:s'.os=s.os):Inv X pins σ H s':=by
 obtain⟨h,g,d,t,o⟩:=s;obtain⟨h',g',d',t',o'⟩:=s';simp only at e1 e2 e3;subst e1 e2 e3;exact⟨I.ok,I.os,I.bare,I.base,I.loc,I.cell,I.free,I.freeC,I.pin,I.hok,I.len⟩
theorem Inv.laid'{o:HO}(I:Inv X pins σ H s)(k:∀ b u,s.heap.get? b=some u->s'.heap.get? b=some u)(e2:s'.gens=s.gens)(e3:s'.os=s.os)(hp:s.heap.objs.size<=a)(new:ObjOk X.prog X.w (upd H a o) s'.heap a o):Inv X pins σ (upd H a o) s':=
 (I.laid (t':=s.toks) k hp new).like (s':=s') rfl e2 e3
theorem k4x{h:Heap}(S:SetAt X.prog X.w h a zs):ObjOk X.prog X.w H h a (SetO X.prog X.w a zs):=by
 refine⟨S,?_,fun h1 h2 q k=>q.keep k⟩;obtain⟨o,_,_,_,ho,_⟩:=S;exact⟨o,ho⟩
theorem Inv.set(I:Inv X pins σ H s)(h:H a=some (SetO X.prog X.w a zs)):SetAt X.prog X.w s.heap a zs:=(I.hok a _ h).1
theorem j45:∀{zs:List Str} {us:List Value},Vals (zs.map V.str) us->StrsAre us zs
 | [],_,.nil=> .nil
 | z :: r,_,.cons q qs=>by
  obtain⟨t,rfl⟩:=q;exact .cons z t (j45 qs)
theorem j3f:∀{us:List Value} {zs:List Str},StrsAre us zs->Vals (zs.map V.str) us
 | _,_,.nil=> .nil
 | _,_,.cons z t q=> .cons ⟨t,rfl⟩ (j3f q)
theorem j5s(hc:X.calm=true):j2s X (.builtin "sorted") (fun xs H Q=>∃ p zs,xs=[.ref p]/\H p=some (SetO X.prog X.w p zs)/\zs.length < 64/\∀ l ss,H l=none->ss.Perm zs->sortedS ss=true->Q (.ref l) (upd H l (.lst (ss.map V.str)))):=by
 intro pins s σ H xs us Q I r h;obtain⟨p,zs,rfl,hp,hl,q⟩:=h;obtain⟨u,rfl,ru⟩:=vals1 r;cases (show u=Value.ref p from ru);refine k1s (I.ok.hd hc) (I.set hp) hl fun s' l out e ss kp e2 e3 hge he hS hpm hso=>?_;have hlen:ss.length<=sizeLine:=by rw [hpm.length_eq];exact j7m (by omega)
 refine⟨.ref _,_,I.laid' (s':=s') kp e2 e3 hge (show ObjOk X.prog X.w _ s'.heap l (.lst (ss.map V.str)) from⟨by rw [Aa];exact hlen,out.toList,e,j3f hS,he⟩),rfl,q _ ss (I.hok.fresh hge) hpm hso⟩
theorem j5e:j2s X (.builtin "sorted") (fun xs H Q=>∃ p zs,xs=[.ref p]/\SqL X.K H p (zs.map V.str)/\zs.length < 64/\∀ l ss,H l=none->ss.Perm zs->sortedS ss=true->Q (.ref l) (upd H l (.lst (ss.map V.str)))):=by
 intro pins s σ H xs us Q I r h;obtain⟨p,zs,rfl,hp,hl,q⟩:=h;obtain⟨u,rfl,ru⟩:=vals1 r;cases (show u=Value.ref p from ru);obtain⟨its,rv,pl,hz⟩:=I.list hp;have e1:=rv.length;rw [Aa] at e1;refine PyProof.Rows.sorted_strs pl.isList (j45 rv) (by omega) fun out ss hS hpm hso=>?_;obtain⟨e,he⟩:=sortedAll_at s.heap its out;have hlen:ss.length<=sizeLine:=by rw [hpm.length_eq];exact j7m (by omega)
 refine⟨.ref _,_,I.laid' (s':={s with heap:=sortedAll s.heap its out}) (fun b u hb=>sortedAll_old hb) rfl rfl (Eh _) (show ObjOk X.prog X.w _ _ _ (.lst (ss.map V.str)) from⟨by rw [Aa];exact hlen,out.toList,e,j3f hS,he⟩),rfl,q _ ss (I.hok.fresh (Eh _)) hpm hso⟩
end
end L2
namespace L2
open PySem PySem.Spec PyProof.Rows
section
variable{X:Cx}{o e:Expr}{σ:St}{H:Hp}{Q:VK}{ap cp:Pos}
theorem j1r (h:Ev X o σ H fun x H1=>∃ l,x = .ref l/\(∃ xs,H1 l=some (.lst xs))/\Ev X e σ H1 fun y H2=>∃ xs,H2 l=some (.lst xs)/\xs.length < sizeLine/\Q .non (upd H2 l (.lst (xs++[y]))))
  (hbase:attributeBase o "append" X.env (eval o X.env)=eval o X.env:=by rfl)
  (hfew:((backTo cp (starEach [e] X.env)).all (fun x=>!x.1) && (backToKw cp (keywordEach [] X.env)).all (fun x=>x.1.isSome) && decide ([e].length+([]:List Keyword).length+(if([]:List Keyword).isEmpty then 0 else 1) < 30))=true:=by rfl)
  (hline:(ap.endLine == cp.line)=true:=by rfl) (hs:starEach [e] X.env=(false,eval e X.env) :: starEach [] X.env:=by rfl) (hplain:(backTo cp (starEach [] X.env)).any (·.1)=false:=by rfl) (hst:isStar e=false:=by rfl) :
  Ev X (.Call (.Attribute o "append" ap) [e] [] cp) σ H Q:=by
 refine j12 (k87 PySem.F.plainAttrs_list PySem.F.slot_list_append PySem.F.type_list_append j3p j02 (j4o (es:=[e])) hbase hfew hline hs hplain) (h.mono fun x H1 ⟨l,ex,⟨xs,hl⟩,h2⟩=>?_);subst ex;refine⟨.inl ⟨rfl,xs,SqL.of hl⟩,?_⟩;exact j0a (h2.mono fun y H2 ⟨ys,hy,hz,q⟩=>j0c ⟨l,ys,y,rfl,rfl,hy,hz,q⟩) hst
end
section
variable{X:Cx}{c:Expr}{body els rest:List Stmt}{D:Ends}{σ:St}{H:Hp}{pos:Pos}
theorem Run.nx{M M':St->Hp->Prop}{l:List Stmt}(h:Run X l {D with nx:=M} σ H)(f:∀ σ' H',M σ' H'->M' σ' H'):Run X l {D with nx:=M'} σ H:=
 ⟨fun pins s I => thn (h.run pins s I) fun fl s' q => by
  cases fl with
  | next=>
   obtain⟨σ',H',I',m⟩:=q;exact⟨σ',H',I',f σ' H' m⟩
  | _=>exact q⟩
theorem k0l(φ ψ:Prop)(M:St->Hp->Prop)(hc:∀ T:Bool->Hp->Prop,(∀ k:Bool,(k=true->φ)->(k=false->ψ)->T k H)->Et X c σ H T)(ht:φ->Run X body {D with nx:=M} σ H)(hu:ψ->Run X els {D with nx:=M} σ H)
  (hr:∀ σ' H',M σ' H'->Run X rest D σ' H'):Run X (.If c body els pos :: rest) D σ H:=
 j4c φ ψ hc (fun p=>(ht p).nx hr) (fun p=>(hu p).nx hr)
end
def EqD(X:Cx)(H:Hp)(k:Nat)(x y:V)(b:Bool):Prop:=∀(pins:List (Addr×Obj)) (σ:St) (s:Shared) (A:Around) (u v:Value),Inv X pins σ H s->A.units+k < cLine->RelV x u->RelV y v->SeqAt.EqAt A s u v b
def RcD(X:Cx)(H:Hp)(k:Nat)(x y:V)(b:Bool):Prop:=∀(pins:List (Addr×Obj)) (σ:St) (s:Shared) (A:Around) (u v:Value),Inv X pins σ H s->A.units+k < cLine->RelV x u->RelV y v->SeqAt.RcAt A s u v b
def RnD(X:Cx)(H:Hp)(k:Nat)(x y:V)(b:Bool):Prop:=∀(pins:List (Addr×Obj)) (σ:St) (s:Shared) (A:Around) (u v:Value),Inv X pins σ H s->A.units+k < cLine->RelV x u->RelV y v->SeqAt.RcNeAt A s u v (!b)
section
variable{X:Cx}{H:Hp}{k:Nat}{a b:Addr}{xs ys:List V}
theorem j2v{x y:V}(fx:j6h x=true)(fy:j6h y=true):EqD X H k x y (eqV x y):=fun _ _ _ _ _ _ _ _ rx ry=>k8z rx ry fx fy
theorem j5l:EqD X H k (.ref a) (.ref a) true:=fun _ _ _ _ u v _ _ rx ry=>by
 cases rx;cases ry;exact SeqAt.EqAt.same _
theorem k0t(hne:a≠b){c:Bool}(h:RcD X H k (.ref a) (.ref b) c):EqD X H k (.ref a) (.ref b) c:=fun pins σ s A u v I hu rx ry=>by
 cases rx;cases ry;exact SeqAt.EqAt.of_refs hne (h pins σ s A _ _ I hu rfl rfl)
theorem j3o{us:List Value}(r:Vals xs us){j:Nat}(h:j < us.length):∃ x,xs[j]?=some x/\RelV x us[j]:=by
 have hl:=r.length;have hj:j < xs.length:=by omega
 obtain⟨u,e,q⟩:=r.get (Ac hj);rw [Ac h] at e;cases e;exact⟨_,Ac hj,q⟩
theorem j5h(e:Nat->Bool)(ha:SqL X.K H a xs)(hb:SqL X.K H b ys)(hl:xs.length=ys.length)(he:∀ j x y,xs[j]?=some x->ys[j]?=some y->EqD X H k x y (e j)):RcD X H (k+1) (.ref a) (.ref b) ((List.range xs.length).all e):=fun pins σ s A u v I hu rx ry=>by
 cases rx;cases ry;obtain⟨i1,r1,p1,_⟩:=I.list ha;obtain⟨i2,r2,p2,_⟩:=I.list hb;have l1:=r1.length;have l2:=r2.length;have q:=SeqAt.RcAt.lists (A:=A) (e:=e) p1.isList p2.isList (by simp;omega) (by omega) fun j h1 h2=>by
  obtain⟨x,ex,qx⟩:=j3o r1 (j:=j) (by simpa using h1);obtain⟨y,ey,qy⟩:=j3o r2 (j:=j) (by simpa using h2);exact he j x y ex ey pins σ s A.in1 _ _ I (by show A.units+1+k < cLine;omega) (by simpa using qx) (by simpa using qy)
 rw [Ap,<- l1] at q;exact q
theorem j4f(e:Nat->Bool)(ha:SqL X.K H a xs)(hb:SqL X.K H b ys)(hl:xs.length=ys.length)(he:∀ j x y,xs[j]?=some x->ys[j]?=some y->EqD X H k x y (e j)):RnD X H (k+1) (.ref a) (.ref b) ((List.range xs.length).all e):=fun pins σ s A u v I hu rx ry=>by
 cases rx;cases ry;obtain⟨i1,r1,p1,_⟩:=I.list ha;obtain⟨i2,r2,p2,_⟩:=I.list hb;have l1:=r1.length;have l2:=r2.length;have q:=SeqAt.RcNeAt.lists (A:=A) (e:=e) p1.isList p2.isList (by simp;omega) (by omega) fun j h1 h2=>by
  obtain⟨x,ex,qx⟩:=j3o r1 (j:=j) (by simpa using h1);obtain⟨y,ey,qy⟩:=j3o r2 (j:=j) (by simpa using h2);exact he j x y ex ey pins σ s A.in1 _ _ I (by show A.units+1+k < cLine;omega) (by simpa using qx) (by simpa using qy)
 rw [Ap,<- l1] at q;exact q
theorem k5x(ha:SqL X.K H a xs)(hb:SqL X.K H b ys)(hl:xs.length≠ys.length):RcD X H k (.ref a) (.ref b) false:=fun pins σ s A u v I hu rx ry=>by
 cases rx;cases ry;obtain⟨i1,r1,p1,_⟩:=I.list ha;obtain⟨i2,r2,p2,_⟩:=I.list hb;have l1:=r1.length;have l2:=r2.length;exact SeqAt.RcAt.lists_lengths p1.isList p2.isList (by simp;omega) (by omega)
theorem j78(ha:SqL X.K H a xs)(hb:SqL X.K H b ys)(hl:xs.length≠ys.length):RnD X H k (.ref a) (.ref b) false:=fun pins σ s A u v I hu rx ry=>by
 cases rx;cases ry;obtain⟨i1,r1,p1,_⟩:=I.list ha;obtain⟨i2,r2,p2,_⟩:=I.list hb;have l1:=r1.length;have l2:=r2.length;exact SeqAt.RcNeAt.lists_lengths p1.isList p2.isList (by simp;omega) (by omega)
theorem j70(e:Nat->Bool)(ha:SqT X.K H a xs)(hb:SqT X.K H b ys)(hl:xs.length=ys.length)(he:∀ j x y,xs[j]?=some x->ys[j]?=some y->EqD X H k x y (e j)):RcD X H (k+1) (.ref a) (.ref b) ((List.range xs.length).all e):=fun pins σ s A u v I hu rx ry=>by
 cases rx;cases ry;obtain⟨i1,r1,p1,_⟩:=I.tuple ha;obtain⟨i2,r2,p2,_⟩:=I.tuple hb;have l1:=r1.length;have l2:=r2.length;have q:=SeqAt.RcAt.tuples (A:=A) (e:=e) p1 p2 (by omega) fun j h1 h2=>by
  obtain⟨x,ex,qx⟩:=j3o r1 (j:=j) (by simpa using h1);obtain⟨y,ey,qy⟩:=j3o r2 (j:=j) (by simpa using h2);exact he j x y ex ey pins σ s A.in1 _ _ I (by show A.units+1+k < cLine;omega) (by simpa using qx) (by simpa using qy)
 rw [Ap,Ap,<- l1,<- l2,hl,Nat.min_self,<- hl] at q
 simpa using q
theorem j2w(n:Nat):(List.range n).all (fun _=>true)=true:=by simp
theorem k0u(hu:X.A.units+100 < cLine):OpR X (compareOp .Eq) (fun x y H Q=>∃ k c,k<=100/\RcD X H k x y c/\Q (.bl c) H):=by
 intro pins s σ H x y v u Q I rx ry h;obtain⟨k,c,hk,hc,q⟩:=h;exact hc pins σ s X.A v u I (by omega) rx ry X.prog X.w X.xe _ ⟨.bl c,H,I,rfl,q⟩
theorem j40(hu:X.A.units+100 < cLine):OpR X (compareOp .NotEq) (fun x y H Q=>∃ k c,k<=100/\RnD X H k x y c/\Q (.bl (!c)) H):=by
 intro pins s σ H x y v u Q I rx ry h;obtain⟨k,c,hk,hc,q⟩:=h;exact hc pins σ s X.A v u I (by omega) rx ry X.prog X.w X.xe _ ⟨.bl (!c),H,I,rfl,q⟩
end
end L2
namespace L2
open PySem PySem.Spec PyProof.Rows
section
variable{X:Cx}{H:Hp}{k:Nat}{a b:Addr}{xs ys:List V}
theorem k5i(e:Nat->Bool)(ha:SqT X.K H a xs)(hb:SqT X.K H b ys)(hl:xs.length=ys.length)(he:∀ j x y,xs[j]?=some x->ys[j]?=some y->EqD X H k x y (e j)):RnD X H (k+1) (.ref a) (.ref b) ((List.range xs.length).all e):=fun pins σ s A u v I hu rx ry=>by
 cases rx;cases ry;obtain⟨i1,r1,p1,_⟩:=I.tuple ha;obtain⟨i2,r2,p2,_⟩:=I.tuple hb;have l1:=r1.length;have l2:=r2.length;have q:=SeqAt.RcNeAt.tuples (A:=A) (e:=e) p1 p2 (by omega) fun j h1 h2=>by
  obtain⟨x,ex,qx⟩:=j3o r1 (j:=j) (by simpa using h1);obtain⟨y,ey,qy⟩:=j3o r2 (j:=j) (by simpa using h2);exact he j x y ex ey pins σ s A.in1 _ _ I (by show A.units+1+k < cLine;omega) (by simpa using qx) (by simpa using qy)
 rw [Ap,Ap,<- l1,<- l2,hl,Nat.min_self,<- hl] at q
 simpa using q
end
section
variable{X:Cx}{o e f c:Expr}{σ:St}{H:Hp}{Q:VK}{T:Bool->Hp->Prop}{ap cp pos:Pos}{body rest:List Stmt}{D:Ends}
theorem q41{name:Str}{Ty id:String}{r:V->List V->Hp->VK->Prop}(pa:PlainAttrs Ty)(slot:Slot Ty name id)(hty:typeOf (.builtin id)=pure (.type "method_descriptor"))(hm:MtR X id r)
  (h:Ev X o σ H fun x H1=>tyV X.K Ty x H1/\Ev X e σ H1 fun y H2=>r x [y] H2 Q) (hbase:attributeBase o name X.env (eval o X.env)=eval o X.env:=by rfl)
  (hfew:((backTo cp (starEach [e] X.env)).all (fun x=>!x.1) && (backToKw cp (keywordEach [] X.env)).all (fun x=>x.1.isSome) && decide ([e].length+([]:List Keyword).length+(if([]:List Keyword).isEmpty then 0 else 1) < 30))=true:=by rfl)
  (hline:(ap.endLine == cp.line)=true:=by rfl) (hs:starEach [e] X.env=(false,eval e X.env) :: starEach [] X.env:=by rfl) (hplain:(backTo cp (starEach [] X.env)).any (·.1)=false:=by rfl) (hst:isStar e=false:=by rfl):Ev X (.Call (.Attribute o name ap) [e] [] cp) σ H Q:=
 j12 (k87 pa slot hty hm j02 (j4o (es:=[e])) hbase hfew hline hs hplain) (h.mono fun x H1 ⟨t,h2⟩=>⟨t,j0a (h2.mono fun y H2 q=>j0c q) hst⟩)
theorem j9w{name:Str}{Ty id:String}{r:V->List V->Hp->VK->Prop}(pa:PlainAttrs Ty)(slot:Slot Ty name id)(hty:typeOf (.builtin id)=pure (.type "method_descriptor"))(hm:MtR X id r)
  (h:Ev X o σ H fun x H1=>tyV X.K Ty x H1/\Ev X e σ H1 fun y H2=>Ev X f σ H2 fun z H3=>r x [y,z] H3 Q) (hbase:attributeBase o name X.env (eval o X.env)=eval o X.env:=by rfl)
  (hfew:((backTo cp (starEach [e,f] X.env)).all (fun x=>!x.1) && (backToKw cp (keywordEach [] X.env)).all (fun x=>x.1.isSome) && decide ([e,f].length+([]:List Keyword).length+(if([]:List Keyword).isEmpty then 0 else 1) < 30))=true:=by rfl)
  (hline:(ap.endLine == cp.line)=true:=by rfl) (hs:starEach [e,f] X.env=(false,eval e X.env) :: starEach [f] X.env:=by rfl) (hplain:(backTo cp (starEach [f] X.env)).any (·.1)=false:=by rfl) (hst:isStar e=false:=by rfl) (hsf:isStar f=false:=by rfl):Ev X (.Call (.Attribute o name ap) [e,f] [] cp) σ H Q:=
 j12 (k87 pa slot hty hm j02 (j4o (es:=[e,f])) hbase hfew hline hs hplain) (h.mono fun x H1 ⟨t,h2⟩=>⟨t,j0a (h2.mono fun y H2 h3=>j0a (h3.mono fun z H3 q=>j0c q) hsf) hst⟩)
def insertAt(xs:List V)(i:Nat)(y:V):List V:=xs.take i++y :: xs.drop i
def k9l:V->List V->Hp->VK->Prop:=fun x vs H Q=>∃ l xs i y,x = .ref l/\vs=[.int i,y]/\H l=some (.lst xs)/\0<=i/\i.toNat<=xs.length/\xs.length < sizeLine/\Q .non (upd H l (.lst (insertAt xs i.toNat y)))
theorem q1a{i:Int}(h0:0<=i)(h:i<=16777216):¬(!Builtin.List.listFitsIndex i)=true:=by
 have e:Builtin.List.listFitsIndex i=true:=by
  unfold Builtin.List.listFitsIndex;rw [Bh,decide_eq_true_eq,decide_eq_true_eq];omega
 rw [e];exact Ak
theorem j2q:MtM X "list.insert" k9l:=by
 intro pins s σ H x vs v us Q I rx rv h;obtain⟨l,xs,i,y,rfl,rfl,hH,h0,hi,hz,q⟩:=h;cases rx;obtain⟨u,w',rfl,ru,rw'⟩:=rv.two;obtain⟨tk,rfl⟩:=ru;obtain⟨z,its,n,r,hl,e⟩:=I.lstM hH;have hs:sizeLine=16777216:=sizeLine_eq;have z2:its.toArray.size<=sizeLine:=by rw [Ap,<- hl];exact z
 have mm:=AutoSeq1.list_insert_list_int_val_1 l its.toArray n i tk w' (q1a h0 (by omega)) z2;refine call_meets F.slot_list_insert ⟨_,e,rfl⟩ F.entry_list_insert (F.args_list_insert_3 _ _ _) mm ⟨e,?_⟩;have ef:(fun xs:Array Value=>have k:=if i < 0 then(i+(xs.size:Int)).toNat else min i.toNat xs.size;(xs.extract 0 k).push w'++xs.extract k) its.toArray=(its.take i.toNat++w' :: its.drop i.toNat).toArray:=by
  have hn:¬ i < 0:=by omega
  have hm:min i.toNat its.length=i.toNat:=by omega
  simp only [hn,if_false,Ap,hm];apply Array.ext';simp;exact Cw (by simp)
 refine⟨.non,_,I.lset (its':=its.take i.toNat++w' :: its.drop i.toNat) hH e ef ((r.take i.toNat).append (.cons rw' (r.drop i.toNat))) ?_,rfl,q⟩;rw [Af,Bd,Bt,Dm];omega
def k9u:V->List V->Hp->VK->Prop:=fun x vs H Q=>∃ a kvs k y,x = .ref a/\vs=[kV k,y]/\H a=some (.dK kvs)/\kvs.length < sizeLine /\
 ((∃ v,valV kvs k=some v/\Q v H)\/(valV kvs k=none/\Q y (upd H a (.dK (putK kvs k y)))))
theorem k31:MtM X "dict.setdefault" k9u:=by
 intro pins s σ H x vs v us Q I rx rv h;obtain⟨a,kvs,k,y,rfl,rfl,hH,hz,q⟩:=h;cases rx;obtain⟨u,w',rfl,ru,rw'⟩:=rv.two;obtain⟨z,hd,rs,rel,dd⟩:=k92 I.hok hH;have hl:=rel.length;refine call_meetsIn F.slot_dict_setdefault dd.typeIs F.entry_dict_setdefault (F.args_dict_setdefault_3 _ _ _) (kt_meets_setdefault (j0r X.prog X.w) a (j9p ru) hd w') ⟨rs,dd,by omega,fun v hv=>?_,fun hn h' dd' hs=>?_⟩
 ·have rv2:=rel.val k;rw [hv] at rv2
  rcases q with ⟨v',e',q⟩ | ⟨e',_⟩
  ·rw [e'] at rv2;exact⟨v',H,I.tok _,rv2,q⟩
  ·rw [e'] at rv2;exact rv2.elim
 ·have rv2:=rel.val k;rw [hn] at rv2
  rcases q with ⟨v',e',_⟩ | ⟨e',q⟩
  ·rw [e'] at rv2;exact rv2.elim
  ·have he:∃ q,h'.get? a=some q:=let ⟨q,_,_,hq,_⟩:=dd';⟨q,hq⟩
   have hl2:(putK kvs k y).length<=sizeLine:=by have:=j09 kvs k y;omega
   exact⟨y,_,j3m I (by rw [hH];exact True.intro) hs he (k2w hl2 hd (rel.put k rw') dd'),rw',q⟩
theorem j9h:j2s X (.type "int") (fun xs H Q=>∃ b:Bool,xs=[.bl b]/\Q (.int (if b then 1 else 0)) H):=by
 intro pins s σ H xs us Q I r h;obtain⟨b,rfl,q⟩:=h;obtain⟨u,rfl,ru⟩:=vals1 r;cases (show u=Value.bool b from ru);exact call_int_bool ⟨.int (if b then 1 else 0),H,I.tok _,⟨_,rfl⟩,q⟩
theorem j37{els:List Stmt}(Φ:Bool->Hp->Prop)(M:St->Hp->Prop)(hc:Et X c σ H Φ)(ht:∀ H1,Φ true H1->Run X body {D with nx:=M} σ H1)(hu:∀ H1,Φ false H1->Run X els {D with nx:=M} σ H1)
  (hr:∀ σ' H',M σ' H'->Run X rest D σ' H'):Run X (.If c body els pos :: rest) D σ H:=
 j1g (hc.mono fun k H1 p=>by
  cases k with
  | true=>rw [if_pos rfl];exact(ht H1 p).nx hr
  | false=>rw [if_neg Ak];exact(hu H1 p).nx hr)
theorem j5x(W:Nat->St->Hp->Prop){m0:Nat}(h0:W m0 σ H)
  (turn:∀ m σ H,W m σ H->Et X c σ H fun b H1=>if b=true then Run X body {D with nx:=fun σ' H'=>∃ m',m' < m/\W m' σ' H',ct:=fun σ' H'=>∃ m',m' < m/\W m' σ' H',bk:=fun σ' H'=>Run X rest D σ' H'} σ H1 else Run X rest D σ H1)
  (hp:PassesOwn (model X.prog X.w) X.A X.env X.xe:=by exact PassesOwn.never):Run X (.While c body [] pos :: rest) D σ H:=by
 refine j1w (k76 hp j83 j4b) ⟨W,⟨m0,h0⟩,fun m σ1 H1 w1=>(turn m σ1 H1 w1).mono fun b H2 q=>?_⟩;cases b with
 | true=>
  rw [if_pos rfl] at q;exact⟨fun σ' H'=>∃ m',m' < m/\W m' σ' H',fun _ _ h=>h,q⟩
 | false=>
  rw [if_neg Ak] at q;exact q
theorem j7z(h:∀ p,H p=none->Q (.ref p) (upd H p (.dK []))):Ev X (.Dict [] [] pos) σ H Q:=j12 k8d h
theorem k54(h:∀ p,H p=none->Q (.ref p) (upd H p (.dT []))):Ev X (.Dict [] [] pos) σ H Q:=j12 k7y h
theorem j38(hu:X.A.units+1 < cLine)(h:Ev X o σ H fun x H1=>Ev X e σ H1 fun y H2=>∃ a v,x = .ref a/\DGet H2 a y (some v)/\Q v H2)(hs:NoSl e:=by intro _ _;rfl):Ev X (.Subscript o e pos) σ H Q:=j12 (q1f hu j02 j02 hs) h
theorem q13(hu:X.A.units+1 < cLine)(h:Ev X e σ H fun y H1=>Ev X o σ H1 fun x H2=>∃ a r,x = .ref a/\DGet H2 a y r/\T r.isSome H2)(hm:behindInMarks .In o=false:=by with_unfolding_all rfl):Et X (.Compare e [.In] [o] pos) σ H T:=
 k2a (q2o (q3h hu j02 j02) hm) (h.mono fun y H1 h2=>h2.mono fun x H2 ⟨a,r,h3,h4,h5⟩=>⟨a,r,h3,h4,_,rfl,h5⟩)
theorem j5j{p2:Pos}(hu:X.A.units+1 < cLine)(h:Ev X f σ H fun v H1=>Ev X o σ H1 fun x H2=>Ev X e σ H2 fun y H3=>∃ a H4,x = .ref a/\DPut H3 a y v H4/\Run X rest D σ H4)(hs:swapsWith f (some (.Subscript o e p2)) pos.line X.env=pure false:=by rfl) :
  Run X (.Assign [.Subscript o e p2] f pos :: rest) D σ H:=j1w (k9a hu j02 j02 j02 hs) h
end
end L2
namespace Sort2
open PySem PySem.Spec PyProof.Rows
def lexLt(a b:Int×Int):Bool:=if a.1=b.1 then decide (a.2 < b.2) else decide (a.1 < b.1)
theorem j8g(b:Bool)(x y:Value):keyLt' (tuples' b) x y=(do
  let xs <- Builtin.List.listItems x
  let ys <- Builtin.List.listItems y
  for ((p,q),i) in (xs.toList.zip ys.toList).zipIdx do
   if !(<- eqBool p q) then return <- oneLt' (b && i == 0) p q
  return xs.size < ys.size):=rfl
section
variable{prog:Program}{w:World}{A:Around}{E:Value->Shared->Prop}{s:Shared}
def Pr(h:Heap)(a:Addr)(p:Int×Int):Prop:=∃ o n t u,h.get? a=some o/\o.cls = .type "tuple"/\o.data = .seq #[.int p.1 t,.int p.2 u] n
theorem k0w{a b:Int}{t u:Tok}{Q:Bool->Shared->Prop}(h:Q (decide (a=b)) s):wpAny (model prog w) A (eqBool (.int a t) (.int b u)) Q E s:=by
 refine SeqAt.EqAt.int_int a t b u prog w E Q ?_;have e:(a == b)=decide (a=b):=rfl;rw [e];exact h
theorem q3o{a b:Int}{t u:Tok}{Q:Bool->Shared->Prop}(h:Q (decide (a < b)) s):wpAny (model prog w) A (oneLt' false (.int a t) (.int b u)) Q E s:=by
 rw [oneLt'_eq];simp only [At,if_false];refine wpAny_bind ?_;show wpAny _ _ (compareOp .Lt (.int a t) (.int b u)) _ _ _;exact lt_int (wpAny_truthy_bool h)
theorem k6j{x y:Addr}{p q:Int×Int}{Q:Bool->Shared->Prop}(hx:Pr s.heap x p)(hy:Pr s.heap y q)(h:Q (lexLt p q) s):wpAny (model prog w) A (keyLt' (tuples' true) (.ref x) (.ref y)) Q E s:=by
 obtain⟨ox,nx,tx,ux,hox,cx,dx⟩:=hx;obtain⟨oy,ny,ty,uy,hoy,cy,dy⟩:=hy;rw [j8g];refine wpAny_bind (listItems_at hox dx ?_);refine wpAny_bind (listItems_at hoy dy ?_);show wpAny _ _ (forIn [((Value.int p.1 tx,Value.int q.1 ty),0),((Value.int p.2 ux,Value.int q.2 uy),1)] _ _ >>= _) _ _ _;rw [List.forIn_cons];refine wpAny_bind (wpAny_bind ?_)
 dsimp only
 refine wpAny_bind (k0w ?_)
 by_cases c:p.1=q.1
 ·rw [decide_eq_true c];simp only [Dl,At,if_false];refine wpAny_pure ?_
  dsimp only
  rw [List.forIn_cons];refine wpAny_bind ?_
  dsimp only
  refine wpAny_bind (k0w ?_)
  by_cases c2:p.2=q.2
  ·rw [decide_eq_true c2];simp only [Dl,At,if_false];refine wpAny_pure ?_
   dsimp only
   rw [List.forIn_nil];refine wpAny_pure (wpAny_pure ?_);have e:lexLt p q=false:=by unfold lexLt;rw [if_pos c,c2];simp
   rw [e] at h
   simpa using h
  ·rw [decide_eq_false c2];simp only [Fl,if_true];refine wpAny_bind (q3o (wpAny_pure ?_))
   dsimp only
   refine wpAny_pure (wpAny_pure ?_);have e:lexLt p q=decide (p.2 < q.2):=by unfold lexLt;rw [if_pos c]
   rw [e] at h;exact h
 ·rw [decide_eq_false c];simp only [Fl,if_true];refine wpAny_bind (oneLt_int (wpAny_pure ?_))
  dsimp only
  refine wpAny_pure (wpAny_pure ?_);have e:lexLt p q=decide (p.1 < q.1):=by unfold lexLt;rw [if_neg c]
  rw [e] at h;exact h
theorem sz2{x y:Value}:(#[x,y]:Array Value).size<=sizeLine+1:=by
 rw [sizeLine_eq];show 2<=_;decide
theorem k6e(v:Value):firstOfTuple' v=(do
  if(<- typeOf v) != .type "tuple" then return none
  return (<- Builtin.List.listItems v)[0]?):=rfl
theorem k1i{x:Addr}{p:Int×Int}{Q:Option Value->Shared->Prop}(hx:Pr s.heap x p)(h:∀ t,Q (some (.int p.1 t)) s):wpAny (model prog w) A (firstOfTuple' (.ref x)) Q E s:=by
 obtain⟨ox,nx,tx,ux,hox,cx,dx⟩:=hx;rw [k6e];refine wpAny_bind (wpAny_typeOf (T:= "tuple") ⟨ox,hox,cx⟩ ?_);rw [show(Value.type "tuple" != Value.type "tuple")=false by decide];simp only [At,if_false];refine wpAny_bind (listItems_at hox dx ?_);exact wpAny_pure (h tx)
theorem q1b{x y:Addr}{p q:Int×Int}{Q:SortKind->Shared->Prop}(hx:Pr s.heap x p)(hy:Pr s.heap y q)(h:Q (tuples' true) s):wpAny (model prog w) A (keyKind' #[.ref x,.ref y]) Q E s:=by
 rw [keyKind'_eq,show(#[.ref x,.ref y]:Array Value)=[.ref x,.ref y].toArray from rfl,List.mapM_toArray];refine wpAny_bind (wpAny_map ?_);rw [List.mapM_cons];refine wpAny_bind (k1i hx fun t=>?_);rw [List.mapM_cons];refine wpAny_bind (wpAny_bind (k1i hy fun u=>?_));rw [List.mapM_nil];refine wpAny_bind (wpAny_pure (wpAny_pure (wpAny_pure ?_)));rw [if_pos (by simp)];refine wpAny_bind (wpAny_rule ?_);rw [oneTypeOnly'_eq];show wpAny _ _ ((Array.mapM typeOf [Value.int p.1 t,Value.int q.1 u].toArray >>= _) >>= _) _ _ _;rw [List.mapM_toArray];have e1:[Value.int p.1 t,Value.int q.1 u].mapM typeOf=(pure [Value.type "int",Value.type "int"]:Sem _):=rfl;rw [e1];refine wpAny_pure ?_;have e2:(if((#[Value.type "int",Value.type "int"]:Array Value).all fun x=>x == (#[Value.type "int",Value.type "int"]:Array Value)[0])=true then some (#[Value.type "int",Value.type "int"]:Array Value)[0] else none)=some (Value.type "int"):=by
  rw [if_pos]
  ·rfl
  ·simp
 show Q (tuples' (Option.any (fun x=>x != Value.type "tuple") _)) s;rw [e2];exact h
theorem wp_at{st:SortSt}{x y:Addr}{p q:Int×Int}{i j:Nat}{Q:Option Bool->SortSt->Prop}(hk:kindOf st=tuples' true)(hi:(arrOf st)[i]?=some (.ref x,.ref x))(hj:(arrOf st)[j]?=some (.ref y,.ref y))(hx:Pr s.heap x p)(hy:Pr s.heap y q)(h:Q (some (lexLt p q)) st) :
  wpS (model prog w) A E s (ltAt' i j) Q st:=by
 rw [ltAt'_eq];refine wpS_bind (wpS_get ?_);show wpS _ _ _ _ (elem' (arrOf st) i >>= fun a=>elem' (arrOf st) j >>= fun b=>lt' a b) Q st;rw [elem'_eq,elem'_eq,hi,hj];refine wpS_bind (wpS_pure (wpS_bind (wpS_pure ?_)));rw [lt'_eq];refine wpS_bind (wpS_get ?_);rw [hk];refine wpS_bind (wpS_lift (wpAny_attempt (k6j hx hy ⟨rfl,?_⟩)));exact wpS_pure h
def j2n(x y:Addr)(p q:Int×Int):Array Keyed:=if lexLt q p then #[(.ref y,.ref y),(.ref x,.ref x)] else #[(.ref x,.ref x),(.ref y,.ref y)]
theorem k5z{x y:Addr}{p q:Int×Int}{Q:Option Nat->SortSt->Prop}(hx:Pr s.heap x p)(hy:Pr s.heap y q)
  (h:Q (some 2) (SortSt.mk' (tuples' true) (j2n x y p q) #[] 7 none)):wpS (model prog w) A E s (countRun' 0 2) Q (SortSt.mk' (tuples' true) #[(.ref x,.ref x),(.ref y,.ref y)] #[] 7 none):=by
 rw [countRun0_eq];refine wpS_bind ?_;unfold ascLoop;refine wpS_mono (wpS_forRange (I:=fun i c st=>st=SortSt.mk' (tuples' true) #[(.ref x,.ref x),(.ref y,.ref y)] #[] 7 none/\c=(none,i)/\(i=2->lexLt q p=false))
  (Q:=fun c st=>st=SortSt.mk' (tuples' true) #[(.ref x,.ref x),(.ref y,.ref y)] #[] 7 none/\((c=(none,1)/\lexLt q p=true)\/(c=(none,2)/\lexLt q p=false))) ?_ ?_ ⟨rfl,rfl,fun h=>by cases h⟩) ?_
 ·rintro i c st h1 h2 ⟨rfl,rfl,hI⟩;have e:i=1:=by omega
  subst e;refine wpS_bind (wp_at rfl rfl rfl hy hx ?_)
  dsimp only
  cases hb:lexLt q p with
  | true=>
   rw [if_pos rfl];exact wpS_pure ⟨rfl,.inl ⟨rfl,rfl⟩⟩
  | false=>
   rw [if_neg Ak];exact wpS_pure ⟨rfl,rfl,fun _=>rfl⟩
 ·rintro c st ⟨rfl,rfl,hI⟩;exact⟨rfl,.inr ⟨rfl,hI rfl⟩⟩
 ·rintro c st ⟨rfl,⟨rfl,hb⟩ | ⟨rfl,hb⟩⟩
  ·dsimp only
   rw [if_neg (by decide),if_neg (by decide)];unfold descPart;refine wpS_bind (wpS_lift (wpAny_rule ⟨rfl,?_⟩));unfold descLoop;refine wpS_bind (wpS_mono (wpS_forRange (I:=fun i c st=>c=(none,2,0)/\st=SortSt.mk' (tuples' true) #[(.ref x,.ref x),(.ref y,.ref y)] #[] 7 none) (Q:=fun c st=>c=(none,2,0)/\st=SortSt.mk' (tuples' true) #[(.ref x,.ref x),(.ref y,.ref y)] #[] 7 none) (fun i c st h1 h2 _=>by omega) (fun c st h=>h) ⟨rfl,rfl⟩) ?_);rintro c st ⟨rfl,rfl⟩
   dsimp only
   rw [if_neg (by decide)];unfold tail3;refine wpS_bind (wpS_reverse ?_);unfold ascLoop;refine wpS_bind (wpS_mono (wpS_forRange (I:=fun i c st=>c=(none,2)/\st=SortSt.mk' (tuples' true) #[(.ref y,.ref y),(.ref x,.ref x)] #[] 7 none) (Q:=fun c st=>c=(none,2)/\st=SortSt.mk' (tuples' true) #[(.ref y,.ref y),(.ref x,.ref x)] #[] 7 none) (fun i c st h1 h2 _=>by omega) (fun c st h=>h) ⟨rfl,rfl⟩) ?_);rintro c st ⟨rfl,rfl⟩
   dsimp only
   refine wpS_pure ?_;unfold j2n at h;rw [if_pos hb] at h;exact h
  ·dsimp only
   rw [if_pos (by decide)];refine wpS_pure ?_;unfold j2n at h;rw [if_neg (by rw [hb];exact Ak)] at h;exact h
theorem q0o{x y:Addr}{p q:Int×Int}{Q:Unit->SortSt->Prop}(hx:Pr s.heap x p)(hy:Pr s.heap y q)(h:∀ st,arrOf st=j2n x y p q->failedOf st=none->Q () st) :
  wpS (model prog w) A E s sortRuns' Q (SortSt.mk' (tuples' true) #[(.ref x,.ref x),(.ref y,.ref y)] #[] 7 none):=by
 rw [sortRuns'_eq];refine wpS_bind (wpS_get ?_)
 dsimp only
 have hmr:minRun' 2 2 0=2:=by rw [minRun'_succ,if_pos (by decide)]
 show wpS _ _ _ _ ((forIn [0:2] _ _) >>= _) _ _;have sz:(#[(Value.ref x,Value.ref x),(Value.ref y,Value.ref y)]:Array Keyed).size=2:=rfl;refine wpS_bind (wpS_mono (wpS_forRange (I:=fun i c st=>(i=0/\c=(none,0)/\st=SortSt.mk' (tuples' true) #[(.ref x,.ref x),(.ref y,.ref y)] #[] 7 none)\/(1<=i/\c=(none,2)/\st=SortSt.mk' (tuples' true) (j2n x y p q) #[(0,2,0)] 7 none))
  (Q:=fun c st=>c=(none,2)/\st=SortSt.mk' (tuples' true) (j2n x y p q) #[(0,2,0)] 7 none) ?_ ?_ (.inl ⟨rfl,rfl,rfl⟩)) ?_)
 ·rintro i c st h1 h2 (⟨rfl,rfl,rfl⟩ | ⟨hi,rfl,rfl⟩)
  ·dsimp only
   rw [if_neg (by show ¬(0>=2);decide)];refine wpS_bind ?_;show wpS _ _ _ _ (countRun' 0 2) _ _;refine k5z hx hy ?_
   dsimp only
   rw [if_neg (by show ¬(2 < minRun' 2 2 0);rw [hmr];decide)];refine wpS_bind (wpS_get ?_);show wpS _ _ _ _ (modify _ >>= _) _ _;exact wpS_bind (wpS_modify (wpS_pure (.inr ⟨Ag _,rfl,rfl⟩)))
  ·dsimp only
   rw [if_pos (by show 2>=2;decide)];exact wpS_pure ⟨rfl,rfl⟩
 ·rintro c st (⟨h1,_,_⟩ | ⟨_,hc,hs⟩)
  ·exact absurd h1 (by decide)
  ·exact⟨hc,hs⟩
 ·rintro c st ⟨rfl,rfl⟩
  dsimp only
  refine wpS_bind (wpS_mono (wpS_forRange (I:=fun _ c st=>st=SortSt.mk' (tuples' true) (j2n x y p q) #[(0,2,0)] 7 none/\c=(none,())) (Q:=fun c st=>st=SortSt.mk' (tuples' true) (j2n x y p q) #[(0,2,0)] 7 none/\c=(none,())) ?_ (fun _ _ hh=>hh) ⟨rfl,rfl⟩) ?_)
  ·rintro i c st _ _ ⟨rfl,rfl⟩;refine wpS_bind (wpS_get ?_);rw [if_pos (by show 1<=1;decide)];exact wpS_pure ⟨rfl,rfl⟩
  ·rintro c st ⟨rfl,rfl⟩;exact wpS_pure (h _ rfl rfl)
theorem k7i{a x y:Addr}{p q:Int×Int}{n:Nat}{P:Fin->Shared->Prop}(ho:s.heap.get? a=some (seqObj "list" #[.ref x,.ref y] n))(hax:a≠x)(hay:a≠y)(hx:Pr s.heap x p)(hy:Pr s.heap y q)
  (h:P (.done (.ret .none)) {s with heap:=sortedHeap s.heap a [.ref x,.ref y] (if lexLt p q then #[.ref y,.ref x] else #[.ref x,.ref y])}) :
  wpAny (model prog w) A (Builtin.«list.sort» ⟨[.ref a],[(Str.ofString "reverse",.bool true)]⟩) P E s:=by
 rw [list_sort_rev];have ha:a < s.heap.objs.size:=Ai ho;refine wpAny_bind (listItems_at ho rfl ?_);refine wpAny_bind (listUpdate_at ho rfl ?_);obtain⟨e1,ho1⟩:∃ e1,(s.heap.update a (Obj.mapSeq fun _=>#[])).get? a=some (seqObj "list" #[] e1):=⟨_,get?_update_seq ho (fun _=>#[])⟩;refine wpAny_bind (seqEpoch_at ho1 rfl ?_);refine wpAny_bind (wpAny_newTuple ?_);refine wpAny_bind (wpAny_newList ?_);refine wpAny_holding ?_;have ho6:(((s.heap.update a (Obj.mapSeq fun _=>#[])).push (seqObj "tuple" [Value.ref x,Value.ref y].toArray 0)).push (seqObj "list" #[] 0)).get? a=some (seqObj "list" #[] e1):=
  Ad _ (Ad _ ho1)
 show wpAny (model prog w) A _ P E {s with heap:=((s.heap.update a (Obj.mapSeq fun _=>#[])).push (seqObj "tuple" [Value.ref x,Value.ref y].toArray 0)).push (seqObj "list" #[] 0)};have keep:∀ z r,a≠z->Pr s.heap z r->Pr (((s.heap.update a (Obj.mapSeq fun _=>#[])).push (seqObj "tuple" [Value.ref x,Value.ref y].toArray 0)).push (seqObj "list" #[] 0)) z r:=by
  rintro z r hz ⟨o,m,t,u,q1,q2⟩;exact⟨o,m,t,u,Ad _ (Ad _ ((Bm _ _ hz).trans q1)),q2⟩
 have kx:=keep x p hax hx;have ky:=keep y q hay hy
 dsimp only
 rw [if_pos rfl];refine wpAny_bind (wpAny_rule ?_);rw [if_neg (by show ¬(2 < 2);decide)];refine wpAny_bind (q1b kx ky ?_);rw [if_neg (by show ¬(2 < 2);decide)];have e2:(if true=true then((#[Value.ref x,Value.ref y]:Array Value).zip #[Value.ref x,Value.ref y]).reverse else(#[Value.ref x,Value.ref y]:Array Value).zip #[Value.ref x,Value.ref y])=#[(Value.ref y,Value.ref y),(Value.ref x,Value.ref x)]:=by
  rw [if_pos rfl];simp
 rw [e2];refine wpAny_bind (wpAny_mono (q0o (Q:=fun _ st=>arrOf st=j2n y x q p/\failedOf st=none) ky kx fun st h1 h2=>⟨h1,h2⟩) ?_ fun _ _ e=>e);rintro ⟨⟨⟩,st'⟩ s' ⟨rfl,hs,hf⟩
 dsimp only
 have e3:(if true=true then((arrOf st').map (·.2)).reverse else(arrOf st').map (·.2))=(if lexLt p q then #[.ref y,.ref x] else #[.ref x,.ref y]):=by
  rw [if_pos rfl,hs];unfold j2n
  split <;> simp
 refine wpAny_bind (seqEpoch_at ho6 rfl ?_);refine wpAny_bind (listUpdate_at ho6 rfl ?_ (hsz2:=by rw [e3];split <;> exact sz2));rw [hf];simp only [bne_self_eq_false,At,if_false];refine wpAny_pure ?_;have e4:(fun _:Array Value=>if True then((arrOf st').map (·.2)).reverse else(arrOf st').map (·.2))=fun _=>(if lexLt p q then #[.ref y,.ref x] else #[.ref x,.ref y]):=by
  funext _
  rw [if_pos trivial];rw [if_pos rfl] at e3;exact e3
 rw [e4];exact h
theorem j9n{l x y:Addr}{p q:Int×Int}{Q:Value->Shared->Prop}(hl:s.heap.IsList l #[.ref x,.ref y])(hx:Pr s.heap x p)(hy:Pr s.heap y q)
  (h:∀(h':Heap) (e:Nat),(∀ b u,s.heap.get? b=some u->h'.get? b=some u)->h'.get? (s.heap.objs.size+1)=some (seqObj "list" (if lexLt p q then #[.ref y,.ref x] else #[.ref x,.ref y]) e)->Q (.ref (s.heap.objs.size+1)) {s with heap:=h'}) :
  wpAny (model prog w) A (call (.builtin "sorted") [.ref l] [(Str.ofString "reverse",.bool true)]) Q E s:=by
 refine call_function_entry_kw kind_sorted plain_sorted entry_sorted (args_sorted_rev _ _) ?_;unfold Builtin.«sorted»;refine wpAny_bind (m:=checkCount "sorted" 1 1 _) (wpAny_pure ?_);refine wpAny_bind (collect_list (vs:=[.ref x,.ref y]) hl ?_);refine wpAny_bind (wpAny_newList ?_);have hsz:((s.heap.push (seqObj "list" #[] 0)).update s.heap.objs.size (Obj.mapSeq (·++[Value.ref x,Value.ref y].toArray))).objs.size=s.heap.objs.size+1:=by
  rw [Heap.size_update,size_push']
 have hoL:(((s.heap.push (seqObj "list" #[] 0)).update s.heap.objs.size (Obj.mapSeq (·++[Value.ref x,Value.ref y].toArray))).push (seqObj "list" [Value.ref x,Value.ref y].toArray 0)).get? (s.heap.objs.size+1)=some (seqObj "list" [Value.ref x,Value.ref y].toArray 0):=by
  rw [<- hsz];exact Aj _ rfl
 have lx:x < s.heap.objs.size:=let ⟨_,_,_,_,e,_⟩:=hx;Ai e
 have ly:y < s.heap.objs.size:=let ⟨_,_,_,_,e,_⟩:=hy;Ai e
 have keep:∀ z r,Pr s.heap z r->Pr (((s.heap.push (seqObj "list" #[] 0)).update s.heap.objs.size (Obj.mapSeq (·++[Value.ref x,Value.ref y].toArray))).push (seqObj "list" [Value.ref x,Value.ref y].toArray 0)) z r:=by
  rintro z r ⟨o,m,t,u,q1,q2⟩;have hz:=Ai q1;exact⟨o,m,t,u,Ad _ ((Bm _ _ (Cd hz)).trans (Ad _ q1)),q2⟩
 show wpAny _ _ _ _ _ {s with heap:=((s.heap.push (seqObj "list" #[] 0)).update s.heap.objs.size (Obj.mapSeq (·++[Value.ref x,Value.ref y].toArray))).push (seqObj "list" [Value.ref x,Value.ref y].toArray 0)};rw [hsz];refine wpAny_bind (wpAny_holding (wpAny_call_entry_kw slot_list_sort ⟨_,hoL,rfl⟩ entry_list_sort (k7i hoL (Cd (Bu lx)) (Cd (Bu ly)) (keep x p hx) (keep y q hy) ⟨_,rfl,?_⟩) (args_list_sort_rev _ _)));obtain⟨e,he⟩:=sortedAll_at s.heap [Value.ref x,Value.ref y] (if lexLt p q then #[.ref y,.ref x] else #[.ref x,.ref y]);exact wpAny_pure ⟨_,rfl,h _ e (fun b u hb=>sortedAll_old hb) he⟩
end
end Sort2
namespace L2
open PySem PySem.Spec PyProof.Rows Sort2
section
variable{X:Cx}{e:Expr}{σ:St}{H:Hp}{Q:VK}{pos p kp cp:Pos}{j:Nat}
theorem q3p{pins:List (Addr×Obj)}{s:Shared}{a:Addr}{i j:Int}(I:Inv X pins σ H s)(h:H a=some (.tup [.int i,.int j])):Pr s.heap a (i,j):=by
 obtain⟨its,r,pl,_⟩:=I.tuple (SqT.of h);obtain⟨u,v,rfl,⟨t,rfl⟩,⟨t',rfl⟩⟩:=vals2 r;obtain⟨o,ho,hc,n,hd⟩:=pl;exact⟨o,n,t,t',ho,hc,hd⟩
theorem j6s(hm:X.mg "sorted" = none) (h:Ev X e σ H fun v H1=>∃ l x y a b c d,v = .ref l/\H1 l=some (.lst [.ref x,.ref y])/\H1 x=some (.tup [.int a,.int b])/\H1 y=some (.tup [.int c,.int d]) /\
   ∀ r,H1 r=none->Q (.ref r) (upd H1 r (.lst (if lexLt (a,b) (c,d) then [.ref y,.ref x] else [.ref x,.ref y])))) (hg:Gl X "sorted":=by rfl)
  (he:backTo pos (starEach [e] X.env)=(false,eval e X.env) :: backTo pos (starEach [] X.env):=by rfl) (hplain:(backTo pos (starEach [e] X.env)).any (·.1)=false:=by rfl) (hst:isStar e=false:=by rfl) :
  Ev X (.Call (.Name "sorted" p) [e] [⟨some "reverse",.Constant (.bool true) j cp,kp⟩] pos) σ H Q:=by
 refine⟨fun pins s I=>?_⟩;refine wpAny_Call_Name_kw (j47 I hg hm PyProof.Rows.boot_sorted ?_);have hE:Ea X [e] σ H fun vs H1=>∃ l x y a b c d,vs=[.ref l]/\H1 l=some (.lst [.ref x,.ref y])/\H1 x=some (.tup [.int a,.int b])/\H1 y=some (.tup [.int c,.int d]) /\
   ∀ r,H1 r=none->Q (.ref r) (upd H1 r (.lst (if lexLt (a,b) (c,d) then [.ref y,.ref x] else [.ref x,.ref y]))):=
  j0a (h.mono fun v H1 ⟨l,x,y,a,b,c,d,e1,r1⟩=>j0c ⟨l,x,y,a,b,c,d,by rw [e1],r1⟩) hst
 refine callWith_kw (thn (hE.run pos pins s I) fun us s1 ⟨vs,H1,I1,r1,l,x,y,a,b,c,d,ev,hl,hx,hy,q⟩=>?_) he hplain;subst ev;obtain⟨u,rfl,ru⟩:=vals1 r1;cases (show u=Value.ref l from ru);refine kws_cons (wpAny_pure (kws_nil ?_));obtain⟨its,r2,pl,_⟩:=I1.list (SqL.of hl);obtain⟨u,v,rfl,ru,rv⟩:=vals2 r2;cases (show u=Value.ref x from ru);cases (show v=Value.ref y from rv);refine j9n pl.isList (q3p I1 hx) (q3p I1 hy) fun h' e kp he=>?_;refine⟨.ref _,_,I1.laid' (s':={s1 with heap:=h'}) kp rfl rfl (Eh _) (show ObjOk X.prog X.w _ h' _ (.lst (if lexLt (a,b) (c,d) then [.ref y,.ref x] else [.ref x,.ref y])) from ?_),rfl,q _ (I1.hok.fresh (Eh _))⟩
 split at he
 ·rename_i hb;rw [if_pos hb];exact⟨by show 2<=sizeLine;rw [sizeLine_eq];decide,[.ref y,.ref x],e,.cons rfl (.cons rfl .nil),he⟩
 ·rename_i hb;rw [if_neg hb];exact⟨by show 2<=sizeLine;rw [sizeLine_eq];decide,[.ref x,.ref y],e,.cons rfl (.cons rfl .nil),he⟩
end
end L2
namespace Nt
open PySem
abbrev Net:=List (Str×List Str)
abbrev End:=Nat×Nat
def row(n:Net)(r:Nat):List Str:=((n[r]?).map (·.2)).getD []
def j15(n:Net)(e:End):Option Str:=(row n e.1)[e.2]?
def j0q(r:Nat)(ts:List Str)(p:Nat):List (Str×End):=(ts.zipIdx p).map fun x=>(x.1,(r,x.2))
def j05(r:Nat):Net->List (Str×End)
 | []=>[]
 | a :: n=>j0q r a.2 0++j05 (r+1) n
def j06(n:Net):List (Str×End):=j05 0 n
def ends(n:Net):List End:=(j06 n).map (·.2)
def ties(n:Net):List Str:=n.flatMap (·.2)
def pos(n:Net)(z:Str):List End:=((j06 n).filter fun x=>decide (x.1=z)).map (·.2)
theorem mem_rowSeats{r:Nat}{ts:List Str}{p:Nat}{z:Str}{e:End}:(z,e)∈j0q r ts p↔e.1=r/\p<=e.2/\ts[e.2 - p]?=some z:=by
 unfold j0q;rw [Am]
 constructor
 ·rintro ⟨⟨y,k⟩,hm,he⟩;cases he;have:=Ee.mp hm;exact⟨rfl,this.1,this.2⟩
 ·rintro ⟨h1,h2,h3⟩;refine⟨(z,e.2),Ee.mpr ⟨h2,h3⟩,?_⟩;rw [<- h1]
theorem mem_seatsFrom:∀{n:Net} {k:Nat} {z:Str} {e:End},(z,e)∈j05 k n↔k<=e.1/\(row n (e.1 - k))[e.2]?=some z
 | [],k,z,e=>by
  constructor
  ·intro h;cases h
  ·rintro ⟨_,h⟩;simp [row] at h
 | a :: n,k,z,e=>by
  unfold j05;rw [Ba,mem_rowSeats,mem_seatsFrom]
  constructor
  ·rintro (⟨h1,_,h3⟩ | ⟨h1,h2⟩)
   ·refine⟨by omega,?_⟩;rw [show e.1 - k=0 by omega]
    simpa [row] using h3
   ·refine⟨by omega,?_⟩;rw [show e.1 - k=(e.1 - (k+1))+1 by omega]
    simpa [row] using h2
  ·rintro ⟨h1,h2⟩
   rcases Ce k e.1 with h | h
   ·refine .inr ⟨h,?_⟩;rw [show e.1 - k=(e.1 - (k+1))+1 by omega] at h2
    simpa [row] using h2
   ·refine .inl ⟨by omega,Bi _,?_⟩;rw [show e.1 - k=0 by omega] at h2
    simpa [row] using h2
theorem mem_seats{n:Net}{z:Str}{e:End}:(z,e)∈j06 n↔j15 n e=some z:=by
 unfold j06 j15;rw [mem_seatsFrom];simp
theorem mem_ends{n:Net}{e:End}:e∈ends n↔∃ z,j15 n e=some z:=by
 unfold ends;rw [Am]
 constructor
 ·rintro ⟨⟨z,e'⟩,h,rfl⟩;exact⟨z,mem_seats.mp h⟩
 ·rintro ⟨z,h⟩;exact⟨(z,e),mem_seats.mpr h,rfl⟩
theorem mem_pos{n:Net}{z:Str}{e:End}:e∈pos n z↔j15 n e=some z:=by
 unfold pos;rw [Am]
 constructor
 ·rintro ⟨⟨y,e'⟩,h,rfl⟩;rw [Dg,decide_eq_true_eq] at h;obtain⟨h1,h2⟩:=h;subst h2;exact mem_seats.mp h1
 ·intro h;exact⟨(z,e),Dg.mpr ⟨mem_seats.mpr h,by simp⟩,rfl⟩
theorem j52(r:Nat):∀(ts:List Str) (p:Nat),(j0q r ts p).map (·.1)=ts:=by
 intro ts p;unfold j0q;rw [Cc];have:((fun x:Str×End=>x.1) ∘ fun x:Str×Nat=>(x.1,(r,x.2)))=Prod.fst:=rfl;rw [this,List.zipIdx_map_fst]
theorem j1p:∀(n:Net) (k:Nat),(j05 k n).map (·.1)=ties n
 | [],_=>rfl
 | a :: n,k=>by
  unfold j05 ties;rw [Al,j52,j1p n (k+1),Ds];rfl
theorem j6l(r:Nat)(ts:List Str)(p:Nat):((j0q r ts p).map (·.2)).Nodup:=by
 unfold j0q;rw [Cc];have e:((fun x:Str×End=>x.2) ∘ fun x:Str×Nat=>(x.1,(r,x.2)))=(fun k:Nat=>(r,k)) ∘ Prod.snd:=rfl;rw [e,<- Cc,List.zipIdx_map_snd];refine List.Pairwise.map _ (R:=(·≠·)) ?_ List.nodup_range';intro a b h hab;exact h (Prod.mk.inj hab).2
theorem j3q:∀(n:Net) (k:Nat),((j05 k n).map (·.2)).Nodup
 | [],_=>Cm
 | a :: n,k=>by
  unfold j05;rw [Al,Cr];refine⟨j6l _ _ _,j3q n (k+1),?_⟩;intro x hx y hy e;subst e;obtain⟨⟨z,e1⟩,h1,rfl⟩:=Am.mp hx;obtain⟨⟨z2,e2⟩,h2,he⟩:=Am.mp hy;simp only at he;subst he;have q1:=(mem_rowSeats.mp h1).1;have q2:=(mem_seatsFrom.mp h2).1;omega
theorem j60(n:Net):(ends n).Nodup:=j3q n 0
theorem k4z(n:Net)(z:Str):(pos n z).Nodup:=by
 unfold pos;exact(j60 n).sublist (List.Sublist.map _ (List.filter_sublist))
theorem j96(n:Net)(z:Str):(pos n z).length=(ties n).count z:=by
 unfold pos;rw [Aa,<- j1p n 0,<- List.countP_eq_length_filter,List.count,List.countP_map];rfl
def j1s(n:Net):Prop:=∀ z∈ties n,(ties n).count z=2
theorem j7i{n:Net}{e:End}{z:Str}(h:j15 n e=some z):z∈ties n:=by
 have:=mem_seats.mpr h;rw [<- j1p n 0];exact Am.mpr ⟨_,this,rfl⟩
def other(n:Net)(e:End):End:=match j15 n e with
 | some z=>(match pos n z with
  | [a,b]=>if a=e then b else a
  | _=>e)
 | none=>e
theorem j8b{n:Net}(T:j1s n){e:End}{z:Str}(h:j15 n e=some z):∃ a b,pos n z=[a,b]/\a≠b/\(e=a\/e=b):=by
 have hl:=j96 n z;rw [T z (j7i h)] at hl;have hn:=k4z n z;have hm:=mem_pos.mpr h
 match hp:pos n z,hl with
 | [a,b],_=>
  rw [hp] at hn hm;refine⟨a,b,rfl,?_,?_⟩
  ·intro e;subst e;simp at hn
  ·simpa using hm
theorem j3w{n:Net}(T:j1s n){e:End}{z:Str}(h:j15 n e=some z):j15 n (other n e)=some z/\other n (other n e)=e/\other n e≠e:=by
 obtain⟨a,b,hp,hab,he⟩:=j8b T h;have ha:j15 n a=some z:=mem_pos.mp (by rw [hp];simp);have hb:j15 n b=some z:=mem_pos.mp (by rw [hp];simp)
 rcases he with rfl | rfl
 ·have e1:other n e=b:=by unfold other;simp only [h,hp];simp
  have e2:other n b=e:=by unfold other;simp only [hb,hp];simp [hab]
  rw [e1];exact⟨hb,e2,hab.symm⟩
 ·have e1:other n e=a:=by unfold other;simp only [h,hp];simp [hab]
  have e2:other n a=e:=by unfold other;simp only [ha,hp];simp
  rw [e1];exact⟨ha,e2,hab⟩
def left(n:Net)(e:End):End:=(e.1,(e.2+1) % (row n e.1).length)
def step(n:Net)(e:End):End:=left n (other n e)
theorem j4x{n:Net}{e:End}{z:Str}(h:j15 n e=some z):e.2 < (row n e.1).length:=(Ab.mp h).1
theorem j16{n:Net}{e:End}{z:Str}(h:j15 n e=some z):e.1 < n.length:=by
 rcases Ce e.1 n.length with c | c
 ·exact c
 ·have:=j4x h;unfold row at this;rw [Cb c] at this;simp at this
theorem k8p{n:Net}{e:End}(h:e.2 < (row n e.1).length):∃ z,j15 n e=some z:=⟨_,Ac h⟩
theorem k6s{n:Net}{e:End}(h:e∈ends n):left n e∈ends n:=by
 obtain⟨z,h⟩:=mem_ends.mp h;have:=j4x h;exact mem_ends.mpr (k8p (show(e.2+1) % (row n e.1).length < (row n e.1).length from Ez _ (by omega)))
theorem j2o{n:Net}(T:j1s n){e:End}(h:e∈ends n):other n e∈ends n:=by
 obtain⟨z,h⟩:=mem_ends.mp h;exact mem_ends.mpr ⟨z,(j3w T h).1⟩
theorem j4k{n:Net}(T:j1s n){e:End}(h:e∈ends n):step n e∈ends n:=k6s (j2o T h)
theorem k5w{n:Net}{a b:End}(ha:a∈ends n)(hb:b∈ends n)(h:left n a=left n b):a=b:=by
 obtain⟨z,ha⟩:=mem_ends.mp ha;obtain⟨y,hb⟩:=mem_ends.mp hb;have la:=j4x ha;have lb:=j4x hb;unfold left at h;obtain⟨h1,h2⟩:=Prod.mk.inj h;rw [h1] at la h2;have:a.2=b.2:=by
  rcases Ce (a.2+1) (row n b.1).length with c | c <;> rcases Ce (b.2+1) (row n b.1).length with d | d
  ·rw [Fc c,Fc d] at h2;omega
  ·have e:b.2+1=(row n b.1).length:=by omega
   rw [Fc c,e,Nat.mod_self] at h2;omega
  ·have e:a.2+1=(row n b.1).length:=by omega
   rw [Fc d,e,Nat.mod_self] at h2;omega
  ·omega
 exact Prod.ext h1 this
theorem k20{n:Net}(T:j1s n){a b:End}(ha:a∈ends n)(hb:b∈ends n)(h:other n a=other n b):a=b:=by
 obtain⟨z,ha⟩:=mem_ends.mp ha;obtain⟨y,hb⟩:=mem_ends.mp hb;rw [<- (j3w T ha).2.1,h,(j3w T hb).2.1]
theorem k05{n:Net}(T:j1s n){a b:End}(ha:a∈ends n)(hb:b∈ends n)(h:step n a=step n b):a=b:=
 k20 T ha hb (k5w (j2o T ha) (j2o T hb) h)
theorem j3v{α:Type} [DecidableEq α]:∀{a b:List α},a.Nodup->(∀ z∈a,z∈b)->a.length<=b.length
 | [],b,_,_=>Bi _
 | x :: r,b,hn,hs=>by
  rw [Cf] at hn;have hx:=hs x Aw;have:=j3v (a:=r) (b:=b.erase x) hn.2 fun z hz=>by
   have hne:z≠x:=fun e=>hn.1 (e ▸ hz);exact(List.mem_erase_of_ne hne).mpr (hs z (Aq _ hz))
  rw [List.length_erase_of_mem hx] at this;have hp:0 < b.length:=List.length_pos_of_mem hx;rw [Bd];omega
def it{α:Type}(f:α->α):Nat->α->α
 | 0,a=>a
 | k+1,a=>f (it f k a)
theorem j6b{α:Type}{f:α->α}{S:List α}(hf:∀ a∈S,f a∈S){a:α}(h:a∈S):∀ k,it f k a∈S
 | 0=>h
 | k+1=>hf _ (j6b hf h k)
theorem j66{α:Type} [DecidableEq α] {f:α->α} {S:List α} (hf:∀ a∈S,f a∈S) (inj:∀ a∈S,∀ b∈S,f a=f b->a=b) {a:α} (h:a∈S):∃ k,0 < k/\k<=S.length/\it f k a=a:=by
 have cancel:∀ i j,it f i a=it f (i+j) a->it f j a=a:=by
  intro i
  induction i with
  | zero=>intro j e;rw [Fk] at e;exact e.symm
  | succ i ih=>
   intro j e;refine ih j ?_;rw [show i+1+j=(i+j)+1 by omega] at e;exact inj _ (j6b hf h i) _ (j6b hf h (i+j)) e
 refine Classical.byContradiction fun hn=>?_;have nd:((List.range (S.length+1)).map fun i=>it f i a).Nodup:=by
  refine List.Pairwise.map _ (R:=fun i j=>i < j/\j < S.length+1) ?_ ?_
  ·rintro i j ⟨h1,h2⟩ e;refine hn ⟨j - i,by omega,by omega,cancel i (j - i) ?_⟩;rw [show i+(j - i)=j by omega];exact e
  ·rw [Bq];intro i j hi hj hij;simp only [Dy];simp at hj;exact⟨hij,hj⟩
 have:=j3v nd fun z hz=>by
  obtain⟨i,_,rfl⟩:=Am.mp hz;exact j6b hf h i
 simp at this;omega
theorem j2r:∀(n:Net) (r:Nat),(row n r).length<=(ties n).length
 | [],r=>by simp [row,ties]
 | a :: n,0=>by simp [row,ties]
 | a :: n,r+1=>by
  have:=j2r n r;simp [row,ties] at this ⊢;omega
theorem j42:∀(n:Net) (r:Nat),(ties (n.take r)).length<=(ties n).length
 | [],r=>by simp [ties]
 | a :: n,0=>by simp [ties]
 | a :: n,r+1=>by
  have:=j42 n r;simp [ties] at this ⊢;omega
structure IsFace(n:Net)(e:Nt.End)(fs:List End):Prop where
 pos:0 < fs.length
 len:fs.length<=(ends n).length
 at':∀ i,i < fs.length->fs[i]?=some (it (step n) i e)
 back:it (step n) fs.length e=e
 first:∀ i,0 < i->i < fs.length->it (step n) i e≠e
end Nt
namespace Nt
open PySem L2
abbrev Ls(zs:List Str):HO:= .lst (zs.map V.str)
abbrev Tp(e:End):HO:= .tup [.int e.1,.int e.2]
structure RowsAt(H:Hp)(R:Addr)(as:List (Addr×Addr))(n:Net):Prop where
 len:as.length=n.length
 lst:H R=some (.lst (as.map fun a=> .ref a.1))
 tup:∀(i:Nat) a r,as[i]?=some a->n[i]?=some r->H a.1=some (.tup [.str r.1,.ref a.2])/\H a.2=some (Ls r.2)
 inj:(as.map (·.2)).Nodup
theorem RowsAt.same{H H':Hp}{R:Addr}{as:List (Addr×Addr)}{n:Net}(h:RowsAt H R as n)(s:Same H H'):RowsAt H' R as n:=
 ⟨h.len,s _ _ h.lst,fun i a r h1 h2=>⟨s _ _ (h.tup i a r h1 h2).1,s _ _ (h.tup i a r h1 h2).2⟩,h.inj⟩
theorem RowsAt.at{H:Hp}{R:Addr}{as:List (Addr×Addr)}{n:Net}(h:RowsAt H R as n){i:Nat}(hi:i < n.length) :
  ∃ a,as[i]?=some a/\atI (as.map fun a=>V.ref a.1) (i:Int)=some (.ref a.1)/\H a.1=some (.tup [.str n[i].1,.ref a.2])/\H a.2=some (Ls (row n i))/\row n i=n[i].2:=by
 have hl:=h.len;have e:as[i]?=some as[i]:=Ac (by omega);have er:row n i=n[i].2:=by unfold row;rw [Ac hi];rfl
 have q:=h.tup i as[i] n[i] e (Ac hi);refine⟨as[i],e,j4n (by rw [Ae,e];rfl),q.1,?_,er⟩;rw [er];exact q.2
theorem j7t{zs:List Str}{j:Nat}{z:Str}(h:zs[j]?=some z):atI (zs.map V.str) (j:Int)=some (.str z):=j4n (by rw [Ae,h];rfl)
inductive Pd (H:Hp):List Addr->List End->Prop where
 | nil:Pd H [] []
 | cons {t:Addr} {e:End} {ts:List Addr} {es:List End}:H t=some (Tp e)->Pd H ts es->Pd H (t :: ts) (e :: es)
theorem Pd.append{H:Hp}{ts us:List Addr}{es fs:List End}(h:Pd H ts es)(g:Pd H us fs):Pd H (ts++us) (es++fs):=by
 induction h with
 | nil=>exact g
 | cons h1 _ ih=>exact .cons h1 ih
theorem Pd.keep{H H':Hp}{ts:List Addr}{es:List End}(h:Pd H ts es)(k:∀ t e,H t=some (Tp e)->H' t=some (Tp e)):Pd H' ts es:=by
 induction h with
 | nil=>exact .nil
 | cons h1 _ ih=>exact .cons (k _ _ h1) ih
theorem Pd.length{H:Hp}{ts:List Addr}{es:List End}(h:Pd H ts es):ts.length=es.length:=by
 induction h with
 | nil=>rfl
 | cons _ _ ih=>rw [Bd,Bd,ih]
theorem Pd.at{H:Hp}{ts:List Addr}{es:List End}(h:Pd H ts es):∀{i:Nat} {e:End},es[i]?=some e->∃ t,ts[i]?=some t/\H t=some (Tp e):=by
 induction h with
 | nil=>intro i e h;simp at h
 | cons h1 _ ih=>
  intro i e h;cases i with
  | zero=>simp at h;subst h;exact⟨_,rfl,h1⟩
  | succ i=>simp only [List.getElem?_cons_succ] at h ⊢;exact ih h
def j2b(done:List (Str×End))(z:Str):List End:=(done.filter fun x=>decide (x.1=z)).map (·.2)
theorem j00(done:List (Str×End))(y z:Str)(e:End):j2b (done++[(y,e)]) z=j2b done z++(if y=z then [e] else []):=by
 unfold j2b;rw [List.filter_append,Al]
 congr 1
 by_cases h:y=z
 ·rw [if_pos h];simp [h]
 ·rw [if_neg h];simp [h]
structure SeatsOn(H0 H:Hp)(d:Addr)(done:List (Str×End))(kvs:List (Key×V))(ks:List Str)(A:Str->Option (Addr×List Addr)):Prop where
 same:Same H0 H
 free:H0 d=none
 dict:H d=some (.dK kvs)
 keys:kvs.map (·.1)=ks.map Sum.inr
 nodup:ks.Nodup
 mem:∀ z,z∈ks↔(A z).isSome=true
 val:∀ z,valV kvs (Sum.inr z)=(A z).map fun a=> .ref a.1
 at':∀ z a ts,A z=some (a,ts)->H0 a=none/\a≠d/\H a=some (.lst (ts.map V.ref))/\Pd H ts (j2b done z)
 inj:∀ z y a ts us,A z=some (a,ts)->A y=some (a,us)->z=y
 none':∀ z,A z=none->j2b done z=[]
 some':∀ z a ts,A z=some (a,ts)->j2b done z≠[]
theorem SeatsOn.start{H:Hp}{d:Addr}(h:H d=none):SeatsOn H (upd H d (.dK [])) d [] [] [] (fun _=>none) where
 same:=fun b u q=>by rw [j0e (j0h q h)];exact q
 free:=h
 dict:=j0b
 keys:=rfl
 nodup:=Cm
 mem:=fun z=>by simp
 val:=fun z=>rfl
 at':=fun z a ts h=>by cases h
 inj:=fun z y a ts us h=>by cases h
 none':=fun z _=>rfl
 some':=fun z a ts h=>by cases h
theorem j26{H:Hp}{t a:Addr}{e:End}{xs:List V}(h:H t=some (Tp e))(g:H a=some (.lst xs)):t≠a:=j11 h g fun z=>nomatch z
theorem SeatsOn.old{H0 H:Hp}{d:Addr}{done:List (Str×End)}{kvs:List (Key×V)}{ks:List Str}{A:Str->Option (Addr×List Addr)}(S:SeatsOn H0 H d done kvs ks A){z:Str}{e:End}{a l0 t:Addr}{ts:List Addr}
  (hA:A z=some (a,ts)) (hl:H l0=none) (ht:(upd H l0 (.lst [])) t=none) :
  SeatsOn H0 (upd (upd (upd H l0 (.lst [])) t (Tp e)) a (.lst (ts.map V.ref++[.ref t]))) d (done++[(z,e)]) kvs ks (fun y=>if y=z then some (a,ts++[t]) else A y):=by
 obtain⟨q1,q2,q3,q4⟩:=S.at' z a ts hA;have htH:H t=none:=by
  by_cases c:t=l0
  ·rw [c,j0b] at ht;cases ht
  ·rwa [j0e c] at ht
 have hla:l0≠a:=(j0h q3 hl).symm;have hta:t≠a:=(j0h q3 htH).symm;have hat:a≠t:=hta.symm;have keep:∀ b u,b≠a->H b=some u->(upd (upd (upd H l0 (.lst [])) t (Tp e)) a (.lst (ts.map V.ref++[.ref t]))) b=some u:=fun b u h1 h2=>by
  rw [j0e h1,j0e (j0h h2 htH),j0e (j0h h2 hl)];exact h2
 have kt:∀ b f,H b=some (Tp f)->(upd (upd (upd H l0 (.lst [])) t (Tp e)) a (.lst (ts.map V.ref++[.ref t]))) b=some (Tp f):=fun b f h=>keep b _ (j26 h q3) h;have et:(upd (upd (upd H l0 (.lst [])) t (Tp e)) a (.lst (ts.map V.ref++[.ref t]))) t=some (Tp e):=by rw [j0e hta,j0b]
 refine⟨fun b u h=>?_,S.free,keep d _ (Ne.symm q2) S.dict,S.keys,S.nodup,fun y=>?_,fun y=>?_,fun y a' ts' h=>?_,fun y y' a' ts' us h1 h2=>?_,fun y h=>?_,fun y a' ts' h=>?_⟩
 ·exact keep b u (j0h h q1) (S.same _ _ h)
 ·rw [S.mem y]
  by_cases c:y=z
  ·rw [if_pos c,c,hA];simp
  ·rw [if_neg c]
 ·rw [S.val y]
  by_cases c:y=z
  ·rw [if_pos c,c,hA];rfl
  ·rw [if_neg c]
 ·by_cases c:y=z
  ·rw [if_pos c] at h;cases h;refine⟨q1,q2,by rw [j0b,Al];rfl,?_⟩;rw [j00,c,if_pos rfl];exact(q4.keep kt).append (.cons et .nil)
  ·rw [if_neg c] at h;obtain⟨r1,r2,r3,r4⟩:=S.at' y a' ts' h;have hne:a'≠a:=fun e2=>c (S.inj y z a ts' ts (e2 ▸ h) hA);refine⟨r1,r2,keep _ _ hne r3,?_⟩;rw [j00,if_neg (fun h=>c h.symm),Bk];exact r4.keep kt
 ·by_cases c:y=z <;> by_cases c':y'=z
  ·rw [c,c']
  ·rw [if_pos c] at h1;rw [if_neg c'] at h2;cases h1;exact absurd (S.inj y' z a us ts h2 hA) c'
  ·rw [if_neg c] at h1;rw [if_pos c'] at h2;cases h2;exact absurd (S.inj y z a ts' ts h1 hA) c
  ·rw [if_neg c] at h1;rw [if_neg c'] at h2;exact S.inj y y' a' ts' us h1 h2
 ·by_cases c:y=z
  ·rw [if_pos c] at h;cases h
  ·rw [if_neg c] at h;rw [j00,if_neg (fun h=>c h.symm),Bk];exact S.none' y h
 ·by_cases c:y=z
  ·rw [j00,if_pos c.symm];simp
  ·rw [if_neg c] at h;rw [j00,if_neg (fun h=>c h.symm),Bk];exact S.some' y a' ts' h
theorem SeatsOn.new{H0 H:Hp}{d:Addr}{done:List (Str×End)}{kvs:List (Key×V)}{ks:List Str}{A:Str->Option (Addr×List Addr)}(S:SeatsOn H0 H d done kvs ks A){z:Str}{e:End}{l0 t:Addr}
  (hA:A z=none) (hl:H l0=none) (ht:(upd (upd H l0 (.lst [])) d (.dK (putK kvs (Sum.inr z) (.ref l0)))) t=none) :
  SeatsOn H0 (upd (upd (upd (upd H l0 (.lst [])) d (.dK (putK kvs (Sum.inr z) (.ref l0)))) t (Tp e)) l0 (.lst [.ref t])) d (done++[(z,e)]) (putK kvs (Sum.inr z) (.ref l0)) (ks++[z]) (fun y=>if y=z then some (l0,[t]) else A y):=by
 have hdl:d≠l0:=j0h S.dict hl;have htd:t≠d:=fun c=>by rw [c,j0b] at ht;cases ht
 have htl:t≠l0:=fun c=>by rw [j0e htd,c,j0b] at ht;cases ht
 have htH:H t=none:=by rwa [j0e htd,j0e htl] at ht
 have vn:valV kvs (Sum.inr z)=none:=by rw [S.val z,hA];rfl
 have keep:∀ b u,b≠d->H b=some u->(upd (upd (upd (upd H l0 (.lst [])) d (.dK (putK kvs (Sum.inr z) (.ref l0)))) t (Tp e)) l0 (.lst [.ref t])) b=some u:=fun b u h1 h2=>by
  rw [j0e (j0h h2 hl),j0e (j0h h2 htH),j0e h1,j0e (j0h h2 hl)];exact h2
 have kt:∀ b f,H b=some (Tp f)->(upd (upd (upd (upd H l0 (.lst [])) d (.dK (putK kvs (Sum.inr z) (.ref l0)))) t (Tp e)) l0 (.lst [.ref t])) b=some (Tp f):=fun b f h=>keep b _ (j11 h S.dict fun z=>nomatch z) h;have h0l:H0 l0=none:=S.same.free hl;have zk:z∉ks:=fun h=>by
  have:=(S.mem z).mp h;rw [hA] at this;cases this
 refine⟨fun b u h=>?_,S.free,?_,?_,?_,fun y=>?_,fun y=>?_,fun y a' ts' h=>?_,fun y y' a' ts' us h1 h2=>?_,fun y h=>?_,fun y a' ts' h=>?_⟩
 ·exact keep b u (j0h h S.free) (S.same _ _ h)
 ·rw [j0e hdl,j0e htd.symm,j0b]
 ·rw [k1b _ vn,Al,S.keys,Al];rfl
 ·rw [Cr];exact⟨S.nodup,by simp,fun x hx y hy e=>by rw [Ah] at hy;subst hy e;exact zk hx⟩
 ·rw [Ba,Ah,S.mem y]
  by_cases c:y=z
  ·rw [if_pos c];simp [c]
  ·rw [if_neg c];simp [c]
 ·rw [j1t]
  by_cases c:y=z
  ·rw [if_pos (by rw [c]),if_pos c];rfl
  ·rw [if_neg (fun h=>c (Sum.inr.inj h)),if_neg c,S.val y]
 ·by_cases c:y=z
  ·rw [if_pos c] at h;cases h;refine⟨h0l,hdl.symm,by rw [j0b];rfl,?_⟩;rw [j00,c,if_pos rfl,S.none' z hA];exact .cons (by rw [j0e htl,j0b]) .nil
  ·rw [if_neg c] at h;obtain⟨r1,r2,r3,r4⟩:=S.at' y a' ts' h;refine⟨r1,r2,keep _ _ r2 r3,?_⟩;rw [j00,if_neg (fun h=>c h.symm),Bk];exact r4.keep kt
 ·by_cases c:y=z <;> by_cases c':y'=z
  ·rw [c,c']
  ·rw [if_pos c] at h1;rw [if_neg c'] at h2;cases h1;exact absurd hl (by rw [(S.at' y' l0 us h2).2.2.1];exact fun h=>nomatch h)
  ·rw [if_neg c] at h1;rw [if_pos c'] at h2;cases h2;exact absurd hl (by rw [(S.at' y l0 ts' h1).2.2.1];exact fun h=>nomatch h)
  ·rw [if_neg c] at h1;rw [if_neg c'] at h2;exact S.inj y y' a' ts' us h1 h2
 ·by_cases c:y=z
  ·rw [if_pos c] at h;cases h
  ·rw [if_neg c] at h;rw [j00,if_neg (fun h=>c h.symm),Bk];exact S.none' y h
 ·by_cases c:y=z
  ·rw [j00,if_pos c.symm];simp
  ·rw [if_neg c] at h;rw [j00,if_neg (fun h=>c h.symm),Bk];exact S.some' y a' ts' h
theorem j2e:∀(n m:Net) (k:Nat),j05 k (n++m)=j05 k n++j05 (k+n.length) m
 | [],m,k=>rfl
 | a :: n,m,k=>by
  show j0q k a.2 0++j05 (k+1) (n++m)=(j0q k a.2 0++j05 (k+1) n)++j05 (k+(n.length+1)) m;rw [j2e n m (k+1),Bl,show k+1+n.length=k+(n.length+1) by omega]
theorem j3y{n:Net}{r:Nat}(h:r < n.length):j06 (n.take (r+1))=j06 (n.take r)++j0q r (row n r) 0:=by
 unfold j06;rw [Bz,Ac h,j2e];have e:(n.take r).length=r:=by rw [Bt];omega
 rw [e,Fk];have er:row n r=n[r].2:=by unfold row;rw [Ac h];rfl
 rw [er];show _++(j0q r n[r].2 0++[])=_;rw [Bk]
theorem j2f{r:Nat}{ts:List Str}{p:Nat}{z:Str}(h:ts[p]?=some z):j0q r (ts.take (p+1)) 0=j0q r (ts.take p) 0++[(z,(r,p))]:=by
 unfold j0q;have hp:=(Ab.mp h).1;rw [Bz,h,List.zipIdx_append,Al];have e:(ts.take p).length=p:=by rw [Bt];omega
 rw [e,Fk];rfl
structure SeatsAt(H:Hp)(d:Addr)(n:Net)(ks:List Str):Prop where
 dict:∃ kvs,H d=some (.dK kvs)/\kvs.map (·.1)=ks.map Sum.inr/\∀ z∈ties n,∃ a ts,valV kvs (Sum.inr z)=some (.ref a)/\H a=some (.lst (ts.map V.ref))/\Pd H ts (pos n z)
 nodup:ks.Nodup
 mem:∀ z,z∈ks↔z∈ties n
theorem SeatsAt.same{H H':Hp}{d:Addr}{n:Net}{ks:List Str}(S:SeatsAt H d n ks)(s:Same H H'):SeatsAt H' d n ks:=by
 obtain⟨kvs,h1,h2,h3⟩:=S.dict;refine⟨⟨kvs,s _ _ h1,h2,fun z hz=>?_⟩,S.nodup,S.mem⟩;obtain⟨a,ts,q1,q2,q3⟩:=h3 z hz;exact⟨a,ts,q1,s _ _ q2,q3.keep fun t e h=>s _ _ h⟩
theorem k72{n:Net}{z:Str}:z∈ties n↔pos n z≠[]:=by
 rw [<- List.count_pos_iff,<- j96,Bv]
theorem SeatsOn.whole{H0 H:Hp}{d:Addr}{n:Net}{kvs:List (Key×V)}{ks:List Str}{A:Str->Option (Addr×List Addr)}(S:SeatsOn H0 H d (j06 n) kvs ks A):SeatsAt H d n ks:=by
 have mem:∀ z,z∈ks↔z∈ties n:=fun z=>by
  rw [S.mem z,k72];cases h:A z with
  | none=>simp;exact S.none' z h
  | some p=>
   obtain⟨a,ts⟩:=p;simp;exact S.some' z a ts h
 refine⟨⟨kvs,S.dict,S.keys,fun z hz=>?_⟩,S.nodup,mem⟩;have:=(S.mem z).mp ((mem z).mpr hz);cases h:A z with
 | none=>rw [h] at this;cases this
 | some p=>
  obtain⟨a,ts⟩:=p;obtain⟨q1,q2,q3,q4⟩:=S.at' z a ts h;exact⟨a,ts,by rw [S.val z,h];rfl,q3,q4⟩
theorem all2(e:Nat->Bool):(List.range 2).all e=(e 0 && e 1):=by
 show(([0,1]:List Nat).all e)=_;simp
theorem k4v(x y:End):(eqV (.int x.1) (.int y.1) && eqV (.int x.2) (.int y.2))=decide (x=y):=by
 obtain⟨a,b⟩:=x;obtain⟨c,d⟩:=y
 by_cases h:a=c <;> by_cases h2:b=d
 ·subst h h2;simp [eqV]
 ·have:¬(b:Int)=(d:Int):=fun e=>h2 (by omega);simp [eqV,h2,this]
 ·have:¬(a:Int)=(c:Int):=fun e=>h (by omega);simp [eqV,h,this]
 ·have:¬(a:Int)=(c:Int):=fun e=>h (by omega);simp [eqV,h,this]
section
variable{X:Cx}{H:Hp}{s t:Addr}{x y:End}
theorem k8u:∀(j:Nat) (u v:V),[V.int x.1,.int x.2][j]?=some u->[V.int y.1,.int y.2][j]?=some v->EqD X H 0 u v (if j=0 then eqV (.int x.1) (.int y.1) else eqV (.int x.2) (.int y.2))
 | 0,u,v,h1,h2=>by
  cases h1;cases h2;exact j2v rfl rfl
 | 1,u,v,h1,h2=>by
  cases h1;cases h2;exact j2v rfl rfl
 | j+2,u,v,h1,h2=>by simp at h1
theorem k30(hs:H s=some (Tp x))(ht:H t=some (Tp y)):RcD X H 1 (.ref s) (.ref t) (decide (x=y)):=by
 have:=j70 (X:=X) (k:=0) (fun j=>if j=0 then eqV (.int x.1) (.int y.1) else eqV (.int x.2) (.int y.2)) (SqT.of hs) (SqT.of ht) rfl k8u;rw [show([V.int (x.1:Int),.int x.2].length)=2 from rfl,all2] at this;have e:=k4v x y;simp only [if_true] at this;rw [if_neg (by decide),e] at this;exact this
theorem q2h(hs:H s=some (Tp x))(ht:H t=some (Tp y)):RnD X H 1 (.ref s) (.ref t) (decide (x=y)):=by
 have:=k5i (X:=X) (k:=0) (fun j=>if j=0 then eqV (.int x.1) (.int y.1) else eqV (.int x.2) (.int y.2)) (SqT.of hs) (SqT.of ht) rfl k8u;rw [show([V.int (x.1:Int),.int x.2].length)=2 from rfl,all2] at this;have e:=k4v x y;simp only [if_true] at this;rw [if_neg (by decide),e] at this;exact this
end
end Nt
namespace Nt
open PySem L2
abbrev lets:Str:= "abcdefghijklmnopqrstuvwxyz0123456789"
theorem k00:lets.cps.toList.length=36:=by decide +kernel
theorem k1r:lets.cps.toList.Nodup:=by decide +kernel
def sgn(i:Int):Nat:=(atI lets.cps.toList (i % 36)).getD 0
theorem k09(i:Int):atI lets.cps.toList (i % 36)=some (sgn i):=by
 have h0:0<=i % 36:=Av _ (by decide);have h1:i % 36 < 36:=Az _ (by decide);have hj:(i % 36).toNat < lets.cps.toList.length:=by rw [k00];omega
 have q:=j4n (xs:=lets.cps.toList) (j:=(i % 36).toNat) (v:=lets.cps.toList[(i % 36).toNat]) (by simp [hj]);rw [show(((i % 36).toNat:Nat):Int)=i % 36 by omega] at q;unfold sgn;rw [q];rfl
theorem k26{i j:Int}(h:sgn i=sgn j):i % 36=j % 36:=by
 have key:∀ k:Int,lets.cps.toList[(k % 36).toNat]?=some (sgn k):=fun k=>by
  have h0:0<=k % 36:=Av _ (by decide);have h1:k % 36 < 36:=Az _ (by decide);have hj:(k % 36).toNat < lets.cps.toList.length:=by rw [k00];omega
  have q:=j4n (xs:=lets.cps.toList) (j:=(k % 36).toNat) (v:=lets.cps.toList[(k % 36).toNat]) (by simp [hj]);rw [show(((k % 36).toNat:Nat):Int)=k % 36 by omega,k09] at q;rw [Ac hj,Option.some.inj q]
 have hi:=key i;have hj:=key j;rw [h] at hi;obtain⟨l1,e1⟩:=Ab.mp hi;obtain⟨l2,e2⟩:=Ab.mp hj;have:=(Ey (xs:=lets.cps.toList) (h₀:=l1) (h₁:=l2) k1r).mp (e1.trans e2.symm);have a0:0<=i % 36:=Av _ (by decide);have b0:0<=j % 36:=Av _ (by decide);omega
def turn(b:Int)(sp:Int)(v k:Nat):Int:=b / 64+(k:Int) * (b / 7 % 5)+(if(k:Int)=sp then(v:Int) else 0)
def nm(b sp:Int)(v:Nat):Nat->Str
 | 0=>⟨#[]⟩
 | k+1=>nm b sp v k++⟨#[sgn (turn b sp v k)]⟩
theorem app_list(x y:Str):(x++y).cps.toList=x.cps.toList++y.cps.toList:=by
 show(x.cps++y.cps).toList=_;simp
theorem j51(b sp:Int)(v:Nat):∀ k,(nm b sp v k).cps.toList=(List.range k).map fun j=>sgn (turn b sp v j)
 | 0=>rfl
 | k+1=>by
  show(nm b sp v k++⟨#[sgn (turn b sp v k)]⟩).cps.toList=_;rw [app_list,j51 b sp v k,Ec,Al];rfl
theorem q3v{b sp:Int}{u v k:Nat}(hu:u < 36)(hv:v < 36)(h0:0<=sp)(h1:sp < (k:Int))(h:nm b sp u k=nm b sp v k):u=v:=by
 have e:(nm b sp u k).cps.toList=(nm b sp v k).cps.toList:=by rw [h]
 rw [j51,j51] at e;have hk:sp.toNat < k:=by omega
 have q:((List.range k).map fun j=>sgn (turn b sp u j))[sp.toNat]?=((List.range k).map fun j=>sgn (turn b sp v j))[sp.toNat]?:=by rw [e]
 rw [Ae,Ae,Dv hk] at q;have q2:sgn (turn b sp u sp.toNat)=sgn (turn b sp v sp.toNat):=Option.some.inj q;have q3:=k26 q2;unfold turn at q3;rw [show((sp.toNat:Nat):Int)=sp by omega,if_pos rfl,if_pos rfl] at q3;omega
theorem fold_list(c:Nat):∀(k:Nat) (acc:Array Nat),((List.replicate k (#[c]:Array Nat)).foldl (·++·) acc).toList=acc.toList++List.replicate k c
 | 0,acc=>by simp
 | k+1,acc=>by
  rw [List.replicate_succ,Cs,fold_list c k,List.replicate_succ];simp
theorem mul_list(c:Nat){i:Int}(h:1<=i):(Txt.mul ⟨#[c]⟩ i).cps.toList=List.replicate i.toNat c:=by
 unfold Txt.mul;rw [if_neg (by omega)]
 by_cases e:i=1
 ·subst e;rfl
 ·have e1:(i == 1 || (⟨#[c]⟩:Str).length == 0)=false:=by
   have:(i == 1)=false:=by simpa using e
   rw [this];rfl
  rw [e1];simp only [At,if_false];have:=fold_list c i.toNat #[]
  simpa using this
def nameOf(b:Int)(v:Nat):Str:=if b % 3=2 then Txt.mul ⟨#[sgn (b / 64+(v:Int) / 8)]⟩ (1+(v:Int) % 8) else nm b (b / 8 % (1+b % 8)) v (1+b % 8).toNat
theorem k1x{b:Int}{u v:Nat}(hu:u < 36)(hv:v < 36)(h:nameOf b u=nameOf b v):u=v:=by
 have s0:0<=b % 8:=Av _ (by decide);unfold nameOf at h
 by_cases c:b % 3=2
 ·rw [if_pos c,if_pos c] at h;have u0:0<=(u:Int) % 8:=Av _ (by decide);have v0:0<=(v:Int) % 8:=Av _ (by decide);have e:(Txt.mul ⟨#[sgn (b / 64+(u:Int) / 8)]⟩ (1+(u:Int) % 8)).cps.toList=(Txt.mul ⟨#[sgn (b / 64+(v:Int) / 8)]⟩ (1+(v:Int) % 8)).cps.toList:=by rw [h]
  rw [mul_list _ (by omega),mul_list _ (by omega)] at e;have l:=congrArg List.length e;rw [Cz,Cz] at l;have hd:(List.replicate (1+(u:Int) % 8).toNat (sgn (b / 64+(u:Int) / 8)))[0]?=(List.replicate (1+(v:Int) % 8).toNat (sgn (b / 64+(v:Int) / 8)))[0]?:=by rw [e]
  rw [Dd,Dd,if_pos (by omega),if_pos (by omega)] at hd;have q:=k26 (Option.some.inj hd);omega
 ·rw [if_neg c,if_neg c] at h;refine q3v hu hv (Av _ (by omega)) ?_ h;have:=Az (b / 8) (show 0 < 1+b % 8 by omega);omega
def namesOf(b:Int)(m:Nat):List Str:=(List.range m).map (nameOf b)
theorem j2g{b:Int}{m:Nat}(h:m<=36):(namesOf b m).Nodup:=by
 unfold namesOf;refine List.Pairwise.map _ (R:=fun i j=>i < j/\j < m) ?_ ?_
 ·rintro i j ⟨h1,h2⟩ e;have:=k1x (by omega) (by omega) e;omega
 ·rw [Bq];intro i j hi hj hij;simp only [Dy];simp at hj;exact⟨hij,hj⟩
theorem j2l(b:Int)(m:Nat):namesOf b (m+1)=namesOf b m++[nameOf b m]:=by
 unfold namesOf;rw [Ec,Al];rfl
theorem j4e(b:Int)(m:Nat):(namesOf b m).length=m:=by unfold namesOf;simp
theorem k1u{b:Int}{m i:Nat}(h:i < m):(namesOf b m)[i]?=some (nameOf b i):=by
 unfold namesOf;rw [Ae,Dv h];rfl
end Nt
namespace Nt
open PySem L2
def Short(n:Net):Prop:=(∀ z∈ties n,z.length<=8)/\∀ p∈n.map (·.1),p.length<=8
theorem len_list(z:Str):z.length=z.cps.toList.length:=rfl
theorem k2b(b:Int)(v:Nat):(nameOf b v).length<=8:=by
 unfold nameOf;have h0:0<=(v:Int) % 8:=Av _ (by decide);have h1:(v:Int) % 8 < 8:=Az _ (by decide);have h2:b % 8 < 8:=Az _ (by decide)
 split
 ·rw [len_list,mul_list _ (by omega),Cz];omega
 ·rw [len_list,j51,Aa,Dp];omega
theorem j54{b:Int}{m:Nat}{z:Str}(h:z∈namesOf b m):z.length<=8:=by
 unfold namesOf at h;obtain⟨v,_,rfl⟩:=Am.mp h;exact k2b b v
end Nt
namespace J0
open PySem L2
def top(i:Nat):Stmt:=PySem.Challenge.pw_threewebs_k70_ties_put_in.main.body.getD i (.Pass ⟨0,0,0,0⟩)
abbrev k7t:Stmt:=top 17
abbrev k03:Stmt:=top 18
abbrev q01:Stmt:=top 19
abbrev j99:Stmt:=top 20
abbrev sLS:Stmt:=top 21
abbrev k4p:Stmt:=top 23
abbrev k42:Stmt:=top 24
abbrev j27:Stmt:=top 28
abbrev j4l:Stmt:=top 30
abbrev j6e:Stmt:=top 31
abbrev k38:Stmt:=top 34
abbrev j1x:Stmt:=top 35
abbrev j77:Stmt:=top 36
abbrev j2y:Stmt:=top 37
abbrev j10:Stmt:=top 38
abbrev j2c:Stmt:=top 39
abbrev j39:Stmt:=top 40
abbrev q0r:Stmt:=top 42
abbrev sBig:Stmt:=top 43
abbrev k4o:Stmt:=top 44
abbrev k5f:Stmt:=top 45
abbrev k5a:Stmt:=top 46
abbrev q0k:Stmt:=top 47
abbrev q00:Stmt:=top 48
abbrev sPut:Stmt:=top 49
abbrev sNet:Stmt:=top 50
abbrev k7f:Stmt:=top 51
abbrev j71:Stmt:=top 52
abbrev j4h:Stmt:=top 53
abbrev j76:Stmt:=top 54
abbrev j2z:Stmt:=top 55
abbrev j7g:Stmt:=top 56
abbrev j29:Stmt:=top 57
abbrev j4a:Stmt:=top 58
abbrev j35:Stmt:=top 59
abbrev j5i:Stmt:=top 60
abbrev j36:Stmt:=top 61
abbrev j95:Stmt:=top 62
abbrev j1q:Stmt:=top 63
abbrev j5y:Stmt:=top 64
abbrev j3r:Stmt:=top 65
abbrev sLaw:Stmt:=top 66
structure Txt(mg:Str->Option Value):Prop where
 isi:mg "isinstance" = none
 ttuple:mg "tuple" = none
 tstr:mg "str" = none
 tint:mg "int" = none
 tbool:mg "bool" = none
 tlist:mg "list" = none
 tdict:mg "dict" = none
 tset:mg "set" = none
 enum:mg "enumerate" = none
 zip:mg "zip" = none
 len:mg "len" = none
 range:mg "range" = none
 sorted:mg "sorted" = none
 max:mg "max" = none
 all:mg "all" = none
 vale:mg "ValueError" = none
 any:mg "any" = none
 signs:∃ u,mg "SIGNS" = some u/\RelV (.str Nt.lets) u
 most:∃ u,mg "LONGEST" = some u/\RelV (.int 8) u
 forty:∃ u,mg "MOST_TIES" = some u/\RelV (.int 40) u
end J0
namespace J0
open PySem L2 Nt Sort2
theorem small{n:Nat}(h:n<=100000):n<=sizeLine:=by rw [sizeLine_eq];omega
theorem j03{n:Nat}(h:n<=100000):n < sizeLine:=by rw [sizeLine_eq];omega
theorem j0g{H:Hp}{p:Addr}(h:H p=none)(o:HO):Same H (upd H p o):=fun b u q=>by rw [j0e (j0h q h)];exact q
theorem j1h{H1 H2:Hp}{r:Addr}{o:HO}(s:Same H1 H2)(h:H1 r=none):Same H1 (upd H2 r o):=fun b u q=>by
 rw [j0e (j0h q h)];exact s _ _ q
theorem len_app(x y:Str):(x++y).length=x.length+y.length:=by
 show(x.cps++y.cps).size=x.cps.size+y.cps.size;exact Array.size_append ..
theorem q3d{H:Hp}{l:Addr}{zs:List Str}{y:Str}:upd H l (.lst (zs.map V.str++[V.str y]))=upd H l (Ls (zs++[y])):=by
 show _=upd H l (.lst ((zs++[y]).map V.str));rw [Al];rfl
def k1h(K:PySem.W.Frag):Sp:=fun vs H Q _=>∃(a:Addr) (ns:List Int) (k:Int),vs=[.ref a,.int k]/\SqL K H a (ns.map V.int)/\0<=k/\∀ i,Q (.int i) H
def k71(K:PySem.W.Frag):Sp:=fun vs H Q _=>∃(a:Addr) (ns:List Int) (k:Int),vs=[.ref a,.int k]/\SqL K H a (ns.map V.int)/\0<=k/\∀ i H',Same H H'->Q (.int i) H'
def j91:Sp:=fun vs H Q _=>∃(b m:Int),vs=[.int b,.int m]/\0<=m/\m<=36/\∀ l H',Same H H'->H l=none->H' l=some (Ls (namesOf b m.toNat))->Q (.ref l) H'
def j6a:Sp:=fun vs H Q _=>∃(R:Addr) (as:List (Addr×Addr)) (n:Net),vs=[.ref R]/\RowsAt H R as n/\n.length<=1000/\(ties n).length<=1000/\∀ d ks H',Same H H'->H d=none->SeatsAt H' d n ks->Q (.ref d) H'
def k0i:Sp:=fun vs H Q _=>∃(R d t:Addr) (as:List (Addr×Addr)) (n:Net) (ks:List Str) (e:Nt.End),vs=[.ref R,.ref d,.ref t]/\RowsAt H R as n/\SeatsAt H d n ks/\j1s n/\H t=some (Tp e)/\e∈ends n/\∀ u,H u=some (Tp (other n e))->Q (.ref u) H
def k2y:Sp:=fun vs H Q _=>∃(R d t:Addr) (as:List (Addr×Addr)) (n:Net) (ks:List Str) (e:Nt.End),vs=[.ref R,.ref d,.ref t,.int 1]/\RowsAt H R as n/\SeatsAt H d n ks/\j1s n/\H t=some (Tp e)/\e∈ends n/\∀ u H',Same H H'->H u=none->H' u=some (Tp (step n e))->Q (.ref u) H'
def j8h:Sp:=fun vs H Q _=>∃(R d t:Addr) (as:List (Addr×Addr)) (n:Net) (ks:List Str) (e:Nt.End),vs=[.ref R,.ref d,.ref t]/\RowsAt H R as n/\SeatsAt H d n ks/\j1s n/\H t=some (Tp e)/\e∈ends n/\(ends n).length<=1000 /\
 ∀ l ts fs H',Same H H'->H l=none->H' l=some (.lst (ts.map V.ref))->Pd H' ts fs->IsFace n e fs->Q (.ref l) H'
section
variable{P:Program}{w:World}{K:PySem.W.Frag}{mg:Str->Option Value}{base:Heap}
theorem q1t:FnScope ["_law_script","_law_k"] ["_law_script","_law_k"] (j0f q0r):=⟨rfl,rfl,rfl,by decide +kernel,rfl,by decide +kernel,by decide +kernel⟩
theorem k9b{ns:List Int}{k:Int}(h0:0<=k)(h1:k < (ns.length:Int)):∃ v:Int,atI (ns.map V.int) k=some (.int v):=by
 have hj:k.toNat < ns.length:=by omega
 have q:=j4n (xs:=ns.map V.int) (j:=k.toNat) (v:= .int ns[k.toNat]) (by simp [hj]);rw [show((k.toNat:Nat):Int)=k by omega] at q;exact⟨_,q⟩
theorem k97{f:Addr}{fd:FuncData}(F:Fun K "_law_cell_at" "_law_cell_at" q0r f fd)(T:Txt mg):FnOk P w K mg base CX0 1 f fd ["_law_script","_law_k"] (k1h K):=by
 refine F.gb q1t (fun vs H Q E h=>?_) (fun b0 H vs Q E hr h=>?_)
 ·obtain⟨a,ns,k,rfl,_⟩:=h;rfl
 obtain⟨a,ns,k,rfl,hS,h0,q⟩:=h;show Run _ _ _ [some (.ref a),some (.int k)] H;refine j1g (j0v k17 (ev_v 1 (j0u j0k T.len boot_len (j0a (ev_v 0 (j0c ⟨a,_,rfl,.inl hS,_,_,rfl,rfl,_,rfl,?_⟩))))));refine ite2 (fun c=>?_) (fun c=>?_)
 ·have c':=of_decide_eq_true c;obtain⟨v,hv⟩:=k9b (ns:=ns) h0 (by rw [Aa] at c';exact c');exact j0l (j0o j0y (ev_v 0 (ev_v 1 ⟨a,_,_,.int v,rfl,rfl,hS,hv,q v⟩)))
 ·exact j0j (j0l (j0d (q 0)))
abbrev bys:List V:=[.int 48271,.int 69621,.int 16807,.int 39373,.int 21401,.int 60493,.int 87721,.int 31337]
abbrev prs:List V:=[.int 99991,.int 99989,.int 99971,.int 99961,.int 99929,.int 99923,.int 99907,.int 99901]
theorem eight{i:Int}(h0:0<=i)(h1:i < 8):i=0\/i=1\/i=2\/i=3\/i=4\/i=5\/i=6\/i=7:=by
 obtain⟨k,rfl⟩:=Int.eq_ofNat_of_zero_le h0;exact(by decide:∀ k:Fin 8,(k.1:Int)=0\/(k.1:Int)=1\/(k.1:Int)=2\/(k.1:Int)=3\/(k.1:Int)=4\/(k.1:Int)=5\/(k.1:Int)=6\/(k.1:Int)=7) ⟨k,Int.ofNat_lt.mp h1⟩
theorem q18{i:Int}(h0:0<=i)(h1:i < 8):∃ m:Int,atI bys i=some (.int m)/\0 < m/\m < 100000:=by
 rcases eight h0 h1 with rfl | rfl | rfl | rfl | rfl | rfl | rfl | rfl <;> exact⟨_,rfl,by decide,by decide⟩
theorem q3e{i:Int}(h0:0<=i)(h1:i < 8):∃ m:Int,atI prs i=some (.int m)/\0 < m/\m < 100000:=by
 rcases eight h0 h1 with rfl | rfl | rfl | rfl | rfl | rfl | rfl | rfl <;> exact⟨_,rfl,by decide,by decide⟩
theorem scBig:FnScope ["_law_script","_law_at","_law_by","_law_prime","_law_cell","_law_big_here","_law_k","_law_one"] ["_law_script","_law_at"] (j0f sBig):=⟨rfl,rfl,rfl,by decide +kernel,rfl,by decide +kernel,by decide +kernel⟩
theorem q16{f:Addr}{fd:FuncData}(F:Fun K "_law_big" "_law_big" sBig f fd)(T:Txt mg)(G:Has P w K mg base 1 "_law_cell_at" ["_law_script","_law_k"] (k1h K)) :
  FnOk P w K mg base CX0 2 f fd ["_law_script","_law_at"] (k71 K):=by
 refine F.gb scBig (fun vs H Q E h=>?_) (fun b0 H vs Q E hr h=>?_)
 ·obtain⟨a,ns,k,rfl,_⟩:=h;rfl
 obtain⟨a,ns,k,rfl,hS,h0,q⟩:=h;have nd:=scBig.nd;show Run _ _ _ [some (.ref a),some (.int k),none,none,none,none,none,none] H;refine j0i 2 nd (j1b (j0a (j0d (j0a (j0d (j0a (j0d (j0a (j0d (j0a (j0d (j0a (j0d (j0a (j0d (j0a (j0d (j0c ⟨(by show 8<=sizeLine;decide),fun p hp=>?_⟩))))))))))))))))));refine j0i 3 nd (j1b (j0a (j0d (j0a (j0d (j0a (j0d (j0a (j0d (j0a (j0d (j0a (j0d (j0a (j0d (j0a (j0d (j0c ⟨(by show 8<=sizeLine;decide),fun p2 hp2=>?_⟩))))))))))))))))));have npp:p≠p2:=by
  intro e;rw [<- e,j0b] at hp2;cases hp2
 have s1:Same H (upd H p (.tup bys)):=j0g hp _;have s2:Same H (upd (upd H p (.tup bys)) p2 (.tup prs)):=s1.trans (j0g hp2 _);have e1:(upd (upd H p (.tup bys)) p2 (.tup prs)) p=some (.tup bys):=by rw [j0e npp,j0b]
 have e2:(upd (upd H p (.tup bys)) p2 (.tup prs)) p2=some (.tup prs):=j0b;generalize upd (upd H p (.tup bys)) p2 (.tup prs)=H2 at s2 e1 e2 ⊢;refine j0i 4 nd (j0s G hr (j0a (ev_v 0 (j0a (ev_v 1 (j0c ⟨a,ns,k,rfl,s2.seq hS,h0,fun b=>?_⟩))))));show Run _ _ _ [some (.ref a),some (.int k),some (.ref p),some (.ref p2),some (.int b),none,none,none] H2;refine j4c True True (fun R qq=>?_) (fun _=>?_) (fun _=>j0j ?_)
 ·refine j1k (j8t (j0v j3a (j0m j0x (ev_v 4 (j0d ⟨_,_,rfl,rfl,(by show(0:Int) < 2;decide),j0d ⟨rfl,_,rfl,?_⟩⟩)))));refine ite2 (fun c=>?_) (fun c=>qq false (fun z=>nomatch z) fun _=>trivial);exact j7y (j0v k67 (ev_v 4 (j0m k0s (j0d (j0d ⟨_,_,rfl,rfl,⟨by decide,by decide,by decide⟩,_,_,rfl,rfl,_,rfl,qq _ (fun _=>trivial) fun _=>trivial⟩)))))
 ·exact j0l (j0m j07 (ev_v 4 (j0d ⟨_,_,rfl,rfl,⟨by decide,by decide⟩,q _ _ s2⟩)))
 refine j0i 5 nd (j0d ?_);refine j1i T.range (j0d ⟨60,rfl,by decide,by decide,j1a (n:=60) (fun _ σ H3=>H3=H2/\∃(x:Int) (u v:Option V),σ=[some (.ref a),some (.int k),some (.ref p),some (.ref p2),some (.int b),some (.int x),u,v]) ⟨rfl,0,_,_,rfl⟩ ?_ ?_⟩)
 ·rintro i σ H3 hi ⟨rfl,x,u,v,rfl⟩;have i9:0<=(0+(i:Int)) % 9:=Av _ (by decide);obtain⟨m1,f1,g1,g2⟩:=q18 (i:=(0+(i:Int)) % 8) (Av _ (by decide)) (Az _ (by decide));obtain⟨m2,f2,g3,g4⟩:=q3e (i:=(0+(i:Int)) % 8) (Av _ (by decide)) (Az _ (by decide));refine j0n 6 nd ?_;refine j0i 7 nd (j0m j1z (j0m j1z (j0m j0x (j0s G hr (j0a (ev_v 0 (j0a (j0m j1z (ev_v 1 (j0m j0x (ev_v 6 (j0d ?_))))))))))));refine⟨_,_,rfl,rfl,(by show(0:Int) < 9;decide),_,_,rfl,rfl,j0c ⟨a,ns,_,rfl,s2.seq hS,?_,fun c=>?_⟩⟩
  ·show 0<=k+(0+(i:Int)) % 9;omega
  refine j0m k0s (j0d (j0d ⟨_,_,rfl,rfl,⟨by decide,by decide,by decide⟩,_,_,rfl,rfl,(by show(0:Int) < 10 ^ (18:Int).toNat;decide),j0d ⟨_,_,rfl,rfl,?_⟩⟩));refine j0m j6r (ev_v 6 (ev_v 6 ?_));refine⟨_,_,rfl,rfl,.inl ⟨by omega,by omega⟩,_,_,rfl,rfl,?_⟩;refine j0i 5 nd (j0m j1z (j0m j6r (ev_v 5 (j0d ⟨_,_,rfl,rfl,.inr ⟨by decide,by decide⟩,?_⟩))));refine j0m j0x (j0m j0x (j0m j6r (ev_v 7 (j0o j0p (ev_v 2 (j0m j0x (ev_v 6 (j0d ⟨_,_,rfl,rfl,(by show(0:Int) < 8;decide),p,_,_,_,rfl,rfl,SqT.of e1,f1,_,_,rfl,rfl,.inr ⟨by omega,by omega⟩,?_⟩))))))));refine j0o j0p (ev_v 3 (j0m j0x (ev_v 6 (j0d ⟨_,_,rfl,rfl,(by show(0:Int) < 8;decide),p2,_,_,_,rfl,rfl,SqT.of e2,f2,_,_,rfl,rfl,g3,j0d ⟨_,_,rfl,rfl,(by show(0:Int) < 7919;decide),_,_,rfl,rfl,?_⟩⟩))));exact j0j ⟨rfl,_,_,_,rfl⟩
 ·rintro σ H3 ⟨rfl,x,u,v,rfl⟩;exact j0l (ev_v 5 (q x _ s2))
abbrev NN:List Str:=["_law_stem","_law_many","_law_signs","_law_size","_law_spot_here","_law_names_here","_law_v","_law_name","_law_k","_law_turn"]
theorem scNames:FnScope NN ["_law_stem","_law_many"] (j0f k4o):=⟨rfl,rfl,rfl,by decide +kernel,rfl,by decide +kernel,by decide +kernel⟩
theorem k77{f:Addr}{fd:FuncData}(F:Fun K "_law_names" "_law_names" k4o f fd)(T:Txt mg):FnOk P w K mg base CX0 1 f fd ["_law_stem","_law_many"] j91:=by
 refine F.gb scNames (fun vs H Q E h=>?_) (fun b0 H vs Q E hr h=>?_)
 ·obtain⟨b,m,rfl,_⟩:=h;rfl
 obtain⟨b,m,rfl,m0,m1,q⟩:=h;have nd:=scNames.nd;have s0:0<=b % 8:=Av _ (by decide);have s1:b % 8 < 8:=Az _ (by decide);show Run _ _ _ [some (.int b),some (.int m),none,none,none,none,none,none,none,none] H;refine j0i 2 nd (j04 ?_);refine j0i 3 nd (j0m j1z (j0d (j0m j0x (ev_v 0 (j0d ⟨_,_,rfl,rfl,(by show(0:Int) < 8;decide),_,_,rfl,rfl,?_⟩)))));refine j0i 4 nd (j0m j0x (j0m j07 (ev_v 0 (j0d ⟨_,_,rfl,rfl,⟨by decide,by decide⟩,ev_v 3 ⟨_,_,rfl,rfl,(by show 0 < 1+b % 8;omega),?_⟩⟩))));refine j0i 5 nd (j1f (j0c ⟨(by show 0<=sizeLine;decide),fun l hl=>?_⟩));show Run _ _ _ [some (.int b),some (.int m),some (.str lets),some (.int (1+b % 8)),some (.int (b / 8 % (1+b % 8))),some (.ref l),none,none,none,none] _;have spE:b / 8 % (1+b % 8)=b / 8 % (1+b % 8):=rfl;refine j1i T.range (ev_v 1 ⟨m,rfl,by omega,by omega,j1a (n:=m.toNat) (fun i σ H3=>H3=upd H l (Ls (namesOf b i))/\∃ u1 u2 u3 u4,σ=[some (.int b),some (.int m),some (.str lets),some (.int (1+b % 8)),some (.int (b / 8 % (1+b % 8))),some (.ref l),u1,u2,u3,u4]) ⟨rfl,_,_,_,_,rfl⟩ ?_ ?_⟩)
 ·rintro i σ H3 hi ⟨rfl,u1,u2,u3,u4,rfl⟩;refine j0n 6 nd ?_;refine j0i 7 nd (j04 ?_);refine j1i T.range (ev_v 3 ⟨_,rfl,by omega,by omega,j1a (n:=(1+b % 8).toNat) (fun j σ H4=>H4=upd H l (Ls (namesOf b i))/\∃(u3 u4:Option V),σ=[some (.int b),some (.int m),some (.str lets),some (.int (1+b % 8)),some (.int (b / 8 % (1+b % 8))),some (.ref l),some (.int (0+(i:Int))),some (.str (nm b (b / 8 % (1+b % 8)) i j)),u3,u4]) ⟨rfl,_,_,rfl⟩ ?_ ?_⟩)
  ·rintro j σ H4 hj ⟨rfl,v3,v4,rfl⟩;have t0:0<=b / 7 % 5:=Av _ (by decide);have t1:b / 7 % 5 < 5:=Az _ (by decide);have nl:(nm b (b / 8 % (1+b % 8)) i j).length=j:=by
    have:=congrArg List.length (j51 b (b / 8 % (1+b % 8)) i j);show(nm b (b / 8 % (1+b % 8)) i j).cps.size=j
    simpa using this
   refine j0n 8 nd ?_;refine j0i 9 nd (j0m j1z (j0m j07 (ev_v 0 (j0d ⟨_,_,rfl,rfl,⟨by decide,by decide⟩,j0m j6r (ev_v 8 (j0m j0x (j0m j07 (ev_v 0 (j0d ⟨_,_,rfl,rfl,⟨by decide,by decide⟩,j0d ⟨_,_,rfl,rfl,(by show(0:Int) < 5;decide),?_⟩⟩)))))⟩))));refine⟨_,_,rfl,rfl,.inr ⟨by omega,by omega⟩,_,_,rfl,rfl,?_⟩;refine k0l ((0+(j:Int))=b / 8 % (1+b % 8)) (¬(0+(j:Int))=b / 8 % (1+b % 8)) (fun σ' H'=>H'=upd H l (Ls (namesOf b i))/\σ'=[some (.int b),some (.int m),some (.str lets),some (.int (1+b % 8)),some (.int (b / 8 % (1+b % 8))),some (.ref l),some (.int (0+(i:Int))),some (.str (nm b (b / 8 % (1+b % 8)) i j)),some (.int (0+(j:Int))),some (.int (turn b (b / 8 % (1+b % 8)) i j))]) (fun R qq=>?_) (fun hc=>?_) (fun hc=>j0j ⟨rfl,?_⟩) ?_
   ·refine j0v j3a (ev_v 8 (ev_v 4 ⟨rfl,_,rfl,?_⟩))
    by_cases hc:(0+(j:Int))=b / 8 % (1+b % 8)
    ·rw [decide_eq_true (show V.int (0+(j:Int))=V.int (b / 8 % (1+b % 8)) by rw [hc])];exact qq true (fun _=>hc) fun h=>by cases h
    ·rw [decide_eq_false fun h=>hc (V.int.inj h)];exact qq false (fun h=>by cases h) fun _=>hc
   ·refine j0i 9 nd (j0m j1z (ev_v 9 (ev_v 6 ⟨_,_,rfl,rfl,j0j ⟨rfl,?_⟩⟩)));have e:b / 64+(0+(j:Int)) * (b / 7 % 5)+(0+(i:Int))=turn b (b / 8 % (1+b % 8)) i j:=by
     unfold turn;rw [if_pos (by omega),Cq,Cq]
    rw [<- e];rfl
   ·have e:b / 64+(0+(j:Int)) * (b / 7 % 5)=turn b (b / 8 % (1+b % 8)) i j:=by
     unfold turn;rw [if_neg (by omega),Cq,Int.add_zero]
    rw [<- e];rfl
   ·rintro σ' H' ⟨rfl,rfl⟩;refine j0i 7 nd (j0m j3x (ev_v 7 (j0o k3o (ev_v 2 (j0m j0x (ev_v 9 (j0d ⟨_,_,rfl,rfl,(by show(0:Int) < 36;decide),lets,_,sgn (turn b (b / 8 % (1+b % 8)) i j),rfl,rfl,by decide +kernel,k09 _,_,_,rfl,rfl,small (by show(nm b (b / 8 % (1+b % 8)) i j).length+1<=100000;omega),j0j ⟨rfl,_,_,rfl⟩⟩)))))))
  ·rintro σ H4 ⟨rfl,v3,v4,rfl⟩;refine k0l (b % 3=2) (¬ b % 3=2) (fun σ' H'=>H'=upd H l (Ls (namesOf b i))/\σ'=[some (.int b),some (.int m),some (.str lets),some (.int (1+b % 8)),some (.int (b / 8 % (1+b % 8))),some (.ref l),some (.int (0+(i:Int))),some (.str (nameOf b i)),v3,v4]) (fun R qq=>?_) (fun hc=>?_) (fun hc=>j0j ⟨rfl,?_⟩) ?_
   ·refine j0v j3a (j0m j0x (ev_v 0 (j0d ⟨_,_,rfl,rfl,(by show(0:Int) < 3;decide),j0d ⟨rfl,_,rfl,?_⟩⟩)))
    by_cases hc:b % 3=2
    ·rw [decide_eq_true (show V.int (b % 3)=V.int 2 by rw [hc])];exact qq true (fun _=>hc) fun h=>by cases h
    ·rw [decide_eq_false fun h=>hc (V.int.inj h)];exact qq false (fun h=>by cases h) fun _=>hc
   ·have e0:0<=(0+(i:Int)) % 8:=Av _ (by decide);have e1:(0+(i:Int)) % 8 < 8:=Az _ (by decide);refine j0i 7 nd (j0m k2v (j0o k3o (ev_v 2 (j0m j0x (j0m j1z (j0m j07 (ev_v 0 (j0d ⟨_,_,rfl,rfl,⟨by decide,by decide⟩,j0m j07 (ev_v 6 (j0d ⟨_,_,rfl,rfl,⟨by decide,by decide⟩,_,_,rfl,rfl,j0d ⟨_,_,rfl,rfl,(by show(0:Int) < 36;decide),lets,_,sgn (b / 64+(0+(i:Int)) / 8),rfl,rfl,by decide +kernel,k09 _,?_⟩⟩))⟩))))))));refine j0m j1z (j0d (j0m j0x (ev_v 6 (j0d ⟨_,_,rfl,rfl,(by show(0:Int) < 8;decide),_,_,rfl,rfl,?_⟩))));refine⟨_,_,rfl,rfl,by omega,by omega,?_,j0j ⟨rfl,?_⟩⟩
    ·show 1 * _<=_;omega
    ·have e:Txt.mul ⟨#[sgn (b / 64+(0+(i:Int)) / 8)]⟩ (1+(0+(i:Int)) % 8)=nameOf b i:=by
      unfold nameOf;rw [if_pos hc,Cq]
     rw [<- e];rfl
   ·have e:nm b (b / 8 % (1+b % 8)) i (1+b % 8).toNat=nameOf b i:=by
     unfold nameOf;rw [if_neg hc]
    rw [<- e]
   ·rintro σ' H' ⟨rfl,rfl⟩;refine j0z (j1r (ev_v 5 ⟨l,rfl,⟨_,j0b⟩,ev_v 7 ⟨_,j0b,?_,?_⟩⟩))
    ·rw [Aa,j4e];exact j03 (by omega)
    ·rw [k3d];refine j0j ⟨?_,_,_,_,_,rfl⟩;rw [j2l];exact q3d
 ·rintro σ H3 ⟨rfl,u1,u2,u3,u4,rfl⟩;exact j0l (ev_v 5 (q l _ (j0g hl _) hl j0b))
end
end J0
namespace J0
open PySem L2 Nt Sort2
section
variable{P:Program}{w:World}{K:PySem.W.Frag}{mg:Str->Option Value}{base:Heap}
theorem q5a{H:Hp}{d:Addr}{kvs:List (Key×V)}(h:H d=some (.dK kvs)):tyV K "dict" (.ref d) H:=Or.inr (Or.inr (Or.inl ⟨rfl,Or.inl ⟨kvs,h⟩⟩))
abbrev NS:List Str:=["_law_rows","_law_seats_here","_law_r","_law_place"]
theorem scSeats:FnScope NS ["_law_rows"] (j0f k5f):=⟨rfl,rfl,rfl,by decide +kernel,rfl,by decide +kernel,by decide +kernel⟩
theorem k58{f:Addr}{fd:FuncData}(F:Fun K "_law_seats" "_law_seats" k5f f fd)(T:Txt mg):FnOk P w K mg base CX0 1 f fd ["_law_rows"] j6a:=by
 refine F.gb scSeats (fun vs H Q E h=>?_) (fun b0 H vs Q E hr h=>?_)
 ·obtain⟨R,as,n,rfl,_⟩:=h;rfl
 obtain⟨R,as,n,rfl,hR,hn,ht,q⟩:=h;have nd:=scSeats.nd;have hal:=hR.len;show Run _ _ _ [some (.ref R),none,none,none] H;refine j0i 1 nd (j7z fun d hd=>?_);refine j1i T.range (j0u j0k T.len boot_len (j0a (ev_v 0 (j0c ⟨R,_,rfl,.inl (SqL.of (j0g hd _ _ _ hR.lst)),_,rfl,by omega,by rw [Aa];omega,?_⟩))));rw [Aa,hal,Au];refine j1a (fun r σ H3=>∃ kvs ks A u1 u2,SeatsOn H H3 d (j06 (n.take r)) kvs ks A/\σ=[some (.ref R),some (.ref d),u1,u2]) ⟨_,_,_,_,_,SeatsOn.start hd,rfl⟩ ?_ ?_
 ·rintro r σ H3 hi ⟨kvs,ks,A',u1,u2,S,rfl⟩;rw [Cq];refine j0n 2 nd ?_;obtain⟨a,ea,eat,et,el,er⟩:=(hR.same S.same).at hi;refine j1i T.range (j0u j0k T.len boot_len (j0a (j0o j0p (j0o j0y (ev_v 0 (ev_v 2 ⟨R,_,_,.ref a.1,rfl,rfl,SqL.of (S.same _ _ hR.lst),eat,j0d ⟨a.1,_,_,.ref a.2,rfl,rfl,SqT.of et,rfl,j0c ⟨a.2,_,rfl,.inl (SqL.of el),_,rfl,by omega,?_,?_⟩⟩⟩))))))
  ·have:(row n r).length<=1000:=by
    have h1:(row n r).length<=(ties n).length:=by
     exact j2r n r
    omega
   rw [Aa];omega
  rw [Aa,Au];refine j1a (fun p σ H4=>∃ kvs ks A u2,SeatsOn H H4 d (j06 (n.take r)++j0q r ((row n r).take p) 0) kvs ks A/\σ=[some (.ref R),some (.ref d),some (.int (r:Int)),u2]) ⟨kvs,ks,A',_,by simpa [j0q] using S,rfl⟩ ?_ ?_
  ·rintro p σ H4 hp ⟨kvs,ks,A',u2,S,rfl⟩;rw [Cq];refine j0n 3 nd ?_;obtain⟨a,ea,eat,et,el,er⟩:=(hR.same S.same).at hi;have hz:(row n r)[p]?=some (row n r)[p]:=Ac hp;generalize (row n r)[p]=z at hz;have next:j06 (n.take r)++j0q r ((row n r).take (p+1)) 0=(j06 (n.take r)++j0q r ((row n r).take p) 0)++[(z,(r,p))]:=by
    rw [j2f hz,Bl]
   have hlen:kvs.length < sizeLine:=by
    have h1:ks.length<=1000:=by
     refine Bs (j3v (b:=ties n) S.nodup fun y hy=>?_) ht;have h2:=(S.mem y).mp hy;cases hA:A' y with
     | none=>rw [hA] at h2;cases h2
     | some pr=>
      obtain⟨a2,ts2⟩:=pr;have h3:=S.some' y a2 ts2 hA;unfold j2b at h3;obtain⟨x,hx⟩:=List.exists_mem_of_ne_nil _ h3;obtain⟨⟨y2,e2⟩,hm,_⟩:=Am.mp hx;rw [Dg,decide_eq_true_eq] at hm;obtain⟨hm,rfl⟩:=hm;have:(y2,e2)∈j06 n:=by
       rcases Ba.mp hm with hm | hm
       ·have q1:=mem_seats.mp hm;refine mem_seats.mpr ?_;have q2:=j16 q1;unfold j15 row at q1 ⊢;rw [Bt] at q2;rwa [Ek (by omega)] at q1
       ·have q1:=mem_rowSeats.mp hm;refine mem_seats.mpr ?_;unfold j15;rw [q1.1];have q3:=q1.2.2;rw [Nat.sub_zero] at q3;have q4:=(Ab.mp q3).1;rw [Bt] at q4;rwa [Ek (by omega)] at q3
      exact j7i (mem_seats.mp this)
    have h2:=congrArg List.length S.keys;rw [Aa,Aa] at h2;exact j03 (by omega)
   refine j0z (j1r (j9w PySem.F.plainAttrs_dict PySem.F.slot_dict_setdefault PySem.F.type_dict_setdefault k31 (ev_v 1 ⟨q5a S.dict,j0o j0y (j0o j0p (j0o j0y (ev_v 0 (ev_v 2 ⟨R,_,_,.ref a.1,rfl,rfl,SqL.of (S.same _ _ hR.lst),eat,j0d ⟨a.1,_,_,.ref a.2,rfl,rfl,SqT.of et,rfl,ev_v 3 ⟨a.2,_,_,.str z,rfl,rfl,SqL.of el,j7t hz,?_⟩⟩⟩))))⟩)));refine j1f (j0c ⟨(by show 0<=sizeLine;decide),fun l0 hl0=>?_⟩);have hdl:d≠l0:=j0h S.dict hl0;refine⟨d,kvs,Sum.inr z,.ref l0,rfl,rfl,by rw [j0e hdl];exact S.dict,hlen,?_⟩;cases hA:A' z with
   | some pr=>
    obtain⟨a2,ts2⟩:=pr;obtain⟨q1,q2,q3,q4⟩:=S.at' z a2 ts2 hA;have hla:a2≠l0:=j0h q3 hl0;refine .inl ⟨.ref a2,by rw [S.val z,hA];rfl,a2,rfl,⟨_,by rw [j0e hla];exact q3⟩,?_⟩;refine j1b (j0a (ev_v 2 (j0a (ev_v 3 (j0c ⟨(by show 2<=sizeLine;decide),fun t ht2=>?_⟩)))));have hta:a2≠t:=fun e=>by rw [<- e,j0e hla,q3] at ht2;cases ht2
    refine⟨ts2.map V.ref,by rw [j0e hta,j0e hla];exact q3,?_,?_⟩
    ·rw [Aa,q4.length];have h1:(j2b (j06 (n.take r)++j0q r ((row n r).take p) 0) z).length<=100000:=by
      unfold j2b;rw [Aa];refine Bs (Ex _ _) ?_;rw [Af];have h2:(j06 (n.take r)).length<=1000:=by
       have:=congrArg List.length (j1p (n.take r) 0);rw [Aa] at this;unfold j06;rw [this];exact Bs (j42 n r) ht
      have h3:(j0q r ((row n r).take p) 0).length<=1000:=by
       unfold j0q;rw [Aa,List.length_zipIdx,Bt];have h1:(row n r).length<=(ties n).length:=by
        exact j2r n r
       omega
      omega
     exact j03 h1
    ·refine j0j ⟨kvs,ks,(fun y=>if y=z then some (a2,ts2++[t]) else A' y),_,?_,rfl⟩;rw [next];exact S.old (e:=(r,p)) hA hl0 ht2
   | none=>
    refine .inr ⟨by rw [S.val z,hA];rfl,l0,rfl,⟨_,by rw [j0e hdl.symm];exact j0b⟩,?_⟩;refine j1b (j0a (ev_v 2 (j0a (ev_v 3 (j0c ⟨(by show 2<=sizeLine;decide),fun t ht2=>?_⟩)))));have htl:l0≠t:=fun e=>by rw [<- e,j0e hdl.symm,j0b] at ht2;cases ht2
    refine⟨[],by rw [j0e htl,j0e hdl.symm,j0b],by show 0 < sizeLine;decide,?_⟩;refine j0j ⟨putK kvs (Sum.inr z) (.ref l0),ks++[z],(fun y=>if y=z then some (l0,[t]) else A' y),_,?_,rfl⟩;rw [next];exact S.new (e:=(r,p)) hA hl0 ht2
  ·rintro σ H4 ⟨kvs,ks,A',u2,S,rfl⟩;refine j0j ⟨kvs,ks,A',_,_,?_,rfl⟩;rw [j3y hi];rwa [Bw] at S
 ·rintro σ H3 ⟨kvs,ks,A',u1,u2,S,rfl⟩;rw [Bw] at S;exact j0l (ev_v 1 (q d ks H3 S.same S.free S.whole))
abbrev NO:List Str:=["_law_rows","_law_seats_here","_law_end","_law_pair"]
theorem scOther:FnScope NO ["_law_rows","_law_seats_here","_law_end"] (j0f k5a):=⟨rfl,rfl,rfl,by decide +kernel,rfl,by decide +kernel,by decide +kernel⟩
theorem k6g{f:Addr}{fd:FuncData}(F:Fun K "_law_other" "_law_other" k5a f fd)(T:Txt mg):FnOk P w K mg base CX0 1 f fd ["_law_rows","_law_seats_here","_law_end"] k0i:=by
 refine F.gb scOther (fun vs H Q E h=>?_) (fun b0 H vs Q E hr h=>?_)
 ·obtain⟨R,d,t,as,n,ks,e,rfl,_⟩:=h;rfl
 obtain⟨R,d,t,as,n,ks,e,rfl,hR,hS,hT,ht,he,q⟩:=h;have nd:=scOther.nd;have hu:=hr.u100;obtain⟨z,hz⟩:=mem_ends.mp he;have hlt:=j16 hz;obtain⟨a,ea,eat,et,el,er⟩:=hR.at hlt;obtain⟨kvs,h1,h2,h3⟩:=hS.dict;obtain⟨pa,ts,v1,v2,v3⟩:=h3 z (j7i hz);obtain⟨x,y,hp,hxy,hor⟩:=j8b hT hz;rw [hp] at v3;cases v3 with
 | cons x1 v3=>
 cases v3 with
 | cons y1 v3=>
 cases v3;rename_i tx ty;show Run _ _ _ [some (.ref R),some (.ref d),some (.ref t),none] H;have hu1:=hr.u1;refine j0i 3 nd (j38 hu1 (ev_v 1 (j0o j0y (j0o j0p (j0o j0y (ev_v 0 (j0o j0p (ev_v 2 (j0d ⟨t,_,_,.int (e.1:Int),rfl,rfl,SqT.of ht,rfl,R,_,_,.ref a.1,rfl,rfl,SqL.of hR.lst,eat,j0d ⟨a.1,_,_,.ref a.2,rfl,rfl,SqT.of et,rfl,?_⟩⟩)))))))));refine j0o j0p (ev_v 2 (j0d ⟨t,_,_,.int (e.2:Int),rfl,rfl,SqT.of ht,rfl,a.2,_,_,.str z,rfl,rfl,SqL.of el,j7t hz,d,.ref pa,rfl,by rw [<- v1];exact DGet.k (k:=Sum.inr z) h1,?_⟩));show Run _ _ _ [some (.ref R),some (.ref d),some (.ref t),some (.ref pa)] H;refine j0l (j0o j0y (ev_v 3 (j48 j9h T.tint PyProof.Rows.boot_int (j0a (j33 (k0u hu) (j0o j0y (ev_v 3 (j0d ⟨pa,_,_,.ref tx,rfl,rfl,SqL.of v2,rfl,ev_v 2 ⟨1,_,by decide,k30 x1 ht,?_⟩⟩))))))))
 by_cases c:x=e
 ·rw [decide_eq_true c];refine j0c ⟨_,rfl,pa,[.ref tx,.ref ty],1,.ref ty,rfl,rfl,SqL.of v2,rfl,q ty ?_⟩;have e1:other n e=y:=by unfold other;simp only [hz,hp];simp [c]
  rw [e1];exact y1
 ·rw [decide_eq_false c];refine j0c ⟨_,rfl,pa,[.ref tx,.ref ty],0,.ref tx,rfl,rfl,SqL.of v2,rfl,q tx ?_⟩;have e1:other n e=x:=by unfold other;simp only [hz,hp];simp [c]
  rw [e1];exact x1
abbrev NT:List Str:=["_law_rows","_law_seats_here","_law_end","_law_turn","_law_other_here"]
theorem scStep:FnScope NT ["_law_rows","_law_seats_here","_law_end","_law_turn"] (j0f q0k):=⟨rfl,rfl,rfl,by decide +kernel,rfl,by decide +kernel,by decide +kernel⟩
theorem q1l{f:Addr}{fd:FuncData}(F:Fun K "_law_step" "_law_step" q0k f fd)(T:Txt mg)(G:Has P w K mg base 1 "_law_other" ["_law_rows","_law_seats_here","_law_end"] k0i) :
  FnOk P w K mg base CX0 2 f fd ["_law_rows","_law_seats_here","_law_end","_law_turn"] k2y:=by
 refine F.gb scStep (fun vs H Q E h=>?_) (fun b0 H vs Q E hr h=>?_)
 ·obtain⟨R,d,t,as,n,ks,e,rfl,_⟩:=h;rfl
 obtain⟨R,d,t,as,n,ks,e,rfl,hR,hS,hT,ht,he,q⟩:=h;have nd:=scStep.nd;have ho:=j2o hT he;obtain⟨z,hz⟩:=mem_ends.mp ho;have hlt:=j16 hz;have hpl:=j4x hz;obtain⟨a,ea,eat,et,el,er⟩:=hR.at hlt;show Run _ _ _ [some (.ref R),some (.ref d),some (.ref t),some (.int 1),none] H;refine j0i 4 nd (j0s G hr (j0a (ev_v 0 (j0a (ev_v 1 (j0a (ev_v 2 (j0c ⟨R,d,t,as,n,ks,e,rfl,hR,hS,hT,ht,he,fun u hu=>?_⟩))))))));show Run _ _ _ [some (.ref R),some (.ref d),some (.ref t),some (.int 1),some (.ref u)] H;refine j0l (j1b (j0a (j0o j0p (ev_v 4 (j0d ⟨u,_,_,.int ((other n e).1:Int),rfl,rfl,SqT.of hu,rfl,?_⟩)))));refine j0a (j0m j0x (j0m j1z (j0o j0p (ev_v 4 (j0d ⟨u,_,_,.int ((other n e).2:Int),rfl,rfl,SqT.of hu,rfl,ev_v 3 ⟨_,_,rfl,rfl,?_⟩⟩)))));refine j0u j0k T.len boot_len (j0a (j0o j0p (j0o j0y (ev_v 0 (j0o j0p (ev_v 4 (j0d ⟨u,_,_,.int ((other n e).1:Int),rfl,rfl,SqT.of hu,rfl,R,_,_,.ref a.1,rfl,rfl,SqL.of hR.lst,eat,j0d ⟨a.1,_,_,.ref a.2,rfl,rfl,SqT.of et,rfl,j0c ⟨a.2,_,rfl,.inl (SqL.of el),?_⟩⟩⟩)))))));rw [Aa];refine⟨_,_,rfl,rfl,by omega,j0c ⟨(by show 2<=sizeLine;decide),fun p hp=>?_⟩⟩;refine q p _ (j0g hp _) hp ?_;rw [j0b];unfold Nt.step Nt.left;show some (HO.tup [.int ((other n e).1:Int),.int ((((other n e).2:Int)+1) % ((row n (other n e).1).length:Int))])=some (HO.tup [.int ((other n e).1:Int),.int ((((other n e).2+1) % (row n (other n e).1).length:Nat):Int)]);rw [Int.natCast_emod];rfl
abbrev NF:List Str:=["_law_rows","_law_seats_here","_law_end","_law_face_here","_law_here"]
theorem scFace:FnScope NF ["_law_rows","_law_seats_here","_law_end"] (j0f q00):=⟨rfl,rfl,rfl,by decide +kernel,rfl,by decide +kernel,by decide +kernel⟩
def orb(n:Net)(e:Nt.End)(j:Nat):List Nt.End:=(List.range j).map fun i=>it (step n) i e
theorem k66(n:Net)(e:Nt.End)(j:Nat):orb n e (j+1)=orb n e j++[it (step n) j e]:=by
 unfold orb;rw [Ec,Al];rfl
theorem q0d{f:Addr}{fd:FuncData}(F:Fun K "_law_face" "_law_face" q00 f fd)(T:Txt mg)(G:Has P w K mg base 2 "_law_step" ["_law_rows","_law_seats_here","_law_end","_law_turn"] k2y) :
  FnOk P w K mg base CX0 3 f fd ["_law_rows","_law_seats_here","_law_end"] j8h:=by
 refine F.gb scFace (fun vs H Q E h=>?_) (fun b0 H vs Q E hr h=>?_)
 ·obtain⟨R,d,t,as,n,ks,e,rfl,_⟩:=h;rfl
 obtain⟨R,d,t,as,n,ks,e,rfl,hR,hS,hT,ht,he,hb,q⟩:=h;have nd:=scFace.nd;have hu:=hr.u100;obtain⟨k,k0,k1,k2⟩:=j66 (f:=step n) (S:=ends n) (fun a ha=>j4k hT ha) (fun a ha b hb=>k05 hT ha hb) he;show Run _ _ _ [some (.ref R),some (.ref d),some (.ref t),none,none] H;refine j0i 3 nd (j1f (j0a (ev_v 2 (j0c ⟨(by show 1<=sizeLine;decide),fun l hl=>?_⟩))));have g1:=j0g hl (.lst [.ref t]);refine j0i 4 nd (j0s G hr (j0a (ev_v 0 (j0a (ev_v 1 (j0a (ev_v 2 (j0a (j0d (j0c ⟨R,d,t,as,n,ks,e,rfl,hR.same g1,hS.same g1,hT,g1 _ _ ht,he,fun u H1 s1 nu eu=>?_⟩))))))))));show Run _ _ _ [some (.ref R),some (.ref d),some (.ref t),some (.ref l),some (.ref u)] H1;refine j5x (fun m σ H2=>∃(j:Nat) (ts:List Addr) (u:Addr),m=k - j/\0 < j/\j<=k/\Same H H2/\H2 l=some (.lst (ts.map V.ref))/\Pd H2 ts (orb n e j)/\H2 u=some (Tp (it (step n) j e))/\(∀ i,0 < i->i < j->it (step n) i e≠e)/\σ=[some (.ref R),some (.ref d),some (.ref t),some (.ref l),some (.ref u)])
  (m0:=k - 1) ⟨1,[t],u,rfl,Nat.one_pos,k0,g1.trans s1,s1 _ _ j0b,.cons (s1 _ _ (g1 _ _ ht)) .nil,eu,fun i h1 h2=>by omega,rfl⟩ ?_
 rintro m σ H2 ⟨j,ts,u,rfl,j0,j1,sH,el,ep,eu,hf,rfl⟩;refine j0v (j40 hu) (ev_v 4 (ev_v 2 ⟨1,_,by decide,q2h eu (sH _ _ ht),_,rfl,?_⟩));have pl:=ep.length;have ol:(orb n e j).length=j:=by unfold orb;simp
 by_cases c:it (step n) j e=e
 ·rw [decide_eq_true c];refine iteF (j0l (ev_v 3 (q l ts (orb n e j) H2 sH hl el ep ⟨by omega,by omega,fun i hi=>?_,by rw [ol];exact c,fun i h1 h2=>hf i h1 (by omega)⟩)));unfold orb;rw [Ae,Dv (by omega)];rfl
 ·rw [decide_eq_false c];have jk:j < k:=by
   rcases Ce j k with h | h
   ·exact h
   ·have:j=k:=by omega
    subst this;exact absurd k2 c
  refine iteT (j0z (j1r (ev_v 3 ⟨l,rfl,⟨_,el⟩,ev_v 4 ⟨_,el,by rw [Aa];exact j03 (by omega),?_⟩⟩)));have s2:Same H (upd H2 l (.lst (ts.map V.ref++[.ref u]))):=j1h sH hl;have kt:∀ b f,H2 b=some (Tp f)->(upd H2 l (.lst (ts.map V.ref++[.ref u]))) b=some (Tp f):=fun b f h=>by
   rw [j0e (j26 h el)];exact h
  have eu2:=kt u _ eu;refine j0i 4 nd (j0s G hr (j0a (ev_v 0 (j0a (ev_v 1 (j0a (ev_v 4 (j0a (j0d (j0c ⟨R,d,u,as,n,ks,it (step n) j e,rfl,hR.same s2,hS.same s2,hT,eu2,j6b (fun a ha=>j4k hT ha) he j,fun v H3 s3 nv ev=>?_⟩))))))))));refine j0j ⟨k - (j+1),by omega,j+1,ts++[u],v,rfl,Dx _,jk,s2.trans s3,?_,?_,ev,fun i h1 h2=>?_,rfl⟩
  ·rw [Al];exact s3 _ _ j0b
  ·rw [k66];exact(ep.keep fun b f h=>s3 _ _ (kt b f h)).append (.cons (s3 _ _ eu2) .nil)
  ·rcases Nat.lt_succ_iff_lt_or_eq.mp h2 with h | h
   ·exact hf i h1 h
   ·rw [h];exact c
end
end J0
namespace Nt
open PySem L2
def Full(n:Net):Prop:=(∃ nm,n=[(nm,[])])\/(n≠[]/\∀ i,i < n.length->row n i≠[])
def j1y(n:Net)(c:End):Prop:=c.1 < n.length/\c.2 < max 1 (row n c.1).length
def ins(n:Net)(c:End)(z:Str):Net:=n.modify c.1 fun r=>(r.1,r.2.take c.2++z :: r.2.drop c.2)
theorem j23(n:Net)(c:End)(z:Str):(ins n c z).length=n.length:=by unfold ins;rw [List.length_modify]
theorem j3j(n:Net)(c:End)(z:Str):(ins n c z).map (·.1)=n.map (·.1):=by
 unfold ins;refine Dr fun i=>?_;rw [Ae,Ae,Ff];cases n[i]? with
 | none=>rfl
 | some r=>by_cases h:c.1=i <;> simp [h]
theorem j2d(n:Net)(c:End)(z:Str)(i:Nat)(hc:c.1 < n.length):row (ins n c z) i=if c.1=i then(row n i).take c.2++z :: (row n i).drop c.2 else row n i:=by
 unfold row ins;rw [Ff]
 by_cases h:c.1=i
 ·subst h;rw [Ac hc];simp
 ·rw [if_neg h];cases n[i]? with
  | none=>simp [h]
  | some r=>simp [h]
theorem j2a:∀(n:Net) (c:End) (z:Str),c.1 < n.length->(ties (ins n c z)).Perm (z :: ties n)
 | [],c,z,h=>by simp at h
 | a :: n,(0,p),z,h=>by
  unfold ins ties;simp only [List.modify_zero_cons,Ds];have:(a.2.take p++z :: a.2.drop p).Perm (z :: a.2):=by
   refine Fd.trans ?_;rw [Ck]
  exact this.append_right _
 | a :: n,(i+1,p),z,h=>by
  have ih:=j2a n (i,p) z (by simpa using h);unfold ins ties at ih ⊢;simp only [List.modify_succ_cons,Ds];refine(ih.append_left a.2).trans ?_;exact Fd
theorem j7q{n:Net}{c:End}{z:Str}(F:Full n)(hc:c.1 < n.length):n.length=1\/(∀ i,i < n.length->row n i≠[])->(∀ i,i < (ins n c z).length->row (ins n c z) i≠[])/\ins n c z≠[]:=by
 intro h;have hl:=j23 n c z;refine⟨fun i hi=>?_,fun e=>?_⟩
 ·rw [j2d n c z i hc]
  by_cases q:c.1=i
  ·rw [if_pos q];simp
  ·rw [if_neg q]
   rcases h with h | h
   ·rw [hl] at hi;omega
   ·exact h i (by omega)
 ·rw [e] at hl;simp at hl;omega
theorem Full.some{n:Net}(F:Full n):n≠[]:=by
 rcases F with ⟨nm,rfl⟩ | h
 ·simp
 ·exact h.1
theorem Full.either{n:Net}(F:Full n):n.length=1\/(∀ i,i < n.length->row n i≠[]):=by
 rcases F with ⟨nm,rfl⟩ | h
 ·exact .inl rfl
 ·exact .inr h.2
theorem Full.corner{n:Net}(F:Full n)(h0:row n 0≠[]){c:End}(hc:j1y n c):c∈ends n:=by
 rcases F with ⟨nm,rfl⟩ | h
 ·exact absurd rfl h0
 ·have:=h.2 c.1 hc.1;have hp:0 < (row n c.1).length:=Bv.mpr this;have hlt:c.2 < (row n c.1).length:=by
   have:=hc.2;omega
  exact mem_ends.mpr (k8p hlt)
theorem j6g{n:Net}{e:End}(h:e∈ends n):j1y n e:=by
 obtain⟨z,h⟩:=mem_ends.mp h;have:=j4x h;exact⟨j16 h,by omega⟩
def Keep(H H':Hp)(bad:List Addr):Prop:=∀ b o,H b=some o->b∉bad->H' b=some o
theorem j63(zs:List Str)(i:Nat)(z:Str):insertAt (zs.map V.str) i (.str z)=(zs.take i++z :: zs.drop i).map V.str:=by
 unfold insertAt;rw [Al,Be,Fn,Fo]
theorem RowsAt.ins{H:Hp}{R:Addr}{as:List (Addr×Addr)}{n:Net}(h:RowsAt H R as n){c:End}{z:Str}{a:Addr×Addr}(ha:as[c.1]?=some a)(hc:c.1 < n.length) :
  RowsAt (upd H a.2 (Ls ((row n c.1).take c.2++z :: (row n c.1).drop c.2))) R as (Nt.ins n c z):=by
 have q0:=h.tup c.1 a n[c.1] ha (Ac hc);have hRa:R≠a.2:=by
  intro e;have h1:=h.lst;rw [e,q0.2] at h1;have h2:=HO.lst.inj (Option.some.inj h1);have h3:=congrArg List.length h2;cases hm:n[c.1].2 with
  | nil=>
   rw [hm] at h2;have:as.map (fun a=>V.ref a.1)=[]:=h2.symm;have hl:=congrArg List.length this;rw [Aa,h.len] at hl;rw [hl] at hc;exact absurd hc (Dh _)
  | cons y r=>
   rw [hm] at h2;cases as with
   | nil=>simp at h2
   | cons b bs=>
    simp at h2
 have er:row n c.1=n[c.1].2:=by unfold row;rw [Ac hc];rfl
 refine⟨by rw [j23];exact h.len,by rw [j0e hRa];exact h.lst,fun i b r hb hr=>?_,h.inj⟩;unfold Nt.ins at hr;rw [Ff] at hr;cases hn:n[i]? with
 | none=>rw [hn] at hr;by_cases q:c.1=i <;> simp [q] at hr
 | some r0=>
  rw [hn] at hr;have q1:=h.tup i b r0 hb hn;have t1:b.1≠a.2:=j11 q1.1 q0.2 fun e=>nomatch e
  by_cases q:c.1=i
  ·subst q;rw [Ac hc] at hn;cases hn;rw [ha] at hb;cases hb;simp at hr;subst hr;refine⟨by rw [j0e t1];exact q1.1,?_⟩;rw [j0b,er]
  ·simp [q] at hr;subst hr;have t2:b.2≠a.2:=fun e=>by
    have l1:i < as.length:=(Ab.mp hb).1;have l2:c.1 < as.length:=(Ab.mp ha).1;have x1:(as.map (·.2))[i]?=some b.2:=by rw [Ae,hb];rfl
    have x2:(as.map (·.2))[c.1]?=some a.2:=by rw [Ae,ha];rfl
    obtain⟨y1,z1⟩:=Ab.mp x1;obtain⟨y2,z2⟩:=Ab.mp x2;exact q ((Ey (h₀:=y2) (h₁:=y1) h.inj).mp (z2.trans (e.symm.trans z1.symm)))
   exact⟨by rw [j0e t1];exact q1.1,by rw [j0e t2];exact q1.2⟩
theorem RowsAt.more{H:Hp}{R t l:Addr}{as:List (Addr×Addr)}{n:Net}{pt:Str}{zs:List Str}(h:RowsAt H R as n)(ht:H t=some (.tup [.str pt,.ref l]))(hl:H l=some (Ls zs))(hn:l∉as.map (·.2))(hR:l≠R) :
  RowsAt (upd H R (.lst (as.map (fun a=>V.ref a.1)++[.ref t]))) R (as++[(t,l)]) (n++[(pt,zs)]):=by
 have hal:=h.len;refine⟨by rw [Af,Af,hal];rfl,by rw [j0b,Al];rfl,fun i b r hb hr=>?_,?_⟩
 ·rcases Ce i as.length with c | c
  ·rw [Ax c] at hb;rw [Ax (by omega)] at hr;have q:=h.tup i b r hb hr;have t1:b.1≠R:=j11 q.1 h.lst fun e=>nomatch e;have t2:b.2≠R:=by
    intro e;have h1:=h.lst;rw [<- e,q.2] at h1;have h2:=HO.lst.inj (Option.some.inj h1);cases as with
    | nil=>simp at c
    | cons b' bs=>
     cases hm:r.2 with
     | nil=>rw [hm] at h2;simp at h2
     | cons y r=>rw [hm] at h2;simp at h2
   exact⟨by rw [j0e t1];exact q.1,by rw [j0e t2];exact q.2⟩
  ·have e:i=as.length:=by
    have:=(Ab.mp hb).1;rw [Af] at this;simp at this;omega
   subst e;rw [Bb (Ag _)] at hb;rw [hal,Bb (Ag _)] at hr;simp at hb hr;subst hb hr;have t1:t≠R:=j11 ht h.lst fun e=>nomatch e;exact⟨by rw [j0e t1];exact ht,by rw [j0e hR];exact hl⟩
 ·rw [Al,Cr];exact⟨h.inj,by simp,fun x hx y hy e=>by simp at hy;subst hy e;exact hn hx⟩
theorem RowsAt.lists{H:Hp}{R:Addr}{as:List (Addr×Addr)}{n:Net}(h:RowsAt H R as n){x:Addr×Addr}(hx:x∈as):∃ zs,H x.2=some (Ls zs):=by
 obtain⟨i,hi,e⟩:=Dc.mp hx;have hl:=h.len;exact⟨_,(h.tup i x (n[i]'(by omega)) (by rw [<- e];exact Ac hi) (Ac (by omega))).2⟩
theorem RowsAt.fresh{H:Hp}{R l:Addr}{as:List (Addr×Addr)}{n:Net}(h:RowsAt H R as n)(hl:H l=none){x:Addr×Addr}(hx:x∈as):l≠x.2:=by
 obtain⟨zs,e⟩:=h.lists hx;exact(j0h e hl).symm
theorem j3z(n:Net):(ends n).length=(ties n).length:=by
 unfold ends j06;rw [Aa,<- j1p n 0,Aa]
theorem IsFace.ends{n:Net}(T:j1s n){e:End}{fs:List End}(h:IsFace n e fs)(he:e∈ends n):∀ c∈fs,c∈Nt.ends n:=by
 intro c hc;obtain⟨i,hi,e2⟩:=Dc.mp hc;have:=h.at' i hi;rw [Ac hi,e2] at this;rw [Option.some.inj this];exact j6b (fun a ha=>j4k T ha) he i
theorem j4s{n:Net}{c k:End}{z:Str}(hc:j1y n c)(hk:k.1 < n.length):j1y (ins n k z) c:=by
 refine⟨by rw [j23];exact hc.1,?_⟩;rw [j2d n k z c.1 hk];have:=hc.2
 split
 ·rw [Af,Bd,Bt,Dm];omega
 ·exact this
end Nt
namespace J0
open PySem L2 Nt Sort2
def q03:Sp:=fun vs H Q _=>∃(R:Addr) (as:List (Addr×Addr)) (n:Net) (b:Int) (z pt:Str),vs=[.ref R,.int b,.str z,.str pt]/\RowsAt H R as n/\j1s n/\Full n/\z∉ties n/\n.length<=100/\(ties n).length<=100 /\
 ∀ i as' n' H',RowsAt H' R as' n'->Keep H H' (R :: as.map (·.2))->(∀ a∈as',a∈as\/H a.2=none)->(ties n').Perm (z :: z :: ties n)->(n'.map (·.1)=n.map (·.1)\/n'.map (·.1)=n.map (·.1)++[pt])->Full n'->Q (.int i) H'
section
variable{P:Program}{w:World}{K:PySem.W.Frag}{mg:Str->Option Value}{base:Heap}
abbrev NP:List Str:=["_law_rows","_law_big_here","_law_tie","_law_point","_law_corners","_law_r","_law_place","_law_one","_law_kind","_law_face_here","_law_other_here","_law_spot_here"]
theorem scPut:FnScope NP ["_law_rows","_law_big_here","_law_tie","_law_point"] (j0f sPut):=⟨rfl,rfl,rfl,by decide +kernel,rfl,by decide +kernel,by decide +kernel⟩
theorem j7a{ts:List Addr}{j:Nat}{t:Addr}(h:ts[j]?=some t):atI (ts.map V.ref) (j:Int)=some (.ref t):=j4n (by rw [Ae,h];rfl)
theorem q1v{f:Addr}{fd:FuncData}(F:Fun K "_law_put" "_law_put" sPut f fd)(T:Txt mg)
  (GS:Has P w K mg base 3 "_law_seats" ["_law_rows"] j6a)
  (GF:Has P w K mg base 3 "_law_face" ["_law_rows","_law_seats_here","_law_end"] j8h) :
  FnOk P w K mg base CX0 4 f fd ["_law_rows","_law_big_here","_law_tie","_law_point"] q03:=by
 refine F.gb scPut (fun vs H Q E h=>?_) (fun b0 H vs Q E hr h=>?_)
 ·obtain⟨R,as,n,b,z,pt,rfl,_⟩:=h;rfl
 obtain⟨R,as,n,b,z,pt,rfl,hR,hT,hF,hz,hn,htn,q⟩:=h;have nd:=scPut.nd;have hu:=hr.u100;have hal:=hR.len;show Run _ _ _ [some (.ref R),some (.int b),some (.str z),some (.str pt),none,none,none,none,none,none,none,none] H;refine j0i 4 nd (j1f (j0c ⟨(by show 0<=sizeLine;decide),fun lc hlc=>?_⟩));have g0:=j0g hlc (.lst []);refine j1i T.range (j0u j0k T.len boot_len (j0a (ev_v 0 (j0c ⟨R,_,rfl,.inl (SqL.of (g0 _ _ hR.lst)),_,rfl,by omega,by rw [Aa];omega,?_⟩))));rw [Aa,hal,Au];refine j1a (fun r σ H3=>∃(ts:List Addr) (cs:List Nt.End) (u1 u2:Option V),Same H H3/\H3 lc=some (.lst (ts.map V.ref))/\Pd H3 ts cs/\(∀ c∈cs,j1y n c)/\(0 < r->cs≠[])/\cs.length<=101 * r/\σ=[some (.ref R),some (.int b),some (.str z),some (.str pt),some (.ref lc),u1,u2,none,none,none,none,none]) ⟨[],[],_,_,g0,j0b,.nil,fun c hc=>(nomatch hc),fun h=>absurd h (by decide),Ag _,rfl⟩ ?_ ?_
 ·rintro r σ H3 hi ⟨ts,cs,u1,u2,sH,el,ep,hc,hne,hlen,rfl⟩;rw [Cq];refine j0n 5 nd ?_;obtain⟨a,ea,eat,et,ell,er⟩:=(hR.same sH).at hi;have hrl:=j2r n r;refine j1i T.range (j0u (j3h rfl) T.max PyProof.Rows.boot_max (j0a (j0d (j0a (j0u j0k T.len boot_len (j0a (j0o j0p (j0o j0y (ev_v 0 (ev_v 5 ⟨R,_,_,.ref a.1,rfl,rfl,SqL.of (sH _ _ hR.lst),eat,j0d ⟨a.1,_,_,.ref a.2,rfl,rfl,SqT.of et,rfl,j0c ⟨a.2,_,rfl,.inl (SqL.of ell),?_⟩⟩⟩))))))))));rw [Aa];have em:(if((row n r).length:Int) > 1 then((row n r).length:Int) else 1)=((max 1 (row n r).length:Nat):Int):=by
   split <;> omega
  refine j0c ⟨1,_,rfl,((max 1 (row n r).length:Nat):Int),by rw [em],by omega,by omega,?_⟩;rw [Au];refine j1a (fun p σ H4=>∃(ts:List Addr) (cs:List Nt.End) (u2:Option V),Same H H4/\H4 lc=some (.lst (ts.map V.ref))/\Pd H4 ts cs/\(∀ c∈cs,j1y n c)/\(0 < r+p->cs≠[])/\cs.length<=101 * r+p/\σ=[some (.ref R),some (.int b),some (.str z),some (.str pt),some (.ref lc),some (.int (r:Int)),u2,none,none,none,none,none]) ⟨ts,cs,_,sH,el,ep,hc,hne,hlen,rfl⟩ ?_ ?_
  ·rintro p σ H4 hp ⟨ts,cs,u2,sH,el,ep,hc,hne,hlen,rfl⟩;rw [Cq];refine j0n 6 nd ?_;refine j0z (j1r (ev_v 4 ⟨lc,rfl,⟨_,el⟩,j1b (j0a (ev_v 5 (j0a (ev_v 6 (j0c ⟨(by show 2<=sizeLine;decide),fun t ht=>?_⟩)))))⟩));have htl:lc≠t:=j0h el ht;have s2:=j0g ht (Tp (r,p));have epl:=ep.length;refine⟨ts.map V.ref,by rw [j0e htl];exact el,by rw [Aa];exact j03 (by omega),?_⟩;refine j0j ⟨ts++[t],cs++[(r,p)],_,j1h (sH.trans s2) hlc,by rw [j0b,Al];rfl,?_,fun c h=>?_,fun _=>by simp,by rw [Af];simp;omega,rfl⟩
   ·refine Pd.append (ep.keep fun x e h=>?_) (.cons ?_ .nil)
    ·rw [j0e (j26 h el)];exact s2 _ _ h
    ·rw [j0e htl.symm,j0b]
   ·rcases Ba.mp h with h | h
    ·exact hc c h
    ·rw [Ah] at h;subst h;exact⟨hi,hp⟩
  ·rintro σ H4 ⟨ts,cs,u2,sH,el,ep,hc,hne,hlen,rfl⟩;refine j0j ⟨ts,cs,_,_,sH,el,ep,hc,fun _=>hne (by omega),by omega,rfl⟩
 rintro σ H3 ⟨ts,cs,u1,u2,sH,el,ep,hc,hne,hlen,rfl⟩;have hn0:0 < n.length:=Bv.mpr hF.some;have cne:=hne hn0;have cpos:0 < cs.length:=Bv.mpr cne;have epl:=ep.length;have m0:0<=b % (cs.length:Int):=Av _ (by omega);have m1:b % (cs.length:Int) < cs.length:=Az _ (by omega);obtain⟨j,hj⟩:∃ j:Nat,b % (cs.length:Int)=j:=⟨(b % (cs.length:Int)).toNat,by omega⟩;have hjl:j < cs.length:=by omega
 have hce:cs[j]?=some cs[j]:=Ac hjl;obtain⟨t1,et1,e1⟩:=ep.at hce;have hcc:j1y n cs[j]:=hc _ (Cg hjl);generalize cs[j]=c1 at e1 hcc;refine j0i 7 nd (j0o j0y (ev_v 4 (j0m j0x (ev_v 1 (j0u j0k T.len boot_len (j0a (ev_v 4 (j0c ⟨lc,_,rfl,.inl (SqL.of el),?_⟩))))))));rw [Aa,epl];refine⟨_,_,rfl,rfl,by omega,lc,_,_,.ref t1,rfl,rfl,SqL.of el,by rw [hj];exact j7a et1,?_⟩;refine j0i 1 nd (j0m j07 (ev_v 1 (j0u j0k T.len boot_len (j0a (ev_v 4 (j0c ⟨lc,_,rfl,.inl (SqL.of el),?_⟩))))));rw [Aa,epl];refine⟨_,_,rfl,rfl,⟨by omega,by omega⟩,?_⟩;show Run _ _ _ [some (.ref R),some (.int (b / (cs.length:Int))),some (.str z),some (.str pt),some (.ref lc),u1,u2,some (.ref t1),none,none,none,none] H3;generalize b / (cs.length:Int)=b2;refine j0i 8 nd (j0m j0x (ev_v 1 (j0d ⟨_,_,rfl,rfl,(by show(0:Int) < 3;decide),?_⟩)));refine j0i 1 nd (j0m j07 (ev_v 1 (j0d ⟨_,_,rfl,rfl,⟨by decide,by decide⟩,?_⟩)));show Run _ _ _ [some (.ref R),some (.int (b2 / 3)),some (.str z),some (.str pt),some (.ref lc),u1,u2,some (.ref t1),some (.int (b2 % 3)),none,none,none] H3;generalize b2 / 3=b3;have hR3:=hR.same sH;obtain⟨a,ea,eat,eta,ela,era⟩:=hR3.at hcc.1;have insOk:∀(m:Net),(ties m).length<=200->∀ i,(row m i).length<=200:=fun m h i=>Bs (j2r m i) h;have cin:c1.2<=(row n c1.1).length:=by
  have:=hcc.2;omega
 refine j1g (j0v j3a (ev_v 8 (j0d ⟨rfl,_,rfl,?_⟩)));refine ite2 (fun _=>?_) (fun _=>j0j ?_)
 ·
  have rl:=j2r n c1.1;refine j0z (j9w PySem.F.plainAttrs_list PySem.F.slot_list_insert PySem.F.type_list_insert j2q (j0o j0p (j0o j0y (ev_v 0 (j0o j0p (ev_v 7 (j0d ⟨t1,_,_,.int (c1.1:Int),rfl,rfl,SqT.of e1,rfl,R,_,_,.ref a.1,rfl,rfl,SqL.of hR3.lst,eat,j0d ⟨a.1,_,_,.ref a.2,rfl,rfl,SqT.of eta,rfl,Or.inl ⟨rfl,_,SqL.of ela⟩,?_⟩⟩)))))));refine j0o j0p (ev_v 7 (j0d ⟨t1,_,_,.int (c1.2:Int),rfl,rfl,SqT.of e1,rfl,ev_v 2 ⟨a.2,_,_,_,rfl,rfl,ela,by omega,by rw [Au,Aa];exact cin,by rw [Aa];exact j03 (by omega),?_⟩⟩));rw [Au,j63];have R4:=hR3.ins (z:=z) ea hcc.1;refine j0z (j1r (ev_v 0 ⟨R,rfl,⟨_,R4.lst⟩,j1b (j0a (ev_v 3 (j0a (j1f (j0a (ev_v 2 (j0c ⟨(by show 1<=sizeLine;decide),fun l1 hl1=>?_⟩)))))))⟩));refine j0c ⟨(by show 2<=sizeLine;decide),fun t2 ht2=>?_⟩;have s5:=j0g hl1 (Ls [z]);have s6:=j0g ht2 (.tup [.str pt,.ref l1]);have R6:=(R4.same s5).same s6;refine⟨_,R6.lst,by rw [Aa];exact j03 (by omega),?_⟩;have l1f:H3 l1=none:=by
   by_cases q1:l1=a.2
   ·rw [q1,j0b] at hl1;cases hl1
   ·rwa [j0e q1] at hl1
  have l1n:l1∉as.map (·.2):=fun hm=>by
   obtain⟨x,hx,e⟩:=Am.mp hm;exact R4.fresh hl1 hx e.symm
  have l1R:l1≠R:=fun e=>by rw [e,R4.lst] at hl1;cases hl1
  have R7:=R6.more (t:=t2) (l:=l1) (pt:=pt) (zs:=[z]) j0b (s6 _ _ j0b) l1n l1R;refine j0l (ev_v 1 (q _ _ _ _ R7 (fun x o hx hbad=>?_) (fun x hx=>?_) ?_ (.inr ?_) ?_))
  ·have x1:x≠R:=fun e=>hbad (by rw [e];exact Aw);have x2:x≠a.2:=fun e=>hbad (Aq _ (by rw [e];exact Am.mpr ⟨a,An ea,rfl⟩));rw [j0e x1];refine s6 _ _ (s5 _ _ ?_);rw [j0e x2];exact sH _ _ hx
  ·rcases Ba.mp hx with hx | hx
   ·exact .inl hx
   ·rw [Ah] at hx;subst hx;exact .inr (sH.free l1f)
  ·unfold ties;rw [Cy];show(ties (ins n c1 z)++[z]).Perm _;refine(Da).trans ?_;exact(j2a n c1 z hcc.1).cons z
  ·rw [Al,j3j];rfl
  ·refine .inr ⟨by simp,fun i hi=>?_⟩;have hfi:=(j7q (z:=z) hF hcc.1 hF.either).1;rw [Af] at hi;simp at hi
   rcases Ce i (ins n c1 z).length with h | h
   ·have:=hfi i h;unfold row at this ⊢;rw [Ax h];exact this
   ·unfold row;rw [Bb h,show i - (ins n c1 z).length=0 by omega];simp
 ·
  refine j0i 9 nd (j1f (j0a (ev_v 7 (j0c ⟨(by show 1<=sizeLine;decide),fun lf hlf=>?_⟩))));have s4:=j0g hlf (.lst [.ref t1]);have sH4:=sH.trans s4;have hR4:=hR3.same s4;obtain⟨a0,ea0,eat0,et0,el0,er0⟩:=hR4.at hn0;have lf0:∀ x∈as,lf≠x.2:=fun x hx=>hR3.fresh hlf hx;show Run _ _ _ [some (.ref R),some (.int b3),some (.str z),some (.str pt),some (.ref lc),u1,u2,some (.ref t1),some (.int (b2 % 3)),some (.ref lf),none,none] (upd H3 lf (.lst [.ref t1]));refine j37 (fun k H'=>Same (upd H3 lf (.lst [.ref t1])) H'/\(k=true->row n 0≠[])) (fun σ' H'=>∃(lf:Addr) (ts2:List Addr) (fs:List Nt.End),Same H3 H'/\(∀ x∈as,lf≠x.2)/\H' lf=some (.lst (ts2.map V.ref))/\Pd H' ts2 fs/\0 < fs.length/\fs.length<=1000/\(∀ c∈fs,j1y n c) /\
   σ'=[some (.ref R),some (.int b3),some (.str z),some (.str pt),some (.ref lc),u1,u2,some (.ref t1),some (.int (b2 % 3)),some (.ref lf),none,none]) ?_ ?_ (fun H5 ⟨s5,_⟩=>j0j ⟨lf,[t1],[c1],s4.trans s5,lf0,s5 _ _ j0b,.cons (s5 _ _ (s4 _ _ e1)) .nil,Nat.one_pos,by show 1<=1000;decide,fun c hcm=>by rw [Ah] at hcm;rw [hcm];exact hcc,rfl⟩) ?_
  ·refine j0v (j40 hu) (j0o j0p (j0o j0y (ev_v 0 (j0d ⟨R,_,_,.ref a0.1,rfl,rfl,SqL.of hR4.lst,eat0,j0d ⟨a0.1,_,_,.ref a0.2,rfl,rfl,SqT.of et0,rfl,j1f (j0c ⟨(by show 0<=sizeLine;decide),fun p hp=>?_⟩)⟩⟩))));have s5:=j0g hp (.lst [])
   by_cases h0:row n 0=[]
   ·refine⟨1,_,by decide,j4f (k:=0) (xs:=[]) (ys:=[]) (fun _=>true) (SqL.of (by rw [s5 _ _ el0,h0];rfl)) (SqL.of j0b) rfl (fun j x y hx _=>by simp at hx),_,rfl,s5,fun h=>by cases h⟩
   ·refine⟨1,_,by decide,j78 (k:=1) (SqL.of (s5 _ _ el0)) (SqL.of (xs:=[]) j0b) (by rw [Aa];intro h;exact h0 (Bg.mp h)),_,rfl,s5,fun _=>h0⟩
  ·rintro H4 ⟨s45,h0⟩;have h0:=h0 rfl;have hR4:=hR4.same s45;have he1:=hF.corner h0 hcc;have hel:=j3z n;refine j0i 9 nd (j0s GF hr (j0a (ev_v 0 (j0a (j0s GS hr (j0a (ev_v 0 (j0c ⟨R,as,n,rfl,hR4,by omega,by omega,fun d ks H5 s5 n5 S5=>?_⟩))))))));refine j0a (ev_v 7 (j0c ⟨R,d,t1,as,n,ks,c1,rfl,hR4.same s5,S5,hT,s5 _ _ (s45 _ _ (s4 _ _ e1)),he1,by omega,fun l6 ts6 fs6 H6 s6 n6 e6 p6 f6=>?_⟩));exact j0j ⟨l6,ts6,fs6,s4.trans (s45.trans (s5.trans s6)),fun x hx=>(hR4.same s5).fresh n6 hx,e6,p6,f6.pos,by have:=f6.len;omega,fun c hcm=>j6g (f6.ends hT he1 c hcm),rfl⟩
  ·rintro σ' H5 ⟨lf,ts2,fs,s5,lfn,elf,epf,fpos,flen,fcor,rfl⟩;have epl2:=epf.length;have n0:0<=b3 % (fs.length:Int):=Av _ (by omega);have n1:b3 % (fs.length:Int) < fs.length:=Az _ (by omega);obtain⟨j2,hj2⟩:∃ j:Nat,b3 % (fs.length:Int)=j:=⟨(b3 % (fs.length:Int)).toNat,by omega⟩;have hjl2:j2 < fs.length:=by omega
   have hce2:fs[j2]?=some fs[j2]:=Ac hjl2;obtain⟨t2,et2,e2⟩:=epf.at hce2;have hcc2:j1y n fs[j2]:=fcor _ (Cg hjl2);generalize fs[j2]=c2 at e2 hcc2;have e1':=s5 _ _ e1;refine j0i 10 nd (j0o j0y (ev_v 9 (j0m j0x (ev_v 1 (j0u j0k T.len boot_len (j0a (ev_v 9 (j0c ⟨lf,_,rfl,.inl (SqL.of elf),?_⟩))))))));rw [Aa,epl2];refine⟨_,_,rfl,rfl,by omega,lf,_,_,.ref t2,rfl,rfl,SqL.of elf,by rw [hj2];exact j7a et2,?_⟩;have hR5:=hR3.same s5;show Run _ _ _ [some (.ref R),some (.int b3),some (.str z),some (.str pt),some (.ref lc),u1,u2,some (.ref t1),some (.int (b2 % 3)),some (.ref lf),some (.ref t2),none] H5;refine j13 (j6s T.sorted (j1f (j0a (ev_v 7 (j0a (ev_v 10 (j0c ⟨(by show 2<=sizeLine;decide),fun l2 hl2=>?_⟩)))))));have s6:=j0g hl2 (.lst [.ref t1,.ref t2]);refine⟨l2,t1,t2,(c1.1:Int),(c1.2:Int),(c2.1:Int),(c2.2:Int),rfl,j0b,s6 _ _ e1',s6 _ _ e2,fun rr hrr=>?_⟩;have rn:∀ x∈as,rr≠x.2:=fun x hx=>(hR5.same s6).fresh hrr hx;obtain⟨x1,x2,k1,k2,hxs,f1,f2,q1,q2⟩:∃ x1 x2 k1 k2,(if lexLt ((c1.1:Int),(c1.2:Int)) ((c2.1:Int),(c2.2:Int))=true then [V.ref t2,.ref t1] else [.ref t1,.ref t2])=[.ref x1,.ref x2]/\(upd H5 l2 (.lst [.ref t1,.ref t2])) x1=some (Tp k1)/\(upd H5 l2 (.lst [.ref t1,.ref t2])) x2=some (Tp k2)/\j1y n k1/\j1y n k2:=by
    cases lexLt ((c1.1:Int),(c1.2:Int)) ((c2.1:Int),(c2.2:Int)) with
    | true=>exact⟨t2,t1,c2,c1,rfl,s6 _ _ e2,s6 _ _ e1',hcc2,hcc⟩
    | false=>exact⟨t1,t2,c1,c2,rfl,s6 _ _ e1',s6 _ _ e2,hcc,hcc2⟩
   rw [hxs];have s7:=j0g hrr (.lst [.ref x1,.ref x2]);have f1:=s7 _ _ f1;have f2:=s7 _ _ f2;have s6:=s6.trans s7;have fr:=j0b (H:=upd H5 l2 (.lst [.ref t1,.ref t2])) (a:=rr) (o:= .lst [.ref x1,.ref x2]);generalize upd (upd H5 l2 (.lst [.ref t1,.ref t2])) rr (.lst [.ref x1,.ref x2])=H6 at f1 f2 s6 fr ⊢;have sH6:Same H H6:=sH.trans (s5.trans s6);have hR6:=hR5.same s6;have keep0:Keep H H6 (R :: as.map (·.2)):=fun x o hx _=>sH6 _ _ hx;refine⟨rr,rfl,⟨_,SqL.of fr⟩,j1o (xs:=[.ref x1,.ref x2]) (fun i σ H7=>∃(m:Net) (u:Option V),RowsAt H7 R as m/\Keep H H7 (R :: as.map (·.2))/\H7 rr=some (.lst [.ref x1,.ref x2])/\H7 lf=some (.lst (ts2.map V.ref))/\H7 x1=some (Tp k1)/\H7 x2=some (Tp k2) /\
    ((i=0/\m=n)\/(i=1/\m=ins n k1 z)\/(i=2/\m=ins (ins n k1 z) k2 z))/\σ=[some (.ref R),some (.int b3),some (.str z),some (.str pt),some (.ref lc),u1,u2,some (.ref t1),some (.int (b2 % 3)),some (.ref lf),some (.ref t2),u]) ⟨n,_,hR6,keep0,fr,s6 _ _ elf,f1,f2,.inl ⟨rfl,rfl⟩,rfl⟩ ?_ ?_ ?_⟩
   ·rintro i σ H7 _ ⟨m,u,_,_,fr7,_⟩;exact SqL.of fr7
   ·rintro i v σ H7 hv ⟨m,u,hR7,kp7,fr7,fl7,g1,g2,hm,rfl⟩;have ti1:=(j2a n k1 z q1.1).length_eq;rw [Bd] at ti1;obtain⟨y,k,rfl,hy,hk,hnext,hml⟩:∃ y k,v = .ref y/\H7 y=some (Tp k)/\j1y m k/\((i+1=0/\ins m k z=n)\/(i+1=1/\ins m k z=ins n k1 z)\/(i+1=2/\ins m k z=ins (ins n k1 z) k2 z))/\(ties m).length<=200:=by
     rcases hm with ⟨rfl,rfl⟩ | ⟨rfl,rfl⟩ | ⟨rfl,rfl⟩
     ·cases hv;exact⟨x1,k1,rfl,g1,q1,.inr (.inl ⟨rfl,rfl⟩),by omega⟩
     ·cases hv;exact⟨x2,k2,rfl,g2,j4s q2 q1.1,.inr (.inr ⟨rfl,rfl⟩),by omega⟩
     ·simp at hv
    refine j0n 11 nd ?_;obtain⟨a',ea',eat',eta',ela',era'⟩:=hR7.at hk.1;have rl:=j2r m k.1;have kin:k.2<=(row m k.1).length:=by
     have:=hk.2;omega
    refine j0z (j9w PySem.F.plainAttrs_list PySem.F.slot_list_insert PySem.F.type_list_insert j2q (j0o j0p (j0o j0y (ev_v 0 (j0o j0p (ev_v 11 (j0d ⟨y,_,_,.int (k.1:Int),rfl,rfl,SqT.of hy,rfl,R,_,_,.ref a'.1,rfl,rfl,SqL.of hR7.lst,eat',j0d ⟨a'.1,_,_,.ref a'.2,rfl,rfl,SqT.of eta',rfl,Or.inl ⟨rfl,_,SqL.of ela'⟩,?_⟩⟩)))))));refine j0o j0p (ev_v 11 (j0d ⟨y,_,_,.int (k.2:Int),rfl,rfl,SqT.of hy,rfl,ev_v 2 ⟨a'.2,_,_,_,rfl,rfl,ela',by omega,by rw [Au,Aa];exact kin,by rw [Aa];exact j03 (by omega),?_⟩⟩));rw [Au,j63];have am:a'∈as:=An ea';refine j0j ⟨ins m k z,_,hR7.ins ea' hk.1,fun x o hx hbad=>?_,by rw [j0e (rn a' am)];exact fr7,by rw [j0e (lfn a' am)];exact fl7,by rw [j0e (j26 g1 ela')];exact g1,by rw [j0e (j26 g2 ela')];exact g2,hnext,rfl⟩;have x2:x≠a'.2:=fun e=>hbad (Aq _ (by rw [e];exact Am.mpr ⟨a',am,rfl⟩));rw [j0e x2];exact kp7 x o hx hbad
   ·rintro σ H7 ⟨m,u,hR7,kp7,fr7,fl7,g1,g2,hm,rfl⟩;have em:m=ins (ins n k1 z) k2 z:=by
     rcases hm with ⟨h,_⟩ | ⟨h,_⟩ | ⟨_,h⟩
     ·exact absurd h (by show ¬(2=0);decide)
     ·exact absurd h (by show ¬(2=1);decide)
     ·exact h
    refine j0l (j0m j07 (ev_v 1 (j0u j0k T.len boot_len (j0a (ev_v 9 (j0c ⟨lf,_,rfl,.inl (SqL.of fl7),?_⟩))))));rw [Aa,epl2];refine⟨_,_,rfl,rfl,⟨by omega,by omega⟩,?_⟩;have fi:=j7q (z:=z) hF q1.1 hF.either;have F2:Full (ins n k1 z):= .inr ⟨fi.2,fi.1⟩;have fi2:=j7q (z:=z) F2 (j4s (z:=z) q2 q1.1).1 F2.either;subst em;exact q _ as _ H7 hR7 kp7 (fun x hx=> .inl hx) ((j2a _ k2 z (j4s (z:=z) q2 q1.1).1).trans ((j2a n k1 z q1.1).cons z)) (.inl (by rw [j3j,j3j])) (.inr ⟨fi2.2,fi2.1⟩)
end
end J0
namespace Nt
open PySem L2
def dbl(zs:List Str):List Str:=zs.flatMap fun z=>[z,z]
theorem j5o(y:Str):∀ zs:List Str,(dbl zs).count y=2 * zs.count y
 | []=>rfl
 | z :: r=>by
  unfold dbl;rw [Ds];have ih:=j5o y r;unfold dbl at ih;rw [List.count_append,ih,List.count_cons,List.count_cons,List.count_cons,List.count_nil];omega
theorem dbl_mem{y:Str}{zs:List Str}:y∈dbl zs↔y∈zs:=by
 rw [<- List.count_pos_iff,j5o,<- List.count_pos_iff];omega
theorem j58:∀ zs:List Str,(dbl zs).length=2 * zs.length
 | []=>rfl
 | z :: r=>by
  unfold dbl;rw [Ds,Af];have ih:=j58 r;unfold dbl at ih;rw [ih,Bd];simp;omega
theorem k1e(zs:List Str)(z:Str):dbl (zs++[z])=dbl zs++[z,z]:=by
 unfold dbl;rw [Cy];rfl
theorem j75{n:Net}{zs:List Str}(hn:zs.Nodup)(p:(ties n).Perm (dbl zs)):j1s n:=fun z hz=>by
 rw [p.count_eq,j5o];have h1:z∈zs:=dbl_mem.mp (p.mem_iff.mp hz);rw [hn.count,if_pos h1]
def NE(n:Net):Prop:=∀ r∈n,r.2≠[]
theorem j6v{n:Net}{i:Nat}(h:i < n.length):row n i=n[i].2:=by unfold row;rw [Ac h];rfl
theorem q0l{n:Net}(h:NE n)(h0:n≠[]):Full n:= .inr ⟨h0,fun i hi=>by rw [j6v hi];exact h _ (Cg hi)⟩
theorem Full.ne{n:Net}(h:Full n):(∃ nm,n=[(nm,[])])\/NE n:=by
 rcases h with h | ⟨_,h⟩
 ·exact .inl h
 ·refine .inr fun r hr=>?_;obtain⟨i,hi,rfl⟩:=Dc.mp hr;have:=h i hi;rwa [j6v hi] at this
theorem j64:∀(n:Net) (k:Nat) (h:k < n.length),(ties n).Perm (n[k].2++ties (n.eraseIdx k))
 | [],k,h=>by simp at h
 | a :: n,0,h=>by unfold ties;simp
 | a :: n,k+1,h=>by
  have ih:=j64 n k (by simpa using h);unfold ties at ih ⊢;simp only [Ds,List.getElem_cons_succ,List.eraseIdx_cons_succ];refine(ih.append_left a.2).trans ?_;rw [<- Bl,<- Bl];exact List.perm_append_comm.append_right _
theorem j9r(n:Net)(k:Nat)(h:k < n.length):(n.map (·.1)).Perm (n[k].1 :: (n.eraseIdx k).map (·.1)):=by
 have:=(SetT.pick_perm n k h).map (·.1);exact this.symm
theorem k1a(zs:List Str)(i:Nat):(zs.drop i++zs.take i).Perm zs:=by
 refine Da.trans ?_;rw [Ck]
theorem RowsAt.upd{H:Hp}{R x:Addr}{as:List (Addr×Addr)}{n:Net}(h:RowsAt H R as n){xs:List V}{o:HO}(hx:H x=some (.lst xs))(hR:R≠x)(ha:∀ a∈as,a.2≠x):RowsAt (upd H x o) R as n:=by
 refine⟨h.len,by rw [j0e hR];exact h.lst,fun i a r h1 h2=>?_,h.inj⟩;have q:=h.tup i a r h1 h2;exact⟨by rw [j0e (j11 q.1 hx fun e=>nomatch e)];exact q.1,by rw [j0e (ha a (An h1))];exact q.2⟩
theorem j7l{α:Type}(l:List α)(k i:Nat):(l.eraseIdx k)[i]?=if i < k then l[i]? else l[i+1]?:=by
 rw [List.getElem?_eraseIdx]
theorem RowsAt.erase{H:Hp}{R:Addr}{as:List (Addr×Addr)}{n:Net}(h:RowsAt H R as n){k:Nat}(hk:k < n.length) :
  RowsAt (L2.upd H R (.lst ((as.map fun a=>V.ref a.1).eraseIdx k))) R (as.eraseIdx k) (n.eraseIdx k):=by
 have hl:=h.len;refine⟨by rw [Dq,Dq,hl],?_,fun i a r h1 h2=>?_,?_⟩
 ·rw [j0b]
  congr 2
  refine Dr fun i=>?_;rw [j7l,Ae,Ae,Ae,j7l]
  split <;> rfl
 ·rw [j7l] at h1 h2;have q:H a.1=some (.tup [.str r.1,.ref a.2])/\H a.2=some (Ls r.2):=by
   by_cases c:i < k
   ·rw [if_pos c] at h1 h2;exact h.tup i a r h1 h2
   ·rw [if_neg c] at h1 h2;exact h.tup (i+1) a r h1 h2
  have t2:a.2≠R:=by
   intro e;have h3:=h.lst;rw [<- e,q.2] at h3;have h4:=HO.lst.inj (Option.some.inj h3);cases as with
   | nil=>simp at hl;simp [<- hl] at hk
   | cons b bs=>
    cases hm:r.2 with
    | nil=>rw [hm] at h4;simp at h4
    | cons y r=>rw [hm] at h4;simp at h4
  exact⟨by rw [j0e (j11 q.1 h.lst fun e=>nomatch e)];exact q.1,by rw [j0e t2];exact q.2⟩
 ·have:((as.eraseIdx k).map (·.2)).Sublist (as.map (·.2)):=(List.eraseIdx_sublist as k).map _;exact h.inj.sublist this
theorem k6l(zs:List Str)(i:Nat):cutV (zs.map V.str) (some (i:Int)) none=(zs.drop i).map V.str:=by
 unfold cutV;rw [HT.sIx_nat,HT.sIx_none,Aa];rw [Cw (by rw [Dm,Aa];omega),Fo]
 rcases Nat.le_total i zs.length with h | h
 ·rw [Nat.min_eq_left h]
 ·rw [Nat.min_eq_right h,List.drop_of_length_le (by simp),List.drop_of_length_le (by simpa using h)]
theorem q2e(zs:List Str)(i:Nat):cutV (zs.map V.str) none (some (i:Int))=(zs.take i).map V.str:=by
 unfold cutV;rw [HT.sIx_nat,HT.sIx_none,Aa,List.drop_zero,Nat.sub_zero,Fn]
 rcases Nat.le_total i zs.length with h | h
 ·rw [Nat.min_eq_left h]
 ·rw [Nat.min_eq_right h,Cw (by simp),Cw (by simpa using h)]
end Nt
namespace J0
open PySem L2 Nt Sort2
def q1i:Sp:=fun vs H Q _=>∃(b m sm:Int),vs=[.int b,.int m,.int sm]/\0<=m/\m<=35 /\
 ∀ L as n H',Same H H'->H L=none->RowsAt H' L as n->j1s n->(n.map (·.1)).Nodup->Full n->(ties n).length<=2 * m.toNat->n.length<=m.toNat+1->(∀ a∈as,H a.2=none)->Short n->Q (.ref L) H'
section
variable{P:Program}{w:World}{K:PySem.W.Frag}{mg:Str->Option Value}{base:Heap}
abbrev NB:List Str:=["_law_big_here","_law_most","_law_stem","_law_many","_law_ties_here","_law_points","_law_rows","_law_k","_law_told","_law_row","_law_size"]
theorem scNet:FnScope NB ["_law_big_here","_law_most","_law_stem"] (j0f sNet):=⟨rfl,rfl,rfl,by decide +kernel,rfl,by decide +kernel,by decide +kernel⟩
theorem q1z{H:Hp}{d:Addr}{xs:List V}(h:H d=some (.lst xs)):tyV K "list" (.ref d) H:=Or.inl ⟨rfl,xs,SqL.of h⟩
theorem j90{b:Int}{m i:Nat}(h:i < m):atI ((namesOf b m).map V.str) (i:Int)=some (.str (nameOf b i)):=j7t (k1u h)
theorem q1w{f:Addr}{fd:FuncData}(F:Fun K "_law_net_by" "_law_net_by" sNet f fd)(T:Txt mg)
  (GN:Has P w K mg base 4 "_law_names" ["_law_stem","_law_many"] j91)
  (GP:Has P w K mg base 4 "_law_put" ["_law_rows","_law_big_here","_law_tie","_law_point"] q03) :
  FnOk P w K mg base CX0 5 f fd ["_law_big_here","_law_most","_law_stem"] q1i:=by
 refine F.gb scNet (fun vs H Q E h=>?_) (fun b0 H vs Q E hr h=>?_)
 ·obtain⟨b,m,sm,rfl,_⟩:=h;rfl
 obtain⟨b,m,sm,rfl,m0,m35,q⟩:=h;have nd:=scNet.nd;have hu:=hr.u100;have k0:0<=b % (m+1):=Av _ (by omega);have k1:b % (m+1) < m+1:=Az _ (by omega);obtain⟨mn,hmn⟩:∃ k:Nat,b % (m+1)=k:=⟨(b % (m+1)).toNat,by omega⟩;have hmm:mn<=m.toNat:=by omega
 show Run _ _ _ [some (.int b),some (.int m),some (.int sm),none,none,none,none,none,none,none,none] H;refine j0i 3 nd (j0m j0x (ev_v 0 (j0m j1z (ev_v 1 (j0d ⟨_,_,rfl,rfl,?_⟩)))));refine⟨_,_,rfl,rfl,(by show 0 < m+1;omega),?_⟩;refine j0i 0 nd (j0m j07 (ev_v 0 (j0m j1z (ev_v 1 (j0d ⟨_,_,rfl,rfl,?_⟩)))));refine⟨_,_,rfl,rfl,(by show CDiv b (m+1);exact⟨by omega,by omega⟩),?_⟩;show Run _ _ _ [some (.int (b / (m+1))),some (.int m),some (.int sm),some (.int (b % (m+1))),none,none,none,none,none,none,none] H;rw [hmn];generalize b / (m+1)=b1;refine j0i 4 nd (j0s GN hr (j0a (ev_v 2 (j0a (ev_v 3 (j0c ⟨sm,(mn:Int),rfl,by omega,by omega,fun lt H1 s1 n1 e1=>?_⟩))))));rw [Au] at e1;refine j0i 5 nd (j0s GN hr (j0a (j0o j0y (j1f (j0a (j0m j1z (j0m j07 (ev_v 2 (j0d ⟨_,_,rfl,rfl,⟨by decide,by decide⟩,j0d ⟨_,_,rfl,rfl,j0a (ev_v 2 (j0c ⟨(by show 2<=sizeLine;decide),fun p hp=>?_⟩))⟩⟩)))))))));refine j48 j9h T.tint PyProof.Rows.boot_int (j0a (j33 j3a (j0m j0x (ev_v 2 (j0d ⟨_,_,rfl,rfl,(by show(0:Int) < 4;decide),j0d ⟨rfl,j0c ⟨_,rfl,?_⟩⟩⟩)))));have s2:=j0g hp (.lst [.int (sm / 3+1),.int sm]);obtain⟨s2m,ex⟩:∃ s2m:Int,atI [V.int (sm / 3+1),.int sm] (if decide (V.int (sm % 4)=V.int 1)=true then 1 else 0)=some (.int s2m):=by
  cases decide (V.int (sm % 4)=V.int 1) with
  | true=>exact⟨sm,rfl⟩
  | false=>exact⟨sm / 3+1,rfl⟩
 refine⟨p,_,_,.int s2m,rfl,rfl,SqL.of j0b,ex,?_⟩;refine j0a (j0m j1z (ev_v 3 (j0d ⟨_,_,rfl,rfl,j0c ⟨s2m,(mn:Int)+1,rfl,by omega,by omega,fun lp H2 s3 n3 e3=>?_⟩⟩)));have em:((mn:Int)+1).toNat=mn+1:=by omega
 rw [em] at e3;have sH2:Same H H2:=s1.trans (s2.trans s3);have e1:H2 lt=some (Ls (namesOf sm mn)):=s3 _ _ (s2 _ _ e1);show Run _ _ _ [some (.int b1),some (.int m),some (.int sm),some (.int (mn:Int)),some (.ref lt),some (.ref lp),none,none,none,none,none] H2;refine j0i 6 nd (j1f (j0a (j1b (j0a (j0o j0y (ev_v 5 (j0d ⟨lp,_,_,.str (nameOf s2m 0),rfl,rfl,SqL.of e3,j90 (Dx _),j0a (j1f (j0c ⟨(by show 0<=sizeLine;decide),fun l1 hl1=>?_⟩))⟩)))))));refine j0c ⟨(by show 2<=sizeLine;decide),fun t1 ht1=>j0c ⟨(by show 1<=sizeLine;decide),fun R hRn=>?_⟩⟩;have s4:=j0g hl1 (Ls []);have s5:=j0g ht1 (.tup [.str (nameOf s2m 0),.ref l1]);have s6:=j0g hRn (.lst [.ref t1]);have hR0:RowsAt (upd (upd (upd H2 l1 (.lst [])) t1 (.tup [.str (nameOf s2m 0),.ref l1])) R (.lst [.ref t1])) R [(t1,l1)] [(nameOf s2m 0,[])]:=by
  refine⟨rfl,j0b,fun i a r h1 h2=>?_,by simp⟩;cases i with
  | zero=>
   cases h1;cases h2;exact⟨s6 _ _ j0b,s6 _ _ (s5 _ _ j0b)⟩
  | succ i=>simp at h1
 have fR:H2 R=none:=s4.free (s5.free hRn);show Run _ _ _ [some (.int b1),some (.int m),some (.int sm),some (.int (mn:Int)),some (.ref lt),some (.ref lp),some (.ref R),none,none,none,none] (upd (upd (upd H2 l1 (.lst [])) t1 (.tup [.str (nameOf s2m 0),.ref l1])) R (.lst [.ref t1]));refine j1i T.range (ev_v 3 ⟨(mn:Int),rfl,by omega,by omega,?_⟩);rw [Au];refine j1a (fun k σ H3=>∃(as:List (Addr×Addr)) (n:Net) (b:Int) (u:Option V),RowsAt H3 R as n/\Same H2 H3/\(∀ a∈as,H2 a.2=none)/\Full n/\(ties n).Perm (dbl (namesOf sm k))/\n.map (·.1)=namesOf s2m n.length/\n.length<=k+1 /\
  σ=[some (.int b),some (.int m),some (.int sm),some (.int (mn:Int)),some (.ref lt),some (.ref lp),some (.ref R),u,none,none,none]) ⟨_,_,b1,_,hR0,s4.trans (s5.trans s6),fun a ha=>by rw [Ah] at ha;rw [ha];exact hl1,.inl ⟨_,rfl⟩,List.Perm.refl _,rfl,Ag _,rfl⟩ ?_ ?_
 ·rintro k σ H3 hk ⟨as,n,b,u,hR,sH,hfr,hF,hp,hnm,hlen,rfl⟩;rw [Cq];refine j0n 7 nd ?_;have hal:=hR.len;have tl:=hp.length_eq;rw [j58,j4e] at tl;have nz:nameOf sm k∉ties n:=fun h=>by
   have h1:=dbl_mem.mp (hp.mem_iff.mp h);have h2:=j2g (b:=sm) (m:=k+1) (by omega);rw [j2l,Cr] at h2;exact h2.2.2 _ h1 _ (Ah.mpr rfl) rfl
  have n0:0 < n.length:=Bv.mpr hF.some;refine j0i 0 nd (j0s GP hr (j0a (ev_v 6 (j0a (ev_v 0 (j0a (j0o j0y (ev_v 4 (ev_v 7 ⟨lt,_,_,.str (nameOf sm k),rfl,rfl,SqL.of (sH _ _ e1),j90 hk,?_⟩)))))))));refine j0a (j0o j0y (ev_v 5 (j0u j0k T.len boot_len (j0a (ev_v 6 (j0c ⟨R,_,rfl,.inl (SqL.of hR.lst),?_⟩))))));rw [Aa,hal];refine⟨lp,_,_,.str (nameOf s2m n.length),rfl,rfl,SqL.of (sH _ _ e3),j90 (by omega),?_⟩;refine j0c ⟨R,as,n,b,nameOf sm k,nameOf s2m n.length,rfl,hR,j75 (j2g (by omega)) hp,hF,nz,by omega,by omega,fun i as' n' H' hR' kp hfr' hp' hnm' hF'=>?_⟩;have sH':Same H2 H':=fun x o hx=>by
   refine kp x o (sH _ _ hx) fun hm=>?_
   rcases Ao.mp hm with h | h
   ·rw [h,fR] at hx;cases hx
   ·obtain⟨y,hy,e⟩:=Am.mp h;rw [<- e,hfr y hy] at hx;cases hx
  refine j0j ⟨as',n',i,_,hR',sH',fun y hy=>?_,hF',?_,?_,?_,rfl⟩
  ·rcases hfr' y hy with h | h
   ·exact hfr y h
   ·exact sH.free h
  ·refine hp'.trans ?_;rw [j2l,k1e];refine List.Perm.trans ?_ Da;exact((hp.cons _).cons _)
  ·rcases hnm' with h | h
   ·have hl:=congrArg List.length h;rw [Aa,Aa] at hl;rw [h,hl];exact hnm
   ·have hl:=congrArg List.length h;rw [Aa,Af,Aa] at hl;have hl':n'.length=n.length+1:=hl;rw [h,hl',j2l,hnm]
  ·rcases hnm' with h | h
   ·have hl:=congrArg List.length h;rw [Aa,Aa] at hl;omega
   ·have hl:=congrArg List.length h;rw [Aa,Af,Aa] at hl;have hl':n'.length=n.length+1:=hl;omega
 rintro σ H3 ⟨as0,n0,b,u,hR,sH,hfr,hF,hp,hnm,hlen,rfl⟩;have tl:=hp.length_eq;rw [j58,j4e] at tl;have hT0:j1s n0:=j75 (j2g (by omega)) hp;have hN0:(n0.map (·.1)).Nodup:=by rw [hnm];exact j2g (by omega)
 refine j0i 8 nd (j1f (j0c ⟨(by show 0<=sizeLine;decide),fun L hL=>?_⟩));have s7:=j0g hL (.lst []);have hRL:R≠L:=j0h hR.lst hL;have fL:H2 L=none:=sH.free hL;have hL0:RowsAt (upd H3 L (.lst [])) L [] []:=⟨rfl,j0b,fun i a r h1=>by simp at h1,by simp⟩;refine j5x (fun k σ H4=>∃(as as2:List (Addr×Addr)) (n n2:Net) (b:Int) (u9 u10:Option V),k=n.length/\RowsAt H4 R as n/\RowsAt H4 L as2 n2/\Same H2 H4/\(∀ a∈as,a.2≠L)/\(∀ a∈as2,a.2≠R)/\(∀ a∈as2,H2 a.2=none)/\n.length+n2.length=n0.length /\
   (ties n++ties n2).Perm (ties n0)/\(n.map (·.1)++n2.map (·.1)).Perm (n0.map (·.1))/\(NE n0->NE n/\NE n2) /\
   σ=[some (.int b),some (.int m),some (.int sm),some (.int (mn:Int)),some (.ref lt),some (.ref lp),some (.ref R),u,some (.ref L),u9,u10])
  (m0:=n0.length) ⟨as0,[],n0,[],b,_,_,rfl,hR.same s7,hL0,sH.trans s7,fun a ha=>(hR.fresh hL ha).symm,fun a ha=>(nomatch ha),fun a ha=>(nomatch ha),rfl,by simp [ties],by simp,fun h=>⟨h,fun r hr=>(nomatch hr)⟩,rfl⟩ ?_
 rintro k σ H4 ⟨as,as2,n,n2,b,u9,u10,rfl,hR,hL2,sH,aL,aR,fr2,hlen2,pt,pn,hne,rfl⟩;have hal:=hR.len;have hal2:=hL2.len;have tlen:(ties n).length<=70:=by
  have:=pt.length_eq;rw [Af] at this;omega
 refine j0v (j40 hu) (ev_v 6 (j1f (j0c ⟨(by show 0<=sizeLine;decide),fun p hp2=>?_⟩)));have s8:=j0g hp2 (.lst [])
 by_cases h0:n=[]
 ·subst h0;have ea:as=[]:=Bg.mp (by simpa using hal);subst ea;refine⟨1,_,by decide,j4f (k:=0) (xs:=[]) (ys:=[]) (fun _=>true) (SqL.of (s8 _ _ hR.lst)) (SqL.of j0b) rfl (fun j x y hx _=>by simp at hx),_,rfl,iteF (j0l (ev_v 8 ?_))⟩;have pt':(ties n2).Perm (ties n0):=pt;have pn':(n2.map (·.1)).Perm (n0.map (·.1)):=pn;have l2:n2.length=n0.length:=by simpa using hlen2
  refine q L as2 n2 _ (sH2.trans (sH.trans s8)) (sH2.free fL) (hL2.same s8) (fun z hz=>?_) (pn'.nodup_iff.mpr hN0) ?_ (by rw [pt'.length_eq];omega) (by omega) (fun a ha=>sH2.free (fr2 a ha)) ⟨fun z hz=>j54 (dbl_mem.mp (hp.mem_iff.mp (pt'.mem_iff.mp hz))),fun p hp'=>j54 (by rw [<- hnm];exact pn'.mem_iff.mp hp')⟩
  ·rw [pt'.count_eq];exact hT0 z (pt'.mem_iff.mp hz)
  ·rcases hF.ne with ⟨nm,h⟩ | h
   ·subst h;have t0:ties n2=[]:=List.Perm.eq_nil pt'
    match n2,l2,t0 with
    | [(nm2,zs)],_,t0=>
     have:zs=[]:=by simpa [ties] using t0
     subst this;exact .inl ⟨_,rfl⟩
   ·refine q0l (hne h).2 fun e=>?_;rw [e] at l2;exact hF.some (Bg.mp l2.symm)
 ·have np:0 < n.length:=Bv.mpr h0;refine⟨1,_,by decide,j78 (k:=1) (SqL.of (s8 _ _ hR.lst)) (SqL.of (xs:=[]) j0b) (by rw [Aa,hal];exact Cd np),_,rfl,iteT ?_⟩;have hR:=hR.same s8;have hL2:=hL2.same s8;have sH:=sH.trans s8;generalize upd H4 p (.lst [])=H5 at hR hL2 sH ⊢;have r0:0<=b % (n.length:Int):=Av _ (by omega);have r1:b % (n.length:Int) < n.length:=Az _ (by omega);obtain⟨j,hj⟩:∃ k:Nat,b % (n.length:Int)=k:=⟨(b % (n.length:Int)).toNat,by omega⟩;have hjn:j < n.length:=by omega
  obtain⟨a,ea,eat,et,el,er⟩:=hR.at hjn;refine j0i 9 nd (q41 PySem.F.plainAttrs_list PySem.F.slot_list_pop PySem.F.type_list_pop k8f (ev_v 6 ⟨q1z hR.lst,j0m j0x (ev_v 0 (j0u j0k T.len boot_len (j0a (ev_v 6 (j0c ⟨R,_,rfl,.inl (SqL.of hR.lst),?_⟩)))))⟩));rw [Aa,hal];refine⟨_,_,rfl,rfl,by omega,R,_,_,j,.ref a.1,rfl,rfl,hR.lst,by rw [hj];omega,by rw [hj];omega,?_,?_,?_⟩
  ·rw [hj,Aa,hal];unfold seqIndex?;have c1:¬((j:Int) < 0):=by omega
   simp only [c1,if_false];have c2:(decide (0<=(j:Int)) && decide ((j:Int) < (n.length:Int)))=true:=by
    rw [Bh,decide_eq_true_eq,decide_eq_true_eq];omega
   rw [if_pos c2,Au]
  ·rw [Ae,ea];rfl
  have R6:=hR.erase hjn;have am:a∈as:=An ea;have lneR:∀ x∈as,x.2≠R:=fun x hx e=>by
   obtain⟨zs,e2⟩:=hR.lists hx;have h3:=hR.lst;rw [<- e,e2] at h3;have h4:=HO.lst.inj (Option.some.inj h3);cases as with
   | nil=>cases hx
   | cons b' bs=>
    cases zs with
    | nil=>simp at h4
    | cons y r=>simp at h4
  have L6:=hL2.upd (o:= .lst ((as.map fun a=>V.ref a.1).eraseIdx j)) hR.lst hRL.symm aR;have et6:(upd H5 R (.lst ((as.map fun a=>V.ref a.1).eraseIdx j))) a.1=some (.tup [.str n[j].1,.ref a.2]):=by rw [j0e (j11 et hR.lst fun e=>nomatch e)];exact et
  have el6:(upd H5 R (.lst ((as.map fun a=>V.ref a.1).eraseIdx j))) a.2=some (Ls (row n j)):=by rw [j0e (lneR a am)];exact el
  have sH6:Same H2 (upd H5 R (.lst ((as.map fun a=>V.ref a.1).eraseIdx j))):=j1h sH fR;generalize upd H5 R (.lst ((as.map fun a=>V.ref a.1).eraseIdx j))=H6 at R6 L6 et6 el6 sH6 ⊢;have le6:=R6.len;have len6:(n.eraseIdx j).length=n.length - 1:=by rw [Dq,if_pos hjn]
  refine j0i 0 nd (j0m j07 (ev_v 0 (j0m j1z (j0u j0k T.len boot_len (j0a (ev_v 6 (j0c ⟨R,_,rfl,.inl (SqL.of R6.lst),j0d ⟨_,_,rfl,rfl,?_⟩⟩)))))));rw [Aa,le6,len6];refine⟨_,_,rfl,rfl,⟨by omega,by omega⟩,?_⟩;have rlen:=j2r n j;refine j0i 10 nd (j0u (j3h rfl) T.max PyProof.Rows.boot_max (j0a (j0d (j0a (j0u j0k T.len boot_len (j0a (j0o j0p (ev_v 9 (j0d ⟨a.1,_,_,.ref a.2,rfl,rfl,SqT.of et6,rfl,j0c ⟨a.2,_,rfl,.inl (SqL.of el6),?_⟩⟩)))))))));rw [Aa];refine j0c ⟨1,_,rfl,?_⟩;have emx:(if((row n j).length:Int) > 1 then((row n j).length:Int) else 1)=((max 1 (row n j).length:Nat):Int):=by
   split <;> omega
  rw [emx];show Run _ _ _ [some (.int (b / ((n.length - 1:Nat)+1:Int))),some (.int m),some (.int sm),some (.int (mn:Int)),some (.ref lt),some (.ref lp),some (.ref R),u,some (.ref L),some (.ref a.1),some (.int ((max 1 (row n j).length:Nat):Int))] H6;generalize b / ((n.length - 1:Nat)+1:Int)=b2;have z0:0<=b2 % ((max 1 (row n j).length:Nat):Int):=Av _ (by omega);obtain⟨i,hi⟩:∃ k:Nat,b2 % ((max 1 (row n j).length:Nat):Int)=k:=⟨(b2 % ((max 1 (row n j).length:Nat):Int)).toNat,by omega⟩;refine j0z (j1r (ev_v 8 ⟨L,rfl,⟨_,L6.lst⟩,j1b (j0a (j0o j0p (ev_v 9 (j0d ⟨a.1,_,_,.str n[j].1,rfl,rfl,SqT.of et6,rfl,?_⟩))))⟩));refine j0a (j0m k80 (j7o k5l (j0o j0p (ev_v 9 (j0d ⟨a.1,_,_,.ref a.2,rfl,rfl,SqT.of et6,rfl,j9s (j0m j0x (ev_v 0 (ev_v 10 ⟨b2,((max 1 (row n j).length:Nat):Int),rfl,rfl,by omega,_,rfl,j9x ⟨a.2,_,rfl,SqL.of el6,fun p1 hp1=>?_⟩⟩)))⟩)))));rw [hi,k6l];have t1:=j0g hp1 (Ls ((row n j).drop i));refine j7o k5l (j0o j0p (ev_v 9 (j0d ⟨a.1,_,_,.ref a.2,rfl,rfl,SqT.of (t1 _ _ et6),rfl,j9x (j9s (j0m j0x (ev_v 0 (ev_v 10 ⟨b2,((max 1 (row n j).length:Nat):Int),rfl,rfl,by omega,_,rfl,a.2,_,rfl,SqL.of (t1 _ _ el6),fun p2 hp2=>?_⟩))))⟩)));rw [hi,q2e];have t2:=j0g hp2 (Ls ((row n j).take i));refine⟨p1,p2,_,_,rfl,rfl,t2 _ _ j0b,j0b,?_,fun p3 hp3=>?_⟩
  ·rw [Aa,Aa,Dm,Bt];exact small (by omega)
  rw [<- Al];have t3:=j0g hp3 (Ls ((row n j).drop i++(row n j).take i));refine j0c ⟨(by show 2<=sizeLine;decide),fun t4 ht4=>?_⟩;have s4:=j0g ht4 (.tup [.str n[j].1,.ref p3]);have sAll:=t1.trans (t2.trans (t3.trans s4));have L7:=L6.same sAll;have R7:=R6.same sAll;have p3L:p3≠L:=fun e=>by rw [e,(t1.trans t2) _ _ L6.lst] at hp3;cases hp3
  have p3R:p3≠R:=fun e=>by rw [e,(t1.trans t2) _ _ R6.lst] at hp3;cases hp3
  have p3n:p3∉as2.map (·.2):=fun hm=>by
   obtain⟨y,hy,e⟩:=Am.mp hm;exact(L6.same (t1.trans t2)).fresh hp3 hy e.symm
  have L8:=L7.more (t:=t4) (l:=p3) (pt:=n[j].1) (zs:=(row n j).drop i++(row n j).take i) j0b (s4 _ _ j0b) p3n p3L;refine⟨_,L7.lst,by rw [Aa,hal2];exact j03 (by omega),?_⟩;have aL6:∀ x∈as.eraseIdx j,x.2≠L:=fun x hx=>aL x (List.mem_of_mem_eraseIdx hx);have R8:=R7.upd (o:= .lst (as2.map (fun a=>V.ref a.1)++[.ref t4])) L7.lst hRL aL6;refine j0i 0 nd (j0m j07 (ev_v 0 (ev_v 10 ⟨b2,((max 1 (row n j).length:Nat):Int),rfl,rfl,⟨by omega,by omega⟩,?_⟩)));have pe:=j64 n j hjn;have ne:=j9r n j hjn;refine j0j ⟨n.length - 1,by omega,as.eraseIdx j,as2++[(t4,p3)],n.eraseIdx j,n2++[(n[j].1,(row n j).drop i++(row n j).take i)],_,_,_,len6.symm,R8,L8,j1h (sH6.trans sAll) fL,aL6,fun x hx=>?_,fun x hx=>?_,?_,?_,?_,fun h=>⟨fun r hr=>?_,fun r hr=>?_⟩,rfl⟩
  ·rcases Ba.mp hx with hx | hx
   ·exact aR x hx
   ·rw [Ah] at hx;rw [hx];exact p3R
  ·rcases Ba.mp hx with hx | hx
   ·exact fr2 x hx
   ·rw [Ah] at hx;rw [hx];exact sH6.free (t1.free (t2.free hp3))
  ·rw [Af,len6];simp;omega
  ·refine List.Perm.trans ?_ pt;unfold ties;rw [Cy];show(ties (n.eraseIdx j)++(ties n2++(((row n j).drop i++(row n j).take i)++[]))).Perm _;rw [Bk,er];have w1:(n[j].2.drop i++n[j].2.take i).Perm n[j].2:=k1a _ _;refine((w1.append_left _).append_left _).trans ?_;have w2:(ties n++ties n2).Perm ((n[j].2++ties (n.eraseIdx j))++ties n2):=pe.append_right _;refine List.Perm.trans ?_ w2.symm;rw [Bl];refine List.Perm.trans ?_ (Da (l₁:=ties (n.eraseIdx j)++ties n2));rw [Bl]
  ·refine List.Perm.trans ?_ pn;rw [Al];show((n.eraseIdx j).map (·.1)++(n2.map (·.1)++[n[j].1])).Perm _;refine List.Perm.trans ?_ (ne.append_right _).symm;rw [<- Bl];exact Da
  ·exact(hne h).1 r (List.mem_of_mem_eraseIdx hr)
  ·rcases Ba.mp hr with hr | hr
   ·exact(hne h).2 r hr
   ·rw [Ah] at hr;rw [hr];intro e;have w1:=(k1a (row n j) i).length_eq;have e':(row n j).drop i++(row n j).take i=[]:=e;rw [e'] at w1;have:=(hne h).1 n[j] (Cg hjn);rw [er] at w1;exact this (Bg.mp w1.symm)
end
end J0
namespace L2
open PySem PySem.Spec PyProof.Rows
theorem q4g{P:Program}{w:World}{k:Key}{u:Value}(h:(j0r P w).is k u=true):RelV (kV k) u:=by
 rcases j1e h with ⟨i,t,rfl,rfl⟩ | ⟨x,t,rfl,rfl⟩ <;> exact⟨t,rfl⟩
section
variable{X:Cx}{pins:List (Addr×Obj)}{σ:St}{H:Hp}{s:Shared}
theorem k9k{xs:List V}:∀{vs:List Value},vs.length=xs.length->(∀(j:Nat) u,vs[j]?=some u->∃ x,xs[j]?=some x/\RelV x u)->Vals xs vs:=by
 induction xs with
 | nil=>
  intro vs h _;cases vs with
  | nil=>exact .nil
  | cons a b=>simp at h
 | cons x r ih=>
  intro vs h g;cases vs with
  | nil=>simp at h
  | cons u q=>
   obtain⟨x',e,ru⟩:=g 0 u rfl;simp only [List.getElem?_cons_zero,Option.some.injEq] at e;subst e;exact .cons ru (ih (by simpa using h) fun j u hu=>by simpa using g (j+1) u (by simpa using hu))
theorem j6n(hc:X.calm=true):j2s X (.type "list") (fun xs H Q=>∃ a kvs,xs=[.ref a]/\Rd H a (.dK kvs)/\∀ l,H l=none->Q (.ref l) (upd H l (.lst (kvs.map fun p=>kV p.1)))):=by
 intro pins s σ H xs us Q I r h;obtain⟨a,kvs,rfl,hH,q⟩:=h;obtain⟨u,rfl,ru⟩:=vals1 r;cases (show u=Value.ref a from ru);obtain⟨z,hd,vs,rel,dd⟩:=k2x I.hok hH;obtain⟨ep,da⟩:=dd.dictAt;have hl:=rel.length;refine PySem.W.kdl_call (PySem.W.kdl_dict (knd:=j0r X.prog X.w) (kvs:=vs) (ep:=ep) hd) (I.ok.hd hc) da (by omega) fun h' tk acc c' hk hS hacc=>?_;have rv:Vals (kvs.map fun p=>kV p.1) acc.toList:=by
  refine k9k (by rw [Cj,hacc.1,Aa];omega) fun j u hu=>?_;obtain⟨k,x,e,g⟩:=hacc.2 j u (by rw [<- Bn];exact hu);refine⟨kV k,?_,q4g g⟩;have e2:(kvs.map (·.1))[j]?=some k:=by rw [rel.keys,Ae,e];rfl
  rw [Ae,Ar] at e2;obtain⟨p,e3,e4⟩:=e2;rw [Ae,e3,<- e4];rfl
 exact⟨.ref s.heap.objs.size,_,I.laid (t':=tk) hk (Ag _) (show ObjOk X.prog X.w _ h' _ (.lst (kvs.map fun p=>kV p.1)) from⟨by rw [Aa];exact z,acc.toList,c',rv,by rw [Array.toArray_toList];exact hS⟩),rfl,q _ (I.hok.fresh (Ag _))⟩
end
section
variable{X:Cx}{elt tg:Expr}{ifs:List Expr}{scope:Scope}{σ:St}{H:Hp}{N':List Str}{A a d:Addr}{xs:List V}{kvs:List (Key×V)}{after:Hp->Prop}
theorem j3t(Pv:Nat->St->Hp->Prop)(h0:Pv 0 σ H)(hl:∀ i σ' H',i<=xs.length->Pv i σ' H'->SqL X.K H' a xs)
  (hs : ∀ i x σ' H', xs[i]? = some x → Pv i σ' H' → CEg X N' scope tg x σ' H' fun σ2 H3 => CEi X N' scope ifs σ2 H3 fun b H4 =>
   if b=true then CEv X N' scope elt σ2 H4 fun v H5=>∃ ys,H5 A=some (.lst ys)/\ys.length < sizeLine/\Pv (i+1) σ2 (upd H5 A (.lst (ys++[v]))) else Pv (i+1) σ2 H4)
  (hd:∀ σ' H',Pv xs.length σ' H'->after H'):j9v X N' scope tg ifs elt (Itl X.K a) A after σ H:=by
 refine⟨fun i m σ' H'=>m=xs.length - i/\i<=xs.length/\Pv i σ' H',⟨_,rfl,Bi _,h0⟩,?_⟩;rintro i m σ' H' ⟨rfl,hi,p⟩;have q:=hl i σ' H' hi p
 by_cases hlt:i < xs.length
 ·refine .inr ⟨⟨xs,xs[i],q,by simp [hlt]⟩,Pv (i+1),fun σ' H' p'=>⟨xs.length - (i+1),by omega,rfl,hlt,p'⟩,fun x H2 y=>?_⟩;obtain⟨e,y⟩:=y;subst e;exact hs i x σ' _ (y xs q) p
 ·have e:i=xs.length:=by omega
  subst e;exact .inl ⟨⟨xs,q,Ag _⟩,hd σ' H' p⟩
theorem k08(z:Str)(zs:List Str):inV (.str z) (zs.map V.str)=zs.contains z:=by
 unfold inV
 induction zs with
 | nil=>rfl
 | cons y r ih=>
  rw [Be,Dk,ih,List.contains_cons]
  congr 1
  show eqV (.str y) (.str z)=(z == y)
  by_cases h:y=z
  ·subst h;simp [eqV]
  ·have h':z≠y:=fun q=>h q.symm;show(y == z)=(z == y);rw [beq_eq_false_iff_ne.mpr h,beq_eq_false_iff_ne.mpr h']
theorem j84(zs:List Str):(zs.map V.str).all j6h=true:=by
 rw [Ci];intro x hx;obtain⟨z,_,rfl⟩:=Am.mp hx;rfl
theorem Eg.mono{e:Expr}{v:V}{R R':St->Hp->Prop}(h:Eg X e v σ H R)(f:∀ σ' H',R σ' H'->R' σ' H'):Eg X e v σ H R':=
 ⟨fun pins s u I r=>thn (h.run pins s u I r) fun _ s' ⟨σ',H',I',q⟩=>⟨σ',H',I',f σ' H' q⟩⟩
theorem j21{e1 e2:Expr}{k:Nat}{pos:Pos}{t:Addr}{x y:V}{R:St->Hp->Prop}(hc:X.calm=true)(ht:SqT X.K H t [x,y])(h:Eg X e1 x σ H fun σ1 H1=>Eg X e2 y σ1 H1 R)
  (hn:(assignEach [e1,e2] X.env).length=2:=by rfl) (hst:(assignEach [e1,e2] X.env).findIdx? (·.1)=none:=by rfl)
  (hs1:(assignEach [e1,e2] X.env).map (·.2)=assign e1 X.env :: (assignEach [e2] X.env).map (·.2):=by rfl) (hs2:(assignEach [e2] X.env).map (·.2)=assign e2 X.env :: (assignEach [] X.env).map (·.2):=by rfl) :
  Eg X (.Tuple [e1,e2] k pos) (.ref t) σ H R:=
 q3y (q2q (t:=q09 (fun v σ H Q=>Eg X e1 v σ H Q) (q09 (fun v σ H Q=>Eg X e2 v σ H Q) gNil)) hc (k1c k6p (k1c k6p q1g hs2) hs1) hn hst) ⟨t,_,rfl,ht,rfl,_,_,rfl,h.mono fun σ1 H1 h1=>⟨_,_,rfl,h1.mono fun σ2 H2 q=>⟨rfl,q⟩⟩⟩
end
end L2
namespace Nt
open PySem L2
theorem k3l{n:Net}(T:j1s n){e x:End}{z:Str}(h:j15 n e=some z):j15 n x=some z↔x=e\/x=other n e:=by
 obtain⟨o1,o2,o3⟩:=j3w T h;refine⟨fun hx=>?_,fun hx=>?_⟩
 ·obtain⟨a,b,hp,hab,he⟩:=j8b T h;have mx:x∈pos n z:=mem_pos.mpr hx;have mo:other n e∈pos n z:=mem_pos.mpr o1;rw [hp] at mx mo;simp only [Ao,Dw,or_false] at mx mo
  rcases he with he | he
  ·rcases mx with m | m
   ·exact .inl (m.trans he.symm)
   ·rcases mo with m2 | m2
    ·exact absurd (m2.trans he.symm) o3
    ·exact .inr (m.trans m2.symm)
  ·rcases mx with m | m
   ·rcases mo with m2 | m2
    ·exact .inr (m.trans m2.symm)
    ·exact absurd (m2.trans he.symm) o3
   ·exact .inl (m.trans he.symm)
 ·rcases hx with rfl | rfl
  ·exact h
  ·exact o1
end Nt
namespace PySem
theorem getAttr?_miss_list{prog:Program}{w:World}{A:Around}{E:Value->Shared->Prop}{s:Shared}{a:Addr}{o:Obj}{xs:Array Value}{k:Nat}{name:Str}{Q:Option Value->Shared->Prop}
  (hx:s.heap.get? a=some o) (hc:o.cls = .type "list") (hdat:o.data = .seq xs k) (hd:o.dict=none) (hmiss:typeLookup (.type "list") name=pure none) (hname:(["__module__","__name__","__qualname__","__doc__","__annotations__"]:List Str).contains name=false) (hA:A.handled=none)
  (h:∀ h' tk e,Heap.NewExcOf s.heap h' e "AttributeError"->Q none {s with heap:=h',toks:=tk}) (hsz:name.length+100<=sizeLine:=by size_fits) :
  wpAny (model prog w) A (getAttr? (.ref a) name) Q E s:=by
 obtain⟨c,dct,dat,sl⟩:=o;simp only at hc hdat hd;subst hc hdat hd;obtain⟨hp,g,d,tk,os⟩:=s;have hT:∀ tk',(⟨hp,g,d,tk',os⟩:Shared).TypeIs (.ref a) "list":=fun _=>⟨_,hx,rfl⟩;have f1:=sub_AttributeError;have f3:=F.slot_list_getattribute.lookup;have f4:=F.slot_list_getattribute.bind (.ref a);have f5:=am_list_getattr_none;unfold getAttr? getAttrBy? getAttrBy
 repeat (any_goals (first | assumption | exact hT _ | ((with_reducible show wpAny _ _ (call (Value.builtin "list.__getattribute__") _ _) _ _ _);refine call_meets F.slot_list_getattribute (hT _) am_entry_list_getattribute (F.args_list_getattribute_2 _ _) (meets_getattribute_miss_list a xs k sl name _ hmiss hname hsz) ⟨hx,hA,fun h' tk' e hx'=>?_⟩) | wp_step))
 obtain⟨t',u',he⟩:=hx'.there;show wpAny _ _ (getattributeRaised _ _ _ _ _ _ _) _ _ _;unfold getattributeRaised
 repeat (any_goals (first | assumption | wp_step))
 exact h _ _ _ hx'.of
end PySem
namespace PySem
namespace F
theorem entry_dict_update_loop:entryFor table "dict.update.loop" = some Builtin.«dict.update.loop»:=entryFor_of_tree (by kernel_rfl)
theorem plain_dict_update_loop:plainId "dict.update.loop" = true:=by decide +kernel
theorem list_no_keys:typeLookup (.type "list") "keys" = pure none:=by rw [typeLookup_type,builtinLookup_eq_fast];kernel_rfl
end F
section
variable{prog:Program}{w:World}{K:Type} [DecidableEq K] {knd:KeyKind prog w K} {A:Around} {R:Result->Shared->Prop}
def k0c(knd:KeyKind prog w K)(h:Heap)(items:List Value)(prs:List (K×Value)):Prop:=
 items.length=prs.length/\∀(j:Nat) it,items[j]?=some it->∃ T key k v o n,it = .ref T/\prs[j]?=some (k,v)/\knd.is k key=true/\h.get? T=some o/\o.cls = .type "tuple"/\o.data = .seq #[key,v] n
theorem j73(kvs:List (K×Value))(k:K)(v:Value):(stored kvs k v).length<=kvs.length+1:=by
 unfold stored
 split
 ·rw [Aa];omega
 ·rw [Af];simp
theorem k1q{hB:Heap}{d I l:Addr}{items:List Value}{prs:List (K×Value)}(hd:hB.objs.size<=d)(hI:hB.objs.size<=I)(hdI:d≠I)(hl:hB.IsList l items.toArray)(hp:k0c knd hB items prs)(hn:items.length < sizeLine)(hh:A.handled=none) :
  ∀(k i:Nat) (s:Shared) (acc:List (K×Value)),items.length - i=k->i<=items.length->(∀ b o,hB.get? b=some o->s.heap.get? b=some o)->s.heap.IsListIter I l i->s.heap.DictOf knd d acc->acc.length<=i ->
   (∀ h' tk,(∀ b o,b≠I->b≠d->s.heap.get? b=some o->h'.get? b=some o)->h'.DictOf knd d ((prs.drop i).foldl (fun a p=>stored a p.1 p.2) acc)->R (.ok (.ret .none)) {s with heap:=h',toks:=tk}) ->
   codeAny (model prog w) A (.builtin "dict.update.loop" ⟨[.ref d,.ref I,rawInt i,.none],[]⟩) R s:=by
 have nb:∀ b o,hB.get? b=some o->b≠I/\b≠d:=fun b o e=>⟨Ay (Bf (Ai e) hI),Ay (Bf (Ai e) hd)⟩;intro k
 induction k with
 | zero=>
  intro i s acc hk hi hkeep hst hD hal hR;have hin:i=items.length:=by omega
  refine codeAny_builtin F.entry_dict_update_loop ?_;rw [Around.under_plainId F.plain_dict_update_loop _];show wpAny _ A.in1 (pyNext (.ref I) >>= _) _ _ s;have hl':s.heap.IsList l items.toArray:=let ⟨o,ho,r⟩:=hl;⟨o,hkeep _ _ ho,r⟩
  refine wpAny_bind (wpAny_pyNext_list_end hh hst hl' (by simp;omega) fun h' eb=>?_);show wpAny _ A.in1 (Builtin.Dict.addKeywords d [] >>= _) _ _ _;refine wpAny_bind (wpAny_pure (wpAny_pure ?_));refine hR h' s.toks (fun b o hb _ e=>eb b o hb e) ?_;rw [List.drop_eq_nil_of_le (by have:=hp.1;omega)];exact hD.extBut eb hdI
 | succ k ih=>
  intro i s acc hk hi hkeep hst hD hal hR;have hlt:i < items.length:=by omega
  have hx:items[i]?=some items[i]:=Ac hlt;obtain⟨T,key,kk,v,o,n,e1,e2,e3,e4,e5,e6⟩:=hp.2 i _ hx;rw [e1] at hx;refine codeAny_builtin F.entry_dict_update_loop ?_;rw [Around.under_plainId F.plain_dict_update_loop _];show wpAny _ A.in1 (pyNext (.ref I) >>= _) _ _ s;have hl':s.heap.IsList l items.toArray:=let ⟨o,ho,r⟩:=hl;⟨o,hkeep _ _ ho,r⟩
  refine wpAny_bind (wpAny_pyNext_list_item hst hl' (x:= .ref T) (by simpa using hx) fun h' st' sb=>?_);have eT:h'.get? T=some o:=(sb.2 T (nb T o e4).1).trans (hkeep _ _ e4);refine wpAny_bind (wpAny_holding (wpAny_bind (wpAny_tryCatch ?_)));unfold Builtin.Dict.pairItems;refine wpAny_bind (wpAny_typeOf (T:= "tuple") ⟨o,eT,e5⟩ ?_);rw [if_pos (by decide)];refine wpAny_bind (wpAny_seqItems (s:={s with heap:=h'}) eT e6 (wpAny_pure ?_));show wpAny _ _ (holding [key,v] (dictSet d key v)) _ _ _;refine wpAny_holding (wpAny_dictSet_pairs (knd:=knd) (s:={s with heap:=h'}) (k:=kk) e3 (hD.extBut sb.extBut hdI) (fun h2 D2 sb2=>?_) (by omega));refine wpAny_pure ⟨plainId_quiet F.plain_dict_update_loop _,?_⟩;have hki:∀ b o,b≠I->b≠d->s.heap.get? b=some o->h2.get? b=some o:=fun b o h1 h3 e=>(sb2.2 b h3).trans ((sb.2 b h1).trans e);refine ih (i+1) {s with heap:=h2,toks:=s.toks+1} (stored acc kk v) (by omega) hlt (fun b o e=>hki b o (nb b o e).1 (nb b o e).2 (hkeep _ _ e)) (st'.extBut sb2.extBut (Ne.symm hdI)) D2 (by have:=j73 acc kk v;omega) fun h3 tk k3 D3=>?_;refine hR h3 tk (fun b o h1 h2' e=>k3 b o h1 h2' (hki b o h1 h2' e)) ?_;have e7:prs.drop i=(kk,v) :: prs.drop (i+1):=by
   obtain⟨hj,e8⟩:=Ab.mp e2;rw [List.drop_eq_getElem_cons hj,e8]
  rw [e7];exact D3
theorem j5z{E:Value->Shared->Prop}{s:Shared}{Q:Value->Shared->Prop}{l:Addr}{ol:Obj}{nl:Nat}{items:List Value}{prs:List (K×Value)}(ho:s.heap.get? l=some ol)(hc:ol.cls = .type "list")(hod:ol.dict=none)(hdt:ol.data = .seq items.toArray nl)(hp:k0c knd s.heap items prs)(hn:items.length < sizeLine)(hh:A.handled=none)
  (h:∀ h' tk,(∀ b o,s.heap.get? b=some o->h'.get? b=some o)->h'.DictOf knd s.heap.objs.size (prs.foldl (fun a p=>stored a p.1 p.2) [])->Q (.ref s.heap.objs.size) {s with heap:=h',toks:=tk}) :
  wpAny (model prog w) A (call (.type "dict") [.ref l]) Q E s:=by
 refine callType_codes (Q₁:=fun obj s₁=>obj = .ref s.heap.objs.size/\s₁={s with heap:=s.heap.push {cls:= .type "dict",data:= .dict #[]}}) F.kt_called_dict (F.kt_typeCall_dict_1 _) F.entry_dict_init (kt_code_dict_new _ ⟨rfl,rfl⟩) ?_;rintro obj s₁ ⟨rfl,rfl⟩;have hnew:(s.heap.push {cls:= .type "dict",data:= .dict #[]}).DictOf knd s.heap.objs.size []:=Heap.DictOf.new s.heap;have ho':(s.heap.push {cls:= .type "dict",data:= .dict #[]}).get? l=some ol:=Ad _ ho;refine⟨hnew.typeIs,F.args_dict_init_2 _ _,?_⟩;unfold Builtin.«dict.__init__»;refine wpAny_bind ?_;unfold Builtin.Dict.selfAndRest;refine wpAny_bind (wpAny_notOrdered_dict hnew.typeIs ?_);show wpAny _ _ (pure (s.heap.objs.size,[Value.ref l])) _ _ _;refine wpAny_pure ?_;show wpAny _ _ (Builtin.Dict.updateFrom "dict.__init__" s.heap.objs.size (.ref l) [] .none) _ _ _;unfold Builtin.Dict.updateFrom;refine wpAny_bind (wpAny_typeOf (T:= "list") ⟨ol,ho',hc⟩ ?_);rw [if_pos (by decide)];refine wpAny_bind (getAttr?_miss_list ho' hc hdt hod F.list_no_keys (by decide) (by exact hh) (fun h' tk e ne=>?_));rw [if_pos (show(none:Option Value).isNone=true from rfl)];have kp:∀ b o,s.heap.get? b=some o->h'.get? b=some o:=fun b o e=>ne.keeps b o (Ad _ e);refine wpAny_bind (wpAny_rule ?_);have hL:h'.IsList l items.toArray:=⟨ol,kp _ _ ho,hc,nl,hdt⟩;refine wpAny_bind (wpAny_pyIter_list hL ?_);refine wpAny_pure ⟨plainId_quiet F.plain_dict_update_loop _,?_⟩;have hD':h'.DictOf knd s.heap.objs.size []:=let ⟨o,es,ep,ho,r⟩:=hnew;⟨o,es,ep,ne.keeps _ _ ho,r⟩
 have hlt:s.heap.objs.size < h'.objs.size:=let ⟨o,es,ep,ho,r⟩:=hD';Ai ho
 refine k1q (hB:=s.heap) (d:=s.heap.objs.size) (I:=h'.objs.size) (l:=l) (Ag _) (Fj hlt) (Ay hlt) ⟨ol,ho,hc,nl,hdt⟩ hp hn (by exact hh) _ 0 _ [] rfl (Bi _) (fun b o e=>Ad _ (kp b o e)) ⟨_,Aj _ rfl,rfl,rfl⟩ (hD'.push _) (Bi _) fun h2 tk2 k2 D2=>?_;refine⟨rfl,h h2 tk2 (fun b o e=>k2 b o (Ay (Ai (kp b o e))) (Ay (Ai e)) (Ad _ (kp b o e))) D2⟩
end
end PySem
namespace L2
open PySem PySem.Spec PyProof.Rows
section
variable{X:Cx}{pins:List (Addr×Obj)}{σ:St}{H:Hp}{s:Shared}
theorem j9m{kvs:List (Key×V)}:∀{ps:List (Key×V)} {acc:List (Key×Value)} {rs:List (Key×Value)},KV ps acc->KV kvs rs->KV (kvs.foldl (fun a p=>putK a p.1 p.2) ps) (rs.foldl (fun a p=>stored a p.1 p.2) acc):=by
 induction kvs with
 | nil=>intro ps acc rs h g;cases g;exact h
 | cons p r ih=>
  intro ps acc rs h g;cases g with
  | @cons _ q _ r' hq hr=>
   obtain⟨e1,e2⟩:=hq;rw [Cs,Cs];refine ih ?_ hr;rw [<- e1];exact h.put p.1 e2
theorem k0y{P:Program}{w:World}{h:Heap}:∀{kvs:List (Key×V)} {ts:List Addr},ts.length=kvs.length->(∀(j:Nat) t kv,ts[j]?=some t->kvs[j]?=some kv->∃ key v o m,(j0r P w).is kv.1 key=true/\RelV kv.2 v/\h.get? t=some o/\o.cls = .type "tuple"/\o.data = .seq #[key,v] m) ->
  ∃ rs:List (Key×Value),KV kvs rs/\∀(j:Nat) t,ts[j]?=some t->∃ key k v o m,rs[j]?=some (k,v)/\(j0r P w).is k key=true/\h.get? t=some o/\o.cls = .type "tuple"/\o.data = .seq #[key,v] m
 | [],ts,hl,_=>by
  have:ts=[]:=Bg.mp hl;subst this;exact⟨[],.nil,fun j t h=>by simp at h⟩
 | kv :: r,[],hl,_=>by simp at hl
 | kv :: r,t :: ts,hl,hp=>by
  obtain⟨key,v,o,m,q1,q2,q3,q4,q5⟩:=hp 0 t kv rfl rfl;obtain⟨rs,hk,hr⟩:=k0y (kvs:=r) (ts:=ts) (by simpa using hl) fun j t kv h1 h2=>hp (j+1) t kv (by simpa using h1) (by simpa using h2);refine⟨(kv.1,v) :: rs,.cons ⟨rfl,q2⟩ hk,fun j t' ht=>?_⟩;cases j with
  | zero=>
   cases ht;exact⟨key,kv.1,v,o,m,rfl,q1,q3,q4,q5⟩
  | succ j=>
   obtain⟨key,k,v,o,m,e,z⟩:=hr j t' (by simpa using ht);exact⟨key,k,v,o,m,by simpa using e,z⟩
theorem j34(hc:X.calm=true):j2s X (.type "dict") (fun xs H Q=>∃(a:Addr) (ts:List Addr) (kvs:List (Key×V)),xs=[.ref a]/\H a=some (.lst (ts.map V.ref))/\ts.length=kvs.length/\ts.length < sizeLine/\(∀(j:Nat) t kv,ts[j]?=some t->kvs[j]?=some kv->H t=some (.tup [kV kv.1,kv.2])) /\
  ∀ d,H d=none->Q (.ref d) (upd H d (.dK (kvs.foldl (fun a p=>putK a p.1 p.2) [])))):=by
 intro pins s σ H xs us Q I r h;obtain⟨a,ts,kvs,rfl,hH,hl,hz,ht,q⟩:=h;obtain⟨u,rfl,ru⟩:=vals1 r;cases (show u=Value.ref a from ru);obtain⟨z,its,n,rv,e⟩:=(show ObjOk X.prog X.w H s.heap a (.lst (ts.map V.ref)) from I.hok a _ hH);have hil:=rv.length;rw [Aa] at hil;have its_at:∀(j:Nat) t,ts[j]?=some t->its[j]?=some (.ref t):=fun j t hj=>by
  obtain⟨u,hu,ru⟩:=rv.get (i:=j) (x:= .ref t) (by rw [Ae,hj];rfl);cases (show u=Value.ref t from ru);exact hu
 have pair:∀(j:Nat) t kv,ts[j]?=some t->kvs[j]?=some kv->∃ key v o m,(j0r X.prog X.w).is kv.1 key=true/\RelV kv.2 v/\s.heap.get? t=some o/\o.cls = .type "tuple"/\o.data = .seq #[key,v] m:=fun j t kv h1 h2=>by
  obtain⟨z2,its2,rv2,o,eo,co,m,dm⟩:=(show ObjOk X.prog X.w H s.heap t (.tup [kV kv.1,kv.2]) from I.hok t _ (ht j t kv h1 h2));obtain⟨key,v,e3,r1,r2⟩:=rv2.two;refine⟨key,v,o,m,j9p r1,r2,eo,co,?_⟩;rw [dm,e3]
 obtain⟨rs,hk,hr⟩:=k0y hl pair;have hkl:=hk.length;have hP:k0c (j0r X.prog X.w) s.heap its rs:=by
  refine⟨by omega,fun j it hj=>?_⟩;have hjl:j < ts.length:=by have:=(Ab.mp hj).1;omega
  have htj:ts[j]?=some ts[j]:=Ac hjl;have e2:=its_at j _ htj;rw [hj] at e2;obtain⟨key,k,v,o,m,q1,q2,q3,q4,q5⟩:=hr j _ htj;exact⟨ts[j],key,k,v,o,m,Option.some.inj e2,q1,q2,q3,q4,q5⟩
 refine j5z (knd:=j0r X.prog X.w) e rfl rfl rfl hP (by omega) (I.ok.hd hc) fun h' tk kp D=>?_;have hlen:∀(l:List (Key×V)) (a:List (Key×V)),(l.foldl (fun a p=>putK a p.1 p.2) a).length<=a.length+l.length:=by
  intro l
  induction l with
  | nil=>intro a;exact Ag _
  | cons p r ih=>
   intro a;rw [Cs,Bd];have h1:=ih (putK a p.1 p.2);have h2:=j09 a p.1 p.2;omega
 have hb:=I.big;refine⟨.ref s.heap.objs.size,_,I.laid (t':=tk) kp (Ag _) (show ObjOk X.prog X.w _ h' _ (.dK (kvs.foldl (fun a p=>putK a p.1 p.2) [])) from⟨?_,?_,_,j9m (kvs:=kvs) (ps:=[]) (acc:=[]) .nil hk,D⟩),rfl,q _ (I.hok.fresh (Ag _))⟩
 ·have:=hlen kvs [];rw [Em] at this;omega
 ·exact beq_eq_false_iff_ne.mpr (Cd hb)
end
end L2
namespace L2
open PySem PySem.Spec PyProof.Rows
section
variable{X:Cx}{pins:List (Addr×Obj)}{σ:St}{H:Hp}{s:Shared}{h':Heap}
theorem Inv.turnedL{t':Nat}{ch:List Addr}(I:Inv X pins σ H s)(hf:∀ b∈ch,FpOk X pins H b)(k:∀ b o,b∉ch->s.heap.get? b=some o->h'.get? b=some o):Inv X pins σ H {s with heap:=h',toks:=t'}:=by
 have nit:∀ b u,H b=some u->b∉ch:=fun b u e z=>by rw [(hf b z).1] at e;cases e
 refine I.step (g':=s.gens) (d':=s.drawn) (ch:=ch) (fun b hb=>?_) (fun b o _ _ hc e _=>k b o hc e) (fun b o _ _ hc e _=>⟨o.slots,k b o hc e⟩) (fun _ _ _ _ n=>n)
  (fun b o hc e=>⟨o,k b o hc e⟩) (fun _ _ e=>e) (fun _ _ _ e=>e) (fun b ps e=>⟨#[],by rw [e];simp⟩) (fun m hm=>?_) (fun b u e=>?_) I.bare
 ·obtain⟨f0,f1,f2,f3,f4,f5⟩:=hf b hb;exact⟨f3,f1,f4,f5⟩
 ·obtain⟨o,es,ep,ho,r⟩:=hm;exact⟨o,es,ep,k _ o (fun z=>(hf _ z).2.1 rfl) ho,r⟩
 ·refine(I.hok b u e).stay (fun c v hc q=>k c v ?_ q) (fun _ q=>q) fun _ _ q=>q
  rcases hc with z | z
  ·rw [z];exact nit b u e
  ·exact nit c _ z
def Itz(K:PySem.W.Frag)(a b:Addr):It:=
  ⟨fun i H => ∃ xs ys x y, SqL K H a xs ∧ SqL K H b ys ∧ xs[i]? = some x ∧ ys[i]? = some y,
   fun i H v H'=>∃ T x y,H T=none/\v = .ref T/\H'=upd H T (.tup [x,y])/\(∀ xs,SqL K H a xs->xs[i]?=some x)/\∀ ys,SqL K H b ys->ys[i]?=some y,
   fun i H=>∃ xs ys,SqL K H a xs/\SqL K H b ys/\(xs.length<=i\/ys.length<=i)⟩
def q2t(m a b:Addr)(i:Nat)(h:Heap):Prop:=
 IsZip h (m+4) (m+2) (m+3) .none/\IsPair h (m+2) (.ref m) (.ref (m+1))/\(∃ x y,IsPair h (m+3) x y)/\h.IsListIter m a i/\h.IsListIter (m+1) b i
theorem j8y{h:Heap}{m a b:Addr}{i:Nat}{xs ys:Array Value}(z:q2t m a b i h)(ha:h.IsList a xs)(hb:h.IsList b ys):ZipApart (m+4) (m+2) (m+3) m (m+1) a b:=by
  obtain⟨z1,z2,⟨x,y,z3⟩,⟨o4,e4,c4,_⟩,⟨o5,e5,c5,_⟩⟩:=z;have cls:∀{l:Addr} {vs:Array Value} {c:Addr} {o:Obj},h.IsList l vs->h.get? c=some o->o.cls ≠ .type "list"->l≠c:=fun hl hc hn e=>by
    obtain⟨ol,hol,hcl,_⟩:=hl;rw [e,hc] at hol;cases hol;exact hn hcl
  exact { TIz := by simp, TOz := by simp, i1z := by simp, i2z := by simp, TITO := by simp, TIi1 := by simp, TIi2 := by simp, TOi1 := by simp, TOi2 := by simp, i12 := by simp
          l1z:=cls ha z1 (by show Value.type "zip"≠Value.type "list";decide),l1TO:=cls ha z3 (by show Value.type "tuple"≠Value.type "list";decide),l1i1:=cls ha e4 (by rw [c4];decide),l1i2:=cls ha e5 (by rw [c5];decide)
          l2z:=cls hb z1 (by show Value.type "zip"≠Value.type "list";decide),l2TO:=cls hb z3 (by show Value.type "tuple"≠Value.type "list";decide),l2i1:=cls hb e4 (by rw [c4];decide),l2i2:=cls hb e5 (by rw [c5];decide)}
theorem k57{P:Program}{w:World}{K:PySem.W.Frag}{elts:List Expr}{k:Nat}{tp:Pos}(m a b:Addr):Turn P w K (.Tuple elts k tp) (Itz K a b) [m,m+1,m+2,m+3,m+4] (m+4) (q2t m a b) where
 mem:=by simp
 obj:=fun i h st c hc=>by
  obtain⟨z1,z2,⟨x,y,z3⟩,⟨o4,e4,c4,d4⟩,⟨o5,e5,c5,d5⟩⟩:=st;simp only [Ao,Dw,or_false] at hc
  rcases hc with rfl | rfl | rfl | rfl | rfl
  ·exact⟨_,e4,fun v z=>by rw [d4] at z;cases z⟩
  ·exact⟨_,e5,fun v z=>by rw [d5] at z;cases z⟩
  ·exact⟨_,z2,fun v z=>by cases z⟩
  ·exact⟨_,z3,fun v z=>by cases z⟩
  ·exact⟨_,z1,fun v z=>by cases z⟩
 keep:=fun i h h' st kp=>by
  obtain⟨z1,z2,⟨x,y,z3⟩,⟨o4,e4,r4⟩,⟨o5,e5,r5⟩⟩:=st;exact⟨kp _ (by simp) _ z1,kp _ (by simp) _ z2,⟨x,y,kp _ (by simp) _ z3⟩,⟨o4,kp _ (by simp) _ e4,r4⟩,⟨o5,kp _ (by simp) _ e5,r5⟩⟩
 item:=by
  intro X hP hw hK hc i pins s σ H E I hf st hg;subst hP hw hK;obtain⟨xs,ys,x,y,hxs,hys,hx,hy⟩:=hg;obtain⟨its1,rv1,p1,hz1⟩:=I.list hxs;obtain⟨its2,rv2,p2,hz2⟩:=I.list hys;obtain⟨u1,hu1,ru1⟩:=rv1.get hx;obtain⟨u2,hu2,ru2⟩:=rv2.get hy;have D:=j8y st p1.isList p2.isList;obtain⟨z1,z2,⟨x0,y0,z3⟩,z4,z5⟩:=id st;refine wpAny_pyNext_zip_item D z1 z2 z3 z4 z5 p1.isList p2.isList (x:=u1) (y:=u2) (by simpa using hu1) (by simpa using hu2) fun h' a1 a2 a3 a4 a5 a6 kp=>?_;have hT:H s.heap.objs.size=none:=I.hok.fresh (Ag _);have nT:∀ c∈[m,m+1,m+2,m+3,m+4],c≠s.heap.objs.size:=fun c hc'=>by
   have:∃ o,s.heap.get? c=some o:=by
    obtain⟨o4,e4,_⟩:=z4;obtain⟨o5,e5,_⟩:=z5;simp only [Ao,Dw,or_false] at hc'
    rcases hc' with rfl | rfl | rfl | rfl | rfl
    ·exact⟨_,e4⟩
    ·exact⟨_,e5⟩
    ·exact⟨_,z2⟩
    ·exact⟨_,z3⟩
    ·exact⟨_,z1⟩
   obtain⟨o,e⟩:=this;exact Ay (Ai e)
  have I1:Inv X pins σ (upd H s.heap.objs.size (.tup [x,y])) {s with heap:=s.heap.push {cls:= .type "tuple",data:= .seq #[u1,u2]}}:=
   I.laid (t':=s.toks) (fun b o e=>Ad _ e) (Ag _) (show ObjOk X.prog X.w _ _ _ (.tup [x,y]) from⟨(by show 2<=sizeLine;decide),[u1,u2],.cons ru1 (.cons ru2 .nil),⟨_,Aj _ rfl,rfl,_,rfl⟩⟩)
  have f1:∀ c∈[m,m+1,m+2,m+3,m+4],FpOk X pins (upd H s.heap.objs.size (.tup [x,y])) c:=fun c hc'=>⟨by rw [j0e (nT c hc')];exact(hf c hc').1,(hf c hc').2⟩;have kp2:∀ c o,c∉[m,m+1,m+2,m+3,m+4]->(s.heap.push {cls:= .type "tuple",data:= .seq #[u1,u2]}).get? c=some o->h'.get? c=some o:=fun c o hc' e=>by
   rcases Heap.get?_push_cases e with ⟨ec,eo⟩ | e'
   ·rw [ec,eo];exact a5
   ·simp only [Ao,Dw,or_false,not_or] at hc';exact kp c o hc'.2.2.2.2 hc'.2.2.2.1 hc'.1 hc'.2.1 e'
  have I2:=Inv.turnedL (h':=h') (t':=s.toks) I1 f1 kp2;refine⟨_,rfl,wpAny_letOwnedTupleGo_zip (s:={s with heap:=h'}) a1 fun h2 b1 sb=>?_⟩;have z2':IsPair h' (m+2) (.ref m) (.ref (m+1)):=kp _ _ (by simp) (by simp) (by simp) (by simp) z2;have kp3:∀ c o,c∉[m+4]->h'.get? c=some o->h2.get? c=some o:=fun c o hc' e=>(sb.2 c (by simpa using hc')).trans e;have I3:=Inv.turnedL (h':=h2) (t':=s.toks) I2 (ch:=[m+4]) (fun c hc'=>f1 c (by simp at hc';simp [hc'])) kp3;refine⟨.ref s.heap.objs.size,_,I3,rfl,⟨_,x,y,hT,rfl,rfl,fun zs hz=>by rw [I.list_inj hz hxs];exact hx,fun zs hz=>by rw [I.list_inj hz hys];exact hy⟩,?_,fun c hc'=>(f1 c hc').1⟩;have sx:∀ c o,c≠m+4->h'.get? c=some o->h2.get? c=some o:=fun c o hc' e=>(sb.2 c hc').trans e;obtain⟨o3,e3,r3⟩:=a3;obtain⟨o4,e4,r4⟩:=a4;exact⟨b1,sx _ _ (by simp) z2',⟨u1,u2,sx _ _ (by simp) a2⟩,⟨o3,sx _ _ (by simp) e3,r3⟩,⟨o4,sx _ _ (by simp) e4,r4⟩⟩
 done:=by
  intro X hP hw hK hc i pins s σ H E I hf st hg;subst hP hw hK;obtain⟨xs,ys,hxs,hys,hend⟩:=hg;obtain⟨its1,rv1,p1,hz1⟩:=I.list hxs;obtain⟨its2,rv2,p2,hz2⟩:=I.list hys;have l1:=rv1.length;have l2:=rv2.length;have D:=j8y st p1.isList p2.isList;obtain⟨z1,z2,⟨x0,y0,z3⟩,z4,z5⟩:=id st;refine wpAny_pyNext_zip_end (I.ok.hd hc) D z1 z2 z3 z4 z5 p1.isList p2.isList ?_ fun h' kp=>⟨rfl,I.turnedL (t':=s.toks) (ch:=[m,m+1,m+2,m+3,m+4]) hf fun c o hc' e=>?_⟩
  ·rcases hend with h | h
   ·exact .inl (by simp;omega)
   ·exact .inr (by simp;omega)
  ·simp only [Ao,Dw,or_false,not_or] at hc';exact kp c o hc'.2.2.2.2 hc'.2.2.2.1 hc'.1 hc'.2.1 e
 self:=fun _ _ _ _ _ st h=>wpAny_pyIter_zip st.1 h
end
section
variable{X:Cx}
def iZip(K:PySem.W.Frag)(ta:TA):TI:=fun σ H R=>ta σ H fun vs H1=>∃ a b,vs=[.ref a,.ref b]/\(∃ xs,SqL K H1 a xs)/\(∃ ys,SqL K H1 b ys)/\R (Itz K a b) H1
theorem q20{elts:List Expr}{k:Nat}{tp:Pos}{a b:Expr}{ta:TA}{p pos:Pos}(hg:Gl X "zip")(hm:X.mg "zip" = none)(ha:PA X [a,b] ta)(hs:starEach [a,b] X.env=[(false,eval a X.env),(false,eval b X.env)]:=by rfl)(hs2:starEach [b] X.env=[(false,eval b X.env)]:=by rfl) :
  PI X (.Tuple elts k tp) (.Call (.Name "zip" p) [a,b] [] pos) (iZip X.K ta):=by
 intro pins s σ H R I h;refine Call_ (j47 I hg hm boot_zip (PyProof.Rows.callWith_type1 (thn (ha pos pins s σ H _ I h) fun us s1 ⟨vs,H1,I1,r1,q1⟩=>?_) (by rw [hs,hs2]) (by rw [hs2];rfl)));obtain⟨x,y,e,⟨xs,hx⟩,⟨ys,hy⟩,q⟩:=q1;subst e;obtain⟨u,v,rfl,ru,rv⟩:=r1.two;cases (show u=Value.ref x from ru);cases (show v=Value.ref y from rv);obtain⟨its1,rv1,p1,hz1⟩:=I1.list hx;obtain⟨its2,rv2,p2,hz2⟩:=I1.list hy;refine call_zip_2 p1.isList p2.isList fun h' a1 a2 a3 a4 a5 a6 kp=>?_;refine wpAny_pyIter_zip (s:={s1 with heap:=h'}) a1 ?_;refine⟨s1.heap.objs.size+4,[s1.heap.objs.size,s1.heap.objs.size+1,s1.heap.objs.size+2,s1.heap.objs.size+3,s1.heap.objs.size+4],_,_,H1,rfl,I1.kept (t':=s1.toks) kp,k57 s1.heap.objs.size x y,⟨a1,a2,⟨_,_,a3⟩,a4,a5⟩,fun b hb=>?_,q⟩;have hle:s1.heap.objs.size<=b:=by
  simp only [Ao,Dw,or_false] at hb
  rcases hb with rfl | rfl | rfl | rfl | rfl <;> omega
 exact I1.fpOk hle (I1.hok.fresh hle)
end
end L2
namespace L2
open PySem PySem.Spec PyProof.Rows
structure Clause(e:Expr)(d:Nat)(tg iter:Expr)(ifs:List Expr)(acc:Value)(env:Env)(inner:Sem Unit):Prop where
 at':(clausesOf e)[d]?=some ⟨tg,iter,ifs,0⟩
 quiet:∀ it,(Code.compLoop e d it acc env).quiet=true
 den:∀(prog:Program) (w:World) it,(model prog w).den (.compLoop e d it acc env)=(compTurn e d it acc env).onRaise (fun x=>do noteFrame x env;theTreesLotGoes x)
 und:∀(A:Around) it,A.under (.compLoop e d it acc env)=A
 denS:∀(prog:Program) (w:World) it,(model prog w).den (.compStart e d it acc env)=(compStart e d it acc env).onRaise (fun x=>do noteFrame x env;standAt theWindowsPlace)
 undS:∀(A:Around) it,A.under (.compStart e d it acc env)=A
 turn:∀ it,compTurn e d it acc env=(do
   standAt iter.pos
   match <- pyNext it with
   | none=>pure (.done .next)
   | some v=>
    letOwnedTupleGo tg it v
    assign tg env v
    let mut ok:=true
    for c in ifs do
     if ok then ok <- isTrue c env (eval c env)
    if ok then
     inner
    again (.compLoop e d it acc env))
section
variable{prog:Program}{w:World}{A:Around}{R:Result->Shared->Prop}{s:Shared}
theorem j32{e:Expr}{d:Nat}{tg iter:Expr}{ifs:List Expr}{it acc:Value}{env:Env}{inner:Sem Unit}(C:Clause e d tg iter ifs acc env inner)(I:Nat->Shared->Prop)
  (turn : ∀ n s, I n s → wpAny (model prog w) A (pyNext it) (fun r s₁ => match r with
   | none=>R (.ok .next) s₁
   | some v=>wpAny (model prog w) A (letOwnedTupleGo tg it v) (fun _ s₁'=>wpAny (model prog w) A (assign tg env v) (fun _ s₂=>
     wpAny (model prog w) A (forIn ifs true fun c r=>if r=true then do let ok <- isTrue c env (eval c env);pure (ForInStep.yield ok) else pure (ForInStep.yield r)) (fun ok s₃=>
      if ok=true then wpAny (model prog w) A inner (fun _ s₄=>∃ m,m < n/\I m s₄) (notedBy (model prog w) A env fun e s'=>R (.error e) s') s₃
      else ∃ m,m < n/\I m s₃) (notedBy (model prog w) A env fun e s'=>R (.error e) s') s₂) (notedBy (model prog w) A env fun e s'=>R (.error e) s') s₁') (notedBy (model prog w) A env fun e s'=>R (.error e) s') s₁) (notedBy (model prog w) A env fun e s'=>R (.error e) s') s)
  (n:Nat) (h:I n s) :
  codeAny (model prog w) A (.compLoop e d it acc env) R s:=by
 refine codeAny_loop (C.quiet it) I (fun n s hI=>?_) n h;rw [C.und,C.den];refine wpAny_noted ?_;rw [C.turn];refine wpAny_bind (wpAny_standAt (wpAny_bind (wpAny_mono (turn n s hI) (fun r s₁ h₁=>?_) fun _ _ h'=>h')));cases r with
 | none=>exact wpAny_pure h₁
 | some v=>
  refine wpAny_bind (wpAny_mono h₁ (fun _ s₁' h₁'=>?_) fun _ _ h'=>h');refine wpAny_bind (wpAny_mono h₁' (fun _ s₂ h₂=>wpAny_bind (wpAny_mono h₂ (fun ok s₃ h₃=>?_) fun _ _ h'=>h')) fun _ _ h'=>h');cases ok with
  | false=>exact wpAny_pure ⟨rfl,h₃⟩
  | true=>exact wpAny_bind (wpAny_mono h₃ (fun _ s₄ h₄=>wpAny_pure ⟨rfl,h₄⟩) fun _ _ h'=>h')
theorem j3d{e:Expr}{d:Nat}{tg iter:Expr}{ifs:List Expr}{it acc:Value}{env:Env}{inner:Sem Unit}(C:Clause e d tg iter ifs acc env inner)
  (h0:codeAny (model prog w) A (.compLoop e d it acc env) R s)
  (h:wpAny (model prog w) A (pyIter it) (fun it' s'=>codeAny (model prog w) A (.compLoop e d it' acc env) R s') (notedBy (model prog w) A env fun x s'=>R (.error x) s') s) :
  codeAny (model prog w) A (.compStart e d it acc env) R s:=by
 refine codeAny_of_tree ?_;rw [C.undS,C.denS];refine wpAny_notedAt ?_;unfold compStart;rw [C.at'];show wpAny _ _ (ask >>= _) _ _ s;refine wpAny_bind (wpAny_askSetting (wpAny_ite ?_))
 split
 ·first
   | exact wpAny_bind (wpAny_pure (wpAny_pure (And.intro (C.quiet _) h0)))
   | exact wpAny_pure (And.intro (C.quiet _) h0)
 ·first
   | exact wpAny_bind (wpAny_rule (wpAny_bind (wpAny_standAt (wpAny_bind (wpAny_mono h (fun it' s' h'=>wpAny_pure (And.intro (C.quiet _) h')) fun _ _ x=>x)))))
   | (refine wpAny_bind (wpAny_rule ?_);show wpAny _ _ (standAt iter.pos >>= _) _ _ s;exact wpAny_bind (wpAny_standAt (wpAny_bind (wpAny_mono h (fun it' s' h'=>wpAny_pure (And.intro (C.quiet _) h')) fun _ _ x=>x))))
end
structure Ein(X:Cx)(m:Sem Unit)(σ:St)(H:Hp)(Q:St->Hp->Prop):Prop where
 run:∀(pins:List (Addr×Obj)) (s:Shared),Inv X pins σ H s->wpAny (model X.prog X.w) X.A m (fun _ s'=>∃ σ' H',Inv X pins σ' H' s'/\Q σ' H') X.xe s
def j2m(X:Cx)(tg:Expr)(ifs:List Expr)(inner:Sem Unit)(J:It)(after:St->Hp->Prop)(σ:St)(H:Hp):Prop:=
 ∃ W:Nat->Nat->St->Hp->Prop,(∃ m,W 0 m σ H)/\∀ i m σ' H',W i m σ' H' ->
  (J.stop i H' ∧ after σ' H') ∨ (J.go i H' ∧ ∃ N : St → Hp → Prop, (∀ σ' H', N σ' H' → ∃ m', m' < m ∧ W (i + 1) m' σ' H') ∧ ∀ x H2, J.yld i H' x H2 → Eg X tg x σ' H2 fun σ2 H3 => Ei X ifs σ2 H3 fun b H4 =>
   if b=true then Ein X inner σ2 H4 N else N σ2 H4)
theorem j4d{X:Cx}(hxe:X.xe=fun _ _=>False)(hc:X.calm=true){e:Expr}{d:Nat}{tg iter:Expr}{ifs:List Expr}{acc:Value}{inner:Sem Unit}(C:Clause e d tg iter ifs acc X.env inner){pins:List (Addr×Obj)}{σ:St}{H:Hp}{s:Shared}
  {it:Addr} {fp:List Addr} {tn:Nat->Heap->Prop} {J:It} {after:St->Hp->Prop} {R:Result->Shared->Prop} (I:Inv X pins σ H s) (T:Turn X.prog X.w X.K tg J fp it tn) (st:tn 0 s.heap) (hf:∀ b∈fp,FpOk X pins H b) (h:j2m X tg ifs inner J after σ H)
  (hR:∀ σ' H' s',Inv X pins σ' H' s'->after σ' H'->R (.ok .next) s') :
  codeAny (model X.prog X.w) X.A (.compStart e d (.ref it) acc X.env) R s:=by
 obtain⟨W,⟨m0,w0⟩,turn⟩:=h;have stat:∀{H':Hp},(∀ b∈fp,H' b=none)->∀ b∈fp,FpOk X pins H' b:=fun hn b hb=>⟨hn b hb,(hf b hb).2⟩;have loop:codeAny (model X.prog X.w) X.A (.compLoop e d (.ref it) acc X.env) R s:=by
  refine j32 C (fun k s'=>∃ i σ' H',Inv X pins σ' H' s'/\tn i s'.heap/\(∀ b∈fp,H' b=none)/\W i k σ' H') ?_ m0 ⟨0,σ,H,I,st,fun b hb=>(hf b hb).1,w0⟩;rintro k s4 ⟨i,σ4,H4,J4,st4,fr4,w4⟩
  rcases turn i k σ4 H4 w4 with ⟨stop,qn⟩ | ⟨go,N,hN,step⟩
  ·have d1:=T.done X rfl rfl rfl hc i pins s4 σ4 H4 (fun _ _=>False) J4 (stat fr4) st4 stop;refine thnF d1 fun r s5 ⟨hr,I5⟩=>?_;subst hr;exact hR _ _ _ I5 qn
  ·have d1:=T.item X rfl rfl rfl hc i pins s4 σ4 H4 (fun _ _=>False) J4 (stat fr4) st4 go;refine thnF d1 fun r s5 ⟨u,hr,h5⟩=>?_;subst hr;refine thnF h5 fun _ s6 ⟨x,H6,I6,r6,y6,st6,fr6⟩=>?_;have I6':=I6.pinned (stat fr6) (T.obj _ _ st6);have again:∀{σ7:St} {H7:Hp} {s7:Shared},Inv X (pins++j5a fp s6.heap) σ7 H7 s7->N σ7 H7->∃ m,m < k/\∃ i σ' H',Inv X pins σ' H' s7/\tn i s7.heap/\(∀ b∈fp,H' b=none)/\W i m σ' H':=fun{σ7 H7 s7} I7 n7=>by
    obtain⟨m',hm,w7⟩:=hN σ7 H7 n7;refine⟨m',hm,i+1,σ7,H7,I7.unpinned,T.keep _ _ _ st6 fun b hb o e=>(I7.pin (b,o) (As _ (As _ (j1j hb e)))).1,fun b hb=>?_,w7⟩;obtain⟨o,e,d⟩:=T.obj _ _ st6 b hb;exact(I7.pin (b,o) (As _ (As _ (j1j hb e)))).2.1
   have a1:=(step x H6 y6).run _ s6 u I6' r6;rw [hxe] at a1;refine thnF a1 fun _ s7 ⟨σ7,H7,I7,q7⟩=>?_;have a2:=q7.run _ s7 I7;rw [hxe] at a2;refine thnF a2 fun ok s8 ⟨H8,I8,q8⟩=>?_;cases ok with
   | false=>
    rw [if_neg Ak] at q8 ⊢;exact again I8 q8
   | true=>
    rw [if_pos rfl] at q8 ⊢;have a3:=q8.run _ s8 I8;rw [hxe] at a3;exact thnF a3 fun _ s9 ⟨σ9,H9,I9,q9⟩=>again I9 q9
 exact j3d C loop (T.self _ 0 _ _ _ st loop)
end L2
namespace L2
open PySem PySem.Spec PyProof.Rows
theorem j2u{X:Cx}{e:Expr}{tg iter:Expr}{ifs:List Expr}{scope:Scope}{N':List Str}{newAcc:Sem Value}{o0:Obj}{u0:Addr->HO}{n:Nat}{inner:Value->Env->Sem Unit}{pins:List (Addr×Obj)}{σ:St}{H2:Hp}{s2:Shared}{E:Value->Shared->Prop}{RR:Value->Addr->Result->Shared->Prop}{it:Addr}{fp:List Addr}{tn:Nat->Heap->Prop}{J:It}{Q:VK}
  (hnew:∀(Q:Value->Shared->Prop) (E:Value->Shared->Prop) (s:Shared),Q (.ref s.heap.objs.size) {s with heap:=s.heap.push o0}->wpAny (model X.prog X.w) X.A newAcc Q E s) (hobj:∀(H:Hp) (h:Heap),sysModules < h.objs.size->ObjOk X.prog X.w H (h.push o0) h.objs.size (u0 h.objs.size))
  (hc:X.calm=true) (ck:CompOk X.env.scope scope X.N N') (hl:N'.length=X.N.length+n) (hC:∀ acc env,Clause e 0 tg iter ifs acc env (inner acc env))
  (I2:Inv X pins σ H2 s2) (T:Turn X.prog X.w X.K tg J fp it tn) (st2:tn 0 s2.heap) (f2:∀ b∈fp,FpOk X pins H2 b)
  (q:∀ D,H2 D=none->∀ cl C s₀ H₀ ex,j2m (j01 X N' scope cl C s₀ H₀ ex) tg ifs (inner (.ref D) (compEnvC scope cl C X.env)) J (fun _ H'=>Q (.ref D) H') (σ++List.replicate n none) (upd H2 D (u0 D)))
  (hRR:∀ D C H' s' m,Inv X pins σ H' s'->s'.heap.Ns C m->H' C=none->C≠X.env.locals->X.s₀.heap.objs.size<=C->(∀ x c,X.env.cells.lookup x=some c->c≠C)->(∀ p∈X.pn++pins,p.1≠C)->Q (.ref D) H'->RR (.ref D) C (.ok .next) s') :
  wpAny (model X.prog X.w) X.A newAcc (fun acc s₃=>wpAny (model X.prog X.w) X.A (newFunctionEnv scope X.env.globals (j0w scope.names X.env.cells []) [] X.env.qual none .none (some X.env)) (fun cenv s₄=>
   codeAny (model X.prog X.w) X.A (.compStart e 0 (.ref it) acc {cenv with scope:=relabel scope X.env}) (RR acc cenv.locals) s₄) E s₃) E s2:=by
 refine hnew _ _ _ (wpAny_newFunctionEnv ck.cell (by intro y hy;simp at hy) (fun h₁ hns₁ hsb₁=>?_) ck.kind);have hD:H2 s2.heap.objs.size=none:=I2.hok.fresh (Ag _);have q0:=q s2.heap.objs.size hD (j0w scope.names X.env.cells []);have fl:∀ b∈fp,b < s2.heap.objs.size:=fun b hb=>by
  obtain⟨o,e,_⟩:=T.obj 0 _ st2 b hb;exact Ai e
 have I3:Inv X pins σ (upd H2 s2.heap.objs.size (u0 s2.heap.objs.size)) {s2 with heap:=s2.heap.push o0}:=
  I2.laid (t':=s2.toks) (fun b o e=>Ad _ e) (Ag _) (hobj _ _ I2.big)
 generalize hs3:({s2 with heap:=s2.heap.push o0}:Shared)=s3 at I3 hns₁ hsb₁ ⊢;have hz3:s3.heap.objs.size=s2.heap.objs.size+1:=by rw [<- hs3];exact Ch ..
 have old2:∀ b o,s2.heap.get? b=some o->s3.heap.get? b=some o:=fun b o e=>by rw [<- hs3];exact Ad _ e
 have old:∀ b o,s3.heap.get? b=some o->h₁.get? b=some o:=fun b o e=>
  hsb₁.extBut b o (Ay (Ai e)) (Ad _ e)
 have f3:∀ b∈fp,FpOk X pins (upd H2 s2.heap.objs.size (u0 s2.heap.objs.size)) b/\b < s3.heap.objs.size:=fun b hb=>by
  refine⟨⟨?_,(f2 b hb).2⟩,by rw [hz3];exact Bu (fl b hb)⟩;rw [j0e (Ay (fl b hb))];exact(f2 b hb).1
 have I4:=fun(t':Nat)=>j7e (N':=N') (scope:=scope) (n:=n) (fp:=fp) (h₁:=h₁) (t':=t') I3 ck hl hns₁ old f3;generalize hX:j01 X N' scope (j0w scope.names X.env.cells []) s3.heap.objs.size s3 (upd H2 s2.heap.objs.size (u0 s2.heap.objs.size)) fp=X' at I4;have eP:X'.prog=X.prog:=by rw [<- hX];rfl
 have ew:X'.w=X.w:=by rw [<- hX];rfl
 have eK:X'.K=X.K:=by rw [<- hX];rfl
 have eA:X'.A=X.A:=by rw [<- hX];rfl
 have eE:X'.env=compEnvC scope (j0w scope.names X.env.cells []) s3.heap.objs.size X.env:=by rw [<- hX];rfl
 have ec:X'.calm=true:=by rw [<- hX];exact hc
 have ex':X'.xe=fun _ _=>False:=by rw [<- hX];rfl
 have stat:∀{H':Hp},(∀ b∈fp,H' b=none)->∀ b∈fp,FpOk X' [] H' b:=fun hn b hb=>by
  refine⟨hn b hb,?_,?_,?_,?_,?_⟩
  ·rw [eE];exact Ay (f3 b hb).2
  ·rw [<- hX];intro hf
   rcases Ao.mp (I3.stkSub b hf) with z | z
   ·exact(f3 b hb).1.2.1 z
   ·exact(f3 b hb).1.2.2.1 z
  ·rw [<- hX];exact .inl hb
  ·rw [eE];intro x c e;exact(f3 b hb).1.2.2.2.2.1 x c (j17 _ _ _ (fun _ _ z=>by simp at z) x c (PySem.mem_of_lookup e))
  ·rw [<- hX];intro p hp;exact absurd hp (by simp [j01])
 have fin:∀{σ':St} {H':Hp} {s':Shared},Inv X' [] σ' H' s'->Q (.ref s2.heap.objs.size) H'->RR (.ref s2.heap.objs.size) s3.heap.objs.size (.ok .next) s':=fun{σ' H' s'} I' q'=>by
  obtain⟨m',hn',_⟩:=id I'.loc;rw [eE] at hn';have hos:s'.os=s3.os:=by have:=I'.os;rw [<- hX] at this;exact this
  have hun:Un (frs X.stack) fp (upd H2 s2.heap.objs.size (u0 s2.heap.objs.size)) H' s3.heap s'.heap:=by have:=I'.base;rw [<- hX] at this;exact this
  have hok:HOk X.prog X.w H' s'.heap:=by have:=I'.hok;rw [eP,ew] at this;exact this
  have IX:Inv X pins σ H' s':=I3.call' (ch:=fp) hos hun hok I'.bare fun b hb=>⟨(f3 b hb).1.2.2.2.1,(f3 b hb).1.2.1,(f3 b hb).1.2.2.2.2.1,(f3 b hb).1.2.2.2.2.2⟩;have hfr:=I'.free;rw [eE] at hfr;refine hRR _ _ H' s' m' IX hn' hfr (Cd I3.lt) I3.sz (fun x c e z=>?_) (fun p hp z=>?_) q'
  ·obtain⟨v,o,ho,_⟩:=I3.cell x c e;exact absurd (Ai ho) (by rw [z];exact Bo _)
  ·exact absurd (Ai (I3.pin p hp).1) (by rw [z];exact Bo _)
 have fs0:∀ b∈fp,FpOk X' [] (upd H2 s2.heap.objs.size (u0 s2.heap.objs.size)) b:=stat fun b hb=>(f3 b hb).1.1;have q1:j2m X' tg ifs (inner (.ref s2.heap.objs.size) X'.env) J (fun _ H'=>Q (.ref s2.heap.objs.size) H') (σ++List.replicate n none) (upd H2 s2.heap.objs.size (u0 s2.heap.objs.size)):=by
  rw [eE,<- hX];exact q0 _ _ _ _
 have T':Turn X'.prog X'.w X'.K tg J fp it tn:=by rw [eP,ew,eK];exact T
 have fin2:=j4d (s:={s3 with heap:=h₁,toks:=s3.toks}) ex' ec (hC (.ref s2.heap.objs.size) X'.env) (I4 s3.toks) T' (T.keep 0 _ _ st2 fun b _ o e=>old b o (old2 b o e)) fs0 q1 (R:=RR (.ref s2.heap.objs.size) s3.heap.objs.size) fun σ' H' s' I' a'=>fin I' a';rw [eP,ew,eA,eE] at fin2;exact fin2
end L2
namespace L2
open PySem PySem.Spec PyProof.Rows
def k1v(elt t1 i1:Expr)(f1:List Expr)(t2 i2:Expr)(f2:List Expr)(scope:Scope)(pos:Pos)(acc:Value)(env:Env):Sem Unit:=do
 let x <- eval i2 env
 standAt i2.pos
 let x <- foldedSetIterable i2 env x
 let _ <- runOwn (.compStart (.ListComp elt [⟨t1,i1,f1,0⟩,⟨t2,i2,f2,0⟩] scope pos) 1 (<- holding [x] (pyIter x)) acc env) env
def emit(elt:Expr)(acc:Value)(env:Env):Sem Unit:=do let _ <- call (.builtin "list.append") [acc,<- eval elt env]
section
variable{X:Cx}{elt t1 i1 t2 i2:Expr}{f1 f2:List Expr}{scope:Scope}{pos:Pos}{σ:St}{H:Hp}{acc:Value}{env:Env}
theorem q0f:Clause (.ListComp elt [⟨t1,i1,f1,0⟩,⟨t2,i2,f2,0⟩] scope pos) 0 t1 i1 f1 acc env (k1v elt t1 i1 f1 t2 i2 f2 scope pos acc env):=⟨rfl,fun _=>rfl,fun _ _ _=>rfl,fun _ _=>rfl,fun _ _ _=>rfl,fun _ _=>rfl,fun it=>by
 unfold k1v;simp only [bind_assoc,pure_bind];rfl⟩
theorem q1c:Clause (.ListComp elt [⟨t1,i1,f1,0⟩,⟨t2,i2,f2,0⟩] scope pos) 1 t2 i2 f2 acc env (emit elt acc env):=⟨rfl,fun _=>rfl,fun _ _ _=>rfl,fun _ _=>rfl,fun _ _ _=>rfl,fun _ _=>rfl,fun _=>rfl⟩
theorem k7h{D:Addr}{Q:St->Hp->Prop} (h:Ev X elt σ H fun v H1=>∃ ys,H1 D=some (.lst ys)/\ys.length < sizeLine/\Q σ (upd H1 D (.lst (ys++[v])))):Ein X (emit elt (.ref D) X.env) σ H Q:=by
 refine⟨fun pins s I=>?_⟩;unfold emit;refine wpAny_bind (thn (h.run pins s I) fun v s1 ⟨x,H1,I1,r1,ys,hy,hz,q⟩=>?_);refine wpAny_bind (thn (j3p (X:=X) _ s1 σ H1 (.ref D) [x] (.ref D) [v] (fun _ H'=>Q σ H') I1 rfl (.cons r1 .nil) ⟨_,ys,x,rfl,rfl,hy,hz,q⟩) fun _ s2 ⟨_,H2,I2,_,q2⟩=>wpAny_pure ⟨σ,H2,I2,q2⟩)
theorem k70{wi:TI}{Q:St->Hp->Prop}(hxe:X.xe=fun _ _=>False)(hc:X.calm=true)(hi:PI X t2 i2 wi)(h:wi σ H fun J H1=>j2m X t2 f2 (emit elt acc X.env) J Q σ H1)
  (hs:∀ x,foldedSetIterable i2 X.env x=pure x:=by intro _;rfl):Ein X (k1v elt t1 i1 f1 t2 i2 f2 scope pos acc X.env) σ H Q:=by
 refine⟨fun pins s I=>?_⟩;unfold k1v;refine wpAny_bind (thn (hi pins s σ H _ I h) fun x s1 h1=>?_);refine wpAny_bind (wpAny_standAt (wpAny_bind (wpAny_of_eq (hs x) (wpAny_bind (wpAny_holding (wpAny_mono h1 (fun itv s2 h2=>?_) fun _ _ e=>e))))));obtain⟨it,fp,tn,J,H2,e,I2,T,st2,f2',q⟩:=h2;subst e;refine wpAny_bind (wpAny_runOwn (Q:=fun _ s'=>wpAny (model X.prog X.w) X.A (pure ()) (fun _ s'=>∃ σ' H',Inv X pins σ' H' s'/\Q σ' H') X.xe s') ?_);exact j4d hxe hc q1c I2 T st2 f2' q fun σ' H' s' I' q'=>wpAny_pure ⟨σ',H',I',q'⟩
theorem k53{wi:TI}{Q:VK}(sc:Scope)(N N':List Str)(n:Nat)(hi:PI X t1 i1 wi)
  (h:wi σ H fun J H1=>∀ D,H1 D=none->∀ cl C s₀ H₀ ex,j2m (j01 X N' scope cl C s₀ H₀ ex) t1 f1 (k1v elt t1 i1 f1 t2 i2 f2 scope pos (.ref D) (compEnvC scope cl C X.env)) J (fun _ H'=>Q (.ref D) H') (σ++List.replicate n none) (upd H1 D (.lst [])))
  (hc:X.calm=true:=by rfl) (hsc:X.env.scope=sc:=by rfl) (hN:X.N=N:=by rfl) (hk:j3i sc scope N N'=true:=by decide +kernel) (hl:N'.length=N.length+n:=by rfl)
  (hs:∀ x,foldedSetIterable i1 X.env x=pure x:=by intro _;rfl):Ev X (.ListComp elt [⟨t1,i1,f1,0⟩,⟨t2,i2,f2,0⟩] scope pos) σ H Q:=by
 refine⟨fun pins s I=>?_⟩;subst hsc hN;have ck:=CompOk.of hk;rw [eval_ListComp];refine wpAny_comprehension_free (use:=none) rfl hs (j18 fun x hx hf=>I.ok.has x.1 (ck.free x hx hf)) ck.kind ck.names (thn (hi pins s σ H _ I h) fun v s1 h1=>thn h1 fun itv s2 h2=>?_);obtain⟨it,fp,tn,J,H2,e,I2,T,st2,f2',q⟩:=h2;subst e;refine j2u (e:= .ListComp elt [⟨t1,i1,f1,0⟩,⟨t2,i2,f2,0⟩] scope pos) (newAcc:=newList []) (o0:={cls:= .type "list",dict:=none,data:= .seq ([]:List Value).toArray}) (u0:=fun _=> .lst []) (fun _ _ _ h=>wpAny_newObj_type h (by show(0:Nat)<=sizeLine;exact Bi _)) (fun _ _ _=>⟨Bi _,[],0,.nil,Aj _ rfl⟩) (Q:=Q) (RR:=fun acc C=>compPost (model X.prog X.w) X.A X.xe none (EP X pins σ Q) acc C) hc ck hl (inner:=k1v elt t1 i1 f1 t2 i2 f2 scope pos) (fun _ _=>q0f) I2 T st2 f2' q ?_;intro D C H' s' m IX hn hC c1 c2 c3 c4 qq;exact⟨m,hn,fun h' hs'=>⟨.ref D,H',IX.turned (t':=s'.toks) (fun b o hb e=>hs'.extBut b o hb e) hC (Ne.symm (Ne.symm c1)) (.inr c2) c3 c4,rfl,qq⟩⟩
end
end L2
namespace L2
open PySem PySem.Spec PyProof.Rows
section
variable{X:Cx}{pins:List (Addr×Obj)}{σ:St}{H:Hp}{s:Shared}{a:Addr}{y v:V}{u r:Value}{A:Around}{E:Value->Shared->Prop}
theorem k3e{H':Hp}{Q:Unit->Shared->Prop}(hu:A.units+1 < cLine)(I:Inv X pins σ H s)(g:DPut H a y v H')(ry:RelV y u)(rv:RelV v r)(h:∀ s',Inv X pins σ H' s'->Q () s') :
  wpAny (model X.prog X.w) A (dictSet a u r) Q E s:=by
 rcases g with ⟨kvs,k,e,ey,l,eH⟩ | ⟨kvs,k,b,e,ey,eb,l,eH⟩
 ·subst ey eH;obtain⟨z,hd,vs,rel,dd⟩:=k92 I.hok e;have hz:vs.length<=sizeLine:=by rw [<- rel.length];exact z
  have hl:(putK kvs k v).length<=sizeLine:=by have:=j09 kvs k v;omega
  refine wpAny_dictSet_pairs (hsz:=hz) (j9p ry) dd fun h' dd' hs=>h _ ?_;have he:∃ q,h'.get? a=some q:=let ⟨q,_,_,hq,_⟩:=dd';⟨q,hq⟩
  exact j3m I (by rw [e];exact True.intro) hs he (k2w hl hd (rel.put k rv) dd')
 ·subst ey eH;cases (show u=Value.ref b from ry);obtain⟨z,hd,xs,rel,dd⟩:=q3j I.hok e;have hz:xs.length<=sizeLine:=by rw [<- Paired.length rel];exact z
  have hl:(putK kvs k v).length<=sizeLine:=by have:=j09 kvs k v;omega
  have room:(tupleKind (j0r X.prog X.w)).room A:=by first | exact hu | exact Nat.lt_of_succ_lt hu | exact Nat.lt_of_le_of_lt (Eh _) hu
  refine wpAny_dictSet_heap (hsz:=hz) room (j4j I.hok eb) dd fun h' dd' hs=>h _ ?_;obtain⟨q,es,ep,hq,h2,h3,h4,_,h5⟩:=dd';refine j3m I (by rw [e];exact True.intro) hs ⟨q,hq⟩ ⟨hl,hd,_,(rel.put k eb rv).keeps fun c ys ec=>?_,q,es,ep,hq,h2,h3,h4,h5⟩;rw [j0e (j11 ec e (fun z=>nomatch z))];exact ec
end
def k2l(k v:Expr)(acc:Value)(env:Env):Sem Unit:=do
 let kv <- eval k env
 let vv <- holding [kv] (eval v env)
 match acc with
 | .ref d=>do
  standAt {k.pos with endLine:=v.pos.endLine,endCol:=v.pos.endCol}
  holding [kv,vv] (dictSet d kv vv)
 | _=>unsupported "internal:dictcomp"
section
variable{X:Cx}{k v t1 i1 t2 i2:Expr}{f1 f2:List Expr}{scope:Scope}{pos:Pos}{σ:St}{H:Hp}{acc:Value}{env:Env}
theorem k89:Clause (.DictComp k v [⟨t1,i1,f1,0⟩] scope pos) 0 t1 i1 f1 acc env (k2l k v acc env):=⟨rfl,fun _=>rfl,fun _ _ _=>rfl,fun _ _=>rfl,fun _ _ _=>rfl,fun _ _=>rfl,fun it=>by
 unfold k2l;cases acc <;> first | rfl | (simp only [bind_assoc,pure_bind];rfl)⟩
theorem k5k{D:Addr}{Q:St->Hp->Prop}(hu:X.A.units+1 < cLine)(h:Ev X k σ H fun y H1=>Ev X v σ H1 fun x H2=>∃ H3,DPut H2 D y x H3/\Q σ H3):Ein X (k2l k v (.ref D) X.env) σ H Q:=by
 refine⟨fun pins s I=>?_⟩;unfold k2l;refine wpAny_bind (thn (h.run pins s I) fun kv s1 ⟨y,H1,I1,r1,h1⟩=>?_);refine wpAny_bind (wpAny_holding (thn (h1.run pins s1 I1) fun vv s2 ⟨x,H2,I2,r2,H3,dp,q⟩=>?_));show wpAny _ _ (standAt _ >>= fun _=>holding [kv,vv] (dictSet D kv vv)) _ _ _;exact wpAny_bind (wpAny_standAt (wpAny_holding (k3e hu I2 dp r1 r2 fun s' I'=>⟨σ,H3,I',q⟩)))
theorem k2z{wi:TI}{Q:VK}(sc:Scope)(N N':List Str)(n:Nat)(hi:PI X t1 i1 wi)
  (h:wi σ H fun J H1=>∀ D,H1 D=none->∀ cl C s₀ H₀ ex,j2m (j01 X N' scope cl C s₀ H₀ ex) t1 f1 (k2l k v (.ref D) (compEnvC scope cl C X.env)) J (fun _ H'=>Q (.ref D) H') (σ++List.replicate n none) (upd H1 D (.dT [])))
  (hc:X.calm=true:=by rfl) (hsc:X.env.scope=sc:=by rfl) (hN:X.N=N:=by rfl) (hk:j3i sc scope N N'=true:=by decide +kernel) (hl:N'.length=N.length+n:=by rfl)
  (hs:∀ x,foldedSetIterable i1 X.env x=pure x:=by intro _;rfl):Ev X (.DictComp k v [⟨t1,i1,f1,0⟩] scope pos) σ H Q:=by
 refine⟨fun pins s I=>?_⟩;subst hsc hN;have ck:=CompOk.of hk;show wpAny _ _ (comprehension (.DictComp k v [⟨t1,i1,f1,0⟩] scope pos) scope X.env (firstIterPos [⟨t1,i1,f1,0⟩] pos) newDict (firstAsync [⟨t1,i1,f1,0⟩]) (firstIter [⟨t1,i1,f1,0⟩] X.env)) _ _ _;refine wpAny_comprehension_free (use:=none) rfl hs (j18 fun x hx hf=>I.ok.has x.1 (ck.free x hx hf)) ck.kind ck.names (thn (hi pins s σ H _ I h) fun xv s1 h1=>thn h1 fun itv s2 h2=>?_);obtain⟨it,fp,tn,J,H2,e,I2,T,st2,f2',q⟩:=h2;subst e;refine j2u (e:= .DictComp k v [⟨t1,i1,f1,0⟩] scope pos) (newAcc:=newDict) (o0:={cls:= .type "dict",data:= .dict #[]}) (u0:=fun _=> .dT []) (fun _ _ _ h=>wpAny_newObj_type h) (fun _ h hb=>k0x h hb) (Q:=Q) (RR:=fun acc C=>compPost (model X.prog X.w) X.A X.xe none (EP X pins σ Q) acc C) hc ck hl (inner:=k2l k v) (fun _ _=>k89) I2 T st2 f2' q ?_;intro D C H' s' m IX hn hC c1 c2 c3 c4 qq;exact⟨m,hn,fun h' hs'=>⟨.ref D,H',IX.turned (t':=s'.toks) (fun b o hb e=>hs'.extBut b o hb e) hC (Ne.symm (Ne.symm c1)) (.inr c2) c3 c4,rfl,qq⟩⟩
end
end L2
namespace L2
open PySem PySem.Spec PyProof.Rows SetT
theorem k7v{prog:Program}{w:World}{A:Around}{E:Value->Shared->Prop}{s:Shared}{a:Addr}{zs:List Str}{z:Str}{tk:Tok}{Q:Value->Shared->Prop}(S:SetAt prog w s.heap a zs)(hb:zs.length+1 < 1000)
  (h:∀ h',Heap.SameBut a s.heap h'->SetAt prog w h' a (added zs z)->Q .none {s with heap:=h',toks:=s.toks+1}) :
  wpAny (model prog w) A (call (.builtin "set.add") [.ref a,.str z tk]) Q E s:=by
 have hT:s.TypeIs (.ref a) "set":=let ⟨o,_,_,_,ho,hx,_⟩:=S;⟨o,ho,hx.1⟩
 refine wpAny_call_entry F.slot_set_add hT F.entry_set_add ?_ (F.args_set_add_2 _ _);unfold Builtin.«set.add» Builtin.Frozenset.oneOther;simp only [Fb,bind_assoc];unfold Builtin.Frozenset.addrOf setAdd;refine wpAny_bind (wpAny_pure ?_)
 try dsimp only
 refine wpAny_bind (wpAny_pure ?_)
 try dsimp only
 refine wpAny_bind ?_;refine wpAny_holding ?_;refine wpAny_bind ((PySem.strKind prog w).pyHash (k:=z) (v:= .str z tk) (by simp [PySem.strKind,Value.isStrOf]) ?_);refine q31 (s:={s with toks:=s.toks+1}) S hb fun b h' sb S'=>?_;show wpAny _ _ (ret Value.none) _ _ _;exact wpAny_pure ⟨_,rfl,h h' sb S'⟩
theorem k88{prog:Program}{w:World}{A:Around}{E:Value->Shared->Prop}{s:Shared}{Q:Value->Shared->Prop}(k:Q (.ref s.heap.objs.size) {s with heap:=s.heap.push (j46 w)}):wpAny (model prog w) A (newSet (.type "set")) Q E s:=by
 unfold newSet;refine wpAny_bind (wp_text ?_)
 dsimp only
 simp only [newObj];exact wpAny_bind (wpAny_alloc (wpAny_pure k))
def k28(elt:Expr)(acc:Value)(env:Env):Sem Unit:=do let v <- eval elt env;standAt elt.pos;let _ <- call (.builtin "set.add") [acc,v]
def k2h(elt t1 i1:Expr)(f1:List Expr)(t2 i2:Expr)(f2:List Expr)(scope:Scope)(pos:Pos)(acc:Value)(env:Env):Sem Unit:=do
 let x <- eval i2 env
 standAt i2.pos
 let x <- foldedSetIterable i2 env x
 let _ <- runOwn (.compStart (.SetComp elt [⟨t1,i1,f1,0⟩,⟨t2,i2,f2,0⟩] scope pos) 1 (<- holding [x] (pyIter x)) acc env) env
section
variable{X:Cx}{elt t1 i1 t2 i2:Expr}{f1 f2:List Expr}{scope:Scope}{pos:Pos}{σ:St}{H:Hp}{acc:Value}{env:Env}
theorem k7d:Clause (.SetComp elt [⟨t1,i1,f1,0⟩,⟨t2,i2,f2,0⟩] scope pos) 0 t1 i1 f1 acc env (k2h elt t1 i1 f1 t2 i2 f2 scope pos acc env):=⟨rfl,fun _=>rfl,fun _ _ _=>rfl,fun _ _=>rfl,fun _ _ _=>rfl,fun _ _=>rfl,fun it=>by
 unfold k2h;simp only [bind_assoc,pure_bind];rfl⟩
theorem k8a:Clause (.SetComp elt [⟨t1,i1,f1,0⟩,⟨t2,i2,f2,0⟩] scope pos) 1 t2 i2 f2 acc env (k28 elt acc env):=⟨rfl,fun _=>rfl,fun _ _ _=>rfl,fun _ _=>rfl,fun _ _ _=>rfl,fun _ _=>rfl,fun it=>by
 unfold k28
 first | rfl | (simp only [bind_assoc,pure_bind];rfl)⟩
theorem k4k{D:Addr}{Q:St->Hp->Prop} (h:Ev X elt σ H fun v H1=>∃ z zs,v = .str z/\H1 D=some (SetO X.prog X.w D zs)/\zs.length+1 < 1000/\Q σ (upd H1 D (SetO X.prog X.w D (added zs z)))):Ein X (k28 elt (.ref D) X.env) σ H Q:=by
 refine⟨fun pins s I=>?_⟩;unfold k28;refine wpAny_bind (thn (h.run pins s I) fun v s1 ⟨x,H1,I1,r1,z,zs,e,hD,hl,q⟩=>?_);subst e;obtain⟨tk,rfl⟩:=r1;refine wpAny_bind (wpAny_standAt (wpAny_bind (k7v (I1.set hD) hl fun h' sb S'=>wpAny_pure ⟨σ,_,j3m (t':=s1.toks+1) I1 (by rw [hD];exact True.intro) sb ?_ (k4x S'),q⟩)));obtain⟨o,_,_,_,ho,_⟩:=S';exact⟨o,ho⟩
theorem k2u{wi:TI}{Q:St->Hp->Prop}(hxe:X.xe=fun _ _=>False)(hc:X.calm=true)(hi:PI X t2 i2 wi)(h:wi σ H fun J H1=>j2m X t2 f2 (k28 elt acc X.env) J Q σ H1)
  (hs:∀ x,foldedSetIterable i2 X.env x=pure x:=by intro _;rfl):Ein X (k2h elt t1 i1 f1 t2 i2 f2 scope pos acc X.env) σ H Q:=by
 refine⟨fun pins s I=>?_⟩;unfold k2h;refine wpAny_bind (thn (hi pins s σ H _ I h) fun x s1 h1=>?_);refine wpAny_bind (wpAny_standAt (wpAny_bind (wpAny_of_eq (hs x) (wpAny_bind (wpAny_holding (wpAny_mono h1 (fun itv s2 h2=>?_) fun _ _ e=>e))))));obtain⟨it,fp,tn,J,H2,e,I2,T,st2,f2',q⟩:=h2;subst e;refine wpAny_bind (wpAny_runOwn (Q:=fun _ s'=>wpAny (model X.prog X.w) X.A (pure ()) (fun _ s'=>∃ σ' H',Inv X pins σ' H' s'/\Q σ' H') X.xe s') ?_);exact j4d hxe hc k8a I2 T st2 f2' q fun σ' H' s' I' q'=>wpAny_pure ⟨σ',H',I',q'⟩
theorem k44{wi:TI}{Q:VK}(sc:Scope)(N N':List Str)(n:Nat)(hi:PI X t1 i1 wi)
  (h:wi σ H fun J H1=>∀ D,H1 D=none->∀ cl C s₀ H₀ ex,j2m (j01 X N' scope cl C s₀ H₀ ex) t1 f1 (k2h elt t1 i1 f1 t2 i2 f2 scope pos (.ref D) (compEnvC scope cl C X.env)) J (fun _ H'=>Q (.ref D) H') (σ++List.replicate n none) (upd H1 D (SetO X.prog X.w D [])))
  (hc:X.calm=true:=by rfl) (hsc:X.env.scope=sc:=by rfl) (hN:X.N=N:=by rfl) (hk:j3i sc scope N N'=true:=by decide +kernel) (hl:N'.length=N.length+n:=by rfl)
  (hs:∀ x,foldedSetIterable i1 X.env x=pure x:=by intro _;rfl):Ev X (.SetComp elt [⟨t1,i1,f1,0⟩,⟨t2,i2,f2,0⟩] scope pos) σ H Q:=by
 refine⟨fun pins s I=>?_⟩;subst hsc hN;have ck:=CompOk.of hk;show wpAny _ _ (comprehension (.SetComp elt [⟨t1,i1,f1,0⟩,⟨t2,i2,f2,0⟩] scope pos) scope X.env (firstIterPos [⟨t1,i1,f1,0⟩,⟨t2,i2,f2,0⟩] pos) (newSet (.type "set")) (firstAsync [⟨t1,i1,f1,0⟩,⟨t2,i2,f2,0⟩]) (firstIter [⟨t1,i1,f1,0⟩,⟨t2,i2,f2,0⟩] X.env)) _ _ _;refine wpAny_comprehension_free (use:=none) rfl hs (j18 fun x hx hf=>I.ok.has x.1 (ck.free x hx hf)) ck.kind ck.names (thn (hi pins s σ H _ I h) fun xv s1 h1=>thn h1 fun itv s2 h2=>?_);obtain⟨it,fp,tn,J,H2,e,I2,T,st2,f2',q⟩:=h2;subst e;refine j2u (e:= .SetComp elt [⟨t1,i1,f1,0⟩,⟨t2,i2,f2,0⟩] scope pos) (newAcc:=newSet (.type "set")) (o0:=j46 X.w) (u0:=fun D=>SetO X.prog X.w D []) (fun _ _ _ h=>k88 h) (fun _ h _=>k4x (k34 (Aj _ rfl))) (Q:=Q) (RR:=fun acc C=>compPost (model X.prog X.w) X.A X.xe none (EP X pins σ Q) acc C) hc ck hl (inner:=k2h elt t1 i1 f1 t2 i2 f2 scope pos) (fun _ _=>k7d) I2 T st2 f2' q ?_;intro D C H' s' m IX hn hC c1 c2 c3 c4 qq;exact⟨m,hn,fun h' hs'=>⟨.ref D,H',IX.turned (t':=s'.toks) (fun b o hb e=>hs'.extBut b o hb e) hC (Ne.symm (Ne.symm c1)) (.inr c2) c3 c4,rfl,qq⟩⟩
end
end L2
namespace Spl
open PySem PySem.Builtin PySem.Builtin.Str PySem.StrLaws
end Spl
namespace L2
open PySem PySem.Builtin PySem.Builtin.Str
section
variable{X:Cx}{σ:St}{H:Hp}{Q:VK}
end
end L2
namespace PySem
def Plain(h:Heap)(d:Addr)(es:Array DictEntry)(ep:Nat):Prop:=∃ o,h.get? d=some o/\o.ExactDict/\o.data = .dict es ep
section
variable{P:Program}{w:World}{A:Around}{E:Value->Shared->Prop}{s:Shared}
theorem k2o(d:Addr)(hd:(d == sysModules)=false):MeetsIn P w (Builtin.«dict.items» ⟨[.ref d],[]⟩) (fun _ R u=>u.TypeIs (.ref d) "dict" /\
  R (.ok (.ret (.ref u.heap.objs.size))) {u with heap:=u.heap.push {cls:= .type "dict_items",data:= .fields #[.ref d]}}):=by
 refine .of_wp fun B R u ⟨hT,k⟩=>?_;unfold Builtin.«dict.items» Builtin.Dict.noArgs;refine wpAny_bind (wpAny_bind (wpAny_notOrdered_dict hT ?_));show wpAny _ _ (pure d) _ _ u;refine wpAny_pure ?_;show wpAny _ _ (Builtin.Dict.showsAll d >>= _) _ _ u;unfold Builtin.Dict.showsAll;rw [if_neg (by rw [hd];exact Ak)];exact wpAny_bind (wpAny_pure (wpAny_bind (wpAny_newObj_type (wpAny_pure ⟨_,rfl,k⟩))))
theorem k18{v d:Addr}{es:Array DictEntry}{ep:Nat}{Q:Value->Shared->Prop}(hv:s.heap.IsItemsView v d)(hm:Plain s.heap d es ep)
  (k:Q (.ref s.heap.objs.size) {s with heap:=s.heap.push {cls:= .type "dict_itemiterator",data:= .fields #[.none,.bool false,.ref d,.int 0 0,.int es.size 0,.int ep 0,.none,.none]}}) :
  wpAny (model P w) A (pyIter (.ref v)) Q E s:=by
 obtain⟨vo,e1,e2,e3⟩:=id hv;obtain⟨o,f1,f2,f3⟩:=hm;refine wpAny_pyIter_slot hv.typeIs F.slot_dict_items_iter (wpAny_call_entry F.slot_dict_items_iter hv.typeIs F.entry_dict_items_iter ?_ (F.args_dict_items_iter_1 _));unfold Builtin.«dict_items.__iter__» Builtin.Dict_items.dictOf Builtin.Dict_items.newIterator;refine wpAny_bind (wpAny_pure (wpAny_bind (wpAny_bind (wpAny_field e1 e3 (x:= .ref d) rfl (wpAny_pure ?_)))));refine wpAny_bind (wpAny_bind (wpAny_dictEntries f1 f3 (wpAny_bind (wpAny_dictEpoch f1 f3 ?_))));have ow:Builtin.Dict_items.ownsTuple "dict_itemiterator" = true:=by decide
 simp only [ow,if_true];refine wpAny_newObj_type (wpAny_pure ⟨_,rfl,"dict_itemiterator",_,⟨_,Aj _ rfl,rfl⟩,F.slot_dict_itemiterator_next.lookup,?_⟩) ?_
 ·simpa [rawInt,Builtin.Dict_items.ownedTupleFields] using k
 ·simp only [sizeOk,Builtin.Dict_items.ownedTupleFields,Ap,Af,Bd,Em,sizeLine_eq];omega
theorem k1y{it d:Addr}{i ep:Nat}{es:Array DictEntry}{en:DictEntry}{y z:Value}{Q:Option Value->Shared->Prop}(hit:IsItemIter s.heap it d i es.size ep y z)(hm:Plain s.heap d es ep)(hx:es[i]?=some en)
  (k : ∀ h', IsItemIterOut h' it d (i + 1) es.size ep en.key en.val s.heap.objs.size → h'.get? s.heap.objs.size = some { cls := .type "tuple", data := .seq #[en.key, en.val] } →
   (∀ b o,b≠it->s.heap.get? b=some o->h'.get? b=some o)->Q (some (.ref s.heap.objs.size)) {s with heap:=h'}):wpAny (model P w) A (pyNext (.ref it)) Q E s:=by
 obtain⟨hp,g,dr,tk,os⟩:=s;obtain⟨o,f1,f2,f3⟩:=hm;have ty:Shared.TypeIs ⟨hp,g,dr,tk,os⟩ (.ref it) "dict_itemiterator":=⟨_,hit,rfl⟩;have lt:i < es.size:=by
  rcases Ce i es.size with h | h
  ·exact h
  ·rw [Cp h] at hx;cases hx
 have ow:Builtin.Dict_items.ownsTuple "dict_itemiterator" = true:=by decide
 unfold pyNext;refine wpAny_bind (wpAny_attempt (wpAny_callSpecial?_slot (name:=Str.ofString "__next__") ty F.slot_dict_itemiterator_next (wpAny_call_entry F.slot_dict_itemiterator_next ty F.entry_dict_itemiterator_next ?_ (F.args_dict_itemiterator_next_1 _))));refine wpAny_bind (wpAny_pure (wpAny_bind (wpAny_bind ?_)))
 first | refine wpAny_bind (wpAny_typeNameOfWhole_itemiter ty (wpAny_pure ?_)) | refine wpAny_bind (wpAny_typeNameOf_itemiter ty (wpAny_pure ?_))
 refine wpAny_bind (wpAny_fieldsOf hit rfl ?_);simp only [ow,if_true];show wpAny _ _ (if(Value.ref d == Value.none)=true then _ else _) _ _ _;rw [if_neg (show ¬((Value.ref d == Value.none)=true) from Ak)];refine wpAny_bind (wpAny_pure (wpAny_bind (wpAny_dictEntries f1 f3 ?_)));rw [if_neg (by simp)];refine wpAny_bind (wpAny_pure (wpAny_bind (wpAny_dictEpoch f1 f3 ?_)));rw [if_neg (by simp)];refine wpAny_pure ?_;have ee:es[i]=en:=Option.some.inj ((Bp lt).symm.trans hx);simp only [show ¬((i:Int) < 0) from by omega,if_false,Au,hx];refine wpAny_bind ?_
 first | refine wpAny_bind (wpAny_typeNameOfWhole_itemiter ty (wpAny_pure ?_)) | refine wpAny_bind (wpAny_typeNameOf_itemiter ty (wpAny_pure ?_))
 refine wpAny_bind (wpAny_isOneOf_itemiter ty ?_);show wpAny _ _ (setField (.ref it) 3 (rawInt ((i:Int)+1)) >>= _) _ _ ⟨hp,g,dr,tk,os⟩;refine wpAny_bind (wpAny_setField_rec hit (by simp) fun ha ea sa=>?_);replace sa:Heap.SameBut it hp ha:=sa;replace ea:IsItemIter ha it d (i+1) es.size ep y z:=by
  have e:((i+1:Nat):Int)=(i:Int)+1:=by omega
  unfold IsItemIter;rw [e]
  simpa [rawInt] using ea
 have tya:Shared.TypeIs ⟨ha,g,dr,tk,os⟩ (.ref it) "dict_itemiterator":=⟨_,ea,rfl⟩;refine wpAny_bind (wpAny_holding (wpAny_bind (wpAny_isOneOf_itemiter tya (wpAny_bind (wpAny_isOneOf_itemiter tya ?_)))));show wpAny _ _ (Builtin.Dict_items.pairFromOwner (.ref it) 6 en.key en.val) _ _ ⟨ha,g,dr,tk,os⟩;unfold Builtin.Dict_items.pairFromOwner Builtin.Dict_items.ownedTupleIsFree;refine wpAny_bind (wpAny_newTuple ?_);have eb:IsItemIter (ha.push {cls:= .type "tuple",data:= .seq #[en.key,en.val]}) it d (i+1) es.size ep y z:=Ad _ ea;have za:ha.objs.size=hp.objs.size:=sa.1;have il:it < hp.objs.size:=Ai hit;have tb:(ha.push {cls:= .type "tuple",data:= .seq #[en.key,en.val]}).get? hp.objs.size=some {cls:= .type "tuple",data:= .seq #[en.key,en.val]}:=by rw [<- za];exact Aj _ rfl
 have kb:∀ b u,b≠it->hp.get? b=some u->(ha.push {cls:= .type "tuple",data:= .seq #[en.key,en.val]}).get? b=some u:=fun b u hb e=>Ad _ (sa.extBut b u hb e);rw [za];generalize ha.push {cls:= .type "tuple",data:= .seq #[en.key,en.val]}=hb at eb tb kb;refine wpAny_bind (wpAny_bind (wpAny_field (s:=⟨hb,g,dr,tk,os⟩) eb rfl (x:= .none) rfl (wpAny_pure ?_)));simp only [if_true];refine wpAny_bind (wpAny_field (s:=⟨hb,g,dr,tk,os⟩) eb rfl (x:=y) rfl (wpAny_bind (wpAny_field (s:=⟨hb,g,dr,tk,os⟩) eb rfl (x:=z) rfl ?_)));refine wpAny_bind (wpAny_setField_rec eb (by simp) fun h3 e3 s3=>?_);replace s3:Heap.SameBut it hb h3:=s3;replace e3:IsItemIter h3 it d (i+1) es.size ep en.key z:=e3;refine wpAny_bind (wpAny_setField_rec e3 (by simp) fun h4 e4 s4=>?_);replace s4:Heap.SameBut it h3 h4:=s4;replace e4:IsItemIter h4 it d (i+1) es.size ep en.key en.val:=e4;refine wpAny_bind (wpAny_setField_rec e4 (by simp) fun h5 e5 s5=>?_);replace s5:Heap.SameBut it h4 h5:=s5;replace e5:IsItemIterOut h5 it d (i+1) es.size ep en.key en.val hp.objs.size:=e5;refine wpAny_bind (wpAny_setField_rec e5 (by simp) fun h6 e6 s6=>?_);replace s6:Heap.SameBut it h5 h6:=s6;replace e6:IsItemIterOut h6 it d (i+1) es.size ep en.key en.val hp.objs.size:=e6;have all:=((s3.trans s4).trans s5).trans s6;exact wpAny_bind (wpAny_letGo (wpAny_pure (wpAny_pure ⟨_,rfl,wpAny_pure (k h6 e6 (all.extBut _ _ (Cd il) tb) fun b u hb' e=>all.extBut b u hb' (kb b u hb' e))⟩)))
theorem k4b{it d:Addr}{i ep:Nat}{es:Array DictEntry}{y z:Value}{Q:Option Value->Shared->Prop}(hh:A.handled=none)(hit:IsItemIter s.heap it d i es.size ep y z)(hm:Plain s.heap d es ep)(hx:es.size<=i)
  (k:∀ h',Heap.ExtBut it s.heap h'->Q none {s with heap:=h'}):wpAny (model P w) A (pyNext (.ref it)) Q E s:=by
 obtain⟨o,f1,f2,f3⟩:=hm;have ty:s.TypeIs (.ref it) "dict_itemiterator":=⟨_,hit,rfl⟩;have ow:Builtin.Dict_items.ownsTuple "dict_itemiterator" = true:=by decide
 unfold pyNext;refine wpAny_bind (wpAny_attempt (wpAny_callSpecial?_slot (name:=Str.ofString "__next__") ty F.slot_dict_itemiterator_next (wpAny_call_entry F.slot_dict_itemiterator_next ty F.entry_dict_itemiterator_next ?_ (F.args_dict_itemiterator_next_1 _))));refine wpAny_bind (wpAny_pure (wpAny_bind (wpAny_bind ?_)))
 first | refine wpAny_bind (wpAny_typeNameOfWhole_itemiter ty (wpAny_pure ?_)) | refine wpAny_bind (wpAny_typeNameOf_itemiter ty (wpAny_pure ?_))
 refine wpAny_bind (wpAny_fieldsOf hit rfl ?_);simp only [ow,if_true];show wpAny _ _ (if(Value.ref d == Value.none)=true then _ else _) _ _ s;rw [if_neg (show ¬((Value.ref d == Value.none)=true) from Ak)];refine wpAny_bind (wpAny_pure (wpAny_bind (wpAny_dictEntries f1 f3 ?_)));rw [if_neg (by simp)];refine wpAny_bind (wpAny_pure (wpAny_bind (wpAny_dictEpoch f1 f3 ?_)));rw [if_neg (by simp)];refine wpAny_pure ?_;simp only [show ¬((i:Int) < 0) from by omega,if_false,Au,Cp hx];refine wpAny_bind ?_
 first | refine wpAny_bind (wpAny_typeNameOfWhole_itemiter ty (wpAny_pure ?_)) | refine wpAny_bind (wpAny_typeNameOf_itemiter ty (wpAny_pure ?_))
 show wpAny _ _ (setField (.ref it) 2 .none >>= _) _ _ s;refine wpAny_bind (wpAny_setField hit rfl (by simp) ?_);show wpAny _ _ (newExc (.type "StopIteration") [] >>= _) _ _ _;refine wpAny_bind ?_;simp only [newExc,newTuple];refine wpAny_bind (wpAny_newObj_type ?_ (by size_fits));refine wpAny_bind (m:=firstArgMember _ _) (wpAny_of_eq (a:=Value.none) (by first | rfl | (simp only [firstArgMember];rfl)) ?_);refine wpAny_newObj_type ?_ (by size_fits);simp only [raiseNew];refine wpAny_bind (wpAny_handled ?_);rw [show A.in1.handled=none from hh];refine wpAny_bind (wpAny_pure (wpAny_throw ?_));exact wpAny_bind (wpAny_isInstance (T:= "StopIteration") (b:=true) ⟨_,Aj _ rfl,rfl⟩ isSubtype_stop (wpAny_pure (k _ (((Heap.SameBut.update ..).extBut.push _).push _))))
theorem j6m:entryFor table "dict_itemiterator.__iter__" = some Builtin.«dict_keyiterator.__iter__»:=
 entryFor_alias (id':= "dict_keyiterator.__iter__") (by kernel_rfl) rfl (by decide +kernel) (by kernel_rfl)
theorem k1m{it d:Addr}{i n ep:Nat}{y z:Value}{Q:Value->Shared->Prop}(e:IsItemIter s.heap it d i n ep y z)(h:Q (.ref it) s):wpAny (model P w) A (pyIter (.ref it)) Q E s:=by
 have ty:s.TypeIs (.ref it) "dict_itemiterator":=⟨_,e,rfl⟩;refine wpAny_pyIter_slot ty F.slot_dict_itemiterator_iter (wpAny_call_entry F.slot_dict_itemiterator_iter ty j6m ?_ (F.args_dict_itemiterator_iter_1 _));show wpAny _ _ (ret (.ref it)) _ _ s;exact wpAny_pure ⟨_,rfl,"dict_itemiterator",_,ty,F.slot_dict_itemiterator_next.lookup,h⟩
end
end PySem
namespace L2
open PySem PySem.Spec PyProof.Rows
section
variable{X:Cx}{pins:List (Addr×Obj)}{σ:St}{H:Hp}{s:Shared}
theorem k0d{d:Addr}{kvs:List (List Key×V)}(I:Inv X pins σ H s)(e:H d=some (.dT kvs)):∃ o,s.heap.get? d=some o/\Inv X pins σ (upd H d (.frz o (.dT kvs))) s:=by
 obtain⟨z,hd,xs,r,o,es,ep,ho,h2,h3,h4,h5⟩:=(show ObjOk X.prog X.w H s.heap d (.dT kvs) from I.hok d _ e);refine⟨o,ho,?_⟩;have r':KT (upd H d (.frz o (.dT kvs))) kvs xs:=KT.keeps r fun b ys q=>by
  rw [j0e (j11 q e fun z=>nomatch z)];exact q
 exact j3m (t':=s.toks) I (by rw [e];exact True.intro) ⟨rfl,fun _ _=>rfl⟩ ⟨o,ho⟩ (show ObjOk X.prog X.w _ s.heap d (.frz o (.dT kvs)) from⟨ho,z,hd,xs,r',o,es,ep,ho,h2,h3,h4,h5⟩)
def Itm(d:Addr)(o:Obj)(kvs:List (List Key×V)):It:=
  ⟨fun i H => H d = some (.frz o (.dT kvs)) ∧ i < kvs.length,
   fun i H v H'=>∃ T b k x,kvs[i]?=some (k,x)/\H b=some (.tup (k.map kV))/\H T=none/\v = .ref T/\H'=upd H T (.tup [.ref b,x]),
   fun i H=>H d=some (.frz o (.dT kvs))/\kvs.length<=i⟩
theorem k37{P:Program}{w:World}{h:Heap}{d:Addr}{o:Obj}{es:Array DictEntry}{ep:Nat}{kvs:List (List Key×V)}(hok:HOk P w H h)(e:H d=some (.frz o (.dT kvs)))(hd:o.data = .dict es ep) :
  Plain h d es ep/\∃ xs,KT H kvs xs/\es.toList=xs.map (entryOfKey (tupleKind (j0r P w))):=by
 obtain⟨ho,z,_,xs,r,o',es',ep',ho',h2,h3,h4,h5⟩:=(show ObjOk P w H h d (.frz o (.dT kvs)) from hok d _ e);have:o=o':=Option.some.inj (ho.symm.trans ho');subst this;rw [hd] at h3
 injection h3 with e1 e2
 subst e1;subst e2;exact⟨⟨o,ho,h2,hd⟩,xs,r,h4⟩
theorem kt_len{H:Hp}:∀{kvs:List (List Key×V)} {xs:List (List Key×Addr×Value)},KT H kvs xs->kvs.length=xs.length:=fun r=>by
 induction r with
 | nil=>rfl
 | cons _ _ ih=>simp only [Bd,ih]
theorem kt_at{H:Hp}:∀{kvs:List (List Key×V)} {xs:List (List Key×Addr×Value)},KT H kvs xs->∀{i:Nat} {k:List Key} {x:V},kvs[i]?=some (k,x)->∃ b u,xs[i]?=some (k,b,u)/\H b=some (.tup (k.map kV))/\RelV x u:=fun r=>by
 induction r with
 | nil=>intro i k x h;simp at h
 | @cons p q ps qs hq t ih=>
  intro i k x h;cases i with
  | zero=>
   simp only [List.getElem?_cons_zero,Option.some.injEq] at h;subst h;obtain⟨a,b,c⟩:=q;obtain⟨q1,q2,q3⟩:=hq;have q1:k=a:=q1;subst q1;exact⟨b,c,rfl,q2,q3⟩
  | succ i=>exact ih (by simpa using h)
theorem k2k{P:Program}{w:World}{K:PySem.W.Frag}{elts:List Expr}{kk:Nat}{tp:Pos}(d it:Addr)(o:Obj)(es:Array DictEntry)(ep:Nat)(kvs:List (List Key×V))(hod:o.data = .dict es ep) :
  Turn P w K (.Tuple elts kk tp) (Itm d o kvs) [it] it (fun i h=>∃ y z,IsItemIter h it d i es.size ep y z) where
 mem:=by simp
 obj:=fun i h st b hb=>by
  have e:b=it:=by simpa using hb
  subst e;obtain⟨y,z,e⟩:=st;exact⟨_,e,fun v z=>by cases z⟩
 keep:=fun i h h' st k=>let ⟨y,z,e⟩:=st;⟨y,z,k it (by simp) _ e⟩
 item:=by
  intro X hP hw hK hc i pins s σ H E I hf st hg;subst hP hw hK;obtain⟨f0,f1,f2,f3,f4,f5⟩:=hf it (by simp);obtain⟨hd,hi⟩:=hg;obtain⟨pd,xs,r,hes⟩:=k37 I.hok hd hod;obtain⟨y,z,st⟩:=st;have hx:kvs[i]?=some (kvs[i].1,kvs[i].2):=Ac hi;obtain⟨b,u,hxs,hb,ru⟩:=kt_at r hx;have hen:=entry_at hes i;rw [hxs] at hen;refine k1y st pd (en:=entryOfKey (tupleKind (j0r X.prog X.w)) (kvs[i].1,b,u)) hen fun h' q1 q2 kp=>?_;have hT:H s.heap.objs.size=none:=I.hok.fresh (Ag _);have nT:it≠s.heap.objs.size:=Ay (Ai st);have I1:Inv X pins σ (upd H s.heap.objs.size (.tup [.ref b,kvs[i].2])) {s with heap:=s.heap.push {cls:= .type "tuple",data:= .seq #[Value.ref b,u]}}:=
   I.laid (t':=s.toks) (fun b o e=>Ad _ e) (Ag _) (show ObjOk X.prog X.w _ _ _ (.tup [.ref b,kvs[i].2]) from⟨(by show 2<=sizeLine;decide),[Value.ref b,u],.cons rfl (.cons ru .nil),⟨_,Aj _ rfl,rfl,_,rfl⟩⟩)
  have fp:∀ c∈[it],FpOk X pins (upd H s.heap.objs.size (.tup [.ref b,kvs[i].2])) c:=fun c hc'=>by
   have e:c=it:=by simpa using hc'
   subst e;exact⟨by rw [j0e nT];exact f0,f1,f2,f3,f4,f5⟩
  have I2:=Inv.turnedL (h':=h') (t':=s.toks) I1 fp fun c v hc' e=>by
   have nc:c≠it:=by simpa using hc'
   rcases Heap.get?_push_cases e with ⟨ec,eo⟩ | e'
   ·rw [ec,eo];exact q2
   ·exact kp c v nc e'
  refine⟨_,rfl,wpAny_letOwnedTupleGo_items (s:={s with heap:=h'}) q1 fun h2 b1 sb=>?_⟩;have I3:=Inv.turnedL (h':=h2) (t':=s.toks) I2 fp fun c v hc' e=>(sb.2 c (by simpa using hc')).trans e;exact⟨.ref s.heap.objs.size,_,I3,rfl,⟨_,b,kvs[i].1,kvs[i].2,hx,hb,hT,rfl,rfl⟩,⟨_,_,b1⟩,fun c hc'=>(fp c hc').1⟩
 done:=by
  intro X hP hw hK hc i pins s σ H E I hf st hg;subst hP hw hK;obtain⟨hd,hi⟩:=hg;obtain⟨pd,xs,r,hes⟩:=k37 I.hok hd hod;obtain⟨y,z,st⟩:=st;have hl:es.size=kvs.length:=by rw [kt_len r,<- Cj,hes,Aa]
  exact k4b (I.ok.hd hc) st pd (by omega) fun h' eb=>⟨rfl,I.turnedL (t':=s.toks) hf fun c v hc' e=>eb c v (by simpa using hc') e⟩
 self:=fun _ _ _ _ _ st h=>let ⟨y,z,e⟩:=st;k1m e h
end
section
variable{X:Cx}
def q3w(to:TE):TI:=fun σ H R=>to σ H fun x H1=>∃ d kvs,x = .ref d/\H1 d=some (.dT kvs)/\∀ o,R (Itm d o kvs) (upd H1 d (.frz o (.dT kvs)))
theorem k75{elts:List Expr}{kk:Nat}{tp ap cp:Pos}{l:Expr}{to:TE}(ho:PE X l to)(hbase:attributeBase l "items" X.env (eval l X.env)=eval l X.env:=by rfl)(hline:(ap.endLine == cp.line)=true:=by rfl) :
  PI X (.Tuple elts kk tp) (.Call (.Attribute l "items" ap) [] [] cp) (q3w to):=by
 intro pins s σ H R I h;refine wpAny_Call_method0_late hbase hline (thn (ho pins s σ H _ I h) fun v s1 ⟨x,H1,I1,r1,q1⟩=>?_);obtain⟨d,kvs,e,hd,q⟩:=q1;subst e;cases (show v=Value.ref d from r1);obtain⟨_,hsy,_,_,o,es,ep,e1,e2,e3,_⟩:=(show ObjOk X.prog X.w H1 s1.heap d (.dT kvs) from I1.hok d _ hd);have ty:s1.TypeIs (.ref d) "dict":=⟨o,e1,e2.1⟩;refine⟨"dict","dict.items",F.plainAttrs_dict,F.slot_dict_items,F.type_dict_items,ty,fun a ea=>?_,Calls.callWith_builtin rfl (PySem.evalArgs_none ?_)⟩
 ·cases ea;exact⟨o,e1,e2.2.1⟩
 refine call_meetsIn F.slot_dict_items ty F.entry_dict_items (F.args_dict_items_1 _) (k2o d hsy) ⟨ty,?_⟩;obtain⟨o',eo,I2⟩:=k0d I1 hd;have:o=o':=Option.some.inj (e1.symm.trans eo);subst this;have I3:=I2.kept (t':=s1.toks) (h':=s1.heap.push {cls:= .type "dict_items",data:= .fields #[.ref d]}) fun b u e=>Ad _ e;refine k18 (s:={s1 with heap:=s1.heap.push {cls:= .type "dict_items",data:= .fields #[.ref d]}}) (d:=d) (es:=es) (ep:=ep) ⟨_,Aj _ rfl,rfl,rfl⟩ ⟨o,Ad _ e1,e2,e3⟩ ?_;refine⟨_,[(s1.heap.push {cls:= .type "dict_items",data:= .fields #[.ref d]}).objs.size],_,_,_,rfl,I3.kept (t':=s1.toks) fun b u e=>Ad _ e,k2k d _ o es ep kvs e3,⟨_,_,Aj _ rfl⟩,fun b hb=>?_,q o⟩;have e:b=(s1.heap.push {cls:= .type "dict_items",data:= .fields #[.ref d]}).objs.size:=by simpa using hb
 subst e;exact I3.fpOk (Ag _) (I3.hok.fresh (Ag _))
end
section
variable{X:Cx}{tg:Expr}{ifs:List Expr}{inner:Sem Unit}{σ:St}{H:Hp}{d:Addr}{o:Obj}{kvs:List (List Key×V)}{after:St->Hp->Prop}
theorem j7u(Pv:Nat->St->Hp->Prop)(h0:Pv 0 σ H)(hl:∀ i σ' H',i<=kvs.length->Pv i σ' H'->H' d=some (.frz o (.dT kvs)))
  (hs:∀ i k x b T σ' H',kvs[i]?=some (k,x)->Pv i σ' H'->H' b=some (.tup (k.map kV))->H' T=none->Eg X tg (.ref T) σ' (upd H' T (.tup [.ref b,x])) fun σ2 H3=>Ei X ifs σ2 H3 fun c H4=>if c=true then Ein X inner σ2 H4 (Pv (i+1)) else Pv (i+1) σ2 H4)
  (hd:∀ σ' H',Pv kvs.length σ' H'->after σ' H'):j2m X tg ifs inner (Itm d o kvs) after σ H:=by
 refine⟨fun i m σ' H'=>m=kvs.length - i/\i<=kvs.length/\Pv i σ' H',⟨_,rfl,Bi _,h0⟩,?_⟩;rintro i m σ' H' ⟨rfl,hi,p⟩;have q:=hl i σ' H' hi p
 by_cases hlt:i < kvs.length
 ·refine .inr ⟨⟨q,hlt⟩,Pv (i+1),fun σ' H' p'=>⟨kvs.length - (i+1),by omega,rfl,hlt,p'⟩,fun v H2 y=>?_⟩;obtain⟨T,b,k,x,hx,hb,hT,rfl,rfl⟩:=y;exact hs i k x b T σ' _ hx p hb hT
 ·have e:i=kvs.length:=by omega
  subst e;exact .inl ⟨⟨q,Ag _⟩,hd σ' H' p⟩
end
end L2
namespace J0
open PySem L2 Nt Sort2
def k1j:Sp:=fun vs H Q _=>∃(R:Addr) (as:List (Addr×Addr)) (n:Net),vs=[.ref R]/\RowsAt H R as n/\n.length<=1000/\∀ L as' H',Same H H'->H L=none->(∀ a∈as',H a.1=none/\H a.2=none)->RowsAt H' L as' n->Q (.ref L) H'
section
variable{P:Program}{w:World}{K:PySem.W.Frag}{mg:Str->Option Value}{base:Heap}
theorem j0t{H H':Hp}{l:Addr}(s:Same H H')(h:H' l=none):H l=none:=by
 cases e:H l with
 | none=>rfl
 | some v=>rw [s _ _ e] at h;cases h
abbrev NC:List Str:=["_law_rows"]
abbrev NC':List Str:=["_law_rows","_law_row"]
theorem scCopy:FnScope NC ["_law_rows"] (j0f k7f):=⟨rfl,rfl,rfl,by decide +kernel,rfl,by decide +kernel,by decide +kernel⟩
theorem nd_c:NC'.Nodup:=by decide +kernel
theorem k99{f:Addr}{fd:FuncData}(F:Fun K "_law_copy" "_law_copy" k7f f fd)(T:Txt mg):FnOk P w K mg base CX0 1 f fd ["_law_rows"] k1j:=by
 refine F.gb scCopy (fun vs H Q E h=>?_) (fun b0 H vs Q E hr h=>?_)
 ·obtain⟨R,as,n,rfl,_⟩:=h;rfl
 obtain⟨R,as,n,rfl,hR,hn,q⟩:=h;have nd:=scCopy.nd;have hal:=hR.len;show Run _ _ _ [some (.ref R)] H;refine j0l (j5q (j0f k7f) NC NC' 1 (j22 j02) (ev_v 0 ⟨R,rfl,⟨_,SqL.of hR.lst⟩,fun D hD=>?_⟩));refine j3t (xs:=as.map fun a=>V.ref a.1) (fun i σ' H'=>(∃ v,σ'=[some (.ref R)]++[v])/\∃ bs:List (Addr×Addr),bs.length=i/\H' D=some (.lst (bs.map fun a=> .ref a.1)) /\
  (∀(j:Nat) a r,bs[j]?=some a->n[j]?=some r->H' a.1=some (.tup [.str r.1,.ref a.2])/\H' a.2=some (Ls r.2))/\(bs.map (·.2)).Nodup/\(∀ a∈bs,a.2≠D/\H a.1=none/\H a.2=none/\∃ zs,H' a.2=some (Ls zs))/\Same H H')
  ⟨⟨none,rfl⟩,[],rfl,j0b,fun j a r h=>by simp at h,Cm,fun a h=>by simp at h,j0g hD _⟩ ?_ ?_ ?_
 ·rintro i σ' H' _ ⟨_,bs,_,_,_,_,_,sm⟩;exact SqL.of (sm _ _ hR.lst)
 ·rintro i x σ' H' hx ⟨⟨v,rfl⟩,bs,hb1,hb2,hb3,hb4,hb5,sm⟩;have hi:i < n.length:=by
   have:=(Ab.mp hx).1;rw [Aa] at this;omega
  obtain⟨a,ea,eat,et,el,er⟩:=(hR.same sm).at hi;rw [Ae,ea] at hx;cases hx;intro cl C' s₀ H₀ ex;refine j0n 1 nd_c ?_;intro cl C' s₀ H₀ ex;refine j3c ?_;rw [if_pos rfl];intro cl C' s₀ H₀ ex;refine j1b (j0a (j0o j0p (ev_v 1 (j0d ⟨a.1,_,_,.str n[i].1,rfl,rfl,SqT.of et,rfl,?_⟩))));refine j0a (j48 j4y T.tlist PyProof.Rows.boot_list (j0a (j0o j0p (ev_v 1 (j0d ⟨a.1,_,_,.ref a.2,rfl,rfl,SqT.of et,rfl,?_⟩)))));refine j0c ⟨a.2,_,rfl,.inl (SqL.of el),fun l hl=>j0c ⟨(by show 2<=sizeLine;decide),fun t ht=>?_⟩⟩;have hl0:=j0t sm hl;have ntl:t≠l:=fun e=>by rw [e,j0b] at ht;cases ht
  have ht':H' t=none:=by rw [j0e ntl] at ht;exact ht
  have ht0:=j0t sm ht';have nlD:l≠D:=fun e=>by rw [e] at hl;rw [hl] at hb2;cases hb2
  have ntD:t≠D:=fun e=>by rw [e] at ht';rw [ht'] at hb2;cases hb2
  refine⟨bs.map fun a=> .ref a.1,?_,?_,⟨_,rfl⟩,bs++[(t,l)],by rw [Af,hb1];rfl,?_,?_,?_,?_,?_⟩
  ·rw [j0e (Ne.symm ntD),j0e (Ne.symm nlD)];exact hb2
  ·rw [Aa];exact j03 (by omega)
  ·rw [j0b,Al];rfl
  ·intro j b r hb hr'
   by_cases hj:j < bs.length
   ·rw [Ax hj] at hb;obtain⟨q1,q2⟩:=hb3 j b r hb hr';have hbD:=(hb5 b (An hb)).1;have n1:b.1≠D:=j11 q1 hb2 fun z=>nomatch z;refine⟨?_,?_⟩
    ·rw [j0e n1,j0e (j0h q1 ht'),j0e (j0h q1 hl)];exact q1
    ·rw [j0e hbD,j0e (j0h q2 ht'),j0e (j0h q2 hl)];exact q2
   ·rw [Bb (by omega)] at hb;have hj2:j - bs.length=0:=by
     have:=(Ab.mp hb).1;simp at this;omega
    have hji:j=i:=by omega
    rw [hj2] at hb;cases hb;rw [hji,Ac hi] at hr';cases hr';refine⟨?_,?_⟩
    ·rw [j0e ntD,j0b]
    ·rw [j0e nlD,j0e (Ne.symm ntl),j0b,er]
  ·rw [Al];refine j5v hb4 fun hm=>?_;obtain⟨b,hb,e⟩:=Am.mp hm;obtain⟨_,_,_,zs,q⟩:=hb5 b hb;have e':b.2=l:=e;rw [e',hl] at q;cases q
  ·intro b hb
   rcases Ba.mp hb with hb | hb
   ·obtain⟨q1,q2,q3,zs,q4⟩:=hb5 b hb;refine⟨q1,q2,q3,zs,?_⟩;rw [j0e q1,j0e (j0h q4 ht'),j0e (j0h q4 hl)];exact q4
   ·rw [Ah.mp hb];refine⟨nlD,ht0,hl0,row n i,?_⟩;rw [j0e nlD,j0e (Ne.symm ntl),j0b]
  ·intro c o hc;rw [j0e (j0h hc hD),j0e (j0h hc ht0),j0e (j0h hc hl0)];exact sm _ _ hc
 ·rintro σ' H' ⟨_,bs,hb1,hb2,hb3,hb4,hb5,sm⟩;rw [Aa] at hb1;exact q D bs H' sm hD (fun a ha=>⟨(hb5 a ha).2.1,(hb5 a ha).2.2.1⟩) ⟨by omega,hb2,hb3,hb4⟩
end
abbrev Tn(p:Str)(j:Int):HO:= .tup [.str p,.int j]
def k0q:Sp:=fun vs H Q _=>∃(t l:Addr) (p:Str) (zs:List Str),vs=[.ref t]/\H t=some (.tup [.str p,.ref l])/\H l=some (Ls zs)/\zs.length<=1000 /\
 ∀(L:Addr) (ts:List Addr) (H':Hp),Same H H'->H L=none->H' L=some (.lst (ts.map V.ref))->ts.length=zs.length->(∀(j:Nat) t,ts[j]?=some t->H' t=some (Tn p j))->Q (.ref L) H'
section
variable{X:Cx}{elt tg:Expr}{ifs:List Expr}{scope:Scope}{σ:St}{H:Hp}{N':List Str}{A:Addr}{after:Hp->Prop}
theorem j9u{lo:Int}{n:Nat}(Pv:Nat->St->Hp->Prop)(h0:Pv 0 σ H)
  (hs : ∀ i σ' H', i < n → Pv i σ' H' → CEg X N' scope tg (.int (lo + i)) σ' H' fun σ2 H3 => CEi X N' scope ifs σ2 H3 fun b H4 =>
   if b=true then CEv X N' scope elt σ2 H4 fun v H5=>∃ ys,H5 A=some (.lst ys)/\ys.length < sizeLine/\Pv (i+1) σ2 (upd H5 A (.lst (ys++[v]))) else Pv (i+1) σ2 H4)
  (hd:∀ σ' H',Pv n σ' H'->after H'):j9v X N' scope tg ifs elt (Itr lo n) A after σ H:=by
 refine⟨fun i m σ' H'=>m=n - i/\i<=n/\Pv i σ' H',⟨_,rfl,Bi _,h0⟩,?_⟩;rintro i m σ' H' ⟨rfl,hi,p⟩
 by_cases hlt:i < n
 ·refine .inr ⟨hlt,Pv (i+1),fun σ' H' p'=>⟨n - (i+1),by omega,rfl,hlt,p'⟩,fun x H2 y=>?_⟩;obtain⟨e,y⟩:=y;subst e y;exact hs i σ' _ hlt p
 ·have e:i=n:=by omega
  subst e;exact .inl ⟨Ag _,hd σ' H' p⟩
end
section
variable{P:Program}{w:World}{K:PySem.W.Frag}{mg:Str->Option Value}{base:Heap}
abbrev NE1:List Str:=["row","point","ties"]
abbrev NE2:List Str:=["row","point","ties","place"]
theorem scEnds:FnScope NE1 ["row"] (j0f k7t):=⟨rfl,rfl,rfl,by decide +kernel,rfl,by decide +kernel,by decide +kernel⟩
theorem q46:NE2.Nodup:=by decide +kernel
theorem k9s{f:Addr}{fd:FuncData}(F:Fun K "ends_round" "ends_round" k7t f fd)(T:Txt mg):FnOk P w K mg base CX0 1 f fd ["row"] k0q:=by
 refine F.gb scEnds (fun vs H Q E h=>?_) (fun b0 H vs Q E hr h=>?_)
 ·obtain⟨t,l,p,zs,rfl,_⟩:=h;rfl
 obtain⟨t,l,p,zs,rfl,ht,hl,hz,q⟩:=h;have nd:=scEnds.nd;show Run _ _ _ [some (.ref t),none,none] H;refine k4q (ev_v 0 (j21 rfl (SqT.of ht) (j0n 1 nd (j0n 2 nd ?_))));show Run _ _ _ [some (.ref t),some (.str p),some (.ref l)] H;refine j0l (j5q (j0f k7t) NE1 NE2 1 (j6f rfl T.range (ta:=tEa _ _) j4o (j20 _ [] _ rfl)) ?_);show Ea _ _ _ _ _;refine j0a (j0u j0k T.len boot_len (j0a (ev_v 2 (j0c ⟨l,_,rfl,.inl (SqL.of hl),j0c ⟨_,rfl,by omega,by rw [Aa];omega,fun D hD=>?_⟩⟩))));rw [Aa,Au];refine j9u (fun i σ' H'=>(∃ v,σ'=[some (.ref t),some (.str p),some (.ref l)]++[v])/\∃ ts:List Addr,ts.length=i/\H' D=some (.lst (ts.map V.ref))/\(∀(j:Nat) t,ts[j]?=some t->H' t=some (Tn p j))/\Same H H')
  ⟨⟨none,rfl⟩,[],rfl,j0b,fun j t h=>by simp at h,j0g hD _⟩ ?_ ?_
 ·rintro i σ' H' hi ⟨⟨v,rfl⟩,ts,hl1,eD,hts,sm⟩;rw [Cq];intro cl C' s₀ H₀ ex;refine j0n 3 q46 ?_;intro cl C' s₀ H₀ ex;refine j3c ?_;rw [if_pos rfl];intro cl C' s₀ H₀ ex;refine j1b (j0a (ev_v 1 (j0a (ev_v 3 (j0c ⟨(by show 2<=sizeLine;decide),fun u hu=>?_⟩)))));have nu:u≠D:=fun e=>by rw [e,eD] at hu;cases hu
  have hu0:=j0t sm hu;refine⟨ts.map V.ref,by rw [j0e (Ne.symm nu)];exact eD,by rw [Aa];exact j03 (by omega),⟨_,rfl⟩,ts++[u],by rw [Af,hl1];rfl,by rw [j0b,Al];rfl,?_,?_⟩
  ·intro j t' ht'
   by_cases hj:j < ts.length
   ·rw [Ax hj] at ht';have e:=hts j t' ht';have n1:t'≠D:=j11 e eD fun z=>nomatch z;rw [j0e n1,j0e (j0h e hu)];exact e
   ·rw [Bb (by omega)] at ht';have hj2:j - ts.length=0:=by
     have:=(Ab.mp ht').1;simp at this;omega
    rw [hj2] at ht';cases ht';have:j=i:=by omega
    rw [this,j0e nu,j0b]
  ·intro c o hc;rw [j0e (j0h hc hD),j0e (j0h hc hu0)];exact sm _ _ hc
 ·rintro σ' H' ⟨_,ts,hl1,eD,hts,sm⟩;exact q D ts H' sm hD eD hl1 hts
end
end J0
namespace J0
open PySem L2 Nt Sort2
def spTL(g:Int->Int):Sp:=fun vs H Q _=>∃(e:Addr) (p:Str) (j m:Int),vs=[.ref e,.int m]/\H e=some (Tn p j)/\0 < m/\∀ t H',Same H H'->H' t=some (Tn p (g j % m))->Q (.ref t) H'
section
variable{P:Program}{w:World}{K:PySem.W.Frag}{mg:Str->Option Value}{base:Heap}
abbrev NT1:List Str:=["end","many","point","place"]
theorem scLeft:FnScope NT1 ["end","many"] (j0f q01):=⟨rfl,rfl,rfl,by decide +kernel,rfl,by decide +kernel,by decide +kernel⟩
theorem q0w{f:Addr}{fd:FuncData}(F:Fun K "turned_left" "turned_left" q01 f fd)(T:Txt mg):FnOk P w K mg base CX0 1 f fd ["end","many"] (spTL fun j=>j+1):=by
 refine F.gb scLeft (fun vs H Q E h=>?_) (fun b0 H vs Q E hr h=>?_)
 ·obtain⟨e,p,j,m,rfl,_⟩:=h;rfl
 obtain⟨e,p,j,m,rfl,he,hm,q⟩:=h;have nd:=scLeft.nd;show Run _ _ _ [some (.ref e),some (.int m),none,none] H;refine k4q (ev_v 0 (j21 rfl (SqT.of he) (j0n 2 nd (j0n 3 nd ?_))));refine j0l (j1b (j0a (ev_v 2 (j0a (j0m j0x (j0m j1z (ev_v 3 (j0d ⟨_,_,rfl,rfl,ev_v 1 ⟨_,_,rfl,rfl,(by show 0 < m;exact hm),j0c ⟨(by show 2<=sizeLine;decide),fun t ht=>?_⟩⟩⟩))))))));exact q t _ (j0g ht _) j0b
theorem k7q{kvs:List (Key×V)}:∀{acc:List (Key×V)},((acc++kvs).map (·.1)).Nodup->kvs.foldl (fun a p=>putK a p.1 p.2) acc=acc++kvs:=by
 induction kvs with
 | nil=>intro acc _;simp
 | cons p r ih=>
  intro acc h;have hn:valV acc p.1=none:=by
   cases e:valV acc p.1 with
   | none=>rfl
   | some v=>
    have hm:=k3p e;rw [Al,Be] at h;exact absurd rfl ((Cr.mp h).2.2 _ hm _ Aw)
  rw [Cs,k1b _ hn,ih (by rw [Bl];exact h),Bl];rfl
theorem k5t:∀{kvs:List (Key×V)} {i:Nat} {p:Key×V},(kvs.map (·.1)).Nodup->kvs[i]?=some p->valV kvs p.1=some p.2
 | [],_,_,_,h=>by simp at h
 | q :: r,0,p,_,h=>by
  cases h;exact j1m rfl
 | q :: r,i+1,p,hn,h=>by
  rw [Be,Cf] at hn;have hm:r[i]?=some p:=by simpa using h
  rw [j1l fun e=>hn.1 (by rw [e];exact Am.mpr ⟨p,An hm,rfl⟩)];exact k5t hn.2 hm
def j2j(n:Net)(as:List (Addr×Addr)):List (Key×V):=List.zipWith (fun r a=>(Sum.inr r.1,V.ref a.2)) n as
theorem j5r:∀(n:Net) (as:List (Addr×Addr)),as.length=n.length->(j2j n as).map (·.1)=(n.map (·.1)).map Sum.inr
 | [],[],_=>rfl
 | [],_ :: _,h=>by simp at h
 | _ :: _,[],h=>by simp at h
 | r :: n,a :: as,h=>by
  have:=j5r n as (by simpa using h);show Sum.inr r.1 :: (j2j n as).map (·.1)=_;rw [this];rfl
theorem j8i{n:Net}{as:List (Addr×Addr)}{i:Nat}{r:Str×List Str}{a:Addr×Addr}(h1:n[i]?=some r)(h2:as[i]?=some a):(j2j n as)[i]?=some (Sum.inr r.1,.ref a.2):=by
 unfold j2j;rw [List.getElem?_zipWith,h1,h2]
theorem k3j{l:List Str}(h:l.Nodup):(l.map (Sum.inr:Str->Key)).Nodup:=by
 rw [Ej,List.pairwise_map];exact(Ej.mp h).imp fun h q=>h (Sum.inr.inj q)
end
def nameAt(n:Net)(r:Nat):Str:=((n[r]?).map (·.1)).getD ⟨#[]⟩
def key(n:Net)(e:Nt.End):List Key:=[Sum.inr (nameAt n e.1),Sum.inl (e.2:Int)]
abbrev TN(n:Net)(e:Nt.End):HO:=Tn (nameAt n e.1) (e.2:Int)
theorem j28{n:Net}{r:Nat}(h:r < n.length):nameAt n r=n[r].1:=by unfold nameAt;rw [Ac h];rfl
theorem j4t{n:Net}(hN:(n.map (·.1)).Nodup){a b:Nt.End}(ha:a.1 < n.length)(hb:b.1 < n.length)(h:key n a=key n b):a=b:=by
 unfold key at h
 injection h with h1 h2
 injection h2 with h2 _
 have e1:=Sum.inr.inj h1;have e2:=Sum.inl.inj h2;rw [j28 ha,j28 hb] at e1;have e3:a.1=b.1:=by
  have la:a.1 < (n.map (·.1)).length:=by rw [Aa];exact ha
  have lb:b.1 < (n.map (·.1)).length:=by rw [Aa];exact hb
  refine(Ey (i:=a.1) (j:=b.1) (h₀:=la) (h₁:=lb) hN).mp ?_;rw [Db,Db];exact e1
 exact Prod.ext e3 (by omega)
theorem j6d{n:Net}{r p:Nat}{z:Str}(hr:r < n.length)(hz:(row n r)[p]?=some z):∃ rest,j06 n=(j06 (n.take r)++j0q r ((row n r).take p) 0)++(z,(r,p)) :: rest:=by
 have e1:j06 n=j06 (n.take (r+1))++j05 (0+(n.take (r+1)).length) (n.drop (r+1)):=by
  have:=j2e (n.take (r+1)) (n.drop (r+1)) 0;rw [Ck] at this;exact this
 have e2:j0q r (row n r) 0=j0q r ((row n r).take (p+1)) 0++j0q r ((row n r).drop (p+1)) (0+((row n r).take (p+1)).length):=by
  unfold j0q;rw [<- Al,<- List.zipIdx_append,Ck]
 rw [e1,j3y hr,e2,j2f hz];refine⟨j0q r ((row n r).drop (p+1)) (0+((row n r).take (p+1)).length)++j05 (0+(n.take (r+1)).length) (n.drop (r+1)),?_⟩;simp only [Bl,List.cons_append,Ep]
theorem j89{κ:Type} [DecidableEq κ] (kvs:List (κ×V)) (k:κ) (v:V):(putK kvs k v).map (·.1)=if k∈kvs.map (·.1) then kvs.map (·.1) else kvs.map (·.1)++[k]:=by
 have e:(kvs.any fun kv=>decide (kv.1=k))=decide (k∈kvs.map (·.1)):=by
  rw [By,Co,decide_eq_true_iff,Am];exact⟨fun⟨p,h1,h2⟩=>⟨p,h1,of_decide_eq_true h2⟩,fun⟨p,h1,h2⟩=>⟨p,h1,decide_eq_true h2⟩⟩
 unfold putK;rw [e]
 by_cases h:k∈kvs.map (·.1)
 ·rw [if_pos (decide_eq_true h),if_pos h,Cc];refine List.map_congr_left fun p _=>?_;show(if p.1=k then(p.1,v) else p).1=p.1
  split <;> rfl
 ·rw [if_neg (by simpa using h),if_neg h,Al];rfl
theorem mem_putK{κ:Type} [DecidableEq κ] {kvs:List (κ×V)} {k j:κ} {v:V}:j∈(putK kvs k v).map (·.1)↔j∈kvs.map (·.1)\/j=k:=by
 rw [j89]
 split
 ·exact⟨.inl,fun h=>h.elim id fun e=>by rw [e];assumption⟩
 ·rw [Ba,Ah]
theorem j6u{κ:Type} [DecidableEq κ] {kvs:List (κ×V)} {k:κ} {v:V} (h:(kvs.map (·.1)).Nodup):((putK kvs k v).map (·.1)).Nodup:=by
 rw [j89]
 split
 ·exact h
 ·rename_i hn;exact j5v h hn
structure OEI(n:Net)(done:List (Str×Nt.End))(H:Hp)(kM:List (Key×V))(kO:List (List Key×V)):Prop where
 m0:∀ z,j2b done z=[]->valV kM (Sum.inr z)=none
 m1:∀ z a rest,j2b done z=a :: rest->∃ t,valV kM (Sum.inr z)=some (.ref t)/\H t=some (TN n a)
 o:∀ z a b rest,j2b done z=a :: b :: rest->(∃ u,valV kO (key n a)=some (.ref u)/\H u=some (TN n b))/\∃ u,valV kO (key n b)=some (.ref u)/\H u=some (TN n a)
 sub:∀ p∈done,j15 n p.2=some p.1
 lenM:kM.length<=done.length
 lenO:kO.length<=2 * done.length
 ks:∀ k∈kO.map (·.1),∃ p∈done,k=key n p.2
 nd:(kO.map (·.1)).Nodup
theorem OEI.keep{n:Net}{done:List (Str×Nt.End)}{H H':Hp}{kM:List (Key×V)}{kO:List (List Key×V)}(I:OEI n done H kM kO)(k:∀ t p j,H t=some (Tn p j)->H' t=some (Tn p j)):OEI n done H' kM kO where
 m0:=I.m0
 m1:=fun z a rest h=>let ⟨t,e1,e2⟩:=I.m1 z a rest h;⟨t,e1,k _ _ _ e2⟩
 o:=fun z a b rest h=>let ⟨⟨u,e1,e2⟩,⟨v,e3,e4⟩⟩:=I.o z a b rest h;⟨⟨u,e1,k _ _ _ e2⟩,⟨v,e3,k _ _ _ e4⟩⟩
 sub:=I.sub
 lenM:=I.lenM
 lenO:=I.lenO
 ks:=I.ks
 nd:=I.nd
theorem j3b{done:List (Str×Nt.End)}{z:Str}{a:Nt.End}(h:a∈j2b done z):(z,a)∈done:=by
 unfold j2b at h;obtain⟨⟨y,b⟩,hm,rfl⟩:=Am.mp h;obtain⟨h1,h2⟩:=Dg.mp hm;have:y=z:=of_decide_eq_true h2;subst this;exact h1
theorem OEI.new{n:Net}{done:List (Str×Nt.End)}{H:Hp}{kM:List (Key×V)}{kO:List (List Key×V)}(I:OEI n done H kM kO){z:Str}{e:Nt.End}{t:Addr}(ht:H t=some (TN n e))(hz:j15 n e=some z)(h0:j2b done z=[]) :
  OEI n (done++[(z,e)]) H (putK kM (Sum.inr z) (.ref t)) kO where
 m0:=fun y hy=>by
  rw [j00] at hy;obtain⟨h1,h2⟩:=List.append_eq_nil_iff.mp hy;have hne:¬ z=y:=fun q=>by rw [if_pos q] at h2;cases h2
  rw [j1t,if_neg (fun q=>hne (Sum.inr.inj q).symm)];exact I.m0 y h1
 m1:=fun y a rest hy=>by
  rw [j00] at hy
  by_cases q:z=y
  ·subst q;rw [h0,if_pos rfl] at hy;cases hy;exact⟨t,by rw [j1t,if_pos rfl],ht⟩
  ·rw [if_neg q,Bk] at hy;obtain⟨u,e1,e2⟩:=I.m1 y a rest hy;exact⟨u,by rw [j1t,if_neg (fun p=>q (Sum.inr.inj p).symm)];exact e1,e2⟩
 o:=fun y a b rest hy=>by
  rw [j00] at hy
  by_cases q:z=y
  ·subst q;rw [h0,if_pos rfl] at hy;cases hy
  ·rw [if_neg q,Bk] at hy;exact I.o y a b rest hy
 sub:=fun p hp=>by
  rcases Ba.mp hp with h | h
  ·exact I.sub p h
  ·rw [Ah.mp h];exact hz
 lenM:=by
  have:=j09 kM (Sum.inr z) (.ref t);have:=I.lenM;rw [Af,Do];omega
 lenO:=by
  have:=I.lenO;rw [Af,Do];omega
 ks:=fun k hk=>let ⟨p,hp,e⟩:=I.ks k hk;⟨p,Ct _ hp,e⟩
 nd:=I.nd
theorem OEI.old{n:Net}(hN:(n.map (·.1)).Nodup){done:List (Str×Nt.End)}{H:Hp}{kM:List (Key×V)}{kO:List (List Key×V)}(I:OEI n done H kM kO){z:Str}{e a:Nt.End}{te tm:Addr}(ht:H te=some (TN n e))(hm:H tm=some (TN n a))(hz:j15 n e=some z)(h1:j2b done z=[a])(hae:a≠e) :
  OEI n (done++[(z,e)]) H kM (putK (putK kO (key n e) (.ref tm)) (key n a) (.ref te)) where
 m0:=fun y hy=>by
  rw [j00] at hy;exact I.m0 y (List.append_eq_nil_iff.mp hy).1
 m1:=fun y c rest hy=>by
  rw [j00] at hy
  by_cases q:z=y
  ·subst q;rw [h1,if_pos rfl] at hy;cases hy;exact I.m1 z a [] h1
  ·rw [if_neg q,Bk] at hy;exact I.m1 y c rest hy
 o:=fun y c b rest hy=>by
  rw [j00] at hy;have ta:j15 n a=some z:=I.sub (z,a) (j3b (by rw [h1];exact Ah.mpr rfl))
  by_cases q:z=y
  ·subst q;rw [h1,if_pos rfl] at hy;cases hy;refine⟨⟨te,by rw [j1t,if_pos rfl],ht⟩,⟨tm,?_,hm⟩⟩;rw [j1t,if_neg (fun p=>hae (j4t hN (j16 hz) (j16 ta) p).symm),j1t,if_pos rfl]
  ·rw [if_neg q,Bk] at hy;have tc:j15 n c=some y:=I.sub (y,c) (j3b (by rw [hy];exact Aw));have tb:j15 n b=some y:=I.sub (y,b) (j3b (by rw [hy];exact Aq _ Aw));have ne:∀ x:Nt.End,j15 n x=some y->¬ key n x=key n a/\¬ key n x=key n e:=fun x hx=>by
    refine⟨fun p=>?_,fun p=>?_⟩
    ·have:=j4t hN (j16 hx) (j16 ta) p;rw [this,ta] at hx;exact q (Option.some.inj hx)
    ·have:=j4t hN (j16 hx) (j16 hz) p;rw [this,hz] at hx;exact q (Option.some.inj hx)
   obtain⟨⟨u,e1,e2⟩,⟨v,e3,e4⟩⟩:=I.o y c b rest hy;refine⟨⟨u,?_,e2⟩,⟨v,?_,e4⟩⟩
   ·rw [j1t,if_neg (ne c tc).1,j1t,if_neg (ne c tc).2];exact e1
   ·rw [j1t,if_neg (ne b tb).1,j1t,if_neg (ne b tb).2];exact e3
 sub:=fun p hp=>by
  rcases Ba.mp hp with h | h
  ·exact I.sub p h
  ·rw [Ah.mp h];exact hz
 lenM:=by
  have:=I.lenM;rw [Af,Do];omega
 lenO:=by
  have h1:=j09 (putK kO (key n e) (.ref tm)) (key n a) (.ref te);have h2:=j09 kO (key n e) (.ref tm);have:=I.lenO;rw [Af,Do];omega
 ks:=fun k hk=>by
  rcases mem_putK.mp hk with hk | rfl
  ·rcases mem_putK.mp hk with hk | rfl
   ·obtain⟨p,hp,e⟩:=I.ks k hk;exact⟨p,Ct _ hp,e⟩
   ·exact⟨(z,e),As _ (Ah.mpr rfl),rfl⟩
  ·exact⟨(z,a),Ct _ (j3b (by rw [h1];exact Ah.mpr rfl)),rfl⟩
 nd:=j6u (j6u I.nd)
theorem OEI.whole{n:Net}(T:j1s n){H:Hp}{kM:List (Key×V)}{kO:List (List Key×V)}(I:OEI n (j06 n) H kM kO){e:Nt.End}(he:e∈ends n):∃ u,valV kO (key n e)=some (.ref u)/\H u=some (TN n (other n e)):=by
 obtain⟨z,hz⟩:=mem_ends.mp he;obtain⟨a,b,hp,hab,hor⟩:=j8b T hz;have hp':j2b (j06 n) z=a :: b :: []:=hp;have ta:j15 n a=some z:=mem_pos.mp (by rw [hp];simp);have tb:j15 n b=some z:=mem_pos.mp (by rw [hp];simp);obtain⟨o1,o2⟩:=I.o z a b [] hp'
 rcases hor with rfl | rfl
 ·have:b=other n e:=((k3l T hz).mp tb).resolve_left (Ne.symm hab);rw [<- this];exact o1
 ·have:a=other n e:=((k3l T hz).mp ta).resolve_left hab;rw [<- this];exact o2
def spOE:Sp:=fun vs H Q _=>∃(R:Addr) (as:List (Addr×Addr)) (n:Net),vs=[.ref R]/\RowsAt H R as n/\(n.map (·.1)).Nodup/\j1s n/\n.length<=1000/\(ties n).length<=1000 /\
 ∀(d:Addr) (kvs:List (List Key×V)) (H':Hp),Same H H'->H d=none->H' d=some (.dT kvs)->(∀ e∈ends n,∃ u,valV kvs (key n e)=some (.ref u)/\H' u=some (TN n (other n e)))->(kvs.map (·.1)).Nodup->(∀ k∈kvs.map (·.1),∃ e∈ends n,k=key n e)->kvs.length<=2000->Q (.ref d) H'
section
variable{X:Cx}{D:Ends}{σ:St}{H:Hp}{body:List Stmt}
theorem k7z{tg:Expr}{a b:Addr}{xs ys:List V}{after:St->Hp->Prop}(hlen:xs.length=ys.length)(Pv:Nat->St->Hp->Prop)(h0:Pv 0 σ H)(hl:∀ i σ H,i<=xs.length->Pv i σ H->SqL X.K H a xs/\SqL X.K H b ys)
  (hs:∀ i x y T σ H,xs[i]?=some x->ys[i]?=some y->Pv i σ H->H T=none->Eg X tg (.ref T) σ (upd H T (.tup [x,y])) fun σ2 H2=>Run X body {D with nx:=Pv (i+1),ct:=Pv (i+1),bk:=after} σ2 H2) (hd:∀ σ H,Pv xs.length σ H->after σ H):Loop X tg body (Itz X.K a b) D after σ H:=by
 refine⟨fun i m σ H=>m=xs.length - i/\i<=xs.length/\Pv i σ H,⟨xs.length,by simp,Bi _,h0⟩,?_⟩;rintro i m σ H ⟨rfl,hi,p⟩;obtain⟨q1,q2⟩:=hl i σ H hi p
 by_cases hlt:i < xs.length
 ·refine .inr ⟨⟨xs,ys,xs[i],ys[i],q1,q2,Ac hlt,Ac (by omega)⟩,Pv (i+1),fun σ' H' p'=>⟨xs.length - (i+1),by omega,rfl,hlt,p'⟩,fun v H' y=>?_⟩;obtain⟨T,x,y,hT,rfl,rfl,y1,y2⟩:=y;exact hs i x y T σ _ (y1 xs q1) (y2 ys q2) p hT
 ·have e:i=xs.length:=by omega
  subst e;exact .inl ⟨⟨xs,ys,q1,q2,.inl (Ag _)⟩,hd σ H p⟩
end
end J0
namespace J0
open PySem L2 Nt Sort2
section
variable{P:Program}{w:World}{K:PySem.W.Frag}{mg:Str->Option Value}{base:Heap}
abbrev NOE:List Str:=["rows","met","others","row","end","tie"]
theorem scOE:FnScope NOE ["rows"] (j0f j99):=⟨rfl,rfl,rfl,by decide +kernel,rfl,by decide +kernel,by decide +kernel⟩
theorem j9j{H:Hp}{t d:Addr}{xs:List V}{kvs:List (Key×V)}(h:H t=some (.tup xs))(g:H d=some (.dK kvs)):t≠d:=j11 h g fun z=>nomatch z
theorem j2i{H:Hp}{t d:Addr}{xs:List V}{kvs:List (List Key×V)}(h:H t=some (.tup xs))(g:H d=some (.dT kvs)):t≠d:=j11 h g fun z=>nomatch z
theorem q4y{f:Addr}{fd:FuncData}(F:Fun K "other_ends" "other_ends" j99 f fd)(T:Txt mg)
  (GE:Has P w K mg base 1 "ends_round" ["row"] k0q) :
  FnOk P w K mg base CX0 2 f fd ["rows"] spOE:=by
 refine F.gb scOE (fun vs H Q E h=>?_) (fun b0 H vs Q E hr h=>?_)
 ·obtain⟨R,as,n,rfl,_⟩:=h;rfl
 obtain⟨R,as,n,rfl,hR,hN,hT,hn,ht,q⟩:=h;have nd:=scOE.nd;have hal:=hR.len;have hu:=hr.u1;show Run _ _ _ [some (.ref R),none,none,none,none,none] H;refine j0i 1 nd (j7z fun dm hdm=>?_);refine j0i 2 nd (k54 fun dO hdO=>?_);show Run _ _ _ [some (.ref R),some (.ref dm),some (.ref dO),none,none,none] (upd (upd H dm (.dK [])) dO (.dT []));have ndd:dO≠dm:=fun e=>by rw [e,j0b] at hdO;cases hdO
 have hdO0:H dO=none:=by rw [j0e ndd] at hdO;exact hdO
 have em:(upd (upd H dm (.dK [])) dO (.dT [])) dm=some (.dK []):=by rw [j0e (Ne.symm ndd),j0b]
 have eo:(upd (upd H dm (.dK [])) dO (.dT [])) dO=some (.dT []):=j0b;have s0:Same H (upd (upd H dm (.dK [])) dO (.dT [])):=fun b o h=>by rw [j0e (j0h h hdO0),j0e (j0h h hdm)];exact h
 generalize upd (upd H dm (.dK [])) dO (.dT [])=H1 at em eo s0 ⊢;refine j13 (ev_v 0 ⟨R,rfl,⟨_,SqL.of (s0 _ _ hR.lst)⟩,j1o (xs:=as.map fun a=>V.ref a.1) (fun r σ H'=>∃ kM kO u1 u2 u3,Same H H'/\H' dm=some (.dK kM)/\H' dO=some (.dT kO)/\OEI n (j06 (n.take r)) H' kM kO/\σ=[some (.ref R),some (.ref dm),some (.ref dO),u1,u2,u3])
  ⟨[],[],_,_,_,s0,em,eo,⟨fun _ _=>rfl,fun z a rest h=>(by cases h),fun z a b rest h=>(by cases h),fun p h=>(by cases h),Bi _,Bi _,fun k h=>(by cases h),Cm⟩,rfl⟩ ?_ ?_ ?_⟩)
 ·rintro r σ H' _ ⟨kM,kO,u1,u2,u3,sm,_⟩;exact SqL.of (sm _ _ hR.lst)
 ·rintro r x σ H' hx ⟨kM,kO,u1,u2,u3,sm,em',eo',I,rfl⟩;have hi:r < n.length:=by
   have:=(Ab.mp hx).1;rw [Aa] at this;omega
  obtain⟨a,ea,eat,et,el,er⟩:=(hR.same sm).at hi;rw [Ae,ea] at hx;cases hx;have hrl:(row n r).length<=1000:=Bs (j2r n r) ht;have enm:nameAt n r=n[r].1:=j28 hi;refine j0n 3 nd ?_;refine j7c (q20 rfl T.zip (ta:=tEa _ _) j4o) ?_;show Ea _ _ _ _ _;refine j0a (j0s GE hr (j0a (ev_v 3 (j0c ⟨a.1,a.2,n[r].1,row n r,rfl,et,el,hrl,fun L ts H5 s5 n5 e5 l5 t5=>?_⟩))));refine j0a (j0o j0p (ev_v 3 (j0d ⟨a.1,_,_,.ref a.2,rfl,rfl,SqT.of (s5 _ _ et),rfl,j0c ⟨L,a.2,rfl,⟨_,SqL.of e5⟩,⟨_,SqL.of (s5 _ _ el)⟩,?_⟩⟩)));have em5:=s5 _ _ em';have eo5:=s5 _ _ eo';have el5:=s5 _ _ el;refine k7z (xs:=ts.map V.ref) (ys:=(row n r).map V.str) (by rw [Aa,Aa,l5]) (fun p σ' H''=>∃ kM kO u2 u3,(∀ b o,b≠dm->b≠dO->H5 b=some o->H'' b=some o)/\H'' dm=some (.dK kM)/\H'' dO=some (.dT kO)/\OEI n (j06 (n.take r)++j0q r ((row n r).take p) 0) H'' kM kO/\σ'=[some (.ref R),some (.ref dm),some (.ref dO),some (.ref a.1),u2,u3])
   ⟨kM,kO,_,_,fun b o _ _ h=>h,em5,eo5,?_,rfl⟩ ?_ ?_ ?_
  ·have:j0q r ((row n r).take 0) 0=[]:=by simp [j0q]
   rw [this,Bk];exact I.keep fun t p j h=>s5 _ _ h
  ·rintro p σ' H'' _ ⟨kM,kO,u2,u3,kb,_,_,_,rfl⟩;exact⟨SqL.of (kb _ _ (j11 e5 em5 fun z=>nomatch z) (j11 e5 eo5 fun z=>nomatch z) e5),SqL.of (kb _ _ (j11 el5 em5 fun z=>nomatch z) (j11 el5 eo5 fun z=>nomatch z) el5)⟩
  ·rintro p x y Tt σ' H'' hx hy ⟨kM,kO,u2,u3,kb,em6,eo6,I6,rfl⟩ hTt;rw [Ae,Ar] at hx hy;obtain⟨te,hte,rfl⟩:=hx;obtain⟨z,hz,rfl⟩:=hy;have e5t:=t5 p te hte;have ete:H'' te=some (Tn n[r].1 p):=kb _ _ (j9j e5t em5) (j2i e5t eo5) e5t;have htz:j15 n (r,p)=some z:=hz;obtain⟨rest,hsp⟩:=j6d hi hz;have hlen:(j06 (n.take r)++j0q r ((row n r).take p) 0).length < 1000:=by
    have h1:(j06 n).length=(ties n).length:=by
     have:=congrArg List.length (j1p n 0);rw [Aa] at this;exact this
    have h2:=congrArg List.length hsp;rw [Af,Bd] at h2;omega
   have hnext:j06 (n.take r)++j0q r ((row n r).take (p+1)) 0=(j06 (n.take r)++j0q r ((row n r).take p) 0)++[(z,(r,p))]:=by
    rw [j2f hz,Bl]
   have hfresh:∀ b,b∈j2b (j06 (n.take r)++j0q r ((row n r).take p) 0) z->b≠(r,p):=fun b hb e=>by
    have hm:=j3b hb;have hnd:=j60 n;unfold ends at hnd;rw [hsp,Al,Be] at hnd;exact(Cr.mp hnd).2.2 _ (Am.mpr ⟨_,hm,rfl⟩) _ Aw e
   have hcnt:(j2b (j06 (n.take r)++j0q r ((row n r).take p) 0) z).length<=1:=by
    have h1:(pos n z).length=2:=by rw [j96];exact hT z (j7i htz)
    have h2:pos n z=j2b (j06 (n.take r)++j0q r ((row n r).take p) 0) z++j2b ((z,(r,p)) :: rest) z:=by
     show j2b (j06 n) z=_;rw [hsp];unfold j2b;rw [List.filter_append,Al]
    have h3:1<=(j2b ((z,(r,p)) :: rest) z).length:=by
     unfold j2b;rw [Cv,if_pos (by simp)];simp
    rw [h2,Af] at h1;omega
   generalize j06 (n.take r)++j0q r ((row n r).take p) 0=done at I6 hlen hnext hfresh hcnt;rw [hnext];have hTm:Tt≠dm:=fun e=>by rw [e,em6] at hTt;cases hTt
   have hTo:Tt≠dO:=fun e=>by rw [e,eo6] at hTt;cases hTt
   have s7:=j0g hTt (.tup [.ref te,.str z]);have kb7:∀ b o,b≠dm->b≠dO->H5 b=some o->(upd H'' Tt (.tup [.ref te,.str z])) b=some o:=fun b o h1 h2 h=>s7 _ _ (kb b o h1 h2 h);have em7:=s7 _ _ em6;have eo7:=s7 _ _ eo6;have I7:=I6.keep (H':=upd H'' Tt (.tup [.ref te,.str z])) fun t p j h=>s7 _ _ h;have ete7:=s7 _ _ ete;refine j21 rfl (SqT.of j0b) (j0n 4 nd (j0n 5 nd ?_));show Run _ _ _ [some (.ref R),some (.ref dm),some (.ref dO),some (.ref a.1),some (.ref te),some (.str z)] _;generalize upd H'' Tt (.tup [.ref te,.str z])=H7 at kb7 em7 eo7 I7 ete7;have ete8:H7 te=some (TN n (r,p)):=by
    show H7 te=some (Tn (nameAt n r) p);rw [enm];exact ete7
   have hM:kM.length < sizeLine:=j03 (by have:=I7.lenM;omega);have hO:kO.length < sizeLine:=j03 (by have:=I7.lenO;omega);refine j1g (q13 hu (ev_v 5 (ev_v 1 ⟨dm,_,rfl,DGet.k (k:=Sum.inr z) em7,?_⟩)))
   match hpz:j2b done z with
   | []=>
    rw [I7.m0 z hpz];show if false=true then _ else _;rw [if_neg Ak];refine j5j hu (ev_v 4 (ev_v 1 (ev_v 5 ⟨dm,_,rfl,DPut.k (k:=Sum.inr z) em7 hM,j0j (j0j ⟨_,kO,_,_,fun b o h1 h2 h=>?_,j0b,?_,?_,rfl⟩)⟩)))
    ·rw [j0e h1];exact kb7 b o h1 h2 h
    ·rw [j0e ndd];exact eo7
    ·exact(I7.new ete8 htz hpz).keep fun t p j h=>by rw [j0e (j9j h em7)];exact h
   | b :: more=>
    have hmore:more=[]:=by
     rw [hpz,Bd] at hcnt;exact Bg.mp (by omega)
    subst hmore;obtain⟨tm,vm,etm⟩:=I7.m1 z b [] hpz;rw [vm];show if true=true then _ else _;rw [if_pos rfl];have hbe:b≠(r,p):=hfresh b (by rw [hpz];exact Ah.mpr rfl);refine j5j hu (j38 hu (ev_v 1 (ev_v 5 ⟨dm,.ref tm,rfl,by rw [<- vm];exact DGet.k (k:=Sum.inr z) em7,ev_v 2 (ev_v 4 ⟨dO,_,rfl,DPut.t (k:=key n (r,p)) eo7 ete8 hO,?_⟩)⟩)));have hO2:=j09 kO (key n (r,p)) (.ref tm);have hO3:=I7.lenO;have em8:(upd H7 dO (.dT (putK kO (key n (r,p)) (.ref tm)))) dm=some (.dK kM):=by rw [j0e (Ne.symm ndd)];exact em7
    have etm8:(upd H7 dO (.dT (putK kO (key n (r,p)) (.ref tm)))) tm=some (TN n b):=by rw [j0e (j2i etm eo7)];exact etm
    refine j5j hu (ev_v 4 (ev_v 2 (j38 hu (ev_v 1 (ev_v 5 ⟨dm,.ref tm,rfl,by rw [<- vm];exact DGet.k (k:=Sum.inr z) em8,dO,_,rfl,DPut.t (k:=key n b) j0b etm8 (j03 (by omega)),j0j (j0j ⟨kM,_,_,_,fun b o h1 h2 h=>?_,?_,j0b,?_,rfl⟩)⟩)))))
    ·rw [j0e h2,j0e h2];exact kb7 b o h1 h2 h
    ·rw [j0e (Ne.symm ndd)];exact em8
    ·exact(I7.old hN ete8 etm htz hpz hbe).keep fun t p j h=>by rw [j0e (j2i h eo7),j0e (j2i h eo7)];exact h
  ·rintro σ' H'' ⟨kM,kO,u2,u3,kb,em6,eo6,I6,rfl⟩;refine j0j ⟨kM,kO,_,_,_,fun b o h=>?_,em6,eo6,?_,rfl⟩
   ·exact kb b o (j0h h hdm) (j0h h hdO0) (s5 _ _ (sm _ _ h))
   ·rw [Aa,l5,Bw] at I6;rw [j3y hi];exact I6
 ·rintro σ H' ⟨kM,kO,u1,u2,u3,sm,em',eo',I,rfl⟩;rw [Aa,hal,Bw] at I;have lO:=I.lenO;have ls:(j06 n).length=(ties n).length:=by rw [<- j1p n 0,Aa];rfl
  exact j0l (ev_v 2 (q dO kO H' sm hdO0 eo' (fun e he=>I.whole hT he) I.nd (fun k hk=>let ⟨p,hp,e⟩:=I.ks k hk;⟨p.2,Am.mpr ⟨p,hp,rfl⟩,e⟩) (by omega)))
end
end J0
namespace J0
open PySem L2 Nt Sort2
def AtN(n:Net)(H:Hp)(us:List Addr)(done:List (Str×Nt.End)):Prop:=us.length=done.length/\∀(j:Nat) u p,us[j]?=some u->done[j]?=some p->H u=some (TN n p.2)
theorem AtN.keep{n:Net}{H H':Hp}{us:List Addr}{done:List (Str×Nt.End)}(h:AtN n H us done)(k:∀ t p j,H t=some (Tn p j)->H' t=some (Tn p j)):AtN n H' us done:=⟨h.1,fun j u p h1 h2=>k _ _ _ (h.2 j u p h1 h2)⟩
theorem AtN.snoc{n:Net}{H H':Hp}{us:List Addr}{done:List (Str×Nt.End)}{u:Addr}{p:Str×Nt.End}(h:AtN n H us done)(k:∀ t p j,H t=some (Tn p j)->H' t=some (Tn p j))(hu:H' u=some (TN n p.2)):AtN n H' (us++[u]) (done++[p]):=by
 obtain⟨hl,ha⟩:=h;refine⟨by rw [Af,Af,hl];rfl,fun j v x hv hx=>?_⟩
 by_cases hj:j < us.length
 ·rw [Ax hj] at hv;rw [Ax (by omega)] at hx;exact k _ _ _ (ha j v x hv hx)
 ·rw [Bb (by omega)] at hv hx;have hj2:j - us.length=0:=by
   have:=(Ab.mp hv).1;simp at this;omega
  have hj3:j - done.length=0:=by omega
  rw [hj2] at hv;rw [hj3] at hx;cases hv;cases hx;exact hu
section
variable{X:Cx}{tg:Expr}{ifs:List Expr}{inner:Sem Unit}{σ:St}{H:Hp}{a b:Addr}{xs ys:List V}{after:St->Hp->Prop}
theorem j2k(Pv:Nat->St->Hp->Prop)(h0:Pv 0 σ H)(hl:∀ i σ' H',i<=xs.length->Pv i σ' H'->SqL X.K H' a xs)
  (hs:∀ i x σ' H',xs[i]?=some x->Pv i σ' H'->Eg X tg x σ' H' fun σ2 H3=>Ei X ifs σ2 H3 fun b H4=>if b=true then Ein X inner σ2 H4 (Pv (i+1)) else Pv (i+1) σ2 H4)
  (hd:∀ σ' H',Pv xs.length σ' H'->after σ' H'):j2m X tg ifs inner (Itl X.K a) after σ H:=by
 refine⟨fun i m σ' H'=>m=xs.length - i/\i<=xs.length/\Pv i σ' H',⟨_,rfl,Bi _,h0⟩,?_⟩;rintro i m σ' H' ⟨rfl,hi,p⟩;have q:=hl i σ' H' hi p
 by_cases hlt:i < xs.length
 ·refine .inr ⟨⟨xs,xs[i],q,by simp [hlt]⟩,Pv (i+1),fun σ' H' p'=>⟨xs.length - (i+1),by omega,rfl,hlt,p'⟩,fun x H2 y=>?_⟩;obtain⟨e,y⟩:=y;subst e;exact hs i x σ' _ (y xs q) p
 ·have e:i=xs.length:=by omega
  subst e;exact .inl ⟨⟨xs,q,Ag _⟩,hd σ' H' p⟩
end
def k0p:Sp:=fun vs H Q _=>∃(R:Addr) (as:List (Addr×Addr)) (n:Net),vs=[.ref R]/\RowsAt H R as n/\n.length<=1000/\(ties n).length<=1000 /\
 ∀(L:Addr) (ts:List Addr) (H':Hp),Same H H'->H L=none->H' L=some (.lst (ts.map V.ref))->AtN n H' ts (j06 n)->Q (.ref L) H'
section
variable{P:Program}{w:World}{K:PySem.W.Frag}{mg:Str->Option Value}{base:Heap}
abbrev NO1:List Str:=["rows"]
abbrev NO2:List Str:=["rows","row","end"]
theorem scOrder:FnScope NO1 ["rows"] (j0f k03):=⟨rfl,rfl,rfl,by decide +kernel,rfl,by decide +kernel,by decide +kernel⟩
theorem q2i:NO2.Nodup:=by decide +kernel
theorem k55{f:Addr}{fd:FuncData}(F:Fun K "ends_in_order" "ends_in_order" k03 f fd)(T:Txt mg)
  (GE:Has P w K mg base 1 "ends_round" ["row"] k0q) :
  FnOk P w K mg base CX0 2 f fd ["rows"] k0p:=by
 refine F.gb scOrder (fun vs H Q E h=>?_) (fun b0 H vs Q E hr h=>?_)
 ·obtain⟨R,as,n,rfl,_⟩:=h;rfl
 obtain⟨R,as,n,rfl,hR,hn,ht,q⟩:=h;have nd:=scOrder.nd;have hal:=hR.len;show Run _ _ _ [some (.ref R)] H;refine j0l (k53 (j0f k03) NO1 NO2 2 (j22 j02) (ev_v 0 ⟨R,rfl,⟨_,SqL.of hR.lst⟩,fun D hD cl C s₀ H₀ ex=>?_⟩));refine j2k (xs:=as.map fun a=>V.ref a.1) (fun r σ' H'=>(∃ v1 v2,σ'=[some (.ref R)]++[v1,v2])/\∃ ts:List Addr,Same H H'/\H' D=some (.lst (ts.map V.ref))/\AtN n H' ts (j06 (n.take r))) ⟨⟨none,none,rfl⟩,[],j0g hD _,j0b,⟨rfl,fun j u p h=>(by cases h)⟩⟩ ?_ ?_ ?_
 ·rintro r σ' H' _ ⟨_,ts,sm,_⟩;exact SqL.of (sm _ _ hR.lst)
 ·rintro r x σ' H' hx ⟨⟨v1,v2,rfl⟩,ts,sm,eD,AN⟩;have hi:r < n.length:=by
   have:=(Ab.mp hx).1;rw [Aa] at this;omega
  obtain⟨a,ea,eat,et,el,er⟩:=(hR.same sm).at hi;rw [Ae,ea] at hx;cases hx;have hrl:(row n r).length<=1000:=Bs (j2r n r) ht;refine j0n 1 q2i ?_;refine j3c ?_;rw [if_pos rfl];refine k70 rfl rfl (j22 j02) (j0s GE hr (j0a (ev_v 1 (j0c ⟨a.1,a.2,n[r].1,row n r,rfl,et,el,hrl,fun L us H5 s5 n5 e5 l5 t5=>⟨L,rfl,⟨_,SqL.of e5⟩,?_⟩⟩))));have nLD:L≠D:=fun e=>by rw [e,eD] at n5;cases n5
  refine j2k (xs:=us.map V.ref) (fun p σ' H''=>(∃ v2,σ'=[some (.ref R)]++[some (.ref a.1),v2])/\∃ ts:List Addr,(∀ b o,b≠D->H5 b=some o->H'' b=some o)/\H'' D=some (.lst (ts.map V.ref))/\AtN n H'' ts (j06 (n.take r)++j0q r ((row n r).take p) 0))
   ⟨⟨_,rfl⟩,ts,fun b o _ h=>h,s5 _ _ eD,by simpa [j0q] using AN.keep (H':=H5) fun t p j h=>s5 _ _ h⟩ ?_ ?_ ?_
  ·rintro p σ' H'' _ ⟨_,ts,kb,_⟩;exact SqL.of (kb _ _ nLD e5)
  ·rintro p x σ' H'' hx ⟨⟨v2,rfl⟩,ts,kb,eD6,AN6⟩;rw [Ae,Ar] at hx;obtain⟨te,hte,rfl⟩:=hx;have hp:p < (row n r).length:=by have:=(Ab.mp hte).1;omega
   have hz:(row n r)[p]?=some (row n r)[p]:=Ac hp;generalize (row n r)[p]=z at hz;have e5t:=t5 p te hte;have nte:te≠D:=j11 e5t (s5 _ _ eD) fun z=>nomatch z;have ete:=kb _ _ nte e5t;obtain⟨rest,hsp⟩:=j6d hi hz;have hlen:ts.length < 1000:=by
    have h1:(j06 n).length=(ties n).length:=by
     have:=congrArg List.length (j1p n 0);rw [Aa] at this;exact this
    have h2:=congrArg List.length hsp;rw [Af,Bd] at h2;have:=AN6.1;omega
   refine j0n 2 q2i ?_;refine j3c ?_;rw [if_pos rfl];refine k7h (ev_v 2 ⟨ts.map V.ref,eD6,by rw [Aa];exact j03 (by omega),⟨_,rfl⟩,ts++[te],fun b o hb h=>by rw [j0e hb];exact kb b o hb h,by rw [j0b,Al];rfl,?_⟩);rw [j2f hz,<- Bl];refine AN6.snoc (fun t p j h=>by rw [j0e (j11 h eD6 fun z=>nomatch z)];exact h) ?_;rw [j0e nte];show H'' te=some (Tn (nameAt n r) p);rw [j28 hi];exact ete
  ·rintro σ' H'' ⟨⟨v2,rfl⟩,ts,kb,eD6,AN6⟩;refine⟨⟨_,_,rfl⟩,ts,fun b o h=>kb b o (j0h h hD) (s5 _ _ (sm _ _ h)),eD6,?_⟩;rw [Aa,l5,Bw,<- j3y hi] at AN6;exact AN6
 ·rintro σ' H' ⟨_,ts,sm,eD,AN⟩;rw [Aa,hal,Bw] at AN;exact q D ts H' sm hD eD AN
end
section
variable{X:Cx}{H:Hp}
theorem j4p{k:Nat}(z:Str):EqD X H k (.str z) (.str z) true:=by
 have:=j2v (X:=X) (H:=H) (k:=k) (x:= .str z) (y:= .str z) rfl rfl;have e:eqV (.str z) (.str z)=true:=by show(z == z)=true;simp
 rw [e] at this;exact this
theorem k8n{p p':Str}{j j':Int}:∀(i:Nat) (u v:V),[V.str p,.int j][i]?=some u->[V.str p',.int j'][i]?=some v->EqD X H 0 u v (if i=0 then eqV (.str p) (.str p') else eqV (.int j) (.int j'))
 | 0,u,v,h1,h2=>by
  cases h1;cases h2;exact j2v rfl rfl
 | 1,u,v,h1,h2=>by
  cases h1;cases h2;exact j2v rfl rfl
 | i+2,u,v,h1,h2=>by simp at h1
theorem k8s(p p':Str)(j j':Int):(eqV (.str p) (.str p') && eqV (.int j) (.int j'))=decide (p=p'/\j=j'):=by
 show((p == p') && (j == j'))=_
 by_cases h:p=p' <;> by_cases h2:j=j' <;> simp [h,h2]
theorem q15{s t:Addr}{p p':Str}{j j':Int}(hs:H s=some (Tn p j))(ht:H t=some (Tn p' j')):RcD X H 1 (.ref s) (.ref t) (decide (p=p'/\j=j')):=by
 have:=j70 (X:=X) (k:=0) (fun i=>if i=0 then eqV (.str p) (.str p') else eqV (.int j) (.int j')) (SqT.of hs) (SqT.of ht) rfl k8n;rw [show([V.str p,.int j].length)=2 from rfl,all2] at this;have e:=k8s p p' j j';simp only [if_true] at this;rw [if_neg (by decide),e] at this;exact this
theorem k8q{s t:Addr}{p p':Str}{j j':Int}(hs:H s=some (Tn p j))(ht:H t=some (Tn p' j')):RnD X H 1 (.ref s) (.ref t) (decide (p=p'/\j=j')):=by
 have:=k5i (X:=X) (k:=0) (fun i=>if i=0 then eqV (.str p) (.str p') else eqV (.int j) (.int j')) (SqT.of hs) (SqT.of ht) rfl k8n;rw [show([V.str p,.int j].length)=2 from rfl,all2] at this;have e:=k8s p p' j j';simp only [if_true] at this;rw [if_neg (by decide),e] at this;exact this
theorem j7v{a b:Addr}{zs:List Str}(ha:H a=some (Ls zs))(hb:H b=some (Ls zs)):RcD X H 1 (.ref a) (.ref b) true:=by
 have q:=j5h (X:=X) (k:=0) (fun _=>true) (SqL.of (K:=X.K) ha) (SqL.of (K:=X.K) hb) rfl fun j x y hx hy=>by
  rw [hx] at hy;cases hy;rw [Ae,Ar] at hx;obtain⟨z,_,rfl⟩:=hx;exact j4p z
 rw [j2w] at q;exact q
theorem j5m{k:Nat}{a b:Addr}(h:RcD X H k (.ref a) (.ref b) true):EqD X H k (.ref a) (.ref b) true:=by
 by_cases e:a=b
 ·subst e;exact j5l
 ·exact k0t e h
theorem k6o{R R':Addr}{as bs:List (Addr×Addr)}{n:Net}(h:RowsAt H R as n)(g:RowsAt H R' bs n):RcD X H 3 (.ref R) (.ref R') true:=by
 have q:=j5h (X:=X) (k:=2) (fun _=>true) (SqL.of (K:=X.K) h.lst) (SqL.of (K:=X.K) g.lst) (by rw [Aa,Aa,h.len,g.len]) fun j x y hx hy=>by
  rw [Ae,Ar] at hx hy;obtain⟨a,ea,rfl⟩:=hx;obtain⟨b,eb,rfl⟩:=hy;have hj:j < n.length:=by
   have:=(Ab.mp ea).1;have:=h.len;omega
  obtain⟨q1,q2⟩:=h.tup j a n[j] ea (Ac hj);obtain⟨q3,q4⟩:=g.tup j b n[j] eb (Ac hj);have t:=j70 (X:=X) (k:=1) (fun _=>true) (SqT.of (K:=X.K) q1) (SqT.of (K:=X.K) q3) rfl fun i x y hx hy=>by
   match i with
   | 0=>cases hx;cases hy;exact j4p _
   | 1=>cases hx;cases hy;exact j5m (j7v q2 q4)
   | i+2=>simp at hx
  rw [j2w] at t;exact j5m t
 rw [j2w] at q;exact q
end
theorem k59{X:Cx}{H:Hp}{a b:Addr}{zs:List Str}(ha:H a=some (Ls zs))(hb:H b=some (Ls zs)):RnD X H 1 (.ref a) (.ref b) true:=by
 have q:=j4f (X:=X) (k:=0) (fun _=>true) (SqL.of (K:=X.K) ha) (SqL.of (K:=X.K) hb) rfl fun j x y hx hy=>by
  rw [hx] at hy;cases hy;rw [Ae,Ar] at hx;obtain⟨z,_,rfl⟩:=hx;exact j4p z
 rw [j2w] at q;exact q
end J0
namespace L2
open PySem PySem.Spec PyProof.Rows SetT
section
variable{X:Cx}{σ:St}{H:Hp}{Q:VK}
end
section
variable{prog:Program}{w:World}{A:Around}{E:Value->Shared->Prop}{s:Shared}
theorem k4j{Q:Value->Shared->Prop}(k:Q (.ref s.heap.objs.size) {s with heap:=s.heap.push (j46 w)}):codeAny (model prog w) A (.call (.builtin "set.__new__") ⟨[.type "set"],[]⟩) (wants Q E) s:=by
 refine codeAny_of_tree ?_;show wpAny _ A.in1 (checkBuiltinCall "set.__new__" ⟨[.type "set"],[]⟩ >>= fun _=>again (.builtin "set.__new__" ⟨[.type "set"],[]⟩)) _ _ s;refine wpAny_bind (wpAny_of_eq PySem.F.newCall_set_0 (wpAny_pure ⟨plainId_quiet PySem.F.plain_set_new _,codeAny_builtin PySem.F.entry_set_new ?_⟩));rw [Around.under_plainId PySem.F.plain_set_new _];unfold Builtin.«set.__new__» Builtin.Frozenset.newClass
 dsimp only
 refine wpAny_bind (wpAny_bind (wpAny_of_eq (show isType (.type "set")=pure true from rfl) (wpAny_pure ?_)));simp only [Dl,At,if_false];unfold newSet;refine wpAny_bind (wpAny_bind (wp_text ?_))
 dsimp only
 simp only [newObj];exact wpAny_bind (wpAny_alloc (wpAny_pure (wpAny_pure k)))
theorem k3i{Q:Value->Shared->Prop}(k:Q (.ref s.heap.objs.size) {s with heap:=s.heap.push (j46 w)}):wpAny (model prog w) A (call (.type "set") []) Q E s:=by
 obtain⟨c,tl,hmro⟩:=PySem.F.called_set.mro;have hmade:=PySem.F.called_set.made;have hsub:=PySem.F.called_set.sub;refine wpAny_call (codeAny_of_tree ?_);show wpAny _ _ (callAny (.type "set") _) _ _ _;refine wpAny_pure ⟨Code.quiet_builtin _ (by decide +kernel),codeAny_builtin PySem.F.entry_type_call ?_⟩;rw [Around.under_plain (weight_type_call_type "set" [] []) rfl];have h1:=PySem.F.called_set.notType;have h2:=PySem.F.called_set.canCreate;have h3:=PySem.F.typeCall_set_0
 repeat (any_goals (first | assumption | wp_step))
 refine codeAny_mono (k4j (E:=E) (Q:=fun v u=>v = .ref s.heap.objs.size/\u={s with heap:=s.heap.push (j46 w)}) ⟨rfl,rfl⟩) fun r u hr=>?_;cases r with
 | error e=>exact hr
 | ok fl=>
  cases fl with
  | ret v=>
   obtain⟨rfl,rfl⟩:=hr;have hT:Shared.TypeIs {s with heap:=s.heap.push (j46 w)} (.ref s.heap.objs.size) "set":=⟨_,Aj _ rfl,rfl⟩;have hli:=PySem.F.called_set.init.lookup;have hbi:=PySem.F.called_set.init.bind (.ref s.heap.objs.size)
   repeat (any_goals (first | assumption | wp_step))
   refine codeAny_mono (codeAny_call_builtin (R:=wants (fun r u=>r = .none/\Q (.ref s.heap.objs.size) u) E) PySem.F.called_set.init.plain PySem.F.entry_set_init (check_set_init hT ?_)) fun r2 u2 hr2=>?_
   ·unfold Builtin.«set.__init__» noKeywords
    wp_walk
    exact⟨rfl,k⟩
   ·cases r2 with
    | error e=>exact hr2
    | ok f2=>
     cases f2 with
     | ret r=>
      obtain⟨rfl,hq⟩:=hr2
      repeat (any_goals (first | assumption | wp_step))
     | _=>exact hr2.elim
  | _=>exact hr.elim
end
section
variable{X:Cx}{σ:St}{H:Hp}{Q:VK}
end
end L2
namespace Nt
open PySem L2
def rnd(c:Int)(n:Net)(e:End):End:=(e.1,(((e.2:Int)+c) % ((row n e.1).length:Int)).toNat)
theorem k2t{c:Int}{n:Net}{e:End}(h:e∈ends n):(((rnd c n e).2:Nat):Int)=((e.2:Int)+c) % ((row n e.1).length:Int):=by
 obtain⟨z,hz⟩:=mem_ends.mp h;have:=j4x hz;exact Int.toNat_of_nonneg (Av _ (by omega))
theorem k74{n:Net}{e:End}(h:e∈ends n):left n e=rnd 1 n e:=by
 have h2:=k2t (c:=1) h;refine Prod.ext rfl ?_;show(e.2+1) % (row n e.1).length=(rnd 1 n e).2;have:(((e.2+1) % (row n e.1).length:Nat):Int)=((e.2:Int)+1) % ((row n e.1).length:Int):=by simp
 omega
def go(c:Int)(n:Net)(e:End):End:=rnd c n (other n e)
theorem k82{n:Net}(T:j1s n){e:End}(h:e∈ends n):step n e=go 1 n e:=k74 (j2o T h)
end Nt
namespace J0
open PySem L2 Nt Sort2
theorem k0v{κ:Type} [DecidableEq κ]:∀{kvs:List (κ×V)} {i:Nat} {p:κ×V},(kvs.map (·.1)).Nodup->kvs[i]?=some p->valV kvs p.1=some p.2
 | [],_,_,_,h=>by simp at h
 | q :: r,0,p,_,h=>by
  cases h;exact j1m rfl
 | q :: r,i+1,p,hn,h=>by
  rw [Be,Cf] at hn;have hm:r[i]?=some p:=by simpa using h
  rw [j1l fun e=>hn.1 (by rw [e];exact Am.mpr ⟨p,An hm,rfl⟩)];exact k0v hn.2 hm
theorem q14{κ:Type}{l:List κ}(h:l.Nodup){i j:Nat}{a:κ}(hi:l[i]?=some a)(hj:l[j]?=some a):i=j:=by
 have h1:=(Ab.mp hi).1;have h2:=(Ab.mp hj).1;have e1:=(Ab.mp hi).2;have e2:=(Ab.mp hj).2
 rcases Ed i j with c | c | c
 ·exact absurd (e1.trans e2.symm) (Bq.mp h i j h1 h2 c)
 ·exact c
 ·exact absurd (e2.trans e1.symm) (Bq.mp h j i h2 h1 c)
def spLS(c:Int):Sp:=fun vs H Q _=>∃(R:Addr) (as:List (Addr×Addr)) (n:Net),vs=[.ref R]/\RowsAt H R as n/\(n.map (·.1)).Nodup/\j1s n/\n.length<=1000/\(ties n).length<=1000 /\
 ∀(d:Addr) (kvs:List (List Key×V)) (H':Hp),Same H H'->H d=none->H' d=some (.dT kvs)->(∀ e∈ends n,∃ u,valV kvs (key n e)=some (.ref u)/\H' u=some (TN n (go c n e)))->Q (.ref d) H'
section
variable{P:Program}{w:World}{K:PySem.W.Frag}{mg:Str->Option Value}{base:Heap}
abbrev NLs1:List Str:=["rows","lists"]
abbrev NLs2:List Str:=["rows","lists","end","other"]
theorem k8j:NLs2.Nodup:=by decide +kernel
theorem scLS:FnScope NLs1 ["rows"] (j0f sLS):=⟨rfl,rfl,rfl,by decide +kernel,rfl,by decide +kernel,by decide +kernel⟩
theorem q5f{f:Addr}{fd:FuncData}(F:Fun K "left_steps" "left_steps" sLS f fd)(T:Txt mg)
  (GO:Has P w K mg base 2 "other_ends" ["rows"] spOE)
  (GT:Has P w K mg base 2 "turned_left" ["end","many"] (spTL fun j=>j+1)) :
  FnOk P w K mg base CX0 3 f fd ["rows"] (spLS (1)):=by
 refine F.gb scLS (fun vs H Q E h=>?_) (fun b0 H vs Q E hr h=>?_)
 ·obtain⟨R,as,n,rfl,_⟩:=h;rfl
 obtain⟨R,as,n,rfl,hR,hN,hT,hn,ht,q⟩:=h;have nd:=scLS.nd;have hal:=hR.len;have hu:=hr.u1;show Run _ _ _ [some (.ref R),none] H;have keys:=j5r n as hal;have knd:((j2j n as).map (·.1)).Nodup:=by rw [keys];exact k3j hN
 have klen:(j2j n as).length=n.length:=by have:=congrArg List.length keys;simpa using this
 refine j0i 1 nd (j48 (j34 rfl) T.tdict PyProof.Rows.boot_dict (j0a (ev_v 0 (j0c ⟨R,as.map (·.1),j2j n as,rfl,?_,?_,?_,?_,fun dl hdl=>?_⟩))))
 ·rw [Cc];exact hR.lst
 ·rw [Aa,klen,hal]
 ·rw [Aa];exact j03 (by omega)
 ·intro j t kv h1 h2;rw [Ae,Ar] at h1;obtain⟨a,ea,rfl⟩:=h1;have hj:j < n.length:=by have:=(Ab.mp ea).1;omega
  have e:=j8i (Ac hj) ea;rw [h2] at e;cases e;exact(hR.tup j a n[j] ea (Ac hj)).1
 have ef:(j2j n as).foldl (fun a p=>putK a p.1 p.2) []=j2j n as:=by
  rw [k7q (acc:=[]) (by rw [Ep];exact knd),Ep]
 rw [ef];have s1:=j0g hdl (.dK (j2j n as));have el:(upd H dl (.dK (j2j n as))) dl=some (.dK (j2j n as)):=j0b;generalize upd H dl (.dK (j2j n as))=H1 at s1 el;show Run _ _ _ [some (.ref R),some (.ref dl)] H1;refine j0l (k2z (j0f sLS) NLs1 NLs2 2 (k75 j02) ?_);refine j0s GO hr (j0a (ev_v 0 (j0c ⟨R,as,n,rfl,hR.same s1,hN,hT,hn,ht,fun d kvs H2 s2 nd2 ed val knd2 kks klen2=>?_⟩)));refine⟨d,kvs,rfl,ed,fun o D hD cl C s₀ H₀ ex=>?_⟩;have nDd:D≠d:=fun e=>by rw [e,j0b] at hD;cases hD
 have hD2:H2 D=none:=by rw [j0e nDd] at hD;exact hD
 have hd0:H d=none:=j0t s1 nd2;have sB:Same H (upd H2 d (.frz o (.dT kvs))):=j1h (s1.trans s2) hd0;have kB:∀ b o',b≠d->H2 b=some o'->(upd H2 d (.frz o (.dT kvs))) b=some o':=fun b o' hb h=>by rw [j0e hb];exact h
 have tB:∀ b p j,H2 b=some (Tn p j)->(upd H2 d (.frz o (.dT kvs))) b=some (Tn p j):=fun b p j h=>kB b _ (j2i h ed) h;have edB:(upd H2 d (.frz o (.dT kvs))) d=some (.frz o (.dT kvs)):=j0b;have elB:(upd H2 d (.frz o (.dT kvs))) dl=some (.dK (j2j n as)):=kB _ _ (fun e=>by rw [e,nd2] at el;cases el) (s2 _ _ el);have hRB:=hR.same sB;generalize upd H2 d (.frz o (.dT kvs))=HB at hD sB tB edB elB hRB;have hD0:=j0t sB hD;refine j7u (fun i σ' H'=>(∃ v1 v2,σ'=[some (.ref R),some (.ref dl)]++[v1,v2])/\∃ kv2:List (List Key×V),H' D=some (.dT kv2)/\kv2.length<=i/\Same HB H' /\
  (∀ j k x e,j < i->kvs[j]?=some (k,x)->e∈ends n->k=key n e->∃ u,valV kv2 (key n e)=some (.ref u)/\H' u=some (TN n (go (1) n e))))
  ⟨⟨none,none,rfl⟩,[],j0b,Ag _,j0g hD _,fun j k x e h=>absurd h (Dh _)⟩ ?_ ?_ ?_
 ·rintro i σ' H' _ ⟨_,_,_,_,sm,_⟩;exact sm _ _ edB
 ·rintro i k x b Tt σ' H' hx ⟨⟨v1,v2,rfl⟩,kv2,eD,l2,sm,all⟩ hb hTt;have hi:i < kvs.length:=(Ab.mp hx).1;obtain⟨e,he,rfl⟩:=kks k (Am.mpr ⟨_,An hx,rfl⟩);obtain⟨u,hv,hu2⟩:=val e he;have hx2:valV kvs (key n e)=some x:=k0v knd2 hx;rw [hv] at hx2;cases hx2;have hob:=j2o hT he;obtain⟨zo,hzo⟩:=mem_ends.mp hob;have hrl:=j16 hzo;have hel:=j4x hzo;have nmE:nameAt n (other n e).1=n[(other n e).1].1:=j28 hrl;have sT:=j0g hTt (.tup [.ref b,.ref u]);have huT:=sT _ _ (sm _ _ (tB _ _ _ hu2));refine j21 rfl (SqT.of j0b) (j0n 2 k8j (j0n 3 k8j ?_));refine j3c ?_;rw [if_pos rfl];have eai:as[(other n e).1]?=some (as[(other n e).1]'(by omega)):=Ac (by omega);have hni:n[(other n e).1]?=some n[(other n e).1]:=Ac hrl;have ev:valV (j2j n as) (Sum.inr (nameAt n (other n e).1))=some (.ref (as[(other n e).1]'(by omega)).2):=by rw [nmE];exact k5t knd (j8i hni eai)
  have hrow:=(hR.tup _ _ _ eai hni).2;have erow:row n (other n e).1=n[(other n e).1].2:=j6v hrl;refine k5k hu (ev_v 2 (j0s GT hr (j0a (ev_v 3 (j0a (j0u j0k T.len boot_len (j0a (j38 hu (ev_v 1 (j0o j0p (ev_v 3 (j0d ⟨u,_,_,.str (nameAt n (other n e).1),rfl,rfl,SqT.of huT,rfl,?_⟩))))))))))));refine⟨dl,.ref (as[(other n e).1]'(by omega)).2,rfl,by rw [<- ev];exact DGet.k (k:=Sum.inr (nameAt n (other n e).1)) (sT _ _ (sm _ _ elB)),j0c ⟨_,_,rfl,.inl (SqL.of (sT _ _ (sm _ _ (sB _ _ hrow)))),j0c ⟨u,_,_,_,rfl,huT,?_,fun t2 H4 s4 et2=>?_⟩⟩⟩
  ·rw [Aa,<- erow];omega
  rw [Aa,<- erow] at et2;have et3:H4 t2=some (TN n (go (1) n e)):=by
   rw [et2];have:=k2t (c:=1) hob;show some (Tn _ _)=some (Tn _ (((go (1) n e).2:Nat):Int));unfold go;rw [this];rfl
  have hb4:=s4 _ _ (sT _ _ hb);refine⟨_,DPut.t (k:=key n e) (s4 _ _ (sT _ _ eD)) hb4 (j03 (by omega)),⟨_,_,rfl⟩,_,j0b,?_,j1h ((sm.trans sT).trans s4) hD,fun j k' x' e' hj hx' he' hk'=>?_⟩
  ·have:=j09 kv2 (key n e) (.ref t2);omega
  ·subst hk'
   by_cases hji:j=i
   ·subst hji;rw [hx] at hx';have hke:key n e=key n e':=congrArg Prod.fst (Option.some.inj hx');obtain⟨z1,hz1⟩:=mem_ends.mp he;obtain⟨z2,hz2⟩:=mem_ends.mp he';have:=j4t hN (j16 hz1) (j16 hz2) hke;subst this;exact⟨t2,by rw [j1t,if_pos rfl],by rw [j0e (j2i et3 (s4 _ _ (sT _ _ eD)))];exact et3⟩
   ·obtain⟨u3,hu3,hu4⟩:=all j _ x' e' (by omega) hx' he' rfl;refine⟨u3,?_,?_⟩
    ·rw [j1t,if_neg,hu3];intro hk;have h1:(kvs.map (·.1))[j]?=some (key n e'):=by rw [Ae,hx'];rfl
     have h2:(kvs.map (·.1))[i]?=some (key n e'):=by rw [Ae,hx,hk];rfl
     exact hji (q14 knd2 h1 h2)
    ·have q4:=s4 _ _ (sT _ _ hu4);rw [j0e (j2i q4 (s4 _ _ (sT _ _ eD)))];exact q4
 ·rintro σ' H' ⟨_,kv2,eD,_,sm,all⟩;refine q D kv2 H' (sB.trans sm) hD0 eD fun e he=>?_;obtain⟨u,hv,_⟩:=val e he;obtain⟨i,hi⟩:∃ i:Nat,(kvs.map (·.1))[i]?=some (key n e):=Bc (k3p hv);rw [Ae,Ar] at hi;obtain⟨⟨k,x⟩,hx,hk⟩:=hi;exact all i k x e (Ab.mp hx).1 hx he hk
end
end J0
namespace Nt
open PySem L2
end Nt
namespace Nt
open PySem L2
structure PerF(n:Net)(e:End)(k:Nat):Prop where
 pos:0 < k
 back:it (step n) k e=e
 first:∀ i,0 < i->i < k->it (step n) i e≠e
theorem PerF.unique{n:Net}{e:End}{k l:Nat}(a:PerF n e k)(b:PerF n e l):k=l:=by
 rcases Ed k l with h | h | h
 ·exact absurd a.back (b.first k a.pos h)
 ·exact h
 ·exact absurd b.back (a.first l b.pos h)
noncomputable def perF(n:Net)(e:End):Nat:=by classical exact if h:∃ k,PerF n e k then h.choose else 0
theorem k0j{n:Net}{e:End}{k:Nat}(h:PerF n e k):perF n e=k:=by
 have hx:∃ k,PerF n e k:=⟨k,h⟩;unfold perF;rw [dif_pos hx];exact hx.choose_spec.unique h
theorem j8z{n:Net}(T:j1s n){e:End}(h:e∈ends n):∃ k,PerF n e k/\k<=(ends n).length:=by
 obtain⟨k,k0,k1,k2⟩:=j66 (f:=step n) (S:=ends n) (fun a ha=>j4k T ha) (fun a ha b hb=>k05 T ha hb) h;have aux:∀ m,∀ k,k<=m->0 < k->it (step n) k e=e->∃ j,j<=k/\PerF n e j:=by
  intro m
  induction m with
  | zero=>intro k h1 h2;omega
  | succ m ih=>
   intro k h1 h2 h3
   by_cases c:∃ i,0 < i/\i < k/\it (step n) i e=e
   ·obtain⟨i,i1,i2,i3⟩:=c;obtain⟨j,j1,j2⟩:=ih i (by omega) i1 i3;exact⟨j,by omega,j2⟩
   ·exact⟨k,Ag _,h2,h3,fun i i1 i2 i3=>c ⟨i,i1,i2,i3⟩⟩
 obtain⟨j,j1,j2⟩:=aux k k (Ag _) k0 k2;exact⟨j,j2,by omega⟩
def fl(n:Net)(e:End)(k:Nat):List End:=(List.range k).map fun i=>it (step n) i e
theorem k9n(n:Net)(e:End)(k:Nat):fl n e (k+1)=fl n e k++[it (step n) k e]:=by
 unfold fl;rw [Ec,Al];rfl
theorem j55(n:Net)(e:End)(k:Nat):(fl n e k).length=k:=by unfold fl;simp
theorem q36(n:Net)(e:End){k i:Nat}(h:i < k):(fl n e k)[i]?=some (it (step n) i e):=by
 unfold fl;rw [Ae,Dv h];rfl
noncomputable def face(n:Net)(e:End):List End:=fl n e (perF n e)
theorem k5b{n:Net}{e:End}{k:Nat}(p:PerF n e k)(hk:k<=(ends n).length):IsFace n e (fl n e k):=
 ⟨by rw [j55];exact p.pos,by rw [j55];exact hk,fun i hi=>q36 n e (by rw [j55] at hi;exact hi),by rw [j55];exact p.back,by rw [j55];exact p.first⟩
theorem j59{n:Net}(T:j1s n){e:End}(h:e∈ends n):IsFace n e (face n e):=by
 obtain⟨k,p,hk⟩:=j8z T h;unfold face;rw [k0j p];exact k5b p hk
theorem IsFace.eq{n:Net}{e:End}{fs:List End}(f:IsFace n e fs):fs=face n e:=by
 have p:PerF n e fs.length:=⟨f.pos,f.back,f.first⟩;unfold face;rw [k0j p];apply Dr;intro i
 by_cases h:i < fs.length
 ·rw [f.at' i h,q36 n e h]
 ·rw [Cb (by omega),Cb (by rw [j55];omega)]
theorem j6j{n:Net}(T:j1s n){e:End}(h:e∈ends n):∀ c∈face n e,c∈ends n:=(j59 T h).ends T h
noncomputable def fcs(n:Net):List End->List End->List (List End)
 | [],_=>[]
 | e :: r,told=>if e∈told then fcs n r told else face n e :: fcs n r (told++face n e)
theorem j8o{n:Net}(T:j1s n):∀(es:List End) (told:List End),(∀ e∈es,e∈ends n)->∀ w∈fcs n es told,∃ e∈es,w=face n e/\e∉told
 | [],_,_,w,hw=>by cases hw
 | e :: r,told,h,w,hw=>by
  unfold fcs at hw
  split at hw
  ·obtain⟨e',h1,h2⟩:=j8o T r told (fun a ha=>h a (Aq _ ha)) w hw;exact⟨e',Aq _ h1,h2⟩
  ·rename_i hn
   rcases Ao.mp hw with rfl | hw
   ·exact⟨e,Aw ..,rfl,hn⟩
   ·obtain⟨e',h1,h2,h3⟩:=j8o T r _ (fun a ha=>h a (Aq _ ha)) w hw;exact⟨e',Aq _ h1,h2,fun q=>h3 (Ct _ q)⟩
theorem j92(n:Net):∀(es:List End) (told:List End),(fcs n es told).length<=es.length
 | [],_=>Ag _
 | e :: r,told=>by
  unfold fcs
  split
  ·have:=j92 n r told;show _<=r.length+1;omega
  ·have:=j92 n r (told++face n e);show _+1<=r.length+1;omega
noncomputable def fac(n:Net):List (List End):=if ends n=[] then [[]] else fcs n (ends n) []
theorem k9c(n:Net):(fac n).length<=(ends n).length+1:=by
 unfold fac
 split
 ·show 1<=_;omega
 ·have:=j92 n (ends n) [];omega
theorem k65{n:Net}(T:j1s n):∀ w∈fac n,w.length<=(ends n).length/\∀ c∈w,c∈ends n:=fun w hw=>by
 unfold fac at hw
 split at hw
 ·rw [Ah.mp hw];exact⟨Bi _,fun c h=>by cases h⟩
 ·obtain⟨e,he,rfl,_⟩:=j8o T (ends n) [] (fun e he=>he) w hw;exact⟨(j59 T he).len,j6j T he⟩
end Nt
namespace Sort3
open PySem PySem.W PyProof.Rows
section
variable{lt:Nat->Nat->Bool}{cmp:Nat->Nat->(Bool->Shared->Prop)->Shared->Prop}{J:Shared->Prop}{n:Nat}
end
end Sort3
namespace Sort3
open PySem PySem.W PyProof.Rows
section
variable{prog:Program}{w:World}{A:Around}{E:Value->Shared->Prop}{s:Shared}
end
end Sort3
namespace L2
open PySem PySem.Spec PyProof.Rows Sort3
section
variable{X:Cx}{σ:St}{H:Hp}
end
end L2
namespace L2
open PySem PySem.Spec PyProof.Rows
section
variable{X:Cx}{σ:St}{H:Hp}{Q:VK}
end
end L2
namespace L2
open PySem PySem.Spec PyProof.Rows SetT
section
variable{prog:Program}{w:World}{A:Around}{E:Value->Shared->Prop}{s:Shared}{T:String}{r d:Addr}{n:Nat}{P:Nat->Value->Prop}{OK:Heap->Prop}
end
section
variable{X:Cx}
end
end L2
namespace L2
open PySem PySem.Spec PyProof.Rows
section
end
section
variable{X:Cx}
end
end L2
namespace L2
open PySem PySem.Spec PyProof.Rows
section
variable{X:Cx}
end
end L2
namespace L2
open PySem PySem.Spec PyProof.Rows
section
variable{X:Cx}{σ:St}{H:Hp}{D:Ends}{body:List Stmt}
end
end L2
namespace L2
open PySem PySem.Spec PyProof.Rows
theorem j2h:∀(names:List (Str×NameKind)) (n:Nat) (acc:List (Str×Addr)),cellsFrom n names acc=cellsFrom n names []++acc
 | [],_,_=>rfl
 | (y,k) :: r,n,acc=>by
  unfold cellsFrom
  split
  ·rw [j2h r (n+1) ((y,n) :: acc),j2h r (n+1) [(y,n)],Bl];rfl
  ·exact j2h r n acc
theorem j3e:∀(names:List (Str×NameKind)) (n:Nat) {x:Str} {c:Addr},(x,c)∈cellsFrom n names []->(x,NameKind.cell)∈names/\n<=c
 | [],_,_,_,h=>by cases h
 | (y,k) :: r,n,x,c,h=>by
  unfold cellsFrom at h
  split at h
  ·rename_i hk;rw [j2h,Ba] at h
   rcases h with h | h
   ·obtain⟨a,b⟩:=j3e r (n+1) h;exact⟨Aq _ a,by omega⟩
   ·cases Ah.mp h;have:k = .cell:=by cases k <;> first | rfl | exact absurd hk (by decide)
    subst this;exact⟨Aw,Ag _⟩
  ·obtain⟨a,b⟩:=j3e r n h;exact⟨Aq _ a,b⟩
theorem j6c{names:List (Str×NameKind)}{n:Nat}{cl:List (Str×Addr)}{x:Str}{c:Addr}(h:(cellsFrom n names cl).lookup x=some c):((x,c)∈cellsFrom n names []/\n<=c)\/cl.lookup x=some c:=by
 rw [j2h,List.lookup_append] at h;cases e:(cellsFrom n names []).lookup x with
 | some d=>
  rw [e] at h;cases h;have hm:=PySem.mem_of_lookup e;exact .inl ⟨hm,(j3e _ _ hm).2⟩
 | none=>
  rw [e] at h;exact .inr h
theorem k21{names:List (Str×NameKind)}{n:Nat}{cl:List (Str×Addr)}{x:Str}(h:(x,NameKind.cell)∉names):(cellsFrom n names cl).lookup x=cl.lookup x:=by
 rw [j2h,List.lookup_append];cases e:(cellsFrom n names []).lookup x with
 | some d=>exact absurd (j3e _ _ (PySem.mem_of_lookup e)).1 h
 | none=>rfl
section
variable{M:Model}{A:Around}{E:Value->Shared->Prop}{s:Shared}
theorem j8r{scope:Scope}{globals:Addr}{closure:List (Str×Addr)}{qual:Str}{func:Option Addr}{code:Value}{outer:Env}{builtins:Addr}{Q:Env->Shared->Prop}
  (hQ : ∀ h', h'.Ns s.heap.objs.size (fun _ => none) → (∀ b o, s.heap.get? b = some o → h'.get? b = some o) → CellsOk h' (s.heap.objs.size + 1) (cellsFrom (s.heap.objs.size + 1) scope.names []) →
   Q (newEnv scope s.heap.objs.size globals (cellsFrom (s.heap.objs.size+1) scope.names closure) qual func code (some outer) builtins) {s with heap:=h'}) :
  wpAny M A (newFunctionEnv scope globals closure [] qual func code (some outer) builtins) Q E s:=by
 simp only [newFunctionEnv,Option.isSome_some,if_true];refine wpAny_bind (wpAny_alloc ?_);refine wpAny_bind (wpAny_layCells _ (fun name kind cells=>by cases hkc:kind == NameKind.cell <;> simp [hkc]) _ _ _ _ ?_);have ok:=cellsFrom_ok scope.names (s.heap.push {cls:= .type "dict",data:= .dict #[]}) (s.heap.objs.size+1) [] ⟨fun _ _ hm=>(nomatch hm),List.Pairwise.nil⟩ (by rw [Ch];exact Ag _);rw [Ch] at ok;rw [show({s with heap:=s.heap.push {cls:= .type "dict",data:= .dict #[]}}:Shared).heap.objs.size=s.heap.objs.size+1 from Ch ..];rw [List.forIn_nil];exact wpAny_bind (wpAny_pure (wpAny_pure (hQ _ ((Heap.Ns.new s.heap (.type "dict")).keeps (pushCells_keeps _ _)) (fun b o e=>pushCells_keeps _ _ b o (Ad _ e)) ok)))
end
def j14(X:Cx)(N':List Str)(scope:Scope)(cl:List (Str×Addr))(C:Addr)(s₀:Shared)(H₀:Hp)(ex:List Addr):Cx:=
 {j01 X N' scope cl C s₀ H₀ ex with fn:=fun x=>match scope.names.lookup x with | some .cell=>true | _=>false}
def j7n(sc scope:Scope)(N N':List Str):Bool:=
 (match scope.kind with | .function=>true | _=>false) &&
 scope.names.all (fun y=>match y.2 with
  | .cell=>(match scope.names.lookup y.1 with | some .cell=>true | _=>false)
  | .local=>(match scope.names.lookup y.1 with | some .local=>true | _=>false)
  | .free=>(match sc.names.lookup y.1 with | some .cell=>true | some .free=>true | _=>false) && (match scope.names.lookup y.1 with | some .free=>true | _=>false)
  | _=>true) &&
 (List.range N'.length).all fun i => match N'[i]? with
  | none=>true
  | some x=>match scope.names.lookup x with
   | some .local=>decide (N.length<=i)
   | some .cell=>decide (N.length<=i)
   | some .free=>decide (N[i]?=some x)
   | _=>true
structure CompOkC(sc scope:Scope)(N N':List Str):Prop where
 kind:scope.kind = .function
 cell:∀ y∈scope.names,y.2 = .cell->scope.names.lookup y.1=some .cell
 names:∀ y∈scope.names,y.2 = .local->scope.names.lookup y.1=some .local
 free:∀ y∈scope.names,y.2 = .free->sc.names.lookup y.1=some .cell\/sc.names.lookup y.1=some .free
 freeL:∀ y∈scope.names,y.2 = .free->scope.names.lookup y.1=some .free
 own:∀(i:Nat) x,N'[i]?=some x->scope.names.lookup x=some .local->N.length<=i
 ownC:∀(i:Nat) x,N'[i]?=some x->scope.names.lookup x=some .cell->N.length<=i
 out:∀(i:Nat) x,N'[i]?=some x->scope.names.lookup x=some .free->N[i]?=some x
theorem CompOkC.of{sc scope:Scope}{N N':List Str}(h:j7n sc scope N N'=true):CompOkC sc scope N N':=by
 unfold j7n at h;rw [Bh,Bh] at h;obtain⟨⟨h1,h2⟩,h3⟩:=h;have h2':=Ci.mp h2;have h3':=Ci.mp h3;refine⟨?_,fun y hy e=>?_,fun y hy e=>?_,fun y hy e=>?_,fun y hy e=>?_,fun i x hi e=>?_,fun i x hi e=>?_,fun i x hi e=>?_⟩
 ·revert h1;cases scope.kind <;> intro h1 <;> first | rfl | cases h1
 ·have q:=h2' y hy;rw [e] at q;simp only at q
  split at q
  ·assumption
  ·cases q
 ·have q:=h2' y hy;rw [e] at q;simp only at q
  split at q
  ·assumption
  ·cases q
 ·have q:=h2' y hy;rw [e] at q;simp only at q;rw [Bh] at q;have q:=q.1
  split at q
  ·exact .inl (by assumption)
  ·exact .inr (by assumption)
  ·cases q
 ·have q:=h2' y hy;rw [e] at q;simp only at q;rw [Bh] at q;have q:=q.2
  split at q
  ·assumption
  ·cases q
 ·have q:=h3' i (Br.mpr (Ab.mp hi).1);rw [hi] at q;simp only [e] at q;exact of_decide_eq_true q
 ·have q:=h3' i (Br.mpr (Ab.mp hi).1);rw [hi] at q;simp only [e] at q;exact of_decide_eq_true q
 ·have q:=h3' i (Br.mpr (Ab.mp hi).1);rw [hi] at q;simp only [e] at q;exact of_decide_eq_true q
section
variable{X:Cx}{pins:List (Addr×Obj)}{σ:St}{H:Hp}{s:Shared}
theorem k5r{N':List Str}{scope:Scope}{n:Nat}{fp:List Addr}{h₁:Heap}{t':Nat}{m:Str->Option Value}(I:Inv X pins σ H s)(ck:CompOkC X.env.scope scope X.N N')(hl:N'.length=X.N.length+n)
  (hns:h₁.Ns s.heap.objs.size m) (old:∀ b o,s.heap.get? b=some o->h₁.get? b=some o) (hcs:CellsOk h₁ (s.heap.objs.size+1) (cellsFrom (s.heap.objs.size+1) scope.names []))
  (hfp:∀ b∈fp,FpOk X pins H b/\b < s.heap.objs.size) :
  Inv (j14 X N' scope (cellsFrom (s.heap.objs.size+1) scope.names (j0w scope.names X.env.cells [])) s.heap.objs.size s H fp) [] (σ++List.replicate n none) H {s with heap:=h₁,toks:=t'}:=by
 have sub:∀ x c,(j0w scope.names X.env.cells []).lookup x=some c->X.env.cells.lookup x=some c:=fun x c e=>j17 _ _ _ (fun _ _ z=>by simp at z) x c (PySem.mem_of_lookup e);have both:∀ x c,(cellsFrom (s.heap.objs.size+1) scope.names (j0w scope.names X.env.cells [])).lookup x=some c->((x,c)∈cellsFrom (s.heap.objs.size+1) scope.names []/\s.heap.objs.size+1<=c)\/X.env.cells.lookup x=some c:=fun x c e=>by
  rcases j6c e with z | z
  ·exact .inl z
  ·exact .inr (sub x c z)
 have oldlt:∀ x c,X.env.cells.lookup x=some c->c < s.heap.objs.size:=fun x c e=>by
  obtain⟨v,o,ho,_⟩:=I.cell x c e;exact Ai ho
 have fre:H s.heap.objs.size=none:=I.hok.fresh (Ag _);have kindOf:∀{x:Str} {k':NameKind},(relabel scope X.env).names.lookup x=some k'->∃ k,scope.names.lookup x=some k/\(k'=k\/(k = .free/\k' = .cell)):=fun z=>j1d z;have frl:∀ x,scope.names.lookup x=some .free->(cellsFrom (s.heap.objs.size+1) scope.names (j0w scope.names X.env.cells [])).lookup x=(j0w scope.names X.env.cells []).lookup x:=fun x e=>k21 fun hm=>by
  have:=ck.cell _ hm rfl;rw [e] at this;cases this
 have hasC:∀ x,scope.names.lookup x=some .cell->∃ c,(cellsFrom (s.heap.objs.size+1) scope.names (j0w scope.names X.env.cells [])).lookup x=some c:=fun x e=>Du.mp (PySem.W.cellsFrom_some _ _ _ (.inl e));have ok':(j14 X N' scope (cellsFrom (s.heap.objs.size+1) scope.names (j0w scope.names X.env.cells [])) s.heap.objs.size s H fp).Ok:=by
  refine⟨I.ok.mod,ck.kind,I.ok.glob,I.ok.blt,Ag _,fun x y c e1 e2=>?_,fun x hx=>?_,fun x c hf e=>?_,I.ok.hd,I.ok.frames,.inl rfl,fun b hb=>⟨Ay (hfp b hb).2,fun x c e=>?_⟩,
   I.bs,Bs I.ok.bsz I.sz,fun b o e hb=>?_,fun b hb hf=>?_,I.stack,I.stkFree⟩
  ·rcases both x c e1 with z1 | z1
   ·rcases both y c e2 with z2 | z2
    ·exact name_of_addr hcs.apart z1.1 z2.1
    ·exact absurd (oldlt y c z2) (Nat.not_lt.mpr (Dt z1.2))
   ·rcases both y c e2 with z2 | z2
    ·exact absurd (oldlt x c z1) (Nat.not_lt.mpr (Dt z2.2))
    ·exact I.ok.inj x y c z1 z2
  ·have hx':(relabel scope X.env).names.lookup x=some .cell\/(relabel scope X.env).names.lookup x=some .free:=hx;have:∃ k,scope.names.lookup x=some k/\(k = .free\/k = .cell):=by
    rcases hx' with z | z
    ·obtain⟨k,e,r⟩:=kindOf z
     rcases r with r | ⟨r,_⟩
     ·exact⟨k,e,.inr r.symm⟩
     ·exact⟨k,e,.inl r⟩
    ·obtain⟨k,e,r⟩:=kindOf z
     rcases r with r | ⟨r,_⟩
     ·exact⟨k,e,.inl r.symm⟩
     ·exact⟨k,e,.inl r⟩
   obtain⟨k,e,rfl | rfl⟩:=this
   ·have hm:=PySem.mem_of_lookup e;obtain⟨c,hc⟩:=I.ok.has x (ck.free _ hm rfl);obtain⟨d,hd⟩:=j1c (j2t scope.names X.env.cells [] x c hm hc);exact⟨d,(frl x e).trans hd⟩
   ·exact hasC x e
  ·have hx:scope.names.lookup x=some .cell:=by
    have hf':(match scope.names.lookup x with | some .cell=>true | _=>false)=true:=hf
    split at hf'
    ·assumption
    ·cases hf'
   have e':(cellsFrom (s.heap.objs.size+1) scope.names (j0w scope.names X.env.cells [])).lookup x=some c:=e;have q1:=Du.mp (PySem.W.cellsFrom_some scope.names (s.heap.objs.size+1) [] (.inl hx));obtain⟨d,hd⟩:=q1;rw [j2h,List.lookup_append,hd] at e';have e2:d=c:=Option.some.inj e';have:=(j3e _ _ (PySem.mem_of_lookup hd)).2;rw [<- e2];exact Dt this
  ·have e':(cellsFrom (s.heap.objs.size+1) scope.names (j0w scope.names X.env.cells [])).lookup x=some c:=e
   rcases both x c e' with z | z
   ·have h1:=(hfp b hb).2;have h2:=z.2;exact fun k=>absurd h1 (Nat.not_lt.mpr (by rw [<- k];exact Dt h2))
   ·exact(hfp b hb).1.2.2.2.2.1 x c z
  ·have:=(hfp b hb).1.2.2.2.1
   rcases this with z | z
   ·exact I.ok.noex b o e z
   ·exact absurd (Bf (Ai e) (Bs I.ok.bsz z)) (Bo _)
  ·rcases Ao.mp (I.stkSub b hf) with z | z
   ·exact(hfp b hb).1.2.1 z
   ·exact(hfp b hb).1.2.2.1 z
 refine⟨ok',rfl,I.bare,Un.kept old,⟨m,hns,fun i x v e1 e2 e3=>?_⟩,fun x c e=>?_,fre,fun x c e=>?_,fun p hp=>absurd hp (by simp [j14,j01]),I.hok.kept old,?_⟩
 ·have hi:i < σ.length:=by
   by_cases hi:i < σ.length
   ·exact hi
   ·rw [Bb (by omega),Dd] at e2
    split at e2 <;> cases e2
  rw [Ax hi] at e2;have e1':N'[i]?=some x:=e1;have vis:∃ k',(relabel scope X.env).names.lookup x=some k'/\(k' = .local\/k' = .cell\/k' = .free):=by
   rcases e3 with z | z | z
   ·exact⟨_,z,.inl rfl⟩
   ·exact⟨_,z,.inr (.inl rfl)⟩
   ·exact⟨_,z,.inr (.inr rfl)⟩
  obtain⟨k',ek',hk'⟩:=vis;obtain⟨k,ek,r⟩:=kindOf ek';have kf:k = .free:=by
   rcases r with r | ⟨r,_⟩
   ·subst r
    rcases hk' with z | z | z
    ·subst z;have:=ck.own i x e1' ek;rw [I.len] at hi;omega
    ·subst z;have:=ck.ownC i x e1' ek;rw [I.len] at hi;omega
    ·exact z
   ·exact r
  subst kf;have hm:=PySem.mem_of_lookup ek;have hxN:=ck.out i x e1' ek;obtain⟨m0,hn0,hl0⟩:=I.loc;have kx:=ck.free _ hm rfl;obtain⟨u,ru,lk⟩:=hl0 i x v hxN e2 (by rcases kx with z | z;exact .inr (.inl z);exact .inr (.inr z));refine⟨u,ru,.inr ⟨?_,?_⟩⟩
  ·rcases r with r | ⟨_,r⟩
   ·subst r;exact .inr ek'
   ·subst r;exact .inl ek'
  ·rcases lk with ⟨k1,_⟩ | ⟨_,c,hc,hcell⟩
   ·have k1':X.env.scope.names.lookup x=some .local:=k1
    rcases kx with z | z
    ·rw [k1'] at z;cases z
    ·rw [k1'] at z;cases z
   ·have hin:=j2t scope.names X.env.cells [] x c hm hc;obtain⟨d,hd⟩:=j1c hin;have:d=c:=Option.some.inj ((sub x d hd).symm.trans hc);subst this;obtain⟨o,ho,hdat⟩:=hcell;exact⟨d,(frl x ek).trans hd,o,old _ _ ho,hdat⟩
 ·have e':(cellsFrom (s.heap.objs.size+1) scope.names (j0w scope.names X.env.cells [])).lookup x=some c:=e
  rcases both x c e' with z | z
  ·exact⟨none,(hcs.empty x c z.1).1⟩
  ·obtain⟨v,o,ho,hdat⟩:=I.cell x c z;exact⟨v,o,old _ _ ho,hdat⟩
 ·have e':(cellsFrom (s.heap.objs.size+1) scope.names (j0w scope.names X.env.cells [])).lookup x=some c:=e
  rcases both x c e' with z | z
  ·exact I.hok.fresh (Dt z.2)
  ·exact I.freeC x c z
 ·rw [Af,Cz,I.len];exact hl.symm
end
section
variable{X:Cx}{elt tg iter:Expr}{ifs:List Expr}{scope:Scope}{pos:Pos}{N':List Str}{n:Nat}{wi:TI}{g:TG}{tc:TT}{te:TE}
theorem k2q{pins:List (Addr×Obj)}{σ:St}{H2:Hp}{s2:Shared}{E:Value->Shared->Prop}{RR:Value->Addr->Result->Shared->Prop}{it:Addr}{fp:List Addr}{tn:Nat->Heap->Prop}{J:It}{Q:VK}
  (hc:X.calm=true) (ck:CompOkC X.env.scope scope X.N N') (hl:N'.length=X.N.length+n)
  (hg:∀ cl C s₀ H₀ ex,PG (j14 X N' scope cl C s₀ H₀ ex) tg g) (hif:∀ cl C s₀ H₀ ex,PIf (j14 X N' scope cl C s₀ H₀ ex) ifs tc) (he:∀ cl C s₀ H₀ ex,PE (j14 X N' scope cl C s₀ H₀ ex) elt te)
  (I2:Inv X pins σ H2 s2) (T:Turn X.prog X.w X.K tg J fp it tn) (st2:tn 0 s2.heap) (f2:∀ b∈fp,FpOk X pins H2 b)
  (q : ∀ D, H2 D = none → ∃ W : Nat → Nat → St → Hp → Prop, (∃ m, W 0 m (σ ++ List.replicate n none) (upd H2 D (.lst []))) ∧ ∀ i m σ' H', W i m σ' H' →
   (J.stop i H' ∧ Q (.ref D) H') ∨ (J.go i H' ∧ ∃ N : St → Hp → Prop, (∀ σ' H', N σ' H' → ∃ m', m' < m ∧ W (i + 1) m' σ' H') ∧ ∀ x H2, J.yld i H' x H2 → g x σ' H2 fun σ2 H3 => tc σ2 H3 fun b H4 =>
    if b=true then te σ2 H4 fun v H5=>∃ ys,H5 D=some (.lst ys)/\ys.length < sizeLine/\N σ2 (upd H5 D (.lst (ys++[v]))) else N σ2 H4))
  (hRR:∀ D C H' s' m,Inv X pins σ H' s'->s'.heap.Ns C m->H' C=none->C≠X.env.locals->X.s₀.heap.objs.size<=C->(∀ x c,X.env.cells.lookup x=some c->c≠C)->(∀ p∈X.pn++pins,p.1≠C)->Q (.ref D) H'->RR (.ref D) C (.ok .next) s') :
  wpAny (model X.prog X.w) X.A (newList []) (fun acc s₃=>wpAny (model X.prog X.w) X.A (newFunctionEnv scope X.env.globals (j0w scope.names X.env.cells []) [] X.env.qual none .none (some X.env)) (fun cenv s₄=>
   codeAny (model X.prog X.w) X.A (.compStart (.ListComp elt [⟨tg,iter,ifs,0⟩] scope pos) 0 (.ref it) acc {cenv with scope:=relabel scope X.env}) (RR acc cenv.locals) s₄) E s₃) E s2:=by
 refine wpAny_newObj_type (j8r (fun h₁ hns₁ old₁ hcs₁=>?_)) (by show(0:Nat)<=sizeLine;exact Bi _);have hD:H2 s2.heap.objs.size=none:=I2.hok.fresh (Ag _);obtain⟨W,⟨m0,w0⟩,turn⟩:=q s2.heap.objs.size hD;have fl:∀ b∈fp,b < s2.heap.objs.size:=fun b hb=>by
  obtain⟨o,e,_⟩:=T.obj 0 _ st2 b hb;exact Ai e
 have I3:Inv X pins σ (upd H2 s2.heap.objs.size (.lst [])) {s2 with heap:=s2.heap.push {cls:= .type "list",dict:=none,data:= .seq ([]:List Value).toArray}}:=
  I2.laid (t':=s2.toks) (fun b o e=>Ad _ e) (Ag _) (show ObjOk X.prog X.w _ _ _ (.lst []) from⟨Bi _,[],0,.nil,Aj _ rfl⟩)
 generalize hs3:({s2 with heap:=s2.heap.push {cls:= .type "list",dict:=none,data:= .seq ([]:List Value).toArray}}:Shared)=s3 at I3 hns₁ old₁ hcs₁ ⊢;have hz3:s3.heap.objs.size=s2.heap.objs.size+1:=by rw [<- hs3];exact Ch ..
 have old2:∀ b o,s2.heap.get? b=some o->s3.heap.get? b=some o:=fun b o e=>by rw [<- hs3];exact Ad _ e
 have old:∀ b o,s3.heap.get? b=some o->h₁.get? b=some o:=old₁;have f3:∀ b∈fp,FpOk X pins (upd H2 s2.heap.objs.size (.lst [])) b/\b < s3.heap.objs.size:=fun b hb=>by
  refine⟨⟨?_,(f2 b hb).2⟩,by rw [hz3];exact Bu (fl b hb)⟩;rw [j0e (Ay (fl b hb))];exact(f2 b hb).1
 have I4:=fun(t':Nat)=>k5r (N':=N') (scope:=scope) (n:=n) (fp:=fp) (h₁:=h₁) (t':=t') I3 ck hl hns₁ old hcs₁ f3;generalize hX:j14 X N' scope (cellsFrom (s3.heap.objs.size+1) scope.names (j0w scope.names X.env.cells [])) s3.heap.objs.size s3 (upd H2 s2.heap.objs.size (.lst [])) fp=X' at I4;have eP:X'.prog=X.prog:=by rw [<- hX];rfl
 have ew:X'.w=X.w:=by rw [<- hX];rfl
 have eK:X'.K=X.K:=by rw [<- hX];rfl
 have eA:X'.A=X.A:=by rw [<- hX];rfl
 have eE:X'.env=compEnvC scope (cellsFrom (s3.heap.objs.size+1) scope.names (j0w scope.names X.env.cells [])) s3.heap.objs.size X.env:=by rw [<- hX];rfl
 have ec:X'.calm=true:=by rw [<- hX];exact hc
 have ex':X'.xe=fun _ _=>False:=by rw [<- hX];rfl
 have hg':PG X' tg g:=by rw [<- hX];exact hg _ _ _ _ _
 have hif':PIf X' ifs tc:=by rw [<- hX];exact hif _ _ _ _ _
 have he':PE X' elt te:=by rw [<- hX];exact he _ _ _ _ _
 have stat:∀{H':Hp},(∀ b∈fp,H' b=none)->∀ b∈fp,FpOk X' [] H' b:=fun hn b hb=>by
  refine⟨hn b hb,?_,?_,?_,?_,?_⟩
  ·rw [eE];exact Ay (f3 b hb).2
  ·rw [<- hX];intro hf
   rcases Ao.mp (I3.stkSub b hf) with z | z
   ·exact(f3 b hb).1.2.1 z
   ·exact(f3 b hb).1.2.2.1 z
  ·rw [<- hX];exact .inl hb
  ·rw [eE];intro x c e
   rcases j6c e with z | z
   ·exact fun k=>absurd (f3 b hb).2 (Nat.not_lt.mpr (by rw [<- k];exact Dt z.2))
   ·exact(f3 b hb).1.2.2.2.2.1 x c (j17 _ _ _ (fun _ _ z=>by simp at z) x c (PySem.mem_of_lookup z))
  ·rw [<- hX];intro p hp;exact absurd hp (by simp [j14,j01])
 have fin:∀{σ':St} {H':Hp} {s':Shared},Inv X' [] σ' H' s'->Q (.ref s2.heap.objs.size) H'->RR (.ref s2.heap.objs.size) s3.heap.objs.size (.ok .next) s':=fun{σ' H' s'} I' q'=>by
  obtain⟨m',hn',_⟩:=id I'.loc;rw [eE] at hn';have hos:s'.os=s3.os:=by have:=I'.os;rw [<- hX] at this;exact this
  have hun:Un (frs X.stack) fp (upd H2 s2.heap.objs.size (.lst [])) H' s3.heap s'.heap:=by have:=I'.base;rw [<- hX] at this;exact this
  have hok:HOk X.prog X.w H' s'.heap:=by have:=I'.hok;rw [eP,ew] at this;exact this
  have IX:Inv X pins σ H' s':=I3.call' (ch:=fp) hos hun hok I'.bare fun b hb=>⟨(f3 b hb).1.2.2.2.1,(f3 b hb).1.2.1,(f3 b hb).1.2.2.2.2.1,(f3 b hb).1.2.2.2.2.2⟩;have hfr:=I'.free;rw [eE] at hfr;refine hRR _ _ H' s' m' IX hn' hfr (Cd I3.lt) I3.sz (fun x c e z=>?_) (fun p hp z=>?_) q'
  ·obtain⟨v,o,ho,_⟩:=I3.cell x c e;exact absurd (Ai ho) (by rw [z];exact Bo _)
  ·exact absurd (Ai (I3.pin p hp).1) (by rw [z];exact Bo _)
 have loop:∀ t',codeAny (model X.prog X.w) X.A (.compLoop (.ListComp elt [⟨tg,iter,ifs,0⟩] scope pos) 0 (.ref it) (.ref s2.heap.objs.size) (compEnvC scope (cellsFrom (s3.heap.objs.size+1) scope.names (j0w scope.names X.env.cells [])) s3.heap.objs.size X.env)) (RR (.ref s2.heap.objs.size) s3.heap.objs.size) {s3 with heap:=h₁,toks:=t'}:=fun t'=>by
  refine j1u (fun k s'=>∃ i σ' H',Inv X' [] σ' H' s'/\tn i s'.heap/\(∀ b∈fp,H' b=none)/\W i k σ' H') ?_ m0
   ⟨0,_,_,I4 t',T.keep 0 _ _ st2 fun b _ o e=>old b o (old2 b o e),fun b hb=>(f3 b hb).1.1,w0⟩
  rintro k s4 ⟨i,σ4,H4,J4,st4,fr4,w4⟩;rw [<- eP,<- ew,<- eA,<- eE]
  rcases turn i k σ4 H4 w4 with ⟨stop,qn⟩ | ⟨go,N,hN,step⟩
  ·have d1:=T.done X' eP ew eK ec i [] s4 σ4 H4 (fun _ _=>False) J4 (stat fr4) st4 stop;rw [<- eP,<- ew] at d1;refine thnF d1 fun r s5 ⟨hr,I5⟩=>?_;subst hr;exact fin I5 qn
  ·have d1:=T.item X' eP ew eK ec i [] s4 σ4 H4 (fun _ _=>False) J4 (stat fr4) st4 go;rw [<- eP,<- ew] at d1;refine thnF d1 fun r s5 ⟨u,hr,h5⟩=>?_;subst hr;refine thnF h5 fun _ s6 ⟨x,H6,I6,r6,y6,st6,fr6⟩=>?_;have I6':=I6.pinned (stat fr6) (T.obj _ _ st6);have again:∀{σ7:St} {H7:Hp} {s7:Shared},Inv X' ([]++j5a fp s6.heap) σ7 H7 s7->N σ7 H7->∃ m,m < k/\∃ i σ' H',Inv X' [] σ' H' s7/\tn i s7.heap/\(∀ b∈fp,H' b=none)/\W i m σ' H':=fun{σ7 H7 s7} I7 n7=>by
    obtain⟨m',hm,w7⟩:=hN σ7 H7 n7;refine⟨m',hm,i+1,σ7,H7,I7.unpinned,T.keep _ _ _ st6 fun b hb o e=>(I7.pin (b,o) (As _ (As _ (j1j hb e)))).1,fun b hb=>?_,w7⟩;obtain⟨o,e,d⟩:=T.obj _ _ st6 b hb;exact(I7.pin (b,o) (As _ (As _ (j1j hb e)))).2.1
   have a1:=hg' _ s6 σ4 H6 x u _ I6' r6 (step x H6 y6);rw [ex'] at a1;refine thnF a1 fun _ s7 ⟨σ7,H7,I7,q7⟩=>?_;have a2:=hif' _ s7 σ7 H7 _ I7 q7;rw [ex'] at a2;refine thnF a2 fun ok s8 ⟨H8,I8,q8⟩=>?_;cases ok with
   | false=>
    rw [if_neg Ak] at q8 ⊢;exact again I8 q8
   | true=>
    rw [if_pos rfl] at q8 ⊢;have a3:=he' _ s8 σ7 H8 _ I8 q8;rw [ex'] at a3;refine thnF a3 fun v s9 ⟨vv,H9,I9,r9,ys,hy,hz,q9⟩=>?_;have a4:=j3p (X:=X') _ s9 σ7 H9 (.ref s2.heap.objs.size) [vv] (.ref s2.heap.objs.size) [v] (fun _ H'=>N σ7 H') I9 rfl (.cons r9 .nil) ⟨_,ys,vv,rfl,rfl,hy,hz,q9⟩;rw [ex'] at a4;exact thnF a4 fun _ s10 ⟨_,H10,I10,_,q10⟩=>again I10 q10
 refine codeAny_compStart_list (loop _) (T.self _ 0 _ _ _ ?_ (loop _));exact T.keep 0 _ _ st2 fun b _ o e=>old b o (old2 b o e)
theorem k8e(sc:Scope)(N N':List Str)(n:Nat)(hi:PI X tg iter wi)
  (hg:∀ cl C s₀ H₀ ex,PG (j14 X N' scope cl C s₀ H₀ ex) tg g) (hif:∀ cl C s₀ H₀ ex,PIf (j14 X N' scope cl C s₀ H₀ ex) ifs tc) (he:∀ cl C s₀ H₀ ex,PE (j14 X N' scope cl C s₀ H₀ ex) elt te)
  (hc:X.calm=true:=by rfl) (hsc:X.env.scope=sc:=by rfl) (hN:X.N=N:=by rfl) (hk:j7n sc scope N N'=true:=by decide +kernel) (hl:N'.length=N.length+n:=by rfl)
  (hs:∀ x,foldedSetIterable iter X.env x=pure x:=by intro _;rfl):PE X (.ListComp elt [⟨tg,iter,ifs,0⟩] scope pos) (k7x n wi g tc te):=by
 intro pins s σ H Q I h;subst hsc hN;have ck:=CompOkC.of hk;rw [eval_ListComp];refine wpAny_comprehension_free (use:=none) rfl hs (j18 fun x hx hf=>I.ok.has x.1 (ck.free x hx hf)) ck.kind ck.names (thn (hi pins s σ H _ I h) fun v s1 h1=>thn h1 fun itv s2 h2=>?_);obtain⟨it,fp,tn,J,H2,e,I2,T,st2,f2,q⟩:=h2;subst e;refine k2q (RR:=fun acc C=>compPost (model X.prog X.w) X.A X.xe none (EP X pins σ Q) acc C) hc ck hl hg hif he I2 T st2 f2 q ?_;intro D C H' s' m IX hn hC c1 c2 c3 c4 qq;exact⟨m,hn,fun h' hs'=>⟨.ref D,H',IX.turned (t':=s'.toks) (fun b o hb e=>hs'.extBut b o hb e) hC (Ne.symm (Ne.symm c1)) (.inr c2) c3 c4,rfl,qq⟩⟩
end
def CEvC(X:Cx)(N':List Str)(scope:Scope)(e:Expr)(σ:St)(H:Hp)(Q:VK):Prop:=∀ cl C s₀ H₀ ex,Ev (j14 X N' scope cl C s₀ H₀ ex) e σ H Q
def CEgC(X:Cx)(N':List Str)(scope:Scope)(e:Expr)(v:V)(σ:St)(H:Hp)(Q:St->Hp->Prop):Prop:=∀ cl C s₀ H₀ ex,Eg (j14 X N' scope cl C s₀ H₀ ex) e v σ H Q
def CEiC(X:Cx)(N':List Str)(scope:Scope)(ifs:List Expr)(σ:St)(H:Hp)(Q:Bool->Hp->Prop):Prop:=∀ cl C s₀ H₀ ex,Ei (j14 X N' scope cl C s₀ H₀ ex) ifs σ H Q
def k8w(X:Cx)(N':List Str)(scope:Scope)(tg:Expr)(ifs:List Expr)(elt:Expr)(J:It)(D:Addr)(after:Hp->Prop)(σ:St)(H:Hp):Prop:=
 ∃ W:Nat->Nat->St->Hp->Prop,(∃ m,W 0 m σ H)/\∀ i m σ' H',W i m σ' H' ->
  (J.stop i H' ∧ after H') ∨ (J.go i H' ∧ ∃ N : St → Hp → Prop, (∀ σ' H', N σ' H' → ∃ m', m' < m ∧ W (i + 1) m' σ' H') ∧ ∀ x H2, J.yld i H' x H2 → CEgC X N' scope tg x σ' H2 fun σ2 H3 => CEiC X N' scope ifs σ2 H3 fun b H4 =>
   if b=true then CEvC X N' scope elt σ2 H4 fun v H5=>∃ ys,H5 D=some (.lst ys)/\ys.length < sizeLine/\N σ2 (upd H5 D (.lst (ys++[v]))) else N σ2 H4)
section
variable{X:Cx}{elt tg iter c:Expr}{ifs:List Expr}{scope:Scope}{pos p:Pos}{wi:TI}{σ:St}{H:Hp}{Q:VK}{T:Bool->Hp->Prop}{rest:List Stmt}{D:Ends}
theorem k7l(sc:Scope)(N N':List Str)(n:Nat)(hi:PI X tg iter wi)
  (h:wi σ H fun J H1=>∀ D,H1 D=none->k8w X N' scope tg ifs elt J D (fun H'=>Q (.ref D) H') (σ++List.replicate n none) (upd H1 D (.lst [])))
  (hc:X.calm=true:=by rfl) (hsc:X.env.scope=sc:=by rfl) (hN:X.N=N:=by rfl) (hk:j7n sc scope N N'=true:=by decide +kernel) (hl:N'.length=N.length+n:=by rfl)
  (hs:∀ x,foldedSetIterable iter X.env x=pure x:=by intro _;rfl):Ev X (.ListComp elt [⟨tg,iter,ifs,0⟩] scope pos) σ H Q:=
 j12 (k8e (g:=fun v σ H Q=>CEgC X N' scope tg v σ H Q) (tc:=fun σ H Q=>CEiC X N' scope ifs σ H Q) (te:=fun σ H Q=>CEvC X N' scope elt σ H Q) sc N N' n hi
  (fun cl C s₀ H₀ ex pins s σ H v u Q I r h=>(h cl C s₀ H₀ ex).run pins s u I r) (fun cl C s₀ H₀ ex pins s σ H Q I h=>(h cl C s₀ H₀ ex).run pins s I) (fun cl C s₀ H₀ ex pins s σ H Q I h=>(h cl C s₀ H₀ ex).run pins s I) hc hsc hN hk hl hs) h
end
section
variable{X:Cx}{elt tg:Expr}{ifs:List Expr}{scope:Scope}{σ:St}{H:Hp}{N':List Str}{A a d:Addr}{xs:List V}{kvs:List (Key×V)}{after:Hp->Prop}
theorem j9o(Pv:Nat->St->Hp->Prop)(h0:Pv 0 σ H)(hl:∀ i σ' H',i<=xs.length->Pv i σ' H'->SqL X.K H' a xs)
  (hs : ∀ i x σ' H', xs[i]? = some x → Pv i σ' H' → CEgC X N' scope tg x σ' H' fun σ2 H3 => CEiC X N' scope ifs σ2 H3 fun b H4 =>
   if b=true then CEvC X N' scope elt σ2 H4 fun v H5=>∃ ys,H5 A=some (.lst ys)/\ys.length < sizeLine/\Pv (i+1) σ2 (upd H5 A (.lst (ys++[v]))) else Pv (i+1) σ2 H4)
  (hd:∀ σ' H',Pv xs.length σ' H'->after H'):k8w X N' scope tg ifs elt (Itl X.K a) A after σ H:=by
 refine⟨fun i m σ' H'=>m=xs.length - i/\i<=xs.length/\Pv i σ' H',⟨_,rfl,Bi _,h0⟩,?_⟩;rintro i m σ' H' ⟨rfl,hi,p⟩;have q:=hl i σ' H' hi p
 by_cases hlt:i < xs.length
 ·refine .inr ⟨⟨xs,xs[i],q,by simp [hlt]⟩,Pv (i+1),fun σ' H' p'=>⟨xs.length - (i+1),by omega,rfl,hlt,p'⟩,fun x H2 y=>?_⟩;obtain⟨e,y⟩:=y;subst e;exact hs i x σ' _ (y xs q) p
 ·have e:i=xs.length:=by omega
  subst e;exact .inl ⟨⟨xs,q,Ag _⟩,hd σ' H' p⟩
end
end L2
namespace L2
open PySem PySem.Spec PyProof.Rows
section
variable{X:Cx}{σ:St}{H:Hp}{D:Ends}{body rest:List Stmt}{a b:Expr}
end
end L2
namespace SetT
open PySem SetTable
def adv(mask:Nat)(p:Probe):Probe:=if p.more > 0 then{p with j:=p.j+1,more:=p.more - 1} else
 {p with j:=(leap mask p.i p.perturb).1,more:=runEnd mask (leap mask p.i p.perturb).1 - (leap mask p.i p.perturb).1,i:=(leap mask p.i p.perturb).1,perturb:=(leap mask p.i p.perturb).2}
def P0(mask i q:Nat):Probe:={j:=i,more:=runEnd mask i - i,i:=i,perturb:=q,dummy:=none}
def itn(mask:Nat)(p:Probe):Nat->Probe
 | 0=>p
 | n+1=>adv mask (itn mask p n)
def pr(mask:Nat)(h:Int)(n:Nat):Probe:=itn mask (P0 mask (bits h % (mask+1)) (bits h)) n
theorem k1k(t:SetTable)(h:Int):t.probeStart h=pr t.mask h 0:=rfl
theorem j57(mask:Nat)(p:Probe)(a:Nat):∀ b,itn mask p (a+b)=itn mask (itn mask p a) b
 | 0=>rfl
 | b+1=>by
  show adv mask (itn mask p (a+b))=adv mask (itn mask (itn mask p a) b);rw [j57 mask p a b]
theorem j4u(mask i q:Nat):∀ k,k<=runEnd mask i - i->itn mask (P0 mask i q) k={j:=i+k,more:=runEnd mask i - i - k,i:=i,perturb:=q,dummy:=none}
 | 0,_=>rfl
 | k+1,h=>by
  show adv mask (itn mask (P0 mask i q) k)=_;rw [j4u mask i q k (by omega)];unfold adv;rw [if_pos (by show runEnd mask i - i - k > 0;omega)];show(⟨i+k+1,runEnd mask i - i - k - 1,i,q,none⟩:Probe)=_
  congr 1
theorem j5k(mask i q:Nat):itn mask (P0 mask i q) (runEnd mask i - i+1)=P0 mask (leap mask i q).1 (leap mask i q).2:=by
 show adv mask (itn mask (P0 mask i q) (runEnd mask i - i))=_;rw [j4u mask i q _ (Ag _)];unfold adv;rw [if_neg (by show ¬ runEnd mask i - i - (runEnd mask i - i) > 0;omega)];rfl
theorem q3n(mask i:Nat):runEnd mask i - i<=9:=by unfold runEnd;split <;> omega
theorem q06{mask i:Nat}(h:i<=mask):runEnd mask i<=mask:=by unfold runEnd;split <;> omega
theorem j8p{mask j:Nat}:∀(fuel i q:Nat),j∈j93 mask fuel i q->∃ n,n < 10 * fuel/\(itn mask (P0 mask i q) n).j=j
 | 0,_,_,h=>by cases h
 | fuel+1,i,q,h=>by
  rcases Ao.mp h with e | h
  ·exact⟨0,by omega,e.symm⟩
  ·obtain⟨n,hn,e⟩:=j8p fuel _ _ h;refine⟨runEnd mask i - i+1+n,by have:=q3n mask i;omega,?_⟩;rw [j57,j5k];exact e
theorem k6d{mask:Nat}(hm:Pow (mask+1))(h:Int){j:Nat}(hj:j < mask+1):∃ n,n < 10 * turns mask/\(pr mask h n).j=j:=
 j8p _ _ _ (j88 hm (Ez _ (Dx _)) (k35 h) hj)
theorem q2s{mask:Nat}:∀(n i q:Nat),i<=mask->(itn mask (P0 mask i q) n).j<=mask:=by
 intro n
 induction n using Nat.strongRecOn with
 | _ n ih=>
  intro i q hi
  by_cases c:n<=runEnd mask i - i
  ·rw [j4u mask i q n c];have:=q06 hi;show i+n<=mask;omega
  ·have e:n=runEnd mask i - i+1+(n - (runEnd mask i - i+1)):=by omega
   rw [e,j57,j5k];exact ih _ (by omega) _ _ (Nat.le_of_lt_succ k4h)
theorem q3u(mask:Nat)(h:Int)(n:Nat):(pr mask h n).j<=mask:=q2s n _ _ (Nat.le_of_lt_succ (Ez _ (Dx _)))
def Reach(mask:Nat)(occ:Nat->Prop)(h:Int)(j:Nat):Prop:=∃ n,(pr mask h n).j=j/\∀ m,m < n->occ (pr mask h m).j
theorem Reach.mono{mask:Nat}{occ occ':Nat->Prop}{h:Int}{j:Nat}(r:Reach mask occ h j)(k:∀ i,i<=mask->occ i->occ' i):Reach mask occ' h j:=
 let ⟨n,e,f⟩:=r;⟨n,e,fun m hm=>k _ (q3u _ _ _) (f m hm)⟩
theorem j68{mask:Nat}{owner:Own}:∀{fuel i q j:Nat},layClean.free mask owner fuel i q=some j->∃ n,(itn mask (P0 mask i q) n).j=j/\∀ m,m < n->nil? owner (itn mask (P0 mask i q) m).j=false
 | 0,_,_,_,h=>by cases h
 | fuel+1,i,q,j,h=>by
  unfold layClean.free at h
  split at h
  ·rename_i k hf;cases h;rw [List.find?_range_eq_some] at hf;have hk:k<=runEnd mask i - i:=by have:=Br.mp hf.2.1;have:=j7s mask i;omega
   refine⟨k,by rw [j4u mask i q k hk],fun m hm=>?_⟩;rw [j4u mask i q m (by omega)];have:=hf.2.2 m hm
   simpa [nil?] using this
  ·rename_i hf;obtain⟨n,e,g⟩:=j68 (fuel:=fuel) h;refine⟨runEnd mask i - i+1+n,by rw [j57,j5k];exact e,fun m hm=>?_⟩
   by_cases c:m<=runEnd mask i - i
   ·rw [j4u mask i q m c];have:=List.find?_eq_none.mp hf m (Br.mpr (by have:=j7s mask i;omega));exact De.mpr this
   ·have e2:m=runEnd mask i - i+1+(m - (runEnd mask i - i+1)):=by omega
    rw [e2,j57,j5k];exact g _ (by omega)
theorem k5p{owner:Own}{j k i:Nat}(h:nil? owner i=false):nil? (owner.setIfInBounds j (some k)) i=false:=by
 unfold nil? at h ⊢;rw [Dj] at h ⊢;rw [Eb]
 split
 ·split <;> rfl
 ·exact h
def LayR(mask:Nat)(hs:List Int)(owner:Own):Prop:=∀ v j x,owner[j]?=some (some v)->hs[v]?=some x->Reach mask (fun i=>nil? owner i=false) x j
theorem j81{mask:Nat}(hm:Pow (mask+1))(all:List Int):∀(hs done:List Int) (owner:Own),all=done++hs->Lies (mask+1) owner done.length->LayR mask all owner->all.length < mask+1+1 ->
  ∃ owner',hs.foldl (j7b mask) (some (owner,done.length))=some (owner',all.length)/\Lies (mask+1) owner' all.length/\LayR mask all owner'
 | [],done,owner,e,L,R,_=>by
  rw [Bk] at e;subst e;exact⟨owner,rfl,L,R⟩
 | h :: r,done,owner,e,L,R,hk=>by
  have el:all.length=done.length+(r.length+1):=by rw [e,Af,Bd]
  obtain⟨j,ej,hj⟩:=L.free hm (by omega) h;have Lp:=L.put hj;have Rp:LayR mask all (owner.setIfInBounds j (some done.length)):=by
   intro v i x hv hx;rw [Eb] at hv
   by_cases c:j=i
   ·subst c;rw [if_pos rfl] at hv
    split at hv
    ·cases hv;rw [e,Bb (Ag _),Nat.sub_self] at hx;cases hx;obtain⟨n,e1,e2⟩:=j68 ej;exact⟨n,e1,fun m hm'=>k5p (e2 m hm')⟩
    ·cases hv
   ·rw [if_neg c] at hv;exact(R v i x hv hx).mono fun _ _=>k5p
  obtain⟨o',e',L',R'⟩:=j81 hm all r (done++[h]) (owner.setIfInBounds j (some done.length)) (by rw [e,Bl];rfl) (by rw [Af];exact Lp) Rp hk;refine⟨o',?_,L',R'⟩;rw [Cs,show j7b mask (some (owner,done.length)) h=some (owner.setIfInBounds j (some done.length),done.length+1) by unfold j7b;simp [ej]];rw [Af] at e';exact e'
theorem q0s{mask:Nat}(hm:Pow (mask+1))(hs:Array Int)(hl:hs.size < mask+1+1):∃ owner,layClean mask hs=some owner/\Lies (mask+1) owner hs.size/\LayR mask hs.toList owner:=by
 obtain⟨o',e,L,R⟩:=j81 hm hs.toList hs.toList [] (Array.replicate (mask+1) none) rfl (Lies.start (mask+1)) (fun v j x hv=>by
  rw [El] at hv
  split at hv <;> cases hv) (by simpa using hl)
 refine⟨o',?_,by simpa using L,R⟩;have e2:layClean mask hs=(hs.foldl (j7b mask) (some (Array.replicate (mask+1) none,0))).map (·.1):=rfl;rw [e2,<- Array.foldl_toList];have e3:([]:List Int).length=0:=rfl;rw [e3] at e;rw [e];rfl
theorem k5y{xs:Array Nat}{j:Nat}(hs:xs.toList.Pairwise (· < ·)):∀(fuel lo hi:Nat),hi<=xs.size->lo<=hi->hi - lo<=fuel->(∀ i v,i < lo->xs[i]?=some v->v < j)->(∀ i v,hi<=i->xs[i]?=some v->j<=v) ->
  (below.go xs j fuel lo hi)<=xs.size/\(∀ i v,i < below.go xs j fuel lo hi->xs[i]?=some v->v < j)/\(∀ i v,below.go xs j fuel lo hi<=i->xs[i]?=some v->j<=v):=by
 have mono:∀{i k:Nat} {u v:Nat},i < k->xs[i]?=some u->xs[k]?=some v->u < v:=fun{i k u v} hik hi hk=>by
  rw [<- Bn] at hi hk;obtain⟨h1,e1⟩:=Ab.mp hi;obtain⟨h2,e2⟩:=Ab.mp hk;rw [<- e1,<- e2];exact Bq.mp hs i k h1 h2 hik
 intro fuel
 induction fuel with
 | zero=>
  intro lo hi h1 h2 h3 h4 h5;have e:lo=hi:=by omega
  subst e;exact⟨h1,h4,h5⟩
 | succ fuel ih=>
  intro lo hi h1 h2 h3 h4 h5;unfold below.go
  by_cases c:lo < hi
  ·rw [if_pos c];have hmid:(lo+hi) / 2 < xs.size:=by omega
   have hm:xs[(lo+hi) / 2]?=some xs[(lo+hi) / 2]:=Bp hmid;have hgd:xs.getD ((lo+hi) / 2) j=xs[(lo+hi) / 2]:=by rw [Dj,hm];rfl
   simp only;rw [hgd]
   by_cases d:xs[(lo+hi) / 2] < j
   ·rw [if_pos d];refine ih _ _ h1 (by omega) (by omega) (fun i v hi' hv=>?_) h5
    by_cases k:i=(lo+hi) / 2
    ·subst k;rw [hm] at hv;cases hv;exact d
    ·exact Nat.lt_trans (mono (by omega) hv hm) d
   ·rw [if_neg d];refine ih _ _ (by omega) (by omega) (by omega) h4 (fun i v hi' hv=>?_)
    by_cases k:i=(lo+hi) / 2
    ·subst k;rw [hm] at hv;cases hv;omega
    ·have:=mono (show(lo+hi) / 2 < i by omega) hm hv;omega
  ·rw [if_neg c];have e:lo=hi:=by omega
   subst e;exact⟨h1,h4,h5⟩
theorem k0r{xs:Array Nat}(hs:xs.toList.Pairwise (· < ·))(j:Nat):below xs j<=xs.size/\(∀ i v,i < below xs j->xs[i]?=some v->v < j)/\(∀ i v,below xs j<=i->xs[i]?=some v->j<=v):=
 k5y hs xs.size 0 xs.size (Ag _) (Bi _) (by omega) (fun i v h=>absurd h (Dh _)) fun i v h hv=>by
  rw [Cp h] at hv;cases hv
end SetT
namespace SetT
open PySem SetTable
theorem k9e{p:Nat->Prop}:∀ n,p n->∃ m,m<=n/\p m/\∀ k,k < m->¬ p k:=by
 intro n
 induction n using Nat.strongRecOn with
 | _ n ih=>
  intro h
  by_cases c:∃ k,k < n/\p k
  ·obtain⟨k,hk,pk⟩:=c;obtain⟨m,h1,h2⟩:=ih k hk pk;exact⟨m,by omega,h2⟩
  ·exact⟨n,Ag _,h,fun k hk pk=>c ⟨k,hk,pk⟩⟩
abbrev Ze:=Nat×(Int×Value)
structure Wf(t:SetTable)(es:Array (Int×Value))(Z:List Ze):Prop where
 place:t.place.toList=Z.map (·.1)
 ents:es.toList=Z.map (·.2)
 srt:Z.Pairwise (fun a b=>a.1 < b.1)
 le:∀ z∈Z,z.1<=t.mask
 few:Z.length<=t.mask
 dum:t.dummies=#[]
 pow:Pow (t.mask+1)
 rch:∀ z∈Z,Reach t.mask (fun j=>j∈Z.map (·.1)) z.2.1 z.1
section
variable{t:SetTable}{es:Array (Int×Value)}{Z:List Ze}
theorem Wf.sorted(W:Wf t es Z):t.place.toList.Pairwise (· < ·):=by
 rw [W.place,List.pairwise_map];exact W.srt
theorem Wf.len(W:Wf t es Z):es.size=Z.length:=by rw [<- Cj,W.ents,Aa]
theorem Wf.plen(W:Wf t es Z):t.place.size=Z.length:=by rw [<- Cj,W.place,Aa]
theorem Wf.at(W:Wf t es Z){i:Nat}{z:Ze}(h:Z[i]?=some z):t.place[i]?=some z.1/\es[i]?=some z.2:=by
 rw [<- Bn,<- Bn,W.place,W.ents,Ae,Ae,h];exact⟨rfl,rfl⟩
theorem Wf.of(W:Wf t es Z){i v:Nat}(h:t.place[i]?=some v):∃ z,Z[i]?=some z/\z.1=v:=by
 rw [<- Bn,W.place,Ae,Ar] at h;exact h
theorem Wf.inj(W:Wf t es Z){i k:Nat}{y z:Ze}(hi:Z[i]?=some y)(hk:Z[k]?=some z)(e:y.1=z.1):i=k:=by
 obtain⟨h1,e1⟩:=Ab.mp hi;obtain⟨h2,e2⟩:=Ab.mp hk
 rcases Ed i k with c | c | c
 ·have:=Bq.mp W.srt i k h1 h2 c;rw [e1,e2] at this;omega
 ·exact c
 ·have:=Bq.mp W.srt k i h2 h1 c;rw [e1,e2] at this;omega
theorem Wf.below_live(W:Wf t es Z){i:Nat}{z:Ze}(h:Z[i]?=some z):below t.place z.1=i:=by
 obtain⟨b1,b2,b3⟩:=k0r W.sorted z.1;have hp:=(W.at h).1;have c1:¬ i < below t.place z.1:=fun c=>Bo _ (b2 i _ c hp)
 rcases Ce (below t.place z.1) i with c | c
 ·have hi:i < Z.length:=(Ab.mp h).1;have hb:below t.place z.1 < Z.length:=by omega
  have h2:Z[below t.place z.1]?=some Z[below t.place z.1]:=Ac hb;have h3:=b3 _ _ (Ag _) (W.at h2).1;have h4:=Bq.mp W.srt _ i hb hi c;rw [(Ab.mp h).2] at h4;omega
 ·omega
theorem Wf.slot_live(W:Wf t es Z){i:Nat}{z:Ze}(h:Z[i]?=some z):t.slot z.1 = .live i:=by
 unfold slot;simp only;rw [W.below_live h,(W.at h).1,if_pos (beq_self_eq_true _)]
theorem Wf.slot_empty(W:Wf t es Z){j:Nat}(h:j∉Z.map (·.1)):t.slot j = .empty:=by
 unfold slot;simp only;have h1:(t.place[below t.place j]? == some j)=false:=by
  rw [beq_eq_false_iff_ne];intro e;obtain⟨z,hz,ez⟩:=W.of e;exact h (Am.mpr ⟨z,An hz,ez⟩)
 rw [if_neg (by rw [h1];exact Ak),W.dum];rfl
theorem Wf.fits(W:Wf t es Z):t.fits es.size=true:=by
 unfold SetTable.fits fill;have:=W.few;rw [W.len,W.plen,W.dum];simp only [beq_self_eq_true,Bool.true_and,decide_eq_true_eq];show Z.length+0<=t.mask;omega
structure Stop(mask:Nat)(Z:List Ze)(h:Int)(N:Nat):Prop where
 out:(pr mask h N).j∉Z.map (·.1)
 inn:∀ m,m < N->(pr mask h m).j∈Z.map (·.1)
 lt:N < 10 * turns mask
theorem Wf.stop(W:Wf t es Z)(h:Int):∃ N,Stop t.mask Z h N:=by
 have:∃ j,j < t.mask+1/\j∉Z.map (·.1):=by
  refine Classical.byContradiction fun hn=>?_;have all:∀ j∈List.range (t.mask+1),j∈Z.map (·.1):=fun j hj=>Classical.byContradiction fun k=>hn ⟨j,Br.mp hj,k⟩;have:=(List.nodup_range (n:=t.mask+1)).length_le_of_subset all;rw [Dp,Aa] at this;have:=W.few;omega
 obtain⟨j,hj,hz⟩:=this;obtain⟨n,hn,e⟩:=k6d W.pow h hj;obtain⟨N,h1,h2,h3⟩:=k9e (p:=fun n=>(pr t.mask h n).j∉Z.map (·.1)) n (by rw [e];exact hz);exact⟨N,h2,fun m hm=>Classical.byContradiction fun k=>h3 m hm k,by omega⟩
theorem j5p{mask:Nat}{p:Probe}(h:p.dummy=none):∀ n,(itn mask p n).dummy=none
 | 0=>h
 | n+1=>by
  show(adv mask (itn mask p n)).dummy=none;unfold adv
  split
  ·exact j5p h n
  ·exact j5p h n
theorem k7r(mask:Nat)(h:Int)(n:Nat):(pr mask h n).dummy=none:=j5p rfl n
theorem Wf.go(W:Wf t es Z){hashAt:Nat->Int}(hh:∀ i e,es[i]?=some e->hashAt i=e.1){h:Int}{N:Nat}(S:Stop t.mask Z h N):∀ fuel m,m<=N->N - m < fuel ->
  (∃ m' i z,m<=m'/\m' < N/\Z[i]?=some z/\z.1=(pr t.mask h m').j/\z.2.1=h/\(∀ k,m<=k->k < m'->∀ z∈Z,z.1=(pr t.mask h k).j->z.2.1≠h)/\probe.go t hashAt h fuel (pr t.mask h m)=some (.candidate (pr t.mask h m').j i (pr t.mask h (m'+1)))) \/
  ((∀ k,m<=k->k < N->∀ z∈Z,z.1=(pr t.mask h k).j->z.2.1≠h)/\probe.go t hashAt h fuel (pr t.mask h m)=some (.empty (pr t.mask h N).j none))
 | 0,m,_,hf=>absurd hf (Dh _)
 | fuel+1,m,hm,hf=>by
  unfold probe.go
  by_cases c:m=N
  ·subst c;refine .inr ⟨fun k h1 h2=>by omega,?_⟩;rw [W.slot_empty S.out];simp only;rw [k7r]
  ·obtain⟨z,hz,ez⟩:=Am.mp (S.inn m (by omega));obtain⟨i,hi⟩:=Bc hz;have uniq:∀ y∈Z,y.1=(pr t.mask h m).j->y=z:=fun y hy e=>by
    obtain⟨k,hk⟩:=Bc hy;have:=W.inj hk hi (by rw [e,ez]);subst this;rw [hk] at hi;exact Option.some.inj hi
   rw [<- ez,W.slot_live hi];simp only;rw [hh i _ (W.at hi).2]
   by_cases d:z.2.1=h
   ·rw [if_pos (by rw [d];exact beq_self_eq_true _)];exact .inl ⟨m,i,z,Ag _,by omega,hi,ez,d,fun k h1 h2=>by omega,by rw [ez];rfl⟩
   ·rw [if_neg (by rw [beq_iff_eq];exact d)]
    rcases W.go hh S fuel (m+1) (by omega) (by omega) with ⟨m',k,y,a1,a2,a3,a4,a5,a6,a7⟩ | ⟨a1,a2⟩
    ·refine .inl ⟨m',k,y,by omega,a2,a3,a4,a5,fun l h1 h2 x hx ex=>?_,a7⟩
     by_cases e:l=m
     ·subst e;rw [uniq x hx ex];exact d
     ·exact a6 l (by omega) h2 x hx ex
    ·refine .inr ⟨fun l h1 h2 x hx ex=>?_,a2⟩
     by_cases e:l=m
     ·subst e;rw [uniq x hx ex];exact d
     ·exact a1 l (by omega) h2 x hx ex
theorem Wf.put(W:Wf t es Z){h:Int}{x:Value}{N:Nat}(S:Stop t.mask Z h N){t':SetTable}(e1:t'.mask=t.mask)(e2:t'.place=(t.put (pr t.mask h N).j).1.place)(e3:t'.dummies=#[])(hf:Z.length+1<=t.mask) :
  ∃ Z',Wf t' (insertAt es (t.put (pr t.mask h N).j).2 (h,x)) Z'/\Z'.Perm (((pr t.mask h N).j,(h,x)) :: Z):=by
 obtain⟨b1,b2,b3⟩:=k0r W.sorted (pr t.mask h N).j;have ep:(t.put (pr t.mask h N).j).2=below t.place (pr t.mask h N).j:=rfl;have eP:(t.put (pr t.mask h N).j).1.place=insertAt t.place (below t.place (pr t.mask h N).j) (pr t.mask h N).j:=rfl;rw [eP] at e2;rw [ep];generalize hb:below t.place (pr t.mask h N).j=p at b1 b2 b3 e2;have hj:=q3u t.mask h N;have sN:=S.out;have sI:=S.inn;have rN:Reach t.mask (fun j=>j∈Z.map (·.1)) h (pr t.mask h N).j:=⟨N,rfl,sI⟩;clear hb eP ep;generalize (pr t.mask h N).j=j at b2 b3 e2 hj sN rN ⊢;have pm:(Z.take p++(j,(h,x)) :: Z.drop p).Perm ((j,(h,x)) :: Z):=by
  refine Fd.trans ?_;rw [Ck]
 refine⟨Z.take p++(j,(h,x)) :: Z.drop p,⟨?_,?_,?_,fun z hz=>?_,?_,e3,by rw [e1];exact W.pow,fun z hz=>?_⟩,pm⟩
 ·rw [e2,toList_insertAt,W.place,Al,Be,Fn,Fo]
 ·rw [toList_insertAt,W.ents,Al,Be,Fn,Fo]
 ·rw [List.pairwise_append];have tk:∀ a∈Z.take p,a.1 < j:=fun a ha=>by
   obtain⟨i,hi⟩:=Bc ha;rw [List.getElem?_take] at hi
   split at hi
   ·exact b2 i _ (by assumption) (W.at hi).1
   ·cases hi
  have dr:∀ a∈Z.drop p,j < a.1:=fun a ha=>by
   obtain⟨i,hi⟩:=Bc ha;rw [List.getElem?_drop] at hi;have:=b3 (p+i) _ (by omega) (W.at hi).1;have ne:a.1≠j:=fun e=>sN (by rw [<- e];exact Am.mpr ⟨a,An hi,rfl⟩);omega
  refine⟨W.srt.sublist (List.take_sublist _ _),List.pairwise_cons.mpr ⟨dr,W.srt.sublist (List.drop_sublist _ _)⟩,fun a ha b hb=>?_⟩
  rcases Ao.mp hb with e | hb
  ·rw [e];exact tk a ha
  ·exact Nat.lt_trans (tk a ha) (dr b hb)
 ·rw [e1]
  rcases Ao.mp (pm.mem_iff.mp hz) with e | hz
  ·rw [e];exact hj
  ·exact W.le z hz
 ·rw [pm.length_eq,e1];exact hf
 ·have up:∀{h':Int} {k:Nat},Reach t.mask (fun j=>j∈Z.map (·.1)) h' k->Reach t'.mask (fun i=>i∈(Z.take p++(j,(h,x)) :: Z.drop p).map (·.1)) h' k:=fun r=>by
   rw [e1];refine r.mono fun i _ hi=>?_;rw [(pm.map (·.1)).mem_iff];exact Aq _ hi
  rcases Ao.mp (pm.mem_iff.mp hz) with e | hz
  ·rw [e];exact up rN
  ·exact up (W.rch z hz)
theorem k83(m:Nat)(owner:Own):(live m owner).Pairwise (fun a b=>a.1 < b.1):=by
 unfold live;rw [List.pairwise_filterMap];refine List.Pairwise.imp (fun{a b} hab x hx y hy=>?_) List.pairwise_lt_range;rw [Ar] at hx hy;obtain⟨u,_,rfl⟩:=hx;obtain⟨v,_,rfl⟩:=hy;exact hab
theorem k52{t:SetTable}{es:Array (Int×Value)}{wanted:Nat}(hm:Pow (sizeAbove wanted))(hl:es.size<=sizeAbove wanted - 1) :
  ∃ t2 order Z,t.relaid (es.map (·.1)) wanted=some (t2,order)/\(order.filterMap (es[·]?)).size=es.size/\Wf t2 (order.filterMap (es[·]?)) Z/\(Z.map (·.2)).Perm es.toList/\t2.mask=sizeAbove wanted - 1:=by
 have hp:8<=sizeAbove wanted:=by rcases hm with h | h | h | h | h | h <;> omega
 have em:sizeAbove wanted - 1+1=sizeAbove wanted:=by omega
 obtain⟨o,e,L,R⟩:=q0s (mask:=sizeAbove wanted - 1) (by rw [em];exact hm) (es.map (·.1)) (by rw [Array.size_map];omega);rw [Array.size_map] at L;rw [show t.relaid (es.map (·.1)) wanted=laid (sizeAbove wanted - 1) t.finger (t.movedTo (sizeAbove wanted - 1)) t.led t.plain (es.map (·.1)) from rfl];generalize sizeAbove wanted - 1=mask at e L R em hl ⊢;have he:∀ p∈live (mask+1) o,p.2 < es.size/\p.1 < mask+1/\o[p.1]?=some (some p.2):=fun p hp=>by
  have:=mem_live.mp hp;exact⟨L.lt _ _ this.2,this.1,this.2⟩
 have ef:∀ l:List (Nat×Nat),(∀ p∈l,p.2 < es.size)->(l.map (·.2)).filterMap (es[·]?)=l.map fun p=>(es[p.2]?).getD (0,.none):=fun l=>by
  induction l with
  | nil=>intro _;rfl
  | cons p r ih=>
   intro hl;rw [Be,Be,Di,Bp (hl p Aw),ih fun q hq=>hl q (Aq _ hq)];rfl
 have ee:(((live (mask+1) o).map (·.2)).toArray.filterMap (es[·]?)).toList=(live (mask+1) o).map fun p=>(es[p.2]?).getD (0,.none):=by
  rw [Array.toList_filterMap];exact ef _ fun p hp=>(he p hp).1
 have es2:(((live (mask+1) o).map (·.2)).toArray.filterMap (es[·]?)).size=es.size:=by
  rw [<- Cj,ee,Aa,L.length]
 refine⟨_,_,(live (mask+1) o).map fun p=>(p.1,(es[p.2]?).getD (0,.none)),by unfold laid;rw [e];rfl,es2,⟨?_,?_,?_,fun z hz=>?_,?_,rfl,by show Pow (mask+1);rw [em];exact hm,fun z hz=>?_⟩,?_,rfl⟩
 ·show(live (mask+1) o).map (·.1)=_;rw [Cc];rfl
 ·rw [ee,Cc];rfl
 ·rw [List.pairwise_map];exact k83 _ _
 ·obtain⟨p,hp,rfl⟩:=Am.mp hz;show p.1<=mask;have:=(he p hp).2.1;omega
 ·rw [Aa,L.length];exact hl
 ·obtain⟨p,hp,rfl⟩:=Am.mp hz;obtain⟨h1,h2,h3⟩:=he p hp;have hx:(es.map (·.1)).toList[p.2]?=some (es[p.2]).1:=by rw [Bn,Array.getElem?_map,Bp h1];rfl
  have eg:(es[p.2]?).getD (0,.none)=es[p.2]:=by rw [Bp h1];rfl
  show Reach mask _ ((es[p.2]?).getD (0,.none)).1 p.1;rw [eg];refine(R p.2 p.1 _ h3 hx).mono fun i hi hn=>?_;rw [Cc];have his:i < o.size:=by rw [L.size];omega
  have h4:o[i]?=some o[i]:=Bp his;cases h5:o[i] with
  | none=>
   rw [h5] at h4;have:=nil?_iff.mpr h4;rw [hn] at this;cases this
  | some v=>
   rw [h5] at h4;exact Am.mpr ⟨(i,v),mem_live.mpr ⟨by omega,h4⟩,rfl⟩
 ·rw [Cc];have p1:((live (mask+1) o).map fun p=>(es[p.2]?).getD (0,.none))=((live (mask+1) o).map (·.2)).map fun v=>(es[v]?).getD (0,.none):=by rw [Cc];rfl
  show((live (mask+1) o).map fun p=>(es[p.2]?).getD (0,.none)).Perm _;rw [p1];refine(L.perm.map _).trans (List.Perm.of_eq ?_);apply Dr;intro i;rw [Ae]
  by_cases c:i < es.size
  ·rw [Dv c];show some ((es[i]?).getD (0,.none))=es.toList[i]?;rw [Bn,Bp c];rfl
  ·rw [Cb (by rw [Dp];omega),Bn,Cp (by omega)];rfl
end
end SetT
namespace SetT
open PySem SetTable
section
variable{prog:Program}{w:World}{K:Type} [DecidableEq K]
def ent(knd:HeapKind prog w K)(y:Nat×K×Addr):Ze:=(y.1,(knd.hash y.2.1,Value.ref y.2.2))
def j86(knd:HeapKind prog w K):Prop:=∀{A:Around} {E:Value->Shared->Prop} {s:Shared} {k:K} {a:Addr} {Q:Bool->Shared->Prop},knd.is s.heap k a->Q false s->wpAny (model prog w) A (ofAClassStatement 8 (.ref a)) Q E s
variable{A:Around}{E:Value->Shared->Prop}{s:Shared}{a b:Addr}{knd:HeapKind prog w K}{k:K}{Y:List (Nat×K×Addr)}
theorem k9o{Q:Bool->Shared->Prop}(U:j86 knd)(hb:knd.is s.heap k b)(l:List Value)(hl:∀ v∈l,∃ k' c,v=Value.ref c/\knd.is s.heap k' c)(q:Q false s):wpAny (model prog w) A (searchCouldBeSeen (.ref b) l) Q E s:=by
 unfold searchCouldBeSeen;refine wpAny_bind (wpAny_forIn_list _ (fun rest r s'=>r.1=none/\s'=s/\∀ v∈rest,∃ k' c,v=Value.ref c/\knd.is s.heap k' c) _ ?_ ?_ l _ ⟨rfl,rfl,hl⟩)
 ·rintro v rest r s' ⟨hr,rfl,hv⟩;obtain⟨k',c,rfl,hc⟩:=hv v Aw;have hrest:∀ v∈rest,∃ k' c,v=Value.ref c/\knd.is s'.heap k' c:=fun v h=>hv v (Aq _ h)
  dsimp only
  split
  ·exact wpAny_pure ⟨rfl,rfl,hrest⟩
  ·refine wpAny_bind (knd.quiet hb ?_);simp only [Dl,At,if_false];refine wpAny_bind (knd.quiet hc ?_);simp only [Dl,At,if_false];refine wpAny_bind (U hb ?_);simp only [At,if_false];refine wpAny_bind (U hc ?_);simp only [At,if_false];exact wpAny_pure ⟨rfl,rfl,hrest⟩
 ·rintro ⟨_,_⟩ s' ⟨rfl,rfl,_⟩;exact wpAny_pure q
theorem k6m{m:Nat}(h:Pow (m+1)):(m % 2 == 0)=false:=by
 rw [beq_eq_false_iff_ne]
 rcases h with h | h | h | h | h | h <;> omega
theorem j5t{adding:Bool}{o:Obj}{es:Array (Int×Value)}{ep:Nat}{t:SetTable}{N:Nat}{Q:SetFound->Shared->Prop}(U:j86 knd)(hA:knd.room A)(ho:s.heap.get? a=some o)(hd:o.data = .set es ep t)(W:Wf t es (Y.map (ent knd)))
  (hY:∀ y∈Y,knd.is s.heap y.2.1 y.2.2) (hb:knd.is s.heap k b) (S:Stop t.mask (Y.map (ent knd)) (knd.hash k) N)
  (k0:k∉Y.map (·.2.1)->Q (.free (pr t.mask (knd.hash k) N).j false) s) (k1:∀ oi,k∈Y.map (·.2.1)->(adding=false->oi.isSome=true)->Q (.there oi) s) :
  ∀(fuel m:Nat) (stand:Option Probe),stand.getD (t.probeStart (knd.hash k))=pr t.mask (knd.hash k) m->m<=N->N - m < fuel->(∀ l,l < m->∀ y∈Y,y.1=(pr t.mask (knd.hash k) l).j->y.2.1≠k) ->
   wpAny (model prog w) A (setSearchFrom a (.ref b) (knd.hash k) adding fuel stand) Q E s
 | 0,m,stand,_,_,hf,_=>absurd hf (Dh _)
 | fuel+1,m,stand,hs,hm,hf,hn=>by
  unfold setSearchFrom;refine wpAny_bind (wpAny_setState_of ho hd W.fits ?_)
  dsimp only
  rw [hs];have gw:t.gaveWay=false:=k6m W.pow;rw [gw];simp only [At,if_false];have hl:=S.lt;have G:=W.go (hashAt:=fun i=>(es[i]?.map (·.1)).getD 0) (fun i e he=>by show(es[i]?.map (·.1)).getD 0=e.1;rw [he];rfl) S (10 * turns t.mask) m hm (by omega)
  split
  ·rename_i met hmet
   rcases G with ⟨m',i,z,a1,a2,a3,a4,a5,a6,a7⟩ | ⟨a1,a2⟩
   ·have e2:=Option.some.inj (hmet.symm.trans a7);subst e2;rw [Ae,Ar] at a3;obtain⟨y,hy,rfl⟩:=a3;have hyY:y∈Y:=An hy;have hZ:(Y.map (ent knd))[i]?=some (ent knd y):=by rw [Ae,hy];rfl
    have hsl:t.slot (pr t.mask (knd.hash k) m').j = .live i:=by rw [<- a4];exact W.slot_live hZ
    have hei:es[i]?=some (knd.hash y.2.1,Value.ref y.2.2):=(W.at hZ).2;have hsm:t.sameMemory t.moves t.mask=some true:=by unfold sameMemory;rw [if_pos (beq_self_eq_true _)]
    have hsame:∀(Q':Bool->Shared->Prop),Q' true s->wpAny (model prog w) A (isSame (.ref y.2.2) (.ref y.2.2)) Q' E s:=fun Q' q=>by
     unfold isSame;simp only;rw [if_pos (beq_self_eq_true _)];exact wpAny_pure q
    have again:y.2.1≠k->wpAny (model prog w) A (setSearchFrom a (.ref b) (knd.hash k) adding fuel (some (pr t.mask (knd.hash k) (m'+1)))) Q E s:=fun ne=>
     j5t U hA ho hd W hY hb S k0 k1 fuel (m'+1) (some (pr t.mask (knd.hash k) (m'+1))) rfl (by omega) (by omega) fun l hl' y' hy' ey'=>by
      by_cases c:l < m
      ·exact hn l c y' hy' ey'
      ·by_cases d:l=m'
       ·subst d;have:(ent knd y')=ent knd y:=by
         obtain⟨i',hi'⟩:=Bc hy';have hZ':(Y.map (ent knd))[i']?=some (ent knd y'):=by rw [Ae,hi'];rfl
         have:=W.inj hZ' hZ (by show y'.1=(ent knd y).1;rw [a4];exact ey');subst this;rw [hZ] at hZ';exact(Option.some.inj hZ').symm
        have e3:y'.2.2=y.2.2:=by
         have:=congrArg (fun z:Ze=>z.2.2) this;exact Value.ref.inj this
        have h1:=hY y' hy';rw [e3] at h1;rw [knd.inj h1 (hY y hyY)];exact ne
       ·intro ek;refine a6 l (by omega) (by omega) (ent knd y') (Am.mpr ⟨y',hy',rfl⟩) ey' ?_;show knd.hash y'.2.1=knd.hash k;rw [ek]
    dsimp only
    split
    all_goals
     try
      refine wpAny_bind (k9o U hb _ ?hm ?_)
      case hm=>
       intro v hv;obtain⟨e,he,rfl⟩:=Am.mp hv;rw [Array.toList_filter,Dg,W.ents] at he;obtain⟨z,hz,rfl⟩:=Am.mp he.1;obtain⟨y',hy',rfl⟩:=Am.mp hz;exact⟨y'.2.1,y'.2.2,rfl,hY y' hy'⟩
      simp only [At,if_false]
     rw [hei]
     dsimp only
     refine wpAny_bind (wpAny_holding (knd.eqBool hA (hY y hyY) hb ?_));refine wpAny_bind (wpAny_setState_of ho hd W.fits ?_)
     dsimp only
     rw [hsm,hsl]
     dsimp only
     rw [if_pos (rfl:true=true)]
     dsimp only
     rw [hei]
     dsimp only
     by_cases ek:y.2.1=k
     ·have hin:k∈Y.map (·.2.1):=Am.mpr ⟨y,hyY,ek⟩;rw [decide_eq_true ek];cases adding with
      | true=>
       simp only [Bool.and_self,if_true];exact wpAny_pure (k1 none hin fun z=>nomatch z)
      | false=>
       simp only [Bool.false_and,At,if_false,if_true];refine wpAny_bind (hsame _ ?_);refine wpAny_bind (wpAny_pure ?_);simp only [if_true];exact wpAny_pure (k1 (some i) hin fun _=>rfl)
     ·rw [decide_eq_false ek];simp only [Bool.and_false,At,if_false,if_true];refine wpAny_bind (hsame _ ?_);refine wpAny_bind (wpAny_pure ?_);simp only [if_true];exact again ek
   ·have e2:=Option.some.inj (hmet.symm.trans a2);subst e2
    dsimp only
    refine wpAny_pure (k0 fun hk=>?_);obtain⟨y,hy,ey⟩:=Am.mp hk;have hz:ent knd y∈Y.map (ent knd):=Am.mpr ⟨y,hy,rfl⟩;obtain⟨n,e1,e2⟩:=W.rch _ hz;have eh:(ent knd y).2.1=knd.hash k:=by show knd.hash y.2.1=_;rw [ey]
    rw [eh] at e1 e2;have hnN:n < N:=by
     refine Classical.byContradiction fun c=>?_
     rcases Ce N n with d | d
     ·exact S.out (e2 N d)
     ·have:n=N:=by omega
      subst this;exact S.out (by rw [e1];exact Am.mpr ⟨_,hz,rfl⟩)
    by_cases c:n < m
    ·exact hn n c y hy e1.symm ey
    ·exact a1 n (by omega) hnN _ hz e1.symm eh
  ·rename_i hno
   rcases G with ⟨m',i,z,a1,a2,a3,a4,a5,a6,a7⟩ | ⟨a1,a2⟩
   ·exact absurd a7 (hno _)
   ·exact absurd a2 (hno _)
end
end SetT
namespace SetT
open PySem SetTable
section
variable{prog:Program}{w:World}{K:Type} [DecidableEq K]
def Way3(m:Nat):Prop:=m=7\/m=31\/m=127\/m=511
def j4v(knd:HeapKind prog w K)(h:Heap)(a:Addr)(Y:List (Nat×K×Addr)):Prop:=
 ∃ o es ep t,h.get? a=some o/\o.ExactSet/\o.data = .set es ep t/\Wf t es (Y.map (ent knd))/\Y.length * 5 < t.mask * 3/\Way3 t.mask
def k8o(knd:HeapKind prog w K):Prop:=∀{A:Around} {E:Value->Shared->Prop} {s:Shared} {k:K} {a:Addr} {Q:Bool->Shared->Prop},knd.is s.heap k a->(∀ b,Q b s)->wpAny (model prog w) A (hashByValue 8 (.ref a)) Q E s
variable{A:Around}{E:Value->Shared->Prop}{s:Shared}{a b:Addr}{knd:HeapKind prog w K}{k:K}{Y:List (Nat×K×Addr)}
theorem k1g{es:Array (Int×Value)}:byScan (.ref b) es=false:=by
 unfold byScan;rfl
theorem k6c{Q:Option Nat->Shared->Prop}(U:j86 knd)(hA:knd.room A)(S:j4v knd s.heap a Y)(hY:∀ y∈Y,knd.is s.heap y.2.1 y.2.2)(hb:knd.is s.heap k b)
  (k0:k∉Y.map (·.2.1)->Q none s) (k1:∀ i,k∈Y.map (·.2.1)->Q (some i) s):wpAny (model prog w) A (setFind a (.ref b) (knd.hash k)) Q E s:=by
 obtain⟨o,es,ep,t,ho,hx,hd,W,_⟩:=S;obtain⟨N,SN⟩:=W.stop (knd.hash k);have hl:=SN.lt;have hm:=W.pow.pos.2;unfold setFind setFindIn;refine wpAny_bind (wpAny_setState_of ho hd W.fits ?_)
 dsimp only
 rw [k1g];simp only [At,if_false];refine wpAny_bind ?_;refine j5t (adding:=false) U hA ho hd W hY hb SN (fun hk=>?_) (fun oi hk hs=>?_) 100000 0 none (k1k t _) (Bi _) (by unfold turns at hl;omega) (fun l hl'=>absurd hl' (Dh _))
 ·exact wpAny_pure (k0 hk)
 ·cases oi with
  | none=>exact absurd (hs rfl) Ak
  | some i=>exact wpAny_pure (k1 i hk)
theorem k9i{m:Nat}(h:Way3 m):Pow (m+1):=by
 unfold Way3 at h;unfold Pow
 rcases h with rfl | rfl | rfl | rfl <;> decide
theorem k9j{m n:Nat}(hw:Way3 m)(h1:(n - 1) * 5 < m * 3)(h2:n * 5>=m * 3)(h0:1<=n)(h3:n<=300):Way3 (sizeAbove (grown n) - 1)/\n<=sizeAbove (grown n) - 1/\n * 5 < (sizeAbove (grown n) - 1) * 3:=by
 rcases hw with h | h | h | h
 ·have:n=5:=by omega
  subst this;unfold Way3;decide +kernel
 ·have:n=19:=by omega
  subst this;unfold Way3;decide +kernel
 ·have:n=77:=by omega
  subst this;unfold Way3;decide +kernel
 ·omega
theorem k3x{o:Obj}{ep:Nat}{es es':Array (Int×Value)}{t t':SetTable}{h:Heap}{Y':List (Nat×K×Addr)}(ho:h.get? a=some o)(hx:o.ExactSet)(hd:o.data = .set es ep t)(W':Wf t' es' (Y'.map (ent knd))) :
  (h.update a (Obj.putSet es' t')).get? a=some {o with data:= .set es' (ep+1) t'}:=by
 have q:=Bx (Obj.putSet es' t') ho (by rw [putSet_of es' t' hd];rfl);rw [putSet_of es' t' hd] at q;exact q
theorem j8j{α β:Type}{f:α->β}{L M:List β}(h:L.Perm M):∀{Y':List α},Y'.map f=M->∃ Y2:List α,L=Y2.map f/\Y2.Perm Y':=by
 induction h with
 | nil=>
  intro Y' hM;have:Y'=[]:=by simpa using hM
  subst this;exact⟨[],rfl,.refl _⟩
 | cons x p ih=>
  intro Y' hM;cases Y' with
  | nil=>cases hM
  | cons y r=>
   rw [Be] at hM
   injection hM with e1 e2
   subst e1;obtain⟨Y2,e3,p2⟩:=ih e2;exact⟨y :: Y2,by rw [e3];rfl,p2.cons y⟩
 | swap x y l=>
  intro Y' hM;cases Y' with
  | nil=>cases hM
  | cons u r=>
   cases r with
   | nil=>cases hM
   | cons v r=>
    rw [Be,Be] at hM
    injection hM with e1 e2
    injection e2 with e2 e3
    subst e1 e2 e3;exact⟨v :: u :: r,rfl,.swap _ _ _⟩
 | trans p1 p2 ih1 ih2=>
  intro Y' hM;obtain⟨Y2,e2,q2⟩:=ih2 hM;obtain⟨Y3,e3,q3⟩:=ih1 e2.symm;exact⟨Y3,e3,q3.trans q2⟩
theorem glue:∀{Z:List Ze} {Y:List (Nat×K×Addr)},Z.map (·.2)=Y.map (fun y=>(ent knd y).2)->∃ Y2:List (Nat×K×Addr),Z=Y2.map (ent knd)/\Y2.map (·.2)=Y.map (·.2)
 | [],[],_=>⟨[],rfl,rfl⟩
 | [],_ :: _,h=>by cases h
 | _ :: _,[],h=>by cases h
 | z :: Z,y :: Y,h=>by
  rw [Be,Be] at h
  injection h with h1 h2
  obtain⟨Y2,e1,e2⟩:=glue h2;refine⟨(z.1,y.2) :: Y2,?_,by rw [Be,Be,e2]⟩;rw [Be,<- e1]
  congr 1
  show z=(z.1,(ent knd y).2);rw [<- h1]
theorem k90{Q:Bool->Shared->Prop}(U:j86 knd)(HB:k8o knd)(hA:knd.room A)(S:j4v knd s.heap a Y)(hY:∀ y∈Y,knd.is s.heap y.2.1 y.2.2)(hb:knd.is s.heap k b)(hl:Y.length+1<=300)
    (q0:k∈Y.map (·.2.1)->Q false s) (q1:∀ h' Y',k∉Y.map (·.2.1)->Heap.SameBut a s.heap h'->j4v knd h' a Y'->(Y'.map (·.2)).Perm ((k,b) :: Y.map (·.2))->Q true {s with heap:=h'}) :
    wpAny (model prog w) A (setAddHashed a (.ref b) (knd.hash k)) Q E s:=by
  obtain⟨o,es,ep,t,ho,hx,hd,W,slack,hw⟩:=S;obtain⟨N,SN⟩:=W.stop (knd.hash k);have hlt:=SN.lt;have hm:=W.pow.pos;have eZ:(Y.map (ent knd)).length=Y.length:=Aa ..;unfold setAddHashed setAddHashedIn;refine wpAny_holding (wpAny_bind (wpAny_setState_of ho hd W.fits ?_))
  dsimp only
  rw [k1g];simp only [At,if_false];refine wpAny_bind ?_;refine j5t (adding:=true) U hA ho hd W hY hb SN (fun hk=>?_) (fun oi hk hs=>?_) 100000 0 none (k1k t _) (Bi _) (by unfold turns at hlt;omega) (fun l hl'=>absurd hl' (Dh _))
  · dsimp only
    refine wpAny_bind (wpAny_setState_of ho hd W.fits ?_)
    dsimp only
    have put:=fun(t':SetTable) e1 e2 e3=>W.put (x:= .ref b) SN (t':=t') e1 e2 e3 (by rw [eZ];omega);have fin:∀ t':SetTable,t'.mask=t.mask->t'.place=(t.put (pr t.mask (knd.hash k) N).j).1.place->t'.dummies=#[]->wpAny (model prog w) A (do
        storeSet a (insertAt es (t.put (pr t.mask (knd.hash k) N).j).2 (knd.hash k,.ref b)) t'
        if (!false && t'.tooFull) = true then do
            setRelay a (grown (es.size+1))
            pure true
          else pure true) Q E s:=fun t' e1 e2 e3=>by
      obtain⟨Z',W',pZ⟩:=put t' e1 e2 e3;obtain⟨Y2,eY2,pY2⟩:=j8j pZ (f:=ent knd) (Y':=((pr t.mask (knd.hash k) N).j,k,b) :: Y) rfl;subst eY2;have lY2:Y2.length=Y.length+1:=pY2.length_eq;have lE:=W'.len;rw [Aa] at lE;have pk:(Y2.map (·.2)).Perm ((k,b) :: Y.map (·.2)):=pY2.map (·.2);generalize insertAt es (t.put (pr t.mask (knd.hash k) N).j).2 (knd.hash k,.ref b)=es1 at W' lE ⊢;refine wpAny_bind (wpAny_storeSet_of ho hd ?_ (j7m (by omega)));have g1:=k3x (knd:=knd) (Y':=Y2) ho hx hd W';have sb:=Heap.SameBut.update s.heap a (Obj.putSet es1 t');have hfill:t'.fill=Y2.length:=by
        unfold fill;rw [W'.plen,e3,Aa];rfl
      by_cases full:t'.tooFull=true
      · rw [full];simp only [Fl,Bool.and_self,if_true];unfold tooFull at full;rw [decide_eq_true_eq,hfill,e1] at full;obtain⟨w1,w2,w3⟩:=k9j (n:=es.size+1) hw (by rw [W.len,eZ];omega) (by rw [W.len,eZ];omega) (by omega) (by rw [W.len,eZ];omega);have en:es.size+1=es1.size:=by rw [lE,lY2,W.len,eZ]
        rw [en] at w1 w2 w3 ⊢;have hp8:sizeAbove (grown es1.size) - 1+1=sizeAbove (grown es1.size):=by unfold Way3 at w1;omega
        have pw:=k9i w1;rw [hp8] at pw;obtain⟨t2,order,Z3,r1,r2,r3,r4,r5⟩:=k52 (t:=t') (es:=es1) pw w2;refine wpAny_bind ?_;unfold setRelay;refine wpAny_bind (wpAny_setState_of g1 rfl W'.fits ?_)
        dsimp only
        have hbig:¬(sizeAbove (grown es1.size) > sizeLine):=by
          have:=pw.pos.2;rw [sizeLine_eq];omega
        rw [if_neg hbig,r1];refine wpAny_bind ?_;show wpAny _ _ (if((order.filterMap (es1[·]?)).size != es1.size)=true then _ else _) _ _ _;rw [if_neg (by rw [r2];simp)];refine wpAny_pure ?_;refine wpAny_storeSet_of g1 rfl ?_ (by rw [r2];exact j7m (by omega));refine wpAny_pure ?_;rw [W'.ents,Cc] at r4;obtain⟨Y4,eY4,pY4⟩:=j8j r4 (f:=fun y=>(ent knd y).2) (Y':=Y2) rfl;obtain⟨Y5,eY5,pY5⟩:=glue eY4;subst eY5;have hx2:({o with data:= .set es1 (ep+1) t'}:Obj).ExactSet:=hx;have g2:=k3x (knd:=knd) (Y':=Y5) g1 hx2 rfl r3;have lY5:Y5.length=Y2.length:=by
          have:=congrArg List.length pY5;rw [Aa,Aa,pY4.length_eq] at this;exact this
        refine q1 _ Y5 hk (sb.trans (Heap.SameBut.update _ a _)) ⟨_,_,_,t2,g2,hx2,rfl,r3,by rw [r5,lY5,<- lE];exact w3,by rw [r5];exact w1⟩ ?_;rw [pY5];exact(pY4.map (·.2)).trans pk
      · rw [Bool.not_eq_true] at full;rw [full];simp only [Bool.and_false,At,if_false];refine wpAny_pure (q1 _ Y2 hk sb ⟨_,es1,ep+1,t',g1,hx,rfl,W',?_,by rw [e1];exact hw⟩ pk);unfold tooFull at full;rw [decide_eq_false_iff_not,hfill] at full;omega
    have dm:(t.put (pr t.mask (knd.hash k) N).j).1.dummies=#[]:=by
      show(if has t.dummies _=true then _ else t.dummies)=#[];rw [W.dum];rfl
    split
    · refine wpAny_bind (HB hb fun bv=>?_);cases bv with
      | true=>exact fin (t.put (pr t.mask (knd.hash k) N).j).1 rfl rfl dm
      | false=>exact fin {(t.put (pr t.mask (knd.hash k) N).j).1 with plain:=false} rfl rfl dm
    · exact wpAny_bind (wpAny_pure (fin (t.put (pr t.mask (knd.hash k) N).j).1 rfl rfl dm))
  · dsimp only
    exact wpAny_pure (q0 hk)
end
section
variable{prog:Program}{w:World}{K:Type} [DecidableEq K] {knd:KeyKind prog w K}
theorem k6k{v:Value}(h:carriedByValue v=true):ofAClassStatement 7 v=pure false:=by
 cases v <;> first | rfl | exact absurd h (by decide) | (unfold carriedByValue at h;cases h)
theorem k6a{v:Value}(h:carriedByValue v=true):∃ b,hashByValue 7 v=pure b:=by
 cases v <;> first | exact⟨_,rfl⟩ | exact absurd h (by decide) | (unfold carriedByValue at h;cases h)
theorem j49:j86 (tupleKind knd):=by
 intro A E s k a Q hk q;have hT:=IsTupleKey.typeIs hk;obtain⟨o,items,n,ho,hc,hd,hi⟩:=hk;unfold ofAClassStatement;refine wpAny_bind (wpAny_typeOf hT ?_)
 dsimp only
 refine wpAny_bind (wpAny_pure ?_);simp only [Dl,At,if_false];refine wpAny_bind (wpAny_seqItems ho hd ?_)
 dsimp only
 refine wpAny_bind ?_;rw [<- Array.forIn_toList];refine wpAny_forIn_list _ (fun rest r s'=>r.1=none/\s'=s/\∀ v∈rest,carriedByValue v=true) _ ?_ ?_ _ _ ⟨rfl,rfl,hi.byValue⟩
 ·rintro v rest r s' ⟨hr,rfl,hall⟩;rw [k6k (hall v Aw)];refine wpAny_bind (wpAny_pure ?_);simp only [At,if_false];exact wpAny_pure ⟨rfl,rfl,fun u hu=>hall u (Aq _ hu)⟩
 ·rintro ⟨r1,r2⟩ s' ⟨hr,rfl,_⟩;simp only at hr;subst hr;exact wpAny_pure q
theorem j8f:k8o (tupleKind knd):=by
 intro A E s k a Q hk q;have hT:=IsTupleKey.typeIs hk;obtain⟨o,items,n,ho,hc,hd,hi⟩:=hk;unfold hashByValue;refine wpAny_bind (wpAny_specialOf hT F.slot_tuple_hash.lookup ?_)
 dsimp only
 refine wpAny_bind (wpAny_seqItems ho hd ?_);refine wpAny_bind ?_;show wpAny _ _ (forIn items _ _) _ _ s;rw [<- Array.forIn_toList];refine wpAny_forIn_list _ (fun rest r s'=>s'=s/\∀ v∈rest,carriedByValue v=true) _ ?_ ?_ _ _ ⟨rfl,hi.byValue⟩
 ·rintro v rest r s' ⟨rfl,hall⟩;obtain⟨b,eb⟩:=k6a (hall v Aw);rw [eb];refine wpAny_bind (wpAny_pure ?_);cases b with
  | true=>
   simp only [Dl,At,if_false];exact wpAny_pure ⟨rfl,fun u hu=>hall u (Aq _ hu)⟩
  | false=>
   simp only [Fl,if_true];exact wpAny_pure (by first | exact wpAny_pure (q _) | trace_state)
 ·rintro ⟨r1,r2⟩ s' ⟨rfl,_⟩;cases r1 with
  | none=>exact wpAny_pure (q _)
  | some r=>exact wpAny_pure (q _)
end
end SetT
namespace L2
open PySem PySem.Spec PyProof.Rows SetT
open Classical
abbrev Yt:=Nat×List Key×Addr
def j5d(prog:Program)(w:World)(a:Addr)(Y:List Yt):HO:= .ext fun h=>j4v (tupleKind (j0r prog w)) h a Y
section
variable{prog:Program}{w:World}{A:Around}{E:Value->Shared->Prop}{s:Shared}{a b:Addr}{Y:List Yt}{k:List Key}
theorem q0b{h h':Heap}(S:j4v (tupleKind (j0r prog w)) h a Y)(q:∀ o,h.get? a=some o->h'.get? a=some o):j4v (tupleKind (j0r prog w)) h' a Y:=let ⟨o,es,ep,t,h1,h2⟩:=S;⟨o,es,ep,t,q o h1,h2⟩
theorem k0k(S:j4v (tupleKind (j0r prog w)) s.heap a Y):s.TypeIs (.ref a) "set":=let ⟨o,_,_,_,h1,h2,_⟩:=S;⟨o,h1,h2.1⟩
theorem q24{h:Heap}(e:h.get? a=some (j46 w)):j4v (tupleKind (j0r prog w)) h a []:=
 ⟨_,#[],0,_,e,⟨rfl,rfl,rfl⟩,rfl,⟨rfl,rfl,List.Pairwise.nil,fun z hz=>(by cases hz),by show 0<=7;decide,rfl,.inl rfl,fun z hz=>(by cases hz)⟩,by show 0 * 5 < 7 * 3;decide,.inl rfl⟩
theorem k1p{Q:Value->Shared->Prop}(hu:A.units+1 < cLine)(S:j4v (tupleKind (j0r prog w)) s.heap a Y)(hY:∀ y∈Y,(tupleKind (j0r prog w)).is s.heap y.2.1 y.2.2)(hb:(tupleKind (j0r prog w)).is s.heap k b)
  (h:∀ tk,Q (.bool (decide (k∉Y.map (·.2.1)))) {s with toks:=tk}):wpAny (model prog w) A (compareOp .NotIn (.ref b) (.ref a)) Q E s:=by
 have hT:=k0k S;show wpAny _ _ (do return .bool (!(<- contains (.ref a) (.ref b)))) Q E s;refine wpAny_bind ?_;unfold contains
 try with_reducible refine wpAny_holding ?_
 refine wpAny_bind (wpAny_specialOf hT PySem.F.slot_set_contains.lookup ?_);show wpAny _ _ (if(some (Value.builtin "set.__contains__") == some Value.none)=true then _ else _) _ E s;rw [if_neg (by rw [beq_builtin_none];exact Ak)];refine wpAny_bind (wpAny_callSpecialUnlessNone?_slot (name:=Str.ofString "__contains__") hT PySem.F.slot_set_contains (wpAny_call_entry PySem.F.slot_set_contains hT entry_set_contains ?_ (PySem.F.args_set_contains_2 _ _)));unfold Builtin.«frozenset.__contains__» Builtin.Frozenset.oneOther;simp only [Fb,bind_assoc];unfold Builtin.Frozenset.addrOf Builtin.Frozenset.withSetAsKey setContains;refine wpAny_bind (wpAny_pure ?_)
 try dsimp only
 refine wpAny_bind (wpAny_pure ?_)
 try dsimp only
 refine wpAny_bind (wpAny_tryCatch (wpAny_holding ?_));refine wpAny_bind ((tupleKind (j0r prog w)).pyHash (k:=k) (tupleKind_room_in1 hu) hb ?_);refine wpAny_bind (k6c (s:={s with toks:=s.toks+(tupleKind (j0r prog w)).draws k}) j49 (tupleKind_room_in1 hu) S hY hb (fun hz=>?_) (fun j hz=>?_))
 ·refine wpAny_pure ?_;show wpAny _ _ (ret (Value.bool false)) _ _ _;have h:=h (s.toks+(tupleKind (j0r prog w)).draws k);rw [decide_eq_true hz] at h;exact wpAny_pure ⟨_,rfl,wpAny_truthy_bool (wpAny_pure h)⟩
 ·refine wpAny_pure ?_;show wpAny _ _ (ret (Value.bool true)) _ _ _;have h:=h (s.toks+(tupleKind (j0r prog w)).draws k);rw [decide_eq_false (not_not_intro hz)] at h;exact wpAny_pure ⟨_,rfl,wpAny_truthy_bool (wpAny_pure h)⟩
theorem k47{Q:Value->Shared->Prop}(hu:A.units+1 < cLine)(S:j4v (tupleKind (j0r prog w)) s.heap a Y)(hY:∀ y∈Y,(tupleKind (j0r prog w)).is s.heap y.2.1 y.2.2)(hb:(tupleKind (j0r prog w)).is s.heap k b)(hl:Y.length+1<=300)
  (h:∀ h' tk Y',Heap.SameBut a s.heap h'->j4v (tupleKind (j0r prog w)) h' a Y'->(Y'.map (·.2)).Perm (if k∈Y.map (·.2.1) then Y.map (·.2) else(k,b) :: Y.map (·.2))->Q .none {s with heap:=h',toks:=tk}) :
  wpAny (model prog w) A (call (.builtin "set.add") [.ref a,.ref b]) Q E s:=by
 have hT:=k0k S;refine wpAny_call_entry F.slot_set_add hT F.entry_set_add ?_ (F.args_set_add_2 _ _);unfold Builtin.«set.add» Builtin.Frozenset.oneOther;simp only [Fb,bind_assoc];unfold Builtin.Frozenset.addrOf setAdd;refine wpAny_bind (wpAny_pure ?_)
 try dsimp only
 refine wpAny_bind (wpAny_pure ?_)
 try dsimp only
 refine wpAny_bind ?_;refine wpAny_holding ?_;refine wpAny_bind ((tupleKind (j0r prog w)).pyHash (k:=k) (tupleKind_room_in1 hu) hb ?_);refine k90 (s:={s with toks:=s.toks+(tupleKind (j0r prog w)).draws k}) j49 j8f (tupleKind_room_in1 hu) S hY hb hl (fun hk=>?_) (fun h' Y' hk sb S' p=>?_)
 ·show wpAny _ _ (ret Value.none) _ _ _;exact wpAny_pure ⟨_,rfl,h s.heap _ Y (Heap.SameBut.refl a s.heap) S (by rw [if_pos hk])⟩
 ·show wpAny _ _ (ret Value.none) _ _ _;exact wpAny_pure ⟨_,rfl,h h' _ Y' sb S' (by rw [if_neg hk];exact p)⟩
end
section
variable{X:Cx}{σ:St}{H:Hp}{Q:VK}{pins:List (Addr×Obj)}{s:Shared}{a b:Addr}{Y:List Yt}
theorem k1d{h:Heap}(S:j4v (tupleKind (j0r X.prog X.w)) h a Y):ObjOk X.prog X.w H h a (j5d X.prog X.w a Y):=by
 refine⟨S,?_,fun h1 h2 q k=>q0b q k⟩;obtain⟨o,_,_,_,ho,_⟩:=S;exact⟨o,ho⟩
theorem Inv.setT(I:Inv X pins σ H s)(h:H a=some (j5d X.prog X.w a Y)):j4v (tupleKind (j0r X.prog X.w)) s.heap a Y:=(I.hok a _ h).1
structure TsAt(prog:Program)(w:World)(H:Hp)(a:Addr)(ks:List (List Key)):Prop where
 ex:∃ Y,H a=some (j5d prog w a Y)/\(∀ y∈Y,H y.2.2=some (.tup (y.2.1.map kV)))/\(Y.map (·.2.1)).Perm ks
theorem TsAt.same{prog:Program}{w:World}{H H':Hp}{ks:List (List Key)}(h:TsAt prog w H a ks)(s:Same H H'):TsAt prog w H' a ks:=let ⟨Y,h1,h2,h3⟩:=h.ex;⟨Y,s _ _ h1,fun y hy=>s _ _ (h2 y hy),h3⟩
theorem TsAt.keep{prog:Program}{w:World}{H H':Hp}{ks:List (List Key)}(h:TsAt prog w H a ks)(k1:H' a=H a)(k2:∀ b xs,H b=some (.tup xs)->H' b=some (.tup xs)):TsAt prog w H' a ks:=let ⟨Y,h1,h2,h3⟩:=h.ex;⟨Y,by rw [k1];exact h1,fun y hy=>k2 _ _ (h2 y hy),h3⟩
theorem TsAt.ne{prog:Program}{w:World}{H:Hp}{ks:List (List Key)}{o:HO}(h:TsAt prog w H a ks)(e:H b=some o)(ho:∀ φ,o ≠ .ext φ):b≠a:=fun q=>by
 obtain⟨Y,h1,_⟩:=h.ex;rw [q,h1] at e;exact ho _ (Option.some.inj e).symm
theorem TsAt.some{prog:Program}{w:World}{H:Hp}{ks:List (List Key)}(h:TsAt prog w H a ks):H a≠none:=fun q=>by
 obtain⟨Y,h1,_⟩:=h.ex;rw [q] at h1;cases h1
theorem k6h{p pos:Pos}(hm:X.mg "set" = none)(h:∀ D,H D=none->Q (.ref D) (upd H D (j5d X.prog X.w D [])))(hg:Gl X "set":=by rfl):Ev X (.Call (.Name "set" p) [] [] pos) σ H Q:=by
 refine⟨fun pins s I=>Call_ (j47 I hg hm PyProof.Rows.boot_set (PyProof.Rows.callWith_type0 (k3i ?_)))⟩;exact⟨.ref s.heap.objs.size,_,I.laid (t':=s.toks) (fun b o e=>Ad _ e) (Ag _) (k1d (q24 (Aj _ rfl))),rfl,h _ I.fresh⟩
theorem ts_new{prog:Program}{w:World}{D:Addr}:TsAt prog w (upd H D (j5d prog w D [])) D []:=⟨[],j0b,fun y hy=>(by cases hy),.refl _⟩
theorem j7x(hu:X.A.units+1 < cLine):OpR X (compareOp .NotIn) (fun x y H Q=>∃ k b a ks,x = .ref b/\y = .ref a/\H b=some (.tup (k.map kV))/\TsAt X.prog X.w H a ks/\Q (.bl (decide (k∉ks))) H):=by
 intro pins s σ H x y v u Q I rx ry h;obtain⟨k,b,a,ks,rfl,rfl,hb,T,q⟩:=h;obtain⟨Y,h1,h2,h3⟩:=T.ex;cases (show v=Value.ref b from rx);cases (show u=Value.ref a from ry);refine k1p hu (Inv.setT I h1) (fun y hy=>j4j I.hok (h2 y hy)) (j4j I.hok hb) fun tk=>⟨.bl (decide (k∉ks)),H,I.tok _,?_,q⟩;show Value.bool _=Value.bool _
 congr 1
 exact decide_eq_decide.mpr (not_congr h3.mem_iff)
theorem k9r{o e:Expr}{ap cp:Pos}(hu:X.A.units+1 < cLine) (h:Ev X o σ H fun x H1=>∃ a,x = .ref a/\(∃ ks,TsAt X.prog X.w H1 a ks)/\Ev X e σ H1 fun y H2=>∃ k b ks,y = .ref b/\H2 b=some (.tup (k.map kV))/\TsAt X.prog X.w H2 a ks/\ks.length+1<=300 /\
   ∀ oo,TsAt X.prog X.w (upd H2 a oo) a (if k∈ks then ks else k :: ks)->Q .non (upd H2 a oo))
  (hbase:attributeBase o "add" X.env (eval o X.env)=eval o X.env:=by rfl)
  (hfew:((backTo cp (starEach [e] X.env)).all (fun x=>!x.1) && (backToKw cp (keywordEach [] X.env)).all (fun x=>x.1.isSome) && decide ([e].length+([]:List Keyword).length+(if([]:List Keyword).isEmpty then 0 else 1) < 30))=true:=by rfl)
  (hline:(ap.endLine == cp.line)=true:=by rfl) (hs:starEach [e] X.env=(false,eval e X.env) :: starEach [] X.env:=by rfl) (hst:isStar e=false:=by rfl):Ev X (.Call (.Attribute o "add" ap) [e] [] cp) σ H Q:=by
 refine⟨fun pins s I=>wpAny_Call_method_late hbase hfew hline rfl (thn (h.run pins s I) fun v s1 ⟨x,H1,I1,r1,a,ex,⟨ks,hA⟩,h2⟩=>?_)⟩;subst ex;cases (show v=Value.ref a from r1);obtain⟨Y0,g1,_⟩:=hA.ex;have S:=Inv.setT I1 g1;refine⟨"set","set.add",PySem.F.plainAttrs_set,PySem.F.slot_set_add,PySem.F.type_set_add,k0k S,fun b eb=>?_,?_⟩
 ·cases eb;obtain⟨o,_,_,_,ho,hx,_⟩:=S;exact⟨o,ho,hx.2.1⟩
 have hE:Ea X [e] σ H1 (fun ys H2=>∃ k b ks,ys=[.ref b]/\H2 b=some (.tup (k.map kV))/\TsAt X.prog X.w H2 a ks/\ks.length+1<=300/\∀ oo,TsAt X.prog X.w (upd H2 a oo) a (if k∈ks then ks else k :: ks)->Q .non (upd H2 a oo)):=
  j0a (h2.mono fun y H2 ⟨k,b,ks,ey,q⟩=>j0c ⟨k,b,ks,by rw [ey],q⟩) hst
 have hA2:=hE.run cp pins s1 I1;rw [hs] at hA2 ⊢;refine Calls.callWith_builtin rfl (Calls.evalArgs_plain ?_);refine thn hA2 fun us s2 ⟨vs,H2,I2,r2,k,b,ks,ev,hb,T,hl,q⟩=>?_;subst ev;obtain⟨u,rfl,ru⟩:=vals1 r2;cases (show u=Value.ref b from ru);obtain⟨Y,g1,g2,g3⟩:=T.ex;have hlY:Y.length=ks.length:=by
  have:=g3.length_eq;rw [Aa] at this;exact this
 refine k47 hu (Inv.setT I2 g1) (fun y hy=>j4j I2.hok (g2 y hy)) (j4j I2.hok hb) (by omega) fun h' tk Y' sb S' p=>?_;refine⟨.non,_,j3m (t':=tk) I2 (by rw [g1];exact True.intro) sb ?_ (k1d S'),rfl,q _ ?_⟩
 ·obtain⟨o,_,_,_,ho,_⟩:=S';exact⟨o,ho⟩
 ·have nt:∀{c:Addr} {xs:List V},H2 c=some (.tup xs)->c≠a:=fun e z=>by
   rw [z,g1] at e;cases e
  refine⟨Y',j0b,fun y hy=>?_,?_⟩
  ·have hm:y.2∈(if k∈Y.map (·.2.1) then Y.map (·.2) else(k,b) :: Y.map (·.2)):=p.mem_iff.mp (Am.mpr ⟨y,hy,rfl⟩);have old:y.2∈Y.map (·.2)->(upd H2 a (j5d X.prog X.w a Y')) y.2.2=some (.tup (y.2.1.map kV)):=fun hm=>by
    obtain⟨z,hz,ez⟩:=Am.mp hm;rw [<- ez,j0e (nt (g2 z hz))];exact g2 z hz
   split at hm
   ·exact old hm
   ·rcases Ao.mp hm with e | hm
    ·rw [e,j0e (nt hb)];exact hb
    ·exact old hm
  ·have p2:=p.map (·.1);rw [Cc] at p2;refine p2.trans ?_
   by_cases c:k∈Y.map (·.2.1)
   ·rw [if_pos c,if_pos (g3.mem_iff.mp c),Cc];exact g3
   ·rw [if_neg c,if_neg (fun z=>c (g3.mem_iff.mpr z)),Be,Cc];exact g3.cons k
end
end L2
namespace J0
open PySem L2 Nt Sort2 SetT
def AtE(n:Net)(H:Hp)(ts:List Addr)(es:List Nt.End):Prop:=ts.length=es.length/\∀(j:Nat) t e,ts[j]?=some t->es[j]?=some e->H t=some (TN n e)
theorem AtE.keep{n:Net}{H H':Hp}{ts:List Addr}{es:List Nt.End}(h:AtE n H ts es)(k:∀ t p j,H t=some (Tn p j)->H' t=some (Tn p j)):AtE n H' ts es:=⟨h.1,fun j t e h1 h2=>k _ _ _ (h.2 j t e h1 h2)⟩
theorem AtE.same{n:Net}{H H':Hp}{ts:List Addr}{es:List Nt.End}(h:AtE n H ts es)(s:Same H H'):AtE n H' ts es:=h.keep fun _ _ _ q=>s _ _ q
theorem AtE.append{n:Net}{H:Hp}{ts us:List Addr}{es fs:List Nt.End}(h:AtE n H ts es)(g:AtE n H us fs):AtE n H (ts++us) (es++fs):=by
 refine⟨by rw [Af,Af,h.1,g.1],fun j t e h1 h2=>?_⟩;have hl:=h.1
 by_cases hj:j < ts.length
 ·rw [Ax hj] at h1;rw [Ax (by omega)] at h2;exact h.2 j t e h1 h2
 ·rw [Bb (by omega)] at h1 h2;rw [<- hl] at h2;exact g.2 _ t e h1 h2
theorem q4w{n:Net}(hN:(n.map (·.1)).Nodup){a b:Nt.End}(ha:a∈ends n)(hb:b∈ends n):decide (nameAt n a.1=nameAt n b.1/\(a.2:Int)=(b.2:Int))=decide (a=b):=by
 obtain⟨z1,h1⟩:=mem_ends.mp ha;obtain⟨z2,h2⟩:=mem_ends.mp hb;refine decide_eq_decide.mpr ⟨fun⟨p,q⟩=>j4t hN (j16 h1) (j16 h2) (by unfold key;rw [p,q]),fun e=>by rw [e];exact⟨rfl,rfl⟩⟩
def StepAt(n:Net)(H:Hp)(d:Addr)(c:Int):Prop:=∃ kvs,H d=some (.dT kvs)/\∀ e∈ends n,∃ u,valV kvs (key n e)=some (.ref u)/\H u=some (TN n (go c n e))
theorem StepAt.same{n:Net}{H H':Hp}{d:Addr}{c:Int}(h:StepAt n H d c)(s:Same H H'):StepAt n H' d c:=let ⟨kvs,h1,h2⟩:=h;⟨kvs,s _ _ h1,fun e he=>let ⟨u,a,b⟩:=h2 e he;⟨u,a,s _ _ b⟩⟩
theorem StepAt.get{n:Net}{H:Hp}{d t:Addr}{c:Int}{e:Nt.End}(h:StepAt n H d c)(he:e∈ends n)(ht:H t=some (TN n e)):∃ u,DGet H d (.ref t) (some (.ref u))/\H u=some (TN n (go c n e)):=by
 obtain⟨kvs,h1,h2⟩:=h;obtain⟨u,a,b⟩:=h2 e he;exact⟨u,by rw [<- a];exact DGet.t (k:=key n e) h1 ht,b⟩
structure WAt(n:Net)(H:Hp)(L:Addr)(ls:List Addr)(ws:List (List Nt.End)):Prop where
 lst:H L=some (.lst (ls.map V.ref))
 len:ls.length=ws.length
 nod:ls.Nodup
 out:L∉ls
 at':∀(j:Nat) l w,ls[j]?=some l->ws[j]?=some w->∃ ts,H l=some (.lst (ts.map V.ref))/\AtE n H ts w
theorem WAt.same{n:Net}{H H':Hp}{L:Addr}{ls:List Addr}{ws:List (List Nt.End)}(h:WAt n H L ls ws)(s:Same H H'):WAt n H' L ls ws:=
 ⟨s _ _ h.lst,h.len,h.nod,h.out,fun j l w h1 h2=>let ⟨ts,a,b⟩:=h.at' j l w h1 h2;⟨ts,s _ _ a,b.same s⟩⟩
theorem WAt.keep{n:Net}{H H':Hp}{L:Addr}{ls:List Addr}{ws:List (List Nt.End)}(h:WAt n H L ls ws)(hL:H' L=H L)(kl:∀ l∈ls,∀ o,H l=some o->H' l=some o)(kt:∀ t p j,H t=some (Tn p j)->H' t=some (Tn p j)):WAt n H' L ls ws:=
 ⟨by rw [hL];exact h.lst,h.len,h.nod,h.out,fun j l w h1 h2=>let ⟨ts,a,b⟩:=h.at' j l w h1 h2;⟨ts,kl l (An h1) _ a,b.keep kt⟩⟩
theorem WAt.snoc{n:Net}{H H':Hp}{L l:Addr}{ls ts:List Addr}{ws:List (List Nt.End)}{v:List Nt.End}(h:WAt n H L ls ws)(hL:H' L=some (.lst (ls.map V.ref++[.ref l])))(kl:∀ l∈ls,∀ o,H l=some o->H' l=some o)(kt:∀ t p j,H t=some (Tn p j)->H' t=some (Tn p j))
  (hl:H' l=some (.lst (ts.map V.ref))) (hv:AtE n H' ts v) (hn:l∉ls) (hLl:L≠l):WAt n H' L (ls++[l]) (ws++[v]):=by
 refine⟨by rw [hL,Al];rfl,by rw [Af,Af,h.len];rfl,j5v h.nod hn,fun hm=>?_,fun j a x h1 h2=>?_⟩
 ·rcases Ba.mp hm with hm | hm
  ·exact h.out hm
  ·exact hLl (Ah.mp hm)
 ·have hlen:=h.len
  by_cases hj:j < ls.length
  ·rw [Ax hj] at h1;rw [Ax (by omega)] at h2;obtain⟨us,q1,q2⟩:=h.at' j a x h1 h2;exact⟨us,kl a (An h1) _ q1,q2.keep kt⟩
  ·rw [Bb (by omega)] at h1 h2;have hj2:j - ls.length=0:=by
    have:=(Ab.mp h1).1;simp at this;omega
   rw [hj2] at h1;rw [<- hlen,hj2] at h2;cases h1;cases h2;exact⟨ts,hl,hv⟩
theorem k9t{n:Net}{i:Nat}{p:Str×Nt.End}(h:(j06 n)[i]?=some p):(ends n)[i]?=some p.2:=by unfold ends;rw [Ae,h];rfl
def spFF:Sp:=fun vs H Q _=>∃(dl t:Addr) (n:Net) (e:Nt.End),vs=[.ref dl,.ref t]/\StepAt n H dl 1/\(n.map (·.1)).Nodup/\j1s n/\(ties n).length<=1000/\e∈ends n/\H t=some (TN n e) /\
 ∀(l:Addr) (ts:List Addr) (H':Hp),Same H H'->H l=none->H' l=some (.lst (ts.map V.ref))->AtE n H' ts (face n e)->Q (.ref l) H'
def j9t:Sp:=fun vs H Q _=>∃(R:Addr) (as:List (Addr×Addr)) (n:Net),vs=[.ref R]/\RowsAt H R as n/\(n.map (·.1)).Nodup/\j1s n/\n.length<=1000/\(ties n).length<=200 /\
 ∀(L:Addr) (ls:List Addr) (H':Hp),Same H H'->H L=none->WAt n H' L ls (fac n)->(∀ l∈ls,H l=none)->Q (.ref L) H'
section
variable{P:Program}{w:World}{K:PySem.W.Frag}{mg:Str->Option Value}{base:Heap}
abbrev NFf:List Str:=["steps","first","face","end"]
theorem scFF:FnScope NFf ["steps","first"] (j0f k42):=⟨rfl,rfl,rfl,by decide +kernel,rfl,by decide +kernel,by decide +kernel⟩
theorem q4q{f:Addr}{fd:FuncData}(F:Fun K "face_from" "face_from" k42 f fd)(T:Txt mg):FnOk P w K mg base CX0 1 f fd ["steps","first"] spFF:=by
 refine F.gb scFF (fun vs H Q E h=>?_) (fun b0 H vs Q E hr h=>?_)
 ·obtain⟨dl,t,n,e,rfl,_⟩:=h;rfl
 obtain⟨dl,t,n,e,rfl,hL,hN,hT,hti,he,ht,q⟩:=h;have nd:=scFF.nd;have hel:=j3z n;have hu:=hr.u1;have un:=hr.u100;obtain⟨k,pk,hk⟩:=j8z hT he;have k0:=pk.pos;have stp:∀{H':Hp} {c:Nt.End} {u:Addr},Same H H'->c∈ends n->H' u=some (TN n c)->∃ v,DGet H' dl (.ref u) (some (.ref v))/\H' v=some (TN n (step n c)):=fun{H' c u} sm hc hu'=>by
  obtain⟨v,g,e⟩:=(hL.same sm).get hc hu';rw [<- k82 hT hc] at e;exact⟨v,g,e⟩
 show Run _ _ _ [some (.ref dl),some (.ref t),none,none] H;refine j0i 2 nd (j1f (j0a (ev_v 1 (j0c ⟨(by show 1<=sizeLine;decide),fun l hl=>?_⟩))));have s1:=j0g hl (.lst [.ref t]);have el:(upd H l (.lst [.ref t])) l=some (.lst ([t].map V.ref)):=j0b;generalize upd H l (.lst [.ref t])=H1 at s1 el;obtain⟨u1,g1,e1⟩:=stp s1 he (s1 _ _ ht);refine j0i 3 nd (j38 hu (ev_v 0 (ev_v 1 ⟨dl,.ref u1,rfl,g1,?_⟩)));show Run _ _ _ [some (.ref dl),some (.ref t),some (.ref l),some (.ref u1)] H1;refine j5x (fun m σ H2=>∃(j:Nat) (ts:List Addr) (u:Addr),m=k - j/\0 < j/\j<=k/\Same H H2/\H2 l=some (.lst (ts.map V.ref))/\AtE n H2 ts (fl n e j)/\H2 u=some (TN n (it (step n) j e))/\σ=[some (.ref dl),some (.ref t),some (.ref l),some (.ref u)])
  (m0:=k - 1) ⟨1,[t],u1,rfl,Nat.one_pos,k0,s1,el,⟨rfl,fun j x c h1 h2=>?_⟩,e1,rfl⟩ ?_
 ·match j with
  | 0=>cases h1;cases h2;exact s1 _ _ ht
  | j+1=>simp at h1
 rintro m σ H2 ⟨j,ts,u,rfl,j0,j1,sH,el2,at2,eu,rfl⟩;have hje:it (step n) j e∈ends n:=j6b (fun a ha=>j4k hT ha) he j;refine j0v (j40 un) (ev_v 3 (ev_v 1 ⟨1,_,by decide,k8q eu (sH _ _ ht),_,rfl,?_⟩));rw [q4w hN hje he];have tl:=at2.1;rw [j55] at tl
 by_cases c:it (step n) j e=e
 ·rw [decide_eq_true c];have jk:j=k:=by
   rcases Ce j k with h | h
   ·exact absurd c (pk.first j j0 h)
   ·omega
  subst jk;refine iteF (j0l (ev_v 2 (q l ts H2 sH hl el2 ?_)));unfold face;rw [k0j pk];exact at2
 ·rw [decide_eq_false c];have jk:j < k:=by
   rcases Ce j k with h | h
   ·exact h
   ·have:j=k:=by omega
    subst this;exact absurd pk.back c
  refine iteT (j0z (j1r (ev_v 2 ⟨l,rfl,⟨_,el2⟩,ev_v 3 ⟨_,el2,by rw [Aa];exact j03 (by omega),?_⟩⟩)));have sH3:Same H (upd H2 l (.lst (ts.map V.ref++[.ref u]))):=j1h sH hl;have el3:(upd H2 l (.lst (ts.map V.ref++[.ref u]))) l=some (.lst ((ts++[u]).map V.ref)):=by rw [j0b,Al];rfl
  have kt:∀ b p' j',H2 b=some (Tn p' j')->(upd H2 l (.lst (ts.map V.ref++[.ref u]))) b=some (Tn p' j'):=fun b p' j' h=>by
   rw [j0e (j11 h el2 fun z=>nomatch z)];exact h
  generalize upd H2 l (.lst (ts.map V.ref++[.ref u]))=H3 at sH3 el3 kt;obtain⟨v2,g4,e4⟩:=stp sH3 hje (kt _ _ _ eu);refine j0i 3 nd (j38 hu (ev_v 0 (ev_v 3 ⟨dl,.ref v2,rfl,g4,?_⟩)));refine j0j ⟨k - (j+1),by omega,j+1,ts++[u],v2,rfl,Dx _,jk,sH3,el3,?_,e4,rfl⟩;rw [k9n];refine(at2.keep kt).append ⟨rfl,fun j x c h1 h2=>?_⟩
  match j with
  | 0=>cases h1;cases h2;exact kt _ _ _ eu
  | j+1=>simp at h1
abbrev NFs:List Str:=["rows","ends","steps","told","faces","first","face","end"]
theorem scFs:FnScope NFs ["rows"] (j0f k4p):=⟨rfl,rfl,rfl,by decide +kernel,rfl,by decide +kernel,by decide +kernel⟩
structure Told(n:Net)(ks:List (List Key))(tl:List Nt.End):Prop where
 nod:ks.Nodup
 mem:∀ e∈ends n,key n e∈ks↔e∈tl
 of:∀ k∈ks,∃ e∈ends n,k=key n e
theorem Told.len{n:Net}{ks:List (List Key)}{tl:List Nt.End}(h:Told n ks tl):ks.length<=(ends n).length:=by
 have:=h.nod.length_le_of_subset (l₂:=(ends n).map (key n)) fun k hk=>by
  obtain⟨e,he,rfl⟩:=h.of k hk;exact Am.mpr ⟨e,he,rfl⟩
 rw [Aa] at this;exact this
open Classical in
theorem Told.add{n:Net}(hN:(n.map (·.1)).Nodup){ks:List (List Key)}{tl:List Nt.End}(h:Told n ks tl){e:Nt.End}(he:e∈ends n):Told n (if key n e∈ks then ks else key n e :: ks) (tl++[e]):=by
 have inj:∀{a b:Nt.End},a∈ends n->b∈ends n->key n a=key n b->a=b:=fun{a b} ha hb k=>by
  obtain⟨z1,h1⟩:=mem_ends.mp ha;obtain⟨z2,h2⟩:=mem_ends.mp hb;exact j4t hN (j16 h1) (j16 h2) k
 by_cases c:key n e∈ks
 ·rw [if_pos c];refine⟨h.nod,fun a ha=>?_,h.of⟩;rw [h.mem a ha,Ba,Ah];exact⟨fun k=> .inl k,fun k=>by
   rcases k with k | k
   ·exact k
   ·rw [k];exact(h.mem e he).mp c⟩
 ·rw [if_neg c];refine⟨Cf.mpr ⟨c,h.nod⟩,fun a ha=>?_,fun k hk=>?_⟩
  ·rw [Ao,h.mem a ha,Ba,Ah]
   constructor
   ·rintro (k | k)
    ·exact .inr (inj ha he k)
    ·exact .inl k
   ·rintro (k | k)
    ·exact .inr k
    ·exact .inl (by rw [k])
  ·rcases Ao.mp hk with k1 | k1
   ·exact⟨e,he,k1⟩
   ·exact h.of k k1
open Classical in
theorem k6r{f:Addr}{fd:FuncData}(F:Fun K "faces_of" "faces_of" k4p f fd)(T:Txt mg)
  (GO:Has P w K mg base 3 "ends_in_order" ["rows"] k0p)
  (GL:Has P w K mg base 3 "left_steps" ["rows"] (spLS 1))
  (GF:Has P w K mg base 3 "face_from" ["steps","first"] spFF) :
  FnOk P w K mg base CX0 4 f fd ["rows"] j9t:=by
 refine F.gb scFs (fun vs H Q E h=>?_) (fun b0 H vs Q E hr h=>?_)
 ·obtain⟨R,as,n,rfl,_⟩:=h;rfl
 obtain⟨R,as,n,rfl,hR,hN,hT,hn,hti,q⟩:=h;have nd:=scFs.nd;have hel:=j3z n;have hu:=hr.u1;show Run _ _ _ [some (.ref R),none,none,none,none,none,none,none] H;refine j0i 1 nd (j0s GO hr (j0a (ev_v 0 (j0c ⟨R,as,n,rfl,hR,hn,by omega,fun U us H1 s1 n1 e1 at1=>?_⟩))));have lus:us.length=(ends n).length:=by rw [at1.1];unfold ends;rw [Aa]
 refine j1g (j25 (k79 (ev_v 1 (v:= .ref U) ⟨!(us.map V.ref).isEmpty,Or.inl ⟨_,SqL.of e1,rfl⟩,?_⟩)));rw [Bool.not_not]
 by_cases hb:ends n=[]
 ·have hus:us=[]:=Bg.mp (by rw [lus,hb];rfl);subst hus;refine iteT (j0l (j1f (j0a (j1f (j0c ⟨(by show 0<=sizeLine;decide),fun l hl=>j0c ⟨(by show 1<=sizeLine;decide),fun L hL=>?_⟩⟩)))));have s2:=j0g hl (.lst []);have s3:=j0g hL (.lst [.ref l]);refine q L [l] _ ((s1.trans s2).trans s3) ((s1.trans s2).free hL) ?_ fun l' hl'=>by rw [Ah.mp hl'];exact s1.free hl
  unfold fac;rw [if_pos hb];refine⟨j0b,rfl,by simp,fun hm=>?_,fun j l' w h1 h2=>?_⟩
  ·rw [Ah.mp hm,j0b] at hL;cases hL
  ·match j with
   | 0=>cases h1;cases h2;exact⟨[],s3 _ _ j0b,rfl,fun j t e h=>by simp at h⟩
   | j+1=>simp at h1
 have hne:us.map V.ref≠[]:=fun h=>hb (Bg.mp (by have:=congrArg List.length h;rw [Aa,lus] at this;exact this));have hem:(us.map V.ref).isEmpty=false:=by
  cases h:us.map V.ref with
  | nil=>exact absurd h hne
  | cons a r=>rfl
 rw [hem];refine iteF (j0j ?_);refine j0i 2 nd (j0s GL hr (j0a (ev_v 0 (j0c ⟨R,as,n,rfl,hR.same s1,hN,hT,hn,by omega,fun dl kl H2 s2 n2 e2 v2=>?_⟩))));refine j0i 3 nd (k6h T.tset fun D hD=>?_);refine j0i 4 nd (j1f (j0c ⟨(by show 0<=sizeLine;decide),fun L hL=>?_⟩));have hSL:StepAt n H2 dl 1:=⟨kl,e2,v2⟩;have s12:=s1.trans s2;have hLD:L≠D:=fun e=>by rw [e,j0b] at hL;cases hL
 have hL2:H2 L=none:=by rw [j0e hLD] at hL;exact hL
 have hD0:=j0t s12 hD;have hL0:=j0t s12 hL2;have sB:Same H2 (upd (upd H2 D (j5d P w D [])) L (.lst [])):=(j0g hD _).trans (j0g hL _);have tD0:TsAt P w (upd (upd H2 D (j5d P w D [])) L (.lst [])) D []:=ts_new.same (j0g hL _);have eL0:(upd (upd H2 D (j5d P w D [])) L (.lst [])) L=some (.lst []):=j0b;have hSLB:=hSL.same sB;have e1B:=sB _ _ (s2 _ _ e1);have at1B:∀(j:Nat) (t:Addr) (p:Str×Nt.End),us[j]?=some t->(j06 n)[j]?=some p->(upd (upd H2 D (j5d P w D [])) L (.lst [])) t=some (TN n p.2):=fun j t p h1 h2=>sB _ _ (s2 _ _ (at1.2 j t p h1 h2));show Run _ _ _ [some (.ref R),some (.ref U),some (.ref dl),some (.ref D),some (.ref L),none,none,none] (upd (upd H2 D (j5d P w D [])) L (.lst []));generalize upd (upd H2 D (j5d P w D [])) L (.lst [])=H5 at sB tD0 eL0 hSLB e1B at1B;have sH5:=s12.trans sB;have nUL:U≠L:=j0h (s2 _ _ e1) hL2;have nUD:U≠D:=j0h (s2 _ _ e1) hD;have tnD:∀{b p j},H5 b=some (Tn p j)->b≠D:=fun h=>tD0.ne h fun φ z=>nomatch z;refine j13 (ev_v 1 ⟨U,rfl,⟨_,SqL.of e1B⟩,?_⟩);refine j1o (xs:=us.map V.ref) (fun i σ H'=>∃(ks:List (List Key)) (tl:List Nt.End) (ls:List Addr) (ws:List (List Nt.End)) (u1 u2 u3:Option V),(∀ b o,b≠D->b≠L->H5 b=some o->H' b=some o)/\TsAt P w H' D ks/\Told n ks tl /\
  WAt n H' L ls ws/\(∀ l∈ls,H5 l=none)/\ls.length<=i/\fcs n (ends n) []=ws++fcs n ((ends n).drop i) tl/\σ=[some (.ref R),some (.ref U),some (.ref dl),some (.ref D),some (.ref L),u1,u2,u3])
  ⟨[],[],[],[],_,_,_,fun b o _ _ h=>h,tD0,⟨Cm,fun e _=>by simp,fun k h=>by simp at h⟩,⟨eL0,rfl,Cm,by simp,fun j l w h=>by simp at h⟩,fun l h=>by simp at h,Ag _,rfl,rfl⟩ ?_ ?_ ?_
 ·rintro i σ H' _ ⟨_,_,_,_,_,_,_,kp,_⟩;exact SqL.of (kp _ _ nUD nUL e1B)
 ·rintro i x σ H' hx ⟨ks,tl,ls,ws,u1,u2,u3,kp,tD,told,hW,hf,hli,hwk,rfl⟩;have hi:i < us.length:=by
   have:=(Ab.mp hx).1;rw [Aa] at this;exact this
  rw [Ae,Ac hi] at hx;cases hx;have hsi:i < (j06 n).length:=by have:=at1.1;omega
  have ht5:H5 us[i]=some (TN n (j06 n)[i].2):=at1B i us[i] (j06 n)[i] (Ac hi) (Ac hsi);have hee:=k9t (Ac hsi);generalize (j06 n)[i].2=e at ht5 hee;have he:e∈ends n:=An hee;have hdrop:(ends n).drop i=e :: (ends n).drop (i+1):=by
   have hie:i < (ends n).length:=by omega
   rw [List.drop_eq_getElem_cons hie]
   congr 1
   have:=Ac hie;rw [hee] at this;exact(Option.some.inj this).symm
  have ktn:∀{b p j},H5 b=some (Tn p j)->H' b=some (Tn p j):=fun{b p j} h=>kp _ _ (tnD h) (j11 h eL0 fun z=>nomatch z) h;have ht':=ktn ht5;have hst:StepAt n H' dl 1:=by
   obtain⟨kvs,a,b⟩:=hSLB;exact⟨kvs,kp _ _ (tD0.ne a fun φ z=>nomatch z) (j11 a eL0 fun z=>nomatch z) a,fun e he=>let ⟨u,p,r⟩:=b e he;⟨u,p,ktn r⟩⟩
  refine j0n 5 nd ?_;refine j1g (j0v (j7x hu) (ev_v 5 (ev_v 3 ⟨key n e,us[i],D,ks,rfl,rfl,ht',tD,_,rfl,?_⟩)));refine ite2 (fun c=>?_) (fun c=>?_)
  ·have hz:key n e∉ks:=of_decide_eq_true c;have hzt:e∉tl:=fun h=>hz ((told.mem e he).mpr h);refine j0i 6 nd (j0s GF hr (j0a (ev_v 2 (j0a (ev_v 5 (j0c ⟨dl,us[i],n,e,rfl,hst,hN,hT,by omega,he,ht',fun l ts H6 s6 n6 e6 at6=>?_⟩))))));have eL6:=s6 _ _ hW.lst;have tD6:=tD.same s6;have nlL:L≠l:=j0h hW.lst n6;have nlD:D≠l:=fun k=>tD.some (by rw [k];exact n6);refine j0z (j1r (ev_v 4 ⟨L,rfl,⟨_,eL6⟩,ev_v 6 ⟨_,eL6,by rw [Aa];exact j03 (by omega),?_⟩⟩));have k7:∀ b o,b≠L->H6 b=some o->(upd H6 L (.lst (ls.map V.ref++[.ref l]))) b=some o:=fun b o hb h=>by rw [j0e hb];exact h
   have eL7:(upd H6 L (.lst (ls.map V.ref++[.ref l]))) L=some (.lst (ls.map V.ref++[.ref l])):=j0b;have tD7:TsAt P w (upd H6 L (.lst (ls.map V.ref++[.ref l]))) D ks:=tD6.keep (by rw [j0e (Ne.symm hLD)]) fun b xs h=>by rw [j0e (j11 h eL6 fun z=>nomatch z)];exact h
   generalize upd H6 L (.lst (ls.map V.ref++[.ref l]))=H7 at k7 eL7 tD7;have kt7:∀ t p j,H6 t=some (Tn p j)->H7 t=some (Tn p j):=fun t p j h=>k7 _ _ (j11 h eL6 fun z=>nomatch z) h;have e7:=k7 _ _ (Ne.symm nlL) e6;have at7:=at6.keep kt7;have hnl:l∉ls:=fun hm=>by
    obtain⟨j,hj⟩:=Bc hm;have hlen:=hW.len;have hjw:j < ws.length:=by have:=(Ab.mp hj).1;omega
    obtain⟨_,a,_⟩:=hW.at' j l ws[j] hj (Ac hjw);rw [n6] at a;cases a
   have hW7:WAt n H7 L (ls++[l]) (ws++[face n e]):=hW.snoc eL7 (fun a ha o ho=>k7 _ _ (fun q=>hW.out (q ▸ ha)) (s6 _ _ ho)) (fun t p j h=>kt7 _ _ _ (s6 _ _ h)) e7 at7 hnl nlL;have l57:H5 l=none:=by
    cases q5:H5 l with
    | none=>rfl
    | some o=>rw [kp _ _ (Ne.symm nlD) (Ne.symm nlL) q5] at n6;cases n6
   have hf7:∀ a∈ls++[l],H5 a=none:=fun a ha=>by
    rcases Ba.mp ha with ha | ha
    ·exact hf a ha
    ·rw [Ah.mp ha];exact l57
   have kp7:∀ b o,b≠D->b≠L->H5 b=some o->H7 b=some o:=fun b o h1 h2 h=>k7 _ _ h2 (s6 _ _ (kp b o h1 h2 h));have hll:(ls++[l]).length<=i+1:=by rw [Af];show ls.length+1<=_;omega
   have hwk7:fcs n (ends n) []=(ws++[face n e])++fcs n ((ends n).drop (i+1)) (tl++face n e):=by
    rw [hwk,hdrop];show ws++(if e∈tl then _ else _)=_;rw [if_neg hzt,Bl];rfl
   have hev:=j6j hT he;have lts:=at7.1;refine j13 (ev_v 6 ⟨l,rfl,⟨_,SqL.of e7⟩,?_⟩);refine j1o (xs:=ts.map V.ref) (fun m σ H9=>∃(ks':List (List Key)) (u3:Option V),(∀ b o,b≠D->H7 b=some o->H9 b=some o)/\TsAt P w H9 D ks'/\Told n ks' (tl++(face n e).take m) /\
    σ=[some (.ref R),some (.ref U),some (.ref dl),some (.ref D),some (.ref L),some (.ref us[i]),some (.ref l),u3]) ⟨ks,_,fun b o _ h=>h,tD7,by rw [List.take_zero,Bk];exact told,rfl⟩ ?_ ?_ ?_
   ·rintro m σ H9 _ ⟨_,_,k9,_⟩;exact SqL.of (k9 _ _ (Ne.symm nlD) e7)
   ·rintro m x σ H9 hx ⟨ks',u3,k9,tD9,told9,rfl⟩;rw [Ae,Ar] at hx;obtain⟨t,htm,rfl⟩:=hx;have hmf:m < (face n e).length:=by have:=(Ab.mp htm).1;omega
    have hfm:(face n e)[m]?=some (face n e)[m]:=Ac hmf;have hc:=hev _ (An hfm);have etk:(face n e).take (m+1)=(face n e).take m++[(face n e)[m]]:=by rw [Bz,hfm];rfl
    have ht7:=at7.2 m t _ htm hfm;generalize (face n e)[m]=c9 at hfm hc etk ht7;have nD9:t≠D:=fun k=>by rw [k] at ht7;exact(tD7.ne ht7 fun φ z=>nomatch z) rfl
    have ht9:=k9 _ _ nD9 ht7;have hle:=told9.len;refine j0n 7 nd ?_;refine j0z (k9r hu (ev_v 3 ⟨D,rfl,⟨_,tD9⟩,ev_v 7 ⟨key n c9,t,ks',rfl,ht9,tD9,by omega,fun oo tD10=>j0j ⟨_,_,fun b o hb h=>by rw [j0e hb];exact k9 b o hb h,tD10,?_,rfl⟩⟩⟩));rw [etk,<- Bl];exact told9.add hN hc
   ·rintro σ H9 ⟨ks',u3,k9,tD9,told9,rfl⟩;rw [Aa,lts,Bw] at told9;refine j0j (j0j ⟨ks',tl++face n e,ls++[l],ws++[face n e],_,_,_,fun b o h1 h2 h=>k9 b o h1 (kp7 b o h1 h2 h),tD9,told9,?_,hf7,hll,hwk7,rfl⟩);have nd9:∀{b o},H7 b=some o->(∀ φ,o≠HO.ext φ)->b≠D:=fun h ho=>tD7.ne h ho;refine hW7.keep ?_ (fun a ha o ho=>k9 a o ?_ ho) fun t p j h=>k9 _ _ (nd9 h fun φ z=>nomatch z) h
    ·rw [hW7.lst];exact k9 _ _ (Ne.symm (Ne.symm hLD)) hW7.lst
    ·intro k;have:=hf7 a ha;rw [k] at this;exact tD0.some this
  ·have hz:key n e∈ks:=Classical.byContradiction fun h=>c (decide_eq_true h);have hzt:e∈tl:=(told.mem e he).mp hz;refine j0j (j0j ⟨ks,tl,ls,ws,_,_,_,kp,tD,told,hW,hf,by omega,?_,rfl⟩);rw [hwk,hdrop];show ws++(if e∈tl then _ else _)=_;rw [if_pos hzt]
 ·rintro σ H' ⟨ks,tl,ls,ws,u1,u2,u3,kp,tD,told,hW,hf,hli,hwk,rfl⟩;rw [Aa,lus,List.drop_length] at hwk;have hw2:fac n=ws:=by
   unfold fac;rw [if_neg hb,hwk];exact Bk _
  have sF:Same H H':=fun b o h=>kp b o (j0h h hD0) (j0h h hL0) (sH5 _ _ h);refine j0l (ev_v 4 (q L ls H' sF hL0 (by rw [hw2];exact hW) fun l hl=>?_));exact sH5.free (hf l hl)
end
end J0
namespace Nt
open PySem L2
def nmA(n:Net)(r:Nat):Str:=((n[r]?).map (·.1)).getD ⟨#[]⟩
theorem j41{n:Net}{r:Nat}(h:r < n.length):nmA n r=n[r].1:=by unfold nmA;rw [Ac h];rfl
end Nt
namespace Nt
open PySem L2
theorem q5m{κ:Type} [DecidableEq κ] (kvs:List (κ×V)) (k:κ) (v:V):(putK kvs k v).map (·.1)=if k∈kvs.map (·.1) then kvs.map (·.1) else kvs.map (·.1)++[k]:=by
 have e:(kvs.any fun kv=>decide (kv.1=k))=decide (k∈kvs.map (·.1)):=by
  rw [By,Co,decide_eq_true_iff,Am];exact⟨fun⟨p,h1,h2⟩=>⟨p,h1,of_decide_eq_true h2⟩,fun⟨p,h1,h2⟩=>⟨p,h1,decide_eq_true h2⟩⟩
 unfold putK;rw [e]
 by_cases h:k∈kvs.map (·.1)
 ·rw [if_pos (decide_eq_true h),if_pos h,Cc];refine List.map_congr_left fun p _=>?_;show(if p.1=k then(p.1,v) else p).1=p.1
  split <;> rfl
 ·rw [if_neg (by simpa using h),if_neg h,Al];rfl
end Nt
namespace Nt
open PySem L2
open PyProof.Rows (sortedS)
end Nt
namespace Nt
open PySem L2
theorem j4p{X:Cx}{H:Hp}{k:Nat}(z:Str):EqD X H k (.str z) (.str z) true:=by
 have:=j2v (X:=X) (H:=H) (k:=k) (x:= .str z) (y:= .str z) rfl rfl;have e:eqV (.str z) (.str z)=true:=by show(z == z)=true;simp
 rw [e] at this;exact this
theorem j7v{X:Cx}{H:Hp}{a b:Addr}{zs:List Str}(ha:H a=some (Ls zs))(hb:H b=some (Ls zs)):RcD X H 1 (.ref a) (.ref b) true:=by
 have q:=j5h (X:=X) (k:=0) (fun _=>true) (SqL.of (K:=X.K) ha) (SqL.of (K:=X.K) hb) rfl fun j x y hx hy=>by
  rw [hx] at hy;cases hy;rw [Ae,Ar] at hx;obtain⟨z,_,rfl⟩:=hx;exact j4p z
 rw [j2w] at q;exact q
theorem j5m{X:Cx}{H:Hp}{k:Nat}{a b:Addr}(h:RcD X H k (.ref a) (.ref b) true):EqD X H k (.ref a) (.ref b) true:=by
 by_cases e:a=b
 ·subst e;exact j5l
 ·exact k0t e h
theorem k6y{X:Cx}{H:Hp}{R R':Addr}{as bs:List (Addr×Addr)}{n:Net}(h:RowsAt H R as n)(g:RowsAt H R' bs n):RnD X H 3 (.ref R) (.ref R') true:=by
 have q:=j4f (X:=X) (k:=2) (fun _=>true) (SqL.of (K:=X.K) h.lst) (SqL.of (K:=X.K) g.lst) (by rw [Aa,Aa,h.len,g.len]) fun j x y hx hy=>by
  rw [Ae,Ar] at hx hy;obtain⟨a,ea,rfl⟩:=hx;obtain⟨b,eb,rfl⟩:=hy;have hj:j < n.length:=by
   have:=(Ab.mp ea).1;have:=h.len;omega
  obtain⟨q1,q2⟩:=h.tup j a n[j] ea (Ac hj);obtain⟨q3,q4⟩:=g.tup j b n[j] eb (Ac hj);have t:=j70 (X:=X) (k:=1) (fun _=>true) (SqT.of (K:=X.K) q1) (SqT.of (K:=X.K) q3) rfl fun i x y hx hy=>by
   match i with
   | 0=>cases hx;cases hy;exact j4p _
   | 1=>cases hx;cases hy;exact j5m (j7v q2 q4)
   | i+2=>simp at hx
  rw [j2w] at t;exact j5m t
 rw [j2w] at q;exact q
theorem k7k{X:Cx}{H:Hp}{k:Nat}(y z:Str):EqD X H k (.str y) (.str z) (decide (y=z)):=by
 have:=j2v (X:=X) (H:=H) (k:=k) (x:= .str y) (y:= .str z) rfl rfl;have e:eqV (.str y) (.str z)=decide (y=z):=by
  show(y == z)=_;rw [By,decide_eq_true_iff];simp
 rw [e] at this;exact this
theorem q37(ys zs:List Str)(h:ys.length=zs.length):(List.range ys.length).all (fun j=>decide (ys[j]?=zs[j]?))=decide (ys=zs):=by
 rw [By,Ci,decide_eq_true_iff]
 constructor
 ·intro q;refine Dr fun j=>?_
  by_cases hj:j < ys.length
  ·exact of_decide_eq_true (q j (Br.mpr hj))
  ·rw [Cb (by omega),Cb (by omega)]
 ·rintro rfl j _;exact decide_eq_true rfl
theorem k4c{X:Cx}{H:Hp}{a b:Addr}{ys zs:List Str}(ha:H a=some (Ls ys))(hb:H b=some (Ls zs)):RcD X H 1 (.ref a) (.ref b) (decide (ys=zs)):=by
 by_cases hl:ys.length=zs.length
 ·have q:=j5h (X:=X) (k:=0) (fun j=>decide (ys[j]?=zs[j]?)) (SqL.of (K:=X.K) ha) (SqL.of (K:=X.K) hb) (by rw [Aa,Aa,hl]) fun j x y hx hy=>by
   rw [Ae,Ar] at hx hy;obtain⟨u,hu,rfl⟩:=hx;obtain⟨v,hv,rfl⟩:=hy;have:=k7k (X:=X) (H:=H) (k:=0) u v;have e:decide (ys[j]?=zs[j]?)=decide (u=v):=by
    rw [hu,hv,By,decide_eq_true_iff,decide_eq_true_iff];exact⟨Option.some.inj,fun h=>by rw [h]⟩
   rw [e];exact this
  rw [Aa,q37 ys zs hl] at q;exact q
 ·have e:decide (ys=zs)=false:=decide_eq_false fun q=>hl (by rw [q]);rw [e];exact k5x (SqL.of ha) (SqL.of hb) (by rw [Aa,Aa];exact hl)
end Nt
namespace L2
open PySem PySem.Spec PyProof.Rows
section
variable{X:Cx}{σ:St}{H:Hp}
end
end L2
namespace L2
open PySem PySem.Spec PyProof.Rows
structure Xo(h:Heap)(e T:Addr)(C fl:Value):Prop where
 ex:∃ oe vs,h.get? e=some oe/\oe.cls=C/\oe.dict=none/\oe.data = .fields vs/\vs[1]?=some (.ref T)/\vs[2]?=some .none
 ne:T≠e
 tr:∃ oT ts,h.get? T=some oT/\oT.data = .fields ts/\ts[3]?=some fl
structure Kp(fs bad:List Addr)(h h':Heap):Prop where
 keep:∀ b o,h.get? b=some o->b∉fs->b∉bad->h'.get? b=some o
 slot:∀ b o,h.get? b=some o->b∈fs->∃ sl,h'.get? b=some {o with slots:=sl}
theorem j6k(o:Obj)(f:Array Value->Array Value):(o.mapFields f).dict=o.dict:=by
 obtain⟨c,d,dt,sl⟩:=o;cases dt <;> rfl
section
variable{M:Model}{A:Around}{E:Value->Shared->Prop}{s:Shared}
theorem j9k{base:Heap}{env:Env}{outer:List Env}{L e:Addr}{oe:Obj}{vs:Array Value}{head:Value}{nx:Bool}{Q:Unit->Shared->Prop}(hfr:A.frames=some (env :: outer))(hl:s.heap.FunFrames base (env :: outer))(hf:env.frame=some L)
  (he:s.heap.get? e=some oe) (hd:oe.data = .fields vs) (hdi:oe.dict=none) (h1:1 < vs.size) (h2:vs[2]?=some .none)
  (h:∀ h' T,s.heap.get? T=none->Xo h' e T oe.cls .none->Kp (frs (env :: outer)) [e] s.heap h'->Q () {s with heap:=h'}) :
  wpAny M A (do let a <- frameOf env;let pl <- entryPlaceOf L nx;let b <- EntryCells.newEntry head a .none (rawInt L) .none pl;setField (.ref e) 1 b) (fun _ s'=>wpAny M A (setFlight (.ref e) none) Q E s') E s:=by
 have nef:e∉frs (env :: outer):=fun hm=>by
  obtain⟨_,o,ho,hn⟩:=hl.mem hm;rw [he] at ho;cases ho;exact hn vs hd
 refine wpAny_bind (wpAny_frameOf_fun hfr hl hf fun ha sa=>?_);refine wpAny_bind (wpAny_entryPlaceOf fun pl ip=>?_);unfold EntryCells.newEntry newFields;refine wpAny_bind (wpAny_newObj_type ?_ (ip.sizeOk5 _ _ _ _ _));generalize hT:({cls:= .type "traceback",dict:=none,data:= .fields ([head,.ref L,.none,rawInt L,.none]++(if pl.isEmpty then List.replicate 6 Value.none else pl)).toArray}:Obj)=oT;have ea:ha.get? e=some oe:=(sa.2.1 e nef).trans he;have eb:(ha.push oT).get? e=some oe:=Ad _ ea;have tb:(ha.push oT).get? ha.objs.size=some oT:=Aj ha (by rw [<- hT];rfl);have hTe:ha.objs.size≠e:=Cd (Ai ea);refine wpAny_setField eb hd h1 ?_;have dc:=Obj.data_mapFields hd (·.setIfInBounds 1 (Value.ref ha.objs.size));have ec:=Bx (Obj.mapFields (·.setIfInBounds 1 (Value.ref ha.objs.size))) eb (Obj.isFreed_of_fields dc);have tc:((ha.push oT).update e (Obj.mapFields (·.setIfInBounds 1 (Value.ref ha.objs.size)))).get? ha.objs.size=some oT:=(Bm _ _ (Ne.symm hTe)).trans tb;unfold setFlight;refine wpAny_bind (wpAny_field ec dc (x:= .ref ha.objs.size) (by simp [h1]) ?_);rw [if_pos (show(Value.ref ha.objs.size != Value.none)=true from by simp)];have dT:oT.data = .fields ([head,.ref L,.none,rawInt L,.none]++(if pl.isEmpty then List.replicate 6 Value.none else pl)).toArray:=by rw [<- hT]
 have sz:3 < ([head,.ref L,.none,rawInt L,.none]++(if pl.isEmpty then List.replicate 6 Value.none else pl)).toArray.size:=by
  simp only [Ap,Af,Bd,Em];omega
 refine wpAny_setField tc dT sz (h _ ha.objs.size (by
  cases hq:s.heap.get? ha.objs.size with
  | none=>rfl
  | some o=>
   obtain⟨sl,z⟩:=sa.2.2 _ o hq;exact absurd (Ai z) (Bo _)) ?_ ?_)
 ·have dd:=Obj.data_mapFields dT (·.setIfInBounds 3 ((none:Option Addr).elim Value.none fun f=>rawInt f));refine⟨⟨_,_,(Bm _ _ hTe).trans ec,Obj.cls_mapFields _ _,by rw [j6k];exact hdi,dc,by simp [h1],by rw [Array.getElem?_setIfInBounds_ne (by decide)];exact h2⟩,hTe,⟨_,_,Bx _ tc (Obj.isFreed_of_fields dd),dd,?_⟩⟩;rw [Ef sz];rfl
 ·have kp:∀ b o,b≠e->ha.get? b=some o->(((ha.push oT).update e (Obj.mapFields (·.setIfInBounds 1 (Value.ref ha.objs.size)))).update ha.objs.size (Obj.mapFields (·.setIfInBounds 3 ((none:Option Addr).elim Value.none fun f=>rawInt f)))).get? b=some o:=fun b o hb q=>by
   rw [Bm _ _ (Cd (Ai q)),Bm _ _ (Ne.symm hb)];exact Ad _ q
  refine⟨fun b o q nf nb=>kp b o (fun z=>nb (by simp [z])) ((sa.2.1 b nf).trans q),fun b o q hb=>?_⟩;obtain⟨sl,z⟩:=sa.2.2 b o q;exact⟨sl,kp b _ (fun y=>nef (y ▸ hb)) z⟩
theorem k6n{base:Heap}{env:Env}{outer:List Env}{L e:Addr}{oe:Obj}{vs:Array Value}{Q:Unit->Shared->Prop}(hfr:A.frames=some (env :: outer))(hl:s.heap.FunFrames base (env :: outer))(hf:env.frame=some L)
  (he:s.heap.get? e=some oe) (hd:oe.data = .fields vs) (hdi:oe.dict=none) (h1:vs[1]?=some .none) (h2:vs[2]?=some .none)
  (h:∀ h' T,s.heap.get? T=none->Xo h' e T oe.cls .none->Kp (frs (env :: outer)) [e] s.heap h'->Q () {s with heap:=h'}) :
  wpAny M A (noteFrame (.ref e) env) (fun _ s'=>wpAny M A (setFlight (.ref e) none) Q E s') E s:=by
 unfold noteFrame;simp only [hf];refine wpAny_bind (wpAny_field he hd h1 ?_);rw [if_neg (by decide)];exact j9k hfr hl hf he hd hdi (Dn.mp h1).1 h2 h
theorem k5c{base:Heap}{env:Env}{outer:List Env}{L e T:Addr}{C:Value}{Q:Unit->Shared->Prop}(hfr:A.frames=some (env :: outer))(hl:s.heap.FunFrames base (env :: outer))(hf:env.frame=some L)(x:Xo s.heap e T C .none)
  (h:∀ h' T',s.heap.get? T'=none->Xo h' e T' C .none->Kp (frs (env :: outer)) [e,T] s.heap h'->Q () {s with heap:=h'}) :
  wpAny M A (noteFrame (.ref e) env) (fun _ s'=>wpAny M A (setFlight (.ref e) none) Q E s') E s:=by
 obtain⟨⟨oe,vs,he,hc,hdi,hd,h1,h2⟩,hne,⟨oT,ts,hT,dT,h3⟩⟩:=x;subst hc;unfold noteFrame;simp only [hf];refine wpAny_bind (wpAny_field he hd h1 ?_);rw [if_pos (show(Value.ref T != Value.none)=true from by simp)];refine wpAny_bind (wpAny_field hT dT h3 ?_);rw [if_neg (show ¬((Value.none == rawInt L)=true) from by simp [rawInt])];refine wpAny_bind (wpAny_setField hT dT (Dn.mp h3).1 ?_);have nT:∀ b,b≠T->(s.heap.update T (Obj.mapFields (·.setIfInBounds 3 Value.none))).get? b=s.heap.get? b:=fun b hb=>Bm _ _ (Ne.symm hb);have rcd:∀ b o,s.heap.get? b=some o->(∀ vs,o.data ≠ .fields vs)->b≠T:=fun b o q hn z=>by
  rw [z,hT] at q;cases q;exact hn ts dT
 have nf:T∉frs (env :: outer):=fun hm=>by
  obtain⟨_,o,ho,hn⟩:=hl.mem hm;exact rcd T o ho hn rfl
 refine j9k hfr (hl.of_keeps fun b o q hn=>⟨o,(nT b (rcd b o q hn)).trans q,rfl⟩) hf ((nT e (Ne.symm hne)).trans he) hd hdi (Dn.mp h1).1 h2 fun h' T' z x k=>h h' T' ?_ x ⟨fun b o q n1 n2=>?_,fun b o q hb=>?_⟩
 ·cases hq:s.heap.get? T' with
  | none=>rfl
  | some o=>
   by_cases y:T'=T
   ·have:=Bx (Obj.mapFields (·.setIfInBounds 3 Value.none)) hT (Obj.isFreed_of_fields (Obj.data_mapFields dT _));rw [y] at z;exact absurd (this.symm.trans z) (by simp)
   ·have:=(nT T' y).trans hq;exact absurd (this.symm.trans z) (by simp)
 ·have n3:b≠T:=fun y=>n2 (by simp [y]);exact k.keep b o ((nT b n3).trans q) n1 (fun y=>n2 (by simp at y;simp [y]))
 ·exact k.slot b o ((nT b fun y=>nf (y ▸ hb)).trans q) hb
theorem k2f{e T:Addr}{C:Value}{Q:Unit->Shared->Prop}(x:Xo s.heap e T C .none)(h:∀ h',Xo h' e T C .none->(∀ b o,b≠T->s.heap.get? b=some o->h'.get? b=some o)->Q () {s with heap:=h'}):wpAny M A (setFlight (.ref e) none) Q E s:=by
 obtain⟨⟨oe,vs,he,hc,hdi,hd,h1,h2⟩,hne,⟨oT,ts,hT,dT,h3⟩⟩:=x;unfold setFlight;refine wpAny_bind (wpAny_field he hd h1 ?_);rw [if_pos (show(Value.ref T != Value.none)=true from by simp)];have sz:=(Dn.mp h3).1;have dd:=Obj.data_mapFields dT (·.setIfInBounds 3 ((none:Option Addr).elim Value.none fun f=>rawInt f));refine wpAny_setField hT dT sz (h _ ⟨⟨oe,vs,(Bm _ _ hne).trans he,hc,hdi,hd,h1,h2⟩,hne,⟨_,_,Bx _ hT (Obj.isFreed_of_fields dd),dd,?_⟩⟩ fun b o hb q=>(Bm _ _ (Ne.symm hb)).trans q);rw [Ef sz];rfl
end
end L2
namespace L2
open PySem PySem.Spec PyProof.Rows
theorem k8c{fs f2 bad:List Addr}{H H':Hp}{h h1 h2:Heap}(u:Un fs [] H H' h h1)(k:Kp f2 bad h1 h2)(hf:∀ b o,h.get? b=some o->b∈f2->b∈fs)(hb:∀ b∈bad,h.get? b=none):Un fs [] H H' h h2:=by
 have nb:∀ b o,h.get? b=some o->b∉bad:=fun b o q z=>by rw [hb b z] at q;cases q
 refine⟨fun b o q n nf _=>k.keep b o (u.keep b o q n nf (by simp)) (fun z=>nf (hf b o q z)) (nb b o q),fun b o q n hm _=>?_,u.free,fun b o q _=>?_,u.tups,u.frzs,u.tbls⟩
 ·obtain⟨sl,z⟩:=u.slot b o q n hm (by simp)
  by_cases y:b∈f2
  ·obtain⟨sl',z'⟩:=k.slot b _ z y;exact⟨sl',z'⟩
  ·exact⟨sl,k.keep b _ z y (nb b o q)⟩
 ·obtain⟨o',z⟩:=u.there b o q (by simp)
  by_cases y:b∈f2
  ·obtain⟨sl',z'⟩:=k.slot b _ z y;exact⟨_,z'⟩
  ·exact⟨o',k.keep b _ z y (nb b o q)⟩
theorem k5s{P:Program}{w:World}{f2 bad:List Addr}{H:Hp}{h1 h2:Heap}(x:HOk P w H h1)(k:Kp f2 bad h1 h2)(hf:∀ b∈f2,H b=none)(hb:∀ b∈bad,H b=none):HOk P w H h2:=fun a o e=>by
 refine(x a o e).stay (fun b u hh q=>k.keep b u q (fun z=>?_) (fun z=>?_)) (fun _ q=>q) fun _ _ q=>q
 ·have:=hf b z
  rcases hh with y | y
  ·rw [y,e] at this;cases this
  ·rw [y] at this;cases this
 ·have:=hb b z
  rcases hh with y | y
  ·rw [y,e] at this;cases this
  ·rw [y] at this;cases this
theorem q3x{P:Program}{w:World}{H:Hp}{h:Heap}{a:Addr}{o:HO}(x:ObjOk P w H h a o):∃ u,h.get? a=some u:=by
 cases o with
 | lst xs=>obtain⟨_,_,_,_,q⟩:=x;exact⟨_,q⟩
 | tup xs=>obtain⟨_,_,_,u,q,_⟩:=x;exact⟨_,q⟩
 | dK kvs=>obtain⟨_,_,_,_,u,_,_,q,_⟩:=x;exact⟨_,q⟩
 | dT kvs=>obtain⟨_,_,_,_,u,_,_,q,_⟩:=x;exact⟨_,q⟩
 | set S n=>obtain⟨u,_,_,_,q,_⟩:=x;exact⟨_,q⟩
 | ins C dx fs=>obtain⟨_,_,_,q,_⟩:=x;exact⟨_,q⟩
 | own y=>exact x
 | xd fs=>obtain⟨_,⟨_,_,_,q,_⟩,_⟩:=x;exact⟨_,q⟩
 | rng lo hi=>obtain⟨_,_,_,q⟩:=x;exact⟨_,q⟩
 | frz ob u=>obtain⟨q,_⟩:=x;exact⟨_,q⟩
 | tbl ps=>exact⟨_,x⟩
 | met f y=>exact⟨_,x⟩
 | ext φ=>obtain⟨_,q,_⟩:=x;exact q
def XF(P:Program)(w:World):CXT:=fun outer H s E e s'=>∃(ea T:Addr) (C:Value) (H':Hp),e = .ref ea/\E C none H'/\s'.os=s.os/\AllBare s'.gens/\Un (frs outer) [] H H' s.heap s'.heap/\HOk P w H' s'.heap/\Xo s'.heap ea T C .none /\
 s.heap.get? ea=none/\s.heap.get? T=none/\H' ea=none/\H' T=none
section
variable{P:Program}{w:World}{K:PySem.W.Frag}{mg:Str->Option Value}{base:Heap}{N:List Str}{qual:Str}{scope:Scope}{f:Addr}{cd:Value}{A:Around}{outer:List Env}{s:Shared}{H:Hp}{E:XK}
theorem k2r:frs (envOfC qual scope s.heap.objs.size f cd :: outer)=s.heap.objs.size :: frs outer:=rfl
theorem j4q{b:Addr}{fs ex:List Addr}{Ha Hb:Hp}{h h1:Heap}(u:Un fs ex Ha Hb h h1)(hx:b∉ex)(n:h1.get? b=none):h.get? b=none:=by
 cases q:h.get? b with
 | none=>rfl
 | some o=>obtain⟨o',z⟩:=u.there b o q hx;rw [n] at z;cases z
theorem j5f{P:Program}{w:World}{Ha:Hp}{h1:Heap}{b:Addr}(x:HOk P w Ha h1)(n:h1.get? b=none):Ha b=none:=by
 cases q:Ha b with
 | none=>rfl
 | some o=>
  exfalso
  obtain⟨u,z⟩:=q3x (x b o q);rw [n] at z;cases z
theorem k94{pins:List (Addr×Obj)}{σ:St}{H1:Hp}{s1:Shared}{e T:Addr}{C:Value}(I:Inv (cxOf (XF P w) P w K mg base N qual scope f cd A outer s H E) pins σ H1 s1)(x:Xo s1.heap e T C .none)(hE:E C none H1)
  (n1:s.heap.get? e=none) (n2:s.heap.get? T=none) (n3:H1 e=none) (n4:H1 T=none):(cxOf (XF P w) P w K mg base N qual scope f cd A outer s H E).xe (.ref e) s1:=by
 show wpAny (model P w) (A.deeper (envOfC qual scope s.heap.objs.size f cd)) (leaving (envOfC qual scope s.heap.objs.size f cd) (.ref e)) _ _ s1;unfold leaving;refine wpAny_bind (k5c (base:=base) (outer:=outer) I.ok.frames I.stack rfl x fun h' T' z x' k=>?_);refine⟨e,T',C,H1,rfl,hE,I.os,I.bare,k8c (H:=H) (h:=s.heap) I.base k (fun b o q hb=>?_) (fun b hb=>?_),k5s I.hok k (fun b hb=>I.stkFree b hb) (fun b hb=>?_),x',n1,j4q (ex:=[]) (Hb:=H1) I.base (by simp) z,n3,j5f I.hok z⟩
 ·rw [k2r] at hb
  rcases Ao.mp hb with y | y
  ·exact absurd (Ai q) (by rw [y];exact Bo _)
  ·exact y
 ·rcases Ao.mp hb with y | y
  ·rw [y];exact n1
  ·rw [Ah.mp y];exact n2
 ·rcases Ao.mp hb with y | y
  ·rw [y];exact n3
  ·rw [Ah.mp y];exact n4
theorem q5g:j44 (XF P w) (cxOf (XF P w) P w K mg base N qual scope f cd A outer s H E) E:=by
 rintro pins σ H1 s1 e s2 I ⟨ea,T,C,H',rfl,hE,os,bare,un,hok,x,n1,n2,n3,n4⟩;have I2:=I.call' (ch:=[]) os un hok bare (fun b z=>absurd z (by simp));exact k94 I2 x hE (j4q (ex:=[]) (Hb:=H1) I.base (by simp) n1) (j4q (ex:=[]) (Hb:=H1) I.base (by simp) n2) n3 n4
end
abbrev vmro:List Value:=[.type "ValueError",.type "Exception",.type "BaseException",.type "object"]
def XC(K:PySem.W.Frag)(C:Addr):Prop:=PySem.W.excIn K C vmro "ValueError.__new__" = true
theorem XC.obj{K:PySem.W.Frag}{h:Heap}{C:Addr}(q:XC K C)(X:K.In h):∃ bm N nm qn bs hdct sn sub ab col dd k0 k1 k2 k3 k5 mN,h.get? C=some (excClassObj nm qn C N bs bm hdct sn sub ab col dd k0 k1 k2 k3 k5 "ValueError.__new__")/\h.Ns N mN/\mN "__init__" = none/\OwnTail h vmro bm:=by
 unfold XC PySem.W.excIn at q
 split at q
 ·rename_i dd cd sl ho
  split at q
  ·rename_i D bm k0 k1 k2 k3 n k5 hm hs;simp only [Bh,beq_iff_eq,Bool.not_eq_true'] at q;obtain⟨⟨⟨⟨⟨eD,en⟩,hdel⟩,ht⟩,hok⟩,hni⟩:=q;obtain⟨nm,bs,mro,ns,qn,hd,sn,sub,ab,col,del⟩:=cd
   dsimp only at hm hdel hok hni
   subst eD en hm hdel;have esl:sl=#[k0,k1,k2,k3,some (.builtin "ValueError.__new__"),k5]:=by
    cases sl;simp only at hs;rw [hs]
   subst esl;exact⟨bm,ns,nm,qn,bs,hd,sn,sub,ab,col,dd,k0,k1,k2,k3,k5,_,X _ _ ho,.of_isNs (PySem.W.isNs_of_in X hok),PySem.W.nsMap_none_of_in X hok hni,PySem.W.tail_of_in X ht⟩
  ·cases q
 ·cases q
section
variable{X:Cx}{σ:St}{H:Hp}{D:Ends}{rest:List Stmt}
def Rz(X:Cx)(E:St->XK):Prop:=∀(pins:List (Addr×Obj)) (σ:St) (H:Hp) (s:Shared) (h':Heap) (e C:Addr) (args:List Value),Inv X pins σ H s->Heap.MadeExcOf s.heap h' e (.ref C) args->E σ (.ref C) none H->X.xe (.ref e) {s with heap:=h'}
theorem j2p{E:St->XK}(hz:Rz X E){x:Str}{C:Addr}{a:Expr}{np cp pos:Pos}(hm:X.mg x=some (.ref C))(hC:XC X.K C)(hc:X.calm=true)(h:Ea X [a] σ H fun vs H1=>vs.length<=sizeLine/\E σ (.ref C) none H1)(hg:Gl X x:=by rfl)(hdb:(x == ("__debug__" : Str))=false:=by decide)
  (he:starEach [a] X.env=(false,eval a X.env) :: starEach [] X.env:=by rfl):Run X (.Raise (some (.Call (.Name x np) [a] [] cp)) none pos :: rest) D σ H:=by
 refine j1w (t:=fun D σ H=>Ea X [a] σ H fun vs H1=>vs.length<=sizeLine/\E σ (.ref C) none H1) ?_ h;intro pins s σ H D I h;obtain⟨bm,N,nm,qn,bs,hdct,sn,sub,ab,col,dd,k0,k1,k2,k3,k5,mN,oC,oN,oi,oT⟩:=hC.obj I.ok.mod.kin;refine wpAny_Raise_call_subT (C:=C) (nm:=nm) (q:=qn) (N:=N) (bs:=bs) (bm:=bm) (hdct:=hdct) (sn:=sn) (sub:=sub) (ab:=ab) (col:=col) (dd:=dd) (k0:=k0) (k1:=k1) (k2:=k2) (k3:=k3) (k5:=k5) PySem.F.excBase_ValueError (mN:=mN) (oT.hasType PySem.F.excBase_ValueError.hasBase) (I.ok.hd hc) (by rw [he];rfl) oi (j4m I hg hm ⟨rfl,?_⟩ hdb);have q:=h.run cp pins s I;rw [he] at q ⊢;refine Calls.evalArgs_plain (thn q fun us s2 ⟨vs,H2,I2,r,z2,q2⟩=>⟨rfl,by rw [<- r.length];exact z2,I2.bk _ _ oC,oN.keeps I2.bk,oT.keeps I2.bk,fun h' e hx=>hz pins σ H2 s2 h' e C us I2 hx q2⟩)
end
section
variable{P:Program}{w:World}{K:PySem.W.Frag}{mg:Str->Option Value}{base:Heap}{N:List Str}{qual:Str}{scope:Scope}{f:Addr}{cd:Value}{A:Around}{outer:List Env}{s:Shared}{H:Hp}{E:XK}
theorem q3b{h h':Heap}(k:∀ b o,h.get? b=some o->h'.get? b=some o):Kp [] [] h h':=⟨fun b o q _ _=>k b o q,fun b o q z=>absurd z (by simp)⟩
theorem q5n:Rz (cxOf (XF P w) P w K mg base N qual scope f cd A outer s H E) (fun _=>E):=by
 intro pins σ H1 s1 h' e C args I hx hE;obtain⟨t,he,_,_⟩:=hx.there;show wpAny (model P w) (A.deeper (envOfC qual scope s.heap.objs.size f cd)) (leaving (envOfC qual scope s.heap.objs.size f cd) (.ref e)) _ _ _;unfold leaving;have n0:H1 e=none:=j5f I.hok hx.new;have k1:=q3b hx.keeps;refine wpAny_bind (k6n (s:={s1 with heap:=h'}) (base:=base) (outer:=outer) I.ok.frames (I.stack.of_keeps fun b o q _=>⟨o,hx.keeps b o q,rfl⟩) rfl he rfl rfl rfl rfl fun h2 T z x k=>?_);have hok1:HOk P w H1 h':=I.hok.kept hx.keeps;have un1:Un (frs outer) [] H H1 s.heap h':=k8c (H:=H) (h:=s.heap) I.base k1 (fun b o q hb=>absurd hb (by simp)) fun b hb=>absurd hb (by simp);have nT:s1.heap.get? T=none:=by
  cases q:s1.heap.get? T with
  | none=>rfl
  | some o=>have:=hx.keeps _ _ q;exact absurd (this.symm.trans z) (by simp)
 have ns:s.heap.get? e=none:=j4q (ex:=[]) (Hb:=H1) I.base (by simp) hx.new;refine⟨e,T,.ref C,H1,rfl,hE,I.os,I.bare,k8c un1 k (fun b o q hb=>?_) (fun b hb=>?_),k5s hok1 k (fun b hb=>I.stkFree b hb) (fun b hb=>?_),x,ns,j4q (ex:=[]) (Hb:=H1) I.base (by simp) nT,n0,j5f I.hok nT⟩
 ·rw [k2r] at hb
  rcases Ao.mp hb with y | y
  ·exact absurd (Ai q) (by rw [y];exact Bo _)
  ·exact y
 ·rw [Ah.mp hb];exact ns
 ·rw [Ah.mp hb];exact n0
def cxX(N:List Str)(qual:Str)(scope:Scope)(P:Program)(w:World)(K:PySem.W.Frag)(mg:Str->Option Value)(base:Heap)(b:Bun):Cx:=cxOf (XF P w) P w K mg base N qual scope b.f b.cdv b.A b.outer b.s b.H b.E
theorem Fun.gx{x:Str}{st:Stmt}{fd:FuncData}{ps:List Str}{k:Nat}{sp:Sp}(F:Fun K x qual st f fd)(S:FnScope N ps (j0f st))(len:∀ vs H Q E,sp vs H Q E->vs.length=ps.length)
  (hbody:∀(b:Bun) (H:Hp) (vs:List V) (Q:VK),Room k (b.A.deeper (envOfC qual (j0f st) b.s.heap.objs.size b.f b.cdv))->sp vs H Q b.E->Run (cxX N qual (j0f st) P w K mg base b) (j1v st) (En Q) (start N vs) H):FnOk P w K mg base (XF P w) (k+1) f fd ps sp:=by
 obtain⟨oc,od,kV,doc,pm,an,cdv,ct,osl,rfl,lk,hcd⟩:=F.ex;refine q3t lk hcd S len fun A outer s H vs Q E hr hsp=>?_;exact⟨_,j4b,hbody ⟨f,cdv,A,outer,s,H,E⟩ H vs Q hr hsp⟩
theorem k24{b:Bun}:j44 (XF P w) (cxX N qual scope P w K mg base b) b.E:=q5g
theorem rzX{b:Bun}:Rz (cxX N qual scope P w K mg base b) (fun _=>b.E):=q5n
end
structure HasX(P:Program)(w:World)(K:PySem.W.Frag)(mg:Str->Option Value)(base:Heap)(k:Nat)(x:Str)(ps:List Str)(sp:Sp):Prop where
 ex:∃ f fd,FnOk P w K mg base (XF P w) k f fd ps sp/\Binds K fd ps []/\PySem.W.keepIn K (.ref f)=true/\mg x=some (.ref f)
theorem HasX.mono{P:Program}{w:World}{K:PySem.W.Frag}{mg:Str->Option Value}{base:Heap}{j k:Nat}{x:Str}{ps:List Str}{sp:Sp}(h:HasX P w K mg base j x ps sp)(le:j<=k):HasX P w K mg base k x ps sp:=
 let ⟨f,fd,F,r⟩:=h.ex;⟨f,fd,F.mono le,r⟩
theorem j5w{X:Cx}{k:Nat}{ps:List Str}{sp:Sp}{x:Str}{e:Expr}{es:List Expr}{σ:St}{H:Hp}{Q:VK}{E:XK}{p pos:Pos}(G:HasX X.prog X.w X.K X.mg X.base k x ps sp)(hr:Room k X.A)(hx:j44 (XF X.prog X.w) X E)
  (h:Ea X (e :: es) σ H fun vs H1=>sp vs H1 Q E) (hg:Gl X x:=by rfl) (hdb:(x == ("__debug__" : Str))=false:=by decide) (hs:noStar (e :: es)=true:=by rfl):Ev X (.Call (.Name x p) (e :: es) [] pos) σ H Q:=
 let ⟨_,_,F,b,kp,m⟩:=G.ex;k3t F hr m kp b hx h hg hdb hs
theorem Df.hasX{P:Program}{w:World}{K:PySem.W.Frag}{mg:Str->Option Value}{h base:Heap}{k:Nat}{x:Str}{st:Stmt}{ps:List Str}{sp:Sp}(d:Df K x st)(X:K.In h)(G:h.Ns mainGlobals mg)
  (hb:∀(kV doc pm:Value) (an:Option Addr) (cdv ct:Value) (us:List Value),us.length=ps.length->bindArgs (PySem.W.fnOf x x (j2x st) (j1v st) (j0f st) .none kV doc pm an cdv ct) ⟨us,[]⟩=pure (ps.zip us))
  (ok:∀{f:Addr} {fd:FuncData},Fun K x x st f fd->FnOk P w K mg base (XF P w) k f fd ps sp):HasX P w K mg base k x ps sp:=
 let ⟨f,fd,a,F⟩:=d;⟨f,fd,ok F,F.binds hb,F.kp,PySem.W.mg_of X G a⟩
def q0j(CX:CXT)(X:Cx)(σ:St)(E:XK):Prop:=∀(pins:List (Addr×Obj)) (H:Hp) (s:Shared) (e:Value) (s':Shared),Inv X pins σ H s->CX X.stack H s E e s'->X.xe e s'
section
variable{X:Cx}{CX:CXT}{k:Nat}{f:Addr}{fd:FuncData}{ps:List Str}{sp:Sp}{E:XK}{x:Str}{p pos:Pos}{e:Expr}{es:List Expr}{σ:St}{H:Hp}{Q:VK}
theorem k61(F:FnOk X.prog X.w X.K X.mg X.base CX k f fd ps sp)(hr:Room k X.A)(hm:X.mg x=some (.ref f))(hk:PySem.W.keepIn X.K (.ref f)=true)(hb:Binds X.K fd ps [])(hx:q0j CX X σ E)(h:Ea X (e :: es) σ H fun vs H1=>sp vs H1 Q E)
  (hg:Gl X x:=by rfl) (hdb:(x == ("__debug__" : Str))=false:=by decide) (he:starEach (e :: es) X.env=(false,eval e X.env) :: starEach es X.env:=by rfl) (hpl:(backTo pos (starEach es X.env)).any (·.1)=false:=by rfl):Ev X (.Call (.Name x p) (e :: es) [] pos) σ H Q:=by
 refine⟨fun pins s I=>wpAny_Call_Name_kw (j4m I hg hm ?_ hdb)⟩;refine PySem.W.callWith_K (h₀:=X.base) I.ok.mod.kin hk (thn (h.run pos pins s I) fun us s1 ⟨vs,H1,I1,r,q⟩=>⟨I1.kIn,?_⟩) he hpl;have hl:us.length=ps.length:=by rw [<- r.length];exact F.len _ _ _ _ q
 have hl2:(us++[]).length=ps.length:=by rw [Bk];exact hl
 have hb2:=hb s1 us I1.kIn hl2;rw [Bk] at hb2;refine wpAny_call (codeAny_mono (F.run X.A X.stack s1 H1 ⟨us,[]⟩ us vs Q E hr I1.env0 hb2 r q) fun r s' hq=>?_);cases r with
 | error y=>exact hx pins H1 s1 y s' I1 hq
 | ok fl=>
  cases fl with
  | ret u=>exact I1.after hq
  | next=>exact False.elim hq
  | brk=>exact False.elim hq
  | cont=>exact False.elim hq
theorem k9w(G:HasX X.prog X.w X.K X.mg X.base k x ps sp)(hr:Room k X.A)(hx:q0j (XF X.prog X.w) X σ E)(h:Ea X (e :: es) σ H fun vs H1=>sp vs H1 Q E)
  (hg:Gl X x:=by rfl) (hdb:(x == ("__debug__" : Str))=false:=by decide) (he:starEach (e :: es) X.env=(false,eval e X.env) :: starEach es X.env:=by rfl) (hpl:(backTo pos (starEach es X.env)).any (·.1)=false:=by rfl):Ev X (.Call (.Name x p) (e :: es) [] pos) σ H Q:=
 let ⟨_,_,F,b,kp,m⟩:=G.ex;k61 F hr m kp b hx h hg hdb he hpl
end
end L2
namespace L2
open PySem PySem.Spec PyProof.Rows
abbrev XO(oe:Obj):HO:= .frz oe (.own 0)
structure IsX(oe:Obj)(C:Value):Prop where
 cls:oe.cls=C
 dict:oe.dict=none
 data:∃ vs,oe.data = .fields vs/\vs[2]?=some .none
abbrev Cx.pinsOn(X:Cx)(p:List (Addr×Obj)):Cx:={X with pn:=X.pn++p}
structure Apt(X:Cx)(pins:List (Addr×Obj))(b:Addr):Prop where
 l:b≠X.env.locals
 c:∀ x c,X.env.cells.lookup x=some c->c≠b
 p:∀ q∈X.pn++pins,q.1≠b
 f:b∉X.fs
 s:X.s₀.heap.get? b=none
section
variable{X:Cx}{pins:List (Addr×Obj)}{σ:St}{H:Hp}{s:Shared}{b:Addr}
theorem k40(I:Inv X pins σ H s)(hex:X.ex=[])(n:s.heap.get? b=none):Apt X pins b:=by
 refine⟨fun z=>?_,fun x c e z=>?_,fun q hq z=>?_,fun z=>?_,j4q I.base (by rw [hex];simp) n⟩
 ·obtain⟨m,⟨o,_,_,ho,_⟩,_⟩:=I.loc;rw [<- z,n] at ho;cases ho
 ·obtain⟨v,o,ho,_⟩:=I.cell x c e;rw [z,n] at ho;cases ho
 ·have:=(I.pin q hq).1;rw [z,n] at this;cases this
 ·obtain⟨_,o,ho,_⟩:=I.funs.mem z;rw [n] at ho;cases ho
theorem Inv.kp{bad:List Addr}{h':Heap}{t':Nat}(I:Inv X pins σ H s)(hex:X.ex=[])(k:Kp (frs X.stack) bad s.heap h')(ha:∀ b∈bad,Apt X pins b)(hn:∀ b∈bad,H b=none):Inv X pins σ H {s with heap:=h',toks:=t'}:=by
 have kc:∀ x c,X.env.cells.lookup x=some c->∀ v,s.heap.IsCell c v->h'.IsCell c v:=fun x c e v ⟨o,ho,hd⟩=>by
  by_cases y:c∈frs X.stack
  ·obtain⟨sl,z⟩:=k.slot c o ho y;exact⟨_,z,hd⟩
  ·exact⟨o,k.keep c o ho y (fun w=>(ha c w).c x c e rfl),hd⟩
 have kl:∀ m,s.heap.Ns X.env.locals m->h'.Ns X.env.locals m:=fun m hm=>by
  obtain⟨o,es,ep,ho,r⟩:=hm
  by_cases y:X.env.locals∈frs X.stack
  ·obtain⟨sl,z⟩:=k.slot _ o ho y;exact⟨_,es,ep,z,r⟩
  ·exact⟨o,es,ep,k.keep _ o ho y (fun w=>(ha _ w).l rfl),r⟩
 refine⟨I.ok,I.os,I.bare,?_,?_,fun x c e=>?_,I.free,I.freeC,fun p hp=>?_,k5s I.hok k (fun b hb=>I.stkFree b hb) hn,I.len⟩
 ·have u:=I.base;rw [hex] at u ⊢;refine k8c u k (fun b o q hb=>?_) fun b hb=>(ha b hb).s
  rcases Ao.mp (I.stkSub b hb) with y | y
  ·exact absurd (Bf (Ai q) I.ok.above) (by rw [y];exact Bo _)
  ·exact y
 ·obtain⟨m,hm,hl⟩:=I.loc;refine⟨m,kl m hm,fun i x v e1 e2 e3=>?_⟩;obtain⟨u,r,q⟩:=hl i x v e1 e2 e3;refine⟨u,r,?_⟩
  rcases q with q | ⟨y,c,e,z⟩
  ·exact .inl q
  ·exact .inr ⟨y,c,e,kc x c e _ z⟩
 ·obtain⟨v,z⟩:=I.cell x c e;exact⟨v,kc x c e v z⟩
 ·obtain⟨e,n,ne,nf,d⟩:=I.pin p hp;refine⟨k.keep _ _ e (fun y=>?_) (fun w=>(ha _ w).p p hp rfl),n,ne,nf,d⟩
  rcases Ao.mp (I.stkSub _ y) with z | z
  ·exact ne z
  ·exact nf z
theorem Inv.track{o:HO}(I:Inv X pins σ H s)(hex:X.ex=[])(a:Apt X pins b)(n:H b=none)(ho:ObjOk X.prog X.w (upd H b o) s.heap b o):Inv X pins σ (upd H b o) s:=by
 have u:=I.base;have ne:∀ c o',H c=some o'->c≠b:=fun c o' q z=>by rw [z,n] at q;cases q
 refine⟨I.ok,I.os,I.bare,⟨u.keep,u.slot,fun c o' q n' hx=>?_,u.there,fun c xs q=>?_,fun c o' v q=>?_,fun c ps q=>?_⟩,I.loc,I.cell,by rw [j0e (Ne.symm a.l)];exact I.free,fun x c e=>by rw [j0e (a.c x c e)];exact I.freeC x c e,fun p hp=>?_,fun c o' q=>?_,I.len⟩
 ·have:c≠b:=fun z=>by rw [z,a.s] at q;cases q
  rw [j0e this];exact u.free c o' q n' hx
 ·have q':=u.tups c xs q;rw [j0e (ne _ _ q')];exact q'
 ·have q':=u.frzs c o' v q;rw [j0e (ne _ _ q')];exact q'
 ·obtain⟨m,q'⟩:=u.tbls c ps q;exact⟨m,by rw [j0e (ne _ _ q')];exact q'⟩
 ·obtain⟨e,n',r⟩:=I.pin p hp;exact⟨e,by rw [j0e (a.p p hp)];exact n',r⟩
 ·by_cases y:c=b
  ·subst y;rw [j0b] at q;cases q;exact ho
  ·rw [j0e y] at q;exact(I.hok c o' q).stay (fun _ _ _ z=>z) (fun d z=>by rw [j0e (ne _ _ z)];exact z) fun d xs z=>by rw [j0e (ne _ _ z)];exact z
end
def Cgt(X:Cx)(Φ:Value->St->Hp->Prop)(e:Value)(s':Shared):Prop:=∃(pins:List (Addr×Obj)) (σ:St) (H:Hp) (ea T:Addr) (C:Value),e = .ref ea/\Inv X pins σ H s'/\Xo s'.heap ea T C .none/\Apt X pins ea/\Apt X pins T/\H ea=none/\H T=none/\Φ C σ H
abbrev k6w(X:Cx)(p:List (Addr×Obj))(Φ:Value->St->Hp->Prop):Cx:=(X.pinsOn p).wish (Cgt (X.pinsOn p) Φ)
theorem q5k{X:Cx}{p:List (Addr×Obj)}{Φ:Value->St->Hp->Prop}{σ:St}(hex:X.ex=[]):q0j (XF X.prog X.w) (k6w X p Φ) σ (fun C _ H'=>Φ C σ H'):=by
 rintro pins H s e s' I ⟨ea,T,C,H',rfl,hE,os,bare,un,hok,x,n1,n2,n3,n4⟩;have I2:=I.call' (ch:=[]) os un hok bare (fun b z=>absurd z (by simp));have J:Inv (X.pinsOn p) pins σ H s:=I.unwish;exact⟨pins,σ,H',ea,T,C,rfl,I2.unwish,x,k40 J hex n1,k40 J hex n2,n3,n4,hE⟩
abbrev hdCx(X:Cx)(p:List (Addr×Obj))(ea:Addr):Cx:={X with A:=X.A.mark (some (.ref ea)),calm:=false,pn:=X.pn++p,xe:=fun _ _=>False}
theorem Inv.hd{X:Cx}{p pins:List (Addr×Obj)}{σ:St}{H:Hp}{s:Shared}{ea:Addr}(I:Inv (X.pinsOn p) pins σ H s):Inv (hdCx X p ea) pins σ H s:=
 ⟨⟨I.ok.mod,I.ok.kind,I.ok.glob,I.ok.blt,I.ok.above,I.ok.inj,I.ok.has,I.ok.cab,(fun z=>(nomatch z)),I.ok.frames,I.ok.stk,I.ok.exf,I.ok.bs,I.ok.bsz,I.ok.noex,I.ok.exfs,I.ok.funs,I.ok.frf⟩,I.os,I.bare,I.base,I.loc,I.cell,I.free,I.freeC,I.pin,I.hok,I.len⟩
theorem Inv.unhd{X:Cx}{p pins pins0:List (Addr×Obj)}{σ:St}{H:Hp}{s:Shared}{ea:Addr}(I:Inv (hdCx X p ea) pins σ H s)(hc:X.calm=true->X.A.handled=none):Inv (X.pinsOn p) pins σ H s:=
 ⟨⟨I.ok.mod,I.ok.kind,I.ok.glob,I.ok.blt,I.ok.above,I.ok.inj,I.ok.has,I.ok.cab,hc,I.ok.frames,I.ok.stk,I.ok.exf,I.ok.bs,I.ok.bsz,I.ok.noex,I.ok.exfs,I.ok.funs,I.ok.frf⟩,I.os,I.bare,I.base,I.loc,I.cell,I.free,I.freeC,I.pin,I.hok,I.len⟩
theorem Inv.pinsIn{X:Cx}{p pins:List (Addr×Obj)}{σ:St}{H:Hp}{s:Shared}(I:Inv X p σ H s):Inv (X.pinsOn p) [] σ H s:=
 ⟨⟨I.ok.mod,I.ok.kind,I.ok.glob,I.ok.blt,I.ok.above,I.ok.inj,I.ok.has,I.ok.cab,I.ok.hd,I.ok.frames,I.ok.stk,I.ok.exf,I.ok.bs,I.ok.bsz,I.ok.noex,I.ok.exfs,I.ok.funs,I.ok.frf⟩,I.os,I.bare,I.base,I.loc,I.cell,I.free,I.freeC,fun q hq=>I.pin q (by simpa using hq),I.hok,I.len⟩
theorem Inv.pinsOut{X:Cx}{p pins:List (Addr×Obj)}{σ:St}{H:Hp}{s:Shared}(I:Inv (X.pinsOn p) pins σ H s):Inv X p σ H s:=
 ⟨⟨I.ok.mod,I.ok.kind,I.ok.glob,I.ok.blt,I.ok.above,I.ok.inj,I.ok.has,I.ok.cab,I.ok.hd,I.ok.frames,I.ok.stk,I.ok.exf,I.ok.bs,I.ok.bsz,I.ok.noex,I.ok.exfs,I.ok.funs,I.ok.frf⟩,I.os,I.bare,I.base,I.loc,I.cell,I.free,I.freeC,fun q hq=>I.pin q (Ct _ hq),I.hok,I.len⟩
def j6z(K:PySem.W.Frag)(C S:Addr):Bool:=match K.lookup C with
 | some ⟨_,_,.cls cd,_⟩=>cd.mro.contains (.ref S)
 | _=>false
theorem q11{K:PySem.W.Frag}{h:Heap}{C S:Addr}(X:K.In h)(q:j6z K C S=true){nm qn:Str}{N:Addr}{bs bm:List Value}{hdct:Bool}{sn:List Str}{sub:List Value}{ab:Bool}{col:Option Bool}{dd:Option Addr}{k0 k1 k2 k3 k5:Option Value}{nid:String}
  (oC:h.get? C=some (excClassObj nm qn C N bs bm hdct sn sub ab col dd k0 k1 k2 k3 k5 nid)):(Value.ref C :: bm).contains (.ref S)=true:=by
 unfold j6z at q
 split at q
 ·rename_i ho;have:=(X _ _ ho).symm.trans oC;cases this;exact q
 ·cases q
section
variable{M:Model}{A:Around}{E:Value->Shared->Prop}{K:PySem.W.Frag}{s:Shared}
theorem k3n{e C S:Addr}{oe:Obj}{Q:Bool->Shared->Prop}(X:K.In s.heap)(hC:XC K C)(hS:XC K S)(hm:j6z K C S=true)(he:s.heap.get? e=some oe)(hc:oe.cls = .ref C)(h:Q true s):wpAny M A (excMatches (.ref e) (.ref S)) Q E s:=by
 obtain⟨bm,N,nm,qn,bs,hdct,sn,sub,ab,col,dd,k0,k1,k2,k3,k5,mN,oC,oN,oi,oT⟩:=hC.obj X;obtain⟨bm',N',nm',qn',bs',hdct',sn',sub',ab',col',dd',k0',k1',k2',k3',k5',mN',oS,oN',oi',oT'⟩:=hS.obj X;have c1:=q11 X hm oC;have c2:(Value.ref S :: bm').contains (.type "BaseException")=true:=by rw [List.contains_cons,oT'.hasType PySem.F.excBase_ValueError.hasBase,Bool.or_true]
 have f:=tc_notTuple;obtain⟨hh,g,d,tk,os⟩:=s;unfold excMatches
 repeat (first | (with_reducible refine wpAny_loadPart_at he ?_;rw [hc]) | with_reducible refine wpAny_loadPart_at oS ?_ | (with_reducible refine wpAny_isSubtype_exc oS ?_;rw [c2]) | (with_reducible refine wpAny_isSubtype_exc oC ?_;rw [c1]) | wp_step)
 exact h
end
end L2
namespace L2
open PySem PySem.Spec PyProof.Rows
section
variable{X:Cx}{pins:List (Addr×Obj)}{σ:St}{H:Hp}{s:Shared}
theorem Inv.name_gone{M:Model}{A:Around}{E:Value->Shared->Prop}{Q:Unit->Shared->Prop}{i:Nat}{n:Str}{pos:Pos}(I:Inv X pins σ H s)(hN:X.N.Nodup)(hi:X.N[i]?=some n)(hl:X.env.scope.names.lookup n=some .local)
  (h:∀ s',Inv X pins (σ.set i none) H s'->Q () s'):wpAny M A (do bindName X.env n .none;unbindBehindTheSuite X.env n pos) Q E s:=by
 obtain⟨m,hn,hloc⟩:=id I.loc;have hcls:(X.env.scope.kind == .class || (X.env.scope.kind == .module && X.env.locals != X.env.globals))=false:=by rw [I.ok.kind];rfl
 have hiσ:i < σ.length:=by rw [I.len];exact(Ab.mp hi).1
 obtain⟨oL,_,_,hoL,_⟩:=id hn;refine wpAny_nameGoes_keeps hl hn hcls fun h' v hn' hs=>h _ ?_;have low:∀ b o,X.s₀.heap.get? b=some o->b≠X.env.locals:=fun b o q=>Ay (Bf (Ai q) I.ok.above);refine⟨I.ok,I.os,I.bare,⟨fun b o q n' hb hx=>(hs.2 b (low b o q)).trans (I.base.keep b o q n' hb hx),fun b o q n' hb hx=>?_,I.base.free,fun b o q hx=>?_,I.base.tups,I.base.frzs,I.base.tbls⟩,⟨_,hn',fun j y v' e1 e2 e3=>?_⟩,fun y c q=>?_,I.free,I.freeC,fun p hp=>?_,fun b u q=>?_,by rw [List.length_set];exact I.len⟩
 ·obtain⟨sl,z⟩:=I.base.slot b o q n' hb hx;exact⟨sl,(hs.2 b (low b o q)).trans z⟩
 ·obtain⟨o',z⟩:=I.base.there b o q hx;exact⟨o',(hs.2 b (low b o q)).trans z⟩
 ·by_cases hj:j=i
  ·subst hj;rw [Es hiσ] at e2;cases e2
  ·rw [Fe (Ne.symm hj)] at e2;obtain⟨u,r,q⟩:=hloc j y v' e1 e2 e3;refine⟨u,r,?_⟩
   rcases q with ⟨k,z⟩ | ⟨k,c,z,w⟩
   ·have:y≠n:=fun z=>hj (j74 hN e1 (z ▸ hi));exact .inl ⟨k,by simp [this,z]⟩
   ·exact .inr ⟨k,c,z,w.sameBut hs (I.cne y c z)⟩
 ·obtain⟨v2,z⟩:=I.cell y c q;exact⟨v2,z.sameBut hs (I.cne y c q)⟩
 ·obtain⟨e,n',ne,nf,d⟩:=I.pin p hp;exact⟨(hs.2 p.1 ne).trans e,n',ne,nf,d⟩
 ·refine(I.hok b u q).stay (fun c w' hc z=>(hs.2 c ?_).trans z) (fun _ z=>z) fun _ _ z=>z;rintro rfl
  rcases hc with hc | hc
  ·rw [<- hc,I.free] at q;cases q
  ·rw [I.free] at hc;cases hc
end
def q3r(X:Cx)(D:Ends)(rest:List Stmt)(i:Nat):Ends:={nx:=fun σ H=>Run X rest D (σ.set i none) H,rt:=D.rt,bk:=fun σ H=>D.bk (σ.set i none) H,ct:=fun σ H=>D.ct (σ.set i none) H}
theorem q0a{X:Cx}{σ:St}{H:Hp}{D:Ends}{rest body suite:List Stmt}{b₀:Stmt}{x n:Str}{S:Addr}{np hp pos:Pos}(i:Nat)(Φ:Value->St->Hp->Prop)(hm:X.mg x=some (.ref S))(hS:XC X.K S)(hN:X.N.Nodup)
  (hb:∀ p,Run (k6w X p Φ) body {D with nx:=fun σ' H'=>Run X rest D σ' H'} σ H)
  (hh:∀ C σ' H',Φ C σ' H'->∃ Ca,C = .ref Ca/\XC X.K Ca/\j6z X.K Ca S=true/\∀ p ea oe,IsX oe C->H' ea=none->Run (hdCx X p ea) (b₀ :: suite) (q3r X D rest i) (σ'.set i (some (.ref ea))) (upd H' ea (XO oe)))
  (hi:X.N[i]?=some n:=by rfl) (hl:X.env.scope.names.lookup n=some .local:=by rfl) (hex:X.ex=[]:=by rfl) (hst:X.stack=X.env :: X.outer:=by rfl) (hfr:X.env.frame=some X.env.locals:=by rfl)
  (hfn:X.fn n=true\/X.env.scope.names.lookup n=some .local:=by first | exact .inl rfl | exact .inr rfl) (hg:Gl X x:=by rfl) (hdb:(x == ("__debug__" : Str))=false:=by decide) :
  Run X (.Try body [.ExceptHandler (some (.Name x np)) (some n) (b₀ :: suite) hp] [] [] pos :: rest) D σ H:=by
 refine j1w (t:=fun D' σ H=>∀ p,Run (k6w X p Φ) body {D with nx:=fun σ' H'=>Run X rest D σ' H'} σ H/\D'={D with nx:=fun σ' H'=>Run X rest D σ' H'}) ?_ fun p=>⟨hb p,rfl⟩;intro p0 s σ H D' I h;obtain⟨hb,rfl⟩:=h p0;refine wpAny_Try_except (wpAny_mono (hb.run [] s ((I.pinsIn (pins:=[])).wish _)) (fun f s1 q=>?_) fun e s1 q=>?_)
 ·have out:∀{pp:List (Addr×Obj)} {σ':St} {H':Hp},Inv (k6w X p0 Φ) pp σ' H' s1->Inv X p0 σ' H' s1:=fun J=>(J.unwish).pinsOut;cases f with
  | next=>
   obtain⟨σ',H',J,q⟩:=q;exact k4i p0 s1 σ' H' _ (out J) q
  | brk=>obtain⟨σ',H',J,q⟩:=q;exact⟨σ',H',out J,q⟩
  | cont=>obtain⟨σ',H',J,q⟩:=q;exact⟨σ',H',out J,q⟩
  | ret u=>obtain⟨v,σ',H',J,r,q⟩:=q;exact⟨v,σ',H',out J,r,q⟩
 ·obtain⟨pp,σ',H',ea,T,C,rfl,J,x1,a1,a2,n1,n2,hΦ⟩:=q;obtain⟨Ca,rfl,hC,hmro,hrun⟩:=hh C σ' H' hΦ;have fr:(X.pinsOn p0).A.frames=some (X.env :: X.outer):=by rw [<- hst];exact J.ok.frames
  have stk:s1.heap.FunFrames X.base (X.env :: X.outer):=by rw [<- hst];exact J.stack
  refine k5c fr stk hfr x1 fun h2 T' z x2 k=>?_;have k':Kp (frs (X.pinsOn p0).stack) [ea,T] s1.heap h2:=by
   show Kp (frs X.stack) [ea,T] s1.heap h2;rw [hst];exact k
  have J2:Inv (X.pinsOn p0) pp σ' H' {s1 with heap:=h2}:=J.kp (t':=s1.toks) hex k' (fun b hb=>by
   rcases Ao.mp hb with y | y
   ·rw [y];exact a1
   ·rw [Ah.mp y];exact a2) (fun b hb=>by
   rcases Ao.mp hb with y | y
   ·rw [y];exact n1
   ·rw [Ah.mp y];exact n2)
  have a3:=k40 J hex z;have n3:H' T'=none:=j5f J.hok z;have J3:Inv (hdCx X p0 ea) pp σ' H' {s1 with heap:=h2}:=J2.hd;obtain⟨⟨oe,vs,he,hc,hdi,hd,h1,h2'⟩,hne,htr⟩:=id x2;refine wpAny_handleBy_cons (codeAny_handlers_test (j4m J3 hg hm ?_ hdb)) (by intro q;cases q);refine k3n J3.kIn hC hS hmro he hc ?_;refine codeAny_handlers_suite_as (k2f x2 fun h3 x3 k3=>?_);have J4:Inv (hdCx X p0 ea) pp σ' H' {s1 with heap:=h3}:=J3.kp (s:={s1 with heap:=h2}) (t':=s1.toks) (bad:=[T']) hex ⟨fun b o q _ nb=>k3 b o (fun y=>nb (by simp [y])) q,fun b o q hb=>⟨o.slots,k3 b o (fun y=>by
   obtain⟨_,o',ho',hn'⟩:=J3.stack.mem hb;obtain⟨oT,ts,hT,dT,_⟩:=htr;rw [y] at ho';have:=ho'.symm.trans hT;cases this;exact hn' _ dT) q⟩⟩ (fun b hb=>by rw [Ah.mp hb];exact⟨a3.l,a3.c,a3.p,a3.f,a3.s⟩) (fun b hb=>by rw [Ah.mp hb];exact n3)
  obtain⟨⟨oe3,vs3,he3,hc3,hdi3,hd3,h13,h23⟩,_,_⟩:=x3;have J5:Inv (hdCx X p0 ea) pp σ' (upd H' ea (XO oe3)) {s1 with heap:=h3}:=J4.track hex ⟨a1.l,a1.c,a1.p,a1.f,a1.s⟩ n1 ⟨he3,⟨_,he3⟩⟩;refine j7k (X:=hdCx X p0 ea) J5 hN hi (Or.inl hl) (v:= .ref ea) rfl (fun s4 J6=>?_) hfn;refine wpAny_mono ((hrun p0 ea oe3 ⟨hc3,hdi3,vs3,hd3,h23⟩ n1).run pp s4 J6) (fun f s5 q=>?_) fun _ _ z=>z.elim;have out:∀{σ2:St} {H2:Hp} {s6:Shared},Inv (hdCx X p0 ea) pp σ2 H2 s6->Inv X p0 σ2 H2 s6:=fun J=>((J.unhd (pins0:=[]) J2.ok.hd).pinsOut);cases f with
  | next=>
   obtain⟨σ2,H2,J7,q⟩:=q;exact J7.name_gone hN hi hl fun s6 J8=>⟨_,H2,out J8,q⟩
  | brk=>
   obtain⟨σ2,H2,J7,q⟩:=q;exact J7.name_gone hN hi hl fun s6 J8=>⟨_,H2,out J8,q⟩
  | cont=>
   obtain⟨σ2,H2,J7,q⟩:=q;exact J7.name_gone hN hi hl fun s6 J8=>⟨_,H2,out J8,q⟩
  | ret u=>
   obtain⟨v,σ2,H2,J7,r,q⟩:=q;exact J7.name_gone hN hi hl fun s6 J8=>⟨v,_,H2,out J8,r,q⟩
end L2
namespace L2
open PySem PySem.Spec PyProof.Rows PySem.W
section
variable{prog:Program}{w:World}{A:Around}{E:Value->Shared->Prop}{s:Shared}{K:Frag}{a C:Addr}{o:Obj}
def j8c(K:Frag)(C:Addr):Bool:=findIn K (.ref C) "__getattribute__" == some (some (.builtin "BaseException.__getattribute__")) && findIn K (.ref C) "__getattr__" == some none && findIn K (.ref C) "__class__" == some (some (.builtin "object.__class__")) &&
 mroIn K C (.type "object") == some true && mroIn K C (.type "BaseException") == some true && (clsIn K C).isSome
theorem k7n{Q:Option Value->Shared->Prop}(X:K.In s.heap)(I:InstAt s.heap a o C none)(q:j8c K C=true)(hq:Q (some (.ref C)) {s with toks:=s.toks+1}):wpAny (model prog w) A (getAttr? (.ref a) "__class__") Q E s:=by
 unfold j8c at q;simp only [Bh,beq_iff_eq] at q;obtain⟨⟨⟨⟨⟨h1,h2⟩,h3⟩,h4⟩,h5⟩,_⟩:=q;obtain⟨hh,g,d,t,os⟩:=s;have L0:=I.type (M:=model prog w);have L1:=looks_findIn (M:=model prog w) X h1;have L2:=looks_findIn (M:=model prog w) X h2;have L3:=looks_findIn (M:=model prog w) X h3;have L5:=looks_mroIn (M:=model prog w) X h5;unfold getAttr? getAttrBy? getAttrBy;refine wpAny_bind (wpAny_mkText (wpAny_bind (wpAny_attempt (wpAny_holding (wpAny_bind (L0.at (wpAny_bind (L1.at ?_))))))));show wpAny _ _ (getAttrByItsOwn _ _ _ _ _ _) _ _ _;unfold getAttrByItsOwn hookBefore callGetattribute boundAndCalled;have f3:=F.attr_ValueError.ga.bind (.ref a);refine wpAny_bind ?_;show wpAny _ _ (typeLookup (.ref C) "__getattr__") _ _ _;refine L2.at ?_;refine wpAny_bind (wpAny_attempt (wpAny_holding ?_));rw [if_neg (by decide)];rw [f3];refine wpAny_bind (wpAny_pure ?_);refine wpAny_call (codeAny_call_builtin F.attr_ValueError.ga.plain F.entry_bexc_ga ?_);have hk:builtinKind "BaseException.__getattribute__" = some .slot:=by decide +kernel
 have hsp:splitId "BaseException.__getattribute__" = some ("BaseException","__getattribute__"):=by decide +kernel
 have ha:=F.args_bexc_ga (.ref a) (.str "__class__" t);simp only [checkBuiltinCall,hk,hsp];refine wpAny_bind ?_;unfold isInstance;have LB:Looks (model prog w) hh (isSubtype (.ref C) (.type "BaseException")) true:=L5
 repeat lk
 have hid:(toString "getset_descriptor"++toString "."++toString (Str.ofString "__get__").toString:String) = "getset_descriptor.__get__":=by decide +kernel
 rw [hid];refine wpAny_run (c:= .call (.builtin "getset_descriptor.__get__") ⟨[.builtin "object.__class__",.ref a,.ref C],[]⟩) (h:=none) ?_;refine class_get (s:=⟨hh,g,d,t+1,os⟩) (K:=K) X I h4 ?_
 repeat lk
 exact hq
theorem k6x(q:j8c K C=true):KitX K (.ref a) (.ref C) (fun h=>∃ o,InstAt h a o C none) where
 ty:=fun _ _ _ ⟨_,I⟩=>I.type
 it:=fun _ _ X _=>by
  unfold j8c at q;rw [Bh] at q;have z:=q.2;unfold clsIn at z
  split at z
  ·rename_i ho;intro A' Q' E' s' k r;unfold isType loadHead;exact wpAny_bind (wpAny_loadPart (k _ _ (X _ _ ho)) (wpAny_pure r))
  ·cases z
 ne:=fun h tp dd its n sl X htp=>by
  unfold j8c at q;rw [Bh] at q;have z:=q.2;refine De.mpr fun y=>?_;have e:C=tp:=Value.ref.inj (beq_iff_eq.mp y);subst e;unfold clsIn at z
  split at z
  ·rename_i ho;cases (X _ _ ho).symm.trans htp
  ·cases z
 ca:=fun X ⟨_,I⟩ k=>k7n X I q k
end
end L2
namespace L2
open PySem PySem.Spec PyProof.Rows
theorem q1h{h:Heap}{ea C:Addr}{oe:Obj}(he:h.get? ea=some oe)(x:IsX oe (.ref C)):PySem.W.InstAt h ea oe C none:=by
 obtain⟨vs,hd,_⟩:=x.data;refine⟨he,x.cls,?_,?_⟩
 ·unfold PySem.W.notCls;rw [hd]
 ·rw [x.dict];exact True.intro
theorem j8m{X:Cx}:j2s X (.builtin "isinstance") (fun xs H Q=>∃ ea C oe c v b,xs=[.ref ea,v]/\(∀ u,RelV v u->u=c)/\H ea=some (XO oe)/\IsX oe (.ref C)/\j8c X.K C=true/\PySem.W.kitOne X.K (.ref C) c=some b/\Q (.bl b) H):=by
 intro pins s σ H xs us Q I r h;obtain⟨ea,C,oe,c,v,b,rfl,hv,hH,ix,hl,e,q⟩:=h;obtain⟨u,w',rfl,ru,rw'⟩:=vals2 r;cases (show u=Value.ref ea from ru);cases hv _ rw';have he:s.heap.get? ea=some oe:=(show ObjOk X.prog X.w H s.heap ea (XO oe) from I.hok ea _ hH).1;exact PySem.W.kia_one (k6x hl) I.kIn ⟨oe,q1h he ix⟩ e (fun z=>nomatch z) fun tk=>⟨.bl b,H,I.tok tk,rfl,q⟩
theorem j7j:entryFor table "proto.unchain" = some Builtin.«proto.unchain»:=entryFor_of_tree (by kernel_rfl)
section
variable{prog:Program}{w:World}{A:Around}{E:Value->Shared->Prop}{s:Shared}
theorem k2m{α:Type}{a ea:Addr}{oa oe:Obj}{vs us:Array Value}{Q:α->Shared->Prop}(hh:A.handled=some (.ref ea))(ha:s.heap.get? a=some oa)(hda:oa.data = .fields us)(h2:2 < us.size)(hne:ea≠a)(he:s.heap.get? ea=some oe)(hde:oe.data = .fields vs)(h0:vs[2]?=some .none)
  (h:E (.ref a) {s with heap:=s.heap.update a (Obj.mapFields (·.setIfInBounds 2 (.ref ea)))}):wpAny (model prog w) A (raiseNew (.ref a):Sem α) Q E s:=by
 unfold raiseNew;refine wpAny_bind (wpAny_handled ?_);rw [hh];simp only;have nn:(Value.ref ea != Value.ref a)=true:=by
  rw [bne_iff_ne];exact fun q=>hne (Value.ref.inj q)
 rw [if_pos nn];refine wpAny_bind (wpAny_holding (wpAny_runValue (codeAny_builtin j7j ?_)));unfold Builtin.«proto.unchain»;simp only;refine wpAny_bind (wpAny_field he hde h0 ?_);rw [if_pos (by decide)];refine wpAny_bind (wpAny_pure ?_);refine wpAny_pure ?_;show wpAny (model prog w) A (updateField a 2 (Value.ref ea) >>= fun _=>(throw (Value.ref a):Sem α)) Q E s;refine wpAny_bind ?_;have q:wpAny (model prog w) A (setField (.ref a) 2 (.ref ea)) (fun _ s'=>wpAny (model prog w) A (throw (Value.ref a):Sem α) Q E s') E s:=wpAny_setField ha hda h2 (wpAny_throw h);exact q
theorem k3w{it l ea:Addr}{i:Nat}{items:Array Value}{oe:Obj}{vs:Array Value}{Q:Option Value->Shared->Prop}(hh:A.handled=some (.ref ea))(he:s.heap.get? ea=some oe)(hde:oe.data = .fields vs)(h0:vs[2]?=some .none)(hei:ea≠it)
  (hit:s.heap.IsListIter it l i) (hl:s.heap.IsList l items) (hx:items[i]?=none) (hQ:∀ h',Heap.ExtBut it s.heap h'->Q none {s with heap:=h'}):wpAny (model prog w) A (pyNext (.ref it)) Q E s:=by
 obtain⟨o,ho,hc,hd⟩:=id hit;obtain⟨ol,hol,_,nl,hdl⟩:=hl;unfold pyNext;refine wpAny_bind (wpAny_attempt (wpAny_callSpecial?_slot (name:=Str.ofString "__next__") hit.typeIs slot_listiter_next (wpAny_call_entry slot_listiter_next hit.typeIs entry_listiter_next ?_ (args_listiter_next _))));refine wpAny_bind (m:=field (.ref it) 0) (wpAny_field ho hd (x:= .ref l) rfl ?_);show wpAny _ _ (if(Value.ref l == Value.none)=true then _ else _) _ _ _;rw [if_neg (by simp)];refine wpAny_bind (m:=field (.ref it) 1) (wpAny_field ho hd (x:= .int i 0) rfl ?_);refine wpAny_bind (m:=seqItems? (.ref l)) (wpAny_seqItems hol hdl ?_);simp only [Au,hx];refine wpAny_bind (wpAny_rule (wpAny_bind (wpAny_setField ho hd (by simp) ?_)));refine wpAny_bind (m:=newExc (.type "StopIteration") []) ?_;unfold newExc newTuple;refine wpAny_bind (wpAny_newObj_type ?_ (by size_fits));refine wpAny_bind (m:=firstArgMember _ _) (wpAny_of_eq (a:=Value.none) (by simp only [firstArgMember];rfl) ?_);refine wpAny_newObj_type ?_ (by size_fits);have k1:∀ b ob,b≠it->s.heap.get? b=some ob->(s.heap.update it (Obj.mapFields (·.setIfInBounds 0 Value.none))).get? b=some ob:=fun b ob hb q=>(Bm _ _ (Ne.symm hb)).trans q;have k2:∀ b ob,b≠it->s.heap.get? b=some ob->∀ o1 o2,(((s.heap.update it (Obj.mapFields (·.setIfInBounds 0 Value.none))).push o1).push o2).get? b=some ob:=fun b ob hb q o1 o2=>Ad _ (Ad _ (k1 b ob hb q));generalize hH:(s.heap.update it (Obj.mapFields (·.setIfInBounds 0 Value.none))).push {cls:= .type "tuple",data:= .seq #[]}=h1;have k3:∀ b ob,b≠it->s.heap.get? b=some ob->h1.get? b=some ob:=fun b ob hb q=>by rw [<- hH];exact Ad _ (k1 b ob hb q)
 have e3:=k3 ea oe hei he;have lt:=Ai e3;refine k2m (A:=A.in1) hh (Aj h1 rfl) rfl (by simp [ownMembersOf]) (Ay lt) (Ad _ e3) hde h0 ?_;refine wpAny_bind (wpAny_isInstance (T:= "StopIteration") (b:=true) ⟨_,Bx _ (Aj h1 rfl) rfl,rfl⟩ isSubtype_stop (wpAny_pure (hQ _ fun b ob hb q=>?_)));have l2:=Ai (k3 b ob hb q);rw [Bm _ _ (Cd l2)];exact Ad _ (k3 b ob hb q)
end
end L2
namespace L2
open PySem PySem.Spec PyProof.Rows
def HdK(X:Cx):Prop:=∃ ea oe vs,X.A.handled=some (.ref ea)/\X.H₀ ea=some (XO oe)/\oe.data = .fields vs/\vs[2]?=some .none
structure TurnH(P:Program)(w:World)(K:PySem.W.Frag)(tg:Expr)(J:It)(fp:List Addr)(it:Addr)(tn:Nat->Heap->Prop):Prop where
 mem:it∈fp
 obj:∀ i h,tn i h->∀ b∈fp,∃ o,h.get? b=some o/\∀ v,o.data ≠ .cell v
 keep:∀ i h h',tn i h->(∀ b∈fp,∀ o,h.get? b=some o->h'.get? b=some o)->tn i h'
 item:∀(X:Cx),X.prog=P->X.w=w->X.K=K->HdK X->∀(i:Nat) (pins:List (Addr×Obj)) (s:Shared) (σ:St) (H:Hp) (E:Value->Shared->Prop),Inv X pins σ H s->(∀ b∈fp,FpOk X pins H b)->tn i s.heap->J.go i H ->
  wpAny (model P w) X.A (pyNext (.ref it)) (fun r s1=>∃ u,r=some u /\
   wpAny (model P w) X.A (letOwnedTupleGo tg (.ref it) u) (fun _ s2=>∃ x H',Inv X pins σ H' s2/\RelV x u/\J.yld i H x H'/\tn (i+1) s2.heap/\∀ b∈fp,H' b=none) E s1) E s
 done:∀(X:Cx),X.prog=P->X.w=w->X.K=K->HdK X->∀(i:Nat) (pins:List (Addr×Obj)) (s:Shared) (σ:St) (H:Hp) (E:Value->Shared->Prop),Inv X pins σ H s->(∀ b∈fp,FpOk X pins H b)->tn i s.heap->J.stop i H ->
  wpAny (model P w) X.A (pyNext (.ref it)) (fun r s1=>r=none/\Inv X pins σ H s1) E s
 self:∀(A:Around) (i:Nat) (s:Shared) (Q:Value->Shared->Prop) (E:Value->Shared->Prop),tn i s.heap->Q (.ref it) s->wpAny (model P w) A (pyIter (.ref it)) Q E s
def PIEH(X:Cx)(pins:List (Addr×Obj))(σ:St)(tg:Expr)(R:It->Hp->Prop)(itv:Value)(s2:Shared):Prop:=
 ∃(it:Addr) (fp:List Addr) (tn:Nat->Heap->Prop) (J:It) (H':Hp),itv = .ref it/\Inv X pins σ H' s2/\TurnH X.prog X.w X.K tg J fp it tn/\tn 0 s2.heap/\(∀ b∈fp,FpOk X pins H' b)/\R J H'
def PIH(X:Cx)(tg iter:Expr)(wi:TI):Prop:=
 ∀(pins:List (Addr×Obj)) (s:Shared) (σ:St) (H:Hp) (R:It->Hp->Prop),Inv X pins σ H s->wi σ H R ->
  wpAny (model X.prog X.w) X.A (eval iter X.env) (fun v s1=>wpAny (model X.prog X.w) X.A (pyIter v) (PIEH X pins σ tg R) X.xe s1) X.xe s
theorem k15{P:Program}{w:World}{K:PySem.W.Frag}{tg:Expr}(a it:Addr):TurnH P w K tg (Itl K a) [it] it (fun i h=>h.IsListIter it a i) where
 mem:=by simp
 obj:=fun i h st b hb=>by
  have e:b=it:=by simpa using hb
  subst e;obtain⟨o,e,c,d⟩:=st;exact⟨o,e,fun v z=>by rw [d] at z;cases z⟩
 keep:=fun i h h' st k=>st.at fun o e=>k it (by simp) o e
 item:=by
  intro X hP hw hK hc i pins s σ H E I hf st hg;subst hP hw hK;obtain⟨xs,x,hq,hx⟩:=hg;obtain⟨its,rv,p,hz⟩:=I.list hq;obtain⟨u,hu,ru⟩:=rv.get hx;obtain⟨f0,f1,f2,f3,f4,f5⟩:=hf it (by simp);refine wpAny_pyNext_list_item st p.isList (x:=u) (by simpa using hu) fun h' st' sb=>?_;have I1:Inv X pins σ H {s with heap:=h'}:=I.turned (t':=s.toks) (fun b o hb e=>(sb.2 b hb).trans e) f0 f1 f3 f4 f5;obtain⟨o,e,c,d⟩:=id st';exact⟨u,rfl,k3s (s:={s with heap:=h'}) e c d (by decide) ⟨x,H,I1,ru,⟨rfl,fun ys hy=>by rw [I.list_inj hy hq];exact hx⟩,st',fun b hb=>(hf b hb).1⟩⟩
 done:=by
  intro X hP hw hK hc i pins s σ H E I hf st hg;subst hP hw hK;obtain⟨xs,hq,hx⟩:=hg;obtain⟨its,rv,p,hz⟩:=I.list hq;obtain⟨f0,f1,f2,f3,f4,f5⟩:=hf it (by simp);have hl:=rv.length;obtain⟨ea,oe,vs,a1,a2,a3,a4⟩:=hc;have hE:=I.base.frzs ea oe _ a2;have gE:s.heap.get? ea=some oe:=(show ObjOk X.prog X.w H s.heap ea (XO oe) from I.hok ea _ hE).1;exact k3w a1 gE a3 a4 (fun z=>by rw [z,f0] at hE;cases hE) st p.isList (by simp;omega) fun h' eb=>⟨rfl,I.turned (t':=s.toks) (fun b o hb e=>eb b o hb e) f0 f1 f3 f4 f5⟩
 self:=fun _ _ _ _ _ st h=>wpAny_pyIter_listiter st h
section
variable{X:Cx}{tg:Expr}
theorem k6i{l:Expr}{tl:TE}(hl:PE X l tl):PIH X tg l (q1p X.K tl):=by
 intro pins s σ H R I h;refine thn (hl pins s σ H _ I h) fun v s1 ⟨x,H1,I1,r1,q1⟩=>?_;obtain⟨a,e,⟨xs,hq⟩,q⟩:=q1;subst e;cases r1;obtain⟨its,rv,p,hz⟩:=I1.list hq;refine wpAny_pyIter_list p.isList ?_;refine⟨s1.heap.objs.size,[s1.heap.objs.size],_,_,H1,rfl,I1.kept (t':=s1.toks) fun b o e=>Ad _ e,k15 a _,⟨_,Aj _ rfl,rfl,rfl⟩,fun b hb=>?_,q⟩;have e:b=s1.heap.objs.size:=by simpa using hb
 subst e;exact I1.fpOk (Ag _) (I1.hok.fresh (Ag _))
end
section
variable{X:Cx}{elt tg iter:Expr}{ifs:List Expr}{scope:Scope}{pos:Pos}{N':List Str}{n:Nat}{wi:TI}{g:TG}{tc:TT}{te:TE}
theorem k1z{pins:List (Addr×Obj)}{σ:St}{H2:Hp}{s2:Shared}{E:Value->Shared->Prop}{RR:Value->Addr->Result->Shared->Prop}{it:Addr}{fp:List Addr}{tn:Nat->Heap->Prop}{J:It}{Q:VK}
  (hc:HdK X) (ck:CompOk X.env.scope scope X.N N') (hl:N'.length=X.N.length+n)
  (hg:∀ cl C s₀ H₀ ex,PG (j01 X N' scope cl C s₀ H₀ ex) tg g) (hif:∀ cl C s₀ H₀ ex,PIf (j01 X N' scope cl C s₀ H₀ ex) ifs tc) (he:∀ cl C s₀ H₀ ex,PE (j01 X N' scope cl C s₀ H₀ ex) elt te)
  (I2:Inv X pins σ H2 s2) (T:TurnH X.prog X.w X.K tg J fp it tn) (st2:tn 0 s2.heap) (f2:∀ b∈fp,FpOk X pins H2 b)
  (q : ∀ D, H2 D = none → ∃ W : Nat → Nat → St → Hp → Prop, (∃ m, W 0 m (σ ++ List.replicate n none) (upd H2 D (.lst []))) ∧ ∀ i m σ' H', W i m σ' H' →
   (J.stop i H' ∧ Q (.ref D) H') ∨ (J.go i H' ∧ ∃ N : St → Hp → Prop, (∀ σ' H', N σ' H' → ∃ m', m' < m ∧ W (i + 1) m' σ' H') ∧ ∀ x H2, J.yld i H' x H2 → g x σ' H2 fun σ2 H3 => tc σ2 H3 fun b H4 =>
    if b=true then te σ2 H4 fun v H5=>∃ ys,H5 D=some (.lst ys)/\ys.length < sizeLine/\N σ2 (upd H5 D (.lst (ys++[v]))) else N σ2 H4))
  (hRR:∀ D C H' s' m,Inv X pins σ H' s'->s'.heap.Ns C m->H' C=none->C≠X.env.locals->X.s₀.heap.objs.size<=C->(∀ x c,X.env.cells.lookup x=some c->c≠C)->(∀ p∈X.pn++pins,p.1≠C)->Q (.ref D) H'->RR (.ref D) C (.ok .next) s') :
  wpAny (model X.prog X.w) X.A (newList []) (fun acc s₃=>wpAny (model X.prog X.w) X.A (newFunctionEnv scope X.env.globals (j0w scope.names X.env.cells []) [] X.env.qual none .none (some X.env)) (fun cenv s₄=>
   codeAny (model X.prog X.w) X.A (.compStart (.ListComp elt [⟨tg,iter,ifs,0⟩] scope pos) 0 (.ref it) acc {cenv with scope:=relabel scope X.env}) (RR acc cenv.locals) s₄) E s₃) E s2:=by
 refine wpAny_newObj_type (wpAny_newFunctionEnv ck.cell (by intro y hy;simp at hy) (fun h₁ hns₁ hsb₁=>?_) ck.kind) (by show(0:Nat)<=sizeLine;exact Bi _);have hD:H2 s2.heap.objs.size=none:=I2.hok.fresh (Ag _);obtain⟨W,⟨m0,w0⟩,turn⟩:=q s2.heap.objs.size hD;have fl:∀ b∈fp,b < s2.heap.objs.size:=fun b hb=>by
  obtain⟨o,e,_⟩:=T.obj 0 _ st2 b hb;exact Ai e
 have I3:Inv X pins σ (upd H2 s2.heap.objs.size (.lst [])) {s2 with heap:=s2.heap.push {cls:= .type "list",dict:=none,data:= .seq ([]:List Value).toArray}}:=
  I2.laid (t':=s2.toks) (fun b o e=>Ad _ e) (Ag _) (show ObjOk X.prog X.w _ _ _ (.lst []) from⟨Bi _,[],0,.nil,Aj _ rfl⟩)
 generalize hs3:({s2 with heap:=s2.heap.push {cls:= .type "list",dict:=none,data:= .seq ([]:List Value).toArray}}:Shared)=s3 at I3 hns₁ hsb₁ ⊢;have hz3:s3.heap.objs.size=s2.heap.objs.size+1:=by rw [<- hs3];exact Ch ..
 have old2:∀ b o,s2.heap.get? b=some o->s3.heap.get? b=some o:=fun b o e=>by rw [<- hs3];exact Ad _ e
 have old:∀ b o,s3.heap.get? b=some o->h₁.get? b=some o:=fun b o e=>
  hsb₁.extBut b o (Ay (Ai e)) (Ad _ e)
 have f3:∀ b∈fp,FpOk X pins (upd H2 s2.heap.objs.size (.lst [])) b/\b < s3.heap.objs.size:=fun b hb=>by
  refine⟨⟨?_,(f2 b hb).2⟩,by rw [hz3];exact Bu (fl b hb)⟩;rw [j0e (Ay (fl b hb))];exact(f2 b hb).1
 have I4:=fun(t':Nat)=>j7e (N':=N') (scope:=scope) (n:=n) (fp:=fp) (h₁:=h₁) (t':=t') I3 ck hl hns₁ old f3;generalize hX:j01 X N' scope (j0w scope.names X.env.cells []) s3.heap.objs.size s3 (upd H2 s2.heap.objs.size (.lst [])) fp=X' at I4;have eP:X'.prog=X.prog:=by rw [<- hX];rfl
 have ew:X'.w=X.w:=by rw [<- hX];rfl
 have eK:X'.K=X.K:=by rw [<- hX];rfl
 have eA:X'.A=X.A:=by rw [<- hX];rfl
 have eE:X'.env=compEnvC scope (j0w scope.names X.env.cells []) s3.heap.objs.size X.env:=by rw [<- hX];rfl
 have ec:HdK X':=by
  obtain⟨ea,oe,vs,a1,a2,a3,a4⟩:=hc;refine⟨ea,oe,vs,by rw [eA];exact a1,?_,a3,a4⟩;have z:=I2.base.frzs ea oe _ a2;rw [<- hX];show(upd H2 s2.heap.objs.size (.lst [])) ea=_;rw [j0e (fun y=>by rw [y,hD] at z;cases z)];exact z
 have ex':X'.xe=fun _ _=>False:=by rw [<- hX];rfl
 have hg':PG X' tg g:=by rw [<- hX];exact hg _ _ _ _ _
 have hif':PIf X' ifs tc:=by rw [<- hX];exact hif _ _ _ _ _
 have he':PE X' elt te:=by rw [<- hX];exact he _ _ _ _ _
 have stat:∀{H':Hp},(∀ b∈fp,H' b=none)->∀ b∈fp,FpOk X' [] H' b:=fun hn b hb=>by
  refine⟨hn b hb,?_,?_,?_,?_,?_⟩
  ·rw [eE];exact Ay (f3 b hb).2
  ·rw [<- hX];intro hf
   rcases Ao.mp (I3.stkSub b hf) with z | z
   ·exact(f3 b hb).1.2.1 z
   ·exact(f3 b hb).1.2.2.1 z
  ·rw [<- hX];exact .inl hb
  ·rw [eE];intro x c e;exact(f3 b hb).1.2.2.2.2.1 x c (j17 _ _ _ (fun _ _ z=>by simp at z) x c (PySem.mem_of_lookup e))
  ·rw [<- hX];intro p hp;exact absurd hp (by simp [j01])
 have fin:∀{σ':St} {H':Hp} {s':Shared},Inv X' [] σ' H' s'->Q (.ref s2.heap.objs.size) H'->RR (.ref s2.heap.objs.size) s3.heap.objs.size (.ok .next) s':=fun{σ' H' s'} I' q'=>by
  obtain⟨m',hn',_⟩:=id I'.loc;rw [eE] at hn';have hos:s'.os=s3.os:=by have:=I'.os;rw [<- hX] at this;exact this
  have hun:Un (frs X.stack) fp (upd H2 s2.heap.objs.size (.lst [])) H' s3.heap s'.heap:=by have:=I'.base;rw [<- hX] at this;exact this
  have hok:HOk X.prog X.w H' s'.heap:=by have:=I'.hok;rw [eP,ew] at this;exact this
  have IX:Inv X pins σ H' s':=I3.call' (ch:=fp) hos hun hok I'.bare fun b hb=>⟨(f3 b hb).1.2.2.2.1,(f3 b hb).1.2.1,(f3 b hb).1.2.2.2.2.1,(f3 b hb).1.2.2.2.2.2⟩;have hfr:=I'.free;rw [eE] at hfr;refine hRR _ _ H' s' m' IX hn' hfr (Cd I3.lt) I3.sz (fun x c e z=>?_) (fun p hp z=>?_) q'
  ·obtain⟨v,o,ho,_⟩:=I3.cell x c e;exact absurd (Ai ho) (by rw [z];exact Bo _)
  ·exact absurd (Ai (I3.pin p hp).1) (by rw [z];exact Bo _)
 have loop:∀ t',codeAny (model X.prog X.w) X.A (.compLoop (.ListComp elt [⟨tg,iter,ifs,0⟩] scope pos) 0 (.ref it) (.ref s2.heap.objs.size) (compEnvC scope (j0w scope.names X.env.cells []) s3.heap.objs.size X.env)) (RR (.ref s2.heap.objs.size) s3.heap.objs.size) {s3 with heap:=h₁,toks:=t'}:=fun t'=>by
  refine j1u (fun k s'=>∃ i σ' H',Inv X' [] σ' H' s'/\tn i s'.heap/\(∀ b∈fp,H' b=none)/\W i k σ' H') ?_ m0
   ⟨0,_,_,I4 t',T.keep 0 _ _ st2 fun b _ o e=>old b o (old2 b o e),fun b hb=>(f3 b hb).1.1,w0⟩
  rintro k s4 ⟨i,σ4,H4,J4,st4,fr4,w4⟩;rw [<- eP,<- ew,<- eA,<- eE]
  rcases turn i k σ4 H4 w4 with ⟨stop,qn⟩ | ⟨go,N,hN,step⟩
  ·have d1:=T.done X' eP ew eK ec i [] s4 σ4 H4 (fun _ _=>False) J4 (stat fr4) st4 stop;rw [<- eP,<- ew] at d1;refine thnF d1 fun r s5 ⟨hr,I5⟩=>?_;subst hr;exact fin I5 qn
  ·have d1:=T.item X' eP ew eK ec i [] s4 σ4 H4 (fun _ _=>False) J4 (stat fr4) st4 go;rw [<- eP,<- ew] at d1;refine thnF d1 fun r s5 ⟨u,hr,h5⟩=>?_;subst hr;refine thnF h5 fun _ s6 ⟨x,H6,I6,r6,y6,st6,fr6⟩=>?_;have I6':=I6.pinned (stat fr6) (T.obj _ _ st6);have again:∀{σ7:St} {H7:Hp} {s7:Shared},Inv X' ([]++j5a fp s6.heap) σ7 H7 s7->N σ7 H7->∃ m,m < k/\∃ i σ' H',Inv X' [] σ' H' s7/\tn i s7.heap/\(∀ b∈fp,H' b=none)/\W i m σ' H':=fun{σ7 H7 s7} I7 n7=>by
    obtain⟨m',hm,w7⟩:=hN σ7 H7 n7;refine⟨m',hm,i+1,σ7,H7,I7.unpinned,T.keep _ _ _ st6 fun b hb o e=>(I7.pin (b,o) (As _ (As _ (j1j hb e)))).1,fun b hb=>?_,w7⟩;obtain⟨o,e,d⟩:=T.obj _ _ st6 b hb;exact(I7.pin (b,o) (As _ (As _ (j1j hb e)))).2.1
   have a1:=hg' _ s6 σ4 H6 x u _ I6' r6 (step x H6 y6);rw [ex'] at a1;refine thnF a1 fun _ s7 ⟨σ7,H7,I7,q7⟩=>?_;have a2:=hif' _ s7 σ7 H7 _ I7 q7;rw [ex'] at a2;refine thnF a2 fun ok s8 ⟨H8,I8,q8⟩=>?_;cases ok with
   | false=>
    rw [if_neg Ak] at q8 ⊢;exact again I8 q8
   | true=>
    rw [if_pos rfl] at q8 ⊢;have a3:=he' _ s8 σ7 H8 _ I8 q8;rw [ex'] at a3;refine thnF a3 fun v s9 ⟨vv,H9,I9,r9,ys,hy,hz,q9⟩=>?_;have a4:=j3p (X:=X') _ s9 σ7 H9 (.ref s2.heap.objs.size) [vv] (.ref s2.heap.objs.size) [v] (fun _ H'=>N σ7 H') I9 rfl (.cons r9 .nil) ⟨_,ys,vv,rfl,rfl,hy,hz,q9⟩;rw [ex'] at a4;exact thnF a4 fun _ s10 ⟨_,H10,I10,_,q10⟩=>again I10 q10
 refine codeAny_compStart_list (loop _) (T.self _ 0 _ _ _ ?_ (loop _));exact T.keep 0 _ _ st2 fun b _ o e=>old b o (old2 b o e)
theorem k6z{y:Str}{py spos:Pos}{i:Nat}(sc:Scope)(N N':List Str)(n:Nat)(hnd:X.N.Nodup)(hiN:X.N[i]?=some y)(hy:Loc X.env.scope y)(hi:PIH X tg iter wi)
  (hg:∀ cl C s₀ H₀ ex,PG (j01 X N' scope cl C s₀ H₀ ex) tg g) (hif:∀ cl C s₀ H₀ ex,PIf (j01 X N' scope cl C s₀ H₀ ex) ifs tc) (he:∀ cl C s₀ H₀ ex,PE (j01 X N' scope cl C s₀ H₀ ex) elt te)
  (hsw:swapsWith (.ListComp elt [⟨tg,iter,ifs,0⟩] scope pos) (some (.Name y py)) spos.line X.env=pure true:=by rfl)
  (hc:HdK X) (hsc:X.env.scope=sc:=by rfl) (hN:X.N=N:=by rfl) (hk:j3i sc scope N N'=true:=by decide +kernel) (hl:N'.length=N.length+n:=by rfl)
  (hs:∀ x,foldedSetIterable iter X.env x=pure x:=by intro _;rfl) (hf:X.fn y=true\/X.env.scope.names.lookup y=some .local:=by first | exact .inl rfl | exact .inr rfl | assumption) :
  PS X (.Assign [.Name y py] (.ListComp elt [⟨tg,iter,ifs,0⟩] scope pos) spos) (tAsg (k7x n wi g tc te) (k2j i)):=by
 intro pins s σ H D I h;subst hsc hN;have ck:=CompOk.of hk;rw [exec_Assign_Name_used _ _ _ _ hsw];refine wpAny_bind (wpAny_standAt (wpAny_bind ?_));show wpAny _ X.A (do let _ <- comprehension (.ListComp elt [⟨tg,iter,ifs,0⟩] scope pos) scope X.env _ (newList []) false (eval iter X.env) (some (assign (.Name y py) X.env))) _ _ s;refine wpAny_bind (wpAny_mono (wpAny_comprehension_free (use:=some (assign (.Name y py) X.env)) (Q:=fun _ s'=>SP X pins D .next s') rfl hs (j18 fun x hx hf=>I.ok.has x.1 (ck.free x hx hf)) ck.kind ck.names
  (thn (hi pins s σ H _ I h) fun v s1 h1=>thn h1 fun itv s2 h2=>?_)) (fun _ s' hq=>wpAny_pure (wpAny_pure hq)) fun _ _ e=>e)
 obtain⟨it,fp,tn,J,H2,e,I2,T,st2,f2,q⟩:=h2;subst e;refine k1z (Q:=fun x H1=>k2j i x σ H1 D.nx) (RR:=fun acc C=>compPost (model X.prog X.w) X.A X.xe (some (assign (.Name y py) X.env)) (fun _ s'=>SP X pins D .next s') acc C) hc ck hl hg hif he I2 T st2 f2 q ?_;intro D' C H' s' m IX hn hC c1 c2 c3 c4 qq;show wpAny _ X.A (assign (.Name y py) X.env (.ref D')) _ _ _;refine wpAny_assign_Name (j50 IX hnd hiN hy (v:= .ref D') rfl (fun s'' I'' hsb=>?_) hf);obtain⟨a,hsb,ha⟩:=hsb;have hCa:C≠a:=by
  rcases ha with ha | ha
  ·rw [ha];exact c1
  ·exact Ne.symm (c3 _ _ ha)
 refine⟨m,hn.sameBut hsb hCa,fun h' hs'=>⟨_,H',I''.turned (t':=s''.toks) (fun b o hb e=>hs'.extBut b o hb e) hC c1 (.inr c2) c3 c4,qq⟩⟩
end
section
variable{X:Cx}{elt tg iter c:Expr}{ifs:List Expr}{scope:Scope}{pos p:Pos}{wi:TI}{σ:St}{H:Hp}{Q:VK}{T:Bool->Hp->Prop}{rest:List Stmt}{D:Ends}
theorem k4y(i:Nat){y:Str}{py spos:Pos}(sc:Scope)(N N':List Str)(n:Nat)(hc:HdK X)(hnd:X.N.Nodup)(hi:PIH X tg iter wi)
  (h:wi σ H fun J H1=>∀ A,H1 A=none->j9v X N' scope tg ifs elt J A (fun H'=>Run X rest D (σ.set i (some (.ref A))) H') (σ++List.replicate n none) (upd H1 A (.lst [])))
  (hiN:X.N[i]?=some y:=by rfl) (hy:Loc X.env.scope y:=by first | exact Or.inl rfl | exact Or.inr rfl)
  (hsw:swapsWith (.ListComp elt [⟨tg,iter,ifs,0⟩] scope pos) (some (.Name y py)) spos.line X.env=pure true:=by rfl)
  (hsc:X.env.scope=sc:=by rfl) (hN:X.N=N:=by rfl) (hk:j3i sc scope N N'=true:=by decide +kernel) (hl:N'.length=N.length+n:=by rfl)
  (hs:∀ x,foldedSetIterable iter X.env x=pure x:=by intro _;rfl) (hf:X.fn y=true\/X.env.scope.names.lookup y=some .local:=by first | exact .inl rfl | exact .inr rfl | assumption) :
  Run X (.Assign [.Name y py] (.ListComp elt [⟨tg,iter,ifs,0⟩] scope pos) spos :: rest) D σ H:=
 j1w (k6z (g:=fun v σ H Q=>CEg X N' scope tg v σ H Q) (tc:=fun σ H Q=>CEi X N' scope ifs σ H Q) (te:=fun σ H Q=>CEv X N' scope elt σ H Q) sc N N' n hnd hiN hy hi
  (fun cl C s₀ H₀ ex pins s σ H v u Q I r h=>(h cl C s₀ H₀ ex).run pins s u I r) (fun cl C s₀ H₀ ex pins s σ H Q I h=>(h cl C s₀ H₀ ex).run pins s I) (fun cl C s₀ H₀ ex pins s σ H Q I h=>(h cl C s₀ H₀ ex).run pins s I) hsw hc hsc hN hk hl hs hf) h
end
end L2
namespace L2
open PySem PySem.Spec PyProof.Rows
structure RoomH(k:Nat)(A:Around)(ea:Addr):Prop where
 hd:A.handled=some (.ref ea)
 dp:A.depth+3 * k+5 < recursionLimit
 un:A.units+16 * k+200 < cLine
structure FnOkH(P:Program)(w:World)(K:PySem.W.Frag)(mg:Str->Option Value)(base:Heap)(k:Nat)(f:Addr)(fd:FuncData)(ps:List Str)(sp:Addr->Obj->Sp):Prop where
 len:∀ ea oe vs H Q E,sp ea oe vs H Q E->vs.length=ps.length
 run:∀(ea:Addr) (oe:Obj) (C:Value) (A:Around) (outer:List Env) (s:Shared) (H:Hp) (args:Args) (us:List Value) (vs:List V) (Q:VK) (E:XK),RoomH k A ea->H ea=some (XO oe)->IsX oe C->Env0 P w K mg base A outer s H->BindsTo s fd args (ps.zip us)->Vals vs us->sp ea oe vs H Q E ->
  codeAny (model P w) A (.call (.ref f) args) (CR CX0 outer P w H s Q E) s
def cxH(N:List Str)(qual:Str)(scope:Scope)(P:Program)(w:World)(K:PySem.W.Frag)(mg:Str->Option Value)(base:Heap)(b:Bun):Cx:={(cxOf CX0 P w K mg base N qual scope b.f b.cdv b.A b.outer b.s b.H b.E).nox with calm:=false}
theorem k2g{P:Program}{w:World}{K:PySem.W.Frag}{mg:Str->Option Value}{base:Heap}{N ps:List Str}{qual:Str}{scope:Scope}{b:Bun}{s1:Shared}{us:List Value}{vs:List V}
  (S:FnScope N ps scope) (e0:Env0 P w K mg base b.A b.outer b.s b.H) (hl:vs.length=ps.length) (r:Vals vs us)
  (x:InCallC b.s b.s.heap.objs.size (bindL (envOfC qual scope b.s.heap.objs.size b.f b.cdv).kindOf (ps.zip us) fun _=>none) (cellsFrom (b.s.heap.objs.size+1) scope.names []) (bindC (envOfC qual scope b.s.heap.objs.size b.f b.cdv).kindOf (ps.zip us) fun _=>none) s1) :
  Inv (cxH N qual scope P w K mg base b) [] (start N vs) b.H s1:=by
 have e1:Env0 P w K mg base {b.A with handled:=none} b.outer b.s b.H:=⟨e0.frames,e0.mod,e0.bs,e0.bsz,e0.funs,e0.frf,e0.hok,e0.bare⟩;have I:=j8u (CX:=CX0) (E:=b.E) (A:={b.A with handled:=none}) S rfl e1 hl r x;exact⟨⟨I.ok.mod,I.ok.kind,I.ok.glob,I.ok.blt,I.ok.above,I.ok.inj,I.ok.has,I.ok.cab,(fun z=>(nomatch z)),I.ok.frames,I.ok.stk,I.ok.exf,I.ok.bs,I.ok.bsz,I.ok.noex,I.ok.exfs,I.ok.funs,I.ok.frf⟩,I.os,I.bare,I.base,I.loc,I.cell,I.free,I.freeC,I.pin,I.hok,I.len⟩
theorem Fun.gh{P:Program}{w:World}{K:PySem.W.Frag}{mg:Str->Option Value}{base:Heap}{N ps:List Str}{qual x:Str}{st:Stmt}{f:Addr}{fd:FuncData}{k:Nat}{sp:Addr->Obj->Sp}(F:Fun K x qual st f fd)(S:FnScope N ps (j0f st))
  (len:∀ ea oe vs H Q E,sp ea oe vs H Q E->vs.length=ps.length)
  (hbody:∀(b:Bun) (ea:Addr) (oe:Obj) (C:Value) (vs:List V) (Q:VK) (E:XK),b.A.units+16 * k+203 < cLine->b.H ea=some (XO oe)->IsX oe C->HdK (cxH N qual (j0f st) P w K mg base b)->sp ea oe vs b.H Q E->Run (cxH N qual (j0f st) P w K mg base b) (j1v st) (En Q) (start N vs) b.H):FnOkH P w K mg base (k+1) f fd ps sp:=by
 obtain⟨oc,od,kV,doc,pm,an,cdv,ct,osl,rfl,lk,hcd⟩:=F.ex;refine⟨len,fun ea oe C A outer s H args us vs Q E hr hE hX e0 hb r hsp=>?_⟩;have hl:=len _ _ _ _ _ _ hsp;have KX:K.In s.heap:=e0.mod.kin.keeps fun b o e=>(e0.bs b o e).1;have lim:s.heap.NoLimit:=e0.mod.nolimit.keeps fun b o e=>(e0.bs b o e).1;have hkind:∀ y∈ps.zip us,(j0f st).names.lookup y.1=some .local\/((j0f st).names.lookup y.1=some .cell/\((cellsFrom (s.heap.objs.size+1) (j0f st).names []).lookup y.1).isSome=true):=fun⟨n,v⟩ hy=>by
  rcases S.par n (Fg hy).1 with q | q
  ·exact .inl q
  ·exact .inr ⟨q,PySem.W.cellsFrom_some _ _ _ (.inl q)⟩
 refine codeAny_call_function (by have:=hr.dp;omega) (KX _ _ lk) rfl S.co S.gen rfl (PySem.W.codeRec_of KX hcd) (hb _ _ _ _ ?_);refine wpAny_newFunctionEnv_cells S.kind hkind fun env he s1 x=>?_;subst he;refine⟨lim.keeps x.toInCall.keep,codeAny_func ?_⟩;have I:Inv (cxH N qual (j0f st) P w K mg base ⟨f,cdv,A,outer,s,H,E⟩) [] (start N vs) H s1:=k2g (b:=⟨f,cdv,A,outer,s,H,E⟩) S e0 hl r x;obtain⟨ws,d1,d2⟩:=hX.data;have hK:HdK (cxH N qual (j0f st) P w K mg base ⟨f,cdv,A,outer,s,H,E⟩):=⟨ea,oe,ws,hr.hd,hE,d1,d2⟩;refine wpAny_mono ((hbody ⟨f,cdv,A,outer,s,H,E⟩ ea oe C vs Q E (by show A.units+16 * k+203 < cLine;have:=hr.un;omega) hE hX hK hsp).run [] s1 I) (fun fl s' hs=>?_) fun e s' hs=>hs.elim;have fin:∀{σ':St} {H':Hp} {v:V} {u:Value},Inv (cxH N qual (j0f st) P w K mg base ⟨f,cdv,A,outer,s,H,E⟩) [] σ' H' s'->RelV v u->Q v H'->CE outer P w H s Q u s':=
  fun{σ' H' v u} J rv q=>⟨v,H',J.os,J.bare,J.base,J.hok,rv,q⟩
 cases fl with
 | ret u=>
  obtain⟨v,σ',H',J,rv,q⟩:=hs;exact fin J rv q
 | next=>
  obtain⟨σ',H',J,q⟩:=hs;exact fin (v:=V.non) (u:=Value.none) J rfl q
 | brk=>
  obtain⟨_,_,_,q⟩:=hs;exact False.elim q
 | cont=>
  obtain⟨_,_,_,q⟩:=hs;exact False.elim q
structure HasH(P:Program)(w:World)(K:PySem.W.Frag)(mg:Str->Option Value)(base:Heap)(k:Nat)(x:Str)(ps:List Str)(sp:Addr->Obj->Sp):Prop where
 ex:∃ f fd,FnOkH P w K mg base k f fd ps sp/\Binds K fd ps []/\PySem.W.keepIn K (.ref f)=true/\mg x=some (.ref f)
theorem Df.hasH{P:Program}{w:World}{K:PySem.W.Frag}{mg:Str->Option Value}{h base:Heap}{k:Nat}{x:Str}{st:Stmt}{ps:List Str}{sp:Addr->Obj->Sp}(d:Df K x st)(X:K.In h)(G:h.Ns mainGlobals mg)
  (hb:∀(kV doc pm:Value) (an:Option Addr) (cdv ct:Value) (us:List Value),us.length=ps.length->bindArgs (PySem.W.fnOf x x (j2x st) (j1v st) (j0f st) .none kV doc pm an cdv ct) ⟨us,[]⟩=pure (ps.zip us))
  (ok:∀{f:Addr} {fd:FuncData},Fun K x x st f fd->FnOkH P w K mg base k f fd ps sp):HasH P w K mg base k x ps sp:=
 let ⟨f,fd,a,F⟩:=d;⟨f,fd,ok F,F.binds hb,F.kp,PySem.W.mg_of X G a⟩
section
variable{X:Cx}{k:Nat}{ps:List Str}{sp:Addr->Obj->Sp}{E:XK}{x:Str}{p pos:Pos}{e:Expr}{es:List Expr}{σ:St}{H:Hp}{Q:VK}
theorem q0h(G:HasH X.prog X.w X.K X.mg X.base k x ps sp){ea:Addr}(hr:RoomH k X.A ea)(h:Ea X (e :: es) σ H fun vs H1=>∃ oe C,H1 ea=some (XO oe)/\IsX oe C/\sp ea oe vs H1 Q E)
  (hg:Gl X x:=by rfl) (hdb:(x == ("__debug__" : Str))=false:=by decide) (he:starEach (e :: es) X.env=(false,eval e X.env) :: starEach es X.env:=by rfl) (hpl:(backTo pos (starEach es X.env)).any (·.1)=false:=by rfl):Ev X (.Call (.Name x p) (e :: es) [] pos) σ H Q:=by
 obtain⟨f,fd,F,hb,hk,hm⟩:=G.ex;refine⟨fun pins s I=>wpAny_Call_Name_kw (j4m I hg hm ?_ hdb)⟩;refine PySem.W.callWith_K (h₀:=X.base) I.ok.mod.kin hk (thn (h.run pos pins s I) fun us s1 ⟨vs,H1,I1,r,oe,C,hE,hX,q⟩=>⟨I1.kIn,?_⟩) he hpl;have hl:us.length=ps.length:=by rw [<- r.length];exact F.len _ _ _ _ _ _ q
 have hb2:=hb s1 us I1.kIn (by rw [Bk];exact hl);rw [Bk] at hb2;refine wpAny_call (codeAny_mono (F.run ea oe C X.A X.stack s1 H1 ⟨us,[]⟩ us vs Q E hr hE hX I1.env0 hb2 r q) fun r s' hq=>?_);cases r with
 | error y=>exact False.elim hq
 | ok fl=>
  cases fl with
  | ret u=>exact I1.after hq
  | next=>exact False.elim hq
  | brk=>exact False.elim hq
  | cont=>exact False.elim hq
end
theorem q4m{k:Nat}{A:Around}{ea:Addr}(hr:Room k A):RoomH k (A.mark (some (.ref ea))) ea:=⟨rfl,hr.dp,hr.un⟩
end L2
namespace J0
open PySem L2 Nt Sort2 SetT
open PyProof.Rows (sortedS)
def spTs:Sp:=fun vs H Q _=>∃(R:Addr) (as:List (Addr×Addr)) (n:Net),vs=[.ref R]/\RowsAt H R as n/\n.length<=1000/\(ties n).length<=900/\(∀ zs:List Str,zs.Nodup->(∀ z∈zs,z∈ties n)->zs.length < 64) /\
 ∀(L:Addr) (ss:List Str) (H':Hp),Same H H'->H L=none->H' L=some (Ls ss)->ss.Nodup->sortedS ss=true->(∀ z,z∈ss↔z∈ties n)->Q (.ref L) H'
theorem j5u{zs:List Str}{z:Str}(h:zs.Nodup):(added zs z).Nodup:=by
 unfold added
 split
 ·exact h
 ·rename_i hz;exact j5v h hz
theorem j8l{zs:List Str}{z y:Str}:y∈added zs z↔y∈zs\/y=z:=by
 unfold added
 split
 ·rename_i hz;refine⟨.inl,fun h=>h.elim id fun e=>?_⟩;rw [e];exact hz
 ·rw [Ba,Ah]
theorem j8n{n:Net}{r:Nat}(h:r < n.length):ties (n.take (r+1))=ties (n.take r)++row n r:=by
 rw [j6v h];unfold ties;rw [Bz,Ac h,Cy];simp
theorem k_ll(K:PySem.W.Frag):PySem.W.kitOne K (.type "list") (.type "list")=some true:=by rfl
theorem k_tt(K:PySem.W.Frag):PySem.W.kitOne K (.type "tuple") (.type "tuple")=some true:=by rfl
theorem k_ss(K:PySem.W.Frag):PySem.W.kitOne K (.type "str") (.type "str")=some true:=by rfl
def k46:Sp:=fun vs H Q _=>∃(R R':Addr) (as bs:List (Addr×Addr)) (n:Net),vs=[.ref R,.ref R']/\RowsAt H R as n/\RowsAt H R' bs n/\n.length<=1000/\Q (.bl true) H
def xNames:List Str:=["NoNet","Broken","NoPlane","NoWalker","NoDouble","TooMany","NoTie","NoCorner","NoFace","Taken","Bridge","Loop","NoText","NoRow"]
structure Cl(K:PySem.W.Frag)(mg:Str->Option Value)(c:Str->Addr):Prop where
 net:mg "NetError" = some (.ref (c "NetError"))
 xnet:XC K (c "NetError")
 at':∀ x∈xNames,mg x=some (.ref (c x))/\XC K (c x)/\j6z K (c x) (c "NetError")=true/\j8c K (c x)=true/\PySem.W.kitOne K (.ref (c x)) (.type "ValueError")=some true
 kit:∀ x∈xNames,∀ y∈xNames,PySem.W.kitOne K (.ref (c x)) (.ref (c y))=some (decide (x=y))
def cAd(K:PySem.W.Frag)(x:Str):Addr:=match PySem.W.nsIn K mainGlobals x with
 | some (some (.ref a))=>a
 | _=>0
def clB(K:PySem.W.Frag):Bool:=(PySem.W.nsIn K mainGlobals "NetError" == some (some (.ref (cAd K "NetError")))) && PySem.W.excIn K (cAd K "NetError") vmro "ValueError.__new__" &&
 xNames.all fun x=>(PySem.W.nsIn K mainGlobals x == some (some (.ref (cAd K x)))) && PySem.W.excIn K (cAd K x) vmro "ValueError.__new__" && j6z K (cAd K x) (cAd K "NetError") && j8c K (cAd K x) && (PySem.W.kitOne K (.ref (cAd K x)) (.type "ValueError") == some true) &&
  xNames.all fun y=>PySem.W.kitOne K (.ref (cAd K x)) (.ref (cAd K y)) == some (decide (x=y))
theorem q5t{K:PySem.W.Frag}{h:Heap}{mg:Str->Option Value}(X:K.In h)(G:h.Ns mainGlobals mg)(q:clB K=true):Cl K mg (cAd K):=by
 unfold clB at q;simp only [Bh,Ci,beq_iff_eq] at q;obtain⟨⟨q1,q2⟩,q3⟩:=q;exact⟨PySem.W.mg_of X G q1,q2,fun x hx=>by obtain⟨⟨⟨⟨⟨a1,a2⟩,a3⟩,a4⟩,a5⟩,_⟩:=q3 x hx;exact⟨PySem.W.mg_of X G a1,a2,a3,a4,a5⟩,fun x hx y hy=>(q3 x hx).2 y hy⟩
def k0h(c:Str->Addr):Addr->Obj->Sp:=fun ea oe vs H Q _=>∃ x∈xNames,vs=[.ref ea]/\oe.cls = .ref (c x)/\∀ H',Same H H'->Q (.str x) H'
section
variable{P:Program}{w:World}{K:PySem.W.Frag}{mg:Str->Option Value}{base:Heap}
abbrev NTi1:List Str:=["rows"]
abbrev NTi2:List Str:=["rows","point","ties","tie"]
theorem scTies:FnScope NTi1 ["rows"] (j0f j4l):=⟨rfl,rfl,rfl,by decide +kernel,rfl,by decide +kernel,by decide +kernel⟩
theorem k4u:NTi2.Nodup:=by decide +kernel
theorem q02{f:Addr}{fd:FuncData}(F:Fun K "ties_of" "ties_of" j4l f fd)(T:Txt mg):FnOk P w K mg base CX0 1 f fd ["rows"] spTs:=by
 refine F.gb scTies (fun vs H Q E h=>?_) (fun b0 H vs Q E hr h=>?_)
 ·obtain⟨R,as,n,rfl,_⟩:=h;rfl
 obtain⟨R,as,n,rfl,hR,hn,ht,hfew,q⟩:=h;have nd:=scTies.nd;have hal:=hR.len;have sub:∀(zs:List Str) (r:Nat) (ys:List Str),zs.Nodup->(∀ z,z∈zs->z∈ties n)->zs.length < 64:=fun zs r ys h1 h2=>hfew zs h1 h2;have tsub:∀ r,r < n.length->∀ z,z∈ties (n.take r)\/z∈row n r->z∈ties n:=fun r hr' z hz=>by
  have e:ties n=ties (n.take (r+1))++ties (n.drop (r+1)):=by
   unfold ties;rw [<- Cy,Ck]
  rw [e,j8n hr']
  rcases hz with h | h <;> simp [h]
 show Run _ _ _ [some (.ref R)] H;refine j0l (j0u (j5s rfl) T.sorted PyProof.Rows.boot_sorted (j0a (k44 (j0f j4l) NTi1 NTi2 3 (j22 j02) (ev_v 0 ⟨R,rfl,⟨_,SqL.of hR.lst⟩,fun D hD cl C s₀ H₀ ex=>?_⟩))));refine j2k (xs:=as.map fun a=>V.ref a.1) (fun r σ' H'=>(∃ v1 v2 v3,σ'=[some (.ref R)]++[v1,v2,v3])/\∃ zs:List Str,Same H H'/\H' D=some (SetO P w D zs)/\zs.Nodup/\∀ z,z∈zs↔z∈ties (n.take r)) ⟨⟨none,none,none,rfl⟩,[],j0g hD _,j0b,Cm,fun z=>Iff.rfl⟩ ?_ ?_ ?_
 ·rintro r σ' H' _ ⟨_,zs,sm,_⟩;exact SqL.of (sm _ _ hR.lst)
 ·rintro r x σ' H' hx ⟨⟨v1,v2,v3,rfl⟩,zs,sm,eD,zn,zm⟩;have hi:r < n.length:=by
   have:=(Ab.mp hx).1;rw [Aa] at this;omega
  obtain⟨a,ea,eat,et,el,er⟩:=(hR.same sm).at hi;rw [Ae,ea] at hx;cases hx;refine j21 rfl (SqT.of et) (j0n 1 k4u (j0n 2 k4u ?_));refine j3c ?_;rw [if_pos rfl];refine k2u rfl rfl (j22 j02) (ev_v 2 ⟨a.2,rfl,⟨_,SqL.of el⟩,?_⟩);have naD:a.2≠D:=j11 el eD fun z=>nomatch z;refine j2k (xs:=(row n r).map V.str) (fun p σ' H''=>(∃ v3,σ'=[some (.ref R)]++[some (.str n[r].1),some (.ref a.2),v3])/\∃ zs:List Str,(∀ b o,b≠D->H' b=some o->H'' b=some o)/\H'' D=some (SetO P w D zs)/\zs.Nodup/\∀ z,z∈zs↔z∈ties (n.take r)\/z∈(row n r).take p)
   ⟨⟨_,rfl⟩,zs,fun b o _ h=>h,eD,zn,fun z=>by rw [zm z];simp⟩ ?_ ?_ ?_
  ·rintro p σ' H'' _ ⟨_,zs,kb,_⟩;exact SqL.of (kb _ _ naD el)
  ·rintro p x σ' H'' hx ⟨⟨v3,rfl⟩,zs,kb,eD6,zn6,zm6⟩;rw [Ae,Ar] at hx;obtain⟨z,hz,rfl⟩:=hx;refine j0n 3 k4u ?_;refine j3c ?_;rw [if_pos rfl];have hl:zs.length < 64:=hfew zs zn6 fun y hy=>tsub r hi y (((zm6 y).mp hy).imp id fun h=>List.mem_of_mem_take h);refine k4k (ev_v 3 ⟨z,zs,rfl,eD6,by omega,⟨_,rfl⟩,added zs z,fun b o hb h=>by rw [j0e hb];exact kb b o hb h,j0b,j5u zn6,fun y=>?_⟩);rw [j8l,zm6 y,Bz,hz,or_assoc];simp
  ·rintro σ' H'' ⟨⟨v3,rfl⟩,zs,kb,eD6,zn6,zm6⟩;refine⟨⟨_,_,_,rfl⟩,zs,fun b o h=>kb b o (j0h h hD) (sm _ _ h),eD6,zn6,fun z=>?_⟩;rw [zm6 z,Aa,Bw,j8n hi,Ba]
 ·rintro σ' H' ⟨_,zs,sm,eD,zn,zm⟩;rw [Aa,hal,Bw] at zm;refine j0c ⟨D,zs,rfl,eD,hfew zs zn fun y hy=>(zm y).mp hy,fun l ss hl hp hs=>?_⟩;exact q l ss _ (sm.trans (j0g hl _)) (j0t sm hl) j0b (hp.nodup_iff.mpr zn) hs fun z=>by rw [hp.mem_iff,zm z]
abbrev NSm:List Str:=["_law_told","_law_due","_law_k","_law_row"]
theorem scSame:FnScope NSm ["_law_told","_law_due"] (j0f j76):=⟨rfl,rfl,rfl,by decide +kernel,rfl,by decide +kernel,by decide +kernel⟩
theorem k9y{f:Addr}{fd:FuncData}(F:Fun K "_law_same" "_law_same" j76 f fd)(T:Txt mg):FnOk P w K mg base CX0 1 f fd ["_law_told","_law_due"] k46:=by
 refine F.gb scSame (fun vs H Q E h=>?_) (fun b0 H vs Q E hr h=>?_)
 ·obtain⟨R,R',as,bs,n,rfl,_⟩:=h;rfl
 obtain⟨R,R',as,bs,n,rfl,hR,hR',hn,q⟩:=h;have nd:=scSame.nd;have la:=hR.len;have lb:=hR'.len;have un:=hr.u100;show Run _ _ _ [some (.ref R),some (.ref R'),none,none] H;refine j37 (fun k H4=>k=false/\H4=H) (fun σ' H'=>H'=H/\σ'=[some (.ref R),some (.ref R'),none,none]) ?_ (fun H4 h=>by cases h.1) (fun H4 h=>j0j ⟨h.2,rfl⟩) ?_
 ·refine j1k (j3l (j25 (j24 (j0u j4g T.isi PyProof.Rows.boot_isinstance (j0a (ev_v 0 (j0a (j4w (.ty "list") T.tlist PyProof.Rows.boot_list rfl (j0c ⟨_,_,_,true,rfl,.lst hR.lst,k_ll K,true,rfl,?_⟩)))))))));rw [if_neg (show ¬(!true)=true by simp)];refine j3g (j0v k1l (j0u j0k T.len boot_len (j0a (ev_v 0 (j0c ⟨R,_,rfl,.inl (SqL.of hR.lst),j0u j0k T.len boot_len (j0a (ev_v 1 (j0c ⟨R',_,rfl,.inl (SqL.of hR'.lst),?_⟩)))⟩)))));rw [Aa,Aa,la,lb];exact⟨rfl,_,rfl,by show(!(V.int _ == V.int _))=false;simp,rfl⟩
 ·rintro σ' H' ⟨rfl,rfl⟩;refine j1i T.range (j0u j0k T.len boot_len (j0a (ev_v 1 (j0c ⟨R',_,rfl,.inl (SqL.of hR'.lst),?_⟩))));rw [Aa,lb];refine⟨(n.length:Int),rfl,by omega,by omega,j1a (n:=n.length) (fun i σ H3=>H3=H'/\∃(u v:Option V),σ=[some (.ref R),some (.ref R'),u,v]) ⟨rfl,_,_,rfl⟩ ?_ ?_⟩
  ·rintro i σ H3 hi ⟨rfl,u,v,rfl⟩;obtain⟨a,ea,eat,et,el,er⟩:=hR.at hi;obtain⟨b,eb,ebt,et',el',er'⟩:=hR'.at hi;have e0:(0:Int)+(i:Int)=(i:Int):=Cq _;refine j0n 2 nd ?_;rw [e0];refine j0i 3 nd (j0o j0y (ev_v 0 (ev_v 2 ⟨R,_,_,.ref a.1,rfl,rfl,SqL.of hR.lst,eat,?_⟩)));show Run _ _ _ [some (.ref R),some (.ref R'),some (.int i),some (.ref a.1)] H3;refine j37 (fun k H4=>k=false/\H4=H3) (fun σ' H'=>H'=H3/\σ'=[some (.ref R),some (.ref R'),some (.int i),some (.ref a.1)]) ?_ (fun H4 h=>by cases h.1) (fun H4 h=>j0j ⟨h.2,rfl⟩) ?_
   ·refine j1k (j3l (j25 (j24 (j0u j4g T.isi PyProof.Rows.boot_isinstance (j0a (ev_v 3 (j0a (j4w (.ty "tuple") T.ttuple PyProof.Rows.boot_tuple rfl (j0c ⟨_,_,_,true,rfl,.tup et,k_tt K,true,rfl,?_⟩)))))))));rw [if_neg (show ¬(!true)=true by simp)];refine j3l (j0v k1l (j0u j0k T.len boot_len (j0a (ev_v 3 (j0c ⟨a.1,_,rfl,.inr (SqT.of et),j0d ⟨rfl,_,rfl,?_⟩⟩)))));rw [if_neg (by simp)];refine j3l (j25 (j24 (j0u j4g T.isi PyProof.Rows.boot_isinstance (j0a (j0o j0p (ev_v 3 (j0d ⟨a.1,_,_,.str n[i].1,rfl,rfl,SqT.of et,rfl,j0a (j4w (.ty "str") T.tstr PyProof.Rows.boot_str rfl (j0c ⟨_,_,_,true,rfl,.str _,k_ss K,true,rfl,?_⟩))⟩)))))));rw [if_neg (show ¬(!true)=true by simp)];refine j3g (j25 (j24 (j0u j4g T.isi PyProof.Rows.boot_isinstance (j0a (j0o j0p (ev_v 3 (j0d ⟨a.1,_,_,.ref a.2,rfl,rfl,SqT.of et,rfl,j0a (j4w (.ty "list") T.tlist PyProof.Rows.boot_list rfl (j0c ⟨_,_,_,true,rfl,.lst el,k_ll K,true,rfl,rfl,rfl⟩))⟩)))))))
   ·rintro σ' H' ⟨rfl,rfl⟩;refine j37 (fun k H4=>k=false/\H4=H') (fun σ' H''=>H''=H'/\σ'=[some (.ref R),some (.ref R'),some (.int i),some (.ref a.1)]) ?_ (fun H4 h=>by cases h.1) (fun H4 h=>j0j ⟨h.2,rfl⟩) ?_
    ·refine j1k (j3l (j0v k1l (j0o j0p (ev_v 3 (j0d ⟨a.1,_,_,.str n[i].1,rfl,rfl,SqT.of et,rfl,j0o j0p (j0o j0y (ev_v 1 (ev_v 2 ⟨R',_,_,.ref b.1,rfl,rfl,SqL.of hR'.lst,ebt,j0d ⟨b.1,_,_,.str n[i].1,rfl,rfl,SqT.of et',rfl,rfl,_,rfl,?_⟩⟩)))⟩)))));rw [if_neg (by simp)];refine j3g (j0v (j40 un) (j0o j0p (ev_v 3 (j0d ⟨a.1,_,_,.ref a.2,rfl,rfl,SqT.of et,rfl,j0o j0p (j0o j0y (ev_v 1 (ev_v 2 ⟨R',_,_,.ref b.1,rfl,rfl,SqL.of hR'.lst,ebt,j0d ⟨b.1,_,_,.ref b.2,rfl,rfl,SqT.of et',rfl,1,true,by decide,k59 el el',_,rfl,rfl,rfl⟩⟩)))⟩))))
    ·rintro σ' H'' ⟨rfl,rfl⟩;exact j0j ⟨rfl,_,_,rfl⟩
  ·rintro σ H3 ⟨rfl,u,v,rfl⟩;exact j0l (k1w q)
end
end J0
namespace J0
open PySem L2 Nt Sort2 SetT
open PyProof.Rows (sortedS)
structure Pk(x:Str)(H:Hp)(L:Addr)(ts:List Addr)(k:Nat):Prop where
 lst:H L=some (.lst (ts.map V.ref))
 len:ts.length=k
 at':∀(i:Nat) t y,ts[i]?=some t->xNames[i]?=some y->H t=some (.tup [.str y,.bl (decide (x=y))])
section
variable{X:Cx}{σ:St}{H:Hp}{Q:VK}{c:Str->Addr}{ea:Addr}{oe:Obj}{x y1 y2:Str}{k:Nat}{p0 p1 p2 p3 p4 p5 p6 p7 p8 p9 p10 p11 p12 p13 p14:Pos}{j1 j2 x1 x2:Nat}
theorem q1u(hi:X.mg "isinstance" = none)(cl:Cl X.K X.mg c)(hx:x∈xNames)(hy:y1∈xNames)(hE:H ea=some (XO oe))(ix:IsX oe (.ref (c x))) (q:Q (.bl (decide (x=y1))) H) (hv:σ[0]?=some (some (.ref ea))) (hN:X.N[0]?=some ("_law_e" : Str)) (hs:Vis X.env.scope "_law_e") (hg1:Gl X "isinstance") (hg2:Gl X y1) (hd2:(y1 == ("__debug__" : Str))=false) :
  Ev X (.Call (.Name "isinstance" p2) [.Name "_law_e" p3,.Name y1 p4] [] p5) σ H Q:=by
 refine j0u j8m hi PyProof.Rows.boot_isinstance (j0a (ev_v 0 (j0a (j7r (cl.at' y1 hy).1 (v:= .ref (c y1)) rfl (j0c ⟨ea,c x,oe,.ref (c y1),.ref (c y1),_,rfl,fun u r=>r,hE,ix,(cl.at' x hx).2.2.2.1,cl.kit x hx y1 hy,q⟩) hg2 hd2)) hv hN hs)) hg1
theorem k8r(hi:X.mg "isinstance" = none)(cl:Cl X.K X.mg c)(hx:x∈xNames)(h1:xNames[k]?=some y1)(h2:xNames[k+1]?=some y2)(hE:H ea=some (XO oe))(ix:IsX oe (.ref (c x)))
  (q:∀ L t1 t2 H',Same H H'->H' L=some (.lst [.ref t1,.ref t2])->H' t1=some (.tup [.str y1,.bl (decide (x=y1))])->H' t2=some (.tup [.str y2,.bl (decide (x=y2))])->Q (.ref L) H') (hv:σ[0]?=some (some (.ref ea))) (hN:X.N[0]?=some ("_law_e" : Str)) (hs:Vis X.env.scope "_law_e")
  (hg1:Gl X "isinstance") (hg2:Gl X y1) (hd2:(y1 == ("__debug__" : Str))=false) (hg3:Gl X y2) (hd3:(y2 == ("__debug__" : Str))=false) :
  Ev X (.List [.Tuple [.Constant (.str y1) j1 p1,.Call (.Name "isinstance" p2) [.Name "_law_e" p3,.Name y1 p4] [] p5] x1 p6,.Tuple [.Constant (.str y2) j2 p7,.Call (.Name "isinstance" p8) [.Name "_law_e" p9,.Name y2 p10] [] p11] x2 p12] p13) σ H Q:=by
 have m1:=An h1;have m2:=An h2;refine j1f (j0a (j1b (j0a (j04 (j0a (q1u hi cl hx m1 hE ix (j0c ⟨(by show 2<=sizeLine;decide),fun t1 ht1=>?_⟩) hv hN hs hg1 hg2 hd2))))));have s1:=j0g ht1 (.tup [.str y1,.bl (decide (x=y1))]);refine j0a (j1b (j0a (j04 (j0a (q1u hi cl hx m2 (s1 _ _ hE) ix (j0c ⟨(by show 2<=sizeLine;decide),fun t2 ht2=>?_⟩) hv hN hs hg1 hg3 hd3)))));have s2:=j0g ht2 (.tup [.str y2,.bl (decide (x=y2))]);refine j0c ⟨(by show 2<=sizeLine;decide),fun L hL=>?_⟩;have s3:=j0g hL (.lst [.ref t1,.ref t2]);exact q L t1 t2 _ (s1.trans (s2.trans s3)) j0b (s3 _ _ (s2 _ _ j0b)) (s3 _ _ j0b)
theorem j3u{L0:Addr}{ts:List Addr}(hi:X.mg "isinstance" = none)(cl:Cl X.K X.mg c)(hx:x∈xNames)(h1:xNames[k]?=some y1)(h2:xNames[k+1]?=some y2)(hk:k<=100)(pk:Pk x H L0 ts k)(hE:H ea=some (XO oe))(ix:IsX oe (.ref (c x)))
  (q:∀ L ts' H',Same H H'->Pk x H' L ts' (k+2)->Q (.ref L) H') (hv:σ[0]?=some (some (.ref ea)):=by rfl) (hN:X.N[0]?=some ("_law_e" : Str):=by rfl) (hs:Vis X.env.scope "_law_e":=by first | exact Or.inl rfl | exact Or.inr (Or.inl rfl))
  (hv1:σ[1]?=some (some (.ref L0)):=by rfl) (hN1:X.N[1]?=some ("_law_kinds" : Str):=by rfl) (hs1:Vis X.env.scope "_law_kinds":=by first | exact Or.inl rfl | exact Or.inr (Or.inl rfl))
  (hg1:Gl X "isinstance":=by rfl) (hg2:Gl X y1:=by rfl) (hd2:(y1 == ("__debug__" : Str))=false:=by decide) (hg3:Gl X y2:=by rfl) (hd3:(y2 == ("__debug__" : Str))=false:=by decide) :
  Ev X (.BinOp (.Name "_law_kinds" p0) .Add (.List [.Tuple [.Constant (.str y1) j1 p1,.Call (.Name "isinstance" p2) [.Name "_law_e" p3,.Name y1 p4] [] p5] x1 p6,.Tuple [.Constant (.str y2) j2 p7,.Call (.Name "isinstance" p8) [.Name "_law_e" p9,.Name y2 p10] [] p11] x2 p12] p13) p14) σ H Q:=by
 have lk:=pk.len;refine j0m k80 (ev_v 1 (k8r hi cl hx h1 h2 hE ix (fun L t1 t2 H' s1 e1 e2 e3=>⟨L0,L,_,_,rfl,rfl,s1 _ _ pk.lst,e1,?_,fun D hD=>?_⟩) hv hN hs hg1 hg2 hd2 hg3 hd3) hv1 hN1 hs1)
 ·rw [Aa];exact small (by show ts.length+2<=100000;omega)
 have s2:=j0g hD (.lst (ts.map V.ref++[.ref t1,.ref t2]));refine q D (ts++[t1,t2]) _ (s1.trans s2) ⟨by rw [j0b,Al];rfl,by rw [Af,lk];rfl,fun i t y a b=>?_⟩
 by_cases hi:i < ts.length
 ·rw [Ax hi] at a;exact s2 _ _ (s1 _ _ (pk.at' i t y a b))
 ·rw [Bb (by omega)] at a;have:i - ts.length < 2:=(Ab.mp a).1
  by_cases h0:i=ts.length
  ·rw [h0,Nat.sub_self] at a;cases a;rw [h0,lk,h1] at b;cases b;exact s2 _ _ e2
  ·have e:i=ts.length+1:=by omega
   rw [e,show ts.length+1 - ts.length=1 by omega] at a;cases a;rw [e,lk,h2] at b;cases b;exact s2 _ _ e3
end
section
variable{P:Program}{w:World}{K:PySem.W.Frag}{mg:Str->Option Value}{base:Heap}
abbrev NWh:List Str:=["_law_e","_law_kinds","_law_met_here"]
abbrev NWh':List Str:=["_law_e","_law_kinds","_law_met_here","_law_pair"]
theorem scWh:FnScope NWh ["_law_e"] (j0f j4h):=⟨rfl,rfl,rfl,by decide +kernel,rfl,by decide +kernel,by decide +kernel⟩
theorem q4i:NWh'.Nodup:=by decide +kernel
theorem k3a:bootBuiltins "ValueError" = some (.type "ValueError"):=by decide +kernel
theorem q5e:xNames.Nodup:=by decide +kernel
theorem k50{f:Addr}{fd:FuncData}{c:Str->Addr}(F:Fun K "_law_which" "_law_which" j4h f fd)(T:Txt mg)(cl:Cl K mg c):FnOkH P w K mg base 1 f fd ["_law_e"] (k0h c):=by
 refine F.gh scWh (fun ea oe vs H Q E h=>?_) (fun b0 ea oe C vs Q E hun hE ix hK h=>?_)
 ·obtain⟨x,_,rfl,_⟩:=h;rfl
 obtain⟨x,hx,rfl,hc,q⟩:=h;have nd:=scWh.nd;have ix:IsX oe (.ref (c x)):=⟨hc,ix.dict,ix.data⟩;show Run _ _ _ [some (.ref ea),none,none] b0.H;refine j0i 1 nd (k8r (k:=0) T.isi cl hx rfl rfl hE ix (fun L0 t1 t2 H1 s1 e1 e2 e3=>?_) rfl rfl (Or.inl rfl) rfl rfl (by decide) rfl (by decide));have pk2:Pk x H1 L0 [t1,t2] 2:=⟨e1,rfl,fun i t y a b=>by
  match i with
  | 0=>cases a;cases b;exact e2
  | 1=>cases a;cases b;exact e3
  | i+2=>simp at a⟩
 show Run _ _ _ [some (.ref ea),some (.ref L0),none] H1;refine j0i 1 nd (j3u (k:=2) T.isi cl hx rfl rfl (by decide) pk2 (s1 _ _ hE) ix fun L1 ts1 H2 s2 pk4=>?_);show Run _ _ _ [some (.ref ea),some (.ref L1),none] H2;refine j0i 1 nd (j3u (k:=4) T.isi cl hx rfl rfl (by decide) pk4 ((s1.trans s2) _ _ hE) ix fun L2 ts2 H3 s3 pk6=>?_);show Run _ _ _ [some (.ref ea),some (.ref L2),none] H3;refine j0i 1 nd (j3u (k:=6) T.isi cl hx rfl rfl (by decide) pk6 (((s1.trans s2).trans s3) _ _ hE) ix fun L3 ts3 H4 s4 pk8=>?_);show Run _ _ _ [some (.ref ea),some (.ref L3),none] H4;refine j0i 1 nd (j3u (k:=8) T.isi cl hx rfl rfl (by decide) pk8 ((((s1.trans s2).trans s3).trans s4) _ _ hE) ix fun L4 ts4 H5 s5 pk10=>?_);show Run _ _ _ [some (.ref ea),some (.ref L4),none] H5;refine j0i 1 nd (j3u (k:=10) T.isi cl hx rfl rfl (by decide) pk10 (((((s1.trans s2).trans s3).trans s4).trans s5) _ _ hE) ix fun L5 ts5 H6 s6 pk12=>?_);show Run _ _ _ [some (.ref ea),some (.ref L5),none] H6;refine j0i 1 nd (j3u (k:=12) T.isi cl hx rfl rfl (by decide) pk12 ((((((s1.trans s2).trans s3).trans s4).trans s5).trans s6) _ _ hE) ix fun L6 ts6 H7 s7 pk14=>?_);show Run _ _ _ [some (.ref ea),some (.ref L6),none] H7;have s17:Same b0.H H7:=(((((s1.trans s2).trans s3).trans s4).trans s5).trans s6).trans s7;have lk:ts6.length=14:=pk14.len;obtain⟨k,hk⟩:=Bc hx;have hkl:k < 14:=(Ab.mp hk).1;have word:∀(i:Nat) t,ts6[i]?=some t->H7 t=some (.tup [.str (xNames[i]?.getD ""),.bl (decide (i=k))]):=fun i t hi=>by
  have hil:i < 14:=by rw [<- lk];exact(Ab.mp hi).1
  obtain⟨y,hy⟩:∃ y,xNames[i]?=some y:=⟨_,Ac (show i < xNames.length from hil)⟩;have:=pk14.at' i t y hi hy;rw [hy];have e:decide (x=y)=decide (i=k):=decide_eq_decide.mpr ⟨fun z=>by
   subst z;have a1:=Ab.mp hk;have a2:=Ab.mp hy;have pw:=Bq.mp q5e
   rcases Ed i k with z | z | z
   ·exact absurd (a2.2.trans a1.2.symm) (pw i k a2.1 a1.1 z)
   ·exact z
   ·exact absurd (a1.2.trans a2.2.symm) (pw k i a1.1 a2.1 z),fun z=>by rw [z,hk] at hy;exact Option.some.inj hy⟩
  rw [e] at this;exact this
 refine k4y 2 (j0f j4h) NWh NWh' 1 hK nd (k6i j02) (ev_v 1 ⟨L6,rfl,⟨_,SqL.of pk14.lst⟩,fun D hD=>?_⟩);refine j3t (xs:=ts6.map V.ref) (fun i σ' H'=>(∃ v,σ'=[some (.ref ea),some (.ref L6),none]++[v])/\Same H7 H'/\H' D=some (Ls (if k < i then [x] else []))) ⟨⟨none,rfl⟩,j0g hD _,j0b⟩ ?_ ?_ ?_
 ·rintro i σ' H' _ ⟨_,sm,_⟩;exact SqL.of (sm _ _ pk14.lst)
 ·rintro i v σ' H' hv ⟨⟨v0,rfl⟩,sm,eD⟩;rw [Ae,Ar] at hv;obtain⟨t,ht,rfl⟩:=hv;have et:=sm _ _ (word i t ht);intro cl' C' s₀ H₀ ex;refine j0n 3 q4i ?_;intro cl' C' s₀ H₀ ex;refine k8y (j24 (j0o j0p (ev_v 3 (j0d ⟨t,_,_,.bl (decide (i=k)),rfl,rfl,SqT.of et,rfl,_,rfl,?_⟩))));refine ite2 (fun z=>?_) (fun z=>⟨⟨_,rfl⟩,sm,?_⟩)
  ·have z:=of_decide_eq_true z;subst z;intro cl' C' s₀ H₀ ex;rw [if_neg (Bo _)] at eD;refine j0o j0p (ev_v 3 (j0d ⟨t,_,_,.str x,rfl,rfl,SqT.of et,by rw [hk];rfl,_,eD,(by show 0 < sizeLine;decide),⟨_,rfl⟩,j1h sm hD,?_⟩));rw [j0b,if_pos (Fa _)];rfl
  ·have z:i≠k:=fun y=>z (decide_eq_true y);rw [eD]
   by_cases y:k < i
   ·rw [if_pos y,if_pos (by omega)]
   ·rw [if_neg y,if_neg (by omega)]
 ·rintro σ' H8 ⟨_,s8,eD⟩;rw [Aa,lk,if_pos hkl] at eD;show Run _ _ _ [some (.ref ea),some (.ref L6),some (.ref D)] H8;have hE8:=s8 _ _ (s17 _ _ hE);refine j1g (j1k (j3l (j0v k1l (j0u j0k T.len boot_len (j0a (ev_v 2 (j0c ⟨D,_,rfl,.inl (SqL.of eD),j0d ⟨rfl,_,rfl,iteF ?_⟩⟩)))))));refine j3g (j25 (j24 (j0u j8m T.isi PyProof.Rows.boot_isinstance (j0a (ev_v 0 (j0a (j4w (.ty "ValueError") T.vale k3a rfl (j0c ⟨ea,c x,oe,.type "ValueError",.ty "ValueError",true,rfl,fun u r=>r,hE8,ix,(cl.at' x hx).2.2.2.1,(cl.at' x hx).2.2.2.2,true,rfl,iteF (j0j ?_)⟩))))))));exact j0l (j0o j0y (ev_v 2 (j0d ⟨D,_,_,.str x,rfl,rfl,SqL.of eD,rfl,q _ (s17.trans s8)⟩)))
end
end J0
namespace Nt
open PySem L2
section
variable{n:Net}{z:Str}{r k:Nat}
theorem q3f(h:r < n.length):row n r=n[r].2:=by unfold row;rw [Ac h];rfl
theorem k43(h:r < n.length):ties (n.take (r+1))=ties (n.take r)++row n r:=by
 rw [q3f h];unfold ties;rw [Bz,Ac h,Cy];simp
theorem j6t:ties n=ties (n.take k)++ties (n.drop k):=by
 unfold ties;rw [<- Cy,Ck]
theorem q5p(h:r < n.length):(row n r).length<=(ties n).length:=by
 rw [j6t (k:=r+1),k43 h];simp only [Af];omega
end
abbrev Out:=Str ⊕ Net
structure Bld(H0 H:Hp)(D:Addr)(bs:List (Addr×Addr))(m:Net):Prop where
 rows:RowsAt H D bs m
 new:∀ a∈bs,H0 a.1=none/\H0 a.2=none
 nD:∀ a∈bs,a.1≠D/\a.2≠D
theorem Bld.same{H0 H H':Hp}{D:Addr}{bs:List (Addr×Addr)}{m:Net}(b:Bld H0 H D bs m)(s:Same H H'):Bld H0 H' D bs m:=⟨b.rows.same s,b.new,b.nD⟩
theorem Bld.nil{H0 H:Hp}{D:Addr}(h:H D=some (.lst [])):Bld H0 H D [] []:=⟨⟨rfl,h,fun i a r h=>(by simp at h),Cm⟩,fun a h=>(by simp at h),fun a h=>(by simp at h)⟩
theorem Bld.in_heap{H0 H:Hp}{D:Addr}{bs:List (Addr×Addr)}{m:Net}(b:Bld H0 H D bs m){a:Addr×Addr}(h:a∈bs):H a.1≠none/\H a.2≠none:=by
 obtain⟨i,hi⟩:=Bc h;have hl:=(Ab.mp hi).1;have:=b.rows.len;obtain⟨q1,q2⟩:=b.rows.tup i a _ hi (Ac (by omega));exact⟨by rw [q1];simp,by rw [q2];simp⟩
theorem Bld.add{H0 H:Hp}{D t l:Addr}{bs:List (Addr×Addr)}{m:Net}{p:Str}{zs:List Str}(b:Bld H0 H D bs m)(hl:H l=some (Ls zs))(l0:H0 l=none)(ln:l∉bs.map (·.2))(nl:l≠D)(ht:H t=none)(t0:H0 t=none) :
  Bld H0 (upd (upd H t (.tup [.str p,.ref l])) D (.lst ((bs.map fun a=>V.ref a.1)++[.ref t]))) D (bs++[(t,l)]) (m++[(p,zs)]):=by
 have ntD:t≠D:=fun e=>by rw [e,b.rows.lst] at ht;cases ht
 have ntl:t≠l:=fun e=>by rw [e,hl] at ht;cases ht
 have len:=b.rows.len;have keep:∀ x o,x≠D->H x=some o->(upd (upd H t (.tup [.str p,.ref l])) D (.lst ((bs.map fun a=>V.ref a.1)++[.ref t]))) x=some o:=fun x o h1 h2=>by
  rw [j0e h1,j0e (j0h h2 ht)];exact h2
 refine⟨⟨by rw [Af,Af,len];rfl,by rw [j0b,Al];rfl,fun i a r h1 h2=>?_,?_⟩,fun a ha=>?_,fun a ha=>?_⟩
 ·by_cases hi:i < bs.length
  ·rw [Ax hi] at h1;rw [Ax (by omega)] at h2;have nn:=b.nD a (An h1);obtain⟨q1,q2⟩:=b.rows.tup i a r h1 h2;exact⟨keep _ _ nn.1 q1,keep _ _ nn.2 q2⟩
  ·rw [Bb (by omega)] at h1;rw [Bb (by omega)] at h2;have e:i - bs.length=0:=by
    have:=(Ab.mp h1).1;simp at this;omega
   rw [e] at h1;rw [<- len,e] at h2;cases h1;cases h2;exact⟨by rw [j0e ntD,j0b],keep _ _ nl hl⟩
 ·rw [Al];refine Cr.mpr ⟨b.rows.inj,by simp,fun x hx y hy e=>?_⟩;have hy:=Ah.mp hy;exact ln (by rw [<- show y=l from hy,<- e];exact hx)
 ·rcases Ba.mp ha with h | h
  ·exact b.new a h
  ·rw [Ah.mp h];exact⟨t0,l0⟩
 ·rcases Ba.mp ha with h | h
  ·exact b.nD a h
  ·rw [Ah.mp h];exact⟨ntD,nl⟩
def rwKv(n:Net)(as:List (Addr×Addr)):List (Key×V):=List.zipWith (fun r a=>(Sum.inr r.1,V.ref a.2)) n as
theorem j5n:∀(n:Net) (as:List (Addr×Addr)),as.length=n.length->(rwKv n as).map (·.1)=(n.map (·.1)).map Sum.inr
 | [],_,_=>by simp [rwKv]
 | r :: n,[],h=>by simp at h
 | r :: n,a :: as,h=>by
  have:=j5n n as (by simpa using h);show Sum.inr r.1 :: (rwKv n as).map (·.1)=_;rw [this];rfl
theorem k4l{n:Net}{as:List (Addr×Addr)}{i:Nat}{r:Str×List Str}{a:Addr×Addr}(h1:n[i]?=some r)(h2:as[i]?=some a):(rwKv n as)[i]?=some (Sum.inr r.1,.ref a.2):=by
 unfold rwKv;rw [List.getElem?_zipWith,h1,h2]
theorem q30{κ:Type} [DecidableEq κ]:∀{kvs:List (κ×V)} {i:Nat} {p:κ×V},(kvs.map (·.1)).Nodup->kvs[i]?=some p->valV kvs p.1=some p.2
 | [],_,_,_,h=>by simp at h
 | q :: r,0,p,_,h=>by
  cases h;exact j1m rfl
 | q :: r,i+1,p,hn,h=>by
  rw [Be,Cf] at hn;have hm:r[i]?=some p:=by simpa using h
  rw [j1l fun e=>hn.1 (by rw [e];exact Am.mpr ⟨p,An hm,rfl⟩)];exact q30 hn.2 hm
theorem q1k{kvs:List (Key×V)}{k:Key}{v:V}(h:k∉kvs.map (·.1)):putK kvs k v=kvs++[(k,v)]:=by
 unfold putK;rw [if_neg];intro q;rw [Co] at q;obtain⟨x,hx,e⟩:=q;exact h (Am.mpr ⟨x,hx,of_decide_eq_true e⟩)
theorem k06:∀{kvs acc:List (Key×V)},((acc++kvs).map (·.1)).Nodup->kvs.foldl (fun a p=>putK a p.1 p.2) acc=acc++kvs
 | [],acc,_=>by simp
 | p :: kvs,acc,h=>by
  rw [Cs,q1k (v:=p.2) (k:=p.1) (by
   rw [Al,Be] at h;exact fun q=>(Cr.mp h).2.2 _ q _ (Aw ..) rfl),k06 (by rw [Bl];exact h),Bl]
  rfl
theorem k2d{n:Net}{as:List (Addr×Addr)}(hl:as.length=n.length)(hN:(n.map (·.1)).Nodup):((rwKv n as).map (·.1)).Nodup:=by
 rw [j5n n as hl];exact List.Pairwise.map _ (fun a b h e=>h (Sum.inr.inj e)) hN
end Nt
namespace J0
open PySem L2 Nt Sort2 SetT
open PyProof.Rows (sortedS)
def Few(n:Net):Prop:=∀ zs:List Str,zs.Nodup->(∀ z∈zs,z∈ties n)->zs.length < 64
def k22:Sp:=fun vs H Q _=>∃(L:Addr) (zs:List Str) (b:Int),vs=[.ref L,.int b]/\H L=some (Ls zs)/\zs.length<=1000/\(∀ z∈zs,z.length<=100)/\∀ x H',x.length<=100->Same H H'->Q (.str x) H'
def Sm(m:Net):Prop:=m.length<=1000/\∀ r∈m,r.2.length<=5000
def AnsAt(H0 H:Hp)(t:Addr):Out->Prop
 | .inl x=>x ≠ ""/\H t=some (.tup [.str x,.non])
 | .inr m=>∃(L:Addr) (bs:List (Addr×Addr)),H t=some (.tup [.str "",.ref L])/\RowsAt H L bs m/\H0 L=none/\(∀ a∈bs,H0 a.1=none/\H0 a.2=none)/\Sm m
theorem AnsAt.same{H0 H H':Hp}{t:Addr}:∀{o:Out},AnsAt H0 H t o->Same H H'->AnsAt H0 H' t o
 | .inl x,⟨h1,h2⟩,s=>⟨h1,s _ _ h2⟩
 | .inr m,⟨L,bs,h1,h2,h3,h4,h5⟩,s=>⟨L,bs,s _ _ h1,h2.same s,h3,h4,h5⟩
def q0p:Sp:=fun vs H Q _=>∃(t u:Addr) (H0 H1:Hp) (o:Out),vs=[.ref t,.ref u]/\AnsAt H0 H t o/\AnsAt H1 H u o/\Q (.bl true) H
abbrev odds:List Str:=["","A",Txt.mul "a" 9,"a-b"," a","a.","Z9","a b"]
section
variable{P:Program}{w:World}{K:PySem.W.Frag}{mg:Str->Option Value}{base:Heap}
theorem j4z(zs:List Str)(z:Str):zs.contains z=decide (z∈zs):=by
 rw [By,decide_eq_true_iff,Eu]
abbrev NLt:List Str:=["_law_rows","_law_found","_law_point","_law_row","_law_tie"]
theorem scLt:FnScope NLt ["_law_rows"] (j0f j71):=⟨rfl,rfl,rfl,by decide +kernel,rfl,by decide +kernel,by decide +kernel⟩
theorem k3r{kvs:List (Key×V)}{zs:List Str}(h:kvs.map (·.1)=zs.map Sum.inr)(z:Str)(v:V):(putK kvs (Sum.inr z) v).map (·.1)=(added zs z).map Sum.inr:=by
 rw [q5m,h];unfold added
 by_cases q:z∈zs
 ·rw [if_pos (Am.mpr ⟨z,q,rfl⟩),if_pos q]
 ·rw [if_neg,if_neg q,Al]
  ·rfl
  ·intro k;obtain⟨y,hy,e⟩:=Am.mp k;cases e;exact q hy
theorem k8b{f:Addr}{fd:FuncData}(F:Fun K "_law_ties" "_law_ties" j71 f fd)(T:Txt mg):FnOk P w K mg base CX0 1 f fd ["_law_rows"] spTs:=by
 refine F.gb scLt (fun vs H Q E h=>?_) (fun b0 H vs Q E hr h=>?_)
 ·obtain⟨R,as,n,rfl,_⟩:=h;rfl
 obtain⟨R,as,n,rfl,hR,hn,ht,hfew,q⟩:=h;have nd:=scLt.nd;have hal:=hR.len;have hu:=hr.u1;show Run _ _ _ [some (.ref R),none,none,none,none] H;refine j0i 1 nd (j7z fun d hd=>?_);have s0:=j0g hd (.dK []);have tsub:∀ r,r < n.length->∀ z,z∈ties (n.take r)\/z∈row n r->z∈ties n:=fun r hr' z hz=>by
  rw [j6t (k:=r+1),k43 hr']
  rcases hz with h | h <;> simp [h]
 refine j13 (ev_v 0 ⟨R,rfl,⟨_,SqL.of (s0 _ _ hR.lst)⟩,j1o (xs:=as.map fun a=>V.ref a.1) (fun r σ' H'=>(∃ v2 v3 v4,σ'=[some (.ref R),some (.ref d),v2,v3,v4])/\∃(kvs:List (Key×V)) (zs:List Str),Same H H'/\H' d=some (.dK kvs)/\kvs.map (·.1)=zs.map Sum.inr/\zs.Nodup/\∀ z,z∈zs↔z∈ties (n.take r)) ⟨⟨none,none,none,rfl⟩,[],[],s0,j0b,rfl,Cm,fun z=>Iff.rfl⟩ ?_ ?_ ?_⟩)
 ·rintro r σ' H' _ ⟨_,_,_,sm,_⟩;exact SqL.of (sm _ _ hR.lst)
 ·rintro r x σ' H' hx ⟨⟨v2,v3,v4,rfl⟩,kvs,zs,sm,eD,ek,zn,zm⟩;have hi:r < n.length:=by
   have:=(Ab.mp hx).1;rw [Aa] at this;omega
  obtain⟨a,ea,eat,et,el,er⟩:=(hR.same sm).at hi;rw [Ae,ea] at hx;cases hx;refine j21 rfl (SqT.of et) (j0n 2 nd (j0n 3 nd ?_));have naD:a.2≠d:=j11 el eD fun z=>nomatch z;show Run _ _ _ [some (.ref R),some (.ref d),some (.str n[r].1),some (.ref a.2),v4] H';refine j13 (ev_v 3 ⟨a.2,rfl,⟨_,SqL.of el⟩,j1o (xs:=(row n r).map V.str) (fun p σ' H''=>(∃ v4,σ'=[some (.ref R),some (.ref d),some (.str n[r].1),some (.ref a.2),v4])/\∃(kvs:List (Key×V)) (zs:List Str),(∀ b o,b≠d->H' b=some o->H'' b=some o)/\H'' d=some (.dK kvs)/\kvs.map (·.1)=zs.map Sum.inr/\zs.Nodup/\∀ z,z∈zs↔z∈ties (n.take r)\/z∈(row n r).take p) ⟨⟨_,rfl⟩,kvs,zs,fun b o _ h=>h,eD,ek,zn,fun z=>by rw [zm z];simp⟩ ?_ ?_ ?_⟩)
  ·rintro p σ' H'' _ ⟨_,_,_,kb,_⟩;exact SqL.of (kb _ _ naD el)
  ·rintro p x σ' H'' hx ⟨⟨v4,rfl⟩,kvs,zs,kb,eD6,ek6,zn6,zm6⟩;rw [Ae,Ar] at hx;obtain⟨z,hz,rfl⟩:=hx;have hl:zs.length < 64:=hfew zs zn6 fun y hy=>tsub r hi y (((zm6 y).mp hy).imp id fun h=>List.mem_of_mem_take h);have lk:kvs.length=zs.length:=by have:=congrArg List.length ek6;simpa using this
   refine j0n 4 nd ?_;refine j5j hu (k1w (ev_v 1 (ev_v 4 ⟨d,_,rfl,DPut.k (k:=Sum.inr z) eD6 (j03 (by omega)),j0j ⟨⟨_,rfl⟩,_,added zs z,fun b o hb h=>by rw [j0e hb];exact kb b o hb h,j0b,k3r ek6 z _,j5u zn6,fun y=>?_⟩⟩)));rw [j8l,zm6 y,Bz,hz,or_assoc];simp
  ·rintro σ' H'' ⟨⟨v4,rfl⟩,kvs,zs,kb,eD6,ek6,zn6,zm6⟩;refine j0j ⟨⟨_,_,_,rfl⟩,kvs,zs,fun b o h=>kb b o (j0h h hd) (sm _ _ h),eD6,ek6,zn6,fun z=>?_⟩;rw [zm6 z,Aa,Bw,k43 hi,Ba]
 ·rintro σ' H' ⟨⟨v2,v3,v4,rfl⟩,kvs,zs,sm,eD,ek,zn,zm⟩;rw [Aa,hal,Bw] at zm;refine j0l (j0u j5e T.sorted PyProof.Rows.boot_sorted (j0a (j48 (j6n rfl) T.tlist PyProof.Rows.boot_list (j0a (ev_v 1 (j0c ⟨d,kvs,rfl,.inl eD,fun l hl=>?_⟩))))));have ekv:(kvs.map fun p=>kV p.1)=zs.map V.str:=by
   rw [show(kvs.map fun p=>kV p.1)=(kvs.map (·.1)).map kV by rw [Cc];rfl,ek,Cc];rfl
  rw [ekv];have s2:=j0g hl (.lst (zs.map V.str));refine j0c ⟨l,zs,rfl,SqL.of j0b,hfew zs zn fun y hy=>(zm y).mp hy,fun l2 ss hl2 hp hs=>?_⟩;have s3:=j0g hl2 (.lst (ss.map V.str));exact q l2 ss _ (sm.trans (s2.trans s3)) (j0t (sm.trans s2) hl2) j0b (hp.nodup_iff.mpr zn) hs fun z=>by rw [hp.mem_iff,zm z]
abbrev NBy:List Str:=["_law_names_here","_law_big_here","_law_odd","_law_signs","_law_name","_law_rest","_law_k"]
theorem scBy:FnScope NBy ["_law_names_here","_law_big_here"] (j0f j4a):=⟨rfl,rfl,rfl,by decide +kernel,rfl,by decide +kernel,by decide +kernel⟩
theorem k8g{zs:List Str}(h:zs≠[])(i:Int):∃ z,atI (zs.map V.str) (i % (zs.length:Int))=some (.str z)/\z∈zs:=by
 have hp:0 < zs.length:=Bv.mpr h;have z0:0<=i % (zs.length:Int):=Av _ (by omega);have z1:i % (zs.length:Int) < zs.length:=Az _ (by omega);obtain⟨k,hk⟩:∃ k:Nat,i % (zs.length:Int)=k:=⟨(i % (zs.length:Int)).toNat,by omega⟩;rw [hk];exact⟨zs[k]'(by omega),j7t (Ac (by omega)),Cg _⟩
theorem k2c:∀ z∈odds,z.length<=100:=by decide +kernel
theorem k25{f:Addr}{fd:FuncData}(F:Fun K "_law_name_by" "_law_name_by" j4a f fd)(T:Txt mg):FnOk P w K mg base CX0 1 f fd ["_law_names_here","_law_big_here"] k22:=by
 refine F.gb scBy (fun vs H Q E h=>?_) (fun b0 H vs Q E hr h=>?_)
 ·obtain⟨L,zs,b,rfl,_⟩:=h;rfl
 obtain⟨L,zs,b,rfl,hL,hn,hzs,q⟩:=h;have nd:=scBy.nd;have un:=hr.u100;show Run _ _ _ [some (.ref L),some (.int b),none,none,none,none,none] H;refine j0i 2 nd (j1b (j0a (j04 (j0a (j04 (j0a (j0m k2v (j04 (j0d ⟨_,_,rfl,rfl,by decide,by decide,by decide,j0a (j04 (j0a (j04 (j0a (j04 (j0a (j04 (j0a (j04 (j0c ⟨(by show 8<=sizeLine;decide),fun od hod=>?_⟩))))))))))⟩)))))))));have s1:=j0g hod (.tup (odds.map V.str));have e1:(upd H od (.tup (odds.map V.str))) od=some (.tup (odds.map V.str)):=j0b;show Run _ _ _ [some (.ref L),some (.int b),some (.ref od),none,none,none,none] (upd H od (.tup (odds.map V.str)));generalize upd H od (.tup (odds.map V.str))=H1 at s1 e1;have h8:∀ i:Int,∃ z,atI (odds.map V.str) (i % 8)=some (.str z)/\z.length<=100:=fun i=>(k8g (zs:=odds) (by simp) i).imp fun z h=>⟨h.1,k2c z h.2⟩;refine j4c True True (fun R qq=>?_) (fun _=>?_) (fun _=>j0j ?_)
 ·exact j0v j3a (j0m j0x (ev_v 1 (j0d ⟨_,_,rfl,rfl,(by show(0:Int) < 8;decide),j0d ⟨rfl,_,rfl,qq _ (fun _=>trivial) fun _=>trivial⟩⟩)))
 ·obtain⟨z,hz,lz⟩:=h8 (b / 8);exact j0l (j0o j0p (ev_v 2 (j0m j0x (j0m j07 (ev_v 1 (j0d ⟨_,_,rfl,rfl,⟨by decide,by decide⟩,j0d ⟨_,_,rfl,rfl,(by show(0:Int) < 8;decide),od,_,_,_,rfl,rfl,SqT.of e1,hz,q z _ lz s1⟩⟩))))))
 show Run _ _ _ [some (.ref L),some (.int b),some (.ref od),none,none,none,none] H1;refine j37 (fun k H'=>Same H1 H'/\(k=true->zs≠[])) (fun σ' H'=>Same H1 H'/\σ'=[some (.ref L),some (.int b),some (.ref od),none,none,none,none]) ?_ ?_ (fun H5 h=>j0j ⟨h.1,rfl⟩) ?_
 ·refine j1k (j8t (j0v k17 (j0m j0x (ev_v 1 (j0d ⟨_,_,rfl,rfl,(by show(0:Int) < 8;decide),j0d ⟨_,_,rfl,rfl,_,rfl,?_⟩⟩)))));refine ite2 (fun _=>?_) (fun _=>⟨fun _ _ h=>h,fun h=>nomatch h⟩);refine j8t (j0v k67 (j0m j0x (ev_v 1 (j0d ⟨_,_,rfl,rfl,(by show(0:Int) < 8;decide),j0d ⟨_,_,rfl,rfl,_,rfl,?_⟩⟩))));refine ite2 (fun _=>?_) (fun _=>⟨fun _ _ h=>h,fun h=>nomatch h⟩);refine j7y (j0v (j40 un) (ev_v 0 (j1f (j0c ⟨(by show 0<=sizeLine;decide),fun p hp=>?_⟩))));have s5:=j0g hp (.lst []);have hL1:=s1 _ _ hL
  by_cases h0:zs=[]
  ·exact⟨1,_,by decide,j4f (k:=0) (xs:=[]) (ys:=[]) (fun _=>true) (SqL.of (by rw [s5 _ _ hL1,h0];rfl)) (SqL.of j0b) rfl (fun j x y hx _=>by simp at hx),_,rfl,s5,fun h=>by cases h⟩
  ·exact⟨1,_,by decide,j78 (k:=1) (SqL.of (s5 _ _ hL1)) (SqL.of (xs:=[]) j0b) (by rw [Aa];intro h;exact h0 (Bg.mp h)),_,rfl,s5,fun _=>h0⟩
 ·rintro H2 ⟨s2,h0⟩;obtain⟨z,hz,mz⟩:=k8g (h0 rfl) (b / 8);have hL2:=s2 _ _ (s1 _ _ hL);have hpos:0 < zs.length:=Bv.mpr (h0 rfl);refine j0l (j0o j0y (ev_v 0 (j0m j0x (j0m j07 (ev_v 1 (j0d ⟨_,_,rfl,rfl,⟨by decide,by decide⟩,j0u j0k T.len boot_len (j0a (ev_v 0 (j0c ⟨L,_,rfl,.inl (SqL.of hL2),?_⟩)))⟩))))));rw [Aa];exact⟨_,_,rfl,rfl,(by show(0:Int) < (zs.length:Int);omega),L,_,_,_,rfl,rfl,SqL.of hL2,hz,q z _ (hzs z mz) (s1.trans s2)⟩
 ·rintro σ' H2 ⟨s2,rfl⟩;have s12:=s1.trans s2;refine j0i 3 nd (j04 (j0i 4 nd (j04 (j0i 5 nd (j0m j07 (ev_v 1 (j0d ⟨_,_,rfl,rfl,⟨by decide,by decide⟩,?_⟩)))))));show Run _ _ _ [some (.ref L),some (.int b),some (.ref od),some (.str lets),some (.str ""),some (.int (b / 64)),none] H2;have z0:0<=b / 8 % 8:=Av _ (by decide);have z1:b / 8 % 8 < 8:=Az _ (by decide);refine j1i T.range (j0m j1z (j0d (j0m j0x (j0m j07 (ev_v 1 (j0d ⟨_,_,rfl,rfl,⟨by decide,by decide⟩,j0d ⟨_,_,rfl,rfl,(by show(0:Int) < 8;decide),_,_,rfl,rfl,_,rfl,by omega,by omega,?_⟩⟩))))));refine j1a (n:=(1+b / 8 % 8).toNat) (fun j σ H4=>H4=H2/\∃(x:Str) (i:Int) (u:Option V),x.length=j/\σ=[some (.ref L),some (.int b),some (.ref od),some (.str lets),some (.str x),some (.int i),u]) ⟨rfl,_,_,_,rfl,rfl⟩ ?_ ?_
  ·rintro j σ H4 hj ⟨rfl,x,i,u,lx,rfl⟩;refine j0n 6 nd ?_;refine j0i 4 nd (j0m j3x (ev_v 4 (j0o k3o (ev_v 3 (j0m j0x (ev_v 5 (j0d ⟨_,_,rfl,rfl,(by show(0:Int) < 36;decide),lets,_,sgn i,rfl,rfl,by decide +kernel,k09 _,_,_,rfl,rfl,small (by show x.length+1<=100000;omega),?_⟩)))))));refine j0i 5 nd (j0m j07 (ev_v 5 (j0d ⟨_,_,rfl,rfl,⟨by decide,by decide⟩,j0j ⟨rfl,_,_,_,?_,rfl⟩⟩)));rw [len_app,lx];rfl
  ·rintro σ H4 ⟨rfl,x,i,u,lx,rfl⟩;exact j0l (ev_v 4 (q x _ (by omega) s12))
abbrev NMt:List Str:=["_law_told","_law_due"]
theorem scMet:FnScope NMt ["_law_told","_law_due"] (j0f j95):=⟨rfl,rfl,rfl,by decide +kernel,rfl,by decide +kernel,by decide +kernel⟩
theorem q2b{f:Addr}{fd:FuncData}(F:Fun K "_law_met" "_law_met" j95 f fd)(T:Txt mg)(GS:Has P w K mg base 1 "_law_same" ["_law_told","_law_due"] k46):FnOk P w K mg base CX0 2 f fd ["_law_told","_law_due"] q0p:=by
 refine F.gb scMet (fun vs H Q E h=>?_) (fun b0 H vs Q E hr h=>?_)
 ·obtain⟨t,u,H0,H1,o,rfl,_⟩:=h;rfl
 obtain⟨t,u,H0,H1,o,rfl,ht,hu,q⟩:=h;have nd:=scMet.nd;show Run _ _ _ [some (.ref t),some (.ref u)] H;cases o with
 | inl x=>
  obtain⟨nx,et⟩:=ht;obtain⟨_,eu⟩:=hu;refine j1g (j0v k1l (j0o j0p (ev_v 1 (j0d ⟨u,_,_,.str x,rfl,rfl,SqT.of eu,rfl,j04 ⟨rfl,_,rfl,?_⟩⟩))));rw [decide_eq_false (fun k:V.str x=V.str ""=>nx (V.str.inj k))];refine iteT (j0l (j33 j3a (j0o j0p (ev_v 0 (j0d ⟨t,_,_,.str x,rfl,rfl,SqT.of et,rfl,j0o j0p (ev_v 1 (j0d ⟨u,_,_,.str x,rfl,rfl,SqT.of eu,rfl,rfl,?_⟩))⟩)))));rw [show decide (V.str x=V.str x)=true by simp];exact q
 | inr m=>
  obtain⟨L,bs,et,hL,_,_,hm⟩:=ht;obtain⟨L',cs,eu,hL',_⟩:=hu;refine j1g (j0v k1l (j0o j0p (ev_v 1 (j0d ⟨u,_,_,.str "",rfl,rfl,SqT.of eu,rfl,j04 ⟨rfl,_,rfl,?_⟩⟩))));rw [decide_eq_true (rfl:V.str "" = V.str "")];refine iteF (j0j (j0l (k29 (j33 j3a (j0o j0p (ev_v 0 (j0d ⟨t,_,_,.str "",rfl,rfl,SqT.of et,rfl,j04 ⟨rfl,_,rfl,?_⟩⟩)))))));rw [show decide (V.str "" = V.str "")=true by simp];exact iteT (j6i (j0s GS hr (j0a (j0o j0p (ev_v 0 (j0d ⟨t,_,_,.ref L,rfl,rfl,SqT.of et,rfl,j0a (j0o j0p (ev_v 1 (j0d ⟨u,_,_,.ref L',rfl,rfl,SqT.of eu,rfl,j0c ⟨L,L',bs,cs,m,rfl,hL,hL',hm.1,q⟩⟩)))⟩))))))
end
end J0
namespace Nt
open PySem L2
open PyProof.Rows (sortedS)
theorem j69{n:Net}(hn:(n.map (·.1)).Nodup){i j:Nat}(hi:i < n.length)(hj:j < n.length)(h:nmA n i=nmA n j):i=j:=by
 rw [j41 hi,j41 hj] at h;have:=(Ej.mp hn);rw [Bq] at this
 rcases Ed i j with q | q | q
 ·exact absurd (by rw [Db,Db];exact h) (this i j (by simpa using hi) (by simpa using hj) q)
 ·exact q
 ·exact absurd (by rw [Db,Db];exact h.symm) (this j i (by simpa using hj) (by simpa using hi) q)
end Nt
namespace L2
open PySem Nt
section
variable{X:Cx}{elt tg:Expr}{ifs:List Expr}{scope:Scope}{σ:St}{H:Hp}{N':List Str}{A:Addr}{after:Hp->Prop}
theorem k6t{lo:Int}{n:Nat}(Pv:Nat->St->Hp->Prop)(h0:Pv 0 σ H)
  (hs : ∀ i σ' H', i < n → Pv i σ' H' → CEg X N' scope tg (.int (lo + i)) σ' H' fun σ2 H3 => CEi X N' scope ifs σ2 H3 fun b H4 =>
   if b=true then CEv X N' scope elt σ2 H4 fun v H5=>∃ ys,H5 A=some (.lst ys)/\ys.length < sizeLine/\Pv (i+1) σ2 (upd H5 A (.lst (ys++[v]))) else Pv (i+1) σ2 H4)
  (hd:∀ σ' H',Pv n σ' H'->after H'):j9v X N' scope tg ifs elt (Itr lo n) A after σ H:=by
 refine⟨fun i m σ' H'=>m=n - i/\i<=n/\Pv i σ' H',⟨_,rfl,Bi _,h0⟩,?_⟩;rintro i m σ' H' ⟨rfl,hi,p⟩
 by_cases hlt:i < n
 ·refine .inr ⟨hlt,Pv (i+1),fun σ' H' p'=>⟨n - (i+1),by omega,rfl,hlt,p'⟩,fun x H2 y=>?_⟩;obtain⟨e,y⟩:=y;subst e y;exact hs i σ' _ hlt p
 ·have e:i=n:=by omega
  subst e;exact .inl ⟨Ag _,hd σ' H' p⟩
end
section
variable{X:Cx}{σ:St}{H:Hp}{Q:VK}{o e e1:Expr}{pos p1 p2 p3 p4:Pos}{j1:Nat}
end
end L2
namespace Nt
open PySem L2
open PyProof.Rows (sortedS)
end Nt
namespace Nt
open PySem L2
open Classical
end Nt
namespace Nt
open PySem L2
open Classical
end Nt
namespace Nt
open PySem L2
open Classical
section
variable{n:Net}{z:Str}
end
section
variable{H0 H:Hp}{d l0 a:Addr}{done:List (Str×End)}{kvs:List (Key×V)}{ks:List Str}{z:Str}{e:End}
end
end Nt
namespace Nt
open PySem L2
open Classical
def okc(c:Nat):Bool:=decide (c∈lets.cps.toList)
def isNm(z:Str):Bool:=decide (1<=z.length/\z.length<=8) && z.cps.toList.all okc
def AtC(n:Net)(p:Str)(j:Int)(e:End):Prop:=j1y n e/\nmA n e.1=p/\(e.2:Int)=j
theorem AtC.one{n:Net}(hN:(n.map (·.1)).Nodup){p:Str}{j:Int}{e g:End}(h:AtC n p j e)(k:AtC n p j g):e=g:=by
 obtain⟨h1,h2,h3⟩:=h;obtain⟨k1,k2,k3⟩:=k;exact Prod.ext (j69 hN h1.1 k1.1 (h2.trans k2.symm)) (by omega)
def j72(n:Net):Prop:=∃ ss:List Str,ss.Nodup/\(∀ z,z∈ss↔z∈ties n)/\40<=ss.length
theorem j8x{n:Net}{ss:List Str}(h:ss.Nodup)(m:∀ z,z∈ss↔z∈ties n):j72 n↔40<=ss.length:=by
 refine⟨fun⟨ts,t1,t2,t3⟩=>?_,fun k=>⟨ss,h,m,k⟩⟩;have:=j3v t1 fun z hz=>(m z).mpr ((t2 z).mp hz);omega
theorem corner_bare{nm:Str}{e:End}:j1y [(nm,[])] e↔e=(0,0):=by
 refine⟨fun h=>?_,fun h=>?_⟩
 ·obtain⟨h1,h2⟩:=h;have e1:e.1=0:=by have:e.1 < 1:=h1;omega
  rw [e1] at h2;have:e.2 < 1:=h2;exact Prod.ext e1 (by show e.2=0;omega)
 ·rw [h];exact⟨Fi,Fi⟩
theorem j4r{n:Net}(F:Full n):(∃ nm,n=[(nm,[])])\/(∀ e,j1y n e↔e∈ends n)/\ends n≠[]:=by
 rcases F with ⟨nm,h⟩ | ⟨h0,h1⟩
 ·exact .inl ⟨nm,h⟩
 ·have hp:0 < n.length:=Bv.mpr h0;have hr:=h1 0 hp;refine .inr ⟨fun e=>⟨fun h=>Full.corner (.inr ⟨h0,h1⟩) hr h,j6g⟩,fun k=>?_⟩;have:((0,0):End)∈ends n:=Full.corner (.inr ⟨h0,h1⟩) hr ⟨hp,by show 0 < max 1 _;omega⟩;rw [k] at this;cases this
end Nt
namespace L2
open PySem PySem.Spec PyProof.Rows Sort2
section
variable{X:Cx}{a b e:Expr}{es:List Expr}{σ:St}{H:Hp}{Q:VK}{pos p kp cp:Pos}{j:Nat}
theorem q2z(h:Ev X a σ H fun x H1=>∃ k,TruV X.K x H1 k/\if k=true then Q x H1 else Ev X (.BoolOp .Or (b :: es) pos) σ H1 Q):Ev X (.BoolOp .Or (a :: b :: es) pos) σ H Q:=by
 refine⟨fun pins s I=>?_⟩;refine BoolOp_or (thn (h.run pins s I) fun v s1 ⟨x,H1,I1,r1,k,tk,q1⟩=>?_);refine thn (k8t pins s1 σ H1 x v (fun c H2=>c=k/\H2=H1) I1 r1 ⟨k,tk,rfl,rfl⟩) fun c s2 ⟨H2,I2,ec,eH⟩=>?_;subst ec eH;cases c with
 | true=>exact⟨x,H2,I2,r1,q1⟩
 | false=>exact(show Ev X _ σ H2 Q from q1).run pins s2 I2
theorem k7u{op op':CmpOp}{r r':R2}{c:Expr}{T:Bool->Hp->Prop}(ho:OpR X (compareOp op) r)(ho':OpR X (compareOp op') r')(h:Ev X a σ H fun x H1=>Ev X b σ H1 fun y H2=>r x y H2 fun z H3=>∃ k,z = .bl k/\(if k=true then Ev X c σ H3 fun w' H4=>r' y w' H4 fun z H5=>∃ k,z = .bl k/\T k H5 else ∃ k,V.bl false = .bl k/\T k H3))
  (hm:lastMarks [op,op'] [b,c]=false:=by with_unfolding_all rfl):Et X (.Compare a [op,op'] [b,c] pos) σ H T:=k2a (k7m ho ho' j02 j02 j02 hm) h
theorem j5b:∀{ns:List Int} {us:List Value},Vals (ns.map V.int) us->IntsAre us ns
 | [],[],.nil=> .nil
 | n :: ns,u :: us,.cons r t=>by
  obtain⟨tk,rfl⟩:=(show ∃ t,u=Value.int n t from r);exact .cons _ _ (j5b t)
theorem j5c:∀{ns:List Int} {us:List Value},IntsAre us ns->Vals (ns.map V.int) us
 | [],[],.nil=> .nil
 | n :: ns,_ :: us,.cons _ _ t=> .cons ⟨_,rfl⟩ (j5c t)
theorem k1o(hm:X.mg "sorted" = none) (h:Ev X e σ H fun v H1=>∃ l ns,v = .ref l/\SqL X.K H1 l (ns.map V.int)/\ns.length < 64 /\
   ∀ r ns',H1 r=none->List.Perm ns' ns->ns'.Pairwise (·>=·)->Q (.ref r) (upd H1 r (.lst (ns'.map V.int)))) (hg:Gl X "sorted":=by rfl)
  (he:backTo pos (starEach [e] X.env)=(false,eval e X.env) :: backTo pos (starEach [] X.env):=by rfl) (hplain:(backTo pos (starEach [e] X.env)).any (·.1)=false:=by rfl) (hst:isStar e=false:=by rfl) :
  Ev X (.Call (.Name "sorted" p) [e] [⟨some "reverse",.Constant (.bool true) j cp,kp⟩] pos) σ H Q:=by
 refine⟨fun pins s I=>?_⟩;refine wpAny_Call_Name_kw (j47 I hg hm PyProof.Rows.boot_sorted ?_);have hE:Ea X [e] σ H fun vs H1=>∃ l ns,vs=[.ref l]/\SqL X.K H1 l (ns.map V.int)/\ns.length < 64 /\
   ∀ r ns',H1 r=none->List.Perm ns' ns->ns'.Pairwise (·>=·)->Q (.ref r) (upd H1 r (.lst (ns'.map V.int))):=
  j0a (h.mono fun v H1 ⟨l,ns,e1,r1⟩=>j0c ⟨l,ns,by rw [e1],r1⟩) hst
 refine callWith_kw (thn (hE.run pos pins s I) fun us s1 ⟨vs,H1,I1,r1,l,ns,ev,hl,h64,q⟩=>?_) he hplain;subst ev;obtain⟨u,rfl,ru⟩:=vals1 r1;cases (show u=Value.ref l from ru);refine kws_cons (wpAny_pure (kws_nil ?_));obtain⟨its,r2,pl,_⟩:=I1.list hl;have e1:=r2.length;rw [Aa] at e1;refine sorted_ints_rev pl.isList (j5b r2) (by omega) fun out ns' hO hpm hso=>?_;obtain⟨e,he⟩:=sortedAll_at s1.heap its out;have hlen:ns'.length<=sizeLine:=by rw [hpm.length_eq];rw [sizeLine_eq];omega
 exact⟨.ref _,_,I1.laid' (s':={s1 with heap:=sortedAll s1.heap its out}) (fun b u hb=>sortedAll_old hb) rfl rfl (Eh _) (show ObjOk X.prog X.w _ _ _ (.lst (ns'.map V.int)) from⟨by rw [Aa];exact hlen,out.toList,e,j5c hO,he⟩),rfl,q _ ns' (I1.hok.fresh (Eh _)) hpm hso⟩
end
end L2
namespace PySem
section
variable{prog:Program}{w:World}{K:Type} [DecidableEq K] {knd:HeapKind prog w K} {A:Around} {E:Value->Shared->Prop} {s:Shared}
end
end PySem
namespace L2
open PySem PySem.Spec PyProof.Rows
end L2
namespace L2
open PySem PySem.Spec PyProof.Rows
section
variable{X:Cx}{σ:St}{H:Hp}{Q:VK}{o e:Expr}{pos:Pos}
def eqR(c:Addr->Bool)(u:Value):Bool:=match u with
 | .ref a=>c a
 | _=>false
theorem k0m{c:Addr->Bool}:∀{as:List Addr} {us:List Value},Vals (as.map V.ref) us->us.any (eqR c)=as.any c
 | [],[],.nil=>rfl
 | a :: as,u :: us,.cons r t=>by
  cases (show u=Value.ref a from r);rw [Dk,Dk,k0m t];rfl
theorem j98{k:Nat}{x:V}{c:Addr->Bool}{pins:List (Addr×Obj)}{s:Shared}{A:Around}{v:Value}(I:Inv X pins σ H s)(hA:A.units+k < cLine)(rx:RelV x v) :
  ∀{as:List Addr} {us:List Value},Vals (as.map V.ref) us->(∀ a∈as,EqD X H k (.ref a) x (c a))->∀ u∈us,SeqAt.EqAt A s u v (eqR c u)
 | [],[],.nil,_=>fun u hu=>by cases hu
 | a :: as,u :: us,.cons r t,h=>fun u' hu=>by
  rcases Ao.mp hu with rfl | hu
  ·cases (show u'=Value.ref a from r);exact h a (Aw ..) pins σ s A _ _ I hA r rx
  ·exact j98 I hA rx t (fun b hb=>h b (Aq _ hb)) u' hu
theorem k2s(hu:X.A.units+100 < cLine):OpR X (compareOp .In) (fun x y H Q=>∃(p:Addr) (as:List Addr) (k:Nat) (c:Addr->Bool),y = .ref p/\SqL X.K H p (as.map V.ref)/\k < 99/\(∀ a∈as,EqD X H k (.ref a) x (c a))/\Q (.bl (as.any c)) H):=by
 intro pins s σ H x y v u Q I rx ry h;obtain⟨p,as,k,c,rfl,hq,hk,he,q⟩:=h;cases ry;obtain⟨its,r,pl,hz⟩:=I.list hq;refine SeqAt.in_listAt (eqR c) pl.isList (fun w hw=>j98 I (by show X.A.units+1+k < cLine;omega) rx r he w (by simpa using hw)) ⟨.bl _,H,I,rfl,?_⟩;rw [show its.toArray.any (eqR c)=its.any (eqR c) by simp,k0m r];exact q
theorem k32(hu:X.A.units+100 < cLine):OpR X (compareOp .NotIn) (fun x y H Q=>∃(p:Addr) (as:List Addr) (k:Nat) (c:Addr->Bool),y = .ref p/\SqL X.K H p (as.map V.ref)/\k < 99/\(∀ a∈as,EqD X H k (.ref a) x (c a))/\Q (.bl (!(as.any c))) H):=by
 intro pins s σ H x y v u Q I rx ry h;obtain⟨p,as,k,c,rfl,hq,hk,he,q⟩:=h;cases ry;obtain⟨its,r,pl,hz⟩:=I.list hq;refine SeqAt.notIn_listAt (eqR c) pl.isList (fun w hw=>j98 I (by show X.A.units+1+k < cLine;omega) rx r he w (by simpa using hw)) ⟨.bl _,H,I,rfl,?_⟩;rw [show its.toArray.any (eqR c)=its.any (eqR c) by simp,k0m r];exact q
end
end L2
namespace J0
open PySem L2 Nt Sort2 SetT
open PyProof.Rows (sortedS)
open Classical
def spIs(K:PySem.W.Frag):Sp:=fun vs H Q _=>∃ v,vs=[v] /\
 ((∃ z,v = .str z/\z.length<=100000/\∀ H',Same H H'->Q (.bl (isNm z)) H')\/∃ t,TyOf K H v t/\PySem.W.kitOne K t (.type "str")=some false/\Q (.bl false) H)
theorem k9h(K:PySem.W.Frag):PySem.W.kitOne K (.type "str") (.type "str")=some true:=by rfl
def spNC(c:Str->Addr):Sp:=fun vs H Q E=>∃(R t:Addr) (as:List (Addr×Addr)) (n:Net) (p:Str) (j:Int),vs=[.ref R,.ref t]/\RowsAt H R as n/\Full n/\n.length<=60/\(ties n).length<=100/\H t=some (Tn p j) /\
 ((¬ ∃ e,AtC n p j e)->∀ H',Same H H'->E (.ref (c "NoCorner")) none H')/\((∃ e,AtC n p j e)->∀ H',Same H H'->Q .non H')
def spNF(c:Str->Addr):Sp:=fun vs H Q E=>∃(L:Addr) (ss:List Str) (z:Str),vs=[.ref L,.str z]/\H L=some (Ls ss)/\ss.length<=1000/\z.length<=1000 /\
 ((z∈ss\/isNm z=false)->∀ H',Same H H'->E (.ref (c "Taken")) none H')/\(¬(z∈ss\/isNm z=false)->∀ H',Same H H'->Q .non H')
def spNR(c:Str->Addr):Sp:=fun vs H Q E=>∃(R:Addr) (as:List (Addr×Addr)) (n:Net),vs=[.ref R]/\RowsAt H R as n/\n.length<=60/\(ties n).length<=100/\Few n /\
 (j72 n->∀ H',Same H H'->E (.ref (c "TooMany")) none H')/\(¬ j72 n->∀ H',Same H H'->Q .non H')
def insA(z:Str)(l:List Str)(i:Int):List Str:=l.take i.toNat++z :: l.drop i.toNat
def dsc:List Int->List Int
 | [a,b]=>if b<=a then [a,b] else [b,a]
 | l=>l
theorem q22{ns ms:List Int}(h2:ns.length<=2)(p:ms.Perm ns)(s:ms.Pairwise (·>=·)):ms=dsc ns:=by
 match ns,h2 with
 | [],_=>exact List.perm_nil.mp p
 | [a],_=>exact List.perm_singleton.mp p
 | [a,b],_=>
  have l:=p.length_eq
  match ms,l with
  | [c,d],_=>
   have h1:c>=d:=by
    have:=List.pairwise_cons.mp s;exact this.1 d (by simp)
   have m1:=p.mem_iff (a:=a);have m2:=p.mem_iff (a:=b);have m3:=p.mem_iff (a:=c);have m4:=p.mem_iff (a:=d);simp at m1 m2 m3 m4;show _=if b<=a then [a,b] else [b,a]
   split
   ·have:c=a/\d=b:=by omega
    rw [this.1,this.2]
   ·have:c=b/\d=a:=by omega
    rw [this.1,this.2]
def spPI:Sp:=fun vs H Q _=>∃(a b:Addr) (xs:List Str) (ns:List Int) (z:Str),vs=[.ref a,.ref b,.str z]/\H a=some (Ls xs)/\H b=some (.lst (ns.map V.int))/\ns.length<=2/\xs.length<=1000/\(∀ i∈ns,0<=i/\i<=xs.length) /\
 ∀ L H',Same H H'->H L=none->H' L=some (Ls ((dsc ns).foldl (insA z) xs))->Q (.ref L) H'
theorem k7w(z:Str)(l:List Str)(i:Int):(insA z l i).length=l.length+1:=by
 unfold insA;rw [Af,Bd,Bt,Dm];omega
theorem k04(z:Str):∀(ns:List Int) (l:List Str),(ns.foldl (insA z) l).length=l.length+ns.length
 | [],l=>rfl
 | i :: ns,l=>by
  rw [Cs,k04 z ns,k7w,Bd];omega
def plC(cs:List (Str×Int))(x:Str):List Int:=(cs.filter fun c=>decide (c.1=x)).map (·.2)
def weR(n:Net)(cs:List (Str×Int))(z:Str)(i:Nat):Str×List Str:=(nmA n i,(dsc (plC cs (nmA n i))).foldl (insA z) (row n i))
def weK(n:Net)(cs:List (Str×Int))(z:Str)(k:Nat):Net:=(List.range k).map (weR n cs z)
theorem k7c{n:Net}{cs:List (Str×Int)}{z:Str}{k:Nat}:weK n cs z (k+1)=weK n cs z k++[weR n cs z k]:=by
 unfold weK;rw [Ec,Al];rfl
theorem k4d{n:Net}{cs:List (Str×Int)}{z:Str}{k:Nat}:(weK n cs z k).length=k:=by unfold weK;rw [Aa,Dp]
def CsAt(H:Hp)(C:Addr)(ts:List Addr)(cs:List (Str×Int)):Prop:=H C=some (.lst (ts.map V.ref))/\ts.length=cs.length/\∀(i:Nat) t c,ts[i]?=some t->cs[i]?=some c->H t=some (Tn c.1 c.2)
theorem CsAt.same{H H':Hp}{C:Addr}{ts:List Addr}{cs:List (Str×Int)}(h:CsAt H C ts cs)(s:Same H H'):CsAt H' C ts cs:=⟨s _ _ h.1,h.2.1,fun i t c a b=>s _ _ (h.2.2 i t c a b)⟩
def spWE:Sp:=fun vs H Q _=>∃(R C:Addr) (as:List (Addr×Addr)) (n:Net) (ts:List Addr) (cs:List (Str×Int)) (z:Str),vs=[.ref R,.ref C,.str z]/\RowsAt H R as n/\CsAt H C ts cs/\cs.length<=2/\n.length<=60/\(ties n).length<=100 /\
 (∀ c∈cs,∀ r,r < n.length->nmA n r=c.1->0<=c.2/\c.2<=((row n r).length:Int)) /\
 ∀ L bs H',Same H H'->H L=none->(∀ a∈bs,H a.1=none/\H a.2=none)->RowsAt H' L bs (weK n cs z n.length)->Q (.ref L) H'
theorem k3z{X:Cx}{H:Hp}{a t:Addr}{p p':Str}{j j':Int}(ha:H a=some (Tn p' j'))(ht:H t=some (Tn p j)):EqD X H 1 (.ref a) (.ref t) (decide (H a=some (Tn p j))):=by
 by_cases e:a=t
 ·subst e;rw [decide_eq_true ht];exact j5l
 ·have q:=k0t e (q15 (X:=X) ha ht);have e2:decide (p'=p/\j'=j)=decide (H a=some (Tn p j)):=by
   refine decide_eq_decide.mpr ⟨fun k=>by rw [ha,k.1,k.2],fun k=>?_⟩;rw [ha] at k;cases k;exact⟨rfl,rfl⟩
  rw [e2] at q;exact q
section
variable{P:Program}{w:World}{K:PySem.W.Frag}{mg:Str->Option Value}{base:Heap}
theorem scIs:FnScope ["thing"] ["thing"] (j0f j27):=⟨rfl,rfl,rfl,by decide +kernel,rfl,by decide +kernel,by decide +kernel⟩
theorem q4z{f:Addr}{fd:FuncData}(F:Fun K "is_name" "is_name" j27 f fd)(T:Txt mg):FnOk P w K mg base CX0 1 f fd ["thing"] (spIs K):=by
 refine F.gb scIs (fun vs H Q E h=>?_) (fun b0 H vs Q E hr h=>?_)
 ·obtain⟨v,rfl,_⟩:=h;rfl
 obtain⟨us,hs,rs⟩:=T.signs;obtain⟨um,hm,rm⟩:=T.most;obtain⟨v,rfl,h⟩:=h
 let X:Cx:=cxB ["thing"] "is_name" (j0f j27) P w K mg base b0
 show Run X _ _ [some v] H;refine j1g (j25 (j24 (j0u j4g T.isi PyProof.Rows.boot_isinstance (j0a (ev_v 0 (j0a (j4w (.ty "str") T.tstr PyProof.Rows.boot_str rfl (j0c ?_))))))))
 rcases h with ⟨z,rfl,hz,q⟩ | ⟨t,ty,e,q⟩
 ·refine⟨_,_,_,true,rfl,.str z,k9h K,true,rfl,iteF (j0j ?_)⟩;refine j1g (j1k (j3l (j0v k17 (j0u j3k T.len boot_len (j0a (ev_v 0 (j0c ⟨z,rfl,small hz,j0d ⟨_,_,rfl,rfl,_,rfl,?_⟩⟩)))))));refine ite2 (fun c=>?_) (fun c=>?_)
  ·have c':=of_decide_eq_true c;have e:isNm z=false:=by
    unfold isNm;rw [decide_eq_false (by omega)];rfl
   refine iteT (j0l (k1w ?_));have:=q H (Same.refl H);rw [e] at this;exact this
  ·have c':¬((z.length:Int) < 1):=fun h=>c (decide_eq_true h);refine j3g (j0v k67 (j0u j3k T.len boot_len (j0a (ev_v 0 (j0c ⟨z,rfl,small hz,j7r hm rm ⟨_,_,rfl,rfl,_,rfl,?_⟩⟩)))));refine ite2 (fun d=>?_) (fun d=>?_)
   ·have d':=of_decide_eq_true d;have e:isNm z=false:=by
     unfold isNm;rw [decide_eq_false (by omega)];rfl
    refine j0l (k1w ?_);have:=q H (Same.refl H);rw [e] at this;exact this
   ·have d':¬((8:Int) < (z.length:Int)):=fun h=>d (decide_eq_true h);refine j0j (j0l (j0u (k3g rfl) T.all PyProof.Rows.boot_all (j0a (j5q (j0f j27) ["thing"] ["thing","sign"] 1 (k8k j02) ?_))));refine ev_v 0 ⟨z,rfl,fun D hD=>?_⟩;refine k23 (x:= "sign") (σ:=[some (.str z)]) (fun c=> .bl (okc c)) (j03 (n:=z.cps.size) (by have:z.cps.size=z.length:=rfl;omega)) (fun _ _ _ _ _ v v0 H' R hR=>j0n 1 (show(["thing","sign"]:List Str).Nodup by decide +kernel) hR) (fun _ _ _ _ _ c H' R _ hR=>?_) ?_
    ·refine j33 k4n (ev_v 1 (j7r hs rs ⟨_,_,rfl,rfl,?_⟩));rw [StrLaws.found_one];exact hR
    ·refine j0c ⟨D,z.cps.toList.map okc,rfl,SqL.of (by rw [j0b,Cc];rfl),?_⟩;have e:isNm z=(z.cps.toList.map okc).all id:=by
      unfold isNm;rw [decide_eq_true (by omega),Bool.true_and,List.all_map];rfl
     have:=q _ (j0g hD (.lst (z.cps.toList.map fun c=>V.bl (okc c))));rw [e] at this;exact this
 ·exact⟨_,t,_,false,rfl,ty,e,false,rfl,iteT (j0l (k1w q))⟩
theorem q5l:FnScope ["rows"] ["rows"] (j0f j6e):=⟨rfl,rfl,rfl,by decide +kernel,rfl,by decide +kernel,by decide +kernel⟩
theorem q23{f:Addr}{fd:FuncData}(F:Fun K "ends_of" "ends_of" j6e f fd)(T:Txt mg)(GO:Has P w K mg base 2 "ends_in_order" ["rows"] k0p):FnOk P w K mg base CX0 3 f fd ["rows"] k0p:=by
 refine F.gb q5l (fun vs H Q E h=>?_) (fun b0 H vs Q E hr h=>?_)
 ·obtain⟨R,as,n,rfl,_⟩:=h;rfl
 obtain⟨R,as,n,rfl,h⟩:=h;show Run _ _ _ [some (.ref R)] H;exact j0l (j0s GO hr (j0a (ev_v 0 (j0c ⟨R,as,n,rfl,h⟩))))
abbrev NNC:List Str:=["rows","corner"]
theorem scNC:FnScope NNC ["rows","corner"] (j0f j2y):=⟨rfl,rfl,rfl,by decide +kernel,rfl,by decide +kernel,by decide +kernel⟩
theorem q4o{f:Addr}{fd:FuncData}{c:Str->Addr}(F:Fun K "need_corner" "need_corner" j2y f fd)(T:Txt mg)(cl:Cl K mg c)(GE:Has P w K mg base 3 "ends_of" ["rows"] k0p):FnOk P w K mg base (XF P w) 4 f fd ["rows","corner"] (spNC c):=by
 refine F.gx scNC (fun vs H Q E h=>?_) (fun b0 H vs Q hr h=>?_)
 ·obtain⟨R,t,as,n,p,j,rfl,_⟩:=h;rfl
 obtain⟨R,t,as,n,p,j,rfl,hR,hF,hn,hti,ht,qE,qQ⟩:=h;have un:=hr.u100;have mN:("NoCorner" : Str)∈xNames:=by decide
 show Run _ _ _ [some (.ref R),some (.ref t)] H;refine j1g (j0v (k32 un) (ev_v 1 (q2z (j0s GE hr (j0a (ev_v 0 (j0c ⟨R,as,n,rfl,hR,by omega,by omega,fun L ts H1 s1 n1 e1 at1=>⟨_,.inl ⟨_,SqL.of e1,rfl⟩,?_⟩⟩)))))));have lt1:=at1.1
 rcases j4r hF with ⟨nm,rfl⟩ | ⟨hC,hne⟩
 ·have e0:ts=[]:=Bg.mp lt1;subst e0;have hR1:=hR.same s1;obtain⟨a,ea,eat,et,el,er⟩:=hR1.at (i:=0) Fi;refine iteF (j6i (j1f (j0a (j1b (j0a (j0o j0p (j0o j0y (ev_v 0 (j0d ⟨R,_,_,.ref a.1,rfl,rfl,SqL.of hR1.lst,eat,j0d ⟨a.1,_,_,.str nm,rfl,rfl,SqT.of et,rfl,?_⟩⟩)))))))));refine j0a (j0d (j0c ⟨(by show 2<=sizeLine;decide),fun u hu=>j0c ⟨(by show 1<=sizeLine;decide),fun D hD=>?_⟩⟩));have s2:=j0g hu (Tn nm 0);have s3:=j0g hD (.lst [.ref u]);have eu:=s3 _ _ (show(upd H1 u (Tn nm 0)) u=some (Tn nm 0) from j0b);have s13:=s1.trans (s2.trans s3);refine⟨D,[u],1,fun b=>decide ((upd (upd H1 u (Tn nm 0)) D (.lst [.ref u])) b=some (Tn p j)),rfl,SqL.of j0b,by decide,fun b hb=>?_,_,rfl,?_⟩
  ·rw [Ah.mp hb];exact k3z eu (s13 _ _ ht)
  ·have key:([u].any fun b=>decide ((upd (upd H1 u (Tn nm 0)) D (.lst [.ref u])) b=some (Tn p j)))=decide (∃ e,AtC [(nm,[])] p j e):=by
    rw [Dk,List.any_nil,Bool.or_false,eu];refine decide_eq_decide.mpr ⟨fun k=>?_,fun⟨e,k1,k2,k3⟩=>?_⟩
    ·cases k;exact⟨(0,0),corner_bare.mpr rfl,rfl,rfl⟩
    ·rw [corner_bare.mp k1] at k2 k3;rw [<- k2,<- k3];rfl
   rw [key]
   by_cases ex:∃ e,AtC [(nm,[])] p j e
   ·rw [decide_eq_true ex];exact iteF (j0j (j0j (qQ ex _ s13)))
   ·rw [decide_eq_false ex];exact iteT (j2p rzX (cl.at' _ mN).1 (cl.at' _ mN).2.1 rfl (j0a (j04 (j0c ⟨(by show 1<=sizeLine;decide),qE ex _ s13⟩))))
 ·have sl:(j06 n).length=(ends n).length:=by unfold ends;rw [Aa]
  have hl0:0 < ts.length:=by
   have:=Bv.mpr hne;omega
  have e0:(!(ts.map V.ref).isEmpty)=true:=by
   cases ts with
   | nil=>cases hl0
   | cons x r=>rfl
  rw [e0];have sat:∀ u∈ts,∃ e,e∈ends n/\H1 u=some (TN n e):=fun u hu=>by
   obtain⟨i,hi⟩:=Bc hu;have hil:i < (j06 n).length:=by have:=(Ab.mp hi).1;omega
   exact⟨_,An (by unfold ends;rw [Ae,Ac hil];rfl),at1.2 i u _ hi (Ac hil)⟩
  refine iteT ⟨L,ts,1,fun b=>decide (H1 b=some (Tn p j)),rfl,SqL.of e1,by decide,fun b hb=>?_,_,rfl,?_⟩
  ·obtain⟨e,_,he⟩:=sat b hb;exact k3z he (s1 _ _ ht)
  ·have nmEq:∀ e:Nt.End,nameAt n e.1=nmA n e.1:=fun e=>rfl;have key:(ts.any fun b=>decide (H1 b=some (Tn p j)))=decide (∃ e,AtC n p j e):=by
    rw [By,Co,decide_eq_true_iff];refine⟨fun⟨b,hb,k⟩=>?_,fun⟨e,k1,k2,k3⟩=>?_⟩
    ·have k:=of_decide_eq_true k;obtain⟨e,he,q⟩:=sat b hb;rw [q] at k;have k2:=List.cons.inj (HO.tup.inj (Option.some.inj k));exact⟨e,(hC e).mpr he,V.str.inj k2.1,V.int.inj (List.cons.inj k2.2).1⟩
    ·have he:=(hC e).mp k1;obtain⟨i,hi⟩:=Bc he;have hil:i < ts.length:=by have:=(Ab.mp hi).1;omega
     have hi2:(j06 n)[i]?=some (j06 n)[i]:=Ac (by omega);have q:=at1.2 i ts[i] _ (Ac hil) hi2;unfold ends at hi;rw [Ae,hi2] at hi;have hi:(j06 n)[i].2=e:=Option.some.inj hi;rw [hi] at q;refine⟨ts[i],Cg hil,decide_eq_true ?_⟩;rw [q];show some (Tn (nmA n e.1) (e.2:Int))=_;rw [k2,k3]
   rw [key]
   by_cases ex:∃ e,AtC n p j e
   ·rw [decide_eq_true ex];exact iteF (j0j (j0j (qQ ex _ s1)))
   ·rw [decide_eq_false ex];exact iteT (j2p rzX (cl.at' _ mN).1 (cl.at' _ mN).2.1 rfl (j0a (j04 (j0c ⟨(by show 1<=sizeLine;decide),qE ex _ s1⟩))))
theorem scNF:FnScope ["names","new"] ["names","new"] (j0f j2c):=⟨rfl,rfl,rfl,by decide +kernel,rfl,by decide +kernel,by decide +kernel⟩
theorem q4n{f:Addr}{fd:FuncData}{c:Str->Addr}(F:Fun K "need_free_name" "need_free_name" j2c f fd)(T:Txt mg)(cl:Cl K mg c)(GI:Has P w K mg base 1 "is_name" ["thing"] (spIs K)):FnOk P w K mg base (XF P w) 2 f fd ["names","new"] (spNF c):=by
 refine F.gx scNF (fun vs H Q E h=>?_) (fun b0 H vs Q hr h=>?_)
 ·obtain⟨L,ss,z,rfl,_⟩:=h;rfl
 obtain⟨L,ss,z,rfl,hL,hs,hz,qE,qQ⟩:=h;have mN:("Taken" : Str)∈xNames:=by decide
 show Run _ _ _ [some (.ref L),some (.str z)] H;refine j1g (j1k (j3l (j0v j8k (ev_v 1 (ev_v 0 ⟨L,_,rfl,.inl (SqL.of hL),rfl,j84 _,_,rfl,?_⟩)))));rw [if_neg Ak,k08,j4z];refine ite2 (fun k=>?_) (fun k=>?_)
 ·exact iteT (j2p rzX (cl.at' _ mN).1 (cl.at' _ mN).2.1 rfl (j0a (j04 (j0c ⟨(by show 1<=sizeLine;decide),qE (.inl (of_decide_eq_true k)) _ (Same.refl H)⟩))))
 ·have k:z∉ss:=fun y=>k (decide_eq_true y);refine j3g (j25 (j24 (j0s GI hr (j0a (ev_v 1 (j0c ⟨_,rfl,.inl ⟨z,rfl,by omega,fun H' s=>⟨_,rfl,?_⟩⟩⟩))))));cases hg:isNm z with
  | true=>exact iteF (j0j (j0j (qQ (fun y=>y.elim k fun q=>by rw [hg] at q;cases q) _ s)))
  | false=>exact iteT (j2p rzX (cl.at' _ mN).1 (cl.at' _ mN).2.1 rfl (j0a (j04 (j0c ⟨(by show 1<=sizeLine;decide),qE (.inr hg) _ s⟩))))
theorem scNR:FnScope ["rows"] ["rows"] (j0f j39):=⟨rfl,rfl,rfl,by decide +kernel,rfl,by decide +kernel,by decide +kernel⟩
theorem q47{f:Addr}{fd:FuncData}{c:Str->Addr}(F:Fun K "need_room" "need_room" j39 f fd)(T:Txt mg)(cl:Cl K mg c)(GT:Has P w K mg base 1 "ties_of" ["rows"] spTs):FnOk P w K mg base (XF P w) 2 f fd ["rows"] (spNR c):=by
 refine F.gx scNR (fun vs H Q E h=>?_) (fun b0 H vs Q hr h=>?_)
 ·obtain⟨R,as,n,rfl,_⟩:=h;rfl
 obtain⟨R,as,n,rfl,hR,hn,ht,hfew,qE,qQ⟩:=h;obtain⟨um,hm,rm⟩:=T.forty;have mN:("TooMany" : Str)∈xNames:=by decide
 show Run _ _ _ [some (.ref R)] H;refine j1g (j0v q4r (j0u j0k T.len boot_len (j0a (j0s GT hr (j0a (ev_v 0 (j0c ⟨R,as,n,rfl,hR,by omega,by omega,hfew,fun L ss H1 s1 n1 e1 snd so mem=>j0c ⟨L,_,rfl,.inl (SqL.of e1),j7r hm rm ⟨_,_,rfl,rfl,_,rfl,?_⟩⟩⟩)))))));rw [Aa];have fi:=j8x snd mem
 by_cases k:j72 n
 ·have k2:(40:Int)<=(ss.length:Int):=by have:=fi.mp k;omega
  rw [decide_eq_true k2];exact iteT (j2p rzX (cl.at' _ mN).1 (cl.at' _ mN).2.1 rfl (j0a (j04 (j0c ⟨(by show 1<=sizeLine;decide),qE k _ s1⟩))))
 ·have k2:¬(40:Int)<=(ss.length:Int):=fun q=>k (fi.mpr (by omega));rw [decide_eq_false k2];exact iteF (j0j (j0j (qQ k _ s1)))
abbrev NPI:List Str:=["ties","places","tie","longer","place"]
theorem scPI:FnScope NPI ["ties","places","tie"] (j0f j77):=⟨rfl,rfl,rfl,by decide +kernel,rfl,by decide +kernel,by decide +kernel⟩
theorem q5s{f:Addr}{fd:FuncData}(F:Fun K "put_in" "put_in" j77 f fd)(T:Txt mg):FnOk P w K mg base CX0 1 f fd ["ties","places","tie"] spPI:=by
 refine F.gb scPI (fun vs H Q E h=>?_) (fun b0 H vs Q E hr h=>?_)
 ·obtain⟨a,b,xs,ns,z,rfl,_⟩:=h;rfl
 obtain⟨a,b,xs,ns,z,rfl,ha,hb,h2,hx,hin,q⟩:=h;have nd:=scPI.nd;show Run _ _ _ [some (.ref a),some (.ref b),some (.str z),none,none] H;refine j0i 3 nd (j48 j4y T.tlist PyProof.Rows.boot_list (j0a (ev_v 0 (j0c ⟨a,_,rfl,.inl (SqL.of ha),fun l hl=>?_⟩))));have s1:=j0g hl (Ls xs);have e1:(upd H l (Ls xs)) l=some (Ls xs):=j0b;show Run _ _ _ [some (.ref a),some (.ref b),some (.str z),some (.ref l),none] (upd H l (Ls xs));generalize upd H l (Ls xs)=H1 at s1 e1;refine j13 (k1o T.sorted (ev_v 1 ⟨b,ns,rfl,SqL.of (s1 _ _ hb),by omega,fun r ms hr2 pm pw=>⟨r,rfl,⟨_,SqL.of j0b⟩,?_⟩⟩));have s2:=j0g hr2 (.lst (ms.map V.int));have em:=q22 h2 pm pw;have lm:ms.length<=2:=by rw [pm.length_eq];exact h2
 have nrl:l≠r:=j0h e1 hr2;have er:(upd H1 r (.lst (ms.map V.int))) r=some (.lst (ms.map V.int)):=j0b;have el2:=s2 _ _ e1;generalize upd H1 r (.lst (ms.map V.int))=H2 at s2 er el2;refine j1o (xs:=ms.map V.int) (fun i σ H'=>(∃ u,σ=[some (.ref a),some (.ref b),some (.str z),some (.ref l),u])/\(∀ b o,b≠l->H2 b=some o->H' b=some o)/\H' l=some (Ls ((ms.take i).foldl (insA z) xs))) ⟨⟨_,rfl⟩,fun _ _ _ h=>h,el2⟩ ?_ ?_ ?_
 ·rintro i σ H' _ ⟨_,kb,_⟩;exact SqL.of (kb _ _ (Ne.symm nrl) er)
 ·rintro i x σ H' hx2 ⟨⟨u,rfl⟩,kb,el⟩;rw [Ae,Ar] at hx2;obtain⟨k,hk,rfl⟩:=hx2;have hil:i < ms.length:=(Ab.mp hk).1;obtain⟨k0,k1⟩:=hin k (pm.mem_iff.mp (An hk));have fl:=k04 z (ms.take i) xs;have lt:=Bt (i:=i) (l:=ms);refine j0n 4 nd ?_;refine j0z (j9w PySem.F.plainAttrs_list PySem.F.slot_list_insert PySem.F.type_list_insert j2q (ev_v 3 (v:= .ref l) ⟨Or.inl ⟨rfl,_,SqL.of el⟩,ev_v 4 (ev_v 2 ⟨l,_,k,.str z,rfl,rfl,el,k0,?_,?_,j0j ⟨⟨_,rfl⟩,fun b o hb h=>by rw [j0e hb];exact kb b o hb h,?_⟩⟩)⟩))
  ·rw [Aa,fl];omega
  ·rw [Aa,fl];exact j03 (by omega)
  ·rw [j0b,j63,Bz,hk,List.foldl_append];rfl
 ·rintro σ H' ⟨⟨u,rfl⟩,kb,el⟩;rw [Aa,Bw,em] at el;exact j0l (ev_v 3 (q l H' (fun b o h=>kb b o (j0h h hl) (s2 _ _ (s1 _ _ h))) hl el))
abbrev NWE:List Str:=["rows","corners","tie"]
abbrev NWE1:List Str:=["rows","corners","tie","point","ties"]
abbrev NWE2:List Str:=["rows","corners","tie","point","ties","at","place"]
theorem scWE:FnScope NWE ["rows","corners","tie"] (j0f j1x):=⟨rfl,rfl,rfl,by decide +kernel,rfl,by decide +kernel,by decide +kernel⟩
theorem k8x:NWE1.Nodup:=by decide +kernel
theorem k8l:NWE2.Nodup:=by decide +kernel
def q4e:Scope:=match j1v j1x with
 | .Return (some (.ListComp _ _ sc _)) _ :: _=>sc
 | _=>j0f j1x
def q4k:Scope:=relabel q4e (PyProof.Rows.envOfC "with_ends" (j0f j1x) 0 0 .none)
theorem q5c{f:Addr}{fd:FuncData}(F:Fun K "with_ends" "with_ends" j1x f fd)(T:Txt mg)(GP:Has P w K mg base 1 "put_in" ["ties","places","tie"] spPI):FnOk P w K mg base CX0 2 f fd ["rows","corners","tie"] spWE:=by
 refine F.gb scWE (fun vs H Q E h=>?_) (fun b0 H vs Q E hr h=>?_)
 ·obtain⟨R,C,as,n,ts,cs,z,rfl,_⟩:=h;rfl
 obtain⟨R,C,as,n,ts,cs,z,rfl,hR,hC,h2,hn,hti,hin,q⟩:=h;have hal:=hR.len;have lc:=hC.2.1;show Run _ _ _ [some (.ref R),some (.ref C),some (.str z)] H;refine j0l (k7l (j0f j1x) NWE NWE1 2 (j22 j02) (ev_v 0 ⟨R,rfl,⟨_,SqL.of hR.lst⟩,fun M hM=>?_⟩));refine j9o (xs:=as.map fun a=>V.ref a.1) (fun i σ' H'=>(∃ v1 v2,σ'=[some (.ref R),some (.ref C),some (.str z)]++[v1,v2])/\Same H H'/\∃ bs,Bld H H' M bs (weK n cs z i)) ⟨⟨none,none,rfl⟩,j0g hM _,[],Bld.nil j0b⟩ ?_ ?_ ?_
 ·rintro i σ' H' _ ⟨_,sm,_⟩;exact SqL.of (sm _ _ hR.lst)
 ·rintro i x σ' H' hx ⟨⟨v1,v2,rfl⟩,sm,bs,hB⟩;have hi:i < n.length:=by
   have:=(Ab.mp hx).1;rw [Aa] at this;omega
  obtain⟨a,ea,eat,et,el,er⟩:=(hR.same sm).at hi;rw [Ae,ea] at hx;cases hx;rw [<- j41 hi] at et;have bl:=hB.rows.len;have kl:=k4d (n:=n) (cs:=cs) (z:=z) (k:=i);have li:=q5p hi;intro cl' C' s₀ H₀ ex;refine j21 rfl (SqT.of et) (j0n 3 k8x (j0n 4 k8x ?_));intro cl' C' s₀ H₀ ex;refine j3c (iteT ?_);intro cl' C' s₀ H₀ ex;refine j1b (j0a (ev_v 3 (j0a (j0s GP hr (j0a (ev_v 4 (j0a (j5q q4k NWE1 NWE2 2 (j22 j02) (ev_v 1 ⟨C,rfl,⟨_,SqL.of (hC.same sm).1⟩,fun D hD=>?_⟩)))))))));refine j3t (xs:=ts.map V.ref) (fun k σ' H2=>(∃ v1 v2,σ'=[some (.ref R),some (.ref C),some (.str z),some (.str (nmA n i)),some (.ref a.2)]++[v1,v2])/\Same H' H2/\H2 D=some (.lst ((plC (cs.take k) (nmA n i)).map V.int))) ⟨⟨none,none,rfl⟩,j0g hD _,j0b⟩ ?_ ?_ ?_
  ·rintro k σ' H2 _ ⟨_,sm2,_⟩;exact SqL.of (hC.same (sm.trans sm2)).1
  ·rintro k x σ' H2 hx ⟨⟨v1,v2,rfl⟩,sm2,eD⟩;rw [Ae,Ar] at hx;obtain⟨t,ht,rfl⟩:=hx;have hk:k < cs.length:=by have:=(Ab.mp ht).1;omega
   have hck:cs[k]?=some cs[k]:=Ac hk;have etk:cs.take (k+1)=cs.take k++[cs[k]]:=by rw [Bz,hck];rfl
   have htc:=(hC.same (sm.trans sm2)).2.2 k t _ ht hck;generalize cs[k]=c at htc etk;have lp:(plC (cs.take k) (nmA n i)).length<=2:=by
    unfold plC;rw [Aa];exact Bs (Ex ..) (by rw [Bt];omega)
   intro cl' C' s₀ H₀ ex;refine j21 rfl (SqT.of htc) (j0n 5 k8l (j0n 6 k8l ?_));intro cl' C' s₀ H₀ ex;refine k8y (j0v j3a (ev_v 5 (ev_v 3 ⟨rfl,_,rfl,?_⟩)));have ek:decide (V.str c.1=V.str (nmA n i))=decide (c.1=nmA n i):=decide_eq_decide.mpr ⟨fun k=>V.str.inj k,fun k=>by rw [k]⟩;show if decide (V.str c.1=V.str (nmA n i))=true then _ else _;rw [ek,etk];unfold plC at eD lp ⊢;rw [List.filter_append,Al,Al];refine ite2 (fun y=>?_) (fun y=>⟨⟨_,_,rfl⟩,sm2,?_⟩)
   ·intro cl' C' s₀ H₀ ex;refine ev_v 6 ⟨_,eD,by rw [Aa];exact j03 (by omega),⟨_,_,rfl⟩,j1h sm2 hD,?_⟩;rw [j0b,Cv,if_pos y];rfl
   ·rw [Cv,if_neg y];show _=some (HO.lst (_++[]));rw [Bk];exact eD
  ·rintro σ' H2 ⟨_,sm2,eD⟩;rw [Aa,lc,Bw] at eD;have lp:(plC cs (nmA n i)).length<=2:=by
    unfold plC;rw [Aa];exact Bs (Ex ..) h2
   have pin:∀ k∈plC cs (nmA n i),0<=k/\k<=((row n i).length:Int):=fun k hk=>by
    unfold plC at hk;obtain⟨c,hc,rfl⟩:=Am.mp hk;obtain⟨hc1,hc2⟩:=Dg.mp hc;exact hin c hc1 i hi (of_decide_eq_true hc2).symm
   refine j0a (ev_v 2 (j0c ⟨a.2,D,row n i,_,z,rfl,sm2 _ _ el,eD,lp,by omega,pin,fun l H3 s3 nl e3=>j0c ⟨(by show 2<=sizeLine;decide),fun t ht=>?_⟩⟩));have sA:=sm.trans sm2;have sB:=sA.trans s3;have hB3:=hB.same (sm2.trans s3);have nl':H' l=none:=j0t sm2 nl;refine⟨bs.map fun a=>V.ref a.1,?_,?_,⟨_,_,rfl⟩,?_,bs++[(t,l)],?_⟩
   ·rw [j0e (fun e=>by rw [<- e,hB3.rows.lst] at ht;cases ht)];exact hB3.rows.lst
   ·rw [Aa];exact j03 (by omega)
   ·exact j1h (sB.trans (j0g ht _)) hM
   ·rw [k7c];exact hB3.add (p:=nmA n i) (l:=l) (t:=t) (zs:=(dsc (plC cs (nmA n i))).foldl (insA z) (row n i)) e3 (j0t sm nl') (fun k=>by
     obtain⟨a',ha',e'⟩:=Am.mp k;have:=(hB.in_heap ha').2;rw [e',nl'] at this;exact this rfl) (fun e=>by rw [e,hB.rows.lst] at nl';cases nl') ht (j0t sB ht)
 ·rintro σ' H' ⟨_,sm,bs,hB⟩;rw [Aa,hal] at hB;exact q M bs H' sm hM hB.new hB.rows
end
end J0
namespace Nt
open PySem L2
open Classical
theorem k3y{α:Type}(f:α->α)(a:α)(i:Nat):∀ j,it f (i+j) a=it f j (it f i a)
 | 0=>rfl
 | j+1=>by
  show f (it f (i+j) a)=f (it f j (it f i a));rw [k3y f a i j]
theorem k9z{n:Net}(T:j1s n){e:End}(h:e∈ends n):∀ i,it (step n) i e∈face n e:=by
 have F:=j59 T h;intro i
 induction i using Nat.strongRecOn with
 | _ i ih=>
  by_cases c:i < (face n e).length
  ·exact An (F.at' i c)
  ·have e1:i=(face n e).length+(i - (face n e).length):=by omega
   rw [e1,k3y,F.back];have:=F.pos;exact ih _ (by omega)
theorem j3s{n:Net}(T:j1s n){e x:End}(h:e∈ends n):x∈face n e↔∃ i,it (step n) i e=x:=by
 refine⟨fun k=>?_,fun⟨i,k⟩=>by rw [<- k];exact k9z T h i⟩;obtain⟨i,hi⟩:=Bc k;have hl:=(Ab.mp hi).1;rw [(j59 T h).at' i hl] at hi;exact⟨i,Option.some.inj hi⟩
theorem k4f{n:Net}(T:j1s n){e:End}(h:e∈ends n):e∈face n e:=(j3s T h).mpr ⟨0,rfl⟩
theorem k4s{n:Net}(T:j1s n){e x y:End}(h:e∈ends n)(hx:x∈face n e)(hy:y∈face n e):y∈face n x:=by
 have F:=j59 T h;have xe:=j6j T h x hx;obtain⟨i,hi⟩:=Bc hx;have hl:=(Ab.mp hi).1;rw [F.at' i hl] at hi;have hi:=Option.some.inj hi;obtain⟨j,hj⟩:=(j3s T h).mp hy;refine(j3s T xe).mpr ⟨((face n e).length - i)+j,?_⟩;rw [<- hi,<- k3y,show i+((face n e).length - i+j)=(face n e).length+j by omega,k3y,F.back,hj]
theorem j9y{n:Net}(T:j1s n):∀(es told:List End),(∀ e∈es,e∈ends n)->∀ x∈es,x∈told\/∃ w∈fcs n es told,x∈w
 | [],_,_,x,hx=>by cases hx
 | e :: r,told,h,x,hx=>by
  have hr:∀ a∈r,a∈ends n:=fun a ha=>h a (Aq _ ha);unfold fcs
  split
  ·rename_i c
   rcases Ao.mp hx with rfl | hx
   ·exact .inl c
   ·exact j9y T r told hr x hx
  ·rcases Ao.mp hx with rfl | hx
   ·exact .inr ⟨_,Aw ..,k4f T (h x (Aw ..))⟩
   ·rcases j9y T r (told++face n e) hr x hx with k | ⟨w,k1,k2⟩
    ·rcases Ba.mp k with k | k
     ·exact .inl k
     ·exact .inr ⟨_,Aw ..,k⟩
    ·exact .inr ⟨w,Aq _ k1,k2⟩
def OneF(n:Net)(e g:End):Prop:=e=g\/g∈face n e
theorem q1d{n:Net}(T:j1s n){e g:End}(he:e∈ends n)(ne:e≠g):(∃ w∈fac n,e∈w/\g∈w)↔OneF n e g:=by
 have h0:ends n≠[]:=fun k=>by rw [k] at he;cases he
 unfold fac;rw [if_neg h0];refine⟨fun⟨w,hw,h1,h2⟩=>?_,fun k=>?_⟩
 ·obtain⟨x,hx,rfl,_⟩:=j8o T (ends n) [] (fun _ h=>h) w hw;exact .inr (k4s T hx h1 h2)
 ·rcases k with k | k
  ·exact absurd k ne
  ·rcases j9y T (ends n) [] (fun _ h=>h) e he with q | ⟨w,hw,hew⟩
   ·cases q
   ·refine⟨w,hw,hew,?_⟩;obtain⟨x,hx,rfl,_⟩:=j8o T (ends n) [] (fun _ h=>h) w hw;obtain⟨i,hi⟩:=(j3s T hx).mp hew;obtain⟨j,hj⟩:=(j3s T he).mp k;exact(j3s T hx).mpr ⟨i+j,by rw [k3y,hi,hj]⟩
def lexE(e g:End):Bool:=if e.1=g.1 then decide (e.2 < g.2) else decide (e.1 < g.1)
def j1n(n:Net)(e g:End)(z:Str):Net:=if lexE e g=true then ins (ins n g z) e z else ins (ins n e z) g z
theorem j6p{n:Net}{e g:End}{z:Str}:(j1n n e g z).length=n.length:=by
 unfold j1n
 split <;> rw [j23,j23]
theorem j9f{n:Net}{e g:End}{z:Str}:(j1n n e g z).map (·.1)=n.map (·.1):=by
 unfold j1n
 split <;> rw [j3j,j3j]
theorem j94{n:Net}{e g:End}{z:Str}(he:e.1 < n.length)(hg:g.1 < n.length):(ties (j1n n e g z)).Perm (z :: z :: ties n):=by
 unfold j1n
 split
 ·exact(j2a _ e z (by rw [j23];exact he)).trans ((j2a n g z hg).cons z)
 ·exact(j2a _ g z (by rw [j23];exact hg)).trans ((j2a n e z he).cons z)
noncomputable def outT(n:Net)(p:Str)(j:Int)(p':Str)(j':Int)(z:Str):Out:=
 if h:∃ e,AtC n p j e then
  if k:∃ g,AtC n p' j' g then
   if OneF n h.choose k.choose then if z∈ties n\/isNm z=false then .inl "Taken" else if j72 n then .inl "TooMany" else .inr (j1n n h.choose k.choose z)
   else .inl "NoFace"
  else .inl "NoCorner"
 else .inl "NoCorner"
section
variable{n:Net}{p p':Str}{j j':Int}{z:Str}{e g:End}
theorem j7h(h:¬ ∃ e,AtC n p j e):outT n p j p' j' z = .inl "NoCorner":=by unfold outT;rw [dif_neg h]
theorem k02(h:∃ e,AtC n p j e)(k:¬ ∃ e,AtC n p' j' e):outT n p j p' j' z = .inl "NoCorner":=by unfold outT;rw [dif_pos h,dif_neg k]
theorem j7p(hN:(n.map (·.1)).Nodup)(he:AtC n p j e)(hg:AtC n p' j' g):outT n p j p' j' z=if OneF n e g then if z∈ties n\/isNm z=false then .inl "Taken" else if j72 n then .inl "TooMany" else .inr (j1n n e g z) else .inl "NoFace":=by
 have h:∃ e,AtC n p j e:=⟨e,he⟩;have k:∃ e,AtC n p' j' e:=⟨g,hg⟩;unfold outT;rw [dif_pos h,dif_pos k,AtC.one hN h.choose_spec he,AtC.one hN k.choose_spec hg]
theorem j9i(hN:(n.map (·.1)).Nodup)(he:AtC n p j e)(hg:AtC n p' j' g)(h:¬ OneF n e g):outT n p j p' j' z = .inl "NoFace":=by rw [j7p hN he hg,if_neg h]
theorem j7f(hN:(n.map (·.1)).Nodup)(he:AtC n p j e)(hg:AtC n p' j' g)(h:OneF n e g)(k:z∈ties n\/isNm z=false):outT n p j p' j' z = .inl "Taken":=by rw [j7p hN he hg,if_pos h,if_pos k]
theorem j9d(hN:(n.map (·.1)).Nodup)(he:AtC n p j e)(hg:AtC n p' j' g)(h:OneF n e g)(k:¬(z∈ties n\/isNm z=false))(f:j72 n):outT n p j p' j' z = .inl "TooMany":=by rw [j7p hN he hg,if_pos h,if_neg k,if_pos f]
theorem k01(hN:(n.map (·.1)).Nodup)(he:AtC n p j e)(hg:AtC n p' j' g)(h:OneF n e g)(k:¬(z∈ties n\/isNm z=false))(f:¬ j72 n):outT n p j p' j' z = .inr (j1n n e g z):=by rw [j7p hN he hg,if_pos h,if_neg k,if_neg f]
end
end Nt
namespace J0
open PySem L2 Nt Sort2 SetT
open PyProof.Rows (sortedS)
open Classical
theorem j30(z:Str)(l:List Str)(i:Nat):insA z l (i:Int)=l.take i++z :: l.drop i:=by
 unfold insA;rw [Au]
theorem q2r{n:Net}(hN:(n.map (·.1)).Nodup){p p':Str}{j j':Int}{z:Str}{e g:Nt.End}(h:AtC n p j e)(k:AtC n p' j' g):weK n [(p,j),(p',j')] z n.length=j1n n e g z:=by
 obtain⟨h1,h2,h3⟩:=h;obtain⟨k1,k2,k3⟩:=k;have lw:(weK n [(p,j),(p',j')] z n.length).length=n.length:=k4d;refine List.ext_getElem (by rw [lw,j6p]) fun i hi hi2=>?_;have hin:i < n.length:=by rw [lw] at hi;exact hi
 have e1:(weK n [(p,j),(p',j')] z n.length)[i]=weR n [(p,j),(p',j')] z i:=by
  simp only [weK,Db,Dy]
 rw [e1];have nme:(j1n n e g z)[i].1=nmA n i:=by
  have:=j9f (n:=n) (e:=e) (g:=g) (z:=z);have h1:((j1n n e g z).map (·.1))[i]?=(n.map (·.1))[i]?:=by rw [this]
  rw [Ae,Ae,Ac hi2,Ac hin] at h1;rw [j41 hin];exact Option.some.inj h1
 have rwe:(j1n n e g z)[i].2=row (j1n n e g z) i:=(j6v hi2).symm;have key:(dsc (plC [(p,j),(p',j')] (nmA n i))).foldl (insA z) (row n i)=row (j1n n e g z) i:=by
  have ce:(p=nmA n i)↔e.1=i:=⟨fun q=>j69 hN h1.1 hin (h2.trans q),fun q=>by rw [<- h2,q]⟩;have cg:(p'=nmA n i)↔g.1=i:=⟨fun q=>j69 hN k1.1 hin (k2.trans q),fun q=>by rw [<- k2,q]⟩;have r1:∀(c d:Nt.End),c.1 < n.length->d.1 < n.length->row (ins (ins n c z) d z) i=if d.1=i then(row (ins n c z) i).take d.2++z :: (row (ins n c z) i).drop d.2 else row (ins n c z) i:=fun c d hc hd=>j2d (ins n c z) d z i (by rw [j23];exact hd);unfold plC j1n;subst h3 k3
  by_cases c1:e.1=i <;> by_cases c2:g.1=i
  ·have q1:=ce.mpr c1;have q2:=cg.mpr c2;have f1:([(p,(e.2:Int)),(p',(g.2:Int))].filter fun c=>decide (c.1=nmA n i)).map (·.2)=[(e.2:Int),(g.2:Int)]:=by simp [q1,q2]
   rw [f1]
   by_cases lt:e.2 < g.2
   ·have l1:lexE e g=true:=by
     unfold lexE;rw [if_pos (c1.trans c2.symm)];exact decide_eq_true lt
    have d1:dsc [(e.2:Int),(g.2:Int)]=[(g.2:Int),(e.2:Int)]:=by
     show(if(g.2:Int)<=(e.2:Int) then _ else _)=_;rw [if_neg (by omega)]
    rw [d1,if_pos l1,r1 g e k1.1 h1.1,if_pos c1,j2d n g z i k1.1,if_pos c2];show insA z (insA z (row n i) (g.2:Int)) (e.2:Int)=_;rw [j30,j30]
   ·have l1:¬ lexE e g=true:=by
     unfold lexE;rw [if_pos (c1.trans c2.symm)];exact fun q=>lt (of_decide_eq_true q)
    have d1:dsc [(e.2:Int),(g.2:Int)]=[(e.2:Int),(g.2:Int)]:=by
     show(if(g.2:Int)<=(e.2:Int) then _ else _)=_;rw [if_pos (by omega)]
    rw [d1,if_neg l1,r1 e g h1.1 k1.1,if_pos c2,j2d n e z i h1.1,if_pos c1];show insA z (insA z (row n i) (e.2:Int)) (g.2:Int)=_;rw [j30,j30]
  ·have q1:=ce.mpr c1;have q2:¬ p'=nmA n i:=fun q=>c2 (cg.mp q);have f1:([(p,(e.2:Int)),(p',(g.2:Int))].filter fun c=>decide (c.1=nmA n i)).map (·.2)=[(e.2:Int)]:=by
    rw [Cv,if_pos (decide_eq_true q1),Cv,if_neg (by simpa using q2)];rfl
   rw [f1];show insA z (row n i) (e.2:Int)=_;rw [j30]
   split
   ·rw [r1 g e k1.1 h1.1,if_pos c1,j2d n g z i k1.1,if_neg c2]
   ·rw [r1 e g h1.1 k1.1,if_neg c2,j2d n e z i h1.1,if_pos c1]
  ·have q1:¬ p=nmA n i:=fun q=>c1 (ce.mp q);have q2:=cg.mpr c2;have f1:([(p,(e.2:Int)),(p',(g.2:Int))].filter fun c=>decide (c.1=nmA n i)).map (·.2)=[(g.2:Int)]:=by
    rw [Cv,if_neg (by simpa using q1),Cv,if_pos (decide_eq_true q2)];rfl
   rw [f1];show insA z (row n i) (g.2:Int)=_;rw [j30]
   split
   ·rw [r1 g e k1.1 h1.1,if_neg c1,j2d n g z i k1.1,if_pos c2]
   ·rw [r1 e g h1.1 k1.1,if_pos c2,j2d n e z i h1.1,if_neg c1]
  ·have q1:¬ p=nmA n i:=fun q=>c1 (ce.mp q);have q2:¬ p'=nmA n i:=fun q=>c2 (cg.mp q);have f1:([(p,(e.2:Int)),(p',(g.2:Int))].filter fun c=>decide (c.1=nmA n i)).map (·.2)=[]:=by
    rw [Cv,if_neg (by simpa using q1),Cv,if_neg (by simpa using q2)];rfl
   rw [f1];show row n i=_
   split
   ·rw [r1 g e k1.1 h1.1,if_neg c1,j2d n g z i k1.1,if_neg c2]
   ·rw [r1 e g h1.1 k1.1,if_neg c2,j2d n e z i h1.1,if_neg c1]
 exact Prod.ext nme.symm (by rw [rwe,<- key];rfl)
theorem k8m{n:Net}{e g:Nt.End}{z:Str}(he:e.1 < n.length)(hg:g.1 < n.length)(hn:n.length<=60)(ht:(ties n).length<=100):Sm (j1n n e g z):=by
 refine⟨by rw [j6p];omega,fun r hr=>?_⟩;have h1:r.2.length<=(ties (j1n n e g z)).length:=by
  obtain⟨i,hi,e1⟩:=Dc.mp hr;have:=j2r (j1n n e g z) i;rw [j6v hi,e1] at this;exact this
 have h2:=(j94 (z:=z) he hg).length_eq;rw [Bd,Bd] at h2;omega
def spOF(c:Str->Addr):Sp:=fun vs H Q E=>∃(R t u:Addr) (as:List (Addr×Addr)) (n:Net) (p p':Str) (j j':Int) (e g:Nt.End),vs=[.ref R,.ref t,.ref u]/\RowsAt H R as n/\(n.map (·.1)).Nodup/\j1s n/\Full n/\n.length<=60/\(ties n).length<=100/\H t=some (Tn p j)/\H u=some (Tn p' j')/\AtC n p j e/\AtC n p' j' g /\
 (¬ OneF n e g->∀ H',Same H H'->E (.ref (c "NoFace")) none H')/\(OneF n e g->∀ H',Same H H'->Q .non H')
def k4g(c:Str->Addr):Sp:=fun vs H Q E=>∃(R t u:Addr) (as:List (Addr×Addr)) (n:Net) (p p':Str) (j j':Int) (z:Str),vs=[.ref R,.ref t,.ref u,.str z]/\RowsAt H R as n/\(n.map (·.1)).Nodup/\j1s n/\Full n/\n.length<=60/\(ties n).length<=100/\Few n/\H t=some (Tn p j)/\H u=some (Tn p' j')/\z.length<=1000 /\
 (∀ x,outT n p j p' j' z = .inl x->∀ H',Same H H'->E (.ref (c x)) none H') /\
 ∀ m,outT n p j p' j' z = .inr m->∀ L bs H',Same H H'->H L=none->(∀ a∈bs,H a.1=none/\H a.2=none)->RowsAt H' L bs m->Sm m->Q (.ref L) H'
theorem k4m{n:Net}(hN:(n.map (·.1)).Nodup){H:Hp}{ts:List Addr}{w:List Nt.End}{p:Str}{j:Int}{e:Nt.End}(hE:AtE n H ts w)(hw:∀ c∈w,c∈ends n)(he:AtC n p j e) :
  (ts.any fun b=>decide (H b=some (Tn p j)))=decide (e∈w):=by
 have hl:=hE.1;rw [By,Co,decide_eq_true_iff];refine⟨fun⟨b,hb,k⟩=>?_,fun k=>?_⟩
 ·have k:=of_decide_eq_true k;obtain⟨i,hi⟩:=Bc hb;have hil:i < w.length:=by have:=(Ab.mp hi).1;omega
  have hwi:=Ac hil;have q:=hE.2 i b _ hi hwi;rw [q] at k;have k2:=List.cons.inj (HO.tup.inj (Option.some.inj k));have mw:=An hwi;have a:AtC n p j w[i]:=⟨j6g (hw _ mw),V.str.inj k2.1,V.int.inj (List.cons.inj k2.2).1⟩;rw [AtC.one hN he a];exact mw
 ·obtain⟨i,hi⟩:=Bc k;have hil:i < ts.length:=by have:=(Ab.mp hi).1;omega
  have q:=hE.2 i ts[i] e (Ac hil) hi;refine⟨ts[i],Cg hil,decide_eq_true ?_⟩;rw [q];show some (Tn (nmA n e.1) (e.2:Int))=_;rw [he.2.1,he.2.2]
section
variable{P:Program}{w:World}{K:PySem.W.Frag}{mg:Str->Option Value}{base:Heap}
abbrev NOf:List Str:=["rows","one","other"]
abbrev NOf':List Str:=["rows","one","other","face"]
theorem scOf:FnScope NOf ["rows","one","other"] (j0f j10):=⟨rfl,rfl,rfl,by decide +kernel,rfl,by decide +kernel,by decide +kernel⟩
theorem q2n:NOf'.Nodup:=by decide +kernel
theorem q4f{f:Addr}{fd:FuncData}{c:Str->Addr}(F:Fun K "need_one_face" "need_one_face" j10 f fd)(T:Txt mg)(cl:Cl K mg c)(GF:Has P w K mg base 4 "faces_of" ["rows"] j9t):FnOk P w K mg base (XF P w) 5 f fd ["rows","one","other"] (spOF c):=by
 refine F.gx scOf (fun vs H Q E h=>?_) (fun b0 H vs Q hr h=>?_)
 ·obtain⟨R,t,u,as,n,p,p',j,j',e,g,rfl,_⟩:=h;rfl
 obtain⟨R,t,u,as,n,p,p',j,j',e,g,rfl,hR,hN,hT,hF,hn,hti,ht,hu,he,hg,qE,qQ⟩:=h;have un:=hr.u100;have mN:("NoFace" : Str)∈xNames:=by decide
 show Run _ _ _ [some (.ref R),some (.ref t),some (.ref u)] H;refine j1g (j1k (j8t (j0v (j40 un) (ev_v 1 (ev_v 2 ⟨1,_,by decide,k8q ht hu,_,rfl,?_⟩)))))
 by_cases eq:p=p'/\j=j'
 ·rw [decide_eq_true eq];have:e=g:=by
   rw [<- eq.1,<- eq.2] at hg;exact AtC.one hN he hg
  exact iteF (iteF (j0j (j0j (qQ (.inl this) _ (Same.refl H)))))
 rw [decide_eq_false eq];have ne:e≠g:=fun q=>eq (by rw [<- he.2.1,<- hg.2.1,<- he.2.2,<- hg.2.2,q];exact⟨rfl,rfl⟩);have hee:e∈ends n:=by
  rcases j4r hF with ⟨nm,rfl⟩ | ⟨hC,_⟩
  ·exact absurd ((corner_bare.mp he.1).trans (corner_bare.mp hg.1).symm) ne
  ·exact(hC e).mp he.1
 have fl:=k9c n;have el:=j3z n;refine iteT (j7y (j25 (j24 (j0u (k3f rfl) T.any PyProof.Rows.boot_any (j0a (j5q (j0f j10) NOf NOf' 1 (j22 j02) (j0s GF hr (j0a (ev_v 0 (j0c ⟨R,as,n,rfl,hR,hN,hT,by omega,by omega,fun L ls H1 s1 nL hL fL=>⟨L,rfl,⟨_,SqL.of hL.lst⟩,fun D hD=>?_⟩⟩))))))))));have ll:=hL.len;refine j3t (xs:=ls.map V.ref) (fun i σ' H'=>(∃ v,σ'=[some (.ref R),some (.ref t),some (.ref u)]++[v])/\Same H1 H'/\H' D=some (.lst ((((fac n).take i).map fun w=>decide (e∈w) && decide (g∈w)).map V.bl))) ⟨⟨none,rfl⟩,j0g hD _,j0b⟩ ?_ ?_ ?_
 ·rintro i σ' H' _ ⟨_,sm,_⟩;exact SqL.of (sm _ _ hL.lst)
 ·rintro i x σ' H' hx ⟨⟨v,rfl⟩,sm,eD⟩;rw [Ae,Ar] at hx;obtain⟨l,hl,rfl⟩:=hx;have hil:i < (fac n).length:=by have:=(Ab.mp hl).1;omega
  have hwi:=Ac hil;have etk:(fac n).take (i+1)=(fac n).take i++[(fac n)[i]]:=by rw [Bz,hwi];rfl
  obtain⟨ts,elt,hE⟩:=(hL.same sm).at' i l _ hl hwi;have hwe:=(k65 hT _ (An hwi)).2;generalize (fac n)[i]=w at etk hE hwe;have ht1:=sm _ _ (s1 _ _ ht);have hu1:=sm _ _ (s1 _ _ hu);have eqs:∀{X:Cx} {q:Str} {k:Int} {r:Addr},H' r=some (Tn q k)->∀ b∈ts,EqD X H' 1 (.ref b) (.ref r) (decide (H' b=some (Tn q k))):=fun{X q k r} hr b hb=>by
   obtain⟨m,hm⟩:=Bc hb;have hl:=hE.1;have hml:m < w.length:=by have:=(Ab.mp hm).1;omega
   exact k3z (hE.2 m b _ hm (Ac hml)) hr
  intro cl' C' s₀ H₀ ex;refine j0n 3 q2n ?_;intro cl' C' s₀ H₀ ex;refine j3c (iteT ?_);intro cl' C' s₀ H₀ ex;refine k29 (j33 (k2s un) (ev_v 1 (ev_v 3 ⟨l,ts,1,_,rfl,SqL.of elt,by decide,eqs ht1,_,rfl,?_⟩)));rw [k4m hN hE hwe he];have fin:∀ b:Bool,b=(decide (e∈w) && decide (g∈w))->∃ ys,H' D=some (.lst ys)/\ys.length < sizeLine/\(∃ v,[some (V.ref R),some (.ref t),some (.ref u)]++[some (V.ref l)]=[some (V.ref R),some (.ref t),some (.ref u)]++[v])/\Same H1 (upd H' D (.lst (ys++[V.bl b])))/\(upd H' D (.lst (ys++[V.bl b]))) D=some (.lst ((((fac n).take (i+1)).map fun w=>decide (e∈w) && decide (g∈w)).map V.bl)):=fun b hb=>by
   refine⟨_,eD,by rw [Aa,Aa,Bt];exact j03 (by omega),⟨_,rfl⟩,j1h sm hD,?_⟩;rw [j0b,etk,Al,Al,hb];rfl
  refine ite2 (fun c1=>?_) (fun c1=>?_)
  ·refine j6i (j33 (k2s un) (ev_v 2 (ev_v 3 ⟨l,ts,1,_,rfl,SqL.of elt,by decide,eqs hu1,?_⟩)));rw [k4m hN hE hwe hg];exact fin _ (by rw [c1,Bool.true_and])
  ·exact fin _ (by rw [De.mpr c1,Bool.false_and])
 ·rintro σ' H' ⟨_,sm,eD⟩;rw [Aa,ll,Bw] at eD;refine j0c ⟨D,_,rfl,SqL.of eD,_,rfl,?_⟩;have key:((fac n).map fun w=>decide (e∈w) && decide (g∈w)).any id=decide (OneF n e g):=by
   rw [By,decide_eq_true_iff,<- q1d hT hee ne,List.any_map,Co];refine⟨fun⟨w,h1,h2⟩=>?_,fun⟨w,h1,h2,h3⟩=>⟨w,h1,?_⟩⟩
   ·have h2:(decide (e∈w) && decide (g∈w))=true:=h2;rw [Bh] at h2;exact⟨w,h1,of_decide_eq_true h2.1,of_decide_eq_true h2.2⟩
   ·show(decide (e∈w) && decide (g∈w))=true;rw [decide_eq_true h2,decide_eq_true h3];rfl
  rw [key]
  by_cases o:OneF n e g
  ·rw [decide_eq_true o];exact iteF (j0j (j0j (qQ o _ (s1.trans sm))))
  ·rw [decide_eq_false o];exact iteT (j2p rzX (cl.at' _ mN).1 (cl.at' _ mN).2.1 rfl (j0a (j04 (j0c ⟨(by show 1<=sizeLine;decide),qE o _ (s1.trans sm)⟩))))
abbrev NTd:List Str:=["rows","one","other","tie"]
theorem scTd:FnScope NTd ["rows","one","other","tie"] (j0f k38):=⟨rfl,rfl,rfl,by decide +kernel,rfl,by decide +kernel,by decide +kernel⟩
theorem q43{f:Addr}{fd:FuncData}{c:Str->Addr}(F:Fun K "tied" "tied" k38 f fd)(T:Txt mg)(cl:Cl K mg c)
  (GC:HasX P w K mg base 5 "need_corner" ["rows","corner"] (spNC c)) (GO:HasX P w K mg base 5 "need_one_face" ["rows","one","other"] (spOF c)) (GF:HasX P w K mg base 5 "need_free_name" ["names","new"] (spNF c)) (GR:HasX P w K mg base 5 "need_room" ["rows"] (spNR c))
  (GT:Has P w K mg base 5 "ties_of" ["rows"] spTs) (GW:Has P w K mg base 5 "with_ends" ["rows","corners","tie"] spWE) :
  FnOk P w K mg base (XF P w) 6 f fd ["rows","one","other","tie"] (k4g c):=by
 refine F.gx scTd (fun vs H Q E h=>?_) (fun b0 H vs Q hr h=>?_)
 ·obtain⟨R,t,u,as,n,p,p',j,j',z,rfl,_⟩:=h;rfl
 obtain⟨R,t,u,as,n,p,p',j,j',z,rfl,hR,hN,hT,hF,hn,hti,hfew,ht,hu,hz,qE,qQ⟩:=h;show Run _ _ _ [some (.ref R),some (.ref t),some (.ref u),some (.str z)] H;refine j0z (j5w GC hr k24 (j0a (ev_v 0 (j0a (ev_v 1 (j0c ⟨R,t,as,n,p,j,rfl,hR,hF,hn,hti,ht,fun ex=>qE _ (j7h ex),fun ex H1 s1=>?_⟩))))));refine j0z (j5w GC hr k24 (j0a (ev_v 0 (j0a (ev_v 2 (j0c ⟨R,u,as,n,p',j',rfl,hR.same s1,hF,hn,hti,s1 _ _ hu,fun ex2 H' s=>qE _ (k02 ex ex2) _ (s1.trans s),fun ex2 H2 s2=>?_⟩))))));obtain⟨e,he⟩:=ex;obtain⟨g,hg⟩:=ex2;have s12:=s1.trans s2;refine j0z (j5w GO hr k24 (j0a (ev_v 0 (j0a (ev_v 1 (j0a (ev_v 2 (j0c ⟨R,t,u,as,n,p,p',j,j',e,g,rfl,hR.same s12,hN,hT,hF,hn,hti,s12 _ _ ht,s12 _ _ hu,he,hg,fun o H' s=>qE _ (j9i hN he hg o) _ (s12.trans s),fun o H3 s3=>?_⟩))))))));have s13:=s12.trans s3;refine j0z (j5w GF hr k24 (j0a (j0s GT hr (j0a (ev_v 0 (j0c ⟨R,as,n,rfl,hR.same s13,by omega,by omega,hfew,fun L1 ss H4 s4 n4 e4 snd so mem=>?_⟩))))));have s14:=s13.trans s4;have lss:=hfew ss snd fun y hy=>(mem y).mp hy;refine j0a (ev_v 3 (j0c ⟨L1,ss,z,rfl,e4,by omega,hz,fun k H' s=>qE _ (j7f hN he hg o (k.imp (mem z).mp id)) _ (s14.trans s),fun k H5 s5=>?_⟩));have k1:¬(z∈ties n\/isNm z=false):=fun y=>k (y.imp (mem z).mpr id);have s15:=s14.trans s5;refine j0z (j5w GR hr k24 (j0a (ev_v 0 (j0c ⟨R,as,n,rfl,hR.same s15,hn,hti,hfew,fun k H' s=>qE _ (j9d hN he hg o k1 k) _ (s15.trans s),fun k3 H6 s6=>?_⟩))));have s16:=s15.trans s6;refine j0l (j0s GW hr (j0a (ev_v 0 (j0a (j1f (j0a (ev_v 1 (j0a (ev_v 2 (j0c ⟨(by show 2<=sizeLine;decide),fun C hC=>?_⟩))))))))));have s7:=j0g hC (.lst [.ref t,.ref u]);have s17:=s16.trans s7;have hCs:CsAt (upd H6 C (.lst [.ref t,.ref u])) C [t,u] [(p,j),(p',j')]:=⟨j0b,rfl,fun i x d h1 h2=>by
  match i with
  | 0=>cases h1;cases h2;exact s17 _ _ ht
  | 1=>cases h1;cases h2;exact s17 _ _ hu
  | i+2=>simp at h1⟩
 refine j0a (ev_v 3 (j0c ⟨R,C,as,n,[t,u],[(p,j),(p',j')],z,rfl,hR.same s17,hCs,by show 2<=2;omega,hn,hti,fun d hd r hr2 ed=>?_,fun L bs H8 s8 nL hnew hL=>?_⟩))
 ·have aux:∀{x:Str} {k:Int} {y:Nt.End},AtC n x k y->nmA n r=x->0<=k/\k<=((row n r).length:Int):=fun{x k y} hy er=>by
   have er:r=y.1:=j69 hN hr2 hy.1.1 (er.trans hy.2.1.symm);subst er;have h3:=hy.2.2;have h4:=hy.1.2;omega
  rcases Ao.mp hd with q | q
  ·rw [q] at ed ⊢;exact aux he ed
  ·rw [Ah.mp q] at ed ⊢;exact aux hg ed
 rw [q2r hN he hg] at hL;exact qQ _ (k01 hN he hg o k1 k3) L bs H8 (s17.trans s8) (j0t s17 nL) (fun a ha=>⟨j0t s17 (hnew a ha).1,j0t s17 (hnew a ha).2⟩) hL (k8m he.1.1 hg.1.1 hn hti)
end
end J0
namespace L2
open PySem PySem.Spec PyProof.Rows
section
variable{X:Cx}{σ:St}{H:Hp}{Q:VK}
theorem k5m:j2s X (.type "str") (fun xs H Q=>∃ i:Int,xs=[.int i]/\i.natAbs.log2 < 1920/\Q (.str (Str.ofString (toString i))) H):=by
 intro pins s σ H xs us Q I r h;obtain⟨i,rfl,hd,q⟩:=h;obtain⟨u,rfl,ru⟩:=vals1 r;obtain⟨t,rfl⟩:=ru;exact PySem.P.str_of_int hd ⟨.str _,H,I.tok _,⟨_,rfl⟩,q⟩
end
section
variable{X:Cx}{elt tg:Expr}{ifs:List Expr}{scope:Scope}{σ:St}{H:Hp}{N':List Str}{A a:Addr}{xs:List V}{after:Hp->Prop}
end
end L2
namespace J0
open PySem L2 Nt Sort2 SetT
open PyProof.Rows (sortedS)
open Classical
def spGd:Sp:=fun vs H Q _=>∃ z,vs=[.str z]/\z.length<=100000/\Q (.bl (isNm z)) H
def k0z:Sp:=fun vs H Q _=>∃(R t:Addr) (as:List (Addr×Addr)) (n:Net) (p:Str) (j:Int),vs=[.ref R,.ref t]/\RowsAt H R as n/\n.length<=60/\(ties n).length<=100/\H t=some (Tn p j) /\
 ((¬ ∃ e,AtC n p j e)->Q .non H)/\∀ e,AtC n p j e->∀ u H',Same H H'->H u=none->H' u=some (Tp e)->Q (.ref u) H'
def spCB:Sp:=fun vs H Q _=>∃(R:Addr) (as:List (Addr×Addr)) (n:Net) (b:Int),vs=[.ref R,.int b]/\RowsAt H R as n/\(n.map (·.1)).Nodup/\n≠[]/\n.length<=60/\(ties n).length<=100/\Short n /\
 ∀ t p j H',Same H H'->H' t=some (Tn p j)->Q (.ref t) H'
def fnm(s:Int)(k:Nat):Str:=("t" : Str)++Str.ofString (toString ((s+7 * (k:Int)) % 40))
def fnms(s:Int)(m:Nat):List Str:=(List.range m).map (fnm s)
theorem q2x:∀ i:Fin 40,∀ j:Fin 40,Str.ofString (toString ((i.1:Nat):Int))=Str.ofString (toString ((j.1:Nat):Int))->i=j:=by decide +kernel
theorem q4p:∀ i:Fin 40,(("t" : Str)++Str.ofString (toString ((i.1:Nat):Int))).length<=8:=by decide +kernel
theorem q0t(x:Int):∃ i:Fin 40,x % 40=((i.1:Nat):Int):=by
 have h0:0<=x % 40:=Av _ (by decide);have h1:x % 40 < 40:=Az _ (by decide);exact⟨⟨(x % 40).toNat,by omega⟩,by show _=(((x % 40).toNat:Nat):Int);omega⟩
theorem k3m(s:Int)(k:Nat):(fnm s k).length<=8:=by
 unfold fnm;obtain⟨i,hi⟩:=q0t (s+7 * (k:Int));rw [hi];exact q4p i
theorem q0y{s:Int}{k l:Nat}(hk:k < 40)(hl:l < 40)(h:fnm s k=fnm s l):k=l:=by
 unfold fnm at h;obtain⟨i,hi⟩:=q0t (s+7 * (k:Int));obtain⟨j,hj⟩:=q0t (s+7 * (l:Int));rw [hi,hj] at h;have e:Str.ofString (toString ((i.1:Nat):Int))=Str.ofString (toString ((j.1:Nat):Int)):=by
  have h2:(("t" : Str)++Str.ofString (toString ((i.1:Nat):Int))).cps.toList=(("t" : Str)++Str.ofString (toString ((j.1:Nat):Int))).cps.toList:=by rw [h]
  rw [app_list,app_list] at h2;have h3:=List.append_cancel_left h2;have h4:∀ x y:Str,x.cps.toList=y.cps.toList->x=y:=fun x y q=>by
   cases x;cases y;simp only [Str.mk.injEq];exact Array.toList_inj.mp q
  exact h4 _ _ h3
 have:=q2x i j e;subst this;omega
theorem k16(s:Int):(fnms s 40).Nodup:=by
 unfold fnms;refine List.Pairwise.map _ (R:=fun i j=>i < j/\j < 40) ?_ ?_
 ·rintro i j ⟨h1,h2⟩ e;have:=q0y (by omega) (by omega) e;omega
 ·rw [Bq];intro i j hi hj hij;simp only [Dy];simp at hj;exact⟨hij,hj⟩
theorem j4i(s:Int)(m:Nat):(fnms s m).length=m:=by unfold fnms;simp
theorem k5v(s:Int)(m:Nat):fnms s (m+1)=fnms s m++[fnm s m]:=by
 unfold fnms;rw [Ec,Al];rfl
structure Lawn(n:Net):Prop where
 two:j1s n
 nod:(n.map (·.1)).Nodup
 full:Full n
 len:n.length<=60
 tie:(ties n).length<=100
 few:Few n
 short:Short n
def q0i:Sp:=fun vs H Q _=>∃ s:Int,vs=[.int s]/\∀ L as n H',Same H H'->H L=none->RowsAt H' L as n->Lawn n->Q (.ref L) H'
def spRB(K:PySem.W.Frag):Sp:=fun vs H Q _=>∃(a:Addr) (ns:List Int),vs=[.ref a,.int 16]/\SqL K H a (ns.map V.int)/\∀ L as n H',Same H H'->H L=none->RowsAt H' L as n->Lawn n->Q (.ref L) H'
theorem ins_perm{zs:List Str}{i:Nat}{z:Str}:(zs.take i++z :: zs.drop i).Perm (z :: zs):=by
 refine Fd.trans ?_;rw [Ck]
section
variable{P:Program}{w:World}{K:PySem.W.Frag}{mg:Str->Option Value}{base:Heap}
abbrev NGd:List Str:=["_law_name","_law_sign"]
theorem scGd:FnScope NGd ["_law_name"] (j0f j35):=⟨rfl,rfl,rfl,by decide +kernel,rfl,by decide +kernel,by decide +kernel⟩
theorem q5i{f:Addr}{fd:FuncData}(F:Fun K "_law_is_good" "_law_is_good" j35 f fd)(T:Txt mg):FnOk P w K mg base CX0 1 f fd ["_law_name"] spGd:=by
 refine F.gb scGd (fun vs H Q E h=>?_) (fun b0 H vs Q E hr h=>?_)
 ·obtain⟨z,rfl,_⟩:=h;rfl
 obtain⟨z,rfl,hz,q⟩:=h;have nd:=scGd.nd;show Run _ _ _ [some (.str z),none] H;refine k7o (ev_v 0 ⟨z,rfl,k6f (fun i σ H'=>H'=H/\(∃ u,σ=[some (.str z),u])/\(z.cps.toList.take i).all okc=true) ⟨rfl,⟨_,rfl⟩,rfl⟩ ?_ ?_⟩)
 ·rintro i c σ H' hc ⟨rfl,⟨u,rfl⟩,ha⟩;have hc':z.cps.toList[i]?=some c:=by rw [Bn];exact hc
  refine j0n 1 nd ?_;refine j1g (j0v j9e (ev_v 1 (j04 ⟨_,_,rfl,rfl,_,rfl,?_⟩)));rw [StrLaws.found_one];show if(!(okc c))=true then _ else _;cases ho:okc c with
  | false=>
   refine iteT (j0l (k1w ?_));have e:isNm z=false:=by
    unfold isNm;rw [Bool.and_eq_false_iff];refine .inr (De.mpr fun k=>?_);rw [Ci] at k;have:=k c (An hc');rw [ho] at this;cases this
   rw [e] at q;exact q
  | true=>
   refine iteF (j0j (j0j ⟨rfl,⟨_,rfl⟩,?_⟩));rw [Bz,hc',List.all_append,ha];show(true && (okc c && true))=true;rw [ho];rfl
 ·rintro σ H' ⟨rfl,⟨u,rfl⟩,ha⟩;have e0:z.cps.toList.take z.cps.size=z.cps.toList:=Cw (by simp);rw [e0] at ha;have e:isNm z=decide (1<=z.length/\z.length<=8):=by
   unfold isNm;rw [ha,Bool.and_true]
  rw [e] at q;refine j0l (k78 k17 k17 (j0d (j0u j3k T.len boot_len (j0a (ev_v 0 (j0c ⟨z,rfl,small hz,_,_,rfl,rfl,_,rfl,?_⟩))))))
  by_cases h0:z.length=0
  ·have k:¬((0:Int) < (z.length:Int)):=by omega
   rw [decide_eq_false k];refine iteF ?_;rw [decide_eq_false (by omega)] at q;exact q
  ·have k:((0:Int) < (z.length:Int)):=by omega
   rw [decide_eq_true k];refine iteT (j0d ⟨_,_,rfl,rfl,?_⟩);have e2:decide (((z.length:Int)) < 9)=decide (1<=z.length/\z.length<=8):=decide_eq_decide.mpr (by omega);show Q (.bl (decide ((z.length:Int) < 9))) H';rw [e2];exact q
abbrev NSt:List Str:=["_law_rows","_law_corner","_law_r"]
theorem scSt:FnScope NSt ["_law_rows","_law_corner"] (j0f j7g):=⟨rfl,rfl,rfl,by decide +kernel,rfl,by decide +kernel,by decide +kernel⟩
theorem q0z{f:Addr}{fd:FuncData}(F:Fun K "_law_spot" "_law_spot" j7g f fd)(T:Txt mg):FnOk P w K mg base CX0 1 f fd ["_law_rows","_law_corner"] k0z:=by
 refine F.gb scSt (fun vs H Q E h=>?_) (fun b0 H vs Q E hr h=>?_)
 ·obtain⟨R,t,as,n,p,j,rfl,_⟩:=h;rfl
 obtain⟨R,t,as,n,p,j,rfl,hR,hn,hti,ht,qN,qS⟩:=h;have nd:=scSt.nd;have hal:=hR.len;show Run _ _ _ [some (.ref R),some (.ref t),none] H;refine j1i T.range (j0u j0k T.len boot_len (j0a (ev_v 0 (j0c ⟨R,_,rfl,.inl (SqL.of hR.lst),_,rfl,by omega,by rw [Aa];omega,?_⟩))));rw [Aa,hal,Au];refine j1a (fun r σ H'=>H'=H/\(∃ u,σ=[some (.ref R),some (.ref t),u])/\∀ e,AtC n p j e->¬ e.1 < r) ⟨rfl,⟨_,rfl⟩,fun e _ h=>by omega⟩ ?_ ?_
 ·rintro r σ H' hi ⟨rfl,⟨u,rfl⟩,no⟩;rw [Cq];obtain⟨a,ea,eat,et,el,er⟩:=hR.at hi;rw [<- j41 hi] at et;refine j0n 2 nd ?_;refine j37 (fun k H4=>H4=H'/\(k=true->AtC n p j (r,j.toNat))/\(k=false->¬ AtC n p j (r,j.toNat))) (fun σ' H4=>H4=H'/\σ'=[some (.ref R),some (.ref t),some (.int (r:Int))]/\¬ AtC n p j (r,j.toNat)) ?_ ?_ (fun H4 h=>j0j ⟨h.1,rfl,h.2.2 rfl⟩) ?_
  ·refine j1k (j8t (j0v j3a (j0o j0p (j0o j0y (ev_v 0 (ev_v 2 ⟨R,_,_,.ref a.1,rfl,rfl,SqL.of hR.lst,eat,j0d ⟨a.1,_,_,.str (nmA n r),rfl,rfl,SqT.of et,rfl,j0o j0p (ev_v 1 (j0d ⟨t,_,_,.str p,rfl,rfl,SqT.of ht,rfl,rfl,_,rfl,?_⟩))⟩⟩))))));have e1:decide (V.str (nmA n r)=V.str p)=decide (nmA n r=p):=decide_eq_decide.mpr ⟨fun k=>V.str.inj k,fun k=>by rw [k]⟩;show if decide (V.str (nmA n r)=V.str p)=true then _ else _;rw [e1];refine ite2 (fun k1=>?_) (fun k1=>⟨rfl,(fun z=>nomatch z),fun _ h=>k1 (decide_eq_true h.2.1)⟩);have k1:=of_decide_eq_true k1;refine j7y (k7u q5h k17 (j0d (j0o j0p (ev_v 1 (j0d ⟨t,_,_,.int j,rfl,rfl,SqT.of ht,rfl,_,_,rfl,rfl,_,rfl,?_⟩)))));refine ite2 (fun k2=>?_) (fun k2=>⟨_,rfl,rfl,(fun z=>nomatch z),fun _ h=>k2 (decide_eq_true (by have h3:((j.toNat:Nat):Int)=j:=h.2.2;omega))⟩);have k2:=of_decide_eq_true k2;refine j0u (j3h rfl) T.max PyProof.Rows.boot_max (j0a (j0d (j0a (j0u j0k T.len boot_len (j0a (j0o j0p (j0o j0y (ev_v 0 (ev_v 2 ⟨R,_,_,.ref a.1,rfl,rfl,SqL.of hR.lst,eat,j0d ⟨a.1,_,_,.ref a.2,rfl,rfl,SqT.of et,rfl,j0c ⟨a.2,_,rfl,.inl (SqL.of el),?_⟩⟩⟩)))))))));rw [Aa];have em:(if((row n r).length:Int) > 1 then((row n r).length:Int) else 1)=((max 1 (row n r).length:Nat):Int):=by
    split <;> omega
   refine j0c ⟨1,_,rfl,?_⟩;rw [em];refine⟨_,_,rfl,rfl,_,rfl,rfl,fun k=>?_,fun k h=>?_⟩
   ·have k:=of_decide_eq_true k;exact⟨⟨hi,by show j.toNat < max 1 (row n r).length;omega⟩,k1,by show((j.toNat:Nat):Int)=j;omega⟩
   ·have k:=of_decide_eq_false k;have h2:j.toNat < max 1 (row n r).length:=h.1.2;omega
  ·rintro H4 ⟨rfl,k,_⟩;have hA:=k rfl;refine j0l (j1b (j0a (ev_v 2 (j0a (j0o j0p (ev_v 1 (j0d ⟨t,_,_,.int j,rfl,rfl,SqT.of ht,rfl,j0c ⟨(by show 2<=sizeLine;decide),fun v hv=>?_⟩⟩)))))));refine qS (r,j.toNat) hA v _ (j0g hv _) hv ?_;have h3:((j.toNat:Nat):Int)=j:=hA.2.2;rw [j0b];show some (HO.tup [V.int (r:Int),V.int j])=some (HO.tup [V.int (r:Int),V.int ((j.toNat:Nat):Int)]);rw [h3]
  ·rintro σ' H4 ⟨rfl,rfl,no2⟩;refine j0j ⟨rfl,⟨_,rfl⟩,fun e he hlt=>?_⟩
   by_cases c:e.1=r
   ·have h3:=he.2.2;have:e=(r,j.toNat):=Prod.ext c (by show e.2=j.toNat;omega);rw [this] at he;exact no2 he
   ·exact no e he (by omega)
 ·rintro σ H' ⟨rfl,⟨u,rfl⟩,no⟩;exact j0l (j3n (qN fun⟨e,he⟩=>no e he he.1.1))
abbrev NCb:List Str:=["_law_rows","_law_big_here","_law_corners","_law_point","_law_row","_law_place","_law_corner","_law_far"]
theorem scCb:FnScope NCb ["_law_rows","_law_big_here"] (j0f j2z):=⟨rfl,rfl,rfl,by decide +kernel,rfl,by decide +kernel,by decide +kernel⟩
def AtP(n:Net)(H:Hp)(ts:List Addr):Prop:=∀ t∈ts,∃ r,r < n.length/\∃ j:Int,H t=some (Tn (nmA n r) j)
theorem q4h{f:Addr}{fd:FuncData}(F:Fun K "_law_corner_by" "_law_corner_by" j2z f fd)(T:Txt mg):FnOk P w K mg base CX0 1 f fd ["_law_rows","_law_big_here"] spCB:=by
 refine F.gb scCb (fun vs H Q E h=>?_) (fun b0 H vs Q E hr h=>?_)
 ·obtain⟨R,as,n,b,rfl,_⟩:=h;rfl
 obtain⟨R,as,n,b,rfl,hR,hN,h0,hn,hti,hS,q⟩:=h;have nd:=scCb.nd;have hal:=hR.len;have hu:=hr.u1;show Run _ _ _ [some (.ref R),some (.int b),none,none,none,none,none,none] H;refine j0i 2 nd (j1f (j0c ⟨(by show 0<=sizeLine;decide),fun lc hlc=>?_⟩));have g0:=j0g hlc (.lst []);show Run _ _ _ [some (.ref R),some (.int b),some (.ref lc),none,none,none,none,none] (upd H lc (.lst []));refine j13 (ev_v 0 ⟨R,rfl,⟨_,SqL.of (g0 _ _ hR.lst)⟩,j1o (xs:=as.map fun a=>V.ref a.1) (fun r σ H3=>∃(ts:List Addr) (u3 u4 u5:Option V),Same H H3/\H3 lc=some (.lst (ts.map V.ref))/\AtP n H3 ts/\(0 < r->ts≠[])/\ts.length<=101 * r/\σ=[some (.ref R),some (.int b),some (.ref lc),u3,u4,u5,none,none])
  ⟨[],_,_,_,g0,j0b,fun t h=>(nomatch h),fun h=>by omega,Ag _,rfl⟩ ?_ ?_ ?_⟩)
 ·rintro r σ H3 _ ⟨_,_,_,_,sH,_⟩;exact SqL.of (sH _ _ hR.lst)
 ·rintro r x σ H3 hx ⟨ts,u3,u4,u5,sH,el,ep,hne,hlen,rfl⟩;have hi:r < n.length:=by
   have:=(Ab.mp hx).1;rw [Aa] at this;omega
  obtain⟨a,ea,eat,et,ell,er⟩:=(hR.same sH).at hi;rw [Ae,ea] at hx;cases hx;rw [<- j41 hi] at et;have hrl:=j2r n r;refine j21 rfl (SqT.of et) (j0n 3 nd (j0n 4 nd ?_));show Run _ _ _ [some (.ref R),some (.int b),some (.ref lc),some (.str (nmA n r)),some (.ref a.2),u5,none,none] H3;refine j1i T.range (j0u (j3h rfl) T.max PyProof.Rows.boot_max (j0a (j0d (j0a (j0u j0k T.len boot_len (j0a (ev_v 4 (j0c ⟨a.2,_,rfl,.inl (SqL.of ell),?_⟩))))))));rw [Aa];have em:(if((row n r).length:Int) > 1 then((row n r).length:Int) else 1)=((max 1 (row n r).length:Nat):Int):=by
   split <;> omega
  refine j0c ⟨1,_,rfl,((max 1 (row n r).length:Nat):Int),by rw [em],by omega,by omega,?_⟩;rw [Au];refine j1a (fun p σ H4=>∃(ts:List Addr) (u5:Option V),Same H H4/\H4 lc=some (.lst (ts.map V.ref))/\AtP n H4 ts/\(0 < r+p->ts≠[])/\ts.length<=101 * r+p/\σ=[some (.ref R),some (.int b),some (.ref lc),some (.str (nmA n r)),some (.ref a.2),u5,none,none]) ⟨ts,_,sH,el,ep,fun h=>hne (by omega),by omega,rfl⟩ ?_ ?_
  ·rintro p σ H4 hp ⟨ts,u5,sH,el,ep,hne,hlen,rfl⟩;rw [Cq];refine j0n 5 nd ?_;refine j0z (j1r (ev_v 2 ⟨lc,rfl,⟨_,el⟩,j1b (j0a (ev_v 3 (j0a (ev_v 5 (j0c ⟨(by show 2<=sizeLine;decide),fun t ht=>?_⟩)))))⟩));have htl:lc≠t:=j0h el ht;have s2:=j0g ht (Tn (nmA n r) (p:Int));refine⟨ts.map V.ref,by rw [j0e htl];exact el,by rw [Aa];exact j03 (by omega),?_⟩;refine j0j ⟨ts++[t],_,j1h (sH.trans s2) hlc,by rw [j0b,Al];rfl,fun u hu=>?_,fun _=>by simp,by rw [Af];simp;omega,rfl⟩
   rcases Ba.mp hu with h | h
   ·obtain⟨r',h1,j,h2⟩:=ep u h;refine⟨r',h1,j,?_⟩;rw [j0e (j11 h2 el fun z=>nomatch z)];exact s2 _ _ h2
   ·rw [Ah.mp h];exact⟨r,hi,(p:Int),by rw [j0e htl.symm,j0b]⟩
  ·rintro σ H4 ⟨ts,u5,sH,el,ep,hne,hlen,rfl⟩;exact j0j ⟨ts,_,_,_,sH,el,ep,fun _=>hne (by omega),by omega,rfl⟩
 rintro σ H3 ⟨ts,u3,u4,u5,sH,el,ep,hne,hlen,rfl⟩;rw [Aa] at hlen hne;have hn0:0 < n.length:=Bv.mpr h0;have cne:=hne (by omega);have cpos:0 < ts.length:=Bv.mpr cne;have m0:0<=b % (ts.length:Int):=Av _ (by omega);have m1:b % (ts.length:Int) < ts.length:=Az _ (by omega);obtain⟨jj,hj⟩:∃ j:Nat,b % (ts.length:Int)=j:=⟨(b % (ts.length:Int)).toNat,by omega⟩;have hjl:jj < ts.length:=by omega
 obtain⟨r,hrn,j,hc⟩:=ep ts[jj] (Cg hjl);have hat:atI (ts.map V.ref) (b % (ts.length:Int))=some (.ref ts[jj]):=by rw [hj];exact j7a (Ac hjl)
 generalize ts[jj]=tc at hc hat;refine j0i 6 nd (j0o j0y (ev_v 2 (j0m j0x (ev_v 1 (j0u j0k T.len boot_len (j0a (ev_v 2 (j0c ⟨lc,_,rfl,.inl (SqL.of el),?_⟩))))))));rw [Aa];refine⟨_,_,rfl,rfl,(by show(0:Int) < (ts.length:Int);omega),lc,_,_,.ref tc,rfl,rfl,SqL.of el,hat,?_⟩;refine j0i 1 nd (j0m j07 (ev_v 1 (j0u j0k T.len boot_len (j0a (ev_v 2 (j0c ⟨lc,_,rfl,.inl (SqL.of el),?_⟩))))));rw [Aa];refine⟨_,_,rfl,rfl,⟨by show(0:Int) < (ts.length:Int);omega,by show(ts.length:Int) < _;omega⟩,?_⟩;show Run _ _ _ [some (.ref R),some (.int (b / (ts.length:Int))),some (.ref lc),u3,u4,u5,some (.ref tc),none] H3;generalize b / (ts.length:Int)=b;refine j0i 7 nd (j0m j6r (j0m j0x (j0m j07 (ev_v 1 (j0d ⟨_,_,rfl,rfl,⟨by decide,by decide⟩,j0m k0s (j0d (j0d ⟨_,_,rfl,rfl,⟨by decide,by decide,by decide⟩,_,_,rfl,rfl,(by show(0:Int) < 10 ^ (30:Int).toNat;decide),?_⟩))⟩)))));refine j0m j0x (j0m j07 (ev_v 1 (j0d ⟨_,_,rfl,rfl,⟨by decide,by decide⟩,j0d ⟨_,_,rfl,rfl,(by show(0:Int) < 2;decide),_,_,rfl,rfl,?_,?_⟩⟩)))
 ·have f0:0<=b / 16 % 2:=Av _ (by decide);have f1:b / 16 % 2 < 2:=Az _ (by decide);exact .inr ⟨by omega,by omega⟩
 show Run _ _ _ [some (.ref R),some (.int b),some (.ref lc),u3,u4,u5,some (.ref tc),some (.int (b / 32 % 10 ^ (30:Int).toNat * (b / 16 % 2)))] H3;generalize b / 32 % 10 ^ (30:Int).toNat * (b / 16 % 2)=far;show Run _ _ _ [some (.ref R),some (.int b),some (.ref lc),u3,u4,u5,some (.ref tc),some (.int far)] H3;refine j4c True True (fun R qq=>?_) (fun _=>?_) (fun _=>j0j ?_)
 ·exact j0v j3a (j0m j0x (ev_v 1 (j0d ⟨_,_,rfl,rfl,(by show(0:Int) < 16;decide),j0d ⟨rfl,_,rfl,qq _ (fun _=>trivial) fun _=>trivial⟩⟩)))
 ·refine j0l (j1b (j0a (j0o j0p (ev_v 6 (j0d ⟨tc,_,_,.str (nmA n r),rfl,rfl,SqT.of hc,rfl,j0a (j0m q34 (q5b q1q (j0d ⟨_,rfl,ev_v 7 ⟨_,_,rfl,rfl,j0c ⟨(by show 2<=sizeLine;decide),fun t ht=>?_⟩⟩⟩)))⟩)))));exact q t _ _ _ (sH.trans (j0g ht _)) j0b
 refine j4c True True (fun R qq=>?_) (fun _=>?_) (fun _=>j0j ?_)
 ·exact j0v j3a (j0m j0x (ev_v 1 (j0d ⟨_,_,rfl,rfl,(by show(0:Int) < 16;decide),j0d ⟨rfl,_,rfl,qq _ (fun _=>trivial) fun _=>trivial⟩⟩)))
 ·have hR3:=hR.same sH;have knd:=k2d hal hN;have klen:(rwKv n as).length=n.length:=by have:=congrArg List.length (j5n n as hal);simpa using this
  obtain⟨a,ea,eat,et,ell,er⟩:=hR3.at hrn;refine j0l (j1b (j0a (j0o j0p (ev_v 6 (j0d ⟨tc,_,_,.str (nmA n r),rfl,rfl,SqT.of hc,rfl,j0a (j0m j1z (j0u (j3h rfl) T.max PyProof.Rows.boot_max (j0a (j0d (j0a (j0u j0k T.len boot_len (j0a (j38 hu (j48 (j34 rfl) T.tdict PyProof.Rows.boot_dict (j0a (ev_v 0 (j0c ⟨R,as.map (·.1),rwKv n as,rfl,?_,?_,?_,?_,fun dl hdl=>?_⟩))))))))))))⟩)))))
  ·rw [Cc];exact hR3.lst
  ·rw [Aa,klen,hal]
  ·rw [Aa];exact j03 (by omega)
  ·intro j t kv h1 h2;rw [Ae,Ar] at h1;obtain⟨a,ea,rfl⟩:=h1;have hj:j < n.length:=by have:=(Ab.mp ea).1;omega
   have e:=k4l (Ac hj) ea;rw [h2] at e;cases e;exact(hR3.tup j a n[j] ea (Ac hj)).1
  rw [k06 (acc:=[]) (by rw [Ep];exact knd),Ep];have s4:=j0g hdl (.dK (rwKv n as));have val:valV (rwKv n as) (Sum.inr (nmA n r))=some (.ref a.2):=by
   have:=q30 knd (k4l (Ac hrn) ea);rw [j41 hrn];exact this
  refine j0o j0p (ev_v 6 (j0d ⟨tc,_,_,.str (nmA n r),rfl,rfl,SqT.of (s4 _ _ hc),rfl,dl,.ref a.2,rfl,by rw [<- val];exact DGet.k (k:=Sum.inr (nmA n r)) j0b,j0c ⟨a.2,_,rfl,.inl (SqL.of (s4 _ _ ell)),?_⟩⟩));refine j0c ⟨1,_,rfl,ev_v 7 ⟨_,_,rfl,rfl,j0c ⟨(by show 2<=sizeLine;decide),fun t ht=>?_⟩⟩⟩;exact q t _ _ _ (sH.trans (s4.trans (j0g ht _))) j0b
 refine j4c True True (fun R qq=>?_) (fun _=>?_) (fun _=>j0j ?_)
 ·exact j0v j3a (j0m j0x (ev_v 1 (j0d ⟨_,_,rfl,rfl,(by show(0:Int) < 16;decide),j0d ⟨rfl,_,rfl,qq _ (fun _=>trivial) fun _=>trivial⟩⟩)))
 ·have ls:(nmA n r).length<=8:=hS.2 _ (by rw [j41 hrn];exact Am.mpr ⟨_,Cg hrn,rfl⟩);refine j0l (j1b (j0a (j7o q12 (j0m j3x (j0o j0p (ev_v 6 (j0d ⟨tc,_,_,.str (nmA n r),rfl,rfl,SqT.of hc,rfl,j04 ⟨_,_,rfl,rfl,?_,j9x (j9s (j0d ⟨_,rfl,_,rfl,?_,?_⟩))⟩⟩)))))))
  ·exact small (by show(nmA n r).length+1<=_;omega)
  ·rw [len_app];exact small (by show(nmA n r).length+1<=_;omega)
  ·refine j0a (j0o j0p (ev_v 6 (j0d ⟨tc,_,_,.int j,rfl,rfl,SqT.of hc,rfl,j0c ⟨(by show 2<=sizeLine;decide),fun t ht=>?_⟩⟩)));exact q t _ _ _ (sH.trans (j0g ht _)) j0b
 exact j0l (ev_v 6 (q tc _ _ _ sH hc))
abbrev NFu:List Str:=["_law_stem","_law_ties_here","_law_row","_law_tie"]
abbrev NFu':List Str:=["_law_stem","_law_ties_here","_law_row","_law_tie","_law_k"]
theorem scFu:FnScope NFu ["_law_stem"] (j0f j5i):=⟨rfl,rfl,rfl,by decide +kernel,rfl,by decide +kernel,by decide +kernel⟩
theorem q2v:NFu'.Nodup:=by decide +kernel
theorem k4a{s:Int}{row:List Str}(p:row.Perm (dbl (fnms s 40))):Lawn [("full",row)]:=by
 have et:ties [(("full" : Str),row)]=row:=by unfold ties;simp
 have ln:row.length=80:=by rw [p.length_eq,j58,j4i]
 refine⟨j75 (k16 s) (by rw [et];exact p),by simp,.inr ⟨by simp,fun i hi=>?_⟩,by show 1<=60;omega,by rw [et];omega,fun zs h1 h2=>?_,fun z hz=>?_,fun x hx=>?_⟩
 ·have:i=0:=by have:i < 1:=hi;omega
  subst this;show row≠[];intro h;rw [h] at ln;cases ln
 ·have:=j3v h1 (b:=fnms s 40) fun z hz=>dbl_mem.mp (p.mem_iff.mp (by have:=h2 z hz;rw [et] at this;exact this));rw [j4i] at this;omega
 ·rw [et] at hz;have:=dbl_mem.mp (p.mem_iff.mp hz);unfold fnms at this;obtain⟨k,_,rfl⟩:=Am.mp this;exact k3m s k
 ·rw [Ah.mp hx];show("full" : Str).length<=8;decide +kernel
theorem q1x{f:Addr}{fd:FuncData}(F:Fun K "_law_full" "_law_full" j5i f fd)(T:Txt mg):FnOk P w K mg base CX0 1 f fd ["_law_stem"] q0i:=by
 refine F.gb scFu (fun vs H Q E h=>?_) (fun b0 H vs Q E hr h=>?_)
 ·obtain⟨s,rfl,_⟩:=h;rfl
 obtain⟨s,rfl,q⟩:=h;have nd:=scFu.nd;show Run _ _ _ [some (.int s),none,none,none] H;refine k7a 1 (j0f j5i) NFu NFu' 1 nd (j6f rfl T.range j4o) (j0a (j0d (j0c ⟨_,rfl,by omega,by omega,fun D hD=>?_⟩)));refine k6t (n:=40) (fun i σ' H'=>(∃ v,σ'=[some (.int s),none,none,none]++[v])/\Same H H'/\H' D=some (Ls (fnms s i))) ⟨⟨_,rfl⟩,j0g hD _,j0b⟩ ?_ ?_
 ·rintro i σ' H' hi ⟨⟨v,rfl⟩,sm,eD⟩;rw [Cq];intro cl' C' s₀ H₀ ex;refine j0n 4 q2v ?_;intro cl' C' s₀ H₀ ex;refine j3c (iteT ?_);intro cl' C' s₀ H₀ ex;refine j0m j3x (j04 (j48 k5m T.tstr PyProof.Rows.boot_str (j0a (j0m j0x (j0m j1z (ev_v 0 (j0m j6r (j0d (ev_v 4 ⟨_,_,rfl,rfl,?_,_,_,rfl,rfl,j0d ⟨_,_,rfl,rfl,(by show(0:Int) < 40;decide),j0c ⟨_,rfl,?_,_,_,rfl,rfl,?_,?_⟩⟩⟩)))))))))
  ·exact .inl ⟨by decide,by decide⟩
  ·have h0:0<=(s+7 * (i:Int)) % 40:=Av _ (by decide);have h1:(s+7 * (i:Int)) % 40 < 40:=Az _ (by decide);have h2:((s+7 * (i:Int)) % 40).natAbs < 2 ^ 10:=by omega
   have:=Nat.log2_lt (n:=((s+7 * (i:Int)) % 40).natAbs) (k:=10)
   by_cases z:((s+7 * (i:Int)) % 40).natAbs=0
   ·rw [z];decide
   ·have:=(this z).mpr h2;omega
  ·have:=k3m s i;unfold fnm at this;rw [len_app] at this;exact small (by omega)
  ·refine⟨_,eD,by rw [Aa,j4i];exact j03 (by omega),⟨_,rfl⟩,j1h sm hD,?_⟩;rw [j0b,k5v];show _=some (HO.lst (List.map V.str (_++_)));rw [Al];rfl
 rintro σ' H1 ⟨_,s1,eD⟩;show Run _ _ _ [some (.int s),some (.ref D),none,none] H1;refine j0i 2 nd (j1f (j0c ⟨(by show 0<=sizeLine;decide),fun M hM=>?_⟩));have g0:=j0g hM (.lst []);have nMD:D≠M:=j0h eD hM;have hM0:=j0t s1 hM;have z0:0<=s % 7:=Av _ (by decide);refine j13 (ev_v 1 ⟨D,rfl,⟨_,SqL.of (g0 _ _ eD)⟩,j1o (xs:=(fnms s 40).map V.str) (fun i σ H'=>(∃ u,σ=[some (.int s),some (.ref D),some (.ref M),u])/\(∀ b o,b≠M->H1 b=some o->H' b=some o)/\∃ zs:List Str,H' M=some (Ls zs)/\zs.Perm (dbl ((fnms s 40).take i))) ⟨⟨_,rfl⟩,fun b o hb h=>by rw [j0e hb];exact h,[],j0b,List.Perm.refl _⟩ ?_ ?_ ?_⟩)
 ·rintro i σ H' _ ⟨_,kb,_⟩;exact SqL.of (kb _ _ nMD eD)
 ·rintro i x σ H' hx ⟨⟨u,rfl⟩,kb,zs,eM,pz⟩;rw [Ae,Ar] at hx;obtain⟨z,hz,rfl⟩:=hx;have hi:i < 40:=by have:=(Ab.mp hz).1;rw [j4i] at this;exact this
  have lz:zs.length=2 * i:=by rw [pz.length_eq,j58,Bt,j4i];omega
  refine j0n 3 nd ?_;have y0:0<=s % 7 % ((zs.length:Int)+1):=Av _ (by omega);have y1:s % 7 % ((zs.length:Int)+1) < (zs.length:Int)+1:=Az _ (by omega);refine j0z (j9w PySem.F.plainAttrs_list PySem.F.slot_list_insert PySem.F.type_list_insert j2q (ev_v 2 (v:= .ref M) ⟨Or.inl ⟨rfl,_,SqL.of eM⟩,?_⟩));refine j0m j0x (j0m j0x (ev_v 0 (j0d ⟨_,_,rfl,rfl,(by show(0:Int) < 7;decide),j0m j1z (j0u j0k T.len boot_len (j0a (ev_v 2 (j0c ⟨M,_,rfl,.inl (SqL.of eM),?_⟩))))⟩)));rw [Aa];refine j0d ⟨_,_,rfl,rfl,_,_,rfl,rfl,(by show(0:Int) < (zs.length:Int)+1;omega),ev_v 3 ⟨M,_,_,.str z,rfl,rfl,eM,y0,?_,?_,?_⟩⟩
  ·rw [Aa];omega
  ·rw [Aa];exact j03 (by omega)
  rw [j63];have pz2:(zs.take (s % 7 % ((zs.length:Int)+1)).toNat++z :: zs.drop (s % 7 % ((zs.length:Int)+1)).toNat).Perm (z :: zs):=ins_perm;generalize zs.take (s % 7 % ((zs.length:Int)+1)).toNat++z :: zs.drop (s % 7 % ((zs.length:Int)+1)).toNat=ys at pz2;have ly:ys.length=2 * i+1:=by rw [pz2.length_eq,Bd,lz]
  have eM2:(upd H' M (.lst (ys.map V.str))) M=some (Ls ys):=j0b;have kb2:∀ b o,b≠M->H1 b=some o->(upd H' M (.lst (ys.map V.str))) b=some o:=fun b o hb h=>by rw [j0e hb];exact kb b o hb h
  show Run _ _ _ [some (.int s),some (.ref D),some (.ref M),some (.str z)] (upd H' M (.lst (ys.map V.str)));generalize upd H' M (.lst (ys.map V.str))=H2 at eM2 kb2;have w0:0<=s % 7 % (ys.length:Int):=Av _ (by omega);have w1:s % 7 % (ys.length:Int) < (ys.length:Int):=Az _ (by omega);refine j0z (j9w PySem.F.plainAttrs_list PySem.F.slot_list_insert PySem.F.type_list_insert j2q (ev_v 2 (v:= .ref M) ⟨Or.inl ⟨rfl,_,SqL.of eM2⟩,?_⟩));refine j0m j0x (j0m j0x (ev_v 0 (j0d ⟨_,_,rfl,rfl,(by show(0:Int) < 7;decide),j0u j0k T.len boot_len (j0a (ev_v 2 (j0c ⟨M,_,rfl,.inl (SqL.of eM2),?_⟩)))⟩)));rw [Aa];refine⟨_,_,rfl,rfl,(by show(0:Int) < (ys.length:Int);omega),ev_v 3 ⟨M,_,_,.str z,rfl,rfl,eM2,w0,?_,?_,j0j ⟨⟨_,rfl⟩,fun b o hb h=>by rw [j0e hb];exact kb2 b o hb h,_,by rw [j0b,j63],?_⟩⟩⟩
  ·rw [Aa];omega
  ·rw [Aa];exact j03 (by omega)
  ·refine ins_perm.trans ?_;rw [Bz,hz];show(z :: ys).Perm (dbl ((fnms s 40).take i++[z]));rw [k1e];refine((pz2.cons z).trans ((pz.cons z).cons z)).trans ?_;exact(Da (l₁:=[z,z]) (l₂:=dbl ((fnms s 40).take i)))
 ·rintro σ H' ⟨⟨u,rfl⟩,kb,zs,eM,pz⟩;rw [Aa,Bw] at pz;refine j0l (j1f (j0a (j1b (j0a (j04 (j0a (ev_v 2 (j0c ⟨(by show 2<=sizeLine;decide),fun t ht=>j0c ⟨(by show 1<=sizeLine;decide),fun L hL=>?_⟩⟩))))))));have s2:Same H H':=fun b o h=>kb b o (j0h h hM0) (s1 _ _ h);have t1:=j0g ht (.tup [.str "full",.ref M]);have t2:=j0g hL (.lst [.ref t]);refine q L [(t,M)] [("full",zs)] _ (s2.trans (t1.trans t2)) (j0t (s2.trans t1) hL) ⟨rfl,j0b,fun i a r h1 h2=>?_,by simp⟩ (k4a pz)
  match i with
  | 0=>
   cases h1;cases h2;exact⟨t2 _ _ j0b,t2 _ _ (t1 _ _ eM)⟩
  | i+1=>simp at h1
abbrev NRb:List Str:=["_law_script","_law_most","_law_stem"]
theorem scRb:FnScope NRb ["_law_script","_law_most"] (j0f j36):=⟨rfl,rfl,rfl,by decide +kernel,rfl,by decide +kernel,by decide +kernel⟩
theorem q4u{f:Addr}{fd:FuncData}(F:Fun K "_law_rows_by" "_law_rows_by" j36 f fd)(T:Txt mg)
  (GC:Has P w K mg base 5 "_law_cell_at" ["_law_script","_law_k"] (k1h K)) (GB:Has P w K mg base 5 "_law_big" ["_law_script","_law_at"] (k71 K))
  (GN:Has P w K mg base 5 "_law_net_by" ["_law_big_here","_law_most","_law_stem"] q1i) (GF:Has P w K mg base 5 "_law_full" ["_law_stem"] q0i) :
  FnOk P w K mg base CX0 6 f fd ["_law_script","_law_most"] (spRB K):=by
 refine F.gb scRb (fun vs H Q E h=>?_) (fun b0 H vs Q E hr h=>?_)
 ·obtain⟨a,ns,rfl,_⟩:=h;rfl
 obtain⟨a,ns,rfl,hS,q⟩:=h;have nd:=scRb.nd;show Run _ _ _ [some (.ref a),some (.int 16),none] H;refine j0i 2 nd (j0m j0x (j0s GC hr (j0a (ev_v 0 (j0a (j0d (j0c ⟨a,ns,0,rfl,hS,by decide,fun c0=>?_⟩)))))));refine j0m k0s (j0d (j0d ⟨_,_,rfl,rfl,⟨by decide,by decide,by decide⟩,_,_,rfl,rfl,(by show(0:Int) < 10 ^ (18:Int).toNat;decide),?_⟩));show Run _ _ _ [some (.ref a),some (.int 16),some (.int (c0 % 10 ^ (18:Int).toNat))] H;generalize c0 % 10 ^ (18:Int).toNat=sm;show Run _ _ _ [some (.ref a),some (.int 16),some (.int sm)] H;refine j4c True True (fun R qq=>?_) (fun _=>?_) (fun _=>j0j ?_)
 ·exact j0v j3a (j0m j0x (ev_v 2 (j0d ⟨_,_,rfl,rfl,(by show(0:Int) < 16;decide),j0d ⟨rfl,_,rfl,qq _ (fun _=>trivial) fun _=>trivial⟩⟩)))
 ·exact j0l (j0s GF hr (j0a (j0m j07 (ev_v 2 (j0d ⟨_,_,rfl,rfl,⟨by decide,by decide⟩,j0c ⟨_,rfl,fun L as n H' s hL hR hl=>q L as n H' s hL hR hl⟩⟩)))))
 ·refine j0l (j0s GN hr (j0a (j0s GB hr (j0a (ev_v 0 (j0a (j0d (j0c ⟨a,ns,1,rfl,hS,by decide,fun b H1 s1=>?_⟩))))))));refine j0a (ev_v 1 (j0a (ev_v 2 (j0c ⟨_,16,_,rfl,by decide,by decide,fun R as n H2 s2 n2 hR hT hN hF hti hnl has hsh=>?_⟩))));have e16:((16:Int)).toNat=16:=rfl;rw [e16] at hti hnl;exact q R as n H2 (s1.trans s2) (j0t s1 n2) hR ⟨hT,hN,hF,by omega,by omega,fun zs h1 h2=>by have:=j3v h1 h2;omega,hsh⟩
end
end J0
namespace J0
open PySem L2 Nt Sort2 SetT
open PyProof.Rows (sortedS)
open Classical
def k60(K:PySem.W.Frag):Sp:=fun vs H Q _=>∃(a:Addr) (ns:List Int),vs=[.ref a]/\SqL K H a (ns.map V.int)/\ns.length<=63/\∀ H',Q (.bl true) H'
def j62:Sp:=fun vs H Q _=>∃(R t u:Addr) (as:List (Addr×Addr)) (n:Net) (p p':Str) (j j':Int) (z:Str),vs=[.ref R,.ref t,.ref u,.str z]/\RowsAt H R as n/\Lawn n/\H t=some (Tn p j)/\H u=some (Tn p' j')/\z.length<=100 /\
 ∀ v H',Same H H'->H v=none->AnsAt H H' v (outT n p j p' j' z)->Q (.ref v) H'
def q0u:Sp:=fun vs H Q _=>∃(R t u:Addr) (as:List (Addr×Addr)) (n:Net) (e g:Nt.End),vs=[.ref R,.ref t,.ref u]/\RowsAt H R as n/\Lawn n/\H t=some (Tp e)/\H u=some (Tp g)/\j1y n e/\j1y n g/\∀ H',Same H H'->Q (.bl (decide (OneF n e g))) H'
def q0v:Sp:=fun vs H Q _=>∃(R t:Addr) (as:List (Addr×Addr)) (n:Net) (p:Str) (j b:Int),vs=[.ref R,.ref t,.int b]/\RowsAt H R as n/\Lawn n/\H t=some (Tn p j)/\∀ u p' j' H',Same H H'->H' u=some (Tn p' j')->Q (.ref u) H'
theorem q2a{n:Net}{p p':Str}{j j':Int}{z x:Str}(h:outT n p j p' j' z = .inl x):x∈xNames:=by
 unfold outT at h
 split at h
 ·split at h
  ·split at h
   ·split at h
    ·cases h;decide
    ·split at h
     ·cases h;decide
     ·cases h
   ·cases h;decide
  ·cases h;decide
 ·cases h;decide
theorem q2g{X:Cx}{H:Hp}{a t:Addr}{e g:Nt.End}(ha:H a=some (Tp e))(ht:H t=some (Tp g)):EqD X H 1 (.ref a) (.ref t) (decide (H a=some (Tp g))):=by
 by_cases q:a=t
 ·subst q;rw [decide_eq_true ht];exact j5l
 ·have r:=k0t q (k30 (X:=X) ha ht);have e2:decide (e=g)=decide (H a=some (Tp g)):=by
   refine decide_eq_decide.mpr ⟨fun k=>by rw [ha,k],fun k=>?_⟩;rw [ha] at k;have k2:=List.cons.inj (HO.tup.inj (Option.some.inj k));have h1:=V.int.inj k2.1;have h2:=V.int.inj (List.cons.inj k2.2).1;exact Prod.ext (by omega) (by omega)
  rw [e2] at r;exact r
theorem q2l{H:Hp}{ts:List Addr}{w:List Nt.End}{g:Nt.End}(hP:Pd H ts w):(ts.any fun b=>decide (H b=some (Tp g)))=decide (g∈w):=by
 have hl:=hP.length;have tpi:∀{e g:Nt.End},some (Tp e)=some (Tp g)->e=g:=fun{e g} k=>by
  have k2:=List.cons.inj (HO.tup.inj (Option.some.inj k));have h1:=V.int.inj k2.1;have h2:=V.int.inj (List.cons.inj k2.2).1;exact Prod.ext (by omega) (by omega)
 rw [By,Co,decide_eq_true_iff];refine⟨fun⟨b,hb,k⟩=>?_,fun k=>?_⟩
 ·have k:=of_decide_eq_true k;obtain⟨i,hi⟩:=Bc hb;have hil:i < w.length:=by have:=(Ab.mp hi).1;omega
  have hwi:=Ac hil;obtain⟨t,h1,h2⟩:=hP.at hwi;rw [hi] at h1;cases h1;rw [h2] at k;rw [<- tpi k];exact An hwi
 ·obtain⟨i,hi⟩:=Bc k;obtain⟨t,h1,h2⟩:=hP.at hi;exact⟨t,An h1,decide_eq_true h2⟩
theorem q44{H:Hp}{ts:List Addr}{w:List Nt.End}(hP:Pd H ts w):∀ b∈ts,∃ e,H b=some (Tp e):=fun b hb=>by
 obtain⟨i,hi⟩:=Bc hb;have hl:=hP.length;have hil:i < w.length:=by have:=(Ab.mp hi).1;omega
 obtain⟨t,h1,h2⟩:=hP.at (Ac hil);rw [hi] at h1;cases h1;exact⟨_,h2⟩
section
variable{P:Program}{w:World}{K:PySem.W.Frag}{mg:Str->Option Value}{base:Heap}
abbrev NLo:List Str:=["_law_rows","_law_one","_law_other_here"]
theorem scLo:FnScope NLo ["_law_rows","_law_one","_law_other_here"] (j0f j29):=⟨rfl,rfl,rfl,by decide +kernel,rfl,by decide +kernel,by decide +kernel⟩
theorem q2d{f:Addr}{fd:FuncData}(F:Fun K "_law_one_face" "_law_one_face" j29 f fd)(T:Txt mg)(GS:Has P w K mg base 3 "_law_seats" ["_law_rows"] j6a)(GF:Has P w K mg base 3 "_law_face" ["_law_rows","_law_seats_here","_law_end"] j8h):FnOk P w K mg base CX0 4 f fd ["_law_rows","_law_one","_law_other_here"] q0u:=by
 refine F.gb scLo (fun vs H Q E h=>?_) (fun b0 H vs Q E hr h=>?_)
 ·obtain⟨R,t,u,as,n,e,g,rfl,_⟩:=h;rfl
 obtain⟨R,t,u,as,n,e,g,rfl,hR,hl,ht,hu,he,hg,q⟩:=h;have un:=hr.u100;have hlen:=hl.len;have htie:=hl.tie;have el:=j3z n;show Run _ _ _ [some (.ref R),some (.ref t),some (.ref u)] H;refine j0l (q4j (j33 (k0u un) (ev_v 1 (ev_v 2 ⟨1,_,by decide,k30 ht hu,_,rfl,?_⟩))))
 by_cases eq:e=g
 ·rw [decide_eq_true eq];have:=q H (Same.refl H);rw [decide_eq_true (show OneF n e g from .inl eq)] at this;exact iteT this
 rw [decide_eq_false eq];have hee:e∈ends n:=by
  rcases j4r hl.full with ⟨nm,rfl⟩ | ⟨hC,_⟩
  ·exact absurd ((corner_bare.mp he).trans (corner_bare.mp hg).symm) eq
  ·exact(hC e).mp he
 refine iteF (j6i (j33 (k2s un) (ev_v 2 (j0s GF hr (j0a (ev_v 0 (j0a (j0s GS hr (j0a (ev_v 0 (j0c ⟨R,as,n,rfl,hR,by omega,by omega,fun d ks H1 s1 n1 hS=>?_⟩)))))))))));refine j0a (ev_v 1 (j0c ⟨R,d,t,as,n,ks,e,rfl,hR.same s1,hS,hl.two,s1 _ _ ht,hee,by omega,fun l ts fs H2 s2 n2 e2 hP hf=>⟨l,ts,1,_,rfl,SqL.of e2,by decide,fun b hb=>q2g (q44 hP b hb).choose_spec (s2 _ _ (s1 _ _ hu)),?_⟩⟩));rw [q2l hP,hf.eq];have e1:decide (g∈face n e)=decide (OneF n e g):=decide_eq_decide.mpr ⟨fun k=> .inr k,fun k=>k.elim (fun k=>absurd k eq) id⟩;rw [e1];exact q _ (s1.trans s2)
abbrev NSc:List Str:=["_law_rows","_law_one","_law_big_here","_law_near","_law_face_here","_law_far"]
theorem scSc:FnScope NSc ["_law_rows","_law_one","_law_big_here"] (j0f j3r):=⟨rfl,rfl,rfl,by decide +kernel,rfl,by decide +kernel,by decide +kernel⟩
theorem q2y{f:Addr}{fd:FuncData}(F:Fun K "_law_second" "_law_second" j3r f fd)(T:Txt mg)(GP:Has P w K mg base 3 "_law_spot" ["_law_rows","_law_corner"] k0z)(GC:Has P w K mg base 3 "_law_corner_by" ["_law_rows","_law_big_here"] spCB)(GS:Has P w K mg base 3 "_law_seats" ["_law_rows"] j6a)(GF:Has P w K mg base 3 "_law_face" ["_law_rows","_law_seats_here","_law_end"] j8h):FnOk P w K mg base CX0 4 f fd ["_law_rows","_law_one","_law_big_here"] q0v:=by
 refine F.gb scSc (fun vs H Q E h=>?_) (fun b0 H vs Q E hr h=>?_)
 ·obtain⟨R,t,as,n,p,j,b,rfl,_⟩:=h;rfl
 obtain⟨R,t,as,n,p,j,b,rfl,hR,hl,ht,q⟩:=h;have nd:=scSc.nd;have un:=hr.u100;have hlen:=hl.len;have htie:=hl.tie;have h0:=hl.full.some;have el:=j3z n;have hn0:0 < n.length:=Bv.mpr h0;have cby:∀{H1:Hp} {σ:St} {p1 p2 p3 p4 p5 p6 p7:Pos} {D:Ends} {rest:List Stmt} {j1:Nat},D.rt=Q->Same H H1->σ[0]?=some (some (.ref R))->σ[2]?=some (some (.int b))->Run (cxB NSc "_law_second" (j0f j3r) P w K mg base b0) (.Return (some (.Call (.Name "_law_corner_by" p1) [.Name "_law_rows" p2,.BinOp (.Name "_law_big_here" p3) .FloorDiv (.Constant (.int 3) j1 p4) p5] [] p6)) p7 :: rest) D σ H1:=fun{H1 σ p1 p2 p3 p4 p5 p6 p7 D rest j1} hD s1 h1 h2=>by
  refine j0l ?_;rw [hD];refine j0s GC hr (j0a (ev_v 0 (j0a (j0m j07 (ev_v 2 (j0d ⟨_,_,rfl,rfl,⟨by decide,by decide⟩,j0c ⟨R,as,n,_,rfl,hR.same s1,hl.nod,h0,hlen,htie,hl.short,fun u p' j' H' s hu=>q u p' j' H' (s1.trans s) hu⟩⟩) h2))) h1))
 show Run _ _ _ [some (.ref R),some (.ref t),some (.int b),none,none,none] H;refine j0i 3 nd (j0s GP hr (j0a (ev_v 0 (j0a (ev_v 1 (j0c ⟨R,t,as,n,p,j,rfl,hR,hlen,htie,ht,fun no=>?_,fun e he u H1 s1 nu eu=>?_⟩))))))
 ·refine j1g (j1k (j3l (j0v j43 (ev_v 3 (j3n ⟨rfl,_,rfl,?_⟩)))));rw [show decide (V.non=V.non)=true by simp];exact iteT (iteT (cby rfl (Same.refl H) rfl rfl))
 show Run _ _ _ [some (.ref R),some (.ref t),some (.int b),some (.ref u),none,none] H1;refine j37 (fun k H'=>Same H1 H'/\(k=false->row n 0≠[])) (fun σ' H'=>Same H1 H'/\row n 0≠[]/\σ'=[some (.ref R),some (.ref t),some (.int b),some (.ref u),none,none]) ?_ (fun H2 h=>cby rfl (s1.trans h.1) rfl rfl) (fun H2 h=>j0j ⟨h.1,h.2 rfl,rfl⟩) ?_
 ·refine j1k (j3l (j0v j43 (ev_v 3 (j3n ⟨rfl,_,rfl,?_⟩))));rw [decide_eq_false (fun y=>nomatch y)];refine iteF (j3l (j0v j3a (j0m j0x (ev_v 2 (j0d ⟨_,_,rfl,rfl,(by show(0:Int) < 3;decide),j0d ⟨rfl,_,rfl,?_⟩⟩)))));refine ite2 (fun _=>⟨Same.refl H1,fun k=>nomatch k⟩) (fun _=>?_);have hR1:=hR.same s1;obtain⟨a,ea,eat,et,ell,er⟩:=hR1.at hn0;refine j3g (j0v (k0u un) (j0o j0p (j0o j0y (ev_v 0 (j0d ⟨R,_,_,.ref a.1,rfl,rfl,SqL.of hR1.lst,eat,j0d ⟨a.1,_,_,.ref a.2,rfl,rfl,SqT.of et,rfl,j1f (j0c ⟨(by show 0<=sizeLine;decide),fun x hx=>?_⟩)⟩⟩)))));have s2:=j0g hx (.lst []);refine⟨1,_,by decide,k4c (ys:=row n 0) (zs:=[]) (s2 _ _ ell) j0b,_,rfl,s2,fun k=>of_decide_eq_false k⟩
 ·rintro σ' H2 ⟨s2,hr0,rfl⟩;have s12:=s1.trans s2;have hee:e∈ends n:=Full.corner hl.full hr0 he.1;refine j0i 4 nd (j0s GF hr (j0a (ev_v 0 (j0a (j0s GS hr (j0a (ev_v 0 (j0c ⟨R,as,n,rfl,hR.same s12,by omega,by omega,fun d ks H3 s3 n3 hS=>?_⟩))))))));refine j0a (ev_v 3 (j0c ⟨R,d,u,as,n,ks,e,rfl,hR.same (s12.trans s3),hS,hl.two,s3 _ _ (s2 _ _ eu),hee,by omega,fun l ts fs H4 s4 n4 e4 hP hf=>?_⟩));show Run _ _ _ [some (.ref R),some (.ref t),some (.int b),some (.ref u),some (.ref l),none] H4;have pl:=hP.length;have fp:=hf.pos;have m0:0<=b / 3 % (ts.length:Int):=Av _ (by omega);have m1:b / 3 % (ts.length:Int) < ts.length:=Az _ (by omega);obtain⟨jj,hj⟩:∃ j:Nat,b / 3 % (ts.length:Int)=j:=⟨(b / 3 % (ts.length:Int)).toNat,by omega⟩;have hjl:jj < fs.length:=by omega
  obtain⟨tf,htf,etf⟩:=hP.at (Ac hjl);have hfe:=hf.ends hl.two hee _ (An (Ac hjl));generalize fs[jj]=fe at etf hfe;have hat:atI (ts.map V.ref) (b / 3 % (ts.length:Int))=some (.ref tf):=by rw [hj];exact j7a htf
  refine j0i 5 nd (j0o j0y (ev_v 4 (j0m j0x (j0m j07 (ev_v 2 (j0d ⟨_,_,rfl,rfl,⟨by decide,by decide⟩,j0u j0k T.len boot_len (j0a (ev_v 4 (j0c ⟨l,_,rfl,.inl (SqL.of e4),?_⟩)))⟩))))));rw [Aa];refine⟨_,_,rfl,rfl,(by show(0:Int) < (ts.length:Int);omega),l,_,_,.ref tf,rfl,rfl,SqL.of e4,hat,?_⟩;show Run _ _ _ [some (.ref R),some (.ref t),some (.int b),some (.ref u),some (.ref l),some (.ref tf)] H4;obtain⟨zz,hzz⟩:=mem_ends.mp hfe;have hfl:=j16 hzz;have s14:=s12.trans (s3.trans s4);have hR4:=hR.same s14;obtain⟨a,ea,eat,et,ell,er⟩:=hR4.at hfl;refine j0l (j1b (j0a (j0o j0p (j0o j0y (ev_v 0 (j0o j0p (ev_v 5 (j0d ⟨tf,_,_,.int (fe.1:Int),rfl,rfl,SqT.of etf,rfl,R,_,_,.ref a.1,rfl,rfl,SqL.of hR4.lst,eat,j0d ⟨a.1,_,_,.str n[fe.1].1,rfl,rfl,SqT.of et,rfl,?_⟩⟩))))))));refine j0a (j0o j0p (ev_v 5 (j0d ⟨tf,_,_,.int (fe.2:Int),rfl,rfl,SqT.of etf,rfl,j0c ⟨(by show 2<=sizeLine;decide),fun x hx=>?_⟩⟩)));exact q x _ _ _ (s14.trans (j0g hx _)) j0b
abbrev NDu:List Str:=["_law_rows","_law_one","_law_other_here","_law_tie","_law_near","_law_far","_law_made","_law_spot_here"]
theorem scDu:FnScope NDu ["_law_rows","_law_one","_law_other_here","_law_tie"] (j0f j1q):=⟨rfl,rfl,rfl,by decide +kernel,rfl,by decide +kernel,by decide +kernel⟩
def k96:Stmt:=match (j1v j1q).getD 7 (.Pass ⟨0,0,0,0⟩) with
 | .For _ _ (b :: _) _ _=>b
 | s=>s
theorem q0c(e g:Nt.End):Sort2.lexLt ((e.1:Int),(e.2:Int)) ((g.1:Int),(g.2:Int))=lexE e g:=by
 unfold Sort2.lexLt lexE
 by_cases h:e.1=g.1
 ·rw [if_pos (show((e.1:Int))=(g.1:Int) by omega),if_pos h];exact decide_eq_decide.mpr (by show(e.2:Int) < (g.2:Int)↔_;omega)
 ·rw [if_neg (show ¬((e.1:Int))=(g.1:Int) by omega),if_neg h];exact decide_eq_decide.mpr (by show(e.1:Int) < (g.1:Int)↔_;omega)
theorem q3c{f:Addr}{fd:FuncData}(F:Fun K "_law_due_tied" "_law_due_tied" j1q f fd)(T:Txt mg)(GS:Has P w K mg base 4 "_law_spot" ["_law_rows","_law_corner"] k0z)(GO:Has P w K mg base 4 "_law_one_face" ["_law_rows","_law_one","_law_other_here"] q0u)(GG:Has P w K mg base 4 "_law_is_good" ["_law_name"] spGd)
  (GT:Has P w K mg base 4 "_law_ties" ["_law_rows"] spTs) (GY:Has P w K mg base 4 "_law_copy" ["_law_rows"] k1j) :
  FnOk P w K mg base CX0 5 f fd ["_law_rows","_law_one","_law_other_here","_law_tie"] j62:=by
 refine F.gb scDu (fun vs H Q E h=>?_) (fun b0 H vs Q E hr h=>?_)
 ·obtain⟨R,t,u,as,n,p,p',j,j',z,rfl,_⟩:=h;rfl
 obtain⟨R,t,u,as,n,p,p',j,j',z,rfl,hR,hl,ht,hu,lz,k⟩:=h;have nd:=scDu.nd;have hal:=hR.len;have hN:=hl.nod;have hlen:=hl.len;have htie:=hl.tie;have ret2:∀{H1:Hp} {x:Str} {σ:St} {rest:List Stmt} {D:Ends} {p1 p2 p3 p4:Pos} {j1 j2 j3:Nat},D.rt=Q->Same H H1->outT n p j p' j' z = .inl x->x ≠ ""->Run (cxB NDu "_law_due_tied" (j0f j1q) P w K mg base b0) (.Return (some (.Tuple [.Constant (.str x) j1 p1,.Constant .none j2 p2] j3 p3)) p4 :: rest) D σ H1:=fun{H1 x σ rest D p1 p2 p3 p4 j1 j2 j3} hD s1 ho nx=>by
  refine j0l ?_;rw [hD];refine(j1b (j0a (j04 (j0a (j3n (j0c ⟨(by show 2<=sizeLine;decide),fun u hu=>?_⟩))))));refine k u _ (s1.trans (j0g hu _)) (j0t s1 hu) ?_;rw [ho];exact⟨nx,j0b⟩
 show Run _ _ _ [some (.ref R),some (.ref t),some (.ref u),some (.str z),none,none,none,none] H;refine j0i 4 nd (j0s GS hr (j0a (ev_v 0 (j0a (ev_v 1 (j0c ⟨R,t,as,n,p,j,rfl,hR,hlen,htie,ht,fun no=>?_,fun e he v H1 s1 nv evv=>?_⟩))))))
 ·refine j0i 5 nd (j0s GS hr (j0a (ev_v 0 (j0a (ev_v 2 (j0c ⟨R,u,as,n,p',j',rfl,hR,hlen,htie,hu,fun no2=>?_,fun g hg v H1 s1 nv evv=>?_⟩))))))
  ·refine j1g (j1k (j3l (j0v j43 (ev_v 4 (j3n ⟨rfl,_,rfl,?_⟩)))));rw [show decide (V.non=V.non)=true by simp];exact iteT (iteT (ret2 rfl (Same.refl H) (j7h no) (by decide)))
  ·refine j1g (j1k (j3l (j0v j43 (ev_v 4 (j3n ⟨rfl,_,rfl,?_⟩)))));rw [show decide (V.non=V.non)=true by simp];exact iteT (iteT (ret2 rfl s1 (j7h no) (by decide)))
 have ex:∃ e,AtC n p j e:=⟨e,he⟩;refine j0i 5 nd (j0s GS hr (j0a (ev_v 0 (j0a (ev_v 2 (j0c ⟨R,u,as,n,p',j',rfl,hR.same s1,hlen,htie,s1 _ _ hu,fun no2=>?_,fun g hg y H2 s2 ny evy=>?_⟩))))))
 ·refine j1g (j1k (j3l (j0v j43 (ev_v 4 (j3n ⟨rfl,_,rfl,?_⟩)))));rw [decide_eq_false (fun y=>nomatch y)];refine iteF (j3g (j0v j43 (ev_v 5 (j3n ⟨rfl,_,rfl,?_⟩))));rw [show decide (V.non=V.non)=true by simp];exact iteT (ret2 rfl s1 (k02 ex no2) (by decide))
 have s12:=s1.trans s2;show Run _ _ _ [some (.ref R),some (.ref t),some (.ref u),some (.str z),some (.ref v),some (.ref y),none,none] H2;refine j1g (j1k (j3l (j0v j43 (ev_v 4 (j3n ⟨rfl,_,rfl,?_⟩)))));rw [decide_eq_false (fun y=>nomatch y)];refine iteF (j3g (j0v j43 (ev_v 5 (j3n ⟨rfl,_,rfl,?_⟩))));rw [decide_eq_false (fun y=>nomatch y)];refine iteF (j0j (j1g (j25 (j24 (j0s GO hr (j0a (ev_v 0 (j0a (ev_v 4 (j0a (ev_v 5 (j0c ⟨R,v,y,as,n,e,g,rfl,hR.same s12,hl,s2 _ _ evv,evy,he.1,hg.1,fun H3 s3=>⟨_,rfl,?_⟩⟩))))))))))));have s13:=s12.trans s3
 by_cases o:¬ OneF n e g
 ·rw [decide_eq_false o];exact iteT (ret2 rfl s13 (j9i hN he hg o) (by decide))
 have o:=Classical.not_not.mp o;rw [decide_eq_true o];refine iteF (j0j (j1g (j1k (j3l (j25 (j24 (j0s GG hr (j0a (ev_v 3 (j0c ⟨z,rfl,by omega,_,rfl,?_⟩))))))))));cases g1:isNm z with
 | false=>exact iteT (iteT (ret2 rfl s13 (j7f hN he hg o (.inr g1)) (by decide)))
 | true=>
 refine iteF (j3g (j0v j8k (ev_v 3 (j0s GT hr (j0a (ev_v 0 (j0c ⟨R,as,n,rfl,hR.same s13,by omega,by omega,hl.few,fun L1 ss H4 s4 n4 e4 snd so mem=>⟨L1,_,rfl,.inl (SqL.of e4),rfl,j84 _,_,rfl,?_⟩⟩)))))));have s14:=s13.trans s4;rw [if_neg Ak,k08,j4z];refine ite2 (fun c=>ret2 rfl s14 (j7f hN he hg o (.inl ((mem z).mp (of_decide_eq_true c)))) (by decide)) (fun c=>j0j ?_);have k1:¬(z∈ties n\/isNm z=false):=fun y=>y.elim (fun y=>c (decide_eq_true ((mem z).mpr y))) fun y=>by rw [g1] at y;cases y
 refine j1g (j0v k67 (j0u j0k T.len boot_len (j0a (j0s GT hr (j0a (ev_v 0 (j0c ⟨R,as,n,rfl,hR.same s14,by omega,by omega,hl.few,fun L5 ss5 H5 s5 n5 e5 snd5 so5 mem5=>j0c ⟨L5,_,rfl,.inl (SqL.of e5),j0d ⟨_,_,rfl,rfl,_,rfl,?_⟩⟩⟩)))))));rw [Aa];have s15:=s14.trans s5;have fi:=j8x snd5 mem5
 by_cases k3:j72 n
 ·have k4:(39:Int) < (ss5.length:Int):=by have:=fi.mp k3;omega
  rw [decide_eq_true k4];exact iteT (ret2 rfl s15 (j9d hN he hg o k1 k3) (by decide))
 have k4:¬(39:Int) < (ss5.length:Int):=fun y=>k3 (fi.mpr (by omega));rw [decide_eq_false k4];refine iteF (j0j ?_);refine j0i 6 nd (j0s GY hr (j0a (ev_v 0 (j0c ⟨R,as,n,rfl,hR.same s15,by omega,fun M cs H6 s6 n6 f6 hM=>?_⟩))));have s16:=s15.trans s6;have s26:=s3.trans (s4.trans (s5.trans s6));have ev6:=s26 _ _ (s2 _ _ evv);have ey6:=s26 _ _ evy;have fM:∀ a∈cs,H a.2=none:=fun a ha=>j0t s15 (f6 a ha).2;show Run _ _ _ [some (.ref R),some (.ref t),some (.ref u),some (.str z),some (.ref v),some (.ref y),some (.ref M),none] H6;refine j13 (j6s T.sorted (j1f (j0a (ev_v 4 (j0a (ev_v 5 (j0c ⟨(by show 2<=sizeLine;decide),fun D hD=>⟨D,v,y,(e.1:Int),(e.2:Int),(g.1:Int),(g.2:Int),rfl,j0b,(j0g hD _) _ _ ev6,(j0g hD _) _ _ ey6,fun r hr2=>⟨r,rfl,⟨_,SqL.of j0b⟩,?_⟩⟩⟩)))))));rw [q0c];obtain⟨x1,x2,c1,c2,hx,hc,hx1,hx2,q1,q2⟩:∃(x1 x2:Addr) (c1 c2:Nt.End),(if lexE e g=true then [V.ref y,V.ref v] else [V.ref v,V.ref y])=[V.ref x1,V.ref x2]/\j1n n e g z=ins (ins n c1 z) c2 z/\H6 x1=some (Tp c1)/\H6 x2=some (Tp c2)/\j1y n c1/\j1y n c2:=by
  unfold j1n
  split
  ·exact⟨y,v,g,e,rfl,rfl,ey6,ev6,hg.1,he.1⟩
  ·exact⟨v,y,e,g,rfl,rfl,ev6,ey6,he.1,hg.1⟩
 rw [hx];have t1:=j0g hD (.lst [.ref v,.ref y]);have t2:=j0g hr2 (.lst [.ref x1,.ref x2]);have t12:=t1.trans t2;have er2:(upd (upd H6 D (.lst [.ref v,.ref y])) r (.lst [.ref x1,.ref x2])) r=some (.lst [.ref x1,.ref x2]):=j0b;have hr0:H r=none:=j0t (s16.trans t1) hr2;have hM7:=hM.same t12;generalize upd (upd H6 D (.lst [.ref v,.ref y])) r (.lst [.ref x1,.ref x2])=H7 at t12 er2 hM7;have cor:∀{m:Net},m.length=n.length->(∀ i,(row n i).length<=(row m i).length)->∀{c:Nt.End},j1y n c->c.1 < m.length/\c.2<=(row m c.1).length:=fun{m} hm hr {c} hc=>⟨by rw [hm];exact hc.1,by have:=hc.2;have:=hr c.1;omega⟩;have rln:∀ i,(row n i).length<=(row (ins n c1 z) i).length:=fun i=>by
  rw [j2d n c1 z i q1.1]
  split
  ·rw [Af,Bd,Bt,Dm];omega
  ·exact Ag _
 have step:∀{H8:Hp} {m:Net} {x:Addr} {c:Nt.End} {w7:Option V} {D:Ends} {rest:List Stmt},RowsAt H8 M cs m->c.1 < m.length->c.2<=(row m c.1).length->(ties m).length<=102->H8 x=some (Tp c) ->
   (∀ H9:Hp,RowsAt H9 M cs (ins m c z)->(∀ b o,b∉cs.map (·.2)->H8 b=some o->H9 b=some o)->Run (cxB NDu "_law_due_tied" (j0f j1q) P w K mg base b0) rest D [some (.ref R),some (.ref t),some (.ref u),some (.str z),some (.ref v),some (.ref y),some (.ref M),some (.ref x)] H9) ->
   Run (cxB NDu "_law_due_tied" (j0f j1q) P w K mg base b0) (k96 :: rest) D [some (.ref R),some (.ref t),some (.ref u),some (.str z),some (.ref v),some (.ref y),some (.ref M),some (.ref x)] H8:=fun{H8 m x c w7 D rest} hm hc1 hc2 hmt hx kk=>by
  obtain⟨a,ea,eat,et,el,er⟩:=hm.at hc1;have rl:=j2r m c.1;refine j0z (j9w PySem.F.plainAttrs_list PySem.F.slot_list_insert PySem.F.type_list_insert j2q (j0o j0p (j0o j0y (ev_v 6 (j0o j0p (ev_v 7 (j0d ⟨x,_,_,.int (c.1:Int),rfl,rfl,SqT.of hx,rfl,M,_,_,.ref a.1,rfl,rfl,SqL.of hm.lst,eat,j0d ⟨a.1,_,_,.ref a.2,rfl,rfl,SqT.of et,rfl,Or.inl ⟨rfl,_,SqL.of el⟩,?_⟩⟩)))))));refine j0o j0p (ev_v 7 (j0d ⟨x,_,_,.int (c.2:Int),rfl,rfl,SqT.of hx,rfl,ev_v 3 ⟨a.2,_,_,_,rfl,rfl,el,by omega,by rw [Au,Aa];exact hc2,by rw [Aa];exact j03 (by omega),?_⟩⟩));rw [Au,j63];exact kk _ (hm.ins (z:=z) ea hc1) fun b o hb h=>by rw [j0e (fun q=>hb (by rw [q];exact Am.mpr ⟨a,An ea,rfl⟩))];exact h
 have notin:∀{H8:Hp} {m:Net},RowsAt H8 M cs m->∀{b:Addr} {o:HO},H8 b=some o->(∀ zs:List Str,o≠Ls zs)->b∉cs.map (·.2):=fun{H8 m} hm {b o} h1 h2 kk=>by
  obtain⟨a,ha,e'⟩:=Am.mp kk;obtain⟨zs,hz⟩:=hm.lists ha;rw [e',h1] at hz;exact h2 zs (Option.some.inj hz)
 have rns:∀ zs:List Str,HO.lst [V.ref x1,V.ref x2]≠Ls zs:=fun zs kk=>by
  have kk:=HO.lst.inj kk;cases zs with
  | nil=>exact nomatch kk
  | cons z zs=>exact nomatch (List.cons.inj kk).1
 have co1:=cor (m:=n) rfl (fun _=>Ag _) q1;have co2:=cor (m:=ins n c1 z) (j23 ..) rln q2;have tl1:=(j2a n c1 z q1.1).length_eq;rw [Bd] at tl1;refine j1o (xs:=[V.ref x1,V.ref x2]) (fun i σ H8=>(∃ w7,σ=[some (.ref R),some (.ref t),some (.ref u),some (.str z),some (.ref v),some (.ref y),some (.ref M),w7])/\RowsAt H8 M cs (if i=0 then n else if i=1 then ins n c1 z else j1n n e g z)/\(∀ b o,b∉cs.map (·.2)->H7 b=some o->H8 b=some o)) ⟨⟨_,rfl⟩,hM7,fun b o _ h=>h⟩ ?_ ?_ ?_
 ·rintro i σ H8 _ ⟨_,hm,kb⟩;exact SqL.of (kb _ _ (notin hM7 er2 rns) er2)
 ·rintro i x σ H8 hxi ⟨⟨w7,rfl⟩,hm,kb⟩
  match i with
  | 0=>
   cases hxi;rw [if_pos rfl] at hm;refine j0n 7 nd ?_;exact step (w7:=w7) hm co1.1 co1.2 (by omega) (kb _ _ (notin hM7 (t12 _ _ hx1) fun zs kk=>nomatch kk) (t12 _ _ hx1)) fun H9 hm9 kb9=>j0j ⟨⟨_,rfl⟩,hm9,fun b o hb h=>kb9 b o hb (kb b o hb h)⟩
  | 1=>
   cases hxi;rw [if_neg (by decide),if_pos rfl] at hm;refine j0n 7 nd ?_;refine step (w7:=w7) hm co2.1 co2.2 (by omega) (kb _ _ (notin hM7 (t12 _ _ hx2) fun zs kk=>nomatch kk) (t12 _ _ hx2)) fun H9 hm9 kb9=>j0j ⟨⟨_,rfl⟩,?_,fun b o hb h=>kb9 b o hb (kb b o hb h)⟩;rw [if_neg (by decide),if_neg (by decide),hc];exact hm9
  | i+2=>simp at hxi
 ·rintro σ H8 ⟨⟨w7,rfl⟩,hm,kb⟩;have hm:RowsAt H8 M cs (j1n n e g z):=hm;have s18:Same H H8:=fun b o h=>kb b o (fun kk=>by
   obtain⟨a,ha,e'⟩:=Am.mp kk;have:=fM a ha;rw [e',h] at this;cases this) (t12 _ _ (s16 _ _ h))
  refine j0l (j1b (j0a (j04 (j0a (ev_v 6 (j0c ⟨(by show 2<=sizeLine;decide),fun tt htt=>?_⟩))))));have s9:=j0g htt (.tup [.str "",.ref M]);refine k tt _ (s18.trans s9) (j0t s18 htt) ?_;rw [k01 hN he hg o k1 k3];exact⟨M,cs,j0b,hm.same s9,j0t s15 n6,fun b hb=>⟨j0t s15 (f6 b hb).1,fM b hb⟩,k8m he.1.1 hg.1.1 hlen htie⟩
abbrev NAs:List Str:=["_law_rows","_law_one","_law_other_here","_law_tie","_law_e"]
theorem scAs:FnScope NAs ["_law_rows","_law_one","_law_other_here","_law_tie"] (j0f j5y):=⟨rfl,rfl,rfl,by decide +kernel,rfl,by decide +kernel,by decide +kernel⟩
theorem k64{f:Addr}{fd:FuncData}{c:Str->Addr}(F:Fun K "_law_asked" "_law_asked" j5y f fd)(T:Txt mg)(cl:Cl K mg c)(GD:HasX P w K mg base 6 "tied" ["rows","one","other","tie"] (k4g c))(GW:HasH P w K mg base 1 "_law_which" ["_law_e"] (k0h c)) :
  FnOk P w K mg base CX0 7 f fd ["_law_rows","_law_one","_law_other_here","_law_tie"] j62:=by
 refine F.gb scAs (fun vs H Q E h=>?_) (fun b0 H vs Q E hr h=>?_)
 ·obtain⟨R,t,u,as,n,p,p',j,j',z,rfl,_⟩:=h;rfl
 obtain⟨R,t,u,as,n,p,p',j,j',z,rfl,hR,hl,ht,hu,lz,q⟩:=h;have nd:=scAs.nd;show Run _ _ _ [some (.ref R),some (.ref t),some (.ref u),some (.str z),none] H;refine q0a 4 (fun C σ' H'=>∃ x,x∈xNames/\C = .ref (c x)/\σ'=[some (.ref R),some (.ref t),some (.ref u),some (.str z),none]/\Same H H'/\outT n p j p' j' z = .inl x) cl.net cl.xnet nd (fun _=>?_) ?_
 ·refine j0l (j1b (j0a (j04 (j0a (k9w GD hr (q5k rfl) (j0a (ev_v 0 (j0a (ev_v 1 (j0a (ev_v 2 (j0a (ev_v 3 (j0c ⟨R,t,u,as,n,p,p',j,j',z,rfl,hR,hl.nod,hl.two,hl.full,hl.len,hl.tie,hl.few,ht,hu,by omega,fun x hx H' s'=>⟨x,q2a hx,rfl,rfl,s',hx⟩,fun m hm L bs H' s' n' f' hL hsm=>j0c ⟨(by show 2<=sizeLine;decide),fun v hv=>?_⟩⟩))))))))))))));have s2:=j0g hv (.tup [.str "",.ref L]);refine q v _ (s'.trans s2) (j0t s' hv) ?_;rw [hm];exact⟨L,bs,j0b,hL.same s2,n',f',hsm⟩
 ·rintro C σ' H' ⟨x,mx,rfl,rfl,s',hx⟩;refine⟨c x,rfl,(cl.at' x mx).2.1,(cl.at' x mx).2.2.1,fun _ ea oe ix nea=>?_⟩;have s1:=j0g nea (XO oe);refine j0l (j1b (j0a (q0h (E:=E0) GW (q4m (hr.mono (by decide))) (j0a (ev_v 4 (j0c ⟨oe,_,j0b,ix,x,mx,rfl,ix.cls,fun H2 s2=>j0a (j3n (j0c ⟨(by show 2<=sizeLine;decide),fun u hu=>?_⟩))⟩))))));have s3:=j0g hu (.tup [.str x,.non]);have sA:=s'.trans (s1.trans s2);refine q u _ (sA.trans s3) (j0t sA hu) ?_;rw [hx];exact⟨fun k=>by rw [k] at mx;revert mx;decide,j0b⟩
abbrev NW:List Str:=["_law_script","_law_rows","_law_one","_law_other_here","_law_tie","_law_due","_law_handed","_law_told","_law_row"]
theorem scLaw:FnScope NW ["_law_script"] (j0f sLaw):=⟨rfl,rfl,rfl,by decide +kernel,rfl,by decide +kernel,by decide +kernel⟩
theorem q3s{f:Addr}{fd:FuncData}(F:Fun K "law" "law" sLaw f fd)(T:Txt mg)
  (GB:Has P w K mg base 8 "_law_big" ["_law_script","_law_at"] (k71 K)) (GR:Has P w K mg base 8 "_law_rows_by" ["_law_script","_law_most"] (spRB K)) (GO:Has P w K mg base 8 "_law_corner_by" ["_law_rows","_law_big_here"] spCB) (GS:Has P w K mg base 8 "_law_second" ["_law_rows","_law_one","_law_big_here"] q0v)
  (GY:Has P w K mg base 8 "_law_copy" ["_law_rows"] k1j) (GT:Has P w K mg base 8 "_law_ties" ["_law_rows"] spTs) (GNm:Has P w K mg base 8 "_law_name_by" ["_law_names_here","_law_big_here"] k22)
  (GD:Has P w K mg base 8 "_law_due_tied" ["_law_rows","_law_one","_law_other_here","_law_tie"] j62) (GA:Has P w K mg base 8 "_law_asked" ["_law_rows","_law_one","_law_other_here","_law_tie"] j62)
  (GM:Has P w K mg base 8 "_law_met" ["_law_told","_law_due"] q0p) :
  FnOk P w K mg base CX0 9 f fd ["_law_script"] (k60 K):=by
 refine F.gb scLaw (fun vs H Q E h=>?_) (fun b0 H vs Q E hr h=>?_)
 ·obtain⟨a,ns,rfl,_⟩:=h;rfl
 obtain⟨a,ns,rfl,hS,h63,q⟩:=h;have nd:=scLaw.nd;have un:=hr.u100;show Run _ _ _ [some (.ref a),none,none,none,none,none,none,none,none] H;refine j0i 1 nd (j0s GR hr (j0a (ev_v 0 (j0a (j0d (j0c ⟨a,ns,rfl,hS,fun R as n H1 s1 n1 hR hl=>?_⟩))))));have hlen:=hl.len;have htie:=hl.tie;have hal:=hR.len;have hN:=hl.nod;have h0:=hl.full.some;refine j0i 2 nd (j0s GO hr (j0a (ev_v 1 (j0a (j0s GB hr (j0a (ev_v 0 (j0a (j0d (j0c ⟨a,ns,2,rfl,s1.seq hS,by decide,fun b1 H2 s2=>?_⟩))))))))));refine j0c ⟨R,as,n,b1,rfl,hR.same s2,hN,h0,hlen,htie,hl.short,fun t1 p j H3 s3 et3=>?_⟩;have s13:=s2.trans s3;have sS:=s1.trans s13;show Run _ _ _ [some (.ref a),some (.ref R),some (.ref t1),none,none,none,none,none,none] H3;refine j0i 3 nd (j0s GS hr (j0a (ev_v 1 (j0a (ev_v 2 (j0a (j0s GB hr (j0a (ev_v 0 (j0a (j0d (j0c ⟨a,ns,3,rfl,sS.seq hS,by decide,fun b2 H4 s4=>?_⟩))))))))))));refine j0c ⟨R,t1,as,n,p,j,b2,rfl,hR.same (s13.trans s4),hl,s4 _ _ et3,fun t2 p' j' H5 s5 eu5=>?_⟩;have s35:=s4.trans s5;show Run _ _ _ [some (.ref a),some (.ref R),some (.ref t1),some (.ref t2),none,none,none,none,none] H5;refine j0i 4 nd (j0s GNm hr (j0a (j0s GT hr (j0a (ev_v 1 (j0c ⟨R,as,n,rfl,hR.same (s13.trans s35),by omega,by omega,hl.few,fun Ln ss H6 s6 n6 e6 snd so mem=>?_⟩))))));refine j0a (j0s GB hr (j0a (ev_v 0 (j0a (j0d (j0c ⟨a,ns,4,rfl,(sS.trans (s35.trans s6)).seq hS,by decide,fun b3 H6b s6b=>?_⟩))))));have lss:=hl.few ss snd fun y hy=>(mem y).mp hy;refine j0c ⟨Ln,ss,b3,rfl,s6b _ _ e6,by omega,fun y hy=>Bs (hl.short.1 y ((mem y).mp hy)) (by omega),fun z H7 lz s7=>?_⟩;have s57:=s6.trans (s6b.trans s7);have hR7:=(hR.same (s13.trans s35)).same s57;have et7:=s57 _ _ (s35 _ _ et3);have eu7:=s57 _ _ eu5;show Run _ _ _ [some (.ref a),some (.ref R),some (.ref t1),some (.ref t2),some (.str z),none,none,none,none] H7;refine j0i 5 nd (j0s GD hr (j0a (ev_v 1 (j0a (ev_v 2 (j0a (ev_v 3 (j0a (ev_v 4 (j0c ⟨R,t1,t2,as,n,p,p',j,j',z,rfl,hR7,hl,et7,eu7,lz,fun td H8 s8 n8 hd=>?_⟩))))))))));have hR8:=hR7.same s8;refine j0i 6 nd (j0s GY hr (j0a (ev_v 1 (j0c ⟨R,as,n,rfl,hR8,by omega,fun M cs H9 s9 n9 f9 hM=>?_⟩))));have hR9:=hR8.same s9;have hd9:=hd.same s9;refine j0i 7 nd (j0s GA hr (j0a (ev_v 6 (j0a (ev_v 2 (j0a (ev_v 3 (j0a (ev_v 4 (j0c ⟨M,t1,t2,cs,n,p,p',j,j',z,rfl,hM,hl,(s8.trans s9) _ _ et7,(s8.trans s9) _ _ eu7,by omega,fun tt H10 s10 n10 ha=>?_⟩))))))))));show Run _ _ _ [some (.ref a),some (.ref R),some (.ref t1),some (.ref t2),some (.str z),some (.ref td),some (.ref M),some (.ref tt),none] H10;refine j1g (j1k (j3l (j25 (j24 (j0s GM hr (j0a (ev_v 7 (j0a (ev_v 5 (j0c ⟨tt,td,H9,H7,_,rfl,ha,hd9.same s10,true,rfl,iteF ?_⟩))))))))));refine j3g (j0v (j40 un) (ev_v 6 (ev_v 1 ⟨3,true,by decide,k6y (hM.same s10) (hR9.same s10),_,rfl,iteF (j0j ?_)⟩)));refine k0l (∃ m,outT n p j p' j' z = .inr m) True (fun σ' H'=>Same H9 H'/\∃ v,σ'=[some (.ref a),some (.ref R),some (.ref t1),some (.ref t2),some (.str z),some (.ref td),some (.ref M),some (.ref tt),v]) (fun T' qq=>?_) (fun hm=>?_) (fun _=>j0j ⟨s10,_,rfl⟩) ?_
 ·have hd10:=hd9.same s10;cases ho:outT n p j p' j' z with
  | inl x=>
   rw [ho] at hd10;obtain⟨nx,et⟩:=hd10;refine j0v j3a (j0o j0p (ev_v 5 (j0d ⟨td,_,_,.str x,rfl,rfl,SqT.of et,rfl,j04 ⟨rfl,_,rfl,?_⟩⟩)));rw [decide_eq_false (fun k:V.str x=V.str ""=>nx (V.str.inj k))];exact qq false (fun h=>nomatch h) fun _=>trivial
  | inr m=>
   rw [ho] at hd10;obtain⟨L,bs,et,_⟩:=hd10;refine j0v j3a (j0o j0p (ev_v 5 (j0d ⟨td,_,_,.str "",rfl,rfl,SqT.of et,rfl,j04 ⟨rfl,_,rfl,?_⟩⟩)));exact qq _ (fun _=>⟨m,ho⟩) fun _=>trivial
 ·obtain⟨m,hm⟩:=hm;rw [hm] at ha;obtain⟨L,bs,et,hL,nL,fL,sm⟩:=ha;have lb:=hL.len;have mem2:∀ x∈bs,∃ p zs,H10 x.1=some (.tup [.str p,.ref x.2])/\H10 x.2=some (Ls zs)/\zs.length<=5000:=fun x hx=>by
   obtain⟨i,hi⟩:=Bc hx;have hl:=(Ab.mp hi).1;have h2:=Ac (l:=m) (i:=i) (by omega);obtain⟨q1,q2⟩:=hL.tup i x _ hi h2;exact⟨_,_,q1,q2,sm.2 _ (An h2)⟩
  refine j13 (j0o j0p (ev_v 7 (j0d ⟨tt,_,_,.ref L,rfl,rfl,SqT.of et,rfl,L,rfl,⟨_,SqL.of hL.lst⟩,j1o (xs:=bs.map fun a=>V.ref a.1) (fun i σ' H'=>(∃ v,σ'=[some (.ref a),some (.ref R),some (.ref t1),some (.ref t2),some (.str z),some (.ref td),some (.ref M),some (.ref tt),v])/\Same H9 H'/\(∀ b o,b∉bs.map (·.2)->H10 b=some o->H' b=some o)/\∀ x∈bs,∃ zs,H' x.2=some (Ls zs)/\zs.length<=5000+i) ⟨⟨_,rfl⟩,s10,fun b o _ h=>h,fun x hx=>?_⟩ ?_ ?_ ?_⟩)))
  ·obtain⟨p,zs,_,h2,h3⟩:=mem2 x hx;exact⟨zs,h2,by omega⟩
  ·rintro i σ' H' _ ⟨_,_,kb,_⟩;refine SqL.of (kb _ _ (fun k=>?_) hL.lst);obtain⟨x,hx,e⟩:=Am.mp k;obtain⟨p,zs,_,h2,_⟩:=mem2 x hx;rw [e,hL.lst] at h2;have h2:=HO.lst.inj (Option.some.inj h2);cases bs with
   | nil=>exact nomatch hx
   | cons y ys=>
    cases zs with
    | nil=>exact nomatch h2
    | cons z zs=>exact nomatch (List.cons.inj h2).1
  ·rintro i x σ' H' hx ⟨⟨v,rfl⟩,sB,kb,hb⟩;rw [Ae,Ar] at hx;obtain⟨x,hx,rfl⟩:=hx;have hil:i < bs.length:=(Ab.mp hx).1;have mx:=An hx;obtain⟨p,_,ex1,_,_⟩:=mem2 x mx;obtain⟨zs,ez,lz⟩:=hb x mx;have ex':=kb _ _ (fun k=>by
    obtain⟨y,hy,e⟩:=Am.mp k;obtain⟨p',zs',_,h2,_⟩:=mem2 y hy;rw [e,ex1] at h2;cases h2) ex1
   have lm:=sm.1;refine j0n 8 nd ?_;refine j0z (j1r (j0o j0p (ev_v 8 (j0d ⟨x.1,_,_,.ref x.2,rfl,rfl,SqT.of ex',rfl,x.2,rfl,⟨_,ez⟩,j04 ⟨_,ez,?_,j0j ⟨⟨_,rfl⟩,j1h sB (fL x mx).2,fun b o nb h=>?_,fun y hy=>?_⟩⟩⟩))))
   ·rw [Aa];exact j03 (by omega)
   ·rw [j0e (fun e=>nb (by rw [e];exact Am.mpr ⟨x,mx,rfl⟩))];exact kb b o nb h
   ·by_cases e:y.2=x.2
    ·rw [e,j0b];refine⟨zs++[("x" : Str)],by show _=some (HO.lst (List.map V.str (zs++[("x" : Str)])));rw [Al];rfl,?_⟩;rw [Af];show zs.length+1<=_;omega
    ·rw [j0e e];obtain⟨ys,h1,h2⟩:=hb y hy;exact⟨ys,h1,by omega⟩
  ·rintro σ' H' ⟨⟨v,rfl⟩,sB,kb,hb⟩;have notin:∀(b:Addr) (o:HO),H10 b=some o->(∀ zs,o≠Ls zs)->b∉bs.map (·.2):=fun b o h1 h2 k=>by
    obtain⟨x,hx,e⟩:=Am.mp k;obtain⟨p,zs,_,h3,_⟩:=mem2 x hx;rw [e,h1] at h3;exact h2 zs (Option.some.inj h3)
   have et':=kb _ _ (notin _ _ et fun zs k=>nomatch k) et;have eL:∃ xs,H' L=some (.lst xs)/\xs.length < sizeLine:=by
    by_cases k:L∈bs.map (·.2)
    ·obtain⟨x,hx,e⟩:=Am.mp k;obtain⟨zs,h1,h2⟩:=hb x hx;have lm:=sm.1;rw [e] at h1;exact⟨_,h1,by rw [Aa] at h2 ⊢;exact j03 (by omega)⟩
    ·have lm:=sm.1;exact⟨_,kb _ _ k hL.lst,by rw [Aa];exact j03 (by omega)⟩
   obtain⟨xs,eL,lx⟩:=eL;refine j0z (j1r (j0o j0p (ev_v 7 (j0d ⟨tt,_,_,.ref L,rfl,rfl,SqT.of et',rfl,L,rfl,⟨_,eL⟩,j1b (j0a (j04 (j0a (j1f (j0c ⟨(by show 0<=sizeLine;decide),fun p hp=>j0c ⟨(by show 2<=sizeLine;decide),fun p2 hp2=>⟨xs,?_,lx,j0j ⟨?_,_,rfl⟩⟩⟩⟩)))))⟩))))
   ·exact(j0g hp2 _) _ _ ((j0g hp _) _ _ eL)
   ·exact j1h (sB.trans ((j0g hp _).trans (j0g hp2 _))) nL
 rintro σ' H11 ⟨s11,v,rfl⟩;have hM11:=hM.same s11;refine j0l (k29 (j0s GM hr (j0a (j0s GA hr (j0a (ev_v 6 (j0a (ev_v 2 (j0a (ev_v 3 (j0a (ev_v 4 (j0c ⟨M,t1,t2,cs,n,p,p',j,j',z,rfl,hM11,hl,s11 _ _ ((s8.trans s9) _ _ et7),s11 _ _ ((s8.trans s9) _ _ eu7),by omega,fun tq H12 s12 n12 ha2=>?_⟩)))))))))))));refine j0a (ev_v 5 (j0c ⟨tq,td,H11,H7,_,rfl,ha2,hd9.same (s11.trans s12),true,rfl,iteT (j6i (j33 (k0u un) (ev_v 6 (ev_v 1 ⟨3,true,by decide,k6o (hM11.same s12) ((hR9.same s11).same s12),q _⟩))))⟩))
end
end J0
namespace J0
open PySem L2
theorem all_mk{l:PySem.W.OpenLaw}{w:World}{K:PySem.W.Frag}{h:Heap}{mg:Str->Option Value}{fa:Addr}(X:K.In h)(G:h.Ns mainGlobals mg)(hfa:mg "law" = some (.ref fa))
  (h1:Df K "ends_round" k7t) (h2:Df K "ends_in_order" k03) (h3:Df K "turned_left" q01) (h4:Df K "other_ends" j99) (h5:Df K "left_steps" sLS) (h6:Df K "faces_of" k4p) (h7:Df K "face_from" k42) (h8:Df K "is_name" j27) (h9:Df K "ties_of" j4l) (h10:Df K "ends_of" j6e) (h11:Df K "tied" k38) (h12:Df K "with_ends" j1x) (h13:Df K "put_in" j77) (h14:Df K "need_corner" j2y) (h15:Df K "need_one_face" j10) (h16:Df K "need_free_name" j2c) (h17:Df K "need_room" j39) (h18:Df K "_law_cell_at" q0r) (h19:Df K "_law_big" sBig) (h20:Df K "_law_names" k4o) (h21:Df K "_law_seats" k5f) (h22:Df K "_law_other" k5a) (h23:Df K "_law_step" q0k) (h24:Df K "_law_face" q00) (h25:Df K "_law_put" sPut) (h26:Df K "_law_net_by" sNet) (h27:Df K "_law_copy" k7f) (h28:Df K "_law_ties" j71) (h29:Df K "_law_which" j4h) (h30:Df K "_law_same" j76) (h31:Df K "_law_corner_by" j2z) (h32:Df K "_law_spot" j7g) (h33:Df K "_law_one_face" j29) (h34:Df K "_law_name_by" j4a) (h35:Df K "_law_is_good" j35) (h36:Df K "_law_full" j5i) (h37:Df K "_law_rows_by" j36) (h38:Df K "_law_met" j95) (h39:Df K "_law_due_tied" j1q) (h40:Df K "_law_asked" j5y) (h41:Df K "_law_second" j3r) (hl:Df K "law" sLaw)
  {tk1 tk2 tk3:Tok} (s1:PySem.W.nsIn K mainGlobals "SIGNS" = some (some (.str Nt.lets tk1))) (s2:PySem.W.nsIn K mainGlobals "LONGEST" = some (some (.int 8 tk2))) (s3:PySem.W.nsIn K mainGlobals "MOST_TIES" = some (some (.int 40 tk3)))
  (qc:clB K=true)
  (z:∀ x∈(["isinstance","tuple","str","int","bool","list","dict","set","enumerate","zip","len","range","sorted","max","all","ValueError","any"]:List Str),PySem.W.nsIn K mainGlobals x=some none) :
  ∃ fd:FuncData,(∀(s:Shared) (v:Value),BindsTo s fd ⟨[v],[]⟩ [("_law_script",v)])/\∀ base:Heap,K.In base->base.Ns mainGlobals mg->FnOk l.prog w K mg base CX0 9 fa fd ["_law_script"] (k60 K):=by
 have T:Txt mg:=⟨PySem.W.mg_none_of X G (z _ (by simp)),PySem.W.mg_none_of X G (z _ (by simp)),PySem.W.mg_none_of X G (z _ (by simp)),PySem.W.mg_none_of X G (z _ (by simp)),PySem.W.mg_none_of X G (z _ (by simp)),PySem.W.mg_none_of X G (z _ (by simp)),PySem.W.mg_none_of X G (z _ (by simp)),PySem.W.mg_none_of X G (z _ (by simp)),PySem.W.mg_none_of X G (z _ (by simp)),PySem.W.mg_none_of X G (z _ (by simp)),PySem.W.mg_none_of X G (z _ (by simp)),PySem.W.mg_none_of X G (z _ (by simp)),PySem.W.mg_none_of X G (z _ (by simp)),PySem.W.mg_none_of X G (z _ (by simp)),PySem.W.mg_none_of X G (z _ (by simp)),PySem.W.mg_none_of X G (z _ (by simp)),PySem.W.mg_none_of X G (z _ (by simp)),⟨_,PySem.W.mg_of X G s1,_,rfl⟩,⟨_,PySem.W.mg_of X G s2,_,rfl⟩,⟨_,PySem.W.mg_of X G s3,_,rfl⟩⟩;have cl:=q5t X G qc;refine hl.law X G hfa (fun _ _ _ _ _ _ s v=> .of_eq rfl) fun base f fd F=>?_;have G1:Has l.prog w K mg base 1 "ends_round" ["row"] k0q:=h1.has X G (fun _ _ _ _ _ _=>bd1 fun _=>rfl) fun F=>k9s F T;have G2:Has l.prog w K mg base 2 "ends_in_order" ["rows"] k0p:=h2.has X G (fun _ _ _ _ _ _=>bd1 fun _=>rfl) fun F=>k55 F T (G1.mono (by decide));have G3:Has l.prog w K mg base 1 "turned_left" ["end","many"] (spTL fun j=>j+1):=h3.has X G (fun _ _ _ _ _ _=>bd2 fun _ _=>rfl) fun F=>q0w F T;have G4:Has l.prog w K mg base 2 "other_ends" ["rows"] spOE:=h4.has X G (fun _ _ _ _ _ _=>bd1 fun _=>rfl) fun F=>q4y F T (G1.mono (by decide));have G5:Has l.prog w K mg base 3 "left_steps" ["rows"] (spLS 1):=h5.has X G (fun _ _ _ _ _ _=>bd1 fun _=>rfl) fun F=>q5f F T (G4.mono (by decide)) (G3.mono (by decide));have G7:Has l.prog w K mg base 1 "face_from" ["steps","first"] spFF:=h7.has X G (fun _ _ _ _ _ _=>bd2 fun _ _=>rfl) fun F=>q4q F T;have G6:Has l.prog w K mg base 4 "faces_of" ["rows"] j9t:=h6.has X G (fun _ _ _ _ _ _=>bd1 fun _=>rfl) fun F=>k6r F T (G2.mono (by decide)) (G5.mono (by decide)) (G7.mono (by decide));have G8:Has l.prog w K mg base 1 "is_name" ["thing"] (spIs K):=h8.has X G (fun _ _ _ _ _ _=>bd1 fun _=>rfl) fun F=>q4z F T;have G9:Has l.prog w K mg base 1 "ties_of" ["rows"] spTs:=h9.has X G (fun _ _ _ _ _ _=>bd1 fun _=>rfl) fun F=>q02 F T;have G10:Has l.prog w K mg base 3 "ends_of" ["rows"] k0p:=h10.has X G (fun _ _ _ _ _ _=>bd1 fun _=>rfl) fun F=>q23 F T (G2.mono (by decide));have G13:Has l.prog w K mg base 1 "put_in" ["ties","places","tie"] spPI:=h13.has X G (fun _ _ _ _ _ _=>bd3 fun _ _ _=>rfl) fun F=>q5s F T;have G12:Has l.prog w K mg base 2 "with_ends" ["rows","corners","tie"] spWE:=h12.has X G (fun _ _ _ _ _ _=>bd3 fun _ _ _=>rfl) fun F=>q5c F T (G13.mono (by decide));have G14:HasX l.prog w K mg base 4 "need_corner" ["rows","corner"] (spNC (cAd K)):=h14.hasX X G (fun _ _ _ _ _ _=>bd2 fun _ _=>rfl) fun F=>q4o F T cl (G10.mono (by decide));have G15:HasX l.prog w K mg base 5 "need_one_face" ["rows","one","other"] (spOF (cAd K)):=h15.hasX X G (fun _ _ _ _ _ _=>bd3 fun _ _ _=>rfl) fun F=>q4f F T cl (G6.mono (by decide));have G16:HasX l.prog w K mg base 2 "need_free_name" ["names","new"] (spNF (cAd K)):=h16.hasX X G (fun _ _ _ _ _ _=>bd2 fun _ _=>rfl) fun F=>q4n F T cl (G8.mono (by decide));have G17:HasX l.prog w K mg base 2 "need_room" ["rows"] (spNR (cAd K)):=h17.hasX X G (fun _ _ _ _ _ _=>bd1 fun _=>rfl) fun F=>q47 F T cl (G9.mono (by decide));have G11:HasX l.prog w K mg base 6 "tied" ["rows","one","other","tie"] (k4g (cAd K)):=h11.hasX X G (fun _ _ _ _ _ _=>bd4 fun _ _ _ _=>rfl) fun F=>q43 F T cl (G14.mono (by decide)) (G15.mono (by decide)) (G16.mono (by decide)) (G17.mono (by decide)) (G9.mono (by decide)) (G12.mono (by decide));have G18:Has l.prog w K mg base 1 "_law_cell_at" ["_law_script","_law_k"] (k1h K):=h18.has X G (fun _ _ _ _ _ _=>bd2 fun _ _=>rfl) fun F=>k97 F T;have G19:Has l.prog w K mg base 2 "_law_big" ["_law_script","_law_at"] (k71 K):=h19.has X G (fun _ _ _ _ _ _=>bd2 fun _ _=>rfl) fun F=>q16 F T (G18.mono (by decide));have G20:Has l.prog w K mg base 1 "_law_names" ["_law_stem","_law_many"] j91:=h20.has X G (fun _ _ _ _ _ _=>bd2 fun _ _=>rfl) fun F=>k77 F T;have G21:Has l.prog w K mg base 1 "_law_seats" ["_law_rows"] j6a:=h21.has X G (fun _ _ _ _ _ _=>bd1 fun _=>rfl) fun F=>k58 F T;have G22:Has l.prog w K mg base 1 "_law_other" ["_law_rows","_law_seats_here","_law_end"] k0i:=h22.has X G (fun _ _ _ _ _ _=>bd3 fun _ _ _=>rfl) fun F=>k6g F T;have G23:Has l.prog w K mg base 2 "_law_step" ["_law_rows","_law_seats_here","_law_end","_law_turn"] k2y:=h23.has X G (fun _ _ _ _ _ _=>bd4 fun _ _ _ _=>rfl) fun F=>q1l F T (G22.mono (by decide));have G24:Has l.prog w K mg base 3 "_law_face" ["_law_rows","_law_seats_here","_law_end"] j8h:=h24.has X G (fun _ _ _ _ _ _=>bd3 fun _ _ _=>rfl) fun F=>q0d F T (G23.mono (by decide));have G25:Has l.prog w K mg base 4 "_law_put" ["_law_rows","_law_big_here","_law_tie","_law_point"] q03:=h25.has X G (fun _ _ _ _ _ _=>bd4 fun _ _ _ _=>rfl) fun F=>q1v F T (G21.mono (by decide)) (G24.mono (by decide));have G26:Has l.prog w K mg base 5 "_law_net_by" ["_law_big_here","_law_most","_law_stem"] q1i:=h26.has X G (fun _ _ _ _ _ _=>bd3 fun _ _ _=>rfl) fun F=>q1w F T (G20.mono (by decide)) (G25.mono (by decide));have G27:Has l.prog w K mg base 1 "_law_copy" ["_law_rows"] k1j:=h27.has X G (fun _ _ _ _ _ _=>bd1 fun _=>rfl) fun F=>k99 F T;have G28:Has l.prog w K mg base 1 "_law_ties" ["_law_rows"] spTs:=h28.has X G (fun _ _ _ _ _ _=>bd1 fun _=>rfl) fun F=>k8b F T;have G29:HasH l.prog w K mg base 1 "_law_which" ["_law_e"] (k0h (cAd K)):=h29.hasH X G (fun _ _ _ _ _ _=>bd1 fun _=>rfl) fun F=>k50 F T cl;have G30:Has l.prog w K mg base 1 "_law_same" ["_law_told","_law_due"] k46:=h30.has X G (fun _ _ _ _ _ _=>bd2 fun _ _=>rfl) fun F=>k9y F T;have G31:Has l.prog w K mg base 1 "_law_corner_by" ["_law_rows","_law_big_here"] spCB:=h31.has X G (fun _ _ _ _ _ _=>bd2 fun _ _=>rfl) fun F=>q4h F T;have G32:Has l.prog w K mg base 1 "_law_spot" ["_law_rows","_law_corner"] k0z:=h32.has X G (fun _ _ _ _ _ _=>bd2 fun _ _=>rfl) fun F=>q0z F T;have G33:Has l.prog w K mg base 4 "_law_one_face" ["_law_rows","_law_one","_law_other_here"] q0u:=h33.has X G (fun _ _ _ _ _ _=>bd3 fun _ _ _=>rfl) fun F=>q2d F T (G21.mono (by decide)) (G24.mono (by decide));have G34:Has l.prog w K mg base 1 "_law_name_by" ["_law_names_here","_law_big_here"] k22:=h34.has X G (fun _ _ _ _ _ _=>bd2 fun _ _=>rfl) fun F=>k25 F T;have G35:Has l.prog w K mg base 1 "_law_is_good" ["_law_name"] spGd:=h35.has X G (fun _ _ _ _ _ _=>bd1 fun _=>rfl) fun F=>q5i F T;have G36:Has l.prog w K mg base 1 "_law_full" ["_law_stem"] q0i:=h36.has X G (fun _ _ _ _ _ _=>bd1 fun _=>rfl) fun F=>q1x F T;have G37:Has l.prog w K mg base 6 "_law_rows_by" ["_law_script","_law_most"] (spRB K):=h37.has X G (fun _ _ _ _ _ _=>bd2 fun _ _=>rfl) fun F=>q4u F T (G18.mono (by decide)) (G19.mono (by decide)) (G26.mono (by decide)) (G36.mono (by decide));have G38:Has l.prog w K mg base 2 "_law_met" ["_law_told","_law_due"] q0p:=h38.has X G (fun _ _ _ _ _ _=>bd2 fun _ _=>rfl) fun F=>q2b F T (G30.mono (by decide));have G39:Has l.prog w K mg base 5 "_law_due_tied" ["_law_rows","_law_one","_law_other_here","_law_tie"] j62:=h39.has X G (fun _ _ _ _ _ _=>bd4 fun _ _ _ _=>rfl) fun F=>q3c F T (G32.mono (by decide)) (G33.mono (by decide)) (G35.mono (by decide)) (G28.mono (by decide)) (G27.mono (by decide));have G40:Has l.prog w K mg base 7 "_law_asked" ["_law_rows","_law_one","_law_other_here","_law_tie"] j62:=h40.has X G (fun _ _ _ _ _ _=>bd4 fun _ _ _ _=>rfl) fun F=>k64 F T cl (G11.mono (by decide)) G29;have G41:Has l.prog w K mg base 4 "_law_second" ["_law_rows","_law_one","_law_big_here"] q0v:=h41.has X G (fun _ _ _ _ _ _=>bd3 fun _ _ _=>rfl) fun F=>q2y F T (G32.mono (by decide)) (G31.mono (by decide)) (G21.mono (by decide)) (G24.mono (by decide));exact q3s F T (G19.mono (by decide)) (G37.mono (by decide)) (G31.mono (by decide)) (G41.mono (by decide)) (G27.mono (by decide)) (G28.mono (by decide)) (G34.mono (by decide)) (G39.mono (by decide)) (G40.mono (by decide)) (G38.mono (by decide))
theorem walk{l:PySem.W.OpenLaw}{q:Program}{loose:List Str}{XP:(Str->Option Value)->Heap->Prop}{YP:World->Heap->Prop}{d:DefRec}{K:Params->PySem.W.Frag}(hn:l.most=some 63)(hdf:d.params.defaults=[])
  (hY:∀(w:World) (h:Heap),YP w h->(K w.params).In h)
  (F : ∀ (w : World) (mg : Str → Option Value) (fa : Addr) (h : Heap), (K w.params).In h → h.Ns mainGlobals mg → mg d.name = some (.ref fa) →
   ∃ fd:FuncData,(∀(s:Shared) (u:Value),BindsTo s fd ⟨[u],[]⟩ [("_law_script",u)])/\∀ base:Heap,(K w.params).In base->base.Ns mainGlobals mg->FnOk l.prog w (K w.params) mg base CX0 9 fa fd ["_law_script"] (k60 (K w.params))) :
  PySem.W.WalkO q loose XP YP l.row.toRowW d [] (fun f vs=>PySem.call f vs):=
 L2.walk_of (n:=63) (k:=9) (x:= "_law_script") (CX:=fun _=>CX0) (sp:=fun w=>k60 (K w.params)) hn (by decide) hdf ⟨rfl,by decide,by decide⟩ hY F (fun _ _ a ns hl _ hS=>⟨a,ns,rfl,hS,hl,fun _=>rfl⟩) fun _ _ _ _ _ z=>z
end J0
-- taken names: the head leaves its twins of these out, so that the compiled file stays small (NOTE.md)
namespace PySem.W.Fast
def tw7925924493243936546:Unit:=()
def tw7810618589445391233:Unit:=()
def tw6215043686879968684:Unit:=()
def tw2207805923397140175:Unit:=()
def tw4799478317590067951:Unit:=()
def tw13413682448304654333:Unit:=()
def tw7988931882349596636:Unit:=()
def tw13521988719949120933:Unit:=()
def tw6386572416383161322:Unit:=()
def tw16451251281974167462:Unit:=()
def tw17617191396379689164:Unit:=()
def tw5665917489629041017:Unit:=()
def tw4357386663512156989:Unit:=()
def tw5595393898225251267:Unit:=()
def tw7965693559041442846:Unit:=()
def tw2185180453021605330:Unit:=()
def tw1682305015219917224:Unit:=()
def tw12241664722787101619:Unit:=()
def tw11675805296553997921:Unit:=()
def tw1749916658998879731:Unit:=()
def tw6378321271390903193:Unit:=()
def tw10707065428062930748:Unit:=()
def tw8780653894205181037:Unit:=()
def tw15170891562766295297:Unit:=()
def tw2186149146169307421:Unit:=()
def tw16448244003463224837:Unit:=()
def tw7795615832077279148:Unit:=()
def tw15026478104536574764:Unit:=()
def tw1331849495762630558:Unit:=()
def tw16047883880594001886:Unit:=()
def tw4475774798047470532:Unit:=()
def tw7498561097768184530:Unit:=()
def tw15760822367464521439:Unit:=()
def tw6324268232799399837:Unit:=()
def tw11135594815064972631:Unit:=()
def tw10447174366908603488:Unit:=()
def tw6039301401877356024:Unit:=()
def tw17546395578541707107:Unit:=()
def tw5800942464183289222:Unit:=()
def tw8628209046289627643:Unit:=()
def tw5666040843077920086:Unit:=()
def tw4317084763211075991:Unit:=()
def tw10822893916020902350:Unit:=()
def tw5577627434347940934:Unit:=()
end PySem.W.Fast
open PySem PySem.W PyProof.Rows
set_option maxRecDepth 100000 in
set_option maxHeartbeats 0 in
theorem PySem.Challenge.cw_threewebs_k70_ties_put_in_holds : PySem.Challenge.rw_threewebs_k70_ties_put_in.Holds := by
 w_on;o_law;k_head;(case hw=>w_witness2)
 k_fill
 refine J0.walk (l:=PySem.Challenge.rw_threewebs_k70_ties_put_in) rfl rfl (fun w h Y=>PySem.W.kIn_of Y) ?F
 case F=>
  intro w mg fa h KX G hmg;refine' J0.all_mk KX G hmg ?h1 ?h2 ?h3 ?h4 ?h5 ?h6 ?h7 ?h8 ?h9 ?h10 ?h11 ?h12 ?h13 ?h14 ?h15 ?h16 ?h17 ?h18 ?h19 ?h20 ?h21 ?h22 ?h23 ?h24 ?h25 ?h26 ?h27 ?h28 ?h29 ?h30 ?h31 ?h32 ?h33 ?h34 ?h35 ?h36 ?h37 ?h38 ?h39 ?h40 ?h41 ?h0 ?s1 ?s2 ?s3 ?qc ?zz
  case h1=>refine' L2.df_mk ?a ?l ?c ?k;(case a=>k_is);(case l=>k_is);(case c=>k_is);(case k=>k_is)
  case h2=>refine' L2.df_mk ?a ?l ?c ?k;(case a=>k_is);(case l=>k_is);(case c=>k_is);(case k=>k_is)
  case h3=>refine' L2.df_mk ?a ?l ?c ?k;(case a=>k_is);(case l=>k_is);(case c=>k_is);(case k=>k_is)
  case h4=>refine' L2.df_mk ?a ?l ?c ?k;(case a=>k_is);(case l=>k_is);(case c=>k_is);(case k=>k_is)
  case h5=>refine' L2.df_mk ?a ?l ?c ?k;(case a=>k_is);(case l=>k_is);(case c=>k_is);(case k=>k_is)
  case h6=>refine' L2.df_mk ?a ?l ?c ?k;(case a=>k_is);(case l=>k_is);(case c=>k_is);(case k=>k_is)
  case h7=>refine' L2.df_mk ?a ?l ?c ?k;(case a=>k_is);(case l=>k_is);(case c=>k_is);(case k=>k_is)
  case h8=>refine' L2.df_mk ?a ?l ?c ?k;(case a=>k_is);(case l=>k_is);(case c=>k_is);(case k=>k_is)
  case h9=>refine' L2.df_mk ?a ?l ?c ?k;(case a=>k_is);(case l=>k_is);(case c=>k_is);(case k=>k_is)
  case h10=>refine' L2.df_mk ?a ?l ?c ?k;(case a=>k_is);(case l=>k_is);(case c=>k_is);(case k=>k_is)
  case h11=>refine' L2.df_mk ?a ?l ?c ?k;(case a=>k_is);(case l=>k_is);(case c=>k_is);(case k=>k_is)
  case h12=>refine' L2.df_mk ?a ?l ?c ?k;(case a=>k_is);(case l=>k_is);(case c=>k_is);(case k=>k_is)
  case h13=>refine' L2.df_mk ?a ?l ?c ?k;(case a=>k_is);(case l=>k_is);(case c=>k_is);(case k=>k_is)
  case h14=>refine' L2.df_mk ?a ?l ?c ?k;(case a=>k_is);(case l=>k_is);(case c=>k_is);(case k=>k_is)
  case h15=>refine' L2.df_mk ?a ?l ?c ?k;(case a=>k_is);(case l=>k_is);(case c=>k_is);(case k=>k_is)
  case h16=>refine' L2.df_mk ?a ?l ?c ?k;(case a=>k_is);(case l=>k_is);(case c=>k_is);(case k=>k_is)
  case h17=>refine' L2.df_mk ?a ?l ?c ?k;(case a=>k_is);(case l=>k_is);(case c=>k_is);(case k=>k_is)
  case h18=>refine' L2.df_mk ?a ?l ?c ?k;(case a=>k_is);(case l=>k_is);(case c=>k_is);(case k=>k_is)
  case h19=>refine' L2.df_mk ?a ?l ?c ?k;(case a=>k_is);(case l=>k_is);(case c=>k_is);(case k=>k_is)
  case h20=>refine' L2.df_mk ?a ?l ?c ?k;(case a=>k_is);(case l=>k_is);(case c=>k_is);(case k=>k_is)
  case h21=>refine' L2.df_mk ?a ?l ?c ?k;(case a=>k_is);(case l=>k_is);(case c=>k_is);(case k=>k_is)
  case h22=>refine' L2.df_mk ?a ?l ?c ?k;(case a=>k_is);(case l=>k_is);(case c=>k_is);(case k=>k_is)
  case h23=>refine' L2.df_mk ?a ?l ?c ?k;(case a=>k_is);(case l=>k_is);(case c=>k_is);(case k=>k_is)
  case h24=>refine' L2.df_mk ?a ?l ?c ?k;(case a=>k_is);(case l=>k_is);(case c=>k_is);(case k=>k_is)
  case h25=>refine' L2.df_mk ?a ?l ?c ?k;(case a=>k_is);(case l=>k_is);(case c=>k_is);(case k=>k_is)
  case h26=>refine' L2.df_mk ?a ?l ?c ?k;(case a=>k_is);(case l=>k_is);(case c=>k_is);(case k=>k_is)
  case h27=>refine' L2.df_mk ?a ?l ?c ?k;(case a=>k_is);(case l=>k_is);(case c=>k_is);(case k=>k_is)
  case h28=>refine' L2.df_mk ?a ?l ?c ?k;(case a=>k_is);(case l=>k_is);(case c=>k_is);(case k=>k_is)
  case h29=>refine' L2.df_mk ?a ?l ?c ?k;(case a=>k_is);(case l=>k_is);(case c=>k_is);(case k=>k_is)
  case h30=>refine' L2.df_mk ?a ?l ?c ?k;(case a=>k_is);(case l=>k_is);(case c=>k_is);(case k=>k_is)
  case h31=>refine' L2.df_mk ?a ?l ?c ?k;(case a=>k_is);(case l=>k_is);(case c=>k_is);(case k=>k_is)
  case h32=>refine' L2.df_mk ?a ?l ?c ?k;(case a=>k_is);(case l=>k_is);(case c=>k_is);(case k=>k_is)
  case h33=>refine' L2.df_mk ?a ?l ?c ?k;(case a=>k_is);(case l=>k_is);(case c=>k_is);(case k=>k_is)
  case h34=>refine' L2.df_mk ?a ?l ?c ?k;(case a=>k_is);(case l=>k_is);(case c=>k_is);(case k=>k_is)
  case h35=>refine' L2.df_mk ?a ?l ?c ?k;(case a=>k_is);(case l=>k_is);(case c=>k_is);(case k=>k_is)
  case h36=>refine' L2.df_mk ?a ?l ?c ?k;(case a=>k_is);(case l=>k_is);(case c=>k_is);(case k=>k_is)
  case h37=>refine' L2.df_mk ?a ?l ?c ?k;(case a=>k_is);(case l=>k_is);(case c=>k_is);(case k=>k_is)
  case h38=>refine' L2.df_mk ?a ?l ?c ?k;(case a=>k_is);(case l=>k_is);(case c=>k_is);(case k=>k_is)
  case h39=>refine' L2.df_mk ?a ?l ?c ?k;(case a=>k_is);(case l=>k_is);(case c=>k_is);(case k=>k_is)
  case h40=>refine' L2.df_mk ?a ?l ?c ?k;(case a=>k_is);(case l=>k_is);(case c=>k_is);(case k=>k_is)
  case h41=>refine' L2.df_mk ?a ?l ?c ?k;(case a=>k_is);(case l=>k_is);(case c=>k_is);(case k=>k_is)
  case h0=>refine' L2.df_mk ?a ?l ?c ?k;(case a=>k_is);(case l=>k_is);(case c=>k_is);(case k=>k_is)
  case s1=>k_is
  case s2=>k_is
  case s3=>k_is
  case qc=>kernel_rfl
  case zz=>
   refine' Bj.mpr ⟨?_,?_⟩;k_is;refine' Bj.mpr ⟨?_,?_⟩;k_is;refine' Bj.mpr ⟨?_,?_⟩;k_is;refine' Bj.mpr ⟨?_,?_⟩;k_is;refine' Bj.mpr ⟨?_,?_⟩;k_is;refine' Bj.mpr ⟨?_,?_⟩;k_is;refine' Bj.mpr ⟨?_,?_⟩;k_is;refine' Bj.mpr ⟨?_,?_⟩;k_is;refine' Bj.mpr ⟨?_,?_⟩;k_is;refine' Bj.mpr ⟨?_,?_⟩;k_is;refine' Bj.mpr ⟨?_,?_⟩;k_is;refine' Bj.mpr ⟨?_,?_⟩;k_is;refine' Bj.mpr ⟨?_,?_⟩;k_is;refine' Bj.mpr ⟨?_,?_⟩;k_is;refine' Bj.mpr ⟨?_,?_⟩;k_is;refine' Bj.mpr ⟨?_,?_⟩;k_is;refine' Bj.mpr ⟨?_,?_⟩;k_is;exact fun x hx=>nomatch hx
